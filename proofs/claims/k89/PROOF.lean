import PyProof.Rows.All
import KE.KEqDat
import KE.KIntText
import KE.KIsAll
import KE.KItemsList
import KE.KPairComp
import PySem.Challenge.RW_manydeeds_k89_whole_two_desks_by_turns
set_option Elab.async false
set_option linter.all false
set_option maxRecDepth 100000
namespace PySem.W.Fast
set_option hygiene false
local macro_rules|`(command|#check $s:str)=>do
 let mut r:=#[]
 let mut n:=0
 let mut k:=0
 for c in s.getString.toList do
  n:=n*62+(c.toNat-(if c.toNat<58 then 48 else if c.toNat<91 then 55 else 61))
  k:=k+1
  if k%11==0 then
   let i:=Lean.mkIdent (.mkSimple s!"tw{n}")
   r:=r.push (←`(command|def $i:ident:=0))
   n:=0
 return Lean.mkNullNode (r.map (·.raw))
#check "3liEY95PmD75X6fsDDh4L9IsWV5Hx5bgiCAasd8MF7dHFBrCQfBbkOb4QUV51KPTacAFpxWpCQLqF8S9ojWGexe06U6VZhDej3b5juM8zvFXpvJWTldokFIe2K8AHz5fJtFqAiC7a6fTsoVKUrTQztyM7MK6erIg88vIX1IkUPIZDxsWI99Bn5btKP6FStGJorg6NR9jV8R0AD8Rs5LbixMeJVXC52AJknK3TWkBDrB8AvoqfEHw7KM4TMth24DtJBvlSFtlKqP1z5Ck6Fh3L12AdnQakdApje5SMa7sCIIm86BJklTIHMlVwZ1ZngrASS18iSICWI1v2b6CF0ZbpLqk8bGJA5KO8ftMIzcLfOwGuKIWsJV1LI0dTh8CZrYgtKSAObhEnUTEKnd3O2YPy2HH4fuzyliwTZ2ro3bGvKY130d3HNeLP6uI1Mb089f0GqW6vk8JDEPZPYGJKLP8MJcQjKg8Kn5ymlzdG5a56LasLwGDKe3HFFupomCIzYjq9oD8XIhYlWULeP2lACsUK1GS9C7JrgfmRr2L081GY9O9Or2R3Fz5s3Q8sOkD9FnwvXEi2GNJPTTTa80cj06cuMTxZjivtIG7pUVtx9VYEAlpVcNYO5RBKgKqDsy29o2RSuVG6x1LSAwyJQcFDtIKCdUfy2urilBDi3iP7kPGZ5A7hrYx05of90GYlcaDnxXqEwCkkIXYEsOB6NsxkL1GkyDgzHPynp1dxGJawNl3Lqw23wPtb8YRBWoGr6EiffVYDU8pNjiQmjih507w7pCunhzjB8jeEfQOgYeIecRgfZ3XFNLcrMV5ZJODwCMPDTauiGhaJ8RwOOYYSqeEUyPR3Q8WJ4L9f5xQzZ9CYE3WrD7irZhZDTeqlw2HWBjCkHTmSUMTPh3V1QHkxQJbcHfRXmQAcmxF63HBQZ6BFhN2wXc8YiosEyBnCPY3toUcdKiHtTAULWvk97TjIC05okfGIg5uPO6mNnC1hyD0LYZwmG4UIyZsb0zoI6JWclZxNgXDbxXrL58x2lB83q1Je3GMF0V1HxSOfPN47ERs3JsF3MM3zfwpfAKXcr87w6FhnsMR9Lqj5lEWfgpT4Rd9zdURWww9zFbwqg6O5iG3W7ihD2nePEKnqmNyFeZ3AmY4nvgDTY5IqaGNTvbMy81CRNZXhf9Qt5iC5ITdy7MP5CYAHK1Quh24YfZmY0bf0xCm8mDYxFxUKL3epce2BrOfJ6xh4HTKBmVBJ218WhjvE7It4DhcXFECM7BKr0Llyg8VFIwGxmBdIyA7nC94FHNlw6I046Ef40pjT6UvgMUX1sho3bak6vPrk4jFLQVPFDuBeGIkAsfJ91xgu4vyByEV5cd9JH05HaQ9VUd0jNnUg62pHV6imWvYRhxKJJA0whvGzBouC5zFY3sFlTa0pQZTxkyRWx7xAVG4Uo0uBFbBY1MFy9kbCAivkSu33V3DnynPxIwIkn4F65CsiSBqTLGIopRmx8oMKT9Frs5aFybD57wxVyvTxh0oYphKUQiPECcpjH55qo584Nq5zdboDJwKH4r0HbdNOYCJHxVSvVL5BG6zz2VopmdE1jwqYsna42t8ytg8UEQm6YBPHoSO3mB4j9YTZXzbmcoiHBYQ2kpTLRAFd4ulx6DOtVH6CobyljqkA4WKLZQilirb3BqZxuEckvJ3NAr466u1SfD0qVS3MX3RtJUkilP9m3W3Bn2Jel2bVeS8BIWioApiks1lfwCHLyj6zDwE93Y9OeUb3OiL0U2aiMU9RwrjxVJeAsLrxVyESyRFS5NksaJqmQFE6bcqox09coVGL7IoLWXLah1ej5LzNAkPBCRCnfbML1DBLvF5GFamX5ECFJSsxvvfOK2yZTKSHp7GF2iFYB6WnudqDyN9nOK9WRW9k3VW2XXgbiAMdetVX73YX4pmmucIcGBN4503DeitEt0A6OAkBMnYOL6LjvereCgfJ1rAWowIfShvJiQrBXQpNK03pTeEDNR707KhD9kc1ZSqt6tTmBMpt9Ww3VY2u6OJeqN40Ly3OOjqfjAHpwwjziORv0SLy0E4mpTrAZ368N3257B9ekUHlRHrSzC341Ox2MMuX6bpUFSal1ek4SECiCoNqeGLCuWKRTlsNR2J3gpme9c7d0PiA2HTXkHT3HkuXNhjjF7L1B7YgNiMfmAAMNAjAqcvRIW5elRUTFCBJbrusnTS1r3I2TXxuxiTMcDY0CpiVGfpD46if8C6COiRBkqTjMiGUy9DeUCsaioyVq21y8LO5xPl19YCI0Bq2MNf9HoYOY9ReJ36bpa36DyjEYKxut0gHuHkVCLP9o7Ks21ZHsvT851UHsu1ziIDKNtKCB4CuZp5oxKQk2r82OVYXI4yLs75rfF4UxlKJtaN6jBlmN3QQXgcGzhQmFsQFjyTZ9qG6Vv17qbBsdn5d1DcIFPzTy2UHZLLmtWAO1UoIiOJT5sv5YKBxlvWRva07kAlS6h0ZQEQ1HEtbxcuD3dhDdGiKYf6DNbHxuSxuKHLMUuJwc8DeMG0nNlw4MBRh2RDSQKXfhb14HbiXvHowWlEXPzKFdkcNIBt7SfezeJJQEue5nOsU5qf1CrmQJAzmkE8mM1J7Mtb5l3YjdkyxEWhV6QewMTELA8JDJisoNE5Ytz61LoGA4O1MXCVfSXPWCSrkLUIP0lUL7MyF69Tp8gAJ9fFETumJwWPu11IXt9mFqK3N4OQkkP2CudD6l7oZQiSyvi7lNj3U6HYJYGzqdf5ThM0b2IMZZ7TmHs5BzsTI2XsPcKDetlSyjW2DT8zmrsejNGncB3fTghZSBlG7MFYC5YZuMtLmcK3sVXIN23uXMTdUxqiR3RqU0uxiZtMBARCPAvaA4fD2Mg2yLvD5Q4gETXdlJweCKo95eiFELt65NzyKNpFAqVFl3ZHgzgTWlCgEW3CO3M0p2dw7uYbmh5FGwZm6n71YJgA1wpMvRYoS95nS0dKIbEunAPZ5NvgCA6G8jhd0jCAI0QKHtveocZjFtLkau95FpRaV7YZaaWhFF636adST5IYUjzJiZWdzieW3cICG8De6I7Qg5Rs2jM625lOEsgLGfQYiu0GagihdsnnFSHZT3bOFkeQ92nDVrlw3IngIE0xpfZiZMmCqxplUap1VGDim4ATg7nMK9pPvrQ1OgYdDkrlsNtLF1k2wgeMrE9pwrBVwNtpMZzjh5LjXOQnBlLA4sKkbQVhh8kHea3LOl42MEBkyd6wAvnoCInPSgW8DfOXG22JhIr4qHM4d8DEwqctDg3L1fSrjqAhuCjI3P3lt2mtAqQ4nA4JC5yCp1E8UtpiuDHq2b7Y7Q4mIL346rVpEVJ57T5QLfjFAHRC7Rl5vIGu4979AHHhl4Ws1GoX5Vdg6C6o9oCj0Hf6oLGJECgqA86b8vInZA0bKejiRFlRe6vBb4w21c4kHgAgX5R4n0wYTE6EyBHTuEHiSdASR5Z8zGPVLv6d7Yt4kWOpTNf1po07GwRUgoD26Q5IzNdmnAloBPhI3bD3FP1uxlqqkzbAX9Rnpd5wU5HBHV63O5YzG5tb0ucown4k2Wq1DaQh9nd8FcObszhC7TJgYydo65Mns4Hh9dq9M1YT4M9w4RgETW2EbqwVrUsKwOAq4Pjk4mU3W3CIspSwr4o6KHSs28sAcG38eS96leUewf2xGoPWeHqq89RF1KuRzvlPK4zRVBBdJq9IjRAA2tGtwE98wdRX7u6SNExyLsMD9oK6Li4D2K5gi6L5UtgGXQe0L8JLxFiVGkuO0Kvj6RVOiyrtDWKeUxOO4TCB0YCSZg9BPz86HrR0BwM9kBWlcniPuFeY24y0SBsQcIoH2oElsLt8bDLr5rXNvaQxn08xxoQ8kzip9Drrxh4h6UvD4nJCGNjJMh9H6s7dxmlAlJSkfZiBS8t4AxFjWtTWupbLVZBRqdcQZWB2aeGBz5F219qvLt3G0WJ399Wlgy2SAXfFKbykweqkJg4fv99lqQmX7FZXnFCQ8R1gJgofHnUf3TjJOf0Q3lWInRFsGYbDrdJh9AXXKr1Etf3PAGjWDl7H4ge84SqqWkg5Cw6pKRiG2C5KX4tat0rGXP5l4Gfszx8ZGxn1PsrbzptHKLJTVswXOdKtYHP44ZHIImbBJYj9neHZvK7BtI46Wo3g2dG6WVV4GYMfxGXA32wAyvzyBdivbDQAkkxAseWuSBcBnUHSM5vqYcjg46VAZauvozTeBdyxfZzlgiw9jeySCaLcqt80Mwc89nGeJGFMqAqwpfkGLVOlQMfMNK54MNSXOPaljrDSvk0dKQC631cDy4iCsC9OHVdFOU2Kln3L7HDqZqDfS2JjPWDykHja7L60htcVGEY0Kv7KgUhhOZnF1kWwI1R5G5EOL2GmZr7nMA3v7ifkklV9576BPxS1qJX1hsOj9sMHrX9vxUcEgvsCO2XtToOyffcM0gb6ZTDLKWnIsevG9NiJUS5tJpRLf34OW5byEFI09sIb4XnYlPVh2MYKvJiT3hJKSZ5Yv06sMvY73A7mn7gVwMBY5yftd67a0q16VQYNfiLxASFH90W658rwrJR4lYEBCMwbHk2Ddj7xw8bAdlensLrkQg8qtwXlBG96U3dJ8K1PrdfX2Y1iCbUtmYc0paiTFF96jVLEAsmBOVVQ1F6oEPLKyuyY9D3PsbWrQDAFOkxSEJYqua1FBtjqNiJyN3iIH7UtIQB2LYZKwn1bjHg5jrffxzjUvt5qzc9uDlyLoLrM39AdxdneG9o2AcN4paI4pe1XLlSwYqB0nmRmpUEs1HhvJLWkytnvIN1pxlpkppGAilAwppDuw20OB8WyYKGG363PVjdrMBJeL8shYlYmGhmHUl7xIkL4AzKN6GaU5dycc4ePlgvFuc6bFWKBiTtrv2GLbHeDNpWRr9HsntBaOOSPZ0cLfASdZp162XSLpELpcEoKR6HzJSrBymJuewK1YjjnHAsJjbkL2wmN7TMjZKizo5S0zEXoR7aA541CqcnnGaF4eJ7WDePPzKs0Imx483VqYnF8hFjWYdojNi6t1IQZYLpUH1q9DxdYQGG952HRAJxaIFI7xTafyU1BF73nYOgZnt7rx1TuLuNH5Uar0K5iNtQOhcx09ZyAa5WJLWJg5OHNZ782MH91eup2kkr3Gb7mfCFWA02FDBrN7pG0CVDqIsTpdzjFi7bzy8ojN89X5ZcDFP0qFtkFjaow86NhL3FCCEwHwvTOf8ujPvcEiFIZ1RkQwieFcst8T2WFxlRb8p4Jk1S3gKupdHVMh7xmp4PADVEJv4wNzgVFM0wToixhBk3K8uRxBS27f925E50KDsUeEy8C71upxcoBWPmmAzn5Ro2uOqak9JNB3JS7vydF0atx5kxrNM9lo330NPY4OJP96CCN0jlcodaSCHCtPYFVvqUiFgHrSQKa5z05NmI9Cnuy442M9SMW24MiSK0JISx4Jr1nLxRZW0fqeGYFD2tu7fS73g89C5sQa5AaZ34loy9B3RDq0dEbpQjuewS7KPKJVB0uluJTAwFe8BFjLC0eokp8GS6d94tXrXgVYtJKPcxTmjxRSdIkmm1wbRnzA6S2QFlAmOty4iC751PjyiL2Tqpibcnr931MIcKzfljUz2qPb0Bp67CU2lraPTKjNBAJP7XjbdZEOIDOcfP7tqVGZ8AR1Wkj8d1Z7KADHSgoIgx7CCbE483WTN1WAZ8xLQVi6J72eqaTyz00CUWTQLISVP848306ctlrcU373IFFn37TZ7JZIgzti2GJKoyLIydCOyhIesALDKseBsHMScVKNwQFdD2AIQCJZhRq6WYGGA9jS9R4C8iYEv7vEg35KLqQtyfmvEpNAdBTlNhqBpVN10n0ACv6XMgx1lBcJO3rjHguLxWY80O4JqUp2qwpLiaM5vmmhQlKHRxbCzy36aBxKnSGeoY7VA6ISPsSD52s9iy9qsZetwW5WrvxIPi1Q71s1cFIGVehG0Zo3SSPiDuo04mEwPCiuRWFLnpntQJZtP6pnBPj9dhHGKi5CzvtWHJjEd5wc1gVLem8llpaWi9eas0M05fpkBl20CqppHQDsLcQAZfbs6wpjXt4rnj7mGjmIv9uwiKT0cglL6MLaD5SeAkB1XtwYlcLToLLHhnPcxsDbzELN8AQcOyIICMTcLXIqGa768PZFKZ9o5V3GJBSfc6CauHxSvwusXYzwKx18a7VKWHtCrmekFKQdVw7fc52hOKSrY7Q6HpkVVQQ6BN5ferLghodJiybLT4IM3nF8NETSWY8inDJRHym72M0ZDesXCiOJneC5NxMBeBttUgD0sVOyuUO142hLOlBGcqXgJg4ypoOcXyxJY1tQ1I2bVXBgDt0As10Na76lJzYOKu2FHe2D28asQhQJXiDhdP0YDcGbOt0hWqwbtFCf0NY8GCyRC8LtjYJNv7y7taNrvEgynVAXzDdlK9MZBA4OnlSPnmy48iPFQ9V00cCDKDbztzxbKT5WbdXW7vBTJ2Fxnpx0BOgl6ZFRdBa5K7mBxCUaz9PRho8O0PMjVYff19MqCGoJ3THBJg76Rrgz4wS3dKQOESCC0WE8dcsdwQVaEK732fYVmy19F1fhpIhPB3cD9nsmlGQXPACELbumoo5EW5C8zHyFu1M39R1igP2InHX73BSk3Hkca30Lxbs23RrzH6JyCKeznF2OF5O6DXLpkG9EIaRpHiVIx96U0PACPVfYF5xQJXw2sq0w0cb3VP86LSZCBbLrbE5MNw9163iD2RCo48U1x53GtuRmJxPMVc3aByv4tACW61Qp57HyH7e3apV9xDfLqtHfXVaRIjyQpRMLBISJI25wTIc9TOJGQS4f7asOXBOkMJmbiEJUActVXHfW9pk4Uupv8Wv3yDBvhCEZV5fJv0WT3FKAIHay8GiAjFGKFRQ5gPt7Evmieg1qr86f52fO10SCfVO3YoiN7Ax2jV42bhy1qAX2Z39U3T5bFZ4ov2jMgL6ZmkvldhMOD0I6ZOkdYsY0LCdsASCKnbCFfLG8RkEPb84it0i9DcVi4eCgo0rihuY8xdjPGwbv4OKbMbPVc2NNnJ26f2QzNzx5IqGlrI2QeYVG24XX8dqkOCAXIdgLlDyIUAXFP0Rfgi4D9iWEHlWaaMuLJ7wbxRpXgXKJdePhMJ7u5ER8EkVyTzzqAGXeV6ViRNXHrUpRZjcMFG2z9eUpYadDy8SrdcSvBgq333ElJzXBZcWG7u1KJE0kB28hHocc3LOvEF4OMUuxlBbgC1uLcRV7ZkO42FZgG4iGZj1KP19aemnmH9cNlVnSZoRRIEIXWdcxVG6G3CWFJN9wQ27LE0DBk9ZM45UFqSzE0fUy2vNVfFobm1UCRLZtHxQpi1LfDtdiytigEJVNhq6ZghfIIo3hKfkvdhkDjwdWUvPIL3Cj78VEvnwUcBCZgQ0CLEYdB3taE48Fxmp8yxqyQz3YwY6EPmfa9uBrS5ZPmhX7b7283mVZHWsETrJ32YLXc1lAjj2GTFQ9Vfp4W25PdryMrEZe8yWjlaSE4itB3yqa3hnvTi4tsxcxz1WAs3V6mXFaEw9KJhBZQ1zTHJeCkn8maYrDL5CKrv2bDyypIBnb2RGEZJ3yBNzl9g8rOQBAWFQa0NV8FTAVro3qCK9zN8o0EuXXehHm7iBDjcoglAt5jKzFwHFble3updyRupxc5LVUP18ZBseEIZUt00mG588JFQDjJE1wBoEkYLPinnrVHEaytsdRBmjh8tpr79FBh6y4ULiI6OYvpOLoOli3YPYbMHaxkoi72ZuLAizXh6b0D0ZDGPh34ofawH1tSRZOhFMSC7wWi6DkhWq8F1lWSZkJQUu5G8PCxwPQpgEsfc2vDeLfLFXjpzIejSBBCZgao0DBvoU6xxKJchk7boHGMacnnmcdkGut0LKgCRrYGHKtllIR2bTFOfDajACsMtDEVrptzDMDTBepuFX397syAmkWMZfrFcYAVdRpW74Hkw9XHi5dVufzY3Chtgr0rJJp2Yz4wNO4QKXJM367fPAEvVHtAdp1UPjAXGXs6HvnKgKwG7ZUFiZItITCep5iJFPiLaAZ1uNAsdGdO8tZL1rsPRnv89cXa6FUjGC6mOztmVkTlc6bWwMmPRCoA6RLCpHRPDvD4reDyHMkDkV2OMoXKD5qNv1jQzUQERsSc"
end PySem.W.Fast
section
open PySem PySem.W PyProof.Rows
set_option maxHeartbeats 0 in
open_top Qh for PySem.Challenge.rw_manydeeds_k89_whole_two_desks_by_turns
end
abbrev ξ:=List (List PySem.Str)
abbrev ζ:=List PySem.Addr
abbrev τ:=Array PySem.Value
abbrev μ:=List PySem.Expr
abbrev δ:=PySem.Addr
abbrev ε:=PySem.Value
abbrev χ:=PySem.Shared
abbrev ω:=PySem.Program
abbrev EV:=PySem.Value->PySem.Shared->Prop
abbrev PL:=List (PySem.Addr×PySem.Obj)
abbrev LU:=List PySem.Value
abbrev OU:=Option PySem.Value
abbrev LN:=List Nat
def Ja:=@PySem.wpAny_bind
def Jb:=@decide_eq_true
def Jc:=@decide_eq_false
def Jd:=@PySem.wpAny_pure
def Je:=@of_decide_eq_true
def Jf:=@PySem.wpAny_mono
def Jg:=@PySem.wpAny_field
def Jh:=@PySem.wpAny_truthy_bool
def Ji:=@PySem.wpAny_loadPart_at
def Jj:=@PySem.wpAny_holding
set_option hygiene false
local macro_rules|`(tactic|rfl')=>`(tactic|decide +kernel)
local macro_rules|`(tactic|ac_rfl)=>`(tactic|intro π s σ H Q I h)
local macro_rules|`(tactic|exfalso)=>`(tactic|intro π s σ H x y v u Q I rx ry h)
abbrev RS:=List (PySem.Str×List PySem.Str)
abbrev LS:=List PySem.Str
abbrev Fg:=PySem.W.Frag
def Ya:=@List.length_map
def Yb:=@PySem.Heap.get?_push_of_some
def Yc:=@List.mem_singleton
def Yd:=@List.mem_of_getElem?
def Ye:=@Nat.le_refl
def Yf:=@PySem.Heap.lt_size
def Yg:=@List.mem_map
def Yh:=@PySem.Heap.get?_push_size
def Yi:=@List.getElem?_eq_getElem
def Yj:=@List.mem_cons_self
def Yk:=@List.mem_cons
def Yl:=@Bool.false_ne_true
def Ym:=@List.mem_append
def Yn:=@List.size_toArray
def Yo:=@List.length_append
def Yp:=@PySem.Paired.length
def Yq:=@List.mem_cons_of_mem
def Yr:=@Nat.lt_of_lt_of_le
def Ys:=@List.getElem?_map
def Yt:=@Nat.ne_of_lt
def Yu:=@List.getElem?_eq_some_iff
def Yv:=@List.length_take
def Yw:=@Ne.symm
def Yx:=@PySem.PassesOwn.never
def Yy:=@List.map_cons
def Yz:=@List.getD_eq_getElem?_getD
def Bu:=@List.take_add_one
def BX:=@PySem.boot_len
def Bk:=@Option.some.inj
def BC:=@Nat.zero_le
def BL:=@Nat.le_trans
def Bt:=@List.take_length
def Br:=@List.map_append
def B_:=@List.length_cons
def EN:=@PySem.F.plainAttrs_list
def CQ:=@List.lookup_cons
def Bq:=@Nat.ne_of_gt
def C6:=@List.all_eq_true
def E3:=@Option.map_eq_some_iff
def E1:=@List.mem_append_right
def Ft:=@PySem.F.slot_list_append
def Fq:=@PySem.F.type_list_append
def CH:=@PySem.Paired.snoc
def DY:=@Bool.true_and
def Ed:=@Bool.and_eq_true
def EM:=@List.append_nil
def C5:=@List.map_map
def FU:=@Bool.false_eq_true
def Ee:=@List.take_zero
def Gy:=@List.mem_append_left
def IM:=@PySem.Heap.get?_update_other
def Gx:=@List.getElem?_of_mem
def FT:=@List.nodup_cons
def IJ:=@List.length_filter_le
def JM:=@PyProof.Rows.boot_tuple
def GQ:=@Int.toNat_natCast
def II:=@List.mem_of_mem_take
def La:=@PyProof.Rows.callWith_type1
def JJ:=@PySem.Heap.get?_update_self
def NU:=@PyProof.Rows.slot_tuple_getitem
def Fs:=@PySem.Heap.size_push
def KD:=@List.take_of_length_le
def Gw:=@List.cons_ne_nil
def JI:=@PySem.mem_of_lookup
def JH:=@List.replicate_succ
def JG:=@List.filter_eq_self
def IH:=@List.append_assoc
def Fu:=@Nat.lt_irrefl
def KI:=@PySem.F.slot_zip_next
def IL:=@List.mem_filter
def IK:=@Bool.eq_iff_iff
def P9:=@PySem.F.slot_dict_itemiterator_next
def GV:=@Nat.lt_trans
def JL:=@List.any_eq_true
def JK:=@decide_eq_decide
def NV:=@PySem.F.slot_dict_items
def KH:=@Nat.le_succ_of_le
def LZ:=@Array.length_toList
def LY:=@List.length_pos_iff
def NT:=@PySem.Calls.callWith_builtin
def NS:=@PySem.F.plainAttrs_str
def P2:=@List.getElem?_append_right
def Ts:=@PySem.F.slot_tuple_iterator_next
def KC:=@Nat.le_add_right
def JF:=@Bool.false_and
def NQ:=@List.getElem?_eq_none
def Nd:=@PyProof.Rows.boot_int
def Le:=@List.flatten_cons
def Ld:=@List.nodup_append
def JN:=@Bool.not_true
def Nb:=@beq_eq_false_iff_ne
def P8:=@PyProof.Rows.boot_list
def NZ:=@PySem.Obj.data_mapFields
def NX:=@Int.emod_lt_of_pos
def Lb:=@List.find?_cons
def P7:=@PySem.Obj.isFreed_of_fields
def KG:=@List.any_cons
def Tz:=@Array.getElem?_eq_some_iff
def Tw:=@Classical.byContradiction
def P5:=@PySem.Around.under_plainId
def Tu:=@PySem.F.plain_extend_loop
def X_:=@Option.eq_none_iff_forall_ne_some
def Tr:=@PySem.AutoSeq1.wpAny_loadPart'
def Pz:=@PySem.evalArgs_none
def Px:=@Array.toList_append
def Tq:=@PySem.F.plainAttrs_dict
def T7:=@PySem.F.args_zip_next_1
def T6:=@Int.eq_ofNat_of_zero_le
def Lc:=@List.all_cons
def Nc:=@List.of_mem_zip
def QA:=@Nat.lt_of_le_of_lt
def Na:=@Nat.min_eq_left
def NY:=@Int.emod_nonneg
def T5:=@List.getElem?_set_self
def T4:=@PySem.F.entry_zip_next
def P6:=@Array.toList_push
def T3:=@List.length_replicate
def Tx:=@PyProof.Rows.boot_all
def YA:=@PyProof.Rows.boot_isinstance
def Tv:=@PyProof.Rows.boot_str
def P4:=@List.cons_append
def Tt:=@List.mem_iff_getElem
def P0:=@Option.getD_some
def Py:=@PySem.call_meets
def NR:=@Bool.false_or
def X9:=@PySem.F.excBase_ValueError
def T9:=@List.map_congr_left
def T8:=@Int.toNat_of_nonneg
def YK:=@List.getElem?_append_left
def QB:=@List.forIn_cons
def YJ:=@PySem.F.args_dict_items_1
def YI:=@List.getElem?_zip_eq_some
def P_:=@List.filter_map
def YH:=@Option.isSome_iff_exists
def YG:=@PySem.F.args_tuple_add_2
def YF:=@PySem.F.entry_dict_items
def YE:=@PySem.AutoSeq1.sub_tuple_tuple
def YD:=@List.eq_of_mem_replicate
def YC:=@PySem.F.entry_tuple_add
def YB:=@PySem.F.type_dict_items
local macro_rules|`(tactic|nofun)=>`(tactic|exact ⟨rfl,rfl,rfl,by decide +kernel,rfl,by decide +kernel,by decide +kernel⟩)
set_option hygiene false
local macro_rules|`(tactic|nomatch $t)=>`(tactic|refine $t (fun vs H Q E h=>?_) (fun Az A outer s H vs Q E hr h=>?_))
local macro_rules|`(⋯)=>`(BQ P w K mg base JS)
noncomputable section
local macro_rules | `(tactic| ac_nf)=>`(tactic| (with_reducible show let X:=_;let d:=_;∃ t,Bc X _ t∧t d _ _);intros)
local macro_rules | `(tactic|exists $t)=>`(tactic|(with_reducible show let a:=_;$t);intros)
local macro_rules|`(⟨$a,*⟩)=>do
 let b:=a.getElems
 if b.any fun x=>[`Z,`Y,`W,`V,`O,`Q,`J,`G].contains x.raw.getId then
  let c←b.mapM fun x=>(match x.raw.getId with|`Z=>return #[←`(_),←`(rfl)]|`Y=>return #[←`(rfl)]|`W=>return #[←`(sL (by show 2<=100000;decide))]|`V=>return #[←`(sL (by show 1<=100000;decide))]|`O=>return #[←`(by omega)]|`Q=>return #[←`(by decide)]|`J=>return #[←`(by k_is),←`(by k_is),←`(by k_is),←`(by k_is),←`(by k_is),←`(by k_is)]|`G=>return #[←`(_),←`(_)]|_=>return #[x]:Lean.MacroM (Array Lean.Term))
  let d:Array Lean.Term:=c.flatten
  `(⟨$d,*⟩)
 else Lean.Macro.throwUnsupported
local macro_rules|`($a≈$b)=>`($a=some $b)
local macro_rules|`(↥$a)=>`(some $a)
local macro_rules|`(↑$a)=>`(($a).length)
local macro_rules|`(⇑$a)=>`(($a).heap.objs.size)
local macro_rules|`(0.0)=>`(by omega)|`(0.1)=>`(by decide)|`(0.2)=>`(λ_ _=>rfl)|`(0.3)=>`(model X.prog X.w)|`(0.4)=>`(model prog w)|`(0.5)=>`(k == NameKind.free&&env.scope.kind == .function&&env.kindOf n == ↥.cell)|`(0.6)=>`(by simp)|`(0.7)=>`(by rfl')|`(0.8)=>`((·.1))|`(0.9)=>`(pv 0)|`(1.0)=>`(by rfl)|`(1.1)=>`(ws.map V.str)|`(1.2)=>`(Or.inl rfl)|`(1.3)=>`(Or.inr rfl)|`(1.4)=>`((EH ρ++(ns.take i).flatMap Ck).map V.str++[V.str (EI n)])|`(1.5)=>`(pv 1)|`(1.6)=>`(pv 2)|`(1.7)=>`(((sIx items.size 0 lo:Nat):Int) == 0&&(1:Int) == 1&&(sIx items.size items.size hi - sIx items.size 0 lo) == items.size)|`(1.8)=>`(by with_unfolding_all rfl)|`(1.9)=>`(AO (r:=Ao K) Ad 0.9 AH 0.2)|`(2.0)=>`(W.fnOf x q (Fn st) (Cn st) (AL st) .none kV doc pm an Az ct)|`(2.1)=>`((∀ b o,b≠z->b≠TO->b≠i1->b≠i2->s.heap.get? b≈o->h'.get? b≈o))|`(2.2)=>`(AO (r:=Ao K) Ad 1.6 AH 0.2)|`(2.3)=>`(pC 1.5 AB)|`(2.4)=>`(Au BD (Sum.inr nm.1) (.ref lm))|`(2.5)=>`(pC 1.6 AB)|`(2.6)=>`(AO (r:=Ao K) Ad 1.5 AH 0.2)|`(2.7)=>`(Dh X scope (own++η) G2.objs.size s2 H2 fp)|`(2.8)=>`(show false=true from hs)|`(2.9)=>`(λC s H fp=>Dj)
namespace L2
open PySem PySem.Spec PyProof.Rows
abbrev Key:=Sum Int Str
def K5:Key->ε->Bool
 | .inl k,v=>Value.isInt k v
 | .inr x,v=>Value.isStrOf x v
def zV(w:World):Key->Int
 | .inl k=>hashInt k
 | .inr x=>hashStr w x
def IG:∀ {k:Key}{v:ε},K5 k v=true->(∃ i t,k=Sum.inl i/\v=Value.int i t)\/(∃ x t,k=Sum.inr x/\v=Value.str x t)
 | .inl i,v,h=>by
  obtain⟨t,e⟩:=Value.isInt_shape (k:=i) (v:=v) h;exact .inl ⟨i,t,Y,e⟩
 | .inr x,v,h=>by
  obtain⟨t,e⟩:=Value.isStrOf_shape (x:=x) (v:=v) h;exact .inr ⟨x,t,Y,e⟩
def qZ(i:Int)(t:Tok):K5 (.inl i) (.int i t)=true:=by simp[K5,Value.isInt]
def qb(x:Str)(t:Tok):K5 (.inr x) (.str x t)=true:=by simp[K5,Value.isStrOf]
def uh(a b:Int):decide ((Sum.inl a:Key)=Sum.inl b)=(a == b):=by
 by_cases e:a=b
 ·subst e;simp
 ·have h:¬ (Sum.inl a:Key)=Sum.inl b:=λq=>e (Sum.inl.inj q);rw[Jc h];exact(Nb.mpr e).symm
def ur(a b:Str):decide ((Sum.inr a:Key)=Sum.inr b)=decide (a=b):=by
 by_cases e:a=b
 ·subst e;simp
 ·have h:¬ (Sum.inr a:Key)=Sum.inr b:=λq=>e (Sum.inr.inj q);rw[Jc h,Jc e]
def uk(a:Int)(b:Str):decide ((Sum.inl a:Key)=Sum.inr b)=false:=Jc (λq=>nomatch q)
def uq(a:Str)(b:Int):decide ((Sum.inr a:Key)=Sum.inl b)=false:=Jc (λq=>nomatch q)
def Bp(prog:ω)(w:World):PySem.KeyKind prog w Key where
 is:=K5
 hash:=zV w
 inj:=λv a b ha hb=>by
  rcases IG ha with⟨i,t,rfl,rfl⟩ | ⟨x,t,rfl,rfl⟩
  ·rcases IG hb with⟨j,u,rfl,e⟩ | ⟨y,u,rfl,e⟩
   ·injection e with e1 _;rw[e1]
   ·exact nomatch e
  ·rcases IG hb with⟨j,u,rfl,e⟩ | ⟨y,u,rfl,e⟩
   ·exact nomatch e
   ·injection e with e1 _;rw[e1]
 byValue:=λk v h=>by
  rcases IG h with⟨i,t,rfl,rfl⟩ | ⟨x,t,rfl,rfl⟩ <;> rfl
 pyHash:=λhv h=>by
  rcases IG hv with⟨i,t,rfl,rfl⟩ | ⟨x,t,rfl,rfl⟩
  ·exact wpAny_pyHash_int h
  ·exact wpAny_pyHash_str h
 eqBool:=λhu hv h=>by
  rcases IG hu with⟨i,t,rfl,rfl⟩ | ⟨x,t,rfl,rfl⟩
  ·rcases IG hv with⟨j,u,rfl,rfl⟩ | ⟨y,u,rfl,rfl⟩
   ·rw[uh]at h;exact wpAny_eqBool_int h
   ·rw[uk]at h;exact SeqAt.EqAt.int_str i t y u _ _ _ _ h
  ·rcases IG hv with⟨j,u,rfl,rfl⟩ | ⟨y,u,rfl,rfl⟩
   ·rw[uq]at h;exact SeqAt.EqAt.str_int x t j u _ _ _ _ h
   ·rw[ur]at h;exact wpAny_eqBool_str h
 «strs»:=λk x t v h=>by
  rcases IG h with⟨i,u,rfl,e⟩ | ⟨y,u,rfl,e⟩
  ·exact nomatch e
  ·injection e with e1 _;subst e1;cases v <;> rfl
def tG(prog:ω)(w:World)(i:Int)(t:Tok):(Bp prog w).is (.inl i) (.int i t)=true:=qZ i t
def tH(prog:ω)(w:World)(x:Str)(t:Tok):(Bp prog w).is (.inr x) (.str x t)=true:=qb x t
inductive V where
 | non | bl (b:Bool) | int (i:Int) | str (x:Str) | byt (b:Array UInt8) | flt (b:UInt64) | ref (a:δ) | ty (n:String)
 deriving DecidableEq
abbrev _root_.LV:=List V
abbrev _root_.OV:=Option V
abbrev _root_.KL:=List (Key×V)
def Ae:V->ε->Prop
 | .non,u=>u=Value.none
 | .bl b,u=>u=Value.bool b
 | .int i,u=>∃ t,u=Value.int i t
 | .str x,u=>∃ t,u=Value.str x t
 | .byt b,u=>∃ t,u=Value.bytes b t
 | .flt b,u=>∃ t,u=Value.float b t
 | .ref a,u=>u=Value.ref a
 | .ty n,u=>u=Value.type n
abbrev AX:LV->LU->Prop:=Paired Ae
theorem AX.length{xs:LV}{us:LU}(r:AX xs us):↑xs=↑us:=Yp r
theorem AX.get:∀ {xs:LV}{us:LU}{i:Nat}{x:V},AX xs us->xs[i]?≈x->∃ u,us[i]?≈u/\Ae x u
 | _,_,_,_,.nil,e=>by simp at e
 | _,_,0,_,.cons r _,e=>by simp at e;subst e;exact⟨Z,r⟩
 | _,_,i + 1,x,.cons _ t,e=>by
  obtain⟨u,h1,h2⟩:=AX.get (i:=i) (x:=x) t (by simpa using e);exact⟨u,by simpa using h1,h2⟩
theorem AX.set{x:V}{u:ε}(r:Ae x u):∀ {xs:LV}{us:LU}(i:Nat),AX xs us->AX (xs.set i x) (us.set i u)
 | _,_,_,.nil=>.nil
 | _,_,0,.cons _ t=>.cons r t
 | _,_,i + 1,.cons q t=>.cons q (AX.set r i t)
theorem AX.append:∀ {xs ys:LV}{us ws:LU},AX xs us->AX ys ws->AX (xs++ys) (us++ws)
 | _,_,_,_,.nil,s=>s
 | _,_,_,_,.cons r t,s=>.cons r (AX.append t s)
theorem AX.take:∀ {xs:LV}{us:LU}(n:Nat),AX xs us->AX (xs.take n) (us.take n)
 | _,_,0,_=>.nil
 | _,_,_ + 1,.nil=>.nil
 | _,_,n + 1,.cons r t=>.cons r (AX.take n t)
theorem AX.drop:∀ {xs:LV}{us:LU}(n:Nat),AX xs us->AX (xs.drop n) (us.drop n)
 | _,_,0,r=>r
 | _,_,_ + 1,.nil=>.nil
 | _,_,n + 1,.cons _ t=>AX.drop n t
def EU:OV->OU->Prop
 | some v,↥u=>Ae v u
 | none,none=>True
 | _,_=>False
def KV{κ:Type}:List (κ×V)->List (κ×ε)->Prop:=Paired λ(p:κ×V) (q:κ×ε)=>p.1=q.1/\Ae p.2 q.2
def kV:Key->V
 | .inl i=>.int i
 | .inr x=>.str x
inductive HO where
 | lst (xs:LV)
 | tup (xs:LV)
 | dK (ν:KL) | dT (ν:List (List Key×V))
 | set (S:Int->Bool) (n:Nat)
 | ins (C dx:δ) (fs:List (Str×V))
 | own (x:δ)
 | xd (fs:List (Str×V))
 | met (f x:δ)
 | rng (lo hi:Int)
 | frz (o:Obj) (u:HO)
 | tbl (ps:τ)
 | ext (φ:Heap->Prop)
abbrev Hp:=δ->Option HO
def upd(H:Hp)(a:δ)(o:HO):Hp:=λb=>if b=a then ↥o else H b
def uS{H:Hp}{a:δ}{o:HO}:upd H a o a≈o:=by unfold upd;rw[if_pos rfl]
def AD{H:Hp}{a b:δ}{o:HO}(h:b≠a):upd H a o b=H b:=by unfold upd;rw[if_neg h]
def M1{H:Hp}{a:δ}{o u:HO}:upd (upd H a o) a u=upd H a u:=by
 funext b;unfold upd;split <;> rfl
def FJ{H:Hp}{a b:δ}{o u:HO}(h:H a≈o)(h':H b≈u)(d:o≠u):a≠b:=by
 intro e;subst e;rw[h]at h';exact d (Bk h')
def AK{H:Hp}{a b:δ}{o:HO}(h:H a≈o)(h':H b=none):a≠b:=by
 intro e;subst e;rw[h]at h';cases h'
section
variable (P:ω)(w:World)
def BB(H:Hp)(h:Heap)(a:δ):HO->Prop
 | .lst xs=>↑xs<=sizeLine/\∃(ψ:LU) (n:Nat),AX xs ψ/\h.get? a=some {cls:=.type "list",data:=.seq ψ.toArray n}
 | .tup xs=>↑xs<=sizeLine/\∃ ψ:LU,AX xs ψ/\IsTup h a ψ.toArray
 | .dK ν=>↑ν<=sizeLine/\(a == sysModules)=false/\∃ vs,KV ν vs/\h.DictOf (Bp P w) a vs
 | .dT ν=>↑ν<=sizeLine/\(a == sysModules)=false/\∃ xs:List (List Key×δ×ε),
   Paired (λ(p:List Key×V) (q:List Key×δ×ε)=>p.1=q.1/\H q.2.1≈(.tup (p.1.map kV))/\Ae p.2 q.2.2) ν xs /\
   ∃ o es ep,h.get? a≈o/\o.ExactDict/\o.data=.dict es ep/\es.toList=xs.map (entryOfKey (tupleKind (Bp P w)))/\(xs.map 0.8).Nodup
 | .set S n=>h.SetOf (intKind P w) a S n
 | .ins C dx fs=>H dx≈(.own a)/\↑fs<=1000/\dx≠a/\h.get? a≈(W.instObj C dx) /\
   ∃ mA,h.Ns1 dx mA/\(∀ f,EU (fs.lookup f) (mA f))/\PySem.Within mA (fs.map 0.8)
 | .own _=>∃ o,h.get? a≈o
 | .xd fs=>∃ mA,h.Ns1 a mA/\∀ f,EU (fs.lookup f) (mA f)
 | .rng lo hi=>∃ t u v,h.get? a=some {cls:=.type "range",data:=.fields #[.int lo t,.int hi u,.int 1 v] }
 | .frz o u=>h.get? a≈o/\BB H h a u
 | .tbl ps=>h.get? a=some {cls:=.none,data:=.fields ps}
 | .met f x=>h.get? a≈(W.methodObj (.ref f) (.ref x))
 | .ext φ=>φ h/\(∃ o,h.get? a≈o)/\∀ h1 h2:Heap,φ h1->(∀ o,h1.get? a≈o->h2.get? a≈o)->φ h2
def BU(H:Hp)(h:Heap):Prop:=∀ a o,H a≈o->BB P w H h a o
end
section
variable {P:ω}{w:World}{H H':Hp}{h h':Heap}{a:δ}{o:HO}
theorem BB.lt(x:BB P w H h a o):a<h.objs.size:=by
 cases o with
 | lst xs=>obtain⟨_,_,_,_,e⟩:=x;exact Yf e
 | tup xs=>obtain⟨_,_,_,p⟩:=x;exact p.lt
 | dK ν=>obtain⟨_,_,_,_,o,_,_,e,_⟩:=x;exact Yf e
 | dT ν=>obtain⟨_,_,_,_,o,_,_,e,_⟩:=x;exact Yf e
 | set S n=>obtain⟨o,_,_,_,e,_⟩:=x;exact Yf e
 | ins C dx fs=>obtain⟨_,_,_,e,_⟩:=x;exact Yf e
 | own y=>obtain⟨_,e⟩:=x;exact Yf e
 | xd fs=>obtain⟨_,⟨_,_,_,e,_⟩,_⟩:=x;exact Yf e
 | rng lo hi=>obtain⟨_,_,_,e⟩:=x;exact Yf e
 | frz ob u=>obtain⟨e,_⟩:=x;exact Yf e
 | tbl ps=>exact Yf (show h.get? a≈_ from x)
 | met f y=>exact Yf (show h.get? a≈_ from x)
 | ext φ=>obtain⟨_,⟨_,e⟩,_⟩:=x;exact Yf e
theorem Paired.mapP{α β:Type}{F G:α->β->Prop}:∀ {l₁:List α}{l₂:List β},Paired F l₁ l₂->(∀ a b,F a b->G a b)->Paired G l₁ l₂
 | _,_,.nil,_=>.nil
 | _,_,.cons r t,f=>.cons (f _ _ r) (Paired.mapP t f)
def Paired.imp'{α β:Type}{F G:α->β->Prop}(f:∀ a b,F a b->G a b){l₁:List α}{l₂:List β}(r:Paired F l₁ l₂):Paired G l₁ l₂:=Paired.mapP r f
def BB.stay(x:BB P w H h a o)(k:∀ b u,(b=a\/H b≈(.own a))->h.get? b≈u->h'.get? b≈u)
  (ho:∀ b,H b≈(.own a)->H' b≈(.own a)) (ht:∀ b xs,H b≈(.tup xs)->H' b≈(.tup xs)):BB P w H' h' a o:=by
 induction o with
 | lst xs=>obtain⟨z,ψ,n,r,e⟩:=x;exact⟨z,ψ,n,r,k _ _ (.inl rfl) e⟩
 | tup xs=>obtain⟨z,ψ,r,ob,e,c⟩:=x;exact⟨z,ψ,r,ob,k _ _ (.inl rfl) e,c⟩
 | dK ν=>obtain⟨z,y,vs,r,ob,es,ep,e,c⟩:=x;exact⟨z,y,vs,r,ob,es,ep,k _ _ (.inl rfl) e,c⟩
 | dT ν =>
  obtain⟨z,y,xs,r,ob,es,ep,e,c⟩:=x;exact⟨z,y,xs,Paired.mapP r λp q z=>⟨z.1,ht _ _ z.2.1,z.2.2⟩,ob,es,ep,k _ _ (.inl rfl) e,c⟩
 | set S n=>obtain⟨ob,es,ep,t,e,c⟩:=x;exact⟨ob,es,ep,t,k _ _ (.inl rfl) e,c⟩
 | ins C dx fs =>
  obtain⟨d,z,ne,e,mA,⟨od,es,ep,e2,c⟩,r⟩:=x;exact⟨ho _ d,z,ne,k _ _ (.inl rfl) e,mA,⟨od,es,ep,k _ _ (.inr d) e2,c⟩,r⟩
 | own y=>obtain⟨ob,e⟩:=x;exact⟨ob,k _ _ (.inl rfl) e⟩
 | xd fs=>obtain⟨mA,⟨od,es,ep,e,c⟩,r⟩:=x;exact⟨mA,⟨od,es,ep,k _ _ (.inl rfl) e,c⟩,r⟩
 | rng lo hi=>obtain⟨t,u,v,e⟩:=x;exact⟨t,u,v,k _ _ (.inl rfl) e⟩
 | frz ob u ih=>obtain⟨e,q⟩:=x;exact⟨k _ _ (.inl rfl) e,ih q⟩
 | tbl ps =>
  have e:h.get? a=some {cls:=.none,data:=.fields ps}:=x;show h'.get? a=some {cls:=.none,data:=.fields ps};exact k a _ (.inl rfl) e
 | met f y =>
  have e:h.get? a≈(W.methodObj (.ref f) (.ref y)):=x;show h'.get? a≈(W.methodObj (.ref f) (.ref y));exact k a _ (.inl rfl) e
 | ext φ=>obtain⟨p,⟨o,e⟩,st⟩:=x;exact⟨st _ _ p λo q=>k _ _ (.inl rfl) q,⟨o,k _ _ (.inl rfl) e⟩,st⟩
theorem BU.lt(x:BU P w H h)(e:H a≈o):a<h.objs.size:=(x a o e).lt
def BU.fresh(x:BU P w H h)(e:h.objs.size<=a):H a=none:=by
 cases q:H a with
 | none=>rfl
 | some u=>exact absurd (Yr (x.lt q) e) (Fu _)
def BU.kept(x:BU P w H h)(k:∀ b u,h.get? b≈u->h'.get? b≈u):BU P w H h':=λa o e =>
 (x a o e).stay (λb u _ q=>k b u q) (λ_ q=>q) λ_ _ q=>q
def BU.laid(x:BU P w H h)(k:∀ b u,h.get? b≈u->h'.get? b≈u)(hp:h.objs.size<=a)(new:BB P w (upd H a o) h' a o):BU P w (upd H a o) h':=λb u e=>by
 have hn:=x.fresh hp;by_cases hb:b=a
 ·subst hb;rw[uS]at e;cases e;exact new
 ·rw[AD hb]at e;exact(x b u e).stay (λc v _ q=>k c v q) (λc q=>by rw[AD (AK q hn)];exact q) λc xs q=>by rw[AD (AK q hn)];exact q
end
def Rd(H:Hp)(a:δ)(u:HO):Prop:=H a≈u\/∃ o,H a≈(.frz o u)
def Rd.ok{P:ω}{w:World}{H:Hp}{h:Heap}{a:δ}{u:HO}(r:Rd H a u)(x:BU P w H h):BB P w H h a u:=by
 rcases r with r | ⟨o,r⟩
 ·exact x a u r
 ·obtain⟨_,q⟩:=x a _ r;exact q
def QN:Option HO->Prop
 | some (.lst _)=>True
 | some (.dK _)=>True
 | some (.dT _)=>True
 | some (.set _ _)=>True
 | some (.ins _ _ _)=>True
 | some (.ext _)=>True
 | _=>False
section
variable {P:ω}{w:World}{H:Hp}{h h':Heap}{x e:δ}{o':HO}
def BU.write(ok:BU P w H h)(mu:QN (H x))(he:e=x\/H e≈(.own x))(k:∀ b u,b≠e->h.get? b≈u->h'.get? b≈u)(heo:∃ u,h'.get? e≈u)
  (new:BB P w (upd H x o') h' x o'):BU P w (upd H x o') h':=λb u q=>by
 have nown:∀ c y,H c≈(.own y)->c≠x:=λc y r z=>by subst z;rw[r]at mu;exact mu
 have ntup:∀ c xs,H c≈(.tup xs)->c≠x:=λc xs r z=>by subst z;rw[r]at mu;exact mu
 by_cases hb:b=x
 ·subst hb;rw[uS]at q;cases q;exact new
 ·rw[AD hb]at q;by_cases hbe:b=e
  ·have q':H b≈(.own x):=by
    rcases he with z | z
    ·exact absurd (hbe.trans z) hb
    ·rw[hbe];exact z
   rw[q]at q';cases q';obtain⟨v,hv⟩:=heo;exact⟨v,by rw[hbe];exact hv⟩
  ·refine(ok b u q).stay (λc v hc r=>k c v ?_ r) (λc r=>by rw[AD (nown c b r)];exact r) λc xs r=>by rw[AD (ntup c xs r)];exact r
   rcases hc with rfl | hc
   ·exact hbe
   ·rintro rfl
    rcases he with z | z
    ·exact nown c b hc z
    ·rw[hc]at z;cases z;exact hb rfl
end
structure Un(fs ex:ζ)(H H':Hp)(h h':Heap):Prop where
 keep:∀ b o,h.get? b≈o->H b=none->b∉fs->b∉ex->h'.get? b≈o
 slot:∀ b o,h.get? b≈o->H b=none->b∈fs->b∉ex->∃ sl,h'.get? b=some {o with slots:=sl}
 free:∀ b o,h.get? b≈o->H b=none->b∉ex->H' b=none
 there:∀ b o,h.get? b≈o->b∉ex->∃ o',h'.get? b≈o'
 tups:∀ b xs,H b≈(.tup xs)->H' b≈(.tup xs)
 frzs:∀ b o u,H b≈(.frz o u)->H' b≈(.frz o u)
 tbls:∀ b ps,H b≈(.tbl ps)->∃ more,H' b≈(.tbl (ps++more))
section
variable {fs B7 ex ex':ζ}{H H1 H2:Hp}{h h1 h2 h':Heap}{a x e:δ}{o:HO}
def Un.any(u:Un fs ex H H1 h h1){b:δ}{ob:Obj}(q:h.get? b≈ob)(n:H b=none)(hx:b∉ex):∃ sl,h1.get? b=some {ob with slots:=sl}:=by
 by_cases hb:b∈fs
 ·exact u.slot b ob q n hb hx
 ·exact⟨ob.slots,u.keep b ob q n hb hx⟩
def Un.kept(k:∀ b u,h.get? b≈u->h'.get? b≈u):Un fs ex H H h h' :=
 ⟨λb ob q _ _ _=>k b ob q,λb ob q _ _ _=>⟨ob.slots,k b ob q⟩,λ_ _ _ n _=>n,λb ob q _=>⟨ob,k b ob q⟩,λ_ _ q=>q,λ_ _ _ q=>q,λ_ ps q=>⟨#[],by rw[q];simp⟩⟩
def Un.refl:Un fs ex H H h h:=Un.kept λ_ _ q=>q
def Un.laid(k:∀ b u,h.get? b≈u->h'.get? b≈u)(hp:h.objs.size<=a)(hn:H a=none):Un fs ex H (upd H a o) h h' where
 keep:=λb u q _ _ _=>k b u q
 slot:=λb u q _ _ _=>⟨u.slots,k b u q⟩
 free:=λb u q n _=>by rw[AD (Yt (Yr (Yf q) hp))];exact n
 there:=λb u q _=>⟨u,k b u q⟩
 tups:=λb xs q=>by rw[AD (AK q hn)];exact q
 frzs:=λb u xs q=>by rw[AD (AK q hn)];exact q
 tbls:=λb ps q=>⟨#[],by rw[AD (AK q hn),q];simp⟩
def Un.write(mu:QN (H x))(he:e=x\/H e≈(.own x))(k:∀ b u,b≠e->h.get? b≈u->h'.get? b≈u)(heo:∃ u,h'.get? e≈u):Un fs ex H (upd H x o) h h':=by
 have hx:∀ b,H b=none->b≠x:=λb n z=>by subst z;rw[n]at mu;exact mu
 have hb:∀ b,H b=none->b≠e:=λb n z=>by
  subst z
  rcases he with r | r
  ·exact hx b n r
  ·rw[n]at r;cases r
 have hm:∀ b u,H b≈u->¬ QN (↥u)->b≠x:=λb u q nm z=>by subst z;rw[q]at mu;exact nm mu
 refine⟨λb u q n _ _=>k b u (hb b n) q,λb u q n _ _=>⟨u.slots,k b u (hb b n) q⟩,λb u q n _=>by rw[AD (hx b n)];exact n,λb u q _=>?_,
  λb xs q=>by rw[AD (hm b _ q λz=>z)];exact q,λb u xs q=>by rw[AD (hm b _ q λz=>z)];exact q,λb ps q=>⟨#[],by rw[AD (hm b _ q λz=>z),q];simp⟩⟩
 by_cases hbe:b=e
 ·subst hbe;exact heo
 ·exact⟨u,k b u hbe q⟩
end
def Qu(h:Heap)(H:Hp):ζ:=(List.range h.objs.size).filter λa=>(H a).isSome
def JE(h:Heap)(H:Hp):Heap:=W.hideAll h (Qu h H)
def qW(h:Heap)(H:Hp):(JE h H).objs.size=h.objs.size:=W.hideAll_size _ _
def ye{h:Heap}{H:Hp}{b:δ}{o:Obj}(e:h.get? b≈o)(n:H b=none):(JE h H).get? b≈o :=
 W.hideAll_get _ e λhm=>by
  have q:(H b).isSome=true:=(IL.mp hm).2;rw[n]at q;simp at q
def wK{h:Heap}{H:Hp}{b:δ}{o:Obj}(e:(JE h H).get? b≈o):h.get? b≈o/\H b=none:=by
 have e':h.get? b≈o:=W.of_hideAll (Qu h H) e;refine⟨e',?_⟩;cases q:H b with
 | none=>rfl
 | some x =>
  have hm:b∈Qu h H:=IL.mpr ⟨List.mem_range.mpr (Yf e'),by simp[q]⟩;have z:(JE h H).get? b=none:=W.hideAll_none (Qu h H) hm;rw[z]at e;cases e
def vc(g h:Heap)(L:δ):PL:=(List.range h.objs.size).filterMap λa=>if a=L\/(g.get? a).isSome=true then none else(h.get? a).map λo=>(a,o)
def Am(g h:Heap)(L d:δ):PL:=(vc g h L).filter λp=>decide (p.1≠d)
structure Mod(K:Fg)(mg:Str->OU)(base:Heap):Prop where
 kin:K.In base
 glob:base.Ns mainGlobals mg
 blt:∃ mb,base.Ns builtinsNs mb/\∀ x:Str,x≠"__name__"->mb x=bootBuiltins x
 nolimit:base.NoLimit
structure Cx where
 prog:ω
 w:World
 K:Fg
 mg:Str->OU
 base:Heap
 A:Around
 N:LS
 s₀:χ
 H₀:Hp
 env:Env
 outer:List Env
 stack:List Env
 ex:ζ
 fn:Str->Bool
 calm:Bool
 pn:PL
 xe:EV
def CV(l:List Env):ζ:=l.filterMap (·.frame)
abbrev Cx.fs(X:Cx):ζ:=CV X.outer
def UH(sc:Scope)(x:Str):Prop:=sc.names.lookup x≈.local\/sc.names.lookup x≈.cell\/sc.names.lookup x≈.free
def Loc(sc:Scope)(x:Str):Prop:=sc.names.lookup x≈.local\/sc.names.lookup x≈.cell
def zb(env:Env)(h:Heap)(m:Str->OU)(x:Str)(u:ε):Prop :=
 (env.kindOf x≈.local/\m x≈u)\/((env.kindOf x≈.cell\/env.kindOf x≈.free)/\∃ c,env.cells.lookup x≈c/\h.IsCell c (↥u))
structure Cx.Ok(X:Cx):Prop where
 mod:Mod X.K X.mg X.base
 kind:X.env.scope.kind=.function
 glob:X.env.globals=mainGlobals
 blt:X.env.builtins=builtinsNs
 above:⇑X.s₀<=X.env.locals
 inj:∀ x y c,X.env.cells.lookup x≈c->X.env.cells.lookup y≈c->x=y
 has:∀ x,(X.env.kindOf x≈.cell\/X.env.kindOf x≈.free)->∃ c,X.env.cells.lookup x≈c
 cab:∀ x c,X.fn x=true->X.env.cells.lookup x≈c->⇑X.s₀<=c
 hd:X.calm=true->X.A.handled=none
 frames:X.A.frames≈X.stack
 stk:X.stack=X.outer\/(X.stack=X.env :: X.outer/\X.env.frame≈X.env.locals)
 exf:∀ b∈X.ex,b≠X.env.locals/\∀ x c,X.env.cells.lookup x≈c->c≠b
 bs:∀ b o,X.base.get? b≈o->X.s₀.heap.get? b≈o/\X.H₀ b=none
 bsz:X.base.objs.size<=⇑X.s₀
 noex:∀ b o,X.base.get? b≈o->b∉X.ex
 exfs:∀ b∈X.ex,b∉X.fs
 funs:X.s₀.heap.FunFrames X.base X.outer
 frf:∀ b∈X.fs,X.H₀ b=none
structure Inv(X:Cx)(π:PL)(σ:List (OV))(H:Hp)(s:χ):Prop where
 ok:X.Ok
 os:s.os=X.s₀.os
 bare:AllBare s.gens
 base:Un X.fs X.ex X.H₀ H X.s₀.heap s.heap
 loc:∃ m,s.heap.Ns X.env.locals m/\∀(i:Nat) (x:Str) (v:V),X.N[i]?≈x->σ[i]?≈(↥v)->UH X.env.scope x->∃ u,Ae v u/\zb X.env s.heap m x u
 cell:∀ x c,X.env.cells.lookup x≈c->∃ v,s.heap.IsCell c v
 free:H X.env.locals=none
 freeC:∀ x c,X.env.cells.lookup x≈c->H c=none
 pin:∀ p∈X.pn++π,s.heap.get? p.1≈p.2/\H p.1=none/\p.1≠X.env.locals/\p.1∉X.fs/\∀ v,p.2.data≠.cell v
 hok:BU X.prog X.w H s.heap
 len:↑σ=↑X.N
section
variable {X:Cx}{π:PL}{σ:List (OV)}{H H':Hp}{s:χ}{h':Heap}
def Cx.Ok.nofr(ok:X.Ok){b:δ}{o:Obj}(e:X.base.get? b≈o):b∉X.fs:=λhb=>by
 have:=(ok.funs.mem hb).1;rw[e]at this;cases this
theorem Inv.bs(I:Inv X π σ H s):∀ b o,X.base.get? b≈o->s.heap.get? b≈o/\H b=none:=λb o e =>
 ⟨I.base.keep b o (I.ok.bs b o e).1 (I.ok.bs b o e).2 (I.ok.nofr e) (I.ok.noex b o e),I.base.free b o (I.ok.bs b o e).1 (I.ok.bs b o e).2 (I.ok.noex b o e)⟩
def Inv.bk(I:Inv X π σ H s):∀ b o,X.base.get? b≈o->s.heap.get? b≈o:=λb o e=>(I.bs b o e).1
theorem Inv.mod(I:Inv X π σ H s):Mod X.K X.mg X.base:=I.ok.mod
def Inv.kIn(I:Inv X π σ H s):X.K.In s.heap:=I.ok.mod.kin.keeps I.bk
theorem Inv.lt(I:Inv X π σ H s):X.env.locals<⇑s:=let⟨_,hn,_⟩:=I.loc;hn.lt
def Inv.sz(I:Inv X π σ H s):⇑X.s₀<=⇑s:=BL I.ok.above (Nat.le_of_lt I.lt)
def Inv.nofs(I:Inv X π σ H s){a:δ}(h:⇑s<=a):a∉X.fs:=λhb=>by
 obtain⟨_,o,ho,_⟩:=I.ok.funs.mem hb;exact absurd (Yr (Yf ho) (BL I.sz h)) (Fu _)
def Inv.cne(I:Inv X π σ H s):∀ x c,X.env.cells.lookup x≈c->c≠X.env.locals:=λx c e z=>by
 obtain⟨v,o,ho,hd⟩:=I.cell x c e;obtain⟨m,⟨o',es,ep,E8,U5,_⟩,_⟩:=I.loc;rw[z,E8]at ho;cases ho;rw[U5]at hd;cases hd
theorem Inv.funs(I:Inv X π σ H s):s.heap.FunFrames X.base X.outer:=by
 have all:∀(l:List Env),(∀ b∈CV l,b∈X.fs)->X.s₀.heap.FunFrames X.base l->s.heap.FunFrames X.base l:=by
  intro l
  induction l with
  | nil=>intro _ _;trivial
  | cons env r ih =>
   intro hs hl;obtain⟨hk,⟨L,o,hf,hn,ho,hd⟩,hr⟩:=hl;have hL:L∈X.fs:=hs L (by unfold CV;rw[List.filterMap_cons,hf];exact Yj);obtain⟨sl,e⟩:=I.base.slot L o ho (I.ok.frf L hL) hL λz=>I.ok.exfs L z hL;exact⟨hk,⟨L,_,hf,hn,e,hd⟩,ih (λb hb=>hs b (by unfold CV;rw[List.filterMap_cons,hf];exact Yq _ hb)) hr⟩
 exact all X.outer (λ_ hb=>hb) I.ok.funs
theorem Inv.stack(I:Inv X π σ H s):s.heap.FunFrames X.base X.stack:=by
 rcases I.ok.stk with e | ⟨e,hf⟩
 ·rw[e];exact I.funs
 ·rw[e];obtain⟨m,hn,_⟩:=I.loc;refine .cons (by rw[I.ok.kind];decide) hf hn ?_ I.funs;exact Heap.get?_none_of_le (BL I.ok.bsz I.ok.above)
def Inv.stkSub(I:Inv X π σ H s):∀ b∈CV X.stack,b∈X.env.locals :: X.fs:=λb hb=>by
 rcases I.ok.stk with e | ⟨e,hf⟩
 ·rw[e]at hb;exact Yq _ hb
 ·rw[e]at hb;unfold CV at hb;rw[List.filterMap_cons,hf]at hb;exact hb
def Inv.stkFree(I:Inv X π σ H s):∀ b∈CV X.stack,H b=none:=λb hb=>by
 rcases Yk.mp (I.stkSub b hb)with e | hb
 ·rw[e];exact I.free
 ·obtain⟨_,o,ho,_⟩:=I.ok.funs.mem hb;exact I.base.free b o ho (I.ok.frf b hb) λz=>I.ok.exfs b z hb
def Inv.step{g':Array GenState}{t':Nat}{d':Drawn}{ch:ζ}(I:Inv X π σ H s)
  (hch:∀ b∈ch,(b∈X.ex\/⇑X.s₀<=b)/\b≠X.env.locals/\(∀ x c,X.env.cells.lookup x≈c->c≠b)/\∀ p∈X.pn++π,p.1≠b)
  (keep:∀ b o,b≠X.env.locals->b∉X.fs->b∉ch->s.heap.get? b≈o->H b=none->h'.get? b≈o)
  (slot:∀ b o,b≠X.env.locals->b∈X.fs->b∉ch->s.heap.get? b≈o->H b=none->∃ sl,h'.get? b=some {o with slots:=sl}) (free:∀ b o,b∉ch->s.heap.get? b≈o->H b=none->H' b=none)
  (there:∀ b o,b∉ch->s.heap.get? b≈o->∃ o',h'.get? b≈o')
  (tups:∀ b xs,H b≈(.tup xs)->H' b≈(.tup xs)) (frzs:∀ b o u,H b≈(.frz o u)->H' b≈(.frz o u)) (tbls:∀ b ps,H b≈(.tbl ps)->∃ more,H' b≈(.tbl (ps++more)))
  (ns:∀ m,s.heap.Ns X.env.locals m->h'.Ns X.env.locals m) (hok:BU X.prog X.w H' h') (hg:AllBare g'):
  Inv X π σ H' {s with heap:=h',gens:=g',drawn:=d',toks:=t' }:=by
 have neL:∀ b o,X.s₀.heap.get? b≈o->b≠X.env.locals:=λb o e=>Yt (Yr (Yf e) I.ok.above);have neC:∀ b o,X.s₀.heap.get? b≈o->b∉X.ex->b∉ch:=λb o e hx hb=>by
  rcases(hch b hb).1 with z | z
  ·exact hx z
  ·exact absurd (Yr (Yf e) z) (Fu _)
 have cellK:∀ x c,X.env.cells.lookup x≈c->∀ v,s.heap.IsCell c v->h'.IsCell c v:=λx c e v ⟨o,ho,hd⟩=>by
  have nch:c∉ch:=λz=>(hch c z).2.2.1 x c e rfl;by_cases hc:c∈X.fs
  ·obtain⟨sl,q⟩:=slot c o (I.cne x c e) hc nch ho (I.freeC x c e);exact⟨_,q,hd⟩
  ·exact⟨o,keep c o (I.cne x c e) hc nch ho (I.freeC x c e),hd⟩
 refine⟨I.ok,I.os,hg,⟨λb o e n hb hx=>?_,λb o e n hb hx=>?_,λb o e n hx=>?_,λb o e hx=>?_,λb xs e=>tups b xs (I.base.tups b xs e),λb o xs e=>frzs b o xs (I.base.frzs b o xs e),λb ps e=>?_⟩,?_,λx c e=>?_,?_,λx c e=>?_,λp hp=>?_,hok,I.len⟩
 ·exact keep b o (neL b o e) hb (neC b o e hx) (I.base.keep b o e n hb hx) (I.base.free b o e n hx)
 ·obtain⟨sl,e1⟩:=I.base.slot b o e n hb hx;obtain⟨Nq,e2⟩:=slot b _ (neL b o e) hb (neC b o e hx) e1 (I.base.free b o e n hx);exact⟨Nq,e2⟩
 ·obtain⟨o',e1⟩:=I.base.there b o e hx;exact free b o' (neC b o e hx) e1 (I.base.free b o e n hx)
 ·obtain⟨o',e1⟩:=I.base.there b o e hx;exact there b o' (neC b o e hx) e1
 ·obtain⟨m1,e1⟩:=I.base.tbls b ps e;obtain⟨m2,e2⟩:=tbls b _ e1;exact⟨m1++m2,by rw[e2,Array.append_assoc]⟩
 ·obtain⟨m,hn,hl⟩:=I.loc;refine⟨m,ns m hn,λi x v e1 e2 e3=>?_⟩;obtain⟨u,r,l⟩:=hl i x v e1 e2 e3;refine⟨u,r,?_⟩
  rcases l with l | ⟨k,c,e,z⟩
  ·exact .inl l
  ·exact .inr ⟨k,c,e,cellK x c e _ z⟩
 ·obtain⟨v,z⟩:=I.cell x c e;exact⟨v,cellK x c e v z⟩
 ·obtain⟨m,⟨o,_,_,ho,_⟩,_⟩:=I.loc;exact free _ o (λz=>(hch _ z).2.1 rfl) ho I.free
 ·obtain⟨v,o,ho,hd⟩:=I.cell x c e;exact free c o (λz=>(hch c z).2.2.1 x c e rfl) ho (I.freeC x c e)
 ·obtain⟨e,n,ne,nf,d⟩:=I.pin p hp;have nch:p.1∉ch:=λz=>(hch p.1 z).2.2.2 p hp rfl;exact⟨keep p.1 p.2 ne nf nch e n,free p.1 p.2 nch e n,ne,nf,d⟩
def Inv.un{t':Nat}(I:Inv X π σ H s)(u:Un X.fs [] H H' s.heap h')(hok:BU X.prog X.w H' h'):Inv X π σ H' {s with heap:=h',toks:=t' }:=by
 obtain⟨m,⟨o,es,ep,ho,r⟩,_⟩:=id I.loc;obtain⟨sl,hL⟩:=u.any ho I.free 0.6;exact I.step (g':=s.gens) (d':=s.drawn) (ch:=[]) (λ_ z=>nomatch z) (λb o _ hb _ e n=>u.keep b o e n hb 0.6) (λb o _ hb _ e n=>u.slot b o e n hb 0.6) (λb o _ e n=>u.free b o e n 0.6) (λb o _ e=>u.there b o e 0.6) u.tups u.frzs u.tbls (λm' hm=>by
  obtain⟨o',IY,IZ,E8,r'⟩:=hm;rw[ho]at E8;cases E8;exact⟨_,IY,IZ,hL,r'⟩) hok I.bare
def Inv.call{g':Array GenState}{t':Nat}{d':Drawn}{ch:ζ}(I:Inv X π σ H s)(u:Un (CV X.stack) ch H H' s.heap h')(hok:BU X.prog X.w H' h')(hg:AllBare g')
  (hch:∀ b∈ch,(b∈X.ex\/⇑X.s₀<=b)/\b≠X.env.locals/\(∀ x c,X.env.cells.lookup x≈c->c≠b)/\∀ p∈X.pn++π,p.1≠b):
  Inv X π σ H' {s with heap:=h',gens:=g',drawn:=d',toks:=t' }:=by
 obtain⟨m,⟨o,es,ep,ho,r⟩,_⟩:=id I.loc;obtain⟨sl,hL⟩:=u.any ho I.free λz=>(hch _ z).2.1 rfl;exact I.step (ch:=ch) hch (λb o hL hb hc e n=>u.keep b o e n (λz=>(Yk.mp (I.stkSub b z)).elim hL hb) hc) (λb o _ _ hc e n=>u.any e n hc) (λb o hc e n=>u.free b o e n hc) (λb o hc e=>u.there b o e hc) u.tups u.frzs u.tbls (λm' hm=>by
  obtain⟨o',IY,IZ,E8,r'⟩:=hm;rw[ho]at E8;cases E8;exact⟨_,IY,IZ,hL,r'⟩) hok hg
def Inv.turned{t':Nat}{it:δ}(I:Inv X π σ H s)(k:∀ b o,b≠it->s.heap.get? b≈o->h'.get? b≈o)(hn:H it=none)(hL:it≠X.env.locals)
  (h1:it∈X.ex\/⇑X.s₀<=it) (h2:∀ x c,X.env.cells.lookup x≈c->c≠it) (h3:∀ p∈X.pn++π,p.1≠it):Inv X π σ H {s with heap:=h',toks:=t' }:=by
 have nit:∀ b u,H b≈u->b≠it:=λb u e z=>by rw[z,hn]at e;cases e
 refine I.step (g':=s.gens) (d':=s.drawn) (ch:=[it]) (λb hb=>?_) (λb o _ _ hc e _=>k b o (λz=>hc (by simp[z])) e) (λb o _ _ hc e _=>⟨o.slots,k b o (λz=>hc (by simp[z])) e⟩) (λ_ _ _ _ n=>n)
  (λb o hc e=>⟨o,k b o (λz=>hc (by simp[z])) e⟩) (λ_ _ e=>e) (λ_ _ _ e=>e) (λb ps e=>⟨#[],by rw[e];simp⟩) (λm hm=>?_) (λb u e=>?_) I.bare
 ·have e:b=it:=by simpa using hb
  subst e;exact⟨h1,hL,h2,h3⟩
 ·obtain⟨o,es,ep,ho,r⟩:=hm;exact⟨o,es,ep,k _ o (Yw hL) ho,r⟩
 ·refine(I.hok b u e).stay (λc v hc q=>k c v ?_ q) (λ_ q=>q) λ_ _ q=>q
  rcases hc with z | z
  ·rw[z];exact nit b u e
  ·exact nit c _ z
def Inv.tok(I:Inv X π σ H s)(t:Nat):Inv X π σ H {s with toks:=t}:=I.un (h':=s.heap) (t':=t) Un.refl I.hok
theorem Inv.kept{t':Nat}(I:Inv X π σ H s)(k:∀ b u,s.heap.get? b≈u->h'.get? b≈u):Inv X π σ H {s with heap:=h',toks:=t' }:=I.un (Un.kept k) (I.hok.kept k)
theorem Inv.laid{a:δ}{o:HO}{t':Nat}(I:Inv X π σ H s)(k:∀ b u,s.heap.get? b≈u->h'.get? b≈u)(hp:⇑s<=a)(new:BB X.prog X.w (upd H a o) h' a o):
  Inv X π σ (upd H a o) {s with heap:=h',toks:=t' }:=I.un (Un.laid k hp (I.hok.fresh hp)) (I.hok.laid k hp new)
theorem Inv.write{x e:δ}{o:HO}{t':Nat}(I:Inv X π σ H s)(mu:QN (H x))(he:e=x\/H e≈(.own x))(k:∀ b u,b≠e->s.heap.get? b≈u->h'.get? b≈u)(heo:∃ u,h'.get? e≈u)
  (new:BB X.prog X.w (upd H x o) h' x o):Inv X π σ (upd H x o) {s with heap:=h',toks:=t' }:=I.un (Un.write mu he k heo) (I.hok.write mu he k heo new)
def Inv.pins_of{KO:PL}(I:Inv X π σ H s)(h:∀ p∈KO,s.heap.get? p.1≈p.2/\H p.1=none/\p.1≠X.env.locals/\p.1∉X.fs/\∀ v,p.2.data≠.cell v):Inv X KO σ H s :=
 ⟨I.ok,I.os,I.bare,I.base,I.loc,I.cell,I.free,I.freeC,λp hp=>(Ym.mp hp).elim (λz=>I.pin p (Gy _ z)) (h p),I.hok,I.len⟩
def O5{N:LS}(hN:N.Nodup){i j:Nat}{x:Str}(a:N[i]?≈x)(b:N[j]?≈x):i=j:=by
 obtain⟨h1,e1⟩:=Yu.mp a;obtain⟨h2,e2⟩:=Yu.mp b;exact(List.getElem_inj hN).mp (e1.trans e2.symm)
def gD{M:Model}{A:Around}{E:EV}{i:Nat}{x:Str}{v:V}{u:ε}{Q:Unit->χ->Prop}(I:Inv X π σ H s)(hN:X.N.Nodup)(hi:X.N[i]?≈x)(hx:Loc X.env.scope x)(r:Ae v u)
  (h:∀ s',Inv X π (σ.set i (↥v)) H s'->(∃ a,Heap.SameBut a s.heap s'.heap/\(a=X.env.locals\/X.env.cells.lookup x≈a))->Q () s') (hf:X.fn x=true\/X.env.scope.names.lookup x≈.local:=by first | exact .inl rfl | exact .inr rfl | assumption):wpAny M A (storeName X.env x u) Q E s:=by
 obtain⟨m,hn,hl⟩:=id I.loc;have hcls:(X.env.scope.kind == .class || (X.env.scope.kind == .module&&X.env.locals != X.env.globals))=false:=by rw[I.ok.kind];rfl
 have hiσ:i<↑σ:=by rw[I.len];exact(Yu.mp hi).1
 have cne:=I.cne;have tracked:∀ {a:δ} {h':Heap},(∃ o,s.heap.get? a≈o/\H a=none)->Heap.SameBut a s.heap h'->BU X.prog X.w H h':=λ{a h'} ha hs b ob e=>by
  obtain⟨_,_,hfree⟩:=ha;refine(I.hok b ob e).stay (λc w' hc q=>(hs.2 c ?_).trans q) (λ_ q=>q) λ_ _ q=>q;rintro rfl
  rcases hc with rfl | hc
  ·rw[hfree]at e;cases e
  ·rw[hfree]at hc;cases hc
 rcases hx with hk | hk
 ·refine wpAny_storeName_local hk hn (λh' nX hs=>?_) hcls;obtain⟨oL,_,_,hoL,_⟩:=id hn;refine h _ ⟨I.ok,I.os,I.bare,⟨λb o e n hb hx=>?_,λb o e n hb hx=>?_,I.base.free,λb o e hx=>?_,I.base.tups,I.base.frzs,I.base.tbls⟩,⟨_,nX,λj y v' e1 e2 e3=>?_⟩,λy c e=>?_,I.free,I.freeC,λp hp=>?_,tracked ⟨oL,hoL,I.free⟩ hs,by simpa using I.len⟩ ⟨_,hs,.inl rfl⟩
  ·exact(hs.2 b (Yt (Yr (Yf e) I.ok.above))).trans (I.base.keep b o e n hb hx)
  ·obtain⟨sl,e1⟩:=I.base.slot b o e n hb hx;exact⟨sl,(hs.2 b (Yt (Yr (Yf e) I.ok.above))).trans e1⟩
  ·obtain⟨o',e1⟩:=I.base.there b o e hx;exact⟨o',(hs.2 b (Yt (Yr (Yf e) I.ok.above))).trans e1⟩
  ·by_cases hj:j=i
   ·subst hj;rw[hi]at e1;cases e1;rw[T5 hiσ]at e2;cases e2;exact⟨u,r,.inl ⟨hk,by simp⟩⟩
   ·rw[List.getElem?_set_ne (Yw hj)]at e2;obtain⟨u',r',q⟩:=hl j y v' e1 e2 e3;refine⟨u',r',?_⟩
    rcases q with⟨k,e⟩ | ⟨k,c,e,z⟩
    ·refine .inl ⟨k,?_⟩;have:y≠x:=λe=>hj (O5 hN e1 (e ▸ hi));simp[this,e]
    ·exact .inr ⟨k,c,e,z.sameBut hs (cne y c e)⟩
  ·obtain⟨w',z⟩:=I.cell y c e;exact⟨w',z.sameBut hs (cne y c e)⟩
  ·obtain⟨e,n,ne,nf,d⟩:=I.pin p hp;exact⟨(hs.2 p.1 ne).trans e,n,ne,nf,d⟩
 ·have hfn:X.fn x=true:=by
   rcases hf with z | z
   ·exact z
   ·rw[z]at hk;cases hk
  obtain⟨c,hc⟩:=I.ok.has x (.inl hk);obtain⟨w',z⟩:=I.cell x c hc;refine wpAny_storeName_cell I.ok.kind hk hc z (λh' De hs=>?_);obtain⟨oc,hoc,hocd⟩:=id z;refine h {s with heap:=h' } ⟨I.ok,I.os,I.bare,⟨λb o e n hb hx=>?_,λb o e n hb hx=>?_,I.base.free,λb o e hx=>?_,I.base.tups,I.base.frzs,I.base.tbls⟩,⟨m,hn.sameBut hs (Yw (cne x c hc)),λj y v' e1 e2 e3=>?_⟩,λy c' e=>?_,I.free,I.freeC,λp hp=>?_,tracked ⟨oc,hoc,I.freeC x c hc⟩ hs,by simpa using I.len⟩ ⟨c,hs,.inr hc⟩
  ·exact(hs.2 b (Yt (Yr (Yf e) (I.ok.cab x c hfn hc)))).trans (I.base.keep b o e n hb hx)
  ·obtain⟨sl,e1⟩:=I.base.slot b o e n hb hx;exact⟨sl,(hs.2 b (Yt (Yr (Yf e) (I.ok.cab x c hfn hc)))).trans e1⟩
  ·obtain⟨o',e1⟩:=I.base.there b o e hx;exact⟨o',(hs.2 b (Yt (Yr (Yf e) (I.ok.cab x c hfn hc)))).trans e1⟩
  ·by_cases hj:j=i
   ·subst hj;rw[hi]at e1;cases e1;rw[T5 hiσ]at e2;cases e2;exact⟨u,r,.inr ⟨.inl hk,c,hc,De⟩⟩
   ·rw[List.getElem?_set_ne (Yw hj)]at e2;obtain⟨u',r',q⟩:=hl j y v' e1 e2 e3;refine⟨u',r',?_⟩
    rcases q with q | ⟨k,c',e,z'⟩
    ·exact .inl q
    ·refine .inr ⟨k,c',e,z'.sameBut hs ?_⟩;rintro rfl;exact hj (O5 hN e1 (I.ok.inj _ _ _ e hc ▸ hi))
  ·by_cases hcc:c'=c
   ·subst hcc;exact⟨_,De⟩
   ·obtain⟨w2,z2⟩:=I.cell y c' e;exact⟨w2,z2.sameBut hs hcc⟩
  ·obtain⟨e,n,ne,nf,d⟩:=I.pin p hp;refine⟨(hs.2 p.1 ?_).trans e,n,ne,nf,d⟩;intro q;rw[q,hoc]at e;have q':oc=p.2:=Bk e;exact d w' (by rw[<- q'];exact hocd)
def SH{M:Model}{A:Around}{E:EV}{i:Nat}{x:Str}{v:V}{u:ε}{Q:Unit->χ->Prop}(I:Inv X π σ H s)(hN:X.N.Nodup)(hi:X.N[i]?≈x)(hx:Loc X.env.scope x)(r:Ae v u)
  (h:∀ s',Inv X π (σ.set i (↥v)) H s'->Q () s') (hf:X.fn x=true\/X.env.scope.names.lookup x≈.local:=by first | exact .inl rfl | exact .inr rfl | assumption):wpAny M A (storeName X.env x u) Q E s :=
 gD I hN hi hx r (λs' I' _=>h s' I') hf
def Inv.call'{s':χ}{ch:ζ}(I:Inv X π σ H s)(ho:s'.os=s.os)(u:Un (CV X.stack) ch H H' s.heap s'.heap)(hok:BU X.prog X.w H' s'.heap)(hg:AllBare s'.gens)
  (hch:∀ b∈ch,(b∈X.ex\/⇑X.s₀<=b)/\b≠X.env.locals/\(∀ x c,X.env.cells.lookup x≈c->c≠b)/\∀ p∈X.pn++π,p.1≠b):Inv X π σ H' s':=by
 obtain⟨h',g',d',t',o'⟩:=s';have e:o'=s.os:=ho;subst e;exact I.call (g':=g') (t':=t') (d':=d') u hok hg hch
end
abbrev XK:=ε->Option δ->Hp->Prop
abbrev St:=List (OV)
abbrev VK:=V->Hp->Prop
abbrev _root_.SW:=St->Hp->Prop
abbrev _root_.NW:=Nat->St->Hp->Prop
abbrev TE:=St->Hp->VK->Prop
abbrev TT:=St->Hp->(Bool->Hp->Prop)->Prop
abbrev TA:=St->Hp->(LV->Hp->Prop)->Prop
structure Cy where
 nx:SW
 rt:VK
 bk:SW:=λ_ _=>False
 ct:SW:=λ_ _=>False
abbrev TS:=Cy->St->Hp->Prop
def EP(X:Cx)(π:PL)(σ:St)(Q:VK)(u:ε)(s':χ):Prop:=∃ v H',Inv X π σ H' s'/\Ae v u/\Q v H'
def TP(X:Cx)(π:PL)(σ:St)(Q:Bool->Hp->Prop)(b:Bool)(s':χ):Prop:=∃ H',Inv X π σ H' s'/\Q b H'
def AP(X:Cx)(π:PL)(σ:St)(Q:LV->Hp->Prop)(us:LU)(s':χ):Prop:=∃ vs H',Inv X π σ H' s'/\AX vs us/\Q vs H'
def SP(X:Cx)(π:PL)(D:Cy)(f:Flow)(s':χ):Prop :=
 match f with
 | .next=>∃ σ' H',Inv X π σ' H' s'/\D.nx σ' H'
 | .brk=>∃ σ' H',Inv X π σ' H' s'/\D.bk σ' H'
 | .cont=>∃ σ' H',Inv X π σ' H' s'/\D.ct σ' H'
 | .ret u=>∃ v σ' H',Inv X π σ' H' s'/\Ae v u/\D.rt v H'
def PE(X:Cx)(e:Expr)(t:TE):Prop :=
 ∀(π:PL) (s:χ) (σ:St) (H:Hp) (Q:VK),Inv X π σ H s->t σ H Q->wpAny 0.3 X.A (eval e X.env) (EP X π σ Q) X.xe s
def PT(X:Cx)(e:Expr)(t:TT):Prop :=
 ∀(π:PL) (s:χ) (σ:St) (H:Hp) (Q:Bool->Hp->Prop),Inv X π σ H s->t σ H Q->wpAny 0.3 X.A (isTrue e X.env (eval e X.env)) (TP X π σ Q) X.xe s
def PW(X:Cx)(e:Expr)(t:TT):Prop :=
 ∀(whole:Sem ε) (π:PL) (s:χ) (σ:St) (H:Hp) (Q:Bool->Hp->Prop),Inv X π σ H s->t σ H Q->wpAny 0.3 X.A (isTrue e X.env whole) (TP X π σ Q) X.xe s
def PW.pt{X:Cx}{e:Expr}{t:TT}(h:PW X e t):PT X e t:=h _
def PA(X:Cx)(es:μ)(t:TA):Prop :=
 ∀(pos:Pos) (π:PL) (s:χ) (σ:St) (H:Hp) (Q:LV->Hp->Prop),Inv X π σ H s->t σ H Q->wpAny 0.3 X.A (spliced (backTo pos (starEach es X.env))) (AP X π σ Q) X.xe s
def PS(X:Cx)(st:Stmt)(t:TS):Prop :=
 ∀(π:PL) (s:χ) (σ:St) (H:Hp) (D:Cy),Inv X π σ H s->t D σ H->wpAny 0.3 X.A (exec st X.env) (SP X π D) X.xe s
def Bc(X:Cx)(st:List Stmt)(t:TS):Prop :=
 ∀(π:PL) (s:χ) (σ:St) (H:Hp) (D:Cy),Inv X π σ H s->t D σ H->wpAny 0.3 X.A (execs st X.env) (SP X π D) X.xe s
def AM{α:Type}{t:Sem α}{Q Q':α->χ->Prop}{M:Model}{A:Around}{E:EV}{s:χ}(h:wpAny M A t Q E s)(hQ:∀ a s,Q a s->Q' a s):wpAny M A t Q' E s:=Jf h hQ λ_ _ x=>x
section
variable {X:Cx}
inductive NO(i:Nat)(σ:St)(H:Hp)(Q:VK):Prop
 | mk:∀ v,σ[i]?≈(↥v)->Q v H->NO i σ H Q
def tC(v:V):TE:=λ_ H Q=>Q v H
def jR{i:Nat}{x:Str}{pos:Pos}(hN:X.N[i]?≈x)(hv:UH X.env.scope x)(hd:(x == ("__debug__":Str))=false:=by decide)(hcd:(x == ("__classdict__":Str))=false:=by decide):PE X (.Name x pos) (NO i):=by
 ac_rfl;obtain⟨v,e,h⟩:=h;obtain⟨m,hn,hl⟩:=I.loc;obtain⟨u,r,l⟩:=hl i x v hN e hv;have fin:EP X π σ Q u s:=⟨v,H,I,r,h⟩
 rcases l with⟨hk,hm⟩ | ⟨hk,c,hc,hcell⟩
 ·exact wpAny_Name (wpAny_loadName_local I.ok.kind hk hn hm fin) hd
 ·rcases hk with hk | hk
  ·exact wpAny_Name (wpAny_loadName_cell I.ok.kind hk hc hcell fin) hd
  ·exact wpAny_Name (wpAny_loadName_free I.ok.kind hk hc hcell fin hcd) hd
def AH{i j pos}:PE X (.Constant (.int i) j pos) (tC (.int i)):=λ_ _ _ H _ I h=>wpAny_Constant_int ⟨.int i,H,I.tok _,⟨Z⟩,h⟩
def F4{b j pos}:PE X (.Constant (.bool b) j pos) (tC (.bl b)):=λ_ _ _ H _ I h=>Constant_bool ⟨.bl b,H,I,Y,h⟩
def H_{j pos}:PE X (.Constant .none j pos) (tC .non):=λ_ _ _ H _ I h=>Constant_none ⟨.non,H,I,Y,h⟩
def Ah{x j pos}:PE X (.Constant (.str x) j pos) (tC (.str x)):=λ_ _ _ H _ I h=>Calls.Constant_str ⟨.str x,H,I.tok _,⟨Z⟩,h⟩
def Gl(X:Cx)(x:Str):Prop:=X.env.kindOf x≈.globalImplicit
def Mx{E:EV}{π:PL}{s:χ}{σ:St}{H:Hp}{x:Str}{u:ε}{pos:Pos}{Q:EV}(I:Inv X π σ H s)(hg:Gl X x)(hm:X.mg x≈u)(h:Q u s)
  (hd:(x == ("__debug__":Str))=false:=by decide):wpAny 0.3 X.A (eval (.Name x pos) X.env) Q E s :=
 Calls.Name_function_global I.ok.kind hg (Calls.loadGlobal_global (by rw[I.ok.glob];exact I.mod.glob.keeps I.bk) hm h) hd
def Il{E:EV}{π:PL}{s:χ}{σ:St}{H:Hp}{x:Str}{u:ε}{pos:Pos}{Q:EV}(I:Inv X π σ H s)(hg:Gl X x)(hm:X.mg x=none)(hv:bootBuiltins x≈u)(h:Q u s)
  (hn:x≠"__name__":=by decide) (hd:(x == ("__debug__":Str))=false:=by decide):wpAny 0.3 X.A (eval (.Name x pos) X.env) Q E s:=by
 obtain⟨mb,h1,h2⟩:=I.mod.blt;exact Calls.Name_function_global I.ok.kind hg (Calls.loadGlobal_builtin (by rw[I.ok.glob];exact I.mod.glob.keeps I.bk) hm (by rw[I.ok.blt];exact h1.keeps I.bk) ((h2 x hn).trans hv) h) hd
def Iq{x:Str}{v:V}{u:ε}{pos:Pos}(hg:Gl X x)(hm:X.mg x≈u)(r:Ae v u)(hd:(x == ("__debug__":Str))=false:=by decide):PE X (.Name x pos) (tC v):=
 λ_ _ _ H _ I h=>Mx I hg hm ⟨v,H,I,r,h⟩ hd
def cW{x:Str}{v:V}{u:ε}{pos:Pos}(hg:Gl X x)(hm:X.mg x=none)(hv:bootBuiltins x≈u)(r:Ae v u)(hn:x≠"__name__":=by decide)(hd:(x == ("__debug__":Str))=false:=by decide):PE X (.Name x pos) (tC v):=
 λ_ _ _ H _ I h=>Il I hg hm hv ⟨v,H,I,r,h⟩ hn hd
variable {a b:Expr}{ta tb:TE}{pos:Pos}
def PC(X:Cx)(op:CmpOp)(a b:Expr)(t:TE):Prop :=
 ∀(π:PL) (s:χ) (σ:St) (H:Hp) (Q:VK),Inv X π σ H s->t σ H Q ->
  wpAny 0.3 X.A (eval a X.env) (λv s₁=>wpAny 0.3 X.A (eval b X.env) (λu s₂=>wpAny 0.3 X.A (compareOp op v u) (EP X π σ Q) X.xe s₂) X.xe s₁) X.xe s
def dS(b:Expr){op:CmpOp}(h:op≠.In)(h2:op≠.NotIn):behindInMarks op b=false:=by
 have e1:(op == CmpOp.In)=false:=by cases op <;> first | rfl | exact absurd rfl h
 have e2:(op == CmpOp.NotIn)=false:=by cases op <;> first | rfl | exact absurd rfl h2
 cases b <;> simp[behindInMarks,e1,e2]
def Yar(ta:TE):TE:=λσ H Q=>ta σ H λx H1=>Q (.bl (!decide (x=.non))) H1
def Ae.none_iff{x:V}{v:ε}(r:Ae x v):(v == Value.none)=decide (x=.non):=by
 cases x with
 | non=>cases r;rfl
 | bl _=>cases r;rfl
 | int _=>obtain⟨t,rfl⟩:=r;rfl
 | str _=>obtain⟨t,rfl⟩:=r;rfl
 | byt _=>obtain⟨t,rfl⟩:=r;rfl
 | flt _=>obtain⟨t,rfl⟩:=r;rfl
 | ref _=>cases r;rfl
 | ty _=>cases r;rfl
def cT{j pos'}(ha:PE X a ta):PC X .IsNot a (.Constant .none j pos') (Yar ta):=by
 ac_rfl;refine AM (ha π s σ H _ I h) λv s1 ⟨x,H1,I1,r1,q1⟩=>?_;exact Constant_none (isnot_none_gen ⟨.bl _,H1,I1,by rw[r1.none_iff];rfl,q1⟩)
inductive Zy(Q:Bool->Hp->Prop)(x:V)(H1:Hp):Prop
 | mk:∀ c,x=.bl c->Q c H1->Zy Q x H1
def tB(t:TE):TT:=λσ H Q=>t σ H λx H1=>Zy Q x H1
def jQ{op:CmpOp}{t:TE}(h:PC X op a b t)(h1:behindInMarks op b=false:=by first | exact dS _ 0.1 0.1 | rfl):PE X (.Compare a [op] [b] pos) t:=λπ s σ H Q I hw=>wpAny_Compare1 (h π s σ H Q I hw) h1
def Ik{op:CmpOp}{t:TE}(h:PC X op a b t)(h1:behindInMarks op b=false:=by first | exact dS _ 0.1 0.1 | rfl):PT X (.Compare a [op] [b] pos) (tB t):=by
 intro π s σ H Q I hw;refine wpAny_isTrue_Compare1 (AM (h π s σ H _ I hw) λv s1 h1=>AM h1 λu s2 h2=>AM h2 λc s3 ⟨x,H1,I1,r1,q1⟩=>?_) h1;obtain⟨d,rfl,q⟩:=q1;cases r1;exact Jh ⟨H1,I1,q⟩
def C0{e:Expr}{t:TE}(h:PE X e t)(he:∀ whole,isTrue e X.env whole=(do let v <- whole;standAt e.pos;holding [v] (truthy v)):=by intro _;rfl):PT X e (tB t):=by
 intro π s σ H Q I hw;refine isTrue_plain (AM (h π s σ H _ I hw) λv s1 ⟨x,H1,I1,r1,q1⟩=>?_) (he _);obtain⟨d,rfl,q⟩:=q1;cases r1;exact Jh ⟨H1,I1,q⟩
variable {tA Qw:TT}{Am:μ}
def Yfc(t u:TT):TT:=λσ H Q=>t σ H λc H1=>if c=true then u σ H1 Q else Q false H1
def lT(t u:TT):TT:=λσ H Q=>t σ H λc H1=>if c=true then Q true H1 else u σ H1 Q
def Ye5(t:TT):TT:=λσ H Q=>t σ H λc H1=>Q (!c) H1
def Jy(ha:PT X a tA):PW X (.BoolOp .And [a] pos) tA:=by
 intro wh π s σ H Q I h;refine isTrue_and (AM (ha π s σ H Q I h) λc s1 e=>?_);cases c with
 | true=>exact isTrue_and_nil e
 | false=>exact e
def Vo(ha:PT X a tA):PW X (.BoolOp .Or [a] pos) tA:=by
 intro wh π s σ H Q I h;refine isTrue_or (AM (ha π s σ H Q I h) λc s1 e=>?_);cases c with
 | false=>exact isTrue_or_nil e
 | true=>exact e
def Gm(ha:PT X a tA)(hb:PW X (.BoolOp .And (b :: Am) pos) Qw):PW X (.BoolOp .And (a :: b :: Am) pos) (Yfc tA Qw):=by
 intro wh π s σ H Q I h;refine isTrue_and (AM (ha π s σ H _ I h) λc s1 ⟨H1,I1,q1⟩=>?_);cases c with
 | true=>exact hb wh π s1 σ H1 Q I1 q1
 | false=>exact⟨H1,I1,q1⟩
def Xx(ha:PT X a tA)(hb:PW X (.BoolOp .Or (b :: Am) pos) Qw):PW X (.BoolOp .Or (a :: b :: Am) pos) (lT tA Qw):=by
 intro wh π s σ H Q I h;refine isTrue_or (AM (ha π s σ H _ I h) λc s1 ⟨H1,I1,q1⟩=>?_);cases c with
 | true=>exact⟨H1,I1,q1⟩
 | false=>exact hb wh π s1 σ H1 Q I1 q1
def Di(ha:PT X a tA):PT X (.UnaryOp .Not a pos) (Ye5 tA):=by
 ac_rfl;exact isTrue_not (ha π s σ H (λc H1=>Q (!c) H1) I h)
inductive jH(tb:TE)(σ:St)(Q:VK)(x:V)(H1:Hp):Prop
 | mk:∀ c,x=.bl c->(if c=true then tb σ H1 Q else Q (.bl false) H1)->jH tb σ Q x H1
def Ya2(ta tb:TE):TE:=λσ H Q=>ta σ H λx H1=>jH tb σ Q x H1
inductive ig(tb:TE)(σ:St)(Q:VK)(x:V)(H1:Hp):Prop
 | mk:∀ c,x=.bl c->(if c=true then Q (.bl true) H1 else tb σ H1 Q)->ig tb σ Q x H1
def Ye4(ta tb:TE):TE:=λσ H Q=>ta σ H λx H1=>ig tb σ Q x H1
def IA{op}{t:TE}(h:PE X a t):PE X (.BoolOp op [a] pos) t:=λπ s σ H Q I hw=>BoolOp_one (h π s σ H Q I hw)
def F7(ha:PE X a ta)(hb:PE X (.BoolOp .And (b :: Am) pos) tb):PE X (.BoolOp .And (a :: b :: Am) pos) (Ya2 ta tb):=by
 ac_rfl;refine BoolOp_and (AM (ha π s σ H _ I h) λv s1 ⟨x,H1,I1,r1,q1⟩=>?_);obtain⟨c,rfl,q1⟩:=q1;cases r1;refine Jh ?_;cases c with
 | true=>exact hb π s1 σ H1 Q I1 q1
 | false=>exact⟨.bl false,H1,I1,Y,q1⟩
def Ti(ha:PE X a ta)(hb:PE X (.BoolOp .Or (b :: Am) pos) tb):PE X (.BoolOp .Or (a :: b :: Am) pos) (Ye4 ta tb):=by
 ac_rfl;refine BoolOp_or (AM (ha π s σ H _ I h) λv s1 ⟨x,H1,I1,r1,q1⟩=>?_);obtain⟨c,rfl,q1⟩:=q1;cases r1;refine Jh ?_;cases c with
 | false=>exact hb π s1 σ H1 Q I1 q1
 | true=>exact⟨.bl true,H1,I1,Y,q1⟩
def lU(t:TT)(ta tb:TE):TE:=λσ H Q=>t σ H λc H1=>if c=true then ta σ H1 Q else tb σ H1 Q
def Wt{c:Expr}(hc:PT X c tA)(ha:PE X a ta)(hb:PE X b tb):PE X (.IfExp c a b pos) (lU tA ta tb):=by
 ac_rfl;refine wpAny_IfExp (AM (hc π s σ H _ I h) λd s1 ⟨H1,I1,q1⟩=>?_);cases d with
 | true=>exact ha π s1 σ H1 Q I1 q1
 | false=>exact hb π s1 σ H1 Q I1 q1
end
def SqL(K:Fg)(H:Hp)(a:δ)(xs:LV):Prop :=
 Rd H a (.lst xs) \/
  ∃(o:Obj) (ψ:τ) (n:Nat),K.lookup a≈o/\o.cls=.type "list"/\o.dict=none/\o.data=.seq ψ n/\ψ.size<=sizeLine/\AX xs ψ.toList
def AG(K:Fg)(H:Hp)(a:δ)(xs:LV):Prop :=
 Rd H a (.tup xs) \/
  ∃(o:Obj) (ψ:τ) (n:Nat),K.lookup a≈o/\o.cls=.type "tuple"/\o.data=.seq ψ n/\ψ.size<=sizeLine/\AX xs ψ.toList
def zI:ε->OV
 | .none=>↥.non
 | .bool b=>↥(.bl b)
 | .int i _=>↥(.int i)
 | .str x _=>↥(.str x)
 | .bytes b _=>↥(.byt b)
 | .float b _=>↥(.flt b)
 | .ref a=>↥(.ref a)
 | .type n=>↥(.ty n)
 | _=>none
def Ae.abs{x:V}{u:ε}(r:Ae x u):zI u≈x:=by
 cases x with
 | non=>cases r;rfl
 | bl _=>cases r;rfl
 | int _=>obtain⟨t,rfl⟩:=r;rfl
 | str _=>obtain⟨t,rfl⟩:=r;rfl
 | byt _=>obtain⟨t,rfl⟩:=r;rfl
 | flt _=>obtain⟨t,rfl⟩:=r;rfl
 | ref _=>cases r;rfl
 | ty _=>cases r;rfl
theorem Ae.inj{x y:V}{u:ε}(r:Ae x u)(q:Ae y u):x=y:=Bk (r.abs.symm.trans q.abs)
theorem AX.inj:∀ {xs ys:LV}{us:LU},AX xs us->AX ys us->xs=ys
 | _,_,_,.nil,.nil=>rfl
 | _,_,_,.cons r t,.cons r' t'=>by rw[r.inj r',AX.inj t t']
section
variable {X:Cx}{π:PL}{σ:St}{H:Hp}{s:χ}{a:δ}{xs ys:LV}
def SqL.of{K:Fg}(h:H a≈(.lst xs)):SqL K H a xs:=.inl (.inl h)
def AG.of{K:Fg}(h:H a≈(.tup xs)):AG K H a xs:=.inl (.inl h)
def Inv.list(I:Inv X π σ H s)(h:SqL X.K H a xs):∃ ψ:LU,AX xs ψ/\PlainL s.heap a ψ.toArray/\↑xs<=sizeLine:=by
 rcases h with h | ⟨o,ψ,n,hk,hc,hd,hs,hz,r⟩
 ·obtain⟨z,ψ,n,r,e⟩:=h.ok I.hok;exact⟨ψ,r,⟨_,n,e,Y,Y,Y⟩,z⟩
 ·refine⟨ψ.toList,r,⟨o,n,I.kIn a o hk,hc,hd,by simpa using hs⟩,?_⟩;have e:=↑r;simp only[LZ]at e;omega
def Inv.tuple(I:Inv X π σ H s)(h:AG X.K H a xs):∃ ψ:LU,AX xs ψ/\IsTup s.heap a ψ.toArray/\↑xs<=sizeLine:=by
 rcases h with h | ⟨o,ψ,n,hk,hc,hs,hz,r⟩
 ·obtain⟨z,ψ,r,p⟩:=h.ok I.hok;exact⟨ψ,r,p,z⟩
 ·refine⟨ψ.toList,r,⟨o,I.kIn a o hk,hc,n,by simpa using hs⟩,?_⟩;have e:=↑r;simp only[LZ]at e;omega
def Inv.list_inj(I:Inv X π σ H s)(h:SqL X.K H a xs)(h':SqL X.K H a ys):xs=ys:=by
 obtain⟨ψ,r,⟨o,n,e,_,_,d⟩,_⟩:=I.list h;obtain⟨its',r',⟨o',n',e',_,_,d'⟩,_⟩:=I.list h';rw[e]at e';cases e';rw[d]at d';injection d' with d1 _;have:ψ=its':=by simpa using congrArg Array.toList d1
 subst this;exact r.inj r'
def Inv.tuple_inj(I:Inv X π σ H s)(h:AG X.K H a xs)(h':AG X.K H a ys):xs=ys:=by
 obtain⟨ψ,r,⟨o,e,_,n,d⟩,_⟩:=I.tuple h;obtain⟨its',r',⟨o',e',_,n',d'⟩,_⟩:=I.tuple h';rw[e]at e';cases e';rw[d]at d';injection d' with d1 _;have:ψ=its':=by simpa using congrArg Array.toList d1
 subst this;exact r.inj r'
end
abbrev Cx.wish(X:Cx)(E:EV):Cx:={X with xe:=E}
abbrev Cx.nox(X:Cx):Cx:=X.wish λ_ _=>False
theorem Cx.Ok.wish{X:Cx}(ok:X.Ok)(E:EV):(X.wish E).Ok :=
 ⟨ok.mod,ok.kind,ok.glob,ok.blt,ok.above,ok.inj,ok.has,ok.cab,ok.hd,ok.frames,ok.stk,ok.exf,ok.bs,ok.bsz,ok.noex,ok.exfs,ok.funs,ok.frf⟩
def Cx.Ok.unwish{X:Cx}{E:EV}(ok:(X.wish E).Ok):X.Ok :=
 ⟨ok.mod,ok.kind,ok.glob,ok.blt,ok.above,ok.inj,ok.has,ok.cab,ok.hd,ok.frames,ok.stk,ok.exf,ok.bs,ok.bsz,ok.noex,ok.exfs,ok.funs,ok.frf⟩
section
variable {X:Cx}{π:PL}{σ:St}{H:Hp}{s:χ}{E:EV}
theorem Inv.wish(I:Inv X π σ H s)(E:EV):Inv (X.wish E) π σ H s:=⟨I.ok.wish E,I.os,I.bare,I.base,I.loc,I.cell,I.free,I.freeC,I.pin,I.hok,I.len⟩
theorem Inv.unwish(I:Inv (X.wish E) π σ H s):Inv X π σ H s:=⟨I.ok.unwish,I.os,I.bare,I.base,I.loc,I.cell,I.free,I.freeC,I.pin,I.hok,I.len⟩
theorem SP.unwish{D:Cy}{f:Flow}{s':χ}(h:SP (X.wish E) π D f s'):SP X π D f s':=by
 cases f with
 | next=>obtain⟨σ',H',I,q⟩:=h;exact⟨σ',H',I.unwish,q⟩
 | brk=>obtain⟨σ',H',I,q⟩:=h;exact⟨σ',H',I.unwish,q⟩
 | cont=>obtain⟨σ',H',I,q⟩:=h;exact⟨σ',H',I.unwish,q⟩
 | ret u=>obtain⟨v,σ',H',I,r,q⟩:=h;exact⟨v,σ',H',I.unwish,r,q⟩
theorem Bc.nox{st:List Stmt}{t:TS}(h:Bc X.nox st t):Bc X st t:=λπ s σ H D I hw =>
 Jf (h π s σ H D (I.wish _) hw) (λ_ _ q=>q.unwish) λ_ _ z=>False.elim z
end
section
variable {X:Cx}{st:Stmt}{Am:List Stmt}{t u:TS}{e:Expr}{te:TE}{pos:Pos}
def Yat:TS:=λD σ H=>D.nx σ H
def AE(t u:TS):TS:=λD σ H=>t {D with nx:=u D} σ H
def Af:Bc X [] Yat:=λ_ _ σ H _ I h=>wpAny_execs_nil ⟨σ,H,I,h⟩
def pS(h1:PS X st t)(h2:Bc X Am u):Bc X (st :: Am) (AE t u):=by
 intro π s σ H D I h;refine wpAny_execs_cons (AM (h1 π s σ H {D with nx:=u D} I h) λf s1 q=>?_);cases f with
 | next =>
  obtain⟨σ',H',I',q⟩:=q;exact h2 π s1 σ' H' D I' q
 | ret v=>exact q
 | brk=>exact q
 | cont=>exact q
def AF(h1:PS X st t):Bc X [st] t:=by
 intro π s σ H D I h;refine wpAny_execs_cons (AM (h1 π s σ H D I h) λf s1 q=>?_);cases f with
 | next=>exact wpAny_execs_nil q
 | ret v=>exact q
 | brk=>exact q
 | cont=>exact q
def Inv.quiet{π:PL}{σ:St}{H:Hp}{s:χ}(I:Inv X π σ H s):interactive X.env=false:=by simp[interactive,I.ok.kind]
def Yav(te:TE):TS:=λD σ H=>te σ H λ_ H1=>D.nx σ H1
def B8(he:PE X e te)(hs:swapsWith e none pos.line X.env=pure false:=by rfl):PS X (.Expr e pos) (Yav te):=by
 intro π s σ H D I h;exact wpAny_Expr_any (AM (he π s σ H _ I h) λv s1 ⟨x,H1,I1,r1,q1⟩=>⟨σ,H1,I1,q1⟩) I.quiet hs
def Ye3(te:TE):TS:=λD σ H=>te σ H D.rt
def AQ(he:PE X e te):PS X (.Return (↥e) pos) (Ye3 te):=by
 intro π s σ H D I h;exact wpAny_Return_some (AM (he π s σ H _ I h) λv s1 ⟨x,H1,I1,r1,q1⟩=>⟨x,σ,H1,I1,r1,q1⟩)
def By(c:TT)(t u:TS):TS:=λD σ H=>c σ H λb H1=>if b=true then t D σ H1 else u D σ H1
def Ag{c:Expr}{a b:List Stmt}{tc:TT}(hc:PT X c tc)(ha:Bc X a t)(hb:Bc X b u):PS X (.If c a b pos) (By tc t u):=by
 intro π s σ H D I h;refine wpAny_If (AM (hc π s σ H _ I h) λd s1 ⟨H1,I1,q1⟩=>?_);cases d with
 | true=>exact ha π s1 σ H1 D I1 q1
 | false=>exact hb π s1 σ H1 D I1 q1
def vV:TS:=λ_ _ _=>False
def Bj{sts:List Stmt}:Bc X sts vV:=λ_ _ _ _ _ _ h=>h.elim
end
abbrev TG:=V->St->Hp->(St->Hp->Prop)->Prop
abbrev Ni:=LV->St->Hp->(St->Hp->Prop)->Prop
def PG(X:Cx)(target:Expr)(t:TG):Prop :=
 ∀(π:PL) (s:χ) (σ:St) (H:Hp) (v:V) (u:ε) (Q:SW),Inv X π σ H s->Ae v u->t v σ H Q ->
  wpAny 0.3 X.A (assign target X.env u) (λ_ s'=>∃ σ' H',Inv X π σ' H' s'/\Q σ' H') X.xe s
def UM(X:Cx)(ts:μ)(t:Ni):Prop :=
 ∀(π:PL) (s:χ) (σ:St) (H:Hp) (vs:LV) (us:LU) (Q:SW),Inv X π σ H s->AX vs us->t vs σ H Q ->
  wpAny 0.3 X.A (assignInOrder ((assignEach ts X.env).map (·.2)) us) (λ_ s'=>∃ σ' H',Inv X π σ' H' s'/\Q σ' H') X.xe s
abbrev YM:=V->V->V->Hp->(Hp->Prop)->Prop
def jf(X:Cx)(t:YM):Prop :=
 ∀(π:PL) (s:χ) (σ:St) (H:Hp) (o i v:V) (ov iv u:ε) (Q:Hp->Prop),Inv X π σ H s->Ae o ov->Ae i iv->Ae v u->t o i v H Q ->
  wpAny 0.3 X.A (setItem ov iv u) (λ_ s'=>∃ H',Inv X π σ H' s'/\Q H') X.xe s
section
variable {X:Cx}{pos:Pos}
def Cz(i:Nat):TG:=λv σ H Q=>Q (σ.set i (↥v)) H
def CF{i:Nat}{x:Str}(hN:X.N.Nodup)(hi:X.N[i]?≈x)(hx:Loc X.env.scope x)(hf:X.fn x=true\/X.env.scope.names.lookup x≈.local:=by first | exact .inl rfl | exact .inr rfl | assumption):PG X (.Name x pos) (Cz i):=by
 intro π s σ H v u Q I r h;exact wpAny_assign_Name (SH I hN hi hx r (λs' I'=>⟨_,H,I',h⟩) hf)
def gE(i:Nat){x:Str}(hN:X.N.Nodup)(hi:X.N[i]?≈x:=by rfl)(hx:Loc X.env.scope x:=by exact Or.inl rfl)(hf:X.fn x=true\/X.env.scope.names.lookup x≈.local:=by first | exact .inl rfl | exact .inr rfl | assumption):PG X (.Name x pos) (Cz i):=CF hN hi hx hf
def YQ:Ni:=λvs σ H Q=>vs=[]/\Q σ H
inductive K3(t:TG)(u:Ni)(vs:LV)(σ:St)(H:Hp)(Q:SW):Prop
 | mk:∀ v r,vs=v :: r->(t v σ H λσ' H'=>u r σ' H' Q)->K3 t u vs σ H Q
def DX:UM X [] YQ:=by
 intro π s σ H vs us Q I r h;obtain⟨e,h⟩:=h;subst e;cases r;exact assignInOrder_nil ⟨σ,H,I,h⟩
def gC{e:Expr}{es:μ}{t:TG}{u:Ni}(h1:PG X e t)(h2:UM X es u)
  (hs:(assignEach (e :: es) X.env).map (·.2)=assign e X.env :: (assignEach es X.env).map (·.2):=by rfl):UM X (e :: es) (K3 t u):=by
 intro π s σ H vs us Q I r h;obtain⟨v,vr,e1,h⟩:=h;subst e1;cases r with
 | cons r rr =>
  rw[hs];refine assignInOrder_cons (AM (h1 π s σ H _ _ _ I r h) λ_ s1 ⟨σ1,H1,I1,q1⟩=>?_);exact h2 π s1 σ1 H1 _ _ Q I1 rr q1
inductive UC(K:Fg)(n:Nat)(t:Ni)(v:V)(σ:St)(H:Hp)(Q:SW):Prop
 | mk:∀ a xs,v=.ref a->AG K H a xs->↑xs=n->t xs σ H Q->UC K n t v σ H Q
def DU{es:μ}{k:Nat}{t:Ni}{n:Nat}(hc:X.calm=true)(h:UM X es t)
  (hn:↑(assignEach es X.env)=n:=by rfl) (hst:(assignEach es X.env).findIdx? 0.8=none:=by rfl):PG X (.Tuple es k pos) (UC X.K n t):=by
 intro π s σ H v u Q I r hw;obtain⟨a,xs,e1,hq,hl,hw⟩:=hw;subst e1;cases r;obtain⟨ψ,rv,ht,hz⟩:=I.tuple hq;refine assign_Tuple_tuple (I.ok.hd hc) ht (by simp[hn,<- hl,rv.length]) hst λh' hx=>?_;have I1:Inv X π σ H {s with heap:=h' }:=I.kept (t':=s.toks) λb o e=>hx b o (Yt (Yf e)) e;exact h π _ σ H xs _ Q I1 (by simpa using rv) hw
def zQ(to ti:TE)(t:YM):TG:=λv σ H Q=>to σ H λo H1=>ti σ H1 λi H2=>t o i v H2 λH3=>Q σ H3
def Vm{o i:Expr}{to ti:TE}{t:YM}(ho:PE X o to)(hi:PE X i ti)(hs:jf X t)
  (ha:∀ v,assign (.Subscript o i pos) X.env v=(do
   let ov <- holding [v] (eval o X.env);let iv <- holding [v,ov] (eval i X.env)
   standAt pos
   holding [v,ov,iv] (setItem ov iv v)
   release [v,ov,iv] []):=by intro _;rfl):PG X (.Subscript o i pos) (zQ to ti t):=by
 intro π s σ H v u Q I r h;rw[ha];refine Ja (Jj (AM (ho π s σ H _ I h) λov s1 ⟨x,H1,I1,r1,q1⟩=>?_));refine Ja (Jj (AM (hi π s1 σ H1 _ I1 q1) λiv s2 ⟨y,H2,I2,r2,q2⟩=>?_));refine Ja (wpAny_standAt (Ja (Jj (AM (hs π s2 σ H2 x y v ov iv u _ I2 r1 r2 r q2) λ_ s3 ⟨H3,I3,q3⟩=>?_))));exact wpAny_release ⟨σ,H3,I3,q3⟩
def Hu(te:TE)(g:TG):TS:=λD σ H=>te σ H λx H1=>g x σ H1 D.nx
def Ol{tg e:Expr}{te:TE}{g:TG}(he:PE X e te)(hg:PG X tg g)(hs:swapsWithSole [tg] e pos.line X.env=pure false:=by rfl)(hw:swappedStores [tg] e X.env=pure none:=by rfl)
  (h1:(assignEach [tg] X.env).map (·.2)=[assign tg X.env]:=by rfl):PS X (.Assign [tg] e pos) (Hu te g):=by
 intro π s σ H D I h;refine wpAny_Assign_stores (AM (he π s σ H _ I h) λv s1 ⟨x,H1,I1,r1,q1⟩=>?_) hs hw;rw[h1];exact AM (hg π s1 σ H1 x v _ I1 r1 q1) λ_ s2 q=>q
def Ez{i:Nat}{x:Str}{e:Expr}{te:TE}{pos':Pos}(hN:X.N.Nodup)(hi:X.N[i]?≈x)(hx:Loc X.env.scope x)(he:PE X e te)(hs:swapsWith e (↥(.Name x pos')) pos.line X.env=pure false:=by rfl)(hf:X.fn x=true\/X.env.scope.names.lookup x≈.local:=by first | exact .inl rfl | exact .inr rfl | assumption):
  PS X (.Assign [.Name x pos'] e pos) (Hu te (Cz i)):=by
 intro π s σ H D I h;refine wpAny_Assign_Name (AM (he π s σ H _ I h) λv s1 ⟨y,H1,I1,r1,q1⟩=>?_) hs;exact SH I1 hN hi hx r1 (λs2 I2=>⟨_,H1,I2,q1⟩) hf
def sE(i:Nat){x:Str}{e:Expr}{te:TE}{pos':Pos}(hN:X.N.Nodup)(he:PE X e te)(hi:X.N[i]?≈x:=by rfl)(hx:Loc X.env.scope x:=by exact Or.inl rfl)(hs:swapsWith e (↥(.Name x pos')) pos.line X.env=pure false:=by rfl)(hf:X.fn x=true\/X.env.scope.names.lookup x≈.local:=by first | exact .inl rfl | exact .inr rfl | assumption):PS X (.Assign [.Name x pos'] e pos) (Hu te (Cz i)):=Ez hN hi hx he hs hf
end
section
variable {X:Cx}{pos:Pos}
inductive Ov(c:TT)(tb:TS)(D:Cy)(σ:St)(H:Hp):Prop
 | mk:∀ W:NW,(∃ m,W m σ H)->(∀ m σ H,W m σ H->c σ H λb H1=>if b=true then ∃ N:SW,(∀ σ' H',N σ' H'->∃ m',m'<m/\W m' σ' H')/\tb {D with nx:=N,ct:=N,bk:=D.nx} σ H1 else D.nx σ H1)->Ov c tb D σ H
def O7{c:Expr}{body:List Stmt}{tc:TT}{tb:TS}(hp:PassesOwn 0.3 X.A X.env X.xe)(hc:PT X c tc)(hb:Bc X body tb):PS X (.While c body [] pos) (Ov tc tb):=by
 intro π s σ H D I h;obtain⟨W,⟨m0,w0⟩,turn⟩:=h;refine wpAny_While (codeAny_whileLoop (λn s'=>∃ σ' H',Inv X π σ' H' s'/\W n σ' H') ?_ m0 ⟨σ,H,I,w0⟩);rintro n s1 ⟨σ1,H1,I1,w1⟩;refine wpAny_passesOwn hp (AM (hc π s1 σ1 H1 _ I1 (turn n σ1 H1 w1)) λb s2 ⟨H2,I2,q2⟩=>?_);cases b with
 | true =>
  obtain⟨N,hN,q2⟩:=q2;rw[if_pos rfl];refine wpAny_passesOwn hp (AM (hb π s2 σ1 H2 _ I2 q2) λf s3 q3=>?_);cases f with
  | next =>
   obtain⟨σ3,H3,I3,n3⟩:=q3;obtain⟨m',hm,w3⟩:=hN σ3 H3 n3;exact⟨m',hm,σ3,H3,I3,w3⟩
  | cont =>
   obtain⟨σ3,H3,I3,n3⟩:=q3;obtain⟨m',hm,w3⟩:=hN σ3 H3 n3;exact⟨m',hm,σ3,H3,I3,w3⟩
  | brk=>exact q3
  | ret v=>exact q3
 | false =>
  rw[if_neg Yl];exact wpAny_execs_nil ⟨σ1,H2,I2,q2⟩
end
structure It where
 go:Nat->Hp->Prop
 yld:Nat->Hp->V->Hp->Prop
 stop:Nat->Hp->Prop
def Cv(X:Cx)(π:PL)(H:Hp)(b:δ):Prop :=
 H b=none/\b≠X.env.locals/\b∉X.fs/\(b∈X.ex\/⇑X.s₀<=b)/\(∀ x c,X.env.cells.lookup x≈c->c≠b)/\∀ p∈X.pn++π,p.1≠b
def Inv.fpOk{X:Cx}{π:PL}{σ:St}{H H':Hp}{s:χ}{b:δ}(I:Inv X π σ H s)(hb:⇑s<=b)(hn:H' b=none):Cv X π H' b:=by
 refine⟨hn,Bq (Yr I.lt hb),I.nofs hb,.inr (BL I.sz hb),λx c e z=>?_,λp hp z=>?_⟩
 ·obtain⟨v,q⟩:=I.cell x c e;exact absurd (Yr q.lt (by rw[z];exact hb)) (Fu _)
 ·exact absurd (Yr (Yf (I.pin p hp).1) (by rw[z];exact hb)) (Fu _)
structure FD(P:ω)(w:World)(K:Fg)(tg:Expr)(J:It)(fp:ζ)(it:δ)(tn:Nat->Heap->Prop):Prop where
 mem:it∈fp
 obj:∀ i h,tn i h->∀ b∈fp,∃ o,h.get? b≈o/\∀ v,o.data≠.cell v
 keep:∀ i h h',tn i h->(∀ b∈fp,∀ o,h.get? b≈o->h'.get? b≈o)->tn i h'
 item:∀(X:Cx),X.prog=P->X.w=w->X.K=K->X.calm=true->∀(i:Nat) (π:PL) (s:χ) (σ:St) (H:Hp) (E:EV),Inv X π σ H s->(∀ b∈fp,Cv X π H b)->tn i s.heap->J.go i H ->
  wpAny (model P w) X.A (pyNext (.ref it)) (λr s1=>∃ u,r≈u /\
   wpAny (model P w) X.A (letOwnedTupleGo tg (.ref it) u) (λ_ s2=>∃ x H',Inv X π σ H' s2/\Ae x u/\J.yld i H x H'/\tn (i + 1) s2.heap/\∀ b∈fp,H' b=none) E s1) E s
 done:∀(X:Cx),X.prog=P->X.w=w->X.K=K->X.calm=true->∀(i:Nat) (π:PL) (s:χ) (σ:St) (H:Hp) (E:EV),Inv X π σ H s->(∀ b∈fp,Cv X π H b)->tn i s.heap->J.stop i H ->
  wpAny (model P w) X.A (pyNext (.ref it)) (λr s1=>r=none/\Inv X π σ H s1) E s
 self:∀(A:Around) (i:Nat) (s:χ) (Q:EV) (E:EV),tn i s.heap->Q (.ref it) s->wpAny (model P w) A (pyIter (.ref it)) Q E s
abbrev TI:=St->Hp->(It->Hp->Prop)->Prop
def Y8(X:Cx)(π:PL)(σ:St)(tg:Expr)(R:It->Hp->Prop)(itv:ε)(s2:χ):Prop :=
 ∃(it:δ) (fp:ζ) (tn:Nat->Heap->Prop) (J:It) (H':Hp),itv=.ref it/\Inv X π σ H' s2/\FD X.prog X.w X.K tg J fp it tn/\tn 0 s2.heap/\(∀ b∈fp,Cv X π H' b)/\R J H'
def PI(X:Cx)(tg iter:Expr)(wi:TI):Prop :=
 ∀(π:PL) (s:χ) (σ:St) (H:Hp) (R:It->Hp->Prop),Inv X π σ H s->wi σ H R ->
  wpAny 0.3 X.A (eval iter X.env) (λv s1=>wpAny 0.3 X.A (pyIter v) (Y8 X π σ tg R) X.xe s1) X.xe s
def Mg{M:Model}{A:Around}{E:EV}{s:χ}{tg:Expr}{it:δ}{u:ε}{o:Obj}{n:String}{vs:τ}{Q:Unit->χ->Prop}(ho:s.heap.get? it≈o)(hc:o.cls=.type n)(hd:o.data=.fields vs)
  (hn:["enumerate","zip","dict_itemiterator","dict_reverseitemiterator","odict_iterator","itertools.zip_longest","itertools.pairwise"].contains n=false) (hQ:Q () s):wpAny M A (letOwnedTupleGo tg (.ref it) u) Q E s:=by
 unfold letOwnedTupleGo;cases tg <;> first
  | exact Jd hQ
  | (cases u <;> first
    | exact Jd hQ
    | (refine Ja (wpAny_load ho ?_)
       rw[hc,hd];show wpAny M A (if(["enumerate","zip","dict_itemiterator","dict_reverseitemiterator","odict_iterator","itertools.zip_longest","itertools.pairwise"].contains n&&vs[0]? == ↥(rawInt _))=true then _ else _) Q E s;rw[if_neg (by intro h;rw[hn,JF]at h;cases h)];exact Jd hQ))
def ZC(K:Fg)(a:δ):It :=
 ⟨λi H=>∃ xs x,SqL K H a xs/\xs[i]?≈x,λi H x H'=>H'=H/\∀ xs,SqL K H a xs->xs[i]?≈x,λi H=>∃ xs,SqL K H a xs/\↑xs<=i⟩
def ZA(K:Fg)(a:δ):It :=
 ⟨λi H=>∃ xs x,AG K H a xs/\xs[i]?≈x,λi H x H'=>H'=H/\∀ xs,AG K H a xs->xs[i]?≈x,λi H=>∃ xs,AG K H a xs/\↑xs<=i⟩
def UP(lo:Int)(n:Nat):It:=⟨λi _=>i<n,λi H x H'=>H'=H/\x=.int (lo + i),λi _=>n<=i⟩
def gG{P:ω}{w:World}{K:Fg}{tg:Expr}(a it:δ):FD P w K tg (ZC K a) [it] it (λi h=>h.IsListIter it a i) where
 mem:=by simp
 obj:=λi h st b hb=>by
  have e:b=it:=by simpa using hb
  subst e;obtain⟨o,e,c,d⟩:=st;exact⟨o,e,λv z=>by rw[d]at z;cases z⟩
 keep:=λi h h' st k=>st.at λo e=>k it 0.6 o e
 item:=by
  intro X hP hw hK hc i π s σ H E I hf st hg;subst hP hw hK;obtain⟨xs,x,hq,hx⟩:=hg;obtain⟨ψ,rv,p,hz⟩:=I.list hq;obtain⟨u,hu,ru⟩:=rv.get hx;obtain⟨f0,f1,f2,f3,f4,f5⟩:=hf it 0.6;refine wpAny_pyNext_list_item st p.isList (x:=u) (by simpa using hu) λh' BW sb=>?_;have I1:Inv X π σ H {s with heap:=h' }:=I.turned (t':=s.toks) (λb o hb e=>(sb.2 b hb).trans e) f0 f1 f3 f4 f5;obtain⟨o,e,c,d⟩:=id BW;exact⟨u,Y,Mg (s:={s with heap:=h' }) e c d 0.1 ⟨x,H,I1,ru,⟨Y,λys hy=>by rw[I.list_inj hy hq];exact hx⟩,BW,λb hb=>(hf b hb).1⟩⟩
 done:=by
  intro X hP hw hK hc i π s σ H E I hf st hg;subst hP hw hK;obtain⟨xs,hq,hx⟩:=hg;obtain⟨ψ,rv,p,hz⟩:=I.list hq;obtain⟨f0,f1,f2,f3,f4,f5⟩:=hf it 0.6;have hl:=↑rv;exact wpAny_pyNext_list_end (I.ok.hd hc) st p.isList (by simp;omega) λh' eb=>⟨Y,I.turned (t':=s.toks) (λb o hb e=>eb b o hb e) f0 f1 f3 f4 f5⟩
 self:=λ_ _ _ _ _ st h=>wpAny_pyIter_listiter st h
def gb{P:ω}{w:World}{K:Fg}{tg:Expr}(a it:δ):FD P w K tg (ZA K a) [it] it (λi h=>h.IsTupleIter it a i) where
 mem:=by simp
 obj:=λi h st b hb=>by
  have e:b=it:=by simpa using hb
  subst e;obtain⟨o,e,c,d⟩:=st;exact⟨o,e,λv z=>by rw[d]at z;cases z⟩
 keep:=λi h h' st k=>st.at λo e=>k it 0.6 o e
 item:=by
  intro X hP hw hK hc i π s σ H E I hf st hg;subst hP hw hK;obtain⟨xs,x,hq,hx⟩:=hg;obtain⟨ψ,rv,p,hz⟩:=I.tuple hq;obtain⟨u,hu,ru⟩:=rv.get hx;obtain⟨f0,f1,f2,f3,f4,f5⟩:=hf it 0.6;refine wpAny_pyNext_tuple_item st (show s.heap.IsTuple a ψ.toArray from p) (x:=u) (by simpa using hu) λh' BW sb=>?_;have I1:Inv X π σ H {s with heap:=h' }:=I.turned (t':=s.toks) (λb o hb e=>(sb.2 b hb).trans e) f0 f1 f3 f4 f5;obtain⟨o,e,c,d⟩:=id BW;exact⟨u,Y,Mg (s:={s with heap:=h' }) e c d 0.1 ⟨x,H,I1,ru,⟨Y,λys hy=>by rw[I.tuple_inj hy hq];exact hx⟩,BW,λb hb=>(hf b hb).1⟩⟩
 done:=by
  intro X hP hw hK hc i π s σ H E I hf st hg;subst hP hw hK;obtain⟨xs,hq,hx⟩:=hg;obtain⟨ψ,rv,p,hz⟩:=I.tuple hq;obtain⟨f0,f1,f2,f3,f4,f5⟩:=hf it 0.6;have hl:=↑rv;exact wpAny_pyNext_tuple_end (I.ok.hd hc) st (show s.heap.IsTuple a ψ.toArray from p) (by simp;omega) λh' eb=>⟨Y,I.turned (t':=s.toks) (λb o hb e=>eb b o hb e) f0 f1 f3 f4 f5⟩
 self:=λ_ _ _ _ _ st h=>wpAny_pyIter_tupleiter st h
def sW{P:ω}{w:World}{K:Fg}{tg:Expr}(it:δ)(lo:Int)(n:Nat):FD P w K tg (UP lo n) [it] it (λi h=>IsRangeIter h it (lo + (i:Nat) * 1) ((n:Int) - (i:Nat)) 1) where
 mem:=by simp
 obj:=λi h st b hb=>by
  have e:b=it:=by simpa using hb
  subst e;exact⟨_,st,λv z=>by
   have z':Data.fields _=Data.cell v:=z;cases z'⟩
 keep:=λi h h' st k=>k it 0.6 _ st
 item:=by
  intro X hP hw hK hc i π s σ H E I hf st hg;subst hP hw hK;obtain⟨f0,f1,f2,f3,f4,f5⟩:=hf it 0.6;have W:=Walks.range (prog:=X.prog) (w:=X.w) (I.ok.hd hc) it lo 1 n;refine W.item i s _ _ hg st λv h' tk hv BW kk=>?_;obtain⟨t,rfl⟩:=hv;have I1:Inv X π σ H {s with heap:=h',toks:=tk}:=I.turned (λb o hb e=>kk b o (by simpa using hb) e) f0 f1 f3 f4 f5;refine⟨Z,Mg (s:={s with heap:=h',toks:=tk}) (n:="range_iterator") BW rfl rfl 0.1 ⟨.int (lo + i),H,I1,⟨t,?_⟩,⟨Y,Y⟩,BW,λb hb=>(hf b hb).1⟩⟩;rw[Int.mul_one]
 done:=by
  intro X hP hw hK hc i π s σ H E I hf st hg;subst hP hw hK;obtain⟨f0,f1,f2,f3,f4,f5⟩:=hf it 0.6;exact wpAny_pyNext_range_end (I.ok.hd hc) st (by have:n<=i:=hg;omega) λh' eb=>⟨Y,I.turned (t':=s.toks) (λb o hb e=>eb b o hb e) f0 f1 f3 f4 f5⟩
 self:=λ_ _ _ _ _ st h=>wpAny_pyIter_rangeiter st h
section
variable {X:Cx}{tg:Expr}
inductive jB(K:Fg)(R:It->Hp->Prop)(x:V)(H1:Hp):Prop
 | mk:∀ a,x=.ref a->(∃ xs,SqL K H1 a xs)->R (ZC K a) H1->jB K R x H1
def Yce(K:Fg)(tl:TE):TI:=λσ H R=>tl σ H λx H1=>jB K R x H1
inductive iG(K:Fg)(R:It->Hp->Prop)(x:V)(H1:Hp):Prop
 | mk:∀ a,x=.ref a->(∃ xs,AG K H1 a xs)->R (ZA K a) H1->iG K R x H1
def zT(K:Fg)(tl:TE):TI:=λσ H R=>tl σ H λx H1=>iG K R x H1
def Co{l:Expr}{tl:TE}(hl:PE X l tl):PI X tg l (Yce X.K tl):=by
 intro π s σ H R I h;refine AM (hl π s σ H _ I h) λv s1 ⟨x,H1,I1,r1,q1⟩=>?_;obtain⟨a,e,⟨xs,hq⟩,q⟩:=q1;subst e;cases r1;obtain⟨ψ,rv,p,hz⟩:=I1.list hq;refine wpAny_pyIter_list p.isList ?_;refine⟨⇑s1,[⇑s1],G,H1,Y,I1.kept (t':=s1.toks) λb o e=>Yb _ e,gG a _,⟨_,Yh _ rfl,Y,Y⟩,λb hb=>?_,q⟩;have e:b=⇑s1:=by simpa using hb
 subst e;exact I1.fpOk (Ye _) (I1.hok.fresh (Ye _))
def Gk{l:Expr}{tl:TE}(hl:PE X l tl):PI X tg l (zT X.K tl):=by
 intro π s σ H R I h;refine AM (hl π s σ H _ I h) λv s1 ⟨x,H1,I1,r1,q1⟩=>?_;obtain⟨a,e,⟨xs,hq⟩,q⟩:=q1;subst e;cases r1;obtain⟨ψ,rv,p,hz⟩:=I1.tuple hq;refine wpAny_pyIter_tuple (show s1.heap.IsTuple a ψ.toArray from p) ?_;refine⟨⇑s1,[⇑s1],G,H1,Y,I1.kept (t':=s1.toks) λb o e=>Yb _ e,gb a _,⟨_,Yh _ rfl,Y,Y⟩,λb hb=>?_,q⟩;have e:b=⇑s1:=by simpa using hb
 subst e;exact I1.fpOk (Ye _) (I1.hok.fresh (Ye _))
def yt{π:PL}{σ:St}{H:Hp}{s:χ}{R:It->Hp->Prop}{E:EV}{lo hi:Int}{t u v:Tok}{tk:Nat}(I:Inv X π σ H s)(h1:-(2 ^ 62)<=lo)(h2:lo<2 ^ 62)(h3:-(2 ^ 62)<=hi)(h4:hi<2 ^ 62)
  (q:R (UP lo (hi - lo).toNat) H):wpAny 0.3 X.A (pyIter (.ref ⇑s)) (Y8 X π σ tg R) E {s with heap:=s.heap.push {cls:=.type "range",data:=.fields #[.int lo t,.int hi u,.int 1 v] },toks:=tk}:=by
 refine wpAny_pyIter_range (IsRange.new ..) (small_one h1 h2 h3 h4) ?_;have I1:Inv X π σ H {s with heap:=s.heap.push {cls:=.type "range",data:=.fields #[.int lo t,.int hi u,.int 1 v] },toks:=tk}:=I.kept λb o e=>Yb _ e;refine⟨(s.heap.push {cls:=.type "range",data:=.fields #[.int lo t,.int hi u,.int 1 v] }).objs.size,[(s.heap.push {cls:=.type "range",data:=.fields #[.int lo t,.int hi u,.int 1 v] }).objs.size],G,H,Y,
  I1.kept (t':=tk) λb o e=>Yb _ e,sW _ lo (hi - lo).toNat,?_,λb hb=>?_,q⟩
 ·have e1:lo + ((0:Nat):Int) * 1=lo:=by simp
  have e2:(((hi - lo).toNat:Nat):Int) - ((0:Nat):Int)=Builtin.Range.rangeSize lo hi 1:=by rw[rangeSize_one];split <;> omega
  show IsRangeIter _ _ (lo + ((0:Nat):Int) * 1) ((((hi - lo).toNat:Nat):Int) - ((0:Nat):Int)) 1;rw[e1,e2];exact Yh _ rfl
 ·have e:b=(s.heap.push {cls:=.type "range",data:=.fields #[.int lo t,.int hi u,.int 1 v] }).objs.size:=by simpa using hb
  subst e;exact I1.fpOk (Ye _) (I1.hok.fresh (Ye _))
inductive jC(R:It->Hp->Prop)(vs:LV)(H1:Hp):Prop
 | mk:∀ j:Int,vs=[.int j]->-(2 ^ 62)<=j->j<2 ^ 62->R (UP 0 j.toNat) H1->jC R vs H1
def Ycd(ta:TA):TI:=λσ H R=>ta σ H λvs H1=>jC R vs H1
def PV{a:Expr}{ta:TA}{p pos:Pos}(hg:Gl X "range")(hm:X.mg "range"=none)(ha:PA X [a] ta)(hs:starEach [a] X.env=[(false,eval a X.env)]:=by rfl):PI X tg (.Call (.Name "range" p) [a] [] pos) (Ycd ta):=by
 intro π s σ H R I h;refine Call_ (Il I hg hm boot_range (La (AM (ha pos π s σ H _ I h) λus s1 ⟨vs,H1,I1,r1,q1⟩=>?_) hs rfl));obtain⟨j,e,q1,q2,q⟩:=q1;subst e;cases r1 with
 | cons r rr =>
  cases rr;obtain⟨t,rfl⟩:=r;exact call_range_1 (yt I1 0.0 0.0 q1 q2 (by simpa using q))
def CM(wi:TI)(g:TG)(tb:TS):TS:=λD σ H=>wi σ H λJ H1=>∃ W:Nat->Nat->St->Hp->Prop,(∃ m,W 0 m σ H1)/\∀ i m σ H,W i m σ H ->
 (J.stop i H/\D.nx σ H)\/(J.go i H/\∃ N:SW,(∀ σ' H',N σ' H'->∃ m',m'<m/\W (i + 1) m' σ' H')/\∀ x H',J.yld i H x H'->g x σ H' λσ2 H2=>tb {D with nx:=N,ct:=N,bk:=D.nx} σ2 H2)
def Oj(fp:ζ)(h:Heap):PL:=fp.filterMap λb=>(h.get? b).map λo=>(b,o)
def SY{fp:ζ}{h:Heap}{b:δ}{o:Obj}(hb:b∈fp)(e:h.get? b≈o):(b,o)∈Oj fp h:=List.mem_filterMap.mpr ⟨b,hb,by rw[e];rfl⟩
def qN{fp:ζ}{h:Heap}{p:δ×Obj}(hp:p∈Oj fp h):p.1∈fp/\h.get? p.1≈p.2:=by
 obtain⟨b,hb,e⟩:=List.mem_filterMap.mp hp;cases q:h.get? b with
 | none=>rw[q]at e;cases e
 | some o =>
  rw[q]at e;have e':(b,o)=p:=Bk e;subst e';exact⟨hb,q⟩
def Inv.pinned{π:PL}{σ:St}{H:Hp}{s:χ}{fp:ζ}(I:Inv X π σ H s)(hf:∀ b∈fp,Cv X π H b)(ho:∀ b∈fp,∃ o,s.heap.get? b≈o/\∀ v,o.data≠.cell v):Inv X (π++Oj fp s.heap) σ H s :=
 I.pins_of λp hp=>(Ym.mp hp).elim (λz=>I.pin p (E1 _ z)) λz=>by
  obtain⟨hb,e⟩:=qN z;obtain⟨f0,f1,f2,_⟩:=hf p.1 hb;obtain⟨o,e',d⟩:=ho p.1 hb;rw[e]at e';cases e';exact⟨e,f0,f1,f2,d⟩
def Inv.unpinned{π pl:PL}{σ:St}{H:Hp}{s:χ}(I:Inv X (π++pl) σ H s):Inv X π σ H s:=I.pins_of λp hp=>I.pin p (E1 _ (Gy _ hp))
def Bm{iter:Expr}{body:List Stmt}{wi:TI}{g:TG}{tb:TS}{pos:Pos}(hp:PassesOwn 0.3 X.A X.env X.xe)(hc:X.calm=true)(hi:PI X tg iter wi)(hg:PG X tg g)(hb:Bc X body tb)
  (hs:∀ x,foldedSetIterable iter X.env x=pure x:=by intro _;rfl):PS X (.For tg iter body [] pos) (CM wi g tb):=by
 intro π s σ H D I h;refine wpAny_For (AM (hi π s σ H _ I h) λv s1 h1=>AM h1 λitv s2 h2=>?_) hs;obtain⟨it,fp,tn,J,H2,e,I2,T,KW,f2,W,⟨m0,w0⟩,turn⟩:=h2;subst e;have stat:∀ {H':Hp},(∀ b∈fp,H' b=none)->∀ b∈fp,Cv X π H' b:=λhn b hb=>⟨hn b hb,(f2 b hb).2⟩;refine codeAny_forLoop_any (λn s'=>∃ i σ' H',Inv X π σ' H' s'/\tn i s'.heap/\(∀ b∈fp,H' b=none)/\W i n σ' H') ?_ m0 ⟨0,σ,H2,I2,KW,λb hb=>(f2 b hb).1,w0⟩;rintro n s3 ⟨i,σ3,H3,I3,Np,OQ,w3⟩
 rcases turn i n σ3 H3 w3 with⟨stop,qn⟩ | ⟨go,N,hN,step⟩
 ·refine wpAny_passesOwn hp (AM (T.done X rfl rfl rfl hc i π s3 σ3 H3 X.xe I3 (stat OQ) Np stop) λr s4 ⟨hr,I4⟩=>?_);subst hr;exact wpAny_execs_nil ⟨σ3,H3,I4,qn⟩
 ·refine wpAny_passesOwn hp (AM (T.item X rfl rfl rfl hc i π s3 σ3 H3 X.xe I3 (stat OQ) Np go) λr s4 ⟨u,hr,h4⟩=>?_);subst hr;refine wpAny_passesOwn hp (AM h4 λ_ s5 ⟨x,H5,I5,r5,y5,KU,VE⟩=>?_);have ZE:=I5.pinned (stat VE) (T.obj _ _ KU);refine wpAny_passesOwn hp (AM (hg _ s5 σ3 H5 x u _ ZE r5 (step x H5 y5)) λ_ s6 ⟨σ6,H6,I6,q6⟩=>?_);refine wpAny_passesOwn hp (AM (hb _ s6 σ6 H6 _ I6 q6) λf s7 q7=>?_);have again:∀ {σ7:St} {H7:Hp},Inv X (π++Oj fp s5.heap) σ7 H7 s7->N σ7 H7->∃ m,m<n/\∃ i σ' H',Inv X π σ' H' s7/\tn i s7.heap/\(∀ b∈fp,H' b=none)/\W i m σ' H':=λ{σ7 H7} I7 n7=>by
   obtain⟨m',hm,w7⟩:=hN σ7 H7 n7;refine⟨m',hm,i + 1,σ7,H7,I7.unpinned,T.keep _ _ _ KU λb hb o e=>(I7.pin (b,o) (E1 _ (E1 _ (SY hb e)))).1,λb hb=>?_,w7⟩;obtain⟨o,e,d⟩:=T.obj _ _ KU b hb;exact(I7.pin (b,o) (E1 _ (E1 _ (SY hb e)))).2.1
  cases f with
  | next=>obtain⟨σ7,H7,I7,n7⟩:=q7;exact again I7 n7
  | cont=>obtain⟨σ7,H7,I7,n7⟩:=q7;exact again I7 n7
  | brk=>obtain⟨σ7,H7,I7,q7⟩:=q7;exact⟨σ7,H7,I7.unpinned,q7⟩
  | ret v=>obtain⟨x7,σ7,H7,I7,r7,q7⟩:=q7;exact⟨x7,σ7,H7,I7.unpinned,r7,q7⟩
end
abbrev R2:=V->V->Hp->VK->Prop
def BM(X:Cx)(f:ε->ε->Sem ε)(r:R2):Prop :=
 ∀(π:PL) (s:χ) (σ:St) (H:Hp) (x y:V) (v u:ε) (Q:VK),Inv X π σ H s->Ae x v->Ae y u->r x y H Q ->
  wpAny 0.3 X.A (f v u) (EP X π σ Q) X.xe s
def Y5(X:Cx)(f:ε->Sem ε)(r:V->Hp->VK->Prop):Prop :=
 ∀(π:PL) (s:χ) (σ:St) (H:Hp) (x:V) (v:ε) (Q:VK),Inv X π σ H s->Ae x v->r x H Q ->
  wpAny 0.3 X.A (f v) (EP X π σ Q) X.xe s
def EG(X:Cx)(f:ε)(r:LV->Hp->VK->Prop):Prop :=
 ∀(π:PL) (s:χ) (σ:St) (H:Hp) (xs:LV) (us:LU) (Q:VK),Inv X π σ H s->AX xs us->r xs H Q ->
  wpAny 0.3 X.A (call f us) (EP X π σ Q) X.xe s
def ze(X:Cx)(r:V->Hp->(Bool->Hp->Prop)->Prop):Prop :=
 ∀(π:PL) (s:χ) (σ:St) (H:Hp) (x:V) (v:ε) (Q:Bool->Hp->Prop),Inv X π σ H s->Ae x v->r x H Q ->
  wpAny 0.3 X.A (truthy v) (TP X π σ Q) X.xe s
def Nm(r:R2)(ta tb:TE):TE:=λσ H Q=>ta σ H λx H1=>tb σ H1 λy H2=>r x y H2 Q
def lQ(r:V->Hp->VK->Prop)(ta:TE):TE:=λσ H Q=>ta σ H λx H1=>r x H1 Q
inductive rI(C:Int->Int->Prop)(g:Int->Int->V)(x:V)(y:V)(H:Hp)(Q:VK):Prop
 | mk:∀ i j,x=.int i->y=.int j->C i j->Q (g i j) H->rI C g x y H Q
inductive IT(g:Int->Int->V)(x:V)(y:V)(H:Hp)(Q:VK):Prop
 | mk:∀ i j,x=.int i->y=.int j->Q (g i j) H->IT g x y H Q
inductive rU(g:Int->V)(x:V)(H:Hp)(Q:VK):Prop
 | mk:∀ i,x=.int i->Q (g i) H->rU g x H Q
section
variable {X:Cx}{a b c:Expr}{ta tb tc:TE}{pos:Pos}
def YN(ha:PE X a ta)(hb:PE X b tb){π:PL}{s:χ}{σ:St}{H:Hp}{R:V->V->Hp->Prop}(I:Inv X π σ H s)
  (h:ta σ H λx H1=>tb σ H1 λy H2=>R x y H2) {Q:EV} {f:ε->ε->Sem ε}
  (hf:∀ v u s2 x y H2,Inv X π σ H2 s2->Ae x v->Ae y u->R x y H2->wpAny 0.3 X.A (f v u) Q X.xe s2):
  wpAny 0.3 X.A (eval a X.env) (λv s₁=>wpAny 0.3 X.A (eval b X.env) (λu s₂=>wpAny 0.3 X.A (f v u) Q X.xe s₂) X.xe s₁) X.xe s:=by
 refine AM (ha π s σ H _ I h) λv s1 ⟨x,H1,I1,r1,q1⟩=>?_;refine AM (hb π s1 σ H1 _ I1 q1) λu s2 ⟨y,H2,I2,r2,q2⟩=>?_;exact hf v u s2 x y H2 I2 r1 r2 q2
def Ai{op:Operator}{r:R2}(ho:BM X (binaryOp op) r)(ha:PE X a ta)(hb:PE X b tb):PE X (.BinOp a op b pos) (Nm r ta tb):=by
 ac_rfl;exact wpAny_BinOp (YN ha hb I h λv u s2 x y H2 I2 rx ry q=>ho π s2 σ H2 x y v u Q I2 rx ry q)
def Ob{op:UnaryOp}{r:V->Hp->VK->Prop}(ho:Y5 X (unaryOp op) r)(ha:PE X a ta):PE X (.UnaryOp op a pos) (lQ r ta):=by
 ac_rfl;exact UnaryOp_ (AM (ha π s σ H _ I h) λv s1 ⟨x,H1,I1,r1,q1⟩=>ho π s1 σ H1 x v Q I1 r1 q1)
def MV{f:ε->ε->Sem ε}{C:Int->Int->Prop}{g:Int->Int->Int}
  (rule:∀(i j:Int) (t u:Tok) (s:χ) (Q:EV) (E:EV),C i j->Q (.int (g i j) s.toks) {s with toks:=s.toks + 1}->wpAny 0.3 X.A (f (.int i t) (.int j u)) Q E s):
  BM X f (rI C λi j=>.int (g i j)):=by
 exfalso;obtain⟨i,j,rfl,rfl,hc,q⟩:=h;obtain⟨t,rfl⟩:=rx;obtain⟨t',rfl⟩:=ry;exact rule i j t t' s _ _ hc ⟨.int (g i j),H,I.tok _,⟨Z⟩,q⟩
def jt{f:ε->ε->Sem ε}{g:Int->Int->Int}
  (rule:∀(i j:Int) (t u:Tok) (s:χ) (Q:EV) (E:EV),Q (.int (g i j) s.toks) {s with toks:=s.toks + 1}->wpAny 0.3 X.A (f (.int i t) (.int j u)) Q E s):
  BM X f (IT λi j=>.int (g i j)):=by
 exfalso;obtain⟨i,j,rfl,rfl,q⟩:=h;obtain⟨t,rfl⟩:=rx;obtain⟨t',rfl⟩:=ry;exact rule i j t t' s _ _ ⟨.int (g i j),H,I.tok _,⟨Z⟩,q⟩
def UE{f:ε->ε->Sem ε}{g:Int->Int->Bool}
  (rule:∀(i j:Int) (t u:Tok) (s:χ) (Q:EV) (E:EV),Q (.bool (g i j)) s->wpAny 0.3 X.A (f (.int i t) (.int j u)) Q E s):
  BM X f (IT λi j=>.bl (g i j)):=by
 exfalso;obtain⟨i,j,rfl,rfl,q⟩:=h;obtain⟨t,rfl⟩:=rx;obtain⟨t',rfl⟩:=ry;exact rule i j t t' s _ _ ⟨.bl (g i j),H,I,Y,q⟩
def zD(i j:Int):Prop:=0<j/\j<1073741824
def zE(i j:Int):Prop:=0<=j/\j<=1000000/\i.natAbs<2 ^ 64
def YS(i j:Int):Prop:=(-(2 ^ 64)<i/\i<2 ^ 64)\/(-(2 ^ 64)<j/\j<2 ^ 64)
def YS.ok{i j:Int}(h:YS i j):IntMulOk i j:=by
 rcases h with⟨h1,h2⟩ | ⟨h1,h2⟩
 ·exact .of_left (intBits_le_64 h1 h2)
 ·exact .of_right (intBits_le_64 h1 h2)
def K7:BM X (binaryOp .Add) (IT λi j=>.int (i + j)):=jt λ_ _ _ _ _ _ _ q=>add_int q
def u9:BM X (binaryOp .Sub) (IT λi j=>.int (i - j)):=jt λ_ _ _ _ _ _ _ q=>sub_int q
def Rc:BM X (binaryOp .Mult) (rI YS λi j=>.int (i * j)):=MV λ_ _ _ _ _ _ _ hc q=>mul_int q hc.ok
def cm:BM X (binaryOp .FloorDiv) (rI zD λi j=>.int (i / j)):=MV λi j _ _ _ _ _ hc q=>by
 have h1:(0:Int)<j:=hc.1;have h2:j<1073741824:=hc.2;exact floordiv_int 0.0 (by rw[Int.fdiv_eq_ediv_of_nonneg i 0.0];exact q) (.inl (PyProof.noPylong_small 0.0))
def Jw:BM X (binaryOp .Mod) (rI (λ_ j=>0<j) λi j=>.int (i % j)):=MV λi j _ _ _ _ _ hc q=>by
 have h1:(0:Int)<j:=hc;exact mod_int' 0.0 (by rw[Int.fmod_eq_emod_of_nonneg i 0.0];exact q)
def Mt:BM X (binaryOp .Pow) (rI zE λi j=>.int (i ^ j.toNat)):=MV λ_ _ _ _ _ _ _ hc q=>pow_int_small hc.1 hc.2.1 hc.2.2 q
def lN{f:ε->Sem ε}{g:Int->Int}
  (rule:∀(i:Int) (t:Tok) (s:χ) (Q:EV) (E:EV),Q (.int (g i) s.toks) {s with toks:=s.toks + 1}->wpAny 0.3 X.A (f (.int i t)) Q E s):
  Y5 X f (rU λi=>.int (g i)):=by
 intro π s σ H x v Q I rx h;obtain⟨i,rfl,q⟩:=h;obtain⟨t,rfl⟩:=rx;exact rule i t s _ _ ⟨.int (g i),H,I.tok _,⟨Z⟩,q⟩
def Ow:Y5 X (unaryOp .USub) (rU λi=>.int (-i)):=lN λ_ _ _ _ _ q=>neg_int q
end
def ki:V->V->Bool
 | .non,.non=>true | .non,.int _=>true | .int _,.non=>true | .non,.bl _=>true | .bl _,.non=>true | .non,.str _=>true | .str _,.non=>true
 | .int _,.int _=>true | .bl _,.bl _=>true | .str _,.str _=>true | .byt _,.byt _=>true
 | .int _,.str _=>true | .str _,.int _=>true | .bl _,.str _=>true | .str _,.bl _=>true
 | _,_=>false
def lg:R2:=λx y H Q=>ki x y=true/\Q (.bl (decide (x=y))) H
def lZ:R2:=λx y H Q=>ki x y=true/\Q (.bl (!decide (x=y))) H
def bq{i j:Int}:decide (V.int i=V.int j)=(i == j):=by
 rw[IK];simp
def i4{i j:Bool}:decide (V.bl i=V.bl j)=(i == j):=by
 rw[IK];simp
def br{i j:Str}:decide (V.str i=V.str j)=(i == j):=by
 rw[IK];simp
def bp{i j:Array UInt8}:decide (V.byt i=V.byt j)=(i.toList == j.toList):=by
 rw[IK];cases i;cases j;simp
section
variable {X:Cx}{a b c:Expr}{ta tb tc:TE}{pos:Pos}
def BS{π:PL}{σ:St}{H:Hp}{s:χ}{Q:VK}{k k':Bool}(I:Inv X π σ H s)(q:Q (.bl k) H)(e:k=k'):EP X π σ Q (.bool k') s:=by
 subst e;exact⟨.bl k,H,I,Y,q⟩
def BP:BM X (compareOp .Eq) lg:=by
 exfalso;obtain⟨hs,q⟩:=h;cases x with
 | non =>
  cases rx;cases y with
  | non=>cases ry;exact PySem.EqNone.eq_none_none (BS I q 0.6)
  | bl j=>cases ry;exact PySem.EqNone.eq_none_bool (BS I q 0.6)
  | int j=>obtain⟨t',rfl⟩:=ry;exact PySem.EqNone.eq_none_int (BS I q 0.6)
  | str j=>obtain⟨t',rfl⟩:=ry;exact PySem.EqNone.eq_none_str (BS I q 0.6)
  | _=>exact absurd 2.8 Yl
 | bl i =>
  cases rx;cases y with
  | non=>cases ry;exact PySem.EqNone.eq_bool_none (BS I q 0.6)
  | bl j=>cases ry;exact eq_bool (BS I q i4)
  | str j=>obtain⟨t',rfl⟩:=ry;exact PySem.EqMixed.eq_bool_str (BS I q 0.6)
  | _=>exact absurd 2.8 Yl
 | int i =>
  obtain⟨t,rfl⟩:=rx;cases y with
  | non=>cases ry;exact PySem.EqNone.eq_int_none (BS I q 0.6)
  | int j=>obtain⟨t',rfl⟩:=ry;exact eq_int (BS I q bq)
  | str j=>obtain⟨t',rfl⟩:=ry;exact PySem.EqMixed.eq_int_str (BS I q 0.6)
  | _=>exact absurd 2.8 Yl
 | str i =>
  obtain⟨t,rfl⟩:=rx;cases y with
  | non=>cases ry;exact PySem.EqNone.eq_str_none (BS I q 0.6)
  | bl j=>cases ry;exact PySem.EqMixed.eq_str_bool (BS I q 0.6)
  | int j=>obtain⟨t',rfl⟩:=ry;exact PySem.EqMixed.eq_str_int (BS I q 0.6)
  | str j=>obtain⟨t',rfl⟩:=ry;exact eq_str (BS I q br)
  | _=>exact absurd 2.8 Yl
 | byt i =>
  obtain⟨t,rfl⟩:=rx;cases y with
  | byt j=>obtain⟨t',rfl⟩:=ry;exact W.eq_bytes (BS I q bp)
  | _=>exact absurd 2.8 Yl
 | _=>cases y <;> exact absurd 2.8 Yl
def OZ:BM X (compareOp .NotEq) lZ:=by
 exfalso;obtain⟨hs,q⟩:=h;cases x with
 | non =>
  cases rx;cases y with
  | non=>cases ry;exact PySem.EqNone.ne_none_none (BS I q 0.6)
  | bl j=>cases ry;exact PySem.EqNone.ne_none_bool (BS I q 0.6)
  | int j=>obtain⟨t',rfl⟩:=ry;exact PySem.EqNone.ne_none_int (BS I q 0.6)
  | str j=>obtain⟨t',rfl⟩:=ry;exact PySem.EqNone.ne_none_str (BS I q 0.6)
  | _=>exact absurd 2.8 Yl
 | bl i =>
  cases rx;cases y with
  | non=>cases ry;exact PySem.EqNone.ne_bool_none (BS I q 0.6)
  | bl j=>cases ry;exact ne_bool (BS I q (congrArg not i4))
  | str j=>obtain⟨t',rfl⟩:=ry;exact PySem.EqMixed.ne_bool_str (BS I q 0.6)
  | _=>exact absurd 2.8 Yl
 | int i =>
  obtain⟨t,rfl⟩:=rx;cases y with
  | non=>cases ry;exact PySem.EqNone.ne_int_none (BS I q 0.6)
  | int j=>obtain⟨t',rfl⟩:=ry;exact ne_int (BS I q (congrArg not bq))
  | str j=>obtain⟨t',rfl⟩:=ry;exact PySem.EqMixed.ne_int_str (BS I q 0.6)
  | _=>exact absurd 2.8 Yl
 | str i =>
  obtain⟨t,rfl⟩:=rx;cases y with
  | non=>cases ry;exact PySem.EqNone.ne_str_none (BS I q 0.6)
  | bl j=>cases ry;exact PySem.EqMixed.ne_str_bool (BS I q 0.6)
  | int j=>obtain⟨t',rfl⟩:=ry;exact PySem.EqMixed.ne_str_int (BS I q 0.6)
  | str j=>obtain⟨t',rfl⟩:=ry;exact ne_str (BS I q (congrArg not br))
  | _=>exact absurd 2.8 Yl
 | byt i =>
  obtain⟨t,rfl⟩:=rx;cases y with
  | byt j=>obtain⟨t',rfl⟩:=ry;exact W.ne_bytes (BS I q (congrArg not bp))
  | _=>exact absurd 2.8 Yl
 | _=>cases y <;> exact absurd 2.8 Yl
def Od:BM X (compareOp .Lt) (IT λi j=>.bl (decide (i<j))):=UE λ_ _ _ _ _ _ _ q=>lt_int q
def Mm:BM X (compareOp .LtE) (IT λi j=>.bl (decide (i<=j))):=UE λ_ _ _ _ _ _ _ q=>le_int q
def Hz:BM X (compareOp .Gt) (IT λi j=>.bl (decide (j<i))):=UE λ_ _ _ _ _ _ _ q=>gt_int q
def Yb0:BM X (compareOp .GtE) (IT λi j=>.bl (decide (j<=i))):=UE λ_ _ _ _ _ _ _ q=>ge_int q
def qu:BM X (compareOp .In) (λx y H Q=>∃ i j,x=.str i/\y=.str j/\Q (.bl (!(Builtin.Str.occurrences j i 0 ↑j 1).isEmpty)) H):=by
 exfalso;obtain⟨i,j,rfl,rfl,q⟩:=h;obtain⟨t,rfl⟩:=rx;obtain⟨t',rfl⟩:=ry;exact in_str (BS I q rfl)
def u7:BM X (compareOp .Is) (λx y H Q=>y=.non/\Q (.bl (decide (x=.non))) H):=by
 exfalso;obtain⟨rfl,q⟩:=h;cases ry;refine is_none_gen (BS I q ?_);cases x <;> first
  | (cases rx;rfl)
  | (obtain⟨t,rfl⟩:=rx;rfl)
def xF:BM X (compareOp .IsNot) (λx y H Q=>y=.non/\Q (.bl (!decide (x=.non))) H):=by
 exfalso;obtain⟨rfl,q⟩:=h;cases ry;refine isnot_none_gen (BS I q ?_);cases x <;> first
  | (cases rx;rfl)
  | (obtain⟨t,rfl⟩:=rx;rfl)
def Aj(b:Expr){op:CmpOp}(h:op≠.In:=by decide)(h2:op≠.NotIn:=by decide):behindInMarks op b=false:=by
 have e1:(op == CmpOp.In)=false:=by cases op <;> first | rfl | exact absurd rfl h
 have e2:(op == CmpOp.NotIn)=false:=by cases op <;> first | rfl | exact absurd rfl h2
 cases b <;> simp[behindInMarks,e1,e2]
def C3{op:CmpOp}{r:R2}(ho:BM X (compareOp op) r)(ha:PE X a ta)(hb:PE X b tb)(hm:behindInMarks op b=false):PE X (.Compare a [op] [b] pos) (Nm r ta tb):=by
 ac_rfl;exact wpAny_Compare1 (YN ha hb I h λv u s2 x y H2 I2 rx ry q=>ho π s2 σ H2 x y v u Q I2 rx ry q) hm
inductive jL(Q:Bool->Hp->Prop)(x:V)(H':Hp):Prop
 | mk:∀ k,x=.bl k->Q k H'->jL Q x H'
def ij(t:TE):TT:=λσ H Q=>t σ H λx H'=>jL Q x H'
def An{op:CmpOp}{r:R2}(ho:BM X (compareOp op) r)(ha:PE X a ta)(hb:PE X b tb)(hm:behindInMarks op b=false):PT X (.Compare a [op] [b] pos) (ij (Nm r ta tb)):=by
 ac_rfl;refine wpAny_isTrue_Compare1 (AM (ha π s σ H _ I h) λv s1 ⟨x,H1,I1,r1,q1⟩=>AM (hb π s1 σ H1 _ I1 q1) λu s2 ⟨y,H2,I2,r2,q2⟩ =>
  AM (ho π s2 σ H2 x y v u _ I2 r1 r2 q2) λc s3 ⟨z,H3,I3,r3,k,e,q3⟩=>?_) hm
 subst e;cases r3;exact Jh ⟨H3,I3,q3⟩
inductive cq(r':R2)(tc:TE)(σ:St)(Q:VK)(y:V)(z:V)(H3:Hp):Prop
 | mk:∀ k,z=.bl k->(if k=true then tc σ H3 λw' H4=>r' y w' H4 Q else Q (.bl false) H3)->cq r' tc σ Q y z H3
def vS(r r':R2)(ta tb tc:TE):TE:=λσ H Q=>ta σ H λx H1=>tb σ H1 λy H2=>r x y H2 λz H3=>cq r' tc σ Q y z H3
def Wk{op Uj:CmpOp}{r r':R2}(ho:BM X (compareOp op) r)(E8:BM X (compareOp Uj) r')(ha:PE X a ta)(hb:PE X b tb)(hc:PE X c tc)
  (hm:lastMarks [op,Uj] [b,c]=false:=by with_unfolding_all rfl):PT X (.Compare a [op,Uj] [b,c] pos) (ij (vS r r' ta tb tc)):=by
 ac_rfl;refine isTrue_chain (AM (ha π s σ H _ I h) λv s1 ⟨x,H1,I1,r1,q1⟩=>test_link (AM (hb π s1 σ H1 _ I1 q1) λu s2 ⟨y,H2,I2,r2,q2⟩ =>
  AM (ho π s2 σ H2 x y v u _ I2 r1 r2 q2) λd s3 ⟨z,H3,I3,r3,k,e,q3⟩=>?_)) hm
 subst e;cases r3;refine Jh ?_;cases k with
 | false =>
  obtain⟨k',e',q'⟩:=q3;cases e';exact ite_ff ⟨H3,I3,q'⟩
 | true =>
  refine ite_tt (test_last (AM (hc π s3 σ H3 _ I3 q3) λw' s4 ⟨z',H4,I4,r4,q4⟩=>AM (E8 π s4 σ H4 y z' u w' _ I4 r2 r4 q4) λd' s5 ⟨z2,H5,I5,r5,k2,e2,q5⟩=>?_));subst e2;cases r5;exact Jh ⟨H5,I5,q5⟩
def kf(K:Fg)(x:V)(H:Hp)(k:Bool):Prop :=
 match x with
 | .non=>k=false
 | .bl b=>k=b
 | .int i=>k=(i != 0)
 | .str y=>↑y<=sizeLine/\k=((↑y:Int) != 0)
 | .byt y=>y.size<=sizeLine/\k=((y.size:Int) != 0)
 | .ref p=>(∃ xs,SqL K H p xs/\k=!xs.isEmpty)\/(∃ xs,AG K H p xs/\k=!xs.isEmpty)\/∃ ν,H p≈(.dK ν)/\k=!ν.isEmpty
 | _=>False
def rO{κ:Type}{ν:List (κ×V)}{vs:List (κ×ε)}(r:KV ν vs):(!vs.isEmpty)=!ν.isEmpty:=by
 cases r <;> rfl
def gX{xs:LV}{ψ:LU}(r:AX xs ψ):(!ψ.toArray.isEmpty)=!xs.isEmpty:=by
 cases r <;> simp
def K_:(sizeLine:Nat)<2 ^ 63:=by rw[sizeLine_eq];decide
def vW:ze X (λx H Q=>∃ k,kf X.K x H k/\Q k H):=by
 intro π s σ H x v Q I rx h;obtain⟨k,e,q⟩:=h;have hl:=K_;have hs:sizeLine=16777216:=sizeLine_eq;cases x with
 | non =>
  cases rx;have e':k=false:=e;subst e';exact truthy_none ⟨H,I,q⟩
 | bl b =>
  cases rx;have e':k=b:=e;subst e';exact Jh ⟨H,I,q⟩
 | int i =>
  obtain⟨t,rfl⟩:=rx;have e':k=(i != 0):=e;subst e';exact PySem.P.truthy_int ⟨H,I,q⟩
 | str y =>
  obtain⟨t,rfl⟩:=rx;obtain⟨hy,e'⟩:↑y<=sizeLine/\k=((↑y:Int) != 0):=e;subst e';exact PySem.P.truthy_str 0.0 ⟨H,I.tok _,q⟩
 | byt y =>
  obtain⟨t,rfl⟩:=rx;obtain⟨hy,e'⟩:y.size<=sizeLine/\k=((y.size:Int) != 0):=e;subst e';exact W.truthy_bytes 0.0 ⟨H,I.tok _,q⟩
 | ref p =>
  cases rx;have e':(∃ xs,SqL X.K H p xs/\k=!xs.isEmpty)\/(∃ xs,AG X.K H p xs/\k=!xs.isEmpty)\/∃ ν,H p≈(.dK ν)/\k=!ν.isEmpty:=e
  rcases e' with⟨xs,hx,e'⟩ | ⟨xs,hx,e'⟩ | ⟨ν,hx,e'⟩
  ·subst e';obtain⟨ψ,r,pl,hz⟩:=I.list hx;have hlen:=↑r;exact wpAny_truthy_list pl.isList (by simp only[Yn];omega) ⟨H,I.tok _,by rw[gX r];exact q⟩
  ·subst e';obtain⟨ψ,r,pl,hz⟩:=I.tuple hx;have hlen:=↑r;exact truthy_tuple pl (by simp only[Yn];omega) ⟨H,I.tok _,by rw[gX r];exact q⟩
  ·subst e';obtain⟨hz,hS,vs,r,m⟩:↑ν<=sizeLine/\(p == sysModules)=false/\∃ vs,KV ν vs/\s.heap.DictOf (Bp X.prog X.w) p vs:=I.hok p _ hx;have hlen:↑ν=↑vs:=Yp r;exact wpAny_truthy_dict hS m 0.0 ⟨H,I.tok _,by rw[rO r];exact q⟩
 | _=>exact(show False from e).elim
def Zip(ha:PE X a ta)(he:∀ whole,isTrue a X.env whole=(do let v <- whole;standAt a.pos;holding [v] (truthy v))):
  PT X a (λσ H Q=>ta σ H λx H'=>∃ k,kf X.K x H' k/\Q k H'):=by
 ac_rfl;exact isTrue_plain (AM (ha π s σ H _ I h) λv s1 ⟨x,H1,I1,r1,q1⟩=>vW π s1 σ H1 x v Q I1 r1 q1) (he _)
def CP:BM X (binaryOp .Add) (λx y H Q=>∃ i j,x=.str i/\y=.str j/\↑i + ↑j<=sizeLine/\Q (.str (i++j)) H):=by
 exfalso;obtain⟨i,j,rfl,rfl,hz,q⟩:=h;obtain⟨t,rfl⟩:=rx;obtain⟨t',rfl⟩:=ry;exact add_str (λt' tk=>⟨.str (i++j),H,I.tok _,⟨Z⟩,q⟩) hz
def Fm{x:V}{us:LU}(r:AX [x] us):∃ u,us=[u]/\Ae x u:=by
 cases r with
 | cons r1 r2=>cases r2;exact⟨Z,r1⟩
def Og{x y:V}{us:LU}(r:AX [x,y] us):∃ u w',us=[u,w']/\Ae x u/\Ae y w':=by
 cases r with
 | cons r1 r2 =>
  cases r2 with
  | cons r3 r4=>cases r4;exact⟨_,Z,r1,r3⟩
def p_(hc:X.calm=true):EG X (.builtin "max") (λxs H Q=>∃ i j,xs=[.int i,.int j]/\Q (.int (if j > i then j else i)) H):=by
 intro π s σ H xs us Q I r h;obtain⟨i,j,rfl,q⟩:=h;obtain⟨u,w',rfl,⟨t,rfl⟩,⟨t',rfl⟩⟩:=Og r;refine max_two_ints (I.ok.hd hc) λh' tk k=>⟨_,H,I.kept k,?_,q⟩;by_cases hj:j > i
 ·rw[if_pos hj,if_pos hj];exact⟨Z⟩
 ·rw[if_neg hj,if_neg hj];exact⟨Z⟩
def qC(hc:X.calm=true):EG X (.builtin "min") (λxs H Q=>∃ i j,xs=[.int i,.int j]/\Q (.int (if j<i then j else i)) H):=by
 intro π s σ H xs us Q I r h;obtain⟨i,j,rfl,q⟩:=h;obtain⟨u,w',rfl,⟨t,rfl⟩,⟨t',rfl⟩⟩:=Og r;refine min_two_ints (I.ok.hd hc) λh' tk k=>⟨_,H,I.kept k,?_,q⟩;by_cases hj:j<i
 ·rw[if_pos hj,if_pos hj];exact⟨Z⟩
 ·rw[if_neg hj,if_neg hj];exact⟨Z⟩
def SS:EG X (.type "int") (λxs H Q=>(∃ i,xs=[.int i]/\Q (.int i) H)\/∃ k,xs=[.bl k]/\Q (.int (if k then 1 else 0)) H):=by
 intro π s σ H xs us Q I r h
 rcases h with⟨i,rfl,q⟩ | ⟨k,rfl,q⟩
 ·obtain⟨u,rfl,t,rfl⟩:=Fm r;exact call_int_int ⟨.int i,H,I,⟨Z⟩,q⟩
 ·obtain⟨u,rfl,r1⟩:=Fm r;cases r1;exact call_int_bool ⟨.int (if k then 1 else 0),H,I.tok _,⟨Z⟩,q⟩
def Xi:EG X (.type "str") (λxs H Q=>∃ i,xs=[.int i]/\i.natAbs.log2<1920/\Q (.str (toString i)) H):=by
 intro π s σ H xs us Q I r h;obtain⟨i,rfl,hz,q⟩:=h;obtain⟨u,rfl,t,rfl⟩:=Fm r;exact PySem.P.str_of_int hz ⟨.str _,H,I.tok _,⟨Z⟩,q⟩
def jc(K:Fg)(x:V)(H:Hp)(n:Nat):Prop :=
 match x with
 | .str y=>↑y<=sizeLine/\n=↑y
 | .byt y=>y.size<=sizeLine/\n=y.size
 | .ref p=>(∃ xs,SqL K H p xs/\n=↑xs)\/∃ xs,AG K H p xs/\n=↑xs
 | _=>False
def F_:EG X (.builtin "len") (λxs H Q=>∃ x n,xs=[x]/\jc X.K x H n/\Q (.int n) H):=by
 intro π s σ H xs us Q I r h;obtain⟨x,n,rfl,e,q⟩:=h;obtain⟨u,rfl,rx⟩:=Fm r;have hl:=K_;have hs:sizeLine=16777216:=sizeLine_eq;cases x with
 | str y =>
  obtain⟨t,rfl⟩:=rx;obtain⟨hy,e'⟩:↑y<=sizeLine/\n=↑y:=e;subst e';exact len_str 0.0 ⟨.int _,H,I.tok _,⟨Z⟩,q⟩
 | byt y =>
  obtain⟨t,rfl⟩:=rx;obtain⟨hy,e'⟩:y.size<=sizeLine/\n=y.size:=e;subst e';exact W.len_bytes 0.0 ⟨.int _,H,I.tok _,⟨Z⟩,q⟩
 | ref p =>
  cases rx;have e':(∃ xs,SqL X.K H p xs/\n=↑xs)\/∃ xs,AG X.K H p xs/\n=↑xs:=e
  rcases e' with⟨xs,hx,e'⟩ | ⟨xs,hx,e'⟩
  ·subst e';obtain⟨ψ,r',pl,hz⟩:=I.list hx;have hlen:=↑r';exact Calls.call_len_list pl.isList (by simp only[Yn];omega) ⟨.int ↑xs,H,I.tok _,⟨_,by simp only[Yn];rw[hlen]⟩,q⟩
  ·subst e';obtain⟨ψ,r',pl,hz⟩:=I.tuple hx;have hlen:=↑r';exact len_tuple pl (by simp only[Yn];omega) ⟨.int ↑xs,H,I.tok _,⟨_,by simp only[Yn];rw[hlen]⟩,q⟩
 | _=>exact(show False from e).elim
end
structure LR(h:Heap)(x dx C:δ)(mA:Str->OU):Prop where
 obj:h.get? x≈(W.instObj C dx)
 ns:h.Ns1 dx mA
 ne:dx≠x
def qH{h:Heap}{dx:δ}{mA:Str->OU}(n:h.Ns1 dx mA):∃ od,h.get? dx≈od/\∀ name,W.lookIn name od≈(mA name):=by
 obtain⟨o,es,ep,ho,hd,hk,_,hm⟩:=n;refine⟨o,ho,λname=>?_⟩;have e:=hm name;unfold nsFind findBy at e;rw[<- Array.find?_toList]at e;unfold W.lookIn;rw[hd];dsimp only;split
 ·rename_i y q
  rw[q]at e;exact congrArg some e
 ·rename_i q
  rw[q]at e;have a:es.toList.any (·.refKey)=false:=by
   rw[List.any_eq_false];intro y hy;obtain⟨z,t,hkey⟩:=hk y (Array.mem_toList_iff.mp hy);simp[DictEntry.refKey,hkey]
  have a':¬ es.toList.any (·.refKey)=true:=by rw[a];exact Yl
  rw[if_neg a'];exact congrArg some e
def LR.look{h:Heap}{x dx C:δ}{mA:Str->OU}(I:LR h x dx C mA):∃ od,W.InstAt h x (W.instObj C dx) C (↥od)/\∀ name,W.lookIn name od≈(mA name):=
 let⟨od,ho,hl⟩:=qH I.ns
 ⟨od,⟨I.obj,Y,Y,ho⟩,hl⟩
section
variable {prog:ω}{w:World}{A:Around}{E:EV}{s:χ}{K:Fg}{x dx C f:δ}{mA:Str->OU}{name:Str}{v:ε}
def vw{expr:Bool}{Q:EV}(X:K.In s.heap)(I:LR s.heap x dx C mA)(hg:W.plainGet K C name=true)(hh:W.hasDictIn K C=true)
  (ha:W.findIn K (.ref C) name≈none) (hv:mA name≈v) (nC:W.handedIn v=true) (h:Q v {s with toks:=s.toks + 1}):
  wpAny 0.4 A (getAttr (.ref x) name expr) Q E s:=by
 obtain⟨od,J,hl⟩:=I.look;exact W.get_value X J (W.plainGet_of hg).1 (W.findObj_own hh ha rfl (by rw[hl,hv])) nC h
def yc{pl:Sem Bool}{Q:ε×LU->χ->Prop}(X:K.In s.heap)(I:LR s.heap x dx C mA)(hg:W.plainGet K C name=true)
  (hf:W.findIn K (.ref C) name≈(↥(.ref f))) (ht:W.isFn K (.ref f)=true) (hv:mA name=none) (h:Q (.ref f,[.ref x]) s):
  wpAny 0.4 A (getMethod (.ref x) name pl) Q E s:=by
 obtain⟨od,J,hl⟩:=I.look;exact W.method_fn X J (W.plainGet_of hg).1 (W.plainGet_of hg).2 hf (beq_iff_eq.mp ht) (by show(W.lookIn name od).map (·.isSome)≈false;rw[hl,hv];rfl) h
def w4{ns:LS}{Q:Unit->χ->Prop}(X:K.In s.heap)(I:LR s.heap x dx C mA)
  (hs:W.findIn K (.ref C) "__setattr__"≈(↥(.builtin "object.__setattr__"))) (hp:W.plainOver K C=true) (ht:W.takerIn K C name≈none) (hh:W.hasDictIn K C=true)
  (hw:PySem.Within mA ns) (hsz:↑ns<=sizeLine)
  (h:∀ h',LR h' x dx C (λy=>if y=name then ↥v else mA y)->Heap.SameBut dx s.heap h'->Q () {s with heap:=h',toks:=s.toks + 2}):
  wpAny 0.4 A (setAttr (.ref x) name v) Q E s:=by
 obtain⟨od,J,hl⟩:=I.look;refine W.set_plain X J hs (W.osa_open (s:={s with toks:=s.toks + 1}) (r:=none) X J hp ht λb=>?_);obtain⟨cd,hc,U5⟩:=W.any_some hh;have hx:s.heap.get? x≈⟨.ref C,↥dx,.plain,#[]⟩:=I.obj;refine Ja (Jd (Ja (Ja (wpAny_loadPart hx (Ja (W.Looks.here (s:={s with toks:=s.toks + 1}) (W.looks_clsIn X hc) ?_))))));rw[U5];refine Jd (a:=↥dx) (Ja (Jd (Ja ?_)));refine wpAny_nsSet1 (s:={s with toks:=s.toks + 1}) I.ns λh' Jm Ha=>?_;obtain⟨oD,esD,epD,hoD,hdD,hcD⟩:=Jm.count (PySem.Within.cons name v hw);refine Ja (wpAny_lookBehind hoD (by rw[hdD];exact pastItsLine_dict (BL hcD (by rw[B_];omega))) ?_);exact Jd (h _ ⟨(Ha.2 _ (Yw I.ne)).trans I.obj,Jm,I.ne⟩ Ha)
def yC{R:Result->χ->Prop}{vs:LU}{kw:List (Str×ε)}(X:K.In s.heap)(hm:W.makesIn K C=true)
  (hi:W.findIn K (.ref C) "__init__"≈(↥(.ref f))) (hf:W.typeIn K (.ref f)≈(.type "function"))
  (h:codeAny 0.4 (A.under (.builtin "type.__call__" ⟨.ref C :: vs,kw⟩)) (.call (.ref f) ⟨.ref (⇑s + 1):: vs,kw⟩) (W.InitBack (⇑s + 1) R)
   {s with heap:=(s.heap.push W.emptyDict).push (W.instObj C ⇑s) }):
  codeAny 0.4 A (.call (.ref C) ⟨vs,kw⟩) R s:=by
 obtain⟨hh,g,d,t,os⟩:=s;exact W.make_core (W.makes_of X hm) (W.looks_findIn X hi) (λself=>W.bind_fn X self hf) (.inl rfl) h
end
def A0(f:Str)(v:V):List (Str×V)->List (Str×V)
 | []=>[(f,v)]
 | (g,x):: r=>if g=f then(g,v):: r else(g,x):: A0 f v r
theorem CD(f g:Str)(v:V):∀ fs:List (Str×V),(A0 f v fs).lookup g=if g=f then ↥v else fs.lookup g
 | []=>by
  show List.lookup g [(f,v)]=_;by_cases h:g=f
  ·have hb:(g == f)=true:=beq_iff_eq.mpr h;simp only[List.lookup,hb,if_pos h]
  ·have hb:(g == f)=false:=Nb.mpr h;simp only[List.lookup,hb,if_neg h]
 | (k,x):: r=>by
  have ih:=CD f g v r;rw[show A0 f v ((k,x):: r)=(if k=f then(k,v):: r else(k,x):: A0 f v r)from rfl];by_cases hk:k=f
  ·rw[if_pos hk];by_cases h:g=k
   ·have hb:(g == k)=true:=beq_iff_eq.mpr h;simp only[List.lookup,hb,if_pos (h.trans hk)]
   ·have hb:(g == k)=false:=Nb.mpr h;simp only[List.lookup,hb,if_neg (λe:g=f=>h (e.trans hk.symm))]
  ·rw[if_neg hk];by_cases h:g=k
   ·have hb:(g == k)=true:=beq_iff_eq.mpr h;simp only[List.lookup,hb,if_neg (λe:g=f=>hk (h.symm.trans e))]
   ·have hb:(g == k)=false:=Nb.mpr h;simp only[List.lookup,hb];exact ih
theorem XF(f:Str)(v:V):∀ fs:List (Str×V),f∈(A0 f v fs).map 0.8/\∀ g,g∈fs.map 0.8->g∈(A0 f v fs).map 0.8
 | []=>⟨by simp[A0],λg h=>by simp at h⟩
 | (k,x):: r=>by
  obtain⟨i1,i2⟩:=XF f v r;rw[show A0 f v ((k,x):: r)=(if k=f then(k,v):: r else(k,x):: A0 f v r)from rfl];by_cases hk:k=f
  ·rw[if_pos hk];subst hk;exact⟨by simp,λg h=>by simpa using h⟩
  ·rw[if_neg hk];refine⟨?_,λg h=>?_⟩
   ·rw[Yy];exact Yq _ i1
   ·rw[Yy]at h ⊢
    rcases Yk.mp h with e | e
    ·exact Yk.mpr (.inl e)
    ·exact Yq _ (i2 g e)
theorem g9(f:Str)(v:V):∀ fs:List (Str×V),↑(A0 f v fs)<=↑fs + 1
 | []=>by simp[A0]
 | (k,x):: r=>by
  have ih:=g9 f v r;rw[show A0 f v ((k,x):: r)=(if k=f then(k,v):: r else(k,x):: A0 f v r)from rfl];by_cases hk:k=f
  ·rw[if_pos hk,B_,B_];omega
  ·rw[if_neg hk,B_,B_];omega
def EU.some_of{v:V}{o:OU}(r:EU (↥v) o):∃ u,o≈u/\Ae v u:=by
 cases o with
 | none=>exact(show False from r).elim
 | some u=>exact⟨u,Y,r⟩
def EU.none_of{o:OU}(r:EU none o):o=none:=by
 cases o with
 | none=>rfl
 | some u=>exact(show False from r).elim
def qV{v:V}{u:ε}(r:Ae v u):W.handedIn u=true:=by
 cases v with
 | non=>cases(show u=Value.none from r);rfl
 | bl b=>cases(show u=Value.bool b from r);rfl
 | int i=>obtain⟨t,e⟩:=(show ∃ t,u=Value.int i t from r);cases e;rfl
 | str x=>obtain⟨t,e⟩:=(show ∃ t,u=Value.str x t from r);cases e;rfl
 | byt b=>obtain⟨t,e⟩:=(show ∃ t,u=Value.bytes b t from r);cases e;rfl
 | flt b=>obtain⟨t,e⟩:=(show ∃ t,u=Value.float b t from r);cases e;rfl
 | ref a=>cases(show u=Value.ref a from r);rfl
 | ty n=>cases(show u=Value.type n from r);rfl
section
variable {P:ω}{w:World}{H H':Hp}{h h':Heap}{a C dx:δ}{fs B7:List (Str×V)}
def Rq(hok:BU P w H h)(e:H a≈(.ins C dx fs)):∃ mA,LR h a dx C mA/\(∀ f,EU (fs.lookup f) (mA f))/\PySem.Within mA (fs.map 0.8)/\↑fs<=1000/\H dx≈(.own a):=by
 obtain⟨d,z,ne,ob,mA,n,r,q⟩:=(show BB P w H h a (.ins C dx fs)from hok a _ e);exact⟨mA,⟨ob,n,ne⟩,r,q,z,d⟩
end
structure Eh(K:Fg)(C:δ):Prop where
 pg:W.plainGet K C Str.empty=true
 hd:W.hasDictIn K C=true
 po:W.plainOver K C=true
 sa:W.findIn K (.ref C) "__setattr__"≈(↥(.builtin "object.__setattr__"))
def Eh.get{K:Fg}{C:δ}(c:Eh K C)(f:Str):W.plainGet K C f=true:=c.pg
def EK(K:Fg)(C:δ)(f:Str):Prop:=W.findIn K (.ref C) f≈none
def EK.taker{K:Fg}{C:δ}{f:Str}(n:EK K C f):W.takerIn K C f≈none:=by
 unfold W.takerIn;rw[show W.findIn K (.ref C) f≈none from n];rfl
structure Pq(K:Fg)(C:δ)(m:Str)(f:δ):Prop where
 at_:W.findIn K (.ref C) m≈(↥(.ref f))
 fn:W.isFn K (.ref f)=true
 kp:W.keepIn K (.ref f)=true
section
variable {X:Cx}{π:PL}{σ:St}{H:Hp}{s:χ}{a C dx:δ}{fs:List (Str×V)}{f:Str}{v:V}{A:Around}{E:EV}
def rJ{b:Bool}{Q:EV}(I:Inv X π σ H s)(e:H a≈(.ins C dx fs))(c:Eh X.K C)(n:EK X.K C f)(l:fs.lookup f≈v)
  (h:∀ u s',Inv X π σ H s'->Ae v u->Q u s'):wpAny 0.3 A (getAttr (.ref a) f b) Q E s:=by
 obtain⟨mA,O,r,_,_,_⟩:=Rq I.hok e;obtain⟨u,hu,ru⟩:=EU.some_of (v:=v) (o:=mA f) (by rw[<- l];exact r f);exact vw I.kIn O (c.get f) c.hd n hu (qV ru) (h u _ (I.tok _) ru)
def XQ{m:Str}{g:δ}{pl:Sem Bool}{Q:ε×LU->χ->Prop}(I:Inv X π σ H s)(e:H a≈(.ins C dx fs))(c:Eh X.K C)(k:Pq X.K C m g)(l:fs.lookup m=none)
  (h:Q (.ref g,[.ref a]) s):wpAny 0.3 A (getMethod (.ref a) m pl) Q E s:=by
 obtain⟨mA,O,r,_,_,_⟩:=Rq I.hok e;have hn:mA m=none:=EU.none_of (by rw[<- l];exact r m);exact yc I.kIn O (c.get m) k.at_ k.fn hn h
def sN{y:V}{u:ε}{Q:Unit->χ->Prop}(I:Inv X π σ H s)(e:H a≈(.ins C dx fs))(c:Eh X.K C)(n:EK X.K C f)(hl:↑fs<1000)(ry:Ae y u)
  (h:∀ s',Inv X π σ (upd H a (.ins C dx (A0 f y fs))) s'->Q () s'):wpAny 0.3 A (setAttr (.ref a) f u) Q E s:=by
 obtain⟨mA,O,r,wi,_,ho⟩:=Rq I.hok e;have hz:↑(fs.map 0.8)<=sizeLine:=by rw[Ya,sizeLine_eq];omega
 refine w4 I.kIn O c.sa c.po n.taker c.hd wi hz λh' O' sb=>h _ ?_;have hd:∃ o,h'.get? dx≈o:=let⟨o,_,_,e',_⟩:=O'.ns;⟨o,e'⟩;refine I.write (x:=a) (e:=dx) (by rw[e];exact True.intro) (.inr ho) (λb q hb z=>(sb.2 b hb).trans z) hd ?_;refine⟨by rw[AD O.ne];exact ho,?_,O.ne,O'.obj,_,O'.ns,λg=>?_,λg hg=>?_⟩
 ·have:=g9 f y fs;omega
 ·show EU ((A0 f y fs).lookup g) (if g=f then ↥u else mA g);rw[CD];by_cases q:g=f
  ·rw[if_pos q,if_pos q];exact ry
  ·rw[if_neg q,if_neg q];exact r g
 ·by_cases q:g=f
  ·rw[q];exact(XF f y fs).1
  ·refine(XF f y fs).2 g (wi g λz=>hg ?_);show(if g=f then ↥u else mA g)=none;rw[if_neg q];exact z
def Inv.made(I:Inv X π σ H s):Inv X π σ (upd (upd H ⇑s (.own (⇑s + 1))) (⇑s + 1) (.ins C ⇑s []))
  {s with heap:=(s.heap.push W.emptyDict).push (W.instObj C ⇑s) }:=by
 have e1:(s.heap.push W.emptyDict).get? ⇑s≈W.emptyDict:=Yh s.heap rfl;have e2:((s.heap.push W.emptyDict).push (W.instObj C ⇑s)).get? (⇑s + 1)≈(W.instObj C ⇑s):=by
  have:=Yh (s.heap.push W.emptyDict) (o:=W.instObj C ⇑s) rfl
  rwa [Fs]at this
 have e3:(s.heap.push W.emptyDict).Ns ⇑s (λ_=>none):=⟨W.emptyDict,#[],_,e1,Y,(λe he=>absurd he 0.6),λ_=>rfl⟩;have I1:=I.laid (a:=⇑s) (o:=.own (⇑s + 1)) (h':=s.heap.push W.emptyDict) (t':=s.toks) (λb u q=>Yb _ q) (Ye _) ⟨_,e1⟩;refine I1.laid (a:=⇑s + 1) (o:=.ins C ⇑s []) (t':=s.toks) (λb u q=>Yb _ q) (Nat.le_of_eq (Fs _ _)) ?_;have ne:⇑s≠⇑s + 1:=Yt (Nat.lt_succ_self _);refine⟨by rw[AD ne,uS],BC _,ne,e2,λ_=>none,(Heap.Ns1.of_empty e3).at λo q=>Yb _ q,λ_=>True.intro,λy hy=>absurd rfl hy⟩
def ve{prog:ω}{w:World}{env:Env}{e:Expr}{f:Str}{pos:Pos}{s:χ}{Q:EV}(hb:attributeBase e f env (eval e env)=eval e env)
  (h:wpAny 0.4 A (eval e env) (λo s₁=>wpAny 0.4 A (getAttr o f true) Q E s₁) E s):wpAny 0.4 A (eval (.Attribute e f pos) env) Q E s :=
 Attribute_any_ h (by rw[arm_eval_Attribute,hb])
end
inductive ia(K:Fg)(f:Str)(Q:VK)(x:V)(H1:Hp):Prop
 | mk:∀ a C dx fs v,x=.ref a->H1 a≈(.ins C dx fs)->Eh K C->EK K C f->fs.lookup f≈v->Q v H1->ia K f Q x H1
def Ye7(K:Fg)(ta:TE)(f:Str):TE:=λσ H Q=>ta σ H λx H1=>ia K f Q x H1
inductive iu(K:Fg)(f:Str)(D:Cy)(σ:St)(y:V)(x:V)(H2:Hp):Prop
 | mk:∀ a C dx fs,x=.ref a->H2 a≈(.ins C dx fs)->Eh K C->EK K C f->↑fs<1000->D.nx σ (upd H2 a (.ins C dx (A0 f y fs)))->iu K f D σ y x H2
def Yf7(K:Fg)(ta tv:TE)(f:Str):TS:=λD σ H=>tv σ H λy H1=>ta σ H1 λx H2=>iu K f D σ y x H2
section
variable {X:Cx}{o e value:Expr}{f:Str}{pos pos' Dl:Pos}{ta tv:TE}
def Cm(he:PE X e ta)(hb:attributeBase e f X.env (eval e X.env)=eval e X.env):PE X (.Attribute e f pos) (Ye7 X.K ta f):=by
 ac_rfl;refine ve hb (AM (he π s σ H _ I h) λu s1 ⟨x,H1,I1,rx,a,C,dx,fs,v,ex,ea,c,n,l,q⟩=>?_);subst ex;obtain rfl:u=Value.ref a:=rx;exact rJ I1 ea c n l λu' s2 I2 ru=>⟨v,H1,I2,ru,q⟩
def FO(ha:PE X o ta)(hv:PE X value tv)(hs:swapsWith value (↥(.Attribute o f pos')) pos.line X.env=pure false):PS X (.Assign [.Attribute o f pos'] value pos) (Yf7 X.K ta tv f):=by
 intro π s σ H D I h;refine plainObj_wpAny_Assign_Attribute (AM (hv π s σ H _ I h) λu s1 ⟨y,H1,I1,ry,q⟩=>AM (ha π s1 σ H1 _ I1 q) λov s2 ⟨x,H2,I2,rx,a,C,dx,fs,ex,ea,c,n,l,q2⟩=>?_) hs;subst ex;obtain rfl:ov=Value.ref a:=rx;exact sN I2 ea c n l ry λs3 I3=>⟨σ,_,I3,q2⟩
end
section
variable {X:Cx}{π:PL}{σ:St}{H:Hp}{s:χ}{A:Around}{E:EV}{Q:EV}{c:ε}{b:Bool}
inductive Fh(K:Fg)(H:Hp):V->ε->Prop where
 | non:Fh K H .non (.type "NoneType")
 | bl (x:Bool):Fh K H (.bl x) (.type "bool")
 | int (i:Int):Fh K H (.int i) (.type "int")
 | str (x:Str):Fh K H (.str x) (.type "str")
 | flt (x:UInt64):Fh K H (.flt x) (.type "float")
 | lst {a:δ} {xs:LV} (e:H a≈(.lst xs)):Fh K H (.ref a) (.type "list")
 | frz {a:δ} {o:Obj} {xs:LV} (e:H a≈(.frz o (.lst xs))):Fh K H (.ref a) (.type "list")
 | tup {a:δ} {xs:LV} (e:H a≈(.tup xs)):Fh K H (.ref a) (.type "tuple")
 | dK {a:δ} {ν:KL} (e:H a≈(.dK ν)):Fh K H (.ref a) (.type "dict")
 | dT {a:δ} {ν:List (List Key×V)} (e:H a≈(.dT ν)):Fh K H (.ref a) (.type "dict")
 | ins {a C dx:δ} {fs:List (Str×V)} (e:H a≈(.ins C dx fs)) (cl:Eh K C) (ha:W.findIn K (.ref C) "__class__"≈(↥(.builtin "object.__class__")))
   (hn:W.specialIn K (.builtin "object.__class__") "__get__"≈(↥(.builtin "getset_descriptor.__get__"))) (htk:W.takesIn K (.builtin "object.__class__")≈true)
   (hm:W.mroIn K C (.type "object")≈true):Fh K H (.ref a) (.ref C)
def qY{x:V}{u t:ε}(I:Inv X π σ H s)(rx:Ae x u)(ty:Fh X.K H x t)(e:W.kitOne X.K t c≈b)(h:∀ tk,Q (.bool b) {s with toks:=tk}):
  wpAny 0.3 A (call (.builtin "isinstance") [u,c]) Q E s:=by
 cases ty with
 | non=>cases(show u=Value.none from rx);exact W.kia_one W.kitx_none I.kIn True.intro e (λz=>nomatch z) h
 | bl y=>cases(show u=Value.bool y from rx);exact W.kia_one W.kitx_bool I.kIn True.intro e (λz=>nomatch z) h
 | int i=>obtain⟨t,q⟩:=(show ∃ t,u=Value.int i t from rx);cases q;exact W.kia_one W.kitx_int I.kIn True.intro e (λz=>nomatch z) h
 | str y=>obtain⟨t,q⟩:=(show ∃ t,u=Value.str y t from rx);cases q;exact W.kia_one W.kitx_str I.kIn True.intro e (λz=>nomatch z) h
 | flt y=>obtain⟨t,q⟩:=(show ∃ t,u=Value.float y t from rx);cases q;exact W.kia_one W.kitx_float I.kIn True.intro e (λz=>nomatch z) h
 | @lst a xs ea =>
  cases(show u=Value.ref a from rx);obtain⟨_,_,n,_,h1⟩:=(show BB X.prog X.w H s.heap a (.lst xs)from I.hok a _ ea);exact W.kia_one W.kitx_list I.kIn ⟨_,h1,Y⟩ e (λz=>nomatch z) h
 | @frz a ob xs ea =>
  cases(show u=Value.ref a from rx);obtain⟨_,_,_,n,_,h1⟩:=(show BB X.prog X.w H s.heap a (.frz ob (.lst xs))from I.hok a _ ea);exact W.kia_one W.kitx_list I.kIn ⟨_,h1,Y⟩ e (λz=>nomatch z) h
 | @tup a xs ea =>
  cases(show u=Value.ref a from rx);obtain⟨_,_,_,p⟩:=(show BB X.prog X.w H s.heap a (.tup xs)from I.hok a _ ea);obtain⟨o,h1,h2,_⟩:=p;exact W.kia_one W.kitx_tuple I.kIn ⟨o,h1,h2⟩ e (λz=>nomatch z) h
 | @dK a ν ea =>
  cases(show u=Value.ref a from rx);obtain⟨_,_,vs,_,p⟩:=(show BB X.prog X.w H s.heap a (.dK ν)from I.hok a _ ea);obtain⟨o,es,ep,h1,h2,_⟩:=p;exact W.kia_one W.kitx_dict I.kIn ⟨o,h1,h2.1⟩ e (λz=>nomatch z) h
 | @dT a ν ea =>
  cases(show u=Value.ref a from rx);obtain⟨_,_,xs,_,o,es,ep,h1,h2,_⟩:=(show BB X.prog X.w H s.heap a (.dT ν)from I.hok a _ ea);exact W.kia_one W.kitx_dict I.kIn ⟨o,h1,h2.1⟩ e (λz=>nomatch z) h
 | @ins a C dx fs ea cl ha hn htk hm =>
  cases(show u=Value.ref a from rx);obtain⟨mA,O,_⟩:=Rq I.hok ea;obtain⟨od,J,_⟩:=O.look;exact W.kia_one (W.kitx_own (cl.get _) cl.hd ha hn htk hm) I.kIn J e (λz=>nomatch z) h
end
structure Ab(k:Nat)(A:Around):Prop where
 hd:A.handled=none
 dp:A.depth + 3 * k + 5<recursionLimit
 un:A.units + 16 * k + 200<cLine
 gd:A.guards≈[]
def Ab.mono{j k:Nat}{A:Around}(r:Ab k A)(h:j<=k):Ab j A:=⟨r.hd,by have:=r.dp;omega,by have:=r.un;omega,r.gd⟩
theorem Ab.deeper{k:Nat}{A:Around}(r:Ab (k + 1) A)(env:Env):Ab k (A.deeper env):=
 ⟨r.hd,by have:=r.dp;show A.depth + 1 + 3 * k + 5<_;omega,by have:=r.un;show A.units + 3 + 16 * k + 200<_;omega,r.gd⟩
def rS{A:Around}{C:δ}{us:LU}{kw:List (Str×ε)}:(A.under (.builtin "type.__call__" ⟨.ref C :: us,kw⟩)).depth=A.depth + 1:=by
 first | rfl | simp[Around.under,Code.weight,Code.isCreation,Code.isGuard,Code.isCaller,Code.frames,Code.isFrame,guardIds]
def rT{A:Around}{C:δ}{us:LU}{kw:List (Str×ε)}:(A.under (.builtin "type.__call__" ⟨.ref C :: us,kw⟩)).units=A.units + 1:=by
 first | rfl | simp[Around.under,Code.cUnits,Code.frames,Code.isFrame]
def Ab.make{k:Nat}{A:Around}(r:Ab (k + 1) A)(C:δ)(us:LU)(kw:List (Str×ε)):Ab k (A.under (.builtin "type.__call__" ⟨.ref C :: us,kw⟩)):=
 ⟨r.hd,by have:=r.dp;rw[rS];omega,by have:=r.un;rw[rT];omega,by first | exact r.gd | simpa[Around.under,Code.guards,Code.isGuard,guardIds,pushGuards]using r.gd⟩
theorem Ab.depth{k:Nat}{A:Around}(r:Ab k A):A.depth<recursionLimit:=by have:=r.dp;omega
theorem Ab.units{k:Nat}{A:Around}(r:Ab k A):A.units + 64<cLine:=by have:=r.un;omega
def YW:TA:=λ_ H Q=>Q [] H
def Yaz(ta:TE)(tr:TA):TA:=λσ H Q=>ta σ H λx H1=>tr σ H1 λxs H2=>Q (x :: xs) H2
section
variable {X:Cx}{e:Expr}{es:μ}{te:TE}{t:TA}{pos:Pos}
def AB:PA X [] YW:=λ_ _ _ _ H Q I h=>Calls.spliced_nil ⟨[],H,I,.nil,h⟩
def pC(ha:PE X e te)(hr:PA X es t)(hs:starEach (e :: es) X.env=(false,eval e X.env):: starEach es X.env:=by rfl):PA X (e :: es) (Yaz te t):=by
 intro pos π s σ H Q I h;rw[hs];show wpAny _ _ (spliced ((false,eval e X.env):: backTo pos (starEach es X.env))) _ _ s;refine Calls.spliced_cons (AM (ha π s σ H _ I h) λu s1 ⟨x,H1,I1,r1,q1⟩=>?_);exact AM (hr pos π s1 σ H1 _ I1 q1) λus s2 ⟨xs,H2,I2,r2,q2⟩=>⟨x :: xs,H2,I2,.cons r1 r2,q2⟩
def YX(t:TA):TE:=λσ H Q=>t σ H λxs H1=>↑xs<=sizeLine/\∀ p,H1 p=none->Q (.ref p) (upd H1 p (.tup xs))
def Ye6(t:TA):TE:=λσ H Q=>t σ H λxs H1=>↑xs<=sizeLine/\∀ p,H1 p=none->Q (.ref p) (upd H1 p (.lst xs))
def A5{x1}(h:PA X es t):PE X (.Tuple es x1 pos) (YX t):=by
 intro π s σ H Q I hq;refine wpAny_Tuple_spliced (AM (h pos π s σ H _ I hq) λus s1 ⟨xs,H1,I1,r,z,q⟩=>⟨by rw[<- ↑r];exact z,?_⟩);have hf:H1 ⇑s1=none:=I1.hok.fresh (Ye _);refine⟨.ref ⇑s1,upd H1 ⇑s1 (.tup xs),I1.laid (t':=s1.toks) (λb u e=>Yb _ e) (Ye _) ?_,Y,q _ hf⟩;exact⟨z,us,r,⟨_,Yh _ rfl,Y,Z⟩⟩
def BH(h:PA X es t):PE X (.List es pos) (Ye6 t):=by
 intro π s σ H Q I hq;refine wpAny_List_spliced (AM (h pos π s σ H _ I hq) λus s1 ⟨xs,H1,I1,r,z,q⟩=>⟨by rw[<- ↑r];exact z,?_⟩);have hf:H1 ⇑s1=none:=I1.hok.fresh (Ye _);refine⟨.ref ⇑s1,upd H1 ⇑s1 (.lst xs),I1.laid (t':=s1.toks) (λb u e=>Yb _ e) (Ye _) ?_,Y,q _ hf⟩;exact⟨z,us,0,r,Yh _ rfl⟩
end
abbrev Sp:=LV->Hp->VK->XK->Prop
abbrev FW:=List Env->Hp->χ->XK->ε->χ->Prop
structure E5(P:ω)(w:World)(K:Fg)(mg:Str->OU)(base:Heap)(A:Around)(outer:List Env)(s:χ)(H:Hp):Prop where
 frames:A.frames≈outer
 mod:Mod K mg base
 bs:∀ b o,base.get? b≈o->s.heap.get? b≈o/\H b=none
 bsz:base.objs.size<=⇑s
 funs:s.heap.FunFrames base outer
 frf:∀ b∈CV outer,H b=none
 hok:BU P w H s.heap
 bare:AllBare s.gens
def CE(outer:List Env)(P:ω)(w:World)(H:Hp)(s:χ)(Q:VK)(u:ε)(s':χ):Prop :=
 ∃ v H',s'.os=s.os/\AllBare s'.gens/\Un (CV outer) [] H H' s.heap s'.heap/\BU P w H' s'.heap/\Ae v u/\Q v H'
def CR(CX:FW)(outer:List Env)(P:ω)(w:World)(H:Hp)(s:χ)(Q:VK)(E:XK)(r:Result)(s':χ):Prop :=
 match r with
 | .ok (.ret u)=>CE outer P w H s Q u s'
 | .ok _=>False
 | .error e=>CX outer H s E e s'
structure BQ(P:ω)(w:World)(K:Fg)(mg:Str->OU)(base:Heap)(CX:FW)(k:Nat)(f:δ)(fd:FuncData)(ps:LS)(sp:Sp):Prop where
 len:∀ vs H Q E,sp vs H Q E->↑vs=↑ps
 run:∀(A:Around) (outer:List Env) (s:χ) (H:Hp) (args:Args) (us:LU) (vs:LV) (Q:VK) (E:XK),Ab k A->E5 P w K mg base A outer s H->BindsTo s fd args (ps.zip us)->AX vs us->sp vs H Q E ->
  codeAny (model P w) A (.call (.ref f) args) (CR CX outer P w H s Q E) s
def BQ.imp{P:ω}{w:World}{K:Fg}{mg:Str->OU}{base:Heap}{CX:FW}{k:Nat}{ps:LS}{sp Z0:Sp}(F:BQ P w K mg base CX k f fd ps sp)
  (h:∀ vs H Q E,Z0 vs H Q E->sp vs H Q E):BQ P w K mg base CX k f fd ps Z0 :=
 ⟨λvs H Q E q=>F.len vs H Q E (h _ _ _ _ q),λA outer s H args us vs Q E hr he hb hv hs=>F.run A outer s H args us vs Q E hr he hb hv (h _ _ _ _ hs)⟩
def E5.make{P:ω}{w:World}{K:Fg}{mg:Str->OU}{base:Heap}{A:Around}{outer:List Env}{s:χ}{H:Hp}(e:E5 P w K mg base A outer s H)(C:δ)(us:LU)(kw:List (Str×ε)):
  E5 P w K mg base (A.under (.builtin "type.__call__" ⟨.ref C :: us,kw⟩)) outer s H:=⟨by first | exact e.frames | (simpa[Around.under,Code.envs,Code.isFrame,pushEnvs]using e.frames),e.mod,e.bs,e.bsz,e.funs,e.frf,e.hok,e.bare⟩
section
variable {X:Cx}{π:PL}{σ:St}{H:Hp}{s s':χ}
def Inv.env0(I:Inv X π σ H s):E5 X.prog X.w X.K X.mg X.base X.A X.stack s H :=
 ⟨I.ok.frames,I.ok.mod,I.bs,BL I.ok.bsz I.sz,I.stack,I.stkFree,I.hok,I.bare⟩
def Inv.after{Q:VK}{u:ε}(I:Inv X π σ H s)(h:CE X.stack X.prog X.w H s Q u s'):EP X π σ Q u s':=by
 obtain⟨v,H',os,bare,un,hok,r,q⟩:=h;obtain⟨hh,g,d,t,l7⟩:=s';obtain rfl:l7=s.os:=os;exact⟨v,H',I.call (h':=hh) (g':=g) (d':=d) (t':=t) (ch:=[]) un hok bare (λb z=>absurd z 0.6),r,q⟩
end
def X8(sp:Sp)(B4:LV)(E:XK)(t:TA):TE:=λσ H Q=>t σ H λvs H1=>sp (vs++B4) H1 Q E
inductive jJ(C:δ)(m:Str)(sp:Sp)(B4:LV)(E:XK)(t:TA)(σ:St)(Q:VK)(x:V)(H1:Hp):Prop
 | mk:∀ a dx fs,x=.ref a->H1 a≈(.ins C dx fs)->fs.lookup m=none->(t σ H1 λvs H2=>sp (x :: (vs++B4)) H2 Q E)->jJ C m sp B4 E t σ Q x H1
def ic(C:δ)(m:Str)(sp:Sp)(B4:LV)(E:XK)(ta:TE)(t:TA):TE:=λσ H Q=>ta σ H λx H1=>jJ C m sp B4 E t σ Q x H1
def ib(C:δ)(sp:Sp)(B4:LV)(E:XK)(t:TA):TE:=λσ H Q=>t σ H λvs H1=>∀ x dx,H1 x=none->H1 dx=none->dx≠x ->
 sp (.ref x :: (vs++B4)) (upd (upd H1 dx (.own x)) x (.ins C dx [])) (λv H2=>v=.non/\Q (.ref x) H2) E
def Bz(K:Fg)(fd:FuncData)(ps:LS)(ds:LU):Prop :=
 ∀(s:χ) (us:LU),K.In s.heap->↑(us++ds)=↑ps->BindsTo s fd ⟨us,[]⟩ (ps.zip (us++ds))
def Bz.all{K:Fg}{ps:LS}(h:∀ us:LU,↑us=↑ps->bindArgs fd ⟨us,[]⟩=pure (ps.zip us)):Bz K fd ps []:=λs us _ hl=>by
 rw[EM]at hl ⊢;exact .of_eq (h us hl)
def IB(CX:FW)(X:Cx)(E:XK):Prop:=∀(π:PL) (σ:St) (H:Hp) (s:χ) (e:ε) (s':χ),Inv X π σ H s->CX X.stack H s E e s'->X.xe e s'
section
variable {X:Cx}{CX:FW}{k:Nat}{f C:δ}{fd:FuncData}{ps:LS}{sp:Sp}{B4:LV}{ds:LU}{E:XK}{x m:Str}{p pos apos:Pos}{e o:Expr}{es:μ}{ta:TE}{t:TA}
def Vz{π:PL}{σ:St}{H:Hp}{s:χ}{Q:VK}{us:LU}{vs:LV}(F:BQ X.prog X.w X.K X.mg X.base CX k f fd ps sp)(hr:Ab k X.A)(hb:Bz X.K fd ps ds)(hd:AX B4 ds)(hx:IB CX X E)
  (I:Inv X π σ H s) (r:AX vs us) (h:sp (vs++B4) H Q E):wpAny 0.3 X.A (call (.ref f) us) (EP X π σ Q) X.xe s:=by
 have r2:AX (vs++B4) (us++ds):=r.append hd;have hl:↑(us++ds)=↑ps:=by rw[<- ↑r2];exact F.len _ _ _ _ h
 refine wpAny_call (codeAny_mono (F.run X.A X.stack s H ⟨us,[]⟩ (us++ds) (vs++B4) Q E hr I.env0 (hb s us I.kIn hl) r2 h) λr s' hq=>?_);cases r with
 | error e=>exact hx π σ H s e s' I hq
 | ok fl =>
  cases fl with
  | ret u=>exact I.after hq
  | next=>exact False.elim hq
  | brk=>exact False.elim hq
  | cont=>exact False.elim hq
def cX(F:BQ X.prog X.w X.K X.mg X.base CX k f fd ps sp)(hr:Ab k X.A)(hg:Gl X x)(hm:X.mg x≈(.ref f))(hk:W.keepIn X.K (.ref f)=true)(hb:Bz X.K fd ps ds)(hd:AX B4 ds)(hx:IB CX X E)
  (ha:PA X (e :: es) t) (hdb:(x == ("__debug__":Str))=false:=by decide) (he:starEach (e :: es) X.env=(false,eval e X.env):: starEach es X.env:=by rfl) (hpl:(backTo pos (starEach es X.env)).any 0.8=false:=by rfl):
  PE X (.Call (.Name x p) (e :: es) [] pos) (X8 sp B4 E t):=by
 ac_rfl;refine wpAny_Call_Name_kw (Mx I hg hm ?_ hdb);refine W.callWith_K (h₀:=X.base) I.ok.mod.kin hk (AM (ha pos π s σ H _ I h) λus s1 ⟨vs,H1,I1,r,q⟩=>⟨I1.kIn,?_⟩) he hpl;exact Vz F hr hb hd hx I1 r q
def EL{pl:Sem Bool}(he:PE X o ta)(c:Eh X.K C)(hm:Pq X.K C m f)(F:BQ X.prog X.w X.K X.mg X.base CX k f fd ps sp)(hr:Ab k X.A)(hb:Bz X.K fd ps ds)(hd:AX B4 ds)(hx:IB CX X E)(ha:PA X (e :: es) t)
  (hst:starEach (e :: es) X.env=(false,eval e X.env):: starEach es X.env:=by rfl) (hpl:(backTo pos (starEach es X.env)).any 0.8=false:=by rfl)
  (ht:eval (.Call (.Attribute o m apos) (e :: es) [] pos) X.env=(do
   let ov <- eval o X.env
   standAt apos.atName
   let(f,first) <- holding [ov] (getMethod ov m pl)
   callWith pos f first (backTo pos (starEach (e :: es) X.env)) (backToKw pos (keywordEach [] X.env))):=by rfl):
  PE X (.Call (.Attribute o m apos) (e :: es) [] pos) (ic C m sp B4 E ta t):=by
 ac_rfl;refine W.methodCall_KW (pl:=pl) (AM (he π s σ H _ I h) λu s1 ⟨x,H1,I1,rx,a,dx,fs,ex,ea,l,q⟩=>?_) ht;subst ex;obtain rfl:u=Value.ref a:=rx;refine XQ I1 ea c hm l ?_;refine W.callWith_K (first:=[.ref a]) (h₀:=X.base) I.ok.mod.kin hm.kp (AM (ha pos π s1 σ H1 _ I1 q) λus s2 ⟨vs,H2,I2,r,q2⟩=>⟨I2.kIn,?_⟩) hst hpl;exact Vz (us:=.ref a :: us) (vs:=.ref a :: vs) F hr hb hd hx I2 (.cons rfl r) q2
def D0{pl:Sem Bool}(he:PE X o ta)(c:Eh X.K C)(hm:Pq X.K C m f)(F:BQ X.prog X.w X.K X.mg X.base CX k f fd ps sp)(hr:Ab k X.A)(hb:Bz X.K fd ps ds)(hd:AX B4 ds)(hx:IB CX X E)
  (ht:eval (.Call (.Attribute o m apos) [] [] pos) X.env=(do
   let ov <- eval o X.env
   standAt apos.atName
   let(f,first) <- holding [ov] (getMethod ov m pl)
   callWith pos f first (backTo pos (starEach [] X.env)) (backToKw pos (keywordEach [] X.env))):=by rfl):
  PE X (.Call (.Attribute o m apos) [] [] pos) (ic C m sp B4 E ta YW):=by
 ac_rfl;refine W.methodCall_KW (pl:=pl) (AM (he π s σ H _ I h) λu s1 ⟨x,H1,I1,rx,a,dx,fs,ex,ea,l,q⟩=>?_) ht;subst ex;obtain rfl:u=Value.ref a:=rx;refine XQ I1 ea c hm l ?_;exact W.callWith_K0 (first:=[.ref a]) I1.kIn hm.kp (Vz (us:=[.ref a]) (vs:=[.ref a]) F hr hb hd hx I1 (.cons rfl .nil) q)
structure Mk(K:Fg)(C f:δ):Prop where
 makes:W.makesIn K C=true
 init:W.findIn K (.ref C) "__init__"≈(↥(.ref f))
 fn:W.isFn K (.ref f)=true
 kp:W.keepIn K (.ref C)=true
def dv{π:PL}{σ:St}{H:Hp}{s:χ}{Q:VK}{us:LU}{vs:LV}(M:Mk X.K C f)(F:BQ X.prog X.w X.K X.mg X.base CX k f fd ps sp)(hr:Ab (k + 1) X.A)(hb:Bz X.K fd ps ds)(hd:AX B4 ds)
  (hx:IB CX X E) (I:Inv X π σ H s) (r:AX vs us)
  (h:∀ x dx,H x=none->H dx=none->dx≠x->sp (.ref x :: (vs++B4)) (upd (upd H dx (.own x)) x (.ins C dx [])) (λv H2=>v=.non/\Q (.ref x) H2) E):
  wpAny 0.3 X.A (call (.ref C) us) (EP X π σ Q) X.xe s:=by
 have hq:=h (⇑s + 1) ⇑s (I.hok.fresh (Nat.le_succ _)) (I.hok.fresh (Ye _)) (Yt (Nat.lt_succ_self _));have I2:=Inv.made (C:=C) I;have r2:AX (V.ref (⇑s + 1):: (vs++B4)) (Value.ref (⇑s + 1):: (us++ds)):=.cons rfl (r.append hd);have hl:↑(Value.ref (⇑s + 1):: us++ds)=↑ps:=by
  have e:=↑r2;rw[F.len _ _ _ _ hq]at e;exact e.symm
 refine wpAny_call (yC (f:=f) I.kIn M.makes M.init (beq_iff_eq.mp M.fn) (codeAny_mono (F.run _ X.stack _ _ ⟨Value.ref (⇑s + 1):: us,[]⟩ (Value.ref (⇑s + 1):: (us++ds)) _ _ E (hr.make C us [])
  (I2.env0.make C us []) (hb _ (Value.ref (⇑s + 1):: us) I2.kIn hl) r2 hq) λr s' Ko=>?_))
 cases r with
 | error e=>exact hx π σ _ _ e s' I2 Ko
 | ok fl =>
  cases fl with
  | ret u =>
   obtain⟨v,H',I3,rv,ev,q3⟩:=I2.after Ko;subst ev;exact⟨rv,⟨V.ref (⇑s + 1),H',I3,Y,q3⟩⟩
  | next=>exact False.elim Ko
  | brk=>exact False.elim Ko
  | cont=>exact False.elim Ko
def Ir(M:Mk X.K C f)(F:BQ X.prog X.w X.K X.mg X.base CX k f fd ps sp)(hr:Ab (k + 1) X.A)(hg:Gl X x)(hm:X.mg x≈(.ref C))(hb:Bz X.K fd ps ds)(hd:AX B4 ds)(hx:IB CX X E)
  (ha:PA X (e :: es) t) (hdb:(x == ("__debug__":Str))=false:=by decide) (he:starEach (e :: es) X.env=(false,eval e X.env):: starEach es X.env:=by rfl) (hpl:(backTo pos (starEach es X.env)).any 0.8=false:=by rfl):
  PE X (.Call (.Name x p) (e :: es) [] pos) (ib C sp B4 E t):=by
 ac_rfl;refine wpAny_Call_Name_kw (Mx I hg hm ?_ hdb);refine W.callWith_K (h₀:=X.base) I.ok.mod.kin M.kp (AM (ha pos π s σ H _ I h) λus s1 ⟨vs,H1,I1,r,q⟩=>⟨I1.kIn,?_⟩) he hpl;exact dv M F hr hb hd hx I1 r q
def dg(M:Mk X.K C f)(F:BQ X.prog X.w X.K X.mg X.base CX k f fd ps sp)(hr:Ab (k + 1) X.A)(hg:Gl X x)(hm:X.mg x≈(.ref C))(hb:Bz X.K fd ps ds)(hd:AX B4 ds)(hx:IB CX X E)
  (hdb:(x == ("__debug__":Str))=false:=by decide):PE X (.Call (.Name x p) [] [] pos) (ib C sp B4 E YW):=by
 ac_rfl;refine wpAny_Call_Name_kw (Mx I hg hm ?_ hdb);exact W.callWith_K0 I.kIn M.kp (dv (us:=[]) M F hr hb hd hx I .nil h)
end
section
variable {X:Cx}{CX:FW}{k:Nat}{f C:δ}{fd:FuncData}{ps ks:LS}{sp:Sp}{E:XK}{x m:Str}{p pos apos kpos:Pos}{e o:Expr}{es:μ}{kws:List Keyword}{te ta:TE}{t tk:TA}{nm:Option Str}
variable {g:LU->LU->LU}{gV:LV->LV->LV}
end
structure Aa(N P:LS)(sc:Scope):Prop where
 kind:sc.kind=.function
 co:sc.isCoroutine=false
 gen:sc.isGenerator=false
 nd:N.Nodup
 pre:N.take ↑P=P
 par:∀ x∈P,sc.names.lookup x≈.local\/sc.names.lookup x≈.cell
 nofree:∀ y∈sc.names,y.2≠.free
theorem fZ{kindOf:Str->Option NameKind}{x:Str}:∀ {binds:List (Str×ε)}{m:Str->OU},(∀ v,(x,v)∉binds)->bindL kindOf binds m x=m x
 | [],_,_=>rfl
 | (n,v):: r,m,h=>by
  unfold bindL;rw[fZ λw hw=>h w (Yq _ hw)];split
  ·have:x≠n:=by rintro rfl;exact h v Yj
   simp[this]
  ·rfl
theorem fX{kindOf:Str->Option NameKind}{x:Str}:∀ {binds:List (Str×ε)}{m:Str->OU},(∀ v,(x,v)∉binds)->bindC kindOf binds m x=m x
 | [],_,_=>rfl
 | (n,v):: r,m,h=>by
  unfold bindC;rw[fX λw hw=>h w (Yq _ hw)];split
  ·rfl
  ·have:x≠n:=by rintro rfl;exact h v Yj
   simp[this]
theorem fY{kindOf:Str->Option NameKind}{x:Str}{v:ε}:∀ {P:LS}{vs:LU}{i:Nat}{m:Str->OU},P.Nodup->P[i]?≈x->vs[i]?≈v->kindOf x≈.local ->
  bindL kindOf (P.zip vs) m x≈v
 | [],_,_,_,_,h,_,_=>by simp at h
 | _ :: _,[],_,_,_,_,h,_=>by simp at h
 | p :: P,w :: vs,0,m,nd,h1,h2,hk=>by
  simp at h1 h2;subst h1;subst h2;show bindL kindOf ((p,w):: P.zip vs) m p=_;unfold bindL;rw[fZ λv hv=>(FT.mp nd).1 (Nc hv).1,if_pos hk];simp
 | p :: P,w :: vs,i + 1,m,nd,h1,h2,hk=>by
  show bindL kindOf ((p,w):: P.zip vs) m x=_;unfold bindL;exact fY (i:=i) (FT.mp nd).2 (by simpa using h1) (by simpa using h2) hk
theorem fV{kindOf:Str->Option NameKind}{x:Str}{v:ε}:∀ {P:LS}{vs:LU}{i:Nat}{m:Str->OU},P.Nodup->P[i]?≈x->vs[i]?≈v->kindOf x≠some .local ->
  bindC kindOf (P.zip vs) m x≈v
 | [],_,_,_,_,h,_,_=>by simp at h
 | _ :: _,[],_,_,_,_,h,_=>by simp at h
 | p :: P,w :: vs,0,m,nd,h1,h2,hk=>by
  simp at h1 h2;subst h1;subst h2;show bindC kindOf ((p,w):: P.zip vs) m p=_;unfold bindC;rw[fX λv hv=>(FT.mp nd).1 (Nc hv).1,if_neg hk];simp
 | p :: P,w :: vs,i + 1,m,nd,h1,h2,hk=>by
  show bindC kindOf ((p,w):: P.zip vs) m x=_;unfold bindC;exact fV (i:=i) (FT.mp nd).2 (by simpa using h1) (by simpa using h2) hk
def start(N:LS)(vs:LV):St:=vs.map some++List.replicate (↑N - ↑vs) none
def J_(CX:FW)(P:ω)(w:World)(K:Fg)(mg:Str->OU)(base:Heap)(N:LS)(qual:Str)(scope:Scope)(f:δ)(cd:ε)(A:Around)(outer:List Env)(s:χ)(H:Hp)(E:XK):Cx where
 prog:=P
 w:=w
 K:=K
 mg:=mg
 base:=base
 A:=A.deeper (envOfC qual scope ⇑s f cd)
 N:=N
 s₀:=s
 H₀:=H
 env:=envOfC qual scope ⇑s f cd
 outer:=outer
 stack:=envOfC qual scope ⇑s f cd :: outer
 ex:=[]
 calm:=true
 fn:=λ_=>true
 pn:=[]
 xe:=λe s'=>wpAny (model P w) (A.deeper (envOfC qual scope ⇑s f cd)) (leaving (envOfC qual scope ⇑s f cd) e) (λ_ Cf=>CX outer H s E e Cf) (λe' Cf=>CX outer H s E e' Cf) s'
def dE{sc:Scope}{n:Nat}{x:Str}(h:sc.names.lookup x≈.cell):∃ c,(cellsFrom n sc.names []).lookup x≈c:=by
 have q:=W.cellsFrom_some sc.names n [] (.inl h);exact YH.mp q
def qX{CX:FW}{P:ω}{w:World}{K:Fg}{mg:Str->OU}{base:Heap}{N ps:LS}{qual:Str}{scope:Scope}{f:δ}{cd:ε}{A:Around}{outer:List Env}{s s1:χ}{H:Hp}{E:XK}{us:LU}{vs:LV}
  (S:Aa N ps scope) (hd:A.handled=none) (e0:E5 P w K mg base A outer s H) (hl:↑vs=↑ps) (r:AX vs us)
  (x:InCallC s ⇑s (bindL (envOfC qual scope ⇑s f cd).kindOf (ps.zip us) λ_=>none) (cellsFrom (⇑s + 1) scope.names []) (bindC (envOfC qual scope ⇑s f cd).kindOf (ps.zip us) λ_=>none) s1):
  Inv (J_ CX P w K mg base N qual scope f cd A outer s H E) [] (start N vs) H s1:=by
 have hpl:↑ps<=↑N:=by have:=congrArg List.length S.pre;rw[Yv]at this;omega
 obtain⟨h1,tk,rfl,hk⟩:=x.done;have noA:∀ b:δ,b∉(J_ CX P w K mg base N qual scope f cd A outer s H E).ex:=λb z=>absurd (show b∈([]:ζ)from z) 0.6;refine⟨⟨e0.mod,S.kind,Y,Y,Ye _,λy z c h1 h2=>?_,λy hy=>?_,λy c _ h=>?_,λ_=>hd,Around.frames_deeper e0.frames,.inr ⟨Y,Y⟩,λb z=>absurd z (noA b),e0.bs,e0.bsz,λb _ _=>noA b,λb z=>absurd z (noA b),e0.funs,e0.frf⟩,
  Y,e0.bare,Un.kept hk,⟨_,x.toInCall.ns,λi y v h1 h2 h3=>?_⟩,λy c h=>⟨_,x.cell y c h⟩,e0.hok.fresh (Ye _),λy c h=>?_,λp hp=>absurd (show p∈([]:PL)from hp) 0.6,e0.hok.kept hk,?_⟩
 ·exact name_of_addr x.apart (JI h1) (JI h2)
 ·have hy:scope.names.lookup y≈.cell\/scope.names.lookup y≈.free:=hy
  rcases hy with hy | hy
  ·exact dE hy
  ·exact absurd rfl (S.nofree _ (JI hy))
 ·exact Nat.le_of_lt (x.above y c (JI h))
 ·have hi:i<↑vs:=by
   unfold start at h2;by_cases hi:i<↑vs
   ·exact hi
   ·rw[P2 (by simpa using hi)]at h2;rw[List.getElem?_replicate]at h2;split at h2 <;> cases h2
  have ha:vs[i]?≈v:=by
   unfold start at h2;rw[YK (by simpa using hi),Ys]at h2;cases e:vs[i]? with
   | none=>rw[e]at h2;cases h2
   | some a=>rw[e]at h2;cases h2;rfl
  obtain⟨u,hu,rv⟩:=r.get ha;have hp:ps[i]?≈y:=by
   rw[<- S.pre,List.getElem?_take_of_lt 0.0];exact h1
  have ndP:ps.Nodup:=by rw[<- S.pre];exact S.nd.sublist (List.take_sublist _ _)
  refine⟨u,rv,?_⟩
  rcases S.par y (Yd hp)with k | k
  ·exact .inl ⟨k,fY ndP hp hu k⟩
  ·obtain⟨c,e⟩:=dE (n:=⇑s + 1) k;refine .inr ⟨.inl k,c,e,?_⟩;have q:=x.cell y c e;rw[fV ndP hp hu (by show scope.names.lookup y≠_;rw[k];decide)]at q;exact q
 ·exact e0.hok.fresh (Nat.le_of_lt (x.above y c (JI h)))
 ·unfold start;show _=↑N;rw[Yo,Ya,T3];omega
def iD{CX:FW}{P:ω}{w:World}{K:Fg}{mg:Str->OU}{base:Heap}{k:Nat}{f:δ}{name qual:Str}{params:Arguments}{body:List Stmt}{scope:Scope}{dV kV doc pm Az ct oc:ε}{an od:Option δ}
  {osl:Array (OU)} {N ps:LS} {sp:Sp} (lk:K.lookup f≈⟨oc,od,.func (W.fnOf name qual params body scope dV kV doc pm an Az ct),osl⟩) (hcd:W.codeIn K Az qual=true) (S:Aa N ps scope)
  (len:∀ vs H Q E,sp vs H Q E->↑vs=↑ps)
  (hbody:∀(A:Around) (outer:List Env) (s:χ) (H:Hp) (vs:LV) (Q:VK) (E:XK),Ab k (A.deeper (envOfC qual scope ⇑s f Az))->sp vs H Q E ->
   ∃ t,Bc (J_ CX P w K mg base N qual scope f Az A outer s H E) body t/\t {nx:=λ_ H'=>Q .non H',rt:=Q} (start N vs) H):
  BQ P w K mg base CX (k + 1) f (W.fnOf name qual params body scope dV kV doc pm an Az ct) ps sp:=by
 refine⟨len,λA outer s H args us vs Q E hr e0 hb r hsp=>?_⟩;have hl:=len _ _ _ _ hsp;have KX:K.In s.heap:=e0.mod.kin.keeps λb o e=>(e0.bs b o e).1;have lim:s.heap.NoLimit:=e0.mod.nolimit.keeps λb o e=>(e0.bs b o e).1;have hkind:∀ y∈ps.zip us,scope.names.lookup y.1≈.local\/(scope.names.lookup y.1≈.cell/\((cellsFrom (⇑s + 1) scope.names []).lookup y.1).isSome=true):=λ⟨n,v⟩ hy=>by
  rcases S.par n (Nc hy).1 with q | q
  ·exact .inl q
  ·exact .inr ⟨q,W.cellsFrom_some _ _ _ (.inl q)⟩
 refine codeAny_call_function hr.depth (KX _ _ lk) rfl S.co S.gen rfl (W.codeRec_of KX hcd) (hb _ _ _ _ ?_);refine wpAny_newFunctionEnv_cells S.kind hkind λenv he s1 x=>?_;subst he;refine⟨lim.keeps x.toInCall.keep,codeAny_func ?_⟩;obtain⟨t,ht,hq⟩:=hbody A outer s H vs Q E (hr.deeper _) hsp;have I:Inv (J_ CX P w K mg base N qual scope f Az A outer s H E) [] (start N vs) H s1:=qX S hr.hd e0 hl r x;refine Jf (ht [] s1 (start N vs) H _ I hq) (λfl s' hs=>?_) λe s' hs=>hs;have fin:∀ {σ':St} {H':Hp} {v:V} {u:ε},Inv (J_ CX P w K mg base N qual scope f Az A outer s H E) [] σ' H' s'->Ae v u->Q v H'->CE outer P w H s Q u s' :=
  λ{σ' H' v u} J rv q=>⟨v,H',J.os,J.bare,J.base,J.hok,rv,q⟩
 cases fl with
 | ret u =>
  obtain⟨v,σ',H',J,rv,q⟩:=hs;exact fin J rv q
 | next =>
  obtain⟨σ',H',J,q⟩:=hs;exact fin (v:=V.non) (u:=Value.none) J rfl q
 | brk =>
  obtain⟨_,_,_,q⟩:=hs;exact False.elim q
 | cont =>
  obtain⟨_,_,_,q⟩:=hs;exact False.elim q
section
variable {X:Cx}{x:Str}{p pos:Pos}{e:Expr}{es:μ}{t:TA}{id T:String}{r:LV->Hp->VK->Prop}
def Zx(r:LV->Hp->VK->Prop)(t:TA):TE:=λσ H Q=>t σ H λvs H1=>r vs H1 Q
def A9(hc:EG X (.builtin id) r)(hg:Gl X x)(hm:X.mg x=none)(hv:bootBuiltins x≈(.builtin id))(ha:PA X (e :: es) t)(hn:x≠"__name__":=by decide)(hdb:(x == ("__debug__":Str))=false:=by decide)
  (he:starEach (e :: es) X.env=(false,eval e X.env):: starEach es X.env:=by rfl) (hpl:(backTo pos (starEach es X.env)).any 0.8=false:=by rfl):PE X (.Call (.Name x p) (e :: es) [] pos) (Zx r t):=by
 ac_rfl;refine wpAny_Call_Name_kw (Il I hg hm hv ?_ hn hdb);exact PyProof.Rows.callWith_builtin1 (AM (ha pos π s σ H _ I h) λus s1 ⟨vs,H1,I1,r1,q1⟩=>hc π s1 σ H1 vs us Q I1 r1 q1) he hpl
def C4(hc:EG X (.type T) r)(hg:Gl X x)(hm:X.mg x=none)(hv:bootBuiltins x≈(.type T))(ha:PA X (e :: es) t)(hn:x≠"__name__":=by decide)(hdb:(x == ("__debug__":Str))=false:=by decide)
  (he:starEach (e :: es) X.env=(false,eval e X.env):: starEach es X.env:=by rfl) (hpl:(backTo pos (starEach es X.env)).any 0.8=false:=by rfl):PE X (.Call (.Name x p) (e :: es) [] pos) (Zx r t):=by
 ac_rfl;refine wpAny_Call_Name_kw (Il I hg hm hv ?_ hn hdb);exact La (AM (ha pos π s σ H _ I h) λus s1 ⟨vs,H1,I1,r1,q1⟩=>hc π s1 σ H1 vs us Q I1 r1 q1) he hpl
end
end L2
namespace HT
open PySem PyProof.Rows
section
open PySem.SeqAt
open PySem.AutoSeq1 (wpAny_loadPart')
open PySem.MeetsSeq PySem.MeetsSeq2 PySem.MeetsSeq3
end
section
variable {prog:ω}{w:World}{A:Around}{E:EV}{s:χ}
def cat_tup{t b:δ}{vs ws:LU}{Q:EV}(ht:IsTup s.heap t vs.toArray)(hb:IsTup s.heap b ws.toArray)(hv:vs≠[])
  (h1:ws=[]->Q (.ref t) s) (h2:ws≠[]->Q (.ref ⇑s) {s with heap:=s.heap.push {cls:=.type "tuple",data:=.seq (vs++ws).toArray} })
  (hsz:↑vs + ↑ws<=sizeLine):wpAny 0.4 A (binaryOp .Add (.ref t) (.ref b)) Q E s:=by
 obtain⟨⟨cls,dd,data,sl⟩,ho,hc,n,hd⟩:=id ht;obtain⟨⟨Zp,RW,data2,Qx⟩,E7,OF,n2,hd2⟩:=id hb;simp only at hc hd OF hd2;subst hc hd OF hd2;have e:vs.toArray++ws.toArray=(vs++ws).toArray:=by simp
 by_cases hw:ws=[]
 ·exact concat_meets ⟨_,ho,Y⟩ ⟨_,E7,Y⟩ noFill_tuple_add seq_tuple_add PySem.F.slot_tuple_add YC (YG _ _)
   (tuple_addW1 t b vs.toArray ws.toArray n n2 dd RW sl Qx (by simpa using hv) (by simp[hw])) ⟨ho,E7,h1 hw⟩
 ·refine concat_meets ⟨_,ho,Y⟩ ⟨_,E7,Y⟩ noFill_tuple_add seq_tuple_add PySem.F.slot_tuple_add YC (YG _ _)
   (tuple_addW2 t b vs.toArray ws.toArray n n2 dd RW sl Qx (by simpa using hv) (by simpa using hw) (by rw[Yn,Yn];exact hsz)) ⟨ho,E7,?_⟩
  rw[e];exact h2 hw
def sIx(n d:Nat):Option Int->Nat
 | none=>d
 | some v=>if v<0 then(v + (n:Int)).toNat else min v.toNat n
def sIx_none(n d:Nat):sIx n d none=d:=rfl
def sIx_nat(n d k:Nat):sIx n d (↥(k:Int))=min k n:=by
 show(if(k:Int)<0 then((k:Int) + (n:Int)).toNat else min (k:Int).toNat n)=min k n;rw[if_neg 0.0,GQ]
def va(n d:Nat)(hd:d<=n)(o:Option Int):sIx n d o<=n:=by
 cases o with
 | none=>exact hd
 | some v =>
  show(if v<0 then(v + (n:Int)).toNat else min v.toNat n)<=n;by_cases hv:v<0
  ·rw[if_pos hv];omega
  ·rw[if_neg hv];exact Nat.min_le_right _ _
def cE(v:Int)(n d:Nat):(if v<0 then max (v + (n:Int)) 0 else min v (n:Int))=((sIx n d (↥v):Nat):Int):=by
 show(if v<0 then max (v + (n:Int)) 0 else min v (n:Int))=(((if v<0 then(v + (n:Int)).toNat else min v.toNat n):Nat):Int);by_cases hv:v<0
 ·simp only[if_pos hv];omega
 ·simp only[if_neg hv];omega
def r9(lo hi:Option Int)(n:Nat):Builtin.Slice.sliceAdjust lo hi 1 (n:Int)=(((sIx n 0 lo:Nat):Int),((sIx n n hi:Nat):Int)):=by
 have h1:¬ ((1:Int)<0):=by omega
 unfold Builtin.Slice.sliceAdjust;simp only[h1,if_false];refine Prod.ext ?_ ?_
 ·cases lo with
  | none=>rfl
  | some v=>exact cE v n 0
 ·cases hi with
  | none=>rfl
  | some v=>exact cE v n n
def su(i j:Nat):Builtin.Slice.slicePlaces (i:Int) (j:Int) 1=j - i:=by
 unfold Builtin.Slice.slicePlaces;have h1:(1:Int) > 0:=by omega
 simp only[h1,if_true,Int.ediv_one];split <;> omega
def gz{v:ε}{o:Option Int}{Q:Option Int->χ->Prop}(p:IsPart v o)(h:Q o s):wpAny 0.4 A (Builtin.Slice.slicePartIndex v) Q E s:=by
 cases p with
 | none=>exact slicePart_none h
 | int i t=>exact slicePart_int h
def iA{sl:δ}{vl vu:ε}{lo hi:Option Int}{n:Nat}{Q:Int×Int×Nat->χ->Prop}(hs:s.heap.IsSliceOf sl vl vu .none)(pl:IsPart vl lo)(pu:IsPart vu hi)
  (h:Q (((sIx n 0 lo:Nat):Int),1,sIx n n hi - sIx n 0 lo) s):wpAny 0.4 A (Builtin.Slice.sliceApplied (.ref sl) (pure (n:Int))) Q E s:=by
 obtain⟨os,hos,hcs,hds⟩:=id hs;unfold Builtin.Slice.sliceApplied Builtin.Slice.sliceFields;refine Ja (Ja (Jg hos hds (x:=vl) rfl (Ja (Jg hos hds (x:=vu) rfl (Ja (Jg hos hds (x:=.none) rfl (Jd ?_)))))));refine Ja (slicePart_none ?_);show wpAny _ _ (if((1:Int) == 0)=true then _ else _) _ _ s;rw[if_neg 0.1];refine Ja (gz pl (Ja (gz pu (Ja (Jd ?_)))));show wpAny _ _ (match Builtin.Slice.sliceAdjust lo hi 1 (n:Int)with | (lo,hi)=>pure (lo,(1:Int),Builtin.Slice.slicePlaces lo hi 1)) _ _ s;rw[r9 lo hi n];show wpAny _ _ (pure (((sIx n 0 lo:Nat):Int),(1:Int),Builtin.Slice.slicePlaces ((sIx n 0 lo:Nat):Int) ((sIx n n hi:Nat):Int) 1)) _ _ s;rw[su];exact Jd h
def yk(xs:τ)(i k:Nat):((List.range k).filterMap λ(m:Nat)=>xs[((i:Int) + (m:Int) * 1).toNat]?).toArray=((xs.toList.drop i).take k).toArray:=by
 have e:(λ(m:Nat)=>xs[((i:Int) + (m:Int) * 1).toNat]?)=λm=>xs[i + m]?:=by
  funext m
  have:((i:Int) + (m:Int) * 1).toNat=i + m:=by omega
  rw[this]
 rw[e];have:=pick_run xs i k;rw[List.filterMap_map]at this;have e2:((λx=>xs[x]?) ∘ λx=>i + x)=λm=>xs[i + m]?:=rfl;rw[e2]at this;rw[this]
def getItem_tuple_cut{t sl:δ}{items:τ}{vl vu:ε}{lo hi:Option Int}{Q:EV}(ht:IsTup s.heap t items)(hs:s.heap.IsSliceOf sl vl vu .none)(pl:IsPart vl lo)(pu:IsPart vu hi)
  (hw:¬ (sIx items.size 0 lo=0/\sIx items.size items.size hi=items.size))
  (h:Q (.ref ⇑s) {s with heap:=s.heap.push {cls:=.type "tuple",data:=.seq ((items.toList.drop (sIx items.size 0 lo)).take (sIx items.size items.size hi - sIx items.size 0 lo)).toArray} })
  (hsz:items.size<=sizeLine):wpAny 0.4 A (getItem (.ref t) (.ref sl)) Q E s:=by
 have htake:sizeOk (.seq ((items.toList.drop (sIx items.size 0 lo)).take (sIx items.size items.size hi - sIx items.size 0 lo)).toArray):=by
  show((items.toList.drop (sIx items.size 0 lo)).take (sIx items.size items.size hi - sIx items.size 0 lo)).toArray.size<=sizeLine;rw[Yn,Yv,List.length_drop,LZ];omega
 have hj:sIx items.size items.size hi<=items.size:=va _ _ (Ye _) hi;obtain⟨os,hos,hcs,hds⟩:=id hs;have hTs:s.TypeIs (.ref sl) "slice":=⟨os,hos,hcs⟩;unfold getItem
 try with_reducible refine Jj ?_
 first | refine Ja (Jd ?_) | skip
 refine Ja (wpAny_sequenceKey ht.typeIs 0.1 ?_);refine Ja (wpAny_callSpecial?_slot (name:=Str.ofString "__getitem__") ht.typeIs NU
  (wpAny_call_entry NU ht.typeIs entry_tuple_getitem ?_ (args_tuple_getitem _ _)))
 show wpAny _ _ (Builtin.Tuple.tupleItemsOf (.ref t)>>=_) _ _ s;refine Ja (tupleItemsOf_ ht ?_);refine Ja (wpAny_typeOf hTs ?_);rw[if_pos 0.1];refine Ja (iA hs pl pu ?_);have hno:¬ (1.7=true):=by
  intro q;rw[Ed,Ed]at q;have q1:((sIx items.size 0 lo:Nat):Int)=0:=eq_of_beq q.1.1;have q2:sIx items.size items.size hi - sIx items.size 0 lo=items.size:=eq_of_beq q.2;exact hw ⟨O,O⟩
 show wpAny _ _ (if 1.7=true then _ else _) _ _ s;rw[if_neg hno,yk]
 first
  | exact Ja (m:=Builtin.Tuple.tupleExact _) (wpAny_newObj_type (Jd ⟨_,rfl,Jd h⟩) htake)
  | exact Ja (m:=Builtin.Tuple.tupleExact _) (wpAny_newObj_type (Ja (Jd (Jd ⟨_,rfl,Jd h⟩))) htake)
  | exact Ja (Ja (m:=Builtin.Tuple.tupleExact _) (wpAny_newObj_type (Jd (Jd ⟨_,rfl,Jd h⟩)) htake))
  | exact Ja (Ja (m:=Builtin.Tuple.tupleExact _) (wpAny_newObj_type (Jd ⟨_,rfl,Jd h⟩) htake))
end
end HT
namespace L2
open PySem PySem.Spec PyProof.Rows
abbrev TO:=St->Hp->(Option Int->Hp->Prop)->Prop
def PO(X:Cx)(e:Option Expr)(t:TO):Prop :=
 ∀(π:PL) (s:χ) (σ:St) (H:Hp) (Q:Option Int->Hp->Prop),Inv X π σ H s->t σ H Q ->
  wpAny 0.3 X.A (evalPart e X.env) (λu s'=>∃ o H',Inv X π σ H' s'/\IsPart u o/\Q o H') X.xe s
def xX:TO:=λ_ H Q=>Q none H
inductive jK(Q:Option Int->Hp->Prop)(x:V)(H1:Hp):Prop
 | mk:∀ i,x=.int i->Q (↥i) H1->jK Q x H1
def Yaq(t:TE):TO:=λσ H Q=>t σ H λx H1=>jK Q x H1
section
variable {X:Cx}{e:Expr}{te:TE}{lo hi:Option Expr}{tl th:TO}{pos p2:Pos}
def Iu:PO X none xX:=by
 ac_rfl;rw[evalPart_none];exact Jd ⟨none,H,I,.none,h⟩
def Fo(h:PE X e te):PO X (↥e) (Yaq te):=by
 intro π s σ H Q I hw;rw[evalPart_some];refine AM (h π s σ H _ I hw) λu s1 ⟨x,H1,I1,r1,q1⟩=>?_;obtain⟨i,rfl,q⟩:=q1;obtain⟨t,rfl⟩:=r1;exact⟨↥i,H1,I1,.int i t,q⟩
def QH(X:Cx)(r:V->Option Int->Option Int->Hp->VK->Prop):Prop :=
 ∀(π:PL) (s:χ) (σ:St) (H:Hp) (x:V) (v vl vu:ε) (lo hi:Option Int) (sl:δ) (Q:VK),Inv X π σ H s->Ae x v->s.heap.IsSliceOf sl vl vu .none->IsPart vl lo->IsPart vu hi->r x lo hi H Q ->
  ∃ T id,typeLookup (.type T) "__getitem__"=pure (↥(.builtin id))/\s.TypeIs v T/\wpAny 0.3 X.A (getItem v (.ref sl)) (EP X π σ Q) X.xe s
def lR(r:V->Option Int->Option Int->Hp->VK->Prop)(te:TE)(tl th:TO):TE:=λσ H Q=>te σ H λx H1=>tl σ H1 λl H2=>th σ H2 λu H3=>r x l u H3 Q
def Gq{r:V->Option Int->Option Int->Hp->VK->Prop}(hr:QH X r)(he:PE X e te)(hl:PO X lo tl)(hu:PO X hi th):PE X (.Subscript e (.Slice lo hi none p2) pos) (lR r te tl th):=by
 ac_rfl;refine Subscript_ (AM (he π s σ H _ I h) λv s1 ⟨x,H1,I1,r1,q1⟩=>?_);refine wpAny_Slice (AM (hl π s1 σ H1 _ I1 q1) λvl s2 ⟨l,H2,I2,pl,q2⟩=>AM (hu π s2 σ H2 _ I2 q2) λvu s3 ⟨u,H3,I3,pu,q3⟩=>?_);rw[evalPart_none];refine Jd ?_;have I4:Inv X π σ H3 {s3 with heap:=s3.heap.push {cls:=.type "slice",data:=.fields #[vl,vu,.none] } }:=I3.kept (t':=s3.toks) λb ob q=>Yb _ q;obtain⟨T,id,hT,ht,hg⟩:=hr π {s3 with heap:=s3.heap.push {cls:=.type "slice",data:=.fields #[vl,vu,.none] } } σ H3 x v vl vu l u ⇑s3 Q I4 r1 (Heap.IsSliceOf.new ..) pl pu q3;show wpAny 0.3 X.A (subscriptTail e (.Slice lo hi none p2) v (.ref ⇑s3)) (EP X π σ Q) X.xe {s3 with heap:=s3.heap.push {cls:=.type "slice",data:=.fields #[vl,vu,.none] } };exact tail_any (ops:=[.ref ⇑s3,v]) ht hT hg 1.8
def BO(xs:LV)(lo hi:Option Int):LV:=(xs.drop (HT.sIx ↑xs 0 lo)).take (HT.sIx ↑xs ↑xs hi - HT.sIx ↑xs 0 lo)
def gp(xs:LV)(lo hi:Option Int):↑(BO xs lo hi)<=↑xs:=by
 unfold BO;rw[Yv,List.length_drop];omega
inductive kT(K:Fg)(x:V)(lo:Option Int)(hi:Option Int)(H:Hp)(Q:VK):Prop
 | mk:∀ a xs,x=.ref a->AG K H a xs->¬ (HT.sIx ↑xs 0 lo=0/\HT.sIx ↑xs ↑xs hi=↑xs)->(∀ p,H p=none->Q (.ref p) (upd H p (.tup (BO xs lo hi))))->kT K x lo hi H Q
def vQ:QH X (kT X.K):=by
 intro π s σ H x v vl vu lo hi sl Q I rx hs pl pu h;obtain⟨a,xs,rfl,hx,hw,q⟩:=h;cases rx;obtain⟨ψ,r,ht,hz⟩:=I.tuple hx;have hlen:ψ.toArray.size=↑xs:=by rw[Yn];exact r.length.symm
 refine⟨"tuple",_,NU.lookup,ht.typeIs,?_⟩;refine HT.getItem_tuple_cut ht hs pl pu (by rw[hlen];exact hw) ?_ (by rw[hlen];exact hz);rw[hlen];refine⟨.ref ⇑s,_,I.laid (t':=s.toks) (o:=.tup (BO xs lo hi)) (λb ob q=>Yb _ q) (Ye _) ?_,rfl,q _ (I.hok.fresh (Ye _))⟩;exact⟨BL (gp xs lo hi) hz,_,(r.drop (HT.sIx ↑xs 0 lo)).take (HT.sIx ↑xs ↑xs hi - HT.sIx ↑xs 0 lo),IsTup.new _ _⟩
inductive iR(K:Fg)(x:V)(y:V)(H:Hp)(Q:VK):Prop
 | mk:∀ a b xs ys,x=.ref a->y=.ref b->AG K H a xs->AG K H b ys->xs≠[]->↑xs + ↑ys<=sizeLine->(ys=[]->Q (.ref a) H)->(ys≠[]->∀ p,H p=none->Q (.ref p) (upd H p (.tup (xs++ys))))->iR K x y H Q
def AX.nil_iff{xs:LV}{us:LU}(r:AX xs us):us=[]↔xs=[]:=by
 cases r with
 | nil=>simp
 | cons _ _=>simp
def xE:BM X (binaryOp .Add) (iR X.K):=by
 exfalso;obtain⟨a,b,xs,ys,rfl,rfl,ha,hb,hx,hz,q1,q2⟩:=h;cases rx;cases ry;obtain⟨ψ,r1,p1,_⟩:=I.tuple ha;obtain⟨C8,r2,p2,_⟩:=I.tuple hb;refine HT.cat_tup p1 p2 (λz=>hx (r1.nil_iff.mp z)) (λz=>⟨.ref a,H,I,Y,q1 (r2.nil_iff.mp z)⟩) (λz=>?_) (by rw[<- ↑r1,<- ↑r2];exact hz);refine⟨.ref ⇑s,_,I.laid (t':=s.toks) (o:=.tup (xs++ys)) (λb ob q=>Yb _ q) (Ye _) ?_,Y,q2 (λw=>z (r2.nil_iff.mpr w)) _ (I.hok.fresh (Ye _))⟩;exact⟨by rw[Yo];exact hz,_,r1.append r2,IsTup.new _ _⟩
end
def HW(n:Nat)(i:Int):Option Nat:=if 0<=i then(if i<n then ↥i.toNat else none)else if -(n:Int)<=i then ↥(i + n).toNat else none
def CL{α:Type}(xs:List α)(i:Int):Option α:=(HW ↑xs i).bind λj=>xs[j]?
def cP{n:Nat}{i:Int}{j:Nat}(h:HW n i≈j):seqIndex? i n≈j/\j<n/\-(n:Int)<=i/\i<n:=by
 unfold HW at h;by_cases h0:0<=i
 ·rw[if_pos h0]at h;by_cases h1:i<n
  ·rw[if_pos h1]at h;have e:i.toNat=j:=Bk h;exact⟨by rw[seqIndex_of h0 h1,e],O,O,h1⟩
  ·rw[if_neg h1]at h;cases h
 ·rw[if_neg h0]at h;by_cases h1:-(n:Int)<=i
  ·rw[if_pos h1]at h;have e:(i + n).toNat=j:=Bk h;exact⟨by rw[seqIndex_neg 0.0 h1,e],O,h1,O⟩
  ·rw[if_neg h1]at h;cases h
def V2{α:Type}{xs:List α}{i:Int}{v:α}(h:CL xs i≈v):∃ j,seqIndex? i ↑xs≈j/\xs[j]?≈v/\j<↑xs/\-(↑xs:Int)<=i/\i<↑xs:=by
 unfold CL at h;cases e:HW ↑xs i with
 | none=>rw[e]at h;cases h
 | some j =>
  rw[e]at h;obtain⟨h1,h2,h3,h4⟩:=cP e;exact⟨j,h1,h,h2,h3,h4⟩
def CA{α:Type}{xs:List α}{j:Nat}{v:α}(h:xs[j]?≈v):CL xs (j:Int)≈v:=by
 have hj:j<↑xs:=(Yu.mp h).1;have e:HW ↑xs (j:Int)≈j:=by
  unfold HW;rw[if_pos 0.0,if_pos 0.0];simp
 unfold CL;rw[e];exact h
def vz(b:Expr):Prop:=∀ o i,subscripted b false o i=operate [o,i] (getItem o i)
def UN(X:Cx)(r:R2):Prop :=
 ∀(value slice:Expr) (π:PL) (s:χ) (σ:St) (H:Hp) (x y:V) (v u:ε) (Q:VK),Inv X π σ H s->Ae x v->Ae y u->r x y H Q ->
  subscripted slice false v u=operate [v,u] (getItem v u)->wpAny 0.3 X.A (subscriptTail value slice v u) (EP X π σ Q) X.xe s
def k9(X:Cx)(id:String)(r:V->LV->Hp->VK->Prop):Prop :=
 ∀(π:PL) (s:χ) (σ:St) (H:Hp) (x:V) (xs:LV) (v:ε) (us:LU) (Q:VK),Inv X π σ H s->Ae x v->AX xs us->r x xs H Q ->
  wpAny 0.3 X.A (call (.builtin id) (v :: us)) (EP X π σ Q) X.xe s
section
variable {X:Cx}{a b:Expr}{ta tb:TE}{pos:Pos}
def AO{r:R2}(hr:UN X r)(ha:PE X a ta)(hb:PE X b tb)(hs:vz b):PE X (.Subscript a b pos) (Nm r ta tb):=by
 ac_rfl;exact Subscript_ (YN ha hb I h λv u s2 x y H2 I2 rx ry q=>hr a b π s2 σ H2 x y v u Q I2 rx ry q (hs _ _))
inductive Ao(K:Fg)(x:V)(y:V)(H:Hp)(Q:VK):Prop
 | mk:∀ p xs i v,x=.ref p->y=.int i->SqL K H p xs->CL xs i≈v->Q v H->Ao K x y H Q
inductive DJ(K:Fg)(x:V)(y:V)(H:Hp)(Q:VK):Prop
 | mk:∀ p xs i v,x=.ref p->y=.int i->AG K H p xs->CL xs i≈v->Q v H->DJ K x y H Q
inductive jx(x:V)(y:V)(H:Hp)(Q:VK):Prop
 | mk:∀ z i c,x=.str z->y=.int i->↑z<=sizeLine->CL z.cps.toList i≈c->Q (.str ⟨#[c]⟩) H->jx x y H Q
def Ad:UN X (Ao X.K):=by
 intro value slice π s σ H x y v u Q I rx ry h hs;obtain⟨p,xs,i,z,rfl,rfl,hq,he,q⟩:=h;cases rx;obtain⟨t,rfl⟩:=ry;obtain⟨ψ,r,pl,hz⟩:=I.list hq;obtain⟨j,h1,h2,h3,h4,h5⟩:=V2 he;obtain⟨w,ew,D9⟩:=r.get h2;have hl:=↑r;have hn:=K_;have fin:EP X π σ Q w s:=⟨z,H,I,D9,q⟩;by_cases h0:0<=i
 ·have hj:i.toNat=j:=by
   rw[seqIndex_of h0 h5]at h1;exact Bk h1
  exact item_listR pl.isList h0 0.0 (by rw[hj];simpa using ew) fin hs
 ·have hj:(i + (ψ.toArray.size:Int)).toNat=j:=by
   rw[seqIndex_neg 0.0 h4]at h1;rw[Yn,<- hl];exact Bk h1
  exact subscriptTail_builtinR (x:=w) pl.isList.typeIs slot_list_getitem.lookup
   (wpAny_getItem_list_neg (Q:=λr s'=>r=w/\EP X π σ Q r s') pl.isList 0.0 (by rw[Yn] <;> omega) 0.0 (by rw[hj];simpa using ew) ⟨rfl,fin⟩) hs
def Dz:UN X (DJ X.K):=by
 intro value slice π s σ H x y v u Q I rx ry h hs;obtain⟨p,xs,i,z,rfl,rfl,hq,he,q⟩:=h;cases rx;obtain⟨t,rfl⟩:=ry;obtain⟨ψ,r,pl,hz⟩:=I.tuple hq;obtain⟨j,h1,h2,h3,h4,h5⟩:=V2 he;obtain⟨w,ew,D9⟩:=r.get h2;have hl:=↑r;have hn:=K_;have fin:EP X π σ Q w s:=⟨z,H,I,D9,q⟩;exact subscriptTail_builtinR (x:=w) pl.typeIs slot_tuple_getitem.lookup
  (getItem_tuple (j:=j) (Q:=λr s'=>r=w/\EP X π σ Q r s') pl 0.0 0.0 (by rw[Yn,<- hl];exact h1) (by simpa using ew) ⟨rfl,fin⟩) hs
def uf:UN X jx:=by
 intro value slice π s σ H x y v u Q I rx ry h hs;obtain⟨z,i,c,rfl,rfl,hz,he,q⟩:=h;obtain⟨t,rfl⟩:=rx;obtain⟨t',rfl⟩:=ry;obtain⟨j,h1,h2,h3,h4,h5⟩:=V2 he;have hl:↑z.cps.toList=↑z:=by simp[Str.length]
 rw[hl]at h1 h4 h5;have hn:=K_;exact tail_any (typeIs_str s z t) slot_str_getitem.lookup (getItem_str (c:=c) (by
  have e1:decide (i < -(2 ^ 63:Int))=false:=Jc 0.0;have e2:decide (i ≥ 2 ^ 63)=false:=Jc 0.0;rw[e1,e2,Bool.or_false]) (by rw[h1];simpa using h2) ⟨.str ⟨#[c]⟩,H,I.tok _,⟨_,rfl⟩,q⟩) hs
def rV(ψ:LU)(n j:Nat)(u:ε):Obj.mapSeq (·.setIfInBounds j u) {cls:=.type "list",data:=.seq ψ.toArray n}={cls:=.type "list",data:=.seq (ψ.set j u).toArray n}:=by
 simp[Obj.mapSeq]
theorem Inv.lst{π:PL}{σ:St}{H:Hp}{s:χ}{p:δ}{xs:LV}(I:Inv X π σ H s)(h:H p≈(.lst xs)):
  ∃(ψ:LU) (n:Nat),AX xs ψ/\s.heap.get? p=some {cls:=.type "list",data:=.seq ψ.toArray n}/\↑xs<=sizeLine:=by
 obtain⟨z,ψ,n,r,e⟩:=I.hok p _ h;exact⟨ψ,n,r,e,z⟩
def Inv.lstUpd{π:PL}{σ:St}{H:Hp}{s:χ}{p:δ}{xs ys:LV}{ψ its':LU}{n n':Nat}{f:Obj->Obj}(I:Inv X π σ H s)(h:H p≈(.lst xs))
  (ho:s.heap.get? p=some {cls:=.type "list",data:=.seq ψ.toArray n}) (hf:f {cls:=.type "list",data:=.seq ψ.toArray n}={cls:=.type "list",data:=.seq its'.toArray n' }) (r:AX ys its') (hz:↑ys<=sizeLine) (t:Nat):
  Inv X π σ (upd H p (.lst ys)) {s with heap:=s.heap.update p f,toks:=t}:=by
 have e:(s.heap.update p f).get? p=some {cls:=.type "list",data:=.seq its'.toArray n' }:=by
  rw[JJ f ho (by rw[hf] <;> rfl),hf]
 refine I.write (x:=p) (e:=p) (by rw[h];trivial) (.inl rfl) (λb u hb q=>(IM _ _ (Yw hb)).trans q) ⟨_,e⟩ ?_;exact⟨hz,its',n',r,e⟩
inductive iq(o:V)(i:V)(v:V)(H:Hp)(Q:(Hp->Prop)):Prop
 | mk:∀ p xs k j,o=.ref p->i=.int k->H p≈(.lst xs)->HW ↑xs k≈j->Q (upd H p (.lst (xs.set j v)))->iq o i v H Q
def Wm:jf X iq:=by
 intro π s σ H o i v ov iv u Q I ro ri rv h;obtain⟨p,xs,k,j,rfl,rfl,hp,hj,q⟩:=h;cases ro;obtain⟨t,rfl⟩:=ri;obtain⟨ψ,n,r,ho,hz⟩:=I.lst hp;obtain⟨h1,h2,h3,h4⟩:=cP hj;have hl:=↑r;have hn:=K_;have I':Inv X π σ (upd H p (.lst (xs.set j v))) {s with heap:=s.heap.update p (Obj.mapSeq (·.setIfInBounds j u)) } :=
  I.lstUpd hp ho (rV ψ n j u) (r.set rv j) (by rw[List.length_set];exact hz) s.toks
 by_cases h0:0<=k
 ·have hk:k.toNat=j:=by
   rw[seqIndex_of h0 h4]at h1;exact Bk h1
  exact W.ki_setAt ho h0 0.0 (by rw[Yn,<- hl];exact h4) (by rw[hk];exact⟨_,I',q⟩)
 ·have hk:(k + (ψ.toArray.size:Int)).toNat=j:=by
   rw[seqIndex_neg 0.0 h3]at h1;rw[Yn,<- hl];exact Bk h1
  exact W.ki_setBack ho 0.0 (by rw[Yn,<- hl];exact h3) 0.0 (by rw[hk];exact⟨_,I',q⟩)
def t7(lo hi:Option Int)(n:Nat):(sliceBounds lo hi none n).1=((HT.sIx n 0 lo:Nat):Int)/\(sliceBounds lo hi none n).2.1=((HT.sIx n n hi:Nat):Int)/\(sliceBounds lo hi none n).2.2=1:=by
 refine⟨?_,?_,rfl⟩
 ·cases lo with
  | none=>simp[sliceBounds,HT.sIx]
  | some i =>
   simp only[sliceBounds,HT.sIx,Option.getD_none,show(1:Int) > 0 by decide,if_true];by_cases h:i<0
   ·simp only[h,if_true] <;> omega
   ·simp only[h,if_false] <;> omega
 ·cases hi with
  | none=>simp[sliceBounds,HT.sIx]
  | some i =>
   simp only[sliceBounds,HT.sIx,Option.getD_none,show(1:Int) > 0 by decide,if_true];by_cases h:i<0
   ·simp only[h,if_true] <;> omega
   ·simp only[h,if_false] <;> omega
def uI(ψ:LU)(lo hi:Option Int):slicePick ψ.toArray lo hi none=((ψ.drop (HT.sIx ↑ψ 0 lo)).take (HT.sIx ↑ψ ↑ψ hi - HT.sIx ↑ψ 0 lo)).toArray:=by
 obtain⟨h1,h2,h3⟩:=t7 lo hi ψ.toArray.size;unfold slicePick;rw[h1,h2,h3];simp only[sliceRange_one,pick_run,Yn] <;> rfl
inductive Ht(K:Fg)(x:V)(lo:Option Int)(hi:Option Int)(H:Hp)(Q:VK):Prop
 | mk:∀ a xs,x=.ref a->SqL K H a xs->(∀ p,H p=none->Q (.ref p) (upd H p (.lst (BO xs lo hi))))->Ht K x lo hi H Q
def Jz:QH X (Ht X.K):=by
 intro π s σ H x v vl vu lo hi sl Q I rx hs pl pu h;obtain⟨a,xs,rfl,hx,q⟩:=h;cases rx;obtain⟨ψ,r,ht,hz⟩:=I.list hx;have hlen:=↑r;refine⟨"list",_,slot_list_getitem.lookup,ht.isList.typeIs,?_⟩;refine wpAny_getItem_list_slice ht.isList hs pl pu .none 0.6 ?_ (by rw[Yn] <;> omega);rw[uI,<- hlen];refine⟨.ref ⇑s,_,I.laid (t':=s.toks) (o:=.lst (BO xs lo hi)) (λb ob q=>Yb _ q) (Ye _) ?_,rfl,q _ (I.hok.fresh (Ye _))⟩;exact⟨BL (gp xs lo hi) hz,_,0,(r.drop (HT.sIx ↑xs 0 lo)).take (HT.sIx ↑xs ↑xs hi - HT.sIx ↑xs 0 lo),Yh _ rfl⟩
def Ie:V->Bool
 | .non=>true
 | .bl _=>true
 | .int _=>true
 | .str _=>true
 | _=>false
def Jp:V->V->Bool
 | .non,.non=>true
 | .bl a,.bl b=>a == b
 | .bl a,.int b=>(if a then 1 else 0) == b
 | .int a,.bl b=>a == (if b then 1 else 0)
 | .int a,.int b=>a == b
 | .str a,.str b=>a == b
 | _,_=>false
def uz{A:Around}{s:χ}{y x:V}{u v:ε}(ry:Ae y u)(rx:Ae x v)(fy:Ie y=true)(fx:Ie x=true):SeqAt.EqAt A s u v (Jp y x):=by
 cases y with
 | non =>
  cases ry;cases x with
  | non=>cases rx;exact SeqAt.EqAt.same _
  | bl b=>cases rx;exact SeqAt.EqAt.none_bool b
  | int b=>obtain⟨t,rfl⟩:=rx;exact SeqAt.EqAt.none_int b t
  | str b=>obtain⟨t,rfl⟩:=rx;exact SeqAt.EqAt.none_str b t
  | _=>exact absurd (show false=true from fx) Yl
 | bl a =>
  cases ry;cases x with
  | non=>cases rx;exact SeqAt.EqAt.bool_none a
  | bl b=>cases rx;exact SeqAt.EqAt.bool_bool a b
  | int b=>obtain⟨t,rfl⟩:=rx;exact SeqAt.EqAt.bool_int a b t
  | str b=>obtain⟨t,rfl⟩:=rx;exact SeqAt.EqAt.bool_str a b t
  | _=>exact absurd (show false=true from fx) Yl
 | int a =>
  obtain⟨t',rfl⟩:=ry;cases x with
  | non=>cases rx;exact SeqAt.EqAt.int_none a t'
  | bl b=>cases rx;exact SeqAt.EqAt.int_bool a t' b
  | int b=>obtain⟨t,rfl⟩:=rx;exact SeqAt.EqAt.int_int a t' b t
  | str b=>obtain⟨t,rfl⟩:=rx;exact SeqAt.EqAt.int_str a t' b t
  | _=>exact absurd (show false=true from fx) Yl
 | str a =>
  obtain⟨t',rfl⟩:=ry;cases x with
  | non=>cases rx;exact SeqAt.EqAt.str_none a t'
  | bl b=>cases rx;exact SeqAt.EqAt.str_bool a t' b
  | int b=>obtain⟨t,rfl⟩:=rx;exact SeqAt.EqAt.str_int a t' b t
  | str b=>obtain⟨t,rfl⟩:=rx;exact SeqAt.EqAt.str_str a t' b t
  | _=>exact absurd (show false=true from fx) Yl
 | _=>exact absurd (show false=true from fy) Yl
def En(x:V)(u:ε):Bool:=match u with
 | .none=>Jp .non x
 | .bool b=>Jp (.bl b) x
 | .int i _=>Jp (.int i) x
 | .str z _=>Jp (.str z) x
 | _=>false
def i7{x y:V}{u:ε}(r:Ae y u)(f:Ie y=true):En x u=Jp y x:=by
 cases y with
 | non=>cases r;rfl
 | bl b=>cases r;rfl
 | int i=>obtain⟨t,rfl⟩:=r;rfl
 | str z=>obtain⟨t,rfl⟩:=r;rfl
 | _=>exact absurd (show false=true from f) Yl
theorem Oy{x:V}:∀ {xs:LV}{us:LU},AX xs us->xs.all Ie=true->us.any (En x)=xs.any λy=>Jp y x
 | _,_,.nil,_=>rfl
 | y :: xs,u :: us,.cons r t,f=>by
  rw[Lc,Ed]at f;rw[KG,KG,i7 r f.1,Oy t f.2]
theorem O3{A:Around}{s:χ}{x:V}{v:ε}(rx:Ae x v)(fx:Ie x=true):∀ {xs:LV}{us:LU},AX xs us->xs.all Ie=true->∀ u∈us,SeqAt.EqAt A s u v (En x u)
 | _,_,.nil,_=>λu hu=>by cases hu
 | y :: xs,u :: us,.cons r t,f=>λu' hu=>by
  rw[Lc,Ed]at f
  rcases Yk.mp hu with rfl | hu
  ·rw[i7 r f.1];exact uz r rx f.1 fx
  ·exact O3 rx fx t f.2 u' hu
def Bw(x:V)(xs:LV):Bool:=xs.any λy=>Jp y x
inductive F2(K:Fg)(neg:Bool)(x:V)(y:V)(H:Hp)(Q:VK):Prop
 | mk:∀ p xs,y=.ref p->(SqL K H p xs\/AG K H p xs)->Ie x=true->xs.all Ie=true->Q (.bl (if neg then !Bw x xs else Bw x xs)) H->F2 K neg x y H Q
def Iz:BM X (compareOp .In) (F2 X.K false):=by
 exfalso;obtain⟨p,xs,rfl,hq,fx,fs,q⟩:=h;cases ry
 rcases hq with hq | hq
 ·obtain⟨ψ,r,pl,hz⟩:=I.list hq;refine SeqAt.in_listAt (En x) pl.isList (λw hw=>O3 rx fx r fs w (by simpa using hw)) ⟨.bl _,H,I,rfl,?_⟩;rw[show ψ.toArray.any (En x)=ψ.any (En x) by simp,Oy r fs];exact q
 ·obtain⟨ψ,r,pl,hz⟩:=I.tuple hq;refine SeqAt.in_tupleAt (En x) pl (λw hw=>O3 rx fx r fs w (by simpa using hw)) ⟨.bl _,H,I,rfl,?_⟩;rw[show ψ.toArray.any (En x)=ψ.any (En x) by simp,Oy r fs];exact q
def Xk:BM X (compareOp .NotIn) (F2 X.K true):=by
 exfalso;obtain⟨p,xs,rfl,hq,fx,fs,q⟩:=h;cases ry
 rcases hq with hq | hq
 ·obtain⟨ψ,r,pl,hz⟩:=I.list hq;refine SeqAt.notIn_listAt (En x) pl.isList (λw hw=>O3 rx fx r fs w (by simpa using hw)) ⟨.bl _,H,I,rfl,?_⟩;rw[show ψ.toArray.any (En x)=ψ.any (En x) by simp,Oy r fs];exact q
 ·obtain⟨ψ,r,pl,hz⟩:=I.tuple hq;refine SeqAt.notIn_tupleAt (En x) pl (λw hw=>O3 rx fx r fs w (by simpa using hw)) ⟨.bl _,H,I,rfl,?_⟩;rw[show ψ.toArray.any (En x)=ψ.any (En x) by simp,Oy r fs];exact q
def Cb:EG X (.builtin "len") (λxs H Q=>∃ p ys,xs=[.ref p]/\(SqL X.K H p ys\/AG X.K H p ys)/\Q (.int ↑ys) H):=by
 intro π s σ H xs us Q I r h;obtain⟨p,ys,rfl,hq,q⟩:=h;obtain⟨u,rfl,rx⟩:=Fm r;cases rx;have hn:=K_
 rcases hq with hq | hq
 ·obtain⟨ψ,r',pl,hz⟩:=I.list hq;have hlen:=↑r';exact Calls.call_len_list pl.isList (by simp only[Yn] <;> omega) ⟨.int ↑ys,H,I.tok _,⟨s.toks + 1,by rw[Yn,hlen]⟩,q⟩
 ·obtain⟨ψ,r',pl,hz⟩:=I.tuple hq;have hlen:=↑r';exact len_tuple pl (by simp only[Yn] <;> omega) ⟨.int ↑ys,H,I.tok _,⟨s.toks + 1,by rw[Yn,hlen]⟩,q⟩
def XY:EG X (.type "list") (λxs H Q=>∃ p ys,xs=[.ref p]/\(SqL X.K H p ys\/AG X.K H p ys)/\∀ l,H l=none->Q (.ref l) (upd H l (.lst ys))):=by
 intro π s σ H xs us Q I r h;obtain⟨p,ys,rfl,hq,q⟩:=h;obtain⟨u,rfl,rx⟩:=Fm r;cases rx;have fin:∀(ψ:LU),AX ys ψ->↑ys<=sizeLine->∀(h':Heap) (c':Nat),(∀ b o',s.heap.get? b≈o'->h'.get? b≈o') ->
   h'.get? ⇑s=some {cls:=.type "list",dict:=none,data:=.seq ψ.toArray c',slots:=#[] }->EP X π σ Q (.ref ⇑s) {s with heap:=h' }:=λψ r' hz h' c' kp e =>
  ⟨.ref ⇑s,_,I.laid (t':=s.toks) kp (Ye _) (show BB X.prog X.w _ h' _ (.lst ys)from⟨hz,ψ,c',r',e⟩),Y,q _ (I.hok.fresh (Ye _))⟩
 rcases hq with hq | hq
 ·obtain⟨ψ,r',pl,hz⟩:=I.list hq;have hlen:=↑r';obtain⟨o,ho,hc,n,hd⟩:=pl.isList;exact call_list_seq p (.inl rfl) ho hc hd (λh' c' kp e=>fin ψ r' hz h' c' kp e) (by simp only[Yn] <;> omega)
 ·obtain⟨ψ,r',pl,hz⟩:=I.tuple hq;have hlen:=↑r';obtain⟨o,ho,hc,n,hd⟩:=pl;exact call_list_seq p (.inr rfl) ho hc hd (λh' c' kp e=>fin ψ r' hz h' c' kp e) (by simp only[Yn] <;> omega)
def LI:EG X (.type "tuple") (λxs H Q=>∃ p ys,xs=[.ref p]/\((SqL X.K H p ys/\∀ l,H l=none->Q (.ref l) (upd H l (.tup ys)))\/(AG X.K H p ys/\Q (.ref p) H))):=by
 intro π s σ H xs us Q I r h;obtain⟨p,ys,rfl,h⟩:=h;obtain⟨u,rfl,rx⟩:=Fm r;cases rx
 rcases h with⟨hq,q⟩ | ⟨hq,q⟩
 ·obtain⟨ψ,r',pl,hz⟩:=I.list hq;have hlen:=↑r';refine call_tuple_list pl.isList (λh' kp=>?_) (by simp only[Yn] <;> omega);have I1:Inv X π σ H {s with heap:=h' }:=I.kept (t':=s.toks) kp;have I2:Inv X π σ (upd H h'.objs.size (.tup ys)) {s with heap:=h'.push {cls:=.type "tuple",data:=.seq ψ.toArray} } :=
   I1.laid (t':=s.toks) (λb o e=>Yb _ e) (Ye _) (show BB X.prog X.w _ _ _ (.tup ys)from⟨hz,ψ,r',IsTup.new _ _⟩)
  exact⟨.ref h'.objs.size,_,I2,Y,q _ (I1.hok.fresh (Ye _))⟩
 ·obtain⟨ψ,r',pl,hz⟩:=I.tuple hq;exact call_tuple_same pl ⟨.ref p,H,I,Y,q⟩
def UY(K:Fg)(T:String)(x:V)(H:Hp):Prop:=match x with
 | .str _=>T="str"
 | .int _=>T="int"
 | .ref p=>(T="list"/\∃ xs,SqL K H p xs)\/(T="tuple"/\∃ o,K.lookup p≈o/\o.cls=.type "tuple"/\o.dict=none) \/
   (T="dict"/\((∃ ν,H p≈(.dK ν))\/∃ ν,H p≈(.dT ν)))\/(T="set"/\∃ S n,H p≈(.set S n))
 | _=>False
def jN{π:PL}{σ:St}{H:Hp}{s:χ}{T:String}{x:V}{v:ε}(I:Inv X π σ H s)(r:Ae x v)(ty:UY X.K T x H):
  s.TypeIs v T/\∀ a,v=.ref a->∃ ob,s.heap.get? a≈ob/\ob.dict=none:=by
 cases x with
 | str z =>
  obtain⟨t,rfl⟩:=r;cases(show T="str" from ty);exact⟨typeIs_str s z t,λ_ e=>nomatch e⟩
 | int i =>
  obtain⟨t,rfl⟩:=r;cases(show T="int" from ty);exact⟨typeIs_int s i t,λ_ e=>nomatch e⟩
 | ref p =>
  cases r
  rcases ty with⟨rfl,xs,hq⟩ | ⟨rfl,o,hk,hc,hd⟩ | ⟨rfl,hk⟩ | ⟨rfl,S,n,hk⟩
  ·obtain⟨ψ,_,pl,_⟩:=I.list hq;refine⟨pl.isList.typeIs,λa e=>?_⟩;cases e;obtain⟨o,n,e,c,hd,_⟩:=pl;exact⟨o,e,hd⟩
  ·refine⟨⟨o,I.kIn p o hk,hc⟩,λa e=>?_⟩;cases e;exact⟨o,I.kIn _ o hk,hd⟩
  ·have z:∃ o,s.heap.get? p≈o/\o.ExactDict:=by
    rcases hk with⟨ν,hk⟩ | ⟨ν,hk⟩
    ·obtain⟨_,_,_,_,o,_,_,e,ex,_⟩:=I.hok p _ hk;exact⟨o,e,ex⟩
    ·obtain⟨_,_,_,_,o,_,_,e,ex,_⟩:=I.hok p _ hk;exact⟨o,e,ex⟩
   obtain⟨o,e,ex⟩:=z;refine⟨⟨o,e,ex.1⟩,λa e2=>?_⟩;cases e2;exact⟨o,e,ex.2.1⟩
  ·obtain⟨o,_,_,_,e,ex,_⟩:=I.hok p _ hk;refine⟨⟨o,e,ex.1⟩,λa e2=>?_⟩;cases e2;exact⟨o,e,ex.2.1⟩
 | _=>exact False.elim ty
def Yfa(K:Fg)(T:String)(r:V->LV->Hp->VK->Prop)(to:TE):TE:=λσ H Q=>to σ H λx H1=>UY K T x H1/\r x [] H1 Q
def lW(K:Fg)(T:String)(r:V->LV->Hp->VK->Prop)(to:TE)(t:TA):TE:=λσ H Q=>to σ H λx H1=>UY K T x H1/\t σ H1 λxs H2=>r x xs H2 Q
variable {o e:Expr}{es:μ}{to:TE}{t:TA}{name:Str}{apos Ac:Pos}{T id:String}{r:V->LV->Hp->VK->Prop}
def Vl(pa:PlainAttrs T)(slot:Slot T name id)(hty:typeOf (.builtin id)=pure (.type "method_descriptor"))(hm:k9 X id r)(ho:PE X o to)
  (Ba:attributeBase o name X.env (eval o X.env)=eval o X.env:=by rfl) (BZ:(apos.endLine == Ac.line)=true:=by rfl):PE X (.Call (.Attribute o name apos) [] [] Ac) (Yfa X.K T r to):=by
 ac_rfl;refine wpAny_Call_method0_late Ba BZ (AM (ho π s σ H _ I h) λv s1 ⟨x,H1,I1,r1,ty,q1⟩=>?_);obtain⟨h1,h2⟩:=jN I1 r1 ty;exact⟨T,id,pa,slot,hty,h1,h2,NT rfl (Pz (hm π s1 σ H1 x [] v [] Q I1 r1 .nil q1))⟩
def DQ(pa:PlainAttrs T)(slot:Slot T name id)(hty:typeOf (.builtin id)=pure (.type "method_descriptor"))(hm:k9 X id r)(ho:PE X o to)(ha:PA X (e :: es) t)
  (Ba:attributeBase o name X.env (eval o X.env)=eval o X.env:=by rfl)
  (hfew:((backTo Ac (starEach (e :: es) X.env)).all (λx=>!x.1)&&(backToKw Ac (keywordEach [] X.env)).all (λx=>x.1.isSome)
   && decide (↑(e :: es) + ↑([]:List Keyword) + (if([]:List Keyword).isEmpty then 0 else 1)<30))=true:=by rfl)
  (BZ:(apos.endLine == Ac.line)=true:=by rfl) (hs:starEach (e :: es) X.env=(false,eval e X.env):: starEach es X.env:=by rfl) (hplain:(backTo Ac (starEach es X.env)).any 0.8=false:=by rfl):
  PE X (.Call (.Attribute o name apos) (e :: es) [] Ac) (lW X.K T r to t):=by
 ac_rfl;refine wpAny_Call_method_late Ba hfew BZ rfl (AM (ho π s σ H _ I h) λv s1 ⟨x,H1,I1,r1,ty,q1⟩=>?_);obtain⟨h1,h2⟩:=jN I1 r1 ty;refine⟨T,id,pa,slot,hty,h1,h2,?_⟩;have hA:=ha Ac π s1 σ H1 _ I1 q1;rw[hs]at hA ⊢;refine NT (by show(false || (backTo Ac (starEach es X.env)).any 0.8)=false;rw[hplain] <;> rfl) (Calls.evalArgs_plain ?_);exact AM hA λus s2 ⟨vs,H2,I2,r2,q2⟩=>hm π s2 σ H2 x vs v us Q I2 r1 r2 q2
end
def QO(X:Cx)(id:String)(r:V->LV->Hp->VK->Prop):Prop :=
 ∀(π:PL) (s:χ) (σ:St) (H:Hp) (x:V) (xs:LV) (v:ε) (us:LU) (Q:VK),Inv X π σ H s->Ae x v->AX xs us->r x xs H Q ->
  wpAny 0.3 X.A (call (.builtin id) (v :: us)) (EP X π σ Q) X.xe s
def AX.one:∀ {x:V}{us:LU},AX [x] us->∃ u,us=[u]/\Ae x u
 | _,_,.cons r .nil=>⟨Z,r⟩
def AX.zero:∀ {us:LU},AX [] us->us=[]
 | _,.nil=>rfl
theorem AX.dropLast{xs:LV}{us:LU}(h:AX xs us):AX xs.dropLast us.dropLast:=by
 induction h with
 | nil=>exact .nil
 | cons r t ih =>
  cases t with
  | nil=>exact .nil
  | cons q t'=>exact .cons r ih
theorem AX.rep{xs:LV}{us:LU}(h:AX xs us):∀ k:Nat,AX (List.replicate k xs).flatten (List.replicate k us).flatten
 | 0=>.nil
 | k + 1=>by
  rw[JH,JH,Le,Le];exact AX.append h (AX.rep h k)
def rH{α:Type}(l:List α):l.eraseIdx (↑l - 1)=l.dropLast:=by
 induction l with
 | nil=>rfl
 | cons a r ih =>
  cases r with
  | nil=>rfl
  | cons b r =>
   have e:↑(a :: b :: r) - 1=(↑(b :: r) - 1) + 1:=by
    have h1:↑(a :: b :: r)=↑r + 2:=rfl;have h2:↑(b :: r)=↑r + 1:=rfl;omega
   rw[e,List.eraseIdx_cons_succ,ih]
   all_goals rfl
theorem eR(ψ:LU):∀(k:Nat) (acc:LU),
  List.foldl (λx1 x2=>x1++x2) acc.toArray (List.replicate k ψ.toArray)=(acc++(List.replicate k ψ).flatten).toArray
 | 0,acc=>by simp
 | k + 1,acc=>by
  have e:acc.toArray++ψ.toArray=(acc++ψ).toArray:=by simp
  have e2:(acc++ψ)++(List.replicate k ψ).flatten=acc++(List.replicate (k + 1) ψ).flatten:=by
   rw[JH,Le,IH]
  rw[<- e2,<- eR ψ k (acc++ψ),<- e,JH,List.foldl_cons]
section
variable {X:Cx}{π:PL}{σ:St}{H:Hp}{s:χ}{l b:δ}{xs ys zs:LV}
def Inv.lset{ψ its':LU}{n:Nat}{f:τ->τ}{t':Nat}(I:Inv X π σ H s)(hH:H l≈(.lst xs))
  (e:s.heap.get? l=some {cls:=.type "list",data:=.seq ψ.toArray n}) (hf:f ψ.toArray=its'.toArray) (hv:AX ys its') (hz:↑ys<=sizeLine):
  Inv X π σ (upd H l (.lst ys)) {s with heap:=s.heap.update l (Obj.mapSeq f),toks:=t' }:=by
 have q:=PySem.IsL.update e f;rw[hf]at q;refine I.write (x:=l) (e:=l) (by rw[hH];exact trivial) (.inl rfl) (λb' u hb hu=>(IM s.heap (Obj.mapSeq f) (Yw hb)).trans hu) ⟨_,q⟩ ?_;exact⟨hz,its',_,hv,q⟩
def Inv.lnew{ψ:LU}{t':Nat}(I:Inv X π σ H s)(hv:AX ys ψ)(hz:↑ys<=sizeLine):
  Inv X π σ (upd H ⇑s (.lst ys)) {s with heap:=s.heap.push {cls:=.type "list",data:=.seq ψ.toArray},toks:=t' } :=
 I.laid (λ_ _ q=>Yb _ q) (Ye _) ⟨hz,ψ,0,hv,Yh _ rfl⟩
theorem Inv.fresh(I:Inv X π σ H s):H ⇑s=none:=I.hok.fresh (Ye _)
def Inv.lstM(I:Inv X π σ H s)(hH:H l≈(.lst xs)):↑xs<=sizeLine/\∃(ψ:LU) (n:Nat),AX xs ψ/\↑xs=↑ψ/\s.heap.get? l=some {cls:=.type "list",data:=.seq ψ.toArray n}:=by
 obtain⟨z,ψ,n,r,e⟩:=I.hok l _ hH;exact⟨z,ψ,n,r,↑r,e⟩
def yJ{n:Nat}(h:n<=sizeLine):Builtin.List.listTooLong n=false:=by
 unfold Builtin.List.listTooLong;exact Jc 0.0
end
section
variable {X:Cx}
inductive cc(x:V)(vs:LV)(H:Hp)(Q:VK):Prop
 | mk:∀ l xs y,x=.ref l->vs=[y]->H l≈(.lst xs)->↑xs<sizeLine->Q .non (upd H l (.lst (xs++[y])))->cc x vs H Q
def FR:QO X "list.append" cc:=by
 intro π s σ H x vs v us Q I rx rv h;obtain⟨l,xs,y,rfl,rfl,hH,hz,q⟩:=h;cases rx;obtain⟨u,rfl,ru⟩:=rv.one;obtain⟨z,ψ,n,r,hl,e⟩:=I.lstM hH;refine call_meets F.slot_list_append ⟨_,e,rfl⟩ F.entry_list_append (F.args_list_append_2 _ _) (PySem.list_append l ψ.toArray n u (by rw[Yn];omega)) ⟨e,?_⟩;refine⟨.non,_,I.lset (its':=ψ++[u]) hH e 0.6 (r.append (.cons ru .nil)) ?_,rfl,q⟩;rw[Yo,List.length_singleton];omega
inductive cf(x:V)(vs:LV)(H:Hp)(Q:VK):Prop
 | mk:∀ l b xs zs,x=.ref l->vs=[.ref b]->H l≈(.lst xs)->H b≈(.lst zs)->↑xs + ↑zs<=sizeLine->Q .non (upd H l (.lst (xs++zs)))->cf x vs H Q
def qJ:QO X "list.extend" cf:=by
 intro π s σ H x vs v us Q I rx rv h;obtain⟨l,b,xs,zs,rfl,rfl,hH,hB,hz,q⟩:=h;cases rx;obtain⟨u,rfl,ru⟩:=rv.one;cases ru;obtain⟨z,ψ,n,r,hl,e⟩:=I.lstM hH;obtain⟨z2,C8,n2,r2,Al,e2⟩:=I.lstM hB;have hsz:ψ.toArray.size + C8.toArray.size<=sizeLine:=by rw[Yn,Yn];omega
 have hlong:¬ (!ψ.toArray.isEmpty&&Builtin.List.listTooLong (ψ.toArray.size + C8.toArray.size))=true:=by
  rw[yJ hsz,Bool.and_false];exact Yl
 refine call_meets F.slot_list_extend ⟨_,e,rfl⟩ F.entry_list_extend (F.args_list_extend_2 _ _)
  (AutoSeq1.list_extend_list_list_0 l ψ.toArray n b C8.toArray n2 hlong (by rw[Yn];omega) 0.0) ⟨e,e2,?_⟩
 refine⟨.non,_,I.lset (its':=ψ++C8) hH e 0.6 (r.append r2) ?_,rfl,q⟩;rw[Yo];omega
inductive kR(x:V)(vs:LV)(H:Hp)(Q:VK):Prop
 | mk:∀ l xs y,x=.ref l->vs=[]->H l≈(.lst xs)->xs[↑xs - 1]?≈y->Q y (upd H l (.lst xs.dropLast))->kR x vs H Q
def Ve:QO X "list.pop" kR:=by
 intro π s σ H x vs v us Q I rx rv h;obtain⟨l,xs,y,rfl,rfl,hH,hy,q⟩:=h;cases rx;have hus:=rv.zero;subst hus;obtain⟨z,ψ,n,r,hl,e⟩:=I.lstM hH;obtain⟨u,hu,ru⟩:=r.get hy;have Fc:ψ.toArray[ψ.toArray.size - 1]?≈u:=by
  show ψ.toArray[↑ψ - 1]?≈u;rw[<- Array.getElem?_toList,<- hl];exact hu
 refine call_meets F.slot_list_pop ⟨_,e,rfl⟩ F.entry_list_pop (F.args_list_pop_1 _) (MeetsSeq.list_pop_last l ψ.toArray n u Fc (by rw[Yn];omega)) ⟨e,?_⟩;refine⟨y,_,I.lset (its':=ψ.dropLast) hH e ?_ r.dropLast ?_,ru,q⟩
 ·show ψ.toArray.eraseIdxIfInBounds (ψ.toArray.size - 1)=ψ.dropLast.toArray;rw[Yn,List.eraseIdxIfInBounds_toArray,rH]
 ·rw[List.length_dropLast];omega
inductive ju(x:V)(y:V)(H:Hp)(Q:VK):Prop
 | mk:∀ l b xs zs,x=.ref l->y=.ref b->H l≈(.lst xs)->H b≈(.lst zs)->↑xs + ↑zs<=sizeLine->(∀ p,H p=none->Q (.ref p) (upd H p (.lst (xs++zs))))->ju x y H Q
def Jv:BM X (binaryOp .Add) ju:=by
 exfalso;obtain⟨l,b,xs,zs,rfl,rfl,hH,hB,hz,q⟩:=h;cases rx;cases ry;obtain⟨z,ψ,n,r,hl,e⟩:=I.lstM hH;obtain⟨z2,C8,n2,r2,Al,e2⟩:=I.lstM hB;refine PySem.P.add_list e e2 ?_ (by rw[Yn,Yn];omega);have ea:ψ.toArray++C8.toArray=(ψ++C8).toArray:=by simp
 rw[ea];exact⟨.ref _,_,I.lnew (t':=s.toks) (r.append r2) (by rw[Yo];omega),rfl,q _ I.fresh⟩
def V9{α:Type}(xs:List α)(k:Nat):(List.replicate k xs).flatten.length=k * ↑xs:=by
 induction k with
 | zero=>simp
 | succ k ih=>rw[JH,Le,Yo,ih,Nat.succ_mul,Nat.add_comm]
end
section
variable {prog:ω}{w:World}{A:Around}{E:EV}{s:χ}
end
section
variable {X:Cx}
end
section
variable {κ:Type}[DecidableEq κ]
def BE(ν:List (κ×V))(k:κ):OV:=(ν.find? λkv=>decide (kv.1=k)).map (·.2)
def Au(ν:List (κ×V))(k:κ)(v:V):List (κ×V):=
 if(ν.any λkv=>decide (kv.1=k))=true then ν.map (λkv=>if kv.1=k then(kv.1,v)else kv)else ν++[(k,v)]
def Ey{p:κ×V}{r:List (κ×V)}{k:κ}(e:p.1=k):BE (p :: r) k≈p.2:=by simp[BE,Lb,e]
def Ex{p:κ×V}{r:List (κ×V)}{k:κ}(e:¬ p.1=k):BE (p :: r) k=BE r k:=by simp[BE,Lb,e]
theorem LF(k:κ):∀ ν:List (κ×V),(ν.any λkv=>decide (kv.1=k))=(BE ν k).isSome
 | []=>rfl
 | p :: r=>by
  rw[KG];by_cases e:p.1=k
  ·simp only[Ey e,Jb e,Bool.true_or,Option.isSome_some]
  ·rw[Ex e,Jc e,NR];exact LF k r
theorem eI(k j:κ)(y:V):∀ ν:List (κ×V),BE (ν.map λkv=>if kv.1=k then(kv.1,y)else kv) j=(BE ν j).map λx=>if j=k then y else x
 | []=>rfl
 | p :: r=>by
  have ih:=eI k j y r;rw[Yy];by_cases h:p.1=k
  ·rw[if_pos h];by_cases e:p.1=j
   ·rw[Ey (p:=(p.1,y)) e,Ey e,Option.map_some,if_pos (e.symm.trans h)]
   ·rw[Ex (p:=(p.1,y)) e,Ex e,ih]
  ·rw[if_neg h];by_cases e:p.1=j
   ·rw[Ey (p:=p) e,Ey e,Option.map_some,if_neg (λz=>h (e.trans z))]
   ·rw[Ex (p:=p) e,Ex e,ih]
theorem gH(k j:κ)(y:V):∀ ν:List (κ×V),BE ν k=none->BE (ν++[(k,y)]) j=if j=k then ↥y else BE ν j
 | [],_=>by
  by_cases e:k=j
  ·rw[if_pos e.symm];exact Ey (p:=(k,y)) e
  ·rw[if_neg (λz=>e z.symm)];exact Ex (p:=(k,y)) e
 | p :: r,hn=>by
  rw[P4];have hk:¬ p.1=k:=λz=>by rw[Ey z]at hn;cases hn
  rw[Ex hk]at hn;have ih:=gH k j y r hn;by_cases e:p.1=j
  ·rw[Ey e,Ey e,if_neg (λz=>hk (e.trans z))]
  ·rw[Ex e,Ex e,ih]
def pW(ν:List (κ×V))(k j:κ)(y:V):BE (Au ν k y) j=if j=k then ↥y else BE ν j:=by
 unfold Au;by_cases a:(ν.any λkv=>decide (kv.1=k))=true
 ·rw[if_pos a,eI];rw[LF]at a;by_cases e:j=k
  ·obtain⟨x,hx⟩:=YH.mp a;rw[if_pos e,e,hx,Option.map_some,if_pos rfl]
  ·rw[if_neg e];cases BE ν j with
   | none=>rfl
   | some x=>rw[Option.map_some,if_neg e]
 ·rw[if_neg a];refine gH k j y ν ?_;rw[LF]at a;cases q:BE ν k with
  | none=>rfl
  | some x=>rw[q]at a;exact(a rfl).elim
def XZ(ν:List (κ×V))(k:κ)(v:V):↑(Au ν k v)<=↑ν + 1:=by
 unfold Au;split
 ·rw[Ya];omega
 ·rw[Yo,B_,List.length_nil];omega
def LC{ν:List (κ×V)}{k:κ}(v:V)(h:BE ν k=none):Au ν k v=ν++[(k,v)]:=by
 unfold Au;rw[LF,h];exact if_neg 0.1
def EU.isSome_eq{o:OV}{u:OU}(r:EU o u):o.isSome=u.isSome:=by
 cases o with
 | none=>cases u with
  | none=>rfl
  | some _=>exact(show False from r).elim
 | some _=>cases u with
  | none=>exact(show False from r).elim
  | some _=>rfl
def KV.val{ν:List (κ×V)}{vs:List (κ×ε)}(r:KV ν vs)(k:κ):EU (BE ν k) (valueAt vs k):=by
 unfold KV at r
 induction r with
 | nil=>exact True.intro
 | @cons p q ps qs h t ih =>
  obtain⟨h1,h2⟩:=h;by_cases e:p.1=k
  ·have e':q.1=k:=h1.symm.trans e;have b:valueAt (q :: qs) k≈q.2:=by simp[valueAt,Lb,e']
   rw[Ey e,b];exact h2
  ·have e':¬ q.1=k:=λz=>e (h1.trans z);have b:valueAt (q :: qs) k=valueAt qs k:=by simp[valueAt,Lb,e']
   rw[Ex e,b];exact ih
theorem KV.any{ν:List (κ×V)}{vs:List (κ×ε)}(r:KV ν vs)(k:κ):(ν.any λkv=>decide (kv.1=k))=vs.any λkv=>decide (kv.1=k):=by
 unfold KV at r
 induction r with
 | nil=>rfl
 | cons h t ih=>rw[KG,KG,ih,h.1]
def KV.repl{ν:List (κ×V)}{vs:List (κ×ε)}(r:KV ν vs)(k:κ){y:V}{u:ε}(ry:Ae y u):
  KV (ν.map λkv=>if kv.1=k then(kv.1,y)else kv) (vs.map λkv=>if kv.1=k then(kv.1,u)else kv):=by
 unfold KV at r ⊢
 induction r with
 | nil=>exact .nil
 | @cons p q ps qs h t ih =>
  rw[Yy,Yy];refine .cons ?_ ih;obtain⟨h1,h2⟩:=h;by_cases e:p.1=k
  ·rw[if_pos e,if_pos (h1.symm.trans e)];exact⟨h1,ry⟩
  ·rw[if_neg e,if_neg (λz=>e (h1.trans z))];exact⟨h1,h2⟩
def KV.put{ν:List (κ×V)}{vs:List (κ×ε)}(r:KV ν vs)(k:κ){y:V}{u:ε}(ry:Ae y u):KV (Au ν k y) (stored vs k u):=by
 unfold Au stored;rw[r.any k];by_cases e:(vs.any λkv=>decide (kv.1=k))=true
 ·rw[if_pos e,if_pos e];exact r.repl k ry
 ·rw[if_neg e,if_neg e];exact CH r ⟨Y,ry⟩
theorem KV.length{ν:List (κ×V)}{vs:List (κ×ε)}(r:KV ν vs):↑ν=↑vs:=Yp r
end
def K4{P:ω}{w:World}{k:Key}{u:ε}(r:Ae (kV k) u):(Bp P w).is k u=true:=by
 cases k with
 | inl i=>obtain⟨t,e⟩:=(show ∃ t,u=Value.int i t from r);subst e;exact tG P w i t
 | inr x=>obtain⟨t,e⟩:=(show ∃ t,u=Value.str x t from r);subst e;exact tH P w x t
theorem eZ{P:ω}{w:World}:∀ {ks:List Key}{us:LU},AX (ks.map kV) us->ItemsAre (Bp P w) ks us
 | [],_,r=>by rw[List.map_nil]at r;cases r;exact .nil
 | k :: ks,_,r=>by
  rw[Yy]at r;cases r with
  | cons h t=>exact .cons (K4 h) (eZ t)
abbrev KT(H:Hp):List (List Key×V)->List (List Key×δ×ε)->Prop:=Paired λp q=>p.1=q.1/\H q.2.1≈(.tup (p.1.map kV))/\Ae p.2 q.2.2
def KT.val{H:Hp}{ν:List (List Key×V)}{xs:List (List Key×δ×ε)}(r:KT H ν xs)(k:List Key):EU (BE ν k) ((atKey xs k).map (·.2)):=by
 induction r with
 | nil=>exact True.intro
 | @cons p q ps qs h t ih =>
  obtain⟨h1,_,h2⟩:=h;by_cases e:p.1=k
  ·have e':q.1=k:=h1.symm.trans e;have b:atKey (q :: qs) k≈q.2:=by simp[atKey,Lb,e']
   rw[Ey e,b];exact h2
  ·have e':¬ q.1=k:=λz=>e (h1.trans z);have b:atKey (q :: qs) k=atKey qs k:=by simp[atKey,Lb,e']
   rw[Ex e,b];exact ih
def KT.repl{H:Hp}{ν:List (List Key×V)}{xs:List (List Key×δ×ε)}(r:KT H ν xs)(k:List Key){y:V}{u:ε}(ry:Ae y u):
  KT H (ν.map λkv=>if kv.1=k then(kv.1,y)else kv) (xs.map (putAt k u)):=by
 induction r with
 | nil=>exact .nil
 | @cons p q ps qs h t ih =>
  rw[Yy,Yy];refine .cons ?_ ih;obtain⟨h1,h2,h3⟩:=h;unfold putAt;by_cases e:p.1=k
  ·rw[if_pos e,if_pos (h1.symm.trans e)];exact⟨h1,h2,ry⟩
  ·rw[if_neg e,if_neg (λz=>e (h1.trans z))];exact⟨h1,h2,h3⟩
def KT.put{H:Hp}{ν:List (List Key×V)}{xs:List (List Key×δ×ε)}(r:KT H ν xs)(k:List Key){b:δ}{y:V}{u:ε}(hb:H b≈(.tup (k.map kV)))(ry:Ae y u):
  KT H (Au ν k y) (storedH xs k b u):=by
 have e:(ν.any λkv=>decide (kv.1=k))=(atKey xs k).isSome:=by
  rw[LF,(r.val k).isSome_eq,Option.isSome_map]
 unfold Au storedH;rw[e];by_cases q:(atKey xs k).isSome=true
 ·rw[if_pos q,if_pos q];exact r.repl k ry
 ·rw[if_neg q,if_neg q];exact CH r ⟨Y,hb,ry⟩
def KT.keeps{H H':Hp}{ν:List (List Key×V)}{xs:List (List Key×δ×ε)}(r:KT H ν xs)(ht:∀ b ys,H b≈(.tup ys)->H' b≈(.tup ys)):KT H' ν xs :=
 Paired.mapP r λ_ _ z=>⟨z.1,ht _ _ z.2.1,z.2.2⟩
section
variable {P:ω}{w:World}{H:Hp}{h:Heap}{a:δ}
def ir{u:HO}(ok:BU P w H h)(e:Rd H a u):BB P w H h a u:=e.ok ok
def Jt{ν:KL}(ok:BU P w H h)(e:Rd H a (.dK ν)):↑ν<=sizeLine/\(a == sysModules)=false/\∃ vs,KV ν vs/\h.DictOf (Bp P w) a vs :=
 show BB P w H h a (.dK ν)from ir ok e
def iJ{ν:KL}(ok:BU P w H h)(e:H a≈(.dK ν)):↑ν<=sizeLine/\(a == sysModules)=false/\∃ vs,KV ν vs/\h.DictOf (Bp P w) a vs:=Jt ok (.inl e)
def Mn{ks:List Key}(ok:BU P w H h)(e:H a≈(.tup (ks.map kV))):(tupleKind (Bp P w)).is h ks a:=by
 obtain⟨_,ψ,r,o,h1,h2,n,h3⟩:=(show BB P w H h a (.tup (ks.map kV))from ok a _ e);exact⟨o,ψ.toArray,n,h1,h2,h3,by simpa using eZ r⟩
def Mi{ν:List (List Key×V)}(ok:BU P w H h)(e:Rd H a (.dT ν)):↑ν<=sizeLine/\(a == sysModules)=false /\
  ∃ xs,KT H ν xs/\h.DictOfH (tupleKind (Bp P w)) a xs:=by
 obtain⟨z,y,xs,r,o,es,ep,h1,h2,h3,h4,h5⟩:=(show BB P w H h a (.dT ν)from ir ok e);refine⟨z,y,xs,r,o,es,ep,h1,h2,h3,h4,λx hx=>?_,h5⟩;have all:∀ {l:List (List Key×V)} {m:List (List Key×δ×ε)},KT H l m->∀ x∈m,(tupleKind (Bp P w)).is h x.1 x.2.1:=by
  intro l m q
  induction q with
  | nil=>intro x hx;exact nomatch hx
  | @cons p q ps qs hq t ih =>
   intro x hx
   rcases Yk.mp hx with e | hx
   ·subst e;exact Mn ok (by rw[<- hq.1];exact hq.2.1)
   ·exact ih x hx
 exact all r x hx
def Ycr{ν:List (List Key×V)}(ok:BU P w H h)(e:H a≈(.dT ν)):↑ν<=sizeLine/\(a == sysModules)=false /\
  ∃ xs,KT H ν xs/\h.DictOfH (tupleKind (Bp P w)) a xs:=Mi ok (.inl e)
end
def Bl(H:Hp)(a:δ)(y:V)(r:OV):Prop :=
 (∃ ν k,Rd H a (.dK ν)/\y=kV k/\r=BE ν k)\/∃ ν k b,Rd H a (.dT ν)/\y=.ref b/\H b≈(.tup (k.map kV))/\r=BE ν k
def EE(H:Hp)(a:δ)(y v:V)(H':Hp):Prop :=
 (∃ ν k,H a≈(.dK ν)/\y=kV k/\↑ν<sizeLine/\H'=upd H a (.dK (Au ν k v))) \/
 ∃ ν k b,H a≈(.dT ν)/\y=.ref b/\H b≈(.tup (k.map kV))/\↑ν<sizeLine/\H'=upd H a (.dT (Au ν k v))
def Bl.k{H:Hp}{a:δ}{ν:KL}{k:Key}(e:H a≈(.dK ν)):Bl H a (kV k) (BE ν k):=.inl ⟨ν,k,.inl e,Y,Y⟩
def Bl.t{H:Hp}{a b:δ}{ν:List (List Key×V)}{k:List Key}(e:H a≈(.dT ν))(eb:H b≈(.tup (k.map kV))):Bl H a (.ref b) (BE ν k):=.inr ⟨ν,k,b,.inl e,Y,eb,Y⟩
def EE.k{H:Hp}{a:δ}{ν:KL}{k:Key}{v:V}(e:H a≈(.dK ν))(hl:↑ν<sizeLine):EE H a (kV k) v (upd H a (.dK (Au ν k v))):=.inl ⟨ν,k,e,Y,hl,Y⟩
def EE.t{H:Hp}{a b:δ}{ν:List (List Key×V)}{k:List Key}{v:V}(e:H a≈(.dT ν))(eb:H b≈(.tup (k.map kV)))(hl:↑ν<sizeLine):
  EE H a (.ref b) v (upd H a (.dT (Au ν k v))):=.inr ⟨ν,k,b,e,Y,eb,hl,Y⟩
section
variable {X:Cx}{π:PL}{σ:St}{H:Hp}{s:χ}{a:δ}{y v:V}{u r:ε}{o:OV}{A:Around}{E:EV}
def Inv.big(I:Inv X π σ H s):sysModules<⇑s:=by
 have h:mainGlobals<⇑s:=(I.mod.glob.keeps I.bk).lt;exact GV 0.1 h
def pX{Q:EV}(hu:A.units + 1<cLine)(I:Inv X π σ H s)(g:Bl H a y (↥v))(ry:Ae y u)(h:∀ w' s',Inv X π σ H s'->Ae v w'->Q w' s'):
  wpAny 0.3 A (getItem (.ref a) u) Q E s:=by
 rcases g with⟨ν,k,e,ey,l⟩ | ⟨ν,k,b,e,ey,eb,l⟩
 ·subst ey;obtain⟨z,hd,vs,rel,dd⟩:=Jt I.hok e;obtain⟨w',hw,D9⟩:=EU.some_of (v:=v) (o:=valueAt vs k) (by rw[l];exact rel.val k);exact wpAny_getItem_of (K4 ry) dd.mapOf hw (h w' _ (I.tok _) D9)
 ·subst ey;cases(show u=Value.ref b from ry);obtain⟨z,hd,xs,rel,dd⟩:=Mi I.hok e;obtain⟨w',hw,D9⟩:=EU.some_of (v:=v) (o:=(atKey xs k).map (·.2)) (by rw[l];exact rel.val k);obtain⟨p,hp,Dp⟩:=E3.mp hw;refine wpAny_getItem_heap (tupleKind_room_in1 hu) (Mn I.hok eb) dd hp ?_;rw[Dp];exact h w' _ (I.tok _) D9
def zN{Q:EV}(hu:A.units + 1<cLine)(I:Inv X π σ H s)(g:Bl H a y o)(ry:Ae y u)(h:∀ s',Inv X π σ H s'->Q (.bool o.isSome) s'):
  wpAny 0.3 A (compareOp .In u (.ref a)) Q E s:=by
 rcases g with⟨ν,k,e,ey,l⟩ | ⟨ν,k,b,e,ey,eb,l⟩
 ·subst ey;obtain⟨z,hd,vs,rel,dd⟩:=Jt I.hok e;refine wpAny_in_of (K4 ry) hd dd.mapOf ?_;rw[<- (rel.val k).isSome_eq,<- l];exact h _ (I.tok _)
 ·subst ey;cases(show u=Value.ref b from ry);obtain⟨z,hd,xs,rel,dd⟩:=Mi I.hok e;refine wpAny_in_heap (tupleKind_room_in1 hu) (Mn I.hok eb) hd dd ?_;have q:=(rel.val k).isSome_eq;rw[Option.isSome_map]at q;rw[<- q,<- l];exact h _ (I.tok _)
def vh{Q:EV}(hu:A.units + 1<cLine)(I:Inv X π σ H s)(g:Bl H a y o)(ry:Ae y u)(h:∀ s',Inv X π σ H s'->Q (.bool (!o.isSome)) s'):
  wpAny 0.3 A (compareOp .NotIn u (.ref a)) Q E s:=by
 rcases g with⟨ν,k,e,ey,l⟩ | ⟨ν,k,b,e,ey,eb,l⟩
 ·subst ey;obtain⟨z,hd,vs,rel,dd⟩:=Jt I.hok e;refine wpAny_notIn_of (K4 ry) hd dd.mapOf ?_;rw[<- (rel.val k).isSome_eq,<- l];exact h _ (I.tok _)
 ·subst ey;cases(show u=Value.ref b from ry);obtain⟨z,hd,xs,rel,dd⟩:=Mi I.hok e;refine wpAny_notIn_heap (tupleKind_room_in1 hu) (Mn I.hok eb) hd dd ?_;have q:=(rel.val k).isSome_eq;rw[Option.isSome_map]at q;rw[<- q,<- l];exact h _ (I.tok _)
def Ro{h':Heap}{t':Nat}{ob:HO}(I:Inv X π σ H s)(mu:QN (H a))(hs:Heap.SameBut a s.heap h')(he:∃ q,h'.get? a≈q)(new:BB X.prog X.w (upd H a ob) h' a ob):
  Inv X π σ (upd H a ob) {s with heap:=h',toks:=t' } :=
 I.write (x:=a) (e:=a) mu (.inl rfl) (λb q hb z=>(hs.2 b hb).trans z) he new
def i5{P:ω}{w:World}{H':Hp}{h':Heap}{ν:KL}{vs:List (Key×ε)}(z:↑ν<=sizeLine)(hd:(a == sysModules)=false)(rel:KV ν vs)(dd:h'.DictOf (Bp P w) a vs):
  BB P w H' h' a (.dK ν):=⟨z,hd,vs,rel,dd⟩
def pY{H':Hp}{Q:Unit->χ->Prop}(hu:A.units + 1<cLine)(I:Inv X π σ H s)(g:EE H a y v H')(ry:Ae y u)(rv:Ae v r)(h:∀ s',Inv X π σ H' s'->Q () s'):
  wpAny 0.3 A (setItem (.ref a) u r) Q E s:=by
 rcases g with⟨ν,k,e,ey,l,eH⟩ | ⟨ν,k,b,e,ey,eb,l,eH⟩
 ·subst ey eH;obtain⟨z,hd,vs,rel,dd⟩:=iJ I.hok e;have hz:↑vs<=sizeLine:=by rw[<- ↑rel];exact z
  have hl:↑(Au ν k v)<=sizeLine:=by have:=XZ ν k v;omega
  refine wpAny_setItem_pairs (hsz:=hz) (K4 ry) dd λh' Gd hs=>h _ ?_;have he:∃ q,h'.get? a≈q:=let⟨q,_,_,hq,_⟩:=Gd;⟨q,hq⟩;exact Ro I (by rw[e];exact True.intro) hs he (i5 hl hd (rel.put k rv) Gd)
 ·subst ey eH;cases(show u=Value.ref b from ry);obtain⟨z,hd,xs,rel,dd⟩:=Ycr I.hok e;have hz:↑xs<=sizeLine:=by rw[<- Yp rel];exact z
  have hl:↑(Au ν k v)<=sizeLine:=by have:=XZ ν k v;omega
  refine wpAny_setItem_heap (hsz:=hz) (tupleKind_room_in1 hu) (Mn I.hok eb) dd λh' Gd hs=>h _ ?_;obtain⟨q,es,ep,hq,h2,h3,h4,_,h5⟩:=Gd;refine Ro I (by rw[e];exact True.intro) hs ⟨q,hq⟩ ⟨hl,hd,_,(rel.put k eb rv).keeps λc ys ec=>?_,q,es,ep,hq,h2,h3,h4,h5⟩;rw[AD (FJ ec e (λz=>nomatch z))];exact ec
end
section
variable {X:Cx}{π:PL}{σ:St}{H:Hp}{s:χ}{a:δ}{ν:KL}{k:Key}{u:ε}{A:Around}{E:EV}
end
def jd(i:Expr):Prop:=∀ ov iv,subscripted i false ov iv=operate [ov,iv] (getItem ov iv)
def xV{prog:ω}{w:World}{A:Around}{E:EV}{s:χ}{env:Env}{value slice:Expr}{pos:Pos}{T id:String}{Q:EV}
  (hl:typeLookup (.type T) "__getitem__"=pure (↥(.builtin id))) (hs:jd slice)
  (h:wpAny 0.4 A (eval value env) (λo s₁=>wpAny 0.4 A (eval slice env) (λi s₂=>s₂.TypeIs o T/\wpAny 0.4 A (getItem o i) Q E s₂) E s₁) E s):
  wpAny 0.4 A (eval (.Subscript value slice pos) env) Q E s:=by
 refine Subscript_ (Jf h (λo s₁ h₁=>Jf h₁ (λi s₂ h₂=>?_) λ_ _ x=>x) λ_ _ x=>x);obtain⟨hT,h₂⟩:=h₂;unfold subscriptTail;refine Ja ?_;rw[getitemInPython_of_ne hT.not_modules];refine Ja (wpAny_specialOf hT hl ?_);have fin:wpAny 0.4 A (subscripted slice false o i) (λr s₃=>wpAny 0.4 A (letTemporaryGo value o r>>=λ_=>pure r) Q E s₃) E s₂:=by
  rw[hs o i];exact wpAny_operating (Jf h₂ (λr s₃ h₃=>Ja (wpAny_letTemporaryGo (Jd h₃))) λ_ _ x=>x)
 first
  | exact Jd (Ja fin)
  | exact Ja (Jd (Ja fin))
  | exact Ja fin
def s_{X:Cx}{π:PL}{σ:St}{H:Hp}{s:χ}{a:δ}{y:V}{o:OV}(I:Inv X π σ H s)(g:Bl H a y o):s.TypeIs (.ref a) "dict":=by
 rcases g with⟨ν,k,e,_,_⟩ | ⟨ν,k,b,e,_,_,_⟩
 ·obtain⟨_,_,vs,_,dd⟩:=Jt I.hok e;exact dd.typeIs
 ·obtain⟨_,_,xs,_,dd⟩:=Mi I.hok e;exact dd.typeIs
inductive jI(Q:VK)(x:V)(y:V)(H2:Hp):Prop
 | mk:∀ a v,x=.ref a->Bl H2 a y (↥v)->Q v H2->jI Q x y H2
def Yax(td ty:TE):TE:=λσ H Q=>td σ H λx H1=>ty σ H1 λy H2=>jI Q x y H2
inductive iZ(Q:VK)(y:V)(x:V)(H2:Hp):Prop
 | mk:∀ a o,x=.ref a->Bl H2 a y o->Q (.bl o.isSome) H2->iZ Q y x H2
def Ye9(ty td:TE):TE:=λσ H Q=>ty σ H λy H1=>td σ H1 λx H2=>iZ Q y x H2
inductive eE(Q:VK)(y:V)(x:V)(H2:Hp):Prop
 | mk:∀ a o,x=.ref a->Bl H2 a y o->Q (.bl (!o.isSome)) H2->eE Q y x H2
def xW(ty td:TE):TE:=λσ H Q=>ty σ H λy H1=>td σ H1 λx H2=>eE Q y x H2
inductive jW(D:Cy)(σ:St)(v:V)(x:V)(y:V)(H3:Hp):Prop
 | mk:∀ a H4,x=.ref a->EE H3 a y v H4->D.nx σ H4->jW D σ v x y H3
def Ybo(td ty tv:TE):TS:=λD σ H=>tv σ H λv H1=>td σ H1 λx H2=>ty σ H2 λy H3=>jW D σ v x y H3
section
variable {X:Cx}{o i e value:Expr}{pos pos' Dl:Pos}{td ty tv:TE}
def Ip(hu:X.A.units + 1<cLine)(ho:PE X o td)(hi:PE X i ty)(hs:jd i):PE X (.Subscript o i pos) (Yax td ty):=by
 ac_rfl;refine xV PySem.F.slot_dict_getitem.lookup hs (AM (ho π s σ H _ I h) λu s1 ⟨x,H1,I1,rx,q1⟩=>AM (hi π s1 σ H1 _ I1 q1) λiv s2 ⟨y,H2,I2,ry,a,v,ex,g,q2⟩=>?_);subst ex;obtain rfl:u=Value.ref a:=rx;exact⟨s_ I2 g,pX hu I2 g ry λw' s3 I3 D9=>⟨v,H2,I3,D9,q2⟩⟩
def Mu(hu:X.A.units + 1<cLine)(hi:PE X i ty)(ho:PE X o td):PC X .In i o (Ye9 ty td):=by
 ac_rfl;refine AM (hi π s σ H _ I h) λiv s1 ⟨y,H1,I1,ry,q1⟩=>AM (ho π s1 σ H1 _ I1 q1) λu s2 ⟨x,H2,I2,rx,a,ov,ex,g,q2⟩=>?_;subst ex;obtain rfl:u=Value.ref a:=rx;exact zN hu I2 g ry λs3 I3=>⟨.bl ov.isSome,H2,I3,Y,q2⟩
def Ww(hu:X.A.units + 1<cLine)(hi:PE X i ty)(ho:PE X o td):PC X .NotIn i o (xW ty td):=by
 ac_rfl;refine AM (hi π s σ H _ I h) λiv s1 ⟨y,H1,I1,ry,q1⟩=>AM (ho π s1 σ H1 _ I1 q1) λu s2 ⟨x,H2,I2,rx,a,ov,ex,g,q2⟩=>?_;subst ex;obtain rfl:u=Value.ref a:=rx;exact vh hu I2 g ry λs3 I3=>⟨.bl (!ov.isSome),H2,I3,Y,q2⟩
def ID(hu:X.A.units + 1<cLine)(ho:PE X o td)(hi:PE X i ty)(hv:PE X value tv)(hs:swapsWith value (↥(.Subscript o i pos')) pos.line X.env=pure false):
  PS X (.Assign [.Subscript o i pos'] value pos) (Ybo td ty tv):=by
 intro π s σ H D I h;refine wpAny_Assign_Subscript (AM (hv π s σ H _ I h) λr s1 ⟨v,H1,I1,rv,q1⟩=>AM (ho π s1 σ H1 _ I1 q1) λu s2 ⟨x,H2,I2,rx,q2⟩=>AM (hi π s2 σ H2 _ I2 q2) λiv s3 ⟨y,H3,I3,ry,a,H4,ex,g,q3⟩=>?_) hs;subst ex;obtain rfl:u=Value.ref a:=rx;exact pY hu I3 g ry rv λs4 I4=>⟨σ,H4,I4,q3⟩
end
def dI{P:ω}{w:World}{H:Hp}(h:Heap)(hb:sysModules<h.objs.size):BB P w H (h.push {cls:=.type "dict",data:=.dict #[] }) h.objs.size (.dK []):=
 ⟨BC _,Nb.mpr (Yw (Yt hb)),[],.nil,Heap.DictOf.new h⟩
def xt{P:ω}{w:World}{H:Hp}(h:Heap)(hb:sysModules<h.objs.size):BB P w H (h.push {cls:=.type "dict",data:=.dict #[] }) h.objs.size (.dT []):=
 ⟨BC _,Nb.mpr (Yw (Yt hb)),[],.nil,_,#[],0,Yh _ rfl,⟨Y,Y,Y⟩,Y,Y,List.nodup_nil⟩
def vT:TE:=λ_ H Q=>∀ p,H p=none->Q (.ref p) (upd H p (.dK []))
def vU:TE:=λ_ H Q=>∀ p,H p=none->Q (.ref p) (upd H p (.dT []))
section
variable {X:Cx}{pos:Pos}
def J1:PE X (.Dict [] [] pos) vT:=λπ s σ H Q I h =>
 wpAny_Dict_empty ⟨.ref ⇑s,_,I.laid (a:=⇑s) (o:=.dK []) (t':=s.toks) (λ_ _ q=>Yb _ q) (Ye _) (dI s.heap I.big),Y,h _ (I.hok.fresh (Ye _))⟩
def R8:PE X (.Dict [] [] pos) vU:=λπ s σ H Q I h =>
 wpAny_Dict_empty ⟨.ref ⇑s,_,I.laid (a:=⇑s) (o:=.dT []) (t':=s.toks) (λ_ _ q=>Yb _ q) (Ye _) (xt s.heap I.big),Y,h _ (I.hok.fresh (Ye _))⟩
end
def Vy:List (TE×TE)->St->Hp->(List (V×V)->Hp->Prop)->Prop
 | [],_,H,Q=>Q [] H
 | (tk,tv):: r,σ,H,Q=>tk σ H λx H1=>tv σ H1 λy H2=>Vy r σ H2 λps H3=>Q ((x,y):: ps) H3
abbrev VV:List (V×V)->List (ε×ε)->Prop:=Paired λp q=>Ae p.1 q.1/\Ae p.2 q.2
def UK(X:Cx)(pos:Pos)(keys:List (Option Expr))(values:μ)(trs:List (TE×TE)):Prop :=
 ∀(π:PL) (s:χ) (σ:St) (H:Hp) (Q:List (V×V)->Hp->Prop),Inv X π σ H s->Vy trs σ H Q ->
  wpAny 0.3 X.A (evalPairs (pairTrees keys values X.env pos)) (λvs s'=>∃ ps H',Inv X π σ H' s'/\VV ps vs/\Q ps H') X.xe s
def wg{X:Cx}{pos:Pos}:UK X pos [] [] []:=λπ s σ H Q I h=>pairTrees_nil_walk ⟨[],H,I,.nil,h⟩
def ym{X:Cx}{pos:Pos}{k v:Expr}{ks:List (Option Expr)}{vs:μ}{tk tv:TE}{trs:List (TE×TE)}(hk:PE X k tk)(hv:PE X v tv)(hr:UK X pos ks vs trs):
  UK X pos (↥k :: ks) (v :: vs) ((tk,tv):: trs):=λπ s σ H Q I h =>
 pairTrees_cons_walk (AM (hk π s σ H _ I h) λu s1 ⟨x,H1,I1,rx,q1⟩=>AM (hv π s1 σ H1 _ I1 q1) λw2 s2 ⟨y,H2,I2,ry,q2⟩ =>
  AM (hr π s2 σ H2 _ I2 q2) λws s3 ⟨ps,H3,I3,rel,q3⟩=>⟨(x,y):: ps,H3,I3,.cons ⟨rx,ry⟩ rel,q3⟩)
def Oh(ν more:KL):KL:=more.foldl (λacc kv=>Au acc kv.1 kv.2) ν
def KV.merge:∀ {more:KL}{rs:List (Key×ε)}{ν:KL}{vs:List (Key×ε)},KV more rs->KV ν vs->KV (Oh ν more) (merged vs rs):=by
 intro more rs ν vs r;unfold KV at r
 induction r generalizing ν vs with
 | nil=>intro q;exact q
 | @cons p q ps qs h t ih =>
  intro r0;have e:KV (Au ν p.1 p.2) (stored vs q.1 q.2):=by
   have:=r0.put p.1 h.2;rw[<- h.1];exact this
  exact ih e
theorem hV:∀(more ν:KL),↑(Oh ν more)<=↑ν + ↑more
 | [],ν=>by show ↑ν<=↑ν + 0;omega
 | p :: r,ν=>by
  have h1:=hV r (Au ν p.1 p.2);have h2:=XZ ν p.1 p.2;show↑(Oh (Au ν p.1 p.2) r)<=_;rw[B_];omega
theorem gR{P:ω}{w:World}:∀ {ν:KL}{ws:List (ε×ε)},VV (ν.map λkv=>(kV kv.1,kv.2)) ws->∃ rs,Carries (Bp P w) ws rs/\KV ν rs
 | [],_,r=>by rw[List.map_nil]at r;cases r;exact⟨[],True.intro,.nil⟩
 | p :: ν,_,r=>by
  rw[Yy]at r;cases r with
  | @cons a b as bs h t =>
   obtain⟨rs,c,q⟩:=gR (P:=P) (w:=w) t;obtain⟨b1,b2⟩:=b;exact⟨(p.1,b2):: rs,⟨K4 h.1,Y,c⟩,.cons ⟨Y,h.2⟩ q⟩
def Yaw(trs:List (TE×TE)):TE:=λσ H Q=>∀ p,H p=none->Vy trs σ (upd H p (.dK [])) λps H2=>H2 p≈(.dK [])/\∃ ν:KL,ps=ν.map (λkv=>(kV kv.1,kv.2))/\↑ν<=15/\Q (.ref p) (upd H2 p (.dK (Oh [] ν)))
def xJ{X:Cx}{pos:Pos}{keys:List (Option Expr)}{values:μ}{trs:List (TE×TE)}(h:UK X pos keys values trs)(hall:keys.all (·.isSome)=true)(hl:↑keys=↑values)(h0:keys≠[])
  (ON:↑keys<=15):PE X (.Dict keys values pos) (Yaw trs):=by
 intro π s σ H Q I q;have hn:=I.hok.fresh (Ye ⇑s);have I1:=I.laid (a:=⇑s) (o:=.dK []) (h':=s.heap.push {cls:=.type "dict",data:=.dict #[] }) (t':=s.toks) (λ_ _ q=>Yb _ q) (Ye _) (dI s.heap I.big);refine wpAny_Dict_walk (knd:=Bp X.prog X.w) hall hl h0 ON (AM (h π _ σ _ _ I1 (q _ hn)) λws s2 ⟨ps,H2,I2,rel,e,ν,ep,lk,q2⟩=>?_);subst ep;obtain⟨rs,c,rk⟩:=gR (P:=X.prog) (w:=X.w) rel;obtain⟨z,hd,vs0,r0,dd⟩:=iJ I2.hok e;cases r0;refine⟨rs,c,dd,λh' Gd hs=>⟨.ref ⇑s,_,?_,Y,q2⟩⟩;have hz:↑(Oh [] ν)<=sizeLine:=by
  have h1:=hV ν [];rw[List.length_nil]at h1;rw[sizeLine_eq];omega
 have he:∃ q,h'.get? ⇑s≈q:=let⟨q,_,_,hq,_⟩:=Gd;⟨q,hq⟩;exact Ro I2 (by rw[e];exact True.intro) hs he (i5 hz hd (rk.merge .nil) Gd)
structure M2(X:Cx)(o:Expr)(m:Str)(apos:Pos)(e f:Expr)(Ac:Pos):Prop where
 base:attributeBase o m X.env (eval o X.env)=eval o X.env
 few:((backTo Ac (starEach [e,f] X.env)).all (λx=>!x.1)&&(backToKw Ac (keywordEach [] X.env)).all (λx=>x.1.isSome)
  && decide (↑([e,f]:μ) + ↑([]:List Keyword) + (if([]:List Keyword).isEmpty then 0 else 1)<30))=true
 line:(apos.endLine == Ac.line)=true
 trees:backTo Ac (starEach [e,f] X.env)=[(false,eval e X.env),(false,eval f X.env)]
def IsD(H:Hp)(a:δ):Prop:=(∃ ν,Rd H a (.dK ν))\/∃ ν,Rd H a (.dT ν)
def Rj{X:Cx}{π:PL}{σ:St}{H:Hp}{s:χ}{a:δ}(I:Inv X π σ H s)(d:IsD H a):
  s.TypeIs (.ref a) "dict"/\(∀ b,Value.ref a=.ref b->∃ ob,s.heap.get? b≈ob/\ob.dict=none)/\(a == sysModules)=false:=by
 rcases d with⟨ν,e⟩ | ⟨ν,e⟩
 ·obtain⟨_,hd,vs,_,dd⟩:=Jt I.hok e;refine⟨dd.typeIs,λb q=>?_,hd⟩;cases q;obtain⟨ob,_,_,h1,h2,_⟩:=dd;exact⟨ob,h1,h2.2.1⟩
 ·obtain⟨_,hd,xs,_,dd⟩:=Mi I.hok e;refine⟨dd.typeIs,λb q=>?_,hd⟩;cases q;obtain⟨ob,_,_,h1,h2,_⟩:=dd;exact⟨ob,h1,h2.2.1⟩
section
variable {X:Cx}{π:PL}{σ:St}{H:Hp}{s:χ}{a:δ}{y d:V}{u r:ε}{o:OV}{A:Around}{E:EV}
end
section
variable {X:Cx}{o e f:Expr}{apos Ac:Pos}{td ty tx:TE}
end
section
variable {X:Cx}{π:PL}{σ:St}{H:Hp}{s:χ}{a:δ}{ν:KL}{A:Around}{E:EV}
end
section
variable {X:Cx}{π:PL}{σ:St}{H:Hp}{s:χ}{a:δ}{y:V}{u:ε}{A:Around}{E:EV}
end
end L2
namespace Att
open PySem PySem.W PySem.Calls PyProof.Rows
def uZ{P:Params}{h:Heap}:∀(ns:List Int) (vs:LU),WellAll P h vs (ns.map WData.int)->IntsAre vs ns:=by
 intro ns
 induction ns with
 | nil =>
  intro vs w;rw[List.map_nil]at w;cases w;exact .nil
 | cons n ns ih =>
  intro vs w;rw[Yy]at w;cases w with
  | cons a b =>
   cases a;exact .cons _ _ (ih _ b)
def qw{l:OpenLaw}{n:Nat}(hn:l.most≈n){P:Params}{h:Heap}{args:List WData}{vals:LU}
  (hpre:l.row.toRowW.claim.pre args=true) (hwl:WellAll P h vals args):
  ∃ a vs ns,vals=[Value.ref a]/\args=[WData.list (ns.map WData.int)]/\h.get? a=some {cls:=.type "list",data:=.seq vs.toArray}/\IntsAre vs ns/\↑ns<=n:=by
 have hsh:WShape.hasAll [] args [.list .int]=true:=(pre_splitW hpre).1;have hc:l.pre.holds [] {args:=args}=true:=(pre_splitW hpre).2;obtain⟨d,r,rfl,h1,h2⟩:=hasAllW_cons hsh;obtain rfl:=hasAllW_nil h2;obtain⟨xs,rfl,h3⟩:=hasW_list h1;obtain⟨ns,rfl⟩:=items_int h3;have hlen:↑ns<=n:=by
  unfold OpenLaw.pre at hc;have h4:(WTm.not (.lt (.lit (.int (n:Int))) (.len (.arg 0)))).holds [] {args:=[.list (ns.map .int)] }=true:=by
   have h4:=(holds_andW hc).1;rw[hn]at h4;exact h4
  have h5:=condW_of h4 (w_not (w_lt w_lit (w_len_list (w_arg rfl))));rw[Ya]at h5;refine Nat.le_of_not_lt λq=>?_;have q':(n:Int)<((↑ns:Nat):Int):=by omega
  first
   | (rw[Jb q']at h5;exact absurd h5 0.1)
   | (simp at h5;omega)
 cases hwl with
 | cons w1 w2 =>
  cases w2;cases w1 with
  | list ho hall=>exact⟨G,ns,Y,Y,ho,uZ ns _ hall,hlen⟩
def qk(l:OpenLaw)(args:List WData):l.row.toRowW.claim.post args (.bool true) args=true :=
 postW_of (r:=l.row.toRowW) (X:=(true == true))
  (show WShape.has [] (.bool true) .bool=true by first | rfl | decide | simp[WShape.has,WShape.arms,WShape.armsAll])
  (show(WTm.eq .res (.lit (.bool true))).value [] {args:=args,res:=↥(.bool true),after:=args}≈(.bool (true == true))from w_eq_bool (w_res rfl) w_lit) rfl
def attach_call{l:OpenLaw}{n:Nat}{q:ω}{loose:LS}{XP:(Str->OU)->Heap->Prop}{YP:World->Heap->Prop}{d:DefRec}
  (hn:l.most≈n) (hdf:d.params.defaults=[])
  (call:∀(w:World) (s₀ s₁:χ) (mg mb:Str->OU) (fa:δ) (o:Obj) (pm cd doc:ε) (a:δ) (vs:LU) (ns:List Int),
   Ground q loose [] XP w s₀ mg mb s₁.heap->YP w s₁.heap ->
   s₁.heap.get? fa≈o->o.data=.func (docDef d.name d.params d.body d.scope pm cd doc)->s₁.heap.CodeRec cd d.name->mg d.name≈(.ref fa) ->
   s₁.heap.get? a=some {cls:=.type "list",data:=.seq vs.toArray}->IntsAre vs ns->↑ns<=n->s₁.gens=#[] ->
   codeAny (model l.prog w) callerA (.call (.ref fa) ⟨[.ref a],[]⟩) (λr s'=>r=.ok (.ret (.bool true))/\OldK s₁.heap s'.heap/\s'.os=s₁.os/\AllBare s'.gens) s₁):
  WalkO q loose XP YP l.row.toRowW d [] (λf vs=>PySem.call f vs):=by
 intro w s₀ s₁ mg mb G Y fa o pm cd doc dV kV ho hd hcd hD hmg hg args vals as hpre hlay hrd hwl hlo;obtain rfl:dV=.none:=Dflts.none hD hdf;obtain rfl:kV=.none:=Dflts.noKw hD;obtain⟨a,vs,ns,rfl,rfl,hobj,hints,hlen⟩:=qw hn hpre hwl;refine enter_call (codeAny_mono (call w s₀ s₁ mg mb fa o pm cd doc a vs ns G Y ho (fd_plain hd) hcd hmg hobj hints hlen hg) λr s' hq=>?_);obtain⟨rfl,h2,h3,h4⟩:=hq;exact⟨.inl ⟨.bool true,.bool true,[],Y,λ_=>rfl,.bool true,qk l _,λ_=>⟨List.Pairwise.nil,λ_ hm=>(nomatch hm)⟩⟩,h2,h3,h4⟩
section
variable {prog:ω}{w:World}{A:Around}{E:EV}{s:χ}{K:Frag}
end
end Att
namespace L2
open PySem PySem.Spec PyProof.Rows
theorem gI:∀ {vs:LU}{ns:List Int},IntsAre vs ns->AX (ns.map V.int) vs
 | _,_,.nil=>.nil
 | _,_,.cons n t h=>.cons ⟨t,Y⟩ (gI h)
def YL(H:Hp):Prop:=∀ b,H b=none\/∃ o xs,H b≈(.frz o (.lst xs))
def yB{P:ω}{w:World}{K:Fg}{mg mb:Str->OU}{CX:FW}{k:Nat}{x:Str}{sp:Sp}{s₁:χ}{vs:LU}{ns:List Int}
  (KX:K.In s₁.heap) (hns:s₁.heap.Ns mainGlobals mg) (hb:s₁.heap.Ns builtinsNs mb) (hbb:∀ x:Str,x≠"__name__"->mb x=bootBuiltins x) (hlim:s₁.heap.NoLimit) (hg:s₁.gens=#[])
  (ha:s₁.heap.get? a=some {cls:=.type "list",data:=.seq vs.toArray}) (hi:IntsAre vs ns) (hl:↑ns<=sizeLine) (hr:Ab k callerA)
  (F:∀ base:Heap,K.In base->base.Ns mainGlobals mg->BQ P w K mg base CX k fa fd [x] sp) (hbind:∀(s:χ) (u:ε),BindsTo s fd ⟨[u],[]⟩ [(x,u)])
  (hsp:∀ H:Hp,YL H->SqL K H a (ns.map V.int)->sp [.ref a] H (λv _=>v=.bl true) λ_ _ _=>False)
  (hCX:∀ H e s',CX [] H s₁ (λ_ _ _=>False) e s'->False):
  codeAny (model P w) callerA (.call (.ref fa) ⟨[.ref a],[]⟩) (λr s'=>r=.ok (.ret (.bool true))/\OldK s₁.heap s'.heap/\s'.os=s₁.os/\AllBare s'.gens) s₁:=by
 have rv:=gI hi;have lenV:=↑hi;have core:∀ H:Hp,YL H->SqL K H a (ns.map V.int)->BU P w H s₁.heap->(∀ b,H b≠none->b=a)->(H a≠none->K.lookup a=none) ->
   codeAny (model P w) callerA (.call (.ref fa) ⟨[.ref a],[]⟩) (λr s'=>r=.ok (.ret (.bool true))/\OldK s₁.heap s'.heap/\s'.os=s₁.os/\AllBare s'.gens) s₁:=by
  intro H hO hS hok hA hK;have base_of:∀ {b:δ} {o:Obj},s₁.heap.get? b≈o->H b=none->(JE s₁.heap H).get? b≈o:=λe n=>ye e n;have noA:∀ {b:δ} {o:Obj} {es:Array DictEntry} {ep:Nat},s₁.heap.get? b≈o->o.data=.dict es ep->H b=none:=λ{b o es ep} e d=>by
   cases q:H b with
   | none=>rfl
   | some u =>
    have e':b=a:=hA b (by rw[q];simp);subst e';rw[ha]at e;cases e;have d':Data.seq vs.toArray _=Data.dict es ep:=d;cases d'
  have nsK:∀ {b:δ} {m:Str->OU},s₁.heap.Ns b m->(JE s₁.heap H).Ns b m:=λ{b m} ⟨o,es,ep,e,d,r⟩=>⟨o,es,ep,base_of e (noA e d),d,r⟩;have hKb:K.In (JE s₁.heap H):=λb o e=>base_of (KX b o e) (by
   cases q:H b with
   | none=>rfl
   | some u =>
    have e':b=a:=hA b (by rw[q];simp);subst e';rw[hK (by rw[q];simp)]at e;cases e)
  have hM:Mod K mg (JE s₁.heap H):=⟨hKb,nsK hns,⟨mb,nsK hb,hbb⟩,let⟨mc,h1,h2⟩:=hlim;⟨mc,nsK h1,h2⟩⟩;have e0:E5 P w K mg (JE s₁.heap H) callerA [] s₁ H:=⟨Y,hM,λb o e=>wK e,Nat.le_of_eq (qW _ _),trivial,λb hb=>absurd (show b∈([]:ζ)from hb) 0.6,hok,.of_eq hg⟩;refine codeAny_mono ((F _ hKb (nsK hns)).run callerA [] s₁ H ⟨[.ref a],[]⟩ [.ref a] [.ref a] _ _ hr e0 (hbind s₁ (.ref a)) (.cons rfl .nil) (hsp H hO hS)) λr s' h=>?_;cases r with
  | error e=>exact(hCX H e s' h).elim
  | ok fl =>
   cases fl with
   | next=>exact False.elim h
   | brk=>exact False.elim h
   | cont=>exact False.elim h
   | ret u =>
    obtain⟨v,H',os,bare,un,ZV,r',q⟩:=h;have q':v=.bl true:=q;subst q';obtain rfl:u=Value.bool true:=r';refine⟨Y,OldK.of_keep λb o e=>?_,os,bare⟩;cases q:H b with
    | none=>exact un.keep b o e q (by intro z;exact absurd (show b∈([]:ζ)from z) 0.6) 0.6
    | some u =>
     rcases hO b with z | ⟨ob,xs,z⟩
     ·rw[q]at z;cases z
     ·have z2:=un.frzs b ob _ z;obtain⟨e1,_⟩:=hok b _ z;obtain⟨e2,_⟩:=ZV b _ z2;rw[e]at e1;cases e1;exact e2
 cases hk:K.lookup a with
 | some o =>
  have e:=KX a o hk;rw[ha]at e;cases e;refine core (λ_=>none) (λ_=>.inl rfl) (.inr ⟨_,vs.toArray,_,hk,Y,Y,Y,by rw[Yn,lenV];exact hl,by simpa using rv⟩) (λb u z=>by have z':(none:Option HO)≈u:=z;cases z') (λb z=>absurd rfl z) λz=>absurd rfl z
 | none =>
  refine core (λb=>if b=a then ↥(.frz {cls:=.type "list",data:=.seq vs.toArray} (.lst (ns.map V.int)))else none) (λb=>?_) (.inl (.inr ⟨{cls:=.type "list",data:=.seq vs.toArray},if_pos rfl⟩)) (λb u z=>?_) (λb z=>?_) λ_=>hk
  ·by_cases hb:b=a
   ·exact .inr ⟨G,if_pos hb⟩
   ·exact .inl (if_neg hb)
  ·by_cases hb:b=a
   ·have z':=(if_pos hb).symm.trans z;cases z';subst hb;exact⟨ha,by rw[Ya];exact hl,vs,_,rv,ha⟩
   ·have z':=(if_neg hb).symm.trans z;cases z'
  ·by_cases hb:b=a
   ·exact hb
   ·exact absurd (if_neg hb) z
def walk_of{l:W.OpenLaw}{n k:Nat}{q:ω}{loose:LS}{XP:(Str->OU)->Heap->Prop}{YP:World->Heap->Prop}{d:DefRec}{K:Params->Fg}{CX:World->FW}{sp:World->Sp}{x:Str}
  (hn:l.most≈n) (Jm:n<=sizeLine) (hdf:d.params.defaults=[]) (hr:Ab k callerA)
  (hY:∀(w:World) (h:Heap),YP w h->(K w.params).In h)
  (F:∀(w:World) (mg:Str->OU) (fa:δ) (h:Heap),(K w.params).In h->h.Ns mainGlobals mg->mg d.name≈(.ref fa) ->
   ∃ fd:FuncData,(∀(s:χ) (u:ε),BindsTo s fd ⟨[u],[]⟩ [(x,u)]) /\
    ∀ base:Heap,(K w.params).In base->base.Ns mainGlobals mg->BQ l.prog w (K w.params) mg base (CX w) k fa fd [x] (sp w))
  (hsp:∀(w:World) (H:Hp) (a:δ) (ns:List Int),↑ns<=n->YL H->SqL (K w.params) H a (ns.map V.int)->sp w [.ref a] H (λv _=>v=.bl true) λ_ _ _=>False)
  (hCX:∀(w:World) (H:Hp) (s:χ) (e:ε) (s':χ),CX w [] H s (λ_ _ _=>False) e s'->False):
  W.WalkO q loose XP YP l.row.toRowW d [] (λf vs=>PySem.call f vs):=by
 refine Att.attach_call hn hdf λw s₀ s₁ mg mb fa o pm cd doc a vs ns G Y ho hd hcd hmg hobj hints hlen hg=>?_;have KX:=hY w _ Y;obtain⟨fd,hb,hF⟩:=F w mg fa _ KX G.T.g hmg;exact yB KX G.T.g G.T.b G.T.builtins G.T.nolimit hg hobj hints (BL hlen Jm) hr hF hb (λH hO hS=>hsp w H a ns hlen hO hS) λH e s'=>hCX w H s₁ e s'
def C2(s:Stmt)(j:Nat):Stmt:=match s with
 | .ClassDef _ _ _ body _ _ _ _ _ _ _=>body.getD j (.Pass ⟨0,0,0,0⟩)
 | _=>.Pass ⟨0,0,0,0⟩
def Fn(s:Stmt):Arguments:=match s with
 | .FunctionDef _ a _ _ _ _ _ _ _ _=>a
 | _=>{posonlyargs:=[],args:=[],vararg:=none,kwonlyargs:=[],kw_defaults:=[],kwarg:=none,defaults:=[] }
def Cn(s:Stmt):List Stmt:=match s with
 | .FunctionDef _ _ b _ _ _ _ _ _ _=>b
 | _=>[]
def AL(s:Stmt):Scope:=match s with
 | .FunctionDef _ _ _ _ _ _ sc _ _ _=>sc
 | _=>{kind:=.function,names:=[],isGenerator:=false,isCoroutine:=false}
abbrev JS:FW:=λ_ _ _ _ _ _=>False
abbrev E0:XK:=λ_ _ _=>False
def BF{X:Cx}:IB JS X E0:=λ_ _ _ _ _ _ _ h=>h.elim
structure BR(K:Fg)(x qual:Str)(st:Stmt)(f:δ)(fd:FuncData):Prop where
 ex:∃(oc:ε) (od:Option δ) (kV doc pm:ε) (an:Option δ) (Az ct:ε) (osl:Array (OU)),
  fd=W.fnOf x qual (Fn st) (Cn st) (AL st) .none kV doc pm an Az ct/\K.lookup f≈⟨oc,od,.func fd,osl⟩/\W.codeIn K Az qual=true
 kp:W.keepIn K (.ref f)=true
section
variable {P:ω}{w:World}{K:Fg}{mg:Str->OU}{base:Heap}
def BR.ok{x qual:Str}{st:Stmt}{N ps:LS}{k:Nat}{sp:Sp}(F:BR K x qual st f fd)(S:Aa N ps (AL st))(len:∀ vs H Q E,sp vs H Q E->↑vs=↑ps)
  (hbody:∀(Az:ε) (A:Around) (outer:List Env) (s:χ) (H:Hp) (vs:LV) (Q:VK) (E:XK),Ab k (A.deeper (envOfC qual (AL st) ⇑s f Az))->sp vs H Q E ->
   ∃ t,Bc (J_ JS P w K mg base N qual (AL st) f Az A outer s H E).nox (Cn st) t/\t {nx:=λ_ H'=>Q .non H',rt:=Q} (start N vs) H):BQ P w K mg base JS (k + 1) f fd ps sp:=by
 obtain⟨oc,od,kV,doc,pm,an,Az,ct,osl,rfl,lk,hcd⟩:=F.ex;refine iD lk hcd S len λA outer s H vs Q E hr hsp=>?_;obtain⟨t,h,q⟩:=hbody Az A outer s H vs Q E hr hsp;exact⟨t,h.nox,q⟩
def BR.binds{x qual:Str}{st:Stmt}{ps:LS}(F:BR K x qual st f fd)
  (h:∀(kV doc pm:ε) (an:Option δ) (Az ct:ε) (us:LU),↑us=↑ps->bindArgs (W.fnOf x qual (Fn st) (Cn st) (AL st) .none kV doc pm an Az ct) ⟨us,[]⟩=pure (ps.zip us)):Bz K fd ps []:=by
 obtain⟨oc,od,kV,doc,pm,an,Az,ct,osl,rfl,lk,hcd⟩:=F.ex;exact .all (h kV doc pm an Az ct)
def i8{x qual:Str}{st:Stmt}{f:δ}{oc:ε}{od an:Option δ}{osl:Array (OU)}{kV doc pm Az ct:ε}(l:K.lookup f≈⟨oc,od,.func (W.fnOf x qual (Fn st) (Cn st) (AL st) .none kV doc pm an Az ct),osl⟩)
  (c:W.codeIn K Az qual=true) (k:W.keepIn K (.ref f)=true):BR K x qual st f (W.fnOf x qual (Fn st) (Cn st) (AL st) .none kV doc pm an Az ct):=⟨⟨oc,od,kV,doc,pm,an,Az,ct,osl,Y,l,c⟩,k⟩
end
def Es{A:Around}{k:Nat}(hr:Ab k A):A.units + 1<cLine:=QA (Nat.add_le_add_left (by decide:1<=64) _) hr.units
section
variable {X:Cx}
def pv(i:Nat){x:Str}{pos:Pos}(hN:X.N[i]?≈x:=by rfl)(hv:UH X.env.scope x:=by first | exact Or.inl rfl | exact Or.inr 1.2 | exact Or.inr 1.3)(hd:(x == ("__debug__":Str))=false:=by decide)
  (hcd:(x == ("__classdict__":Str))=false:=by decide):PE X (.Name x pos) (NO i):=jR hN hv hd hcd
end
def AU{A B:Prop}(h:B):if false=true then A else B:=by
 rw[if_neg Yl];exact h
def A4{A B:Prop}(h:A):if true=true then A else B:=by
 rw[if_pos rfl];exact h
def BG{c A B:Prop}[Decidable c](h1:c->A)(h2:¬ c->B):if c then A else B:=by
 by_cases h:c
 ·rw[if_pos h];exact h1 h
 ·rw[if_neg h];exact h2 h
def AA(H H':Hp):Prop:=∀ b o,H b≈o->H' b≈o
def AA.refl(H:Hp):AA H H:=λ_ _ h=>h
def AA.trans{H H1 H2:Hp}(a:AA H H1)(b:AA H1 H2):AA H H2:=λc o h=>b c o (a c o h)
def AA.free{H H':Hp}(e:AA H H'){l:δ}(h:H' l=Option.none):H l=Option.none:=by
 cases q:H l with
 | none=>rfl
 | some o =>
  rw[e l o q]at h;cases h
def AA.seq{K:Fg}{H H':Hp}{a:δ}{xs:LV}(e:AA H H')(h:SqL K H a xs):SqL K H' a xs:=by
 rcases h with(h | ⟨o,h⟩) | h
 ·exact .inl (.inl (e _ _ h))
 ·exact .inl (.inr ⟨o,e _ _ h⟩)
 ·exact .inr h
section
variable {X:Cx}
end
section
variable {κ:Type}[DecidableEq κ]
def pV{ν:List (κ×V)}{k:κ}(h:BE ν k=none):¬ k∈ν.map 0.8:=by
 intro m;obtain⟨p,hp,e⟩:=Yg.mp m;have q:(ν.any λkv=>decide (kv.1=k))=true:=JL.mpr ⟨p,hp,Jb e⟩;rw[LF,h]at q;exact absurd q 0.6
def cu{ν:List (κ×V)}{k:κ}{v:V}(h:BE ν k≈v):k∈ν.map 0.8:=by
 have q:(ν.any λkv=>decide (kv.1=k))=true:=by
  rw[LF,h]
  all_goals rfl
 obtain⟨p,hp,e⟩:=JL.mp q;exact Yg.mpr ⟨p,hp,Je e⟩
end
end L2
set_option maxHeartbeats 4000000
namespace HT
open PySem PyProof.Rows
open PySem.SeqAt
open PySem.AutoSeq1 (wpAny_loadPart')
open PySem.MeetsSeq PySem.MeetsSeq2 PySem.MeetsSeq3
section
variable {prog:ω}{w:World}{A:Around}{E:EV}{s:χ}
end
end HT
namespace L2
open PySem PySem.Spec PyProof.Rows
structure EW(J:It)(xs:LV)(Ok:Hp->Prop):Prop where
 go:∀(i:Nat) (x:V) (H:Hp),Ok H->xs[i]?≈x->J.go i H
 yld:∀(i:Nat) (x:V) (H:Hp) (y:V) (H':Hp),Ok H->xs[i]?≈x->J.yld i H y H'->y=x/\H'=H
 stop:∀(H:Hp),Ok H->J.stop ↑xs H
def Cq{K:Fg}{a:δ}{xs:LV}:EW (ZC K a) xs (λH=>SqL K H a xs) where
 go:=λi x H ok hx=>⟨xs,x,ok,hx⟩
 yld:=λi x H y H' ok hx h=>by
  obtain⟨e,h⟩:=h;have q:=h xs ok;rw[hx]at q;exact⟨(Bk q).symm,e⟩
 stop:=λH ok=>⟨xs,ok,Ye _⟩
def Gr{K:Fg}{a:δ}{xs:LV}:EW (ZA K a) xs (λH=>AG K H a xs) where
 go:=λi x H ok hx=>⟨xs,x,ok,hx⟩
 yld:=λi x H y H' ok hx h=>by
  obtain⟨e,h⟩:=h;have q:=h xs ok;rw[hx]at q;exact⟨(Bk q).symm,e⟩
 stop:=λH ok=>⟨xs,ok,Ye _⟩
def F9(lo:Int)(n:Nat):LV:=(List.range n).map λ(k:Nat)=>V.int (lo + (k:Int))
def JC(lo:Int)(n:Nat):↑(F9 lo n)=n:=by unfold F9;rw[Ya,List.length_range]
def JB{lo:Int}{n i:Nat}{x:V}(h:(F9 lo n)[i]?≈x):i<n/\x=V.int (lo + (i:Int)):=by
 have hi:i<n:=by
  have:=(Yu.mp h).1
  rwa [JC]at this
 refine⟨hi,?_⟩;unfold F9 at h;rw[Ys,List.getElem?_range hi]at h;exact(Bk h).symm
def PY{lo:Int}{n:Nat}:EW (UP lo n) (F9 lo n) (λ_=>True) where
 go:=λi x H _ hx=>(JB hx).1
 yld:=λi x H y H' _ hx h=>by
  obtain⟨e,h⟩:=h;exact⟨h.trans (JB hx).2.symm,e⟩
 stop:=λH _=>by
  show n<=↑(F9 lo n);rw[JC];exact Ye _
def CG{J:It}{xs:LV}{Ok:Hp->Prop}(R:EW J xs Ok){g:TG}{tb:TS}{D:Cy}{σ:St}{H:Hp}(Pv:NW)(h0:Pv 0 σ H)(hl:∀ i σ H,i<=↑xs->Pv i σ H->Ok H)
  (hs:∀ i x σ H,xs[i]?≈x->Pv i σ H->g x σ H λσ2 H2=>tb {D with nx:=Pv (i + 1),ct:=Pv (i + 1),bk:=D.nx} σ2 H2) (hd:∀ σ H,Pv ↑xs σ H->D.nx σ H):
  ∃ W:Nat->Nat->St->Hp->Prop,(∃ m,W 0 m σ H)/\∀ i m σ H,W i m σ H ->
   (J.stop i H/\D.nx σ H)\/(J.go i H/\∃ N:SW,(∀ σ' H',N σ' H'->∃ m',m'<m/\W (i + 1) m' σ' H')/\∀ x H',J.yld i H x H'->g x σ H' λσ2 H2=>tb {D with nx:=N,ct:=N,bk:=D.nx} σ2 H2):=by
 refine⟨λi m σ H=>m=↑xs - i/\i<=↑xs/\Pv i σ H,⟨↑xs,by simp,BC _,h0⟩,?_⟩;rintro i m σ H ⟨rfl,hi,p⟩;have q:=hl i σ H hi p;by_cases A2:i<↑xs
 ·have hx:xs[i]?≈xs[i]:=by simp[A2]
  refine .inr ⟨R.go i _ H q hx,Pv (i + 1),λσ' H' p'=>⟨↑xs - (i + 1),O,Y,A2,p'⟩,λx H' y=>?_⟩;obtain⟨e1,e2⟩:=R.yld i _ H x H' q hx y;rw[e2];exact hs i x σ H (by rw[e1];exact hx) p
 ·have e:i=↑xs:=by omega
  subst e;exact .inl ⟨R.stop H q,hd σ H p⟩
def UO(x:Str):It:=⟨λi _=>i<x.cps.size,λi H v H'=>H'=H/\∃ c,x.cps[i]?≈c/\v=.str ⟨#[c]⟩,λi _=>x.cps.size<=i⟩
def Im(x:Str):LV:=x.cps.toList.map λc=>V.str ⟨#[c]⟩
def yx{x:Str}:EW (UO x) (Im x) (λ_=>True) where
 go:=λi y H _ hx=>by
  have:=(Yu.mp hx).1;unfold Im at this;rw[Ya]at this;show i<x.cps.size;simpa using this
 yld:=λi y H z H' _ hx h=>by
  obtain⟨e,c,hc,hz⟩:=h;refine⟨?_,e⟩;unfold Im at hx;rw[Ys,Array.getElem?_toList,hc]at hx;rw[hz];exact Bk hx
 stop:=λH _=>by
  show x.cps.size<=↑(Im x);unfold Im;simp
def eG{P:ω}{w:World}{K:Fg}{tg:Expr}(x:Str)(t:Tok)(it:δ)(ty:String)(hty:ty="str_ascii_iterator"\/ty="str_iterator"):
  FD P w K tg (UO x) [it] it (λi h=>h.IsStrIter it ty x t i) where
 mem:=by simp
 obj:=λi h st b hb=>by
  have e:b=it:=by simpa using hb
  subst e;obtain⟨o,e,c,d⟩:=st;exact⟨o,e,λv z=>by rw[d]at z;cases z⟩
 keep:=λi h h' st k=>by
  obtain⟨o,ho,r⟩:=st;exact⟨o,k it 0.6 o ho,r⟩
 item:=by
  intro X hP hw hK hc i π s σ H E I hf st hg;subst hP hw hK;obtain⟨f0,f1,f2,f3,f4,f5⟩:=hf it 0.6;have hi:i<x.cps.size:=hg;have hx:x.cps[i]?≈x.cps[i]:=by simp[hi]
  have fin:∀ h':Heap,h'.IsStrIter it ty x t (i + 1)->Heap.SameBut it s.heap h'->∃ u,↥(Value.str ⟨#[x.cps[i]]⟩ s.toks)≈u /\
    wpAny 0.3 X.A (letOwnedTupleGo tg (.ref it) u) (λ_ s2=>∃ y H',Inv X π σ H' s2/\Ae y u/\(UO x).yld i H y H'/\s2.heap.IsStrIter it ty x t (i + 1)/\∀ b∈[it],H' b=none) E {s with heap:=h',toks:=s.toks + 1}:=λh' BW sb=>by
   have I1:Inv X π σ H {s with heap:=h',toks:=s.toks + 1}:=I.turned (λb o hb e=>(sb.2 b hb).trans e) f0 f1 f3 f4 f5;obtain⟨o,e,c,d⟩:=id BW;refine⟨Z,Mg (s:={s with heap:=h',toks:=s.toks + 1}) e c d ?_ ⟨.str ⟨#[x.cps[i]]⟩,H,I1,⟨Z⟩,⟨Y,_,hx,Y⟩,BW,λb hb=>(hf b hb).1⟩⟩
   rcases hty with rfl | rfl <;> decide
  rcases hty with rfl | rfl
  ·exact wpAny_pyNext_ascii_item st hx λh' BW sb=>fin h' BW sb
  ·exact wpAny_pyNext_wide_item st hx λh' BW sb=>fin h' BW sb
 done:=by
  intro X hP hw hK hc i π s σ H E I hf st hg;subst hP hw hK;obtain⟨f0,f1,f2,f3,f4,f5⟩:=hf it 0.6;have hi:x.cps.size<=i:=hg;have hx:x.cps[i]?=none:=by simp[hi]
  rcases hty with rfl | rfl
  ·exact wpAny_pyNext_ascii_end (I.ok.hd hc) st hx λh' eb=>⟨Y,I.turned (t':=s.toks) (λb o hb e=>eb b o hb e) f0 f1 f3 f4 f5⟩
  ·exact wpAny_pyNext_wide_end (I.ok.hd hc) st hx λh' eb=>⟨Y,I.turned (t':=s.toks) (λb o hb e=>eb b o hb e) f0 f1 f3 f4 f5⟩
 self:=λ_ _ _ _ _ st h=>by
  rcases hty with rfl | rfl
  ·exact wpAny_pyIter_striter_ascii st h
  ·exact wpAny_pyIter_striter_wide st h
section
variable {X:Cx}{tg:Expr}
inductive iF(R:It->Hp->Prop)(x:V)(H1:Hp):Prop
 | mk:∀ z,x=.str z->R (UO z) H1->iF R x H1
def zS(tl:TE):TI:=λσ H R=>tl σ H λx H1=>iF R x H1
def vB{l:Expr}{tl:TE}(hl:PE X l tl):PI X tg l (zS tl):=by
 intro π s σ H R I h;refine AM (hl π s σ H _ I h) λv s1 ⟨x,H1,I1,r1,q1⟩=>?_;obtain⟨z,e,q⟩:=q1;subst e;obtain⟨t,rfl⟩:=r1;have fp:∀ b∈[⇑s1],Cv X π H1 b:=λb hb=>by
  have e:b=⇑s1:=by simpa using hb
  subst e;exact I1.fpOk (Ye _) (I1.hok.fresh (Ye _))
 cases ha:z.cps.all (·<128)with
 | false =>
  refine wpAny_pyIter_wide ha ?_;exact⟨⇑s1,[⇑s1],G,H1,Y,I1.kept (t':=s1.toks) λb o e=>Yb _ e,eG z t _ "str_iterator" (.inr rfl),⟨_,Yh _ rfl,Y,Y⟩,fp,q⟩
 | true =>
  refine wpAny_pyIter_ascii ha ?_;exact⟨⇑s1,[⇑s1],G,H1,Y,I1.kept (t':=s1.toks) λb o e=>Yb _ e,eG z t _ "str_ascii_iterator" (.inl rfl),⟨_,Yh _ rfl,Y,Y⟩,fp,q⟩
end
def EA(env:Env):List (Str×NameKind)->List (Str×δ)->List (Str×δ)
 | [],acc=>acc
 | (n,k):: r,acc=>if(k == NameKind.free)=true then EA env r ((n,(env.cells.lookup n).getD 0):: acc)else EA env r acc
def sy{env:Env}{n:Str}{c:δ}(h:env.cells.lookup n≈c):cellOf env n=pure c:=by
 unfold cellOf;rw[h]
def hW{scope:Scope}{env:Env}(h:∀ y∈scope.names,y.2=.free->∃ c,env.cells.lookup y.1≈c):closureFor scope env=pure (EA env scope.names []):=by
 have key:∀(l:List (Str×NameKind)) (acc:List (Str×δ)),(∀ y∈l,y.2=.free->∃ c,env.cells.lookup y.1≈c) ->
   (forIn l acc λ(x:Str×NameKind) (r:List (Str×δ))=>(match x with
    | (name,kind)=>if(kind == NameKind.free)=true then(do let a <- cellOf env name;pure (ForInStep.yield ((name,a):: r)))else pure (ForInStep.yield r):Sem (ForInStep (List (Str×δ)))))=pure (EA env l acc):=by
  intro l
  induction l with
  | nil=>intro acc _;rfl
  | cons y r ih =>
   intro acc hy;obtain⟨n,k⟩:=y;have aP:=λacc=>ih acc λz hz=>hy z (Yq _ hz);rw[QB];by_cases hk:(k == NameKind.free)=true
   ·obtain⟨c,hc⟩:=hy (n,k) Yj (by simpa using hk);have hc:env.cells.lookup n≈c:=hc;simp only[hk,if_true,sy hc];unfold EA;rw[if_pos hk,hc];exact aP _
   ·simp only[hk];unfold EA;rw[if_neg hk];exact aP _
 unfold closureFor;have q:=key scope.names [] h;show((forIn scope.names [] _:Sem (List (Str×δ)))>>=λr=>pure r)=_
 first
  | (rw[show(forIn scope.names [] _:Sem (List (Str×δ)))=_ from q];rfl)
  | (refine(congrArg (λm=>m>>=λr=>pure r) q).trans ?_;rfl)
theorem XX{env:Env}:∀(l:List (Str×NameKind)) (acc:List (Str×δ)) (x:Str) (c:δ),(∀ y∈l,y.2=.free->∃ c,env.cells.lookup y.1≈c) ->
  (∀ x c,acc.lookup x≈c->env.cells.lookup x≈c)->(EA env l acc).lookup x≈c->env.cells.lookup x≈c
 | [],acc,x,c,_,ha,h=>ha x c h
 | (n,k):: r,acc,x,c,hy,ha,h=>by
  have hr:∀ y∈r,y.2=.free->∃ c,env.cells.lookup y.1≈c:=λy Fc=>hy y (Yq _ Fc);unfold EA at h;by_cases hk:(k == NameKind.free)=true
  ·rw[if_pos hk]at h;refine XX r _ x c hr (λz d hz=>?_) h;obtain⟨c',De⟩:=hy (n,k) Yj (by simpa using hk);have De:env.cells.lookup n≈c':=De;rw[CQ]at hz;by_cases e:(z == n)=true
   ·simp only[e]at hz;have e':z=n:=by simpa using e
    rw[e',De];rw[De]at hz;exact hz
   ·have e':(z == n)=false:=by simpa using e
    simp only[e']at hz;exact ha z d hz
  ·rw[if_neg hk]at h;exact XX r acc x c hr ha h
theorem XM{env:Env}:∀(l:List (Str×NameKind)) (acc:List (Str×δ)) (x:Str),(acc.lookup x).isSome=true->((EA env l acc).lookup x).isSome=true
 | [],acc,x,h=>h
 | (n,k):: r,acc,x,h=>by
  unfold EA;by_cases hk:(k == NameKind.free)=true
  ·rw[if_pos hk];refine XM r _ x ?_;rw[CQ];cases e:(x == n)with
   | true=>rfl
   | false=>exact h
  ·rw[if_neg hk];exact XM r acc x h
theorem WV{env:Env}:∀(l:List (Str×NameKind)) (acc:List (Str×δ)) (x:Str),(x,NameKind.free)∈l->((EA env l acc).lookup x).isSome=true
 | [],acc,x,h=>nomatch h
 | (n,k):: r,acc,x,h=>by
  unfold EA
  rcases Yk.mp h with e | h
  ·injection e with e1 e2;subst e1;subst e2;rw[if_pos 0.1];refine XM r _ x ?_;rw[CQ];simp
  ·by_cases hk:(k == NameKind.free)=true
   ·rw[if_pos hk];exact WV r _ x h
   ·rw[if_neg hk];exact WV r _ x h
theorem iC{env:Env}:∀ {names:List (Str×NameKind)}{x:Str},names.lookup x≈.free ->
  (names.map λ(n,k)=>if 0.5 then(n,NameKind.cell)else(n,k)).lookup x≈.cell \/
  (names.map λ(n,k)=>if 0.5 then(n,NameKind.cell)else(n,k)).lookup x≈.free
 | [],_,h=>by simp at h
 | (n,k):: r,x,h=>by
  have ih:=@iC env r x;rw[Yy];show List.lookup x ((if 0.5=true then(n,NameKind.cell)else(n,k)):: _)=_\/List.lookup x ((if 0.5=true then(n,NameKind.cell)else(n,k)):: _)=_;cases hx:x == n with
  | true =>
   simp only[CQ,hx]at h;cases h;by_cases hc:(NameKind.free == NameKind.free&&env.scope.kind == .function&&env.kindOf n == ↥.cell)=true
   ·rw[if_pos hc];simp only[CQ,hx];exact .inl trivial
   ·rw[if_neg hc];simp only[CQ,hx];exact .inr trivial
  | false =>
   simp only[CQ,hx]at h;by_cases hc:0.5=true
   ·rw[if_pos hc];simp only[CQ,hx];exact ih h
   ·rw[if_neg hc];simp only[CQ,hx];exact ih h
theorem iB{env:Env}:∀ {names:List (Str×NameKind)}{x:Str},
  ((names.map λ(n,k)=>if 0.5 then(n,NameKind.cell)else(n,k)).lookup x≈.cell \/
  (names.map λ(n,k)=>if 0.5 then(n,NameKind.cell)else(n,k)).lookup x≈.free) ->
  names.lookup x≈.free\/names.lookup x≈.cell
 | [],_,h=>by simp at h
 | (n,k):: r,x,h=>by
  have ih:=@iB env r x;rw[Yy]at h
  change List.lookup x ((if 0.5=true then(n,NameKind.cell)else(n,k)):: _)=_\/List.lookup x ((if 0.5=true then(n,NameKind.cell)else(n,k)):: _)=_ at h
  cases hx:x == n with
  | true =>
   simp only[CQ,hx];by_cases hc:0.5=true
   ·left;have:(k == NameKind.free)=true:=by
     cases hk:(k == NameKind.free)with
     | true=>rfl
     | false=>rw[hk]at hc;simp at hc
    have:k=NameKind.free:=by simpa using this
    rw[this]
   ·rw[if_neg hc]at h;simp only[CQ,hx]at h
    rcases h with h | h
    ·exact .inr h
    ·exact .inl h
  | false =>
   simp only[CQ,hx];apply ih;by_cases hc:0.5=true
   ·rw[if_pos hc]at h;simp only[CQ,hx]at h;exact h
   ·rw[if_neg hc]at h;simp only[CQ,hx]at h;exact h
abbrev Dh(X:Cx)(scope:Scope)(N:LS)(C:δ)(s:χ)(H:Hp)(fp:ζ):Cx :=
 {X with N:=N,s₀:=s,H₀:=H,env:=compEnvC scope (EA X.env scope.names []) C X.env,outer:=X.stack,ex:=fp,fn:=λ_=>false,pn:=[],xe:=λ_ _=>False}
def KY(n:Nat)(js:LN)(σ:St):St:=List.replicate n none++js.map λj=>(σ[j]?).join
def w9(n:Nat)(js:LN)(σ:St):↑(KY n js σ)=n + ↑js:=by unfold KY;simp
structure F6(X:Cx)(scope:Scope)(own η:LS)(js:LN):Prop where
 calm:X.calm=true
 kind:scope.kind=.function
 nocell:∀ y∈scope.names,y.2≠.cell
 locals:∀ y∈scope.names,y.2=.local->scope.names.lookup y.1≈.local
 fr:∀ y∈scope.names,y.2=.free->X.env.scope.names.lookup y.1≈.cell\/X.env.scope.names.lookup y.1≈.free
 fre:∀ x∈η,scope.names.lookup x≈.free
 slots:js.map (λj=>X.N[j]?)=η.map some
def QM(X:Cx)(ifs:μ)(t:TT):Prop :=
 ∀(π:PL) (s:χ) (σ:St) (H:Hp) (Q:Bool->Hp->Prop),Inv X π σ H s->t σ H Q ->
  wpAny 0.3 X.A (forIn ifs true λc r=>if r=true then do let ok <- isTrue c X.env (eval c X.env);pure (ForInStep.yield ok)else pure (ForInStep.yield r)) (TP X π σ Q) X.xe s
def RY:TT:=λ_ H Q=>Q true H
def Dj{X:Cx}:QM X [] RY:=λ_ _ _ H _ I h=>wpAny_tests_nil ⟨H,I,h⟩
def My{X:Cx}{c:Expr}{t:TT}(h:PT X c t):QM X [c] t:=λπ s σ H Q I q=>wpAny_tests_one (h π s σ H Q I q)
def AZ(n:Nat)(js:LN)(g:TG)(tt:TT)(te:TE)(σ:St)(Q:VK)(J:It)(H1:Hp):Prop:=∀ D,H1 D=none ->
 ∃ W:Nat->Nat->LV->St->Hp->Prop,(∃ m,W 0 m [] (KY n js σ) (upd H1 D (.lst [])))/\∀ i m ys σ' H',W i m ys σ' H' ->
  (J.stop i H'/\Q (.ref D) H') \/
  (J.go i H'/\↑ys<sizeLine/\∃ N:LV->St->Hp->Prop,(∀ KR σ3 H3,N KR σ3 H3->∃ m',m'<m/\W (i + 1) m' KR σ3 H3)/\∀ x H2,J.yld i H' x H2->g x σ' H2 λσ3 H3=>tt σ3 H3 λb H4 =>
   if b=true then te σ3 H4 λv H5=>H5 D≈(.lst ys)/\N (ys++[v]) σ3 (upd H5 D (.lst (ys++[v])))
   else N ys σ3 H4)
section
variable {prog:ω}{w:World}{A:Around}{E:EV}{R:Result->χ->Prop}{s:χ}
def tX{elt target iter:Expr}{ifs:μ}{scope:Scope}{pos:Pos}{it acc:ε}{env:Env}(I:Nat->χ->Prop)
  (turn:∀ n s,I n s->∀ E:EV,wpAny 0.4 A (pyNext it) (λr s₁=>match r with
   | none=>R (.ok .next) s₁
   | some v=>wpAny 0.4 A (letOwnedTupleGo target it v) (λ_ Zz=>wpAny 0.4 A (assign target env v) (λ_ s₂ =>
     wpAny 0.4 A (forIn ifs true λc r=>if r=true then do let ok <- isTrue c env (eval c env);pure (ForInStep.yield ok)else pure (ForInStep.yield r)) (λok s₃ =>
      if ok=true then wpAny 0.4 A (eval elt env) (λx s₄ =>
       wpAny 0.4 A (call (.builtin "list.append") [acc,x]) (λ_ s₅=>∃ m,m<n/\I m s₅) E s₄) E s₃
      else ∃ m,m<n/\I m s₃) E s₂) E Zz) E s₁) E s)
  (n:Nat) (h:I n s):
  codeAny 0.4 A (.compLoop (.ListComp elt [⟨target,iter,ifs,0⟩] scope pos) 0 it acc env) R s:=by
 refine codeAny_loop rfl I (λn s hI=>?_) n h;show wpAny _ A ((compTurn (.ListComp elt [⟨target,iter,ifs,0⟩] scope pos) 0 it acc env).onRaise (λx=>do noteFrame x env;theTreesLotGoes x)) _ _ s;refine wpAny_noted ?_;rw[compTurn_list];refine Ja (wpAny_standAt (Ja (Jf (turn n s hI _) (λr s₁ h₁=>?_) λ_ _ h'=>h')));cases r with
 | none=>exact Jd h₁
 | some v =>
  refine Ja (Jf h₁ (λ_ Zz mm=>?_) λ_ _ h'=>h');refine Ja (Jf mm (λ_ s₂ h₂=>Ja (Jf h₂ (λok s₃ h₃=>?_) λ_ _ h'=>h')) λ_ _ h'=>h');cases ok with
  | false=>exact Jd ⟨Y,h₃⟩
  | true =>
   exact Ja (Ja (Jf h₃ (λx s₄ h₄=>Ja (Jf h₄ (λ_ s₅ h₅=>Jd (Jd ⟨Y,h₅⟩)) λ_ _ h'=>h')) λ_ _ h'=>h'))
end
section
variable {X:Cx}{π:PL}{σ:St}{scope:Scope}{own η:LS}{js:LN}
theorem F6.cells(c:F6 X scope own η js)(ok:X.Ok):∀ y∈scope.names,y.2=.free->∃ a,X.env.cells.lookup y.1≈a:=λy hy e=>by
 rcases c.fr y hy e with h | h
 ·exact ok.has y.1 (.inl h)
 ·exact ok.has y.1 (.inr h)
def F6.cl(c:F6 X scope own η js)(ok:X.Ok){x:Str}{a:δ}(h:(EA X.env scope.names []).lookup x≈a):X.env.cells.lookup x≈a :=
 XX scope.names [] x a (c.cells ok) (λ_ _ z=>by simp at z) h
def F6.has(c:F6 X scope own η js){x:Str}(h:scope.names.lookup x≈.free):∃ a,(EA X.env scope.names []).lookup x≈a :=
 YH.mp (WV scope.names [] x (JI h))
theorem F6.ok{s2:χ}{H2:Hp}{fp:ζ}{C:δ}(c:F6 X scope own η js)(I:Inv X π σ H2 s2)(f2:∀ b∈fp,Cv X π H2 b)(A2:∀ b∈fp,b<⇑s2)(hC:⇑s2<=C)(N:LS):
  (Dh X scope N C s2 H2 fp).Ok where
 mod:=I.ok.mod
 kind:=c.kind
 glob:=I.ok.glob
 blt:=I.ok.blt
 above:=hC
 inj:=λx y a h1 h2=>I.ok.inj x y a (c.cl I.ok h1) (c.cl I.ok h2)
 has:=λx h=>by
  have h':scope.names.lookup x≈.free\/scope.names.lookup x≈.cell:=iB (env:=X.env) h
  rcases h' with h' | h'
  ·exact c.has h'
  ·exact absurd rfl (c.nocell _ (JI h'))
 cab:=λx a h=>absurd (show false=true from h) Yl
 hd:=λh=>I.ok.hd h
 frames:=I.ok.frames
 stk:=.inl rfl
 exf:=λb hb=>⟨Yt (Yr (A2 b hb) hC),λx a h=>(f2 b hb).2.2.2.2.1 x a (c.cl I.ok h)⟩
 bs:=I.bs
 bsz:=BL I.ok.bsz I.sz
 noex:=λb o e hb=>by
  rcases(f2 b hb).2.2.2.1 with z | z
  ·exact I.ok.noex b o e z
  ·exact absurd (Yr (Yf e) (BL I.ok.bsz z)) (Fu _)
 exfs:=λb hb z=>by
  rcases Yk.mp (I.stkSub b z)with e | e
  ·exact(f2 b hb).2.1 e
  ·exact(f2 b hb).2.2.1 e
 funs:=I.stack
 frf:=I.stkFree
def gT{s2:χ}{tg iter elt:Expr}{ifs:μ}{pos:Pos}{g:TG}{tt:TT}{te:TE}{Q:VK}{RR:ε->δ->Result->χ->Prop}{itv:ε}{E:EV}
  (c:F6 X scope own η js)
  (hg:∀ C s H fp,PG (Dh X scope (own++η) C s H fp) tg g) (ht:∀ C s H fp,QM (Dh X scope (own++η) C s H fp) ifs tt) (he:∀ C s H fp,PE (Dh X scope (own++η) C s H fp) elt te)
  (h:Y8 X π σ tg (AZ own.length js g tt te σ Q) itv s2)
  (hR:∀ D C H' s',Inv X π σ H' s'->Cv X π H' C->(∃ m,s'.heap.Ns C m)->Q (.ref D) H'->RR (.ref D) C (.ok .next) s'):
  wpAny 0.3 X.A (newList []) (λacc s₃=>wpAny 0.3 X.A (newFunctionEnv scope X.env.globals (EA X.env scope.names []) [] X.env.qual none .none (↥X.env)) (λcenv s₄ =>
   codeAny 0.3 X.A (.compStart (.ListComp elt [⟨tg,iter,ifs,0⟩] scope pos) 0 itv acc {cenv with scope:=relabel scope X.env}) (RR acc cenv.locals) s₄) E s₃) E s2:=by
 obtain⟨it,fp,tn,J,H2,e,I2,T,KW,f2,hq⟩:=h;subst e;refine wpAny_newObj_type (wpAny_newFunctionEnv c.nocell (by intro y hy;simp at hy) (λh₁ hns₁ hsb₁=>?_) c.kind);dsimp only at hns₁ hsb₁ ⊢;generalize VA:s2.heap.push {cls:=.type "list",dict:=none,data:=.seq ([]:LU).toArray}=G2 at hns₁ hsb₁ ⊢;have hC:G2.objs.size=⇑s2 + 1:=by rw[<- VA,Fs]
 have hDC:⇑s2≠G2.objs.size:=by rw[hC];exact Yt (Nat.lt_succ_self _)
 have hCle:⇑s2<=G2.objs.size:=by rw[hC];exact Nat.le_succ _
 have old:∀ b o,s2.heap.get? b≈o->h₁.get? b≈o:=λb o e=>by
  have hb:=Yf e;exact hsb₁.extBut b o (by rw[hC];exact Yt (Nat.lt_succ_of_lt hb)) (Yb _ (VA ▸ Yb _ e))
 have hD:H2 ⇑s2=none:=I2.hok.fresh (Ye _);have A2:∀ b∈fp,b<⇑s2:=λb hb=>by
  obtain⟨o,e,_⟩:=T.obj _ _ KW b hb;exact Yf e
 have CJ:h₁.get? ⇑s2=some {cls:=.type "list",data:=.seq ([]:LU).toArray}:=hsb₁.extBut _ _ hDC (Yb _ (VA ▸ Yh _ rfl));obtain⟨W,⟨m0,w0⟩,turn⟩:=hq _ hD;have I0:∀ tk,Inv 2.7 [] (KY own.length js σ) (upd H2 ⇑s2 (.lst [])) {s2 with heap:=h₁,toks:=tk}:=λtk=>by
  refine⟨c.ok I2 f2 A2 hCle _,Y,I2.bare,Un.laid old (Ye _) hD,⟨_,hns₁,λi x v h1 h2 h3=>?_⟩,λx a h=>?_,?_,λx a h=>?_,λp hp=>absurd (show p∈([]:PL)from hp) 0.6,I2.hok.laid old (Ye _) ⟨BC _,[],0,.nil,CJ⟩,?_⟩
  ·have hi:own.length<=i:=by
    by_cases hi:i<own.length
    ·unfold KY at h2;rw[YK (by simpa using hi),List.getElem?_replicate]at h2;rw[if_pos hi]at h2;cases h2
    ·omega
   have hx:η[i - own.length]?≈x:=by
    have Jo:(own++η)[i]?≈x:=h1
    rwa [P2 hi]at Jo
   have bC:(js.map λj=>(σ[j]?).join)[i - own.length]?≈(↥v):=by
    unfold KY at h2;rw[P2 (by simpa using hi)]at h2;simpa using h2
   rw[Ys]at bC;obtain⟨j,hj,hjv⟩:=E3.mp bC;have hs:=congrArg (λl=>l[i - own.length]?) c.slots;rw[Ys,Ys,hj,hx]at hs;have hNj:X.N[j]?≈x:=Bk hs;have hσ:σ[j]?≈(↥v):=by
    cases q:σ[j]? with
    | none=>rw[q]at hjv;cases hjv
    | some o =>
     rw[q]at hjv;have:o≈v:=hjv;rw[this]
   have hfree:=c.fre x (Yd hx);have hXk:=c.fr (x,.free) (JI hfree) rfl;obtain⟨m,hn,hl⟩:=I2.loc;have vis:UH X.env.scope x:=by rcases hXk with k | k;exact .inr (.inl k);exact .inr (.inr k)
   obtain⟨u,r,l⟩:=hl j x v hNj hσ vis;refine⟨u,r,.inr ⟨iC (env:=X.env) hfree,?_⟩⟩
   rcases l with⟨hk,_⟩ | ⟨_,a,ha,hcell⟩
   ·rcases hXk with k | k
    ·have hk:X.env.scope.names.lookup x≈.local:=hk;rw[show X.env.scope.names.lookup x≈.cell from k]at hk;cases hk
    ·have hk:X.env.scope.names.lookup x≈.local:=hk;rw[show X.env.scope.names.lookup x≈.free from k]at hk;cases hk
   ·obtain⟨a',ar⟩:=c.has hfree;have e:=c.cl I2.ok ar;rw[ha]at e;cases e;obtain⟨o,ho,hd⟩:=hcell;exact⟨a,ar,o,old a o ho,hd⟩
  ·obtain⟨v,o,ho,hd⟩:=I2.cell x a (c.cl I2.ok h);exact⟨v,o,old a o ho,hd⟩
  ·show upd H2 ⇑s2 (.lst []) G2.objs.size=none;rw[AD (Yw hDC)];exact I2.hok.fresh hCle
  ·obtain⟨v,o,ho,hd⟩:=I2.cell x a (c.cl I2.ok h);rw[AD (Yt (Yf ho))];exact I2.freeC x a (c.cl I2.ok h)
  ·rw[w9,Yo];have:=congrArg List.length c.slots;rw[Ya,Ya]at this;omega
 have stat:∀ {H':Hp},(∀ b∈fp,H' b=none)->∀ b∈fp,Cv 2.7 [] H' b:=λ{H'} hn b hb=>by
  obtain⟨f0,f1,f3,f4,f5,f6⟩:=f2 b hb;refine⟨hn b hb,Yt (Yr (A2 b hb) hCle),λz=>?_,.inl hb,λx a h=>f5 x a (c.cl I2.ok h),λp hp=>absurd (show p∈([]:PL)from hp) 0.6⟩
  rcases Yk.mp (I2.stkSub b z)with e | e
  ·exact f1 e
  ·exact f3 e
 have loop:∀ s₃:χ,s₃={s2 with heap:=h₁,toks:=s2.toks + ↑([]:List (Str×ε))} ->
   codeAny 0.3 X.A (.compLoop (.ListComp elt [⟨tg,iter,ifs,0⟩] scope pos) 0 (.ref it) (.ref ⇑s2) (compEnvC scope (EA X.env scope.names []) G2.objs.size X.env))
    (RR (.ref ⇑s2) G2.objs.size) s₃:=by
  rintro s₃ rfl;refine tX (λn s'=>∃ i ys σ' H',Inv 2.7 [] σ' H' s'/\tn i s'.heap/\(∀ b∈fp,H' b=none)/\W i n ys σ' H') ?_ m0
   ⟨0,[],G,I0 _,T.keep _ _ _ KW λb _ o e=>old b o e,λb hb=>by rw[AD (Yt (A2 b hb))];exact(f2 b hb).1,w0⟩
  rintro n s3 ⟨i,ys,σ3,H3,I3,Np,OQ,w3⟩ E'
  rcases turn i n ys σ3 H3 w3 with⟨stop,qn⟩ | ⟨go,hz,N,hN,step⟩
  ·refine AM (T.done 2.7 rfl rfl rfl c.calm i [] s3 σ3 H3 E' I3 (stat OQ) Np stop) λr s4 ⟨hr,I4⟩=>?_;subst hr;have back:Inv X π σ H3 s4:=I2.call' (ch:=fp) I4.os I4.base I4.hok I4.bare λb hb=>⟨(f2 b hb).2.2.2.1,(f2 b hb).2.1,(f2 b hb).2.2.2.2.1,(f2 b hb).2.2.2.2.2⟩;exact hR _ _ H3 s4 back (I2.fpOk hCle I4.free) ⟨_,I4.loc.choose_spec.1⟩ qn
  ·refine AM (T.item 2.7 rfl rfl rfl c.calm i [] s3 σ3 H3 E' I3 (stat OQ) Np go) λr s4 ⟨u,hr,h4⟩=>?_;subst hr;refine AM h4 λ_ s5 ⟨x,H5,I5,r5,y5,KU,VE⟩=>?_;have ZE:=I5.pinned (stat VE) (T.obj _ _ KU);have nof:∀(e:ε) (s':χ),(Dh X scope (own++η) G2.objs.size s2 H2 fp).xe e s'->E' e s':=λ_ _ z=>False.elim z;refine Jf (hg _ _ _ _ _ s5 σ3 H5 x u _ ZE r5 (step x H5 y5)) (λ_ s6 ⟨σ6,H6,I6,q6⟩=>?_) nof;refine Jf (ht _ _ _ _ _ s6 σ6 H6 _ I6 q6) (λb s7 ⟨H7,I7,q7⟩=>?_) nof;have again:∀ {σ7:St} {H7:Hp} {s7:χ} {UU:LV},Inv 2.7 ([]++Oj fp s5.heap) σ7 H7 s7->N UU σ7 H7 ->
     ∃ m,m<n/\∃ i ys σ' H',Inv 2.7 [] σ' H' s7/\tn i s7.heap/\(∀ b∈fp,H' b=none)/\W i m ys σ' H':=λ{σ7 H7 s7 UU} I7 n7=>by
    obtain⟨m',hm,w7⟩:=hN _ _ _ n7;refine⟨m',hm,i + 1,UU,σ7,H7,I7.unpinned,T.keep _ _ _ KU λb hb o e=>(I7.pin (b,o) (E1 _ (E1 _ (SY hb e)))).1,λb hb=>?_,w7⟩;obtain⟨o,e,d⟩:=T.obj _ _ KU b hb;exact(I7.pin (b,o) (E1 _ (E1 _ (SY hb e)))).2.1
   cases b with
   | false =>
    rw[if_neg Yl]at q7 ⊢;exact again I7 q7
   | true =>
    rw[if_pos rfl]at q7 ⊢;refine Jf (he _ _ _ _ _ s7 σ6 H7 _ I7 q7) (λv s8 ⟨y,H8,I8,r8,VB,w8⟩=>?_) nof;refine Jf (FR (X:=Dh X scope (own++η) G2.objs.size s2 H2 fp) _ s8 σ6 H8 (.ref ⇑s2) [y] (.ref ⇑s2) [v] (λ_ H9=>H9=upd H8 ⇑s2 (.lst (ys++[y]))) I8 rfl (.cons r8 .nil) ⟨_,ys,y,Y,Y,VB,hz,Y⟩) (λz s9 ⟨_,H9,I9,_,e9⟩=>?_) nof;subst e9;exact again I9 w8
 exact codeAny_compStart_list (loop _ rfl) (T.self X.A 0 _ _ _ (T.keep _ _ _ KW λb _ o e=>old b o e) (loop _ rfl))
end
section
variable {X:Cx}{scope:Scope}{own η:LS}{js:LN}{tg iter elt:Expr}{ifs:μ}{wi:TI}{g:TG}{tt:TT}{te:TE}{pos:Pos}
def Ya0(n:Nat)(js:LN)(wi:TI)(g:TG)(tt:TT)(te:TE):TE:=λσ H Q=>wi σ H (AZ n js g tt te σ Q)
def Ea(own η:LS)(js:LN)(hc:X.Ok->F6 X scope own η js)(hi:PI X tg iter wi)
  (hg:∀ C s H fp,PG (Dh X scope (own++η) C s H fp) tg g) (ht:∀ C s H fp,QM (Dh X scope (own++η) C s H fp) ifs tt) (he:∀ C s H fp,PE (Dh X scope (own++η) C s H fp) elt te)
  (hs:∀ x,foldedSetIterable iter X.env x=pure x:=by intro _;rfl):
  PE X (.ListComp elt [⟨tg,iter,ifs,0⟩] scope pos) (Ya0 own.length js wi g tt te):=by
 ac_rfl;have c:=hc I.ok;rw[eval_ListComp];refine wpAny_comprehension_free (use:=none) rfl hs (hW (c.cells I.ok)) c.kind c.locals (AM (hi π s σ H _ I h) λxv s₁ h₁=>AM h₁ λit s₂ h₂=>?_);refine gT (RR:=λacc C=>compPost 0.3 X.A X.xe none (EP X π σ Q) acc C) c hg ht he h₂ λD C H' s' J F n q=>?_;obtain⟨m,hn⟩:=n;obtain⟨f0,f1,f2,f3,f4,f5⟩:=F;exact⟨m,hn,λh' Uy=>⟨.ref D,H',J.turned (t':=s'.toks) (λb o hb e=>Uy.extBut b o hb e) f0 f1 f3 f4 f5,Y,q⟩⟩
def pP(k n:Nat)(js:LN)(wi:TI)(g:TG)(tt:TT)(te:TE):TS:=λD σ H=>wi σ H (AZ n js g tt te σ λv H1=>D.nx (σ.set k (↥v)) H1)
def JA{k:Nat}{y:Str}{py spos:Pos}(own η:LS)(js:LN)(hN:X.N.Nodup)(hk:X.N[k]?≈y)(hy:X.env.scope.names.lookup y≈.local)(hc:X.Ok->F6 X scope own η js)(hi:PI X tg iter wi)
  (hg:∀ C s H fp,PG (Dh X scope (own++η) C s H fp) tg g) (ht:∀ C s H fp,QM (Dh X scope (own++η) C s H fp) ifs tt) (he:∀ C s H fp,PE (Dh X scope (own++η) C s H fp) elt te)
  (hsw:swapsWith (.ListComp elt [⟨tg,iter,ifs,0⟩] scope pos) (↥(.Name y py)) spos.line X.env=pure true:=by rfl)
  (hs:∀ x,foldedSetIterable iter X.env x=pure x:=by intro _;rfl):
  PS X (.Assign [.Name y py] (.ListComp elt [⟨tg,iter,ifs,0⟩] scope pos) spos) (pP k own.length js wi g tt te):=by
 intro π s σ H D I h;have c:=hc I.ok;rw[exec_Assign_Name_used _ _ _ _ hsw];refine Ja (wpAny_standAt (Ja ?_));show wpAny _ X.A (do let _ <- comprehension (.ListComp elt [⟨tg,iter,ifs,0⟩] scope pos) scope X.env _ (newList []) false (eval iter X.env) (↥(assign (.Name y py) X.env))) _ _ s;refine Ja (Jf (wpAny_comprehension_free (use:=↥(assign (.Name y py) X.env)) (Q:=λ_ s'=>SP X π D .next s') rfl hs (hW (c.cells I.ok)) c.kind c.locals
  (AM (hi π s σ H _ I h) λxv s₁ h₁=>AM h₁ λit s₂ h₂=>?_)) (λ_ s' hq=>Jd (Jd hq)) λ_ _ e=>e)
 refine gT (RR:=λacc C=>compPost 0.3 X.A X.xe (↥(assign (.Name y py) X.env)) (λ_ s'=>SP X π D .next s') acc C) c hg ht he h₂ λA' C H' s' J F n q=>?_;obtain⟨m,hn⟩:=n;obtain⟨f0,f1,f2,f3,f4,f5⟩:=F;show wpAny _ X.A (assign (.Name y py) X.env (.ref A')) _ _ _;refine wpAny_assign_Name (gD J hN hk (.inl hy) (v:=.ref A') rfl (λCf J' ⟨a,sb,ha⟩=>?_) (.inr hy));have B3:a≠C:=by
  rcases ha with e | e
  ·rw[e];exact Yw f1
  ·exact f4 y a e
 refine⟨m,hn.sameBut sb (Yw B3),λh' Uy=>⟨_,H',J'.turned (t':=Cf.toks) (λb o hb e=>Uy.extBut b o hb e) f0 f1 f3 f4 f5,q⟩⟩
end
def LG{J:It}{xs:LV}{Ok:Hp->Prop}(R:EW J xs Ok){n:Nat}{js:LN}{g:TG}{tt:TT}{te:TE}{σ:St}{Q:VK}{H1:Hp}(hz:↑xs<=sizeLine)
  (Pv:δ->Nat->LV->St->Hp->Prop) (h0:∀ D,H1 D=none->Pv D 0 [] (KY n js σ) (upd H1 D (.lst [])))
  (hok:∀ D i ys σ' H,i<=↑xs->Pv D i ys σ' H->Ok H/\↑ys<=i)
  (hs:∀ D i x ys σ' H,H1 D=none->xs[i]?≈x->Pv D i ys σ' H->g x σ' H λσ3 H3=>tt σ3 H3 λb H4 =>
   if b=true then te σ3 H4 λv H5=>H5 D≈(.lst ys)/\Pv D (i + 1) (ys++[v]) σ3 (upd H5 D (.lst (ys++[v])))else Pv D (i + 1) ys σ3 H4)
  (hd:∀ D ys σ' H,H1 D=none->Pv D ↑xs ys σ' H->Q (.ref D) H):
  AZ n js g tt te σ Q J H1:=by
 intro D hD;refine⟨λi m ys σ' H=>m=↑xs - i/\i<=↑xs/\Pv D i ys σ' H,⟨↑xs,by simp,BC _,h0 D hD⟩,?_⟩;rintro i m ys σ' H ⟨rfl,hi,p⟩;obtain⟨q,hy⟩:=hok D i ys σ' H hi p;by_cases A2:i<↑xs
 ·have hx:xs[i]?≈xs[i]:=by simp[A2]
  refine .inr ⟨R.go i _ H q hx,O,Pv D (i + 1),λKR σ3 H3 p3=>⟨↑xs - (i + 1),O,Y,A2,p3⟩,λx H' y=>?_⟩;obtain⟨e1,e2⟩:=R.yld i _ H x H' q hx y;rw[e2];exact hs D i x ys σ' H hD (by rw[e1];exact hx) p
 ·have e:i=↑xs:=by omega
  subst e;exact .inl ⟨R.stop H q,hd D ys σ' H hD p⟩
def Wu{J:It}{xs:LV}{Ok:Hp->Prop}(R:EW J xs Ok){js:LN}{tt:TT}{te:TE}{σ:St}{Q:VK}{H1:Hp}(hz:↑xs<=sizeLine)(p:V->Bool)(f:V->V)
  (hok:∀ D ys,H1 D=none->Ok (upd H1 D (.lst ys)))
  (ht:∀ D ys x (R:Bool->Hp->Prop),H1 D=none->x∈xs->R (p x) (upd H1 D (.lst ys))->tt (↥x :: js.map λj=>(σ[j]?).join) (upd H1 D (.lst ys)) R)
  (he:∀ D ys x (R:V->Hp->Prop),H1 D=none->x∈xs->p x=true->R (f x) (upd H1 D (.lst ys))->te (↥x :: js.map λj=>(σ[j]?).join) (upd H1 D (.lst ys)) R)
  (hd:∀ D,H1 D=none->Q (.ref D) (upd H1 D (.lst ((xs.filter p).map f)))):
  AZ 1 js (Cz 0) tt te σ Q J H1:=by
 refine LG R hz (λD i ys σ' H=>H1 D=none/\ys=((xs.take i).filter p).map f/\(∃ o,σ'=o :: js.map λj=>(σ[j]?).join)/\H=upd H1 D (.lst ys)) ?_ ?_ ?_ ?_
 ·intro D hD;exact⟨hD,by simp,⟨none,Y⟩,Y⟩
 ·rintro D i ys σ' H hi ⟨hD,e,_,rfl⟩;refine⟨hok D ys hD,?_⟩;rw[e,Ya];exact BL (IJ _ _) (by rw[Yv];omega)
 ·rintro D i x ys σ' H hD hx ⟨_,e,⟨o,rfl⟩,rfl⟩;show tt (↥x :: js.map λj=>(σ[j]?).join) (upd H1 D (.lst ys)) _;have hm:x∈xs:=Yd hx;refine ht D ys x _ hD hm ?_;cases hp:p x with
  | true =>
   rw[if_pos rfl];refine he D ys x _ hD hm hp ⟨uS,hD,?_,⟨Z⟩,M1⟩;rw[take_succ_filter p xs i x hx,hp,Br,e];rfl
  | false =>
   rw[if_neg Yl];refine⟨hD,?_,⟨Z⟩,Y⟩;rw[take_succ_filter p xs i x hx,hp,Br,e];simp
 ·rintro D ys σ' H hD ⟨_,e,_,rfl⟩;rw[Bt]at e;rw[e];exact hd D hD
section
variable {X:Cx}
def fb{bs:List Bool}{ψ:LU}(r:AX (bs.map V.bl) ψ):∀(i:Nat) (v:ε),ψ[i]?≈v->v=Value.bool (bs.getD i false):=λi v h=>by
 have hl:=↑r;rw[Ya]at hl;have hi:i<↑ψ:=(Yu.mp h).1;have hb:(bs.map V.bl)[i]?≈(V.bl (bs.getD i false)):=by
  rw[Ys,Yz];have:i<↑bs:=by omega
  simp[this]
 obtain⟨u,hu,ru⟩:=r.get hb;rw[h]at hu;cases hu;exact ru
def rB{bs:List Bool}:(List.range ↑bs).all (λi=>bs.getD i false)=bs.all id:=by
 rw[IK];simp only[C6,List.mem_range,id];constructor
 ·intro h b hb;obtain⟨i,hi,e⟩:=Tt.mp hb;have:=h i hi;rw[Yz]at this;simpa[hi,e]using this
 ·intro h i hi;rw[Yz];simp only[Yi hi,P0];exact h _ (List.getElem_mem hi)
def rC{bs:List Bool}:(List.range ↑bs).any (λi=>bs.getD i false)=bs.any id:=by
 rw[IK];simp only[JL,List.mem_range,id];constructor
 ·rintro⟨i,hi,e⟩;rw[Yz]at e;simp only[Yi hi,P0]at e;exact⟨_,List.getElem_mem hi,e⟩
 ·rintro⟨b,hb,e⟩;obtain⟨i,hi,e'⟩:=Tt.mp hb;refine⟨i,hi,?_⟩;rw[Yz];simp only[Yi hi,P0];rw[e',e]
inductive YT(K:Fg)(f:List Bool->Bool)(xs:LV)(H:Hp)(Q:VK):Prop
 | mk:∀ a bs,xs=[.ref a]->SqL K H a (bs.map V.bl)->Q (.bl (f bs)) H->YT K f xs H Q
def R3(hc:X.calm=true):EG X (.builtin "all") (YT X.K λbs=>bs.all id):=by
 intro π s σ H xs us Q I r h;obtain⟨a,bs,rfl,ha,q⟩:=h;obtain⟨u,rfl,ru⟩:=Fm r;cases ru;obtain⟨ψ,rv,p,hz⟩:=I.list ha;have hl:=↑rv;rw[Ya]at hl;refine call_all_walk (wpAny_pyIter_list p.isList ?_);have B3:a≠⇑s:=by
  obtain⟨o,ho,_⟩:=p.isList;exact Yt (Yf ho)
 refine⟨⇑s,_,_,_,_,_,λi=>bs.getD i false,rfl,Walks.list (A:=X.A.in1) (I.ok.hd hc) ⇑s a B3 ψ.toArray,⟨⟨_,Yh _ rfl,rfl,rfl⟩,?_⟩,?_,?_⟩
 ·obtain⟨o,ho,r'⟩:=p.isList;exact⟨o,Yb _ ho,r'⟩
 ·intro i v s' Q' E' hv hq;have e:=fb rv i v (by simpa using hv);subst e;exact Jh hq
 ·intro h' tk hk;refine⟨.bl (bs.all id),H,I.kept λb o e=>hk b o ?_ (Yb _ e),?_,q⟩
  ·have hb:=Yf e;intro z;have z':b=⇑s:=by simpa using z
   exact Yt hb z'
  ·have:ψ.toArray.size=↑bs:=by simp[hl]
   rw[this,rB];rfl
def dD(hc:X.calm=true):EG X (.builtin "any") (YT X.K λbs=>bs.any id):=by
 intro π s σ H xs us Q I r h;obtain⟨a,bs,rfl,ha,q⟩:=h;obtain⟨u,rfl,ru⟩:=Fm r;cases ru;obtain⟨ψ,rv,p,hz⟩:=I.list ha;have hl:=↑rv;rw[Ya]at hl;refine call_any_walk (wpAny_pyIter_list p.isList ?_);have B3:a≠⇑s:=by
  obtain⟨o,ho,_⟩:=p.isList;exact Yt (Yf ho)
 refine⟨⇑s,_,_,_,_,_,λi=>bs.getD i false,rfl,Walks.list (A:=X.A.in1) (I.ok.hd hc) ⇑s a B3 ψ.toArray,⟨⟨_,Yh _ rfl,rfl,rfl⟩,?_⟩,?_,?_⟩
 ·obtain⟨o,ho,r'⟩:=p.isList;exact⟨o,Yb _ ho,r'⟩
 ·intro i v s' Q' E' hv hq;have e:=fb rv i v (by simpa using hv);subst e;exact Jh hq
 ·intro h' tk hk;refine⟨.bl (bs.any id),H,I.kept λb o e=>hk b o ?_ (Yb _ e),?_,q⟩
  ·have hb:=Yf e;intro z;have z':b=⇑s:=by simpa using z
   exact Yt hb z'
  ·have:ψ.toArray.size=↑bs:=by simp[hl]
   rw[this,rC];rfl
def Yc3(i j:Int):Prop:=Builtin.Int.intBits i<=2 ^ 20/\Builtin.Int.intBits j<=2 ^ 20
def WT:BM X (binaryOp .Mult) (rI Yc3 λi j=>.int (i * j)):=MV λ_ _ _ _ _ _ _ hc q=>mul_int q (IntMulOk.of_bits hc.1 hc.2)
def Yc5(i j:Int):Prop:=0<j/\j<4611686018427387904
def zB:BM X (binaryOp .FloorDiv) (rI Yc5 λi j=>.int (i / j)):=MV λi j _ _ _ _ _ hc q=>by
 have h1:(0:Int)<j:=hc.1;have h2:j<4611686018427387904:=hc.2;refine floordiv_int 0.0 (by rw[Int.fdiv_eq_ediv_of_nonneg i 0.0];exact q) (.inl (PyProof.noPylong_of_log2 ?_));have h3:j.natAbs.log2<62:=(Nat.log2_lt 0.0).mpr 0.0;omega
inductive kS(x:V)(lo:Option Int)(hi:Option Int)(H:Hp)(Q:VK):Prop
 | mk:∀ z,x=.str z->↑z<=sizeLine->Q (.str (Txt.slice z lo hi)) H->kS x lo hi H Q
def jF:QH X kS:=by
 intro π s σ H x v vl vu lo hi sl Q I rx hs pl pu h;obtain⟨z,rfl,hz,q⟩:=h;obtain⟨t,rfl⟩:=rx;refine⟨"str",_,F.slot_str_getitem.lookup,typeIs_str _ _ _,?_⟩;have fin:∀ t' k,EP X π σ Q (.str (Txt.slice z lo hi) t') {s with toks:=k}:=λt' k=>⟨.str _,H,I.tok _,⟨Z⟩,q⟩;have hsz:=BL (Txt.slice_le z lo hi) hz;obtain⟨o,h1,h2,h3⟩:=hs;cases pl with
 | none =>
  cases pu with
  | none=>exact wpAny_getItem_str_slice (l:=none) (u:=none) (st:=none) ⟨o,h1,h2,h3⟩ rfl (post_val_or_str ⟨hsz,fin⟩)
  | int j uj=>exact wpAny_getItem_str_slice (l:=none) (u:=↥(j,uj)) (st:=none) ⟨o,h1,h2,h3⟩ rfl (post_val_or_str ⟨hsz,fin⟩)
 | int i ui =>
  cases pu with
  | none=>exact wpAny_getItem_str_slice (l:=↥(i,ui)) (u:=none) (st:=none) ⟨o,h1,h2,h3⟩ rfl (post_val_or_str ⟨hsz,fin⟩)
  | int j uj=>exact wpAny_getItem_str_slice (l:=↥(i,ui)) (u:=↥(j,uj)) (st:=none) ⟨o,h1,h2,h3⟩ rfl (post_val_or_str ⟨hsz,fin⟩)
inductive jw(K:Fg)(xs:LV)(H:Hp)(Q:VK):Prop
 | mk:∀ x n t b,xs=[x,.ty n]->Fh K H x t->W.kitOne K t (.type n)≈b->Q (.bl b) H->jw K xs H Q
def xh:EG X (.builtin "isinstance") (jw X.K):=by
 intro π s σ H xs us Q I r h;obtain⟨x,n,t,b,rfl,ty,e,q⟩:=h;obtain⟨u,w',rfl,r1,r2⟩:=Og r;cases r2;exact qY I r1 ty e λtk=>⟨.bl b,H,I.tok _,Y,q⟩
end
def iI(osc:Scope)(on:LS)(scope:Scope)(η:LS)(js:LN):Bool :=
 (scope.kind == .function)&&scope.names.all (λy=>y.2 != .cell)&&scope.names.all (λy=>y.2 != .local || scope.names.lookup y.1 == ↥.local) &&
 scope.names.all (λy=>y.2 != .free || (osc.names.lookup y.1 == ↥.cell || osc.names.lookup y.1 == ↥.free))&&η.all (λx=>scope.names.lookup x == ↥.free)&&decide (js.map (λj=>on[j]?)=η.map some)
def CC{X:Cx}{osc scope:Scope}{on own η:LS}{js:LN}(h:iI osc on scope η js=true)(h1:X.env.scope=osc)(h2:X.N=on)(h3:X.calm=true):F6 X scope own η js:=by
 subst h1;subst h2;unfold iI at h;simp only[Ed,C6,decide_eq_true_eq,Bool.or_eq_true,bne_iff_ne,beq_iff_eq,ne_eq]at h;obtain⟨⟨⟨⟨⟨a,b⟩,c⟩,d⟩,e⟩,f⟩:=h;exact⟨h3,a,b,λy hy z=>(c y hy).resolve_left (λq=>q z),λy hy z=>(d y hy).resolve_left (λq=>q z),e,f⟩
inductive Ic(t u:TS)(D:Cy)(σ:St)(H:Hp):Prop
 | mk:∀ M:SW,t {D with nx:=M} σ H->(∀ σ' H',M σ' H'->u D σ' H')->Ic t u D σ H
def Gn{X:Cx}{st:Stmt}{Am:List Stmt}{t u:TS}(h1:PS X st t)(h2:Bc X Am u):Bc X (st :: Am) (Ic t u):=by
 intro π s σ H D I h;obtain⟨M,h,hM⟩:=h;refine wpAny_execs_cons (AM (h1 π s σ H {D with nx:=M} I h) λf s1 q=>?_);cases f with
 | next =>
  obtain⟨σ',H',I',q⟩:=q;exact h2 π s1 σ' H' D I' (hM _ _ q)
 | ret v=>exact q
 | brk=>exact q
 | cont=>exact q
structure Def(K:Fg)(mg:Str->OU)(x:Str)(st:Stmt)(ps:LS)(f:δ)(fd:FuncData):Prop where
 fn:BR K x x st f fd
 b:Bz K fd ps []
 m:mg x≈(.ref f)
def AV{X:Cx}{k:Nat}{ps:LS}{sp:Sp}{x:Str}{st:Stmt}{p pos:Pos}{e:Expr}{es:μ}{t:TA}(d:Def X.K X.mg x st ps f fd)(F:BQ X.prog X.w X.K X.mg X.base JS k f fd ps sp)(hr:Ab k X.A)
  (ha:PA X (e :: es) t) (hg:Gl X x:=by rfl) (hdb:(x == ("__debug__":Str))=false:=by decide) (he:starEach (e :: es) X.env=(false,eval e X.env):: starEach es X.env:=by rfl) (hpl:(backTo pos (starEach es X.env)).any 0.8=false:=by rfl):
  PE X (.Call (.Name x p) (e :: es) [] pos) (X8 sp [] E0 t):=cX F hr hg d.m d.fn.kp d.b .nil BF ha hdb he hpl
def sL{n:Nat}(h:n<=100000):n<=sizeLine:=by rw[sizeLine_eq];omega
end L2
namespace L2
open PySem PySem.Spec PyProof.Rows PySem.W
mutual
inductive Rep(K:Fg)(H:Hp):V->Dat->Prop
 | none:Rep K H .non .none
 | bool (b:Bool):Rep K H (.bl b) (.bool b)
 | int (i:Int):Rep K H (.int i) (.int i)
 | str (x:Str):Rep K H (.str x) (.str x)
 | tuple {a:δ} {xs:LV} {ds:List Dat}:AG K H a xs->A7 K H xs ds->Rep K H (.ref a) (.tuple ds)
 | list {a:δ} {xs:LV} {ds:List Dat}:SqL K H a xs->A7 K H xs ds->Rep K H (.ref a) (.list ds)
inductive A7(K:Fg)(H:Hp):LV->List Dat->Prop
 | nil:A7 K H [] []
 | cons {v:V} {vs:LV} {d:Dat} {ds:List Dat}:Rep K H v d->A7 K H vs ds->A7 K H (v :: vs) (d :: ds)
end
def AA.tup{K:Fg}{H H':Hp}{a:δ}{xs:LV}(e:AA H H')(h:AG K H a xs):AG K H' a xs:=by
 rcases h with(h | ⟨o,h⟩) | h
 ·exact .inl (.inl (e _ _ h))
 ·exact .inl (.inr ⟨o,e _ _ h⟩)
 ·exact .inr h
mutual
theorem Rep.mono{K:Fg}{H H':Hp}(e:AA H H'):∀ {v:V}{d:Dat},Rep K H v d->Rep K H' v d
 | _,_,.none=>.none
 | _,_,.bool b=>.bool b
 | _,_,.int i=>.int i
 | _,_,.str x=>.str x
 | _,_,.tuple h r=>.tuple (e.tup h) (A7.mono e r)
 | _,_,.list h r=>.list (e.seq h) (A7.mono e r)
theorem A7.mono{K:Fg}{H H':Hp}(e:AA H H'):∀ {vs:LV}{ds:List Dat},A7 K H vs ds->A7 K H' vs ds
 | _,_,.nil=>.nil
 | _,_,.cons h r=>.cons (Rep.mono e h) (A7.mono e r)
end
section
variable {X:Cx}{π:PL}{σ:St}{H:Hp}{s:χ}
mutual
theorem Rep.reads(I:Inv X π σ H s):∀ {v:V}{d:Dat}{u:ε},Rep X.K H v d->Ae v u->∃ as,Reads s.heap u (kqdP d) as
 | _,_,_,.none,r=>by cases(show _=Value.none from r);rw[kqdP];exact⟨_,Reads.none⟩
 | _,_,_,.bool b,r=>by cases(show _=Value.bool b from r);rw[kqdP];exact⟨_,Reads.bool b⟩
 | _,_,_,.int i,r=>by obtain⟨t,e⟩:=(show ∃ t,_=Value.int i t from r);cases e;rw[kqdP];exact⟨_,Reads.int i t⟩
 | _,_,_,.str x,r=>by obtain⟨t,e⟩:=(show ∃ t,_=Value.str x t from r);cases e;rw[kqdP];exact⟨_,Reads.str x t⟩
 | _,_,_,.tuple (a:=a) h q,r=>by
  cases(show _=Value.ref a from r);obtain⟨ψ,rv,⟨o,e,c,n,d⟩,_⟩:=I.tuple h;obtain⟨as,p⟩:=A7.reads I q rv;rw[kqdP];exact⟨as,reads_tuple_at e c d (by simpa using p)⟩
 | _,_,_,.list (a:=a) h q,r=>by
  cases(show _=Value.ref a from r);obtain⟨ψ,rv,⟨o,n,e,c,_,d⟩,_⟩:=I.list h;obtain⟨as,p⟩:=A7.reads I q rv;rw[kqdP];exact⟨_,reads_list_at e c d (by simpa using p)⟩
theorem A7.reads(I:Inv X π σ H s):∀ {vs:LV}{ds:List Dat}{us:LU},A7 X.K H vs ds->AX vs us->∃ as,ReadsAll s.heap us (kqdPs ds) as
 | _,_,_,.nil,r=>by cases r;rw[kqdPs];exact⟨_,ReadsAll.nil⟩
 | _,_,_,.cons h q,r=>by
  cases r with
  | cons r1 r2 =>
   obtain⟨as,p⟩:=Rep.reads I h r1;obtain⟨bs,t⟩:=A7.reads I q r2;rw[kqdPs];exact⟨_,ReadsAll.cons p t⟩
end
end
def FC(d e:Dat):Bool:=@decide (d=e) (Classical.propDecidable _)
def IF(d:Dat):FC d d=true:=by unfold FC;exact @Jb _ (Classical.propDecidable _) rfl
def vg{d e:Dat}(h:d=e):FC d e=true:=by rw[h];exact IF e
def O1{d e:Dat}(h:d≠e):FC d e=false:=by unfold FC;exact @Jc _ (Classical.propDecidable _) h
def V5{d e:Dat}{n k:Nat}(h1:kqdOk n d=true)(h2:kqdOk k e=true):PyData.eqv (kqdP d) (kqdP e)=FC d e:=by
 have q:=kqd_eqv n d e k h1 h2;by_cases h:d=e
 ·rw[vg h];exact q.mpr h
 ·rw[O1 h];exact Bool.eq_false_iff.mpr λx=>h (q.mp x)
def LH{d:Dat}(h:kqdOk 9 d=true):SeqAt.shaped (kqdP d)=true:=by
 have l:=kqd_lay 9 d h;unfold SeqAt.shaped;rw[l.1,DY];exact Jb (BL l.2 0.1)
section
variable {X:Cx}
def jv(K:Fg)(f:Bool->Bool):R2:=λx y H Q=>∃ d e,Rep K H x d/\Rep K H y e/\kqdOk 9 d=true/\kqdOk 9 e=true/\Q (.bl (f (FC d e))) H
def Rb(hu:X.A.units + 64<cLine):BM X (compareOp .Eq) (jv X.K id):=by
 exfalso;obtain⟨d,e,h1,h2,k1,k2,q⟩:=h;obtain⟨as,ra⟩:=h1.reads I rx;obtain⟨bs,rb⟩:=h2.reads I ry;exact eq_dataH ra rb (LH k1) (LH k2) hu (BS I q (by rw[V5 k1 k2];rfl))
def K8(hu:X.A.units + 64<cLine):BM X (compareOp .NotEq) (jv X.K Bool.not):=by
 exfalso;obtain⟨d,e,h1,h2,k1,k2,q⟩:=h;obtain⟨as,ra⟩:=h1.reads I rx;obtain⟨bs,rb⟩:=h2.reads I ry;exact ne_dataH ra rb (LH k1) (LH k2) hu (BS I q (by rw[V5 k1 k2]))
end
end L2
namespace L2
open PySem PySem.Spec PyProof.Rows
section
variable {X:Cx}{π:PL}{σ:St}{H H':Hp}{s:χ}{a:δ}{ν:KL}{o:Obj}
def Inv.reH(I:Inv X π σ H s)(base:Un X.fs X.ex X.H₀ H' X.s₀.heap s.heap)(hn:∀ b,H b=none->H' b=none)(hok:BU X.prog X.w H' s.heap):Inv X π σ H' s :=
 ⟨I.ok,I.os,I.bare,base,I.loc,I.cell,hn _ I.free,λx c e=>hn _ (I.freeC x c e),λp hp=>by
  obtain⟨e,n,r⟩:=I.pin p hp;exact⟨e,hn _ n,r⟩,hok,I.len⟩
def Inv.reAt{u u':HO}(I:Inv X π σ H s)(h:H a≈u)(nt:∀ xs,u≠.tup xs)(no:∀ y,u≠.own y)(nb:∀ ps,u≠.tbl ps)(nf:∀ o v,X.H₀ a≠some (.frz o v))
  (ok:BB X.prog X.w H s.heap a u->BB X.prog X.w (upd H a u') s.heap a u'):Inv X π σ (upd H a u') s:=by
 have hn:∀ b,H b=none->upd H a u' b=none:=λb e=>by
  rw[AD]
  ·exact e
  ·rintro rfl;rw[h]at e;cases e
 refine I.reH ⟨I.base.keep,I.base.slot,λb ob e n hx=>hn b (I.base.free b ob e n hx),I.base.there,λb xs e=>?_,λb ob v e=>?_,λb ps e=>?_⟩ hn ?_
 ·have q:=I.base.tups b xs e;rw[AD]
  ·exact q
  ·rintro rfl;rw[h]at q;exact nt xs (Bk q)
 ·have q:=I.base.frzs b ob v e;rw[AD]
  ·exact q
  ·rintro rfl;exact nf ob v e
 ·obtain⟨m,q⟩:=I.base.tbls b ps e;refine⟨m,?_⟩;rw[AD]
  ·exact q
  ·rintro rfl;rw[h]at q;exact nb _ (Bk q)
 ·intro b v e;by_cases hb:b=a
  ·subst hb;rw[uS]at e;cases e;exact ok (I.hok b u h)
  ·rw[AD hb]at e;refine(I.hok b v e).stay (λ_ _ _ q=>q) (λc q=>?_) λc xs q=>?_
   ·rw[AD]
    ·exact q
    ·rintro rfl;rw[h]at q;exact no _ (Bk q)
   ·rw[AD]
    ·exact q
    ·rintro rfl;rw[h]at q;exact nt _ (Bk q)
def Inv.freeze(I:Inv X π σ H s)(h:H a≈(.dK ν))(ho:s.heap.get? a≈o):Inv X π σ (upd H a (.frz o (.dK ν))) s/\∀ o' v,X.H₀ a≠some (.frz o' v):=by
 have nf:∀ o' v,X.H₀ a≠some (.frz o' v):=λo' v e=>by
  have q:=I.base.frzs a o' v e;rw[h]at q;cases q
 refine⟨I.reAt h (λ_ z=>nomatch z) (λ_ z=>nomatch z) (λ_ z=>nomatch z) nf λk=>⟨ho,k.stay (λ_ _ _ q=>q) (λc q=>?_) λc xs q=>?_⟩,nf⟩
 ·rw[AD]
  ·exact q
  ·rintro rfl;rw[h]at q;cases q
 ·rw[AD]
  ·exact q
  ·rintro rfl;rw[h]at q;cases q
def Rf{P:ω}{w:World}{k:Key}{u:ε}(h:(Bp P w).is k u=true):Ae (kV k) u:=by
 rcases IG (show K5 k u=true from h)with⟨i,t,rfl,rfl⟩ | ⟨x,t,rfl,rfl⟩
 ·exact⟨t,Y⟩
 ·exact⟨t,Y⟩
end
def ZD(a:δ)(o:Obj)(ν:KL):It :=
 ⟨λi H=>i<↑ν/\H a≈(.frz o (.dK ν)),λi H v H'=>H'=H/\∃ p,ν[i]?≈p/\v=kV p.1,λi H=>↑ν<=i/\H a≈(.frz o (.dK ν))⟩
def Y_(a:δ)(o:Obj)(ν:KL):It :=
 ⟨λi H=>i<↑ν/\H a≈(.frz o (.dK ν)),λi H v H'=>H'=H/\∃ p,ν[i]?≈p/\v=p.2,λi H=>↑ν<=i/\H a≈(.frz o (.dK ν))⟩
theorem KV.get{κ:Type}:∀ {ν:List (κ×V)}{vs:List (κ×ε)},KV ν vs->∀ {i:Nat}{p:κ×V},ν[i]?≈p->∃ u,vs[i]?≈(p.1,u)/\Ae p.2 u
 | _,_,.nil,i,p,h=>by simp at h
 | _,_,.cons r t,0,p,h=>by
  simp at h;subst h;exact⟨_,by simp[r.1],r.2⟩
 | _,_,.cons r t,i + 1,p,h=>by
  obtain⟨u,h1,h2⟩:=KV.get t (i:=i) (p:=p) (by simpa using h);exact⟨u,by simpa using h1,h2⟩
def Iw{P:ω}{w:World}{H:Hp}{h:Heap}{a:δ}{o:Obj}{ν:KL}{es:Array DictEntry}{ep:Nat}(ok:BB P w H h a (.frz o (.dK ν)))(hd:o.data=.dict es ep):
  (a == sysModules)=false/\∃ vs,KV ν vs/\h.DictAt (Bp P w) a vs ep:=by
 obtain⟨ho,z,hs,vs,r,o',IY,IZ,h1,h2,h3,h4,h5,h6⟩:=ok;rw[ho]at h1;cases h1;rw[hd]at h3;cases h3;exact⟨hs,vs,r,o,es,ho,h2,hd,h4,h5,h6⟩
def q_{P:ω}{w:World}{K:Fg}{tg:Expr}(a it:δ)(o:Obj)(ν:KL)(es:Array DictEntry)(ep:Nat)(hd:o.data=.dict es ep):
  FD P w K tg (ZD a o ν) [it] it (λi h=>h.IsKeyIter it a i ↑ν ep) where
 mem:=by simp
 obj:=λi h st b hb=>by
  have e:b=it:=by simpa using hb
  subst e;obtain⟨o,e,c,d⟩:=st;exact⟨o,e,λv z=>by rw[d]at z;cases z⟩
 keep:=λi h h' st k=>by
  obtain⟨o,ho,r⟩:=st;exact⟨o,k it 0.6 o ho,r⟩
 item:=by
  intro X hP hw hK hc i π s σ H E I hf st hg;subst hP hw hK;obtain⟨f0,f1,f2,f3,f4,f5⟩:=hf it 0.6;obtain⟨hi,ha⟩:=hg;obtain⟨_,vs,r,dd⟩:=Iw (I.hok a _ ha) hd;obtain⟨p,hp⟩:∃ p,ν[i]?≈p:=⟨ν[i],by simp[hi]⟩;obtain⟨u,hu,ru⟩:=r.get hp;have hl:↑ν=↑vs:=Yp r;rw[hl]at st;refine wpAny_pyNext_dict_item st dd hu λkey h' hk BW sb=>?_;have I1:Inv X π σ H {s with heap:=h' }:=I.turned (t':=s.toks) (λb o hb e=>(sb.2 b hb).trans e) f0 f1 f3 f4 f5;obtain⟨o',e,c,d⟩:=id BW;rw[<- hl]at BW;exact⟨key,Y,Mg (s:={s with heap:=h' }) e c d 0.1 ⟨kV p.1,H,I1,Rf hk,⟨Y,p,hp,Y⟩,BW,λb hb=>(hf b hb).1⟩⟩
 done:=by
  intro X hP hw hK hc i π s σ H E I hf st hg;subst hP hw hK;obtain⟨f0,f1,f2,f3,f4,f5⟩:=hf it 0.6;obtain⟨hi,ha⟩:=hg;obtain⟨_,vs,r,dd⟩:=Iw (I.hok a _ ha) hd;have hl:↑ν=↑vs:=Yp r;rw[hl]at st;exact wpAny_pyNext_dict_end (I.ok.hd hc) st dd (by simp;omega) λh' eb=>⟨Y,I.turned (t':=s.toks) (λb o hb e=>eb b o hb e) f0 f1 f3 f4 f5⟩
 self:=λ_ _ _ _ _ st h=>wpAny_pyIter_keyiter st h
def rA{P:ω}{w:World}{K:Fg}{tg:Expr}(a it:δ)(o:Obj)(ν:KL)(es:Array DictEntry)(ep:Nat)(hd:o.data=.dict es ep):
  FD P w K tg (Y_ a o ν) [it] it (λi h=>h.IsValIter it a i ↑ν ep) where
 mem:=by simp
 obj:=λi h st b hb=>by
  have e:b=it:=by simpa using hb
  subst e;obtain⟨o,e,c,d⟩:=st;exact⟨o,e,λv z=>by rw[d]at z;cases z⟩
 keep:=λi h h' st k=>by
  obtain⟨o,ho,r⟩:=st;exact⟨o,k it 0.6 o ho,r⟩
 item:=by
  intro X hP hw hK hc i π s σ H E I hf st hg;subst hP hw hK;obtain⟨f0,f1,f2,f3,f4,f5⟩:=hf it 0.6;obtain⟨hi,ha⟩:=hg;obtain⟨_,vs,r,dd⟩:=Iw (I.hok a _ ha) hd;obtain⟨p,hp⟩:∃ p,ν[i]?≈p:=⟨ν[i],by simp[hi]⟩;obtain⟨u,hu,ru⟩:=r.get hp;have hl:↑ν=↑vs:=Yp r;rw[hl]at st;refine wpAny_pyNext_values_item st dd hu λh' BW sb=>?_;have I1:Inv X π σ H {s with heap:=h' }:=I.turned (t':=s.toks) (λb o hb e=>(sb.2 b hb).trans e) f0 f1 f3 f4 f5;obtain⟨o',e,c,d⟩:=id BW;rw[<- hl]at BW;exact⟨u,Y,Mg (s:={s with heap:=h' }) e c d 0.1 ⟨p.2,H,I1,ru,⟨Y,p,hp,Y⟩,BW,λb hb=>(hf b hb).1⟩⟩
 done:=by
  intro X hP hw hK hc i π s σ H E I hf st hg;subst hP hw hK;obtain⟨f0,f1,f2,f3,f4,f5⟩:=hf it 0.6;obtain⟨hi,ha⟩:=hg;obtain⟨_,vs,r,dd⟩:=Iw (I.hok a _ ha) hd;have hl:↑ν=↑vs:=Yp r;rw[hl]at st;exact wpAny_pyNext_values_end (I.ok.hd hc) st dd (by simp;omega) λh' eb=>⟨Y,I.turned (t':=s.toks) (λb o hb e=>eb b o hb e) f0 f1 f3 f4 f5⟩
 self:=λ_ _ _ _ _ st h=>wpAny_pyIter_valiter st h
inductive ko(t:TS)(D:Cy)(σ:St)(H:Hp):Prop
 | mk:∀ a ν,H a≈(.dK ν)->(∀ o,t D σ (upd H a (.frz o (.dK ν))))->ko t D σ H
def R0{X:Cx}{sts:List Stmt}{t:TS}(h:Bc X sts t):Bc X sts (ko t):=by
 intro π s σ H D I q;obtain⟨a,ν,ha,q⟩:=q;obtain⟨o,ho⟩:∃ o,s.heap.get? a≈o:=by
  obtain⟨_,_,vs,_,o,_,_,e,_⟩:=I.hok a _ ha;exact⟨o,e⟩
 exact h π s σ _ D (I.freeze ha ho).1 (q o)
def We{P:ω}{w:World}{H:Hp}{h:Heap}{a:δ}{o:Obj}{ν:KL}(ok:BB P w H h a (.frz o (.dK ν))):∃ es ep,o.data=.dict es ep:=by
 obtain⟨ho,z,hs,vs,r,o',IY,IZ,h1,h2,h3,_⟩:=ok;rw[ho]at h1;cases h1;exact⟨IY,IZ,h3⟩
def rF{a:δ}{o:Obj}{ν:KL}:EW (ZD a o ν) (ν.map λp=>kV p.1) (λH=>H a≈(.frz o (.dK ν))) where
 go:=λi x H ok hx=>by
  have:=(Yu.mp hx).1;rw[Ya]at this;exact⟨this,ok⟩
 yld:=λi x H y H' ok hx h=>by
  obtain⟨e,p,hp,hy⟩:=h;rw[Ys,hp]at hx;exact⟨hy.trans (Bk hx),e⟩
 stop:=λH ok=>⟨by rw[Ya];exact Ye _,ok⟩
def rG{a:δ}{o:Obj}{ν:KL}:EW (Y_ a o ν) (ν.map λp=>p.2) (λH=>H a≈(.frz o (.dK ν))) where
 go:=λi x H ok hx=>by
  have:=(Yu.mp hx).1;rw[Ya]at this;exact⟨this,ok⟩
 yld:=λi x H y H' ok hx h=>by
  obtain⟨e,p,hp,hy⟩:=h;rw[Ys,hp]at hx;exact⟨hy.trans (Bk hx),e⟩
 stop:=λH ok=>⟨by rw[Ya];exact Ye _,ok⟩
section
variable {X:Cx}{tg:Expr}
inductive jA(R:It->Hp->Prop)(x:V)(H1:Hp):Prop
 | mk:∀ a o ν,x=.ref a->H1 a≈(.frz o (.dK ν))->R (ZD a o ν) H1->jA R x H1
def Ycf(tl:TE):TI:=λσ H R=>tl σ H λx H1=>jA R x H1
def xK{l:Expr}{tl:TE}(hl:PE X l tl):PI X tg l (Ycf tl):=by
 intro π s σ H R I h;refine AM (hl π s σ H _ I h) λv s1 ⟨x,H1,I1,r1,q1⟩=>?_;obtain⟨a,o,ν,e,ha,q⟩:=q1;subst e;cases r1;obtain⟨es,ep,hd⟩:=We (I1.hok a _ ha);obtain⟨hs,vs,r,dd⟩:=Iw (I1.hok a _ ha) hd;have hl:↑ν=↑vs:=Yp r;refine wpAny_pyIter_dict hs dd ?_;refine⟨⇑s1,[⇑s1],G,H1,Y,I1.kept (t':=s1.toks) λb o e=>Yb _ e,q_ a _ o ν es ep hd,⟨_,Yh _ rfl,Y,by rw[hl];rfl⟩,λb hb=>?_,q⟩;have e:b=⇑s1:=by simpa using hb
 subst e;exact I1.fpOk (Ye _) (I1.hok.fresh (Ye _))
end
theorem Ry:∀ {xs:LV}{us:LU},↑xs=↑us->(∀(i:Nat) (v:V) (u:ε),xs[i]?≈v->us[i]?≈u->Ae v u)->AX xs us
 | [],[],_,_=>.nil
 | [],_ :: _,h,_=>by simp at h
 | _ :: _,[],h,_=>by simp at h
 | x :: xs,u :: us,h,k=>.cons (k 0 x u rfl rfl) (Ry (by simpa using h) λi v w hv hw=>k (i + 1) v w (by simpa using hv) (by simpa using hw))
def dG{J:It}{xs:LV}{Ok:Hp->Prop}(R:EW J xs Ok){js:LN}{tt:TT}{te:TE}{σ:St}{Q:VK}{H1:Hp}(hz:↑xs<=sizeLine)(p:V->Bool)(F:δ->V->V->Hp->Prop)
  (hF:∀ D x v H H',(∀ b o,b≠D->H b≈o->H' b≈o)->F D x v H->F D x v H')
  (hok:∀ H,AA H1 H->Ok H)
  (ht:∀ x H (R:Bool->Hp->Prop),AA H1 H->x∈xs->(∀ H',AA H H'->R (p x) H')->tt (↥x :: js.map λj=>(σ[j]?).join) H R)
  (he:∀ D x H (R:V->Hp->Prop),AA H1 H->(∃ ys,H D≈(.lst ys))->H1 D=none->x∈xs->p x=true->(∀ v H',AA H H'->F D x v H'->R v H')->te (↥x :: js.map λj=>(σ[j]?).join) H R)
  (hd:∀ D H' ys,H1 D=none->AA H1 H'->H' D≈(.lst ys)->Paired (λx v=>F D x v H') (xs.filter p) ys->Q (.ref D) H'):
  AZ 1 js (Cz 0) tt te σ Q J H1:=by
 refine LG R hz (λD i ys σ' H=>H1 D=none/\AA H1 H/\H D≈(.lst ys)/\Paired (λx v=>F D x v H) ((xs.take i).filter p) ys/\∃ o,σ'=o :: js.map λj=>(σ[j]?).join) ?_ ?_ ?_ ?_
 ·intro D hD;exact⟨hD,λb o e=>by rw[AD (AK e hD)];exact e,uS,by simpa using Paired.nil,none,Y⟩
 ·rintro D i ys σ' H hi ⟨hD,hs,hl,hp,_⟩;refine⟨hok H hs,?_⟩;rw[<- ↑hp];exact BL (IJ _ _) (by rw[Yv];omega)
 ·rintro D i x ys σ' H hD hx ⟨_,hs,hl,hp,o,rfl⟩;show tt (↥x :: js.map λj=>(σ[j]?).join) H _;have hm:x∈xs:=Yd hx;refine ht x H _ hs hm λH4 s4=>?_;have Ga:AA H1 H4:=hs.trans s4;have mono:∀ {H H':Hp},(∀ b o,b≠D->H b≈o->H' b≈o)->Paired (λx v=>F D x v H) ((xs.take i).filter p) ys->Paired (λx v=>F D x v H') ((xs.take i).filter p) ys:=λh q=>Paired.mapP q λa b z=>hF D a b _ _ h z;cases hpx:p x with
  | true =>
   rw[if_pos rfl];refine he D x H4 _ Ga ⟨_,s4 _ _ hl⟩ hD hm hpx λv H5 s5 f5=>⟨s5 _ _ (s4 _ _ hl),hD,λb o e=>?_,uS,?_,Z⟩
   ·rw[AD (AK e hD)];exact s5 _ _ (Ga _ _ e)
   ·rw[take_succ_filter p xs i x hx,hpx,if_pos rfl];refine CH (mono (λb o hb e=>by rw[AD hb];exact s5 _ _ (s4 _ _ e)) hp) (hF D _ _ _ _ (λb o hb e=>by rw[AD hb];exact e) f5)
  | false =>
   rw[if_neg Yl];refine⟨hD,Ga,s4 _ _ hl,?_,Z⟩;rw[take_succ_filter p xs i x hx,hpx,if_neg Yl,EM];exact mono (λb o _ e=>s4 _ _ e) hp
 ·rintro D ys σ' H hD ⟨_,hs,hl,hp,_⟩;rw[Bt]at hp;exact hd D H ys hD hs hl hp
section
variable {X:Cx}
end
end L2
namespace Graph
variable {α:Type}[DecidableEq α]
inductive Reach(ups:α->List α):α->α->Prop
 | refl (a:α):Reach ups a a
 | step {a b c:α}:b∈ups a->Reach ups b c->Reach ups a c
def Reach.trans{ups:α->List α}{a b c:α}(h:Reach ups a b)(k:Reach ups b c):Reach ups a c:=by
 induction h with
 | refl=>exact k
 | step m _ ih=>exact .step m (ih k)
def Reach.one{ups:α->List α}{a b:α}(h:b∈ups a):Reach ups a b:=.step h (.refl b)
def Reach.snoc{ups:α->List α}{a b c:α}(h:Reach ups a b)(k:c∈ups b):Reach ups a c:=h.trans (.one k)
def Reach.rank{ups:α->List α}{rk:α->Nat}(hr:∀ a b,b∈ups a->rk b<rk a){a b:α}(h:Reach ups a b):rk b<=rk a:=by
 induction h with
 | refl=>exact Ye _
 | step m _ ih=>have:=hr _ _ m;omega
def Reach.rank_lt{ups:α->List α}{rk:α->Nat}(hr:∀ a b,b∈ups a->rk b<rk a){a b:α}(h:Reach ups a b)(B3:a≠b):rk b<rk a:=by
 cases h with
 | refl=>exact absurd rfl B3
 | step m k =>
  have h1:=hr _ _ m;have h2:=Reach.rank hr k;omega
def kept(ups:α->List α)(left:List α):List α:=left.filter λw=>(ups w).any λu=>decide (u∈left)
def kept_sub{ups:α->List α}{left:List α}{w:α}(h:w∈kept ups left):w∈left:=(IL.mp h).1
def kept_le(ups:α->List α)(left:List α):↑(kept ups left)<=↑left:=IJ _ _
theorem gU{p:α->Bool}:∀ {l:List α},↑(l.filter p)=↑l->l.filter p=l
 | [],_=>rfl
 | a :: r,h=>by
  have hle:=IJ p r;rw[List.filter_cons]at h ⊢;cases hp:p a with
  | true =>
   rw[hp,if_pos rfl,B_,B_]at h;rw[if_pos rfl,gU 0.0]
  | false =>
   rw[hp,if_neg Yl,B_]at h;omega
theorem dP(rk:α->Nat):∀(l:List α),l≠[]->∃ m,m∈l/\∀ x∈l,rk m<=rk x
 | [],h=>absurd rfl h
 | a :: r,_=>by
  by_cases hr:r=[]
  ·subst hr;exact⟨a,by simp,λx hx=>by simp at hx;subst hx;exact Ye _⟩
  ·obtain⟨m,hm,hx⟩:=dP rk r hr;by_cases hc:rk a<=rk m
   ·refine⟨a,by simp,λx Ei=>?_⟩
    rcases Yk.mp Ei with e | e
    ·subst e;exact Ye _
    ·exact BL hc (hx x e)
   ·refine⟨m,Yq _ hm,λx Ei=>?_⟩
    rcases Yk.mp Ei with e | e
    ·subst e;omega
    ·exact hx x e
def kept_nil{ups:α->List α}{left:List α}{rk:α->Nat}(hr:∀ a∈left,∀ b∈ups a,rk b<rk a)(h:↑(kept ups left)=↑left):left=[]:=by
 refine Tw λB3=>?_;obtain⟨m,hm,hx⟩:=dP rk left B3;have e:kept ups left=left:=gU h;rw[<- e]at hm;obtain⟨h1,h2⟩:=IL.mp hm;obtain⟨u,hu,hd⟩:=JL.mp h2;have hl:u∈left:=Je hd;have a:=hr m h1 u hu;have b:=hx u hl;omega
theorem nodup_le:∀ {l k:List α},l.Nodup->(∀ x∈l,x∈k)->↑l<=↑k
 | [],k,_,_=>BC _
 | a :: r,k,hn,hs=>by
  obtain⟨h1,h2⟩:=FT.mp hn;have ha:a∈k:=hs a 0.6;have:=nodup_le (k:=k.erase a) h2 λx hx=>(List.mem_erase_of_ne (λ(e:x=a)=>h1 (by rw[<- e];exact hx))).mpr (hs x (Yq _ hx));rw[List.length_erase_of_mem ha]at this;have hpos:0<↑k:=List.length_pos_of_mem ha;rw[B_];omega
def closed_reach{ups:α->List α}{S:α->Prop}(hc:∀ x,S x->∀ y∈ups x,S y){a b:α}(h:Reach ups a b)(ha:S a):S b:=by
 induction h with
 | refl=>exact ha
 | step m _ ih=>exact ih (hc _ ha _ m)
end Graph
namespace Md
open PySem L2
abbrev letters:Str:="abcdefghijklmnopqrstuvwxyz"
def Hy(c:Nat):Bool:=decide (97<=c/\c<=122)
def AR(x:Str):Bool:=decide (1<=↑x/\↑x<=8)&&x.cps.toList.all Hy
def SX:letters.cps.toList=[97,98,99,100,101,102,103,104,105,106,107,108,109,110,111,112,113,114,115,116,117,118,119,120,121,122]:=by rfl'
def rR{i:Nat}(h:i<26):letters.cps.toList[i]?≈(97 + i):=by
 rw[SX];have:∀ i:_root_.Fin 26,([97,98,99,100,101,102,103,104,105,106,107,108,109,110,111,112,113,114,115,116,117,118,119,120,121,122]:LN)[i.1]?≈(97 + i.1):=by decide
 exact this ⟨i,h⟩
def tE:letters.cps.toList=(List.range 26).map (97 + ·):=by rw[SX];rfl
def uu(c:Nat):(!(Builtin.Str.occurrences letters ⟨#[c]⟩ 0 letters.length 1).isEmpty)=Hy c:=by
 rw[StrLaws.found_one,tE];unfold Hy;rw[decide_eq_decide,Yg];constructor
 ·rintro⟨a,ha,rfl⟩;have:=List.mem_range.mp ha;omega
 ·intro h;exact⟨c - 97,List.mem_range.mpr 0.0,O⟩
def J0(x:Str):↑x.cps.toList=↑x:=by simp[Str.length]
def cI(c:Nat):↑(⟨#[c]⟩:Str)=1:=rfl
def cH(x y:Str):↑(x++y)=↑x + ↑y:=by
 show(x.cps++y.cps).size=_;rw[Array.size_append];rfl
def dC(x y:Str):(x++y).cps.toList=x.cps.toList++y.cps.toList:=by
 show(x.cps++y.cps).toList=_;rw[Px]
def Rw{x y:Str}(h:x.cps.toList=y.cps.toList):x=y:=by
 cases x;cases y
 congr 1
 exact Array.ext' h
def Xw:V->V
 | .str y=>.bl (!(Builtin.Str.occurrences letters y 0 letters.length 1).isEmpty)
 | _=>.non
def qx(x:Str):((Im x).filter λ_=>true).map Xw=(x.cps.toList.map Hy).map V.bl:=by
 rw[JG.mpr λ_ _=>rfl];unfold Im;rw[C5,C5];refine T9 λc _=>?_;show V.bl _=V.bl _;rw[uu]
def J8(x:Str):AR x=true↔(1<=↑x.cps.toList/\↑x.cps.toList<=8)/\∀ c∈x.cps.toList,Hy c=true:=by
 unfold AR;rw[Ed,decide_eq_true_eq,C6,J0]
def Ca{x:Str}(h:AR x=true):1<=↑x/\↑x<=8:=by
 have:=((J8 x).mp h).1
 rwa [J0]at this
def cz{x:Str}(h:AR x=true):PyData.strOk x=true:=by
 unfold PyData.strOk;rw[Array.all_eq_true'];intro c hc;have:=((J8 x).mp h).2 c (by simpa using hc);have:=Je this;exact Jb 0.0
def Dk(n:Nat):LN:=(97 + n % 26):: (if h:n / 26=0 then[]else Dk (n / 26))
termination_by n
decreasing_by omega
def ND(n:Nat):Dk n=(97 + n % 26):: (if n / 26=0 then[]else Dk (n / 26)):=by
 rw[Dk];by_cases h:n / 26=0
 ·rw[dif_pos h,if_pos h]
 ·rw[dif_neg h,if_neg h]
theorem Xj:∀(k n:Nat),n<26 ^ (k + 1)->↑(Dk n)<=k + 1
 | 0,n,h=>by
  rw[ND,if_pos (by have:n<26:=h;omega)];exact Ye _
 | k + 1,n,h=>by
  rw[ND];by_cases h0:n / 26=0
  ·rw[if_pos h0];simp
  ·rw[if_neg h0,B_];have:=Xj k (n / 26) (Nat.div_lt_of_lt_mul (by rw[Nat.pow_succ]at h;omega));omega
def tY(n:Nat):∀ c∈Dk n,Hy c=true:=by
 induction n using Nat.strongRecOn with
 | ind n ih =>
  rw[ND];intro c hc
  rcases Yk.mp hc with e | hc
  ·rw[e];exact Jb 0.0
  ·by_cases h0:n / 26=0
   ·rw[if_pos h0]at hc;cases hc
   ·rw[if_neg h0]at hc;exact ih (n / 26) 0.0 c hc
def Pw:LN->Nat
 | []=>0
 | c :: r=>(c - 97) + 26 * Pw r
def tf(n:Nat):Pw (Dk n)=n:=by
 induction n using Nat.strongRecOn with
 | ind n ih =>
  rw[ND];unfold Pw;by_cases h0:n / 26=0
  ·rw[if_pos h0];unfold Pw;omega
  ·rw[if_neg h0,ih (n / 26) 0.0];omega
def Ew(n:Nat):Str:=⟨(Dk n).toArray⟩
def Xg(n:Nat):(Ew n).cps.toList=Dk n:=by simp[Ew]
def tj{a b:Nat}(h:Ew a=Ew b):a=b:=by
 have:=congrArg (λs:Str=>Pw s.cps.toList) h;simpa[Xg,tf]using this
def tZ(n:Nat):1<=↑(Dk n):=by rw[ND];simp
def Xh{n:Nat}(h:n<26 ^ 8):AR (Ew n)=true:=by
 rw[J8,Xg];exact⟨⟨tZ n,Xj 7 n h⟩,tY n⟩
def xx(j:Int)(n:Nat)(h:0<=j):Builtin.Str.strSliceIndices none (↥j) 1 n=List.range (min j.toNat n):=by
 unfold Builtin.Str.strSliceIndices sliceRange;have h1:¬ j<0:=by omega
 simp only[show(1:Int) > 0 by decide,if_true,if_neg h1];have e:(max (0:Int) (min j (n:Int)))=((min j.toNat n:Nat):Int):=by omega
 rw[e];have e2:(if(0:Int)<((min j.toNat n:Nat):Int)then(((min j.toNat n:Nat):Int) - 0 + 1 - 1) / 1 else 0)=((min j.toNat n:Nat):Int):=by
  split
  ·rw[Int.ediv_one];omega
  ·omega
 rw[e2,GQ];have:∀ l:LN,l.map (λ(k:Nat)=>((0:Int) + 1 * (k:Int)).toNat)=l:=λl=>by
  conv=>rhs;rw[<- List.map_id l]
  refine T9 λk _=>?_;show _=k;omega
 exact this _
theorem g_(l:LN):∀ m,m<=↑l->(List.range m).filterMap (λi=>l.toArray[i]?)=l.take m
 | 0,_=>by simp
 | m + 1,h=>by
  rw[List.range_succ,List.filterMap_append,g_ l m 0.0,Bu];have:m<↑l:=h;simp[this]
def gZ(x:Str)(j:Int)(h:0<=j):(Txt.slice x none (↥j)).cps.toList=x.cps.toList.take j.toNat:=by
 unfold Txt.slice;rw[xx j ↑x h];have hl:=J0 x;split
 ·rename_i hc
  have:min j.toNat ↑x=↑x:=by simpa using hc
  rw[KD 0.0]
 ·have q:=g_ x.cps.toList (min j.toNat ↑x) 0.0;have e:x.cps.toList.toArray=x.cps:=by simp
  rw[e]at q;show((List.range (min j.toNat ↑x)).filterMap (x.cps[·]?)).toArray.toList=_;rw[List.toList_toArray,q];by_cases hj:j.toNat<=↑x
  ·rw[Na hj]
  ·rw[Nat.min_eq_right 0.0,KD 0.0,KD 0.0]
def FI(o:HO):Prop:=∃ r b:Int,o=.lst [.int r,.int b]/\0<=r/\r<10 ^ 256/\0<=b/\b<2147483647
structure Drawn(p:δ)(H H':Hp):Prop where
 keep:∀ b o,b≠p->H b≈o->H' b≈o
 pot:∃ o,H' p≈o/\FI o
def Drawn.refl{p:δ}{H:Hp}(h:∃ o,H p≈o/\FI o):Drawn p H H:=⟨λ_ _ _ e=>e,h⟩
def Drawn.trans{p:δ}{H H1 H2:Hp}(a:Drawn p H H1)(b:Drawn p H1 H2):Drawn p H H2:=⟨λc o hc e=>b.keep c o hc (a.keep c o hc e),b.pot⟩
theorem Drawn.upd{p:δ}{H:Hp}{o:HO}(h:FI o):Drawn p H (L2.upd H p o):=⟨λb u hb e=>by rw[AD hb];exact e,_,uS,h⟩
def Drawn.new{p q:δ}{H H':Hp}{o:HO}(d:Drawn p H H')(hq:H' q=none):Drawn p H (L2.upd H' q o):=
 ⟨λb u hb e=>by rw[AD (AK (d.keep b u hb e) hq)];exact d.keep b u hb e,by
  obtain⟨u,h1,h2⟩:=d.pot;exact⟨u,by rw[AD (AK h1 hq)];exact h1,h2⟩⟩
def Drawn.same{p:δ}{H H1 H2:Hp}(d:Drawn p H H1)(s:AA H1 H2):Drawn p H H2 :=
 ⟨λb u hb e=>s _ _ (d.keep b u hb e),by obtain⟨u,h1,h2⟩:=d.pot;exact⟨u,s _ _ h1,h2⟩⟩
def Drawn.sub{p q:δ}{H H1 H2:Hp}{o':HO}(d:Drawn p H H1)(k:∀ b o,b≠q->H1 b≈o->H2 b≈o)(hq:H q=none)(hp:p≠q):Drawn p H H2 :=
 ⟨λb u hb e=>k _ _ (AK e hq) (d.keep b u hb e),by obtain⟨u,h1,h2⟩:=d.pot;exact⟨u,k _ _ hp h1,h2⟩⟩
def _root_.L2.SqL.mono_new{K:Fg}{H:Hp}{a q:δ}{xs:LV}{o:HO}(h:SqL K H a xs)(hq:H q=none):SqL K (L2.upd H q o) a xs :=
 AA.seq (λb u e=>by rw[AD (AK e hq)];exact e) h
def B0{n:Nat}(h:n<=100000):n<sizeLine:=by rw[sizeLine_eq];omega
def Ou:μ->Option (LS)
 | []=>↥[]
 | .Constant (.str x) _ _ :: r=>(Ou r).map (x :: ·)
 | _=>none
def qf{X:Cx}:∀ {es:μ}{ws:LS},Ou es≈ws->PA X es (λ_ H Q=>Q 1.1 H):=by
 intro es
 induction es with
 | nil =>
  intro ws h;have e:ws=[]:=(Bk h).symm;subst e;exact AB
 | cons e r ih =>
  intro ws h;cases e with
  | Constant c j p =>
   cases c with
   | str x =>
    have h':(Ou r).map (x :: ·)≈ws:=h;obtain⟨vs,h1,h2⟩:=E3.mp h';subst h2;exact pC Ah (ih h1) rfl
   | _=>exact nomatch (show(none:Option (LS))≈ws from h)
  | _=>exact nomatch (show(none:Option (LS))≈ws from h)
theorem Io(x:Str):∀ ws:LS,Bw (.str x) 1.1=decide (x∈ws)
 | []=>rfl
 | w :: r=>by
  have ih:=Io x r;unfold Bw at ih ⊢;rw[Yy,KG,ih];show((w == x) || decide (x∈r))=decide (x∈w :: r);rw[IK];simp only[Bool.or_eq_true,beq_iff_eq,decide_eq_true_eq,Yk];constructor
  ·rintro(h | h)
   ·exact .inl h.symm
   ·exact .inr h
  ·rintro(h | h)
   ·exact .inl h.symm
   ·exact .inr h
def NA(ws:LS):(ws.map V.str).all Ie=true:=by
 rw[C6];intro v hv;obtain⟨w,_,e⟩:=Yg.mp hv;rw[<- e];rfl
theorem J4{K:Fg}{H:Hp}:∀ ws:LS,A7 K H 1.1 (ws.map PySem.W.Dat.str)
 | []=>.nil
 | w :: r=>.cons (.str w) (J4 r)
abbrev Row:=Str×LS
def J9(H:Hp)(r:Str×LS)(v:V):Prop:=∃ t u,v=.ref t/\H t≈(.tup [.str r.1,.ref u])/\H u≈(.tup (r.2.map V.str))
def FQ(H:Hp)(l:δ)(ρ:RS):Prop:=∃ vs,H l≈(.lst vs)/\Paired (J9 H) ρ vs
structure Ak(ρ:RS):Prop where
 ne:1<=↑ρ
 le:↑ρ<=24
 word:∀ r∈ρ,AR r.1=true
 nd:(ρ.map 0.8).Nodup
 few:∀ r∈ρ,↑r.2<=8
 known:∀ r∈ρ,∀ u∈r.2,u∈ρ.map 0.8
 upnd:∀ r∈ρ,r.2.Nodup
 rank:∃ rk:Str->Nat,∀ r∈ρ,∀ u∈r.2,rk u<rk r.1
end Md
namespace L2
open PySem PySem.Spec PyProof.Rows
section
variable {X:Cx}{tg:Expr}
def Cr(K:Fg)(b:Bool)(H:Hp)(a:δ)(xs:LV):Prop:=if b=true then SqL K H a xs else AG K H a xs
def Cr.mono{K:Fg}{b:Bool}{H H':Hp}{a:δ}{xs:LV}(h:Cr K b H a xs)(s:AA H H'):Cr K b H' a xs:=by
 cases b with
 | true=>exact s.seq (show SqL K H a xs from h)
 | false=>exact s.tup (show AG K H a xs from h)
def UQ(K:Fg)(b:Bool)(a:δ)(xs:LV):It:=⟨λi H=>i<↑xs/\Cr K b H a xs,λi H x H'=>H'=H/\xs[i]?≈x,λi H=>↑xs<=i/\Cr K b H a xs⟩
def LD{K:Fg}{b:Bool}{a:δ}{xs:LV}:EW (UQ K b a xs) xs (λH=>Cr K b H a xs) where
 go:=λi x H ok hx=>⟨(Yu.mp hx).1,ok⟩
 yld:=λi x H y H' ok hx h=>by
  obtain⟨e,h⟩:=h;rw[hx]at h;exact⟨(Bk h).symm,e⟩
 stop:=λH ok=>⟨Ye _,ok⟩
def FD.imp{P:ω}{w:World}{K:Fg}{tg:Expr}{J J':It}{fp:ζ}{it:δ}{tn:Nat->Heap->Prop}(T:FD P w K tg J fp it tn)(hgo:∀ i H,J'.go i H->J.go i H)
  (hy:∀ i H x H',J'.go i H->J.yld i H x H'->J'.yld i H x H') (hs:∀ i H,J'.stop i H->J.stop i H):FD P w K tg J' fp it tn where
 mem:=T.mem
 obj:=T.obj
 keep:=T.keep
 item:=λX h1 h2 h3 h4 i π s σ H E I hf st g=>AM (T.item X h1 h2 h3 h4 i π s σ H E I hf st (hgo i H g)) λr s1 ⟨u,e,h⟩=>⟨u,e,AM h λ_ s2 ⟨x,H',I',r',y,t,f⟩=>⟨x,H',I',r',hy i H x H' g y,t,f⟩⟩
 done:=λX h1 h2 h3 h4 i π s σ H E I hf st g=>T.done X h1 h2 h3 h4 i π s σ H E I hf st (hs i H g)
 self:=T.self
inductive iE(K:Fg)(R:It->Hp->Prop)(x:V)(H1:Hp):Prop
 | mk:∀ b a xs,x=.ref a->Cr K b H1 a xs->R (UQ K b a xs) H1->iE K R x H1
def zR(K:Fg)(tl:TE):TI:=λσ H R=>tl σ H λx H1=>iE K R x H1
def K9{l:Expr}{tl:TE}(hl:PE X l tl):PI X tg l (zR X.K tl):=by
 intro π s σ H R I h;refine AM (hl π s σ H _ I h) λv s1 ⟨x,H1,I1,r1,q1⟩=>?_;obtain⟨b,a,xs,e,hq,q⟩:=q1;subst e;cases r1;have fp:∀ b∈[⇑s1],Cv X π H1 b:=λb hb=>by
  have e:b=⇑s1:=by simpa using hb
  subst e;exact I1.fpOk (Ye _) (I1.hok.fresh (Ye _))
 have get:∀ {i:Nat} {ys:LV},i<↑ys->∃ y,ys[i]?≈y:=λ{i ys} h=>⟨ys[i],by simp[h]⟩;cases b with
 | true =>
  have hq:SqL X.K H1 a xs:=hq;obtain⟨ψ,rv,p,hz⟩:=I1.list hq;refine wpAny_pyIter_list p.isList ?_;refine⟨⇑s1,[⇑s1],_,UQ X.K true a xs,H1,Y,I1.kept (t':=s1.toks) λb o e=>Yb _ e,(gG a _).imp (λi H g=>?_) (λi H x H' g y=>⟨y.1,y.2 xs g.2⟩) (λi H g=>⟨xs,g.2,g.1⟩),⟨_,Yh _ rfl,Y,Y⟩,fp,q⟩;obtain⟨y,hy⟩:=get g.1;exact⟨xs,y,g.2,hy⟩
 | false =>
  have hq:AG X.K H1 a xs:=hq;obtain⟨ψ,rv,p,hz⟩:=I1.tuple hq;refine wpAny_pyIter_tuple (show s1.heap.IsTuple a ψ.toArray from p) ?_;refine⟨⇑s1,[⇑s1],_,UQ X.K false a xs,H1,Y,I1.kept (t':=s1.toks) λb o e=>Yb _ e,(gb a _).imp (λi H g=>?_) (λi H x H' g y=>⟨y.1,y.2 xs g.2⟩) (λi H g=>⟨xs,g.2,g.1⟩),⟨_,Yh _ rfl,Y,Y⟩,fp,q⟩;obtain⟨y,hy⟩:=get g.1;exact⟨xs,y,g.2,hy⟩
inductive jD(R:It->Hp->Prop)(x:V)(H1:Hp):Prop
 | mk:∀ a ob ν,x=.ref a->H1 a≈(.frz ob (.dK ν))->R (Y_ a ob ν) H1->jD R x H1
def Ycc(to:TE):TI:=λσ H R=>to σ H λx H1=>jD R x H1
def xM{o:Expr}{to:TE}{apos Ac:Pos}(ho:PE X o to)(Ba:attributeBase o "values" X.env (eval o X.env)=eval o X.env:=by rfl)(BZ:(apos.endLine == Ac.line)=true:=by rfl):
  PI X tg (.Call (.Attribute o "values" apos) [] [] Ac) (Ycc to):=by
 intro π s σ H R I h;refine wpAny_Call_method0_late Ba BZ (AM (ho π s σ H _ I h) λv s1 ⟨x,H1,I1,r1,q1⟩=>?_);obtain⟨a,ob,ν,e,ha,q⟩:=q1;subst e;obtain rfl:v=Value.ref a:=r1;obtain⟨t1,t2,t3⟩:=Rj I1 (.inl ⟨ν,.inr ⟨ob,ha⟩⟩);obtain⟨es,ep,hd⟩:=We (I1.hok a _ ha);obtain⟨hs,vs,r,dd⟩:=Iw (I1.hok a _ ha) hd;have hl:↑ν=↑vs:=Yp r;refine⟨"dict","dict.values",Tq,PySem.F.slot_dict_values,PySem.F.type_dict_values,t1,t2,NT rfl (Pz ?_)⟩;refine call_meetsIn PySem.F.slot_dict_values t1 PySem.F.entry_dict_values (PySem.F.args_dict_values_1 _) (meets_dict_values (Bp X.prog X.w) a t3) ⟨⟨vs,dd.dictOf⟩,?_⟩;have I2:Inv X π σ H1 {s1 with heap:=s1.heap.push {cls:=.type "dict_values",data:=.fields #[.ref a] } }:=I1.kept (t':=s1.toks) λb o e=>Yb _ e;refine wpAny_pyIter_values (kvs:=vs) (ep:=ep) (knd:=Bp X.prog X.w) ⟨_,Yh _ rfl,Y,Y⟩ (dd.at' λo e=>Yb _ e) ?_;refine⟨_,[_],G,H1,Y,I2.kept (t':=s1.toks) λb o e=>Yb _ e,rA a _ ob ν es ep hd,⟨_,Yh _ rfl,Y,by rw[hl];rfl⟩,λb hb=>?_,q⟩;have e:b=_:=Yc.mp hb;subst e;exact I2.fpOk (Ye _) (I2.hok.fresh (Ye _))
def uR(hc:X.calm=true):EG X (.type "list") (λxs H Q=>∃ a ν,xs=[.ref a]/\Rd H a (.dK ν)/\∀ l,H l=none->Q (.ref l) (upd H l (.lst (ν.map λp=>kV p.1)))):=by
 intro π s σ H xs us Q I r h;obtain⟨a,ν,rfl,ha,q⟩:=h;obtain⟨u,rfl,ru⟩:=Fm r;cases ru;obtain⟨hz,hs,vs,rv,o,es,ep,h1,h2,h3,h4,h5,h6⟩:=Jt I.hok ha;have hl:↑ν=↑vs:=Yp rv;have dd:s.heap.DictAt (Bp X.prog X.w) a vs ep:=⟨o,es,h1,h2,h3,h4,h5,h6⟩;refine W.kdl_call (W.kdl_dict (knd:=Bp X.prog X.w) (kvs:=vs) (ep:=ep) hs) (I.ok.hd hc) dd (by rw[<- hl];exact hz) λh' tk L_ c' hk IW CJ=>?_;obtain⟨a1,a2⟩:=CJ;refine⟨.ref _,_,I.laid (o:=.lst (ν.map λp=>kV p.1)) hk (Ye _) ⟨by rw[Ya];exact hz,L_.toList,c',?_,by simpa using IW⟩,Y,q _ (I.hok.fresh (Ye _))⟩;refine Ry (by have z:↑L_.toList=L_.size:=LZ;rw[Ya];omega) λi v u hv hu=>?_;rw[Ys]at hv;obtain⟨p,hp,e⟩:=E3.mp hv;obtain⟨w',hw,_⟩:=rv.get hp;obtain⟨k,x,Dr,OB⟩:=a2 i u (by rw[<- Array.getElem?_toList];exact hu);rw[hw]at Dr;injection Dr with Dr;injection Dr with Dr _;rw[<- e,Dr];exact Rf OB
def Bl.f{H:Hp}{a:δ}{o:Obj}{ν:KL}{k:Key}(e:H a≈(.frz o (.dK ν))):Bl H a (kV k) (BE ν k):=.inl ⟨ν,k,.inr ⟨o,e⟩,Y,Y⟩
end
end L2
namespace Md
open PySem L2
def LO(K:Fg)(H:Hp)(u:δ)(us:LS):Prop:=H u≈(.tup (us.map V.str))\/SqL K H u (us.map V.str)
def LO.sq{K:Fg}{H:Hp}{u:δ}{us:LS}(h:LO K H u us):∃ b,Cr K b H u (us.map V.str):=by
 rcases h with h | h
 ·exact⟨false,AG.of h⟩
 ·exact⟨true,h⟩
def Pr(K:Fg)(H:Hp)(r:Str×LS)(v:V):Prop:=∃ t u,v=.ref t/\AG K H t [.str r.1,.ref u]/\LO K H u r.2
def Jr(K:Fg)(H:Hp)(l:δ)(ρ:RS):Prop:=∃ b vs,Cr K b H l vs/\Paired (Pr K H) ρ vs
def LO.mono{K:Fg}{H H':Hp}{u:δ}{us:LS}(h:LO K H u us)(s:AA H H'):LO K H' u us:=h.elim (λx=>.inl (s _ _ x)) λx=>.inr (s.seq x)
theorem Pr.mono{K:Fg}{H H':Hp}{r:Str×LS}{v:V}(h:Pr K H r v)(s:AA H H'):Pr K H' r v:=let⟨t,u,e,a,b⟩:=h;⟨t,u,e,s.tup a,b.mono s⟩
theorem Jr.mono{K:Fg}{H H':Hp}{l:δ}{ρ:RS}(h:Jr K H l ρ)(s:AA H H'):Jr K H' l ρ:=let⟨b,vs,a,p⟩:=h;⟨b,vs,a.mono s,Paired.mapP p λ_ _ z=>z.mono s⟩
def FQ.g{K:Fg}{H:Hp}{l:δ}{ρ:RS}(h:FQ H l ρ):Jr K H l ρ:=by
 obtain⟨vs,a,p⟩:=h;refine⟨true,vs,SqL.of a,Paired.mapP p λr v z=>?_⟩;obtain⟨t,u,e,h1,h2⟩:=z;exact⟨t,u,e,AG.of h1,.inl h2⟩
theorem Bi{α β:Type}{F:α->β->Prop}:∀ {l:List α}{k:List β},Paired F l k->∀ {i:Nat}{b:β},k[i]?≈b->∃ a,l[i]?≈a/\F a b
 | _,_,.nil,i,b,h=>by simp at h
 | _,_,.cons r t,0,b,h=>by simp at h;subst h;exact⟨Z,r⟩
 | _,_,.cons r t,i + 1,b,h=>by
  obtain⟨a,h1,h2⟩:=Bi t (i:=i) (b:=b) (by simpa using h);exact⟨a,by simpa using h1,h2⟩
def Gu{ν:KL}{k:Key}(h:k∉ν.map 0.8):BE ν k=none:=by
 cases e:BE ν k with
 | none=>rfl
 | some v=>exact absurd (cu e) h
def Wx{ν:KL}{k:Key}{v:V}(h:k∉ν.map 0.8):(Au ν k v).map 0.8=ν.map 0.8++[k]:=by
 rw[LC v (Gu h),Br];rfl
def PR{ρ:RS}{i:Nat}{r:Str×LS}(nd:(ρ.map 0.8).Nodup)(h:ρ[i]?≈r):(Sum.inr r.1:Key)∉(ρ.take i).map λr=>(Sum.inr r.1:Key):=by
 intro m;obtain⟨q,hq,e⟩:=Yg.mp m;have e:q.1=r.1:=by injection e
 obtain⟨j,hj,ej⟩:=Tt.mp hq;rw[Yv]at hj;have nY:ρ[j]?≈q:=by
  rw[List.getElem_take]at ej;rw[Yi 0.0,ej]
 have a:(ρ.map 0.8)[j]?≈r.1:=by rw[Ys,nY,<- e];rfl
 have b:(ρ.map 0.8)[i]?≈r.1:=by rw[Ys,h];rfl
 have:=O5 nd a b;omega
def Dx(H:Hp)(ρ:RS)(ν:KL):Prop:=Paired (λr (p:Key×V)=>p.1=Sum.inr r.1/\∃ t,p.2=.ref t/\H t≈(.tup (r.2.map V.str))) ρ ν
def Dx.mono{H H':Hp}{ρ:RS}{ν:KL}(h:Dx H ρ ν)(s:∀ b xs,H b≈(.tup xs)->H' b≈(.tup xs)):Dx H' ρ ν :=
 Paired.mapP h λ_ _ z=>⟨z.1,let⟨t,e,x⟩:=z.2;⟨t,e,s _ _ x⟩⟩
theorem Dx.keys:∀ {H:Hp}{ρ:RS}{ν:KL},Dx H ρ ν->ν.map 0.8=ρ.map λr=>(Sum.inr r.1:Key)
 | _,_,_,.nil=>rfl
 | _,_,_,.cons r t=>by rw[Yy,Yy,r.1,Dx.keys t]
def Ax(ρ:RS)(x:Str):LS:=(ρ.lookup x).getD []
def Iy{ρ:RS}(nd:(ρ.map 0.8).Nodup){r:Str×LS}(h:r∈ρ):Ax ρ r.1=r.2:=by
 unfold Ax
 induction ρ with
 | nil=>cases h
 | cons q rs ih =>
  have GY:(q.1 :: rs.map 0.8).Nodup:=nd;obtain⟨n1,n2⟩:=FT.mp GY;obtain⟨a,b⟩:=q;rw[CQ]
  rcases Yk.mp h with e | h
  ·subst e;simp
  ·have ne:(r.1 == a)=false:=by
    rw[beq_eq_false_iff_ne];intro e;exact n1 (Yg.mpr ⟨r,h,e⟩)
   rw[ne];exact ih n2 h
theorem Dx.val:∀ {H:Hp}{ρ:RS}{ν:KL},Dx H ρ ν->(ρ.map 0.8).Nodup->∀ {r:Str×LS},r∈ρ->∃ t,BE ν (Sum.inr r.1)≈(.ref t)/\H t≈(.tup (r.2.map V.str))
 | _,_,_,.nil,_,r,h=>nomatch h
 | _,q :: rs,p :: ps,.cons z t,nd,r,h=>by
  have GY:(q.1 :: rs.map 0.8).Nodup:=nd;obtain⟨n1,n2⟩:=FT.mp GY;obtain⟨z1,u,z2,z3⟩:=z
  rcases Yk.mp h with e | h
  ·subst e;exact⟨u,by rw[Ey z1,z2],z3⟩
  ·have ne:¬ p.1=(Sum.inr r.1:Key):=λe=>n1 (by
    rw[z1]at e;have e':q.1=r.1:=by injection e
    rw[e'];exact Yg.mpr ⟨r,h,Y⟩)
   obtain⟨u',h1,h2⟩:=Dx.val t n2 h;exact⟨u',by rw[Ex ne];exact h1,h2⟩
def Ycb{H:Hp}{ρ:RS}{ν:KL}(h:Dx H ρ ν):(ν.map λp=>kV p.1)=(ρ.map 0.8).map V.str:=by
 have e:(ν.map λp=>kV p.1)=(ν.map 0.8).map kV:=by rw[C5];rfl
 rw[e,h.keys,C5,C5];rfl
end Md
namespace L2
open PySem PySem.Spec PyProof.Rows
section
variable {X:Cx}{π:PL}{σ:St}{H H':Hp}{s:χ}{h':Heap}
def Inv.laidMany{t':Nat}(I:Inv X π σ H s)(k:∀ b u,s.heap.get? b≈u->h'.get? b≈u)(agree:∀ b,b<⇑s->H' b=H b)
  (hok:∀ b o,⇑s<=b->H' b≈o->BB X.prog X.w H' h' b o):Inv X π σ H' {s with heap:=h',toks:=t' }:=by
 have low:∀ {b:δ} {o:HO},H b≈o->H' b≈o:=λ{b o} e=>by rw[agree b (I.hok.lt e)];exact e
 refine I.un ⟨λb o e _ _ _=>k b o e,λb o e _ _ _=>⟨o.slots,k b o e⟩,λb o e n _=>by rw[agree b (Yf e)];exact n,λb o e _=>⟨o,k b o e⟩,λb xs e=>low e,λb o u e=>low e,λb ps e=>⟨#[],by rw[low e];simp⟩⟩ λb o e=>?_;by_cases hb:b<⇑s
 ·have e':=e;rw[agree b hb]at e';exact(I.hok b o e').stay (λc v _ q=>k c v q) (λc q=>low q) λc xs q=>low q
 ·exact hok b o (Nat.le_of_not_lt hb) e
theorem XR{α β:Type}[BEq α][LawfulBEq α]:∀ {as:List α}{ks:List β}{a:α}{i:Nat}{k:β},as.Nodup->as[i]?≈a->ks[i]?≈k->(as.zip ks).lookup a≈k
 | [],_,_,_,_,_,h,_=>by simp at h
 | _ :: _,[],_,_,_,_,_,h=>by simp at h
 | x :: as,y :: ks,a,0,k,_,h1,h2=>by
  simp at h1 h2;subst h1;subst h2;simp
 | x :: as,y :: ks,a,i + 1,k,nd,h1,h2=>by
  obtain⟨n1,n2⟩:=FT.mp nd;have Jo:as[i]?≈a:=by simpa using h1
  have ne:(a == x)=false:=by
   rw[beq_eq_false_iff_ne];intro e;exact n1 (e ▸ Yd Jo)
  rw[List.zip_cons_cons,CQ,ne];exact XR n2 Jo (by simpa using h2)
theorem Po{α β:Type}[BEq α][LawfulBEq α]:∀ {as:List α}{ks:List β}{a:α}{k:β},(as.zip ks).lookup a≈k->∃ i:Nat,as[i]?≈a/\ks[i]?≈k
 | [],_,_,_,h=>by simp at h
 | _ :: _,[],_,_,h=>by simp at h
 | x :: as,y :: ks,a,k,h=>by
  rw[List.zip_cons_cons,CQ]at h;cases e:(a == x)with
  | true =>
   rw[e]at h;have e':a=x:=by simpa using e
   subst e';exact⟨0,Y,h⟩
  | false =>
   rw[e]at h;obtain⟨i,h1,h2⟩:=Po h;exact⟨i + 1,by simpa using h1,by simpa using h2⟩
theorem Sb{α β:Type}{F:α->β->Prop}:∀ {l:List α}{k:List β},↑l=↑k->(∀(i:Nat) (a:α) (b:β),l[i]?≈a->k[i]?≈b->F a b)->Paired F l k
 | [],[],_,_=>.nil
 | [],_ :: _,h,_=>by simp at h
 | _ :: _,[],h,_=>by simp at h
 | a :: l,b :: k,h,f=>.cons (f 0 a b rfl rfl) (Sb (by simpa using h) λi x y hx hy=>f (i + 1) x y (by simpa using hx) (by simpa using hy))
def tm{o:Expr}{to:TE}{p1 apos Ac Ll:Pos}(hc:X.calm=true)(ho:PE X o to)(U4:Gl X "list")(N_:X.mg "list"=none)
  (Ba:attributeBase o "items" X.env (eval o X.env)=eval o X.env:=by rfl) (BZ:(apos.endLine == Ac.line)=true:=by rfl)
  (Ha:starEach [.Call (.Attribute o "items" apos) [] [] Ac] X.env=[(false,eval (.Call (.Attribute o "items" apos) [] [] Ac) X.env)]:=by rfl):
  PE X (.Call (.Name "list" p1) [.Call (.Attribute o "items" apos) [] [] Ac] [] Ll) (λσ H Q=>to σ H λx H1=>∃ a ν,x=.ref a/\Rd H1 a (.dK ν) /\
   ∀ l H' vs,H1 l=none->AA H1 H'->H' l≈(.lst vs)->Paired (λ(kv:Key×V) v=>∃ t,v=.ref t/\H' t≈(.tup [kV kv.1,kv.2])) ν vs->Q (.ref l) H'):=by
 ac_rfl;refine wpAny_Call_Name_kw (Il I U4 N_ P8 ?_ 0.1 0.1);refine La ?_ Ha rfl;refine Calls.spliced_cons ?_;refine wpAny_Call_method0_late Ba BZ (AM (ho π s σ H _ I h) λv s1 ⟨x,H1,I1,r1,q1⟩=>?_);obtain⟨a,ν,e,ha,q⟩:=q1;subst e;obtain rfl:v=Value.ref a:=r1;obtain⟨t1,t2,t3⟩:=Rj I1 (.inl ⟨ν,ha⟩);obtain⟨hz,hs,us,rv,ob,es,ep,h1,h2,h3,h4,h5,h6⟩:=Jt I1.hok ha;have hl:↑ν=↑us:=Yp rv;have dd:s1.heap.DictAt (Bp X.prog X.w) a us ep:=⟨ob,es,h1,h2,h3,h4,h5,h6⟩;refine⟨"dict","dict.items",Tq,NV,YB,t1,t2,NT rfl (Pz ?_)⟩;refine call_meetsIn NV t1 YF (YJ _) (meets_dict_items (Bp X.prog X.w) a t3) ⟨⟨us,dd.dictOf⟩,Calls.spliced_nil ?_⟩;have I2:Inv X π σ H1 {s1 with heap:=s1.heap.push {cls:=.type "dict_items",data:=.fields #[.ref a] } }:=I1.kept (t':=s1.toks) λb o e=>Yb _ e;refine W.kdx_call (knd:=Bp X.prog X.w) (kvs:=us) (ep:=ep) (d:=a) (I1.ok.hd hc) ⟨_,Yh _ rfl,Y,Y⟩ (dd.at' λo e=>Yb _ e) (by rw[<- hl];exact hz) λh' tk acc c as hk IW hal hG CJ=>?_;generalize hsz:(s1.heap.push {cls:=.type "dict_items",data:=.fields #[.ref a] }).objs.size=L at IW hG;have ndas:as.Nodup:=List.nodup_iff_pairwise_ne.mpr (hG.rise.imp λh=>Yt h);have OL:∀ b,b<L->(λb=>if b=L then ↥(HO.lst (as.map V.ref))else match (as.zip ν).lookup b with | some kv=>↥(HO.tup [kV kv.1,kv.2]) | none=>H1 b:Hp) b=H1 b:=λb hb=>by
  show(if b=L then _ else _)=_;rw[if_neg (Yt hb)];cases e:(as.zip ν).lookup b with
  | none=>rfl
  | some kv =>
   obtain⟨i,h1,_⟩:=Po e;have:=hG.above b (Yd h1);exact absurd (GV hb this) (Fu _)
 have at_:∀(i:Nat) (b:δ),as[i]?≈b->∃ kv:Key×V,ν[i]?≈kv/\(λb=>if b=L then ↥(HO.lst (as.map V.ref))else match (as.zip ν).lookup b with | some kv=>↥(HO.tup [kV kv.1,kv.2]) | none=>H1 b:Hp) b≈(.tup [kV kv.1,kv.2]):=λi b hi=>by
  have A2:i<↑ν:=by
   have:=(Yu.mp hi).1;omega
  refine⟨ν[i],by simp[A2],?_⟩;show(if b=L then _ else _)=_;rw[if_neg (Bq (hG.above b (Yd hi))),XR ndas hi (show ν[i]?≈ν[i] by simp[A2])]
 have I3:Inv X π σ (λb=>if b=L then ↥(HO.lst (as.map V.ref))else match (as.zip ν).lookup b with | some kv=>↥(HO.tup [kV kv.1,kv.2]) | none=>H1 b:Hp) {s1 with heap:=h',toks:=tk}:=by
  refine I2.laidMany (t':=tk) hk (λb hb=>OL b (by rw[<- hsz];exact hb)) λb o hb e=>?_;have e:(if b=L then ↥(HO.lst (as.map V.ref))else match (as.zip ν).lookup b with | some kv=>↥(HO.tup [kV kv.1,kv.2]) | none=>H1 b)≈o:=e;by_cases hbL:b=L
  ·rw[if_pos hbL]at e;cases e;refine⟨by rw[Ya,hal,<- hl];exact hz,acc.toList,c,?_,by rw[hbL];simpa using IW⟩;rw[CJ];exact Ry 0.6 λi v u hv hu=>by
    rw[Ys]at hv hu;obtain⟨y,hy,ey⟩:=E3.mp hv;rw[hy]at hu;rw[<- ey];exact(Bk hu).symm
  ·rw[if_neg hbL]at e;cases el:(as.zip ν).lookup b with
   | none =>
    rw[el]at e;have:=I2.hok.lt e;exact absurd (Yr this hb) (Fu _)
   | some kv =>
    rw[el]at e;cases e;obtain⟨i,Jn,IU⟩:=Po el;obtain⟨key,k,x,hu,hkey,hget⟩:=hG.pairs i b Jn;obtain⟨u,MZ,ru⟩:=rv.get IU;rw[hu]at MZ;injection MZ with MZ;injection MZ with nG nF;subst nG nF;exact⟨W,[key,x],.cons (Rf hkey) (.cons ru .nil),⟨_,hget,Y,Z⟩⟩
 refine⟨.ref L,_,I3,Y,q L _ (as.map V.ref) ?_ (λb o e=>?_) ?_ ?_⟩
 ·rw[<- hsz];exact I2.hok.fresh (Ye _)
 ·exact(OL b (by rw[<- hsz];exact I2.hok.lt e)).trans e
 ·show(if L=L then _ else _)=_;rw[if_pos rfl]
 ·refine Sb (by rw[Ya,hal,hl]) λi kv v h1 h2=>?_;rw[Ys]at h2;obtain⟨b,hb,eb⟩:=E3.mp h2;obtain⟨mX,Dr,OB⟩:=at_ i b hb;rw[h1]at Dr;cases Dr;exact⟨b,eb.symm,OB⟩
end
section
variable {X:Cx}
inductive Oc(K:Fg)(x:V)(y:V)(H:Hp)(Q:VK):Prop
 | mk:∀ a b xs ys,x=.ref a->y=.ref b->AG K H a xs->AG K H b ys->↑xs + ↑ys<=sizeLine->(xs=[]->Q (.ref b) H)->(xs≠[]->ys=[]->Q (.ref a) H)->(xs≠[]->ys≠[]->∀ p,H p=none->Q (.ref p) (upd H p (.tup (xs++ys))))->Oc K x y H Q
def Oz:BM X (binaryOp .Add) (Oc X.K):=by
 exfalso;obtain⟨a,b,xs,ys,rfl,rfl,ha,hb,hz,q0,q1,q2⟩:=h;by_cases hx:xs=[]
 ·cases rx;cases ry;obtain⟨ψ,r1,p1,_⟩:=I.tuple ha;obtain⟨C8,r2,p2,_⟩:=I.tuple hb;have e:ψ=[]:=r1.nil_iff.mpr hx;obtain⟨⟨cls,dd,data,sl⟩,ho,hc,n,hd⟩:=id p1;obtain⟨⟨Zp,RW,data2,Qx⟩,E7,OF,n2,hd2⟩:=id p2;simp only at hc hd OF hd2;subst hc hd OF hd2;exact concat_meets ⟨_,ho,rfl⟩ ⟨_,E7,rfl⟩ noFill_tuple_add seq_tuple_add PySem.F.slot_tuple_add YC (YG _ _)
   (tuple_addW0 a b ψ.toArray C8.toArray n n2 dd RW sl Qx (by simp[e])) ⟨ho,E7,⟨.ref b,H,I,rfl,q0 hx⟩⟩
 ·exact xE π s σ H _ _ v u Q I rx ry ⟨a,b,xs,ys,rfl,rfl,ha,hb,hx,hz,q1 hx,q2 hx⟩
end
section
variable {X:Cx}{π:PL}{σ:St}{H:Hp}{s:χ}{h':Heap}
def Inv.turnedNew{t':Nat}{it a:δ}{o:HO}(I:Inv X π σ H s)(k:∀ b u,b≠it->s.heap.get? b≈u->h'.get? b≈u)(hn:H it=none)(hL:it≠X.env.locals)
  (h1:it∈X.ex\/⇑X.s₀<=it) (h2:∀ x c,X.env.cells.lookup x≈c->c≠it) (h3:∀ p∈X.pn++π,p.1≠it) (ha:⇑s<=a) (new:BB X.prog X.w (upd H a o) h' a o):
  Inv X π σ (upd H a o) {s with heap:=h',toks:=t' }:=by
 have nit:∀ b u,H b≈u->b≠it:=λb u e z=>by rw[z,hn]at e;cases e
 have na:∀ b u,H b≈u->b≠a:=λb u e=>Yt (Yr (I.hok.lt e) ha);have low:∀ {b u},H b≈u->(upd H a o) b≈u:=λ{b u} e=>by rw[AD (na b u e)];exact e
 refine I.step (g':=s.gens) (d':=s.drawn) (ch:=[it]) (λb hb=>?_) (λb u _ _ hc e _=>k b u (λz=>hc (by simp[z])) e) (λb u _ _ hc e _=>⟨u.slots,k b u (λz=>hc (by simp[z])) e⟩)
  (λb u _ e n=>by rw[AD (Yt (Yr (Yf e) ha))];exact n)
  (λb u hc e=>⟨u,k b u (λz=>hc (by simp[z])) e⟩) (λ_ _ e=>low e) (λ_ _ _ e=>low e) (λb ps e=>⟨#[],by rw[low e];simp⟩) (λm hm=>?_) (λb u e=>?_) I.bare
 ·have e:b=it:=by simpa using hb
  subst e;exact⟨h1,hL,h2,h3⟩
 ·obtain⟨o',es,ep,ho,r⟩:=hm;exact⟨o',es,ep,k _ o' (Yw hL) ho,r⟩
 ·by_cases hb:b=a
  ·subst hb;rw[uS]at e;cases e;exact new
  ·rw[AD hb]at e;refine(I.hok b u e).stay (λc v hc q=>k c v ?_ q) (λ_ q=>low q) λ_ _ q=>low q
   rcases hc with z | z
   ·rw[z];exact nit b u e
   ·exact nit c _ z
end
def QP(a:δ)(o:Obj)(ν:KL):It :=
 ⟨λi H=>i<↑ν/\H a≈(.frz o (.dK ν)),λi H v H'=>∃ t p,ν[i]?≈p/\H t=none/\v=.ref t/\H'=upd H t (.tup [kV p.1,p.2]),λi H=>↑ν<=i/\H a≈(.frz o (.dK ν))⟩
def sV{P:ω}{w:World}{K:Fg}{elts:μ}{x1}{pos:Pos}(a it:δ)(o:Obj)(ν:KL)(es:Array DictEntry)(ep:Nat)(hd:o.data=.dict es ep):
  FD P w K (.Tuple elts x1 pos) (QP a o ν) [it] it (λi h=>∃ ok ov,IsItemIter h it a i ↑ν ep ok ov) where
 mem:=by simp
 obj:=λi h st b hb=>by
  have e:b=it:=by simpa using hb
  subst e;obtain⟨ok,ov,st⟩:=st;exact⟨_,st,λv z=>by cases z⟩
 keep:=λi h h' st k=>by
  obtain⟨ok,ov,st⟩:=st;exact⟨ok,ov,k it 0.6 _ st⟩
 item:=by
  intro X hP hw hK hc i π s σ H E I hf st hg;subst hP hw hK;obtain⟨f0,f1,f2,f3,f4,f5⟩:=hf it 0.6;obtain⟨hi,ha⟩:=hg;obtain⟨ok,ov,st⟩:=st;obtain⟨_,vs,r,dd⟩:=Iw (I.hok a _ ha) hd;obtain⟨p,hp⟩:∃ p,ν[i]?≈p:=⟨ν[i],by simp[hi]⟩;obtain⟨u,hu,ru⟩:=r.get hp;have hl:↑ν=↑vs:=Yp r;rw[hl]at st;refine wpAny_pyNext_items_item st dd hu λkey h' hk BW ht hz keep=>?_;refine⟨Z,?_⟩;refine wpAny_letOwnedTupleGo_items (s:={s with heap:=h' }) BW λOP Li sb=>?_;have itlt:it<⇑s:=Yf st;have tne:⇑s≠it:=Bq itlt;have AS:OP.get? ⇑s=some {cls:=.type "tuple",data:=.seq #[key,u] }:=sb.extBut _ _ tne ht;have I1:Inv X π σ (upd H ⇑s (.tup [kV p.1,p.2])) {s with heap:=OP }:=I.turnedNew (t':=s.toks) (λb o hb e=>sb.extBut b o hb (keep b o hb e)) f0 f1 f3 f4 f5 (Ye _)
   ⟨W,[key,u],.cons (Rf hk) (.cons ru .nil),⟨_,AS,Y,Z⟩⟩
  refine⟨.ref ⇑s,_,I1,Y,⟨⇑s,p,hp,I.hok.fresh (Ye _),Y,Y⟩,⟨G,by rw[hl];exact Li⟩,λb hb=>?_⟩;have e:b=it:=by simpa using hb
  subst e;rw[AD (Yw tne)];exact(hf b 0.6).1
 done:=by
  intro X hP hw hK hc i π s σ H E I hf st hg;subst hP hw hK;obtain⟨f0,f1,f2,f3,f4,f5⟩:=hf it 0.6;obtain⟨hi,ha⟩:=hg;obtain⟨ok,ov,st⟩:=st;obtain⟨_,vs,r,dd⟩:=Iw (I.hok a _ ha) hd;have hl:↑ν=↑vs:=Yp r;rw[hl]at st;exact wpAny_pyNext_items_end (I.ok.hd hc) st dd (by simp;omega) λh' eb=>⟨Y,I.turned (t':=s.toks) (λb o hb e=>eb b o hb e) f0 f1 f3 f4 f5⟩
 self:=λA i s Q E st h=>by
  obtain⟨ok,ov,st⟩:=st;exact W.kcp_self st h
section
variable {X:Cx}
inductive cO(R:It->Hp->Prop)(x:V)(H1:Hp):Prop
 | mk:∀ a ob ν,x=.ref a->H1 a≈(.frz ob (.dK ν))->R (QP a ob ν) H1->cO R x H1
def ue(to:TE):TI:=λσ H R=>to σ H λx H1=>cO R x H1
def di{elts:μ}{x1}{Dl:Pos}{o:Expr}{to:TE}{apos Ac:Pos}(ho:PE X o to)(Ba:attributeBase o "items" X.env (eval o X.env)=eval o X.env:=by rfl)(BZ:(apos.endLine == Ac.line)=true:=by rfl):
  PI X (.Tuple elts x1 Dl) (.Call (.Attribute o "items" apos) [] [] Ac) (ue to):=by
 intro π s σ H R I h;refine wpAny_Call_method0_late Ba BZ (AM (ho π s σ H _ I h) λv s1 ⟨x,H1,I1,r1,q1⟩=>?_);obtain⟨a,ob,ν,e,ha,q⟩:=q1;subst e;obtain rfl:v=Value.ref a:=r1;obtain⟨t1,t2,t3⟩:=Rj I1 (.inl ⟨ν,.inr ⟨ob,ha⟩⟩);obtain⟨es,ep,hd⟩:=We (I1.hok a _ ha);obtain⟨hs,vs,r,dd⟩:=Iw (I1.hok a _ ha) hd;have hl:↑ν=↑vs:=Yp r;refine⟨"dict","dict.items",Tq,NV,YB,t1,t2,NT rfl (Pz ?_)⟩;refine call_meetsIn NV t1 YF (YJ _) (meets_dict_items (Bp X.prog X.w) a t3) ⟨⟨vs,dd.dictOf⟩,?_⟩;have I2:Inv X π σ H1 {s1 with heap:=s1.heap.push {cls:=.type "dict_items",data:=.fields #[.ref a] } }:=I1.kept (t':=s1.toks) λb o e=>Yb _ e;refine wpAny_pyIter_items (kvs:=vs) (ep:=ep) (knd:=Bp X.prog X.w) ⟨_,Yh _ rfl,Y,Y⟩ (dd.at' λo e=>Yb _ e) ?_;refine⟨_,[_],G,H1,Y,I2.kept (t':=s1.toks) λb o e=>Yb _ e,sV a _ ob ν es ep hd,⟨.none,.none,?_⟩,λb hb=>?_,q⟩
 ·rw[hl];exact Yh _ rfl
 ·have e:b=_:=Yc.mp hb;subst e;exact I2.fpOk (Ye _) (I2.hok.fresh (Ye _))
end
def eU{a:δ}{o:Obj}{ν:KL}{g:TG}{tb:TS}{D:Cy}{σ:St}{H:Hp}(Pv:NW)(h0:Pv 0 σ H)(hl:∀ i σ H,i<=↑ν->Pv i σ H->H a≈(.frz o (.dK ν)))
  (hs:∀ i p t σ H,ν[i]?≈p->Pv i σ H->H t=none->g (.ref t) σ (upd H t (.tup [kV p.1,p.2])) λσ2 H2=>tb {D with nx:=Pv (i + 1),ct:=Pv (i + 1),bk:=D.nx} σ2 H2) (hd:∀ σ H,Pv ↑ν σ H->D.nx σ H):
  ∃ W:Nat->Nat->St->Hp->Prop,(∃ m,W 0 m σ H)/\∀ i m σ H,W i m σ H ->
   ((QP a o ν).stop i H/\D.nx σ H)\/((QP a o ν).go i H/\∃ N:SW,(∀ σ' H',N σ' H'->∃ m',m'<m/\W (i + 1) m' σ' H')/\∀ x H',(QP a o ν).yld i H x H'->g x σ H' λσ2 H2=>tb {D with nx:=N,ct:=N,bk:=D.nx} σ2 H2):=by
 refine⟨λi m σ H=>m=↑ν - i/\i<=↑ν/\Pv i σ H,⟨↑ν,by simp,BC _,h0⟩,?_⟩;rintro i m σ H ⟨rfl,hi,p⟩;have q:=hl i σ H hi p;by_cases A2:i<↑ν
 ·refine .inr ⟨⟨A2,q⟩,Pv (i + 1),λσ' H' p'=>⟨↑ν - (i + 1),O,Y,A2,p'⟩,λx H' y=>?_⟩;obtain⟨t,pr,hp,ht,rfl,rfl⟩:=y;exact hs i pr t σ H hp p ht
 ·have e:i=↑ν:=by omega
  subst e;exact .inl ⟨⟨Ye _,q⟩,hd σ H p⟩
section
variable {X:Cx}
end
section
variable {prog:ω}{w:World}{A:Around}{E:EV}{s:χ}
def Sm{p t:δ}{k:Nat}{us:τ}{u:ε}{Q:EV}(hp:s.heap.IsTupleIter p t k)(ht:s.heap.IsTuple t us)(hu:us[k]?≈u)
  (q:∀ g,g.IsTupleIter p t (k + 1)->Heap.SameBut p s.heap g->Q u {s with heap:=g}):wpAny 0.4 A (Builtin.SmallTypes.nextOf (.ref p)) Q E s:=by
 obtain⟨ob,h1,h2,h3⟩:=id hp;obtain⟨ot,h4,_,nt,h5⟩:=ht;unfold Builtin.SmallTypes.nextOf;refine Ja (wpAny_callSpecial?_slot (name:=Str.ofString "__next__") hp.typeIs Ts (wpAny_call_entry Ts hp.typeIs PySem.F.entry_tuple_iterator_next ?_ (PySem.F.args_tuple_iterator_next_1 _)));show wpAny _ _ (field (.ref p) 0>>=_) _ _ s;refine Ja (Jg h1 h3 (x:=.ref t) rfl ?_);show wpAny _ _ (if(Value.ref t == Value.none)=true then _ else _) _ _ s;rw[if_neg (show ¬ ((Value.ref t == Value.none)=true)from Yl)];show wpAny _ _ (field (.ref p) 1>>=_) _ _ s;refine Ja (Jg h1 h3 (x:=.int k 0) rfl ?_);show wpAny _ _ (seqItems? (.ref t)>>=_) _ _ s;refine Ja (wpAny_seqItems h4 h5 ?_);simp only[GQ,hu];refine Ja (wpAny_setField h1 h3 0.6 (Jd ⟨u,Y,Jd (q _ ?_ (Heap.SameBut.update ..))⟩));exact⟨_,JJ _ h1 (P7 (NZ h3 _)),(Obj.cls_mapFields ..).trans h2,by rw[NZ h3];simp[rawInt]⟩
def Sl{p t:δ}{k:Nat}{us:τ}{Q:EV}(hh:A.handled=none)(hp:s.heap.IsTupleIter p t k)(ht:s.heap.IsTuple t us)(hu:us[k]?=none)
  (q:∀ g e,Heap.ExtBut p s.heap g->(∃ o,g.get? e≈o/\o.cls=.type "StopIteration")->E (.ref e) {s with heap:=g}):wpAny 0.4 A (Builtin.SmallTypes.nextOf (.ref p)) Q E s:=by
 obtain⟨ob,h1,h2,h3⟩:=id hp;obtain⟨ot,h4,_,nt,h5⟩:=ht;unfold Builtin.SmallTypes.nextOf;refine Ja (wpAny_callSpecial?_slot (name:=Str.ofString "__next__") hp.typeIs Ts (wpAny_call_entry Ts hp.typeIs PySem.F.entry_tuple_iterator_next ?_ (PySem.F.args_tuple_iterator_next_1 _)));show wpAny _ _ (field (.ref p) 0>>=_) _ _ s;refine Ja (Jg h1 h3 (x:=.ref t) rfl ?_);show wpAny _ _ (if(Value.ref t == Value.none)=true then _ else _) _ _ s;rw[if_neg (show ¬ ((Value.ref t == Value.none)=true)from Yl)];show wpAny _ _ (field (.ref p) 1>>=_) _ _ s;refine Ja (Jg h1 h3 (x:=.int k 0) rfl ?_);show wpAny _ _ (seqItems? (.ref t)>>=_) _ _ s;refine Ja (wpAny_seqItems h4 h5 ?_);simp only[GQ,hu];refine Ja (wpAny_rule (Ja (wpAny_setField h1 h3 0.6 ?_)));show wpAny _ _ (newExc (.type "StopIteration") []>>=_) _ _ _;refine Ja ?_;simp only[newExc,newTuple];refine Ja (wpAny_newObj_type ?_ (by size_fits));refine Ja (m:=firstArgMember _ _) (wpAny_of_eq (a:=Value.none) (by first | rfl | (simp only[firstArgMember];rfl)) ?_);refine wpAny_newObj_type ?_ (by size_fits);simp only[raiseNew];refine Ja (wpAny_handled ?_)
 first | rw[show A.in1.handled=none from hh] | rw[hh]
 refine Ja (Jd (wpAny_throw ?_));exact q _ _ (((Heap.SameBut.update ..).extBut.push _).push _) ⟨_,Yh _ rfl,Y⟩
structure GJ(h:Heap)(z ti to i1 i2 l1 l2:δ)(k:Nat)(f:ε):Prop where
 z:IsZip h z ti to f
 ti:IsPair h ti (.ref i1) (.ref i2)
 to:∃ a b,IsPair h to a b
 i1:h.IsTupleIter i1 l1 k
 i2:h.IsTupleIter i2 l2 k
theorem GJ.at{h h':Heap}{z ti to i1 i2 l1 l2:δ}{k:Nat}{f:ε}(x:GJ h z ti to i1 i2 l1 l2 k f)(e:∀ b∈[z,ti,to,i1,i2],∀ o,h.get? b≈o->h'.get? b≈o):GJ h' z ti to i1 i2 l1 l2 k f :=
 ⟨e z 0.6 _ x.z,e ti 0.6 _ x.ti,let⟨a,b,y⟩:=x.to;⟨a,b,e to 0.6 _ y⟩,x.i1.at λo q=>e i1 0.6 o q,x.i2.at λo q=>e i2 0.6 o q⟩
def r6{z ti to i1 i2 l1 l2:δ}{k:Nat}{xs ys:τ}{x y:ε}{Q:EV}(D:ZipApart z ti to i1 i2 l1 l2)(st:GJ s.heap z ti to i1 i2 l1 l2 k .none)
  (t1:s.heap.IsTuple l1 xs) (t2:s.heap.IsTuple l2 ys) (hx:xs[k]?≈x) (hy:ys[k]?≈y)
  (q:∀ g,GJ g z ti to i1 i2 l1 l2 (k + 1) (rawInt ⇑s)->IsPair g ⇑s x y->(∀ c o,c≠z->c≠to->c≠i1->c≠i2->s.heap.get? c≈o->g.get? c≈o)->Q (.ref ⇑s) {s with heap:=g}):
  wpAny 0.4 A (Builtin.«zip.__next__» ⟨[.ref z],[]⟩) (λfin s'=>∃ v,fin=.done (.ret v)/\Q v s') E s:=by
 obtain⟨hz,hti,⟨a,b,hto⟩,Jn,IU⟩:=st;show wpAny _ _ (field (.ref z) 2>>=_) _ _ _;refine Ja (Jg hz rfl (x:=.bool false) rfl ?_);show wpAny _ _ (field (.ref z) 3>>=_) _ _ _;refine Ja (Jg hz rfl (x:=.ref ti) rfl (Ja (wpAny_seqItems hti rfl ?_)));show wpAny _ _ (Builtin.SmallTypes.ownedTupleIsFree (.ref z)>>=_) _ _ _;refine Ja ?_;unfold Builtin.SmallTypes.ownedTupleIsFree;refine Ja (Jg hz rfl (x:=.none) rfl (Jd ?_));simp only[if_true];refine Ja (wpAny_rule (Ja (Jg hz rfl (x:=.ref to) rfl (Ja (wpAny_setField_rec hz 0.6 λg1 z1 e1=>?_)))));replace z1:IsZip g1 z ti to .ellipsis:=z1;refine Ja ?_;simp only[List.zipIdx_cons,List.zipIdx_nil,QB,List.forIn_nil];refine Ja (Ja (wpAny_onRaise ?_));show wpAny _ _ (Builtin.SmallTypes.nextOf (.ref i1)>>=_) _ _ _;refine Ja (Sm (Jn.extBut e1.extBut D.i1z) (t1.extBut e1.extBut D.l1z) hx λg2 j1 e2=>Jd ?_);have to2:IsPair g2 to a b:=e2.extBut _ _ D.TOi1 (e1.extBut _ _ D.TOz hto);refine Ja (wpAny_seqItems to2 rfl (Ja (wpAny_updateSeq_pair to2 λg3 to3 e3=>?_)));replace to3:IsPair g3 to x b:=to3;refine Ja (wpAny_letGo (Jd (Ja (Ja (wpAny_onRaise ?_)))));show wpAny _ _ (Builtin.SmallTypes.nextOf (.ref i2)>>=_) _ _ _;refine Ja (Sm (((IU.extBut e1.extBut D.i2z).extBut e2.extBut D.i12.symm).extBut e3.extBut D.TOi2.symm) (((t2.extBut e1.extBut D.l2z).extBut e2.extBut D.l2i1).extBut e3.extBut D.l2TO) hy λg4 j2 e4=>Jd ?_);have Zv:IsPair g4 to x b:=e4.extBut _ _ D.TOi2 to3;refine Ja (wpAny_seqItems Zv rfl (Ja (wpAny_updateSeq_pair Zv λg5 Qv e5=>?_)));replace Qv:IsPair g5 to x y:=Qv;refine Ja (wpAny_letGo (Jd (Jd (Ja (wpAny_seqItems Qv rfl (Ja (wpAny_newTuple ?_)))))));have sz:g5.objs.size=⇑s:=by rw[e5.1,e4.1,e3.1,e2.1,e1.1]
 have z5:IsZip g5 z ti to .ellipsis:=e5.extBut _ _ D.TOz.symm (e4.extBut _ _ D.i2z.symm (e3.extBut _ _ D.TOz.symm (e2.extBut _ _ D.i1z.symm z1)));have k5:∀ c o,c≠z->c≠to->c≠i1->c≠i2->s.heap.get? c≈o->g5.get? c≈o:=λc o c1 c2 c3 c4 e=>e5.extBut _ _ c2 (e4.extBut _ _ c4 (e3.extBut _ _ c2 (e2.extBut _ _ c3 (e1.extBut _ _ c1 e))));have mf:g5.IsTupleIter i1 l1 (k + 1):=((j1.extBut e3.extBut D.TOi1.symm).extBut e4.extBut D.i12).extBut e5.extBut D.TOi1.symm;have ma:g5.IsTupleIter i2 l2 (k + 1):=j2.extBut e5.extBut D.TOi2.symm;have zlt:z<g5.objs.size:=Yf z5;show wpAny _ _ (Builtin.SmallTypes.ownedTupleHandOut (.ref z) (.ref g5.objs.size)>>=_) _ _ _;refine Ja ?_;unfold Builtin.SmallTypes.ownedTupleHandOut;have z6:IsZip (g5.push {cls:=.type "tuple",data:=.seq #[x,y] }) z ti to .ellipsis:=Yb _ z5;refine Ja (wpAny_setField_rec z6 0.6 λg7 z7 e7=>?_);replace z7:IsZip g7 z ti to (rawInt g5.objs.size):=z7;refine wpAny_setField_rec z7 0.6 λg8 z8 e8=>?_;replace z8:IsZip g8 z ti to (rawInt g5.objs.size):=z8;have up:∀ c o,c≠z->g5.get? c≈o->g8.get? c≈o:=λc o c1 e=>e8.extBut _ _ c1 (e7.extBut _ _ c1 (Yb _ e));have p8:IsPair g8 g5.objs.size x y:=e8.extBut _ _ (Bq zlt) (e7.extBut _ _ (Bq zlt) (Yh _ rfl));rw[sz]at z8 p8;refine Jd ⟨Z,?_⟩;show Q (.ref g5.objs.size) _;rw[sz];exact q g8 ⟨z8,up _ _ D.TIz (k5 _ _ D.TIz D.TITO D.TIi1 D.TIi2 hti),⟨x,y,up _ _ D.TOz Qv⟩,mf.at λo e=>up _ o D.i1z e,ma.at λo e=>up _ o D.i2z e⟩ p8 λc o c1 c2 c3 c4 e=>up c o c1 (k5 c o c1 c2 c3 c4 e)
def rq{z ti to i1 i2 l1 l2:δ}{k:Nat}{xs ys:τ}{Q:Fin->χ->Prop}(hh:A.handled=none)(D:ZipApart z ti to i1 i2 l1 l2)(st:GJ s.heap z ti to i1 i2 l1 l2 k .none)
  (t1:s.heap.IsTuple l1 xs) (t2:s.heap.IsTuple l2 ys) (CI:xs[k]?=none\/ys[k]?=none)
  (q:∀ g e,(∀ c o,c≠z->c≠to->c≠i1->c≠i2->s.heap.get? c≈o->g.get? c≈o)->(∃ o,g.get? e≈o/\o.cls=.type "StopIteration")->E (.ref e) {s with heap:=g}):
  wpAny 0.4 A (Builtin.«zip.__next__» ⟨[.ref z],[]⟩) Q E s:=by
 obtain⟨hz,hti,⟨a,b,hto⟩,Jn,IU⟩:=st;show wpAny _ _ (field (.ref z) 2>>=_) _ _ _;refine Ja (Jg hz rfl (x:=.bool false) rfl ?_);show wpAny _ _ (field (.ref z) 3>>=_) _ _ _;refine Ja (Jg hz rfl (x:=.ref ti) rfl (Ja (wpAny_seqItems hti rfl ?_)));show wpAny _ _ (Builtin.SmallTypes.ownedTupleIsFree (.ref z)>>=_) _ _ _;refine Ja ?_;unfold Builtin.SmallTypes.ownedTupleIsFree;refine Ja (Jg hz rfl (x:=.none) rfl (Jd ?_));simp only[if_true];refine Ja (wpAny_rule (Ja (Jg hz rfl (x:=.ref to) rfl (Ja (wpAny_setField_rec hz 0.6 λg1 z1 e1=>?_)))));replace z1:IsZip g1 z ti to .ellipsis:=z1;refine Ja ?_;simp only[List.zipIdx_cons,List.zipIdx_nil,QB,List.forIn_nil];refine Ja (Ja (wpAny_onRaise ?_));show wpAny _ _ (Builtin.SmallTypes.nextOf (.ref i1)>>=_) _ _ _;cases hx:xs[k]? with
 | none =>
  refine Ja (Sl hh (Jn.extBut e1.extBut D.i1z) (t1.extBut e1.extBut D.l1z) hx λg2 e e2 he=>?_);obtain⟨oe,ho,hc⟩:=he;have z2:IsZip g2 z ti to .ellipsis:=e2 _ _ D.i1z.symm z1;have ez:e≠z:=λx=>by subst x;rw[z2]at ho;cases ho;simp at hc
  exact wpAny_setField_rec z2 0.6 λg3 _ e3=>q g3 e (λc o c1 _ c3 _ x=>e3.extBut _ _ c1 (e2 _ _ c3 (e1.extBut _ _ c1 x))) ⟨oe,e3.extBut _ _ ez ho,hc⟩
 | some x =>
  have hy:ys[k]?=none:=by rcases CI with h | h;rw[hx]at h;cases h;exact h
  refine Ja (Sm (Jn.extBut e1.extBut D.i1z) (t1.extBut e1.extBut D.l1z) hx λg2 j1 e2=>Jd ?_);have to2:IsPair g2 to a b:=e2.extBut _ _ D.TOi1 (e1.extBut _ _ D.TOz hto);refine Ja (wpAny_seqItems to2 rfl (Ja (wpAny_updateSeq_pair to2 λg3 to3 e3=>?_)));refine Ja (wpAny_letGo (Jd (Ja (Ja (wpAny_onRaise ?_)))));show wpAny _ _ (Builtin.SmallTypes.nextOf (.ref i2)>>=_) _ _ _;refine Ja (Sl hh (((IU.extBut e1.extBut D.i2z).extBut e2.extBut D.i12.symm).extBut e3.extBut D.TOi2.symm) (((t2.extBut e1.extBut D.l2z).extBut e2.extBut D.l2i1).extBut e3.extBut D.l2TO) hy λg4 e e4 he=>?_);obtain⟨oe,ho,hc⟩:=he;have z4:IsZip g4 z ti to .ellipsis:=e4 _ _ D.i2z.symm (e3.extBut _ _ D.TOz.symm (e2.extBut _ _ D.i1z.symm z1));have ez:e≠z:=λx=>by subst x;rw[z4]at ho;cases ho;simp at hc
  exact wpAny_setField_rec z4 0.6 λg5 _ e5=>q g5 e (λc o c1 c2 c3 c4 x=>e5.extBut _ _ c1 (e4 _ _ c4 (e3.extBut _ _ c2 (e2.extBut _ _ c3 (e1.extBut _ _ c1 x))))) ⟨oe,e5.extBut _ _ ez ho,hc⟩
def uN{z ti to i1 i2 l1 l2:δ}{k:Nat}{xs ys:τ}{x y:ε}{Q:OU->χ->Prop}(D:ZipApart z ti to i1 i2 l1 l2)(st:GJ s.heap z ti to i1 i2 l1 l2 k .none)
  (t1:s.heap.IsTuple l1 xs) (t2:s.heap.IsTuple l2 ys) (hx:xs[k]?≈x) (hy:ys[k]?≈y)
  (q:∀ g,GJ g z ti to i1 i2 l1 l2 (k + 1) (rawInt ⇑s)->IsPair g ⇑s x y->(∀ c o,c≠z->c≠to->c≠i1->c≠i2->s.heap.get? c≈o->g.get? c≈o)->Q (↥(.ref ⇑s)) {s with heap:=g}):
  wpAny 0.4 A (pyNext (.ref z)) Q E s:=by
 have hT:s.TypeIs (.ref z) "zip":=⟨_,st.z,Y⟩;unfold pyNext;exact Ja (wpAny_attempt (wpAny_callSpecial?_slot (name:=Str.ofString "__next__") hT KI (wpAny_call_entry KI hT T4 (r6 D st t1 t2 hx hy λg a1 a2 a3=>Jd (q g a1 a2 a3)) (T7 _))))
def uM{z ti to i1 i2 l1 l2:δ}{k:Nat}{xs ys:τ}{Q:OU->χ->Prop}(hh:A.handled=none)(D:ZipApart z ti to i1 i2 l1 l2)(st:GJ s.heap z ti to i1 i2 l1 l2 k .none)
  (t1:s.heap.IsTuple l1 xs) (t2:s.heap.IsTuple l2 ys) (CI:xs[k]?=none\/ys[k]?=none)
  (q:∀ g,(∀ c o,c≠z->c≠to->c≠i1->c≠i2->s.heap.get? c≈o->g.get? c≈o)->Q none {s with heap:=g}):wpAny 0.4 A (pyNext (.ref z)) Q E s:=by
 have hT:s.TypeIs (.ref z) "zip":=⟨_,st.z,Y⟩;unfold pyNext;refine Ja (wpAny_attempt (wpAny_callSpecial?_slot (name:=Str.ofString "__next__") hT KI (wpAny_call_entry KI hT T4 (rq hh D st t1 t2 CI λg e hk he=>?_) (T7 _))));obtain⟨o,ho,hc⟩:=he;refine Ja (wpAny_isInstance (T:="StopIteration") (b:=true) ⟨o,ho,hc⟩ isSubtype_stop ?_);exact Jd (q _ hk)
end
def JP(ps:List (V×V))(Ok:Hp->Prop):It :=
 ⟨λi H=>i<↑ps/\Ok H,λi H v H'=>∃ t p,ps[i]?≈p/\H t=none/\v=.ref t/\H'=upd H t (.tup [p.1,p.2]),λi H=>↑ps<=i/\Ok H⟩
section
variable {prog:ω}{w:World}{A:Around}{E:EV}{s:χ}
abbrev KQ(h:Heap)(l1:δ):Heap:=h.push {cls:=.type "tuple_iterator",data:=.fields #[.ref l1,.int 0 0] }
abbrev Qs(h:Heap)(l1 l2:δ):Heap:=(KQ h l1).push {cls:=.type "tuple_iterator",data:=.fields #[.ref l2,.int 0 0] }
abbrev Qr(h:Heap)(l1 l2:δ):Heap:=(Qs h l1 l2).push {cls:=.type "tuple",data:=.seq #[.ref h.objs.size,.ref (KQ h l1).objs.size] }
abbrev Qq(h:Heap)(l1 l2:δ):Heap:=(Qr h l1 l2).push {cls:=.type "tuple",data:=.seq #[.none,.none] }
abbrev MG(h:Heap)(l1 l2:δ):Heap:=(Qq h l1 l2).push {cls:=.type "zip",data:=.fields #[.none,.bool false,.bool false,.ref (Qs h l1 l2).objs.size,.ref (Qr h l1 l2).objs.size] }
def rW(l1 l2:δ)(xs ys:τ):Meets (Builtin.«zip.__new__» ⟨[.type "zip",.ref l1,.ref l2],[]⟩) (λ_ R s=>s.heap.IsTuple l1 xs/\s.heap.IsTuple l2 ys /\
   R (.ok (.ret (.ref (Qq s.heap l1 l2).objs.size))) {s with heap:=MG s.heap l1 l2}):=
 .of_wp λprog w A R s h=>by
  obtain⟨hp,g,d,tk,os⟩:=s;obtain⟨t1,t2,h⟩:=h;have hsub:=sub_zip;have T1:Heap.IsTuple (Shared.heap ⟨hp,g,d,tk,os⟩) l1 xs:=t1;have T2:Heap.IsTuple (Shared.heap ⟨hp.push {cls:=.type "tuple_iterator",data:=.fields #[.ref l1,.int 0 0] },g,d,tk,os⟩) l2 ys:=Heap.IsTuple.push t2 _
  wp_walk using wpAny_pyIter_tuple T1,wpAny_pyIter_tuple T2
  exact⟨Z,h⟩
def qF{l1 l2:δ}{xs ys:τ}{Q:EV}(t1:s.heap.IsTuple l1 xs)(t2:s.heap.IsTuple l2 ys)
  (q:∀ g,GJ g (⇑s + 4) (⇑s + 2) (⇑s + 3) ⇑s (⇑s + 1) l1 l2 0 .none->(∀ c o,s.heap.get? c≈o->g.get? c≈o)->Q (.ref (⇑s + 4)) {s with heap:=g}):
  wpAny 0.4 A (call (.type "zip") [.ref l1,.ref l2]) Q E s:=by
 refine callType_new PySem.F.called_zip 0.1 (PySem.F.typeCall_zip_2 _ _) (PySem.F.newCall_zip_2 _ _) (λobj=>PySem.F.args_object_init_3 obj _ _) PySem.F.entry_zip_new (rW l1 l2 xs ys) ⟨t1,t2,?_⟩;have n1:(KQ s.heap l1).objs.size=⇑s + 1:=Fs ..;have n2:(Qs s.heap l1 l2).objs.size=⇑s + 2:=by rw[Fs,n1]
 have n3:(Qr s.heap l1 l2).objs.size=⇑s + 3:=by rw[Fs,n2]
 have n4:(Qq s.heap l1 l2).objs.size=⇑s + 4:=by rw[Fs,n3]
 have up:∀ {h:Heap} {a:δ} {o:Obj} (x:Obj),h.get? a≈o->(h.push x).get? a≈o:=λx e=>Yb _ e;have f5:(MG s.heap l1 l2).get? (Qq s.heap l1 l2).objs.size≈_:=Yh _ rfl;have f4:(MG s.heap l1 l2).get? (Qr s.heap l1 l2).objs.size≈_:=up _ (Yh _ rfl);have f3:(MG s.heap l1 l2).get? (Qs s.heap l1 l2).objs.size≈_:=up _ (up _ (Yh _ rfl));have f2:(MG s.heap l1 l2).get? (KQ s.heap l1).objs.size≈_:=up _ (up _ (up _ (Yh _ rfl)));have f1:(MG s.heap l1 l2).get? ⇑s≈_:=up _ (up _ (up _ (up _ (Yh _ rfl))));show _/\_;rw[n2,n3,n4]at f5;rw[n1,n2]at f3;rw[n3]at f4;rw[n1]at f2;rw[n4];exact⟨⟨_,f5,Y⟩,q _ ⟨f5,f3,⟨G,f4⟩,⟨_,f1,Y,Y⟩,⟨_,f2,Y,Y⟩⟩ λc o x=>up _ (up _ (up _ (up _ (up _ x))))⟩
end
def Wr{xs ys:LV}{i:Nat}{p:V×V}(h:(xs.zip ys)[i]?≈p):xs[i]?≈p.1/\ys[i]?≈p.2:=by
 rw[YI]at h;exact h
def Inv.turnedNewL{X:Cx}{π:PL}{σ:St}{H:Hp}{s:χ}{h':Heap}{t':Nat}{ψ:ζ}{a:δ}{o:HO}(I:Inv X π σ H s)(k:∀ b u,b∉ψ->s.heap.get? b≈u->h'.get? b≈u)
  (f:∀ b∈ψ,Cv X π H b) (ha:⇑s<=a) (new:BB X.prog X.w (upd H a o) h' a o):Inv X π σ (upd H a o) {s with heap:=h',toks:=t' }:=by
 have nit:∀ b u,H b≈u->b∉ψ:=λb u e z=>by have:=(f b z).1;rw[this]at e;cases e
 have na:∀ b u,H b≈u->b≠a:=λb u e=>Yt (Yr (I.hok.lt e) ha);have low:∀ {b u},H b≈u->(upd H a o) b≈u:=λ{b u} e=>by rw[AD (na b u e)];exact e
 refine I.step (g':=s.gens) (d':=s.drawn) (ch:=ψ) (λb hb=>?_) (λb u _ _ hc e _=>k b u hc e) (λb u _ _ hc e _=>⟨u.slots,k b u hc e⟩)
  (λb u _ e n=>by rw[AD (Yt (Yr (Yf e) ha))];exact n)
  (λb u hc e=>⟨u,k b u hc e⟩) (λ_ _ e=>low e) (λ_ _ _ e=>low e) (λb ps e=>⟨#[],by rw[low e];simp⟩) (λm hm=>?_) (λb u e=>?_) I.bare
 ·obtain⟨f0,f1,f2,f3,f4,f5⟩:=f b hb;exact⟨f3,f1,f4,f5⟩
 ·obtain⟨o',es,ep,ho,r⟩:=hm;exact⟨o',es,ep,k _ o' (λz=>(f _ z).2.1 rfl) ho,r⟩
 ·by_cases hb:b=a
  ·subst hb;rw[uS]at e;cases e;exact new
  ·rw[AD hb]at e;refine(I.hok b u e).stay (λc v hc q=>k c v ?_ q) (λ_ q=>low q) λ_ _ q=>low q
   rcases hc with z | z
   ·rw[z];exact nit b u e
   ·exact nit c _ z
def Inv.turnedL{X:Cx}{π:PL}{σ:St}{H:Hp}{s:χ}{h':Heap}{t':Nat}{ψ:ζ}(I:Inv X π σ H s)(k:∀ b u,b∉ψ->s.heap.get? b≈u->h'.get? b≈u)
  (f:∀ b∈ψ,Cv X π H b):Inv X π σ H {s with heap:=h',toks:=t' }:=by
 have nit:∀ b u,H b≈u->b∉ψ:=λb u e z=>by have:=(f b z).1;rw[this]at e;cases e
 refine I.step (g':=s.gens) (d':=s.drawn) (ch:=ψ) (λb hb=>?_) (λb u _ _ hc e _=>k b u hc e) (λb u _ _ hc e _=>⟨u.slots,k b u hc e⟩)
  (λb u _ e n=>n) (λb u hc e=>⟨u,k b u hc e⟩) (λ_ _ e=>e) (λ_ _ _ e=>e) (λb ps e=>⟨#[],by rw[e];simp⟩) (λm hm=>?_) (λb u e=>?_) I.bare
 ·obtain⟨f0,f1,f2,f3,f4,f5⟩:=f b hb;exact⟨f3,f1,f4,f5⟩
 ·obtain⟨o',es,ep,ho,r⟩:=hm;exact⟨o',es,ep,k _ o' (λz=>(f _ z).2.1 rfl) ho,r⟩
 ·refine(I.hok b u e).stay (λc v hc q=>k c v ?_ q) (λ_ q=>q) λ_ _ q=>q
  rcases hc with z | z
  ·rw[z];exact nit b u e
  ·exact nit c _ z
def pR{P:ω}{w:World}{K:Fg}{elts:μ}{x1}{pos:Pos}{xs ys:LV}(a b z ti to i1 i2:δ)(D:ZipApart z ti to i1 i2 a b):
  FD P w K (.Tuple elts x1 pos) (JP (xs.zip ys) λH=>AG K H a xs/\AG K H b ys) [z,ti,to,i1,i2] z (λi h=>GJ h z ti to i1 i2 a b i .none) where
 mem:=by simp
 obj:=λi h st c hc=>by
  have De:c=z\/c=ti\/c=to\/c=i1\/c=i2:=by simpa using hc
  obtain⟨x,y,h3⟩:=st.to;obtain⟨o1,e1,_,d1⟩:=st.i1;obtain⟨o2,e2,_,d2⟩:=st.i2
  rcases De with rfl | rfl | rfl | rfl | rfl
  ·exact⟨_,st.z,λv q=>by cases q⟩
  ·exact⟨_,st.ti,λv q=>by cases q⟩
  ·exact⟨_,h3,λv q=>by cases q⟩
  ·exact⟨_,e1,λv q=>by rw[d1]at q;cases q⟩
  ·exact⟨_,e2,λv q=>by rw[d2]at q;cases q⟩
 keep:=λi h h' st k=>st.at k
 item:=by
  intro X hP hw hK hc i π s σ H E I hf st hg;subst hP hw hK;obtain⟨hi,ha,hb⟩:=hg;obtain⟨p,hp⟩:∃ p,(xs.zip ys)[i]?≈p:=⟨(xs.zip ys)[i]'hi,Yi hi⟩;obtain⟨hx,hy⟩:=Wr hp;obtain⟨ψ,rv,pa,_⟩:=I.tuple ha;obtain⟨jts,D9,pb,_⟩:=I.tuple hb;obtain⟨u,hu,ru⟩:=rv.get hx;obtain⟨v,hv,Ui⟩:=D9.get hy;refine uN D st (show s.heap.IsTuple a ψ.toArray from pa) (show s.heap.IsTuple b jts.toArray from pb) (by simpa using hu) (by simpa using hv) λg BW hpr hk=>?_;refine⟨Z,?_⟩;refine wpAny_letOwnedTupleGo_zip (s:={s with heap:=g}) BW.z λg' z' sb=>?_;have zlt:z<⇑s:=Yf st.z;have nz:⇑s≠z:=Bq zlt;have HV:Heap.ExtBut z g g':=sb.extBut;have hT:IsPair g' ⇑s u v:=HV _ _ nz hpr;have I1:Inv X π σ (upd H ⇑s (.tup [p.1,p.2])) {s with heap:=g' }:=I.turnedNewL (t':=s.toks) (ψ:=[z,ti,to,i1,i2]) (λc o hc e=>HV c o (λq=>hc (by simp[q])) (hk c o (λq=>hc (by simp[q])) (λq=>hc (by simp[q])) (λq=>hc (by simp[q])) (λq=>hc (by simp[q])) e)) hf (Ye _)
   ⟨W,[u,v],.cons ru (.cons Ui .nil),⟨_,hT,Y,Z⟩⟩
  have KW:GJ g' z ti to i1 i2 a b (i + 1) .none:=by
   obtain⟨a1,a2,a3⟩:=BW.to;exact⟨z',HV _ _ D.TIz BW.ti,⟨a1,a2,HV _ _ D.TOz a3⟩,BW.i1.extBut HV D.i1z,BW.i2.extBut HV D.i2z⟩
  refine⟨.ref ⇑s,_,I1,Y,⟨⇑s,p,hp,I.hok.fresh (Ye _),Y,Y⟩,KW,λc hc=>?_⟩;have lt:∀ c∈[z,ti,to,i1,i2],c<⇑s:=λc hc=>by
   have De:c=z\/c=ti\/c=to\/c=i1\/c=i2:=by simpa using hc
   obtain⟨a1,a2,a3⟩:=st.to;obtain⟨o1,e1,_⟩:=st.i1;obtain⟨o2,e2,_⟩:=st.i2
   rcases De with rfl | rfl | rfl | rfl | rfl
   ·exact zlt
   ·exact Yf st.ti
   ·exact Yf a3
   ·exact Yf e1
   ·exact Yf e2
  rw[AD (Yt (lt c hc))];exact(hf c hc).1
 done:=by
  intro X hP hw hK hc i π s σ H E I hf st hg;subst hP hw hK;obtain⟨hi,ha,hb⟩:=hg;obtain⟨ψ,rv,pa,_⟩:=I.tuple ha;obtain⟨jts,D9,pb,_⟩:=I.tuple hb;have l1:=↑rv;have l2:=↑D9;have CI:ψ.toArray[i]?=none\/jts.toArray[i]?=none:=by
   rw[List.length_zip]at hi
   rcases Nat.le_total ↑xs ↑ys with h | h
   ·rw[Na h]at hi;exact .inl (by simp;omega)
   ·rw[Nat.min_eq_right h]at hi;exact .inr (by simp;omega)
  exact uM (I.ok.hd hc) D st (show s.heap.IsTuple a ψ.toArray from pa) (show s.heap.IsTuple b jts.toArray from pb) CI λg hk=>⟨Y,I.turnedL (t':=s.toks) (ψ:=[z,ti,to,i1,i2]) (λc o hc e=>hk c o (λq=>hc (by simp[q])) (λq=>hc (by simp[q])) (λq=>hc (by simp[q])) (λq=>hc (by simp[q])) e) hf⟩
 self:=λA i s Q E st h=>wpAny_pyIter_zip st.z h
section
variable {X:Cx}
inductive iH(K:Fg)(H:Hp)(R:It->Hp->Prop)(vs:LV)(H1:Hp):Prop
 | mk:∀(a b:δ) (xs ys:LV),vs=[.ref a,.ref b]->AG K H1 a xs->AG K H1 b ys->R (JP (xs.zip ys) λH=>AG K H a xs/\AG K H b ys) H1->iH K H R vs H1
def zU(K:Fg)(ta:TA):TI:=λσ H R=>ta σ H λvs H1=>iH K H R vs H1
def jS{elts:μ}{x1}{Dl:Pos}{a b:Expr}{ta:TA}{p pos:Pos}(hg:Gl X "zip")(hm:X.mg "zip"=none)(ha:PA X [a,b] ta)(hs:starEach [a,b] X.env=[(false,eval a X.env),(false,eval b X.env)]:=by rfl)(Ha:starEach [b] X.env=[(false,eval b X.env)]:=by rfl):
  PI X (.Tuple elts x1 Dl) (.Call (.Name "zip" p) [a,b] [] pos) (zU X.K ta):=by
 intro π s σ H R I h;refine Call_ (Il I hg hm boot_zip (La (AM (ha pos π s σ H _ I h) λus s1 ⟨vs,H1,I1,r1,q1⟩=>?_) (by rw[hs,Ha]) (by rw[Ha];rfl)));obtain⟨l1,l2,xs,ys,e,t1,t2,q⟩:=q1;subst e;cases r1 with
 | cons r rr =>
  cases rr with
  | cons r' rr =>
   cases rr;obtain rfl:_=Value.ref l1:=r;obtain rfl:_=Value.ref l2:=r';obtain⟨ψ,rv,pa,_⟩:=I1.tuple t1;obtain⟨jts,D9,pb,_⟩:=I1.tuple t2;have b1:s1.heap.IsTuple l1 ψ.toArray:=pa;have b2:s1.heap.IsTuple l2 jts.toArray:=pb;have Kl:l1<⇑s1:=let⟨_,e,_⟩:=b1;Yf e;have Qz:l2<⇑s1:=let⟨_,e,_⟩:=b2;Yf e;refine qF b1 b2 λg st hk=>wpAny_pyIter_zip (s:={s1 with heap:=g}) st.z ?_;have D:ZipApart (⇑s1 + 4) (⇑s1 + 2) (⇑s1 + 3) ⇑s1 (⇑s1 + 1) l1 l2:=W.ktu_apart _ _ _ Kl Qz;refine⟨_,[⇑s1 + 4,⇑s1 + 2,⇑s1 + 3,⇑s1,⇑s1 + 1],G,H1,Y,I1.kept (t':=s1.toks) λb o e=>hk b o e,pR l1 l2 _ _ _ _ _ D,st,λc hc=>?_,q⟩;have De:c=⇑s1 + 4\/c=⇑s1 + 2\/c=⇑s1 + 3\/c=⇑s1\/c=⇑s1 + 1:=by simpa using hc
   have ge:⇑s1<=c:=by
    rcases De with rfl | rfl | rfl | rfl | rfl
    ·exact KC _ _
    ·exact KC _ _
    ·exact KC _ _
    ·exact Ye _
    ·exact KC _ _
   exact I1.fpOk ge (I1.hok.fresh ge)
end
def pf{prog:ω}{w:World}{A:Around}(hh:A.handled=none)(p t:δ)(ne:t≠p)(us:τ):Draws prog w A p [p,t] us.size (λi v=>us[i]?≈v) (λi h=>h.IsTupleIter p t i/\h.IsTuple t us) where
 live:=λ_ _ st=>let⟨o,ho,_⟩:=st.1;⟨o,ho⟩
 frame:=λ_ _ _ st hk=>⟨st.1.at λo e=>hk p 0.6 o e,let⟨o,ho,r⟩:=st.2;⟨o,hk t 0.6 o ho,r⟩⟩
 item:=λi s Q E hi st q=>Sm st.1 st.2 (u:=us[i]) (by simp[hi]) λg BW sb=>q _ g s.toks (by simp[hi]) ⟨BW,st.2.extBut sb.extBut ne⟩ sb
 done:=λs Q E st q=>Sl hh st.1 st.2 0.6 q
def KJ(b:Bool)(h:Heap)(p a:δ)(i:Nat):Prop:=if b=true then h.IsListIter p a i else h.IsTupleIter p a i
def Y7(b:Bool)(h:Heap)(a:δ)(us:τ):Prop:=if b=true then h.IsList a us else h.IsTuple a us
theorem KJ.at{b:Bool}{h h':Heap}{p a:δ}{i:Nat}(x:KJ b h p a i)(e:∀ o,h.get? p≈o->h'.get? p≈o):KJ b h' p a i:=by
 cases b with
 | true=>exact Heap.IsListIter.at (show h.IsListIter p a i from x) e
 | false=>exact Heap.IsTupleIter.at (show h.IsTupleIter p a i from x) e
def KJ.obj{b:Bool}{h:Heap}{p a:δ}{i:Nat}(x:KJ b h p a i):∃ o,h.get? p≈o/\∀ v,o.data≠.cell v:=by
 cases b with
 | true =>
  obtain⟨o,e,_,d⟩:=(show h.IsListIter p a i from x);exact⟨o,e,λv z=>by rw[d]at z;cases z⟩
 | false =>
  obtain⟨o,e,_,d⟩:=(show h.IsTupleIter p a i from x);exact⟨o,e,λv z=>by rw[d]at z;cases z⟩
def pZ{prog:ω}{w:World}{A:Around}(b:Bool)(hh:A.handled=none)(p t:δ)(ne:t≠p)(us:τ):Draws prog w A p [p,t] us.size (λi v=>us[i]?≈v) (λi h=>KJ b h p t i/\Y7 b h t us):=by
 cases b with
 | true=>exact Draws.list hh p t ne us
 | false=>exact pf hh p t ne us
def Inv.sseq{X:Cx}{π:PL}{σ:St}{H:Hp}{s:χ}{b:Bool}{a:δ}{xs:LV}(I:Inv X π σ H s)(h:Cr X.K b H a xs):∃ ψ:LU,AX xs ψ/\Y7 b s.heap a ψ.toArray:=by
 cases b with
 | true =>
  obtain⟨ψ,rv,p,_⟩:=I.list (show SqL X.K H a xs from h);exact⟨ψ,rv,p.isList⟩
 | false =>
  obtain⟨ψ,rv,p,_⟩:=I.tuple (show AG X.K H a xs from h);exact⟨ψ,rv,p⟩
def Gg(xs:LV):List (V×V):=(F9 0 ↑xs).zip xs
def M_(xs:LV):↑(Gg xs)=↑xs:=by
 unfold Gg;rw[List.length_zip,JC,Nat.min_self]
def SU{xs:LV}{i:Nat}{p:V×V}(h:(Gg xs)[i]?≈p):p.1=.int i/\xs[i]?≈p.2:=by
 obtain⟨h1,h2⟩:=Wr h;obtain⟨_,e⟩:=JB h1;exact⟨by rw[e,Int.zero_add],h2⟩
section
variable {prog:ω}{w:World}{A:Around}{E:EV}{s:χ}
def tF(l:δ)(us:τ):Meets (Builtin.«enumerate.__new__» ⟨[.type "enumerate",.ref l],[]⟩) (λ_ R s=>s.heap.IsTuple l us /\
   R (.ok (.ret (.ref (s.heap.push {cls:=.type "tuple_iterator",data:=.fields #[.ref l,.int 0 0] }).objs.size)))
    {s with heap:=(s.heap.push {cls:=.type "tuple_iterator",data:=.fields #[.ref l,.int 0 0] }).push {cls:=.type "enumerate",data:=.fields #[.none,.bool false,.ref ⇑s,rawInt 0,.none,.none] } }):=
 .of_wp λprog w A R s h=>by
  obtain⟨hp,g,d,tk,os⟩:=s;obtain⟨ht,h⟩:=h;have hsub:=sub_enumerate;obtain⟨⟨c,dct,dt,sl⟩,hl,hc,n,hd⟩:=id ht;replace hc:c=.type "tuple":=hc;replace hd:dt=.seq us n:=hd;subst hc hd;have hT:Heap.IsTuple (Shared.heap ⟨hp,g,d,tk,os⟩) l us:=ht
  wp_walk using Tr hl
  refine wpAny_stack_any λst=>Jd ?_;split
  ·rename_i c _ _ _ _ _
   cases(c == Value.type "enumerate")
   ·wp_walk using Tr hl,wpAny_pyIter_tuple hT
    exact⟨Z,h⟩
   ·wp_walk using Tr hl,wpAny_pyIter_tuple hT
    exact⟨Z,h⟩
  ·wp_walk using Tr hl,wpAny_pyIter_tuple hT
   exact⟨Z,h⟩
def p9(b:Bool){l:δ}{us:τ}{Q:EV}(hl:Y7 b s.heap l us)
  (q:∀ g,IsEnum g (⇑s + 1) ⇑s 0 .none->KJ b g ⇑s l 0->(∀ c o,s.heap.get? c≈o->g.get? c≈o)->Q (.ref (⇑s + 1)) {s with heap:=g}):
  wpAny 0.4 A (call (.type "enumerate") [.ref l]) Q E s:=by
 cases b with
 | true=>exact call_enumerate_list (show s.heap.IsList l us from hl) λg h1 h2 _ h4=>q g h1 h2 h4
 | false =>
  refine callType_new PySem.F.called_enumerate 0.1 (PySem.F.typeCall_enumerate_1 _) (PySem.F.newCall_enumerate_1 _) (λobj=>PySem.F.args_object_init_2 obj _) PySem.F.entry_enumerate_new (tF l us) ⟨hl,?_⟩;have n1:(KQ s.heap l).objs.size=⇑s + 1:=Fs ..;show _/\_;rw[n1];have he:IsEnum ((KQ s.heap l).push {cls:=.type "enumerate",data:=.fields #[.none,.bool false,.ref ⇑s,rawInt 0,.none,.none] }) (⇑s + 1) ⇑s 0 .none:=by
   have:=Yh (KQ s.heap l) (o:={cls:=.type "enumerate",data:=.fields #[.none,.bool false,.ref ⇑s,rawInt 0,.none,.none] }) rfl;rw[n1]at this;exact this
  exact⟨⟨_,he,Y⟩,q _ he ⟨_,Yb _ (Yh _ rfl),Y,Y⟩ λc o x=>Yb _ (Yb _ x)⟩
end
def bt{prog:ω}{w:World}{A:Around}{E:EV}{s:χ}{e p:δ}{i:Int}{old:ε}{Q:OU->χ->Prop}(hh:A.handled=none)(he:IsEnum s.heap e p i old)
  (nx:∀(Q:EV) (E:EV),(∀ g e,Heap.ExtBut p s.heap g->(∃ o,g.get? e≈o/\o.cls=.type "StopIteration")->E (.ref e) {s with heap:=g})->wpAny 0.4 A.in1 (Builtin.SmallTypes.nextOf (.ref p)) Q E s)
  (q:∀ g,Heap.ExtBut p s.heap g->Q none {s with heap:=g}):wpAny 0.4 A (pyNext (.ref e)) Q E s:=by
 have hT:s.TypeIs (.ref e) "enumerate":=⟨_,he,Y⟩;unfold pyNext;refine Ja (wpAny_attempt (wpAny_callSpecial?_slot (name:=Str.ofString "__next__") hT PySem.F.slot_enumerate_next (wpAny_call_entry PySem.F.slot_enumerate_next hT PySem.F.entry_enumerate_next ?_ (PySem.F.args_enumerate_next_1 _))));show wpAny _ _ (field (.ref e) 2>>=_) _ _ _;refine Ja (Jg he rfl (x:=.ref p) rfl (Ja (nx _ _ λg x eb hx=>?_)));obtain⟨o,ho,hc⟩:=hx;refine Ja (wpAny_isInstance (T:="StopIteration") (b:=true) ⟨o,ho,hc⟩ isSubtype_stop ?_);exact Jd (q _ eb)
def q9{P:ω}{w:World}{K:Fg}{elts:μ}{x1}{pos:Pos}{xs:LV}(b:Bool)(a e p:δ)(ep:e≠p)(ea:e≠a)(ap:a≠p):
  FD P w K (.Tuple elts x1 pos) (JP (Gg xs) λH=>Cr K b H a xs) [e,p] e (λi h=>(∃ old,IsEnum h e p i old)/\KJ b h p a i) where
 mem:=by simp
 obj:=λi h st c hc=>by
  have De:c=e\/c=p:=by simpa using hc
  obtain⟨⟨old,he⟩,si⟩:=st
  rcases De with rfl | rfl
  ·exact⟨_,he,λv q=>by cases q⟩
  ·exact si.obj
 keep:=λi h h' st k=>by
  obtain⟨⟨old,he⟩,si⟩:=st;exact⟨⟨old,k e 0.6 _ he⟩,si.at λo q=>k p 0.6 o q⟩
 item:=by
  intro X hP hw hK hc i π s σ H E I hf st hg;subst hP hw hK;obtain⟨hi,ha⟩:=hg;obtain⟨⟨old,he⟩,si⟩:=st;obtain⟨pr,hp⟩:∃ p,(Gg xs)[i]?≈p:=⟨(Gg xs)[i]'hi,Yi hi⟩;obtain⟨e1,hx⟩:=SU hp;obtain⟨ψ,rv,sq⟩:=I.sseq ha;obtain⟨u,hu,ru⟩:=rv.get hx;have hil:i<ψ.toArray.size:=by rw[M_]at hi;have:=↑rv;simp;omega
  have D:=pZ (prog:=X.prog) (w:=X.w) (A:=X.A.in1) b (I.ok.hd hc) p a ap ψ.toArray;refine wpAny_pyNext_enum_itemD D he ⟨si,sq⟩ hil ep (by simp;exact⟨ep,ea⟩) λx g tk hPx ho hst hT _ hk=>?_;have exu:x=u:=by
   have h1:ψ.toArray[i]?≈x:=hPx;have h2:ψ.toArray[i]?≈u:=by simpa using hu
   rw[h1]at h2;exact Bk h2
  subst exu;refine⟨Z,?_⟩;refine wpAny_letOwnedTupleGo_enum (s:={s with heap:=g,toks:=tk + 1}) ho λg' nh sb=>?_;have elt:e<⇑s:=Yf he;have plt:p<⇑s:=let⟨o,q,_⟩:=si.obj;Yf q;have HV:Heap.ExtBut e g g':=sb.extBut;have IV:IsPair g' ⇑s (.int i tk) x:=HV _ _ (Bq elt) hT;have I1:Inv X π σ (upd H ⇑s (.tup [pr.1,pr.2])) {s with heap:=g',toks:=tk + 1}:=I.turnedNewL (t':=tk + 1) (ψ:=[e,p]) (λc o hc q=>HV c o (λz=>hc (by simp[z])) (hk c o (λz=>hc (by simp[z])) (λz=>hc (by simp[z])) q)) hf (Ye _)
   ⟨W,[.int i tk,x],.cons (by rw[e1];exact⟨tk,Y⟩) (.cons ru .nil),⟨_,IV,Y,Z⟩⟩
  refine⟨.ref ⇑s,_,I1,Y,⟨⇑s,pr,hp,I.hok.fresh (Ye _),Y,Y⟩,⟨⟨x,by simpa using nh⟩,hst.1.at λo q=>HV _ o (Yw ep) q⟩,λc hc=>?_⟩;have De:c=e\/c=p:=by simpa using hc
  have ne:c≠⇑s:=by
   rcases De with rfl | rfl
   ·exact Yt elt
   ·exact Yt plt
  rw[AD ne];exact(hf c hc).1
 done:=by
  intro X hP hw hK hc i π s σ H E I hf st hg;subst hP hw hK;obtain⟨hi,ha⟩:=hg;obtain⟨⟨old,he⟩,si⟩:=st;obtain⟨ψ,rv,sq⟩:=I.sseq ha;have hl:=↑rv;rw[M_]at hi;cases b with
  | true =>
   have si:s.heap.IsListIter p a i:=si;have sq:s.heap.IsList a ψ.toArray:=sq;refine bt (I.ok.hd hc) he (λQ E hE=>wpAny_nextOf_list_end (I.ok.hd hc) si sq (by simp;omega) hE) λg eb=>⟨Y,I.turnedL (t':=s.toks) (ψ:=[e,p]) (λc o hc q=>eb c o (λz=>hc (by simp[z])) q) hf⟩
  | false =>
   have si:s.heap.IsTupleIter p a i:=si;have sq:s.heap.IsTuple a ψ.toArray:=sq;refine bt (I.ok.hd hc) he (λQ E hE=>Sl (I.ok.hd hc) si sq (by simp;omega) hE) λg eb=>⟨Y,I.turnedL (t':=s.toks) (ψ:=[e,p]) (λc o hc q=>eb c o (λz=>hc (by simp[z])) q) hf⟩
 self:=λA i s Q E st h=>let⟨⟨_,he⟩,_⟩:=st;wpAny_pyIter_enum he h
section
variable {X:Cx}
inductive i_(K:Fg)(H:Hp)(R:It->Hp->Prop)(vs:LV)(H1:Hp):Prop
 | mk:∀(b:Bool) (a:δ) (xs:LV),vs=[.ref a]->Cr K b H1 a xs->R (JP (Gg xs) λH=>Cr K b H a xs) H1->i_ K H R vs H1
def Ycg(K:Fg)(ta:TA):TI:=λσ H R=>ta σ H λvs H1=>i_ K H R vs H1
def cY{elts:μ}{x1}{Dl:Pos}{a:Expr}{ta:TA}{p pos:Pos}(hg:Gl X "enumerate")(hm:X.mg "enumerate"=none)(ha:PA X [a] ta)(hs:starEach [a] X.env=[(false,eval a X.env)]:=by rfl):
  PI X (.Tuple elts x1 Dl) (.Call (.Name "enumerate" p) [a] [] pos) (Ycg X.K ta):=by
 intro π s σ H R I h;refine Call_ (Il I hg hm boot_enumerate (La (AM (ha pos π s σ H _ I h) λus s1 ⟨vs,H1,I1,r1,q1⟩=>?_) hs rfl));obtain⟨b,l,xs,e,t1,q⟩:=q1;subst e;cases r1 with
 | cons r rr =>
  cases rr;obtain rfl:_=Value.ref l:=r;obtain⟨ψ,rv,sq⟩:=I1.sseq t1;have Kl:l<⇑s1:=by
   cases b with
   | true=>obtain⟨_,e,_⟩:=(show s1.heap.IsList l ψ.toArray from sq);exact Yf e
   | false=>obtain⟨_,e,_⟩:=(show s1.heap.IsTuple l ψ.toArray from sq);exact Yf e
  refine p9 b sq λg he si hk=>wpAny_pyIter_enum (s:={s1 with heap:=g}) he ?_;refine⟨_,[⇑s1 + 1,⇑s1],G,H1,Y,I1.kept (t':=s1.toks) λb o e=>hk b o e,q9 b l _ _ (Nat.succ_ne_self _) (Bq (Nat.lt_succ_of_lt Kl)) (Yt Kl),⟨⟨_,he⟩,si⟩,λc hc=>?_,q⟩;have De:c=⇑s1 + 1\/c=⇑s1:=by simpa using hc
  have ge:⇑s1<=c:=by
   rcases De with rfl | rfl
   ·exact KC _ _
   ·exact Ye _
  exact I1.fpOk ge (I1.hok.fresh ge)
end
end L2
namespace L2
open PySem PySem.Spec PyProof.Rows PySem.W
def jl{A:Around}{k:Nat}(hr:Ab k A):A.units + 65<cLine:=by have:=hr.un;omega
def gg{κ:Type}[DecidableEq κ]{ν:List (κ×V)}{k:κ}(h:k∉ν.map 0.8):BE ν k=none:=by
 cases e:BE ν k with
 | none=>rfl
 | some v=>exact absurd (cu e) h
def sx{κ:Type}[DecidableEq κ]{ν:List (κ×V)}{k:κ}{v:V}(h:k∉ν.map 0.8):(Au ν k v).map 0.8=ν.map 0.8++[k]:=by
 rw[LC v (gg h),Br];rfl
def e_{α:Type}{l:List α}(nd:l.Nodup){i:Nat}{x:α}(h:l[i]?≈x):x∉l.take i:=by
 intro m;have hi:=(Yu.mp h).1;have e:=(Yu.mp h).2;have sp:l=l.take i++l.drop i:=(List.take_append_drop i l).symm;rw[sp]at nd;have q:=(Ld.mp nd).2.2 x m;refine q x ?_ rfl;rw[List.drop_eq_getElem_cons hi,e];exact Yj
def eV{ps:List (V×V)}{Ok:Hp->Prop}{g:TG}{tb:TS}{D:Cy}{σ:St}{H:Hp}(Pv:NW)(h0:Pv 0 σ H)(hl:∀ i σ H,i<=↑ps->Pv i σ H->Ok H)
  (hs:∀ i p t σ H,ps[i]?≈p->Pv i σ H->H t=none->g (.ref t) σ (upd H t (.tup [p.1,p.2])) λσ2 H2=>tb {D with nx:=Pv (i + 1),ct:=Pv (i + 1),bk:=D.nx} σ2 H2) (hd:∀ σ H,Pv ↑ps σ H->D.nx σ H):
  ∃ W:Nat->Nat->St->Hp->Prop,(∃ m,W 0 m σ H)/\∀ i m σ H,W i m σ H ->
   ((JP ps Ok).stop i H/\D.nx σ H)\/((JP ps Ok).go i H/\∃ N:SW,(∀ σ' H',N σ' H'->∃ m',m'<m/\W (i + 1) m' σ' H')/\∀ x H',(JP ps Ok).yld i H x H'->g x σ H' λσ2 H2=>tb {D with nx:=N,ct:=N,bk:=D.nx} σ2 H2):=by
 refine⟨λi m σ H=>m=↑ps - i/\i<=↑ps/\Pv i σ H,⟨↑ps,by simp,BC _,h0⟩,?_⟩;rintro i m σ H ⟨rfl,hi,p⟩;have q:=hl i σ H hi p;by_cases A2:i<↑ps
 ·refine .inr ⟨⟨A2,q⟩,Pv (i + 1),λσ' H' p'=>⟨↑ps - (i + 1),O,Y,A2,p'⟩,λx H' y=>?_⟩;obtain⟨t,pr,hp,ht,rfl,rfl⟩:=y;exact hs i pr t σ H hp p ht
 ·have e:i=↑ps:=by omega
  subst e;exact .inl ⟨⟨Ye _,q⟩,hd σ H p⟩
abbrev g2(K:Fg)(i j:Nat):TG:=UC K 2 (K3 (Cz i) (K3 (Cz j) YQ))
def Xq{K:Fg}{i j:Nat}{t:δ}{x y:V}{σ:St}{H:Hp}{R:SW}(h:AG K H t [x,y])(q:R ((σ.set i (↥x)).set j (↥y)) H):g2 K i j (.ref t) σ H R :=
 ⟨t,[x,y],Y,h,Y,x,[y],Y,y,[],Y,Y,q⟩
def Vc{K:Fg}{i j:Nat}{t:δ}{x y:V}{σ:St}{H:Hp}{R:SW}(q:R ((σ.set i (↥x)).set j (↥y)) (upd H t (.tup [x,y]))):g2 K i j (.ref t) σ (upd H t (.tup [x,y])) R :=
 Xq (AG.of uS) q
def Ij{X:Cx}{K:Fg}{i j:Nat}{x y:Str}{p q pos:Pos}{c:Nat}(hK:X.K=K)(hc:X.calm=true)(hN:X.N.Nodup)(hi:X.N[i]?≈x)(hj:X.N[j]?≈y)(hx:Loc X.env.scope x)(hy:Loc X.env.scope y)
  (fx:X.fn x=true\/X.env.scope.names.lookup x≈.local) (fy:X.fn y=true\/X.env.scope.names.lookup y≈.local):PG X (.Tuple [.Name x p,.Name y q] c pos) (g2 K i j):=by
 subst hK;exact DU hc (gC (CF (i:=i) hN hi hx fx) (gC (CF (i:=j) hN hj hy fy) DX))
def AI{H:Hp}{t:δ}{o:HO}(h:H t=none):AA H (upd H t o):=λb u e=>by rw[AD (AK e h)];exact e
def Pd{α:Type}(p:α->Bool):∀(xs:List α) (i:Nat) (x:α),xs[i]?≈x->(xs.take (i + 1)).filter p=(xs.take i).filter p++if p x=true then[x]else[]:=by
 intro xs i x h;rw[Bu,h,List.filter_append]
 congr 1
 cases e:p x <;> simp[List.filter,e]
def qG{K:Fg}{ps:List (V×V)}{Ok:Hp->Prop}{js:LN}{tt:TT}{te:TE}{σ:St}{Q:VK}{H1:Hp}(hz:↑ps<=sizeLine)(p:V×V->Bool)(F:δ->V×V->V->Hp->Prop)
  (hF:∀ D x v H H',(∀ b o,b≠D->H b≈o->H' b≈o)->F D x v H->F D x v H')
  (hok:∀ H,AA H1 H->Ok H)
  (ht:∀ x H (R:Bool->Hp->Prop),AA H1 H->x∈ps->(∀ H',AA H H'->R (p x) H')->tt (↥x.1 :: some x.2 :: js.map λj=>(σ[j]?).join) H R)
  (he:∀ D x H (R:V->Hp->Prop),AA H1 H->(∃ ys,H D≈(.lst ys))->H1 D=none->x∈ps->p x=true->(∀ v H',AA H H'->F D x v H'->R v H')->te (↥x.1 :: some x.2 :: js.map λj=>(σ[j]?).join) H R)
  (hd:∀ D H' ys,H1 D=none->AA H1 H'->H' D≈(.lst ys)->Paired (λx v=>F D x v H') (ps.filter p) ys->Q (.ref D) H'):
  AZ 2 js (g2 K 0 1) tt te σ Q (JP ps Ok) H1:=by
 intro D hD;refine⟨λi m ys σ' H=>m=↑ps - i/\i<=↑ps/\AA H1 H/\H D≈(.lst ys)/\Paired (λx v=>F D x v H) ((ps.take i).filter p) ys/\∃ o u,σ'=o :: u :: js.map λj=>(σ[j]?).join,
  ⟨↑ps,by simp,BC _,AI hD,uS,by simpa using Paired.nil,none,none,Y⟩,?_⟩
 rintro i m ys σ' H ⟨rfl,hi,hs,hl,hp,o,u,rfl⟩;have mono:∀ {H H':Hp},(∀ b o,b≠D->H b≈o->H' b≈o)->Paired (λx v=>F D x v H) ((ps.take i).filter p) ys->Paired (λx v=>F D x v H') ((ps.take i).filter p) ys:=λh q=>Paired.mapP q λa b z=>hF D a b _ _ h z;by_cases A2:i<↑ps
 ·have yl:↑ys<sizeLine:=by
   rw[<- ↑hp];refine QA (IJ _ _) ?_;rw[Yv];omega
  refine .inr ⟨⟨A2,hok H hs⟩,yl,λKR σ3 H3=>AA H1 H3/\H3 D≈(.lst KR)/\Paired (λx v=>F D x v H3) ((ps.take (i + 1)).filter p) KR/\∃ o u,σ3=o :: u :: js.map λj=>(σ[j]?).join,
   λKR σ3 H3 z=>⟨↑ps - (i + 1),O,Y,A2,z⟩,λx H2 y=>?_⟩
  obtain⟨t,x,hx,Jk,rfl,rfl⟩:=y;refine Vc ?_;show tt (↥x.1 :: some x.2 :: js.map λj=>(σ[j]?).join) (upd H t (.tup [x.1,x.2])) _;have hm:x∈ps:=Yd hx;have st:AA H (upd H t (.tup [x.1,x.2])):=AI Jk;refine ht x _ _ (hs.trans st) hm λH4 s4=>?_;have Bo:AA H H4:=st.trans s4;have Ga:AA H1 H4:=hs.trans Bo;cases hpx:p x with
  | true =>
   rw[if_pos rfl];refine he D x H4 _ Ga ⟨_,Bo _ _ hl⟩ hD hm hpx λv H5 s5 f5=>⟨s5 _ _ (Bo _ _ hl),λb o e=>?_,uS,?_,_,Z⟩
   ·rw[AD (AK e hD)];exact s5 _ _ (Ga _ _ e)
   ·rw[Pd p ps i x hx,hpx,if_pos rfl];refine CH (mono (λb o hb e=>by rw[AD hb];exact s5 _ _ (Bo _ _ e)) hp) (hF D _ _ _ _ (λb o hb e=>by rw[AD hb];exact e) f5)
  | false =>
   rw[if_neg Yl];refine⟨Ga,Bo _ _ hl,?_,_,Z⟩;rw[Pd p ps i x hx,hpx,if_neg Yl,EM];exact mono (λb o _ e=>Bo _ _ e) hp
 ·have e:i=↑ps:=by omega
  subst e;rw[Bt]at hp;exact .inl ⟨⟨Ye _,hok H hs⟩,hd D H ys hD hs hl hp⟩
theorem NB{α:Type}{f:α->V}:∀ {xs:List α}{ys:LV},Paired (λx v=>v=f x) xs ys->ys=xs.map f
 | _,_,.nil=>rfl
 | _,_,.cons r t=>by rw[Yy,r,NB t]
def eQ{K:Fg}{ps:List (V×V)}{Ok:Hp->Prop}{js:LN}{tt:TT}{te:TE}{σ:St}{Q:VK}{H1:Hp}(hz:↑ps<=sizeLine)(p:V×V->Bool)(f:V×V->V)
  (hok:∀ H,AA H1 H->Ok H)
  (ht:∀ x H (R:Bool->Hp->Prop),AA H1 H->x∈ps->(∀ H',AA H H'->R (p x) H')->tt (↥x.1 :: some x.2 :: js.map λj=>(σ[j]?).join) H R)
  (he:∀ x H (R:V->Hp->Prop),AA H1 H->x∈ps->p x=true->(∀ H',AA H H'->R (f x) H')->te (↥x.1 :: some x.2 :: js.map λj=>(σ[j]?).join) H R)
  (hd:∀ D H',H1 D=none->AA H1 H'->H' D≈(.lst ((ps.filter p).map f))->Q (.ref D) H'):
  AZ 2 js (g2 K 0 1) tt te σ Q (JP ps Ok) H1 :=
 qG hz p (λ_ x v _=>v=f x) (λ_ _ _ _ _ _ z=>z) hok ht (λD x H R hs _ _ hx hp k=>he x H R hs hx hp λH' s'=>k _ _ s' rfl)
  λD H' ys hD hs hl hp=>hd D H' hD hs (by rw[hl,NB hp])
def LB{J:It}{xs:LV}{Ok:Hp->Prop}(R:EW J xs Ok){js:LN}{tt:TT}{te:TE}{σ:St}{Q:VK}{H1:Hp}(hz:↑xs<=sizeLine)(p:V->Bool)(f:V->V)
  (hok:∀ H,AA H1 H->Ok H)
  (ht:∀ x H (R:Bool->Hp->Prop),AA H1 H->x∈xs->(∀ H',AA H H'->R (p x) H')->tt (↥x :: js.map λj=>(σ[j]?).join) H R)
  (he:∀ x H (R:V->Hp->Prop),AA H1 H->x∈xs->p x=true->(∀ H',AA H H'->R (f x) H')->te (↥x :: js.map λj=>(σ[j]?).join) H R)
  (hd:∀ D H',H1 D=none->AA H1 H'->H' D≈(.lst ((xs.filter p).map f))->Q (.ref D) H'):
  AZ 1 js (Cz 0) tt te σ Q J H1 :=
 dG R hz p (λ_ x v _=>v=f x) (λ_ _ _ _ _ _ z=>z) hok ht (λD x H R hs _ _ hx hp k=>he x H R hs hx hp λH' s'=>k _ _ s' rfl)
  λD H' ys hD hs hl hp=>hd D H' hD hs (by rw[hl,NB hp])
section
variable {X:Cx}
theorem bg{d:Dat}{n:Nat}(h2:kqdOk n d=true):∀ {ds:List Dat},ds.all (kqdOk 8)=true->((kqdPs ds).any λy=>PyData.eqv y (kqdP d))=ds.any λe=>FC e d
 | [],_=>by rw[kqdPs];rfl
 | e :: ds,h=>by
  rw[Lc,Ed]at h;rw[kqdPs,KG,KG,V5 h.1 h2,bg h2 h.2]
def za(K:Fg)(f:Bool->Bool):R2:=λx y H Q=>∃ d ds,Rep K H x d/\Rep K H y (.list ds)/\kqdOk 9 d=true/\ds.all (kqdOk 8)=true/\Q (.bl (f (ds.any λe=>FC e d))) H
def yy{ds:List Dat}(h:ds.all (kqdOk 8)=true):SeqAt.shaped (PyData.list (kqdPs ds))=true:=by
 have:=LH (d:=.list ds) (by rw[kqdOk];exact h);rw[kqdP]at this;exact this
def qe(hu:X.A.units + 65<cLine):BM X (compareOp .NotIn) (za X.K Bool.not):=by
 exfalso;obtain⟨d,ds,h1,h2,k1,k2,q⟩:=h;obtain⟨as,ra⟩:=h1.reads I rx;obtain⟨bs,rb⟩:=h2.reads I ry;rw[kqdP]at rb;exact SeqAt.notIn_list_reads rb ra (SeqAt.canLay_of_shaped (yy k2)) (SeqAt.canLay_of_shaped (LH k1)) (room_in_shaped (LH k1) hu) (BS I q (by rw[bg k1 k2]))
end
def BK(i:Nat):V:=.int (i:Nat)
def LX(i:Nat):Dat:=.int (i:Nat)
theorem gA{K:Fg}{H:Hp}:∀ ns:LN,A7 K H (ns.map BK) (ns.map LX)
 | []=>.nil
 | n :: r=>.cons (.int _) (gA r)
def cj(n:Nat)(ns:LN):kqdOk (n + 1) (.list (ns.map LX))=true:=by
 rw[kqdOk,C6];intro z hz;obtain⟨x,_,rfl⟩:=Yg.mp hz;unfold LX;rw[kqdOk]
def yw{K:Fg}{H:Hp}{a:δ}{ns:LN}(h:H a≈(.lst (ns.map BK))):Rep K H (.ref a) (.list (ns.map LX)):=.list (SqL.of h) (gA ns)
def sI(n:Nat):F9 0 n=(List.range n).map BK:=by
 refine List.ext_getElem? λi=>?_;by_cases hi:i<n
 ·have h1:(F9 0 n)[i]?≈((F9 0 n)[i]'(by rw[JC];exact hi)):=Yi _;obtain⟨_,e⟩:=JB h1;rw[h1,e,Ys,List.getElem?_range hi];show some (V.int (0 + (i:Nat)))≈(V.int (i:Nat));rw[Int.zero_add]
 ·rw[NQ (by rw[JC];omega),NQ (by simp;omega)]
end L2
namespace L2
open PySem PySem.Spec PyProof.Rows
section
variable {X:Cx}
end
end L2
namespace L2
open PySem PySem.W PySem.Spec PyProof.Rows
section
variable {X:Cx}
end
end L2
namespace L2
open PySem PySem.Spec PyProof.Rows
def LL(h:Heap)(d:δ)(es:Array DictEntry)(ep:Nat):Prop:=∃ o,h.get? d≈o/\o.ExactDict/\o.data=.dict es ep
def LL.at{h h':Heap}{d:δ}{es:Array DictEntry}{ep:Nat}(x:LL h d es ep)(k:∀ o,h.get? d≈o->h'.get? d≈o):LL h' d es ep:=let⟨o,e,r⟩:=x;⟨o,k o e,r⟩
section
variable {prog:ω}{w:World}{A:Around}{E:EV}{s:χ}{d it:δ}{es:Array DictEntry}{ep i:Nat}
def uW(hs:(d == sysModules)=false):MeetsIn prog w (Builtin.«dict.items» ⟨[.ref d],[]⟩) (λ_ R s=>s.TypeIs (.ref d) "dict" /\
   R (.ok (.ret (.ref ⇑s))) {s with heap:=s.heap.push {cls:=.type "dict_items",data:=.fields #[.ref d] } }):=
 .of_wp λA R s ⟨T,h⟩=>by
  unfold Builtin.«dict.items»;refine Ja ?_;unfold Builtin.Dict.noArgs;refine Ja (wpAny_notOrdered_dict T ?_);show wpAny _ _ (pure d) _ _ s;refine Jd ?_;show wpAny _ _ (Builtin.Dict.showsAll d>>=_) _ _ s;unfold Builtin.Dict.showsAll;rw[if_neg (by rw[hs];simp)];exact Ja (Jd (Ja (wpAny_newObj_type (Jd ⟨Z,h⟩))))
def uF{v:δ}{Q:EV}(hv:s.heap.IsItemsView v d)(x:LL s.heap d es ep)
  (q:Q (.ref ⇑s) {s with heap:=s.heap.push {cls:=.type "dict_itemiterator",data:=.fields #[.none,.bool false,.ref d,.int 0 0,.int es.size 0,.int ep 0,.none,.none] } }):
  wpAny 0.4 A (pyIter (.ref v)) Q E s:=by
 obtain⟨ov,e1,c1,d1⟩:=id hv;obtain⟨o,e,c,da⟩:=id x;have T:=hv.typeIs;have own:Builtin.Dict_items.ownsTuple "dict_itemiterator"=true:=by decide
 refine wpAny_pyIter_slot T F.slot_dict_items_iter (wpAny_call_entry F.slot_dict_items_iter T F.entry_dict_items_iter ?_ (F.args_dict_items_iter_1 _));unfold Builtin.«dict_items.__iter__»;refine Ja (Jd (Ja ?_));unfold Builtin.Dict_items.dictOf;refine Ja (Jg e1 d1 (x:=.ref d) rfl (Jd (Ja ?_)));unfold Builtin.Dict_items.newIterator;refine Ja (wpAny_dictEntries e da (Ja (wpAny_dictEpoch e da ?_)));simp only[own,if_true];refine wpAny_newObj_type (Jd ⟨Z,"dict_itemiterator",_,⟨_,Yh _ rfl,Y⟩,P9.lookup,?_⟩) (by simp only[sizeOk,Builtin.Dict_items.ownedTupleFields,Yn,Yo,B_,List.length_nil,sizeLine_eq];omega);simpa[rawInt,Builtin.Dict_items.ownedTupleFields]using q
def uL{ok ov:ε}{Q:OU->χ->Prop}{en:DictEntry}(hit:IsItemIter s.heap it d i es.size ep ok ov)(x:LL s.heap d es ep)(hx:es[i]?≈en)
  (q:∀ g,IsItemIterOut g it d (i + 1) es.size ep en.key en.val ⇑s->g.get? ⇑s=some {cls:=.type "tuple",data:=.seq #[en.key,en.val] } ->
   (∀ b o,b≠it->s.heap.get? b≈o->g.get? b≈o)->Q (↥(.ref ⇑s)) {s with heap:=g}):wpAny 0.4 A (pyNext (.ref it)) Q E s:=by
 obtain⟨hp,g,dr,tk,os⟩:=s;obtain⟨o,e,c,da⟩:=id x;have T:Shared.TypeIs ⟨hp,g,dr,tk,os⟩ (.ref it) "dict_itemiterator":=⟨_,hit,Y⟩;have own:Builtin.Dict_items.ownsTuple "dict_itemiterator"=true:=by decide
 unfold pyNext;refine Ja (wpAny_attempt (wpAny_callSpecial?_slot (name:=Str.ofString "__next__") T P9 (wpAny_call_entry P9 T F.entry_dict_itemiterator_next ?_ (F.args_dict_itemiterator_next_1 _))));refine Ja (Jd (Ja (Ja ?_)));first | refine Ja (wpAny_typeNameOfWhole_itemiter T (Jd ?_)) | refine Ja (wpAny_typeNameOf_itemiter T (Jd ?_))
 refine Ja (wpAny_fieldsOf hit rfl ?_);simp only[own,if_true];show wpAny _ _ (if(Value.ref d == Value.none)=true then _ else _) _ _ _;rw[if_neg (show ¬ ((Value.ref d == Value.none)=true)from by intro z;cases z)];refine Ja (Jd (Ja (wpAny_dictEntries e da ?_)));rw[if_neg 0.6];refine Ja (Jd (Ja (wpAny_dictEpoch e da ?_)));rw[if_neg 0.6];refine Jd ?_;simp only[show ¬ ((i:Int)<0)from by omega,if_false,GQ,hx];refine Ja ?_;first | refine Ja (wpAny_typeNameOfWhole_itemiter T (Jd ?_)) | refine Ja (wpAny_typeNameOf_itemiter T (Jd ?_))
 refine Ja (wpAny_isOneOf_itemiter T ?_);show wpAny _ _ (setField (.ref it) 3 (rawInt ((i:Int) + 1))>>=_) _ _ ⟨hp,g,dr,tk,os⟩;refine Ja (wpAny_setField_rec hit 0.6 λg1 z1 e1=>?_);replace e1:Heap.SameBut it hp g1:=e1;replace z1:IsItemIter g1 it d (i + 1) es.size ep ok ov:=by
  have q1:((i + 1:Nat):Int)=(i:Int) + 1:=by omega
  unfold IsItemIter;rw[q1];simpa[rawInt]using z1
 have T1:Shared.TypeIs ⟨g1,g,dr,tk,os⟩ (.ref it) "dict_itemiterator":=⟨_,z1,Y⟩;refine Ja (Jj (Ja (wpAny_isOneOf_itemiter T1 (Ja (wpAny_isOneOf_itemiter T1 ?_)))));show wpAny _ _ (Builtin.Dict_items.pairFromOwner (.ref it) 6 en.key en.val) _ _ ⟨g1,g,dr,tk,os⟩;unfold Builtin.Dict_items.pairFromOwner;refine Ja (wpAny_newTuple ?_);have z2:IsItemIter (g1.push {cls:=.type "tuple",data:=.seq #[en.key,en.val] }) it d (i + 1) es.size ep ok ov:=Yb _ z1;generalize U3:g1.push {cls:=.type "tuple",data:=.seq #[en.key,en.val] }=g2 at z2;have n1:g1.objs.size=hp.objs.size:=e1.1;have il:it<hp.objs.size:=Yf hit;have t2:g2.get? hp.objs.size=some {cls:=.type "tuple",data:=.seq #[en.key,en.val] }:=by rw[<- U3,<- n1];exact Yh _ rfl
 have k2:∀ b o,b≠it->hp.get? b≈o->g2.get? b≈o:=λb o hb e=>by rw[<- U3];exact Yb _ (e1.extBut b o hb e)
 show wpAny _ _ (Builtin.Dict_items.ownedTupleIsFree (.ref it)>>=_) _ _ ⟨g2,g,dr,tk,os⟩;rw[n1];clear U3 z1 e1 T1 n1 g1;refine Ja ?_;unfold Builtin.Dict_items.ownedTupleIsFree;refine Ja (Jg z2 rfl (x:=.none) rfl (Jd ?_));simp only[if_true];refine Ja (Jg z2 rfl (x:=ok) rfl (Ja (Jg z2 rfl (x:=ov) rfl (Ja (wpAny_setField_rec z2 0.6 λg3 z3 e3=>?_)))));replace e3:Heap.SameBut it g2 g3:=e3;replace z3:IsItemIter g3 it d (i + 1) es.size ep en.key ov:=z3;refine Ja (wpAny_setField_rec z3 0.6 λg4 z4 e4=>?_);replace e4:Heap.SameBut it g3 g4:=e4;replace z4:IsItemIter g4 it d (i + 1) es.size ep en.key en.val:=z4;refine Ja (wpAny_setField_rec z4 0.6 λg5 z5 e5=>?_);replace e5:Heap.SameBut it g4 g5:=e5;replace z5:IsItemIterOut g5 it d (i + 1) es.size ep en.key en.val hp.objs.size:=z5;refine Ja (wpAny_setField_rec z5 0.6 λg6 z6 e6=>?_);replace e6:Heap.SameBut it g5 g6:=e6;replace z6:IsItemIterOut g6 it d (i + 1) es.size ep en.key en.val hp.objs.size:=z6;have up:∀ b o,b≠it->g2.get? b≈o->g6.get? b≈o:=λb o hb e=>e6.extBut b o hb (e5.extBut b o hb (e4.extBut b o hb (e3.extBut b o hb e)));exact Ja (wpAny_letGo (Jd (Jd ⟨Z,Jd (q g6 z6 (up _ _ (Bq il) t2) λb o hb e=>up b o hb (k2 b o hb e))⟩)))
def uK{ok ov:ε}{Q:OU->χ->Prop}(hh:A.handled=none)(hit:IsItemIter s.heap it d i es.size ep ok ov)(x:LL s.heap d es ep)(hx:es.size<=i)
  (q:∀ g,Heap.ExtBut it s.heap g->Q none {s with heap:=g}):wpAny 0.4 A (pyNext (.ref it)) Q E s:=by
 obtain⟨o,e,c,da⟩:=id x;have T:s.TypeIs (.ref it) "dict_itemiterator":=⟨_,hit,Y⟩;have own:Builtin.Dict_items.ownsTuple "dict_itemiterator"=true:=by decide
 unfold pyNext;refine Ja (wpAny_attempt (wpAny_callSpecial?_slot (name:=Str.ofString "__next__") T P9 (wpAny_call_entry P9 T F.entry_dict_itemiterator_next ?_ (F.args_dict_itemiterator_next_1 _))));refine Ja (Jd (Ja (Ja ?_)));first | refine Ja (wpAny_typeNameOfWhole_itemiter T (Jd ?_)) | refine Ja (wpAny_typeNameOf_itemiter T (Jd ?_))
 refine Ja (wpAny_fieldsOf hit rfl ?_);simp only[own,if_true];show wpAny _ _ (if(Value.ref d == Value.none)=true then _ else _) _ _ s;rw[if_neg (show ¬ ((Value.ref d == Value.none)=true)from by intro z;cases z)];refine Ja (Jd (Ja (wpAny_dictEntries e da ?_)));rw[if_neg 0.6];refine Ja (Jd (Ja (wpAny_dictEpoch e da ?_)));rw[if_neg 0.6];refine Jd ?_;simp only[show ¬ ((i:Int)<0)from by omega,if_false,GQ,Array.getElem?_eq_none hx];refine Ja ?_;first | refine Ja (wpAny_typeNameOfWhole_itemiter T (Jd ?_)) | refine Ja (wpAny_typeNameOf_itemiter T (Jd ?_))
 show wpAny _ _ (setField (.ref it) 2 .none>>=_) _ _ s;refine Ja (wpAny_setField hit rfl 0.6 ?_);show wpAny _ _ (newExc (.type "StopIteration") []>>=_) _ _ _;refine Ja ?_;simp only[newExc,newTuple];refine Ja (wpAny_newObj_type (Ja (m:=firstArgMember _ _) (wpAny_of_eq (a:=Value.none) (by first | rfl | (simp only[firstArgMember];rfl)) (wpAny_newObj_type ?_ (by size_fits)))) (by size_fits));simp only[raiseNew];refine Ja (wpAny_handled ?_);rw[show A.in1.handled=none from hh];refine Ja (Jd (wpAny_throw ?_));refine Ja (wpAny_isInstance (T:="StopIteration") (b:=true) ⟨_,Yh _ rfl,Y⟩ isSubtype_stop ?_);exact Jd (q _ (((Heap.SameBut.update ..).extBut.push _).push _))
end
section
variable {X:Cx}{π:PL}{σ:St}{H H':Hp}{s:χ}{a:δ}{ν:List (List Key×V)}{o:Obj}
def Inv.freezeT(I:Inv X π σ H s)(h:H a≈(.dT ν))(ho:s.heap.get? a≈o):Inv X π σ (upd H a (.frz o (.dT ν))) s:=by
 have nf:∀ o' v,X.H₀ a≠some (.frz o' v):=λo' v e=>by
  have q:=I.base.frzs a o' v e;rw[h]at q;cases q
 refine I.reAt h (λ_ z=>nomatch z) (λ_ z=>nomatch z) (λ_ z=>nomatch z) nf λk=>⟨ho,k.stay (λ_ _ _ q=>q) (λc q=>?_) λc xs q=>?_⟩
 ·rw[AD]
  ·exact q
  ·rintro rfl;rw[h]at q;cases q
 ·rw[AD]
  ·exact q
  ·rintro rfl;rw[h]at q;cases q
theorem Paired.get{α β:Type}{F:α->β->Prop}:∀ {l:List α}{m:List β},Paired F l m->∀ {i:Nat}{x:α},l[i]?≈x->∃ y,m[i]?≈y/\F x y
 | _,_,.nil,i,x,h=>by simp at h
 | _,_,.cons r t,0,x,h=>by
  simp at h;subst h;exact⟨_,by simp,r⟩
 | _,_,.cons r t,i + 1,x,h=>by
  obtain⟨y,h1,h2⟩:=Paired.get t (i:=i) (x:=x) (by simpa using h);exact⟨y,by simpa using h1,h2⟩
def px{P:ω}{w:World}{h:Heap}(ok:BB P w H h a (.frz o (.dT ν))):∃ es ep,o.data=.dict es ep:=by
 obtain⟨ho,z,hs,xs,r,o',IY,IZ,h1,h2,h3,_⟩:=ok;rw[ho]at h1;cases h1;exact⟨IY,IZ,h3⟩
def Wd{P:ω}{w:World}{h:Heap}{es:Array DictEntry}{ep:Nat}(ok:BB P w H h a (.frz o (.dT ν)))(hd:o.data=.dict es ep):
  (a == sysModules)=false/\LL h a es ep/\es.size=↑ν/\∀(i:Nat) (p:List Key×V),ν[i]?≈p->∃ t u hs,es[i]?≈(⟨hs,.ref t,u⟩:DictEntry)/\H t≈(.tup (p.1.map kV))/\Ae p.2 u:=by
 obtain⟨ho,z,hs,xs,r,o',IY,IZ,h1,h2,h3,h4,h5⟩:=ok;rw[ho]at h1;cases h1;rw[hd]at h3;cases h3;refine⟨hs,⟨o,ho,h2,hd⟩,?_,λi p hp=>?_⟩
 ·rw[size_of_entries h4];exact(Yp r).symm
 ·obtain⟨y,hy,e1,e2,e3⟩:=Paired.get r hp;exact⟨y.2.1,y.2.2,_,by rw[entry_at h4,hy];rfl,e2,e3⟩
end
def QC(a:δ)(o:Obj)(ν:List (List Key×V)):It :=
 ⟨λi H=>i<↑ν/\H a≈(.frz o (.dT ν)),λi H v H'=>∃ t b p,ν[i]?≈p/\H t=none/\H b≈(.tup (p.1.map kV))/\v=.ref t/\H'=upd H t (.tup [.ref b,p.2]),λi H=>↑ν<=i/\H a≈(.frz o (.dT ν))⟩
def tN{P:ω}{w:World}{K:Fg}{elts:μ}{x1}{pos:Pos}(a it:δ)(o:Obj)(ν:List (List Key×V))(es:Array DictEntry)(ep:Nat)(hd:o.data=.dict es ep):
  FD P w K (.Tuple elts x1 pos) (QC a o ν) [it] it (λi h=>∃ ok ov,IsItemIter h it a i ↑ν ep ok ov) where
 mem:=by simp
 obj:=λi h st b hb=>by
  have e:b=it:=by simpa using hb
  subst e;obtain⟨ok,ov,st⟩:=st;exact⟨_,st,λv z=>by cases z⟩
 keep:=λi h h' st k=>by
  obtain⟨ok,ov,st⟩:=st;exact⟨ok,ov,k it 0.6 _ st⟩
 item:=by
  intro X hP hw hK hc i π s σ H E I hf st hg;subst hP hw hK;obtain⟨f0,f1,f2,f3,f4,f5⟩:=hf it 0.6;obtain⟨hi,ha⟩:=hg;obtain⟨ok,ov,st⟩:=st;obtain⟨_,Nv,hl,ge⟩:=Wd (I.hok a _ ha) hd;obtain⟨p,hp⟩:∃ p,ν[i]?≈p:=⟨ν[i],by simp[hi]⟩;obtain⟨b0,u,hs,hu,OI,ru⟩:=ge i p hp;rw[<- hl]at st;refine uL st Nv hu λh' BW ht keep=>?_;refine⟨Z,?_⟩;refine wpAny_letOwnedTupleGo_items (s:={s with heap:=h' }) BW λOP Li sb=>?_;have itlt:it<⇑s:=Yf st;have tne:⇑s≠it:=Bq itlt;have AS:OP.get? ⇑s=some {cls:=.type "tuple",data:=.seq #[.ref b0,u] }:=sb.extBut _ _ tne ht;have I1:Inv X π σ (upd H ⇑s (.tup [.ref b0,p.2])) {s with heap:=OP }:=I.turnedNew (t':=s.toks) (λb o hb e=>sb.extBut b o hb (keep b o hb e)) f0 f1 f3 f4 f5 (Ye _)
   ⟨W,[.ref b0,u],.cons rfl (.cons ru .nil),⟨_,AS,Y,Z⟩⟩
  refine⟨.ref ⇑s,_,I1,Y,⟨⇑s,b0,p,hp,I.hok.fresh (Ye _),OI,Y,Y⟩,⟨G,by rw[<- hl];exact Li⟩,λb hb=>?_⟩;have e:b=it:=by simpa using hb
  subst e;rw[AD (Yw tne)];exact(hf b 0.6).1
 done:=by
  intro X hP hw hK hc i π s σ H E I hf st hg;subst hP hw hK;obtain⟨f0,f1,f2,f3,f4,f5⟩:=hf it 0.6;obtain⟨hi,ha⟩:=hg;obtain⟨ok,ov,st⟩:=st;obtain⟨_,Nv,hl,ge⟩:=Wd (I.hok a _ ha) hd;rw[<- hl]at st;exact uK (I.ok.hd hc) st Nv 0.0 λh' eb=>⟨Y,I.turned (t':=s.toks) (λb o hb e=>eb b o hb e) f0 f1 f3 f4 f5⟩
 self:=λA i s Q E st h=>by
  obtain⟨ok,ov,st⟩:=st;exact W.kcp_self st h
section
variable {X:Cx}{tg:Expr}
def lD(R:Obj->Hp->Prop)(H:Hp)(a:δ)(ν:List (List Key×V)):Prop :=
 (H a≈(.dT ν)/\∀ ob,R ob (upd H a (.frz ob (.dT ν))))\/∃ ob,H a≈(.frz ob (.dT ν))/\R ob H
def atT{π:PL}{σ:St}{H:Hp}{s:χ}{a:δ}{ν:List (List Key×V)}{R:Obj->Hp->Prop}(I:Inv X π σ H s)(h:lD R H a ν):
  ∃ ob H',Inv X π σ H' s/\H' a≈(.frz ob (.dT ν))/\R ob H':=by
 rcases h with⟨h,q⟩ | ⟨ob,h,q⟩
 ·obtain⟨o,ho⟩:∃ o,s.heap.get? a≈o:=by
   obtain⟨_,_,xs,_,o,_,_,e,_⟩:=I.hok a _ h;exact⟨o,e⟩
  exact⟨o,_,I.freezeT h ho,uS,q o⟩
 ·exact⟨ob,H,I,h,q⟩
inductive d9(R:It->Hp->Prop)(x:V)(H1:Hp):Prop
 | mk:∀ a ν,x=.ref a->lD (λob H'=>R (QC a ob ν) H') H1 a ν->d9 R x H1
def wZ(to:TE):TI:=λσ H R=>to σ H λx H1=>d9 R x H1
def ft{elts:μ}{x1}{Dl:Pos}{o:Expr}{to:TE}{apos Ac:Pos}(ho:PE X o to)(Ba:attributeBase o "items" X.env (eval o X.env)=eval o X.env:=by rfl)(BZ:(apos.endLine == Ac.line)=true:=by rfl):
  PI X (.Tuple elts x1 Dl) (.Call (.Attribute o "items" apos) [] [] Ac) (wZ to):=by
 intro π s σ H R I h;refine wpAny_Call_method0_late Ba BZ (AM (ho π s σ H _ I h) λv s1 ⟨x,H0,I0,r1,q1⟩=>?_);obtain⟨a,ν,e,q⟩:=q1;subst e;obtain rfl:v=Value.ref a:=r1;obtain⟨ob,H1,I1,ha,q⟩:=atT I0 q;obtain⟨t1,t2,t3⟩:=Rj I1 (.inr ⟨ν,.inr ⟨ob,ha⟩⟩);obtain⟨es,ep,hd⟩:=px (I1.hok a _ ha);obtain⟨hs,Nv,hl,ge⟩:=Wd (I1.hok a _ ha) hd;refine⟨"dict","dict.items",Tq,NV,YB,t1,t2,NT rfl (Pz ?_)⟩;refine call_meetsIn NV t1 YF (YJ _) (uW t3) ⟨t1,?_⟩;have I2:Inv X π σ H1 {s1 with heap:=s1.heap.push {cls:=.type "dict_items",data:=.fields #[.ref a] } }:=I1.kept (t':=s1.toks) λb o e=>Yb _ e;refine uF (es:=es) (ep:=ep) ⟨_,Yh _ rfl,Y,Y⟩ (Nv.at λo e=>Yb _ e) ?_;refine⟨_,[_],G,H1,Y,I2.kept (t':=s1.toks) λb o e=>Yb _ e,tN a _ ob ν es ep hd,⟨.none,.none,?_⟩,λb hb=>?_,q⟩
 ·rw[<- hl];exact Yh _ rfl
 ·have e:b=_:=Yc.mp hb;subst e;exact I2.fpOk (Ye _) (I2.hok.fresh (Ye _))
end
def gW{a:δ}{o:Obj}{ν:List (List Key×V)}{g:TG}{tb:TS}{D:Cy}{σ:St}{H:Hp}(Pv:NW)(h0:Pv 0 σ H)(hl:∀ i σ H,i<=↑ν->Pv i σ H->H a≈(.frz o (.dT ν)))
  (hs:∀ i p t b σ H,ν[i]?≈p->Pv i σ H->H t=none->H b≈(.tup (p.1.map kV))->g (.ref t) σ (upd H t (.tup [.ref b,p.2])) λσ2 H2=>tb {D with nx:=Pv (i + 1),ct:=Pv (i + 1),bk:=D.nx} σ2 H2) (hd:∀ σ H,Pv ↑ν σ H->D.nx σ H):
  ∃ W:Nat->Nat->St->Hp->Prop,(∃ m,W 0 m σ H)/\∀ i m σ H,W i m σ H ->
   ((QC a o ν).stop i H/\D.nx σ H)\/((QC a o ν).go i H/\∃ N:SW,(∀ σ' H',N σ' H'->∃ m',m'<m/\W (i + 1) m' σ' H')/\∀ x H',(QC a o ν).yld i H x H'->g x σ H' λσ2 H2=>tb {D with nx:=N,ct:=N,bk:=D.nx} σ2 H2):=by
 refine⟨λi m σ H=>m=↑ν - i/\i<=↑ν/\Pv i σ H,⟨↑ν,by simp,BC _,h0⟩,?_⟩;rintro i m σ H ⟨rfl,hi,p⟩;have q:=hl i σ H hi p;by_cases A2:i<↑ν
 ·refine .inr ⟨⟨A2,q⟩,Pv (i + 1),λσ' H' p'=>⟨↑ν - (i + 1),O,Y,A2,p'⟩,λx H' y=>?_⟩;obtain⟨t,b,pr,hp,ht,hb,rfl,rfl⟩:=y;exact hs i pr t b σ H hp p ht hb
 ·have e:i=↑ν:=by omega
  subst e;exact .inl ⟨⟨Ye _,q⟩,hd σ H p⟩
def eN{K:Fg}{J:It}{xs:LV}{Ok:Hp->Prop}(R:EW J xs Ok){js:LN}{tt:TT}{te:TE}{σ:St}{Q:VK}{H1:Hp}(hz:↑xs<=sizeLine)(p:V->Bool)(F:δ->V->V->Hp->Prop)(l r:V->V)
  (hF:∀ D x v H H',(∀ b o,b≠D->H b≈o->H' b≈o)->F D x v H->F D x v H')
  (hok:∀ H,AA H1 H->Ok H) (hp:∀ x∈xs,∃ t,x=.ref t/\H1 t≈(.tup [l x,r x]))
  (ht:∀ x H (R:Bool->Hp->Prop),AA H1 H->x∈xs->(∀ H',AA H H'->R (p x) H')->tt (↥(l x):: some (r x):: js.map λj=>(σ[j]?).join) H R)
  (he:∀ D x H (R:V->Hp->Prop),AA H1 H->(∃ ys,H D≈(.lst ys))->H1 D=none->x∈xs->p x=true->(∀ v H',AA H H'->F D x v H'->R v H')->te (↥(l x):: some (r x):: js.map λj=>(σ[j]?).join) H R)
  (hd:∀ D H' ys,H1 D=none->AA H1 H'->H' D≈(.lst ys)->Paired (λx v=>F D x v H') (xs.filter p) ys->Q (.ref D) H'):
  AZ 2 js (g2 K 0 1) tt te σ Q J H1:=by
 refine LG R hz (λD i ys σ' H=>H1 D=none/\AA H1 H/\H D≈(.lst ys)/\Paired (λx v=>F D x v H) ((xs.take i).filter p) ys/\∃ o u,σ'=o :: u :: js.map λj=>(σ[j]?).join) ?_ ?_ ?_ ?_
 ·intro D hD;exact⟨hD,AI hD,uS,by simpa using Paired.nil,none,none,Y⟩
 ·rintro D i ys σ' H hi ⟨hD,hs,hl,q,_⟩;refine⟨hok H hs,?_⟩;rw[<- ↑q];exact BL (IJ _ _) (by rw[Yv];omega)
 ·rintro D i x ys σ' H hD hx ⟨_,hs,hl,q,o,u,rfl⟩;have mono:∀ {H H':Hp},(∀ b o,b≠D->H b≈o->H' b≈o)->Paired (λx v=>F D x v H) ((xs.take i).filter p) ys->Paired (λx v=>F D x v H') ((xs.take i).filter p) ys:=λh q=>Paired.mapP q λa b z=>hF D a b _ _ h z;have hm:x∈xs:=Yd hx;obtain⟨t,rfl,hxt⟩:=hp x hm;refine Xq (AG.of (hs _ _ hxt)) ?_;show tt (↥(l (.ref t)):: some (r (.ref t)):: js.map λj=>(σ[j]?).join) H _;refine ht (.ref t) H _ hs hm λH4 s4=>?_;have Ga:=hs.trans s4;cases hpx:p (.ref t)with
  | true =>
   rw[if_pos rfl];refine he D (.ref t) H4 _ Ga ⟨_,s4 _ _ hl⟩ hD hm hpx λv H5 s5 f5=>⟨s5 _ _ (s4 _ _ hl),hD,λb o e=>?_,uS,?_,_,Z⟩
   ·rw[AD (AK e hD)];exact s5 _ _ (Ga _ _ e)
   ·rw[Pd p xs i _ hx,hpx,if_pos rfl];exact CH (mono (λb o hb e=>by rw[AD hb];exact s5 _ _ (s4 _ _ e)) q) (hF D _ _ _ _ (λb o hb e=>by rw[AD hb];exact e) f5)
  | false =>
   rw[if_neg Yl];refine⟨hD,Ga,s4 _ _ hl,?_,_,Z⟩;rw[Pd p xs i _ hx,hpx,if_neg Yl,EM];exact mono (λb o _ e=>s4 _ _ e) q
 ·rintro D ys σ' H hD ⟨_,hs,hl,q,_⟩;rw[Bt]at q;exact hd D H ys hD hs hl q
structure GX(h:Heap)(e T:δ)(cls:ε)(dx:Option δ)(fl:ε):Prop where
 ne:T≠e
 obj:∃ oe vs,h.get? e≈oe/\oe.cls=cls/\oe.dict=dx/\oe.data=.fields vs/\vs[1]?≈(.ref T)
 tb:∃ oT ts,h.get? T≈oT/\oT.data=.fields ts/\ts[3]?≈fl
structure A1(S R:ζ)(h h':Heap):Prop where
 sz:h.objs.size<=h'.objs.size
 keep:∀ b o,h.get? b≈o->b∉S->b∉R->h'.get? b≈o
 slot:∀ b o,h.get? b≈o->b∉R->∃ sl,h'.get? b=some {o with slots:=sl}
 there:∀ b o,h.get? b≈o->∃ o',h'.get? b≈o'
def A1.mono{S S' R R':ζ}{h h':Heap}(c:A1 S R h h')(hs:∀ b∈S,b∈S')(hr:∀ b∈R,b∈R'):A1 S' R' h h' :=
 ⟨c.sz,λb o e n1 n2=>c.keep b o e (λz=>n1 (hs b z)) λz=>n2 (hr b z),λb o e n=>c.slot b o e λz=>n (hr b z),c.there⟩
def A1.trans{S R:ζ}{h h1 h2:Heap}(a:A1 S R h h1)(b:A1 S R h1 h2):A1 S R h h2 :=
 ⟨BL a.sz b.sz,λc o e n1 n2=>b.keep c o (a.keep c o e n1 n2) n1 n2,λc o e n=>by
  obtain⟨sl,e1⟩:=a.slot c o e n;obtain⟨Nq,e2⟩:=b.slot c _ e1 n;exact⟨Nq,e2⟩,λc o e=>by
  obtain⟨o1,e1⟩:=a.there c o e;exact b.there c o1 e1⟩
def A1.drop{S R:ζ}{h h':Heap}{t:δ}(c:A1 S (t :: R) h h')(ht:h.objs.size<=t):A1 S R h h' :=
 ⟨c.sz,λb o e n1 n2=>c.keep b o e n1 λz=>(Yk.mp z).elim (λq=>absurd (Yf e) (by rw[q];exact Nat.not_lt.mpr ht)) n2,
  λb o e n=>c.slot b o e λz=>(Yk.mp z).elim (λq=>absurd (Yf e) (by rw[q];exact Nat.not_lt.mpr ht)) n,c.there⟩
def uU(f:τ->τ)(o:Obj):(Obj.mapFields f o).dict=o.dict:=by
 obtain⟨c,d,dt,sl⟩:=o;cases dt <;> rfl
def A1.setF{h:Heap}{T:δ}{oT:Obj}{ts:τ}{f:τ->τ}(hT:h.get? T≈oT)(hd:oT.data=.fields ts):A1 [] [T] h (h.update T (Obj.mapFields f)):=by
 have other:∀ b,b≠T->(h.update T (Obj.mapFields f)).get? b=h.get? b:=λb hb=>IM _ _ (Yw hb);refine⟨Nat.le_of_eq (Heap.size_after_update ..).symm,λb o e _ n=>(other b λz=>n (by simp[z])).trans e,λb o e n=>⟨o.slots,(other b λz=>n (by simp[z])).trans e⟩,λb o e=>?_⟩;by_cases hb:b=T
 ·subst hb;exact⟨_,JJ _ hT (P7 (NZ hd _))⟩
 ·exact⟨o,(other b hb).trans e⟩
def A1.entry{S:ζ}{h g:Heap}{e:δ}{oe nb:Obj}{vs ts:τ}{fl:ε}(sl:Heap.SlotsOnly S h g)(ns:e∉S)(he:h.get? e≈oe)(hd:oe.data=.fields vs)(hsz:1<vs.size)(hnb:nb.data=.fields ts)(h3:ts[3]?≈fl):
  GX ((g.push nb).update e (Obj.mapFields λr=>r.setIfInBounds 1 (.ref g.objs.size))) e g.objs.size oe.cls oe.dict fl/\A1 S [e] h ((g.push nb).update e (Obj.mapFields λr=>r.setIfInBounds 1 (.ref g.objs.size))):=by
 have ge:g.get? e≈oe:=(sl.2.1 e ns).trans he;have apart:g.objs.size≠e:=Bq (Yf ge);have pe:(g.push nb).get? e≈oe:=Yb nb ge;have data:=NZ hd λr=>r.setIfInBounds 1 (Value.ref g.objs.size);have self:=JJ (Obj.mapFields λr=>r.setIfInBounds 1 (Value.ref g.objs.size)) pe (P7 data);have Am:∀ b o,b≠e->g.get? b≈o->((g.push nb).update e (Obj.mapFields λr=>r.setIfInBounds 1 (.ref g.objs.size))).get? b≈o:=λb o n q =>
  (IM _ _ λz=>n z.symm).trans (Yb nb q)
 have tnew:(g.push nb).get? g.objs.size≈nb:=Yh g (P7 hnb);refine⟨⟨apart,⟨G,self,Obj.cls_mapFields _ _,uU _ _,data,by simp[hsz]⟩,⟨nb,ts,(IM _ _ λz=>apart z.symm).trans tnew,hnb,h3⟩⟩,⟨?_,λb o q n1 n2=>?_,λb o q n=>?_,λb o q=>?_⟩⟩
 ·rw[Heap.size_after_update,Fs,sl.1];omega
 ·exact Am b o (λz=>n2 (z ▸ Yj)) ((sl.2.1 b n1).trans q)
 ·obtain⟨k,r⟩:=sl.2.2 b o q;exact⟨k,Am b _ (λz=>n (z ▸ Yj)) r⟩
 ·obtain⟨k,r⟩:=sl.2.2 b o q;by_cases z:b=e
  ·subst z;exact⟨_,self⟩
  ·exact⟨_,Am b _ z r⟩
section
variable {M:Model}{A:Around}{E:EV}{s:χ}
def dU{base:Heap}{env:Env}{outer:List Env}{L e:δ}{oe:Obj}{vs:τ}{head:ε}{hadNext:Bool}{Q:Unit->χ->Prop}
  (hfr:A.frames≈(env :: outer)) (hl:s.heap.FunFrames base (env :: outer)) (hf:env.frame≈L) (he:s.heap.get? e≈oe) (hd:oe.data=.fields vs) (hsz:1<vs.size)
  (h:∀ h' T,⇑s<=T->GX h' e T oe.cls oe.dict (rawInt L)->A1 (CV (env :: outer)) [e] s.heap h'->Q () {s with heap:=h' }):
  wpAny M A (frameOf env>>=λa=>entryPlaceOf L hadNext>>=λpl=>EntryCells.newEntry head a .none (rawInt L) .none pl>>=λb=>setField (.ref e) 1 b) Q E s:=by
 have nf:e∉CV (env :: outer):=λm=>by
  have q:=(hl.mem m).2;rw[he]at q;obtain⟨_,r1,r2⟩:=q;cases r1;exact r2 vs hd
 apply Ja;refine wpAny_frameOf_fun hfr hl hf λg1 Ud=>Ja (wpAny_entryPlaceOf λpl place=>Ja ?_);have three:∀ xs:LU,IsPlace xs->([head,Value.ref L,.none,rawInt L,.none]++(if xs.isEmpty then List.replicate 6 Value.none else xs)).toArray[3]?≈(rawInt L):=λxs _=>by simp
 have laid:=A1.entry (nb:={cls:=.type "traceback",data:=.fields ([head,.ref L,.none,rawInt L,.none]++(if pl.isEmpty then List.replicate 6 Value.none else pl)).toArray}) Ud nf he hd hsz rfl (three pl place);refine wpAny_newObj_type (wpAny_setField (Yb _ ((Ud.2.1 e nf).trans he)) hd hsz ?_) (place.sizeOk5 _ _ _ _ _);exact h _ _ (Nat.le_of_eq Ud.1.symm) laid.1 laid.2
def SR{e T:δ}{cls fl:ε}{dx:Option δ}{Q:Unit->χ->Prop}(a:GX s.heap e T cls dx fl)
  (h:∀ h',GX h' e T cls dx .none->A1 [] [T] s.heap h'->Q () {s with heap:=h' }):wpAny M A (setFlight (.ref e) none) Q E s:=by
 obtain⟨ne,⟨oe,vs,he,hc,hdx,hd,h1⟩,⟨oT,ts,hT,hdT,h3⟩⟩:=a;obtain⟨QY,_⟩:=Tz.mp h3;have some_:(Value.ref T != Value.none)=true:=by simp
 unfold setFlight;apply Ja;apply Jg he hd h1;rw[if_pos some_];refine wpAny_setField hT hdT QY (h _ ⟨ne,⟨oe,vs,(IM _ _ ne).trans he,hc,hdx,hd,h1⟩,⟨G,JJ _ hT (P7 (NZ hdT _)),NZ hdT _,by simp[QY]⟩⟩ (A1.setF hT hdT))
def fQ{base:Heap}{env:Env}{outer:List Env}{L e T:δ}{cls:ε}{dx:Option δ}{Q:Unit->χ->Prop}
  (hfr:A.frames≈(env :: outer)) (hl:s.heap.FunFrames base (env :: outer)) (hf:env.frame≈L) (a:GX s.heap e T cls dx .none)
  (h:∀ h' T',⇑s<=T'->GX h' e T' cls dx (rawInt L)->A1 (CV (env :: outer)) [e,T] s.heap h'->Q () {s with heap:=h' }):wpAny M A (noteFrame (.ref e) env) Q E s:=by
 obtain⟨ne,⟨oe,vs,he,hc,hdx,hd,h1⟩,⟨oT,ts,hT,hdT,h3⟩⟩:=a;subst hc hdx;have some_:(Value.ref T != Value.none)=true:=by simp
 have apart:¬ (Value.none == rawInt L)=true:=by simp[rawInt]
 have c1:A1 [] [T] s.heap (s.heap.update T (Obj.mapFields λr=>r.setIfInBounds 3 Value.none)):=A1.setF hT hdT;have kept:∀ b o,s.heap.get? b≈o->b≠T->(s.heap.update T (Obj.mapFields λr=>r.setIfInBounds 3 Value.none)).get? b≈o:=λb o q n=>c1.keep b o q (λz=>nomatch z) λz=>n (Yc.mp z);unfold noteFrame;simp only[hf];apply Ja;apply Jg he hd h1;rw[if_pos some_];apply Ja;apply Jg hT hdT h3;rw[if_neg apart];apply Ja;refine wpAny_setField hT hdT (Tz.mp h3).1 ?_;refine dU hfr (hl.of_keeps λb o q nf=>⟨o,kept b o q λz=>by subst z;rw[hT]at q;cases q;exact nf ts hdT,Y⟩) hf (kept e oe he λz=>ne z.symm) hd (Tz.mp h1).1 λh' T' IV a' c'=>?_;exact h h' T' (BL c1.sz IV) a' ((c1.mono (λb z=>nomatch z) λb z=>by simp at z;simp[z]).trans (c'.mono (λb z=>z) λb z=>by simp at z;simp[z]))
def pN{base:Heap}{env:Env}{outer:List Env}{L e:δ}{oe:Obj}{vs:τ}{Q:Unit->χ->Prop}
  (hfr:A.frames≈(env :: outer)) (hl:s.heap.FunFrames base (env :: outer)) (hf:env.frame≈L) (he:s.heap.get? e≈oe) (hd:oe.data=.fields vs) (h1:vs[1]?≈.none)
  (h:∀ h' T,⇑s<=T->GX h' e T oe.cls oe.dict .none->A1 (CV (env :: outer)) [e] s.heap h'->Q () {s with heap:=h' }):wpAny M A (leaving env (.ref e)) Q E s:=by
 unfold leaving noteFrame;simp only[hf];apply Ja;apply Ja;apply Jg he hd h1;rw[if_neg 0.1];refine dU hfr hl hf he hd (Tz.mp h1).1 λh' T hT a c=>?_;refine SR a λh2 a2 c2=>h h2 T hT a2 ?_;have c3:A1 (CV (env :: outer)) [T,e] s.heap h2:=(c.mono (λb z=>z) λb z=>by simp at z;simp[z]).trans (c2.mono (λb z=>nomatch z) λb z=>by simp at z;simp[z]);exact c3.drop hT
def xZ{base:Heap}{env:Env}{outer:List Env}{L e T:δ}{cls:ε}{dx:Option δ}{Q:Unit->χ->Prop}
  (hfr:A.frames≈(env :: outer)) (hl:s.heap.FunFrames base (env :: outer)) (hf:env.frame≈L) (a:GX s.heap e T cls dx .none)
  (h:∀ h' T',⇑s<=T'->GX h' e T' cls dx .none->A1 (CV (env :: outer)) [e,T] s.heap h'->Q () {s with heap:=h' }):wpAny M A (leaving env (.ref e)) Q E s:=by
 unfold leaving;refine Ja (fQ hfr hl hf a λh' T' hT a' c=>?_);refine SR a' λh2 a2 c2=>h h2 T' hT a2 ?_;have c3:A1 (CV (env :: outer)) [T',e,T] s.heap h2:=(c.mono (λb z=>z) λb z=>by simp at z;rcases z with z | z <;> simp[z]).trans (c2.mono (λb z=>nomatch z) λb z=>by simp at z;simp[z]);exact c3.drop hT
end
def BU.chg{P:ω}{w:World}{H:Hp}{h h':Heap}{S R:ζ}(x:BU P w H h)(c:A1 S R h h')(hS:∀ b∈S,H b=none)(hR:∀ b∈R,H b=none):BU P w H h':=λa o e =>
 (x a o e).stay (λb u hb q=>by
  have hn:H b≠none:=by
   rcases hb with z | z
   ·rw[z,e];simp
   ·rw[z];simp
  exact c.keep b u q (λz=>hn (hS b z)) λz=>hn (hR b z)) (λ_ q=>q) λ_ _ q=>q
def Un.chg{fs ex S R:ζ}{H:Hp}{h h':Heap}(c:A1 S R h h')(hS:∀ b∈S,b∈fs)(hR:∀ b∈R,b∈ex):Un fs ex H H h h' :=
 ⟨λb o e n hb hx=>c.keep b o e (λz=>hb (hS b z)) λz=>hx (hR b z),λb o e n hb hx=>c.slot b o e λz=>hx (hR b z),λ_ _ _ n _=>n,λb o e _=>c.there b o e,λ_ _ q=>q,λ_ _ _ q=>q,λ_ ps q=>⟨#[],by rw[q];simp⟩⟩
def Ct(P:ω)(w:World):FW:=λouter H s E ev s'=>∃(e T:δ) (cls:ε) (dx:Option δ) (H':Hp),ev=.ref e/\s'.os=s.os/\AllBare s'.gens/\Un (CV outer) [] H H' s.heap s'.heap/\BU P w H' s'.heap /\
 H' e=none/\H' T=none/\⇑s<=e/\⇑s<=T/\GX s'.heap e T cls dx .none/\E cls dx H'
structure Cs(X:Cx)(E:XK):Prop where
 xe:X.xe=λe s'=>wpAny 0.3 X.A (leaving X.env e) (λ_ Cf=>Ct X.prog X.w X.outer X.H₀ X.s₀ E e Cf) (λe' Cf=>Ct X.prog X.w X.outer X.H₀ X.s₀ E e' Cf) s'
 stk:X.stack=X.env :: X.outer
 fr:X.env.frame≈X.env.locals
 ex:X.ex=[]
def Cs.of{P:ω}{w:World}{K:Fg}{mg:Str->OU}{base:Heap}{N:LS}{qual:Str}{scope:Scope}{f:δ}{cd:ε}{A:Around}{outer:List Env}{s:χ}{H:Hp}{E:XK} :
  Cs (J_ (Ct P w) P w K mg base N qual scope f cd A outer s H E) E:=⟨Y,Y,Y,Y⟩
section
variable {X:Cx}{π:PL}{σ:St}{H:Hp}{s:χ}{E:XK}{e T:δ}{cls:ε}{dx:Option δ}
def Cs.old(F:Cs X E)(f:Cv X π H e):⇑X.s₀<=e:=by
 rcases f.2.2.2.1 with z | z
 ·rw[F.ex]at z;cases z
 ·exact z
def Cs.un{h':Heap}{R:ζ}(F:Cs X E)(I:Inv X π σ H s)(c:A1 (CV X.stack) R s.heap h')(hR:∀ b∈R,⇑X.s₀<=b):Un X.fs [] X.H₀ H X.s₀.heap h':=by
 have B:=I.base;have hx:∀ b,b∉X.ex:=λb z=>by rw[F.ex]at z;cases z
 have ns:∀ b o,X.s₀.heap.get? b≈o->b∉X.fs->b∉CV X.stack:=λb o q n z=>by
  rcases Yk.mp (I.stkSub b z)with r | r
  ·exact absurd (Yr (Yf q) (by rw[r];exact I.ok.above)) (Fu _)
  ·exact n r
 have nr:∀ b o,X.s₀.heap.get? b≈o->b∉R:=λb o q z=>absurd (Yr (Yf q) (hR b z)) (Fu _);refine⟨λb o q n hb _=>c.keep b o (B.keep b o q n hb (hx b)) (ns b o q hb) (nr b o q),λb o q n hb _=>?_,λb o q n _=>B.free b o q n (hx b),λb o q _=>?_,B.tups,B.frzs,B.tbls⟩
 ·obtain⟨sl,e1⟩:=B.slot b o q n hb (hx b);obtain⟨Nq,e2⟩:=c.slot b _ e1 (nr b o q);exact⟨Nq,e2⟩
 ·obtain⟨o1,e1⟩:=B.there b o q (hx b);exact c.there b o1 e1
def Cs.leave(F:Cs X E)(I:Inv X π σ H s)(fe:Cv X π H e)(fT:Cv X π H T)(a:GX s.heap e T cls dx .none)(h:E cls dx H):X.xe (.ref e) s:=by
 rw[F.xe];have hfr:X.A.frames≈(X.env :: X.outer):=by rw[<- F.stk];exact I.ok.frames
 have hl:s.heap.FunFrames X.base (X.env :: X.outer):=by rw[<- F.stk];exact I.stack
 refine xZ hfr hl F.fr a λh' T' IV a' c=>?_;rw[<- F.stk]at c;exact⟨e,T',cls,dx,H,Y,I.os,I.bare,F.un I c λb z=>by simp at z;rcases z with z | z <;> rw[z];exact F.old fe;exact F.old fT,
  I.hok.chg c I.stkFree (λb z=>by simp at z;rcases z with z | z <;> rw[z];exact fe.1;exact fT.1),fe.1,I.hok.fresh IV,F.old fe,BL I.sz IV,a',h⟩
def Cs.raised{oe:Obj}{vs:τ}(F:Cs X E)(I:Inv X π σ H s)(fe:Cv X π H e)(he:s.heap.get? e≈oe)(hd:oe.data=.fields vs)(h1:vs[1]?≈.none)(h:E oe.cls oe.dict H):X.xe (.ref e) s:=by
 rw[F.xe];have hfr:X.A.frames≈(X.env :: X.outer):=by rw[<- F.stk];exact I.ok.frames
 have hl:s.heap.FunFrames X.base (X.env :: X.outer):=by rw[<- F.stk];exact I.stack
 refine pN hfr hl F.fr he hd h1 λh' T' IV a' c=>?_;rw[<- F.stk]at c;exact⟨e,T',oe.cls,oe.dict,H,Y,I.os,I.bare,F.un I c λb z=>by simp at z;rw[z];exact F.old fe,
  I.hok.chg c I.stkFree (λb z=>by simp at z;rw[z];exact fe.1),fe.1,I.hok.fresh IV,F.old fe,BL I.sz IV,a',h⟩
def Oa(F:Cs X E):IB (Ct X.prog X.w) X E:=by
 rintro π σ H s ev s' I ⟨e,T,cls,dx,H',rfl,os,bare,un,hok,he,hT,se,sT,a,h⟩;have I':Inv X π σ H' s':=I.call' (ch:=[]) os un hok bare λb z=>nomatch z;exact F.leave I' (I.fpOk se he) (I.fpOk sT hT) a h
end
def BQ.any{P:ω}{w:World}{K:Fg}{mg:Str->OU}{base:Heap}{CX:FW}{k:Nat}{ps:LS}{sp:Sp}(F:BQ P w K mg base JS k f fd ps sp):BQ P w K mg base CX k f fd ps sp :=
 ⟨F.len,λA outer s H args us vs Q E hr he hb hv hs=>codeAny_mono (F.run A outer s H args us vs Q E hr he hb hv hs) λr s' hq=>by
  cases r with
  | error e=>exact False.elim hq
  | ok fl=>cases fl <;> exact hq⟩
def BR.ok1{P:ω}{w:World}{K:Fg}{mg:Str->OU}{base:Heap}{x qual:Str}{st:Stmt}{N ps:LS}{k:Nat}{sp:Sp}(F:BR K x qual st f fd)(S:Aa N ps (AL st))(len:∀ vs H Q E,sp vs H Q E->↑vs=↑ps)
  (hbody:∀(Az:ε) (A:Around) (outer:List Env) (s:χ) (H:Hp) (vs:LV) (Q:VK) (E:XK),Ab k (A.deeper (envOfC qual (AL st) ⇑s f Az))->sp vs H Q E ->
   ∃ t,Bc (J_ (Ct P w) P w K mg base N qual (AL st) f Az A outer s H E) (Cn st) t/\t {nx:=λ_ H'=>Q .non H',rt:=Q} (start N vs) H):BQ P w K mg base (Ct P w) (k + 1) f fd ps sp:=by
 obtain⟨oc,od,kV,doc,pm,an,Az,ct,osl,rfl,lk,hcd⟩:=F.ex;refine iD lk hcd S len λA outer s H vs Q E hr hsp=>?_;exact hbody Az A outer s H vs Q E hr hsp
end L2
namespace L2
open PySem PySem.Spec
structure ExC(K:Fg)(C:δ):Prop where
 obj:∃ nm q N bs bm hdct sn sub ab col dd k0 k1 k2 k3 k5,K.lookup C≈(excClassObj nm q C N bs bm hdct sn sub ab col dd k0 k1 k2 k3 k5 "ValueError.__new__")
 val:W.subIn K (.ref C) (.type "ValueError")≈true
 bas:W.subIn K (.ref C) (.type "BaseException")≈true
 att:W.subIn K (.ref C) (.type "AttributeError")≈false
 nam:W.subIn K (.ref C) (.type "NameError")≈false
 kp:W.keepIn K (.ref C)=true
abbrev FP(C t:δ):Obj:={cls:=.ref C,data:=.fields #[.ref t,.none,.none,.none,.bool false,.none] }
abbrev Gj(us:LU):Obj:={cls:=.type "tuple",data:=.seq us.toArray}
section
variable {K:Fg}{prog:ω}{w:World}{A:Around}{E:EV}{h:Heap}{g:Array GenState}{d:Drawn}{t:Nat}{os:OsState}{C:δ}
def Iv{nm q:Str}{N:δ}{bs bm:LU}{hdct:Bool}{sn:LS}{sub:LU}{ab:Bool}{col:Option Bool}{dd:Option δ}{k0 k1 k2 k3 k5:OU}{nid:String}{x:ε}{b:Bool}
  (l:K.lookup C≈(excClassObj nm q C N bs bm hdct sn sub ab col dd k0 k1 k2 k3 k5 nid)) (e:W.subIn K (.ref C) x≈b):(Value.ref C :: bm).contains x=b:=by
 have e2:((W.clsIn K C).bind λcd=>if cd.mro.isEmpty=true then none else ↥(cd.mro.contains x))≈b:=e;have e3:W.clsIn K C=some {name:=nm,bases:=bs,mro:=.ref C :: bm,ns:=N,qualname:=q,hasDict:=hdct,slotNames:=sn,subclasses:=sub,abstract:=ab,collection:=col,hasDel:=false}:=by
  unfold W.clsIn;rw[l]
 rw[e3]at e2;exact Bk e2
def vk{Am:LU}{R:Result->χ->Prop}(X:K.In h)(c:ExC K C)(hrest:Am.length<=sizeLine)
  (hq:R (.ok (.ret (.ref (h.objs.size + 1)))) ⟨(h.push (Gj Am)).push (FP C h.objs.size),g,d,t,os⟩):
  codeAny 0.4 A (.builtin "ValueError.__new__" ⟨.ref C :: Am,[]⟩) R ⟨h,g,d,t,os⟩:=by
 obtain⟨nm,q,N,bs,bm,hdct,sn,sub,ab,col,dd,k0,k1,k2,k3,k5,lk⟩:=c.obj;have Fv:=X9;have cV:=Iv lk c.val;have cA:=Iv lk c.att;have cN:=Iv lk c.nam;have hC:=X _ _ lk;have hends:=Fv.ends;refine codeAny_builtinAt Fv.entry ?_;unfold Builtin.«BaseException.__new__»;apply PySem.wpAt_bind;show PySem.wpAt _ _ _ (stack>>=_) _ _ _;apply PySem.wpAt_bind;refine PySem.wpAt_stack λp below=>PySem.wpAt_of_wpAny ?_
 wp_walk
 apply PySem.wpAt_of_wpAny;rw[Fv.owner]
 repeat (first | with_reducible refine wpAny_madeHere_exc Fv.canon hC ?_ | with_reducible refine Ji hC ?_ | (with_reducible refine wpAny_isSubtype_exc hC ?_;first | rw[cV] | rw[cA] | rw[cN]) | wp_step)
 show R _ _;rw[Fs];exact hq
def xu{Am:LU}{i:ε}{Q:EV}(X:K.In h)(c:ExC K C)(hi:W.findIn K (.ref C) "__init__"≈(↥i))
  (hb:∀ self,W.Looks 0.4 ((h.push (Gj Am)).push (FP C h.objs.size)) (bindSpecial i self) (i,[self])) (hrest:Am.length<=sizeLine)
  (hq:codeAny 0.4 (A.under (.builtin "type.__call__" ⟨.ref C :: Am,[]⟩)) (.call i ⟨.ref (h.objs.size + 1):: Am,[]⟩)
   (λr s'=>match r with | .ok (.ret v)=>v=.none/\Q (.ref (h.objs.size + 1)) s' | .ok _=>False | .error e=>E e s') ⟨(h.push (Gj Am)).push (FP C h.objs.size),g,d,t,os⟩):
  wpAny 0.4 A (call (.ref C) Am) Q E ⟨h,g,d,t,os⟩:=by
 obtain⟨nm,q,N,bs,bm,hdct,sn,sub,ab,col,dd,k0,k1,k2,k3,k5,lk⟩:=c.obj;have Fv:=X9;have cV:=Iv lk c.val;have cS:(Value.ref C :: bm).contains (.ref C)=true:=by simp
 have hC:=X _ _ lk;have up:∀ b o,h.get? b≈o->((h.push (Gj Am)).push (FP C h.objs.size)).get? b≈o:=λb o e=>Yb _ (Yb _ e);have X1:K.In ((h.push (Gj Am)).push (FP C h.objs.size)):=X.keeps up;have oG:=X1 _ _ lk;have got:((h.push (Gj Am)).push (FP C h.objs.size)).get? (h.objs.size + 1)≈(FP C h.objs.size):=Heap.get?_push_at (by rw[Fs]) rfl;have f1:=tc_lookup;have f2:=tc_bind (.ref C);have hT:(⟨h,g,d,t,os⟩:χ).TypeIs (.ref C) "type":=⟨_,hC,Y⟩;have hstar:=Fv.noStar;apply wpAny_call;apply codeAny_of_tree;show wpAny _ _ (callAny (.ref C) _) _ _ _
 repeat (any_goals (first | assumption | with_reducible refine Ji hC ?_ | wp_step))
 constructor
 ·rfl
 apply codeAny_call_builtin_at (Code.quiet_builtin _ 0.7) entry_typeCall;apply wpAny_check_type_call_sub hC
 repeat (first | with_reducible refine Ji hC ?_ | with_reducible refine wpAny_madeBy_exc hC ?_ | wp_step)
 apply codeAny_call_builtin_code (Code.quiet_builtin _ Fv.quiet);simp only[checkBuiltinCall,Fv.newKind,Fv.newSplit,Fv.newRow]
 repeat (first | refine Ji hC ?_ | (refine wpAny_isSubtype_exc hC ?_;rw[cV]) | refine wpAny_staticBase_exc hC ?_ | refine wpAny_madeBy_exc hC ?_ | simp only[bne_self_eq_false,FU,if_false] | wp_step)
 apply vk X c hrest;show wpAny _ _ _ _ _ _;apply Ja;unfold isInstance
 repeat (first | with_reducible refine Ji got ?_ | (with_reducible refine wpAny_isSubtype_exc oG ?_;rw[cS]) | wp_step)
 refine(W.looks_findIn (M:=model prog w) X1 hi).here ?_;apply Jj;apply Ja;refine(hb (.ref (h.objs.size + 1))).here ?_;apply Ja;apply wpAny_call;refine codeAny_mono hq λr s' q=>?_;cases r with
 | error e=>exact q
 | ok f =>
  cases f with
  | ret v =>
   obtain⟨rfl,q⟩:=q;apply Jd;show wpAny _ _ (ret (.ref (h.objs.size + 1))) _ _ _;exact Jd q
  | next=>exact q.elim
  | brk=>exact q.elim
  | cont=>exact q.elim
def pq{Am:LU}{R:Result->χ->Prop}{e t0:δ}(X:K.In h)(c:ExC K C)(he:h.get? e≈(FP C t0))(hrest:Am.length<=sizeLine)
  (hq:R (.ok (.ret .none)) ⟨(h.push (Gj Am)).update e (Obj.mapFields (·.setIfInBounds 0 (.ref h.objs.size))),g,d,t,os⟩):
  codeAny 0.4 A (.call (.builtin "ValueError.__init__") ⟨.ref e :: Am,[]⟩) R ⟨h,g,d,t,os⟩:=by
 obtain⟨nm,q,N,bs,bm,hdct,sn,sub,ab,col,dd,k0,k1,k2,k3,k5,lk⟩:=c.obj;have Fv:=X9;have cV:=Iv lk c.val;have hC:=X _ _ lk;have hshort:=Fv.noStar;have chk:∀(a b:String) (n:Nat),Bind.check ⟨.positional,"*","ValueError",.self,[⟨"args",.varPos,false⟩]⟩ a b n (List.map (λx=>x.fst) ({pos:=Value.ref e :: Am}:Args).kw)=pure ():=λa b n=>check_star_args _ _ _ _ _ _;have he1:(h.push (Gj Am)).get? e≈(FP C t0):=Yb _ he;apply codeAny_call_builtin Fv.init.plain Fv.initEntry;simp only[checkBuiltinCall,Fv.initKind,Fv.initSplit,Fv.initRow]
 repeat (first | with_reducible refine Ji he ?_ | with_reducible refine Ji hC ?_ | (with_reducible refine wpAny_isSubtype_exc hC ?_;rw[cV]) | wp_step)
 apply wpAny_onRaise;rw[chk];apply Jd
 wp_walk
 exact hq
def sH{env:Env}{x:Str}{np Ac pos:Pos}{args:μ}{s:χ}{Q:Flow->χ->Prop}(c:ExC K C)(hh:A.handled=none)
  (h1:wpAny 0.4 A (eval (.Call (.Name x np) args [] Ac) env) (λv s₁=>∃ e t0 dx sl,v=.ref e/\K.In s₁.heap /\
   s₁.heap.get? e≈⟨.ref C,dx,.fields #[.ref t0,.none,.none,.none,.bool false,.none],sl⟩/\E (.ref e) s₁) E s):
  wpAny 0.4 A (exec (.Raise (↥(.Call (.Name x np) args [] Ac)) none pos) env) Q E s:=by
 obtain⟨nm,q,N,bs,bm,hdct,sn,sub,ab,col,dd,k0,k1,k2,k3,k5,lk⟩:=c.obj;have cB:=Iv lk c.bas;rw[arm_exec_Raise];apply Ja;apply wpAny_standAt;unfold raiseStmt;apply Ja;show wpAny _ _ (do let v <- eval (.Call (.Name x np) args [] Ac) env;standAt pos;pure v) _ _ _;apply Ja;refine Jf h1 (λv s₁ h₁=>?_) λ_ _ z=>z;apply Ja;apply wpAny_standAt;apply Jd;obtain⟨e,t0,dx,sl,rfl,X,he,hE⟩:=h₁;obtain⟨hp,g,d,tk,os⟩:=s₁;have hC:=X _ _ lk
 repeat (first | with_reducible refine Ji he ?_ | with_reducible refine Ji hC ?_ | (with_reducible refine wpAny_isSubtype_exc hC ?_;rw[cB]) | wp_step)
 exact wpAny_raiseNew_none hh hE
end
end L2
namespace L2
open PySem PySem.Spec PySem.Builtin PySem.Builtin.ObjectAttr PySem.W
structure JR(K:Fg)(C:δ):Prop extends ExC K C where
 ga:W.findIn K (.ref C) "__getattribute__"≈(↥(.builtin "BaseException.__getattribute__"))
 gt:W.findIn K (.ref C) "__getattr__"≈none
 ca:W.findIn K (.ref C) "__class__"≈(↥(.builtin "object.__class__"))
 cg:W.specialIn K (.builtin "object.__class__") "__get__"≈(↥(.builtin "getset_descriptor.__get__"))
 ct:W.takesIn K (.builtin "object.__class__")≈true
 ob:W.mroIn K C (.type "object")≈true
section
variable {K:Fg}{prog:ω}{w:World}{A:Around}{E:EV}{h:Heap}{g:Array GenState}{d:Drawn}{t:Nat}{os:OsState}{x C:δ}{ox:Obj}{od:Option Obj}{name:Str}
def ph{nameV:ε}{M:Model}{Q:Unit->χ->Prop}(X:K.In h)(c:ExC K C)(I:W.InstAt h x ox C od)(hq:Q () ⟨h,g,d,t,os⟩):
  wpAny M A (checkBuiltinCall "BaseException.__getattribute__" ⟨[.ref x,nameV],[]⟩) Q E ⟨h,g,d,t,os⟩:=by
 have hk:builtinKind "BaseException.__getattribute__"≈.slot:=by rfl'
 have hs:splitId "BaseException.__getattribute__"≈("BaseException","__getattribute__"):=by rfl'
 have ha:=PySem.F.args_bexc_ga (.ref x) nameV;have hi:W.Looks M h (isInstance (.ref x) (.type "BaseException")) true:=I.type.andThen (W.looks_subIn X c.bas);simp only[checkBuiltinCall,hk,hs];apply Ja;apply hi.at;simp only[JN,FU,if_false];exact wpAny_of_eq ha hq
def pj{tk:Tok}{Q:Fin->χ->Prop}{f:Found}(X:K.In h)(I:W.InstAt h x ox C od)(hf:W.Looks 0.4 h (find (.ref x) (.ref C) name) f)
  (hq:wpAny 0.4 A (match f with | .value v=>ret v | .bind g a=>bindTo g a (.ref x) (.ref C) | .missing=>unsupported "") Q E ⟨h,g,d,t,os⟩) (hm:f≠.missing):
  wpAny 0.4 A (Builtin.«object.__getattribute__» ⟨[.ref x,.str name tk],[]⟩) Q E ⟨h,g,d,t,os⟩:=by
 have L0:=I.type (M:=model prog w);unfold Builtin.«object.__getattribute__»;apply Ja;apply Jd;apply Ja;apply Jd;apply Ja;apply L0.at;apply Ja;apply hf.at;cases f with
 | value v=>exact hq
 | bind a b=>exact hq
 | missing=>exact absurd rfl hm
def uc{tk:Tok}{fill expr:Bool}{Q:EV}{f:Found}{v:ε}(X:K.In h)(c:JR K C)(I:W.InstAt h x ox C od)(hf:W.Looks 0.4 h (find (.ref x) (.ref C) name) f)(hm:f≠.missing)
  (hq:∀ {A:Around} {E:EV} {Q:Fin->χ->Prop},Q (.done (.ret v)) ⟨h,g,d,t,os⟩->wpAny 0.4 A (match f with | .value v=>ret v | .bind g a=>bindTo g a (.ref x) (.ref C) | .missing=>unsupported "") Q E ⟨h,g,d,t,os⟩)
  (hh:handedIn v=true) (hv:Q v ⟨h,g,d,t,os⟩):wpAny 0.4 A (getAttrBy (.ref x) (.str name tk) fill expr) Q E ⟨h,g,d,t,os⟩:=by
 have L0:=I.type (M:=model prog w);have L1:=looks_findIn (M:=model prog w) X c.ga;have L2:=looks_findIn (M:=model prog w) X c.gt;have Uu:(expr&&onTheHeap (Value.builtin "BaseException.__getattribute__"))=false:=by cases expr <;> rfl
 have apart:(onTheHeap (Value.ref C)&&Value.builtin "BaseException.__getattribute__" == Value.builtin "object.__getattribute__")=false:=by
  rw[show(Value.builtin "BaseException.__getattribute__" == Value.builtin "object.__getattribute__")=false from by rfl'];rfl
 have f3:=PySem.F.attrBase_ValueError.ga.bind (.ref x);have body:∀ {A:Around} {R:Result->χ->Prop},R (.ok (.ret v)) ⟨h,g,d,t,os⟩->codeAny 0.4 A (.call (.builtin "BaseException.__getattribute__") ⟨[.ref x,.str name tk],[]⟩) R ⟨h,g,d,t,os⟩:=λ{A R} r =>
  codeAny_call_builtin PySem.F.attrBase_ValueError.ga.plain PySem.F.entry_bexc_ga (ph X c.toExC I (pj X I hf (hq r) hm))
 unfold getAttrBy;apply Jj;apply Ja;apply L0.at;apply Ja;apply L1.at;show wpAny _ _ (if(onTheHeap (Value.ref C)&&Value.builtin "BaseException.__getattribute__" == Value.builtin "object.__getattribute__")=true then _ else getAttrByItsOwn (.ref x) (.str name tk) (.ref C) (.builtin "BaseException.__getattribute__") fill expr) _ _ _;rw[if_neg (by rw[apart];exact Yl)];unfold getAttrByItsOwn;apply Ja;show wpAny _ _ (typeLookup (.ref C) "__getattr__") _ _ _;apply L2.at;apply Ja;apply wpAny_attempt;apply Jj;unfold callGetattribute;rw[if_neg (by rw[Uu];exact Yl)];unfold boundAndCalled;apply Ja;refine wpAny_of_eq f3 ?_;refine wpAny_call (body ?_);show wpAny _ _ (handedOut v) _ _ _;rw[handedOut_of hh];exact Jd hv
def vj(c:JR K C):KitX K (.ref x) (.ref C) (λh=>InstAt h x ox C od) where
 ty:=λ_ _ _ I=>I.type
 it:=λ_ _ X _=>by
  obtain⟨nm,q,N,bs,bm,hdct,sn,sub,ab,col,dd,k0,k1,k2,k3,k5,lk⟩:=c.obj;intro A' Q' E' s' k q;unfold isType loadHead;apply Ja;apply wpAny_loadPart (k _ _ (X _ _ lk));exact Jd q
 ne:=λh tp dd ψ n sl X e=>by
  obtain⟨nm,q,N,bs,bm,hdct,sn,sub,ab,col,dd,k0,k1,k2,k3,k5,lk⟩:=c.obj;have hC:=X _ _ lk;refine Bool.eq_false_iff.mpr λz=>?_;have z:C=tp:=Value.ref.inj (beq_iff_eq.mp z);rw[z,e]at hC;have q1:Value.type "tuple"=Value.type "type":=congrArg (λo=>Option.elim o Value.none Obj.cls) hC;exact absurd q1 0.1
 ca:=λ{prog w A E Q s} X I q=>by
  obtain⟨hh,g,d,t,os⟩:=s;have hcls:∃ cd,clsIn K C≈cd:=by
   obtain⟨nm,q,N,bs,bm,hdct,sn,sub,ab,col,dd,k0,k1,k2,k3,k5,lk⟩:=c.obj;unfold clsIn;rw[lk];exact⟨Z⟩
  obtain⟨cd,hcd⟩:=hcls;have hf:findObj K C od "__class__"≈(.bind (.builtin "getset_descriptor.__get__") (.builtin "object.__class__")):=by
   unfold findObj;rw[hcd,c.ca];dsimp only[Option.bind];rw[c.cg];dsimp only;rw[c.ct]
  unfold getAttr? getAttrBy?;apply Ja;apply wpAny_mkText;apply Ja;apply wpAny_attempt;refine uc X c I (looks_find X I hf) (λz=>nomatch z) (λ{A E Q} r=>?_) rfl (Jd q);show wpAny _ _ (bindTo (.builtin "getset_descriptor.__get__") (.builtin "object.__class__") (.ref x) (.ref C)) _ _ _;unfold bindTo;show wpAny _ _ (holding [.builtin "object.__class__"] (call (.builtin "getset_descriptor.__get__") [.builtin "object.__class__",.ref x,.ref C])>>=ret) _ _ _;apply Ja;apply Jj;exact wpAny_call (class_get (ox:=ox) (od:=od) X I c.ob (Jd r))
end
end L2
namespace L2
open PySem PySem.Spec PyProof.Rows
def XO(e C:δ)(dx:Option δ):HO:=.ext λh=>∃ o,h.get? e≈o/\o.cls=.ref C/\o.dict=dx/\W.notCls o=true
abbrev TF:=St->Hp->(Hp->Prop)->Prop
section
variable {X:Cx}{e:Expr}{es:μ}{te:TE}{t u:TF}{pos:Pos}
def Rr{i:Int}(h:i.natAbs<2 ^ 64):i.natAbs.log2<1920:=by
 by_cases z:i.natAbs=0
 ·rw[z];decide
 ·exact GV ((Nat.log2_lt z).mpr h) 0.1
def wc{i:Int}(h:i.natAbs<2 ^ 64):↑(Str.ofString (toString i))<=100000:=by
 have e:=PySem.int_text_length_le (k:=1920) 0.1 (Rr h);rw[PySem.ofString_length];omega
end
section
variable {X:Cx}{E:XK}{C:δ}{x:Str}{np Ac pos:Pos}{e:Expr}{es:μ}{t:TA}
def lS(E:XK)(C:δ)(t:TA):TS:=λ_ σ H=>t σ H λvs H1=>↑vs<=sizeLine/\E (.ref C) none H1
def xw{K:Fg}{prog:ω}{w:World}{A:Around}{E:EV}{s:χ}{us:LU}{Q:EV}(X:K.In s.heap)(c:ExC K C)(hi:W.findIn K (.ref C) "__init__"≈(↥(.builtin "ValueError.__init__")))(hl:↑us<=sizeLine)
  (h:∀ h' t0,(∀ b o,s.heap.get? b≈o->h'.get? b≈o)->h'.get? (⇑s + 1)≈(FP C t0)->Q (.ref (⇑s + 1)) {s with heap:=h' }):
  wpAny 0.4 A (call (.ref C) us) Q E s:=by
 obtain⟨hp,g,d,tk,os⟩:=s;dsimp only at X h ⊢;refine xu X c hi (λself=>W.Looks.of_pure (PySem.F.excBase_ValueError.init.bind self)) hl ?_;have up:∀ b o,hp.get? b≈o->((hp.push (Gj us)).push (FP C hp.objs.size)).get? b≈o:=λb o q=>Yb _ (Yb _ q);have got:((hp.push (Gj us)).push (FP C hp.objs.size)).get? (hp.objs.size + 1)≈(FP C hp.objs.size):=Heap.get?_push_at (by rw[Fs]) rfl;refine pq (t0:=hp.objs.size) (X.keeps up) c got hl ⟨Y,h _ ((hp.push (Gj us)).push (FP C hp.objs.size)).objs.size (λb o q=>?_) ?_⟩
 ·have nb:b≠hp.objs.size + 1:=Yt (Nat.lt_succ_of_lt (Yf q));rw[IM _ _ (Yw nb)];exact Yb _ (up b o q)
 ·rw[JJ _ (Yb _ got) rfl];rfl
def yn(F:Cs X E)(hh:X.A.handled=none)(c:ExC X.K C)(hi:W.findIn X.K (.ref C) "__init__"≈(↥(.builtin "ValueError.__init__")))(hg:Gl X x)(hm:X.mg x≈(.ref C))(ha:PA X (e :: es) t)
  (hdb:(x == ("__debug__":Str))=false:=by decide) (he:starEach (e :: es) X.env=(false,eval e X.env):: starEach es X.env:=by rfl) (hpl:(backTo Ac (starEach es X.env)).any 0.8=false:=by rfl):
  PS X (.Raise (↥(.Call (.Name x np) (e :: es) [] Ac)) none pos) (lS E C t):=by
 intro π s σ H D I h;refine sH c hh (wpAny_Call_Name_kw (Mx I hg hm ?_ hdb));refine W.callWith_K (h₀:=X.base) I.ok.mod.kin c.kp (AM (ha Ac π s σ H _ I h) λus s1 ⟨vs,H1,I1,r,hl,q⟩=>⟨I1.kIn,?_⟩) he hpl;refine xw I1.kIn c hi (by rw[List.nil_append,<- ↑r];exact hl) λh' t0 k got=>?_;have I2:Inv X π σ H1 {s1 with heap:=h' }:=I1.kept (t':=s1.toks) k;refine⟨_,t0,none,#[],Y,I2.kIn,got,?_⟩;exact F.raised I2 (I1.fpOk (Nat.le_succ _) (I1.hok.fresh (Nat.le_succ _))) got rfl rfl q
end
section
variable {X:Cx}{π:PL}{σ:St}{H:Hp}{s:χ}{A:Around}{E:EV}{Q:EV}{e C:δ}{dx:Option δ}{cv:ε}{b:Bool}
def K1(H:Hp)(dx:Option δ):Prop:=dx=none\/∃ a fs,dx≈a/\H a≈(.xd fs)
def xT(I:Inv X π σ H s)(hx:H e≈(XO e C dx))(hd:K1 H dx):∃ ox od,W.InstAt s.heap e ox C od:=by
 have q:BB X.prog X.w H s.heap e (XO e C dx):=I.hok e _ hx;obtain⟨⟨o,h1,h2,h3,h4⟩,_⟩:=q
 rcases hd with hd | ⟨a,fs,hd,ha⟩
 ·exact⟨o,none,⟨h1,h2,h4,by rw[h3,hd];trivial⟩⟩
 ·have q:BB X.prog X.w H s.heap a (.xd fs):=I.hok a _ ha;obtain⟨mA,⟨oa,es,ep,e1,_⟩,_⟩:=q;exact⟨o,↥oa,⟨h1,h2,h4,by rw[h3,hd];exact e1⟩⟩
def rP(I:Inv X π σ H s)(hx:H e≈(XO e C dx))(hd:K1 H dx)(c:JR X.K C)(k:W.kitOne X.K (.ref C) cv≈b)(h:∀ tk,Q (.bool b) {s with toks:=tk}):
  wpAny 0.3 A (call (.builtin "isinstance") [.ref e,cv]) Q E s:=by
 obtain⟨ox,od,J⟩:=xT I hx hd;exact W.kia_one (vj (ox:=ox) (od:=od) c) I.kIn J k (λz=>nomatch z) h
end
abbrev QE:=ε->Option δ->St->Hp->Prop
abbrev Nh:=Cy->QE->St->Hp->Prop
abbrev UI:=St->Hp->VK->XK->Prop
def XP(X:Cx)(π:PL)(E:QE)(ev:ε)(s':χ):Prop:=∃(e T:δ) (cls:ε) (dx:Option δ) (σ':St) (H':Hp),ev=.ref e/\Inv X π σ' H' s'/\Cv X π H' e/\Cv X π H' T/\GX s'.heap e T cls dx .none/\E cls dx σ' H'
def kz(X:Cx)(e:Expr)(t:UI):Prop:=∀(π:PL) (s:χ) (σ:St) (H:Hp) (Q:VK) (E:XK),Inv X π σ H s->t σ H Q E ->
 wpAny 0.3 X.A (eval e X.env) (EP X π σ Q) (XP X π λc d σ' H'=>σ'=σ/\E c d H') s
def kr(X:Cx)(st:Stmt)(t:Nh):Prop:=∀(π:PL) (s:χ) (σ:St) (H:Hp) (D:Cy) (E:QE),Inv X π σ H s->t D E σ H->wpAny 0.3 X.A (exec st X.env) (SP X π D) (XP X π E) s
def jg(X:Cx)(st:List Stmt)(t:Nh):Prop:=∀(π:PL) (s:χ) (σ:St) (H:Hp) (D:Cy) (E:QE),Inv X π σ H s->t D E σ H->wpAny 0.3 X.A (execs st X.env) (SP X π D) (XP X π E) s
section
variable {X:Cx}{st:Stmt}{Am:List Stmt}{t u:Nh}{e:Expr}{te:UI}{pos:Pos}
def yr(h1:kr X st t):jg X [st] t:=by
 intro π s σ H D E I h;refine wpAny_execs_cons (AM (h1 π s σ H D E I h) λf s1 q=>?_);cases f with
 | next=>exact wpAny_execs_nil q
 | ret v=>exact q
 | brk=>exact q
 | cont=>exact q
def xU{π:PL}{E E':QE}(f:∀ c d σ H,E c d σ H->E' c d σ H){ev:ε}{s':χ}(h:XP X π E ev s'):XP X π E' ev s':=by
 obtain⟨e,T,cls,dx,σ',H',r,I,fe,fT,a,q⟩:=h;exact⟨e,T,cls,dx,σ',H',r,I,fe,fT,a,f _ _ _ _ q⟩
def Yez(i:Nat)(te:UI):Nh:=λD E σ H=>te σ H (λv H1=>D.nx (σ.set i (↥v)) H1) λc d H1=>E c d σ H1
def wo{i:Nat}{x:Str}{pos':Pos}(hN:X.N.Nodup)(hi:X.N[i]?≈x)(hx:Loc X.env.scope x)(he:kz X e te)(hs:swapsWith e (↥(.Name x pos')) pos.line X.env=pure false:=by rfl)
  (hf:X.fn x=true\/X.env.scope.names.lookup x≈.local:=by first | exact .inl rfl | exact .inr rfl | assumption):kr X (.Assign [.Name x pos'] e pos) (Yez i te):=by
 intro π s σ H D E I h;refine wpAny_Assign_Name (Jf (he π s σ H _ _ I h) (λv s1 ⟨y,H1,I1,r1,q1⟩=>?_) λev s1 z=>xU (λc d σ' H' q=>?_) z) hs
 ·exact SH I1 hN hi hx r1 (λs2 I2=>⟨_,H1,I2,q1⟩) hf
 ·obtain⟨rfl,q⟩:=q;exact q
end
section
variable {X:Cx}{k:Nat}{f C:δ}{fd:FuncData}{ps:LS}{sp:Sp}{B4:LV}{ds:LU}{x m:Str}{p pos apos:Pos}{e o:Expr}{es:μ}{ta:TE}{t:TA}
def wz{π:PL}{σ:St}{H:Hp}{s:χ}{Q:VK}{E:XK}{us:LU}{vs:LV}(F:BQ X.prog X.w X.K X.mg X.base (Ct X.prog X.w) k f fd ps sp)(hr:Ab k X.A)(hb:Bz X.K fd ps [])
  (I:Inv X π σ H s) (r:AX vs us) (h:sp vs H Q E):wpAny 0.3 X.A (call (.ref f) us) (EP X π σ Q) (XP X π λc d σ' H'=>σ'=σ/\E c d H') s:=by
 have hl:↑(us++[])=↑ps:=by rw[EM,<- ↑r];exact F.len _ _ _ _ h
 have b:=hb s us I.kIn hl;rw[EM]at b;refine wpAny_call (codeAny_mono (F.run X.A X.stack s H ⟨us,[]⟩ us vs Q E hr I.env0 b r h) λr s' hq=>?_);cases r with
 | error e =>
  obtain⟨e,T,cls,dx,H',rfl,os,bare,un,hok,he,hT,se,sT,a,q⟩:=hq;exact⟨e,T,cls,dx,σ,H',Y,I.call' (ch:=[]) os un hok bare (λb z=>nomatch z),I.fpOk se he,I.fpOk sT hT,a,Y,q⟩
 | ok fl =>
  cases fl with
  | ret u=>exact I.after hq
  | next=>exact False.elim hq
  | brk=>exact False.elim hq
  | cont=>exact False.elim hq
def xH{π:PL}{s:χ}{σ:St}{H:Hp}{Q:LV->Hp->Prop}{E:EV}(ha:PA X.nox es t)(I:Inv X π σ H s)(h:t σ H Q):
  wpAny 0.3 X.A (spliced (backTo pos (starEach es X.env))) (AP X π σ Q) E s :=
 Jf (ha pos π s σ H Q (I.wish _) h) (λ_ _ ⟨vs,H',I',r,q⟩=>⟨vs,H',I'.unwish,r,q⟩) λ_ _ z=>False.elim z
end
section
variable {K:Fg}{M:Model}{A:Around}{E:EV}{h:Heap}{g:Array GenState}{d:Drawn}{t:Nat}{os:OsState}{e C D:δ}
def tD{oe:Obj}{Q:Bool->χ->Prop}(X:K.In h)(cD:ExC K D)(he:h.get? e≈oe)(hcls:oe.cls=.ref C)(cC:ExC K C)(hs:W.subIn K (.ref C) (.ref D)≈true)(hq:Q true ⟨h,g,d,t,os⟩):
  wpAny M A (excMatches (.ref e) (.ref D)) Q E ⟨h,g,d,t,os⟩:=by
 obtain⟨nm,q,N,bs,bm,hdct,sn,sub,ab,col,dd,k0,k1,k2,k3,k5,lk⟩:=cD.obj;obtain⟨nm',q',N',bs',bm',lI,sn',sub',ab',col',Gd,k0',k1',k2',k3',k5',aM⟩:=cC.obj;have cB:=Iv lk cD.bas;have cS:=Iv aM hs;have hD:=X _ _ lk;have hC:=X _ _ aM;have f:=tc_notTuple;unfold excMatches
 repeat (first | (with_reducible refine Ji he ?_;rw[hcls]) | with_reducible refine Ji hD ?_ | (with_reducible refine wpAny_isSubtype_exc hD ?_;rw[cB]) | (with_reducible refine wpAny_isSubtype_exc hC ?_;rw[cS]) | wp_step)
 exact hq
end
section
variable {X:Cx}{π:PL}{σ:St}{H:Hp}{s:χ}
def Inv.track{a:δ}{o:HO}(I:Inv X π σ H s)(f:Cv X π H a)(ok:BB X.prog X.w (upd H a o) s.heap a o):Inv X π σ (upd H a o) s:=by
 obtain⟨f0,f1,f2,f3,f4,f5⟩:=f;have ne:∀ b u,H b≈u->b≠a:=λb u q z=>by rw[z,f0]at q;cases q
 have old:∀ b u,X.s₀.heap.get? b≈u->b∉X.ex->b≠a:=λb u q n z=>by
  rcases f3 with r | r
  ·rw[z]at n;exact n r
  ·exact absurd (Yr (Yf q) (by rw[z];exact r)) (Fu _)
 refine⟨I.ok,I.os,I.bare,⟨I.base.keep,I.base.slot,λb u q n hx=>by rw[AD (old b u q hx)];exact I.base.free b u q n hx,I.base.there,λb xs q=>by have z:=I.base.tups b xs q;rw[AD (ne b _ z)];exact z,
  λb u xs q=>by have z:=I.base.frzs b u xs q;rw[AD (ne b _ z)];exact z,λb ps q=>by obtain⟨m,z⟩:=I.base.tbls b ps q;exact⟨m,by rw[AD (ne b _ z)];exact z⟩⟩,
  I.loc,I.cell,by rw[AD (Yw f1)];exact I.free,λx c q=>by rw[AD (f4 x c q)];exact I.freeC x c q,λp hp=>?_,λb u q=>?_,I.len⟩
 ·obtain⟨p1,p2,p3,p4,p5⟩:=I.pin p hp;exact⟨p1,by rw[AD (f5 p hp)];exact p2,p3,p4,p5⟩
 ·by_cases hb:b=a
  ·subst hb;rw[uS]at q;cases q;exact ok
  ·rw[AD hb]at q;exact(I.hok b u q).stay (λ_ _ _ z=>z) (λc z=>by rw[AD (ne c _ z)];exact z) λc xs z=>by rw[AD (ne c _ z)];exact z
def Inv.gone{i:Nat}{x:Str}{m:Str->OU}{v:OU}{h':Heap}{tk:Nat}(I:Inv X π σ H s)(hN:X.N.Nodup)(hi:X.N[i]?≈x)(hx:X.env.scope.names.lookup x≈.local)
  (hm:s.heap.Ns X.env.locals m) (hn:h'.Ns X.env.locals λy=>if y=x then v else m y) (hs:Heap.SameBut X.env.locals s.heap h'):Inv X π (σ.set i none) H {s with heap:=h',toks:=tk}:=by
 obtain⟨m0,Kt,hl⟩:=id I.loc;have hmm:m0=m:=by
  obtain⟨o1,es1,ep1,a1,a2,_,a3⟩:=Kt;obtain⟨o2,es2,ep2,b1,b2,_,b3⟩:=hm;rw[a1]at b1;cases b1;rw[a2]at b2;cases b2
  funext y
  rw[<- a3,<- b3]
 subst hmm;have cne:=I.cne;obtain⟨oL,_,_,hoL,_⟩:=id hm;refine⟨I.ok,I.os,I.bare,⟨λb o e n hb hx=>?_,λb o e n hb hx=>?_,I.base.free,λb o e hx=>?_,I.base.tups,I.base.frzs,I.base.tbls⟩,⟨_,hn,λj y v' e1 e2 e3=>?_⟩,λy c e=>?_,I.free,I.freeC,λp hp=>?_,λb ob e=>?_,by simpa using I.len⟩
 ·exact(hs.2 b (Yt (Yr (Yf e) I.ok.above))).trans (I.base.keep b o e n hb hx)
 ·obtain⟨sl,e1⟩:=I.base.slot b o e n hb hx;exact⟨sl,(hs.2 b (Yt (Yr (Yf e) I.ok.above))).trans e1⟩
 ·obtain⟨o',e1⟩:=I.base.there b o e hx;exact⟨o',(hs.2 b (Yt (Yr (Yf e) I.ok.above))).trans e1⟩
 ·have hj:j≠i:=λz=>by
   subst z;by_cases hb:j<↑σ
   ·rw[T5 hb]at e2;cases e2
   ·rw[NQ (by simpa using hb)]at e2;cases e2
  rw[List.getElem?_set_ne (Yw hj)]at e2;obtain⟨u',r',q⟩:=hl j y v' e1 e2 e3;refine⟨u',r',?_⟩
  rcases q with⟨k,e⟩ | ⟨k,c,e,z⟩
  ·refine .inl ⟨k,?_⟩;have:y≠x:=λe=>hj (O5 hN e1 (e ▸ hi));simp[this,e]
  ·exact .inr ⟨k,c,e,z.sameBut hs (cne y c e)⟩
 ·obtain⟨w',z⟩:=I.cell y c e;exact⟨w',z.sameBut hs (cne y c e)⟩
 ·obtain⟨e,n,ne,nf,d⟩:=I.pin p hp;exact⟨(hs.2 p.1 ne).trans e,n,ne,nf,d⟩
 ·refine(I.hok b ob e).stay (λc w' hc q=>(hs.2 c ?_).trans q) (λ_ q=>q) λ_ _ q=>q;rintro rfl
  rcases hc with rfl | hc
  ·rw[I.free]at e;cases e
  ·rw[I.free]at hc;cases hc
abbrev Cx.marked(X:Cx)(v:ε):Cx:={X with A:=X.A.mark (↥v),calm:=false,xe:=λ_ _=>False}
def Inv.mark(I:Inv X π σ H s)(v:ε):Inv (X.marked v) π σ H s :=
 ⟨⟨I.ok.mod,I.ok.kind,I.ok.glob,I.ok.blt,I.ok.above,I.ok.inj,I.ok.has,I.ok.cab,λz=>absurd z Yl,I.ok.frames,I.ok.stk,I.ok.exf,I.ok.bs,I.ok.bsz,I.ok.noex,I.ok.exfs,I.ok.funs,I.ok.frf⟩,
  I.os,I.bare,I.base,I.loc,I.cell,I.free,I.freeC,I.pin,I.hok,I.len⟩
def Inv.unmark{v:ε}(J:Inv (X.marked v) π σ H s)(ok:X.Ok):Inv X π σ H s :=
 ⟨ok,J.os,J.bare,J.base,J.loc,J.cell,J.free,J.freeC,J.pin,J.hok,J.len⟩
end
section
variable {X:Cx}{D:δ}{body:List Stmt}{t:Nh}{x n dn:Str}{np xp ep ap hp pos:Pos}{i j:Nat}
def Ye2(K:Fg)(D:δ)(i j:Nat)(t:Nh):TS:=λB σ H=>t B (λcls dx σ' H'=>∃ C,cls=.ref C/\ExC K C/\W.subIn K (.ref C) (.ref D)≈true /\
 ∀ e,H' e=none->B.nx (((σ'.set j (↥(.ref e))).set i (↥(.ref e))).set j none) (upd H' e (XO e C dx))) σ H
def vE(hst:X.stack=X.env :: X.outer)(hf:X.env.frame≈X.env.locals)(cD:ExC X.K D)(hN:X.N.Nodup)(hg:Gl X dn)(hm:X.mg dn≈(.ref D))(hi:X.N[i]?≈x)(hx:Loc X.env.scope x)(hj:X.N[j]?≈n)
  (hn:X.env.scope.names.lookup n≈.local) (hb:jg X body t) (hfx:X.fn x=true\/X.env.scope.names.lookup x≈.local:=by first | exact .inl rfl | exact .inr rfl | assumption) (hdb:(dn == ("__debug__":Str))=false:=by decide)
  (hd2:(n == ("__debug__":Str))=false:=by decide) (RL:(n == ("__classdict__":Str))=false:=by decide) (hs:∀ v,swapsWith (.Name n ep) (↥(.Name x xp)) ap.line (X.marked v).env=pure false:=by intro;rfl):
  PS X (.Try body [.ExceptHandler (↥(.Name dn np)) (↥n) [.Assign [.Name x xp] (.Name n ep) ap] hp] [] [] pos) (Ye2 X.K D i j t):=by
 intro π s σ H B I h;refine wpAny_Try_except (Jf (hb π s σ H B _ I h) (λf s1 q=>?_) λev s1 z=>?_)
 ·cases f with
  | next=>exact wpAny_execs_nil q
  | ret v=>exact q
  | brk=>exact q
  | cont=>exact q
 ·obtain⟨e,T,cls,dx,σ',H',rfl,I1,fe,fT,a,C,rfl,cC,csub,q⟩:=z;have hfr:X.A.frames≈(X.env :: X.outer):=by rw[<- hst];exact I1.ok.frames
  have hl:s1.heap.FunFrames X.base (X.env :: X.outer):=by rw[<- hst];exact I1.stack
  refine fQ hfr hl hf a λh1 T1 RN a1 c1=>?_;refine SR a1 λh2 a2 c2=>?_;rw[<- hst]at c1;have c3:A1 (CV X.stack) [T1,e,T] s1.heap h2:=(c1.mono (λb z=>z) λb z=>by simp at z;rcases z with z | z <;> simp[z]).trans (c2.mono (λb z=>nomatch z) λb z=>by simp at z;simp[z]);have I2:Inv X π σ' H' {s1 with heap:=h2}:=I1.call (ch:=[e,T]) (t':=s1.toks) (d':=s1.drawn) (g':=s1.gens) (Un.chg (c3.drop RN) (λb z=>z) λb z=>z) (I1.hok.chg (c3.drop RN) I1.stkFree λb z=>by
   simp at z;rcases z with z | z <;> rw[z];exact fe.1;exact fT.1) I1.bare λb z=>by
   simp at z;rcases z with z | z <;> rw[z];exact⟨fe.2.2.2.1,fe.2.1,fe.2.2.2.2.1,fe.2.2.2.2.2⟩;exact⟨fT.2.2.2.1,fT.2.1,fT.2.2.2.2.1,fT.2.2.2.2.2⟩
  have OR:Cv X π H' T1:=I1.fpOk RN (I1.hok.fresh RN);have M2:=I2.mark (.ref e);refine wpAny_handleBy_cons (codeAny_handlers_test (Mx (X:=X.marked (.ref e)) M2 hg hm ?_ hdb)) (by intro q;cases q);obtain⟨oe,vs,he,hc,hdx,hd,Dc⟩:=a2.obj;refine tD I2.kIn cD he hc cC csub (codeAny_handlers_suite_as ?_);refine SR a2 λh3 a3 c4=>?_;have c5:A1 (CV X.stack) [T1] h2 h3:=c4.mono (λb z=>nomatch z) λb z=>z;have I3:Inv X π σ' H' {s1 with heap:=h3}:=I2.call (s:={s1 with heap:=h2}) (h':=h3) (ch:=[T1]) (t':=s1.toks) (d':=s1.drawn) (g':=s1.gens) (Un.chg c5 (λb z=>z) λb z=>z) (I2.hok.chg c4 (λb z=>(nomatch z:H' b=none)) λb z=>by simp at z;rw[z];exact OR.1) I2.bare λb z=>by
   simp at z;rw[z];exact⟨OR.2.2.2.1,OR.2.1,OR.2.2.2.2.1,OR.2.2.2.2.2⟩
  obtain⟨Z_,vs3,ai,nj,Zf,Zg,aX⟩:=a3.obj;have I4:Inv X π σ' (upd H' e (XO e C dx)) {s1 with heap:=h3}:=I3.track fe ⟨⟨Z_,ai,nj,Zf,by unfold W.notCls;rw[Zg]⟩,⟨Z_,ai⟩,λh1 h2 ⟨o,q1,q2⟩ k=>⟨o,k o q1,q2⟩⟩;have M4:=I4.mark (.ref e);refine SH (X:=X.marked (.ref e)) (i:=j) M4 hN hj (.inl hn) (v:=.ref e) rfl (λs5 M5=>?_) (.inr hn);have L5:(σ'.set j (↥(.ref e)))[j]?≈(↥(.ref e)):=by
   have:j<↑σ':=by rw[I3.len];exact(Yu.mp hj).1
   rw[T5 this]
  have R:=(AF (Ez (X:=X.marked (.ref e)) (i:=i) (pos:=ap) (pos':=xp) hN hi hx (jR (X:=X.marked (.ref e)) (pos:=ep) hj (.inl hn) hd2 RL) (hs _) hfx)) π s5 _ _
   {nx:=λσ6 H6=>σ6=(σ'.set j (↥(.ref e))).set i (↥(.ref e))/\H6=upd H' e (XO e C dx),rt:=λ_ _=>False} M5 ⟨_,L5,Y,Y⟩
  refine Jf R (λf s6 q6=>?_) λ_ _ z=>False.elim z;cases f with
  | ret v=>obtain⟨_,_,_,_,_,z⟩:=q6;exact z.elim
  | brk=>obtain⟨_,_,_,z⟩:=q6;exact z.elim
  | cont=>obtain⟨_,_,_,z⟩:=q6;exact z.elim
  | next =>
   obtain⟨σ6,H6,M6,rfl,rfl⟩:=q6;have I6:=M6.unmark I.ok;obtain⟨m,Mc,_⟩:=id I6.loc;refine wpAny_nameGoes_keeps hn Mc (by rw[I.ok.kind];rfl) λh7 v nV nJ=>?_;exact⟨G,I6.gone hN hj hn Mc nV nJ,q e fe.1⟩
end
section
variable {X:Cx}{k:Nat}{f C:δ}{fd:FuncData}{ps:LS}{sp:Sp}{x m:Str}{p pos apos:Pos}{e o:Expr}{es:μ}{ta:TE}{t:TA}
def Yak(C:δ)(m:Str)(sp:Sp)(ta:TE)(t:TA):UI:=λσ H Q E=>ta σ H λx H1=>∃ a dx fs,x=.ref a/\H1 a≈(.ins C dx fs)/\fs.lookup m=none/\t σ H1 λvs H2=>sp (x :: vs) H2 Q E
def yi{pl:Sem Bool}(he:PE X.nox o ta)(c:Eh X.K C)(hm:Pq X.K C m f)(F:BQ X.prog X.w X.K X.mg X.base (Ct X.prog X.w) k f fd ps sp)(hr:Ab k X.A)(hb:Bz X.K fd ps [])(ha:PA X.nox (e :: es) t)
  (hst:starEach (e :: es) X.env=(false,eval e X.env):: starEach es X.env:=by rfl) (hpl:(backTo pos (starEach es X.env)).any 0.8=false:=by rfl)
  (ht:eval (.Call (.Attribute o m apos) (e :: es) [] pos) X.env=(eval o X.env>>=λov=>standAt apos.atName>>=λ_=>holding [ov] (getMethod ov m pl)>>=λr=>callWith pos r.1 r.2 (backTo pos (starEach (e :: es) X.env)) (backToKw pos (keywordEach [] X.env))):=by rfl):
  kz X (.Call (.Attribute o m apos) (e :: es) [] pos) (Yak C m sp ta t):=by
 intro π s σ H Q E I h;refine W.methodCall_KW (pl:=pl) (Jf (he π s σ H _ (I.wish _) h) (λu s1 ⟨x,H1,I1',rx,a,dx,fs,ex,ea,l,q⟩=>?_) λ_ _ z=>False.elim z) ht;have I1:=I1'.unwish;subst ex;obtain rfl:u=Value.ref a:=rx;refine XQ I1 ea c hm l ?_;refine W.callWith_K (first:=[.ref a]) (h₀:=X.base) I.ok.mod.kin hm.kp (AM (xH ha I1 q) λus s2 ⟨vs,H2,I2,r,q2⟩=>⟨I2.kIn,?_⟩) hst hpl;exact wz (us:=.ref a :: us) (vs:=.ref a :: vs) F hr hb I2 (.cons rfl r) q2
end
def yA{K:Fg}{C D:δ}{b:Bool}(h1:W.isClsIn K D=true)(h2:W.typeIn K (.ref D)≈(.type "type"))(c:ExC K C)(h:W.subIn K (.ref C) (.ref D)≈b):W.kitOne K (.ref C) (.ref D)≈b:=by
 unfold W.kitOne;by_cases z:C=D
 ·subst z;obtain⟨nm,q,N,bs,bm,hdct,sn,sub,ab,col,dd,k0,k1,k2,k3,k5,lk⟩:=c.obj;have:=Iv lk h;rw[if_pos 0.6];rw[<- this];simp
 ·rw[if_neg (by simpa using z)];unfold W.kitCls;have Jo:(W.clsIn K D).isSome=true:=h1;show(if((W.clsIn K D).isSome&&W.typeIn K (.ref D) == ↥(.type "type"))=true then W.subIn K (.ref C) (.ref D)else none)≈b;rw[if_pos (by rw[Jo,h2];rfl)];exact h
def qd{K:Fg}{C:δ}(c:ExC K C):W.kitOne K (.ref C) (.type "ValueError")≈true:=by
 unfold W.kitOne;rw[if_neg 0.6];unfold W.kitCls;show(if W.kitMeta "ValueError"=true then W.subIn K (.ref C) (.type "ValueError")else none)≈true;rw[if_pos 0.7];exact c.val
inductive Xy(K:Fg)(xs:LV)(H:Hp)(Q:VK):Prop
 | mk:∀(e C:δ) (dx:Option δ) (y:V) (cv:ε) (b:Bool),xs=[.ref e,y]->Ae y cv->(∀ u,Ae y u->u=cv)->H e≈(XO e C dx)->K1 H dx->JR K C->W.kitOne K (.ref C) cv≈b->Q (.bl b) H->Xy K xs H Q
def eL{X:Cx}:EG X (.builtin "isinstance") (Xy X.K):=by
 intro π s σ H xs us Q I r h;obtain⟨e,C,dx,y,cv,b,rfl,ry,hy,hx,hd,c,k,q⟩:=h;obtain⟨u,w',rfl,r1,r2⟩:=Og r;cases r1;rw[hy w' r2];exact rP I hx hd c k λtk=>⟨.bl b,H,I.tok _,Y,q⟩
def AA.xdict{H H':Hp}{dx:Option δ}(h:K1 H dx)(s:AA H H'):K1 H' dx:=h.elim .inl λ⟨a,fs,e,x⟩=>.inr ⟨a,fs,e,s _ _ x⟩
section
variable {X:Cx}
end
end L2
namespace L2
open PySem PySem.W PySem.Spec PyProof.Rows
section
variable {X:Cx}{e:Expr}{te:TE}{pos:Pos}{k:Nat}
end
end L2
namespace L2
open PySem PySem.Spec PyProof.Rows HT
section
variable {prog:ω}{w:World}{A:Around}{E:EV}{s:χ}
def ua{t sl:δ}{items:τ}{vl vu:ε}{lo hi:Option Int}{Q:EV}(ht:IsTup s.heap t items)(hs:s.heap.IsSliceOf sl vl vu .none)(pl:IsPart vl lo)(pu:IsPart vu hi)
  (hw:sIx items.size 0 lo=0/\sIx items.size items.size hi=items.size) (h:Q (.ref t) s):wpAny 0.4 A (getItem (.ref t) (.ref sl)) Q E s:=by
 obtain⟨os,hos,hcs,hds⟩:=id hs;have hTs:s.TypeIs (.ref sl) "slice":=⟨os,hos,hcs⟩;unfold getItem
 try with_reducible refine Jj ?_
 first | refine Ja (Jd ?_) | skip
 refine Ja (wpAny_sequenceKey ht.typeIs 0.1 ?_);refine Ja (wpAny_callSpecial?_slot (name:=Str.ofString "__getitem__") ht.typeIs NU
  (wpAny_call_entry NU ht.typeIs entry_tuple_getitem ?_ (args_tuple_getitem _ _)))
 show wpAny _ _ (Builtin.Tuple.tupleItemsOf (.ref t)>>=_) _ _ s;refine Ja (tupleItemsOf_ ht ?_);refine Ja (wpAny_typeOf hTs ?_);rw[if_pos 0.1];refine Ja (iA hs pl pu ?_);have yes:1.7=true:=by
  rw[hw.1,hw.2];simp
 show wpAny _ _ (if 1.7=true then _ else _) _ _ s;rw[if_pos yes];apply Ja;unfold Builtin.Tuple.tupleIsExact;refine Ja (wpAny_typeOf ht.typeIs ?_);apply Jd;rw[if_pos 0.1];refine Ja (wpAny_rule ?_);refine Jd ?_;exact⟨Z,Jd h⟩
end
inductive YU(K:Fg)(x:V)(lo:Option Int)(hi:Option Int)(H:Hp)(Q:VK):Prop
 | mk:∀ a xs,x=.ref a->AG K H a xs->((sIx ↑xs 0 lo=0/\sIx ↑xs ↑xs hi=↑xs)->Q (.ref a) H)->(¬ (sIx ↑xs 0 lo=0/\sIx ↑xs ↑xs hi=↑xs)->∀ p,H p=none->Q (.ref p) (upd H p (.tup (BO xs lo hi))))->YU K x lo hi H Q
def w_{X:Cx}:QH X (YU X.K):=by
 intro π s σ H x v vl vu lo hi sl Q I rx hs pl pu h;obtain⟨a,xs,ex,hx,q1,q2⟩:=h;by_cases hw:sIx ↑xs 0 lo=0/\sIx ↑xs ↑xs hi=↑xs
 ·subst ex;cases rx;obtain⟨ψ,r,ht,hz⟩:=I.tuple hx;have hlen:ψ.toArray.size=↑xs:=by rw[Yn];exact r.length.symm
  refine⟨"tuple",_,NU.lookup,ht.typeIs,?_⟩;exact ua ht hs pl pu (by rw[hlen];exact hw) ⟨.ref a,H,I,rfl,q1 hw⟩
 ·exact vQ π s σ H x v vl vu lo hi sl Q I rx hs pl pu ⟨a,xs,ex,hx,hw,q2 hw⟩
def vf{xs:LV}{lo hi:Option Int}(h:sIx ↑xs 0 lo=0/\sIx ↑xs ↑xs hi=↑xs):BO xs lo hi=xs:=by
 unfold BO;rw[h.1,h.2,List.drop_zero,Nat.sub_zero,Bt]
def M7{K:Fg}{H:Hp}{a b:δ}{xs ys:LV}{Q:VK}(hx:H a≈(.tup xs))(hy:H b≈(.tup ys))(hz:↑xs + ↑ys<=sizeLine)(q:∀ p H',AA H H'->H' p≈(.tup (xs++ys))->Q (.ref p) H'):Oc K (.ref a) (.ref b) H Q :=
 ⟨a,b,xs,ys,rfl,rfl,AG.of hx,AG.of hy,hz,λe=>q b H (AA.refl _) (by rw[e];exact hy),λ_ e=>q a H (AA.refl _) (by rw[e,EM];exact hx),λ_ _ p hp=>q p _ (λc o e=>by rw[AD (AK e hp)];exact e) uS⟩
end L2
namespace L2
open PySem PySem.Spec PyProof.Rows
def X6:Expr->Option Str
 | .Constant (.str x) _ _=>↥x
 | _=>none
def Rl:μ->Option (LS)
 | []=>↥[]
 | e :: r=>match X6 e,Rl r with
  | some p,↥l=>↥(p :: l)
  | _,_=>none
def iY:Expr->Option (LS)
 | .Tuple es _ _=>Rl es
 | _=>none
def Yam(l:LS):TE:=λ_ H Q=>∀ p,H p=none->Q (.ref p) (upd H p (.tup (l.map V.str)))
section
variable {X:Cx}
def tM{e:Expr}{x:Str}(h:X6 e≈x):∃ k pos,e=.Constant (.str x) k pos:=by
 unfold X6 at h;split at h
 ·cases h;exact⟨_,Z⟩
 ·cases h
theorem fm:∀ {es:μ}{l:LS},Rl es≈l->PA X es (λ_ H Q=>Q (l.map V.str) H)
 | [],l,h=>by
  cases h;exact AB
 | e :: r,l,h=>by
  unfold Rl at h;split at h
  ·rename_i p l' h1 h2
   cases h;obtain⟨k,pos,rfl⟩:=tM h1;exact pC Ah (fm h2)
  ·cases h
def O6{e:Expr}(l:LS)(h:iY e≈l)(hl:↑l<=100000):PE X e (Yam l):=by
 unfold iY at h;split at h
 ·intro π s σ H Q I q;exact A5 (fm h) π s σ H Q I ⟨sL (by rw[Ya];exact hl),q⟩
 ·cases h
end
end L2
namespace L2
open PySem PySem.Spec PySem.Builtin PySem.Builtin.ObjectAttr PySem.W
structure ExI(K:Fg)(C D:δ)(a:Str):Prop extends JR K C where
 lk:∃ nm q N bs sn sub ab col dd k0 k1 k2 k3 k5,K.lookup C≈(excClassObj nm q C N bs [.ref D,.type "ValueError",.type "Exception",.type "BaseException",.type "object"] true sn sub ab col dd k0 k1 k2 k3 k5 "ValueError.__new__")
 sa:W.findIn K (.ref C) "__setattr__"≈(↥(.builtin "object.__setattr__"))
 na:W.findIn K (.ref C) a≈none
section
variable {K:Fg}{prog:ω}{w:World}{A:Around}{E:EV}{s:χ}{C D e t0:δ}{a:Str}{v:ε}
end
end L2
namespace L2
open PySem PySem.Spec PyProof.Rows
section
variable {X:Cx}{π:PL}{σ:St}{H:Hp}{s:χ}{a:δ}{φ:Heap->Prop}
end
section
variable {X:Cx}{C D f:δ}{fd:FuncData}{k:Nat}{x dn a:Str}{np Ac pos apos pos':Pos}{e o value:Expr}{es:μ}{t:TA}{ta tv:TE}{ps:LS}
end
structure Tp(K:Fg)(x:Str)(st:Stmt)(f:δ)(fd:FuncData):Prop where
 a:W.nsIn K mainGlobals x≈(↥(.ref f))
 fn:BR K x x st f fd
structure Mp(K:Fg)(C:δ)(x q:Str)(st:Stmt)(f:δ)(fd:FuncData):Prop where
 a:W.findIn K (.ref C) x≈(↥(.ref f))
 i:W.isFn K (.ref f)=true
 fn:BR K x q st f fd
structure Cp(K:Fg)(x:Str)(C:δ):Prop where
 a:W.nsIn K mainGlobals x≈(↥(.ref C))
 pg:W.plainGet K C Str.empty=true
 hd:W.hasDictIn K C=true
 po:W.plainOver K C=true
 sa:W.findIn K (.ref C) "__setattr__"≈(↥(.builtin "object.__setattr__"))
 mx:W.makesIn K C=true
 kc:W.keepIn K (.ref C)=true
section
variable {K:Fg}{x q:Str}{st:Stmt}{f C:δ}{oc:ε}{od an:Option δ}{osl:Array (OU)}{kV doc pm Az ct:ε}
def tp(a:W.nsIn K mainGlobals x≈(↥(.ref f)))(l:K.lookup f≈⟨oc,od,.func (W.fnOf x x (Fn st) (Cn st) (AL st) .none kV doc pm an Az ct),osl⟩)(c:W.codeIn K Az x=true)(k:W.keepIn K (.ref f)=true):
  Tp K x st f (W.fnOf x x (Fn st) (Cn st) (AL st) .none kV doc pm an Az ct):=⟨a,i8 l c k⟩
def mp(a:W.findIn K (.ref C) x≈(↥(.ref f)))(i:W.isFn K (.ref f)=true)(l:K.lookup f≈⟨oc,od,.func 2.0,osl⟩)(c:W.codeIn K Az q=true)(k:W.keepIn K (.ref f)=true):
  Mp K C x q st f 2.0:=⟨a,i,i8 l c k⟩
end
section
variable {K:Fg}{mg:Str->OU}{x q:Str}{st:Stmt}{f:δ}{fd:FuncData}{h:Heap}
def aL{us:LU}(h:↑us=1):∃ a,us=[a]:=List.length_eq_one_iff.mp h
def ln2{us:LU}(h:↑us=2):∃ a b,us=[a,b]:=by
 cases us with
 | nil=>cases h
 | cons a r=>obtain⟨_,rfl⟩:=aL (Nat.succ.inj h);exact⟨_,Z⟩
def aK{us:LU}(h:↑us=3):∃ a b c,us=[a,b,c]:=by
 cases us with
 | nil=>cases h
 | cons a r=>obtain⟨_,_,rfl⟩:=ln2 (Nat.succ.inj h);exact⟨G,Z⟩
def mU{us:LU}(h:↑us=4):∃ a b c d,us=[a,b,c,d]:=by
 cases us with
 | nil=>cases h
 | cons a r=>obtain⟨_,_,_,rfl⟩:=aK (Nat.succ.inj h);exact⟨G,_,Z⟩
def Bb(a:Str)(F:BR K x q st f fd)(e:∀(kV doc pm:ε) (an:Option δ) (Az ct u:ε),bindArgs 2.0 ⟨[u],[]⟩=pure ([a].zip [u]):=by intros;rfl):Bz K fd [a] [] :=
 F.binds λ_ _ _ _ _ _ us hl=>by
 obtain⟨_,rfl⟩:=aL hl;exact e ..
def CY(a b:Str)(F:BR K x q st f fd)(e:∀(kV doc pm:ε) (an:Option δ) (Az ct u v:ε),bindArgs 2.0 ⟨[u,v],[]⟩=pure ([a,b].zip [u,v]):=by intros;rfl):Bz K fd [a,b] [] :=
 F.binds λ_ _ _ _ _ _ us hl=>by
 obtain⟨_,_,rfl⟩:=ln2 hl;exact e ..
def Dw(a b c:Str)(F:BR K x q st f fd)(e:∀(kV doc pm:ε) (an:Option δ) (Az ct u v w:ε),bindArgs 2.0 ⟨[u,v,w],[]⟩=pure ([a,b,c].zip [u,v,w]):=by intros;rfl):Bz K fd [a,b,c] [] :=
 F.binds λ_ _ _ _ _ _ us hl=>by
 obtain⟨_,_,_,rfl⟩:=aK hl;exact e ..
def VS(a b c d:Str)(F:BR K x q st f fd)(e:∀(kV doc pm:ε) (an:Option δ) (Az ct u v w y:ε),bindArgs 2.0 ⟨[u,v,w,y],[]⟩=pure ([a,b,c,d].zip [u,v,w,y]):=by intros;rfl):Bz K fd [a,b,c,d] [] :=
 F.binds λ_ _ _ _ _ _ us hl=>by
 obtain⟨_,_,_,_,rfl⟩:=mU hl;exact e ..
def df{ps:LS}(X:K.In h)(G:h.Ns mainGlobals mg)(T:Tp K x st f fd)(b:Bz K fd ps []):Def K mg x st ps f fd:=⟨T.fn,b,W.mg_of X G T.a⟩
theorem Tp.ex{x q:Str}(F:BR K x q st f fd):∃(kV doc pm:ε) (an:Option δ) (Az ct:ε),fd=W.fnOf x q (Fn st) (Cn st) (AL st) .none kV doc pm an Az ct:=by
 obtain⟨oc,od,kV,doc,pm,an,Az,ct,osl,e,_⟩:=F.ex;exact⟨kV,doc,pm,an,Az,ct,e⟩
end
structure Qp(K:Fg)(x:Str)(C:δ):Prop where
 a:W.nsIn K mainGlobals x≈(↥(.ref C))
 cl:W.isClsIn K C=true
 ty:W.typeIn K (.ref C)≈(.type "type")
structure S15(K:Fg)(q Q0 Q1 Q2 Q3 Q4 Q5 Q6 Q7 Q8 Q9 QL QK QJ QI IP:δ)(b0 b1 b2 b3 b4 b5 b6 b7 b8 b9 o_ oz oy ow ou:Bool):Prop where
 f0:W.subIn K (.ref q) (.ref Q0)≈b0
 f1:W.subIn K (.ref q) (.ref Q1)≈b1
 f2:W.subIn K (.ref q) (.ref Q2)≈b2
 f3:W.subIn K (.ref q) (.ref Q3)≈b3
 f4:W.subIn K (.ref q) (.ref Q4)≈b4
 f5:W.subIn K (.ref q) (.ref Q5)≈b5
 f6:W.subIn K (.ref q) (.ref Q6)≈b6
 f7:W.subIn K (.ref q) (.ref Q7)≈b7
 f8:W.subIn K (.ref q) (.ref Q8)≈b8
 f9:W.subIn K (.ref q) (.ref Q9)≈b9
 bN:W.subIn K (.ref q) (.ref QL)≈o_
 bM:W.subIn K (.ref q) (.ref QK)≈oz
 bL:W.subIn K (.ref q) (.ref QJ)≈oy
 bK:W.subIn K (.ref q) (.ref QI)≈ow
 bJ:W.subIn K (.ref q) (.ref IP)≈ou
section
variable {K:Fg}{C D N:δ}{nm q a:Str}{bs sub bm:LU}{hd ab:Bool}{sn:LS}{col:Option Bool}{dd:Option δ}{k0 k1 k2 k3 k5:OU}
def qc(l:K.lookup C≈(excClassObj nm q C N bs bm hd sn sub ab col dd k0 k1 k2 k3 k5 "ValueError.__new__"))(v:W.subIn K (.ref C) (.type "ValueError")≈true)(b:W.subIn K (.ref C) (.type "BaseException")≈true)(t:W.subIn K (.ref C) (.type "AttributeError")≈false)(n:W.subIn K (.ref C) (.type "NameError")≈false)(k:W.keepIn K (.ref C)=true):ExC K C :=
 ⟨⟨G,G,G,G,G,G,G,G,l⟩,v,b,t,n,k⟩
def qa(l:K.lookup C≈(excClassObj nm q C N bs bm hd sn sub ab col dd k0 k1 k2 k3 k5 "ValueError.__new__"))(v:W.subIn K (.ref C) (.type "ValueError")≈true)(b:W.subIn K (.ref C) (.type "BaseException")≈true)(t:W.subIn K (.ref C) (.type "AttributeError")≈false)(n:W.subIn K (.ref C) (.type "NameError")≈false)(k:W.keepIn K (.ref C)=true)
  (ga:W.findIn K (.ref C) "__getattribute__"≈(↥(.builtin "BaseException.__getattribute__"))) (gt:W.findIn K (.ref C) "__getattr__"≈none) (ca:W.findIn K (.ref C) "__class__"≈(↥(.builtin "object.__class__"))) (cg:W.specialIn K (.builtin "object.__class__") "__get__"≈(↥(.builtin "getset_descriptor.__get__"))) (ct:W.takesIn K (.builtin "object.__class__")≈true) (ob:W.mroIn K C (.type "object")≈true):JR K C:=⟨qc l v b t n k,ga,gt,ca,cg,ct,ob⟩
def qi(l:K.lookup C≈(excClassObj nm q C N bs [.ref D,.type "ValueError",.type "Exception",.type "BaseException",.type "object"] true sn sub ab col dd k0 k1 k2 k3 k5 "ValueError.__new__"))(v:W.subIn K (.ref C) (.type "ValueError")≈true)(b:W.subIn K (.ref C) (.type "BaseException")≈true)(t:W.subIn K (.ref C) (.type "AttributeError")≈false)(n:W.subIn K (.ref C) (.type "NameError")≈false)(k:W.keepIn K (.ref C)=true)
  (ga:W.findIn K (.ref C) "__getattribute__"≈(↥(.builtin "BaseException.__getattribute__"))) (gt:W.findIn K (.ref C) "__getattr__"≈none) (ca:W.findIn K (.ref C) "__class__"≈(↥(.builtin "object.__class__"))) (cg:W.specialIn K (.builtin "object.__class__") "__get__"≈(↥(.builtin "getset_descriptor.__get__"))) (ct:W.takesIn K (.builtin "object.__class__")≈true) (ob:W.mroIn K C (.type "object")≈true) (sa:W.findIn K (.ref C) "__setattr__"≈(↥(.builtin "object.__setattr__"))) (na:W.findIn K (.ref C) a≈none):ExI K C D a:=⟨qa l v b t n k ga gt ca cg ct ob,⟨G,G,G,G,G,G,G,l⟩,sa,na⟩
end
section
variable {X:Cx}{π:PL}{σ:St}{scope:Scope}{own η:LS}{js:LN}
end
section
variable {X:Cx}{scope:Scope}{own η:LS}{js:LN}{tg iter elt:Expr}{ifs:μ}{wi:TI}{g:TG}{tt:TT}{te:TE}{pos:Pos}
end
section
variable {prog:ω}{w:World}{A:Around}{E:EV}{s:χ}{r:δ}
end
section
variable {X:Cx}
end
section
variable {prog:ω}{w:World}{A:Around}
end
section
variable {X:Cx}
end
section
variable {X:Cx}{π:PL}{σ:St}{H:Hp}{s:χ}{a:δ}{o:Obj}{ν:List (List Key×V)}
def Inv.thawT(I:Inv X π σ H s)(h:H a≈(.frz o (.dT ν)))(nf:∀ o' v,X.H₀ a≠some (.frz o' v)):Inv X π σ (upd H a (.dT ν)) s:=by
 refine I.reAt h (λ_ z=>nomatch z) (λ_ z=>nomatch z) (λ_ z=>nomatch z) nf λk=>k.2.stay (λ_ _ _ q=>q) (λc q=>?_) λc xs q=>?_
 ·rw[AD]
  ·exact q
  ·rintro rfl;rw[h]at q;cases q
 ·rw[AD]
  ·exact q
  ·rintro rfl;rw[h]at q;cases q
inductive jM(H₀:Hp)(t:TS)(D:Cy)(σ:St)(H:Hp):Prop
 | mk:∀ a o ν,H a≈(.frz o (.dT ν))->(∀ o' v,H₀ a≠some (.frz o' v))->t D σ (upd H a (.dT ν))->jM H₀ t D σ H
def fu{sts:List Stmt}{t:TS}(h:Bc X sts t):Bc X sts (jM X.H₀ t):=by
 intro π s σ H D I q;obtain⟨a,o,ν,ha,nf,q⟩:=q;exact h π s σ _ D (I.thawT ha nf) q
end
end L2
namespace L2
open PySem PySem.Spec PySem.Builtin
def h_:fillsNumberSlot (.type "tuple") "mul"=pure false :=
 fillsNumberSlot_seq (id:="tuple.__mul__") (r:=↥(.builtin "tuple.__rmul__")) F.slot_tuple_mul.lookup 0.7 F.slot_tuple_rmul.lookup 0.7
def hJ:seqRepeat? (.type "tuple")=pure (↥(.builtin "tuple.__mul__")):=by
 unfold seqRepeat?;rw[seqSlot_of (T:="tuple") (name:="__mul__") (id:="tuple.__mul__") F.slot_tuple_mul.lookup 0.7,seqSlot_of (T:="tuple") (name:="__rmul__") (id:="tuple.__rmul__") F.slot_tuple_rmul.lookup 0.7];rfl
def gy(a:Int)(t:Tok)(l:δ)(items:τ)(n:Nat)(dd:Option δ)(sl:Array (OU)):
  Meets (Builtin.«int.__rmul__» ⟨[.int a t,.ref l],[]⟩) (λ_ R s=>s.heap.get? l=some {cls:=.type "tuple",dict:=dd,data:=.seq items n,slots:=sl}/\R (.ok (.ret Value.notImplemented)) s):=
 .of_wp λprog w A R s h=>by obtain⟨hp,g,d,tk,os⟩:=s;obtain⟨hl,h⟩:=h;wp_walk;exact⟨Z,h⟩
def sQ(l:δ)(items:τ)(n:Nat)(dd:Option δ)(sl:Array (OU))(k:Int)(u:Tok)(hb:¬ (decide (k < -(2 ^ 63)) || decide (k ≥ 2 ^ 63))=true)(he:(items.isEmpty || k == 1)=true):
  Meets (Builtin.«tuple.__mul__» ⟨[.ref l,.int k u],[]⟩) (λ_ R s=>s.heap.get? l=some {cls:=.type "tuple",dict:=dd,data:=.seq items n,slots:=sl}/\R (.ok (.ret (Value.ref l))) {s with heap:=s.heap,toks:=s.toks}):=
 .of_wp λprog w A R s h=>by obtain⟨hp,g,d,tk,os⟩:=s;obtain⟨hl,h⟩:=h;have f1:=AutoSeq1.idx_int;have f2:=YE;wp_walk using wpAny_loadPart' hl;rw[if_neg hb];wp_walk using wpAny_loadPart' hl;exact⟨Z,h⟩
def sR(l:δ)(items:τ)(n:Nat)(dd:Option δ)(sl:Array (OU))(k:Int)(u:Tok)(hb:¬ (decide (k < -(2 ^ 63)) || decide (k ≥ 2 ^ 63))=true)(he:¬ (items.isEmpty || k == 1)=true)(h0:¬ (decide (k<=0) || items.isEmpty)=true)
  (hm:¬ (items.size * k > (2 ^ 63 - 1) / 8)) (ht:¬ Builtin.Tuple.tupleTooMany (items.size * k)=true) (hsz:((List.replicate k.toNat items).foldl (·++·) #[]).size<=sizeLine):
  Meets (Builtin.«tuple.__mul__» ⟨[.ref l,.int k u],[]⟩) (λ_ R s=>s.heap.get? l=some {cls:=.type "tuple",dict:=dd,data:=.seq items n,slots:=sl}/\R (.ok (.ret (Value.ref ⇑s))) {s with heap:=s.heap.push {cls:=Value.type "tuple",data:=Data.seq ((List.replicate k.toNat items).foldl (·++·) #[]) },toks:=s.toks}):=
 .of_wp λprog w A R s h=>by obtain⟨hp,g,d,tk,os⟩:=s;obtain⟨hl,h⟩:=h;have f1:=AutoSeq1.idx_int;have f2:=YE;wp_walk using wpAny_loadPart' hl;rw[if_neg hb];wp_walk using wpAny_loadPart' hl;rw[if_neg hm];wp_walk using wpAny_loadPart' hl;exact⟨Z,h⟩
def wI{a:Int}(h:a<=100000):¬ (a > (2 ^ 63 - 1) / 8):=by
 have:(100000:Int)<=(2 ^ 63 - 1) / 8:=by decide
 omega
section
variable {X:Cx}
inductive ip(K:Fg)(x:V)(y:V)(H:Hp)(Q:VK):Prop
 | mk:∀ a k xs,x=.ref a->y=.int k->AG K H a xs->0<k->k<=1000->↑xs<=100->((xs=[]\/k=1)->Q (.ref a) H)->(xs≠[]->k≠1->∀ p,H p=none->Q (.ref p) (upd H p (.tup (List.replicate k.toNat xs).flatten)))->ip K x y H Q
def cR:BM X (binaryOp .Mult) (ip X.K):=by
 exfalso;obtain⟨a,k,xs,rfl,rfl,ha,k0,k1,xl,q0,q1⟩:=h;cases rx;obtain⟨t,rfl⟩:=ry;obtain⟨ψ,r,p1,hz⟩:=I.tuple ha;have hl:=↑r;obtain⟨⟨cls,dd,data,sl⟩,ho,hc,n,hd⟩:=id p1;simp only at hc hd;subst hc hd;have hb:¬ (decide (k < -(2 ^ 63)) || decide (k ≥ 2 ^ 63))=true:=by
  rw[Jc 0.0,Jc 0.0];exact Yl
 refine wpAny_binaryOp_repeat_ref (T:="tuple") (U:="int") 0.1 ⟨_,ho,rfl⟩ (λs'=>typeIs_int s' k t) h_ F.fills_int_mul F.slot_int_rmul hJ F.slot_int_index.lookup
  (Py F.slot_int_rmul (typeIs_int s k t) F.entry_int_rmul (F.args_int_rmul_2 _ _) (gy k t a ψ.toArray n dd sl) ⟨ho,rfl,⟨_,ho,rfl⟩,?_⟩)
 by_cases he:xs=[]\/k=1
 ·have e:(ψ.toArray.isEmpty || k == 1)=true:=by
   rcases he with z | z
   ·rw[r.nil_iff.mpr z];rfl
   ·rw[z];simp
  exact Py F.slot_tuple_mul ⟨_,ho,rfl⟩ F.entry_tuple_mul (F.args_tuple_mul_2 _ _) (sQ a ψ.toArray n dd sl k t hb e) ⟨ho,⟨.ref a,H,I,rfl,q0 he⟩⟩
 ·have hx:xs≠[]:=λz=>he (.inl z);have hk:k≠1:=λz=>he (.inr z);have hi:ψ≠[]:=λz=>hx (r.nil_iff.mp z);have ie:ψ.toArray.isEmpty=false:=by simpa using hi
  have A6:List.foldl (λx1 x2=>x1++x2) #[] (List.replicate k.toNat ψ.toArray)=(List.replicate k.toNat ψ).flatten.toArray:=by
   have:=eR ψ k.toNat [];rw[List.nil_append]at this;exact this
  have hle:(List.replicate k.toNat ψ).flatten.length<=100000:=by
   rw[V9,<- hl];have h1:k.toNat<=1000:=by omega
   calc k.toNat * ↑xs<=1000 * 100:=Nat.mul_le_mul h1 xl
    _=100000:=rfl
  have hs:((List.replicate k.toNat ψ.toArray).foldl (·++·) #[]).size<=sizeLine:=by
   rw[A6,Yn];exact sL hle
  have prod:(ψ.toArray.size:Int) * k<=100000:=by
   rw[Yn,<- hl];have h1:k.toNat<=1000:=by omega
   have:↑xs * k.toNat<=100 * 1000:=Nat.mul_le_mul xl h1;have e:((↑xs:Nat):Int) * k=((↑xs * k.toNat:Nat):Int):=by rw[Int.natCast_mul];congr 1;omega
   rw[e];omega
  refine Py F.slot_tuple_mul ⟨_,ho,Y⟩ F.entry_tuple_mul (F.args_tuple_mul_2 _ _) (sR a ψ.toArray n dd sl k t hb (by rw[ie,NR];simpa using hk) (by rw[ie,Bool.or_false,Jc 0.0];exact Yl) (wI prod) (by
   unfold Builtin.Tuple.tupleTooMany;rw[Jc (by rw[sizeLine_eq];omega)];exact Yl) hs) ⟨ho,?_⟩
  rw[A6];refine⟨.ref _,_,I.laid (t':=s.toks) (o:=.tup (List.replicate k.toNat xs).flatten) (λb ob q=>Yb _ q) (Ye _) ?_,Y,q1 hx hk _ (I.hok.fresh (Ye _))⟩;exact⟨by rw[V9,hl,<- V9];exact sL hle,_,r.rep k.toNat,_,Yh _ rfl,Y,Z⟩
end
end L2
namespace L2
open PySem PySem.Spec PyProof.Rows
section
variable {X:Cx}{C D f:δ}{fd:FuncData}{k:Nat}{x dn a:Str}{np Ac pos apos pos':Pos}{e o value:Expr}{es:μ}{t:TA}{ta tv:TE}{ps:LS}
end
end L2
namespace L2
open PySem PySem.Spec PySem.Builtin
section
variable {X:Cx}
end
section
variable {X:Cx}
end
end L2
namespace L2
open PySem PySem.Spec PyProof.Rows
structure ub(h:Heap)(z ti to i1 i2 l1 l2:δ)(k:Nat)(f:ε):Prop where
 z:IsZip h z ti to f
 ti:IsPair h ti (.ref i1) (.ref i2)
 to:∃ a b,IsPair h to a b
 i1:h.IsListIter i1 l1 k
 i2:h.IsListIter i2 l2 k
section
variable {prog:ω}{w:World}{A:Around}{E:EV}{s:χ}
def qE{l1 l2:δ}{xs ys:τ}{Q:EV}(t1:s.heap.IsList l1 xs)(t2:s.heap.IsList l2 ys)
  (q:∀ g,ub g (⇑s + 4) (⇑s + 2) (⇑s + 3) ⇑s (⇑s + 1) l1 l2 0 .none->(∀ c o,s.heap.get? c≈o->g.get? c≈o)->Q (.ref (⇑s + 4)) {s with heap:=g}):
  wpAny 0.4 A (call (.type "zip") [.ref l1,.ref l2]) Q E s :=
 call_zip_2 t1 t2 λg a1 a2 a3 a4 a5 _ a7=>q g ⟨a1,a2,⟨G,a3⟩,a4,a5⟩ a7
end
section
variable {X:Cx}
end
abbrev LP(h:Heap)(z TI TO:δ)(f0:ε)(f:Bool):Prop:=h.get? z=some {cls:=.type "zip",dict:=none,data:=.fields #[f0,.bool f,.bool false,.ref TI,.ref TO],slots:=#[] }
section
variable {prog:ω}{w:World}{A:Around}{E:EV}{s:χ}
def gQ{z TI TO a:δ}{f:Bool}{oa:Obj}{Q:Bool->χ->Prop}(hz:LP s.heap z TI TO (rawInt a) f)(ha:s.heap.get? a≈oa)
  (hQ:∀ h',LP h' z TI TO (rawInt a) true->Heap.SameBut z s.heap h'->Q false {s with heap:=h' }):wpAny 0.4 A (Builtin.SmallTypes.ownedTupleIsFree (.ref z)) Q E s:=by
 unfold Builtin.SmallTypes.ownedTupleIsFree;refine Ja (Jg hz rfl (x:=rawInt a) rfl ?_);show wpAny _ _ (loadIfAlive ((a:Int).toNat)>>=_) _ _ _;rw[GQ];refine Ja (W.kdx_alive ha ?_);simp only[Option.isNone_some,FU,if_false];refine Ja (Jg hz rfl (x:=.bool f) rfl ?_);cases f with
 | true =>
  rw[if_neg (show ¬ ((Value.bool true != Value.bool true)=true)from Yl)];exact Jd (hQ _ hz (Heap.SameBut.refl _ _))
 | false =>
  rw[if_pos (show(Value.bool false != Value.bool true)=true from rfl)];exact Ja (wpAny_setField_rec hz 0.6 λh₃ he₃ hs₃=>Jd (hQ _ he₃ hs₃))
def uY{z TI TO i1 i2 l1 l2 a:δ}{f:Bool}{oa:Obj}{k1 k2:Nat}{xs ys:τ}{x y:ε}{Q:EV}(D:ZipApart z TI TO i1 i2 l1 l2)(hz:LP s.heap z TI TO (rawInt a) f)(ha:s.heap.get? a≈oa)(hTI:IsPair s.heap TI (.ref i1) (.ref i2))
  (h1:s.heap.IsListIter i1 l1 k1) (h2:s.heap.IsListIter i2 l2 k2) (Ap:s.heap.IsList l1 xs) (Al:s.heap.IsList l2 ys) (hx:xs[k1]?≈x) (hy:ys[k2]?≈y)
  (hQ:∀ h',LP h' z TI TO (rawInt a) true->h'.IsListIter i1 l1 (k1 + 1)->h'.IsListIter i2 l2 (k2 + 1)->IsPair h' ⇑s x y->h'.objs.size=⇑s + 1 ->
   (∀ c o,c≠z->c≠i1->c≠i2->s.heap.get? c≈o->h'.get? c≈o)->Q (.ref ⇑s) {s with heap:=h' }):
  wpAny 0.4 A (Builtin.«zip.__next__» ⟨[.ref z],[]⟩) (λfin s'=>∃ v,fin=.done (.ret v)/\Q v s') E s:=by
 show wpAny _ _ (field (.ref z) 2>>=_) _ _ _;refine Ja (Jg hz rfl (x:=.bool false) rfl ?_);show wpAny _ _ (field (.ref z) 3>>=_) _ _ _;refine Ja (Jg hz rfl (x:=.ref TI) rfl ?_);refine Ja (wpAny_seqItems hTI rfl ?_);show wpAny _ _ (Builtin.SmallTypes.ownedTupleIsFree (.ref z)>>=_) _ _ _;refine Ja (gQ hz ha λh₁ hz₁ hs₁=>?_);simp only[FU,if_false,List.forIn_toArray,QB,List.forIn_nil];refine Ja (Ja (Ja (Jj ?_)));show wpAny _ _ (Builtin.SmallTypes.nextOf (.ref i1)>>=_) _ _ _;refine Ja (wpAny_nextOf_list_item (h1.extBut hs₁.extBut D.i1z) (Ap.extBut hs₁.extBut D.l1z) hx λh₂ bE hs₂=>Jd ?_);refine Jd ?_;refine Ja (Ja (Jj ?_));show wpAny _ _ (Builtin.SmallTypes.nextOf (.ref i2)>>=_) _ _ _;refine Ja (wpAny_nextOf_list_item ((h2.extBut hs₁.extBut D.i2z).extBut hs₂.extBut D.i12.symm) ((Al.extBut hs₁.extBut D.l2z).extBut hs₂.extBut D.l2i1) hy λh₃ oJ hs₃=>Jd ?_);refine Jd (Jd ?_);refine Ja (wpAny_newTuple ?_ (by show 2<=sizeLine;rw[sizeLine_eq];decide));have hsz:h₃.objs.size=⇑s:=by rw[hs₃.1,hs₂.1,hs₁.1]
 have hz₃:LP h₃ z TI TO (rawInt a) true:=hs₃.extBut _ _ D.i2z.symm (hs₂.extBut _ _ D.i1z.symm hz₁);have hk:∀ c o,c≠z->c≠i1->c≠i2->s.heap.get? c≈o->h₃.get? c≈o:=λc o c1 c3 c4 e=>hs₃.extBut _ _ c4 (hs₂.extBut _ _ c3 (hs₁.extBut _ _ c1 e));have oN:h₃.IsListIter i1 l1 (k1 + 1):=bE.extBut hs₃.extBut D.i12;refine Jd ⟨Z,?_⟩;show Q (.ref h₃.objs.size) _;have fin:=hQ (h₃.push {cls:=.type "tuple",data:=.seq #[x,y] }) (Yb _ hz₃) (oN.at λo e=>Yb _ e) (oJ.at λo e=>Yb _ e) (by rw[<- hsz];exact Yh _ rfl) (by rw[Fs,hsz]) λc o c1 c2 c3 e=>Yb _ (hk c o c1 c2 c3 e);rw[hsz];exact fin
def uJ{z TI TO i1 i2 l1 l2 a:δ}{f:Bool}{oa:Obj}{k1 k2:Nat}{xs ys:τ}{Q:PySem.Fin->χ->Prop}(hh:A.handled=none)(D:ZipApart z TI TO i1 i2 l1 l2)(hz:LP s.heap z TI TO (rawInt a) f)(ha:s.heap.get? a≈oa)(hTI:IsPair s.heap TI (.ref i1) (.ref i2))
  (h1:s.heap.IsListIter i1 l1 k1) (h2:s.heap.IsListIter i2 l2 k2) (Ap:s.heap.IsList l1 xs) (Al:s.heap.IsList l2 ys) (CI:xs[k1]?=none\/ys[k2]?=none)
  (hE:∀ h' e,(∀ c o,c≠z->c≠i1->c≠i2->s.heap.get? c≈o->h'.get? c≈o)->(∃ o,h'.get? e≈o/\o.cls=.type "StopIteration")->E (.ref e) {s with heap:=h' }):
  wpAny 0.4 A (Builtin.«zip.__next__» ⟨[.ref z],[]⟩) Q E s:=by
 show wpAny _ _ (field (.ref z) 2>>=_) _ _ _;refine Ja (Jg hz rfl (x:=.bool false) rfl ?_);show wpAny _ _ (field (.ref z) 3>>=_) _ _ _;refine Ja (Jg hz rfl (x:=.ref TI) rfl ?_);refine Ja (wpAny_seqItems hTI rfl ?_);show wpAny _ _ (Builtin.SmallTypes.ownedTupleIsFree (.ref z)>>=_) _ _ _;refine Ja (gQ hz ha λh₁ hz₁ hs₁=>?_);simp only[FU,if_false,List.forIn_toArray,QB,List.forIn_nil];refine Ja (Ja (Ja (Jj ?_)));show wpAny _ _ (Builtin.SmallTypes.nextOf (.ref i1)>>=_) _ _ _;cases hx:xs[k1]? with
 | none =>
  refine Ja (wpAny_nextOf_list_end hh (h1.extBut hs₁.extBut D.i1z) (Ap.extBut hs₁.extBut D.l1z) hx λh₂ e hs₂ he=>?_);exact hE h₂ e (λc o c1 c3 _ x=>hs₂ _ _ c3 (hs₁.extBut _ _ c1 x)) he
 | some x =>
  have hy:ys[k2]?=none:=by rcases CI with h | h;rw[hx]at h;cases h;exact h
  refine Ja (wpAny_nextOf_list_item (h1.extBut hs₁.extBut D.i1z) (Ap.extBut hs₁.extBut D.l1z) hx λh₂ bE hs₂=>Jd ?_);refine Jd ?_;refine Ja (Ja (Jj ?_));show wpAny _ _ (Builtin.SmallTypes.nextOf (.ref i2)>>=_) _ _ _;refine Ja (wpAny_nextOf_list_end hh ((h2.extBut hs₁.extBut D.i2z).extBut hs₂.extBut D.i12.symm) ((Al.extBut hs₁.extBut D.l2z).extBut hs₂.extBut D.l2i1) hy λh₃ e hs₃ he=>?_);exact hE h₃ e (λc o c1 c3 c4 x=>hs₃ _ _ c4 (hs₂.extBut _ _ c3 (hs₁.extBut _ _ c1 x))) he
structure LK(h:Heap)(z TI TO i1 i2 l1 l2 S:δ)(i:Nat)(xs ys:τ):Prop where
 st:(IsZip h z TI TO .none)\/∃(a:δ) (f:Bool) (oa:Obj),LP h z TI TO (rawInt a) f/\h.get? a≈oa/\a≠z/\a≠i1/\a≠i2/\a≠S
 ti:IsPair h TI (.ref i1) (.ref i2)
 to:∃ a b,IsPair h TO a b
 h1:h.IsListIter i1 l1 i
 h2:h.IsListIter i2 l2 i
 Ap:h.IsList l1 xs
 Al:h.IsList l2 ys
def LK.keep{h h':Heap}{z TI TO i1 i2 l1 l2 S:δ}{i:Nat}{xs ys:τ}(x:LK h z TI TO i1 i2 l1 l2 S i xs ys)(hk:∀ b o,b≠S->h.get? b≈o->h'.get? b≈o)(nz:z≠S)(nti:TI≠S)(nto:TO≠S)(n1:i1≠S)(n2:i2≠S)(m1:l1≠S)(m2:l2≠S):LK h' z TI TO i1 i2 l1 l2 S i xs ys:=by
 obtain⟨st,ti,⟨a,b,to⟩,h1,h2,Ap,Al⟩:=x;refine⟨?_,hk _ _ nti ti,⟨a,b,hk _ _ nto to⟩,h1.at λo e=>hk _ o n1 e,h2.at λo e=>hk _ o n2 e,Ap.at λo e=>hk _ o m1 e,Al.at λo e=>hk _ o m2 e⟩
 rcases st with st | ⟨a,f,oa,st,ha,n⟩
 ·exact .inl (hk _ _ nz st)
 ·exact .inr ⟨a,f,oa,hk _ _ nz st,hk _ _ n.2.2.2 ha,n⟩
def pM{z TI TO i1 i2 l1 l2 S:δ}{i:Nat}{xs ys:τ}{x y:ε}{Q:OU->χ->Prop}(D:ZipApart z TI TO i1 i2 l1 l2)(hst:LK s.heap z TI TO i1 i2 l1 l2 S i xs ys)(hS:S<⇑s)(hx:xs[i]?≈x)(hy:ys[i]?≈y)
  (hQ:∀ h',LK h' z TI TO i1 i2 l1 l2 S (i + 1) xs ys->IsPair h' ⇑s x y->h'.objs.size=⇑s + 1->2.1->Q (↥(.ref ⇑s)) {s with heap:=h' }):
  wpAny 0.4 A (pyNext (.ref z)) Q E s:=by
 obtain⟨st,ti,⟨a,b,to⟩,h1,h2,Ap,Al⟩:=hst;have mi:i1<⇑s:=by obtain⟨_,e,_⟩:=h1;exact Yf e
 have mh:i2<⇑s:=by obtain⟨_,e,_⟩:=h2;exact Yf e
 rcases st with hz | ⟨c,f,oc,hz,hc,nz,n1,n2,nS⟩
 ·have zl:z<⇑s:=Yf hz;refine wpAny_pyNext_zip_item D hz ti to h1 h2 Ap Al hx hy λh' a1 a2 a3 a4 a5 a6 hk=>hQ h' ⟨.inr ⟨_,false,_,a1,a5,Bq zl,Bq mi,Bq mh,Bq hS⟩,hk _ _ D.TIz D.TITO D.TIi1 D.TIi2 ti,⟨G,a2⟩,a3,a4,Ap.at λo e=>hk _ o D.l1z D.l1TO D.l1i1 D.l1i2 e,Al.at λo e=>hk _ o D.l2z D.l2TO D.l2i1 D.l2i2 e⟩ a5 a6 hk
 ·have hT:s.TypeIs (.ref z) "zip":=⟨_,hz,Y⟩;unfold pyNext;exact Ja (wpAny_attempt (wpAny_callSpecial?_slot (name:=Str.ofString "__next__") hT KI
   (wpAny_call_entry KI hT T4
    (uY D hz hc ti h1 h2 Ap Al hx hy λh' a1 a3 a4 a5 a6 hk=>Jd (hQ h' ⟨.inr ⟨c,true,_,a1,hk _ _ nz n1 n2 hc,nz,n1,n2,nS⟩,hk _ _ D.TIz D.TIi1 D.TIi2 ti,⟨G,hk _ _ D.TOz D.TOi1 D.TOi2 to⟩,a3,a4,Ap.at λo e=>hk _ o D.l1z D.l1i1 D.l1i2 e,Al.at λo e=>hk _ o D.l2z D.l2i1 D.l2i2 e⟩ a5 a6 λb o b1 _ b3 b4 e=>hk b o b1 b3 b4 e)) (T7 _))))
def pL{z TI TO i1 i2 l1 l2 S:δ}{i:Nat}{xs ys:τ}{Q:OU->χ->Prop}(hh:A.handled=none)(D:ZipApart z TI TO i1 i2 l1 l2)(hst:LK s.heap z TI TO i1 i2 l1 l2 S i xs ys)(CI:xs[i]?=none\/ys[i]?=none)
  (hQ:∀ h',2.1->Q none {s with heap:=h' }):wpAny 0.4 A (pyNext (.ref z)) Q E s:=by
 obtain⟨st,ti,⟨a,b,to⟩,h1,h2,Ap,Al⟩:=hst
 rcases st with hz | ⟨c,f,oc,hz,hc,nz,n1,n2,nS⟩
 ·exact wpAny_pyNext_zip_end hh D hz ti to h1 h2 Ap Al CI hQ
 ·have hT:s.TypeIs (.ref z) "zip":=⟨_,hz,Y⟩;unfold pyNext;refine Ja (wpAny_attempt (wpAny_callSpecial?_slot (name:=Str.ofString "__next__") hT KI
   (wpAny_call_entry KI hT T4 (uJ hh D hz hc ti h1 h2 Ap Al CI λh' e hk he=>?_) (T7 _))))
  obtain⟨o,ho,hc⟩:=he;refine Ja (wpAny_isInstance (T:="StopIteration") (b:=true) ⟨o,ho,hc⟩ isSubtype_stop ?_);exact Jd (hQ _ λb o b1 _ b3 b4 e=>hk b o b1 b3 b4 e)
structure LQ(xs ys:τ)(lo:δ)(h:Heap)(as:ζ):Prop where
 rise:as.Pairwise (·<·)
 above:∀ a∈as,lo<a
 pairs:∀(j:Nat) (a:δ),as[j]?≈a->∃ x y,xs[j]?≈x/\ys[j]?≈y/\IsPair h a x y
def LQ.there{xs ys:τ}{lo:δ}{h:Heap}{as:ζ}(g:LQ xs ys lo h as){a:δ}(ha:a∈as):a<h.objs.size:=by
 obtain⟨j,hj⟩:=List.mem_iff_getElem?.mp ha;obtain⟨_,_,_,_,e⟩:=g.pairs j a hj;exact Yf e
structure UB(z TI TO i1 i2 l1 l2 S:δ):Prop where
 z:z<S
 ti:TI<S
 to:TO<S
 i1:i1<S
 i2:i2<S
 l1:l1<S
 l2:l2<S
def pK{R:Result->χ->Prop}{z TI TO i1 i2 l1 l2 S:δ}{xs ys:τ}(hh:A.handled=none)(D:ZipApart z TI TO i1 i2 l1 l2)(L:UB z TI TO i1 i2 l1 l2 S)(hn:min xs.size ys.size<=sizeLine)(res:ε){h₁:Heap}
  (hR:∀ h' tk acc c as,(∀ b o,b≠S->b≠z->b≠TO->b≠i1->b≠i2->h₁.get? b≈o->h'.get? b≈o)->h'.get? S=some {cls:=.type "list",dict:=none,data:=.seq acc c,slots:=#[] }->↑as=min xs.size ys.size->LQ xs ys S h' as ->
   acc.toList=as.map Value.ref->R (.ok (.ret res)) {s with heap:=h',toks:=tk}):
  ∀(k i:Nat) (h:Heap) (tk c:Nat) (acc:τ) (as:ζ),min xs.size ys.size - i=k->i<=min xs.size ys.size->LK h z TI TO i1 i2 l1 l2 S i xs ys->(∀ b o,b≠S->b≠z->b≠TO->b≠i1->b≠i2->h₁.get? b≈o->h.get? b≈o) ->
   h.get? S=some {cls:=.type "list",dict:=none,data:=.seq acc c,slots:=#[] }->acc.toList=as.map Value.ref->↑as=i->LQ xs ys S h as ->
   codeAny 0.4 A (.builtin "list.extend.loop" ⟨[.ref S,.ref z,res],[]⟩) R {s with heap:=h,toks:=tk}:=by
 have nSz:S≠z:=Bq L.z;have nSo:S≠TO:=Bq L.to;have Ul:S≠i1:=Bq L.i1;have Uk:S≠i2:=Bq L.i2;intro k
 induction k with
 | zero =>
  intro i h tk c acc as hk hi hst hkeep hS CJ hal hG;have hin:i=min xs.size ys.size:=by omega
  refine codeAny_builtin PySem.F.entry_extend_loop ?_;rw[P5 Tu _];show wpAny _ A.in1 (pyNext (.ref z)>>=_) _ _ _;have CI:xs[i]?=none\/ys[i]?=none:=by
   rcases Nat.le_total xs.size ys.size with h | h
   ·exact .inl (Array.getElem?_eq_none 0.0)
   ·exact .inr (Array.getElem?_eq_none 0.0)
  refine Ja (pL (s:={s with heap:=h,toks:=tk}) (A:=A.in1) hh D hst CI λh' he=>?_);refine Jd (hR h' tk acc c as (λb o h0 h1 h2 h3 h4 e=>he b o h1 h2 h3 h4 (hkeep b o h0 h1 h2 h3 h4 e)) (he S _ nSz nSo Ul Uk hS) 0.0 ⟨hG.rise,hG.above,λj a hj=>?_⟩ CJ);obtain⟨x,y,e1,e2,e3⟩:=hG.pairs j a hj;have ha:=hG.above a (Yd hj);exact⟨x,y,e1,e2,he a _ (Bq (GV L.z ha)) (Bq (GV L.to ha)) (Bq (GV L.i1 ha)) (Bq (GV L.i2 ha)) e3⟩
 | succ k ih =>
  intro i h tk c acc as hk hi hst hkeep hS CJ hal hG;have A2:i<min xs.size ys.size:=by omega
  obtain⟨x,hx⟩:∃ x,xs[i]?≈x:=⟨xs[i],Array.getElem?_eq_getElem 0.0⟩;obtain⟨y,hy⟩:∃ y,ys[i]?≈y:=⟨ys[i],Array.getElem?_eq_getElem 0.0⟩;have hsz:acc.size=i:=by rw[<- LZ,CJ,Ya,hal]
  refine codeAny_builtin PySem.F.entry_extend_loop ?_;rw[P5 Tu _];show wpAny _ A.in1 (pyNext (.ref z)>>=_) _ _ _;refine Ja (pM (s:={s with heap:=h,toks:=tk}) D hst (Yf hS) hx hy λh' ZO ht hz hkp=>?_);dsimp only at ht hz hkp ⊢;have IW:=hkp S _ nSz nSo Ul Uk hS;have up:∀ b o,b≠S->h'.get? b≈o->(h'.update S (Obj.mapSeq (·.push (Value.ref h.objs.size)))).get? b≈o:=λb o hb e=>(IM _ _ (Yw hb)).trans e;have hSl:S<h.objs.size:=Yf hS;show wpAny _ A.in1 (updateSeq S (·.push (Value.ref h.objs.size))>>=_) _ _ _;refine Ja ?_;refine wpAny_updateSeq IW rfl (Jd ⟨plainId_quiet Tu _,ih (i + 1) _ tk _ (acc.push (Value.ref h.objs.size)) (as++[h.objs.size]) 0.0 A2 (ZO.keep up (Yw nSz) (Yt L.ti) (Yw nSo) (Yw Ul) (Yw Uk) (Yt L.l1) (Yt L.l2))
   (λb o h0 h1 h2 h3 h4 e=>up b o h0 (hkp b o h1 h2 h3 h4 (hkeep b o h0 h1 h2 h3 h4 e))) (JJ _ IW rfl) (by rw[P6,CJ,Br];rfl) (by rw[Yo,hal];rfl) ⟨?_,?_,?_⟩⟩) (by rw[hsz];omega) (by show(acc.push (Value.ref h.objs.size)).size<=sizeLine + 1;rw[Array.size_push,hsz];omega)
  ·refine List.pairwise_append.mpr ⟨hG.rise,List.pairwise_singleton _ _,λa ha b hb=>?_⟩;rw[Yc.mp hb];exact hG.there ha
  ·intro a ha
   rcases Ym.mp ha with ha | ha
   ·exact hG.above a ha
   ·rw[Yc.mp ha];exact hSl
  ·intro j b hj
   rcases Nat.lt_trichotomy j ↑as with h1 | h1 | h1
   ·rw[YK h1]at hj;obtain⟨x',y',e1,e2,e3⟩:=hG.pairs j b hj;have hb:=hG.above b (Yd hj);exact⟨x',y',e1,e2,up b _ (Bq hb) (hkp b _ (Bq (GV L.z hb)) (Bq (GV L.to hb)) (Bq (GV L.i1 hb)) (Bq (GV L.i2 hb)) e3)⟩
   ·subst h1;have hb:h.objs.size=b:=by simpa using hj
    subst hb;exact⟨x,y,by rw[hal];exact hx,by rw[hal];exact hy,up _ _ (Bq hSl) ht⟩
   ·have hnone:(as++[h.objs.size])[j]?=none:=NQ (by rw[Yo,List.length_singleton];omega);rw[hnone]at hj;cases hj
def sZ:typeLookup (.type "zip") "__len__"=pure none:=by rw[typeLookup_type,builtinLookup_eq_fast];kernel_rfl
def tQ:typeLookup (.type "zip") "__length_hint__"=pure none:=by rw[typeLookup_type,builtinLookup_eq_fast];kernel_rfl
def tP{z TI TO i1 i2 l1 l2:δ}{xs ys:τ}{Q:LU->χ->Prop}(hh:A.handled=none)(D:ZipApart z TI TO i1 i2 l1 l2)(L:UB z TI TO i1 i2 l1 l2 ⇑s)(hz:IsZip s.heap z TI TO .none)(hti:IsPair s.heap TI (.ref i1) (.ref i2))(hto:∃ a b,IsPair s.heap TO a b)
  (h1:s.heap.IsListIter i1 l1 0) (h2:s.heap.IsListIter i2 l2 0) (Ap:s.heap.IsList l1 xs) (Al:s.heap.IsList l2 ys) (hn:min xs.size ys.size<=sizeLine)
  (hQ:∀ h' tk as,2.1->↑as=min xs.size ys.size->LQ xs ys ⇑s h' as->Q (as.map Value.ref) {s with heap:=h',toks:=tk}):wpAny 0.4 A (collect (.ref z)) Q E s:=by
 have nSz:⇑s≠z:=Bq L.z;unfold collect;refine Ja (wpAny_runValue (codeAny_builtin PySem.F.entry_proto_collect ?_));rw[P5 PySem.F.plain_proto_collect _];show wpAny _ A.in1 (newList []>>=λl=>again (.builtin "list.__iadd__" ⟨[l,.ref z],[]⟩)) _ _ s;refine Ja (wpAny_newObj_type ?_);refine Jd ⟨plainId_quiet PySem.F.plain_list_iadd _,codeAny_builtin PySem.F.entry_list_iadd ?_⟩;rw[P5 PySem.F.plain_list_iadd _];have push:∀ b o,s.heap.get? b≈o->(s.heap.push {cls:=.type "list",data:=.seq ([]:LU).toArray}).get? b≈o:=λb o e=>Yb _ e;have hz₁:=push _ _ hz;have hT:Shared.TypeIs {s with heap:=s.heap.push {cls:=.type "list",data:=.seq ([]:LU).toArray} } (.ref z) "zip":=⟨_,hz₁,Y⟩;show wpAny _ A.in1 (Builtin.List.listExtendWith (.ref ⇑s) (.ref z) (.ref ⇑s)) _ _ _;unfold Builtin.List.listExtendWith;refine Ja (wpAny_typeOf hT ?_);have e1:Builtin.List.listSameRef (.ref ⇑s) (.ref z)=false:=by simp[Builtin.List.listSameRef,nSz]
 have e2:(Value.type "zip" == Value.type "list")=false:=by decide
 have e3:(Value.type "zip" == Value.type "tuple")=false:=by decide
 simp only[e1,e2,e3,Bool.or_false,FU,if_false];refine Ja (wpAny_pyIter_zip (s:={s with heap:=s.heap.push {cls:=.type "list",data:=.seq ([]:LU).toArray} }) hz₁ ?_);refine Ja (Jj ?_);unfold Builtin.List.listLengthHint;refine Ja (wpAny_specialOf hT sZ ?_);show wpAny _ A.in1 (specialOf (Value.ref z) (Str.ofString "__length_hint__")>>=_) _ _ _;refine Ja (wpAny_specialOf hT tQ ?_);refine Jd ?_;show wpAny _ A.in1 (rule "list.extend.makes-room">>=λ_=>Builtin.List.listTouch (.ref ⇑s)>>=λ_ =>
  again (.builtin "list.extend.loop" ⟨[.ref ⇑s,.ref z,.ref ⇑s],[]⟩)) _ _ _
 refine Ja (wpAny_rule ?_);have hS₁:(s.heap.push {cls:=.type "list",data:=.seq ([]:LU).toArray}).get? ⇑s=some {cls:=.type "list",data:=.seq ([]:LU).toArray}:=Yh _ rfl;refine Ja ?_;show wpAny _ A.in1 (updateSeq ⇑s (·.push .none)>>=λ_=>updateSeq ⇑s (·.pop)) _ _ _;refine Ja (wpAny_updateSeq hS₁ rfl ?_);have hS₂:=JJ (Obj.mapSeq (·.push Value.none)) hS₁ rfl;refine wpAny_updateSeq hS₂ rfl ?_;have hS₃:=JJ (Obj.mapSeq (·.pop)) hS₂ rfl;have oth:∀ b o,b≠⇑s->(s.heap.push {cls:=.type "list",data:=.seq ([]:LU).toArray}).get? b≈o ->
   (((s.heap.push {cls:=.type "list",data:=.seq ([]:LU).toArray}).update ⇑s (Obj.mapSeq (·.push Value.none))).update ⇑s (Obj.mapSeq (·.pop))).get? b≈o :=
  λb o hb e=>(IM _ _ (Yw hb)).trans ((IM _ _ (Yw hb)).trans e)
 have all:∀ b o,s.heap.get? b≈o->(((s.heap.push {cls:=.type "list",data:=.seq ([]:LU).toArray}).update ⇑s (Obj.mapSeq (·.push Value.none))).update ⇑s (Obj.mapSeq (·.pop))).get? b≈o:=λb o e=>oth b o (Yt (Yf e)) (push b o e);obtain⟨a,b,hto⟩:=hto;refine Jd ⟨plainId_quiet Tu _,pK (s:=s) (h₁:=s.heap) hh D L hn _ (λh' tk acc c as hk IW hal hG CJ=>?_) _ 0 _ s.toks _ #[] [] rfl (BC _)
  ⟨.inl (all _ _ hz),all _ _ hti,⟨a,b,all _ _ hto⟩,h1.at λo e=>all _ o e,h2.at λo e=>all _ o e,Ap.at λo e=>all _ o e,Al.at λo e=>all _ o e⟩ (λb o _ _ _ _ _ e=>all b o e) hS₃ rfl rfl ⟨List.Pairwise.nil,(λ_ ha=>nomatch ha),(λj a hj=>by simp at hj)⟩⟩
 show wpAny _ A (load ⇑s>>=_) _ _ _;refine Ja (wpAny_load IW ?_);refine Jd ?_;show Q acc.toList _;rw[CJ];exact hQ h' tk as (λb o n1 n2 n3 n4 e=>hk b o (Yt (Yf e)) n1 n2 n3 n4 e) hal hG
end
end L2
namespace L2
open PySem PySem.Spec
section
variable {prog:ω}{w:World}{A:Around}{E:EV}{s:χ}
def uG{z TI TO i1 i2 l1 l2:δ}{xs ys:τ}{Q₁:EV}(hh:A.handled=none)(D:ZipApart z TI TO i1 i2 l1 l2)(L:UB z TI TO i1 i2 l1 l2 ⇑s)(hz:IsZip s.heap z TI TO .none)(hti:IsPair s.heap TI (.ref i1) (.ref i2))(hto:∃ a b,IsPair s.heap TO a b)
  (h1:s.heap.IsListIter i1 l1 0) (h2:s.heap.IsListIter i2 l2 0) (Ap:s.heap.IsList l1 xs) (Al:s.heap.IsList l2 ys) (hn:min xs.size ys.size<=sizeLine)
  (hQ:∀ h' tk as,2.1->↑as=min xs.size ys.size->LQ xs ys ⇑s h' as->Q₁ (.ref h'.objs.size) {s with heap:=h'.push {cls:=.type "tuple",data:=.seq (as.map Value.ref).toArray},toks:=tk}):
  codeAny 0.4 A (.call (.builtin "tuple.__new__") ⟨[.type "tuple",.ref z],[]⟩) (wants Q₁ E) s:=by
 refine codeAny_of_tree ?_;show wpAny _ A.in1 (do checkBuiltinCall "tuple.__new__" ⟨[.type "tuple",.ref z],[]⟩;again (.builtin "tuple.__new__" ⟨[.type "tuple",.ref z],[]⟩)) _ _ s;refine Ja (wpAny_of_eq (F.newCall_tuple_1 _) (Jd ⟨plainId_quiet F.plain_tuple_new _,codeAny_builtin F.entry_tuple_new ?_⟩));rw[P5 F.plain_tuple_new _];have hsub:=sub_tuple_self;have hinit:=init_tuple_lookup;have hmh:=madeHere_tuple;have hTI:s.TypeIs (.ref z) "zip":=⟨_,hz,Y⟩
 wp_walk using wpAny_typeOf hTI,tP (by simp[hh]) D L hz hti hto h1 h2 Ap Al hn
 intro h' tk as hk hal hG;show wpAny _ _ (Builtin.Tuple.tupleExact (as.map Value.ref).toArray>>=λv=>ret v) _ _ _;unfold Builtin.Tuple.tupleExact;refine Ja (wpAny_newObj_type ?_ (by show(as.map Value.ref).toArray.size<=sizeLine;rw[Yn,Ya,hal];exact hn));exact Jd (hQ h' tk as hk hal hG)
def uT{z TI TO i1 i2 l1 l2:δ}{xs ys:τ}{Q:EV}(hh:A.handled=none)(D:ZipApart z TI TO i1 i2 l1 l2)(L:UB z TI TO i1 i2 l1 l2 ⇑s)(hz:IsZip s.heap z TI TO .none)(hti:IsPair s.heap TI (.ref i1) (.ref i2))(hto:∃ a b,IsPair s.heap TO a b)
  (h1:s.heap.IsListIter i1 l1 0) (h2:s.heap.IsListIter i2 l2 0) (Ap:s.heap.IsList l1 xs) (Al:s.heap.IsList l2 ys) (hn:min xs.size ys.size<=sizeLine)
  (hQ:∀ h' tk as,2.1->↑as=min xs.size ys.size->LQ xs ys ⇑s h' as->Q (.ref h'.objs.size) {s with heap:=h'.push {cls:=.type "tuple",data:=.seq (as.map Value.ref).toArray},toks:=tk}):
  wpAny 0.4 A (call (.type "tuple") [.ref z]) Q E s:=by
 refine callType_codes (Q₁:=λobj s₁=>s₁.TypeIs obj "tuple"/\Q obj s₁) F.called_tuple (F.typeCall_tuple_1 _) F.entry_object_init
  (uG (by simp[hh]) D L hz hti hto h1 h2 Ap Al hn λh' tk as hk hal hG=>⟨⟨_,Yh _ rfl,Y⟩,hQ h' tk as hk hal hG⟩) λobj s₁ h₁=>?_
 exact⟨h₁.1,F.args_object_init_2 obj _,object_init_meets F.called_tuple.init.lookup F.called_tuple.made 0.1 prog w A.in1 _ s₁ ⟨h₁.1,Y,h₁.2⟩⟩
end
end L2
namespace L2
open PySem PySem.Spec PyProof.Rows
section
variable {X:Cx}
inductive eF(K:Fg)(Q:VK)(vs:LV)(H1:Hp):Prop
 | mk:∀(l1 l2:δ) (xs ys:LV),vs=[.ref l1,.ref l2]->SqL K H1 l1 xs->SqL K H1 l2 ys->(∀ t us H',H1 t=none->AA H1 H'->H' t≈(.tup us)->Paired (λ(p:V×V) v=>∃ q:δ,v=.ref q/\H' q≈(.tup [p.1,p.2])) (xs.zip ys) us->Q (.ref t) H')->eF K Q vs H1
def xY(K:Fg)(ta:TA):TE:=λσ H Q=>ta σ H λvs H1=>eF K Q vs H1
def tI{a b:Expr}{ta:TA}{p1 p2 Ll JU:Pos}(hc:X.calm=true)(U4:Gl X "tuple")(N_:X.mg "tuple"=none)(hg:Gl X "zip")(hm:X.mg "zip"=none)(ha:PA X [a,b] ta)
  (hs:starEach [a,b] X.env=[(false,eval a X.env),(false,eval b X.env)]:=by rfl) (Ha:starEach [b] X.env=[(false,eval b X.env)]:=by rfl)
  (nK:starEach [.Call (.Name "zip" p2) [a,b] [] JU] X.env=[(false,eval (.Call (.Name "zip" p2) [a,b] [] JU) X.env)]:=by rfl):
  PE X (.Call (.Name "tuple" p1) [.Call (.Name "zip" p2) [a,b] [] JU] [] Ll) (xY X.K ta):=by
 ac_rfl;refine wpAny_Call_Name_kw (Il I U4 N_ JM ?_ 0.1 0.1);refine La ?_ nK rfl;refine Calls.spliced_cons ?_;refine Call_ (Il I hg hm boot_zip (La (AM (ha JU π s σ H _ I h) λus s1 ⟨vs,H1,I1,r1,q1⟩=>?_) (by rw[hs,Ha]) (by rw[Ha];rfl)));obtain⟨l1,l2,xs,ys,e,t1,t2,q⟩:=q1;subst e;cases r1 with
 | cons r rr =>
  cases rr with
  | cons r' rr =>
   cases rr;obtain rfl:_=Value.ref l1:=r;obtain rfl:_=Value.ref l2:=r';obtain⟨ψ,rv,pa,hz1⟩:=I1.list t1;obtain⟨jts,D9,pb,hz2⟩:=I1.list t2;have b1:s1.heap.IsList l1 ψ.toArray:=pa.isList;have b2:s1.heap.IsList l2 jts.toArray:=pb.isList;have Kl:l1<⇑s1:=let⟨_,e,_⟩:=b1;Yf e;have Qz:l2<⇑s1:=let⟨_,e,_⟩:=b2;Yf e;refine qE b1 b2 λg st hk=>?_;have D:ZipApart (⇑s1 + 4) (⇑s1 + 2) (⇑s1 + 3) ⇑s1 (⇑s1 + 1) l1 l2:=W.ktu_apart _ _ _ Kl Qz;refine Calls.spliced_nil ?_;have zl:⇑s1 + 4<g.objs.size:=Yf st.z;have gl:⇑s1<=g.objs.size:=by omega
   have n1:↑xs=↑ψ:=↑rv;have n2:↑ys=↑jts:=↑D9;have hn:min ψ.toArray.size jts.toArray.size<=sizeLine:=by rw[Yn,Yn];omega
   refine uT (s:={s1 with heap:=g}) (I1.ok.hd hc) D ⟨zl,by show _<g.objs.size;omega,by show _<g.objs.size;omega,by show _<g.objs.size;omega,by show _<g.objs.size;omega,Yr Kl gl,Yr Qz gl⟩ st.z st.ti st.to st.i1 st.i2 (b1.at λo e=>hk _ o e) (b2.at λo e=>hk _ o e) hn λh' tk as Ci hal hG=>?_;have keep:∀ b o,s1.heap.get? b≈o->(h'.push {cls:=.type "tuple",data:=.seq (as.map Value.ref).toArray}).get? b≈o:=λb o e=>by
    have lt:b<⇑s1:=Yf e;exact Yb _ (Ci b o (Yt (Yr lt (KC _ _))) (Yt (Yr lt (KC _ _))) (Yt lt) (Yt (Yr lt (KC _ _))) (hk b o e))
   have ndas:as.Nodup:=List.nodup_iff_pairwise_ne.mpr (hG.rise.imp λh=>Yt h);have hl:↑as=↑(xs.zip ys):=by rw[hal,Yn,Yn,List.length_zip,n1,n2]
   have oF:∀ a∈as,⇑s1<a:=λa ha=>QA gl (hG.above a ha);have aT:∀ a∈as,a<h'.objs.size:=λa ha=>hG.there ha;have sT:⇑s1<=h'.objs.size:=by
    have:⇑s1 + 2<h'.objs.size:=Yf (Ci _ _ D.TIz D.TITO D.TIi1 D.TIi2 st.ti);omega
   have OL:∀ b,b<⇑s1->(λb=>if b=h'.objs.size then ↥(HO.tup (as.map V.ref))else match (as.zip (xs.zip ys)).lookup b with | some kv=>↥(HO.tup [kv.1,kv.2]) | none=>H1 b:Hp) b=H1 b:=λb hb=>by
    show(if b=h'.objs.size then _ else _)=_;rw[if_neg (Yt (Yr hb sT))];cases e:(as.zip (xs.zip ys)).lookup b with
    | none=>rfl
    | some kv =>
     obtain⟨i,h1,_⟩:=Po e;have:=oF b (Yd h1);exact absurd (GV hb this) (Fu _)
   have at_:∀(i:Nat) (b:δ),as[i]?≈b->∃ kv:V×V,(xs.zip ys)[i]?≈kv/\(λb=>if b=h'.objs.size then ↥(HO.tup (as.map V.ref))else match (as.zip (xs.zip ys)).lookup b with | some kv=>↥(HO.tup [kv.1,kv.2]) | none=>H1 b:Hp) b≈(.tup [kv.1,kv.2]):=λi b hi=>by
    have A2:i<↑(xs.zip ys):=by
     have:=(Yu.mp hi).1;omega
    refine⟨(xs.zip ys)[i],Yi A2,?_⟩;show(if b=h'.objs.size then _ else _)=_;rw[if_neg (Yt (aT b (Yd hi))),XR ndas hi (Yi A2)]
   have I3:Inv X π σ (λb=>if b=h'.objs.size then ↥(HO.tup (as.map V.ref))else match (as.zip (xs.zip ys)).lookup b with | some kv=>↥(HO.tup [kv.1,kv.2]) | none=>H1 b:Hp) {s1 with heap:=h'.push {cls:=.type "tuple",data:=.seq (as.map Value.ref).toArray},toks:=tk}:=by
    refine I1.laidMany (t':=tk) keep OL λb o hb e=>?_;have e:(if b=h'.objs.size then ↥(HO.tup (as.map V.ref))else match (as.zip (xs.zip ys)).lookup b with | some kv=>↥(HO.tup [kv.1,kv.2]) | none=>H1 b)≈o:=e;by_cases hbT:b=h'.objs.size
    ·rw[if_pos hbT]at e;cases e;refine⟨by rw[Ya,hal];exact hn,as.map Value.ref,?_,?_⟩
     ·exact Ry 0.6 λi v u hv hu=>by
       rw[Ys]at hv hu;obtain⟨y,hy,ey⟩:=E3.mp hv;rw[hy]at hu;rw[<- ey];exact(Bk hu).symm
     ·rw[hbT];exact IsTup.new _ _
    ·rw[if_neg hbT]at e;cases el:(as.zip (xs.zip ys)).lookup b with
     | none =>
      rw[el]at e;have:=I1.hok.lt e;exact absurd (Yr this hb) (Fu _)
     | some kv =>
      rw[el]at e;cases e;obtain⟨i,Jn,IU⟩:=Po el;obtain⟨x,y,hx,hy,hget⟩:=hG.pairs i b Jn;obtain⟨MY,mq⟩:=Wr IU;obtain⟨u,hu,ru⟩:=rv.get MY;obtain⟨v,hv,Ui⟩:=D9.get mq;have ex:u=x:=by
       have Ei:ψ[i]?≈x:=by simpa using hx
       rw[hu]at Ei;exact Bk Ei
      have ey:v=y:=by
       have Fc:jts[i]?≈y:=by simpa using hy
       rw[hv]at Fc;exact Bk Fc
      subst ex ey;exact⟨W,[u,v],.cons ru (.cons Ui .nil),⟨_,Yb _ hget,Y,Z⟩⟩
   refine⟨.ref h'.objs.size,_,I3,Y,q h'.objs.size (as.map V.ref) _ (I1.hok.fresh sT) (λb o e=>?_) ?_ ?_⟩
   ·exact(OL b (I1.hok.lt e)).trans e
   ·show(if h'.objs.size=h'.objs.size then _ else _)=_;rw[if_pos rfl]
   ·refine Sb (by rw[Ya,hl]) λi kv v h1 h2=>?_;rw[Ys]at h2;obtain⟨b,hb,eb⟩:=E3.mp h2;obtain⟨mX,Dr,OB⟩:=at_ i b hb;rw[h1]at Dr;cases Dr;exact⟨b,eb.symm,OB⟩
end
abbrev Ng:=St->Hp->(Str->Hp->Prop)->Prop
abbrev Lf:=St->Hp->Str->(Str->Hp->Prop)->Prop
def UL(X:Cx)(e:Expr)(t:Ng):Prop:=∀(π:PL) (s:χ) (σ:St) (H:Hp) (Q:Str->Hp->Prop),Inv X π σ H s->t σ H Q ->
 wpAny 0.3 X.A (eval e X.env) (λu s'=>∃ y tk H',u=.str y tk/\↑y<=100000/\Inv X π σ H' s'/\Q y H') X.xe s
def T_(X:Cx)(es:μ)(t:Lf):Prop:=∀(π:PL) (s:χ) (σ:St) (H:Hp) (Q:Str->Hp->Prop) (acc:Str) (j:Nat),Inv X π σ H s->↑acc<=100000 * j->j + ↑es<=100->t σ H acc Q ->
 Joins 0.3 X.A X.xe (evalEach es X.env) acc (λout s'=>∃ H',↑out<=10000000/\Inv X π σ H' s'/\Q out H') s
section
variable {X:Cx}{e:Expr}{es:μ}{te:TE}{t:Ng}{u:Lf}{pos:Pos}
def Ycl(x:Str):Ng:=λ_ H Q=>↑x<=100000/\Q x H
def jT{x j}:UL X (.Constant (.str x) j pos) (Ycl x):=λ_ _ _ H _ I h=>Calls.Constant_str ⟨x,_,H,Y,h.1,I.tok _,h.2⟩
def Yck(te:TE):Ng:=λσ H Q=>te σ H λv H1=>∃ i:Int,v=.int i/\i.natAbs<2 ^ 64/\Q (Str.ofString (toString i)) H1
def vH(he:PE X e te):UL X (.FormattedValue e (-1) none pos) (Yck te):=by
 ac_rfl;refine wpAny_FormattedValue_plain (AM (he π s σ H _ I h) λv s1 ⟨x,H1,I1,r1,i,ex,hi,q⟩=>?_);subst ex;obtain⟨t,rfl⟩:=r1;exact wpAny_formatField_int (Rr hi) ⟨G,H1,Y,wc hi,I1.tok _,q⟩
def Ych(te:TE):Ng:=λσ H Q=>te σ H λv H1=>∃ x:Str,v=.str x/\↑x<=100000/\Q x H1
def vI(he:PE X e te):UL X (.FormattedValue e (-1) none pos) (Ych te):=by
 ac_rfl;refine wpAny_FormattedValue_plain (AM (he π s σ H _ I h) λv s1 ⟨x,H1,I1,r1,y,ex,hi,q⟩=>?_);subst ex;obtain⟨t,rfl⟩:=r1;exact wpAny_formatField_str ⟨G,H1,Y,hi,I1,q⟩ ⟨G,H1,Y,hi,I1.tok _,q⟩ (BL hi 0.1)
def Ycj:Lf:=λ_ H acc Q=>Q acc H
def Yci(t:Ng)(u:Lf):Lf:=λσ H acc Q=>t σ H λy H1=>u σ H1 (acc++y) Q
def wq:T_ X [] Ycj:=λπ s σ H Q acc j I ha hj h=>⟨H,by simp at hj;exact BL ha (BL (Nat.mul_le_mul_left _ hj) 0.1),I,h⟩
def R9(h1:UL X e t)(h2:T_ X es u):T_ X (e :: es) (Yci t u):=by
 intro π s σ H Q acc j I ha hj h;show wpAny _ _ (eval e X.env) _ _ s;refine AM (h1 π s σ H _ I h) λv s1 ⟨y,tk,H1,ev,hy,I1,q⟩=>?_;have hl:↑(acc++y)<=100000 * (j + 1):=by rw[strLen_append];omega
 have nZ:j + 1 + ↑es<=100:=by simp at hj;omega
 refine⟨y,tk,ev,BL hl (BL (Nat.mul_le_mul_left _ (show j + 1<=100 by omega)) 0.1),?_⟩;exact h2 π s1 σ H1 Q _ (j + 1) I1 hl nZ q
def lV(t:Lf):TE:=λσ H Q=>t σ H Str.empty λx H1=>Q (.str x) H1
def yg{v1 v2:Expr}{Am:μ}{t:Lf}(h:T_ X (v1 :: v2 :: Am) t)(hl:↑(v1 :: v2 :: Am)<=100:=by decide):PE X (.JoinedStr (v1 :: v2 :: Am) pos) (lV t):=by
 intro π s σ H Q I hq;apply wpAny_JoinedStr;have z:=h π s σ H _ Str.empty 0 I (BC _) (by simpa using hl) hq;have mono:∀(l:List (Sem ε)) (acc:Str) (P P':Str->χ->Prop) (s:χ),(∀ o s',P o s'->P' o s')->Joins 0.3 X.A X.xe l acc P s->Joins 0.3 X.A X.xe l acc P' s:=by
  intro l
  induction l with
  | nil=>intro acc P P' s f q;exact f _ _ q
  | cons a r ih =>
   intro acc P P' s f q;exact AM (show wpAny _ _ a _ _ s from q) λv s1 ⟨y,tk,e1,e2,e3⟩=>⟨y,tk,e1,e2,ih _ P P' s1 f e3⟩
 exact mono _ _ _ _ _ (λo s' ⟨H',l,I',q'⟩=>⟨BL l 0.1,⟨.str o,H',I'.tok _,⟨Z⟩,q'⟩⟩) z
end
section
variable {X:Cx}
theorem cp:∀ {xs:LS}{ψ:LU},AX (xs.map V.str) ψ->∃ l:List (Str×Tok),ψ=strValues l/\l.map 0.8=xs
 | [],_,.nil=>⟨[],Y,Y⟩
 | x :: xs,_,.cons r t=>by
  obtain⟨l,e,e2⟩:=cp t;obtain⟨tk,rfl⟩:=r;exact⟨(x,tk):: l,by rw[e];rfl,by rw[Yy,e2]⟩
inductive iS(x:V)(vs:LV)(H:Hp)(Q:VK):Prop
 | mk:∀ sep l xs B,x=.str sep->vs=[.ref l]->H l≈(.lst (xs.map V.str))->(∀ y∈xs,↑y<=B)->↑xs * B + ↑xs * ↑sep<=16777216->Q (.str (Builtin.Str.glued sep xs)) H->iS x vs H Q
def WA:QO X "str.join" iS:=by
 intro π s σ H x vs v us Q I rx rv h;obtain⟨sep,l,xs,B,rfl,rfl,hH,hB,hz,q⟩:=h;obtain⟨tk,rfl⟩:=rx;obtain⟨u,rfl,ru⟩:=rv.one;cases ru;obtain⟨z,ψ,n,r,hl,e⟩:=I.lstM hH;obtain⟨ps,rfl,e2⟩:=cp r;refine SC.join ⟨_,e,rfl,_,rfl⟩ e2 ?_ λt' k=>⟨.str _,H,I.tok _,⟨Z⟩,q⟩;unfold JoinOk;rw[StrLaws.joinFits hB hz];rfl
end
section
variable {X:Cx}
def ff:EG X (.type "int") (λxs H Q=>∃(x:Str) (n:Int),xs=[.str x]/\PySem.intText? x≈n/\↑x<=640/\Q (.int n) H):=by
 intro π s σ H xs us Q I r h;obtain⟨x,n,rfl,hn,hl,q⟩:=h;obtain⟨u,rfl,t,rfl⟩:=Fm r;exact W.KIN.call_text hn hl ⟨.int _,H,I.tok _,⟨Z⟩,q⟩
end
section
variable {X:Cx}
end
end L2
namespace Md
open PySem L2
end Md
namespace L2
open PySem PySem.Spec PyProof.Rows
theorem gJ:∀(l:List (Str×Tok)),AX ((l.map 0.8).map V.str) (strValues l)
 | []=>.nil
 | (x,t):: l=>.cons ⟨t,Y⟩ (gJ l)
section
variable {prog:ω}{w:World}{A:Around}{E:EV}{s:χ}{x y:Str}{t u:Tok}
def pJ{Q:EV}(hy:(↑y == 0)=false)(hx:↑x<=sizeLine)(hn:↑(Txt.split x y)<=sizeLine)
  (q:∀(l:List (Str×Tok)) (tk:Nat),l.map 0.8=Txt.split x y->Q (.ref ⇑s) {s with heap:=s.heap.push {cls:=.type "list",data:=.seq (strValues l).toArray},toks:=tk}):
  wpAny 0.4 A (call (.builtin "str.split") [.str x t,.str y u]) Q E s:=by
 unfold Txt.split at hn q;by_cases c:(decide (↑x<↑y) || decide (Builtin.Str.strKind x<Builtin.Str.strKind y))=true
 ·rw[if_pos c]at q;exact call_meets F.slot_str_split (typeIs_str _ _ _) F.entry_str_split (F.args_str_split_2 _ _) (meets_str_split_cannot_occur x y t u c) (q [(x,t)] s.toks rfl)
 ·rw[if_neg c]at q hn;have c:=eq_false_of_ne_true c;by_cases f:(Builtin.Str.occurrences x y 0 ↑x (↑x + 1)).isEmpty=true
  ·rw[if_pos f]at q;exact call_meets F.slot_str_split (typeIs_str _ _ _) F.entry_str_split (F.args_str_split_2 _ _) (meets_str_split_not_found x y t u c hy f) (q [(x,t)] s.toks rfl)
  ·rw[if_neg f]at q hn;refine call_meets F.slot_str_split (typeIs_str _ _ _) F.entry_str_split (F.args_str_split_2 _ _) (meets_str_split_sep x y t u c hy (eq_false_of_ne_true f) hx hn) ?_;have z:=q (numbered s.toks (Builtin.Str.partsBetween x (Builtin.Str.occurrences x y 0 ↑x (↑x + 1)) ↑y)) (s.toks + ↑(Builtin.Str.partsBetween x (Builtin.Str.occurrences x y 0 ↑x (↑x + 1)) ↑y)) (numbered_texts _ _);rw[<- strsFrom_eq]at z;exact z
end
section
variable {X:Cx}
inductive jU(x:V)(vs:LV)(H:Hp)(Q:VK):Prop
 | mk:∀ a b:Str,x=.str a->vs=[.str b]->(↑b == 0)=false->↑a<=sizeLine->↑(Txt.split a b)<=sizeLine->(∀ p,H p=none->Q (.ref p) (upd H p (.lst ((Txt.split a b).map V.str))))->jU x vs H Q
def Wg:QO X "str.split" jU:=by
 intro π s σ H x vs v us Q I rx rv h;obtain⟨a,b,rfl,rfl,hb,ha,hn,q⟩:=h;obtain⟨tk,rfl⟩:=rx;obtain⟨u,rfl,ru⟩:=rv.one;obtain⟨tu,rfl⟩:=ru;refine pJ hb ha hn λl lP e=>?_;have hf:H ⇑s=none:=I.hok.fresh (Ye _);refine⟨.ref ⇑s,upd H ⇑s (.lst ((Txt.split a b).map V.str)),I.laid (t':=lP) (λb u e=>Yb _ e) (Ye _) ?_,Y,q _ hf⟩;rw[<- e];exact⟨by rw[Ya,e];exact hn,_,0,gJ l,Yh _ rfl⟩
end
end L2
namespace Md
open PySem L2
abbrev sgn(c:Nat):Str:=⟨#[c]⟩
theorem i3{c:Nat}:∀ {x y A B:LN},c∉x->c∉y->x++c :: A=y++c :: B->x=y/\A=B
 | [],[],_,_,_,_,h=>⟨Y,by simpa using h⟩
 | [],b :: y,_,_,_,hy,h=>by
  rw[List.nil_append,P4,List.cons.injEq]at h;exact absurd (by rw[h.1];exact Yj) hy
 | a :: x,[],_,_,hx,_,h=>by
  rw[List.nil_append,P4,List.cons.injEq]at h;exact absurd (by rw[<- h.1];exact Yj) hx
 | a :: x,b :: y,A,B,hx,hy,h=>by
  rw[P4,P4,List.cons.injEq]at h;obtain⟨e,h⟩:=h;obtain⟨e1,e2⟩:=i3 (λz=>hx (Yq _ z)) (λz=>hy (Yq _ z)) h;exact⟨by rw[e,e1],e2⟩
def cF(a b:Str):(a++b).cps.toList=a.cps.toList++b.cps.toList:=Px
def PJ(c:Nat)(x y:Str)(r:LS):(Str.join (sgn c) (x :: y :: r)).cps.toList=x.cps.toList++c :: (Str.join (sgn c) (y :: r)).cps.toList:=by
 show(x++sgn c++Str.join (sgn c) (y :: r)).cps.toList=_;rw[cF,cF,IH];rfl
def jG{x y:Str}(h:x.cps.toList=y.cps.toList):x=y:=by
 cases x;cases y;exact congrArg Str.mk (Array.toList_inj.mp h)
theorem d_{c:Nat}:∀ {xs ys:LS},xs≠[]->ys≠[]->(∀ p∈xs,c∉p.cps.toList)->(∀ p∈ys,c∉p.cps.toList)->Str.join (sgn c) xs=Str.join (sgn c) ys->xs=ys
 | [],_,h,_,_,_,_=>absurd rfl h
 | _ :: _,[],_,h,_,_,_=>absurd rfl h
 | [x],[y],_,_,_,_,h=>congrArg (λz=>[z]) (show x=y from h)
 | [x],y :: y2 :: r,_,_,hx,_,h=>by
  have h:=congrArg (λz:Str=>z.cps.toList) h
  try dsimp only at h
  rw[PJ]at h;exact absurd (show c∈x.cps.toList by rw[show x.cps.toList=_ from h];simp) (hx x Yj)
 | x :: x2 :: r,[y],_,_,_,hy,h=>by
  have h:=congrArg (λz:Str=>z.cps.toList) h
  try dsimp only at h
  rw[PJ]at h;exact absurd (show c∈y.cps.toList by rw[show y.cps.toList=_ from h.symm];simp) (hy y Yj)
 | x :: x2 :: r,y :: y2 :: r',_,_,hx,hy,h=>by
  have h:=congrArg (λz:Str=>z.cps.toList) h
  try dsimp only at h
  rw[PJ,PJ]at h;obtain⟨e1,e2⟩:=i3 (hx x Yj) (hy y Yj) h;rw[jG e1,d_ (Gw _ _) (Gw _ _) (λp h=>hx p (Yq _ h)) (λp h=>hy p (Yq _ h)) (jG e2)]
def tL{c:Nat}{xs:LS}(h:xs≠[])(hf:∀ p∈xs,c∉p.cps.toList):Txt.split (Builtin.Str.glued (sgn c) xs) (sgn c)=xs:=by
 refine d_ (c:=c) ?_ h (StrLaws.split_free _ _) hf ?_
 ·intro z;have:=PyProof.Rows.split_pos (Builtin.Str.glued (sgn c) xs) (sgn c);rw[z]at this;exact absurd this 0.1
 ·rw[StrLaws.join_split,StrLaws.glued_eq_join]
end Md
namespace L2
open PySem PySem.Spec PyProof.Rows
section
variable {prog:ω}{w:World}{A:Around}{E:EV}{s:χ}
end
section
variable {M:Model}{A:Around}{E:EV}{s:χ}{env:Env}
end
section
variable {X:Cx}
end
end L2
namespace PySem
open Builtin AutoSeq1
end PySem
namespace L2
open PySem PySem.Spec PyProof.Rows
section
variable {X:Cx}
end
end L2
namespace L2
open PySem PySem.Spec PyProof.Rows PySem.W
section
variable {X:Cx}
end
end L2
namespace L2
open PySem PySem.Spec PyProof.Rows
section
variable {X:Cx}
end
section
variable {prog:ω}{w:World}{A:Around}{E:EV}{s:χ}
end
section
variable {X:Cx}
end
section
variable {prog:ω}{w:World}{A:Around}{E:EV}{s:χ}{d it:δ}{es:Array DictEntry}{ep i:Nat}
end
section
variable {prog:ω}{w:World}{A:Around}
end
section
variable {X:Cx}
end
section
variable {X:Cx}{tg:Expr}
end
section
variable {X:Cx}
end
section
variable {prog:ω}{w:World}{A:Around}{E:EV}{s:χ}
end
section
variable {X:Cx}
end
section
variable {prog:ω}{w:World}{α:Type}[DecidableEq α]{kd:KeyKind prog w α}
def Dy(kd:KeyKind prog w α)(h:Heap)(k:α×List α)(a:δ):Prop:=∃(q:Obj) (ψ:τ) (n:Nat) (v:ε) (b:δ),((h.get? a≈q/\q.cls=.type "tuple")/\q.data=.seq ψ n)/\(ψ.toList=[v,.ref b]/\kd.is k.1 v=true)/\IsTupleKey kd h k.2 b
def Dy.ty{s:χ}{k:α×List α}{a:δ}(h:Dy kd s.heap k a):s.TypeIs (.ref a) "tuple":=by
 obtain⟨q,_,_,_,_,⟨e,_⟩,_⟩:=h;exact⟨q,e.1,e.2⟩
theorem Dy.inj{h:Heap}{a:δ}{x y:α×List α}(hx:Dy kd h x a)(hy:Dy kd h y a):x=y:=by
 obtain⟨q,ψ,n,v,b,⟨⟨e1,_⟩,e2⟩,⟨e3,e4⟩,e5⟩:=hx;obtain⟨q',its',n',v',b',⟨⟨RV,_⟩,Mf⟩,⟨OT,VM⟩,VL⟩:=hy;rw[e1]at RV;cases RV;rw[e2]at Mf;cases Mf;rw[e3]at OT;cases OT;exact Prod.ext (kd.inj _ _ _ e4 VM) (e5.inj VL)
theorem Dy.keeps{h h':Heap}{k:α×List α}{a d:δ}{q:Obj}{es ep}(x:Dy kd h k a)(e1:h.get? d≈q)(e2:q.data=.dict es ep)(sb:Heap.SameBut d h h'):Dy kd h' k a:=by
 obtain⟨q',ψ,n,v,b,⟨⟨a1,a2⟩,a3⟩,a4,a5⟩:=x;have ne:a≠d:=λz=>by
  rw[z,e1]at a1;cases a1;rw[e2]at a3;cases a3
 exact⟨q',ψ,n,v,b,⟨⟨(sb.2 a ne).trans a1,a2⟩,a3⟩,a4,a5.keeps e1 e2 sb⟩
def Ws(kd:KeyKind prog w α)(k:α×List α):Int:=reduceHash (Builtin.Tuple.tupleHashOf [kd.hash k.1,tupleKeyHash kd k.2])
variable {A:Around}{E:EV}{s:χ}
def qj{k:α×List α}{a:δ}{Q:Int->χ->Prop}(hu:A.units + 1<cLine)(x:Dy kd s.heap k a)(h:Q (Ws kd k) {s with toks:=s.toks + (1 + (↑k.2 + 1) + 1) }):wpAny 0.4 A (pyHash (.ref a)) Q E s:=by
 have ty:=x.ty;obtain⟨q,ψ,n,v,b,⟨⟨e1,_⟩,e2⟩,⟨e3,e4⟩,e5⟩:=x;have Ux:A.units<cLine:=by omega
 unfold pyHash;unfold pyHashByItsType;refine Ja (wpAny_cRoomFor_or (.inr Ux) (Ja (wpAny_specialOf ty F.slot_tuple_hash.lookup ?_)));show wpAny _ _ (if(↥(Value.builtin "tuple.__hash__") == ↥Value.none)=true then _ else _) Q E s;rw[if_neg (show ¬ (↥(Value.builtin "tuple.__hash__") == ↥Value.none)=true by rw[beq_builtin_none];decide)];refine Ja (wpAny_specialOf ty F.slot_tuple_hash.lookup (?_:wpAny _ _ (callSpecialIfBoundUnlessNone? (.ref a) "__hash__" _>>=_) Q E s));refine Ja (wpAny_callSpecialIfBoundUnlessNone?_slot ty F.slot_tuple_hash (wpAny_call_entry F.slot_tuple_hash ty F.entry_tuple_hash (?_:wpAny _ _ (Builtin.Tuple.tupleItemsOf (.ref a)>>=_) _ _ s) (F.args_tuple_hash_1 _)));refine Ja (wpAny_tupleItemsOf e1 e2 (Ja ?_));rw[<- Array.forIn_toList,e3];refine wpAny_forIn_list _ (λAm (z:Array Int) s'=>(Am=[v,.ref b]/\z.toList=[]/\s'=s)\/(Am=[.ref b]/\z.toList=[kd.hash k.1]/\s'={s with toks:=s.toks + 1})\/(Am=[]/\z.toList=[kd.hash k.1,tupleKeyHash kd k.2]/\s'={s with toks:=s.toks + (1 + (↑k.2 + 1)) })) _ ?_ ?_ _ _ (.inl ⟨Y,Y,Y⟩)
 ·rintro x Am z s' (⟨er,hz,es⟩ | ⟨er,hz,es⟩ | ⟨er,_⟩)
  ·cases er;have es:=es.symm;subst es;refine Ja (kd.pyHash e4 ?_)
   first
    | exact Jd (.inr (.inl ⟨rfl,by rw[P6,hz];rfl,rfl⟩))
    | exact Ja (Jd (Jd (.inr (.inl ⟨rfl,by rw[P6,hz];rfl,rfl⟩))))
  ·cases er;subst es;refine Ja (wpAny_pyHash_tuple (by show A.units + 1<cLine;exact hu) e5 ?_)
   first
    | exact Jd (.inr (.inr ⟨rfl,by rw[P6,hz];rfl,by simp only[Nat.add_assoc]⟩))
    | exact Ja (Jd (Jd (.inr (.inr ⟨rfl,by rw[P6,hz];rfl,by simp only[Nat.add_assoc]⟩))))
  ·cases er
 ·rintro z s' (⟨er,_⟩ | ⟨er,_⟩ | ⟨_,hz,rfl⟩)
  ·cases er
  ·cases er
  show wpAny _ _ (retInt (Builtin.Tuple.tupleHashOf z.toList)) _ _ _;rw[hz];refine wpAny_ret_mkInt (?_:wpAny _ _ (if(decide (-(2:Int) ^ 63<=Builtin.Tuple.tupleHashOf [kd.hash k.1,tupleKeyHash kd k.2])&&decide (Builtin.Tuple.tupleHashOf [kd.hash k.1,tupleKeyHash kd k.2]<2 ^ 63))=true then _ else _) Q E _);unfold Ws reduceHash at h;generalize Builtin.Tuple.tupleHashOf [kd.hash k.1,tupleKeyHash kd k.2]=hh at h;by_cases c:(decide (-(2:Int) ^ 63<=hh)&&decide (hh<2 ^ 63))=true
  ·rw[if_pos c]at h ⊢;exact Jd (by simpa[Nat.add_assoc]using h)
  ·rw[if_neg c]at h ⊢;exact Ja (wpAny_rule (Jd (by simpa[Nat.add_assoc]using h)))
def yf{x y:α×List α}{a b:δ}{R:Fin->χ->Prop}(hu:A.units<cLine)(hx:Dy kd s.heap x a)(hy:Dy kd s.heap y b)(h:R (.done (.ret (.bool (decide (x=y))))) s):
  wpAny 0.4 A (Builtin.«tuple.__eq__» ⟨[.ref a,.ref b],[]⟩) R E s:=by
 have ty:=hy.ty;obtain⟨q,xs,n,v,c,⟨⟨e1,_⟩,e2⟩,⟨e3,e4⟩,e5⟩:=hx;obtain⟨q',ys,n',v',c',⟨⟨RV,_⟩,Mf⟩,⟨OT,VM⟩,VL⟩:=hy;have mr:xs.size=2:=by rw[<- LZ,e3];rfl
 have hys:ys.size=2:=by rw[<- LZ,OT];rfl
 refine(?_:wpAny _ _ (isInstance (.ref b) (.type "tuple")>>=_) _ _ s);refine Ja (wpAny_isInstance ty isSubtype_tuple_tuple ?_);simp only[JN,FU,if_false];refine Ja (wpAny_tupleItemsOf e1 e2 (Ja (wpAny_tupleItemsOf RV Mf (Ja ?_))));rw[e3,OT];refine wpAny_forIn_list _ (λAm r s'=>r.1=none/\s'=s/\(Am=[(v,v'),(Value.ref c,Value.ref c')]\/(Am=[(Value.ref c,Value.ref c')]/\x.1=y.1)\/(Am=[]/\x=y)))
  _ ?_ ?_ _ _ ⟨rfl,rfl,.inl rfl⟩
 ·rintro p Am r s' ⟨hr,es,er | ⟨er,ee⟩ | ⟨er,_⟩⟩ <;> have es:=es.symm <;> subst es
  ·cases er;refine Ja (kd.eqBool e4 VM ?_);by_cases kj:x.1=y.1
   ·rw[Jb kj];simp only[JN,FU,if_false];exact Jd ⟨rfl,rfl,.inr (.inl ⟨trivial,kj⟩)⟩
   ·rw[Jc kj];simp only[Bool.not_false,if_true];rw[Jc (λz=>kj (by rw[z]))]at h;exact Ja (Jd (Jd (Jd h)))
  ·cases er;refine Ja (wpAny_eqBool_tuple hu e5 VL ?_);by_cases kj:x.2=y.2
   ·rw[Jb kj];simp only[JN,FU,if_false];exact Jd ⟨rfl,rfl,.inr (.inr ⟨trivial,Prod.ext ee kj⟩)⟩
   ·rw[Jc kj];simp only[Bool.not_false,if_true];rw[Jc (λz=>kj (by rw[z]))]at h;exact Ja (Jd (Jd (Jd h)))
  ·cases er
 ·rintro⟨r1,r2⟩ s' ⟨hr,es,er | ⟨er,_⟩ | ⟨_,ee⟩⟩ <;> have es:=es.symm <;> subst es
  ·cases er
  ·cases er
  simp only at hr;subst hr;rw[Jb ee]at h;refine Jd (?_:R (.done (.ret (.bool (xs.size == ys.size)))) _);rw[mr,hys];exact h
def xI{x y:α×List α}{a b:δ}{Q:Bool->χ->Prop}(hu:A.units + 1<cLine)(hx:Dy kd s.heap x a)(hy:Dy kd s.heap y b)(h:Q (decide (x=y)) s):wpAny 0.4 A (eqBool (.ref a) (.ref b)) Q E s:=by
 unfold eqBool
 try with_reducible refine Jj ?_
 refine(?_:wpAny _ _ (if(Value.ref a == Value.ref b)=true then _ else _) Q E s);by_cases ab:(Value.ref a == Value.ref b)=true
 ·rw[if_pos ab];have e:a=b:=by have:=eq_of_beq ab;injection this
  subst e;obtain rfl:=hx.inj hy;exact Ja (wpAny_rule (Jd (by simpa using h)))
 ·rw[if_neg ab];have Ux:A.units<cLine:=by omega
  exact Ja (wpAny_richCompare_same_room (op:=.Eq) hx.ty hy.ty F.slot_tuple_eq (wpAny_call_entry F.slot_tuple_eq hx.ty F.entry_tuple_eq (yf (by show A.units + 1<cLine;exact hu) hx hy ⟨_,rfl,(λe=>nomatch e),Jh h⟩) (F.args_tuple_eq_2 _ _)) Ux)
def wt{ks:List α}{a:δ}{Q:Bool->χ->Prop}(k:IsTupleKey kd s.heap ks a)(h:Q true s):wpAny 0.4 A (eqIsQuiet 7 (.ref a)) Q E s:=by
 have ty:=k.typeIs;obtain⟨q,ψ,n,e1,_,e2,hi⟩:=k;unfold eqIsQuiet;refine Ja (wpAny_specialOf ty F.slot_tuple_eq.lookup (?_:wpAny _ _ (isInstance (.ref a) (.type "tuple")>>=_) _ _ s));refine Ja (wpAny_isInstance ty isSubtype_tuple_tuple ?_);simp only[JN,FU,if_false];refine Ja (wpAny_seqItems e1 e2 (Ja (?_:wpAny _ _ (forIn ψ _ _) _ _ s)));rw[<- Array.forIn_toList];refine wpAny_forIn_list _ (λAm r s'=>(r.1=none/\s'=s)/\∀ v∈Am,carriedByValue v=true) _ ?_ ?_ _ _ ⟨⟨rfl,rfl⟩,hi.byValue⟩
 ·rintro v Am r s' ⟨⟨hr,rfl⟩,hall⟩;rw[eqIsQuiet_byValue _ (hall v (Yj ..))];refine Ja (Jd ?_);simp only[JN,FU,if_false];exact Jd ⟨⟨rfl,rfl⟩,λu hu=>hall u (Yq _ hu)⟩
 ·rintro⟨r1,r2⟩ s' ⟨⟨hr,rfl⟩,_⟩;simp only at hr;subst hr;exact Jd h
def sr{k:α×List α}{a:δ}{Q:Bool->χ->Prop}(x:Dy kd s.heap k a)(h:Q true s):wpAny 0.4 A (eqIsQuiet 8 (.ref a)) Q E s:=by
 have ty:=x.ty;obtain⟨q,ψ,n,v,b,⟨⟨e1,_⟩,e2⟩,⟨e3,e4⟩,e5⟩:=x;unfold eqIsQuiet;refine Ja (wpAny_specialOf ty F.slot_tuple_eq.lookup (?_:wpAny _ _ (isInstance (.ref a) (.type "tuple")>>=_) _ _ s));refine Ja (wpAny_isInstance ty isSubtype_tuple_tuple ?_);simp only[JN,FU,if_false];refine Ja (wpAny_seqItems e1 e2 (Ja (?_:wpAny _ _ (forIn ψ _ _) _ _ s)));rw[<- Array.forIn_toList,e3];refine wpAny_forIn_list _ (λAm r s'=>(r.1=none/\s'=s)/\∀ u∈Am,u=v\/u=.ref b) _ ?_ ?_ _ _ ⟨⟨rfl,rfl⟩,λu hu=>by simpa using hu⟩
 ·rintro u Am r s' ⟨⟨hr,rfl⟩,hall⟩
  rcases hall u (Yj ..)with rfl | rfl
  ·rw[eqIsQuiet_byValue _ (kd.byValue _ _ e4)];refine Ja (Jd ?_);simp only[JN,FU,if_false];exact Jd ⟨⟨rfl,rfl⟩,λu hu=>hall u (Yq _ hu)⟩
  ·refine Ja (wt e5 ?_);simp only[JN,FU,if_false];exact Jd ⟨⟨rfl,rfl⟩,λu hu=>hall u (Yq _ hu)⟩
 ·rintro⟨r1,r2⟩ s' ⟨⟨hr,rfl⟩,_⟩;simp only at hr;subst hr;exact Jd h
end
def dc{prog:ω}{w:World}{α:Type}[DecidableEq α](kd:KeyKind prog w α):HeapKind prog w (α×List α) where
 is:=Dy kd
 hash:=Ws kd
 draws:=λk=>1 + (↑k.2 + 1) + 1
 room:=λA=>A.units + 1<cLine
 inj:=λa b=>Dy.inj a b
 keeps:=λk a b c=>Dy.keeps k a b c
 pyHash:=λu k q=>qj u k q
 eqBool:=λu a b q=>xI u a b q
 quiet:=λk q=>sr k q
abbrev Ef:=Key×List Key
abbrev UA:List (Ef×δ×V)->List (Ef×δ×ε)->Prop:=Paired λx y=>x.1=y.1/\x.2.1=y.2.1/\Ae x.2.2 y.2.2
def je(P:ω)(w:World)(h:Heap)(a:δ)(ys:List (Ef×δ×ε)):Prop:=∃(q:Obj) (es:Array DictEntry) (ep:Nat),(h.get? a≈q/\q.ExactDict)/\q.data=.dict es ep/\es.toList=ys.map (entryOfKey (dc (Bp P w)))
def C7(P:ω)(w:World)(a:δ)(xs:List (Ef×δ×V)):HO:=.ext λh=>(a == sysModules)=false/\↑xs<=sizeLine/\∃ ys,UA xs ys/\je P w h a ys/\(ys.map 0.8).Nodup
def LW(H:Hp)(k:Ef)(b:δ):Prop:=∃ t:δ,H b≈(.tup [kV k.1,.ref t])/\H t≈(.tup (k.2.map kV))
def Hl(P:ω)(w:World)(H:Hp)(a:δ)(xs:List (Ef×δ×V)):Prop:=H a≈(C7 P w a xs)/\∀ x∈xs,LW H x.1 x.2.1
def LW.keep{H H':Hp}{k:Ef}{b:δ}(h:LW H k b)(s:∀ c xs,H c≈(.tup xs)->H' c≈(.tup xs)):LW H' k b:=by
 obtain⟨t,h1,h2⟩:=h;exact⟨t,s _ _ h1,s _ _ h2⟩
def Hl.mono{P:ω}{w:World}{H H':Hp}{a:δ}{xs:List (Ef×δ×V)}(h:Hl P w H a xs)(s:AA H H'):Hl P w H' a xs:=⟨s _ _ h.1,λx hx=>(h.2 x hx).keep λc xs e=>s _ _ e⟩
def dj{xs:List (Ef×δ×V)}{ys:List (Ef×δ×ε)}(r:UA xs ys):∀ y∈ys,∃ x∈xs,x.1=y.1/\x.2.1=y.2.1/\Ae x.2.2 y.2.2:=by
 induction r with
 | nil=>exact λy h=>nomatch h
 | cons h t ih =>
  intro y hy
  rcases Yk.mp hy with e | hy
  ·exact⟨_,Yj,by rw[e];exact h⟩
  ·obtain⟨x,hx,z⟩:=ih y hy;exact⟨x,Yq _ hx,z⟩
section
variable {X:Cx}{π:PL}{σ:St}{H:Hp}{s:χ}{a b:δ}{xs:List (Ef×δ×V)}{k:Ef}{A:Around}{E:EV}
def cZ{P:ω}{w:World}{h:Heap}(ok:BU P w H h)(n:LW H k b):Dy (Bp P w) h k b:=by
 obtain⟨t,h1,h2⟩:=n;obtain⟨_,ψ,r,o,e1,e2,n,e3⟩:=(show BB P w H h b (.tup [kV k.1,.ref t])from ok b _ h1);obtain⟨u,v,rfl,r1,r2⟩:=Og r;cases r2;exact⟨o,_,n,u,t,⟨⟨e1,e2⟩,e3⟩,⟨by simp,K4 r1⟩,Mn ok h2⟩
def Ycs(I:Inv X π σ H s)(d:Hl X.prog X.w H a xs):(a == sysModules)=false/\↑xs<=sizeLine/\∃ ys,UA xs ys/\s.heap.DictOfH (dc (Bp X.prog X.w)) a ys:=by
 obtain⟨⟨h1,h2,ys,r,⟨q,es,ep,⟨e1,e2⟩,e3,e4⟩,nd⟩,_⟩:=(show BB X.prog X.w H s.heap a (C7 X.prog X.w a xs)from I.hok a _ d.1);refine⟨h1,h2,ys,r,q,es,ep,e1,e2,e3,e4,λy hy=>?_,nd⟩;obtain⟨x,hx,f1,f2,_⟩:=dj r y hy;have:=cZ I.hok (d.2 x hx);rw[f1,f2]at this;exact this
def i6{P:ω}{w:World}{H':Hp}{h:Heap}{ys:List (Ef×δ×ε)}(h1:(a == sysModules)=false)(h2:↑xs<=sizeLine)(r:UA xs ys)(o:je P w h a ys)(nd:(ys.map 0.8).Nodup):BB P w H' h a (C7 P w a xs):=by
 refine⟨⟨h1,h2,ys,r,o,nd⟩,?_,λg1 g2 p keep=>?_⟩
 ·obtain⟨q,_,_,e,_⟩:=o;exact⟨q,e.1⟩
 ·obtain⟨p1,p2,ys,r,⟨q,es,ep,⟨e1,e2⟩,e3,e4⟩,nd⟩:=p;exact⟨p1,p2,ys,r,⟨q,es,ep,⟨keep _ e1,e2⟩,e3,e4⟩,nd⟩
def Inv.reP(I:Inv X π σ H s)(h:H a≈(.dT [])):Inv X π σ (upd H a (C7 X.prog X.w a [])) s:=by
 have nf:∀ o' v,X.H₀ a≠some (.frz o' v):=λo' v e=>by
  have q:=I.base.frzs a o' v e;rw[h]at q;cases q
 refine I.reAt h (λ_ z=>nomatch z) (λ_ z=>nomatch z) (λ_ z=>nomatch z) nf λk=>?_;obtain⟨z,y,xs,r,o,es,ep,h1,h2,h3,h4,h5⟩:=k;cases r;exact i6 y z .nil ⟨o,es,ep,⟨h1,h2⟩,h3,h4⟩ List.nodup_nil
inductive UG(P:ω)(w:World)(t:TS)(D:Cy)(σ:St)(H:Hp):Prop
 | mk:∀ a,H a≈(.dT [])->t D σ (upd H a (C7 P w a []))->UG P w t D σ H
def cb{sts:List Stmt}{t:TS}(h:Bc X sts t):Bc X sts (UG X.prog X.w t):=by
 intro π s σ H D I q;obtain⟨a,ha,q⟩:=q;exact h π s σ _ D (I.reP ha) q
end
inductive jX(P:ω)(w:World)(D:Cy)(σ:St)(v:V)(x:V)(y:V)(H3:Hp):Prop
 | mk:∀ a b xs k,x=.ref a->y=.ref b->Hl P w H3 a xs->LW H3 k b->(∀ x∈xs,x.1≠k)->↑xs<sizeLine->D.nx σ (upd H3 a (C7 P w a (xs++[(k,b,v)])))->jX P w D σ v x y H3
def Ybn(P:ω)(w:World)(td ty tv:TE):TS:=λD σ H=>tv σ H λv H1=>td σ H1 λx H2=>ty σ H2 λy H3=>jX P w D σ v x y H3
section
variable {X:Cx}{o i value:Expr}{pos pos':Pos}{td ty tv:TE}
def wm(hu:X.A.units + 2<cLine)(ho:PE X o td)(hi:PE X i ty)(hv:PE X value tv)(hs:swapsWith value (↥(.Subscript o i pos')) pos.line X.env=pure false):PS X (.Assign [.Subscript o i pos'] value pos) (Ybn X.prog X.w td ty tv):=by
 intro π s σ H D I h;refine wpAny_Assign_Subscript (AM (hv π s σ H _ I h) λr s1 ⟨v,H1,I1,rv,q1⟩=>AM (ho π s1 σ H1 _ I1 q1) λu s2 ⟨x,H2,I2,rx,q2⟩=>AM (hi π s2 σ H2 _ I2 q2) λiv s3 ⟨y,H3,I3,ry,a,b,xs,k,ex,ey,d,nk,l,few,q3⟩=>?_) hs;subst ex ey;cases(show u=Value.ref a from rx);cases(show iv=Value.ref b from ry);obtain⟨h1,h2,ys,rel,dd⟩:=Ycs I3 d;have len:=Yp rel;have none:atKey ys k=none:=by
  unfold atKey;rw[List.find?_eq_none.mpr λy hy=>?_]
  ·rfl
  ·obtain⟨x,hx,f1,_⟩:=dj rel y hy;rw[<- f1,Jc (l x hx)];exact Yl
 refine wpAny_setItem_heap (hsz:=by omega) (by show X.A.units + 1 + 1<cLine;omega) (cZ I3.hok nk) dd λh' Gd sb=>?_;rw[storedH_new none]at Gd;obtain⟨q,es,ep,e1,e2,e3,e4,_,nd⟩:=Gd;refine⟨σ,_,Ro I3 (by rw[d.1];exact True.intro) sb ⟨q,e1⟩ (i6 h1 ?_ (CH rel ⟨Y,Y,rv⟩) ⟨q,es,ep,⟨e1,e2⟩,e3,e4⟩ nd),q3⟩;rw[Yo];show ↑xs + 1<=sizeLine;omega
end
end L2
namespace L2
open PySem PySem.Spec PySem.Builtin
def sS(l:δ)(items:τ)(n:Nat)(dd:Option δ)(sl:Array (OU))(k:Int)(u:Tok)(hb:¬ (decide (k < -(2 ^ 63)) || decide (k ≥ 2 ^ 63))=true)(he:¬ (items.isEmpty || k == 1)=true)(h0:(decide (k<=0) || items.isEmpty)=true):
  Meets (Builtin.«tuple.__mul__» ⟨[.ref l,.int k u],[]⟩) (λ_ R s=>s.heap.get? l=some {cls:=.type "tuple",dict:=dd,data:=.seq items n,slots:=sl}/\R (.ok (.ret (Value.ref ⇑s))) {s with heap:=s.heap.push {cls:=Value.type "tuple",data:=Data.seq #[] },toks:=s.toks}):=
 .of_wp λprog w A R s h=>by obtain⟨hp,g,d,tk,os⟩:=s;obtain⟨hl,h⟩:=h;have f1:=AutoSeq1.idx_int;have f2:=YE;wp_walk using wpAny_loadPart' hl;rw[if_neg hb];wp_walk using wpAny_loadPart' hl;exact⟨Z,h⟩
section
variable {X:Cx}
inductive Tj(K:Fg)(x:V)(y:V)(H:Hp)(Q:VK):Prop
 | mk:∀ a xs b,x=.ref a->y=.int (if b=true then 1 else 0)->AG K H a xs->xs≠[]->↑xs<=100->(b=true->Q (.ref a) H)->(b=false->∀ p,H p=none->Q (.ref p) (upd H p (.tup [])))->Tj K x y H Q
def cQ:BM X (binaryOp .Mult) (Tj X.K):=by
 exfalso;obtain⟨a,xs,b,rfl,rfl,ha,hx,xl,q1,q0⟩:=h;cases b with
 | true=>exact cR π s σ H _ _ v u Q I rx ry ⟨a,1,xs,Y,Y,ha,Q,Q,xl,λ_=>q1 rfl,λ_ n=>absurd rfl n⟩
 | false =>
 cases rx;obtain⟨t,rfl⟩:=ry;obtain⟨ψ,r,p1,hz⟩:=I.tuple ha;have hl:=↑r;obtain⟨⟨cls,dd,data,sl⟩,ho,hc,n,hd⟩:=id p1;simp only at hc hd;subst hc hd;have hi:ψ≠[]:=λz=>hx (r.nil_iff.mp z);have ie:ψ.toArray.isEmpty=false:=by simpa using hi
 refine wpAny_binaryOp_repeat_ref (T:="tuple") (U:="int") 0.1 ⟨_,ho,Y⟩ (λs'=>typeIs_int s' _ t) h_ F.fills_int_mul F.slot_int_rmul hJ F.slot_int_index.lookup
  (Py F.slot_int_rmul (typeIs_int s _ t) F.entry_int_rmul (F.args_int_rmul_2 _ _) (gy 0 t a ψ.toArray n dd sl) ⟨ho,Y,⟨_,ho,Y⟩,?_⟩)
 refine Py F.slot_tuple_mul ⟨_,ho,Y⟩ F.entry_tuple_mul (F.args_tuple_mul_2 _ _) (sS a ψ.toArray n dd sl 0 t 0.1 (by rw[ie];decide) (by rw[ie];decide)) ⟨ho,?_⟩;refine⟨.ref _,_,I.laid (t':=s.toks) (o:=.tup []) (λb ob q=>Yb _ q) (Ye _) ?_,Y,q0 rfl _ (I.hok.fresh (Ye _))⟩;exact⟨BC _,[],.nil,_,Yh _ rfl,Y,Z⟩
end
end L2
namespace L2
open PySem PySem.Spec PyProof.Rows
structure ky(X:Cx)(st:Stmt)(t:TS):Prop where
 h:PS X st t
end L2
namespace L2
open PySem PySem.Spec
theorem cw(a:Array Nat):∀(k:Nat) (b:Array Nat),((List.replicate k a).foldl (·++·) b).toList=b.toList++(List.replicate k a.toList).flatten
 | 0,b=>by simp
 | k + 1,b=>by
  rw[JH,List.foldl_cons,cw a k,Px,JH,Le,IH]
def EX(i:Str)(k:Nat):Str:=⟨(List.replicate k i.cps).foldl (·++·) #[]⟩
def O8(i:Str)(k:Nat):(EX i k).cps.toList=(List.replicate k i.cps.toList).flatten:=by
 unfold EX;rw[cw];rfl
def dq(i:Str)(k:Nat):↑(EX i k)=k * ↑i:=by
 have:=congrArg List.length (O8 i k);rw[List.length_flatten,List.map_replicate,List.sum_replicate_nat]at this;simpa[Str.length]using this
section
variable {X:Cx}
def xG:BM X (binaryOp .Mult) (λx y H Q=>∃(i:Str) (k:Nat),x=.str i/\y=.int (k:Int)/\2<=k/\k<=100/\1<=↑i/\↑i<=100/\Q (.str (EX i k)) H):=by
 exfalso;obtain⟨i,k,rfl,rfl,k2,Lx,i1,Ly,q⟩:=h;obtain⟨t,rfl⟩:=rx;obtain⟨t',rfl⟩:=ry;have B3:((k:Int) == 1 || ↑i == 0)=false:=by
  rw[Bool.or_eq_false_iff];exact⟨by simp;omega,by simp;omega⟩
 have hbig:↑i * k<=10000:=BL (Nat.mul_le_mul Ly Lx) 0.1;refine P.mul_str (by rw[Jc 0.0,Jc 0.0];rfl) (λ_ _=>?_) (λ_ _=>?_) ?_
 ·have h1:(92233720368547758:Int)<=(2 ^ 63 - 1) / (k:Int):=by
   rw[Int.le_ediv_iff_mul_le 0.0];omega
  omega
 ·rw[GQ];unfold Builtin.Str.tooLong;have:¬ (↑i * k > sizeLine):=by rw[sizeLine_eq];omega
  simpa using this
 ·rw[if_neg 0.0,B3];show Made.post (Made.str _) _ _;refine⟨?_,⟨.str (EX i k),H,I.tok _,⟨Z⟩,q⟩⟩;have hl:↑(EX i k)<=sizeLine:=by
   rw[dq,Nat.mul_comm,sizeLine_eq];omega
  exact hl
end
def yv(i:Str):EX i 1=i:=by
 have h:(EX i 1).cps.toList=i.cps.toList:=by rw[O8];simp
 obtain⟨a⟩:=i;have e:(EX ⟨a⟩ 1).cps=a:=Array.toList_inj.mp h;show(⟨(EX ⟨a⟩ 1).cps⟩:Str)=⟨a⟩;rw[e]
section
variable {X:Cx}
def zC:BM X (binaryOp .Mult) (λx y H Q=>∃(i:Str) (k:Nat),x=.str i/\y=.int (k:Int)/\1<=k/\k<=100/\1<=↑i/\↑i<=100/\Q (.str (EX i k)) H):=by
 exfalso;obtain⟨i,k,rfl,rfl,k1,Lx,i1,Ly,q⟩:=h;by_cases k2:2<=k
 ·exact xG π s σ H _ _ v u Q I rx ry ⟨i,k,Y,Y,k2,Lx,i1,Ly,q⟩
 obtain rfl:k=1:=by omega
 rw[yv]at q;obtain⟨t,rfl⟩:=rx;obtain⟨t',rfl⟩:=ry;refine P.mul_str 0.1 (λ_ h=>?_) (λ_ h=>?_) ?_
 ·exact absurd h 0.6
 ·exact absurd h 0.6
 ·rw[if_neg 0.1];exact⟨.str i,H,I,⟨Z⟩,q⟩
end
end L2
namespace Lg
open PySem L2
variable {P:ω}{w:World}{K:Fg}{mg:Str->OU}{base:Heap}
def top(i:Nat):Stmt:=PySem.Challenge.pw_manydeeds_k89_whole_two_desks_by_turns.main.body.getD i (.Pass ⟨0,0,0,0⟩)
abbrev J5:Stmt:=top 22
abbrev S4:Stmt:=top 24
abbrev Xm:Stmt:=C2 (top 25) 0
abbrev S1:Stmt:=C2 (top 25) 1
abbrev TX:Stmt:=C2 (top 25) 2
abbrev S0:Stmt:=C2 (top 25) 3
abbrev I_:Stmt:=top 31
abbrev TM:Stmt:=top 32
abbrev Sx:Stmt:=top 33
abbrev NH:Stmt:=top 34
abbrev NC:Stmt:=top 35
abbrev Sy:Stmt:=top 36
abbrev Sv:Stmt:=top 37
abbrev Xn:Stmt:=C2 (top 38) 0
abbrev Sr:Stmt:=C2 (top 38) 1
abbrev Pe:Stmt:=C2 (top 38) 2
abbrev Ph:Stmt:=C2 (top 38) 4
abbrev S2:Stmt:=C2 (top 38) 6
abbrev TH:Stmt:=C2 (top 38) 10
abbrev TJ:Stmt:=C2 (top 38) 11
abbrev S5:Stmt:=top 41
abbrev Pn:Stmt:=C2 (top 42) 0
abbrev Tb:Stmt:=C2 (top 42) 1
abbrev S9:Stmt:=C2 (top 42) 2
abbrev Sn:Stmt:=C2 (top 42) 4
abbrev S_:Stmt:=C2 (top 42) 6
abbrev TL:Stmt:=top 44
abbrev M8:Stmt:=top 45
abbrev PQ:Stmt:=top 46
abbrev NJ:Stmt:=top 47
abbrev Tc:Stmt:=top 48
abbrev SM:Stmt:=top 49
abbrev SN:Stmt:=top 50
abbrev Rg:Stmt:=top 51
abbrev J6:Stmt:=top 64
abbrev S7:Stmt:=top 65
abbrev S8:Stmt:=top 66
abbrev S6:Stmt:=top 67
abbrev SJ:Stmt:=top 68
abbrev SK:Stmt:=top 69
abbrev SI:Stmt:=top 70
abbrev Sh:Stmt:=top 98
abbrev Sg:Stmt:=top 99
abbrev NG:Stmt:=top 100
abbrev TQ:Stmt:=top 108
abbrev TN:Stmt:=top 109
abbrev Pc:Stmt:=top 110
abbrev Sw:Stmt:=top 112
abbrev Sz:Stmt:=top 113
abbrev Si:Stmt:=top 114
abbrev TV:Stmt:=top 115
abbrev Pb:Stmt:=top 116
abbrev Sf:Stmt:=top 117
abbrev Ta:Stmt:=top 122
abbrev Xl:Stmt:=C2 (top 124) 0
abbrev PZ:Stmt:=C2 (top 124) 1
abbrev Sd:Stmt:=C2 (top 124) 2
abbrev So:Stmt:=C2 (top 124) 3
abbrev Sq:Stmt:=C2 (top 124) 4
abbrev Se:Stmt:=top 126
abbrev LJ:Stmt:=top 127
abbrev TY:Stmt:=top 128
abbrev Gv:Stmt:=top 129
abbrev Pj:Stmt:=top 130
abbrev Pf:Stmt:=top 131
abbrev NI:Stmt:=top 132
abbrev Ss:Stmt:=top 133
abbrev NM:Stmt:=top 134
abbrev NL:Stmt:=top 135
abbrev Pm:Stmt:=top 136
abbrev Pl:Stmt:=top 137
abbrev TZ:Stmt:=top 138
abbrev Pk:Stmt:=top 139
abbrev NK:Stmt:=top 140
abbrev JD:Stmt:=top 141
abbrev S3:Stmt:=top 142
abbrev Su:Stmt:=top 143
abbrev Tn:Stmt:=top 144
end Lg
namespace Lg
open PySem L2 Md
variable {P:ω}{w:World}{K:Fg}{mg:Str->OU}{base:Heap}
inductive X0(K:Fg)(vs:LV)(H:Hp)(Q:VK)(AJ:XK):Prop
 | mk:∀(a:δ) (k:Int) (ns:List Int),vs=[.ref a,.int k]->SqL K H a (ns.map V.int)->↑ns<=100->0<=k->k<=1000->(∀ p o,H p=none->FI o->Q (.ref p) (upd H p o))->X0 K vs H Q AJ
inductive Mq(vs:LV)(H:Hp)(Q:VK)(AJ:XK):Prop
 | mk:∀(p:δ) (m:Int) (o:HO),vs=[.ref p,.int m]->H p≈o->FI o->0<m->m<4611686018427387904->(∀(v:Int) o',0<=v->v<m->FI o'->Q (.int v) (upd H p o'))->Mq vs H Q AJ
inductive XB(vs:LV)(H:Hp)(Q:VK)(AJ:XK):Prop
 | mk:∀ n:Nat,vs=[.int n]->n<26 ^ 8->Q (.str (Ew n)) H->XB vs H Q AJ
def Of:Aa ["script","k","cell","rest"] ["script","k"] (AL Se):=by nofun
def VY:(10:Int) ^ (64:Int).toNat * 10 ^ (64:Int).toNat * 10 ^ (64:Int).toNat * 10 ^ (64:Int).toNat=10 ^ 256:=by rfl'
def u5(F:Def K mg "_law_pot" Se ["script","k"] f fd)(len:mg "len"=none):⋯ 1 f fd ["script","k"] (X0 K):=by
 nomatch F.fn.ok Of
 ·obtain⟨a,k,ns,rfl,_⟩:=h;rfl
 ·obtain⟨a,k,ns,rfl,hS,hl,C_,Dr,q⟩:=h
  ac_nf
  refine⟨_,pS (Ez (i:=2) Of.nd rfl 1.2 AH)
   (Gn (Ag (An Od 1.5 (A9 F_ 1.0 len BX (pC 0.9 AB)) (Aj _))
    (AF (Ez (i:=2) Of.nd rfl 1.2 (Ai Jw (AO Ad 0.9 1.5 0.2)
     (Ai WT (Ai WT (Ai WT (Ai Mt AH AH) (Ai Mt AH AH)) (Ai Mt AH AH)) (Ai Mt AH AH))))) Af)
   (pS (Ez (i:=3) Of.nd rfl 1.2 AH)
   (Gn (Ag (An Yb0 1.6 (Ai Mt AH AH) (Aj _)) (AF (Ez (i:=3) Of.nd rfl 1.2 1.6)) Af)
   (AF (AQ (BH (pC (pv 3) (pC (Ai Jw (Ai Rc (Ai K7 (Ai K7 (Ai Jw 1.6 AH) (Ai Rc AH 1.5)) AH) AH) AH) AB)))))))),?_⟩
  exists let b:=Ic _ a;let c:=AE _ b;let e:=_;let f:=Ic (By _ e _) c;AE _ f _ _ _
  let EO:SW:=λσ' H'=>H'=H/\∃ c:Int,0<=c/\c<10 ^ 256/\σ'=[↥(.ref a),↥(.int k),↥(.int c),none];refine⟨EO,?_,?_⟩
  ·refine⟨Z,Z,_,Z,.inl ⟨_,hS,Y⟩,_,Z,Y,Z,?_⟩;refine BG (λh1=>?_) (λh1=>?_)
   ·have h1:k<(↑(ns.map V.int):Int):=Je h1;rw[Ya]at h1;have hi:k.toNat<↑ns:=by omega
    have hat:CL (ns.map V.int) k≈(V.int ns[k.toNat]):=by
     have e:(ns.map V.int)[k.toNat]?≈(V.int ns[k.toNat]):=by rw[Ys,Yi hi];rfl
     have:=CA e
     rwa [T8 C_]at this
    refine⟨Z,Z,G,_,Z,Y,hS,hat,_,Z,Y,⟨Q,Q,by rfl'⟩,_,Z,Y,⟨Q,Q,by rfl'⟩,_,Z,Y,⟨by rfl',by rfl'⟩,
     _,Z,Y,⟨Q,Q,by rfl'⟩,_,Z,Y,⟨by rfl',by rfl'⟩,_,Z,Y,⟨Q,Q,by rfl'⟩,_,Z,Y,⟨by rfl',by rfl'⟩,_,Z,Y,?_,Y,_,?_,?_,Y⟩
    ·show(0:Int)<_;rw[VY];rfl'
    ·rw[VY];exact NY _ 0.7
    ·rw[VY];exact NX _ 0.7
   ·exact⟨Y,0,Q,by rfl',Y⟩
  ·rintro σ' H' ⟨rfl,c,nu,nq,rfl⟩;let JQ:SW:=λσ2 H2=>H2=H'/\∃ r:Int,0<=r/\r<10 ^ 256/\σ2=[↥(.ref a),↥(.int k),↥(.int c),↥(.int r)];refine⟨JQ,?_,?_⟩
   ·refine⟨Z,_,Z,Y,⟨Q,Q,by rfl'⟩,_,Z,Y,Z,?_⟩;refine BG (λh1=>?_) (λh1=>?_)
    ·exact⟨Z,Y,c,nu,nq,Y⟩
    ·exact⟨Y,0,Q,by rfl',Y⟩
   ·rintro σ2 H2 ⟨rfl,r,Hb,Aq,rfl⟩;have m0:=NY c (b:=2147483629) 0.1;have m1:=NX c (b:=2147483629) 0.1;refine⟨Z,Z,_,Z,Y,(by show(0:Int)<2147483629;decide),Z,_,Z,Y,.inl ⟨Q,Q⟩,_,Z,Y,_,Z,Y,_,Z,Y,.inr ⟨Q,Q⟩,_,Z,Y,(by show(0:Int)<2147483647;decide),W,λp hp=>?_⟩;refine q p _ hp ⟨r,Z,Hb,Aq,NY _ 0.1,NX _ 0.1⟩
def jY:Aa ["pot","many","found"] ["pot","many"] (AL LJ):=by nofun
def ck(F:Def K mg "_law_take" LJ ["pot","many"] f fd):⋯ 1 f fd ["pot","many"] Mq:=by
 nomatch F.fn.ok jY
 ·obtain⟨p,m,o,rfl,_⟩:=h;rfl
 ·obtain⟨p,m,o,rfl,hp,⟨r,b,rfl,Hb,Aq,OI,U7⟩,Kt,N_,q⟩:=h
  ac_nf
  refine⟨_,pS (Ag (An Hz (AO Ad 0.9 AH 0.2) AH (Aj _))
    (pS (Ez (i:=2) jY.nd rfl 1.2 (Ai Jw (AO Ad 0.9 AH 0.2) 1.5))
    (pS (Ol (Ai zB (AO Ad 0.9 AH 0.2) 1.5) (Vm 0.9 AH Wm)) (AF (AQ 1.6)))) Af)
   (pS (Ol (Ai Jw (Ai K7 (Ai Rc (AO Ad 0.9 AH 0.2) AH) AH) AH) (Vm 0.9 AH Wm))
   (AF (AQ (Ai Jw (Ai cm (Ai Jw (Ai Rc (AO Ad 0.9 AH 0.2) (AO Ad 0.9 AH 0.2)) AH) AH) 1.5)))),?_⟩
  exists let b:=AE _ a;let c:=_;let e:=AE _ c;let f:=AE _ e;AE (By _ f _) b _ _ _
  refine⟨Z,p,G,Z,Y,SqL.of hp,Y,_,Z,Y,Z,?_⟩;refine BG (λh1=>?_) (λh1=>?_)
  ·refine⟨Z,p,G,Z,Y,SqL.of hp,Y,Z,_,Z,Y,Kt,?_⟩;refine⟨Z,p,G,Z,Y,SqL.of hp,Y,Z,_,Z,Y,⟨Kt,N_⟩,?_⟩;refine⟨Z,p,G,0,Y,Y,hp,Y,Z,?_⟩;have h1:0<r:=Je h1;exact q _ _ (NY _ 0.0) (NX _ Kt) ⟨r / m,b,Y,Int.ediv_nonneg Hb 0.0,Int.lt_of_le_of_lt (Int.ediv_le_self _ Hb) Aq,OI,U7⟩
  ·refine⟨Z,p,G,Z,Y,SqL.of hp,Y,_,Z,Y,.inr ⟨Q,Q⟩,_,Z,Y,_,Z,Y,(by show(0:Int)<2147483647;decide),?_⟩;refine⟨Z,p,G,1,Y,Y,hp,Y,?_⟩;have m0:=NY (b * 69621 + 12345) (b:=2147483647) 0.1;have m1:=NX (b * 69621 + 12345) (b:=2147483647) 0.1;refine⟨Z,p,G,Z,Y,SqL.of uS,Y,Z,p,G,Z,Y,SqL.of uS,Y,_,Z,Y,.inl ⟨O,O⟩,_,Z,Y,(by show(0:Int)<2147483629;decide),_,Z,Y,⟨Q,Q⟩,Z,_,Z,Y,Kt,?_⟩;exact q _ _ (NY _ 0.0) (NX _ Kt) ⟨r,Z,Hb,Aq,m0,m1⟩
def iX:Aa ["number","word"] ["number"] (AL TY):=by nofun
def rj(F:Def K mg "_law_letters" TY ["number"] f fd):⋯ 1 f fd ["number"] XB:=by
 nomatch F.fn.ok iX
 ·obtain⟨n,rfl,_⟩:=h;rfl
 ·obtain⟨n,rfl,hn,q⟩:=h;have nd:=iX.nd
  ac_nf
  refine⟨_,pS (sE 1 nd Ah)
   (pS (O7 Yx (Xx (An BP 1.5 Ah (Aj _)) (Vo (An Hz 0.9 AH (Aj _)))).pt
    (pS (sE 1 nd (Ai CP 1.5 (AO uf Ah (Ai Jw 0.9 AH) 0.2)))
    (AF (sE 0 nd (Ai cm 0.9 AH)))))
   (AF (AQ 1.5))),?_⟩
  exists let b:=AE _ a;AE _ b _ _ _
  have e0:("":Str).cps.toList=[]:=by rfl'
  have hlen:↑(Dk n)<=8:=Xj 7 n hn;let Lh:NW:=λm σ H2=>H2=H/\∃(x:Str) (k:Nat),σ=[↥(.int k),↥(.str x)]/\m=k + (if x.cps.toList=[]then 1 else 0)/\((x.cps.toList=[]/\k=n)\/(x.cps.toList≠[]/\k=0/\x.cps.toList=Dk n)\/(x.cps.toList≠[]/\0<k/\x.cps.toList++Dk k=Dk n));refine⟨Lh,⟨Z,_,n,Y,Y,.inl ⟨e0,Y⟩⟩,?_⟩;rintro m σ H2 ⟨rfl,x,k,rfl,rfl,inv⟩;have more:(x.cps.toList=[]\/0<k)->∃ N:SW,(∀ σ' H',N σ' H'->∃ m',m'<k + (if x.cps.toList=[]then 1 else 0)/\(H'=H2/\∃(y:Str) (j:Nat),σ'=[↥(.int j),↥(.str y)]/\m'=j + (if y.cps.toList=[]then 1 else 0) /\
    ((y.cps.toList=[]/\j=n)\/(y.cps.toList≠[]/\j=0/\y.cps.toList=Dk n)\/(y.cps.toList≠[]/\0<j/\y.cps.toList++Dk j=Dk n)))) /\
    N [↥(.int ((k:Int) / 26)),↥(.str (x++⟨#[97 + k % 26]⟩))] H2:=λhk=>by
   let QQ:SW:=λσ' H'=>σ'=[↥(.int ((k:Int) / 26)),↥(.str (x++⟨#[97 + k % 26]⟩))]/\H'=H2;refine⟨QQ,?_,Y,Y⟩;rintro σ' H' ⟨rfl,rfl⟩;have el:(x++⟨#[97 + k % 26]⟩:Str).cps.toList=x.cps.toList++[97 + k % 26]:=dC _ _;have ne:(x++⟨#[97 + k % 26]⟩:Str).cps.toList≠[]:=by rw[el];simp
   have kd:((k:Int) / 26)=((k / 26:Nat):Int):=by omega
   have whole:(x.cps.toList++[97 + k % 26])++(if k / 26=0 then[]else Dk (k / 26))=Dk n:=by
    rw[IH,List.singleton_append,<- ND]
    rcases inv with⟨h1,h2⟩ | ⟨h1,h2,_⟩ | ⟨_,_,h3⟩
    ·rw[h1,h2];rfl
    ·rcases hk with z | z
     ·exact absurd z h1
     ·omega
    ·exact h3
   refine⟨k / 26,?_,Y,_,k / 26,by rw[kd],by rw[if_neg ne];rfl,?_⟩
   ·rcases hk with z | z
    ·rw[if_pos z];omega
    ·have:k / 26<k:=by omega
     omega
   ·right;rw[el];by_cases z:k / 26=0
    ·rw[if_pos z,EM]at whole;exact .inl ⟨by simp,z,whole⟩
    ·rw[if_neg z]at whole;exact .inr ⟨by simp,O,whole⟩
  have xlen:↑x<=8:=by
   rw[<- J0]
   rcases inv with⟨h1,_⟩ | ⟨_,_,h3⟩ | ⟨_,_,h3⟩
   ·rw[h1];simp
   ·rw[h3];exact hlen
   ·have:=congrArg List.length h3;rw[Yo]at this;omega
  have bY:CL letters.cps.toList ((k:Int) % 26)≈(97 + k % 26):=by
   have:=CA (rR (i:=k % 26) 0.0);have e:((k % 26:Nat):Int)=(k:Int) % 26:=by omega
   rwa [e]at this
  refine⟨Z,Y,Z,?_⟩;refine BG (λh1=>?_) (λh1=>?_)
  ·have hx:x.cps.toList=[]:=by
    have:=Je h1;injection this with this;rw[this];exact e0
   obtain⟨N,hN,n0⟩:=more (.inl hx);refine A4 ⟨N,hN,?_⟩;exact⟨Z,Z,_,Z,Y,(by show(0:Int)<26;decide),G,Z,Y,sL (by rw[<- J0,SX];decide),bY,_,Z,Y,sL (by rw[cI];omega),Z,_,Z,Y,⟨Q,Q⟩,n0⟩
  ·have hx:x.cps.toList≠[]:=λz=>h1 (Jb (by rw[Rw (z.trans e0.symm)]));refine⟨Z,_,Z,Y,Z,?_⟩;refine BG (λh2=>?_) (λh2=>?_)
   ·have hk:0<k:=by have:(0:Int)<(k:Int):=Je h2;omega
    obtain⟨N,hN,n0⟩:=more (.inr hk);refine⟨N,hN,?_⟩;exact⟨Z,Z,_,Z,Y,(by show(0:Int)<26;decide),G,Z,Y,sL (by rw[<- J0,SX];decide),bY,_,Z,Y,sL (by rw[cI];omega),Z,_,Z,Y,⟨Q,Q⟩,n0⟩
   ·have hk:k=0:=by
     have:¬ (0:Int)<(k:Int):=λz=>h2 (Jb z);omega
    have hf:x=Ew n:=by
     refine Rw ?_;rw[Xg]
     rcases inv with⟨h1,_⟩ | ⟨_,_,h3⟩ | ⟨_,h2,_⟩
     ·exact absurd h1 hx
     ·exact h3
     ·omega
    rw[hf];exact⟨Z,q⟩
structure Wi(ws:LS):Prop where
 word:∀ x∈ws,AR x=true
 nd:ws.Nodup
inductive Vx(vs:LV)(H:Hp)(Q:VK)(AJ:XK):Prop
 | mk:∀(p a:δ) (ws:LS),vs=[.ref p,.ref a]->p≠a->(∃ o,H p≈o/\FI o)->H a≈(.lst 1.1)->Wi ws->↑ws<=24->(∀ x H',Drawn p H H'->AR x=true->x∉ws->Q (.str x) H')->Vx vs H Q AJ
def Jx:LS:=["kind","under","name","deed","gives","with","none","clash","a","ab","abc","abcdefgh","even"]
def qy:Jx.all AR=true:=by rfl'
def V3{ws:LS}{v:Int}(h0:0<=v)(h1:v<↑ws):∃ x,x∈ws/\CL 1.1 v≈(.str x):=by
 have hi:v.toNat<↑ws:=by omega
 have e:1.1[v.toNat]?≈(V.str ws[v.toNat]):=by rw[Ys,Yi hi];rfl
 have:=CA e;rw[T8 h0]at this;exact⟨_,List.getElem_mem hi,this⟩
def gY(ws:LS):(!FC (.list (ws.map PySem.W.Dat.str)) (.list []))=true↔ws≠[]:=by
 cases ws with
 | nil=>simp[IF]
 | cons w r =>
  rw[O1 0.6];simp
def Ra{ws:LS}(h:∀ x∈ws,AR x=true):W.kqdOk 9 (.list (ws.map PySem.W.Dat.str))=true:=by
 show(ws.map PySem.W.Dat.str).all (W.kqdOk 8)=true;rw[C6];intro d hd;obtain⟨x,hx,e⟩:=Yg.mp hd;rw[<- e];exact cz (h x hx)
def jE:Aa ["pot","words","some","way","word","number"] ["pot","words"] (AL Gv):=by nofun
def g0{x y:Str}{n:Nat}(hn:1<=n)(h:y.cps.toList=x.cps.toList.take n)(h1:1<=↑x)(h8:↑x<=8\/n<=8)(hl:∀ c∈x.cps.toList,Hy c=true):AR y=true:=by
 rw[J8,h,Yv,J0];refine⟨⟨O,O⟩,λc hc=>hl c (II hc)⟩
def aj:List Stmt->Stmt
 | s :: _=>s
 | []=>.Pass ⟨0,0,0,0⟩
def Nn:TE:=YX (λ_ H Q=>Q (Jx.map V.str) H)
def Ke:Stmt:=aj (Cn Gv)
def VU:∃ es c p0 p1 p2,Ke=.Assign [.Name ("some":Str) p0] (.Tuple es c p1) p2/\Ou es≈Jx:=⟨G,G,Z,by rfl'⟩
def wj{X:Cx}{st:Stmt}{i:Nat}{x:Str}{ws:LS}(h:∃ es c p0 p1 p2,st=.Assign [.Name x p0] (.Tuple es c p1) p2/\Ou es≈ws)(hN:X.N.Nodup)(hi:X.N[i]?≈x)(hx:Loc X.env.scope x)(hf:X.fn x=true\/X.env.scope.names.lookup x≈.local):PS X st (Hu (YX (λ_ H Q=>Q 1.1 H)) (Cz i)):=by
 obtain⟨es,c,p0,p1,p2,rfl,h⟩:=h;exact Ez hN hi hx (A5 (qf h)) rfl hf
def Ybz{X:Cx}(hN:X.N.Nodup)(hi:X.N[2]?≈("some":Str))(hx:Loc X.env.scope ("some":Str))(hf:X.fn ("some":Str)=true\/X.env.scope.names.lookup ("some":Str)≈NameKind.local):PS X Ke (Hu Nn (Cz 2)):=
 @wj X Ke 2 ("some":Str) Jx VU hN hi hx hf
def Ua:List Stmt->List Stmt
 | _ :: r=>r
 | []=>[]
def vG{X:Cx}{l:List Stmt}{t u:TS}(h0:l.isEmpty=false)(h1:PS X (aj l) t)(h2:Bc X (Ua l) u):Bc X l (AE t u):=by
 cases l with
 | nil=>cases h0
 | cons a r=>exact pS h1 h2
def mS:(Cn Gv).isEmpty=false:=by rfl'
def vF{X:Cx}{u:TS}(hN:X.N.Nodup)(hi:X.N[2]?≈("some":Str))(hx:Loc X.env.scope ("some":Str))(hf:X.fn ("some":Str)=true\/X.env.scope.names.lookup ("some":Str)≈NameKind.local)(h2:Bc X (Ua (Cn Gv)) u):Bc X (Cn Gv) (AE (Hu Nn (Cz 2)) u):=
 @vG X (Cn Gv) (Hu Nn (Cz 2)) u mS (@Ybz X hN hi hx hf) h2
def Ycp{X:Cx}{D:Cy}{σ:St}{H:Hp}(hN:X.N.Nodup)(hi:X.N[2]?≈("some":Str))(hx:Loc X.env.scope ("some":Str))(hf:X.fn ("some":Str)=true\/X.env.scope.names.lookup ("some":Str)≈NameKind.local)
  (h:∃ u,Bc X (Ua (Cn Gv)) u/\AE (Hu Nn (Cz 2)) u D σ H):∃ t,Bc X (Cn Gv) t/\t D σ H:=by
 obtain⟨u,h1,h2⟩:=h;exact⟨AE (Hu Nn (Cz 2)) u,@vF X u hN hi hx hf h1,h2⟩
def xD(F:Def K mg "_law_word" Gv ["pot","words"] f fd)(DT:Def K mg "_law_take" LJ ["pot","many"] fT fdT)(DL:Def K mg "_law_letters" TY ["number"] fL fdL)(len:mg "len"=none):
  ⋯ 2 f fd ["pot","words"] Vx:=by
 have GT:⋯ 1 fT fdT ["pot","many"] Mq:=ck DT;have GL:⋯ 1 fL fdL ["number"] XB:=rj DL
 nomatch F.fn.ok jE
 ·obtain⟨p,a,ws,rfl,_⟩:=h;rfl
 ·obtain⟨p,a,ws,rfl,hpa,hpot,ha,hw,hl24,q⟩:=h;have nd:=jE.nd;have hu:=hr.units;refine @Ycp _ _ _ _ nd rfl 1.2 1.2 ?_
  ac_nf
  refine⟨_,(pS (sE 3 nd (AV DT GT hr (pC 0.9 (pC AH AB))))
   (pS (sE 4 nd (AO Dz 1.6 (AV DT GT hr (pC 0.9 (pC AH AB))) 0.2))
   (Gn (Ag (An BP (pv 3) AH (Aj _)) (AF (sE 4 nd (AV DL GL hr (pC (AV DT GT hr (pC 0.9 (pC (Ai u9 (Ai Mt AH AH) AH) AB))) AB)))) Af)
   (Gn (Ag (Gm (An BP (pv 3) AH (Aj _)) (Jy (An (K8 hu) 1.5 (BH AB) (Aj _)))).pt
    (pS (sE 4 nd (AO Ad 1.5 (AV DT GT hr (pC 0.9 (pC (A9 F_ 1.0 len BX 2.3) AB))) 0.2))
    (AF (sE 4 nd (Gq jF (Ai CP (pv 4) (AV DL GL hr (pC (AV DT GT hr (pC 0.9 (pC AH AB))) AB))) Iu (Fo AH))))) Af)
   (Gn (Ag (Gm (An BP (pv 3) AH (Aj _)) (Jy (An (K8 hu) 1.5 (BH AB) (Aj _)))).pt
    (pS (sE 4 nd (AO Ad 1.5 (AV DT GT hr (pC 0.9 (pC (A9 F_ 1.0 len BX 2.3) AB))) 0.2))
    (AF (sE 4 nd (Gq jF (pv 4) Iu (Fo (Ai K7 AH (AV DT GT hr (pC 0.9 (pC (A9 F_ 1.0 len BX (pC (pv 4) AB)) AB))))))))) Af)
   (pS (sE 5 nd AH)
   (pS (O7 Yx (An Iz (pv 4) 1.5 1.8)
    (pS (sE 4 nd (AV DL GL hr (pC (pv 5) AB)))
    (AF (sE 5 nd (Ai K7 (pv 5) AH)))))
   (AF (AQ (pv 4)))))))))),?_⟩
  have hap:a≠p:=Yw hpa;obtain⟨o0,U0,ag⟩:=hpot;have wl:∀ {H':Hp},Drawn p H H'->SqL K H' a 1.1:=λd=>SqL.of (d.keep _ _ hap ha);refine⟨sL (by show 13<=100000;decide),λt ht=>?_⟩;have d1:Drawn p H (upd H t (.tup (Jx.map V.str))):=(Drawn.refl ⟨o0,U0,ag⟩).new ht;have tp:t≠p:=λe=>by rw[e,U0]at ht;cases ht
  refine⟨Z,p,4,o0,Y,(by rw[AD (Yw tp)];exact U0),ag,Q,Q,λway o1 hw0 HY Jl=>?_⟩;refine⟨Z,Z,p,13,o1,Y,uS,Jl,Q,Q,λv o2 Ej Dc E7=>?_⟩;obtain⟨x0,Uu,hat⟩:=V3 (ws:=Jx) Ej (by show v<13;exact Dc);refine⟨t,Jx.map V.str,_,Z,Y,AG.of (by rw[AD tp,AD tp];exact uS),hat,?_⟩;have w0:AR x0=true:=C6.mp qy x0 Uu;have d3:Drawn p H (upd (upd (upd H t (.tup (Jx.map V.str))) p o1) p o2):=(d1.trans (Drawn.upd Jl)).trans (Drawn.upd E7);let EO:SW:=λσ' H'=>∃ x:Str,σ'=[↥(.ref p),↥(.ref a),↥(.ref t),↥(.int way),↥(.str x),none]/\AR x=true/\Drawn p H H';refine⟨EO,?_,?_⟩
  ·refine⟨Z,Y,Z,?_⟩;refine BG (λ_=>?_) (λ_=>?_)
   ·obtain⟨o3,CT,RF⟩:=d3.pot;refine⟨Z,_,Z,Y,⟨Q,Q,by rfl'⟩,_,Z,Y,p,_,o3,Y,CT,RF,Q,Q,λv o4 Ej Dc RE=>?_⟩;have Dc:v<208827064550:=Dc;refine⟨v.toNat,by rw[T8 Ej];rfl,O,Z,Xh 0.0,d3.trans (Drawn.upd RE)⟩
   ·exact⟨x0,Y,w0,d3⟩
  ·rintro σ' H1 ⟨x1,rfl,w1,d4⟩;let JQ:SW:=λσ' H'=>∃ x:Str,σ'=[↥(.ref p),↥(.ref a),↥(.ref t),↥(.int way),↥(.str x),none]/\AR x=true/\Drawn p H H';refine⟨JQ,?_,?_⟩
   ·refine⟨Z,Y,Z,?_⟩;refine BG (λ_=>?_) (λ_=>AU ⟨x1,Y,w1,d4⟩);refine⟨Z,BC _,λt2 AS=>⟨.list (ws.map PySem.W.Dat.str),.list [],.list ((wl d4).mono_new AS) (J4 ws),.list (SqL.of uS) .nil,Ra hw.word,Y,Z,?_⟩⟩;have d5:Drawn p H (upd H1 t2 (.lst [])):=d4.new AS;refine BG (λB3=>?_) (λ_=>⟨x1,Y,w1,d5⟩);have B3:ws≠[]:=(gY ws).mp B3;have hpos:0<↑ws:=LY.mpr B3;obtain⟨o5,N9,Mb⟩:=d5.pot;refine⟨Z,Z,Z,_,Z,.inl ⟨_,wl d5,Y⟩,p,_,o5,Y,N9,Mb,by rw[Ya];omega,by rw[Ya];omega,λv o6 Ej Dc RD=>?_⟩;rw[Ya]at Dc;obtain⟨x2,MY,Zi⟩:=V3 (ws:=ws) Ej Dc;have d6:Drawn p H (upd (upd H1 t2 (.lst [])) p o6):=d5.trans (Drawn.upd RD);have w2:AR x2=true:=hw.word x2 MY;refine⟨a,ws.map V.str,_,Z,Y,wl d6,Zi,?_⟩;refine⟨Z,Z,p,26,o6,Y,uS,RD,Q,Q,λv o7 Ej Dc Hd=>?_⟩;refine⟨v.toNat,by rw[T8 Ej];rfl,O,?_⟩;have UX:AR (Ew v.toNat)=true:=Xh 0.0;have l2:=Ca w2;have l3:=Ca UX;refine⟨_,Z,Y,sL 0.0,Z,Z,sL (by rw[cH];omega),?_⟩;refine⟨Z,?_,d6.trans (Drawn.upd Hd)⟩;refine g0 (x:=x2++Ew v.toNat) (n:=8) 0.1 (gZ _ 8 0.1) (by rw[cH];omega) (.inr (Ye _)) λc hc=>?_;rw[dC]at hc
    rcases Ym.mp hc with hc | hc
    ·exact((J8 x2).mp w2).2 c hc
    ·exact((J8 _).mp UX).2 c hc
   ·rintro σ' H2 ⟨x2,rfl,w2,d5⟩;let Lh:SW:=λσ' H'=>∃ x:Str,σ'=[↥(.ref p),↥(.ref a),↥(.ref t),↥(.int way),↥(.str x),none]/\AR x=true/\Drawn p H H';refine⟨Lh,?_,?_⟩
    ·refine⟨Z,Y,Z,?_⟩;refine BG (λ_=>?_) (λ_=>AU ⟨x2,Y,w2,d5⟩);refine⟨Z,BC _,λt2 AS=>⟨.list (ws.map PySem.W.Dat.str),.list [],.list ((wl d5).mono_new AS) (J4 ws),.list (SqL.of uS) .nil,Ra hw.word,Y,Z,?_⟩⟩;have d6:Drawn p H (upd H2 t2 (.lst [])):=d5.new AS;refine BG (λB3=>?_) (λ_=>⟨x2,Y,w2,d6⟩);have B3:ws≠[]:=(gY ws).mp B3;have hpos:0<↑ws:=LY.mpr B3;obtain⟨o6,Kq,RD⟩:=d6.pot;refine⟨Z,Z,Z,_,Z,.inl ⟨_,wl d6,Y⟩,p,_,o6,Y,Kq,RD,by rw[Ya];omega,by rw[Ya];omega,λv o7 Ej Dc Hd=>?_⟩;rw[Ya]at Dc;obtain⟨x3,Ut,Zh⟩:=V3 (ws:=ws) Ej Dc;have d7:Drawn p H (upd (upd H2 t2 (.lst [])) p o7):=d6.trans (Drawn.upd Hd);have w3:AR x3=true:=hw.word x3 Ut;have l3:=Ca w3;refine⟨a,ws.map V.str,_,Z,Y,wl d7,Zh,?_⟩;refine⟨Z,Z,Z,_,Z,⟨sL 0.0,Y⟩,p,_,o7,Y,uS,Hd,O,O,λv o8 Ej Dc Ks=>?_⟩;refine⟨_,Z,Y,Z,Z,sL 0.0,?_⟩;refine⟨Z,?_,d7.trans (Drawn.upd Ks)⟩;exact g0 (x:=x3) (n:=(1 + v).toNat) 0.0 (gZ _ (1 + v) 0.0) 0.0 (.inl 0.0) ((J8 x3).mp w3).2
    ·rintro σ' H3 ⟨x3,rfl,w3,d6⟩;let QQ:NW:=λm σ H'=>∃(x:Str) (n:Nat),σ=[↥(.ref p),↥(.ref a),↥(.ref t),↥(.int way),↥(.str x),↥(.int n)]/\AR x=true/\Drawn p H H'/\m=↑ws + 1 - n/\n<=↑ws + 1/\(n=0\/x=Ew (n - 1))/\∀ j,j + 1<n->Ew j∈ws;refine⟨QQ,⟨_,x3,0,Y,w3,d6,Y,O,.inl rfl,λj hj=>by omega⟩,?_⟩;rintro m σ H4 ⟨x,n,rfl,wx,dx,rfl,hn,hxn,hall⟩;refine⟨Z,Z,a,Z,.inl (wl dx),Y,NA ws,Z,?_⟩;show if Bw (.str x) 1.1=true then _ else _
     rw[Io];refine BG (λhin=>?_) (λhin=>?_)
     ·have hin:x∈ws:=Je hin;have all:∀ j,j<n->Ew j∈ws:=λj hj=>by
       by_cases z:j + 1<n
       ·exact hall j z
       ·rcases hxn with e | e
        ·omega
        ·have:j=n - 1:=by omega
         rw[this,<- e];exact hin
      have hle:n<=↑ws:=by
       have:=Graph.nodup_le (l:=(List.range n).map Ew) (k:=ws) ?_ ?_
       ·simpa using this
       ·rw[List.nodup_iff_pairwise_ne,List.pairwise_map];exact(List.nodup_iff_pairwise_ne.mp List.nodup_range).imp λh e=>h (tj e)
       ·intro y hy;obtain⟨j,hj,e⟩:=Yg.mp hy;rw[<- e];exact all j (List.mem_range.mp hj)
      let Hv5:SW:=λσ' H'=>σ'=[↥(.ref p),↥(.ref a),↥(.ref t),↥(.int way),↥(.str (Ew n)),↥(.int ((n:Int) + 1))]/\H'=H4;refine⟨Hv5,?_,?_⟩
      ·rintro σ' H' ⟨rfl,rfl⟩;exact⟨↑ws + 1 - (n + 1),O,Ew n,n + 1,Y,Xh 0.0,dx,Y,O,.inr rfl,λj hj=>all j 0.0⟩
      ·exact⟨Z,n,Y,O,Z,_,Z,Y,Y,Y⟩
     ·have hin:x∉ws:=λz=>hin (Jb z);exact⟨Z,q x H4 dx wx hin⟩
def xf{α:Type}(l:List α):l.filter (λ_=>true)=l:=JG.mpr λ_ _=>rfl
structure zG(mg:Str->OU):Prop where
 range:mg "range"=none
 int:mg "int"=none
 len:mg "len"=none
 tuple:mg "tuple"=none
 list:mg "list"=none
inductive M9(vs:LV)(H:Hp)(Q:VK)(AJ:XK):Prop
 | mk:∀ x:Str,vs=[.str x]->↑x<=1000->(∀ H',AA H H'->Q (.bl (AR x)) H')->M9 vs H Q AJ
inductive Xc(K:Fg)(vs:LV)(H:Hp)(Q:VK)(AJ:XK):Prop
 | mk:∀(l:δ) (ρ:RS),vs=[.ref l]->Jr K H l ρ->Ak ρ->(∀ H',AA H H'->Q .non H')->Xc K vs H Q AJ
structure Hv(H:Hp)(d:δ)(o:Obj)(ρ:RS)(ν:KL):Prop where
 at_:H d≈(.frz o (.dK ν))
 ups:Dx H ρ ν
theorem Hv.mono{H H':Hp}{d:δ}{o:Obj}{ρ:RS}{ν:KL}(b:Hv H d o ρ ν)(s:AA H H'):Hv H' d o ρ ν:=⟨s _ _ b.at_,b.ups.mono λ_ _ e=>s _ _ e⟩
inductive XS(vs:LV)(H:Hp)(Q:VK)(AJ:XK):Prop
 | mk:∀(d:δ) (o:Obj) (ρ:RS) (ν:KL),vs=[.ref d]->Hv H d o ρ ν->Ak ρ->(∀ H',AA H H'->Q .non H')->XS vs H Q AJ
def Ju(us left:LS):V:=match us.find? (λx=>decide (x∈left))with | some x=>.str x | none=>.non
inductive WK(K:Fg)(vs:LV)(H:Hp)(Q:VK)(AJ:XK):Prop
 | mk:∀(a b:δ) (us left:LS),vs=[.ref a,.ref b]->AG K H a (us.map V.str)->SqL K H b (left.map V.str)->Q (Ju us left) H->WK K vs H Q AJ
inductive Wz(vs:LV)(H:Hp)(Q:VK)(AJ:XK):Prop
 | mk:∀(d:δ) (o:Obj) (ρ:RS) (ν:KL),vs=[.ref d]->Hv H d o ρ ν->Ak ρ->(∀ l H',AA H H'->H' l≈(.lst [])->Q (.ref l) H')->Wz vs H Q AJ
inductive Vt(vs:LV)(H:Hp)(Q:VK)(AJ:XK):Prop
 | mk:∀(d:δ) (o:Obj) (ρ:RS) (ν:KL),vs=[.ref d]->Hv H d o ρ ν->Ak ρ->(∀ H',AA H H'->Q .non H')->Vt vs H Q AJ
structure LM(mg:Str->OU):Prop where
 letters:∃ t,mg "LETTERS"≈(.str letters t)
 most:∃ t,mg "MOST_LETTERS"≈(.int 8 t)
 kinds:∃ t,mg "MOST_KINDS"≈(.int 24 t)
 ups:∃ t,mg "MOST_UPS"≈(.int 8 t)
 len:mg "len"=none
 all:mg "all"=none
 list:mg "list"=none
 tuple:mg "tuple"=none
def lY:Aa ["text"] ["text"] (AL I_):=by nofun
def wF:(["sign"]:LS).Nodup:=by rfl'
def Wv(F:Def K mg "is_word" I_ ["text"] f fd)(T:LM mg):⋯ 1 f fd ["text"] M9:=by
 nomatch F.fn.ok lY
 ·obtain⟨x,rfl,_⟩:=h;rfl
 ·obtain⟨x,rfl,hx,k⟩:=h;obtain⟨t1,hl⟩:=T.letters;obtain⟨t2,hm⟩:=T.most
  ac_nf
  refine⟨_,pS (Ag (Di (Wk Mm Mm AH (A9 F_ 1.0 T.len BX (pC 0.9 AB)) (Iq (v:=.int 8) 1.0 hm ⟨_,rfl⟩))) (AF (AQ F4)) Af)
   (AF (AQ (A9 (R3 rfl) 1.0 T.all Tx (pC
    (Ea ["sign"] [] [] (λ_=>CC (osc:=AL I_) (on:=["text"]) 0.7 rfl rfl rfl) (vB 0.9) (λC s H fp=>CF (i:=0) wF rfl 1.2 1.3) 2.9
     (λC s H fp=>C3 qu 0.9 (Iq (v:=.str letters) 1.0 hl ⟨_,rfl⟩) 1.8)) AB)))),?_⟩
  exists AE _ a _ _ _
  refine⟨_,rfl,_,_,rfl,⟨sL 0.0,rfl⟩,_,_,rfl,rfl,_,rfl,?_⟩;have no:¬ (1<=↑x/\↑x<=8)->AR x=false:=λh=>by unfold AR;rw[Jc h];rfl
  have same:AA H H:=AA.refl H;refine BG (λh1=>?_) (λh1=>?_)
  ·have h1:(1:Int)<=(↑x:Int):=Je h1;refine⟨_,Z,Y,Z,?_⟩;refine BG (λh2=>?_) (λh2=>?_)
   ·have h2:¬ ((↑x:Int)<=8):=by simpa using h2
    have q:=k H same;rw[no 0.0]at q;exact q
   ·have h2:((↑x:Int)<=8):=by simpa using h2
    refine⟨Z,Z,Wu yx (by unfold Im;rw[Ya,J0];exact sL 0.0) (λ_=>true) Xw (λ_ _ _=>trivial) ?_ ?_ ?_⟩
    ·intro D ys v R _ _ hR;exact hR
    ·intro D ys v R _ hv _ hR;obtain⟨c,_,e⟩:=Yg.mp hv;subst e;exact⟨Z,_,Z,Y,hR⟩
    ·intro D hD;refine⟨D,x.cps.toList.map Hy,Y,SqL.of (by rw[<- qx];exact uS),?_⟩;have e:(x.cps.toList.map Hy).all id=AR x:=by
      unfold AR;rw[Jb 0.0,DY,List.all_map];rfl
     have q:=k (upd H D (.lst (((Im x).filter λ_=>true).map Xw))) λb o hb=>by rw[AD (AK hb hD)];exact hb
     rw[<- e]at q;exact q
  ·have h1:¬ ((1:Int)<=(↑x:Int)):=λz=>h1 (Jb z);refine⟨Z,?_⟩;refine A4 ?_;have q:=k H same;rw[no 0.0]at q;exact q
def Rt{b:Bool}{H:Hp}{a:δ}{xs:LV}(h:Cr K b H a xs):jc K (.ref a) H ↑xs:=by
 cases b with
 | true=>exact .inl ⟨xs,h,Y⟩
 | false=>exact .inr ⟨xs,h,Y⟩
def ke:Aa ["rows","seen","word","ups"] ["rows"] (AL TM):=by nofun
def uP(F:Def K mg "check_rows" TM ["rows"] f fd)(DW:Def K mg "is_word" I_ ["text"] fW fdW)(T:LM mg):⋯ 2 f fd ["rows"] (Xc K):=by
 have GW:⋯ 1 fW fdW ["text"] M9:=Wv DW T
 nomatch F.fn.ok ke
 ·obtain⟨l,ρ,rfl,_⟩:=h;rfl
 ·obtain⟨l,ρ,rfl,⟨b,vs,hl,hp⟩,g,q⟩:=h;obtain⟨t1,hK⟩:=T.kinds;obtain⟨t2,hU⟩:=T.ups;have nd:=ke.nd;have hu:=Es hr
  ac_nf
  refine⟨_,pS (Ag (Di (Wk Mm Mm AH (A9 F_ 1.0 T.len BX (pC 0.9 AB)) (Iq (v:=.int 24) 1.0 hK ⟨Z⟩))) Bj Af)
   (pS (sE 1 nd J1)
   (AF (Bm Yx rfl (K9 0.9) (DU rfl (gC (gE 2 nd) (gC (gE 3 nd) DX)))
    (pS (Ag (Di (C0 (AV DW GW hr 2.5))) Bj Af)
    (pS (Ag (Ik (Mu hu 1.6 1.5)) Bj Af)
    (pS (Ag (An Hz (A9 F_ 1.0 T.len BX (pC (pv 3) AB)) (Iq (v:=.int 8) 1.0 hU ⟨Z⟩) (Aj _)) Bj Af)
    (AF (ID hu 1.5 1.6 F4 rfl)))))))),?_⟩
  exists let b:=AE _ a;let c:=AE _ b;let e:=AE _ c;let f:=CM _ _ e;let g:=AE _ f;AE _ g _ _ _
  have hvl:=↑hp;have g1:=g.ne;have g2:=g.le;refine⟨Z,_,Z,Rt hl,_,Z,Y,Z,?_⟩;rw[show decide ((1:Int)<=(↑vs:Int))=true from Jb 0.0];refine A4 ⟨_,Z,Y,Z,?_⟩;rw[show(decide ((↑vs:Int)<=24))=true from Jb 0.0];refine AU ?_;intro d hd;have s0:AA H (upd H d (.dK [])):=λb o e=>by rw[AD (AK e hd)];exact e
  let Be:NW:=λi σ H'=>∃(ν:KL) (a c:OV),σ=[↥(.ref l),↥(.ref d),a,c]/\AA H H'/\H' d≈(.dK ν)/\ν.map 0.8=(ρ.take i).map λr=>(Sum.inr r.1:Key);refine⟨Z,b,l,vs,Y,hl.mono s0,CG LD Be
   ⟨[],none,none,Y,s0,uS,by simp⟩ (λi σ H' _ h0=>by obtain⟨_,_,_,_,s,_⟩:=h0;exact hl.mono s) ?_ ?_⟩
  ·rintro i v σ H' hi ⟨ν,a,c,rfl,s,hdk,hk⟩;obtain⟨r,Av,t,u,rfl,ht,hug⟩:=Bi hp hi;obtain⟨b',CK⟩:=hug.sq;have As:r∈ρ:=Yd Av;have hw:=g.word r As;have hwl:=Ca hw;refine⟨t,Z,s.tup ht,Y,_,Z,_,Z,Y,?_⟩;refine⟨Z,r.1,Y,O,λH2 s2=>⟨Z,?_⟩⟩;rw[hw];refine AU ?_;have hd2:H2 d≈(.dK ν):=s2 _ _ hdk;refine⟨Z,Z,d,Z,Bl.k (k:=Sum.inr r.1) hd2,Z,?_⟩;have A6:(Sum.inr r.1:Key)∉ν.map 0.8:=by rw[hk];exact PR g.nd Av
   rw[Gu A6];refine AU ?_;refine⟨Z,_,Z,Rt (CK.mono (s.trans s2)),_,Z,Y,Z,?_⟩;rw[show decide ((8:Int)<(↑(r.2.map V.str):Int))=false from Jc (by rw[Ya];have:=g.few r As;omega)];refine AU ?_;have hkl:↑ν=↑(ρ.take i):=by have:=congrArg List.length hk;simpa using this
   have hil:↑(ρ.take i)<=24:=by rw[Yv];omega
   refine⟨Z,Z,d,Z,EE.k (k:=Sum.inr r.1) hd2 (B0 0.0),?_⟩;refine⟨G,Z,λb o e=>?_,uS,?_⟩
   ·rw[AD (AK e hd)];exact s2 _ _ (s _ _ e)
   ·rw[Wx A6,hk,Bu,Av,Br];rfl
  ·rintro σ H' ⟨ν,a,c,rfl,s,hdk,hk⟩;exact q H' s
def jy:Aa ["ups_of","ups","seen","up"] ["ups_of"] (AL Sx):=by nofun
def Rx{us:LS}{i:Nat}{v:V}(h:(us.map V.str)[i]?≈v):∃ x,us[i]?≈x/\v=.str x:=by
 rw[Ys]at h;obtain⟨x,hx,e⟩:=E3.mp h;exact⟨x,hx,e.symm⟩
def qz{us:LS}{i:Nat}{x:Str}(nd:us.Nodup)(h:us[i]?≈x):(Sum.inr x:Key)∉(us.take i).map λy=>(Sum.inr y:Key):=by
 intro m;obtain⟨y,hy,e⟩:=Yg.mp m;have e:y=x:=by injection e
 subst e;obtain⟨j,hj,ej⟩:=Tt.mp hy;rw[Yv]at hj;rw[List.getElem_take]at ej;have a:us[j]?≈y:=by rw[Yi 0.0,ej]
 have:=O5 nd a h;omega
def t8(F:Def K mg "check_ups" Sx ["ups_of"] f fd):⋯ 1 f fd ["ups_of"] XS:=by
 nomatch F.fn.ok jy
 ·obtain⟨d,o,ρ,ν,rfl,_⟩:=h;rfl
 ·obtain⟨d,o,ρ,ν,rfl,bk,g,q⟩:=h;have nd:=jy.nd;have hu:=Es hr
  ac_nf
  refine⟨_,AF (Bm Yx rfl (xM 0.9) (gE 1 nd)
    (pS (sE 2 nd J1)
    (AF (Bm Yx rfl (Gk 1.5) (gE 3 nd)
     (pS (Ag (Ik (Ww hu (pv 3) 0.9)) Bj Af)
     (pS (Ag (Ik (Mu hu (pv 3) 1.6)) Bj Af)
     (AF (ID hu 1.6 (pv 3) F4 rfl)))))))),?_⟩
  exists let b:=AE _ a;let c:=AE _ b;let e:=CM _ _ c;let f:=AE _ e;CM _ _ f _ _ _
  let Fw:NW:=λi σ H'=>∃(a b c:OV),σ=[↥(.ref d),a,b,c]/\AA H H';refine⟨Z,d,o,ν,Y,bk.at_,CG rG Fw ⟨none,none,none,Y,AA.refl H⟩ (λi σ H' _ h0=>by obtain⟨_,_,_,_,s⟩:=h0;exact s _ _ bk.at_) ?_ ?_⟩
  ·rintro i v σ H' hi ⟨a,b,c,rfl,s⟩;rw[Ys]at hi;obtain⟨p,hp,e⟩:=E3.mp hi;obtain⟨r,Av,hk,t,ht,htup⟩:=Bi bk.ups hp;have As:r∈ρ:=Yd Av;subst e;show Cz 1 p.2 _ _ _;rw[ht];intro sd hsd;have s1:AA H (upd H' sd (.dK [])):=λb o e=>by rw[AD (AK (s _ _ e) hsd)];exact s _ _ e
   have t1:(upd H' sd (.dK [])) t≈(.tup (r.2.map V.str)):=s1 _ _ htup;let Iv3:NW:=λj σ H2=>∃(Dm:KL) (c:OV),σ=[↥(.ref d),↥(.ref t),↥(.ref sd),c]/\AA H H2/\H2 sd≈(.dK Dm)/\Dm.map 0.8=(r.2.take j).map λy=>(Sum.inr y:Key);refine⟨Z,t,Y,⟨_,AG.of t1⟩,CG (Gr (xs:=r.2.map V.str)) Iv3
    ⟨[],Z,s1,uS,by simp⟩ (λj σ H2 _ h0=>by obtain⟨_,_,_,s,_⟩:=h0;exact AG.of (s _ _ htup)) ?_ ?_⟩
   ·rintro j v σ H2 hj ⟨Dm,c,rfl,s2,Lz,Ci⟩;obtain⟨x,hx,rfl⟩:=Rx hj;have xm:x∈r.2:=Yd hx;have known:=g.known r As x xm;refine⟨Z,Z,d,Z,Bl.f (k:=Sum.inr x) (s2 _ _ bk.at_),Z,?_⟩;obtain⟨r2,Bf,bO⟩:=Yg.mp known;obtain⟨t2,JZ,_⟩:=bk.ups.val g.nd Bf;rw[<- bO,JZ,bO];refine AU ?_;have A6:(Sum.inr x:Key)∉Dm.map 0.8:=by rw[Ci];exact qz (g.upnd r As) hx
    refine⟨Z,Z,sd,Z,Bl.k (k:=Sum.inr x) Lz,Z,?_⟩;rw[Gu A6];refine AU ?_;have hkl:↑Dm=↑(r.2.take j):=by have:=congrArg List.length Ci;simpa using this
    have hjl:↑(r.2.take j)<=8:=by rw[Yv];have:=g.few r As;omega
    have hsH:H sd=none:=s.free hsd;refine⟨Z,Z,sd,Z,EE.k (k:=Sum.inr x) Lz (B0 0.0),_,Z,λb o e=>?_,uS,?_⟩
    ·rw[AD (AK e hsH)];exact s2 _ _ e
    ·rw[Wx A6,Ci,Bu,hx,Br];rfl
   ·rintro σ H2 ⟨Dm,c,rfl,s2,Lz,Ci⟩;exact⟨G,Z,s2⟩
  ·rintro σ H' ⟨a,b,c,rfl,s⟩;exact q H' s
def j4:Aa ["words","others","word"] ["words","others"] (AL NH):=by nofun
def yz(F:Def K mg "first_among" NH ["words","others"] f fd):⋯ 1 f fd ["words","others"] (WK K):=by
 nomatch F.fn.ok j4
 ·obtain⟨a,b,us,left,rfl,_⟩:=h;rfl
 ·obtain⟨a,b,us,left,rfl,ha,hb,q⟩:=h;have nd:=j4.nd
  ac_nf
  refine⟨_,pS (Bm Yx rfl (Gk 0.9) (gE 2 nd) (AF (Ag (An Iz 1.6 1.5 1.8) (AF (AQ 1.6)) Af)))
   (AF (AQ H_)),?_⟩
  exists let b:=_;AE (CM _ _ b) a _ _ _
  let Iv4:NW:=λi σ H'=>H'=H/\(∃ c:OV,σ=[↥(.ref a),↥(.ref b),c])/\(us.take i).find? (λx=>decide (x∈left))=none;refine⟨Z,a,Y,⟨_,ha⟩,CG (Gr (xs:=us.map V.str)) Iv4 ⟨Y,⟨none,Y⟩,by simp⟩ (λi σ H' _ ⟨e,_⟩=>by rw[e];exact ha) ?_ ?_⟩
  ·rintro i v σ H' hi ⟨rfl,⟨c,rfl⟩,hf⟩;obtain⟨x,hx,rfl⟩:=Rx hi;refine⟨Z,Z,b,Z,.inl hb,Y,NA left,Z,?_⟩;show if Bw (.str x) (left.map V.str)=true then _ else _
   rw[Io];have split:us=us.take i++x :: us.drop (i + 1):=by
    have A2:=(Yu.mp hx).1;have e:us[i]=x:=(Yu.mp hx).2;rw[<- e,List.getElem_cons_drop A2,List.take_append_drop]
   refine BG (λh=>?_) (λh=>?_)
   ·have fv:Ju us left=.str x:=by
     unfold Ju;rw[split,List.find?_append,hf,Lb];simp only[h];rfl
    rw[fv]at q;exact⟨Z,q⟩
   ·refine⟨Y,⟨Z⟩,?_⟩;rw[Bu,hx,List.find?_append,hf];have h':decide (x∈left)=false:=by simpa using h
    simp[h']
  ·rintro σ H' ⟨rfl,⟨c,rfl⟩,hf⟩;rw[Ya,Bt]at hf;have fv:Ju us left=.non:=by unfold Ju;rw[hf]
   rw[fv]at q;exact q
def Xt(ρ:RS)(ls:LS):V->Bool
 | .str x=>(Ax ρ x).any λu=>decide (u∈ls)
 | _=>false
def xy(ρ:RS)(ls:LS):((ls.map V.str).filter (Xt ρ ls)).map (λv=>v)=(Graph.kept (Ax ρ) ls).map V.str:=by
 rw[List.map_id',P_];rfl
def yZ(us ls:LS):(!decide (Ju us ls=V.non))=us.any λu=>decide (u∈ls):=by
 unfold Ju;cases e:us.find? λx=>decide (x∈ls)with
 | none =>
  have:∀ x∈us,¬ decide (x∈ls)=true:=List.find?_eq_none.mp e;rw[IK];constructor
  ·intro h;simp at h
  ·intro h;obtain⟨x,hx,h1⟩:=JL.mp h;exact absurd h1 (this x hx)
 | some x =>
  have h1:=List.find?_some e;have h2:=List.mem_of_find?_eq_some e;rw[IK];constructor
  ·intro _;exact JL.mpr ⟨x,h2,h1⟩
  ·intro _;rfl
abbrev jn:LS:=["ups_of","left","kept"]
def Z3:Aa jn ["ups_of"] (AL NC):=by nofun
def vO:(["word","ups_of","left"]:LS).Nodup:=by rfl'
def J3{ρ:RS}{x:Str}(h:x∈ρ.map 0.8):∃ r∈ρ,r.1=x:=by
 obtain⟨r,hr,e⟩:=Yg.mp h;exact⟨r,hr,e⟩
def rd(F:Def K mg "endless" NC ["ups_of"] f fd)(DF:Def K mg "first_among" NH ["words","others"] fF fdF)(T:LM mg):⋯ 2 f fd ["ups_of"] Wz:=by
 have GF:⋯ 1 fF fdF ["words","others"] (WK K):=yz DF
 nomatch F.fn.ok Z3
 ·obtain⟨d,o,ρ,ν,rfl,_⟩:=h;rfl
 ·obtain⟨d,o,ρ,ν,rfl,bk,g,q⟩:=h;have nd:=Z3.nd;have hu:=Es hr
  ac_nf
  refine⟨_,pS (Ez (i:=1) nd rfl 1.3 (C4 (uR rfl) 1.0 T.list P8 (pC 0.9 AB)))
   (AF (O7 Yx (C0 F4)
    (pS (JA (k:=2) ["word"] ["ups_of","left"] [0,1] nd rfl rfl (λ_=>CC (osc:=AL NC) (on:=jn) 0.7 rfl rfl rfl) (Co 1.5) (λC s H fp=>CF (i:=0) vO rfl 1.2 1.3)
     (λC s H fp=>My (Ik (cT (AV DF GF hr (pC (Ip hu 1.5 0.9 0.2) 2.5))))) (λC s H fp=>pv 0))
    (pS (Ag (An BP (A9 F_ 1.0 T.len BX 2.5) (A9 F_ 1.0 T.len BX 2.3) (Aj _)) (AF (AQ 1.6)) Af)
    (AF (Ez (i:=1) nd rfl 1.3 1.6)))))),?_⟩
  exists let b:=AE _ a;let c:=AE _ b;let e:=Ov _ c;AE _ e _ _ _
  have wl:↑(ρ.map 0.8)<=24:=by rw[Ya];exact g.le
  refine⟨Z,d,ν,Y,.inr ⟨o,bk.at_⟩,λl0 Dd=>?_⟩;let EO:NW:=λm σ H'=>∃(ll:δ) (ls:LS) (c:OV),σ=[↥(.ref d),↥(.ref ll),c]/\AA H H'/\H' ll≈(.lst (ls.map V.str))/\(∀ x∈ls,x∈ρ.map 0.8)/\↑ls<=24/\m=↑ls;refine⟨EO,
   ⟨_,l0,ρ.map 0.8,none,Y,λb o e=>by rw[AD (AK e Dd)];exact e,by rw[uS,Ycb bk.ups],λx h=>h,wl,Y⟩,?_⟩
  rintro m σ H' ⟨ll,ls,c,rfl,s1,hll,hsub,RQ,rfl⟩;refine⟨true,Y,?_⟩;let JQ:SW:=λσ' H2=>∃ m',m'<↑ls/\∃(ll:δ) (ls:LS) (c:OV),σ'=[↥(.ref d),↥(.ref ll),c]/\AA H H2/\H2 ll≈(.lst (ls.map V.str))/\(∀ x∈ls,x∈ρ.map 0.8)/\↑ls<=24/\m'=↑ls;refine A4 ⟨JQ,λ_ _ h=>h,?_⟩;refine⟨Z,ll,Y,⟨_,SqL.of hll⟩,Wu (Cq (xs:=ls.map V.str)) (sL (by rw[Ya];omega)) (Xt ρ ls) (λv=>v) (λD ys hD=>SqL.of (by rw[AD (AK hll hD)];exact hll)) ?_ ?_ ?_⟩
  ·intro D ys v R hD hv hR;obtain⟨x,hx,rfl⟩:=Yg.mp hv;obtain⟨r,Av,rfl⟩:=J3 (hsub x hx);obtain⟨t,hvt,ht⟩:=bk.ups.val g.nd Av;have kp:∀ b o,H b≈o->(upd H' D (.lst ys)) b≈o:=λb o e=>by rw[AD (AK (s1 _ _ e) hD)];exact s1 _ _ e
   refine⟨Z,Z,d,Z,(by rw[<- hvt];exact Bl.f (k:=Sum.inr r.1) (kp _ _ bk.at_)),Z,t,ll,r.2,ls,Y,AG.of (kp _ _ ht),SqL.of (by rw[AD (AK hll hD)];exact hll),Z,?_⟩;have e:(!decide (Ju r.2 ls=V.non))=Xt ρ ls (V.str r.1):=by
    rw[yZ];show _=(Ax ρ r.1).any _;rw[Iy g.nd Av]
   rw[e];exact hR
  ·intro D ys v R hD hv _ hR;exact⟨Z,hR⟩
  ·intro D hD;rw[xy];have hDl:(upd H' D (.lst ((Graph.kept (Ax ρ) ls).map V.str))) ll≈(.lst (ls.map V.str)):=by rw[AD (AK hll hD)];exact hll
   have s2:AA H (upd H' D (.lst ((Graph.kept (Ax ρ) ls).map V.str))):=λb o e=>by rw[AD (AK (s1 _ _ e) hD)];exact s1 _ _ e
   refine⟨Z,_,Z,.inl ⟨_,SqL.of uS,Y⟩,Z,_,Z,.inl ⟨_,SqL.of hDl,Y⟩,Y,Z,?_⟩;have kle:=Graph.kept_le (Ax ρ) ls;refine BG (λh=>?_) (λh=>?_)
   ·have h:↑(Graph.kept (Ax ρ) ls)=↑ls:=by
     have:=Je h;injection this with this;rw[Ya,Ya]at this;omega
    obtain⟨rk,hrk⟩:=g.rank;have nil:ls=[]:=Graph.kept_nil (rk:=rk) (λa ha b hb=>by
     obtain⟨r,Av,rfl⟩:=J3 (hsub a ha);rw[Iy g.nd Av]at hb;exact hrk r Av b hb) h
    have kn:Graph.kept (Ax ρ) ls=[]:=by rw[nil];rfl
    refine⟨Z,q D _ s2 ?_⟩;rw[uS,kn];rfl
   ·have h:↑(Graph.kept (Ax ρ) ls)≠↑ls:=λz=>h (Jb (by rw[Ya,Ya,z]));exact⟨Z,_,O,D,_,Z,s2,uS,λx hx=>hsub x (Graph.kept_sub hx),O,Y⟩
def Z1:Aa ["ups_of","left","way","here"] ["ups_of"] (AL Sy):=by nofun
def wW(F:Def K mg "find_ring" Sy ["ups_of"] f fd)(DE:Def K mg "endless" NC ["ups_of"] fE fdE)(DF:Def K mg "first_among" NH ["words","others"] fF fdF)(T:LM mg):⋯ 3 f fd ["ups_of"] Vt:=by
 have GE:⋯ 2 fE fdE ["ups_of"] Wz:=rd DE DF T
 nomatch F.fn.ok Z1
 ·obtain⟨d,o,ρ,ν,rfl,_⟩:=h;rfl
 ·obtain⟨d,o,ρ,ν,rfl,bk,g,q⟩:=h;have nd:=Z1.nd
  ac_nf
  refine⟨_,pS (sE 1 nd (AV DE GE hr (pC 0.9 AB)))
   (pS (Ag (Di (Zip 1.5 (λ_=>rfl))) (AF (AQ H_)) Af) Bj),?_⟩
  exists let b:=AE _ a;AE _ b _ _ _
  refine⟨Z,d,o,ρ,ν,Y,bk,g,λl H' s1 hl=>?_⟩;exact⟨Z,false,.inl ⟨[],SqL.of hl,Y⟩,A4 (q H' s1)⟩
def N5(x:Str):Key:=Sum.inr x
inductive WG(vs:LV)(H:Hp)(Q:VK)(AJ:XK):Prop
 | mk:∀(d:δ) (o:Obj) (ρ:RS) (ν:KL) (x:Str),vs=[.ref d,.str x]->Hv H d o ρ ν->Ak ρ->x∈ρ.map 0.8->(∀ a o' fk H',H a=none->AA H H'->H' a≈(.frz o' (.dK fk))->(∀ y,(Sum.inr y:Key)∈fk.map 0.8↔Graph.Reach (Ax ρ) x y)->Q (.ref a) H')->WG vs H Q AJ
structure Xs(ρ:RS)(x:Str)(fs ws:LS):Prop where
 start:x∈fs
 sub:∀ y∈ws,y∈fs
 known:∀ y∈fs,y∈ρ.map 0.8
 nd:fs.Nodup
 reach:∀ y∈fs,Graph.Reach (Ax ρ) x y
 closed:∀ y∈fs,y∉ws->∀ u∈Ax ρ y,u∈fs
 few:↑ws<=↑fs
def Z4:Aa ["ups_of","word","found","waiting","here","up"] ["ups_of","word"] (AL Sv):=by nofun
def XG{fk:KL}{fs:LS}(h:fk.map 0.8=fs.map N5)(y:Str):(Sum.inr y:Key)∈fk.map 0.8↔y∈fs:=by
 rw[h];constructor
 ·intro m;obtain⟨z,hz,e⟩:=Yg.mp m;have e:z=y:=by
   unfold N5 at e;injection e
  rw[<- e];exact hz
 ·intro m;exact Yg.mpr ⟨y,m,rfl⟩
def Sj{fk:KL}{k:Key}(h:k∈fk.map 0.8):(BE fk k).isSome=true:=by
 cases e:BE fk k with
 | none=>exact absurd h (pV e)
 | some v=>rfl
def yP(F:Def K mg "all_above" Sv ["ups_of","word"] f fd):⋯ 1 f fd ["ups_of","word"] WG:=by
 nomatch F.fn.ok Z4
 ·obtain⟨d,o,ρ,ν,x,rfl,_⟩:=h;rfl
 ·obtain⟨d,o,ρ,ν,x,rfl,bk,g,hx,q⟩:=h;have nd:=Z4.nd;have hu:=Es hr
  ac_nf
  refine⟨_,pS (sE 2 nd (xJ (ym 1.5 F4 wg) rfl rfl 0.6 (by show 1<=15;decide)))
   (pS (sE 3 nd (BH 2.3))
   (pS (O7 Yx (Zip (pv 3) (λ_=>rfl))
    (pS (sE 4 nd (Vl EN PySem.F.slot_list_pop PySem.F.type_list_pop Ve (pv 3)))
    (AF (Bm Yx rfl (Gk (Ip hu 0.9 (pv 4) 0.2)) (gE 5 nd)
     (AF (Ag (Ik (Ww hu (pv 5) 1.6)) (pS (ID hu 1.6 (pv 5) F4 rfl)
      (AF (B8 (DQ EN Ft Fq FR (pv 3) (pC (pv 5) AB))))) Af))))))
   (R0 (AF (AQ 1.6))))),?_⟩
  exists let b:=_;let c:=AE _ b;let e:=By _ c _;let f:=CM _ _ e;let g:=AE _ f;let h:=AE (Ov _ g) a;let i:=AE _ h;AE _ i _ _ _
  intro fa hfa;refine⟨Z,uS,[(Sum.inr x,.bl true)],Y,(by show 1<=15;decide),?_⟩;rw[M1];refine⟨Z,V,λwa hwa=>?_⟩;have fw:fa≠wa:=AK uS hwa;have hwaH:H wa=none:=by
   cases e:H wa with
   | none=>rfl
   | some u=>rw[AD (Yw fw),e]at hwa;cases hwa
  have bound:∀ {fs ws:LS},Xs ρ x fs ws->↑fs<=↑ρ:=λ{fs ws} h=>by
   have:=Graph.nodup_le h.nd h.known
   rwa [Ya]at this
  have gle:=g.le;let Lh:NW:=λm σ H'=>∃(fs ws:LS) (fk:KL) (a b:OV),σ=[↥(.ref d),↥(.str x),↥(.ref fa),↥(.ref wa),a,b]/\AA H H'/\H' fa≈(.dK fk)/\fk.map 0.8=fs.map N5/\H' wa≈(.lst 1.1)/\Xs ρ x fs ws/\m + 2 * ↑fs=2 * ↑ρ + ↑ws;refine⟨Lh,
   ⟨2 * ↑ρ - 1,[x],[x],[(Sum.inr x,.bl true)],none,none,Y,λb o e=>by rw[AD (AK e hwaH),AD (AK e hfa)];exact e,by rw[AD fw];exact uS,Y,uS,
    ⟨by simp,λy h=>h,λy h=>by rw[Yc.mp h];exact hx,by simp,λy h=>by rw[Yc.mp h];exact .refl x,λy h n=>absurd h n,Ye _⟩,by have:=g.ne;simp;omega⟩,?_⟩
  rintro m σ H' ⟨fs,ws,fk,a,b,rfl,s1,hf,hk,hw,go,hm⟩;have flen:=bound go;refine⟨Z,_,.inl ⟨_,SqL.of hw,Y⟩,?_⟩;refine BG (λB3=>?_) (λB3=>?_)
  ·-- here=waiting.pop()
   have wne:ws≠[]:=by
    intro z;rw[z]at B3;cases B3
   have hpos:0<↑ws:=LY.mpr wne;have split:ws=ws.dropLast++[ws.getLast wne]:=(List.dropLast_concat_getLast wne).symm;generalize hhere:ws.getLast wne=here at split;have As:here∈ws:=by rw[split];simp
   have hfs:here∈fs:=go.sub here As;obtain⟨r,Av,er⟩:=J3 (go.known here hfs);obtain⟨t,hvt,ht⟩:=bk.ups.val g.nd Av;have last:1.1[↑1.1 - 1]?≈(V.str here):=by
    rw[Ys,Ya];have:ws[↑ws - 1]?≈here:=by
     rw[<- hhere,List.getLast_eq_getElem,Yi 0.0]
    rw[this];rfl
   let QQ:SW:=λσ' H2=>∃ m',m'<m/\∃(fs ws:LS) (fk:KL) (a b:OV),σ'=[↥(.ref d),↥(.str x),↥(.ref fa),↥(.ref wa),a,b]/\AA H H2/\H2 fa≈(.dK fk)/\fk.map 0.8=fs.map N5/\H2 wa≈(.lst 1.1)/\Xs ρ x fs ws/\m' + 2 * ↑fs=2 * ↑ρ + ↑ws;refine⟨QQ,λ_ _ h=>h,?_⟩;refine⟨Z,.inl ⟨Y,_,SqL.of hw⟩,wa,_,Z,Y,hw,last,?_⟩;have s2:AA H (upd H' wa (.lst (ws.map V.str).dropLast)):=λb o e=>by rw[AD (AK e hwaH)];exact s1 _ _ e
   refine⟨Z,Z,d,Z,(by rw[<- hvt,er];exact Bl.f (k:=Sum.inr here) (s2 _ _ bk.at_)),t,Y,⟨_,AG.of (s2 _ _ ht)⟩,?_⟩;have uo:Ax ρ here=r.2:=by rw[<- er];exact Iy g.nd Av
   refine CG (Gr (xs:=r.2.map V.str)) (λj σ H2=>∃(B7 FY:LS) (Dv:KL) (b:OV),σ=[↥(.ref d),↥(.str x),↥(.ref fa),↥(.ref wa),↥(.str here),b]/\AA H H2/\H2 fa≈(.dK Dv)/\Dv.map 0.8=B7.map N5/\H2 wa≈(.lst (FY.map V.str)) /\
    (∀ y∈fs,y∈B7)/\(∀ y∈ws.dropLast,y∈FY)/\(∀ y∈FY,y∈B7)/\(∀ y∈B7,y∈ρ.map 0.8)/\B7.Nodup/\(∀ y∈B7,Graph.Reach (Ax ρ) x y)/\(∀ y∈B7,y∈fs\/y∈FY)/\(∀ u∈r.2.take j,u∈B7)/\↑FY + 2 * ↑fs + ↑B7<=↑ws.dropLast + 2 * ↑B7 + ↑fs)
    ⟨fs,ws.dropLast,fk,Z,s2,by rw[AD fw];exact hf,hk,by rw[uS,List.map_dropLast],λy h=>h,λy h=>h,λy h=>go.sub y ((List.dropLast_sublist ws).subset h),go.known,go.nd,go.reach,λy h=>.inl h,λu h=>by simp at h,O⟩ (λj σ H2 _ h0=>by obtain⟨_,_,_,_,_,s,_⟩:=h0;exact AG.of (s _ _ ht)) ?_ ?_
   ·rintro j v σ H2 hj ⟨B7,FY,Dv,b,rfl,s3,OD,Ku,HX,c1,c2,c3,c4,c5,c6,c7,c8,c9⟩;obtain⟨u,CK,rfl⟩:=Rx hj;have um:u∈r.2:=Yd CK;have oS:↑B7<=↑ρ:=by
     have:=Graph.nodup_le c5 c4
     rwa [Ya]at this
    have kl:↑Dv=↑B7:=by have:=congrArg List.length Ku;simpa using this
    refine⟨Z,Z,fa,Z,Bl.k (k:=Sum.inr u) OD,Z,?_⟩;have dl:↑ws.dropLast=↑ws - 1:=List.length_dropLast;have gf:=go.few;by_cases nin:u∉B7
    ·have nk:(Sum.inr u:Key)∉Dv.map 0.8:=λz=>nin ((XG Ku u).mp z);have UX:↑FY<=↑ρ * 3:=by omega
     rw[Gu nk];refine A4 ?_;refine⟨Z,Z,fa,Z,EE.k (k:=Sum.inr u) OD (B0 0.0),?_⟩;have aS:(upd H2 fa (.dK (Au Dv (Sum.inr u) (.bl true)))) wa≈(.lst (FY.map V.str)):=by rw[AD (Yw fw)];exact HX
     refine⟨Z,.inl ⟨Y,_,SqL.of aS⟩,Z,wa,_,Z,Y,aS,B0 (by rw[Ya];omega),?_⟩;refine⟨B7++[u],FY++[u],Au Dv (Sum.inr u) (.bl true),Z,λb o e=>by rw[AD (AK e hwaH),AD (AK e hfa)];exact s3 _ _ e,by rw[AD fw];exact uS,?_,by rw[uS,Br];rfl,λy h=>Gy _ (c1 y h),λy h=>Gy _ (c2 y h),λy h=>?_,λy h=>?_,?_,λy h=>?_,λy h=>?_,λy h=>?_,?_⟩
     ·rw[Wx nk,Ku,Br];rfl
     ·rcases Ym.mp h with h | h
      ·exact Gy _ (c3 y h)
      ·exact E1 _ h
     ·rcases Ym.mp h with h | h
      ·exact c4 y h
      ·rw[Yc.mp h];exact g.known r Av u um
     ·rw[Ld];exact⟨c5,by simp,λa ha b hb e=>nin (by rw[<- Yc.mp hb,<- e];exact ha)⟩
     ·rcases Ym.mp h with h | h
      ·exact c6 y h
      ·rw[Yc.mp h];exact(go.reach here hfs).snoc (by rw[uo];exact um)
     ·rcases Ym.mp h with h | h
      ·rcases c7 y h with h | h
       ·exact .inl h
       ·exact .inr (Gy _ h)
      ·exact .inr (E1 _ h)
     ·rw[Bu,CK]at h
      rcases Ym.mp h with h | h
      ·exact Gy _ (c8 y h)
      ·have:y=u:=by simpa using h
       rw[this];exact E1 _ 0.6
     ·rw[Yo,Yo];simp only[List.length_singleton];omega
    ·have yin:u∈B7:=Tw nin;rw[Sj ((XG Ku u).mpr yin)];refine AU ?_;refine⟨B7,FY,Dv,Z,s3,OD,Ku,HX,c1,c2,c3,c4,c5,c6,c7,λy h=>?_,c9⟩;rw[Bu,CK]at h
     rcases Ym.mp h with h | h
     ·exact c8 y h
     ·have:y=u:=by simpa using h
      rw[this];exact yin
   ·rintro σ H2 ⟨B7,FY,Dv,b,rfl,s3,OD,Ku,HX,c1,c2,c3,c4,c5,c6,c7,c8,c9⟩;rw[Ya,Bt]at c8;have oS:↑B7<=↑ρ:=by
     have:=Graph.nodup_le c5 c4
     rwa [Ya]at this
    have dl:↑ws.dropLast=↑ws - 1:=List.length_dropLast;have fle:↑fs<=↑B7:=Graph.nodup_le go.nd c1;have gf:=go.few;refine⟨2 * ↑ρ + ↑FY - 2 * ↑B7,O,B7,FY,Dv,_,Z,s3,OD,Ku,HX,⟨c1 x go.start,c3,c4,c5,c6,λy hy hn u CK=>?_,O⟩,O⟩
    rcases c7 y hy with Fc | Fc
    ·by_cases yh:y=here
     ·rw[yh,uo]at CK;exact c8 u CK
     ·have nw:y∉ws:=λz=>by
       rw[split]at z
       rcases Ym.mp z with z | z
       ·exact hn (c2 y z)
       ·exact yh (Yc.mp z)
      exact c1 u (go.closed y Fc nw u CK)
    ·exact absurd Fc hn
  ·have wnil:ws=[]:=by
    cases ws with
    | nil=>rfl
    | cons y r=>exact absurd rfl B3
   refine⟨fa,fk,hf,λo'=>⟨Z,q fa o' fk _ hfa (λb o e=>by rw[AD (AK e hfa)];exact s1 _ _ e) uS λy=>?_⟩⟩;rw[XG hk y];constructor
   ·exact λh=>go.reach y h
   ·intro h;refine Graph.closed_reach (S:=λy=>y∈fs) (λy hy u CK=>go.closed y hy (by rw[wnil];simp) u CK) h go.start
def oR:¬ (("ups_of":Str)="above_of"):=by rfl'
def FH(d a:δ):List (Str×V):=A0 "above_of" (.ref a) (A0 "ups_of" (.ref d) [])
def Vb(d a:δ):(FH d a).lookup ("ups_of":Str)≈(.ref d):=by
 unfold FH;rw[CD,if_neg oR,CD,if_pos rfl]
def ud(d a:δ):(FH d a).lookup ("above_of":Str)≈(.ref a):=by
 unfold FH;rw[CD,if_pos rfl]
def Mw(d a:δ){m:Str}(h1:¬ m="above_of")(h2:¬ m="ups_of"):(FH d a).lookup m=none:=by
 unfold FH;rw[CD,if_neg h1,CD,if_neg h2];rfl
def Gh(H:Hp)(all ρ:RS)(AW:KL):Prop :=
 Paired (λr (p:Key×V)=>p.1=Sum.inr r.1/\∃ t o' fk,p.2=.ref t/\H t≈(.frz o' (.dK fk))/\∀ y,(Sum.inr y:Key)∈fk.map 0.8↔Graph.Reach (Ax all) r.1 y) ρ AW
def Gh.mono{H H':Hp}{all ρ:RS}{AW:KL}(h:Gh H all ρ AW)(s:∀ b o' fk,H b≈(.frz o' (.dK fk))->H' b≈(.frz o' (.dK fk))):Gh H' all ρ AW :=
 Paired.mapP h λ_ _ z=>⟨z.1,let⟨t,o',fk,e,x,y⟩:=z.2;⟨t,o',fk,e,s _ _ _ x,y⟩⟩
theorem Gh.keys:∀ {H:Hp}{all ρ:RS}{ν:KL},Gh H all ρ ν->ν.map 0.8=ρ.map λr=>(Sum.inr r.1:Key)
 | _,_,_,_,.nil=>rfl
 | _,_,_,_,.cons r t=>by rw[Yy,Yy,r.1,Gh.keys t]
theorem Gh.val:∀ {H:Hp}{all ρ:RS}{ν:KL},Gh H all ρ ν->(ρ.map 0.8).Nodup->∀ {r:Str×LS},r∈ρ->∃ t o' fk,BE ν (Sum.inr r.1)≈(.ref t)/\H t≈(.frz o' (.dK fk))/\∀ y,(Sum.inr y:Key)∈fk.map 0.8↔Graph.Reach (Ax all) r.1 y
 | _,_,_,_,.nil,_,r,h=>nomatch h
 | _,_,q :: rs,p :: ps,.cons z t,nd,r,h=>by
  have GY:(q.1 :: rs.map 0.8).Nodup:=nd;obtain⟨n1,n2⟩:=FT.mp GY;obtain⟨z1,u,o',fk,z2,z3,z4⟩:=z
  rcases Yk.mp h with e | h
  ·subst e;exact⟨u,o',fk,by rw[Ey z1,z2],z3,z4⟩
  ·have ne:¬ p.1=(Sum.inr r.1:Key):=λe=>n1 (by
    rw[z1]at e;have e':q.1=r.1:=by injection e
    rw[e'];exact Yg.mpr ⟨r,h,Y⟩)
   obtain⟨u',Ki,Dv,h1,h2⟩:=Gh.val t n2 h;exact⟨u',Ki,Dv,by rw[Ex ne];exact h1,h2⟩
structure Bd(C:δ)(H:Hp)(p:δ)(ρ:RS):Prop where
 ex:∃(dx d a:δ) (o oa:Obj) (ν AW:KL),H p≈(.ins C dx (FH d a))/\Hv H d o ρ ν/\H a≈(.frz oa (.dK AW))/\Gh H ρ ρ AW
theorem Bd.mono{C:δ}{H H':Hp}{p:δ}{ρ:RS}(h:Bd C H p ρ)(s:AA H H'):Bd C H' p ρ:=by
 obtain⟨dx,d,a,o,oa,ν,AW,h1,h2,h3,h4⟩:=h.ex;exact⟨dx,d,a,o,oa,ν,AW,s _ _ h1,h2.mono s,s _ _ h3,h4.mono λ_ _ _ e=>s _ _ e⟩
structure EC(K:Fg)(C:δ):Prop where
 cl:Eh K C
 nU:EK K C "ups_of"
 nA:EK K C "above_of"
structure Cw(K:Fg)(C:δ)(m qual:Str)(st:Stmt)(ps:LS)(f:δ)(fd:FuncData):Prop where
 fn:BR K m qual st f fd
 b:Bz K fd ps []
 me:Pq K C m f
inductive Mo(K:Fg)(C:δ)(vs:LV)(H:Hp)(Q:VK)(AJ:XK):Prop
 | mk:∀(p dx l:δ) (ρ:RS),vs=[.ref p,.ref l]->H p≈(.ins C dx [])->Jr K H l ρ->Ak ρ->(∀ H',Bd C H' p ρ->(∀ b o,b≠p->H b≈o->H' b≈o)->Q .non H')->Mo K C vs H Q AJ
inductive Rv(C:δ)(vs:LV)(H:Hp)(Q:VK)(AJ:XK):Prop
 | mk:∀(p:δ) (ρ:RS) (x:Str),vs=[.ref p,.str x]->Bd C H p ρ->Ak ρ->x∈ρ.map 0.8->Q .non H->Rv C vs H Q AJ
inductive Oe(C:δ)(vs:LV)(H:Hp)(Q:VK)(AJ:XK):Prop
 | mk:∀(p:δ) (ρ:RS) (x:Str),vs=[.ref p,.str x]->Bd C H p ρ->Ak ρ->Q (.bl (decide (x∈ρ.map 0.8))) H->Oe C vs H Q AJ
def Bn(ρ:RS)(x y:Str):Bool:=@decide (Graph.Reach (Ax ρ) x y) (Classical.propDecidable _)
def cn(C:δ):Sp:=λvs H Q _=>∃(p:δ) (ρ:RS) (x y:Str),vs=[.ref p,.str x,.str y]/\Bd C H p ρ/\Ak ρ/\x∈ρ.map 0.8/\y∈ρ.map 0.8/\Q (.bl (Bn ρ x y)) H
def Z2:Aa ["self","rows","ups_of","word","ups","ring","above_of"] ["self","rows"] (AL Xn):=by nofun
def wQ(F:BR K "__init__" "Kinds.__init__" Xn f fd)(T:LM mg)(TC:EC K C)(D1:Def K mg "check_rows" TM ["rows"] f1 d1)(D2:Def K mg "is_word" I_ ["text"] f2 d2)
  (D3:Def K mg "check_ups" Sx ["ups_of"] f3 d3) (D4:Def K mg "find_ring" Sy ["ups_of"] f4 d4) (D5:Def K mg "endless" NC ["ups_of"] f5 d5) (D6:Def K mg "first_among" NH ["words","others"] f6 d6) (D7:Def K mg "all_above" Sv ["ups_of","word"] f7 d7):
  ⋯ 4 f fd ["self","rows"] (Mo K C):=by
 have G1:⋯ 2 f1 d1 ["rows"] (Xc K):=uP D1 D2 T;have G3:⋯ 1 f3 d3 ["ups_of"] XS:=t8 D3;have G4:⋯ 3 f4 d4 ["ups_of"] Vt:=wW D4 D5 D6 T;have G7:⋯ 1 f7 d7 ["ups_of","word"] WG:=yP D7
 nomatch F.ok Z2
 ·obtain⟨p,dx,l,ρ,rfl,_⟩:=h;rfl
 ·obtain⟨p,dx,l,ρ,rfl,hp,hR,g,q⟩:=h;have nd:=Z2.nd;have hu:=Es hr;have Aq:Ab 1 _:=hr.mono 0.1;have Bf:Ab 2 _:=hr.mono 0.1
  ac_nf
  refine⟨_,pS (B8 (AV D1 G1 Bf 2.3))
   (pS (sE 2 nd J1)
   (pS (Bm Yx rfl (K9 1.5) (DU rfl (gC (gE 3 nd) (gC (gE 4 nd) DX)))
    (AF (ID hu 1.6 (pv 3) (C4 LI 1.0 T.tuple JM (pC (pv 4) AB)) rfl)))
   (R0 (pS (B8 (AV D3 G3 Aq 2.5))
   (pS (sE 5 nd (AV D4 G4 hr 2.5))
   (pS (Ag (Ik (cT (pv 5))) Bj Af)
   (pS (sE 6 nd J1)
   (pS (Bm Yx rfl (xK 1.6) (gE 3 nd) (AF (ID hu (pv 6) (pv 3) (AV D7 G7 Aq (pC 1.6 (pC (pv 3) AB))) rfl)))
   (R0 (pS (FO 0.9 1.6 rfl) (AF (FO 0.9 (pv 6) rfl)))))))))))),?_⟩
  exists let b:=_;let c:=AE (CM _ _ b) a;let e:=AE _ c;AE _ e _ _ _
  refine⟨Z,l,ρ,Y,hR,g,λH1 s1=>?_⟩;intro d hd;have s2:AA H (upd H1 d (.dK [])):=λb o e=>by rw[AD (AK (s1 _ _ e) hd)];exact s1 _ _ e
  obtain⟨b,vs,hl,hpr⟩:=hR;let Be:NW:=λi σ H'=>∃(ν:KL) (a c:OV),σ=[↥(.ref p),↥(.ref l),↥(.ref d),a,c,none,none]/\AA H H'/\H' d≈(.dK ν)/\Dx H' (ρ.take i) ν;refine⟨Z,b,l,vs,Y,hl.mono s2,CG LD Be
   ⟨[],none,none,Y,s2,uS,by rw[Ee];exact .nil⟩ (λi σ H' _ h0=>by obtain⟨_,_,_,_,s,_⟩:=h0;exact hl.mono s) ?_ ?_⟩
  ·rintro i v σ H' hi ⟨ν,a,c,rfl,s3,hdk,hU⟩;obtain⟨r,Av,t,u,rfl,ht,hug⟩:=Bi hpr hi;have dH:H d=none:=s1.free hd;refine⟨t,Z,s3.tup ht,Y,_,Z,_,Z,Y,?_⟩;have A6:(Sum.inr r.1:Key)∉ν.map 0.8:=by rw[hU.keys];exact PR g.nd Av
   have hil:↑(ρ.take i)<=24:=by rw[Yv];have:=g.le;omega
   have hkl:↑ν=↑(ρ.take i):=(Yp hU).symm;have fin:∀(t2:δ) (H2:Hp),AA H' H2->H2 t2≈(.tup (r.2.map V.str))->∃(Dm:KL) (a c:OV),[↥(V.ref p),↥(V.ref l),↥(V.ref d),↥(V.str r.1),↥(V.ref u),none,none]=[↥(V.ref p),↥(V.ref l),↥(V.ref d),a,c,none,none]/\AA H (upd H2 d (.dK (Au ν (Sum.inr r.1) (.ref t2)))) /\
     (upd H2 d (.dK (Au ν (Sum.inr r.1) (.ref t2)))) d≈(.dK Dm)/\Dx (upd H2 d (.dK (Au ν (Sum.inr r.1) (.ref t2)))) (ρ.take (i + 1)) Dm:=λt2 H2 s4 AS=>by
    have d2:=s4 _ _ hdk;have tk:∀ b xs,H2 b≈(.tup xs)->(upd H2 d (.dK (Au ν (Sum.inr r.1) (.ref t2)))) b≈(.tup xs):=λb xs e=>by
     rw[AD (λz=>by rw[z,d2]at e;cases e)];exact e
    refine⟨G,Z,λb o e=>by rw[AD (AK e dH)];exact s4 _ _ (s3 _ _ e),uS,?_⟩;have sn:Dx (upd H2 d (.dK (Au ν (Sum.inr r.1) (.ref t2)))) (ρ.take i++[r]) (ν++[(Sum.inr r.1,V.ref t2)]):=CH ((hU.mono λb xs e=>s4 _ _ e).mono tk) ⟨Y,t2,Y,tk t2 _ AS⟩;rw[<- LC _ (Gu A6)]at sn;rw[Bu,Av];exact sn
   rcases hug with hug | hug
   ·refine⟨Z,u,Z,.inr ⟨AG.of (s3 _ _ hug),Z,Z,d,Z,EE.k (k:=Sum.inr r.1) hdk (B0 0.0),fin u H' (AA.refl _) (s3 _ _ hug)⟩⟩
   ·refine⟨Z,u,Z,.inl ⟨s3.seq hug,λt2 AS=>?_⟩⟩;have s4:AA H' (upd H' t2 (.tup (r.2.map V.str))):=λb o e=>by rw[AD (AK e AS)];exact e
    exact⟨Z,Z,d,Z,EE.k (k:=Sum.inr r.1) (s4 _ _ hdk) (B0 0.0),fin t2 _ s4 uS⟩
  ·rintro σ H2 ⟨ν,a,c,rfl,s3,hdk,hU⟩;have hvl:=↑hpr;rw[<- hvl,Bt]at hU;refine⟨d,ν,hdk,λo=>?_⟩;have dH:H d=none:=s1.free hd;have s4:AA H (upd H2 d (.frz o (.dK ν))):=λb u e=>by rw[AD (AK e dH)];exact s3 _ _ e
   have bk:Hv (upd H2 d (.frz o (.dK ν))) d o ρ ν:=⟨uS,hU.mono λb xs e=>by rw[AD (λz=>by rw[z,hdk]at e;cases e)];exact e⟩;refine⟨Z,d,o,ρ,ν,Y,bk,g,λH5 s5=>?_⟩;refine⟨Z,d,o,ρ,ν,Y,bk.mono s5,g,λH6 s6=>?_⟩;refine⟨Z,Z,AU ?_⟩;have Ce:=s5.trans s6;have RX:=bk.mono Ce;have s7:AA H H6:=s4.trans Ce;intro aa CU;have s8:AA H (upd H6 aa (.dK [])):=λb u e=>by rw[AD (AK (s7 _ _ e) CU)];exact s7 _ _ e
   have ML:AA H6 (upd H6 aa (.dK [])):=λb u e=>by rw[AD (AK e CU)];exact e
   let Fw:NW:=λi σ H'=>∃(AW:KL) (a b c:OV),σ=[↥(.ref p),↥(.ref l),↥(.ref d),a,b,c,↥(.ref aa)]/\AA H H'/\Hv H' d o ρ ν/\H' aa≈(.dK AW)/\Gh H' ρ (ρ.take i) AW;refine⟨Z,d,o,ν,Y,(RX.mono ML).at_,CG rF Fw
    ⟨[],G,Z,s8,RX.mono ML,uS,by rw[Ee];exact .nil⟩ (λi σ H' _ h0=>by obtain⟨_,_,_,_,_,_,b,_⟩:=h0;exact b.at_) ?_ ?_⟩
   ·rintro i v σ H' hi ⟨AW,a,b,c,rfl,s9,Hj,E4,hA⟩;rw[Ys]at hi;obtain⟨pr,ZU,e⟩:=E3.mp hi;obtain⟨r,Av,hk,_⟩:=Bi Hj.ups ZU;have As:r∈ρ:=Yd Av;have ev:v=.str r.1:=by rw[<- e,hk];rfl
    subst ev;have aaH:H aa=none:=s7.free CU;refine⟨Z,Z,d,o,ρ,ν,r.1,Y,Hj,g,Yg.mpr ⟨r,As,Y⟩,λx o' fk Aw hx B2 hxk hreach=>?_⟩;have A6:(Sum.inr r.1:Key)∉AW.map 0.8:=by rw[hA.keys];exact PR g.nd Av
    have hil:↑(ρ.take i)<=24:=by rw[Yv];have:=g.le;omega
    have hkl:↑AW=↑(ρ.take i):=(Yp hA).symm;have MA:=B2 _ _ E4;refine⟨Z,Z,aa,Z,EE.k (k:=Sum.inr r.1) MA (B0 0.0),?_⟩;have kp:∀ b u,b≠aa->Aw b≈u->(upd Aw aa (.dK (Au AW (Sum.inr r.1) (.ref x)))) b≈u:=λb u hb e=>by rw[AD hb];exact e
    refine⟨G,_,Z,λb u e=>kp b u (AK e aaH) (B2 _ _ (s9 _ _ e)),⟨kp _ _ (λz=>?_) (B2 _ _ Hj.at_),(Hj.ups.mono λb xs e=>B2 _ _ e).mono λb xs e=>kp _ _ (λz=>by rw[z,MA]at e;cases e) e⟩,uS,?_⟩
    ·have:=Hj.at_;rw[z,E4]at this;cases this
    ·rw[LC _ (Gu A6),Bu,Av];have fz:∀ b Ki Dv,Aw b≈(.frz Ki (.dK Dv))->(upd Aw aa (.dK (AW++[(Sum.inr r.1,V.ref x)]))) b≈(.frz Ki (.dK Dv)):=λb Ki Dv e=>by rw[AD (λz=>by rw[z,MA]at e;cases e)];exact e
     exact CH ((hA.mono λb Ki Dv e=>B2 _ _ e).mono fz) ⟨Y,x,o',fk,Y,fz _ _ _ hxk,hreach⟩
   ·rintro σ H' ⟨AW,a,b,c,rfl,s9,Hj,E4,hA⟩;have hkv:↑ν=↑ρ:=(Yp Hj.ups).symm;rw[Ya,hkv,Bt]at hA;have aaH:H aa=none:=s7.free CU;refine⟨aa,AW,E4,λoa=>?_⟩;have F3:H' p≈(.ins C dx []):=s9 _ _ hp;have pa:p≠aa:=AK hp aaH;have pd:p≠d:=AK hp dH;have da:d≠aa:=λz=>by have:=Hj.at_;rw[z,E4]at this;cases this
    refine⟨Z,Z,p,C,dx,[],Y,(by rw[AD pa];exact F3),TC.cl,TC.nU,(by show 0<1000;decide),Z,Z,p,C,dx,Z,uS,TC.cl,TC.nA,(by show 1<1000;decide),?_⟩;rw[M1];have kp:∀ b u,b≠p->b≠aa->H' b≈u->(upd (upd H' aa (.frz oa (.dK AW))) p (.ins C dx (FH d aa))) b≈u:=λb u h1 h2 e=>by rw[AD h1,AD h2];exact e
    refine q _ ⟨dx,d,aa,o,oa,ν,AW,uS,⟨kp _ _ (Yw pd) da Hj.at_,Hj.ups.mono λb xs e=>kp _ _ (λz=>by rw[z,F3]at e;cases e) (λz=>by rw[z,E4]at e;cases e) e⟩,by rw[AD (Yw pa)];exact uS,hA.mono λb Ki Dv e=>kp _ _ (λz=>by rw[z,F3]at e;cases e) (λz=>by rw[z,E4]at e;cases e) e⟩ λb u hb e=>kp _ _ hb (AK e aaH) (s9 _ _ e)
def zk:Aa ["self","word"] ["self","word"] (AL Sr):=by nofun
def Vi(F:BR K "has" "Kinds.has" Sr f fd)(TC:EC K C):⋯ 1 f fd ["self","word"] (Oe C):=by
 nomatch F.ok zk
 ·obtain⟨p,ρ,x,rfl,_⟩:=h;rfl
 ·obtain⟨p,ρ,x,rfl,⟨dx,d,a,o,oa,ν,AW,h1,h2,h3,h4⟩,g,q⟩:=h;have hu:=Es hr
  ac_nf
  refine⟨_,AF (AQ (jQ (Mu hu 1.5 (Cm 0.9 rfl)))),?_⟩;refine⟨Z,Z,p,C,dx,_,Z,h1,TC.cl,TC.nU,Vb _ _,d,Z,Bl.f (k:=Sum.inr x) h2.at_,?_⟩;have e:(BE ν (Sum.inr x:Key)).isSome=decide (x∈ρ.map 0.8):=by
   have hk:(Sum.inr x:Key)∈ν.map 0.8↔x∈ρ.map 0.8:=by
    rw[h2.ups.keys];constructor
    ·intro m;obtain⟨r,Av,e⟩:=Yg.mp m;exact Yg.mpr ⟨r,Av,by injection e⟩
    ·intro m;obtain⟨r,Av,e⟩:=Yg.mp m;exact Yg.mpr ⟨r,Av,by rw[e]⟩
   by_cases z:x∈ρ.map 0.8
   ·rw[Sj (hk.mpr z),Jb z]
   ·rw[Gu λk=>z (hk.mp k),Jc z];rfl
  rw[e];exact q
abbrev Ho(K:Fg)(C fH:δ)(fdH:FuncData):Prop:=Cw K C "has" "Kinds.has" Sr ["self","word"] fH fdH
def zh:Aa ["self","word"] ["self","word"] (AL Pe):=by nofun
def Vh(d a:δ):(FH d a).lookup ("has":Str)=none:=Mw d a 0.7 0.7
def dY(F:BR K "check" "Kinds.check" Pe f fd)(TC:EC K C)(MH:Ho K C fH fdH):⋯ 2 f fd ["self","word"] (Rv C):=by
 have GH:⋯ 1 fH fdH ["self","word"] (Oe C):=Vi MH.fn TC
 nomatch F.ok zh
 ·obtain⟨p,ρ,x,rfl,_⟩:=h;rfl
 ·obtain⟨p,ρ,x,rfl,kd,g,hx,q⟩:=h;obtain⟨dx,d,a,o,oa,ν,AW,h1,h2,h3,h4⟩:=kd.ex
  ac_nf
  refine⟨_,AF (Ag (Di (C0 (EL 0.9 TC.cl MH.me GH hr MH.b .nil BF 2.3))) Bj Af),?_⟩;refine⟨Z,p,dx,Z,h1,Vh _ _,Z,p,ρ,x,Y,kd,g,Z,?_⟩;rw[Jb hx];exact AU q
def R7(d a:δ):(FH d a).lookup ("check":Str)=none:=Mw d a 0.7 0.7
def z_:Aa ["self","one","other"] ["self","one","other"] (AL S2):=by nofun
def zA(F:BR K "under" "Kinds.under" S2 f fd)(TC:EC K C)(MC:Cw K C "check" "Kinds.check" Pe ["self","word"] fC fdC)(MH:Ho K C fH fdH):⋯ 3 f fd ["self","one","other"] (cn C):=by
 have GC:⋯ 2 fC fdC ["self","word"] (Rv C):=dY MC.fn TC MH
 nomatch F.ok z_
 ·obtain⟨p,ρ,x,y,rfl,_⟩:=h;rfl
 ·obtain⟨p,ρ,x,y,rfl,kd,g,hx,hy,q⟩:=h;obtain⟨dx,d,a,o,oa,ν,AW,h1,h2,h3,h4⟩:=kd.ex;have hu:=Es hr
  ac_nf
  refine⟨_,pS (B8 (EL 0.9 TC.cl MC.me GC hr MC.b .nil BF 2.3))
   (pS (B8 (EL 0.9 TC.cl MC.me GC hr MC.b .nil BF 2.5))
   (AF (AQ (jQ (Mu hu 1.6 (Ip hu (Cm 0.9 rfl) 1.5 0.2)))))),?_⟩
  exists let b:=AE _ a;AE _ b _ _ _
  obtain⟨r,Av,er⟩:=J3 hx;obtain⟨t,o',fk,hv,ht,hreach⟩:=h4.val g.nd Av;refine⟨Z,p,dx,Z,h1,R7 _ _,Z,p,ρ,x,Y,kd,g,hx,?_⟩;refine⟨Z,p,dx,Z,h1,R7 _ _,Z,p,ρ,y,Y,kd,g,hy,?_⟩;refine⟨Z,Z,p,C,dx,_,Z,h1,TC.cl,TC.nA,ud _ _,Z,a,Z,(by rw[<- hv,er];exact Bl.f (k:=Sum.inr x) h3),t,Z,Bl.f (k:=Sum.inr y) ht,?_⟩;have e:(BE fk (Sum.inr y:Key)).isSome=Bn ρ x y:=by
   have hh:=hreach y;rw[er]at hh;unfold Bn;by_cases z:Graph.Reach (Ax ρ) x y
   ·rw[Sj (hh.mpr z)];exact(@Jb _ (Classical.propDecidable _) z).symm
   ·rw[Gu λk=>z (hh.mp k)];exact(@Jc _ (Classical.propDecidable _) z).symm
  rw[e];exact q
def yI(d a:δ):(FH d a).lookup ("under":Str)=none:=Mw d a 0.7 0.7
abbrev VW(K:Fg)(C fC:δ)(fdC:FuncData):Prop:=Cw K C "check" "Kinds.check" Pe ["self","word"] fC fdC
abbrev iz(K:Fg)(C fU:δ)(fdU:FuncData):Prop:=Cw K C "under" "Kinds.under" S2 ["self","one","other"] fU fdU
inductive SG(C:δ)(vs:LV)(H:Hp)(Q:VK)(AJ:XK):Prop
 | mk:∀(p:δ) (ρ:RS),vs=[.ref p]->Bd C H p ρ->Ak ρ->(∀ l H',H l=none->AA H H'->FQ H' l ρ->Q (.ref l) H')->SG C vs H Q AJ
inductive Vs(K:Fg)(C:δ)(vs:LV)(H:Hp)(Q:VK)(AJ:XK):Prop
 | mk:∀(p u:δ) (ρ:RS) (x:Str) (us:LS),vs=[.ref p,.str x,.ref u]->Bd C H p ρ->Ak ρ->LO K H u us->Ak (ρ++[(x,us)])->(∀ b H',AA H H'->Bd C H' b (ρ++[(x,us)])->Q (.ref b) H')->Vs K C vs H Q AJ
def CO(ρ:RS)(x y:Str):RS:=ρ.map λr=>if r.1=x then(r.1,r.2++[y])else r
inductive Vu(C:δ)(vs:LV)(H:Hp)(Q:VK)(AJ:XK):Prop
 | mk:∀(p:δ) (ρ:RS) (x y:Str),vs=[.ref p,.str x,.str y]->Bd C H p ρ->Ak ρ->x∈ρ.map 0.8->y∈ρ.map 0.8->Ak (CO ρ x y)->(∀ b H',AA H H'->Bd C H' b (CO ρ x y)->Q (.ref b) H')->Vu C vs H Q AJ
def dR(d a:δ):(FH d a).lookup ("rows":Str)=none:=Mw d a 0.7 0.7
def yG(d a:δ):(FH d a).lookup ("more":Str)=none:=Mw d a 0.7 0.7
def yH(d a:δ):(FH d a).lookup ("tied":Str)=none:=Mw d a 0.7 0.7
def Ih{H:Hp}{l:δ}{o:HO}(hl:H l=none):AA H (upd H l o):=λb o' e=>by rw[AD (AK e hl)];exact e
def Yct(a b:Str):decide (V.str a=V.str b)=decide (a=b):=JK.mpr ⟨λz=>by injection z,λz=>by rw[z]⟩
def z0:Aa ["self"] ["self"] (AL Ph):=by nofun
def gO(F:BR K "rows" "Kinds.rows" Ph f fd)(TC:EC K C)(list:mg "list"=none):⋯ 1 f fd ["self"] (SG C):=by
 nomatch F.ok z0
 ·obtain⟨p,ρ,rfl,_⟩:=h;rfl
 ·obtain⟨p,ρ,rfl,⟨dx,d,a,o,oa,ν,AW,h1,h2,h3,h4⟩,g,q⟩:=h
  ac_nf
  refine⟨_,AF (AQ (tm rfl (Cm 0.9 rfl) 1.0 list)),?_⟩;refine⟨Z,p,C,dx,_,Z,h1,TC.cl,TC.nU,Vb _ _,d,ν,Y,.inr ⟨o,h2.at_⟩,λl H' vs hl s1 hlv hp=>?_⟩;refine q l H' hl s1 ⟨vs,hlv,Sb ?_ λi r v Av hv=>?_⟩
  ·rw[<- ↑hp];exact Yp h2.ups
  ·obtain⟨kv,hk,t,e,ht⟩:=Bi hp hv;obtain⟨r2,Bf,e1,t2,e2,AS⟩:=Bi h2.ups hk;rw[Av]at Bf;cases Bf;refine⟨t,t2,e,?_,s1 _ _ AS⟩;rw[ht,e1,e2];rfl
abbrev mJ:LS:=["self","word","ups","rows"]
def kH:Aa mJ ["self","word","ups"] (AL TH):=by nofun
def wU(F:BR K "more" "Kinds.more" TH f fd)(TC:EC K C)(list:mg "list"=none)(MR:Cw K C "rows" "Kinds.rows" Ph ["self"] fR fdR)(M:Mk K C fI)(mgC:mg "Kinds"≈(.ref C))(bI:Bz K fdI ["self","rows"] [])
  (GI:⋯ 4 fI fdI ["self","rows"] (Mo K C)):⋯ 6 f fd ["self","word","ups"] (Vs K C):=by
 have GR:⋯ 1 fR fdR ["self"] (SG C):=gO MR.fn TC list
 nomatch F.ok kH
 ·obtain⟨p,u,ρ,x,us,rfl,_⟩:=h;rfl
 ·obtain⟨p,u,ρ,x,us,rfl,kd,g,hu,g2,q⟩:=h;obtain⟨dx,d,a,o,oa,ν,AW,h1,_⟩:=kd.ex;have nd:=kH.nd;have Aq:Ab 1 _:=hr.mono 0.1
  ac_nf
  refine⟨_,pS (sE 3 nd (D0 0.9 TC.cl MR.me GR Aq MR.b .nil BF))
   (pS (B8 (DQ EN Ft Fq FR (pv 3) (pC (A5 (pC 1.5 2.5)) AB)))
   (AF (AQ (Ir M GI hr rfl mgC bI .nil BF (pC (pv 3) AB))))),?_⟩
  exists let b:=AE _ a;AE _ b _ _ _
  refine⟨Z,p,dx,Z,h1,dR _ _,p,ρ,Y,kd,g,λl H1 hl s1 hR=>?_⟩;obtain⟨vs,hvs,hpr⟩:=hR;have gle:=g.le;refine⟨Z,.inl ⟨Y,_,SqL.of hvs⟩,Z,Z,W,λt ht=>?_⟩;have s2:AA H1 (upd H1 t (.tup [.str x,.ref u])):=Ih ht;have AS:(upd H1 t (.tup [.str x,.ref u])) t≈(.tup [.str x,.ref u]):=uS;generalize upd H1 t (.tup [.str x,.ref u])=H2 at s2 AS;have JZ:=s2 _ _ hvs;refine⟨l,_,Z,Y,JZ,B0 (by rw[<- ↑hpr];omega),?_⟩;have k3:∀ b o,b≠l->H2 b≈o->(upd H2 l (.lst (vs++[.ref t]))) b≈o:=λb o hb e=>by rw[AD hb];exact e
  have BJ:AA H (upd H2 l (.lst (vs++[.ref t]))):=λb o e=>k3 b o (AK e hl) (s2 _ _ (s1 _ _ e));have tl:t≠l:=λz=>by rw[z,hvs]at ht;cases ht
  have BA:(upd H2 l (.lst (vs++[.ref t]))) l≈(.lst (vs++[.ref t])):=uS;have Ek:=k3 _ _ tl AS;have tk:∀ b xs,H1 b≈(.tup xs)->(upd H2 l (.lst (vs++[.ref t]))) b≈(.tup xs):=λb xs e=>k3 b _ (λz=>by rw[z,hvs]at e;cases e) (s2 _ _ e);generalize upd H2 l (.lst (vs++[.ref t]))=H3 at BJ BA Ek tk;have CT:Paired (Pr K H3) (ρ++[(x,us)]) (vs++[.ref t]):=CH (Paired.mapP hpr λr v ⟨t,u,e,e1,e2⟩=>⟨t,u,e,AG.of (tk _ _ e1),.inl (tk _ _ e2)⟩) ⟨t,u,Y,AG.of Ek,hu.mono BJ⟩;refine⟨Z,?_⟩;intro xb DB nx ndx nex;have Ar:AA H3 (upd (upd H3 DB (.own xb)) xb (.ins C DB [])):=λb o e=>by
   have e1:(upd H3 DB (.own xb)) b≈o:=by rw[AD (AK e ndx)];exact e
   rw[AD (AK e nx)];exact e1
  refine⟨xb,DB,l,ρ++[(x,us)],Y,uS,⟨true,vs++[.ref t],SqL.of (Ar _ _ BA),Paired.mapP CT λ_ _ z=>z.mono Ar⟩,g2,λH5 Us keep=>⟨Y,q xb H5 (λb o e=>?_) Us⟩⟩;have e3:=BJ _ _ e;exact keep b o (AK e3 nx) (Ar _ _ e3)
abbrev mE:LS:=["self","one","other","rows","word","ups"]
def kM:Aa mE ["self","one","other"] (AL TJ):=by nofun
def wX(F:BR K "tied" "Kinds.tied" TJ f fd)(TC:EC K C)(MC:VW K C fC fdC)(MH:Ho K C fH fdH)(M:Mk K C fI)(mgC:mg "Kinds"≈(.ref C))(bI:Bz K fdI ["self","rows"] [])
  (GI:⋯ 4 fI fdI ["self","rows"] (Mo K C)):⋯ 6 f fd ["self","one","other"] (Vu C):=by
 have GC:⋯ 2 fC fdC ["self","word"] (Rv C):=dY MC.fn TC MH
 nomatch F.ok kM
 ·obtain⟨p,ρ,x,y,rfl,_⟩:=h;rfl
 ·obtain⟨p,ρ,x,y,rfl,kd,g,hx,hy,g2,q⟩:=h;obtain⟨dx,d,a,o,oa,ν,AW,h1,h2,h3,h4⟩:=kd.ex;have nd:=kM.nd;have Bf:Ab 2 _:=hr.mono 0.1
  ac_nf
  refine⟨_,pS (B8 (EL 0.9 TC.cl MC.me GC Bf MC.b .nil BF 2.3))
   (pS (B8 (EL 0.9 TC.cl MC.me GC Bf MC.b .nil BF 2.5))
   (pS (sE 3 nd (BH AB))
   (pS (Bm Yx rfl (di (Cm 0.9 rfl)) (DU rfl (gC (gE 4 nd) (gC (gE 5 nd) DX)))
    (AF (B8 (DQ EN Ft Fq FR (pv 3) (pC (A5 (pC (pv 4) (pC (Wt (An BP (pv 4) 1.5 (Aj _)) (Ai Oz (pv 5) (A5 2.5)) (pv 5)) AB))) AB)))))
   (AF (AQ (Ir M GI hr rfl mgC bI .nil BF (pC (pv 3) AB))))))),?_⟩
  exists let b:=_;let c:=AE (CM _ _ b) a;let e:=AE _ c;let f:=AE _ e;AE _ f _ _ _
  refine⟨Z,p,dx,Z,h1,R7 _ _,Z,p,ρ,x,Y,kd,g,hx,?_⟩;refine⟨Z,p,dx,Z,h1,R7 _ _,Z,p,ρ,y,Y,kd,g,hy,?_⟩;refine⟨BC _,λl hl=>?_⟩;have gle:=g.le;have hkv:↑ν=↑ρ:=(Yp h2.ups).symm;have s1:AA H (upd H l (.lst [])):=Ih hl;let EO:NW:=λi σ H'=>∃(vs:LV) (b c:OV),σ=[↥(.ref p),↥(.str x),↥(.str y),↥(.ref l),b,c]/\(∀ b o,b≠l->H b≈o->H' b≈o)/\H' l≈(.lst vs)/\Paired (J9 H') (CO (ρ.take i) x y) vs;refine⟨Z,p,C,dx,_,Z,s1 _ _ h1,TC.cl,TC.nU,Vb _ _,d,o,ν,Y,s1 _ _ h2.at_,eU EO
   ⟨[],none,none,Y,λb o hb e=>by rw[AD hb];exact e,uS,by rw[Ee];exact .nil⟩ (λi σ H' _ h0=>by obtain⟨_,_,_,_,k,_⟩:=h0;exact k _ _ (AK h2.at_ hl) h2.at_) ?_ ?_⟩
  ·rintro i pr t σ H2 hi ⟨vs,b,c,rfl,k2,Al,Dp⟩ ht;obtain⟨r,Av,e1,u,e2,hu⟩:=Bi h2.ups hi;have u2:H2 u≈(.tup (r.2.map V.str)):=k2 _ _ (AK hu hl) hu;have s3:AA H2 (upd H2 t (.tup [kV pr.1,pr.2])):=Ih ht;have Ek:(upd H2 t (.tup [kV pr.1,pr.2])) t≈(.tup [.str r.1,.ref u]):=by rw[uS,e1,e2];rfl
   generalize upd H2 t (.tup [kV pr.1,pr.2])=H3 at s3 Ek;refine⟨t,Z,AG.of Ek,Y,_,Z,_,Z,Y,?_⟩;have BA:=s3 _ _ Al;have u3:=s3 _ _ u2;have few:=g.few r (Yd Av);have vl:↑vs<=24:=by
    rw[<- ↑Dp];unfold CO;rw[Ya,Yv];omega
   refine⟨Z,.inl ⟨Y,_,SqL.of BA⟩,Z,Z,Z,Y,Z,?_⟩;rw[Yct];have fin:∀(v:δ) (us:LS) (H4:Hp),AA H3 H4->H4 v≈(.tup (us.map V.str))->CO [r] x y=[(r.1,us)]->∀ t2,H4 t2=none->∃(MI:LV) (b c:OV),[↥(V.ref p),↥(V.str x),↥(V.str y),↥(V.ref l),↥(V.str r.1),↥(V.ref u)]=[↥(.ref p),↥(.str x),↥(.str y),↥(.ref l),b,c] /\
     (∀ b o,b≠l->H b≈o->(upd (upd H4 t2 (.tup [.str r.1,.ref v])) l (.lst (vs++[.ref t2]))) b≈o)/\(upd (upd H4 t2 (.tup [.str r.1,.ref v])) l (.lst (vs++[.ref t2]))) l≈(.lst MI)/\Paired (J9 (upd (upd H4 t2 (.tup [.str r.1,.ref v])) l (.lst (vs++[.ref t2])))) (CO (ρ.take (i + 1)) x y) MI:=λv us H4 s4 hv et t2 AS=>by
    have s5:AA H4 (upd H4 t2 (.tup [.str r.1,.ref v])):=Ih AS;have Bx:=s4 _ _ BA;have tk:∀ b xs,H4 b≈(.tup xs)->(upd (upd H4 t2 (.tup [.str r.1,.ref v])) l (.lst (vs++[.ref t2]))) b≈(.tup xs):=λb xs e=>by
     rw[AD (λz=>by rw[z,Bx]at e;cases e)];exact s5 _ _ e
    have Uc:t2≠l:=λz=>by rw[z,Bx]at AS;cases AS
    refine⟨G,Z,λb o hb e=>by rw[AD hb];exact s5 _ _ (s4 _ _ (s3 _ _ (k2 b o hb e))),uS,?_⟩;have e6:CO (ρ.take (i + 1)) x y=CO (ρ.take i) x y++[(r.1,us)]:=by
     rw[<- et,Bu,Av];unfold CO;rw[Br];rfl
    rw[e6];refine CH (Paired.mapP Dp λr' v' ⟨t',u',e,z1,z2⟩=>⟨t',u',e,tk _ _ (s4 _ _ (s3 _ _ z1)),tk _ _ (s4 _ _ (s3 _ _ z2))⟩) ⟨t2,v,Y,?_,tk _ _ hv⟩;rw[AD Uc];exact uS
   refine BG (λh=>?_) (λh=>?_)
   ·have Ei:r.1=x:=Je h;have et:CO [r] x y=[(r.1,r.2++[y])]:=by
     unfold CO;rw[Yy,if_pos Ei];rfl
    refine⟨Z,Z,V,λt4 N7=>?_⟩;have s4:AA H3 (upd H3 t4 (.tup [.str y])):=Ih N7;have N6:(upd H3 t4 (.tup [.str y])) t4≈(.tup [.str y]):=uS;generalize upd H3 t4 (.tup [.str y])=H4 at s4 N6;refine⟨u,t4,_,Z,Y,AG.of (s4 _ _ u3),AG.of N6,sL (by rw[Ya];simp;omega),λhn=>?_,(λ_ z=>by cases z),λ_ _ t5 Dn=>?_⟩
    ·have hn:r.2=[]:=List.map_eq_nil_iff.mp hn;refine⟨W,λt2 AS=>⟨l,_,Z,Y,Ih AS _ _ (s4 _ _ BA),B0 0.0,?_⟩⟩;exact fin t4 (r.2++[y]) H4 s4 (by rw[N6,hn];rfl) et t2 AS
    ·have s5:AA H4 (upd H4 t5 (.tup (r.2.map V.str++[.str y]))):=Ih Dn;refine⟨W,λt2 AS=>⟨l,_,Z,Y,Ih AS _ _ (s5 _ _ (s4 _ _ BA)),B0 0.0,?_⟩⟩;exact fin t5 (r.2++[y]) _ (s4.trans s5) (by rw[uS,Br];rfl) et t2 AS
   ·have Ei:¬ r.1=x:=λz=>h (Jb z);have et:CO [r] x y=[(r.1,r.2)]:=by
     unfold CO;rw[Yy,if_neg Ei];rfl
    refine⟨Z,W,λt2 AS=>⟨l,_,Z,Y,Ih AS _ _ BA,B0 0.0,?_⟩⟩;exact fin u r.2 H3 (AA.refl _) u3 et t2 AS
  ·rintro σ H3 ⟨vs,b,c,rfl,k3,BA,CT⟩;rw[hkv,Bt]at CT;refine⟨Z,?_⟩;intro xb DB nx ndx nex;have Ar:AA H3 (upd (upd H3 DB (.own xb)) xb (.ins C DB [])):=λb o e=>by
    have e1:(upd H3 DB (.own xb)) b≈o:=by rw[AD (AK e ndx)];exact e
    rw[AD (AK e nx)];exact e1
   have hR:FQ H3 l (CO ρ x y):=⟨vs,BA,CT⟩;refine⟨xb,DB,l,CO ρ x y,Y,uS,Jr.mono (FQ.g hR) Ar,g2,λH5 Us keep=>⟨Y,q xb H5 (λb o e=>?_) Us⟩⟩;have e3:=k3 b o (AK e hl) e;exact keep b o (AK e3 nx) (Ar _ _ e3)
def C1(H:Hp)(all ρ:RS)(AW:KL):Prop :=
 Paired (λr (p:Key×V)=>p.1=Sum.inr r.1/\∃(t:δ) (fs:LS),p.2=.ref t/\H t≈(.lst (fs.map V.str))/\(∀ y,y∈fs↔Graph.Reach (Ax all) r.1 y)/\↑fs<=↑all) ρ AW
def C1.mono{H H':Hp}{all ρ:RS}{AW:KL}(h:C1 H all ρ AW)(s:∀ b xs,H b≈(.lst xs)->H' b≈(.lst xs)):C1 H' all ρ AW :=
 Paired.mapP h λ_ _ z=>⟨z.1,let⟨t,fs,e,x,y⟩:=z.2;⟨t,fs,e,s _ _ x,y⟩⟩
theorem C1.keys:∀ {H:Hp}{all ρ:RS}{ν:KL},C1 H all ρ ν->ν.map 0.8=ρ.map λr=>(Sum.inr r.1:Key)
 | _,_,_,_,.nil=>rfl
 | _,_,_,_,.cons r t=>by rw[Yy,Yy,r.1,C1.keys t]
theorem C1.val':∀ {H:Hp}{all ρ:RS}{ν:KL},C1 H all ρ ν->(ρ.map 0.8).Nodup->∀ {r:Str×LS},r∈ρ->∃(t:δ) (fs:LS),BE ν (Sum.inr r.1)≈(.ref t)/\H t≈(.lst (fs.map V.str))/\(∀ y,y∈fs↔Graph.Reach (Ax all) r.1 y)/\↑fs<=↑all
 | _,_,_,_,.nil,_,r,h=>nomatch h
 | _,_,q :: rs,p :: ps,.cons z t,nd,r,h=>by
  have GY:(q.1 :: rs.map 0.8).Nodup:=nd;obtain⟨n1,n2⟩:=FT.mp GY;obtain⟨z1,u,fs,z2,z3,z4⟩:=z
  rcases Yk.mp h with e | h
  ·subst e;exact⟨u,fs,by rw[Ey z1,z2],z3,z4⟩
  ·have ne:¬ p.1=(Sum.inr r.1:Key):=λe=>n1 (by
    rw[z1]at e;have e':q.1=r.1:=by injection e
    rw[e'];exact Yg.mpr ⟨r,h,Y⟩)
   obtain⟨u',B7,h1,h2⟩:=C1.val' t n2 h;exact⟨u',B7,by rw[Ex ne];exact h1,h2⟩
def C1.val{H:Hp}{all ρ:RS}{ν:KL}(h:C1 H all ρ ν)(nd:(ρ.map 0.8).Nodup){r:Str×LS}(hr:r∈ρ):∃(t:δ) (fs:LS),BE ν (Sum.inr r.1)≈(.ref t)/\H t≈(.lst (fs.map V.str))/\∀ y,y∈fs↔Graph.Reach (Ax all) r.1 y :=
 let⟨u,fs,h1,h2,h3,_⟩:=h.val' nd hr;⟨u,fs,h1,h2,h3⟩
def ef{ρ:RS}{x:Str}{fs:LS}(h:∀ y,y∈fs↔Graph.Reach (Ax ρ) x y)(y:Str):decide (y∈fs)=Bn ρ x y:=by
 unfold Bn;by_cases z:Graph.Reach (Ax ρ) x y
 ·rw[Jb ((h y).mpr z)];exact(@Jb _ (Classical.propDecidable _) z).symm
 ·rw[Jc λk=>z ((h y).mp k)];exact(@Jc _ (Classical.propDecidable _) z).symm
inductive SF(vs:LV)(H:Hp)(Q:VK)(AJ:XK):Prop
 | mk:∀(l:δ) (ρ:RS),vs=[.ref l]->FQ H l ρ->Ak ρ->(∀ a AW H',AA H H'->H' a≈(.dK AW)->C1 H' ρ ρ AW->Q (.ref a) H')->SF vs H Q AJ
structure Nk(ρ:RS)(x:Str)(fs:LS)(k:Nat):Prop where
 start:x∈fs
 known:∀ y∈fs,y∈ρ.map 0.8
 nd:fs.Nodup
 reach:∀ y∈fs,Graph.Reach (Ax ρ) x y
 closed:∀ y∈fs.take k,∀ u∈Ax ρ y,u∈fs
def Nk.le{ρ:RS}{x:Str}{fs:LS}{k:Nat}(h:Nk ρ x fs k):↑fs<=↑ρ:=by
 have:=Graph.nodup_le h.nd h.known
 rwa [Ya]at this
def Nk.all{ρ:RS}{x:Str}{fs:LS}{k:Nat}(h:Nk ρ x fs k)(hk:↑fs<=k)(y:Str):y∈fs↔Graph.Reach (Ax ρ) x y :=
 ⟨h.reach y,λr=>Graph.closed_reach (S:=λy=>y∈fs) (λz hz u hu=>h.closed z (by rw[KD hk];exact hz) u hu) r h.start⟩
def tJ{ρ:RS}(g:Ak ρ){y u:Str}(hy:y∈ρ.map 0.8)(hu:u∈Ax ρ y):u∈ρ.map 0.8:=by
 obtain⟨r,hr,e⟩:=J3 hy;rw[<- e,Iy g.nd hr]at hu;exact g.known r hr u hu
abbrev mM:LS:=["rows","ups","word","some","above","found","at","up"]
def kD:Aa mM ["rows"] (AL Pj):=by nofun
def qq(F:Def K mg "_law_above" Pj ["rows"] f fd)(len:mg "len"=none):⋯ 1 f fd ["rows"] SF:=by
 nomatch F.fn.ok kD
 ·obtain⟨l,ρ,rfl,_⟩:=h;rfl
 ·obtain⟨l,ρ,rfl,hR,g,q⟩:=h;have nd:=kD.nd;have hu:=Es hr
  ac_nf
  refine⟨_,pS (sE 1 nd J1)
   (pS (Bm Yx rfl (Co 0.9) (DU rfl (gC (gE 2 nd) (gC (gE 3 nd) DX)))
    (AF (ID hu 1.5 1.6 (pv 3) rfl)))
   (pS (sE 4 nd J1)
   (pS (Bm Yx rfl (Co 0.9) (DU rfl (gC (gE 2 nd) (gC (gE 3 nd) DX)))
    (pS (sE 5 nd (BH 2.5))
    (pS (sE 6 nd AH)
    (pS (O7 Yx (An Od (pv 6) (A9 F_ 1.0 len BX (pC (pv 5) AB)) (Aj _))
     (pS (Bm Yx rfl (Gk (Ip hu 1.5 (AO Ad (pv 5) (pv 6) 0.2) 0.2)) (gE 7 nd)
      (AF (Ag (An Xk (pv 7) (pv 5) 1.8) (AF (B8 (DQ EN Ft Fq FR (pv 5) (pC (pv 7) AB)))) Af)))
     (AF (sE 6 nd (Ai K7 (pv 6) AH)))))
    (AF (ID hu (pv 4) 1.6 (pv 5) rfl))))))
   (AF (AQ (pv 4)))))),?_⟩
  exists let b:=_;let c:=_;let e:=_;let f:=By _ e _;let g:=AE (CM _ _ f) c;let h:=AE (Ov _ g) b;let i:=AE _ h;let j:=AE _ i;let k:=AE (CM _ _ j) a;let l:=AE _ k;let m:=AE _ l;AE _ m _ _ _
  have gle:=g.le;obtain⟨vs,hvs,hpr⟩:=hR;intro d hd;have s1:AA H (upd H d (.dK [])):=λb o e=>by rw[AD (AK e hd)];exact e
  let Be:NW:=λi σ H'=>∃(ν:KL) (a c:OV),σ=[↥(.ref l),↥(.ref d),a,c,none,none,none,none]/\AA H H'/\H' d≈(.dK ν)/\Dx H' (ρ.take i) ν;refine⟨Z,l,Y,⟨_,SqL.of (s1 _ _ hvs)⟩,CG (Cq (xs:=vs)) Be
   ⟨[],none,none,Y,s1,uS,by rw[Ee];exact .nil⟩ (λi σ H' _ h0=>by obtain⟨_,_,_,_,s,_⟩:=h0;exact SqL.of (s _ _ hvs)) ?_ ?_⟩
  ·rintro i v σ H' hi ⟨ν,a,c,rfl,s3,hdk,hU⟩;obtain⟨r,Av,t,u,rfl,ht,hug⟩:=Bi hpr hi;refine⟨t,Z,AG.of (s3 _ _ ht),Y,_,Z,_,Z,Y,?_⟩;have A6:(Sum.inr r.1:Key)∉ν.map 0.8:=by rw[hU.keys];exact PR g.nd Av
   have hil:↑(ρ.take i)<=24:=by rw[Yv];omega
   have hkl:↑ν=↑(ρ.take i):=(Yp hU).symm;refine⟨Z,Z,Z,d,Z,EE.k (k:=Sum.inr r.1) hdk (B0 0.0),?_⟩;have tk:∀ b xs,H' b≈(.tup xs)->(upd H' d (.dK (Au ν (Sum.inr r.1) (.ref u)))) b≈(.tup xs):=λb xs e=>by
    rw[AD (λz=>by rw[z,hdk]at e;cases e)];exact e
   refine⟨G,Z,λb o e=>by rw[AD (AK e hd)];exact s3 _ _ e,uS,?_⟩;have sn:Dx (upd H' d (.dK (Au ν (Sum.inr r.1) (.ref u)))) (ρ.take i++[r]) (ν++[(Sum.inr r.1,V.ref u)]):=CH (hU.mono tk) ⟨Y,u,Y,tk u _ (s3 _ _ hug)⟩;rw[<- LC _ (Gu A6)]at sn;rw[Bu,Av];exact sn
  ·rintro σ H2 ⟨ν,a,c,rfl,s3,hdk,hU⟩;have hvl:=↑hpr;rw[<- hvl,Bt]at hU;intro aa CU;have s4:AA H2 (upd H2 aa (.dK [])):=λb o e=>by rw[AD (AK e CU)];exact e
   have aaH:H aa=none:=s3.free CU;have daa:d≠aa:=AK hdk CU;have hU4:Dx (upd H2 aa (.dK [])) ρ ν:=hU.mono λb xs e=>s4 _ _ e;have hd4:=s4 _ _ hdk;have Bo:=s3.trans s4;let Fw:NW:=λi σ H'=>∃(AW:KL) (a b c e f:OV),σ=[↥(.ref l),↥(.ref d),a,b,↥(.ref aa),c,e,f]/\(∀ b o,b≠aa->H2 b≈o->H' b≈o)/\H' aa≈(.dK AW)/\C1 H' ρ (ρ.take i) AW;refine⟨Z,l,Y,⟨_,SqL.of (Bo _ _ hvs)⟩,CG (Cq (xs:=vs)) Fw
    ⟨[],G,G,Z,λb o hb e=>by rw[AD hb];exact e,uS,by rw[Ee];exact .nil⟩ (λi σ H' _ h0=>by obtain⟨_,_,_,_,_,_,_,k,_⟩:=h0;exact SqL.of (k _ _ (AK hvs aaH) (s3 _ _ hvs))) ?_ ?_⟩
   ·rintro i v σ H' hi ⟨AW,a,b,c,e,f',rfl,k1,L7,hA⟩;obtain⟨r,Av,t,u,rfl,ht,hug⟩:=Bi hpr hi;have As:r∈ρ:=Yd Av;have Qo:∀ b o,H b≈o->H' b≈o:=λb o e=>k1 b o (AK e aaH) (s3 _ _ e);refine⟨t,Z,AG.of (Qo _ _ ht),Y,_,Z,_,Z,Y,?_⟩;refine⟨Z,V,λfa hfa=>?_⟩;have sF:∀ {H5:Hp},AA H' H5->Dx H5 ρ ν:=λ{H5} s=>hU.mono λb xs e=>s _ _ (k1 b _ (λz=>by rw[z,CU]at e;cases e) e);have dF:∀ {H5:Hp},AA H' H5->H5 d≈(.dK ν):=λ{H5} s=>s _ _ (k1 _ _ daa hdk);let EO:NW:=λm σ H5=>∃(fs:LS) (k:Nat) (f:OV),σ=[↥(.ref l),↥(.ref d),↥(.str r.1),↥(.ref u),↥(.ref aa),↥(.ref fa),↥(.int (k:Int)),f]/\AA H' H5/\H5 fa≈(.lst (fs.map V.str))/\Nk ρ r.1 fs k/\k<=↑fs/\m + k=↑ρ;refine⟨EO,
     ⟨↑ρ,[r.1],0,Z,λb o e=>by rw[AD (AK e hfa)];exact e,uS,⟨by simp,λy h=>by rw[Yc.mp h];exact Yg.mpr ⟨r,As,Y⟩,by simp,λy h=>by rw[Yc.mp h];exact .refl _,λy h=>by simp at h⟩,by simp,Y⟩,?_⟩
    rintro m σ H5 ⟨fs,k,f2,rfl,s5,OC,go,hk,hm⟩;have flen:=go.le;refine⟨Z,Z,_,Z,.inl ⟨_,SqL.of OC,Y⟩,_,Z,Y,Z,?_⟩;rw[Ya];refine BG (λA2=>?_) (λA2=>?_)
    ·have A2:k<↑fs:=by have:=Je A2;omega
     let JQ:SW:=λσ' H6=>∃ m',m'<m/\∃(fs:LS) (k:Nat) (f:OV),σ'=[↥(.ref l),↥(.ref d),↥(.str r.1),↥(.ref u),↥(.ref aa),↥(.ref fa),↥(.int (k:Int)),f]/\AA H' H6/\H6 fa≈(.lst (fs.map V.str))/\Nk ρ r.1 fs k/\k<=↑fs/\m' + k=↑ρ;refine⟨JQ,λ_ _ h=>h,?_⟩;have hat:fs[k]?≈fs[k]:=Yi A2;generalize hhere:fs[k]=here at hat;have hin:here∈fs:=Yd hat;obtain⟨r2,Bf,er⟩:=J3 (go.known here hin);obtain⟨t2,hvt,AS⟩:=(sF s5).val g.nd Bf;rw[er]at hvt;have uo:Ax ρ here=r2.2:=by rw[<- er];exact Iy g.nd Bf
     have hix:CL (fs.map V.str) (k:Int)≈(V.str here):=CA (by rw[Ys,hat];rfl);refine⟨Z,Z,Z,fa,G,Z,Y,SqL.of OC,hix,d,Z,(by rw[<- hvt];exact Bl.k (k:=Sum.inr here) (dF s5)),t2,Y,⟨_,AG.of AS⟩,?_⟩;have ZN:t2≠fa:=λz=>by rw[z,OC]at AS;cases AS
     refine CG (Gr (xs:=r2.2.map V.str)) (λj σ H6=>∃(ex:LS) (f:OV),σ=[↥(.ref l),↥(.ref d),↥(.str r.1),↥(.ref u),↥(.ref aa),↥(.ref fa),↥(.int (k:Int)),f]/\(∀ b o,b≠fa->H5 b≈o->H6 b≈o)/\H6 fa≈(.lst ((fs++ex).map V.str)) /\
      (∀ y∈fs++ex,y∈ρ.map 0.8)/\(fs++ex).Nodup/\(∀ y∈fs++ex,Graph.Reach (Ax ρ) r.1 y)/\∀ z∈r2.2.take j,z∈fs++ex)
      ⟨[],Z,λb o _ e=>e,by rw[EM];exact OC,by rw[EM];exact go.known,by rw[EM];exact go.nd,by rw[EM];exact go.reach,λz h=>by simp at h⟩ (λj σ H6 _ h0=>by obtain⟨_,_,_,k6,_⟩:=h0;exact AG.of (k6 _ _ ZN AS)) ?_ ?_
     ·rintro j v σ H6 hj ⟨ex,f3,rfl,k6,Me,kn,ndx,rch,seen⟩;obtain⟨z,hz,rfl⟩:=Rx hj;have hzu:z∈Ax ρ here:=by rw[uo];exact Yd hz
      have hle:↑(fs++ex)<=24:=by
       have:=Graph.nodup_le ndx kn;rw[Ya]at this;omega
      refine⟨Z,Z,fa,Z,.inl (SqL.of Me),Y,NA _,Z,?_⟩;show if(!Bw (.str z) ((fs++ex).map V.str))=true then _ else _
      rw[Io];have sj:∀ y∈r2.2.take (j + 1),y∈r2.2.take j\/y=z:=λy h=>by
       rw[Bu,hz]at h
       rcases Ym.mp h with h | h
       ·exact .inl h
       ·simp at h;exact .inr h
      refine BG (λhn=>?_) (λhn=>?_)
      ·have hn:z∉fs++ex:=λc=>by rw[Jb c]at hn;cases hn
       refine⟨Z,.inl ⟨Y,_,SqL.of Me⟩,Z,fa,_,Z,Y,Me,B0 (by rw[Ya];omega),?_⟩;refine⟨ex++[z],Z,λb o hb e=>by rw[AD hb];exact k6 b o hb e,?_,?_,?_,?_,?_⟩
       ·have e:(fs++(ex++[z])).map V.str=(fs++ex).map V.str++[V.str z]:=by simp
        rw[uS,e]
       ·intro y hy;rw[<- IH]at hy
        rcases Ym.mp hy with h | h
        ·exact kn y h
        ·rw[Yc.mp h];exact tJ g (go.known here hin) hzu
       ·rw[<- IH];refine Ld.mpr ⟨ndx,by simp,λa ha b hb e=>?_⟩;rw[Yc.mp hb]at e;rw[e]at ha;exact hn ha
       ·intro y hy;rw[<- IH]at hy
        rcases Ym.mp hy with h | h
        ·exact rch y h
        ·rw[Yc.mp h];exact(go.reach here hin).snoc hzu
       ·intro y hy;rw[<- IH]
        rcases sj y hy with h | h
        ·exact Ym.mpr (.inl (seen y h))
        ·rw[h];simp
      ·have hn:z∈fs++ex:=Tw λc=>hn (by rw[Jc c];rfl);refine⟨ex,Z,k6,Me,kn,ndx,rch,λy hy=>?_⟩
       rcases sj y hy with h | h
       ·exact seen y h
       ·rw[h];exact hn
     ·rintro σ H6 ⟨ex,f3,rfl,k6,Me,kn,ndx,rch,seen⟩;rw[Ya,Bt]at seen;refine⟨Z,_,Z,Y,m - 1,O,fs++ex,k + 1,Z,λb o e=>k6 b o (AK e hfa) (s5 _ _ e),Me,⟨Ym.mpr (.inl go.start),kn,ndx,rch,?_⟩,by rw[Yo];omega,O⟩;intro y hy z hz;have htk:(fs++ex).take (k + 1)=fs.take k++[here]:=by
       rw[List.take_append_of_le_length 0.0,Bu,hat];rfl
      rw[htk]at hy
      rcases Ym.mp hy with h | h
      ·exact Ym.mpr (.inl (go.closed y h z hz))
      ·rw[Yc.mp h,uo]at hz;exact seen z hz
    ·have hge:↑fs<=k:=by
      have:¬ ((k:Int)<(↑fs:Int)):=λz=>A2 (Jb z);omega
     have bZ:=s5 _ _ L7;have A6:(Sum.inr r.1:Key)∉AW.map 0.8:=by rw[hA.keys];exact PR g.nd Av
     have hil:↑(ρ.take i)<=24:=by rw[Yv];omega
     have hkl:↑AW=↑(ρ.take i):=(Yp hA).symm;refine⟨Z,Z,Z,aa,Z,EE.k (k:=Sum.inr r.1) bZ (B0 0.0),?_⟩;have lk:∀ b xs,H5 b≈(.lst xs)->(upd H5 aa (.dK (Au AW (Sum.inr r.1) (.ref fa)))) b≈(.lst xs):=λb xs e=>by
      rw[AD (λz=>by rw[z,bZ]at e;cases e)];exact e
     refine⟨G,G,_,Z,λb o hb e=>by rw[AD hb];exact s5 _ _ (k1 b o hb e),uS,?_⟩;have sn:C1 (upd H5 aa (.dK (Au AW (Sum.inr r.1) (.ref fa)))) ρ (ρ.take i++[r]) (AW++[(Sum.inr r.1,V.ref fa)]):=CH ((hA.mono λb xs e=>s5 _ _ e).mono lk) ⟨Y,fa,fs,Y,lk _ _ OC,go.all hge,go.le⟩;rw[<- LC _ (Gu A6)]at sn;rw[Bu,Av];exact sn
   ·rintro σ H' ⟨AW,a,b,c,e,f',rfl,k1,L7,hA⟩;rw[<- hvl,Bt]at hA;exact⟨Z,q aa AW H' (λb o e=>k1 b o (AK e aaH) (s3 _ _ e)) L7 hA⟩
def OY(ρ:RS)(n:Nat)(xs:LS):Bool:=decide (↑xs=n)&&xs.all λx=>decide (x∈ρ.map 0.8)
structure Ec(ρ:RS)(n:Nat)(xs:LS):Prop where
 len:↑xs=n
 known:∀ x∈xs,x∈ρ.map 0.8
def Ec.is{ρ:RS}{n:Nat}{xs:LS}(h:Ec ρ n xs):OY ρ n xs=true:=by
 unfold OY;rw[Jb h.len,DY,C6];exact λx hx=>Jb (h.known x hx)
inductive SD(C:δ)(vs:LV)(H:Hp)(Q:VK)(AJ:XK):Prop
 | mk:∀(p t:δ) (n:Nat) (ρ:RS) (xs:LS),vs=[.ref p,.int n,.ref t]->Bd C H p ρ->Ak ρ->H t≈(.tup (xs.map V.str))->↑xs<=1000->(∀ H',AA H H'->Q (.bl (OY ρ n xs)) H')->SD C vs H Q AJ
def Vd(ρ:RS):V->V
 | .str x=>.bl (decide (x∈ρ.map 0.8))
 | _=>.non
def rQ(ρ:RS)(xs:LS):(((xs.map V.str).filter λ_=>true).map (Vd ρ))=(xs.map λx=>decide (x∈ρ.map 0.8)).map V.bl:=by
 rw[JG.mpr 0.2,C5,C5];rfl
def Yb5:(["word","kinds"]:LS).Nodup:=by rfl'
abbrev D_:LS:=["kinds","places","call"]
def zo:Aa D_ D_ (AL J5):=by nofun
def gs(F:Def K mg "is_call" J5 D_ f fd)(len:mg "len"=none)(all:mg "all"=none)(TC:EC K C)(MH:Ho K C fH fdH):⋯ 2 f fd D_ (SD C):=by
 have GH:⋯ 1 fH fdH ["self","word"] (Oe C):=Vi MH.fn TC
 nomatch F.fn.ok zo
 ·obtain⟨p,t,n,ρ,xs,rfl,_⟩:=h;rfl
 ·obtain⟨p,t,n,ρ,xs,rfl,kd,g,ht,hz,q⟩:=h;obtain⟨dx,d,a,o,oa,ν,AW,h1,_⟩:=kd.ex;have Aq:Ab 1 _:=hr.mono 0.1
  ac_nf
  refine'⟨_,AF (AQ (F7 ?ea (IA ?eb))),?_⟩
  case ea=>exact C3 BP (A9 Cb 1.0 len BX 2.5) 1.5 (Aj _)
  case eb=>exact A9 (R3 rfl) 1.0 all Tx (pC
    (Ea ["word"] ["kinds"] [0] (λ_=>CC (osc:=AL J5) (on:=D_) 0.7 rfl rfl rfl) (Gk 1.6) (λC s H fp=>CF (i:=0) Yb5 rfl 1.2 1.3) 2.9
     (λC s H fp=>EL 1.5 TC.cl MH.me GH Aq MH.b .nil BF (pC 0.9 AB))) AB)
  refine⟨Z,t,Z,.inr (AG.of ht),Z,Y,Z,?_⟩;have e:decide (V.int (↑(xs.map V.str):Nat)=V.int n)=decide (↑xs=n):=by
   rw[Ya];exact JK.mpr ⟨λz=>by injection z with z;omega,λz=>by rw[z]⟩
  rw[e];refine BG (λh=>?_) (λh=>?_)
  ·refine⟨Z,t,Y,⟨_,AG.of ht⟩,Wu (Gr (xs:=xs.map V.str)) (sL (by rw[Ya];omega)) (λ_=>true) (Vd ρ) (λD ys hD=>AG.of (by rw[AD (AK ht hD)];exact ht)) ?_ ?_ ?_⟩
   ·intro D ys v R _ _ hR;exact hR
   ·intro D ys v R hD hv _ hR;obtain⟨x,hx,rfl⟩:=Yg.mp hv;have s2:AA H (upd H D (.lst ys)):=AI hD;exact⟨Z,p,dx,Z,s2 _ _ h1,Vh _ _,Z,p,ρ,x,Y,kd.mono s2,g,hR⟩
   ·intro D hD;refine⟨D,Z,SqL.of (by rw[uS,rQ]),?_⟩;have q':=q _ (AI (o:=.lst (((xs.map V.str).filter λ_=>true).map (Vd ρ))) hD);unfold OY at q';rw[h,DY]at q';show Q (.bl ((xs.map λx=>decide (x∈ρ.map 0.8)).all id)) _;rw[List.all_map];exact q'
  ·have q':=q H (AA.refl H);unfold OY at q';rw[show decide (↑xs=n)=false by simpa using h,JF]at q';exact q'
def EZ(H:Hp)(ds:ξ)(vs:LV):Prop:=Paired (λ(d:LS) v=>∃ t,v=V.ref t/\H t≈(.tup (d.map V.str))) ds vs
def EZ.mono{H H':Hp}{ds:ξ}{vs:LV}(h:EZ H ds vs)(s:AA H H'):EZ H' ds vs:=Paired.mapP h λ_ _ ⟨t,e,x⟩=>⟨t,e,s _ _ x⟩
structure Eb(ρ:RS)(n:Nat)(ds:ξ):Prop where
 call:∀ d∈ds,Ec ρ n d
 nd:ds.Nodup
 few:↑ds<=64
def FE(d:LS):List Key:=d.map Sum.inr
def dO(d:LS):(FE d).map kV=d.map V.str:=by
 unfold FE;rw[C5];rfl
def x_{d e:LS}(h:FE d=FE e):d=e:=by
 unfold FE at h;exact List.map_inj_right (λa b z=>by injection z) |>.mp h
def sO{ds:ξ}(nd:ds.Nodup){i:Nat}{d:LS}(h:ds[i]?≈d):FE d∉(ds.take i).map FE:=by
 intro m;obtain⟨e,he,q⟩:=Yg.mp m;rw[x_ q]at he;exact e_ nd h he
inductive Xe(K:Fg)(C:δ)(vs:LV)(H:Hp)(Q:VK)(AJ:XK):Prop
 | mk:∀(p l:δ) (n:Nat) (b:Bool) (ρ:RS) (ds:ξ) (us:LV),vs=[.ref p,.int n,.ref l]->Bd C H p ρ->Ak ρ->Cr K b H l us->EZ H ds us->Eb ρ n ds->n<=4->(∀ H',AA H H'->Q .non H')->Xe K C vs H Q AJ
abbrev mQ:LS:=["kinds","places","deeds","seen","number","call"]
def kZ:Aa mQ ["kinds","places","deeds"] (AL S4):=by nofun
def uX(F:Def K mg "check_deeds" S4 ["kinds","places","deeds"] f fd)(DI:Def K mg "is_call" J5 D_ fI fdI)(enum:mg "enumerate"=none)(len:mg "len"=none)(all:mg "all"=none)(TC:EC K C)(MH:Ho K C fH fdH):
  ⋯ 3 f fd ["kinds","places","deeds"] (Xe K C):=by
 have GI:⋯ 2 fI fdI D_ (SD C):=gs DI len all TC MH
 nomatch F.fn.ok kZ
 ·obtain⟨p,l,n,b,ρ,ds,us,rfl,_⟩:=h;rfl
 ·obtain⟨p,l,n,b,ρ,ds,us,rfl,kd,g,hl,hD,gd,hn,q⟩:=h;have nd:=kZ.nd;have hu:=Es hr
  ac_nf
  refine⟨_,pS (sE 3 nd R8)
   (AF (Bm Yx rfl (cY 1.0 enum 2.5) (DU rfl (gC (gE 4 nd) (gC (gE 5 nd) DX)))
    (pS (Ag (Di (C0 (AV DI GI hr (pC 0.9 (pC 1.5 (pC (pv 5) AB)))))) Bj Af)
    (pS (Ag (Ik (Mu hu (pv 5) (pv 3))) Bj Af)
    (AF (ID hu (pv 3) (pv 5) F4 rfl)))))),?_⟩
  exists let b:=AE _ a;let c:=AE _ b;let e:=CM _ _ c;AE _ e _ _ _
  intro d hd;have s0:AA H (upd H d (.dT [])):=AI hd;have hvl:=↑hD;have few:=gd.few;let Be:NW:=λi σ H'=>∃(ν:List (List Key×V)) (a c:OV),σ=[↥(.ref p),↥(.int n),↥(.ref l),↥(.ref d),a,c]/\AA H H'/\H' d≈(.dT ν)/\ν.map 0.8=(ds.take i).map FE;refine⟨Z,b,l,us,Y,hl.mono s0,eV Be
   ⟨[],none,none,Y,s0,uS,by simp⟩ (λi σ H' _ h0=>by obtain⟨_,_,_,_,s,_⟩:=h0;exact hl.mono s) ?_ ?_⟩
  ·rintro i pr t σ H' hi ⟨ν,a,c,rfl,s1,hdk,hk⟩ Jk;obtain⟨e1,hx⟩:=SU hi;obtain⟨dd,hdd,t2,e2,AS⟩:=Bi hD hx;refine Vc ?_;have s2:AA H' (upd H' t (.tup [pr.1,pr.2])):=AI Jk;have As:dd∈ds:=Yd hdd;have gc:=gd.call dd As;rw[e2];show AE _ _ _ [↥(.ref p),↥(.int n),↥(.ref l),↥(.ref d),↥pr.1,↥(.ref t2)] _;have A8:=s1.trans s2;refine⟨Z,Z,Z,p,t2,n,ρ,dd,Y,kd.mono ?_,g,?_,by have:=gc.len;omega,λH3 s3=>⟨Z,?_⟩⟩
   ·rw[<- e2];exact A8
   ·rw[<- e2];exact A8 _ _ AS
   rw[gc.is];refine AU ?_;rw[<- e2]at s3;have BJ:=A8.trans s3;have RL:H3 d≈(.dT ν):=s3 _ _ (s2 _ _ hdk);have Ek:H3 t2≈(.tup ((FE dd).map kV)):=by rw[dO];exact BJ _ _ AS
   refine⟨Z,Z,d,Z,Bl.t (k:=FE dd) RL Ek,Z,?_⟩;have A6:FE dd∉ν.map 0.8:=by rw[hk];exact sO gd.nd hdd
   rw[gg A6];refine AU ?_;have hkl:↑ν=↑(ds.take i):=by have:=congrArg List.length hk;simpa using this
   have hil:↑(ds.take i)<=64:=by rw[Yv];omega
   refine⟨Z,Z,d,Z,EE.t (k:=FE dd) RL Ek (B0 0.0),?_⟩;refine⟨G,Z,λb o e=>?_,uS,?_⟩
   ·rw[AD (AK e hd)];exact BJ _ _ e
   ·rw[sx A6,hk,Bu,hdd,Br];rfl
  ·rintro σ H' ⟨ν,a,c,rfl,s1,hdk,hk⟩;exact q H' s1
def zJ:¬ (("book":Str)="stands"):=by rfl'
def zK:¬ (("book":Str)="width"):=by rfl'
def zL:¬ (("width":Str)="stands"):=by rfl'
def FL(k t:δ)(n:Nat):List (Str×V):=A0 "stands" (.ref t) (A0 "width" (.int n) (A0 "book" (.ref k) []))
def vo(k t:δ)(n:Nat):(FL k t n).lookup ("book":Str)≈(.ref k):=by
 unfold FL;rw[CD,if_neg zJ,CD,if_neg zK,CD,if_pos rfl]
def vq(k t:δ)(n:Nat):(FL k t n).lookup ("width":Str)≈(.int n):=by
 unfold FL;rw[CD,if_neg zL,CD,if_pos rfl]
def vp(k t:δ)(n:Nat):(FL k t n).lookup ("stands":Str)≈(.ref t):=by
 unfold FL;rw[CD,if_pos rfl]
def Wc(k t:δ)(n:Nat){m:Str}(h1:¬ m="stands")(h2:¬ m="width")(h3:¬ m="book"):(FL k t n).lookup m=none:=by
 unfold FL;rw[CD,if_neg h1,CD,if_neg h2,CD,if_neg h3];rfl
def eg(k t:δ)(n:Nat):(FL k t n).lookup ("kinds":Str)=none:=Wc k t n 0.7 0.7 0.7
def gq(k t:δ)(n:Nat):(FL k t n).lookup ("places":Str)=none:=Wc k t n 0.7 0.7 0.7
def XH(k t:δ)(n:Nat):(FL k t n).lookup ("deeds":Str)=none:=Wc k t n 0.7 0.7 0.7
structure DV(C B:δ)(H:Hp)(p k:δ)(ρ:RS)(n:Nat)(ds:ξ):Prop where
 ex:∃(dx t:δ) (us:LV),H p≈(.ins B dx (FL k t n))/\Bd C H k ρ/\H t≈(.tup us)/\EZ H ds us
theorem DV.mono{C B:δ}{H H':Hp}{p k:δ}{ρ:RS}{n:Nat}{ds:ξ}(h:DV C B H p k ρ n ds)(s:AA H H'):DV C B H' p k ρ n ds:=by
 obtain⟨dx,t,us,h1,h2,h3,h4⟩:=h.ex;exact⟨dx,t,us,s _ _ h1,h2.mono s,s _ _ h3,h4.mono s⟩
structure Js(K:Fg)(B:δ):Prop where
 cl:Eh K B
 nB:EK K B "book"
 nW:EK K B "width"
 nS:EK K B "stands"
structure Xo(mg:Str->OU):Prop where
 places:∃ t,mg "MOST_PLACES"≈(.int 4 t)
 deeds:∃ t,mg "MOST_DEEDS"≈(.int 64 t)
 len:mg "len"=none
 all:mg "all"=none
 tuple:mg "tuple"=none
 list:mg "list"=none
 enum:mg "enumerate"=none
inductive Ru(K:Fg)(C B:δ)(vs:LV)(H:Hp)(Q:VK)(AJ:XK):Prop
 | mk:∀(p dx k l:δ) (n:Nat) (ρ:RS) (ds:ξ) (us:LV),vs=[.ref p,.ref k,.int n,.ref l]->H p≈(.ins B dx [])->Bd C H k ρ->Ak ρ->(SqL K H l us\/H l≈(.tup us))->EZ H ds us->Eb ρ n ds->1<=n->n<=4->(∀ H',DV C B H' p k ρ n ds->(∀ b o,b≠p->H b≈o->H' b≈o)->Q .non H')->Ru K C B vs H Q AJ
def SV{C p:δ}{H H':Hp}{k:δ}{ρ:RS}{o:HO}(h:Bd C H k ρ)(hp:H p≈o)(s:∀ b o,b≠p->H b≈o->H' b≈o)(nk:k≠p)(no:∀ o' u,o≠.frz o' u)(nt:∀ xs,o≠.tup xs):Bd C H' k ρ:=by
 obtain⟨dx,d,a,o1,oa,ν,AW,h1,h2,h3,h4⟩:=h.ex;have ne:∀ {b o' u},H b≈(.frz o' u)->b≠p:=λ{b o' u} e z=>by rw[z,hp]at e;exact no _ _ (Bk e)
 have net:∀ {b xs},H b≈(.tup xs)->b≠p:=λ{b xs} e z=>by rw[z,hp]at e;exact nt _ (Bk e)
 exact⟨dx,d,a,o1,oa,ν,AW,s _ _ nk h1,⟨s _ _ (ne h2.at_) h2.at_,h2.ups.mono λb xs e=>s _ _ (net e) e⟩,s _ _ (ne h3) h3,h4.mono λb o' fk e=>s _ _ (ne e) e⟩
abbrev N1:LS:=["self","kinds","places","deeds"]
def Yf3:Aa N1 N1 (AL Xm):=by nofun
def yQ(F:BR K "__init__" "Board.__init__" Xm f fd)(T:Xo mg)(TB:Js K B)(TC:EC K C)(DD:Def K mg "check_deeds" S4 ["kinds","places","deeds"] fD fdD)(DI:Def K mg "is_call" J5 D_ fI fdI)(MH:Ho K C fH fdH)(hBC:B≠C):
  ⋯ 4 f fd N1 (Ru K C B):=by
 have GD:⋯ 3 fD fdD ["kinds","places","deeds"] (Xe K C):=uX DD DI T.enum T.len T.all TC MH
 nomatch F.ok Yf3
 ·obtain⟨p,dx,k,l,n,ρ,ds,us,rfl,_⟩:=h;rfl
 ·obtain⟨p,dx,k,l,n,ρ,ds,us,rfl,hp,kd,g,hl,hD,gd,n1,n4,q⟩:=h;obtain⟨b,hl,OI⟩:∃ b,Cr K b H l us/\(b=false->H l≈(.tup us)):=by
   rcases hl with hl | hl
   ·exact⟨true,hl,λz=>by cases z⟩
   ·exact⟨false,AG.of hl,λ_=>hl⟩
  obtain⟨t1,hP⟩:=T.places;obtain⟨t2,hM⟩:=T.deeds;have Gb:Ab 3 _:=hr.mono 0.1
  ac_nf
  refine⟨_,pS (Ag (Di (Wk Mm Mm AH 1.6 (Iq (v:=.int 4) 1.0 hP ⟨Z⟩))) Bj Af)
   (pS (Ag (An Hz (A9 F_ 1.0 T.len BX (pC (pv 3) AB)) (Iq (v:=.int 64) 1.0 hM ⟨Z⟩) (Aj _)) Bj Af)
   (pS (B8 (AV DD GD Gb (pC 1.5 (pC 1.6 (pC (pv 3) AB)))))
   (pS (FO 0.9 1.5 rfl) (pS (FO 0.9 1.6 rfl)
   (AF (FO 0.9 (C4 LI 1.0 T.tuple JM (pC (pv 3) AB)) rfl)))))),?_⟩
  exists let b:=AE _ a;let c:=AE _ b;let e:=AE _ c;let f:=AE _ e;AE _ f _ _ _
  refine⟨Z,_,Z,Y,Z,?_⟩;rw[show decide ((1:Int)<=(n:Int))=true from Jb 0.0];refine A4 ⟨_,Z,Y,Z,?_⟩;rw[show(decide ((n:Int)<=4))=true from Jb 0.0];refine AU ?_;have hul:=↑hD;have few:=gd.few;refine⟨Z,_,Z,Rt hl,_,Z,Y,Z,?_⟩;rw[show decide ((64:Int)<(↑us:Int))=false from Jc 0.0];refine AU ?_;refine⟨Z,Z,Z,p |> λ_=>k,l,n,b,ρ,ds,us,Y,kd,g,hl,hD,gd,n4,λH1 s1=>?_⟩;have Fd:=s1 _ _ hp;have aO:=kd.mono s1;have nkp:k≠p:=by
   intro z;obtain⟨DB,d,a,o,oa,ν,AW,h1,_⟩:=kd.ex;rw[z,hp]at h1;injection h1 with h1;injection h1 with h1;exact hBC h1
  refine⟨Z,Z,p,B,dx,[],Y,Fd,TB.cl,TB.nB,(by show 0<1000;decide),?_⟩;refine⟨Z,Z,p,B,dx,Z,uS,TB.cl,TB.nW,(by show 1<1000;decide),?_⟩;rw[M1];have kp:∀ {fs:List (Str×V)} (b:δ) (o:HO),b≠p->H b≈o->(upd H1 p (.ins B dx fs)) b≈o:=λb o hb e=>by rw[AD hb];exact s1 _ _ e
  have hlp:∀ {fs:List (Str×V)},Cr K b (upd H1 p (.ins B dx fs)) l us:=λ{fs}=>by
   have Ap:=hl.mono s1;cases b with
   | true =>
    rcases(show SqL K H1 l us from Ap)with(e | ⟨o,e⟩) | e
    ·exact .inl (.inl (by rw[AD (λz=>by rw[z,Fd]at e;cases e)];exact e))
    ·exact .inl (.inr ⟨o,by rw[AD (λz=>by rw[z,Fd]at e;cases e)];exact e⟩)
    ·exact .inr e
   | false =>
    rcases(show AG K H1 l us from Ap)with(e | ⟨o,e⟩) | e
    ·exact .inl (.inl (by rw[AD (λz=>by rw[z,Fd]at e;cases e)];exact e))
    ·exact .inl (.inr ⟨o,by rw[AD (λz=>by rw[z,Fd]at e;cases e)];exact e⟩)
    ·exact .inr e
  have fin:∀(t:δ) (H2:Hp),AA (upd H1 p (.ins B dx (A0 "width" (.int n) (A0 "book" (.ref k) [])))) H2->H2 t≈(.tup us)->Q .non (upd H2 p (.ins B dx (FL k t n))):=λt H2 s2 ht=>by
   have Dp:H2 p≈(.ins B dx (A0 "width" (.int n) (A0 "book" (.ref k) []))):=s2 _ _ uS;have k2:∀ b o,b≠p->H b≈o->(upd H2 p (.ins B dx (FL k t n))) b≈o:=λb o hb e=>by rw[AD hb];exact s2 _ _ (kp b o hb e)
   refine q _ ⟨dx,t,us,uS,SV kd hp k2 nkp (λ_ _ z=>by cases z) (λ_ z=>by cases z),by rw[AD (λz=>by rw[z,Dp]at ht;cases ht)];exact ht,Paired.mapP hD λd v ⟨t',e,x⟩=>⟨t',e,k2 _ _ (λz=>by rw[z,hp]at x;cases x) x⟩⟩ k2
  refine⟨Z,l,us,Y,?_⟩;have no:=hlp (fs:=A0 "width" (.int n) (A0 "book" (.ref k) []));have wd:(A0 "width" (V.int n) (A0 "book" (V.ref k) [])).length<1000:=by show 2<1000;decide
  cases b with
  | true =>
   refine .inl ⟨no,λt ht=>⟨Z,p,B,dx,Z,(AI ht) _ _ uS,TB.cl,TB.nS,wd,fin t _ (AI ht) uS⟩⟩
  | false =>
   have e:(upd H1 p (.ins B dx (A0 "width" (.int n) (A0 "book" (.ref k) [])))) l≈(.tup us):=by
    have e0:=s1 _ _ (OI rfl);rw[AD (λz=>by rw[z,Fd]at e0;cases e0)];exact e0
   exact .inr ⟨no,Z,p,B,dx,Z,uS,TB.cl,TB.nS,wd,fin l _ (AA.refl _) e⟩
inductive SA(C B:δ)(vs:LV)(H:Hp)(Q:VK)(AJ:XK):Prop
 | mk:∀(p k:δ) (ρ:RS) (n:Nat) (ds:ξ),vs=[.ref p]->DV C B H p k ρ n ds->Q (.ref k) H->SA C B vs H Q AJ
inductive SO(C B:δ)(vs:LV)(H:Hp)(Q:VK)(AJ:XK):Prop
 | mk:∀(p k:δ) (ρ:RS) (n:Nat) (ds:ξ),vs=[.ref p]->DV C B H p k ρ n ds->Q (.int n) H->SO C B vs H Q AJ
inductive O9(C B:δ)(vs:LV)(H:Hp)(Q:VK)(AJ:XK):Prop
 | mk:∀(p k:δ) (ρ:RS) (n:Nat) (ds:ξ),vs=[.ref p]->DV C B H p k ρ n ds->(∀ l us,H l=none->EZ H ds us->Q (.ref l) (upd H l (.lst us)))->O9 C B vs H Q AJ
def Yf2:Aa ["self"] ["self"] (AL S1):=by nofun
def fJ(F:BR K "kinds" "Board.kinds" S1 f fd)(TB:Js K B):⋯ 1 f fd ["self"] (SA C B):=by
 nomatch F.ok Yf2
 ·obtain⟨p,k,ρ,n,ds,rfl,_⟩:=h;rfl
 ·obtain⟨p,k,ρ,n,ds,rfl,⟨dx,t,us,h1,h2,h3,h4⟩,q⟩:=h;exact⟨_,AF (AQ (Cm 0.9 rfl)),_,rfl,p,B,dx,_,_,rfl,h1,TB.cl,TB.nB,vo _ _ _,q⟩
def Yf1:Aa ["self"] ["self"] (AL TX):=by nofun
def gr(F:BR K "places" "Board.places" TX f fd)(TB:Js K B):⋯ 1 f fd ["self"] (SO C B):=by
 nomatch F.ok Yf1
 ·obtain⟨p,k,ρ,n,ds,rfl,_⟩:=h;rfl
 ·obtain⟨p,k,ρ,n,ds,rfl,⟨dx,t,us,h1,h2,h3,h4⟩,q⟩:=h;exact⟨_,AF (AQ (Cm 0.9 rfl)),_,rfl,p,B,dx,_,_,rfl,h1,TB.cl,TB.nW,vq _ _ _,q⟩
def Yf4:Aa ["self"] ["self"] (AL S0):=by nofun
def XJ(F:BR K "deeds" "Board.deeds" S0 f fd)(TB:Js K B)(list:mg "list"=none):⋯ 1 f fd ["self"] (O9 C B):=by
 nomatch F.ok Yf4
 ·obtain⟨p,k,ρ,n,ds,rfl,_⟩:=h;rfl
 ·obtain⟨p,k,ρ,n,ds,rfl,⟨dx,t,us,h1,h2,h3,h4⟩,q⟩:=h;exact⟨_,AF (AQ (C4 XY 1.0 list P8 (pC (Cm 0.9 rfl) AB))),_,rfl,p,B,dx,_,_,rfl,h1,TB.cl,TB.nS,vp _ _ _,t,us,rfl,.inr (AG.of h3),λl hl=>q l us hl h4⟩
abbrev bc(K:Fg)(B f:δ)(fd:FuncData):Prop:=Cw K B "kinds" "Board.kinds" S1 ["self"] f fd
abbrev c_(K:Fg)(B f:δ)(fd:FuncData):Prop:=Cw K B "places" "Board.places" TX ["self"] f fd
abbrev WB(K:Fg)(B f:δ)(fd:FuncData):Prop:=Cw K B "deeds" "Board.deeds" S0 ["self"] f fd
def CB(ρ:RS)(xs ys:LS):Bool:=(xs.zip ys).all λp=>Bn ρ p.1 p.2
def Pu(p:Str×Str):V×V:=(V.str p.1,V.str p.2)
def Rz(xs ys:LS):(xs.map V.str).zip (ys.map V.str)=(xs.zip ys).map Pu:=by rw[List.zip_map];rfl
def ed{α β:Type}{f:α->β}{l:List α}{i:Nat}{y:β}(h:(l.map f)[i]?≈y):∃ x,l[i]?≈x/\f x=y:=by
 rw[Ys]at h;exact E3.mp h
inductive PF(C:δ)(vs:LV)(H:Hp)(Q:VK)(AJ:XK):Prop
 | mk:∀(p a b:δ) (ρ:RS) (xs ys:LS),vs=[.ref p,.ref a,.ref b]->Bd C H p ρ->Ak ρ->H a≈(.tup (xs.map V.str))->H b≈(.tup (ys.map V.str))->(∀ x∈xs,x∈ρ.map 0.8)->(∀ y∈ys,y∈ρ.map 0.8)->(∀ H',AA H H'->Q (.bl (CB ρ xs ys)) H')->PF C vs H Q AJ
inductive Xb(C:δ)(vs:LV)(H:Hp)(Q:VK)(AJ:XK):Prop
 | mk:∀(p t:δ) (n:Nat) (ρ:RS) (xs:LS),vs=[.ref p,.int n,.ref t]->Bd C H p ρ->Ak ρ->H t≈(.tup (xs.map V.str))->Ec ρ n xs->n<=4->(∀ H',AA H H'->Q .non H')->Xb C vs H Q AJ
def Df(ρ:RS)(ds:ξ)(xs:LS):LN:=(List.range ↑ds).filter λi=>CB ρ xs (ds.getD i [])
inductive W9(C B:δ)(vs:LV)(H:Hp)(Q:VK)(AJ:XK):Prop
 | mk:∀(p k t:δ) (ρ:RS) (n:Nat) (ds:ξ) (xs:LS),vs=[.ref p,.ref t]->DV C B H p k ρ n ds->Ak ρ->Eb ρ n ds->n<=4->H t≈(.tup (xs.map V.str))->Ec ρ n xs->(∀ l H',H l=none->AA H H'->H' l≈(.lst ((Df ρ ds xs).map λi=>V.int (i:Nat)))->Q (.ref l) H')->W9 C B vs H Q AJ
abbrev l9:LS:=["kinds","one","other","low","high"]
def kQ:Aa l9 ["kinds","one","other"] (AL M8):=by nofun
def fh(F:Def K mg "within" M8 ["kinds","one","other"] f fd)(zip:mg "zip"=none)(TC:EC K C)(MU:iz K C fU fdU)(MC:VW K C fC fdC)(MH:Ho K C fH fdH):
  ⋯ 4 f fd ["kinds","one","other"] (PF C):=by
 have GU:⋯ 3 fU fdU ["self","one","other"] (cn C):=zA MU.fn TC MC MH
 nomatch F.fn.ok kQ
 ·obtain⟨p,a,b,ρ,xs,ys,rfl,_⟩:=h;rfl
 ·obtain⟨p,a,b,ρ,xs,ys,rfl,kd,g,ha,hb,hx,hy,q⟩:=h;obtain⟨dx,d,a1,o,oa,ν,AW,h1,_⟩:=kd.ex;have nd:=kQ.nd
  ac_nf
  refine⟨_,pS (Bm Yx rfl (jS 1.0 zip (pC 1.5 2.5)) (DU rfl (gC (gE 3 nd) (gC (gE 4 nd) DX)))
    (AF (Ag (Di (C0 (EL 0.9 TC.cl MU.me GU hr MU.b .nil BF (pC (pv 3) (pC (pv 4) AB))))) (AF (AQ F4)) Af)))
   (AF (AQ F4)),?_⟩
  exists let b:=_;AE (CM _ _ b) a _ _ _
  let Be:NW:=λi σ H'=>∃(u v:OV),σ=[↥(.ref p),↥(.ref a),↥(.ref b),u,v]/\AA H H'/\∀ z∈(xs.zip ys).take i,Bn ρ z.1 z.2=true;refine⟨Z,Z,a,b,_,Z,AG.of ha,AG.of hb,eV Be
   ⟨none,none,Y,AA.refl H,by simp⟩ (λi σ H' _ h0=>by obtain⟨_,_,_,s,_⟩:=h0;exact⟨AG.of (s _ _ ha),AG.of (s _ _ hb)⟩) ?_ ?_⟩
  ·rintro i pr t σ H' hi ⟨u,v,rfl,s1,hall⟩ Jk;rw[Rz]at hi;obtain⟨z,hz,rfl⟩:=ed hi;refine Vc ?_;have s2:=s1.trans (AI (o:=.tup [(Pu z).1,(Pu z).2]) Jk);have zm:=Yd hz;have hzx:=hx _ (Nc zm).1;have hzy:=hy _ (Nc zm).2;refine⟨Z,p,dx,Z,s2 _ _ h1,yI _ _,Z,Z,p,ρ,z.1,z.2,Y,kd.mono s2,g,hzx,hzy,Z,?_⟩;refine BG (λh=>?_) (λh=>?_)
   ·have e:CB ρ xs ys=false:=by
     unfold CB;rw[List.all_eq_false];exact⟨z,zm,by simpa using h⟩
    have q':=q _ s2;rw[e]at q';exact q'
   ·refine⟨_,Z,s2,λy Fc=>?_⟩;rw[Bu,hz]at Fc
    rcases Ym.mp Fc with m | m
    ·exact hall y m
    ·have:y=z:=by simpa using m
     rw[this];simpa using h
  ·rintro σ H' ⟨u,v,rfl,s1,hall⟩;rw[Rz,Ya,Bt]at hall;have e:CB ρ xs ys=true:=by
    unfold CB;rw[C6];exact hall
   have q':=q _ s1;rw[e]at q';exact q'
def Yf0:Aa D_ D_ (AL TL):=by nofun
def uO(F:Def K mg "check_call" TL D_ f fd)(DI:Def K mg "is_call" J5 D_ fI fdI)(len:mg "len"=none)(all:mg "all"=none)(TC:EC K C)(MH:Ho K C fH fdH):⋯ 3 f fd D_ (Xb C):=by
 have GI:⋯ 2 fI fdI D_ (SD C):=gs DI len all TC MH
 nomatch F.fn.ok Yf0
 ·obtain⟨p,t,n,ρ,xs,rfl,_⟩:=h;rfl
 ·obtain⟨p,t,n,ρ,xs,rfl,kd,g,ht,gc,hn,q⟩:=h
  ac_nf
  refine⟨_,AF (Ag (Di (C0 (AV DI GI hr (pC 0.9 (pC 1.5 2.5))))) Bj Af),?_⟩;refine⟨Z,Z,Z,p,t,n,ρ,xs,Y,kd,g,ht,by have:=gc.len;omega,λH' s'=>⟨Z,?_⟩⟩;rw[gc.is];exact AU (q H' s')
abbrev aH:LS:=["board","call","kinds"]
def j5:Aa aH ["board","call"] (AL PQ):=by nofun
def wC:(["number","deed","kinds","call"]:LS).Nodup:=by rfl'
def jq(p:V×V):V:=p.1
def yY{ρ:RS}{ds:ξ}{xs:LS}{us:LV}{p:V×V->Bool}(hl:↑ds=↑us)(h:∀ i (d:LS) v,ds[i]?≈d->us[i]?≈v->p (.int (i:Nat),v)=CB ρ xs d):
  ((Gg us).filter p).map jq=(Df ρ ds xs).map λi=>V.int (i:Nat):=by
 have e1:Gg us=(List.range ↑us).map λ(i:Nat)=>(V.int (i:Nat),us.getD i .non):=by
  refine List.ext_getElem? λi=>?_;by_cases hi:i<↑us
  ·have h1:(Gg us)[i]?≈((Gg us)[i]'(by rw[M_];exact hi)):=Yi (by rw[M_];exact hi);obtain⟨a,b⟩:=SU h1;rw[h1,Ys,List.getElem?_range hi];refine congrArg some (Prod.ext a ?_);show _=us.getD i .non;rw[Yz,b];rfl
  ·rw[NQ (by rw[M_];omega),NQ (by simp;omega)]
 rw[e1,P_,C5];unfold Df;rw[hl];have e2:(List.range ↑us).filter (p ∘ λ(i:Nat)=>(V.int (i:Nat),us.getD i .non))=(List.range ↑us).filter λi=>CB ρ xs (ds.getD i []):=by
  refine List.filter_congr λi hi=>?_;have hi:i<↑us:=List.mem_range.mp hi;have d1:ds[i]?≈(ds.getD i []):=by rw[Yz,Yi 0.0];rfl
  have u1:us[i]?≈(us.getD i .non):=by rw[Yz,Yi hi];rfl
  exact h i _ _ d1 u1
 rw[e2];rfl
def jk(ρ:RS)(ds:ξ)(xs:LS):V×V->Bool
 | (.int i,_)=>CB ρ xs (ds.getD i.toNat [])
 | _=>false
def rf(F:Def K mg "fitting" PQ ["board","call"] f fd)(T:Xo mg)(zip:mg "zip"=none)(TC:EC K C)(TB:Js K B)(MK:bc K B fK fdK)(MP:c_ K B fPl fdPl)(MD:WB K B fDe fdDe)
  (DCk:Def K mg "check_call" TL D_ fCk fdCk) (DW:Def K mg "within" M8 ["kinds","one","other"] fW fdW) (DI:Def K mg "is_call" J5 D_ fI fdI) (MU:iz K C fU fdU) (MC:VW K C fC fdC) (MH:Ho K C fH fdH):
  ⋯ 5 f fd ["board","call"] (W9 C B):=by
 have GK:⋯ 1 fK fdK ["self"] (SA C B):=fJ MK.fn TB;have GP:⋯ 1 fPl fdPl ["self"] (SO C B):=gr MP.fn TB;have GD:⋯ 1 fDe fdDe ["self"] (O9 C B):=XJ MD.fn TB T.list;have GC:⋯ 3 fCk fdCk D_ (Xb C):=uO DCk DI T.len T.all TC MH;have GW:⋯ 4 fW fdW ["kinds","one","other"] (PF C):=fh DW zip TC MU MC MH
 nomatch F.fn.ok j5
 ·obtain⟨p,k,t,ρ,n,ds,xs,rfl,_⟩:=h;rfl
 ·obtain⟨p,k,t,ρ,n,ds,xs,rfl,bd,g,gd,hn,ht,gc,q⟩:=h;obtain⟨dx,ts,us,h1,h2,h3,h4⟩:=bd.ex;have nd:=j5.nd;have Aq:Ab 1 _:=hr.mono 0.1;have Gb:Ab 3 _:=hr.mono 0.1
  ac_nf
  refine'⟨_,pS (Ez (i:=2) nd rfl 1.3 (D0 0.9 TB.cl MK.me GK Aq MK.b .nil BF))
   (pS (B8 (AV DCk GC Gb (pC 1.6 (pC (D0 0.9 TB.cl MP.me GP Aq MP.b .nil BF) 2.3))))
   (AF (AQ ?ea))),?_⟩
  case ea=>exact(Ea ["number","deed"] ["kinds","call"] [2,1] (λ_=>CC (osc:=AL PQ) (on:=aH) 0.7 rfl rfl rfl) (cY 1.0 T.enum (pC (D0 0.9 TB.cl MD.me GD Aq MD.b .nil BF) AB))
    (λC s H fp=>Ij (K:=K) (i:=0) (j:=1) rfl rfl wC rfl rfl 1.2 1.2 1.3 1.3)
    (λC s H fp=>My (C0 (AV DW GW hr (pC 1.6 (pC (pv 3) 2.3))))) (λC s H fp=>pv 0))
  exists let b:=AE _ a;AE _ b _ _ _
  refine⟨Z,p,dx,Z,h1,eg _ _ _,p,k,ρ,n,ds,Y,bd,?_⟩;refine⟨Z,Z,p,dx,Z,h1,gq _ _ _,p,k,ρ,n,ds,Y,bd,Z,k,t,n,ρ,xs,Y,h2,g,ht,gc,hn,λH1 s1=>?_⟩;refine⟨Z,p,dx,Z,s1 _ _ h1,XH _ _ _,p,k,ρ,n,ds,Y,bd.mono s1,λl Cd hl hD=>?_⟩;have s2:AA H1 (upd H1 l (.lst Cd)):=AI hl;have hul:=↑hD;have few:=gd.few;refine⟨true,l,Cd,Y,SqL.of uS,eQ (sL (by rw[M_];omega)) (jk ρ ds xs) jq (λH' s'=>SqL.of (s' _ _ uS)) ?_ ?_ ?_⟩
  ·intro x H' R s' hx hR;obtain⟨i,hi⟩:=Gx hx;obtain⟨e1,hu⟩:=SU hi;obtain⟨dd,hdd,t2,e2,AS⟩:=Bi hD hu;have A8:=s1.trans (s2.trans s');have gcd:=gd.call dd (Yd hdd);rw[e2];refine⟨Z,Z,Z,k,t,t2,ρ,xs,dd,Y,h2.mono A8,g,A8 _ _ ht,s' _ _ (s2 _ _ AS),gc.known,gcd.known,λH3 s3=>⟨Z,?_⟩⟩;have e:jk ρ ds xs x=CB ρ xs dd:=by
    obtain⟨x1,x2⟩:=x;have e1:x1=.int (i:Nat):=e1;rw[e1];show CB ρ xs (ds.getD ((i:Nat):Int).toNat [])=_;rw[GQ,Yz,hdd];rfl
   rw[<- e];exact hR H3 s3
  ·intro x H' R s' hx _ hR;exact⟨Z,hR H' (AA.refl _)⟩
  ·intro D H' E_ s' Fe;have A8:=s1.trans (s2.trans s');refine q D H' ?_ A8 ?_
   ·cases e:H D with
    | none=>rfl
    | some u=>have:=s2 _ _ (s1 _ _ e);rw[this]at E_;cases E_
   ·rw[Fe,yY hul λi d v hd hv=>?_];show CB ρ xs (ds.getD ((i:Nat):Int).toNat [])=_;rw[GQ,Yz,hd];rfl
def vC{H:Hp}{p a:δ}{o:HO}{ws:LS}(h:H p≈o)(ho:FI o)(ha:H a≈(.lst 1.1)):p≠a:=FJ h ha (by
 obtain⟨r,b,e,_⟩:=ho;rw[e];intro z;injection z with z;have z2:=congrArg (λl=>l[0]?) z;cases ws with
 | nil=>simp at z2
 | cons x r=>simp at z2)
theorem Drawn.tup{p:δ}{H H':Hp}(d:Drawn p H H'){o:HO}(h:H p≈o)(ho:FI o){t:δ}{xs:LV}(e:H t≈(.tup xs)):H' t≈(.tup xs):=
 d.keep _ _ (λz=>by rw[z,h]at e;obtain⟨_,_,q,_⟩:=ho;rw[q]at e;cases e) e
def NF{H H':Hp}{l:δ}{ρ:RS}(h:FQ H l ρ)(s:AA H H'):FQ H' l ρ:=by
 obtain⟨vs,a,p⟩:=h;exact⟨vs,s _ _ a,Paired.mapP p λr v ⟨t,u,e,h1,h2⟩=>⟨t,u,e,s _ _ h1,s _ _ h2⟩⟩
def XN{ws:LS}{v:Int}(h0:0<=v)(h1:v<↑1.1):∃ x∈ws,CL 1.1 v≈(.str x):=by
 have hl:v.toNat<↑ws:=by rw[Ya]at h1;omega
 refine⟨ws[v.toNat],List.getElem_mem hl,?_⟩;have e:((v.toNat:Nat):Int)=v:=by omega
 have q:CL 1.1 ((v.toNat:Nat):Int)≈(.str ws[v.toNat]):=by
  refine CA ?_;rw[Ys,Yi 0.0];rfl
 rw[e]at q;exact q
abbrev Dt:=PySem.W.Dat
def Eo(d:LS):Dt:=.tuple (d.map PySem.W.Dat.str)
def xo{d e:LS}(h:Eo d=Eo e):d=e:=by
 unfold Eo at h;injection h with h;exact List.map_inj_right (λa b z=>by injection z) |>.mp h
def Wl{K:Fg}{H:Hp}{t:δ}{d:LS}(h:H t≈(.tup (d.map V.str))):Rep K H (.ref t) (Eo d):=.tuple (AG.of h) (J4 d)
theorem gv{K:Fg}{H:Hp}:∀ {ds:ξ}{vs:LV},EZ H ds vs->A7 K H vs (ds.map Eo)
 | _,_,.nil=>.nil
 | _,_,.cons ⟨t,e,h⟩ r=>by rw[e];exact .cons (Wl h) (gv r)
def J7{ρ:RS}(g:Ak ρ):∀ x∈ρ.map 0.8,AR x=true:=λx hx=>by
 obtain⟨r,hr,e⟩:=Yg.mp hx;rw[<- e];exact g.word r hr
def Ox(n:Nat){x:Str}(h:AR x=true):W.kqdOk n (.str x)=true:=by
 have q:=Ra (ws:=[x]) (λy hy=>by rw[Yc.mp hy];exact h);rw[W.kqdOk]at q;have q2:W.kqdOk 8 (.str x)=true:=by simpa using q
 rw[W.kqdOk]at q2;rw[W.kqdOk];exact q2
def WS(n:Nat){d:LS}(h:∀ x∈d,AR x=true):W.kqdOk (n + 1) (Eo d)=true:=by
 unfold Eo;rw[W.kqdOk,C6];intro z hz;obtain⟨x,hx,rfl⟩:=Yg.mp hz;exact Ox n (h x hx)
def yT(n:Nat){ds:ξ}(h:∀ d∈ds,∀ x∈d,AR x=true):(ds.map Eo).all (W.kqdOk (n + 1))=true:=by
 rw[C6];intro z hz;obtain⟨d,hd,rfl⟩:=Yg.mp hz;exact WS n (h d hd)
def xg(ds:ξ)(d:LS):((ds.map Eo).any λe=>FC e (Eo d))=decide (d∈ds):=by
 by_cases h:d∈ds
 ·rw[Jb h,JL];exact⟨Eo d,Yg.mpr ⟨d,h,Y⟩,IF _⟩
 ·rw[Jc h,List.any_eq_false];intro z hz;obtain⟨e,he,rfl⟩:=Yg.mp hz;rw[O1 λq=>h (by rw[<- xo q];exact he)];exact Yl
abbrev Ybr(K:Fg):LV->Hp->VK->Prop:=λxs H Q=>∃ p ys,xs=[.ref p]/\(SqL K H p ys\/AG K H p ys)/\Q (.int ↑ys) H
structure zf(mg:Str->OU):Prop where
 len:mg "len"=none
 range:mg "range"=none
 tuple:mg "tuple"=none
def vY{H H':Hp}{ρ:RS}{AW:KL}(g:Ak ρ)(hA:C1 H ρ ρ AW)(s:AA H H'){x:Str}(hx:x∈ρ.map 0.8):∃(t:δ) (fs:LS),BE AW (Sum.inr x)≈(.ref t)/\H' t≈(.lst (fs.map V.str))/\∀ y,Bw (V.str y) (fs.map V.str)=Bn ρ x y:=by
 obtain⟨r,Av,er⟩:=J3 hx;obtain⟨t,fs,hv,ht,hfs⟩:=hA.val g.nd Av;refine⟨t,fs,by rw[<- er];exact hv,s _ _ ht,λy=>?_⟩;rw[Io];exact ef (by rw[er]at hfs;exact hfs) y
inductive XA(vs:LV)(H:Hp)(Q:VK)(AJ:XK):Prop
 | mk:∀(aa a b:δ) (ρ:RS) (AW:KL) (xs ys:LS),vs=[.ref aa,.ref a,.ref b]->Ak ρ->H aa≈(.dK AW)->C1 H ρ ρ AW->H a≈(.tup (xs.map V.str))->H b≈(.tup (ys.map V.str))->(∀ x∈xs,x∈ρ.map 0.8)->↑xs<=1000->(∀ H',AA H H'->Q (.bl (CB ρ xs ys)) H')->XA vs H Q AJ
def jV(ρ:RS):V×V->V
 | (.str x,.str y)=>.bl (Bn ρ x y)
 | _=>.non
def sJ(ρ:RS)(xs ys:LS):(((xs.map V.str).zip (ys.map V.str)).filter λ_=>true).map (jV ρ)=((xs.zip ys).map λp=>Bn ρ p.1 p.2).map V.bl:=by
 rw[xf,Rz,C5,C5];rfl
def vM:(["under","word","above"]:LS).Nodup:=by rfl'
structure zH(mg:Str->OU):Prop where
 all:mg "all"=none
 zip:mg "zip"=none
abbrev Kk:LS:=["above","one","other"]
def zu:Aa Kk Kk (AL Pf):=by nofun
def rm(F:Def K mg "_law_within" Pf Kk f fd)(T:zH mg):⋯ 1 f fd Kk XA:=by
 nomatch F.fn.ok zu
 ·obtain⟨aa,a,b,ρ,AW,xs,ys,rfl,_⟩:=h;rfl
 ·obtain⟨aa,a,b,ρ,AW,xs,ys,rfl,g,CU,hA,ha,hb,hx,hl,q⟩:=h;have hu:=Es hr
  ac_nf
  refine'⟨_,AF (AQ (A9 (R3 rfl) 1.0 T.all Tx (pC ?ea AB))),?_⟩
  case ea=>exact(Ea ["under","word"] ["above"] [0] (λ_=>CC (osc:=AL Pf) (on:=Kk) 0.7 rfl rfl rfl) (jS 1.0 T.zip (pC 1.5 2.5))
    (λC s H fp=>Ij (K:=K) (i:=0) (j:=1) rfl rfl vM rfl rfl 1.2 1.2 1.3 1.3) 2.9
    (λC s H fp=>C3 (r:=F2 K false) Iz 1.5 (Ip hu 1.6 0.9 0.2) 1.8))
  refine⟨Z,Z,a,b,_,Z,AG.of ha,AG.of hb,eQ (sL (by rw[List.length_zip,Ya];omega)) (λ_=>true) (jV ρ) (λH' s'=>⟨AG.of (s' _ _ ha),AG.of (s' _ _ hb)⟩) ?_ ?_ ?_⟩
  ·intro x H' R s' _ hR;exact hR H' (AA.refl _)
  ·intro x H' R s' hxm _ hR;rw[Rz]at hxm;obtain⟨z,hz,rfl⟩:=Yg.mp hxm;obtain⟨t,fs,hv,ht,hin⟩:=vY g hA s' (hx _ (Nc hz).1);refine⟨Z,Z,Z,aa,Z,(by rw[<- hv];exact Bl.k (k:=Sum.inr z.1) (s' _ _ CU)),t,Z,.inl (SqL.of ht),Y,NA fs,?_⟩;have e1:(if false=true then !Bw (Pu z).2 (fs.map V.str)else Bw (Pu z).2 (fs.map V.str))=Bn ρ z.1 z.2:=by rw[if_neg 0.1];exact hin z.2
   rw[e1];exact hR H' (AA.refl _)
  ·intro D H' hD s' Fe;refine⟨D,Z,SqL.of (by rw[Fe,sJ]),?_⟩;have q':=q H' s';unfold CB at q';show Q (.bl (((xs.zip ys).map λp=>Bn ρ p.1 p.2).all id)) _;rw[List.all_map];exact q'
def wB(ρ:RS)(ds:ξ)(j k:Nat):Bool:=CB ρ (ds.getD j []) (ds.getD k [])
def Ml(W:Nat->Nat->Bool)(θ:LN)(x:Nat):LN:=if θ.any (λk=>W k x)=true then θ else θ.filter (λk=>!W x k)++[x]
def UD(W:Nat->Nat->Bool)(l:LN):LN:=l.filter λk=>!(l.any λj=>!decide (j=k)&&W j k)
structure Gi(W:Nat->Nat->Bool)(l θ:LN):Prop where
 sub:θ.Sublist l
 min:∀ k∈θ,∀ j∈l,W j k=true->j=k
 dom:∀ j∈l,∃ k∈θ,k=j\/W k j=true
def Gi.nil(W:Nat->Nat->Bool):Gi W [] []:=⟨.slnil,(λk h=>nomatch h),(λk h=>nomatch h)⟩
def Gi.step{W:Nat->Nat->Bool}{l θ:LN}{x:Nat}{S:Nat->Prop}(tr:∀ a b c,S a->S b->S c->W a b=true->W b c=true->W a c=true)(an:∀ a b,S a->S b->W a b=true->W b a=true->a=b)(hl:∀ k∈l,S k)(hx:S x)(h:Gi W l θ):Gi W (l++[x]) (Ml W θ x):=by
 have ns:∀ k∈θ,S k:=λk hk=>hl k (h.sub.subset hk);unfold Ml;by_cases c:θ.any (λk=>W k x)=true
 ·rw[if_pos c];obtain⟨k0,C_,w0⟩:=JL.mp c;refine⟨h.sub.trans (List.sublist_append_left _ _),λk hk j hj w=>?_,λj hj=>?_⟩
  ·rcases Ym.mp hj with z | z
   ·exact h.min k hk j z w
   ·have e:j=x:=Yc.mp z;subst e;have e1:=h.min k hk k0 (h.sub.subset C_) (tr k0 j k (ns _ C_) hx (ns _ hk) w0 w);rw[e1]at w0;exact an j k hx (ns _ hk) w w0
  ·rcases Ym.mp hj with z | z
   ·exact h.dom j z
   ·rw[Yc.mp z];exact⟨k0,C_,.inr w0⟩
 ·rw[if_neg c];have nc:∀ k∈θ,¬ W k x=true:=λk hk w=>c (JL.mpr ⟨k,hk,w⟩);refine⟨List.Sublist.append (List.filter_sublist.trans h.sub) (List.Sublist.refl _),λk hk j hj w=>?_,λj hj=>?_⟩
  ·rcases Ym.mp hk with y | y
   ·obtain⟨y1,y2⟩:=IL.mp y
    rcases Ym.mp hj with z | z
    ·exact h.min k y1 j z w
    ·rw[Yc.mp z]at w;rw[w]at y2;cases y2
   ·have e:k=x:=Yc.mp y;subst e
    rcases Ym.mp hj with z | z
    ·obtain⟨k0,C_,d⟩:=h.dom j z
     rcases d with d | d
     ·rw[d]at C_;exact absurd w (nc j C_)
     ·exact absurd (tr k0 j k (ns _ C_) (hl _ z) hx d w) (nc k0 C_)
    ·exact Yc.mp z
  ·rcases Ym.mp hj with z | z
   ·obtain⟨k0,C_,d⟩:=h.dom j z;by_cases wx:W x k0=true
    ·refine⟨x,by simp,.inr ?_⟩
     rcases d with d | d
     ·rw[<- d];exact wx
     ·exact tr x k0 j hx (ns _ C_) (hl _ z) wx d
    ·exact⟨k0,Gy _ (IL.mpr ⟨C_,by simpa using wx⟩),d⟩
   ·rw[Yc.mp z];exact⟨x,by simp,.inl rfl⟩
theorem XW{α:Type}[DecidableEq α]:∀ {θ l:List α},θ.Sublist l->l.Nodup->θ=l.filter λk=>decide (k∈θ)
 | _,_,.slnil,_=>rfl
 | _,_,.cons a h,nd=>by
  obtain⟨n1,n2⟩:=FT.mp nd;rw[List.filter_cons,if_neg (by simpa using λm=>n1 (h.subset m))];exact XW h n2
 | _,_,.cons₂ (l₁:=n) (l₂:=l) a h,nd=>by
  obtain⟨n1,n2⟩:=FT.mp nd;rw[List.filter_cons,if_pos 0.6]
  congr 1
  have e:(l.filter λk=>decide (k∈a :: n))=l.filter λk=>decide (k∈n):=List.filter_congr λk hk=>by
   have:k≠a:=λz=>n1 (by rw[<- z];exact hk);simp[this]
  rw[e];exact XW h n2
def Gi.is{W:Nat->Nat->Bool}{l θ:LN}(nd:l.Nodup)(h:Gi W l θ):θ=UD W l:=by
 refine(XW h.sub nd).trans ?_;unfold UD;refine List.filter_congr λk hk=>?_;rw[IK,decide_eq_true_iff,Bool.not_eq_true',List.any_eq_false];constructor
 ·intro hm j hj z;rw[Ed]at z;have:=h.min k hm j hj z.2;simp[this]at z
 ·intro hm;obtain⟨k0,C_,d⟩:=h.dom k hk
  rcases d with d | d
  ·rw[<- d];exact C_
  ·by_cases e:k0=k
   ·rw[<- e];exact C_
   ·exact absurd (by rw[Ed];exact⟨by simp[e],d⟩) (hm k0 (h.sub.subset C_))
def Xa{ρ:RS}{x y:Str}:Bn ρ x y=true↔Graph.Reach (Ax ρ) x y:=by
 unfold Bn;exact @decide_eq_true_iff _ (Classical.propDecidable _)
def wu{ρ:RS}(g:Ak ρ):∃ rk:Str->Nat,∀ a b,b∈Ax ρ a->rk b<rk a:=by
 obtain⟨rk,hrk⟩:=g.rank;refine⟨rk,λa b hb=>?_⟩;unfold Ax at hb;cases e:ρ.lookup a with
 | none=>rw[e]at hb;simp at hb
 | some us =>
  rw[e]at hb;have hm:(a,us)∈ρ:=JI e;exact hrk (a,us) hm b hb
def sM{ρ:RS}(g:Ak ρ){x y:Str}(h1:Graph.Reach (Ax ρ) x y)(h2:Graph.Reach (Ax ρ) y x):x=y:=by
 obtain⟨rk,hrk⟩:=wu g;refine Tw λne=>?_;have a:=Graph.Reach.rank_lt hrk h1 ne;have b:=Graph.Reach.rank hrk h2;omega
def tK{ups:Str->LS}{x y z:Str}(h1:Graph.Reach ups x y)(h2:Graph.Reach ups y z):Graph.Reach ups x z:=h1.trans h2
def gh{ρ:RS}{xs ys:LS}:CB ρ xs ys=true↔∀(i:Nat) (x y:Str),xs[i]?≈x->ys[i]?≈y->Graph.Reach (Ax ρ) x y:=by
 unfold CB;rw[C6];constructor
 ·intro h i x y hx hy;have hz:(xs.zip ys)[i]?≈(x,y):=by rw[YI];exact⟨hx,hy⟩
  exact Xa.mp (h _ (Yd hz))
 ·intro h p hp;obtain⟨i,hi⟩:=Gx hp;rw[YI]at hi;exact Xa.mpr (h i _ _ hi.1 hi.2)
def uH{ρ:RS}{n:Nat}{xs ys zs:LS}(h1:↑xs=n)(h2:↑ys=n)(h3:↑zs=n)(a:CB ρ xs ys=true)(b:CB ρ ys zs=true):CB ρ xs zs=true:=by
 rw[gh]at a b ⊢;intro i x z hx hz;have hi:i<↑ys:=by have:=(Yu.mp hx).1;omega
 exact tK (a i x _ hx (Yi hi)) (b i _ z (Yi hi) hz)
def tO{ρ:RS}(g:Ak ρ){n:Nat}{xs ys:LS}(h1:↑xs=n)(h2:↑ys=n)(a:CB ρ xs ys=true)(b:CB ρ ys xs=true):xs=ys:=by
 rw[gh]at a b;refine List.ext_getElem (h1.trans h2.symm) λi i1 i2=>?_;exact sM g (a i _ _ (Yi i1) (Yi i2)) (b i _ _ (Yi i2) (Yi i1))
def IC{ds:ξ}{j:Nat}(h:j<↑ds):ds[j]?≈(ds.getD j []):=by
 rw[Yz,Yi h];rfl
section
variable {ρ:RS}{n:Nat}{ds:ξ}(g:Ak ρ)(gd:Eb ρ n ds)
include gd in
def pI(a b c:Nat)(ha:a<↑ds)(hb:b<↑ds)(hc:c<↑ds)(h1:wB ρ ds a b=true)(h2:wB ρ ds b c=true):wB ρ ds a c=true :=
 uH (gd.call _ (Yd (IC ha))).len (gd.call _ (Yd (IC hb))).len (gd.call _ (Yd (IC hc))).len h1 h2
include g gd in
def xO(a b:Nat)(ha:a<↑ds)(hb:b<↑ds)(h1:wB ρ ds a b=true)(h2:wB ρ ds b a=true):a=b:=by
 have e:=tO g (gd.call _ (Yd (IC ha))).len (gd.call _ (Yd (IC hb))).len h1 h2;have h3:=IC ha;have h4:=IC hb;rw[e]at h3;exact(List.getElem?_inj ha gd.nd).mp (h3.trans h4.symm)
include g gd in
def qK{l θ:LN}{x:Nat}(hl:∀ k∈l,k<↑ds)(hx:x<↑ds)(h:Gi (wB ρ ds) l θ):Gi (wB ρ ds) (l++[x]) (Ml (wB ρ ds) θ x):=
 h.step (S:=λk=>k<↑ds) (pI gd) (xO g gd) hl hx
end
inductive XU(C:δ)(vs:LV)(H:Hp)(Q:VK)(AJ:XK):Prop
 | mk:∀(p ld ln:δ) (x n:Nat) (ρ:RS) (ds:ξ) (us:LV) (θ:LN),vs=[.ref p,.ref ld,.ref ln,.int x]->Bd C H p ρ->Ak ρ->H ld≈(.lst us)->EZ H ds us->Eb ρ n ds->H ln≈(.lst (θ.map BK))->(∀ k∈θ,k<↑ds)->x<↑ds->↑θ<=64->(∀ l H',AA H H'->(l=ln\/H l=none)->H' l≈(.lst ((Ml (wB ρ ds) θ x).map BK))->Q (.ref l) H')->XU C vs H Q AJ
def wV(ρ:RS)(ds:ξ)(x:Nat):V->V
 | .int j=>.bl (wB ρ ds j.toNat x)
 | _=>.non
def aE(ρ:RS)(ds:ξ)(x:Nat):V->Bool
 | .int j=>!wB ρ ds x j.toNat
 | _=>false
def vZ(ρ:RS)(ds:ξ)(x:Nat)(θ:LN):((θ.map BK).filter λ_=>true).map (wV ρ ds x)=(θ.map λk=>wB ρ ds k x).map V.bl:=by
 rw[JG.mpr 0.2,C5,C5];rfl
def wJ(ρ:RS)(ds:ξ)(x:Nat)(θ:LN):((θ.map BK).filter (aE ρ ds x)).map (λv=>v)=(θ.filter λk=>!wB ρ ds x k).map BK:=by
 rw[List.map_id',P_];rfl
def cM:(["kept","kinds","deeds","number"]:LS).Nodup:=by rfl'
abbrev JY:LS:=["kinds","deeds","near","number"]
def zx:Aa JY JY (AL NJ):=by nofun
def t9(F:Def K mg "nearest_with" NJ JY f fd)(any:mg "any"=none)(DW:Def K mg "within" M8 ["kinds","one","other"] fW fdW)(GW:⋯ 4 fW fdW ["kinds","one","other"] (PF C)):
  ⋯ 5 f fd JY (XU C):=by
 nomatch F.fn.ok zx
 ·obtain⟨p,ld,ln,x,n,ρ,ds,us,θ,rfl,_⟩:=h;rfl
 ·obtain⟨p,ld,ln,x,n,ρ,ds,us,θ,rfl,kd,g,Dq,hD,gd,BN,hk,hx,hn,q⟩:=h
  ac_nf
  refine'⟨_,pS (Ag (C0 (A9 (dD rfl) 1.0 any PyProof.Rows.boot_any (pC ?ea AB))) (AF (AQ 1.6)) Af) (AF (AQ (Ai Jv ?eb (BH (pC (pv 3) AB))))),?_⟩
  case ea=>exact(Ea ["kept"] ["kinds","deeds","number"] [0,1,3] (λ_=>CC (osc:=AL NJ) (on:=JY) 0.7 rfl rfl rfl) (Co 1.6) (λC s H fp=>CF (i:=0) cM rfl 1.2 1.3) 2.9
    (λC s H fp=>AV DW GW hr (pC 1.5 (pC (AO (r:=Ao K) Ad 1.6 0.9 0.2) (pC (AO (r:=Ao K) Ad 1.6 (pv 3) 0.2) AB)))))
  case eb=>exact(Ea ["kept"] ["kinds","deeds","number"] [0,1,3] (λ_=>CC (osc:=AL NJ) (on:=JY) 0.7 rfl rfl rfl) (Co 1.6) (λC s H fp=>CF (i:=0) cM rfl 1.2 1.3)
    (λC s H fp=>My (Di (C0 (AV DW GW hr (pC 1.5 (pC (AO (r:=Ao K) Ad 1.6 (pv 3) 0.2) (pC (AO (r:=Ao K) Ad 1.6 0.9 0.2) AB))))))) (λC s H fp=>pv 0))
  exists AE _ a _ _ _
  have hul:=↑hD;have at_:∀(H':Hp) (k:Nat),AA H H'->k<↑ds->∃ t,CL us ((k:Nat):Int)≈(.ref t)/\H' t≈(.tup ((ds.getD k []).map V.str)):=λH' k s' hk=>by
   have Ci:k<↑us:=by omega
   obtain⟨dd,hdd,t,e,ht⟩:=Bi hD (Yi Ci);refine⟨t,CA ((Yi Ci).trans (congrArg some e)),?_⟩;have e2:ds.getD k []=dd:=by rw[Yz,hdd];rfl
   rw[e2];exact s' _ _ ht
  have kn:∀ k,k<↑ds->∀ y∈ds.getD k [],y∈ρ.map 0.8:=λk hk=>(gd.call _ (Yd (IC hk))).known;refine⟨Z,ln,Y,⟨_,SqL.of BN⟩,LB (Cq (xs:=θ.map BK)) (sL (by rw[Ya];omega)) (λ_=>true) (wV ρ ds x) (λH' s'=>s'.seq (SqL.of BN)) ?_ ?_ ?_⟩
  ·intro v H' R s' _ hR;exact hR H' (AA.refl _)
  ·intro v H' R s' hv _ hR;obtain⟨k,Ci,rfl⟩:=Yg.mp hv;obtain⟨t1,a1,h1⟩:=at_ H' k s' (hk k Ci);obtain⟨t2,a2,h2⟩:=at_ H' x s' hx;exact⟨Z,Z,Z,ld,G,Z,Y,SqL.of (s' _ _ Dq),a1,Z,Z,ld,G,Z,Y,SqL.of (s' _ _ Dq),a2,p,t1,t2,ρ,_,Z,kd.mono s',g,h1,h2,kn k (hk k Ci),kn x hx,λB1 Cf=>hR B1 Cf⟩
  ·intro D H1 E_ s1 Ap;rw[vZ]at Ap;have eA:(θ.map λk=>wB ρ ds k x).any id=θ.any λk=>wB ρ ds k x:=by rw[List.any_map];rfl
   refine⟨D,Z,SqL.of Ap,_,congrArg V.bl eA,?_⟩;refine BG (λh=>?_) (λh=>?_)
   ·refine⟨Z,q ln H1 s1 (.inl rfl) ?_⟩;unfold Ml;rw[if_pos h];exact s1 _ _ BN
   ·refine⟨Z,ln,Y,⟨_,SqL.of (s1 _ _ BN)⟩,LB (Cq (xs:=θ.map BK)) (sL (by rw[Ya];omega)) (aE ρ ds x) (λv=>v) (λH' s'=>s'.seq (SqL.of (s1 _ _ BN))) ?_ ?_ ?_⟩
    ·intro v H' R s' hv hR;obtain⟨k,Ci,rfl⟩:=Yg.mp hv;have s2:=s1.trans s';obtain⟨t1,a1,h1⟩:=at_ H' k s2 (hk k Ci);obtain⟨t2,a2,h2⟩:=at_ H' x s2 hx;exact⟨Z,Z,Z,ld,G,Z,Y,SqL.of (s2 _ _ Dq),a2,Z,Z,ld,G,Z,Y,SqL.of (s2 _ _ Dq),a1,p,t2,t1,ρ,_,Z,kd.mono s2,g,h2,h1,kn x hx,kn k (hk k Ci),λB1 Cf=>⟨Z,hR B1 Cf⟩⟩
    ·intro v H' R s' hv _ hR;exact⟨Z,hR H' (AA.refl _)⟩
    ·intro D2 H2 hD2 s2 Al;rw[wJ]at Al;have fl:↑(θ.filter λk=>!wB ρ ds x k)<=64:=BL (IJ _ _) hn;refine⟨Z,V,λl3 BA=>⟨D2,l3,_,Z,Y,(AI BA) _ _ Al,uS,sL (by rw[Ya];show _ + 1<=100000;omega),λl4 Bx=>?_⟩⟩;have Cu:=s1.trans s2;have s3:=Cu.trans (AI (o:=.lst [.int x]) BA);refine q l4 _ (s3.trans (AI Bx)) (.inr (s3.free Bx)) ?_;rw[uS];unfold Ml;rw[if_neg h,Br];rfl
inductive Xd(C B:δ)(vs:LV)(H:Hp)(Q:VK)(AJ:XK):Prop
 | mk:∀(p k l:δ) (ρ:RS) (n:Nat) (ds:ξ) (ms:LN),vs=[.ref p,.ref l]->DV C B H p k ρ n ds->Ak ρ->Eb ρ n ds->H l≈(.lst (ms.map BK))->(∀ j∈ms,j<↑ds)->ms.Nodup->↑ms<=64->(∀ l' H',AA H H'->H l'=none->H' l'≈(.lst ((UD (wB ρ ds) ms).map BK))->Q (.ref l') H')->Xd C B vs H Q AJ
abbrev mH:LS:=["board","numbers","kinds","deeds","near","number"]
def kJ:Aa mH ["board","numbers"] (AL Tc):=by nofun
def cL{ms:LN}{i:Nat}{v:V}(h:(ms.map BK)[i]?≈v):∃ x,ms[i]?≈x/\v=.int (x:Nat):=by
 obtain⟨x,h1,h2⟩:=ed h;exact⟨x,h1,h2.symm⟩
def uQ(F:Def K mg "nearest_among" Tc ["board","numbers"] f fd)(list:mg "list"=none)(any:mg "any"=none)(TB:Js K B)(MK:bc K B fK fdK)(MD:WB K B fDe fdDe)(DN:Def K mg "nearest_with" NJ JY fN fdN)
  (DW:Def K mg "within" M8 ["kinds","one","other"] fW fdW) (GW:⋯ 4 fW fdW ["kinds","one","other"] (PF C)):⋯ 6 f fd ["board","numbers"] (Xd C B):=by
 have GK:⋯ 1 fK fdK ["self"] (SA C B):=fJ MK.fn TB;have GD:⋯ 1 fDe fdDe ["self"] (O9 C B):=XJ MD.fn TB list;have GN:⋯ 5 fN fdN JY (XU C):=t9 DN any DW GW
 nomatch F.fn.ok kJ
 ·obtain⟨p,k,l,ρ,n,ds,ms,rfl,_⟩:=h;rfl
 ·obtain⟨p,k,l,ρ,n,ds,ms,rfl,bd,g,gd,hl,hms,GY,hml,q⟩:=h;obtain⟨dx,ts,D8,h1,h2,h3,h4⟩:=bd.ex;have nd:=kJ.nd;have Aq:Ab 1 _:=hr.mono 0.1
  ac_nf
  refine⟨_,(pS (sE 2 nd (D0 0.9 TB.cl MK.me GK Aq MK.b .nil BF))
   (pS (sE 3 nd (D0 0.9 TB.cl MD.me GD Aq MD.b .nil BF))
   (pS (sE 4 nd (BH AB))
   (pS (Bm Yx rfl (Co 1.5) (gE 5 nd) (AF (sE 4 nd (AV DN GN hr (pC 1.6 (pC (pv 3) (pC (pv 4) (pC (pv 5) AB))))))))
   (AF (AQ (pv 4))))))),?_⟩
  exists let b:=_;let c:=AE (CM _ _ b) a;let e:=AE _ c;let f:=AE _ e;AE _ f _ _ _
  refine⟨_,rfl,p,dx,_,rfl,h1,eg _ _ _,p,k,ρ,n,ds,rfl,bd,?_⟩;refine⟨_,rfl,p,dx,_,rfl,h1,XH _ _ _,p,k,ρ,n,ds,rfl,bd,λld us Dq hD=>?_⟩;have s1:AA H (upd H ld (.lst us)):=AI Dq;refine⟨BC _,λl0 Dd=>?_⟩;have s2:AA H (upd (upd H ld (.lst us)) l0 (.lst [])):=s1.trans (AI Dd);have Za:(upd (upd H ld (.lst us)) l0 (.lst [])) ld≈(.lst us):=(AI Dd) _ _ uS;have Zd:H l0=none:=s1.free Dd;let Be:NW:=λi σ H'=>∃(ln:δ) (θ:LN) (x:OV),σ=[↥(.ref p),↥(.ref l),↥(.ref k),↥(.ref ld),↥(.ref ln),x]/\AA H H'/\H' ld≈(.lst us)/\H ln=none/\H' ln≈(.lst (θ.map BK))/\Gi (wB ρ ds) (ms.take i) θ;refine⟨Z,l,Y,⟨_,SqL.of (s2 _ _ hl)⟩,CG (Cq (xs:=ms.map BK)) Be
   ⟨l0,[],none,Y,s2,Za,Zd,uS,Gi.nil _⟩ (λi σ H' _ h0=>by obtain⟨_,_,_,_,s',_⟩:=h0;exact SqL.of (s' _ _ hl)) ?_ ?_⟩
  ·rintro i v σ H' hi ⟨ln,θ,x0,rfl,s',L6,hlnH,BN,ok⟩;obtain⟨x,hx,rfl⟩:=cL hi;have nl:↑θ<=↑ms:=BL ok.sub.length_le (by rw[Yv];omega);refine⟨Z,Z,Z,Z,k,ld,ln,x,n,ρ,ds,us,θ,Y,h2.mono s',g,L6,hD.mono s',gd,BN,λj hj=>hms j (II (ok.sub.subset hj)),hms x (Yd hx),O,λl' H2 Cf hor Fe=>?_⟩;refine⟨l',_,Z,s'.trans Cf,Cf _ _ L6,?_,Fe,?_⟩
   ·rcases hor with z | z
    ·rw[z];exact hlnH
    ·exact s'.free z
   ·rw[Bu,hx];exact qK g gd (λj hj=>hms j (II hj)) (hms x (Yd hx)) ok
  ·rintro σ H' ⟨ln,θ,x0,rfl,s',L6,hlnH,BN,ok⟩;rw[Ya,Bt]at ok;refine⟨Z,q ln H' s' hlnH ?_⟩;rw[BN,ok.is GY]
def EJ(ρ:RS)(ds:ξ)(xs:LS):LN:=UD (wB ρ ds) (Df ρ ds xs)
inductive XC(C B:δ)(vs:LV)(H:Hp)(Q:VK)(AJ:XK):Prop
 | mk:∀(p k t:δ) (ρ:RS) (n:Nat) (ds:ξ) (xs:LS),vs=[.ref p,.ref t]->DV C B H p k ρ n ds->Ak ρ->Eb ρ n ds->n<=4->H t≈(.tup (xs.map V.str))->Ec ρ n xs->(∀ l H',H l=none->AA H H'->H' l≈(.lst ((EJ ρ ds xs).map BK))->Q (.ref l) H')->XC C B vs H Q AJ
def O2{ρ:RS}{ds:ξ}{xs:LS}:∀ k∈Df ρ ds xs,k<↑ds:=λk hk=>List.mem_range.mp (IL.mp hk).1
def vm(ρ:RS)(ds:ξ)(xs:LS):(Df ρ ds xs).Nodup:=List.nodup_range.filter _
def dz(ρ:RS)(ds:ξ)(xs:LS):↑(Df ρ ds xs)<=↑ds:=by
 unfold Df;refine BL (IJ _ _) ?_;rw[List.length_range];exact Ye _
def zy:Aa ["board","call"] ["board","call"] (AL SM):=by nofun
def rp(F:Def K mg "nearest" SM ["board","call"] f fd)(DA:Def K mg "nearest_among" Tc ["board","numbers"] fA fdA)(GA:⋯ 6 fA fdA ["board","numbers"] (Xd C B))(DF:Def K mg "fitting" PQ ["board","call"] fF fdF)(GF:⋯ 5 fF fdF ["board","call"] (W9 C B)):
  ⋯ 7 f fd ["board","call"] (XC C B):=by
 nomatch F.fn.ok zy
 ·obtain⟨p,k,t,ρ,n,ds,xs,rfl,_⟩:=h;rfl
 ·obtain⟨p,k,t,ρ,n,ds,xs,rfl,bd,g,gd,hn,ht,gc,q⟩:=h;have N8:Ab 5 _:=hr.mono 0.1;have few:=gd.few;have fl:=dz ρ ds xs
  ac_nf
  refine⟨_,AF (AQ (AV DA GA hr (pC 0.9 (pC (AV DF GF N8 (pC 0.9 2.3)) AB)))),?_⟩;refine⟨Z,Z,Z,p,k,t,ρ,n,ds,xs,Y,bd,g,gd,hn,ht,gc,λl H1 hl s1 Ap=>?_⟩;exact⟨p,k,l,ρ,n,ds,Df ρ ds xs,Y,bd.mono s1,g,gd,Ap,O2,vm _ _ _,O,λl' H2 s2 Fe h2=>q l' H2 (s1.free Fe) (s1.trans s2) h2⟩
def Ii:LN->LV
 | []=>[.str "none"]
 | [k]=>[.str "deed",BK k]
 | k :: j :: _=>[.str "clash",BK k,BK j]
inductive Wq(vs:LV)(H:Hp)(Q:VK)(AJ:XK):Prop
 | mk:∀(l:δ) (θ:LN),vs=[.ref l]->H l≈(.lst (θ.map BK))->(∀ t H',H t=none->AA H H'->H' t≈(.tup (Ii θ))->Q (.ref t) H')->Wq vs H Q AJ
def Ybb:Aa ["near"] ["near"] (AL SN):=by nofun
def sk(F:Def K mg "told_of" SN ["near"] f fd)(len:mg "len"=none):⋯ 1 f fd ["near"] Wq:=by
 nomatch F.fn.ok Ybb
 ·obtain⟨l,θ,rfl,_⟩:=h;rfl
 ·obtain⟨l,θ,rfl,hl,q⟩:=h
  ac_nf
  refine⟨_,pS (Ag (Di (Zip 0.9 (λ_=>rfl))) (AF (AQ (A5 (pC Ah AB)))) Af)
   (pS (Ag (An BP (A9 Cb 1.0 len BX (pC 0.9 AB)) AH (Aj _)) (AF (AQ (A5 (pC Ah (pC (AO Ad 0.9 AH 0.2) AB))))) Af)
   (AF (AQ (A5 (pC Ah (pC (AO Ad 0.9 AH 0.2) (pC (AO Ad 0.9 AH 0.2) AB))))))),?_⟩
  exists let b:=_;let c:=AE (By _ b _) a;AE _ c _ _ _
  cases θ with
  | nil=>exact⟨Z,false,.inl ⟨[],SqL.of hl,Y⟩,A4 ⟨V,λt ht=>q t _ ht (AI ht) uS⟩⟩
  | cons k r =>
   refine⟨Z,true,.inl ⟨_,SqL.of hl,Y⟩,AU ?_⟩;refine⟨Z,l,Z,.inl (SqL.of hl),Y,Z,?_⟩;cases r with
   | nil =>
    refine BG (λ_=>?_) (λh=>absurd 1.0 h);exact⟨Z,l,G,Z,Y,SqL.of hl,Y,W,λt ht=>q t _ ht (AI ht) uS⟩
   | cons j r =>
    refine BG (λh=>?_) (λ_=>?_)
    ·have h:=Je h;injection h with h;simp at h;omega
    ·exact⟨Z,l,G,Z,Y,SqL.of hl,CA (j:=0) rfl,Z,l,G,Z,Y,SqL.of hl,CA (j:=1) rfl,sL (by show 3<=100000;decide),λt ht=>q t _ ht (AI ht) uS⟩
inductive Vv(C B:δ)(vs:LV)(H:Hp)(Q:VK)(AJ:XK):Prop
 | mk:∀(p k t:δ) (ρ:RS) (n:Nat) (ds:ξ) (xs:LS),vs=[.ref p,.ref t]->DV C B H p k ρ n ds->Ak ρ->Eb ρ n ds->n<=4->H t≈(.tup (xs.map V.str))->Ec ρ n xs->(∀ l H',H l=none->AA H H'->H' l≈(.tup (Ii (EJ ρ ds xs)))->Q (.ref l) H')->Vv C B vs H Q AJ
def z9:Aa ["board","call"] ["board","call"] (AL Rg):=by nofun
def wY(F:Def K mg "told" Rg ["board","call"] f fd)(DN:Def K mg "nearest" SM ["board","call"] fN fdN)(GN:⋯ 7 fN fdN ["board","call"] (XC C B))(DO:Def K mg "told_of" SN ["near"] fO fdO)(len:mg "len"=none):
  ⋯ 8 f fd ["board","call"] (Vv C B):=by
 have GO:⋯ 1 fO fdO ["near"] Wq:=sk DO len
 nomatch F.fn.ok z9
 ·obtain⟨p,k,t,ρ,n,ds,xs,rfl,_⟩:=h;rfl
 ·obtain⟨p,k,t,ρ,n,ds,xs,rfl,bd,g,gd,hn,ht,gc,q⟩:=h;have Aq:Ab 1 _:=hr.mono 0.1
  ac_nf
  refine⟨_,AF (AQ (AV DO GO Aq (pC (AV DN GN hr (pC 0.9 2.3)) AB))),?_⟩;refine⟨_,rfl,_,rfl,p,k,t,ρ,n,ds,xs,rfl,bd,g,gd,hn,ht,gc,λl H1 hl s1 Ap=>?_⟩;exact⟨l,_,rfl,Ap,λt' H2 Ma s2 h2=>q t' H2 (s1.free Ma) (s1.trans s2) h2⟩
def To(K:Fg):Sp:=λvs H Q _=>∃(a:δ) (ns:List Int),vs=[.ref a]/\SqL K H a (ns.map V.int)/\↑ns<=63/\∀ H',Q (.bl true) H'
def YO(ρ:RS)(ds:ξ)(xs:LS):V->Bool
 | .int i=>CB ρ xs (ds.getD i.toNat [])
 | _=>false
def vi(ρ:RS)(ds:ξ)(xs:LS):((F9 0 ↑ds).filter (YO ρ ds xs)).map (λv=>v)=(Df ρ ds xs).map BK:=by
 rw[List.map_id',sI,P_];rfl
def WZ{H H':Hp}{ds:ξ}{us:LV}(hD:EZ H ds us)(s:AA H H'){k:Nat}(hk:k<↑ds):∃ t,CL us ((k:Nat):Int)≈(.ref t)/\H' t≈(.tup ((ds.getD k []).map V.str)):=by
 have hul:=↑hD;have Ci:k<↑us:=by omega
 obtain⟨dd,hdd,t,e,ht⟩:=Bi hD (Yi Ci);refine⟨t,CA ((Yi Ci).trans (congrArg some e)),?_⟩;have e2:ds.getD k []=dd:=by rw[Yz,hdd];rfl
 rw[e2];exact s _ _ ht
def sG{ρ:RS}{n:Nat}{ds:ξ}(gd:Eb ρ n ds){k:Nat}(hk:k<↑ds):∀ y∈ds.getD k [],y∈ρ.map 0.8:=(gd.call _ (Yd (IC hk))).known
def xq{ρ:RS}{n:Nat}{ds:ξ}(gd:Eb ρ n ds){k:Nat}(hk:k<↑ds):↑(ds.getD k [])=n:=(gd.call _ (Yd (IC hk))).len
inductive XT(vs:LV)(H:Hp)(Q:VK)(AJ:XK):Prop
 | mk:∀(aa ld t:δ) (n:Nat) (ρ:RS) (AW:KL) (ds:ξ) (us:LV) (xs:LS),vs=[.ref aa,.ref ld,.ref t]->Ak ρ->H aa≈(.dK AW)->C1 H ρ ρ AW->H ld≈(.lst us)->EZ H ds us->Eb ρ n ds->H t≈(.tup (xs.map V.str))->Ec ρ n xs->n<=4->(∀ l H',H l=none->AA H H'->H' l≈(.lst ((EJ ρ ds xs).map BK))->Q (.ref l) H')->XT vs H Q AJ
def Vk(ρ:RS)(ds:ξ)(k:Nat):V->V
 | .int j=>.bl (!decide (j.toNat=k)&&wB ρ ds j.toNat k)
 | _=>.non
def so(ρ:RS)(ds:ξ)(k:Nat)(fs:LN):((fs.map BK).filter λ_=>true).map (Vk ρ ds k)=(fs.map λj=>!decide (j=k)&&wB ρ ds j k).map V.bl:=by
 rw[JG.mpr 0.2,C5,C5];rfl
def v_:(["k","above","call","deeds"]:LS).Nodup:=by rfl'
def v9:(["j","k","above","deeds"]:LS).Nodup:=by rfl'
structure zF(mg:Str->OU):Prop where
 len:mg "len"=none
 range:mg "range"=none
 any:mg "any"=none
abbrev Um:LS:=["above","deeds","call","fits","found","k"]
def kG:Aa Um ["above","deeds","call"] (AL NI):=by nofun
def tU(F:Def K mg "_law_nearest" NI ["above","deeds","call"] f fd)(T:zF mg)(DLW:Def K mg "_law_within" Pf Kk fLW fdLW)(GLW:⋯ 1 fLW fdLW Kk XA):
  ⋯ 2 f fd ["above","deeds","call"] XT:=by
 nomatch F.fn.ok kG
 ·obtain⟨aa,ld,t,n,ρ,AW,ds,us,xs,rfl,_⟩:=h;rfl
 ·obtain⟨aa,ld,t,n,ρ,AW,ds,us,xs,rfl,g,CU,hA,Dq,hD,gd,ht,gc,hn,q⟩:=h;have nd:=kG.nd;have hul:=↑hD;have few:=gd.few
  ac_nf
  refine'⟨_,(pS (?e1)
   (pS (sE 4 nd (BH AB))
   (pS (Bm Yx rfl (Co (pv 3)) (CF (i:=5) nd rfl 1.3) (AF (Ag (Di (C0 (A9 (dD rfl) 1.0 T.any PyProof.Rows.boot_any (pC ?e2 AB)))) (AF (B8 (DQ EN Ft Fq FR (pv 4) (pC (pv 5) AB)))) Af)))
   (AF (AQ (pv 4)))))),?_⟩
  case e1=>exact(JA (k:=3) ["k"] ["above","call","deeds"] [0,2,1] nd rfl rfl (λ_=>CC (osc:=AL NI) (on:=Um) 0.7 rfl rfl rfl) (PV 1.0 T.range (pC (A9 Cb 1.0 T.len BX 2.3) AB)) (λC s H fp=>CF (i:=0) v_ rfl 1.2 1.3)
    (λC s H fp=>My (C0 (AV DLW GLW hr (pC 1.5 (pC 1.6 (pC (AO (r:=Ao K) Ad (pv 3) 0.9 0.2) AB)))))) (λC s H fp=>pv 0))
  case e2=>exact(Ea ["j"] ["k","above","deeds"] [5,0,1] (λ_=>CC (osc:=AL NI) (on:=Um) 0.7 rfl rfl rfl) (Co (pv 3)) (λC s H fp=>CF (i:=0) v9 rfl 1.2 1.3) 2.9
    (λC s H fp=>F7 (C3 OZ 0.9 1.5 (Aj _)) (IA (AV DLW GLW hr (pC 1.6 (pC (AO (r:=Ao K) Ad (pv 3) 0.9 0.2) (pC (AO (r:=Ao K) Ad (pv 3) 1.5 0.2) AB)))))))
  exists let b:=_;let c:=By _ b _;let e:=AE (CM _ _ c) a;let f:=AE _ e;AE _ f _ _ _
  refine⟨Z,ld,Z,.inl (SqL.of Dq),Z,O,O,LB PY (by rw[JC];exact sL 0.0) (YO ρ ds xs) (λv=>v) (λ_ _=>trivial) ?_ ?_ ?_⟩
  ·intro x H' R s' hx hR;obtain⟨j,hj⟩:=Gx hx;obtain⟨hj,rfl⟩:=JB hj;have hj:j<↑ds:=by omega
   obtain⟨tq,a1,htq⟩:=WZ hD s' hj;refine⟨Z,Z,Z,Z,ld,G,Z,Y,SqL.of (s' _ _ Dq),(by rw[Int.zero_add];exact a1),aa,t,tq,ρ,AW,xs,Z,g,s' _ _ CU,hA.mono λb xs e=>s' _ _ e,s' _ _ ht,htq,gc.known,by have:=gc.len;omega,λB1 Cf=>⟨Z,?_⟩⟩;have e:YO ρ ds xs (V.int (0 + (j:Nat)))=CB ρ xs (ds.getD j []):=by
    show CB ρ xs (ds.getD ((0:Int) + (j:Nat)).toNat [])=_;rw[Int.zero_add,GQ]
   rw[<- e];exact hR B1 Cf
  ·intro x H' R s' hx _ hR;exact⟨Z,hR H' (AA.refl _)⟩
  ·intro lf H1 hlf s1 RK;rw[show((↑us:Nat):Int).toNat=↑ds by omega,vi]at RK;have fl:=dz ρ ds xs;refine⟨BC _,λlo hlo=>?_⟩;have s2:AA H (upd H1 lo (.lst [])):=s1.trans (AI hlo);have loH:H lo=none:=s1.free hlo;have lflo:lf≠lo:=AK RK hlo;let Be:NW:=λi σ H'=>∃ x:OV,σ=[↥(.ref aa),↥(.ref ld),↥(.ref t),↥(.ref lf),↥(.ref lo),x]/\AA H H'/\H' lf≈(.lst ((Df ρ ds xs).map BK))/\H' lo≈(.lst ((((Df ρ ds xs).take i).filter λk=>!((Df ρ ds xs).any λj=>!decide (j=k)&&wB ρ ds j k)).map BK));refine⟨Z,lf,Y,⟨_,SqL.of ((AI hlo) _ _ RK)⟩,CG (Cq (xs:=(Df ρ ds xs).map BK)) Be
    ⟨none,Y,s2,(AI hlo) _ _ RK,by rw[uS];simp⟩ (λi σ H' _ h0=>by obtain⟨_,_,_,h',_⟩:=h0;exact SqL.of h') ?_ ?_⟩
   ·rintro i v σ H' hi ⟨x0,rfl,s',OE,E8⟩;obtain⟨k,hk,rfl⟩:=cL hi;have hkl:=O2 k (Yd hk);refine⟨Z,lf,Y,⟨_,SqL.of OE⟩,LB (Cq (xs:=(Df ρ ds xs).map BK)) (sL (by rw[Ya];omega)) (λ_=>true) (Vk ρ ds k) (λH' s'=>s'.seq (SqL.of OE)) ?_ ?_ ?_⟩
    ·intro v H2 R Kd _ hR;exact hR H2 (AA.refl _)
    ·intro v H2 R Kd hv _ hR;obtain⟨j,hj,rfl⟩:=Yg.mp hv;have hjl:=O2 j hj;have e:decide (BK j=V.int (k:Nat))=decide (j=k):=JK.mpr ⟨λz=>by unfold BK at z;injection z with z;omega,λz=>by rw[z];rfl⟩;have eo:Vk ρ ds k (BK j)=.bl (!decide (j=k)&&wB ρ ds j k):=rfl;rw[eo]at hR;refine⟨Z,Z,Y,Z,?_⟩;rw[e];refine BG (λh=>?_) (λh=>?_)
     ·have s3:=s'.trans Kd;obtain⟨t1,a1,h1⟩:=WZ hD s3 hjl;obtain⟨t2,a2,h2⟩:=WZ hD s3 hkl;rw[h,DY]at hR;exact⟨Z,Z,Z,ld,G,Z,Y,SqL.of (s3 _ _ Dq),a1,Z,Z,ld,G,Z,Y,SqL.of (s3 _ _ Dq),a2,aa,t1,t2,ρ,AW,_,Z,g,s3 _ _ CU,hA.mono λb xs e=>s3 _ _ e,h1,h2,sG gd hjl,by have:=xq gd hjl;omega,λB1 Cf=>hR B1 Cf⟩
     ·rw[show(!decide (j=k))=false by simpa using h,JF]at hR;exact hR H2 (AA.refl _)
    ·intro D H2 E_ Kd Al;rw[so]at Al;have eA:((Df ρ ds xs).map λj=>!decide (j=k)&&wB ρ ds j k).any id=(Df ρ ds xs).any λj=>!decide (j=k)&&wB ρ ds j k:=by rw[List.any_map];rfl
     refine⟨D,Z,SqL.of Al,_,congrArg V.bl eA,?_⟩;have s3:=s'.trans Kd;have L4:=Kd _ _ E8;have tk:=Pd (λk=>!((Df ρ ds xs).any λj=>!decide (j=k)&&wB ρ ds j k)) (Df ρ ds xs) i k hk;refine BG (λh=>?_) (λh=>?_)
     ·refine⟨Z,.inl ⟨Y,_,SqL.of L4⟩,Z,lo,_,Z,Y,L4,B0 (by rw[Ya];exact BL (IJ _ _) (by rw[Yv];omega)),Z,λb o e=>by rw[AD (AK e loH)];exact s3 _ _ e,by rw[AD lflo];exact Kd _ _ OE,?_⟩;rw[uS,tk,h,if_pos rfl,Br];rfl
     ·refine⟨Z,s3,Kd _ _ OE,?_⟩;rw[L4,tk,if_neg h,EM]
   ·rintro σ H' ⟨x0,rfl,s',OE,E8⟩;rw[Ya,Bt]at E8;exact⟨Z,q lo H' loH s' E8⟩
inductive WN(vs:LV)(H:Hp)(Q:VK)(AJ:XK):Prop
 | mk:∀(aa ld t:δ) (n:Nat) (ρ:RS) (AW:KL) (ds:ξ) (us:LV) (xs:LS),vs=[.ref aa,.ref ld,.ref t]->Ak ρ->H aa≈(.dK AW)->C1 H ρ ρ AW->H ld≈(.lst us)->EZ H ds us->Eb ρ n ds->H t≈(.tup (xs.map V.str))->Ec ρ n xs->n<=4->(∀ l H',H l=none->AA H H'->H' l≈(.tup (Ii (EJ ρ ds xs)))->Q (.ref l) H')->WN vs H Q AJ
section
variable {H H':Hp}{p:δ}{o:HO}(hp:H p≈o)(ho:FI o)(k:∀ b o,b≠p->H b≈o->H' b≈o)
include hp ho k
def qm{ρ all:RS}{AW:KL}(h:C1 H all ρ AW):C1 H' all ρ AW :=
 Paired.mapP h λr p ⟨e,t,fs,e2,ht,al,le⟩=>⟨e,t,fs,e2,k _ _ (Yw (vC hp ho ht)) ht,al,le⟩
end
abbrev zZ:LS:=["above","deeds","call","near"]
def ix:Aa zZ ["above","deeds","call"] (AL Ss):=by nofun
def y9(F:Def K mg "_law_told" Ss ["above","deeds","call"] f fd)(len:mg "len"=none)
  (DLN:Def K mg "_law_nearest" NI ["above","deeds","call"] fLN fdLN) (GLN:⋯ 2 fLN fdLN ["above","deeds","call"] XT):⋯ 3 f fd ["above","deeds","call"] WN:=by
 nomatch F.fn.ok ix
 ·obtain⟨aa,ld,t,n,ρ,AW,ds,us,xs,rfl,_⟩:=h;rfl
 ·obtain⟨aa,ld,t,n,ρ,AW,ds,us,xs,rfl,g,CU,hA,Dq,hD,gd,ht,gc,n4,q⟩:=h;have nd:=ix.nd;have hu:=hr.units
  ac_nf
  refine'⟨_,(pS (sE 3 nd (AV DLN GLN hr (pC 0.9 (pC 1.5 2.5))))
   (pS (Ag (An (Rb hu) (pv 3) (BH AB) (Aj _)) (AF (AQ (A5 (pC Ah AB)))) Af)
   (pS (Ag (An BP (A9 Cb 1.0 len BX (pC (pv 3) AB)) AH (Aj _)) (AF (AQ (A5 (pC Ah (pC (AO Ad (pv 3) AH 0.2) AB))))) Af)
   (AF (AQ (A5 (pC Ah (pC (AO Ad (pv 3) AH 0.2) (pC (AO Ad (pv 3) AH 0.2) AB))))))))),?_⟩
  exists let b:=_;let c:=AE (By _ b _) a;let e:=AE _ c;AE _ e _ _ _
  refine⟨Z,Z,Z,aa,ld,t,n,ρ,AW,ds,us,xs,Y,g,CU,hA,Dq,hD,gd,ht,gc,n4,λl H1 Dd s1 hl=>?_⟩;generalize EJ ρ ds xs=θ at hl q;refine⟨Z,BC _,λl0 Ze=>?_⟩;have s2:AA H1 (upd H1 l0 (.lst [])):=AI Ze;have bF:(upd H1 l0 (.lst [])) l0≈(.lst []):=uS;generalize upd H1 l0 (.lst [])=H2 at s2 bF;have s3:=s1.trans s2;have hl:=s2 _ _ hl;have fin:∀ t' UW,H2 t'=none->Ii θ=UW->Q (.ref t') (upd H2 t' (.tup UW)):=λt' UW h e=>q t' _ (s3.free h) (s3.trans (AI h)) (by rw[uS,e]);refine⟨.list (θ.map LX),.list [],yw hl,.list (SqL.of bF) .nil,cj 8 _,cj 8 [],Z,?_⟩;cases θ with
  | nil =>
   rw[show FC (.list (([]:LN).map LX)) (.list [])=true from IF _];exact A4 ⟨V,λt ht=>fin t _ ht rfl⟩
  | cons k r =>
   rw[show FC (.list ((k :: r).map LX)) (.list [])=false from O1 (λz=>by injection z with z;cases z)];refine AU ?_;refine⟨Z,l,Z,.inl (SqL.of hl),Y,Z,?_⟩;cases r with
   | nil =>
    refine BG (λ_=>?_) (λh=>absurd 1.0 h);exact⟨Z,l,G,Z,Y,SqL.of hl,Y,W,λt ht=>fin t _ ht rfl⟩
   | cons j r =>
    refine BG (λh=>?_) (λ_=>?_)
    ·have h:=Je h;injection h with h;simp at h;omega
    ·exact⟨Z,l,G,Z,Y,SqL.of hl,CA (j:=0) rfl,Z,l,G,Z,Y,SqL.of hl,CA (j:=1) rfl,sL (by show 3<=100000;decide),λt ht=>fin t _ ht rfl⟩
def Tf(r:Str×LS):PySem.W.Dat:=.tuple [.str r.1,.tuple (r.2.map PySem.W.Dat.str)]
theorem gx{K:Fg}{H:Hp}:∀ {ρ:RS}{vs:LV},Paired (J9 H) ρ vs->A7 K H vs (ρ.map Tf)
 | _,_,.nil=>.nil
 | _,_,.cons h t=>by
  obtain⟨a,u,rfl,h1,h2⟩:=h;exact .cons (.tuple (AG.of h1) (.cons (.str _) (.cons (.tuple (AG.of h2) (J4 _)) .nil))) (gx t)
def xN{ρ:RS}(g:Ak ρ){r:Str×LS}(hr:r∈ρ):∀ u∈r.2,AR u=true:=λu hu=>by
 obtain⟨q,hq,e⟩:=Yg.mp (g.known r hr u hu);rw[<- e];exact g.word q hq
def yD{K:Fg}{C B:δ}{Hx:Hp}{xb yb dy lz:δ}{n:Nat}{ρ:RS}{ds:ξ}{us:LV}{R:Hp->Prop}{E:XK}(ny:Hx yb=none)(ndy:Hx dy=none)(kd:Bd C Hx xb ρ)(g:Ak ρ)(hz:Hx lz≈(.lst us)\/Hx lz≈(.tup us))(hD:EZ Hx ds us)(gd:Eb ρ n ds)(n1:1<=n)(n4:n<=4)(h:∀ H',AA Hx H'->DV C B H' yb xb ρ n ds->R H'):
  Ru K C B [.ref yb,.ref xb,.int n,.ref lz] (upd (upd Hx dy (.own yb)) yb (.ins B dy [])) (λv H3=>v=.non/\R H3) E:=by
 have Ar:AA Hx (upd (upd Hx dy (.own yb)) yb (.ins B dy [])):=λb o e=>by
  have e1:(upd Hx dy (.own yb)) b≈o:=by rw[AD (AK e ndy)];exact e
  rw[AD (AK e ny)];exact e1
 exact⟨yb,dy,xb,lz,n,ρ,ds,us,Y,uS,kd.mono Ar,g,hz.elim (λe=>.inl (SqL.of (Ar _ _ e))) (λe=>.inr (Ar _ _ e)),hD.mono Ar,gd,n1,n4,λH5 bd Qn=>⟨Y,h H5 (λb o e=>Qn b o (AK e ny) (Ar _ _ e)) bd⟩⟩
abbrev AN:=Str×Nat×List (LS×Str)
def UJ(H:Hp)(p:LS×Str)(v:V):Prop:=∃ t tc:δ,v=V.ref t/\H t≈(.tup [.ref tc,.str p.2])/\H tc≈(.tup (p.1.map V.str))
def EF(H:Hp)(ps:List (LS×Str))(vs:LV):Prop:=Paired (UJ H) ps vs
def EF.mono{H H':Hp}{ps:List (LS×Str)}{vs:LV}(h:EF H ps vs)(k:∀ b xs,H b≈(.tup xs)->H' b≈(.tup xs)):EF H' ps vs:=Paired.mapP h λ_ _ ⟨t,tc,e,h1,h2⟩=>⟨t,tc,e,k _ _ h1,k _ _ h2⟩
def CN{H H':Hp}(s:AA H H'):∀ b xs,H b≈(.tup xs)->H' b≈(.tup xs):=λ_ _ e=>s _ _ e
def OX(K:Fg)(H:Hp)(n:AN)(v:V):Prop:=∃(t tp:δ) (b:Bool) (vs:LV),v=V.ref t/\H t≈(.tup [.str n.1,.int n.2.1,.ref tp])/\Cr K b H tp vs/\EF H n.2.2 vs
theorem OX.mono{K:Fg}{H H':Hp}{n:AN}{v:V}(h:OX K H n v)(s:AA H H'):OX K H' n v:=by
 obtain⟨t,tp,b,vs,e,h1,h2,h3⟩:=h;exact⟨t,tp,b,vs,e,s _ _ h1,h2.mono s,h3.mono (CN s)⟩
structure PK(ρ:RS)(n:AN):Prop where
 word:AR n.1=true
 one:1<=n.2.1
 four:n.2.1<=4
 deeds:Eb ρ n.2.1 (n.2.2.map 0.8)
 made:∀ p∈n.2.2,p.2∈ρ.map 0.8
structure B9(ρ:RS)(ns:List AN):Prop where
 few:↑ns<=8
 each:∀ n∈ns,PK ρ n
 nd:(ns.map 0.8).Nodup
def zW:¬ (("book":Str)="made_of"):=by rfl'
def zX:¬ (("book":Str)="board_of"):=by rfl'
def zY:¬ (("board_of":Str)="made_of"):=by rfl'
def Er(k bo mo:δ):List (Str×V):=A0 "made_of" (.ref mo) (A0 "board_of" (.ref bo) (A0 "book" (.ref k) []))
def vt(k bo mo:δ):(Er k bo mo).lookup ("book":Str)≈(.ref k):=by
 unfold Er;rw[CD,if_neg zW,CD,if_neg zX,CD,if_pos rfl]
def V8(k bo mo:δ):(Er k bo mo).lookup ("board_of":Str)≈(.ref bo):=by
 unfold Er;rw[CD,if_neg zY,CD,if_pos rfl]
def vv(k bo mo:δ):(Er k bo mo).lookup ("made_of":Str)≈(.ref mo):=by
 unfold Er;rw[CD,if_pos rfl]
def R5(k bo mo:δ){m:Str}(h1:¬ m="made_of")(h2:¬ m="board_of")(h3:¬ m="book"):(Er k bo mo).lookup m=none:=by
 unfold Er;rw[CD,if_neg h1,CD,if_neg h2,CD,if_neg h3];rfl
def CZ(R:AN->V->Prop)(ns:List AN)(ν:KL):Prop:=Paired (λ(n:AN) (p:Key×V)=>p.1=Sum.inr n.1/\R n p.2) ns ν
def CZ.imp{R S:AN->V->Prop}{ns:List AN}{ν:KL}(h:CZ R ns ν)(f:∀ n v,R n v->S n v):CZ S ns ν:=Paired.mapP h λ_ _ z=>⟨z.1,f _ _ z.2⟩
theorem CZ.keys{R:AN->V->Prop}:∀ {ns:List AN}{ν:KL},CZ R ns ν->ν.map 0.8=ns.map λn=>(Sum.inr n.1:Key)
 | _,_,.nil=>rfl
 | _,_,.cons r t=>by rw[Yy,Yy,r.1,CZ.keys t]
theorem CZ.val{R:AN->V->Prop}:∀ {ns:List AN}{ν:KL},CZ R ns ν->(ns.map 0.8).Nodup->∀ {n:AN},n∈ns->∃ v,BE ν (Sum.inr n.1)≈v/\R n v
 | _,_,.nil,_,n,h=>nomatch h
 | q :: rs,p :: ps,.cons z t,nd,n,h=>by
  have GY:(q.1 :: rs.map 0.8).Nodup:=nd;obtain⟨n1,n2⟩:=FT.mp GY;obtain⟨z1,z2⟩:=z
  rcases Yk.mp h with e | h
  ·subst e;exact⟨p.2,by rw[Ey z1],z2⟩
  ·have ne:¬ p.1=(Sum.inr n.1:Key):=λe=>n1 (by
    rw[z1]at e;have e':q.1=n.1:=by injection e
    rw[e'];exact Yg.mpr ⟨n,h,Y⟩)
   obtain⟨v,h1,h2⟩:=CZ.val t n2 h;exact⟨v,by rw[Ex ne];exact h1,h2⟩
def CZ.not{R:AN->V->Prop}{ns:List AN}{ν:KL}(h:CZ R ns ν){x:Str}(hx:x∉ns.map 0.8):BE ν (Sum.inr x)=none:=Gu λz=>hx (by
 rw[h.keys]at z;obtain⟨n,hn,e⟩:=Yg.mp z;have e':n.1=x:=by injection e
 exact Yg.mpr ⟨n,hn,e'⟩)
def CZ.some{R:AN->V->Prop}{ns:List AN}{ν:KL}(h:CZ R ns ν){x:Str}(hx:x∈ns.map 0.8):(BE ν (Sum.inr x)).isSome=true:=Sj (by
 rw[h.keys];obtain⟨n,hn,e⟩:=Yg.mp hx;exact Yg.mpr ⟨n,hn,by rw[e]⟩)
inductive JT(C B:δ)(H:Hp)(k:δ)(ρ:RS)(n:AN)(v:V):Prop
 | mk:∀ y,v=.ref y->DV C B H y k ρ n.2.1 (n.2.2.map 0.8)->JT C B H k ρ n v
inductive JO(Z:δ->Prop)(H:Hp)(n:AN)(v:V):Prop
 | mk:∀ l,v=.ref l->H l≈(.lst ((n.2.2.map (·.2)).map V.str))->¬ Z l->JO Z H n v
structure BI(Z:δ->Prop)(C B D:δ)(H:Hp)(p k:δ)(ρ:RS)(ns:List AN):Prop where
 ex:∃(dx bo mo:δ) (o:Obj) (A3 BD:KL),H p≈(.ins D dx (Er k bo mo))/\Bd C H k ρ/\H bo≈(.frz o (.dK A3))/\CZ (JT C B H k ρ) ns A3/\H mo≈(.dK BD)/\CZ (JO Z H) ns BD
abbrev Fp:=BI λ_=>False
def BI.at_{Z:δ->Prop}{C B D:δ}{H:Hp}{p k:δ}{ρ:RS}{ns:List AN}(h:BI Z C B D H p k ρ ns):Fp C B D H p k ρ ns:=by
 obtain⟨dx,bo,mo,o,A3,BD,h1,h2,h3,h4,h5,h6⟩:=h.ex;exact⟨dx,bo,mo,o,A3,BD,h1,h2,h3,h4,h5,h6.imp λn v ⟨l,e,b,_⟩=>⟨l,e,b,id⟩⟩
theorem BI.mono{Z:δ->Prop}{C B D:δ}{H H':Hp}{p k:δ}{ρ:RS}{ns:List AN}(h:BI Z C B D H p k ρ ns)(s:AA H H'):BI Z C B D H' p k ρ ns:=by
 obtain⟨dx,bo,mo,o,A3,BD,h1,h2,h3,h4,h5,h6⟩:=h.ex;exact⟨dx,bo,mo,o,A3,BD,s _ _ h1,h2.mono s,s _ _ h3,h4.imp λn v ⟨y,e,b⟩=>⟨y,e,b.mono s⟩,s _ _ h5,h6.imp λn v ⟨l,e,b,z⟩=>⟨l,e,s _ _ b,z⟩⟩
def r_{C B:δ}{H H':Hp}{p k q:δ}{o:HO}{ρ:RS}{n:Nat}{ds:ξ}(h:DV C B H p k ρ n ds)(hq:H q≈o)(no:∀ o' u,o≠.frz o' u)(nt:∀ xs,o≠.tup xs)(ni:∀ c d f,o≠.ins c d f)(s:∀ b o,b≠q->H b≈o->H' b≈o):DV C B H' p k ρ n ds:=by
 obtain⟨dx,t,us,h1,h2,h3,h4⟩:=h.ex;have ne:∀ {b u},H b≈u->o≠u->b≠q:=λ{b u} e n z=>by rw[z,hq]at e;exact n (Bk e)
 have nk:k≠q:=by
  obtain⟨_,_,_,_,_,_,_,e,_⟩:=h2.ex;exact ne e (ni _ _ _)
 exact⟨dx,t,us,s _ _ (ne h1 (ni _ _ _)) h1,SV h2 hq s nk no nt,s _ _ (ne h3 (nt _)) h3,Paired.mapP h4 λ_ _ ⟨t',e,x⟩=>⟨t',e,s _ _ (ne x (nt _)) x⟩⟩
def Hh(H:Hp):V->V
 | .ref t=>match H t with
  | some (.tup [x,_])=>x
  | _=>.non
 | _=>.non
def Fz(H:Hp):V->V
 | .ref t=>match H t with
  | some (.tup [_,x])=>x
  | _=>.non
 | _=>.non
def Rh{H:Hp}{t:δ}{x y:V}(h:H t≈(.tup [x,y])):Hh H (.ref t)=x:=by show(match H t with | some (.tup [x,_])=>x | _=>.non)=x;rw[h]
def Oo{H:Hp}{t:δ}{x y:V}(h:H t≈(.tup [x,y])):Fz H (.ref t)=y:=by show(match H t with | some (.tup [_,x])=>x | _=>.non)=y;rw[h]
def qg{H:Hp}{p:LS×Str}{v:V}(h:UJ H p v):∃ tc,Hh H v=.ref tc/\H tc≈(.tup (p.1.map V.str)):=by
 obtain⟨t,tc,rfl,h1,h2⟩:=h;exact⟨tc,Rh h1,h2⟩
def qh{H:Hp}{p:LS×Str}{v:V}(h:UJ H p v):Fz H v=.str p.2:=by
 obtain⟨t,tc,rfl,h1,h2⟩:=h;exact Oo h1
theorem fo{H:Hp}:∀ {ps:List (LS×Str)}{vs:LV},EF H ps vs->EZ H (ps.map 0.8) (vs.map (Hh H))
 | _,_,.nil=>.nil
 | _,_,.cons h t=>by
  obtain⟨tc,e,h2⟩:=qg h;exact .cons ⟨tc,e,h2⟩ (fo t)
theorem fq{H:Hp}:∀ {ps:List (LS×Str)}{vs:LV},EF H ps vs->vs.map (Fz H)=(ps.map (·.2)).map V.str
 | _,_,.nil=>rfl
 | _,_,.cons h t=>by rw[Yy,Yy,Yy,qh h,fq t]
def eO{K:Fg}{J:It}{vs:LV}{Ok:Hp->Prop}(R:EW J vs Ok)(i:Nat)(f:V->V){σ:St}{Q:VK}{H1:Hp}{ps:List (LS×Str)}(hz:↑vs<=1000)(hp:EF H1 ps vs)(hf:∀ v,[↥(Hh H1 v),↥(Fz H1 v)][i]?≈(↥(f v)))(hok:∀ H,AA H1 H->Ok H)
  (hd:∀ D H',H1 D=none->AA H1 H'->H' D≈(.lst (vs.map f))->Q (.ref D) H'):AZ 2 [] (g2 K 0 1) RY (NO i) σ Q J H1:=by
 refine eN R (sL 0.0) (λ_=>true) (λ_ x v _=>v=f x) (Hh H1) (Fz H1) (λ_ _ _ _ _ _ z=>z) hok (λx hx=>?_) ?_ ?_ ?_
 ·obtain⟨j,hj⟩:=Gx hx;obtain⟨p,_,t,tc,rfl,h1,_⟩:=Bi hp hj;exact⟨t,Y,by rw[Rh h1,Oo h1];exact h1⟩
 ·intro x H' R' _ _ OJ;exact OJ H' (AA.refl _)
 ·intro D x H' R' _ _ _ _ _ OJ;exact⟨f x,hf x,OJ _ H' (AA.refl _) rfl⟩
 ·intro D H' ys hD s hl hq;rw[JG.mpr 0.2]at hq;rw[NB hq]at hl;exact hd D H' hD s hl
inductive Xf(C:δ)(vs:LV)(H:Hp)(Q:VK)(AJ:XK):Prop
 | mk:∀(p l:δ) (ρ:RS) (xs:LS),vs=[.ref p,.ref l]->Bd C H p ρ->Ak ρ->H l≈(.lst (xs.map V.str))->(∀ x∈xs,x∈ρ.map 0.8)->Q .non H->Xf C vs H Q AJ
def V1(K:Fg)(H:Hp)(l:δ)(ns:List AN):Prop:=∃(b:Bool) (vs:LV),Cr K b H l vs/\Paired (OX K H) ns vs
inductive Mz(K:Fg)(C B D:δ)(vs:LV)(H:Hp)(Q:VK)(AJ:XK):Prop
 | mk:∀(p dx k l:δ) (ρ:RS) (ns:List AN),vs=[.ref p,.ref k,.ref l]->H p≈(.ins D dx [])->Bd C H k ρ->Ak ρ->V1 K H l ns->B9 ρ ns->(∀ H',BI (λb=>∃ o,H b≈o) C B D H' p k ρ ns->(∀ b o,b≠p->H b≈o->H' b≈o)->Q .non H')->Mz K C B D vs H Q AJ
structure Hw(K:Fg)(D:δ):Prop where
 cl:Eh K D
 nB:EK K D "book"
 nO:EK K D "board_of"
 nM:EK K D "made_of"
def iT:(["call","made"]:LS).Nodup:=by rfl'
abbrev mP:LS:=["kinds","makes","made"]
def ka:Aa mP ["kinds","makes"] (AL S5):=by nofun
def qQ(F:Def K mg "check_makes" S5 ["kinds","makes"] f fd)(TC:EC K C)(MH:Ho K C fH fdH):⋯ 2 f fd ["kinds","makes"] (Xf C):=by
 have GH:⋯ 1 fH fdH ["self","word"] (Oe C):=Vi MH.fn TC
 nomatch F.fn.ok ka
 ·obtain⟨p,l,ρ,xs,rfl,_⟩:=h;rfl
 ·obtain⟨p,l,ρ,xs,rfl,kd,g,hl,kn,q⟩:=h;have nd:=ka.nd;have Aq:Ab 1 _:=hr.mono 0.1;obtain⟨dx,d,a,o,oa,ν,AW,h1,_⟩:=kd.ex
  ac_nf
  refine⟨_,(AF (Bm Yx rfl (Co 1.5) (gE 2 nd) (AF (Ag (Di (C0 (EL 0.9 TC.cl MH.me GH Aq MH.b .nil BF 2.5))) Bj Af)))),?_⟩
  exists CM _ _ a _ _ _
  let Be:NW:=λi σ H'=>∃ x,σ=[↥(.ref p),↥(.ref l),x]/\H'=H;refine⟨Z,l,Y,⟨_,SqL.of hl⟩,CG (Cq (xs:=xs.map V.str)) Be ⟨none,Y,Y⟩ (λi σ H' _ ⟨_,_,e⟩=>by rw[e];exact SqL.of hl) ?_ ?_⟩
  ·rintro i v σ H' hi ⟨x,rfl,e⟩;have e2:=e.symm;subst e2;rw[Ys]at hi;cases hx:xs[i]? with
   | none=>rw[hx]at hi;cases hi
   | some y =>
    rw[hx]at hi;cases hi;refine⟨Z,p,dx,Z,h1,Vh _ _,Z,p,ρ,y,Y,kd,g,?_⟩;rw[Jb (kn y (Yd hx))];exact⟨Z,AU ⟨Z,Y⟩⟩
  ·rintro σ H' ⟨x,rfl,e⟩;rw[e];exact q
def xS{x:Str}(h:AR x=true):↑x<=1000:=by have:=Ca h;omega
def yL{ν:KL}:∀(o':Obj) (u:HO),HO.dK ν≠.frz o' u:=λ_ _ z=>by cases z
def yN{ν:KL}:∀ xs:LV,HO.dK ν≠.tup xs:=λ_ z=>by cases z
def yM{ν:KL}:∀(c d:δ) (f:List (Str×V)),HO.dK ν≠.ins c d f:=λ_ _ _ z=>by cases z
def R1{C B:δ}{H:Hp}{q k:δ}{ν:KL}{o:HO}{ρ:RS}{n:AN}{v:V}(h:JT C B H k ρ n v)(hq:H q≈(.dK ν)):JT C B (upd H q o) k ρ n v:=by
 obtain⟨y,e,b⟩:=h;exact⟨y,e,r_ b hq yL yN yM λb o hb e=>by rw[AD hb];exact e⟩
def R6{Z:δ->Prop}{H:Hp}{q:δ}{ν:KL}{o:HO}{n:AN}{v:V}(h:JO Z H n v)(hq:H q≈(.dK ν)):JO Z (upd H q o) n v:=by
 obtain⟨l,e,b,z⟩:=h;exact⟨l,e,by rw[AD (λz=>by rw[z,hq]at b;cases b)];exact b,z⟩
def V4{C B:δ}{H H':Hp}{k:δ}{ρ:RS}{n:AN}{v:V}(h:JT C B H k ρ n v)(s:AA H H'):JT C B H' k ρ n v:=let⟨y,e,b⟩:=h;⟨y,e,b.mono s⟩
def V_{Z:δ->Prop}{H H':Hp}{n:AN}{v:V}(h:JO Z H n v)(s:AA H H'):JO Z H' n v:=let⟨l,e,b,z⟩:=h;⟨l,e,s _ _ b,z⟩
def gm{R:AN->V->Prop}{ns:List AN}{ν:KL}{n:AN}{v:V}(h:CZ R ns ν)(hn:n.1∉ns.map 0.8)(hv:R n v):CZ R (ns++[n]) (Au ν (Sum.inr n.1) v):=by
 rw[LC _ (h.not hn)];exact CH h ⟨Y,hv⟩
abbrev Uo:LS:=["self","kinds","names","board_of","made_of","word","places","deeds"]
abbrev JX:LS:=["self","kinds","names"]
def j9:Aa Uo JX (AL Pn):=by nofun
def y3(F:BR K "__init__" "Book.__init__" Pn f fd)(T:LM mg)(most:∃ t,mg "MOST_NAMES"≈(.int 8 t))(TD:Hw K D)(hDC:D≠C)(hDB:D≠B)
  (DW:Def K mg "is_word" I_ ["text"] fW fdW) (MB:Mk K B fBI) (mgB:mg "Board"≈(.ref B)) (bB:Bz K fdBI N1 []) (GB:⋯ 4 fBI fdBI N1 (Ru K C B))
  (DM:Def K mg "check_makes" S5 ["kinds","makes"] fM fdM) (GM:⋯ 2 fM fdM ["kinds","makes"] (Xf C)):
  ⋯ 6 f fd JX (Mz K C B D):=by
 have GW:⋯ 1 fW fdW ["text"] M9:=Wv DW T
 nomatch F.ok j9
 ·obtain⟨p,dx,k,l,ρ,ns,rfl,_⟩:=h;rfl
 ·obtain⟨p,dx,k,l,ρ,ns,rfl,hp,kd,g,⟨b,vs,hl,hN⟩,gn,q⟩:=h;have nd:=j9.nd;have hu:=Es hr;have Aq:Ab 1 _:=hr.mono 0.1;have Bf:Ab 2 _:=hr.mono 0.1;obtain⟨t1,oE⟩:=most;have hvl:=↑hN;have few:=gn.few
  ac_nf
  refine'⟨_,(pS (Ag (An Hz (A9 F_ 1.0 T.len BX 2.5) (Iq (v:=.int 8) 1.0 oE ⟨Z⟩) (Aj _)) Bj Af)
   (pS (sE 3 nd J1)
   (pS (sE 4 nd J1)
   (pS (Bm Yx rfl (K9 1.6) (DU rfl (gC (gE 5 nd) (gC (gE 6 nd) (gC (gE 7 nd) DX))))
    (pS (Ag (Di (C0 (AV DW GW Aq (pC (pv 5) AB)))) Bj Af)
   (pS (Ag (Ik (Mu hu (pv 5) (pv 3))) Bj Af)
   (pS (ID hu (pv 3) (pv 5) (Ir MB GB hr rfl mgB bB .nil BF (pC 1.5 (pC (pv 6) (pC ?eC AB)))) rfl)
   (pS (ID hu (pv 4) (pv 5) ?eM rfl)
   (AF (B8 (AV DM GM Bf (pC 1.5 (pC (Ip hu (pv 4) (pv 5) 0.2) AB))))))))))
   (R0 (pS (FO 0.9 1.5 rfl)
   (pS (FO 0.9 (pv 3) rfl)
   (AF (FO 0.9 (pv 4) rfl))))))))),?_⟩
  case eC=>exact Ea ["call","made"] [] [] (λ_=>CC (osc:=AL Pn) (on:=Uo) 0.7 rfl rfl rfl) (K9 (pv 7)) (λC s H fp=>Ij (K:=K) (i:=0) (j:=1) rfl rfl iT rfl rfl 1.2 1.2 1.3 1.3) 2.9 (λC s H fp=>pv 0)
  case eM=>exact Ea ["call","made"] [] [] (λ_=>CC (osc:=AL Pn) (on:=Uo) 0.7 rfl rfl rfl) (K9 (pv 7)) (λC s H fp=>Ij (K:=K) (i:=0) (j:=1) rfl rfl iT rfl rfl 1.2 1.2 1.3 1.3) 2.9 (λC s H fp=>pv 1)
  exists let b:=_;let c:=AE _ b;let e:=AE _ c;let f:=AE _ e;let g:=AE _ f;let h:=AE (CM _ _ g) a;let i:=AE _ h;let j:=AE _ i;AE _ j _ _ _
  refine⟨Z,_,Z,Rt hl,_,Z,Y,Z,?_⟩;rw[show decide ((8:Int)<(↑vs:Int))=false from Jc 0.0];refine AU ?_;intro bo hbo;have s1:AA H (upd H bo (.dK [])):=AI hbo;intro mo hmo;have s2:AA (upd H bo (.dK [])) (upd (upd H bo (.dK [])) mo (.dK [])):=AI hmo;have hmoH:H mo=none:=s1.free hmo;have bm:bo≠mo:=λz=>by rw[<- z,uS]at hmo;cases hmo
  let Be:NW:=λi σ H'=>∃(A3 BD:KL) (x y z:OV),σ=[↥(.ref p),↥(.ref k),↥(.ref l),↥(.ref bo),↥(.ref mo),x,y,z]/\AA H H'/\H' bo≈(.dK A3)/\H' mo≈(.dK BD)/\CZ (JT C B H' k ρ) (ns.take i) A3/\CZ (JO (λb=>∃ o,H b≈o) H') (ns.take i) BD;refine⟨Z,b,l,vs,Y,(hl.mono s1).mono s2,CG LD Be
   ⟨[],[],none,none,none,Y,s1.trans s2,s2 _ _ uS,uS,by rw[Ee];exact .nil,by rw[Ee];exact .nil⟩ (λi σ H' _ h0=>by obtain⟨_,_,_,_,_,_,s,_⟩:=h0;exact hl.mono s) ?_ ?_⟩
  ·rintro i v σ H' hi ⟨A3,BD,x,y,z,rfl,s3,OH,U2,hB,hM⟩;obtain⟨nm,hnm,t,tp,bb,ws,rfl,ht,htp,hps⟩:=Bi hN hi;have As:nm∈ns:=Yd hnm;have gnm:=gn.each nm As;have A6:nm.1∉(ns.take i).map 0.8:=by
    rw[List.map_take];exact e_ gn.nd (by rw[Ys,hnm];rfl)
   have Ek:=s3 _ _ ht;refine⟨t,Z,AG.of Ek,Y,_,Z,_,Z,_,Z,Y,?_⟩;refine⟨Z,nm.1,Y,xS gnm.word,λH4 s4=>⟨Z,?_⟩⟩;rw[gnm.word];refine AU ?_;have OG:=s4 _ _ OH;have RI:=s4 _ _ U2;have OM:=hB.imp λn v h=>V4 h s4;have RP:=hM.imp λn v h=>V_ h s4;have Bo:=s3.trans s4;refine⟨Z,Z,bo,Z,Bl.k (k:=Sum.inr nm.1) OG,Z,?_⟩;rw[OM.not A6];refine AU ?_;have QU:=htp.mono Bo;have Qb:EF H4 nm.2.2 ws:=hps.mono (CN Bo);have wl:↑ws<=64:=by
    have h1:=Yp hps;have h2:=gnm.deeds.few;rw[Ya]at h2;omega
   refine⟨Z,Z,Z,bb,tp,ws,Y,QU,eO LD 0 (Hh H4) 0.0 Qb (λ_=>rfl) (λH' s'=>QU.mono s') λlc H5 hlc B6 Cg=>?_⟩;intro yb dyb ny ndy ney;refine yD ny ndy ((kd.mono Bo).mono B6) g (.inl Cg) ((fo Qb).mono B6) gnm.deeds gnm.one gnm.four λH6 Ce oq=>?_;have Nt:=B6.trans Ce;have Kf:=Bo.trans Nt;have RM:=Nt _ _ OG;have Mc:=Nt _ _ RI;have bl:↑A3=i:=by
    have h1:=Yp hB;rw[Yv]at h1;have h2:=(Yu.mp hnm).1;omega
   have ml:↑BD=i:=by
    have h1:=Yp hM;rw[Yv]at h1;have h2:=(Yu.mp hnm).1;omega
   have il:i<8:=by
    have h2:=(Yu.mp hnm).1;omega
   refine⟨Z,Z,bo,Z,EE.k (k:=Sum.inr nm.1) RM (B0 0.0),?_⟩;have VD:CZ (JT C B (upd H6 bo (.dK (Au A3 (Sum.inr nm.1) (.ref yb)))) k ρ) (ns.take i++[nm]) (Au A3 (Sum.inr nm.1) (.ref yb)):=
    gm (OM.imp λn v h=>R1 (V4 h Nt) RM) A6 (R1 ⟨yb,Y,oq⟩ RM)
   have ax:CZ (JO (λb=>∃ o,H b≈o) (upd H6 bo (.dK (Au A3 (Sum.inr nm.1) (.ref yb))))) (ns.take i) BD:=RP.imp λn v h=>R6 (V_ h Nt) RM;have Fb:AA H (upd H6 bo (.dK (Au A3 (Sum.inr nm.1) (.ref yb)))):=λb o e=>by rw[AD (AK e hbo)];exact Kf _ _ e
   have U6:(upd H6 bo (.dK (Au A3 (Sum.inr nm.1) (.ref yb)))) bo≈(.dK (Au A3 (Sum.inr nm.1) (.ref yb))):=uS;have U1:(upd H6 bo (.dK (Au A3 (Sum.inr nm.1) (.ref yb)))) mo≈(.dK BD):=by rw[AD (Yw bm)];exact Mc
   generalize upd H6 bo (.dK (Au A3 (Sum.inr nm.1) (.ref yb)))=H7 at VD ax Fb U6 U1;generalize Au A3 (Sum.inr nm.1) (.ref yb)=L9 at VD U6;have G0:=htp.mono Fb;have Qa:EF H7 nm.2.2 ws:=hps.mono (CN Fb);refine⟨Z,bb,tp,ws,Y,G0,eO LD 1 (Fz H7) 0.0 Qa (λ_=>rfl) (λH' s'=>G0.mono s') λlm H8 hlm Nr OA=>?_⟩;rw[fq Qa]at OA;have RH:=Nr _ _ U1;refine⟨Z,Z,mo,Z,EE.k (k:=Sum.inr nm.1) RH (B0 0.0),?_⟩;have lmo:lm≠mo:=λz=>by rw[z,U1]at hlm;cases hlm
   have U_:CZ (JO (λb=>∃ o,H b≈o) (upd H8 mo (.dK 2.4))) (ns.take i++[nm]) 2.4:=
    gm (ax.imp λn v h=>R6 (V_ h Nr) RH) A6 (R6 ⟨lm,Y,OA,λ⟨_,z⟩=>by rw[Fb.free hlm]at z;cases z⟩ RH)
   have ay:CZ (JT C B (upd H8 mo (.dK 2.4)) k ρ) (ns.take i++[nm]) L9:=VD.imp λn v h=>R1 (V4 h Nr) RH;have Uh:AA H (upd H8 mo (.dK 2.4)):=λb o e=>by rw[AD (AK e hmoH)];exact Nr _ _ (Fb _ _ e)
   have RG:(upd H8 mo (.dK 2.4)) mo≈(.dK 2.4):=uS;have aq:(upd H8 mo (.dK 2.4)) bo≈(.dK L9):=by rw[AD bm];exact Nr _ _ U6
   have ah:(upd H8 mo (.dK 2.4)) lm≈(.lst ((nm.2.2.map (·.2)).map V.str)):=by rw[AD lmo];exact OA
   have aV:BE 2.4 (Sum.inr nm.1)≈(.ref lm):=by rw[pW,if_pos rfl]
   generalize upd H8 mo (.dK 2.4)=H9 at U_ ay Uh RG aq ah;generalize Au BD (Sum.inr nm.1) (.ref lm)=ZK at U_ RG aV;refine⟨Z,Z,Z,mo,Z,(by rw[<- aV];exact Bl.k (k:=Sum.inr nm.1) RG),k,lm,ρ,nm.2.2.map (·.2),Y,kd.mono Uh,g,ah,λx hx=>?_,?_⟩
   ·obtain⟨pr,hpr,e⟩:=Yg.mp hx;rw[<- e];exact gnm.made pr hpr
   refine⟨L9,ZK,G,Z,Uh,aq,RG,?_,?_⟩
   ·rw[Bu,hnm];exact ay
   ·rw[Bu,hnm];exact U_
  ·rintro σ H3 ⟨A3,BD,x,y,z,rfl,s3,OH,U2,hB,hM⟩;rw[<- hvl,Bt]at hB hM;refine⟨bo,A3,OH,λo=>?_⟩;have s4:AA H (upd H3 bo (.frz o (.dK A3))):=λb u e=>by rw[AD (AK e hbo)];exact s3 _ _ e
   have OM:=hB.imp λn v h=>R1 (o:=.frz o (.dK A3)) h OH;have RP:=hM.imp λn v h=>R6 (o:=.frz o (.dK A3)) h OH;have OG:(upd H3 bo (.frz o (.dK A3))) bo≈(.frz o (.dK A3)):=uS;have RI:(upd H3 bo (.frz o (.dK A3))) mo≈(.dK BD):=by rw[AD (Yw bm)];exact U2
   generalize upd H3 bo (.frz o (.dK A3))=H4 at s4 OM RP OG RI;have Hc:=s4 _ _ hp;have pbo:bo≠p:=λz=>by rw[z,hp]at hbo;cases hbo
   have pmo:mo≠p:=λz=>by rw[z,hp]at hmoH;cases hmoH
   refine⟨Z,Z,p,D,dx,[],Y,Hc,TD.cl,TD.nB,(by show 0<1000;decide),?_⟩;refine⟨Z,Z,p,D,dx,Z,uS,TD.cl,TD.nO,(by show 1<1000;decide),?_⟩;rw[M1];refine⟨Z,Z,p,D,dx,Z,uS,TD.cl,TD.nM,(by show 2<1000;decide),?_⟩;rw[M1];have keep:∀ b o,b≠p->H b≈o->(upd H4 p (.ins D dx (Er k bo mo))) b≈o:=λb o hb e=>by rw[AD hb];exact s4 _ _ e
   have kp:∀ b o,b≠p->H4 b≈o->(upd H4 p (.ins D dx (Er k bo mo))) b≈o:=λb o hb e=>by rw[AD hb];exact e
   have nkp:k≠p:=by
    intro z;obtain⟨DB,d,a,o,oa,ν,AW,h1,_⟩:=kd.ex;rw[z,hp]at h1;injection h1 with h1;injection h1 with h1;exact hDC h1
   refine q _ ⟨dx,bo,mo,o,A3,BD,uS,SV kd hp keep nkp (λ_ _ z=>by cases z) (λ_ z=>by cases z),kp _ _ pbo OG,OM.imp λn v h=>?_,kp _ _ pmo RI,RP.imp λn v h=>?_⟩ keep
   ·obtain⟨y,e,bd⟩:=h;obtain⟨dxb,t,us,h1,h2,h3,h4⟩:=bd.ex;have yp:y≠p:=by
     intro z;rw[z,Hc]at h1;injection h1 with h1;injection h1 with h1;exact hDB h1
    exact⟨y,e,dxb,t,us,kp _ _ yp h1,SV h2 Hc kp nkp (λ_ _ z=>by cases z) (λ_ z=>by cases z),kp _ _ (λz=>by rw[z,Hc]at h3;cases h3) h3,Paired.mapP h4 λd v ⟨t',e,x⟩=>⟨t',e,kp _ _ (λz=>by rw[z,Hc]at x;cases x) x⟩⟩
   ·obtain⟨l',e,x,z⟩:=h;exact⟨l',e,kp _ _ (λz=>by rw[z,Hc]at x;cases x) x,z⟩
def XI(k bo mo:δ):(Er k bo mo).lookup ("kinds":Str)=none:=R5 k bo mo 0.7 0.7 0.7
def qL(k bo mo:δ):(Er k bo mo).lookup ("board":Str)=none:=R5 k bo mo 0.7 0.7 0.7
def PU(k bo mo:δ):(Er k bo mo).lookup ("names":Str)=none:=R5 k bo mo 0.7 0.7 0.7
def eh(k bo mo:δ):(Er k bo mo).lookup ("check_name":Str)=none:=R5 k bo mo 0.7 0.7 0.7
abbrev bf(K:Fg)(D f:δ)(fd:FuncData):Prop:=Cw K D "check_name" "Book.check_name" Tb ["self","word"] f fd
abbrev vy(K:Fg)(D f:δ)(fd:FuncData):Prop:=Cw K D "board" "Book.board" Sn ["self","word"] f fd
abbrev WC(K:Fg)(D f:δ)(fd:FuncData):Prop:=Cw K D "kinds" "Book.kinds" S9 ["self"] f fd
inductive SE(C B D:δ)(vs:LV)(H:Hp)(Q:VK)(AJ:XK):Prop
 | mk:∀(p k:δ) (ρ:RS) (ns:List AN) (x:Str),vs=[.ref p,.str x]->Fp C B D H p k ρ ns->x∈ns.map 0.8->Q .non H->SE C B D vs H Q AJ
inductive PB(C B D:δ)(vs:LV)(H:Hp)(Q:VK)(AJ:XK):Prop
 | mk:∀(p k:δ) (ρ:RS) (ns:List AN),vs=[.ref p]->Fp C B D H p k ρ ns->Q (.ref k) H->PB C B D vs H Q AJ
inductive Wo(C B D:δ)(vs:LV)(H:Hp)(Q:VK)(AJ:XK):Prop
 | mk:∀(p k:δ) (ρ:RS) (ns:List AN) (n:AN),vs=[.ref p,.str n.1]->Fp C B D H p k ρ ns->(ns.map 0.8).Nodup->n∈ns->(∀ y,DV C B H y k ρ n.2.1 (n.2.2.map 0.8)->Q (.ref y) H)->Wo C B D vs H Q AJ
def Ybg:Aa ["self","word"] ["self","word"] (AL Tb):=by nofun
def gK(F:BR K "check_name" "Book.check_name" Tb f fd)(TD:Hw K D):⋯ 1 f fd ["self","word"] (SE C B D):=by
 nomatch F.ok Ybg
 ·obtain⟨p,k,ρ,ns,x,rfl,_⟩:=h;rfl
 ·obtain⟨p,k,ρ,ns,x,rfl,bk,hx,q⟩:=h;obtain⟨dx,bo,mo,o,A3,BD,h1,h2,h3,h4,h5,h6⟩:=bk.ex;have hu:=Es hr
  ac_nf
  refine⟨_,(AF (Ag (Ik (Ww hu 1.5 (Cm 0.9 rfl))) Bj Af)),?_⟩;refine⟨_,rfl,_,rfl,p,D,dx,_,_,rfl,h1,TD.cl,TD.nO,V8 _ _ _,bo,_,rfl,Bl.f (k:=Sum.inr x) h3,_,rfl,?_⟩;rw[h4.some hx];exact AU q
def zr:Aa ["self"] ["self"] (AL S9):=by nofun
def gL(F:BR K "kinds" "Book.kinds" S9 f fd)(TD:Hw K D):⋯ 1 f fd ["self"] (PB C B D):=by
 nomatch F.ok zr
 ·obtain⟨p,k,ρ,ns,rfl,_⟩:=h;rfl
 ·obtain⟨p,k,ρ,ns,rfl,bk,q⟩:=h;obtain⟨dx,bo,mo,o,A3,BD,h1,h2,h3,h4,h5,h6⟩:=bk.ex;exact⟨_,AF (AQ (Cm 0.9 rfl)),_,rfl,p,D,dx,_,_,rfl,h1,TD.cl,TD.nB,vt _ _ _,q⟩
def zq:Aa ["self","word"] ["self","word"] (AL Sn):=by nofun
def qT(F:BR K "board" "Book.board" Sn f fd)(TD:Hw K D)(MC:bf K D fC fdC):⋯ 2 f fd ["self","word"] (Wo C B D):=by
 have GC:⋯ 1 fC fdC ["self","word"] (SE C B D):=gK MC.fn TD
 nomatch F.ok zq
 ·obtain⟨p,k,ρ,ns,n,rfl,_⟩:=h;rfl
 ·obtain⟨p,k,ρ,ns,n,rfl,bk,nd,hn,q⟩:=h;obtain⟨dx,bo,mo,o,A3,BD,h1,h2,h3,h4,h5,h6⟩:=bk.ex;have hu:=Es hr;obtain⟨v,hv,y,rfl,by_⟩:=h4.val nd hn
  ac_nf
  refine⟨_,(pS (B8 (EL 0.9 TD.cl MC.me GC hr MC.b .nil BF 2.3))
   (AF (AQ (Ip hu (Cm 0.9 rfl) 1.5 0.2)))),?_⟩
  exists AE _ a _ _ _
  refine⟨_,rfl,p,dx,_,rfl,h1,eh _ _ _,_,rfl,p,k,ρ,ns,n.1,rfl,bk,Yg.mpr ⟨n,hn,rfl⟩,?_⟩;exact⟨_,rfl,p,D,dx,_,_,rfl,h1,TD.cl,TD.nO,V8 _ _ _,_,rfl,bo,_,rfl,(by rw[<- hv];exact Bl.f (k:=Sum.inr n.1) h3),q y by_⟩
structure jZ(K:Fg)(mg:Str->OU)(D:δ):Prop where
 m:mg "DeedError"≈(.ref D)
 ex:ExC K D
 cl:W.isClsIn K D=true
 ty:W.typeIn K (.ref D)≈(.type "type")
structure ba(K:Fg)(mg:Str->OU)(Ds:Nat->δ):Prop where
 m0:mg "NoKind"≈(.ref (Ds 0))
 m1:mg "Twice"≈(.ref (Ds 1))
 m2:mg "NoName"≈(.ref (Ds 2))
 m3:mg "Ring"≈(.ref (Ds 3))
 m4:mg "NoDeed"≈(.ref (Ds 4))
 m5:mg "Same"≈(.ref (Ds 5))
 m6:mg "NoText"≈(.ref (Ds 6))
 m7:mg "TooMany"≈(.ref (Ds 7))
 m8:mg "NoBoard"≈(.ref (Ds 8))
 m9:mg "NoCall"≈(.ref (Ds 9))
 m10:mg "NoLine"≈(.ref (Ds 10))
 m11:mg "NoPlace"≈(.ref (Ds 11))
 m12:mg "NoWeights"≈(.ref (Ds 12))
 m13:mg "NoTerm"≈(.ref (Ds 13))
 m14:mg "NoRow"≈(.ref (Ds 14))
 cl:∀ k,k<15->W.isClsIn K (Ds k)=true
 ty:∀ k,k<15->W.typeIn K (.ref (Ds k))≈(.type "type")
structure Td(K:Fg)(D:δ)(Ds:Nat->δ)(i:Nat):Prop where
 ex:JR K (Ds i)
 sub:W.subIn K (.ref (Ds i)) (.ref D)≈true
 one:∀ k,k<15->W.subIn K (.ref (Ds i)) (.ref (Ds k))≈(decide (k=i))
def Xp{P:Nat->Prop}(h0:P 0)(h1:P 1)(h2:P 2)(h3:P 3)(h4:P 4)(h5:P 5)(h6:P 6)(h7:P 7)(h8:P 8)(h9:P 9)(RT:P 10)(ET:P 11)(oP:P 12)(oO:P 13)(OO:P 14):∀ k,k<15->P k:=λk h=>by
 rcases k with _ | _ | _ | _ | _ | _ | _ | _ | _ | _ | _ | _ | _ | _ | _ | k
 ·exact h0
 ·exact h1
 ·exact h2
 ·exact h3
 ·exact h4
 ·exact h5
 ·exact h6
 ·exact h7
 ·exact h8
 ·exact h9
 ·exact RT
 ·exact ET
 ·exact oP
 ·exact oO
 ·exact OO
 ·omega
def bH(a0 a1 a2 a3 a4 a5 a6 a7 a8 a9 pH pG pF VU pE:δ):Nat->δ
 | 0=>a0 | 1=>a1 | 2=>a2 | 3=>a3 | 4=>a4 | 5=>a5 | 6=>a6 | 7=>a7 | 8=>a8 | 9=>a9 | 10=>pH | 11=>pG | 12=>pF | 13=>VU | _=>pE
def k_:List (Str×Nat):=[("TooMany",7),("NoKind",0),("Twice",1),("NoName",2),("Ring",3),("NoBoard",8),("NoDeed",4),("Same",5),("NoCall",9),("NoTerm",13),("NoText",6),("NoRow",14),("NoLine",10),("NoPlace",11),("NoWeights",12)]
def Hs:Nat->Str
 | 0=>"NoKind"
 | 1=>"Twice"
 | 2=>"NoName"
 | 3=>"Ring"
 | 4=>"NoDeed"
 | 5=>"Same"
 | 6=>"NoText"
 | 7=>"TooMany"
 | 8=>"NoBoard"
 | 9=>"NoCall"
 | 10=>"NoLine"
 | 11=>"NoPlace"
 | 12=>"NoWeights"
 | 13=>"NoTerm"
 | _=>"NoRow"
def vx:∀ i,i<15->(k_.filter λq=>decide (q.2=i)).map 0.8=[Hs i]:=by rfl'
abbrev Kz(n:Str)(k i:Nat):HO:=.tup [.str n,.bl (decide (k=i))]
def US(i:Nat)(H:Hp)(q:Str×Nat)(v:V):Prop:=∃ t,v=.ref t/\H t≈(Kz q.1 q.2 i)
def VT:V->Bool
 | .bl b=>b
 | _=>false
theorem gS{i:Nat}{H:Hp}:∀ {L:List (Str×Nat)}{xs:LV},Paired (US i H) L xs->(xs.filter λx=>VT (Fz H x)).map (Hh H)=((L.filter λq=>decide (q.2=i)).map 0.8).map V.str
 | _,_,.nil=>rfl
 | q :: L,x :: xs,.cons ⟨t,e,h⟩ r=>by
  have ih:=gS r;have e1:Hh H x=.str q.1:=by rw[e];exact Rh h
  have e2:Fz H x=.bl (decide (q.2=i)):=by rw[e];exact Oo h
  have e3:VT (Fz H x)=decide (q.2=i):=by rw[e2];rfl
  by_cases z:q.2=i
  ·rw[List.filter_cons_of_pos (by rw[e3];exact Jb z),List.filter_cons_of_pos (by exact Jb z),Yy,Yy,Yy,ih,e1]
  ·rw[List.filter_cons_of_neg (by rw[e3,Jc z];decide),List.filter_cons_of_neg (by rw[Jc z];decide),ih]
def i0{i:Nat}{H:Hp}{L:List (Str×Nat)}{xs:LV}(h:Paired (US i H) L xs){x:V}(hx:x∈xs):∃ t k n,x=.ref t/\H t≈(Kz n k i):=by
 obtain⟨j,hj⟩:=List.mem_iff_getElem?.mp hx;obtain⟨q,_,t,e,ht⟩:=Bi h hj;exact⟨t,q.2,q.1,e,ht⟩
def QF(Ds:Nat->δ)(i:Nat)(σ:St)(H:Hp):Prop:=∃(e:δ) (dx:Option δ),σ[0]?≈(↥(.ref e))/\H e≈(XO e (Ds i) dx)/\K1 H dx
def QF.same{Ds:Nat->δ}{i:Nat}{σ:St}{H H':Hp}(h:QF Ds i σ H)(s:AA H H'):QF Ds i σ H':=by
 obtain⟨e,dx,a,b,c⟩:=h;exact⟨e,dx,a,s _ _ b,AA.xdict c s⟩
def Zw(Ds:Nat->δ)(i:Nat)(n:Str)(k:Nat):TE:=λσ H Q=>QF Ds i σ H/\∀ t,H t=none->Q (.ref t) (upd H t (Kz n k i))
def Y4(Ds:Nat->δ)(i:Nat)(L:List (Str×Nat)):TA:=λσ H Q=>QF Ds i σ H/\∀ ts H',AA H H'->Paired (US i H') L ts->Q ts H'
section
variable {X:Cx}{Ds:Nat->δ}{i k:Nat}{n c:Str}
def Eu{p p1 p2 p3 p4 p5:Pos}{j x1}(ex:JR X.K (Ds i))(isi:X.mg "isinstance"=none)(gi:Gl X "isinstance")(v:∀ p,PE X (.Name "e" p) (NO 0))(one:W.kitOne X.K (.ref (Ds i)) (.ref (Ds k))≈(decide (k=i)))(m:X.mg c≈(.ref (Ds k)))(g:Gl X c:=by rfl)(hd:(c == ("__debug__":Str))=false:=by decide):PE X (.Tuple [.Constant (.str n) j p,.Call (.Name "isinstance" p2) [.Name "e" p1,.Name c p3] [] p4] x1 p5) (Zw Ds i n k):=by
 ac_rfl;refine A5 (pC Ah (pC (A9 eL gi isi YA (pC (v _) (pC (Iq (v:=.ref (Ds k)) g m rfl hd) AB))) AB)) π s σ H Q I ?_;obtain⟨⟨e,dx,h0,hx,hd⟩,q⟩:=h;exact⟨_,h0,e,Ds i,dx,G,Z,Y,λu z=>z,hx,hd,ex,one,W,q⟩
def u_:PA X [] (Y4 Ds i []):=λpos π s σ H Q I h=>AB pos π s σ H Q I (h.2 [] H (AA.refl _) .nil)
def FK{e:Expr}{es:μ}{L:List (Str×Nat)}(he:PE X e (Zw Ds i n k))(r:PA X es (Y4 Ds i L))(hs:starEach (e :: es) X.env=(false,eval e X.env):: starEach es X.env:=by rfl):PA X (e :: es) (Y4 Ds i ((n,k):: L)):=by
 intro pos π s σ H Q I h;refine pC he r hs pos π s σ H Q I ?_;obtain⟨z,q⟩:=h;exact⟨z,λt n=>⟨z.same (AI n),λts H' s' p=>q (.ref t :: ts) H' ((AI n).trans s') (.cons ⟨t,Y,s' _ _ uS⟩ p)⟩⟩
end
inductive Wy(K:Fg)(D:δ)(Ds:Nat->δ)(vs:LV)(H:Hp)(Q:VK)(AJ:XK):Prop
 | mk:∀(e:δ) (i:Nat) (dx:Option δ),vs=[.ref e]->H e≈(XO e (Ds i) dx)->K1 H dx->Td K D Ds i->i<15->(∀ l H',AA H H'->H' l≈(.lst [.str (Hs i)])->Q (.ref l) H')->Wy K D Ds vs H Q AJ
def vL:(["name","takes","e"]:LS).Nodup:=by rfl'
abbrev aI:LS:=["e","some"]
def jz:Aa aI ["e"] (AL Pl):=by nofun
def rY{Ds:Nat->δ}(F:Def K mg "_law_classes" Pl ["e"] f fd)(TF:ba K mg Ds)(isi:mg "isinstance"=none)(vr:mg "ValueError"=none):⋯ 1 f fd ["e"] (Wy K D Ds):=by
 nomatch F.fn.ok jz
 ·obtain⟨e,i,dx,rfl,_⟩:=h;rfl
 ·obtain⟨e,i,dx,rfl,hx,hd,O,mj,q⟩:=h;have nd:=jz.nd;have one:∀ k,k<15->W.kitOne K (.ref (Ds i)) (.ref (Ds k))≈(decide (k=i)):=λk hk=>yA (TF.cl k hk) (TF.ty k hk) O.ex.toExC (O.one k hk)
  ac_nf
  refine'⟨_,(pS (sE 1 nd (BH (FK (Eu O.ex isi rfl (λ_=>pv 0) (one 7 0.1) TF.m7) (FK (Eu O.ex isi rfl (λ_=>pv 0) (one 0 0.1) TF.m0) (FK (Eu O.ex isi rfl (λ_=>pv 0) (one 1 0.1) TF.m1) (FK (Eu O.ex isi rfl (λ_=>pv 0) (one 2 0.1) TF.m2) (FK (Eu O.ex isi rfl (λ_=>pv 0) (one 3 0.1) TF.m3) (FK (Eu O.ex isi rfl (λ_=>pv 0) (one 8 0.1) TF.m8) (FK (Eu O.ex isi rfl (λ_=>pv 0) (one 4 0.1) TF.m4) (FK (Eu O.ex isi rfl (λ_=>pv 0) (one 5 0.1) TF.m5) (FK (Eu O.ex isi rfl (λ_=>pv 0) (one 9 0.1) TF.m9) (FK (Eu O.ex isi rfl (λ_=>pv 0) (one 13 0.1) TF.m13) (FK (Eu O.ex isi rfl (λ_=>pv 0) (one 6 0.1) TF.m6) (FK (Eu O.ex isi rfl (λ_=>pv 0) (one 14 0.1) TF.m14) (FK (Eu O.ex isi rfl (λ_=>pv 0) (one 10 0.1) TF.m10) (FK (Eu O.ex isi rfl (λ_=>pv 0) (one 11 0.1) TF.m11) u_))))))))))))))))
   (pS (B8 (DQ EN Ft Fq FR 1.5 (pC (Eu O.ex isi rfl (λ_=>pv 0) (one 12 0.1) TF.m12) AB)))
   (AF (AQ ?c)))),?_⟩
  case c=>exact(Ea ["name","takes"] ["e"] [0] (λ_=>CC (osc:=AL Pl) (on:=aI) 0.7 rfl rfl rfl) (Co 1.5) (λC s H fp=>Ij (K:=K) (i:=0) (j:=1) rfl rfl vL rfl rfl 1.2 1.2 1.3 1.3) (λC s H fp=>My (PW.pt (Gm (C0 1.5) (Jy (C0 (A9 (r:=Xy K) eL 1.0 isi YA (pC 1.6 (pC (cW (v:=.ty "ValueError") 1.0 vr 0.7 rfl) AB)))))))) (λC s H fp=>pv 0))
  exists let b:=AE _ a;AE _ b _ _ _
  refine⟨⟨e,dx,Y,hx,hd⟩,λts H1 s1 P1=>⟨sL (by rw[<- Yp P1];show 14<=100000;decide),λl hl=>?_⟩⟩;have sl:AA H1 (upd H1 l (.lst ts)):=AI hl;have hll:(upd H1 l (.lst ts)) l≈(.lst ts):=uS;generalize upd H1 l (.lst ts)=H2 at sl hll ⊢;have s2:=s1.trans sl;refine⟨Z,.inl ⟨Y,_,SqL.of hll⟩,⟨e,dx,Y,s2 _ _ hx,AA.xdict hd s2⟩,λt nt=>?_⟩;have st:AA H2 (upd H2 t (Kz "NoWeights" 12 i)):=AI nt;have htt:(upd H2 t (Kz "NoWeights" 12 i)) t≈(Kz "NoWeights" 12 i):=uS;generalize upd H2 t (Kz "NoWeights" 12 i)=H3 at st htt ⊢;have BA:=st _ _ hll;refine⟨l,_,Z,Y,BA,B0 (by rw[<- Yp P1];show 14<=100000;decide),?_⟩;have Nj:Paired (US i (upd H3 l (.lst (ts++[.ref t])))) k_ (ts++[.ref t]):=by
   have tk:∀ {b:δ} {o:LV},H3 b≈(.tup o)->(upd H3 l (.lst (ts++[.ref t]))) b≈(.tup o):=λ{b o} e=>by
    rw[AD (λz=>by rw[z,BA]at e;cases e)];exact e
   exact CH (Paired.imp' (λq v ⟨t,e,h⟩=>⟨t,e,tk ((sl.trans st) _ _ h)⟩) P1) ⟨Z,tk htt⟩
  have sU:AA H (upd H3 l (.lst (ts++[.ref t]))):=λb o e=>by rw[AD (AK e (s1.free hl))];exact st _ _ (s2 _ _ e)
  have hlU:(upd H3 l (.lst (ts++[.ref t]))) l≈(.lst (ts++[.ref t])):=uS;generalize ts++[V.ref t]=xs at Nj hlU sU ⊢;generalize upd H3 l (.lst xs)=HU at Nj sU hlU ⊢;have xl:↑xs=15:=by rw[<- Yp Nj];rfl
  refine⟨Z,l,Y,⟨_,SqL.of hlU⟩,eN (Cq (xs:=xs)) (sL 0.0) (λx=>VT (Fz HU x)) (λ_ x v _=>v=Hh HU x) (Hh HU) (Fz HU) (λ_ _ _ _ _ _ z=>z) (λH' s'=>SqL.of (s' _ _ hlU)) (λx Ei=>?_) ?_ ?_ ?_⟩
  ·obtain⟨t,k,n,e1,e2⟩:=i0 Nj Ei;rw[e1];exact⟨t,Y,by rw[Rh e2,Oo e2];exact e2⟩
  ·intro x H' R s' Ei hR;obtain⟨t,k,n,e1,e2⟩:=i0 Nj Ei;have e3:Fz HU x=.bl (decide (k=i)):=by rw[e1];exact Oo e2
   rw[e3]at hR ⊢;refine⟨Z,Z,BG (λz=>?_) (λz=>?_)⟩
   ·refine⟨Z,e,Ds i,dx,G,Z,Y,λu z=>z,s' _ _ (sU _ _ hx),AA.xdict (AA.xdict hd sU) s',O.ex,qd O.ex.toExC,Z,?_⟩;rw[show decide (k=i)=true from z]at hR;exact hR H' (AA.refl _)
   ·rw[show decide (k=i)=false from by simpa using z]at hR;exact hR H' (AA.refl _)
  ·intro D x H' R s' _ _ Ei _ hR;exact⟨Z,hR _ H' (AA.refl _) rfl⟩
  ·intro D H' ys _ s' hD hP;refine q D H' (sU.trans s') ?_;rw[hD,NB hP,gS Nj,vx i mj];rfl
def Mh(H:Hp)(n:AN)(v:V):Prop:=∃(t tp:δ) (vs:LV),v=V.ref t/\H t≈(.tup [.str n.1,.int n.2.1,.ref tp])/\H tp≈(.tup vs)/\EF H n.2.2 vs
theorem Mh.mono{H H':Hp}{n:AN}{v:V}(h:Mh H n v)(k:∀ b xs,H b≈(.tup xs)->H' b≈(.tup xs)):Mh H' n v:=by
 obtain⟨t,tp,vs,e,h1,h2,h3⟩:=h;exact⟨t,tp,vs,e,k _ _ h1,k _ _ h2,h3.mono k⟩
def Mh.v{K:Fg}{H:Hp}{n:AN}{v:V}(h:Mh H n v):OX K H n v:=by
 obtain⟨t,tp,vs,e,h1,h2,h3⟩:=h;exact⟨t,tp,false,vs,e,h1,AG.of h2,h3⟩
def Dg(H:Hp)(ns:List AN)(vs:LV):Prop:=Paired (Mh H) ns vs
theorem Dg.mono{H H':Hp}{ns:List AN}{vs:LV}(h:Dg H ns vs)(k:∀ b xs,H b≈(.tup xs)->H' b≈(.tup xs)):Dg H' ns vs:=Paired.mapP h λ_ _ z=>z.mono k
abbrev V0(K:Fg)(D f:δ)(fd:FuncData):Prop:=Cw K D "names" "Book.names" S_ ["self"] f fd
inductive PD(C B D:δ)(vs:LV)(H:Hp)(Q:VK)(AJ:XK):Prop
 | mk:∀(p k:δ) (ρ:RS) (ns:List AN),vs=[.ref p]->Fp C B D H p k ρ ns->B9 ρ ns->(∀(l:δ) (us:LV) (H':Hp),H l=none->AA H H'->H' l≈(.lst us)->Dg H' ns us->Q (.ref l) H')->PD C B D vs H Q AJ
theorem de{H:Hp}:∀ {ps:List (LS×Str)}{us ws:LV},EZ H (ps.map 0.8) us->Paired (λ(p:V×V) v=>∃ q:δ,v=.ref q/\H q≈(.tup [p.1,p.2])) (us.zip ((ps.map (·.2)).map V.str)) ws->EF H ps ws
 | [],_,_,.nil,.nil=>.nil
 | p :: ps,_,_,.cons ⟨t,e,h⟩ r,.cons ⟨q,e2,h2⟩ r2=>by
  subst e;exact .cons ⟨q,t,e2,h2,h⟩ (de r r2)
abbrev mN:LS:=["self","triples","word","board","deeds"]
def j_:Aa mN ["self"] (AL S_):=by nofun
def qo(F:BR K "names" "Book.names" S_ f fd)(TD:Hw K D)(TB:Js K B)(MP:c_ K B fP fdP)(MD:WB K B fD fdD)(list:mg "list"=none)(tuple:mg "tuple"=none)(zip:mg "zip"=none):⋯ 2 f fd ["self"] (PD C B D):=by
 have GP:⋯ 1 fP fdP ["self"] (SO C B):=gr MP.fn TB;have GD:⋯ 1 fD fdD ["self"] (O9 C B):=XJ MD.fn TB list
 nomatch F.ok j_
 ·obtain⟨p,k,ρ,ns,rfl,_⟩:=h;rfl
 ·obtain⟨p,k,ρ,ns,rfl,bk,gn,q⟩:=h;have nd:=j_.nd;have hu:=Es hr;obtain⟨dx,bo,mo,o,A3,BD,h1,h2,h3,h4,h5,h6⟩:=bk.ex
  ac_nf
  refine'⟨_,(pS (sE 1 nd (BH AB))
   (pS (Bm Yx rfl (di (Cm 0.9 rfl)) (DU rfl (gC (gE 2 nd) (gC (gE 3 nd) DX)))
    (pS (sE 4 nd (tI rfl 1.0 tuple 1.0 zip (pC (D0 (pv 3) TB.cl MD.me GD hr MD.b .nil BF) (pC (Ip hu (Cm 0.9 rfl) 1.6 0.2) AB))))
   (AF (B8 (DQ EN Ft Fq FR 1.5 (pC (A5 (pC 1.6 (pC (D0 (pv 3) TB.cl MP.me GP hr MP.b .nil BF) (pC (pv 4) AB)))) AB))))))
   (AF (AQ 1.5)))),?_⟩
  exists let b:=_;let c:=AE _ b;let e:=AE (CM _ _ c) a;AE _ e _ _ _
  refine⟨BC _,λl hl=>?_⟩;have s1:AA H (upd H l (.lst [])):=AI hl;let EO:NW:=λi σ H'=>∃(us:LV) (x y z:OV),σ=[↥(.ref p),↥(.ref l),x,y,z]/\AA H H'/\H' l≈(.lst us)/\Dg H' (ns.take i) us;refine⟨Z,p,D,dx,_,Z,s1 _ _ h1,TD.cl,TD.nO,V8 _ _ _,bo,o,A3,Y,s1 _ _ h3,eU EO
   ⟨[],none,none,none,Y,s1,uS,by rw[Ee];exact .nil⟩ (λi σ H' _ h0=>by obtain⟨_,_,_,_,_,s,_⟩:=h0;exact s _ _ h3) ?_ ?_⟩
  ·rintro i pr t σ H2 hi ⟨us,x,y,z,rfl,s2,Al,Hf⟩ ht;obtain⟨n,hn,e1,yb,e2,bd⟩:=Bi h4 hi;have As:n∈ns:=Yd hn;have Bg:=gn.each n As;have ES:AA H2 (upd H2 t (.tup [kV pr.1,pr.2])):=AI ht;have Ek:(upd H2 t (.tup [kV pr.1,pr.2])) t≈(.tup [.str n.1,.ref yb]):=by rw[uS,e1,e2];rfl
   generalize upd H2 t (.tup [kV pr.1,pr.2])=H3 at ES Ek;have s3:=s2.trans ES;refine⟨t,Z,AG.of Ek,Y,_,Z,_,Z,Y,?_⟩;have bX:=bd.mono s3;obtain⟨dxb,tb,usb,U7,_⟩:=bX.ex;obtain⟨mv,hmv,lm,rfl,hlm,_⟩:=h6.val gn.nd As;refine⟨Z,yb,dxb,Z,U7,XH _ _ _,yb,k,ρ,n.2.1,Z,bX,λld Qt Dq VC=>?_⟩;have Ar:AA H3 (upd H3 ld (.lst Qt)):=AI Dq;have Qe:(upd H3 ld (.lst Qt)) ld≈(.lst Qt):=uS;have Qh:=VC.mono Ar;generalize upd H3 ld (.lst Qt)=H4 at Ar Qe Qh;have s4:=s3.trans Ar;refine⟨Z,p,D,dx,_,Z,s4 _ _ h1,TD.cl,TD.nM,vv _ _ _,Z,mo,Z,(by rw[<- hmv];exact Bl.k (k:=Sum.inr n.1) (s4 _ _ h5)),ld,lm,_,Z,SqL.of Qe,SqL.of (s4 _ _ hlm),λtz ws H5 htz B6 ZM mn=>?_⟩;have s5:=s4.trans B6;have n_:EF H5 n.2.2 ws:=de (Qh.mono B6) mn;have bW:=bd.mono s5;obtain⟨Zm,tb5,usb5,nv,_⟩:=bW.ex;have Cg:=B6 _ _ (Ar _ _ (ES _ _ Al));refine⟨Z,.inl ⟨Y,_,SqL.of Cg⟩,Z,Z,yb,Zm,Z,nv,gq _ _ _,yb,k,ρ,n.2.1,Z,bW,Z,sL (by show 3<=100000;decide),λt6 Dn=>?_⟩;have Ce:AA H5 (upd H5 t6 (.tup [.str n.1,.int n.2.1,.ref tz])):=AI Dn;have QX:(upd H5 t6 (.tup [.str n.1,.int n.2.1,.ref tz])) t6≈(.tup [.str n.1,.int n.2.1,.ref tz]):=uS;generalize upd H5 t6 (.tup [.str n.1,.int n.2.1,.ref tz])=H6 at Ce QX;have Em:=Ce _ _ Cg;have ul:↑us<=8:=by
    have a:=Yp Hf;rw[Yv]at a;have b:=gn.few;omega
   have Ug:=(ES.trans Ar).trans (B6.trans Ce);have tk:∀ b zs,H6 b≈(.tup zs)->(upd H6 l (.lst (us++[V.ref t6]))) b≈(.tup zs):=λb zs e=>by
    rw[AD (λz=>by rw[z,Em]at e;cases e)];exact e
   refine⟨l,_,Z,Y,Em,B0 0.0,us++[.ref t6],G,Z,λb u e=>?_,uS,?_⟩
   ·rw[AD (AK e hl)];exact Ce _ _ (s5 _ _ e)
   ·rw[Bu,hn];exact CH ((Hf.mono (CN Ug)).mono tk) ⟨t6,tz,ws,Y,tk _ _ QX,tk _ _ (Ce _ _ ZM),(n_.mono (CN Ce)).mono tk⟩
  ·rintro σ H2 ⟨us,x,y,z,rfl,s2,Al,Hf⟩;have bl:↑A3=↑ns:=(Yp h4).symm;rw[bl,Bt]at Hf;exact⟨Z,q l us H2 hl s2 Al Hf⟩
structure EY(H:Hp)(a:δ)(ws:LS):Prop where
 at_:H a≈(.lst 1.1)
 few:↑ws<=1000
 sh:∀ x∈ws,↑x<=1000
def EY.mono{H H':Hp}{a:δ}{ws:LS}(h:EY H a ws)(s:AA H H'):EY H' a ws:=⟨s _ _ h.at_,h.few,h.sh⟩
def we:V->Bool
 | .str x=>AR x
 | _=>false
def J2:LS->Bool
 | w :: r=>decide (w="kind")&&(r.all AR&&(decide (↑r=1) || (decide (2<↑r)&&decide (r.getD 1 ""="under"))))
 | []=>false
def Sk(w:Str)(r:LS):J2 (w :: r)=(decide (w="kind")&&(r.all AR&&(decide (↑r=1) || (decide (2<↑r)&&decide (r.getD 1 ""="under"))))):=rfl
def Hr:LS:=["1","2","3","4"]
def PN:LS->Bool
 | [a,b,c]=>decide (a="name")&&(AR b&&decide (c∈Hr))
 | _=>false
def PM(ws:LS):Bool:=decide (ws.getD 0 ""="deed")&&(decide (5<=↑ws)&&(decide (ws.getD (↑ws - 2) ""="gives")&&(ws.drop 1).all AR))
inductive NN(vs:LV)(H:Hp)(Q:VK)(AJ:XK):Prop
 | mk:∀(a:δ) (ws:LS),vs=[.ref a]->EY H a ws->(∀ H',AA H H'->Q (.bl (ws.all AR)) H')->NN vs H Q AJ
inductive Y0(vs:LV)(H:Hp)(Q:VK)(AJ:XK):Prop
 | mk:∀(a:δ) (ws:LS),vs=[.ref a]->EY H a ws->ws≠[]->(∀ H',AA H H'->Q (.bl (J2 ws)) H')->Y0 vs H Q AJ
inductive Y2(vs:LV)(H:Hp)(Q:VK)(AJ:XK):Prop
 | mk:∀(a:δ) (ws:LS),vs=[.ref a]->EY H a ws->ws≠[]->(∀ H',AA H H'->Q (.bl (PN ws)) H')->Y2 vs H Q AJ
inductive YY(vs:LV)(H:Hp)(Q:VK)(AJ:XK):Prop
 | mk:∀(a:δ) (ws:LS),vs=[.ref a]->EY H a ws->ws≠[]->(∀ H',AA H H'->Q (.bl (PM ws)) H')->YY vs H Q AJ
def A_{ws:LS}{k:Nat}{x:Str}(h:ws[k]?≈x):CL 1.1 (k:Int)≈(.str x):=CA (by rw[Ys,h];rfl)
def VX{ws:LS}{k:Nat}{x:Str}(h1:1<=k)(h2:k<=↑ws)(h:ws[↑ws - k]?≈x):CL 1.1 (-(k:Int))≈(.str x):=by
 have e:HW ↑1.1 (-(k:Int))≈(↑ws - k):=by
  unfold HW;rw[Ya,if_neg 0.0,if_pos 0.0]
  congr 1
  omega
 unfold CL;rw[e];show 1.1[↑ws - k]?=_;rw[Ys,h];rfl
def cG(ws:LS)(j k:Nat)(h:j + k<=↑ws)(hk:1<=k):BO 1.1 (↥(j:Int)) (↥(-(k:Int)))=((ws.drop j).take (↑ws - (j + k))).map V.str:=by
 unfold BO;rw[HT.sIx_nat,<- List.map_drop,<- List.map_take,Ya];have e:HT.sIx ↑ws ↑ws (↥(-(k:Int)))=↑ws - k:=by
  show(if -(k:Int)<0 then(-(k:Int) + (↑ws:Int)).toNat else min (-(k:Int)).toNat ↑ws)=_;rw[if_pos 0.0];omega
 rw[e,Na 0.0,show ↑ws - k - j=↑ws - (j + k) by omega]
def PH(ws:LS)(k:Nat):BO 1.1 (↥(k:Int)) none=(ws.drop k).map V.str:=by
 unfold BO;rw[HT.sIx_nat,HT.sIx_none,<- List.map_drop,<- List.map_take,Ya]
 congr 1
 by_cases h:k<=↑ws
 ·rw[Na h,KD (by rw[List.length_drop];exact Ye _)]
 ·rw[Nat.min_eq_right 0.0,List.drop_of_length_le (Ye _),List.drop_of_length_le 0.0,List.take_nil]
def Yb6:(["text"]:LS).Nodup:=by rfl'
def Ybk:Aa ["texts"] ["texts"] (AL J6):=by nofun
def tS(F:Def K mg "are_words" J6 ["texts"] f fd)(all:mg "all"=none)(DW:Def K mg "is_word" I_ ["text"] fW fdW)(GW:⋯ 1 fW fdW ["text"] M9):⋯ 2 f fd ["texts"] NN:=by
 nomatch F.fn.ok Ybk
 ·obtain⟨a,ws,rfl,_⟩:=h;rfl
 ·obtain⟨a,ws,rfl,hw,q⟩:=h
  ac_nf
  refine'⟨_,AF (AQ (A9 (R3 rfl) 1.0 all Tx (pC ?eC AB))),?_⟩
  case eC=>exact(Ea ["text"] [] [] (λ_=>CC (osc:=AL J6) (on:=["texts"]) 0.7 rfl rfl rfl) (Co 0.9) (λC s H fp=>CF (i:=0) Yb6 rfl 1.2 1.3) 2.9 (λC s H fp=>AV DW GW hr (pC 0.9 AB)))
  refine⟨Z,a,Y,⟨_,SqL.of hw.at_⟩,dG (Cq (xs:=ws.map V.str)) (sL (by rw[Ya];have:=hw.few;omega)) (λ_=>true) (λ_ x v _=>v=.bl (we x)) (λ_ _ _ _ _ _ z=>z) (λH' s'=>SqL.of (s' _ _ hw.at_)) (λx H' R s' hx hR=>hR H' (AA.refl _)) ?_ ?_⟩
  ·intro D x H' R s' _ _ hx _ hR;obtain⟨y,hy,rfl⟩:=Yg.mp hx;exact⟨Z,y,Y,hw.sh y hy,λH2 s2=>hR _ H2 s2 rfl⟩
  ·intro D H' ys hD s' hl hP;rw[JG.mpr 0.2]at hP;have e:=NB hP;rw[C5]at e;refine⟨D,ws.map AR,Y,SqL.of (by rw[hl,e,C5];rfl),?_⟩;have e2:(ws.map AR).all id=ws.all AR:=by rw[List.all_map];rfl
   show Q (.bl ((ws.map AR).all id)) H';rw[e2];exact q H' s'
def Ybi:Aa ["words"] ["words"] (AL S7):=by nofun
def rh(F:Def K mg "is_kind_row" S7 ["words"] f fd)(len:mg "len"=none)(DA:Def K mg "are_words" J6 ["texts"] fA fdA)(GA:⋯ 2 fA fdA ["texts"] NN):⋯ 3 f fd ["words"] Y0:=by
 nomatch F.fn.ok Ybi
 ·obtain⟨a,ws,rfl,_⟩:=h;rfl
 ·obtain⟨a,ws,rfl,hw,hn,q⟩:=h
  ac_nf
  refine'⟨_,(pS (Ag (PW.pt (Xx (An OZ 1.9 Ah (Aj _)) (Vo (Di (C0 (AV DA GA hr (pC (Gq (r:=Ht K) Jz 0.9 (Fo AH) Iu) AB))))))) (AF (AQ F4)) Af)
   (AF (AQ (Ti (C3 BP (A9 Cb 1.0 len BX (pC 0.9 AB)) AH (Aj _)) (IA (F7 (C3 Hz (A9 Cb 1.0 len BX (pC 0.9 AB)) AH (Aj _)) (IA (C3 BP 1.9 Ah (Aj _))))))))),?_⟩
  exists AE _ a _ _ _
  rcases ws with _ | ⟨x,r⟩
  ·exact absurd rfl hn
  have a0:CL ((x :: r).map V.str) 0≈(.str x):=A_ (ws:=x :: r) (k:=0) rfl;refine⟨Z,a,G,Z,Y,SqL.of hw.at_,a0,Y,Z,?_⟩;by_cases h1:x="kind"
  ·rw[show(!decide (V.str x=V.str "kind"))=false by rw[h1,Jb rfl];rfl];refine AU ⟨Z,Z,a,Z,SqL.of hw.at_,λp hp=>?_⟩;have s1:AA H (upd H p (.lst (BO ((x :: r).map V.str) (↥1) none))):=AI hp;have h2:(upd H p (.lst (BO ((x :: r).map V.str) (↥1) none))) p≈(.lst (r.map V.str)):=by rw[uS];exact congrArg (λz=>↥(HO.lst z)) (PH (x :: r) 1)
   generalize upd H p (.lst (BO ((x :: r).map V.str) (↥1) none))=H1 at s1 h2 ⊢;refine⟨p,r,Y,⟨h2,by have:=hw.few;rw[B_]at this;omega,λy hy=>hw.sh y (Yq _ hy)⟩,λH2 s2=>⟨Z,?_⟩⟩;have A8:=s1.trans s2;have q:=q H2 A8;rw[Sk]at q;rw[Jb h1,DY]at q;cases ha:r.all AR with
   | false =>
    rw[ha]at q;exact A4 q
   | true =>
    rw[ha,DY]at q;have Al:=SqL.of (K:=K) (A8 _ _ hw.at_);have BN:↑((x :: r).map V.str)=↑r + 1:=by rw[Ya,B_]
    refine AU ⟨Z,a,Z,.inl Al,Y,Z,?_⟩;rw[BN];by_cases e2:↑r=1
    ·rw[Jb e2,Bool.true_or]at q;rw[Jb (show V.int ((↑r + 1:Nat):Int)=V.int 2 by rw[e2];rfl)];exact A4 q
    ·rw[Jc e2,NR]at q;rw[Jc (λz=>e2 (by have:=V.int.inj z;omega))];refine AU ⟨Z,a,Z,.inl Al,_,Z,Y,Z,?_⟩;rw[BN];by_cases e3:2<↑r
     ·rw[Jb e3,DY]at q;rw[Jb (show(3:Int)<((↑r + 1:Nat):Int) by omega)];obtain⟨y,hy⟩:∃ y,r[1]?≈y:=⟨r[1],Yi 0.0⟩;rw[Yz,hy]at q;refine A4 ⟨Z,a,G,Z,Y,Al,A_ (ws:=x :: r) (k:=2) (by rw[List.getElem?_cons_succ];exact hy),Y,?_⟩;rw[show decide (V.str y=V.str "under")=decide (y="under")from JK.mpr ⟨λz=>V.str.inj z,λz=>by rw[z]⟩];exact q
     ·rw[Jc e3,JF]at q;rw[Jc (show ¬ (3:Int)<((↑r + 1:Nat):Int) by omega)];exact AU q
  ·rw[show(!decide (V.str x=V.str "kind"))=true by rw[Jc (λz=>h1 (V.str.inj z))];rfl];have q:=q H (AA.refl _);rw[Sk]at q;rw[Jc h1,JF]at q;exact A4 q
def jb(K:Fg)(mg:Str->OU):Prop:=∃ a,mg "FIGURES"≈(.ref a)/\∀ H,AG K H a (Hr.map V.str)
def Ybh:Aa ["words"] ["words"] (AL S8):=by nofun
def wb(c:Str):Bw (.str c) (Hr.map V.str)=decide (c∈Hr):=Io c Hr
def tR{ws:LS}(h:↑ws≠3):PN ws=false:=by
 rcases ws with _ | ⟨a,_ | ⟨b,_ | ⟨c,_ | ⟨d,r⟩⟩⟩⟩
 ·rfl
 ·rfl
 ·rfl
 ·exact absurd rfl h
 ·rfl
def rn(F:Def K mg "is_name_row" S8 ["words"] f fd)(len:mg "len"=none)(FG:jb K mg)(DW:Def K mg "is_word" I_ ["text"] fW fdW)(GW:⋯ 1 fW fdW ["text"] M9):⋯ 2 f fd ["words"] Y2:=by
 nomatch F.fn.ok Ybh
 ·obtain⟨a,ws,rfl,_⟩:=h;rfl
 ·obtain⟨a,ws,rfl,hw,hn,q⟩:=h;obtain⟨fg,mgF,hF⟩:=FG
  ac_nf
  refine'⟨_,(AF (AQ (F7 (C3 BP (A9 Cb 1.0 len BX (pC 0.9 AB)) AH (Aj _)) (F7 (C3 BP 1.9 Ah (Aj _)) (F7 (AV DW GW hr (pC 1.9 AB)) (IA (C3 (r:=F2 K false) Iz 1.9 (Iq (v:=.ref fg) 1.0 mgF rfl) 1.8))))))),?_⟩;have hl:=SqL.of (K:=K) hw.at_;refine⟨Z,a,Z,.inl hl,Y,Z,?_⟩;rw[Ya];by_cases e:↑ws=3
  ·obtain⟨x,y,z,rfl⟩:∃ x y z,ws=[x,y,z]:=by
    rcases ws with _ | ⟨x,_ | ⟨y,_ | ⟨z,_ | ⟨d,r⟩⟩⟩⟩
    ·cases e
    ·cases e
    ·cases e
    ·exact⟨x,y,z,Y⟩
    ·simp at e
   have q1:∀ H',AA H H'->Q (.bl (decide (x="name")&&(AR y&&decide (z∈Hr)))) H':=q;rw[Jb (show V.int (↑([x,y,z]:LS):Int)=V.int 3 from rfl)];refine A4 ⟨Z,a,G,Z,Y,hl,A_ (ws:=[x,y,z]) (k:=0) rfl,Y,Z,?_⟩;rw[show decide (V.str x=V.str "name")=decide (x="name")from JK.mpr ⟨λz=>V.str.inj z,λz=>by rw[z]⟩];by_cases h1:x="name"
   ·rw[Jb h1]at q1 ⊢;rw[DY]at q1;refine A4 ⟨Z,a,G,Z,Y,hl,A_ (ws:=[x,y,z]) (k:=1) rfl,y,Y,hw.sh y 0.6,λH1 s1=>⟨Z,?_⟩⟩;have q1:=q1 H1 s1;cases hy:AR y with
    | false =>
     rw[hy]at q1;exact AU q1
    | true =>
     rw[hy,DY,<- wb]at q1;exact A4 ⟨Z,a,G,Z,Y,SqL.of (s1 _ _ hw.at_),A_ (ws:=[x,y,z]) (k:=2) rfl,fg,Z,.inr (hF H1),Y,by rfl',q1⟩
   ·rw[Jc h1]at q1 ⊢;exact AU (q1 H (AA.refl _))
  ·have q:=q H (AA.refl _);rw[tR e]at q;rw[Jc (λz=>e (by have:=V.int.inj z;omega))];exact AU q
def Ybj:Aa ["words"] ["words"] (AL S6):=by nofun
def rZ(F:Def K mg "is_deed_row" S6 ["words"] f fd)(len:mg "len"=none)(DA:Def K mg "are_words" J6 ["texts"] fA fdA)(GA:⋯ 2 fA fdA ["texts"] NN):⋯ 3 f fd ["words"] YY:=by
 nomatch F.fn.ok Ybj
 ·obtain⟨a,ws,rfl,_⟩:=h;rfl
 ·obtain⟨a,ws,rfl,hw,hn,q⟩:=h
  ac_nf
  refine'⟨_,(pS (Ag (PW.pt (Xx (An OZ 1.9 Ah (Aj _)) (Vo (An Od (A9 Cb 1.0 len BX (pC 0.9 AB)) AH (Aj _))))) (AF (AQ F4)) Af)
   (AF (AQ (F7 (C3 BP (AO (r:=Ao K) Ad 0.9 (Ob Ow AH) 0.2) Ah (Aj _)) (IA (AV DA GA hr (pC (Gq (r:=Ht K) Jz 0.9 (Fo AH) Iu) AB))))))),?_⟩
  exists AE _ a _ _ _
  have hl:=SqL.of (K:=K) hw.at_;obtain⟨x,hx⟩:∃ x,ws[0]?≈x:=⟨ws[0]'(LY.mpr hn),Yi _⟩;unfold PM at q;rw[Yz,hx,P0]at q;refine⟨Z,a,G,Z,Y,hl,A_ (k:=0) hx,Y,Z,?_⟩;by_cases h1:x="deed"
  ·rw[show(!decide (V.str x=V.str "deed"))=false by rw[h1,Jb rfl];rfl];rw[Jb h1,DY]at q;refine AU ⟨Z,a,Z,.inl hl,_,Z,Y,Z,?_⟩;rw[Ya];by_cases h5:5<=↑ws
   ·rw[Jb h5,DY]at q;rw[Jc (show ¬ ((↑ws:Nat):Int)<5 by omega)];obtain⟨y,hy⟩:∃ y,ws[↑ws - 2]?≈y:=⟨ws[↑ws - 2]' 0.0,Yi _⟩;rw[Yz,hy,P0]at q;refine AU ⟨Z,Z,a,G,Z,Y,hl,VX (k:=2) 0.1 0.0 hy,Y,Z,?_⟩;rw[show decide (V.str y=V.str "gives")=decide (y="gives")from JK.mpr ⟨λz=>V.str.inj z,λz=>by rw[z]⟩];by_cases h2:y="gives"
    ·rw[Jb h2]at q ⊢;rw[DY]at q;refine A4 ⟨Z,Z,a,Z,hl,λp hp=>?_⟩;have s1:AA H (upd H p (.lst (BO 1.1 (↥1) none))):=AI hp;have h3:(upd H p (.lst (BO 1.1 (↥1) none))) p≈(.lst ((ws.drop 1).map V.str)):=by rw[uS];exact congrArg (λz=>↥(HO.lst z)) (PH ws 1)
     generalize upd H p (.lst (BO 1.1 (↥1) none))=H1 at s1 h3 ⊢;exact⟨p,ws.drop 1,Y,⟨h3,by rw[List.length_drop];have:=hw.few;omega,λy hy=>hw.sh y (List.mem_of_mem_drop hy)⟩,λH2 s2=>q H2 (s1.trans s2)⟩
    ·rw[Jc h2]at q ⊢;exact AU (q H (AA.refl _))
   ·rw[Jc h5,JF]at q;rw[Jb (show((↑ws:Nat):Int)<5 by omega)];exact A4 (q H (AA.refl _))
  ·rw[show(!decide (V.str x=V.str "deed"))=true by rw[Jc (λz=>h1 (V.str.inj z))];rfl];rw[Jc h1,JF]at q;exact A4 (q H (AA.refl _))
inductive YZ(vs:LV)(H:Hp)(Q:VK)(AJ:XK):Prop
 | mk:∀(a:δ) (ws:LS) (x:Str),vs=[.ref a]->EY H a ws->ws[1]?≈x->(∀ t u H',AA H H'->H' t≈(.tup [.str x,.ref u])->H' u≈(.lst ((ws.drop 3).map V.str))->H u=none->Q (.ref t) H')->YZ vs H Q AJ
inductive Y1(vs:LV)(H:Hp)(Q:VK)(AJ:XK):Prop
 | mk:∀(a:δ) (ws:LS) (x c:Str) (n:Int),vs=[.ref a]->EY H a ws->ws[1]?≈x->ws[2]?≈c->PySem.intText? c≈n->↑c<=640->(∀ t H',AA H H'->H' t≈(.tup [.str x,.int n])->Q (.ref t) H')->Y1 vs H Q AJ
inductive YV(vs:LV)(H:Hp)(Q:VK)(AJ:XK):Prop
 | mk:∀(a:δ) (ws:LS) (m:Str),vs=[.ref a]->EY H a ws->4<=↑ws->ws[↑ws - 1]?≈m->(∀ t c H',AA H H'->H' t≈(.tup [.ref c,.str m])->H' c≈(.tup (((ws.drop 2).take (↑ws - 4)).map V.str))->Q (.ref t) H')->YV vs H Q AJ
def zt:Aa ["words"] ["words"] (AL SJ):=by nofun
def qU(F:Def K mg "kind_of" SJ ["words"] f fd):⋯ 1 f fd ["words"] YZ:=by
 nomatch F.fn.ok zt
 ·obtain⟨a,ws,x,rfl,_⟩:=h;rfl
 ·obtain⟨a,ws,x,rfl,hw,hx,q⟩:=h
  ac_nf
  refine'⟨_,(AF (AQ (A5 (pC 1.9 (pC (Gq (r:=Ht K) Jz 0.9 (Fo AH) Iu) AB))))),?_⟩;have hl:=SqL.of (K:=K) hw.at_;refine⟨_,rfl,a,_,_,_,rfl,rfl,hl,A_ (k:=1) hx,_,rfl,_,rfl,a,_,rfl,hl,λu hu=>⟨sL (by show 2<=100000;decide),λt ht=>?_⟩⟩;have s1:AA H (upd H u (.lst (BO 1.1 (↥3) none))):=AI hu;have h3:(upd H u (.lst (BO 1.1 (↥3) none))) u≈(.lst ((ws.drop 3).map V.str)):=by rw[uS];exact congrArg (λz=>↥(HO.lst z)) (PH ws 3)
  exact q t u _ (s1.trans (AI ht)) uS (AI ht _ _ h3) hu
def zv:Aa ["words"] ["words"] (AL SK):=by nofun
def qr(F:Def K mg "name_of" SK ["words"] f fd)(int:mg "int"=none):⋯ 1 f fd ["words"] Y1:=by
 nomatch F.fn.ok zv
 ·obtain⟨a,ws,x,c,n,rfl,_⟩:=h;rfl
 ·obtain⟨a,ws,x,c,n,rfl,hw,hx,hc,hn,hz,q⟩:=h
  ac_nf
  refine'⟨_,(AF (AQ (A5 (pC 1.9 (pC (C4 ff 1.0 int Nd (pC 1.9 AB)) AB))))),?_⟩;have hl:=SqL.of (K:=K) hw.at_;exact⟨_,rfl,a,_,_,_,rfl,rfl,hl,A_ (k:=1) hx,_,rfl,a,_,_,_,rfl,rfl,hl,A_ (k:=2) hc,c,n,rfl,hn,hz,sL (by show 2<=100000;decide),λt ht=>q t _ (AI ht) uS⟩
def zj:Aa ["words"] ["words"] (AL SI):=by nofun
def qR(F:Def K mg "deed_of" SI ["words"] f fd)(tuple:mg "tuple"=none):⋯ 1 f fd ["words"] YV:=by
 nomatch F.fn.ok zj
 ·obtain⟨a,ws,m,rfl,_⟩:=h;rfl
 ·obtain⟨a,ws,m,rfl,hw,h4,hm,q⟩:=h
  ac_nf
  refine'⟨_,(AF (AQ (A5 (pC (C4 LI 1.0 tuple JM (pC (Gq (r:=Ht K) Jz 0.9 (Fo AH) (Fo (Ob Ow AH))) AB)) (pC (AO (r:=Ao K) Ad 0.9 (Ob Ow AH) 0.2) AB))))),?_⟩;have hl:=SqL.of (K:=K) hw.at_;refine⟨_,rfl,_,rfl,_,rfl,_,rfl,a,_,rfl,hl,λp hp=>?_⟩;have s1:AA H (upd H p (.lst (BO 1.1 (↥2) (↥(-2))))):=AI hp;have h3:(upd H p (.lst (BO 1.1 (↥2) (↥(-2))))) p≈(.lst (((ws.drop 2).take (↑ws - 4)).map V.str)):=by rw[uS];exact congrArg (λz=>↥(HO.lst z)) (cG ws 2 2 0.0 0.1)
  generalize upd H p (.lst (BO 1.1 (↥2) (↥(-2))))=H1 at s1 h3;refine⟨p,_,rfl,.inl ⟨SqL.of h3,λc hc=>?_⟩⟩;have s2:AA H1 (upd H1 c (.tup (((ws.drop 2).take (↑ws - 4)).map V.str))):=AI hc;have h4:(upd H1 c (.tup (((ws.drop 2).take (↑ws - 4)).map V.str))) c≈(.tup (((ws.drop 2).take (↑ws - 4)).map V.str)):=uS;generalize upd H1 c (.tup (((ws.drop 2).take (↑ws - 4)).map V.str))=H2 at s2 h4 ⊢;exact⟨_,rfl,_,rfl,a,_,_,_,rfl,rfl,SqL.of (s2 _ _ (s1 _ _ hw.at_)),VX (k:=1) 0.1 0.0 hm,sL (by show 2<=100000;decide),λt ht=>q t c _ ((s1.trans s2).trans (AI ht)) uS (AI ht _ _ h4)⟩
def XD(a b c:Str):(a++b)++c=a++(b++c):=by
 show(⟨(a.cps++b.cps)++c.cps⟩:Str)=⟨a.cps++(b.cps++c.cps)⟩;rw[Array.append_assoc]
def Bh(r:Str)(us:LS):Str:=us.foldl (λr u=>(r++" ")++u) r
theorem IE:∀(us:LS) (x:Str),Builtin.Str.glued " " (x :: us)=Bh x us
 | [],x=>rfl
 | u :: us,x=>IE us ((x++" ")++u)
def Et(w:Str)(ups:LS):Str:=if ups.isEmpty then "kind "++w else Bh (("kind "++w)++" under") ups
def Fi(w:Str)(c:LS)(m:Str):Str:=(Bh ("deed "++w) c++" gives ")++m
def EI(n:AN):Str:=(("name "++n.1)++" ")++Str.ofString (toString (n.2.1:Int))
def eB(w:Str):Builtin.Str.glued " " ["kind",w]="kind "++w:=by
 rw[IE];show((("kind":Str)++" ")++w)=_;rw[show(("kind":Str)++" ")="kind " by rfl']
def dM(w:Str)(ups:LS):Builtin.Str.glued " " (((["kind",w]:LS)++(["under"]:LS))++ups)=Bh (("kind "++w)++" under") ups:=by
 show Builtin.Str.glued " " ("kind" :: w :: "under" :: ups)=_;rw[IE];show Bh (((((("kind":Str)++" ")++w)++" ")++"under")) ups=_;rw[show(("kind":Str)++" ")="kind " by rfl',XD ("kind "++w) " " "under",show((" ":Str)++"under")=" under" by rfl']
def bj(w:Str)(c:LS)(m:Str):Builtin.Str.glued " " (((["deed",w]:LS)++c)++(["gives",m]:LS))=Fi w c m:=by
 show Builtin.Str.glued " " ("deed" :: w :: (c++(["gives",m]:LS)))=_;rw[IE];show Bh ((("deed":Str)++" ")++w) (c++(["gives",m]:LS))=_;rw[show(("deed":Str)++" ")="deed " by rfl'];unfold Bh Fi;rw[List.foldl_append];show((((Bh ("deed "++w) c++" ")++"gives")++" ")++m)=_;rw[XD (Bh ("deed "++w) c) " " "gives",XD (Bh ("deed "++w) c) (" "++"gives") " ",show(((" ":Str)++"gives")++" ")=" gives " by rfl']
theorem VZ:∀ {us:LS}{r:Str},(∀ u∈us,↑u<=8)->↑(Bh r us)<=↑r + 9 * ↑us
 | [],r,_=>by show ↑r<=_;omega
 | u :: us,r,h=>by
  have h1:=VZ (us:=us) (r:=(r++" ")++u) λx hx=>h x (.tail _ hx);have h2:=h u (.head _);rw[strLen_append,strLen_append]at h1;have h3:(" ":Str).length=1:=by rfl'
  show(Bh ((r++" ")++u) us).length<=_;rw[B_];omega
def xk{w m:Str}{c:LS}(hw:↑w<=8)(hm:↑m<=8)(hl:↑c<=4)(h:∀ u∈c,↑u<=8):↑(Fi w c m)<=100:=by
 have h3:("deed ":Str).length=5:=by rfl'
 have h4:(" gives ":Str).length=7:=by rfl'
 have h1:=VZ (r:="deed "++w) h;unfold Fi;rw[strLen_append]at h1;rw[strLen_append,strLen_append];omega
def WR:∀ {n:Nat},1<=n->n<=4->↑(Str.ofString (toString (n:Int)))<=1
 | 1,_,_=>by rfl'
 | 2,_,_=>by rfl'
 | 3,_,_=>by rfl'
 | 4,_,_=>by rfl'
 | 0,h,_=>by omega
 | n + 5,_,h=>by omega
def yE{n:AN}(hw:↑n.1<=8)(h1:1<=n.2.1)(h4:n.2.1<=4):↑(EI n)<=100:=by
 have a:=WR h1 h4;have h3:("name ":Str).length=5:=by rfl'
 have h5:(" ":Str).length=1:=by rfl'
 unfold EI;rw[strLen_append,strLen_append,strLen_append];omega
def Ck(n:AN):LS:=EI n :: n.2.2.map λp=>Fi n.1 p.1 p.2
def EH(ρ:RS):LS:=ρ.map λr=>Et r.1 r.2
def K6(ρ:RS)(ns:List AN):LS:=EH ρ++ns.flatMap Ck
def rE{ρ:RS}(g:Ak ρ){n:AN}(h:PK ρ n):↑(Ck n)<=65/\∀ y∈Ck n,↑y<=100:=by
 have hf:=h.deeds.few;rw[Ya]at hf;refine⟨by unfold Ck;rw[B_,Ya];omega,λy hy=>?_⟩
 rcases Yk.mp hy with e | hy
 ·rw[e];exact yE (Ca h.word).2 h.one h.four
 ·obtain⟨p,hp,e⟩:=Yg.mp hy;have gc:=h.deeds.call p.1 (Yg.mpr ⟨p,hp,Y⟩);have wd:∀ x∈ρ.map 0.8,↑x<=8:=λx hx=>by
   obtain⟨r,hr,e⟩:=Yg.mp hx;rw[<- e];exact(Ca (g.word r hr)).2
  rw[<- e];exact xk (Ca h.word).2 (wd _ (h.made p hp)) (by rw[gc.len];exact h.four) λu hu=>wd _ (gc.known u hu)
theorem Wb{ρ:RS}(g:Ak ρ):∀ {ns:List AN},(∀ n∈ns,PK ρ n)->↑(ns.flatMap Ck)<=65 * ↑ns/\∀ y∈ns.flatMap Ck,↑y<=100
 | [],_=>⟨Ye _,λ_ h=>nomatch h⟩
 | n :: ns,h=>by
  obtain⟨a,b⟩:=rE g (h n (.head _));obtain⟨c,d⟩:=Wb g (ns:=ns) λm hm=>h m (.tail _ hm);rw[List.flatMap_cons,Yo,B_];exact⟨O,λy hy=>(Ym.mp hy).elim (b y) (d y)⟩
inductive Ot(vs:LV)(H:Hp)(Q:VK)(AJ:XK):Prop
 | mk:∀(w:Str) (t:δ) (ups:LS),vs=[.str w,.ref t]->H t≈(.tup (ups.map V.str))->↑w<=8->↑ups<=8->(∀ u∈ups,↑u<=8)->(∀ H',AA H H'->Q (.str (Et w ups)) H')->Ot vs H Q AJ
inductive Oq(vs:LV)(H:Hp)(Q:VK)(AJ:XK):Prop
 | mk:∀(w m:Str) (t:δ) (c:LS),vs=[.str w,.ref t,.str m]->H t≈(.tup (c.map V.str))->↑w<=8->↑m<=8->↑c<=4->(∀ u∈c,↑u<=8)->(∀ H',AA H H'->Q (.str (Fi w c m)) H')->Oq vs H Q AJ
def kC:Aa ["word","ups","words"] ["word","ups"] (AL Sh):=by nofun
def wR(F:Def K mg "kind_row" Sh ["word","ups"] f fd)(list:mg "list"=none):⋯ 1 f fd ["word","ups"] Ot:=by
 nomatch F.fn.ok kC
 ·obtain⟨x,t,ups,rfl,_⟩:=h;rfl
 ·obtain⟨x,t,ups,rfl,ht,hx,hl,HZ,q⟩:=h;have nd:=kC.nd
  ac_nf
  refine'⟨_,(pS (sE 2 nd (BH (pC Ah (pC 0.9 AB))))
   (pS (Ag (Zip 1.5 (λ_=>rfl)) (AF (sE 2 nd (Ai Jv (Ai Jv 1.6 (BH (pC Ah AB))) (C4 XY 1.0 list P8 2.3)))) Af)
   (AF (AQ (DQ NS PySem.F.slot_str_join PySem.F.type_str_join WA Ah 2.5))))),?_⟩
  exists let b:=_;let c:=AE (By _ b _) a;AE _ c _ _ _
  have e1:(" ":Str).length=1:=by rfl'
  have ek:("kind":Str).length=4:=by rfl'
  have eu:("under":Str).length=5:=by rfl'
  refine⟨_,rfl,sL (by show 2<=100000;decide),λl Dd=>?_⟩;have s1:AA H (upd H l (.lst [.str "kind",.str x])):=AI Dd;have Ap:(upd H l (.lst [.str "kind",.str x])) l≈(.lst [.str "kind",.str x]):=uS;generalize upd H l (.lst [.str "kind",.str x])=H1 at s1 Ap;refine⟨_,rfl,_,.inr (.inl ⟨_,AG.of (s1 _ _ ht),rfl⟩),BG (λz=>?_) (λz=>?_)⟩
  ·have ne:ups.isEmpty=false:=by
    cases ups with
    | nil=>cases z
    | cons=>rfl
   refine⟨Z,V,λl2 Al=>?_⟩;have Cu:AA H1 (upd H1 l2 (.lst [.str "under"])):=AI Al;have HM:(upd H1 l2 (.lst [.str "under"])) l2≈(.lst [.str "under"]):=uS;generalize upd H1 l2 (.lst [.str "under"])=H2 at Cu HM;refine⟨l,l2,_,Z,Y,Cu _ _ Ap,HM,sL (by show 3<=100000;decide),λl3 BA=>?_⟩;have ES:AA H2 (upd H2 l3 (.lst ([.str "kind",.str x]++[.str "under"]))):=AI BA;have HL:(upd H2 l3 (.lst ([.str "kind",.str x]++[.str "under"]))) l3≈(.lst ([.str "kind",.str x]++[.str "under"])):=uS;generalize upd H2 l3 (.lst ([.str "kind",.str x]++[.str "under"]))=H3 at ES HL;have s3:=(s1.trans Cu).trans ES;refine⟨Z,t,Z,.inr (AG.of (s3 _ _ ht)),λl4 Bx=>?_⟩;have Ar:AA H3 (upd H3 l4 (.lst (ups.map V.str))):=AI Bx;have HK:(upd H3 l4 (.lst (ups.map V.str))) l4≈(.lst (ups.map V.str)):=uS;generalize upd H3 l4 (.lst (ups.map V.str))=H4 at Ar HK;refine⟨l3,l4,_,Z,Y,Ar _ _ HL,HK,sL (by rw[Ya];show 3 + _<=_;omega),λl5 Cg=>?_⟩;have B6:AA H4 (upd H4 l5 (.lst (([.str "kind",.str x]++[.str "under"])++ups.map V.str))):=AI Cg;have HH:(upd H4 l5 (.lst (([.str "kind",.str x]++[.str "under"])++ups.map V.str))) l5≈(.lst ((((["kind",x]:LS)++(["under"]:LS))++ups).map V.str)):=uS;generalize upd H4 l5 (.lst (([.str "kind",.str x]++[.str "under"])++ups.map V.str))=H5 at B6 HH;refine⟨Y,Z,_,l5,_,8,Y,Y,HH,λy hy=>?_,?_,?_⟩
   ·rcases Ym.mp hy with hy | hy
    ·rcases Ym.mp hy with hy | hy
     ·rcases Yk.mp hy with e | hy
      ·rw[e];omega
      ·rw[Yc.mp hy];exact hx
     ·rw[Yc.mp hy];omega
    ·exact HZ y hy
   ·rw[Yo,e1];show(3 + _) * 8 + (3 + _) * 1<=_;omega
   ·rw[dM];have:Et x ups=Bh (("kind "++x)++" under") ups:=by unfold Et;rw[ne];rfl
    rw[<- this];exact q _ ((s3.trans Ar).trans B6)
  ·have e:ups=[]:=by
    cases ups with
    | nil=>rfl
    | cons=>exact absurd rfl z
   subst e;refine⟨Y,Z,_,l,(["kind",x]:LS),8,Y,Y,Ap,λy hy=>?_,?_,?_⟩
   ·rcases Yk.mp hy with e | hy
    ·rw[e];omega
    ·rw[Yc.mp hy];exact hx
   ·rw[e1];show 2 * 8 + 2 * 1<=_;omega
   ·rw[eB];exact q _ s1
def j3:Aa ["word","call","made"] ["word","call","made"] (AL Sg):=by nofun
def wM(F:Def K mg "deed_row" Sg ["word","call","made"] f fd)(list:mg "list"=none):⋯ 1 f fd ["word","call","made"] Oq:=by
 nomatch F.fn.ok j3
 ·obtain⟨x,m,t,c,rfl,_⟩:=h;rfl
 ·obtain⟨x,m,t,c,rfl,ht,hx,hm,hl,HZ,q⟩:=h;have nd:=j3.nd
  ac_nf
  refine'⟨_,AF (AQ (DQ NS PySem.F.slot_str_join PySem.F.type_str_join WA Ah (pC (Ai Jv (Ai Jv (BH (pC Ah (pC 0.9 AB))) (C4 XY 1.0 list P8 2.3)) (BH (pC Ah 2.5))) AB))),?_⟩;have e1:(" ":Str).length=1:=by rfl'
  have ek:("deed":Str).length=4:=by rfl'
  have eu:("gives":Str).length=5:=by rfl'
  refine⟨Y,Z,W,λl Dd=>?_⟩;have s1:AA H (upd H l (.lst [.str "deed",.str x])):=AI Dd;have Ap:(upd H l (.lst [.str "deed",.str x])) l≈(.lst [.str "deed",.str x]):=uS;generalize upd H l (.lst [.str "deed",.str x])=H1 at s1 Ap;refine⟨Z,t,Z,.inr (AG.of (s1 _ _ ht)),λl2 Al=>?_⟩;have Cu:AA H1 (upd H1 l2 (.lst (c.map V.str))):=AI Al;have HM:(upd H1 l2 (.lst (c.map V.str))) l2≈(.lst (c.map V.str)):=uS;generalize upd H1 l2 (.lst (c.map V.str))=H2 at Cu HM;refine⟨l,l2,_,Z,Y,Cu _ _ Ap,HM,sL (by rw[Ya];show 2 + _<=_;omega),λl3 BA=>?_⟩;have ES:AA H2 (upd H2 l3 (.lst ([.str "deed",.str x]++c.map V.str))):=AI BA;have HL:(upd H2 l3 (.lst ([.str "deed",.str x]++c.map V.str))) l3≈(.lst ([.str "deed",.str x]++c.map V.str)):=uS;generalize upd H2 l3 (.lst ([.str "deed",.str x]++c.map V.str))=H3 at ES HL;refine⟨Z,W,λl4 Bx=>?_⟩;have Ar:AA H3 (upd H3 l4 (.lst [.str "gives",.str m])):=AI Bx;have HK:(upd H3 l4 (.lst [.str "gives",.str m])) l4≈(.lst [.str "gives",.str m]):=uS;generalize upd H3 l4 (.lst [.str "gives",.str m])=H4 at Ar HK;refine⟨l3,l4,_,Z,Y,Ar _ _ HL,HK,sL (by rw[Yo,Ya];show 2 + _ + 2<=_;omega),λl5 Cg=>?_⟩;have B6:AA H4 (upd H4 l5 (.lst (([.str "deed",.str x]++c.map V.str)++[.str "gives",.str m]))):=AI Cg;have HH:(upd H4 l5 (.lst (([.str "deed",.str x]++c.map V.str)++[.str "gives",.str m]))) l5≈(.lst ((((["deed",x]:LS)++c)++(["gives",m]:LS)).map V.str)):=by rw[uS,Br,Br];rfl
  generalize upd H4 l5 (.lst (([.str "deed",.str x]++c.map V.str)++[.str "gives",.str m]))=H5 at B6 HH;refine⟨_,l5,_,8,Y,Y,HH,λy hy=>?_,?_,?_⟩
  ·rcases Ym.mp hy with hy | hy
   ·rcases Ym.mp hy with hy | hy
    ·rcases Yk.mp hy with e | hy
     ·rw[e];omega
     ·rw[Yc.mp hy];exact hx
    ·exact HZ y hy
   ·rcases Yk.mp hy with e | hy
    ·rw[e];omega
    ·rw[Yc.mp hy];exact hm
  ·rw[Yo,Yo,e1];show(2 + _ + 2) * 8 + (2 + _ + 2) * 1<=_;omega
  ·rw[bj];exact q _ (((s1.trans Cu).trans ES).trans (Ar.trans B6))
def WW{α:Type}{K:Fg}{J:It}{vs:LV}{Ok:Hp->Prop}(R:EW J vs Ok){js:LN}{te:TE}{σ:St}{Q:VK}{H1:Hp}(hz:↑vs<=1000){xs:List α}(F:α->Str)(Pa:α->V->V->Prop)
  (hp:Paired (λx v=>∃ t a b,v=.ref t/\H1 t≈(.tup [a,b])/\Pa x a b) xs vs) (hok:∀ H,AA H1 H->Ok H)
  (he:∀ x a b H' (R:VK),AA H1 H'->x∈xs->Pa x a b->(∀ B1,AA H' B1->R (.str (F x)) B1)->te (↥a :: some b :: js.map λj=>(σ[j]?).join) H' R)
  (hd:∀ D H',H1 D=none->AA H1 H'->H' D≈(.lst ((xs.map F).map V.str))->Q (.ref D) H'):AZ 2 js (g2 K 0 1) RY te σ Q J H1:=by
 have vl:=Yp hp;let Be:δ->Nat->LV->St->Hp->Prop:=λD i ys σ' H=>H1 D=none/\AA H1 H/\H D≈(.lst ys)/\ys=((xs.take i).map F).map V.str/\∃ o u,σ'=o :: u :: js.map λj=>(σ[j]?).join;refine LG R (sL 0.0) Be ?_ ?_ ?_ ?_
 ·intro D hD;exact⟨hD,AI hD,uS,by rw[Ee];rfl,none,none,Y⟩
 ·rintro D i ys σ' H hi ⟨hD,hs,hl,q,_⟩;refine⟨hok H hs,?_⟩;rw[q,Ya,Ya,Yv];omega
 ·rintro D i v ys σ' H hD hx ⟨_,hs,hl,q,o,u,rfl⟩;obtain⟨x,hxi,t,a,b,rfl,hxt,pa⟩:=Bi hp hx;refine Xq (AG.of (hs _ _ hxt)) ?_;refine he x a b H _ hs (Yd hxi) pa λH4 s4=>?_;have VC:=s4 _ _ hl;refine⟨VC,hD,λb o e=>by rw[AD (AK e hD)];exact s4 _ _ (hs _ _ e),uS,?_,_,Z⟩;rw[Bu,hxi,q,Br,Br];rfl
 ·rintro D ys σ' H hD ⟨_,hs,hl,q,_⟩;rw[<- vl,Bt]at q;exact hd D H hD hs (by rw[hl,q])
inductive WH(C B D:δ)(vs:LV)(H:Hp)(Q:VK)(AJ:XK):Prop
 | mk:∀(p k:δ) (ρ:RS) (ns:List AN),vs=[.ref p]->Fp C B D H p k ρ ns->Ak ρ->B9 ρ ns->(∀ l H',H l=none->AA H H'->H' l≈(.lst ((K6 ρ ns).map V.str))->Q (.ref l) H')->WH C B D vs H Q AJ
def Y9(H:Hp)(r:Str×LS)(a b:V):Prop:=a=.str r.1/\∃ t,b=.ref t/\H t≈(.tup (r.2.map V.str))
def lC(H:Hp)(r:LS×Str)(a b:V):Prop:=b=.str r.2/\∃ t,a=.ref t/\H t≈(.tup (r.1.map V.str))
def cy{H:Hp}{ρ:RS}{vs:LV}(h:Paired (J9 H) ρ vs):Paired (λx v=>∃ t a b,v=V.ref t/\H t≈(.tup [a,b])/\Y9 H x a b) ρ vs:=Paired.mapP h λr v ⟨t,t2,e,h1,h2⟩=>⟨t,G,e,h1,Y,t2,Y,h2⟩
def vD{H:Hp}{ps:List (LS×Str)}{vs:LV}(h:EF H ps vs):Paired (λx v=>∃ t a b,v=V.ref t/\H t≈(.tup [a,b])/\lC H x a b) ps vs:=Paired.mapP h λr v ⟨t,tc,e,h1,h2⟩=>⟨t,G,e,h1,Y,tc,Y,h2⟩
def NP{ρ:RS}(g:Ak ρ):∀ x∈ρ.map 0.8,↑x<=8:=λx hx=>by
 obtain⟨r,hr,e⟩:=Yg.mp hx;rw[<- e];exact(Ca (g.word r hr)).2
def uv(n:AN):((((Str.empty++"name ")++n.1)++" ")++Str.ofString (toString (n.2.1:Int)))=EI n:=by
 rw[show(Str.empty++("name ":Str))="name " by rfl'];rfl
def iU:(["word","ups"]:LS).Nodup:=by rfl'
def vJ:(["call","made","word"]:LS).Nodup:=by rfl'
abbrev Uq:LS:=["book","rows","word","places","deeds"]
def kX:Aa Uq ["book"] (AL NG):=by nofun
set_option maxHeartbeats 8000000 in
def yR(F:Def K mg "book_rows" NG ["book"] f fd)(TD:Hw K D)(TC:EC K C)(list:mg "list"=none)
  (MK:WC K D fK fdK) (MN:V0 K D fN fdN) (GN:⋯ 2 fN fdN ["self"] (PD C B D)) (MR:Cw K C "rows" "Kinds.rows" Ph ["self"] fR fdR)
  (DK:Def K mg "kind_row" Sh ["word","ups"] fKR fdKR) (DD:Def K mg "deed_row" Sg ["word","call","made"] fDR fdDR):⋯ 3 f fd ["book"] (WH C B D):=by
 have GK:⋯ 1 fK fdK ["self"] (PB C B D):=gL MK.fn TD;have GR:⋯ 1 fR fdR ["self"] (SG C):=gO MR.fn TC list;have GKR:⋯ 1 fKR fdKR ["word","ups"] Ot:=wR DK list;have GDR:⋯ 1 fDR fdDR ["word","call","made"] Oq:=wM DD list
 nomatch F.fn.ok kX
 ·obtain⟨p,k,ρ,ns,rfl,_⟩:=h;rfl
 ·obtain⟨p,k,ρ,ns,rfl,bk,g,gn,q⟩:=h;have nd:=kX.nd;have Aq:Ab 1 _:=hr.mono 0.1;have Bf:Ab 2 _:=hr.mono 0.1
  ac_nf
  refine'⟨_,(pS ?eK
   (pS (Bm Yx rfl (Co (D0 0.9 TD.cl MN.me GN hr MN.b .nil BF)) (DU rfl (gC (CF (i:=2) nd rfl 1.3) (gC (gE 3 nd) (gC (gE 4 nd) DX))))
    (pS (B8 (DQ EN Ft Fq FR 1.5 (pC (yg (R9 jT (R9 (vI 1.6) (R9 jT (R9 (vH (pv 3)) wq))))) AB)))
   (AF (B8 (DQ EN PySem.F.slot_list_extend PySem.F.type_list_extend qJ 1.5 (pC ?eD AB))))))
   (AF (AQ 1.5)))),?_⟩
  case eK=>exact(JA (k:=1) ["word","ups"] [] [] nd rfl rfl (λ_=>CC (osc:=AL NG) (on:=Uq) 0.7 rfl rfl rfl) (Co (D0 (D0 0.9 TD.cl MK.me GK Aq MK.b .nil BF) TC.cl MR.me GR Aq MR.b .nil BF)) (λC s H fp=>Ij (K:=K) (i:=0) (j:=1) rfl rfl iU rfl rfl 1.2 1.2 1.3 1.3) 2.9 (λC s H fp=>AV DK GKR Aq (pC 0.9 2.3)))
  case eD=>exact(Ea ["call","made"] ["word"] [2] (λ_=>CC (osc:=AL NG) (on:=Uq) 0.7 rfl rfl rfl) (Gk (pv 4)) (λC s H fp=>Ij (K:=K) (i:=0) (j:=1) rfl rfl vJ rfl rfl 1.2 1.2 1.3 1.3) 2.9 (λC s H fp=>AV DD GDR Aq (pC 1.6 (pC 0.9 2.3))))
  exists let b:=_;let c:=AE _ b;let e:=AE (CM _ _ c) a;AE _ e _ _ _
  obtain⟨dx,bo,mo,o,A3,BD,h1,h2,h3,h4,h5,h6⟩:=bk.ex;obtain⟨dxk,dk,ak,okk,oak,ν,AW,Dr,_⟩:=h2.ex;refine⟨Z,p,dx,Z,h1,XI _ _ _,p,k,ρ,ns,Y,bk,k,dxk,Z,Dr,dR _ _,k,ρ,Y,h2,g,λlr H1 hlr s1 U9=>?_⟩;obtain⟨vs,hvs,hP⟩:=U9;have vl:=Yp hP;have gle:=g.le;have few:=gn.few;refine⟨lr,Y,⟨_,SqL.of hvs⟩,WW (Cq (xs:=vs)) 0.0 (λr=>Et r.1 r.2) (Y9 H1) (cy hP) (λH' s=>SqL.of (s _ _ hvs)) ?_ λl H2 hl Cu Al=>?_⟩
  ·rintro x a b H' R s' hx ⟨rfl,t,rfl,ht⟩ hR;exact⟨Z,Z,x.1,t,x.2,Y,s' _ _ ht,(Ca (g.word x hx)).2,g.few x hx,λu hu=>NP g u (g.known x hx u hu),hR⟩
  have s2:=s1.trans Cu;have hlH:H l=none:=s1.free hl;refine⟨Z,p,dx,Z,s2 _ _ h1,PU _ _ _,p,k,ρ,ns,Y,bk.mono s2,gn,λlf fs H3 hlf ES G_ E9=>?_⟩;have BA:=ES _ _ Al;have lfl:lf≠l:=λz=>by rw[z,Al]at hlf;cases hlf
  have fl:=Yp E9;let Fw:NW:=λi σ H'=>∃ x2 x3 x4:OV,σ=[↥(.ref p),↥(.ref l),x2,x3,x4]/\(∀ b o,b≠l->H3 b≈o->H' b≈o)/\H' l≈(.lst ((EH ρ++(ns.take i).flatMap Ck).map V.str));refine⟨lf,Y,⟨_,SqL.of G_⟩,CG (Cq (xs:=fs)) Fw
   ⟨none,none,none,Y,λ_ _ _ e=>e,by rw[Ee,List.flatMap_nil,EM];exact BA⟩ (λi σ H' _ h0=>by obtain⟨_,_,_,_,s,_⟩:=h0;exact SqL.of (s _ _ lfl G_)) ?_ ?_⟩
  ·rintro i v σ H4 hi ⟨x2,x3,x4,rfl,Ar,Bx⟩;obtain⟨n,hn,t,tp,ws,rfl,ht,htp,hD⟩:=Bi E9 hi;have As:n∈ns:=Yd hn;have Bg:=gn.each n As;have tk:∀ b xs,H3 b≈(.tup xs)->H4 b≈(.tup xs):=λb xs e=>Ar _ _ (λz=>by rw[z,BA]at e;cases e) e;have pl:↑(EH ρ++(ns.take i).flatMap Ck)<=544:=by
    have:=(Wb g (ns:=ns.take i) λm hm=>gn.each m (II hm)).1;rw[Yv]at this;rw[Yo];unfold EH;rw[Ya];omega
   have n1:=Bg.one;have n4:=Bg.four;have nw:=(Ca Bg.word).2;have wl:=Yp hD;have dl:=Bg.deeds.few;rw[Ya]at dl;refine⟨t,Z,AG.of (tk _ _ ht),Y,_,Z,_,Z,_,Z,Y,?_⟩;refine⟨Z,.inl ⟨Y,_,SqL.of Bx⟩,by rfl',Z,n.1,Y,O,by rfl',Z,(n.2.1:Int),Y,O,l,_,Z,Y,Bx,B0 (by rw[Ya];omega),?_⟩;rw[uv];have B6:∀ b o,b≠l->H4 b≈o->(upd H4 l (.lst 1.4)) b≈o:=λb o hb e=>by rw[AD hb];exact e
   have Cg:(upd H4 l (.lst 1.4)) l≈(.lst 1.4):=uS;generalize upd H4 l (.lst 1.4)=H5 at B6 Cg;have JV:∀ b xs,H3 b≈(.tup xs)->H5 b≈(.tup xs):=λb xs e=>B6 _ _ (λz=>by rw[z,BA]at e;cases e) (tk _ _ e);refine⟨Z,.inl ⟨Y,_,SqL.of Cg⟩,Z,tp,Y,⟨_,AG.of (JV _ _ htp)⟩,WW (Gr (xs:=ws)) 0.0 (λx=>Fi n.1 x.1 x.2) (lC H5) (vD (hD.mono JV)) (λH' s=>AG.of (s _ _ (JV _ _ htp))) ?_ λlc H6 hlc Ce Zc=>?_⟩
   ·rintro x a b H' R s' hx ⟨rfl,tc,rfl,htc⟩ hR;have gc:=Bg.deeds.call x.1 (Yg.mpr ⟨x,hx,Y⟩);exact⟨Z,Z,Z,n.1,x.2,tc,x.1,Y,s' _ _ htc,nw,NP g _ (Bg.made x hx),by rw[gc.len];exact n4,λu hu=>NP g u (gc.known u hu),hR⟩
   ·have Em:=Ce _ _ Cg;have e6:1.4++(n.2.2.map λx=>Fi n.1 x.1 x.2).map V.str=(EH ρ++(ns.take (i + 1)).flatMap Ck).map V.str:=by
     rw[Bu,hn];simp[Ck,List.flatMap_append]
    refine⟨l,lc,_,Z,Y,Em,Zc,sL (by simp only[Yo,Ya,B_,List.length_nil]at pl ⊢;omega),?_⟩;rw[e6];exact⟨G,Z,λb o hb e=>by rw[AD hb];exact Ce _ _ (B6 _ _ hb (Ar _ _ hb e)),uS⟩
  ·rintro σ H4 ⟨x2,x3,x4,rfl,Ar,Bx⟩;rw[<- fl,Bt]at Bx;exact⟨Z,q l H4 hlH (λb o e=>Ar _ _ (AK e hlH) (ES _ _ (s2 _ _ e))) Bx⟩
def bu{ups:LS}{i:Nat}{u r:Str}(h:ups[i]?≈u):Bh r (ups.take (i + 1))=(Bh r (ups.take i)++" ")++u:=by
 unfold Bh;rw[Bu,h];exact List.foldl_append ..
def Wa{ups:LS}{r:Str}(hr:↑r<=100)(hl:↑ups<=8)(h:∀ u∈ups,↑u<=8)(i:Nat):↑(Bh r (ups.take i))<=200:=by
 have:=VZ (r:=r) (us:=ups.take i) λu hu=>h u (II hu);rw[Yv]at this;omega
inductive WM(K:Fg)(vs:LV)(H:Hp)(Q:VK)(AJ:XK):Prop
 | mk:∀(b:Bool) (w:Str) (t:δ) (ups:LS),vs=[.str w,.ref t]->Cr K b H t (ups.map V.str)->↑w<=8->↑ups<=8->(∀ u∈ups,↑u<=8)->(∀ H',AA H H'->Q (.str (Et w ups)) H')->WM K vs H Q AJ
inductive WJ(K:Fg)(vs:LV)(H:Hp)(Q:VK)(AJ:XK):Prop
 | mk:∀(b:Bool) (w m:Str) (t:δ) (c:LS),vs=[.str w,.ref t,.str m]->Cr K b H t (c.map V.str)->↑w<=8->↑m<=8->↑c<=8->(∀ u∈c,↑u<=8)->(∀ H',AA H H'->Q (.str (Fi w c m)) H')->WJ K vs H Q AJ
def vR{K:Fg}{b:Bool}{H:Hp}{a:δ}{xs:LV}(h:Cr K b H a xs):SqL K H a xs\/AG K H a xs:=by
 cases b with
 | true=>exact .inl h
 | false=>exact .inr h
abbrev mK:LS:=["word","ups","row","up"]
def kF:Aa mK ["word","ups"] (AL NM):=by nofun
def gN(F:Def K mg "_law_kind_row" NM ["word","ups"] f fd)(len:mg "len"=none):⋯ 1 f fd ["word","ups"] (WM K):=by
 nomatch F.fn.ok kF
 ·obtain⟨b,x,t,ups,rfl,_⟩:=h;rfl
 ·obtain⟨b,x,t,ups,rfl,ht,hx,hl,HZ,q⟩:=h;have nd:=kF.nd
  ac_nf
  refine'⟨_,(pS (sE 2 nd (Ai CP Ah 0.9))
   (Gn (Ag (An Hz (A9 Cb 1.0 len BX 2.3) AH (Aj _)) (AF (sE 2 nd (Ai CP 1.6 Ah))) Af)
   (pS (Bm Yx rfl (K9 1.5) (gE 3 nd) (AF (sE 2 nd (Ai CP (Ai CP 1.6 Ah) (pv 3)))))
   (AF (AQ 1.6))))),?_⟩
  exists let b:=_;let c:=AE (CM _ _ b) a;let e:=_;let f:=Ic (By _ e _) c;AE _ f _ _ _
  have e1:(" ":Str).length=1:=by rfl'
  have ek:("kind ":Str).length=5:=by rfl'
  have eu:(" under":Str).length=6:=by rfl'
  refine⟨Z,_,Z,Y,sL 0.0,?_⟩;let EO:SW:=λσ' H'=>∃ r0:Str,σ'=[↥(.str x),↥(.ref t),↥(.str r0),none]/\H'=H/\↑r0<=100/\Bh r0 ups=Et x ups;refine⟨EO,?_,?_⟩
  ·refine⟨Z,t,Z,vR ht,_,Z,Y,Z,BG (λz=>?_) (λz=>?_)⟩
   ·have ne:ups.isEmpty=false:=by
     cases ups with
     | nil=>exact absurd z 0.1
     | cons=>rfl
    refine⟨Z,_,Z,Y,sL (by rw[strLen_append];omega),Z,Y,by rw[strLen_append,strLen_append];omega,?_⟩;unfold Et;rw[ne];rfl
   ·have e:ups=[]:=by
     cases ups with
     | nil=>rfl
     | cons a r=>exact absurd (by rw[decide_eq_true_eq,Ya,B_];omega) z
    subst e;exact⟨Z,Y,by rw[strLen_append];omega,Y⟩
  ·rintro σ' H' ⟨r0,rfl,rfl,Hb,er⟩;let Be:NW:=λi σ H1=>∃ y:OV,σ=[↥(.str x),↥(.ref t),↥(.str (Bh r0 (ups.take i))),y]/\H1=H';refine⟨Z,b,t,Z,ht,CG (LD (xs:=ups.map V.str)) Be
    ⟨none,by rw[Ee];rfl,Y⟩ (λi σ H' _ ⟨_,_,e⟩=>by rw[e];exact ht) ?_ ?_⟩
   ·rintro i v σ H' hi ⟨y,rfl,rfl⟩;rw[Ys]at hi;obtain⟨u,hu,rfl⟩:=E3.mp hi;have:=Wa Hb hl HZ i;have u8:=HZ u (Yd hu);refine⟨Z,_,Z,Y,sL 0.0,Z,_,Z,Y,sL (by rw[strLen_append];omega),↥(.str u),?_,Y⟩;rw[bu hu];rfl
   ·rintro σ H' ⟨y,rfl,rfl⟩;rw[Ya,Bt,er];exact⟨Z,q _ (AA.refl _)⟩
def y7(F:Def K mg "_law_kind_row" NM ["word","ups"] f fd)(len:mg "len"=none):⋯ 1 f fd ["word","ups"] Ot :=
 (gN F len).imp λvs H Q E ⟨w,t,ups,e,ht,r1,r2,r3,r4⟩=>⟨false,w,t,ups,e,AG.of ht,r1,r2,r3,r4⟩
abbrev mL:LS:=["word","deed","made","row","kind"]
def kE:Aa mL ["word","deed","made"] (AL NL):=by nofun
def gM(F:Def K mg "_law_deed_row" NL ["word","deed","made"] f fd):⋯ 1 f fd ["word","deed","made"] (WJ K):=by
 nomatch F.fn.ok kE
 ·obtain⟨b,x,m,t,c,rfl,_⟩:=h;rfl
 ·obtain⟨b,x,m,t,c,rfl,ht,hx,hm,hl,HZ,q⟩:=h;have nd:=kE.nd
  ac_nf
  refine'⟨_,(pS (sE 3 nd (Ai CP Ah 0.9))
   (pS (Bm Yx rfl (K9 1.5) (gE 4 nd) (AF (sE 3 nd (Ai CP (Ai CP (pv 3) Ah) (pv 4)))))
   (AF (AQ (Ai CP (Ai CP (pv 3) Ah) 1.6))))),?_⟩
  exists let b:=_;let c:=AE (CM _ _ b) a;AE _ c _ _ _
  have e1:(" ":Str).length=1:=by rfl'
  have ek:("deed ":Str).length=5:=by rfl'
  have eu:(" gives ":Str).length=7:=by rfl'
  refine⟨Z,_,Z,Y,sL 0.0,?_⟩;have Hb:(("deed ":Str)++x).length<=100:=by rw[strLen_append];omega
  let Fw:NW:=λi σ H'=>∃ y:OV,σ=[↥(.str x),↥(.ref t),↥(.str m),↥(.str (Bh ("deed "++x) (c.take i))),y]/\H'=H;refine⟨Z,b,t,Z,ht,CG (LD (xs:=c.map V.str)) Fw
   ⟨none,by rw[Ee];rfl,Y⟩ (λi σ H' _ ⟨_,_,e⟩=>by rw[e];exact ht) ?_ ?_⟩
  ·rintro i v σ H' hi ⟨y,rfl,rfl⟩;rw[Ys]at hi;obtain⟨u,hu,rfl⟩:=E3.mp hi;have:=Wa Hb 0.0 HZ i;have u8:=HZ u (Yd hu);refine⟨Z,_,Z,Y,sL 0.0,Z,_,Z,Y,sL (by rw[strLen_append];omega),↥(.str u),?_,Y⟩;rw[bu hu];rfl
  ·rintro σ H' ⟨y,rfl,rfl⟩;rw[Ya,Bt];have:=Wa Hb 0.0 HZ ↑c;rw[Bt]at this;exact⟨Z,_,Z,Y,sL 0.0,Z,_,Z,Y,sL (by rw[strLen_append];omega),q _ (AA.refl _)⟩
def y4(F:Def K mg "_law_deed_row" NL ["word","deed","made"] f fd):⋯ 1 f fd ["word","deed","made"] Oq :=
 (gM F).imp λvs H Q E ⟨w,m,t,c,e,ht,hx,hm,hl,r1,r2⟩=>⟨false,w,m,t,c,e,AG.of ht,hx,hm,O,r1,r2⟩
inductive Y3(vs:LV)(H:Hp)(Q:VK)(AJ:XK):Prop
 | mk:∀(l ln:δ) (ρ:RS) (ns:List AN) (us:LV),vs=[.ref l,.ref ln]->FQ H l ρ->Ak ρ->H ln≈(.lst us)->Dg H ns us->B9 ρ ns->(∀ l' H',H l'=none->AA H H'->H' l'≈(.lst ((K6 ρ ns).map V.str))->Q (.ref l') H')->Y3 vs H Q AJ
abbrev aG:LS:=["rows","names","found","word","places","pairs","deed","made"]
def kh:Aa aG ["rows","names"] (AL Pm):=by nofun
set_option maxHeartbeats 8000000 in
def sm(F:Def K mg "_law_written" Pm ["rows","names"] f fd)(str:mg "str"=none)(len:mg "len"=none)
  (DK:Def K mg "_law_kind_row" NM ["word","ups"] fKR fdKR) (DD:Def K mg "_law_deed_row" NL ["word","deed","made"] fDR fdDR):⋯ 2 f fd ["rows","names"] Y3:=by
 have GKR:⋯ 1 fKR fdKR ["word","ups"] Ot:=y7 DK len;have GDR:⋯ 1 fDR fdDR ["word","deed","made"] Oq:=y4 DD
 nomatch F.fn.ok kh
 ·obtain⟨l,ln,ρ,ns,us,rfl,_⟩:=h;rfl
 ·obtain⟨lr,lf,ρ,ns,fs,rfl,U9,g,hlf,hN,gn,q⟩:=h;have nd:=kh.nd
  ac_nf
  refine'⟨_,(pS ?eK
   (pS (Bm Yx rfl (Co 1.5) (DU rfl (gC (gE 3 nd) (gC (gE 4 nd) (gC (gE 5 nd) DX))))
    (pS (B8 (DQ EN Ft Fq FR 1.6 (pC (Ai CP (Ai CP (Ai CP Ah (pv 3)) Ah) (C4 Xi 1.0 str Tv (pC (pv 4) AB))) AB)))
   (AF (Bm Yx rfl (Gk (pv 5)) (DU rfl (gC (gE 6 nd) (gC (gE 7 nd) DX)))
     (AF (B8 (DQ EN Ft Fq FR 1.6 (pC (AV DD GDR hr (pC (pv 3) (pC (pv 6) (pC (pv 7) AB)))) AB))))))))
   (AF (AQ 1.6)))),?_⟩
  case eK=>exact(JA (k:=2) ["word","ups"] [] [] nd rfl rfl (λ_=>CC (osc:=AL Pm) (on:=aG) 0.7 rfl rfl rfl) (Co 0.9) (λC s H fp=>Ij (K:=K) (i:=0) (j:=1) rfl rfl iU rfl rfl 1.2 1.2 1.3 1.3) 2.9 (λC s H fp=>AV DK GKR hr (pC 0.9 2.3)))
  exists let b:=_;let c:=CM _ _ b;let e:=AE _ c;let f:=AE (CM _ _ e) a;AE _ f _ _ _
  obtain⟨vs,hvs,hP⟩:=U9;have vl:=Yp hP;have gle:=g.le;have few:=gn.few;refine⟨Z,lr,Y,⟨_,SqL.of hvs⟩,WW (Cq (xs:=vs)) 0.0 (λr=>Et r.1 r.2) (Y9 H) (cy hP) (λH' s=>SqL.of (s _ _ hvs)) ?_ λl H3 hl s3 BA=>?_⟩
  ·rintro x a b H' R s' hx ⟨rfl,t,rfl,ht⟩ hR;exact⟨Z,Z,x.1,t,x.2,Y,s' _ _ ht,(Ca (g.word x hx)).2,g.few x hx,λu hu=>NP g u (g.known x hx u hu),hR⟩
  have lfl:lf≠l:=AK hlf hl;have fl:=Yp hN;have G_:=s3 _ _ hlf;have E9:=hN.mono (CN s3);let Be:NW:=λi σ H'=>∃ x2 x3 x4 x5 x6:OV,σ=[↥(.ref lr),↥(.ref lf),↥(.ref l),x2,x3,x4,x5,x6]/\(∀ b o,b≠l->H3 b≈o->H' b≈o)/\H' l≈(.lst ((EH ρ++(ns.take i).flatMap Ck).map V.str));refine⟨Z,lf,Y,⟨_,SqL.of G_⟩,CG (Cq (xs:=fs)) Be
   ⟨none,none,none,none,none,Y,λ_ _ _ e=>e,by rw[Ee,List.flatMap_nil,EM];exact BA⟩ (λi σ H' _ h0=>by obtain⟨_,_,_,_,_,_,s,_⟩:=h0;exact SqL.of (s _ _ lfl G_)) ?_ ?_⟩
  ·rintro i v σ H4 hi ⟨x2,x3,x4,x5,x6,rfl,Ar,Bx⟩;obtain⟨n,hn,t,tp,ws,rfl,ht,htp,hD⟩:=Bi E9 hi;have As:n∈ns:=Yd hn;have Bg:=gn.each n As;have tk:∀ b xs,H3 b≈(.tup xs)->H4 b≈(.tup xs):=λb xs e=>Ar _ _ (λz=>by rw[z,BA]at e;cases e) e;have pl:↑(EH ρ++(ns.take i).flatMap Ck)<=544:=by
    have:=(Wb g (ns:=ns.take i) λm hm=>gn.each m (II hm)).1;rw[Yv]at this;rw[Yo];unfold EH;rw[Ya];omega
   have n1:=Bg.one;have n4:=Bg.four;have nw:=(Ca Bg.word).2;have wl:=Yp hD;have dl:=Bg.deeds.few;rw[Ya]at dl;have e1:(" ":Str).length=1:=by rfl'
   have ek:("name ":Str).length=5:=by rfl'
   have nl:=WR n1 n4;refine⟨t,Z,AG.of (tk _ _ ht),Y,_,Z,_,Z,_,Z,Y,?_⟩;refine⟨Z,.inl ⟨Y,_,SqL.of Bx⟩,Z,_,Z,Y,sL 0.0,_,Z,Y,sL (by rw[strLen_append];omega),Z,(n.2.1:Int),Y,Rr 0.0,_,Z,Y,sL (by rw[strLen_append,strLen_append];show _ + ↑(Str.ofString (toString (n.2.1:Int)))<=_;omega),l,_,Z,Y,Bx,B0 (by rw[Ya];omega),?_⟩;have B6:∀ b o,b≠l->H4 b≈o->(upd H4 l (.lst 1.4)) b≈o:=λb o hb e=>by rw[AD hb];exact e
   have Cg:(upd H4 l (.lst 1.4)) l≈(.lst 1.4):=uS;have JV:∀ {H':Hp},(∀ b o,b≠l->H3 b≈o->H' b≈o)->∀ b xs,H3 b≈(.tup xs)->H' b≈(.tup xs):=λs b xs e=>s _ _ (λz=>by rw[z,BA]at e;cases e) e;have Kb:=λb o (hb:b≠l) (e:H3 b≈o)=>B6 b o hb (Ar b o hb e);let Fw:NW:=λj σ H'=>∃ y5 y6:OV,σ=[↥(.ref lr),↥(.ref lf),↥(.ref l),↥(.str n.1),↥(.int n.2.1),↥(.ref tp),y5,y6]/\(∀ b o,b≠l->H3 b≈o->H' b≈o)/\H' l≈(.lst (((EH ρ++(ns.take i).flatMap Ck)++(EI n :: (n.2.2.take j).map λx=>Fi n.1 x.1 x.2)).map V.str));refine⟨Z,tp,Y,⟨_,AG.of (JV Kb _ _ htp)⟩,CG (Gr (xs:=ws)) Fw
    ⟨x5,x6,Y,Kb,Cg.trans 0.6⟩ (λj σ H' _ h0=>by obtain⟨_,_,_,s,_⟩:=h0;exact AG.of (JV s _ _ htp)) ?_ ?_⟩
   ·rintro j v σ H6 hj ⟨y5,y6,rfl,Nu,Em⟩;obtain⟨x,hx,t',tc,rfl,Ma,htc⟩:=Bi hD hj;have gc:=Bg.deeds.call x.1 (Yg.mpr ⟨x,Yd hx,Y⟩);refine⟨t',Z,AG.of (JV Nu _ _ Ma),Y,_,Z,_,Z,Y,?_⟩;refine⟨Z,.inl ⟨Y,_,SqL.of Em⟩,Z,Z,Z,n.1,x.2,tc,x.1,Y,JV Nu _ _ htc,nw,NP g _ (Bg.made x (Yd hx)),by rw[gc.len];exact n4,λu hu=>NP g u (gc.known u hu),λH7 KZ=>⟨l,_,Z,Y,KZ _ _ Em,B0 ?_,_,Z,λb o hb e=>by rw[AD hb];exact KZ _ _ (Nu _ _ hb e),?_⟩⟩
    ·simp only[Yo,Ya,B_,Yv]at pl ⊢;omega
    ·rw[uS,Bu,hx];simp
   ·rintro σ H6 ⟨y5,y6,rfl,Nu,Em⟩;refine⟨G,G,Z,Nu,?_⟩;rw[Em,<- wl,Bt,Bu,hn];simp[Ck,List.flatMap_append]
  ·rintro σ H4 ⟨x2,x3,x4,x5,x6,rfl,Ar,Bx⟩;rw[<- fl,Bt]at Bx;exact⟨Z,q l H4 hl (λb o e=>Ar _ _ (AK e hl) (s3 _ _ e)) Bx⟩
abbrev Row:=Str×LS
def kg(c:Str):Nat:=if c="1" then 1 else if c="2" then 2 else if c="3" then 3 else 4
def bz{c:Str}(h:c∈Hr):PySem.intText? c≈((kg c:Nat):Int)/\↑c<=640:=by
 have h:c="1"\/c="2"\/c="3"\/c="4":=by
  unfold Hr at h;simpa using h
 rcases h with rfl | rfl | rfl | rfl <;> exact⟨by rfl',by rfl'⟩
section
variable {H0 H H':Hp}{lr ln:δ}{ρ:List Row}{aF:List (AN×δ)}{vr vn:LV}
end
abbrev own(lr ln:δ)(aF:List (AN×δ)):ζ:=lr :: ln :: aF.map (·.2)
def qI{K:Fg}{C:δ}{Hx:Hp}{xb dx l:δ}{ρ:RS}{R:Hp->Prop}{E:XK}(nx:Hx xb=none)(ndx:Hx dx=none)(hR:Jr K Hx l ρ)(g:Ak ρ)(h:∀ H',AA Hx H'->Bd C H' xb ρ->R H'):
  Mo K C [.ref xb,.ref l] (upd (upd Hx dx (.own xb)) xb (.ins C dx [])) (λv H3=>v=.non/\R H3) E:=by
 have Ar:AA Hx (upd (upd Hx dx (.own xb)) xb (.ins C dx [])):=λb o e=>by
  have e1:(upd Hx dx (.own xb)) b≈o:=by rw[AD (AK e ndx)];exact e
  rw[AD (AK e nx)];exact e1
 exact⟨xb,dx,l,ρ,Y,uS,hR.mono Ar,g,λH4 kd keep=>⟨Y,h H4 (λb o e=>keep b o (AK e nx) (Ar _ _ e)) kd⟩⟩
def BI.sub{Z Z':δ->Prop}{C B D:δ}{H:Hp}{p k:δ}{ρ:RS}{ns:List AN}(h:BI Z C B D H p k ρ ns)(s:∀ b,Z' b->Z b):BI Z' C B D H p k ρ ns:=by
 obtain⟨dx,bo,mo,o,A3,BD,h1,h2,h3,h4,h5,h6⟩:=h.ex;exact⟨dx,bo,mo,o,A3,BD,h1,h2,h3,h4,h5,h6.imp λn v z=>by
  obtain⟨l,e,b,c⟩:=z;exact⟨l,e,b,λy=>c (s _ y)⟩⟩
def O4{K:Fg}{C B D:δ}{Hx:Hp}{pb db k l:δ}{ρ:RS}{ns:List AN}{R:Hp->Prop}{E:XK}(nb:Hx pb=none)(ndb:Hx db=none)(kd:Bd C Hx k ρ)(g:Ak ρ)(hN:V1 K Hx l ns)(gn:B9 ρ ns)(h:∀ H',AA Hx H'->BI (λb=>∃ o,Hx b≈o) C B D H' pb k ρ ns->R H'):
  Mz K C B D [.ref pb,.ref k,.ref l] (upd (upd Hx db (.own pb)) pb (.ins D db [])) (λv H3=>v=.non/\R H3) E:=by
 have Ar:AA Hx (upd (upd Hx db (.own pb)) pb (.ins D db [])):=λb o e=>by
  have e1:(upd Hx db (.own pb)) b≈o:=by rw[AD (AK e ndb)];exact e
  rw[AD (AK e nb)];exact e1
 obtain⟨b,vs,hl,hp⟩:=hN;exact⟨pb,db,k,l,ρ,ns,Y,uS,kd.mono Ar,g,⟨b,vs,hl.mono Ar,Paired.mapP hp λ_ _ z=>z.mono Ar⟩,gn,λH4 bk keep=>⟨Y,h H4 (λb o e=>keep b o (AK e nb) (Ar _ _ e)) (bk.sub λb z=>by
  obtain⟨o,e⟩:=z;exact⟨o,Ar _ _ e⟩)⟩⟩
structure Ep(t:Str)(ws:LS):Prop where
 sp:Txt.split t " "=ws
 ne:ws≠[]
 few:↑ws<=1000
 sh:∀ x∈ws,↑x<=1000
 len:↑t<=1000
def X7:((" ":Str).length == 0)=false:=by rfl'
def Hq(n:Nat):Str:=Str.ofString (toString (n:Int))
def kW(r:Row):LS:="kind" :: r.1 :: (if r.2.isEmpty then[]else "under" :: r.2)
def nW(n:AN):LS:=["name",n.1,Hq n.2.1]
def dW(x:Str)(c:LS)(m:Str):LS:=((["deed",x]:LS)++c)++(["gives",m]:LS)
def Wf(r:Row):Et r.1 r.2=Builtin.Str.glued " " (kW r):=by
 unfold Et kW;cases h:r.2.isEmpty with
 | true=>exact(eB r.1).symm
 | false=>exact(dM r.1 r.2).symm
def Wh(n:AN):EI n=Builtin.Str.glued " " (nW n):=by
 unfold nW;rw[IE];show _=(((("name":Str)++" ")++n.1)++" ")++Hq n.2.1;rw[show(("name":Str)++" ")="name " by rfl'];rfl
def WY(x:Str)(c:LS)(m:Str):Fi x c m=Builtin.Str.glued " " (dW x c m):=(bj x c m).symm
def cK{c:Nat}(h:¬ (97<=c/\c<=122)){x:Str}(hx:AR x=true):c∉x.cps.toList:=λz=>by
 have:=((J8 x).mp hx).2 c z;unfold Hy at this;exact h (Je this)
def Hn(x:Str):Prop:=32∉x.cps.toList/\10∉x.cps.toList/\↑x<=8
def Gs{x:Str}(h:AR x=true):Hn x:=⟨cK 0.1 h,cK 0.1 h,(Ca h).2⟩
def yX{n:Nat}(h1:1<=n)(h4:n<=4):Hn (Hq n):=by
 have h:n=1\/n=2\/n=3\/n=4:=by omega
 unfold Hn
 rcases h with rfl | rfl | rfl | rfl <;> rfl'
def Va{n:Nat}(h1:1<=n)(h4:n<=4):Hq n∈Hr/\kg (Hq n)=n:=by
 have h:n=1\/n=2\/n=3\/n=4:=by omega
 rcases h with rfl | rfl | rfl | rfl <;> exact⟨by rfl',by rfl'⟩
def rK{c d:Nat}(cd:d≠c):∀ {xs:LS},(∀ x∈xs,d∉x.cps.toList)->d∉(Builtin.Str.glued (sgn c) xs).cps.toList:=by
 intro xs h;rw[StrLaws.glued_eq_join]
 induction xs with
 | nil=>exact λz=>nomatch z
 | cons x r ih =>
  cases r with
  | nil=>exact h x Yj
  | cons y r =>
   rw[PJ];intro z
   rcases Ym.mp z with z | z
   ·exact h x Yj z
   rcases Yk.mp z with z | z
   ·exact cd z
   ·exact ih (λu hu=>h u (Yq _ hu)) z
def pz{c B:Nat}:∀ {xs:LS},(∀ x∈xs,↑x<=B)->↑(Builtin.Str.glued (sgn c) xs)<=↑xs * (B + 1):=by
 intro xs h;rw[StrLaws.glued_eq_join]
 induction xs with
 | nil=>exact BC _
 | cons x r ih =>
  have hx:=h x Yj;cases r with
  | nil =>
   show ↑x<=1 * (B + 1);omega
  | cons y r =>
   have e:↑(Str.join (sgn c) (x :: y :: r))=↑x + 1 + ↑(Str.join (sgn c) (y :: r)):=by
    show↑(x++sgn c++Str.join (sgn c) (y :: r))=_;rw[strLen_append,strLen_append];rfl
   have:=ih (λu hu=>h u (Yq _ hu));rw[e,B_,Nat.succ_mul];omega
def Om{t:Str}{ws:LS}(e:t=Builtin.Str.glued " " ws)(B3:ws≠[])(few:↑ws<=100)(h:∀ x∈ws,Hn x):Ep t ws/\10∉t.cps.toList:=by
 have b:(" ":Str)=sgn 32:=rfl;have l8:∀ x∈ws,↑x<=8:=λx hx=>(h x hx).2.2;rw[e,b];refine⟨⟨tL B3 λp hp=>(h p hp).1,B3,O,λx hx=>by have:=l8 x hx;omega,?_⟩,rK 0.1 λx hx=>(h x hx).2.1⟩;have:=pz (c:=32) l8;omega
def ug{r:Row}(hw:AR r.1=true)(hl:↑r.2<=8)(hu:∀ u∈r.2,AR u=true):Ep (Et r.1 r.2) (kW r)/\10∉(Et r.1 r.2).cps.toList:=by
 refine Om (Wf r) (Gw _ _) ?_ λx hx=>?_
 ·unfold kW;split
  ·show 2<=100;decide
  ·show ↑r.2 + 1 + 1 + 1<=100;omega
 ·rcases Yk.mp hx with rfl | hx
  ·unfold Hn;rfl'
  rcases Yk.mp hx with rfl | hx
  ·exact Gs hw
  split at hx
  ·exact nomatch hx
  ·rcases Yk.mp hx with rfl | hx
   ·unfold Hn;rfl'
   ·exact Gs (hu x hx)
def uw{n:AN}(hw:AR n.1=true)(h1:1<=n.2.1)(h4:n.2.1<=4):Ep (EI n) (nW n)/\10∉(EI n).cps.toList:=by
 refine Om (Wh n) (Gw _ _) (by show 3<=100;decide) λx hx=>?_
 rcases Yk.mp hx with rfl | hx
 ·unfold Hn;rfl'
 rcases Yk.mp hx with rfl | hx
 ·exact Gs hw
 rw[Yc.mp hx];exact yX h1 h4
def uy{x m:Str}{c:LS}(hw:AR x=true)(hl:↑c<=5)(hc:∀ u∈c,AR u=true)(hm:AR m=true):Ep (Fi x c m) (dW x c m)/\10∉(Fi x c m).cps.toList:=by
 refine Om (WY x c m) (by unfold dW;exact List.append_ne_nil_of_right_ne_nil _ (Gw _ _)) (by unfold dW;rw[Yo,Yo];show 2 + ↑c + 2<=100;omega) λy hy=>?_
 rcases Ym.mp hy with hy | hy
 ·rcases Ym.mp hy with hy | hy
  ·rcases Yk.mp hy with rfl | hy
   ·unfold Hn;rfl'
   ·rw[Yc.mp hy];exact Gs hw
  ·exact Gs (hc y hy)
 ·rcases Yk.mp hy with rfl | hy
  ·unfold Hn;rfl'
  ·rw[Yc.mp hy];exact Gs hm
def sY:AR "under"=true:=by rfl'
def sX:AR "gives"=true:=by rfl'
def Yb2:¬ (("name":Str)="kind"):=by rfl'
def Yb4:¬ (("deed":Str)="kind"):=by rfl'
def Yb3:¬ (("deed":Str)="name"):=by rfl'
def v7{r:Row}(hw:AR r.1=true)(hu:∀ u∈r.2,AR u=true):J2 (kW r)=true:=by
 unfold kW;rw[Sk,Jb rfl,DY,Ed];cases h:r.2 with
 | nil=>exact⟨by show([r.1].all AR)=true;rw[Lc,hw];rfl,Y⟩
 | cons a l =>
  rw[h]at hu;refine⟨?_,?_⟩
  ·show((r.1 :: "under" :: a :: l).all AR)=true;rw[C6];intro x hx
   rcases Yk.mp hx with rfl | hx
   ·exact hw
   rcases Yk.mp hx with rfl | hx
   ·exact sY
   ·exact hu x hx
  ·rw[Bool.or_eq_true,Ed];refine .inr ⟨Jb ?_,Jb rfl⟩;show 2<↑l + 1 + 1 + 1;omega
def v8{w:Str}(h:¬ w="kind")(r:LS):J2 (w :: r)=false:=by rw[Sk,Jc h,JF]
def K2(x m:Str)(c:LS):(dW x c m).getD 1 ""=x/\((dW x c m).drop 2).take (↑(dW x c m) - 4)=c/\(dW x c m).getD (↑(dW x c m) - 1) ""=m/\↑(dW x c m)=↑c + 4/\(dW x c m).getD (↑(dW x c m) - 2) ""="gives":=by
 have l:↑(dW x c m)=↑c + 4:=by
  unfold dW;rw[Yo,Yo];show 2 + ↑c + 2=_;omega
 have e:dW x c m=(("deed" :: x :: (c++(["gives",m]:LS))):LS):=rfl;refine⟨Y,?_,?_,l,?_⟩
 ·rw[l,e];show(c++(["gives",m]:LS)).take (↑c + 4 - 4)=c;rw[Nat.add_sub_cancel,List.take_left'];rfl
 ·rw[l,e,Yz,show ↑c + 4 - 1=↑c + 1 + 2 by omega];show((c++(["gives",m]:LS))[↑c + 1]?).getD ""=m;rw[P2 0.0,show ↑c + 1 - ↑c=1 by omega];rfl
 ·rw[l,e,Yz,show ↑c + 4 - 2=↑c + 2 by omega];show((c++(["gives",m]:LS))[↑c]?).getD ""="gives";rw[P2 0.0,Nat.sub_self];rfl
def Hk(x:V)(r:LV):CL (x :: r) 0≈x:=CA (j:=0) rfl
structure ja(K:Fg)(mg:Str->OU)(x:Str)(C:δ):Prop where
 m:mg x≈(.ref C)
 ex:ExC K C
 ini:W.findIn K (.ref C) "__init__"≈(↥(.builtin "ValueError.__init__"))
def Nw(p:LS×Str):Dt:=.tuple [Eo p.1,.str p.2]
theorem dm{K:Fg}{H:Hp}:∀ {ps:List (LS×Str)}{vs:LV},EF H ps vs->A7 K H vs (ps.map Nw)
 | _,_,.nil=>.nil
 | _,_,.cons ⟨t,tc,e,h1,h2⟩ r=>by
  subst e;exact .cons (.tuple (AG.of h1) (.cons (Wl h2) (.cons (.str _) .nil))) (dm r)
def Cc(x:Str):Prop:=PyData.strOk x=true
def eJ{x:Str}(h:AR x=true):Cc x:=by
 have:=cz h;exact this
def xj(xs:LV)(k:Nat):BO xs none (↥(k:Int))=xs.take k:=by
 unfold BO;rw[HT.sIx_none,HT.sIx_nat,List.drop_zero,Nat.sub_zero]
 rcases Nat.le_total k ↑xs with h | h
 ·rw[Na h]
 ·rw[Nat.min_eq_right h,KD (Ye _),KD h]
def Yb8:(["row"]:LS).Nodup:=by rfl'
def Yca:(["name"]:LS).Nodup:=by rfl'
def Yb9:(["pair"]:LS).Nodup:=by rfl'
def Kv(H:Hp):V->V
 | .ref t=>match H t with
  | some (.tup (x :: _))=>x
  | _=>.non
 | _=>.non
def Ri{H:Hp}{t:δ}{x:V}{r:LV}(h:H t≈(.tup (x :: r))):Kv H (.ref t)=x:=by
 show(match H t with | some (.tup (x :: _))=>x | _=>.non)=x;rw[h]
theorem d0{H:Hp}:∀ {ρ:RS}{vs:LV},Paired (J9 H) ρ vs->vs.map (Kv H)=(ρ.map 0.8).map V.str
 | _,_,.nil=>rfl
 | _,_,.cons ⟨t,u,e,h1,_⟩ r=>by
  subst e;rw[Yy,Yy,Yy,Ri h1,d0 r]
def Rn{K:Fg}{J:It}{vs:LV}{Ok:Hp->Prop}(R:EW J vs Ok){js:LN}{σ:St}{Q:VK}{H1:Hp}(hz:↑vs<=1000)(hp:∀ v∈vs,∃ t x r,v=.ref t/\H1 t≈(.tup (x :: r)))(hok:∀ H,AA H1 H->Ok H)
  (hd:∀ D H',H1 D=none->AA H1 H'->H' D≈(.lst (vs.map (Kv H1)))->Q (.ref D) H'):AZ 1 js (Cz 0) RY (Nm (DJ K) (NO 0) (tC (.int 0))) σ Q J H1:=by
 refine LB R (sL 0.0) (λ_=>true) (Kv H1) hok ?_ ?_ ?_
 ·intro x H R' _ _ h;exact h H (AA.refl _)
 ·intro x H R' s hx _ h;obtain⟨t,y,r,rfl,ht⟩:=hp x hx;rw[Ri ht]at h;exact⟨Z,t,G,Z,Y,AG.of (s _ _ ht),Hk _ _,h H (AA.refl _)⟩
 ·intro D H' hD s hl;rw[JG.mpr 0.2]at hl;exact hd D H' hD s hl
theorem Vn{H:Hp}:∀ {ps:List (LS×Str)}{vs:LV},EF H ps vs->EZ H (ps.map 0.8) (vs.map (Kv H))
 | _,_,.nil=>.nil
 | _,_,.cons ⟨t,tc,e,h1,h2⟩ r=>by
  subst e;rw[Yy,Yy];exact .cons ⟨tc,Ri h1,h2⟩ (Vn r)
def dh{X:Cx}{e:Expr}:PE X e (λ_ _ _=>False):=λ_ _ _ _ _ _ h=>h.elim
def Th{X:Cx}{E:XK}{k:Nat}{ps:LS}{sp:Sp}{x:Str}{st:Stmt}{p pos:Pos}{e:Expr}{es:μ}{t:TA}(FF:Cs X E)(d:Def X.K X.mg x st ps f fd)(G:BQ X.prog X.w X.K X.mg X.base (Ct X.prog X.w) k f fd ps sp)(hr:Ab k X.A)
  (ha:PA X (e :: es) t) (hg:Gl X x:=by rfl) (hdb:(x == ("__debug__":Str))=false:=by decide) (he:starEach (e :: es) X.env=(false,eval e X.env):: starEach es X.env:=by rfl) (hpl:(backTo pos (starEach es X.env)).any 0.8=false:=by rfl):
  PE X (.Call (.Name x p) (e :: es) [] pos) (X8 sp [] E t):=cX G hr hg d.m d.fn.kp d.b .nil (Oa FF) ha hdb he hpl
def LA(ws:LS):Bool:=decide (↑ws=3)&&(decide (ws.getD 0 ""="tie")&&ws.all AR)
def Gf(ws:LS):Bool:=J2 ws || (LA ws || (PN ws || PM ws))
abbrev q1:LS:=["smooth","show"]
abbrev q2:LS:=["even","mend"]
abbrev q3:LS:=["ask","next"]
def ED(ws:LS):Bool:=if ws.getD 0 ""∈q1 then decide (↑ws=1)else if ws.getD 0 ""∈q2 then decide (↑ws=2)&&ws.all AR else decide (ws.getD 0 ""∈q3)&&(decide (2<↑ws)&&ws.all AR)
inductive KA(B:LS->Bool)(vs:LV)(H:Hp)(Q:VK)(AJ:XK):Prop
 | mk:∀(a:δ) (ws:LS),vs=[.ref a]->EY H a ws->ws≠[]->(∀ H',AA H H'->Q (.bl (B ws)) H')->KA B vs H Q AJ
def B5(a b:Str):decide (V.str a=V.str b)=decide (a=b):=JK.mpr ⟨λz=>V.str.inj z,λz=>by rw[z]⟩
def Xv{ws:LS}(h:ws≠[]):∃ x,ws[0]?≈x/\ws.getD 0 ""=x:=by
 rcases ws with _ | ⟨x,r⟩
 ·exact absurd rfl h
 ·exact⟨x,rfl,rfl⟩
def Ybc:Aa ["words"] ["words"] (AL TQ):=by nofun
def qt(F:Def K mg "is_tie_row" TQ ["words"] f fd)(len:mg "len"=none)(DA:Def K mg "are_words" J6 ["texts"] fA fdA)(GA:⋯ 2 fA fdA ["texts"] NN):⋯ 3 f fd ["words"] (KA LA):=by
 nomatch F.fn.ok Ybc
 ·obtain⟨a,ws,rfl,_⟩:=h;rfl
 ·obtain⟨a,ws,rfl,hw,hn,q⟩:=h
  ac_nf
  refine'⟨_,AF (AQ (F7 (C3 BP (A9 Cb 1.0 len BX (pC 0.9 AB)) AH (Aj _)) (F7 (C3 BP 1.9 Ah (Aj _)) (IA (AV DA GA hr (pC 0.9 AB)))))),?_⟩;have hl:=SqL.of (K:=K) hw.at_;obtain⟨x,hx,ex⟩:=Xv hn;unfold LA at q;rw[ex]at q;refine⟨_,rfl,a,_,rfl,.inl hl,rfl,_,rfl,?_⟩;rw[Ya,show decide (V.int ((↑ws:Nat):Int)=V.int 3)=decide (↑ws=3)from JK.mpr ⟨λz=>by have:=V.int.inj z;omega,λz=>by rw[z];rfl⟩];by_cases e:↑ws=3
  ·rw[Jb e]at q ⊢;rw[DY]at q;refine A4 ⟨_,rfl,a,_,_,_,rfl,rfl,hl,A_ (k:=0) hx,rfl,_,rfl,?_⟩;rw[B5];by_cases h1:x="tie"
   ·rw[Jb h1]at q ⊢;rw[DY]at q;exact A4 ⟨_,rfl,a,ws,rfl,hw,q⟩
   ·rw[Jc h1]at q ⊢;exact AU (q H (AA.refl _))
  ·rw[Jc e]at q ⊢;exact AU (q H (AA.refl _))
def Ybe:Aa ["words"] ["words"] (AL TN):=by nofun
def sg(F:Def K mg "is_telling" TN ["words"] f fd)(DK:Def K mg "is_kind_row" S7 ["words"] fK fdK)(GK:⋯ 3 fK fdK ["words"] Y0)
  (DT:Def K mg "is_tie_row" TQ ["words"] fT fdT) (GT:⋯ 3 fT fdT ["words"] (KA LA)) (DN:Def K mg "is_name_row" S8 ["words"] fN fdN) (GN:⋯ 2 fN fdN ["words"] Y2)
  (DD:Def K mg "is_deed_row" S6 ["words"] fD fdD) (GD:⋯ 3 fD fdD ["words"] YY):⋯ 4 f fd ["words"] (KA Gf):=by
 nomatch F.fn.ok Ybe
 ·obtain⟨a,ws,rfl,_⟩:=h;rfl
 ·obtain⟨a,ws,rfl,hw,hn,q⟩:=h;have Bf:Ab 2 _:=hr.mono 0.1
  ac_nf
  refine'⟨_,AF (AQ (Ti (AV DK GK hr (pC 0.9 AB)) (Ti (AV DT GT hr (pC 0.9 AB)) (Ti (AV DN GN Bf (pC 0.9 AB)) (IA (AV DD GD hr (pC 0.9 AB))))))),?_⟩;unfold Gf at q;refine⟨_,rfl,a,ws,rfl,hw,hn,λH1 s1=>⟨_,rfl,?_⟩⟩;cases h1:J2 ws with
  | true=>rw[h1,Bool.true_or]at q;exact A4 (q H1 s1)
  | false =>
   rw[h1,NR]at q;refine AU ⟨Z,a,ws,Y,hw.mono s1,hn,λH2 s2=>⟨Z,?_⟩⟩;cases h2:LA ws with
   | true=>rw[h2,Bool.true_or]at q;exact A4 (q H2 (s1.trans s2))
   | false =>
    rw[h2,NR]at q;have A8:=s1.trans s2;refine AU ⟨Z,a,ws,Y,hw.mono A8,hn,λH3 s3=>⟨Z,?_⟩⟩;cases h3:PN ws with
    | true=>rw[h3,Bool.true_or]at q;exact A4 (q H3 (A8.trans s3))
    | false =>
     rw[h3,NR]at q;exact AU ⟨Z,a,ws,Y,hw.mono (A8.trans s3),hn,λH4 s4=>q H4 ((A8.trans s3).trans s4)⟩
def Ybl:Aa ["words"] ["words"] (AL Pc):=by nofun
def Vj(x:Str)(l:LS):Bw (.str x) (l.map V.str)=decide (x∈l):=Io x l
def qP(F:Def K mg "is_asking" Pc ["words"] f fd)(len:mg "len"=none)(DA:Def K mg "are_words" J6 ["texts"] fA fdA)(GA:⋯ 2 fA fdA ["texts"] NN):⋯ 3 f fd ["words"] (KA ED):=by
 nomatch F.fn.ok Ybl
 ·obtain⟨a,ws,rfl,_⟩:=h;rfl
 ·obtain⟨a,ws,rfl,hw,hn,q⟩:=h
  ac_nf
  refine'⟨_,(pS (Ag (An (r:=F2 K false) Iz 1.9 (O6 q1 rfl 0.1) 1.8) (AF (AQ (C3 BP (A9 Cb 1.0 len BX (pC 0.9 AB)) AH (Aj _)))) Af)
   (pS (Ag (An (r:=F2 K false) Iz 1.9 (O6 q2 rfl 0.1) 1.8) (AF (AQ (F7 (C3 BP (A9 Cb 1.0 len BX (pC 0.9 AB)) AH (Aj _)) (IA (AV DA GA hr (pC 0.9 AB)))))) Af)
   (AF (AQ (F7 (C3 (r:=F2 K false) Iz 1.9 (O6 q3 rfl 0.1) 1.8) (F7 (C3 Hz (A9 Cb 1.0 len BX (pC 0.9 AB)) AH (Aj _)) (IA (AV DA GA hr (pC 0.9 AB))))))))),?_⟩
  exists let b:=_;let c:=AE (By _ b _) a;let e:=_;AE (By _ e _) c _ _ _
  obtain⟨x,hx,ex⟩:=Xv hn;unfold ED at q;rw[ex]at q;have hl:=SqL.of (K:=K) hw.at_;refine⟨Z,a,G,Z,Y,hl,A_ (k:=0) hx,λt1 GZ=>⟨t1,Z,.inr (AG.of uS),Y,Y,Z,?_⟩⟩;have s1:=AI (o:=.tup (q1.map V.str)) GZ;have HY:=hw.mono s1;rw[show(if false=true then !Bw (.str x) (q1.map V.str)else Bw (.str x) (q1.map V.str))=decide (x∈q1)from Vj x q1];generalize upd H t1 (.tup (q1.map V.str))=H1 at s1 HY ⊢;have lenE:∀ k:Nat,decide (V.int ((↑ws:Nat):Int)=V.int (k:Int))=decide (↑ws=k):=λk=>JK.mpr ⟨λz=>by have:=V.int.inj z;omega,λz=>by rw[z]⟩;by_cases h1:x∈q1
  ·rw[if_pos h1]at q;rw[Jb h1];refine A4 ⟨Z,a,Z,.inl (SqL.of HY.at_),Y,?_⟩;rw[Ya,show(V.int 1)=V.int ((1:Nat):Int)from rfl,lenE];exact q H1 s1
  rw[if_neg h1]at q;rw[Jc h1];refine AU ⟨Z,a,G,Z,Y,SqL.of HY.at_,A_ (k:=0) hx,λt2 AS=>⟨t2,Z,.inr (AG.of uS),Y,Y,Z,?_⟩⟩;have s2:=s1.trans (AI (o:=.tup (q2.map V.str)) AS);have RB:=hw.mono s2;rw[show(if false=true then !Bw (.str x) (q2.map V.str)else Bw (.str x) (q2.map V.str))=decide (x∈q2)from Vj x q2];generalize upd H1 t2 (.tup (q2.map V.str))=H2 at s2 RB ⊢;by_cases h2:x∈q2
  ·rw[if_pos h2]at q;rw[Jb h2];refine A4 ⟨Z,a,Z,.inl (SqL.of RB.at_),Y,Z,?_⟩;rw[Ya,show(V.int 2)=V.int ((2:Nat):Int)from rfl,lenE];by_cases e:↑ws=2
   ·rw[Jb e]at q ⊢;rw[DY]at q;exact A4 ⟨Z,a,ws,Y,RB,λH3 s3=>q H3 (s2.trans s3)⟩
   ·rw[Jc e]at q ⊢;exact AU (q H2 s2)
  rw[if_neg h2]at q;rw[Jc h2];refine AU ⟨Z,a,G,Z,Y,SqL.of RB.at_,A_ (k:=0) hx,λt3 Ek=>⟨t3,Z,.inr (AG.of uS),Y,Y,?_⟩⟩;have s3:=s2.trans (AI (o:=.tup (q3.map V.str)) Ek);have HX:=hw.mono s3;rw[show(if false=true then !Bw (.str x) (q3.map V.str)else Bw (.str x) (q3.map V.str))=decide (x∈q3)from Vj x q3];generalize upd H2 t3 (.tup (q3.map V.str))=H3 at s3 HX ⊢;refine⟨Z,?_⟩;by_cases h3:x∈q3
  ·rw[Jb h3]at q ⊢;rw[DY]at q;refine A4 ⟨Z,a,Z,.inl (SqL.of HX.at_),_,Z,Y,Z,?_⟩;rw[Ya];by_cases e:2<↑ws
   ·rw[Jb e,DY]at q;rw[Jb (show(2:Int)<((↑ws:Nat):Int) by omega)];exact A4 ⟨Z,a,ws,Y,HX,λH4 s4=>q H4 (s3.trans s4)⟩
   ·rw[Jc e,JF]at q;rw[Jc (show ¬ (2:Int)<((↑ws:Nat):Int) by omega)];exact AU (q H3 s3)
  ·rw[Jc h3]at q ⊢;exact AU (q H3 s3)
def iw:Aa ["row","words"] ["row"] (AL Sw):=by nofun
inductive Wn(vs:LV)(H:Hp)(Q:VK)(AJ:XK):Prop
 | mk:∀(x:Str) (ws:LS),vs=[.str x]->Ep x ws->(x="back"\/Gf ws=true\/ED ws=true)->(∀ H',AA H H'->Q .non H')->Wn vs H Q AJ
def tT(F:Def K mg "check_row" Sw ["row"] f fd)(DT:Def K mg "is_telling" TN ["words"] fT fdT)(GT:⋯ 4 fT fdT ["words"] (KA Gf))
  (DA:Def K mg "is_asking" Pc ["words"] fA fdA) (GA:⋯ 3 fA fdA ["words"] (KA ED)):⋯ 5 f fd ["row"] Wn:=by
 nomatch F.fn.ok iw
 ·obtain⟨x,ws,rfl,_⟩:=h;rfl
 ·obtain⟨x,ws,rfl,rt,cs,q⟩:=h;have nd:=iw.nd;have Gb:Ab 3 _:=hr.mono 0.1
  ac_nf
  refine'⟨_,(pS (sE 1 nd (DQ NS PySem.F.slot_str_split PySem.F.type_str_split Wg 0.9 (pC Ah AB)))
   (AF (Ag (PW.pt (Gm (An OZ 0.9 Ah (Aj _)) (Gm (Di (C0 (AV DT GT hr 2.3))) (Gm (Di (C0 (AV DA GA Gb 2.3))) (Jy (Di (C0 dh))))))) Bj Af))),?_⟩
  exists AE _ a _ _ _
  refine⟨_,rfl,rfl,x," ",rfl,rfl,X7,sL (by have:=rt.len;omega),by rw[rt.sp];have:=rt.few;exact sL 0.0,λpw hpw=>?_⟩;rw[rt.sp];have s1:AA H (upd H pw (.lst 1.1)):=AI hpw;have h1:(upd H pw (.lst 1.1)) pw≈(.lst 1.1):=uS;generalize upd H pw (.lst 1.1)=H1 at s1 h1 ⊢;have hw:EY H1 pw ws:=⟨h1,rt.few,rt.sh⟩;refine⟨_,rfl,rfl,_,rfl,?_⟩;rw[B5];by_cases e:x="back"
  ·rw[Jb e];exact AU (q H1 s1)
  rw[Jc e];refine A4 ⟨_,rfl,pw,ws,rfl,hw,rt.ne,λH2 s2=>⟨_,rfl,?_⟩⟩;cases ht:Gf ws with
  | true=>exact AU (q H2 (s1.trans s2))
  | false =>
   refine A4 ⟨Z,pw,ws,Y,hw.mono s2,rt.ne,λH3 s3=>⟨Z,?_⟩⟩;have ha:ED ws=true:=by
    rcases cs with c | c | c
    ·exact absurd c e
    ·rw[ht]at c;cases c
    ·exact c
   rw[ha];exact AU (q H3 ((s1.trans s2).trans s3))
inductive A1
 | kind (x:Str) (us:LS)
 | tie (x y:Str)
 | name (x:Str) (n:Nat)
 | deed (x:Str) (c:LS) (m:Str)
def Ay:A1->LS
 | .kind x us=>kW (x,us)
 | .tie x y=>["tie",x,y]
 | .name x n=>nW (x,n,[])
 | .deed x c m=>dW x c m
def Ge:A1->Prop
 | .kind x us=>AR x=true/\↑us<=8/\∀ u∈us,AR u=true
 | .tie x y=>AR x=true/\AR y=true
 | .name x n=>AR x=true/\1<=n/\n<=4
 | .deed x c m=>AR x=true/\1<=↑c/\↑c<=5/\(∀ u∈c,AR u=true)/\AR m=true
def IX(ρ:List Row):A1->List Row
 | .kind x us=>ρ++[(x,us)]
 | .tie x y=>CO ρ x y
 | _=>ρ
def Cj(x:Str)(c:LS)(m:Str)(n:AN):AN:=if n.1=x then(n.1,n.2.1,n.2.2++[(c,m)])else n
def Hg(ns:List AN):A1->List AN
 | .name x n=>ns++[(x,n,[])]
 | .deed x c m=>ns.map (Cj x c m)
 | _=>ns
def kq(ns:List AN):Prop:=∀ n∈ns,AR n.1=true/\n.2.1<=4/\↑n.2.2<=65/\∀ p∈n.2.2,↑p.1<=5/\(∀ u∈p.1,AR u=true)/\AR p.2=true
def dw{ρ:List Row}{ns:List AN}(g:Ak ρ)(h:B9 ρ ns):kq ns:=λn hn=>by
 have a:=h.each n hn;have gw:∀ x∈ρ.map 0.8,AR x=true:=J7 g;refine⟨a.word,a.four,by have:=a.deeds.few;rw[Ya]at this;omega,λp hp=>?_⟩;have b:=a.deeds.call p.1 (Yg.mpr ⟨p,hp,Y⟩);exact⟨by rw[b.len];have:=a.four;omega,λu hu=>gw u (b.known u hu),gw _ (a.made p hp)⟩
abbrev mC:LS:=["book","word","deed","names","name","places","deeds"]
def kO:Aa mC ["book","word","deed"] (AL Sz):=by nofun
def Ig(ρ:List Row)(ns:List AN)(c:A1):Prop:=Ak (IX ρ c)/\B9 (IX ρ c) (Hg ns c)/\(∀ x y,c=.tie x y->x∈ρ.map 0.8/\y∈ρ.map 0.8)/\∀ x d m,c=.deed x d m->x∈ns.map 0.8
inductive X4(C B D:δ)(vs:LV)(H:Hp)(Q:VK)(AJ:XK):Prop
 | mk:∀(pb k t:δ) (ρ:List Row) (ns:List AN) (x m:Str) (c:LS),vs=[.ref pb,.str x,.ref t]->Fp C B D H pb k ρ ns->Ak ρ->B9 ρ ns->Ge (.deed x c m)->UJ H (c,m) (.ref t)->Ig ρ ns (.deed x c m)->(∀ b k H',AA H H'->BI (λb=>∃ o,H b≈o) C B D H' b k ρ (Hg ns (.deed x c m))->Q (.ref b) H')->X4 C B D vs H Q AJ
inductive X5(C B D:δ)(vs:LV)(H:Hp)(Q:VK)(AJ:XK):Prop
 | mk:∀(pb k a:δ) (ρ:List Row) (ns:List AN) (c:A1),vs=[.ref pb,.ref a]->Fp C B D H pb k ρ ns->Ak ρ->B9 ρ ns->Ge c->EY H a (Ay c)->Ig ρ ns c->(∀ b k H',AA H H'->BI (λb=>∃ o,H b≈o) C B D H' b k (IX ρ c) (Hg ns c)->Q (.ref b) H')->X5 C B D vs H Q AJ
def Sa{K:Fg}{H:Hp}{l:δ}{ns:List AN}{us:LV}(h:H l≈(.lst us))(n:Dg H ns us):V1 K H l ns:=⟨true,us,SqL.of h,Paired.mapP n λ_ _ z=>z.v⟩
def BI.old{C B D:δ}{H H1 H2:Hp}{b k:δ}{ρ:List Row}{ns:List AN}(h:BI (λb=>∃ o,H1 b≈o) C B D H2 b k ρ ns)(s:AA H H1):BI (λb=>∃ o,H b≈o) C B D H2 b k ρ ns:=h.sub λb z=>by
 obtain⟨o,e⟩:=z;exact⟨o,s _ _ e⟩
def Bv:A1->Str
 | .kind _ _=>"kind"
 | .tie _ _=>"tie"
 | .name _ _=>"name"
 | .deed _ _ _=>"deed"
def DS:∀ c:A1,(Ay c)[0]?≈(Bv c)
 | .kind _ _=>rfl
 | .tie _ _=>rfl
 | .name _ _=>rfl
 | .deed _ _ _=>rfl
def ik(c:A1):∃ x,(Ay c)[1]?≈x:=by cases c <;> exact⟨Z⟩
def jm(r:Row):(kW r).drop 3=r.2:=by
 unfold kW
 rcases r with⟨x,us⟩
 cases us with
 | nil=>rfl
 | cons a l=>rfl
def bh(x m:Str)(c:LS):(dW x c m)[↑(dW x c m) - 1]?≈m:=by
 obtain⟨a1,a2,a3,a4,a5⟩:=K2 x m c;rw[Yz]at a3;cases h:(dW x c m)[↑(dW x c m) - 1]? with
 | none =>
  have:=List.getElem?_eq_none_iff.mp h;omega
 | some z=>rw[h]at a3;exact congrArg some a3
def iV:¬ (("kind":Str)="deed"):=by rfl'
def iK:¬ (("kind":Str)="name"):=by rfl'
def iL:¬ (("kind":Str)="tie"):=by rfl'
def iN:¬ (("tie":Str)="deed"):=by rfl'
def iO:¬ (("tie":Str)="name"):=by rfl'
def iM:¬ (("name":Str)="deed"):=by rfl'
def uC(F:Def K mg "with_deed" Sz ["book","word","deed"] f fd)(TD:Hw K D)
  (MC:bf K D fC fdC) (GC:⋯ 1 fC fdC ["self","word"] (SE C B D)) (MN:V0 K D fN fdN) (GN:⋯ 2 fN fdN ["self"] (PD C B D)) (MK:WC K D fK fdK) (GK:⋯ 1 fK fdK ["self"] (PB C B D))
  (MD:Mk K D fKI) (mgD:mg "Book"≈(.ref D)) (bD:Bz K fdKI JX []) (GD:⋯ 6 fKI fdKI JX (Mz K C B D)):⋯ 8 f fd ["book","word","deed"] (X4 C B D):=by
 nomatch F.fn.ok kO
 ·obtain⟨pb,k,t,ρ,ns,x,m,c,rfl,_⟩:=h;rfl
 ·obtain⟨pb,k,t,ρ,ns,x,m,c,rfl,bk,g,gn,fc,hp,gc,q⟩:=h;have nd:=kO.nd;have Aq:Ab 1 _:=hr.mono 0.1;have Bf:Ab 2 _:=hr.mono 0.1;have Kn:Ab 7 _:=hr.mono 0.1
  ac_nf
  refine'⟨_,(pS (B8 (EL 0.9 TD.cl MC.me GC Aq MC.b .nil BF 2.3))
   (pS (sE 3 nd (BH AB))
   (pS (Bm Yx rfl (Co (D0 0.9 TD.cl MN.me GN Bf MN.b .nil BF)) (DU rfl (gC (gE 4 nd) (gC (gE 5 nd) (gC (gE 6 nd) DX))))
    (AF (B8 (DQ EN Ft Fq FR (pv 3) (pC (A5 (pC (pv 4) (pC (pv 5) (pC (Wt (An BP (pv 4) 1.5 (Aj _)) (Ai Oz (pv 6) (A5 2.5)) (pv 6)) AB)))) AB)))))
   (AF (AQ (Ir MD GD Kn rfl mgD bD .nil BF (pC (D0 0.9 TD.cl MK.me GK Aq MK.b .nil BF) (pC (pv 3) AB)))))))),?_⟩
  exists let b:=_;let c:=AE (CM _ _ b) a;let e:=AE _ c;AE _ e _ _ _
  obtain⟨dx,bo,mo,o,A3,BD,h1,_⟩:=bk.ex;refine⟨Z,pb,dx,Z,h1,eh _ _ _,Z,?_⟩;have hx:=gc.2.2.2 _ _ _ rfl;refine⟨pb,k,ρ,ns,x,Y,bk,hx,BC _,λln BN=>?_⟩;have s1:AA H (upd H ln (.lst [])):=AI BN;have Ap:(upd H ln (.lst [])) ln≈(.lst []):=uS;generalize upd H ln (.lst [])=H1 at s1 Ap;refine⟨Z,pb,dx,Z,s1 _ _ h1,PU _ _ _,pb,k,ρ,ns,Y,bk.mono s1,gn,λl us H2 hl s2 Al Hf=>?_⟩;have A8:=s1.trans s2;have Qd:=s2 _ _ Ap;have lnl:l≠ln:=Yw (AK Ap hl);have few:=gn.few;have nl:=Yp Hf;let Be:NW:=λi σ H'=>∃(vs:LV) (a b e:OV),σ=[↥(.ref pb),↥(.str x),↥(.ref t),↥(.ref ln),a,b,e]/\(∀ b o,b≠ln->H2 b≈o->H' b≈o)/\H' ln≈(.lst vs)/\Dg H' ((ns.take i).map (Cj x c m)) vs;refine⟨l,Y,⟨_,SqL.of Al⟩,CG (Cq (xs:=us)) Be
   ⟨[],none,none,none,Y,λ_ _ _ e=>e,Qd,by rw[Ee];exact .nil⟩ (λi σ H' _ h0=>by obtain⟨_,_,_,_,_,k2,_⟩:=h0;exact SqL.of (k2 _ _ lnl Al)) ?_ ?_⟩
  ·rintro i v σ H3 hi ⟨vs,a,b,e,rfl,k3,BA,E9⟩;obtain⟨n,hn,tn,tp,ws,rfl,ht,htp,hP⟩:=Bi Hf hi;have tk:∀ b xs,H2 b≈(.tup xs)->H3 b≈(.tup xs):=λb xs e=>k3 _ _ (λz=>by rw[z,Qd]at e;cases e) e;have t3:=tk _ _ ht;have Zu:=tk _ _ htp;have il:i<↑us:=(Yu.mp hi).1;have vl:↑vs<=8:=by rw[<- Yp E9,Ya,Yv];omega
   refine⟨tn,Z,AG.of t3,Y,_,Z,_,Z,_,Z,Y,?_⟩;refine⟨Z,.inl ⟨Y,_,SqL.of BA⟩,Z,Z,Z,Z,Y,Z,?_⟩;rw[B5];have fin:∀(tq:δ) (ps:List (LS×Str)) (ws:LV) (H4:Hp),AA H3 H4->H4 tq≈(.tup ws)->EF H4 ps ws->Cj x c m n=(n.1,n.2.1,ps)->∀ t2,H4 t2=none->∃(MI:LV) (a b e:OV),[↥(V.ref pb),↥(V.str x),↥(V.ref t),↥(V.ref ln),↥(V.str n.1),↥(V.int n.2.1),↥(V.ref tp)]=[↥(.ref pb),↥(.str x),↥(.ref t),↥(.ref ln),a,b,e] /\
     (∀ b o,b≠ln->H2 b≈o->(upd (upd H4 t2 (.tup [.str n.1,.int n.2.1,.ref tq])) ln (.lst (vs++[.ref t2]))) b≈o)/\(upd (upd H4 t2 (.tup [.str n.1,.int n.2.1,.ref tq])) ln (.lst (vs++[.ref t2]))) ln≈(.lst MI)/\Dg (upd (upd H4 t2 (.tup [.str n.1,.int n.2.1,.ref tq])) ln (.lst (vs++[.ref t2]))) ((ns.take (i + 1)).map (Cj x c m)) MI:=λtq ps ws H4 s4 hq hps et t2 AS=>by
    have s5:AA H4 (upd H4 t2 (.tup [.str n.1,.int n.2.1,.ref tq])):=AI AS;have Bx:=s4 _ _ BA;have Ub:∀ b xs,H4 b≈(.tup xs)->(upd (upd H4 t2 (.tup [.str n.1,.int n.2.1,.ref tq])) ln (.lst (vs++[.ref t2]))) b≈(.tup xs):=λb xs e=>by
     rw[AD (λz=>by rw[z,Bx]at e;cases e)];exact s5 _ _ e
    have Uc:t2≠ln:=λz=>by rw[z,Bx]at AS;cases AS
    refine⟨G,_,Z,λb o hb e=>by rw[AD hb];exact s5 _ _ (s4 _ _ (k3 _ _ hb e)),uS,?_⟩;have e2:(ns.take (i + 1)).map (Cj x c m)=(ns.take i).map (Cj x c m)++[(n.1,n.2.1,ps)]:=by rw[Bu,hn,Br];show _++[Cj x c m n]=_;rw[et]
    rw[e2];exact CH ((E9.mono λb xs e=>s4 _ _ e).mono Ub) ⟨t2,tq,ws,Y,by rw[AD Uc,uS],Ub _ _ hq,hps.mono Ub⟩
   have av:=hP.mono tk;by_cases ex:n.1=x
   ·rw[Jb ex];obtain⟨t0,tc,e0,p1,p2⟩:=hp;cases e0;refine A4 ⟨Z,Z,V,λt4 N7=>?_⟩;have Ar:AA H3 (upd H3 t4 (.tup [.ref t])):=AI N7;have az:(upd H3 t4 (.tup [.ref t])) t4≈(.tup [.ref t]):=uS;generalize upd H3 t4 (.tup [.ref t])=H4 at Ar az ⊢;have wl:=Yp hP;have nf:=(gn.each n (Yd hn)).deeds.few;rw[Ya]at nf;refine M7 (K:=K) (Ar _ _ Zu) az (sL (by show ↑ws + 1<=100000;omega)) λtq H5 B6 hq=>⟨sL (by show 3<=100000;decide),λt2 AS=>⟨ln,vs,Z,Y,?_,B0 0.0,?_⟩⟩
    ·exact AI AS _ _ (B6 _ _ (Ar _ _ BA))
    ·have Kb:=Ar.trans B6;refine fin tq (n.2.2++[(c,m)]) (ws++[.ref t]) H5 Kb hq (CH (av.mono (CN Kb)) ⟨t,tc,Y,?_,?_⟩) (by unfold Cj;rw[if_pos ex]) t2 AS
     ·exact Kb _ _ (tk _ _ (A8 _ _ p1))
     ·exact Kb _ _ (tk _ _ (A8 _ _ p2))
   ·rw[Jc ex];refine AU ⟨Z,sL (by show 3<=100000;decide),λt2 AS=>⟨ln,_,Z,Y,AI AS _ _ BA,B0 0.0,?_⟩⟩;exact fin tp n.2.2 ws H3 (AA.refl _) Zu av (by unfold Cj;rw[if_neg ex]) t2 AS
  ·rintro σ H3 ⟨vs,a,b,e,rfl,k3,BA,E9⟩;rw[<- nl,Bt]at E9;have BJ:AA H H3:=λb o e=>k3 _ _ (AK e BN) (A8 _ _ e);refine⟨Z,pb,dx,Z,BJ _ _ h1,XI _ _ _,pb,k,ρ,ns,Y,bk.mono BJ,Z,?_⟩;intro p2 d2 np Kj ne2;have kd:Bd C H3 k ρ:=by
    obtain⟨_,_,_,_,_,_,_,z,_⟩:=(bk.mono BJ).ex;exact z
   exact O4 np Kj kd g (Sa BA E9) gc.2.1 λH4 s4 Ib=>q p2 k H4 (BJ.trans s4) (Ib.old BJ)
abbrev l_:LS:=["book","words","kinds","pair"]
def kP:Aa l_ ["book","words"] (AL Si):=by nofun
set_option maxHeartbeats 8000000 in
def tW(F:Def K mg "with_row" Si ["book","words"] f fd)(TD:Hw K D)(TC:EC K C)
  (DW:Def K mg "with_deed" Sz ["book","word","deed"] fWD fdWD) (GW:⋯ 8 fWD fdWD ["book","word","deed"] (X4 C B D))
  (DDO:Def K mg "deed_of" SI ["words"] fDO fdDO) (GDO:⋯ 1 fDO fdDO ["words"] YV) (DNO:Def K mg "name_of" SK ["words"] fNO fdNO) (GNO:⋯ 1 fNO fdNO ["words"] Y1) (DKO:Def K mg "kind_of" SJ ["words"] fKO fdKO) (GKO:⋯ 1 fKO fdKO ["words"] YZ)
  (MN:V0 K D fN fdN) (GN:⋯ 2 fN fdN ["self"] (PD C B D)) (MK:WC K D fK fdK) (GK:⋯ 1 fK fdK ["self"] (PB C B D))
  (MT:Cw K C "tied" "Kinds.tied" TJ ["self","one","other"] fT fdT) (GT:⋯ 6 fT fdT ["self","one","other"] (Vu C)) (MM:Cw K C "more" "Kinds.more" TH ["self","word","ups"] fM fdM) (GM:⋯ 6 fM fdM ["self","word","ups"] (Vs K C))
  (MD:Mk K D fKI) (mgD:mg "Book"≈(.ref D)) (bD:Bz K fdKI JX []) (GD:⋯ 6 fKI fdKI JX (Mz K C B D)):⋯ 9 f fd ["book","words"] (X5 C B D):=by
 nomatch F.fn.ok kP
 ·obtain⟨pb,k,a,ρ,ns,c,rfl,_⟩:=h;rfl
 ·obtain⟨pb,k,a,ρ,ns,c,rfl,bk,g,gn,fc,hw,gc,q⟩:=h;have nd:=kP.nd;have Aq:Ab 1 _:=hr.mono 0.1;have Bf:Ab 2 _:=hr.mono 0.1;have af:Ab 6 _:=hr.mono 0.1;have Kn:Ab 7 _:=hr.mono 0.1;have Uz:Ab 8 _:=hr.mono 0.1
  ac_nf
  refine'⟨_,(pS (sE 2 nd (D0 0.9 TD.cl MK.me GK Aq MK.b .nil BF))
   (pS (Ag (An BP 2.6 Ah (Aj _)) (AF (AQ (AV DW GW Uz (pC 0.9 (pC 2.6 (pC (AV DDO GDO Aq 2.3) AB)))))) Af)
   (pS (Ag (An BP 2.6 Ah (Aj _)) (AF (AQ (Ir MD GD Kn rfl mgD bD .nil BF (pC 1.6 (pC (Ai Jv (D0 0.9 TD.cl MN.me GN Bf MN.b .nil BF) (BH (pC (Ai Oz (AV DNO GNO Aq 2.3) (A5 (pC (A5 AB) AB))) AB))) AB))))) Af)
   (pS (Ag (An BP 2.6 Ah (Aj _)) (AF (AQ (Ir MD GD Kn rfl mgD bD .nil BF (pC (EL 1.6 TC.cl MT.me GT af MT.b .nil BF (pC 2.6 (pC 2.6 AB))) (pC (D0 0.9 TD.cl MN.me GN Bf MN.b .nil BF) AB))))) Af)
   (pS (sE 3 nd (AV DKO GKO Aq 2.3))
   (AF (AQ (Ir MD GD Kn rfl mgD bD .nil BF (pC (EL 1.6 TC.cl MM.me GM af MM.b .nil BF (pC (AO (r:=DJ K) Dz (pv 3) AH 0.2) (pC (AO (r:=DJ K) Dz (pv 3) AH 0.2) AB))) (pC (D0 0.9 TD.cl MN.me GN Bf MN.b .nil BF) AB)))))))))),?_⟩
  exists let b:=AE _ a;let c:=_;let e:=AE (By _ c _) b;let f:=_;let g:=AE (By _ f _) e;let h:=_;let i:=AE (By _ h _) g;AE _ i _ _ _
  obtain⟨dx,bo,mo,o,A3,BD,h1,kd,_⟩:=bk.ex;obtain⟨dxk,dk,ak,_,_,_,_,Dr,_⟩:=kd.ex;have hl:=SqL.of (K:=K) hw.at_;refine⟨Z,pb,dx,Z,h1,XI _ _ _,pb,k,ρ,ns,Y,bk,?_⟩;refine⟨Z,a,G,Z,Y,hl,A_ (k:=0) (DS c),Y,Z,?_⟩;rw[B5];cases c with
  | deed x c m =>
   rw[Jb (show Bv (.deed x c m)="deed" from rfl)];have h4:4<=↑(dW x c m):=by rw[(K2 x m c).2.2.2.1];omega
   refine A4 ⟨Z,Z,a,G,Z,Y,hl,A_ (k:=1) (show(dW x c m)[1]?≈x from rfl),Z,a,dW x c m,m,Y,hw,h4,bh x m c,λt tc H1 s1 g1 g2=>?_⟩;rw[(K2 x m c).2.1]at g2;exact⟨pb,k,t,ρ,ns,x,m,c,Y,bk.mono s1,g,gn,fc,⟨t,tc,Y,g1,g2⟩,gc,λb k H' s' oo=>q b k H' (s1.trans s') (oo.old s1)⟩
  | name x n =>
   rw[Jc (show ¬ Bv (.name x n)="deed" from iM)];refine AU ⟨Z,a,G,Z,Y,hl,A_ (k:=0) (DS _),Y,Z,?_⟩;rw[B5,Jb (show Bv (.name x n)="name" from rfl)];obtain⟨VH,VG⟩:=Va fc.2.1 fc.2.2;obtain⟨i1,i2⟩:=bz VH;rw[VG]at i1;refine A4 ⟨Z,Z,pb,dx,Z,h1,PU _ _ _,pb,k,ρ,ns,Y,bk,gn,λl us H1 Dd s1 Ap aw=>?_⟩;refine⟨Z,a,nW (x,n,[]),x,Hq n,Z,hw.mono s1,Y,Y,i1,i2,λt1 H2 s2 g2=>⟨BC _,λte hte=>⟨V,λt2 AS=>?_⟩⟩⟩;have ES:AA H2 (upd H2 te (.tup [])):=AI hte;have e3:(upd H2 te (.tup [])) te≈(.tup []):=uS;generalize upd H2 te (.tup [])=H3 at ES e3 AS ⊢;have Ar:AA H3 (upd H3 t2 (.tup [.ref te])):=AI AS;have e4:(upd H3 t2 (.tup [.ref te])) t2≈(.tup [.ref te]):=uS;generalize upd H3 t2 (.tup [.ref te])=H4 at Ar e4 ⊢;have Z6:=ES.trans Ar;refine M7 (K:=K) (Z6 _ _ g2) e4 (sL (by show 2 + 1<=100000;decide)) λp H5 B6 g5=>⟨V,λl2 Al=>?_⟩;have Ce:AA H5 (upd H5 l2 (.lst [.ref p])):=AI Al;have e6:(upd H5 l2 (.lst [.ref p])) l2≈(.lst [.ref p]):=uS;generalize upd H5 l2 (.lst [.ref p])=H6 at Ce e6 ⊢;have Z8:=s2.trans (Z6.trans (B6.trans Ce));have few:=gn.few;have nl:=Yp aw;refine⟨l,l2,us,[.ref p],Y,Y,Z8 _ _ Ap,e6,sL (by show ↑us + 1<=100000;omega),λl3 BA=>?_⟩;have KZ:AA H6 (upd H6 l3 (.lst (us++[.ref p]))):=AI BA;have e7:(upd H6 l3 (.lst (us++[.ref p]))) l3≈(.lst (us++[.ref p])):=uS;generalize upd H6 l3 (.lst (us++[.ref p]))=H7 at KZ e7 ⊢;have Z7:=Z8.trans KZ;have Fb:=s1.trans Z7;intro p2 d2 np Kj ne2;refine O4 np Kj (kd.mono Fb) g (Sa e7 (ns:=Hg ns (.name x n)) ?_) gc.2.1 λH4 s4 Ib=>q p2 k H4 (Fb.trans s4) (Ib.old Fb);exact CH (aw.mono (CN Z7)) ⟨p,te,[],Y,KZ _ _ (Ce _ _ g5),KZ _ _ (Ce _ _ (B6 _ _ (Ar _ _ e3))),.nil⟩
  | tie x y =>
   rw[Jc (show ¬ Bv (.tie x y)="deed" from iN)];refine AU ⟨Z,a,G,Z,Y,hl,A_ (k:=0) (DS _),Y,Z,?_⟩;rw[B5,Jc (show ¬ Bv (.tie x y)="name" from iO)];refine AU ⟨Z,a,G,Z,Y,hl,A_ (k:=0) (DS _),Y,Z,?_⟩;rw[B5,Jb (show Bv (.tie x y)="tie" from rfl)];refine A4 ⟨Z,k,dxk,Z,Dr,yH _ _,Z,a,G,Z,Y,hl,A_ (k:=1) (show(Ay (.tie x y))[1]?≈x from rfl),Z,a,G,Z,Y,hl,A_ (k:=2) (show(Ay (.tie x y))[2]?≈y from rfl),?_⟩;obtain⟨hx,hy⟩:=gc.2.2.1 _ _ rfl;refine⟨k,ρ,x,y,Y,kd,g,hx,hy,gc.1,λkx H1 s1 aO=>?_⟩;refine⟨Z,pb,dx,Z,s1 _ _ h1,PU _ _ _,pb,k,ρ,ns,Y,bk.mono s1,gn,λl us H2 Dd s2 Al Hf=>?_⟩;intro p2 d2 np Kj ne2;have A8:=s1.trans s2;exact O4 np Kj (aO.mono s2) gc.1 (Sa Al Hf) gc.2.1 λH4 s4 Ib=>q p2 kx H4 (A8.trans s4) (Ib.old A8)
  | kind x us =>
   rw[Jc (show ¬ Bv (.kind x us)="deed" from iV)];refine AU ⟨Z,a,G,Z,Y,hl,A_ (k:=0) (DS _),Y,Z,?_⟩;rw[B5,Jc (show ¬ Bv (.kind x us)="name" from iK)];refine AU ⟨Z,a,G,Z,Y,hl,A_ (k:=0) (DS _),Y,Z,?_⟩;rw[B5,Jc (show ¬ Bv (.kind x us)="tie" from iL)];refine AU ⟨Z,a,Ay (.kind x us),x,Y,hw,Y,λt u H1 s1 g1 g2 gu=>?_⟩;rw[show(Ay (.kind x us)).drop 3=us from jm (x,us)]at g2;refine⟨Z,k,dxk,Z,s1 _ _ Dr,yG _ _,Z,t,G,Z,Y,AG.of g1,CA (j:=0) rfl,Z,t,G,Z,Y,AG.of g1,CA (j:=1) rfl,k,u,ρ,x,us,Y,kd.mono s1,g,.inr (SqL.of g2),gc.1,λkx H2 s2 mY=>?_⟩;have A8:=s1.trans s2;refine⟨Z,pb,dx,Z,A8 _ _ h1,PU _ _ _,pb,k,ρ,ns,Y,bk.mono A8,gn,λl Cd H3 Dd s3 BA E9=>?_⟩;intro p2 d2 np Kj ne2;have BJ:=A8.trans s3;exact O4 np Kj (mY.mono s3) gc.1 (Sa BA E9) gc.2.1 λH4 s4 Ib=>q p2 kx H4 (BJ.trans s4) (Ib.old BJ)
def Mv(U:δ)(o:HO):Prop:=(∃ xs,o=.lst xs)\/(∃ d f,o=.ins U d f)\/(∃ f,o=.ext f)\/∃ xs,o=.dT xs
section
variable {C B D U:δ}{M:δ->Prop}{H H':Hp}
def Fj(hM:∀ b,M b->∃ o,H b≈o/\Mv U o){b:δ}{o:HO}(e:H b≈o)(n:¬ Mv U o):¬ M b:=λz=>by
 obtain⟨o',e',h⟩:=hM b z;rw[e]at e';cases e';exact n h
def RZ{U:δ}{o:Obj}{u:HO}:¬ Mv U (.frz o u):=λh=>by rcases h with⟨_,h⟩ | ⟨_,_,h⟩ | ⟨_,h⟩ | ⟨_,h⟩ <;> cases h
def Oi{U:δ}{xs:LV}:¬ Mv U (.tup xs):=λh=>by rcases h with⟨_,h⟩ | ⟨_,_,h⟩ | ⟨_,h⟩ | ⟨_,h⟩ <;> cases h
def Yb1{U:δ}{xs:KL}:¬ Mv U (.dK xs):=λh=>by rcases h with⟨_,h⟩ | ⟨_,_,h⟩ | ⟨_,h⟩ | ⟨_,h⟩ <;> cases h
def Vg{U A:δ}{d:δ}{f:List (Str×V)}(n:U≠A):¬ Mv U (.ins A d f):=λh=>by
 rcases h with⟨_,h⟩ | ⟨_,_,h⟩ | ⟨_,h⟩ | ⟨_,h⟩
 ·cases h
 ·injection h with h _ _;exact n h.symm
 ·cases h
 ·cases h
def Bd.keepM(hC:U≠C)(hM:∀ b,M b->∃ o,H b≈o/\Mv U o)(s:∀ b o,¬ M b->H b≈o->H' b≈o){k:δ}{ρ:List Row}(h:Bd C H k ρ):Bd C H' k ρ:=by
 obtain⟨dx,d,a,o1,oa,ν,AW,h1,h2,h3,h4⟩:=h.ex;exact⟨dx,d,a,o1,oa,ν,AW,s _ _ (Fj hM h1 (Vg hC)) h1,⟨s _ _ (Fj hM h2.at_ RZ) h2.at_,h2.ups.mono λb xs e=>s _ _ (Fj hM e Oi) e⟩,s _ _ (Fj hM h3 RZ) h3,h4.mono λb o' fk e=>s _ _ (Fj hM e RZ) e⟩
theorem DV.keepM(hC:U≠C)(hB:U≠B)(hM:∀ b,M b->∃ o,H b≈o/\Mv U o)(s:∀ b o,¬ M b->H b≈o->H' b≈o){p k:δ}{ρ:List Row}{n:Nat}{ds:ξ}(h:DV C B H p k ρ n ds):DV C B H' p k ρ n ds:=by
 obtain⟨dx,t,us,h1,h2,h3,h4⟩:=h.ex;exact⟨dx,t,us,s _ _ (Fj hM h1 (Vg hB)) h1,Bd.keepM hC hM s h2,s _ _ (Fj hM h3 Oi) h3,Paired.mapP h4 λ_ _ ⟨t',e,x⟩=>⟨t',e,s _ _ (Fj hM x Oi) x⟩⟩
theorem BI.keepM{Z:δ->Prop}(hC:U≠C)(hB:U≠B)(hD:U≠D)(hM:∀ b,M b->∃ o,H b≈o/\Mv U o)(hZ:∀ b,M b->Z b)(s:∀ b o,¬ M b->H b≈o->H' b≈o){p k:δ}{ρ:List Row}{ns:List AN}(h:BI Z C B D H p k ρ ns):BI Z C B D H' p k ρ ns:=by
 obtain⟨dx,bo,mo,o,A3,BD,h1,h2,h3,h4,h5,h6⟩:=h.ex;exact⟨dx,bo,mo,o,A3,BD,s _ _ (Fj hM h1 (Vg hD)) h1,Bd.keepM hC hM s h2,s _ _ (Fj hM h3 RZ) h3,h4.imp λn v ⟨y,e,b⟩=>⟨y,e,DV.keepM hC hB hM s b⟩,s _ _ (Fj hM h5 Yb1) h5,h6.imp λn v ⟨l,e,b,z⟩=>⟨l,e,s _ _ (λy=>z (hZ l y)) b,z⟩⟩
end
def Bs(b lp tx:δ):List (Str×V):=[("now",.ref b),("past",.ref lp),("texts",.ref tx)]
def zO:¬ (("now":Str)="past"):=by rfl'
def ji:¬ (("now":Str)="texts"):=by rfl'
def jj:¬ (("past":Str)="texts"):=by rfl'
def Yby(b:δ)(v:V):A0 "past" v [("now",.ref b)]=([("now",.ref b),("past",v)]:List (Str×V)):=by
 unfold A0;rw[if_neg zO];rfl
def Ybx(b d:δ)(v:V):A0 "texts" v [("now",.ref b),("past",.ref d)]=([("now",.ref b),("past",.ref d),("texts",v)]:List (Str×V)):=by
 unfold A0;rw[if_neg ji];unfold A0;rw[if_neg jj];rfl
def Ybw(b b' lp tx:δ):A0 "now" (.ref b') (Bs b lp tx)=Bs b' lp tx:=by
 unfold Bs A0;rw[if_pos rfl]
def iQ(b lp tx MJ:δ):A0 "texts" (.ref MJ) (Bs b lp tx)=Bs b lp MJ:=by
 unfold Bs A0;rw[if_neg ji];unfold A0;rw[if_neg jj];unfold A0;rw[if_pos rfl]
def Rp(b lp tx:δ):(Bs b lp tx).lookup ("now":Str)≈(.ref b):=by
 unfold Bs;rw[List.lookup_cons_self]
def V6(b lp tx:δ):(Bs b lp tx).lookup ("past":Str)≈(.ref lp):=by
 unfold Bs;rw[CQ,show(("past":Str) == "now")=false from by rfl',List.lookup_cons_self]
def V7(b lp tx:δ):(Bs b lp tx).lookup ("texts":Str)≈(.ref tx):=by
 unfold Bs;rw[CQ,show(("texts":Str) == "now")=false from by rfl',CQ,show(("texts":Str) == "past")=false from by rfl',List.lookup_cons_self]
def R4(b lp tx:δ){x:Str}(h1:(x == ("now":Str))=false)(h2:(x == ("past":Str))=false)(h3:(x == ("texts":Str))=false):(Bs b lp tx).lookup x=none:=by
 unfold Bs;rw[CQ,h1,CQ,h2,CQ,h3];rfl
def dQ(b lp tx:δ):(Bs b lp tx).lookup ("move":Str)=none:=R4 b lp tx 0.7 0.7 0.7
def yF(b lp tx:δ):(Bs b lp tx).lookup ("back":Str)=none:=R4 b lp tx 0.7 0.7 0.7
def WQ(b lp tx:δ):(Bs b lp tx).lookup ("say":Str)=none:=R4 b lp tx 0.7 0.7 0.7
structure K0(K:Fg)(U:δ):Prop where
 cl:Eh K U
 nN:EK K U "now"
 nP:EK K U "past"
 nT:EK K U "texts"
structure FN(U:δ)(H:Hp)(p b lp tx:δ)(vs:LV):Prop where
 ex:∃(dx:δ),H p≈(.ins U dx (Bs b lp tx))/\H lp≈(.lst vs)/\H tx≈(.dT [])
def FN.mono{U:δ}{H H':Hp}{p b lp tx:δ}{vs:LV}(h:FN U H p b lp tx vs)(s:AA H H'):FN U H' p b lp tx vs:=by
 obtain⟨dx,h1,h2,h3⟩:=h.ex;exact⟨dx,s _ _ h1,s _ _ h2,s _ _ h3⟩
def gF{H:Hp}{a:δ}{o o':HO}(h:H a≈o):upd (upd H a o') a o=H:=funext λc=>by
 by_cases e:c=a
 ·rw[e,uS,h]
 ·rw[AD e,AD e]
def Fl:List Row:=[("thing",[])]
def Xu:Ak Fl:=⟨Q,Q,(λr hr=>by rw[Yc.mp hr];rfl'),by rfl',(λr hr=>by rw[Yc.mp hr];exact BC _),(λr hr u hu=>by rw[Yc.mp hr]at hu;cases hu),(λr hr=>by rw[Yc.mp hr];exact .nil),(λ_=>0),(λr hr u hu=>by rw[Yc.mp hr]at hu;cases hu)⟩
def i9:B9 Fl []:=⟨BC _,(λn hn=>nomatch hn),.nil⟩
inductive WI(C B D U:δ)(vs:LV)(H:Hp)(Q:VK)(AJ:XK):Prop
 | mk:∀(p dx:δ),vs=[.ref p]->H p≈(.ins U dx [])->(∀ b k lp tx H',H lp=none->H tx=none->(∀ c o,c≠p->H c≈o->H' c≈o)->FN U H' p b lp tx []->BI (λb=>∃ o,H b≈o) C B D H' b k Fl []->Q .non H')->WI C B D U vs H Q AJ
inductive Rk(U:δ)(vs:LV)(H:Hp)(Q:VK)(AJ:XK):Prop
 | mk:∀(p b lp tx b2:δ) (us:LV),vs=[.ref p,.ref b2]->FN U H p b lp tx us->(∀ l t H',H l=none->H t=none->(∀ c o,c≠p->H c≈o->H' c≈o)->FN U H' p b2 lp t us->H' l≈(.lst [.str "ok"])->Q (.ref l) H')->Rk U vs H Q AJ
def Xr(U:δ)(Ds:Nat->δ)(H:Hp)(p lp:δ)(us:LV)(Q:VK)(E:XK):Prop :=
 (us=[]/\∀ H',AA H H'->E (.ref (Ds 14)) none H')\/∃ D8 b0,us=D8++[.ref b0]/\∀ l t H',H l=none->H t=none->(∀ c o,c≠p->c≠lp->H c≈o->H' c≈o)->FN U H' p b0 lp t D8->H' l≈(.lst [.str "ok"])->Q (.ref l) H'
inductive Vq(U:δ)(Ds:Nat->δ)(vs:LV)(H:Hp)(Q:VK)(E:XK):Prop
 | mk:∀(p b lp tx:δ) (us:LV),vs=[.ref p]->FN U H p b lp tx us->Xr U Ds H p lp us Q E->Vq U Ds vs H Q E
def zc(C B D U:δ)(H:Hp)(p b lp:δ)(us:LV)(x:Str)(ws:LS)(Q:VK):Prop :=
 ∃(k:δ) (ρ:List Row) (ns:List AN) (c:A1),ws=Ay c/\x≠"back"/\Fp C B D H b k ρ ns/\Ak ρ/\B9 ρ ns/\Ge c/\Ig ρ ns c/\↑us<=1000 /\
  ∀ b2 k2 l t H',H l=none->H t=none->(∀ c o,c≠p->c≠lp->H c≈o->H' c≈o)->FN U H' p b2 lp t (us++[.ref b])->BI (λb=>∃ o,H b≈o) C B D H' b2 k2 (IX ρ c) (Hg ns c)->H' l≈(.lst [.str "ok"])->Q (.ref l) H'
def zd(C B D:δ)(H:Hp)(b:δ)(x:Str)(Q:VK):Prop :=
 x="show"/\∃(k:δ) (ρ:List Row) (ns:List AN),Fp C B D H b k ρ ns/\Ak ρ/\B9 ρ ns/\∀ l H',H l=none->AA H H'->H' l≈(.lst ((K6 ρ ns).map V.str))->Q (.ref l) H'
def zi:Aa ["self"] ["self"] (AL Xl):=by nofun
def yU(F:BR K "__init__" "Desk.__init__" Xl f fd)(TU:K0 K U)(hC:U≠C)(hB:U≠B)(hD:U≠D)
  (M:Mk K C fI) (mgC:mg "Kinds"≈(.ref C)) (bI:Bz K fdI ["self","rows"] []) (GI:⋯ 4 fI fdI ["self","rows"] (Mo K C))
  (MD:Mk K D fKI) (mgD:mg "Book"≈(.ref D)) (bD:Bz K fdKI JX []) (GD:⋯ 6 fKI fdKI JX (Mz K C B D)):⋯ 8 f fd ["self"] (WI C B D U):=by
 nomatch F.ok zi
 ·obtain⟨p,dx,rfl,_⟩:=h;rfl
 ·obtain⟨p,dx,rfl,hp,q⟩:=h;have N8:Ab 5 _:=hr.mono 0.1;have Kn:Ab 7 _:=hr.mono 0.1
  ac_nf
  refine⟨_,pS (FO 0.9 (Ir MD GD Kn rfl mgD bD .nil BF (pC (Ir M GI N8 rfl mgC bI .nil BF (pC (BH (pC (A5 (pC Ah (pC (A5 AB) AB))) AB)) AB)) (pC (A5 AB) AB))) rfl) (pS (FO 0.9 (BH AB) rfl) (pS (FO 0.9 R8 rfl) Af)),?_⟩
  exists let b:=AE _ a;let c:=AE _ b;AE _ c _ _ _
  refine⟨BC _,λte hte=>⟨sL (by show 2<=100000;decide),λt ht=>⟨sL (by show 1<=100000;decide),λl hl=>?_⟩⟩⟩;have s1:AA H (upd H te (.tup [])):=AI hte;have e1:(upd H te (.tup [])) te≈(.tup []):=uS;generalize upd H te (.tup [])=H1 at s1 e1 ht hl ⊢;have s2:AA H1 (upd H1 t (.tup [.str "thing",.ref te])):=AI ht;have e2:(upd H1 t (.tup [.str "thing",.ref te])) t≈(.tup [.str "thing",.ref te]):=uS;generalize upd H1 t (.tup [.str "thing",.ref te])=H2 at s2 e2 hl ⊢;have s3:AA H2 (upd H2 l (.lst [.ref t])):=AI hl;have e3:(upd H2 l (.lst [.ref t])) l≈(.lst [.ref t]):=uS;generalize upd H2 l (.lst [.ref t])=H3 at s3 e3 ⊢;have BJ:=s1.trans (s2.trans s3);intro xb dxb nx ndx nex;refine qI (ρ:=Fl) nx ndx ⟨true,[.ref t],SqL.of e3,.cons ⟨t,te,rfl,AG.of (s3 _ _ e2),.inl (s3 _ _ (s2 _ _ e1))⟩ .nil⟩ Xu λH4 s4 kd=>?_;refine⟨BC _,λt4 N7=>?_⟩;have s5:AA H4 (upd H4 t4 (.tup [])):=AI N7;have e5:(upd H4 t4 (.tup [])) t4≈(.tup []):=uS;generalize upd H4 t4 (.tup [])=H5 at s5 e5 ⊢;have DZ:=BJ.trans (s4.trans s5);intro pb db nb ndb neb;refine O4 nb ndb (kd.mono s5) Xu ⟨false,[],AG.of e5,.nil⟩ i9 λH6 s6 bk=>?_;have Kf:=DZ.trans s6;have bk:=bk.sub (Z':=λb=>∃ o,H b≈o) λb z=>by
   obtain⟨o,e⟩:=z;exact⟨o,DZ _ _ e⟩
  refine⟨Z,p,U,dx,[],Y,Kf _ _ hp,TU.cl,TU.nN,(by show 0<1000;decide),?_⟩;have Kq:=Kf _ _ hp;refine⟨BC _,λlp hlp=>?_⟩;have lpp:lp≠p:=λz=>by rw[z,uS]at hlp;cases hlp
  have aJ:H6 lp=none:=by rw[AD lpp]at hlp;exact hlp
  have e7:(upd (upd H6 p (.ins U dx (A0 "now" (.ref pb) []))) lp (.lst [])) p≈(.ins U dx [("now",.ref pb)]):=by
   rw[AD (Yw lpp),uS];rfl
  have e8:(upd (upd H6 p (.ins U dx (A0 "now" (.ref pb) []))) lp (.lst [])) lp≈(.lst []):=uS;have k8:∀ b o,b≠p->H6 b≈o->(upd (upd H6 p (.ins U dx (A0 "now" (.ref pb) []))) lp (.lst [])) b≈o:=λb o hb e=>by rw[AD (AK e aJ),AD hb];exact e
  generalize upd (upd H6 p (.ins U dx (A0 "now" (.ref pb) []))) lp (.lst [])=H8 at e7 e8 k8 ⊢;refine⟨Z,p,U,dx,Z,e7,TU.cl,TU.nP,(by show 1<1000;decide),?_⟩;rw[Yby];intro tx htx;have txp:tx≠p:=λz=>by rw[z,uS]at htx;cases htx
  have Nl:H8 tx=none:=by rw[AD txp]at htx;exact htx
  have txl:tx≠lp:=λz=>by rw[z,e8]at Nl;cases Nl
  have e9:(upd (upd H8 p (.ins U dx [("now",.ref pb),("past",.ref lp)])) tx (.dT [])) p≈(.ins U dx [("now",.ref pb),("past",.ref lp)]):=by rw[AD (Yw txp),uS]
  refine⟨Z,p,U,dx,Z,e9,TU.cl,TU.nT,(by show 2<1000;decide),?_⟩;rw[Ybx];have kp:∀ b o,b≠p->H6 b≈o->(upd (upd (upd H8 p (.ins U dx [("now",.ref pb),("past",.ref lp)])) tx (.dT [])) p (.ins U dx [("now",.ref pb),("past",.ref lp),("texts",.ref tx)])) b≈o:=λb o hb e=>by
   have e':=k8 b o hb e;rw[AD hb,AD (AK e' Nl),AD hb];exact e'
  have lO:H6 tx=none:=X_.mpr λo e=>by rw[k8 _ _ txp e]at Nl;cases Nl
  refine q pb xb lp tx _ (Kf.free aJ) (Kf.free lO) (λc o hc e=>kp c o hc (Kf _ _ e)) ⟨dx,by rw[uS];rfl,by rw[AD lpp,AD (Yw txl),AD lpp];exact e8,by rw[AD txp,uS]⟩ ?_;exact BI.keepM (U:=U) (M:=λb=>b=p) hC hB hD (λb hb=>⟨.ins U dx [],by rw[hb];exact Kq,.inr (.inl ⟨_,Z⟩)⟩) (λb hb=>⟨.ins U dx [],by rw[hb];exact hp⟩) (λb o hb e=>kp b o hb e) bk
abbrev mI:LS:=["self","book","rows","moved","pair","before","after","asked"]
def kI:Aa mI ["self","book"] (AL Sq):=by nofun
def yV(F:BR K "move" "Desk.move" Sq f fd)(TU:K0 K U):⋯ 1 f fd ["self","book"] (Rk U):=by
 nomatch F.ok kI
 ·obtain⟨p,b,lp,tx,b2,us,rfl,_⟩:=h;rfl
 ·obtain⟨p,b,lp,tx,b2,us,rfl,dk,q⟩:=h;have nd:=kI.nd
  ac_nf
  refine'⟨_,pS (sE 2 nd (BH (pC Ah AB))) (pS (sE 3 nd R8) (pS (Bm Yx rfl (ft (Cm 0.9 rfl)) (DU rfl (gC (gE 4 nd) (gC (gE 5 nd) DX))) Bj)
   (fu (pS (FO 0.9 1.5 rfl) (pS (FO 0.9 (pv 3) rfl) (AF (AQ 1.6))))))),?_⟩
  exists let b:=AE _ a;let c:=AE _ b;AE _ c _ _ _
  obtain⟨dx,h1,h2,h3⟩:=dk.ex;refine⟨V,λl hl=>?_⟩;have s1:AA H (upd H l (.lst [.str "ok"])):=AI hl;have e1:(upd H l (.lst [.str "ok"])) l≈(.lst [.str "ok"]):=uS;generalize upd H l (.lst [.str "ok"])=H1 at s1 e1 ⊢;intro d hd;have s2:AA H1 (upd H1 d (.dT [])):=AI hd;have e2:(upd H1 d (.dT [])) d≈(.dT []):=uS;generalize upd H1 d (.dT [])=H2 at s2 e2 ⊢;have A8:=s1.trans s2;refine⟨Z,p,U,dx,_,Z,A8 _ _ h1,TU.cl,TU.nT,V7 _ _ _,tx,[],Y,.inl ⟨A8 _ _ h3,λob=>gW (λi σ H'=>H'=upd H2 tx (.frz ob (.dT []))/\σ=[↥(.ref p),↥(.ref b2),↥(.ref l),↥(.ref d),none,none,none,none]) ⟨Y,Y⟩ (λi σ H' _ z=>by rw[z.1];exact uS) (λi pr t c σ H' hi=>nomatch hi) ?_⟩⟩;rintro σ H' ⟨e,rfl⟩;have e:=e.symm;subst e;refine⟨tx,ob,[],uS,(λo' v e=>nomatch (h3.symm.trans (show H tx=_ from e))),?_⟩;rw[gF (A8 _ _ h3)];have pl:l≠p:=λz=>by rw[z,h1]at hl;cases hl
  have pd:d≠p:=λz=>by rw[z,s1 _ _ h1]at hd;cases hd
  have plp:lp≠p:=λz=>by rw[z,h1]at h2;cases h2
  refine⟨Z,Z,p,U,dx,Z,A8 _ _ h1,TU.cl,TU.nN,(by show 3<1000;decide),?_⟩;rw[Ybw];refine⟨Z,Z,p,U,dx,Z,uS,TU.cl,TU.nT,(by show 3<1000;decide),?_⟩;rw[iQ];refine⟨Z,q l d _ hl (s1.free hd) (λc o hc e=>by rw[AD hc,AD hc];exact A8 _ _ e) ⟨dx,uS,by rw[AD plp,AD plp];exact A8 _ _ h2,by rw[AD pd,AD pd];exact e2⟩ (by rw[AD pl,AD pl];exact s2 _ _ e1)⟩
abbrev iy(K:Fg)(U f:δ)(fd:FuncData):Prop:=Cw K U "move" "Desk.move" Sq ["self","book"] f fd
abbrev Yaa(K:Fg)(U f:δ)(fd:FuncData):Prop:=Cw K U "back" "Desk.back" So ["self"] f fd
abbrev mR:LS:=["self","book","kept","pair","text"]
def kY:Aa mR ["self"] (AL So):=by nofun
def yS{Ds:Nat->δ}(F:BR K "back" "Desk.back" So f fd)(TU:K0 K U)(Y6:ja K mg "NoRow" (Ds 14))(MM:iy K U fM fdM)(GM:BQ P w K mg base (Ct P w) 1 fM fdM ["self","book"] (Rk U)):BQ P w K mg base (Ct P w) 2 f fd ["self"] (Vq U Ds):=by
 nomatch F.ok1 kY
 ·obtain⟨p,b,lp,tx,us,rfl,_⟩:=h;rfl
 ·obtain⟨p,b,lp,tx,us,rfl,dk,be⟩:=h;have nd:=kY.nd;have Aq:Ab 1 _:=hr.mono 0.1
  ac_nf
  refine'⟨_,pS (Ag (Di (Zip (Cm 0.9 rfl) (λ_=>rfl))) (AF (yn (C:=Ds 14) Cs.of hr.hd Y6.ex Y6.ini 1.0 Y6.m (pC Ah AB))) Af)
   (pS (sE 1 nd (Vl EN PySem.F.slot_list_pop PySem.F.type_list_pop Ve (Cm 0.9 rfl)))
   (pS (sE 2 nd R8) (pS (Bm PassesOwn.leaving rfl (ft (Cm 0.9 rfl)) (DU rfl (gC (gE 3 nd) (gC (gE 4 nd) DX))) Bj)
   (fu (pS (FO 0.9 1.6 rfl) (AF (AQ (EL 0.9 TU.cl MM.me GM Aq MM.b .nil (Oa Cs.of) 2.3)))))))),?_⟩
  exists let b:=AE _ a;let c:=AE _ b;let e:=AE _ c;let f:=_;AE (By _ f _) e _ _ _
  obtain⟨dx,h1,h2,h3⟩:=dk.ex;refine⟨Z,p,U,dx,_,Z,h1,TU.cl,TU.nP,V6 _ _ _,_,.inl ⟨_,SqL.of h2,Y⟩,?_⟩
  rcases be with⟨rfl,ex⟩ | ⟨D8,b0,rfl,q⟩
  ·exact A4 ⟨V,ex H (AA.refl _)⟩
  have ne:(D8++[V.ref b0]).isEmpty=false:=by cases D8 <;> rfl
  rw[ne];have lpp:lp≠p:=λz=>by rw[z,h1]at h2;cases h2
  have txl:tx≠lp:=λz=>by rw[z,h2]at h3;cases h3
  refine AU ⟨Z,p,U,dx,_,Z,h1,TU.cl,TU.nP,V6 _ _ _,.inl ⟨Y,_,SqL.of h2⟩,lp,_,.ref b0,Y,Y,h2,by rw[Yo];simp,?_⟩;rw[List.dropLast_concat];have k1:∀ c o,c≠lp->H c≈o->(upd H lp (.lst D8)) c≈o:=λc o hc e=>by rw[AD hc];exact e
  have e1:(upd H lp (.lst D8)) lp≈(.lst D8):=uS;have f1:∀ c,(upd H lp (.lst D8)) c=none->H c=none:=λc e=>by
   have:c≠lp:=λz=>by rw[z,uS]at e;cases e
   rw[AD this]at e;exact e
  generalize upd H lp (.lst D8)=H1 at k1 e1 f1 ⊢;have ET:=k1 _ _ (Yw lpp) h1;have a_:=k1 _ _ txl h3;intro d hd;have s2:AA H1 (upd H1 d (.dT [])):=AI hd;have e2:(upd H1 d (.dT [])) d≈(.dT []):=uS;generalize upd H1 d (.dT [])=H2 at s2 e2 ⊢;refine⟨Z,p,U,dx,_,Z,s2 _ _ ET,TU.cl,TU.nT,V7 _ _ _,tx,[],Y,.inl ⟨s2 _ _ a_,λob=>gW (λi σ H'=>H'=upd H2 tx (.frz ob (.dT []))/\σ=[↥(.ref p),↥(.ref b0),↥(.ref d),none,none]) ⟨Y,Y⟩ (λi σ H' _ z=>by rw[z.1];exact uS) (λi pr t c σ H' hi=>nomatch hi) ?_⟩⟩;rintro σ H' ⟨e,rfl⟩;have e:=e.symm;subst e;refine⟨tx,ob,[],uS,(λo' v e=>nomatch (h3.symm.trans (show H tx=_ from e))),?_⟩;rw[gF (s2 _ _ a_)];have pd:d≠p:=λz=>by rw[z,ET]at hd;cases hd
  refine⟨Z,Z,p,U,dx,Z,s2 _ _ ET,TU.cl,TU.nT,(by show 3<1000;decide),?_⟩;rw[iQ];have e3:(upd H2 p (.ins U dx (Bs b lp d))) p≈(.ins U dx (Bs b lp d)):=uS;have k3:∀ c o,c≠p->H2 c≈o->(upd H2 p (.ins U dx (Bs b lp d))) c≈o:=λc o hc e=>by rw[AD hc];exact e
  have f3:∀ c,(upd H2 p (.ins U dx (Bs b lp d))) c=none->H2 c=none:=λc e=>by
   have:c≠p:=λz=>by rw[z,uS]at e;cases e
   rw[AD this]at e;exact e
  generalize upd H2 p (.ins U dx (Bs b lp d))=H3 at e3 k3 f3 ⊢;refine⟨Z,p,dx,Z,e3,dQ _ _ _,Z,p,b,lp,d,b0,D8,Y,⟨dx,e3,k3 _ _ lpp (s2 _ _ e1),k3 _ _ pd e2⟩,λl t H4 hl ht k4 oY Bx=>q l t H4 (f1 _ (s2.free (f3 _ hl))) (f1 _ (s2.free (f3 _ ht))) (λc o h1 h2 e=>k4 _ _ h1 (k3 _ _ h1 (s2 _ _ (k1 _ _ h2 e)))) oY Bx⟩
def Yf5:Aa ["book","words","board"] ["book","words"] (AL Ta):=by nofun
inductive WE(C B D:δ)(vs:LV)(H:Hp)(Q:VK)(AJ:XK):Prop
 | mk:∀(b a k:δ) (ρ:List Row) (ns:List AN),vs=[.ref b,.ref a]->EY H a ["show"]->Fp C B D H b k ρ ns->Ak ρ->B9 ρ ns->(∀ l H',H l=none->AA H H'->H' l≈(.lst ((K6 ρ ns).map V.str))->Q (.ref l) H')->WE C B D vs H Q AJ
def yO(F:Def K mg "asked_of_book" Ta ["book","words"] f fd)(DR:Def K mg "book_rows" NG ["book"] fR fdR)(GR:⋯ 3 fR fdR ["book"] (WH C B D)):⋯ 4 f fd ["book","words"] (WE C B D):=by
 nomatch F.fn.ok Yf5
 ·obtain⟨b,a,k,ρ,ns,rfl,_⟩:=h;rfl
 ·obtain⟨b,a,k,ρ,ns,rfl,hw,bk,g,gn,q⟩:=h
  ac_nf
  refine'⟨_,pS (Ag (An BP 2.6 Ah (Aj _)) (AF (AQ (AV DR GR hr (pC 0.9 AB)))) Af) Bj,?_⟩
  exists AE _ a _ _ _
  refine⟨_,rfl,a,_,_,_,rfl,rfl,SqL.of hw.at_,A_ (ws:=["show"]) (k:=0) rfl,rfl,_,rfl,?_⟩;rw[B5,Jb rfl];exact A4 ⟨_,rfl,b,k,ρ,ns,rfl,bk,g,gn,q⟩
def M3:∀ {c:A1},Ge c->Ep (Builtin.Str.glued " " (Ay c)) (Ay c)/\Gf (Ay c)=true/\ED (Ay c)=false
 | .kind x us,h=>by
  have r:=(ug (r:=(x,us)) h.1 h.2.1 h.2.2).1;rw[Wf]at r;refine⟨r,?_,?_⟩
  ·unfold Gf;rw[show J2 (Ay (.kind x us))=true from v7 (r:=(x,us)) h.1 h.2.2];rfl
  ·unfold ED;rw[show(Ay (.kind x us)).getD 0 ""="kind" from rfl,if_neg 0.7,if_neg 0.7,show decide (("kind":Str)∈q3)=false by rfl'];rfl
 | .tie x y,h=>by
  refine⟨(Om (t:=Builtin.Str.glued " " (Ay (.tie x y))) rfl (Gw _ _) (by show 3<=100;decide) λz hz=>?_).1,?_,?_⟩
  ·rcases Yk.mp hz with rfl | hz
   ·unfold Hn;rfl'
   rcases Yk.mp hz with rfl | hz
   ·exact Gs h.1
   ·rw[Yc.mp hz];exact Gs h.2
  ·unfold Gf;have e:LA (Ay (.tie x y))=true:=by
    unfold LA;rw[Jb (show↑(Ay (.tie x y))=3 from rfl),Jb (show(Ay (.tie x y)).getD 0 ""="tie" from rfl)];show(true&&(true&&(["tie",x,y]:LS).all AR))=true;rw[Lc,Lc,Lc,h.1,h.2,show AR "tie"=true by rfl'];rfl
   rw[e,show J2 (Ay (.tie x y))=false from v8 0.7 _];rfl
  ·unfold ED;rw[show(Ay (.tie x y)).getD 0 ""="tie" from rfl,if_neg 0.7,if_neg 0.7,show decide (("tie":Str)∈q3)=false by rfl'];rfl
 | .name x n,h=>by
  have r:=(uw (n:=(x,n,[])) h.1 h.2.1 h.2.2).1;rw[Wh]at r;obtain⟨a,b⟩:=Va h.2.1 h.2.2;refine⟨r,?_,?_⟩
  ·unfold Gf;have e:PN (Ay (.name x n))=true:=by
    show(decide (("name":Str)="name")&&(AR x&&decide (Hq n∈Hr)))=true;rw[Jb rfl,h.1,Jb a];rfl
   rw[e];simp
  ·unfold ED;rw[show(Ay (.name x n)).getD 0 ""="name" from rfl,if_neg 0.7,if_neg 0.7,show decide (("name":Str)∈q3)=false by rfl'];rfl
 | .deed x c m,h=>by
  have r:=(uy h.1 h.2.2.1 h.2.2.2.1 h.2.2.2.2).1;rw[WY]at r;obtain⟨a1,a2,a3,a4,a5⟩:=K2 x m c;refine⟨r,?_,?_⟩
  ·unfold Gf;have e:PM (Ay (.deed x c m))=true:=by
    unfold PM;rw[Ed,Ed,Ed];refine⟨Jb rfl,Jb (by show 5<=↑(dW x c m);rw[a4];have:=h.2.1;omega),Jb a5,?_⟩;show((x :: (c++(["gives",m]:LS))).all AR)=true;rw[C6];intro y hy
    rcases Yk.mp hy with rfl | hy
    ·exact h.1
    rcases Ym.mp hy with hy | hy
    ·exact h.2.2.2.1 y hy
    rcases Yk.mp hy with rfl | hy
    ·exact sX
    ·rw[Yc.mp hy];exact h.2.2.2.2
   rw[e];simp
  ·unfold ED;rw[show(Ay (.deed x c m)).getD 0 ""="deed" from rfl,if_neg 0.7,if_neg 0.7,show decide (("deed":Str)∈q3)=false by rfl'];rfl
def jO:∀ c:A1,¬ Bv c="run"/\¬ Bv c="ask"
 | .kind _ _=>(by rfl':¬ ("kind":Str)="run"/\¬ ("kind":Str)="ask")
 | .tie _ _=>(by rfl':¬ ("tie":Str)="run"/\¬ ("tie":Str)="ask")
 | .name _ _=>(by rfl':¬ ("name":Str)="run"/\¬ ("name":Str)="ask")
 | .deed _ _ _=>(by rfl':¬ ("deed":Str)="run"/\¬ ("deed":Str)="ask")
def R_:Ep "show" ["show"]:=⟨by rfl',Gw _ _,Q,by rfl',by rfl'⟩
def WU:Ep "back" ["back"]:=⟨by rfl',Gw _ _,Q,by rfl',by rfl'⟩
def KS:V->Str
 | .str x=>x
 | .int i=>Str.ofString (toString i)
 | _=>""
def Ff(θ:LN):Str:=Builtin.Str.glued " " ((Ii θ).map KS)
def Te(v:V):Prop:=(∃ x:Str,v=.str x/\↑x<=30)\/∃ n:Nat,v=.int (n:Int)/\n<=1000
inductive X3(vs:LV)(H:Hp)(Q:VK)(AJ:XK):Prop
 | mk:∀ v,vs=[v]->Te v->(∀ H',AA H H'->Q (.str (KS v)) H')->X3 vs H Q AJ
inductive X2(vs:LV)(H:Hp)(Q:VK)(AJ:XK):Prop
 | mk:∀(t:δ) (xs:LV),vs=[.ref t]->H t≈(.tup xs)->↑xs<=3->(∀ v∈xs,Te v)->(∀ H',AA H H'->Q (.str (Builtin.Str.glued " " (xs.map KS))) H')->X2 vs H Q AJ
def qD{X:Cx}:EG X (.type "str") (λxs H Q=>(∃ i,xs=[V.int i]/\i.natAbs.log2<1920/\Q (.str (toString i)) H)\/∃ x,xs=[V.str x]/\Q (.str x) H):=by
 intro π s σ H xs us Q I r h
 rcases h with⟨i,rfl,hz,q⟩ | ⟨x,rfl,q⟩
 ·obtain⟨u,rfl,t,rfl⟩:=Fm r;exact PySem.P.str_of_int hz ⟨.str _,H,I.tok _,⟨_,rfl⟩,q⟩
 ·obtain⟨u,rfl,t,rfl⟩:=Fm r;exact PySem.P.str_of_str ⟨.str x,H,I,⟨_,rfl⟩,q⟩
def cJ{n:Nat}(h:n<=1000):((n:Int)).natAbs.log2<1920:=by
 show n.log2<1920;have:n.log2<=n:=Nat.log2_le_self n;omega
def Ybd:Aa ["thing"] ["thing"] (AL TV):=by nofun
def t_(F:Def K mg "thing_text" TV ["thing"] f fd)(isi:mg "isinstance"=none)(tuple:mg "tuple"=none)(str:mg "str"=none):⋯ 1 f fd ["thing"] X3:=by
 nomatch F.fn.ok Ybd
 ·obtain⟨v,rfl,_⟩:=h;rfl
 ·obtain⟨v,rfl,hv,q⟩:=h
  ac_nf
  refine'⟨_,AF (AQ (Wt (C0 (A9 xh 1.0 isi YA (pC 0.9 (pC (cW (v:=.ty "tuple") 1.0 tuple JM rfl) AB)))) dh (C4 qD 1.0 str Tv (pC 0.9 AB)))),?_⟩
  rcases hv with⟨x,rfl,hx⟩ | ⟨n,rfl,hn⟩
  ·exact⟨_,rfl,_,_,_,_,rfl,.str _,rfl,_,rfl,AU ⟨_,rfl,.inr ⟨x,rfl,q H (AA.refl _)⟩⟩⟩
  ·exact⟨_,rfl,_,_,_,_,rfl,.int _,rfl,_,rfl,AU ⟨_,rfl,.inl ⟨_,rfl,cJ hn,q H (AA.refl _)⟩⟩⟩
def Ybf:Aa ["things"] ["things"] (AL Pb):=by nofun
def Yb7:(["thing"]:LS).Nodup:=by rfl'
def vX{v:V}(h:Te v):↑(KS v)<=1002:=by
 rcases h with⟨x,rfl,hx⟩ | ⟨n,rfl,hn⟩
 ·exact BL hx 0.1
 ·have:=PyProof.Rows.len_str_of_int (n:Int);show↑(Str.ofString (toString (n:Int)))<=1002;omega
def sf(F:Def K mg "row_text" Pb ["things"] f fd)(DT:Def K mg "thing_text" TV ["thing"] fT fdT)(GT:⋯ 1 fT fdT ["thing"] X3):⋯ 2 f fd ["things"] X2:=by
 nomatch F.fn.ok Ybf
 ·obtain⟨t,xs,rfl,_⟩:=h;rfl
 ·obtain⟨t,xs,rfl,ht,h3,hp,q⟩:=h
  ac_nf
  refine'⟨_,AF (AQ (DQ NS PySem.F.slot_str_join PySem.F.type_str_join WA Ah (pC ?eC AB))),?_⟩
  case eC=>exact(Ea ["thing"] [] [] (λ_=>CC (osc:=AL Pb) (on:=["things"]) 0.7 rfl rfl rfl) (Gk 0.9) (λC s H fp=>CF (i:=0) Yb7 rfl 1.2 1.3) 2.9 (λC s H fp=>AV DT GT hr (pC 0.9 AB)))
  refine⟨Y,Z,?_⟩;refine⟨t,Y,⟨_,AG.of ht⟩,LB (Gr (xs:=xs)) (sL 0.0) (λ_=>true) (λv=>.str (KS v)) (λH' s'=>AG.of (s' _ _ ht)) (λx H' R s' hx hR=>hR H' (AA.refl _)) ?_ ?_⟩
  ·intro x H' R s' hx _ hR;exact⟨Z,x,Y,hp x hx,λH2 s2=>hR H2 s2⟩
  ·intro D H' hD s' hl;rw[JG.mpr 0.2]at hl;have e:xs.map (λv=>V.str (KS v))=(xs.map KS).map V.str:=by rw[C5];rfl
   rw[e]at hl;have e1:(" ":Str).length=1:=by rfl'
   refine⟨_,D,_,1002,Y,Y,hl,λy hy=>?_,by rw[e1,Ya];omega,q H' s'⟩;obtain⟨v,hv,rfl⟩:=Yg.mp hy;exact vX (hp v hv)
inductive Vp(C B D:δ)(vs:LV)(H:Hp)(Q:VK)(AJ:XK):Prop
 | mk:∀(b k t:δ) (ρ:List Row) (ns:List AN) (n:AN) (xs:LS),vs=[.ref b,.str n.1,.ref t]->Fp C B D H b k ρ ns->Ak ρ->B9 ρ ns->n∈ns->H t≈(.tup (xs.map V.str))->Ec ρ n.2.1 xs->(∀ H',AA H H'->Q (.str (Ff (EJ ρ (n.2.2.map 0.8) xs))) H')->Vp C B D vs H Q AJ
def Ybm:Aa ["book","word","call"] ["book","word","call"] (AL Sf):=by nofun
def sv{θ:LN}(h:∀ k∈θ,k<=1000):↑(Ii θ)<=3/\∀ v∈Ii θ,Te v:=by
 match θ,h with
 | [],_=>exact⟨Q,λv hv=>by rw[Yc.mp hv];exact .inl ⟨Z,by rfl'⟩⟩
 | [k],h=>exact⟨by show 2<=3;decide,λv hv=>by
   rcases Yk.mp hv with rfl | hv
   ·exact .inl ⟨Z,by rfl'⟩
   ·rw[Yc.mp hv];exact .inr ⟨k,Y,h k (Yc.mpr rfl)⟩⟩
 | k :: j :: r,h=>exact⟨by show 3<=3;decide,λv hv=>by
   rcases Yk.mp hv with rfl | hv
   ·exact .inl ⟨Z,by rfl'⟩
   rcases Yk.mp hv with rfl | hv
   ·exact .inr ⟨k,Y,h k Yj⟩
   ·rw[Yc.mp hv];exact .inr ⟨j,Y,h j (Yq _ Yj)⟩⟩
def rX(F:Def K mg "ask_text" Sf ["book","word","call"] f fd)(DR:Def K mg "row_text" Pb ["things"] fR fdR)(GR:⋯ 2 fR fdR ["things"] X2)(DT:Def K mg "told" Rg ["board","call"] fT fdT)(GT:⋯ 8 fT fdT ["board","call"] (Vv C B))
  (TD:Hw K D) (MB:vy K D fK fdK) (GB:⋯ 2 fK fdK ["self","word"] (Wo C B D)):⋯ 9 f fd ["book","word","call"] (Vp C B D):=by
 nomatch F.fn.ok Ybm
 ·obtain⟨b,k,t,ρ,ns,n,xs,rfl,_⟩:=h;rfl
 ·obtain⟨b,k,t,ρ,ns,n,xs,rfl,bk,g,gn,hn,ht,gc,q⟩:=h;have Bf:Ab 2 _:=hr.mono 0.1;have Uz:Ab 8 _:=hr.mono 0.1
  ac_nf
  refine'⟨_,AF (AQ (AV DR GR Bf (pC (AV DT GT Uz (pC (EL 0.9 TD.cl MB.me GB Bf MB.b .nil BF 2.3) 2.5)) AB))),?_⟩;obtain⟨dx,bo,mo,o,A3,BD,h1,_⟩:=bk.ex;have Bg:=gn.each n hn;refine⟨Z,b,dx,Z,h1,qL _ _ _,Z,b,k,ρ,ns,n,Y,bk,gn.nd,hn,λy bd=>?_⟩;refine⟨Z,y,k,t,ρ,n.2.1,n.2.2.map 0.8,xs,Y,bd,g,Bg.deeds,Bg.four,ht,gc,λt' H1 Ma s1 Jo=>?_⟩;obtain⟨p1,p2⟩:=sv (θ:=EJ ρ (n.2.2.map 0.8) xs) λk hk=>by
   have:=O2 k (IL.mp hk).1;have:=Bg.deeds.few;omega
  exact⟨t',Z,Jo,p1,p2,λH2 s2=>q H2 (s1.trans s2)⟩
abbrev Yc0(K:Fg)(U f:δ)(fd:FuncData):Prop:=Cw K U "ask" "Desk.ask" Sd ["self","word","call"] f fd
def wH(b lp tx:δ):(Bs b lp tx).lookup ("ask":Str)=none:=R4 b lp tx 0.7 0.7 0.7
def Pp(x:Str)(c:LS):Ef:=(Sum.inr x,FE c)
def YR(P:ω)(w:World)(C B D:δ)(H:Hp)(b tx:δ)(x:Str)(call:LS)(R:Str->Hp->Prop):Prop :=
 ∃(k:δ) (ρ:List Row) (ns:List AN) (n:AN) (xs:List (Ef×δ×V)),x=n.1/\Fp C B D H b k ρ ns/\Ak ρ/\B9 ρ ns/\n∈ns/\Ec ρ n.2.1 call/\Hl P w H tx xs/\(∀ y∈xs,y.1.1≠Sum.inr n.1)/\↑xs<=8 /\
  ∀ kb H',(∀ c o,c≠tx->H c≈o->H' c≈o)->Hl P w H' tx (xs++[(Pp n.1 call,kb,.str (Ff (EJ ρ (n.2.2.map 0.8) call)))])->R (Ff (EJ ρ (n.2.2.map 0.8) call)) H'
inductive Vr(P:ω)(w:World)(C B D U:δ)(vs:LV)(H:Hp)(Q:VK)(AJ:XK):Prop
 | mk:∀(p b lp dx tx t:δ) (x:Str) (call:LS),vs=[.ref p,.str x,.ref t]->H p≈(.ins U dx (Bs b lp tx))->H t≈(.tup (call.map V.str))->(YR P w C B D H b tx x call λT H'=>Q (.str T) H')->Vr P w C B D U vs H Q AJ
inductive Mj(P:ω)(w:World)(C B D U:δ)(Ds:Nat->δ)(vs:LV)(H:Hp)(Q:VK)(E:XK):Prop
 | mk:∀(p b lp dx tx:δ) (x:Str) (ws:LS),vs=[.ref p,.str x]->H p≈(.ins U dx (Bs b lp tx))->Ep x ws->((x="back"/\∃ us,FN U H p b lp tx us/\Xr U Ds H p lp us Q E)\/zd C B D H b x Q\/(∃ us,FN U H p b lp tx us/\zc C B D U H p b lp us x ws Q)\/∃(y:Str) (call:LS),ws=("ask":Str):: y :: call/\(AR y=true/\call≠[]/\∀ z∈call,AR z=true)/\x≠"back"/\YR P w C B D H b tx y call λT H'=>∀ l B1,H' l=none->AA H' B1->B1 l≈(.lst [.str T])->Q (.ref l) B1)->Mj P w C B D U Ds vs H Q E
def j0:Aa ["self","word","call","text"] ["self","word","call"] (AL Sd):=by nofun
def wL(F:BR K "ask" "Desk.ask" Sd f fd)(TU:K0 K U)(DT:Def K mg "ask_text" Sf ["book","word","call"] fT fdT)(GT:⋯ 9 fT fdT ["book","word","call"] (Vp C B D)):⋯ 10 f fd ["self","word","call"] (Vr P w C B D U):=by
 nomatch F.ok j0
 ·obtain⟨p,b,lp,dx,tx,t,x,call,rfl,_⟩:=h;rfl
 ·obtain⟨p,b,lp,dx,tx,t,x,call,rfl,h1,ht,k,ρ,ns,n,xs,rfl,bk,g,gn,hn,gc,dp,no,l8,q⟩:=h;have nd:=j0.nd;have MZ:_ + 2<cLine:=QA (Nat.add_le_add_left 0.1 _) (jl hr)
  ac_nf
  refine'⟨_,(pS (sE 3 nd (AV DT GT hr (pC (Cm 0.9 rfl) (pC 1.5 2.5))))
   (pS (wm MZ (Cm 0.9 rfl) (A5 (pC 1.5 2.5)) (pv 3) rfl)
   (AF (AQ (pv 3))))),?_⟩
  exists let b:=AE _ a;AE _ b _ _ _
  refine⟨_,rfl,p,U,dx,_,_,rfl,h1,TU.cl,TU.nN,Rp _ _ _,_,rfl,_,rfl,b,k,t,ρ,ns,n,call,rfl,bk,g,gn,hn,ht,gc,λH1 s1=>?_⟩;have ET:=s1 _ _ h1;refine⟨_,rfl,_,rfl,p,U,dx,_,_,rfl,ET,TU.cl,TU.nT,V7 _ _ _,_,rfl,_,rfl,sL (by show 2<=100000;decide),λkb hkb=>?_⟩;have s2:AA H1 (upd H1 kb (.tup [.str n.1,.ref t])):=AI hkb;have e2:(upd H1 kb (.tup [.str n.1,.ref t])) kb≈(.tup [.str n.1,.ref t]):=uS;generalize upd H1 kb (.tup [.str n.1,.ref t])=H2 at s2 e2 ⊢;have A8:=s1.trans s2;have d2:=dp.mono A8;have pk:LW H2 (Pp n.1 call) kb:=⟨t,e2,by show H2 t≈(.tup ((FE call).map kV));rw[dO];exact A8 _ _ ht⟩;refine⟨tx,kb,xs,Pp n.1 call,rfl,rfl,d2,pk,λy hy z=>no y hy (congrArg Prod.fst z),B0 0.0,?_⟩;have k3:∀ c o,c≠tx->H2 c≈o->(upd H2 tx (C7 P w tx (xs++[(Pp n.1 call,kb,V.str (Ff (EJ ρ (n.2.2.map 0.8) call)))]))) c≈o:=λc o hc e=>by rw[AD hc];exact e
  have tk:∀ c us,H2 c≈(.tup us)->(upd H2 tx (C7 P w tx (xs++[(Pp n.1 call,kb,V.str (Ff (EJ ρ (n.2.2.map 0.8) call)))]))) c≈(.tup us):=λc us e=>k3 c _ (λz=>by rw[z,d2.1]at e;cases e) e;refine⟨Z,q kb _ (λc o hc e=>k3 c o hc (A8 _ _ e)) ⟨uS,λy hy=>?_⟩⟩
  rcases Ym.mp hy with hy | hy
  ·exact(d2.2 y hy).keep tk
  ·rw[Yc.mp hy];exact pk.keep tk
def ux{y:Str}{call:LS}(h:AR y=true/\call≠[]/\∀ z∈call,AR z=true):ED (("ask":Str):: y :: call)=true:=by
 obtain⟨h1,h2,h3⟩:=h;unfold ED;rw[show((("ask":Str):: y :: call).getD 0 "")="ask" from rfl,if_neg 0.7,if_neg 0.7,show decide (("ask":Str)∈q3)=true by rfl',DY,Ed];refine⟨Jb ?_,C6.mpr λz hz=>?_⟩
 ·have:1<=↑call:=LY.mpr h2;show 2<↑call + 1 + 1;omega
 ·rcases Yk.mp hz with rfl | hz
  ·rfl'
  rcases Yk.mp hz with rfl | hz
  ·exact h1
  ·exact h3 z hz
abbrev mF:LS:=["self","row","words","greater"]
def kL:Aa mF ["self","row"] (AL PZ):=by nofun
def wN{Ds:Nat->δ}(F:BR K "say" "Desk.say" PZ f fd)(TU:K0 K U)(hC:U≠C)(hB:U≠B)(hD:U≠D)
  (DC:Def K mg "check_row" Sw ["row"] fC fdC) (GC:BQ P w K mg base (Ct P w) 5 fC fdC ["row"] Wn) (DA:Def K mg "is_asking" Pc ["words"] fA fdA) (GA:BQ P w K mg base (Ct P w) 3 fA fdA ["words"] (KA ED))
  (DW:Def K mg "with_row" Si ["book","words"] fW fdW) (GW:BQ P w K mg base (Ct P w) 9 fW fdW ["book","words"] (X5 C B D)) (DAB:Def K mg "asked_of_book" Ta ["book","words"] fAB fdAB) (GAB:BQ P w K mg base (Ct P w) 4 fAB fdAB ["book","words"] (WE C B D))
  (MM:iy K U fM fdM) (GM:BQ P w K mg base (Ct P w) 1 fM fdM ["self","book"] (Rk U)) (MB:Yaa K U fB fdB) (GB:BQ P w K mg base (Ct P w) 2 fB fdB ["self"] (Vq U Ds))
  (MK:Yc0 K U fK fdK) (GK:BQ P w K mg base (Ct P w) 10 fK fdK ["self","word","call"] (Vr P w C B D U)) (tuple:mg "tuple"=none):BQ P w K mg base (Ct P w) 11 f fd ["self","row"] (Mj P w C B D U Ds):=by
 nomatch F.ok1 kL
 ·obtain⟨p,b,lp,dx,tx,x,ws,rfl,_⟩:=h;rfl
 ·obtain⟨p,b,lp,dx,tx,x,ws,rfl,g1,rt,cs⟩:=h;have nd:=kL.nd;have Aq:Ab 1 _:=hr.mono 0.1;have Bf:Ab 2 _:=hr.mono 0.1;have Gb:Ab 3 _:=hr.mono 0.1;have nL:Ab 4 _:=hr.mono 0.1;have N8:Ab 5 _:=hr.mono 0.1;have RC:Ab 9 _:=hr.mono 0.1;have ZR:Ab 10 _:=hr.mono 0.1
  ac_nf
  refine'⟨_,(pS (B8 (Th Cs.of DC GC N8 2.3))
   (pS (sE 2 nd (DQ NS PySem.F.slot_str_split PySem.F.type_str_split Wg 1.5 (pC Ah AB)))
   (pS (Ag (An BP 1.5 Ah (Aj _)) (AF (AQ (D0 0.9 TU.cl MB.me GB Bf MB.b .nil (Oa Cs.of)))) Af)
   (pS (Ag (An BP 2.2 Ah (Aj _)) Bj Af)
   (pS (Ag (An BP 2.2 Ah (Aj _)) (AF (AQ (BH (pC (EL 0.9 TU.cl MK.me GK ZR MK.b .nil (Oa Cs.of) (pC 2.2 (pC (C4 LI 1.0 tuple JM (pC (Gq (r:=Ht K) Jz 1.6 (Fo AH) Iu) AB)) AB))) AB)))) Af)
   (pS (Ag (C0 (Th Cs.of DA GA Gb 2.5)) (AF (AQ (Th Cs.of DAB GAB nL (pC (Cm 0.9 rfl) 2.5)))) Af)
   (pS (sE 3 nd (Th Cs.of DW GW RC (pC (Cm 0.9 rfl) 2.5)))
   (pS (B8 (DQ EN Ft Fq FR (Cm 0.9 rfl) (pC (Cm 0.9 rfl) AB)))
   (AF (AQ (EL 0.9 TU.cl MM.me GM Aq MM.b .nil (Oa Cs.of) (pC (pv 3) AB)))))))))))),?_⟩
  exists let b:=AE _ a;let c:=AE _ b;let e:=_;let f:=AE (By _ e _) c;let g:=_;let h:=AE (By _ g _) f;let i:=AE _ h;let j:=_;let k:=AE (By _ j _) i;let l:=AE _ k;AE _ l _ _ _
  have okr:x="back"\/Gf ws=true\/ED ws=true:=by
   rcases cs with⟨e,_⟩ | ⟨e,_⟩ | ⟨us,_,k,ρ,ns,c,e,_,_,_,_,fc,_⟩ | ⟨y,call,e,hw,_⟩
   ·exact .inl e
   ·refine .inr (.inr ?_);have:ws=(["show"]:LS):=by rw[<- rt.sp,e];exact R_.sp
    rw[this];unfold ED;rw[if_pos 0.7];rfl
   ·rw[e];exact .inr (.inl (M3 fc).2.1)
   ·rw[e];exact .inr (.inr (ux hw))
  refine⟨Z,x,ws,Y,rt,okr,λH1 s1=>?_⟩;refine⟨Z,Y,x," ",Y,Y,X7,sL (by have:=rt.len;omega),by rw[rt.sp];have:=rt.few;exact sL 0.0,λpw hpw=>?_⟩;rw[rt.sp];have Cu:AA H1 (upd H1 pw (.lst 1.1)):=AI hpw;have e2:(upd H1 pw (.lst 1.1)) pw≈(.lst 1.1):=uS;generalize upd H1 pw (.lst 1.1)=H2 at Cu e2 ⊢;have s2:=s1.trans Cu;have hw:EY H2 pw ws:=⟨e2,rt.few,rt.sh⟩;have h1:=s2 _ _ g1;refine⟨Z,Y,Z,?_⟩;rw[B5];by_cases eb:x="back"
  ·rw[Jb eb];obtain⟨us,dk,be⟩:∃ us,FN U H p b lp tx us/\Xr U Ds H p lp us Q E:=by
    rcases cs with⟨_,h⟩ | ⟨e,_⟩ | ⟨us,_,k,ρ,ns,c,_,e,_⟩ | ⟨_,_,_,_,e,_⟩
    ·exact h
    ·rw[eb]at e;exact absurd e 0.7
    ·exact absurd eb e
    ·exact absurd eb e
   refine A4 ⟨Z,p,dx,Z,h1,yF _ _ _,p,b,lp,tx,us,Y,dk.mono s2,?_⟩
   rcases be with⟨z,q⟩ | ⟨D8,b0,z,q⟩
   ·exact .inl ⟨z,λH' s'=>q H' (s2.trans s')⟩
   ·exact .inr ⟨D8,b0,z,λl t H' hl ht k VO Fe=>q l t H' (s2.free hl) (s2.free ht) (λc o h1 h2 e=>k c o h1 h2 (s2 _ _ e)) VO Fe⟩
  rw[Jc eb];obtain⟨y,hy,ey⟩:=Xv rt.ne;have hl:=SqL.of (K:=K) hw.at_;have ny:¬ y="run"/\(y="ask"->∃(z:Str) (call:LS),ws=("ask":Str):: z :: call/\YR P w C B D H b tx z call λT H'=>∀ l B1,H' l=none->AA H' B1->B1 l≈(.lst [.str T])->Q (.ref l) B1):=by
   rcases cs with⟨e,_⟩ | ⟨e,_⟩ | ⟨us,_,k,ρ,ns,c,e,_⟩ | ⟨z,call,e,_,_,q⟩
   ·exact absurd e eb
   ·have:ws=(["show"]:LS):=by rw[<- rt.sp,e];exact R_.sp
    rw[this]at hy;cases hy;exact⟨by rfl',λz=>absurd z 0.7⟩
   ·rw[e,DS]at hy;cases hy;exact⟨(jO c).1,λz=>absurd z (jO c).2⟩
   ·rw[e]at hy;cases hy;exact⟨by rfl',λ_=>⟨z,call,e,q⟩⟩
  refine AU ⟨Z,pw,G,Z,Y,hl,A_ (k:=0) hy,Y,Z,?_⟩;rw[B5,Jc ny.1];refine AU ⟨Z,pw,G,Z,Y,hl,A_ (k:=0) hy,Y,Z,?_⟩;rw[B5];by_cases ea:y="ask"
  ·rw[Jb ea];obtain⟨z,call,e,q⟩:=ny.2 ea;subst e;have Mf:BO ((("ask":Str):: z :: call).map V.str) (↥2) none=call.map V.str:=PH (("ask":Str):: z :: call) 2;refine A4 ⟨Z,p,dx,Z,h1,wH _ _ _,Z,pw,G,Z,Y,hl,A_ (k:=1) rfl,Z,Z,pw,Z,hl,λp3 CT=>?_⟩;rw[Mf];have s3:AA H2 (upd H2 p3 (.lst (call.map V.str))):=AI CT;have h3:(upd H2 p3 (.lst (call.map V.str))) p3≈(.lst (call.map V.str)):=uS;generalize upd H2 p3 (.lst (call.map V.str))=H3 at s3 h3;refine⟨p3,Z,.inl ⟨SqL.of h3,λc hc=>?_⟩⟩;have s4:AA H3 (upd H3 c (.tup (call.map V.str))):=AI hc;have h4:(upd H3 c (.tup (call.map V.str))) c≈(.tup (call.map V.str)):=uS;generalize upd H3 c (.tup (call.map V.str))=H4 at s4 h4 ⊢;have Bo:=s2.trans (s3.trans s4);obtain⟨k,ρ,ns,n,xs,en,bk,g,gn,hn,gc,dp,no,l8,q⟩:=q;refine⟨p,b,lp,dx,tx,c,z,call,Y,Bo _ _ g1,h4,k,ρ,ns,n,xs,en,bk.mono Bo,g,gn,hn,gc,dp.mono Bo,no,l8,λkb H5 k5 d5=>⟨V,λl hl=>?_⟩⟩;exact q kb H5 (λc o hc e=>k5 c o hc (Bo _ _ e)) d5 l _ hl (AI hl) uS
  rw[Jc ea];refine AU ⟨Z,pw,ws,Y,hw,rt.ne,λH3 s3=>⟨Z,?_⟩⟩;have BJ:=s2.trans s3
  rcases cs with⟨e,_⟩ | ⟨e,k,ρ,ns,bk,g,gn,q⟩ | ⟨us,dk,k,ρ,ns,c,e,_,bk,g,gn,fc,gc,ul,q⟩ | ⟨z,call,e,_⟩
  ·exact absurd e eb
  ·have ew:ws=(["show"]:LS):=by rw[<- rt.sp,e];exact R_.sp
   subst ew;rw[show ED (["show"]:LS)=true by unfold ED;rw[if_pos 0.7];rfl];exact A4 ⟨Z,p,U,dx,_,Z,s3 _ _ h1,TU.cl,TU.nN,Rp _ _ _,Z,b,pw,k,ρ,ns,Y,hw.mono s3,bk.mono BJ,g,gn,λl H' hl s' Fe=>q l H' (BJ.free hl) (BJ.trans s') Fe⟩
  rotate_left
  ·rw[e]at hy;cases hy;exact absurd rfl ea
  subst e;rw[(M3 fc).2.2];obtain⟨DB,bG,g2,g3⟩:=dk.ex;have edx:DB=dx:=by
   rw[g1]at bG;injection bG with z;injection z with _ z1 z2;exact z1.symm
  subst edx;have h2:=s2 _ _ g2;have h3:=s2 _ _ g3;refine AU ⟨Z,p,U,DB,_,Z,s3 _ _ h1,TU.cl,TU.nN,Rp _ _ _,Z,b,k,pw,ρ,ns,c,Y,bk.mono BJ,g,gn,fc,hw.mono s3,gc,λb2 k2 H4 s4 Ib=>?_⟩;have Ar:=s3.trans s4;have Bo:=BJ.trans s4;have OO:=Ar _ _ h1;have RQ:=Ar _ _ h2;have oI:=Ar _ _ h3;have lpp:lp≠p:=λz=>by rw[z,h1]at h2;cases h2
  have txl:tx≠lp:=λz=>by rw[z,h2]at h3;cases h3
  refine⟨Z,p,U,DB,_,Z,OO,TU.cl,TU.nP,V6 _ _ _,.inl ⟨Y,_,SqL.of RQ⟩,Z,p,U,DB,_,Z,OO,TU.cl,TU.nN,Rp _ _ _,lp,us,Z,Y,RQ,B0 0.0,?_⟩;have k5:∀ c o,c≠lp->H4 c≈o->(upd H4 lp (.lst (us++[.ref b]))) c≈o:=λc o hc e=>by rw[AD hc];exact e
  have e5:(upd H4 lp (.lst (us++[.ref b]))) lp≈(.lst (us++[.ref b])):=uS;have f5:∀ c,(upd H4 lp (.lst (us++[.ref b]))) c=none->H4 c=none:=λc e=>by
   have:c≠lp:=λz=>by rw[z,uS]at e;cases e
   rw[AD this]at e;exact e
  generalize upd H4 lp (.lst (us++[.ref b]))=H5 at k5 e5 f5 ⊢;have lpH:∃ o,H lp≈o:=⟨_,g2⟩;have Zq:BI (λb=>∃ o,H b≈o) C B D H4 b2 k2 (IX ρ c) (Hg ns c):=Ib.sub λb z=>by
   obtain⟨o,e⟩:=z;exact⟨o,BJ _ _ e⟩
  have oi:=BI.keepM (U:=U) (M:=λb=>b=lp) hC hB hD (λb hb=>⟨.lst us,by rw[hb];exact RQ,.inl ⟨Z⟩⟩) (λb hb=>by rw[hb];exact lpH) (λb o hb e=>k5 b o hb e) Zq;have ON:=k5 _ _ (Yw lpp) OO;refine⟨Z,p,DB,Z,ON,dQ _ _ _,Z,p,b,lp,tx,b2,us++[.ref b],Y,⟨DB,ON,e5,k5 _ _ txl oI⟩,λl t6 H6 hl ht k6 VN Em=>?_⟩;refine q b2 k2 l t6 H6 (Bo.free (f5 _ hl)) (Bo.free (f5 _ ht)) (λc o h1 h2 e=>k6 _ _ h1 (k5 _ _ h2 (Bo _ _ e))) VN ?_ Em;exact BI.keepM (U:=U) (M:=λb=>b=p) hC hB hD (λb' U8=>⟨.ins U DB (Bs b lp tx),by rw[U8];exact ON,.inr (.inl ⟨_,Z⟩)⟩) (λb' U8=>⟨.ins U DB (Bs b lp tx),by rw[U8];exact g1⟩) (λb' o hb e=>k6 b' o hb e) oi
def XE(Ds:Nat->δ)(Q:VK):XK:=λcls dx H1=>cls=.ref (Ds 14)/\dx=none/\∀ a H',AA H1 H'->H' a≈(.tup [.str "NoRow",.non])->Q (.ref a) H'
inductive WO(Ds:Nat->δ)(vs:LV)(H:Hp)(Q:VK)(AJ:XK):Prop
 | mk:∀(e:δ),vs=[.ref e]->H e≈(XO e (Ds 14) none)->(∀ a H',AA H H'->H' a≈(.tup [.str "NoRow",.non])->Q (.ref a) H')->WO Ds vs H Q AJ
abbrev mG:LS:=["e","taken_by"]
def kK:Aa mG ["e"] (AL TZ):=by nofun
abbrev w3:LV:=(["NoName","Twice","NoKind"]:LS).map V.str
abbrev w2:LV:=(["NoDeed","Same"]:LS).map V.str
def zM:(Hs 14="NoRow"/\Bw (.str (Hs 14)) w3=false)/\Bw (.str (Hs 14)) w2=false/\decide (V.str (Hs 14)=V.str "NoText")=false:=by rfl'
def tV{Ds:Nat->δ}(F:Def K mg "_law_refusal" TZ ["e"] f fd)(len:mg "len"=none)(O:Td K D Ds 14)(DC:Def K mg "_law_classes" Pl ["e"] fC fdC)(GC:⋯ 1 fC fdC ["e"] (Wy K D Ds)):⋯ 2 f fd ["e"] (WO Ds):=by
 nomatch F.fn.ok kK
 ·obtain⟨e,rfl,_⟩:=h;rfl
 ·obtain⟨e,rfl,he,q⟩:=h;have nd:=kK.nd
  ac_nf
  refine'⟨_,(pS (sE 1 nd (AV DC GC hr (pC 0.9 AB)))
   (pS (Ag (An OZ (A9 Cb 1.0 len BX 2.3) AH (Aj _)) Bj Af)
   (pS (Ag (An (r:=F2 K false) Iz 2.6 (O6 ["NoName","Twice","NoKind"] rfl 0.1) 1.8) Bj Af)
   (pS (Ag (An (r:=F2 K false) Iz 2.6 (O6 ["NoDeed","Same"] rfl 0.1) 1.8) Bj Af)
   (pS (Ag (An BP 2.6 Ah (Aj _)) Bj Af)
   (AF (AQ (A5 (pC 2.6 (pC H_ AB)))))))))),?_⟩
  exists let b:=AE _ a;let c:=AE _ b;let e:=AE _ c;let f:=AE _ e;AE _ f _ _ _
  refine⟨_,rfl,e,14,none,rfl,he,.inl rfl,O,by decide,λl H1 s1 hl=>?_⟩;refine⟨_,rfl,l,_,rfl,.inl (SqL.of hl),rfl,_,rfl,AU ?_⟩;refine⟨_,rfl,l,_,_,_,rfl,rfl,SqL.of hl,Hk _ _,λt1 GZ=>⟨t1,_,rfl,.inr (AG.of uS),rfl,rfl,_,rfl,?_⟩⟩;have s2:=s1.trans (AI (o:=.tup w3) GZ);have Al:=(AI (o:=.tup w3) GZ) _ _ hl;generalize upd H1 t1 (.tup w3)=H2 at s2 Al ⊢;obtain⟨⟨c0,c1⟩,c2,c3⟩:=zM;rw[show(if false=true then !Bw (.str (Hs 14)) w3 else Bw (.str (Hs 14)) w3)=false from c1];refine AU ⟨_,rfl,l,_,_,_,rfl,rfl,SqL.of Al,Hk _ _,λt2 AS=>⟨t2,_,rfl,.inr (AG.of uS),rfl,rfl,_,rfl,?_⟩⟩;have s3:=s2.trans (AI (o:=.tup w2) AS);have BA:=(AI (o:=.tup w2) AS) _ _ Al;generalize upd H2 t2 (.tup w2)=H3 at s3 BA ⊢;rw[show(if false=true then !Bw (.str (Hs 14)) w2 else Bw (.str (Hs 14)) w2)=false from c2];refine AU ⟨_,rfl,l,_,_,_,rfl,rfl,SqL.of BA,Hk _ _,rfl,_,rfl,?_⟩;rw[c3];exact AU ⟨_,rfl,l,_,_,_,rfl,rfl,SqL.of BA,Hk _ _,sL (by show 2<=100000;decide),λa ha=>q a _ (s3.trans (AI ha)) (by rw[c0];exact uS)⟩
def jh(Q:VK):VK:=λv H'=>∀ a B1,AA H' B1->B1 a≈(.tup [.str "told",v])->Q (.ref a) B1
inductive O_(U:δ)(Ds:Nat->δ)(SAY:Sp)(vs:LV)(H:Hp)(Q:VK)(AJ:XK):Prop
 | mk:∀(p dx:δ) (fs:List (Str×V)) (x:Str),vs=[.ref p,.str x]->H p≈(.ins U dx fs)->fs.lookup ("say":Str)=none->(∀(Q2:VK) (E2:XK),(∀ v H',jh Q v H'->Q2 v H')->(∀ cls d H',XE Ds Q cls d H'->E2 cls d H')->SAY [.ref p,.str x] H Q2 E2)->O_ U Ds SAY vs H Q AJ
abbrev mO:LS:=["desk","row","found","wrong","e"]
def j8:Aa mO ["desk","row"] (AL Pk):=by nofun
def qS{Ds:Nat->δ}{SAY:Sp}{k:Nat}(hk:2<=k)(F:Def K mg "_law_heard" Pk ["desk","row"] f fd)(TD:jZ K mg D)(O:Td K D Ds 14)(cU:Eh K U)
  (MS:Cw K U "say" "Desk.say" PZ ["self","row"] fS fdS) (GS:BQ P w K mg base (Ct P w) k fS fdS ["self","row"] SAY)
  (DR:Def K mg "_law_refusal" TZ ["e"] fR fdR) (GR:⋯ 2 fR fdR ["e"] (WO Ds)):⋯ (k + 1) f fd ["desk","row"] (O_ U Ds SAY):=by
 nomatch F.fn.ok j8
 ·obtain⟨p,dx,fs,x,rfl,_⟩:=h;rfl
 ·obtain⟨p,dx,fs,x,rfl,hp,no,q⟩:=h;have nd:=j8.nd;have Bf:Ab 2 _:=hr.mono hk
  ac_nf
  refine'⟨_,(pS (sE 2 nd H_)
   (pS (sE 3 nd H_)
   (Gn (vE (i:=3) (j:=4) rfl rfl TD.ex nd 1.0 TD.m rfl 1.2 rfl rfl (yr (wo (i:=2) nd rfl 1.2 (yi 0.9 cU MS.me GS hr MS.b 2.3))))
   (pS (Ag (An xF (pv 3) H_ (Aj _)) (AF (AQ (AV DR GR Bf (pC (pv 3) AB)))) Af)
   (AF (AQ (A5 (pC Ah 2.5)))))))),?_⟩
  exists let b:=AE _ a;let c:=Ic _ b;let e:=AE _ c;AE _ e _ _ _
  let EO:SW:=λσ' H'=>(∃(v:V) (x4:OV),σ'=[↥(.ref p),↥(.str x),↥v,↥.non,x4]/\jh Q v H')\/∃(e:δ) (x4:OV),σ'=[↥(.ref p),↥(.str x),↥.non,↥(.ref e),x4]/\H' e≈(XO e (Ds 14) none)/\∀ a B1,AA H' B1->B1 a≈(.tup [.str "NoRow",.non])->Q (.ref a) B1;refine⟨EO,?_,?_⟩
  ·refine⟨Z,p,dx,fs,Y,hp,no,Z,?_⟩;refine q _ _ (λv H' ht=>.inl ⟨v,none,Y,ht⟩) λcls d H' he=>?_;obtain⟨rfl,rfl,q2⟩:=he;exact⟨Z,O.ex.toExC,O.sub,λe he=>.inr ⟨e,none,Y,uS,λa B1 Cf z=>q2 a B1 ((AI he).trans Cf) z⟩⟩
  ·rintro σ' H1 (⟨v,x4,rfl,ht⟩ | ⟨e,x4,rfl,he,q2⟩)
   ·exact⟨Z,Y,Z,AU ⟨Z,W,λa ha=>ht a _ (AI ha) uS⟩⟩
   ·refine⟨Z,Y,Z,?_⟩;rw[Jc (show ¬ (V.ref e=V.non)from λz=>by cases z)];exact A4 ⟨Z,e,Y,he,q2⟩
inductive WL(vs:LV)(H:Hp)(Q:VK)(AJ:XK):Prop
 | mk:∀(l ln a:δ) (ρ:List Row) (ns:List AN) (us:LV) (c:A1),vs=[.ref l,.ref ln,.ref a]->FQ H l ρ->H ln≈(.lst us)->Dg H ns us->EY H a (Ay c)->Ge c->↑ρ<=1000->↑ns<=1000->(∀ r∈ρ,↑r.2<=1000)->(∀ n∈ns,↑n.2.2<=1000)->(∀ t l' MX Cd H',AA H H'->H' t≈(.tup [.ref l',.ref MX])->FQ H' l' (IX ρ c)->H' MX≈(.lst Cd)->Dg H' (Hg ns c) Cd->(l'=l\/H l'=none)->(MX=ln\/H MX=none)->H t=none->Q (.ref t) H')->WL vs H Q AJ
def vP:(["word","ups","words"]:LS).Nodup:=by rfl'
def vN:(["word","many","pairs","words","pair"]:LS).Nodup:=by rfl'
abbrev g3(K:Fg)(i j k:Nat):TG:=UC K 3 (K3 (Cz i) (K3 (Cz j) (K3 (Cz k) YQ)))
def yj{X:Cx}{K:Fg}{i j k:Nat}{x y z:Str}{p q r pos:Pos}{c:Nat}(hK:X.K=K)(hc:X.calm=true)(hN:X.N.Nodup)(hi:X.N[i]?≈x)(hj:X.N[j]?≈y)(hk:X.N[k]?≈z)(hx:Loc X.env.scope x)(hy:Loc X.env.scope y)(hz:Loc X.env.scope z)
  (fx:X.fn x=true\/X.env.scope.names.lookup x≈.local) (fy:X.fn y=true\/X.env.scope.names.lookup y≈.local) (fz:X.fn z=true\/X.env.scope.names.lookup z≈.local):PG X (.Tuple [.Name x p,.Name y q,.Name z r] c pos) (g3 K i j k):=by
 subst hK;exact DU hc (gC (CF (i:=i) hN hi hx fx) (gC (CF (i:=j) hN hj hy fy) (gC (CF (i:=k) hN hk hz fz) DX)))
abbrev Up:LS:=["rows","names","words","pair"]
abbrev Ny:LS:=["rows","names","words"]
def j7:Aa Up Ny (AL NK):=by nofun
set_option maxHeartbeats 8000000 in
def y0(F:Def K mg "_law_grown" NK Ny f fd)(tuple:mg "tuple"=none)(int:mg "int"=none):⋯ 1 f fd Ny WL:=by
 nomatch F.fn.ok j7
 ·obtain⟨l,ln,a,ρ,ns,us,c,rfl,_⟩:=h;rfl
 ·obtain⟨l,ln,a,ρ,ns,us,c,rfl,hR,BN,hN,hw,fc,rl,nl,rul,nul,q⟩:=h;have nd:=j7.nd
  ac_nf
  refine'⟨_,(pS (Ag (An BP 2.2 Ah (Aj _)) (AF (sE 0 nd (Ai Jv 0.9 (BH (pC (A5 (pC 2.2 (pC (C4 LI 1.0 tuple JM (pC (Gq (r:=Ht K) Jz 1.6 (Fo AH) Iu) AB)) AB))) AB))))) Af)
   (pS (Ag (An BP 2.2 Ah (Aj _)) (AF ?eT) Af)
   (pS (Ag (An BP 2.2 Ah (Aj _)) (AF (sE 1 nd (Ai Jv 1.5 (BH (pC (A5 (pC 2.2 (pC (C4 ff 1.0 int Nd (pC 2.2 AB)) (pC (A5 AB) AB)))) AB))))) Af)
   (pS (Ag (An BP 2.2 Ah (Aj _)) (pS (Ez (i:=3) nd rfl 1.3 (A5 (pC (C4 LI 1.0 tuple JM (pC (Gq (r:=Ht K) Jz 1.6 (Fo AH) (Fo (Ob Ow AH))) AB)) (pC (AO (r:=Ao K) Ad 1.6 (Ob Ow AH) 0.2) AB))))
   (AF ?eD)) Af)
   (AF (AQ (A5 (pC 0.9 2.3)))))))),?_⟩
  case eT=>exact(JA (k:=0) ["word","ups"] ["words"] [2] nd rfl rfl (λ_=>CC (osc:=AL NK) (on:=Up) 0.7 rfl rfl rfl) (Co 0.9) (λC s H fp=>Ij (K:=K) (i:=0) (j:=1) rfl rfl vP rfl rfl 1.2 1.2 1.3 1.3) 2.9 (λC s H fp=>A5 (pC 0.9 (pC (Ai (r:=Oc K) Oz 1.5 (Ai (r:=Tj K) cQ (A5 (pC 2.2 AB)) (C4 SS 1.0 int Nd (pC (C3 BP 0.9 2.2 (Aj _)) AB)))) AB))))
  case eD=>exact(JA (k:=1) ["word","many","pairs"] ["words","pair"] [2,3] nd rfl rfl (λ_=>CC (osc:=AL NK) (on:=Up) 0.7 rfl rfl rfl) (Co 1.5) (λC s H fp=>yj (K:=K) (i:=0) (j:=1) (k:=2) rfl rfl vN rfl rfl rfl 1.2 1.2 1.2 1.3 1.3 1.3) 2.9 (λC s H fp=>A5 (pC 0.9 (pC 1.5 (pC (Ai (r:=Oc K) Oz 1.6 (Ai (r:=Tj K) cQ (A5 (pC (pv 4) AB)) (C4 SS 1.0 int Nd (pC (C3 BP 0.9 (AO (r:=Ao K) Ad (pv 3) AH 0.2) (Aj _)) AB)))) AB)))))
  exists let b:=_;let c:=AE _ b;let e:=AE (By _ c _) a;let f:=_;let g:=AE (By _ f _) e;let h:=AE _ g;let i:=_;AE (By _ i _) h _ _ _
  have hl:=SqL.of (K:=K) hw.at_;obtain⟨vs,hvs,hpr⟩:=id hR;have vl:=Yp hpr;have ul:=Yp hN;refine⟨Z,a,G,Z,Y,hl,A_ (k:=0) (DS c),Y,Z,?_⟩;rw[B5];cases c with
  | kind x Cd =>
   rw[Jb (show Bv (.kind x Cd)="kind" from rfl)];refine A4 ⟨Z,Z,a,G,Z,Y,hl,A_ (k:=1) (show(Ay (.kind x Cd))[1]?≈x from rfl),Z,Z,a,Z,hl,λp hp=>?_⟩;have s1:AA H (upd H p (.lst (BO ((Ay (.kind x Cd)).map V.str) (↥3) none))):=AI hp;have h1:(upd H p (.lst (BO ((Ay (.kind x Cd)).map V.str) (↥3) none))) p≈(.lst (Cd.map V.str)):=by
    rw[uS];exact congrArg (λz=>↥(HO.lst z)) ((PH (kW (x,Cd)) 3).trans (congrArg (λz=>z.map V.str) (jm (x,Cd))))
   generalize upd H p (.lst (BO ((Ay (.kind x Cd)).map V.str) (↥3) none))=H1 at s1 h1 ⊢;refine⟨p,Z,.inl ⟨SqL.of h1,λu hu=>⟨W,λt ht=>⟨V,λl1 Ap=>?_⟩⟩⟩⟩;have s2:AA H1 (upd H1 u (.tup (Cd.map V.str))):=AI hu;have h2:(upd H1 u (.tup (Cd.map V.str))) u≈(.tup (Cd.map V.str)):=uS;generalize upd H1 u (.tup (Cd.map V.str))=H2 at s2 h2 ht Ap ⊢;have s3:AA H2 (upd H2 t (.tup [.str x,.ref u])):=AI ht;have h3:(upd H2 t (.tup [.str x,.ref u])) t≈(.tup [.str x,.ref u]):=uS;generalize upd H2 t (.tup [.str x,.ref u])=H3 at s3 h3 Ap ⊢;have s4:AA H3 (upd H3 l1 (.lst [.ref t])):=AI Ap;have h4:(upd H3 l1 (.lst [.ref t])) l1≈(.lst [.ref t]):=uS;generalize upd H3 l1 (.lst [.ref t])=H4 at s4 h4 ⊢;have Bo:=s1.trans (s2.trans (s3.trans s4));refine⟨l,l1,vs,[.ref t],Y,Y,Bo _ _ hvs,h4,sL (by show ↑vs + 1<=100000;omega),λl2 Al=>?_⟩;have s5:AA H4 (upd H4 l2 (.lst (vs++[.ref t]))):=AI Al;have h5:(upd H4 l2 (.lst (vs++[.ref t]))) l2≈(.lst (vs++[.ref t])):=uS;generalize upd H4 l2 (.lst (vs++[.ref t]))=H5 at s5 h5 ⊢;have DZ:=Bo.trans s5;have Cg:=SqL.of (K:=K) (DZ _ _ hw.at_);refine⟨Z,a,G,Z,Y,Cg,A_ (k:=0) (DS _),Y,Z,?_⟩;rw[B5,Jc (show ¬ Bv (.kind x Cd)="tie" from iL)];refine AU ⟨Z,a,G,Z,Y,Cg,A_ (k:=0) (DS _),Y,Z,?_⟩;rw[B5,Jc (show ¬ Bv (.kind x Cd)="name" from iK)];refine AU ⟨Z,a,G,Z,Y,Cg,A_ (k:=0) (DS _),Y,Z,?_⟩;rw[B5,Jc (show ¬ Bv (.kind x Cd)="deed" from iV)];refine AU ⟨Z,Z,W,λt6 Dn=>?_⟩;have s6:=AI (o:=.tup [.ref l2,.ref ln]) Dn;refine q t6 l2 ln us _ (DZ.trans s6) uS ⟨_,s6 _ _ h5,?_⟩ (s6 _ _ (DZ _ _ BN)) (hN.mono (CN (DZ.trans s6))) (.inr (Bo.free Al)) (.inl rfl) (DZ.free Dn);have Ug:=(s3.trans s4).trans (s5.trans s6);exact CH (Paired.mapP hpr λr v ⟨t',u',e,a1,a2⟩=>⟨t',u',e,s6 _ _ (DZ _ _ a1),s6 _ _ (DZ _ _ a2)⟩) ⟨t,u,Y,s6 _ _ (s5 _ _ (s4 _ _ h3)),Ug _ _ h2⟩
  | tie x y =>
   rw[Jc (show ¬ Bv (.tie x y)="kind" from(by rfl':¬ (("tie":Str)="kind")))];refine AU ⟨Z,a,G,Z,Y,hl,A_ (k:=0) (DS _),Y,Z,?_⟩;rw[B5,Jb (show Bv (.tie x y)="tie" from rfl)];let Be:δ->Nat->LV->St->Hp->Prop:=λD i ys σ' H'=>AA H H'/\H D=none/\H' D≈(.lst ys)/\Paired (J9 H') ((ρ.take i).map λr=>if r.1=x then(r.1,r.2++[y])else r) ys/\∃ u v,σ'=[u,v,↥(.ref a)];refine A4 ⟨Z,l,Y,⟨_,SqL.of hvs⟩,LG (Cq (xs:=vs)) (sL 0.0) Be
    (λD hD=>⟨AI hD,hD,uS,by rw[Ee];exact .nil,_,Z⟩) (λD i ys σ' H' hi h0=>by obtain⟨s,_,_,hp,_⟩:=h0;exact⟨SqL.of (s _ _ hvs),by have:=Yp hp;rw[Ya,Yv]at this;omega⟩) ?_ ?_⟩
   ·rintro D i v ys σ' H7 hD hi ⟨s7,E_,Kw,El,x1,x2,rfl⟩;obtain⟨r,Av,t,u,rfl,ht,hu⟩:=Bi hpr hi;have hul:=rul r (Yd Av);have He:=SqL.of (K:=K) (s7 _ _ hw.at_);refine⟨t,Z,AG.of (s7 _ _ ht),Y,_,Z,_,Z,Y,?_⟩;refine⟨Z,Z,Z,a,G,Z,Y,He,A_ (k:=2) (show(Ay (.tie x y))[2]?≈y from rfl),V,λt1 GZ=>?_⟩;have s8:AA H7 (upd H7 t1 (.tup [.str y])):=AI GZ;have h8:(upd H7 t1 (.tup [.str y])) t1≈(.tup [.str y]):=uS;generalize upd H7 t1 (.tup [.str y])=H8 at s8 h8 ⊢;refine⟨Z,Z,a,G,Z,Y,SqL.of (s8 _ _ (s7 _ _ hw.at_)),A_ (k:=1) (show(Ay (.tie x y))[1]?≈x from rfl),Y,.inr ⟨Z,?_⟩⟩;have fin:∀(zs:LS) (p t2:δ) (Aw:Hp),AA H7 Aw->Aw p≈(.tup (r.2.map V.str++zs.map V.str))->(if r.1=x then(r.1,r.2++[y])else r)=(r.1,r.2++zs)->Aw t2=none ->
      (upd Aw t2 (.tup [.str r.1,.ref p])) D≈(.lst ys)/\AA H (upd (upd Aw t2 (.tup [.str r.1,.ref p])) D (.lst (ys++[.ref t2])))/\H D=none/\(upd (upd Aw t2 (.tup [.str r.1,.ref p])) D (.lst (ys++[.ref t2]))) D≈(.lst (ys++[.ref t2]))/\Paired (J9 (upd (upd Aw t2 (.tup [.str r.1,.ref p])) D (.lst (ys++[.ref t2])))) ((ρ.take (i + 1)).map λr=>if r.1=x then(r.1,r.2++[y])else r) (ys++[.ref t2])/\∃ u' v':OV,[↥(V.str r.1),↥(.ref u),↥(.ref a)]=[u',v',↥(.ref a)]:=λzs p t2 Aw B2 Fx e AS=>by
     have FZ:AA Aw (upd Aw t2 (.tup [.str r.1,.ref p])):=AI AS;have ET:(upd Aw t2 (.tup [.str r.1,.ref p])) t2≈(.tup [.str r.1,.ref p]):=uS;generalize upd Aw t2 (.tup [.str r.1,.ref p])=IS at FZ ET;have ER:=B2.trans FZ;have HN:=ER _ _ Kw;have tk:∀ b xs,IS b≈(.tup xs)->(upd IS D (.lst (ys++[V.ref t2]))) b≈(.tup xs):=λb xs e=>by rw[AD (λz=>by rw[z,HN]at e;cases e)];exact e
     refine⟨HN,λb o e=>by rw[AD (AK e E_)];exact ER _ _ (s7 _ _ e),E_,uS,?_,_,Z⟩;rw[Bu,Av,Br];show Paired _ (_++[if r.1=x then(r.1,r.2++[y])else r]) _;rw[e];exact CH (Paired.mapP El λr' v' ⟨t',u',e',a1,a2⟩=>⟨t',u',e',tk _ _ (ER _ _ a1),tk _ _ (ER _ _ a2)⟩) ⟨t2,p,Y,tk _ _ ET,by rw[tk _ _ (FZ _ _ Fx),Br]⟩
    refine⟨t1,[.str y],Z,Y,AG.of h8,Gw _ _,by show 1<=100;decide,λhb=>?_,λhb tz htz=>?_⟩
    ·have e:r.1=x:=V.str.inj (Je hb);exact M7 (K:=K) (s8 _ _ (s7 _ _ hu)) h8 (sL (by rw[Ya];show _ + 1<=100000;omega)) λp Aw B2 Kx=>⟨W,λt2 AS=>fin [y] p t2 Aw (s8.trans B2) Kx (if_pos e) AS⟩
    ·have e:¬ r.1=x:=λz=>of_decide_eq_false hb (by rw[z]);have s9:=AI (o:=.tup []) htz;exact M7 (K:=K) (s9 _ _ (s8 _ _ (s7 _ _ hu))) uS (sL (by rw[Ya];show _ + 0<=100000;omega)) λp Aw B2 Kx=>⟨W,λt2 AS=>fin [] p t2 Aw (s8.trans (s9.trans B2)) Kx (by rw[if_neg e,EM]) AS⟩
   ·rintro D ys σ' H7 hD ⟨s7,E_,Kw,El,_⟩;rw[<- vl,Bt]at El;have He:=SqL.of (K:=K) (s7 _ _ hw.at_);refine⟨Z,a,G,Z,Y,He,A_ (k:=0) (DS _),Y,Z,?_⟩;rw[B5,Jc (show ¬ Bv (.tie x y)="name" from iO)];refine AU ⟨Z,a,G,Z,Y,He,A_ (k:=0) (DS _),Y,Z,?_⟩;rw[B5,Jc (show ¬ Bv (.tie x y)="deed" from iN)];refine AU ⟨Z,Z,W,λt6 Dn=>?_⟩;have s6:=AI (o:=.tup [.ref D,.ref ln]) Dn;exact q t6 D ln us _ (s7.trans s6) uS ⟨_,s6 _ _ Kw,Paired.mapP El λr v ⟨t',u',e,a1,a2⟩=>⟨t',u',e,s6 _ _ a1,s6 _ _ a2⟩⟩ (s6 _ _ (s7 _ _ BN)) (hN.mono (CN (s7.trans s6))) (.inr E_) (.inl rfl) (s7.free Dn)
  | name x n =>
   rw[Jc (show ¬ Bv (.name x n)="kind" from Yb2)];refine AU ⟨Z,a,G,Z,Y,hl,A_ (k:=0) (DS _),Y,Z,?_⟩;rw[B5,Jc (show ¬ Bv (.name x n)="tie" from(by rfl':¬ (("name":Str)="tie")))];refine AU ⟨Z,a,G,Z,Y,hl,A_ (k:=0) (DS _),Y,Z,?_⟩;rw[B5,Jb (show Bv (.name x n)="name" from rfl)];obtain⟨VH,VG⟩:=Va fc.2.1 fc.2.2;obtain⟨i1,i2⟩:=bz VH;rw[VG]at i1;refine A4 ⟨Z,Z,a,G,Z,Y,hl,A_ (k:=1) (show(Ay (.name x n))[1]?≈x from rfl),Z,a,G,Z,Y,hl,A_ (k:=2) (show(Ay (.name x n))[2]?≈(Hq n)from rfl),Hq n,n,Y,i1,i2,BC _,λte hte=>⟨sL (by show 3<=100000;decide),λt ht=>⟨V,λl1 Ap=>?_⟩⟩⟩;have s2:AA H (upd H te (.tup [])):=AI hte;have h2:(upd H te (.tup [])) te≈(.tup []):=uS;generalize upd H te (.tup [])=H2 at s2 h2 ht Ap ⊢;have s3:AA H2 (upd H2 t (.tup [.str x,.int n,.ref te])):=AI ht;have h3:(upd H2 t (.tup [.str x,.int n,.ref te])) t≈(.tup [.str x,.int n,.ref te]):=uS;generalize upd H2 t (.tup [.str x,.int n,.ref te])=H3 at s3 h3 Ap ⊢;have s4:AA H3 (upd H3 l1 (.lst [.ref t])):=AI Ap;have h4:(upd H3 l1 (.lst [.ref t])) l1≈(.lst [.ref t]):=uS;generalize upd H3 l1 (.lst [.ref t])=H4 at s4 h4 ⊢;have Bo:=s2.trans (s3.trans s4);refine⟨ln,l1,us,[.ref t],Y,Y,Bo _ _ BN,h4,sL (by show ↑us + 1<=100000;omega),λl2 Al=>?_⟩;have s5:AA H4 (upd H4 l2 (.lst (us++[.ref t]))):=AI Al;have h5:(upd H4 l2 (.lst (us++[.ref t]))) l2≈(.lst (us++[.ref t])):=uS;generalize upd H4 l2 (.lst (us++[.ref t]))=H5 at s5 h5 ⊢;have DZ:=Bo.trans s5;have Cg:=SqL.of (K:=K) (DZ _ _ hw.at_);refine⟨Z,a,G,Z,Y,Cg,A_ (k:=0) (DS _),Y,Z,?_⟩;rw[B5,Jc (show ¬ Bv (.name x n)="deed" from iM)];refine AU ⟨Z,Z,W,λt6 Dn=>?_⟩;have s6:=AI (o:=.tup [.ref l,.ref l2]) Dn;have Ce:=s5.trans s6;refine q t6 l l2 _ _ (DZ.trans s6) uS (NF hR (DZ.trans s6)) (s6 _ _ h5) ?_ (.inl rfl) (.inr (Bo.free Al)) (DZ.free Dn);exact CH (hN.mono (CN (DZ.trans s6))) ⟨t,te,[],Y,Ce _ _ (s4 _ _ h3),Ce _ _ (s4 _ _ (s3 _ _ h2)),.nil⟩
  | deed x d m =>
   rw[Jc (show ¬ Bv (.deed x d m)="kind" from Yb4)];refine AU ⟨Z,a,G,Z,Y,hl,A_ (k:=0) (DS _),Y,Z,?_⟩;rw[B5,Jc (show ¬ Bv (.deed x d m)="tie" from(by rfl':¬ (("deed":Str)="tie")))];refine AU ⟨Z,a,G,Z,Y,hl,A_ (k:=0) (DS _),Y,Z,?_⟩;rw[B5,Jc (show ¬ Bv (.deed x d m)="name" from Yb3)];refine AU ⟨Z,a,G,Z,Y,hl,A_ (k:=0) (DS _),Y,Z,?_⟩;rw[B5,Jb (show Bv (.deed x d m)="deed" from rfl)];have h4:4<=↑(Ay (.deed x d m)):=by show 4<=↑(dW x d m);rw[(K2 x m d).2.2.2.1];omega
   refine A4 ⟨Z,Z,Z,Z,a,Z,hl,λp hp=>?_⟩;have s1:AA H (upd H p (.lst (BO ((Ay (.deed x d m)).map V.str) (↥2) (↥(-2))))):=AI hp;have h1:(upd H p (.lst (BO ((Ay (.deed x d m)).map V.str) (↥2) (↥(-2))))) p≈(.lst (d.map V.str)):=by
    rw[uS];refine congrArg (λz=>↥(HO.lst z)) ?_;rw[show(d.map V.str)=(((dW x d m).drop 2).take (↑(dW x d m) - 4)).map V.str by rw[(K2 x m d).2.1]];exact cG (dW x d m) 2 2 (by have:=(K2 x m d).2.2.2.1;omega) 0.1
   generalize upd H p (.lst (BO ((Ay (.deed x d m)).map V.str) (↥2) (↥(-2))))=H1 at s1 h1;refine⟨p,Z,.inl ⟨SqL.of h1,λtc htc=>?_⟩⟩;have s2:AA H1 (upd H1 tc (.tup (d.map V.str))):=AI htc;have h2:(upd H1 tc (.tup (d.map V.str))) tc≈(.tup (d.map V.str)):=uS;generalize upd H1 tc (.tup (d.map V.str))=H2 at s2 h2 ⊢;have A8:=s1.trans s2;refine⟨Z,Z,a,G,Z,Y,SqL.of (A8 _ _ hw.at_),VX (k:=1) 0.1 0.0 (bh x m d),W,λtp htp=>?_⟩;have s3:AA H2 (upd H2 tp (.tup [.ref tc,.str m])):=AI htp;have h3:(upd H2 tp (.tup [.ref tc,.str m])) tp≈(.tup [.ref tc,.str m]):=uS;generalize upd H2 tp (.tup [.ref tc,.str m])=H3 at s3 h3 ⊢;have BJ:=A8.trans s3;have oK:=s3 _ _ h2;have E9:=hN.mono (CN BJ);let Fw:δ->Nat->LV->St->Hp->Prop:=λD i ys σ' H'=>AA H3 H'/\H3 D=none/\H' D≈(.lst ys)/\Dg H' ((ns.take i).map (Cj x d m)) ys/\∃ u v z,σ'=[u,v,z,↥(.ref a),↥(.ref tp)];refine⟨Z,ln,Y,⟨_,SqL.of (BJ _ _ BN)⟩,LG (Cq (xs:=us)) (sL 0.0) Fw
    (λD hD=>⟨AI hD,hD,uS,by rw[Ee];exact .nil,G,Z⟩) (λD i ys σ' H' hi h0=>by obtain⟨s,_,_,hp,_⟩:=h0;exact⟨SqL.of (s _ _ (BJ _ _ BN)),by have:=Yp hp;rw[Ya,Yv]at this;omega⟩) ?_ ?_⟩
   ·rintro D i v ys σ' H7 hD hi ⟨s7,E_,Kw,El,x1,x2,x3,rfl⟩;obtain⟨n,hn,t,tq,MI,rfl,ht,htq,hP⟩:=Bi E9 hi;have hul:=nul n (Yd hn);have hPl:=Yp hP;have nI:=s7 _ _ ht;have QT:=s7 _ _ htq;refine⟨t,Z,AG.of nI,Y,_,Z,_,Z,_,Z,Y,?_⟩;refine⟨Z,Z,Z,Z,V,λt1 GZ=>?_⟩;have s8:AA H7 (upd H7 t1 (.tup [.ref tp])):=AI GZ;have h8:(upd H7 t1 (.tup [.ref tp])) t1≈(.tup [.ref tp]):=uS;generalize upd H7 t1 (.tup [.ref tp])=H8 at s8 h8 ⊢;refine⟨Z,Z,a,G,Z,Y,SqL.of (s8 _ _ (s7 _ _ (BJ _ _ hw.at_))),A_ (k:=1) (show(Ay (.deed x d m))[1]?≈x from rfl),Y,.inr ⟨Z,?_⟩⟩;have fin:∀(ps:List (LS×Str)) (zs:LV) (p t2:δ) (Aw:Hp),AA H7 Aw->Aw p≈(.tup zs)->EF Aw ps zs->Cj x d m n=(n.1,n.2.1,ps)->Aw t2=none ->
      (upd Aw t2 (.tup [.str n.1,.int n.2.1,.ref p])) D≈(.lst ys)/\AA H3 (upd (upd Aw t2 (.tup [.str n.1,.int n.2.1,.ref p])) D (.lst (ys++[.ref t2])))/\H3 D=none/\(upd (upd Aw t2 (.tup [.str n.1,.int n.2.1,.ref p])) D (.lst (ys++[.ref t2]))) D≈(.lst (ys++[.ref t2]))/\Dg (upd (upd Aw t2 (.tup [.str n.1,.int n.2.1,.ref p])) D (.lst (ys++[.ref t2]))) ((ns.take (i + 1)).map (Cj x d m)) (ys++[.ref t2])/\∃ u' v' z':OV,[↥(V.str n.1),↥(.int n.2.1),↥(.ref tq),↥(.ref a),↥(.ref tp)]=[u',v',z',↥(.ref a),↥(.ref tp)]:=λps zs p t2 Aw B2 Fx hps e AS=>by
     have FZ:AA Aw (upd Aw t2 (.tup [.str n.1,.int n.2.1,.ref p])):=AI AS;have ET:(upd Aw t2 (.tup [.str n.1,.int n.2.1,.ref p])) t2≈(.tup [.str n.1,.int n.2.1,.ref p]):=uS;generalize upd Aw t2 (.tup [.str n.1,.int n.2.1,.ref p])=IS at FZ ET;have ER:=B2.trans FZ;have HN:=ER _ _ Kw;have tk:∀ b xs,IS b≈(.tup xs)->(upd IS D (.lst (ys++[V.ref t2]))) b≈(.tup xs):=λb xs e=>by rw[AD (λz=>by rw[z,HN]at e;cases e)];exact e
     refine⟨HN,λb o e=>by rw[AD (AK e E_)];exact ER _ _ (s7 _ _ e),E_,uS,?_,G,Z⟩;rw[Bu,hn,Br];show Dg _ (_++[Cj x d m n]) _;rw[e];exact CH ((El.mono (CN ER)).mono tk) ⟨t2,p,zs,Y,tk _ _ ET,tk _ _ (FZ _ _ Fx),(hps.mono (CN FZ)).mono tk⟩
    refine⟨t1,[.ref tp],Z,Y,AG.of h8,Gw _ _,by show 1<=100;decide,λhb=>?_,λhb tz htz=>?_⟩
    ·have e:n.1=x:=V.str.inj (Je hb);refine M7 (K:=K) (s8 _ _ QT) h8 (sL (by show _ + 1<=100000;omega)) λp Aw B2 Kx=>⟨sL (by show 3<=100000;decide),λt2 AS=>fin (n.2.2++[(d,m)]) _ p t2 Aw (s8.trans B2) Kx ?_ (by unfold Cj;rw[if_pos e]) AS⟩;have Lk:=s7.trans (s8.trans B2);exact CH (hP.mono (CN Lk)) ⟨tp,tc,Y,Lk _ _ h3,Lk _ _ oK⟩
    ·have e:¬ n.1=x:=λz=>of_decide_eq_false hb (by rw[z]);have s9:=AI (o:=.tup []) htz;refine M7 (K:=K) (s9 _ _ (s8 _ _ QT)) uS (sL (by show _ + 0<=100000;omega)) λp Aw B2 Kx=>⟨sL (by show 3<=100000;decide),λt2 AS=>fin n.2.2 _ p t2 Aw (s8.trans (s9.trans B2)) Kx ?_ (by unfold Cj;rw[if_neg e]) AS⟩;rw[EM];exact hP.mono (CN (s7.trans (s8.trans (s9.trans B2))))
   ·rintro D ys σ' H7 hD ⟨s7,E_,Kw,El,_⟩;rw[<- ul,Bt]at El;have Fb:=BJ.trans s7;refine⟨Z,Z,W,λt6 Dn=>?_⟩;have s6:=AI (o:=.tup [.ref l,.ref D]) Dn;exact q t6 l D ys _ (Fb.trans s6) uS (NF hR (Fb.trans s6)) (s6 _ _ Kw) (El.mono (CN s6)) (.inl rfl) (.inr (BJ.free E_)) (Fb.free Dn)
def pU{ρ:RS}{a b:Str}(h:b∈Ax ρ a):∃ r∈ρ,r.1=a/\b∈r.2:=by
 unfold Ax at h
 induction ρ with
 | nil=>simp at h
 | cons q rs ih =>
  obtain⟨c,d⟩:=q;rw[CQ]at h;cases e:(a == c)with
  | true =>
   rw[e]at h;exact⟨(c,d),by simp,(by have:a=c:=(by simpa using e);exact this.symm),h⟩
  | false =>
   rw[e]at h;obtain⟨r,h1,h2⟩:=ih h;exact⟨r,Yq _ h1,h2⟩
def PX{ρ:RS}{x y:Str}:Bn ρ x y=true↔Graph.Reach (Ax ρ) x y:=Xa
def yu{ρ:RS}{rk:Str->Nat}(hrk:∀ r∈ρ,∀ u∈r.2,rk u<rk r.1):∀ a b,b∈Ax ρ a->rk b<rk a:=λa b h=>by
 obtain⟨r,h1,h2,h3⟩:=pU h;rw[<- h2];exact hrk r h1 b h3
theorem jP{rk:Str->Nat}:∀ {us:LS}{u:Str},u∈us->rk u<=(us.map rk).sum
 | a :: r,u,h=>by
  rw[Yy,List.sum_cons]
  rcases Yk.mp h with e | h
  ·rw[e];omega
  ·have:=jP (rk:=rk) h;omega
def p6{ρ:RS}(g:Ak ρ){x:Str}{us:LS}(hx:x∉ρ.map 0.8)(hw:AR x=true)(hl:↑ρ<24)(hu:∀ u∈us,u∈ρ.map 0.8)(hn:us.Nodup)(hf:↑us<=8):Ak (ρ++[(x,us)]):=by
 have mem:∀ r,r∈ρ++[(x,us)]->r∈ρ\/r=(x,us):=λr h=>by
  rcases Ym.mp h with z | z
  ·exact .inl z
  ·exact .inr (Yc.mp z)
 have Ay:(ρ++[(x,us)]).map 0.8=ρ.map 0.8++[x]:=by rw[Br];rfl
 obtain⟨rk,hrk⟩:=g.rank;refine⟨by rw[Yo];simp,by rw[Yo];simp;omega,λr h=>?_,?_,λr h=>?_,λr h u CK=>?_,λr h=>?_,⟨λz=>if z=x then 1 + (us.map rk).sum else rk z,λr h u CK=>?_⟩⟩
 ·rcases mem r h with z | z
  ·exact g.word r z
  ·rw[z];exact hw
 ·rw[Ay];refine Ld.mpr ⟨g.nd,by simp,λa ha b hb e=>?_⟩;rw[Yc.mp hb]at e;rw[e]at ha;exact hx ha
 ·rcases mem r h with z | z
  ·exact g.few r z
  ·rw[z];exact hf
 ·rw[Ay];refine Ym.mpr (.inl ?_)
  rcases mem r h with z | z
  ·exact g.known r z u CK
  ·rw[z]at CK;exact hu u CK
 ·rcases mem r h with z | z
  ·exact g.upnd r z
  ·rw[z];exact hn
 ·rcases mem r h with z | z
  ·have n1:u≠x:=λe=>hx (e ▸ g.known r z u CK);have n2:r.1≠x:=λe=>hx (e ▸ Yg.mpr ⟨r,z,Y⟩);show(if u=x then _ else _)<(if r.1=x then _ else _);rw[if_neg n1,if_neg n2];exact hrk r z u CK
  ·rw[z]at CK ⊢;have n1:u≠x:=λe=>hx (e ▸ hu u CK);show(if u=x then _ else _)<(if x=x then _ else _);rw[if_neg n1,if_pos rfl];have:=jP (rk:=rk) (us:=us) CK;omega
def SQ(ρ:RS)(x y:Str):(CO ρ x y).map 0.8=ρ.map 0.8:=by
 unfold CO;rw[C5];refine T9 λr _=>?_;show(if r.1=x then(r.1,r.2++[y])else r).1=r.1;split <;> rfl
def yd{ρ:RS}(g:Ak ρ){x y:Str}(hx:x∈ρ.map 0.8)(hy:y∈ρ.map 0.8)(h1:y∉Ax ρ x)(h2:↑(Ax ρ x)<=7)(h3:¬ Graph.Reach (Ax ρ) y x):Ak (CO ρ x y):=by
 have mem:∀ q,q∈CO ρ x y->∃ r∈ρ,q.1=r.1/\((r.1=x/\q.2=r.2++[y])\/(r.1≠x/\q.2=r.2)):=λq h=>by
  obtain⟨r,hr,e⟩:=Yg.mp h;by_cases z:r.1=x
  ·rw[if_pos z]at e;exact⟨r,hr,by rw[<- e],.inl ⟨z,by rw[<- e]⟩⟩
  ·rw[if_neg z]at e;exact⟨r,hr,by rw[<- e],.inr ⟨z,by rw[<- e]⟩⟩
 have at_x:∀ r∈ρ,r.1=x->Ax ρ x=r.2:=λr hr e=>by rw[<- e];exact Iy g.nd hr
 have len:↑(CO ρ x y)=↑ρ:=by unfold CO;rw[Ya]
 obtain⟨rk,hrk⟩:=g.rank;have hrk':=yu hrk;refine⟨by rw[len];exact g.ne,by rw[len];exact g.le,λq h=>?_,by rw[SQ];exact g.nd,λq h=>?_,λq h u hu=>?_,λq h=>?_,⟨λz=>rk z + (if Bn ρ z x=true then rk y + 1 else 0),λq h u hu=>?_⟩⟩
 ·obtain⟨r,hr,e,_⟩:=mem q h;rw[e];exact g.word r hr
 ·obtain⟨r,hr,_,z | z⟩:=mem q h
  ·rw[z.2,Yo,<- at_x r hr z.1];simp;omega
  ·rw[z.2];exact g.few r hr
 ·rw[SQ];obtain⟨r,hr,_,z | z⟩:=mem q h
  ·rw[z.2]at hu
   rcases Ym.mp hu with c | c
   ·exact g.known r hr u c
   ·rw[Yc.mp c];exact hy
  ·rw[z.2]at hu;exact g.known r hr u hu
 ·obtain⟨r,hr,_,z | z⟩:=mem q h
  ·rw[z.2];refine Ld.mpr ⟨g.upnd r hr,by simp,λa ha b hb e=>?_⟩;rw[Yc.mp hb]at e;rw[e,<- at_x r hr z.1]at ha;exact h1 ha
  ·rw[z.2];exact g.upnd r hr
 ·obtain⟨r,hr,e,z⟩:=mem q h;have old:u∈r.2->rk u + (if Bn ρ u x=true then rk y + 1 else 0)<rk q.1 + (if Bn ρ q.1 x=true then rk y + 1 else 0):=λCK=>by
   rw[e];have A2:=hrk r hr u CK;by_cases c:Bn ρ u x=true
   ·have c2:Bn ρ r.1 x=true:=PX.mpr (.step (by rw[Iy g.nd hr];exact CK) (PX.mp c));rw[if_pos c,if_pos c2];omega
   ·rw[if_neg c];omega
  rcases z with z | z
  ·rw[z.2]at hu
   rcases Ym.mp hu with c | c
   ·exact old c
   ·have ny:¬ Bn ρ y x=true:=λc=>h3 (PX.mp c);have nx:Bn ρ x x=true:=PX.mpr (.refl x);show rk u + _<rk q.1 + _;rw[Yc.mp c,e,z.1,if_neg ny,if_pos nx];omega
  ·rw[z.2]at hu;exact old hu
theorem Vf:∀ {ns:List AN},(ns.map 0.8).Nodup->∀ {a b:AN},a∈ns->b∈ns->a.1=b.1->a=b
 | c :: r,nd,a,b,ha,hb,e=>by
  rw[Yy]at nd;obtain⟨n1,n2⟩:=FT.mp nd
  rcases Yk.mp ha with h1 | h1
  ·rcases Yk.mp hb with h2 | h2
   ·rw[h1,h2]
   ·exact absurd (Yg.mpr ⟨b,h2,by rw[<- e,h1]⟩) n1
  ·rcases Yk.mp hb with h2 | h2
   ·exact absurd (Yg.mpr ⟨a,h1,by rw[e,h2]⟩) n1
   ·exact Vf n2 h1 h2 e
def uD{ρ BY:List Row}(h:∀ x,x∈ρ.map 0.8->x∈BY.map 0.8){n:Nat}{d:LS}(c:Ec ρ n d):Ec BY n d:=⟨c.len,λx hx=>h x (c.known x hx)⟩
def uV{ρ BY:List Row}(h:∀ x,x∈ρ.map 0.8->x∈BY.map 0.8){n:Nat}{ds:ξ}(c:Eb ρ n ds):Eb BY n ds:=⟨λd hd=>uD h (c.call d hd),c.nd,c.few⟩
def uE{ρ BY:List Row}(h:∀ x,x∈ρ.map 0.8->x∈BY.map 0.8){n:AN}(c:PK ρ n):PK BY n:=⟨c.word,c.one,c.four,uV h c.deeds,λp hp=>h _ (c.made p hp)⟩
def hX{ρ BY:List Row}(h:∀ x,x∈ρ.map 0.8->x∈BY.map 0.8){ns:List AN}(c:B9 ρ ns):B9 BY ns:=⟨c.few,λn hn=>uE h (c.each n hn),c.nd⟩
def rM{ρ:List Row}{ns:List AN}(g:Ak ρ)(gn:B9 ρ ns){x:Str}{us:LS}(hx:x∉ρ.map 0.8)(hw:AR x=true)(hl:↑ρ<24)(hu:∀ u∈us,u∈ρ.map 0.8)(h1:↑us<=1):Ig ρ ns (.kind x us):=by
 refine⟨p6 g hx hw hl hu ?_ 0.0,hX (λy hy=>?_) gn,(λ_ _ z=>nomatch z),(λ_ _ _ z=>nomatch z)⟩
 ·cases us with
  | nil=>exact List.nodup_nil
  | cons a r =>
   cases r with
   | nil=>simp
   | cons b r=>simp at h1
 ·show y∈(ρ++[(x,us)]).map 0.8;rw[Br];exact Ym.mpr (.inl hy)
def p7{ρ:List Row}{ns:List AN}(g:Ak ρ)(gn:B9 ρ ns){x y:Str}(hx:x∈ρ.map 0.8)(hy:y∈ρ.map 0.8)(h1:y∉Ax ρ x)(h2:↑(Ax ρ x)<=7)(h3:¬ Graph.Reach (Ax ρ) y x):Ig ρ ns (.tie x y):=
 ⟨yd g hx hy h1 h2 h3,hX (λz hz=>by show z∈(CO ρ x y).map 0.8;rw[SQ];exact hz) gn,λa b z=>by cases z;exact⟨hx,hy⟩,λ_ _ _ z=>nomatch z⟩
def rN{ρ:List Row}{ns:List AN}(g:Ak ρ)(gn:B9 ρ ns){x:Str}{n:Nat}(hx:x∉ns.map 0.8)(hw:AR x=true)(hl:↑ns<8)(h1:1<=n)(h4:n<=4):Ig ρ ns (.name x n):=by
 refine⟨g,⟨?_,λm hm=>?_,?_⟩,(λ_ _ z=>nomatch z),(λ_ _ _ z=>nomatch z)⟩
 ·show↑(ns++[(x,n,[])])<=8;rw[Yo];show ↑ns + 1<=8;omega
 ·rcases Ym.mp hm with hm | hm
  ·exact gn.each m hm
  ·rw[Yc.mp hm];exact⟨hw,h1,h4,⟨(λd hd=>by cases hd),List.nodup_nil,BC _⟩,(λp hp=>by cases hp)⟩
 ·show((ns++[((x,n,[]):AN)]).map (λz:AN=>z.1)).Nodup;rw[Br];refine Ld.mpr ⟨gn.nd,by simp,λa ha b hb e=>?_⟩;rw[Yc.mp hb]at e;rw[e]at ha;exact hx ha
def Ycw(x:Str)(c:LS)(m:Str)(n:AN):(Cj x c m n).1=n.1:=by
 unfold Cj;split <;> rfl
def rL{ρ:List Row}{ns:List AN}(g:Ak ρ)(gn:B9 ρ ns){n:AN}(hn:n∈ns){c:LS}{m:Str}(hc:Ec ρ n.2.1 c)(hm:m∈ρ.map 0.8)(no:c∉n.2.2.map 0.8)(l:↑n.2.2<64):Ig ρ ns (.deed n.1 c m):=by
 refine⟨g,⟨?_,λk hk=>?_,?_⟩,(λ_ _ z=>nomatch z),λx d m' z=>by cases z;exact Yg.mpr ⟨n,hn,Y⟩⟩
 ·show↑(ns.map (Cj n.1 c m))<=8;rw[Ya];exact gn.few
 ·obtain⟨k0,C_,rfl⟩:=Yg.mp hk;have gk:=gn.each k0 C_;unfold Cj;by_cases e:k0.1=n.1
  ·have e2:k0=n:=Vf gn.nd C_ hn e;subst e2;rw[if_pos rfl];refine⟨gk.word,gk.one,gk.four,⟨λd hd=>?_,?_,?_⟩,λp hp=>?_⟩
   ·rw[show((k0.1,k0.2.1,k0.2.2++[(c,m)]):AN).2.2.map 0.8=k0.2.2.map 0.8++[c] by rw[Br];rfl]at hd
    rcases Ym.mp hd with hd | hd
    ·exact gk.deeds.call d hd
    ·rw[Yc.mp hd];exact hc
   ·show((k0.2.2++[(c,m)]).map 0.8).Nodup;rw[Br];refine Ld.mpr ⟨gk.deeds.nd,by simp,λa ha b hb e=>?_⟩;rw[Yc.mp hb]at e;rw[e]at ha;exact no ha
   ·show↑((k0.2.2++[(c,m)]).map 0.8)<=64;rw[Ya,Yo];show ↑k0.2.2 + 1<=64;omega
   ·rcases Ym.mp hp with hp | hp
    ·exact gk.made p hp
    ·rw[Yc.mp hp];exact hm
  ·rw[if_neg e];exact gk
 ·show((ns.map (Cj n.1 c m)).map 0.8).Nodup;have e:(ns.map (Cj n.1 c m)).map (λz=>z.1)=ns.map (λz=>z.1):=by
   rw[C5];exact T9 λk _=>Ycw n.1 c m k
  rw[e];exact gn.nd
abbrev Pt:LS:=["pot","rows","names"]
abbrev MW:LS:=["pot","rows","names","kinds","words","above","way","one","ups","some","word","places","pairs","deed"]
inductive W_(vs:LV)(H:Hp)(Q:VK)(AJ:XK):Prop
 | mk:∀(p l ln:δ) (ρ:List Row) (ns:List AN) (us:LV),vs=[.ref p,.ref l,.ref ln]->(∃ o,H p≈o/\FI o)->p≠l->p≠ln->FQ H l ρ->Ak ρ->H ln≈(.lst us)->Dg H ns us->B9 ρ ns->(∀ n∈ns,↑n.2.2<64)->(∀(x:Str) H',Drawn p H H'->(x=""\/∃ c,Ge c/\Ep x (Ay c)/\Ig ρ ns c)->Q (.str x) H')->W_ vs H Q AJ
def j6:Aa MW Pt (AL JD):=by nofun
def wA:(["kind","one","above","ups"]:LS).Nodup:=by rfl'
def vK:(["k","kinds","pot"]:LS).Nodup:=by rfl'
def q8(a b:Str):(("tie ":Str)++a++" ")++b=Builtin.Str.glued " " (["tie",a,b]:LS):=by
 rw[IE];show _=(((("tie":Str)++" ")++a)++" ")++b;rw[show(("tie":Str)++" ")="tie " by rfl']
def N0(n:AN):Dt:=.tuple [.str n.1,.int ((n.2.1:Nat):Int),.tuple (n.2.2.map Nw)]
theorem WD{K:Fg}{H:Hp}:∀ {ns:List AN}{us:LV},Dg H ns us->A7 K H us (ns.map N0)
 | _,_,.nil=>.nil
 | _,_,.cons r t=>by
  obtain⟨a,tp,vs,rfl,h1,h2,h3⟩:=r;exact .cons (.tuple (AG.of h1) (.cons (.str _) (.cons (.int _) (.cons (.tuple (AG.of h2) (dm h3)) .nil)))) (WD t)
def u6(k:Nat){p:LS×Str}(hc:∀ u∈p.1,AR u=true)(hm:AR p.2=true):W.kqdOk (k + 2) (Nw p)=true:=by
 show(W.kqdOk (k + 1) (Eo p.1)&&(W.kqdOk (k + 1) (.str p.2)&&true))=true;rw[WS k hc,Ox (k + 1) hm];rfl
def iP(k:Nat){ns:List AN}(h:kq ns):(ns.map N0).all (W.kqdOk (k + 4))=true:=by
 rw[C6];intro z hz;obtain⟨n,hn,rfl⟩:=Yg.mp hz;obtain⟨a,b,c,d⟩:=h n hn;have e:(n.2.2.map Nw).all (W.kqdOk (k + 2))=true:=by
  rw[C6];intro y hy;obtain⟨p,hp,rfl⟩:=Yg.mp hy;exact u6 k (d p hp).2.1 (d p hp).2.2
 show(W.kqdOk (k + 3) (.str n.1)&&(W.kqdOk (k + 3) (.int ((n.2.1:Nat):Int))&&((n.2.2.map Nw).all (W.kqdOk (k + 2))&&true)))=true;rw[Ox (k + 3) a,e,show W.kqdOk (k + 3) (.int ((n.2.1:Nat):Int))=true from rfl];rfl
def WX{α:Type}(f:α->Dt)(l:List α):FC (.list (l.map f)) (.list [])=l.isEmpty:=by
 cases l with
 | nil=>exact IF _
 | cons a r=>exact O1 (λe=>by injection e with e;cases e)
def Tg(ρ:List Row)(one:Str)(us:LS):V->Bool
 | .str z=>!Bn ρ z one&&!decide (z∈us)
 | _=>false
def ya(ρ:List Row)(one:Str)(us ws:LS):((ws.map V.str).filter (Tg ρ one us)).map (λv=>v)=(ws.filter λz=>!Bn ρ z one&&!decide (z∈us)).map V.str:=by
 rw[List.map_id',P_];rfl
theorem eX{H:Hp}:∀ {ns:List AN}{vs:LV},Dg H ns vs->vs.map (Kv H)=(ns.map 0.8).map V.str
 | _,_,.nil=>rfl
 | _,_,.cons ⟨t,tp,ws,e,h1,_⟩ r=>by
  subst e;rw[Yy,Ri h1,eX r];rfl
set_option maxHeartbeats 8000000 in
def rg(F:Def K mg "_law_good_row" JD Pt f fd)(len:mg "len"=none)(range:mg "range"=none)(str:mg "str"=none)(tuple:mg "tuple"=none)(DT:Def K mg "_law_take" LJ ["pot","many"] fT fdT)(GT:⋯ 1 fT fdT ["pot","many"] Mq)
  (DW:Def K mg "_law_word" Gv ["pot","words"] fW fdW) (GW:⋯ 2 fW fdW ["pot","words"] Vx) (DA:Def K mg "_law_above" Pj ["rows"] fA fdA) (GA:⋯ 1 fA fdA ["rows"] SF)
  (DK:Def K mg "_law_kind_row" NM ["word","ups"] fK fdK) (GK:⋯ 1 fK fdK ["word","ups"] (WM K)) (DD:Def K mg "_law_deed_row" NL ["word","deed","made"] fD fdD) (GD:⋯ 1 fD fdD ["word","deed","made"] (WJ K)):⋯ 3 f fd Pt W_:=by
 nomatch F.fn.ok j6
 ·obtain⟨p,l,ln,ρ,ns,us,rfl,_⟩:=h;rfl
 ·obtain⟨p,l,ln,ρ,ns,us,rfl,⟨o,hp,ho⟩,pl,pln,hR,g,BN,hN,gn,Ur,q⟩:=h;have nd:=j6.nd;have hu:=hr.units;have nD:=Es hr;have Aq:Ab 1 _:=hr.mono 0.1
  ac_nf
  refine'⟨_,(pS (Ez (i:=3) nd rfl 1.3 ?eK)
   (pS ?eW
   (pS (Ez (i:=5) nd rfl 1.3 (AV DA GA Aq 2.3))
   (pS (sE 6 nd (AV DT GT Aq (pC 0.9 (pC AH AB))))
   (pS (Ol (AO (r:=Ao K) Ad 1.5 (AV DT GT Aq (pC 0.9 (pC (A9 Cb 1.0 len BX 2.3) AB))) 0.2) (DU rfl (gC (CF (i:=7) nd rfl 1.3) (gC (CF (i:=8) nd rfl 1.3) DX))))
   (pS ?eS
   (Gn (Ag (PW.pt (Gm (An BP (pv 6) AH (Aj _)) (Gm (An (K8 hu) (pv 9) (BH AB) (Aj _)) (Jy (An Od (A9 Cb 1.0 len BX (pC (pv 8) AB)) AH (Aj _)))))) (AF (AQ (Ai CP (Ai CP (Ai CP Ah (pv 7)) Ah) (AO (r:=Ao K) Ad (pv 9) (AV DT GT Aq (pC 0.9 (pC (A9 Cb 1.0 len BX (pC (pv 9) AB)) AB))) 0.2)))) Af)
   (Gn (Ag (PW.pt (Gm (An BP (pv 6) AH (Aj _)) (Jy (An Od (A9 Cb 1.0 len BX 2.5) AH (Aj _))))) (AF (AQ (Ai CP (Ai CP (Ai CP Ah (AV DW GW hr (pC 0.9 (pC (pv 4) AB)))) Ah) (C4 Xi 1.0 str Tv (pC (Ai K7 AH (AV DT GT Aq (pC 0.9 (pC AH AB)))) AB))))) Af)
   (Gn (Ag (PW.pt (Gm (An Hz (pv 6) AH (Aj _)) (Jy (An (K8 hu) 1.6 (BH AB) (Aj _)))))
     (pS (Ol (AO (r:=Ao K) Ad 1.6 (AV DT GT Aq (pC 0.9 (pC (A9 Cb 1.0 len BX 2.5) AB))) 0.2) (DU rfl (gC (gE 10 nd) (gC (gE 11 nd) (gC (gE 12 nd) DX)))))
   (pS ?eD
   (AF (Ag (An (qe (jl hr)) (C4 LI 1.0 tuple JM (pC (pv 13) AB)) ?eP 1.8) (AF (AQ (AV DD GD Aq (pC (pv 10) (pC (pv 13) (pC (pv 7) AB)))))) Af)))) Af)
   (pS (Ag (An Hz (A9 Cb 1.0 len BX (pC (pv 3) AB)) AH (Aj _)) (AF (AQ Ah)) Af)
   (AF (AQ (AV DK GK Aq (pC (AV DW GW hr (pC 0.9 (pC (pv 3) AB))) (pC (Gq (r:=Ht K) Jz (BH (pC (AO (r:=Ao K) Ad (pv 3) (AV DT GT Aq (pC 0.9 (pC (A9 Cb 1.0 len BX (pC (pv 3) AB)) AB))) 0.2) AB)) Iu (Fo (AV DT GT Aq (pC 0.9 (pC AH AB))))) AB))))))))))))))),?_⟩
  case eK=>exact(Ea ["row"] [] [] (λ_=>CC (osc:=AL JD) (on:=MW) 0.7 rfl rfl rfl) (Co 1.5) (λC s H fp=>CF (i:=0) Yb8 rfl 1.2 1.3) 2.9 (λC s H fp=>AO (r:=DJ K) Dz 0.9 AH 0.2))
  case eW=>exact(JA (k:=4) ["name"] [] [] nd rfl rfl (λ_=>CC (osc:=AL JD) (on:=MW) 0.7 rfl rfl rfl) (Co 1.6) (λC s H fp=>CF (i:=0) Yca rfl 1.2 1.3) 2.9 (λC s H fp=>AO (r:=DJ K) Dz 0.9 AH 0.2))
  case eS=>exact(JA (k:=9) ["kind"] ["one","above","ups"] [7,5,8] nd rfl rfl (λ_=>CC (osc:=AL JD) (on:=MW) 0.7 rfl rfl rfl) (Co (pv 3)) (λC s H fp=>CF (i:=0) wA rfl 1.2 1.3) (λC s H fp=>My (PW.pt (Gm (An (r:=F2 K true) Xk 1.5 (Ip nD 1.6 0.9 0.2) 1.8) (Jy (An (r:=F2 K true) Xk 0.9 (pv 3) 1.8))))) (λC s H fp=>pv 0))
  case eD=>exact(JA (k:=13) ["k"] ["kinds","pot"] [3,0] nd rfl rfl (λ_=>CC (osc:=AL JD) (on:=MW) 0.7 rfl rfl rfl) (PV 1.0 range (pC (pv 11) AB)) (λC s H fp=>CF (i:=0) vK rfl 1.2 1.3) 2.9 (λC s H fp=>AO (r:=Ao K) Ad 1.5 (AV DT GT Aq (pC 1.6 (pC (A9 (r:=Ybr K) Cb 1.0 len BX 2.3) AB))) 0.2))
  case eP=>exact(Ea ["pair"] [] [] (λ_=>CC (osc:=AL JD) (on:=MW) 0.7 rfl rfl rfl) (Gk (pv 12)) (λC s H fp=>CF (i:=0) Yb9 rfl 1.2 1.3) 2.9 (λC s H fp=>AO (r:=DJ K) Dz 0.9 AH 0.2))
  exists let b:=AE _ a;let c:=_;let e:=By _ c _;let f:=AE _ e;let g:=AE _ f;let h:=Ic (By _ g _) b;let i:=_;let j:=Ic (By _ i _) h;let k:=_;let l:=Ic (By _ k _) j;let m:=AE _ l;let n:=AE _ m;let o:=AE _ n;let p:=AE _ o;let q:=AE _ p;AE _ q _ _ _
  obtain⟨vs,hvs,hpr⟩:=id hR;have vl:=Yp hpr;have ul:=Yp hN;have gle:=g.le;have gne:1<=↑ρ:=g.ne;have few:=gn.few;have fn:=dw g gn;have wk:Wi (ρ.map 0.8):=⟨J7 g,g.nd⟩;have wn:Wi (ns.map 0.8):=⟨λx hx=>by
   obtain⟨n,hn,rfl⟩:=Yg.mp hx;exact(gn.each n hn).word,gn.nd⟩
  have kl:↑(ρ.map 0.8)<=24:=by rw[Ya];exact gle
  have kpos:0<↑(ρ.map 0.8):=by rw[Ya];omega
  have nl:↑(ns.map 0.8)<=24:=by rw[Ya];omega
  refine⟨Z,l,Y,⟨_,SqL.of hvs⟩,Rn (Cq (xs:=vs)) 0.0 (λv hv=>?_) (λH' s'=>SqL.of (s' _ _ hvs)) λlw H1 hlw s1 HY=>?_⟩
  ·obtain⟨j,hj⟩:=Gx hv;obtain⟨r,_,t,u,e,h1,_⟩:=Bi hpr hj;exact⟨t,G,e,h1⟩
  rw[d0 hpr]at HY;refine⟨Z,ln,Y,⟨_,SqL.of (s1 _ _ BN)⟩,Rn (Cq (xs:=us)) 0.0 (λv hv=>?_) (λH' s'=>SqL.of (s' _ _ (s1 _ _ BN))) λlx H2 hlx s2 MY=>?_⟩
  ·obtain⟨j,hj⟩:=Gx hv;obtain⟨n',_,t',_,_,e,h1,_⟩:=Bi (hN.mono (CN s1)) hj;exact⟨t',G,e,h1⟩
  rw[eX (hN.mono (CN s1))]at MY;have A8:=s1.trans s2;have plw:p≠lw:=AK hp hlw;have plx:p≠lx:=AK (s1 _ _ hp) hlx;refine⟨Z,l,ρ,Y,⟨vs,A8 _ _ hvs,Paired.mapP hpr λr v ⟨t,u,e,h1,h2⟩=>⟨t,u,e,A8 _ _ h1,A8 _ _ h2⟩⟩,g,λaa AW H3 s3 CU hA=>?_⟩;have BJ:=A8.trans s3;have d3:Drawn p H H3:=(Drawn.refl ⟨o,hp,ho⟩).same BJ;have CT:=BJ _ _ hp;have aap:aa≠p:=λz=>by rw[z,CT]at CU;obtain⟨_,_,q',_⟩:=ho;rw[q']at CU;cases CU
  have HX:=s3 _ _ (s2 _ _ HY);have Ut:=s3 _ _ MY;refine⟨Z,p,6,o,Y,CT,ho,Q,Q,λway o4 w0 w6 RE=>?_⟩;have VQ:Drawn p H3 (upd H3 p o4):=Drawn.upd RE;have Hc:(upd H3 p o4) p≈o4:=uS;generalize upd H3 p o4=H4 at VQ Hc ⊢;have Bx:=VQ.keep _ _ (Yw pl) (BJ _ _ hvs);refine⟨Z,Z,Z,l,Z,.inl (SqL.of Bx),p,_,o4,Y,Hc,RE,O,O,λv o5 v0 v1 Mb=>?_⟩;have Hi:Drawn p H3 (upd H4 p o5):=VQ.trans (Drawn.upd Mb);have N9:(upd H4 p o5) p≈o5:=uS;generalize upd H4 p o5=H5 at Hi N9 ⊢;obtain⟨k,rfl⟩:=T6 v0;have hk:vs[k]?≈vs[k]:=Yi 0.0;obtain⟨r,hri,t,u,e',ht,hut⟩:=Bi hpr hk;have Av:r∈ρ:=Yd hri;have N6:=Drawn.tup Hi CT ho (BJ _ _ ht);have aY:=Drawn.tup Hi CT ho (BJ _ _ hut);have Cg:=Hi.keep _ _ (Yw pl) (BJ _ _ hvs);have Uw:=Hi.keep _ _ (Yw plw) HX;have my:=Hi.keep _ _ (Yw plx) Ut;have ZX:=Hi.keep _ _ (Yw pln) (BJ _ _ BN);have Zj:=Hi.keep _ _ aap CU;have oH:C1 H5 ρ ρ AW:=qm CT ho (λb o hb e=>Hi.keep b o hb e) hA;have d5:=d3.trans Hi;have hat:CL vs (k:Int)≈(.ref t):=by rw[<- e'];exact CA hk
  refine⟨l,G,Z,Y,SqL.of Cg,hat,t,Z,AG.of N6,Y,_,Z,_,Z,Y,?_⟩;refine⟨Z,lw,Y,⟨_,SqL.of Uw⟩,LB (Cq (xs:=(ρ.map 0.8).map V.str)) (sL (by rw[Ya];omega)) (Tg ρ r.1 r.2) (λv=>v) (λH' s'=>SqL.of (s' _ _ Uw)) ?_ ?_ λls H6 hls s6 Em=>?_⟩
  ·intro x H' R s' hx hR;obtain⟨z,hz,rfl⟩:=Yg.mp hx;obtain⟨rz,hrz,ez⟩:=J3 hz;obtain⟨tz,fs,hv,htz,hfs,fl⟩:=oH.val' g.nd hrz;rw[ez]at hv hfs;refine⟨Z,Z,Z,aa,Z,(by rw[<- hv];exact Bl.k (k:=Sum.inr z) (s' _ _ Zj)),tz,Z,.inl (SqL.of (s' _ _ htz)),Y,NA fs,Z,?_⟩;rw[show(if true=true then !Bw (.str r.1) (fs.map V.str)else Bw (.str r.1) (fs.map V.str))=!Bn ρ z r.1 from by rw[if_pos rfl,Io,ef hfs]];have hR:=hR H' (AA.refl _);cases hb:Bn ρ z r.1 with
   | true =>
    rw[show Tg ρ r.1 r.2 (.str z)=false by show(!Bn ρ z r.1&&_)=false;rw[hb];rfl]at hR;exact AU hR
   | false =>
    rw[show Tg ρ r.1 r.2 (.str z)=!decide (z∈r.2) by show(!Bn ρ z r.1&&_)=_;rw[hb];rfl]at hR;refine A4 ⟨Z,Z,u,Z,.inr (AG.of (s' _ _ aY)),Y,NA r.2,Z,?_⟩;rw[show(if true=true then !Bw (.str z) (r.2.map V.str)else Bw (.str z) (r.2.map V.str))=!decide (z∈r.2)from by rw[if_pos rfl,Io]];exact hR
  ·intro x H' R s' hx _ hR;exact⟨Z,hR H' (AA.refl _)⟩
  rw[ya]at Em;have zok:∀ z∈((ρ.map 0.8).filter λz=>!Bn ρ z r.1&&!decide (z∈r.2)),z∈ρ.map 0.8/\¬ Graph.Reach (Ax ρ) z r.1/\z∉r.2:=λz hz=>by
   obtain⟨h1,h2⟩:=IL.mp hz;rw[Ed,Bool.not_eq_true',Bool.not_eq_true']at h2;exact⟨h1,λc=>(by rw[PX.mpr c]at h2;exact absurd h2.1 0.1),of_decide_eq_false h2.2⟩
  have zlen:↑((ρ.map 0.8).filter λz=>!Bn ρ z r.1&&!decide (z∈r.2))<=24:=BL (IJ _ _) kl;generalize((ρ.map 0.8).filter λz=>!Bn ρ z r.1&&!decide (z∈r.2))=zs at zok zlen Em;have Ky:=d5.same s6;have pls:p≠ls:=AK N9 hls;have Kq:=s6 _ _ N9;have nE:=s6 _ _ aY;have aR:=s6 _ _ Uw;have mw:=s6 _ _ my;have Qc:=s6 _ _ ZX;have rl:↑r.1<=8:=(Ca (g.word r Av)).2;have e1:(" ":Str).length=1:=by rfl'
  have ek:("tie ":Str).length=4:=by rfl'
  have ek5:("name ":Str).length=5:=by rfl'
  let EO:SW:=λσ' H'=>σ'=[↥(.ref p),↥(.ref l),↥(.ref ln),↥(.ref lw),↥(.ref lx),↥(.ref aa),↥(.int way),↥(.str r.1),↥(.ref u),↥(.ref ls),none,none,none,none]/\Drawn p H6 H';refine⟨EO,?_,?_⟩
  ·refine⟨Z,Y,Z,BG (λ_=>?_) (λ_=>AU ⟨Y,Drawn.refl ⟨o5,Kq,Mb⟩⟩)⟩;refine⟨Z,BC _,λl0 Dd=>?_⟩;have s7:AA H6 (upd H6 l0 (.lst [])):=AI Dd;have h0:(upd H6 l0 (.lst [])) l0≈(.lst []):=uS;generalize upd H6 l0 (.lst [])=H7 at s7 h0 ⊢;have CW:Drawn p H6 H7:=(Drawn.refl ⟨o5,Kq,Mb⟩).same s7;have He:=s7 _ _ Em;have El:=s7 _ _ Kq;have zw:∀ z∈zs,AR z=true:=λz hz=>J7 g z (zok z hz).1;refine⟨.list (zs.map PySem.W.Dat.str),.list [],.list (SqL.of He) (J4 _),.list (SqL.of h0) .nil,Ra zw,Y,Z,?_⟩;rw[WX];refine BG (λz=>?_) (λ_=>AU ⟨Y,CW⟩);have zne:zs≠[]:=λc=>by rw[c]at z;cases z
   have zp:0<↑zs:=LY.mpr zne;refine⟨Z,u,Z,.inr (AG.of (s7 _ _ nE)),_,Z,Y,Z,BG (λA2=>?_) (λ_=>⟨Y,CW⟩)⟩;have A2:=Je A2;rw[Ya]at A2;refine⟨Z,_,Z,Y,sL 0.0,_,Z,Y,sL (by rw[strLen_append];omega),?_⟩;refine⟨Z,Z,Z,ls,Z,.inl (SqL.of He),p,_,o5,Y,El,Mb,by simp only[Ya];omega,by simp only[Ya];omega,λv o8 v0 v1 Ks=>?_⟩;have bS:Drawn p H7 (upd H7 p o8):=Drawn.upd Ks;obtain⟨x,hxm,hat⟩:=XN (ws:=zs) v0 v1;obtain⟨x1,x2,x3⟩:=zok x hxm;have xl:=(Ca (zw x hxm)).2;refine⟨ls,G,Z,Y,SqL.of (bS.keep _ _ (Yw pls) He),hat,_,Z,Y,sL (by rw[strLen_append,strLen_append];omega),?_⟩;have fc:Ge (.tie r.1 x):=⟨g.word r Av,zw x hxm⟩;refine q _ _ (Ky.trans (CW.trans bS)) (.inr ⟨.tie r.1 x,fc,?_,p7 g gn (Yg.mpr ⟨r,Av,Y⟩) x1 ?_ ?_ x2⟩)
   ·rw[q8];exact(M3 fc).1
   ·rw[Iy g.nd Av];exact x3
   ·rw[Iy g.nd Av];omega
  rintro σ' H7 ⟨rfl,CW⟩;have G9:=CW.keep _ _ (Yw pln) Qc;let JQ:SW:=λσ' H'=>σ'=[↥(.ref p),↥(.ref l),↥(.ref ln),↥(.ref lw),↥(.ref lx),↥(.ref aa),↥(.int way),↥(.str r.1),↥(.ref u),↥(.ref ls),none,none,none,none]/\Drawn p H6 H';refine⟨JQ,?_,?_⟩
  ·refine⟨Z,Y,Z,BG (λ_=>?_) (λ_=>AU ⟨Y,CW⟩)⟩;refine⟨Z,ln,Z,.inl (SqL.of G9),_,Z,Y,Z,BG (λA2=>?_) (λ_=>⟨Y,CW⟩)⟩;have A2:=Je A2;refine⟨Z,Z,p,lx,Z,plx,CW.pot,CW.keep _ _ (Yw plx) mw,wn,nl,λy H8 d8 wy ny=>?_⟩;obtain⟨o8,Kp,Ks⟩:=d8.pot;have yl:=(Ca wy).2;refine⟨_,Z,Y,sL 0.0,_,Z,Y,sL (by rw[strLen_append];omega),?_⟩;refine⟨Z,p,4,o8,Y,Kp,Ks,Q,Q,λv o9 v0 v3 Kr=>?_⟩;obtain⟨m,rfl⟩:=T6 v0;have ei:(1:Int) + (m:Int)=((m + 1:Nat):Int):=by omega
   have nk:=WR (n:=m + 1) 0.0 0.0;refine⟨_,Z,Y,1 + (m:Int),Y,Rr 0.0,_,Z,Y,sL (by rw[strLen_append,strLen_append,ei];omega),?_⟩;have fc:Ge (.name y (m + 1)):=⟨wy,O,O⟩;refine q _ _ (Ky.trans (CW.trans (d8.trans (Drawn.upd Kr)))) (.inr ⟨.name y (m + 1),fc,?_,rN g gn ny wy 0.0 0.0 0.0⟩);rw[ei];show Ep (EI (y,m + 1,[])) _;rw[Wh];exact(M3 fc).1
  clear CW G9 H7;rintro σ' H7 ⟨rfl,CW⟩;have G9:=CW.keep _ _ (Yw pln) Qc;obtain⟨o7,El,Hd⟩:=CW.pot;let Lh:SW:=λσ' H'=>∃ a b c d:OV,σ'=[↥(.ref p),↥(.ref l),↥(.ref ln),↥(.ref lw),↥(.ref lx),↥(.ref aa),↥(.int way),↥(.str r.1),↥(.ref u),↥(.ref ls),a,b,c,d]/\Drawn p H6 H';refine⟨Lh,?_,?_⟩
  ·refine⟨Z,_,Z,Y,Z,BG (λ_=>?_) (λ_=>AU ⟨G,_,Z,CW⟩)⟩;refine⟨Z,BC _,λl0 Dd=>?_⟩;have s8:AA H7 (upd H7 l0 (.lst [])):=AI Dd;have h0:(upd H7 l0 (.lst [])) l0≈(.lst []):=uS;generalize upd H7 l0 (.lst [])=H8 at s8 h0 ⊢;have VP:=CW.same s8;have G8:=s8 _ _ G9;have Kp:=s8 _ _ El;have oh:=Ky.trans VP;have RO:Dg H8 ns us:=hN.mono λb xs e=>Drawn.tup oh hp ho e;refine⟨.list (ns.map N0),.list [],.list (SqL.of G8) (WD RO),.list (SqL.of h0) .nil,(by rw[W.kqdOk];exact iP 4 fn),Y,Z,?_⟩;rw[WX];refine BG (λz=>?_) (λ_=>⟨G,_,Z,VP⟩);have ne:ns≠[]:=λc=>by rw[c]at z;cases z
   have np:0<↑ns:=LY.mpr ne;refine⟨Z,Z,Z,ln,Z,.inl (SqL.of G8),p,_,o7,Y,Kp,Hd,O,O,λv o9 v0 v1 Kr=>?_⟩;have Ia:Drawn p H8 (upd H8 p o9):=Drawn.upd Kr;have F3:(upd H8 p o9) p≈o9:=uS;generalize upd H8 p o9=H9 at Ia F3 ⊢;have bT:=VP.trans Ia;obtain⟨j,rfl⟩:=T6 v0;have hj:us[j]?≈us[j]:=Yi 0.0;obtain⟨n,hn,tn,tp,ws,en,htn,htp,hP⟩:=Bi RO hj;have hnm:=Yd hn;have Bg:=gn.each n hnm;have n1:=Bg.one;have n4:=Bg.four;have hat:CL us (j:Int)≈(.ref tn):=by rw[<- en];exact CA hj
   have wl:=Yp hP;have nf:=Ur n hnm;refine⟨ln,G,Z,Y,SqL.of (Ia.keep _ _ (Yw pln) G8),hat,tn,Z,AG.of (Drawn.tup Ia Kp Hd htn),Y,_,Z,_,Z,_,Z,Y,?_⟩;have RA:=bT.keep _ _ (Yw plw) aR;let Be:δ->Nat->LV->St->Hp->Prop:=λD i ys σ' H'=>Drawn p H9 H'/\H' D≈(.lst ys)/\∃(bs:LS) (o:OV),ys=bs.map V.str/\↑bs=i/\(∀ x∈bs,x∈ρ.map 0.8)/\σ'=[o,↥(.ref lw),↥(.ref p)];refine⟨Z,n.2.1,Y,O,O,LG PY (by rw[JC];exact sL 0.0) Be
    (λD hD=>⟨(Drawn.refl ⟨o9,F3,Kr⟩).new hD,uS,[],none,Y,Y,(λx h=>nomatch h),Y⟩) (λD i ys σ' H' _ h0=>by obtain⟨_,_,bs,_,e,el,_⟩:=h0;exact⟨trivial,by rw[e,Ya];omega⟩) ?_ ?_⟩
   ·rintro D i v ys σ' H' hD hi ⟨d,hl,bs,o,rfl,rfl,hb,rfl⟩;obtain⟨hi,rfl⟩:=JB hi;obtain⟨o1,hpp,hoo⟩:=d.pot;have HY:=d.keep _ _ (Yw plw) RA;have pD:p≠D:=AK F3 hD;refine⟨Z,Z,Z,lw,Z,.inl (SqL.of HY),p,_,o1,Y,hpp,hoo,by simp only[Ya];omega,by simp only[Ya];omega,λv o2 Ej Dc E7=>?_⟩;obtain⟨x,hxm,hat⟩:=XN Ej Dc;have d2:Drawn p H' (upd H' p o2):=Drawn.upd E7;refine⟨lw,G,Z,Y,SqL.of (d2.keep _ _ (Yw plw) HY),hat,d2.keep _ _ (Yw pD) hl,(d.trans d2).sub (o':=.lst []) (q:=D) (λb o hb e=>by rw[AD hb];exact e) hD pD,uS,bs++[x],_,by rw[Br];rfl,by simp,λy hy=>?_,Y⟩
    rcases Ym.mp hy with z | z
    ·exact hb y z
    ·rw[Yc.mp z];exact hxm
   rintro lb ys σ' Aw hlb ⟨bV,Qf,bs,o,rfl,hbl,hb,rfl⟩;rw[JC]at hbl;have hbl:↑bs=n.2.1:=by simpa using hbl
   have pb:p≠lb:=AK F3 hlb;have Zo:=bT.trans bV;have gc:Ec ρ n.2.1 bs:=⟨hbl,hb⟩;have okx:∀ y∈bs,AR y=true:=λy hy=>J7 g y (hb y hy);have okd:∀ d∈n.2.2.map 0.8,∀ y∈d,AR y=true:=λd hd y hy=>J7 g y ((Bg.deeds.call d hd).known y hy);refine⟨Z,lb,Z,.inl ⟨SqL.of Qf,λtb htb=>?_⟩⟩;have FZ:AA Aw (upd Aw tb (.tup (bs.map V.str))):=AI htb;have QW:(upd Aw tb (.tup (bs.map V.str))) tb≈(.tup (bs.map V.str)):=uS;generalize upd Aw tb (.tup (bs.map V.str))=IS at FZ QW ⊢;have Ql:=Zo.same FZ;have d011:=Ky.trans Ql;have Zn:=(Ia.trans bV).same FZ;have tk:∀ b xs,H8 b≈(.tup xs)->IS b≈(.tup xs):=λb xs e=>Drawn.tup Zn Kp Hd e;have Qg:=hP.mono tk;refine⟨Z,tp,Y,⟨_,AG.of (tk _ _ htp)⟩,Rn (Gr (xs:=ws)) 0.0 (λv hv=>?_) (λH' s'=>AG.of (s' _ _ (tk _ _ htp))) λlq H12 hlq Cu ZT=>?_⟩
   ·obtain⟨i,hi⟩:=Gx hv;obtain⟨_,_,t',_,e,h1,_⟩:=Bi Qg hi;exact⟨t',G,e,h1⟩
   have Zk:=(Vn Qg).mono Cu;refine⟨Eo bs,(n.2.2.map 0.8).map Eo,Wl (Cu _ _ QW),.list (SqL.of ZT) (gv Zk),WS 8 okx,yT 7 okd,Z,?_⟩;rw[xg];have Qk:=Ql.same Cu;refine BG (λh=>?_) (λh=>⟨G,_,Z,Qk⟩);have hnin:bs∉n.2.2.map 0.8:=by simpa using h
   have xl:=Ca Bg.word;refine⟨Z,Z,Z,true,n.1,r.1,lb,bs,Y,SqL.of (Cu _ _ (FZ _ _ Qf)),(Ca Bg.word).2,rl,O,λu hu=>(Ca (okx u hu)).2,λZF Ke=>?_⟩;have fc:Ge (.deed n.1 bs r.1):=⟨Bg.word,O,O,okx,g.word r Av⟩;refine q _ ZF ((Ky.trans Qk).same Ke) (.inr ⟨.deed n.1 bs r.1,fc,?_,rL g gn hnm gc (Yg.mpr ⟨r,Av,Y⟩) hnin nf⟩);rw[WY];exact(M3 fc).1
  clear El Hd G9 CW o7 H7;rintro σ' H7 ⟨a,b,c,d,rfl,CW⟩;obtain⟨o7,El,Hd⟩:=CW.pot;have Uv:=CW.keep _ _ (Yw plw) aR;refine⟨Z,lw,Z,.inl (SqL.of Uv),_,Z,Y,Z,BG (λ_=>?_) (λhgt=>?_)⟩
  ·exact q "" H7 (Ky.trans CW) (.inl rfl)
  have hgt:↑ρ<=23:=by
   have z:¬ ((23:Int)<(↑((ρ.map 0.8).map V.str):Nat)):=λc=>hgt (Jb c);rw[Ya,Ya]at z;omega
  refine⟨Z,Z,p,lw,Z,plw,CW.pot,Uv,wk,kl,λx H8 d8 wx nx=>?_⟩;obtain⟨o8,Kp,Ks⟩:=d8.pot;have aQ:=d8.keep _ _ (Yw plw) Uv;refine⟨Z,Z,Z,lw,Z,.inl (SqL.of aQ),p,_,o8,Y,Kp,Ks,by simp only[Ya];omega,by simp only[Ya];omega,λv o9 v0 v1 Kr=>?_⟩;obtain⟨y,hym,hat⟩:=XN v0 v1;have Ia:Drawn p H8 (upd H8 p o9):=Drawn.upd Kr;have F3:(upd H8 p o9) p≈o9:=uS;have RA:=Ia.keep _ _ (Yw plw) aQ;generalize upd H8 p o9=H9 at Ia F3 RA ⊢;refine⟨lw,G,Z,Y,SqL.of RA,hat,V,λl1 Ap=>?_⟩;have B2:AA H9 (upd H9 l1 (.lst [.str y])):=AI Ap;have RT:(upd H9 l1 (.lst [.str y])) l1≈(.lst [.str y]):=uS;have Fx:=B2 _ _ F3;have lu:p≠l1:=AK F3 Ap;generalize upd H9 l1 (.lst [.str y])=Aw at B2 RT Fx ⊢;refine⟨Z,p,2,o9,Y,Fx,Kr,Q,Q,λm aA m0 m2 ZW=>?_⟩;obtain⟨j,rfl⟩:=T6 m0;have VR:Drawn p Aw (upd Aw p aA):=Drawn.upd ZW;have ET:=VR.keep _ _ (Yw lu) RT;generalize upd Aw p aA=IS at VR ET ⊢;refine⟨Z,l1,Z,SqL.of ET,λp3 CT=>?_⟩;have oV:BO [V.str y] none (↥(j:Int))=(([y]:LS).take j).map V.str:=by rw[xj,List.map_take];rfl
  rw[oV];have Cu:AA IS (upd IS p3 (.lst ((([y]:LS).take j).map V.str))):=AI CT;refine⟨true,x,p3,([y]:LS).take j,Y,SqL.of uS,(Ca wx).2,?_,?_,λZF Ke=>?_⟩
  ·rw[Yv];show min j 1<=8;omega
  ·intro z hz;rw[Yc.mp (II hz)];exact(Ca (J7 g y hym)).2
  have ku:∀ z∈([y]:LS).take j,z∈ρ.map 0.8:=λz hz=>by
   rw[Yc.mp (II hz)];exact hym
  have mW:↑(([y]:LS).take j)<=1:=by rw[Yv];show min j 1<=1;omega
  have fc:Ge (.kind x (([y]:LS).take j)):=⟨wx,O,λz hz=>J7 g z (ku z hz)⟩;refine q _ ZF (((Ky.trans (CW.trans (d8.trans Ia))).same B2).trans VR |>.same (Cu.trans Ke)) (.inr ⟨.kind x (([y]:LS).take j),fc,?_,rM g gn nx wx 0.0 ku mW⟩);rw[Wf (x,([y]:LS).take j)];exact(M3 fc).1
theorem dJ(u:Str):∀(us:LS) (x:Str),Bh x (us++[u])=(Bh x us++" ")++u
 | [],_=>rfl
 | a :: us,x=>dJ u us ((x++" ")++a)
def xi(x:V)(xs:LV):BO (x :: xs) (↥1) none=xs:=by
 unfold BO;rw[show((1:Int))=((1:Nat):Int)from rfl,HT.sIx_nat,HT.sIx_none,Na (by rw[B_];omega)];show xs.take _=xs;exact KD (by rw[B_];omega)
def sP{θ:LN}(h:∀ k∈θ,k<=1000):∃(hd:Str) (ks:LN),Ii θ=.str hd :: ks.map BK/\↑hd<=30/\↑ks<=2/\∀ k∈ks,k<=1000:=by
 match θ,h with
 | [],_=>exact⟨"none",[],Y,by rfl',Q,λk hk=>nomatch hk⟩
 | [k],h=>exact⟨"deed",[k],Y,by rfl',by show 1<=2;decide,h⟩
 | k :: j :: r,h=>exact⟨"clash",[k,j],Y,by rfl',by show 2<=2;decide,λm hm=>h m (by
   rcases Yk.mp hm with rfl | hm
   ·exact Yj
   ·rw[Yc.mp hm];exact Yq _ Yj)⟩
def EB(k:Nat):Str:=Str.ofString (toString (k:Int))
def dX{k:Nat}(h:k<=1000):↑(EB k)<=1002:=by
 have:=PyProof.Rows.len_str_of_int (k:Int);show↑(Str.ofString (toString (k:Int)))<=1002;omega
theorem bw:∀(ks:LN) (x:Str),(∀ k∈ks,k<=1000)->↑(Bh x (ks.map EB))<=↑x + 1003 * ↑ks
 | [],x,_=>by show ↑x<=_;omega
 | k :: ks,x,h=>by
  have e1:(" ":Str).length=1:=by rfl'
  have a:=bw ks ((x++" ")++EB k) (λj hj=>h j (Yq _ hj));have b:=dX (h k Yj);rw[strLen_append,strLen_append]at a;show(Bh ((x++" ")++EB k) (ks.map EB)).length<=_;rw[B_];omega
inductive Xz(vs:LV)(H:Hp)(Q:VK)(AJ:XK):Prop
 | mk:∀(t:δ) (θ:LN),vs=[.ref t]->H t≈(.tup (Ii θ))->(∀ k∈θ,k<=1000)->(∀ H',AA H H'->Q (.str (Ff θ)) H')->Xz vs H Q AJ
def kU:Aa ["seen","text","number"] ["seen"] (AL S3):=by nofun
def qO(F:Def K mg "_law_answer" S3 ["seen"] f fd)(str:mg "str"=none):⋯ 1 f fd ["seen"] Xz:=by
 nomatch F.fn.ok kU
 ·obtain⟨t,θ,rfl,_⟩:=h;rfl
 ·obtain⟨t,θ,rfl,ht,hk,q⟩:=h;have nd:=kU.nd
  ac_nf
  refine'⟨_,(pS (sE 1 nd (AO (r:=DJ K) Dz 0.9 AH 0.2))
   (pS (Bm Yx rfl (Gk (Gq (r:=YU K) w_ 0.9 (Fo AH) Iu)) (gE 2 nd)
    (AF (sE 1 nd (Ai CP (Ai CP 1.5 Ah) (C4 Xi 1.0 str Tv 2.5)))))
   (AF (AQ 1.5)))),?_⟩
  exists let b:=_;let c:=AE (CM _ _ b) a;AE _ c _ _ _
  obtain⟨hd,ks,et,h30,l2,k1⟩:=sP hk;have ea:Ff θ=Bh hd (ks.map EB):=by
   unfold Ff;rw[et,Yy,C5];show Builtin.Str.glued " " (hd :: ks.map EB)=_;rw[IE]
  rw[et]at ht;rw[ea]at q;refine⟨_,rfl,t,_,_,_,rfl,rfl,AG.of ht,Hk _ _,?_⟩;have e1:(" ":Str).length=1:=by rfl'
  have ec:BO (V.str hd :: ks.map BK) (↥1) none=ks.map BK:=xi _ _;refine⟨_,rfl,_,rfl,t,_,rfl,AG.of ht,λe=>?_,λ_ p hp=>?_⟩
  ·have z:=congrArg List.length (ec.symm.trans (vf e));rw[B_]at z;omega
  rw[ec];have s1:AA H (upd H p (.tup (ks.map BK))):=AI hp;have h1:(upd H p (.tup (ks.map BK))) p≈(.tup (ks.map BK)):=uS;generalize upd H p (.tup (ks.map BK))=H1 at s1 h1 ⊢;let Be:NW:=λi σ H'=>∃ x2:OV,σ=[↥(.ref t),↥(.str (Bh hd ((ks.take i).map EB))),x2]/\H'=H1;refine⟨p,Y,⟨_,AG.of h1⟩,CG (Gr (xs:=ks.map BK)) Be ⟨none,Y,Y⟩ (λi σ H' _ ⟨_,_,e⟩=>by rw[e];exact AG.of h1) ?_ ?_⟩
  ·rintro i v σ H2 hi ⟨x2,rfl,e⟩;have e:=e.symm;subst e;rw[Ys]at hi;obtain⟨k,Ci,rfl⟩:=E3.mp hi;have k2:=k1 k (Yd Ci);have fl:=bw (ks.take i) hd (λm hm=>k1 m (II hm));have tl:↑(ks.take i)<=2:=by rw[Yv];omega
   have nl:=dX k2;have sn:Bh hd ((ks.take (i + 1)).map EB)=(Bh hd ((ks.take i).map EB)++" ")++EB k:=by
    rw[Bu,Ci,Br];exact dJ _ _ _
   refine⟨Z,_,Z,Y,sL 0.0,Z,(k:Int),Y,cJ k2,_,Z,Y,sL (by show↑(_++_:Str) + ↑(EB k)<=_;rw[strLen_append];omega),↥(BK k),?_,Y⟩;rw[sn];rfl
  ·rintro σ H2 ⟨x2,rfl,e⟩;have e:=e.symm;subst e;rw[Ya,Bt];exact⟨Z,q _ s1⟩
abbrev Pg:=List Row×List AN
def IQ(Z:δ->Prop)(H:Hp)(h:Pg)(l ln:δ):Prop:=FQ H l h.1/\(∃ us,H ln≈(.lst us)/\Dg H h.2 us)/\¬ Z l/\¬ Z ln
def QV(Z:δ->Prop)(H:Hp)(h:Pg)(v:V):Prop:=∃ t l ln:δ,v=.ref t/\H t≈(.tup [.ref l,.ref ln])/\IQ Z H h l ln
def BV(C B D:δ)(Z:δ->Prop)(H:Hp)(h:Pg)(v:V):Prop:=∃ b k:δ,v=.ref b/\BI Z C B D H b k h.1 h.2
theorem IQ.mono{Z:δ->Prop}{H H':Hp}{h:Pg}{l ln:δ}(p:IQ Z H h l ln)(s:AA H H'):IQ Z H' h l ln:=by
 obtain⟨a,⟨us,b,c⟩,d,e⟩:=p;exact⟨NF a s,⟨us,s _ _ b,c.mono (CN s)⟩,d,e⟩
section
variable {C B D U:δ}{Z M:δ->Prop}{H H':Hp}
def IQ.keepM(hM:∀ b,M b->∃ o,H b≈o/\Mv U o)(mz:∀ b,M b->Z b)(s:∀ b o,¬ M b->H b≈o->H' b≈o){h:Pg}{l ln:δ}(p:IQ Z H h l ln):IQ Z H' h l ln:=by
 obtain⟨⟨vs,a1,a2⟩,⟨us,b,c⟩,d,e⟩:=p;have tk:∀ b xs,H b≈(.tup xs)->H' b≈(.tup xs):=λb xs z=>s _ _ (Fj hM z Oi) z;exact⟨⟨vs,s _ _ (λz=>d (mz _ z)) a1,Paired.mapP a2 λ_ _ ⟨t,u,x,y,z⟩=>⟨t,u,x,tk _ _ y,tk _ _ z⟩⟩,⟨us,s _ _ (λz=>e (mz _ z)) b,c.mono tk⟩,d,e⟩
theorem QV.keepM(hM:∀ b,M b->∃ o,H b≈o/\Mv U o)(mz:∀ b,M b->Z b)(s:∀ b o,¬ M b->H b≈o->H' b≈o){h:Pg}{v:V}(p:QV Z H h v):QV Z H' h v:=by
 obtain⟨t,l,ln,e,ht,pg⟩:=p;exact⟨t,l,ln,e,s _ _ (Fj hM ht Oi) ht,pg.keepM hM mz s⟩
theorem BV.keepM(hC:U≠C)(hB:U≠B)(hD:U≠D)(hM:∀ b,M b->∃ o,H b≈o/\Mv U o)(mz:∀ b,M b->Z b)(s:∀ b o,¬ M b->H b≈o->H' b≈o){h:Pg}{v:V}(p:BV C B D Z H h v):BV C B D Z H' h v:=by
 obtain⟨b,k,e,bk⟩:=p;exact⟨b,k,e,bk.keepM (U:=U) (M:=M) hC hB hD hM mz s⟩
end
theorem QV.mono{Z:δ->Prop}{H H':Hp}{h:Pg}{v:V}(p:QV Z H h v)(s:AA H H'):QV Z H' h v:=by
 obtain⟨t,l,ln,e,ht,pg⟩:=p;exact⟨t,l,ln,e,s _ _ ht,pg.mono s⟩
theorem BV.mono{C B D:δ}{Z:δ->Prop}{H H':Hp}{h:Pg}{v:V}(p:BV C B D Z H h v)(s:AA H H'):BV C B D Z H' h v:=by
 obtain⟨b,k,e,bk⟩:=p;exact⟨b,k,e,bk.mono s⟩
structure Eg(C B D U:δ)(Z:δ->Prop)(pd lp tx:δ)(H:Hp)(b:δ)(pg:Pg)(hist:List Pg):Prop where
 ex:∃ us,FN U H pd b lp tx us/\Paired (BV C B D Z H) hist us
 bk:∃ k,BI Z C B D H b k pg.1 pg.2
 gd:∀ h∈pg :: hist,Ak h.1/\B9 h.1 h.2
theorem Eg.mono{C B D U:δ}{Z:δ->Prop}{pd lp tx:δ}{H H':Hp}{b:δ}{pg:Pg}{hist:List Pg}(w:Eg C B D U Z pd lp tx H b pg hist)(s:AA H H'):Eg C B D U Z pd lp tx H' b pg hist:=by
 obtain⟨us,a1,a2⟩:=w.ex;obtain⟨k,bk⟩:=w.bk;exact⟨⟨us,a1.mono s,Paired.mapP a2 λ_ _ z=>z.mono s⟩,⟨k,bk.mono s⟩,w.gd⟩
def Eg.txd{C B D U:δ}{Z:δ->Prop}{pd lp tx:δ}{H:Hp}{b:δ}{pg:Pg}{hist:List Pg}(w:Eg C B D U Z pd lp tx H b pg hist):H tx≈(.dT []):=by
 obtain⟨us,a1,_⟩:=w.ex;obtain⟨dx,h1,h2,h3⟩:=a1.ex;exact h3
theorem Eg.keepM{C B D U:δ}{Z M:δ->Prop}{pd lp tx:δ}{H H':Hp}{b:δ}{pg:Pg}{hist:List Pg}(hC:U≠C)(hB:U≠B)(hD:U≠D)(w:Eg C B D U Z pd lp tx H b pg hist)(hM:∀ b,M b->∃ o,H b≈o/\Mv U o)(mz:∀ b,M b->Z b)(s:∀ b o,¬ M b->H b≈o->H' b≈o)(n1:¬ M pd)(n2:¬ M lp)(n3:¬ M tx):Eg C B D U Z pd lp tx H' b pg hist:=by
 obtain⟨us,a1,a2⟩:=w.ex;obtain⟨k,bk⟩:=w.bk;obtain⟨dx,h1,h2,h3⟩:=a1.ex;exact⟨⟨us,⟨dx,s _ _ n1 h1,s _ _ n2 h2,s _ _ n3 h3⟩,Paired.mapP a2 λ_ _ z=>z.keepM hC hB hD hM mz s⟩,⟨k,bk.keepM (U:=U) (M:=M) hC hB hD hM mz s⟩,w.gd⟩
theorem Paired.unsnoc{α β:Type}{F:α->β->Prop}{a:α}:∀ {l:List α}{m:List β},Paired F (l++[a]) m->∃ m' b,m=m'++[b]/\Paired F l m'/\F a b
 | [],_,.cons r .nil=>⟨[],Z,.nil,r⟩
 | x :: l,_,.cons r t=>by
  obtain⟨m',b,e,p,q⟩:=Paired.unsnoc (l:=l) t;exact⟨_ :: m',b,by rw[e];rfl,.cons r p,q⟩
def dT:Dt:=.tuple [.str "told",.list [.str "ok"]]
def dN:Dt:=.tuple [.str "NoRow",.none]
inductive Act(pg:Pg)(hist:List Pg):Str->Pg->List Pg->Dt->Prop
 | chg {x:Str} {c:A1} (fc:Ge c) (rt:Ep x (Ay c)) (gc:Ig pg.1 pg.2 c):Act pg hist x (IX pg.1 c,Hg pg.2 c) (hist++[pg]) dT
 | noB (h:hist=[]):Act pg hist "back" pg hist dN
 | back {KP:List Pg} {h:Pg} (e:hist=KP++[h]):Act pg hist "back" h KP dT
def yK{x:Str}{c:A1}(rt:Ep x (Ay c)):x≠"back":=λe=>by
 have:=rt.sp;rw[e,WU.sp]at this;obtain⟨y,hy⟩:=ik c;rw[<- this]at hy;cases hy
def Du(H H':Hp)(a:δ)(o:Dt):Prop:=(o=dN/\H' a≈(.tup [.str "NoRow",.non]))\/(o=dT/\∃ sl,H sl=none/\H' a≈(.tup [.str "told",.ref sl])/\H' sl≈(.lst [.str "ok"]))
def Du.rep{K:Fg}{H H':Hp}{a:δ}{o:Dt}(d:Du H H' a o):Rep K H' (.ref a) o:=by
 rcases d with⟨rfl,e⟩ | ⟨rfl,sl,_,ha,hsl⟩
 ·exact .tuple (AG.of e) (.cons (.str _) (.cons .none .nil))
 ·exact .tuple (AG.of ha) (.cons (.str _) (.cons (.list (SqL.of hsl) (.cons (.str _) .nil)) .nil))
def eY{P:ω}{w:World}{C B D U pd lp tx b:δ}{Ds:Nat->δ}{Z:δ->Prop}(hC:U≠C)(hB:U≠B)(hD:U≠D){H:Hp}{pg CS:Pg}{hist AY:List Pg}{xr:Str}{o:Dt}{Q:VK}{E:XK}
  (W:Eg C B D U Z pd lp tx H b pg hist) (fw:↑hist<=100) (zp:Z pd/\Z lp) (zz:∀ c,Z c->∃ o,H c≈o) (act:Act pg hist xr CS AY o)
  (q:∀ a b' t' H',(t'=tx\/H t'=none)->Eg C B D U Z pd lp t' H' b' CS AY->(∀ c o,c≠pd->c≠lp->H c≈o->H' c≈o)->Du H H' a o->Q (.ref a) H'):O_ U Ds (Mj P w C B D U Ds) [.ref pd,.str xr] H Q E:=by
 obtain⟨us,dk,hb⟩:=W.ex;obtain⟨dx,h1,h2,h3⟩:=dk.ex;obtain⟨k,bk⟩:=W.bk;have ul:=Yp hb;obtain⟨g,gn⟩:=W.gd pg (Yj);have hM:∀ c,(c=pd\/c=lp)->∃ o,H c≈o/\Mv U o:=by
  rintro c (rfl | rfl)
  ·exact⟨_,h1,.inr (.inl ⟨_,Z⟩)⟩
  ·exact⟨_,h2,.inl ⟨Z⟩⟩
 have mz:∀ c,(c=pd\/c=lp)->Z c:=by
  rintro c (rfl | rfl)
  ·exact zp.1
  ·exact zp.2
 refine⟨pd,dx,_,xr,Y,h1,WQ _ _ _,λQ2 E2 hQ hE=>?_⟩;have km:∀ {H2:Hp},(∀ c o,c≠pd->c≠lp->H c≈o->H2 c≈o)->∀ c o,¬ (c=pd\/c=lp)->H c≈o->H2 c≈o:=λkp c o n e=>kp c o (λz=>n (.inl z)) (λz=>n (.inr z)) e;cases act with
 | chg fc rt gc =>
  refine⟨pd,b,lp,dx,tx,xr,Z,h1,rt,.inr (.inr (.inl ⟨us,dk,k,pg.1,pg.2,Z,yK rt,bk.at_,g,gn,fc,gc,O,λb2 k2 sl t2 H2 hsl AS Km OW oj Al=>?_⟩))⟩;refine hQ _ _ λa H3 s3 ha=>q a b2 t2 H3 (.inr AS) (Eg.mono ⟨⟨us++[.ref b],OW,CH (Paired.mapP hb λ_ _ z=>z.keepM hC hB hD hM mz (km Km)) ⟨b,k,Y,bk.keepM (U:=U) (M:=λc=>c=pd\/c=lp) hC hB hD hM mz (km Km)⟩⟩,⟨k2,oj.sub λc z=>zz c z⟩,λh hh=>?_⟩ s3) (λc o n1 n2 e=>s3 _ _ (Km c o n1 n2 e)) (.inr ⟨Y,sl,hsl,ha,s3 _ _ Al⟩)
  rcases Yk.mp hh with rfl | hh
  ·exact⟨gc.1,gc.2.1⟩
  rcases Ym.mp hh with hh | hh
  ·exact W.gd h (Yq _ hh)
  ·rw[Yc.mp hh];exact⟨g,gn⟩
 | noB h =>
  have u0:us=[]:=List.length_eq_zero_iff.mp (by rw[<- ul,h];rfl);refine⟨pd,b,lp,dx,tx,"back",["back"],Y,h1,WU,.inl ⟨Y,us,dk,.inl ⟨u0,λH' s=>hE _ _ _ ⟨Y,Y,λa H3 s3 e=>q a b tx H3 (.inl rfl) (W.mono (s.trans s3)) (λc o _ _ e=>s3 _ _ (s _ _ e)) (.inl ⟨Y,e⟩)⟩⟩⟩⟩
 | back e =>
  subst e;obtain⟨D8,vb,eu,p1,b0,k0,rfl,om⟩:=Paired.unsnoc hb;refine⟨pd,b,lp,dx,tx,"back",["back"],Y,h1,WU,.inl ⟨Y,us,dk,.inr ⟨D8,b0,eu,λsl t2 H2 hsl AS Km OW Al=>?_⟩⟩⟩;refine hQ _ _ λa H3 s3 ha=>q a b0 t2 H3 (.inr AS) (Eg.mono ⟨⟨D8,OW,Paired.mapP p1 λ_ _ z=>z.keepM hC hB hD hM mz (km Km)⟩,⟨k0,om.keepM (U:=U) (M:=λc=>c=pd\/c=lp) hC hB hD hM mz (km Km)⟩,λh hh=>?_⟩ s3) (λc o n1 n2 e=>s3 _ _ (Km c o n1 n2 e)) (.inr ⟨Y,sl,hsl,ha,s3 _ _ Al⟩);refine W.gd h (Yq _ ?_)
  rcases Yk.mp hh with rfl | hh
  ·exact E1 _ (Yj)
  ·exact Gy _ hh
def RJ(h:Pg):Dt:=.tuple [.list (h.1.map Tf),.list (h.2.map N0)]
def qp(k:Nat){ρ:List Row}(g:Ak ρ):(ρ.map Tf).all (W.kqdOk (k + 2))=true:=by
 rw[C6];intro d hd;obtain⟨r,hr,rfl⟩:=Yg.mp hd;show(W.kqdOk (k + 1) (.str r.1)&&(((r.2.map PySem.W.Dat.str).all (W.kqdOk k))&&true))=true;have e:(r.2.map PySem.W.Dat.str).all (W.kqdOk k)=true:=by
  rw[C6];intro y hy;obtain⟨x,hx,rfl⟩:=Yg.mp hy;exact Ox k (xN g hr x hx)
 rw[Ox (k + 1) (g.word r hr),e];rfl
theorem f_{K:Fg}{Z:δ->Prop}{H:Hp}:∀ {hist:List Pg}{qs:LV},Paired (QV Z H) hist qs->A7 K H qs (hist.map RJ)
 | _,_,.nil=>.nil
 | _,_,.cons ⟨t,l,ln,e,ht,⟨vs,a1,a2⟩,⟨us,b1,b2⟩,_⟩ r=>by
  subst e;exact .cons (.tuple (AG.of ht) (.cons (.list (SqL.of a1) (gx a2)) (.cons (.list (SqL.of b1) (WD b2)) .nil))) (f_ r)
def wO{hist:List Pg}(h:∀ x∈hist,Ak x.1/\B9 x.1 x.2):W.kqdOk 9 (.list (hist.map RJ))=true:=by
 show(hist.map RJ).all (W.kqdOk 8)=true;rw[C6];intro d hd;obtain⟨x,hx,rfl⟩:=Yg.mp hd;obtain⟨g,gn⟩:=h x hx;show(((x.1.map Tf).all (W.kqdOk 6))&&(((x.2.map N0).all (W.kqdOk 6))&&true))=true;rw[qp 4 g,iP 2 (dw g gn)];rfl
def Nf(l:List Pg):Prop:=∀ h∈l,("thing":Str)∈h.1.map 0.8
def pQ{ρ:List Row}(h:("thing":Str)∈ρ.map 0.8)(c:A1):("thing":Str)∈(IX ρ c).map 0.8:=by
 cases c with
 | kind x us =>
  show _∈(ρ++[(x,us)]).map 0.8;rw[Br];exact Gy _ h
 | tie x y =>
  show _∈(CO ρ x y).map 0.8;rw[SQ];exact h
 | name x n=>exact h
 | deed x d m=>exact h
def QR(N:Nat)(l:List Pg):Prop:=∀ h∈l,∀ n∈h.2,↑n.2.2<=N
def qM{x:Str}{c:A1}(rt:Ep x (Ay c)):x≠"":=λe=>by
 have:=rt.sp;rw[e,show Txt.split ("":Str) " "=([""]:LS) by rfl']at this;obtain⟨y,hy⟩:=ik c;rw[<- this]at hy;cases hy
def yW{N:Nat}{ns:List AN}(h:∀ n∈ns,↑n.2.2<=N)(c:A1):∀ n∈Hg ns c,↑n.2.2<=N + 1:=by
 intro n hn;cases c with
 | kind x us=>exact KH (h n hn)
 | tie x y=>exact KH (h n hn)
 | name x m =>
  rcases Ym.mp hn with hn | hn
  ·exact KH (h n hn)
  ·rw[Yc.mp hn];exact BC _
 | deed x d m =>
  obtain⟨k,hk,rfl⟩:=Yg.mp hn;have:=h k hk;unfold Cj;split
  ·show↑(k.2.2++[(d,m)])<=N + 1;rw[Yo];show ↑k.2.2 + 1<=N + 1;omega
  ·omega
inductive Vw(C B D U:δ)(vs:LV)(H:Hp)(Q:VK)(AJ:XK):Prop
 | mk:∀(Z:δ->Prop) (p pd lp lq t b tx:δ) (pg:Pg) (hist:List Pg) (qs:LV) (N:Nat),vs=[.ref p,.ref pd,.ref t,.ref lq]->(∃ o,H p≈o/\FI o)->(Z p/\Z pd/\Z lp/\Z lq)->(∀ c,Z c->∃ o,H c≈o)->(p≠pd/\p≠lp/\p≠lq/\lq≠pd/\lq≠lp)->Eg C B D U Z pd lp tx H b pg hist->QV Z H pg (.ref t)->H lq≈(.lst qs)->Paired (QV Z H) hist qs->↑hist<=100->QR N (pg :: hist)->N<64->(∀ t' b' MJ CS AY Kg H',(MJ=tx\/H MJ=none)->Eg C B D U Z pd lp MJ H' b' CS AY->QV Z H' CS (.ref t')->H' lq≈(.lst Kg)->Paired (QV Z H') AY Kg->(∀ c o,¬ (c=p\/c=pd\/c=lp\/c=lq)->H c≈o->H' c≈o)->(∃ o,H' p≈o/\FI o)->↑AY<=↑hist + 1->QR (N + 1) (CS :: AY)->(Nf (pg :: hist)->Nf (CS :: AY))->Q (.ref t') H')->Vw C B D U vs H Q AJ
abbrev mD:LS:=["pot","desk","now","past","heard","row"]
abbrev Nx:LS:=["pot","desk","now","past"]
def kN:Aa mD Nx (AL Su):=by nofun
set_option maxHeartbeats 8000000 in
def xC{Ds:Nat->δ}(F:Def K mg "_law_turn" Su Nx f fd)(hC:U≠C)(hB:U≠B)(hD:U≠D)(int:mg "int"=none)(DT:Def K mg "_law_take" LJ ["pot","many"] fT fdT)(GT:⋯ 1 fT fdT ["pot","many"] Mq)
  (DH:Def K mg "_law_heard" Pk ["desk","row"] fH fdH) (GH:⋯ 12 fH fdH ["desk","row"] (O_ U Ds (Mj P w C B D U Ds))) (DR:Def K mg "_law_good_row" JD Pt fR fdR) (GR:⋯ 3 fR fdR Pt W_)
  (DG:Def K mg "_law_grown" NK Ny fG fdG) (GG:⋯ 1 fG fdG Ny WL):⋯ 13 f fd Nx (Vw C B D U):=by
 nomatch F.fn.ok kN
 ·obtain⟨Z,p,pd,lp,lq,t,b,UZ,pg,hist,qs,N,rfl,_⟩:=h;rfl
 ·obtain⟨Z,p,pd,lp,lq,t,b,UZ,pg,hist,qs,N,rfl,⟨o,hp,ho⟩,⟨zp,zpd,zlp,zlq⟩,zz,⟨n1,n2,n3,n4,n5⟩,W,hv,hlq,hqs,fw,few,Ur,q⟩:=h;have nd:=kN.nd;have hu:=hr.units;have Aq:Ab 1 _:=hr.mono 0.1;have Gb:Ab 3 _:=hr.mono 0.1
  ac_nf
  refine'⟨_,(pS (Ag (An BP (AV DT GT Aq (pC 0.9 (pC AH AB))) AH (Aj _)) (pS (sE 4 nd (AV DH GH hr (pC 1.5 (pC Ah AB))))
   (pS (Ag (An (Rb hu) (pv 3) (BH AB) (Aj _)) (AF (AQ (AO (r:=DJ K) Dz (A5 (pC H_ 2.5)) (C4 SS 1.0 int Nd (pC (C3 (Rb hu) (pv 4) (A5 (pC Ah (pC H_ AB))) (Aj _)) AB)) 0.2))) Af)
   (AF (AQ (AO (r:=DJ K) Dz (A5 (pC H_ (pC (Vl EN PySem.F.slot_list_pop PySem.F.type_list_pop Ve (pv 3)) AB))) (C4 SS 1.0 int Nd (pC (C3 (Rb hu) (pv 4) (A5 (pC Ah (pC (BH (pC Ah AB)) AB))) (Aj _)) AB)) 0.2))))) Af)
   (pS (sE 5 nd (AV DR GR Gb (pC 0.9 (pC (AO (r:=DJ K) Dz 1.6 AH 0.2) (pC (AO (r:=DJ K) Dz 1.6 AH 0.2) AB)))))
   (pS (Ag (An BP (pv 5) Ah (Aj _)) (AF (AQ 1.6)) Af)
   (pS (Ag (An (K8 hu) (AV DH GH hr (pC 1.5 (pC (pv 5) AB))) (A5 (pC Ah (pC (BH (pC Ah AB)) AB))) (Aj _)) Bj Af)
   (pS (B8 (DQ EN Ft Fq FR (pv 3) 2.5))
   (AF (AQ (AV DG GG Aq (pC (AO (r:=DJ K) Dz 1.6 AH 0.2) (pC (AO (r:=DJ K) Dz 1.6 AH 0.2) (pC (DQ NS PySem.F.slot_str_split PySem.F.type_str_split Wg (pv 5) (pC Ah AB)) AB))))))))))),?_⟩
  exists let b:=AE _ a;let c:=AE _ b;let e:=AE _ c;let f:=AE _ e;let g:=_;let h:=_;let i:=AE (By _ h _) g;let j:=AE _ i;AE (By _ j _) f _ _ _
  have oM:∀ {o:HO},FI o->Mv U o:=λ{o} ho=>by
   obtain⟨_,_,e,_⟩:=ho;exact .inl ⟨_,e⟩
  refine⟨Z,p,5,o,Y,hp,ho,Q,Q,λv o1 _ _ Jl=>⟨Y,Z,?_⟩⟩;have d1:Drawn p H (upd H p o1):=Drawn.upd Jl;have Fd:(upd H p o1) p≈o1:=uS;generalize upd H p o1=H1 at d1 Fd ⊢;have k1:∀ c o,¬ (c=p)->H c≈o->H1 c≈o:=λc o n e=>d1.keep c o n e;have hMp:∀ c,c=p->∃ o,H c≈o/\Mv U o:=λc e=>⟨o,by rw[e];exact hp,oM ho⟩;have mzp:∀ c,c=p->Z c:=λc e=>by rw[e];exact zp
  have txp:UZ≠p:=λz=>by
   obtain⟨_,_,e,_⟩:=ho;have h:=W.txd;rw[z,hp,e]at h;cases h
  have W1:=W.keepM hC hB hD hMp mzp k1 (λz=>n1 z.symm) (λz=>n2 z.symm) txp;have Dc:=hv.keepM (U:=U) hMp mzp k1;have L3:=k1 _ _ (λz=>n3 z.symm) hlq;have QZ:Paired (QV Z H1) hist qs:=Paired.mapP hqs λ_ _ z=>z.keepM (U:=U) hMp mzp k1;have Zt:∀ c,Z c->∃ o,H1 c≈o:=λc z=>by
   by_cases e:c=p
   ·exact⟨o1,by rw[e];exact Fd⟩
   ·obtain⟨o',h'⟩:=zz c z;exact⟨o',k1 _ _ e h'⟩
  have VF:∀ {c:δ},H1 c=none->H c=none:=λ{c} n=>X_.mpr λo' e=>by
   by_cases z:c=p
   ·rw[z,Fd]at n;cases n
   ·rw[k1 _ _ z e]at n;cases n
  refine BG (λ_=>?_) (λ_=>?_)
  ·obtain⟨CS,AY,o2,act,cs⟩:∃ CS AY o2,Act pg hist "back" CS AY o2/\((hist=[]/\CS=pg/\AY=[]/\o2=dN)\/(hist=AY++[CS]/\o2=dT)):=by
    rcases List.eq_nil_or_concat hist with e | ⟨h0,h,e⟩
    ·exact⟨pg,hist,dN,.noB e,.inl ⟨e,Y,e,Y⟩⟩
    ·exact⟨h,h0,dT,.back (by rw[e,List.concat_eq_append]),.inr ⟨by rw[e,List.concat_eq_append],Y⟩⟩
   refine⟨Z,eY (E:=E0) hC hB hD W1 fw ⟨zpd,zlp⟩ Zt act λa b' x2 H2 f2 W2 k2 du=>?_⟩;have rep:Rep K H2 (.ref a) o2:=du.rep;obtain⟨us1,og,_⟩:=W1.ex;obtain⟨dx,g1,g2,g3⟩:=og.ex;have OK:∀ c,(c=pd\/c=lp)->∃ o,H1 c≈o/\Mv U o:=by
    rintro c (rfl | rfl)
    ·exact⟨_,g1,.inr (.inl ⟨_,Z⟩)⟩
    ·exact⟨_,g2,.inl ⟨Z⟩⟩
   have N2:∀ c,(c=pd\/c=lp)->Z c:=by
    rintro c (rfl | rfl)
    ·exact zpd
    ·exact zlp
   have N3:∀ c o,¬ (c=pd\/c=lp)->H1 c≈o->H2 c≈o:=λc o n e=>k2 c o (λz=>n (.inl z)) (λz=>n (.inr z)) e;have JZ:=Dc.keepM (U:=U) OK N2 N3;have Fy:=k2 _ _ n4 n5 L3;have Dp:=k2 _ _ n1 n2 Fd;have G6:Paired (QV Z H2) hist qs:=Paired.mapP QZ λ_ _ z=>z.keepM (U:=U) OK N2 N3;have N4:∀ c o,¬ (c=p\/c=pd\/c=lp\/c=lq)->H c≈o->H2 c≈o:=λc o n e=>k2 c o (λz=>n (.inr (.inl z))) (λz=>n (.inr (.inr (.inl z)))) (k1 c o (λz=>n (.inl z)) e);refine⟨Z,BC _,λl0 Dd=>?_⟩;have s3:AA H2 (upd H2 l0 (.lst [])):=AI Dd;have h0:(upd H2 l0 (.lst [])) l0≈(.lst []):=uS;generalize upd H2 l0 (.lst [])=H3 at s3 h0 ⊢;have C9:=s3 _ _ Fy;have G5:Paired (QV Z H3) hist qs:=Paired.mapP G6 λ_ _ z=>z.mono s3;refine⟨.list (hist.map RJ),.list [],.list (SqL.of C9) (f_ G5),.list (SqL.of h0) .nil,wO (λx hx=>W.gd x (Yq _ hx)),Y,Z,?_⟩;rw[WX]
   rcases cs with⟨e1,e2,e3,e4⟩ | ⟨e1,e4⟩
   ·rw[show hist.isEmpty=true by rw[e1];rfl];refine A4 ⟨Z,W,λtt htt=>⟨Z,W,λt2 AS=>?_⟩⟩;have s4:AA H3 (upd H3 tt (.tup [.non,.ref t])):=AI htt;have h4:(upd H3 tt (.tup [.non,.ref t])) tt≈(.tup [.non,.ref t]):=uS;generalize upd H3 tt (.tup [.non,.ref t])=H4 at s4 h4 AS ⊢;have s5:AA H4 (upd H4 t2 (.tup [.str "NoRow",.non])):=AI AS;have h5:(upd H4 t2 (.tup [.str "NoRow",.non])) t2≈(.tup [.str "NoRow",.non]):=uS;generalize upd H4 t2 (.tup [.str "NoRow",.non])=H5 at s5 h5 ⊢;have Kc:=s3.trans (s4.trans s5);rw[e4]at rep;refine⟨dN,dN,rep.mono Kc,.tuple (AG.of h5) (.cons (.str _) (.cons .none .nil)),by rfl',by rfl',.inr ⟨Z,tt,G,.ref t,Y,Y,AG.of (s5 _ _ h4),?_,?_⟩⟩
    ·rw[IF];exact CA (j:=1) rfl
    ·refine q t b' x2 CS AY qs H5 (f2.imp id VF) (W2.mono Kc) (by rw[e2];exact JZ.mono Kc) (Kc _ _ Fy) (by rw[e3,<- e1];exact Paired.mapP G6 λ_ _ z=>z.mono Kc) (λc o n e=>Kc _ _ (N4 c o n e)) ⟨o1,Kc _ _ Dp,Jl⟩ (by rw[e3];exact BC _) (λh hh n hn=>?_) (λT h hh=>T h (by rw[e2,e3]at hh;rw[e1];exact hh));rw[e2,e3]at hh;rw[Yc.mp hh]at hn;exact KH (few pg Yj n hn)
   ·rw[show hist.isEmpty=false by rw[e1];cases AY <;> rfl];rw[e1]at G5;obtain⟨JW,v0,eq,p1,Ej⟩:=Paired.unsnoc G5;subst eq;refine AU ⟨Z,.inl ⟨Y,_,SqL.of C9⟩,lq,JW++[v0],v0,Y,Y,C9,by rw[Yo];simp,?_⟩;rw[List.dropLast_concat];have hMq:∀ c,c=lq->∃ o,H3 c≈o/\Mv U o:=λc e=>⟨.lst (JW++[v0]),by rw[e];exact C9,.inl ⟨Z⟩⟩;have mzq:∀ c,c=lq->Z c:=λc e=>by rw[e];exact zlq
    have k4:∀ c o,¬ c=lq->H3 c≈o->(upd H3 lq (.lst JW)) c≈o:=λc o n e=>by rw[AD n];exact e
    have h4:(upd H3 lq (.lst JW)) lq≈(.lst JW):=uS;generalize upd H3 lq (.lst JW)=H4 at k4 h4 ⊢;have W4:=(W2.mono s3).keepM hC hB hD hMq mzq k4 (λz=>n4 z.symm) (λz=>n5 z.symm) (λz=>by have h:=(W2.mono s3).txd;rw[z,C9]at h;cases h);have m_:=Ej.keepM (U:=U) hMq mzq k4;have nR:Paired (QV Z H4) AY JW:=Paired.mapP p1 λ_ _ z=>z.keepM (U:=U) hMq mzq k4;have QS:Rep K H4 (.ref a) o2:=by
     have tk:∀ c xs,H2 c≈(.tup xs)->H4 c≈(.tup xs):=λc xs e=>k4 _ _ (λz=>by rw[z,Fy]at e;cases e) (s3 _ _ e)
     rcases du with⟨e,e'⟩ | ⟨e,sl,n,e',oW⟩
     ·exact Du.rep (H:=H1) (.inl ⟨e,tk _ _ e'⟩)
     ·exact Du.rep (H:=H1) (.inr ⟨e,sl,n,tk _ _ e',k4 _ _ (λz=>by rw[z,L3]at n;cases n) (s3 _ _ oW)⟩)
    obtain⟨t0,l,ln,rfl,Jk,pv0⟩:=Ej;have sub:∀ h∈CS :: AY,h∈pg :: hist:=λh hh=>by
     refine Yq _ ?_;rw[e1]
     rcases Yk.mp hh with rfl | hh
     ·exact E1 _ Yj
     ·exact Gy _ hh
    refine⟨W,λtt htt=>⟨Z,V,λl1 Ap=>⟨W,λt2 AS=>?_⟩⟩⟩;have s5:AA H4 (upd H4 tt (.tup [.non,.ref t0])):=AI htt;have h5:(upd H4 tt (.tup [.non,.ref t0])) tt≈(.tup [.non,.ref t0]):=uS;generalize upd H4 tt (.tup [.non,.ref t0])=H5 at s5 h5 Ap AS ⊢;have s6:AA H5 (upd H5 l1 (.lst [.str "ok"])):=AI Ap;have h6:(upd H5 l1 (.lst [.str "ok"])) l1≈(.lst [.str "ok"]):=uS;generalize upd H5 l1 (.lst [.str "ok"])=H6 at s6 h6 AS ⊢;have s7:AA H6 (upd H6 t2 (.tup [.str "told",.ref l1])):=AI AS;have h7:(upd H6 t2 (.tup [.str "told",.ref l1])) t2≈(.tup [.str "told",.ref l1]):=uS;generalize upd H6 t2 (.tup [.str "told",.ref l1])=H7 at s7 h7 ⊢;have Ka:=s5.trans (s6.trans s7);rw[e4]at QS;refine⟨dT,dT,QS.mono Ka,.tuple (AG.of h7) (.cons (.str _) (.cons (.list (SqL.of (s7 _ _ h6)) (.cons (.str _) .nil)) .nil)),by rfl',by rfl',.inr ⟨Z,tt,G,.ref t0,Y,Y,AG.of (s7 _ _ (s6 _ _ h5)),?_,?_⟩⟩
    ·rw[IF];exact CA (j:=1) rfl
    ·refine q t0 b' x2 CS AY JW H7 (f2.imp id VF) (W4.mono Ka) (m_.mono Ka) (Ka _ _ h4) (Paired.mapP nR λ_ _ z=>z.mono Ka) (λc o n e=>Ka _ _ (k4 c o (λz=>n (.inr (.inr (.inr z)))) (s3 _ _ (N4 c o n e)))) ⟨o1,Ka _ _ (k4 _ _ n3 (s3 _ _ Dp)),Jl⟩ (by rw[e1,Yo];omega) (λh hh n hn=>KH (few h (sub h hh) n hn)) λT h hh=>T h (sub h hh)
  ·obtain⟨t0,l,ln,et,ht,hR,⟨us,BN,hN⟩,zl,zln⟩:=id Dc;cases et;obtain⟨g,gn⟩:=W.gd pg Yj;refine⟨Z,Z,t,G,Z,Y,AG.of ht,Hk _ _,Z,t,G,Z,Y,AG.of ht,CA (j:=1) rfl,p,l,ln,pg.1,pg.2,us,Y,⟨o1,Fd,Jl⟩,(λz=>zl (z ▸ zp)),(λz=>zln (z ▸ zp)),hR,g,BN,hN,gn,(λn hn=>QA (few pg Yj n hn) Ur),λx H2 d2 cx=>?_⟩;have k2:∀ c o,¬ (c=p)->H1 c≈o->H2 c≈o:=λc o n e=>d2.keep c o n e;have L8:∀ c,c=p->∃ o,H1 c≈o/\Mv U o:=λc e=>⟨o1,by rw[e];exact Fd,oM Jl⟩;have W2:=W1.keepM hC hB hD L8 mzp k2 (λz=>n1 z.symm) (λz=>n2 z.symm) txp;have JZ:=Dc.keepM (U:=U) L8 mzp k2;have Fy:=k2 _ _ (λz=>n3 z.symm) L3;have G6:Paired (QV Z H2) hist qs:=Paired.mapP QZ λ_ _ z=>z.keepM (U:=U) L8 mzp k2;have N4:∀ c o,¬ (c=p\/c=pd\/c=lp\/c=lq)->H c≈o->H2 c≈o:=λc o n e=>k2 c o (λz=>n (.inl z)) (k1 c o (λz=>n (.inl z)) e);obtain⟨o2,Dp,E7⟩:=d2.pot;have Zs:∀ c,Z c->∃ o,H2 c≈o:=λc z=>by
    by_cases e:c=p
    ·exact⟨o2,by rw[e];exact Dp⟩
    ·obtain⟨o',h'⟩:=Zt c z;exact⟨o',k2 _ _ e h'⟩
   refine⟨Z,Y,Z,?_⟩;rw[B5]
   rcases cx with rfl | ⟨c,fc,rt,gc⟩
   ·rw[Jb rfl];exact A4 ⟨Z,q t b UZ pg hist qs H2 (.inl rfl) W2 JZ Fy G6 N4 ⟨o2,Dp,E7⟩ 0.0 (λh hh n hn=>KH (few h hh n hn)) λT=>T⟩
   have ne:x≠"":=qM rt;rw[Jc ne];refine AU ⟨Z,Z,eY (E:=E0) hC hB hD W2 fw ⟨zpd,zlp⟩ Zs (.chg fc rt gc) λa b' x3 H3 f3 W3 k3 du=>?_⟩;have rep:Rep K H3 (.ref a) dT:=du.rep;obtain⟨us2,OW,_⟩:=W2.ex;obtain⟨dx,g1,g2,g3⟩:=OW.ex;have OK:∀ c,(c=pd\/c=lp)->∃ o,H2 c≈o/\Mv U o:=by
    rintro c (rfl | rfl)
    ·exact⟨_,g1,.inr (.inl ⟨_,Z⟩)⟩
    ·exact⟨_,g2,.inl ⟨Z⟩⟩
   have N2:∀ c,(c=pd\/c=lp)->Z c:=by
    rintro c (rfl | rfl)
    ·exact zpd
    ·exact zlp
   have N3:∀ c o,¬ (c=pd\/c=lp)->H2 c≈o->H3 c≈o:=λc o n e=>k3 c o (λz=>n (.inl z)) (λz=>n (.inr z)) e;have aX:=JZ.keepM (U:=U) OK N2 N3;have C9:=k3 _ _ n4 n5 Fy;have CT:=k3 _ _ n1 n2 Dp;have G5:Paired (QV Z H3) hist qs:=Paired.mapP G6 λ_ _ z=>z.keepM (U:=U) OK N2 N3;obtain⟨us3,oZ,_⟩:=W3.ex;obtain⟨dx3,m1,m2,_⟩:=oZ.ex;have UT:∀ c,Z c->∃ o,H3 c≈o:=λc z=>by
    by_cases e1:c=pd
    ·exact⟨_,by rw[e1];exact m1⟩
    ·by_cases e2:c=lp
     ·exact⟨_,by rw[e2];exact m2⟩
     ·obtain⟨o',h'⟩:=Zs c z;exact⟨o',k3 _ _ e1 e2 h'⟩
   refine⟨V,λl1 Ap=>⟨W,λt2 AS=>?_⟩⟩;have s6:AA H3 (upd H3 l1 (.lst [.str "ok"])):=AI Ap;have h6:(upd H3 l1 (.lst [.str "ok"])) l1≈(.lst [.str "ok"]):=uS;generalize upd H3 l1 (.lst [.str "ok"])=H6 at s6 h6 AS ⊢;have s7:AA H6 (upd H6 t2 (.tup [.str "told",.ref l1])):=AI AS;have h7:(upd H6 t2 (.tup [.str "told",.ref l1])) t2≈(.tup [.str "told",.ref l1]):=uS;generalize upd H6 t2 (.tup [.str "told",.ref l1])=H7 at s7 h7 ⊢;have F0:=s6.trans s7;refine⟨dT,dT,rep.mono F0,.tuple (AG.of h7) (.cons (.str _) (.cons (.list (SqL.of (s7 _ _ h6)) (.cons (.str _) .nil)) .nil)),by rfl',by rfl',Z,?_⟩;rw[IF];have ql:=Yp hqs;refine AU ⟨Z,.inl ⟨Y,_,SqL.of (F0 _ _ C9)⟩,Z,lq,qs,Z,Y,F0 _ _ C9,B0 0.0,?_⟩;have hMq:∀ c,c=lq->∃ o,H7 c≈o/\Mv U o:=λc e=>⟨.lst qs,by rw[e];exact F0 _ _ C9,.inl ⟨Z⟩⟩;have mzq:∀ c,c=lq->Z c:=λc e=>by rw[e];exact zlq
   have k8:∀ c o,¬ c=lq->H7 c≈o->(upd H7 lq (.lst (qs++[.ref t]))) c≈o:=λc o n e=>by rw[AD n];exact e
   have h8:(upd H7 lq (.lst (qs++[.ref t]))) lq≈(.lst (qs++[.ref t])):=uS;generalize upd H7 lq (.lst (qs++[.ref t]))=H8 at k8 h8 ⊢;have W8:=(W3.mono F0).keepM hC hB hD hMq mzq k8 (λz=>n4 z.symm) (λz=>n5 z.symm) (λz=>by have h:=(W3.mono F0).txd;rw[z,F0 _ _ C9]at h;cases h);have aW:=(aX.mono F0).keepM (U:=U) hMq mzq k8;have nQ:Paired (QV Z H8) hist qs:=Paired.mapP G5 λ_ _ z=>(z.mono F0).keepM (U:=U) hMq mzq k8;obtain⟨t1,l',MX,et,aZ,n6,⟨lM,G8,RO⟩,lK,ZH⟩:=id aW;cases et;refine⟨Z,t,G,Z,Y,AG.of aZ,Hk _ _,Z,t,G,Z,Y,AG.of aZ,CA (j:=1) rfl,Z,Y,x," ",Y,Y,X7,sL (by have:=rt.len;omega),by rw[rt.sp];have:=rt.few;exact sL 0.0,λpw hpw=>?_⟩;rw[rt.sp];have s9:AA H8 (upd H8 pw (.lst ((Ay c).map V.str))):=AI hpw;have e9:(upd H8 pw (.lst ((Ay c).map V.str))) pw≈(.lst ((Ay c).map V.str)):=uS;generalize upd H8 pw (.lst ((Ay c).map V.str))=H9 at s9 e9 ⊢;have gle:=g.le;have gfew:=gn.few;refine⟨l',MX,pw,pg.1,pg.2,lM,c,Y,NF n6 s9,s9 _ _ G8,RO.mono (CN s9),⟨e9,rt.few,rt.sh⟩,fc,O,O,λr hr=>BL (g.few r hr) 0.1,λn hn=>by have:=few pg Yj n hn;omega,λt' l2 ln2 ZI Aw B2 Ma OJ ZY oC ol oln ht'0=>?_⟩;have Gz:=s9.trans B2;have lJ:∀ c,Z c->∃ o,H9 c≈o:=λc z=>by
    by_cases e:c=lq
    ·exact⟨_,s9 _ _ (by rw[e];exact h8)⟩
    ·obtain⟨o',h'⟩:=UT c z;exact⟨o',s9 _ _ (k8 _ _ e (F0 _ _ h'))⟩
   have nz:∀ {y y':δ},¬ Z y->(y'=y\/H9 y'=none)->¬ Z y':=λ{y y'} n h z=>by
    rcases h with e | e
    ·exact n (e ▸ z)
    ·obtain⟨o',h'⟩:=lJ _ z;rw[e]at h';cases h'
   have oQ:∀ {c:δ},H2 c=none->H c=none:=λ{c} n=>VF (X_.mpr λo' e=>by
    by_cases z:c=p
    ·rw[z,Dp]at n;cases n
    ·rw[k2 _ _ z e]at n;cases n)
   refine q t' b' x3 (IX pg.1 c,Hg pg.2 c) (hist++[pg]) (qs++[.ref t]) Aw (f3.imp id oQ) (W8.mono Gz) ⟨t',l2,ln2,Y,Ma,OJ,⟨ZI,ZY,oC⟩,nz lK ol,nz ZH oln⟩ (Gz _ _ h8) (Paired.mapP (CH nQ aW) λ_ _ z=>z.mono Gz) (λc o n e=>Gz _ _ (k8 c o (λz=>n (.inr (.inr (.inr z)))) (F0 _ _ (k3 c o (λz=>n (.inr (.inl z))) (λz=>n (.inr (.inr (.inl z)))) (N4 c o n e))))) ⟨o2,Gz _ _ (k8 _ _ n3 (F0 _ _ CT)),E7⟩ (by rw[Yo];exact Ye _) (λh hh n hn=>?_) (λT h hh=>?_)
   ·rcases Yk.mp hh with rfl | hh
    ·exact yW (few pg Yj) c n hn
    rcases Ym.mp hh with hh | hh
    ·exact KH (few h (Yq _ hh) n hn)
    ·rw[Yc.mp hh]at hn;exact KH (few pg Yj n hn)
   ·rcases Yk.mp hh with rfl | hh
    ·exact pQ (T pg Yj) c
    rcases Ym.mp hh with hh | hh
    ·exact T h (Yq _ hh)
    ·rw[Yc.mp hh];exact T pg Yj
structure One(C B D U:δ)(Z:δ->Prop)(pd lp lq t tx:δ)(H:Hp)(pg:Pg)(hist:List Pg)(N:Nat):Prop where
 zs:Z pd/\Z lp/\Z lq
 ne:lq≠pd/\lq≠lp
 ex:∃ b qs,Eg C B D U Z pd lp tx H b pg hist/\H lq≈(.lst qs)/\Paired (QV Z H) hist qs
 qv:QV Z H pg (.ref t)
 fw:↑hist<=N
 few:QR N (pg :: hist)
 th:Nf (pg :: hist)
section
variable {C B D U:δ}{Z Z' M:δ->Prop}{pd lp lq t tx p:δ}{H H':Hp}{pg:Pg}{hist:List Pg}{N N':Nat}
theorem One.mono(o:One C B D U Z pd lp lq t tx H pg hist N)(s:AA H H'):One C B D U Z pd lp lq t tx H' pg hist N:=by
 obtain⟨b,qs,a1,a2,a3⟩:=o.ex;exact⟨o.zs,o.ne,⟨b,qs,a1.mono s,s _ _ a2,Paired.mapP a3 λ_ _ z=>z.mono s⟩,o.qv.mono s,o.fw,o.few,o.th⟩
def One.le(o:One C B D U Z pd lp lq t tx H pg hist N)(h:N<=N'):One C B D U Z pd lp lq t tx H pg hist N' :=
 ⟨o.zs,o.ne,o.ex,o.qv,BL o.fw h,λx hx n hn=>BL (o.few x hx n hn) h,o.th⟩
theorem One.keepM(hC:U≠C)(hB:U≠B)(hD:U≠D)(o:One C B D U Z pd lp lq t tx H pg hist N)(hM:∀ b,M b->∃ o,H b≈o/\Mv U o)(mz:∀ b,M b->Z b)(s:∀ b o,¬ M b->H b≈o->H' b≈o)(n1:¬ M pd)(n2:¬ M lp)(n3:¬ M lq)(n4:¬ M tx):One C B D U Z pd lp lq t tx H' pg hist N:=by
 obtain⟨b,qs,a1,a2,a3⟩:=o.ex;exact⟨o.zs,o.ne,⟨b,qs,a1.keepM hC hB hD hM mz s n1 n2 n4,s _ _ n3 a2,Paired.mapP a3 λ_ _ z=>z.keepM (U:=U) hM mz s⟩,o.qv.keepM (U:=U) hM mz s,o.fw,o.few,o.th⟩
def IQ.to(f:∀ l us,H l≈(.lst us)->¬ Z l->¬ Z' l){h:Pg}{l ln:δ}(q:IQ Z H h l ln):IQ Z' H h l ln:=by
 obtain⟨⟨vs,a1,a2⟩,⟨us,b,c⟩,d,e⟩:=q;exact⟨⟨vs,a1,a2⟩,⟨us,b,c⟩,f _ _ a1 d,f _ _ b e⟩
theorem QV.to(f:∀ l us,H l≈(.lst us)->¬ Z l->¬ Z' l){h:Pg}{v:V}(q:QV Z H h v):QV Z' H h v:=by
 obtain⟨t,l,ln,e,ht,pg⟩:=q;exact⟨t,l,ln,e,ht,pg.to f⟩
def BI.to(f:∀ l us,H l≈(.lst us)->¬ Z l->¬ Z' l){q k:δ}{ρ:List Row}{ns:List AN}(h:BI Z C B D H q k ρ ns):BI Z' C B D H q k ρ ns:=by
 obtain⟨dx,bo,mo,o,A3,BD,h1,h2,h3,h4,h5,h6⟩:=h.ex;exact⟨dx,bo,mo,o,A3,BD,h1,h2,h3,h4,h5,h6.imp λn v ⟨l,e,b,z⟩=>⟨l,e,b,f _ _ b z⟩⟩
theorem One.to(f:∀ l us,H l≈(.lst us)->¬ Z l->¬ Z' l)(zs:Z' pd/\Z' lp/\Z' lq)(o:One C B D U Z pd lp lq t tx H pg hist N):One C B D U Z' pd lp lq t tx H pg hist N:=by
 obtain⟨b,qs,a1,a2,a3⟩:=o.ex;obtain⟨us,c1,c2⟩:=a1.ex;obtain⟨k,bk⟩:=a1.bk;exact⟨zs,o.ne,⟨b,qs,⟨⟨us,c1,Paired.mapP c2 λ_ _ ⟨b',k',e,z⟩=>⟨b',k',e,z.to f⟩⟩,⟨k,bk.to f⟩,a1.gd⟩,a2,Paired.mapP a3 λ_ _ z=>z.to f⟩,o.qv.to f,o.fw,o.few,o.th⟩
end
def Rm{f:Nat->V}{i:Nat}(h:i<2):CL [f 0,f 1] (i:Int)≈(f i):=by
 rcases(by omega:i=0\/i=1)with rfl | rfl
 ·exact CA (j:=0) rfl
 ·exact CA (j:=1) rfl
def Gp{a b:Str}(ha:Cc a)(hb:Cc b):Cc (a++b):=by
 unfold Cc PyData.strOk at *;show((a.cps++b.cps).all _)=true;rw[Array.all_append,ha,hb];rfl
theorem O0:∀ {us:LS}{r:Str},Cc r->(∀ u∈us,Cc u)->Cc (Bh r us)
 | [],r,h,_=>h
 | u :: us,r,h,hu=>O0 (us:=us) (Gp (Gp h (by unfold Cc;rfl')) (hu u (Yj))) λv hv=>hu v (Yq _ hv)
def xQ{n:Nat}(h1:1<=n)(h4:n<=4):Cc (Hq n):=by
 have h:n=1\/n=2\/n=3\/n=4:=by omega
 unfold Cc
 rcases h with rfl | rfl | rfl | rfl <;> rfl'
def gP{ρ:List Row}{ns:List AN}(g:Ak ρ)(h:B9 ρ ns):∀ y∈K6 ρ ns,Cc y:=λy hy=>by
 have gw:∀ x∈ρ.map 0.8,Cc x:=λx hx=>eJ (J7 g x hx);have c1:∀ {t:Str},PyData.strOk t=true->Cc t:=λz=>z
 rcases Ym.mp hy with z | z
 ·obtain⟨r,hr,rfl⟩:=Yg.mp z;have hx:=gw r.1 (Yg.mpr ⟨r,hr,Y⟩);show Cc (Et r.1 r.2);unfold Et;split
  ·exact Gp (c1 0.7) hx
  ·exact O0 (Gp (Gp (c1 0.7) hx) (c1 0.7)) λu hu=>gw u (g.known r hr u hu)
 ·obtain⟨n,hn,hz⟩:=List.mem_flatMap.mp z;have gn:=h.each n hn;have hx:Cc n.1:=eJ gn.word
  rcases Yk.mp hz with rfl | hz
  ·exact Gp (Gp (Gp (c1 0.7) hx) (c1 0.7)) (xQ gn.one gn.four)
  ·obtain⟨p,hp,rfl⟩:=Yg.mp hz;exact Gp (Gp (O0 (Gp (c1 0.7) hx) λu hu=>gw u ((gn.deeds.call p.1 (Yg.mpr ⟨p,hp,Y⟩)).known u hu)) (c1 0.7)) (gw _ (gn.made p hp))
def dZ{l:LS}(h:∀ z∈l,Cc z):W.kqdOk 9 (.list (l.map PySem.W.Dat.str))=true:=by
 show(l.map PySem.W.Dat.str).all (W.kqdOk 8)=true;rw[C6];intro d hd;obtain⟨x,hx,rfl⟩:=Yg.mp hd;exact h x hx
def ZZ(pd lp lq:Nat->δ)(ls:δ)(c:δ):Prop:=c=ls\/∃ i,i<2/\(c=pd i\/c=lp i\/c=lq i)
structure ZG(pd lp lq:Nat->δ)(ld ls lps:δ):Prop where
 pp:∀ i j,i<2->j<2->i≠j->pd i≠pd j/\lp i≠lp j/\lq i≠lq j
 ql:∀ i j,i<2->j<2->lq i≠lp j
 sl:∀ i,i<2->ls≠lp i/\ls≠lq i
 nd:¬ ZZ pd lp lq ls ld
 np:¬ ZZ pd lp lq ls lps
structure FV(C B D U:δ)(ld ls lps:δ)(pd lp lq:Nat->δ)(Z:δ->Prop)(t tx:Nat->δ)(pg:Nat->Pg)(hist:Nat->List Pg)(N:Nat)(H:Hp):Prop where
 d:H ld≈(.lst [.ref (pd 0),.ref (pd 1)])
 s:H ls≈(.lst [.ref (t 0),.ref (t 1)])
 q:H lps≈(.lst [.ref (lq 0),.ref (lq 1)])
 one:∀ i,i<2->One C B D U Z (pd i) (lp i) (lq i) (t i) (tx i) H (pg i) (hist i) N
 ne:tx 0≠tx 1
def One.objs{C B D U:δ}{Z:δ->Prop}{pd lp lq t tx:δ}{H:Hp}{pg:Pg}{hist:List Pg}{N:Nat}(o:One C B D U Z pd lp lq t tx H pg hist N):(∃ dx f,H pd≈(.ins U dx f))/\(∃ us,H lp≈(.lst us))/\(∃ qs,H lq≈(.lst qs))/\H tx≈(.dT []):=by
 obtain⟨b,qs,a1,a2,a3⟩:=o.ex;obtain⟨us,c1,c2⟩:=a1.ex;obtain⟨dx,h1,h2,h3⟩:=c1.ex;exact⟨⟨G,h1⟩,⟨_,h2⟩,⟨_,a2⟩,h3⟩
section
variable {C B D U:δ}{ld ls lps:δ}{pd lp lq t tx:Nat->δ}{Z Z' M:δ->Prop}{pg:Nat->Pg}{hist:Nat->List Pg}{N:Nat}{H H':Hp}
theorem FV.mono(w:FV C B D U ld ls lps pd lp lq Z t tx pg hist N H)(s:AA H H'):FV C B D U ld ls lps pd lp lq Z t tx pg hist N H':=⟨s _ _ w.d,s _ _ w.s,s _ _ w.q,λi hi=>(w.one i hi).mono s,w.ne⟩
theorem FV.to(w:FV C B D U ld ls lps pd lp lq Z t tx pg hist N H)(f:∀ l us,H l≈(.lst us)->¬ Z l->¬ Z' l)(zs:∀ c,ZZ pd lp lq ls c->Z' c):FV C B D U ld ls lps pd lp lq Z' t tx pg hist N H :=
 ⟨w.d,w.s,w.q,λi hi=>(w.one i hi).to f ⟨zs _ (.inr ⟨i,hi,.inl rfl⟩),zs _ (.inr ⟨i,hi,.inr (.inl rfl)⟩),zs _ (.inr ⟨i,hi,.inr (.inr rfl)⟩)⟩,w.ne⟩
theorem FV.keepM(hC:U≠C)(hB:U≠B)(hD:U≠D)(w:FV C B D U ld ls lps pd lp lq Z t tx pg hist N H)(hM:∀ b,M b->∃ o,H b≈o/\Mv U o)(mz:∀ b,M b->Z b)(s:∀ b o,¬ M b->H b≈o->H' b≈o)
  (n:∀ i,i<2->¬ M (pd i)/\¬ M (lp i)/\¬ M (lq i)/\¬ M (tx i)) (nd:¬ M ld) (ns:¬ M ls) (np:¬ M lps):FV C B D U ld ls lps pd lp lq Z t tx pg hist N H' :=
 ⟨s _ _ nd w.d,s _ _ ns w.s,s _ _ np w.q,λi hi=>(w.one i hi).keepM hC hB hD hM mz s (n i hi).1 (n i hi).2.1 (n i hi).2.2.1 (n i hi).2.2.2,w.ne⟩
def E6{α:Type}(f:Nat->α)(j:Nat)(x:α)(i:Nat):α:=if i=j then x else f i
def Mr{α:Type}{f:Nat->α}{j:Nat}{x:α}:E6 f j x j=x:=if_pos rfl
def Ms{α:Type}{f:Nat->α}{i j:Nat}{x:α}(h:i≠j):E6 f j x i=f i:=if_neg h
def w5{t:Nat->δ}{j:Nat}(hj:j<2)(t':δ):[V.ref (t 0),.ref (t 1)].set j (.ref t')=[.ref (E6 t j t' 0),.ref (E6 t j t' 1)]:=by
 rcases(by omega:j=0\/j=1)with rfl | rfl <;> rfl
def pT(hC:U≠C)(hB:U≠B)(hD:U≠D){pk:δ}(fr:ZG pd lp lq ld ls lps)(w:FV C B D U ld ls lps pd lp lq (λc=>c=pk\/ZZ pd lp lq ls c) t tx pg hist N H)(hp:∃ xs,H pk≈(.lst xs))
  (Kh:pk≠ld/\pk≠lps/\pk≠ls/\∀ i,i<2->pk≠lp i/\pk≠lq i) {j:Nat} (hj:j<2) {t' b' x':δ} {CS:Pg} {AY:List Pg} {Kg:LV} (fx:x'=tx j\/H x'=none)
  (dk:Eg C B D U (λc=>c=pk\/ZZ pd lp lq ls c) (pd j) (lp j) x' H' b' CS AY) (qv:QV (λc=>c=pk\/ZZ pd lp lq ls c) H' CS (.ref t')) (hq:H' (lq j)≈(.lst Kg)) (hqs:Paired (QV (λc=>c=pk\/ZZ pd lp lq ls c) H') AY Kg)
  (k4:∀ c o,¬ (c=pk\/c=pd j\/c=lp j\/c=lq j)->H c≈o->H' c≈o) (hl:↑AY<=↑(hist j) + 1) (fw:QR (N + 1) (CS :: AY)) (th:Nf (pg j :: hist j)->Nf (CS :: AY)):
  H' ls≈(.lst [.ref (t 0),.ref (t 1)])/\FV C B D U ld ls lps pd lp lq (ZZ pd lp lq ls) (E6 t j t') (E6 tx j x') (E6 pg j CS) (E6 hist j AY) (N + 1) (upd H' ls (.lst ([V.ref (t 0),.ref (t 1)].set j (.ref t')))):=by
 obtain⟨ps,hp⟩:=hp;obtain⟨⟨dxj,fj,OS⟩,⟨usj,VJ⟩,⟨qsj,VI⟩,ej4⟩:=(w.one j hj).objs;have hM:∀ c,(c=pk\/c=pd j\/c=lp j\/c=lq j)->∃ o,H c≈o/\Mv U o:=by
  rintro c (rfl | rfl | rfl | rfl)
  ·exact⟨_,hp,.inl ⟨Z⟩⟩
  ·exact⟨_,OS,.inr (.inl ⟨_,Z⟩)⟩
  ·exact⟨_,VJ,.inl ⟨Z⟩⟩
  ·exact⟨_,VI,.inl ⟨Z⟩⟩
 have mz:∀ c,(c=pk\/c=pd j\/c=lp j\/c=lq j)->(c=pk\/ZZ pd lp lq ls c):=by
  rintro c (rfl | h)
  ·exact .inl rfl
  ·exact .inr (.inr ⟨j,hj,h⟩)
 have nz:∀ {c:δ},c≠pk->¬ ZZ pd lp lq ls c->¬ (c=pk\/c=pd j\/c=lp j\/c=lq j):=λa b z=>(mz _ z).elim a b;have d4:=k4 _ _ (nz (Yw Kh.1) fr.nd) w.d;have q4:=k4 _ _ (nz (Yw Kh.2.1) fr.np) w.q;have s4:H' ls≈(.lst [.ref (t 0),.ref (t 1)]):=k4 _ _ (by
  rintro(z | z | z | z)
  ·exact Kh.2.2.1 z.symm
  ·exact FJ w.s OS (by intro z;cases z) z
  ·exact(fr.sl j hj).1 z
  ·exact(fr.sl j hj).2 z) w.s
 have o4:∀ i,i<2->One C B D U (λc=>c=pk\/ZZ pd lp lq ls c) (pd i) (lp i) (lq i) (E6 t j t' i) (E6 tx j x' i) H' (E6 pg j CS i) (E6 hist j AY i) (N + 1):=λi hi=>by
  by_cases e:i=j
  ·subst e;rw[Mr,Mr,Mr,Mr];have o:=w.one i hi;exact⟨o.zs,o.ne,⟨b',Kg,dk,hq,hqs⟩,qv,by have:=o.fw;omega,fw,th o.th⟩
  ·rw[Ms e,Ms e,Ms e,Ms e];obtain⟨⟨dxi,fi,e1⟩,⟨us,e2⟩,⟨qs,e3⟩,e4⟩:=(w.one i hi).objs;obtain⟨p1,p2,p3⟩:=fr.pp i j hi hj e;refine((w.one i hi).keepM hC hB hD hM mz k4 ?_ ?_ ?_ ?_).le (Nat.le_succ N)
   ·rintro(z | z | z | z)
    ·exact FJ e1 hp (by intro z;cases z) z
    ·exact p1 z
    ·exact FJ e1 VJ (by intro z;cases z) z
    ·exact FJ e1 VI (by intro z;cases z) z
   ·rintro(z | z | z | z)
    ·exact(Kh.2.2.2 i hi).1 z.symm
    ·exact FJ e2 OS (by intro z;cases z) z
    ·exact p2 z
    ·exact fr.ql j i hj hi z.symm
   ·rintro(z | z | z | z)
    ·exact(Kh.2.2.2 i hi).2 z.symm
    ·exact FJ e3 OS (by intro z;cases z) z
    ·exact fr.ql i j hi hj z
    ·exact p3 z
   ·rintro(z | z | z | z)
    ·exact FJ e4 hp (by intro z;cases z) z
    ·exact FJ e4 OS (by intro z;cases z) z
    ·exact FJ e4 VJ (by intro z;cases z) z
    ·exact FJ e4 VI (by intro z;cases z) z
 have hMs:∀ c,c=ls->∃ o,H' c≈o/\Mv U o:=λc e=>⟨.lst [.ref (t 0),.ref (t 1)],by rw[e];exact s4,.inl ⟨Z⟩⟩;have ks:∀ c o,¬ c=ls->H' c≈o->(upd H' ls (.lst ([V.ref (t 0),.ref (t 1)].set j (.ref t')))) c≈o:=λc o n e=>by rw[AD n];exact e
 have ldn:ld≠ls:=λz=>fr.nd (.inl z);have lpn:lps≠ls:=λz=>fr.np (.inl z);refine⟨s4,ks _ _ ldn d4,by rw[uS,w5 hj],ks _ _ lpn q4,λi hi=>?_,?_⟩
 ·obtain⟨⟨dxi,fi,e1⟩,⟨us,e2⟩,⟨qs,e3⟩,e4⟩:=(o4 i hi).objs;refine((o4 i hi).keepM (M:=λc=>c=ls) hC hB hD hMs (λc e=>.inr (.inl e)) ks (FJ e1 s4 (by intro z;cases z)) (Yw (fr.sl i hi).1) (Yw (fr.sl i hi).2) (FJ e4 s4 (by intro z;cases z))).to (λl us _ n z=>n (.inr z)) ⟨.inr ⟨i,hi,.inl rfl⟩,.inr ⟨i,hi,.inr (.inl rfl)⟩,.inr ⟨i,hi,.inr (.inr rfl)⟩⟩
 ·rcases(by omega:j=0\/j=1)with rfl | rfl
  ·rw[Mr,Ms 0.0]
   rcases fx with rfl | n
   ·exact w.ne
   ·exact λz=>by rw[z,(w.one 1 0.0).objs.2.2.2]at n;cases n
  ·rw[Mr,Ms 0.0]
   rcases fx with rfl | n
   ·exact w.ne
   ·exact λz=>by rw[<- z,(w.one 0 0.0).objs.2.2.2]at n;cases n
end
def vA{X:Cx}:IB (Ct X.prog X.w) X E0:=by
 rintro _ _ _ _ _ _ _ ⟨_,_,_,_,_,_,_,_,_,_,_,_,_,_,_,h⟩;exact h.elim
structure zg(mg:Str->OU):Prop where
 len:mg "len"=none
 range:mg "range"=none
 min:mg "min"=none
 max:mg "max"=none
def BI.nil_{Z Z':δ->Prop}{C B D:δ}{H:Hp}{p k:δ}{ρ:List Row}(h:BI Z C B D H p k ρ []):BI Z' C B D H p k ρ []:=by
 obtain⟨dx,bo,mo,o,A3,BD,h1,h2,h3,h4,h5,h6⟩:=h.ex;cases h6;exact⟨dx,bo,mo,o,A3,[],h1,h2,h3,h4,h5,.nil⟩
def b_{H H1:Hp}{p dx lp tx:δ}{o1 o2:HO}(np:H p=none)(nd:H dx=none)(hl:(upd (upd H dx o1) p o2) lp=none)(ht:(upd (upd H dx o1) p o2) tx=none)
  (k:∀ c o,c≠p->(upd (upd H dx o1) p o2) c≈o->H1 c≈o):H lp=none/\H tx=none/\AA H H1:=by
 have f:∀ {c:δ},(upd (upd H dx o1) p o2) c=none->H c=none:=λ{c} n=>by
  have e:c≠p:=λz=>by rw[z,uS]at n;cases n
  rw[AD e]at n;exact(AI nd:AA H (upd H dx o1)).free n
 exact⟨f hl,f ht,λc o e=>k c o (AK e np) (by rw[AD (AK e np)];exact AI nd _ _ e)⟩
def QG(H H':Hp)(t l ln:δ):Prop:=H l=none/\H ln=none/\H' t≈(.tup [.ref l,.ref ln])/\FQ H' l Fl/\H' ln≈(.lst [])
def gB{H:Hp}{te t1 l ln t:δ}(hte:H te=none)(GZ:(upd H te (.tup [])) t1=none)(hl:(upd (upd H te (.tup [])) t1 (.tup [.str "thing",.ref te])) l=none)(BN:(upd (upd (upd H te (.tup [])) t1 (.tup [.str "thing",.ref te])) l (.lst [.ref t1])) ln=none)
  (ht:(upd (upd (upd (upd H te (.tup [])) t1 (.tup [.str "thing",.ref te])) l (.lst [.ref t1])) ln (.lst [])) t=none):AA H (upd (upd (upd (upd (upd H te (.tup [])) t1 (.tup [.str "thing",.ref te])) l (.lst [.ref t1])) ln (.lst [])) t (.tup [.ref l,.ref ln]))/\QG H (upd (upd (upd (upd (upd H te (.tup [])) t1 (.tup [.str "thing",.ref te])) l (.lst [.ref t1])) ln (.lst [])) t (.tup [.ref l,.ref ln])) t l ln:=by
 have s1:AA H (upd H te (.tup [])):=AI hte;have e1:(upd H te (.tup [])) te≈(.tup []):=uS;generalize upd H te (.tup [])=H1 at s1 e1 GZ hl BN ht ⊢;have s2:AA H1 (upd H1 t1 (.tup [.str "thing",.ref te])):=AI GZ;have e2:(upd H1 t1 (.tup [.str "thing",.ref te])) t1≈(.tup [.str "thing",.ref te]):=uS;generalize upd H1 t1 (.tup [.str "thing",.ref te])=H2 at s2 e2 hl BN ht ⊢;have s3:AA H2 (upd H2 l (.lst [.ref t1])):=AI hl;have e3:(upd H2 l (.lst [.ref t1])) l≈(.lst [.ref t1]):=uS;generalize upd H2 l (.lst [.ref t1])=H3 at s3 e3 BN ht ⊢;have s4:AA H3 (upd H3 ln (.lst [])):=AI BN;have e4:(upd H3 ln (.lst [])) ln≈(.lst []):=uS;generalize upd H3 ln (.lst [])=H4 at s4 e4 ht ⊢;have s5:AA H4 (upd H4 t (.tup [.ref l,.ref ln])):=AI ht;have e5:(upd H4 t (.tup [.ref l,.ref ln])) t≈(.tup [.ref l,.ref ln]):=uS;exact⟨s1.trans (s2.trans (s3.trans (s4.trans s5))),s1.free (s2.free hl),s1.free (s2.free (s3.free BN)),e5,⟨[.ref t1],s5 _ _ (s4 _ _ e3),.cons ⟨t1,te,Y,s5 _ _ (s4 _ _ (s3 _ _ e2)),s5 _ _ (s4 _ _ (s3 _ _ (s2 _ _ e1)))⟩ .nil⟩,s5 _ _ e4⟩
def tw(a b:δ):Nat->δ
 | 0=>a
 | _=>b
def F8{i:Nat}(h:i<2):i=0\/i=1:=by omega
def QG.mono{H H' H2:Hp}{t l ln:δ}(h:QG H H' t l ln)(s:AA H' H2):QG H H2 t l ln:=⟨h.1,h.2.1,s _ _ h.2.2.1,NF h.2.2.2.1 s,s _ _ h.2.2.2.2⟩
def zP:QR 0 [(Fl,[])]:=λh hh n hn=>by rw[Yc.mp hh]at hn;cases hn
def Ye0:Nf [(Fl,[])]:=λh hh=>by rw[Yc.mp hh];exact Yc.mpr rfl
def jr{C B D U:δ}{Z:δ->Prop}{pd lp lq t tx b k l ln:δ}{H0 H1 H:Hp}{Zb:δ->Prop}(zs:Z pd/\Z lp/\Z lq)(ne:lq≠pd/\lq≠lp)(dk:FN U H pd b lp tx [])(bk:BI Zb C B D H b k Fl [])(hq:H lq≈(.lst []))(st:QG H0 H1 t l ln)(s:AA H1 H)(zl:¬ Z l/\¬ Z ln):
  One C B D U Z pd lp lq t tx H (Fl,[]) [] 0:=by
 have st:=st.mono s;exact⟨zs,ne,⟨b,[],⟨⟨[],dk,.nil⟩,⟨k,BI.nil_ bk⟩,λh hh=>by rw[Yc.mp hh];exact⟨Xu,i9⟩⟩,hq,.nil⟩,⟨t,l,ln,Y,st.2.2.1,st.2.2.2.1,⟨[],st.2.2.2.2,.nil⟩,zl.1,zl.2⟩,BC _,zP,Ye0⟩
structure Hm(C B D U:δ)(Z:δ->Prop)(pd lp t tx:δ)(H:Hp)(pg:Pg):Prop where
 ex:∃ b k dx,H pd≈(.ins U dx (Bs b lp tx))/\BI Z C B D H b k pg.1 pg.2
 gd:Ak pg.1/\B9 pg.1 pg.2
 qv:QV Z H pg (.ref t)
 th:("thing":Str)∈pg.1.map 0.8
 few:∀ n∈pg.2,↑n.2.2<=40
theorem Hm.mono{C B D U:δ}{Z:δ->Prop}{pd lp t tx:δ}{H H':Hp}{pg:Pg}(w:Hm C B D U Z pd lp t tx H pg)(s:AA H H'):Hm C B D U Z pd lp t tx H' pg:=by
 obtain⟨b,k,dx,h1,h2⟩:=w.ex;exact⟨⟨b,k,dx,s _ _ h1,h2.mono s⟩,w.gd,w.qv.mono s,w.th,w.few⟩
theorem Hm.keepM{C B D U:δ}{Z M:δ->Prop}{pd lp t tx:δ}{H H':Hp}{pg:Pg}(hC:U≠C)(hB:U≠B)(hD:U≠D)(w:Hm C B D U Z pd lp t tx H pg)(hM:∀ b,M b->∃ o,H b≈o/\Mv U o)(mz:∀ b,M b->Z b)(s:∀ b o,¬ M b->H b≈o->H' b≈o)(n:¬ M pd):Hm C B D U Z pd lp t tx H' pg:=by
 obtain⟨b,k,dx,h1,h2⟩:=w.ex;exact⟨⟨b,k,dx,s _ _ n h1,h2.keepM (U:=U) hC hB hD hM mz s⟩,w.gd,w.qv.keepM (U:=U) hM mz s,w.th,w.few⟩
theorem bx:∀(k:Nat) (r:Str),Bh r (List.replicate k ("thing":Str))=r++EX " thing" k
 | 0,r=>Rw (by show r.cps.toList=_;show _=(r.cps++_).toList;rw[Px];show _=_++(EX " thing" 0).cps.toList;rw[O8];simp)
 | k + 1,r=>by
  show Bh ((r++" ")++"thing") (List.replicate k ("thing":Str))=_;rw[bx k];refine Rw ?_;have e:∀ a b:Str,(a++b).cps.toList=a.cps.toList++b.cps.toList:=λa b=>by show(a.cps++b.cps).toList=_;rw[Px]
  rw[e,e,e,e,O8,O8,JH,Le,IH,IH];rfl
def pO(x:Str)(k:Nat):(("ask ":Str)++x)++EX " thing" k=Builtin.Str.glued " " (("ask":Str):: x :: List.replicate k "thing"):=by
 rw[IE];show _=Bh (("ask"++" ")++x) _;rw[bx];rfl
def gj:AR "thing"=true:=by rfl'
def vd{x:Str}(h:AR x=true){k:Nat}(hk:k<=4):Ep ((("ask ":Str)++x)++EX " thing" k) (("ask":Str):: x :: List.replicate k "thing"):=
 (Om (pO x k) (Gw _ _) (by show(List.replicate k ("thing":Str)).length + 1 + 1<=100;rw[T3];omega) λy hy=>by
  rcases Yk.mp hy with rfl | hy
  ·exact Gs 0.7
  ·rcases Yk.mp hy with rfl | hy
   ·exact Gs h
   ·rw[YD hy];exact Gs gj).1
def wG{ρ:List Row}{ds:ξ}{c:LS}{B:Nat}(h:↑ds<=B):∀ k∈EJ ρ ds c,k<=B:=λk hk=>Nat.le_of_lt (Yr (O2 k (IL.mp hk).1) h)
def xR:∀ k:Nat,k<41->PyData.strOk (EB k)=true:=by rfl'
def xP{θ:LN}(h:∀ k∈θ,k<=40):Cc (Ff θ):=by
 have c1:∀ {t:Str},PyData.strOk t=true->Cc t:=λz=>z;have n1:∀ k:Nat,k<=40->Cc (EB k):=λk hk=>c1 (xR k 0.0)
 match θ,h with
 | [],_=>exact c1 0.7
 | [k],h =>
  show Cc (Builtin.Str.glued " " [("deed":Str),EB k]);rw[IE];exact O0 (c1 0.7) λu hu=>by rw[Yc.mp hu];exact n1 k (h k Yj)
 | k :: j :: r,h =>
  show Cc (Builtin.Str.glued " " [("clash":Str),EB k,EB j]);rw[IE];exact O0 (c1 0.7) λu hu=>by
   rcases Yk.mp hu with rfl | hu
   ·exact n1 k (h k Yj)
   ·rw[Yc.mp hu];exact n1 j (h j (Yq _ Yj))
def y_{T:Str}(h:Cc T):W.kqdOk 9 (.tuple [.str "told",.list [.str T]])=true:=by
 show(PyData.strOk "told"&&((PyData.strOk T&&true)&&true))=true;rw[show PyData.strOk T=true from h]
 rfl'
def rD(k:Nat):(List.replicate k ([V.str "thing"]:LV)).flatten=(List.replicate k ("thing":Str)).map V.str:=by
 induction k with
 | zero=>rfl
 | succ k ih=>rw[JH,Le,ih];rfl
def M0{f:Nat->V}{i:Nat}(h:i<2):CL [f 0,f 1] (0 + (i:Int))≈(f i):=by rw[Int.zero_add];exact Rm h
def v5{j:Nat}(hj:j<2)(t:Nat->δ):HW ↑([V.ref (t 0),.ref (t 1)]) (j:Int)≈j:=by
 rcases F8 hj with rfl | rfl <;> rfl
def yo{X:Cx}{pos:PySem.Pos}{i:Nat}{x:PySem.Str}{e:PySem.Expr}{te:TE}{pos':PySem.Pos}(h1:X.N.Nodup)(h2:X.N[i]?≈x)(h3:Loc X.env.scope x)(h4:PE X e te)(h5:PySem.swapsWith e (↥(PySem.Expr.Name x pos')) pos.line X.env=pure false)(h6:X.fn x=true\/List.lookup x X.env.scope.names≈PySem.NameKind.local):ky X (PySem.Stmt.Assign [PySem.Expr.Name x pos'] e pos) (Hu te (Cz i)):=⟨Ez h1 h2 h3 h4 h5 h6⟩
def Wj{X:Cx}{sts:List Stmt}{c:Stmt}{Am:List Stmt}{t:TS}{R:TS->Prop}(e:sts=c :: Am)(h1:PS X c t)(h:∃ u,Bc X Am u/\R (AE t u)):∃ t,Bc X sts t/\R t:=by
 subst e;obtain⟨u,hu,q⟩:=h;exact⟨_,pS h1 hu,q⟩
def yq{X:Cx}{sts:List Stmt}{c:Stmt}{Am:List Stmt}{t:TS}{R:TS->Prop}(e:sts=c :: Am)(h1:ky X c t)(h:∃ u,Bc X Am u/\R (AE t u)):∃ t,Bc X sts t/\R t:=Wj e h1.h h
abbrev jo:LS:=["script","desks","states","pasts","k","pot","which","after","one","above","word","places","pairs","call","due"]
def iW:Aa jo ["script"] (AL Tn):=by nofun
def wD:(["pair"]:LS).Nodup:=by rfl'
def u4{Ds:Nat->δ}(F:Def K mg "law" Tn ["script"] f fd)(T:zg mg)(hC:U≠C)(hB:U≠B)(hD:U≠D)(TU:K0 K U)
  (MU:Mk K U fU) (mgU:mg "Desk"≈(.ref U)) (bU:Bz K fdU ["self"] []) (GU:⋯ 8 fU fdU ["self"] (WI C B D U)) (MS:Cw K U "say" "Desk.say" PZ ["self","row"] fS fdS) (GS:BQ P w K mg base (Ct P w) 11 fS fdS ["self","row"] (Mj P w C B D U Ds))
  (DP:Def K mg "_law_pot" Se ["script","k"] fP fdP) (GP:⋯ 1 fP fdP ["script","k"] (X0 K)) (DT:Def K mg "_law_take" LJ ["pot","many"] fT fdT) (GT:⋯ 1 fT fdT ["pot","many"] Mq)
  (DTu:Def K mg "_law_turn" Su Nx fTu fdTu) (GTu:⋯ 13 fTu fdTu Nx (Vw C B D U)) (DH:Def K mg "_law_heard" Pk ["desk","row"] fH fdH) (GH:⋯ 12 fH fdH ["desk","row"] (O_ U Ds (Mj P w C B D U Ds)))
  (DW:Def K mg "_law_written" Pm ["rows","names"] fW fdW) (GW:⋯ 2 fW fdW ["rows","names"] Y3) (DA:Def K mg "_law_above" Pj ["rows"] fA fdA) (GA:⋯ 1 fA fdA ["rows"] SF)
  (DLT:Def K mg "_law_told" Ss ["above","deeds","call"] fLT fdLT) (GLT:⋯ 3 fLT fdLT ["above","deeds","call"] WN) (DAn:Def K mg "_law_answer" S3 ["seen"] fAn fdAn) (GAn:⋯ 1 fAn fdAn ["seen"] Xz):⋯ 14 f fd ["script"] (To K):=by
 nomatch F.fn.ok iW
 ·obtain⟨a,ns,rfl,_⟩:=h;rfl
 ·obtain⟨a,ns,rfl,hS,hlen,q⟩:=h;have nd:=iW.nd;have hu:=hr.units;have Aq:Ab 1 _:=hr.mono 0.1;have Bf:Ab 2 _:=hr.mono 0.1;have Gb:Ab 3 _:=hr.mono 0.1;have RC:Ab 9 _:=hr.mono 0.1;have ZQ:Ab 11 _:=hr.mono 0.1;have ZP:Ab 12 _:=hr.mono 0.1;refine Wj rfl (sE 1 nd (BH (pC (dg MU GU RC rfl mgU bU .nil BF) (pC (dg MU GU RC rfl mgU bU .nil BF) AB)))) ?_;refine yq rfl (yo (i:=2) nd rfl 1.2 (BH (pC (A5 (pC (BH (pC (A5 (pC Ah (pC (A5 AB) AB))) AB)) (pC (BH AB) AB))) (pC (A5 (pC (BH (pC (A5 (pC Ah (pC (A5 AB) AB))) AB)) (pC (BH AB) AB))) AB))) rfl (.inl rfl)) ?_;refine Wj rfl (sE 3 nd (BH (pC (BH AB) (pC (BH AB) AB)))) ?_;refine'⟨_,pS (Bm Yx rfl (PV 1.0 T.range (pC (A9 (p_ rfl) 1.0 T.max PyProof.Rows.boot_max (pC AH (pC (A9 (qC rfl) 1.0 T.min PyProof.Rows.boot_min (pC (A9 Cb 1.0 T.len BX (pC 0.9 AB)) (pC AH AB))) AB))) AB)) (gE 4 nd)
    (pS (sE 5 nd (AV DP GP Aq (pC 0.9 (pC (pv 4) AB))))
    (pS (sE 6 nd (AV DT GT Aq (pC (pv 5) (pC AH AB))))
    (pS (sE 7 nd (AV DTu GTu hr (pC (pv 5) (pC (AO (r:=Ao K) Ad 1.5 (pv 6) 0.2) (pC (AO (r:=Ao K) Ad 1.6 (pv 6) 0.2) (pC (AO (r:=Ao K) Ad (pv 3) (pv 6) 0.2) AB))))))
    (pS (Ag (An u7 (pv 7) H_ (Aj _)) Bj Af)
    (pS (Ol (pv 7) (Vm 1.6 (pv 6) Wm))
    (AF (Bm Yx rfl (PV 1.0 T.range (pC AH AB)) (gE 8 nd)
     (AF (Ag (An (K8 hu) (EL (AO (r:=Ao K) Ad 1.5 (pv 8) 0.2) TU.cl MS.me GS ZQ MS.b .nil vA (pC Ah AB)) (AV DW GW Bf (pC (AO (r:=DJ K) Dz (AO (r:=Ao K) Ad 1.6 (pv 8) 0.2) AH 0.2) (pC (AO (r:=DJ K) Dz (AO (r:=Ao K) Ad 1.6 (pv 8) 0.2) AH 0.2) AB))) (Aj _)) Bj Af))))))))))
   (cb (cb (pS (Bm Yx rfl (PV 1.0 T.range (pC AH AB)) (gE 8 nd)
    (pS (sE 9 nd (AV DA GA Aq (pC (AO (r:=DJ K) Dz (AO (r:=Ao K) Ad 1.6 (pv 8) 0.2) AH 0.2) AB)))
    (AF (Bm Yx rfl (Co (AO (r:=DJ K) Dz (AO (r:=Ao K) Ad 1.6 (pv 8) 0.2) AH 0.2)) (DU rfl (gC (gE 10 nd) (gC (gE 11 nd) (gC (gE 12 nd) DX))))
     (Gn (sE 13 nd (Ai cR (A5 (pC Ah AB)) (pv 11)))
     (pS (sE 14 nd (AV DAn GAn Aq (pC (AV DLT GLT Gb (pC (pv 9) (pC ?eP (pC (pv 13) AB)))) AB)))
     (AF (Ag (An (K8 hu) (AV DH GH ZP (pC (AO (r:=Ao K) Ad 1.5 (pv 8) 0.2) (pC (Ai CP (Ai CP Ah (pv 10)) (Ai zC Ah (pv 11))) AB))) (A5 (pC Ah (pC (BH (pC (pv 14) AB)) AB))) (Aj _)) Bj Af))))))))
   (AF (AQ F4))))),?_⟩
  case eP=>exact(Ea ["pair"] [] [] (λ_=>CC (osc:=AL Tn) (on:=jo) 0.7 rfl rfl rfl) (Gk (pv 12)) (λC s H fp=>CF (i:=0) wD rfl 1.2 1.3) 2.9 (λC s H fp=>AO (r:=DJ K) Dz 0.9 AH 0.2))
  intro pA dA npA ndA neA;refine⟨pA,dA,Y,uS,λbA kA lpA txA HA hlA htA kpA dkA bkA=>⟨Y,?_⟩⟩;obtain⟨mV,tA0,sA⟩:=b_ npA ndA hlA htA kpA;intro pB dB npB ndB neB;refine⟨pB,dB,Y,uS,λbB kB lpB txB HB hlB htB kpB dkB bkB=>⟨Y,?_⟩⟩;obtain⟨aN,lX,sB⟩:=b_ npB ndB hlB htB kpB;have Qj:=dkA.mono sB;have bkA:BI (λ_=>True) C B D HB bA kA Fl []:=(BI.nil_ bkA).mono sB;have bkB:BI (λ_=>True) C B D HB bB kB Fl []:=BI.nil_ bkB;have ly:=sA.free npB;have ZL:=sA.free aN;refine⟨W,λld Dq=>?_⟩;have sHC:AA HB (upd HB ld (.lst [.ref pA,.ref pB])):=AI Dq;have eld:(upd HB ld (.lst [.ref pA,.ref pB])) ld≈(.lst [.ref pA,.ref pB]):=uS;generalize upd HB ld (.lst [.ref pA,.ref pB])=HC at sHC eld ⊢;refine⟨BC _,λteA hte=>⟨W,λuA huA=>⟨V,λlA hlA=>⟨BC _,λmA hmA=>⟨W,λtA htA=>?_⟩⟩⟩⟩⟩;obtain⟨sD,stA⟩:=gB hte huA hlA hmA htA;clear huA hlA hmA htA hte;generalize upd (upd (upd (upd (upd HC teA (.tup [])) uA (.tup [.str "thing",.ref teA])) lA (.lst [.ref uA])) mA (.lst [])) tA (.tup [.ref lA,.ref mA])=HD at sD stA ⊢;refine⟨BC _,λteB hte=>⟨W,λuB huB=>⟨V,λlB hlB=>⟨BC _,λmB hmB=>⟨W,λtB htB=>?_⟩⟩⟩⟩⟩;obtain⟨sEz,stB⟩:=gB hte huB hlB hmB htB;clear huB hlB hmB htB hte;generalize upd (upd (upd (upd (upd HD teB (.tup [])) uB (.tup [.str "thing",.ref teB])) lB (.lst [.ref uB])) mB (.lst [])) tB (.tup [.ref lB,.ref mB])=HE at sEz stB ⊢;refine⟨W,λls hls=>?_⟩;have sHF:AA HE (upd HE ls (.lst [.ref tA,.ref tB])):=AI hls;have els:(upd HE ls (.lst [.ref tA,.ref tB])) ls≈(.lst [.ref tA,.ref tB]):=uS;generalize upd HE ls (.lst [.ref tA,.ref tB])=HF at sHF els ⊢;refine⟨BC _,λqA hqA=>?_⟩;have sHG:AA HF (upd HF qA (.lst [])):=AI hqA;have eqA:(upd HF qA (.lst [])) qA≈(.lst []):=uS;generalize upd HF qA (.lst [])=HG at sHG eqA ⊢;refine⟨BC _,λqB hqB=>?_⟩;have sHI:AA HG (upd HG qB (.lst [])):=AI hqB;have eqB:(upd HG qB (.lst [])) qB≈(.lst []):=uS;generalize upd HG qB (.lst [])=HI at sHI eqB ⊢;refine⟨W,λlps hlps=>?_⟩;have sHJ:AA HI (upd HI lps (.lst [.ref qA,.ref qB])):=AI hlps;have elps:(upd HI lps (.lst [.ref qA,.ref qB])) lps≈(.lst [.ref qA,.ref qB]):=uS;generalize upd HI lps (.lst [.ref qA,.ref qB])=HJ at sHJ elps ⊢;obtain⟨xA,a1,a2,a3⟩:=id dkA.ex;obtain⟨xB,b1,b2,b3⟩:=id dkB.ex;have sCE:=sD.trans sEz;have sBE:=sHC.trans sCE;have sEJ:=sHF.trans (sHG.trans (sHI.trans sHJ));have sBJ:=sBE.trans sEJ;have sBF:=sBE.trans sHF;have Lj:AA H HJ:=(sA.trans sB).trans sBJ;have MQ:HB qA=none:=sBF.free hqA;have MO:HB qB=none:=sBF.free (sHG.free hqB);have Q_:HB ls=none:=sBE.free hls;have nzs:∀ {c:δ} {o:HO},HE c≈o->HB c=none->¬ ZZ (tw pA pB) (tw lpA lpB) (tw qA qB) ls c:=λ{c o} e n=>by
   rintro(z | ⟨i,hi,z⟩)
   ·exact AK e hls z
   ·rcases F8 hi with rfl | rfl
    ·rcases z with z | z | z
     ·rw[z]at n;exact nomatch n.symm.trans (sB _ _ a1)
     ·rw[z]at n;exact nomatch n.symm.trans (sB _ _ a2)
     ·exact AK (sHF _ _ e) hqA z
    ·rcases z with z | z | z
     ·rw[z]at n;exact nomatch n.symm.trans b1
     ·rw[z]at n;exact nomatch n.symm.trans b2
     ·exact AK (sHG _ _ (sHF _ _ e)) hqB z
  have far:ZG (tw pA pB) (tw lpA lpB) (tw qA qB) ld ls lps:=by
   have p1:pA≠pB:=AK a1 npB;have p2:lpA≠lpB:=AK a2 aN;have p3:qA≠qB:=AK eqA hqB;refine⟨λi j hi hj n=>?_,λi j hi hj=>?_,λi hi=>?_,nzs (sCE _ _ eld) Dq,?_⟩
   ·rcases F8 hi with rfl | rfl <;> rcases F8 hj with rfl | rfl
    ·exact absurd rfl n
    ·exact⟨p1,p2,p3⟩
    ·exact⟨p1.symm,p2.symm,p3.symm⟩
    ·exact absurd rfl n
   ·rcases F8 hi with rfl | rfl <;> rcases F8 hj with rfl | rfl
    ·exact Yw (AK (sB _ _ a2) MQ)
    ·exact Yw (AK b2 MQ)
    ·exact Yw (AK (sB _ _ a2) MO)
    ·exact Yw (AK b2 MO)
   ·rcases F8 hi with rfl | rfl
    ·exact⟨Yw (AK (sB _ _ a2) Q_),AK els hqA⟩
    ·exact⟨Yw (AK b2 Q_),AK (sHG _ _ els) hqB⟩
   ·have n:∀ {c:δ} {o:HO},HI c≈o->lps≠c:=λ{c o} e=>Yw (AK e hlps);rintro(z | ⟨i,hi,z⟩)
    ·exact n (sHI _ _ (sHG _ _ els)) z
    ·rcases F8 hi with rfl | rfl
     ·rcases z with z | z | z
      ·exact n (sHI _ _ (sHG _ _ (sBF _ _ (sB _ _ a1)))) z
      ·exact n (sHI _ _ (sHG _ _ (sBF _ _ (sB _ _ a2)))) z
      ·exact n (sHI _ _ eqA) z
     ·rcases z with z | z | z
      ·exact n (sHI _ _ (sHG _ _ (sBF _ _ b1))) z
      ·exact n (sHI _ _ (sHG _ _ (sBF _ _ b2))) z
      ·exact n eqB z
  have hfree:∀ c,ZZ (tw pA pB) (tw lpA lpB) (tw qA qB) ls c->H c=none:=by
   have sHB:=sA.trans sB;rintro c (rfl | ⟨i,hi,z⟩)
   ·exact sHB.free Q_
   ·rcases F8 hi with rfl | rfl
    ·rcases z with rfl | rfl | rfl
     ·exact npA
     ·exact mV
     ·exact sHB.free MQ
    ·rcases z with rfl | rfl | rfl
     ·exact ly
     ·exact ZL
     ·exact sHB.free MO
  have W0:FV C B D U ld ls lps (tw pA pB) (tw lpA lpB) (tw qA qB) (ZZ (tw pA pB) (tw lpA lpB) (tw qA qB) ls) (tw tA tB) (tw txA txB) (λ_=>(Fl,[])) (λ_=>[]) 0 HJ:=by
   have sEJ':=sEJ;refine⟨sEJ _ _ (sCE _ _ eld),sHJ _ _ (sHI _ _ (sHG _ _ els)),elps,λi hi=>?_,AK a3 lX⟩;have zz:∀ i,i<2->_:=λi hi=>(⟨Or.inr ⟨i,hi,.inl rfl⟩,Or.inr ⟨i,hi,.inr (.inl rfl)⟩,Or.inr ⟨i,hi,.inr (.inr rfl)⟩⟩:ZZ (tw pA pB) (tw lpA lpB) (tw qA qB) ls (tw pA pB i)/\ZZ (tw pA pB) (tw lpA lpB) (tw qA qB) ls (tw lpA lpB i)/\ZZ (tw pA pB) (tw lpA lpB) (tw qA qB) ls (tw qA qB i))
   rcases F8 hi with rfl | rfl
   ·obtain⟨vs,v1,_⟩:=id stA.2.2.2.1;exact jr (zz 0 hi) ⟨Yw (AK (sB _ _ a1) MQ),Yw (AK (sB _ _ a2) MQ)⟩ (Qj.mono sBJ) (bkA.mono sBJ) (sHJ _ _ (sHI _ _ eqA)) stA (sEz.trans sEJ) ⟨nzs (sEz _ _ v1) (sHC.free stA.1),nzs (sEz _ _ stA.2.2.2.2) (sHC.free stA.2.1)⟩
   ·obtain⟨vs,v1,_⟩:=id stB.2.2.2.1;exact jr (zz 1 hi) ⟨Yw (AK b1 MO),Yw (AK b2 MO)⟩ (dkB.mono sBJ) (bkB.mono sBJ) (sHJ _ _ eqB) stB sEJ ⟨nzs v1 ((sHC.trans sD).free stB.1),nzs stB.2.2.2.2 ((sHC.trans sD).free stB.2.1)⟩
  obtain⟨pd,lp,lq,t0,x0,far,hfree,W0⟩:∃ pd lp lq t0 x0:Nat->δ,ZG pd lp lq ld ls lps/\(∀ c,ZZ pd lp lq ls c->H c=none)/\FV C B D U ld ls lps pd lp lq (ZZ pd lp lq ls) t0 x0 (λ_=>(Fl,[])) (λ_=>[]) 0 HJ:=⟨G,G,_,far,hfree,W0⟩;clear nzs Q_ MO MQ sBF sBJ sEJ sBE sCE b1 b2 b3 a1 a2 a3 bkA bkB dkA dkB Qj kpA kpB stA stB;have hSl:=Lj.seq hS;obtain⟨m,em,mT⟩:∃ m:Nat,(if(if(40:Int)<(↑(ns.map V.int):Int)then(40:Int)else(↑(ns.map V.int):Int)) > (10:Int)then(if(40:Int)<(↑(ns.map V.int):Int)then(40:Int)else(↑(ns.map V.int):Int))else(10:Int))=(m:Int)/\m<=40:=by
   rw[Ya];by_cases c:(40:Int)<(↑ns:Int)
   ·exact⟨40,by rw[if_pos c,if_pos 0.1];rfl,O⟩
   ·rw[if_neg c];by_cases d:(↑ns:Int) > 10
    ·exact⟨↑ns,by rw[if_pos d],O⟩
    ·exact⟨10,by rw[if_neg d];rfl,O⟩
  refine⟨Z,a,Z,.inl hSl,_,Z,_,Z,m,congrArg (λz=>[V.int z]) em,O,O,CG PY (λi σ H'=>∃(t tx:Nat->δ) (pg:Nat->Pg) (hist:Nat->List Pg) (x4 x5 x6 x7 x8:OV),σ=[↥(.ref a),↥(.ref ld),↥(.ref ls),↥(.ref lps),x4,x5,x6,x7,x8,none,none,none,none,none,none] /\
    FV C B D U ld ls lps pd lp lq (ZZ pd lp lq ls) t tx pg hist i H'/\AA H H')
   ⟨t0,x0,G,none,none,none,none,none,Y,W0,Lj⟩ (λ_ _ _ _ _=>trivial) ?_ ?_⟩
  ·clear W0 hSl Lj;rintro i v σ H1 hi ⟨t,tx,pg,hist,x4,x5,x6,x7,x8,rfl,W,si⟩;obtain⟨IU,rfl⟩:=JB hi;have hi:i<m:=by simpa using IU
   refine⟨Z,Z,a,0 + (i:Int),ns,Y,si.seq hS,O,O,O,λpk ok hpk hok=>?_⟩;have W1:=W.to (Z':=λc=>c=pk\/ZZ pd lp lq ls c) (λl us e n z=>z.elim (λz=>by rw[z,hpk]at e;cases e) n) (λc z=>.inr z);have ob:∀ i,i<2->pd i≠pk/\lp i≠pk/\lq i≠pk/\tx i≠pk:=λi hi=>by
    obtain⟨⟨_,_,e1⟩,⟨_,e2⟩,⟨_,e3⟩,e4⟩:=(W.one i hi).objs;exact⟨AK e1 hpk,AK e2 hpk,AK e3 hpk,AK e4 hpk⟩
   have nld:=AK W.d hpk;have nls:=AK W.s hpk;have nlp:=AK W.q hpk;have Kh:=si.free hpk;have s2:AA H1 (upd H1 pk ok):=AI hpk;have Dp:(upd H1 pk ok) pk≈ok:=uS;generalize upd H1 pk ok=H2 at s2 Dp ⊢;have W2:=W1.mono s2;refine⟨Z,pk,2,ok,Y,Dp,hok,Q,Q,λv o3 v0 v1 RF=>?_⟩;obtain⟨j,rfl,hj⟩:∃ j:Nat,v=(j:Int)/\j<2:=⟨v.toNat,O,O⟩;have k3:∀ c o,¬ c=pk->H2 c≈o->(upd H2 pk o3) c≈o:=λc o n e=>by rw[AD n];exact e
   have CT:(upd H2 pk o3) pk≈o3:=uS;generalize upd H2 pk o3=H3 at k3 CT ⊢;have W3:=W2.keepM hC hB hD (M:=λc=>c=pk) (λc e=>⟨ok,by rw[e];exact Dp,by obtain⟨_,_,e,_⟩:=hok;exact .inl ⟨_,e⟩⟩) (λc e=>.inl e) k3 ob nld nls nlp;obtain⟨b,qs,dk,hq,hqs⟩:=(W3.one j hj).ex;have Nz:=W3.one j hj;have UT:∀ c,(c=pk\/ZZ pd lp lq ls c)->∃ o,H3 c≈o:=by
    rintro c (rfl | rfl | ⟨i,hi,z⟩)
    ·exact⟨_,CT⟩
    ·exact⟨_,W3.s⟩
    ·obtain⟨⟨_,_,e1⟩,⟨_,e2⟩,⟨_,e3⟩,e4⟩:=(W3.one i hi).objs
     rcases z with rfl | rfl | rfl
     ·exact⟨_,e1⟩
     ·exact⟨_,e2⟩
     ·exact⟨_,e3⟩
   have fw:=Nz.fw;refine⟨Z,Z,Z,ld,G,Z,Y,SqL.of W3.d,Rm (f:=λi=>V.ref (pd i)) hj,Z,Z,ls,G,Z,Y,SqL.of W3.s,Rm (f:=λi=>V.ref (t i)) hj,Z,Z,lps,G,Z,Y,SqL.of W3.q,Rm (f:=λi=>V.ref (lq i)) hj,
    λc=>c=pk\/ZZ pd lp lq ls c,pk,pd j,lp j,lq j,t j,b,tx j,pg j,hist j,qs,i,Y,⟨o3,CT,RF⟩,⟨.inl rfl,Nz.zs⟩,UT,⟨(ob j hj).1.symm,(ob j hj).2.1.symm,(ob j hj).2.2.1.symm,Nz.ne⟩,dk,Nz.qv,hq,hqs,O,Nz.few,O,λt' b' x' CS AY Kg H4 fx VO lj Ko ZS k4 Hc Fe Zl ZJ=>?_⟩
   obtain⟨s4,W5⟩:=pT hC hB hD far W3 (by obtain⟨_,_,e,_⟩:=RF;exact⟨_,by rw[CT,e]⟩) ⟨nld.symm,nlp.symm,nls.symm,λi hi=>⟨(ob i hi).2.1.symm,(ob i hi).2.2.1.symm⟩⟩ hj fx VO lj Ko ZS k4 Fe Zl ZJ;have DZ:AA H (upd H4 ls (.lst ([V.ref (t 0),.ref (t 1)].set j (.ref t')))):=λc o e=>by
    have n:∀ d,ZZ pd lp lq ls d->c≠d:=λd z=>AK e (hfree d z);have npk:=AK e Kh;rw[AD (n _ (.inl rfl))];exact k4 _ _ (by
     rintro(z | z)
     ·exact npk z
     ·exact n c (.inr ⟨j,hj,z⟩) rfl) (k3 _ _ npk (s2 _ _ (si _ _ e)))
   refine⟨Z,Y,Z,AU ⟨Z,Z,Z,ls,G,j,Y,Y,s4,v5 hj t,?_⟩⟩;generalize upd H4 ls (.lst ([V.ref (t 0),.ref (t 1)].set j (.ref t')))=H5 at W5 DZ ⊢;let Be:NW:=λn σ H'=>∃ x8:OV,σ=[↥(.ref a),↥(.ref ld),↥(.ref ls),↥(.ref lps),↥(.int (0 + (i:Int))),↥(.ref pk),↥(.int (j:Int)),↥(.ref t'),x8,none,none,none,none,none,none]/\AA H5 H';refine⟨2,Y,Q,Q,CG PY Be ⟨x8,Y,AA.refl _⟩ (λ_ _ _ _ _=>trivial) ?_ ?_⟩
   ·rintro n v σ H6 hn ⟨y8,rfl,s6⟩;obtain⟨Jm,rfl⟩:=JB hn;have hn:n<2:=by simpa using Jm
    have W6:=W5.mono s6;obtain⟨b6,qs6,D6,_,_⟩:=(W6.one n hn).ex;obtain⟨us6,VN,_⟩:=D6.ex;obtain⟨bR,f1,_,_⟩:=VN.ex;obtain⟨kb,RX⟩:=D6.bk;obtain⟨g6,RU⟩:=D6.gd _ Yj;obtain⟨tt,l6,m6,et,Dn,n8,⟨lL,Mc,oA⟩,_,_⟩:=(W6.one n hn).qv;cases et;refine⟨Z,Z,ld,G,Z,Y,SqL.of W6.d,M0 (f:=λi=>V.ref (pd i)) hn,pd n,bR,Z,f1,WQ _ _ _,pd n,b6,lp n,bR,_,"show",["show"],Y,f1,R_,.inr (.inl ⟨Y,kb,G,RX.at_,g6,RU,λsl H7 hsl s7 He=>?_⟩)⟩;have W7:=W6.mono s7;refine⟨Z,Z,ls,G,Z,Y,SqL.of W7.s,M0 (f:=λi=>V.ref (E6 t j t' i)) hn,G,_,Z,Y,AG.of (s7 _ _ Dn),Hk _ _,Z,Z,ls,G,Z,Y,SqL.of W7.s,M0 (f:=λi=>V.ref (E6 t j t' i)) hn,G,_,Z,Y,AG.of (s7 _ _ Dn),CA (j:=1) rfl,
     l6,m6,G,lL,Y,NF n8 s7,g6,s7 _ _ Mc,oA.mono (CN s7),RU,λlw H8 hlw s8 OA=>⟨.list ((K6 _ _).map PySem.W.Dat.str),.list ((K6 _ _).map PySem.W.Dat.str),.list (SqL.of (s8 _ _ He)) (J4 _),.list (SqL.of OA) (J4 _),dZ (gP g6 RU),dZ (gP g6 RU),Z,?_⟩⟩
    rw[IF];exact AU ⟨Z,s6.trans (s7.trans s8)⟩
   ·rintro σ H6 ⟨y8,rfl,s6⟩;exact⟨G,G,G,G,Z,W5.mono s6,DZ.trans s6⟩
  ·rintro σ H1 ⟨t,tx,pg,hist,x4,x5,x6,x7,x8,rfl,W,si⟩;have q0:=(W.one 0 0.0).objs.2.2.2;have q1:=(W.one 1 0.0).objs.2.2.2;have Z9:(upd H1 (tx 0) (C7 P w (tx 0) [])) (tx 1)≈(.dT []):=by rw[AD (Yw W.ne)];exact q1
   refine(show UG P w _ _ _ _ from⟨tx 0,q0,(show UG P w _ _ _ _ from⟨tx 1,Z9,?_⟩)⟩);have k3:∀ c o,¬ (c=tx 0\/c=tx 1)->H1 c≈o->(upd (upd H1 (tx 0) (C7 P w (tx 0) [])) (tx 1) (C7 P w (tx 1) [])) c≈o:=λc o n e=>by rw[AD (λz=>n (.inr z)),AD (λz=>n (.inl z))];exact e
   have e1:(upd (upd H1 (tx 0) (C7 P w (tx 0) [])) (tx 1) (C7 P w (tx 1) [])) (tx 1)≈(C7 P w (tx 1) []):=uS;have e0:(upd (upd H1 (tx 0) (C7 P w (tx 0) [])) (tx 1) (C7 P w (tx 1) [])) (tx 0)≈(C7 P w (tx 0) []):=by rw[AD W.ne,uS]
   generalize upd (upd H1 (tx 0) (C7 P w (tx 0) [])) (tx 1) (C7 P w (tx 1) [])=H3 at k3 e0 e1 ⊢;have txd:∀ i,i<2->(tx i=tx 0\/tx i=tx 1):=λi hi=>by rcases F8 hi with rfl | rfl <;> simp
   have hM:∀ c,(c=tx 0\/c=tx 1)->∃ o,H1 c≈o/\Mv U o:=by
    rintro c (rfl | rfl)
    ·exact⟨_,q0,.inr (.inr (.inr ⟨Z⟩))⟩
    ·exact⟨_,q1,.inr (.inr (.inr ⟨Z⟩))⟩
   have Qi:∀ i,i<2->Hm C B D U (λc=>ZZ pd lp lq ls c\/(c=tx 0\/c=tx 1)) (pd i) (lp i) (t i) (tx i) H3 (pg i):=λi hi=>by
    have o:=(W.one i hi).to (Z':=λc=>ZZ pd lp lq ls c\/(c=tx 0\/c=tx 1)) (λl us e n z=>z.elim n (by
     rintro(z | z)
     ·rw[z,q0]at e;cases e
     ·rw[z,q1]at e;cases e)) ⟨.inl (.inr ⟨i,hi,.inl rfl⟩),.inl (.inr ⟨i,hi,.inr (.inl rfl)⟩),.inl (.inr ⟨i,hi,.inr (.inr rfl)⟩)⟩
    obtain⟨b,qs,dk,_,_⟩:=o.ex;obtain⟨us,da,_⟩:=dk.ex;obtain⟨dx,h1,_,_⟩:=da.ex;obtain⟨k,bk⟩:=dk.bk;have f:Hm C B D U (λc=>ZZ pd lp lq ls c\/(c=tx 0\/c=tx 1)) (pd i) (lp i) (t i) (tx i) H1 (pg i):=⟨⟨b,k,dx,h1,bk⟩,dk.gd _ Yj,o.qv,o.th _ Yj,λn hn=>by
     have h1:=o.few _ Yj n hn;have h2:↑(F9 0 (m:Int).toNat)<=40:=by rw[JC];exact mT
     exact BL h1 h2⟩
    refine f.keepM hC hB hD hM (λc z=>.inr z) k3 ?_;rintro(z | z)
    ·rw[z,q0]at h1;cases h1
    ·rw[z,q1]at h1;cases h1
   have nl:∀ {c:δ} {us:LV},H1 c≈(.lst us)->¬ (c=tx 0\/c=tx 1):=λ{c us} e=>by
    rintro(z | z)
    ·rw[z,q0]at e;cases e
    ·rw[z,q1]at e;cases e
   have d3:=k3 _ _ (nl W.d) W.d;have s3:=k3 _ _ (nl W.s) W.s;have dp:∀ i,i<2->Hl P w H3 (tx i) []:=λi hi=>by
    rcases F8 hi with rfl | rfl
    ·exact⟨e0,λx hx=>nomatch hx⟩
    ·exact⟨e1,λx hx=>nomatch hx⟩
   have txn:=W.ne;clear W q0 q1 Z9 hM k3 e0 e1 nl;refine⟨2,Y,Q,Q,CG PY (λn σ H'=>∃(x8 x9 xa xb xc xd xe:OV),σ=[↥(.ref a),↥(.ref ld),↥(.ref ls),↥(.ref lps),x4,x5,x6,x7,x8,x9,xa,xb,xc,xd,xe]/\H' ld≈(.lst [.ref (pd 0),.ref (pd 1)])/\H' ls≈(.lst [.ref (t 0),.ref (t 1)]) /\
    (∀ i,i<2->Hm C B D U (λc=>ZZ pd lp lq ls c\/(c=tx 0\/c=tx 1)) (pd i) (lp i) (t i) (tx i) H' (pg i))/\∀ i,n<=i->i<2->Hl P w H' (tx i) []) ⟨G,G,G,Z,d3,s3,Qi,λi _ hi=>dp i hi⟩ (λ_ _ _ _ _=>trivial) ?_ ?_⟩
   ·clear d3 s3 Qi dp;rintro n v σ H4 hn ⟨x8,x9,xa,xb,xc,xd,xe,rfl,hd,hs,fin,dp⟩;obtain⟨Jm,rfl⟩:=JB hn;have hn:n<2:=by simpa using Jm
    have F1:=fin n hn;obtain⟨g,gn⟩:=F1.gd;obtain⟨tt,l,ln,et,ht,hR,⟨us,BN,hN⟩,_,_⟩:=F1.qv;cases et;refine⟨Z,Z,ls,G,Z,Y,SqL.of hs,M0 (f:=λi=>V.ref (t i)) hn,G,_,Z,Y,AG.of ht,Hk _ _,l,(pg n).1,Y,hR,g,λaa AW H5 s5 CU hal=>?_⟩;have oB:=hN.mono (CN s5);have ao:=s5 _ _ hd;have ae:=s5 _ _ hs;have F5:=F1.mono s5;have Jq:=(dp n (Ye _) hn);refine⟨Z,Z,ls,G,Z,Y,SqL.of ae,M0 (f:=λi=>V.ref (t i)) hn,G,_,Z,Y,AG.of (s5 _ _ ht),CA (j:=1) rfl,ln,Y,⟨_,SqL.of (s5 _ _ BN)⟩,CG (Cq (xs:=us)) (λi σ H'=>∃(xa xb xc xd xe:OV) (xs:List (Ef×δ×V)),σ=[↥(.ref a),↥(.ref ld),↥(.ref ls),↥(.ref lps),x4,x5,x6,x7,↥(.int (0 + (n:Int))),↥(.ref aa),xa,xb,xc,xd,xe] /\
     (∀ c o,c≠tx n->H5 c≈o->H' c≈o)/\Hl P w H' (tx n) xs/\↑xs<=i/\∀ y∈xs,∃ q∈(pg n).2.take i,y.1.1=Sum.inr q.1) ⟨G,G,_,[],Y,λ_ _ _ e=>e,⟨s5 _ _ Jq.1,λx hx=>nomatch hx⟩,Ye _,λy hy=>nomatch hy⟩ ?_ ?_ ?_⟩
    ·rintro i σ H6 _ ⟨_,_,_,_,_,xs,rfl,k6,_⟩;exact SqL.of (k6 _ _ (λz=>by have e:=s5 _ _ BN;rw[z,s5 _ _ Jq.1]at e;cases e) (s5 _ _ BN))
    ·rintro i v σ H6 hi ⟨xa,xb,xc,xd,xe,xs,rfl,k6,oX,xl,xn⟩;obtain⟨nm,hnm,t0,tp,vs,rfl,Jk,htp,hP⟩:=Bi oB hi;have nt:∀ {c:δ} {o:HO},H5 c≈o->(∀ f,o≠.ext f)->H6 c≈o:=λ{c o} e no=>k6 _ _ (λz=>by rw[z,s5 _ _ Jq.1]at e;cases e;exact no _ rfl) e;have ntt:∀ {c:δ} {vs:LV},H5 c≈(.tup vs)->H6 c≈(.tup vs):=λe=>nt e (λf z=>nomatch z);have As:nm∈(pg n).2:=Yd hnm;have Bg:=gn.each nm As;have one:=Bg.one;have four:=Bg.four;have oU:=F1.few nm As;have wl:=Ca Bg.word;have n9:=hP.mono λb xs e=>ntt e;have gcall:Ec (pg n).1 nm.2.1 (List.replicate nm.2.1 "thing"):=⟨T3,λx hx=>by rw[YD hx];exact F1.th⟩;refine⟨t0,Z,AG.of (ntt Jk),Y,_,Z,_,Z,_,Z,Y,?_⟩;refine⟨λσ' H'=>∃ c:δ,σ'=[↥(.ref a),↥(.ref ld),↥(.ref ls),↥(.ref lps),x4,x5,x6,x7,↥(.int (0 + (n:Int))),↥(.ref aa),↥(.str nm.1),↥(.int nm.2.1),↥(.ref tp),↥(.ref c),xe]/\AA H6 H'/\H' c≈(.tup ((List.replicate nm.2.1 ("thing":Str)).map V.str)),?_,?_⟩
     ·refine⟨V,λtt htt=>⟨Z,tt,(nm.2.1:Int),[V.str "thing"],Y,Y,AG.of uS,O,O,by show 1<=100;decide,λh=>?_,λ_ h p hp=>?_⟩⟩
      ·have e:nm.2.1=1:=by
        rcases h with h | h
        ·cases h
        ·omega
       exact⟨tt,Y,AI htt,by rw[uS,e];rfl⟩
      ·exact⟨p,Y,(AI htt).trans (AI hp),by rw[uS,rD,GQ]⟩
     rintro σ' H7 ⟨c,rfl,s7,hc⟩;have vl:↑vs=↑nm.2.2:=(Yp hP).symm;have G0:=s7 _ _ (ntt htp);have au:=n9.mono (CN s7);refine⟨Z,Z,tp,Y,⟨_,AG.of G0⟩,Rn (Gr (xs:=vs)) 0.0 (λv hv=>?_) (λH' s'=>AG.of (s' _ _ G0)) λlh H8 hlh s8 ng=>?_⟩
     ·obtain⟨k,hk⟩:=Gx hv;obtain⟨_,_,t',_,e,h1,_⟩:=Bi au hk;exact⟨t',G,e,h1⟩
     have ML:=s7.trans s8;have VB:=(Vn au).mono s8;have nle:∀ k∈EJ (pg n).1 (nm.2.2.map 0.8) (List.replicate nm.2.1 "thing"),k<=40:=wG (by rw[Ya];exact oU);refine⟨Z,aa,lh,c,nm.2.1,(pg n).1,AW,nm.2.2.map 0.8,vs.map (Kv H7),List.replicate nm.2.1 "thing",Y,g,ML _ _ (nt CU (λf z=>nomatch z)),hal.mono (λb xs e=>ML _ _ (nt e (λf z=>nomatch z))),ng,VB,Bg.deeds,s8 _ _ hc,gcall,four,λlt H9 A2 s9 nH=>⟨lt,Z,nH,λk hk=>BL (nle k hk) 0.0,λAw B2=>?_⟩⟩;have Qy:=ML.trans (s9.trans B2);have FA:Hm C B D U (λc=>ZZ pd lp lq ls c\/(c=tx 0\/c=tx 1)) (pd n) (lp n) (t n) (tx n) Aw (pg n):=(F5.keepM (M:=λc=>c=tx n) hC hB hD (λc e=>⟨C7 P w (tx n) [],by rw[e];exact s5 _ _ Jq.1,.inr (.inr (.inl ⟨Z⟩))⟩) (λc e=>.inr (e ▸ txd n hn)) k6 (λz=>by
      obtain⟨_,_,_,h1,_⟩:=F5.ex;rw[z,s5 _ _ Jq.1]at h1;cases h1)).mono Qy
     obtain⟨b,mZ,dx,h1,bk⟩:=FA.ex;have hdA:=Qy _ _ (nt ao (λf z=>nomatch z));have la:(("ask ":Str)++nm.1).length=4 + ↑nm.1:=by rw[strLen_append];rfl
     have lr:(EX " thing" nm.2.1).length=nm.2.1 * 6:=by rw[dq];rfl
     refine⟨Z,Z,ld,G,Z,Y,SqL.of hdA,M0 (f:=λi=>V.ref (pd i)) hn,Z,_,Z,Y,sL (by rw[show("ask ":Str).length=4 from rfl];omega),Z,_,nm.2.1,Y,Y,one,O,Q,Q,_,Z,Y,sL (by rw[la,lr];omega),
      pd n,dx,_,Z,h1,WQ _ _ _,λQ2 E2 hQ hE=>?_⟩
     have l8:=gn.few;have hil:i<(pg n).2.length:=Yu.mp hnm |>.1
     refine⟨pd n,b,lp n,dx,tx n,_,Z,h1,vd Bg.word four,.inr (.inr (.inr ⟨nm.1,List.replicate nm.2.1 "thing",Y,⟨Bg.word,λz=>by have:=congrArg List.length z;rw[T3]at this;simp at this;omega,λz hz=>by rw[YD hz];exact gj⟩,λz=>?_,mZ,(pg n).1,(pg n).2,nm,xs,Y,bk.at_,g,gn,As,gcall,oX.mono Qy,λy hy e=>?_,O,λkb HB kB dB l HC hl sC hlC=>?_⟩))⟩
     ·have:=congrArg Str.length z;rw[strLen_append,la,show("back":Str).length=4 from rfl]at this;omega
     ·obtain⟨q,hq,eq⟩:=xn y hy;rw[eq]at e;injection e with e;have:=(Vf gn.nd (II hq) As e);subst this;obtain⟨k,hk⟩:=Gx hq;rw[List.getElem?_take]at hk;split at hk
      ·rename_i hki
       have nd:=gn.nd;have e1:((pg n).2.map 0.8)[k]?≈q.1:=by rw[Ys,hk];rfl
       have e2:((pg n).2.map 0.8)[i]?≈q.1:=by rw[Ys,hnm];rfl
       have:=(List.getElem?_inj (by rw[Ya];omega) nd).mp (e1.trans e2.symm);omega
      ·cases hk
     ·refine hQ _ _ λra HD sD ha=>?_;refine⟨Z,V,λl1 Ap=>⟨W,λt2 AS=>?_⟩⟩;have Z5:AA HD (upd HD l1 (.lst [.str (Ff (EJ (pg n).1 (nm.2.2.map 0.8) (List.replicate nm.2.1 "thing")))])):=AI Ap;have bQ:(upd HD l1 (.lst [.str (Ff (EJ (pg n).1 (nm.2.2.map 0.8) (List.replicate nm.2.1 "thing")))])) l1≈(.lst [.str (Ff (EJ (pg n).1 (nm.2.2.map 0.8) (List.replicate nm.2.1 "thing")))]):=uS;generalize upd HD l1 (.lst [.str (Ff (EJ (pg n).1 (nm.2.2.map 0.8) (List.replicate nm.2.1 "thing")))])=UR at Z5 bQ AS ⊢;have Ue:AA UR (upd UR t2 (.tup [.str "told",.ref l1])):=AI AS;have bP:(upd UR t2 (.tup [.str "told",.ref l1])) t2≈(.tup [.str "told",.ref l1]):=uS;generalize upd UR t2 (.tup [.str "told",.ref l1])=HE2 at Ue bP ⊢;have sDE:=Z5.trans Ue;have sCE:=sC.trans (sD.trans sDE);have okd:=y_ (xP nle);refine⟨.tuple [.str "told",.list [.str _]],.tuple [.str "told",.list [.str _]],.tuple (AG.of (sDE _ _ ha)) (.cons (.str _) (.cons (.list (SqL.of (sDE _ _ (sD _ _ hlC))) (.cons (.str _) .nil)) .nil)),.tuple (AG.of bP) (.cons (.str _) (.cons (.list (SqL.of (Ue _ _ bQ)) (.cons (.str _) .nil)) .nil)),okd,okd,Z,?_⟩;rw[IF];refine AU ⟨G,G,_,Z,λc o hc e=>sCE _ _ (kB _ _ hc (Qy _ _ (k6 _ _ hc e))),dB.mono sCE,by rw[Yo];exact Nat.succ_le_succ xl,λy hy=>?_⟩
      rcases Ym.mp hy with hy | hy
      ·obtain⟨q,hq,e⟩:=xn y hy;exact⟨q,Yd (i:=(Gx hq).choose) (by
        have hk:=(Gx hq).choose_spec;rw[List.getElem?_take]at hk ⊢;split at hk
        ·rename_i h;rw[if_pos 0.0];exact hk
        ·cases hk),e⟩
      ·rw[Yc.mp hy];exact⟨nm,Yd (i:=i) (by rw[List.getElem?_take,if_pos 0.0];exact hnm),Y⟩
    ·rintro σ H6 ⟨xa,xb,xc,xd,xe,xs,rfl,k6,_,_,_⟩;have nt:∀ {c:δ} {o:HO},H5 c≈o->(∀ f,o≠.ext f)->H6 c≈o:=λ{c o} e no=>k6 _ _ (λz=>by rw[z,s5 _ _ Jq.1]at e;cases e;exact no _ rfl) e;refine⟨G,G,G,Z,nt ao (λf z=>nomatch z),nt ae (λf z=>nomatch z),λi hi=>((fin i hi).mono s5).keepM (M:=λc=>c=tx n) hC hB hD (λc e=>⟨C7 P w (tx n) [],by rw[e];exact s5 _ _ Jq.1,.inr (.inr (.inl ⟨Z⟩))⟩) (λc e=>.inr (e ▸ txd n hn)) k6 (λz=>by
      obtain⟨_,_,_,h1,_⟩:=((fin i hi).mono s5).ex;rw[z,s5 _ _ Jq.1]at h1;cases h1),λi h1 h2=>?_⟩
     have e1:i=1:=by omega
     have e2:n=0:=by omega
     subst e1 e2;exact⟨k6 _ _ (Yw txn) (s5 _ _ (dp 1 0.0 h2).1),λx hx=>nomatch hx⟩
   ·rintro σ H4 ⟨x8,x9,xa,xb,xc,xd,xe,rfl,_⟩;exact q _
end Lg
namespace Lg
open PySem L2
variable {P:ω}{w:World}{K:Fg}{mg:Str->OU}{base:Heap}
def md{K:Fg}{m q:Str}{st:Stmt}{ps:LS}(T:Mp K C m q st f fd)(b:Bz K fd ps []):Cw K C m q st ps f fd:=⟨T.fn,b,T.a,T.i,T.fn.kp⟩
def tq:=@tp
set_option maxHeartbeats 4000000 in
def all_mk{l:W.OpenLaw}{w:World}{K:Fg}{h:Heap}{mg:Str->OU}(X:K.In h)(G:h.Ns mainGlobals mg)(hfa:mg "law"≈(.ref fa))
  {T_LETTERS T_MOST_LETTERS T_MOST_KINDS T_MOST_UPS T_MOST_PLACES T_MOST_DEEDS T_MOST_NAMES:Tok}
  (p_QD:Qp K "DeedError" QD)
  (e_QD:ExC K QD)
  (Lw:Qp K "NoKind" Q0)
  (Lv:Qp K "Twice" Q1)
  (Lu:Qp K "NoName" Q2)
  (Ls:Qp K "Ring" Q3)
  (Lr:Qp K "NoDeed" Q4)
  (Lq:Qp K "Same" Q5)
  (Lp:Qp K "NoText" Q6)
  (Lo:Qp K "TooMany" Q7)
  (Ln:Qp K "NoBoard" Q8)
  (Lm:Qp K "NoCall" Q9)
  (HS:Qp K "NoLine" QL)
  (HR:Qp K "NoPlace" QK)
  (HQ:Qp K "NoWeights" QJ)
  (HP:Qp K "NoTerm" QI)
  (FX:Qp K "NoRow" IP)
  (KN:JR K IP)
  (ME:W.subIn K (.ref IP) (.ref QD)≈true)
  (Qm:S15 K IP Q0 Q1 Q2 Q3 Q4 Q5 Q6 Q7 Q8 Q9 QL QK QJ QI IP false false false false false false false false false false false false false false true)
  (MF:W.findIn K (.ref IP) "__init__"≈(↥(.builtin "ValueError.__init__")))
  (TC:Cp K "Kinds" C)
  (TB:Cp K "Board" B)
  (TD:Cp K "Book" D)
  (TU:Cp K "Desk" U)
  (T_mI:Mp K C "__init__" "Kinds.__init__" Xn f_mI d_mI)
  (T_mH:Mp K C "has" "Kinds.has" Sr f_mH d_mH)
  (T_mC:Mp K C "check" "Kinds.check" Pe f_mC d_mC)
  (T_mUn:Mp K C "under" "Kinds.under" S2 f_mUn d_mUn)
  (T_mM:Mp K C "more" "Kinds.more" TH f_mM d_mM)
  (T_mT:Mp K C "tied" "Kinds.tied" TJ f_mT d_mT)
  (T_mR:Mp K C "rows" "Kinds.rows" Ph f_mR d_mR)
  (T_bI:Mp K B "__init__" "Board.__init__" Xm f_bI d_bI)
  (T_bK:Mp K B "kinds" "Board.kinds" S1 f_bK d_bK)
  (T_bP:Mp K B "places" "Board.places" TX f_bP d_bP)
  (T_bD:Mp K B "deeds" "Board.deeds" S0 f_bD d_bD)
  (T_kI:Mp K D "__init__" "Book.__init__" Pn f_kI d_kI)
  (T_kC:Mp K D "check_name" "Book.check_name" Tb f_kC d_kC)
  (T_kK:Mp K D "kinds" "Book.kinds" S9 f_kK d_kK)
  (T_kB:Mp K D "board" "Book.board" Sn f_kB d_kB)
  (T_kN:Mp K D "names" "Book.names" S_ f_kN d_kN)
  (T_uI:Mp K U "__init__" "Desk.__init__" Xl f_uI d_uI)
  (T_uS:Mp K U "say" "Desk.say" PZ f_uS d_uS)
  (T_uM:Mp K U "move" "Desk.move" Sq f_uM d_uM)
  (T_uB:Mp K U "back" "Desk.back" So f_uB d_uB)
  (T_uK:Mp K U "ask" "Desk.ask" Sd f_uK d_uK)
  (T_w:Tp K "is_word" I_ f_w d_w)
  (T_cr:Tp K "check_rows" TM f_cr d_cr)
  (T_cu:Tp K "check_ups" Sx f_cu d_cu)
  (T_fa:Tp K "first_among" NH f_fa d_fa)
  (T_en:Tp K "endless" NC f_en d_en)
  (T_fr:Tp K "find_ring" Sy f_fr d_fr)
  (T_aa:Tp K "all_above" Sv f_aa d_aa)
  (T_P:Tp K "_law_pot" Se f_P d_P)
  (T_T:Tp K "_law_take" LJ f_T d_T)
  (T_Le:Tp K "_law_letters" TY f_Le d_Le)
  (T_W:Tp K "_law_word" Gv f_W d_W)
  (T_A:Tp K "_law_above" Pj f_A d_A)
  (T_ic:Tp K "is_call" J5 f_ic d_ic)
  (T_cd:Tp K "check_deeds" S4 f_cd d_cd)
  (T_cm:Tp K "check_makes" S5 f_cm d_cm)
  (T_arw:Tp K "are_words" J6 f_arw d_arw)
  (T_fkr:Tp K "is_kind_row" S7 f_fkr d_fkr)
  (T_fnr:Tp K "is_name_row" S8 f_fnr d_fnr)
  (T_fdr:Tp K "is_deed_row" S6 f_fdr d_fdr)
  (T_kof:Tp K "kind_of" SJ f_kof d_kof)
  (T_nof:Tp K "name_of" SK f_nof d_nof)
  (T_dof:Tp K "deed_of" SI f_dof d_dof)
  (T_kr:Tp K "kind_row" Sh f_kr d_kr)
  (T_dr:Tp K "deed_row" Sg f_dr d_dr)
  (T_br:Tp K "book_rows" NG f_br d_br)
  (T_itr:Tp K "is_tie_row" TQ f_itr d_itr)
  (T_itl:Tp K "is_telling" TN f_itl d_itl)
  (T_iak:Tp K "is_asking" Pc f_iak d_iak)
  (T_chk:Tp K "check_row" Sw f_chk d_chk)
  (T_wd:Tp K "with_deed" Sz f_wd d_wd)
  (T_wr:Tp K "with_row" Si f_wr d_wr)
  (T_ab:Tp K "asked_of_book" Ta f_ab d_ab)
  (T_cc:Tp K "check_call" TL f_cc d_cc)
  (T_wi:Tp K "within" M8 f_wi d_wi)
  (T_fi:Tp K "fitting" PQ f_fi d_fi)
  (T_lw:Tp K "_law_within" Pf f_lw d_lw)
  (T_nw:Tp K "nearest_with" NJ f_nw d_nw)
  (T_na:Tp K "nearest_among" Tc f_na d_na)
  (T_ne:Tp K "nearest" SM f_ne d_ne)
  (T_to:Tp K "told_of" SN f_to d_to)
  (T_td:Tp K "told" Rg f_td d_td)
  (T_ln:Tp K "_law_nearest" NI f_ln d_ln)
  (T_tht:Tp K "thing_text" TV f_tht d_tht)
  (T_rot:Tp K "row_text" Pb f_rot d_rot)
  (T_akt:Tp K "ask_text" Sf f_akt d_akt)
  (T_cls:Tp K "_law_classes" Pl f_cls d_cls)
  (T_rfu:Tp K "_law_refusal" TZ f_rfu d_rfu)
  (T_lto:Tp K "_law_told" Ss f_lto d_lto)
  (T_lk:Tp K "_law_kind_row" NM f_lk d_lk)
  (T_ld:Tp K "_law_deed_row" NL f_ld d_ld)
  (T_wrt:Tp K "_law_written" Pm f_wrt d_wrt)
  (T_he:Tp K "_law_heard" Pk f_he d_he)
  (T_gr:Tp K "_law_grown" NK f_gr d_gr)
  (T_gor:Tp K "_law_good_row" JD f_gor d_gor)
  (T_an:Tp K "_law_answer" S3 f_an d_an)
  (T_tu:Tp K "_law_turn" Su f_tu d_tu)
  (T_L:Tp K "law" Tn f_L d_L)
  (n_ups_of:W.findIn K (.ref C) "ups_of"≈none)
  (n_above_of:W.findIn K (.ref C) "above_of"≈none)
  (n_book_B:W.findIn K (.ref B) "book"≈none)
  (n_width_B:W.findIn K (.ref B) "width"≈none)
  (n_stands_B:W.findIn K (.ref B) "stands"≈none)
  (n_has_B:W.findIn K (.ref B) "has"≈none)
  (n_book_D:W.findIn K (.ref D) "book"≈none)
  (n_board_of_D:W.findIn K (.ref D) "board_of"≈none)
  (n_made_of_D:W.findIn K (.ref D) "made_of"≈none)
  (n_has_D:W.findIn K (.ref D) "has"≈none)
  (n_deeds_D:W.findIn K (.ref D) "deeds"≈none)
  (n_now_U:W.findIn K (.ref U) "now"≈none)
  (n_past_U:W.findIn K (.ref U) "past"≈none)
  (n_texts_U:W.findIn K (.ref U) "texts"≈none)
  (n_has_U:W.findIn K (.ref U) "has"≈none)
  (n_deeds_U:W.findIn K (.ref U) "deeds"≈none)
  (n_names_U:W.findIn K (.ref U) "names"≈none)
  (g_FG:W.nsIn K mainGlobals "FIGURES"≈(↥(.ref FG)))
  (l_FG:K.lookup FG=some {cls:=.type "tuple",dict:=dd_FG,data:=.seq #[.str "1" lH,.str "2" lG,.str "3" lF,.str "4" lE] n_FG,slots:=sl_FG})
  (g_LETTERS:W.nsIn K mainGlobals "LETTERS"≈(↥(.str Md.letters T_LETTERS)))
  (g_MOST_LETTERS:W.nsIn K mainGlobals "MOST_LETTERS"≈(↥(.int 8 T_MOST_LETTERS)))
  (g_MOST_KINDS:W.nsIn K mainGlobals "MOST_KINDS"≈(↥(.int 24 T_MOST_KINDS)))
  (g_MOST_UPS:W.nsIn K mainGlobals "MOST_UPS"≈(↥(.int 8 T_MOST_UPS)))
  (g_MOST_PLACES:W.nsIn K mainGlobals "MOST_PLACES"≈(↥(.int 4 T_MOST_PLACES)))
  (g_MOST_DEEDS:W.nsIn K mainGlobals "MOST_DEEDS"≈(↥(.int 64 T_MOST_DEEDS)))
  (g_MOST_NAMES:W.nsIn K mainGlobals "MOST_NAMES"≈(↥(.int 8 T_MOST_NAMES)))
  (z_len:W.nsIn K mainGlobals "len"≈none)
  (z_all:W.nsIn K mainGlobals "all"≈none)
  (z_any:W.nsIn K mainGlobals "any"≈none)
  (z_list:W.nsIn K mainGlobals "list"≈none)
  (z_tuple:W.nsIn K mainGlobals "tuple"≈none)
  (z_range:W.nsIn K mainGlobals "range"≈none)
  (z_int:W.nsIn K mainGlobals "int"≈none)
  (z_str:W.nsIn K mainGlobals "str"≈none)
  (z_min:W.nsIn K mainGlobals "min"≈none)
  (z_max:W.nsIn K mainGlobals "max"≈none)
  (z_isinstance:W.nsIn K mainGlobals "isinstance"≈none)
  (z_enumerate:W.nsIn K mainGlobals "enumerate"≈none)
  (z_zip:W.nsIn K mainGlobals "zip"≈none)
  (z_ValueError:W.nsIn K mainGlobals "ValueError"≈none)
  : ∃ fd:FuncData,(∀(s:χ) (v:ε),BindsTo s fd ⟨[v],[]⟩ [("script",v)])/\∀ base:Heap,K.In base->base.Ns mainGlobals mg->BQ l.prog w K mg base JS 14 fa fd ["script"] (To K):=by
 have e:=hfa.symm.trans (W.mg_of X G T_L.a);cases e;obtain⟨_,_,_,_,_,_,rfl⟩:=Tp.ex T_L.fn;have mgC_LETTERS:=W.mg_of X G g_LETTERS;have mgC_MOST_LETTERS:=W.mg_of X G g_MOST_LETTERS;have mgC_MOST_KINDS:=W.mg_of X G g_MOST_KINDS;have mgC_MOST_UPS:=W.mg_of X G g_MOST_UPS;have mgC_MOST_PLACES:=W.mg_of X G g_MOST_PLACES;have mgC_MOST_DEEDS:=W.mg_of X G g_MOST_DEEDS;have mgC_MOST_NAMES:=W.mg_of X G g_MOST_NAMES;have mgN_len:=W.mg_none_of X G z_len;have mgN_all:=W.mg_none_of X G z_all;have mgN_any:=W.mg_none_of X G z_any;have mgN_list:=W.mg_none_of X G z_list;have mgN_tuple:=W.mg_none_of X G z_tuple;have mgN_range:=W.mg_none_of X G z_range;have mgN_int:=W.mg_none_of X G z_int;have mgN_str:=W.mg_none_of X G z_str;have mgN_min:=W.mg_none_of X G z_min;have mgN_max:=W.mg_none_of X G z_max;have mgN_isinstance:=W.mg_none_of X G z_isinstance;have mgN_enumerate:=W.mg_none_of X G z_enumerate;have mgN_zip:=W.mg_none_of X G z_zip;have mgN_ValueError:=W.mg_none_of X G z_ValueError;obtain⟨aC,pg,hd,po,sa,mk,kc⟩:=TC;have mgC:=W.mg_of X G aC;have M:Mk K C f_mI:=⟨mk,T_mI.a,T_mI.i,kc⟩;obtain⟨aB,pg_B,hd_B,po_B,sa_B,mk_B,kc_B⟩:=TB;have mgB:=W.mg_of X G aB;have M_B:Mk K B f_bI:=⟨mk_B,T_bI.a,T_bI.i,kc_B⟩;obtain⟨aD,pg_D,hd_D,po_D,sa_D,mk_D,kc_D⟩:=TD;have mgD:=W.mg_of X G aD;have M_D:Mk K D f_kI:=⟨mk_D,T_kI.a,T_kI.i,kc_D⟩;obtain⟨aU,pg_U,hd_U,po_U,sa_U,mk_U,kc_U⟩:=TU;have mgU:=W.mg_of X G aU;have M_U:Mk K U f_uI:=⟨mk_U,T_uI.a,T_uI.i,kc_U⟩;have F_mI:=T_mI.fn;have b_mI:=CY "self" "rows" T_mI.fn;have a_mH:=T_mH.a;have M_mH:=md T_mH (CY "self" "word" T_mH.fn);have M_mC:=md T_mC (CY "self" "word" T_mC.fn);have M_mUn:=md T_mUn (Dw "self" "one" "other" T_mUn.fn);have M_mM:=md T_mM (Dw "self" "word" "ups" T_mM.fn);have M_mT:=md T_mT (Dw "self" "one" "other" T_mT.fn);have M_mR:=md T_mR (Bb "self" T_mR.fn);have F_bI:=T_bI.fn;have b_bI:=VS "self" "kinds" "places" "deeds" T_bI.fn;have M_bK:=md T_bK (Bb "self" T_bK.fn);have M_bP:=md T_bP (Bb "self" T_bP.fn);have a_bD:=T_bD.a;have M_bD:=md T_bD (Bb "self" T_bD.fn);have F_kI:=T_kI.fn;have b_kI:=Dw "self" "kinds" "names" T_kI.fn;have M_kC:=md T_kC (CY "self" "word" T_kC.fn);have M_kK:=md T_kK (Bb "self" T_kK.fn);have M_kB:=md T_kB (CY "self" "word" T_kB.fn);have a_kN:=T_kN.a;have M_kN:=md T_kN (Bb "self" T_kN.fn);have F_uI:=T_uI.fn;have b_uI:=Bb "self" T_uI.fn;have F_uS:=T_uS.fn;have M_uS:=md T_uS (CY "self" "row" T_uS.fn);have F_uM:=T_uM.fn;have M_uM:=md T_uM (CY "self" "book" T_uM.fn);have F_uB:=T_uB.fn;have M_uB:=md T_uB (Bb "self" T_uB.fn);have F_uK:=T_uK.fn;have M_uK:=md T_uK (Dw "self" "word" "call" T_uK.fn);have D_w:=df X G T_w (Bb "text" T_w.fn);have D_cr:=df X G T_cr (Bb "rows" T_cr.fn);have D_cu:=df X G T_cu (Bb "ups_of" T_cu.fn);have D_fa:=df X G T_fa (CY "words" "others" T_fa.fn);have D_en:=df X G T_en (Bb "ups_of" T_en.fn);have D_fr:=df X G T_fr (Bb "ups_of" T_fr.fn);have D_aa:=df X G T_aa (CY "ups_of" "word" T_aa.fn);have D_P:=df X G T_P (CY "script" "k" T_P.fn);have D_T:=df X G T_T (CY "pot" "many" T_T.fn);have D_Le:=df X G T_Le (Bb "number" T_Le.fn);have D_W:=df X G T_W (CY "pot" "words" T_W.fn);have D_A:=df X G T_A (Bb "rows" T_A.fn);have D_ic:=df X G T_ic (Dw "kinds" "places" "call" T_ic.fn);have D_cd:=df X G T_cd (Dw "kinds" "places" "deeds" T_cd.fn);have D_cm:=df X G T_cm (CY "kinds" "makes" T_cm.fn);have D_arw:=df X G T_arw (Bb "texts" T_arw.fn);have D_fkr:=df X G T_fkr (Bb "words" T_fkr.fn);have D_fnr:=df X G T_fnr (Bb "words" T_fnr.fn);have D_fdr:=df X G T_fdr (Bb "words" T_fdr.fn);have D_kof:=df X G T_kof (Bb "words" T_kof.fn);have D_nof:=df X G T_nof (Bb "words" T_nof.fn);have D_dof:=df X G T_dof (Bb "words" T_dof.fn);have D_kr:=df X G T_kr (CY "word" "ups" T_kr.fn);have D_dr:=df X G T_dr (Dw "word" "call" "made" T_dr.fn);have D_br:=df X G T_br (Bb "book" T_br.fn);have D_itr:=df X G T_itr (Bb "words" T_itr.fn);have D_itl:=df X G T_itl (Bb "words" T_itl.fn);have D_iak:=df X G T_iak (Bb "words" T_iak.fn);have D_chk:=df X G T_chk (Bb "row" T_chk.fn);have D_wd:=df X G T_wd (Dw "book" "word" "deed" T_wd.fn);have D_wr:=df X G T_wr (CY "book" "words" T_wr.fn);have D_ab:=df X G T_ab (CY "book" "words" T_ab.fn);have D_cc:=df X G T_cc (Dw "kinds" "places" "call" T_cc.fn);have D_wi:=df X G T_wi (Dw "kinds" "one" "other" T_wi.fn);have D_fi:=df X G T_fi (CY "board" "call" T_fi.fn);have D_lw:=df X G T_lw (Dw "above" "one" "other" T_lw.fn);have D_nw:=df X G T_nw (VS "kinds" "deeds" "near" "number" T_nw.fn);have D_na:=df X G T_na (CY "board" "numbers" T_na.fn);have D_ne:=df X G T_ne (CY "board" "call" T_ne.fn);have D_to:=df X G T_to (Bb "near" T_to.fn);have D_td:=df X G T_td (CY "board" "call" T_td.fn);have D_ln:=df X G T_ln (Dw "above" "deeds" "call" T_ln.fn);have D_tht:=df X G T_tht (Bb "thing" T_tht.fn);have D_rot:=df X G T_rot (Bb "things" T_rot.fn);have D_akt:=df X G T_akt (Dw "book" "word" "call" T_akt.fn);have D_cls:=df X G T_cls (Bb "e" T_cls.fn);have D_rfu:=df X G T_rfu (Bb "e" T_rfu.fn);have D_lto:=df X G T_lto (Dw "above" "deeds" "call" T_lto.fn);have D_lk:=df X G T_lk (CY "word" "ups" T_lk.fn);have D_ld:=df X G T_ld (Dw "word" "deed" "made" T_ld.fn);have D_wrt:=df X G T_wrt (CY "rows" "names" T_wrt.fn);have D_he:=df X G T_he (CY "desk" "row" T_he.fn);have D_gr:=df X G T_gr (Dw "rows" "names" "words" T_gr.fn);have D_gor:=df X G T_gor (Dw "pot" "rows" "names" T_gor.fn);have D_an:=df X G T_an (Bb "seen" T_an.fn);have D_tu:=df X G T_tu (VS "pot" "desk" "now" "past" T_tu.fn);have D_L:=df X G T_L (Bb "script" T_L.fn);have TD:jZ K mg QD:=⟨W.mg_of X G p_QD.a,e_QD,p_QD.cl,p_QD.ty⟩;have TF:ba K mg (bH Q0 Q1 Q2 Q3 Q4 Q5 Q6 Q7 Q8 Q9 QL QK QJ QI IP):=⟨W.mg_of X G Lw.a,W.mg_of X G Lv.a,W.mg_of X G Lu.a,W.mg_of X G Ls.a,W.mg_of X G Lr.a,W.mg_of X G Lq.a,W.mg_of X G Lp.a,W.mg_of X G Lo.a,W.mg_of X G Ln.a,W.mg_of X G Lm.a,W.mg_of X G HS.a,W.mg_of X G HR.a,W.mg_of X G HQ.a,W.mg_of X G HP.a,W.mg_of X G FX.a,Xp Lw.cl Lv.cl Lu.cl Ls.cl Lr.cl Lq.cl Lp.cl Lo.cl Ln.cl Lm.cl HS.cl HR.cl HQ.cl HP.cl FX.cl,Xp Lw.ty Lv.ty Lu.ty Ls.ty Lr.ty Lq.ty Lp.ty Lo.ty Ln.ty Lm.ty HS.ty HR.ty HQ.ty HP.ty FX.ty⟩;obtain⟨f0,f1,f2,f3,f4,f5,f6,f7,f8,f9,bN,bM,bL,bK,bJ⟩:=Qm;have k7:Td K QD (bH Q0 Q1 Q2 Q3 Q4 Q5 Q6 Q7 Q8 Q9 QL QK QJ QI IP) 14:=⟨KN,ME,Xp f0 f1 f2 f3 f4 f5 f6 f7 f8 f9 bN bM bL bK bJ⟩;have Zr:ja K mg "NoRow" IP:=⟨W.mg_of X G FX.a,KN.toExC,MF⟩;have TK:LM mg:=⟨⟨_,mgC_LETTERS⟩,⟨_,mgC_MOST_LETTERS⟩,⟨_,mgC_MOST_KINDS⟩,⟨_,mgC_MOST_UPS⟩,mgN_len,mgN_all,mgN_list,mgN_tuple⟩;have TR:zG mg:=⟨mgN_range,mgN_int,mgN_len,mgN_tuple,mgN_list⟩;have TC:EC K C:=⟨⟨pg,hd,po,sa⟩,n_ups_of,n_above_of⟩;have TBd:Js K B:=⟨⟨pg_B,hd_B,po_B,sa_B⟩,n_book_B,n_width_B,n_stands_B⟩;have TBm:Xo mg:=⟨⟨_,mgC_MOST_PLACES⟩,⟨_,mgC_MOST_DEEDS⟩,mgN_len,mgN_all,mgN_tuple,mgN_list,mgN_enumerate⟩;have hBC:B≠C:=λz=>by rw[z,a_mH]at n_has_B;cases n_has_B
 have TKn:Hw K D:=⟨⟨pg_D,hd_D,po_D,sa_D⟩,n_book_D,n_board_of_D,n_made_of_D⟩;have hDC:D≠C:=λz=>by rw[z,a_mH]at n_has_D;cases n_has_D
 have hDB:D≠B:=λz=>by rw[z,a_bD]at n_deeds_D;cases n_deeds_D
 have TDd:zf mg:=⟨mgN_len,mgN_range,mgN_tuple⟩;have TFG:jb K mg:=⟨FG,W.mg_of X G g_FG,λH=>.inr ⟨G,_,l_FG,Y,Y,sL (by show 4<=100000;decide),.cons ⟨Z⟩ (.cons ⟨Z⟩ (.cons ⟨Z⟩ (.cons ⟨Z⟩ .nil)))⟩⟩;have TU:K0 K U:=⟨⟨pg_U,hd_U,po_U,sa_U⟩,n_now_U,n_past_U,n_texts_U⟩;have hUC:U≠C:=λz=>by rw[z,a_mH]at n_has_U;cases n_has_U
 have hUB:U≠B:=λz=>by rw[z,a_bD]at n_deeds_U;cases n_deeds_U
 have hUD:U≠D:=λz=>by rw[z,a_kN]at n_names_U;cases n_names_U
 exact⟨_,λs v=>.of_eq rfl,λbase _ _=>have GW:=fh (P:=l.prog) (w:=w) (base:=base) D_wi mgN_zip TC M_mUn M_mC M_mH;have GF:=rf (P:=l.prog) (w:=w) (base:=base) D_fi TBm mgN_zip TC TBd M_bK M_bP M_bD D_cc D_wi D_ic M_mUn M_mC M_mH;have GA:=uQ D_na mgN_list mgN_any TBd M_bK M_bD D_nw D_wi GW;have GN:=rp D_ne D_na GA D_fi GF;have GTd:=wY D_td D_ne GN D_to mgN_len;have GB:=yQ (P:=l.prog) (w:=w) (base:=base) F_bI TBm TBd TC D_cd D_ic M_mH hBC;have GLW:=rm (P:=l.prog) (w:=w) (base:=base) D_lw ⟨mgN_all,mgN_zip⟩;have GI:=wQ (P:=l.prog) (w:=w) (base:=base) F_mI TK TC D_cr D_w D_cu D_fr D_en D_fa D_aa;have GP:=u5 (P:=l.prog) (w:=w) (base:=base) D_P mgN_len;have GT:=ck (P:=l.prog) (w:=w) (base:=base) D_T;have GLA:=qq (P:=l.prog) (w:=w) (base:=base) D_A mgN_len;have GW:=xD (P:=l.prog) (w:=w) (base:=base) D_W D_T D_Le mgN_len;have GKI:=y3 F_kI TK ⟨_,mgC_MOST_NAMES⟩ TKn hDC hDB D_w M_B mgB b_bI GB D_cm (qQ D_cm TC M_mH);have GIW:=Wv D_w TK;have GAW:=tS D_arw mgN_all D_w GIW;have GFK:=rh D_fkr mgN_len D_arw GAW;have GFN:=rn D_fnr mgN_len TFG D_w GIW;have GFD:=rZ D_fdr mgN_len D_arw GAW;have GKO:=qU D_kof;have GNO:=qr D_nof mgN_int;have GDO:=qR D_dof mgN_tuple;have GKN:=qo (C:=C) M_kN.fn TKn TBd M_bP M_bD mgN_list mgN_tuple mgN_zip;have GBR:=yR D_br TKn TC mgN_list M_kK M_kN GKN M_mR D_kr D_dr;have GKK:=gL (B:=B) (C:=C) M_kK.fn TKn;have GTi:=qt D_itr mgN_len D_arw GAW;have GTe:=sg D_itl D_fkr GFK D_itr GTi D_fnr GFN D_fdr GFD;have GIA:=qP D_iak mgN_len D_arw GAW;have GCR:=tT D_chk D_itl GTe D_iak GIA;have GMT:=wX M_mT.fn TC M_mC M_mH M mgC b_mI GI;have GMM:=wU M_mM.fn TC mgN_list M_mR M mgC b_mI GI;have GKC:=gK (B:=B) (C:=C) M_kC.fn TKn;have GWD:=uC D_wd TKn M_kC GKC M_kN GKN M_kK GKK M_D mgD b_kI GKI;have GWR:=tW D_wr TKn TC D_wd GWD D_dof GDO D_nof GNO D_kof GKO M_kN GKN M_kK GKK M_mT GMT M_mM GMM M_D mgD b_kI GKI;have GAB:=yO D_ab D_br GBR;have GMv:=yV F_uM TU;have GBk:=yS F_uB TU Zr M_uM GMv.any;have GTT:=t_ D_tht mgN_isinstance mgN_tuple mgN_str;have GRT:=sf D_rot D_tht GTT;have GKB:=qT (C:=C) (B:=B) M_kB.fn TKn M_kC;have GAT:=rX D_akt D_rot GRT D_td GTd TKn M_kB GKB;have GDA:=wL F_uK TU D_akt GAT;have GSy:=wN F_uS TU hUC hUB hUD D_chk GCR.any D_iak GIA.any D_wr GWR.any D_ab GAB.any M_uM GMv.any M_uB GBk M_uK GDA.any mgN_tuple;have GUI:=yU F_uI TU hUC hUB hUD M mgC b_mI GI M_D mgD b_kI GKI;have GCl:=rY (P:=l.prog) (w:=w) (base:=base) (D:=QD) D_cls TF mgN_isinstance mgN_ValueError;have GRf:=tV D_rfu mgN_len k7 D_cls GCl;have GHe:=qS 0.1 D_he TD k7 TU.cl M_uS GSy D_rfu GRf;have GGr:=y0 (P:=l.prog) (w:=w) (base:=base) D_gr mgN_tuple mgN_int;have GLK:=gN (P:=l.prog) (w:=w) (base:=base) D_lk mgN_len;have GLD:=gM (P:=l.prog) (w:=w) (base:=base) D_ld;have GGo:=rg D_gor mgN_len mgN_range mgN_str mgN_tuple D_T GT D_W GW D_A GLA D_lk GLK D_ld GLD;have GTu:=xC D_tu hUC hUB hUD mgN_int D_T GT D_he GHe D_gor GGo D_gr GGr;have GLw:=sm (P:=l.prog) (w:=w) (base:=base) D_wrt mgN_str mgN_len D_lk D_ld;have GLN:=tU (P:=l.prog) (w:=w) (base:=base) D_ln ⟨mgN_len,mgN_range,mgN_any⟩ D_lw GLW;have GTo:=y9 D_lto mgN_len D_ln GLN;have GAn:=qO (P:=l.prog) (w:=w) (base:=base) D_an mgN_str;u4 D_L ⟨mgN_len,mgN_range,mgN_min,mgN_max⟩ hUC hUB hUD TU M_U mgU b_uI GUI M_uS GSy D_P GP D_T GT D_tu GTu D_he GHe D_wrt GLw D_A GLA D_lto GTo D_an GAn⟩
def walk{l:W.OpenLaw}{q:ω}{loose:LS}{XP:(Str->OU)->Heap->Prop}{YP:World->Heap->Prop}{d:DefRec}{K:Params->Fg}(hn:l.most≈63)(hdf:d.params.defaults=[])
  (hY:∀(w:World) (h:Heap),YP w h->(K w.params).In h)
  (F:∀(w:World) (mg:Str->OU) (fa:δ) (h:Heap),(K w.params).In h->h.Ns mainGlobals mg->mg d.name≈(.ref fa) ->
   ∃ fd:FuncData,(∀(s:χ) (u:ε),BindsTo s fd ⟨[u],[]⟩ [("script",u)])/\∀ base:Heap,(K w.params).In base->base.Ns mainGlobals mg->BQ l.prog w (K w.params) mg base JS 14 fa fd ["script"] (To (K w.params))):
  W.WalkO q loose XP YP l.row.toRowW d [] (λf vs=>PySem.call f vs):=
 L2.walk_of (n:=63) (k:=14) (x:="script") (CX:=λ_=>JS) (sp:=λw=>To (K w.params)) hn 0.1 hdf ⟨Y,Q,Q,Y⟩ hY F (λ_ _ a ns hl _ hS=>⟨a,ns,Y,hS,hl,λ_=>rfl⟩) λ_ _ _ _ _ z=>z
end Lg
open PySem PySem.W PyProof.Rows
set_option maxRecDepth 100000 in
set_option maxHeartbeats 0 in
theorem PySem.Challenge.cw_manydeeds_k89_whole_two_desks_by_turns_holds : PySem.Challenge.rw_manydeeds_k89_whole_two_desks_by_turns.Holds := by
 refine Qh ?_
 k_fill
 refine Lg.walk (l:=PySem.Challenge.rw_manydeeds_k89_whole_two_desks_by_turns) rfl rfl (λw h Y=>W.kIn_of Y) ?F
 case F =>
  intro w mg fa h KX G hmg;refine' Lg.all_mk KX G hmg ..
  any_goals first | exact L2.qc (by k_is) (by k_is) (by k_is) (by k_is) (by k_is) (by k_is) | exact L2.qa (by k_is) (by k_is) (by k_is) (by k_is) (by k_is) (by k_is) (by k_is) (by k_is) (by k_is) (by k_is) (by k_is) (by k_is) | exact L2.qi (by k_is) (by k_is) (by k_is) (by k_is) (by k_is) (by k_is) (by k_is) (by k_is) (by k_is) (by k_is) (by k_is) (by k_is) (by k_is) (by k_is) | exact⟨by k_is,by k_is,by k_is⟩ | exact⟨J,J,by k_is,by k_is,by k_is⟩ | skip
  any_goals first | exact L2.tp (by k_is) (by k_is) (by k_is) (by k_is) | exact L2.mp (by k_is) (by k_is) (by k_is) (by k_is) (by k_is) | exact⟨J,by k_is⟩ | k_is
