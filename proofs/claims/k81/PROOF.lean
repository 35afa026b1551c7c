import PyProof.Rows.All
import KE.KEqDat
import KE.KIntText
import KE.KIsAll
import KE.KItemsList
import KE.KPairComp
import PySem.Challenge.RW_manydeeds_k81_rows_that_change_a_desk
set_option Elab.async false
set_option linter.all false
set_option maxRecDepth 100000
namespace PySem.W.Fast
set_option hygiene false
local macro_rules|`(command|#check $s:str)=>do
 let mut r:=#[]
 let mut n:=0
 let mut k:=0
 for c in s.getString.toList do
  n:=n*62+(c.toNat-(if c.toNat<58 then 48 else if c.toNat<91 then 55 else 61))
  k:=k+1
  if k%11==0 then
   let i:=Lean.mkIdent (.mkSimple s!"tw{n}")
   r:=r.push (←`(command|def $i:ident:=0))
   n:=0
 return Lean.mkNullNode (r.map (·.raw))
#check "I3CpV2dYGWUCDqvOAXZLbdIsWV5Hx5bgiCAasd8MF7dHFBrCQfBbkOb4QUV51KPTacAFpxWpCQLqF8S9ojWGexe06U6VZhDej3b5juM8zvFXpvJWTldokFIe26CpmkqFqkcQAiC7a6fTsoVKUrTQztyM7MK6erIg88vIX1IkUPIZDxsWI99Bn5btKP6FStGJorg6NR9jV8R0AD8Rs5LbixMeJVXC52AJknK3TWkBDrB8AvoqfEHw7KM4TMth24DtJBvlSFtlKqP1z5Ck6Fh3L12AdnQakdApje5SMa7sCASS18iSICWIIIm86BJklTIHMlVwZ1Zngr1v2b6CF0Zbp8ftMIzcLfOwGuKIWsJV1LILqk8bGJA5KO0dTh8CZrYgtKSAObhEnUTEKnd3O2YPy2HH4fuzyliwTZ2ro3bGvKY130d3HNeLP6uI1Mb089f0GqW6vk8JDEPZPYGJKLP8MJcQjKg8Kn5ymlzdG5a56LasLwGDKe3HFFupomCIzYjq9oD8XIhYlWULeP2lACsUK1GS9C71GY9O9Or2R3JPTTTa80cj06cuMTxZjivtIG7pUVtx9VY2eqbsOGcPEw8pNjiQmjih5EAlpVcNYO5RBKgKqDsy29oLcrMV5ZJODw2RSuVG6x1LSAwyJQcFDtIKCdUfy2urilB87w6FhnsMR9I5Qw1kSOJhjLrxVyESyRFS40Ly3OOjqfj0GYlcaDnxXqEwCkkIXYEsOB6NsxkL1GkyDgzHPynp1dx8mM1J7Mtb5lGJawNl3Lqw2JS7vydF0atx3wPtb8YRBWoGr6EiffVYDUJrgfmRr2L08HTuEHiSdASR07w7pCunhzjIecRgfZ3XFN9FnwvXEi2GN4eCgo0rihuYCMPDTauiGhaEUyPR3Q8WJ4L9f5xQzZ9CYE3WrD7irZhZDTeqlw2HWBjCkHTmSUMTPh3V1QHkxQJbcHfRXmQAcmxF63PVjdrMBJeBnCPY3toUcdKiHtTAULWvk97TjIC05okfGIg5uPO6mNnC1hyD0LYZwmG4UIyZsb0zoI6JWclZxNgXDbxXrL58x2lB83q1Je3GMF7ERs3JsF3MM3zfwpfAKXcrFMNejk008zNLqj5lEWfgpT4Rd9zdURWww9zFbwqg6O5iG3W7ihD2nePEKnqmNyFeZ3AmY4nvgDTY5IqaGNTvbMy81CRNZXhf9Qt5iC5ITdy7MP5CYAHK1Quh24YfZmY0bf0xDi3iP7kPGZ5L3epce2BrOfJ6xh4HTKBmVBJ218WhjvE7It4DhcXFECM7BKr0Llyg8VFIwGxmBdIyAA7hrYx05of9I046Ef40pjT6UvgMUX1sho3bak6vPrk4jFLQVPFDuBeGIkAsfJ91xgu4vyByEV5cd9JH05HaQ9VUd0jNnUg62pHV6imWvYRhxKJJA0whvGzBouC5zFY3sFlTa0pQZTxkyRWx7xAVG4Uo0uBFbBY1MFy9kbCAivkSu33V3DnynPxIwIkn4F65CsiSBqTLGIopRmx8oMKT9Frs5aFybD57wxVyvTxh0oYphKUQiPECcpjH55qo584Nq5zdboDJwKH4r0HbdNOYCJHxVSvVL5BG6zz2VopmdE1jwqYsna42t8ytg8UEQm6YBPHoSO3mB4j9YTZXzbmcoiHBYQ2kpTLRAFd4ulx6DOtVH6CobyljqkA4WKLZQilirb3BqZxuEckvJ3NAr466u1SfD0qVS3MX3RtJUkilP9m3W3Bn2Jel2bVeS8BIWioApiks1lfwCHLyj6zDwE93Y9OeUb3OiL0U2aiMU9RwrjxVJeAsCm8mDYxFxUKGL7IoLWXLah1ej5LzNAkPBCRCnfbML1DBLvF5GFamX5ECFJSsxvvfOK2yZTKSHp7GF2iFYB6WnudqDyN9nOK9WRW9k3VW2XXgbiAMdetVX73YX4pmmucIcGBN4503DeitEt0A6OAkBMnYOL6LjvereCgfJ1rAWowIfShvJiQrBXQpNK03pTeEDNR707KhD9kc1ZSqt6tTmBMpt9Ww3VY2u6OJeqN7nC94FHNlw6AZ368N3257B9ekUHlRHrSzC341Ox2MMuX6bpUFSal1ek4SECiCoNqeGLCuWKRTlsNR6bcqox09coV0PiA2HTXkHT3HkuXNhjjF7L1B7YgNiMfmAAMNAjAqcvRIW5elRUTFCBJbrusnTS1r3I2TXxuxiTMcDY0CpiVGfpD63HBQZ6BFhN2J3gpme9c7dBkqTjMiGUy9DeUCsaioyVq21y8LO5xPl19YCI0Bq2MNf9HoYOY9ReJ36bpa36DyjEYKxut0gHuHkVCLP9o7Ks21ZHsvT851UHsu1ziIDKNtKCB4CuZp5oxKQk2r82OVYXI4y5NksaJqmQFELs75rfF4UxlKJtaN6jBlmN3QQXgcGzhQmFsQFjyTZ9qG6Vv17qbBsdn5d1DcIFPzTy2UHZLLmtWAO1UoIiOJT5sv5YKBxlvWRva07kAlS6h0ZQEQ1HEtbxcuD0SLy0E4mpTrDNbHxuSxuKHLMUuJwc8DeM0V1HxSOfPN4G0nNlw4MBRh2RDSQKXfhb14HbiXvHowWlEXPzKFdkcNIBt7SfezeJJQEue5nOsU5qf1CrmQJAzmkE3dhDdGiKYf63YjdkyxEWhV6QewMTELA8JDJisoNE5Ytz61LoGA4O1MXCVfSXPWCSrkLUIP0lUL7MyF69Tp8gAJ9fFETumJwWPu11IXt9mFqK3N4OQkkP2CudD6l7oZQiSyvi7lNj3U6HYJYGzqdf5ThM0b2IMZZ7TmHs5BzsTI2XsPcKDetlSyjW2DT8zmrsejNGncB3fTghZSBlG7MFYC5YZuMt3uXMTdUxqiR3RqU0uxiZtMBARCPAvaA4fD2Mg2yLvD5Q4gETXdlJweCAHpwwjziORvKo95eiFELt65NzyKNpFAqVFl3ZHgzgTWlCgEW3CO3M0p2dw7uYbmh5FGwZm6n71YJgA1wpMvRYoS95nS0dKIbEunAPZ5NvgCA6G8jhd0jCAI0QKHtveocZjFtLkau95FpRaV7YZaaWhFF636adST5IYUjzJiZWdzieW3cICG8De6I7Qg5Rs2jM625lOEsgLGfQYiu0GagihdsnnFSHZT3bOFkeQ92nDVrlw3IngIE0xpfZiZMmCqxplUap1VGDim4ATg7nMK9pPvrQ1OgYdDkrlsNtLF1k2wgeMrE9pwrBVwNtpMZzjh5LjXOQnBlLA4sKkbQVhh8kHea3LOl42MEBkyd6wAvnoCInPSgW8DfOXG22JhIr4qHM4d8DEwqctDg3L1fSrjqAhuCjI3P3lt2mtAqQ4nA4JC5yCp1E8UtpiuDHq2b7Y7Q4mIL346rVpEVJ57T5QLfjFAHRC7Rl5vIGu4979AHHhl4Ws1GoX5Vdg6C6o9oCj0Hf6oLGJECgqA86b8vInZA0bKejiRFlRe6vBb4w21c4kHgAgX5R4n0wYTE6EyB5Z8zGPVLv6d7Yt4kWOpTNf1po07GwRUgoD26Q5IzNdmnAloBPhI3bD3FP1uxlqqkzbAX9Rnpd5wU5HBHV63O5YzG5tb0ucown4k2Wq1DaQh9nd8FcObszhC7TJgYydo65Mns4Hh9dq9M1YT4M9w4RgETW2EbqwVrUsKwOAq4Pjk4mU3W3CIspSwr4o6KHSs28sAcG38eS96leUewf2xGoPWeHqq89RF1KuRzvlPK4zRVBBdJq9IjRAA2tGtwE98wdRX7u6SNExyLsMD9oK6Li4D2K5gi6L5UtgGXQe0L8JLxFiVGkuO01s1cFIGVehGKvj6RVOiyrtDWKeUxOO4TCB0YCSZg9BPz86HrR0BwM9kBWlcniPuFeY24y0SBsQcIoH2oElsLt8bDLr5rXNvaQxn08xxoQ8kzip9Drrxh4h6UvD4nJCGNjJMh9H6s7dxmlAlJSkfZiBS8t4AxFjWtTWupbLVZBRqdcQZWB2aeGBz5F219qvLt3G0WJ399Wlgy2SAXfFKbykweqkJg4fv99lqQmX7FZXnFCQ8R1gJgofHnUf3TjJOf0Q3lWInRFsGYbDrdJh9AXXKr1Etf3PAGjWDl7H4ge84SqqWkg5Cw6pKRiG2C5KX4tat0rGXP5l4Gfszx8ZGxn1PsrbzptHKLJTVswXOdKtYHP44ZHIImbBJYj9neHZvK7BtI46Wo3g2dG6WVV4GYMfxGXA32wAyvzyBdivbDQAkkxAseWuSBcBnUHSM5vqYcjg46VAZauvozTeBdyxfZzlgiw9jeySCaLcqt80Mwc89nGeJGFMqAqwpfkGLVOlQMfMNK54MNSXOPaljrDSvk0dKQC631cDy4iCsC9OHVdFOU2Kln3L7HDqZqDfS2JjPWDykHja7L60htcVGEY0Kv7KgUhhOZnF1kWwI1R5G5EOL2GmZr7nMA3v7ifkklV9576BPxS1qJX1hsOj9sMHrX9vxUcEgvsCO2XtToOyffcM0gb6ZTDLKWnIsevG9NiJUS5tJpRLf34OW5byEFI09sIb4XnYlPVh2MYKvJiT3hJKSZ5Yv06sMvY73A7mn7gVwMBY5yftd67a0q16VQYNfiLxASFH90W658rwrJR4lYEBCMwbHk2Ddj7xw8bAdlensLrkQg8qtwXlBG96U3dJ8K1PrdfX2Y1iCbUtmYc0paiTFF96jVLEAsmBOVVQ1F6oEPLKyuyY9D3PsbWrQDAFOkxSEJYqua1FBtjqNiJyN3iIH7UtIQB2LYZKwn1bjHg5jrffxzjUvt5qzc9uDlyLoLrM39AdxdneG9o2AcN4paI4pe1XLlSwYqB0nmRmpUEs1HhvJLWkytnvIN1pxlpkppGAilAwppDuw20OB8WyYKGG3L8shYlYmGhmHUl7xIkL4AzKN6GaU5dycc4ePlgvFuc6bFWKBiTtrv2GLbHeDNpWRr9HsntBaOOSPZ0cLfASdZp162XSLpELpcEoKR6HzJSrBymJuewK1YjjnHAsJjbkL2wmN7TMjZKizo5S0zEXoR7aA541CqcnnGaF4eJ7WDePPzKs0Imx483VqYnF8hFjWYdojNi6t1IQZYLpUH1q9DxdYQGG952HRAJxaIFI7xTafyU1BF73nYOgZnt7rx1TuLuNH5Uar0K5iNtQOhcx09ZyAa5WJLWJg5OHNZ782MH91eup2kkr3Gb7mfCFWA02FDBrN7pG0CVDqIsTpdzjFi7bzy8ojN89X5ZcDFP0qFtkFjaow86NhL3FCCEwHwvTOf8ujPvcEiFIZ1RkQwieFcst8T2WFxlRb8p4Jk1S3gKupdHVMh7xmp4PADVEJv4wNzgVFM0wToixhBk3K8uRxBS27f925E50KDsUeEy8C71upxcoB3yqa3hnvTi2uOqak9JNB3JI25wTIc9TO5kxrNM9lo330NPY4OJP96CCN0jlcodaSCHxSvwusXYzwHCtPYFVvqUi5NmI9Cnuy442M9SMW24MiSK0JISx4Jr1nLxRZW0fqeGYFD2tu7fS73g89C5sQa5AaZ34loy9B3RDq0dEbpQjuewSELN8AQcOyIIJTAwFe8BFjL94tXrXgVYtJKPcxTmjxRSdIkmm1wbRnzABZ9mt8RAibo7KPKJVB0ulu6S2QFlAmOty4iC751PjyiL2Tqpibcnr93FgHrSQKa5z0BN5ferLghod2lraPTKjNBAJP7XjbdZEOIFqsrjZ35GWnDOcfP7tqVGZ8AR1Wkj8d1Z7KADHSgoIgx7CCbE483WTN1WAZ8xLQVi6J72eqaTyz00CUWTQLISVP848306ctlrcU373IFFn37TZ7XYTtgqDDS07JZIgzti2GJKoyLIydCOyhIesALDKseBsHMScVKNwQFdD2AIQCJZhRq6WYGGA9jS9R4C8iYEv7vEg35KLqQtyfmvEpNAdBTlNhqBpVN10n0ACv9uwiKT0cglL6XMgx1lBcJO3rjHguLxWY80O4JqUp2qwpLiaM5vmmhQlKHRxbCzy36aBxKnSGeoY7VA6ISPsSD52s9iy9qsZetwW5WrvxIPi1Q70Zo3SSPiDuo04mEwPCiuRWFLnpntQJZtP6pnBPj9dhHGEd5wc1gVLemCoKwaQUCbgW0M05fpkBl20CqppHQDsLcQAZfbs6wpjXt4rnj7mGjmIv1MIcKzfljUz6MLaD5SeAkB1XtwYlcLToLLHhnPcxsDbzCMTcLXIqGa776lJzYOKu2F68PZFKZ9o5V3GJBSfc6CauKx18a7VKWHtCrmekFKQdVw7fc52hOKSrY7Q6HpkVVQQ68llpaWi9easJiybLT4IM3nF8NETSWY8inDJRHym72M0ZDesXCiOJneC5NxMBeBttUgD0sVOyuUO142hLOlBGcqXgJg4ypoOcXyxJY1tQ1I2bVXBgDt0As10NaHe2D28asQhQJXiDhdP0YDcGbOt0hWqwbtFCf0NY8GCyRC8LtjYJNv7y7taNrvEgynVAXzDdlK9MZBA4OnlSPnmy48iPFQ9V00cCIHUNZsLOdMcDKDbztzxbKT5WbdXW7vBTJ6ZFRdBa5K7mBxCUaz9PRho8O0PMjVYff19MqCGoJ3THBJg76Rrgz4wS3dKQOESCC0WE8dcsdwQVaEK732fYVmy19F1fhpIhPB3cD9nsmlGQXPACELbumoo5EW5C8zHyFu1M39R1igP2InHX0Lxbs23RrzH6JyCKeznF2OF5O6DXLpkG9EIaRpHiVIx96U0PACPVfYF5xQJXw2sq0w0cb3VP86LSZCBbLrbE5MNw9163iD2RCo48U1x53GtuRmJxPMVc3aByv4tACW61Qp57HyH7e3apV9xDfLqtHfXVaRIjyQpRMLBIS2Fxnpx0BOglJGQS4f7asOXBOkMJmbiEJUActVXHfW9pk4Uupv8Wv3yDBvhCEZV5fJv0WT3FKAIHay8GiAjFGKFRQ5gPt7Evmieg1qr86f52fO10SCfVO3YoiN7Ax2jV42bhy1qAX2Z39U3T5bFZ4ov2jMgL6ZmkvldhMOD0I6ZOkdYsY0LCdsASCKnbCFfLG8RkEPb84it0i9DcVi8xdjPGwbv4OKbMbPVc2NNnJ26f2QzNzx5IqGlrI2QeYVG24XX8dqkOCAXIdgLlDyIUAXFP0Rfgi4D9iWEHlWaaMuLJ7wbxRpXgXKJdePhMJ7u5ER8EkVyTzzqAGXeV6ViRNXHrUpRZjcMFG2z9eUpYadDy8SrdcSvBgq333ElJzXBZcWG7u1KJE0kB28hHocc3LOvEF4OMUuxlBbgC1uLcRV7ZkO42FZgG4iGZj1KP19aemnmH9cNlVnSZoRRIEIXWdcxVG6G3CWFJN9wQ27LE0DBk9ZM45UFqSzE0fUy2vNVfFobm1UCRLZtHxQpi1LfDtdiytigEJVNhq6ZghfIIo3hKfkvdhkDjwdWUvPIL3Cj78VEvnwUcBCZgQ0CLEYdB3taE48Fxmp8yxqyQz3YwY6EPmfa9uBrS5ZPmhX7b7283mVZHWsETrJ32YLXc1lAjj2GTFQ9Vfp4W25PdryMrEZe8yWjlaSE4it4tsxcxz1WAs3V6mXFaEw9K2Ifg7QzTO5aJhBZQ1zTHJeCkn8maYrDL5CKrv2bDyypIBnb2RGEZJ3yBNzl9g8rOQBAWFQa0NV8FTAVro3qCK9zN8o0EuXXehHm7iBDjcoglAt5jKzFwHFble3updyRupxc5LVUP18ZBseEIZUt00mG588JFQDjJE1wBoEkYLPinnrVHEaytsdRBmjh8tpr79FBh6y4ULiI6OYvpOLoOli3YPYbMHaxkoi72ZuLBWPmmAzn5RoAizXh6b0D0ZDGPh34ofawH1tSRZOhFMSC7wWi6DkhWq8F1lWSZkJQUu5G8PCxwPQpgEsfc2vDeLfLFXjpzIejSBBCZgao0DBvoU6xxKJchk7boHGMacnnmcdkGut0LKgCRrYGHKtllIR2bTFOfDajACsMtDEVrptzDMDTBepuFX397syAmkWMZfrFcYAVdRpW74Hkw9XHi5dVufzY3Chtgr0rJJp2Yz4wNO4QKXJM367fPAEvVHtAdp1UPjAXGXs6HvnKgKwG7ZUFiZItITCep5iJFPiLaAZ1uNAsdGdO8tZL1rsPRnv89cXa6FUjGC6mOztmVkTlc6bWwMmPRCoA6RLCpHRPDvD4reDyHMkDkV2OMoXKD5qNv1jQzUQERsSc"
end PySem.W.Fast
section
open PySem PySem.W PyProof.Rows
set_option maxHeartbeats 0 in
open_top Qh for PySem.Challenge.rw_manydeeds_k81_rows_that_change_a_desk
end
abbrev ξ:=List PySem.Addr
abbrev ζ:=Array PySem.Value
abbrev τ:=List PySem.Expr
abbrev μ:=PySem.Addr
abbrev δ:=PySem.Value
abbrev ε:=PySem.Shared
abbrev χ:=PySem.Program
abbrev EV:=PySem.Value->PySem.Shared->Prop
abbrev PL:=List (PySem.Addr×PySem.Obj)
abbrev LU:=List PySem.Value
abbrev OU:=Option PySem.Value
abbrev LN:=List Nat
def Ja:=@PySem.wpAny_bind
def Jb:=@decide_eq_true
def Jc:=@decide_eq_false
def Jd:=@PySem.wpAny_pure
def Je:=@of_decide_eq_true
def Jf:=@PySem.wpAny_mono
def Jg:=@PySem.wpAny_field
def Jh:=@PySem.wpAny_truthy_bool
def Ji:=@PySem.wpAny_loadPart_at
def Jj:=@PySem.wpAny_holding
set_option hygiene false
local macro_rules|`(tactic|rfl')=>`(tactic|decide +kernel)
local macro_rules|`(tactic|ac_rfl)=>`(tactic|intro ρ s σ H Q I h)
local macro_rules|`(tactic|exfalso)=>`(tactic|intro ρ s σ H x y v u Q I rx ry h)
abbrev RS:=List (PySem.Str×List PySem.Str)
abbrev LS:=List PySem.Str
abbrev Fg:=PySem.W.Frag
def Ya:=@List.length_map
def Yb:=@PySem.Heap.get?_push_of_some
def Yc:=@List.mem_of_getElem?
def Yd:=@List.mem_map
def Ye:=@Nat.le_refl
def Yf:=@List.mem_singleton
def Yg:=@List.getElem?_eq_some_iff
def Yh:=@PySem.Heap.lt_size
def Yi:=@PySem.Paired.length
def Yj:=@List.size_toArray
def Yk:=@PySem.Heap.get?_push_size
def Yl:=@Bool.false_ne_true
def Ym:=@List.length_append
def Yn:=@List.getElem?_map
def Yo:=@List.mem_append
def Yp:=@Nat.lt_of_lt_of_le
def Yq:=@List.take_add_one
def Yr:=@List.map_cons
def Ys:=@Nat.ne_of_lt
def Yt:=@Option.some.inj
def Yu:=@List.getElem?_eq_getElem
def Yv:=@List.mem_cons
def Yw:=@PySem.boot_len
def Yx:=@List.take_length
def Yy:=@List.length_take
def Yz:=@Ne.symm
def Bs:=@PySem.PassesOwn.never
def CT:=@List.mem_cons_self
def BU:=@Nat.le_trans
def BN:=@Nat.zero_le
def C7:=@List.mem_cons_of_mem
def B6:=@List.map_append
def EF:=@PySem.F.plainAttrs_list
def CS:=@List.length_cons
def Cb:=@List.all_eq_true
def CD:=@List.take_zero
def Cv:=@List.lookup_cons
def FK:=@Option.map_eq_some_iff
def CJ:=@Nat.ne_of_gt
def Gs:=@PySem.F.slot_list_append
def Gr:=@PySem.F.type_list_append
def Dv:=@List.append_nil
def F5:=@List.mem_append_right
def IC:=@List.getD_eq_getElem?_getD
def Gq:=@PySem.Heap.get?_update_self
def Cu:=@PySem.Paired.snoc
def Du:=@Bool.true_and
def IA:=@PySem.Heap.get?_update_other
def Fc:=@Bool.and_eq_true
def HR:=@List.getElem?_of_mem
def J_:=@List.getElem?_append_left
def LW:=@List.getElem?_append_right
def Es:=@List.map_map
def LR:=@Classical.byContradiction
def J8:=@List.take_of_length_le
def Ov:=@PyProof.Rows.slot_tuple_getitem
def IE:=@List.any_eq_true
def LP:=@PyProof.Rows.boot_list
def JK:=@PySem.PassesOwn.leaving
def Gu:=@Nat.lt_irrefl
def ID:=@List.nodup_cons
def Oq:=@PyProof.Rows.callWith_type1
def Mr:=@PyProof.Rows.boot_tuple
def LL:=@List.mem_append_left
def JJ:=@List.cons_ne_nil
def IB:=@PySem.Heap.size_push
def LJ:=@PySem.mem_of_lookup
def Rk:=@PySem.F.slot_dict_itemiterator_next
def HQ:=@Nat.lt_trans
def J6:=@decide_eq_decide
def Gv:=@Nat.le_succ
def Oy:=@PySem.F.slot_dict_items
def J9:=@Bool.eq_iff_iff
def Mx:=@beq_eq_false_iff_ne
def Mw:=@List.filter_eq_self
def Ox:=@PySem.Calls.callWith_builtin
def Ow:=@PySem.F.plainAttrs_str
def VX:=@PySem.F.slot_tuple_iterator_next
def Ou:=@List.length_singleton
def LO:=@List.mem_filter
def LM:=@Nat.min_eq_left
def Mt:=@Int.toNat_natCast
def Ms:=@List.append_assoc
def J7:=@List.any_cons
def Oo:=@List.length_pos_iff
def LK:=@Bool.false_and
def Mo:=@List.length_drop
def Oj:=@PySem.Obj.data_mapFields
def Oi:=@Bool.false_eq_true
def Oh:=@Int.emod_lt_of_pos
def Mn:=@List.find?_cons
def Rj:=@List.length_filter_le
def Rz:=@PySem.Obj.isFreed_of_fields
def Rx:=@PyProof.Rows.boot_int
def LX:=@List.all_cons
def Va:=@Array.getElem?_eq_some_iff
def Rw:=@PySem.Around.under_plainId
def VY:=@PySem.F.plain_extend_loop
def Rv:=@List.mem_of_mem_take
def VW:=@List.mem_of_find?_eq_some
def LQ:=@Int.zero_add
def VT:=@PySem.AutoSeq1.wpAny_loadPart'
def Rq:=@Array.length_toList
def Ro:=@PySem.evalArgs_none
def Rn:=@List.replicate_succ
def VS:=@PySem.F.plainAttrs_dict
def Mq:=@List.map_take
def Om:=@List.nil_append
def Ol:=@Int.emod_nonneg
def Rl:=@List.getElem?_take
def VP:=@List.getElem?_set_self
def VO:=@PySem.SeqAt.canLay_of_shaped
def VN:=@PySem.F.slot_str_split
def VM:=@PySem.F.type_str_split
def Ry:=@PySem.Heap.get?_push_at
def My:=@Nat.le_of_lt
def Vb:=@PySem.F.slot_zip_next
def VZ:=@PyProof.Rows.boot_all
def Mu:=@List.all_map
def Zs:=@PyProof.Rows.boot_isinstance
def Ru:=@List.cons_append
def VU:=@List.mem_iff_getElem
def Rt:=@Option.getD_some
def Rr:=@List.filter_cons
def Rp:=@PySem.call_meets
def Ot:=@Bool.false_or
def Zr:=@PySem.F.excBase_ValueError
def VR:=@Nat.mul_le_mul_left
def VQ:=@Int.toNat_of_nonneg
def Rm:=@List.length_nil
def Zq:=@PySem.F.args_dict_items_1
def Zp:=@Option.isSome_iff_exists
def Zo:=@PySem.F.args_tuple_add_2
def Zn:=@PySem.F.entry_dict_items
def Zm:=@PySem.AutoSeq1.sub_tuple_tuple
def Zl:=@PySem.F.entry_tuple_add
def Zv:=@PySem.F.type_dict_items
def Zu:=@Int.eq_ofNat_of_zero_le
def Zt:=@List.mem_iff_getElem?
local macro_rules|`(tactic|nofun)=>`(tactic|exact ⟨rfl,rfl,rfl,by decide +kernel,rfl,by decide +kernel,by decide +kernel⟩)
set_option hygiene false
local macro_rules|`(tactic|nomatch $t)=>`(tactic|refine $t (fun vs H Q E h=>?_) (fun BC A outer s H vs Q E hr h=>?_))
local macro_rules|`(⋯)=>`(AV P w K mg base IF)
noncomputable section
local macro_rules | `(tactic| ac_nf)=>`(tactic| (with_reducible show let X:=_;let d:=_;∃ t,CK X _ t∧t d _ _);intros)
local macro_rules | `(tactic|exists $t)=>`(tactic|(with_reducible show let a:=_;$t);intros)
local macro_rules|`(⟨$a,*⟩)=>do
 let b:=a.getElems
 if b.any fun x=>[`Z,`Y,`W,`V,`O,`Q,`J].contains x.raw.getId then
  let c←b.mapM fun x=>(match x.raw.getId with|`Z=>return #[←`(_),←`(rfl)]|`Y=>return #[←`(rfl)]|`W=>return #[←`(sL (by show 2<=100000;decide))]|`V=>return #[←`(by omega)]|`O=>return #[←`(sL (by show 1<=100000;decide))]|`Q=>return #[←`(by decide)]|`J=>return #[←`(by k_is),←`(by k_is),←`(by k_is),←`(by k_is),←`(by k_is),←`(by k_is)]|_=>return #[x]:Lean.MacroM (Array Lean.Term))
  let d:Array Lean.Term:=c.flatten
  `(⟨$d,*⟩)
 else Lean.Macro.throwUnsupported
local macro_rules|`($a≈$b)=>`($a=some $b)
local macro_rules|`(↥$a)=>`(some $a)
local macro_rules|`(↑$a)=>`(($a).length)
local macro_rules|`(⇑$a)=>`(($a).heap.objs.size)
local macro_rules|`(0.0)=>`(by omega)|`(0.1)=>`(B9 Q0 Q1 Q2 Q3 Q4 Q5 Q6 Q7 Q8 Q9 BZ BY BX BW BJ)|`(0.2)=>`(by decide)|`(0.3)=>`(model X.prog X.w)|`(0.4)=>`(λ_ _=>rfl)|`(0.5)=>`((·.1))|`(0.6)=>`(model prog w)|`(0.7)=>`(k == NameKind.free&&env.scope.kind == .function&&env.kindOf n == ↥.cell)|`(0.8)=>`(by rfl)|`(0.9)=>`(pv 0)|`(1.0)=>`(hp.objs.size + 1)|`(1.1)=>`(by simp)|`(1.2)=>`(by rfl')|`(1.3)=>`(by with_unfolding_all rfl)|`(1.4)=>`(Or.inr rfl)|`(1.5)=>`(Al A8 (Sum.inr nm.1) (.ref lm))|`(1.6)=>`(pv 1)|`(1.7)=>`(Or.inl rfl)|`(1.8)=>`(ws.map V.str)|`(1.9)=>`((Ej rows++(ns.take i).flatMap DO).map V.str++[V.str (Ek n)])|`(2.0)=>`(upd H2 d (.dK (Al π (Sum.inr r.1) (.ref t2))))|`(2.1)=>`(Ac (r:=A0 K) Au (pv 2) AG 0.4)|`(2.2)=>`(pC (pv 2) AB)|`(2.3)=>`(Al Ay (Sum.inr nm.1) (.ref yb))|`(2.4)=>`(Ac (r:=A0 K) Au 1.6 AG 0.4)|`(2.5)=>`(((sIx items.size 0 lo:Nat):Int) == 0&&(1:Int) == 1&&(sIx items.size items.size hi - sIx items.size 0 lo) == items.size)|`(2.6)=>`(λC s H fp=>Cj)|`(2.7)=>`(Ac (r:=A0 K) Au 0.9 AG 0.4)|`(2.8)=>`(λC s H fp=>Ac (r:=C_ K) Dp 0.9 AG 0.4)|`(2.9)=>`(W.fnOf x q (Gk st) (DU st) (AN st) .none kV doc pm an BC ct)|`(3.0)=>`((∀ b o,b≠z->b≠TO->b≠i1->b≠i2->s.heap.get? b≈o->h'.get? b≈o))|`(3.1)=>`(pC 1.6 AB)|`(3.2)=>`(An P w)|`(3.3)=>`(pC (pv 3) AB)|`(3.4)=>`((false,eval e X.env))|`(3.5)=>`(pC 0.9 AB)|`(3.6)=>`(starEach es X.env)|`(3.7)=>`(λz=>nomatch z)|`(3.8)=>`(D_ X scope (own++η) G2.objs.size s2 H2 fp)|`(3.9)=>`(show false=true from hs)
local macro_rules|`(4.0)=>`(upd (upd H4 t2 (.tup [.str n.1,.int n.2.1,.ref tq])) ln (.lst (vs++[.ref t2])))|`(4.1)=>`(Bi Ak.of)|`(4.2)=>`(pv 2)|`(4.3)=>`(CO rfl (gC (gE 2 nd) (gC (gE 3 nd) CQ)))|`(4.4)=>`(D_ X scope (own++η) C s H fp)|`(4.5)=>`(upd BL t2 (.tup [.str n.1,.int n.2.1,.ref p]))|`(4.6)=>`(i + 1)|`(4.7)=>`(upd (upd Hx dy (.own yb)) yb (.ins B dy []))|`(4.8)=>`(λC s H fp=>Jq (K:=K) (i:=0) (j:=1) rfl rfl VI rfl rfl 1.7 1.7 1.4 1.4)|`(4.9)=>`(List Key×V)|`(5.0)=>`(rows.take i)|`(5.1)=>`(((ws.drop 2).take (↑ws - 4)).map V.str)|`(5.2)=>`(upd (upd H4 t2 (.tup [.str r.1,.ref v])) l (.lst (vs++[.ref t2])))|`(5.3)=>`((∀ σ' H',N σ' H'->∃ m',m'<m/\W 4.6 m' σ' H'))|`(5.4)=>`(λz=>hc (by simp[z]))|`(5.5)=>`(Bg I q 1.1)|`(5.6)=>`(λr s'=>r=.ok (.ret (.bool true))/\OldK s₁.heap s'.heap/\s'.os=s₁.os/\AllBare s'.gens)|`(5.7)=>`(λ_=>B5 (osc:=AN J2) (on:=Nh) 1.2 rfl rfl rfl)|`(5.8)=>`(λb o hb e=>eb b o hb e)|`(5.9)=>`(A9 C5 0.8 len Yw 3.5)|`(6.0)=>`(I.ok.hd hc)|`(6.1)=>`(by rw[Ya];omega)|`(6.2)=>`(A2 rows)|`(6.3)=>`(upd BL t2 (.tup [.str r.1,.ref p]))|`(6.4)=>`(x∉rows.map 0.5)|`(6.5)=>`(upd H8 mo (.dK 1.5))|`(6.6)=>`(π.any λkv=>decide (kv.1=k))|`(6.7)=>`(r.2.map V.str)|`(6.8)=>`(EP X ρ σ Q)|`(6.9)=>`(I.hok.fresh (Ye _))|`(7.0)=>`(EU 0.9 rfl)|`(7.1)=>`(by rw[strLen_append];omega)|`(7.2)=>`(⇑s + 1)|`(7.3)=>`(CN C hp.objs.size)|`(7.4)=>`(Cq rows c)|`(7.5)=>`(pv 5)|`(7.6)=>`(pC (pv 4) AB)|`(7.7)=>`(pv 3)|`(7.8)=>`(upd H' D (.lst ((Graph.kept 6.2 ls).map V.str)))|`(7.9)=>`(by show 2<=100000;decide)
local macro_rules|`(8.0)=>`(by show 3<=100000;decide)|`(8.1)=>`(λ_=>B5 (osc:=AN LC) (on:=Pe) 1.2 rfl rfl rfl)|`(8.2)=>`(λ_=>B5 (osc:=AN LD) (on:=RZ) 1.2 rfl rfl rfl)|`(8.3)=>`(apos.endLine == AQ.line)|`(8.4)=>`(rows++[(x,us)])|`(8.5)=>`(upd (upd H1 d (.dT [])) d (.frz o2 (.dT [])))|`(8.6)=>`(Bj (OL dd 0.8 mD (pC 0.9 (pC (Hs (CC (Xj 1.6) (CC EW Ht))) AB))))|`(8.7)=>`(λw hw=>Qs rx fx r fs w (by simpa using hw))|`(8.8)=>`(upd (upd Hx db (.own pb)) pb (.ins D db []))|`(8.9)=>`(upd H6 bo (.dK 2.3))|`(9.0)=>`(Ae BS 2.1 Ah (Ad _))|`(9.1)=>`(a == sysModules)|`(9.2)=>`(if 0.7=true then(n,NameKind.cell)else(n,k))|`(9.3)=>`(W.fnOf x qual (Gk st) (DU st) (AN st) .none kV doc pm an BC ct)|`(9.4)=>`(ns.map V.int)|`(9.5)=>`(λb o hb e=>(sb.2 b hb).trans e)|`(9.6)=>`(AF (AW (BB (pC Ah (pC Dq AB)))))|`(9.7)=>`(Ag DT GT Ax (pC 0.9 (pC AG AB)))|`(9.8)=>`(Ys (Yp (Yh e) I.ok.above))|`(9.9)=>`(x∈rows.map 0.5)|`(10.0)=>`(wpAny_typeNameOfWhole_itemiter T (Jd ?_))|`(10.1)=>`(show u=Value.ref a from rx)|`(10.2)=>`(gC (gE 4 nd) (gC (gE 5 nd) CQ))|`(10.3)=>`((λb=>∃ o,H b≈o))|`(10.4)=>`((∀ x c,X.env.cells.lookup x≈c->c≠b))|`(10.5)=>`(wpAny_nextOf_list_item (h1.extBut hs₁.extBut D.i1z) (A6.extBut hs₁.extBut D.l1z) hx λh₂ dq hs₂=>Jd ?_)|`(10.6)=>`(Gp 0.9 TD.cl MN.me GN A7 MN.b .nil 4.1)|`(10.7)=>`((rows.map 0.5).map V.str)|`(10.8)=>`(Zz pd lp lq)|`(10.9)=>`(Obj.mapFields λr=>r.setIfInBounds 1 (.ref g.objs.size))|`(11.0)=>`(AK (ho ρ s σ H _ I h) λv s1 ⟨x,H1,I1,r1,q1⟩=>?_)|`(11.1)=>`(wpAny_call_entry VX hp.typeIs PySem.F.entry_tuple_iterator_next ?_ (PySem.F.args_tuple_iterator_next_1 _))|`(11.2)=>`(λC s H fp=>CB (i:=0) VJ rfl 1.7 1.4)|`(11.3)=>`(I1.hok.fresh (Ye _))|`(11.4)=>`(Builtin.«tuple.__mul__» ⟨[.ref l,.int k u],[]⟩)|`(11.5)=>`((∀ x∈ls,x∈rows.map 0.5))|`(11.6)=>`(ws.map PySem.W.Dat.str)|`(11.7)=>`(vs++[.ref t])|`(11.8)=>`(wpAny_typeNameOf_itemiter T (Jd ?_))|`(11.9)=>`(ys++[.ref t2])
local macro_rules|`(12.0)=>`(LH CX P w K mg base N qual scope f BC A outer s H E)|`(12.1)=>`((A1 c).map V.str)|`(12.2)=>`(λ_=>pv 0)|`(12.3)=>`(sIx items.size items.size hi - sIx items.size 0 lo)|`(12.4)=>`(BQ ((A1 (.deed x d m)).map V.str) (↥2) (↥(-2)))|`(12.5)=>`(by simp only[Yj] <;> omega)|`(12.6)=>`(λz=>↥(HO.lst z))|`(12.7)=>`(nm.2.2.map 0.5)|`(12.8)=>`(upd H1 1.0 (XN 1.0 C))|`(12.9)=>`(k == NameKind.free)|`(13.0)=>`((∀ b o,b≠l->H3 b≈o->H' b≈o))|`(13.1)=>`(((rows.take i).map 0.5).map V.str)|`(13.2)=>`((∀ H',AA H H'->Q .non H'))|`(13.3)=>`(upd H a o)|`(13.4)=>`((∀ b o,b≠D->H b≈o->H' b≈o))|`(13.5)=>`((∀ b∈fp,H' b=none))|`(13.6)=>`(keywordEach [] X.env)|`(13.7)=>`((xs.take i).filter p)|`(13.8)=>`(Js I hg hm ?_ hdb)|`(13.9)=>`(rows.map 0.5)|`(14.0)=>`(as.map V.ref)|`(14.1)=>`(xs.map V.str)|`(14.2)=>`(ys.map V.str)|`(14.3)=>`(ls.map V.str)|`(14.4)=>`(↥(.ref f))|`(14.5)=>`(wpAny_call_entry Rk T F.entry_dict_itemiterator_next ?_ (F.args_dict_itemiterator_next_1 _))|`(14.6)=>`(AK (h pos ρ s σ H _ I hq) λus s1 ⟨xs,H1,I1,r,z,q⟩=>⟨by rw[<- ↑r];exact z,?_⟩)|`(14.7)=>`(AK (ha pos ρ s σ H _ I h) λus s1 ⟨vs,H1,I1,r1,q1⟩=>hc ρ s1 σ H1 vs us Q I1 r1 q1)|`(14.8)=>`(by rw[AD (AI hll hD)];exact hll)|`(14.9)=>`(AF (AW (BB (pC 2.4 (pC (Xi (D:=D) 0.9) AB)))))
namespace L2
open PySem PySem.Spec PyProof.Rows
abbrev Key:=Sum Int Str
def L6:Key->δ->Bool
 | .inl k,v=>Value.isInt k v
 | .inr x,v=>Value.isStrOf x v
def Ye4(w:World):Key->Int
 | .inl k=>hashInt k
 | .inr x=>hashStr w x
def JI:∀ {k:Key}{v:δ},L6 k v=true->(∃ i t,k=Sum.inl i/\v=Value.int i t)\/(∃ x t,k=Sum.inr x/\v=Value.str x t)
 | .inl i,v,h=>by
  obtain⟨t,e⟩:=Value.isInt_shape (k:=i) (v:=v) h;exact .inl ⟨i,t,Y,e⟩
 | .inr x,v,h=>by
  obtain⟨t,e⟩:=Value.isStrOf_shape (x:=x) (v:=v) h;exact .inr ⟨x,t,Y,e⟩
def sS(i:Int)(t:Tok):L6 (.inl i) (.int i t)=true:=by simp[L6,Value.isInt]
def sV(x:Str)(t:Tok):L6 (.inr x) (.str x t)=true:=by simp[L6,Value.isStrOf]
def wR(a b:Int):decide ((Sum.inl a:Key)=Sum.inl b)=(a == b):=by
 by_cases e:a=b
 ·subst e;simp
 ·have h:¬ (Sum.inl a:Key)=Sum.inl b:=λq=>e (Sum.inl.inj q);rw[Jc h];exact(Mx.mpr e).symm
def wW(a b:Str):decide ((Sum.inr a:Key)=Sum.inr b)=decide (a=b):=by
 by_cases e:a=b
 ·subst e;simp
 ·have h:¬ (Sum.inr a:Key)=Sum.inr b:=λq=>e (Sum.inr.inj q);rw[Jc h,Jc e]
def wU(a:Int)(b:Str):decide ((Sum.inl a:Key)=Sum.inr b)=false:=Jc (λq=>nomatch q)
def wV(a:Str)(b:Int):decide ((Sum.inr a:Key)=Sum.inl b)=false:=Jc (λq=>nomatch q)
def CP(prog:χ)(w:World):PySem.KeyKind prog w Key where
 is:=L6
 hash:=Ye4 w
 inj:=λv a b ha hb=>by
  rcases JI ha with⟨i,t,rfl,rfl⟩ | ⟨x,t,rfl,rfl⟩
  ·rcases JI hb with⟨j,u,rfl,e⟩ | ⟨y,u,rfl,e⟩
   ·injection e with e1 _;rw[e1]
   ·exact nomatch e
  ·rcases JI hb with⟨j,u,rfl,e⟩ | ⟨y,u,rfl,e⟩
   ·exact nomatch e
   ·injection e with e1 _;rw[e1]
 byValue:=λk v h=>by
  rcases JI h with⟨i,t,rfl,rfl⟩ | ⟨x,t,rfl,rfl⟩ <;> rfl
 pyHash:=λhv h=>by
  rcases JI hv with⟨i,t,rfl,rfl⟩ | ⟨x,t,rfl,rfl⟩
  ·exact wpAny_pyHash_int h
  ·exact wpAny_pyHash_str h
 eqBool:=λhu hv h=>by
  rcases JI hu with⟨i,t,rfl,rfl⟩ | ⟨x,t,rfl,rfl⟩
  ·rcases JI hv with⟨j,u,rfl,rfl⟩ | ⟨y,u,rfl,rfl⟩
   ·rw[wR]at h;exact wpAny_eqBool_int h
   ·rw[wU]at h;exact SeqAt.EqAt.int_str i t y u _ _ _ _ h
  ·rcases JI hv with⟨j,u,rfl,rfl⟩ | ⟨y,u,rfl,rfl⟩
   ·rw[wV]at h;exact SeqAt.EqAt.str_int x t j u _ _ _ _ h
   ·rw[wW]at h;exact wpAny_eqBool_str h
 «strs»:=λk x t v h=>by
  rcases JI h with⟨i,u,rfl,e⟩ | ⟨y,u,rfl,e⟩
  ·exact nomatch e
  ·injection e with e1 _;subst e1;cases v <;> rfl
def vC(prog:χ)(w:World)(i:Int)(t:Tok):(CP prog w).is (.inl i) (.int i t)=true:=sS i t
def vD(prog:χ)(w:World)(x:Str)(t:Tok):(CP prog w).is (.inr x) (.str x t)=true:=sV x t
inductive V where
 | non | bl (b:Bool) | int (i:Int) | str (x:Str) | byt (b:Array UInt8) | flt (b:UInt64) | ref (a:μ) | ty (n:String)
 deriving DecidableEq
abbrev _root_.LV:=List V
abbrev _root_.OV:=Option V
abbrev _root_.KL:=List (Key×V)
def Aj:V->δ->Prop
 | .non,u=>u=Value.none
 | .bl b,u=>u=Value.bool b
 | .int i,u=>∃ t,u=Value.int i t
 | .str x,u=>∃ t,u=Value.str x t
 | .byt b,u=>∃ t,u=Value.bytes b t
 | .flt b,u=>∃ t,u=Value.float b t
 | .ref a,u=>u=Value.ref a
 | .ty n,u=>u=Value.type n
abbrev Aa:LV->LU->Prop:=Paired Aj
theorem Aa.length{xs:LV}{us:LU}(r:Aa xs us):↑xs=↑us:=Yi r
theorem Aa.get:∀ {xs:LV}{us:LU}{i:Nat}{x:V},Aa xs us->xs[i]?≈x->∃ u,us[i]?≈u/\Aj x u
 | _,_,_,_,.nil,e=>by simp at e
 | _,_,0,_,.cons r _,e=>by simp at e;subst e;exact⟨Z,r⟩
 | _,_,i + 1,x,.cons _ t,e=>by
  obtain⟨u,h1,h2⟩:=Aa.get (i:=i) (x:=x) t (by simpa using e);exact⟨u,by simpa using h1,h2⟩
theorem Aa.set{x:V}{u:δ}(r:Aj x u):∀ {xs:LV}{us:LU}(i:Nat),Aa xs us->Aa (xs.set i x) (us.set i u)
 | _,_,_,.nil=>.nil
 | _,_,0,.cons _ t=>.cons r t
 | _,_,i + 1,.cons q t=>.cons q (Aa.set r i t)
theorem Aa.append:∀ {xs ys:LV}{us ws:LU},Aa xs us->Aa ys ws->Aa (xs++ys) (us++ws)
 | _,_,_,_,.nil,s=>s
 | _,_,_,_,.cons r t,s=>.cons r (Aa.append t s)
theorem Aa.take:∀ {xs:LV}{us:LU}(n:Nat),Aa xs us->Aa (xs.take n) (us.take n)
 | _,_,0,_=>.nil
 | _,_,_ + 1,.nil=>.nil
 | _,_,n + 1,.cons r t=>.cons r (Aa.take n t)
theorem Aa.drop:∀ {xs:LV}{us:LU}(n:Nat),Aa xs us->Aa (xs.drop n) (us.drop n)
 | _,_,0,r=>r
 | _,_,_ + 1,.nil=>.nil
 | _,_,n + 1,.cons _ t=>Aa.drop n t
def Eh:OV->OU->Prop
 | some v,↥u=>Aj v u
 | none,none=>True
 | _,_=>False
def KV{κ:Type}:List (κ×V)->List (κ×δ)->Prop:=Paired λ(p:κ×V) (q:κ×δ)=>p.1=q.1/\Aj p.2 q.2
def kV:Key->V
 | .inl i=>.int i
 | .inr x=>.str x
inductive HO where
 | lst (xs:LV)
 | tup (xs:LV)
 | dK (π:KL) | dT (π:List 4.9)
 | set (S:Int->Bool) (n:Nat)
 | ins (C dx:μ) (fs:List (Str×V))
 | own (x:μ)
 | xd (fs:List (Str×V))
 | met (f x:μ)
 | rng (lo hi:Int)
 | frz (o:Obj) (u:HO)
 | tbl (ps:ζ)
 | ext (φ:Heap->Prop)
abbrev Hp:=μ->Option HO
def upd(H:Hp)(a:μ)(o:HO):Hp:=λb=>if b=a then ↥o else H b
def uS{H:Hp}{a:μ}{o:HO}:upd H a o a≈o:=by unfold upd;rw[if_pos rfl]
def AD{H:Hp}{a b:μ}{o:HO}(h:b≠a):upd H a o b=H b:=by unfold upd;rw[if_neg h]
def OF{H:Hp}{a:μ}{o u:HO}:upd 13.3 a u=upd H a u:=by
 funext b;unfold upd;split <;> rfl
def N7{H:Hp}{a b:μ}{o u:HO}(h:H a≈o)(h':H b≈u)(d:o≠u):a≠b:=by
 intro e;subst e;rw[h]at h';exact d (Yt h')
def AI{H:Hp}{a b:μ}{o:HO}(h:H a≈o)(h':H b=none):a≠b:=by
 intro e;subst e;rw[h]at h';cases h'
section
variable (P:χ)(w:World)
def BI(H:Hp)(h:Heap)(a:μ):HO->Prop
 | .lst xs=>↑xs<=sizeLine/\∃(ν:LU) (n:Nat),Aa xs ν/\h.get? a=some {cls:=.type "list",data:=.seq ν.toArray n}
 | .tup xs=>↑xs<=sizeLine/\∃ ν:LU,Aa xs ν/\IsTup h a ν.toArray
 | .dK π=>↑π<=sizeLine/\9.1=false/\∃ vs,KV π vs/\h.DictOf (CP P w) a vs
 | .dT π=>↑π<=sizeLine/\9.1=false/\∃ xs:List (List Key×μ×δ),
   Paired (λ(p:List Key×V) (q:List Key×μ×δ)=>p.1=q.1/\H q.2.1≈(.tup (p.1.map kV))/\Aj p.2 q.2.2) π xs /\
   ∃ o es ep,h.get? a≈o/\o.ExactDict/\o.data=.dict es ep/\es.toList=xs.map (entryOfKey (tupleKind (CP P w)))/\(xs.map 0.5).Nodup
 | .set S n=>h.SetOf (intKind P w) a S n
 | .ins C dx fs=>H dx≈(.own a)/\↑fs<=1000/\dx≠a/\h.get? a≈(W.instObj C dx) /\
   ∃ mA,h.Ns1 dx mA/\(∀ f,Eh (fs.lookup f) (mA f))/\PySem.Within mA (fs.map 0.5)
 | .own _=>∃ o,h.get? a≈o
 | .xd fs=>∃ mA,h.Ns1 a mA/\∀ f,Eh (fs.lookup f) (mA f)
 | .rng lo hi=>∃ t u v,h.get? a=some {cls:=.type "range",data:=.fields #[.int lo t,.int hi u,.int 1 v] }
 | .frz o u=>h.get? a≈o/\BI H h a u
 | .tbl ps=>h.get? a=some {cls:=.none,data:=.fields ps}
 | .met f x=>h.get? a≈(W.methodObj (.ref f) (.ref x))
 | .ext φ=>φ h/\(∃ o,h.get? a≈o)/\∀ h1 h2:Heap,φ h1->(∀ o,h1.get? a≈o->h2.get? a≈o)->φ h2
def Bk(H:Hp)(h:Heap):Prop:=∀ a o,H a≈o->BI P w H h a o
end
section
variable {P:χ}{w:World}{H H':Hp}{h h':Heap}{a:μ}{o:HO}
theorem BI.lt(x:BI P w H h a o):a<h.objs.size:=by
 cases o with
 | lst xs=>obtain⟨_,_,_,_,e⟩:=x;exact Yh e
 | tup xs=>obtain⟨_,_,_,p⟩:=x;exact p.lt
 | dK π=>obtain⟨_,_,_,_,o,_,_,e,_⟩:=x;exact Yh e
 | dT π=>obtain⟨_,_,_,_,o,_,_,e,_⟩:=x;exact Yh e
 | set S n=>obtain⟨o,_,_,_,e,_⟩:=x;exact Yh e
 | ins C dx fs=>obtain⟨_,_,_,e,_⟩:=x;exact Yh e
 | own y=>obtain⟨_,e⟩:=x;exact Yh e
 | xd fs=>obtain⟨_,⟨_,_,_,e,_⟩,_⟩:=x;exact Yh e
 | rng lo hi=>obtain⟨_,_,_,e⟩:=x;exact Yh e
 | frz ob u=>obtain⟨e,_⟩:=x;exact Yh e
 | tbl ps=>exact Yh (show h.get? a≈_ from x)
 | met f y=>exact Yh (show h.get? a≈_ from x)
 | ext φ=>obtain⟨_,⟨_,e⟩,_⟩:=x;exact Yh e
theorem Paired.mapP{α β:Type}{F G:α->β->Prop}:∀ {l₁:List α}{l₂:List β},Paired F l₁ l₂->(∀ a b,F a b->G a b)->Paired G l₁ l₂
 | _,_,.nil,_=>.nil
 | _,_,.cons r t,f=>.cons (f _ _ r) (Paired.mapP t f)
def Paired.imp'{α β:Type}{F G:α->β->Prop}(f:∀ a b,F a b->G a b){l₁:List α}{l₂:List β}(r:Paired F l₁ l₂):Paired G l₁ l₂:=Paired.mapP r f
def BI.stay(x:BI P w H h a o)(k:∀ b u,(b=a\/H b≈(.own a))->h.get? b≈u->h'.get? b≈u)
  (ho:∀ b,H b≈(.own a)->H' b≈(.own a)) (ht:∀ b xs,H b≈(.tup xs)->H' b≈(.tup xs)):BI P w H' h' a o:=by
 induction o with
 | lst xs=>obtain⟨z,ν,n,r,e⟩:=x;exact⟨z,ν,n,r,k _ _ (.inl rfl) e⟩
 | tup xs=>obtain⟨z,ν,r,ob,e,c⟩:=x;exact⟨z,ν,r,ob,k _ _ (.inl rfl) e,c⟩
 | dK π=>obtain⟨z,y,vs,r,ob,es,ep,e,c⟩:=x;exact⟨z,y,vs,r,ob,es,ep,k _ _ (.inl rfl) e,c⟩
 | dT π =>
  obtain⟨z,y,xs,r,ob,es,ep,e,c⟩:=x;exact⟨z,y,xs,Paired.mapP r λp q z=>⟨z.1,ht _ _ z.2.1,z.2.2⟩,ob,es,ep,k _ _ (.inl rfl) e,c⟩
 | set S n=>obtain⟨ob,es,ep,t,e,c⟩:=x;exact⟨ob,es,ep,t,k _ _ (.inl rfl) e,c⟩
 | ins C dx fs =>
  obtain⟨d,z,ne,e,mA,⟨od,es,ep,e2,c⟩,r⟩:=x;exact⟨ho _ d,z,ne,k _ _ (.inl rfl) e,mA,⟨od,es,ep,k _ _ (.inr d) e2,c⟩,r⟩
 | own y=>obtain⟨ob,e⟩:=x;exact⟨ob,k _ _ (.inl rfl) e⟩
 | xd fs=>obtain⟨mA,⟨od,es,ep,e,c⟩,r⟩:=x;exact⟨mA,⟨od,es,ep,k _ _ (.inl rfl) e,c⟩,r⟩
 | rng lo hi=>obtain⟨t,u,v,e⟩:=x;exact⟨t,u,v,k _ _ (.inl rfl) e⟩
 | frz ob u ih=>obtain⟨e,q⟩:=x;exact⟨k _ _ (.inl rfl) e,ih q⟩
 | tbl ps =>
  have e:h.get? a=some {cls:=.none,data:=.fields ps}:=x;show h'.get? a=some {cls:=.none,data:=.fields ps};exact k a _ (.inl rfl) e
 | met f y =>
  have e:h.get? a≈(W.methodObj (.ref f) (.ref y)):=x;show h'.get? a≈(W.methodObj (.ref f) (.ref y));exact k a _ (.inl rfl) e
 | ext φ=>obtain⟨p,⟨o,e⟩,st⟩:=x;exact⟨st _ _ p λo q=>k _ _ (.inl rfl) q,⟨o,k _ _ (.inl rfl) e⟩,st⟩
theorem Bk.lt(x:Bk P w H h)(e:H a≈o):a<h.objs.size:=(x a o e).lt
def Bk.fresh(x:Bk P w H h)(e:h.objs.size<=a):H a=none:=by
 cases q:H a with
 | none=>rfl
 | some u=>exact absurd (Yp (x.lt q) e) (Gu _)
def Bk.kept(x:Bk P w H h)(k:∀ b u,h.get? b≈u->h'.get? b≈u):Bk P w H h':=λa o e =>
 (x a o e).stay (λb u _ q=>k b u q) (λ_ q=>q) λ_ _ q=>q
def Bk.laid(x:Bk P w H h)(k:∀ b u,h.get? b≈u->h'.get? b≈u)(hp:h.objs.size<=a)(new:BI P w 13.3 h' a o):Bk P w 13.3 h':=λb u e=>by
 have hn:=x.fresh hp;by_cases hb:b=a
 ·subst hb;rw[uS]at e;cases e;exact new
 ·rw[AD hb]at e;exact(x b u e).stay (λc v _ q=>k c v q) (λc q=>by rw[AD (AI q hn)];exact q) λc xs q=>by rw[AD (AI q hn)];exact q
end
def Rd(H:Hp)(a:μ)(u:HO):Prop:=H a≈u\/∃ o,H a≈(.frz o u)
def Rd.ok{P:χ}{w:World}{H:Hp}{h:Heap}{a:μ}{u:HO}(r:Rd H a u)(x:Bk P w H h):BI P w H h a u:=by
 rcases r with r | ⟨o,r⟩
 ·exact x a u r
 ·obtain⟨_,q⟩:=x a _ r;exact q
def R4:Option HO->Prop
 | some (.lst _)=>True
 | some (.dK _)=>True
 | some (.dT _)=>True
 | some (.set _ _)=>True
 | some (.ins _ _ _)=>True
 | some (.ext _)=>True
 | _=>False
section
variable {P:χ}{w:World}{H:Hp}{h h':Heap}{x e:μ}{o':HO}
def Bk.write(ok:Bk P w H h)(mu:R4 (H x))(he:e=x\/H e≈(.own x))(k:∀ b u,b≠e->h.get? b≈u->h'.get? b≈u)(heo:∃ u,h'.get? e≈u)
  (new:BI P w (upd H x o') h' x o'):Bk P w (upd H x o') h':=λb u q=>by
 have nown:∀ c y,H c≈(.own y)->c≠x:=λc y r z=>by subst z;rw[r]at mu;exact mu
 have ntup:∀ c xs,H c≈(.tup xs)->c≠x:=λc xs r z=>by subst z;rw[r]at mu;exact mu
 by_cases hb:b=x
 ·subst hb;rw[uS]at q;cases q;exact new
 ·rw[AD hb]at q;by_cases hbe:b=e
  ·have q':H b≈(.own x):=by
    rcases he with z | z
    ·exact absurd (hbe.trans z) hb
    ·rw[hbe];exact z
   rw[q]at q';cases q';obtain⟨v,hv⟩:=heo;exact⟨v,by rw[hbe];exact hv⟩
  ·refine(ok b u q).stay (λc v hc r=>k c v ?_ r) (λc r=>by rw[AD (nown c b r)];exact r) λc xs r=>by rw[AD (ntup c xs r)];exact r
   rcases hc with rfl | hc
   ·exact hbe
   ·rintro rfl
    rcases he with z | z
    ·exact nown c b hc z
    ·rw[hc]at z;cases z;exact hb rfl
end
structure Un(fs ex:ξ)(H H':Hp)(h h':Heap):Prop where
 keep:∀ b o,h.get? b≈o->H b=none->b∉fs->b∉ex->h'.get? b≈o
 slot:∀ b o,h.get? b≈o->H b=none->b∈fs->b∉ex->∃ sl,h'.get? b=some {o with slots:=sl}
 free:∀ b o,h.get? b≈o->H b=none->b∉ex->H' b=none
 there:∀ b o,h.get? b≈o->b∉ex->∃ o',h'.get? b≈o'
 tups:∀ b xs,H b≈(.tup xs)->H' b≈(.tup xs)
 frzs:∀ b o u,H b≈(.frz o u)->H' b≈(.frz o u)
 tbls:∀ b ps,H b≈(.tbl ps)->∃ more,H' b≈(.tbl (ps++more))
section
variable {fs CW ex ex':ξ}{H H1 H2:Hp}{h h1 h2 h':Heap}{a x e:μ}{o:HO}
def Un.any(u:Un fs ex H H1 h h1){b:μ}{ob:Obj}(q:h.get? b≈ob)(n:H b=none)(hx:b∉ex):∃ sl,h1.get? b=some {ob with slots:=sl}:=by
 by_cases hb:b∈fs
 ·exact u.slot b ob q n hb hx
 ·exact⟨ob.slots,u.keep b ob q n hb hx⟩
def Un.kept(k:∀ b u,h.get? b≈u->h'.get? b≈u):Un fs ex H H h h' :=
 ⟨λb ob q _ _ _=>k b ob q,λb ob q _ _ _=>⟨ob.slots,k b ob q⟩,λ_ _ _ n _=>n,λb ob q _=>⟨ob,k b ob q⟩,λ_ _ q=>q,λ_ _ _ q=>q,λ_ ps q=>⟨#[],by rw[q];simp⟩⟩
def Un.refl:Un fs ex H H h h:=Un.kept λ_ _ q=>q
def Un.laid(k:∀ b u,h.get? b≈u->h'.get? b≈u)(hp:h.objs.size<=a)(hn:H a=none):Un fs ex H 13.3 h h' where
 keep:=λb u q _ _ _=>k b u q
 slot:=λb u q _ _ _=>⟨u.slots,k b u q⟩
 free:=λb u q n _=>by rw[AD (Ys (Yp (Yh q) hp))];exact n
 there:=λb u q _=>⟨u,k b u q⟩
 tups:=λb xs q=>by rw[AD (AI q hn)];exact q
 frzs:=λb u xs q=>by rw[AD (AI q hn)];exact q
 tbls:=λb ps q=>⟨#[],by rw[AD (AI q hn),q];simp⟩
def Un.write(mu:R4 (H x))(he:e=x\/H e≈(.own x))(k:∀ b u,b≠e->h.get? b≈u->h'.get? b≈u)(heo:∃ u,h'.get? e≈u):Un fs ex H (upd H x o) h h':=by
 have hx:∀ b,H b=none->b≠x:=λb n z=>by subst z;rw[n]at mu;exact mu
 have hb:∀ b,H b=none->b≠e:=λb n z=>by
  subst z
  rcases he with r | r
  ·exact hx b n r
  ·rw[n]at r;cases r
 have hm:∀ b u,H b≈u->¬ R4 (↥u)->b≠x:=λb u q nm z=>by subst z;rw[q]at mu;exact nm mu
 refine⟨λb u q n _ _=>k b u (hb b n) q,λb u q n _ _=>⟨u.slots,k b u (hb b n) q⟩,λb u q n _=>by rw[AD (hx b n)];exact n,λb u q _=>?_,
  λb xs q=>by rw[AD (hm b _ q λz=>z)];exact q,λb u xs q=>by rw[AD (hm b _ q λz=>z)];exact q,λb ps q=>⟨#[],by rw[AD (hm b _ q λz=>z),q];simp⟩⟩
 by_cases hbe:b=e
 ·subst hbe;exact heo
 ·exact⟨u,k b u hbe q⟩
end
def Sx(h:Heap)(H:Hp):ξ:=(List.range h.objs.size).filter λa=>(H a).isSome
def J5(h:Heap)(H:Hp):Heap:=W.hideAll h (Sx h H)
def sO(h:Heap)(H:Hp):(J5 h H).objs.size=h.objs.size:=W.hideAll_size _ _
def zo{h:Heap}{H:Hp}{b:μ}{o:Obj}(e:h.get? b≈o)(n:H b=none):(J5 h H).get? b≈o :=
 W.hideAll_get _ e λhm=>by
  have q:(H b).isSome=true:=(LO.mp hm).2;rw[n]at q;simp at q
def yK{h:Heap}{H:Hp}{b:μ}{o:Obj}(e:(J5 h H).get? b≈o):h.get? b≈o/\H b=none:=by
 have e':h.get? b≈o:=W.of_hideAll (Sx h H) e;refine⟨e',?_⟩;cases q:H b with
 | none=>rfl
 | some x =>
  have hm:b∈Sx h H:=LO.mpr ⟨List.mem_range.mpr (Yh e'),by simp[q]⟩;have z:(J5 h H).get? b=none:=W.hideAll_none (Sx h H) hm;rw[z]at e;cases e
def xg(g h:Heap)(L:μ):PL:=(List.range h.objs.size).filterMap λa=>if a=L\/(g.get? a).isSome=true then none else(h.get? a).map λo=>(a,o)
def BF(g h:Heap)(L d:μ):PL:=(xg g h L).filter λp=>decide (p.1≠d)
structure Mod(K:Fg)(mg:Str->OU)(base:Heap):Prop where
 kin:K.In base
 glob:base.Ns mainGlobals mg
 blt:∃ mb,base.Ns builtinsNs mb/\∀ x:Str,x≠"__name__"->mb x=bootBuiltins x
 nolimit:base.NoLimit
structure Cx where
 prog:χ
 w:World
 K:Fg
 mg:Str->OU
 base:Heap
 A:Around
 N:LS
 s₀:ε
 H₀:Hp
 env:Env
 outer:List Env
 stack:List Env
 ex:ξ
 fn:Str->Bool
 calm:Bool
 pn:PL
 xe:EV
def C0(l:List Env):ξ:=l.filterMap (·.frame)
abbrev Cx.fs(X:Cx):ξ:=C0 X.outer
def Vc(sc:Scope)(x:Str):Prop:=sc.names.lookup x≈.local\/sc.names.lookup x≈.cell\/sc.names.lookup x≈.free
def Loc(sc:Scope)(x:Str):Prop:=sc.names.lookup x≈.local\/sc.names.lookup x≈.cell
def zt(env:Env)(h:Heap)(m:Str->OU)(x:Str)(u:δ):Prop :=
 (env.kindOf x≈.local/\m x≈u)\/((env.kindOf x≈.cell\/env.kindOf x≈.free)/\∃ c,env.cells.lookup x≈c/\h.IsCell c (↥u))
structure Cx.Ok(X:Cx):Prop where
 mod:Mod X.K X.mg X.base
 kind:X.env.scope.kind=.function
 glob:X.env.globals=mainGlobals
 blt:X.env.builtins=builtinsNs
 above:⇑X.s₀<=X.env.locals
 inj:∀ x y c,X.env.cells.lookup x≈c->X.env.cells.lookup y≈c->x=y
 has:∀ x,(X.env.kindOf x≈.cell\/X.env.kindOf x≈.free)->∃ c,X.env.cells.lookup x≈c
 cab:∀ x c,X.fn x=true->X.env.cells.lookup x≈c->⇑X.s₀<=c
 hd:X.calm=true->X.A.handled=none
 frames:X.A.frames≈X.stack
 stk:X.stack=X.outer\/(X.stack=X.env :: X.outer/\X.env.frame≈X.env.locals)
 exf:∀ b∈X.ex,b≠X.env.locals/\∀ x c,X.env.cells.lookup x≈c->c≠b
 bs:∀ b o,X.base.get? b≈o->X.s₀.heap.get? b≈o/\X.H₀ b=none
 bsz:X.base.objs.size<=⇑X.s₀
 noex:∀ b o,X.base.get? b≈o->b∉X.ex
 exfs:∀ b∈X.ex,b∉X.fs
 funs:X.s₀.heap.FunFrames X.base X.outer
 frf:∀ b∈X.fs,X.H₀ b=none
structure Inv(X:Cx)(ρ:PL)(σ:List (OV))(H:Hp)(s:ε):Prop where
 ok:X.Ok
 os:s.os=X.s₀.os
 bare:AllBare s.gens
 base:Un X.fs X.ex X.H₀ H X.s₀.heap s.heap
 loc:∃ m,s.heap.Ns X.env.locals m/\∀(i:Nat) (x:Str) (v:V),X.N[i]?≈x->σ[i]?≈(↥v)->Vc X.env.scope x->∃ u,Aj v u/\zt X.env s.heap m x u
 cell:∀ x c,X.env.cells.lookup x≈c->∃ v,s.heap.IsCell c v
 free:H X.env.locals=none
 freeC:∀ x c,X.env.cells.lookup x≈c->H c=none
 pin:∀ p∈X.pn++ρ,s.heap.get? p.1≈p.2/\H p.1=none/\p.1≠X.env.locals/\p.1∉X.fs/\∀ v,p.2.data≠.cell v
 hok:Bk X.prog X.w H s.heap
 len:↑σ=↑X.N
section
variable {X:Cx}{ρ:PL}{σ:List (OV)}{H H':Hp}{s:ε}{h':Heap}
def Cx.Ok.nofr(ok:X.Ok){b:μ}{o:Obj}(e:X.base.get? b≈o):b∉X.fs:=λhb=>by
 have:=(ok.funs.mem hb).1;rw[e]at this;cases this
theorem Inv.bs(I:Inv X ρ σ H s):∀ b o,X.base.get? b≈o->s.heap.get? b≈o/\H b=none:=λb o e =>
 ⟨I.base.keep b o (I.ok.bs b o e).1 (I.ok.bs b o e).2 (I.ok.nofr e) (I.ok.noex b o e),I.base.free b o (I.ok.bs b o e).1 (I.ok.bs b o e).2 (I.ok.noex b o e)⟩
def Inv.bk(I:Inv X ρ σ H s):∀ b o,X.base.get? b≈o->s.heap.get? b≈o:=λb o e=>(I.bs b o e).1
theorem Inv.mod(I:Inv X ρ σ H s):Mod X.K X.mg X.base:=I.ok.mod
def Inv.kIn(I:Inv X ρ σ H s):X.K.In s.heap:=I.ok.mod.kin.keeps I.bk
theorem Inv.lt(I:Inv X ρ σ H s):X.env.locals<⇑s:=let⟨_,hn,_⟩:=I.loc;hn.lt
def Inv.sz(I:Inv X ρ σ H s):⇑X.s₀<=⇑s:=BU I.ok.above (My I.lt)
def Inv.nofs(I:Inv X ρ σ H s){a:μ}(h:⇑s<=a):a∉X.fs:=λhb=>by
 obtain⟨_,o,ho,_⟩:=I.ok.funs.mem hb;exact absurd (Yp (Yh ho) (BU I.sz h)) (Gu _)
def Inv.cne(I:Inv X ρ σ H s):∀ x c,X.env.cells.lookup x≈c->c≠X.env.locals:=λx c e z=>by
 obtain⟨v,o,ho,hd⟩:=I.cell x c e;obtain⟨m,⟨o',es,ep,Hb,Kn,_⟩,_⟩:=I.loc;rw[z,Hb]at ho;cases ho;rw[Kn]at hd;cases hd
theorem Inv.funs(I:Inv X ρ σ H s):s.heap.FunFrames X.base X.outer:=by
 have all:∀(l:List Env),(∀ b∈C0 l,b∈X.fs)->X.s₀.heap.FunFrames X.base l->s.heap.FunFrames X.base l:=by
  intro l
  induction l with
  | nil=>intro _ _;trivial
  | cons env r ih =>
   intro hs hl;obtain⟨hk,⟨L,o,hf,hn,ho,hd⟩,hr⟩:=hl;have hL:L∈X.fs:=hs L (by unfold C0;rw[List.filterMap_cons,hf];exact CT);obtain⟨sl,e⟩:=I.base.slot L o ho (I.ok.frf L hL) hL λz=>I.ok.exfs L z hL;exact⟨hk,⟨L,_,hf,hn,e,hd⟩,ih (λb hb=>hs b (by unfold C0;rw[List.filterMap_cons,hf];exact C7 _ hb)) hr⟩
 exact all X.outer (λ_ hb=>hb) I.ok.funs
theorem Inv.stack(I:Inv X ρ σ H s):s.heap.FunFrames X.base X.stack:=by
 rcases I.ok.stk with e | ⟨e,hf⟩
 ·rw[e];exact I.funs
 ·rw[e];obtain⟨m,hn,_⟩:=I.loc;refine .cons (by rw[I.ok.kind];decide) hf hn ?_ I.funs;exact Heap.get?_none_of_le (BU I.ok.bsz I.ok.above)
def Inv.stkSub(I:Inv X ρ σ H s):∀ b∈C0 X.stack,b∈X.env.locals :: X.fs:=λb hb=>by
 rcases I.ok.stk with e | ⟨e,hf⟩
 ·rw[e]at hb;exact C7 _ hb
 ·rw[e]at hb;unfold C0 at hb;rw[List.filterMap_cons,hf]at hb;exact hb
def Inv.stkFree(I:Inv X ρ σ H s):∀ b∈C0 X.stack,H b=none:=λb hb=>by
 rcases Yv.mp (I.stkSub b hb)with e | hb
 ·rw[e];exact I.free
 ·obtain⟨_,o,ho,_⟩:=I.ok.funs.mem hb;exact I.base.free b o ho (I.ok.frf b hb) λz=>I.ok.exfs b z hb
def Inv.step{g':Array GenState}{t':Nat}{d':Drawn}{ch:ξ}(I:Inv X ρ σ H s)
  (hch:∀ b∈ch,(b∈X.ex\/⇑X.s₀<=b)/\b≠X.env.locals/\10.4/\∀ p∈X.pn++ρ,p.1≠b)
  (keep:∀ b o,b≠X.env.locals->b∉X.fs->b∉ch->s.heap.get? b≈o->H b=none->h'.get? b≈o)
  (slot:∀ b o,b≠X.env.locals->b∈X.fs->b∉ch->s.heap.get? b≈o->H b=none->∃ sl,h'.get? b=some {o with slots:=sl}) (free:∀ b o,b∉ch->s.heap.get? b≈o->H b=none->H' b=none)
  (there:∀ b o,b∉ch->s.heap.get? b≈o->∃ o',h'.get? b≈o')
  (tups:∀ b xs,H b≈(.tup xs)->H' b≈(.tup xs)) (frzs:∀ b o u,H b≈(.frz o u)->H' b≈(.frz o u)) (tbls:∀ b ps,H b≈(.tbl ps)->∃ more,H' b≈(.tbl (ps++more)))
  (ns:∀ m,s.heap.Ns X.env.locals m->h'.Ns X.env.locals m) (hok:Bk X.prog X.w H' h') (hg:AllBare g'):
  Inv X ρ σ H' {s with heap:=h',gens:=g',drawn:=d',toks:=t' }:=by
 have neL:∀ b o,X.s₀.heap.get? b≈o->b≠X.env.locals:=λb o e=>Ys (Yp (Yh e) I.ok.above);have neC:∀ b o,X.s₀.heap.get? b≈o->b∉X.ex->b∉ch:=λb o e hx hb=>by
  rcases(hch b hb).1 with z | z
  ·exact hx z
  ·exact absurd (Yp (Yh e) z) (Gu _)
 have cellK:∀ x c,X.env.cells.lookup x≈c->∀ v,s.heap.IsCell c v->h'.IsCell c v:=λx c e v ⟨o,ho,hd⟩=>by
  have nch:c∉ch:=λz=>(hch c z).2.2.1 x c e rfl;by_cases hc:c∈X.fs
  ·obtain⟨sl,q⟩:=slot c o (I.cne x c e) hc nch ho (I.freeC x c e);exact⟨_,q,hd⟩
  ·exact⟨o,keep c o (I.cne x c e) hc nch ho (I.freeC x c e),hd⟩
 refine⟨I.ok,I.os,hg,⟨λb o e n hb hx=>?_,λb o e n hb hx=>?_,λb o e n hx=>?_,λb o e hx=>?_,λb xs e=>tups b xs (I.base.tups b xs e),λb o xs e=>frzs b o xs (I.base.frzs b o xs e),λb ps e=>?_⟩,?_,λx c e=>?_,?_,λx c e=>?_,λp hp=>?_,hok,I.len⟩
 ·exact keep b o (neL b o e) hb (neC b o e hx) (I.base.keep b o e n hb hx) (I.base.free b o e n hx)
 ·obtain⟨sl,e1⟩:=I.base.slot b o e n hb hx;obtain⟨PR,e2⟩:=slot b _ (neL b o e) hb (neC b o e hx) e1 (I.base.free b o e n hx);exact⟨PR,e2⟩
 ·obtain⟨o',e1⟩:=I.base.there b o e hx;exact free b o' (neC b o e hx) e1 (I.base.free b o e n hx)
 ·obtain⟨o',e1⟩:=I.base.there b o e hx;exact there b o' (neC b o e hx) e1
 ·obtain⟨m1,e1⟩:=I.base.tbls b ps e;obtain⟨m2,e2⟩:=tbls b _ e1;exact⟨m1++m2,by rw[e2,Array.append_assoc]⟩
 ·obtain⟨m,hn,hl⟩:=I.loc;refine⟨m,ns m hn,λi x v e1 e2 e3=>?_⟩;obtain⟨u,r,l⟩:=hl i x v e1 e2 e3;refine⟨u,r,?_⟩
  rcases l with l | ⟨k,c,e,z⟩
  ·exact .inl l
  ·exact .inr ⟨k,c,e,cellK x c e _ z⟩
 ·obtain⟨v,z⟩:=I.cell x c e;exact⟨v,cellK x c e v z⟩
 ·obtain⟨m,⟨o,_,_,ho,_⟩,_⟩:=I.loc;exact free _ o (λz=>(hch _ z).2.1 rfl) ho I.free
 ·obtain⟨v,o,ho,hd⟩:=I.cell x c e;exact free c o (λz=>(hch c z).2.2.1 x c e rfl) ho (I.freeC x c e)
 ·obtain⟨e,n,ne,nf,d⟩:=I.pin p hp;have nch:p.1∉ch:=λz=>(hch p.1 z).2.2.2 p hp rfl;exact⟨keep p.1 p.2 ne nf nch e n,free p.1 p.2 nch e n,ne,nf,d⟩
def Inv.un{t':Nat}(I:Inv X ρ σ H s)(u:Un X.fs [] H H' s.heap h')(hok:Bk X.prog X.w H' h'):Inv X ρ σ H' {s with heap:=h',toks:=t' }:=by
 obtain⟨m,⟨o,es,ep,ho,r⟩,_⟩:=id I.loc;obtain⟨sl,hL⟩:=u.any ho I.free 1.1;exact I.step (g':=s.gens) (d':=s.drawn) (ch:=[]) (λ_ z=>nomatch z) (λb o _ hb _ e n=>u.keep b o e n hb 1.1) (λb o _ hb _ e n=>u.slot b o e n hb 1.1) (λb o _ e n=>u.free b o e n 1.1) (λb o _ e=>u.there b o e 1.1) u.tups u.frzs u.tbls (λm' hm=>by
  obtain⟨o',JY,JZ,Hb,r'⟩:=hm;rw[ho]at Hb;cases Hb;exact⟨_,JY,JZ,hL,r'⟩) hok I.bare
def Inv.call{g':Array GenState}{t':Nat}{d':Drawn}{ch:ξ}(I:Inv X ρ σ H s)(u:Un (C0 X.stack) ch H H' s.heap h')(hok:Bk X.prog X.w H' h')(hg:AllBare g')
  (hch:∀ b∈ch,(b∈X.ex\/⇑X.s₀<=b)/\b≠X.env.locals/\10.4/\∀ p∈X.pn++ρ,p.1≠b):
  Inv X ρ σ H' {s with heap:=h',gens:=g',drawn:=d',toks:=t' }:=by
 obtain⟨m,⟨o,es,ep,ho,r⟩,_⟩:=id I.loc;obtain⟨sl,hL⟩:=u.any ho I.free λz=>(hch _ z).2.1 rfl;exact I.step (ch:=ch) hch (λb o hL hb hc e n=>u.keep b o e n (λz=>(Yv.mp (I.stkSub b z)).elim hL hb) hc) (λb o _ _ hc e n=>u.any e n hc) (λb o hc e n=>u.free b o e n hc) (λb o hc e=>u.there b o e hc) u.tups u.frzs u.tbls (λm' hm=>by
  obtain⟨o',JY,JZ,Hb,r'⟩:=hm;rw[ho]at Hb;cases Hb;exact⟨_,JY,JZ,hL,r'⟩) hok hg
def Inv.turned{t':Nat}{it:μ}(I:Inv X ρ σ H s)(k:∀ b o,b≠it->s.heap.get? b≈o->h'.get? b≈o)(hn:H it=none)(hL:it≠X.env.locals)
  (h1:it∈X.ex\/⇑X.s₀<=it) (h2:∀ x c,X.env.cells.lookup x≈c->c≠it) (h3:∀ p∈X.pn++ρ,p.1≠it):Inv X ρ σ H {s with heap:=h',toks:=t' }:=by
 have nit:∀ b u,H b≈u->b≠it:=λb u e z=>by rw[z,hn]at e;cases e
 refine I.step (g':=s.gens) (d':=s.drawn) (ch:=[it]) (λb hb=>?_) (λb o _ _ hc e _=>k b o 5.4 e) (λb o _ _ hc e _=>⟨o.slots,k b o 5.4 e⟩) (λ_ _ _ _ n=>n)
  (λb o hc e=>⟨o,k b o 5.4 e⟩) (λ_ _ e=>e) (λ_ _ _ e=>e) (λb ps e=>⟨#[],by rw[e];simp⟩) (λm hm=>?_) (λb u e=>?_) I.bare
 ·have e:b=it:=by simpa using hb
  subst e;exact⟨h1,hL,h2,h3⟩
 ·obtain⟨o,es,ep,ho,r⟩:=hm;exact⟨o,es,ep,k _ o (Yz hL) ho,r⟩
 ·refine(I.hok b u e).stay (λc v hc q=>k c v ?_ q) (λ_ q=>q) λ_ _ q=>q
  rcases hc with z | z
  ·rw[z];exact nit b u e
  ·exact nit c _ z
def Inv.tok(I:Inv X ρ σ H s)(t:Nat):Inv X ρ σ H {s with toks:=t}:=I.un (h':=s.heap) (t':=t) Un.refl I.hok
theorem Inv.kept{t':Nat}(I:Inv X ρ σ H s)(k:∀ b u,s.heap.get? b≈u->h'.get? b≈u):Inv X ρ σ H {s with heap:=h',toks:=t' }:=I.un (Un.kept k) (I.hok.kept k)
theorem Inv.laid{a:μ}{o:HO}{t':Nat}(I:Inv X ρ σ H s)(k:∀ b u,s.heap.get? b≈u->h'.get? b≈u)(hp:⇑s<=a)(new:BI X.prog X.w 13.3 h' a o):
  Inv X ρ σ 13.3 {s with heap:=h',toks:=t' }:=I.un (Un.laid k hp (I.hok.fresh hp)) (I.hok.laid k hp new)
theorem Inv.write{x e:μ}{o:HO}{t':Nat}(I:Inv X ρ σ H s)(mu:R4 (H x))(he:e=x\/H e≈(.own x))(k:∀ b u,b≠e->s.heap.get? b≈u->h'.get? b≈u)(heo:∃ u,h'.get? e≈u)
  (new:BI X.prog X.w (upd H x o) h' x o):Inv X ρ σ (upd H x o) {s with heap:=h',toks:=t' }:=I.un (Un.write mu he k heo) (I.hok.write mu he k heo new)
def Inv.pins_of{Lb:PL}(I:Inv X ρ σ H s)(h:∀ p∈Lb,s.heap.get? p.1≈p.2/\H p.1=none/\p.1≠X.env.locals/\p.1∉X.fs/\∀ v,p.2.data≠.cell v):Inv X Lb σ H s :=
 ⟨I.ok,I.os,I.bare,I.base,I.loc,I.cell,I.free,I.freeC,λp hp=>(Yo.mp hp).elim (λz=>I.pin p (LL _ z)) (h p),I.hok,I.len⟩
def OK{N:LS}(hN:N.Nodup){i j:Nat}{x:Str}(a:N[i]?≈x)(b:N[j]?≈x):i=j:=by
 obtain⟨h1,e1⟩:=Yg.mp a;obtain⟨h2,e2⟩:=Yg.mp b;exact(List.getElem_inj hN).mp (e1.trans e2.symm)
def i8{M:Model}{A:Around}{E:EV}{i:Nat}{x:Str}{v:V}{u:δ}{Q:Unit->ε->Prop}(I:Inv X ρ σ H s)(hN:X.N.Nodup)(hi:X.N[i]?≈x)(hx:Loc X.env.scope x)(r:Aj v u)
  (h:∀ s',Inv X ρ (σ.set i (↥v)) H s'->(∃ a,Heap.SameBut a s.heap s'.heap/\(a=X.env.locals\/X.env.cells.lookup x≈a))->Q () s') (hf:X.fn x=true\/X.env.scope.names.lookup x≈.local:=by first | exact .inl rfl | exact .inr rfl | assumption):wpAny M A (storeName X.env x u) Q E s:=by
 obtain⟨m,hn,hl⟩:=id I.loc;have hcls:(X.env.scope.kind == .class || (X.env.scope.kind == .module&&X.env.locals != X.env.globals))=false:=by rw[I.ok.kind];rfl
 have hiσ:i<↑σ:=by rw[I.len];exact(Yg.mp hi).1
 have cne:=I.cne;have tracked:∀ {a:μ} {h':Heap},(∃ o,s.heap.get? a≈o/\H a=none)->Heap.SameBut a s.heap h'->Bk X.prog X.w H h':=λ{a h'} ha hs b ob e=>by
  obtain⟨_,_,hfree⟩:=ha;refine(I.hok b ob e).stay (λc w' hc q=>(hs.2 c ?_).trans q) (λ_ q=>q) λ_ _ q=>q;rintro rfl
  rcases hc with rfl | hc
  ·rw[hfree]at e;cases e
  ·rw[hfree]at hc;cases hc
 rcases hx with hk | hk
 ·refine wpAny_storeName_local hk hn (λh' TL hs=>?_) hcls;obtain⟨oL,_,_,hoL,_⟩:=id hn;refine h _ ⟨I.ok,I.os,I.bare,⟨λb o e n hb hx=>?_,λb o e n hb hx=>?_,I.base.free,λb o e hx=>?_,I.base.tups,I.base.frzs,I.base.tbls⟩,⟨_,TL,λj y v' e1 e2 e3=>?_⟩,λy c e=>?_,I.free,I.freeC,λp hp=>?_,tracked ⟨oL,hoL,I.free⟩ hs,by simpa using I.len⟩ ⟨_,hs,.inl rfl⟩
  ·exact(hs.2 b 9.8).trans (I.base.keep b o e n hb hx)
  ·obtain⟨sl,e1⟩:=I.base.slot b o e n hb hx;exact⟨sl,(hs.2 b 9.8).trans e1⟩
  ·obtain⟨o',e1⟩:=I.base.there b o e hx;exact⟨o',(hs.2 b 9.8).trans e1⟩
  ·by_cases hj:j=i
   ·subst hj;rw[hi]at e1;cases e1;rw[VP hiσ]at e2;cases e2;exact⟨u,r,.inl ⟨hk,by simp⟩⟩
   ·rw[List.getElem?_set_ne (Yz hj)]at e2;obtain⟨u',r',q⟩:=hl j y v' e1 e2 e3;refine⟨u',r',?_⟩
    rcases q with⟨k,e⟩ | ⟨k,c,e,z⟩
    ·refine .inl ⟨k,?_⟩;have:y≠x:=λe=>hj (OK hN e1 (e ▸ hi));simp[this,e]
    ·exact .inr ⟨k,c,e,z.sameBut hs (cne y c e)⟩
  ·obtain⟨w',z⟩:=I.cell y c e;exact⟨w',z.sameBut hs (cne y c e)⟩
  ·obtain⟨e,n,ne,nf,d⟩:=I.pin p hp;exact⟨(hs.2 p.1 ne).trans e,n,ne,nf,d⟩
 ·have hfn:X.fn x=true:=by
   rcases hf with z | z
   ·exact z
   ·rw[z]at hk;cases hk
  obtain⟨c,hc⟩:=I.ok.has x (.inl hk);obtain⟨w',z⟩:=I.cell x c hc;refine wpAny_storeName_cell I.ok.kind hk hc z (λh' GZ hs=>?_);obtain⟨oc,hoc,hocd⟩:=id z;refine h {s with heap:=h' } ⟨I.ok,I.os,I.bare,⟨λb o e n hb hx=>?_,λb o e n hb hx=>?_,I.base.free,λb o e hx=>?_,I.base.tups,I.base.frzs,I.base.tbls⟩,⟨m,hn.sameBut hs (Yz (cne x c hc)),λj y v' e1 e2 e3=>?_⟩,λy c' e=>?_,I.free,I.freeC,λp hp=>?_,tracked ⟨oc,hoc,I.freeC x c hc⟩ hs,by simpa using I.len⟩ ⟨c,hs,.inr hc⟩
  ·exact(hs.2 b (Ys (Yp (Yh e) (I.ok.cab x c hfn hc)))).trans (I.base.keep b o e n hb hx)
  ·obtain⟨sl,e1⟩:=I.base.slot b o e n hb hx;exact⟨sl,(hs.2 b (Ys (Yp (Yh e) (I.ok.cab x c hfn hc)))).trans e1⟩
  ·obtain⟨o',e1⟩:=I.base.there b o e hx;exact⟨o',(hs.2 b (Ys (Yp (Yh e) (I.ok.cab x c hfn hc)))).trans e1⟩
  ·by_cases hj:j=i
   ·subst hj;rw[hi]at e1;cases e1;rw[VP hiσ]at e2;cases e2;exact⟨u,r,.inr ⟨.inl hk,c,hc,GZ⟩⟩
   ·rw[List.getElem?_set_ne (Yz hj)]at e2;obtain⟨u',r',q⟩:=hl j y v' e1 e2 e3;refine⟨u',r',?_⟩
    rcases q with q | ⟨k,c',e,z'⟩
    ·exact .inl q
    ·refine .inr ⟨k,c',e,z'.sameBut hs ?_⟩;rintro rfl;exact hj (OK hN e1 (I.ok.inj _ _ _ e hc ▸ hi))
  ·by_cases hcc:c'=c
   ·subst hcc;exact⟨_,GZ⟩
   ·obtain⟨w2,z2⟩:=I.cell y c' e;exact⟨w2,z2.sameBut hs hcc⟩
  ·obtain⟨e,n,ne,nf,d⟩:=I.pin p hp;refine⟨(hs.2 p.1 ?_).trans e,n,ne,nf,d⟩;intro q;rw[q,hoc]at e;have q':oc=p.2:=Yt e;exact d w' (by rw[<- q'];exact hocd)
def UM{M:Model}{A:Around}{E:EV}{i:Nat}{x:Str}{v:V}{u:δ}{Q:Unit->ε->Prop}(I:Inv X ρ σ H s)(hN:X.N.Nodup)(hi:X.N[i]?≈x)(hx:Loc X.env.scope x)(r:Aj v u)
  (h:∀ s',Inv X ρ (σ.set i (↥v)) H s'->Q () s') (hf:X.fn x=true\/X.env.scope.names.lookup x≈.local:=by first | exact .inl rfl | exact .inr rfl | assumption):wpAny M A (storeName X.env x u) Q E s :=
 i8 I hN hi hx r (λs' I' _=>h s' I') hf
def Inv.call'{s':ε}{ch:ξ}(I:Inv X ρ σ H s)(ho:s'.os=s.os)(u:Un (C0 X.stack) ch H H' s.heap s'.heap)(hok:Bk X.prog X.w H' s'.heap)(hg:AllBare s'.gens)
  (hch:∀ b∈ch,(b∈X.ex\/⇑X.s₀<=b)/\b≠X.env.locals/\10.4/\∀ p∈X.pn++ρ,p.1≠b):Inv X ρ σ H' s':=by
 obtain⟨h',g',d',t',o'⟩:=s';have e:o'=s.os:=ho;subst e;exact I.call (g':=g') (t':=t') (d':=d') u hok hg hch
end
abbrev XK:=δ->Option μ->Hp->Prop
abbrev St:=List (OV)
abbrev VK:=V->Hp->Prop
abbrev _root_.SW:=St->Hp->Prop
abbrev _root_.NW:=Nat->St->Hp->Prop
abbrev TE:=St->Hp->VK->Prop
abbrev TT:=St->Hp->(Bool->Hp->Prop)->Prop
abbrev TA:=St->Hp->(LV->Hp->Prop)->Prop
structure Dl where
 nx:SW
 rt:VK
 bk:SW:=λ_ _=>False
 ct:SW:=λ_ _=>False
abbrev TS:=Dl->St->Hp->Prop
def EP(X:Cx)(ρ:PL)(σ:St)(Q:VK)(u:δ)(s':ε):Prop:=∃ v H',Inv X ρ σ H' s'/\Aj v u/\Q v H'
def TP(X:Cx)(ρ:PL)(σ:St)(Q:Bool->Hp->Prop)(b:Bool)(s':ε):Prop:=∃ H',Inv X ρ σ H' s'/\Q b H'
def AP(X:Cx)(ρ:PL)(σ:St)(Q:LV->Hp->Prop)(us:LU)(s':ε):Prop:=∃ vs H',Inv X ρ σ H' s'/\Aa vs us/\Q vs H'
def SP(X:Cx)(ρ:PL)(D:Dl)(f:Flow)(s':ε):Prop :=
 match f with
 | .next=>∃ σ' H',Inv X ρ σ' H' s'/\D.nx σ' H'
 | .brk=>∃ σ' H',Inv X ρ σ' H' s'/\D.bk σ' H'
 | .cont=>∃ σ' H',Inv X ρ σ' H' s'/\D.ct σ' H'
 | .ret u=>∃ v σ' H',Inv X ρ σ' H' s'/\Aj v u/\D.rt v H'
def PE(X:Cx)(e:Expr)(t:TE):Prop :=
 ∀(ρ:PL) (s:ε) (σ:St) (H:Hp) (Q:VK),Inv X ρ σ H s->t σ H Q->wpAny 0.3 X.A (eval e X.env) 6.8 X.xe s
def PT(X:Cx)(e:Expr)(t:TT):Prop :=
 ∀(ρ:PL) (s:ε) (σ:St) (H:Hp) (Q:Bool->Hp->Prop),Inv X ρ σ H s->t σ H Q->wpAny 0.3 X.A (isTrue e X.env (eval e X.env)) (TP X ρ σ Q) X.xe s
def PW(X:Cx)(e:Expr)(t:TT):Prop :=
 ∀(whole:Sem δ) (ρ:PL) (s:ε) (σ:St) (H:Hp) (Q:Bool->Hp->Prop),Inv X ρ σ H s->t σ H Q->wpAny 0.3 X.A (isTrue e X.env whole) (TP X ρ σ Q) X.xe s
def PW.pt{X:Cx}{e:Expr}{t:TT}(h:PW X e t):PT X e t:=h _
def PA(X:Cx)(es:τ)(t:TA):Prop :=
 ∀(pos:Pos) (ρ:PL) (s:ε) (σ:St) (H:Hp) (Q:LV->Hp->Prop),Inv X ρ σ H s->t σ H Q->wpAny 0.3 X.A (spliced (backTo pos 3.6)) (AP X ρ σ Q) X.xe s
def PS(X:Cx)(st:Stmt)(t:TS):Prop :=
 ∀(ρ:PL) (s:ε) (σ:St) (H:Hp) (D:Dl),Inv X ρ σ H s->t D σ H->wpAny 0.3 X.A (exec st X.env) (SP X ρ D) X.xe s
def CK(X:Cx)(st:List Stmt)(t:TS):Prop :=
 ∀(ρ:PL) (s:ε) (σ:St) (H:Hp) (D:Dl),Inv X ρ σ H s->t D σ H->wpAny 0.3 X.A (execs st X.env) (SP X ρ D) X.xe s
def AK{α:Type}{t:Sem α}{Q Q':α->ε->Prop}{M:Model}{A:Around}{E:EV}{s:ε}(h:wpAny M A t Q E s)(hQ:∀ a s,Q a s->Q' a s):wpAny M A t Q' E s:=Jf h hQ λ_ _ x=>x
section
variable {X:Cx}
inductive Of(i:Nat)(σ:St)(H:Hp)(Q:VK):Prop
 | mk:∀ v,σ[i]?≈(↥v)->Q v H->Of i σ H Q
def tC(v:V):TE:=λ_ H Q=>Q v H
def lV{i:Nat}{x:Str}{pos:Pos}(hN:X.N[i]?≈x)(hv:Vc X.env.scope x)(hd:(x == ("__debug__":Str))=false:=by decide)(hcd:(x == ("__classdict__":Str))=false:=by decide):PE X (.Name x pos) (Of i):=by
 ac_rfl;obtain⟨v,e,h⟩:=h;obtain⟨m,hn,hl⟩:=I.loc;obtain⟨u,r,l⟩:=hl i x v hN e hv;have fin:EP X ρ σ Q u s:=⟨v,H,I,r,h⟩
 rcases l with⟨hk,hm⟩ | ⟨hk,c,hc,hcell⟩
 ·exact wpAny_Name (wpAny_loadName_local I.ok.kind hk hn hm fin) hd
 ·rcases hk with hk | hk
  ·exact wpAny_Name (wpAny_loadName_cell I.ok.kind hk hc hcell fin) hd
  ·exact wpAny_Name (wpAny_loadName_free I.ok.kind hk hc hcell fin hcd) hd
def AG{i j pos}:PE X (.Constant (.int i) j pos) (tC (.int i)):=λ_ _ _ H _ I h=>wpAny_Constant_int ⟨.int i,H,I.tok _,⟨Z⟩,h⟩
def FX{b j pos}:PE X (.Constant (.bool b) j pos) (tC (.bl b)):=λ_ _ _ H _ I h=>Constant_bool ⟨.bl b,H,I,Y,h⟩
def Dq{j pos}:PE X (.Constant .none j pos) (tC .non):=λ_ _ _ H _ I h=>Constant_none ⟨.non,H,I,Y,h⟩
def Ah{x j pos}:PE X (.Constant (.str x) j pos) (tC (.str x)):=λ_ _ _ H _ I h=>Calls.Constant_str ⟨.str x,H,I.tok _,⟨Z⟩,h⟩
def Gl(X:Cx)(x:Str):Prop:=X.env.kindOf x≈.globalImplicit
def Js{E:EV}{ρ:PL}{s:ε}{σ:St}{H:Hp}{x:Str}{u:δ}{pos:Pos}{Q:EV}(I:Inv X ρ σ H s)(hg:Gl X x)(hm:X.mg x≈u)(h:Q u s)
  (hd:(x == ("__debug__":Str))=false:=by decide):wpAny 0.3 X.A (eval (.Name x pos) X.env) Q E s :=
 Calls.Name_function_global I.ok.kind hg (Calls.loadGlobal_global (by rw[I.ok.glob];exact I.mod.glob.keeps I.bk) hm h) hd
def K2{E:EV}{ρ:PL}{s:ε}{σ:St}{H:Hp}{x:Str}{u:δ}{pos:Pos}{Q:EV}(I:Inv X ρ σ H s)(hg:Gl X x)(hm:X.mg x=none)(hv:bootBuiltins x≈u)(h:Q u s)
  (hn:x≠"__name__":=by decide) (hd:(x == ("__debug__":Str))=false:=by decide):wpAny 0.3 X.A (eval (.Name x pos) X.env) Q E s:=by
 obtain⟨mb,h1,h2⟩:=I.mod.blt;exact Calls.Name_function_global I.ok.kind hg (Calls.loadGlobal_builtin (by rw[I.ok.glob];exact I.mod.glob.keeps I.bk) hm (by rw[I.ok.blt];exact h1.keeps I.bk) ((h2 x hn).trans hv) h) hd
def EB{x:Str}{v:V}{u:δ}{pos:Pos}(hg:Gl X x)(hm:X.mg x≈u)(r:Aj v u)(hd:(x == ("__debug__":Str))=false:=by decide):PE X (.Name x pos) (tC v):=
 λ_ _ _ H _ I h=>Js I hg hm ⟨v,H,I,r,h⟩ hd
def gD{x:Str}{v:V}{u:δ}{pos:Pos}(hg:Gl X x)(hm:X.mg x=none)(hv:bootBuiltins x≈u)(r:Aj v u)(hn:x≠"__name__":=by decide)(hd:(x == ("__debug__":Str))=false:=by decide):PE X (.Name x pos) (tC v):=
 λ_ _ _ H _ I h=>K2 I hg hm hv ⟨v,H,I,r,h⟩ hn hd
variable {a b:Expr}{ta tb:TE}{pos:Pos}
def PC(X:Cx)(op:CmpOp)(a b:Expr)(t:TE):Prop :=
 ∀(ρ:PL) (s:ε) (σ:St) (H:Hp) (Q:VK),Inv X ρ σ H s->t σ H Q ->
  wpAny 0.3 X.A (eval a X.env) (λv s₁=>wpAny 0.3 X.A (eval b X.env) (λu s₂=>wpAny 0.3 X.A (compareOp op v u) 6.8 X.xe s₂) X.xe s₁) X.xe s
def gs(b:Expr){op:CmpOp}(h:op≠.In)(h2:op≠.NotIn):behindInMarks op b=false:=by
 have e1:(op == CmpOp.In)=false:=by cases op <;> first | rfl | exact absurd rfl h
 have e2:(op == CmpOp.NotIn)=false:=by cases op <;> first | rfl | exact absurd rfl h2
 cases b <;> simp[behindInMarks,e1,e2]
def wB(ta:TE):TE:=λσ H Q=>ta σ H λx H1=>Q (.bl (!decide (x=.non))) H1
def Aj.none_iff{x:V}{v:δ}(r:Aj x v):(v == Value.none)=decide (x=.non):=by
 cases x with
 | non=>cases r;rfl
 | bl _=>cases r;rfl
 | int _=>obtain⟨t,rfl⟩:=r;rfl
 | str _=>obtain⟨t,rfl⟩:=r;rfl
 | byt _=>obtain⟨t,rfl⟩:=r;rfl
 | flt _=>obtain⟨t,rfl⟩:=r;rfl
 | ref _=>cases r;rfl
 | ty _=>cases r;rfl
def T3{j pos'}(ha:PE X a ta):PC X .IsNot a (.Constant .none j pos') (wB ta):=by
 ac_rfl;refine AK (ha ρ s σ H _ I h) λv s1 ⟨x,H1,I1,r1,q1⟩=>?_;exact Constant_none (isnot_none_gen ⟨.bl _,H1,I1,by rw[r1.none_iff];rfl,q1⟩)
inductive cL(Q:Bool->Hp->Prop)(x:V)(H1:Hp):Prop
 | mk:∀ c,x=.bl c->Q c H1->cL Q x H1
def tB(t:TE):TT:=λσ H Q=>t σ H λx H1=>cL Q x H1
def xC{op:CmpOp}{t:TE}(h:PC X op a b t)(h1:behindInMarks op b=false:=by first | exact gs _ 0.2 0.2 | rfl):PE X (.Compare a [op] [b] pos) t:=λρ s σ H Q I hw=>wpAny_Compare1 (h ρ s σ H Q I hw) h1
def Em{op:CmpOp}{t:TE}(h:PC X op a b t)(h1:behindInMarks op b=false:=by first | exact gs _ 0.2 0.2 | rfl):PT X (.Compare a [op] [b] pos) (tB t):=by
 intro ρ s σ H Q I hw;refine wpAny_isTrue_Compare1 (AK (h ρ s σ H _ I hw) λv s1 h1=>AK h1 λu s2 h2=>AK h2 λc s3 ⟨x,H1,I1,r1,q1⟩=>?_) h1;obtain⟨d,rfl,q⟩:=q1;cases r1;exact Jh ⟨H1,I1,q⟩
def Cg{e:Expr}{t:TE}(h:PE X e t)(he:∀ whole,isTrue e X.env whole=(do let v <- whole;standAt e.pos;holding [v] (truthy v)):=by intro _;rfl):PT X e (tB t):=by
 intro ρ s σ H Q I hw;refine isTrue_plain (AK (h ρ s σ H _ I hw) λv s1 ⟨x,H1,I1,r1,q1⟩=>?_) (he _);obtain⟨d,rfl,q⟩:=q1;cases r1;exact Jh ⟨H1,I1,q⟩
variable {tA Sy:TT}{BF:τ}
def Yd2(t u:TT):TT:=λσ H Q=>t σ H λc H1=>if c=true then u σ H1 Q else Q false H1
def oU(t u:TT):TT:=λσ H Q=>t σ H λc H1=>if c=true then Q true H1 else u σ H1 Q
def Ydw(t:TT):TT:=λσ H Q=>t σ H λc H1=>Q (!c) H1
def OE(ha:PT X a tA):PW X (.BoolOp .And [a] pos) tA:=by
 intro wh ρ s σ H Q I h;refine isTrue_and (AK (ha ρ s σ H Q I h) λc s1 e=>?_);cases c with
 | true=>exact isTrue_and_nil e
 | false=>exact e
def Kx(ha:PT X a tA):PW X (.BoolOp .Or [a] pos) tA:=by
 intro wh ρ s σ H Q I h;refine isTrue_or (AK (ha ρ s σ H Q I h) λc s1 e=>?_);cases c with
 | false=>exact isTrue_or_nil e
 | true=>exact e
def Kw(ha:PT X a tA)(hb:PW X (.BoolOp .And (b :: BF) pos) Sy):PW X (.BoolOp .And (a :: b :: BF) pos) (Yd2 tA Sy):=by
 intro wh ρ s σ H Q I h;refine isTrue_and (AK (ha ρ s σ H _ I h) λc s1 ⟨H1,I1,q1⟩=>?_);cases c with
 | true=>exact hb wh ρ s1 σ H1 Q I1 q1
 | false=>exact⟨H1,I1,q1⟩
def Jm(ha:PT X a tA)(hb:PW X (.BoolOp .Or (b :: BF) pos) Sy):PW X (.BoolOp .Or (a :: b :: BF) pos) (oU tA Sy):=by
 intro wh ρ s σ H Q I h;refine isTrue_or (AK (ha ρ s σ H _ I h) λc s1 ⟨H1,I1,q1⟩=>?_);cases c with
 | true=>exact⟨H1,I1,q1⟩
 | false=>exact hb wh ρ s1 σ H1 Q I1 q1
def Ct(ha:PT X a tA):PT X (.UnaryOp .Not a pos) (Ydw tA):=by
 ac_rfl;exact isTrue_not (ha ρ s σ H (λc H1=>Q (!c) H1) I h)
inductive lM(tb:TE)(σ:St)(Q:VK)(x:V)(H1:Hp):Prop
 | mk:∀ c,x=.bl c->(if c=true then tb σ H1 Q else Q (.bl false) H1)->lM tb σ Q x H1
def wI(ta tb:TE):TE:=λσ H Q=>ta σ H λx H1=>lM tb σ Q x H1
inductive kP(tb:TE)(σ:St)(Q:VK)(x:V)(H1:Hp):Prop
 | mk:∀ c,x=.bl c->(if c=true then Q (.bl true) H1 else tb σ H1 Q)->kP tb σ Q x H1
def Ydv(ta tb:TE):TE:=λσ H Q=>ta σ H λx H1=>kP tb σ Q x H1
def JA{op}{t:TE}(h:PE X a t):PE X (.BoolOp op [a] pos) t:=λρ s σ H Q I hw=>BoolOp_one (h ρ s σ H Q I hw)
def HG(ha:PE X a ta)(hb:PE X (.BoolOp .And (b :: BF) pos) tb):PE X (.BoolOp .And (a :: b :: BF) pos) (wI ta tb):=by
 ac_rfl;refine BoolOp_and (AK (ha ρ s σ H _ I h) λv s1 ⟨x,H1,I1,r1,q1⟩=>?_);obtain⟨c,rfl,q1⟩:=q1;cases r1;refine Jh ?_;cases c with
 | true=>exact hb ρ s1 σ H1 Q I1 q1
 | false=>exact⟨.bl false,H1,I1,Y,q1⟩
def Td(ha:PE X a ta)(hb:PE X (.BoolOp .Or (b :: BF) pos) tb):PE X (.BoolOp .Or (a :: b :: BF) pos) (Ydv ta tb):=by
 ac_rfl;refine BoolOp_or (AK (ha ρ s σ H _ I h) λv s1 ⟨x,H1,I1,r1,q1⟩=>?_);obtain⟨c,rfl,q1⟩:=q1;cases r1;refine Jh ?_;cases c with
 | false=>exact hb ρ s1 σ H1 Q I1 q1
 | true=>exact⟨.bl true,H1,I1,Y,q1⟩
def oV(t:TT)(ta tb:TE):TE:=λσ H Q=>t σ H λc H1=>if c=true then ta σ H1 Q else tb σ H1 Q
def gz{c:Expr}(hc:PT X c tA)(ha:PE X a ta)(hb:PE X b tb):PE X (.IfExp c a b pos) (oV tA ta tb):=by
 ac_rfl;refine wpAny_IfExp (AK (hc ρ s σ H _ I h) λd s1 ⟨H1,I1,q1⟩=>?_);cases d with
 | true=>exact ha ρ s1 σ H1 Q I1 q1
 | false=>exact hb ρ s1 σ H1 Q I1 q1
end
def SqL(K:Fg)(H:Hp)(a:μ)(xs:LV):Prop :=
 Rd H a (.lst xs) \/
  ∃(o:Obj) (ν:ζ) (n:Nat),K.lookup a≈o/\o.cls=.type "list"/\o.dict=none/\o.data=.seq ν n/\ν.size<=sizeLine/\Aa xs ν.toList
def AH(K:Fg)(H:Hp)(a:μ)(xs:LV):Prop :=
 Rd H a (.tup xs) \/
  ∃(o:Obj) (ν:ζ) (n:Nat),K.lookup a≈o/\o.cls=.type "tuple"/\o.data=.seq ν n/\ν.size<=sizeLine/\Aa xs ν.toList
def zz:δ->OV
 | .none=>↥.non
 | .bool b=>↥(.bl b)
 | .int i _=>↥(.int i)
 | .str x _=>↥(.str x)
 | .bytes b _=>↥(.byt b)
 | .float b _=>↥(.flt b)
 | .ref a=>↥(.ref a)
 | .type n=>↥(.ty n)
 | _=>none
def Aj.abs{x:V}{u:δ}(r:Aj x u):zz u≈x:=by
 cases x with
 | non=>cases r;rfl
 | bl _=>cases r;rfl
 | int _=>obtain⟨t,rfl⟩:=r;rfl
 | str _=>obtain⟨t,rfl⟩:=r;rfl
 | byt _=>obtain⟨t,rfl⟩:=r;rfl
 | flt _=>obtain⟨t,rfl⟩:=r;rfl
 | ref _=>cases r;rfl
 | ty _=>cases r;rfl
theorem Aj.inj{x y:V}{u:δ}(r:Aj x u)(q:Aj y u):x=y:=Yt (r.abs.symm.trans q.abs)
theorem Aa.inj:∀ {xs ys:LV}{us:LU},Aa xs us->Aa ys us->xs=ys
 | _,_,_,.nil,.nil=>rfl
 | _,_,_,.cons r t,.cons r' t'=>by rw[r.inj r',Aa.inj t t']
section
variable {X:Cx}{ρ:PL}{σ:St}{H:Hp}{s:ε}{a:μ}{xs ys:LV}
def SqL.of{K:Fg}(h:H a≈(.lst xs)):SqL K H a xs:=.inl (.inl h)
def AH.of{K:Fg}(h:H a≈(.tup xs)):AH K H a xs:=.inl (.inl h)
def Inv.list(I:Inv X ρ σ H s)(h:SqL X.K H a xs):∃ ν:LU,Aa xs ν/\PlainL s.heap a ν.toArray/\↑xs<=sizeLine:=by
 rcases h with h | ⟨o,ν,n,hk,hc,hd,hs,hz,r⟩
 ·obtain⟨z,ν,n,r,e⟩:=h.ok I.hok;exact⟨ν,r,⟨_,n,e,Y,Y,Y⟩,z⟩
 ·refine⟨ν.toList,r,⟨o,n,I.kIn a o hk,hc,hd,by simpa using hs⟩,?_⟩;have e:=↑r;simp only[Rq]at e;omega
def Inv.tuple(I:Inv X ρ σ H s)(h:AH X.K H a xs):∃ ν:LU,Aa xs ν/\IsTup s.heap a ν.toArray/\↑xs<=sizeLine:=by
 rcases h with h | ⟨o,ν,n,hk,hc,hs,hz,r⟩
 ·obtain⟨z,ν,r,p⟩:=h.ok I.hok;exact⟨ν,r,p,z⟩
 ·refine⟨ν.toList,r,⟨o,I.kIn a o hk,hc,n,by simpa using hs⟩,?_⟩;have e:=↑r;simp only[Rq]at e;omega
def Inv.list_inj(I:Inv X ρ σ H s)(h:SqL X.K H a xs)(h':SqL X.K H a ys):xs=ys:=by
 obtain⟨ν,r,⟨o,n,e,_,_,d⟩,_⟩:=I.list h;obtain⟨its',r',⟨o',n',e',_,_,d'⟩,_⟩:=I.list h';rw[e]at e';cases e';rw[d]at d';injection d' with d1 _;have:ν=its':=by simpa using congrArg Array.toList d1
 subst this;exact r.inj r'
def Inv.tuple_inj(I:Inv X ρ σ H s)(h:AH X.K H a xs)(h':AH X.K H a ys):xs=ys:=by
 obtain⟨ν,r,⟨o,e,_,n,d⟩,_⟩:=I.tuple h;obtain⟨its',r',⟨o',e',_,n',d'⟩,_⟩:=I.tuple h';rw[e]at e';cases e';rw[d]at d';injection d' with d1 _;have:ν=its':=by simpa using congrArg Array.toList d1
 subst this;exact r.inj r'
end
abbrev Cx.wish(X:Cx)(E:EV):Cx:={X with xe:=E}
abbrev Cx.nox(X:Cx):Cx:=X.wish λ_ _=>False
theorem Cx.Ok.wish{X:Cx}(ok:X.Ok)(E:EV):(X.wish E).Ok :=
 ⟨ok.mod,ok.kind,ok.glob,ok.blt,ok.above,ok.inj,ok.has,ok.cab,ok.hd,ok.frames,ok.stk,ok.exf,ok.bs,ok.bsz,ok.noex,ok.exfs,ok.funs,ok.frf⟩
def Cx.Ok.unwish{X:Cx}{E:EV}(ok:(X.wish E).Ok):X.Ok :=
 ⟨ok.mod,ok.kind,ok.glob,ok.blt,ok.above,ok.inj,ok.has,ok.cab,ok.hd,ok.frames,ok.stk,ok.exf,ok.bs,ok.bsz,ok.noex,ok.exfs,ok.funs,ok.frf⟩
section
variable {X:Cx}{ρ:PL}{σ:St}{H:Hp}{s:ε}{E:EV}
theorem Inv.wish(I:Inv X ρ σ H s)(E:EV):Inv (X.wish E) ρ σ H s:=⟨I.ok.wish E,I.os,I.bare,I.base,I.loc,I.cell,I.free,I.freeC,I.pin,I.hok,I.len⟩
theorem Inv.unwish(I:Inv (X.wish E) ρ σ H s):Inv X ρ σ H s:=⟨I.ok.unwish,I.os,I.bare,I.base,I.loc,I.cell,I.free,I.freeC,I.pin,I.hok,I.len⟩
theorem SP.unwish{D:Dl}{f:Flow}{s':ε}(h:SP (X.wish E) ρ D f s'):SP X ρ D f s':=by
 cases f with
 | next=>obtain⟨σ',H',I,q⟩:=h;exact⟨σ',H',I.unwish,q⟩
 | brk=>obtain⟨σ',H',I,q⟩:=h;exact⟨σ',H',I.unwish,q⟩
 | cont=>obtain⟨σ',H',I,q⟩:=h;exact⟨σ',H',I.unwish,q⟩
 | ret u=>obtain⟨v,σ',H',I,r,q⟩:=h;exact⟨v,σ',H',I.unwish,r,q⟩
theorem CK.nox{st:List Stmt}{t:TS}(h:CK X.nox st t):CK X st t:=λρ s σ H D I hw =>
 Jf (h ρ s σ H D (I.wish _) hw) (λ_ _ q=>q.unwish) λ_ _ z=>False.elim z
end
section
variable {X:Cx}{st:Stmt}{BF:List Stmt}{t u:TS}{e:Expr}{te:TE}{pos:Pos}
def wA:TS:=λD σ H=>D.nx σ H
def AE(t u:TS):TS:=λD σ H=>t {D with nx:=u D} σ H
def AS:CK X [] wA:=λ_ _ σ H _ I h=>wpAny_execs_nil ⟨σ,H,I,h⟩
def pS(h1:PS X st t)(h2:CK X BF u):CK X (st :: BF) (AE t u):=by
 intro ρ s σ H D I h;refine wpAny_execs_cons (AK (h1 ρ s σ H {D with nx:=u D} I h) λf s1 q=>?_);cases f with
 | next =>
  obtain⟨σ',H',I',q⟩:=q;exact h2 ρ s1 σ' H' D I' q
 | ret v=>exact q
 | brk=>exact q
 | cont=>exact q
def AF(h1:PS X st t):CK X [st] t:=by
 intro ρ s σ H D I h;refine wpAny_execs_cons (AK (h1 ρ s σ H D I h) λf s1 q=>?_);cases f with
 | next=>exact wpAny_execs_nil q
 | ret v=>exact q
 | brk=>exact q
 | cont=>exact q
def Inv.quiet{ρ:PL}{σ:St}{H:Hp}{s:ε}(I:Inv X ρ σ H s):interactive X.env=false:=by simp[interactive,I.ok.kind]
def v_(te:TE):TS:=λD σ H=>te σ H λ_ H1=>D.nx σ H1
def Bj(he:PE X e te)(hs:swapsWith e none pos.line X.env=pure false:=by rfl):PS X (.Expr e pos) (v_ te):=by
 intro ρ s σ H D I h;exact wpAny_Expr_any (AK (he ρ s σ H _ I h) λv s1 ⟨x,H1,I1,r1,q1⟩=>⟨σ,H1,I1,q1⟩) I.quiet hs
def Ydu(te:TE):TS:=λD σ H=>te σ H D.rt
def AW(he:PE X e te):PS X (.Return (↥e) pos) (Ydu te):=by
 intro ρ s σ H D I h;exact wpAny_Return_some (AK (he ρ s σ H _ I h) λv s1 ⟨x,H1,I1,r1,q1⟩=>⟨x,σ,H1,I1,r1,q1⟩)
def A4(c:TT)(t u:TS):TS:=λD σ H=>c σ H λb H1=>if b=true then t D σ H1 else u D σ H1
def AR{c:Expr}{a b:List Stmt}{tc:TT}(hc:PT X c tc)(ha:CK X a t)(hb:CK X b u):PS X (.If c a b pos) (A4 tc t u):=by
 intro ρ s σ H D I h;refine wpAny_If (AK (hc ρ s σ H _ I h) λd s1 ⟨H1,I1,q1⟩=>?_);cases d with
 | true=>exact ha ρ s1 σ H1 D I1 q1
 | false=>exact hb ρ s1 σ H1 D I1 q1
def xX:TS:=λ_ _ _=>False
def CA{sts:List Stmt}:CK X sts xX:=λ_ _ _ _ _ _ h=>h.elim
end
abbrev TG:=V->St->Hp->(St->Hp->Prop)->Prop
abbrev O_:=LV->St->Hp->(St->Hp->Prop)->Prop
def PG(X:Cx)(target:Expr)(t:TG):Prop :=
 ∀(ρ:PL) (s:ε) (σ:St) (H:Hp) (v:V) (u:δ) (Q:SW),Inv X ρ σ H s->Aj v u->t v σ H Q ->
  wpAny 0.3 X.A (assign target X.env u) (λ_ s'=>∃ σ' H',Inv X ρ σ' H' s'/\Q σ' H') X.xe s
def Vh(X:Cx)(ts:τ)(t:O_):Prop :=
 ∀(ρ:PL) (s:ε) (σ:St) (H:Hp) (vs:LV) (us:LU) (Q:SW),Inv X ρ σ H s->Aa vs us->t vs σ H Q ->
  wpAny 0.3 X.A (assignInOrder ((assignEach ts X.env).map (·.2)) us) (λ_ s'=>∃ σ' H',Inv X ρ σ' H' s'/\Q σ' H') X.xe s
abbrev Zx:=V->V->V->Hp->(Hp->Prop)->Prop
def mC(X:Cx)(t:Zx):Prop :=
 ∀(ρ:PL) (s:ε) (σ:St) (H:Hp) (o i v:V) (ov iv u:δ) (Q:Hp->Prop),Inv X ρ σ H s->Aj o ov->Aj i iv->Aj v u->t o i v H Q ->
  wpAny 0.3 X.A (setItem ov iv u) (λ_ s'=>∃ H',Inv X ρ σ H' s'/\Q H') X.xe s
section
variable {X:Cx}{pos:Pos}
def DJ(i:Nat):TG:=λv σ H Q=>Q (σ.set i (↥v)) H
def CB{i:Nat}{x:Str}(hN:X.N.Nodup)(hi:X.N[i]?≈x)(hx:Loc X.env.scope x)(hf:X.fn x=true\/X.env.scope.names.lookup x≈.local:=by first | exact .inl rfl | exact .inr rfl | assumption):PG X (.Name x pos) (DJ i):=by
 intro ρ s σ H v u Q I r h;exact wpAny_assign_Name (UM I hN hi hx r (λs' I'=>⟨_,H,I',h⟩) hf)
def gE(i:Nat){x:Str}(hN:X.N.Nodup)(hi:X.N[i]?≈x:=by rfl)(hx:Loc X.env.scope x:=by exact Or.inl rfl)(hf:X.fn x=true\/X.env.scope.names.lookup x≈.local:=by first | exact .inl rfl | exact .inr rfl | assumption):PG X (.Name x pos) (DJ i):=CB hN hi hx hf
def Z1:O_:=λvs σ H Q=>vs=[]/\Q σ H
inductive L4(t:TG)(u:O_)(vs:LV)(σ:St)(H:Hp)(Q:SW):Prop
 | mk:∀ v r,vs=v :: r->(t v σ H λσ' H'=>u r σ' H' Q)->L4 t u vs σ H Q
def CQ:Vh X [] Z1:=by
 intro ρ s σ H vs us Q I r h;obtain⟨e,h⟩:=h;subst e;cases r;exact assignInOrder_nil ⟨σ,H,I,h⟩
def gC{e:Expr}{es:τ}{t:TG}{u:O_}(h1:PG X e t)(h2:Vh X es u)
  (hs:(assignEach (e :: es) X.env).map (·.2)=assign e X.env :: (assignEach es X.env).map (·.2):=by rfl):Vh X (e :: es) (L4 t u):=by
 intro ρ s σ H vs us Q I r h;obtain⟨v,vr,e1,h⟩:=h;subst e1;cases r with
 | cons r rr =>
  rw[hs];refine assignInOrder_cons (AK (h1 ρ s σ H _ _ _ I r h) λ_ s1 ⟨σ1,H1,I1,q1⟩=>?_);exact h2 ρ s1 σ1 H1 _ _ Q I1 rr q1
inductive U9(K:Fg)(n:Nat)(t:O_)(v:V)(σ:St)(H:Hp)(Q:SW):Prop
 | mk:∀ a xs,v=.ref a->AH K H a xs->↑xs=n->t xs σ H Q->U9 K n t v σ H Q
def CO{es:τ}{k:Nat}{t:O_}{n:Nat}(hc:X.calm=true)(h:Vh X es t)
  (hn:↑(assignEach es X.env)=n:=by rfl) (hst:(assignEach es X.env).findIdx? 0.5=none:=by rfl):PG X (.Tuple es k pos) (U9 X.K n t):=by
 intro ρ s σ H v u Q I r hw;obtain⟨a,xs,e1,hq,hl,hw⟩:=hw;subst e1;cases r;obtain⟨ν,rv,ht,hz⟩:=I.tuple hq;refine assign_Tuple_tuple 6.0 ht (by simp[hn,<- hl,rv.length]) hst λh' hx=>?_;have I1:Inv X ρ σ H {s with heap:=h' }:=I.kept (t':=s.toks) λb o e=>hx b o (Ys (Yh e)) e;exact h ρ _ σ H xs _ Q I1 (by simpa using rv) hw
def Ye8(to ti:TE)(t:Zx):TG:=λv σ H Q=>to σ H λo H1=>ti σ H1 λi H2=>t o i v H2 λH3=>Q σ H3
def lW{o i:Expr}{to ti:TE}{t:Zx}(ho:PE X o to)(hi:PE X i ti)(hs:mC X t)
  (ha:∀ v,assign (.Subscript o i pos) X.env v=(do
   let ov <- holding [v] (eval o X.env);let iv <- holding [v,ov] (eval i X.env)
   standAt pos
   holding [v,ov,iv] (setItem ov iv v)
   release [v,ov,iv] []):=by intro _;rfl):PG X (.Subscript o i pos) (Ye8 to ti t):=by
 intro ρ s σ H v u Q I r h;rw[ha];refine Ja (Jj (AK (ho ρ s σ H _ I h) λov s1 ⟨x,H1,I1,r1,q1⟩=>?_));refine Ja (Jj (AK (hi ρ s1 σ H1 _ I1 q1) λiv s2 ⟨y,H2,I2,r2,q2⟩=>?_));refine Ja (wpAny_standAt (Ja (Jj (AK (hs ρ s2 σ H2 x y v ov iv u _ I2 r1 r2 r q2) λ_ s3 ⟨H3,I3,q3⟩=>?_))));exact wpAny_release ⟨σ,H3,I3,q3⟩
def J3(te:TE)(g:TG):TS:=λD σ H=>te σ H λx H1=>g x σ H1 D.nx
def MJ{tg e:Expr}{te:TE}{g:TG}(he:PE X e te)(hg:PG X tg g)(hs:swapsWithSole [tg] e pos.line X.env=pure false:=by rfl)(hw:swappedStores [tg] e X.env=pure none:=by rfl)
  (h1:(assignEach [tg] X.env).map (·.2)=[assign tg X.env]:=by rfl):PS X (.Assign [tg] e pos) (J3 te g):=by
 intro ρ s σ H D I h;refine wpAny_Assign_stores (AK (he ρ s σ H _ I h) λv s1 ⟨x,H1,I1,r1,q1⟩=>?_) hs hw;rw[h1];exact AK (hg ρ s1 σ H1 x v _ I1 r1 q1) λ_ s2 q=>q
def Er{i:Nat}{x:Str}{e:Expr}{te:TE}{pos':Pos}(hN:X.N.Nodup)(hi:X.N[i]?≈x)(hx:Loc X.env.scope x)(he:PE X e te)(hs:swapsWith e (↥(.Name x pos')) pos.line X.env=pure false:=by rfl)(hf:X.fn x=true\/X.env.scope.names.lookup x≈.local:=by first | exact .inl rfl | exact .inr rfl | assumption):
  PS X (.Assign [.Name x pos'] e pos) (J3 te (DJ i)):=by
 intro ρ s σ H D I h;refine wpAny_Assign_Name (AK (he ρ s σ H _ I h) λv s1 ⟨y,H1,I1,r1,q1⟩=>?_) hs;exact UM I1 hN hi hx r1 (λs2 I2=>⟨_,H1,I2,q1⟩) hf
def sE(i:Nat){x:Str}{e:Expr}{te:TE}{pos':Pos}(hN:X.N.Nodup)(he:PE X e te)(hi:X.N[i]?≈x:=by rfl)(hx:Loc X.env.scope x:=by exact Or.inl rfl)(hs:swapsWith e (↥(.Name x pos')) pos.line X.env=pure false:=by rfl)(hf:X.fn x=true\/X.env.scope.names.lookup x≈.local:=by first | exact .inl rfl | exact .inr rfl | assumption):PS X (.Assign [.Name x pos'] e pos) (J3 te (DJ i)):=Er hN hi hx he hs hf
end
section
variable {X:Cx}{pos:Pos}
inductive MI(c:TT)(tb:TS)(D:Dl)(σ:St)(H:Hp):Prop
 | mk:∀ W:NW,(∃ m,W m σ H)->(∀ m σ H,W m σ H->c σ H λb H1=>if b=true then ∃ N:SW,(∀ σ' H',N σ' H'->∃ m',m'<m/\W m' σ' H')/\tb {D with nx:=N,ct:=N,bk:=D.nx} σ H1 else D.nx σ H1)->MI c tb D σ H
def MV{c:Expr}{body:List Stmt}{tc:TT}{tb:TS}(hp:PassesOwn 0.3 X.A X.env X.xe)(hc:PT X c tc)(hb:CK X body tb):PS X (.While c body [] pos) (MI tc tb):=by
 intro ρ s σ H D I h;obtain⟨W,⟨m0,w0⟩,turn⟩:=h;refine wpAny_While (codeAny_whileLoop (λn s'=>∃ σ' H',Inv X ρ σ' H' s'/\W n σ' H') ?_ m0 ⟨σ,H,I,w0⟩);rintro n s1 ⟨σ1,H1,I1,w1⟩;refine wpAny_passesOwn hp (AK (hc ρ s1 σ1 H1 _ I1 (turn n σ1 H1 w1)) λb s2 ⟨H2,I2,q2⟩=>?_);cases b with
 | true =>
  obtain⟨N,hN,q2⟩:=q2;rw[if_pos rfl];refine wpAny_passesOwn hp (AK (hb ρ s2 σ1 H2 _ I2 q2) λf s3 q3=>?_);cases f with
  | next =>
   obtain⟨σ3,H3,I3,n3⟩:=q3;obtain⟨m',hm,w3⟩:=hN σ3 H3 n3;exact⟨m',hm,σ3,H3,I3,w3⟩
  | cont =>
   obtain⟨σ3,H3,I3,n3⟩:=q3;obtain⟨m',hm,w3⟩:=hN σ3 H3 n3;exact⟨m',hm,σ3,H3,I3,w3⟩
  | brk=>exact q3
  | ret v=>exact q3
 | false =>
  rw[if_neg Yl];exact wpAny_execs_nil ⟨σ1,H2,I2,q2⟩
end
structure It where
 go:Nat->Hp->Prop
 yld:Nat->Hp->V->Hp->Prop
 stop:Nat->Hp->Prop
def Dc(X:Cx)(ρ:PL)(H:Hp)(b:μ):Prop :=
 H b=none/\b≠X.env.locals/\b∉X.fs/\(b∈X.ex\/⇑X.s₀<=b)/\10.4/\∀ p∈X.pn++ρ,p.1≠b
def Inv.fpOk{X:Cx}{ρ:PL}{σ:St}{H H':Hp}{s:ε}{b:μ}(I:Inv X ρ σ H s)(hb:⇑s<=b)(hn:H' b=none):Dc X ρ H' b:=by
 refine⟨hn,CJ (Yp I.lt hb),I.nofs hb,.inr (BU I.sz hb),λx c e z=>?_,λp hp z=>?_⟩
 ·obtain⟨v,q⟩:=I.cell x c e;exact absurd (Yp q.lt (by rw[z];exact hb)) (Gu _)
 ·exact absurd (Yp (Yh (I.pin p hp).1) (by rw[z];exact hb)) (Gu _)
structure Ga(P:χ)(w:World)(K:Fg)(tg:Expr)(J:It)(fp:ξ)(it:μ)(tn:Nat->Heap->Prop):Prop where
 mem:it∈fp
 obj:∀ i h,tn i h->∀ b∈fp,∃ o,h.get? b≈o/\∀ v,o.data≠.cell v
 keep:∀ i h h',tn i h->(∀ b∈fp,∀ o,h.get? b≈o->h'.get? b≈o)->tn i h'
 item:∀(X:Cx),X.prog=P->X.w=w->X.K=K->X.calm=true->∀(i:Nat) (ρ:PL) (s:ε) (σ:St) (H:Hp) (E:EV),Inv X ρ σ H s->(∀ b∈fp,Dc X ρ H b)->tn i s.heap->J.go i H ->
  wpAny (model P w) X.A (pyNext (.ref it)) (λr s1=>∃ u,r≈u /\
   wpAny (model P w) X.A (letOwnedTupleGo tg (.ref it) u) (λ_ s2=>∃ x H',Inv X ρ σ H' s2/\Aj x u/\J.yld i H x H'/\tn 4.6 s2.heap/\∀ b∈fp,H' b=none) E s1) E s
 done:∀(X:Cx),X.prog=P->X.w=w->X.K=K->X.calm=true->∀(i:Nat) (ρ:PL) (s:ε) (σ:St) (H:Hp) (E:EV),Inv X ρ σ H s->(∀ b∈fp,Dc X ρ H b)->tn i s.heap->J.stop i H ->
  wpAny (model P w) X.A (pyNext (.ref it)) (λr s1=>r=none/\Inv X ρ σ H s1) E s
 self:∀(A:Around) (i:Nat) (s:ε) (Q:EV) (E:EV),tn i s.heap->Q (.ref it) s->wpAny (model P w) A (pyIter (.ref it)) Q E s
abbrev TI:=St->Hp->(It->Hp->Prop)->Prop
def aA(X:Cx)(ρ:PL)(σ:St)(tg:Expr)(R:It->Hp->Prop)(itv:δ)(s2:ε):Prop :=
 ∃(it:μ) (fp:ξ) (tn:Nat->Heap->Prop) (J:It) (H':Hp),itv=.ref it/\Inv X ρ σ H' s2/\Ga X.prog X.w X.K tg J fp it tn/\tn 0 s2.heap/\(∀ b∈fp,Dc X ρ H' b)/\R J H'
def PI(X:Cx)(tg iter:Expr)(wi:TI):Prop :=
 ∀(ρ:PL) (s:ε) (σ:St) (H:Hp) (R:It->Hp->Prop),Inv X ρ σ H s->wi σ H R ->
  wpAny 0.3 X.A (eval iter X.env) (λv s1=>wpAny 0.3 X.A (pyIter v) (aA X ρ σ tg R) X.xe s1) X.xe s
def N5{M:Model}{A:Around}{E:EV}{s:ε}{tg:Expr}{it:μ}{u:δ}{o:Obj}{n:String}{vs:ζ}{Q:Unit->ε->Prop}(ho:s.heap.get? it≈o)(hc:o.cls=.type n)(hd:o.data=.fields vs)
  (hn:["enumerate","zip","dict_itemiterator","dict_reverseitemiterator","odict_iterator","itertools.zip_longest","itertools.pairwise"].contains n=false) (hQ:Q () s):wpAny M A (letOwnedTupleGo tg (.ref it) u) Q E s:=by
 unfold letOwnedTupleGo;cases tg <;> first
  | exact Jd hQ
  | (cases u <;> first
    | exact Jd hQ
    | (refine Ja (wpAny_load ho ?_)
       rw[hc,hd];show wpAny M A (if(["enumerate","zip","dict_itemiterator","dict_reverseitemiterator","odict_iterator","itertools.zip_longest","itertools.pairwise"].contains n&&vs[0]? == ↥(rawInt _))=true then _ else _) Q E s;rw[if_neg (by intro h;rw[hn,LK]at h;cases h)];exact Jd hQ))
def aI(K:Fg)(a:μ):It :=
 ⟨λi H=>∃ xs x,SqL K H a xs/\xs[i]?≈x,λi H x H'=>H'=H/\∀ xs,SqL K H a xs->xs[i]?≈x,λi H=>∃ xs,SqL K H a xs/\↑xs<=i⟩
def aH(K:Fg)(a:μ):It :=
 ⟨λi H=>∃ xs x,AH K H a xs/\xs[i]?≈x,λi H x H'=>H'=H/\∀ xs,AH K H a xs->xs[i]?≈x,λi H=>∃ xs,AH K H a xs/\↑xs<=i⟩
def R7(lo:Int)(n:Nat):It:=⟨λi _=>i<n,λi H x H'=>H'=H/\x=.int (lo + i),λi _=>n<=i⟩
def jA{P:χ}{w:World}{K:Fg}{tg:Expr}(a it:μ):Ga P w K tg (aI K a) [it] it (λi h=>h.IsListIter it a i) where
 mem:=by simp
 obj:=λi h st b hb=>by
  have e:b=it:=by simpa using hb
  subst e;obtain⟨o,e,c,d⟩:=st;exact⟨o,e,λv z=>by rw[d]at z;cases z⟩
 keep:=λi h h' st k=>st.at λo e=>k it 1.1 o e
 item:=by
  intro X hP hw hK hc i ρ s σ H E I hf st hg;subst hP hw hK;obtain⟨xs,x,hq,hx⟩:=hg;obtain⟨ν,rv,p,hz⟩:=I.list hq;obtain⟨u,hu,ru⟩:=rv.get hx;obtain⟨f0,f1,f2,f3,f4,f5⟩:=hf it 1.1;refine wpAny_pyNext_list_item st p.isList (x:=u) (by simpa using hu) λh' B8 sb=>?_;have I1:Inv X ρ σ H {s with heap:=h' }:=I.turned (t':=s.toks) 9.5 f0 f1 f3 f4 f5;obtain⟨o,e,c,d⟩:=id B8;exact⟨u,Y,N5 (s:={s with heap:=h' }) e c d 0.2 ⟨x,H,I1,ru,⟨Y,λys hy=>by rw[I.list_inj hy hq];exact hx⟩,B8,λb hb=>(hf b hb).1⟩⟩
 done:=by
  intro X hP hw hK hc i ρ s σ H E I hf st hg;subst hP hw hK;obtain⟨xs,hq,hx⟩:=hg;obtain⟨ν,rv,p,hz⟩:=I.list hq;obtain⟨f0,f1,f2,f3,f4,f5⟩:=hf it 1.1;have hl:=↑rv;exact wpAny_pyNext_list_end 6.0 st p.isList (by simp;omega) λh' eb=>⟨Y,I.turned (t':=s.toks) 5.8 f0 f1 f3 f4 f5⟩
 self:=λ_ _ _ _ _ st h=>wpAny_pyIter_listiter st h
def jY{P:χ}{w:World}{K:Fg}{tg:Expr}(a it:μ):Ga P w K tg (aH K a) [it] it (λi h=>h.IsTupleIter it a i) where
 mem:=by simp
 obj:=λi h st b hb=>by
  have e:b=it:=by simpa using hb
  subst e;obtain⟨o,e,c,d⟩:=st;exact⟨o,e,λv z=>by rw[d]at z;cases z⟩
 keep:=λi h h' st k=>st.at λo e=>k it 1.1 o e
 item:=by
  intro X hP hw hK hc i ρ s σ H E I hf st hg;subst hP hw hK;obtain⟨xs,x,hq,hx⟩:=hg;obtain⟨ν,rv,p,hz⟩:=I.tuple hq;obtain⟨u,hu,ru⟩:=rv.get hx;obtain⟨f0,f1,f2,f3,f4,f5⟩:=hf it 1.1;refine wpAny_pyNext_tuple_item st (show s.heap.IsTuple a ν.toArray from p) (x:=u) (by simpa using hu) λh' B8 sb=>?_;have I1:Inv X ρ σ H {s with heap:=h' }:=I.turned (t':=s.toks) 9.5 f0 f1 f3 f4 f5;obtain⟨o,e,c,d⟩:=id B8;exact⟨u,Y,N5 (s:={s with heap:=h' }) e c d 0.2 ⟨x,H,I1,ru,⟨Y,λys hy=>by rw[I.tuple_inj hy hq];exact hx⟩,B8,λb hb=>(hf b hb).1⟩⟩
 done:=by
  intro X hP hw hK hc i ρ s σ H E I hf st hg;subst hP hw hK;obtain⟨xs,hq,hx⟩:=hg;obtain⟨ν,rv,p,hz⟩:=I.tuple hq;obtain⟨f0,f1,f2,f3,f4,f5⟩:=hf it 1.1;have hl:=↑rv;exact wpAny_pyNext_tuple_end 6.0 st (show s.heap.IsTuple a ν.toArray from p) (by simp;omega) λh' eb=>⟨Y,I.turned (t':=s.toks) 5.8 f0 f1 f3 f4 f5⟩
 self:=λ_ _ _ _ _ st h=>wpAny_pyIter_tupleiter st h
def ug{P:χ}{w:World}{K:Fg}{tg:Expr}(it:μ)(lo:Int)(n:Nat):Ga P w K tg (R7 lo n) [it] it (λi h=>IsRangeIter h it (lo + (i:Nat) * 1) ((n:Int) - (i:Nat)) 1) where
 mem:=by simp
 obj:=λi h st b hb=>by
  have e:b=it:=by simpa using hb
  subst e;exact⟨_,st,λv z=>by
   have z':Data.fields _=Data.cell v:=z;cases z'⟩
 keep:=λi h h' st k=>k it 1.1 _ st
 item:=by
  intro X hP hw hK hc i ρ s σ H E I hf st hg;subst hP hw hK;obtain⟨f0,f1,f2,f3,f4,f5⟩:=hf it 1.1;have W:=Walks.range (prog:=X.prog) (w:=X.w) 6.0 it lo 1 n;refine W.item i s _ _ hg st λv h' tk hv B8 kk=>?_;obtain⟨t,rfl⟩:=hv;have I1:Inv X ρ σ H {s with heap:=h',toks:=tk}:=I.turned (λb o hb e=>kk b o (by simpa using hb) e) f0 f1 f3 f4 f5;refine⟨Z,N5 (s:={s with heap:=h',toks:=tk}) (n:="range_iterator") B8 rfl rfl 0.2 ⟨.int (lo + i),H,I1,⟨t,?_⟩,⟨Y,Y⟩,B8,λb hb=>(hf b hb).1⟩⟩;rw[Int.mul_one]
 done:=by
  intro X hP hw hK hc i ρ s σ H E I hf st hg;subst hP hw hK;obtain⟨f0,f1,f2,f3,f4,f5⟩:=hf it 1.1;exact wpAny_pyNext_range_end 6.0 st (by have:n<=i:=hg;omega) λh' eb=>⟨Y,I.turned (t':=s.toks) 5.8 f0 f1 f3 f4 f5⟩
 self:=λ_ _ _ _ _ st h=>wpAny_pyIter_rangeiter st h
section
variable {X:Cx}{tg:Expr}
inductive lC(K:Fg)(R:It->Hp->Prop)(x:V)(H1:Hp):Prop
 | mk:∀ a,x=.ref a->(∃ xs,SqL K H1 a xs)->R (aI K a) H1->lC K R x H1
def Ybd(K:Fg)(tl:TE):TI:=λσ H R=>tl σ H λx H1=>lC K R x H1
inductive j5(K:Fg)(R:It->Hp->Prop)(x:V)(H1:Hp):Prop
 | mk:∀ a,x=.ref a->(∃ xs,AH K H1 a xs)->R (aH K a) H1->j5 K R x H1
def Ye5(K:Fg)(tl:TE):TI:=λσ H R=>tl σ H λx H1=>j5 K R x H1
def Ci{l:Expr}{tl:TE}(hl:PE X l tl):PI X tg l (Ybd X.K tl):=by
 intro ρ s σ H R I h;refine AK (hl ρ s σ H _ I h) λv s1 ⟨x,H1,I1,r1,q1⟩=>?_;obtain⟨a,e,⟨xs,hq⟩,q⟩:=q1;subst e;cases r1;obtain⟨ν,rv,p,hz⟩:=I1.list hq;refine wpAny_pyIter_list p.isList ?_;refine⟨⇑s1,[⇑s1],_,_,H1,Y,I1.kept (t':=s1.toks) λb o e=>Yb _ e,jA a _,⟨_,Yk _ rfl,Y,Y⟩,λb hb=>?_,q⟩;have e:b=⇑s1:=by simpa using hb
 subst e;exact I1.fpOk (Ye _) 11.3
def JB{l:Expr}{tl:TE}(hl:PE X l tl):PI X tg l (Ye5 X.K tl):=by
 intro ρ s σ H R I h;refine AK (hl ρ s σ H _ I h) λv s1 ⟨x,H1,I1,r1,q1⟩=>?_;obtain⟨a,e,⟨xs,hq⟩,q⟩:=q1;subst e;cases r1;obtain⟨ν,rv,p,hz⟩:=I1.tuple hq;refine wpAny_pyIter_tuple (show s1.heap.IsTuple a ν.toArray from p) ?_;refine⟨⇑s1,[⇑s1],_,_,H1,Y,I1.kept (t':=s1.toks) λb o e=>Yb _ e,jY a _,⟨_,Yk _ rfl,Y,Y⟩,λb hb=>?_,q⟩;have e:b=⇑s1:=by simpa using hb
 subst e;exact I1.fpOk (Ye _) 11.3
def rQ{ρ:PL}{σ:St}{H:Hp}{s:ε}{R:It->Hp->Prop}{E:EV}{lo hi:Int}{t u v:Tok}{tk:Nat}(I:Inv X ρ σ H s)(h1:-(2 ^ 62)<=lo)(h2:lo<2 ^ 62)(h3:-(2 ^ 62)<=hi)(h4:hi<2 ^ 62)
  (q:R (R7 lo (hi - lo).toNat) H):wpAny 0.3 X.A (pyIter (.ref ⇑s)) (aA X ρ σ tg R) E {s with heap:=s.heap.push {cls:=.type "range",data:=.fields #[.int lo t,.int hi u,.int 1 v] },toks:=tk}:=by
 refine wpAny_pyIter_range (IsRange.new ..) (small_one h1 h2 h3 h4) ?_;have I1:Inv X ρ σ H {s with heap:=s.heap.push {cls:=.type "range",data:=.fields #[.int lo t,.int hi u,.int 1 v] },toks:=tk}:=I.kept λb o e=>Yb _ e;refine⟨(s.heap.push {cls:=.type "range",data:=.fields #[.int lo t,.int hi u,.int 1 v] }).objs.size,[(s.heap.push {cls:=.type "range",data:=.fields #[.int lo t,.int hi u,.int 1 v] }).objs.size],_,_,H,Y,
  I1.kept (t':=tk) λb o e=>Yb _ e,ug _ lo (hi - lo).toNat,?_,λb hb=>?_,q⟩
 ·have e1:lo + ((0:Nat):Int) * 1=lo:=by simp
  have e2:(((hi - lo).toNat:Nat):Int) - ((0:Nat):Int)=Builtin.Range.rangeSize lo hi 1:=by rw[rangeSize_one];split <;> omega
  show IsRangeIter _ _ (lo + ((0:Nat):Int) * 1) ((((hi - lo).toNat:Nat):Int) - ((0:Nat):Int)) 1;rw[e1,e2];exact Yk _ rfl
 ·have e:b=(s.heap.push {cls:=.type "range",data:=.fields #[.int lo t,.int hi u,.int 1 v] }).objs.size:=by simpa using hb
  subst e;exact I1.fpOk (Ye _) 11.3
inductive lD(R:It->Hp->Prop)(vs:LV)(H1:Hp):Prop
 | mk:∀ j:Int,vs=[.int j]->-(2 ^ 62)<=j->j<2 ^ 62->R (R7 0 j.toNat) H1->lD R vs H1
def Ybc(ta:TA):TI:=λσ H R=>ta σ H λvs H1=>lD R vs H1
def MY{a:Expr}{ta:TA}{p pos:Pos}(hg:Gl X "range")(hm:X.mg "range"=none)(ha:PA X [a] ta)(hs:starEach [a] X.env=[(false,eval a X.env)]:=by rfl):PI X tg (.Call (.Name "range" p) [a] [] pos) (Ybc ta):=by
 intro ρ s σ H R I h;refine Call_ (K2 I hg hm boot_range (Oq (AK (ha pos ρ s σ H _ I h) λus s1 ⟨vs,H1,I1,r1,q1⟩=>?_) hs rfl));obtain⟨j,e,q1,q2,q⟩:=q1;subst e;cases r1 with
 | cons r rr =>
  cases rr;obtain⟨t,rfl⟩:=r;exact call_range_1 (rQ I1 0.0 0.0 q1 q2 (by simpa using q))
def Bq(wi:TI)(g:TG)(tb:TS):TS:=λD σ H=>wi σ H λJ H1=>∃ W:Nat->Nat->St->Hp->Prop,(∃ m,W 0 m σ H1)/\∀ i m σ H,W i m σ H ->
 (J.stop i H/\D.nx σ H)\/(J.go i H/\∃ N:SW,5.3/\∀ x H',J.yld i H x H'->g x σ H' λσ2 H2=>tb {D with nx:=N,ct:=N,bk:=D.nx} σ2 H2)
def QU(fp:ξ)(h:Heap):PL:=fp.filterMap λb=>(h.get? b).map λo=>(b,o)
def UW{fp:ξ}{h:Heap}{b:μ}{o:Obj}(hb:b∈fp)(e:h.get? b≈o):(b,o)∈QU fp h:=List.mem_filterMap.mpr ⟨b,hb,by rw[e];rfl⟩
def tS{fp:ξ}{h:Heap}{p:μ×Obj}(hp:p∈QU fp h):p.1∈fp/\h.get? p.1≈p.2:=by
 obtain⟨b,hb,e⟩:=List.mem_filterMap.mp hp;cases q:h.get? b with
 | none=>rw[q]at e;cases e
 | some o =>
  rw[q]at e;have e':(b,o)=p:=Yt e;subst e';exact⟨hb,q⟩
def Inv.pinned{ρ:PL}{σ:St}{H:Hp}{s:ε}{fp:ξ}(I:Inv X ρ σ H s)(hf:∀ b∈fp,Dc X ρ H b)(ho:∀ b∈fp,∃ o,s.heap.get? b≈o/\∀ v,o.data≠.cell v):Inv X (ρ++QU fp s.heap) σ H s :=
 I.pins_of λp hp=>(Yo.mp hp).elim (λz=>I.pin p (F5 _ z)) λz=>by
  obtain⟨hb,e⟩:=tS z;obtain⟨f0,f1,f2,_⟩:=hf p.1 hb;obtain⟨o,e',d⟩:=ho p.1 hb;rw[e]at e';cases e';exact⟨e,f0,f1,f2,d⟩
def Inv.unpinned{ρ pl:PL}{σ:St}{H:Hp}{s:ε}(I:Inv X (ρ++pl) σ H s):Inv X ρ σ H s:=I.pins_of λp hp=>I.pin p (F5 _ (LL _ hp))
def Be{iter:Expr}{body:List Stmt}{wi:TI}{g:TG}{tb:TS}{pos:Pos}(hp:PassesOwn 0.3 X.A X.env X.xe)(hc:X.calm=true)(hi:PI X tg iter wi)(hg:PG X tg g)(hb:CK X body tb)
  (hs:∀ x,foldedSetIterable iter X.env x=pure x:=by intro _;rfl):PS X (.For tg iter body [] pos) (Bq wi g tb):=by
 intro ρ s σ H D I h;refine wpAny_For (AK (hi ρ s σ H _ I h) λv s1 h1=>AK h1 λitv s2 h2=>?_) hs;obtain⟨it,fp,tn,J,H2,e,I2,T,PN,f2,W,⟨m0,w0⟩,turn⟩:=h2;subst e;have stat:∀ {H':Hp},13.5->∀ b∈fp,Dc X ρ H' b:=λhn b hb=>⟨hn b hb,(f2 b hb).2⟩;refine codeAny_forLoop_any (λn s'=>∃ i σ' H',Inv X ρ σ' H' s'/\tn i s'.heap/\13.5/\W i n σ' H') ?_ m0 ⟨0,σ,H2,I2,PN,λb hb=>(f2 b hb).1,w0⟩;rintro n s3 ⟨i,σ3,H3,I3,PM,P8,w3⟩
 rcases turn i n σ3 H3 w3 with⟨stop,qn⟩ | ⟨go,N,hN,step⟩
 ·refine wpAny_passesOwn hp (AK (T.done X rfl rfl rfl hc i ρ s3 σ3 H3 X.xe I3 (stat P8) PM stop) λr s4 ⟨hr,I4⟩=>?_);subst hr;exact wpAny_execs_nil ⟨σ3,H3,I4,qn⟩
 ·refine wpAny_passesOwn hp (AK (T.item X rfl rfl rfl hc i ρ s3 σ3 H3 X.xe I3 (stat P8) PM go) λr s4 ⟨u,hr,h4⟩=>?_);subst hr;refine wpAny_passesOwn hp (AK h4 λ_ s5 ⟨x,H5,I5,r5,y5,Ld,WU⟩=>?_);have aK:=I5.pinned (stat WU) (T.obj _ _ Ld);refine wpAny_passesOwn hp (AK (hg _ s5 σ3 H5 x u _ aK r5 (step x H5 y5)) λ_ s6 ⟨σ6,H6,I6,q6⟩=>?_);refine wpAny_passesOwn hp (AK (hb _ s6 σ6 H6 _ I6 q6) λf s7 q7=>?_);have again:∀ {σ7:St} {H7:Hp},Inv X (ρ++QU fp s5.heap) σ7 H7 s7->N σ7 H7->∃ m,m<n/\∃ i σ' H',Inv X ρ σ' H' s7/\tn i s7.heap/\13.5/\W i m σ' H':=λ{σ7 H7} I7 n7=>by
   obtain⟨m',hm,w7⟩:=hN σ7 H7 n7;refine⟨m',hm,i + 1,σ7,H7,I7.unpinned,T.keep _ _ _ Ld λb hb o e=>(I7.pin (b,o) (F5 _ (F5 _ (UW hb e)))).1,λb hb=>?_,w7⟩;obtain⟨o,e,d⟩:=T.obj _ _ Ld b hb;exact(I7.pin (b,o) (F5 _ (F5 _ (UW hb e)))).2.1
  cases f with
  | next=>obtain⟨σ7,H7,I7,n7⟩:=q7;exact again I7 n7
  | cont=>obtain⟨σ7,H7,I7,n7⟩:=q7;exact again I7 n7
  | brk=>obtain⟨σ7,H7,I7,q7⟩:=q7;exact⟨σ7,H7,I7.unpinned,q7⟩
  | ret v=>obtain⟨x7,σ7,H7,I7,r7,q7⟩:=q7;exact⟨x7,σ7,H7,I7.unpinned,r7,q7⟩
end
abbrev R2:=V->V->Hp->VK->Prop
def Bd(X:Cx)(f:δ->δ->Sem δ)(r:R2):Prop :=
 ∀(ρ:PL) (s:ε) (σ:St) (H:Hp) (x y:V) (v u:δ) (Q:VK),Inv X ρ σ H s->Aj x v->Aj y u->r x y H Q ->
  wpAny 0.3 X.A (f v u) 6.8 X.xe s
def Z8(X:Cx)(f:δ->Sem δ)(r:V->Hp->VK->Prop):Prop :=
 ∀(ρ:PL) (s:ε) (σ:St) (H:Hp) (x:V) (v:δ) (Q:VK),Inv X ρ σ H s->Aj x v->r x H Q ->
  wpAny 0.3 X.A (f v) 6.8 X.xe s
def FV(X:Cx)(f:δ)(r:LV->Hp->VK->Prop):Prop :=
 ∀(ρ:PL) (s:ε) (σ:St) (H:Hp) (xs:LV) (us:LU) (Q:VK),Inv X ρ σ H s->Aa xs us->r xs H Q ->
  wpAny 0.3 X.A (call f us) 6.8 X.xe s
def zw(X:Cx)(r:V->Hp->(Bool->Hp->Prop)->Prop):Prop :=
 ∀(ρ:PL) (s:ε) (σ:St) (H:Hp) (x:V) (v:δ) (Q:Bool->Hp->Prop),Inv X ρ σ H s->Aj x v->r x H Q ->
  wpAny 0.3 X.A (truthy v) (TP X ρ σ Q) X.xe s
def PJ(r:R2)(ta tb:TE):TE:=λσ H Q=>ta σ H λx H1=>tb σ H1 λy H2=>r x y H2 Q
def oQ(r:V->Hp->VK->Prop)(ta:TE):TE:=λσ H Q=>ta σ H λx H1=>r x H1 Q
inductive rI(C:Int->Int->Prop)(g:Int->Int->V)(x:V)(y:V)(H:Hp)(Q:VK):Prop
 | mk:∀ i j,x=.int i->y=.int j->C i j->Q (g i j) H->rI C g x y H Q
inductive JO(g:Int->Int->V)(x:V)(y:V)(H:Hp)(Q:VK):Prop
 | mk:∀ i j,x=.int i->y=.int j->Q (g i j) H->JO g x y H Q
inductive rU(g:Int->V)(x:V)(H:Hp)(Q:VK):Prop
 | mk:∀ i,x=.int i->Q (g i) H->rU g x H Q
section
variable {X:Cx}{a b c:Expr}{ta tb tc:TE}{pos:Pos}
def Zy(ha:PE X a ta)(hb:PE X b tb){ρ:PL}{s:ε}{σ:St}{H:Hp}{R:V->V->Hp->Prop}(I:Inv X ρ σ H s)
  (h:ta σ H λx H1=>tb σ H1 λy H2=>R x y H2) {Q:EV} {f:δ->δ->Sem δ}
  (hf:∀ v u s2 x y H2,Inv X ρ σ H2 s2->Aj x v->Aj y u->R x y H2->wpAny 0.3 X.A (f v u) Q X.xe s2):
  wpAny 0.3 X.A (eval a X.env) (λv s₁=>wpAny 0.3 X.A (eval b X.env) (λu s₂=>wpAny 0.3 X.A (f v u) Q X.xe s₂) X.xe s₁) X.xe s:=by
 refine AK (ha ρ s σ H _ I h) λv s1 ⟨x,H1,I1,r1,q1⟩=>?_;refine AK (hb ρ s1 σ H1 _ I1 q1) λu s2 ⟨y,H2,I2,r2,q2⟩=>?_;exact hf v u s2 x y H2 I2 r1 r2 q2
def Ar{op:Operator}{r:R2}(ho:Bd X (binaryOp op) r)(ha:PE X a ta)(hb:PE X b tb):PE X (.BinOp a op b pos) (PJ r ta tb):=by
 ac_rfl;exact wpAny_BinOp (Zy ha hb I h λv u s2 x y H2 I2 rx ry q=>ho ρ s2 σ H2 x y v u Q I2 rx ry q)
def QJ{op:UnaryOp}{r:V->Hp->VK->Prop}(ho:Z8 X (unaryOp op) r)(ha:PE X a ta):PE X (.UnaryOp op a pos) (oQ r ta):=by
 ac_rfl;exact UnaryOp_ (AK (ha ρ s σ H _ I h) λv s1 ⟨x,H1,I1,r1,q1⟩=>ho ρ s1 σ H1 x v Q I1 r1 q1)
def Ng{f:δ->δ->Sem δ}{C:Int->Int->Prop}{g:Int->Int->Int}
  (rule:∀(i j:Int) (t u:Tok) (s:ε) (Q:EV) (E:EV),C i j->Q (.int (g i j) s.toks) {s with toks:=s.toks + 1}->wpAny 0.3 X.A (f (.int i t) (.int j u)) Q E s):
  Bd X f (rI C λi j=>.int (g i j)):=by
 exfalso;obtain⟨i,j,rfl,rfl,hc,q⟩:=h;obtain⟨t,rfl⟩:=rx;obtain⟨t',rfl⟩:=ry;exact rule i j t t' s _ _ hc ⟨.int (g i j),H,I.tok _,⟨Z⟩,q⟩
def nC{f:δ->δ->Sem δ}{g:Int->Int->Int}
  (rule:∀(i j:Int) (t u:Tok) (s:ε) (Q:EV) (E:EV),Q (.int (g i j) s.toks) {s with toks:=s.toks + 1}->wpAny 0.3 X.A (f (.int i t) (.int j u)) Q E s):
  Bd X f (JO λi j=>.int (g i j)):=by
 exfalso;obtain⟨i,j,rfl,rfl,q⟩:=h;obtain⟨t,rfl⟩:=rx;obtain⟨t',rfl⟩:=ry;exact rule i j t t' s _ _ ⟨.int (g i j),H,I.tok _,⟨Z⟩,q⟩
def U_{f:δ->δ->Sem δ}{g:Int->Int->Bool}
  (rule:∀(i j:Int) (t u:Tok) (s:ε) (Q:EV) (E:EV),Q (.bool (g i j)) s->wpAny 0.3 X.A (f (.int i t) (.int j u)) Q E s):
  Bd X f (JO λi j=>.bl (g i j)):=by
 exfalso;obtain⟨i,j,rfl,rfl,q⟩:=h;obtain⟨t,rfl⟩:=rx;obtain⟨t',rfl⟩:=ry;exact rule i j t t' s _ _ ⟨.bl (g i j),H,I,Y,q⟩
def zq(i j:Int):Prop:=0<j/\j<1073741824
def zr(i j:Int):Prop:=0<=j/\j<=1000000/\i.natAbs<2 ^ 64
def Z2(i j:Int):Prop:=(-(2 ^ 64)<i/\i<2 ^ 64)\/(-(2 ^ 64)<j/\j<2 ^ 64)
def Z2.ok{i j:Int}(h:Z2 i j):IntMulOk i j:=by
 rcases h with⟨h1,h2⟩ | ⟨h1,h2⟩
 ·exact .of_left (intBits_le_64 h1 h2)
 ·exact .of_right (intBits_le_64 h1 h2)
def Ku:Bd X (binaryOp .Add) (JO λi j=>.int (i + j)):=nC λ_ _ _ _ _ _ _ q=>add_int q
def xA:Bd X (binaryOp .Sub) (JO λi j=>.int (i - j)):=nC λ_ _ _ _ _ _ _ q=>sub_int q
def To:Bd X (binaryOp .Mult) (rI Z2 λi j=>.int (i * j)):=Ng λ_ _ _ _ _ _ _ hc q=>mul_int q hc.ok
def gA:Bd X (binaryOp .FloorDiv) (rI zq λi j=>.int (i / j)):=Ng λi j _ _ _ _ _ hc q=>by
 have h1:(0:Int)<j:=hc.1;have h2:j<1073741824:=hc.2;exact floordiv_int 0.0 (by rw[Int.fdiv_eq_ediv_of_nonneg i 0.0];exact q) (.inl (PyProof.noPylong_small 0.0))
def Kv:Bd X (binaryOp .Mod) (rI (λ_ j=>0<j) λi j=>.int (i % j)):=Ng λi j _ _ _ _ _ hc q=>by
 have h1:(0:Int)<j:=hc;exact mod_int' 0.0 (by rw[Int.fmod_eq_emod_of_nonneg i 0.0];exact q)
def OA:Bd X (binaryOp .Pow) (rI zr λi j=>.int (i ^ j.toNat)):=Ng λ_ _ _ _ _ _ _ hc q=>pow_int_small hc.1 hc.2.1 hc.2.2 q
def oM{f:δ->Sem δ}{g:Int->Int}
  (rule:∀(i:Int) (t:Tok) (s:ε) (Q:EV) (E:EV),Q (.int (g i) s.toks) {s with toks:=s.toks + 1}->wpAny 0.3 X.A (f (.int i t)) Q E s):
  Z8 X f (rU λi=>.int (g i)):=by
 intro ρ s σ H x v Q I rx h;obtain⟨i,rfl,q⟩:=h;obtain⟨t,rfl⟩:=rx;exact rule i t s _ _ ⟨.int (g i),H,I.tok _,⟨Z⟩,q⟩
def Qc:Z8 X (unaryOp .USub) (rU λi=>.int (-i)):=oM λ_ _ _ _ _ q=>neg_int q
end
def nQ:V->V->Bool
 | .non,.non=>true | .non,.int _=>true | .int _,.non=>true | .non,.bl _=>true | .bl _,.non=>true | .non,.str _=>true | .str _,.non=>true
 | .int _,.int _=>true | .bl _,.bl _=>true | .str _,.str _=>true | .byt _,.byt _=>true
 | .int _,.str _=>true | .str _,.int _=>true | .bl _,.str _=>true | .str _,.bl _=>true
 | _,_=>false
def oo:R2:=λx y H Q=>nQ x y=true/\Q (.bl (decide (x=y))) H
def om:R2:=λx y H Q=>nQ x y=true/\Q (.bl (!decide (x=y))) H
def fO{i j:Int}:decide (V.int i=V.int j)=(i == j):=by
 rw[J9];simp
def kj{i j:Bool}:decide (V.bl i=V.bl j)=(i == j):=by
 rw[J9];simp
def fQ{i j:Str}:decide (V.str i=V.str j)=(i == j):=by
 rw[J9];simp
def fJ{i j:Array UInt8}:decide (V.byt i=V.byt j)=(i.toList == j.toList):=by
 rw[J9];cases i;cases j;simp
section
variable {X:Cx}{a b c:Expr}{ta tb tc:TE}{pos:Pos}
def Bg{ρ:PL}{σ:St}{H:Hp}{s:ε}{Q:VK}{k k':Bool}(I:Inv X ρ σ H s)(q:Q (.bl k) H)(e:k=k'):EP X ρ σ Q (.bool k') s:=by
 subst e;exact⟨.bl k,H,I,Y,q⟩
def BS:Bd X (compareOp .Eq) oo:=by
 exfalso;obtain⟨hs,q⟩:=h;cases x with
 | non =>
  cases rx;cases y with
  | non=>cases ry;exact PySem.EqNone.eq_none_none 5.5
  | bl j=>cases ry;exact PySem.EqNone.eq_none_bool 5.5
  | int j=>obtain⟨t',rfl⟩:=ry;exact PySem.EqNone.eq_none_int 5.5
  | str j=>obtain⟨t',rfl⟩:=ry;exact PySem.EqNone.eq_none_str 5.5
  | _=>exact absurd 3.9 Yl
 | bl i =>
  cases rx;cases y with
  | non=>cases ry;exact PySem.EqNone.eq_bool_none 5.5
  | bl j=>cases ry;exact eq_bool (Bg I q kj)
  | str j=>obtain⟨t',rfl⟩:=ry;exact PySem.EqMixed.eq_bool_str 5.5
  | _=>exact absurd 3.9 Yl
 | int i =>
  obtain⟨t,rfl⟩:=rx;cases y with
  | non=>cases ry;exact PySem.EqNone.eq_int_none 5.5
  | int j=>obtain⟨t',rfl⟩:=ry;exact eq_int (Bg I q fO)
  | str j=>obtain⟨t',rfl⟩:=ry;exact PySem.EqMixed.eq_int_str 5.5
  | _=>exact absurd 3.9 Yl
 | str i =>
  obtain⟨t,rfl⟩:=rx;cases y with
  | non=>cases ry;exact PySem.EqNone.eq_str_none 5.5
  | bl j=>cases ry;exact PySem.EqMixed.eq_str_bool 5.5
  | int j=>obtain⟨t',rfl⟩:=ry;exact PySem.EqMixed.eq_str_int 5.5
  | str j=>obtain⟨t',rfl⟩:=ry;exact eq_str (Bg I q fQ)
  | _=>exact absurd 3.9 Yl
 | byt i =>
  obtain⟨t,rfl⟩:=rx;cases y with
  | byt j=>obtain⟨t',rfl⟩:=ry;exact W.eq_bytes (Bg I q fJ)
  | _=>exact absurd 3.9 Yl
 | _=>cases y <;> exact absurd 3.9 Yl
def QI:Bd X (compareOp .NotEq) om:=by
 exfalso;obtain⟨hs,q⟩:=h;cases x with
 | non =>
  cases rx;cases y with
  | non=>cases ry;exact PySem.EqNone.ne_none_none 5.5
  | bl j=>cases ry;exact PySem.EqNone.ne_none_bool 5.5
  | int j=>obtain⟨t',rfl⟩:=ry;exact PySem.EqNone.ne_none_int 5.5
  | str j=>obtain⟨t',rfl⟩:=ry;exact PySem.EqNone.ne_none_str 5.5
  | _=>exact absurd 3.9 Yl
 | bl i =>
  cases rx;cases y with
  | non=>cases ry;exact PySem.EqNone.ne_bool_none 5.5
  | bl j=>cases ry;exact ne_bool (Bg I q (congrArg not kj))
  | str j=>obtain⟨t',rfl⟩:=ry;exact PySem.EqMixed.ne_bool_str 5.5
  | _=>exact absurd 3.9 Yl
 | int i =>
  obtain⟨t,rfl⟩:=rx;cases y with
  | non=>cases ry;exact PySem.EqNone.ne_int_none 5.5
  | int j=>obtain⟨t',rfl⟩:=ry;exact ne_int (Bg I q (congrArg not fO))
  | str j=>obtain⟨t',rfl⟩:=ry;exact PySem.EqMixed.ne_int_str 5.5
  | _=>exact absurd 3.9 Yl
 | str i =>
  obtain⟨t,rfl⟩:=rx;cases y with
  | non=>cases ry;exact PySem.EqNone.ne_str_none 5.5
  | bl j=>cases ry;exact PySem.EqMixed.ne_str_bool 5.5
  | int j=>obtain⟨t',rfl⟩:=ry;exact PySem.EqMixed.ne_str_int 5.5
  | str j=>obtain⟨t',rfl⟩:=ry;exact ne_str (Bg I q (congrArg not fQ))
  | _=>exact absurd 3.9 Yl
 | byt i =>
  obtain⟨t,rfl⟩:=rx;cases y with
  | byt j=>obtain⟨t',rfl⟩:=ry;exact W.ne_bytes (Bg I q (congrArg not fJ))
  | _=>exact absurd 3.9 Yl
 | _=>cases y <;> exact absurd 3.9 Yl
def L_:Bd X (compareOp .Lt) (JO λi j=>.bl (decide (i<j))):=U_ λ_ _ _ _ _ _ _ q=>lt_int q
def Iz:Bd X (compareOp .LtE) (JO λi j=>.bl (decide (i<=j))):=U_ λ_ _ _ _ _ _ _ q=>le_int q
def FC:Bd X (compareOp .Gt) (JO λi j=>.bl (decide (j<i))):=U_ λ_ _ _ _ _ _ _ q=>gt_int q
def Yav:Bd X (compareOp .GtE) (JO λi j=>.bl (decide (j<=i))):=U_ λ_ _ _ _ _ _ _ q=>ge_int q
def iw:Bd X (compareOp .In) (λx y H Q=>∃ i j,x=.str i/\y=.str j/\Q (.bl (!(Builtin.Str.occurrences j i 0 ↑j 1).isEmpty)) H):=by
 exfalso;obtain⟨i,j,rfl,rfl,q⟩:=h;obtain⟨t,rfl⟩:=rx;obtain⟨t',rfl⟩:=ry;exact in_str (Bg I q rfl)
def Tn:Bd X (compareOp .Is) (λx y H Q=>y=.non/\Q (.bl (decide (x=.non))) H):=by
 exfalso;obtain⟨rfl,q⟩:=h;cases ry;refine is_none_gen (Bg I q ?_);cases x <;> first
  | (cases rx;rfl)
  | (obtain⟨t,rfl⟩:=rx;rfl)
def yr:Bd X (compareOp .IsNot) (λx y H Q=>y=.non/\Q (.bl (!decide (x=.non))) H):=by
 exfalso;obtain⟨rfl,q⟩:=h;cases ry;refine isnot_none_gen (Bg I q ?_);cases x <;> first
  | (cases rx;rfl)
  | (obtain⟨t,rfl⟩:=rx;rfl)
def Ad(b:Expr){op:CmpOp}(h:op≠.In:=by decide)(h2:op≠.NotIn:=by decide):behindInMarks op b=false:=by
 have e1:(op == CmpOp.In)=false:=by cases op <;> first | rfl | exact absurd rfl h
 have e2:(op == CmpOp.NotIn)=false:=by cases op <;> first | rfl | exact absurd rfl h2
 cases b <;> simp[behindInMarks,e1,e2]
def DV{op:CmpOp}{r:R2}(ho:Bd X (compareOp op) r)(ha:PE X a ta)(hb:PE X b tb)(hm:behindInMarks op b=false):PE X (.Compare a [op] [b] pos) (PJ r ta tb):=by
 ac_rfl;exact wpAny_Compare1 (Zy ha hb I h λv u s2 x y H2 I2 rx ry q=>ho ρ s2 σ H2 x y v u Q I2 rx ry q) hm
inductive lR(Q:Bool->Hp->Prop)(x:V)(H':Hp):Prop
 | mk:∀ k,x=.bl k->Q k H'->lR Q x H'
def kS(t:TE):TT:=λσ H Q=>t σ H λx H'=>lR Q x H'
def Ae{op:CmpOp}{r:R2}(ho:Bd X (compareOp op) r)(ha:PE X a ta)(hb:PE X b tb)(hm:behindInMarks op b=false):PT X (.Compare a [op] [b] pos) (kS (PJ r ta tb)):=by
 ac_rfl;refine wpAny_isTrue_Compare1 (AK (ha ρ s σ H _ I h) λv s1 ⟨x,H1,I1,r1,q1⟩=>AK (hb ρ s1 σ H1 _ I1 q1) λu s2 ⟨y,H2,I2,r2,q2⟩ =>
  AK (ho ρ s2 σ H2 x y v u _ I2 r1 r2 q2) λc s3 ⟨z,H3,I3,r3,k,e,q3⟩=>?_) hm
 subst e;cases r3;exact Jh ⟨H3,I3,q3⟩
inductive gM(r':R2)(tc:TE)(σ:St)(Q:VK)(y:V)(z:V)(H3:Hp):Prop
 | mk:∀ k,z=.bl k->(if k=true then tc σ H3 λw' H4=>r' y w' H4 Q else Q (.bl false) H3)->gM r' tc σ Q y z H3
def lN(r r':R2)(ta tb tc:TE):TE:=λσ H Q=>ta σ H λx H1=>tb σ H1 λy H2=>r x y H2 λz H3=>gM r' tc σ Q y z H3
def rG{op Lg:CmpOp}{r r':R2}(ho:Bd X (compareOp op) r)(Hb:Bd X (compareOp Lg) r')(ha:PE X a ta)(hb:PE X b tb)(hc:PE X c tc)
  (hm:lastMarks [op,Lg] [b,c]=false:=by with_unfolding_all rfl):PE X (.Compare a [op,Lg] [b,c] pos) (lN r r' ta tb tc):=by
 ac_rfl;refine Compare_chain (AK (ha ρ s σ H _ I h) λv s1 ⟨x,H1,I1,r1,q1⟩=>chain_link (AK (hb ρ s1 σ H1 _ I1 q1) λu s2 ⟨y,H2,I2,r2,q2⟩ =>
  AK (ho ρ s2 σ H2 x y v u _ I2 r1 r2 q2) λd s3 ⟨z,H3,I3,r3,k,e,q3⟩=>?_)) hm
 subst e;cases r3;refine Jh ?_;cases k with
 | false=>exact ite_ff ⟨.bl false,H3,I3,Y,q3⟩
 | true=>exact ite_tt (chain_last (AK (hc ρ s3 σ H3 _ I3 q3) λw' s4 ⟨z',H4,I4,r4,q4⟩=>Hb ρ s4 σ H4 y z' u w' Q I4 r2 r4 q4))
def Qv{op Lg:CmpOp}{r r':R2}(ho:Bd X (compareOp op) r)(Hb:Bd X (compareOp Lg) r')(ha:PE X a ta)(hb:PE X b tb)(hc:PE X c tc)
  (hm:lastMarks [op,Lg] [b,c]=false:=by with_unfolding_all rfl):PT X (.Compare a [op,Lg] [b,c] pos) (kS (lN r r' ta tb tc)):=by
 ac_rfl;refine isTrue_chain (AK (ha ρ s σ H _ I h) λv s1 ⟨x,H1,I1,r1,q1⟩=>test_link (AK (hb ρ s1 σ H1 _ I1 q1) λu s2 ⟨y,H2,I2,r2,q2⟩ =>
  AK (ho ρ s2 σ H2 x y v u _ I2 r1 r2 q2) λd s3 ⟨z,H3,I3,r3,k,e,q3⟩=>?_)) hm
 subst e;cases r3;refine Jh ?_;cases k with
 | false =>
  obtain⟨k',e',q'⟩:=q3;cases e';exact ite_ff ⟨H3,I3,q'⟩
 | true =>
  refine ite_tt (test_last (AK (hc ρ s3 σ H3 _ I3 q3) λw' s4 ⟨z',H4,I4,r4,q4⟩=>AK (Hb ρ s4 σ H4 y z' u w' _ I4 r2 r4 q4) λd' s5 ⟨z2,H5,I5,r5,k2,e2,q5⟩=>?_));subst e2;cases r5;exact Jh ⟨H5,I5,q5⟩
def nK(K:Fg)(x:V)(H:Hp)(k:Bool):Prop :=
 match x with
 | .non=>k=false
 | .bl b=>k=b
 | .int i=>k=(i != 0)
 | .str y=>↑y<=sizeLine/\k=((↑y:Int) != 0)
 | .byt y=>y.size<=sizeLine/\k=((y.size:Int) != 0)
 | .ref p=>(∃ xs,SqL K H p xs/\k=!xs.isEmpty)\/(∃ xs,AH K H p xs/\k=!xs.isEmpty)\/∃ π,H p≈(.dK π)/\k=!π.isEmpty
 | _=>False
def uH{κ:Type}{π:List (κ×V)}{vs:List (κ×δ)}(r:KV π vs):(!vs.isEmpty)=!π.isEmpty:=by
 cases r <;> rfl
def jO{xs:LV}{ν:LU}(r:Aa xs ν):(!ν.toArray.isEmpty)=!xs.isEmpty:=by
 cases r <;> simp
def ME:(sizeLine:Nat)<2 ^ 63:=by rw[sizeLine_eq];decide
def x_:zw X (λx H Q=>∃ k,nK X.K x H k/\Q k H):=by
 intro ρ s σ H x v Q I rx h;obtain⟨k,e,q⟩:=h;have hl:=ME;have hs:sizeLine=16777216:=sizeLine_eq;cases x with
 | non =>
  cases rx;have e':k=false:=e;subst e';exact truthy_none ⟨H,I,q⟩
 | bl b =>
  cases rx;have e':k=b:=e;subst e';exact Jh ⟨H,I,q⟩
 | int i =>
  obtain⟨t,rfl⟩:=rx;have e':k=(i != 0):=e;subst e';exact PySem.P.truthy_int ⟨H,I,q⟩
 | str y =>
  obtain⟨t,rfl⟩:=rx;obtain⟨hy,e'⟩:↑y<=sizeLine/\k=((↑y:Int) != 0):=e;subst e';exact PySem.P.truthy_str 0.0 ⟨H,I.tok _,q⟩
 | byt y =>
  obtain⟨t,rfl⟩:=rx;obtain⟨hy,e'⟩:y.size<=sizeLine/\k=((y.size:Int) != 0):=e;subst e';exact W.truthy_bytes 0.0 ⟨H,I.tok _,q⟩
 | ref p =>
  cases rx;have e':(∃ xs,SqL X.K H p xs/\k=!xs.isEmpty)\/(∃ xs,AH X.K H p xs/\k=!xs.isEmpty)\/∃ π,H p≈(.dK π)/\k=!π.isEmpty:=e
  rcases e' with⟨xs,hx,e'⟩ | ⟨xs,hx,e'⟩ | ⟨π,hx,e'⟩
  ·subst e';obtain⟨ν,r,pl,hz⟩:=I.list hx;have hlen:=↑r;exact wpAny_truthy_list pl.isList (by simp only[Yj];omega) ⟨H,I.tok _,by rw[jO r];exact q⟩
  ·subst e';obtain⟨ν,r,pl,hz⟩:=I.tuple hx;have hlen:=↑r;exact truthy_tuple pl (by simp only[Yj];omega) ⟨H,I.tok _,by rw[jO r];exact q⟩
  ·subst e';obtain⟨hz,hS,vs,r,m⟩:↑π<=sizeLine/\(p == sysModules)=false/\∃ vs,KV π vs/\s.heap.DictOf (CP X.prog X.w) p vs:=I.hok p _ hx;have hlen:↑π=↑vs:=Yi r;exact wpAny_truthy_dict hS m 0.0 ⟨H,I.tok _,by rw[uH r];exact q⟩
 | _=>exact(show False from e).elim
def Qw(ha:PE X a ta)(he:∀ whole,isTrue a X.env whole=(do let v <- whole;standAt a.pos;holding [v] (truthy v))):
  PT X a (λσ H Q=>ta σ H λx H'=>∃ k,nK X.K x H' k/\Q k H'):=by
 ac_rfl;exact isTrue_plain (AK (ha ρ s σ H _ I h) λv s1 ⟨x,H1,I1,r1,q1⟩=>x_ ρ s1 σ H1 x v Q I1 r1 q1) (he _)
def Dr:Bd X (binaryOp .Add) (λx y H Q=>∃ i j,x=.str i/\y=.str j/\↑i + ↑j<=sizeLine/\Q (.str (i++j)) H):=by
 exfalso;obtain⟨i,j,rfl,rfl,hz,q⟩:=h;obtain⟨t,rfl⟩:=rx;obtain⟨t',rfl⟩:=ry;exact add_str (λt' tk=>⟨.str (i++j),H,I.tok _,⟨Z⟩,q⟩) hz
def Hn{x:V}{us:LU}(r:Aa [x] us):∃ u,us=[u]/\Aj x u:=by
 cases r with
 | cons r1 r2=>cases r2;exact⟨Z,r1⟩
def Zk{x y:V}{us:LU}(r:Aa [x,y] us):∃ u w',us=[u,w']/\Aj x u/\Aj y w':=by
 cases r with
 | cons r1 r2 =>
  cases r2 with
  | cons r3 r4=>cases r4;exact⟨_,Z,r1,r3⟩
def rq(hc:X.calm=true):FV X (.builtin "min") (λxs H Q=>∃ i j,xs=[.int i,.int j]/\Q (.int (if j<i then j else i)) H):=by
 intro ρ s σ H xs us Q I r h;obtain⟨i,j,rfl,q⟩:=h;obtain⟨u,w',rfl,⟨t,rfl⟩,⟨t',rfl⟩⟩:=Zk r;refine min_two_ints 6.0 λh' tk k=>⟨_,H,I.kept k,?_,q⟩;by_cases hj:j<i
 ·rw[if_pos hj,if_pos hj];exact⟨Z⟩
 ·rw[if_neg hj,if_neg hj];exact⟨Z⟩
def YB:FV X (.type "int") (λxs H Q=>(∃ i,xs=[.int i]/\Q (.int i) H)\/∃ k,xs=[.bl k]/\Q (.int (if k then 1 else 0)) H):=by
 intro ρ s σ H xs us Q I r h
 rcases h with⟨i,rfl,q⟩ | ⟨k,rfl,q⟩
 ·obtain⟨u,rfl,t,rfl⟩:=Hn r;exact call_int_int ⟨.int i,H,I,⟨Z⟩,q⟩
 ·obtain⟨u,rfl,r1⟩:=Hn r;cases r1;exact call_int_bool ⟨.int (if k then 1 else 0),H,I.tok _,⟨Z⟩,q⟩
def jh:FV X (.type "str") (λxs H Q=>∃ i,xs=[.int i]/\i.natAbs.log2<1920/\Q (.str (toString i)) H):=by
 intro ρ s σ H xs us Q I r h;obtain⟨i,rfl,hz,q⟩:=h;obtain⟨u,rfl,t,rfl⟩:=Hn r;exact PySem.P.str_of_int hz ⟨.str _,H,I.tok _,⟨Z⟩,q⟩
def l_(K:Fg)(x:V)(H:Hp)(n:Nat):Prop :=
 match x with
 | .str y=>↑y<=sizeLine/\n=↑y
 | .byt y=>y.size<=sizeLine/\n=y.size
 | .ref p=>(∃ xs,SqL K H p xs/\n=↑xs)\/∃ xs,AH K H p xs/\n=↑xs
 | _=>False
def EC:FV X (.builtin "len") (λxs H Q=>∃ x n,xs=[x]/\l_ X.K x H n/\Q (.int n) H):=by
 intro ρ s σ H xs us Q I r h;obtain⟨x,n,rfl,e,q⟩:=h;obtain⟨u,rfl,rx⟩:=Hn r;have hl:=ME;have hs:sizeLine=16777216:=sizeLine_eq;cases x with
 | str y =>
  obtain⟨t,rfl⟩:=rx;obtain⟨hy,e'⟩:↑y<=sizeLine/\n=↑y:=e;subst e';exact len_str 0.0 ⟨.int _,H,I.tok _,⟨Z⟩,q⟩
 | byt y =>
  obtain⟨t,rfl⟩:=rx;obtain⟨hy,e'⟩:y.size<=sizeLine/\n=y.size:=e;subst e';exact W.len_bytes 0.0 ⟨.int _,H,I.tok _,⟨Z⟩,q⟩
 | ref p =>
  cases rx;have e':(∃ xs,SqL X.K H p xs/\n=↑xs)\/∃ xs,AH X.K H p xs/\n=↑xs:=e
  rcases e' with⟨xs,hx,e'⟩ | ⟨xs,hx,e'⟩
  ·subst e';obtain⟨ν,r',pl,hz⟩:=I.list hx;have hlen:=↑r';exact Calls.call_len_list pl.isList (by simp only[Yj];omega) ⟨.int ↑xs,H,I.tok _,⟨_,by simp only[Yj];rw[hlen]⟩,q⟩
  ·subst e';obtain⟨ν,r',pl,hz⟩:=I.tuple hx;have hlen:=↑r';exact len_tuple pl (by simp only[Yj];omega) ⟨.int ↑xs,H,I.tok _,⟨_,by simp only[Yj];rw[hlen]⟩,q⟩
 | _=>exact(show False from e).elim
end
structure Mf(h:Heap)(x dx C:μ)(mA:Str->OU):Prop where
 obj:h.get? x≈(W.instObj C dx)
 ns:h.Ns1 dx mA
 ne:dx≠x
def ig{h:Heap}{dx:μ}{mA:Str->OU}(n:h.Ns1 dx mA):∃ od,h.get? dx≈od/\∀ name,W.lookIn name od≈(mA name):=by
 obtain⟨o,es,ep,ho,hd,hk,_,hm⟩:=n;refine⟨o,ho,λname=>?_⟩;have e:=hm name;unfold nsFind findBy at e;rw[<- Array.find?_toList]at e;unfold W.lookIn;rw[hd];dsimp only;split
 ·rename_i y q
  rw[q]at e;exact congrArg some e
 ·rename_i q
  rw[q]at e;have a:es.toList.any (·.refKey)=false:=by
   rw[List.any_eq_false];intro y hy;obtain⟨z,t,hkey⟩:=hk y (Array.mem_toList_iff.mp hy);simp[DictEntry.refKey,hkey]
  have a':¬ es.toList.any (·.refKey)=true:=by rw[a];exact Yl
  rw[if_neg a'];exact congrArg some e
def Mf.look{h:Heap}{x dx C:μ}{mA:Str->OU}(I:Mf h x dx C mA):∃ od,W.InstAt h x (W.instObj C dx) C (↥od)/\∀ name,W.lookIn name od≈(mA name):=
 let⟨od,ho,hl⟩:=ig I.ns
 ⟨od,⟨I.obj,Y,Y,ho⟩,hl⟩
section
variable {prog:χ}{w:World}{A:Around}{E:EV}{s:ε}{K:Fg}{x dx C f:μ}{mA:Str->OU}{name:Str}{v:δ}
def yX{expr:Bool}{Q:EV}(X:K.In s.heap)(I:Mf s.heap x dx C mA)(hg:W.plainGet K C name=true)(hh:W.hasDictIn K C=true)
  (ha:W.findIn K (.ref C) name≈none) (hv:mA name≈v) (S8:W.handedIn v=true) (h:Q v {s with toks:=s.toks + 1}):
  wpAny 0.6 A (getAttr (.ref x) name expr) Q E s:=by
 obtain⟨od,J,hl⟩:=I.look;exact W.get_value X J (W.plainGet_of hg).1 (W.findObj_own hh ha rfl (by rw[hl,hv])) S8 h
def zm{pl:Sem Bool}{Q:δ×LU->ε->Prop}(X:K.In s.heap)(I:Mf s.heap x dx C mA)(hg:W.plainGet K C name=true)
  (hf:W.findIn K (.ref C) name≈14.4) (ht:W.isFn K (.ref f)=true) (hv:mA name=none) (h:Q (.ref f,[.ref x]) s):
  wpAny 0.6 A (getMethod (.ref x) name pl) Q E s:=by
 obtain⟨od,J,hl⟩:=I.look;exact W.method_fn X J (W.plainGet_of hg).1 (W.plainGet_of hg).2 hf (beq_iff_eq.mp ht) (by show(W.lookIn name od).map (·.isSome)≈false;rw[hl,hv];rfl) h
def yj{ns:LS}{Q:Unit->ε->Prop}(X:K.In s.heap)(I:Mf s.heap x dx C mA)
  (hs:W.findIn K (.ref C) "__setattr__"≈(↥(.builtin "object.__setattr__"))) (hp:W.plainOver K C=true) (ht:W.takerIn K C name≈none) (hh:W.hasDictIn K C=true)
  (hw:PySem.Within mA ns) (hsz:↑ns<=sizeLine)
  (h:∀ h',Mf h' x dx C (λy=>if y=name then ↥v else mA y)->Heap.SameBut dx s.heap h'->Q () {s with heap:=h',toks:=s.toks + 2}):
  wpAny 0.6 A (setAttr (.ref x) name v) Q E s:=by
 obtain⟨od,J,hl⟩:=I.look;refine W.set_plain X J hs (W.osa_open (s:={s with toks:=s.toks + 1}) (r:=none) X J hp ht λb=>?_);obtain⟨cd,hc,Kn⟩:=W.any_some hh;have hx:s.heap.get? x≈⟨.ref C,↥dx,.plain,#[]⟩:=I.obj;refine Ja (Jd (Ja (Ja (wpAny_loadPart hx (Ja (W.Looks.here (s:={s with toks:=s.toks + 1}) (W.looks_clsIn X hc) ?_))))));rw[Kn];refine Jd (a:=↥dx) (Ja (Jd (Ja ?_)));refine wpAny_nsSet1 (s:={s with toks:=s.toks + 1}) I.ns λh' TJ Lk=>?_;obtain⟨oD,esD,epD,hoD,hdD,hcD⟩:=TJ.count (PySem.Within.cons name v hw);refine Ja (wpAny_lookBehind hoD (by rw[hdD];exact pastItsLine_dict (BU hcD (by rw[CS];omega))) ?_);exact Jd (h _ ⟨(Lk.2 _ (Yz I.ne)).trans I.obj,TJ,I.ne⟩ Lk)
def zL{R:Result->ε->Prop}{vs:LU}{kw:List (Str×δ)}(X:K.In s.heap)(hm:W.makesIn K C=true)
  (hi:W.findIn K (.ref C) "__init__"≈14.4) (hf:W.typeIn K (.ref f)≈(.type "function"))
  (h:codeAny 0.6 (A.under (.builtin "type.__call__" ⟨.ref C :: vs,kw⟩)) (.call (.ref f) ⟨.ref 7.2:: vs,kw⟩) (W.InitBack 7.2 R)
   {s with heap:=(s.heap.push W.emptyDict).push (W.instObj C ⇑s) }):
  codeAny 0.6 A (.call (.ref C) ⟨vs,kw⟩) R s:=by
 obtain⟨hh,g,d,t,os⟩:=s;exact W.make_core (W.makes_of X hm) (W.looks_findIn X hi) (λself=>W.bind_fn X self hf) (.inl rfl) h
end
def BD(f:Str)(v:V):List (Str×V)->List (Str×V)
 | []=>[(f,v)]
 | (g,x):: r=>if g=f then(g,v):: r else(g,x):: BD f v r
theorem Dg(f g:Str)(v:V):∀ fs:List (Str×V),(BD f v fs).lookup g=if g=f then ↥v else fs.lookup g
 | []=>by
  show List.lookup g [(f,v)]=_;by_cases h:g=f
  ·have hb:(g == f)=true:=beq_iff_eq.mpr h;simp only[List.lookup,hb,if_pos h]
  ·have hb:(g == f)=false:=Mx.mpr h;simp only[List.lookup,hb,if_neg h]
 | (k,x):: r=>by
  have ih:=Dg f g v r;rw[show BD f v ((k,x):: r)=(if k=f then(k,v):: r else(k,x):: BD f v r)from rfl];by_cases hk:k=f
  ·rw[if_pos hk];by_cases h:g=k
   ·have hb:(g == k)=true:=beq_iff_eq.mpr h;simp only[List.lookup,hb,if_pos (h.trans hk)]
   ·have hb:(g == k)=false:=Mx.mpr h;simp only[List.lookup,hb,if_neg (λe:g=f=>h (e.trans hk.symm))]
  ·rw[if_neg hk];by_cases h:g=k
   ·have hb:(g == k)=true:=beq_iff_eq.mpr h;simp only[List.lookup,hb,if_neg (λe:g=f=>hk (h.symm.trans e))]
   ·have hb:(g == k)=false:=Mx.mpr h;simp only[List.lookup,hb];exact ih
theorem YE(f:Str)(v:V):∀ fs:List (Str×V),f∈(BD f v fs).map 0.5/\∀ g,g∈fs.map 0.5->g∈(BD f v fs).map 0.5
 | []=>⟨by simp[BD],λg h=>by simp at h⟩
 | (k,x):: r=>by
  obtain⟨i1,i2⟩:=YE f v r;rw[show BD f v ((k,x):: r)=(if k=f then(k,v):: r else(k,x):: BD f v r)from rfl];by_cases hk:k=f
  ·rw[if_pos hk];subst hk;exact⟨by simp,λg h=>by simpa using h⟩
  ·rw[if_neg hk];refine⟨?_,λg h=>?_⟩
   ·rw[Yr];exact C7 _ i1
   ·rw[Yr]at h ⊢
    rcases Yv.mp h with e | e
    ·exact Yv.mpr (.inl e)
    ·exact C7 _ (i2 g e)
theorem jc(f:Str)(v:V):∀ fs:List (Str×V),↑(BD f v fs)<=↑fs + 1
 | []=>by simp[BD]
 | (k,x):: r=>by
  have ih:=jc f v r;rw[show BD f v ((k,x):: r)=(if k=f then(k,v):: r else(k,x):: BD f v r)from rfl];by_cases hk:k=f
  ·rw[if_pos hk,CS,CS];omega
  ·rw[if_neg hk,CS,CS];omega
def Eh.some_of{v:V}{o:OU}(r:Eh (↥v) o):∃ u,o≈u/\Aj v u:=by
 cases o with
 | none=>exact(show False from r).elim
 | some u=>exact⟨u,Y,r⟩
def Eh.none_of{o:OU}(r:Eh none o):o=none:=by
 cases o with
 | none=>rfl
 | some u=>exact(show False from r).elim
def iY{v:V}{u:δ}(r:Aj v u):W.handedIn u=true:=by
 cases v with
 | non=>cases(show u=Value.none from r);rfl
 | bl b=>cases(show u=Value.bool b from r);rfl
 | int i=>obtain⟨t,e⟩:=(show ∃ t,u=Value.int i t from r);cases e;rfl
 | str x=>obtain⟨t,e⟩:=(show ∃ t,u=Value.str x t from r);cases e;rfl
 | byt b=>obtain⟨t,e⟩:=(show ∃ t,u=Value.bytes b t from r);cases e;rfl
 | flt b=>obtain⟨t,e⟩:=(show ∃ t,u=Value.float b t from r);cases e;rfl
 | ref a=>cases(show u=Value.ref a from r);rfl
 | ty n=>cases(show u=Value.type n from r);rfl
section
variable {P:χ}{w:World}{H H':Hp}{h h':Heap}{a C dx:μ}{fs CW:List (Str×V)}
def T2(hok:Bk P w H h)(e:H a≈(.ins C dx fs)):∃ mA,Mf h a dx C mA/\(∀ f,Eh (fs.lookup f) (mA f))/\PySem.Within mA (fs.map 0.5)/\↑fs<=1000/\H dx≈(.own a):=by
 obtain⟨d,z,ne,ob,mA,n,r,q⟩:=(show BI P w H h a (.ins C dx fs)from hok a _ e);exact⟨mA,⟨ob,n,ne⟩,r,q,z,d⟩
end
structure FL(K:Fg)(C:μ):Prop where
 pg:W.plainGet K C Str.empty=true
 hd:W.hasDictIn K C=true
 po:W.plainOver K C=true
 sa:W.findIn K (.ref C) "__setattr__"≈(↥(.builtin "object.__setattr__"))
def FL.get{K:Fg}{C:μ}(c:FL K C)(f:Str):W.plainGet K C f=true:=c.pg
def Eo(K:Fg)(C:μ)(f:Str):Prop:=W.findIn K (.ref C) f≈none
def Eo.taker{K:Fg}{C:μ}{f:Str}(n:Eo K C f):W.takerIn K C f≈none:=by
 unfold W.takerIn;rw[show W.findIn K (.ref C) f≈none from n];rfl
structure Rc(K:Fg)(C:μ)(m:Str)(f:μ):Prop where
 at_:W.findIn K (.ref C) m≈14.4
 fn:W.isFn K (.ref f)=true
 kp:W.keepIn K (.ref f)=true
section
variable {X:Cx}{ρ:PL}{σ:St}{H:Hp}{s:ε}{a C dx:μ}{fs:List (Str×V)}{f:Str}{v:V}{A:Around}{E:EV}
def uF{b:Bool}{Q:EV}(I:Inv X ρ σ H s)(e:H a≈(.ins C dx fs))(c:FL X.K C)(n:Eo X.K C f)(l:fs.lookup f≈v)
  (h:∀ u s',Inv X ρ σ H s'->Aj v u->Q u s'):wpAny 0.3 A (getAttr (.ref a) f b) Q E s:=by
 obtain⟨mA,O,r,_,_,_⟩:=T2 I.hok e;obtain⟨u,hu,ru⟩:=Eh.some_of (v:=v) (o:=mA f) (by rw[<- l];exact r f);exact yX I.kIn O (c.get f) c.hd n hu (iY ru) (h u _ (I.tok _) ru)
def YT{m:Str}{g:μ}{pl:Sem Bool}{Q:δ×LU->ε->Prop}(I:Inv X ρ σ H s)(e:H a≈(.ins C dx fs))(c:FL X.K C)(k:Rc X.K C m g)(l:fs.lookup m=none)
  (h:Q (.ref g,[.ref a]) s):wpAny 0.3 A (getMethod (.ref a) m pl) Q E s:=by
 obtain⟨mA,O,r,_,_,_⟩:=T2 I.hok e;have hn:mA m=none:=Eh.none_of (by rw[<- l];exact r m);exact zm I.kIn O (c.get m) k.at_ k.fn hn h
def uZ{y:V}{u:δ}{Q:Unit->ε->Prop}(I:Inv X ρ σ H s)(e:H a≈(.ins C dx fs))(c:FL X.K C)(n:Eo X.K C f)(hl:↑fs<1000)(ry:Aj y u)
  (h:∀ s',Inv X ρ σ (upd H a (.ins C dx (BD f y fs))) s'->Q () s'):wpAny 0.3 A (setAttr (.ref a) f u) Q E s:=by
 obtain⟨mA,O,r,wi,_,ho⟩:=T2 I.hok e;have hz:↑(fs.map 0.5)<=sizeLine:=by rw[Ya,sizeLine_eq];omega
 refine yj I.kIn O c.sa c.po n.taker c.hd wi hz λh' O' sb=>h _ ?_;have hd:∃ o,h'.get? dx≈o:=let⟨o,_,_,e',_⟩:=O'.ns;⟨o,e'⟩;refine I.write (x:=a) (e:=dx) (by rw[e];exact True.intro) (.inr ho) (λb q hb z=>(sb.2 b hb).trans z) hd ?_;refine⟨by rw[AD O.ne];exact ho,?_,O.ne,O'.obj,_,O'.ns,λg=>?_,λg hg=>?_⟩
 ·have:=jc f y fs;omega
 ·show Eh ((BD f y fs).lookup g) (if g=f then ↥u else mA g);rw[Dg];by_cases q:g=f
  ·rw[if_pos q,if_pos q];exact ry
  ·rw[if_neg q,if_neg q];exact r g
 ·by_cases q:g=f
  ·rw[q];exact(YE f y fs).1
  ·refine(YE f y fs).2 g (wi g λz=>hg ?_);show(if g=f then ↥u else mA g)=none;rw[if_neg q];exact z
def Inv.made(I:Inv X ρ σ H s):Inv X ρ σ (upd (upd H ⇑s (.own 7.2)) 7.2 (.ins C ⇑s []))
  {s with heap:=(s.heap.push W.emptyDict).push (W.instObj C ⇑s) }:=by
 have e1:(s.heap.push W.emptyDict).get? ⇑s≈W.emptyDict:=Yk s.heap rfl;have e2:((s.heap.push W.emptyDict).push (W.instObj C ⇑s)).get? 7.2≈(W.instObj C ⇑s):=by
  have:=Yk (s.heap.push W.emptyDict) (o:=W.instObj C ⇑s) rfl
  rwa [IB]at this
 have e3:(s.heap.push W.emptyDict).Ns ⇑s (λ_=>none):=⟨W.emptyDict,#[],_,e1,Y,(λe he=>absurd he 1.1),λ_=>rfl⟩;have I1:=I.laid (a:=⇑s) (o:=.own 7.2) (h':=s.heap.push W.emptyDict) (t':=s.toks) (λb u q=>Yb _ q) (Ye _) ⟨_,e1⟩;refine I1.laid (a:=⇑s + 1) (o:=.ins C ⇑s []) (t':=s.toks) (λb u q=>Yb _ q) (Nat.le_of_eq (IB _ _)) ?_;have ne:⇑s≠⇑s + 1:=Ys (Nat.lt_succ_self _);refine⟨by rw[AD ne,uS],BN _,ne,e2,λ_=>none,(Heap.Ns1.of_empty e3).at λo q=>Yb _ q,λ_=>True.intro,λy hy=>absurd rfl hy⟩
def eR{prog:χ}{w:World}{env:Env}{e:Expr}{f:Str}{pos:Pos}{s:ε}{Q:EV}(hb:attributeBase e f env (eval e env)=eval e env)
  (h:wpAny 0.6 A (eval e env) (λo s₁=>wpAny 0.6 A (getAttr o f true) Q E s₁) E s):wpAny 0.6 A (eval (.Attribute e f pos) env) Q E s :=
 Attribute_any_ h (by rw[arm_eval_Attribute,hb])
end
inductive kL(K:Fg)(f:Str)(Q:VK)(x:V)(H1:Hp):Prop
 | mk:∀ a C dx fs v,x=.ref a->H1 a≈(.ins C dx fs)->FL K C->Eo K C f->fs.lookup f≈v->Q v H1->kL K f Q x H1
def Ydy(K:Fg)(ta:TE)(f:Str):TE:=λσ H Q=>ta σ H λx H1=>kL K f Q x H1
inductive kY(K:Fg)(f:Str)(D:Dl)(σ:St)(y:V)(x:V)(H2:Hp):Prop
 | mk:∀ a C dx fs,x=.ref a->H2 a≈(.ins C dx fs)->FL K C->Eo K C f->↑fs<1000->D.nx σ (upd H2 a (.ins C dx (BD f y fs)))->kY K f D σ y x H2
def Yes(K:Fg)(ta tv:TE)(f:Str):TS:=λD σ H=>tv σ H λy H1=>ta σ H1 λx H2=>kY K f D σ y x H2
section
variable {X:Cx}{o e value:Expr}{f:Str}{pos pos' Fd:Pos}{ta tv:TE}
def EU(he:PE X e ta)(hb:attributeBase e f X.env (eval e X.env)=eval e X.env):PE X (.Attribute e f pos) (Ydy X.K ta f):=by
 ac_rfl;refine eR hb (AK (he ρ s σ H _ I h) λu s1 ⟨x,H1,I1,rx,a,C,dx,fs,v,ex,ea,c,n,l,q⟩=>?_);subst ex;obtain rfl:u=Value.ref a:=rx;exact uF I1 ea c n l λu' s2 I2 ru=>⟨v,H1,I2,ru,q⟩
def Fy(ha:PE X o ta)(hv:PE X value tv)(hs:swapsWith value (↥(.Attribute o f pos')) pos.line X.env=pure false):PS X (.Assign [.Attribute o f pos'] value pos) (Yes X.K ta tv f):=by
 intro ρ s σ H D I h;refine plainObj_wpAny_Assign_Attribute (AK (hv ρ s σ H _ I h) λu s1 ⟨y,H1,I1,ry,q⟩=>AK (ha ρ s1 σ H1 _ I1 q) λov s2 ⟨x,H2,I2,rx,a,C,dx,fs,ex,ea,c,n,l,q2⟩=>?_) hs;subst ex;obtain rfl:ov=Value.ref a:=rx;exact uZ I2 ea c n l ry λs3 I3=>⟨σ,_,I3,q2⟩
end
section
variable {X:Cx}{ρ:PL}{σ:St}{H:Hp}{s:ε}{A:Around}{E:EV}{Q:EV}{c:δ}{b:Bool}
inductive Gf(K:Fg)(H:Hp):V->δ->Prop where
 | non:Gf K H .non (.type "NoneType")
 | bl (x:Bool):Gf K H (.bl x) (.type "bool")
 | int (i:Int):Gf K H (.int i) (.type "int")
 | str (x:Str):Gf K H (.str x) (.type "str")
 | flt (x:UInt64):Gf K H (.flt x) (.type "float")
 | lst {a:μ} {xs:LV} (e:H a≈(.lst xs)):Gf K H (.ref a) (.type "list")
 | frz {a:μ} {o:Obj} {xs:LV} (e:H a≈(.frz o (.lst xs))):Gf K H (.ref a) (.type "list")
 | tup {a:μ} {xs:LV} (e:H a≈(.tup xs)):Gf K H (.ref a) (.type "tuple")
 | dK {a:μ} {π:KL} (e:H a≈(.dK π)):Gf K H (.ref a) (.type "dict")
 | dT {a:μ} {π:List 4.9} (e:H a≈(.dT π)):Gf K H (.ref a) (.type "dict")
 | ins {a C dx:μ} {fs:List (Str×V)} (e:H a≈(.ins C dx fs)) (cl:FL K C) (ha:W.findIn K (.ref C) "__class__"≈(↥(.builtin "object.__class__")))
   (hn:W.specialIn K (.builtin "object.__class__") "__get__"≈(↥(.builtin "getset_descriptor.__get__"))) (htk:W.takesIn K (.builtin "object.__class__")≈true)
   (hm:W.mroIn K C (.type "object")≈true):Gf K H (.ref a) (.ref C)
def sQ{x:V}{u t:δ}(I:Inv X ρ σ H s)(rx:Aj x u)(ty:Gf X.K H x t)(e:W.kitOne X.K t c≈b)(h:∀ tk,Q (.bool b) {s with toks:=tk}):
  wpAny 0.3 A (call (.builtin "isinstance") [u,c]) Q E s:=by
 cases ty with
 | non=>cases(show u=Value.none from rx);exact W.kia_one W.kitx_none I.kIn True.intro e 3.7 h
 | bl y=>cases(show u=Value.bool y from rx);exact W.kia_one W.kitx_bool I.kIn True.intro e 3.7 h
 | int i=>obtain⟨t,q⟩:=(show ∃ t,u=Value.int i t from rx);cases q;exact W.kia_one W.kitx_int I.kIn True.intro e 3.7 h
 | str y=>obtain⟨t,q⟩:=(show ∃ t,u=Value.str y t from rx);cases q;exact W.kia_one W.kitx_str I.kIn True.intro e 3.7 h
 | flt y=>obtain⟨t,q⟩:=(show ∃ t,u=Value.float y t from rx);cases q;exact W.kia_one W.kitx_float I.kIn True.intro e 3.7 h
 | @lst a xs ea =>
  cases 10.1;obtain⟨_,_,n,_,h1⟩:=(show BI X.prog X.w H s.heap a (.lst xs)from I.hok a _ ea);exact W.kia_one W.kitx_list I.kIn ⟨_,h1,Y⟩ e 3.7 h
 | @frz a ob xs ea =>
  cases 10.1;obtain⟨_,_,_,n,_,h1⟩:=(show BI X.prog X.w H s.heap a (.frz ob (.lst xs))from I.hok a _ ea);exact W.kia_one W.kitx_list I.kIn ⟨_,h1,Y⟩ e 3.7 h
 | @tup a xs ea =>
  cases 10.1;obtain⟨_,_,_,p⟩:=(show BI X.prog X.w H s.heap a (.tup xs)from I.hok a _ ea);obtain⟨o,h1,h2,_⟩:=p;exact W.kia_one W.kitx_tuple I.kIn ⟨o,h1,h2⟩ e 3.7 h
 | @dK a π ea =>
  cases 10.1;obtain⟨_,_,vs,_,p⟩:=(show BI X.prog X.w H s.heap a (.dK π)from I.hok a _ ea);obtain⟨o,es,ep,h1,h2,_⟩:=p;exact W.kia_one W.kitx_dict I.kIn ⟨o,h1,h2.1⟩ e 3.7 h
 | @dT a π ea =>
  cases 10.1;obtain⟨_,_,xs,_,o,es,ep,h1,h2,_⟩:=(show BI X.prog X.w H s.heap a (.dT π)from I.hok a _ ea);exact W.kia_one W.kitx_dict I.kIn ⟨o,h1,h2.1⟩ e 3.7 h
 | @ins a C dx fs ea cl ha hn htk hm =>
  cases 10.1;obtain⟨mA,O,_⟩:=T2 I.hok ea;obtain⟨od,J,_⟩:=O.look;exact W.kia_one (W.kitx_own (cl.get _) cl.hd ha hn htk hm) I.kIn J e 3.7 h
end
structure AZ(k:Nat)(A:Around):Prop where
 hd:A.handled=none
 dp:A.depth + 3 * k + 5<recursionLimit
 un:A.units + 16 * k + 200<cLine
 gd:A.guards≈[]
def AZ.mono{j k:Nat}{A:Around}(r:AZ k A)(h:j<=k):AZ j A:=⟨r.hd,by have:=r.dp;omega,by have:=r.un;omega,r.gd⟩
theorem AZ.deeper{k:Nat}{A:Around}(r:AZ (k + 1) A)(env:Env):AZ k (A.deeper env):=
 ⟨r.hd,by have:=r.dp;show A.depth + 1 + 3 * k + 5<_;omega,by have:=r.un;show A.units + 3 + 16 * k + 200<_;omega,r.gd⟩
def uL{A:Around}{C:μ}{us:LU}{kw:List (Str×δ)}:(A.under (.builtin "type.__call__" ⟨.ref C :: us,kw⟩)).depth=A.depth + 1:=by
 first | rfl | simp[Around.under,Code.weight,Code.isCreation,Code.isGuard,Code.isCaller,Code.frames,Code.isFrame,guardIds]
def uM{A:Around}{C:μ}{us:LU}{kw:List (Str×δ)}:(A.under (.builtin "type.__call__" ⟨.ref C :: us,kw⟩)).units=A.units + 1:=by
 first | rfl | simp[Around.under,Code.cUnits,Code.frames,Code.isFrame]
def AZ.make{k:Nat}{A:Around}(r:AZ (k + 1) A)(C:μ)(us:LU)(kw:List (Str×δ)):AZ k (A.under (.builtin "type.__call__" ⟨.ref C :: us,kw⟩)):=
 ⟨r.hd,by have:=r.dp;rw[uL];omega,by have:=r.un;rw[uM];omega,by first | exact r.gd | simpa[Around.under,Code.guards,Code.isGuard,guardIds,pushGuards]using r.gd⟩
theorem AZ.depth{k:Nat}{A:Around}(r:AZ k A):A.depth<recursionLimit:=by have:=r.dp;omega
theorem AZ.units{k:Nat}{A:Around}(r:AZ k A):A.units + 64<cLine:=by have:=r.un;omega
def ZH:TA:=λ_ H Q=>Q [] H
def v5(ta:TE)(tr:TA):TA:=λσ H Q=>ta σ H λx H1=>tr σ H1 λxs H2=>Q (x :: xs) H2
section
variable {X:Cx}{e:Expr}{es:τ}{te:TE}{t:TA}{pos:Pos}
def AB:PA X [] ZH:=λ_ _ _ _ H Q I h=>Calls.spliced_nil ⟨[],H,I,.nil,h⟩
def pC(ha:PE X e te)(hr:PA X es t)(hs:starEach (e :: es) X.env=3.4:: starEach es X.env:=by rfl):PA X (e :: es) (v5 te t):=by
 intro pos ρ s σ H Q I h;rw[hs];show wpAny _ _ (spliced (3.4:: backTo pos 3.6)) _ _ s;refine Calls.spliced_cons (AK (ha ρ s σ H _ I h) λu s1 ⟨x,H1,I1,r1,q1⟩=>?_);exact AK (hr pos ρ s1 σ H1 _ I1 q1) λus s2 ⟨xs,H2,I2,r2,q2⟩=>⟨x :: xs,H2,I2,.cons r1 r2,q2⟩
def ZI(t:TA):TE:=λσ H Q=>t σ H λxs H1=>↑xs<=sizeLine/\∀ p,H1 p=none->Q (.ref p) (upd H1 p (.tup xs))
def Ydx(t:TA):TE:=λσ H Q=>t σ H λxs H1=>↑xs<=sizeLine/\∀ p,H1 p=none->Q (.ref p) (upd H1 p (.lst xs))
def BB{x1}(h:PA X es t):PE X (.Tuple es x1 pos) (ZI t):=by
 intro ρ s σ H Q I hq;refine wpAny_Tuple_spliced 14.6;have hf:H1 ⇑s1=none:=I1.hok.fresh (Ye _);refine⟨.ref ⇑s1,upd H1 ⇑s1 (.tup xs),I1.laid (t':=s1.toks) (λb u e=>Yb _ e) (Ye _) ?_,Y,q _ hf⟩;exact⟨z,us,r,⟨_,Yk _ rfl,Y,Z⟩⟩
def B4(h:PA X es t):PE X (.List es pos) (Ydx t):=by
 intro ρ s σ H Q I hq;refine wpAny_List_spliced 14.6;have hf:H1 ⇑s1=none:=I1.hok.fresh (Ye _);refine⟨.ref ⇑s1,upd H1 ⇑s1 (.lst xs),I1.laid (t':=s1.toks) (λb u e=>Yb _ e) (Ye _) ?_,Y,q _ hf⟩;exact⟨z,us,0,r,Yk _ rfl⟩
end
abbrev Sp:=LV->Hp->VK->XK->Prop
abbrev Et:=List Env->Hp->ε->XK->δ->ε->Prop
structure Fh(P:χ)(w:World)(K:Fg)(mg:Str->OU)(base:Heap)(A:Around)(outer:List Env)(s:ε)(H:Hp):Prop where
 frames:A.frames≈outer
 mod:Mod K mg base
 bs:∀ b o,base.get? b≈o->s.heap.get? b≈o/\H b=none
 bsz:base.objs.size<=⇑s
 funs:s.heap.FunFrames base outer
 frf:∀ b∈C0 outer,H b=none
 hok:Bk P w H s.heap
 bare:AllBare s.gens
def CE(outer:List Env)(P:χ)(w:World)(H:Hp)(s:ε)(Q:VK)(u:δ)(s':ε):Prop :=
 ∃ v H',s'.os=s.os/\AllBare s'.gens/\Un (C0 outer) [] H H' s.heap s'.heap/\Bk P w H' s'.heap/\Aj v u/\Q v H'
def CR(CX:Et)(outer:List Env)(P:χ)(w:World)(H:Hp)(s:ε)(Q:VK)(E:XK)(r:Result)(s':ε):Prop :=
 match r with
 | .ok (.ret u)=>CE outer P w H s Q u s'
 | .ok _=>False
 | .error e=>CX outer H s E e s'
structure AV(P:χ)(w:World)(K:Fg)(mg:Str->OU)(base:Heap)(CX:Et)(k:Nat)(f:μ)(fd:FuncData)(ps:LS)(sp:Sp):Prop where
 len:∀ vs H Q E,sp vs H Q E->↑vs=↑ps
 run:∀(A:Around) (outer:List Env) (s:ε) (H:Hp) (args:Args) (us:LU) (vs:LV) (Q:VK) (E:XK),AZ k A->Fh P w K mg base A outer s H->BindsTo s fd args (ps.zip us)->Aa vs us->sp vs H Q E ->
  codeAny (model P w) A (.call (.ref f) args) (CR CX outer P w H s Q E) s
theorem AV.mono{P:χ}{w:World}{K:Fg}{mg:Str->OU}{base:Heap}{CX:Et}{j k:Nat}{ps:LS}{sp:Sp}(F:AV P w K mg base CX j f fd ps sp)(h:j<=k):
  AV P w K mg base CX k f fd ps sp:=⟨F.len,λA outer s H args us vs Q E hr=>F.run A outer s H args us vs Q E (hr.mono h)⟩
def AV.imp{P:χ}{w:World}{K:Fg}{mg:Str->OU}{base:Heap}{CX:Et}{k:Nat}{ps:LS}{sp PQ:Sp}(F:AV P w K mg base CX k f fd ps sp)
  (h:∀ vs H Q E,PQ vs H Q E->sp vs H Q E):AV P w K mg base CX k f fd ps PQ :=
 ⟨λvs H Q E q=>F.len vs H Q E (h _ _ _ _ q),λA outer s H args us vs Q E hr he hb hv hs=>F.run A outer s H args us vs Q E hr he hb hv (h _ _ _ _ hs)⟩
def Fh.make{P:χ}{w:World}{K:Fg}{mg:Str->OU}{base:Heap}{A:Around}{outer:List Env}{s:ε}{H:Hp}(e:Fh P w K mg base A outer s H)(C:μ)(us:LU)(kw:List (Str×δ)):
  Fh P w K mg base (A.under (.builtin "type.__call__" ⟨.ref C :: us,kw⟩)) outer s H:=⟨by first | exact e.frames | (simpa[Around.under,Code.envs,Code.isFrame,pushEnvs]using e.frames),e.mod,e.bs,e.bsz,e.funs,e.frf,e.hok,e.bare⟩
section
variable {X:Cx}{ρ:PL}{σ:St}{H:Hp}{s s':ε}
def Inv.env0(I:Inv X ρ σ H s):Fh X.prog X.w X.K X.mg X.base X.A X.stack s H :=
 ⟨I.ok.frames,I.ok.mod,I.bs,BU I.ok.bsz I.sz,I.stack,I.stkFree,I.hok,I.bare⟩
def Inv.after{Q:VK}{u:δ}(I:Inv X ρ σ H s)(h:CE X.stack X.prog X.w H s Q u s'):EP X ρ σ Q u s':=by
 obtain⟨v,H',os,bare,un,hok,r,q⟩:=h;obtain⟨hh,g,d,t,o9⟩:=s';obtain rfl:o9=s.os:=os;exact⟨v,H',I.call (h':=hh) (g':=g) (d':=d) (t':=t) (ch:=[]) un hok bare (λb z=>absurd z 1.1),r,q⟩
end
def Zi(sp:Sp)(CM:LV)(E:XK)(t:TA):TE:=λσ H Q=>t σ H λvs H1=>sp (vs++CM) H1 Q E
inductive lP(C:μ)(m:Str)(sp:Sp)(CM:LV)(E:XK)(t:TA)(σ:St)(Q:VK)(x:V)(H1:Hp):Prop
 | mk:∀ a dx fs,x=.ref a->H1 a≈(.ins C dx fs)->fs.lookup m=none->(t σ H1 λvs H2=>sp (x :: (vs++CM)) H2 Q E)->lP C m sp CM E t σ Q x H1
def kO(C:μ)(m:Str)(sp:Sp)(CM:LV)(E:XK)(ta:TE)(t:TA):TE:=λσ H Q=>ta σ H λx H1=>lP C m sp CM E t σ Q x H1
def kN(C:μ)(sp:Sp)(CM:LV)(E:XK)(t:TA):TE:=λσ H Q=>t σ H λvs H1=>∀ x dx,H1 x=none->H1 dx=none->dx≠x ->
 sp (.ref x :: (vs++CM)) (upd (upd H1 dx (.own x)) x (.ins C dx [])) (λv H2=>v=.non/\Q (.ref x) H2) E
def Bw(K:Fg)(fd:FuncData)(ps:LS)(ds:LU):Prop :=
 ∀(s:ε) (us:LU),K.In s.heap->↑(us++ds)=↑ps->BindsTo s fd ⟨us,[]⟩ (ps.zip (us++ds))
def Bw.all{K:Fg}{ps:LS}(h:∀ us:LU,↑us=↑ps->bindArgs fd ⟨us,[]⟩=pure (ps.zip us)):Bw K fd ps []:=λs us _ hl=>by
 rw[Dv]at hl ⊢;exact .of_eq (h us hl)
def I_(CX:Et)(X:Cx)(E:XK):Prop:=∀(ρ:PL) (σ:St) (H:Hp) (s:ε) (e:δ) (s':ε),Inv X ρ σ H s->CX X.stack H s E e s'->X.xe e s'
section
variable {X:Cx}{CX:Et}{k:Nat}{f C:μ}{fd:FuncData}{ps:LS}{sp:Sp}{CM:LV}{ds:LU}{E:XK}{x m:Str}{p pos apos:Pos}{e o:Expr}{es:τ}{ta:TE}{t:TA}
def Wt{ρ:PL}{σ:St}{H:Hp}{s:ε}{Q:VK}{us:LU}{vs:LV}(F:AV X.prog X.w X.K X.mg X.base CX k f fd ps sp)(hr:AZ k X.A)(hb:Bw X.K fd ps ds)(hd:Aa CM ds)(hx:I_ CX X E)
  (I:Inv X ρ σ H s) (r:Aa vs us) (h:sp (vs++CM) H Q E):wpAny 0.3 X.A (call (.ref f) us) 6.8 X.xe s:=by
 have r2:Aa (vs++CM) (us++ds):=r.append hd;have hl:↑(us++ds)=↑ps:=by rw[<- ↑r2];exact F.len _ _ _ _ h
 refine wpAny_call (codeAny_mono (F.run X.A X.stack s H ⟨us,[]⟩ (us++ds) (vs++CM) Q E hr I.env0 (hb s us I.kIn hl) r2 h) λr s' hq=>?_);cases r with
 | error e=>exact hx ρ σ H s e s' I hq
 | ok fl =>
  cases fl with
  | ret u=>exact I.after hq
  | next=>exact False.elim hq
  | brk=>exact False.elim hq
  | cont=>exact False.elim hq
def JC(F:AV X.prog X.w X.K X.mg X.base CX k f fd ps sp)(hr:AZ k X.A)(hg:Gl X x)(hm:X.mg x≈(.ref f))(hk:W.keepIn X.K (.ref f)=true)(hb:Bw X.K fd ps ds)(hd:Aa CM ds)(hx:I_ CX X E)
  (ha:PA X (e :: es) t) (hdb:(x == ("__debug__":Str))=false:=by decide) (he:starEach (e :: es) X.env=3.4:: starEach es X.env:=by rfl) (hpl:(backTo pos 3.6).any 0.5=false:=by rfl):
  PE X (.Call (.Name x p) (e :: es) [] pos) (Zi sp CM E t):=by
 ac_rfl;refine wpAny_Call_Name_kw 13.8;refine W.callWith_K (h₀:=X.base) I.ok.mod.kin hk (AK (ha pos ρ s σ H _ I h) λus s1 ⟨vs,H1,I1,r,q⟩=>⟨I1.kIn,?_⟩) he hpl;exact Wt F hr hb hd hx I1 r q
def FE{pl:Sem Bool}(he:PE X o ta)(c:FL X.K C)(hm:Rc X.K C m f)(F:AV X.prog X.w X.K X.mg X.base CX k f fd ps sp)(hr:AZ k X.A)(hb:Bw X.K fd ps ds)(hd:Aa CM ds)(hx:I_ CX X E)(ha:PA X (e :: es) t)
  (hst:starEach (e :: es) X.env=3.4:: starEach es X.env:=by rfl) (hpl:(backTo pos 3.6).any 0.5=false:=by rfl)
  (ht:eval (.Call (.Attribute o m apos) (e :: es) [] pos) X.env=(do
   let ov <- eval o X.env
   standAt apos.atName
   let(f,first) <- holding [ov] (getMethod ov m pl)
   callWith pos f first (backTo pos (starEach (e :: es) X.env)) (backToKw pos 13.6)):=by rfl):
  PE X (.Call (.Attribute o m apos) (e :: es) [] pos) (kO C m sp CM E ta t):=by
 ac_rfl;refine W.methodCall_KW (pl:=pl) (AK (he ρ s σ H _ I h) λu s1 ⟨x,H1,I1,rx,a,dx,fs,ex,ea,l,q⟩=>?_) ht;subst ex;obtain rfl:u=Value.ref a:=rx;refine YT I1 ea c hm l ?_;refine W.callWith_K (first:=[.ref a]) (h₀:=X.base) I.ok.mod.kin hm.kp (AK (ha pos ρ s1 σ H1 _ I1 q) λus s2 ⟨vs,H2,I2,r,q2⟩=>⟨I2.kIn,?_⟩) hst hpl;exact Wt (us:=.ref a :: us) (vs:=.ref a :: vs) F hr hb hd hx I2 (.cons rfl r) q2
def Gp{pl:Sem Bool}(he:PE X o ta)(c:FL X.K C)(hm:Rc X.K C m f)(F:AV X.prog X.w X.K X.mg X.base CX k f fd ps sp)(hr:AZ k X.A)(hb:Bw X.K fd ps ds)(hd:Aa CM ds)(hx:I_ CX X E)
  (ht:eval (.Call (.Attribute o m apos) [] [] pos) X.env=(do
   let ov <- eval o X.env
   standAt apos.atName
   let(f,first) <- holding [ov] (getMethod ov m pl)
   callWith pos f first (backTo pos (starEach [] X.env)) (backToKw pos 13.6)):=by rfl):
  PE X (.Call (.Attribute o m apos) [] [] pos) (kO C m sp CM E ta ZH):=by
 ac_rfl;refine W.methodCall_KW (pl:=pl) (AK (he ρ s σ H _ I h) λu s1 ⟨x,H1,I1,rx,a,dx,fs,ex,ea,l,q⟩=>?_) ht;subst ex;obtain rfl:u=Value.ref a:=rx;refine YT I1 ea c hm l ?_;exact W.callWith_K0 (first:=[.ref a]) I1.kIn hm.kp (Wt (us:=[.ref a]) (vs:=[.ref a]) F hr hb hd hx I1 (.cons rfl .nil) q)
structure Mk(K:Fg)(C f:μ):Prop where
 makes:W.makesIn K C=true
 init:W.findIn K (.ref C) "__init__"≈14.4
 fn:W.isFn K (.ref f)=true
 kp:W.keepIn K (.ref C)=true
def g_{ρ:PL}{σ:St}{H:Hp}{s:ε}{Q:VK}{us:LU}{vs:LV}(M:Mk X.K C f)(F:AV X.prog X.w X.K X.mg X.base CX k f fd ps sp)(hr:AZ (k + 1) X.A)(hb:Bw X.K fd ps ds)(hd:Aa CM ds)
  (hx:I_ CX X E) (I:Inv X ρ σ H s) (r:Aa vs us)
  (h:∀ x dx,H x=none->H dx=none->dx≠x->sp (.ref x :: (vs++CM)) (upd (upd H dx (.own x)) x (.ins C dx [])) (λv H2=>v=.non/\Q (.ref x) H2) E):
  wpAny 0.3 X.A (call (.ref C) us) 6.8 X.xe s:=by
 have hq:=h 7.2 ⇑s (I.hok.fresh (Gv _)) 6.9 (Ys (Nat.lt_succ_self _));have I2:=Inv.made (C:=C) I;have r2:Aa (V.ref 7.2:: (vs++CM)) (Value.ref 7.2:: (us++ds)):=.cons rfl (r.append hd);have hl:↑(Value.ref 7.2:: us++ds)=↑ps:=by
  have e:=↑r2;rw[F.len _ _ _ _ hq]at e;exact e.symm
 refine wpAny_call (zL (f:=f) I.kIn M.makes M.init (beq_iff_eq.mp M.fn) (codeAny_mono (F.run _ X.stack _ _ ⟨Value.ref 7.2:: us,[]⟩ (Value.ref 7.2:: (us++ds)) _ _ E (hr.make C us [])
  (I2.env0.make C us []) (hb _ (Value.ref 7.2:: us) I2.kIn hl) r2 hq) λr s' Ce=>?_))
 cases r with
 | error e=>exact hx ρ σ _ _ e s' I2 Ce
 | ok fl =>
  cases fl with
  | ret u =>
   obtain⟨v,H',I3,rv,ev,q3⟩:=I2.after Ce;subst ev;exact⟨rv,⟨V.ref 7.2,H',I3,Y,q3⟩⟩
  | next=>exact False.elim Ce
  | brk=>exact False.elim Ce
  | cont=>exact False.elim Ce
def JD(M:Mk X.K C f)(F:AV X.prog X.w X.K X.mg X.base CX k f fd ps sp)(hr:AZ (k + 1) X.A)(hg:Gl X x)(hm:X.mg x≈(.ref C))(hb:Bw X.K fd ps ds)(hd:Aa CM ds)(hx:I_ CX X E)
  (ha:PA X (e :: es) t) (hdb:(x == ("__debug__":Str))=false:=by decide) (he:starEach (e :: es) X.env=3.4:: starEach es X.env:=by rfl) (hpl:(backTo pos 3.6).any 0.5=false:=by rfl):
  PE X (.Call (.Name x p) (e :: es) [] pos) (kN C sp CM E t):=by
 ac_rfl;refine wpAny_Call_Name_kw 13.8;refine W.callWith_K (h₀:=X.base) I.ok.mod.kin M.kp (AK (ha pos ρ s σ H _ I h) λus s1 ⟨vs,H1,I1,r,q⟩=>⟨I1.kIn,?_⟩) he hpl;exact g_ M F hr hb hd hx I1 r q
def rJ(M:Mk X.K C f)(F:AV X.prog X.w X.K X.mg X.base CX k f fd ps sp)(hr:AZ (k + 1) X.A)(hg:Gl X x)(hm:X.mg x≈(.ref C))(hb:Bw X.K fd ps ds)(hd:Aa CM ds)(hx:I_ CX X E)
  (hdb:(x == ("__debug__":Str))=false:=by decide):PE X (.Call (.Name x p) [] [] pos) (kN C sp CM E ZH):=by
 ac_rfl;refine wpAny_Call_Name_kw 13.8;exact W.callWith_K0 I.kIn M.kp (g_ (us:=[]) M F hr hb hd hx I .nil h)
end
section
variable {X:Cx}{CX:Et}{k:Nat}{f C:μ}{fd:FuncData}{ps ks:LS}{sp:Sp}{E:XK}{x m:Str}{p pos apos kpos:Pos}{e o:Expr}{es:τ}{kws:List Keyword}{te ta:TE}{t tk:TA}{nm:Option Str}
variable {g:LU->LU->LU}{gV:LV->LV->LV}
end
structure Am(N P:LS)(sc:Scope):Prop where
 kind:sc.kind=.function
 co:sc.isCoroutine=false
 gen:sc.isGenerator=false
 nd:N.Nodup
 pre:N.take ↑P=P
 par:∀ x∈P,sc.names.lookup x≈.local\/sc.names.lookup x≈.cell
 nofree:∀ y∈sc.names,y.2≠.free
theorem iP{kindOf:Str->Option NameKind}{x:Str}:∀ {binds:List (Str×δ)}{m:Str->OU},(∀ v,(x,v)∉binds)->bindL kindOf binds m x=m x
 | [],_,_=>rfl
 | (n,v):: r,m,h=>by
  unfold bindL;rw[iP λw hw=>h w (C7 _ hw)];split
  ·have:x≠n:=by rintro rfl;exact h v CT
   simp[this]
  ·rfl
theorem ir{kindOf:Str->Option NameKind}{x:Str}:∀ {binds:List (Str×δ)}{m:Str->OU},(∀ v,(x,v)∉binds)->bindC kindOf binds m x=m x
 | [],_,_=>rfl
 | (n,v):: r,m,h=>by
  unfold bindC;rw[ir λw hw=>h w (C7 _ hw)];split
  ·rfl
  ·have:x≠n:=by rintro rfl;exact h v CT
   simp[this]
theorem iO{kindOf:Str->Option NameKind}{x:Str}{v:δ}:∀ {P:LS}{vs:LU}{i:Nat}{m:Str->OU},P.Nodup->P[i]?≈x->vs[i]?≈v->kindOf x≈.local ->
  bindL kindOf (P.zip vs) m x≈v
 | [],_,_,_,_,h,_,_=>by simp at h
 | _ :: _,[],_,_,_,_,h,_=>by simp at h
 | p :: P,w :: vs,0,m,nd,h1,h2,hk=>by
  simp at h1 h2;subst h1;subst h2;show bindL kindOf ((p,w):: P.zip vs) m p=_;unfold bindL;rw[iP λv hv=>(ID.mp nd).1 (List.of_mem_zip hv).1,if_pos hk];simp
 | p :: P,w :: vs,i + 1,m,nd,h1,h2,hk=>by
  show bindL kindOf ((p,w):: P.zip vs) m x=_;unfold bindL;exact iO (i:=i) (ID.mp nd).2 (by simpa using h1) (by simpa using h2) hk
theorem iq{kindOf:Str->Option NameKind}{x:Str}{v:δ}:∀ {P:LS}{vs:LU}{i:Nat}{m:Str->OU},P.Nodup->P[i]?≈x->vs[i]?≈v->kindOf x≠some .local ->
  bindC kindOf (P.zip vs) m x≈v
 | [],_,_,_,_,h,_,_=>by simp at h
 | _ :: _,[],_,_,_,_,h,_=>by simp at h
 | p :: P,w :: vs,0,m,nd,h1,h2,hk=>by
  simp at h1 h2;subst h1;subst h2;show bindC kindOf ((p,w):: P.zip vs) m p=_;unfold bindC;rw[ir λv hv=>(ID.mp nd).1 (List.of_mem_zip hv).1,if_neg hk];simp
 | p :: P,w :: vs,i + 1,m,nd,h1,h2,hk=>by
  show bindC kindOf ((p,w):: P.zip vs) m x=_;unfold bindC;exact iq (i:=i) (ID.mp nd).2 (by simpa using h1) (by simpa using h2) hk
def start(N:LS)(vs:LV):St:=vs.map some++List.replicate (↑N - ↑vs) none
def LH(CX:Et)(P:χ)(w:World)(K:Fg)(mg:Str->OU)(base:Heap)(N:LS)(qual:Str)(scope:Scope)(f:μ)(cd:δ)(A:Around)(outer:List Env)(s:ε)(H:Hp)(E:XK):Cx where
 prog:=P
 w:=w
 K:=K
 mg:=mg
 base:=base
 A:=A.deeper (envOfC qual scope ⇑s f cd)
 N:=N
 s₀:=s
 H₀:=H
 env:=envOfC qual scope ⇑s f cd
 outer:=outer
 stack:=envOfC qual scope ⇑s f cd :: outer
 ex:=[]
 calm:=true
 fn:=λ_=>true
 pn:=[]
 xe:=λe s'=>wpAny (model P w) (A.deeper (envOfC qual scope ⇑s f cd)) (leaving (envOfC qual scope ⇑s f cd) e) (λ_ Ea=>CX outer H s E e Ea) (λe' Ea=>CX outer H s E e' Ea) s'
def gW{sc:Scope}{n:Nat}{x:Str}(h:sc.names.lookup x≈.cell):∃ c,(cellsFrom n sc.names []).lookup x≈c:=by
 have q:=W.cellsFrom_some sc.names n [] (.inl h);exact Zp.mp q
def sP{CX:Et}{P:χ}{w:World}{K:Fg}{mg:Str->OU}{base:Heap}{N ps:LS}{qual:Str}{scope:Scope}{f:μ}{cd:δ}{A:Around}{outer:List Env}{s s1:ε}{H:Hp}{E:XK}{us:LU}{vs:LV}
  (S:Am N ps scope) (hd:A.handled=none) (e0:Fh P w K mg base A outer s H) (hl:↑vs=↑ps) (r:Aa vs us)
  (x:InCallC s ⇑s (bindL (envOfC qual scope ⇑s f cd).kindOf (ps.zip us) λ_=>none) (cellsFrom 7.2 scope.names []) (bindC (envOfC qual scope ⇑s f cd).kindOf (ps.zip us) λ_=>none) s1):
  Inv (LH CX P w K mg base N qual scope f cd A outer s H E) [] (start N vs) H s1:=by
 have hpl:↑ps<=↑N:=by have:=congrArg List.length S.pre;rw[Yy]at this;omega
 obtain⟨h1,tk,rfl,hk⟩:=x.done;have noA:∀ b:μ,b∉(LH CX P w K mg base N qual scope f cd A outer s H E).ex:=λb z=>absurd (show b∈([]:ξ)from z) 1.1;refine⟨⟨e0.mod,S.kind,Y,Y,Ye _,λy z c h1 h2=>?_,λy hy=>?_,λy c _ h=>?_,λ_=>hd,Around.frames_deeper e0.frames,.inr ⟨Y,Y⟩,λb z=>absurd z (noA b),e0.bs,e0.bsz,λb _ _=>noA b,λb z=>absurd z (noA b),e0.funs,e0.frf⟩,
  Y,e0.bare,Un.kept hk,⟨_,x.toInCall.ns,λi y v h1 h2 h3=>?_⟩,λy c h=>⟨_,x.cell y c h⟩,e0.hok.fresh (Ye _),λy c h=>?_,λp hp=>absurd (show p∈([]:PL)from hp) 1.1,e0.hok.kept hk,?_⟩
 ·exact name_of_addr x.apart (LJ h1) (LJ h2)
 ·have hy:scope.names.lookup y≈.cell\/scope.names.lookup y≈.free:=hy
  rcases hy with hy | hy
  ·exact gW hy
  ·exact absurd rfl (S.nofree _ (LJ hy))
 ·exact My (x.above y c (LJ h))
 ·have hi:i<↑vs:=by
   unfold start at h2;by_cases hi:i<↑vs
   ·exact hi
   ·rw[LW (by simpa using hi)]at h2;rw[List.getElem?_replicate]at h2;split at h2 <;> cases h2
  have ha:vs[i]?≈v:=by
   unfold start at h2;rw[J_ (by simpa using hi),Yn]at h2;cases e:vs[i]? with
   | none=>rw[e]at h2;cases h2
   | some a=>rw[e]at h2;cases h2;rfl
  obtain⟨u,hu,rv⟩:=r.get ha;have hp:ps[i]?≈y:=by
   rw[<- S.pre,List.getElem?_take_of_lt 0.0];exact h1
  have ndP:ps.Nodup:=by rw[<- S.pre];exact S.nd.sublist (List.take_sublist _ _)
  refine⟨u,rv,?_⟩
  rcases S.par y (Yc hp)with k | k
  ·exact .inl ⟨k,iO ndP hp hu k⟩
  ·obtain⟨c,e⟩:=gW (n:=⇑s + 1) k;refine .inr ⟨.inl k,c,e,?_⟩;have q:=x.cell y c e;rw[iq ndP hp hu (by show scope.names.lookup y≠_;rw[k];decide)]at q;exact q
 ·exact e0.hok.fresh (My (x.above y c (LJ h)))
 ·unfold start;show _=↑N;rw[Ym,Ya,List.length_replicate];omega
def jz{CX:Et}{P:χ}{w:World}{K:Fg}{mg:Str->OU}{base:Heap}{k:Nat}{f:μ}{name qual:Str}{params:Arguments}{body:List Stmt}{scope:Scope}{dV kV doc pm BC ct oc:δ}{an od:Option μ}
  {osl:Array (OU)} {N ps:LS} {sp:Sp} (lk:K.lookup f≈⟨oc,od,.func (W.fnOf name qual params body scope dV kV doc pm an BC ct),osl⟩) (hcd:W.codeIn K BC qual=true) (S:Am N ps scope)
  (len:∀ vs H Q E,sp vs H Q E->↑vs=↑ps)
  (hbody:∀(A:Around) (outer:List Env) (s:ε) (H:Hp) (vs:LV) (Q:VK) (E:XK),AZ k (A.deeper (envOfC qual scope ⇑s f BC))->sp vs H Q E ->
   ∃ t,CK 12.0 body t/\t {nx:=λ_ H'=>Q .non H',rt:=Q} (start N vs) H):
  AV P w K mg base CX (k + 1) f (W.fnOf name qual params body scope dV kV doc pm an BC ct) ps sp:=by
 refine⟨len,λA outer s H args us vs Q E hr e0 hb r hsp=>?_⟩;have hl:=len _ _ _ _ hsp;have KX:K.In s.heap:=e0.mod.kin.keeps λb o e=>(e0.bs b o e).1;have lim:s.heap.NoLimit:=e0.mod.nolimit.keeps λb o e=>(e0.bs b o e).1;have hkind:∀ y∈ps.zip us,scope.names.lookup y.1≈.local\/(scope.names.lookup y.1≈.cell/\((cellsFrom 7.2 scope.names []).lookup y.1).isSome=true):=λ⟨n,v⟩ hy=>by
  rcases S.par n (List.of_mem_zip hy).1 with q | q
  ·exact .inl q
  ·exact .inr ⟨q,W.cellsFrom_some _ _ _ (.inl q)⟩
 refine codeAny_call_function hr.depth (KX _ _ lk) rfl S.co S.gen rfl (W.codeRec_of KX hcd) (hb _ _ _ _ ?_);refine wpAny_newFunctionEnv_cells S.kind hkind λenv he s1 x=>?_;subst he;refine⟨lim.keeps x.toInCall.keep,codeAny_func ?_⟩;obtain⟨t,ht,hq⟩:=hbody A outer s H vs Q E (hr.deeper _) hsp;have I:Inv 12.0 [] (start N vs) H s1:=sP S hr.hd e0 hl r x;refine Jf (ht [] s1 (start N vs) H _ I hq) (λfl s' hs=>?_) λe s' hs=>hs;have fin:∀ {σ':St} {H':Hp} {v:V} {u:δ},Inv 12.0 [] σ' H' s'->Aj v u->Q v H'->CE outer P w H s Q u s' :=
  λ{σ' H' v u} J rv q=>⟨v,H',J.os,J.bare,J.base,J.hok,rv,q⟩
 cases fl with
 | ret u =>
  obtain⟨v,σ',H',J,rv,q⟩:=hs;exact fin J rv q
 | next =>
  obtain⟨σ',H',J,q⟩:=hs;exact fin (v:=V.non) (u:=Value.none) J rfl q
 | brk =>
  obtain⟨_,_,_,q⟩:=hs;exact False.elim q
 | cont =>
  obtain⟨_,_,_,q⟩:=hs;exact False.elim q
section
variable {X:Cx}{x:Str}{p pos:Pos}{e:Expr}{es:τ}{t:TA}{id T:String}{r:LV->Hp->VK->Prop}
def cK(r:LV->Hp->VK->Prop)(t:TA):TE:=λσ H Q=>t σ H λvs H1=>r vs H1 Q
def A9(hc:FV X (.builtin id) r)(hg:Gl X x)(hm:X.mg x=none)(hv:bootBuiltins x≈(.builtin id))(ha:PA X (e :: es) t)(hn:x≠"__name__":=by decide)(hdb:(x == ("__debug__":Str))=false:=by decide)
  (he:starEach (e :: es) X.env=3.4:: starEach es X.env:=by rfl) (hpl:(backTo pos 3.6).any 0.5=false:=by rfl):PE X (.Call (.Name x p) (e :: es) [] pos) (cK r t):=by
 ac_rfl;refine wpAny_Call_Name_kw (K2 I hg hm hv ?_ hn hdb);exact PyProof.Rows.callWith_builtin1 14.7 he hpl
def EE(hc:FV X (.type T) r)(hg:Gl X x)(hm:X.mg x=none)(hv:bootBuiltins x≈(.type T))(ha:PA X (e :: es) t)(hn:x≠"__name__":=by decide)(hdb:(x == ("__debug__":Str))=false:=by decide)
  (he:starEach (e :: es) X.env=3.4:: starEach es X.env:=by rfl) (hpl:(backTo pos 3.6).any 0.5=false:=by rfl):PE X (.Call (.Name x p) (e :: es) [] pos) (cK r t):=by
 ac_rfl;refine wpAny_Call_Name_kw (K2 I hg hm hv ?_ hn hdb);exact Oq 14.7 he hpl
end
end L2
namespace HT
open PySem PyProof.Rows
section
open PySem.SeqAt
open PySem.AutoSeq1 (wpAny_loadPart')
open PySem.MeetsSeq PySem.MeetsSeq2 PySem.MeetsSeq3
end
section
variable {prog:χ}{w:World}{A:Around}{E:EV}{s:ε}
def cat_tup{t b:μ}{vs ws:LU}{Q:EV}(ht:IsTup s.heap t vs.toArray)(hb:IsTup s.heap b ws.toArray)(hv:vs≠[])
  (h1:ws=[]->Q (.ref t) s) (h2:ws≠[]->Q (.ref ⇑s) {s with heap:=s.heap.push {cls:=.type "tuple",data:=.seq (vs++ws).toArray} })
  (hsz:↑vs + ↑ws<=sizeLine):wpAny 0.6 A (binaryOp .Add (.ref t) (.ref b)) Q E s:=by
 obtain⟨⟨cls,dd,data,sl⟩,ho,hc,n,hd⟩:=id ht;obtain⟨⟨bO,Ta,data2,Sz⟩,GV,Pw,n2,hd2⟩:=id hb;simp only at hc hd Pw hd2;subst hc hd Pw hd2;have e:vs.toArray++ws.toArray=(vs++ws).toArray:=by simp
 by_cases hw:ws=[]
 ·exact concat_meets ⟨_,ho,Y⟩ ⟨_,GV,Y⟩ noFill_tuple_add seq_tuple_add PySem.F.slot_tuple_add Zl (Zo _ _)
   (tuple_addW1 t b vs.toArray ws.toArray n n2 dd Ta sl Sz (by simpa using hv) (by simp[hw])) ⟨ho,GV,h1 hw⟩
 ·refine concat_meets ⟨_,ho,Y⟩ ⟨_,GV,Y⟩ noFill_tuple_add seq_tuple_add PySem.F.slot_tuple_add Zl (Zo _ _)
   (tuple_addW2 t b vs.toArray ws.toArray n n2 dd Ta sl Sz (by simpa using hv) (by simpa using hw) (by rw[Yj,Yj];exact hsz)) ⟨ho,GV,?_⟩
  rw[e];exact h2 hw
def sIx(n d:Nat):Option Int->Nat
 | none=>d
 | some v=>if v<0 then(v + (n:Int)).toNat else min v.toNat n
def sIx_none(n d:Nat):sIx n d none=d:=rfl
def sIx_nat(n d k:Nat):sIx n d (↥(k:Int))=min k n:=by
 show(if(k:Int)<0 then((k:Int) + (n:Int)).toNat else min (k:Int).toNat n)=min k n;rw[if_neg 0.0,Mt]
def xY(n d:Nat)(hd:d<=n)(o:Option Int):sIx n d o<=n:=by
 cases o with
 | none=>exact hd
 | some v =>
  show(if v<0 then(v + (n:Int)).toNat else min v.toNat n)<=n;by_cases hv:v<0
  ·rw[if_pos hv];omega
  ·rw[if_neg hv];exact Nat.min_le_right _ _
def eV(v:Int)(n d:Nat):(if v<0 then max (v + (n:Int)) 0 else min v (n:Int))=((sIx n d (↥v):Nat):Int):=by
 show(if v<0 then max (v + (n:Int)) 0 else min v (n:Int))=(((if v<0 then(v + (n:Int)).toNat else min v.toNat n):Nat):Int);by_cases hv:v<0
 ·simp only[if_pos hv];omega
 ·simp only[if_neg hv];omega
def t_(lo hi:Option Int)(n:Nat):Builtin.Slice.sliceAdjust lo hi 1 (n:Int)=(((sIx n 0 lo:Nat):Int),((sIx n n hi:Nat):Int)):=by
 have h1:¬ ((1:Int)<0):=by omega
 unfold Builtin.Slice.sliceAdjust;simp only[h1,if_false];refine Prod.ext ?_ ?_
 ·cases lo with
  | none=>rfl
  | some v=>exact eV v n 0
 ·cases hi with
  | none=>rfl
  | some v=>exact eV v n n
def uY(i j:Nat):Builtin.Slice.slicePlaces (i:Int) (j:Int) 1=j - i:=by
 unfold Builtin.Slice.slicePlaces;have h1:(1:Int) > 0:=by omega
 simp only[h1,if_true,Int.ediv_one];split <;> omega
def jV{v:δ}{o:Option Int}{Q:Option Int->ε->Prop}(p:IsPart v o)(h:Q o s):wpAny 0.6 A (Builtin.Slice.slicePartIndex v) Q E s:=by
 cases p with
 | none=>exact slicePart_none h
 | int i t=>exact slicePart_int h
def jq{sl:μ}{vl vu:δ}{lo hi:Option Int}{n:Nat}{Q:Int×Int×Nat->ε->Prop}(hs:s.heap.IsSliceOf sl vl vu .none)(pl:IsPart vl lo)(pu:IsPart vu hi)
  (h:Q (((sIx n 0 lo:Nat):Int),1,sIx n n hi - sIx n 0 lo) s):wpAny 0.6 A (Builtin.Slice.sliceApplied (.ref sl) (pure (n:Int))) Q E s:=by
 obtain⟨os,hos,hcs,hds⟩:=id hs;unfold Builtin.Slice.sliceApplied Builtin.Slice.sliceFields;refine Ja (Ja (Jg hos hds (x:=vl) rfl (Ja (Jg hos hds (x:=vu) rfl (Ja (Jg hos hds (x:=.none) rfl (Jd ?_)))))));refine Ja (slicePart_none ?_);show wpAny _ _ (if((1:Int) == 0)=true then _ else _) _ _ s;rw[if_neg 0.2];refine Ja (jV pl (Ja (jV pu (Ja (Jd ?_)))));show wpAny _ _ (match Builtin.Slice.sliceAdjust lo hi 1 (n:Int)with | (lo,hi)=>pure (lo,(1:Int),Builtin.Slice.slicePlaces lo hi 1)) _ _ s;rw[t_ lo hi n];show wpAny _ _ (pure (((sIx n 0 lo:Nat):Int),(1:Int),Builtin.Slice.slicePlaces ((sIx n 0 lo:Nat):Int) ((sIx n n hi:Nat):Int) 1)) _ _ s;rw[uY];exact Jd h
def rN(xs:ζ)(i k:Nat):((List.range k).filterMap λ(m:Nat)=>xs[((i:Int) + (m:Int) * 1).toNat]?).toArray=((xs.toList.drop i).take k).toArray:=by
 have e:(λ(m:Nat)=>xs[((i:Int) + (m:Int) * 1).toNat]?)=λm=>xs[i + m]?:=by
  funext m
  have:((i:Int) + (m:Int) * 1).toNat=i + m:=by omega
  rw[this]
 rw[e];have:=pick_run xs i k;rw[List.filterMap_map]at this;have e2:((λx=>xs[x]?) ∘ λx=>i + x)=λm=>xs[i + m]?:=rfl;rw[e2]at this;rw[this]
def getItem_tuple_cut{t sl:μ}{items:ζ}{vl vu:δ}{lo hi:Option Int}{Q:EV}(ht:IsTup s.heap t items)(hs:s.heap.IsSliceOf sl vl vu .none)(pl:IsPart vl lo)(pu:IsPart vu hi)
  (hw:¬ (sIx items.size 0 lo=0/\sIx items.size items.size hi=items.size))
  (h:Q (.ref ⇑s) {s with heap:=s.heap.push {cls:=.type "tuple",data:=.seq ((items.toList.drop (sIx items.size 0 lo)).take 12.3).toArray} })
  (hsz:items.size<=sizeLine):wpAny 0.6 A (getItem (.ref t) (.ref sl)) Q E s:=by
 have htake:sizeOk (.seq ((items.toList.drop (sIx items.size 0 lo)).take 12.3).toArray):=by
  show((items.toList.drop (sIx items.size 0 lo)).take 12.3).toArray.size<=sizeLine;rw[Yj,Yy,Mo,Rq];omega
 have hj:sIx items.size items.size hi<=items.size:=xY _ _ (Ye _) hi;obtain⟨os,hos,hcs,hds⟩:=id hs;have hTs:s.TypeIs (.ref sl) "slice":=⟨os,hos,hcs⟩;unfold getItem
 try with_reducible refine Jj ?_
 first | refine Ja (Jd ?_) | skip
 refine Ja (wpAny_sequenceKey ht.typeIs 0.2 ?_);refine Ja (wpAny_callSpecial?_slot (name:=Str.ofString "__getitem__") ht.typeIs Ov
  (wpAny_call_entry Ov ht.typeIs entry_tuple_getitem ?_ (args_tuple_getitem _ _)))
 show wpAny _ _ (Builtin.Tuple.tupleItemsOf (.ref t)>>=_) _ _ s;refine Ja (tupleItemsOf_ ht ?_);refine Ja (wpAny_typeOf hTs ?_);rw[if_pos 0.2];refine Ja (jq hs pl pu ?_);have hno:¬ (2.5=true):=by
  intro q;rw[Fc,Fc]at q;have q1:((sIx items.size 0 lo:Nat):Int)=0:=eq_of_beq q.1.1;have q2:sIx items.size items.size hi - sIx items.size 0 lo=items.size:=eq_of_beq q.2;exact hw ⟨V,V⟩
 show wpAny _ _ (if 2.5=true then _ else _) _ _ s;rw[if_neg hno,rN]
 first
  | exact Ja (m:=Builtin.Tuple.tupleExact _) (wpAny_newObj_type (Jd ⟨_,rfl,Jd h⟩) htake)
  | exact Ja (m:=Builtin.Tuple.tupleExact _) (wpAny_newObj_type (Ja (Jd (Jd ⟨_,rfl,Jd h⟩))) htake)
  | exact Ja (Ja (m:=Builtin.Tuple.tupleExact _) (wpAny_newObj_type (Jd (Jd ⟨_,rfl,Jd h⟩)) htake))
  | exact Ja (Ja (m:=Builtin.Tuple.tupleExact _) (wpAny_newObj_type (Jd ⟨_,rfl,Jd h⟩) htake))
end
end HT
namespace L2
open PySem PySem.Spec PyProof.Rows
abbrev TO:=St->Hp->(Option Int->Hp->Prop)->Prop
def PO(X:Cx)(e:Option Expr)(t:TO):Prop :=
 ∀(ρ:PL) (s:ε) (σ:St) (H:Hp) (Q:Option Int->Hp->Prop),Inv X ρ σ H s->t σ H Q ->
  wpAny 0.3 X.A (evalPart e X.env) (λu s'=>∃ o H',Inv X ρ σ H' s'/\IsPart u o/\Q o H') X.xe s
def gN:TO:=λ_ H Q=>Q none H
inductive lQ(Q:Option Int->Hp->Prop)(x:V)(H1:Hp):Prop
 | mk:∀ i,x=.int i->Q (↥i) H1->lQ Q x H1
def wC(t:TE):TO:=λσ H Q=>t σ H λx H1=>lQ Q x H1
section
variable {X:Cx}{e:Expr}{te:TE}{lo hi:Option Expr}{tl th:TO}{pos p2:Pos}
def HH:PO X none gN:=by
 ac_rfl;rw[evalPart_none];exact Jd ⟨none,H,I,.none,h⟩
def FH(h:PE X e te):PO X (↥e) (wC te):=by
 intro ρ s σ H Q I hw;rw[evalPart_some];refine AK (h ρ s σ H _ I hw) λu s1 ⟨x,H1,I1,r1,q1⟩=>?_;obtain⟨i,rfl,q⟩:=q1;obtain⟨t,rfl⟩:=r1;exact⟨↥i,H1,I1,.int i t,q⟩
def JL(X:Cx)(r:V->Option Int->Option Int->Hp->VK->Prop):Prop :=
 ∀(ρ:PL) (s:ε) (σ:St) (H:Hp) (x:V) (v vl vu:δ) (lo hi:Option Int) (sl:μ) (Q:VK),Inv X ρ σ H s->Aj x v->s.heap.IsSliceOf sl vl vu .none->IsPart vl lo->IsPart vu hi->r x lo hi H Q ->
  ∃ T id,typeLookup (.type T) "__getitem__"=pure (↥(.builtin id))/\s.TypeIs v T/\wpAny 0.3 X.A (getItem v (.ref sl)) 6.8 X.xe s
def JL.or{r r':V->Option Int->Option Int->Hp->VK->Prop}(h:JL X r)(h':JL X r'):JL X (λx lo hi H Q=>r x lo hi H Q\/r' x lo hi H Q):=by
 intro ρ s σ H x v vl vu lo hi sl Q I rx hs pl pu q
 rcases q with q | q
 ·exact h ρ s σ H x v vl vu lo hi sl Q I rx hs pl pu q
 ·exact h' ρ s σ H x v vl vu lo hi sl Q I rx hs pl pu q
def oR(r:V->Option Int->Option Int->Hp->VK->Prop)(te:TE)(tl th:TO):TE:=λσ H Q=>te σ H λx H1=>tl σ H1 λl H2=>th σ H2 λu H3=>r x l u H3 Q
def F0{r:V->Option Int->Option Int->Hp->VK->Prop}(hr:JL X r)(he:PE X e te)(hl:PO X lo tl)(hu:PO X hi th):PE X (.Subscript e (.Slice lo hi none p2) pos) (oR r te tl th):=by
 ac_rfl;refine Subscript_ (AK (he ρ s σ H _ I h) λv s1 ⟨x,H1,I1,r1,q1⟩=>?_);refine wpAny_Slice (AK (hl ρ s1 σ H1 _ I1 q1) λvl s2 ⟨l,H2,I2,pl,q2⟩=>AK (hu ρ s2 σ H2 _ I2 q2) λvu s3 ⟨u,H3,I3,pu,q3⟩=>?_);rw[evalPart_none];refine Jd ?_;have I4:Inv X ρ σ H3 {s3 with heap:=s3.heap.push {cls:=.type "slice",data:=.fields #[vl,vu,.none] } }:=I3.kept (t':=s3.toks) λb ob q=>Yb _ q;obtain⟨T,id,hT,ht,hg⟩:=hr ρ {s3 with heap:=s3.heap.push {cls:=.type "slice",data:=.fields #[vl,vu,.none] } } σ H3 x v vl vu l u ⇑s3 Q I4 r1 (Heap.IsSliceOf.new ..) pl pu q3;show wpAny 0.3 X.A (subscriptTail e (.Slice lo hi none p2) v (.ref ⇑s3)) 6.8 X.xe {s3 with heap:=s3.heap.push {cls:=.type "slice",data:=.fields #[vl,vu,.none] } };exact tail_any (ops:=[.ref ⇑s3,v]) ht hT hg 1.3
def BQ(xs:LV)(lo hi:Option Int):LV:=(xs.drop (HT.sIx ↑xs 0 lo)).take (HT.sIx ↑xs ↑xs hi - HT.sIx ↑xs 0 lo)
def jb(xs:LV)(lo hi:Option Int):↑(BQ xs lo hi)<=↑xs:=by
 unfold BQ;rw[Yy,Mo];omega
inductive nJ(K:Fg)(x:V)(lo:Option Int)(hi:Option Int)(H:Hp)(Q:VK):Prop
 | mk:∀ a xs,x=.ref a->AH K H a xs->¬ (HT.sIx ↑xs 0 lo=0/\HT.sIx ↑xs ↑xs hi=↑xs)->(∀ p,H p=none->Q (.ref p) (upd H p (.tup (BQ xs lo hi))))->nJ K x lo hi H Q
def xS:JL X (nJ X.K):=by
 intro ρ s σ H x v vl vu lo hi sl Q I rx hs pl pu h;obtain⟨a,xs,rfl,hx,hw,q⟩:=h;cases rx;obtain⟨ν,r,ht,hz⟩:=I.tuple hx;have hlen:ν.toArray.size=↑xs:=by rw[Yj];exact r.length.symm
 refine⟨"tuple",_,Ov.lookup,ht.typeIs,?_⟩;refine HT.getItem_tuple_cut ht hs pl pu (by rw[hlen];exact hw) ?_ (by rw[hlen];exact hz);rw[hlen];refine⟨.ref ⇑s,_,I.laid (t':=s.toks) (o:=.tup (BQ xs lo hi)) (λb ob q=>Yb _ q) (Ye _) ?_,rfl,q _ 6.9⟩;exact⟨BU (jb xs lo hi) hz,_,(r.drop (HT.sIx ↑xs 0 lo)).take (HT.sIx ↑xs ↑xs hi - HT.sIx ↑xs 0 lo),IsTup.new _ _⟩
inductive kA(K:Fg)(x:V)(y:V)(H:Hp)(Q:VK):Prop
 | mk:∀ a b xs ys,x=.ref a->y=.ref b->AH K H a xs->AH K H b ys->xs≠[]->↑xs + ↑ys<=sizeLine->(ys=[]->Q (.ref a) H)->(ys≠[]->∀ p,H p=none->Q (.ref p) (upd H p (.tup (xs++ys))))->kA K x y H Q
def Aa.nil_iff{xs:LV}{us:LU}(r:Aa xs us):us=[]↔xs=[]:=by
 cases r with
 | nil=>simp
 | cons _ _=>simp
def yq:Bd X (binaryOp .Add) (kA X.K):=by
 exfalso;obtain⟨a,b,xs,ys,rfl,rfl,ha,hb,hx,hz,q1,q2⟩:=h;cases rx;cases ry;obtain⟨ν,r1,p1,_⟩:=I.tuple ha;obtain⟨Di,r2,p2,_⟩:=I.tuple hb;refine HT.cat_tup p1 p2 (λz=>hx (r1.nil_iff.mp z)) (λz=>⟨.ref a,H,I,Y,q1 (r2.nil_iff.mp z)⟩) (λz=>?_) (by rw[<- ↑r1,<- ↑r2];exact hz);refine⟨.ref ⇑s,_,I.laid (t':=s.toks) (o:=.tup (xs++ys)) (λb ob q=>Yb _ q) (Ye _) ?_,Y,q2 (λw=>z (r2.nil_iff.mpr w)) _ 6.9⟩;exact⟨by rw[Ym];exact hz,_,r1.append r2,IsTup.new _ _⟩
end
def JQ(n:Nat)(i:Int):Option Nat:=if 0<=i then(if i<n then ↥i.toNat else none)else if -(n:Int)<=i then ↥(i + n).toNat else none
def Cr{α:Type}(xs:List α)(i:Int):Option α:=(JQ ↑xs i).bind λj=>xs[j]?
def fZ{n:Nat}{i:Int}{j:Nat}(h:JQ n i≈j):seqIndex? i n≈j/\j<n/\-(n:Int)<=i/\i<n:=by
 unfold JQ at h;by_cases h0:0<=i
 ·rw[if_pos h0]at h;by_cases h1:i<n
  ·rw[if_pos h1]at h;have e:i.toNat=j:=Yt h;exact⟨by rw[seqIndex_of h0 h1,e],V,V,h1⟩
  ·rw[if_neg h1]at h;cases h
 ·rw[if_neg h0]at h;by_cases h1:-(n:Int)<=i
  ·rw[if_pos h1]at h;have e:(i + n).toNat=j:=Yt h;exact⟨by rw[seqIndex_neg 0.0 h1,e],V,h1,V⟩
  ·rw[if_neg h1]at h;cases h
def W5{α:Type}{xs:List α}{i:Int}{v:α}(h:Cr xs i≈v):∃ j,seqIndex? i ↑xs≈j/\xs[j]?≈v/\j<↑xs/\-(↑xs:Int)<=i/\i<↑xs:=by
 unfold Cr at h;cases e:JQ ↑xs i with
 | none=>rw[e]at h;cases h
 | some j =>
  rw[e]at h;obtain⟨h1,h2,h3,h4⟩:=fZ e;exact⟨j,h1,h,h2,h3,h4⟩
def EA{α:Type}{xs:List α}{j:Nat}{v:α}(h:xs[j]?≈v):Cr xs (j:Int)≈v:=by
 have hj:j<↑xs:=(Yg.mp h).1;have e:JQ ↑xs (j:Int)≈j:=by
  unfold JQ;rw[if_pos 0.0,if_pos 0.0];simp
 unfold Cr;rw[e];exact h
def xf(b:Expr):Prop:=∀ o i,subscripted b false o i=operate [o,i] (getItem o i)
def R5(X:Cx)(r:R2):Prop :=
 ∀(value slice:Expr) (ρ:PL) (s:ε) (σ:St) (H:Hp) (x y:V) (v u:δ) (Q:VK),Inv X ρ σ H s->Aj x v->Aj y u->r x y H Q ->
  subscripted slice false v u=operate [v,u] (getItem v u)->wpAny 0.3 X.A (subscriptTail value slice v u) 6.8 X.xe s
def nu(X:Cx)(id:String)(r:V->LV->Hp->VK->Prop):Prop :=
 ∀(ρ:PL) (s:ε) (σ:St) (H:Hp) (x:V) (xs:LV) (v:δ) (us:LU) (Q:VK),Inv X ρ σ H s->Aj x v->Aa xs us->r x xs H Q ->
  wpAny 0.3 X.A (call (.builtin id) (v :: us)) 6.8 X.xe s
section
variable {X:Cx}{a b:Expr}{ta tb:TE}{pos:Pos}
def Ac{r:R2}(hr:R5 X r)(ha:PE X a ta)(hb:PE X b tb)(hs:xf b):PE X (.Subscript a b pos) (PJ r ta tb):=by
 ac_rfl;exact Subscript_ (Zy ha hb I h λv u s2 x y H2 I2 rx ry q=>hr a b ρ s2 σ H2 x y v u Q I2 rx ry q (hs _ _))
inductive A0(K:Fg)(x:V)(y:V)(H:Hp)(Q:VK):Prop
 | mk:∀ p xs i v,x=.ref p->y=.int i->SqL K H p xs->Cr xs i≈v->Q v H->A0 K x y H Q
inductive C_(K:Fg)(x:V)(y:V)(H:Hp)(Q:VK):Prop
 | mk:∀ p xs i v,x=.ref p->y=.int i->AH K H p xs->Cr xs i≈v->Q v H->C_ K x y H Q
inductive nG(x:V)(y:V)(H:Hp)(Q:VK):Prop
 | mk:∀ z i c,x=.str z->y=.int i->↑z<=sizeLine->Cr z.cps.toList i≈c->Q (.str ⟨#[c]⟩) H->nG x y H Q
def Au:R5 X (A0 X.K):=by
 intro value slice ρ s σ H x y v u Q I rx ry h hs;obtain⟨p,xs,i,z,rfl,rfl,hq,he,q⟩:=h;cases rx;obtain⟨t,rfl⟩:=ry;obtain⟨ν,r,pl,hz⟩:=I.list hq;obtain⟨j,h1,h2,h3,h4,h5⟩:=W5 he;obtain⟨w,ew,G8⟩:=r.get h2;have hl:=↑r;have hn:=ME;have fin:EP X ρ σ Q w s:=⟨z,H,I,G8,q⟩;by_cases h0:0<=i
 ·have hj:i.toNat=j:=by
   rw[seqIndex_of h0 h5]at h1;exact Yt h1
  exact item_listR pl.isList h0 0.0 (by rw[hj];simpa using ew) fin hs
 ·have hj:(i + (ν.toArray.size:Int)).toNat=j:=by
   rw[seqIndex_neg 0.0 h4]at h1;rw[Yj,<- hl];exact Yt h1
  exact subscriptTail_builtinR (x:=w) pl.isList.typeIs slot_list_getitem.lookup
   (wpAny_getItem_list_neg (Q:=λr s'=>r=w/\EP X ρ σ Q r s') pl.isList 0.0 (by rw[Yj] <;> omega) 0.0 (by rw[hj];simpa using ew) ⟨rfl,fin⟩) hs
def Dp:R5 X (C_ X.K):=by
 intro value slice ρ s σ H x y v u Q I rx ry h hs;obtain⟨p,xs,i,z,rfl,rfl,hq,he,q⟩:=h;cases rx;obtain⟨t,rfl⟩:=ry;obtain⟨ν,r,pl,hz⟩:=I.tuple hq;obtain⟨j,h1,h2,h3,h4,h5⟩:=W5 he;obtain⟨w,ew,G8⟩:=r.get h2;have hl:=↑r;have hn:=ME;have fin:EP X ρ σ Q w s:=⟨z,H,I,G8,q⟩;exact subscriptTail_builtinR (x:=w) pl.typeIs slot_tuple_getitem.lookup
  (getItem_tuple (j:=j) (Q:=λr s'=>r=w/\EP X ρ σ Q r s') pl 0.0 0.0 (by rw[Yj,<- hl];exact h1) (by simpa using ew) ⟨rfl,fin⟩) hs
def wO:R5 X nG:=by
 intro value slice ρ s σ H x y v u Q I rx ry h hs;obtain⟨z,i,c,rfl,rfl,hz,he,q⟩:=h;obtain⟨t,rfl⟩:=rx;obtain⟨t',rfl⟩:=ry;obtain⟨j,h1,h2,h3,h4,h5⟩:=W5 he;have hl:↑z.cps.toList=↑z:=by simp[Str.length]
 rw[hl]at h1 h4 h5;have hn:=ME;exact tail_any (typeIs_str s z t) slot_str_getitem.lookup (getItem_str (c:=c) (by
  have e1:decide (i < -(2 ^ 63:Int))=false:=Jc 0.0;have e2:decide (i ≥ 2 ^ 63)=false:=Jc 0.0;rw[e1,e2,Bool.or_false]) (by rw[h1];simpa using h2) ⟨.str ⟨#[c]⟩,H,I.tok _,⟨_,rfl⟩,q⟩) hs
def uN(ν:LU)(n j:Nat)(u:δ):Obj.mapSeq (·.setIfInBounds j u) {cls:=.type "list",data:=.seq ν.toArray n}={cls:=.type "list",data:=.seq (ν.set j u).toArray n}:=by
 simp[Obj.mapSeq]
theorem Inv.lst{ρ:PL}{σ:St}{H:Hp}{s:ε}{p:μ}{xs:LV}(I:Inv X ρ σ H s)(h:H p≈(.lst xs)):
  ∃(ν:LU) (n:Nat),Aa xs ν/\s.heap.get? p=some {cls:=.type "list",data:=.seq ν.toArray n}/\↑xs<=sizeLine:=by
 obtain⟨z,ν,n,r,e⟩:=I.hok p _ h;exact⟨ν,n,r,e,z⟩
def Inv.lstUpd{ρ:PL}{σ:St}{H:Hp}{s:ε}{p:μ}{xs ys:LV}{ν its':LU}{n n':Nat}{f:Obj->Obj}(I:Inv X ρ σ H s)(h:H p≈(.lst xs))
  (ho:s.heap.get? p=some {cls:=.type "list",data:=.seq ν.toArray n}) (hf:f {cls:=.type "list",data:=.seq ν.toArray n}={cls:=.type "list",data:=.seq its'.toArray n' }) (r:Aa ys its') (hz:↑ys<=sizeLine) (t:Nat):
  Inv X ρ σ (upd H p (.lst ys)) {s with heap:=s.heap.update p f,toks:=t}:=by
 have e:(s.heap.update p f).get? p=some {cls:=.type "list",data:=.seq its'.toArray n' }:=by
  rw[Gq f ho (by rw[hf] <;> rfl),hf]
 refine I.write (x:=p) (e:=p) (by rw[h];trivial) (.inl rfl) (λb u hb q=>(IA _ _ (Yz hb)).trans q) ⟨_,e⟩ ?_;exact⟨hz,its',n',r,e⟩
inductive kU(o:V)(i:V)(v:V)(H:Hp)(Q:(Hp->Prop)):Prop
 | mk:∀ p xs k j,o=.ref p->i=.int k->H p≈(.lst xs)->JQ ↑xs k≈j->Q (upd H p (.lst (xs.set j v)))->kU o i v H Q
def hV:mC X kU:=by
 intro ρ s σ H o i v ov iv u Q I ro ri rv h;obtain⟨p,xs,k,j,rfl,rfl,hp,hj,q⟩:=h;cases ro;obtain⟨t,rfl⟩:=ri;obtain⟨ν,n,r,ho,hz⟩:=I.lst hp;obtain⟨h1,h2,h3,h4⟩:=fZ hj;have hl:=↑r;have hn:=ME;have I':Inv X ρ σ (upd H p (.lst (xs.set j v))) {s with heap:=s.heap.update p (Obj.mapSeq (·.setIfInBounds j u)) } :=
  I.lstUpd hp ho (uN ν n j u) (r.set rv j) (by rw[List.length_set];exact hz) s.toks
 by_cases h0:0<=k
 ·have hk:k.toNat=j:=by
   rw[seqIndex_of h0 h4]at h1;exact Yt h1
  exact W.ki_setAt ho h0 0.0 (by rw[Yj,<- hl];exact h4) (by rw[hk];exact⟨_,I',q⟩)
 ·have hk:(k + (ν.toArray.size:Int)).toNat=j:=by
   rw[seqIndex_neg 0.0 h3]at h1;rw[Yj,<- hl];exact Yt h1
  exact W.ki_setBack ho 0.0 (by rw[Yj,<- hl];exact h3) 0.0 (by rw[hk];exact⟨_,I',q⟩)
def vX(lo hi:Option Int)(n:Nat):(sliceBounds lo hi none n).1=((HT.sIx n 0 lo:Nat):Int)/\(sliceBounds lo hi none n).2.1=((HT.sIx n n hi:Nat):Int)/\(sliceBounds lo hi none n).2.2=1:=by
 refine⟨?_,?_,rfl⟩
 ·cases lo with
  | none=>simp[sliceBounds,HT.sIx]
  | some i =>
   simp only[sliceBounds,HT.sIx,Option.getD_none,show(1:Int) > 0 by decide,if_true];by_cases h:i<0
   ·simp only[h,if_true] <;> omega
   ·simp only[h,if_false] <;> omega
 ·cases hi with
  | none=>simp[sliceBounds,HT.sIx]
  | some i =>
   simp only[sliceBounds,HT.sIx,Option.getD_none,show(1:Int) > 0 by decide,if_true];by_cases h:i<0
   ·simp only[h,if_true] <;> omega
   ·simp only[h,if_false] <;> omega
def vi(ν:LU)(lo hi:Option Int):slicePick ν.toArray lo hi none=((ν.drop (HT.sIx ↑ν 0 lo)).take (HT.sIx ↑ν ↑ν hi - HT.sIx ↑ν 0 lo)).toArray:=by
 obtain⟨h1,h2,h3⟩:=vX lo hi ν.toArray.size;unfold slicePick;rw[h1,h2,h3];simp only[sliceRange_one,pick_run,Yj] <;> rfl
inductive Gd(K:Fg)(x:V)(lo:Option Int)(hi:Option Int)(H:Hp)(Q:VK):Prop
 | mk:∀ a xs,x=.ref a->SqL K H a xs->(∀ p,H p=none->Q (.ref p) (upd H p (.lst (BQ xs lo hi))))->Gd K x lo hi H Q
def Hu:JL X (Gd X.K):=by
 intro ρ s σ H x v vl vu lo hi sl Q I rx hs pl pu h;obtain⟨a,xs,rfl,hx,q⟩:=h;cases rx;obtain⟨ν,r,ht,hz⟩:=I.list hx;have hlen:=↑r;refine⟨"list",_,slot_list_getitem.lookup,ht.isList.typeIs,?_⟩;refine wpAny_getItem_list_slice ht.isList hs pl pu .none 1.1 ?_ (by rw[Yj] <;> omega);rw[vi,<- hlen];refine⟨.ref ⇑s,_,I.laid (t':=s.toks) (o:=.lst (BQ xs lo hi)) (λb ob q=>Yb _ q) (Ye _) ?_,rfl,q _ 6.9⟩;exact⟨BU (jb xs lo hi) hz,_,0,(r.drop (HT.sIx ↑xs 0 lo)).take (HT.sIx ↑xs ↑xs hi - HT.sIx ↑xs 0 lo),Yk _ rfl⟩
def Jl:V->Bool
 | .non=>true
 | .bl _=>true
 | .int _=>true
 | .str _=>true
 | _=>false
def Kp:V->V->Bool
 | .non,.non=>true
 | .bl a,.bl b=>a == b
 | .bl a,.int b=>(if a then 1 else 0) == b
 | .int a,.bl b=>a == (if b then 1 else 0)
 | .int a,.int b=>a == b
 | .str a,.str b=>a == b
 | _,_=>false
def wM{A:Around}{s:ε}{y x:V}{u v:δ}(ry:Aj y u)(rx:Aj x v)(fy:Jl y=true)(fx:Jl x=true):SeqAt.EqAt A s u v (Kp y x):=by
 cases y with
 | non =>
  cases ry;cases x with
  | non=>cases rx;exact SeqAt.EqAt.same _
  | bl b=>cases rx;exact SeqAt.EqAt.none_bool b
  | int b=>obtain⟨t,rfl⟩:=rx;exact SeqAt.EqAt.none_int b t
  | str b=>obtain⟨t,rfl⟩:=rx;exact SeqAt.EqAt.none_str b t
  | _=>exact absurd (show false=true from fx) Yl
 | bl a =>
  cases ry;cases x with
  | non=>cases rx;exact SeqAt.EqAt.bool_none a
  | bl b=>cases rx;exact SeqAt.EqAt.bool_bool a b
  | int b=>obtain⟨t,rfl⟩:=rx;exact SeqAt.EqAt.bool_int a b t
  | str b=>obtain⟨t,rfl⟩:=rx;exact SeqAt.EqAt.bool_str a b t
  | _=>exact absurd (show false=true from fx) Yl
 | int a =>
  obtain⟨t',rfl⟩:=ry;cases x with
  | non=>cases rx;exact SeqAt.EqAt.int_none a t'
  | bl b=>cases rx;exact SeqAt.EqAt.int_bool a t' b
  | int b=>obtain⟨t,rfl⟩:=rx;exact SeqAt.EqAt.int_int a t' b t
  | str b=>obtain⟨t,rfl⟩:=rx;exact SeqAt.EqAt.int_str a t' b t
  | _=>exact absurd (show false=true from fx) Yl
 | str a =>
  obtain⟨t',rfl⟩:=ry;cases x with
  | non=>cases rx;exact SeqAt.EqAt.str_none a t'
  | bl b=>cases rx;exact SeqAt.EqAt.str_bool a t' b
  | int b=>obtain⟨t,rfl⟩:=rx;exact SeqAt.EqAt.str_int a t' b t
  | str b=>obtain⟨t,rfl⟩:=rx;exact SeqAt.EqAt.str_str a t' b t
  | _=>exact absurd (show false=true from fx) Yl
 | _=>exact absurd (show false=true from fy) Yl
def FR(x:V)(u:δ):Bool:=match u with
 | .none=>Kp .non x
 | .bool b=>Kp (.bl b) x
 | .int i _=>Kp (.int i) x
 | .str z _=>Kp (.str z) x
 | _=>false
def ko{x y:V}{u:δ}(r:Aj y u)(f:Jl y=true):FR x u=Kp y x:=by
 cases y with
 | non=>cases r;rfl
 | bl b=>cases r;rfl
 | int i=>obtain⟨t,rfl⟩:=r;rfl
 | str z=>obtain⟨t,rfl⟩:=r;rfl
 | _=>exact absurd (show false=true from f) Yl
theorem Qg{x:V}:∀ {xs:LV}{us:LU},Aa xs us->xs.all Jl=true->us.any (FR x)=xs.any λy=>Kp y x
 | _,_,.nil,_=>rfl
 | y :: xs,u :: us,.cons r t,f=>by
  rw[LX,Fc]at f;rw[J7,J7,ko r f.1,Qg t f.2]
theorem Qs{A:Around}{s:ε}{x:V}{v:δ}(rx:Aj x v)(fx:Jl x=true):∀ {xs:LV}{us:LU},Aa xs us->xs.all Jl=true->∀ u∈us,SeqAt.EqAt A s u v (FR x u)
 | _,_,.nil,_=>λu hu=>by cases hu
 | y :: xs,u :: us,.cons r t,f=>λu' hu=>by
  rw[LX,Fc]at f
  rcases Yv.mp hu with rfl | hu
  ·rw[ko r f.1];exact wM r rx f.1 fx
  ·exact Qs rx fx t f.2 u' hu
def Bh(x:V)(xs:LV):Bool:=xs.any λy=>Kp y x
inductive Dz(K:Fg)(neg:Bool)(x:V)(y:V)(H:Hp)(Q:VK):Prop
 | mk:∀ p xs,y=.ref p->(SqL K H p xs\/AH K H p xs)->Jl x=true->xs.all Jl=true->Q (.bl (if neg then !Bh x xs else Bh x xs)) H->Dz K neg x y H Q
def HL:Bd X (compareOp .In) (Dz X.K false):=by
 exfalso;obtain⟨p,xs,rfl,hq,fx,fs,q⟩:=h;cases ry
 rcases hq with hq | hq
 ·obtain⟨ν,r,pl,hz⟩:=I.list hq;refine SeqAt.in_listAt (FR x) pl.isList 8.7 ⟨.bl _,H,I,rfl,?_⟩;rw[show ν.toArray.any (FR x)=ν.any (FR x) by simp,Qg r fs];exact q
 ·obtain⟨ν,r,pl,hz⟩:=I.tuple hq;refine SeqAt.in_tupleAt (FR x) pl 8.7 ⟨.bl _,H,I,rfl,?_⟩;rw[show ν.toArray.any (FR x)=ν.any (FR x) by simp,Qg r fs];exact q
def Mb:Bd X (compareOp .NotIn) (Dz X.K true):=by
 exfalso;obtain⟨p,xs,rfl,hq,fx,fs,q⟩:=h;cases ry
 rcases hq with hq | hq
 ·obtain⟨ν,r,pl,hz⟩:=I.list hq;refine SeqAt.notIn_listAt (FR x) pl.isList 8.7 ⟨.bl _,H,I,rfl,?_⟩;rw[show ν.toArray.any (FR x)=ν.any (FR x) by simp,Qg r fs];exact q
 ·obtain⟨ν,r,pl,hz⟩:=I.tuple hq;refine SeqAt.notIn_tupleAt (FR x) pl 8.7 ⟨.bl _,H,I,rfl,?_⟩;rw[show ν.toArray.any (FR x)=ν.any (FR x) by simp,Qg r fs];exact q
def C5:FV X (.builtin "len") (λxs H Q=>∃ p ys,xs=[.ref p]/\(SqL X.K H p ys\/AH X.K H p ys)/\Q (.int ↑ys) H):=by
 intro ρ s σ H xs us Q I r h;obtain⟨p,ys,rfl,hq,q⟩:=h;obtain⟨u,rfl,rx⟩:=Hn r;cases rx;have hn:=ME
 rcases hq with hq | hq
 ·obtain⟨ν,r',pl,hz⟩:=I.list hq;have hlen:=↑r';exact Calls.call_len_list pl.isList 12.5 ⟨.int ↑ys,H,I.tok _,⟨s.toks + 1,by rw[Yj,hlen]⟩,q⟩
 ·obtain⟨ν,r',pl,hz⟩:=I.tuple hq;have hlen:=↑r';exact len_tuple pl 12.5 ⟨.int ↑ys,H,I.tok _,⟨s.toks + 1,by rw[Yj,hlen]⟩,q⟩
def Uv:FV X (.type "list") (λxs H Q=>∃ p ys,xs=[.ref p]/\(SqL X.K H p ys\/AH X.K H p ys)/\∀ l,H l=none->Q (.ref l) (upd H l (.lst ys))):=by
 intro ρ s σ H xs us Q I r h;obtain⟨p,ys,rfl,hq,q⟩:=h;obtain⟨u,rfl,rx⟩:=Hn r;cases rx;have fin:∀(ν:LU),Aa ys ν->↑ys<=sizeLine->∀(h':Heap) (c':Nat),(∀ b o',s.heap.get? b≈o'->h'.get? b≈o') ->
   h'.get? ⇑s=some {cls:=.type "list",dict:=none,data:=.seq ν.toArray c',slots:=#[] }->EP X ρ σ Q (.ref ⇑s) {s with heap:=h' }:=λν r' hz h' c' kp e =>
  ⟨.ref ⇑s,_,I.laid (t':=s.toks) kp (Ye _) (show BI X.prog X.w _ h' _ (.lst ys)from⟨hz,ν,c',r',e⟩),Y,q _ 6.9⟩
 rcases hq with hq | hq
 ·obtain⟨ν,r',pl,hz⟩:=I.list hq;have hlen:=↑r';obtain⟨o,ho,hc,n,hd⟩:=pl.isList;exact call_list_seq p (.inl rfl) ho hc hd (λh' c' kp e=>fin ν r' hz h' c' kp e) 12.5
 ·obtain⟨ν,r',pl,hz⟩:=I.tuple hq;have hlen:=↑r';obtain⟨o,ho,hc,n,hd⟩:=pl;exact call_list_seq p (.inr rfl) ho hc hd (λh' c' kp e=>fin ν r' hz h' c' kp e) 12.5
def OY:FV X (.type "tuple") (λxs H Q=>∃ p ys,xs=[.ref p]/\((SqL X.K H p ys/\∀ l,H l=none->Q (.ref l) (upd H l (.tup ys)))\/(AH X.K H p ys/\Q (.ref p) H))):=by
 intro ρ s σ H xs us Q I r h;obtain⟨p,ys,rfl,h⟩:=h;obtain⟨u,rfl,rx⟩:=Hn r;cases rx
 rcases h with⟨hq,q⟩ | ⟨hq,q⟩
 ·obtain⟨ν,r',pl,hz⟩:=I.list hq;have hlen:=↑r';refine call_tuple_list pl.isList (λh' kp=>?_) 12.5;have I1:Inv X ρ σ H {s with heap:=h' }:=I.kept (t':=s.toks) kp;have I2:Inv X ρ σ (upd H h'.objs.size (.tup ys)) {s with heap:=h'.push {cls:=.type "tuple",data:=.seq ν.toArray} } :=
   I1.laid (t':=s.toks) (λb o e=>Yb _ e) (Ye _) (show BI X.prog X.w _ _ _ (.tup ys)from⟨hz,ν,r',IsTup.new _ _⟩)
  exact⟨.ref h'.objs.size,_,I2,Y,q _ 11.3⟩
 ·obtain⟨ν,r',pl,hz⟩:=I.tuple hq;exact call_tuple_same pl ⟨.ref p,H,I,Y,q⟩
def Vr(K:Fg)(T:String)(x:V)(H:Hp):Prop:=match x with
 | .str _=>T="str"
 | .int _=>T="int"
 | .ref p=>(T="list"/\∃ xs,SqL K H p xs)\/(T="tuple"/\∃ o,K.lookup p≈o/\o.cls=.type "tuple"/\o.dict=none) \/
   (T="dict"/\((∃ π,H p≈(.dK π))\/∃ π,H p≈(.dT π)))\/(T="set"/\∃ S n,H p≈(.set S n))
 | _=>False
def lS{ρ:PL}{σ:St}{H:Hp}{s:ε}{T:String}{x:V}{v:δ}(I:Inv X ρ σ H s)(r:Aj x v)(ty:Vr X.K T x H):
  s.TypeIs v T/\∀ a,v=.ref a->∃ ob,s.heap.get? a≈ob/\ob.dict=none:=by
 cases x with
 | str z =>
  obtain⟨t,rfl⟩:=r;cases(show T="str" from ty);exact⟨typeIs_str s z t,λ_ e=>nomatch e⟩
 | int i =>
  obtain⟨t,rfl⟩:=r;cases(show T="int" from ty);exact⟨typeIs_int s i t,λ_ e=>nomatch e⟩
 | ref p =>
  cases r
  rcases ty with⟨rfl,xs,hq⟩ | ⟨rfl,o,hk,hc,hd⟩ | ⟨rfl,hk⟩ | ⟨rfl,S,n,hk⟩
  ·obtain⟨ν,_,pl,_⟩:=I.list hq;refine⟨pl.isList.typeIs,λa e=>?_⟩;cases e;obtain⟨o,n,e,c,hd,_⟩:=pl;exact⟨o,e,hd⟩
  ·refine⟨⟨o,I.kIn p o hk,hc⟩,λa e=>?_⟩;cases e;exact⟨o,I.kIn _ o hk,hd⟩
  ·have z:∃ o,s.heap.get? p≈o/\o.ExactDict:=by
    rcases hk with⟨π,hk⟩ | ⟨π,hk⟩
    ·obtain⟨_,_,_,_,o,_,_,e,ex,_⟩:=I.hok p _ hk;exact⟨o,e,ex⟩
    ·obtain⟨_,_,_,_,o,_,_,e,ex,_⟩:=I.hok p _ hk;exact⟨o,e,ex⟩
   obtain⟨o,e,ex⟩:=z;refine⟨⟨o,e,ex.1⟩,λa e2=>?_⟩;cases e2;exact⟨o,e,ex.2.1⟩
  ·obtain⟨o,_,_,_,e,ex,_⟩:=I.hok p _ hk;refine⟨⟨o,e,ex.1⟩,λa e2=>?_⟩;cases e2;exact⟨o,e,ex.2.1⟩
 | _=>exact False.elim ty
def Yd0(K:Fg)(T:String)(r:V->LV->Hp->VK->Prop)(to:TE):TE:=λσ H Q=>to σ H λx H1=>Vr K T x H1/\r x [] H1 Q
def oZ(K:Fg)(T:String)(r:V->LV->Hp->VK->Prop)(to:TE)(t:TA):TE:=λσ H Q=>to σ H λx H1=>Vr K T x H1/\t σ H1 λxs H2=>r x xs H2 Q
variable {o e:Expr}{es:τ}{to:TE}{t:TA}{name:Str}{apos AQ:Pos}{T id:String}{r:V->LV->Hp->VK->Prop}
def Tq(pa:PlainAttrs T)(slot:Slot T name id)(hty:typeOf (.builtin id)=pure (.type "method_descriptor"))(hm:nu X id r)(ho:PE X o to)
  (Bm:attributeBase o name X.env (eval o X.env)=eval o X.env:=by rfl) (Bl:8.3=true:=by rfl):PE X (.Call (.Attribute o name apos) [] [] AQ) (Yd0 X.K T r to):=by
 ac_rfl;refine wpAny_Call_method0_late Bm Bl (AK (ho ρ s σ H _ I h) λv s1 ⟨x,H1,I1,r1,ty,q1⟩=>?_);obtain⟨h1,h2⟩:=lS I1 r1 ty;exact⟨T,id,pa,slot,hty,h1,h2,Ox rfl (Ro (hm ρ s1 σ H1 x [] v [] Q I1 r1 .nil q1))⟩
def De(pa:PlainAttrs T)(slot:Slot T name id)(hty:typeOf (.builtin id)=pure (.type "method_descriptor"))(hm:nu X id r)(ho:PE X o to)(ha:PA X (e :: es) t)
  (Bm:attributeBase o name X.env (eval o X.env)=eval o X.env:=by rfl)
  (hfew:((backTo AQ (starEach (e :: es) X.env)).all (λx=>!x.1)&&(backToKw AQ 13.6).all (λx=>x.1.isSome)
   && decide (↑(e :: es) + ↑([]:List Keyword) + (if([]:List Keyword).isEmpty then 0 else 1)<30))=true:=by rfl)
  (Bl:8.3=true:=by rfl) (hs:starEach (e :: es) X.env=3.4:: starEach es X.env:=by rfl) (hplain:(backTo AQ 3.6).any 0.5=false:=by rfl):
  PE X (.Call (.Attribute o name apos) (e :: es) [] AQ) (oZ X.K T r to t):=by
 ac_rfl;refine wpAny_Call_method_late Bm hfew Bl rfl (AK (ho ρ s σ H _ I h) λv s1 ⟨x,H1,I1,r1,ty,q1⟩=>?_);obtain⟨h1,h2⟩:=lS I1 r1 ty;refine⟨T,id,pa,slot,hty,h1,h2,?_⟩;have hA:=ha AQ ρ s1 σ H1 _ I1 q1;rw[hs]at hA ⊢;refine Ox (by show(false || (backTo AQ 3.6).any 0.5)=false;rw[hplain] <;> rfl) (Calls.evalArgs_plain ?_);exact AK hA λus s2 ⟨vs,H2,I2,r2,q2⟩=>hm ρ s2 σ H2 x vs v us Q I2 r1 r2 q2
end
def M0(X:Cx)(id:String)(r:V->LV->Hp->VK->Prop):Prop :=
 ∀(ρ:PL) (s:ε) (σ:St) (H:Hp) (x:V) (xs:LV) (v:δ) (us:LU) (Q:VK),Inv X ρ σ H s->Aj x v->Aa xs us->r x xs H Q ->
  wpAny 0.3 X.A (call (.builtin id) (v :: us)) 6.8 X.xe s
def Aa.one:∀ {x:V}{us:LU},Aa [x] us->∃ u,us=[u]/\Aj x u
 | _,_,.cons r .nil=>⟨Z,r⟩
def Aa.zero:∀ {us:LU},Aa [] us->us=[]
 | _,.nil=>rfl
theorem Aa.dropLast{xs:LV}{us:LU}(h:Aa xs us):Aa xs.dropLast us.dropLast:=by
 induction h with
 | nil=>exact .nil
 | cons r t ih =>
  cases t with
  | nil=>exact .nil
  | cons q t'=>exact .cons r ih
theorem Aa.rep{xs:LV}{us:LU}(h:Aa xs us):∀ k:Nat,Aa (List.replicate k xs).flatten (List.replicate k us).flatten
 | 0=>.nil
 | k + 1=>by
  rw[Rn,Rn,List.flatten_cons,List.flatten_cons];exact Aa.append h (Aa.rep h k)
def uD{α:Type}(l:List α):l.eraseIdx (↑l - 1)=l.dropLast:=by
 induction l with
 | nil=>rfl
 | cons a r ih =>
  cases r with
  | nil=>rfl
  | cons b r =>
   have e:↑(a :: b :: r) - 1=(↑(b :: r) - 1) + 1:=by
    have h1:↑(a :: b :: r)=↑r + 2:=rfl;have h2:↑(b :: r)=↑r + 1:=rfl;omega
   rw[e,List.eraseIdx_cons_succ,ih]
   all_goals rfl
theorem iV(ν:LU):∀(k:Nat) (acc:LU),
  List.foldl (λx1 x2=>x1++x2) acc.toArray (List.replicate k ν.toArray)=(acc++(List.replicate k ν).flatten).toArray
 | 0,acc=>by simp
 | k + 1,acc=>by
  have e:acc.toArray++ν.toArray=(acc++ν).toArray:=by simp
  have e2:(acc++ν)++(List.replicate k ν).flatten=acc++(List.replicate (k + 1) ν).flatten:=by
   rw[Rn,List.flatten_cons,Ms]
  rw[<- e2,<- iV ν k (acc++ν),<- e,Rn,List.foldl_cons]
section
variable {X:Cx}{ρ:PL}{σ:St}{H:Hp}{s:ε}{l b:μ}{xs ys zs:LV}
def Inv.lset{ν its':LU}{n:Nat}{f:ζ->ζ}{t':Nat}(I:Inv X ρ σ H s)(hH:H l≈(.lst xs))
  (e:s.heap.get? l=some {cls:=.type "list",data:=.seq ν.toArray n}) (hf:f ν.toArray=its'.toArray) (hv:Aa ys its') (hz:↑ys<=sizeLine):
  Inv X ρ σ (upd H l (.lst ys)) {s with heap:=s.heap.update l (Obj.mapSeq f),toks:=t' }:=by
 have q:=PySem.IsL.update e f;rw[hf]at q;refine I.write (x:=l) (e:=l) (by rw[hH];exact trivial) (.inl rfl) (λb' u hb hu=>(IA s.heap (Obj.mapSeq f) (Yz hb)).trans hu) ⟨_,q⟩ ?_;exact⟨hz,its',_,hv,q⟩
def Inv.lnew{ν:LU}{t':Nat}(I:Inv X ρ σ H s)(hv:Aa ys ν)(hz:↑ys<=sizeLine):
  Inv X ρ σ (upd H ⇑s (.lst ys)) {s with heap:=s.heap.push {cls:=.type "list",data:=.seq ν.toArray},toks:=t' } :=
 I.laid (λ_ _ q=>Yb _ q) (Ye _) ⟨hz,ν,0,hv,Yk _ rfl⟩
theorem Inv.fresh(I:Inv X ρ σ H s):H ⇑s=none:=I.hok.fresh (Ye _)
def Inv.lstM(I:Inv X ρ σ H s)(hH:H l≈(.lst xs)):↑xs<=sizeLine/\∃(ν:LU) (n:Nat),Aa xs ν/\↑xs=↑ν/\s.heap.get? l=some {cls:=.type "list",data:=.seq ν.toArray n}:=by
 obtain⟨z,ν,n,r,e⟩:=I.hok l _ hH;exact⟨z,ν,n,r,↑r,e⟩
def zS{n:Nat}(h:n<=sizeLine):Builtin.List.listTooLong n=false:=by
 unfold Builtin.List.listTooLong;exact Jc 0.0
end
section
variable {X:Cx}
inductive gO(x:V)(vs:LV)(H:Hp)(Q:VK):Prop
 | mk:∀ l xs y,x=.ref l->vs=[y]->H l≈(.lst xs)->↑xs<sizeLine->Q .non (upd H l (.lst (xs++[y])))->gO x vs H Q
def F4:M0 X "list.append" gO:=by
 intro ρ s σ H x vs v us Q I rx rv h;obtain⟨l,xs,y,rfl,rfl,hH,hz,q⟩:=h;cases rx;obtain⟨u,rfl,ru⟩:=rv.one;obtain⟨z,ν,n,r,hl,e⟩:=I.lstM hH;refine call_meets F.slot_list_append ⟨_,e,rfl⟩ F.entry_list_append (F.args_list_append_2 _ _) (PySem.list_append l ν.toArray n u (by rw[Yj];omega)) ⟨e,?_⟩;refine⟨.non,_,I.lset (its':=ν++[u]) hH e 1.1 (r.append (.cons ru .nil)) ?_,rfl,q⟩;rw[Ym,Ou];omega
inductive gP(x:V)(vs:LV)(H:Hp)(Q:VK):Prop
 | mk:∀ l b xs zs,x=.ref l->vs=[.ref b]->H l≈(.lst xs)->H b≈(.lst zs)->↑xs + ↑zs<=sizeLine->Q .non (upd H l (.lst (xs++zs)))->gP x vs H Q
def sZ:M0 X "list.extend" gP:=by
 intro ρ s σ H x vs v us Q I rx rv h;obtain⟨l,b,xs,zs,rfl,rfl,hH,hB,hz,q⟩:=h;cases rx;obtain⟨u,rfl,ru⟩:=rv.one;cases ru;obtain⟨z,ν,n,r,hl,e⟩:=I.lstM hH;obtain⟨z2,Di,n2,r2,Ao,e2⟩:=I.lstM hB;have hsz:ν.toArray.size + Di.toArray.size<=sizeLine:=by rw[Yj,Yj];omega
 have hlong:¬ (!ν.toArray.isEmpty&&Builtin.List.listTooLong (ν.toArray.size + Di.toArray.size))=true:=by
  rw[zS hsz,Bool.and_false];exact Yl
 refine call_meets F.slot_list_extend ⟨_,e,rfl⟩ F.entry_list_extend (F.args_list_extend_2 _ _)
  (AutoSeq1.list_extend_list_list_0 l ν.toArray n b Di.toArray n2 hlong (by rw[Yj];omega) 0.0) ⟨e,e2,?_⟩
 refine⟨.non,_,I.lset (its':=ν++Di) hH e 1.1 (r.append r2) ?_,rfl,q⟩;rw[Ym];omega
inductive nH(x:V)(vs:LV)(H:Hp)(Q:VK):Prop
 | mk:∀ l xs y,x=.ref l->vs=[]->H l≈(.lst xs)->xs[↑xs - 1]?≈y->Q y (upd H l (.lst xs.dropLast))->nH x vs H Q
def Wr:M0 X "list.pop" nH:=by
 intro ρ s σ H x vs v us Q I rx rv h;obtain⟨l,xs,y,rfl,rfl,hH,hy,q⟩:=h;cases rx;have hus:=rv.zero;subst hus;obtain⟨z,ν,n,r,hl,e⟩:=I.lstM hH;obtain⟨u,hu,ru⟩:=r.get hy;have F_:ν.toArray[ν.toArray.size - 1]?≈u:=by
  show ν.toArray[↑ν - 1]?≈u;rw[<- Array.getElem?_toList,<- hl];exact hu
 refine call_meets F.slot_list_pop ⟨_,e,rfl⟩ F.entry_list_pop (F.args_list_pop_1 _) (MeetsSeq.list_pop_last l ν.toArray n u F_ (by rw[Yj];omega)) ⟨e,?_⟩;refine⟨y,_,I.lset (its':=ν.dropLast) hH e ?_ r.dropLast ?_,ru,q⟩
 ·show ν.toArray.eraseIdxIfInBounds (ν.toArray.size - 1)=ν.dropLast.toArray;rw[Yj,List.eraseIdxIfInBounds_toArray,uD]
 ·rw[List.length_dropLast];omega
inductive lZ(x:V)(vs:LV)(H:Hp)(Q:VK):Prop
 | mk:∀ l xs,x=.ref l->vs=[]->H l≈(.lst xs)->Q .non (upd H l (.lst []))->lZ x vs H Q
def zN:M0 X "list.clear" lZ:=by
 intro ρ s σ H x vs v us Q I rx rv h;obtain⟨l,xs,rfl,rfl,hH,q⟩:=h;cases rx;have hus:=rv.zero;subst hus;obtain⟨z,ν,n,r,hl,e⟩:=I.lstM hH;refine call_meets F.slot_list_clear ⟨_,e,rfl⟩ F.entry_list_clear (F.args_list_clear_1 _) (AutoSeq1.list_clear_list_0 l ν.toArray n (by rw[Yj];omega)) ⟨e,?_⟩;exact⟨.non,_,I.lset (its':=[]) (ys:=[]) hH e rfl .nil (BN _),rfl,q⟩
inductive nD(x:V)(y:V)(H:Hp)(Q:VK):Prop
 | mk:∀ l b xs zs,x=.ref l->y=.ref b->H l≈(.lst xs)->H b≈(.lst zs)->↑xs + ↑zs<=sizeLine->(∀ p,H p=none->Q (.ref p) (upd H p (.lst (xs++zs))))->nD x y H Q
def MF:Bd X (binaryOp .Add) nD:=by
 exfalso;obtain⟨l,b,xs,zs,rfl,rfl,hH,hB,hz,q⟩:=h;cases rx;cases ry;obtain⟨z,ν,n,r,hl,e⟩:=I.lstM hH;obtain⟨z2,Di,n2,r2,Ao,e2⟩:=I.lstM hB;refine PySem.P.add_list e e2 ?_ (by rw[Yj,Yj];omega);have ea:ν.toArray++Di.toArray=(ν++Di).toArray:=by simp
 rw[ea];exact⟨.ref _,_,I.lnew (t':=s.toks) (r.append r2) (by rw[Ym];omega),rfl,q _ I.fresh⟩
def XD{α:Type}(xs:List α)(k:Nat):(List.replicate k xs).flatten.length=k * ↑xs:=by
 induction k with
 | zero=>simp
 | succ k ih=>rw[Rn,List.flatten_cons,Ym,ih,Nat.succ_mul,Nat.add_comm]
end
section
variable {prog:χ}{w:World}{A:Around}{E:EV}{s:ε}
end
section
variable {X:Cx}
end
section
variable {κ:Type}[DecidableEq κ]
def BG(π:List (κ×V))(k:κ):OV:=(π.find? λkv=>decide (kv.1=k)).map (·.2)
def Al(π:List (κ×V))(k:κ)(v:V):List (κ×V):=
 if 6.6=true then π.map (λkv=>if kv.1=k then(kv.1,v)else kv)else π++[(k,v)]
def F3{p:κ×V}{r:List (κ×V)}{k:κ}(e:p.1=k):BG (p :: r) k≈p.2:=by simp[BG,Mn,e]
def F2{p:κ×V}{r:List (κ×V)}{k:κ}(e:¬ p.1=k):BG (p :: r) k=BG r k:=by simp[BG,Mn,e]
theorem K4(k:κ):∀ π:List (κ×V),6.6=(BG π k).isSome
 | []=>rfl
 | p :: r=>by
  rw[J7];by_cases e:p.1=k
  ·simp only[F3 e,Jb e,Bool.true_or,Option.isSome_some]
  ·rw[F2 e,Jc e,Ot];exact K4 k r
theorem iK(k j:κ)(y:V):∀ π:List (κ×V),BG (π.map λkv=>if kv.1=k then(kv.1,y)else kv) j=(BG π j).map λx=>if j=k then y else x
 | []=>rfl
 | p :: r=>by
  have ih:=iK k j y r;rw[Yr];by_cases h:p.1=k
  ·rw[if_pos h];by_cases e:p.1=j
   ·rw[F3 (p:=(p.1,y)) e,F3 e,Option.map_some,if_pos (e.symm.trans h)]
   ·rw[F2 (p:=(p.1,y)) e,F2 e,ih]
  ·rw[if_neg h];by_cases e:p.1=j
   ·rw[F3 (p:=p) e,F3 e,Option.map_some,if_neg (λz=>h (e.trans z))]
   ·rw[F2 (p:=p) e,F2 e,ih]
theorem jB(k j:κ)(y:V):∀ π:List (κ×V),BG π k=none->BG (π++[(k,y)]) j=if j=k then ↥y else BG π j
 | [],_=>by
  by_cases e:k=j
  ·rw[if_pos e.symm];exact F3 (p:=(k,y)) e
  ·rw[if_neg (λz=>e z.symm)];exact F2 (p:=(k,y)) e
 | p :: r,hn=>by
  rw[Ru];have hk:¬ p.1=k:=λz=>by rw[F3 z]at hn;cases hn
  rw[F2 hk]at hn;have ih:=jB k j y r hn;by_cases e:p.1=j
  ·rw[F3 e,F3 e,if_neg (λz=>hk (e.trans z))]
  ·rw[F2 e,F2 e,ih]
def iM(π:List (κ×V))(k j:κ)(y:V):BG (Al π k y) j=if j=k then ↥y else BG π j:=by
 unfold Al;by_cases a:6.6=true
 ·rw[if_pos a,iK];rw[K4]at a;by_cases e:j=k
  ·obtain⟨x,hx⟩:=Zp.mp a;rw[if_pos e,e,hx,Option.map_some,if_pos rfl]
  ·rw[if_neg e];cases BG π j with
   | none=>rfl
   | some x=>rw[Option.map_some,if_neg e]
 ·rw[if_neg a];refine jB k j y π ?_;rw[K4]at a;cases q:BG π k with
  | none=>rfl
  | some x=>rw[q]at a;exact(a rfl).elim
def Uc(π:List (κ×V))(k:κ)(v:V):↑(Al π k v)<=↑π + 1:=by
 unfold Al;split
 ·rw[Ya];omega
 ·rw[Ym,CS,Rm];omega
def Jy{π:List (κ×V)}{k:κ}(v:V)(h:BG π k=none):Al π k v=π++[(k,v)]:=by
 unfold Al;rw[K4,h];exact if_neg 0.2
def Eh.isSome_eq{o:OV}{u:OU}(r:Eh o u):o.isSome=u.isSome:=by
 cases o with
 | none=>cases u with
  | none=>rfl
  | some _=>exact(show False from r).elim
 | some _=>cases u with
  | none=>exact(show False from r).elim
  | some _=>rfl
def KV.val{π:List (κ×V)}{vs:List (κ×δ)}(r:KV π vs)(k:κ):Eh (BG π k) (valueAt vs k):=by
 unfold KV at r
 induction r with
 | nil=>exact True.intro
 | @cons p q ps qs h t ih =>
  obtain⟨h1,h2⟩:=h;by_cases e:p.1=k
  ·have e':q.1=k:=h1.symm.trans e;have b:valueAt (q :: qs) k≈q.2:=by simp[valueAt,Mn,e']
   rw[F3 e,b];exact h2
  ·have e':¬ q.1=k:=λz=>e (h1.trans z);have b:valueAt (q :: qs) k=valueAt qs k:=by simp[valueAt,Mn,e']
   rw[F2 e,b];exact ih
theorem KV.any{π:List (κ×V)}{vs:List (κ×δ)}(r:KV π vs)(k:κ):6.6=vs.any λkv=>decide (kv.1=k):=by
 unfold KV at r
 induction r with
 | nil=>rfl
 | cons h t ih=>rw[J7,J7,ih,h.1]
def KV.repl{π:List (κ×V)}{vs:List (κ×δ)}(r:KV π vs)(k:κ){y:V}{u:δ}(ry:Aj y u):
  KV (π.map λkv=>if kv.1=k then(kv.1,y)else kv) (vs.map λkv=>if kv.1=k then(kv.1,u)else kv):=by
 unfold KV at r ⊢
 induction r with
 | nil=>exact .nil
 | @cons p q ps qs h t ih =>
  rw[Yr,Yr];refine .cons ?_ ih;obtain⟨h1,h2⟩:=h;by_cases e:p.1=k
  ·rw[if_pos e,if_pos (h1.symm.trans e)];exact⟨h1,ry⟩
  ·rw[if_neg e,if_neg (λz=>e (h1.trans z))];exact⟨h1,h2⟩
def KV.put{π:List (κ×V)}{vs:List (κ×δ)}(r:KV π vs)(k:κ){y:V}{u:δ}(ry:Aj y u):KV (Al π k y) (stored vs k u):=by
 unfold Al stored;rw[r.any k];by_cases e:(vs.any λkv=>decide (kv.1=k))=true
 ·rw[if_pos e,if_pos e];exact r.repl k ry
 ·rw[if_neg e,if_neg e];exact Cu r ⟨Y,ry⟩
theorem KV.length{π:List (κ×V)}{vs:List (κ×δ)}(r:KV π vs):↑π=↑vs:=Yi r
end
def N6{P:χ}{w:World}{k:Key}{u:δ}(r:Aj (kV k) u):(CP P w).is k u=true:=by
 cases k with
 | inl i=>obtain⟨t,e⟩:=(show ∃ t,u=Value.int i t from r);subst e;exact vC P w i t
 | inr x=>obtain⟨t,e⟩:=(show ∃ t,u=Value.str x t from r);subst e;exact vD P w x t
theorem iZ{P:χ}{w:World}:∀ {ks:List Key}{us:LU},Aa (ks.map kV) us->ItemsAre (CP P w) ks us
 | [],_,r=>by rw[List.map_nil]at r;cases r;exact .nil
 | k :: ks,_,r=>by
  rw[Yr]at r;cases r with
  | cons h t=>exact .cons (N6 h) (iZ t)
abbrev KT(H:Hp):List 4.9->List (List Key×μ×δ)->Prop:=Paired λp q=>p.1=q.1/\H q.2.1≈(.tup (p.1.map kV))/\Aj p.2 q.2.2
def KT.val{H:Hp}{π:List 4.9}{xs:List (List Key×μ×δ)}(r:KT H π xs)(k:List Key):Eh (BG π k) ((atKey xs k).map (·.2)):=by
 induction r with
 | nil=>exact True.intro
 | @cons p q ps qs h t ih =>
  obtain⟨h1,_,h2⟩:=h;by_cases e:p.1=k
  ·have e':q.1=k:=h1.symm.trans e;have b:atKey (q :: qs) k≈q.2:=by simp[atKey,Mn,e']
   rw[F3 e,b];exact h2
  ·have e':¬ q.1=k:=λz=>e (h1.trans z);have b:atKey (q :: qs) k=atKey qs k:=by simp[atKey,Mn,e']
   rw[F2 e,b];exact ih
def KT.repl{H:Hp}{π:List 4.9}{xs:List (List Key×μ×δ)}(r:KT H π xs)(k:List Key){y:V}{u:δ}(ry:Aj y u):
  KT H (π.map λkv=>if kv.1=k then(kv.1,y)else kv) (xs.map (putAt k u)):=by
 induction r with
 | nil=>exact .nil
 | @cons p q ps qs h t ih =>
  rw[Yr,Yr];refine .cons ?_ ih;obtain⟨h1,h2,h3⟩:=h;unfold putAt;by_cases e:p.1=k
  ·rw[if_pos e,if_pos (h1.symm.trans e)];exact⟨h1,h2,ry⟩
  ·rw[if_neg e,if_neg (λz=>e (h1.trans z))];exact⟨h1,h2,h3⟩
def KT.put{H:Hp}{π:List 4.9}{xs:List (List Key×μ×δ)}(r:KT H π xs)(k:List Key){b:μ}{y:V}{u:δ}(hb:H b≈(.tup (k.map kV)))(ry:Aj y u):
  KT H (Al π k y) (storedH xs k b u):=by
 have e:6.6=(atKey xs k).isSome:=by
  rw[K4,(r.val k).isSome_eq,Option.isSome_map]
 unfold Al storedH;rw[e];by_cases q:(atKey xs k).isSome=true
 ·rw[if_pos q,if_pos q];exact r.repl k ry
 ·rw[if_neg q,if_neg q];exact Cu r ⟨Y,hb,ry⟩
def KT.keeps{H H':Hp}{π:List 4.9}{xs:List (List Key×μ×δ)}(r:KT H π xs)(ht:∀ b ys,H b≈(.tup ys)->H' b≈(.tup ys)):KT H' π xs :=
 Paired.mapP r λ_ _ z=>⟨z.1,ht _ _ z.2.1,z.2.2⟩
section
variable {P:χ}{w:World}{H:Hp}{h:Heap}{a:μ}
def kX{u:HO}(ok:Bk P w H h)(e:Rd H a u):BI P w H h a u:=e.ok ok
def Ks{π:KL}(ok:Bk P w H h)(e:Rd H a (.dK π)):↑π<=sizeLine/\9.1=false/\∃ vs,KV π vs/\h.DictOf (CP P w) a vs :=
 show BI P w H h a (.dK π)from kX ok e
def jx{π:KL}(ok:Bk P w H h)(e:H a≈(.dK π)):↑π<=sizeLine/\9.1=false/\∃ vs,KV π vs/\h.DictOf (CP P w) a vs:=Ks ok (.inl e)
def QR{ks:List Key}(ok:Bk P w H h)(e:H a≈(.tup (ks.map kV))):(tupleKind (CP P w)).is h ks a:=by
 obtain⟨_,ν,r,o,h1,h2,n,h3⟩:=(show BI P w H h a (.tup (ks.map kV))from ok a _ e);exact⟨o,ν.toArray,n,h1,h2,h3,by simpa using iZ r⟩
def N4{π:List 4.9}(ok:Bk P w H h)(e:Rd H a (.dT π)):↑π<=sizeLine/\9.1=false /\
  ∃ xs,KT H π xs/\h.DictOfH (tupleKind (CP P w)) a xs:=by
 obtain⟨z,y,xs,r,o,es,ep,h1,h2,h3,h4,h5⟩:=(show BI P w H h a (.dT π)from kX ok e);refine⟨z,y,xs,r,o,es,ep,h1,h2,h3,h4,λx hx=>?_,h5⟩;have all:∀ {l:List 4.9} {m:List (List Key×μ×δ)},KT H l m->∀ x∈m,(tupleKind (CP P w)).is h x.1 x.2.1:=by
  intro l m q
  induction q with
  | nil=>intro x hx;exact nomatch hx
  | @cons p q ps qs hq t ih =>
   intro x hx
   rcases Yv.mp hx with e | hx
   ·subst e;exact QR ok (by rw[<- hq.1];exact hq.2.1)
   ·exact ih x hx
 exact all r x hx
def Ybr{π:List 4.9}(ok:Bk P w H h)(e:H a≈(.dT π)):↑π<=sizeLine/\9.1=false /\
  ∃ xs,KT H π xs/\h.DictOfH (tupleKind (CP P w)) a xs:=N4 ok (.inl e)
end
def BR(H:Hp)(a:μ)(y:V)(r:OV):Prop :=
 (∃ π k,Rd H a (.dK π)/\y=kV k/\r=BG π k)\/∃ π k b,Rd H a (.dT π)/\y=.ref b/\H b≈(.tup (k.map kV))/\r=BG π k
def Cs(H:Hp)(a:μ)(y v:V)(H':Hp):Prop :=
 (∃ π k,H a≈(.dK π)/\y=kV k/\↑π<sizeLine/\H'=upd H a (.dK (Al π k v))) \/
 ∃ π k b,H a≈(.dT π)/\y=.ref b/\H b≈(.tup (k.map kV))/\↑π<sizeLine/\H'=upd H a (.dT (Al π k v))
def BR.k{H:Hp}{a:μ}{π:KL}{k:Key}(e:H a≈(.dK π)):BR H a (kV k) (BG π k):=.inl ⟨π,k,.inl e,Y,Y⟩
def BR.t{H:Hp}{a b:μ}{π:List 4.9}{k:List Key}(e:H a≈(.dT π))(eb:H b≈(.tup (k.map kV))):BR H a (.ref b) (BG π k):=.inr ⟨π,k,b,.inl e,Y,eb,Y⟩
def Cs.k{H:Hp}{a:μ}{π:KL}{k:Key}{v:V}(e:H a≈(.dK π))(hl:↑π<sizeLine):Cs H a (kV k) v (upd H a (.dK (Al π k v))):=.inl ⟨π,k,e,Y,hl,Y⟩
def Cs.t{H:Hp}{a b:μ}{π:List 4.9}{k:List Key}{v:V}(e:H a≈(.dT π))(eb:H b≈(.tup (k.map kV)))(hl:↑π<sizeLine):
  Cs H a (.ref b) v (upd H a (.dT (Al π k v))):=.inr ⟨π,k,b,e,Y,eb,hl,Y⟩
section
variable {X:Cx}{ρ:PL}{σ:St}{H:Hp}{s:ε}{a:μ}{y v:V}{u r:δ}{o:OV}{A:Around}{E:EV}
def Inv.big(I:Inv X ρ σ H s):sysModules<⇑s:=by
 have h:mainGlobals<⇑s:=(I.mod.glob.keeps I.bk).lt;exact HQ 0.2 h
def r6{Q:EV}(hu:A.units + 1<cLine)(I:Inv X ρ σ H s)(g:BR H a y (↥v))(ry:Aj y u)(h:∀ w' s',Inv X ρ σ H s'->Aj v w'->Q w' s'):
  wpAny 0.3 A (getItem (.ref a) u) Q E s:=by
 rcases g with⟨π,k,e,ey,l⟩ | ⟨π,k,b,e,ey,eb,l⟩
 ·subst ey;obtain⟨z,hd,vs,rel,dd⟩:=Ks I.hok e;obtain⟨w',hw,G8⟩:=Eh.some_of (v:=v) (o:=valueAt vs k) (by rw[l];exact rel.val k);exact wpAny_getItem_of (N6 ry) dd.mapOf hw (h w' _ (I.tok _) G8)
 ·subst ey;cases(show u=Value.ref b from ry);obtain⟨z,hd,xs,rel,dd⟩:=N4 I.hok e;obtain⟨w',hw,G8⟩:=Eh.some_of (v:=v) (o:=(atKey xs k).map (·.2)) (by rw[l];exact rel.val k);obtain⟨p,hp,FP⟩:=FK.mp hw;refine wpAny_getItem_heap (tupleKind_room_in1 hu) (QR I.hok eb) dd hp ?_;rw[FP];exact h w' _ (I.tok _) G8
def z8{Q:EV}(hu:A.units + 1<cLine)(I:Inv X ρ σ H s)(g:BR H a y o)(ry:Aj y u)(h:∀ s',Inv X ρ σ H s'->Q (.bool o.isSome) s'):
  wpAny 0.3 A (compareOp .In u (.ref a)) Q E s:=by
 rcases g with⟨π,k,e,ey,l⟩ | ⟨π,k,b,e,ey,eb,l⟩
 ·subst ey;obtain⟨z,hd,vs,rel,dd⟩:=Ks I.hok e;refine wpAny_in_of (N6 ry) hd dd.mapOf ?_;rw[<- (rel.val k).isSome_eq,<- l];exact h _ (I.tok _)
 ·subst ey;cases(show u=Value.ref b from ry);obtain⟨z,hd,xs,rel,dd⟩:=N4 I.hok e;refine wpAny_in_heap (tupleKind_room_in1 hu) (QR I.hok eb) hd dd ?_;have q:=(rel.val k).isSome_eq;rw[Option.isSome_map]at q;rw[<- q,<- l];exact h _ (I.tok _)
def xk{Q:EV}(hu:A.units + 1<cLine)(I:Inv X ρ σ H s)(g:BR H a y o)(ry:Aj y u)(h:∀ s',Inv X ρ σ H s'->Q (.bool (!o.isSome)) s'):
  wpAny 0.3 A (compareOp .NotIn u (.ref a)) Q E s:=by
 rcases g with⟨π,k,e,ey,l⟩ | ⟨π,k,b,e,ey,eb,l⟩
 ·subst ey;obtain⟨z,hd,vs,rel,dd⟩:=Ks I.hok e;refine wpAny_notIn_of (N6 ry) hd dd.mapOf ?_;rw[<- (rel.val k).isSome_eq,<- l];exact h _ (I.tok _)
 ·subst ey;cases(show u=Value.ref b from ry);obtain⟨z,hd,xs,rel,dd⟩:=N4 I.hok e;refine wpAny_notIn_heap (tupleKind_room_in1 hu) (QR I.hok eb) hd dd ?_;have q:=(rel.val k).isSome_eq;rw[Option.isSome_map]at q;rw[<- q,<- l];exact h _ (I.tok _)
def W8{h':Heap}{t':Nat}{ob:HO}(I:Inv X ρ σ H s)(mu:R4 (H a))(hs:Heap.SameBut a s.heap h')(he:∃ q,h'.get? a≈q)(new:BI X.prog X.w (upd H a ob) h' a ob):
  Inv X ρ σ (upd H a ob) {s with heap:=h',toks:=t' } :=
 I.write (x:=a) (e:=a) mu (.inl rfl) (λb q hb z=>(hs.2 b hb).trans z) he new
def km{P:χ}{w:World}{H':Hp}{h':Heap}{π:KL}{vs:List (Key×δ)}(z:↑π<=sizeLine)(hd:9.1=false)(rel:KV π vs)(dd:h'.DictOf (CP P w) a vs):
  BI P w H' h' a (.dK π):=⟨z,hd,vs,rel,dd⟩
def r9{H':Hp}{Q:Unit->ε->Prop}(hu:A.units + 1<cLine)(I:Inv X ρ σ H s)(g:Cs H a y v H')(ry:Aj y u)(rv:Aj v r)(h:∀ s',Inv X ρ σ H' s'->Q () s'):
  wpAny 0.3 A (setItem (.ref a) u r) Q E s:=by
 rcases g with⟨π,k,e,ey,l,eH⟩ | ⟨π,k,b,e,ey,eb,l,eH⟩
 ·subst ey eH;obtain⟨z,hd,vs,rel,dd⟩:=jx I.hok e;have hz:↑vs<=sizeLine:=by rw[<- ↑rel];exact z
  have hl:↑(Al π k v)<=sizeLine:=by have:=Uc π k v;omega
  refine wpAny_setItem_pairs (hsz:=hz) (N6 ry) dd λh' Kr hs=>h _ ?_;have he:∃ q,h'.get? a≈q:=let⟨q,_,_,hq,_⟩:=Kr;⟨q,hq⟩;exact W8 I (by rw[e];exact True.intro) hs he (km hl hd (rel.put k rv) Kr)
 ·subst ey eH;cases(show u=Value.ref b from ry);obtain⟨z,hd,xs,rel,dd⟩:=Ybr I.hok e;have hz:↑xs<=sizeLine:=by rw[<- Yi rel];exact z
  have hl:↑(Al π k v)<=sizeLine:=by have:=Uc π k v;omega
  refine wpAny_setItem_heap (hsz:=hz) (tupleKind_room_in1 hu) (QR I.hok eb) dd λh' Kr hs=>h _ ?_;obtain⟨q,es,ep,hq,h2,h3,h4,_,h5⟩:=Kr;refine W8 I (by rw[e];exact True.intro) hs ⟨q,hq⟩ ⟨hl,hd,_,(rel.put k eb rv).keeps λc ys ec=>?_,q,es,ep,hq,h2,h3,h4,h5⟩;rw[AD (N7 ec e 3.7)];exact ec
end
section
variable {X:Cx}{ρ:PL}{σ:St}{H:Hp}{s:ε}{a:μ}{π:KL}{k:Key}{u:δ}{A:Around}{E:EV}
end
def mB(i:Expr):Prop:=∀ ov iv,subscripted i false ov iv=operate [ov,iv] (getItem ov iv)
def ym{prog:χ}{w:World}{A:Around}{E:EV}{s:ε}{env:Env}{value slice:Expr}{pos:Pos}{T id:String}{Q:EV}
  (hl:typeLookup (.type T) "__getitem__"=pure (↥(.builtin id))) (hs:mB slice)
  (h:wpAny 0.6 A (eval value env) (λo s₁=>wpAny 0.6 A (eval slice env) (λi s₂=>s₂.TypeIs o T/\wpAny 0.6 A (getItem o i) Q E s₂) E s₁) E s):
  wpAny 0.6 A (eval (.Subscript value slice pos) env) Q E s:=by
 refine Subscript_ (Jf h (λo s₁ h₁=>Jf h₁ (λi s₂ h₂=>?_) λ_ _ x=>x) λ_ _ x=>x);obtain⟨hT,h₂⟩:=h₂;unfold subscriptTail;refine Ja ?_;rw[getitemInPython_of_ne hT.not_modules];refine Ja (wpAny_specialOf hT hl ?_);have fin:wpAny 0.6 A (subscripted slice false o i) (λr s₃=>wpAny 0.6 A (letTemporaryGo value o r>>=λ_=>pure r) Q E s₃) E s₂:=by
  rw[hs o i];exact wpAny_operating (Jf h₂ (λr s₃ h₃=>Ja (wpAny_letTemporaryGo (Jd h₃))) λ_ _ x=>x)
 first
  | exact Jd (Ja fin)
  | exact Ja (Jd (Ja fin))
  | exact Ja fin
def u9{X:Cx}{ρ:PL}{σ:St}{H:Hp}{s:ε}{a:μ}{y:V}{o:OV}(I:Inv X ρ σ H s)(g:BR H a y o):s.TypeIs (.ref a) "dict":=by
 rcases g with⟨π,k,e,_,_⟩ | ⟨π,k,b,e,_,_,_⟩
 ·obtain⟨_,_,vs,_,dd⟩:=Ks I.hok e;exact dd.typeIs
 ·obtain⟨_,_,xs,_,dd⟩:=N4 I.hok e;exact dd.typeIs
inductive lO(Q:VK)(x:V)(y:V)(H2:Hp):Prop
 | mk:∀ a v,x=.ref a->BR H2 a y (↥v)->Q v H2->lO Q x y H2
def v7(td ty:TE):TE:=λσ H Q=>td σ H λx H1=>ty σ H1 λy H2=>lO Q x y H2
inductive kK(Q:VK)(y:V)(x:V)(H2:Hp):Prop
 | mk:∀ a o,x=.ref a->BR H2 a y o->Q (.bl o.isSome) H2->kK Q y x H2
def Ydz(ty td:TE):TE:=λσ H Q=>ty σ H λy H1=>td σ H1 λx H2=>kK Q y x H2
inductive iH(Q:VK)(y:V)(x:V)(H2:Hp):Prop
 | mk:∀ a o,x=.ref a->BR H2 a y o->Q (.bl (!o.isSome)) H2->iH Q y x H2
def yn(ty td:TE):TE:=λσ H Q=>ty σ H λy H1=>td σ H1 λx H2=>iH Q y x H2
inductive lu(D:Dl)(σ:St)(v:V)(x:V)(y:V)(H3:Hp):Prop
 | mk:∀ a H4,x=.ref a->Cs H3 a y v H4->D.nx σ H4->lu D σ v x y H3
def Yal(td ty tv:TE):TS:=λD σ H=>tv σ H λv H1=>td σ H1 λx H2=>ty σ H2 λy H3=>lu D σ v x y H3
section
variable {X:Cx}{o i e value:Expr}{pos pos' Fd:Pos}{td ty tv:TE}
def Ju(hu:X.A.units + 1<cLine)(ho:PE X o td)(hi:PE X i ty)(hs:mB i):PE X (.Subscript o i pos) (v7 td ty):=by
 ac_rfl;refine ym PySem.F.slot_dict_getitem.lookup hs (AK (ho ρ s σ H _ I h) λu s1 ⟨x,H1,I1,rx,q1⟩=>AK (hi ρ s1 σ H1 _ I1 q1) λiv s2 ⟨y,H2,I2,ry,a,v,ex,g,q2⟩=>?_);subst ex;obtain rfl:u=Value.ref a:=rx;exact⟨u9 I2 g,r6 hu I2 g ry λw' s3 I3 G8=>⟨v,H2,I3,G8,q2⟩⟩
def Jp(hu:X.A.units + 1<cLine)(hi:PE X i ty)(ho:PE X o td):PC X .In i o (Ydz ty td):=by
 ac_rfl;refine AK (hi ρ s σ H _ I h) λiv s1 ⟨y,H1,I1,ry,q1⟩=>AK (ho ρ s1 σ H1 _ I1 q1) λu s2 ⟨x,H2,I2,rx,a,ov,ex,g,q2⟩=>?_;subst ex;obtain rfl:u=Value.ref a:=rx;exact z8 hu I2 g ry λs3 I3=>⟨.bl ov.isSome,H2,I3,Y,q2⟩
def RM(hu:X.A.units + 1<cLine)(hi:PE X i ty)(ho:PE X o td):PC X .NotIn i o (yn ty td):=by
 ac_rfl;refine AK (hi ρ s σ H _ I h) λiv s1 ⟨y,H1,I1,ry,q1⟩=>AK (ho ρ s1 σ H1 _ I1 q1) λu s2 ⟨x,H2,I2,rx,a,ov,ex,g,q2⟩=>?_;subst ex;obtain rfl:u=Value.ref a:=rx;exact xk hu I2 g ry λs3 I3=>⟨.bl (!ov.isSome),H2,I3,Y,q2⟩
def FI(hu:X.A.units + 1<cLine)(ho:PE X o td)(hi:PE X i ty)(hv:PE X value tv)(hs:swapsWith value (↥(.Subscript o i pos')) pos.line X.env=pure false):
  PS X (.Assign [.Subscript o i pos'] value pos) (Yal td ty tv):=by
 intro ρ s σ H D I h;refine wpAny_Assign_Subscript (AK (hv ρ s σ H _ I h) λr s1 ⟨v,H1,I1,rv,q1⟩=>AK (ho ρ s1 σ H1 _ I1 q1) λu s2 ⟨x,H2,I2,rx,q2⟩=>AK (hi ρ s2 σ H2 _ I2 q2) λiv s3 ⟨y,H3,I3,ry,a,H4,ex,g,q3⟩=>?_) hs;subst ex;obtain rfl:u=Value.ref a:=rx;exact r9 hu I3 g ry rv λs4 I4=>⟨σ,H4,I4,q3⟩
end
def gZ{P:χ}{w:World}{H:Hp}(h:Heap)(hb:sysModules<h.objs.size):BI P w H (h.push {cls:=.type "dict",data:=.dict #[] }) h.objs.size (.dK []):=
 ⟨BN _,Mx.mpr (Yz (Ys hb)),[],.nil,Heap.DictOf.new h⟩
def zg{P:χ}{w:World}{H:Hp}(h:Heap)(hb:sysModules<h.objs.size):BI P w H (h.push {cls:=.type "dict",data:=.dict #[] }) h.objs.size (.dT []):=
 ⟨BN _,Mx.mpr (Yz (Ys hb)),[],.nil,_,#[],0,Yk _ rfl,⟨Y,Y,Y⟩,Y,Y,List.nodup_nil⟩
def xV:TE:=λ_ H Q=>∀ p,H p=none->Q (.ref p) (upd H p (.dK []))
def xW:TE:=λ_ H Q=>∀ p,H p=none->Q (.ref p) (upd H p (.dT []))
section
variable {X:Cx}{pos:Pos}
def Gn:PE X (.Dict [] [] pos) xV:=λρ s σ H Q I h =>
 wpAny_Dict_empty ⟨.ref ⇑s,_,I.laid (a:=⇑s) (o:=.dK []) (t':=s.toks) (λ_ _ q=>Yb _ q) (Ye _) (gZ s.heap I.big),Y,h _ 6.9⟩
def Qt:PE X (.Dict [] [] pos) xW:=λρ s σ H Q I h =>
 wpAny_Dict_empty ⟨.ref ⇑s,_,I.laid (a:=⇑s) (o:=.dT []) (t':=s.toks) (λ_ _ q=>Yb _ q) (Ye _) (zg s.heap I.big),Y,h _ 6.9⟩
end
def W4:List (TE×TE)->St->Hp->(List (V×V)->Hp->Prop)->Prop
 | [],_,H,Q=>Q [] H
 | (tk,tv):: r,σ,H,Q=>tk σ H λx H1=>tv σ H1 λy H2=>W4 r σ H2 λps H3=>Q ((x,y):: ps) H3
abbrev VV:List (V×V)->List (δ×δ)->Prop:=Paired λp q=>Aj p.1 q.1/\Aj p.2 q.2
def Vf(X:Cx)(pos:Pos)(keys:List (Option Expr))(values:τ)(trs:List (TE×TE)):Prop :=
 ∀(ρ:PL) (s:ε) (σ:St) (H:Hp) (Q:List (V×V)->Hp->Prop),Inv X ρ σ H s->W4 trs σ H Q ->
  wpAny 0.3 X.A (evalPairs (pairTrees keys values X.env pos)) (λvs s'=>∃ ps H',Inv X ρ σ H' s'/\VV ps vs/\Q ps H') X.xe s
def yy{X:Cx}{pos:Pos}:Vf X pos [] [] []:=λρ s σ H Q I h=>pairTrees_nil_walk ⟨[],H,I,.nil,h⟩
def rO{X:Cx}{pos:Pos}{k v:Expr}{ks:List (Option Expr)}{vs:τ}{tk tv:TE}{trs:List (TE×TE)}(hk:PE X k tk)(hv:PE X v tv)(hr:Vf X pos ks vs trs):
  Vf X pos (↥k :: ks) (v :: vs) ((tk,tv):: trs):=λρ s σ H Q I h =>
 pairTrees_cons_walk (AK (hk ρ s σ H _ I h) λu s1 ⟨x,H1,I1,rx,q1⟩=>AK (hv ρ s1 σ H1 _ I1 q1) λw2 s2 ⟨y,H2,I2,ry,q2⟩ =>
  AK (hr ρ s2 σ H2 _ I2 q2) λws s3 ⟨ps,H3,I3,rel,q3⟩=>⟨(x,y):: ps,H3,I3,.cons ⟨rx,ry⟩ rel,q3⟩)
def QS(π more:KL):KL:=more.foldl (λacc kv=>Al acc kv.1 kv.2) π
def KV.merge:∀ {more:KL}{rs:List (Key×δ)}{π:KL}{vs:List (Key×δ)},KV more rs->KV π vs->KV (QS π more) (merged vs rs):=by
 intro more rs π vs r;unfold KV at r
 induction r generalizing π vs with
 | nil=>intro q;exact q
 | @cons p q ps qs h t ih =>
  intro r0;have e:KV (Al π p.1 p.2) (stored vs q.1 q.2):=by
   have:=r0.put p.1 h.2;rw[<- h.1];exact this
  exact ih e
theorem jm:∀(more π:KL),↑(QS π more)<=↑π + ↑more
 | [],π=>by show ↑π<=↑π + 0;omega
 | p :: r,π=>by
  have h1:=jm r (Al π p.1 p.2);have h2:=Uc π p.1 p.2;show↑(QS (Al π p.1 p.2) r)<=_;rw[CS];omega
theorem jK{P:χ}{w:World}:∀ {π:KL}{ws:List (δ×δ)},VV (π.map λkv=>(kV kv.1,kv.2)) ws->∃ rs,Carries (CP P w) ws rs/\KV π rs
 | [],_,r=>by rw[List.map_nil]at r;cases r;exact⟨[],True.intro,.nil⟩
 | p :: π,_,r=>by
  rw[Yr]at r;cases r with
  | @cons a b as bs h t =>
   obtain⟨rs,c,q⟩:=jK (P:=P) (w:=w) t;obtain⟨b1,b2⟩:=b;exact⟨(p.1,b2):: rs,⟨N6 h.1,Y,c⟩,.cons ⟨Y,h.2⟩ q⟩
def v9(trs:List (TE×TE)):TE:=λσ H Q=>∀ p,H p=none->W4 trs σ (upd H p (.dK [])) λps H2=>H2 p≈(.dK [])/\∃ π:KL,ps=π.map (λkv=>(kV kv.1,kv.2))/\↑π<=15/\Q (.ref p) (upd H2 p (.dK (QS [] π)))
def yv{X:Cx}{pos:Pos}{keys:List (Option Expr)}{values:τ}{trs:List (TE×TE)}(h:Vf X pos keys values trs)(hall:keys.all (·.isSome)=true)(hl:↑keys=↑values)(h0:keys≠[])
  (P5:↑keys<=15):PE X (.Dict keys values pos) (v9 trs):=by
 intro ρ s σ H Q I q;have hn:=I.hok.fresh (Ye ⇑s);have I1:=I.laid (a:=⇑s) (o:=.dK []) (h':=s.heap.push {cls:=.type "dict",data:=.dict #[] }) (t':=s.toks) (λ_ _ q=>Yb _ q) (Ye _) (gZ s.heap I.big);refine wpAny_Dict_walk (knd:=CP X.prog X.w) hall hl h0 P5 (AK (h ρ _ σ _ _ I1 (q _ hn)) λws s2 ⟨ps,H2,I2,rel,e,π,ep,lk,q2⟩=>?_);subst ep;obtain⟨rs,c,rk⟩:=jK (P:=X.prog) (w:=X.w) rel;obtain⟨z,hd,vs0,r0,dd⟩:=jx I2.hok e;cases r0;refine⟨rs,c,dd,λh' Kr hs=>⟨.ref ⇑s,_,?_,Y,q2⟩⟩;have hz:↑(QS [] π)<=sizeLine:=by
  have h1:=jm π [];rw[Rm]at h1;rw[sizeLine_eq];omega
 have he:∃ q,h'.get? ⇑s≈q:=let⟨q,_,_,hq,_⟩:=Kr;⟨q,hq⟩;exact W8 I2 (by rw[e];exact True.intro) hs he (km hz hd (rk.merge .nil) Kr)
structure M2(X:Cx)(o:Expr)(m:Str)(apos:Pos)(e f:Expr)(AQ:Pos):Prop where
 base:attributeBase o m X.env (eval o X.env)=eval o X.env
 few:((backTo AQ (starEach [e,f] X.env)).all (λx=>!x.1)&&(backToKw AQ 13.6).all (λx=>x.1.isSome)
  && decide (↑([e,f]:τ) + ↑([]:List Keyword) + (if([]:List Keyword).isEmpty then 0 else 1)<30))=true
 line:8.3=true
 trees:backTo AQ (starEach [e,f] X.env)=[3.4,(false,eval f X.env)]
def IsD(H:Hp)(a:μ):Prop:=(∃ π,Rd H a (.dK π))\/∃ π,Rd H a (.dT π)
def Tw{X:Cx}{ρ:PL}{σ:St}{H:Hp}{s:ε}{a:μ}(I:Inv X ρ σ H s)(d:IsD H a):
  s.TypeIs (.ref a) "dict"/\(∀ b,Value.ref a=.ref b->∃ ob,s.heap.get? b≈ob/\ob.dict=none)/\9.1=false:=by
 rcases d with⟨π,e⟩ | ⟨π,e⟩
 ·obtain⟨_,hd,vs,_,dd⟩:=Ks I.hok e;refine⟨dd.typeIs,λb q=>?_,hd⟩;cases q;obtain⟨ob,_,_,h1,h2,_⟩:=dd;exact⟨ob,h1,h2.2.1⟩
 ·obtain⟨_,hd,xs,_,dd⟩:=N4 I.hok e;refine⟨dd.typeIs,λb q=>?_,hd⟩;cases q;obtain⟨ob,_,_,h1,h2,_⟩:=dd;exact⟨ob,h1,h2.2.1⟩
section
variable {X:Cx}{ρ:PL}{σ:St}{H:Hp}{s:ε}{a:μ}{y d:V}{u r:δ}{o:OV}{A:Around}{E:EV}
end
section
variable {X:Cx}{o e f:Expr}{apos AQ:Pos}{td ty tx:TE}
end
section
variable {X:Cx}{ρ:PL}{σ:St}{H:Hp}{s:ε}{a:μ}{π:KL}{A:Around}{E:EV}
end
section
variable {X:Cx}{ρ:PL}{σ:St}{H:Hp}{s:ε}{a:μ}{y:V}{u:δ}{A:Around}{E:EV}
end
end L2
namespace Att
open PySem PySem.W PySem.Calls PyProof.Rows
def vj{P:Params}{h:Heap}:∀(ns:List Int) (vs:LU),WellAll P h vs (ns.map WData.int)->IntsAre vs ns:=by
 intro ns
 induction ns with
 | nil =>
  intro vs w;rw[List.map_nil]at w;cases w;exact .nil
 | cons n ns ih =>
  intro vs w;rw[Yr]at w;cases w with
  | cons a b =>
   cases a;exact .cons _ _ (ih _ b)
def tW{l:OpenLaw}{n:Nat}(hn:l.most≈n){P:Params}{h:Heap}{args:List WData}{vals:LU}
  (hpre:l.row.toRowW.claim.pre args=true) (hwl:WellAll P h vals args):
  ∃ a vs ns,vals=[Value.ref a]/\args=[WData.list (ns.map WData.int)]/\h.get? a=some {cls:=.type "list",data:=.seq vs.toArray}/\IntsAre vs ns/\↑ns<=n:=by
 have hsh:WShape.hasAll [] args [.list .int]=true:=(pre_splitW hpre).1;have hc:l.pre.holds [] {args:=args}=true:=(pre_splitW hpre).2;obtain⟨d,r,rfl,h1,h2⟩:=hasAllW_cons hsh;obtain rfl:=hasAllW_nil h2;obtain⟨xs,rfl,h3⟩:=hasW_list h1;obtain⟨ns,rfl⟩:=items_int h3;have hlen:↑ns<=n:=by
  unfold OpenLaw.pre at hc;have h4:(WTm.not (.lt (.lit (.int (n:Int))) (.len (.arg 0)))).holds [] {args:=[.list (ns.map .int)] }=true:=by
   have h4:=(holds_andW hc).1;rw[hn]at h4;exact h4
  have h5:=condW_of h4 (w_not (w_lt w_lit (w_len_list (w_arg rfl))));rw[Ya]at h5;refine Nat.le_of_not_lt λq=>?_;have q':(n:Int)<((↑ns:Nat):Int):=by omega
  first
   | (rw[Jb q']at h5;exact absurd h5 0.2)
   | (simp at h5;omega)
 cases hwl with
 | cons w1 w2 =>
  cases w2;cases w1 with
  | list ho hall=>exact⟨_,_,ns,Y,Y,ho,vj ns _ hall,hlen⟩
def tO(l:OpenLaw)(args:List WData):l.row.toRowW.claim.post args (.bool true) args=true :=
 postW_of (r:=l.row.toRowW) (X:=(true == true))
  (show WShape.has [] (.bool true) .bool=true by first | rfl | decide | simp[WShape.has,WShape.arms,WShape.armsAll])
  (show(WTm.eq .res (.lit (.bool true))).value [] {args:=args,res:=↥(.bool true),after:=args}≈(.bool (true == true))from w_eq_bool (w_res rfl) w_lit) rfl
def attach_call{l:OpenLaw}{n:Nat}{q:χ}{loose:LS}{XP:(Str->OU)->Heap->Prop}{YP:World->Heap->Prop}{d:DefRec}
  (hn:l.most≈n) (hdf:d.params.defaults=[])
  (call:∀(w:World) (s₀ s₁:ε) (mg mb:Str->OU) (fa:μ) (o:Obj) (pm cd doc:δ) (a:μ) (vs:LU) (ns:List Int),
   Ground q loose [] XP w s₀ mg mb s₁.heap->YP w s₁.heap ->
   s₁.heap.get? fa≈o->o.data=.func (docDef d.name d.params d.body d.scope pm cd doc)->s₁.heap.CodeRec cd d.name->mg d.name≈(.ref fa) ->
   s₁.heap.get? a=some {cls:=.type "list",data:=.seq vs.toArray}->IntsAre vs ns->↑ns<=n->s₁.gens=#[] ->
   codeAny (model l.prog w) callerA (.call (.ref fa) ⟨[.ref a],[]⟩) 5.6 s₁):
  WalkO q loose XP YP l.row.toRowW d [] (λf vs=>PySem.call f vs):=by
 intro w s₀ s₁ mg mb G Y fa o pm cd doc dV kV ho hd hcd hD hmg hg args vals as hpre hlay hrd hwl hlo;obtain rfl:dV=.none:=Dflts.none hD hdf;obtain rfl:kV=.none:=Dflts.noKw hD;obtain⟨a,vs,ns,rfl,rfl,hobj,hints,hlen⟩:=tW hn hpre hwl;refine enter_call (codeAny_mono (call w s₀ s₁ mg mb fa o pm cd doc a vs ns G Y ho (fd_plain hd) hcd hmg hobj hints hlen hg) λr s' hq=>?_);obtain⟨rfl,h2,h3,h4⟩:=hq;exact⟨.inl ⟨.bool true,.bool true,[],Y,λ_=>rfl,.bool true,tO l _,λ_=>⟨List.Pairwise.nil,λ_ hm=>(nomatch hm)⟩⟩,h2,h3,h4⟩
section
variable {prog:χ}{w:World}{A:Around}{E:EV}{s:ε}{K:Frag}
end
end Att
namespace L2
open PySem PySem.Spec PyProof.Rows
theorem jC:∀ {vs:LU}{ns:List Int},IntsAre vs ns->Aa 9.4 vs
 | _,_,.nil=>.nil
 | _,_,.cons n t h=>.cons ⟨t,Y⟩ (jC h)
def Zw(H:Hp):Prop:=∀ b,H b=none\/∃ o xs,H b≈(.frz o (.lst xs))
def zK{P:χ}{w:World}{K:Fg}{mg mb:Str->OU}{CX:Et}{k:Nat}{x:Str}{sp:Sp}{s₁:ε}{vs:LU}{ns:List Int}
  (KX:K.In s₁.heap) (hns:s₁.heap.Ns mainGlobals mg) (hb:s₁.heap.Ns builtinsNs mb) (hbb:∀ x:Str,x≠"__name__"->mb x=bootBuiltins x) (hlim:s₁.heap.NoLimit) (hg:s₁.gens=#[])
  (ha:s₁.heap.get? a=some {cls:=.type "list",data:=.seq vs.toArray}) (hi:IntsAre vs ns) (hl:↑ns<=sizeLine) (hr:AZ k callerA)
  (F:∀ base:Heap,K.In base->base.Ns mainGlobals mg->AV P w K mg base CX k fa fd [x] sp) (hbind:∀(s:ε) (u:δ),BindsTo s fd ⟨[u],[]⟩ [(x,u)])
  (hsp:∀ H:Hp,Zw H->SqL K H a 9.4->sp [.ref a] H (λv _=>v=.bl true) λ_ _ _=>False)
  (hCX:∀ H e s',CX [] H s₁ (λ_ _ _=>False) e s'->False):
  codeAny (model P w) callerA (.call (.ref fa) ⟨[.ref a],[]⟩) 5.6 s₁:=by
 have rv:=jC hi;have lenV:=↑hi;have core:∀ H:Hp,Zw H->SqL K H a 9.4->Bk P w H s₁.heap->(∀ b,H b≠none->b=a)->(H a≠none->K.lookup a=none) ->
   codeAny (model P w) callerA (.call (.ref fa) ⟨[.ref a],[]⟩) 5.6 s₁:=by
  intro H hO hS hok hA hK;have base_of:∀ {b:μ} {o:Obj},s₁.heap.get? b≈o->H b=none->(J5 s₁.heap H).get? b≈o:=λe n=>zo e n;have noA:∀ {b:μ} {o:Obj} {es:Array DictEntry} {ep:Nat},s₁.heap.get? b≈o->o.data=.dict es ep->H b=none:=λ{b o es ep} e d=>by
   cases q:H b with
   | none=>rfl
   | some u =>
    have e':b=a:=hA b (by rw[q];simp);subst e';rw[ha]at e;cases e;have d':Data.seq vs.toArray _=Data.dict es ep:=d;cases d'
  have nsK:∀ {b:μ} {m:Str->OU},s₁.heap.Ns b m->(J5 s₁.heap H).Ns b m:=λ{b m} ⟨o,es,ep,e,d,r⟩=>⟨o,es,ep,base_of e (noA e d),d,r⟩;have hKb:K.In (J5 s₁.heap H):=λb o e=>base_of (KX b o e) (by
   cases q:H b with
   | none=>rfl
   | some u =>
    have e':b=a:=hA b (by rw[q];simp);subst e';rw[hK (by rw[q];simp)]at e;cases e)
  have hM:Mod K mg (J5 s₁.heap H):=⟨hKb,nsK hns,⟨mb,nsK hb,hbb⟩,let⟨mc,h1,h2⟩:=hlim;⟨mc,nsK h1,h2⟩⟩;have e0:Fh P w K mg (J5 s₁.heap H) callerA [] s₁ H:=⟨Y,hM,λb o e=>yK e,Nat.le_of_eq (sO _ _),trivial,λb hb=>absurd (show b∈([]:ξ)from hb) 1.1,hok,.of_eq hg⟩;refine codeAny_mono ((F _ hKb (nsK hns)).run callerA [] s₁ H ⟨[.ref a],[]⟩ [.ref a] [.ref a] _ _ hr e0 (hbind s₁ (.ref a)) (.cons rfl .nil) (hsp H hO hS)) λr s' h=>?_;cases r with
  | error e=>exact(hCX H e s' h).elim
  | ok fl =>
   cases fl with
   | next=>exact False.elim h
   | brk=>exact False.elim h
   | cont=>exact False.elim h
   | ret u =>
    obtain⟨v,H',os,bare,un,az,r',q⟩:=h;have q':v=.bl true:=q;subst q';obtain rfl:u=Value.bool true:=r';refine⟨Y,OldK.of_keep λb o e=>?_,os,bare⟩;cases q:H b with
    | none=>exact un.keep b o e q (by intro z;exact absurd (show b∈([]:ξ)from z) 1.1) 1.1
    | some u =>
     rcases hO b with z | ⟨ob,xs,z⟩
     ·rw[q]at z;cases z
     ·have z2:=un.frzs b ob _ z;obtain⟨e1,_⟩:=hok b _ z;obtain⟨e2,_⟩:=az b _ z2;rw[e]at e1;cases e1;exact e2
 cases hk:K.lookup a with
 | some o =>
  have e:=KX a o hk;rw[ha]at e;cases e;refine core (λ_=>none) (λ_=>.inl rfl) (.inr ⟨_,vs.toArray,_,hk,Y,Y,Y,by rw[Yj,lenV];exact hl,by simpa using rv⟩) (λb u z=>by have z':(none:Option HO)≈u:=z;cases z') (λb z=>absurd rfl z) λz=>absurd rfl z
 | none =>
  refine core (λb=>if b=a then ↥(.frz {cls:=.type "list",data:=.seq vs.toArray} (.lst 9.4))else none) (λb=>?_) (.inl (.inr ⟨{cls:=.type "list",data:=.seq vs.toArray},if_pos rfl⟩)) (λb u z=>?_) (λb z=>?_) λ_=>hk
  ·by_cases hb:b=a
   ·exact .inr ⟨_,_,if_pos hb⟩
   ·exact .inl (if_neg hb)
  ·by_cases hb:b=a
   ·have z':=(if_pos hb).symm.trans z;cases z';subst hb;exact⟨ha,by rw[Ya];exact hl,vs,_,rv,ha⟩
   ·have z':=(if_neg hb).symm.trans z;cases z'
  ·by_cases hb:b=a
   ·exact hb
   ·exact absurd (if_neg hb) z
def walk_of{l:W.OpenLaw}{n k:Nat}{q:χ}{loose:LS}{XP:(Str->OU)->Heap->Prop}{YP:World->Heap->Prop}{d:DefRec}{K:Params->Fg}{CX:World->Et}{sp:World->Sp}{x:Str}
  (hn:l.most≈n) (TJ:n<=sizeLine) (hdf:d.params.defaults=[]) (hr:AZ k callerA)
  (hY:∀(w:World) (h:Heap),YP w h->(K w.params).In h)
  (F:∀(w:World) (mg:Str->OU) (fa:μ) (h:Heap),(K w.params).In h->h.Ns mainGlobals mg->mg d.name≈(.ref fa) ->
   ∃ fd:FuncData,(∀(s:ε) (u:δ),BindsTo s fd ⟨[u],[]⟩ [(x,u)]) /\
    ∀ base:Heap,(K w.params).In base->base.Ns mainGlobals mg->AV l.prog w (K w.params) mg base (CX w) k fa fd [x] (sp w))
  (hsp:∀(w:World) (H:Hp) (a:μ) (ns:List Int),↑ns<=n->Zw H->SqL (K w.params) H a 9.4->sp w [.ref a] H (λv _=>v=.bl true) λ_ _ _=>False)
  (hCX:∀(w:World) (H:Hp) (s:ε) (e:δ) (s':ε),CX w [] H s (λ_ _ _=>False) e s'->False):
  W.WalkO q loose XP YP l.row.toRowW d [] (λf vs=>PySem.call f vs):=by
 refine Att.attach_call hn hdf λw s₀ s₁ mg mb fa o pm cd doc a vs ns G Y ho hd hcd hmg hobj hints hlen hg=>?_;have KX:=hY w _ Y;obtain⟨fd,hb,hF⟩:=F w mg fa _ KX G.T.g hmg;exact zK KX G.T.g G.T.b G.T.builtins G.T.nolimit hg hobj hints (BU hlen TJ) hr hF hb (λH hO hS=>hsp w H a ns hlen hO hS) λH e s'=>hCX w H s₁ e s'
def C4(s:Stmt)(j:Nat):Stmt:=match s with
 | .ClassDef _ _ _ body _ _ _ _ _ _ _=>body.getD j (.Pass ⟨0,0,0,0⟩)
 | _=>.Pass ⟨0,0,0,0⟩
def Gk(s:Stmt):Arguments:=match s with
 | .FunctionDef _ a _ _ _ _ _ _ _ _=>a
 | _=>{posonlyargs:=[],args:=[],vararg:=none,kwonlyargs:=[],kw_defaults:=[],kwarg:=none,defaults:=[] }
def DU(s:Stmt):List Stmt:=match s with
 | .FunctionDef _ _ b _ _ _ _ _ _ _=>b
 | _=>[]
def AN(s:Stmt):Scope:=match s with
 | .FunctionDef _ _ _ _ _ _ sc _ _ _=>sc
 | _=>{kind:=.function,names:=[],isGenerator:=false,isCoroutine:=false}
abbrev IF:Et:=λ_ _ _ _ _ _=>False
abbrev E0:XK:=λ_ _ _=>False
def Gi{X:Cx}:I_ IF X E0:=λ_ _ _ _ _ _ _ h=>h.elim
structure BK(K:Fg)(x qual:Str)(st:Stmt)(f:μ)(fd:FuncData):Prop where
 ex:∃(oc:δ) (od:Option μ) (kV doc pm:δ) (an:Option μ) (BC ct:δ) (osl:Array (OU)),
  fd=W.fnOf x qual (Gk st) (DU st) (AN st) .none kV doc pm an BC ct/\K.lookup f≈⟨oc,od,.func fd,osl⟩/\W.codeIn K BC qual=true
 kp:W.keepIn K (.ref f)=true
section
variable {P:χ}{w:World}{K:Fg}{mg:Str->OU}{base:Heap}
def BK.ok{x qual:Str}{st:Stmt}{N ps:LS}{k:Nat}{sp:Sp}(F:BK K x qual st f fd)(S:Am N ps (AN st))(len:∀ vs H Q E,sp vs H Q E->↑vs=↑ps)
  (hbody:∀(BC:δ) (A:Around) (outer:List Env) (s:ε) (H:Hp) (vs:LV) (Q:VK) (E:XK),AZ k (A.deeper (envOfC qual (AN st) ⇑s f BC))->sp vs H Q E ->
   ∃ t,CK (LH IF P w K mg base N qual (AN st) f BC A outer s H E).nox (DU st) t/\t {nx:=λ_ H'=>Q .non H',rt:=Q} (start N vs) H):AV P w K mg base IF (k + 1) f fd ps sp:=by
 obtain⟨oc,od,kV,doc,pm,an,BC,ct,osl,rfl,lk,hcd⟩:=F.ex;refine jz lk hcd S len λA outer s H vs Q E hr hsp=>?_;obtain⟨t,h,q⟩:=hbody BC A outer s H vs Q E hr hsp;exact⟨t,h.nox,q⟩
def BK.binds{x qual:Str}{st:Stmt}{ps:LS}(F:BK K x qual st f fd)
  (h:∀(kV doc pm:δ) (an:Option μ) (BC ct:δ) (us:LU),↑us=↑ps->bindArgs 9.3 ⟨us,[]⟩=pure (ps.zip us)):Bw K fd ps []:=by
 obtain⟨oc,od,kV,doc,pm,an,BC,ct,osl,rfl,lk,hcd⟩:=F.ex;exact .all (h kV doc pm an BC ct)
def ky{x qual:Str}{st:Stmt}{f:μ}{oc:δ}{od an:Option μ}{osl:Array (OU)}{kV doc pm BC ct:δ}(l:K.lookup f≈⟨oc,od,.func 9.3,osl⟩)
  (c:W.codeIn K BC qual=true) (k:W.keepIn K (.ref f)=true):BK K x qual st f 9.3:=⟨⟨oc,od,kV,doc,pm,an,BC,ct,osl,Y,l,c⟩,k⟩
end
def Dm{A:Around}{k:Nat}(hr:AZ k A):A.units + 1<cLine:=Nat.lt_of_le_of_lt (Nat.add_le_add_left (by decide:1<=64) _) hr.units
section
variable {X:Cx}
def pv(i:Nat){x:Str}{pos:Pos}(hN:X.N[i]?≈x:=by rfl)(hv:Vc X.env.scope x:=by first | exact Or.inl rfl | exact Or.inr 1.7 | exact Or.inr 1.4)(hd:(x == ("__debug__":Str))=false:=by decide)
  (hcd:(x == ("__classdict__":Str))=false:=by decide):PE X (.Name x pos) (Of i):=lV hN hv hd hcd
end
def AL{A B:Prop}(h:B):if false=true then A else B:=by
 rw[if_neg Yl];exact h
def AY{A B:Prop}(h:A):if true=true then A else B:=by
 rw[if_pos rfl];exact h
def BO{c A B:Prop}[Decidable c](h1:c->A)(h2:¬ c->B):if c then A else B:=by
 by_cases h:c
 ·rw[if_pos h];exact h1 h
 ·rw[if_neg h];exact h2 h
def AA(H H':Hp):Prop:=∀ b o,H b≈o->H' b≈o
def AA.refl(H:Hp):AA H H:=λ_ _ h=>h
def AA.trans{H H1 H2:Hp}(a:AA H H1)(b:AA H1 H2):AA H H2:=λc o h=>b c o (a c o h)
def AA.free{H H':Hp}(e:AA H H'){l:μ}(h:H' l=Option.none):H l=Option.none:=by
 cases q:H l with
 | none=>rfl
 | some o =>
  rw[e l o q]at h;cases h
def AA.seq{K:Fg}{H H':Hp}{a:μ}{xs:LV}(e:AA H H')(h:SqL K H a xs):SqL K H' a xs:=by
 rcases h with(h | ⟨o,h⟩) | h
 ·exact .inl (.inl (e _ _ h))
 ·exact .inl (.inr ⟨o,e _ _ h⟩)
 ·exact .inr h
section
variable {X:Cx}
end
section
variable {κ:Type}[DecidableEq κ]
def iL{π:List (κ×V)}{k:κ}(h:BG π k=none):¬ k∈π.map 0.5:=by
 intro m;obtain⟨p,hp,e⟩:=Yd.mp m;have q:6.6=true:=IE.mpr ⟨p,hp,Jb e⟩;rw[K4,h]at q;exact absurd q 1.1
def gR{π:List (κ×V)}{k:κ}{v:V}(h:BG π k≈v):k∈π.map 0.5:=by
 have q:6.6=true:=by
  rw[K4,h]
  all_goals rfl
 obtain⟨p,hp,e⟩:=IE.mp q;exact Yd.mpr ⟨p,hp,Je e⟩
end
end L2
set_option maxHeartbeats 4000000
namespace HT
open PySem PyProof.Rows
open PySem.SeqAt
open PySem.AutoSeq1 (wpAny_loadPart')
open PySem.MeetsSeq PySem.MeetsSeq2 PySem.MeetsSeq3
section
variable {prog:χ}{w:World}{A:Around}{E:EV}{s:ε}
end
end HT
namespace L2
open PySem PySem.Spec PyProof.Rows
structure E_(J:It)(xs:LV)(Ok:Hp->Prop):Prop where
 go:∀(i:Nat) (x:V) (H:Hp),Ok H->xs[i]?≈x->J.go i H
 yld:∀(i:Nat) (x:V) (H:Hp) (y:V) (H':Hp),Ok H->xs[i]?≈x->J.yld i H y H'->y=x/\H'=H
 stop:∀(H:Hp),Ok H->J.stop ↑xs H
def Ck{K:Fg}{a:μ}{xs:LV}:E_ (aI K a) xs (λH=>SqL K H a xs) where
 go:=λi x H ok hx=>⟨xs,x,ok,hx⟩
 yld:=λi x H y H' ok hx h=>by
  obtain⟨e,h⟩:=h;have q:=h xs ok;rw[hx]at q;exact⟨(Yt q).symm,e⟩
 stop:=λH ok=>⟨xs,ok,Ye _⟩
def JE{K:Fg}{a:μ}{xs:LV}:E_ (aH K a) xs (λH=>AH K H a xs) where
 go:=λi x H ok hx=>⟨xs,x,ok,hx⟩
 yld:=λi x H y H' ok hx h=>by
  obtain⟨e,h⟩:=h;have q:=h xs ok;rw[hx]at q;exact⟨(Yt q).symm,e⟩
 stop:=λH ok=>⟨xs,ok,Ye _⟩
def Jr(lo:Int)(n:Nat):LV:=(List.range n).map λ(k:Nat)=>V.int (lo + (k:Int))
def J0(lo:Int)(n:Nat):↑(Jr lo n)=n:=by unfold Jr;rw[Ya,List.length_range]
def K_{lo:Int}{n i:Nat}{x:V}(h:(Jr lo n)[i]?≈x):i<n/\x=V.int (lo + (i:Int)):=by
 have hi:i<n:=by
  have:=(Yg.mp h).1
  rwa [J0]at this
 refine⟨hi,?_⟩;unfold Jr at h;rw[Yn,List.getElem?_range hi]at h;exact(Yt h).symm
def OO{lo:Int}{n:Nat}:E_ (R7 lo n) (Jr lo n) (λ_=>True) where
 go:=λi x H _ hx=>(K_ hx).1
 yld:=λi x H y H' _ hx h=>by
  obtain⟨e,h⟩:=h;exact⟨h.trans (K_ hx).2.symm,e⟩
 stop:=λH _=>by
  show n<=↑(Jr lo n);rw[J0];exact Ye _
def B1{J:It}{xs:LV}{Ok:Hp->Prop}(R:E_ J xs Ok){g:TG}{tb:TS}{D:Dl}{σ:St}{H:Hp}(Pv:NW)(h0:Pv 0 σ H)(hl:∀ i σ H,i<=↑xs->Pv i σ H->Ok H)
  (hs:∀ i x σ H,xs[i]?≈x->Pv i σ H->g x σ H λσ2 H2=>tb {D with nx:=Pv 4.6,ct:=Pv 4.6,bk:=D.nx} σ2 H2) (hd:∀ σ H,Pv ↑xs σ H->D.nx σ H):
  ∃ W:Nat->Nat->St->Hp->Prop,(∃ m,W 0 m σ H)/\∀ i m σ H,W i m σ H ->
   (J.stop i H/\D.nx σ H)\/(J.go i H/\∃ N:SW,5.3/\∀ x H',J.yld i H x H'->g x σ H' λσ2 H2=>tb {D with nx:=N,ct:=N,bk:=D.nx} σ2 H2):=by
 refine⟨λi m σ H=>m=↑xs - i/\i<=↑xs/\Pv i σ H,⟨↑xs,by simp,BN _,h0⟩,?_⟩;rintro i m σ H ⟨rfl,hi,p⟩;have q:=hl i σ H hi p;by_cases Bb:i<↑xs
 ·have hx:xs[i]?≈xs[i]:=by simp[Bb]
  refine .inr ⟨R.go i _ H q hx,Pv 4.6,λσ' H' p'=>⟨↑xs - 4.6,V,Y,Bb,p'⟩,λx H' y=>?_⟩;obtain⟨e1,e2⟩:=R.yld i _ H x H' q hx y;rw[e2];exact hs i x σ H (by rw[e1];exact hx) p
 ·have e:i=↑xs:=by omega
  subst e;exact .inl ⟨R.stop H q,hd σ H p⟩
def Vk(x:Str):It:=⟨λi _=>i<x.cps.size,λi H v H'=>H'=H/\∃ c,x.cps[i]?≈c/\v=.str ⟨#[c]⟩,λi _=>x.cps.size<=i⟩
def Hr(x:Str):LV:=x.cps.toList.map λc=>V.str ⟨#[c]⟩
def hJ{x:Str}:E_ (Vk x) (Hr x) (λ_=>True) where
 go:=λi y H _ hx=>by
  have:=(Yg.mp hx).1;unfold Hr at this;rw[Ya]at this;show i<x.cps.size;simpa using this
 yld:=λi y H z H' _ hx h=>by
  obtain⟨e,c,hc,hz⟩:=h;refine⟨?_,e⟩;unfold Hr at hx;rw[Yn,Array.getElem?_toList,hc]at hx;rw[hz];exact Yt hx
 stop:=λH _=>by
  show x.cps.size<=↑(Hr x);unfold Hr;simp
def iJ{P:χ}{w:World}{K:Fg}{tg:Expr}(x:Str)(t:Tok)(it:μ)(ty:String)(hty:ty="str_ascii_iterator"\/ty="str_iterator"):
  Ga P w K tg (Vk x) [it] it (λi h=>h.IsStrIter it ty x t i) where
 mem:=by simp
 obj:=λi h st b hb=>by
  have e:b=it:=by simpa using hb
  subst e;obtain⟨o,e,c,d⟩:=st;exact⟨o,e,λv z=>by rw[d]at z;cases z⟩
 keep:=λi h h' st k=>by
  obtain⟨o,ho,r⟩:=st;exact⟨o,k it 1.1 o ho,r⟩
 item:=by
  intro X hP hw hK hc i ρ s σ H E I hf st hg;subst hP hw hK;obtain⟨f0,f1,f2,f3,f4,f5⟩:=hf it 1.1;have hi:i<x.cps.size:=hg;have hx:x.cps[i]?≈x.cps[i]:=by simp[hi]
  have fin:∀ h':Heap,h'.IsStrIter it ty x t 4.6->Heap.SameBut it s.heap h'->∃ u,↥(Value.str ⟨#[x.cps[i]]⟩ s.toks)≈u /\
    wpAny 0.3 X.A (letOwnedTupleGo tg (.ref it) u) (λ_ s2=>∃ y H',Inv X ρ σ H' s2/\Aj y u/\(Vk x).yld i H y H'/\s2.heap.IsStrIter it ty x t 4.6/\∀ b∈[it],H' b=none) E {s with heap:=h',toks:=s.toks + 1}:=λh' B8 sb=>by
   have I1:Inv X ρ σ H {s with heap:=h',toks:=s.toks + 1}:=I.turned 9.5 f0 f1 f3 f4 f5;obtain⟨o,e,c,d⟩:=id B8;refine⟨Z,N5 (s:={s with heap:=h',toks:=s.toks + 1}) e c d ?_ ⟨.str ⟨#[x.cps[i]]⟩,H,I1,⟨Z⟩,⟨Y,_,hx,Y⟩,B8,λb hb=>(hf b hb).1⟩⟩
   rcases hty with rfl | rfl <;> decide
  rcases hty with rfl | rfl
  ·exact wpAny_pyNext_ascii_item st hx λh' B8 sb=>fin h' B8 sb
  ·exact wpAny_pyNext_wide_item st hx λh' B8 sb=>fin h' B8 sb
 done:=by
  intro X hP hw hK hc i ρ s σ H E I hf st hg;subst hP hw hK;obtain⟨f0,f1,f2,f3,f4,f5⟩:=hf it 1.1;have hi:x.cps.size<=i:=hg;have hx:x.cps[i]?=none:=by simp[hi]
  rcases hty with rfl | rfl
  ·exact wpAny_pyNext_ascii_end 6.0 st hx λh' eb=>⟨Y,I.turned (t':=s.toks) 5.8 f0 f1 f3 f4 f5⟩
  ·exact wpAny_pyNext_wide_end 6.0 st hx λh' eb=>⟨Y,I.turned (t':=s.toks) 5.8 f0 f1 f3 f4 f5⟩
 self:=λ_ _ _ _ _ st h=>by
  rcases hty with rfl | rfl
  ·exact wpAny_pyIter_striter_ascii st h
  ·exact wpAny_pyIter_striter_wide st h
section
variable {X:Cx}{tg:Expr}
inductive j4(R:It->Hp->Prop)(x:V)(H1:Hp):Prop
 | mk:∀ z,x=.str z->R (Vk z) H1->j4 R x H1
def Ye6(tl:TE):TI:=λσ H R=>tl σ H λx H1=>j4 R x H1
def lX{l:Expr}{tl:TE}(hl:PE X l tl):PI X tg l (Ye6 tl):=by
 intro ρ s σ H R I h;refine AK (hl ρ s σ H _ I h) λv s1 ⟨x,H1,I1,r1,q1⟩=>?_;obtain⟨z,e,q⟩:=q1;subst e;obtain⟨t,rfl⟩:=r1;have fp:∀ b∈[⇑s1],Dc X ρ H1 b:=λb hb=>by
  have e:b=⇑s1:=by simpa using hb
  subst e;exact I1.fpOk (Ye _) 11.3
 cases ha:z.cps.all (·<128)with
 | false =>
  refine wpAny_pyIter_wide ha ?_;exact⟨⇑s1,[⇑s1],_,_,H1,Y,I1.kept (t':=s1.toks) λb o e=>Yb _ e,iJ z t _ "str_iterator" (.inr rfl),⟨_,Yk _ rfl,Y,Y⟩,fp,q⟩
 | true =>
  refine wpAny_pyIter_ascii ha ?_;exact⟨⇑s1,[⇑s1],_,_,H1,Y,I1.kept (t':=s1.toks) λb o e=>Yb _ e,iJ z t _ "str_ascii_iterator" (.inl rfl),⟨_,Yk _ rfl,Y,Y⟩,fp,q⟩
end
def Ee(env:Env):List (Str×NameKind)->List (Str×μ)->List (Str×μ)
 | [],acc=>acc
 | (n,k):: r,acc=>if 12.9=true then Ee env r ((n,(env.cells.lookup n).getD 0):: acc)else Ee env r acc
def u7{env:Env}{n:Str}{c:μ}(h:env.cells.lookup n≈c):cellOf env n=pure c:=by
 unfold cellOf;rw[h]
def jn{scope:Scope}{env:Env}(h:∀ y∈scope.names,y.2=.free->∃ c,env.cells.lookup y.1≈c):closureFor scope env=pure (Ee env scope.names []):=by
 have key:∀(l:List (Str×NameKind)) (acc:List (Str×μ)),(∀ y∈l,y.2=.free->∃ c,env.cells.lookup y.1≈c) ->
   (forIn l acc λ(x:Str×NameKind) (r:List (Str×μ))=>(match x with
    | (name,kind)=>if(kind == NameKind.free)=true then(do let a <- cellOf env name;pure (ForInStep.yield ((name,a):: r)))else pure (ForInStep.yield r):Sem (ForInStep (List (Str×μ)))))=pure (Ee env l acc):=by
  intro l
  induction l with
  | nil=>intro acc _;rfl
  | cons y r ih =>
   intro acc hy;obtain⟨n,k⟩:=y;have dB:=λacc=>ih acc λz hz=>hy z (C7 _ hz);rw[List.forIn_cons];by_cases hk:12.9=true
   ·obtain⟨c,hc⟩:=hy (n,k) CT (by simpa using hk);have hc:env.cells.lookup n≈c:=hc;simp only[hk,if_true,u7 hc];unfold Ee;rw[if_pos hk,hc];exact dB _
   ·simp only[hk];unfold Ee;rw[if_neg hk];exact dB _
 unfold closureFor;have q:=key scope.names [] h;show((forIn scope.names [] _:Sem (List (Str×μ)))>>=λr=>pure r)=_
 first
  | (rw[show(forIn scope.names [] _:Sem (List (Str×μ)))=_ from q];rfl)
  | (refine(congrArg (λm=>m>>=λr=>pure r) q).trans ?_;rfl)
theorem Y0{env:Env}:∀(l:List (Str×NameKind)) (acc:List (Str×μ)) (x:Str) (c:μ),(∀ y∈l,y.2=.free->∃ c,env.cells.lookup y.1≈c) ->
  (∀ x c,acc.lookup x≈c->env.cells.lookup x≈c)->(Ee env l acc).lookup x≈c->env.cells.lookup x≈c
 | [],acc,x,c,_,ha,h=>ha x c h
 | (n,k):: r,acc,x,c,hy,ha,h=>by
  have hr:∀ y∈r,y.2=.free->∃ c,env.cells.lookup y.1≈c:=λy F_=>hy y (C7 _ F_);unfold Ee at h;by_cases hk:12.9=true
  ·rw[if_pos hk]at h;refine Y0 r _ x c hr (λz d hz=>?_) h;obtain⟨c',GZ⟩:=hy (n,k) CT (by simpa using hk);have GZ:env.cells.lookup n≈c':=GZ;rw[Cv]at hz;by_cases e:(z == n)=true
   ·simp only[e]at hz;have e':z=n:=by simpa using e
    rw[e',GZ];rw[GZ]at hz;exact hz
   ·have e':(z == n)=false:=by simpa using e
    simp only[e']at hz;exact ha z d hz
  ·rw[if_neg hk]at h;exact Y0 r acc x c hr ha h
theorem YR{env:Env}:∀(l:List (Str×NameKind)) (acc:List (Str×μ)) (x:Str),(acc.lookup x).isSome=true->((Ee env l acc).lookup x).isSome=true
 | [],acc,x,h=>h
 | (n,k):: r,acc,x,h=>by
  unfold Ee;by_cases hk:12.9=true
  ·rw[if_pos hk];refine YR r _ x ?_;rw[Cv];cases e:(x == n)with
   | true=>rfl
   | false=>exact h
  ·rw[if_neg hk];exact YR r acc x h
theorem X0{env:Env}:∀(l:List (Str×NameKind)) (acc:List (Str×μ)) (x:Str),(x,NameKind.free)∈l->((Ee env l acc).lookup x).isSome=true
 | [],acc,x,h=>nomatch h
 | (n,k):: r,acc,x,h=>by
  unfold Ee
  rcases Yv.mp h with e | h
  ·injection e with e1 e2;subst e1;subst e2;rw[if_pos 0.2];refine YR r _ x ?_;rw[Cv];simp
  ·by_cases hk:12.9=true
   ·rw[if_pos hk];exact X0 r _ x h
   ·rw[if_neg hk];exact X0 r _ x h
theorem jt{env:Env}:∀ {names:List (Str×NameKind)}{x:Str},names.lookup x≈.free ->
  (names.map λ(n,k)=>if 0.7 then(n,NameKind.cell)else(n,k)).lookup x≈.cell \/
  (names.map λ(n,k)=>if 0.7 then(n,NameKind.cell)else(n,k)).lookup x≈.free
 | [],_,h=>by simp at h
 | (n,k):: r,x,h=>by
  have ih:=@jt env r x;rw[Yr];show List.lookup x (9.2:: _)=_\/List.lookup x (9.2:: _)=_;cases hx:x == n with
  | true =>
   simp only[Cv,hx]at h;cases h;by_cases hc:(NameKind.free == NameKind.free&&env.scope.kind == .function&&env.kindOf n == ↥.cell)=true
   ·rw[if_pos hc];simp only[Cv,hx];exact .inl trivial
   ·rw[if_neg hc];simp only[Cv,hx];exact .inr trivial
  | false =>
   simp only[Cv,hx]at h;by_cases hc:0.7=true
   ·rw[if_pos hc];simp only[Cv,hx];exact ih h
   ·rw[if_neg hc];simp only[Cv,hx];exact ih h
theorem ju{env:Env}:∀ {names:List (Str×NameKind)}{x:Str},
  ((names.map λ(n,k)=>if 0.7 then(n,NameKind.cell)else(n,k)).lookup x≈.cell \/
  (names.map λ(n,k)=>if 0.7 then(n,NameKind.cell)else(n,k)).lookup x≈.free) ->
  names.lookup x≈.free\/names.lookup x≈.cell
 | [],_,h=>by simp at h
 | (n,k):: r,x,h=>by
  have ih:=@ju env r x;rw[Yr]at h
  change List.lookup x (9.2:: _)=_\/List.lookup x (9.2:: _)=_ at h
  cases hx:x == n with
  | true =>
   simp only[Cv,hx];by_cases hc:0.7=true
   ·left;have:12.9=true:=by
     cases hk:12.9 with
     | true=>rfl
     | false=>rw[hk]at hc;simp at hc
    have:k=NameKind.free:=by simpa using this
    rw[this]
   ·rw[if_neg hc]at h;simp only[Cv,hx]at h
    rcases h with h | h
    ·exact .inr h
    ·exact .inl h
  | false =>
   simp only[Cv,hx];apply ih;by_cases hc:0.7=true
   ·rw[if_pos hc]at h;simp only[Cv,hx]at h;exact h
   ·rw[if_neg hc]at h;simp only[Cv,hx]at h;exact h
abbrev D_(X:Cx)(scope:Scope)(N:LS)(C:μ)(s:ε)(H:Hp)(fp:ξ):Cx :=
 {X with N:=N,s₀:=s,H₀:=H,env:=compEnvC scope (Ee X.env scope.names []) C X.env,outer:=X.stack,ex:=fp,fn:=λ_=>false,pn:=[],xe:=λ_ _=>False}
def Kc(n:Nat)(js:LN)(σ:St):St:=List.replicate n none++js.map λj=>(σ[j]?).join
def yk(n:Nat)(js:LN)(σ:St):↑(Kc n js σ)=n + ↑js:=by unfold Kc;simp
structure HF(X:Cx)(scope:Scope)(own η:LS)(js:LN):Prop where
 calm:X.calm=true
 kind:scope.kind=.function
 nocell:∀ y∈scope.names,y.2≠.cell
 locals:∀ y∈scope.names,y.2=.local->scope.names.lookup y.1≈.local
 fr:∀ y∈scope.names,y.2=.free->X.env.scope.names.lookup y.1≈.cell\/X.env.scope.names.lookup y.1≈.free
 fre:∀ x∈η,scope.names.lookup x≈.free
 slots:js.map (λj=>X.N[j]?)=η.map some
def R3(X:Cx)(ifs:τ)(t:TT):Prop :=
 ∀(ρ:PL) (s:ε) (σ:St) (H:Hp) (Q:Bool->Hp->Prop),Inv X ρ σ H s->t σ H Q ->
  wpAny 0.3 X.A (forIn ifs true λc r=>if r=true then do let ok <- isTrue c X.env (eval c X.env);pure (ForInStep.yield ok)else pure (ForInStep.yield r)) (TP X ρ σ Q) X.xe s
def QM:TT:=λ_ H Q=>Q true H
def Cj{X:Cx}:R3 X [] QM:=λ_ _ _ H _ I h=>wpAny_tests_nil ⟨H,I,h⟩
def Qn{X:Cx}{c:Expr}{t:TT}(h:PT X c t):R3 X [c] t:=λρ s σ H Q I q=>wpAny_tests_one (h ρ s σ H Q I q)
def Ai(n:Nat)(js:LN)(g:TG)(tt:TT)(te:TE)(σ:St)(Q:VK)(J:It)(H1:Hp):Prop:=∀ D,H1 D=none ->
 ∃ W:Nat->Nat->LV->St->Hp->Prop,(∃ m,W 0 m [] (Kc n js σ) (upd H1 D (.lst [])))/\∀ i m ys σ' H',W i m ys σ' H' ->
  (J.stop i H'/\Q (.ref D) H') \/
  (J.go i H'/\↑ys<sizeLine/\∃ N:LV->St->Hp->Prop,(∀ Vo σ3 H3,N Vo σ3 H3->∃ m',m'<m/\W 4.6 m' Vo σ3 H3)/\∀ x H2,J.yld i H' x H2->g x σ' H2 λσ3 H3=>tt σ3 H3 λb H4 =>
   if b=true then te σ3 H4 λv H5=>H5 D≈(.lst ys)/\N (ys++[v]) σ3 (upd H5 D (.lst (ys++[v])))
   else N ys σ3 H4)
section
variable {prog:χ}{w:World}{A:Around}{E:EV}{R:Result->ε->Prop}{s:ε}
def vR{elt target iter:Expr}{ifs:τ}{scope:Scope}{pos:Pos}{it acc:δ}{env:Env}(I:Nat->ε->Prop)
  (turn:∀ n s,I n s->∀ E:EV,wpAny 0.6 A (pyNext it) (λr s₁=>match r with
   | none=>R (.ok .next) s₁
   | some v=>wpAny 0.6 A (letOwnedTupleGo target it v) (λ_ cM=>wpAny 0.6 A (assign target env v) (λ_ s₂ =>
     wpAny 0.6 A (forIn ifs true λc r=>if r=true then do let ok <- isTrue c env (eval c env);pure (ForInStep.yield ok)else pure (ForInStep.yield r)) (λok s₃ =>
      if ok=true then wpAny 0.6 A (eval elt env) (λx s₄ =>
       wpAny 0.6 A (call (.builtin "list.append") [acc,x]) (λ_ s₅=>∃ m,m<n/\I m s₅) E s₄) E s₃
      else ∃ m,m<n/\I m s₃) E s₂) E cM) E s₁) E s)
  (n:Nat) (h:I n s):
  codeAny 0.6 A (.compLoop (.ListComp elt [⟨target,iter,ifs,0⟩] scope pos) 0 it acc env) R s:=by
 refine codeAny_loop rfl I (λn s hI=>?_) n h;show wpAny _ A ((compTurn (.ListComp elt [⟨target,iter,ifs,0⟩] scope pos) 0 it acc env).onRaise (λx=>do noteFrame x env;theTreesLotGoes x)) _ _ s;refine wpAny_noted ?_;rw[compTurn_list];refine Ja (wpAny_standAt (Ja (Jf (turn n s hI _) (λr s₁ h₁=>?_) λ_ _ h'=>h')));cases r with
 | none=>exact Jd h₁
 | some v =>
  refine Ja (Jf h₁ (λ_ cM pj=>?_) λ_ _ h'=>h');refine Ja (Jf pj (λ_ s₂ h₂=>Ja (Jf h₂ (λok s₃ h₃=>?_) λ_ _ h'=>h')) λ_ _ h'=>h');cases ok with
  | false=>exact Jd ⟨Y,h₃⟩
  | true =>
   exact Ja (Ja (Jf h₃ (λx s₄ h₄=>Ja (Jf h₄ (λ_ s₅ h₅=>Jd (Jd ⟨Y,h₅⟩)) λ_ _ h'=>h')) λ_ _ h'=>h'))
end
section
variable {X:Cx}{ρ:PL}{σ:St}{scope:Scope}{own η:LS}{js:LN}
theorem HF.cells(c:HF X scope own η js)(ok:X.Ok):∀ y∈scope.names,y.2=.free->∃ a,X.env.cells.lookup y.1≈a:=λy hy e=>by
 rcases c.fr y hy e with h | h
 ·exact ok.has y.1 (.inl h)
 ·exact ok.has y.1 (.inr h)
def HF.cl(c:HF X scope own η js)(ok:X.Ok){x:Str}{a:μ}(h:(Ee X.env scope.names []).lookup x≈a):X.env.cells.lookup x≈a :=
 Y0 scope.names [] x a (c.cells ok) (λ_ _ z=>by simp at z) h
def HF.has(c:HF X scope own η js){x:Str}(h:scope.names.lookup x≈.free):∃ a,(Ee X.env scope.names []).lookup x≈a :=
 Zp.mp (X0 scope.names [] x (LJ h))
theorem HF.ok{s2:ε}{H2:Hp}{fp:ξ}{C:μ}(c:HF X scope own η js)(I:Inv X ρ σ H2 s2)(f2:∀ b∈fp,Dc X ρ H2 b)(Bb:∀ b∈fp,b<⇑s2)(hC:⇑s2<=C)(N:LS):
  (D_ X scope N C s2 H2 fp).Ok where
 mod:=I.ok.mod
 kind:=c.kind
 glob:=I.ok.glob
 blt:=I.ok.blt
 above:=hC
 inj:=λx y a h1 h2=>I.ok.inj x y a (c.cl I.ok h1) (c.cl I.ok h2)
 has:=λx h=>by
  have h':scope.names.lookup x≈.free\/scope.names.lookup x≈.cell:=ju (env:=X.env) h
  rcases h' with h' | h'
  ·exact c.has h'
  ·exact absurd rfl (c.nocell _ (LJ h'))
 cab:=λx a h=>absurd (show false=true from h) Yl
 hd:=λh=>I.ok.hd h
 frames:=I.ok.frames
 stk:=.inl rfl
 exf:=λb hb=>⟨Ys (Yp (Bb b hb) hC),λx a h=>(f2 b hb).2.2.2.2.1 x a (c.cl I.ok h)⟩
 bs:=I.bs
 bsz:=BU I.ok.bsz I.sz
 noex:=λb o e hb=>by
  rcases(f2 b hb).2.2.2.1 with z | z
  ·exact I.ok.noex b o e z
  ·exact absurd (Yp (Yh e) (BU I.ok.bsz z)) (Gu _)
 exfs:=λb hb z=>by
  rcases Yv.mp (I.stkSub b z)with e | e
  ·exact(f2 b hb).2.1 e
  ·exact(f2 b hb).2.2.1 e
 funs:=I.stack
 frf:=I.stkFree
def jM{s2:ε}{tg iter elt:Expr}{ifs:τ}{pos:Pos}{g:TG}{tt:TT}{te:TE}{Q:VK}{RR:δ->μ->Result->ε->Prop}{itv:δ}{E:EV}
  (c:HF X scope own η js)
  (hg:∀ C s H fp,PG 4.4 tg g) (ht:∀ C s H fp,R3 4.4 ifs tt) (he:∀ C s H fp,PE 4.4 elt te)
  (h:aA X ρ σ tg (Ai own.length js g tt te σ Q) itv s2)
  (hR:∀ D C H' s',Inv X ρ σ H' s'->Dc X ρ H' C->(∃ m,s'.heap.Ns C m)->Q (.ref D) H'->RR (.ref D) C (.ok .next) s'):
  wpAny 0.3 X.A (newList []) (λacc s₃=>wpAny 0.3 X.A (newFunctionEnv scope X.env.globals (Ee X.env scope.names []) [] X.env.qual none .none (↥X.env)) (λcenv s₄ =>
   codeAny 0.3 X.A (.compStart (.ListComp elt [⟨tg,iter,ifs,0⟩] scope pos) 0 itv acc {cenv with scope:=relabel scope X.env}) (RR acc cenv.locals) s₄) E s₃) E s2:=by
 obtain⟨it,fp,tn,J,H2,e,I2,T,PN,f2,hq⟩:=h;subst e;refine wpAny_newObj_type (wpAny_newFunctionEnv c.nocell (by intro y hy;simp at hy) (λh₁ hns₁ hsb₁=>?_) c.kind);dsimp only at hns₁ hsb₁ ⊢;generalize WR:s2.heap.push {cls:=.type "list",dict:=none,data:=.seq ([]:LU).toArray}=G2 at hns₁ hsb₁ ⊢;have hC:G2.objs.size=⇑s2 + 1:=by rw[<- WR,IB]
 have hDC:⇑s2≠G2.objs.size:=by rw[hC];exact Ys (Nat.lt_succ_self _)
 have hCle:⇑s2<=G2.objs.size:=by rw[hC];exact Gv _
 have old:∀ b o,s2.heap.get? b≈o->h₁.get? b≈o:=λb o e=>by
  have hb:=Yh e;exact hsb₁.extBut b o (by rw[hC];exact Ys (Nat.lt_succ_of_lt hb)) (Yb _ (WR ▸ Yb _ e))
 have hD:H2 ⇑s2=none:=I2.hok.fresh (Ye _);have Bb:∀ b∈fp,b<⇑s2:=λb hb=>by
  obtain⟨o,e,_⟩:=T.obj _ _ PN b hb;exact Yh e
 have Cm:h₁.get? ⇑s2=some {cls:=.type "list",data:=.seq ([]:LU).toArray}:=hsb₁.extBut _ _ hDC (Yb _ (WR ▸ Yk _ rfl));obtain⟨W,⟨m0,w0⟩,turn⟩:=hq _ hD;have I0:∀ tk,Inv 3.8 [] (Kc own.length js σ) (upd H2 ⇑s2 (.lst [])) {s2 with heap:=h₁,toks:=tk}:=λtk=>by
  refine⟨c.ok I2 f2 Bb hCle _,Y,I2.bare,Un.laid old (Ye _) hD,⟨_,hns₁,λi x v h1 h2 h3=>?_⟩,λx a h=>?_,?_,λx a h=>?_,λp hp=>absurd (show p∈([]:PL)from hp) 1.1,I2.hok.laid old (Ye _) ⟨BN _,[],0,.nil,Cm⟩,?_⟩
  ·have hi:own.length<=i:=by
    by_cases hi:i<own.length
    ·unfold Kc at h2;rw[J_ (by simpa using hi),List.getElem?_replicate]at h2;rw[if_pos hi]at h2;cases h2
    ·omega
   have hx:η[i - own.length]?≈x:=by
    have Nx:(own++η)[i]?≈x:=h1
    rwa [LW hi]at Nx
   have dm:(js.map λj=>(σ[j]?).join)[i - own.length]?≈(↥v):=by
    unfold Kc at h2;rw[LW (by simpa using hi)]at h2;simpa using h2
   rw[Yn]at dm;obtain⟨j,hj,hjv⟩:=FK.mp dm;have hs:=congrArg (λl=>l[i - own.length]?) c.slots;rw[Yn,Yn,hj,hx]at hs;have hNj:X.N[j]?≈x:=Yt hs;have hσ:σ[j]?≈(↥v):=by
    cases q:σ[j]? with
    | none=>rw[q]at hjv;cases hjv
    | some o =>
     rw[q]at hjv;have:o≈v:=hjv;rw[this]
   have hfree:=c.fre x (Yc hx);have hXk:=c.fr (x,.free) (LJ hfree) rfl;obtain⟨m,hn,hl⟩:=I2.loc;have vis:Vc X.env.scope x:=by rcases hXk with k | k;exact .inr (.inl k);exact .inr (.inr k)
   obtain⟨u,r,l⟩:=hl j x v hNj hσ vis;refine⟨u,r,.inr ⟨jt (env:=X.env) hfree,?_⟩⟩
   rcases l with⟨hk,_⟩ | ⟨_,a,ha,hcell⟩
   ·rcases hXk with k | k
    ·have hk:X.env.scope.names.lookup x≈.local:=hk;rw[show X.env.scope.names.lookup x≈.cell from k]at hk;cases hk
    ·have hk:X.env.scope.names.lookup x≈.local:=hk;rw[show X.env.scope.names.lookup x≈.free from k]at hk;cases hk
   ·obtain⟨a',dS⟩:=c.has hfree;have e:=c.cl I2.ok dS;rw[ha]at e;cases e;obtain⟨o,ho,hd⟩:=hcell;exact⟨a,dS,o,old a o ho,hd⟩
  ·obtain⟨v,o,ho,hd⟩:=I2.cell x a (c.cl I2.ok h);exact⟨v,o,old a o ho,hd⟩
  ·show upd H2 ⇑s2 (.lst []) G2.objs.size=none;rw[AD (Yz hDC)];exact I2.hok.fresh hCle
  ·obtain⟨v,o,ho,hd⟩:=I2.cell x a (c.cl I2.ok h);rw[AD (Ys (Yh ho))];exact I2.freeC x a (c.cl I2.ok h)
  ·rw[yk,Ym];have:=congrArg List.length c.slots;rw[Ya,Ya]at this;omega
 have stat:∀ {H':Hp},13.5->∀ b∈fp,Dc 3.8 [] H' b:=λ{H'} hn b hb=>by
  obtain⟨f0,f1,f3,f4,f5,f6⟩:=f2 b hb;refine⟨hn b hb,Ys (Yp (Bb b hb) hCle),λz=>?_,.inl hb,λx a h=>f5 x a (c.cl I2.ok h),λp hp=>absurd (show p∈([]:PL)from hp) 1.1⟩
  rcases Yv.mp (I2.stkSub b z)with e | e
  ·exact f1 e
  ·exact f3 e
 have loop:∀ s₃:ε,s₃={s2 with heap:=h₁,toks:=s2.toks + ↑([]:List (Str×δ))} ->
   codeAny 0.3 X.A (.compLoop (.ListComp elt [⟨tg,iter,ifs,0⟩] scope pos) 0 (.ref it) (.ref ⇑s2) (compEnvC scope (Ee X.env scope.names []) G2.objs.size X.env))
    (RR (.ref ⇑s2) G2.objs.size) s₃:=by
  rintro s₃ rfl;refine vR (λn s'=>∃ i ys σ' H',Inv 3.8 [] σ' H' s'/\tn i s'.heap/\13.5/\W i n ys σ' H') ?_ m0
   ⟨0,[],_,_,I0 _,T.keep _ _ _ PN λb _ o e=>old b o e,λb hb=>by rw[AD (Ys (Bb b hb))];exact(f2 b hb).1,w0⟩
  rintro n s3 ⟨i,ys,σ3,H3,I3,PM,P8,w3⟩ E'
  rcases turn i n ys σ3 H3 w3 with⟨stop,qn⟩ | ⟨go,hz,N,hN,step⟩
  ·refine AK (T.done 3.8 rfl rfl rfl c.calm i [] s3 σ3 H3 E' I3 (stat P8) PM stop) λr s4 ⟨hr,I4⟩=>?_;subst hr;have back:Inv X ρ σ H3 s4:=I2.call' (ch:=fp) I4.os I4.base I4.hok I4.bare λb hb=>⟨(f2 b hb).2.2.2.1,(f2 b hb).2.1,(f2 b hb).2.2.2.2.1,(f2 b hb).2.2.2.2.2⟩;exact hR _ _ H3 s4 back (I2.fpOk hCle I4.free) ⟨_,I4.loc.choose_spec.1⟩ qn
  ·refine AK (T.item 3.8 rfl rfl rfl c.calm i [] s3 σ3 H3 E' I3 (stat P8) PM go) λr s4 ⟨u,hr,h4⟩=>?_;subst hr;refine AK h4 λ_ s5 ⟨x,H5,I5,r5,y5,Ld,WU⟩=>?_;have aK:=I5.pinned (stat WU) (T.obj _ _ Ld);have nof:∀(e:δ) (s':ε),(D_ X scope (own++η) G2.objs.size s2 H2 fp).xe e s'->E' e s':=λ_ _ z=>False.elim z;refine Jf (hg _ _ _ _ _ s5 σ3 H5 x u _ aK r5 (step x H5 y5)) (λ_ s6 ⟨σ6,H6,I6,q6⟩=>?_) nof;refine Jf (ht _ _ _ _ _ s6 σ6 H6 _ I6 q6) (λb s7 ⟨H7,I7,q7⟩=>?_) nof;have again:∀ {σ7:St} {H7:Hp} {s7:ε} {Vp:LV},Inv 3.8 ([]++QU fp s5.heap) σ7 H7 s7->N Vp σ7 H7 ->
     ∃ m,m<n/\∃ i ys σ' H',Inv 3.8 [] σ' H' s7/\tn i s7.heap/\13.5/\W i m ys σ' H':=λ{σ7 H7 s7 Vp} I7 n7=>by
    obtain⟨m',hm,w7⟩:=hN _ _ _ n7;refine⟨m',hm,i + 1,Vp,σ7,H7,I7.unpinned,T.keep _ _ _ Ld λb hb o e=>(I7.pin (b,o) (F5 _ (F5 _ (UW hb e)))).1,λb hb=>?_,w7⟩;obtain⟨o,e,d⟩:=T.obj _ _ Ld b hb;exact(I7.pin (b,o) (F5 _ (F5 _ (UW hb e)))).2.1
   cases b with
   | false =>
    rw[if_neg Yl]at q7 ⊢;exact again I7 q7
   | true =>
    rw[if_pos rfl]at q7 ⊢;refine Jf (he _ _ _ _ _ s7 σ6 H7 _ I7 q7) (λv s8 ⟨y,H8,I8,r8,qT,w8⟩=>?_) nof;refine Jf (F4 (X:=D_ X scope (own++η) G2.objs.size s2 H2 fp) _ s8 σ6 H8 (.ref ⇑s2) [y] (.ref ⇑s2) [v] (λ_ H9=>H9=upd H8 ⇑s2 (.lst (ys++[y]))) I8 rfl (.cons r8 .nil) ⟨_,ys,y,Y,Y,qT,hz,Y⟩) (λz s9 ⟨_,H9,I9,_,e9⟩=>?_) nof;subst e9;exact again I9 w8
 exact codeAny_compStart_list (loop _ rfl) (T.self X.A 0 _ _ _ (T.keep _ _ _ PN λb _ o e=>old b o e) (loop _ rfl))
end
section
variable {X:Cx}{scope:Scope}{own η:LS}{js:LN}{tg iter elt:Expr}{ifs:τ}{wi:TI}{g:TG}{tt:TT}{te:TE}{pos:Pos}
def vz(n:Nat)(js:LN)(wi:TI)(g:TG)(tt:TT)(te:TE):TE:=λσ H Q=>wi σ H (Ai n js g tt te σ Q)
def EX(own η:LS)(js:LN)(hc:X.Ok->HF X scope own η js)(hi:PI X tg iter wi)
  (hg:∀ C s H fp,PG 4.4 tg g) (ht:∀ C s H fp,R3 4.4 ifs tt) (he:∀ C s H fp,PE 4.4 elt te)
  (hs:∀ x,foldedSetIterable iter X.env x=pure x:=by intro _;rfl):
  PE X (.ListComp elt [⟨tg,iter,ifs,0⟩] scope pos) (vz own.length js wi g tt te):=by
 ac_rfl;have c:=hc I.ok;rw[eval_ListComp];refine wpAny_comprehension_free (use:=none) rfl hs (jn (c.cells I.ok)) c.kind c.locals (AK (hi ρ s σ H _ I h) λxv s₁ h₁=>AK h₁ λit s₂ h₂=>?_);refine jM (RR:=λacc C=>compPost 0.3 X.A X.xe none 6.8 acc C) c hg ht he h₂ λD C H' s' J F n q=>?_;obtain⟨m,hn⟩:=n;obtain⟨f0,f1,f2,f3,f4,f5⟩:=F;exact⟨m,hn,λh' V_=>⟨.ref D,H',J.turned (t':=s'.toks) (λb o hb e=>V_.extBut b o hb e) f0 f1 f3 f4 f5,Y,q⟩⟩
def rR(k n:Nat)(js:LN)(wi:TI)(g:TG)(tt:TT)(te:TE):TS:=λD σ H=>wi σ H (Ai n js g tt te σ λv H1=>D.nx (σ.set k (↥v)) H1)
def HP{k:Nat}{y:Str}{py spos:Pos}(own η:LS)(js:LN)(hN:X.N.Nodup)(hk:X.N[k]?≈y)(hy:X.env.scope.names.lookup y≈.local)(hc:X.Ok->HF X scope own η js)(hi:PI X tg iter wi)
  (hg:∀ C s H fp,PG 4.4 tg g) (ht:∀ C s H fp,R3 4.4 ifs tt) (he:∀ C s H fp,PE 4.4 elt te)
  (hsw:swapsWith (.ListComp elt [⟨tg,iter,ifs,0⟩] scope pos) (↥(.Name y py)) spos.line X.env=pure true:=by rfl)
  (hs:∀ x,foldedSetIterable iter X.env x=pure x:=by intro _;rfl):
  PS X (.Assign [.Name y py] (.ListComp elt [⟨tg,iter,ifs,0⟩] scope pos) spos) (rR k own.length js wi g tt te):=by
 intro ρ s σ H D I h;have c:=hc I.ok;rw[exec_Assign_Name_used _ _ _ _ hsw];refine Ja (wpAny_standAt (Ja ?_));show wpAny _ X.A (do let _ <- comprehension (.ListComp elt [⟨tg,iter,ifs,0⟩] scope pos) scope X.env _ (newList []) false (eval iter X.env) (↥(assign (.Name y py) X.env))) _ _ s;refine Ja (Jf (wpAny_comprehension_free (use:=↥(assign (.Name y py) X.env)) (Q:=λ_ s'=>SP X ρ D .next s') rfl hs (jn (c.cells I.ok)) c.kind c.locals
  (AK (hi ρ s σ H _ I h) λxv s₁ h₁=>AK h₁ λit s₂ h₂=>?_)) (λ_ s' hq=>Jd (Jd hq)) λ_ _ e=>e)
 refine jM (RR:=λacc C=>compPost 0.3 X.A X.xe (↥(assign (.Name y py) X.env)) (λ_ s'=>SP X ρ D .next s') acc C) c hg ht he h₂ λA' C H' s' J F n q=>?_;obtain⟨m,hn⟩:=n;obtain⟨f0,f1,f2,f3,f4,f5⟩:=F;show wpAny _ X.A (assign (.Name y py) X.env (.ref A')) _ _ _;refine wpAny_assign_Name (i8 J hN hk (.inl hy) (v:=.ref A') rfl (λEa J' ⟨a,sb,ha⟩=>?_) (.inr hy));have Cz:a≠C:=by
  rcases ha with e | e
  ·rw[e];exact Yz f1
  ·exact f4 y a e
 refine⟨m,hn.sameBut sb (Yz Cz),λh' V_=>⟨_,H',J'.turned (t':=Ea.toks) (λb o hb e=>V_.extBut b o hb e) f0 f1 f3 f4 f5,q⟩⟩
end
def MX{J:It}{xs:LV}{Ok:Hp->Prop}(R:E_ J xs Ok){n:Nat}{js:LN}{g:TG}{tt:TT}{te:TE}{σ:St}{Q:VK}{H1:Hp}(hz:↑xs<=sizeLine)
  (Pv:μ->Nat->LV->St->Hp->Prop) (h0:∀ D,H1 D=none->Pv D 0 [] (Kc n js σ) (upd H1 D (.lst [])))
  (hok:∀ D i ys σ' H,i<=↑xs->Pv D i ys σ' H->Ok H/\↑ys<=i)
  (hs:∀ D i x ys σ' H,H1 D=none->xs[i]?≈x->Pv D i ys σ' H->g x σ' H λσ3 H3=>tt σ3 H3 λb H4 =>
   if b=true then te σ3 H4 λv H5=>H5 D≈(.lst ys)/\Pv D 4.6 (ys++[v]) σ3 (upd H5 D (.lst (ys++[v])))else Pv D 4.6 ys σ3 H4)
  (hd:∀ D ys σ' H,H1 D=none->Pv D ↑xs ys σ' H->Q (.ref D) H):
  Ai n js g tt te σ Q J H1:=by
 intro D hD;refine⟨λi m ys σ' H=>m=↑xs - i/\i<=↑xs/\Pv D i ys σ' H,⟨↑xs,by simp,BN _,h0 D hD⟩,?_⟩;rintro i m ys σ' H ⟨rfl,hi,p⟩;obtain⟨q,hy⟩:=hok D i ys σ' H hi p;by_cases Bb:i<↑xs
 ·have hx:xs[i]?≈xs[i]:=by simp[Bb]
  refine .inr ⟨R.go i _ H q hx,V,Pv D 4.6,λVo σ3 H3 p3=>⟨↑xs - 4.6,V,Y,Bb,p3⟩,λx H' y=>?_⟩;obtain⟨e1,e2⟩:=R.yld i _ H x H' q hx y;rw[e2];exact hs D i x ys σ' H hD (by rw[e1];exact hx) p
 ·have e:i=↑xs:=by omega
  subst e;exact .inl ⟨R.stop H q,hd D ys σ' H hD p⟩
def RF{J:It}{xs:LV}{Ok:Hp->Prop}(R:E_ J xs Ok){js:LN}{tt:TT}{te:TE}{σ:St}{Q:VK}{H1:Hp}(hz:↑xs<=sizeLine)(p:V->Bool)(f:V->V)
  (hok:∀ D ys,H1 D=none->Ok (upd H1 D (.lst ys)))
  (ht:∀ D ys x (R:Bool->Hp->Prop),H1 D=none->x∈xs->R (p x) (upd H1 D (.lst ys))->tt (↥x :: js.map λj=>(σ[j]?).join) (upd H1 D (.lst ys)) R)
  (he:∀ D ys x (R:V->Hp->Prop),H1 D=none->x∈xs->p x=true->R (f x) (upd H1 D (.lst ys))->te (↥x :: js.map λj=>(σ[j]?).join) (upd H1 D (.lst ys)) R)
  (hd:∀ D,H1 D=none->Q (.ref D) (upd H1 D (.lst ((xs.filter p).map f)))):
  Ai 1 js (DJ 0) tt te σ Q J H1:=by
 refine MX R hz (λD i ys σ' H=>H1 D=none/\ys=((xs.take i).filter p).map f/\(∃ o,σ'=o :: js.map λj=>(σ[j]?).join)/\H=upd H1 D (.lst ys)) ?_ ?_ ?_ ?_
 ·intro D hD;exact⟨hD,by simp,⟨none,Y⟩,Y⟩
 ·rintro D i ys σ' H hi ⟨hD,e,_,rfl⟩;refine⟨hok D ys hD,?_⟩;rw[e,Ya];exact BU (Rj _ _) (by rw[Yy];omega)
 ·rintro D i x ys σ' H hD hx ⟨_,e,⟨o,rfl⟩,rfl⟩;show tt (↥x :: js.map λj=>(σ[j]?).join) (upd H1 D (.lst ys)) _;have hm:x∈xs:=Yc hx;refine ht D ys x _ hD hm ?_;cases hp:p x with
  | true =>
   rw[if_pos rfl];refine he D ys x _ hD hm hp ⟨uS,hD,?_,⟨Z⟩,OF⟩;rw[take_succ_filter p xs i x hx,hp,B6,e];rfl
  | false =>
   rw[if_neg Yl];refine⟨hD,?_,⟨Z⟩,Y⟩;rw[take_succ_filter p xs i x hx,hp,B6,e];simp
 ·rintro D ys σ' H hD ⟨_,e,_,rfl⟩;rw[Yx]at e;rw[e];exact hd D hD
section
variable {X:Cx}
def iQ{bs:List Bool}{ν:LU}(r:Aa (bs.map V.bl) ν):∀(i:Nat) (v:δ),ν[i]?≈v->v=Value.bool (bs.getD i false):=λi v h=>by
 have hl:=↑r;rw[Ya]at hl;have hi:i<↑ν:=(Yg.mp h).1;have hb:(bs.map V.bl)[i]?≈(V.bl (bs.getD i false)):=by
  rw[Yn,IC];have:i<↑bs:=by omega
  simp[this]
 obtain⟨u,hu,ru⟩:=r.get hb;rw[h]at hu;cases hu;exact ru
def t7{bs:List Bool}:(List.range ↑bs).all (λi=>bs.getD i false)=bs.all id:=by
 rw[J9];simp only[Cb,List.mem_range,id];constructor
 ·intro h b hb;obtain⟨i,hi,e⟩:=VU.mp hb;have:=h i hi;rw[IC]at this;simpa[hi,e]using this
 ·intro h i hi;rw[IC];simp only[Yu hi,Rt];exact h _ (List.getElem_mem hi)
def t8{bs:List Bool}:(List.range ↑bs).any (λi=>bs.getD i false)=bs.any id:=by
 rw[J9];simp only[IE,List.mem_range,id];constructor
 ·rintro⟨i,hi,e⟩;rw[IC]at e;simp only[Yu hi,Rt]at e;exact⟨_,List.getElem_mem hi,e⟩
 ·rintro⟨b,hb,e⟩;obtain⟨i,hi,e'⟩:=VU.mp hb;refine⟨i,hi,?_⟩;rw[IC];simp only[Yu hi,Rt];rw[e',e]
inductive VA(K:Fg)(f:List Bool->Bool)(xs:LV)(H:Hp)(Q:VK):Prop
 | mk:∀ a bs,xs=[.ref a]->SqL K H a (bs.map V.bl)->Q (.bl (f bs)) H->VA K f xs H Q
def UA(hc:X.calm=true):FV X (.builtin "all") (VA X.K λbs=>bs.all id):=by
 intro ρ s σ H xs us Q I r h;obtain⟨a,bs,rfl,ha,q⟩:=h;obtain⟨u,rfl,ru⟩:=Hn r;cases ru;obtain⟨ν,rv,p,hz⟩:=I.list ha;have hl:=↑rv;rw[Ya]at hl;refine call_all_walk (wpAny_pyIter_list p.isList ?_);have Cz:a≠⇑s:=by
  obtain⟨o,ho,_⟩:=p.isList;exact Ys (Yh ho)
 refine⟨⇑s,_,_,_,_,_,λi=>bs.getD i false,rfl,Walks.list (A:=X.A.in1) 6.0 ⇑s a Cz ν.toArray,⟨⟨_,Yk _ rfl,rfl,rfl⟩,?_⟩,?_,?_⟩
 ·obtain⟨o,ho,r'⟩:=p.isList;exact⟨o,Yb _ ho,r'⟩
 ·intro i v s' Q' E' hv hq;have e:=iQ rv i v (by simpa using hv);subst e;exact Jh hq
 ·intro h' tk hk;refine⟨.bl (bs.all id),H,I.kept λb o e=>hk b o ?_ (Yb _ e),?_,q⟩
  ·have hb:=Yh e;intro z;have z':b=⇑s:=by simpa using z
   exact Ys hb z'
  ·have:ν.toArray.size=↑bs:=by simp[hl]
   rw[this,t7];rfl
def gU(hc:X.calm=true):FV X (.builtin "any") (VA X.K λbs=>bs.any id):=by
 intro ρ s σ H xs us Q I r h;obtain⟨a,bs,rfl,ha,q⟩:=h;obtain⟨u,rfl,ru⟩:=Hn r;cases ru;obtain⟨ν,rv,p,hz⟩:=I.list ha;have hl:=↑rv;rw[Ya]at hl;refine call_any_walk (wpAny_pyIter_list p.isList ?_);have Cz:a≠⇑s:=by
  obtain⟨o,ho,_⟩:=p.isList;exact Ys (Yh ho)
 refine⟨⇑s,_,_,_,_,_,λi=>bs.getD i false,rfl,Walks.list (A:=X.A.in1) 6.0 ⇑s a Cz ν.toArray,⟨⟨_,Yk _ rfl,rfl,rfl⟩,?_⟩,?_,?_⟩
 ·obtain⟨o,ho,r'⟩:=p.isList;exact⟨o,Yb _ ho,r'⟩
 ·intro i v s' Q' E' hv hq;have e:=iQ rv i v (by simpa using hv);subst e;exact Jh hq
 ·intro h' tk hk;refine⟨.bl (bs.any id),H,I.kept λb o e=>hk b o ?_ (Yb _ e),?_,q⟩
  ·have hb:=Yh e;intro z;have z':b=⇑s:=by simpa using z
   exact Ys hb z'
  ·have:ν.toArray.size=↑bs:=by simp[hl]
   rw[this,t8];rfl
def Yb3(i j:Int):Prop:=Builtin.Int.intBits i<=2 ^ 20/\Builtin.Int.intBits j<=2 ^ 20
def Xh:Bd X (binaryOp .Mult) (rI Yb3 λi j=>.int (i * j)):=Ng λ_ _ _ _ _ _ _ hc q=>mul_int q (IntMulOk.of_bits hc.1 hc.2)
def Yb5(i j:Int):Prop:=0<j/\j<4611686018427387904
def rF:Bd X (binaryOp .FloorDiv) (rI Yb5 λi j=>.int (i / j)):=Ng λi j _ _ _ _ _ hc q=>by
 have h1:(0:Int)<j:=hc.1;have h2:j<4611686018427387904:=hc.2;refine floordiv_int 0.0 (by rw[Int.fdiv_eq_ediv_of_nonneg i 0.0];exact q) (.inl (PyProof.noPylong_of_log2 ?_));have h3:j.natAbs.log2<62:=(Nat.log2_lt 0.0).mpr 0.0;omega
inductive nI(x:V)(lo:Option Int)(hi:Option Int)(H:Hp)(Q:VK):Prop
 | mk:∀ z,x=.str z->↑z<=sizeLine->Q (.str (Txt.slice z lo hi)) H->nI x lo hi H Q
def lI:JL X nI:=by
 intro ρ s σ H x v vl vu lo hi sl Q I rx hs pl pu h;obtain⟨z,rfl,hz,q⟩:=h;obtain⟨t,rfl⟩:=rx;refine⟨"str",_,F.slot_str_getitem.lookup,typeIs_str _ _ _,?_⟩;have fin:∀ t' k,EP X ρ σ Q (.str (Txt.slice z lo hi) t') {s with toks:=k}:=λt' k=>⟨.str _,H,I.tok _,⟨Z⟩,q⟩;have hsz:=BU (Txt.slice_le z lo hi) hz;obtain⟨o,h1,h2,h3⟩:=hs;cases pl with
 | none =>
  cases pu with
  | none=>exact wpAny_getItem_str_slice (l:=none) (u:=none) (st:=none) ⟨o,h1,h2,h3⟩ rfl (post_val_or_str ⟨hsz,fin⟩)
  | int j uj=>exact wpAny_getItem_str_slice (l:=none) (u:=↥(j,uj)) (st:=none) ⟨o,h1,h2,h3⟩ rfl (post_val_or_str ⟨hsz,fin⟩)
 | int i ui =>
  cases pu with
  | none=>exact wpAny_getItem_str_slice (l:=↥(i,ui)) (u:=none) (st:=none) ⟨o,h1,h2,h3⟩ rfl (post_val_or_str ⟨hsz,fin⟩)
  | int j uj=>exact wpAny_getItem_str_slice (l:=↥(i,ui)) (u:=↥(j,uj)) (st:=none) ⟨o,h1,h2,h3⟩ rfl (post_val_or_str ⟨hsz,fin⟩)
inductive nF(K:Fg)(xs:LV)(H:Hp)(Q:VK):Prop
 | mk:∀ x n t b,xs=[x,.ty n]->Gf K H x t->W.kitOne K t (.type n)≈b->Q (.bl b) H->nF K xs H Q
def zD:FV X (.builtin "isinstance") (nF X.K):=by
 intro ρ s σ H xs us Q I r h;obtain⟨x,n,t,b,rfl,ty,e,q⟩:=h;obtain⟨u,w',rfl,r1,r2⟩:=Zk r;cases r2;exact sQ I r1 ty e λtk=>⟨.bl b,H,I.tok _,Y,q⟩
end
def jw(osc:Scope)(on:LS)(scope:Scope)(η:LS)(js:LN):Bool :=
 (scope.kind == .function)&&scope.names.all (λy=>y.2 != .cell)&&scope.names.all (λy=>y.2 != .local || scope.names.lookup y.1 == ↥.local) &&
 scope.names.all (λy=>y.2 != .free || (osc.names.lookup y.1 == ↥.cell || osc.names.lookup y.1 == ↥.free))&&η.all (λx=>scope.names.lookup x == ↥.free)&&decide (js.map (λj=>on[j]?)=η.map some)
def B5{X:Cx}{osc scope:Scope}{on own η:LS}{js:LN}(h:jw osc on scope η js=true)(h1:X.env.scope=osc)(h2:X.N=on)(h3:X.calm=true):HF X scope own η js:=by
 subst h1;subst h2;unfold jw at h;simp only[Fc,Cb,decide_eq_true_eq,Bool.or_eq_true,bne_iff_ne,beq_iff_eq,ne_eq]at h;obtain⟨⟨⟨⟨⟨a,b⟩,c⟩,d⟩,e⟩,f⟩:=h;exact⟨h3,a,b,λy hy z=>(c y hy).resolve_left (λq=>q z),λy hy z=>(d y hy).resolve_left (λq=>q z),e,f⟩
inductive Ge(t u:TS)(D:Dl)(σ:St)(H:Hp):Prop
 | mk:∀ M:SW,t {D with nx:=M} σ H->(∀ σ' H',M σ' H'->u D σ' H')->Ge t u D σ H
def Fz{X:Cx}{st:Stmt}{BF:List Stmt}{t u:TS}(h1:PS X st t)(h2:CK X BF u):CK X (st :: BF) (Ge t u):=by
 intro ρ s σ H D I h;obtain⟨M,h,hM⟩:=h;refine wpAny_execs_cons (AK (h1 ρ s σ H {D with nx:=M} I h) λf s1 q=>?_);cases f with
 | next =>
  obtain⟨σ',H',I',q⟩:=q;exact h2 ρ s1 σ' H' D I' (hM _ _ q)
 | ret v=>exact q
 | brk=>exact q
 | cont=>exact q
structure Def(K:Fg)(mg:Str->OU)(x:Str)(st:Stmt)(ps:LS)(f:μ)(fd:FuncData):Prop where
 fn:BK K x x st f fd
 b:Bw K fd ps []
 m:mg x≈(.ref f)
def Ag{X:Cx}{k:Nat}{ps:LS}{sp:Sp}{x:Str}{st:Stmt}{p pos:Pos}{e:Expr}{es:τ}{t:TA}(d:Def X.K X.mg x st ps f fd)(F:AV X.prog X.w X.K X.mg X.base IF k f fd ps sp)(hr:AZ k X.A)
  (ha:PA X (e :: es) t) (hg:Gl X x:=by rfl) (hdb:(x == ("__debug__":Str))=false:=by decide) (he:starEach (e :: es) X.env=3.4:: starEach es X.env:=by rfl) (hpl:(backTo pos 3.6).any 0.5=false:=by rfl):
  PE X (.Call (.Name x p) (e :: es) [] pos) (Zi sp [] E0 t):=JC F hr hg d.m d.fn.kp d.b .nil Gi ha hdb he hpl
def sL{n:Nat}(h:n<=100000):n<=sizeLine:=by rw[sizeLine_eq];omega
end L2
namespace L2
open PySem PySem.Spec PyProof.Rows PySem.W
mutual
inductive Rep(K:Fg)(H:Hp):V->Dat->Prop
 | none:Rep K H .non .none
 | bool (b:Bool):Rep K H (.bl b) (.bool b)
 | int (i:Int):Rep K H (.int i) (.int i)
 | str (x:Str):Rep K H (.str x) (.str x)
 | tuple {a:μ} {xs:LV} {ds:List Dat}:AH K H a xs->BH K H xs ds->Rep K H (.ref a) (.tuple ds)
 | list {a:μ} {xs:LV} {ds:List Dat}:SqL K H a xs->BH K H xs ds->Rep K H (.ref a) (.list ds)
inductive BH(K:Fg)(H:Hp):LV->List Dat->Prop
 | nil:BH K H [] []
 | cons {v:V} {vs:LV} {d:Dat} {ds:List Dat}:Rep K H v d->BH K H vs ds->BH K H (v :: vs) (d :: ds)
end
def AA.tup{K:Fg}{H H':Hp}{a:μ}{xs:LV}(e:AA H H')(h:AH K H a xs):AH K H' a xs:=by
 rcases h with(h | ⟨o,h⟩) | h
 ·exact .inl (.inl (e _ _ h))
 ·exact .inl (.inr ⟨o,e _ _ h⟩)
 ·exact .inr h
mutual
theorem Rep.mono{K:Fg}{H H':Hp}(e:AA H H'):∀ {v:V}{d:Dat},Rep K H v d->Rep K H' v d
 | _,_,.none=>.none
 | _,_,.bool b=>.bool b
 | _,_,.int i=>.int i
 | _,_,.str x=>.str x
 | _,_,.tuple h r=>.tuple (e.tup h) (BH.mono e r)
 | _,_,.list h r=>.list (e.seq h) (BH.mono e r)
theorem BH.mono{K:Fg}{H H':Hp}(e:AA H H'):∀ {vs:LV}{ds:List Dat},BH K H vs ds->BH K H' vs ds
 | _,_,.nil=>.nil
 | _,_,.cons h r=>.cons (Rep.mono e h) (BH.mono e r)
end
section
variable {X:Cx}{ρ:PL}{σ:St}{H:Hp}{s:ε}
mutual
theorem Rep.reads(I:Inv X ρ σ H s):∀ {v:V}{d:Dat}{u:δ},Rep X.K H v d->Aj v u->∃ as,Reads s.heap u (kqdP d) as
 | _,_,_,.none,r=>by cases(show _=Value.none from r);rw[kqdP];exact⟨_,Reads.none⟩
 | _,_,_,.bool b,r=>by cases(show _=Value.bool b from r);rw[kqdP];exact⟨_,Reads.bool b⟩
 | _,_,_,.int i,r=>by obtain⟨t,e⟩:=(show ∃ t,_=Value.int i t from r);cases e;rw[kqdP];exact⟨_,Reads.int i t⟩
 | _,_,_,.str x,r=>by obtain⟨t,e⟩:=(show ∃ t,_=Value.str x t from r);cases e;rw[kqdP];exact⟨_,Reads.str x t⟩
 | _,_,_,.tuple (a:=a) h q,r=>by
  cases(show _=Value.ref a from r);obtain⟨ν,rv,⟨o,e,c,n,d⟩,_⟩:=I.tuple h;obtain⟨as,p⟩:=BH.reads I q rv;rw[kqdP];exact⟨as,reads_tuple_at e c d (by simpa using p)⟩
 | _,_,_,.list (a:=a) h q,r=>by
  cases(show _=Value.ref a from r);obtain⟨ν,rv,⟨o,n,e,c,_,d⟩,_⟩:=I.list h;obtain⟨as,p⟩:=BH.reads I q rv;rw[kqdP];exact⟨_,reads_list_at e c d (by simpa using p)⟩
theorem BH.reads(I:Inv X ρ σ H s):∀ {vs:LV}{ds:List Dat}{us:LU},BH X.K H vs ds->Aa vs us->∃ as,ReadsAll s.heap us (kqdPs ds) as
 | _,_,_,.nil,r=>by cases r;rw[kqdPs];exact⟨_,ReadsAll.nil⟩
 | _,_,_,.cons h q,r=>by
  cases r with
  | cons r1 r2 =>
   obtain⟨as,p⟩:=Rep.reads I h r1;obtain⟨bs,t⟩:=BH.reads I q r2;rw[kqdPs];exact⟨_,ReadsAll.cons p t⟩
end
end
def ES(d e:Dat):Bool:=@decide (d=e) (Classical.propDecidable _)
def HI(d:Dat):ES d d=true:=by unfold ES;exact @Jb _ (Classical.propDecidable _) rfl
def xj{d e:Dat}(h:d=e):ES d e=true:=by rw[h];exact HI e
def MO{d e:Dat}(h:d≠e):ES d e=false:=by unfold ES;exact @Jc _ (Classical.propDecidable _) h
def Tz{d e:Dat}{n k:Nat}(h1:kqdOk n d=true)(h2:kqdOk k e=true):PyData.eqv (kqdP d) (kqdP e)=ES d e:=by
 have q:=kqd_eqv n d e k h1 h2;by_cases h:d=e
 ·rw[xj h];exact q.mpr h
 ·rw[MO h];exact Bool.eq_false_iff.mpr λx=>h (q.mp x)
def Jz{d:Dat}(h:kqdOk 9 d=true):SeqAt.shaped (kqdP d)=true:=by
 have l:=kqd_lay 9 d h;unfold SeqAt.shaped;rw[l.1,Du];exact Jb (BU l.2 0.2)
section
variable {X:Cx}
def nE(K:Fg)(f:Bool->Bool):R2:=λx y H Q=>∃ d e,Rep K H x d/\Rep K H y e/\kqdOk 9 d=true/\kqdOk 9 e=true/\Q (.bl (f (ES d e))) H
def Tj(hu:X.A.units + 64<cLine):Bd X (compareOp .Eq) (nE X.K id):=by
 exfalso;obtain⟨d,e,h1,h2,k1,k2,q⟩:=h;obtain⟨as,ra⟩:=h1.reads I rx;obtain⟨bs,rb⟩:=h2.reads I ry;exact eq_dataH ra rb (Jz k1) (Jz k2) hu (Bg I q (by rw[Tz k1 k2];rfl))
def N_(hu:X.A.units + 64<cLine):Bd X (compareOp .NotEq) (nE X.K Bool.not):=by
 exfalso;obtain⟨d,e,h1,h2,k1,k2,q⟩:=h;obtain⟨as,ra⟩:=h1.reads I rx;obtain⟨bs,rb⟩:=h2.reads I ry;exact ne_dataH ra rb (Jz k1) (Jz k2) hu (Bg I q (by rw[Tz k1 k2]))
end
end L2
namespace L2
open PySem PySem.Spec PyProof.Rows
section
variable {X:Cx}{ρ:PL}{σ:St}{H H':Hp}{s:ε}{a:μ}{π:KL}{o:Obj}
def Inv.reH(I:Inv X ρ σ H s)(base:Un X.fs X.ex X.H₀ H' X.s₀.heap s.heap)(hn:∀ b,H b=none->H' b=none)(hok:Bk X.prog X.w H' s.heap):Inv X ρ σ H' s :=
 ⟨I.ok,I.os,I.bare,base,I.loc,I.cell,hn _ I.free,λx c e=>hn _ (I.freeC x c e),λp hp=>by
  obtain⟨e,n,r⟩:=I.pin p hp;exact⟨e,hn _ n,r⟩,hok,I.len⟩
def Inv.reAt{u u':HO}(I:Inv X ρ σ H s)(h:H a≈u)(nt:∀ xs,u≠.tup xs)(no:∀ y,u≠.own y)(nb:∀ ps,u≠.tbl ps)(nf:∀ o v,X.H₀ a≠some (.frz o v))
  (ok:BI X.prog X.w H s.heap a u->BI X.prog X.w (upd H a u') s.heap a u'):Inv X ρ σ (upd H a u') s:=by
 have hn:∀ b,H b=none->upd H a u' b=none:=λb e=>by
  rw[AD]
  ·exact e
  ·rintro rfl;rw[h]at e;cases e
 refine I.reH ⟨I.base.keep,I.base.slot,λb ob e n hx=>hn b (I.base.free b ob e n hx),I.base.there,λb xs e=>?_,λb ob v e=>?_,λb ps e=>?_⟩ hn ?_
 ·have q:=I.base.tups b xs e;rw[AD]
  ·exact q
  ·rintro rfl;rw[h]at q;exact nt xs (Yt q)
 ·have q:=I.base.frzs b ob v e;rw[AD]
  ·exact q
  ·rintro rfl;exact nf ob v e
 ·obtain⟨m,q⟩:=I.base.tbls b ps e;refine⟨m,?_⟩;rw[AD]
  ·exact q
  ·rintro rfl;rw[h]at q;exact nb _ (Yt q)
 ·intro b v e;by_cases hb:b=a
  ·subst hb;rw[uS]at e;cases e;exact ok (I.hok b u h)
  ·rw[AD hb]at e;refine(I.hok b v e).stay (λ_ _ _ q=>q) (λc q=>?_) λc xs q=>?_
   ·rw[AD]
    ·exact q
    ·rintro rfl;rw[h]at q;exact no _ (Yt q)
   ·rw[AD]
    ·exact q
    ·rintro rfl;rw[h]at q;exact nt _ (Yt q)
def Inv.freeze(I:Inv X ρ σ H s)(h:H a≈(.dK π))(ho:s.heap.get? a≈o):Inv X ρ σ (upd H a (.frz o (.dK π))) s/\∀ o' v,X.H₀ a≠some (.frz o' v):=by
 have nf:∀ o' v,X.H₀ a≠some (.frz o' v):=λo' v e=>by
  have q:=I.base.frzs a o' v e;rw[h]at q;cases q
 refine⟨I.reAt h (λ_ z=>nomatch z) (λ_ z=>nomatch z) (λ_ z=>nomatch z) nf λk=>⟨ho,k.stay (λ_ _ _ q=>q) (λc q=>?_) λc xs q=>?_⟩,nf⟩
 ·rw[AD]
  ·exact q
  ·rintro rfl;rw[h]at q;cases q
 ·rw[AD]
  ·exact q
  ·rintro rfl;rw[h]at q;cases q
def Tr{P:χ}{w:World}{k:Key}{u:δ}(h:(CP P w).is k u=true):Aj (kV k) u:=by
 rcases JI (show L6 k u=true from h)with⟨i,t,rfl,rfl⟩ | ⟨x,t,rfl,rfl⟩
 ·exact⟨t,Y⟩
 ·exact⟨t,Y⟩
end
def aJ(a:μ)(o:Obj)(π:KL):It :=
 ⟨λi H=>i<↑π/\H a≈(.frz o (.dK π)),λi H v H'=>H'=H/\∃ p,π[i]?≈p/\v=kV p.1,λi H=>↑π<=i/\H a≈(.frz o (.dK π))⟩
def aG(a:μ)(o:Obj)(π:KL):It :=
 ⟨λi H=>i<↑π/\H a≈(.frz o (.dK π)),λi H v H'=>H'=H/\∃ p,π[i]?≈p/\v=p.2,λi H=>↑π<=i/\H a≈(.frz o (.dK π))⟩
theorem KV.get{κ:Type}:∀ {π:List (κ×V)}{vs:List (κ×δ)},KV π vs->∀ {i:Nat}{p:κ×V},π[i]?≈p->∃ u,vs[i]?≈(p.1,u)/\Aj p.2 u
 | _,_,.nil,i,p,h=>by simp at h
 | _,_,.cons r t,0,p,h=>by
  simp at h;subst h;exact⟨_,by simp[r.1],r.2⟩
 | _,_,.cons r t,i + 1,p,h=>by
  obtain⟨u,h1,h2⟩:=KV.get t (i:=i) (p:=p) (by simpa using h);exact⟨u,by simpa using h1,h2⟩
def Jx{P:χ}{w:World}{H:Hp}{h:Heap}{a:μ}{o:Obj}{π:KL}{es:Array DictEntry}{ep:Nat}(ok:BI P w H h a (.frz o (.dK π)))(hd:o.data=.dict es ep):
  9.1=false/\∃ vs,KV π vs/\h.DictAt (CP P w) a vs ep:=by
 obtain⟨ho,z,hs,vs,r,o',JY,JZ,h1,h2,h3,h4,h5,h6⟩:=ok;rw[ho]at h1;cases h1;rw[hd]at h3;cases h3;exact⟨hs,vs,r,o,es,ho,h2,hd,h4,h5,h6⟩
def uU{P:χ}{w:World}{K:Fg}{tg:Expr}(a it:μ)(o:Obj)(π:KL)(es:Array DictEntry)(ep:Nat)(hd:o.data=.dict es ep):
  Ga P w K tg (aJ a o π) [it] it (λi h=>h.IsKeyIter it a i ↑π ep) where
 mem:=by simp
 obj:=λi h st b hb=>by
  have e:b=it:=by simpa using hb
  subst e;obtain⟨o,e,c,d⟩:=st;exact⟨o,e,λv z=>by rw[d]at z;cases z⟩
 keep:=λi h h' st k=>by
  obtain⟨o,ho,r⟩:=st;exact⟨o,k it 1.1 o ho,r⟩
 item:=by
  intro X hP hw hK hc i ρ s σ H E I hf st hg;subst hP hw hK;obtain⟨f0,f1,f2,f3,f4,f5⟩:=hf it 1.1;obtain⟨hi,ha⟩:=hg;obtain⟨_,vs,r,dd⟩:=Jx (I.hok a _ ha) hd;obtain⟨p,hp⟩:∃ p,π[i]?≈p:=⟨π[i],by simp[hi]⟩;obtain⟨u,hu,ru⟩:=r.get hp;have hl:↑π=↑vs:=Yi r;rw[hl]at st;refine wpAny_pyNext_dict_item st dd hu λkey h' hk B8 sb=>?_;have I1:Inv X ρ σ H {s with heap:=h' }:=I.turned (t':=s.toks) 9.5 f0 f1 f3 f4 f5;obtain⟨o',e,c,d⟩:=id B8;rw[<- hl]at B8;exact⟨key,Y,N5 (s:={s with heap:=h' }) e c d 0.2 ⟨kV p.1,H,I1,Tr hk,⟨Y,p,hp,Y⟩,B8,λb hb=>(hf b hb).1⟩⟩
 done:=by
  intro X hP hw hK hc i ρ s σ H E I hf st hg;subst hP hw hK;obtain⟨f0,f1,f2,f3,f4,f5⟩:=hf it 1.1;obtain⟨hi,ha⟩:=hg;obtain⟨_,vs,r,dd⟩:=Jx (I.hok a _ ha) hd;have hl:↑π=↑vs:=Yi r;rw[hl]at st;exact wpAny_pyNext_dict_end 6.0 st dd (by simp;omega) λh' eb=>⟨Y,I.turned (t':=s.toks) 5.8 f0 f1 f3 f4 f5⟩
 self:=λ_ _ _ _ _ st h=>wpAny_pyIter_keyiter st h
def uV{P:χ}{w:World}{K:Fg}{tg:Expr}(a it:μ)(o:Obj)(π:KL)(es:Array DictEntry)(ep:Nat)(hd:o.data=.dict es ep):
  Ga P w K tg (aG a o π) [it] it (λi h=>h.IsValIter it a i ↑π ep) where
 mem:=by simp
 obj:=λi h st b hb=>by
  have e:b=it:=by simpa using hb
  subst e;obtain⟨o,e,c,d⟩:=st;exact⟨o,e,λv z=>by rw[d]at z;cases z⟩
 keep:=λi h h' st k=>by
  obtain⟨o,ho,r⟩:=st;exact⟨o,k it 1.1 o ho,r⟩
 item:=by
  intro X hP hw hK hc i ρ s σ H E I hf st hg;subst hP hw hK;obtain⟨f0,f1,f2,f3,f4,f5⟩:=hf it 1.1;obtain⟨hi,ha⟩:=hg;obtain⟨_,vs,r,dd⟩:=Jx (I.hok a _ ha) hd;obtain⟨p,hp⟩:∃ p,π[i]?≈p:=⟨π[i],by simp[hi]⟩;obtain⟨u,hu,ru⟩:=r.get hp;have hl:↑π=↑vs:=Yi r;rw[hl]at st;refine wpAny_pyNext_values_item st dd hu λh' B8 sb=>?_;have I1:Inv X ρ σ H {s with heap:=h' }:=I.turned (t':=s.toks) 9.5 f0 f1 f3 f4 f5;obtain⟨o',e,c,d⟩:=id B8;rw[<- hl]at B8;exact⟨u,Y,N5 (s:={s with heap:=h' }) e c d 0.2 ⟨p.2,H,I1,ru,⟨Y,p,hp,Y⟩,B8,λb hb=>(hf b hb).1⟩⟩
 done:=by
  intro X hP hw hK hc i ρ s σ H E I hf st hg;subst hP hw hK;obtain⟨f0,f1,f2,f3,f4,f5⟩:=hf it 1.1;obtain⟨hi,ha⟩:=hg;obtain⟨_,vs,r,dd⟩:=Jx (I.hok a _ ha) hd;have hl:↑π=↑vs:=Yi r;rw[hl]at st;exact wpAny_pyNext_values_end 6.0 st dd (by simp;omega) λh' eb=>⟨Y,I.turned (t':=s.toks) 5.8 f0 f1 f3 f4 f5⟩
 self:=λ_ _ _ _ _ st h=>wpAny_pyIter_valiter st h
inductive nV(t:TS)(D:Dl)(σ:St)(H:Hp):Prop
 | mk:∀ a π,H a≈(.dK π)->(∀ o,t D σ (upd H a (.frz o (.dK π))))->nV t D σ H
def Qm{X:Cx}{sts:List Stmt}{t:TS}(h:CK X sts t):CK X sts (nV t):=by
 intro ρ s σ H D I q;obtain⟨a,π,ha,q⟩:=q;obtain⟨o,ho⟩:∃ o,s.heap.get? a≈o:=by
  obtain⟨_,_,vs,_,o,_,_,e,_⟩:=I.hok a _ ha;exact⟨o,e⟩
 exact h ρ s σ _ D (I.freeze ha ho).1 (q o)
def Xq{P:χ}{w:World}{H:Hp}{h:Heap}{a:μ}{o:Obj}{π:KL}(ok:BI P w H h a (.frz o (.dK π))):∃ es ep,o.data=.dict es ep:=by
 obtain⟨ho,z,hs,vs,r,o',JY,JZ,h1,h2,h3,_⟩:=ok;rw[ho]at h1;cases h1;exact⟨JY,JZ,h3⟩
def tV{a:μ}{o:Obj}{π:KL}:E_ (aJ a o π) (π.map λp=>kV p.1) (λH=>H a≈(.frz o (.dK π))) where
 go:=λi x H ok hx=>by
  have:=(Yg.mp hx).1;rw[Ya]at this;exact⟨this,ok⟩
 yld:=λi x H y H' ok hx h=>by
  obtain⟨e,p,hp,hy⟩:=h;rw[Yn,hp]at hx;exact⟨hy.trans (Yt hx),e⟩
 stop:=λH ok=>⟨by rw[Ya];exact Ye _,ok⟩
def i6{a:μ}{o:Obj}{π:KL}:E_ (aG a o π) (π.map λp=>p.2) (λH=>H a≈(.frz o (.dK π))) where
 go:=λi x H ok hx=>by
  have:=(Yg.mp hx).1;rw[Ya]at this;exact⟨this,ok⟩
 yld:=λi x H y H' ok hx h=>by
  obtain⟨e,p,hp,hy⟩:=h;rw[Yn,hp]at hx;exact⟨hy.trans (Yt hx),e⟩
 stop:=λH ok=>⟨by rw[Ya];exact Ye _,ok⟩
section
variable {X:Cx}{tg:Expr}
inductive lB(R:It->Hp->Prop)(x:V)(H1:Hp):Prop
 | mk:∀ a o π,x=.ref a->H1 a≈(.frz o (.dK π))->R (aJ a o π) H1->lB R x H1
def Ybe(tl:TE):TI:=λσ H R=>tl σ H λx H1=>lB R x H1
def yx{l:Expr}{tl:TE}(hl:PE X l tl):PI X tg l (Ybe tl):=by
 intro ρ s σ H R I h;refine AK (hl ρ s σ H _ I h) λv s1 ⟨x,H1,I1,r1,q1⟩=>?_;obtain⟨a,o,π,e,ha,q⟩:=q1;subst e;cases r1;obtain⟨es,ep,hd⟩:=Xq (I1.hok a _ ha);obtain⟨hs,vs,r,dd⟩:=Jx (I1.hok a _ ha) hd;have hl:↑π=↑vs:=Yi r;refine wpAny_pyIter_dict hs dd ?_;refine⟨⇑s1,[⇑s1],_,_,H1,Y,I1.kept (t':=s1.toks) λb o e=>Yb _ e,uU a _ o π es ep hd,⟨_,Yk _ rfl,Y,by rw[hl];rfl⟩,λb hb=>?_,q⟩;have e:b=⇑s1:=by simpa using hb
 subst e;exact I1.fpOk (Ye _) 11.3
end
theorem T4:∀ {xs:LV}{us:LU},↑xs=↑us->(∀(i:Nat) (v:V) (u:δ),xs[i]?≈v->us[i]?≈u->Aj v u)->Aa xs us
 | [],[],_,_=>.nil
 | [],_ :: _,h,_=>by simp at h
 | _ :: _,[],h,_=>by simp at h
 | x :: xs,u :: us,h,k=>.cons (k 0 x u rfl rfl) (T4 (by simpa using h) λi v w hv hw=>k 4.6 v w (by simpa using hv) (by simpa using hw))
def gX{J:It}{xs:LV}{Ok:Hp->Prop}(R:E_ J xs Ok){js:LN}{tt:TT}{te:TE}{σ:St}{Q:VK}{H1:Hp}(hz:↑xs<=sizeLine)(p:V->Bool)(F:μ->V->V->Hp->Prop)
  (hF:∀ D x v H H',13.4->F D x v H->F D x v H')
  (hok:∀ H,AA H1 H->Ok H)
  (ht:∀ x H (R:Bool->Hp->Prop),AA H1 H->x∈xs->(∀ H',AA H H'->R (p x) H')->tt (↥x :: js.map λj=>(σ[j]?).join) H R)
  (he:∀ D x H (R:V->Hp->Prop),AA H1 H->(∃ ys,H D≈(.lst ys))->H1 D=none->x∈xs->p x=true->(∀ v H',AA H H'->F D x v H'->R v H')->te (↥x :: js.map λj=>(σ[j]?).join) H R)
  (hd:∀ D H' ys,H1 D=none->AA H1 H'->H' D≈(.lst ys)->Paired (λx v=>F D x v H') (xs.filter p) ys->Q (.ref D) H'):
  Ai 1 js (DJ 0) tt te σ Q J H1:=by
 refine MX R hz (λD i ys σ' H=>H1 D=none/\AA H1 H/\H D≈(.lst ys)/\Paired (λx v=>F D x v H) 13.7 ys/\∃ o,σ'=o :: js.map λj=>(σ[j]?).join) ?_ ?_ ?_ ?_
 ·intro D hD;exact⟨hD,λb o e=>by rw[AD (AI e hD)];exact e,uS,by simpa using Paired.nil,none,Y⟩
 ·rintro D i ys σ' H hi ⟨hD,hs,hl,hp,_⟩;refine⟨hok H hs,?_⟩;rw[<- ↑hp];exact BU (Rj _ _) (by rw[Yy];omega)
 ·rintro D i x ys σ' H hD hx ⟨_,hs,hl,hp,o,rfl⟩;show tt (↥x :: js.map λj=>(σ[j]?).join) H _;have hm:x∈xs:=Yc hx;refine ht x H _ hs hm λH4 s4=>?_;have Lj:AA H1 H4:=hs.trans s4;have mono:∀ {H H':Hp},13.4->Paired (λx v=>F D x v H) 13.7 ys->Paired (λx v=>F D x v H') 13.7 ys:=λh q=>Paired.mapP q λa b z=>hF D a b _ _ h z;cases hpx:p x with
  | true =>
   rw[if_pos rfl];refine he D x H4 _ Lj ⟨_,s4 _ _ hl⟩ hD hm hpx λv H5 s5 f5=>⟨s5 _ _ (s4 _ _ hl),hD,λb o e=>?_,uS,?_,Z⟩
   ·rw[AD (AI e hD)];exact s5 _ _ (Lj _ _ e)
   ·rw[take_succ_filter p xs i x hx,hpx,if_pos rfl];refine Cu (mono (λb o hb e=>by rw[AD hb];exact s5 _ _ (s4 _ _ e)) hp) (hF D _ _ _ _ (λb o hb e=>by rw[AD hb];exact e) f5)
  | false =>
   rw[if_neg Yl];refine⟨hD,Lj,s4 _ _ hl,?_,Z⟩;rw[take_succ_filter p xs i x hx,hpx,if_neg Yl,Dv];exact mono (λb o _ e=>s4 _ _ e) hp
 ·rintro D ys σ' H hD ⟨_,hs,hl,hp,_⟩;rw[Yx]at hp;exact hd D H ys hD hs hl hp
section
variable {X:Cx}
end
end L2
namespace Graph
variable {α:Type}[DecidableEq α]
inductive Reach(ups:α->List α):α->α->Prop
 | refl (a:α):Reach ups a a
 | step {a b c:α}:b∈ups a->Reach ups b c->Reach ups a c
def Reach.trans{ups:α->List α}{a b c:α}(h:Reach ups a b)(k:Reach ups b c):Reach ups a c:=by
 induction h with
 | refl=>exact k
 | step m _ ih=>exact .step m (ih k)
def Reach.one{ups:α->List α}{a b:α}(h:b∈ups a):Reach ups a b:=.step h (.refl b)
def Reach.snoc{ups:α->List α}{a b c:α}(h:Reach ups a b)(k:c∈ups b):Reach ups a c:=h.trans (.one k)
def kept(ups:α->List α)(left:List α):List α:=left.filter λw=>(ups w).any λu=>decide (u∈left)
def kept_sub{ups:α->List α}{left:List α}{w:α}(h:w∈kept ups left):w∈left:=(LO.mp h).1
def kept_le(ups:α->List α)(left:List α):↑(kept ups left)<=↑left:=Rj _ _
theorem filter_all{p:α->Bool}:∀ {l:List α},↑(l.filter p)=↑l->l.filter p=l
 | [],_=>rfl
 | a :: r,h=>by
  have hle:=Rj p r;rw[Rr]at h ⊢;cases hp:p a with
  | true =>
   rw[hp,if_pos rfl,CS,CS]at h;rw[if_pos rfl,filter_all 0.0]
  | false =>
   rw[hp,if_neg Yl,CS]at h;omega
theorem gk(rk:α->Nat):∀(l:List α),l≠[]->∃ m,m∈l/\∀ x∈l,rk m<=rk x
 | [],h=>absurd rfl h
 | a :: r,_=>by
  by_cases hr:r=[]
  ·subst hr;exact⟨a,by simp,λx hx=>by simp at hx;subst hx;exact Ye _⟩
  ·obtain⟨m,hm,hx⟩:=gk rk r hr;by_cases hc:rk a<=rk m
   ·refine⟨a,by simp,λx D0=>?_⟩
    rcases Yv.mp D0 with e | e
    ·subst e;exact Ye _
    ·exact BU hc (hx x e)
   ·refine⟨m,C7 _ hm,λx D0=>?_⟩
    rcases Yv.mp D0 with e | e
    ·subst e;omega
    ·exact hx x e
def kept_nil{ups:α->List α}{left:List α}{rk:α->Nat}(hr:∀ a∈left,∀ b∈ups a,rk b<rk a)(h:↑(kept ups left)=↑left):left=[]:=by
 refine LR λCz=>?_;obtain⟨m,hm,hx⟩:=gk rk left Cz;have e:kept ups left=left:=filter_all h;rw[<- e]at hm;obtain⟨h1,h2⟩:=LO.mp hm;obtain⟨u,hu,hd⟩:=IE.mp h2;have hl:u∈left:=Je hd;have a:=hr m h1 u hu;have b:=hx u hl;omega
theorem nodup_le:∀ {l k:List α},l.Nodup->(∀ x∈l,x∈k)->↑l<=↑k
 | [],k,_,_=>BN _
 | a :: r,k,hn,hs=>by
  obtain⟨h1,h2⟩:=ID.mp hn;have ha:a∈k:=hs a 1.1;have:=nodup_le (k:=k.erase a) h2 λx hx=>(List.mem_erase_of_ne (λ(e:x=a)=>h1 (by rw[<- e];exact hx))).mpr (hs x (C7 _ hx));rw[List.length_erase_of_mem ha]at this;have hpos:0<↑k:=List.length_pos_of_mem ha;rw[CS];omega
def closed_reach{ups:α->List α}{S:α->Prop}(hc:∀ x,S x->∀ y∈ups x,S y){a b:α}(h:Reach ups a b)(ha:S a):S b:=by
 induction h with
 | refl=>exact ha
 | step m _ ih=>exact ih (hc _ ha _ m)
end Graph
namespace Md
open PySem L2
abbrev letters:Str:="abcdefghijklmnopqrstuvwxyz"
def Gh(c:Nat):Bool:=decide (97<=c/\c<=122)
def AM(x:Str):Bool:=decide (1<=↑x/\↑x<=8)&&x.cps.toList.all Gh
def UU:letters.cps.toList=[97,98,99,100,101,102,103,104,105,106,107,108,109,110,111,112,113,114,115,116,117,118,119,120,121,122]:=by rfl'
def uK{i:Nat}(h:i<26):letters.cps.toList[i]?≈(97 + i):=by
 rw[UU];have:∀ i:_root_.Fin 26,([97,98,99,100,101,102,103,104,105,106,107,108,109,110,111,112,113,114,115,116,117,118,119,120,121,122]:LN)[i.1]?≈(97 + i.1):=by decide
 exact this ⟨i,h⟩
def vA:letters.cps.toList=(List.range 26).map (97 + ·):=by rw[UU];rfl
def wX(c:Nat):(!(Builtin.Str.occurrences letters ⟨#[c]⟩ 0 letters.length 1).isEmpty)=Gh c:=by
 rw[StrLaws.found_one,vA];unfold Gh;rw[decide_eq_decide,Yd];constructor
 ·rintro⟨a,ha,rfl⟩;have:=List.mem_range.mp ha;omega
 ·intro h;exact⟨c - 97,List.mem_range.mpr 0.0,V⟩
def Jv(x:Str):↑x.cps.toList=↑x:=by simp[Str.length]
def fh(c:Nat):↑(⟨#[c]⟩:Str)=1:=rfl
def ff(x y:Str):↑(x++y)=↑x + ↑y:=by
 show(x.cps++y.cps).size=_;rw[Array.size_append];rfl
def gT(x y:Str):(x++y).cps.toList=x.cps.toList++y.cps.toList:=by
 show(x.cps++y.cps).toList=_;rw[Array.toList_append]
def gK{x y:Str}(h:x.cps.toList=y.cps.toList):x=y:=by
 cases x;cases y
 congr 1
 exact Array.ext' h
def QG:V->V
 | .str y=>.bl (!(Builtin.Str.occurrences letters y 0 letters.length 1).isEmpty)
 | _=>.non
def i7(x:Str):((Hr x).filter λ_=>true).map QG=(x.cps.toList.map Gh).map V.bl:=by
 rw[Mw.mpr λ_ _=>rfl];unfold Hr;rw[Es,Es];refine List.map_congr_left λc _=>?_;show V.bl _=V.bl _;rw[wX]
def K9(x:Str):AM x=true↔(1<=↑x.cps.toList/\↑x.cps.toList<=8)/\∀ c∈x.cps.toList,Gh c=true:=by
 unfold AM;rw[Fc,decide_eq_true_eq,Cb,Jv]
def DS{x:Str}(h:AM x=true):1<=↑x/\↑x<=8:=by
 have:=((K9 x).mp h).1
 rwa [Jv]at this
def T5{x:Str}(h:AM x=true):PyData.strOk x=true:=by
 unfold PyData.strOk;rw[Array.all_eq_true'];intro c hc;have:=((K9 x).mp h).2 c (by simpa using hc);have:=Je this;exact Jb 0.0
def ED(n:Nat):LN:=(97 + n % 26):: (if h:n / 26=0 then[]else ED (n / 26))
termination_by n
decreasing_by omega
def OP(n:Nat):ED n=(97 + n % 26):: (if n / 26=0 then[]else ED (n / 26)):=by
 rw[ED];by_cases h:n / 26=0
 ·rw[dif_pos h,if_pos h]
 ·rw[dif_neg h,if_neg h]
theorem Y4:∀(k n:Nat),n<26 ^ (k + 1)->↑(ED n)<=k + 1
 | 0,n,h=>by
  rw[OP,if_pos (by have:n<26:=h;omega)];exact Ye _
 | k + 1,n,h=>by
  rw[OP];by_cases h0:n / 26=0
  ·rw[if_pos h0];simp
  ·rw[if_neg h0,CS];have:=Y4 k (n / 26) (Nat.div_lt_of_lt_mul (by rw[Nat.pow_succ]at h;omega));omega
def vS(n:Nat):∀ c∈ED n,Gh c=true:=by
 induction n using Nat.strongRecOn with
 | ind n ih =>
  rw[OP];intro c hc
  rcases Yv.mp hc with e | hc
  ·rw[e];exact Jb 0.0
  ·by_cases h0:n / 26=0
   ·rw[if_pos h0]at hc;cases hc
   ·rw[if_neg h0]at hc;exact ih (n / 26) 0.0 c hc
def Ri:LN->Nat
 | []=>0
 | c :: r=>(c - 97) + 26 * Ri r
def vU(n:Nat):Ri (ED n)=n:=by
 induction n using Nat.strongRecOn with
 | ind n ih =>
  rw[OP];unfold Ri;by_cases h0:n / 26=0
  ·rw[if_pos h0];unfold Ri;omega
  ·rw[if_neg h0,ih (n / 26) 0.0];omega
def FZ(n:Nat):Str:=⟨(ED n).toArray⟩
def Y5(n:Nat):(FZ n).cps.toList=ED n:=by simp[FZ]
def vV{a b:Nat}(h:FZ a=FZ b):a=b:=by
 have:=congrArg (λs:Str=>Ri s.cps.toList) h;simpa[Y5,vU]using this
def vT(n:Nat):1<=↑(ED n):=by rw[OP];simp
def Y6{n:Nat}(h:n<26 ^ 8):AM (FZ n)=true:=by
 rw[K9,Y5];exact⟨⟨vT n,Y4 7 n h⟩,vS n⟩
def zp(j:Int)(n:Nat)(h:0<=j):Builtin.Str.strSliceIndices none (↥j) 1 n=List.range (min j.toNat n):=by
 unfold Builtin.Str.strSliceIndices sliceRange;have h1:¬ j<0:=by omega
 simp only[show(1:Int) > 0 by decide,if_true,if_neg h1];have e:(max (0:Int) (min j (n:Int)))=((min j.toNat n:Nat):Int):=by omega
 rw[e];have e2:(if(0:Int)<((min j.toNat n:Nat):Int)then(((min j.toNat n:Nat):Int) - 0 + 1 - 1) / 1 else 0)=((min j.toNat n:Nat):Int):=by
  split
  ·rw[Int.ediv_one];omega
  ·omega
 rw[e2,Mt];have:∀ l:LN,l.map (λ(k:Nat)=>((0:Int) + 1 * (k:Int)).toNat)=l:=λl=>by
  conv=>rhs;rw[<- List.map_id l]
  refine List.map_congr_left λk _=>?_;show _=k;omega
 exact this _
theorem ji(l:LN):∀ m,m<=↑l->(List.range m).filterMap (λi=>l.toArray[i]?)=l.take m
 | 0,_=>by simp
 | m + 1,h=>by
  rw[List.range_succ,List.filterMap_append,ji l m 0.0,Yq];have:m<↑l:=h;simp[this]
def jW(x:Str)(j:Int)(h:0<=j):(Txt.slice x none (↥j)).cps.toList=x.cps.toList.take j.toNat:=by
 unfold Txt.slice;rw[zp j ↑x h];have hl:=Jv x;split
 ·rename_i hc
  have:min j.toNat ↑x=↑x:=by simpa using hc
  rw[J8 0.0]
 ·have q:=ji x.cps.toList (min j.toNat ↑x) 0.0;have e:x.cps.toList.toArray=x.cps:=by simp
  rw[e]at q;show((List.range (min j.toNat ↑x)).filterMap (x.cps[·]?)).toArray.toList=_;rw[List.toList_toArray,q];by_cases hj:j.toNat<=↑x
  ·rw[LM hj]
  ·rw[Nat.min_eq_right 0.0,J8 0.0,J8 0.0]
def Hh(o:HO):Prop:=∃ r b:Int,o=.lst [.int r,.int b]/\0<=r/\r<10 ^ 256/\0<=b/\b<2147483647
structure Drawn(p:μ)(H H':Hp):Prop where
 keep:∀ b o,b≠p->H b≈o->H' b≈o
 pot:∃ o,H' p≈o/\Hh o
def Drawn.refl{p:μ}{H:Hp}(h:∃ o,H p≈o/\Hh o):Drawn p H H:=⟨λ_ _ _ e=>e,h⟩
def Drawn.trans{p:μ}{H H1 H2:Hp}(a:Drawn p H H1)(b:Drawn p H1 H2):Drawn p H H2:=⟨λc o hc e=>b.keep c o hc (a.keep c o hc e),b.pot⟩
theorem Drawn.upd{p:μ}{H:Hp}{o:HO}(h:Hh o):Drawn p H (L2.upd H p o):=⟨λb u hb e=>by rw[AD hb];exact e,_,uS,h⟩
def Drawn.new{p q:μ}{H H':Hp}{o:HO}(d:Drawn p H H')(hq:H' q=none):Drawn p H (L2.upd H' q o):=
 ⟨λb u hb e=>by rw[AD (AI (d.keep b u hb e) hq)];exact d.keep b u hb e,by
  obtain⟨u,h1,h2⟩:=d.pot;exact⟨u,by rw[AD (AI h1 hq)];exact h1,h2⟩⟩
def Drawn.same{p:μ}{H H1 H2:Hp}(d:Drawn p H H1)(s:AA H1 H2):Drawn p H H2 :=
 ⟨λb u hb e=>s _ _ (d.keep b u hb e),by obtain⟨u,h1,h2⟩:=d.pot;exact⟨u,s _ _ h1,h2⟩⟩
def Drawn.sub{p q:μ}{H H1 H2:Hp}{o':HO}(d:Drawn p H H1)(k:∀ b o,b≠q->H1 b≈o->H2 b≈o)(hq:H q=none)(hp:p≠q):Drawn p H H2 :=
 ⟨λb u hb e=>k _ _ (AI e hq) (d.keep b u hb e),by obtain⟨u,h1,h2⟩:=d.pot;exact⟨u,k _ _ hp h1,h2⟩⟩
def _root_.L2.SqL.mono_new{K:Fg}{H:Hp}{a q:μ}{xs:LV}{o:HO}(h:SqL K H a xs)(hq:H q=none):SqL K (L2.upd H q o) a xs :=
 AA.seq (λb u e=>by rw[AD (AI e hq)];exact e) h
def Br{n:Nat}(h:n<=100000):n<sizeLine:=by rw[sizeLine_eq];omega
def Qb:τ->Option (LS)
 | []=>↥[]
 | .Constant (.str x) _ _ :: r=>(Qb r).map (x :: ·)
 | _=>none
def tM{X:Cx}:∀ {es:τ}{ws:LS},Qb es≈ws->PA X es (λ_ H Q=>Q 1.8 H):=by
 intro es
 induction es with
 | nil =>
  intro ws h;have e:ws=[]:=(Yt h).symm;subst e;exact AB
 | cons e r ih =>
  intro ws h;cases e with
  | Constant c j p =>
   cases c with
   | str x =>
    have h':(Qb r).map (x :: ·)≈ws:=h;obtain⟨vs,h1,h2⟩:=FK.mp h';subst h2;exact pC Ah (ih h1) rfl
   | _=>exact nomatch (show(none:Option (LS))≈ws from h)
  | _=>exact nomatch (show(none:Option (LS))≈ws from h)
theorem FD(x:Str):∀ ws:LS,Bh (.str x) 1.8=decide (x∈ws)
 | []=>rfl
 | w :: r=>by
  have ih:=FD x r;unfold Bh at ih ⊢;rw[Yr,J7,ih];show((w == x) || decide (x∈r))=decide (x∈w :: r);rw[J9];simp only[Bool.or_eq_true,beq_iff_eq,decide_eq_true_eq,Yv];constructor
  ·rintro(h | h)
   ·exact .inl h.symm
   ·exact .inr h
  ·rintro(h | h)
   ·exact .inl h.symm
   ·exact .inr h
def JG(ws:LS):(ws.map V.str).all Jl=true:=by
 rw[Cb];intro v hv;obtain⟨w,_,e⟩:=Yd.mp hv;rw[<- e];rfl
theorem Gm{K:Fg}{H:Hp}:∀ ws:LS,BH K H 1.8 11.6
 | []=>.nil
 | w :: r=>.cons (.str w) (Gm r)
abbrev Row:=Str×LS
def LG(H:Hp)(r:Str×LS)(v:V):Prop:=∃ t u,v=.ref t/\H t≈(.tup [.str r.1,.ref u])/\H u≈(.tup 6.7)
def Ep(H:Hp)(l:μ)(rows:RS):Prop:=∃ vs,H l≈(.lst vs)/\Paired (LG H) rows vs
structure As(rows:RS):Prop where
 ne:1<=↑rows
 le:↑rows<=24
 word:∀ r∈rows,AM r.1=true
 nd:(rows.map 0.5).Nodup
 few:∀ r∈rows,↑r.2<=8
 known:∀ r∈rows,∀ u∈r.2,u∈rows.map 0.5
 upnd:∀ r∈rows,r.2.Nodup
 rank:∃ rk:Str->Nat,∀ r∈rows,∀ u∈r.2,rk u<rk r.1
end Md
namespace L2
open PySem PySem.Spec PyProof.Rows
section
variable {X:Cx}{tg:Expr}
def CF(K:Fg)(b:Bool)(H:Hp)(a:μ)(xs:LV):Prop:=if b=true then SqL K H a xs else AH K H a xs
def CF.mono{K:Fg}{b:Bool}{H H':Hp}{a:μ}{xs:LV}(h:CF K b H a xs)(s:AA H H'):CF K b H' a xs:=by
 cases b with
 | true=>exact s.seq (show SqL K H a xs from h)
 | false=>exact s.tup (show AH K H a xs from h)
def Vl(K:Fg)(b:Bool)(a:μ)(xs:LV):It:=⟨λi H=>i<↑xs/\CF K b H a xs,λi H x H'=>H'=H/\xs[i]?≈x,λi H=>↑xs<=i/\CF K b H a xs⟩
def F1{K:Fg}{b:Bool}{a:μ}{xs:LV}:E_ (Vl K b a xs) xs (λH=>CF K b H a xs) where
 go:=λi x H ok hx=>⟨(Yg.mp hx).1,ok⟩
 yld:=λi x H y H' ok hx h=>by
  obtain⟨e,h⟩:=h;rw[hx]at h;exact⟨(Yt h).symm,e⟩
 stop:=λH ok=>⟨Ye _,ok⟩
def Ga.imp{P:χ}{w:World}{K:Fg}{tg:Expr}{J J':It}{fp:ξ}{it:μ}{tn:Nat->Heap->Prop}(T:Ga P w K tg J fp it tn)(hgo:∀ i H,J'.go i H->J.go i H)
  (hy:∀ i H x H',J'.go i H->J.yld i H x H'->J'.yld i H x H') (hs:∀ i H,J'.stop i H->J.stop i H):Ga P w K tg J' fp it tn where
 mem:=T.mem
 obj:=T.obj
 keep:=T.keep
 item:=λX h1 h2 h3 h4 i ρ s σ H E I hf st g=>AK (T.item X h1 h2 h3 h4 i ρ s σ H E I hf st (hgo i H g)) λr s1 ⟨u,e,h⟩=>⟨u,e,AK h λ_ s2 ⟨x,H',I',r',y,t,f⟩=>⟨x,H',I',r',hy i H x H' g y,t,f⟩⟩
 done:=λX h1 h2 h3 h4 i ρ s σ H E I hf st g=>T.done X h1 h2 h3 h4 i ρ s σ H E I hf st (hs i H g)
 self:=T.self
inductive j0(K:Fg)(R:It->Hp->Prop)(x:V)(H1:Hp):Prop
 | mk:∀ b a xs,x=.ref a->CF K b H1 a xs->R (Vl K b a xs) H1->j0 K R x H1
def Ye7(K:Fg)(tl:TE):TI:=λσ H R=>tl σ H λx H1=>j0 K R x H1
def Fw{l:Expr}{tl:TE}(hl:PE X l tl):PI X tg l (Ye7 X.K tl):=by
 intro ρ s σ H R I h;refine AK (hl ρ s σ H _ I h) λv s1 ⟨x,H1,I1,r1,q1⟩=>?_;obtain⟨b,a,xs,e,hq,q⟩:=q1;subst e;cases r1;have fp:∀ b∈[⇑s1],Dc X ρ H1 b:=λb hb=>by
  have e:b=⇑s1:=by simpa using hb
  subst e;exact I1.fpOk (Ye _) 11.3
 have get:∀ {i:Nat} {ys:LV},i<↑ys->∃ y,ys[i]?≈y:=λ{i ys} h=>⟨ys[i],by simp[h]⟩;cases b with
 | true =>
  have hq:SqL X.K H1 a xs:=hq;obtain⟨ν,rv,p,hz⟩:=I1.list hq;refine wpAny_pyIter_list p.isList ?_;refine⟨⇑s1,[⇑s1],_,Vl X.K true a xs,H1,Y,I1.kept (t':=s1.toks) λb o e=>Yb _ e,(jA a _).imp (λi H g=>?_) (λi H x H' g y=>⟨y.1,y.2 xs g.2⟩) (λi H g=>⟨xs,g.2,g.1⟩),⟨_,Yk _ rfl,Y,Y⟩,fp,q⟩;obtain⟨y,hy⟩:=get g.1;exact⟨xs,y,g.2,hy⟩
 | false =>
  have hq:AH X.K H1 a xs:=hq;obtain⟨ν,rv,p,hz⟩:=I1.tuple hq;refine wpAny_pyIter_tuple (show s1.heap.IsTuple a ν.toArray from p) ?_;refine⟨⇑s1,[⇑s1],_,Vl X.K false a xs,H1,Y,I1.kept (t':=s1.toks) λb o e=>Yb _ e,(jY a _).imp (λi H g=>?_) (λi H x H' g y=>⟨y.1,y.2 xs g.2⟩) (λi H g=>⟨xs,g.2,g.1⟩),⟨_,Yk _ rfl,Y,Y⟩,fp,q⟩;obtain⟨y,hy⟩:=get g.1;exact⟨xs,y,g.2,hy⟩
inductive lE(R:It->Hp->Prop)(x:V)(H1:Hp):Prop
 | mk:∀ a ob π,x=.ref a->H1 a≈(.frz ob (.dK π))->R (aG a ob π) H1->lE R x H1
def Ybb(to:TE):TI:=λσ H R=>to σ H λx H1=>lE R x H1
def gG{o:Expr}{to:TE}{apos AQ:Pos}(ho:PE X o to)(Bm:attributeBase o "values" X.env (eval o X.env)=eval o X.env:=by rfl)(Bl:8.3=true:=by rfl):
  PI X tg (.Call (.Attribute o "values" apos) [] [] AQ) (Ybb to):=by
 intro ρ s σ H R I h;refine wpAny_Call_method0_late Bm Bl 11.0;obtain⟨a,ob,π,e,ha,q⟩:=q1;subst e;obtain rfl:v=Value.ref a:=r1;obtain⟨t1,t2,t3⟩:=Tw I1 (.inl ⟨π,.inr ⟨ob,ha⟩⟩);obtain⟨es,ep,hd⟩:=Xq (I1.hok a _ ha);obtain⟨hs,vs,r,dd⟩:=Jx (I1.hok a _ ha) hd;have hl:↑π=↑vs:=Yi r;refine⟨"dict","dict.values",VS,PySem.F.slot_dict_values,PySem.F.type_dict_values,t1,t2,Ox rfl (Ro ?_)⟩;refine call_meetsIn PySem.F.slot_dict_values t1 PySem.F.entry_dict_values (PySem.F.args_dict_values_1 _) (meets_dict_values (CP X.prog X.w) a t3) ⟨⟨vs,dd.dictOf⟩,?_⟩;have I2:Inv X ρ σ H1 {s1 with heap:=s1.heap.push {cls:=.type "dict_values",data:=.fields #[.ref a] } }:=I1.kept (t':=s1.toks) λb o e=>Yb _ e;refine wpAny_pyIter_values (kvs:=vs) (ep:=ep) (knd:=CP X.prog X.w) ⟨_,Yk _ rfl,Y,Y⟩ (dd.at' λo e=>Yb _ e) ?_;refine⟨_,[_],_,_,H1,Y,I2.kept (t':=s1.toks) λb o e=>Yb _ e,uV a _ ob π es ep hd,⟨_,Yk _ rfl,Y,by rw[hl];rfl⟩,λb hb=>?_,q⟩;have e:b=_:=Yf.mp hb;subst e;exact I2.fpOk (Ye _) (I2.hok.fresh (Ye _))
def jo(hc:X.calm=true):FV X (.type "list") (λxs H Q=>∃ a π,xs=[.ref a]/\Rd H a (.dK π)/\∀ l,H l=none->Q (.ref l) (upd H l (.lst (π.map λp=>kV p.1)))):=by
 intro ρ s σ H xs us Q I r h;obtain⟨a,π,rfl,ha,q⟩:=h;obtain⟨u,rfl,ru⟩:=Hn r;cases ru;obtain⟨hz,hs,vs,rv,o,es,ep,h1,h2,h3,h4,h5,h6⟩:=Ks I.hok ha;have hl:↑π=↑vs:=Yi rv;have dd:s.heap.DictAt (CP X.prog X.w) a vs ep:=⟨o,es,h1,h2,h3,h4,h5,h6⟩;refine W.kdl_call (W.kdl_dict (knd:=CP X.prog X.w) (kvs:=vs) (ep:=ep) hs) 6.0 dd (by rw[<- hl];exact hz) λh' tk NT c' hk JW Cm=>?_;obtain⟨a1,a2⟩:=Cm;refine⟨.ref _,_,I.laid (o:=.lst (π.map λp=>kV p.1)) hk (Ye _) ⟨by rw[Ya];exact hz,NT.toList,c',?_,by simpa using JW⟩,Y,q _ 6.9⟩;refine T4 (by have z:↑NT.toList=NT.size:=Rq;rw[Ya];omega) λi v u hv hu=>?_;rw[Yn]at hv;obtain⟨p,hp,e⟩:=FK.mp hv;obtain⟨w',hw,_⟩:=rv.get hp;obtain⟨k,x,EI,Pp⟩:=a2 i u (by rw[<- Array.getElem?_toList];exact hu);rw[hw]at EI;injection EI with EI;injection EI with EI _;rw[<- e,EI];exact Tr Pp
def BR.f{H:Hp}{a:μ}{o:Obj}{π:KL}{k:Key}(e:H a≈(.frz o (.dK π))):BR H a (kV k) (BG π k):=.inl ⟨π,k,.inr ⟨o,e⟩,Y,Y⟩
end
end L2
namespace Md
open PySem L2
def Mm(K:Fg)(H:Hp)(u:μ)(us:LS):Prop:=H u≈(.tup (us.map V.str))\/SqL K H u (us.map V.str)
def Mm.sq{K:Fg}{H:Hp}{u:μ}{us:LS}(h:Mm K H u us):∃ b,CF K b H u (us.map V.str):=by
 rcases h with h | h
 ·exact⟨false,AH.of h⟩
 ·exact⟨true,h⟩
def Rf(K:Fg)(H:Hp)(r:Str×LS)(v:V):Prop:=∃ t u,v=.ref t/\AH K H t [.str r.1,.ref u]/\Mm K H u r.2
def HE(K:Fg)(H:Hp)(l:μ)(rows:RS):Prop:=∃ b vs,CF K b H l vs/\Paired (Rf K H) rows vs
def Mm.mono{K:Fg}{H H':Hp}{u:μ}{us:LS}(h:Mm K H u us)(s:AA H H'):Mm K H' u us:=h.elim (λx=>.inl (s _ _ x)) λx=>.inr (s.seq x)
theorem Rf.mono{K:Fg}{H H':Hp}{r:Str×LS}{v:V}(h:Rf K H r v)(s:AA H H'):Rf K H' r v:=let⟨t,u,e,a,b⟩:=h;⟨t,u,e,s.tup a,b.mono s⟩
theorem HE.mono{K:Fg}{H H':Hp}{l:μ}{rows:RS}(h:HE K H l rows)(s:AA H H'):HE K H' l rows:=let⟨b,vs,a,p⟩:=h;⟨b,vs,a.mono s,Paired.mapP p λ_ _ z=>z.mono s⟩
def Ep.g{K:Fg}{H:Hp}{l:μ}{rows:RS}(h:Ep H l rows):HE K H l rows:=by
 obtain⟨vs,a,p⟩:=h;refine⟨true,vs,SqL.of a,Paired.mapP p λr v z=>?_⟩;obtain⟨t,u,e,h1,h2⟩:=z;exact⟨t,u,e,AH.of h1,.inl h2⟩
theorem BM{α β:Type}{F:α->β->Prop}:∀ {l:List α}{k:List β},Paired F l k->∀ {i:Nat}{b:β},k[i]?≈b->∃ a,l[i]?≈a/\F a b
 | _,_,.nil,i,b,h=>by simp at h
 | _,_,.cons r t,0,b,h=>by simp at h;subst h;exact⟨Z,r⟩
 | _,_,.cons r t,i + 1,b,h=>by
  obtain⟨a,h1,h2⟩:=BM t (i:=i) (b:=b) (by simpa using h);exact⟨a,by simpa using h1,h2⟩
def FJ{π:KL}{k:Key}(h:k∉π.map 0.5):BG π k=none:=by
 cases e:BG π k with
 | none=>rfl
 | some v=>exact absurd (gR e) h
def RN{π:KL}{k:Key}{v:V}(h:k∉π.map 0.5):(Al π k v).map 0.5=π.map 0.5++[k]:=by
 rw[Jy v (FJ h),B6];rfl
def K7{rows:RS}{i:Nat}{r:Str×LS}(nd:(rows.map 0.5).Nodup)(h:rows[i]?≈r):(Sum.inr r.1:Key)∉(rows.take i).map λr=>(Sum.inr r.1:Key):=by
 intro m;obtain⟨q,hq,e⟩:=Yd.mp m;have e:q.1=r.1:=by injection e
 obtain⟨j,hj,ej⟩:=VU.mp hq;rw[Yy]at hj;have Pq:rows[j]?≈q:=by
  rw[List.getElem_take]at ej;rw[Yu 0.0,ej]
 have a:13.9[j]?≈r.1:=by rw[Yn,Pq,<- e];rfl
 have b:13.9[i]?≈r.1:=by rw[Yn,h];rfl
 have:=OK nd a b;omega
def Dd(H:Hp)(rows:RS)(π:KL):Prop:=Paired (λr (p:Key×V)=>p.1=Sum.inr r.1/\∃ t,p.2=.ref t/\H t≈(.tup 6.7)) rows π
def Dd.mono{H H':Hp}{rows:RS}{π:KL}(h:Dd H rows π)(s:∀ b xs,H b≈(.tup xs)->H' b≈(.tup xs)):Dd H' rows π :=
 Paired.mapP h λ_ _ z=>⟨z.1,let⟨t,e,x⟩:=z.2;⟨t,e,s _ _ x⟩⟩
theorem Dd.keys:∀ {H:Hp}{rows:RS}{π:KL},Dd H rows π->π.map 0.5=rows.map λr=>(Sum.inr r.1:Key)
 | _,_,_,.nil=>rfl
 | _,_,_,.cons r t=>by rw[Yr,Yr,r.1,Dd.keys t]
def A2(rows:RS)(x:Str):LS:=(rows.lookup x).getD []
def Hy{rows:RS}(nd:(rows.map 0.5).Nodup){r:Str×LS}(h:r∈rows):A2 rows r.1=r.2:=by
 unfold A2
 induction rows with
 | nil=>cases h
 | cons q rs ih =>
  have Lh:(q.1 :: rs.map 0.5).Nodup:=nd;obtain⟨n1,n2⟩:=ID.mp Lh;obtain⟨a,b⟩:=q;rw[Cv]
  rcases Yv.mp h with e | h
  ·subst e;simp
  ·have ne:(r.1 == a)=false:=by
    rw[beq_eq_false_iff_ne];intro e;exact n1 (Yd.mpr ⟨r,h,e⟩)
   rw[ne];exact ih n2 h
theorem Dd.val:∀ {H:Hp}{rows:RS}{π:KL},Dd H rows π->(rows.map 0.5).Nodup->∀ {r:Str×LS},r∈rows->∃ t,BG π (Sum.inr r.1)≈(.ref t)/\H t≈(.tup 6.7)
 | _,_,_,.nil,_,r,h=>nomatch h
 | _,q :: rs,p :: ps,.cons z t,nd,r,h=>by
  have Lh:(q.1 :: rs.map 0.5).Nodup:=nd;obtain⟨n1,n2⟩:=ID.mp Lh;obtain⟨z1,u,z2,z3⟩:=z
  rcases Yv.mp h with e | h
  ·subst e;exact⟨u,by rw[F3 z1,z2],z3⟩
  ·have ne:¬ p.1=(Sum.inr r.1:Key):=λe=>n1 (by
    rw[z1]at e;have e':q.1=r.1:=by injection e
    rw[e'];exact Yd.mpr ⟨r,h,Y⟩)
   obtain⟨u',h1,h2⟩:=Dd.val t n2 h;exact⟨u',by rw[F2 ne];exact h1,h2⟩
def j6{H:Hp}{rows:RS}{π:KL}(h:Dd H rows π):(π.map λp=>kV p.1)=(rows.map 0.5).map V.str:=by
 have e:(π.map λp=>kV p.1)=(π.map 0.5).map kV:=by rw[Es];rfl
 rw[e,h.keys,Es,Es];rfl
end Md
namespace L2
open PySem PySem.Spec PyProof.Rows
section
variable {X:Cx}{ρ:PL}{σ:St}{H H':Hp}{s:ε}{h':Heap}
def Inv.laidMany{t':Nat}(I:Inv X ρ σ H s)(k:∀ b u,s.heap.get? b≈u->h'.get? b≈u)(agree:∀ b,b<⇑s->H' b=H b)
  (hok:∀ b o,⇑s<=b->H' b≈o->BI X.prog X.w H' h' b o):Inv X ρ σ H' {s with heap:=h',toks:=t' }:=by
 have low:∀ {b:μ} {o:HO},H b≈o->H' b≈o:=λ{b o} e=>by rw[agree b (I.hok.lt e)];exact e
 refine I.un ⟨λb o e _ _ _=>k b o e,λb o e _ _ _=>⟨o.slots,k b o e⟩,λb o e n _=>by rw[agree b (Yh e)];exact n,λb o e _=>⟨o,k b o e⟩,λb xs e=>low e,λb o u e=>low e,λb ps e=>⟨#[],by rw[low e];simp⟩⟩ λb o e=>?_;by_cases hb:b<⇑s
 ·have e':=e;rw[agree b hb]at e';exact(I.hok b o e').stay (λc v _ q=>k c v q) (λc q=>low q) λc xs q=>low q
 ·exact hok b o (Nat.le_of_not_lt hb) e
theorem YV{α β:Type}[BEq α][LawfulBEq α]:∀ {as:List α}{ks:List β}{a:α}{i:Nat}{k:β},as.Nodup->as[i]?≈a->ks[i]?≈k->(as.zip ks).lookup a≈k
 | [],_,_,_,_,_,h,_=>by simp at h
 | _ :: _,[],_,_,_,_,_,h=>by simp at h
 | x :: as,y :: ks,a,0,k,_,h1,h2=>by
  simp at h1 h2;subst h1;subst h2;simp
 | x :: as,y :: ks,a,i + 1,k,nd,h1,h2=>by
  obtain⟨n1,n2⟩:=ID.mp nd;have Nx:as[i]?≈a:=by simpa using h1
  have ne:(a == x)=false:=by
   rw[beq_eq_false_iff_ne];intro e;exact n1 (e ▸ Yc Nx)
  rw[List.zip_cons_cons,Cv,ne];exact YV n2 Nx (by simpa using h2)
theorem RT{α β:Type}[BEq α][LawfulBEq α]:∀ {as:List α}{ks:List β}{a:α}{k:β},(as.zip ks).lookup a≈k->∃ i:Nat,as[i]?≈a/\ks[i]?≈k
 | [],_,_,_,h=>by simp at h
 | _ :: _,[],_,_,h=>by simp at h
 | x :: as,y :: ks,a,k,h=>by
  rw[List.zip_cons_cons,Cv]at h;cases e:(a == x)with
  | true =>
   rw[e]at h;have e':a=x:=by simpa using e
   subst e';exact⟨0,Y,h⟩
  | false =>
   rw[e]at h;obtain⟨i,h1,h2⟩:=RT h;exact⟨i + 1,by simpa using h1,by simpa using h2⟩
theorem UX{α β:Type}{F:α->β->Prop}:∀ {l:List α}{k:List β},↑l=↑k->(∀(i:Nat) (a:α) (b:β),l[i]?≈a->k[i]?≈b->F a b)->Paired F l k
 | [],[],_,_=>.nil
 | [],_ :: _,h,_=>by simp at h
 | _ :: _,[],h,_=>by simp at h
 | a :: l,b :: k,h,f=>.cons (f 0 a b rfl rfl) (UX (by simpa using h) λi x y hx hy=>f 4.6 x y (by simpa using hx) (by simpa using hy))
def vW{o:Expr}{to:TE}{p1 apos AQ M_:Pos}(hc:X.calm=true)(ho:PE X o to)(WK:Gl X "list")(Pn:X.mg "list"=none)
  (Bm:attributeBase o "items" X.env (eval o X.env)=eval o X.env:=by rfl) (Bl:8.3=true:=by rfl)
  (Lk:starEach [.Call (.Attribute o "items" apos) [] [] AQ] X.env=[(false,eval (.Call (.Attribute o "items" apos) [] [] AQ) X.env)]:=by rfl):
  PE X (.Call (.Name "list" p1) [.Call (.Attribute o "items" apos) [] [] AQ] [] M_) (λσ H Q=>to σ H λx H1=>∃ a π,x=.ref a/\Rd H1 a (.dK π) /\
   ∀ l H' vs,H1 l=none->AA H1 H'->H' l≈(.lst vs)->Paired (λ(kv:Key×V) v=>∃ t,v=.ref t/\H' t≈(.tup [kV kv.1,kv.2])) π vs->Q (.ref l) H'):=by
 ac_rfl;refine wpAny_Call_Name_kw (K2 I WK Pn LP ?_ 0.2 0.2);refine Oq ?_ Lk rfl;refine Calls.spliced_cons ?_;refine wpAny_Call_method0_late Bm Bl 11.0;obtain⟨a,π,e,ha,q⟩:=q1;subst e;obtain rfl:v=Value.ref a:=r1;obtain⟨t1,t2,t3⟩:=Tw I1 (.inl ⟨π,ha⟩);obtain⟨hz,hs,us,rv,ob,es,ep,h1,h2,h3,h4,h5,h6⟩:=Ks I1.hok ha;have hl:↑π=↑us:=Yi rv;have dd:s1.heap.DictAt (CP X.prog X.w) a us ep:=⟨ob,es,h1,h2,h3,h4,h5,h6⟩;refine⟨"dict","dict.items",VS,Oy,Zv,t1,t2,Ox rfl (Ro ?_)⟩;refine call_meetsIn Oy t1 Zn (Zq _) (meets_dict_items (CP X.prog X.w) a t3) ⟨⟨us,dd.dictOf⟩,Calls.spliced_nil ?_⟩;have I2:Inv X ρ σ H1 {s1 with heap:=s1.heap.push {cls:=.type "dict_items",data:=.fields #[.ref a] } }:=I1.kept (t':=s1.toks) λb o e=>Yb _ e;refine W.kdx_call (knd:=CP X.prog X.w) (kvs:=us) (ep:=ep) (d:=a) (I1.ok.hd hc) ⟨_,Yk _ rfl,Y,Y⟩ (dd.at' λo e=>Yb _ e) (by rw[<- hl];exact hz) λh' tk acc c as hk JW hal hG Cm=>?_;generalize hsz:(s1.heap.push {cls:=.type "dict_items",data:=.fields #[.ref a] }).objs.size=L at JW hG;have ndas:as.Nodup:=List.nodup_iff_pairwise_ne.mpr (hG.rise.imp λh=>Ys h);have P2:∀ b,b<L->(λb=>if b=L then ↥(HO.lst 14.0)else match (as.zip π).lookup b with | some kv=>↥(HO.tup [kV kv.1,kv.2]) | none=>H1 b:Hp) b=H1 b:=λb hb=>by
  show(if b=L then _ else _)=_;rw[if_neg (Ys hb)];cases e:(as.zip π).lookup b with
  | none=>rfl
  | some kv =>
   obtain⟨i,h1,_⟩:=RT e;have:=hG.above b (Yc h1);exact absurd (HQ hb this) (Gu _)
 have at_:∀(i:Nat) (b:μ),as[i]?≈b->∃ kv:Key×V,π[i]?≈kv/\(λb=>if b=L then ↥(HO.lst 14.0)else match (as.zip π).lookup b with | some kv=>↥(HO.tup [kV kv.1,kv.2]) | none=>H1 b:Hp) b≈(.tup [kV kv.1,kv.2]):=λi b hi=>by
  have Bb:i<↑π:=by
   have:=(Yg.mp hi).1;omega
  refine⟨π[i],by simp[Bb],?_⟩;show(if b=L then _ else _)=_;rw[if_neg (CJ (hG.above b (Yc hi))),YV ndas hi (show π[i]?≈π[i] by simp[Bb])]
 have I3:Inv X ρ σ (λb=>if b=L then ↥(HO.lst 14.0)else match (as.zip π).lookup b with | some kv=>↥(HO.tup [kV kv.1,kv.2]) | none=>H1 b:Hp) {s1 with heap:=h',toks:=tk}:=by
  refine I2.laidMany (t':=tk) hk (λb hb=>P2 b (by rw[<- hsz];exact hb)) λb o hb e=>?_;have e:(if b=L then ↥(HO.lst 14.0)else match (as.zip π).lookup b with | some kv=>↥(HO.tup [kV kv.1,kv.2]) | none=>H1 b)≈o:=e;by_cases hbL:b=L
  ·rw[if_pos hbL]at e;cases e;refine⟨by rw[Ya,hal,<- hl];exact hz,acc.toList,c,?_,by rw[hbL];simpa using JW⟩;rw[Cm];exact T4 1.1 λi v u hv hu=>by
    rw[Yn]at hv hu;obtain⟨y,hy,ey⟩:=FK.mp hv;rw[hy]at hu;rw[<- ey];exact(Yt hu).symm
  ·rw[if_neg hbL]at e;cases el:(as.zip π).lookup b with
   | none =>
    rw[el]at e;have:=I2.hok.lt e;exact absurd (Yp this hb) (Gu _)
   | some kv =>
    rw[el]at e;cases e;obtain⟨i,WI,JT⟩:=RT el;obtain⟨key,k,x,hu,hkey,hget⟩:=hG.pairs i b WI;obtain⟨u,HX,ru⟩:=rv.get JT;rw[hu]at HX;injection HX with HX;injection HX with p9 Li;subst p9 Li;exact⟨W,[key,x],.cons (Tr hkey) (.cons ru .nil),⟨_,hget,Y,Z⟩⟩
 refine⟨.ref L,_,I3,Y,q L _ 14.0 ?_ (λb o e=>?_) ?_ ?_⟩
 ·rw[<- hsz];exact I2.hok.fresh (Ye _)
 ·exact(P2 b (by rw[<- hsz];exact I2.hok.lt e)).trans e
 ·show(if L=L then _ else _)=_;rw[if_pos rfl]
 ·refine UX (by rw[Ya,hal,hl]) λi kv v h1 h2=>?_;rw[Yn]at h2;obtain⟨b,hb,eb⟩:=FK.mp h2;obtain⟨pW,EI,Pp⟩:=at_ i b hb;rw[h1]at EI;cases EI;exact⟨b,eb.symm,Pp⟩
end
section
variable {X:Cx}
inductive QN(K:Fg)(x:V)(y:V)(H:Hp)(Q:VK):Prop
 | mk:∀ a b xs ys,x=.ref a->y=.ref b->AH K H a xs->AH K H b ys->↑xs + ↑ys<=sizeLine->(xs=[]->Q (.ref b) H)->(xs≠[]->ys=[]->Q (.ref a) H)->(xs≠[]->ys≠[]->∀ p,H p=none->Q (.ref p) (upd H p (.tup (xs++ys))))->QN K x y H Q
def Qj:Bd X (binaryOp .Add) (QN X.K):=by
 exfalso;obtain⟨a,b,xs,ys,rfl,rfl,ha,hb,hz,q0,q1,q2⟩:=h;by_cases hx:xs=[]
 ·cases rx;cases ry;obtain⟨ν,r1,p1,_⟩:=I.tuple ha;obtain⟨Di,r2,p2,_⟩:=I.tuple hb;have e:ν=[]:=r1.nil_iff.mpr hx;obtain⟨⟨cls,dd,data,sl⟩,ho,hc,n,hd⟩:=id p1;obtain⟨⟨bO,Ta,data2,Sz⟩,GV,Pw,n2,hd2⟩:=id p2;simp only at hc hd Pw hd2;subst hc hd Pw hd2;exact concat_meets ⟨_,ho,rfl⟩ ⟨_,GV,rfl⟩ noFill_tuple_add seq_tuple_add PySem.F.slot_tuple_add Zl (Zo _ _)
   (tuple_addW0 a b ν.toArray Di.toArray n n2 dd Ta sl Sz (by simp[e])) ⟨ho,GV,⟨.ref b,H,I,rfl,q0 hx⟩⟩
 ·exact yq ρ s σ H _ _ v u Q I rx ry ⟨a,b,xs,ys,rfl,rfl,ha,hb,hx,hz,q1 hx,q2 hx⟩
end
section
variable {X:Cx}{ρ:PL}{σ:St}{H:Hp}{s:ε}{h':Heap}
def Inv.turnedNew{t':Nat}{it a:μ}{o:HO}(I:Inv X ρ σ H s)(k:∀ b u,b≠it->s.heap.get? b≈u->h'.get? b≈u)(hn:H it=none)(hL:it≠X.env.locals)
  (h1:it∈X.ex\/⇑X.s₀<=it) (h2:∀ x c,X.env.cells.lookup x≈c->c≠it) (h3:∀ p∈X.pn++ρ,p.1≠it) (ha:⇑s<=a) (new:BI X.prog X.w 13.3 h' a o):
  Inv X ρ σ 13.3 {s with heap:=h',toks:=t' }:=by
 have nit:∀ b u,H b≈u->b≠it:=λb u e z=>by rw[z,hn]at e;cases e
 have na:∀ b u,H b≈u->b≠a:=λb u e=>Ys (Yp (I.hok.lt e) ha);have low:∀ {b u},H b≈u->13.3 b≈u:=λ{b u} e=>by rw[AD (na b u e)];exact e
 refine I.step (g':=s.gens) (d':=s.drawn) (ch:=[it]) (λb hb=>?_) (λb u _ _ hc e _=>k b u 5.4 e) (λb u _ _ hc e _=>⟨u.slots,k b u 5.4 e⟩)
  (λb u _ e n=>by rw[AD (Ys (Yp (Yh e) ha))];exact n)
  (λb u hc e=>⟨u,k b u 5.4 e⟩) (λ_ _ e=>low e) (λ_ _ _ e=>low e) (λb ps e=>⟨#[],by rw[low e];simp⟩) (λm hm=>?_) (λb u e=>?_) I.bare
 ·have e:b=it:=by simpa using hb
  subst e;exact⟨h1,hL,h2,h3⟩
 ·obtain⟨o',es,ep,ho,r⟩:=hm;exact⟨o',es,ep,k _ o' (Yz hL) ho,r⟩
 ·by_cases hb:b=a
  ·subst hb;rw[uS]at e;cases e;exact new
  ·rw[AD hb]at e;refine(I.hok b u e).stay (λc v hc q=>k c v ?_ q) (λ_ q=>low q) λ_ _ q=>low q
   rcases hc with z | z
   ·rw[z];exact nit b u e
   ·exact nit c _ z
end
def R9(a:μ)(o:Obj)(π:KL):It :=
 ⟨λi H=>i<↑π/\H a≈(.frz o (.dK π)),λi H v H'=>∃ t p,π[i]?≈p/\H t=none/\v=.ref t/\H'=upd H t (.tup [kV p.1,p.2]),λi H=>↑π<=i/\H a≈(.frz o (.dK π))⟩
def ue{P:χ}{w:World}{K:Fg}{elts:τ}{x1}{pos:Pos}(a it:μ)(o:Obj)(π:KL)(es:Array DictEntry)(ep:Nat)(hd:o.data=.dict es ep):
  Ga P w K (.Tuple elts x1 pos) (R9 a o π) [it] it (λi h=>∃ ok ov,IsItemIter h it a i ↑π ep ok ov) where
 mem:=by simp
 obj:=λi h st b hb=>by
  have e:b=it:=by simpa using hb
  subst e;obtain⟨ok,ov,st⟩:=st;exact⟨_,st,λv z=>by cases z⟩
 keep:=λi h h' st k=>by
  obtain⟨ok,ov,st⟩:=st;exact⟨ok,ov,k it 1.1 _ st⟩
 item:=by
  intro X hP hw hK hc i ρ s σ H E I hf st hg;subst hP hw hK;obtain⟨f0,f1,f2,f3,f4,f5⟩:=hf it 1.1;obtain⟨hi,ha⟩:=hg;obtain⟨ok,ov,st⟩:=st;obtain⟨_,vs,r,dd⟩:=Jx (I.hok a _ ha) hd;obtain⟨p,hp⟩:∃ p,π[i]?≈p:=⟨π[i],by simp[hi]⟩;obtain⟨u,hu,ru⟩:=r.get hp;have hl:↑π=↑vs:=Yi r;rw[hl]at st;refine wpAny_pyNext_items_item st dd hu λkey h' hk B8 ht hz keep=>?_;refine⟨Z,?_⟩;refine wpAny_letOwnedTupleGo_items (s:={s with heap:=h' }) B8 λP6 M8 sb=>?_;have itlt:it<⇑s:=Yh st;have tne:⇑s≠it:=CJ itlt;have AU:P6.get? ⇑s=some {cls:=.type "tuple",data:=.seq #[key,u] }:=sb.extBut _ _ tne ht;have I1:Inv X ρ σ (upd H ⇑s (.tup [kV p.1,p.2])) {s with heap:=P6 }:=I.turnedNew (t':=s.toks) (λb o hb e=>sb.extBut b o hb (keep b o hb e)) f0 f1 f3 f4 f5 (Ye _)
   ⟨W,[key,u],.cons (Tr hk) (.cons ru .nil),⟨_,AU,Y,Z⟩⟩
  refine⟨.ref ⇑s,_,I1,Y,⟨⇑s,p,hp,I.hok.fresh (Ye _),Y,Y⟩,⟨_,_,by rw[hl];exact M8⟩,λb hb=>?_⟩;have e:b=it:=by simpa using hb
  subst e;rw[AD (Yz tne)];exact(hf b 1.1).1
 done:=by
  intro X hP hw hK hc i ρ s σ H E I hf st hg;subst hP hw hK;obtain⟨f0,f1,f2,f3,f4,f5⟩:=hf it 1.1;obtain⟨hi,ha⟩:=hg;obtain⟨ok,ov,st⟩:=st;obtain⟨_,vs,r,dd⟩:=Jx (I.hok a _ ha) hd;have hl:↑π=↑vs:=Yi r;rw[hl]at st;exact wpAny_pyNext_items_end 6.0 st dd (by simp;omega) λh' eb=>⟨Y,I.turned (t':=s.toks) 5.8 f0 f1 f3 f4 f5⟩
 self:=λA i s Q E st h=>by
  obtain⟨ok,ov,st⟩:=st;exact W.kcp_self st h
section
variable {X:Cx}
inductive fX(R:It->Hp->Prop)(x:V)(H1:Hp):Prop
 | mk:∀ a ob π,x=.ref a->H1 a≈(.frz ob (.dK π))->R (R9 a ob π) H1->fX R x H1
def wN(to:TE):TI:=λσ H R=>to σ H λx H1=>fX R x H1
def g7{elts:τ}{x1}{Fd:Pos}{o:Expr}{to:TE}{apos AQ:Pos}(ho:PE X o to)(Bm:attributeBase o "items" X.env (eval o X.env)=eval o X.env:=by rfl)(Bl:8.3=true:=by rfl):
  PI X (.Tuple elts x1 Fd) (.Call (.Attribute o "items" apos) [] [] AQ) (wN to):=by
 intro ρ s σ H R I h;refine wpAny_Call_method0_late Bm Bl 11.0;obtain⟨a,ob,π,e,ha,q⟩:=q1;subst e;obtain rfl:v=Value.ref a:=r1;obtain⟨t1,t2,t3⟩:=Tw I1 (.inl ⟨π,.inr ⟨ob,ha⟩⟩);obtain⟨es,ep,hd⟩:=Xq (I1.hok a _ ha);obtain⟨hs,vs,r,dd⟩:=Jx (I1.hok a _ ha) hd;have hl:↑π=↑vs:=Yi r;refine⟨"dict","dict.items",VS,Oy,Zv,t1,t2,Ox rfl (Ro ?_)⟩;refine call_meetsIn Oy t1 Zn (Zq _) (meets_dict_items (CP X.prog X.w) a t3) ⟨⟨vs,dd.dictOf⟩,?_⟩;have I2:Inv X ρ σ H1 {s1 with heap:=s1.heap.push {cls:=.type "dict_items",data:=.fields #[.ref a] } }:=I1.kept (t':=s1.toks) λb o e=>Yb _ e;refine wpAny_pyIter_items (kvs:=vs) (ep:=ep) (knd:=CP X.prog X.w) ⟨_,Yk _ rfl,Y,Y⟩ (dd.at' λo e=>Yb _ e) ?_;refine⟨_,[_],_,_,H1,Y,I2.kept (t':=s1.toks) λb o e=>Yb _ e,ue a _ ob π es ep hd,⟨.none,.none,?_⟩,λb hb=>?_,q⟩
 ·rw[hl];exact Yk _ rfl
 ·have e:b=_:=Yf.mp hb;subst e;exact I2.fpOk (Ye _) (I2.hok.fresh (Ye _))
end
def iW{a:μ}{o:Obj}{π:KL}{g:TG}{tb:TS}{D:Dl}{σ:St}{H:Hp}(Pv:NW)(h0:Pv 0 σ H)(hl:∀ i σ H,i<=↑π->Pv i σ H->H a≈(.frz o (.dK π)))
  (hs:∀ i p t σ H,π[i]?≈p->Pv i σ H->H t=none->g (.ref t) σ (upd H t (.tup [kV p.1,p.2])) λσ2 H2=>tb {D with nx:=Pv 4.6,ct:=Pv 4.6,bk:=D.nx} σ2 H2) (hd:∀ σ H,Pv ↑π σ H->D.nx σ H):
  ∃ W:Nat->Nat->St->Hp->Prop,(∃ m,W 0 m σ H)/\∀ i m σ H,W i m σ H ->
   ((R9 a o π).stop i H/\D.nx σ H)\/((R9 a o π).go i H/\∃ N:SW,5.3/\∀ x H',(R9 a o π).yld i H x H'->g x σ H' λσ2 H2=>tb {D with nx:=N,ct:=N,bk:=D.nx} σ2 H2):=by
 refine⟨λi m σ H=>m=↑π - i/\i<=↑π/\Pv i σ H,⟨↑π,by simp,BN _,h0⟩,?_⟩;rintro i m σ H ⟨rfl,hi,p⟩;have q:=hl i σ H hi p;by_cases Bb:i<↑π
 ·refine .inr ⟨⟨Bb,q⟩,Pv 4.6,λσ' H' p'=>⟨↑π - 4.6,V,Y,Bb,p'⟩,λx H' y=>?_⟩;obtain⟨t,pr,hp,ht,rfl,rfl⟩:=y;exact hs i pr t σ H hp p ht
 ·have e:i=↑π:=by omega
  subst e;exact .inl ⟨⟨Ye _,q⟩,hd σ H p⟩
section
variable {X:Cx}
end
section
variable {prog:χ}{w:World}{A:Around}{E:EV}{s:ε}
def vY{p t:μ}{k:Nat}{us:ζ}{u:δ}{Q:EV}(hp:s.heap.IsTupleIter p t k)(ht:s.heap.IsTuple t us)(hu:us[k]?≈u)
  (q:∀ g,g.IsTupleIter p t (k + 1)->Heap.SameBut p s.heap g->Q u {s with heap:=g}):wpAny 0.6 A (Builtin.SmallTypes.nextOf (.ref p)) Q E s:=by
 obtain⟨ob,h1,h2,h3⟩:=id hp;obtain⟨ot,h4,_,nt,h5⟩:=ht;unfold Builtin.SmallTypes.nextOf;refine Ja (wpAny_callSpecial?_slot (name:=Str.ofString "__next__") hp.typeIs VX 11.1);show wpAny _ _ (field (.ref p) 0>>=_) _ _ s;refine Ja (Jg h1 h3 (x:=.ref t) rfl ?_);show wpAny _ _ (if(Value.ref t == Value.none)=true then _ else _) _ _ s;rw[if_neg (show ¬ ((Value.ref t == Value.none)=true)from Yl)];show wpAny _ _ (field (.ref p) 1>>=_) _ _ s;refine Ja (Jg h1 h3 (x:=.int k 0) rfl ?_);show wpAny _ _ (seqItems? (.ref t)>>=_) _ _ s;refine Ja (wpAny_seqItems h4 h5 ?_);simp only[Mt,hu];refine Ja (wpAny_setField h1 h3 1.1 (Jd ⟨u,Y,Jd (q _ ?_ (Heap.SameBut.update ..))⟩));exact⟨_,Gq _ h1 (Rz (Oj h3 _)),(Obj.cls_mapFields ..).trans h2,by rw[Oj h3];simp[rawInt]⟩
def jj{p t:μ}{k:Nat}{us:ζ}{Q:EV}(hh:A.handled=none)(hp:s.heap.IsTupleIter p t k)(ht:s.heap.IsTuple t us)(hu:us[k]?=none)
  (q:∀ g e,Heap.ExtBut p s.heap g->(∃ o,g.get? e≈o/\o.cls=.type "StopIteration")->E (.ref e) {s with heap:=g}):wpAny 0.6 A (Builtin.SmallTypes.nextOf (.ref p)) Q E s:=by
 obtain⟨ob,h1,h2,h3⟩:=id hp;obtain⟨ot,h4,_,nt,h5⟩:=ht;unfold Builtin.SmallTypes.nextOf;refine Ja (wpAny_callSpecial?_slot (name:=Str.ofString "__next__") hp.typeIs VX 11.1);show wpAny _ _ (field (.ref p) 0>>=_) _ _ s;refine Ja (Jg h1 h3 (x:=.ref t) rfl ?_);show wpAny _ _ (if(Value.ref t == Value.none)=true then _ else _) _ _ s;rw[if_neg (show ¬ ((Value.ref t == Value.none)=true)from Yl)];show wpAny _ _ (field (.ref p) 1>>=_) _ _ s;refine Ja (Jg h1 h3 (x:=.int k 0) rfl ?_);show wpAny _ _ (seqItems? (.ref t)>>=_) _ _ s;refine Ja (wpAny_seqItems h4 h5 ?_);simp only[Mt,hu];refine Ja (wpAny_rule (Ja (wpAny_setField h1 h3 1.1 ?_)));show wpAny _ _ (newExc (.type "StopIteration") []>>=_) _ _ _;refine Ja ?_;simp only[newExc,newTuple];refine Ja (wpAny_newObj_type ?_ (by size_fits));refine Ja (m:=firstArgMember _ _) (wpAny_of_eq (a:=Value.none) (by first | rfl | (simp only[firstArgMember];rfl)) ?_);refine wpAny_newObj_type ?_ (by size_fits);simp only[raiseNew];refine Ja (wpAny_handled ?_)
 first | rw[show A.in1.handled=none from hh] | rw[hh]
 refine Ja (Jd (wpAny_throw ?_));exact q _ _ (((Heap.SameBut.update ..).extBut.push _).push _) ⟨_,Yk _ rfl,Y⟩
end
def R8(ps:List (V×V))(Ok:Hp->Prop):It :=
 ⟨λi H=>i<↑ps/\Ok H,λi H v H'=>∃ t p,ps[i]?≈p/\H t=none/\v=.ref t/\H'=upd H t (.tup [p.1,p.2]),λi H=>↑ps<=i/\Ok H⟩
section
variable {prog:χ}{w:World}{A:Around}{E:EV}{s:ε}
abbrev Vn(h:Heap)(l1:μ):Heap:=h.push {cls:=.type "tuple_iterator",data:=.fields #[.ref l1,.int 0 0] }
end
def iN{xs ys:LV}{i:Nat}{p:V×V}(h:(xs.zip ys)[i]?≈p):xs[i]?≈p.1/\ys[i]?≈p.2:=by
 rw[List.getElem?_zip_eq_some]at h;exact h
def Inv.turnedNewL{X:Cx}{ρ:PL}{σ:St}{H:Hp}{s:ε}{h':Heap}{t':Nat}{ν:ξ}{a:μ}{o:HO}(I:Inv X ρ σ H s)(k:∀ b u,b∉ν->s.heap.get? b≈u->h'.get? b≈u)
  (f:∀ b∈ν,Dc X ρ H b) (ha:⇑s<=a) (new:BI X.prog X.w 13.3 h' a o):Inv X ρ σ 13.3 {s with heap:=h',toks:=t' }:=by
 have nit:∀ b u,H b≈u->b∉ν:=λb u e z=>by have:=(f b z).1;rw[this]at e;cases e
 have na:∀ b u,H b≈u->b≠a:=λb u e=>Ys (Yp (I.hok.lt e) ha);have low:∀ {b u},H b≈u->13.3 b≈u:=λ{b u} e=>by rw[AD (na b u e)];exact e
 refine I.step (g':=s.gens) (d':=s.drawn) (ch:=ν) (λb hb=>?_) (λb u _ _ hc e _=>k b u hc e) (λb u _ _ hc e _=>⟨u.slots,k b u hc e⟩)
  (λb u _ e n=>by rw[AD (Ys (Yp (Yh e) ha))];exact n)
  (λb u hc e=>⟨u,k b u hc e⟩) (λ_ _ e=>low e) (λ_ _ _ e=>low e) (λb ps e=>⟨#[],by rw[low e];simp⟩) (λm hm=>?_) (λb u e=>?_) I.bare
 ·obtain⟨f0,f1,f2,f3,f4,f5⟩:=f b hb;exact⟨f3,f1,f4,f5⟩
 ·obtain⟨o',es,ep,ho,r⟩:=hm;exact⟨o',es,ep,k _ o' (λz=>(f _ z).2.1 rfl) ho,r⟩
 ·by_cases hb:b=a
  ·subst hb;rw[uS]at e;cases e;exact new
  ·rw[AD hb]at e;refine(I.hok b u e).stay (λc v hc q=>k c v ?_ q) (λ_ q=>low q) λ_ _ q=>low q
   rcases hc with z | z
   ·rw[z];exact nit b u e
   ·exact nit c _ z
def Inv.turnedL{X:Cx}{ρ:PL}{σ:St}{H:Hp}{s:ε}{h':Heap}{t':Nat}{ν:ξ}(I:Inv X ρ σ H s)(k:∀ b u,b∉ν->s.heap.get? b≈u->h'.get? b≈u)
  (f:∀ b∈ν,Dc X ρ H b):Inv X ρ σ H {s with heap:=h',toks:=t' }:=by
 have nit:∀ b u,H b≈u->b∉ν:=λb u e z=>by have:=(f b z).1;rw[this]at e;cases e
 refine I.step (g':=s.gens) (d':=s.drawn) (ch:=ν) (λb hb=>?_) (λb u _ _ hc e _=>k b u hc e) (λb u _ _ hc e _=>⟨u.slots,k b u hc e⟩)
  (λb u _ e n=>n) (λb u hc e=>⟨u,k b u hc e⟩) (λ_ _ e=>e) (λ_ _ _ e=>e) (λb ps e=>⟨#[],by rw[e];simp⟩) (λm hm=>?_) (λb u e=>?_) I.bare
 ·obtain⟨f0,f1,f2,f3,f4,f5⟩:=f b hb;exact⟨f3,f1,f4,f5⟩
 ·obtain⟨o',es,ep,ho,r⟩:=hm;exact⟨o',es,ep,k _ o' (λz=>(f _ z).2.1 rfl) ho,r⟩
 ·refine(I.hok b u e).stay (λc v hc q=>k c v ?_ q) (λ_ q=>q) λ_ _ q=>q
  rcases hc with z | z
  ·rw[z];exact nit b u e
  ·exact nit c _ z
section
variable {X:Cx}
end
def sf{prog:χ}{w:World}{A:Around}(hh:A.handled=none)(p t:μ)(ne:t≠p)(us:ζ):Draws prog w A p [p,t] us.size (λi v=>us[i]?≈v) (λi h=>h.IsTupleIter p t i/\h.IsTuple t us) where
 live:=λ_ _ st=>let⟨o,ho,_⟩:=st.1;⟨o,ho⟩
 frame:=λ_ _ _ st hk=>⟨st.1.at λo e=>hk p 1.1 o e,let⟨o,ho,r⟩:=st.2;⟨o,hk t 1.1 o ho,r⟩⟩
 item:=λi s Q E hi st q=>vY st.1 st.2 (u:=us[i]) (by simp[hi]) λg B8 sb=>q _ g s.toks (by simp[hi]) ⟨B8,st.2.extBut sb.extBut ne⟩ sb
 done:=λs Q E st q=>jj hh st.1 st.2 1.1 q
def LY(b:Bool)(h:Heap)(p a:μ)(i:Nat):Prop:=if b=true then h.IsListIter p a i else h.IsTupleIter p a i
def Z_(b:Bool)(h:Heap)(a:μ)(us:ζ):Prop:=if b=true then h.IsList a us else h.IsTuple a us
theorem LY.at{b:Bool}{h h':Heap}{p a:μ}{i:Nat}(x:LY b h p a i)(e:∀ o,h.get? p≈o->h'.get? p≈o):LY b h' p a i:=by
 cases b with
 | true=>exact Heap.IsListIter.at (show h.IsListIter p a i from x) e
 | false=>exact Heap.IsTupleIter.at (show h.IsTupleIter p a i from x) e
def LY.obj{b:Bool}{h:Heap}{p a:μ}{i:Nat}(x:LY b h p a i):∃ o,h.get? p≈o/\∀ v,o.data≠.cell v:=by
 cases b with
 | true =>
  obtain⟨o,e,_,d⟩:=(show h.IsListIter p a i from x);exact⟨o,e,λv z=>by rw[d]at z;cases z⟩
 | false =>
  obtain⟨o,e,_,d⟩:=(show h.IsTupleIter p a i from x);exact⟨o,e,λv z=>by rw[d]at z;cases z⟩
def r_{prog:χ}{w:World}{A:Around}(b:Bool)(hh:A.handled=none)(p t:μ)(ne:t≠p)(us:ζ):Draws prog w A p [p,t] us.size (λi v=>us[i]?≈v) (λi h=>LY b h p t i/\Z_ b h t us):=by
 cases b with
 | true=>exact Draws.list hh p t ne us
 | false=>exact sf hh p t ne us
def Inv.sseq{X:Cx}{ρ:PL}{σ:St}{H:Hp}{s:ε}{b:Bool}{a:μ}{xs:LV}(I:Inv X ρ σ H s)(h:CF X.K b H a xs):∃ ν:LU,Aa xs ν/\Z_ b s.heap a ν.toArray:=by
 cases b with
 | true =>
  obtain⟨ν,rv,p,_⟩:=I.list (show SqL X.K H a xs from h);exact⟨ν,rv,p.isList⟩
 | false =>
  obtain⟨ν,rv,p,_⟩:=I.tuple (show AH X.K H a xs from h);exact⟨ν,rv,p⟩
def MA(xs:LV):List (V×V):=(Jr 0 ↑xs).zip xs
def YD(xs:LV):↑(MA xs)=↑xs:=by
 unfold MA;rw[List.length_zip,J0,Nat.min_self]
def YC{xs:LV}{i:Nat}{p:V×V}(h:(MA xs)[i]?≈p):p.1=.int i/\xs[i]?≈p.2:=by
 obtain⟨h1,h2⟩:=iN h;obtain⟨_,e⟩:=K_ h1;exact⟨by rw[e,LQ],h2⟩
section
variable {prog:χ}{w:World}{A:Around}{E:EV}{s:ε}
def vB(l:μ)(us:ζ):Meets (Builtin.«enumerate.__new__» ⟨[.type "enumerate",.ref l],[]⟩) (λ_ R s=>s.heap.IsTuple l us /\
   R (.ok (.ret (.ref (s.heap.push {cls:=.type "tuple_iterator",data:=.fields #[.ref l,.int 0 0] }).objs.size)))
    {s with heap:=(s.heap.push {cls:=.type "tuple_iterator",data:=.fields #[.ref l,.int 0 0] }).push {cls:=.type "enumerate",data:=.fields #[.none,.bool false,.ref ⇑s,rawInt 0,.none,.none] } }):=
 .of_wp λprog w A R s h=>by
  obtain⟨hp,g,d,tk,os⟩:=s;obtain⟨ht,h⟩:=h;have hsub:=sub_enumerate;obtain⟨⟨c,dct,dt,sl⟩,hl,hc,n,hd⟩:=id ht;replace hc:c=.type "tuple":=hc;replace hd:dt=.seq us n:=hd;subst hc hd;have hT:Heap.IsTuple (Shared.heap ⟨hp,g,d,tk,os⟩) l us:=ht
  wp_walk using VT hl
  refine wpAny_stack_any λst=>Jd ?_;split
  ·rename_i c _ _ _ _ _
   cases(c == Value.type "enumerate")
   ·wp_walk using VT hl,wpAny_pyIter_tuple hT
    exact⟨Z,h⟩
   ·wp_walk using VT hl,wpAny_pyIter_tuple hT
    exact⟨Z,h⟩
  ·wp_walk using VT hl,wpAny_pyIter_tuple hT
   exact⟨Z,h⟩
def rn(b:Bool){l:μ}{us:ζ}{Q:EV}(hl:Z_ b s.heap l us)
  (q:∀ g,IsEnum g 7.2 ⇑s 0 .none->LY b g ⇑s l 0->(∀ c o,s.heap.get? c≈o->g.get? c≈o)->Q (.ref 7.2) {s with heap:=g}):
  wpAny 0.6 A (call (.type "enumerate") [.ref l]) Q E s:=by
 cases b with
 | true=>exact call_enumerate_list (show s.heap.IsList l us from hl) λg h1 h2 _ h4=>q g h1 h2 h4
 | false =>
  refine callType_new PySem.F.called_enumerate 0.2 (PySem.F.typeCall_enumerate_1 _) (PySem.F.newCall_enumerate_1 _) (λobj=>PySem.F.args_object_init_2 obj _) PySem.F.entry_enumerate_new (vB l us) ⟨hl,?_⟩;have n1:(Vn s.heap l).objs.size=⇑s + 1:=IB ..;show _/\_;rw[n1];have he:IsEnum ((Vn s.heap l).push {cls:=.type "enumerate",data:=.fields #[.none,.bool false,.ref ⇑s,rawInt 0,.none,.none] }) 7.2 ⇑s 0 .none:=by
   have:=Yk (Vn s.heap l) (o:={cls:=.type "enumerate",data:=.fields #[.none,.bool false,.ref ⇑s,rawInt 0,.none,.none] }) rfl;rw[n1]at this;exact this
  exact⟨⟨_,he,Y⟩,q _ he ⟨_,Yb _ (Yk _ rfl),Y,Y⟩ λc o x=>Yb _ (Yb _ x)⟩
end
def fm{prog:χ}{w:World}{A:Around}{E:EV}{s:ε}{e p:μ}{i:Int}{old:δ}{Q:OU->ε->Prop}(hh:A.handled=none)(he:IsEnum s.heap e p i old)
  (nx:∀(Q:EV) (E:EV),(∀ g e,Heap.ExtBut p s.heap g->(∃ o,g.get? e≈o/\o.cls=.type "StopIteration")->E (.ref e) {s with heap:=g})->wpAny 0.6 A.in1 (Builtin.SmallTypes.nextOf (.ref p)) Q E s)
  (q:∀ g,Heap.ExtBut p s.heap g->Q none {s with heap:=g}):wpAny 0.6 A (pyNext (.ref e)) Q E s:=by
 have hT:s.TypeIs (.ref e) "enumerate":=⟨_,he,Y⟩;unfold pyNext;refine Ja (wpAny_attempt (wpAny_callSpecial?_slot (name:=Str.ofString "__next__") hT PySem.F.slot_enumerate_next (wpAny_call_entry PySem.F.slot_enumerate_next hT PySem.F.entry_enumerate_next ?_ (PySem.F.args_enumerate_next_1 _))));show wpAny _ _ (field (.ref e) 2>>=_) _ _ _;refine Ja (Jg he rfl (x:=.ref p) rfl (Ja (nx _ _ λg x eb hx=>?_)));obtain⟨o,ho,hc⟩:=hx;refine Ja (wpAny_isInstance (T:="StopIteration") (b:=true) ⟨o,ho,hc⟩ isSubtype_stop ?_);exact Jd (q _ eb)
def uT{P:χ}{w:World}{K:Fg}{elts:τ}{x1}{pos:Pos}{xs:LV}(b:Bool)(a e p:μ)(ep:e≠p)(ea:e≠a)(ap:a≠p):
  Ga P w K (.Tuple elts x1 pos) (R8 (MA xs) λH=>CF K b H a xs) [e,p] e (λi h=>(∃ old,IsEnum h e p i old)/\LY b h p a i) where
 mem:=by simp
 obj:=λi h st c hc=>by
  have GZ:c=e\/c=p:=by simpa using hc
  obtain⟨⟨old,he⟩,si⟩:=st
  rcases GZ with rfl | rfl
  ·exact⟨_,he,λv q=>by cases q⟩
  ·exact si.obj
 keep:=λi h h' st k=>by
  obtain⟨⟨old,he⟩,si⟩:=st;exact⟨⟨old,k e 1.1 _ he⟩,si.at λo q=>k p 1.1 o q⟩
 item:=by
  intro X hP hw hK hc i ρ s σ H E I hf st hg;subst hP hw hK;obtain⟨hi,ha⟩:=hg;obtain⟨⟨old,he⟩,si⟩:=st;obtain⟨pr,hp⟩:∃ p,(MA xs)[i]?≈p:=⟨(MA xs)[i]'hi,Yu hi⟩;obtain⟨e1,hx⟩:=YC hp;obtain⟨ν,rv,sq⟩:=I.sseq ha;obtain⟨u,hu,ru⟩:=rv.get hx;have hil:i<ν.toArray.size:=by rw[YD]at hi;have:=↑rv;simp;omega
  have D:=r_ (prog:=X.prog) (w:=X.w) (A:=X.A.in1) b 6.0 p a ap ν.toArray;refine wpAny_pyNext_enum_itemD D he ⟨si,sq⟩ hil ep (by simp;exact⟨ep,ea⟩) λx g tk hPx ho hst hT _ hk=>?_;have exu:x=u:=by
   have h1:ν.toArray[i]?≈x:=hPx;have h2:ν.toArray[i]?≈u:=by simpa using hu
   rw[h1]at h2;exact Yt h2
  subst exu;refine⟨Z,?_⟩;refine wpAny_letOwnedTupleGo_enum (s:={s with heap:=g,toks:=tk + 1}) ho λg' Kk sb=>?_;have elt:e<⇑s:=Yh he;have plt:p<⇑s:=let⟨o,q,_⟩:=si.obj;Yh q;have Vx:Heap.ExtBut e g g':=sb.extBut;have JV:IsPair g' ⇑s (.int i tk) x:=Vx _ _ (CJ elt) hT;have I1:Inv X ρ σ (upd H ⇑s (.tup [pr.1,pr.2])) {s with heap:=g',toks:=tk + 1}:=I.turnedNewL (t':=tk + 1) (ν:=[e,p]) (λc o hc q=>Vx c o 5.4 (hk c o 5.4 5.4 q)) hf (Ye _)
   ⟨W,[.int i tk,x],.cons (by rw[e1];exact⟨tk,Y⟩) (.cons ru .nil),⟨_,JV,Y,Z⟩⟩
  refine⟨.ref ⇑s,_,I1,Y,⟨⇑s,pr,hp,I.hok.fresh (Ye _),Y,Y⟩,⟨⟨x,by simpa using Kk⟩,hst.1.at λo q=>Vx _ o (Yz ep) q⟩,λc hc=>?_⟩;have GZ:c=e\/c=p:=by simpa using hc
  have ne:c≠⇑s:=by
   rcases GZ with rfl | rfl
   ·exact Ys elt
   ·exact Ys plt
  rw[AD ne];exact(hf c hc).1
 done:=by
  intro X hP hw hK hc i ρ s σ H E I hf st hg;subst hP hw hK;obtain⟨hi,ha⟩:=hg;obtain⟨⟨old,he⟩,si⟩:=st;obtain⟨ν,rv,sq⟩:=I.sseq ha;have hl:=↑rv;rw[YD]at hi;cases b with
  | true =>
   have si:s.heap.IsListIter p a i:=si;have sq:s.heap.IsList a ν.toArray:=sq;refine fm 6.0 he (λQ E hE=>wpAny_nextOf_list_end 6.0 si sq (by simp;omega) hE) λg eb=>⟨Y,I.turnedL (t':=s.toks) (ν:=[e,p]) (λc o hc q=>eb c o 5.4 q) hf⟩
  | false =>
   have si:s.heap.IsTupleIter p a i:=si;have sq:s.heap.IsTuple a ν.toArray:=sq;refine fm 6.0 he (λQ E hE=>jj 6.0 si sq (by simp;omega) hE) λg eb=>⟨Y,I.turnedL (t':=s.toks) (ν:=[e,p]) (λc o hc q=>eb c o 5.4 q) hf⟩
 self:=λA i s Q E st h=>let⟨⟨_,he⟩,_⟩:=st;wpAny_pyIter_enum he h
section
variable {X:Cx}
inductive lA(K:Fg)(H:Hp)(R:It->Hp->Prop)(vs:LV)(H1:Hp):Prop
 | mk:∀(b:Bool) (a:μ) (xs:LV),vs=[.ref a]->CF K b H1 a xs->R (R8 (MA xs) λH=>CF K b H a xs) H1->lA K H R vs H1
def Ybf(K:Fg)(ta:TA):TI:=λσ H R=>ta σ H λvs H1=>lA K H R vs H1
def gF{elts:τ}{x1}{Fd:Pos}{a:Expr}{ta:TA}{p pos:Pos}(hg:Gl X "enumerate")(hm:X.mg "enumerate"=none)(ha:PA X [a] ta)(hs:starEach [a] X.env=[(false,eval a X.env)]:=by rfl):
  PI X (.Tuple elts x1 Fd) (.Call (.Name "enumerate" p) [a] [] pos) (Ybf X.K ta):=by
 intro ρ s σ H R I h;refine Call_ (K2 I hg hm boot_enumerate (Oq (AK (ha pos ρ s σ H _ I h) λus s1 ⟨vs,H1,I1,r1,q1⟩=>?_) hs rfl));obtain⟨b,l,xs,e,t1,q⟩:=q1;subst e;cases r1 with
 | cons r rr =>
  cases rr;obtain rfl:_=Value.ref l:=r;obtain⟨ν,rv,sq⟩:=I1.sseq t1;have Pf:l<⇑s1:=by
   cases b with
   | true=>obtain⟨_,e,_⟩:=(show s1.heap.IsList l ν.toArray from sq);exact Yh e
   | false=>obtain⟨_,e,_⟩:=(show s1.heap.IsTuple l ν.toArray from sq);exact Yh e
  refine rn b sq λg he si hk=>wpAny_pyIter_enum (s:={s1 with heap:=g}) he ?_;refine⟨_,[⇑s1 + 1,⇑s1],_,_,H1,Y,I1.kept (t':=s1.toks) λb o e=>hk b o e,uT b l _ _ (Nat.succ_ne_self _) (CJ (Nat.lt_succ_of_lt Pf)) (Ys Pf),⟨⟨_,he⟩,si⟩,λc hc=>?_,q⟩;have GZ:c=⇑s1 + 1\/c=⇑s1:=by simpa using hc
  have ge:⇑s1<=c:=by
   rcases GZ with rfl | rfl
   ·exact Nat.le_add_right _ _
   ·exact Ye _
  exact I1.fpOk ge (I1.hok.fresh ge)
end
end L2
namespace L2
open PySem PySem.Spec PyProof.Rows PySem.W
def mK{A:Around}{k:Nat}(hr:AZ k A):A.units + 65<cLine:=by have:=hr.un;omega
def YZ{κ:Type}[DecidableEq κ]{π:List (κ×V)}{k:κ}(h:k∉π.map 0.5):BG π k=none:=by
 cases e:BG π k with
 | none=>rfl
 | some v=>exact absurd (gR e) h
def jR{κ:Type}[DecidableEq κ]{π:List (κ×V)}{k:κ}{v:V}(h:k∉π.map 0.5):(Al π k v).map 0.5=π.map 0.5++[k]:=by
 rw[Jy v (YZ h),B6];rfl
def jD{α:Type}{l:List α}(nd:l.Nodup){i:Nat}{x:α}(h:l[i]?≈x):x∉l.take i:=by
 intro m;have hi:=(Yg.mp h).1;have e:=(Yg.mp h).2;have sp:l=l.take i++l.drop i:=(List.take_append_drop i l).symm;rw[sp]at nd;have q:=(List.nodup_append.mp nd).2.2 x m;refine q x ?_ rfl;rw[List.drop_eq_getElem_cons hi,e];exact CT
def iX{ps:List (V×V)}{Ok:Hp->Prop}{g:TG}{tb:TS}{D:Dl}{σ:St}{H:Hp}(Pv:NW)(h0:Pv 0 σ H)(hl:∀ i σ H,i<=↑ps->Pv i σ H->Ok H)
  (hs:∀ i p t σ H,ps[i]?≈p->Pv i σ H->H t=none->g (.ref t) σ (upd H t (.tup [p.1,p.2])) λσ2 H2=>tb {D with nx:=Pv 4.6,ct:=Pv 4.6,bk:=D.nx} σ2 H2) (hd:∀ σ H,Pv ↑ps σ H->D.nx σ H):
  ∃ W:Nat->Nat->St->Hp->Prop,(∃ m,W 0 m σ H)/\∀ i m σ H,W i m σ H ->
   ((R8 ps Ok).stop i H/\D.nx σ H)\/((R8 ps Ok).go i H/\∃ N:SW,5.3/\∀ x H',(R8 ps Ok).yld i H x H'->g x σ H' λσ2 H2=>tb {D with nx:=N,ct:=N,bk:=D.nx} σ2 H2):=by
 refine⟨λi m σ H=>m=↑ps - i/\i<=↑ps/\Pv i σ H,⟨↑ps,by simp,BN _,h0⟩,?_⟩;rintro i m σ H ⟨rfl,hi,p⟩;have q:=hl i σ H hi p;by_cases Bb:i<↑ps
 ·refine .inr ⟨⟨Bb,q⟩,Pv 4.6,λσ' H' p'=>⟨↑ps - 4.6,V,Y,Bb,p'⟩,λx H' y=>?_⟩;obtain⟨t,pr,hp,ht,rfl,rfl⟩:=y;exact hs i pr t σ H hp p ht
 ·have e:i=↑ps:=by omega
  subst e;exact .inl ⟨⟨Ye _,q⟩,hd σ H p⟩
abbrev g2(K:Fg)(i j:Nat):TG:=U9 K 2 (L4 (DJ i) (L4 (DJ j) Z1))
def Za{K:Fg}{i j:Nat}{t:μ}{x y:V}{σ:St}{H:Hp}{R:SW}(h:AH K H t [x,y])(q:R ((σ.set i (↥x)).set j (↥y)) H):g2 K i j (.ref t) σ H R :=
 ⟨t,[x,y],Y,h,Y,x,[y],Y,y,[],Y,Y,q⟩
def k7{K:Fg}{i j:Nat}{t:μ}{x y:V}{σ:St}{H:Hp}{R:SW}(q:R ((σ.set i (↥x)).set j (↥y)) (upd H t (.tup [x,y]))):g2 K i j (.ref t) σ (upd H t (.tup [x,y])) R :=
 Za (AH.of uS) q
def Jq{X:Cx}{K:Fg}{i j:Nat}{x y:Str}{p q pos:Pos}{c:Nat}(hK:X.K=K)(hc:X.calm=true)(hN:X.N.Nodup)(hi:X.N[i]?≈x)(hj:X.N[j]?≈y)(hx:Loc X.env.scope x)(hy:Loc X.env.scope y)
  (fx:X.fn x=true\/X.env.scope.names.lookup x≈.local) (fy:X.fn y=true\/X.env.scope.names.lookup y≈.local):PG X (.Tuple [.Name x p,.Name y q] c pos) (g2 K i j):=by
 subst hK;exact CO hc (gC (CB (i:=i) hN hi hx fx) (gC (CB (i:=j) hN hj hy fy) CQ))
def AJ{H:Hp}{t:μ}{o:HO}(h:H t=none):AA H (upd H t o):=λb u e=>by rw[AD (AI e h)];exact e
def jf{α:Type}(p:α->Bool):∀(xs:List α) (i:Nat) (x:α),xs[i]?≈x->(xs.take 4.6).filter p=(xs.take i).filter p++if p x=true then[x]else[]:=by
 intro xs i x h;rw[Yq,h,List.filter_append]
 congr 1
 cases e:p x <;> simp[List.filter,e]
theorem RL{α:Type}{f:α->V}:∀ {xs:List α}{ys:LV},Paired (λx v=>v=f x) xs ys->ys=xs.map f
 | _,_,.nil=>rfl
 | _,_,.cons r t=>by rw[Yr,r,RL t]
def Q_{J:It}{xs:LV}{Ok:Hp->Prop}(R:E_ J xs Ok){js:LN}{tt:TT}{te:TE}{σ:St}{Q:VK}{H1:Hp}(hz:↑xs<=sizeLine)(p:V->Bool)(f:V->V)
  (hok:∀ H,AA H1 H->Ok H)
  (ht:∀ x H (R:Bool->Hp->Prop),AA H1 H->x∈xs->(∀ H',AA H H'->R (p x) H')->tt (↥x :: js.map λj=>(σ[j]?).join) H R)
  (he:∀ x H (R:V->Hp->Prop),AA H1 H->x∈xs->p x=true->(∀ H',AA H H'->R (f x) H')->te (↥x :: js.map λj=>(σ[j]?).join) H R)
  (hd:∀ D H',H1 D=none->AA H1 H'->H' D≈(.lst ((xs.filter p).map f))->Q (.ref D) H'):
  Ai 1 js (DJ 0) tt te σ Q J H1 :=
 gX R hz p (λ_ x v _=>v=f x) (λ_ _ _ _ _ _ z=>z) hok ht (λD x H R hs _ _ hx hp k=>he x H R hs hx hp λH' s'=>k _ _ s' rfl)
  λD H' ys hD hs hl hp=>hd D H' hD hs (by rw[hl,RL hp])
section
variable {X:Cx}
theorem eQ{d:Dat}{n:Nat}(h2:kqdOk n d=true):∀ {ds:List Dat},ds.all (kqdOk 8)=true->((kqdPs ds).any λy=>PyData.eqv y (kqdP d))=ds.any λe=>ES e d
 | [],_=>by rw[kqdPs];rfl
 | e :: ds,h=>by
  rw[LX,Fc]at h;rw[kqdPs,J7,J7,Tz h.1 h2,eQ h2 h.2]
def Yex(K:Fg)(f:Bool->Bool):R2:=λx y H Q=>∃ d ds,Rep K H x d/\Rep K H y (.list ds)/\kqdOk 9 d=true/\ds.all (kqdOk 8)=true/\Q (.bl (f (ds.any λe=>ES e d))) H
def hW{ds:List Dat}(h:ds.all (kqdOk 8)=true):SeqAt.shaped (PyData.list (kqdPs ds))=true:=by
 have:=Jz (d:=.list ds) (by rw[kqdOk];exact h);rw[kqdP]at this;exact this
def w_(hu:X.A.units + 65<cLine):Bd X (compareOp .In) (Yex X.K id):=by
 exfalso;obtain⟨d,ds,h1,h2,k1,k2,q⟩:=h;obtain⟨as,ra⟩:=h1.reads I rx;obtain⟨bs,rb⟩:=h2.reads I ry;rw[kqdP]at rb;exact SeqAt.in_list_reads rb ra (VO (hW k2)) (VO (Jz k1)) (room_in_shaped (Jz k1) hu) (Bg I q (by rw[eQ k1 k2];rfl))
end
end L2
namespace L2
open PySem PySem.Spec PyProof.Rows
section
variable {X:Cx}
end
end L2
namespace L2
open PySem PySem.W PySem.Spec PyProof.Rows
theorem iF:∀ {ds:List Dat}{m:Nat}{e:Dat},ds[m]?≈e->(kqdPs ds)[m]?≈(kqdP e)
 | [],_,_,h=>by simp at h
 | a :: r,0,e,h=>by
  rw[kqdPs];have:a=e:=by simpa using h
  rw[this];rfl
 | a :: r,m + 1,e,h=>by
  rw[kqdPs,List.getElem?_cons_succ];exact iF (by simpa using h)
theorem ic:∀ ds:List Dat,↑(kqdPs ds)=↑ds
 | []=>by rw[kqdPs];rfl
 | a :: r=>by rw[kqdPs,CS,CS,ic r]
section
variable {X:Cx}
def yd(K:Fg):V->LV->Hp->VK->Prop:=λx vs H Q=>∃ y d ds j e,vs=[y]/\Rep K H x (.list ds)/\Rep K H y d/\ds.all (kqdOk 8)=true/\kqdOk 9 d=true/\↑ds<=100000/\ds[j]?≈e/\ES e d=true/\(∀ m e,m<j->ds[m]?≈e->ES e d=false)/\Q (.int (j:Nat)) H
def tP(hu:X.A.units + 65<cLine):M0 X "list.index" (yd X.K):=by
 intro ρ s σ H x vs v us Q I rx rv h;obtain⟨y,d,ds,j,e,rfl,h1,h2,k1,k2,hz,he,hd,hno,q⟩:=h;obtain⟨u,rfl,ru⟩:=rv.one;obtain⟨as,ra⟩:=h1.reads I rx;obtain⟨bs,rb⟩:=h2.reads I ru;rw[kqdP]at ra;have dD:=VO (hW k1);have hdl:=VO (Jz k2);cases ra with
 | @list l ob ν n _ _ a1 a2 a3 a4 =>
  obtain⟨cls,dd,data,sl⟩:=ob;simp only at a2 a3;subst a2 a3;have hm:=SeqAt.readsAll_map _ _ _ dD a4;have hml:ν.size=↑ds:=by
   have:=congrArg List.length hm;rw[Ya,ic]at this;simpa using this
  have bX:∀ m (e:Dat),ds[m]?≈e->kqdOk 8 e=true:=λm e h=>Cb.mp k1 e (Yc h);have val:∀ m (e:Dat) (Po:m<ν.size),ds[m]?≈e->PyData.eqv (SeqAt.readOf s.heap ν[m]) (kqdP d)=ES e d:=λm e Po h=>by
   have e1:=iF h;rw[<- hm,Yn]at e1;have e2:ν.toList[m]?≈ν[m]:=by simp[Po]
   rw[e2]at e1;have e1:SeqAt.readOf s.heap ν[m]=kqdP e:=Yt e1;rw[e1];exact Tz (bX m e h) k2
  have hj:j<ν.size:=by have:=(Yg.mp he).1;omega
  refine call_meets PySem.F.slot_list_index ⟨_,a1,Y⟩ PySem.F.entry_list_index (PySem.F.args_list_index_2 _ _)
   (SeqAt.list_indexAt l ν n dd sl u (λy=>PyData.eqv (SeqAt.readOf s.heap y) (kqdP d)) j hj 0.0 ?_ ?_) ⟨a1,SeqAt.items_eqAt a4 rb dD hdl (room_in_shaped (Jz k2) hu),?_⟩
  ·show PyData.eqv (SeqAt.readOf s.heap ν[j]) (kqdP d)=true;rw[val j e hj he];exact hd
  ·intro m Po Bb;show PyData.eqv (SeqAt.readOf s.heap ν[m]) (kqdP d)=false;have h0:ds[m]?≈(ds[m]' 0.0):=Yu 0.0;rw[val m _ Po h0];exact hno m _ Bb h0
  ·exact⟨.int j,H,I.tok _,⟨Z⟩,q⟩
end
end L2
namespace L2
open PySem PySem.Spec PyProof.Rows
def Mh(h:Heap)(d:μ)(es:Array DictEntry)(ep:Nat):Prop:=∃ o,h.get? d≈o/\o.ExactDict/\o.data=.dict es ep
def Mh.at{h h':Heap}{d:μ}{es:Array DictEntry}{ep:Nat}(x:Mh h d es ep)(k:∀ o,h.get? d≈o->h'.get? d≈o):Mh h' d es ep:=let⟨o,e,r⟩:=x;⟨o,k o e,r⟩
section
variable {prog:χ}{w:World}{A:Around}{E:EV}{s:ε}{d it:μ}{es:Array DictEntry}{ep i:Nat}
def vp(hs:(d == sysModules)=false):MeetsIn prog w (Builtin.«dict.items» ⟨[.ref d],[]⟩) (λ_ R s=>s.TypeIs (.ref d) "dict" /\
   R (.ok (.ret (.ref ⇑s))) {s with heap:=s.heap.push {cls:=.type "dict_items",data:=.fields #[.ref d] } }):=
 .of_wp λA R s ⟨T,h⟩=>by
  unfold Builtin.«dict.items»;refine Ja ?_;unfold Builtin.Dict.noArgs;refine Ja (wpAny_notOrdered_dict T ?_);show wpAny _ _ (pure d) _ _ s;refine Jd ?_;show wpAny _ _ (Builtin.Dict.showsAll d>>=_) _ _ s;unfold Builtin.Dict.showsAll;rw[if_neg (by rw[hs];simp)];exact Ja (Jd (Ja (wpAny_newObj_type (Jd ⟨Z,h⟩))))
def va{v:μ}{Q:EV}(hv:s.heap.IsItemsView v d)(x:Mh s.heap d es ep)
  (q:Q (.ref ⇑s) {s with heap:=s.heap.push {cls:=.type "dict_itemiterator",data:=.fields #[.none,.bool false,.ref d,.int 0 0,.int es.size 0,.int ep 0,.none,.none] } }):
  wpAny 0.6 A (pyIter (.ref v)) Q E s:=by
 obtain⟨ov,e1,c1,d1⟩:=id hv;obtain⟨o,e,c,da⟩:=id x;have T:=hv.typeIs;have own:Builtin.Dict_items.ownsTuple "dict_itemiterator"=true:=by decide
 refine wpAny_pyIter_slot T F.slot_dict_items_iter (wpAny_call_entry F.slot_dict_items_iter T F.entry_dict_items_iter ?_ (F.args_dict_items_iter_1 _));unfold Builtin.«dict_items.__iter__»;refine Ja (Jd (Ja ?_));unfold Builtin.Dict_items.dictOf;refine Ja (Jg e1 d1 (x:=.ref d) rfl (Jd (Ja ?_)));unfold Builtin.Dict_items.newIterator;refine Ja (wpAny_dictEntries e da (Ja (wpAny_dictEpoch e da ?_)));simp only[own,if_true];refine wpAny_newObj_type (Jd ⟨Z,"dict_itemiterator",_,⟨_,Yk _ rfl,Y⟩,Rk.lookup,?_⟩) (by simp only[sizeOk,Builtin.Dict_items.ownedTupleFields,Yj,Ym,CS,Rm,sizeLine_eq];omega);simpa[rawInt,Builtin.Dict_items.ownedTupleFields]using q
def ve{ok ov:δ}{Q:OU->ε->Prop}{en:DictEntry}(hit:IsItemIter s.heap it d i es.size ep ok ov)(x:Mh s.heap d es ep)(hx:es[i]?≈en)
  (q:∀ g,IsItemIterOut g it d 4.6 es.size ep en.key en.val ⇑s->g.get? ⇑s=some {cls:=.type "tuple",data:=.seq #[en.key,en.val] } ->
   (∀ b o,b≠it->s.heap.get? b≈o->g.get? b≈o)->Q (↥(.ref ⇑s)) {s with heap:=g}):wpAny 0.6 A (pyNext (.ref it)) Q E s:=by
 obtain⟨hp,g,dr,tk,os⟩:=s;obtain⟨o,e,c,da⟩:=id x;have T:Shared.TypeIs ⟨hp,g,dr,tk,os⟩ (.ref it) "dict_itemiterator":=⟨_,hit,Y⟩;have own:Builtin.Dict_items.ownsTuple "dict_itemiterator"=true:=by decide
 unfold pyNext;refine Ja (wpAny_attempt (wpAny_callSpecial?_slot (name:=Str.ofString "__next__") T Rk 14.5));refine Ja (Jd (Ja (Ja ?_)));first | refine Ja 10.0 | refine Ja 11.8
 refine Ja (wpAny_fieldsOf hit rfl ?_);simp only[own,if_true];show wpAny _ _ (if(Value.ref d == Value.none)=true then _ else _) _ _ _;rw[if_neg (show ¬ ((Value.ref d == Value.none)=true)from by intro z;cases z)];refine Ja (Jd (Ja (wpAny_dictEntries e da ?_)));rw[if_neg 1.1];refine Ja (Jd (Ja (wpAny_dictEpoch e da ?_)));rw[if_neg 1.1];refine Jd ?_;simp only[show ¬ ((i:Int)<0)from by omega,if_false,Mt,hx];refine Ja ?_;first | refine Ja 10.0 | refine Ja 11.8
 refine Ja (wpAny_isOneOf_itemiter T ?_);show wpAny _ _ (setField (.ref it) 3 (rawInt ((i:Int) + 1))>>=_) _ _ ⟨hp,g,dr,tk,os⟩;refine Ja (wpAny_setField_rec hit 1.1 λg1 z1 e1=>?_);replace e1:Heap.SameBut it hp g1:=e1;replace z1:IsItemIter g1 it d 4.6 es.size ep ok ov:=by
  have q1:((i + 1:Nat):Int)=(i:Int) + 1:=by omega
  unfold IsItemIter;rw[q1];simpa[rawInt]using z1
 have T1:Shared.TypeIs ⟨g1,g,dr,tk,os⟩ (.ref it) "dict_itemiterator":=⟨_,z1,Y⟩;refine Ja (Jj (Ja (wpAny_isOneOf_itemiter T1 (Ja (wpAny_isOneOf_itemiter T1 ?_)))));show wpAny _ _ (Builtin.Dict_items.pairFromOwner (.ref it) 6 en.key en.val) _ _ ⟨g1,g,dr,tk,os⟩;unfold Builtin.Dict_items.pairFromOwner;refine Ja (wpAny_newTuple ?_);have z2:IsItemIter (g1.push {cls:=.type "tuple",data:=.seq #[en.key,en.val] }) it d 4.6 es.size ep ok ov:=Yb _ z1;generalize WJ:g1.push {cls:=.type "tuple",data:=.seq #[en.key,en.val] }=g2 at z2;have n1:g1.objs.size=hp.objs.size:=e1.1;have il:it<hp.objs.size:=Yh hit;have t2:g2.get? hp.objs.size=some {cls:=.type "tuple",data:=.seq #[en.key,en.val] }:=by rw[<- WJ,<- n1];exact Yk _ rfl
 have k2:∀ b o,b≠it->hp.get? b≈o->g2.get? b≈o:=λb o hb e=>by rw[<- WJ];exact Yb _ (e1.extBut b o hb e)
 show wpAny _ _ (Builtin.Dict_items.ownedTupleIsFree (.ref it)>>=_) _ _ ⟨g2,g,dr,tk,os⟩;rw[n1];clear WJ z1 e1 T1 n1 g1;refine Ja ?_;unfold Builtin.Dict_items.ownedTupleIsFree;refine Ja (Jg z2 rfl (x:=.none) rfl (Jd ?_));simp only[if_true];refine Ja (Jg z2 rfl (x:=ok) rfl (Ja (Jg z2 rfl (x:=ov) rfl (Ja (wpAny_setField_rec z2 1.1 λg3 z3 e3=>?_)))));replace e3:Heap.SameBut it g2 g3:=e3;replace z3:IsItemIter g3 it d 4.6 es.size ep en.key ov:=z3;refine Ja (wpAny_setField_rec z3 1.1 λg4 z4 e4=>?_);replace e4:Heap.SameBut it g3 g4:=e4;replace z4:IsItemIter g4 it d 4.6 es.size ep en.key en.val:=z4;refine Ja (wpAny_setField_rec z4 1.1 λg5 z5 e5=>?_);replace e5:Heap.SameBut it g4 g5:=e5;replace z5:IsItemIterOut g5 it d 4.6 es.size ep en.key en.val hp.objs.size:=z5;refine Ja (wpAny_setField_rec z5 1.1 λg6 z6 e6=>?_);replace e6:Heap.SameBut it g5 g6:=e6;replace z6:IsItemIterOut g6 it d 4.6 es.size ep en.key en.val hp.objs.size:=z6;have up:∀ b o,b≠it->g2.get? b≈o->g6.get? b≈o:=λb o hb e=>e6.extBut b o hb (e5.extBut b o hb (e4.extBut b o hb (e3.extBut b o hb e)));exact Ja (wpAny_letGo (Jd (Jd ⟨Z,Jd (q g6 z6 (up _ _ (CJ il) t2) λb o hb e=>up b o hb (k2 b o hb e))⟩)))
def vd{ok ov:δ}{Q:OU->ε->Prop}(hh:A.handled=none)(hit:IsItemIter s.heap it d i es.size ep ok ov)(x:Mh s.heap d es ep)(hx:es.size<=i)
  (q:∀ g,Heap.ExtBut it s.heap g->Q none {s with heap:=g}):wpAny 0.6 A (pyNext (.ref it)) Q E s:=by
 obtain⟨o,e,c,da⟩:=id x;have T:s.TypeIs (.ref it) "dict_itemiterator":=⟨_,hit,Y⟩;have own:Builtin.Dict_items.ownsTuple "dict_itemiterator"=true:=by decide
 unfold pyNext;refine Ja (wpAny_attempt (wpAny_callSpecial?_slot (name:=Str.ofString "__next__") T Rk 14.5));refine Ja (Jd (Ja (Ja ?_)));first | refine Ja 10.0 | refine Ja 11.8
 refine Ja (wpAny_fieldsOf hit rfl ?_);simp only[own,if_true];show wpAny _ _ (if(Value.ref d == Value.none)=true then _ else _) _ _ s;rw[if_neg (show ¬ ((Value.ref d == Value.none)=true)from by intro z;cases z)];refine Ja (Jd (Ja (wpAny_dictEntries e da ?_)));rw[if_neg 1.1];refine Ja (Jd (Ja (wpAny_dictEpoch e da ?_)));rw[if_neg 1.1];refine Jd ?_;simp only[show ¬ ((i:Int)<0)from by omega,if_false,Mt,Array.getElem?_eq_none hx];refine Ja ?_;first | refine Ja 10.0 | refine Ja 11.8
 show wpAny _ _ (setField (.ref it) 2 .none>>=_) _ _ s;refine Ja (wpAny_setField hit rfl 1.1 ?_);show wpAny _ _ (newExc (.type "StopIteration") []>>=_) _ _ _;refine Ja ?_;simp only[newExc,newTuple];refine Ja (wpAny_newObj_type (Ja (m:=firstArgMember _ _) (wpAny_of_eq (a:=Value.none) (by first | rfl | (simp only[firstArgMember];rfl)) (wpAny_newObj_type ?_ (by size_fits)))) (by size_fits));simp only[raiseNew];refine Ja (wpAny_handled ?_);rw[show A.in1.handled=none from hh];refine Ja (Jd (wpAny_throw ?_));refine Ja (wpAny_isInstance (T:="StopIteration") (b:=true) ⟨_,Yk _ rfl,Y⟩ isSubtype_stop ?_);exact Jd (q _ (((Heap.SameBut.update ..).extBut.push _).push _))
end
section
variable {X:Cx}{ρ:PL}{σ:St}{H H':Hp}{s:ε}{a:μ}{π:List 4.9}{o:Obj}
def Inv.freezeT(I:Inv X ρ σ H s)(h:H a≈(.dT π))(ho:s.heap.get? a≈o):Inv X ρ σ (upd H a (.frz o (.dT π))) s:=by
 have nf:∀ o' v,X.H₀ a≠some (.frz o' v):=λo' v e=>by
  have q:=I.base.frzs a o' v e;rw[h]at q;cases q
 refine I.reAt h (λ_ z=>nomatch z) (λ_ z=>nomatch z) (λ_ z=>nomatch z) nf λk=>⟨ho,k.stay (λ_ _ _ q=>q) (λc q=>?_) λc xs q=>?_⟩
 ·rw[AD]
  ·exact q
  ·rintro rfl;rw[h]at q;cases q
 ·rw[AD]
  ·exact q
  ·rintro rfl;rw[h]at q;cases q
theorem Paired.get{α β:Type}{F:α->β->Prop}:∀ {l:List α}{m:List β},Paired F l m->∀ {i:Nat}{x:α},l[i]?≈x->∃ y,m[i]?≈y/\F x y
 | _,_,.nil,i,x,h=>by simp at h
 | _,_,.cons r t,0,x,h=>by
  simp at h;subst h;exact⟨_,by simp,r⟩
 | _,_,.cons r t,i + 1,x,h=>by
  obtain⟨y,h1,h2⟩:=Paired.get t (i:=i) (x:=x) (by simpa using h);exact⟨y,by simpa using h1,h2⟩
def sI{P:χ}{w:World}{h:Heap}(ok:BI P w H h a (.frz o (.dT π))):∃ es ep,o.data=.dict es ep:=by
 obtain⟨ho,z,hs,xs,r,o',JY,JZ,h1,h2,h3,_⟩:=ok;rw[ho]at h1;cases h1;exact⟨JY,JZ,h3⟩
def Xp{P:χ}{w:World}{h:Heap}{es:Array DictEntry}{ep:Nat}(ok:BI P w H h a (.frz o (.dT π)))(hd:o.data=.dict es ep):
  9.1=false/\Mh h a es ep/\es.size=↑π/\∀(i:Nat) (p:List Key×V),π[i]?≈p->∃ t u hs,es[i]?≈(⟨hs,.ref t,u⟩:DictEntry)/\H t≈(.tup (p.1.map kV))/\Aj p.2 u:=by
 obtain⟨ho,z,hs,xs,r,o',JY,JZ,h1,h2,h3,h4,h5⟩:=ok;rw[ho]at h1;cases h1;rw[hd]at h3;cases h3;refine⟨hs,⟨o,ho,h2,hd⟩,?_,λi p hp=>?_⟩
 ·rw[size_of_entries h4];exact(Yi r).symm
 ·obtain⟨y,hy,e1,e2,e3⟩:=Paired.get r hp;exact⟨y.2.1,y.2.2,_,by rw[entry_at h4,hy];rfl,e2,e3⟩
end
def Ra(a:μ)(o:Obj)(π:List 4.9):It :=
 ⟨λi H=>i<↑π/\H a≈(.frz o (.dT π)),λi H v H'=>∃ t b p,π[i]?≈p/\H t=none/\H b≈(.tup (p.1.map kV))/\v=.ref t/\H'=upd H t (.tup [.ref b,p.2]),λi H=>↑π<=i/\H a≈(.frz o (.dT π))⟩
def vI{P:χ}{w:World}{K:Fg}{elts:τ}{x1}{pos:Pos}(a it:μ)(o:Obj)(π:List 4.9)(es:Array DictEntry)(ep:Nat)(hd:o.data=.dict es ep):
  Ga P w K (.Tuple elts x1 pos) (Ra a o π) [it] it (λi h=>∃ ok ov,IsItemIter h it a i ↑π ep ok ov) where
 mem:=by simp
 obj:=λi h st b hb=>by
  have e:b=it:=by simpa using hb
  subst e;obtain⟨ok,ov,st⟩:=st;exact⟨_,st,λv z=>by cases z⟩
 keep:=λi h h' st k=>by
  obtain⟨ok,ov,st⟩:=st;exact⟨ok,ov,k it 1.1 _ st⟩
 item:=by
  intro X hP hw hK hc i ρ s σ H E I hf st hg;subst hP hw hK;obtain⟨f0,f1,f2,f3,f4,f5⟩:=hf it 1.1;obtain⟨hi,ha⟩:=hg;obtain⟨ok,ov,st⟩:=st;obtain⟨_,PX,hl,ge⟩:=Xp (I.hok a _ ha) hd;obtain⟨p,hp⟩:∃ p,π[i]?≈p:=⟨π[i],by simp[hi]⟩;obtain⟨b0,u,hs,hu,Py,ru⟩:=ge i p hp;rw[<- hl]at st;refine ve st PX hu λh' B8 ht keep=>?_;refine⟨Z,?_⟩;refine wpAny_letOwnedTupleGo_items (s:={s with heap:=h' }) B8 λP6 M8 sb=>?_;have itlt:it<⇑s:=Yh st;have tne:⇑s≠it:=CJ itlt;have AU:P6.get? ⇑s=some {cls:=.type "tuple",data:=.seq #[.ref b0,u] }:=sb.extBut _ _ tne ht;have I1:Inv X ρ σ (upd H ⇑s (.tup [.ref b0,p.2])) {s with heap:=P6 }:=I.turnedNew (t':=s.toks) (λb o hb e=>sb.extBut b o hb (keep b o hb e)) f0 f1 f3 f4 f5 (Ye _)
   ⟨W,[.ref b0,u],.cons rfl (.cons ru .nil),⟨_,AU,Y,Z⟩⟩
  refine⟨.ref ⇑s,_,I1,Y,⟨⇑s,b0,p,hp,I.hok.fresh (Ye _),Py,Y,Y⟩,⟨_,_,by rw[<- hl];exact M8⟩,λb hb=>?_⟩;have e:b=it:=by simpa using hb
  subst e;rw[AD (Yz tne)];exact(hf b 1.1).1
 done:=by
  intro X hP hw hK hc i ρ s σ H E I hf st hg;subst hP hw hK;obtain⟨f0,f1,f2,f3,f4,f5⟩:=hf it 1.1;obtain⟨hi,ha⟩:=hg;obtain⟨ok,ov,st⟩:=st;obtain⟨_,PX,hl,ge⟩:=Xp (I.hok a _ ha) hd;rw[<- hl]at st;exact vd 6.0 st PX 0.0 λh' eb=>⟨Y,I.turned (t':=s.toks) 5.8 f0 f1 f3 f4 f5⟩
 self:=λA i s Q E st h=>by
  obtain⟨ok,ov,st⟩:=st;exact W.kcp_self st h
inductive kM(t:TS)(D:Dl)(σ:St)(H:Hp):Prop
 | mk:∀ a π,H a≈(.dT π)->(∀ o,t D σ (upd H a (.frz o (.dT π))))->kM t D σ H
def Xw{X:Cx}{sts:List Stmt}{t:TS}(h:CK X sts t):CK X sts (kM t):=by
 intro ρ s σ H D I q;obtain⟨a,π,ha,q⟩:=q;obtain⟨o,ho⟩:∃ o,s.heap.get? a≈o:=by
  obtain⟨_,_,xs,_,o,_,_,e,_⟩:=I.hok a _ ha;exact⟨o,e⟩
 exact h ρ s σ _ D (I.freezeT ha ho) (q o)
section
variable {X:Cx}{tg:Expr}
def n9(R:Obj->Hp->Prop)(H:Hp)(a:μ)(π:List 4.9):Prop :=
 (H a≈(.dT π)/\∀ ob,R ob (upd H a (.frz ob (.dT π))))\/∃ ob,H a≈(.frz ob (.dT π))/\R ob H
def atT{ρ:PL}{σ:St}{H:Hp}{s:ε}{a:μ}{π:List 4.9}{R:Obj->Hp->Prop}(I:Inv X ρ σ H s)(h:n9 R H a π):
  ∃ ob H',Inv X ρ σ H' s/\H' a≈(.frz ob (.dT π))/\R ob H':=by
 rcases h with⟨h,q⟩ | ⟨ob,h,q⟩
 ·obtain⟨o,ho⟩:∃ o,s.heap.get? a≈o:=by
   obtain⟨_,_,xs,_,o,_,_,e,_⟩:=I.hok a _ h;exact⟨o,e⟩
  exact⟨o,_,I.freezeT h ho,uS,q o⟩
 ·exact⟨ob,H,I,h,q⟩
inductive h_(R:It->Hp->Prop)(x:V)(H1:Hp):Prop
 | mk:∀ a π,x=.ref a->n9 (λob H'=>R (Ra a ob π) H') H1 a π->h_ R x H1
def yB(to:TE):TI:=λσ H R=>to σ H λx H1=>h_ R x H1
def i0{elts:τ}{x1}{Fd:Pos}{o:Expr}{to:TE}{apos AQ:Pos}(ho:PE X o to)(Bm:attributeBase o "items" X.env (eval o X.env)=eval o X.env:=by rfl)(Bl:8.3=true:=by rfl):
  PI X (.Tuple elts x1 Fd) (.Call (.Attribute o "items" apos) [] [] AQ) (yB to):=by
 intro ρ s σ H R I h;refine wpAny_Call_method0_late Bm Bl (AK (ho ρ s σ H _ I h) λv s1 ⟨x,H0,I0,r1,q1⟩=>?_);obtain⟨a,π,e,q⟩:=q1;subst e;obtain rfl:v=Value.ref a:=r1;obtain⟨ob,H1,I1,ha,q⟩:=atT I0 q;obtain⟨t1,t2,t3⟩:=Tw I1 (.inr ⟨π,.inr ⟨ob,ha⟩⟩);obtain⟨es,ep,hd⟩:=sI (I1.hok a _ ha);obtain⟨hs,PX,hl,ge⟩:=Xp (I1.hok a _ ha) hd;refine⟨"dict","dict.items",VS,Oy,Zv,t1,t2,Ox rfl (Ro ?_)⟩;refine call_meetsIn Oy t1 Zn (Zq _) (vp t3) ⟨t1,?_⟩;have I2:Inv X ρ σ H1 {s1 with heap:=s1.heap.push {cls:=.type "dict_items",data:=.fields #[.ref a] } }:=I1.kept (t':=s1.toks) λb o e=>Yb _ e;refine va (es:=es) (ep:=ep) ⟨_,Yk _ rfl,Y,Y⟩ (PX.at λo e=>Yb _ e) ?_;refine⟨_,[_],_,_,H1,Y,I2.kept (t':=s1.toks) λb o e=>Yb _ e,vI a _ ob π es ep hd,⟨.none,.none,?_⟩,λb hb=>?_,q⟩
 ·rw[<- hl];exact Yk _ rfl
 ·have e:b=_:=Yf.mp hb;subst e;exact I2.fpOk (Ye _) (I2.hok.fresh (Ye _))
end
def jN{a:μ}{o:Obj}{π:List 4.9}{g:TG}{tb:TS}{D:Dl}{σ:St}{H:Hp}(Pv:NW)(h0:Pv 0 σ H)(hl:∀ i σ H,i<=↑π->Pv i σ H->H a≈(.frz o (.dT π)))
  (hs:∀ i p t b σ H,π[i]?≈p->Pv i σ H->H t=none->H b≈(.tup (p.1.map kV))->g (.ref t) σ (upd H t (.tup [.ref b,p.2])) λσ2 H2=>tb {D with nx:=Pv 4.6,ct:=Pv 4.6,bk:=D.nx} σ2 H2) (hd:∀ σ H,Pv ↑π σ H->D.nx σ H):
  ∃ W:Nat->Nat->St->Hp->Prop,(∃ m,W 0 m σ H)/\∀ i m σ H,W i m σ H ->
   ((Ra a o π).stop i H/\D.nx σ H)\/((Ra a o π).go i H/\∃ N:SW,5.3/\∀ x H',(Ra a o π).yld i H x H'->g x σ H' λσ2 H2=>tb {D with nx:=N,ct:=N,bk:=D.nx} σ2 H2):=by
 refine⟨λi m σ H=>m=↑π - i/\i<=↑π/\Pv i σ H,⟨↑π,by simp,BN _,h0⟩,?_⟩;rintro i m σ H ⟨rfl,hi,p⟩;have q:=hl i σ H hi p;by_cases Bb:i<↑π
 ·refine .inr ⟨⟨Bb,q⟩,Pv 4.6,λσ' H' p'=>⟨↑π - 4.6,V,Y,Bb,p'⟩,λx H' y=>?_⟩;obtain⟨t,b,pr,hp,ht,hb,rfl,rfl⟩:=y;exact hs i pr t b σ H hp p ht hb
 ·have e:i=↑π:=by omega
  subst e;exact .inl ⟨⟨Ye _,q⟩,hd σ H p⟩
def iT{K:Fg}{J:It}{xs:LV}{Ok:Hp->Prop}(R:E_ J xs Ok){js:LN}{tt:TT}{te:TE}{σ:St}{Q:VK}{H1:Hp}(hz:↑xs<=sizeLine)(p:V->Bool)(F:μ->V->V->Hp->Prop)(l r:V->V)
  (hF:∀ D x v H H',13.4->F D x v H->F D x v H')
  (hok:∀ H,AA H1 H->Ok H) (hp:∀ x∈xs,∃ t,x=.ref t/\H1 t≈(.tup [l x,r x]))
  (ht:∀ x H (R:Bool->Hp->Prop),AA H1 H->x∈xs->(∀ H',AA H H'->R (p x) H')->tt (↥(l x):: some (r x):: js.map λj=>(σ[j]?).join) H R)
  (he:∀ D x H (R:V->Hp->Prop),AA H1 H->(∃ ys,H D≈(.lst ys))->H1 D=none->x∈xs->p x=true->(∀ v H',AA H H'->F D x v H'->R v H')->te (↥(l x):: some (r x):: js.map λj=>(σ[j]?).join) H R)
  (hd:∀ D H' ys,H1 D=none->AA H1 H'->H' D≈(.lst ys)->Paired (λx v=>F D x v H') (xs.filter p) ys->Q (.ref D) H'):
  Ai 2 js (g2 K 0 1) tt te σ Q J H1:=by
 refine MX R hz (λD i ys σ' H=>H1 D=none/\AA H1 H/\H D≈(.lst ys)/\Paired (λx v=>F D x v H) 13.7 ys/\∃ o u,σ'=o :: u :: js.map λj=>(σ[j]?).join) ?_ ?_ ?_ ?_
 ·intro D hD;exact⟨hD,AJ hD,uS,by simpa using Paired.nil,none,none,Y⟩
 ·rintro D i ys σ' H hi ⟨hD,hs,hl,q,_⟩;refine⟨hok H hs,?_⟩;rw[<- ↑q];exact BU (Rj _ _) (by rw[Yy];omega)
 ·rintro D i x ys σ' H hD hx ⟨_,hs,hl,q,o,u,rfl⟩;have mono:∀ {H H':Hp},13.4->Paired (λx v=>F D x v H) 13.7 ys->Paired (λx v=>F D x v H') 13.7 ys:=λh q=>Paired.mapP q λa b z=>hF D a b _ _ h z;have hm:x∈xs:=Yc hx;obtain⟨t,rfl,hxt⟩:=hp x hm;refine Za (AH.of (hs _ _ hxt)) ?_;show tt (↥(l (.ref t)):: some (r (.ref t)):: js.map λj=>(σ[j]?).join) H _;refine ht (.ref t) H _ hs hm λH4 s4=>?_;have Lj:=hs.trans s4;cases hpx:p (.ref t)with
  | true =>
   rw[if_pos rfl];refine he D (.ref t) H4 _ Lj ⟨_,s4 _ _ hl⟩ hD hm hpx λv H5 s5 f5=>⟨s5 _ _ (s4 _ _ hl),hD,λb o e=>?_,uS,?_,_,Z⟩
   ·rw[AD (AI e hD)];exact s5 _ _ (Lj _ _ e)
   ·rw[jf p xs i _ hx,hpx,if_pos rfl];exact Cu (mono (λb o hb e=>by rw[AD hb];exact s5 _ _ (s4 _ _ e)) q) (hF D _ _ _ _ (λb o hb e=>by rw[AD hb];exact e) f5)
  | false =>
   rw[if_neg Yl];refine⟨hD,Lj,s4 _ _ hl,?_,_,Z⟩;rw[jf p xs i _ hx,hpx,if_neg Yl,Dv];exact mono (λb o _ e=>s4 _ _ e) q
 ·rintro D ys σ' H hD ⟨_,hs,hl,q,_⟩;rw[Yx]at q;exact hd D H ys hD hs hl q
structure HV(h:Heap)(e T:μ)(cls:δ)(dx:Option μ)(fl:δ):Prop where
 ne:T≠e
 obj:∃ oe vs,h.get? e≈oe/\oe.cls=cls/\oe.dict=dx/\oe.data=.fields vs/\vs[1]?≈(.ref T)
 tb:∃ oT ts,h.get? T≈oT/\oT.data=.fields ts/\ts[3]?≈fl
structure A3(S R:ξ)(h h':Heap):Prop where
 sz:h.objs.size<=h'.objs.size
 keep:∀ b o,h.get? b≈o->b∉S->b∉R->h'.get? b≈o
 slot:∀ b o,h.get? b≈o->b∉R->∃ sl,h'.get? b=some {o with slots:=sl}
 there:∀ b o,h.get? b≈o->∃ o',h'.get? b≈o'
def A3.mono{S S' R R':ξ}{h h':Heap}(c:A3 S R h h')(hs:∀ b∈S,b∈S')(hr:∀ b∈R,b∈R'):A3 S' R' h h' :=
 ⟨c.sz,λb o e n1 n2=>c.keep b o e (λz=>n1 (hs b z)) λz=>n2 (hr b z),λb o e n=>c.slot b o e λz=>n (hr b z),c.there⟩
def A3.trans{S R:ξ}{h h1 h2:Heap}(a:A3 S R h h1)(b:A3 S R h1 h2):A3 S R h h2 :=
 ⟨BU a.sz b.sz,λc o e n1 n2=>b.keep c o (a.keep c o e n1 n2) n1 n2,λc o e n=>by
  obtain⟨sl,e1⟩:=a.slot c o e n;obtain⟨PR,e2⟩:=b.slot c _ e1 n;exact⟨PR,e2⟩,λc o e=>by
  obtain⟨o1,e1⟩:=a.there c o e;exact b.there c o1 e1⟩
def A3.drop{S R:ξ}{h h':Heap}{t:μ}(c:A3 S (t :: R) h h')(ht:h.objs.size<=t):A3 S R h h' :=
 ⟨c.sz,λb o e n1 n2=>c.keep b o e n1 λz=>(Yv.mp z).elim (λq=>absurd (Yh e) (by rw[q];exact Nat.not_lt.mpr ht)) n2,
  λb o e n=>c.slot b o e λz=>(Yv.mp z).elim (λq=>absurd (Yh e) (by rw[q];exact Nat.not_lt.mpr ht)) n,c.there⟩
def vo(f:ζ->ζ)(o:Obj):(Obj.mapFields f o).dict=o.dict:=by
 obtain⟨c,d,dt,sl⟩:=o;cases dt <;> rfl
def A3.setF{h:Heap}{T:μ}{oT:Obj}{ts:ζ}{f:ζ->ζ}(hT:h.get? T≈oT)(hd:oT.data=.fields ts):A3 [] [T] h (h.update T (Obj.mapFields f)):=by
 have other:∀ b,b≠T->(h.update T (Obj.mapFields f)).get? b=h.get? b:=λb hb=>IA _ _ (Yz hb);refine⟨Nat.le_of_eq (Heap.size_after_update ..).symm,λb o e _ n=>(other b λz=>n (by simp[z])).trans e,λb o e n=>⟨o.slots,(other b λz=>n (by simp[z])).trans e⟩,λb o e=>?_⟩;by_cases hb:b=T
 ·subst hb;exact⟨_,Gq _ hT (Rz (Oj hd _))⟩
 ·exact⟨o,(other b hb).trans e⟩
def A3.entry{S:ξ}{h g:Heap}{e:μ}{oe nb:Obj}{vs ts:ζ}{fl:δ}(sl:Heap.SlotsOnly S h g)(ns:e∉S)(he:h.get? e≈oe)(hd:oe.data=.fields vs)(hsz:1<vs.size)(hnb:nb.data=.fields ts)(h3:ts[3]?≈fl):
  HV ((g.push nb).update e 10.9) e g.objs.size oe.cls oe.dict fl/\A3 S [e] h ((g.push nb).update e 10.9):=by
 have ge:g.get? e≈oe:=(sl.2.1 e ns).trans he;have apart:g.objs.size≠e:=CJ (Yh ge);have pe:(g.push nb).get? e≈oe:=Yb nb ge;have data:=Oj hd λr=>r.setIfInBounds 1 (Value.ref g.objs.size);have self:=Gq (Obj.mapFields λr=>r.setIfInBounds 1 (Value.ref g.objs.size)) pe (Rz data);have BF:∀ b o,b≠e->g.get? b≈o->((g.push nb).update e 10.9).get? b≈o:=λb o n q =>
  (IA _ _ λz=>n z.symm).trans (Yb nb q)
 have tnew:(g.push nb).get? g.objs.size≈nb:=Yk g (Rz hnb);refine⟨⟨apart,⟨_,_,self,Obj.cls_mapFields _ _,vo _ _,data,by simp[hsz]⟩,⟨nb,ts,(IA _ _ λz=>apart z.symm).trans tnew,hnb,h3⟩⟩,⟨?_,λb o q n1 n2=>?_,λb o q n=>?_,λb o q=>?_⟩⟩
 ·rw[Heap.size_after_update,IB,sl.1];omega
 ·exact BF b o (λz=>n2 (z ▸ CT)) ((sl.2.1 b n1).trans q)
 ·obtain⟨k,r⟩:=sl.2.2 b o q;exact⟨k,BF b _ (λz=>n (z ▸ CT)) r⟩
 ·obtain⟨k,r⟩:=sl.2.2 b o q;by_cases z:b=e
  ·subst z;exact⟨_,self⟩
  ·exact⟨_,BF b _ z r⟩
section
variable {M:Model}{A:Around}{E:EV}{s:ε}
def gv{base:Heap}{env:Env}{outer:List Env}{L e:μ}{oe:Obj}{vs:ζ}{head:δ}{hadNext:Bool}{Q:Unit->ε->Prop}
  (hfr:A.frames≈(env :: outer)) (hl:s.heap.FunFrames base (env :: outer)) (hf:env.frame≈L) (he:s.heap.get? e≈oe) (hd:oe.data=.fields vs) (hsz:1<vs.size)
  (h:∀ h' T,⇑s<=T->HV h' e T oe.cls oe.dict (rawInt L)->A3 (C0 (env :: outer)) [e] s.heap h'->Q () {s with heap:=h' }):
  wpAny M A (frameOf env>>=λa=>entryPlaceOf L hadNext>>=λpl=>EntryCells.newEntry head a .none (rawInt L) .none pl>>=λb=>setField (.ref e) 1 b) Q E s:=by
 have nf:e∉C0 (env :: outer):=λm=>by
  have q:=(hl.mem m).2;rw[he]at q;obtain⟨_,r1,r2⟩:=q;cases r1;exact r2 vs hd
 apply Ja;refine wpAny_frameOf_fun hfr hl hf λg1 Vw=>Ja (wpAny_entryPlaceOf λpl place=>Ja ?_);have three:∀ xs:LU,IsPlace xs->([head,Value.ref L,.none,rawInt L,.none]++(if xs.isEmpty then List.replicate 6 Value.none else xs)).toArray[3]?≈(rawInt L):=λxs _=>by simp
 have laid:=A3.entry (nb:={cls:=.type "traceback",data:=.fields ([head,.ref L,.none,rawInt L,.none]++(if pl.isEmpty then List.replicate 6 Value.none else pl)).toArray}) Vw nf he hd hsz rfl (three pl place);refine wpAny_newObj_type (wpAny_setField (Yb _ ((Vw.2.1 e nf).trans he)) hd hsz ?_) (place.sizeOk5 _ _ _ _ _);exact h _ _ (Nat.le_of_eq Vw.1.symm) laid.1 laid.2
def UQ{e T:μ}{cls fl:δ}{dx:Option μ}{Q:Unit->ε->Prop}(a:HV s.heap e T cls dx fl)
  (h:∀ h',HV h' e T cls dx .none->A3 [] [T] s.heap h'->Q () {s with heap:=h' }):wpAny M A (setFlight (.ref e) none) Q E s:=by
 obtain⟨ne,⟨oe,vs,he,hc,hdx,hd,h1⟩,⟨oT,ts,hT,hdT,h3⟩⟩:=a;obtain⟨SO,_⟩:=Va.mp h3;have some_:(Value.ref T != Value.none)=true:=by simp
 unfold setFlight;apply Ja;apply Jg he hd h1;rw[if_pos some_];refine wpAny_setField hT hdT SO (h _ ⟨ne,⟨oe,vs,(IA _ _ ne).trans he,hc,hdx,hd,h1⟩,⟨_,_,Gq _ hT (Rz (Oj hdT _)),Oj hdT _,by simp[SO]⟩⟩ (A3.setF hT hdT))
def ik{base:Heap}{env:Env}{outer:List Env}{L e T:μ}{cls:δ}{dx:Option μ}{Q:Unit->ε->Prop}
  (hfr:A.frames≈(env :: outer)) (hl:s.heap.FunFrames base (env :: outer)) (hf:env.frame≈L) (a:HV s.heap e T cls dx .none)
  (h:∀ h' T',⇑s<=T'->HV h' e T' cls dx (rawInt L)->A3 (C0 (env :: outer)) [e,T] s.heap h'->Q () {s with heap:=h' }):wpAny M A (noteFrame (.ref e) env) Q E s:=by
 obtain⟨ne,⟨oe,vs,he,hc,hdx,hd,h1⟩,⟨oT,ts,hT,hdT,h3⟩⟩:=a;subst hc hdx;have some_:(Value.ref T != Value.none)=true:=by simp
 have apart:¬ (Value.none == rawInt L)=true:=by simp[rawInt]
 have c1:A3 [] [T] s.heap (s.heap.update T (Obj.mapFields λr=>r.setIfInBounds 3 Value.none)):=A3.setF hT hdT;have kept:∀ b o,s.heap.get? b≈o->b≠T->(s.heap.update T (Obj.mapFields λr=>r.setIfInBounds 3 Value.none)).get? b≈o:=λb o q n=>c1.keep b o q 3.7 λz=>n (Yf.mp z);unfold noteFrame;simp only[hf];apply Ja;apply Jg he hd h1;rw[if_pos some_];apply Ja;apply Jg hT hdT h3;rw[if_neg apart];apply Ja;refine wpAny_setField hT hdT (Va.mp h3).1 ?_;refine gv hfr (hl.of_keeps λb o q nf=>⟨o,kept b o q λz=>by subst z;rw[hT]at q;cases q;exact nf ts hdT,Y⟩) hf (kept e oe he λz=>ne z.symm) hd (Va.mp h1).1 λh' T' JV a' c'=>?_;exact h h' T' (BU c1.sz JV) a' ((c1.mono (λb z=>nomatch z) λb z=>by simp at z;simp[z]).trans (c'.mono (λb z=>z) λb z=>by simp at z;simp[z]))
def rm{base:Heap}{env:Env}{outer:List Env}{L e:μ}{oe:Obj}{vs:ζ}{Q:Unit->ε->Prop}
  (hfr:A.frames≈(env :: outer)) (hl:s.heap.FunFrames base (env :: outer)) (hf:env.frame≈L) (he:s.heap.get? e≈oe) (hd:oe.data=.fields vs) (h1:vs[1]?≈.none)
  (h:∀ h' T,⇑s<=T->HV h' e T oe.cls oe.dict .none->A3 (C0 (env :: outer)) [e] s.heap h'->Q () {s with heap:=h' }):wpAny M A (leaving env (.ref e)) Q E s:=by
 unfold leaving noteFrame;simp only[hf];apply Ja;apply Ja;apply Jg he hd h1;rw[if_neg 0.2];refine gv hfr hl hf he hd (Va.mp h1).1 λh' T hT a c=>?_;refine UQ a λh2 a2 c2=>h h2 T hT a2 ?_;have c3:A3 (C0 (env :: outer)) [T,e] s.heap h2:=(c.mono (λb z=>z) λb z=>by simp at z;simp[z]).trans (c2.mono (λb z=>nomatch z) λb z=>by simp at z;simp[z]);exact c3.drop hT
def zA{base:Heap}{env:Env}{outer:List Env}{L e T:μ}{cls:δ}{dx:Option μ}{Q:Unit->ε->Prop}
  (hfr:A.frames≈(env :: outer)) (hl:s.heap.FunFrames base (env :: outer)) (hf:env.frame≈L) (a:HV s.heap e T cls dx .none)
  (h:∀ h' T',⇑s<=T'->HV h' e T' cls dx .none->A3 (C0 (env :: outer)) [e,T] s.heap h'->Q () {s with heap:=h' }):wpAny M A (leaving env (.ref e)) Q E s:=by
 unfold leaving;refine Ja (ik hfr hl hf a λh' T' hT a' c=>?_);refine UQ a' λh2 a2 c2=>h h2 T' hT a2 ?_;have c3:A3 (C0 (env :: outer)) [T',e,T] s.heap h2:=(c.mono (λb z=>z) λb z=>by simp at z;rcases z with z | z <;> simp[z]).trans (c2.mono (λb z=>nomatch z) λb z=>by simp at z;simp[z]);exact c3.drop hT
end
def Bk.chg{P:χ}{w:World}{H:Hp}{h h':Heap}{S R:ξ}(x:Bk P w H h)(c:A3 S R h h')(hS:∀ b∈S,H b=none)(hR:∀ b∈R,H b=none):Bk P w H h':=λa o e =>
 (x a o e).stay (λb u hb q=>by
  have hn:H b≠none:=by
   rcases hb with z | z
   ·rw[z,e];simp
   ·rw[z];simp
  exact c.keep b u q (λz=>hn (hS b z)) λz=>hn (hR b z)) (λ_ q=>q) λ_ _ q=>q
def Un.chg{fs ex S R:ξ}{H:Hp}{h h':Heap}(c:A3 S R h h')(hS:∀ b∈S,b∈fs)(hR:∀ b∈R,b∈ex):Un fs ex H H h h' :=
 ⟨λb o e n hb hx=>c.keep b o e (λz=>hb (hS b z)) λz=>hx (hR b z),λb o e n hb hx=>c.slot b o e λz=>hx (hR b z),λ_ _ _ n _=>n,λb o e _=>c.there b o e,λ_ _ q=>q,λ_ _ _ q=>q,λ_ ps q=>⟨#[],by rw[q];simp⟩⟩
def An(P:χ)(w:World):Et:=λouter H s E ev s'=>∃(e T:μ) (cls:δ) (dx:Option μ) (H':Hp),ev=.ref e/\s'.os=s.os/\AllBare s'.gens/\Un (C0 outer) [] H H' s.heap s'.heap/\Bk P w H' s'.heap /\
 H' e=none/\H' T=none/\⇑s<=e/\⇑s<=T/\HV s'.heap e T cls dx .none/\E cls dx H'
structure Ak(X:Cx)(E:XK):Prop where
 xe:X.xe=λe s'=>wpAny 0.3 X.A (leaving X.env e) (λ_ Ea=>An X.prog X.w X.outer X.H₀ X.s₀ E e Ea) (λe' Ea=>An X.prog X.w X.outer X.H₀ X.s₀ E e' Ea) s'
 stk:X.stack=X.env :: X.outer
 fr:X.env.frame≈X.env.locals
 ex:X.ex=[]
def Ak.of{P:χ}{w:World}{K:Fg}{mg:Str->OU}{base:Heap}{N:LS}{qual:Str}{scope:Scope}{f:μ}{cd:δ}{A:Around}{outer:List Env}{s:ε}{H:Hp}{E:XK} :
  Ak (LH 3.2 P w K mg base N qual scope f cd A outer s H E) E:=⟨Y,Y,Y,Y⟩
section
variable {X:Cx}{ρ:PL}{σ:St}{H:Hp}{s:ε}{E:XK}{e T:μ}{cls:δ}{dx:Option μ}
def Ak.old(F:Ak X E)(f:Dc X ρ H e):⇑X.s₀<=e:=by
 rcases f.2.2.2.1 with z | z
 ·rw[F.ex]at z;cases z
 ·exact z
def Ak.un{h':Heap}{R:ξ}(F:Ak X E)(I:Inv X ρ σ H s)(c:A3 (C0 X.stack) R s.heap h')(hR:∀ b∈R,⇑X.s₀<=b):Un X.fs [] X.H₀ H X.s₀.heap h':=by
 have B:=I.base;have hx:∀ b,b∉X.ex:=λb z=>by rw[F.ex]at z;cases z
 have ns:∀ b o,X.s₀.heap.get? b≈o->b∉X.fs->b∉C0 X.stack:=λb o q n z=>by
  rcases Yv.mp (I.stkSub b z)with r | r
  ·exact absurd (Yp (Yh q) (by rw[r];exact I.ok.above)) (Gu _)
  ·exact n r
 have nr:∀ b o,X.s₀.heap.get? b≈o->b∉R:=λb o q z=>absurd (Yp (Yh q) (hR b z)) (Gu _);refine⟨λb o q n hb _=>c.keep b o (B.keep b o q n hb (hx b)) (ns b o q hb) (nr b o q),λb o q n hb _=>?_,λb o q n _=>B.free b o q n (hx b),λb o q _=>?_,B.tups,B.frzs,B.tbls⟩
 ·obtain⟨sl,e1⟩:=B.slot b o q n hb (hx b);obtain⟨PR,e2⟩:=c.slot b _ e1 (nr b o q);exact⟨PR,e2⟩
 ·obtain⟨o1,e1⟩:=B.there b o q (hx b);exact c.there b o1 e1
def Ak.leave(F:Ak X E)(I:Inv X ρ σ H s)(fe:Dc X ρ H e)(fT:Dc X ρ H T)(a:HV s.heap e T cls dx .none)(h:E cls dx H):X.xe (.ref e) s:=by
 rw[F.xe];have hfr:X.A.frames≈(X.env :: X.outer):=by rw[<- F.stk];exact I.ok.frames
 have hl:s.heap.FunFrames X.base (X.env :: X.outer):=by rw[<- F.stk];exact I.stack
 refine zA hfr hl F.fr a λh' T' JV a' c=>?_;rw[<- F.stk]at c;exact⟨e,T',cls,dx,H,Y,I.os,I.bare,F.un I c λb z=>by simp at z;rcases z with z | z <;> rw[z];exact F.old fe;exact F.old fT,
  I.hok.chg c I.stkFree (λb z=>by simp at z;rcases z with z | z <;> rw[z];exact fe.1;exact fT.1),fe.1,I.hok.fresh JV,F.old fe,BU I.sz JV,a',h⟩
def Ak.raised{oe:Obj}{vs:ζ}(F:Ak X E)(I:Inv X ρ σ H s)(fe:Dc X ρ H e)(he:s.heap.get? e≈oe)(hd:oe.data=.fields vs)(h1:vs[1]?≈.none)(h:E oe.cls oe.dict H):X.xe (.ref e) s:=by
 rw[F.xe];have hfr:X.A.frames≈(X.env :: X.outer):=by rw[<- F.stk];exact I.ok.frames
 have hl:s.heap.FunFrames X.base (X.env :: X.outer):=by rw[<- F.stk];exact I.stack
 refine rm hfr hl F.fr he hd h1 λh' T' JV a' c=>?_;rw[<- F.stk]at c;exact⟨e,T',oe.cls,oe.dict,H,Y,I.os,I.bare,F.un I c λb z=>by simp at z;rw[z];exact F.old fe,
  I.hok.chg c I.stkFree (λb z=>by simp at z;rw[z];exact fe.1),fe.1,I.hok.fresh JV,F.old fe,BU I.sz JV,a',h⟩
def Bi(F:Ak X E):I_ (An X.prog X.w) X E:=by
 rintro ρ σ H s ev s' I ⟨e,T,cls,dx,H',rfl,os,bare,un,hok,he,hT,se,sT,a,h⟩;have I':Inv X ρ σ H' s':=I.call' (ch:=[]) os un hok bare λb z=>nomatch z;exact F.leave I' (I.fpOk se he) (I.fpOk sT hT) a h
end
def AV.any{P:χ}{w:World}{K:Fg}{mg:Str->OU}{base:Heap}{CX:Et}{k:Nat}{ps:LS}{sp:Sp}(F:AV P w K mg base IF k f fd ps sp):AV P w K mg base CX k f fd ps sp :=
 ⟨F.len,λA outer s H args us vs Q E hr he hb hv hs=>codeAny_mono (F.run A outer s H args us vs Q E hr he hb hv hs) λr s' hq=>by
  cases r with
  | error e=>exact False.elim hq
  | ok fl=>cases fl <;> exact hq⟩
def BK.ok1{P:χ}{w:World}{K:Fg}{mg:Str->OU}{base:Heap}{x qual:Str}{st:Stmt}{N ps:LS}{k:Nat}{sp:Sp}(F:BK K x qual st f fd)(S:Am N ps (AN st))(len:∀ vs H Q E,sp vs H Q E->↑vs=↑ps)
  (hbody:∀(BC:δ) (A:Around) (outer:List Env) (s:ε) (H:Hp) (vs:LV) (Q:VK) (E:XK),AZ k (A.deeper (envOfC qual (AN st) ⇑s f BC))->sp vs H Q E ->
   ∃ t,CK (LH 3.2 P w K mg base N qual (AN st) f BC A outer s H E) (DU st) t/\t {nx:=λ_ H'=>Q .non H',rt:=Q} (start N vs) H):AV P w K mg base 3.2 (k + 1) f fd ps sp:=by
 obtain⟨oc,od,kV,doc,pm,an,BC,ct,osl,rfl,lk,hcd⟩:=F.ex;refine jz lk hcd S len λA outer s H vs Q E hr hsp=>?_;exact hbody BC A outer s H vs Q E hr hsp
end L2
namespace L2
open PySem PySem.Spec
structure ExC(K:Fg)(C:μ):Prop where
 obj:∃ nm q N bs bm hdct sn sub ab col dd k0 k1 k2 k3 k5,K.lookup C≈(excClassObj nm q C N bs bm hdct sn sub ab col dd k0 k1 k2 k3 k5 "ValueError.__new__")
 val:W.subIn K (.ref C) (.type "ValueError")≈true
 bas:W.subIn K (.ref C) (.type "BaseException")≈true
 att:W.subIn K (.ref C) (.type "AttributeError")≈false
 nam:W.subIn K (.ref C) (.type "NameError")≈false
 kp:W.keepIn K (.ref C)=true
abbrev CN(C t:μ):Obj:={cls:=.ref C,data:=.fields #[.ref t,.none,.none,.none,.bool false,.none] }
abbrev En(us:LU):Obj:={cls:=.type "tuple",data:=.seq us.toArray}
section
variable {K:Fg}{prog:χ}{w:World}{A:Around}{E:EV}{h:Heap}{g:Array GenState}{d:Drawn}{t:Nat}{os:OsState}{C:μ}
def Jw{nm q:Str}{N:μ}{bs bm:LU}{hdct:Bool}{sn:LS}{sub:LU}{ab:Bool}{col:Option Bool}{dd:Option μ}{k0 k1 k2 k3 k5:OU}{nid:String}{x:δ}{b:Bool}
  (l:K.lookup C≈(excClassObj nm q C N bs bm hdct sn sub ab col dd k0 k1 k2 k3 k5 nid)) (e:W.subIn K (.ref C) x≈b):(Value.ref C :: bm).contains x=b:=by
 have e2:((W.clsIn K C).bind λcd=>if cd.mro.isEmpty=true then none else ↥(cd.mro.contains x))≈b:=e;have e3:W.clsIn K C=some {name:=nm,bases:=bs,mro:=.ref C :: bm,ns:=N,qualname:=q,hasDict:=hdct,slotNames:=sn,subclasses:=sub,abstract:=ab,collection:=col,hasDel:=false}:=by
  unfold W.clsIn;rw[l]
 rw[e3]at e2;exact Yt e2
def xq{BF:LU}{R:Result->ε->Prop}(X:K.In h)(c:ExC K C)(hrest:BF.length<=sizeLine)
  (hq:R (.ok (.ret (.ref (h.objs.size + 1)))) ⟨(h.push (En BF)).push (CN C h.objs.size),g,d,t,os⟩):
  codeAny 0.6 A (.builtin "ValueError.__new__" ⟨.ref C :: BF,[]⟩) R ⟨h,g,d,t,os⟩:=by
 obtain⟨nm,q,N,bs,bm,hdct,sn,sub,ab,col,dd,k0,k1,k2,k3,k5,lk⟩:=c.obj;have Fv:=Zr;have cV:=Jw lk c.val;have cA:=Jw lk c.att;have cN:=Jw lk c.nam;have hC:=X _ _ lk;have hends:=Fv.ends;refine codeAny_builtinAt Fv.entry ?_;unfold Builtin.«BaseException.__new__»;apply PySem.wpAt_bind;show PySem.wpAt _ _ _ (stack>>=_) _ _ _;apply PySem.wpAt_bind;refine PySem.wpAt_stack λp below=>PySem.wpAt_of_wpAny ?_
 wp_walk
 apply PySem.wpAt_of_wpAny;rw[Fv.owner]
 repeat (first | with_reducible refine wpAny_madeHere_exc Fv.canon hC ?_ | with_reducible refine Ji hC ?_ | (with_reducible refine wpAny_isSubtype_exc hC ?_;first | rw[cV] | rw[cA] | rw[cN]) | wp_step)
 show R _ _;rw[IB];exact hq
def Xk{BF:LU}{i:δ}{Q:EV}(X:K.In h)(c:ExC K C)(hi:W.findIn K (.ref C) "__init__"≈(↥i))
  (hb:∀ self,W.Looks 0.6 ((h.push (En BF)).push (CN C h.objs.size)) (bindSpecial i self) (i,[self])) (hrest:BF.length<=sizeLine)
  (hq:codeAny 0.6 (A.under (.builtin "type.__call__" ⟨.ref C :: BF,[]⟩)) (.call i ⟨.ref (h.objs.size + 1):: BF,[]⟩)
   (λr s'=>match r with | .ok (.ret v)=>v=.none/\Q (.ref (h.objs.size + 1)) s' | .ok _=>False | .error e=>E e s') ⟨(h.push (En BF)).push (CN C h.objs.size),g,d,t,os⟩):
  wpAny 0.6 A (call (.ref C) BF) Q E ⟨h,g,d,t,os⟩:=by
 obtain⟨nm,q,N,bs,bm,hdct,sn,sub,ab,col,dd,k0,k1,k2,k3,k5,lk⟩:=c.obj;have Fv:=Zr;have cV:=Jw lk c.val;have cS:(Value.ref C :: bm).contains (.ref C)=true:=by simp
 have hC:=X _ _ lk;have up:∀ b o,h.get? b≈o->((h.push (En BF)).push (CN C h.objs.size)).get? b≈o:=λb o e=>Yb _ (Yb _ e);have X1:K.In ((h.push (En BF)).push (CN C h.objs.size)):=X.keeps up;have qU:=X1 _ _ lk;have got:((h.push (En BF)).push (CN C h.objs.size)).get? (h.objs.size + 1)≈(CN C h.objs.size):=Ry (by rw[IB]) rfl;have f1:=tc_lookup;have f2:=tc_bind (.ref C);have hT:(⟨h,g,d,t,os⟩:ε).TypeIs (.ref C) "type":=⟨_,hC,Y⟩;have hstar:=Fv.noStar;apply wpAny_call;apply codeAny_of_tree;show wpAny _ _ (callAny (.ref C) _) _ _ _
 repeat (any_goals (first | assumption | with_reducible refine Ji hC ?_ | wp_step))
 constructor
 ·rfl
 apply codeAny_call_builtin_at (Code.quiet_builtin _ 1.2) entry_typeCall;apply wpAny_check_type_call_sub hC
 repeat (first | with_reducible refine Ji hC ?_ | with_reducible refine wpAny_madeBy_exc hC ?_ | wp_step)
 apply codeAny_call_builtin_code (Code.quiet_builtin _ Fv.quiet);simp only[checkBuiltinCall,Fv.newKind,Fv.newSplit,Fv.newRow]
 repeat (first | refine Ji hC ?_ | (refine wpAny_isSubtype_exc hC ?_;rw[cV]) | refine wpAny_staticBase_exc hC ?_ | refine wpAny_madeBy_exc hC ?_ | simp only[bne_self_eq_false,Oi,if_false] | wp_step)
 apply xq X c hrest;show wpAny _ _ _ _ _ _;apply Ja;unfold isInstance
 repeat (first | with_reducible refine Ji got ?_ | (with_reducible refine wpAny_isSubtype_exc qU ?_;rw[cS]) | wp_step)
 refine(W.looks_findIn (M:=model prog w) X1 hi).here ?_;apply Jj;apply Ja;refine(hb (.ref (h.objs.size + 1))).here ?_;apply Ja;apply wpAny_call;refine codeAny_mono hq λr s' q=>?_;cases r with
 | error e=>exact q
 | ok f =>
  cases f with
  | ret v =>
   obtain⟨rfl,q⟩:=q;apply Jd;show wpAny _ _ (ret (.ref (h.objs.size + 1))) _ _ _;exact Jd q
  | next=>exact q.elim
  | brk=>exact q.elim
  | cont=>exact q.elim
def iU{BF:LU}{R:Result->ε->Prop}{e t0:μ}(X:K.In h)(c:ExC K C)(he:h.get? e≈(CN C t0))(hrest:BF.length<=sizeLine)
  (hq:R (.ok (.ret .none)) ⟨(h.push (En BF)).update e (Obj.mapFields (·.setIfInBounds 0 (.ref h.objs.size))),g,d,t,os⟩):
  codeAny 0.6 A (.call (.builtin "ValueError.__init__") ⟨.ref e :: BF,[]⟩) R ⟨h,g,d,t,os⟩:=by
 obtain⟨nm,q,N,bs,bm,hdct,sn,sub,ab,col,dd,k0,k1,k2,k3,k5,lk⟩:=c.obj;have Fv:=Zr;have cV:=Jw lk c.val;have hC:=X _ _ lk;have hshort:=Fv.noStar;have chk:∀(a b:String) (n:Nat),Bind.check ⟨.positional,"*","ValueError",.self,[⟨"args",.varPos,false⟩]⟩ a b n (List.map (λx=>x.fst) ({pos:=Value.ref e :: BF}:Args).kw)=pure ():=λa b n=>check_star_args _ _ _ _ _ _;have Kj:(h.push (En BF)).get? e≈(CN C t0):=Yb _ he;apply codeAny_call_builtin Fv.init.plain Fv.initEntry;simp only[checkBuiltinCall,Fv.initKind,Fv.initSplit,Fv.initRow]
 repeat (first | with_reducible refine Ji he ?_ | with_reducible refine Ji hC ?_ | (with_reducible refine wpAny_isSubtype_exc hC ?_;rw[cV]) | wp_step)
 apply wpAny_onRaise;rw[chk];apply Jd
 wp_walk
 exact hq
def YW{env:Env}{x:Str}{np AQ pos:Pos}{args:τ}{s:ε}{Q:Flow->ε->Prop}(c:ExC K C)(hh:A.handled=none)
  (h1:wpAny 0.6 A (eval (.Call (.Name x np) args [] AQ) env) (λv s₁=>∃ e t0 dx sl,v=.ref e/\K.In s₁.heap /\
   s₁.heap.get? e≈⟨.ref C,dx,.fields #[.ref t0,.none,.none,.none,.bool false,.none],sl⟩/\E (.ref e) s₁) E s):
  wpAny 0.6 A (exec (.Raise (↥(.Call (.Name x np) args [] AQ)) none pos) env) Q E s:=by
 obtain⟨nm,q,N,bs,bm,hdct,sn,sub,ab,col,dd,k0,k1,k2,k3,k5,lk⟩:=c.obj;have cB:=Jw lk c.bas;rw[arm_exec_Raise];apply Ja;apply wpAny_standAt;unfold raiseStmt;apply Ja;show wpAny _ _ (do let v <- eval (.Call (.Name x np) args [] AQ) env;standAt pos;pure v) _ _ _;apply Ja;refine Jf h1 (λv s₁ h₁=>?_) λ_ _ z=>z;apply Ja;apply wpAny_standAt;apply Jd;obtain⟨e,t0,dx,sl,rfl,X,he,hE⟩:=h₁;obtain⟨hp,g,d,tk,os⟩:=s₁;have hC:=X _ _ lk
 repeat (first | with_reducible refine Ji he ?_ | with_reducible refine Ji hC ?_ | (with_reducible refine wpAny_isSubtype_exc hC ?_;rw[cB]) | wp_step)
 exact wpAny_raiseNew_none hh hE
end
end L2
namespace L2
open PySem PySem.Spec PySem.Builtin PySem.Builtin.ObjectAttr PySem.W
structure ExA(K:Fg)(C:μ):Prop extends ExC K C where
 ga:W.findIn K (.ref C) "__getattribute__"≈(↥(.builtin "BaseException.__getattribute__"))
 gt:W.findIn K (.ref C) "__getattr__"≈none
 ca:W.findIn K (.ref C) "__class__"≈(↥(.builtin "object.__class__"))
 cg:W.specialIn K (.builtin "object.__class__") "__get__"≈(↥(.builtin "getset_descriptor.__get__"))
 ct:W.takesIn K (.builtin "object.__class__")≈true
 ob:W.mroIn K C (.type "object")≈true
section
variable {K:Fg}{prog:χ}{w:World}{A:Around}{E:EV}{h:Heap}{g:Array GenState}{d:Drawn}{t:Nat}{os:OsState}{x C:μ}{ox:Obj}{od:Option Obj}{name:Str}
def sg{nameV:δ}{M:Model}{Q:Unit->ε->Prop}(X:K.In h)(c:ExC K C)(I:W.InstAt h x ox C od)(hq:Q () ⟨h,g,d,t,os⟩):
  wpAny M A (checkBuiltinCall "BaseException.__getattribute__" ⟨[.ref x,nameV],[]⟩) Q E ⟨h,g,d,t,os⟩:=by
 have hk:builtinKind "BaseException.__getattribute__"≈.slot:=by rfl'
 have hs:splitId "BaseException.__getattribute__"≈("BaseException","__getattribute__"):=by rfl'
 have ha:=PySem.F.args_bexc_ga (.ref x) nameV;have hi:W.Looks M h (isInstance (.ref x) (.type "BaseException")) true:=I.type.andThen (W.looks_subIn X c.bas);simp only[checkBuiltinCall,hk,hs];apply Ja;apply hi.at;simp only[Bool.not_true,Oi,if_false];exact wpAny_of_eq ha hq
def sk{tk:Tok}{Q:Fin->ε->Prop}{f:Found}(X:K.In h)(I:W.InstAt h x ox C od)(hf:W.Looks 0.6 h (find (.ref x) (.ref C) name) f)
  (hq:wpAny 0.6 A (match f with | .value v=>ret v | .bind g a=>bindTo g a (.ref x) (.ref C) | .missing=>unsupported "") Q E ⟨h,g,d,t,os⟩) (hm:f≠.missing):
  wpAny 0.6 A (Builtin.«object.__getattribute__» ⟨[.ref x,.str name tk],[]⟩) Q E ⟨h,g,d,t,os⟩:=by
 have L0:=I.type (M:=model prog w);unfold Builtin.«object.__getattribute__»;apply Ja;apply Jd;apply Ja;apply Jd;apply Ja;apply L0.at;apply Ja;apply hf.at;cases f with
 | value v=>exact hq
 | bind a b=>exact hq
 | missing=>exact absurd rfl hm
def kq{tk:Tok}{fill expr:Bool}{Q:EV}{f:Found}{v:δ}(X:K.In h)(c:ExA K C)(I:W.InstAt h x ox C od)(hf:W.Looks 0.6 h (find (.ref x) (.ref C) name) f)(hm:f≠.missing)
  (hq:∀ {A:Around} {E:EV} {Q:Fin->ε->Prop},Q (.done (.ret v)) ⟨h,g,d,t,os⟩->wpAny 0.6 A (match f with | .value v=>ret v | .bind g a=>bindTo g a (.ref x) (.ref C) | .missing=>unsupported "") Q E ⟨h,g,d,t,os⟩)
  (hh:handedIn v=true) (hv:Q v ⟨h,g,d,t,os⟩):wpAny 0.6 A (getAttrBy (.ref x) (.str name tk) fill expr) Q E ⟨h,g,d,t,os⟩:=by
 have L0:=I.type (M:=model prog w);have L1:=looks_findIn (M:=model prog w) X c.ga;have L2:=looks_findIn (M:=model prog w) X c.gt;have Ke:(expr&&onTheHeap (Value.builtin "BaseException.__getattribute__"))=false:=by cases expr <;> rfl
 have apart:(onTheHeap (Value.ref C)&&Value.builtin "BaseException.__getattribute__" == Value.builtin "object.__getattribute__")=false:=by
  rw[show(Value.builtin "BaseException.__getattribute__" == Value.builtin "object.__getattribute__")=false from by rfl'];rfl
 have f3:=PySem.F.attrBase_ValueError.ga.bind (.ref x);have body:∀ {A:Around} {R:Result->ε->Prop},R (.ok (.ret v)) ⟨h,g,d,t,os⟩->codeAny 0.6 A (.call (.builtin "BaseException.__getattribute__") ⟨[.ref x,.str name tk],[]⟩) R ⟨h,g,d,t,os⟩:=λ{A R} r =>
  codeAny_call_builtin PySem.F.attrBase_ValueError.ga.plain PySem.F.entry_bexc_ga (sg X c.toExC I (sk X I hf (hq r) hm))
 unfold getAttrBy;apply Jj;apply Ja;apply L0.at;apply Ja;apply L1.at;show wpAny _ _ (if(onTheHeap (Value.ref C)&&Value.builtin "BaseException.__getattribute__" == Value.builtin "object.__getattribute__")=true then _ else getAttrByItsOwn (.ref x) (.str name tk) (.ref C) (.builtin "BaseException.__getattribute__") fill expr) _ _ _;rw[if_neg (by rw[apart];exact Yl)];unfold getAttrByItsOwn;apply Ja;show wpAny _ _ (typeLookup (.ref C) "__getattr__") _ _ _;apply L2.at;apply Ja;apply wpAny_attempt;apply Jj;unfold callGetattribute;rw[if_neg (by rw[Ke];exact Yl)];unfold boundAndCalled;apply Ja;refine wpAny_of_eq f3 ?_;refine wpAny_call (body ?_);show wpAny _ _ (handedOut v) _ _ _;rw[handedOut_of hh];exact Jd hv
def xo(c:ExA K C):KitX K (.ref x) (.ref C) (λh=>InstAt h x ox C od) where
 ty:=λ_ _ _ I=>I.type
 it:=λ_ _ X _=>by
  obtain⟨nm,q,N,bs,bm,hdct,sn,sub,ab,col,dd,k0,k1,k2,k3,k5,lk⟩:=c.obj;intro A' Q' E' s' k q;unfold isType loadHead;apply Ja;apply wpAny_loadPart (k _ _ (X _ _ lk));exact Jd q
 ne:=λh tp dd ν n sl X e=>by
  obtain⟨nm,q,N,bs,bm,hdct,sn,sub,ab,col,dd,k0,k1,k2,k3,k5,lk⟩:=c.obj;have hC:=X _ _ lk;refine Bool.eq_false_iff.mpr λz=>?_;have z:C=tp:=Value.ref.inj (beq_iff_eq.mp z);rw[z,e]at hC;have q1:Value.type "tuple"=Value.type "type":=congrArg (λo=>Option.elim o Value.none Obj.cls) hC;exact absurd q1 0.2
 ca:=λ{prog w A E Q s} X I q=>by
  obtain⟨hh,g,d,t,os⟩:=s;have hcls:∃ cd,clsIn K C≈cd:=by
   obtain⟨nm,q,N,bs,bm,hdct,sn,sub,ab,col,dd,k0,k1,k2,k3,k5,lk⟩:=c.obj;unfold clsIn;rw[lk];exact⟨Z⟩
  obtain⟨cd,hcd⟩:=hcls;have hf:findObj K C od "__class__"≈(.bind (.builtin "getset_descriptor.__get__") (.builtin "object.__class__")):=by
   unfold findObj;rw[hcd,c.ca];dsimp only[Option.bind];rw[c.cg];dsimp only;rw[c.ct]
  unfold getAttr? getAttrBy?;apply Ja;apply wpAny_mkText;apply Ja;apply wpAny_attempt;refine kq X c I (looks_find X I hf) 3.7 (λ{A E Q} r=>?_) rfl (Jd q);show wpAny _ _ (bindTo (.builtin "getset_descriptor.__get__") (.builtin "object.__class__") (.ref x) (.ref C)) _ _ _;unfold bindTo;show wpAny _ _ (holding [.builtin "object.__class__"] (call (.builtin "getset_descriptor.__get__") [.builtin "object.__class__",.ref x,.ref C])>>=ret) _ _ _;apply Ja;apply Jj;exact wpAny_call (class_get (ox:=ox) (od:=od) X I c.ob (Jd r))
end
end L2
namespace L2
open PySem PySem.Spec PyProof.Rows
def XO(e C:μ)(dx:Option μ):HO:=.ext λh=>∃ o,h.get? e≈o/\o.cls=.ref C/\o.dict=dx/\W.notCls o=true
abbrev TF:=St->Hp->(Hp->Prop)->Prop
def PF(X:Cx)(e:Expr)(t:TF):Prop:=∀(ρ:PL) (s:ε) (σ:St) (H:Hp) (Q:Hp->Prop),Inv X ρ σ H s->t σ H Q ->
 wpAny 0.3 X.A (eval e X.env) (λu s'=>∃ y tk H',u=.str y tk/\↑y<=100000/\Inv X ρ σ H' s'/\Q H') X.xe s
def Vi(X:Cx)(es:τ)(t:TF):Prop:=∀(ρ:PL) (s:ε) (σ:St) (H:Hp) (Q:Hp->Prop) (acc:Str) (j:Nat),Inv X ρ σ H s->↑acc<=100000 * j->j + ↑es<=100->t σ H Q ->
 Joins 0.3 X.A X.xe (evalEach es X.env) acc (λout s'=>∃ H',↑out<=10000000/\Inv X ρ σ H' s'/\Q H') s
section
variable {X:Cx}{e:Expr}{es:τ}{te:TE}{t u:TF}{pos:Pos}
def z_(x:Str):TF:=λ_ H Q=>↑x<=100000/\Q H
def EW{x j}:PF X (.Constant (.str x) j pos) (z_ x):=λ_ _ _ H _ I h=>Calls.Constant_str ⟨x,_,H,Y,h.1,I.tok _,h.2⟩
inductive jy(Q:Hp->Prop)(v:V)(H1:Hp):Prop
 | mk:∀ i:Int,v=.int i->i.natAbs<2 ^ 64->Q H1->jy Q v H1
def Yfb(te:TE):TF:=λσ H Q=>te σ H λv H1=>jy Q v H1
def Qi{i:Int}(h:i.natAbs<2 ^ 64):i.natAbs.log2<1920:=by
 by_cases z:i.natAbs=0
 ·rw[z];decide
 ·exact HQ ((Nat.log2_lt z).mpr h) 0.2
def fY{i:Int}(h:i.natAbs<2 ^ 64):↑(Str.ofString (toString i))<=100000:=by
 have e:=PySem.int_text_length_le (k:=1920) 0.2 (Qi h);rw[PySem.ofString_length];omega
def MG(he:PE X e te):PF X (.FormattedValue e (-1) none pos) (Yfb te):=by
 ac_rfl;refine wpAny_FormattedValue_plain (AK (he ρ s σ H _ I h) λv s1 ⟨x,H1,I1,r1,i,ex,hi,q⟩=>?_);subst ex;obtain⟨t,rfl⟩:=r1;exact wpAny_formatField_int (Qi hi) ⟨_,_,H1,Y,fY hi,I1.tok _,q⟩
inductive kr(Q:Hp->Prop)(v:V)(H1:Hp):Prop
 | mk:∀ x:Str,v=.str x->↑x<=1000->(∀ c∈x.cps.toList,c<16 ^ 8)->Q H1->kr Q v H1
def Ybo(te:TE):TF:=λσ H Q=>te σ H λv H1=>kr Q v H1
def Xj(he:PE X e te):PF X (.FormattedValue e 114 none pos) (Ybo te):=by
 ac_rfl;refine wpAny_FormattedValue_repr (AK (he ρ s σ H _ I h) λv s1 ⟨x,H1,I1,r1,y,ex,hl,hc,q⟩=>?_);subst ex;obtain⟨t,rfl⟩:=r1;have b:=StrLaws.reprText_len y hc;have b1:↑(reprText y)<=100000:=by omega
 have b2:↑(reprText y)<=sizeLine:=BU b1 0.2;refine pyReprObj_str (wpAny_formatField_str ?_ ?_ b2) b2
 ·exact⟨_,_,H1,Y,b1,I1.tok _,q⟩
 ·exact⟨_,_,H1,Y,b1,I1.tok _,q⟩
def Yfa:TF:=λ_ H Q=>Q H
def Ye9(t u:TF):TF:=λσ H Q=>t σ H λH1=>u σ H1 Q
def Ht:Vi X [] Yfa:=λρ s σ H Q acc j I ha hj h=>⟨H,by simp at hj;exact BU ha (BU (VR _ hj) 0.2),I,h⟩
def CC(h1:PF X e t)(h2:Vi X es u):Vi X (e :: es) (Ye9 t u):=by
 intro ρ s σ H Q acc j I ha hj h;show wpAny _ _ (eval e X.env) _ _ s;refine AK (h1 ρ s σ H _ I h) λv s1 ⟨y,tk,H1,ev,hy,I1,q⟩=>?_;have hl:↑(acc++y)<=100000 * (j + 1):=by rw[strLen_append];omega
 have WH:j + 1 + ↑es<=100:=by simp at hj;omega
 refine⟨y,tk,ev,BU hl (BU (VR _ (show j + 1<=100 by omega)) 0.2),?_⟩;exact h2 ρ s1 σ H1 Q _ (j + 1) I1 hl WH q
def oX(t:TF):TE:=λσ H Q=>t σ H λH1=>∀ x:Str,Q (.str x) H1
def Hs{v1 v2:Expr}{BF:τ}(h:Vi X (v1 :: v2 :: BF) t)(hl:↑(v1 :: v2 :: BF)<=100:=by decide):PE X (.JoinedStr (v1 :: v2 :: BF) pos) (oX t):=by
 intro ρ s σ H Q I hq;apply wpAny_JoinedStr;have z:=h ρ s σ H _ Str.empty 0 I (BN _) (by simpa using hl) hq;have mono:∀(l:List (Sem δ)) (acc:Str) (P P':Str->ε->Prop) (s:ε),(∀ o s',P o s'->P' o s')->Joins 0.3 X.A X.xe l acc P s->Joins 0.3 X.A X.xe l acc P' s:=by
  intro l
  induction l with
  | nil=>intro acc P P' s f q;exact f _ _ q
  | cons a r ih =>
   intro acc P P' s f q;exact AK (show wpAny _ _ a _ _ s from q) λv s1 ⟨y,tk,e1,e2,e3⟩=>⟨y,tk,e1,e2,ih _ P P' s1 f e3⟩
 exact mono _ _ _ _ _ (λo s' ⟨H',l,I',q'⟩=>⟨BU l 0.2,⟨.str o,H',I'.tok _,⟨Z⟩,q' o⟩⟩) z
end
section
variable {X:Cx}{E:XK}{C:μ}{x:Str}{np AQ pos:Pos}{e:Expr}{es:τ}{t:TA}
def oS(E:XK)(C:μ)(t:TA):TS:=λ_ σ H=>t σ H λvs H1=>↑vs<=sizeLine/\E (.ref C) none H1
def zi{K:Fg}{prog:χ}{w:World}{A:Around}{E:EV}{s:ε}{us:LU}{Q:EV}(X:K.In s.heap)(c:ExC K C)(hi:W.findIn K (.ref C) "__init__"≈(↥(.builtin "ValueError.__init__")))(hl:↑us<=sizeLine)
  (h:∀ h' t0,(∀ b o,s.heap.get? b≈o->h'.get? b≈o)->h'.get? 7.2≈(CN C t0)->Q (.ref 7.2) {s with heap:=h' }):
  wpAny 0.6 A (call (.ref C) us) Q E s:=by
 obtain⟨hp,g,d,tk,os⟩:=s;dsimp only at X h ⊢;refine Xk X c hi (λself=>W.Looks.of_pure (PySem.F.excBase_ValueError.init.bind self)) hl ?_;have up:∀ b o,hp.get? b≈o->((hp.push (En us)).push 7.3).get? b≈o:=λb o q=>Yb _ (Yb _ q);have got:((hp.push (En us)).push 7.3).get? 1.0≈7.3:=Ry (by rw[IB]) rfl;refine iU (t0:=hp.objs.size) (X.keeps up) c got hl ⟨Y,h _ ((hp.push (En us)).push 7.3).objs.size (λb o q=>?_) ?_⟩
 ·have nb:b≠hp.objs.size + 1:=Ys (Nat.lt_succ_of_lt (Yh q));rw[IA _ _ (Yz nb)];exact Yb _ (up b o q)
 ·rw[Gq _ (Yb _ got) rfl];rfl
def OM(F:Ak X E)(hh:X.A.handled=none)(c:ExC X.K C)(hi:W.findIn X.K (.ref C) "__init__"≈(↥(.builtin "ValueError.__init__")))(hg:Gl X x)(hm:X.mg x≈(.ref C))(ha:PA X (e :: es) t)
  (hdb:(x == ("__debug__":Str))=false:=by decide) (he:starEach (e :: es) X.env=3.4:: starEach es X.env:=by rfl) (hpl:(backTo AQ 3.6).any 0.5=false:=by rfl):
  PS X (.Raise (↥(.Call (.Name x np) (e :: es) [] AQ)) none pos) (oS E C t):=by
 intro ρ s σ H D I h;refine YW c hh (wpAny_Call_Name_kw 13.8);refine W.callWith_K (h₀:=X.base) I.ok.mod.kin c.kp (AK (ha AQ ρ s σ H _ I h) λus s1 ⟨vs,H1,I1,r,hl,q⟩=>⟨I1.kIn,?_⟩) he hpl;refine zi I1.kIn c hi (by rw[Om,<- ↑r];exact hl) λh' t0 k got=>?_;have I2:Inv X ρ σ H1 {s1 with heap:=h' }:=I1.kept (t':=s1.toks) k;refine⟨_,t0,none,#[],Y,I2.kIn,got,?_⟩;exact F.raised I2 (I1.fpOk (Gv _) (I1.hok.fresh (Gv _))) got rfl rfl q
end
section
variable {X:Cx}{ρ:PL}{σ:St}{H:Hp}{s:ε}{A:Around}{E:EV}{Q:EV}{e C:μ}{dx:Option μ}{cv:δ}{b:Bool}
def Iy(H:Hp)(dx:Option μ):Prop:=dx=none\/∃ a fs,dx≈a/\H a≈(.xd fs)
def y9(I:Inv X ρ σ H s)(hx:H e≈(XO e C dx))(hd:Iy H dx):∃ ox od,W.InstAt s.heap e ox C od:=by
 have q:BI X.prog X.w H s.heap e (XO e C dx):=I.hok e _ hx;obtain⟨⟨o,h1,h2,h3,h4⟩,_⟩:=q
 rcases hd with hd | ⟨a,fs,hd,ha⟩
 ·exact⟨o,none,⟨h1,h2,h4,by rw[h3,hd];trivial⟩⟩
 ·have q:BI X.prog X.w H s.heap a (.xd fs):=I.hok a _ ha;obtain⟨mA,⟨oa,es,ep,e1,_⟩,_⟩:=q;exact⟨o,↥oa,⟨h1,h2,h4,by rw[h3,hd];exact e1⟩⟩
def uI(I:Inv X ρ σ H s)(hx:H e≈(XO e C dx))(hd:Iy H dx)(c:ExA X.K C)(k:W.kitOne X.K (.ref C) cv≈b)(h:∀ tk,Q (.bool b) {s with toks:=tk}):
  wpAny 0.3 A (call (.builtin "isinstance") [.ref e,cv]) Q E s:=by
 obtain⟨ox,od,J⟩:=y9 I hx hd;exact W.kia_one (xo (ox:=ox) (od:=od) c) I.kIn J k 3.7 h
end
abbrev R0:=δ->Option μ->St->Hp->Prop
abbrev O9:=Dl->R0->St->Hp->Prop
abbrev Vd:=St->Hp->VK->XK->Prop
def XP(X:Cx)(ρ:PL)(E:R0)(ev:δ)(s':ε):Prop:=∃(e T:μ) (cls:δ) (dx:Option μ) (σ':St) (H':Hp),ev=.ref e/\Inv X ρ σ' H' s'/\Dc X ρ H' e/\Dc X ρ H' T/\HV s'.heap e T cls dx .none/\E cls dx σ' H'
def nh(X:Cx)(e:Expr)(t:Vd):Prop:=∀(ρ:PL) (s:ε) (σ:St) (H:Hp) (Q:VK) (E:XK),Inv X ρ σ H s->t σ H Q E ->
 wpAny 0.3 X.A (eval e X.env) 6.8 (XP X ρ λc d σ' H'=>σ'=σ/\E c d H') s
def ng(X:Cx)(st:Stmt)(t:O9):Prop:=∀(ρ:PL) (s:ε) (σ:St) (H:Hp) (D:Dl) (E:R0),Inv X ρ σ H s->t D E σ H->wpAny 0.3 X.A (exec st X.env) (SP X ρ D) (XP X ρ E) s
def mE(X:Cx)(st:List Stmt)(t:O9):Prop:=∀(ρ:PL) (s:ε) (σ:St) (H:Hp) (D:Dl) (E:R0),Inv X ρ σ H s->t D E σ H->wpAny 0.3 X.A (execs st X.env) (SP X ρ D) (XP X ρ E) s
section
variable {X:Cx}{st:Stmt}{BF:List Stmt}{t u:O9}{e:Expr}{te:Vd}{pos:Pos}
def rP(h1:ng X st t):mE X [st] t:=by
 intro ρ s σ H D E I h;refine wpAny_execs_cons (AK (h1 ρ s σ H D E I h) λf s1 q=>?_);cases f with
 | next=>exact wpAny_execs_nil q
 | ret v=>exact q
 | brk=>exact q
 | cont=>exact q
def y0{ρ:PL}{E E':R0}(f:∀ c d σ H,E c d σ H->E' c d σ H){ev:δ}{s':ε}(h:XP X ρ E ev s'):XP X ρ E' ev s':=by
 obtain⟨e,T,cls,dx,σ',H',r,I,fe,fT,a,q⟩:=h;exact⟨e,T,cls,dx,σ',H',r,I,fe,fT,a,f _ _ _ _ q⟩
def Ydq(i:Nat)(te:Vd):O9:=λD E σ H=>te σ H (λv H1=>D.nx (σ.set i (↥v)) H1) λc d H1=>E c d σ H1
def ya{i:Nat}{x:Str}{pos':Pos}(hN:X.N.Nodup)(hi:X.N[i]?≈x)(hx:Loc X.env.scope x)(he:nh X e te)(hs:swapsWith e (↥(.Name x pos')) pos.line X.env=pure false:=by rfl)
  (hf:X.fn x=true\/X.env.scope.names.lookup x≈.local:=by first | exact .inl rfl | exact .inr rfl | assumption):ng X (.Assign [.Name x pos'] e pos) (Ydq i te):=by
 intro ρ s σ H D E I h;refine wpAny_Assign_Name (Jf (he ρ s σ H _ _ I h) (λv s1 ⟨y,H1,I1,r1,q1⟩=>?_) λev s1 z=>y0 (λc d σ' H' q=>?_) z) hs
 ·exact UM I1 hN hi hx r1 (λs2 I2=>⟨_,H1,I2,q1⟩) hf
 ·obtain⟨rfl,q⟩:=q;exact q
end
section
variable {X:Cx}{k:Nat}{f C:μ}{fd:FuncData}{ps:LS}{sp:Sp}{CM:LV}{ds:LU}{x m:Str}{p pos apos:Pos}{e o:Expr}{es:τ}{ta:TE}{t:TA}
def yi{ρ:PL}{σ:St}{H:Hp}{s:ε}{Q:VK}{E:XK}{us:LU}{vs:LV}(F:AV X.prog X.w X.K X.mg X.base (An X.prog X.w) k f fd ps sp)(hr:AZ k X.A)(hb:Bw X.K fd ps [])
  (I:Inv X ρ σ H s) (r:Aa vs us) (h:sp vs H Q E):wpAny 0.3 X.A (call (.ref f) us) 6.8 (XP X ρ λc d σ' H'=>σ'=σ/\E c d H') s:=by
 have hl:↑(us++[])=↑ps:=by rw[Dv,<- ↑r];exact F.len _ _ _ _ h
 have b:=hb s us I.kIn hl;rw[Dv]at b;refine wpAny_call (codeAny_mono (F.run X.A X.stack s H ⟨us,[]⟩ us vs Q E hr I.env0 b r h) λr s' hq=>?_);cases r with
 | error e =>
  obtain⟨e,T,cls,dx,H',rfl,os,bare,un,hok,he,hT,se,sT,a,q⟩:=hq;exact⟨e,T,cls,dx,σ,H',Y,I.call' (ch:=[]) os un hok bare (λb z=>nomatch z),I.fpOk se he,I.fpOk sT hT,a,Y,q⟩
 | ok fl =>
  cases fl with
  | ret u=>exact I.after hq
  | next=>exact False.elim hq
  | brk=>exact False.elim hq
  | cont=>exact False.elim hq
def yu{ρ:PL}{s:ε}{σ:St}{H:Hp}{Q:LV->Hp->Prop}{E:EV}(ha:PA X.nox es t)(I:Inv X ρ σ H s)(h:t σ H Q):
  wpAny 0.3 X.A (spliced (backTo pos 3.6)) (AP X ρ σ Q) E s :=
 Jf (ha pos ρ s σ H Q (I.wish _) h) (λ_ _ ⟨vs,H',I',r,q⟩=>⟨vs,H',I'.unwish,r,q⟩) λ_ _ z=>False.elim z
end
section
variable {K:Fg}{M:Model}{A:Around}{E:EV}{h:Heap}{g:Array GenState}{d:Drawn}{t:Nat}{os:OsState}{e C D:μ}
def u_{oe:Obj}{Q:Bool->ε->Prop}(X:K.In h)(cD:ExC K D)(he:h.get? e≈oe)(hcls:oe.cls=.ref C)(cC:ExC K C)(hs:W.subIn K (.ref C) (.ref D)≈true)(hq:Q true ⟨h,g,d,t,os⟩):
  wpAny M A (excMatches (.ref e) (.ref D)) Q E ⟨h,g,d,t,os⟩:=by
 obtain⟨nm,q,N,bs,bm,hdct,sn,sub,ab,col,dd,k0,k1,k2,k3,k5,lk⟩:=cD.obj;obtain⟨nm',q',N',bs',bm',oE,sn',sub',ab',col',Kr,k0',k1',k2',k3',k5',cw⟩:=cC.obj;have cB:=Jw lk cD.bas;have cS:=Jw cw hs;have hD:=X _ _ lk;have hC:=X _ _ cw;have f:=tc_notTuple;unfold excMatches
 repeat (first | (with_reducible refine Ji he ?_;rw[hcls]) | with_reducible refine Ji hD ?_ | (with_reducible refine wpAny_isSubtype_exc hD ?_;rw[cB]) | (with_reducible refine wpAny_isSubtype_exc hC ?_;rw[cS]) | wp_step)
 exact hq
end
section
variable {X:Cx}{ρ:PL}{σ:St}{H:Hp}{s:ε}
def Inv.track{a:μ}{o:HO}(I:Inv X ρ σ H s)(f:Dc X ρ H a)(ok:BI X.prog X.w 13.3 s.heap a o):Inv X ρ σ 13.3 s:=by
 obtain⟨f0,f1,f2,f3,f4,f5⟩:=f;have ne:∀ b u,H b≈u->b≠a:=λb u q z=>by rw[z,f0]at q;cases q
 have old:∀ b u,X.s₀.heap.get? b≈u->b∉X.ex->b≠a:=λb u q n z=>by
  rcases f3 with r | r
  ·rw[z]at n;exact n r
  ·exact absurd (Yp (Yh q) (by rw[z];exact r)) (Gu _)
 refine⟨I.ok,I.os,I.bare,⟨I.base.keep,I.base.slot,λb u q n hx=>by rw[AD (old b u q hx)];exact I.base.free b u q n hx,I.base.there,λb xs q=>by have z:=I.base.tups b xs q;rw[AD (ne b _ z)];exact z,
  λb u xs q=>by have z:=I.base.frzs b u xs q;rw[AD (ne b _ z)];exact z,λb ps q=>by obtain⟨m,z⟩:=I.base.tbls b ps q;exact⟨m,by rw[AD (ne b _ z)];exact z⟩⟩,
  I.loc,I.cell,by rw[AD (Yz f1)];exact I.free,λx c q=>by rw[AD (f4 x c q)];exact I.freeC x c q,λp hp=>?_,λb u q=>?_,I.len⟩
 ·obtain⟨p1,p2,p3,p4,p5⟩:=I.pin p hp;exact⟨p1,by rw[AD (f5 p hp)];exact p2,p3,p4,p5⟩
 ·by_cases hb:b=a
  ·subst hb;rw[uS]at q;cases q;exact ok
  ·rw[AD hb]at q;exact(I.hok b u q).stay (λ_ _ _ z=>z) (λc z=>by rw[AD (ne c _ z)];exact z) λc xs z=>by rw[AD (ne c _ z)];exact z
def Inv.gone{i:Nat}{x:Str}{m:Str->OU}{v:OU}{h':Heap}{tk:Nat}(I:Inv X ρ σ H s)(hN:X.N.Nodup)(hi:X.N[i]?≈x)(hx:X.env.scope.names.lookup x≈.local)
  (hm:s.heap.Ns X.env.locals m) (hn:h'.Ns X.env.locals λy=>if y=x then v else m y) (hs:Heap.SameBut X.env.locals s.heap h'):Inv X ρ (σ.set i none) H {s with heap:=h',toks:=tk}:=by
 obtain⟨m0,Lq,hl⟩:=id I.loc;have hmm:m0=m:=by
  obtain⟨o1,es1,ep1,a1,a2,_,a3⟩:=Lq;obtain⟨o2,es2,ep2,b1,b2,_,b3⟩:=hm;rw[a1]at b1;cases b1;rw[a2]at b2;cases b2
  funext y
  rw[<- a3,<- b3]
 subst hmm;have cne:=I.cne;obtain⟨oL,_,_,hoL,_⟩:=id hm;refine⟨I.ok,I.os,I.bare,⟨λb o e n hb hx=>?_,λb o e n hb hx=>?_,I.base.free,λb o e hx=>?_,I.base.tups,I.base.frzs,I.base.tbls⟩,⟨_,hn,λj y v' e1 e2 e3=>?_⟩,λy c e=>?_,I.free,I.freeC,λp hp=>?_,λb ob e=>?_,by simpa using I.len⟩
 ·exact(hs.2 b 9.8).trans (I.base.keep b o e n hb hx)
 ·obtain⟨sl,e1⟩:=I.base.slot b o e n hb hx;exact⟨sl,(hs.2 b 9.8).trans e1⟩
 ·obtain⟨o',e1⟩:=I.base.there b o e hx;exact⟨o',(hs.2 b 9.8).trans e1⟩
 ·have hj:j≠i:=λz=>by
   subst z;by_cases hb:j<↑σ
   ·rw[VP hb]at e2;cases e2
   ·rw[List.getElem?_eq_none (by simpa using hb)]at e2;cases e2
  rw[List.getElem?_set_ne (Yz hj)]at e2;obtain⟨u',r',q⟩:=hl j y v' e1 e2 e3;refine⟨u',r',?_⟩
  rcases q with⟨k,e⟩ | ⟨k,c,e,z⟩
  ·refine .inl ⟨k,?_⟩;have:y≠x:=λe=>hj (OK hN e1 (e ▸ hi));simp[this,e]
  ·exact .inr ⟨k,c,e,z.sameBut hs (cne y c e)⟩
 ·obtain⟨w',z⟩:=I.cell y c e;exact⟨w',z.sameBut hs (cne y c e)⟩
 ·obtain⟨e,n,ne,nf,d⟩:=I.pin p hp;exact⟨(hs.2 p.1 ne).trans e,n,ne,nf,d⟩
 ·refine(I.hok b ob e).stay (λc w' hc q=>(hs.2 c ?_).trans q) (λ_ q=>q) λ_ _ q=>q;rintro rfl
  rcases hc with rfl | hc
  ·rw[I.free]at e;cases e
  ·rw[I.free]at hc;cases hc
abbrev Cx.marked(X:Cx)(v:δ):Cx:={X with A:=X.A.mark (↥v),calm:=false,xe:=λ_ _=>False}
def Inv.mark(I:Inv X ρ σ H s)(v:δ):Inv (X.marked v) ρ σ H s :=
 ⟨⟨I.ok.mod,I.ok.kind,I.ok.glob,I.ok.blt,I.ok.above,I.ok.inj,I.ok.has,I.ok.cab,λz=>absurd z Yl,I.ok.frames,I.ok.stk,I.ok.exf,I.ok.bs,I.ok.bsz,I.ok.noex,I.ok.exfs,I.ok.funs,I.ok.frf⟩,
  I.os,I.bare,I.base,I.loc,I.cell,I.free,I.freeC,I.pin,I.hok,I.len⟩
def Inv.unmark{v:δ}(J:Inv (X.marked v) ρ σ H s)(ok:X.Ok):Inv X ρ σ H s :=
 ⟨ok,J.os,J.bare,J.base,J.loc,J.cell,J.free,J.freeC,J.pin,J.hok,J.len⟩
end
section
variable {X:Cx}{D:μ}{body:List Stmt}{t:O9}{x n dn:Str}{np xp ep ap hp pos:Pos}{i j:Nat}
def Ydr(K:Fg)(D:μ)(i j:Nat)(t:O9):TS:=λB σ H=>t B (λcls dx σ' H'=>∃ C,cls=.ref C/\ExC K C/\W.subIn K (.ref C) (.ref D)≈true /\
 ∀ e,H' e=none->B.nx (((σ'.set j (↥(.ref e))).set i (↥(.ref e))).set j none) (upd H' e (XO e C dx))) σ H
def xE(hst:X.stack=X.env :: X.outer)(hf:X.env.frame≈X.env.locals)(cD:ExC X.K D)(hN:X.N.Nodup)(hg:Gl X dn)(hm:X.mg dn≈(.ref D))(hi:X.N[i]?≈x)(hx:Loc X.env.scope x)(hj:X.N[j]?≈n)
  (hn:X.env.scope.names.lookup n≈.local) (hb:mE X body t) (hfx:X.fn x=true\/X.env.scope.names.lookup x≈.local:=by first | exact .inl rfl | exact .inr rfl | assumption) (hdb:(dn == ("__debug__":Str))=false:=by decide)
  (hd2:(n == ("__debug__":Str))=false:=by decide) (Kl:(n == ("__classdict__":Str))=false:=by decide) (hs:∀ v,swapsWith (.Name n ep) (↥(.Name x xp)) ap.line (X.marked v).env=pure false:=by intro;rfl):
  PS X (.Try body [.ExceptHandler (↥(.Name dn np)) (↥n) [.Assign [.Name x xp] (.Name n ep) ap] hp] [] [] pos) (Ydr X.K D i j t):=by
 intro ρ s σ H B I h;refine wpAny_Try_except (Jf (hb ρ s σ H B _ I h) (λf s1 q=>?_) λev s1 z=>?_)
 ·cases f with
  | next=>exact wpAny_execs_nil q
  | ret v=>exact q
  | brk=>exact q
  | cont=>exact q
 ·obtain⟨e,T,cls,dx,σ',H',rfl,I1,fe,fT,a,C,rfl,cC,csub,q⟩:=z;have hfr:X.A.frames≈(X.env :: X.outer):=by rw[<- hst];exact I1.ok.frames
  have hl:s1.heap.FunFrames X.base (X.env :: X.outer):=by rw[<- hst];exact I1.stack
  refine ik hfr hl hf a λh1 T1 TN a1 c1=>?_;refine UQ a1 λh2 a2 c2=>?_;rw[<- hst]at c1;have c3:A3 (C0 X.stack) [T1,e,T] s1.heap h2:=(c1.mono (λb z=>z) λb z=>by simp at z;rcases z with z | z <;> simp[z]).trans (c2.mono (λb z=>nomatch z) λb z=>by simp at z;simp[z]);have I2:Inv X ρ σ' H' {s1 with heap:=h2}:=I1.call (ch:=[e,T]) (t':=s1.toks) (d':=s1.drawn) (g':=s1.gens) (Un.chg (c3.drop TN) (λb z=>z) λb z=>z) (I1.hok.chg (c3.drop TN) I1.stkFree λb z=>by
   simp at z;rcases z with z | z <;> rw[z];exact fe.1;exact fT.1) I1.bare λb z=>by
   simp at z;rcases z with z | z <;> rw[z];exact⟨fe.2.2.2.1,fe.2.1,fe.2.2.2.2.1,fe.2.2.2.2.2⟩;exact⟨fT.2.2.2.1,fT.2.1,fT.2.2.2.2.1,fT.2.2.2.2.2⟩
  have P9:Dc X ρ H' T1:=I1.fpOk TN (I1.hok.fresh TN);have M2:=I2.mark (.ref e);refine wpAny_handleBy_cons (codeAny_handlers_test (Js (X:=X.marked (.ref e)) M2 hg hm ?_ hdb)) (by intro q;cases q);obtain⟨oe,vs,he,hc,hdx,hd,GO⟩:=a2.obj;refine u_ I2.kIn cD he hc cC csub (codeAny_handlers_suite_as ?_);refine UQ a2 λh3 a3 c4=>?_;have c5:A3 (C0 X.stack) [T1] h2 h3:=c4.mono (λb z=>nomatch z) λb z=>z;have I3:Inv X ρ σ' H' {s1 with heap:=h3}:=I2.call (s:={s1 with heap:=h2}) (h':=h3) (ch:=[T1]) (t':=s1.toks) (d':=s1.drawn) (g':=s1.gens) (Un.chg c5 (λb z=>z) λb z=>z) (I2.hok.chg c4 (λb z=>(nomatch z:H' b=none)) λb z=>by simp at z;rw[z];exact P9.1) I2.bare λb z=>by
   simp at z;rw[z];exact⟨P9.2.2.2.1,P9.2.1,P9.2.2.2.2.1,P9.2.2.2.2.2⟩
  obtain⟨cY,vs3,dP,qL,bG,bH,hv3⟩:=a3.obj;have I4:Inv X ρ σ' (upd H' e (XO e C dx)) {s1 with heap:=h3}:=I3.track fe ⟨⟨cY,dP,qL,bG,by unfold W.notCls;rw[bH]⟩,⟨cY,dP⟩,λh1 h2 ⟨o,q1,q2⟩ k=>⟨o,k o q1,q2⟩⟩;have M4:=I4.mark (.ref e);refine UM (X:=X.marked (.ref e)) (i:=j) M4 hN hj (.inl hn) (v:=.ref e) rfl (λs5 M5=>?_) (.inr hn);have L5:(σ'.set j (↥(.ref e)))[j]?≈(↥(.ref e)):=by
   have:j<↑σ':=by rw[I3.len];exact(Yg.mp hj).1
   rw[VP this]
  have R:=(AF (Er (X:=X.marked (.ref e)) (i:=i) (pos:=ap) (pos':=xp) hN hi hx (lV (X:=X.marked (.ref e)) (pos:=ep) hj (.inl hn) hd2 Kl) (hs _) hfx)) ρ s5 _ _
   {nx:=λσ6 H6=>σ6=(σ'.set j (↥(.ref e))).set i (↥(.ref e))/\H6=upd H' e (XO e C dx),rt:=λ_ _=>False} M5 ⟨_,L5,Y,Y⟩
  refine Jf R (λf s6 q6=>?_) λ_ _ z=>False.elim z;cases f with
  | ret v=>obtain⟨_,_,_,_,_,z⟩:=q6;exact z.elim
  | brk=>obtain⟨_,_,_,z⟩:=q6;exact z.elim
  | cont=>obtain⟨_,_,_,z⟩:=q6;exact z.elim
  | next =>
   obtain⟨σ6,H6,M6,rfl,rfl⟩:=q6;have I6:=M6.unmark I.ok;obtain⟨m,Nm,_⟩:=id I6.loc;refine wpAny_nameGoes_keeps hn Nm (by rw[I.ok.kind];rfl) λh7 v qH qB=>?_;exact⟨_,_,I6.gone hN hj hn Nm qH qB,q e fe.1⟩
end
section
variable {X:Cx}{k:Nat}{f C:μ}{fd:FuncData}{ps:LS}{sp:Sp}{x m:Str}{p pos apos:Pos}{e o:Expr}{es:τ}{ta:TE}{t:TA}
def wG(C:μ)(m:Str)(sp:Sp)(ta:TE)(t:TA):Vd:=λσ H Q E=>ta σ H λx H1=>∃ a dx fs,x=.ref a/\H1 a≈(.ins C dx fs)/\fs.lookup m=none/\t σ H1 λvs H2=>sp (x :: vs) H2 Q E
def rL{pl:Sem Bool}(he:PE X.nox o ta)(c:FL X.K C)(hm:Rc X.K C m f)(F:AV X.prog X.w X.K X.mg X.base (An X.prog X.w) k f fd ps sp)(hr:AZ k X.A)(hb:Bw X.K fd ps [])(ha:PA X.nox (e :: es) t)
  (hst:starEach (e :: es) X.env=3.4:: starEach es X.env:=by rfl) (hpl:(backTo pos 3.6).any 0.5=false:=by rfl)
  (ht:eval (.Call (.Attribute o m apos) (e :: es) [] pos) X.env=(eval o X.env>>=λov=>standAt apos.atName>>=λ_=>holding [ov] (getMethod ov m pl)>>=λr=>callWith pos r.1 r.2 (backTo pos (starEach (e :: es) X.env)) (backToKw pos 13.6)):=by rfl):
  nh X (.Call (.Attribute o m apos) (e :: es) [] pos) (wG C m sp ta t):=by
 intro ρ s σ H Q E I h;refine W.methodCall_KW (pl:=pl) (Jf (he ρ s σ H _ (I.wish _) h) (λu s1 ⟨x,H1,I1',rx,a,dx,fs,ex,ea,l,q⟩=>?_) λ_ _ z=>False.elim z) ht;have I1:=I1'.unwish;subst ex;obtain rfl:u=Value.ref a:=rx;refine YT I1 ea c hm l ?_;refine W.callWith_K (first:=[.ref a]) (h₀:=X.base) I.ok.mod.kin hm.kp (AK (yu ha I1 q) λus s2 ⟨vs,H2,I2,r,q2⟩=>⟨I2.kIn,?_⟩) hst hpl;exact yi (us:=.ref a :: us) (vs:=.ref a :: vs) F hr hb I2 (.cons rfl r) q2
end
def zJ{K:Fg}{C D:μ}{b:Bool}(h1:W.isClsIn K D=true)(h2:W.typeIn K (.ref D)≈(.type "type"))(c:ExC K C)(h:W.subIn K (.ref C) (.ref D)≈b):W.kitOne K (.ref C) (.ref D)≈b:=by
 unfold W.kitOne;by_cases z:C=D
 ·subst z;obtain⟨nm,q,N,bs,bm,hdct,sn,sub,ab,col,dd,k0,k1,k2,k3,k5,lk⟩:=c.obj;have:=Jw lk h;rw[if_pos 1.1];rw[<- this];simp
 ·rw[if_neg (by simpa using z)];unfold W.kitCls;have Nx:(W.clsIn K D).isSome=true:=h1;show(if((W.clsIn K D).isSome&&W.typeIn K (.ref D) == ↥(.type "type"))=true then W.subIn K (.ref C) (.ref D)else none)≈b;rw[if_pos (by rw[Nx,h2];rfl)];exact h
def sW{K:Fg}{C:μ}(c:ExC K C):W.kitOne K (.ref C) (.type "ValueError")≈true:=by
 unfold W.kitOne;rw[if_neg 1.1];unfold W.kitCls;show(if W.kitMeta "ValueError"=true then W.subIn K (.ref C) (.type "ValueError")else none)≈true;rw[if_pos 1.2];exact c.val
inductive Zd(K:Fg)(xs:LV)(H:Hp)(Q:VK):Prop
 | mk:∀(e C:μ) (dx:Option μ) (y:V) (cv:δ) (b:Bool),xs=[.ref e,y]->Aj y cv->(∀ u,Aj y u->u=cv)->H e≈(XO e C dx)->Iy H dx->ExA K C->W.kitOne K (.ref C) cv≈b->Q (.bl b) H->Zd K xs H Q
def iS{X:Cx}:FV X (.builtin "isinstance") (Zd X.K):=by
 intro ρ s σ H xs us Q I r h;obtain⟨e,C,dx,y,cv,b,rfl,ry,hy,hx,hd,c,k,q⟩:=h;obtain⟨u,w',rfl,r1,r2⟩:=Zk r;cases r1;rw[hy w' r2];exact uI I hx hd c k λtk=>⟨.bl b,H,I.tok _,Y,q⟩
def AA.xdict{H H':Hp}{dx:Option μ}(h:Iy H dx)(s:AA H H'):Iy H' dx:=h.elim .inl λ⟨a,fs,e,x⟩=>.inr ⟨a,fs,e,s _ _ x⟩
section
variable {X:Cx}
end
end L2
namespace L2
open PySem PySem.W PySem.Spec PyProof.Rows
theorem Ze{K:Fg}{H:Hp}:∀ xs:LS,BH K H 14.1 (xs.map Dat.str)
 | []=>.nil
 | x :: r=>.cons (.str x) (Ze r)
theorem YU:∀ xs:LS,kqdPs (xs.map Dat.str)=xs.map PyData.str
 | []=>by rw[List.map_nil,kqdPs];rfl
 | x :: r=>by rw[Yr,kqdPs,YU r,kqdP];rfl
theorem YS:∀ xs:LS,PyData.depthAll (xs.map PyData.str)=0
 | []=>by rw[List.map_nil,PyData.depthAll]
 | x :: r=>by rw[Yr,PyData.depthAll,YS r,PyData.depth];rfl
theorem Y1:∀ xs:LS,PyData.hasDictAll (xs.map PyData.str)=false
 | []=>by rw[List.map_nil,PyData.hasDictAll]
 | x :: r=>by rw[Yr,PyData.hasDictAll,Y1 r,PyData.hasDict];rfl
theorem hX:∀ {xs:LS},(∀ x∈xs,↑x<=50/\∀ c∈x.cps.toList,c<16 ^ 8)->((xs.map reprText).map (·.length)).sum<=502 * ↑xs
 | [],_=>by simp
 | x :: r,h=>by
  have ih:=hX (xs:=r) λy hy=>h y (by simp[hy]);obtain⟨h1,h2⟩:=h x 1.1;have b:=StrLaws.reprText_len x h2;rw[Yr,Yr,List.sum_cons,CS];omega
def sR{xs:LS}(h:∀ x∈xs,↑x<=50/\∀ c∈x.cps.toList,c<16 ^ 8)(hl:↑xs<=100):(Str.join ", " (xs.map reprText)).length<=60000:=by
 cases xs with
 | nil=>decide
 | cons a r =>
  have s:=hX h;rw[Yr,len_join_cons ", " (reprText a) (r.map reprText),<- Yr,Ya];have e:(Str.ofString ", ").length=2:=by decide
  rw[e];simp only[CS]at hl s;omega
section
variable {X:Cx}{e:Expr}{te:TE}{pos:Pos}{k:Nat}
def C2(x:Str):Prop:=↑x<=50/\∀ c∈x.cps.toList,c<16 ^ 8
inductive ku(K:Fg)(Q:Hp->Prop)(v:V)(H1:Hp):Prop
 | mk:∀(t:μ) (xs:LS),v=.ref t->(AH K H1 t 14.1\/SqL K H1 t 14.1)->↑xs<=100->(∀ x∈xs,C2 x)->Q H1->ku K Q v H1
def Ybn(K:Fg)(te:TE):TF:=λσ H Q=>te σ H λv H1=>ku K Q v H1
def yw(hr:AZ k X.A)(he:PE X e te):PF X (.FormattedValue e 114 none pos) (Ybn X.K te):=by
 ac_rfl;refine wpAny_FormattedValue_repr (AK (he ρ s σ H _ I h) λv s1 ⟨y,H1,I1,r1,t,xs,ey,ht,hl,hx,q⟩=>?_);subst ey;obtain rfl:v=Value.ref t:=r1;have hu:=hr.units;have hj:=sR hx hl;have fin:∀ z:Str,↑z<=100000->∀ h' u tk,(∀ b o,s1.heap.get? b≈o->h'.get? b≈o)->wpAny 0.3 X.A (formatField (.str z u) Str.empty) (λu s'=>∃ y tk H',u=.str y tk/\↑y<=100000/\Inv X ρ σ H' s'/\Q H') X.xe {s1 with heap:=h',toks:=tk}:=λz hz h' u tk kp=>by
  have I2:Inv X ρ σ H1 {s1 with heap:=h',toks:=tk}:=I1.kept kp;exact wpAny_formatField_str ⟨_,_,H1,Y,hz,I2,q⟩ ⟨_,_,H1,Y,hz,I2.tok _,q⟩ (BU hz 0.2)
 rcases ht with ht | ht
 ·obtain⟨as,ra⟩:=(Rep.tuple ht (Ze xs)).reads I1 rfl;rw[kqdP,YU]at ra;have sh:(PyData.tuple (xs.map PyData.str)).shown.length<=100000:=by
   rw[PyData.shown_tuple,PyData.shownAll_strs,strLen_append,strLen_append];have e1:(Str.ofString "(").length=1:=by decide
   have e2:(Str.ofString (if↑(xs.map PyData.str) == 1 then ",)" else ")")).length<=2:=by split <;> decide
   omega
  refine pyReprObj_of_reads ra ?_ ?_ hr.gd ?_ (λ_ _ z=>z) (λh' u tk kp=>fin _ sh h' u tk kp) (BU sh 0.2)
  ·rw[PyData.showable,PyData.showableAll_strs]
  ·rw[PyData.hasDict,Y1];intro z;cases z
  ·rw[PyData.depth,YS];omega
 ·obtain⟨as,ra⟩:=(Rep.list ht (Ze xs)).reads I1 rfl;rw[kqdP,YU]at ra;have sh:(PyData.list (xs.map PyData.str)).shown.length<=100000:=by
   rw[PyData.shown_list,PyData.shownAll_strs,strLen_append,strLen_append];have e1:(Str.ofString "[").length=1:=by decide
   have e2:(Str.ofString "]").length=1:=by decide
   omega
  refine pyReprObj_of_reads ra ?_ ?_ hr.gd ?_ (λ_ _ z=>z) (λh' u tk kp=>fin _ sh h' u tk kp) (BU sh 0.2)
  ·rw[PyData.showable,PyData.showableAll_strs]
  ·rw[PyData.hasDict,Y1];intro z;cases z
  ·rw[PyData.depth,YS];omega
end
def AV.or{P:χ}{w:World}{K:Fg}{mg:Str->OU}{base:Heap}{CX:Et}{k:Nat}{ps:LS}{sp PQ:Sp}(F:AV P w K mg base CX k f fd ps sp)(G:AV P w K mg base CX k f fd ps PQ):
  AV P w K mg base CX k f fd ps (λvs H Q E=>sp vs H Q E\/PQ vs H Q E):=
 ⟨λvs H Q E h=>h.elim (F.len vs H Q E) (G.len vs H Q E),λA outer s H args us vs Q E hr he hb hv hs=>hs.elim (F.run A outer s H args us vs Q E hr he hb hv) (G.run A outer s H args us vs Q E hr he hb hv)⟩
end L2
namespace L2
open PySem PySem.Spec PyProof.Rows HT
section
variable {prog:χ}{w:World}{A:Around}{E:EV}{s:ε}
def vx{t sl:μ}{items:ζ}{vl vu:δ}{lo hi:Option Int}{Q:EV}(ht:IsTup s.heap t items)(hs:s.heap.IsSliceOf sl vl vu .none)(pl:IsPart vl lo)(pu:IsPart vu hi)
  (hw:sIx items.size 0 lo=0/\sIx items.size items.size hi=items.size) (h:Q (.ref t) s):wpAny 0.6 A (getItem (.ref t) (.ref sl)) Q E s:=by
 obtain⟨os,hos,hcs,hds⟩:=id hs;have hTs:s.TypeIs (.ref sl) "slice":=⟨os,hos,hcs⟩;unfold getItem
 try with_reducible refine Jj ?_
 first | refine Ja (Jd ?_) | skip
 refine Ja (wpAny_sequenceKey ht.typeIs 0.2 ?_);refine Ja (wpAny_callSpecial?_slot (name:=Str.ofString "__getitem__") ht.typeIs Ov
  (wpAny_call_entry Ov ht.typeIs entry_tuple_getitem ?_ (args_tuple_getitem _ _)))
 show wpAny _ _ (Builtin.Tuple.tupleItemsOf (.ref t)>>=_) _ _ s;refine Ja (tupleItemsOf_ ht ?_);refine Ja (wpAny_typeOf hTs ?_);rw[if_pos 0.2];refine Ja (jq hs pl pu ?_);have yes:2.5=true:=by
  rw[hw.1,hw.2];simp
 show wpAny _ _ (if 2.5=true then _ else _) _ _ s;rw[if_pos yes];apply Ja;unfold Builtin.Tuple.tupleIsExact;refine Ja (wpAny_typeOf ht.typeIs ?_);apply Jd;rw[if_pos 0.2];refine Ja (wpAny_rule ?_);refine Jd ?_;exact⟨Z,Jd h⟩
end
inductive Rh(K:Fg)(x:V)(lo:Option Int)(hi:Option Int)(H:Hp)(Q:VK):Prop
 | mk:∀ a xs,x=.ref a->AH K H a xs->((sIx ↑xs 0 lo=0/\sIx ↑xs ↑xs hi=↑xs)->Q (.ref a) H)->(¬ (sIx ↑xs 0 lo=0/\sIx ↑xs ↑xs hi=↑xs)->∀ p,H p=none->Q (.ref p) (upd H p (.tup (BQ xs lo hi))))->Rh K x lo hi H Q
def gJ{X:Cx}:JL X (Rh X.K):=by
 intro ρ s σ H x v vl vu lo hi sl Q I rx hs pl pu h;obtain⟨a,xs,ex,hx,q1,q2⟩:=h;by_cases hw:sIx ↑xs 0 lo=0/\sIx ↑xs ↑xs hi=↑xs
 ·subst ex;cases rx;obtain⟨ν,r,ht,hz⟩:=I.tuple hx;have hlen:ν.toArray.size=↑xs:=by rw[Yj];exact r.length.symm
  refine⟨"tuple",_,Ov.lookup,ht.typeIs,?_⟩;exact vx ht hs pl pu (by rw[hlen];exact hw) ⟨.ref a,H,I,rfl,q1 hw⟩
 ·exact xS ρ s σ H x v vl vu lo hi sl Q I rx hs pl pu ⟨a,xs,ex,hx,hw,q2 hw⟩
def eZ{xs:LV}{lo hi:Option Int}(h:sIx ↑xs 0 lo=0/\sIx ↑xs ↑xs hi=↑xs):BQ xs lo hi=xs:=by
 unfold BQ;rw[h.1,h.2,List.drop_zero,Nat.sub_zero,Yx]
def ye{K:Fg}{H:Hp}{a:μ}{xs:LV}{lo hi:Option Int}{Q:VK}(hx:H a≈(.tup xs))(q:∀ p H',AA H H'->H' p≈(.tup (BQ xs lo hi))->Q (.ref p) H'):Rh K (.ref a) lo hi H Q :=
 ⟨a,xs,rfl,AH.of hx,λh=>q a H (AA.refl _) (by rw[eZ h];exact hx),λ_ p hp=>q p _ (λb o e=>by rw[AD (AI e hp)];exact e) uS⟩
def ON{K:Fg}{H:Hp}{a b:μ}{xs ys:LV}{Q:VK}(hx:H a≈(.tup xs))(hy:H b≈(.tup ys))(hz:↑xs + ↑ys<=sizeLine)(q:∀ p H',AA H H'->H' p≈(.tup (xs++ys))->Q (.ref p) H'):QN K (.ref a) (.ref b) H Q :=
 ⟨a,b,xs,ys,rfl,rfl,AH.of hx,AH.of hy,hz,λe=>q b H (AA.refl _) (by rw[e];exact hy),λ_ e=>q a H (AA.refl _) (by rw[e,Dv];exact hx),λ_ _ p hp=>q p _ (λc o e=>by rw[AD (AI e hp)];exact e) uS⟩
end L2
namespace L2
open PySem PySem.Spec PyProof.Rows
def Zj:Expr->Option Str
 | .Constant (.str x) _ _=>↥x
 | _=>none
def Tx:τ->Option (LS)
 | []=>↥[]
 | e :: r=>match Zj e,Tx r with
  | some p,↥l=>↥(p :: l)
  | _,_=>none
def kJ:Expr->Option (LS)
 | .Tuple es _ _=>Tx es
 | _=>none
def wD(l:LS):TE:=λ_ H Q=>∀ p,H p=none->Q (.ref p) (upd H p (.tup (l.map V.str)))
section
variable {X:Cx}
def vH{e:Expr}{x:Str}(h:Zj e≈x):∃ k pos,e=.Constant (.str x) k pos:=by
 unfold Zj at h;split at h
 ·cases h;exact⟨_,Z⟩
 ·cases h
theorem iy:∀ {es:τ}{l:LS},Tx es≈l->PA X es (λ_ H Q=>Q (l.map V.str) H)
 | [],l,h=>by
  cases h;exact AB
 | e :: r,l,h=>by
  unfold Tx at h;split at h
  ·rename_i p l' h1 h2
   cases h;obtain⟨k,pos,rfl⟩:=vH h1;exact pC Ah (iy h2)
  ·cases h
def Qu{e:Expr}(l:LS)(h:kJ e≈l)(hl:↑l<=100000):PE X e (wD l):=by
 unfold kJ at h;split at h
 ·intro ρ s σ H Q I q;exact BB (iy h) ρ s σ H Q I ⟨sL (by rw[Ya];exact hl),q⟩
 ·cases h
end
end L2
namespace L2
open PySem PySem.Spec PySem.Builtin PySem.Builtin.ObjectAttr PySem.W
structure Cw(K:Fg)(C D:μ)(a:Str):Prop extends ExA K C where
 lk:∃ nm q N bs sn sub ab col dd k0 k1 k2 k3 k5,K.lookup C≈(excClassObj nm q C N bs [.ref D,.type "ValueError",.type "Exception",.type "BaseException",.type "object"] true sn sub ab col dd k0 k1 k2 k3 k5 "ValueError.__new__")
 sa:W.findIn K (.ref C) "__setattr__"≈(↥(.builtin "object.__setattr__"))
 na:W.findIn K (.ref C) a≈none
abbrev W_(C t:μ)(dx:Option μ):Obj:={cls:=.ref C,dict:=dx,data:=.fields #[.ref t,.none,.none,.none,.bool false,.none] }
section
variable {K:Fg}{prog:χ}{w:World}{A:Around}{E:EV}{s:ε}{C D e t0:μ}{a:Str}{v:δ}
def xt{tk:Tok}{R:Result->ε->Prop}(X:K.In s.heap)(c:Cw K C D a)(he:s.heap.get? e≈(CN C t0))
  (h:∀ h' dx,⇑s<=dx->h'.get? e≈(W_ C t0 (↥dx))->h'.Ns1 dx (λy=>if y=a then ↥v else none)->(∀ b o,b≠e->s.heap.get? b≈o->h'.get? b≈o)->R (.ok (.ret .none)) {s with heap:=h',toks:=s.toks + 1}):
  codeAny 0.6 A (.call (.builtin "object.__setattr__") ⟨[.ref e,.str a tk,v],[]⟩) R s:=by
 obtain⟨nm,q,N,bs,sn,sub,ab,col,dd,k0,k1,k2,k3,k5,lk⟩:=c.lk;have SF:=PySem.F.store_object;have I:InstAt s.heap e (CN C t0) C none:=⟨he,Y,Y,trivial⟩;have hcd:clsIn K C=some {name:=nm,bases:=bs,mro:=.ref C :: [.ref D,.type "ValueError",.type "Exception",.type "BaseException",.type "object"],ns:=N,qualname:=q,hasDict:=true,slotNames:=sn,subclasses:=sub,abstract:=ab,collection:=col,hasDel:=false}:=by
  unfold W.clsIn;rw[lk]
 have sb:Looks 0.6 s.heap (isInstance (.ref e) (.type "object")) true:=I.type.andThen (looks_mroIn X c.ob);refine codeAny_call_builtin SF.slot.plain SF.entry (@check_slot 0.6 _ _ s "object.__setattr__" "object" "__setattr__" (.ref e) [.str a tk,v] [] _ SF.kind SF.split sb (SF.args (.ref e) (.str a tk) v) ?_);have hm:Looks 0.6 s.heap (mroOf (.ref C)) (.ref C :: [.ref D,.type "ValueError",.type "Exception",.type "BaseException",.type "object"]):=(looks_clsIn X hcd).andThen .now;rw[osa_eq,refuse_eq];refine Ja (Ja (I.type.here (Ja (hm.here ?_))));rw[refuseLoop_ref,refuseLoop_ref,PySem.F.store_ValueError.passes];refine Jd (Ja (I.type.here (Ja ((looks_findIn X c.na).here (Ja (Jd ?_))))));show wpAny _ _ (storeInOwnDict (.ref e) (.ref C) (.str a tk) a v false) _ _ _;refine Ja (Jd (Ja (Ja (wpAny_loadPart he (Ja ((looks_clsIn X hcd).here ?_))))));have hes:e≠⇑s:=Ys (Yh he);have Kj:(s.heap.push {cls:=.type "dict",data:=.dict #[] }).get? e≈(CN C t0):=Yb _ he;obtain⟨hh,g,d,t,os⟩:=s;dsimp only at he Kj hes h ⊢;refine Ja (wpAny_alloc' (Ja (wpAny_update' Kj (Jd ?_))));have hgd:((hh.push {cls:=.type "dict",data:=.dict #[] }).update e λo=>{cls:=o.cls,dict:=↥hh.objs.size,data:=o.data,slots:=o.slots}).get? hh.objs.size=some {cls:=.type "dict",data:=.dict #[] } :=
  (Heap.get?_update_ne _ _ _ _ hes.symm).trans (Ry rfl rfl)
 have hnd:((hh.push {cls:=.type "dict",data:=.dict #[] }).update e λo=>{cls:=o.cls,dict:=↥hh.objs.size,data:=o.data,slots:=o.slots}).Ns hh.objs.size (λ_=>none):=
  ⟨_,#[],_,hgd,Y,λe he=>absurd he 1.1,λ_=>rfl⟩
 show wpAny _ _ (storeInDict hh.objs.size (.str a tk) a v) _ _ _;unfold storeInDict newKeyGuard;refine Ja (Jd (Ja (wpAny_nsSet1 (Heap.Ns1.of_empty hnd) λh' TL hs=>?_)));obtain⟨oD,esD,epD,hoD,hdD,hcD⟩:=TL.count (Within.cons a v Within.nil);refine Ja (wpAny_lookBehind hoD (by rw[hdD];exact pastItsLine_dict (BU hcD (by rw[CS,Rm,sizeLine_eq];omega))) ?_);refine Jd (h h' hh.objs.size (Ye _) ?_ TL λb o hb q=>?_)
 ·exact(hs.2 e hes).trans (Gq _ Kj rfl)
 ·exact(hs.2 b (Ys (Yh q))).trans ((Heap.get?_update_ne _ _ _ _ hb).trans (Yb _ q))
def xu{Q:Unit->ε->Prop}(X:K.In s.heap)(c:Cw K C D a)(he:s.heap.get? e≈(CN C t0))
  (h:∀ h' dx,⇑s<=dx->h'.get? e≈(W_ C t0 (↥dx))->h'.Ns1 dx (λy=>if y=a then ↥v else none)->(∀ b o,b≠e->s.heap.get? b≈o->h'.get? b≈o)->Q () {s with heap:=h',toks:=s.toks + 2}):
  wpAny 0.6 A (setAttr (.ref e) a v) Q E s :=
 set_plain X (⟨he,Y,Y,trivial⟩:InstAt s.heap e (CN C t0) C none) c.sa (xt (s:={s with toks:=s.toks + 1}) X c he λh' dx a1 a2 a3 a4=>h h' dx a1 a2 a3 a4)
def xn{ox od:Obj}{Q:EV}{expr:Bool}(X:K.In s.heap)(c:Cw K C D a)(I:InstAt s.heap e ox C (↥od))(hl:lookIn a od≈(↥v))(hv:handedIn v=true)(h:Q v {s with toks:=s.toks + 1}):
  wpAny 0.6 A (getAttr (.ref e) a expr) Q E s:=by
 obtain⟨nm,q,N,bs,sn,sub,ab,col,dd,k0,k1,k2,k3,k5,lk⟩:=c.lk;have hd:hasDictIn K C=true:=by
  unfold hasDictIn clsIn;rw[lk];rfl
 obtain⟨hh,g,d,t,os⟩:=s;unfold getAttr;refine Ja (wpAny_mkText ?_);exact kq X c.toExA I (looks_find X I (findObj_own hd c.na rfl hl)) 3.7 (λ{A E Q} r=>Jd r) hv h
end
end L2
namespace L2
open PySem PySem.Spec PyProof.Rows
def XN(e C:μ):HO:=.ext λh=>∃ t0,h.get? e≈(CN C t0)
def XM(e C dx:μ):HO:=.ext λh=>∃ t0,h.get? e≈(W_ C t0 (↥dx))
def del(H:Hp)(a:μ):Hp:=λb=>if b=a then none else H b
def RB{H:Hp}{a:μ}:del H a a=none:=by unfold del;rw[if_pos rfl]
def K1{H:Hp}{a b:μ}(h:b≠a):del H a b=H b:=by unfold del;rw[if_neg h]
structure LZ(K:Fg)(D:μ):Prop where
 ga:W.specialIn K (.ref D) "__getattribute__"≈(↥(.builtin "type.__getattribute__"))
 rd:W.readsIn K D (.type "type")=true
 fi:W.findCls K (.ref D) (.type "type") "__init__"≈(.val (.builtin "ValueError.__init__"))
section
variable {X:Cx}{ρ:PL}{σ:St}{H:Hp}{s:ε}{a:μ}{φ:Heap->Prop}
def Inv.untrack(I:Inv X ρ σ H s)(ha:H a≈(.ext φ))(f:⇑X.s₀<=a):Inv X ρ σ (del H a) s:=by
 have ne:∀ b u,H b≈u->(∀ ψ,u≠.ext ψ)->b≠a:=λb u q n z=>by rw[z,ha]at q;cases q;exact n _ rfl
 have F7:∀ b,H b=none->del H a b=none:=λb q=>by
  unfold del;split
  ·rfl
  ·exact q
 refine⟨I.ok,I.os,I.bare,⟨I.base.keep,I.base.slot,λb u q n hx=>F7 b (I.base.free b u q n hx),I.base.there,λb xs q=>?_,λb u xs q=>?_,λb ps q=>?_⟩,
  I.loc,I.cell,F7 _ I.free,λx c q=>F7 _ (I.freeC x c q),λp hp=>?_,λb u q=>?_,I.len⟩
 ·have z:=I.base.tups b xs q;rw[K1 (ne b _ z λ_ q=>nomatch q)];exact z
 ·have z:=I.base.frzs b u xs q;rw[K1 (ne b _ z λ_ q=>nomatch q)];exact z
 ·obtain⟨m,z⟩:=I.base.tbls b ps q;exact⟨m,by rw[K1 (ne b _ z λ_ q=>nomatch q)];exact z⟩
 ·obtain⟨p1,p2,p3,p4,p5⟩:=I.pin p hp;exact⟨p1,F7 _ p2,p3,p4,p5⟩
 ·have hb:b≠a:=λz=>by rw[z,RB]at q;cases q
  rw[K1 hb]at q;exact(I.hok b u q).stay (λ_ _ _ z=>z) (λc z=>by rw[K1 (ne c _ z λ_ q=>nomatch q)];exact z) λc xs z=>by rw[K1 (ne c _ z λ_ q=>nomatch q)];exact z
end
section
variable {X:Cx}{C D f:μ}{fd:FuncData}{k:Nat}{x dn a:Str}{np AQ pos apos pos':Pos}{e o value:Expr}{es:τ}{t:TA}{ta tv:TE}{ps:LS}
inductive nR(K:Fg)(Q:VK)(vs:LV)(H1:Hp):Prop
 | mk:∀ x C ws,vs=.ref x :: ws->↑ws<=100->ExC K C->H1 x≈(XN x C)->Q .non H1->nR K Q vs H1
def oY(K:Fg)(t:TA):TE:=λσ H Q=>t σ H λvs H1=>nR K Q vs H1
def OL{pl:Sem Bool}(d:LZ X.K D)(hg:Gl X dn)(hm:X.mg dn≈(.ref D))(ha:PA X (e :: es) t)(hdb:(dn == ("__debug__":Str))=false:=by decide)
  (hst:starEach (e :: es) X.env=3.4:: starEach es X.env:=by rfl) (hpl:(backTo AQ 3.6).any 0.5=false:=by rfl)
  (ht:eval (.Call (.Attribute (.Name dn np) "__init__" apos) (e :: es) [] AQ) X.env=(eval (.Name dn np) X.env>>=λov=>standAt apos.atName>>=λ_=>holding [ov] (getMethod ov "__init__" pl)>>=λr=>callWith AQ r.1 r.2 (backTo AQ (starEach (e :: es) X.env)) (backToKw AQ 13.6)):=by rfl):
  PE X (.Call (.Attribute (.Name dn np) "__init__" apos) (e :: es) [] AQ) (oY X.K t):=by
 ac_rfl;refine W.methodCall_KW (pl:=pl) 13.8 ht;refine W.method_cls I.kIn d.ga (W.cls_value I.kIn d.rd d.fi rfl ?_);have I0:Inv X ρ σ H {s with toks:=s.toks + 1}:=I.tok _;refine PyProof.Rows.callWith_builtin1 (AK (ha AQ ρ _ σ H _ I0 h) λus s1 ⟨vs,H1,I1,r,x,C,ws,ev,hl,c,hx,q⟩=>?_) hst hpl;subst ev;obtain⟨u,Bn,eu,r1,r2⟩:∃ u Bn,us=u :: Bn/\Aj (.ref x) u/\Aa ws Bn:=by cases r with | cons a b=>exact⟨_,_,rfl,a,b⟩
 subst eu;obtain rfl:u=Value.ref x:=r1
 ·skip
  have ok:BI X.prog X.w H1 s1.heap x (XN x C):=I1.hok x _ hx;obtain⟨⟨t0,he⟩,_,_⟩:=ok;obtain⟨hp,g,dr,tk,os⟩:=s1;dsimp only at he;refine wpAny_call (iU (t0:=t0) I1.kIn c he (by rw[<- ↑r2,sizeLine_eq];omega) ?_);refine⟨.non,H1,?_,Y,q⟩;have hs:x≠hp.objs.size:=Ys (Yh he);have Kj:(hp.push (En Bn)).get? x≈(CN C t0):=Yb _ he;have up:upd H1 x (XN x C)=H1:=by
   funext b
   unfold upd;split
   ·rename_i z;rw[z];exact hx.symm
   ·rfl
  have W:=I1.write (x:=x) (e:=x) (o:=XN x C) (t':=tk) (h':=(hp.push (En Bn)).update x (Obj.mapFields (·.setIfInBounds 0 (.ref hp.objs.size)))) (by rw[hx];exact True.intro) (.inl rfl)
   (λb u hb z=>(IA _ _ (Yz hb)).trans (Yb _ z)) ⟨_,Gq _ Kj rfl⟩
   ⟨⟨hp.objs.size,Gq _ Kj rfl⟩,⟨_,Gq _ Kj rfl⟩,λh1 h2 ⟨t1,q1⟩ k=>⟨t1,k _ q1⟩⟩
  rw[up]at W;exact W
inductive mM(K:Fg)(D:μ)(a:Str)(B:Dl)(σ:St)(y:V)(x:V)(H2:Hp):Prop
 | mk:∀ e C,x=.ref e->H2 e≈(XN e C)->Cw K C D a->(∀ dx,H2 dx=none->B.nx σ (upd (upd H2 e (XM e C dx)) dx (.xd [(a,y)])))->mM K D a B σ y x H2
def oh(K:Fg)(D:μ)(ta tv:TE)(a:Str):TS:=λB σ H=>tv σ H λy H1=>ta σ H1 λx H2=>mM K D a B σ y x H2
def OD(ha:PE X o ta)(hv:PE X value tv)(hs:swapsWith value (↥(.Attribute o a pos')) pos.line X.env=pure false:=by rfl):PS X (.Assign [.Attribute o a pos'] value pos) (oh X.K D ta tv a):=by
 intro ρ s σ H B I h;refine plainObj_wpAny_Assign_Attribute (AK (hv ρ s σ H _ I h) λu s1 ⟨y,H1,I1,ry,q⟩=>AK (ha ρ s1 σ H1 _ I1 q) λov s2 ⟨x,H2,I2,rx,e,C,ex,hx,c,q2⟩=>?_) hs;subst ex;obtain rfl:ov=Value.ref e:=rx;have ok:BI X.prog X.w H2 s2.heap e (XN e C):=I2.hok e _ hx;obtain⟨⟨t0,he⟩,_,_⟩:=ok;refine xu I2.kIn c he λh' dx hdx Kk hn k=>?_;have dR:H2 dx=none:=I2.hok.fresh hdx;have hde:dx≠e:=CJ (Yp (Yh he) hdx);refine⟨σ,_,?_,q2 dx dR⟩;have W:=I2.write (x:=e) (e:=e) (o:=XM e C dx) (t':=s2.toks + 2) (h':=h') (by rw[hx];exact True.intro) (.inl rfl) (λb u hb z=>k b u hb z) ⟨_,Kk⟩ ⟨⟨t0,Kk⟩,⟨_,Kk⟩,λh1 h2 ⟨t1,q1⟩ k=>⟨t1,k _ q1⟩⟩;refine W.track ?_ ⟨_,hn,λf=>?_⟩
 ·refine I2.fpOk hdx ?_;rw[AD hde];exact dR
 ·by_cases q:f=a
  ·subst q;simp only[List.lookup,beq_self_eq_true,if_true];exact ry
  ·have hb:(f == a)=false:=Mx.mpr q;simp only[List.lookup,hb,if_neg q];exact True.intro
inductive B0(C:μ)(a:Str)(ok:V->Hp->Prop)(vs:LV)(H:Hp)(Q:VK)(AO:XK):Prop
 | mk:∀ x y,vs=[.ref x,y]->ok y H->H x≈(XN x C)->(∀ dx,H dx=none->Q .non (upd (upd H x (XM x C dx)) dx (.xd [(a,y)])))->B0 C a ok vs H Q AO
inductive kQ(E:XK)(C:μ)(a:Str)(ok:V->Hp->Prop)(vs:LV)(H1:Hp):Prop
 | mk:∀ y,vs=[y]->(∀ x,H1 x=none->ok y (upd H1 x (XN x C)))->(∀ dx,H1 dx=none->E (.ref C) (↥dx) (upd H1 dx (.xd [(a,y)])))->kQ E C a ok vs H1
def Ydt(E:XK)(C:μ)(a:Str)(ok:V->Hp->Prop)(t:TA):TS:=λoG σ H=>t σ H λvs H1=>kQ E C a ok vs H1
def Hz{E:XK}{ok:V->Hp->Prop}(Fx:Ak X E)(hh:X.A.handled=none)(c:ExC X.K C)(hi:W.findIn X.K (.ref C) "__init__"≈14.4)(hf:W.typeIn X.K (.ref f)≈(.type "function"))
  (F:AV X.prog X.w X.K X.mg X.base IF k f fd ps (B0 C a ok)) (hr:AZ (k + 1) X.A) (hb:Bw X.K fd ps []) (hg:Gl X x) (hm:X.mg x≈(.ref C)) (ha:PA X (e :: es) t)
  (hdb:(x == ("__debug__":Str))=false:=by decide) (he:starEach (e :: es) X.env=3.4:: starEach es X.env:=by rfl) (hpl:(backTo AQ 3.6).any 0.5=false:=by rfl):
  PS X (.Raise (↥(.Call (.Name x np) (e :: es) [] AQ)) none pos) (Ydt E C a ok t):=by
 intro ρ s σ H B I h;refine YW c hh (wpAny_Call_Name_kw 13.8);refine W.callWith_K (h₀:=X.base) I.ok.mod.kin c.kp (AK (ha AQ ρ s σ H _ I h) λus s1 ⟨vs,H1,I1,r,y,ev,hy,q⟩=>⟨I1.kIn,?_⟩) he hpl;subst ev;rw[Om];have rl:↑us=1:=r.length.symm;obtain⟨hp,g,dr,tk,os⟩:=s1;refine Xk I1.kIn c hi (λself=>W.bind_fn (I1.kIn.keeps λb o q=>Yb _ (Yb _ q)) self hf) (by rw[rl,sizeLine_eq];decide) ?_;have got:((hp.push (En us)).push 7.3).get? 1.0≈7.3:=Ry (by rw[IB]) rfl;have n0:H1 1.0=none:=I1.hok.fresh (Gv _);have I2:Inv X ρ σ 12.8 ⟨(hp.push (En us)).push 7.3,g,dr,tk,os⟩ :=
  I1.laid (t':=tk) (λb u q=>Yb _ (Yb _ q)) (Gv _) ⟨⟨_,got⟩,⟨_,got⟩,λh1 h2 ⟨t1,q1⟩ k=>⟨t1,k _ q1⟩⟩
 have r2:Aa [V.ref 1.0,y] (Value.ref 1.0:: us):=.cons rfl r;have hq:B0 C a ok [V.ref 1.0,y] 12.8 (λv H2=>v=.non/\∃ dx,H1 dx=none/\dx≠hp.objs.size + 1/\H2=upd (upd 12.8 1.0 (XM 1.0 C dx)) dx (.xd [(a,y)])) (λ_ _ _=>False):=by
  refine⟨_,y,Y,hy _ n0,uS,λdx hd=>⟨Y,dx,?_,?_,Y⟩⟩
  ·by_cases z:dx=hp.objs.size + 1
   ·rw[z];exact n0
   ·rw[AD z]at hd;exact hd
  ·intro z;rw[z,uS]at hd;cases hd
 have hl:↑(Value.ref 1.0:: us++[])=↑ps:=by rw[Dv,<- ↑r2];exact F.len _ _ _ _ hq
 have b:=hb _ (Value.ref 1.0:: us) I2.kIn hl;rw[Dv]at b;refine codeAny_mono (F.run _ X.stack _ _ ⟨Value.ref 1.0:: us,[]⟩ (Value.ref 1.0:: us) _ _ (λ_ _ _=>False) (hr.make C us []) (I2.env0.make C us []) b r2 hq) λr s' Ce=>?_;cases r with
 | error ev=>exact False.elim Ce
 | ok fl =>
  cases fl with
  | ret u =>
   obtain⟨v,H',I3,rv,ev,dx,d1,d2,eH⟩:=I2.after Ce;subst ev;have hx:H' 1.0≈(XM 1.0 C dx):=by rw[eH,AD (Yz d2),uS]
   have V0:BI X.prog X.w H' s'.heap _ (XM 1.0 C dx):=I3.hok _ _ hx;obtain⟨⟨t0,g0⟩,_,_⟩:=V0;have eq:del H' 1.0=upd H1 dx (.xd [(a,y)]):=by
    funext b
    by_cases z:b=hp.objs.size + 1
    ·rw[z,RB,AD (Yz d2),n0]
    ·rw[K1 z,eH];by_cases z':b=dx
     ·rw[z',uS,uS]
     ·rw[AD z',AD z',AD z,AD z]
   have I4:=I3.untrack hx (BU I1.sz (Gv _));refine⟨rv,hp.objs.size + 1,t0,↥dx,#[],Y,I4.kIn,g0,?_⟩;exact Fx.raised I4 (I1.fpOk (Gv _) RB) g0 rfl rfl (by rw[eq];exact q dx d1)
  | next=>exact False.elim Ce
  | brk=>exact False.elim Ce
  | cont=>exact False.elim Ce
inductive nY(K:Fg)(D:μ)(a:Str)(Q:VK)(x:V)(H1:Hp):Prop
 | mk:∀ e C dx fs v,x=.ref e->H1 e≈(XO e C (↥dx))->H1 dx≈(.xd fs)->Cw K C D a->fs.lookup a≈v->Q v H1->nY K D a Q x H1
def oP(K:Fg)(D:μ)(ta:TE)(a:Str):TE:=λσ H Q=>ta σ H λx H1=>nY K D a Q x H1
def Xi(ha:PE X o ta)(hb:attributeBase o a X.env (eval o X.env)=eval o X.env:=by rfl):PE X (.Attribute o a pos) (oP X.K D ta a):=by
 ac_rfl;refine eR hb (AK (ha ρ s σ H _ I h) λu s1 ⟨x,H1,I1,rx,e,C,dx,fs,v,ex,hx,hd,c,l,q⟩=>?_);subst ex;obtain rfl:u=Value.ref e:=rx;have ok:BI X.prog X.w H1 s1.heap e (XO e C (↥dx)):=I1.hok e _ hx;obtain⟨⟨oe,h1,h2,h3,h4⟩,_,_⟩:=ok;have okd:BI X.prog X.w H1 s1.heap dx (.xd fs):=I1.hok dx _ hd;obtain⟨mA,n,r⟩:=okd;obtain⟨od,ho,hl⟩:=ig n;obtain⟨u,hu,ru⟩:=Eh.some_of (v:=v) (o:=mA a) (by rw[<- l];exact r a);exact xn (ox:=oe) (od:=od) I1.kIn c ⟨h1,h2,h4,by rw[h3];exact ho⟩ (by rw[hl,hu]) (iY ru) ⟨v,H1,I1.tok _,ru,q⟩
end
structure Tp(K:Fg)(x:Str)(st:Stmt)(f:μ)(fd:FuncData):Prop where
 a:W.nsIn K mainGlobals x≈14.4
 fn:BK K x x st f fd
structure Mp(K:Fg)(C:μ)(x q:Str)(st:Stmt)(f:μ)(fd:FuncData):Prop where
 a:W.findIn K (.ref C) x≈14.4
 i:W.isFn K (.ref f)=true
 fn:BK K x q st f fd
structure Cp(K:Fg)(x:Str)(C:μ):Prop where
 a:W.nsIn K mainGlobals x≈(↥(.ref C))
 pg:W.plainGet K C Str.empty=true
 hd:W.hasDictIn K C=true
 po:W.plainOver K C=true
 sa:W.findIn K (.ref C) "__setattr__"≈(↥(.builtin "object.__setattr__"))
 mx:W.makesIn K C=true
 kc:W.keepIn K (.ref C)=true
section
variable {K:Fg}{x q:Str}{st:Stmt}{f C:μ}{oc:δ}{od an:Option μ}{osl:Array (OU)}{kV doc pm BC ct:δ}
def tp(a:W.nsIn K mainGlobals x≈14.4)(l:K.lookup f≈⟨oc,od,.func (W.fnOf x x (Gk st) (DU st) (AN st) .none kV doc pm an BC ct),osl⟩)(c:W.codeIn K BC x=true)(k:W.keepIn K (.ref f)=true):
  Tp K x st f (W.fnOf x x (Gk st) (DU st) (AN st) .none kV doc pm an BC ct):=⟨a,ky l c k⟩
def mp(a:W.findIn K (.ref C) x≈14.4)(i:W.isFn K (.ref f)=true)(l:K.lookup f≈⟨oc,od,.func 2.9,osl⟩)(c:W.codeIn K BC q=true)(k:W.keepIn K (.ref f)=true):
  Mp K C x q st f 2.9:=⟨a,i,ky l c k⟩
end
section
variable {K:Fg}{mg:Str->OU}{x q:Str}{st:Stmt}{f:μ}{fd:FuncData}{h:Heap}
def cu{us:LU}(h:↑us=1):∃ a,us=[a]:=List.length_eq_one_iff.mp h
def ln2{us:LU}(h:↑us=2):∃ a b,us=[a,b]:=by
 cases us with
 | nil=>cases h
 | cons a r=>obtain⟨_,rfl⟩:=cu (Nat.succ.inj h);exact⟨_,Z⟩
def cq{us:LU}(h:↑us=3):∃ a b c,us=[a,b,c]:=by
 cases us with
 | nil=>cases h
 | cons a r=>obtain⟨_,_,rfl⟩:=ln2 (Nat.succ.inj h);exact⟨_,_,Z⟩
def pV{us:LU}(h:↑us=4):∃ a b c d,us=[a,b,c,d]:=by
 cases us with
 | nil=>cases h
 | cons a r=>obtain⟨_,_,_,rfl⟩:=cq (Nat.succ.inj h);exact⟨_,_,_,Z⟩
def Bz(a:Str)(F:BK K x q st f fd)(e:∀(kV doc pm:δ) (an:Option μ) (BC ct u:δ),bindArgs 2.9 ⟨[u],[]⟩=pure ([a].zip [u]):=by intros;rfl):Bw K fd [a] [] :=
 F.binds λ_ _ _ _ _ _ us hl=>by
 obtain⟨_,rfl⟩:=cu hl;exact e ..
def CY(a b:Str)(F:BK K x q st f fd)(e:∀(kV doc pm:δ) (an:Option μ) (BC ct u v:δ),bindArgs 2.9 ⟨[u,v],[]⟩=pure ([a,b].zip [u,v]):=by intros;rfl):Bw K fd [a,b] [] :=
 F.binds λ_ _ _ _ _ _ us hl=>by
 obtain⟨_,_,rfl⟩:=ln2 hl;exact e ..
def Hf(a b c:Str)(F:BK K x q st f fd)(e:∀(kV doc pm:δ) (an:Option μ) (BC ct u v w:δ),bindArgs 2.9 ⟨[u,v,w],[]⟩=pure ([a,b,c].zip [u,v,w]):=by intros;rfl):Bw K fd [a,b,c] [] :=
 F.binds λ_ _ _ _ _ _ us hl=>by
 obtain⟨_,_,_,rfl⟩:=cq hl;exact e ..
def qu(a b c d:Str)(F:BK K x q st f fd)(e:∀(kV doc pm:δ) (an:Option μ) (BC ct u v w y:δ),bindArgs 2.9 ⟨[u,v,w,y],[]⟩=pure ([a,b,c,d].zip [u,v,w,y]):=by intros;rfl):Bw K fd [a,b,c,d] [] :=
 F.binds λ_ _ _ _ _ _ us hl=>by
 obtain⟨_,_,_,_,rfl⟩:=pV hl;exact e ..
def df{ps:LS}(X:K.In h)(G:h.Ns mainGlobals mg)(T:Tp K x st f fd)(b:Bw K fd ps []):Def K mg x st ps f fd:=⟨T.fn,b,W.mg_of X G T.a⟩
theorem Tp.ex{x q:Str}(F:BK K x q st f fd):∃(kV doc pm:δ) (an:Option μ) (BC ct:δ),fd=W.fnOf x q (Gk st) (DU st) (AN st) .none kV doc pm an BC ct:=by
 obtain⟨oc,od,kV,doc,pm,an,BC,ct,osl,e,_⟩:=F.ex;exact⟨kV,doc,pm,an,BC,ct,e⟩
end
structure Qp(K:Fg)(x:Str)(C:μ):Prop where
 a:W.nsIn K mainGlobals x≈(↥(.ref C))
 cl:W.isClsIn K C=true
 ty:W.typeIn K (.ref C)≈(.type "type")
structure KA(K:Fg)(q Q0 Q1 Q2 Q3 Q4 Q5 Q6 Q7 Q8 Q9 BZ BY BX BW BJ:μ)(b0 b1 b2 b3 b4 b5 b6 b7 b8 b9 q_ q9 q8 qz qy:Bool):Prop where
 f0:W.subIn K (.ref q) (.ref Q0)≈b0
 f1:W.subIn K (.ref q) (.ref Q1)≈b1
 f2:W.subIn K (.ref q) (.ref Q2)≈b2
 f3:W.subIn K (.ref q) (.ref Q3)≈b3
 f4:W.subIn K (.ref q) (.ref Q4)≈b4
 f5:W.subIn K (.ref q) (.ref Q5)≈b5
 f6:W.subIn K (.ref q) (.ref Q6)≈b6
 f7:W.subIn K (.ref q) (.ref Q7)≈b7
 f8:W.subIn K (.ref q) (.ref Q8)≈b8
 f9:W.subIn K (.ref q) (.ref Q9)≈b9
 EO:W.subIn K (.ref q) (.ref BZ)≈q_
 EN:W.subIn K (.ref q) (.ref BY)≈q9
 EM:W.subIn K (.ref q) (.ref BX)≈q8
 EL:W.subIn K (.ref q) (.ref BW)≈qz
 EK:W.subIn K (.ref q) (.ref BJ)≈qy
section
variable {K:Fg}{C D N:μ}{nm q a:Str}{bs sub bm:LU}{hd ab:Bool}{sn:LS}{col:Option Bool}{dd:Option μ}{k0 k1 k2 k3 k5:OU}
def qc(l:K.lookup C≈(excClassObj nm q C N bs bm hd sn sub ab col dd k0 k1 k2 k3 k5 "ValueError.__new__"))(v:W.subIn K (.ref C) (.type "ValueError")≈true)(b:W.subIn K (.ref C) (.type "BaseException")≈true)(t:W.subIn K (.ref C) (.type "AttributeError")≈false)(n:W.subIn K (.ref C) (.type "NameError")≈false)(k:W.keepIn K (.ref C)=true):ExC K C :=
 ⟨⟨_,_,_,_,_,_,_,_,_,_,_,_,_,_,_,_,l⟩,v,b,t,n,k⟩
def qa(l:K.lookup C≈(excClassObj nm q C N bs bm hd sn sub ab col dd k0 k1 k2 k3 k5 "ValueError.__new__"))(v:W.subIn K (.ref C) (.type "ValueError")≈true)(b:W.subIn K (.ref C) (.type "BaseException")≈true)(t:W.subIn K (.ref C) (.type "AttributeError")≈false)(n:W.subIn K (.ref C) (.type "NameError")≈false)(k:W.keepIn K (.ref C)=true)
  (ga:W.findIn K (.ref C) "__getattribute__"≈(↥(.builtin "BaseException.__getattribute__"))) (gt:W.findIn K (.ref C) "__getattr__"≈none) (ca:W.findIn K (.ref C) "__class__"≈(↥(.builtin "object.__class__"))) (cg:W.specialIn K (.builtin "object.__class__") "__get__"≈(↥(.builtin "getset_descriptor.__get__"))) (ct:W.takesIn K (.builtin "object.__class__")≈true) (ob:W.mroIn K C (.type "object")≈true):ExA K C:=⟨qc l v b t n k,ga,gt,ca,cg,ct,ob⟩
def qi(l:K.lookup C≈(excClassObj nm q C N bs [.ref D,.type "ValueError",.type "Exception",.type "BaseException",.type "object"] true sn sub ab col dd k0 k1 k2 k3 k5 "ValueError.__new__"))(v:W.subIn K (.ref C) (.type "ValueError")≈true)(b:W.subIn K (.ref C) (.type "BaseException")≈true)(t:W.subIn K (.ref C) (.type "AttributeError")≈false)(n:W.subIn K (.ref C) (.type "NameError")≈false)(k:W.keepIn K (.ref C)=true)
  (ga:W.findIn K (.ref C) "__getattribute__"≈(↥(.builtin "BaseException.__getattribute__"))) (gt:W.findIn K (.ref C) "__getattr__"≈none) (ca:W.findIn K (.ref C) "__class__"≈(↥(.builtin "object.__class__"))) (cg:W.specialIn K (.builtin "object.__class__") "__get__"≈(↥(.builtin "getset_descriptor.__get__"))) (ct:W.takesIn K (.builtin "object.__class__")≈true) (ob:W.mroIn K C (.type "object")≈true) (sa:W.findIn K (.ref C) "__setattr__"≈(↥(.builtin "object.__setattr__"))) (na:W.findIn K (.ref C) a≈none):Cw K C D a:=⟨qa l v b t n k ga gt ca cg ct ob,⟨_,_,_,_,_,_,_,_,_,_,_,_,_,_,l⟩,sa,na⟩
end
section
variable {X:Cx}{ρ:PL}{σ:St}{scope:Scope}{own η:LS}{js:LN}
end
section
variable {X:Cx}{scope:Scope}{own η:LS}{js:LN}{tg iter elt:Expr}{ifs:τ}{wi:TI}{g:TG}{tt:TT}{te:TE}{pos:Pos}
end
section
variable {prog:χ}{w:World}{A:Around}{E:EV}{s:ε}{r:μ}
end
section
variable {X:Cx}
end
section
variable {prog:χ}{w:World}{A:Around}
end
section
variable {X:Cx}
end
section
variable {X:Cx}{ρ:PL}{σ:St}{H:Hp}{s:ε}{a:μ}{o:Obj}{π:List 4.9}
end
end L2
namespace L2
open PySem PySem.Spec PySem.Builtin
def jr:fillsNumberSlot (.type "tuple") "mul"=pure false :=
 fillsNumberSlot_seq (id:="tuple.__mul__") (r:=↥(.builtin "tuple.__rmul__")) F.slot_tuple_mul.lookup 1.2 F.slot_tuple_rmul.lookup 1.2
def jg:seqRepeat? (.type "tuple")=pure (↥(.builtin "tuple.__mul__")):=by
 unfold seqRepeat?;rw[seqSlot_of (T:="tuple") (name:="__mul__") (id:="tuple.__mul__") F.slot_tuple_mul.lookup 1.2,seqSlot_of (T:="tuple") (name:="__rmul__") (id:="tuple.__rmul__") F.slot_tuple_rmul.lookup 1.2];rfl
def jU(a:Int)(t:Tok)(l:μ)(items:ζ)(n:Nat)(dd:Option μ)(sl:Array (OU)):
  Meets (Builtin.«int.__rmul__» ⟨[.int a t,.ref l],[]⟩) (λ_ R s=>s.heap.get? l=some {cls:=.type "tuple",dict:=dd,data:=.seq items n,slots:=sl}/\R (.ok (.ret Value.notImplemented)) s):=
 .of_wp λprog w A R s h=>by obtain⟨hp,g,d,tk,os⟩:=s;obtain⟨hl,h⟩:=h;wp_walk;exact⟨Z,h⟩
def ua(l:μ)(items:ζ)(n:Nat)(dd:Option μ)(sl:Array (OU))(k:Int)(u:Tok)(hb:¬ (decide (k < -(2 ^ 63)) || decide (k ≥ 2 ^ 63))=true)(he:(items.isEmpty || k == 1)=true):
  Meets 11.4 (λ_ R s=>s.heap.get? l=some {cls:=.type "tuple",dict:=dd,data:=.seq items n,slots:=sl}/\R (.ok (.ret (Value.ref l))) {s with heap:=s.heap,toks:=s.toks}):=
 .of_wp λprog w A R s h=>by obtain⟨hp,g,d,tk,os⟩:=s;obtain⟨hl,h⟩:=h;have f1:=AutoSeq1.idx_int;have f2:=Zm;wp_walk using wpAny_loadPart' hl;rw[if_neg hb];wp_walk using wpAny_loadPart' hl;exact⟨Z,h⟩
def ub(l:μ)(items:ζ)(n:Nat)(dd:Option μ)(sl:Array (OU))(k:Int)(u:Tok)(hb:¬ (decide (k < -(2 ^ 63)) || decide (k ≥ 2 ^ 63))=true)(he:¬ (items.isEmpty || k == 1)=true)(h0:¬ (decide (k<=0) || items.isEmpty)=true)
  (hm:¬ (items.size * k > (2 ^ 63 - 1) / 8)) (ht:¬ Builtin.Tuple.tupleTooMany (items.size * k)=true) (hsz:((List.replicate k.toNat items).foldl (·++·) #[]).size<=sizeLine):
  Meets 11.4 (λ_ R s=>s.heap.get? l=some {cls:=.type "tuple",dict:=dd,data:=.seq items n,slots:=sl}/\R (.ok (.ret (Value.ref ⇑s))) {s with heap:=s.heap.push {cls:=Value.type "tuple",data:=Data.seq ((List.replicate k.toNat items).foldl (·++·) #[]) },toks:=s.toks}):=
 .of_wp λprog w A R s h=>by obtain⟨hp,g,d,tk,os⟩:=s;obtain⟨hl,h⟩:=h;have f1:=AutoSeq1.idx_int;have f2:=Zm;wp_walk using wpAny_loadPart' hl;rw[if_neg hb];wp_walk using wpAny_loadPart' hl;rw[if_neg hm];wp_walk using wpAny_loadPart' hl;exact⟨Z,h⟩
def yJ{a:Int}(h:a<=100000):¬ (a > (2 ^ 63 - 1) / 8):=by
 have:(100000:Int)<=(2 ^ 63 - 1) / 8:=by decide
 omega
section
variable {X:Cx}
inductive kT(K:Fg)(x:V)(y:V)(H:Hp)(Q:VK):Prop
 | mk:∀ a k xs,x=.ref a->y=.int k->AH K H a xs->0<k->k<=1000->↑xs<=100->((xs=[]\/k=1)->Q (.ref a) H)->(xs≠[]->k≠1->∀ p,H p=none->Q (.ref p) (upd H p (.tup (List.replicate k.toNat xs).flatten)))->kT K x y H Q
def yt:Bd X (binaryOp .Mult) (kT X.K):=by
 exfalso;obtain⟨a,k,xs,rfl,rfl,ha,k0,k1,xl,q0,q1⟩:=h;cases rx;obtain⟨t,rfl⟩:=ry;obtain⟨ν,r,p1,hz⟩:=I.tuple ha;have hl:=↑r;obtain⟨⟨cls,dd,data,sl⟩,ho,hc,n,hd⟩:=id p1;simp only at hc hd;subst hc hd;have hb:¬ (decide (k < -(2 ^ 63)) || decide (k ≥ 2 ^ 63))=true:=by
  rw[Jc 0.0,Jc 0.0];exact Yl
 refine wpAny_binaryOp_repeat_ref (T:="tuple") (U:="int") 0.2 ⟨_,ho,rfl⟩ (λs'=>typeIs_int s' k t) jr F.fills_int_mul F.slot_int_rmul jg F.slot_int_index.lookup
  (Rp F.slot_int_rmul (typeIs_int s k t) F.entry_int_rmul (F.args_int_rmul_2 _ _) (jU k t a ν.toArray n dd sl) ⟨ho,rfl,⟨_,ho,rfl⟩,?_⟩)
 by_cases he:xs=[]\/k=1
 ·have e:(ν.toArray.isEmpty || k == 1)=true:=by
   rcases he with z | z
   ·rw[r.nil_iff.mpr z];rfl
   ·rw[z];simp
  exact Rp F.slot_tuple_mul ⟨_,ho,rfl⟩ F.entry_tuple_mul (F.args_tuple_mul_2 _ _) (ua a ν.toArray n dd sl k t hb e) ⟨ho,⟨.ref a,H,I,rfl,q0 he⟩⟩
 ·have hx:xs≠[]:=λz=>he (.inl z);have hk:k≠1:=λz=>he (.inr z);have hi:ν≠[]:=λz=>hx (r.nil_iff.mp z);have ie:ν.toArray.isEmpty=false:=by simpa using hi
  have Aq:List.foldl (λx1 x2=>x1++x2) #[] (List.replicate k.toNat ν.toArray)=(List.replicate k.toNat ν).flatten.toArray:=by
   have:=iV ν k.toNat [];rw[Om]at this;exact this
  have hle:(List.replicate k.toNat ν).flatten.length<=100000:=by
   rw[XD,<- hl];have h1:k.toNat<=1000:=by omega
   calc k.toNat * ↑xs<=1000 * 100:=Nat.mul_le_mul h1 xl
    _=100000:=rfl
  have hs:((List.replicate k.toNat ν.toArray).foldl (·++·) #[]).size<=sizeLine:=by
   rw[Aq,Yj];exact sL hle
  have prod:(ν.toArray.size:Int) * k<=100000:=by
   rw[Yj,<- hl];have h1:k.toNat<=1000:=by omega
   have:↑xs * k.toNat<=100 * 1000:=Nat.mul_le_mul xl h1;have e:((↑xs:Nat):Int) * k=((↑xs * k.toNat:Nat):Int):=by rw[Int.natCast_mul];congr 1;omega
   rw[e];omega
  refine Rp F.slot_tuple_mul ⟨_,ho,Y⟩ F.entry_tuple_mul (F.args_tuple_mul_2 _ _) (ub a ν.toArray n dd sl k t hb (by rw[ie,Ot];simpa using hk) (by rw[ie,Bool.or_false,Jc 0.0];exact Yl) (yJ prod) (by
   unfold Builtin.Tuple.tupleTooMany;rw[Jc (by rw[sizeLine_eq];omega)];exact Yl) hs) ⟨ho,?_⟩
  rw[Aq];refine⟨.ref _,_,I.laid (t':=s.toks) (o:=.tup (List.replicate k.toNat xs).flatten) (λb ob q=>Yb _ q) (Ye _) ?_,Y,q1 hx hk _ 6.9⟩;exact⟨by rw[XD,hl,<- XD];exact sL hle,_,r.rep k.toNat,_,Yk _ rfl,Y,Z⟩
end
end L2
namespace L2
open PySem PySem.Spec PyProof.Rows
section
variable {X:Cx}{C D f:μ}{fd:FuncData}{k:Nat}{x dn a:Str}{np AQ pos apos pos':Pos}{e o value:Expr}{es:τ}{t:TA}{ta tv:TE}{ps:LS}
inductive Oe(C:μ)(a:Str)(vs:LV)(H:Hp)(Q:VK)(AO:XK):Prop
 | mk:∀(x r:μ) (ys:LS),vs=[.ref x,.ref r]->H r≈(.lst 14.2)->↑ys<=100->(∀ y∈ys,C2 y)->H x≈(XN x C)->(∀ l dx,H l=none->(upd H l (.lst 14.2)) dx=none->Q .non (upd (upd (upd H l (.lst 14.2)) x (XM x C dx)) dx (.xd [(a,.ref l)])))->Oe C a vs H Q AO
inductive kR(E:XK)(C:μ)(a:Str)(vs:LV)(H1:Hp):Prop
 | mk:∀(r:μ) (ys:LS),vs=[.ref r]->H1 r≈(.lst 14.2)->↑ys<=100->(∀ y∈ys,C2 y)->(∀ l dx,H1 l=none->H1 dx=none->l≠dx->E (.ref C) (↥dx) (upd (upd H1 l (.lst 14.2)) dx (.xd [(a,.ref l)])))->kR E C a vs H1
def Yds(E:XK)(C:μ)(a:Str)(t:TA):TS:=λoG σ H=>t σ H λvs H1=>kR E C a vs H1
def tm{E:XK}(Fx:Ak X E)(hh:X.A.handled=none)(c:ExC X.K C)(hi:W.findIn X.K (.ref C) "__init__"≈14.4)(hf:W.typeIn X.K (.ref f)≈(.type "function"))
  (F:AV X.prog X.w X.K X.mg X.base IF k f fd ps (Oe C a)) (hr:AZ (k + 1) X.A) (hb:Bw X.K fd ps []) (hg:Gl X x) (hm:X.mg x≈(.ref C)) (ha:PA X (e :: es) t)
  (hdb:(x == ("__debug__":Str))=false:=by decide) (he:starEach (e :: es) X.env=3.4:: starEach es X.env:=by rfl) (hpl:(backTo AQ 3.6).any 0.5=false:=by rfl):
  PS X (.Raise (↥(.Call (.Name x np) (e :: es) [] AQ)) none pos) (Yds E C a t):=by
 intro ρ s σ H B I h;refine YW c hh (wpAny_Call_Name_kw 13.8);refine W.callWith_K (h₀:=X.base) I.ok.mod.kin c.kp (AK (ha AQ ρ s σ H _ I h) λus s1 ⟨vs,H1,I1,r,ra,ys,ev,hra,Dj,hsh,q⟩=>⟨I1.kIn,?_⟩) he hpl;subst ev;rw[Om];have rl:↑us=1:=r.length.symm;obtain⟨hp,g,dr,tk,os⟩:=s1;refine Xk I1.kIn c hi (λself=>W.bind_fn (I1.kIn.keeps λb o q=>Yb _ (Yb _ q)) self hf) (by rw[rl,sizeLine_eq];decide) ?_;have got:((hp.push (En us)).push 7.3).get? 1.0≈7.3:=Ry (by rw[IB]) rfl;have n0:H1 1.0=none:=I1.hok.fresh (Gv _);have I2:Inv X ρ σ 12.8 ⟨(hp.push (En us)).push 7.3,g,dr,tk,os⟩ :=
  I1.laid (t':=tk) (λb u q=>Yb _ (Yb _ q)) (Gv _) ⟨⟨_,got⟩,⟨_,got⟩,λh1 h2 ⟨t1,q1⟩ k=>⟨t1,k _ q1⟩⟩
 have r2:Aa [V.ref 1.0,V.ref ra] (Value.ref 1.0:: us):=.cons rfl r;have nr:ra≠hp.objs.size + 1:=AI hra n0;have hq:Oe C a [V.ref 1.0,V.ref ra] 12.8 (λv H2=>v=.non/\∃ l dx,H1 l=none/\H1 dx=none/\l≠hp.objs.size + 1/\dx≠hp.objs.size + 1/\l≠dx/\H2=upd (upd (upd 12.8 l (.lst 14.2)) 1.0 (XM 1.0 C dx)) dx (.xd [(a,.ref l)])) (λ_ _ _=>False):=by
  refine⟨_,ra,ys,Y,by rw[AD nr];exact hra,Dj,hsh,uS,λl dx GX hd=>?_⟩;have l1:l≠hp.objs.size + 1:=λz=>by rw[z,uS]at GX;cases GX
  have l2:l≠dx:=λz=>by rw[z,uS]at hd;cases hd
  rw[AD l1]at GX;rw[AD (Yz l2)]at hd;have d1:dx≠hp.objs.size + 1:=λz=>by rw[z,uS]at hd;cases hd
  rw[AD d1]at hd;exact⟨Y,l,dx,GX,hd,l1,d1,l2,Y⟩
 have hl:↑(Value.ref 1.0:: us++[])=↑ps:=by rw[Dv,<- ↑r2];exact F.len _ _ _ _ hq
 have b:=hb _ (Value.ref 1.0:: us) I2.kIn hl;rw[Dv]at b;refine codeAny_mono (F.run _ X.stack _ _ ⟨Value.ref 1.0:: us,[]⟩ (Value.ref 1.0:: us) _ _ (λ_ _ _=>False) (hr.make C us []) (I2.env0.make C us []) b r2 hq) λr s' Ce=>?_;cases r with
 | error ev=>exact False.elim Ce
 | ok fl =>
  cases fl with
  | ret u =>
   obtain⟨v,H',I3,rv,ev,l,dx,q1,d1,l1,d2,l2,eH⟩:=I2.after Ce;subst ev;have hx:H' 1.0≈(XM 1.0 C dx):=by rw[eH,AD (Yz d2),uS]
   have V0:BI X.prog X.w H' s'.heap _ (XM 1.0 C dx):=I3.hok _ _ hx;obtain⟨⟨t0,g0⟩,_,_⟩:=V0;have eq:del H' 1.0=upd (upd H1 l (.lst 14.2)) dx (.xd [(a,.ref l)]):=by
    funext b
    by_cases z:b=hp.objs.size + 1
    ·rw[z,RB,AD (Yz d2),AD (Yz l1),n0]
    ·rw[K1 z,eH];by_cases z':b=dx
     ·rw[z',uS,uS]
     ·rw[AD z',AD z',AD z];by_cases z2:b=l
      ·rw[z2,uS,uS]
      ·rw[AD z2,AD z2,AD z]
   have I4:=I3.untrack hx (BU I1.sz (Gv _));refine⟨rv,hp.objs.size + 1,t0,↥dx,#[],Y,I4.kIn,g0,?_⟩;exact Fx.raised I4 (I1.fpOk (Gv _) RB) g0 rfl rfl (by rw[eq];exact q l dx q1 d1 l2)
  | next=>exact False.elim Ce
  | brk=>exact False.elim Ce
  | cont=>exact False.elim Ce
end
end L2
namespace L2
open PySem PySem.Spec PySem.Builtin
section
variable {X:Cx}
end
section
variable {X:Cx}
end
end L2
namespace L2
open PySem PySem.Spec PyProof.Rows
structure vy(h:Heap)(z ti to i1 i2 l1 l2:μ)(k:Nat)(f:δ):Prop where
 z:IsZip h z ti to f
 ti:IsPair h ti (.ref i1) (.ref i2)
 to:∃ a b,IsPair h to a b
 i1:h.IsListIter i1 l1 k
 i2:h.IsListIter i2 l2 k
section
variable {prog:χ}{w:World}{A:Around}{E:EV}{s:ε}
def rz{l1 l2:μ}{xs ys:ζ}{Q:EV}(t1:s.heap.IsList l1 xs)(t2:s.heap.IsList l2 ys)
  (q:∀ g,vy g (⇑s + 4) (⇑s + 2) (⇑s + 3) ⇑s 7.2 l1 l2 0 .none->(∀ c o,s.heap.get? c≈o->g.get? c≈o)->Q (.ref (⇑s + 4)) {s with heap:=g}):
  wpAny 0.6 A (call (.type "zip") [.ref l1,.ref l2]) Q E s :=
 call_zip_2 t1 t2 λg a1 a2 a3 a4 a5 _ a7=>q g ⟨a1,a2,⟨_,_,a3⟩,a4,a5⟩ a7
end
section
variable {X:Cx}
end
abbrev Mj(h:Heap)(z TI TO:μ)(f0:δ)(f:Bool):Prop:=h.get? z=some {cls:=.type "zip",dict:=none,data:=.fields #[f0,.bool f,.bool false,.ref TI,.ref TO],slots:=#[] }
section
variable {prog:χ}{w:World}{A:Around}{E:EV}{s:ε}
def jJ{z TI TO a:μ}{f:Bool}{oa:Obj}{Q:Bool->ε->Prop}(hz:Mj s.heap z TI TO (rawInt a) f)(ha:s.heap.get? a≈oa)
  (hQ:∀ h',Mj h' z TI TO (rawInt a) true->Heap.SameBut z s.heap h'->Q false {s with heap:=h' }):wpAny 0.6 A (Builtin.SmallTypes.ownedTupleIsFree (.ref z)) Q E s:=by
 unfold Builtin.SmallTypes.ownedTupleIsFree;refine Ja (Jg hz rfl (x:=rawInt a) rfl ?_);show wpAny _ _ (loadIfAlive ((a:Int).toNat)>>=_) _ _ _;rw[Mt];refine Ja (W.kdx_alive ha ?_);simp only[Option.isNone_some,Oi,if_false];refine Ja (Jg hz rfl (x:=.bool f) rfl ?_);cases f with
 | true =>
  rw[if_neg (show ¬ ((Value.bool true != Value.bool true)=true)from Yl)];exact Jd (hQ _ hz (Heap.SameBut.refl _ _))
 | false =>
  rw[if_pos (show(Value.bool false != Value.bool true)=true from rfl)];exact Ja (wpAny_setField_rec hz 1.1 λh₃ he₃ hs₃=>Jd (hQ _ he₃ hs₃))
def vw{z TI TO i1 i2 l1 l2 a:μ}{f:Bool}{oa:Obj}{k1 k2:Nat}{xs ys:ζ}{x y:δ}{Q:EV}(D:ZipApart z TI TO i1 i2 l1 l2)(hz:Mj s.heap z TI TO (rawInt a) f)(ha:s.heap.get? a≈oa)(hTI:IsPair s.heap TI (.ref i1) (.ref i2))
  (h1:s.heap.IsListIter i1 l1 k1) (h2:s.heap.IsListIter i2 l2 k2) (A6:s.heap.IsList l1 xs) (Ao:s.heap.IsList l2 ys) (hx:xs[k1]?≈x) (hy:ys[k2]?≈y)
  (hQ:∀ h',Mj h' z TI TO (rawInt a) true->h'.IsListIter i1 l1 (k1 + 1)->h'.IsListIter i2 l2 (k2 + 1)->IsPair h' ⇑s x y->h'.objs.size=⇑s + 1 ->
   (∀ c o,c≠z->c≠i1->c≠i2->s.heap.get? c≈o->h'.get? c≈o)->Q (.ref ⇑s) {s with heap:=h' }):
  wpAny 0.6 A (Builtin.«zip.__next__» ⟨[.ref z],[]⟩) (λfin s'=>∃ v,fin=.done (.ret v)/\Q v s') E s:=by
 show wpAny _ _ (field (.ref z) 2>>=_) _ _ _;refine Ja (Jg hz rfl (x:=.bool false) rfl ?_);show wpAny _ _ (field (.ref z) 3>>=_) _ _ _;refine Ja (Jg hz rfl (x:=.ref TI) rfl ?_);refine Ja (wpAny_seqItems hTI rfl ?_);show wpAny _ _ (Builtin.SmallTypes.ownedTupleIsFree (.ref z)>>=_) _ _ _;refine Ja (jJ hz ha λh₁ hz₁ hs₁=>?_);simp only[Oi,if_false,List.forIn_toArray,List.forIn_cons,List.forIn_nil];refine Ja (Ja (Ja (Jj ?_)));show wpAny _ _ (Builtin.SmallTypes.nextOf (.ref i1)>>=_) _ _ _;refine Ja 10.5;refine Jd ?_;refine Ja (Ja (Jj ?_));show wpAny _ _ (Builtin.SmallTypes.nextOf (.ref i2)>>=_) _ _ _;refine Ja (wpAny_nextOf_list_item ((h2.extBut hs₁.extBut D.i2z).extBut hs₂.extBut D.i12.symm) ((Ao.extBut hs₁.extBut D.l2z).extBut hs₂.extBut D.l2i1) hy λh₃ qW hs₃=>Jd ?_);refine Jd (Jd ?_);refine Ja (wpAny_newTuple ?_ (by show 2<=sizeLine;rw[sizeLine_eq];decide));have hsz:h₃.objs.size=⇑s:=by rw[hs₃.1,hs₂.1,hs₁.1]
 have hz₃:Mj h₃ z TI TO (rawInt a) true:=hs₃.extBut _ _ D.i2z.symm (hs₂.extBut _ _ D.i1z.symm hz₁);have hk:∀ c o,c≠z->c≠i1->c≠i2->s.heap.get? c≈o->h₃.get? c≈o:=λc o c1 c3 c4 e=>hs₃.extBut _ _ c4 (hs₂.extBut _ _ c3 (hs₁.extBut _ _ c1 e));have qY:h₃.IsListIter i1 l1 (k1 + 1):=dq.extBut hs₃.extBut D.i12;refine Jd ⟨Z,?_⟩;show Q (.ref h₃.objs.size) _;have fin:=hQ (h₃.push {cls:=.type "tuple",data:=.seq #[x,y] }) (Yb _ hz₃) (qY.at λo e=>Yb _ e) (qW.at λo e=>Yb _ e) (by rw[<- hsz];exact Yk _ rfl) (by rw[IB,hsz]) λc o c1 c2 c3 e=>Yb _ (hk c o c1 c2 c3 e);rw[hsz];exact fin
def vh{z TI TO i1 i2 l1 l2 a:μ}{f:Bool}{oa:Obj}{k1 k2:Nat}{xs ys:ζ}{Q:PySem.Fin->ε->Prop}(hh:A.handled=none)(D:ZipApart z TI TO i1 i2 l1 l2)(hz:Mj s.heap z TI TO (rawInt a) f)(ha:s.heap.get? a≈oa)(hTI:IsPair s.heap TI (.ref i1) (.ref i2))
  (h1:s.heap.IsListIter i1 l1 k1) (h2:s.heap.IsListIter i2 l2 k2) (A6:s.heap.IsList l1 xs) (Ao:s.heap.IsList l2 ys) (Gy:xs[k1]?=none\/ys[k2]?=none)
  (hE:∀ h' e,(∀ c o,c≠z->c≠i1->c≠i2->s.heap.get? c≈o->h'.get? c≈o)->(∃ o,h'.get? e≈o/\o.cls=.type "StopIteration")->E (.ref e) {s with heap:=h' }):
  wpAny 0.6 A (Builtin.«zip.__next__» ⟨[.ref z],[]⟩) Q E s:=by
 show wpAny _ _ (field (.ref z) 2>>=_) _ _ _;refine Ja (Jg hz rfl (x:=.bool false) rfl ?_);show wpAny _ _ (field (.ref z) 3>>=_) _ _ _;refine Ja (Jg hz rfl (x:=.ref TI) rfl ?_);refine Ja (wpAny_seqItems hTI rfl ?_);show wpAny _ _ (Builtin.SmallTypes.ownedTupleIsFree (.ref z)>>=_) _ _ _;refine Ja (jJ hz ha λh₁ hz₁ hs₁=>?_);simp only[Oi,if_false,List.forIn_toArray,List.forIn_cons,List.forIn_nil];refine Ja (Ja (Ja (Jj ?_)));show wpAny _ _ (Builtin.SmallTypes.nextOf (.ref i1)>>=_) _ _ _;cases hx:xs[k1]? with
 | none =>
  refine Ja (wpAny_nextOf_list_end hh (h1.extBut hs₁.extBut D.i1z) (A6.extBut hs₁.extBut D.l1z) hx λh₂ e hs₂ he=>?_);exact hE h₂ e (λc o c1 c3 _ x=>hs₂ _ _ c3 (hs₁.extBut _ _ c1 x)) he
 | some x =>
  have hy:ys[k2]?=none:=by rcases Gy with h | h;rw[hx]at h;cases h;exact h
  refine Ja 10.5;refine Jd ?_;refine Ja (Ja (Jj ?_));show wpAny _ _ (Builtin.SmallTypes.nextOf (.ref i2)>>=_) _ _ _;refine Ja (wpAny_nextOf_list_end hh ((h2.extBut hs₁.extBut D.i2z).extBut hs₂.extBut D.i12.symm) ((Ao.extBut hs₁.extBut D.l2z).extBut hs₂.extBut D.l2i1) hy λh₃ e hs₃ he=>?_);exact hE h₃ e (λc o c1 c3 c4 x=>hs₃ _ _ c4 (hs₂.extBut _ _ c3 (hs₁.extBut _ _ c1 x))) he
structure Me(h:Heap)(z TI TO i1 i2 l1 l2 S:μ)(i:Nat)(xs ys:ζ):Prop where
 st:(IsZip h z TI TO .none)\/∃(a:μ) (f:Bool) (oa:Obj),Mj h z TI TO (rawInt a) f/\h.get? a≈oa/\a≠z/\a≠i1/\a≠i2/\a≠S
 ti:IsPair h TI (.ref i1) (.ref i2)
 to:∃ a b,IsPair h TO a b
 h1:h.IsListIter i1 l1 i
 h2:h.IsListIter i2 l2 i
 A6:h.IsList l1 xs
 Ao:h.IsList l2 ys
def Me.keep{h h':Heap}{z TI TO i1 i2 l1 l2 S:μ}{i:Nat}{xs ys:ζ}(x:Me h z TI TO i1 i2 l1 l2 S i xs ys)(hk:∀ b o,b≠S->h.get? b≈o->h'.get? b≈o)(nz:z≠S)(nti:TI≠S)(nto:TO≠S)(n1:i1≠S)(n2:i2≠S)(m1:l1≠S)(m2:l2≠S):Me h' z TI TO i1 i2 l1 l2 S i xs ys:=by
 obtain⟨st,ti,⟨a,b,to⟩,h1,h2,A6,Ao⟩:=x;refine⟨?_,hk _ _ nti ti,⟨a,b,hk _ _ nto to⟩,h1.at λo e=>hk _ o n1 e,h2.at λo e=>hk _ o n2 e,A6.at λo e=>hk _ o m1 e,Ao.at λo e=>hk _ o m2 e⟩
 rcases st with st | ⟨a,f,oa,st,ha,n⟩
 ·exact .inl (hk _ _ nz st)
 ·exact .inr ⟨a,f,oa,hk _ _ nz st,hk _ _ n.2.2.2 ha,n⟩
def sG{z TI TO i1 i2 l1 l2 S:μ}{i:Nat}{xs ys:ζ}{x y:δ}{Q:OU->ε->Prop}(D:ZipApart z TI TO i1 i2 l1 l2)(hst:Me s.heap z TI TO i1 i2 l1 l2 S i xs ys)(hS:S<⇑s)(hx:xs[i]?≈x)(hy:ys[i]?≈y)
  (hQ:∀ h',Me h' z TI TO i1 i2 l1 l2 S 4.6 xs ys->IsPair h' ⇑s x y->h'.objs.size=⇑s + 1->3.0->Q (↥(.ref ⇑s)) {s with heap:=h' }):
  wpAny 0.6 A (pyNext (.ref z)) Q E s:=by
 obtain⟨st,ti,⟨a,b,to⟩,h1,h2,A6,Ao⟩:=hst;have pf:i1<⇑s:=by obtain⟨_,e,_⟩:=h1;exact Yh e
 have pZ:i2<⇑s:=by obtain⟨_,e,_⟩:=h2;exact Yh e
 rcases st with hz | ⟨c,f,oc,hz,hc,nz,n1,n2,nS⟩
 ·have zl:z<⇑s:=Yh hz;refine wpAny_pyNext_zip_item D hz ti to h1 h2 A6 Ao hx hy λh' a1 a2 a3 a4 a5 a6 hk=>hQ h' ⟨.inr ⟨_,false,_,a1,a5,CJ zl,CJ pf,CJ pZ,CJ hS⟩,hk _ _ D.TIz D.TITO D.TIi1 D.TIi2 ti,⟨_,_,a2⟩,a3,a4,A6.at λo e=>hk _ o D.l1z D.l1TO D.l1i1 D.l1i2 e,Ao.at λo e=>hk _ o D.l2z D.l2TO D.l2i1 D.l2i2 e⟩ a5 a6 hk
 ·have hT:s.TypeIs (.ref z) "zip":=⟨_,hz,Y⟩;unfold pyNext;exact Ja (wpAny_attempt (wpAny_callSpecial?_slot (name:=Str.ofString "__next__") hT Vb
   (wpAny_call_entry Vb hT PySem.F.entry_zip_next
    (vw D hz hc ti h1 h2 A6 Ao hx hy λh' a1 a3 a4 a5 a6 hk=>Jd (hQ h' ⟨.inr ⟨c,true,_,a1,hk _ _ nz n1 n2 hc,nz,n1,n2,nS⟩,hk _ _ D.TIz D.TIi1 D.TIi2 ti,⟨_,_,hk _ _ D.TOz D.TOi1 D.TOi2 to⟩,a3,a4,A6.at λo e=>hk _ o D.l1z D.l1i1 D.l1i2 e,Ao.at λo e=>hk _ o D.l2z D.l2i1 D.l2i2 e⟩ a5 a6 λb o b1 _ b3 b4 e=>hk b o b1 b3 b4 e)) (PySem.F.args_zip_next_1 _))))
def sD{z TI TO i1 i2 l1 l2 S:μ}{i:Nat}{xs ys:ζ}{Q:OU->ε->Prop}(hh:A.handled=none)(D:ZipApart z TI TO i1 i2 l1 l2)(hst:Me s.heap z TI TO i1 i2 l1 l2 S i xs ys)(Gy:xs[i]?=none\/ys[i]?=none)
  (hQ:∀ h',3.0->Q none {s with heap:=h' }):wpAny 0.6 A (pyNext (.ref z)) Q E s:=by
 obtain⟨st,ti,⟨a,b,to⟩,h1,h2,A6,Ao⟩:=hst
 rcases st with hz | ⟨c,f,oc,hz,hc,nz,n1,n2,nS⟩
 ·exact wpAny_pyNext_zip_end hh D hz ti to h1 h2 A6 Ao Gy hQ
 ·have hT:s.TypeIs (.ref z) "zip":=⟨_,hz,Y⟩;unfold pyNext;refine Ja (wpAny_attempt (wpAny_callSpecial?_slot (name:=Str.ofString "__next__") hT Vb
   (wpAny_call_entry Vb hT PySem.F.entry_zip_next (vh hh D hz hc ti h1 h2 A6 Ao Gy λh' e hk he=>?_) (PySem.F.args_zip_next_1 _))))
  obtain⟨o,ho,hc⟩:=he;refine Ja (wpAny_isInstance (T:="StopIteration") (b:=true) ⟨o,ho,hc⟩ isSubtype_stop ?_);exact Jd (hQ _ λb o b1 _ b3 b4 e=>hk b o b1 b3 b4 e)
structure Ml(xs ys:ζ)(lo:μ)(h:Heap)(as:ξ):Prop where
 rise:as.Pairwise (·<·)
 above:∀ a∈as,lo<a
 pairs:∀(j:Nat) (a:μ),as[j]?≈a->∃ x y,xs[j]?≈x/\ys[j]?≈y/\IsPair h a x y
def Ml.there{xs ys:ζ}{lo:μ}{h:Heap}{as:ξ}(g:Ml xs ys lo h as){a:μ}(ha:a∈as):a<h.objs.size:=by
 obtain⟨j,hj⟩:=Zt.mp ha;obtain⟨_,_,_,_,e⟩:=g.pairs j a hj;exact Yh e
structure U8(z TI TO i1 i2 l1 l2 S:μ):Prop where
 z:z<S
 ti:TI<S
 to:TO<S
 i1:i1<S
 i2:i2<S
 l1:l1<S
 l2:l2<S
def sC{R:Result->ε->Prop}{z TI TO i1 i2 l1 l2 S:μ}{xs ys:ζ}(hh:A.handled=none)(D:ZipApart z TI TO i1 i2 l1 l2)(L:U8 z TI TO i1 i2 l1 l2 S)(hn:min xs.size ys.size<=sizeLine)(res:δ){h₁:Heap}
  (hR:∀ h' tk acc c as,(∀ b o,b≠S->b≠z->b≠TO->b≠i1->b≠i2->h₁.get? b≈o->h'.get? b≈o)->h'.get? S=some {cls:=.type "list",dict:=none,data:=.seq acc c,slots:=#[] }->↑as=min xs.size ys.size->Ml xs ys S h' as ->
   acc.toList=as.map Value.ref->R (.ok (.ret res)) {s with heap:=h',toks:=tk}):
  ∀(k i:Nat) (h:Heap) (tk c:Nat) (acc:ζ) (as:ξ),min xs.size ys.size - i=k->i<=min xs.size ys.size->Me h z TI TO i1 i2 l1 l2 S i xs ys->(∀ b o,b≠S->b≠z->b≠TO->b≠i1->b≠i2->h₁.get? b≈o->h.get? b≈o) ->
   h.get? S=some {cls:=.type "list",dict:=none,data:=.seq acc c,slots:=#[] }->acc.toList=as.map Value.ref->↑as=i->Ml xs ys S h as ->
   codeAny 0.6 A (.builtin "list.extend.loop" ⟨[.ref S,.ref z,res],[]⟩) R {s with heap:=h,toks:=tk}:=by
 have nSz:S≠z:=CJ L.z;have nSo:S≠TO:=CJ L.to;have V3:S≠i1:=CJ L.i1;have V2:S≠i2:=CJ L.i2;intro k
 induction k with
 | zero =>
  intro i h tk c acc as hk hi hst hkeep hS Cm hal hG;have hin:i=min xs.size ys.size:=by omega
  refine codeAny_builtin PySem.F.entry_extend_loop ?_;rw[Rw VY _];show wpAny _ A.in1 (pyNext (.ref z)>>=_) _ _ _;have Gy:xs[i]?=none\/ys[i]?=none:=by
   rcases Nat.le_total xs.size ys.size with h | h
   ·exact .inl (Array.getElem?_eq_none 0.0)
   ·exact .inr (Array.getElem?_eq_none 0.0)
  refine Ja (sD (s:={s with heap:=h,toks:=tk}) (A:=A.in1) hh D hst Gy λh' he=>?_);refine Jd (hR h' tk acc c as (λb o h0 h1 h2 h3 h4 e=>he b o h1 h2 h3 h4 (hkeep b o h0 h1 h2 h3 h4 e)) (he S _ nSz nSo V3 V2 hS) 0.0 ⟨hG.rise,hG.above,λj a hj=>?_⟩ Cm);obtain⟨x,y,e1,e2,e3⟩:=hG.pairs j a hj;have ha:=hG.above a (Yc hj);exact⟨x,y,e1,e2,he a _ (CJ (HQ L.z ha)) (CJ (HQ L.to ha)) (CJ (HQ L.i1 ha)) (CJ (HQ L.i2 ha)) e3⟩
 | succ k ih =>
  intro i h tk c acc as hk hi hst hkeep hS Cm hal hG;have Bb:i<min xs.size ys.size:=by omega
  obtain⟨x,hx⟩:∃ x,xs[i]?≈x:=⟨xs[i],Array.getElem?_eq_getElem 0.0⟩;obtain⟨y,hy⟩:∃ y,ys[i]?≈y:=⟨ys[i],Array.getElem?_eq_getElem 0.0⟩;have hsz:acc.size=i:=by rw[<- Rq,Cm,Ya,hal]
  refine codeAny_builtin PySem.F.entry_extend_loop ?_;rw[Rw VY _];show wpAny _ A.in1 (pyNext (.ref z)>>=_) _ _ _;refine Ja (sG (s:={s with heap:=h,toks:=tk}) D hst (Yh hS) hx hy λh' aq ht hz hkp=>?_);dsimp only at ht hz hkp ⊢;have JW:=hkp S _ nSz nSo V3 V2 hS;have up:∀ b o,b≠S->h'.get? b≈o->(h'.update S (Obj.mapSeq (·.push (Value.ref h.objs.size)))).get? b≈o:=λb o hb e=>(IA _ _ (Yz hb)).trans e;have hSl:S<h.objs.size:=Yh hS;show wpAny _ A.in1 (updateSeq S (·.push (Value.ref h.objs.size))>>=_) _ _ _;refine Ja ?_;refine wpAny_updateSeq JW rfl (Jd ⟨plainId_quiet VY _,ih 4.6 _ tk _ (acc.push (Value.ref h.objs.size)) (as++[h.objs.size]) 0.0 Bb (aq.keep up (Yz nSz) (Ys L.ti) (Yz nSo) (Yz V3) (Yz V2) (Ys L.l1) (Ys L.l2))
   (λb o h0 h1 h2 h3 h4 e=>up b o h0 (hkp b o h1 h2 h3 h4 (hkeep b o h0 h1 h2 h3 h4 e))) (Gq _ JW rfl) (by rw[Array.toList_push,Cm,B6];rfl) (by rw[Ym,hal];rfl) ⟨?_,?_,?_⟩⟩) (by rw[hsz];omega) (by show(acc.push (Value.ref h.objs.size)).size<=sizeLine + 1;rw[Array.size_push,hsz];omega)
  ·refine List.pairwise_append.mpr ⟨hG.rise,List.pairwise_singleton _ _,λa ha b hb=>?_⟩;rw[Yf.mp hb];exact hG.there ha
  ·intro a ha
   rcases Yo.mp ha with ha | ha
   ·exact hG.above a ha
   ·rw[Yf.mp ha];exact hSl
  ·intro j b hj
   rcases Nat.lt_trichotomy j ↑as with h1 | h1 | h1
   ·rw[J_ h1]at hj;obtain⟨x',y',e1,e2,e3⟩:=hG.pairs j b hj;have hb:=hG.above b (Yc hj);exact⟨x',y',e1,e2,up b _ (CJ hb) (hkp b _ (CJ (HQ L.z hb)) (CJ (HQ L.to hb)) (CJ (HQ L.i1 hb)) (CJ (HQ L.i2 hb)) e3)⟩
   ·subst h1;have hb:h.objs.size=b:=by simpa using hj
    subst hb;exact⟨x,y,by rw[hal];exact hx,by rw[hal];exact hy,up _ _ (CJ hSl) ht⟩
   ·have hnone:(as++[h.objs.size])[j]?=none:=List.getElem?_eq_none (by rw[Ym,Ou];omega);rw[hnone]at hj;cases hj
def ur:typeLookup (.type "zip") "__len__"=pure none:=by rw[typeLookup_type,builtinLookup_eq_fast];kernel_rfl
def vK:typeLookup (.type "zip") "__length_hint__"=pure none:=by rw[typeLookup_type,builtinLookup_eq_fast];kernel_rfl
def vJ{z TI TO i1 i2 l1 l2:μ}{xs ys:ζ}{Q:LU->ε->Prop}(hh:A.handled=none)(D:ZipApart z TI TO i1 i2 l1 l2)(L:U8 z TI TO i1 i2 l1 l2 ⇑s)(hz:IsZip s.heap z TI TO .none)(hti:IsPair s.heap TI (.ref i1) (.ref i2))(hto:∃ a b,IsPair s.heap TO a b)
  (h1:s.heap.IsListIter i1 l1 0) (h2:s.heap.IsListIter i2 l2 0) (A6:s.heap.IsList l1 xs) (Ao:s.heap.IsList l2 ys) (hn:min xs.size ys.size<=sizeLine)
  (hQ:∀ h' tk as,3.0->↑as=min xs.size ys.size->Ml xs ys ⇑s h' as->Q (as.map Value.ref) {s with heap:=h',toks:=tk}):wpAny 0.6 A (collect (.ref z)) Q E s:=by
 have nSz:⇑s≠z:=CJ L.z;unfold collect;refine Ja (wpAny_runValue (codeAny_builtin PySem.F.entry_proto_collect ?_));rw[Rw PySem.F.plain_proto_collect _];show wpAny _ A.in1 (newList []>>=λl=>again (.builtin "list.__iadd__" ⟨[l,.ref z],[]⟩)) _ _ s;refine Ja (wpAny_newObj_type ?_);refine Jd ⟨plainId_quiet PySem.F.plain_list_iadd _,codeAny_builtin PySem.F.entry_list_iadd ?_⟩;rw[Rw PySem.F.plain_list_iadd _];have push:∀ b o,s.heap.get? b≈o->(s.heap.push {cls:=.type "list",data:=.seq ([]:LU).toArray}).get? b≈o:=λb o e=>Yb _ e;have hz₁:=push _ _ hz;have hT:Shared.TypeIs {s with heap:=s.heap.push {cls:=.type "list",data:=.seq ([]:LU).toArray} } (.ref z) "zip":=⟨_,hz₁,Y⟩;show wpAny _ A.in1 (Builtin.List.listExtendWith (.ref ⇑s) (.ref z) (.ref ⇑s)) _ _ _;unfold Builtin.List.listExtendWith;refine Ja (wpAny_typeOf hT ?_);have e1:Builtin.List.listSameRef (.ref ⇑s) (.ref z)=false:=by simp[Builtin.List.listSameRef,nSz]
 have e2:(Value.type "zip" == Value.type "list")=false:=by decide
 have e3:(Value.type "zip" == Value.type "tuple")=false:=by decide
 simp only[e1,e2,e3,Bool.or_false,Oi,if_false];refine Ja (wpAny_pyIter_zip (s:={s with heap:=s.heap.push {cls:=.type "list",data:=.seq ([]:LU).toArray} }) hz₁ ?_);refine Ja (Jj ?_);unfold Builtin.List.listLengthHint;refine Ja (wpAny_specialOf hT ur ?_);show wpAny _ A.in1 (specialOf (Value.ref z) (Str.ofString "__length_hint__")>>=_) _ _ _;refine Ja (wpAny_specialOf hT vK ?_);refine Jd ?_;show wpAny _ A.in1 (rule "list.extend.makes-room">>=λ_=>Builtin.List.listTouch (.ref ⇑s)>>=λ_ =>
  again (.builtin "list.extend.loop" ⟨[.ref ⇑s,.ref z,.ref ⇑s],[]⟩)) _ _ _
 refine Ja (wpAny_rule ?_);have hS₁:(s.heap.push {cls:=.type "list",data:=.seq ([]:LU).toArray}).get? ⇑s=some {cls:=.type "list",data:=.seq ([]:LU).toArray}:=Yk _ rfl;refine Ja ?_;show wpAny _ A.in1 (updateSeq ⇑s (·.push .none)>>=λ_=>updateSeq ⇑s (·.pop)) _ _ _;refine Ja (wpAny_updateSeq hS₁ rfl ?_);have hS₂:=Gq (Obj.mapSeq (·.push Value.none)) hS₁ rfl;refine wpAny_updateSeq hS₂ rfl ?_;have hS₃:=Gq (Obj.mapSeq (·.pop)) hS₂ rfl;have oth:∀ b o,b≠⇑s->(s.heap.push {cls:=.type "list",data:=.seq ([]:LU).toArray}).get? b≈o ->
   (((s.heap.push {cls:=.type "list",data:=.seq ([]:LU).toArray}).update ⇑s (Obj.mapSeq (·.push Value.none))).update ⇑s (Obj.mapSeq (·.pop))).get? b≈o :=
  λb o hb e=>(IA _ _ (Yz hb)).trans ((IA _ _ (Yz hb)).trans e)
 have all:∀ b o,s.heap.get? b≈o->(((s.heap.push {cls:=.type "list",data:=.seq ([]:LU).toArray}).update ⇑s (Obj.mapSeq (·.push Value.none))).update ⇑s (Obj.mapSeq (·.pop))).get? b≈o:=λb o e=>oth b o (Ys (Yh e)) (push b o e);obtain⟨a,b,hto⟩:=hto;refine Jd ⟨plainId_quiet VY _,sC (s:=s) (h₁:=s.heap) hh D L hn _ (λh' tk acc c as hk JW hal hG Cm=>?_) _ 0 _ s.toks _ #[] [] rfl (BN _)
  ⟨.inl (all _ _ hz),all _ _ hti,⟨a,b,all _ _ hto⟩,h1.at λo e=>all _ o e,h2.at λo e=>all _ o e,A6.at λo e=>all _ o e,Ao.at λo e=>all _ o e⟩ (λb o _ _ _ _ _ e=>all b o e) hS₃ rfl rfl ⟨List.Pairwise.nil,(λ_ ha=>nomatch ha),(λj a hj=>by simp at hj)⟩⟩
 show wpAny _ A (load ⇑s>>=_) _ _ _;refine Ja (wpAny_load JW ?_);refine Jd ?_;show Q acc.toList _;rw[Cm];exact hQ h' tk as (λb o n1 n2 n3 n4 e=>hk b o (Ys (Yh e)) n1 n2 n3 n4 e) hal hG
end
end L2
namespace L2
open PySem PySem.Spec
section
variable {prog:χ}{w:World}{A:Around}{E:EV}{s:ε}
def vc{z TI TO i1 i2 l1 l2:μ}{xs ys:ζ}{Q₁:EV}(hh:A.handled=none)(D:ZipApart z TI TO i1 i2 l1 l2)(L:U8 z TI TO i1 i2 l1 l2 ⇑s)(hz:IsZip s.heap z TI TO .none)(hti:IsPair s.heap TI (.ref i1) (.ref i2))(hto:∃ a b,IsPair s.heap TO a b)
  (h1:s.heap.IsListIter i1 l1 0) (h2:s.heap.IsListIter i2 l2 0) (A6:s.heap.IsList l1 xs) (Ao:s.heap.IsList l2 ys) (hn:min xs.size ys.size<=sizeLine)
  (hQ:∀ h' tk as,3.0->↑as=min xs.size ys.size->Ml xs ys ⇑s h' as->Q₁ (.ref h'.objs.size) {s with heap:=h'.push {cls:=.type "tuple",data:=.seq (as.map Value.ref).toArray},toks:=tk}):
  codeAny 0.6 A (.call (.builtin "tuple.__new__") ⟨[.type "tuple",.ref z],[]⟩) (wants Q₁ E) s:=by
 refine codeAny_of_tree ?_;show wpAny _ A.in1 (do checkBuiltinCall "tuple.__new__" ⟨[.type "tuple",.ref z],[]⟩;again (.builtin "tuple.__new__" ⟨[.type "tuple",.ref z],[]⟩)) _ _ s;refine Ja (wpAny_of_eq (F.newCall_tuple_1 _) (Jd ⟨plainId_quiet F.plain_tuple_new _,codeAny_builtin F.entry_tuple_new ?_⟩));rw[Rw F.plain_tuple_new _];have hsub:=sub_tuple_self;have hinit:=init_tuple_lookup;have hmh:=madeHere_tuple;have hTI:s.TypeIs (.ref z) "zip":=⟨_,hz,Y⟩
 wp_walk using wpAny_typeOf hTI,vJ (by simp[hh]) D L hz hti hto h1 h2 A6 Ao hn
 intro h' tk as hk hal hG;show wpAny _ _ (Builtin.Tuple.tupleExact (as.map Value.ref).toArray>>=λv=>ret v) _ _ _;unfold Builtin.Tuple.tupleExact;refine Ja (wpAny_newObj_type ?_ (by show(as.map Value.ref).toArray.size<=sizeLine;rw[Yj,Ya,hal];exact hn));exact Jd (hQ h' tk as hk hal hG)
def vm{z TI TO i1 i2 l1 l2:μ}{xs ys:ζ}{Q:EV}(hh:A.handled=none)(D:ZipApart z TI TO i1 i2 l1 l2)(L:U8 z TI TO i1 i2 l1 l2 ⇑s)(hz:IsZip s.heap z TI TO .none)(hti:IsPair s.heap TI (.ref i1) (.ref i2))(hto:∃ a b,IsPair s.heap TO a b)
  (h1:s.heap.IsListIter i1 l1 0) (h2:s.heap.IsListIter i2 l2 0) (A6:s.heap.IsList l1 xs) (Ao:s.heap.IsList l2 ys) (hn:min xs.size ys.size<=sizeLine)
  (hQ:∀ h' tk as,3.0->↑as=min xs.size ys.size->Ml xs ys ⇑s h' as->Q (.ref h'.objs.size) {s with heap:=h'.push {cls:=.type "tuple",data:=.seq (as.map Value.ref).toArray},toks:=tk}):
  wpAny 0.6 A (call (.type "tuple") [.ref z]) Q E s:=by
 refine callType_codes (Q₁:=λobj s₁=>s₁.TypeIs obj "tuple"/\Q obj s₁) F.called_tuple (F.typeCall_tuple_1 _) F.entry_object_init
  (vc (by simp[hh]) D L hz hti hto h1 h2 A6 Ao hn λh' tk as hk hal hG=>⟨⟨_,Yk _ rfl,Y⟩,hQ h' tk as hk hal hG⟩) λobj s₁ h₁=>?_
 exact⟨h₁.1,F.args_object_init_2 obj _,object_init_meets F.called_tuple.init.lookup F.called_tuple.made 0.2 prog w A.in1 _ s₁ ⟨h₁.1,Y,h₁.2⟩⟩
end
end L2
namespace L2
open PySem PySem.Spec PyProof.Rows
section
variable {X:Cx}
inductive iI(K:Fg)(Q:VK)(vs:LV)(H1:Hp):Prop
 | mk:∀(l1 l2:μ) (xs ys:LV),vs=[.ref l1,.ref l2]->SqL K H1 l1 xs->SqL K H1 l2 ys->(∀ t us H',H1 t=none->AA H1 H'->H' t≈(.tup us)->Paired (λ(p:V×V) v=>∃ q:μ,v=.ref q/\H' q≈(.tup [p.1,p.2])) (xs.zip ys) us->Q (.ref t) H')->iI K Q vs H1
def y1(K:Fg)(ta:TA):TE:=λσ H Q=>ta σ H λvs H1=>iI K Q vs H1
def vP{a b:Expr}{ta:TA}{p1 p2 M_ KJ:Pos}(hc:X.calm=true)(WK:Gl X "tuple")(Pn:X.mg "tuple"=none)(hg:Gl X "zip")(hm:X.mg "zip"=none)(ha:PA X [a,b] ta)
  (hs:starEach [a,b] X.env=[(false,eval a X.env),(false,eval b X.env)]:=by rfl) (Lk:starEach [b] X.env=[(false,eval b X.env)]:=by rfl)
  (qC:starEach [.Call (.Name "zip" p2) [a,b] [] KJ] X.env=[(false,eval (.Call (.Name "zip" p2) [a,b] [] KJ) X.env)]:=by rfl):
  PE X (.Call (.Name "tuple" p1) [.Call (.Name "zip" p2) [a,b] [] KJ] [] M_) (y1 X.K ta):=by
 ac_rfl;refine wpAny_Call_Name_kw (K2 I WK Pn Mr ?_ 0.2 0.2);refine Oq ?_ qC rfl;refine Calls.spliced_cons ?_;refine Call_ (K2 I hg hm boot_zip (Oq (AK (ha KJ ρ s σ H _ I h) λus s1 ⟨vs,H1,I1,r1,q1⟩=>?_) (by rw[hs,Lk]) (by rw[Lk];rfl)));obtain⟨l1,l2,xs,ys,e,t1,t2,q⟩:=q1;subst e;cases r1 with
 | cons r rr =>
  cases rr with
  | cons r' rr =>
   cases rr;obtain rfl:_=Value.ref l1:=r;obtain rfl:_=Value.ref l2:=r';obtain⟨ν,rv,pa,hz1⟩:=I1.list t1;obtain⟨jts,G8,pb,hz2⟩:=I1.list t2;have b1:s1.heap.IsList l1 ν.toArray:=pa.isList;have b2:s1.heap.IsList l2 jts.toArray:=pb.isList;have Pf:l1<⇑s1:=let⟨_,e,_⟩:=b1;Yh e;have cn:l2<⇑s1:=let⟨_,e,_⟩:=b2;Yh e;refine rz b1 b2 λg st hk=>?_;have D:ZipApart (⇑s1 + 4) (⇑s1 + 2) (⇑s1 + 3) ⇑s1 (⇑s1 + 1) l1 l2:=W.ktu_apart _ _ _ Pf cn;refine Calls.spliced_nil ?_;have zl:⇑s1 + 4<g.objs.size:=Yh st.z;have gl:⇑s1<=g.objs.size:=by omega
   have n1:↑xs=↑ν:=↑rv;have n2:↑ys=↑jts:=↑G8;have hn:min ν.toArray.size jts.toArray.size<=sizeLine:=by rw[Yj,Yj];omega
   refine vm (s:={s1 with heap:=g}) (I1.ok.hd hc) D ⟨zl,by show _<g.objs.size;omega,by show _<g.objs.size;omega,by show _<g.objs.size;omega,by show _<g.objs.size;omega,Yp Pf gl,Yp cn gl⟩ st.z st.ti st.to st.i1 st.i2 (b1.at λo e=>hk _ o e) (b2.at λo e=>hk _ o e) hn λh' tk as GY hal hG=>?_;have keep:∀ b o,s1.heap.get? b≈o->(h'.push {cls:=.type "tuple",data:=.seq (as.map Value.ref).toArray}).get? b≈o:=λb o e=>by
    have lt:b<⇑s1:=Yh e;exact Yb _ (GY b o (Ys (Yp lt (Nat.le_add_right _ _))) (Ys (Yp lt (Nat.le_add_right _ _))) (Ys lt) (Ys (Yp lt (Nat.le_add_right _ _))) (hk b o e))
   have ndas:as.Nodup:=List.nodup_iff_pairwise_ne.mpr (hG.rise.imp λh=>Ys h);have hl:↑as=↑(xs.zip ys):=by rw[hal,Yj,Yj,List.length_zip,n1,n2]
   have qS:∀ a∈as,⇑s1<a:=λa ha=>Nat.lt_of_le_of_lt gl (hG.above a ha);have aT:∀ a∈as,a<h'.objs.size:=λa ha=>hG.there ha;have sT:⇑s1<=h'.objs.size:=by
    have:⇑s1 + 2<h'.objs.size:=Yh (GY _ _ D.TIz D.TITO D.TIi1 D.TIi2 st.ti);omega
   have P2:∀ b,b<⇑s1->(λb=>if b=h'.objs.size then ↥(HO.tup 14.0)else match (as.zip (xs.zip ys)).lookup b with | some kv=>↥(HO.tup [kv.1,kv.2]) | none=>H1 b:Hp) b=H1 b:=λb hb=>by
    show(if b=h'.objs.size then _ else _)=_;rw[if_neg (Ys (Yp hb sT))];cases e:(as.zip (xs.zip ys)).lookup b with
    | none=>rfl
    | some kv =>
     obtain⟨i,h1,_⟩:=RT e;have:=qS b (Yc h1);exact absurd (HQ hb this) (Gu _)
   have at_:∀(i:Nat) (b:μ),as[i]?≈b->∃ kv:V×V,(xs.zip ys)[i]?≈kv/\(λb=>if b=h'.objs.size then ↥(HO.tup 14.0)else match (as.zip (xs.zip ys)).lookup b with | some kv=>↥(HO.tup [kv.1,kv.2]) | none=>H1 b:Hp) b≈(.tup [kv.1,kv.2]):=λi b hi=>by
    have Bb:i<↑(xs.zip ys):=by
     have:=(Yg.mp hi).1;omega
    refine⟨(xs.zip ys)[i],Yu Bb,?_⟩;show(if b=h'.objs.size then _ else _)=_;rw[if_neg (Ys (aT b (Yc hi))),YV ndas hi (Yu Bb)]
   have I3:Inv X ρ σ (λb=>if b=h'.objs.size then ↥(HO.tup 14.0)else match (as.zip (xs.zip ys)).lookup b with | some kv=>↥(HO.tup [kv.1,kv.2]) | none=>H1 b:Hp) {s1 with heap:=h'.push {cls:=.type "tuple",data:=.seq (as.map Value.ref).toArray},toks:=tk}:=by
    refine I1.laidMany (t':=tk) keep P2 λb o hb e=>?_;have e:(if b=h'.objs.size then ↥(HO.tup 14.0)else match (as.zip (xs.zip ys)).lookup b with | some kv=>↥(HO.tup [kv.1,kv.2]) | none=>H1 b)≈o:=e;by_cases hbT:b=h'.objs.size
    ·rw[if_pos hbT]at e;cases e;refine⟨by rw[Ya,hal];exact hn,as.map Value.ref,?_,?_⟩
     ·exact T4 1.1 λi v u hv hu=>by
       rw[Yn]at hv hu;obtain⟨y,hy,ey⟩:=FK.mp hv;rw[hy]at hu;rw[<- ey];exact(Yt hu).symm
     ·rw[hbT];exact IsTup.new _ _
    ·rw[if_neg hbT]at e;cases el:(as.zip (xs.zip ys)).lookup b with
     | none =>
      rw[el]at e;have:=I1.hok.lt e;exact absurd (Yp this hb) (Gu _)
     | some kv =>
      rw[el]at e;cases e;obtain⟨i,WI,JT⟩:=RT el;obtain⟨x,y,hx,hy,hget⟩:=hG.pairs i b WI;obtain⟨Ni,px⟩:=iN JT;obtain⟨u,hu,ru⟩:=rv.get Ni;obtain⟨v,hv,oj⟩:=G8.get px;have ex:u=x:=by
       have D0:ν[i]?≈x:=by simpa using hx
       rw[hu]at D0;exact Yt D0
      have ey:v=y:=by
       have F_:jts[i]?≈y:=by simpa using hy
       rw[hv]at F_;exact Yt F_
      subst ex ey;exact⟨W,[u,v],.cons ru (.cons oj .nil),⟨_,Yb _ hget,Y,Z⟩⟩
   refine⟨.ref h'.objs.size,_,I3,Y,q h'.objs.size 14.0 _ (I1.hok.fresh sT) (λb o e=>?_) ?_ ?_⟩
   ·exact(P2 b (I1.hok.lt e)).trans e
   ·show(if h'.objs.size=h'.objs.size then _ else _)=_;rw[if_pos rfl]
   ·refine UX (by rw[Ya,hl]) λi kv v h1 h2=>?_;rw[Yn]at h2;obtain⟨b,hb,eb⟩:=FK.mp h2;obtain⟨pW,EI,Pp⟩:=at_ i b hb;rw[h1]at EI;cases EI;exact⟨b,eb.symm,Pp⟩
end
abbrev O6:=St->Hp->(Str->Hp->Prop)->Prop
abbrev Mz:=St->Hp->Str->(Str->Hp->Prop)->Prop
def Vg(X:Cx)(e:Expr)(t:O6):Prop:=∀(ρ:PL) (s:ε) (σ:St) (H:Hp) (Q:Str->Hp->Prop),Inv X ρ σ H s->t σ H Q ->
 wpAny 0.3 X.A (eval e X.env) (λu s'=>∃ y tk H',u=.str y tk/\↑y<=100000/\Inv X ρ σ H' s'/\Q y H') X.xe s
def U7(X:Cx)(es:τ)(t:Mz):Prop:=∀(ρ:PL) (s:ε) (σ:St) (H:Hp) (Q:Str->Hp->Prop) (acc:Str) (j:Nat),Inv X ρ σ H s->↑acc<=100000 * j->j + ↑es<=100->t σ H acc Q ->
 Joins 0.3 X.A X.xe (evalEach es X.env) acc (λout s'=>∃ H',↑out<=10000000/\Inv X ρ σ H' s'/\Q out H') s
section
variable {X:Cx}{e:Expr}{es:τ}{te:TE}{t:O6}{u:Mz}{pos:Pos}
def Ybk(x:Str):O6:=λ_ H Q=>↑x<=100000/\Q x H
def lY{x j}:Vg X (.Constant (.str x) j pos) (Ybk x):=λ_ _ _ H _ I h=>Calls.Constant_str ⟨x,_,H,Y,h.1,I.tok _,h.2⟩
def Ybj(te:TE):O6:=λσ H Q=>te σ H λv H1=>∃ i:Int,v=.int i/\i.natAbs<2 ^ 64/\Q (Str.ofString (toString i)) H1
def xH(he:PE X e te):Vg X (.FormattedValue e (-1) none pos) (Ybj te):=by
 ac_rfl;refine wpAny_FormattedValue_plain (AK (he ρ s σ H _ I h) λv s1 ⟨x,H1,I1,r1,i,ex,hi,q⟩=>?_);subst ex;obtain⟨t,rfl⟩:=r1;exact wpAny_formatField_int (Qi hi) ⟨_,_,H1,Y,fY hi,I1.tok _,q⟩
def Ybg(te:TE):O6:=λσ H Q=>te σ H λv H1=>∃ x:Str,v=.str x/\↑x<=100000/\Q x H1
def xI(he:PE X e te):Vg X (.FormattedValue e (-1) none pos) (Ybg te):=by
 ac_rfl;refine wpAny_FormattedValue_plain (AK (he ρ s σ H _ I h) λv s1 ⟨x,H1,I1,r1,y,ex,hi,q⟩=>?_);subst ex;obtain⟨t,rfl⟩:=r1;exact wpAny_formatField_str ⟨_,_,H1,Y,hi,I1,q⟩ ⟨_,_,H1,Y,hi,I1.tok _,q⟩ (BU hi 0.2)
def Ybi:Mz:=λ_ H acc Q=>Q acc H
def Ybh(t:O6)(u:Mz):Mz:=λσ H acc Q=>t σ H λy H1=>u σ H1 (acc++y) Q
def yc:U7 X [] Ybi:=λρ s σ H Q acc j I ha hj h=>⟨H,by simp at hj;exact BU ha (BU (VR _ hj) 0.2),I,h⟩
def UI(h1:Vg X e t)(h2:U7 X es u):U7 X (e :: es) (Ybh t u):=by
 intro ρ s σ H Q acc j I ha hj h;show wpAny _ _ (eval e X.env) _ _ s;refine AK (h1 ρ s σ H _ I h) λv s1 ⟨y,tk,H1,ev,hy,I1,q⟩=>?_;have hl:↑(acc++y)<=100000 * (j + 1):=by rw[strLen_append];omega
 have WH:j + 1 + ↑es<=100:=by simp at hj;omega
 refine⟨y,tk,ev,BU hl (BU (VR _ (show j + 1<=100 by omega)) 0.2),?_⟩;exact h2 ρ s1 σ H1 Q _ (j + 1) I1 hl WH q
def oW(t:Mz):TE:=λσ H Q=>t σ H Str.empty λx H1=>Q (.str x) H1
def rH{v1 v2:Expr}{BF:τ}{t:Mz}(h:U7 X (v1 :: v2 :: BF) t)(hl:↑(v1 :: v2 :: BF)<=100:=by decide):PE X (.JoinedStr (v1 :: v2 :: BF) pos) (oW t):=by
 intro ρ s σ H Q I hq;apply wpAny_JoinedStr;have z:=h ρ s σ H _ Str.empty 0 I (BN _) (by simpa using hl) hq;have mono:∀(l:List (Sem δ)) (acc:Str) (P P':Str->ε->Prop) (s:ε),(∀ o s',P o s'->P' o s')->Joins 0.3 X.A X.xe l acc P s->Joins 0.3 X.A X.xe l acc P' s:=by
  intro l
  induction l with
  | nil=>intro acc P P' s f q;exact f _ _ q
  | cons a r ih =>
   intro acc P P' s f q;exact AK (show wpAny _ _ a _ _ s from q) λv s1 ⟨y,tk,e1,e2,e3⟩=>⟨y,tk,e1,e2,ih _ P P' s1 f e3⟩
 exact mono _ _ _ _ _ (λo s' ⟨H',l,I',q'⟩=>⟨BU l 0.2,⟨.str o,H',I'.tok _,⟨Z⟩,q'⟩⟩) z
end
section
variable {X:Cx}
theorem gL:∀ {xs:LS}{ν:LU},Aa 14.1 ν->∃ l:List (Str×Tok),ν=strValues l/\l.map 0.5=xs
 | [],_,.nil=>⟨[],Y,Y⟩
 | x :: xs,_,.cons r t=>by
  obtain⟨l,e,e2⟩:=gL t;obtain⟨tk,rfl⟩:=r;exact⟨(x,tk):: l,by rw[e];rfl,by rw[Yr,e2]⟩
inductive kB(x:V)(vs:LV)(H:Hp)(Q:VK):Prop
 | mk:∀ sep l xs B,x=.str sep->vs=[.ref l]->H l≈(.lst 14.1)->(∀ y∈xs,↑y<=B)->↑xs * B + ↑xs * ↑sep<=16777216->Q (.str (Builtin.Str.glued sep xs)) H->kB x vs H Q
def gH:M0 X "str.join" kB:=by
 intro ρ s σ H x vs v us Q I rx rv h;obtain⟨sep,l,xs,B,rfl,rfl,hH,hB,hz,q⟩:=h;obtain⟨tk,rfl⟩:=rx;obtain⟨u,rfl,ru⟩:=rv.one;cases ru;obtain⟨z,ν,n,r,hl,e⟩:=I.lstM hH;obtain⟨ps,rfl,e2⟩:=gL r;refine SC.join ⟨_,e,rfl,_,rfl⟩ e2 ?_ λt' k=>⟨.str _,H,I.tok _,⟨Z⟩,q⟩;unfold JoinOk;rw[StrLaws.joinFits hB hz];rfl
end
section
variable {X:Cx}
def iR:FV X (.type "int") (λxs H Q=>∃(x:Str) (n:Int),xs=[.str x]/\PySem.intText? x≈n/\↑x<=640/\Q (.int n) H):=by
 intro ρ s σ H xs us Q I r h;obtain⟨x,n,rfl,hn,hl,q⟩:=h;obtain⟨u,rfl,t,rfl⟩:=Hn r;exact W.KIN.call_text hn hl ⟨.int _,H,I.tok _,⟨Z⟩,q⟩
end
section
variable {X:Cx}
end
end L2
namespace Md
open PySem L2
end Md
namespace L2
open PySem PySem.Spec PyProof.Rows
theorem jI:∀(l:List (Str×Tok)),Aa ((l.map 0.5).map V.str) (strValues l)
 | []=>.nil
 | (x,t):: l=>.cons ⟨t,Y⟩ (jI l)
section
variable {prog:χ}{w:World}{A:Around}{E:EV}{s:ε}{x y:Str}{t u:Tok}
def rS{Q:EV}(hy:(↑y == 0)=false)(hx:↑x<=sizeLine)(hn:↑(Txt.split x y)<=sizeLine)
  (q:∀(l:List (Str×Tok)) (tk:Nat),l.map 0.5=Txt.split x y->Q (.ref ⇑s) {s with heap:=s.heap.push {cls:=.type "list",data:=.seq (strValues l).toArray},toks:=tk}):
  wpAny 0.6 A (call (.builtin "str.split") [.str x t,.str y u]) Q E s:=by
 unfold Txt.split at hn q;by_cases c:(decide (↑x<↑y) || decide (Builtin.Str.strKind x<Builtin.Str.strKind y))=true
 ·rw[if_pos c]at q;exact call_meets F.slot_str_split (typeIs_str _ _ _) F.entry_str_split (F.args_str_split_2 _ _) (meets_str_split_cannot_occur x y t u c) (q [(x,t)] s.toks rfl)
 ·rw[if_neg c]at q hn;have c:=eq_false_of_ne_true c;by_cases f:(Builtin.Str.occurrences x y 0 ↑x (↑x + 1)).isEmpty=true
  ·rw[if_pos f]at q;exact call_meets F.slot_str_split (typeIs_str _ _ _) F.entry_str_split (F.args_str_split_2 _ _) (meets_str_split_not_found x y t u c hy f) (q [(x,t)] s.toks rfl)
  ·rw[if_neg f]at q hn;refine call_meets F.slot_str_split (typeIs_str _ _ _) F.entry_str_split (F.args_str_split_2 _ _) (meets_str_split_sep x y t u c hy (eq_false_of_ne_true f) hx hn) ?_;have z:=q (numbered s.toks (Builtin.Str.partsBetween x (Builtin.Str.occurrences x y 0 ↑x (↑x + 1)) ↑y)) (s.toks + ↑(Builtin.Str.partsBetween x (Builtin.Str.occurrences x y 0 ↑x (↑x + 1)) ↑y)) (numbered_texts _ _);rw[<- strsFrom_eq]at z;exact z
end
section
variable {X:Cx}
inductive lg(x:V)(vs:LV)(H:Hp)(Q:VK):Prop
 | mk:∀ a b:Str,x=.str a->vs=[.str b]->(↑b == 0)=false->↑a<=sizeLine->↑(Txt.split a b)<=sizeLine->(∀ p,H p=none->Q (.ref p) (upd H p (.lst ((Txt.split a b).map V.str))))->lg x vs H Q
def UG:M0 X "str.split" lg:=by
 intro ρ s σ H x vs v us Q I rx rv h;obtain⟨a,b,rfl,rfl,hb,ha,hn,q⟩:=h;obtain⟨tk,rfl⟩:=rx;obtain⟨u,rfl,ru⟩:=rv.one;obtain⟨tu,rfl⟩:=ru;refine rS hb ha hn λl oO e=>?_;have hf:H ⇑s=none:=I.hok.fresh (Ye _);refine⟨.ref ⇑s,upd H ⇑s (.lst ((Txt.split a b).map V.str)),I.laid (t':=oO) (λb u e=>Yb _ e) (Ye _) ?_,Y,q _ hf⟩;rw[<- e];exact⟨by rw[Ya,e];exact hn,_,0,jI l,Yk _ rfl⟩
end
end L2
namespace Md
open PySem L2
abbrev sgn(c:Nat):Str:=⟨#[c]⟩
theorem ki{c:Nat}:∀ {x y A B:LN},c∉x->c∉y->x++c :: A=y++c :: B->x=y/\A=B
 | [],[],_,_,_,_,h=>⟨Y,by simpa using h⟩
 | [],b :: y,_,_,_,hy,h=>by
  rw[Om,Ru,List.cons.injEq]at h;exact absurd (by rw[h.1];exact CT) hy
 | a :: x,[],_,_,hx,_,h=>by
  rw[Om,Ru,List.cons.injEq]at h;exact absurd (by rw[<- h.1];exact CT) hx
 | a :: x,b :: y,A,B,hx,hy,h=>by
  rw[Ru,Ru,List.cons.injEq]at h;obtain⟨e,h⟩:=h;obtain⟨e1,e2⟩:=ki (λz=>hx (C7 _ z)) (λz=>hy (C7 _ z)) h;exact⟨by rw[e,e1],e2⟩
def eY(a b:Str):(a++b).cps.toList=a.cps.toList++b.cps.toList:=Array.toList_append
def RD(c:Nat)(x y:Str)(r:LS):(Str.join (sgn c) (x :: y :: r)).cps.toList=x.cps.toList++c :: (Str.join (sgn c) (y :: r)).cps.toList:=by
 show(x++sgn c++Str.join (sgn c) (y :: r)).cps.toList=_;rw[eY,eY,Ms];rfl
def lK{x y:Str}(h:x.cps.toList=y.cps.toList):x=y:=by
 cases x;cases y;exact congrArg Str.mk (Array.toList_inj.mp h)
theorem iA{c:Nat}:∀ {xs ys:LS},xs≠[]->ys≠[]->(∀ p∈xs,c∉p.cps.toList)->(∀ p∈ys,c∉p.cps.toList)->Str.join (sgn c) xs=Str.join (sgn c) ys->xs=ys
 | [],_,h,_,_,_,_=>absurd rfl h
 | _ :: _,[],_,h,_,_,_=>absurd rfl h
 | [x],[y],_,_,_,_,h=>congrArg (λz=>[z]) (show x=y from h)
 | [x],y :: y2 :: r,_,_,hx,_,h=>by
  have h:=congrArg (λz:Str=>z.cps.toList) h
  try dsimp only at h
  rw[RD]at h;exact absurd (show c∈x.cps.toList by rw[show x.cps.toList=_ from h];simp) (hx x CT)
 | x :: x2 :: r,[y],_,_,_,hy,h=>by
  have h:=congrArg (λz:Str=>z.cps.toList) h
  try dsimp only at h
  rw[RD]at h;exact absurd (show c∈y.cps.toList by rw[show y.cps.toList=_ from h.symm];simp) (hy y CT)
 | x :: x2 :: r,y :: y2 :: r',_,_,hx,hy,h=>by
  have h:=congrArg (λz:Str=>z.cps.toList) h
  try dsimp only at h
  rw[RD,RD]at h;obtain⟨e1,e2⟩:=ki (hx x CT) (hy y CT) h;rw[lK e1,iA (JJ _ _) (JJ _ _) (λp h=>hx p (C7 _ h)) (λp h=>hy p (C7 _ h)) (lK e2)]
def vG{c:Nat}{xs:LS}(h:xs≠[])(hf:∀ p∈xs,c∉p.cps.toList):Txt.split (Builtin.Str.glued (sgn c) xs) (sgn c)=xs:=by
 refine iA (c:=c) ?_ h (StrLaws.split_free _ _) hf ?_
 ·intro z;have:=PyProof.Rows.split_pos (Builtin.Str.glued (sgn c) xs) (sgn c);rw[z]at this;exact absurd this 0.2
 ·rw[StrLaws.join_split,StrLaws.glued_eq_join]
end Md
namespace L2
open PySem PySem.Spec PyProof.Rows
section
variable {prog:χ}{w:World}{A:Around}{E:EV}{s:ε}
end
section
variable {M:Model}{A:Around}{E:EV}{s:ε}{env:Env}
end
section
variable {X:Cx}
end
end L2
namespace PySem
open Builtin AutoSeq1
end PySem
namespace L2
open PySem PySem.Spec PyProof.Rows
section
variable {X:Cx}
end
end L2
namespace L2
open PySem PySem.Spec PyProof.Rows PySem.W
section
variable {X:Cx}
end
end L2
namespace L2
open PySem PySem.Spec PySem.Builtin
def ud(l:μ)(items:ζ)(n:Nat)(dd:Option μ)(sl:Array (OU))(k:Int)(u:Tok)(hb:¬ (decide (k < -(2 ^ 63)) || decide (k ≥ 2 ^ 63))=true)(he:¬ (items.isEmpty || k == 1)=true)(h0:(decide (k<=0) || items.isEmpty)=true):
  Meets 11.4 (λ_ R s=>s.heap.get? l=some {cls:=.type "tuple",dict:=dd,data:=.seq items n,slots:=sl}/\R (.ok (.ret (Value.ref ⇑s))) {s with heap:=s.heap.push {cls:=Value.type "tuple",data:=Data.seq #[] },toks:=s.toks}):=
 .of_wp λprog w A R s h=>by obtain⟨hp,g,d,tk,os⟩:=s;obtain⟨hl,h⟩:=h;have f1:=AutoSeq1.idx_int;have f2:=Zm;wp_walk using wpAny_loadPart' hl;rw[if_neg hb];wp_walk using wpAny_loadPart' hl;exact⟨Z,h⟩
section
variable {X:Cx}
inductive Te(K:Fg)(x:V)(y:V)(H:Hp)(Q:VK):Prop
 | mk:∀ a xs b,x=.ref a->y=.int (if b=true then 1 else 0)->AH K H a xs->xs≠[]->↑xs<=100->(b=true->Q (.ref a) H)->(b=false->∀ p,H p=none->Q (.ref p) (upd H p (.tup [])))->Te K x y H Q
def gB:Bd X (binaryOp .Mult) (Te X.K):=by
 exfalso;obtain⟨a,xs,b,rfl,rfl,ha,hx,xl,q1,q0⟩:=h;cases b with
 | true=>exact yt ρ s σ H _ _ v u Q I rx ry ⟨a,1,xs,Y,Y,ha,Q,Q,xl,λ_=>q1 rfl,λ_ n=>absurd rfl n⟩
 | false =>
 cases rx;obtain⟨t,rfl⟩:=ry;obtain⟨ν,r,p1,hz⟩:=I.tuple ha;have hl:=↑r;obtain⟨⟨cls,dd,data,sl⟩,ho,hc,n,hd⟩:=id p1;simp only at hc hd;subst hc hd;have hi:ν≠[]:=λz=>hx (r.nil_iff.mp z);have ie:ν.toArray.isEmpty=false:=by simpa using hi
 refine wpAny_binaryOp_repeat_ref (T:="tuple") (U:="int") 0.2 ⟨_,ho,Y⟩ (λs'=>typeIs_int s' _ t) jr F.fills_int_mul F.slot_int_rmul jg F.slot_int_index.lookup
  (Rp F.slot_int_rmul (typeIs_int s _ t) F.entry_int_rmul (F.args_int_rmul_2 _ _) (jU 0 t a ν.toArray n dd sl) ⟨ho,Y,⟨_,ho,Y⟩,?_⟩)
 refine Rp F.slot_tuple_mul ⟨_,ho,Y⟩ F.entry_tuple_mul (F.args_tuple_mul_2 _ _) (ud a ν.toArray n dd sl 0 t 0.2 (by rw[ie];decide) (by rw[ie];decide)) ⟨ho,?_⟩;refine⟨.ref _,_,I.laid (t':=s.toks) (o:=.tup []) (λb ob q=>Yb _ q) (Ye _) ?_,Y,q0 rfl _ 6.9⟩;exact⟨BN _,[],.nil,_,Yk _ rfl,Y,Z⟩
end
end L2
namespace M1
open PySem L2
variable {P:χ}{w:World}{K:Fg}{mg:Str->OU}{base:Heap}
def top(i:Nat):Stmt:=PySem.Challenge.pw_manydeeds_k81_rows_that_change_a_desk.main.body.getD i (.Pass ⟨0,0,0,0⟩)
abbrev ZF:Stmt:=C4 (top 3) 0
abbrev ZD:Stmt:=C4 (top 4) 0
abbrev ZG:Stmt:=C4 (top 5) 0
abbrev ZA:Stmt:=C4 (top 6) 0
abbrev ZE:Stmt:=C4 (top 7) 0
abbrev ZC:Stmt:=C4 (top 8) 0
abbrev K6:Stmt:=top 22
abbrev OZ:Stmt:=top 24
abbrev U4:Stmt:=C4 (top 25) 0
abbrev Ux:Stmt:=C4 (top 25) 2
abbrev U0:Stmt:=C4 (top 25) 3
abbrev HM:Stmt:=top 31
abbrev OT:Stmt:=top 32
abbrev OR:Stmt:=top 33
abbrev J1:Stmt:=top 34
abbrev JH:Stmt:=top 35
abbrev OS:Stmt:=top 36
abbrev Ui:Stmt:=top 37
abbrev U5:Stmt:=C4 (top 38) 0
abbrev Ug:Stmt:=C4 (top 38) 1
abbrev RX:Stmt:=C4 (top 38) 2
abbrev RP:Stmt:=C4 (top 38) 4
abbrev Up:Stmt:=C4 (top 38) 10
abbrev RQ:Stmt:=C4 (top 38) 11
abbrev Oa:Stmt:=top 41
abbrev LC:Stmt:=C4 (top 42) 0
abbrev RY:Stmt:=C4 (top 42) 1
abbrev Um:Stmt:=C4 (top 42) 2
abbrev Uo:Stmt:=C4 (top 42) 6
abbrev LB:Stmt:=top 64
abbrev U2:Stmt:=top 65
abbrev U3:Stmt:=top 66
abbrev U1:Stmt:=top 67
abbrev UN:Stmt:=top 68
abbrev UO:Stmt:=top 69
abbrev Zip:Stmt:=top 70
abbrev Ua:Stmt:=top 98
abbrev UZ:Stmt:=top 99
abbrev OQ:Stmt:=top 100
abbrev Ut:Stmt:=top 108
abbrev Us:Stmt:=top 109
abbrev RO:Stmt:=top 110
abbrev Uj:Stmt:=top 112
abbrev Uk:Stmt:=top 113
abbrev Ub:Stmt:=top 114
abbrev U6:Stmt:=top 122
abbrev Y_:Stmt:=C4 (top 124) 0
abbrev RK:Stmt:=C4 (top 124) 1
abbrev Ud:Stmt:=C4 (top 124) 3
abbrev Ue:Stmt:=C4 (top 124) 4
abbrev UY:Stmt:=top 126
abbrev MZ:Stmt:=top 127
abbrev Uy:Stmt:=top 128
abbrev HN:Stmt:=top 129
abbrev Uq:Stmt:=top 130
abbrev RU:Stmt:=top 131
abbrev RV:Stmt:=top 132
abbrev OX:Stmt:=top 133
abbrev OW:Stmt:=top 134
abbrev Ob:Stmt:=top 135
abbrev J2:Stmt:=top 136
abbrev Uz:Stmt:=top 137
abbrev Ur:Stmt:=top 138
abbrev Uh:Stmt:=top 139
abbrev LD:Stmt:=top 140
abbrev Ma:Stmt:=top 141
abbrev Mc:Stmt:=top 142
abbrev RW:Stmt:=top 143
abbrev Zf:Stmt:=top 144
end M1
namespace M1
open PySem L2 Md
variable {P:χ}{w:World}{K:Fg}{mg:Str->OU}{base:Heap}
inductive Zg(K:Fg)(vs:LV)(H:Hp)(Q:VK)(AO:XK):Prop
 | mk:∀(a:μ) (k:Int) (ns:List Int),vs=[.ref a,.int k]->SqL K H a 9.4->↑ns<=100->0<=k->k<=1000->(∀ p o,H p=none->Hh o->Q (.ref p) (upd H p o))->Zg K vs H Q AO
inductive OB(vs:LV)(H:Hp)(Q:VK)(AO:XK):Prop
 | mk:∀(p:μ) (m:Int) (o:HO),vs=[.ref p,.int m]->H p≈o->Hh o->0<m->m<4611686018427387904->(∀(v:Int) o',0<=v->v<m->Hh o'->Q (.int v) (upd H p o'))->OB vs H Q AO
inductive YK(vs:LV)(H:Hp)(Q:VK)(AO:XK):Prop
 | mk:∀ n:Nat,vs=[.int n]->n<26 ^ 8->Q (.str (FZ n)) H->YK vs H Q AO
def QK:Am ["script","k","cell","rest"] ["script","k"] (AN UY):=by nofun
def Wj:(10:Int) ^ (64:Int).toNat * 10 ^ (64:Int).toNat * 10 ^ (64:Int).toNat * 10 ^ (64:Int).toNat=10 ^ 256:=by rfl'
def we(F:Def K mg "_law_pot" UY ["script","k"] f fd)(len:mg "len"=none):⋯ 1 f fd ["script","k"] (Zg K):=by
 nomatch F.fn.ok QK
 ·obtain⟨a,k,ns,rfl,_⟩:=h;rfl
 ·obtain⟨a,k,ns,rfl,hS,hl,qJ,EI,q⟩:=h
  ac_nf
  refine⟨_,pS (Er (i:=2) QK.nd rfl 1.7 AG)
   (Fz (AR (Ae L_ 1.6 (A9 EC 0.8 len Yw 3.5) (Ad _))
    (AF (Er (i:=2) QK.nd rfl 1.7 (Ar Kv (Ac Au 0.9 1.6 0.4)
     (Ar Xh (Ar Xh (Ar Xh (Ar OA AG AG) (Ar OA AG AG)) (Ar OA AG AG)) (Ar OA AG AG))))) AS)
   (pS (Er (i:=3) QK.nd rfl 1.7 AG)
   (Fz (AR (Ae Yav 4.2 (Ar OA AG AG) (Ad _)) (AF (Er (i:=3) QK.nd rfl 1.7 4.2)) AS)
   (AF (AW (B4 (pC 7.7 (pC (Ar Kv (Ar To (Ar Ku (Ar Ku (Ar Kv 4.2 AG) (Ar To AG 1.6)) AG) AG) AG) AB)))))))),?_⟩
  exists let b:=Ge _ a;let c:=AE _ b;let e:=_;let f:=Ge (A4 _ e _) c;AE _ f _ _ _
  let CU:SW:=λσ' H'=>H'=H/\∃ c:Int,0<=c/\c<10 ^ 256/\σ'=[↥(.ref a),↥(.int k),↥(.int c),none];refine⟨CU,?_,?_⟩
  ·refine⟨Z,Z,_,Z,.inl ⟨_,hS,Y⟩,_,Z,Y,Z,?_⟩;refine BO (λh1=>?_) (λh1=>?_)
   ·have h1:k<(↑9.4:Int):=Je h1;rw[Ya]at h1;have hi:k.toNat<↑ns:=by omega
    have hat:Cr 9.4 k≈(V.int ns[k.toNat]):=by
     have e:9.4[k.toNat]?≈(V.int ns[k.toNat]):=by rw[Yn,Yu hi];rfl
     have:=EA e
     rwa [VQ qJ]at this
    refine⟨Z,Z,_,_,_,Z,Y,hS,hat,_,Z,Y,⟨Q,Q,by rfl'⟩,_,Z,Y,⟨Q,Q,by rfl'⟩,_,Z,Y,⟨by rfl',by rfl'⟩,
     _,Z,Y,⟨Q,Q,by rfl'⟩,_,Z,Y,⟨by rfl',by rfl'⟩,_,Z,Y,⟨Q,Q,by rfl'⟩,_,Z,Y,⟨by rfl',by rfl'⟩,_,Z,Y,?_,Y,_,?_,?_,Y⟩
    ·show(0:Int)<_;rw[Wj];rfl'
    ·rw[Wj];exact Ol _ 1.2
    ·rw[Wj];exact Oh _ 1.2
   ·exact⟨Y,0,Q,by rfl',Y⟩
  ·rintro σ' H' ⟨rfl,c,qN,qM,rfl⟩;let Gw:SW:=λσ2 H2=>H2=H'/\∃ r:Int,0<=r/\r<10 ^ 256/\σ2=[↥(.ref a),↥(.int k),↥(.int c),↥(.int r)];refine⟨Gw,?_,?_⟩
   ·refine⟨Z,_,Z,Y,⟨Q,Q,by rfl'⟩,_,Z,Y,Z,?_⟩;refine BO (λh1=>?_) (λh1=>?_)
    ·exact⟨Z,Y,c,qN,qM,Y⟩
    ·exact⟨Y,0,Q,by rfl',Y⟩
   ·rintro σ2 H2 ⟨rfl,r,FO,Ax,rfl⟩;have m0:=Ol c (b:=2147483629) 0.2;have m1:=Oh c (b:=2147483629) 0.2;refine⟨Z,Z,_,Z,Y,(by show(0:Int)<2147483629;decide),Z,_,Z,Y,.inl ⟨Q,Q⟩,_,Z,Y,_,Z,Y,_,Z,Y,.inr ⟨Q,Q⟩,_,Z,Y,(by show(0:Int)<2147483647;decide),W,λp hp=>?_⟩;refine q p _ hp ⟨r,Z,FO,Ax,Ol _ 0.2,Oh _ 0.2⟩
def ly:Am ["pot","many","found"] ["pot","many"] (AN MZ):=by nofun
def f_(F:Def K mg "_law_take" MZ ["pot","many"] f fd):⋯ 1 f fd ["pot","many"] OB:=by
 nomatch F.fn.ok ly
 ·obtain⟨p,m,o,rfl,_⟩:=h;rfl
 ·obtain⟨p,m,o,rfl,hp,⟨r,b,rfl,FO,Ax,Py,WL⟩,Lq,Pn,q⟩:=h
  ac_nf
  refine⟨_,pS (AR (Ae FC (Ac Au 0.9 AG 0.4) AG (Ad _))
    (pS (Er (i:=2) ly.nd rfl 1.7 (Ar Kv (Ac Au 0.9 AG 0.4) 1.6))
    (pS (MJ (Ar rF (Ac Au 0.9 AG 0.4) 1.6) (lW 0.9 AG hV)) (AF (AW 4.2)))) AS)
   (pS (MJ (Ar Kv (Ar Ku (Ar To (Ac Au 0.9 AG 0.4) AG) AG) AG) (lW 0.9 AG hV))
   (AF (AW (Ar Kv (Ar gA (Ar Kv (Ar To (Ac Au 0.9 AG 0.4) (Ac Au 0.9 AG 0.4)) AG) AG) 1.6)))),?_⟩
  exists let b:=AE _ a;let c:=_;let e:=AE _ c;let f:=AE _ e;AE (A4 _ f _) b _ _ _
  refine⟨Z,p,_,_,Z,Y,SqL.of hp,Y,_,Z,Y,Z,?_⟩;refine BO (λh1=>?_) (λh1=>?_)
  ·refine⟨Z,p,_,_,Z,Y,SqL.of hp,Y,Z,_,Z,Y,Lq,?_⟩;refine⟨Z,p,_,_,Z,Y,SqL.of hp,Y,Z,_,Z,Y,⟨Lq,Pn⟩,?_⟩;refine⟨Z,p,_,_,0,Y,Y,hp,Y,Z,?_⟩;have h1:0<r:=Je h1;exact q _ _ (Ol _ 0.0) (Oh _ Lq) ⟨r / m,b,Y,Int.ediv_nonneg FO 0.0,Int.lt_of_le_of_lt (Int.ediv_le_self _ FO) Ax,Py,WL⟩
  ·refine⟨Z,p,_,_,Z,Y,SqL.of hp,Y,_,Z,Y,.inr ⟨Q,Q⟩,_,Z,Y,_,Z,Y,(by show(0:Int)<2147483647;decide),?_⟩;refine⟨Z,p,_,_,1,Y,Y,hp,Y,?_⟩;have m0:=Ol (b * 69621 + 12345) (b:=2147483647) 0.2;have m1:=Oh (b * 69621 + 12345) (b:=2147483647) 0.2;refine⟨Z,p,_,_,Z,Y,SqL.of uS,Y,Z,p,_,_,Z,Y,SqL.of uS,Y,_,Z,Y,.inl ⟨V,V⟩,_,Z,Y,(by show(0:Int)<2147483629;decide),_,Z,Y,⟨Q,Q⟩,Z,_,Z,Y,Lq,?_⟩;exact q _ _ (Ol _ 0.0) (Oh _ Lq) ⟨r,Z,FO,Ax,m0,m1⟩
def kH:Am ["number","word"] ["number"] (AN Uy):=by nofun
def uy(F:Def K mg "_law_letters" Uy ["number"] f fd):⋯ 1 f fd ["number"] YK:=by
 nomatch F.fn.ok kH
 ·obtain⟨n,rfl,_⟩:=h;rfl
 ·obtain⟨n,rfl,hn,q⟩:=h;have nd:=kH.nd
  ac_nf
  refine⟨_,pS (sE 1 nd Ah)
   (pS (MV Bs (Jm (Ae BS 1.6 Ah (Ad _)) (Kx (Ae FC 0.9 AG (Ad _)))).pt
    (pS (sE 1 nd (Ar Dr 1.6 (Ac wO Ah (Ar Kv 0.9 AG) 0.4)))
    (AF (sE 0 nd (Ar gA 0.9 AG)))))
   (AF (AW 1.6))),?_⟩
  exists let b:=AE _ a;AE _ b _ _ _
  have e0:("":Str).cps.toList=[]:=by rfl'
  have hlen:↑(ED n)<=8:=Y4 7 n hn;let KG:NW:=λm σ H2=>H2=H/\∃(x:Str) (k:Nat),σ=[↥(.int k),↥(.str x)]/\m=k + (if x.cps.toList=[]then 1 else 0)/\((x.cps.toList=[]/\k=n)\/(x.cps.toList≠[]/\k=0/\x.cps.toList=ED n)\/(x.cps.toList≠[]/\0<k/\x.cps.toList++ED k=ED n));refine⟨KG,⟨Z,_,n,Y,Y,.inl ⟨e0,Y⟩⟩,?_⟩;rintro m σ H2 ⟨rfl,x,k,rfl,rfl,inv⟩;have more:(x.cps.toList=[]\/0<k)->∃ N:SW,(∀ σ' H',N σ' H'->∃ m',m'<k + (if x.cps.toList=[]then 1 else 0)/\(H'=H2/\∃(y:Str) (j:Nat),σ'=[↥(.int j),↥(.str y)]/\m'=j + (if y.cps.toList=[]then 1 else 0) /\
    ((y.cps.toList=[]/\j=n)\/(y.cps.toList≠[]/\j=0/\y.cps.toList=ED n)\/(y.cps.toList≠[]/\0<j/\y.cps.toList++ED j=ED n)))) /\
    N [↥(.int ((k:Int) / 26)),↥(.str (x++⟨#[97 + k % 26]⟩))] H2:=λhk=>by
   let KD:SW:=λσ' H'=>σ'=[↥(.int ((k:Int) / 26)),↥(.str (x++⟨#[97 + k % 26]⟩))]/\H'=H2;refine⟨KD,?_,Y,Y⟩;rintro σ' H' ⟨rfl,rfl⟩;have el:(x++⟨#[97 + k % 26]⟩:Str).cps.toList=x.cps.toList++[97 + k % 26]:=gT _ _;have ne:(x++⟨#[97 + k % 26]⟩:Str).cps.toList≠[]:=by rw[el];simp
   have kd:((k:Int) / 26)=((k / 26:Nat):Int):=by omega
   have whole:(x.cps.toList++[97 + k % 26])++(if k / 26=0 then[]else ED (k / 26))=ED n:=by
    rw[Ms,List.singleton_append,<- OP]
    rcases inv with⟨h1,h2⟩ | ⟨h1,h2,_⟩ | ⟨_,_,h3⟩
    ·rw[h1,h2];rfl
    ·rcases hk with z | z
     ·exact absurd z h1
     ·omega
    ·exact h3
   refine⟨k / 26,?_,Y,_,k / 26,by rw[kd],by rw[if_neg ne];rfl,?_⟩
   ·rcases hk with z | z
    ·rw[if_pos z];omega
    ·have:k / 26<k:=by omega
     omega
   ·right;rw[el];by_cases z:k / 26=0
    ·rw[if_pos z,Dv]at whole;exact .inl ⟨by simp,z,whole⟩
    ·rw[if_neg z]at whole;exact .inr ⟨by simp,V,whole⟩
  have xlen:↑x<=8:=by
   rw[<- Jv]
   rcases inv with⟨h1,_⟩ | ⟨_,_,h3⟩ | ⟨_,_,h3⟩
   ·rw[h1];simp
   ·rw[h3];exact hlen
   ·have:=congrArg List.length h3;rw[Ym]at this;omega
  have eI:Cr letters.cps.toList ((k:Int) % 26)≈(97 + k % 26):=by
   have:=EA (uK (i:=k % 26) 0.0);have e:((k % 26:Nat):Int)=(k:Int) % 26:=by omega
   rwa [e]at this
  refine⟨Z,Y,Z,?_⟩;refine BO (λh1=>?_) (λh1=>?_)
  ·have hx:x.cps.toList=[]:=by
    have:=Je h1;injection this with this;rw[this];exact e0
   obtain⟨N,hN,n0⟩:=more (.inl hx);refine AY ⟨N,hN,?_⟩;exact⟨Z,Z,_,Z,Y,(by show(0:Int)<26;decide),_,_,Z,Y,sL (by rw[<- Jv,UU];decide),eI,_,Z,Y,sL (by rw[fh];omega),Z,_,Z,Y,⟨Q,Q⟩,n0⟩
  ·have hx:x.cps.toList≠[]:=λz=>h1 (Jb (by rw[gK (z.trans e0.symm)]));refine⟨Z,_,Z,Y,Z,?_⟩;refine BO (λh2=>?_) (λh2=>?_)
   ·have hk:0<k:=by have:(0:Int)<(k:Int):=Je h2;omega
    obtain⟨N,hN,n0⟩:=more (.inr hk);refine⟨N,hN,?_⟩;exact⟨Z,Z,_,Z,Y,(by show(0:Int)<26;decide),_,_,Z,Y,sL (by rw[<- Jv,UU];decide),eI,_,Z,Y,sL (by rw[fh];omega),Z,_,Z,Y,⟨Q,Q⟩,n0⟩
   ·have hk:k=0:=by
     have:¬ (0:Int)<(k:Int):=λz=>h2 (Jb z);omega
    have hf:x=FZ n:=by
     refine gK ?_;rw[Y5]
     rcases inv with⟨h1,_⟩ | ⟨_,_,h3⟩ | ⟨_,h2,_⟩
     ·exact absurd h1 hx
     ·exact h3
     ·omega
    rw[hf];exact⟨Z,q⟩
structure Qr(ws:LS):Prop where
 word:∀ x∈ws,AM x=true
 nd:ws.Nodup
inductive Tu(vs:LV)(H:Hp)(Q:VK)(AO:XK):Prop
 | mk:∀(p a:μ) (ws:LS),vs=[.ref p,.ref a]->p≠a->(∃ o,H p≈o/\Hh o)->H a≈(.lst 1.8)->Qr ws->↑ws<=24->(∀ x H',Drawn p H H'->AM x=true->x∉ws->Q (.str x) H')->Tu vs H Q AO
def Ky:LS:=["kind","under","name","deed","gives","with","none","clash","a","ab","abc","abcdefgh","even"]
def tX:Ky.all AM=true:=by rfl'
def W6{ws:LS}{v:Int}(h0:0<=v)(h1:v<↑ws):∃ x,x∈ws/\Cr 1.8 v≈(.str x):=by
 have hi:v.toNat<↑ws:=by omega
 have e:1.8[v.toNat]?≈(V.str ws[v.toNat]):=by rw[Yn,Yu hi];rfl
 have:=EA e;rw[VQ h0]at this;exact⟨_,List.getElem_mem hi,this⟩
def jP(ws:LS):(!ES (.list 11.6) (.list []))=true↔ws≠[]:=by
 cases ws with
 | nil=>simp[HI]
 | cons w r =>
  rw[MO 1.1];simp
def Qe{ws:LS}(h:∀ x∈ws,AM x=true):W.kqdOk 9 (.list 11.6)=true:=by
 show(ws.map PySem.W.Dat.str).all (W.kqdOk 8)=true;rw[Cb];intro d hd;obtain⟨x,hx,e⟩:=Yd.mp hd;rw[<- e];exact T5 (h x hx)
def lH:Am ["pot","words","some","way","word","number"] ["pot","words"] (AN HN):=by nofun
def jd{x y:Str}{n:Nat}(hn:1<=n)(h:y.cps.toList=x.cps.toList.take n)(h1:1<=↑x)(h8:↑x<=8\/n<=8)(hl:∀ c∈x.cps.toList,Gh c=true):AM y=true:=by
 rw[K9,h,Yy,Jv];refine⟨⟨V,V⟩,λc hc=>hl c (Rv hc)⟩
def dQ:List Stmt->Stmt
 | s :: _=>s
 | []=>.Pass ⟨0,0,0,0⟩
def PK:TE:=ZI (λ_ H Q=>Q (Ky.map V.str) H)
def PV:Stmt:=dQ (DU HN)
def Wg:∃ es c p0 p1 p2,PV=.Assign [.Name ("some":Str) p0] (.Tuple es c p1) p2/\Qb es≈Ky:=⟨_,_,_,_,Z,by rfl'⟩
def yz{X:Cx}{st:Stmt}{i:Nat}{x:Str}{ws:LS}(h:∃ es c p0 p1 p2,st=.Assign [.Name x p0] (.Tuple es c p1) p2/\Qb es≈ws)(hN:X.N.Nodup)(hi:X.N[i]?≈x)(hx:Loc X.env.scope x)(hf:X.fn x=true\/X.env.scope.names.lookup x≈.local):PS X st (J3 (ZI (λ_ H Q=>Q 1.8 H)) (DJ i)):=by
 obtain⟨es,c,p0,p1,p2,rfl,h⟩:=h;exact Er hN hi hx (BB (tM h)) rfl hf
def Yat{X:Cx}(hN:X.N.Nodup)(hi:X.N[2]?≈("some":Str))(hx:Loc X.env.scope ("some":Str))(hf:X.fn ("some":Str)=true\/X.env.scope.names.lookup ("some":Str)≈NameKind.local):PS X PV (J3 PK (DJ 2)):=
 @yz X PV 2 ("some":Str) Ky Wg hN hi hx hf
def Vt:List Stmt->List Stmt
 | _ :: r=>r
 | []=>[]
def xG{X:Cx}{l:List Stmt}{t u:TS}(h0:l.isEmpty=false)(h1:PS X (dQ l) t)(h2:CK X (Vt l) u):CK X l (AE t u):=by
 cases l with
 | nil=>cases h0
 | cons a r=>exact pS h1 h2
def pU:(DU HN).isEmpty=false:=by rfl'
def xF{X:Cx}{u:TS}(hN:X.N.Nodup)(hi:X.N[2]?≈("some":Str))(hx:Loc X.env.scope ("some":Str))(hf:X.fn ("some":Str)=true\/X.env.scope.names.lookup ("some":Str)≈NameKind.local)(h2:CK X (Vt (DU HN)) u):CK X (DU HN) (AE (J3 PK (DJ 2)) u):=
 @xG X (DU HN) (J3 PK (DJ 2)) u pU (@Yat X hN hi hx hf) h2
def Ybp{X:Cx}{D:Dl}{σ:St}{H:Hp}(hN:X.N.Nodup)(hi:X.N[2]?≈("some":Str))(hx:Loc X.env.scope ("some":Str))(hf:X.fn ("some":Str)=true\/X.env.scope.names.lookup ("some":Str)≈NameKind.local)
  (h:∃ u,CK X (Vt (DU HN)) u/\AE (J3 PK (DJ 2)) u D σ H):∃ t,CK X (DU HN) t/\t D σ H:=by
 obtain⟨u,h1,h2⟩:=h;exact⟨AE (J3 PK (DJ 2)) u,@xF X u hN hi hx hf h1,h2⟩
def yo(F:Def K mg "_law_word" HN ["pot","words"] f fd)(DT:Def K mg "_law_take" MZ ["pot","many"] fT fdT)(DL:Def K mg "_law_letters" Uy ["number"] fL fdL)(len:mg "len"=none):
  ⋯ 2 f fd ["pot","words"] Tu:=by
 have GT:⋯ 1 fT fdT ["pot","many"] OB:=f_ DT;have GL:⋯ 1 fL fdL ["number"] YK:=uy DL
 nomatch F.fn.ok lH
 ·obtain⟨p,a,ws,rfl,_⟩:=h;rfl
 ·obtain⟨p,a,ws,rfl,hpa,hpot,ha,hw,hl24,q⟩:=h;have nd:=lH.nd;have hu:=hr.units;refine @Ybp _ _ _ _ nd rfl 1.7 1.7 ?_
  ac_nf
  refine⟨_,(pS (sE 3 nd (Ag DT GT hr (pC 0.9 (pC AG AB))))
   (pS (sE 4 nd (Ac Dp 4.2 (Ag DT GT hr (pC 0.9 (pC AG AB))) 0.4))
   (Fz (AR (Ae BS 7.7 AG (Ad _)) (AF (sE 4 nd (Ag DL GL hr (pC (Ag DT GT hr (pC 0.9 (pC (Ar xA (Ar OA AG AG) AG) AB))) AB)))) AS)
   (Fz (AR (Kw (Ae BS 7.7 AG (Ad _)) (OE (Ae (N_ hu) 1.6 (B4 AB) (Ad _)))).pt
    (pS (sE 4 nd (Ac Au 1.6 (Ag DT GT hr (pC 0.9 (pC (A9 EC 0.8 len Yw 3.1) AB))) 0.4))
    (AF (sE 4 nd (F0 lI (Ar Dr (pv 4) (Ag DL GL hr (pC (Ag DT GT hr (pC 0.9 (pC AG AB))) AB))) HH (FH AG))))) AS)
   (Fz (AR (Kw (Ae BS 7.7 AG (Ad _)) (OE (Ae (N_ hu) 1.6 (B4 AB) (Ad _)))).pt
    (pS (sE 4 nd (Ac Au 1.6 (Ag DT GT hr (pC 0.9 (pC (A9 EC 0.8 len Yw 3.1) AB))) 0.4))
    (AF (sE 4 nd (F0 lI (pv 4) HH (FH (Ar Ku AG (Ag DT GT hr (pC 0.9 (pC (A9 EC 0.8 len Yw 7.6) AB))))))))) AS)
   (pS (sE 5 nd AG)
   (pS (MV Bs (Ae HL (pv 4) 1.6 1.3)
    (pS (sE 4 nd (Ag DL GL hr (pC 7.5 AB)))
    (AF (sE 5 nd (Ar Ku 7.5 AG)))))
   (AF (AW (pv 4)))))))))),?_⟩
  have hap:a≠p:=Yz hpa;obtain⟨o0,Nk,TH⟩:=hpot;have wl:∀ {H':Hp},Drawn p H H'->SqL K H' a 1.8:=λd=>SqL.of (d.keep _ _ hap ha);refine⟨sL (by show 13<=100000;decide),λt ht=>?_⟩;have d1:Drawn p H (upd H t (.tup (Ky.map V.str))):=(Drawn.refl ⟨o0,Nk,TH⟩).new ht;have tp:t≠p:=λe=>by rw[e,Nk]at ht;cases ht
  refine⟨Z,p,4,o0,Y,(by rw[AD (Yz tp)];exact Nk),TH,Q,Q,λway o1 hw0 EG dM=>?_⟩;refine⟨Z,Z,p,13,o1,Y,uS,dM,Q,Q,λv o2 Ih GO GV=>?_⟩;obtain⟨x0,Ke,hat⟩:=W6 (ws:=Ky) Ih (by show v<13;exact GO);refine⟨t,Ky.map V.str,_,Z,Y,AH.of (by rw[AD tp,AD tp];exact uS),hat,?_⟩;have w0:AM x0=true:=Cb.mp tX x0 Ke;have d3:Drawn p H (upd (upd (upd H t (.tup (Ky.map V.str))) p o1) p o2):=(d1.trans (Drawn.upd dM)).trans (Drawn.upd GV);let CU:SW:=λσ' H'=>∃ x:Str,σ'=[↥(.ref p),↥(.ref a),↥(.ref t),↥(.int way),↥(.str x),none]/\AM x=true/\Drawn p H H';refine⟨CU,?_,?_⟩
  ·refine⟨Z,Y,Z,?_⟩;refine BO (λ_=>?_) (λ_=>?_)
   ·obtain⟨o3,Ha,JS⟩:=d3.pot;refine⟨Z,_,Z,Y,⟨Q,Q,by rfl'⟩,_,Z,Y,p,_,o3,Y,Ha,JS,Q,Q,λv o4 Ih GO Ln=>?_⟩;have GO:v<208827064550:=GO;refine⟨v.toNat,by rw[VQ Ih];rfl,V,Z,Y6 0.0,d3.trans (Drawn.upd Ln)⟩
   ·exact⟨x0,Y,w0,d3⟩
  ·rintro σ' H1 ⟨x1,rfl,w1,d4⟩;let Gw:SW:=λσ' H'=>∃ x:Str,σ'=[↥(.ref p),↥(.ref a),↥(.ref t),↥(.int way),↥(.str x),none]/\AM x=true/\Drawn p H H';refine⟨Gw,?_,?_⟩
   ·refine⟨Z,Y,Z,?_⟩;refine BO (λ_=>?_) (λ_=>AL ⟨x1,Y,w1,d4⟩);refine⟨Z,BN _,λt2 AU=>⟨.list 11.6,.list [],.list ((wl d4).mono_new AU) (Gm ws),.list (SqL.of uS) .nil,Qe hw.word,Y,Z,?_⟩⟩;have d5:Drawn p H (upd H1 t2 (.lst [])):=d4.new AU;refine BO (λCz=>?_) (λ_=>⟨x1,Y,w1,d5⟩);have Cz:ws≠[]:=(jP ws).mp Cz;have hpos:0<↑ws:=Oo.mpr Cz;obtain⟨o5,HY,S_⟩:=d5.pot;refine⟨Z,Z,Z,_,Z,.inl ⟨_,wl d5,Y⟩,p,_,o5,Y,HY,S_,by rw[Ya];omega,by rw[Ya];omega,λv o6 Ih GO Kh=>?_⟩;rw[Ya]at GO;obtain⟨x2,Ni,bK⟩:=W6 (ws:=ws) Ih GO;have d6:Drawn p H (upd (upd H1 t2 (.lst [])) p o6):=d5.trans (Drawn.upd Kh);have w2:AM x2=true:=hw.word x2 Ni;refine⟨a,ws.map V.str,_,Z,Y,wl d6,bK,?_⟩;refine⟨Z,Z,p,26,o6,Y,uS,Kh,Q,Q,λv o7 Ih GO Kg=>?_⟩;refine⟨v.toNat,by rw[VQ Ih];rfl,V,?_⟩;have Vq:AM (FZ v.toNat)=true:=Y6 0.0;have l2:=DS w2;have l3:=DS Vq;refine⟨_,Z,Y,sL 0.0,Z,Z,sL (by rw[ff];omega),?_⟩;refine⟨Z,?_,d6.trans (Drawn.upd Kg)⟩;refine jd (x:=x2++FZ v.toNat) (n:=8) 0.2 (jW _ 8 0.2) (by rw[ff];omega) (.inr (Ye _)) λc hc=>?_;rw[gT]at hc
    rcases Yo.mp hc with hc | hc
    ·exact((K9 x2).mp w2).2 c hc
    ·exact((K9 _).mp Vq).2 c hc
   ·rintro σ' H2 ⟨x2,rfl,w2,d5⟩;let KG:SW:=λσ' H'=>∃ x:Str,σ'=[↥(.ref p),↥(.ref a),↥(.ref t),↥(.int way),↥(.str x),none]/\AM x=true/\Drawn p H H';refine⟨KG,?_,?_⟩
    ·refine⟨Z,Y,Z,?_⟩;refine BO (λ_=>?_) (λ_=>AL ⟨x2,Y,w2,d5⟩);refine⟨Z,BN _,λt2 AU=>⟨.list 11.6,.list [],.list ((wl d5).mono_new AU) (Gm ws),.list (SqL.of uS) .nil,Qe hw.word,Y,Z,?_⟩⟩;have d6:Drawn p H (upd H2 t2 (.lst [])):=d5.new AU;refine BO (λCz=>?_) (λ_=>⟨x2,Y,w2,d6⟩);have Cz:ws≠[]:=(jP ws).mp Cz;have hpos:0<↑ws:=Oo.mpr Cz;obtain⟨o6,Lm,Kh⟩:=d6.pot;refine⟨Z,Z,Z,_,Z,.inl ⟨_,wl d6,Y⟩,p,_,o6,Y,Lm,Kh,by rw[Ya];omega,by rw[Ya];omega,λv o7 Ih GO Kg=>?_⟩;rw[Ya]at GO;obtain⟨x3,pz,bJ⟩:=W6 (ws:=ws) Ih GO;have d7:Drawn p H (upd (upd H2 t2 (.lst [])) p o7):=d6.trans (Drawn.upd Kg);have w3:AM x3=true:=hw.word x3 pz;have l3:=DS w3;refine⟨a,ws.map V.str,_,Z,Y,wl d7,bJ,?_⟩;refine⟨Z,Z,Z,_,Z,⟨sL 0.0,Y⟩,p,_,o7,Y,uS,Kg,V,V,λv o8 Ih GO WG=>?_⟩;refine⟨_,Z,Y,Z,Z,sL 0.0,?_⟩;refine⟨Z,?_,d7.trans (Drawn.upd WG)⟩;exact jd (x:=x3) (n:=(1 + v).toNat) 0.0 (jW _ (1 + v) 0.0) 0.0 (.inl 0.0) ((K9 x3).mp w3).2
    ·rintro σ' H3 ⟨x3,rfl,w3,d6⟩;let KD:NW:=λm σ H'=>∃(x:Str) (n:Nat),σ=[↥(.ref p),↥(.ref a),↥(.ref t),↥(.int way),↥(.str x),↥(.int n)]/\AM x=true/\Drawn p H H'/\m=↑ws + 1 - n/\n<=↑ws + 1/\(n=0\/x=FZ (n - 1))/\∀ j,j + 1<n->FZ j∈ws;refine⟨KD,⟨_,x3,0,Y,w3,d6,Y,V,.inl rfl,λj hj=>by omega⟩,?_⟩;rintro m σ H4 ⟨x,n,rfl,wx,dx,rfl,hn,hxn,hall⟩;refine⟨Z,Z,a,Z,.inl (wl dx),Y,JG ws,Z,?_⟩;show if Bh (.str x) 1.8=true then _ else _
     rw[FD];refine BO (λhin=>?_) (λhin=>?_)
     ·have hin:x∈ws:=Je hin;have all:∀ j,j<n->FZ j∈ws:=λj hj=>by
       by_cases z:j + 1<n
       ·exact hall j z
       ·rcases hxn with e | e
        ·omega
        ·have:j=n - 1:=by omega
         rw[this,<- e];exact hin
      have hle:n<=↑ws:=by
       have:=Graph.nodup_le (l:=(List.range n).map FZ) (k:=ws) ?_ ?_
       ·simpa using this
       ·rw[List.nodup_iff_pairwise_ne,List.pairwise_map];exact(List.nodup_iff_pairwise_ne.mp List.nodup_range).imp λh e=>h (vV e)
       ·intro y hy;obtain⟨j,hj,e⟩:=Yd.mp hy;rw[<- e];exact all j (List.mem_range.mp hj)
      let Hv5:SW:=λσ' H'=>σ'=[↥(.ref p),↥(.ref a),↥(.ref t),↥(.int way),↥(.str (FZ n)),↥(.int ((n:Int) + 1))]/\H'=H4;refine⟨Hv5,?_,?_⟩
      ·rintro σ' H' ⟨rfl,rfl⟩;exact⟨↑ws + 1 - (n + 1),V,FZ n,n + 1,Y,Y6 0.0,dx,Y,V,.inr rfl,λj hj=>all j 0.0⟩
      ·exact⟨Z,n,Y,V,Z,_,Z,Y,Y,Y⟩
     ·have hin:x∉ws:=λz=>hin (Jb z);exact⟨Z,q x H4 dx wx hin⟩
inductive JF(vs:LV)(H:Hp)(Q:VK)(AO:XK):Prop
 | mk:∀ x:Str,vs=[.str x]->↑x<=1000->(∀ H',AA H H'->Q (.bl (AM x)) H')->JF vs H Q AO
inductive Y2(K:Fg)(vs:LV)(H:Hp)(Q:VK)(AO:XK):Prop
 | mk:∀(l:μ) (rows:RS),vs=[.ref l]->HE K H l rows->As rows->13.2->Y2 K vs H Q AO
structure Fp(H:Hp)(d:μ)(o:Obj)(rows:RS)(π:KL):Prop where
 at_:H d≈(.frz o (.dK π))
 ups:Dd H rows π
theorem Fp.mono{H H':Hp}{d:μ}{o:Obj}{rows:RS}{π:KL}(b:Fp H d o rows π)(s:AA H H'):Fp H' d o rows π:=⟨s _ _ b.at_,b.ups.mono λ_ _ e=>s _ _ e⟩
inductive YX(vs:LV)(H:Hp)(Q:VK)(AO:XK):Prop
 | mk:∀(d:μ) (o:Obj) (rows:RS) (π:KL),vs=[.ref d]->Fp H d o rows π->As rows->13.2->YX vs H Q AO
def Ho(us left:LS):V:=match us.find? (λx=>decide (x∈left))with | some x=>.str x | none=>.non
inductive Qq(K:Fg)(vs:LV)(H:Hp)(Q:VK)(AO:XK):Prop
 | mk:∀(a b:μ) (us left:LS),vs=[.ref a,.ref b]->AH K H a (us.map V.str)->SqL K H b (left.map V.str)->Q (Ho us left) H->Qq K vs H Q AO
inductive YQ(vs:LV)(H:Hp)(Q:VK)(AO:XK):Prop
 | mk:∀(d:μ) (o:Obj) (rows:RS) (π:KL),vs=[.ref d]->Fp H d o rows π->As rows->(∀ l H',AA H H'->H' l≈(.lst [])->Q (.ref l) H')->YQ vs H Q AO
inductive Wy(vs:LV)(H:Hp)(Q:VK)(AO:XK):Prop
 | mk:∀(d:μ) (o:Obj) (rows:RS) (π:KL),vs=[.ref d]->Fp H d o rows π->As rows->13.2->Wy vs H Q AO
structure HC(mg:Str->OU):Prop where
 letters:∃ t,mg "LETTERS"≈(.str letters t)
 most:∃ t,mg "MOST_LETTERS"≈(.int 8 t)
 kinds:∃ t,mg "MOST_KINDS"≈(.int 24 t)
 ups:∃ t,mg "MOST_UPS"≈(.int 8 t)
 len:mg "len"=none
 all:mg "all"=none
 list:mg "list"=none
 tuple:mg "tuple"=none
def og:Am ["text"] ["text"] (AN HM):=by nofun
def yH:(["sign"]:LS).Nodup:=by rfl'
def RI(F:Def K mg "is_word" HM ["text"] f fd)(T:HC mg):⋯ 1 f fd ["text"] JF:=by
 nomatch F.fn.ok og
 ·obtain⟨x,rfl,_⟩:=h;rfl
 ·obtain⟨x,rfl,hx,k⟩:=h;obtain⟨t1,hl⟩:=T.letters;obtain⟨t2,hm⟩:=T.most
  ac_nf
  refine⟨_,pS (AR (Ct (Qv Iz Iz AG (A9 EC 0.8 T.len Yw 3.5) (EB (v:=.int 8) 0.8 hm ⟨_,rfl⟩))) (AF (AW FX)) AS)
   (AF (AW (A9 (UA rfl) 0.8 T.all VZ (pC
    (EX ["sign"] [] [] (λ_=>B5 (osc:=AN HM) (on:=["text"]) 1.2 rfl rfl rfl) (lX 0.9) (λC s H fp=>CB (i:=0) yH rfl 1.7 1.4) 2.6
     (λC s H fp=>DV iw 0.9 (EB (v:=.str letters) 0.8 hl ⟨_,rfl⟩) 1.3)) AB)))),?_⟩
  exists AE _ a _ _ _
  refine⟨_,rfl,_,_,rfl,⟨sL 0.0,rfl⟩,_,_,rfl,rfl,_,rfl,?_⟩;have no:¬ (1<=↑x/\↑x<=8)->AM x=false:=λh=>by unfold AM;rw[Jc h];rfl
  have same:AA H H:=AA.refl H;refine BO (λh1=>?_) (λh1=>?_)
  ·have h1:(1:Int)<=(↑x:Int):=Je h1;refine⟨_,Z,Y,Z,?_⟩;refine BO (λh2=>?_) (λh2=>?_)
   ·have h2:¬ ((↑x:Int)<=8):=by simpa using h2
    have q:=k H same;rw[no 0.0]at q;exact q
   ·have h2:((↑x:Int)<=8):=by simpa using h2
    refine⟨Z,Z,RF hJ (by unfold Hr;rw[Ya,Jv];exact sL 0.0) (λ_=>true) QG (λ_ _ _=>trivial) ?_ ?_ ?_⟩
    ·intro D ys v R _ _ hR;exact hR
    ·intro D ys v R _ hv _ hR;obtain⟨c,_,e⟩:=Yd.mp hv;subst e;exact⟨Z,_,Z,Y,hR⟩
    ·intro D hD;refine⟨D,x.cps.toList.map Gh,Y,SqL.of (by rw[<- i7];exact uS),?_⟩;have e:(x.cps.toList.map Gh).all id=AM x:=by
      unfold AM;rw[Jb 0.0,Du,Mu];rfl
     have q:=k (upd H D (.lst (((Hr x).filter λ_=>true).map QG))) λb o hb=>by rw[AD (AI hb hD)];exact hb
     rw[<- e]at q;exact q
  ·have h1:¬ ((1:Int)<=(↑x:Int)):=λz=>h1 (Jb z);refine⟨Z,?_⟩;refine AY ?_;have q:=k H same;rw[no 0.0]at q;exact q
def Jt{b:Bool}{H:Hp}{a:μ}{xs:LV}(h:CF K b H a xs):l_ K (.ref a) H ↑xs:=by
 cases b with
 | true=>exact .inl ⟨xs,h,Y⟩
 | false=>exact .inr ⟨xs,h,Y⟩
def VD:Am ["rows","seen","word","ups"] ["rows"] (AN OT):=by nofun
def vf(F:Def K mg "check_rows" OT ["rows"] f fd)(DW:Def K mg "is_word" HM ["text"] fW fdW)(T:HC mg):⋯ 2 f fd ["rows"] (Y2 K):=by
 have GW:⋯ 1 fW fdW ["text"] JF:=RI DW T
 nomatch F.fn.ok VD
 ·obtain⟨l,rows,rfl,_⟩:=h;rfl
 ·obtain⟨l,rows,rfl,⟨b,vs,hl,hp⟩,g,q⟩:=h;obtain⟨t1,hK⟩:=T.kinds;obtain⟨t2,hU⟩:=T.ups;have nd:=VD.nd;have hu:=Dm hr
  ac_nf
  refine⟨_,pS (AR (Ct (Qv Iz Iz AG (A9 EC 0.8 T.len Yw 3.5) (EB (v:=.int 24) 0.8 hK ⟨Z⟩))) CA AS)
   (pS (sE 1 nd Gn)
   (AF (Be Bs rfl (Fw 0.9) 4.3
    (pS (AR (Ct (Cg (Ag DW GW hr 2.2))) CA AS)
    (pS (AR (Em (Jp hu 4.2 1.6)) CA AS)
    (pS (AR (Ae FC (A9 EC 0.8 T.len Yw 3.3) (EB (v:=.int 8) 0.8 hU ⟨Z⟩) (Ad _)) CA AS)
    (AF (FI hu 1.6 4.2 FX rfl)))))))),?_⟩
  exists let b:=AE _ a;let c:=AE _ b;let e:=AE _ c;let f:=Bq _ _ e;let g:=AE _ f;AE _ g _ _ _
  have hvl:=↑hp;have g1:=g.ne;have g2:=g.le;refine⟨Z,_,Z,Jt hl,_,Z,Y,Z,?_⟩;rw[show decide ((1:Int)<=(↑vs:Int))=true from Jb 0.0];refine AY ⟨_,Z,Y,Z,?_⟩;rw[show(decide ((↑vs:Int)<=24))=true from Jb 0.0];refine AL ?_;intro d hd;have s0:AA H (upd H d (.dK [])):=λb o e=>by rw[AD (AI e hd)];exact e
  let Bf:NW:=λi σ H'=>∃(π:KL) (a c:OV),σ=[↥(.ref l),↥(.ref d),a,c]/\AA H H'/\H' d≈(.dK π)/\π.map 0.5=(rows.take i).map λr=>(Sum.inr r.1:Key);refine⟨Z,b,l,vs,Y,hl.mono s0,B1 F1 Bf
   ⟨[],none,none,Y,s0,uS,by simp⟩ (λi σ H' _ h0=>by obtain⟨_,_,_,_,s,_⟩:=h0;exact hl.mono s) ?_ ?_⟩
  ·rintro i v σ H' hi ⟨π,a,c,rfl,s,hdk,hk⟩;obtain⟨r,Ab,t,u,rfl,ht,hug⟩:=BM hp hi;obtain⟨b',EH⟩:=hug.sq;have Ap:r∈rows:=Yc Ab;have hw:=g.word r Ap;have hwl:=DS hw;refine⟨t,Z,s.tup ht,Y,_,Z,_,Z,Y,?_⟩;refine⟨Z,r.1,Y,V,λH2 s2=>⟨Z,?_⟩⟩;rw[hw];refine AL ?_;have hd2:H2 d≈(.dK π):=s2 _ _ hdk;refine⟨Z,Z,d,Z,BR.k (k:=Sum.inr r.1) hd2,Z,?_⟩;have Aq:(Sum.inr r.1:Key)∉π.map 0.5:=by rw[hk];exact K7 g.nd Ab
   rw[FJ Aq];refine AL ?_;refine⟨Z,_,Z,Jt (EH.mono (s.trans s2)),_,Z,Y,Z,?_⟩;rw[show decide ((8:Int)<(↑6.7:Int))=false from Jc (by rw[Ya];have:=g.few r Ap;omega)];refine AL ?_;have hkl:↑π=↑5.0:=by have:=congrArg List.length hk;simpa using this
   have hil:↑5.0<=24:=by rw[Yy];omega
   refine⟨Z,Z,d,Z,Cs.k (k:=Sum.inr r.1) hd2 (Br 0.0),?_⟩;refine⟨_,_,Z,λb o e=>?_,uS,?_⟩
   ·rw[AD (AI e hd)];exact s2 _ _ (s _ _ e)
   ·rw[RN Aq,hk,Yq,Ab,B6];rfl
  ·rintro σ H' ⟨π,a,c,rfl,s,hdk,hk⟩;exact q H' s
def VE:Am ["ups_of","ups","seen","up"] ["ups_of"] (AN OR):=by nofun
def Ql{us:LS}{i:Nat}{v:V}(h:(us.map V.str)[i]?≈v):∃ x,us[i]?≈x/\v=.str x:=by
 rw[Yn]at h;obtain⟨x,hx,e⟩:=FK.mp h;exact⟨x,hx,e.symm⟩
def i_{us:LS}{i:Nat}{x:Str}(nd:us.Nodup)(h:us[i]?≈x):(Sum.inr x:Key)∉(us.take i).map λy=>(Sum.inr y:Key):=by
 intro m;obtain⟨y,hy,e⟩:=Yd.mp m;have e:y=x:=by injection e
 subst e;obtain⟨j,hj,ej⟩:=VU.mp hy;rw[Yy]at hj;rw[List.getElem_take]at ej;have a:us[j]?≈y:=by rw[Yu 0.0,ej]
 have:=OK nd a h;omega
def vZ(F:Def K mg "check_ups" OR ["ups_of"] f fd):⋯ 1 f fd ["ups_of"] YX:=by
 nomatch F.fn.ok VE
 ·obtain⟨d,o,rows,π,rfl,_⟩:=h;rfl
 ·obtain⟨d,o,rows,π,rfl,bk,g,q⟩:=h;have nd:=VE.nd;have hu:=Dm hr
  ac_nf
  refine⟨_,AF (Be Bs rfl (gG 0.9) (gE 1 nd)
    (pS (sE 2 nd Gn)
    (AF (Be Bs rfl (JB 1.6) (gE 3 nd)
     (pS (AR (Em (RM hu 7.7 0.9)) CA AS)
     (pS (AR (Em (Jp hu 7.7 4.2)) CA AS)
     (AF (FI hu 4.2 7.7 FX rfl)))))))),?_⟩
  exists let b:=AE _ a;let c:=AE _ b;let e:=Bq _ _ c;let f:=AE _ e;Bq _ _ f _ _ _
  let Dh:NW:=λi σ H'=>∃(a b c:OV),σ=[↥(.ref d),a,b,c]/\AA H H';refine⟨Z,d,o,π,Y,bk.at_,B1 i6 Dh ⟨none,none,none,Y,AA.refl H⟩ (λi σ H' _ h0=>by obtain⟨_,_,_,_,s⟩:=h0;exact s _ _ bk.at_) ?_ ?_⟩
  ·rintro i v σ H' hi ⟨a,b,c,rfl,s⟩;rw[Yn]at hi;obtain⟨p,hp,e⟩:=FK.mp hi;obtain⟨r,Ab,hk,t,ht,htup⟩:=BM bk.ups hp;have Ap:r∈rows:=Yc Ab;subst e;show DJ 1 p.2 _ _ _;rw[ht];intro sd hsd;have s1:AA H (upd H' sd (.dK [])):=λb o e=>by rw[AD (AI (s _ _ e) hsd)];exact s _ _ e
   have t1:(upd H' sd (.dK [])) t≈(.tup 6.7):=s1 _ _ htup;let R6:NW:=λj σ H2=>∃(BP:KL) (c:OV),σ=[↥(.ref d),↥(.ref t),↥(.ref sd),c]/\AA H H2/\H2 sd≈(.dK BP)/\BP.map 0.5=(r.2.take j).map λy=>(Sum.inr y:Key);refine⟨Z,t,Y,⟨_,AH.of t1⟩,B1 (JE (xs:=r.2.map V.str)) R6
    ⟨[],Z,s1,uS,by simp⟩ (λj σ H2 _ h0=>by obtain⟨_,_,_,s,_⟩:=h0;exact AH.of (s _ _ htup)) ?_ ?_⟩
   ·rintro j v σ H2 hj ⟨BP,c,rfl,s2,Ew,GY⟩;obtain⟨x,hx,rfl⟩:=Ql hj;have xm:x∈r.2:=Yc hx;have known:=g.known r Ap x xm;refine⟨Z,Z,d,Z,BR.f (k:=Sum.inr x) (s2 _ _ bk.at_),Z,?_⟩;obtain⟨r2,A7,Nz⟩:=Yd.mp known;obtain⟨t2,GJ,_⟩:=bk.ups.val g.nd A7;rw[<- Nz,GJ,Nz];refine AL ?_;have Aq:(Sum.inr x:Key)∉BP.map 0.5:=by rw[GY];exact i_ (g.upnd r Ap) hx
    refine⟨Z,Z,sd,Z,BR.k (k:=Sum.inr x) Ew,Z,?_⟩;rw[FJ Aq];refine AL ?_;have hkl:↑BP=↑(r.2.take j):=by have:=congrArg List.length GY;simpa using this
    have hjl:↑(r.2.take j)<=8:=by rw[Yy];have:=g.few r Ap;omega
    have hsH:H sd=none:=s.free hsd;refine⟨Z,Z,sd,Z,Cs.k (k:=Sum.inr x) Ew (Br 0.0),_,Z,λb o e=>?_,uS,?_⟩
    ·rw[AD (AI e hsH)];exact s2 _ _ e
    ·rw[RN Aq,GY,Yq,hx,B6];rfl
   ·rintro σ H2 ⟨BP,c,rfl,s2,Ew,GY⟩;exact⟨_,_,Z,s2⟩
  ·rintro σ H' ⟨a,b,c,rfl,s⟩;exact q H' s
def mV:Am ["words","others","word"] ["words","others"] (AN J1):=by nofun
def Xv(F:Def K mg "first_among" J1 ["words","others"] f fd):⋯ 1 f fd ["words","others"] (Qq K):=by
 nomatch F.fn.ok mV
 ·obtain⟨a,b,us,left,rfl,_⟩:=h;rfl
 ·obtain⟨a,b,us,left,rfl,ha,hb,q⟩:=h;have nd:=mV.nd
  ac_nf
  refine⟨_,pS (Be Bs rfl (JB 0.9) (gE 2 nd) (AF (AR (Ae HL 4.2 1.6 1.3) (AF (AW 4.2)) AS)))
   (AF (AW Dq)),?_⟩
  exists let b:=_;AE (Bq _ _ b) a _ _ _
  let aF:NW:=λi σ H'=>H'=H/\(∃ c:OV,σ=[↥(.ref a),↥(.ref b),c])/\(us.take i).find? (λx=>decide (x∈left))=none;refine⟨Z,a,Y,⟨_,ha⟩,B1 (JE (xs:=us.map V.str)) aF ⟨Y,⟨none,Y⟩,by simp⟩ (λi σ H' _ ⟨e,_⟩=>by rw[e];exact ha) ?_ ?_⟩
  ·rintro i v σ H' hi ⟨rfl,⟨c,rfl⟩,hf⟩;obtain⟨x,hx,rfl⟩:=Ql hi;refine⟨Z,Z,b,Z,.inl hb,Y,JG left,Z,?_⟩;show if Bh (.str x) (left.map V.str)=true then _ else _
   rw[FD];have split:us=us.take i++x :: us.drop 4.6:=by
    have Bb:=(Yg.mp hx).1;have e:us[i]=x:=(Yg.mp hx).2;rw[<- e,List.getElem_cons_drop Bb,List.take_append_drop]
   refine BO (λh=>?_) (λh=>?_)
   ·have fv:Ho us left=.str x:=by
     unfold Ho;rw[split,List.find?_append,hf,Mn];simp only[h];rfl
    rw[fv]at q;exact⟨Z,q⟩
   ·refine⟨Y,⟨Z⟩,?_⟩;rw[Yq,hx,List.find?_append,hf];have h':decide (x∈left)=false:=by simpa using h
    simp[h']
  ·rintro σ H' ⟨rfl,⟨c,rfl⟩,hf⟩;rw[Ya,Yx]at hf;have fv:Ho us left=.non:=by unfold Ho;rw[hf]
   rw[fv]at q;exact q
def QH(rows:RS)(ls:LS):V->Bool
 | .str x=>(A2 rows x).any λu=>decide (u∈ls)
 | _=>false
def iD(rows:RS)(ls:LS):((ls.map V.str).filter (QH rows ls)).map (λv=>v)=(Graph.kept 6.2 ls).map V.str:=by
 rw[List.map_id',List.filter_map];rfl
def gj(us ls:LS):(!decide (Ho us ls=V.non))=us.any λu=>decide (u∈ls):=by
 unfold Ho;cases e:us.find? λx=>decide (x∈ls)with
 | none =>
  have:∀ x∈us,¬ decide (x∈ls)=true:=List.find?_eq_none.mp e;rw[J9];constructor
  ·intro h;simp at h
  ·intro h;obtain⟨x,hx,h1⟩:=IE.mp h;exact absurd h1 (this x hx)
 | some x =>
  have h1:=List.find?_some e;have h2:=VW e;rw[J9];constructor
  ·intro _;exact IE.mpr ⟨x,h2,h1⟩
  ·intro _;rfl
abbrev Z7:LS:=["ups_of","left","kept"]
def S2:Am Z7 ["ups_of"] (AN JH):=by nofun
def lG:(["word","ups_of","left"]:LS).Nodup:=by rfl'
def HK{rows:RS}{x:Str}(h:x∈rows.map 0.5):∃ r∈rows,r.1=x:=by
 obtain⟨r,hr,e⟩:=Yd.mp h;exact⟨r,hr,e⟩
def uv(F:Def K mg "endless" JH ["ups_of"] f fd)(DF:Def K mg "first_among" J1 ["words","others"] fF fdF)(T:HC mg):⋯ 2 f fd ["ups_of"] YQ:=by
 have GF:⋯ 1 fF fdF ["words","others"] (Qq K):=Xv DF
 nomatch F.fn.ok S2
 ·obtain⟨d,o,rows,π,rfl,_⟩:=h;rfl
 ·obtain⟨d,o,rows,π,rfl,bk,g,q⟩:=h;have nd:=S2.nd;have hu:=Dm hr
  ac_nf
  refine⟨_,pS (Er (i:=1) nd rfl 1.4 (EE (jo rfl) 0.8 T.list LP 3.5))
   (AF (MV Bs (Cg FX)
    (pS (HP (k:=2) ["word"] ["ups_of","left"] [0,1] nd rfl rfl (λ_=>B5 (osc:=AN JH) (on:=Z7) 1.2 rfl rfl rfl) (Ci 1.6) (λC s H fp=>CB (i:=0) lG rfl 1.7 1.4)
     (λC s H fp=>Qn (Em (T3 (Ag DF GF hr (pC (Ju hu 1.6 0.9 0.4) 2.2))))) (λC s H fp=>pv 0))
    (pS (AR (Ae BS (A9 EC 0.8 T.len Yw 2.2) (A9 EC 0.8 T.len Yw 3.1) (Ad _)) (AF (AW 4.2)) AS)
    (AF (Er (i:=1) nd rfl 1.4 4.2)))))),?_⟩
  exists let b:=AE _ a;let c:=AE _ b;let e:=MI _ c;AE _ e _ _ _
  have wl:↑13.9<=24:=by rw[Ya];exact g.le
  refine⟨Z,d,π,Y,.inr ⟨o,bk.at_⟩,λl0 Dj=>?_⟩;let CU:NW:=λm σ H'=>∃(ll:μ) (ls:LS) (c:OV),σ=[↥(.ref d),↥(.ref ll),c]/\AA H H'/\H' ll≈(.lst 14.3)/\11.5/\↑ls<=24/\m=↑ls;refine⟨CU,
   ⟨_,l0,rows.map 0.5,none,Y,λb o e=>by rw[AD (AI e Dj)];exact e,by rw[uS,j6 bk.ups],λx h=>h,wl,Y⟩,?_⟩
  rintro m σ H' ⟨ll,ls,c,rfl,s1,hll,hsub,Nw,rfl⟩;refine⟨true,Y,?_⟩;let Gw:SW:=λσ' H2=>∃ m',m'<↑ls/\∃(ll:μ) (ls:LS) (c:OV),σ'=[↥(.ref d),↥(.ref ll),c]/\AA H H2/\H2 ll≈(.lst 14.3)/\11.5/\↑ls<=24/\m'=↑ls;refine AY ⟨Gw,λ_ _ h=>h,?_⟩;refine⟨Z,ll,Y,⟨_,SqL.of hll⟩,RF (Ck (xs:=ls.map V.str)) (sL 6.1) (QH rows ls) (λv=>v) (λD ys hD=>SqL.of 14.8) ?_ ?_ ?_⟩
  ·intro D ys v R hD hv hR;obtain⟨x,hx,rfl⟩:=Yd.mp hv;obtain⟨r,Ab,rfl⟩:=HK (hsub x hx);obtain⟨t,hvt,ht⟩:=bk.ups.val g.nd Ab;have kp:∀ b o,H b≈o->(upd H' D (.lst ys)) b≈o:=λb o e=>by rw[AD (AI (s1 _ _ e) hD)];exact s1 _ _ e
   refine⟨Z,Z,d,Z,(by rw[<- hvt];exact BR.f (k:=Sum.inr r.1) (kp _ _ bk.at_)),Z,t,ll,r.2,ls,Y,AH.of (kp _ _ ht),SqL.of 14.8,Z,?_⟩;have e:(!decide (Ho r.2 ls=V.non))=QH rows ls (V.str r.1):=by
    rw[gj];show _=(A2 rows r.1).any _;rw[Hy g.nd Ab]
   rw[e];exact hR
  ·intro D ys v R hD hv _ hR;exact⟨Z,hR⟩
  ·intro D hD;rw[iD];have hDl:7.8 ll≈(.lst 14.3):=by rw[AD (AI hll hD)];exact hll
   have s2:AA H 7.8:=λb o e=>by rw[AD (AI (s1 _ _ e) hD)];exact s1 _ _ e
   refine⟨Z,_,Z,.inl ⟨_,SqL.of uS,Y⟩,Z,_,Z,.inl ⟨_,SqL.of hDl,Y⟩,Y,Z,?_⟩;have kle:=Graph.kept_le 6.2 ls;refine BO (λh=>?_) (λh=>?_)
   ·have h:↑(Graph.kept 6.2 ls)=↑ls:=by
     have:=Je h;injection this with this;rw[Ya,Ya]at this;omega
    obtain⟨rk,hrk⟩:=g.rank;have nil:ls=[]:=Graph.kept_nil (rk:=rk) (λa ha b hb=>by
     obtain⟨r,Ab,rfl⟩:=HK (hsub a ha);rw[Hy g.nd Ab]at hb;exact hrk r Ab b hb) h
    have kn:Graph.kept 6.2 ls=[]:=by rw[nil];rfl
    refine⟨Z,q D _ s2 ?_⟩;rw[uS,kn];rfl
   ·have h:↑(Graph.kept 6.2 ls)≠↑ls:=λz=>h (Jb (by rw[Ya,Ya,z]));exact⟨Z,_,V,D,_,Z,s2,uS,λx hx=>hsub x (Graph.kept_sub hx),V,Y⟩
def S0:Am ["ups_of","left","way","here"] ["ups_of"] (AN OS):=by nofun
def yT(F:Def K mg "find_ring" OS ["ups_of"] f fd)(DE:Def K mg "endless" JH ["ups_of"] fE fdE)(DF:Def K mg "first_among" J1 ["words","others"] fF fdF)(T:HC mg):⋯ 3 f fd ["ups_of"] Wy:=by
 have GE:⋯ 2 fE fdE ["ups_of"] YQ:=uv DE DF T
 nomatch F.fn.ok S0
 ·obtain⟨d,o,rows,π,rfl,_⟩:=h;rfl
 ·obtain⟨d,o,rows,π,rfl,bk,g,q⟩:=h;have nd:=S0.nd
  ac_nf
  refine⟨_,pS (sE 1 nd (Ag DE GE hr 3.5))
   (pS (AR (Ct (Qw 1.6 (λ_=>rfl))) (AF (AW Dq)) AS) CA),?_⟩
  exists let b:=AE _ a;AE _ b _ _ _
  refine⟨Z,d,o,rows,π,Y,bk,g,λl H' s1 hl=>?_⟩;exact⟨Z,false,.inl ⟨[],SqL.of hl,Y⟩,AY (q H' s1)⟩
def Pj(x:Str):Key:=Sum.inr x
inductive XS(vs:LV)(H:Hp)(Q:VK)(AO:XK):Prop
 | mk:∀(d:μ) (o:Obj) (rows:RS) (π:KL) (x:Str),vs=[.ref d,.str x]->Fp H d o rows π->As rows->x∈rows.map 0.5->(∀ a o' fk H',H a=none->AA H H'->H' a≈(.frz o' (.dK fk))->(∀ y,(Sum.inr y:Key)∈fk.map 0.5↔Graph.Reach 6.2 x y)->Q (.ref a) H')->XS vs H Q AO
structure ZS(rows:RS)(x:Str)(fs ws:LS):Prop where
 start:x∈fs
 sub:∀ y∈ws,y∈fs
 known:∀ y∈fs,y∈rows.map 0.5
 nd:fs.Nodup
 reach:∀ y∈fs,Graph.Reach 6.2 x y
 closed:∀ y∈fs,y∉ws->∀ u∈A2 rows y,u∈fs
 few:↑ws<=↑fs
def cR:Am ["ups_of","word","found","waiting","here","up"] ["ups_of","word"] (AN Ui):=by nofun
def YF{fk:KL}{fs:LS}(h:fk.map 0.5=fs.map Pj)(y:Str):(Sum.inr y:Key)∈fk.map 0.5↔y∈fs:=by
 rw[h];constructor
 ·intro m;obtain⟨z,hz,e⟩:=Yd.mp m;have e:z=y:=by
   unfold Pj at e;injection e
  rw[<- e];exact hz
 ·intro m;exact Yd.mpr ⟨y,m,rfl⟩
def Ul{fk:KL}{k:Key}(h:k∈fk.map 0.5):(BG fk k).isSome=true:=by
 cases e:BG fk k with
 | none=>exact absurd h (iL e)
 | some v=>rfl
def zX(F:Def K mg "all_above" Ui ["ups_of","word"] f fd):⋯ 1 f fd ["ups_of","word"] XS:=by
 nomatch F.fn.ok cR
 ·obtain⟨d,o,rows,π,x,rfl,_⟩:=h;rfl
 ·obtain⟨d,o,rows,π,x,rfl,bk,g,hx,q⟩:=h;have nd:=cR.nd;have hu:=Dm hr
  ac_nf
  refine⟨_,pS (sE 2 nd (yv (rO 1.6 FX yy) rfl rfl 1.1 (by show 1<=15;decide)))
   (pS (sE 3 nd (B4 3.1))
   (pS (MV Bs (Qw 7.7 (λ_=>rfl))
    (pS (sE 4 nd (Tq EF PySem.F.slot_list_pop PySem.F.type_list_pop Wr 7.7))
    (AF (Be Bs rfl (JB (Ju hu 0.9 (pv 4) 0.4)) (gE 5 nd)
     (AF (AR (Em (RM hu 7.5 4.2)) (pS (FI hu 4.2 7.5 FX rfl)
      (AF (Bj (De EF Gs Gr F4 7.7 (pC 7.5 AB))))) AS))))))
   (Qm (AF (AW 4.2))))),?_⟩
  exists let b:=_;let c:=AE _ b;let e:=A4 _ c _;let f:=Bq _ _ e;let g:=AE _ f;let h:=AE (MI _ g) a;let i:=AE _ h;AE _ i _ _ _
  intro fa hfa;refine⟨Z,uS,[(Sum.inr x,.bl true)],Y,(by show 1<=15;decide),?_⟩;rw[OF];refine⟨Z,O,λwa hwa=>?_⟩;have fw:fa≠wa:=AI uS hwa;have hwaH:H wa=none:=by
   cases e:H wa with
   | none=>rfl
   | some u=>rw[AD (Yz fw),e]at hwa;cases hwa
  have bound:∀ {fs ws:LS},ZS rows x fs ws->↑fs<=↑rows:=λ{fs ws} h=>by
   have:=Graph.nodup_le h.nd h.known
   rwa [Ya]at this
  have gle:=g.le;let KG:NW:=λm σ H'=>∃(fs ws:LS) (fk:KL) (a b:OV),σ=[↥(.ref d),↥(.str x),↥(.ref fa),↥(.ref wa),a,b]/\AA H H'/\H' fa≈(.dK fk)/\fk.map 0.5=fs.map Pj/\H' wa≈(.lst 1.8)/\ZS rows x fs ws/\m + 2 * ↑fs=2 * ↑rows + ↑ws;refine⟨KG,
   ⟨2 * ↑rows - 1,[x],[x],[(Sum.inr x,.bl true)],none,none,Y,λb o e=>by rw[AD (AI e hwaH),AD (AI e hfa)];exact e,by rw[AD fw];exact uS,Y,uS,
    ⟨by simp,λy h=>h,λy h=>by rw[Yf.mp h];exact hx,by simp,λy h=>by rw[Yf.mp h];exact .refl x,λy h n=>absurd h n,Ye _⟩,by have:=g.ne;simp;omega⟩,?_⟩
  rintro m σ H' ⟨fs,ws,fk,a,b,rfl,s1,hf,hk,hw,go,hm⟩;have flen:=bound go;refine⟨Z,_,.inl ⟨_,SqL.of hw,Y⟩,?_⟩;refine BO (λCz=>?_) (λCz=>?_)
  ·-- here=waiting.pop()
   have wne:ws≠[]:=by
    intro z;rw[z]at Cz;cases Cz
   have hpos:0<↑ws:=Oo.mpr wne;have split:ws=ws.dropLast++[ws.getLast wne]:=(List.dropLast_concat_getLast wne).symm;generalize hhere:ws.getLast wne=here at split;have Ap:here∈ws:=by rw[split];simp
   have hfs:here∈fs:=go.sub here Ap;obtain⟨r,Ab,er⟩:=HK (go.known here hfs);obtain⟨t,hvt,ht⟩:=bk.ups.val g.nd Ab;have last:1.8[↑1.8 - 1]?≈(V.str here):=by
    rw[Yn,Ya];have:ws[↑ws - 1]?≈here:=by
     rw[<- hhere,List.getLast_eq_getElem,Yu 0.0]
    rw[this];rfl
   let KD:SW:=λσ' H2=>∃ m',m'<m/\∃(fs ws:LS) (fk:KL) (a b:OV),σ'=[↥(.ref d),↥(.str x),↥(.ref fa),↥(.ref wa),a,b]/\AA H H2/\H2 fa≈(.dK fk)/\fk.map 0.5=fs.map Pj/\H2 wa≈(.lst 1.8)/\ZS rows x fs ws/\m' + 2 * ↑fs=2 * ↑rows + ↑ws;refine⟨KD,λ_ _ h=>h,?_⟩;refine⟨Z,.inl ⟨Y,_,SqL.of hw⟩,wa,_,Z,Y,hw,last,?_⟩;have s2:AA H (upd H' wa (.lst (ws.map V.str).dropLast)):=λb o e=>by rw[AD (AI e hwaH)];exact s1 _ _ e
   refine⟨Z,Z,d,Z,(by rw[<- hvt,er];exact BR.f (k:=Sum.inr here) (s2 _ _ bk.at_)),t,Y,⟨_,AH.of (s2 _ _ ht)⟩,?_⟩;have uo:A2 rows here=r.2:=by rw[<- er];exact Hy g.nd Ab
   refine B1 (JE (xs:=r.2.map V.str)) (λj σ H2=>∃(CW Ex:LS) (Ez:KL) (b:OV),σ=[↥(.ref d),↥(.str x),↥(.ref fa),↥(.ref wa),↥(.str here),b]/\AA H H2/\H2 fa≈(.dK Ez)/\Ez.map 0.5=CW.map Pj/\H2 wa≈(.lst (Ex.map V.str)) /\
    (∀ y∈fs,y∈CW)/\(∀ y∈ws.dropLast,y∈Ex)/\(∀ y∈Ex,y∈CW)/\(∀ y∈CW,y∈rows.map 0.5)/\CW.Nodup/\(∀ y∈CW,Graph.Reach 6.2 x y)/\(∀ y∈CW,y∈fs\/y∈Ex)/\(∀ u∈r.2.take j,u∈CW)/\↑Ex + 2 * ↑fs + ↑CW<=↑ws.dropLast + 2 * ↑CW + ↑fs)
    ⟨fs,ws.dropLast,fk,Z,s2,by rw[AD fw];exact hf,hk,by rw[uS,List.map_dropLast],λy h=>h,λy h=>h,λy h=>go.sub y ((List.dropLast_sublist ws).subset h),go.known,go.nd,go.reach,λy h=>.inl h,λu h=>by simp at h,V⟩ (λj σ H2 _ h0=>by obtain⟨_,_,_,_,_,s,_⟩:=h0;exact AH.of (s _ _ ht)) ?_ ?_
   ·rintro j v σ H2 hj ⟨CW,Ex,Ez,b,rfl,s3,Pu,Lr,Eb,c1,c2,c3,c4,c5,c6,c7,c8,c9⟩;obtain⟨u,EH,rfl⟩:=Ql hj;have um:u∈r.2:=Yc EH;have qo:↑CW<=↑rows:=by
     have:=Graph.nodup_le c5 c4
     rwa [Ya]at this
    have kl:↑Ez=↑CW:=by have:=congrArg List.length Lr;simpa using this
    refine⟨Z,Z,fa,Z,BR.k (k:=Sum.inr u) Pu,Z,?_⟩;have dl:↑ws.dropLast=↑ws - 1:=List.length_dropLast;have gf:=go.few;by_cases nin:u∉CW
    ·have nk:(Sum.inr u:Key)∉Ez.map 0.5:=λz=>nin ((YF Lr u).mp z);have Vq:↑Ex<=↑rows * 3:=by omega
     rw[FJ nk];refine AY ?_;refine⟨Z,Z,fa,Z,Cs.k (k:=Sum.inr u) Pu (Br 0.0),?_⟩;have Ig:(upd H2 fa (.dK (Al Ez (Sum.inr u) (.bl true)))) wa≈(.lst (Ex.map V.str)):=by rw[AD (Yz fw)];exact Eb
     refine⟨Z,.inl ⟨Y,_,SqL.of Ig⟩,Z,wa,_,Z,Y,Ig,Br 6.1,?_⟩;refine⟨CW++[u],Ex++[u],Al Ez (Sum.inr u) (.bl true),Z,λb o e=>by rw[AD (AI e hwaH),AD (AI e hfa)];exact s3 _ _ e,by rw[AD fw];exact uS,?_,by rw[uS,B6];rfl,λy h=>LL _ (c1 y h),λy h=>LL _ (c2 y h),λy h=>?_,λy h=>?_,?_,λy h=>?_,λy h=>?_,λy h=>?_,?_⟩
     ·rw[RN nk,Lr,B6];rfl
     ·rcases Yo.mp h with h | h
      ·exact LL _ (c3 y h)
      ·exact F5 _ h
     ·rcases Yo.mp h with h | h
      ·exact c4 y h
      ·rw[Yf.mp h];exact g.known r Ab u um
     ·rw[List.nodup_append];exact⟨c5,by simp,λa ha b hb e=>nin (by rw[<- Yf.mp hb,<- e];exact ha)⟩
     ·rcases Yo.mp h with h | h
      ·exact c6 y h
      ·rw[Yf.mp h];exact(go.reach here hfs).snoc (by rw[uo];exact um)
     ·rcases Yo.mp h with h | h
      ·rcases c7 y h with h | h
       ·exact .inl h
       ·exact .inr (LL _ h)
      ·exact .inr (F5 _ h)
     ·rw[Yq,EH]at h
      rcases Yo.mp h with h | h
      ·exact LL _ (c8 y h)
      ·have:y=u:=by simpa using h
       rw[this];exact F5 _ 1.1
     ·rw[Ym,Ym];simp only[Ou];omega
    ·have yin:u∈CW:=LR nin;rw[Ul ((YF Lr u).mpr yin)];refine AL ?_;refine⟨CW,Ex,Ez,Z,s3,Pu,Lr,Eb,c1,c2,c3,c4,c5,c6,c7,λy h=>?_,c9⟩;rw[Yq,EH]at h
     rcases Yo.mp h with h | h
     ·exact c8 y h
     ·have:y=u:=by simpa using h
      rw[this];exact yin
   ·rintro σ H2 ⟨CW,Ex,Ez,b,rfl,s3,Pu,Lr,Eb,c1,c2,c3,c4,c5,c6,c7,c8,c9⟩;rw[Ya,Yx]at c8;have qo:↑CW<=↑rows:=by
     have:=Graph.nodup_le c5 c4
     rwa [Ya]at this
    have dl:↑ws.dropLast=↑ws - 1:=List.length_dropLast;have fle:↑fs<=↑CW:=Graph.nodup_le go.nd c1;have gf:=go.few;refine⟨2 * ↑rows + ↑Ex - 2 * ↑CW,V,CW,Ex,Ez,_,Z,s3,Pu,Lr,Eb,⟨c1 x go.start,c3,c4,c5,c6,λy hy hn u EH=>?_,V⟩,V⟩
    rcases c7 y hy with F_ | F_
    ·by_cases yh:y=here
     ·rw[yh,uo]at EH;exact c8 u EH
     ·have nw:y∉ws:=λz=>by
       rw[split]at z
       rcases Yo.mp z with z | z
       ·exact hn (c2 y z)
       ·exact yh (Yf.mp z)
      exact c1 u (go.closed y F_ nw u EH)
    ·exact absurd F_ hn
  ·have wnil:ws=[]:=by
    cases ws with
    | nil=>rfl
    | cons y r=>exact absurd rfl Cz
   refine⟨fa,fk,hf,λo'=>⟨Z,q fa o' fk _ hfa (λb o e=>by rw[AD (AI e hfa)];exact s1 _ _ e) uS λy=>?_⟩⟩;rw[YF hk y];constructor
   ·exact λh=>go.reach y h
   ·intro h;refine Graph.closed_reach (S:=λy=>y∈fs) (λy hy u EH=>go.closed y hy (by rw[wnil];simp) u EH) h go.start
def qm:¬ (("ups_of":Str)="above_of"):=by rfl'
def Hg(d a:μ):List (Str×V):=BD "above_of" (.ref a) (BD "ups_of" (.ref d) [])
def Wk(d a:μ):(Hg d a).lookup ("ups_of":Str)≈(.ref d):=by
 unfold Hg;rw[Dg,if_neg qm,Dg,if_pos rfl]
def Qhq(d a:μ){m:Str}(h1:¬ m="above_of")(h2:¬ m="ups_of"):(Hg d a).lookup m=none:=by
 unfold Hg;rw[Dg,if_neg h1,Dg,if_neg h2];rfl
def Kz(H:Hp)(all rows:RS)(Az:KL):Prop :=
 Paired (λr (p:Key×V)=>p.1=Sum.inr r.1/\∃ t o' fk,p.2=.ref t/\H t≈(.frz o' (.dK fk))/\∀ y,(Sum.inr y:Key)∈fk.map 0.5↔Graph.Reach (A2 all) r.1 y) rows Az
def Kz.mono{H H':Hp}{all rows:RS}{Az:KL}(h:Kz H all rows Az)(s:∀ b o' fk,H b≈(.frz o' (.dK fk))->H' b≈(.frz o' (.dK fk))):Kz H' all rows Az :=
 Paired.mapP h λ_ _ z=>⟨z.1,let⟨t,o',fk,e,x,y⟩:=z.2;⟨t,o',fk,e,s _ _ _ x,y⟩⟩
theorem Kz.keys:∀ {H:Hp}{all rows:RS}{π:KL},Kz H all rows π->π.map 0.5=rows.map λr=>(Sum.inr r.1:Key)
 | _,_,_,_,.nil=>rfl
 | _,_,_,_,.cons r t=>by rw[Yr,Yr,r.1,Kz.keys t]
structure Bc(C:μ)(H:Hp)(p:μ)(rows:RS):Prop where
 ex:∃(dx d a:μ) (o oa:Obj) (π Az:KL),H p≈(.ins C dx (Hg d a))/\Fp H d o rows π/\H a≈(.frz oa (.dK Az))/\Kz H rows rows Az
theorem Bc.mono{C:μ}{H H':Hp}{p:μ}{rows:RS}(h:Bc C H p rows)(s:AA H H'):Bc C H' p rows:=by
 obtain⟨dx,d,a,o,oa,π,Az,h1,h2,h3,h4⟩:=h.ex;exact⟨dx,d,a,o,oa,π,Az,s _ _ h1,h2.mono s,s _ _ h3,h4.mono λ_ _ _ e=>s _ _ e⟩
structure ET(K:Fg)(C:μ):Prop where
 cl:FL K C
 nU:Eo K C "ups_of"
 nA:Eo K C "above_of"
structure E7(K:Fg)(C:μ)(m qual:Str)(st:Stmt)(ps:LS)(f:μ)(fd:FuncData):Prop where
 fn:BK K m qual st f fd
 b:Bw K fd ps []
 me:Rc K C m f
inductive QY(K:Fg)(C:μ)(vs:LV)(H:Hp)(Q:VK)(AO:XK):Prop
 | mk:∀(p dx l:μ) (rows:RS),vs=[.ref p,.ref l]->H p≈(.ins C dx [])->HE K H l rows->As rows->(∀ H',Bc C H' p rows->(∀ b o,b≠p->H b≈o->H' b≈o)->Q .non H')->QY K C vs H Q AO
inductive XY(C:μ)(vs:LV)(H:Hp)(Q:VK)(AO:XK):Prop
 | mk:∀(p:μ) (rows:RS) (x:Str),vs=[.ref p,.str x]->Bc C H p rows->As rows->x∈rows.map 0.5->Q .non H->XY C vs H Q AO
inductive L8(C:μ)(vs:LV)(H:Hp)(Q:VK)(AO:XK):Prop
 | mk:∀(p:μ) (rows:RS) (x:Str),vs=[.ref p,.str x]->Bc C H p rows->As rows->Q (.bl (decide 9.9)) H->L8 C vs H Q AO
def Hq(rows:RS)(x y:Str):Bool:=@decide (Graph.Reach 6.2 x y) (Classical.propDecidable _)
def S1:Am ["self","rows","ups_of","word","ups","ring","above_of"] ["self","rows"] (AN U5):=by nofun
def yP(F:BK K "__init__" "Kinds.__init__" U5 f fd)(T:HC mg)(TC:ET K C)(D1:Def K mg "check_rows" OT ["rows"] f1 d1)(D2:Def K mg "is_word" HM ["text"] f2 d2)
  (D3:Def K mg "check_ups" OR ["ups_of"] f3 d3) (D4:Def K mg "find_ring" OS ["ups_of"] f4 d4) (D5:Def K mg "endless" JH ["ups_of"] f5 d5) (D6:Def K mg "first_among" J1 ["words","others"] f6 d6) (D7:Def K mg "all_above" Ui ["ups_of","word"] f7 d7):
  ⋯ 4 f fd ["self","rows"] (QY K C):=by
 have G1:⋯ 2 f1 d1 ["rows"] (Y2 K):=vf D1 D2 T;have G3:⋯ 1 f3 d3 ["ups_of"] YX:=vZ D3;have G4:⋯ 3 f4 d4 ["ups_of"] Wy:=yT D4 D5 D6 T;have G7:⋯ 1 f7 d7 ["ups_of","word"] XS:=zX D7
 nomatch F.ok S1
 ·obtain⟨p,dx,l,rows,rfl,_⟩:=h;rfl
 ·obtain⟨p,dx,l,rows,rfl,hp,hR,g,q⟩:=h;have nd:=S1.nd;have hu:=Dm hr;have Ax:AZ 1 _:=hr.mono 0.2;have A7:AZ 2 _:=hr.mono 0.2
  ac_nf
  refine⟨_,pS (Bj (Ag D1 G1 A7 3.1))
   (pS (sE 2 nd Gn)
   (pS (Be Bs rfl (Fw 1.6) (CO rfl (gC (gE 3 nd) (gC (gE 4 nd) CQ)))
    (AF (FI hu 4.2 7.7 (EE OY 0.8 T.tuple Mr 7.6) rfl)))
   (Qm (pS (Bj (Ag D3 G3 Ax 2.2))
   (pS (sE 5 nd (Ag D4 G4 hr 2.2))
   (pS (AR (Em (T3 7.5)) CA AS)
   (pS (sE 6 nd Gn)
   (pS (Be Bs rfl (yx 4.2) (gE 3 nd) (AF (FI hu (pv 6) 7.7 (Ag D7 G7 Ax (pC 4.2 3.3)) rfl)))
   (Qm (pS (Fy 0.9 4.2 rfl) (AF (Fy 0.9 (pv 6) rfl)))))))))))),?_⟩
  exists let b:=_;let c:=AE (Bq _ _ b) a;let e:=AE _ c;AE _ e _ _ _
  refine⟨_,rfl,l,rows,rfl,hR,g,λH1 s1=>?_⟩;intro d hd;have s2:AA H (upd H1 d (.dK [])):=λb o e=>by rw[AD (AI (s1 _ _ e) hd)];exact s1 _ _ e
  obtain⟨b,vs,hl,hpr⟩:=hR;let Bf:NW:=λi σ H'=>∃(π:KL) (a c:OV),σ=[↥(.ref p),↥(.ref l),↥(.ref d),a,c,none,none]/\AA H H'/\H' d≈(.dK π)/\Dd H' 5.0 π;refine⟨Z,b,l,vs,Y,hl.mono s2,B1 F1 Bf
   ⟨[],none,none,Y,s2,uS,by rw[CD];exact .nil⟩ (λi σ H' _ h0=>by obtain⟨_,_,_,_,s,_⟩:=h0;exact hl.mono s) ?_ ?_⟩
  ·rintro i v σ H' hi ⟨π,a,c,rfl,s3,hdk,hU⟩;obtain⟨r,Ab,t,u,rfl,ht,hug⟩:=BM hpr hi;have dH:H d=none:=s1.free hd;refine⟨t,Z,s3.tup ht,Y,_,Z,_,Z,Y,?_⟩;have Aq:(Sum.inr r.1:Key)∉π.map 0.5:=by rw[hU.keys];exact K7 g.nd Ab
   have hil:↑5.0<=24:=by rw[Yy];have:=g.le;omega
   have hkl:↑π=↑5.0:=(Yi hU).symm;have fin:∀(t2:μ) (H2:Hp),AA H' H2->H2 t2≈(.tup 6.7)->∃(BP:KL) (a c:OV),[↥(V.ref p),↥(V.ref l),↥(V.ref d),↥(V.str r.1),↥(V.ref u),none,none]=[↥(V.ref p),↥(V.ref l),↥(V.ref d),a,c,none,none]/\AA H 2.0 /\
     2.0 d≈(.dK BP)/\Dd 2.0 (rows.take 4.6) BP:=λt2 H2 s4 AU=>by
    have d2:=s4 _ _ hdk;have tk:∀ b xs,H2 b≈(.tup xs)->2.0 b≈(.tup xs):=λb xs e=>by
     rw[AD (λz=>by rw[z,d2]at e;cases e)];exact e
    refine⟨_,_,Z,λb o e=>by rw[AD (AI e dH)];exact s4 _ _ (s3 _ _ e),uS,?_⟩;have sn:Dd 2.0 (rows.take i++[r]) (π++[(Sum.inr r.1,V.ref t2)]):=Cu ((hU.mono λb xs e=>s4 _ _ e).mono tk) ⟨Y,t2,Y,tk t2 _ AU⟩;rw[<- Jy _ (FJ Aq)]at sn;rw[Yq,Ab];exact sn
   rcases hug with hug | hug
   ·refine⟨Z,u,Z,.inr ⟨AH.of (s3 _ _ hug),Z,Z,d,Z,Cs.k (k:=Sum.inr r.1) hdk (Br 0.0),fin u H' (AA.refl _) (s3 _ _ hug)⟩⟩
   ·refine⟨Z,u,Z,.inl ⟨s3.seq hug,λt2 AU=>?_⟩⟩;have s4:AA H' (upd H' t2 (.tup 6.7)):=λb o e=>by rw[AD (AI e AU)];exact e
    exact⟨Z,Z,d,Z,Cs.k (k:=Sum.inr r.1) (s4 _ _ hdk) (Br 0.0),fin t2 _ s4 uS⟩
  ·rintro σ H2 ⟨π,a,c,rfl,s3,hdk,hU⟩;have hvl:=↑hpr;rw[<- hvl,Yx]at hU;refine⟨d,π,hdk,λo=>?_⟩;have dH:H d=none:=s1.free hd;have s4:AA H (upd H2 d (.frz o (.dK π))):=λb u e=>by rw[AD (AI e dH)];exact s3 _ _ e
   have bk:Fp (upd H2 d (.frz o (.dK π))) d o rows π:=⟨uS,hU.mono λb xs e=>by rw[AD (λz=>by rw[z,hdk]at e;cases e)];exact e⟩;refine⟨Z,d,o,rows,π,Y,bk,g,λH5 s5=>?_⟩;refine⟨Z,d,o,rows,π,Y,bk.mono s5,g,λH6 s6=>?_⟩;refine⟨Z,Z,AL ?_⟩;have Cn:=s5.trans s6;have eB:=bk.mono Cn;have s7:AA H H6:=s4.trans Cn;intro aa Hc;have s8:AA H (upd H6 aa (.dK [])):=λb u e=>by rw[AD (AI (s7 _ _ e) Hc)];exact s7 _ _ e
   have cT:AA H6 (upd H6 aa (.dK [])):=λb u e=>by rw[AD (AI e Hc)];exact e
   let Dh:NW:=λi σ H'=>∃(Az:KL) (a b c:OV),σ=[↥(.ref p),↥(.ref l),↥(.ref d),a,b,c,↥(.ref aa)]/\AA H H'/\Fp H' d o rows π/\H' aa≈(.dK Az)/\Kz H' rows 5.0 Az;refine⟨Z,d,o,π,Y,(eB.mono cT).at_,B1 tV Dh
    ⟨[],_,_,Z,s8,eB.mono cT,uS,by rw[CD];exact .nil⟩ (λi σ H' _ h0=>by obtain⟨_,_,_,_,_,_,b,_⟩:=h0;exact b.at_) ?_ ?_⟩
   ·rintro i v σ H' hi ⟨Az,a,b,c,rfl,s9,Fm,Ff,hA⟩;rw[Yn]at hi;obtain⟨pr,aw,e⟩:=FK.mp hi;obtain⟨r,Ab,hk,_⟩:=BM Fm.ups aw;have Ap:r∈rows:=Yc Ab;have ev:v=.str r.1:=by rw[<- e,hk];rfl
    subst ev;have aaH:H aa=none:=s7.free Hc;refine⟨Z,Z,d,o,rows,π,r.1,Y,Fm,g,Yd.mpr ⟨r,Ap,Y⟩,λx o' fk BL hx CV hxk hreach=>?_⟩;have Aq:(Sum.inr r.1:Key)∉Az.map 0.5:=by rw[hA.keys];exact K7 g.nd Ab
    have hil:↑5.0<=24:=by rw[Yy];have:=g.le;omega
    have hkl:↑Az=↑5.0:=(Yi hA).symm;have NU:=CV _ _ Ff;refine⟨Z,Z,aa,Z,Cs.k (k:=Sum.inr r.1) NU (Br 0.0),?_⟩;have kp:∀ b u,b≠aa->BL b≈u->(upd BL aa (.dK (Al Az (Sum.inr r.1) (.ref x)))) b≈u:=λb u hb e=>by rw[AD hb];exact e
    refine⟨_,_,_,Z,λb u e=>kp b u (AI e aaH) (CV _ _ (s9 _ _ e)),⟨kp _ _ (λz=>?_) (CV _ _ Fm.at_),(Fm.ups.mono λb xs e=>CV _ _ e).mono λb xs e=>kp _ _ (λz=>by rw[z,NU]at e;cases e) e⟩,uS,?_⟩
    ·have:=Fm.at_;rw[z,Ff]at this;cases this
    ·rw[Jy _ (FJ Aq),Yq,Ab];have fz:∀ b Pc Ez,BL b≈(.frz Pc (.dK Ez))->(upd BL aa (.dK (Az++[(Sum.inr r.1,V.ref x)]))) b≈(.frz Pc (.dK Ez)):=λb Pc Ez e=>by rw[AD (λz=>by rw[z,NU]at e;cases e)];exact e
     exact Cu ((hA.mono λb Pc Ez e=>CV _ _ e).mono fz) ⟨Y,x,o',fk,Y,fz _ _ _ hxk,hreach⟩
   ·rintro σ H' ⟨Az,a,b,c,rfl,s9,Fm,Ff,hA⟩;have hkv:↑π=↑rows:=(Yi Fm.ups).symm;rw[Ya,hkv,Yx]at hA;have aaH:H aa=none:=s7.free Hc;refine⟨aa,Az,Ff,λoa=>?_⟩;have WD:H' p≈(.ins C dx []):=s9 _ _ hp;have pa:p≠aa:=AI hp aaH;have pd:p≠d:=AI hp dH;have da:d≠aa:=λz=>by have:=Fm.at_;rw[z,Ff]at this;cases this
    refine⟨Z,Z,p,C,dx,[],Y,(by rw[AD pa];exact WD),TC.cl,TC.nU,(by show 0<1000;decide),Z,Z,p,C,dx,Z,uS,TC.cl,TC.nA,(by show 1<1000;decide),?_⟩;rw[OF];have kp:∀ b u,b≠p->b≠aa->H' b≈u->(upd (upd H' aa (.frz oa (.dK Az))) p (.ins C dx (Hg d aa))) b≈u:=λb u h1 h2 e=>by rw[AD h1,AD h2];exact e
    refine q _ ⟨dx,d,aa,o,oa,π,Az,uS,⟨kp _ _ (Yz pd) da Fm.at_,Fm.ups.mono λb xs e=>kp _ _ (λz=>by rw[z,WD]at e;cases e) (λz=>by rw[z,Ff]at e;cases e) e⟩,by rw[AD (Yz pa)];exact uS,hA.mono λb Pc Ez e=>kp _ _ (λz=>by rw[z,WD]at e;cases e) (λz=>by rw[z,Ff]at e;cases e) e⟩ λb u hb e=>kp _ _ hb (AI e aaH) (s9 _ _ e)
def Yem:Am ["self","word"] ["self","word"] (AN Ug):=by nofun
def Qf(F:BK K "has" "Kinds.has" Ug f fd)(TC:ET K C):⋯ 1 f fd ["self","word"] (L8 C):=by
 nomatch F.ok Yem
 ·obtain⟨p,rows,x,rfl,_⟩:=h;rfl
 ·obtain⟨p,rows,x,rfl,⟨dx,d,a,o,oa,π,Az,h1,h2,h3,h4⟩,g,q⟩:=h;have hu:=Dm hr
  ac_nf
  refine⟨_,AF (AW (xC (Jp hu 1.6 7.0))),?_⟩;refine⟨Z,Z,p,C,dx,_,Z,h1,TC.cl,TC.nU,Wk _ _,d,Z,BR.f (k:=Sum.inr x) h2.at_,?_⟩;have e:(BG π (Sum.inr x:Key)).isSome=decide 9.9:=by
   have hk:(Sum.inr x:Key)∈π.map 0.5↔x∈rows.map 0.5:=by
    rw[h2.ups.keys];constructor
    ·intro m;obtain⟨r,Ab,e⟩:=Yd.mp m;exact Yd.mpr ⟨r,Ab,by injection e⟩
    ·intro m;obtain⟨r,Ab,e⟩:=Yd.mp m;exact Yd.mpr ⟨r,Ab,by rw[e]⟩
   by_cases z:x∈rows.map 0.5
   ·rw[Ul (hk.mpr z),Jb z]
   ·rw[FJ λk=>z (hk.mp k),Jc z];rfl
  rw[e];exact q
abbrev Ip(K:Fg)(C fH:μ)(fdH:FuncData):Prop:=E7 K C "has" "Kinds.has" Ug ["self","word"] fH fdH
def mS:Am ["self","word"] ["self","word"] (AN RX):=by nofun
def Qd(d a:μ):(Hg d a).lookup ("has":Str)=none:=Qhq d a 1.2 1.2
def zc(F:BK K "check" "Kinds.check" RX f fd)(TC:ET K C)(MH:Ip K C fH fdH):⋯ 2 f fd ["self","word"] (XY C):=by
 have GH:⋯ 1 fH fdH ["self","word"] (L8 C):=Qf MH.fn TC
 nomatch F.ok mS
 ·obtain⟨p,rows,x,rfl,_⟩:=h;rfl
 ·obtain⟨p,rows,x,rfl,kd,g,hx,q⟩:=h;obtain⟨dx,d,a,o,oa,π,Az,h1,h2,h3,h4⟩:=kd.ex
  ac_nf
  refine⟨_,AF (AR (Ct (Cg (FE 0.9 TC.cl MH.me GH hr MH.b .nil Gi 3.1))) CA AS),?_⟩;refine⟨Z,p,dx,Z,h1,Qd _ _,Z,p,rows,x,Y,kd,g,Z,?_⟩;rw[Jb hx];exact AL q
def UH(d a:μ):(Hg d a).lookup ("check":Str)=none:=Qhq d a 1.2 1.2
abbrev kb(K:Fg)(C fC:μ)(fdC:FuncData):Prop:=E7 K C "check" "Kinds.check" RX ["self","word"] fC fdC
inductive UL(C:μ)(vs:LV)(H:Hp)(Q:VK)(AO:XK):Prop
 | mk:∀(p:μ) (rows:RS),vs=[.ref p]->Bc C H p rows->As rows->(∀ l H',H l=none->AA H H'->Ep H' l rows->Q (.ref l) H')->UL C vs H Q AO
def CI(rows:RS)(x y:Str):RS:=rows.map λr=>if r.1=x then(r.1,r.2++[y])else r
def gr(d a:μ):(Hg d a).lookup ("rows":Str)=none:=Qhq d a 1.2 1.2
def zQ(d a:μ):(Hg d a).lookup ("more":Str)=none:=Qhq d a 1.2 1.2
def zR(d a:μ):(Hg d a).lookup ("tied":Str)=none:=Qhq d a 1.2 1.2
def Jo{H:Hp}{l:μ}{o:HO}(hl:H l=none):AA H (upd H l o):=λb o' e=>by rw[AD (AI e hl)];exact e
def Ybs(a b:Str):decide (V.str a=V.str b)=decide (a=b):=J6.mpr ⟨λz=>by injection z,λz=>by rw[z]⟩
def Yee:Am ["self"] ["self"] (AN RP):=by nofun
def iu(F:BK K "rows" "Kinds.rows" RP f fd)(TC:ET K C)(list:mg "list"=none):⋯ 1 f fd ["self"] (UL C):=by
 nomatch F.ok Yee
 ·obtain⟨p,rows,rfl,_⟩:=h;rfl
 ·obtain⟨p,rows,rfl,⟨dx,d,a,o,oa,π,Az,h1,h2,h3,h4⟩,g,q⟩:=h
  ac_nf
  refine⟨_,AF (AW (vW rfl 7.0 0.8 list)),?_⟩;refine⟨Z,p,C,dx,_,Z,h1,TC.cl,TC.nU,Wk _ _,d,π,Y,.inr ⟨o,h2.at_⟩,λl H' vs hl s1 hlv hp=>?_⟩;refine q l H' hl s1 ⟨vs,hlv,UX ?_ λi r v Ab hv=>?_⟩
  ·rw[<- ↑hp];exact Yi h2.ups
  ·obtain⟨kv,hk,t,e,ht⟩:=BM hp hv;obtain⟨r2,A7,e1,t2,e2,AU⟩:=BM h2.ups hk;rw[Ab]at A7;cases A7;refine⟨t,t2,e,?_,s1 _ _ AU⟩;rw[ht,e1,e2];rfl
abbrev pK:LS:=["self","word","ups","rows"]
def mm:Am pK ["self","word","ups"] (AN Up):=by nofun
abbrev pG:LS:=["self","one","other","rows","word","ups"]
def Z4:Am pG ["self","one","other"] (AN RQ):=by nofun
structure J4(K:Fg)(mg:Str->OU)(x:Str)(C:μ):Prop where
 m:mg x≈(.ref C)
 ex:ExC K C
 ini:W.findIn K (.ref C) "__init__"≈(↥(.builtin "ValueError.__init__"))
structure Cf(P:χ)(w:World)(K:Fg)(mg:Str->OU)(base:Heap)(x:Str)(C:μ)(a:Str)(sp:Sp)(f:μ)(fd:FuncData):Prop where
 m:mg x≈(.ref C)
 ex:ExC K C
 ini:W.findIn K (.ref C) "__init__"≈14.4
 ty:W.typeIn K (.ref f)≈(.type "function")
 b:Bw K fd ["self",a] []
 go:⋯ 1 f fd ["self",a] sp
def Cd:V->Hp->Prop:=λv _=>∃ x:Str,v=.str x/\C2 x
def H_{x:Str}(h:AM x=true):C2 x:=by
 unfold AM at h;rw[Fc,Cb]at h;have l:=Je h.1;refine⟨V,λc hc=>?_⟩;have:=h.2 c hc;unfold Gh at this;simp only[Fc,decide_eq_true_eq]at this;have e:(16:Nat) ^ 8=4294967296:=by decide
 omega
inductive CZ
 | many
 | noK (w:Str)
 | twice (w:Str)
 | ring
def Wh(rows:RS)(ys:LS):Prop:=ys≠[]/\ys.Nodup/\(∀ y∈ys,y∈rows.map 0.5)/\(∀(i:Nat) (a b:Str),ys[i]?≈a->ys[i + 1]?≈b->b∈A2 rows a)/\∀ a b,ys.getLast?≈a->ys.head?≈b->b∈A2 rows a
def M7(rows:RS):Prop:=∃ x∈rows.map 0.5,∃ u∈A2 rows x,Graph.Reach 6.2 u x
structure HD(rows:RS):Prop where
 ne:1<=↑rows
 le:↑rows<=24
 word:∀ r∈rows,AM r.1=true
 nd:(rows.map 0.5).Nodup
 few:∀ r∈rows,↑r.2<=8
structure Hj(rows:RS):Prop where
 known:∀ r∈rows,∀ u∈r.2,u∈rows.map 0.5
 upnd:∀ r∈rows,r.2.Nodup
structure mF(rows:RS)(k:Nat)(e:CZ):Prop where
 ex:∃ r,rows[k]?≈r/\((AM r.1=false/\e=.noK r.1)\/(AM r.1=true/\r.1∈(rows.take k).map 0.5/\e=.twice r.1)\/(AM r.1=true/\r.1∉(rows.take k).map 0.5/\8<↑r.2/\e=.many))
 ahead:∀ r∈rows.take k,AM r.1=true/\↑r.2<=8
 nd:((rows.take k).map 0.5).Nodup
inductive Mg(rows:RS):Option CZ->Prop
 | size (h:¬ (1<=↑rows/\↑rows<=24)):Mg rows (↥.many)
 | bad {e:CZ} (k:Nat) (h1:1<=↑rows) (h2:↑rows<=24) (h:mF rows k e):Mg rows (↥e)
 | fine (f:HD rows):Mg rows none
structure mH(rows:RS)(k j:Nat)(e:CZ):Prop where
 ex:∃ r u,rows[k]?≈r/\r.2[j]?≈u/\(∀ v∈r.2.take j,v∈rows.map 0.5)/\(r.2.take j).Nodup/\((u∉rows.map 0.5/\e=.noK u)\/(u∈rows.map 0.5/\u∈r.2.take j/\e=.twice u))
 ahead:∀ r∈rows.take k,(∀ v∈r.2,v∈rows.map 0.5)/\r.2.Nodup
inductive Oc(rows:RS):Option CZ->Prop
 | bad {e:CZ} (k j:Nat) (h:mH rows k j e):Oc rows (↥e)
 | fine (f:Hj rows):Oc rows none
inductive E6(rows:RS):Option CZ->Prop
 | rows {e:CZ} (h:Mg rows (↥e)):E6 rows (↥e)
 | ups {e:CZ} (f:HD rows) (h:Oc rows (↥e)):E6 rows (↥e)
 | ring (f:HD rows) (u:Hj rows) (c:M7 rows):E6 rows (↥.ring)
 | good (g:As rows):E6 rows none
structure E9(Ds:Nat->μ)(rows:RS)(E:XK)(H:Hp)(e:CZ):Prop where
 many:e=.many->∀ H',AA H H'->E (.ref (Ds 7)) none H'
 noK:∀ w,e=.noK w->∀ dx H',AA H H'->H' dx≈(.xd [("word",.str w)])->E (.ref (Ds 0)) (↥dx) H'
 twice:∀ w,e=.twice w->∀ dx H',AA H H'->H' dx≈(.xd [("word",.str w)])->E (.ref (Ds 1)) (↥dx) H'
 ring:e=.ring->∀ dx l ys H',AA H H'->H' dx≈(.xd [("ring",.ref l)])->H l=none->H' l≈(.lst 14.2)->Wh rows ys->E (.ref (Ds 3)) (↥dx) H'
def E9.mono{Ds:Nat->μ}{rows:RS}{E:XK}{H H':Hp}{e:CZ}(r:E9 Ds rows E H e)(s:AA H H'):E9 Ds rows E H' e :=
 ⟨λz Av s'=>r.many z Av (s.trans s'),λw z dx Av s' h=>r.noK w z dx Av (s.trans s') h,λw z dx Av s' h=>r.twice w z dx Av (s.trans s') h,λz dx l ys Av s' h1 h2 h3 h4=>r.ring z dx l ys Av (s.trans s') h1 (s.free h2) h3 h4⟩
theorem gY{α:Type}{p q:α->Bool}:∀ {l:List α},(∀ x∈l,p x=true->q x=true)->(∃ x∈l,q x=true/\p x=false)->l.countP p<l.countP q
 | [],_,⟨_,h,_⟩=>nomatch h
 | a :: r,h,hx=>by
  have le:r.countP p<=r.countP q:=List.countP_mono_left λx D0=>h x (by simp[D0]);rw[List.countP_cons,List.countP_cons];by_cases z:∃ x∈r,q x=true/\p x=false
  ·have:=gY (p:=p) (q:=q) (l:=r) (λx D0=>h x (by simp[D0])) z;have ha:=h a 1.1;cases hp:p a with
   | true=>rw[ha hp];simp;omega
   | false=>simp;omega
  ·obtain⟨x,hm,h1,h2⟩:=hx
   rcases Yv.mp hm with e | e
   ·rw[<- e,h1,h2];simp;omega
   ·exact absurd ⟨x,e,h1,h2⟩ z
def QW{rows:RS}{x y:Str}:Hq rows x y=true↔Graph.Reach 6.2 x y:=by
 unfold Hq;exact @decide_eq_true_iff _ (Classical.propDecidable _)
def yY{rows:RS}(f:HD rows)(u:Hj rows)(c:¬ M7 rows):As rows:=by
 refine⟨f.ne,f.le,f.word,f.nd,f.few,u.known,u.upnd,⟨λx=>(rows.map 0.5).countP (Hq rows x),λr hr v hv=>?_⟩⟩;have hm:r.1∈rows.map 0.5:=Yd.mpr ⟨r,hr,Y⟩;have S8:v∈A2 rows r.1:=by rw[Hy f.nd hr];exact hv
 refine gY (λx _ h=>?_) ⟨r.1,hm,?_,?_⟩
 ·rw[QW]at h ⊢;exact .step S8 h
 ·exact QW.mpr (.refl _)
 ·cases z:Hq rows v r.1 with
  | false=>rfl
  | true=>exact absurd ⟨r.1,hm,v,S8,QW.mp z⟩ c
def m_{π:KL}{k:Key}(h:k∈π.map 0.5):∃ v,BG π k≈v:=by
 cases e:BG π k with
 | none=>exact absurd h (iL e)
 | some v=>exact⟨v,Y⟩
def L7{H:Hp}{l:μ}{o:HO}(hl:H l=none):AA H (upd H l o):=λb o' e=>by rw[AD (AI e hl)];exact e
inductive Y9(K:Fg)(Ds:Nat->μ)(vs:LV)(H:Hp)(Q:VK)(E:XK):Prop
 | mk:∀(l:μ) (rows:RS) (r:Option CZ),vs=[.ref l]->HE K H l rows->(∀ q∈rows,C2 q.1)->Mg rows r->(r=none->∀ H',AA H H'->Q .non H')->(∀ e,r≈e->E9 Ds rows E H e)->Y9 K Ds vs H Q E
inductive Y3(Ds:Nat->μ)(vs:LV)(H:Hp)(Q:VK)(E:XK):Prop
 | mk:∀(d:μ) (o:Obj) (rows:RS) (π:KL) (r:Option CZ),vs=[.ref d]->Fp H d o rows π->HD rows->(∀ q∈rows,∀ u∈q.2,C2 u)->Oc rows r->(r=none->∀ H',AA H H'->Q .non H')->(∀ e,r≈e->E9 Ds rows E H e)->Y3 Ds vs H Q E
def Yeb:Am ["self","word"] ["self","word"] (AN ZF):=by nofun
def wm(F:BK K "__init__" "NoKind.__init__" ZF f fd)(I:Cw K C D "word")(dd:LZ K D)(mD:mg "DeedError"≈(.ref D)):⋯ 1 f fd ["self","word"] (B0 C "word" Cd):=by
 nomatch F.ok Yeb
 ·obtain⟨x,y,rfl,_⟩:=h;rfl
 ·obtain⟨x,y,rfl,⟨z,rfl,hz⟩,hx,q⟩:=h
  ac_nf
  refine⟨_,pS 8.6 (AF (OD (D:=D) 0.9 1.6)),?_⟩
  exists AE _ a _ _ _
  refine⟨_,rfl,_,rfl,z,rfl,by have:=hz.1;omega,hz.2,by rfl',λt=>⟨x,C,[.str t],rfl,by show 1<=100;decide,I.toExA.toExC,hx,?_⟩⟩;exact⟨_,rfl,_,rfl,x,C,rfl,hx,I,λdx hdx=>q dx hdx⟩
def Yd9:Am ["self","word"] ["self","word"] (AN ZD):=by nofun
def w6(F:BK K "__init__" "Twice.__init__" ZD f fd)(I:Cw K C D "word")(dd:LZ K D)(mD:mg "DeedError"≈(.ref D)):⋯ 1 f fd ["self","word"] (B0 C "word" Cd):=by
 nomatch F.ok Yd9
 ·obtain⟨x,y,rfl,_⟩:=h;rfl
 ·obtain⟨x,y,rfl,⟨z,rfl,hz⟩,hx,q⟩:=h
  ac_nf
  refine⟨_,pS 8.6 (AF (OD (D:=D) 0.9 1.6)),?_⟩
  exists AE _ a _ _ _
  refine⟨_,rfl,_,rfl,z,rfl,by have:=hz.1;omega,hz.2,by rfl',λt=>⟨x,C,[.str t],rfl,by show 1<=100;decide,I.toExA.toExC,hx,?_⟩⟩;exact⟨_,rfl,_,rfl,x,C,rfl,hx,I,λdx hdx=>q dx hdx⟩
def Yea:Am ["self","ring"] ["self","ring"] (AN ZA):=by nofun
def wt(F:BK K "__init__" "Ring.__init__" ZA f fd)(list:mg "list"=none)(I:Cw K C D "ring")(dd:LZ K D)(mD:mg "DeedError"≈(.ref D)):⋯ 1 f fd ["self","ring"] (Oe C "ring"):=by
 nomatch F.ok Yea
 ·obtain⟨x,r,ys,rfl,_⟩:=h;rfl
 ·obtain⟨x,r,ys,rfl,FO,hl,hs,hx,q⟩:=h
  ac_nf
  refine⟨_,pS (Bj (OL dd 0.8 mD (pC 0.9 (pC (Hs (CC EW (CC (yw hr 1.6) Ht))) AB)))) (AF (OD (D:=D) 0.9 (EE Uv 0.8 list LP 3.1))),?_⟩
  exists AE _ a _ _ _
  refine⟨_,rfl,by rfl',_,rfl,r,ys,rfl,.inr (SqL.of FO),hl,hs,λt=>⟨x,C,[.str t],rfl,by show 1<=100;decide,I.toExA.toExC,hx,?_⟩⟩;refine⟨_,rfl,r,_,rfl,.inl (SqL.of FO),λl GX=>⟨_,rfl,x,C,rfl,?_,I,λdx hdx=>q l dx GX hdx⟩⟩;rw[AD (AI hx GX)];exact hx
def vv{Ds:Nat->μ}(F:Def K mg "check_rows" OT ["rows"] f fd)(DW:Def K mg "is_word" HM ["text"] fW fdW)(T:HC mg)(E0:Cf P w K mg base "NoKind" (Ds 0) "word" (B0 (Ds 0) "word" Cd) f0 Ny)(E1:Cf P w K mg base "Twice" (Ds 1) "word" (B0 (Ds 1) "word" Cd) f1 TY)(T7:J4 K mg "TooMany" (Ds 7)):AV P w K mg base 3.2 3 f fd ["rows"] (Y9 K Ds):=by
 have GW:AV P w K mg base 3.2 1 fW fdW ["text"] JF:=(RI DW T).any
 nomatch F.fn.ok1 VD
 ·obtain⟨l,rows,r,rfl,_⟩:=h;rfl
 ·obtain⟨l,rows,r,rfl,⟨b,vs,hl,hp⟩,sh,due,q,re⟩:=h;obtain⟨t1,hK⟩:=T.kinds;obtain⟨t2,hU⟩:=T.ups;have nd:=VD.nd;have hu:=Dm hr;have Ax:AZ 1 _:=hr.mono 0.2
  ac_nf
  refine'⟨_,pS (AR (Ct (Qv Iz Iz AG (A9 EC 0.8 T.len Yw 3.5) (EB (v:=.int 24) 0.8 hK ⟨_,rfl⟩))) (AF (OM (C:=Ds 7) Ak.of hr.hd T7.ex T7.ini 0.8 T7.m (pC (Hs ?qk) AB))) AS)
   (pS (sE 1 nd Gn)
   (AF (Be JK rfl (Fw 0.9) 4.3
    (pS (AR (Ct (Cg (JC GW Ax 0.8 DW.m DW.fn.kp DW.b .nil 4.1 2.2))) (AF (Hz (C:=Ds 0) Ak.of hr.hd E0.ex E0.ini E0.ty E0.go hr E0.b 0.8 E0.m 2.2)) AS)
    (pS (AR (Em (Jp hu 4.2 1.6)) (AF (Hz (C:=Ds 1) Ak.of hr.hd E1.ex E1.ini E1.ty E1.go hr E1.b 0.8 E1.m 2.2)) AS)
    (pS (AR (Ae FC (A9 EC 0.8 T.len Yw 3.3) (EB (v:=.int 8) 0.8 hU ⟨_,rfl⟩) (Ad _)) (AF (OM (C:=Ds 7) Ak.of hr.hd T7.ex T7.ini 0.8 T7.m (pC (Hs ?qj) AB))) AS)
    (AF (FI hu 1.6 4.2 FX rfl)))))))),?_⟩
  case qk=>exact CC EW (CC (MG (EB (v:=.int 24) 0.8 hK ⟨Z⟩)) (CC EW Ht))
  case qj=>exact CC EW (CC (MG (EB (v:=.int 8) 0.8 hU ⟨Z⟩)) (CC EW Ht))
  exists let b:=_;let c:=AE (A4 _ b _) a;let e:=_;let f:=AE (A4 _ e _) c;let g:=_;let h:=AE (A4 _ g _) f;let i:=Bq _ _ h;let j:=AE _ i;let k:=_;AE (A4 _ k _) j _ _ _
  have hvl:=↑hp;refine⟨Z,_,Z,Jt hl,_,Z,Y,Z,?_⟩;by_cases g1:¬ 1<=↑rows
  ·rw[show decide ((1:Int)<=(↑vs:Int))=false from Jc 0.0];have er:r≈.many:=by
    cases due with
    | size _=>rfl
    | bad k h1 _ _=>exact absurd h1 g1
    | fine f=>exact absurd f.ne g1
   exact AL ⟨Z,AY ⟨by rfl',24,Y,Q,by rfl',λx=>⟨O,(re _ er).many rfl H (AA.refl _)⟩⟩⟩
  have g1:=Decidable.not_not.mp g1;rw[show decide ((1:Int)<=(↑vs:Int))=true from Jb 0.0];refine AY ⟨_,Z,Y,Z,?_⟩;by_cases g2:¬ ↑rows<=24
  ·rw[show(decide ((↑vs:Int)<=24))=false from Jc 0.0];have er:r≈.many:=by
    cases due with
    | size _=>rfl
    | bad k _ h2 _=>exact absurd h2 g2
    | fine f=>exact absurd f.le g2
   exact AY ⟨by rfl',24,Y,Q,by rfl',λx=>⟨O,(re _ er).many rfl H (AA.refl _)⟩⟩
  have g2:=Decidable.not_not.mp g2;rw[show(decide ((↑vs:Int)<=24))=true from Jb 0.0];refine AL ?_;obtain⟨lim,l1,l2,l3⟩:∃ lim,(∀ q∈rows.take lim,AM q.1=true/\↑q.2<=8)/\((rows.take lim).map 0.5).Nodup/\((r=none/\lim=↑rows)\/∃ e,r≈e/\mF rows lim e):=by
   cases due with
   | size h=>exact absurd ⟨g1,g2⟩ h
   | bad k _ _ h=>exact⟨k,h.ahead,h.nd,.inr ⟨Z,h⟩⟩
   | fine f=>exact⟨↑rows,(by rw[Yx];exact λq hq=>⟨f.word q hq,f.few q hq⟩),(by rw[Yx];exact f.nd),.inl ⟨Y,Y⟩⟩
  intro d hd;have s0:AA H (upd H d (.dK [])):=λb o e=>by rw[AD (AI e hd)];exact e
  let Bf:NW:=λi σ H'=>∃(π:KL) (a c:OV),i<=lim/\σ=[↥(.ref l),↥(.ref d),a,c]/\AA H H'/\H' d≈(.dK π)/\π.map 0.5=(rows.take i).map λr=>(Sum.inr r.1:Key);refine⟨Z,b,l,vs,Y,hl.mono s0,B1 F1 Bf
   ⟨[],none,none,BN _,Y,s0,uS,by simp⟩ (λi σ H' _ h0=>by obtain⟨_,_,_,_,_,s,_⟩:=h0;exact hl.mono s) ?_ ?_⟩
  ·rintro i v σ H' hi ⟨π,a,c,il,rfl,s,hdk,hk⟩;obtain⟨q',Ab,t,u,rfl,ht,hug⟩:=BM hp hi;obtain⟨b',EH⟩:=hug.sq;have Ap:q'∈rows:=Yc Ab;have hsh:=sh q' Ap;have ilt:i<↑rows:=(Yg.mp Ab).1;refine⟨t,Z,s.tup ht,Y,_,Z,_,Z,Y,?_⟩;refine⟨Z,q'.1,Y,by have:=hsh.1;omega,λH2 s2=>⟨Z,?_⟩⟩;have Aw:=s.trans s2;have hd2:H2 d≈(.dK π):=s2 _ _ hdk;have SK:(Sum.inr q'.1:Key)∈π.map 0.5↔q'.1∈(rows.take i).map 0.5:=by
    rw[hk];constructor
    ·intro m;obtain⟨z,hz,e⟩:=Yd.mp m;have e:z.1=q'.1:=by injection e
     exact Yd.mpr ⟨z,hz,e⟩
    ·intro m;obtain⟨z,hz,e⟩:=Yd.mp m;exact Yd.mpr ⟨z,hz,by rw[e]⟩
   have okx:∀ x,H2 x=none->∀ o,Cd (V.str q'.1) (upd H2 x o):=λx _ o=>⟨q'.1,Y,hsh⟩;by_cases ie:i=lim
   ·rcases l3 with⟨_,z⟩ | ⟨e,er,hb⟩
    ·omega
    obtain⟨q2,HA,hor⟩:=hb.ex;rw[<- ie,Ab]at HA;cases HA
    rcases hor with⟨h1,e1⟩ | ⟨h1,h2,e1⟩ | ⟨h1,h2,h3,e1⟩
    ·rw[h1];exact AY ⟨Z,Z,λx hx=>okx x hx _,λdx hdx=>(re _ er).noK _ e1 dx _ (Aw.trans (L7 hdx)) uS⟩
    ·rw[h1];refine AL ⟨Z,Z,d,Z,BR.k (k:=Sum.inr q'.1) hd2,Z,?_⟩;obtain⟨v,hv⟩:=m_ (SK.mpr (by rw[ie];exact h2));rw[hv];exact AY ⟨Z,Z,λx hx=>okx x hx _,λdx hdx=>(re _ er).twice _ e1 dx _ (Aw.trans (L7 hdx)) uS⟩
    ·rw[h1];refine AL ⟨Z,Z,d,Z,BR.k (k:=Sum.inr q'.1) hd2,Z,?_⟩;rw[FJ (λz=>h2 (by rw[<- ie];exact SK.mp z))];refine AL ⟨Z,_,Z,Jt (EH.mono Aw),_,Z,Y,Z,?_⟩;rw[show decide ((8:Int)<(↑(q'.2.map V.str):Int))=true from Jb 6.1];exact AY ⟨by rfl',8,Y,Q,by rfl',λx=>⟨O,(re _ er).many e1 H2 Aw⟩⟩
   ·have ND:i<lim:=by omega
    have hin:(rows.take lim)[i]?≈q':=by rw[Rl,if_pos ND];exact Ab
    obtain⟨hw,hf⟩:=l1 q' (Yc hin);rw[hw];refine AL ⟨Z,Z,d,Z,BR.k (k:=Sum.inr q'.1) hd2,Z,?_⟩;have Aq:(Sum.inr q'.1:Key)∉π.map 0.5:=by
     rw[hk];have:=K7 l2 hin;rw[List.take_take,LM (My ND)]at this;exact this
    rw[FJ Aq];refine AL ?_;refine⟨Z,_,Z,Jt (EH.mono Aw),_,Z,Y,Z,?_⟩;rw[show decide ((8:Int)<(↑(q'.2.map V.str):Int))=false from Jc 6.1];refine AL ?_;have hkl:↑π=↑5.0:=by have:=congrArg List.length hk;simpa using this
    have hil:↑5.0<=24:=by rw[Yy];omega
    refine⟨Z,Z,d,Z,Cs.k (k:=Sum.inr q'.1) hd2 (Br 0.0),?_⟩;refine⟨_,_,_,ND,Y,λb o e=>?_,uS,?_⟩
    ·rw[AD (AI e hd)];exact Aw _ _ e
    ·rw[RN Aq,hk,Yq,Ab,B6];rfl
  ·rintro σ H' ⟨π,a,c,il,rfl,s,hdk,hk⟩
   rcases l3 with⟨er,_⟩ | ⟨e,er,hb⟩
   ·exact q er H' s
   ·obtain⟨q2,HA,_⟩:=hb.ex;have:=(Yg.mp HA).1;omega
def uh{rows:RS}(f:HD rows)(u:Hj rows){x y:Str}(hx:x∈rows.map 0.5)(hy:y∈A2 rows x):y∈rows.map 0.5:=by
 obtain⟨r,hr,rfl⟩:=HK hx;rw[Hy f.nd hr]at hy;exact u.known r hr y hy
def VH(rows:RS)(x y:Str):Prop:=Graph.Reach 6.2 x y/\Graph.Reach 6.2 y x
def zF{rows:RS}{x u y:Str}(hu:u∈A2 rows x)(hr:Graph.Reach 6.2 u x)(h:VH rows x y):∃ z∈A2 rows y,VH rows x z:=by
 obtain⟨h1,h2⟩:=h;cases h2 with
 | refl=>exact⟨u,hu,.one hu,hr⟩
 | step m t=>exact⟨_,m,h1.snoc m,t⟩
def uE{us ls:LS}(h:∃ u∈us,u∈ls):∃ x,Ho us ls=.str x/\x∈us/\x∈ls:=by
 unfold Ho;cases e:us.find? λx=>decide (x∈ls)with
 | none =>
  obtain⟨u,h1,h2⟩:=h;exact absurd (Jb h2) (List.find?_eq_none.mp e u h1)
 | some x=>exact⟨x,Y,VW e,Je (List.find?_some (p:=λx=>decide (x∈ls)) e)⟩
def QF(rows:RS)(Wz:LS):Prop:=∀(i:Nat) (a b:Str),Wz[i]?≈a->Wz[i + 1]?≈b->b∈A2 rows a
def uB{rows:RS}{Wz:LS}{h n:Str}(c:QF rows (Wz++[h]))(hn:n∈A2 rows h):QF rows (Wz++[h]++[n]):=by
 intro i a b ha hb;by_cases z:i + 1<↑(Wz++[h])
 ·rw[J_ z]at hb;rw[J_ 0.0]at ha;exact c i a b ha hb
 ·have l:=(Yg.mp hb).1;rw[Ym,Ou]at l;have e:i + 1=↑(Wz++[h]):=by omega
  rw[e,LW (Ye _),Nat.sub_self]at hb;have hb:n=b:=by simpa using hb
  have el:↑(Wz++[h])=↑Wz + 1:=by rw[Ym];rfl
  have ei:i=↑Wz:=by omega
  rw[J_ 0.0,ei,LW (Ye _),Nat.sub_self]at ha;have ha:h=a:=by simpa using ha
  rw[<- hb,<- ha];exact hn
def yg{rows:RS}{Wz:LS}{h:Str}(c:QF rows (Wz++[h]))(nd:Wz.Nodup)(kn:∀ y∈Wz,y∈rows.map 0.5)(hm:h∈Wz):Wh rows (Wz.drop (Wz.idxOf h)):=by
 have il:=List.idxOf_lt_length_of_mem hm;have at_:Wz[Wz.idxOf h]?≈h:=by rw[Yu il,List.getElem_idxOf il]
 refine⟨λz=>?_,nd.sublist (List.drop_sublist _ _),λy hy=>kn y (List.mem_of_mem_drop hy),λi a b ha hb=>?_,λa b ha hb=>?_⟩
 ·have:=congrArg List.length z;rw[Mo]at this;simp at this;omega
 ·rw[List.getElem?_drop]at ha hb;have lb:=(Yg.mp hb).1;refine c (Wz.idxOf h + i) a b (by rw[J_ 0.0];exact ha) ?_;rw[show Wz.idxOf h + i + 1=Wz.idxOf h + 4.6 by omega,J_ lb];exact hb
 ·rw[List.head?_drop,at_]at hb;have hb:h=b:=by simpa using hb
  have la:Wz.getLast?≈a:=by
   rw[List.getLast?_drop]at ha;split at ha
   ·cases ha
   ·exact ha
  rw[List.getLast?_eq_getElem?]at la;have ll:=(Yg.mp la).1;refine c (↑Wz - 1) a b (by rw[J_ ll];exact la) ?_;rw[show ↑Wz - 1 + 1=↑Wz by omega,LW (Ye _),Nat.sub_self,<- hb];rfl
def zE(xs:LV)(k:Nat)(h:k<=↑xs):BQ xs (↥(k:Int)) none=xs.drop k:=by
 unfold BQ;rw[HT.sIx_none,HT.sIx_nat,LM h];refine J8 ?_;rw[Mo];exact Ye _
inductive YY(vs:LV)(H:Hp)(Q:VK)(AO:XK):Prop
 | mk:∀(d:μ) (o:Obj) (rows:RS) (π:KL),vs=[.ref d]->Fp H d o rows π->HD rows->Hj rows->M7 rows->(∀ l ls H',AA H H'->H' l≈(.lst 14.3)->ls≠[]->↑ls<=24->11.5->(∀ x∈ls,∃ u∈A2 rows x,u∈ls)->Q (.ref l) H')->YY vs H Q AO
inductive Xe(vs:LV)(H:Hp)(Q:VK)(AO:XK):Prop
 | mk:∀(d:μ) (o:Obj) (rows:RS) (π:KL),vs=[.ref d]->Fp H d o rows π->HD rows->Hj rows->M7 rows->(∀ l ys H',AA H H'->H l=none->H' l≈(.lst 14.2)->↑ys<=24->Wh rows ys->Q (.ref l) H')->Xe vs H Q AO
inductive Xb(K:Fg)(Ds:Nat->μ)(vs:LV)(H:Hp)(F8:VK)(E:XK):Prop
 | mk:∀(p l:μ) (rows:RS) (e:CZ),vs=[.ref p,.ref l]->HE K H l rows->(∀ q∈rows,C2 q.1/\∀ u∈q.2,C2 u)->E6 rows (↥e)->E9 Ds rows E H e->Xb K Ds vs H F8 E
def vg{Ds:Nat->μ}(F:Def K mg "check_ups" OR ["ups_of"] f fd)(E0:Cf P w K mg base "NoKind" (Ds 0) "word" (B0 (Ds 0) "word" Cd) f0 Ny)(E1:Cf P w K mg base "Twice" (Ds 1) "word" (B0 (Ds 1) "word" Cd) f1 TY):AV P w K mg base 3.2 3 f fd ["ups_of"] (Y3 Ds):=by
 nomatch F.fn.ok1 VE
 ·obtain⟨d,o,rows,π,r,rfl,_⟩:=h;rfl
 ·obtain⟨d,o,rows,π,r,rfl,bk,fi,sh,due,q,re⟩:=h;have nd:=VE.nd;have hu:=Dm hr
  ac_nf
  refine⟨_,AF (Be JK rfl (gG 0.9) (gE 1 nd)
    (pS (sE 2 nd Gn)
    (AF (Be JK rfl (JB 1.6) (gE 3 nd)
     (pS (AR (Em (RM hu 7.7 0.9)) (AF (Hz (C:=Ds 0) Ak.of hr.hd E0.ex E0.ini E0.ty E0.go hr E0.b 0.8 E0.m 3.3)) AS)
     (pS (AR (Em (Jp hu 7.7 4.2)) (AF (Hz (C:=Ds 1) Ak.of hr.hd E1.ex E1.ini E1.ty E1.go hr E1.b 0.8 E1.m 3.3)) AS)
     (AF (FI hu 4.2 7.7 FX rfl)))))))),?_⟩
  exists let b:=_;let c:=AE (A4 _ b _) a;let e:=_;let f:=AE (A4 _ e _) c;let g:=Bq _ _ f;let h:=AE _ g;Bq _ _ h _ _ _
  obtain⟨lim,l1,l3⟩:∃ lim,(∀ q∈rows.take lim,(∀ v∈q.2,v∈rows.map 0.5)/\q.2.Nodup)/\((r=none/\lim=↑rows)\/∃ e j,r≈e/\mH rows lim j e):=by
   cases due with
   | bad k j h=>exact⟨k,h.ahead,.inr ⟨_,j,Y,h⟩⟩
   | fine f=>exact⟨↑rows,(by rw[Yx];exact λq hq=>⟨f.known q hq,f.upnd q hq⟩),.inl ⟨Y,Y⟩⟩
  have kl:↑π=↑rows:=(Yi bk.ups).symm;let Bf:NW:=λi σ H'=>∃(a b c:OV),i<=lim/\σ=[↥(.ref d),a,b,c]/\AA H H';refine⟨Z,d,o,π,Y,bk.at_,B1 i6 Bf ⟨none,none,none,BN _,Y,AA.refl H⟩ (λi σ H' _ h0=>by obtain⟨_,_,_,_,_,s⟩:=h0;exact s _ _ bk.at_) ?_ ?_⟩
  ·rintro i v σ H' hi ⟨a,b,c,il,rfl,s⟩;rw[Yn]at hi;obtain⟨p,hp,e⟩:=FK.mp hi;obtain⟨q',Ab,hk,t,ht,htup⟩:=BM bk.ups hp;have Ap:q'∈rows:=Yc Ab;have ilt:i<↑rows:=(Yg.mp Ab).1;subst e;show DJ 1 p.2 _ _ _;rw[ht];obtain⟨lj,j1,j2,j3⟩:∃ lj,(∀ v∈q'.2.take lj,v∈rows.map 0.5)/\(q'.2.take lj).Nodup/\((i<lim/\lj=↑q'.2)\/∃ e u,r≈e/\q'.2[lj]?≈u/\((u∉rows.map 0.5/\e=.noK u)\/(u∈rows.map 0.5/\u∈q'.2.take lj/\e=.twice u))):=by
    by_cases ie:i=lim
    ·rcases l3 with⟨_,z⟩ | ⟨e,j,er,hb⟩
     ·omega
     obtain⟨q2,u,HA,HX,h1,h2,h3⟩:=hb.ex;rw[<- ie,Ab]at HA;cases HA;exact⟨j,h1,h2,.inr ⟨e,u,er,HX,h3⟩⟩
    ·have hin:(rows.take lim)[i]?≈q':=by rw[Rl,if_pos 0.0];exact Ab
     obtain⟨h1,h2⟩:=l1 q' (Yc hin);exact⟨↑q'.2,(by rw[Yx];exact h1),(by rw[Yx];exact h2),.inl ⟨V,Y⟩⟩
   intro sd hsd;have s1:AA H (upd H' sd (.dK [])):=λb o e=>by rw[AD (AI (s _ _ e) hsd)];exact s _ _ e
   have t1:(upd H' sd (.dK [])) t≈(.tup (q'.2.map V.str)):=s1 _ _ htup;have hsH:H sd=none:=s.free hsd;let Dh:NW:=λj σ H2=>∃(BP:KL) (c:OV),j<=lj/\σ=[↥(.ref d),↥(.ref t),↥(.ref sd),c]/\AA H H2/\H2 sd≈(.dK BP)/\BP.map 0.5=(q'.2.take j).map λy=>(Sum.inr y:Key);refine⟨Z,t,Y,⟨_,AH.of t1⟩,B1 (JE (xs:=q'.2.map V.str)) Dh
    ⟨[],_,BN _,Y,s1,uS,by simp⟩ (λj σ H2 _ h0=>by obtain⟨_,_,_,_,s,_⟩:=h0;exact AH.of (s _ _ htup)) ?_ ?_⟩
   ·rintro j v σ H2 hj ⟨BP,c,jl,rfl,s2,Ew,GY⟩;obtain⟨x,hx,rfl⟩:=Ql hj;have xm:x∈q'.2:=Yc hx;have hsx:=sh q' Ap x xm;have jlt:j<↑q'.2:=(Yg.mp hx).1;have okx:∀ y,H2 y=none->∀ o,Cd (V.str x) (upd H2 y o):=λy _ o=>⟨x,Y,hsx⟩;have known:x∈rows.map 0.5->∃ t2,BG π (Sum.inr x)≈(.ref t2):=λh=>by
     obtain⟨r2,A7,Nz⟩:=Yd.mp h;obtain⟨t2,GJ,_⟩:=bk.ups.val fi.nd A7;rw[Nz]at GJ;exact⟨t2,GJ⟩
    refine⟨Z,Z,d,Z,BR.f (k:=Sum.inr x) (s2 _ _ bk.at_),Z,?_⟩;have inU:(Sum.inr x:Key)∈BP.map 0.5↔x∈q'.2.take j:=by
     rw[GY];constructor
     ·intro m;obtain⟨z,hz,e⟩:=Yd.mp m;have e:z=x:=by injection e
      rw[<- e];exact hz
     ·intro m;exact Yd.mpr ⟨x,m,Y⟩
    by_cases je:j=lj
    ·rcases j3 with⟨_,z⟩ | ⟨e,u,er,HX,hor⟩
     ·omega
     rw[<- je,hx]at HX;cases HX
     rcases hor with⟨h1,e1⟩ | ⟨h1,h2,e1⟩
     ·have:BG π (Sum.inr x)=none:=by
       refine FJ λz=>h1 ?_;rw[bk.ups.keys]at z;obtain⟨r2,A7,e⟩:=Yd.mp z;have e:r2.1=x:=by injection e
       exact Yd.mpr ⟨r2,A7,e⟩
      rw[this];exact AY ⟨Z,Z,λy hy=>okx y hy _,λdx hdx=>(re _ er).noK _ e1 dx _ (s2.trans (L7 hdx)) uS⟩
     ·obtain⟨t2,GJ⟩:=known h1;rw[GJ];refine AL ⟨Z,Z,sd,Z,BR.k (k:=Sum.inr x) Ew,Z,?_⟩;obtain⟨v,hv⟩:=m_ (inU.mpr (by rw[je];exact h2));rw[hv];exact AY ⟨Z,Z,λy hy=>okx y hy _,λdx hdx=>(re _ er).twice _ e1 dx _ (s2.trans (L7 hdx)) uS⟩
    ·have NC:j<lj:=by omega
     have hin:(q'.2.take lj)[j]?≈x:=by rw[Rl,if_pos NC];exact hx
     obtain⟨t2,GJ⟩:=known (j1 x (Yc hin));rw[GJ];refine AL ⟨Z,Z,sd,Z,BR.k (k:=Sum.inr x) Ew,Z,?_⟩;have Aq:(Sum.inr x:Key)∉BP.map 0.5:=by
      rw[GY];have:=i_ j2 hin;rw[List.take_take,LM (My NC)]at this;exact this
     rw[FJ Aq];refine AL ?_;have hkl:↑BP=↑(q'.2.take j):=by have:=congrArg List.length GY;simpa using this
     have hjl:↑(q'.2.take j)<=8:=by rw[Yy];have:=fi.few q' Ap;omega
     refine⟨Z,Z,sd,Z,Cs.k (k:=Sum.inr x) Ew (Br 0.0),_,_,NC,Y,λb o e=>?_,uS,?_⟩
     ·rw[AD (AI e hsH)];exact s2 _ _ e
     ·rw[RN Aq,GY,Yq,hx,B6];rfl
   ·rintro σ H2 ⟨BP,c,jl,rfl,s2,Ew,GY⟩;rw[Ya]at jl
    rcases j3 with⟨z,_⟩ | ⟨e,u,er,HX,_⟩
    ·exact⟨_,_,_,z,Y,s2⟩
    ·have:=(Yg.mp HX).1;omega
  ·rintro σ H' ⟨a,b,c,il,rfl,s⟩;rw[Ya,kl]at il
   rcases l3 with⟨er,_⟩ | ⟨e,j,er,hb⟩
   ·exact q er H' s
   ·obtain⟨q2,u,HA,_⟩:=hb.ex;have:=(Yg.mp HA).1;omega
def vM(F:Def K mg "endless" JH ["ups_of"] f fd)(DF:Def K mg "first_among" J1 ["words","others"] fF fdF)(T:HC mg):⋯ 2 f fd ["ups_of"] YY:=by
 have GF:⋯ 1 fF fdF ["words","others"] (Qq K):=Xv DF
 nomatch F.fn.ok S2
 ·obtain⟨d,o,rows,π,rfl,_⟩:=h;rfl
 ·obtain⟨d,o,rows,π,rfl,bk,g,uf,⟨x0,Ke,u0,p_,FO⟩,q⟩:=h;have nd:=S2.nd;have hu:=Dm hr
  ac_nf
  refine⟨_,pS (Er (i:=1) nd rfl 1.4 (EE (jo rfl) 0.8 T.list LP 3.5))
   (AF (MV Bs (Cg FX)
    (pS (HP (k:=2) ["word"] ["ups_of","left"] [0,1] nd rfl rfl (λ_=>B5 (osc:=AN JH) (on:=Z7) 1.2 rfl rfl rfl) (Ci 1.6) (λC s H fp=>CB (i:=0) lG rfl 1.7 1.4)
     (λC s H fp=>Qn (Em (T3 (Ag DF GF hr (pC (Ju hu 1.6 0.9 0.4) 2.2))))) (λC s H fp=>pv 0))
    (pS (AR (Ae BS (A9 EC 0.8 T.len Yw 2.2) (A9 EC 0.8 T.len Yw 3.1) (Ad _)) (AF (AW 4.2)) AS)
    (AF (Er (i:=1) nd rfl 1.4 4.2)))))),?_⟩
  exists let b:=AE _ a;let c:=AE _ b;let e:=MI _ c;AE _ e _ _ _
  have wl:↑13.9<=24:=by rw[Ya];exact g.le
  refine⟨Z,d,π,Y,.inr ⟨o,bk.at_⟩,λl0 Dj=>?_⟩;let CU:NW:=λm σ H'=>∃(ll:μ) (ls:LS) (c:OV),σ=[↥(.ref d),↥(.ref ll),c]/\AA H H'/\H' ll≈(.lst 14.3)/\11.5/\(∀ y,VH rows x0 y->y∈ls)/\↑ls<=24/\m=↑ls;refine⟨CU,
   ⟨_,l0,rows.map 0.5,none,Y,λb o e=>by rw[AD (AI e Dj)];exact e,by rw[uS,j6 bk.ups],λx h=>h,(λy hy=>Graph.closed_reach (S:=λz=>z∈rows.map 0.5) (λa ha b hb=>uh g uf ha hb) hy.1 Ke),wl,Y⟩,?_⟩
  rintro m σ H' ⟨ll,ls,c,rfl,s1,hll,hsub,hcy,Nw,rfl⟩;refine⟨true,Y,?_⟩;let Gw:SW:=λσ' H2=>∃ m',m'<↑ls/\∃(ll:μ) (ls:LS) (c:OV),σ'=[↥(.ref d),↥(.ref ll),c]/\AA H H2/\H2 ll≈(.lst 14.3)/\11.5/\(∀ y,VH rows x0 y->y∈ls)/\↑ls<=24/\m'=↑ls;refine AY ⟨Gw,λ_ _ h=>h,?_⟩;refine⟨Z,ll,Y,⟨_,SqL.of hll⟩,RF (Ck (xs:=ls.map V.str)) (sL 6.1) (QH rows ls) (λv=>v) (λD ys hD=>SqL.of 14.8) ?_ ?_ ?_⟩
  ·intro D ys v R hD hv hR;obtain⟨x,hx,rfl⟩:=Yd.mp hv;obtain⟨r,Ab,rfl⟩:=HK (hsub x hx);obtain⟨t,hvt,ht⟩:=bk.ups.val g.nd Ab;have kp:∀ b o,H b≈o->(upd H' D (.lst ys)) b≈o:=λb o e=>by rw[AD (AI (s1 _ _ e) hD)];exact s1 _ _ e
   refine⟨Z,Z,d,Z,(by rw[<- hvt];exact BR.f (k:=Sum.inr r.1) (kp _ _ bk.at_)),Z,t,ll,r.2,ls,Y,AH.of (kp _ _ ht),SqL.of 14.8,Z,?_⟩;have e:(!decide (Ho r.2 ls=V.non))=QH rows ls (V.str r.1):=by
    rw[gj];show _=(A2 rows r.1).any _;rw[Hy g.nd Ab]
   rw[e];exact hR
  ·intro D ys v R hD hv _ hR;exact⟨Z,hR⟩
  ·intro D hD;rw[iD];have hDl:7.8 ll≈(.lst 14.3):=by rw[AD (AI hll hD)];exact hll
   have s2:AA H 7.8:=λb o e=>by rw[AD (AI (s1 _ _ e) hD)];exact s1 _ _ e
   refine⟨Z,_,Z,.inl ⟨_,SqL.of uS,Y⟩,Z,_,Z,.inl ⟨_,SqL.of hDl,Y⟩,Y,Z,?_⟩;have kle:=Graph.kept_le 6.2 ls;refine BO (λh=>?_) (λh=>?_)
   ·have h:↑(Graph.kept 6.2 ls)=↑ls:=by
     have:=Je h;injection this with this;rw[Ya,Ya]at this;omega
    have ke:Graph.kept 6.2 ls=ls:=Graph.filter_all h;rw[ke]at s2 ⊢;refine⟨Z,q D ls _ s2 uS (λz=>?_) Nw hsub λx hx=>?_⟩
    ·have:=hcy x0 ⟨.refl _,.refl _⟩;rw[z]at this;cases this
    ·rw[<- ke]at hx;obtain⟨u,h1,h2⟩:=IE.mp (LO.mp hx).2;exact⟨u,h1,Je h2⟩
   ·have h:↑(Graph.kept 6.2 ls)≠↑ls:=λz=>h (Jb (by rw[Ya,Ya,z]));exact⟨Z,_,V,D,_,Z,s2,uS,λx hx=>hsub x (Graph.kept_sub hx),(λy hy=>by
     obtain⟨z,hz,hzc⟩:=zF p_ FO hy;exact LO.mpr ⟨hcy y hy,IE.mpr ⟨z,hz,Jb (hcy z hzc)⟩⟩),V,Y⟩
def rg(F:Def K mg "find_ring" OS ["ups_of"] f fd)(DE:Def K mg "endless" JH ["ups_of"] fE fdE)(DF:Def K mg "first_among" J1 ["words","others"] fF fdF)(T:HC mg):⋯ 3 f fd ["ups_of"] Xe:=by
 have GE:⋯ 2 fE fdE ["ups_of"] YY:=vM DE DF T;have GF:⋯ 1 fF fdF ["words","others"] (Qq K):=Xv DF
 nomatch F.fn.ok S0
 ·obtain⟨d,o,rows,π,rfl,_⟩:=h;rfl
 ·obtain⟨d,o,rows,π,rfl,bk,g,uf,cy,q⟩:=h;have nd:=S0.nd;have hu:=Dm hr;have Ax:AZ 1 _:=hr.mono 0.2
  ac_nf
  refine⟨_,pS (sE 1 nd (Ag DE GE hr 3.5))
   (pS (AR (Ct (Qw 1.6 (λ_=>rfl))) (AF (AW Dq)) AS)
   (pS (sE 2 nd (B4 AB))
   (pS (sE 3 nd 2.4)
   (pS (MV Bs (Ae (r:=Dz K true) Mb 7.7 4.2 1.3)
    (pS (Bj (De EF Gs Gr F4 4.2 3.3))
    (AF (sE 3 nd (Ag DF GF Ax (pC (Ju hu 0.9 7.7 0.4) 3.1))))))
   (AF (AW (F0 (r:=Gd K) Hu 4.2 (FH (De EF PySem.F.slot_list_index PySem.F.type_list_index (tP (mK hr)) 4.2 3.3)) HH))))))),?_⟩
  exists let b:=_;let c:=AE _ b;let e:=AE (MI _ c) a;let f:=AE _ e;let g:=AE _ f;let h:=AE _ g;AE _ h _ _ _
  refine⟨Z,d,o,rows,π,Y,bk,g,uf,cy,λl ls H1 s1 hl lne l24 sub up=>?_⟩;refine⟨Z,true,.inl ⟨_,SqL.of hl,?_⟩,AL ?_⟩
  ·cases ls with
   | nil=>exact absurd rfl lne
   | cons a r=>rfl
  refine⟨BN _,λwa hwa=>?_⟩;have s2:AA H1 (upd H1 wa (.lst [])):=L7 hwa;have D8:(upd H1 wa (.lst [])) wa≈(.lst []):=uS;generalize upd H1 wa (.lst [])=H2 at s2 D8;have Aw:=s1.trans s2;obtain⟨x0,Ke⟩:∃ x0,ls[0]?≈x0:=by
   cases ls with
   | nil=>exact absurd rfl lne
   | cons a r=>exact⟨a,Y⟩
  refine⟨Z,l,_,_,Z,Y,SqL.of (s2 _ _ hl),EA (j:=0) (v:=.str x0) (by rw[Yn,Ke];rfl),?_⟩;have wH:H wa=none:=s1.free hwa;let KG:NW:=λm σ H'=>∃(Wz:LS) (h:Str),σ=[↥(.ref d),↥(.ref l),↥(.ref wa),↥(.str h)]/\AA H H'/\H' l≈(.lst 14.3)/\H' wa≈(.lst (Wz.map V.str))/\Wz.Nodup/\(∀ y∈Wz,y∈ls)/\h∈ls/\QF rows (Wz++[h])/\m + ↑Wz=↑ls;refine⟨KG,
   ⟨↑ls,[],x0,Y,Aw,s2 _ _ hl,D8,.nil,(λy hy=>nomatch hy),Yc Ke,(λi a b _ hb=>by simp at hb),Y⟩,?_⟩
  rintro m σ H3 ⟨Wz,h,rfl,s3,BA,Eb,wn,ws,hm,c2,em⟩;have wl:=Graph.nodup_le wn ws;refine⟨Z,Z,wa,Z,.inl (SqL.of Eb),Y,JG Wz,Z,?_⟩;rw[if_pos rfl,FD];have hk:=sub h hm;refine BO (λhn=>?_) (λhn=>?_)
  ·have hn:h∉Wz:=by simpa using hn
   let KD:SW:=λσ' H'=>∃ m',m'<m/\∃(Wz:LS) (h:Str),σ'=[↥(.ref d),↥(.ref l),↥(.ref wa),↥(.str h)]/\AA H H'/\H' l≈(.lst 14.3)/\H' wa≈(.lst (Wz.map V.str))/\Wz.Nodup/\(∀ y∈Wz,y∈ls)/\h∈ls/\QF rows (Wz++[h])/\m' + ↑Wz=↑ls;refine⟨KD,λ_ _ z=>z,?_⟩;have cG:(Wz++[h]).Nodup:=by
    rw[List.nodup_append];exact⟨wn,by simp,λa ha b hb e=>hn (by rw[<- Yf.mp hb,<- e];exact ha)⟩
   have Ex:∀ y∈Wz++[h],y∈ls:=λy hy=>by
    rcases Yo.mp hy with z | z
    ·exact ws y z
    ·rw[Yf.mp z];exact hm
   have oJ:=Graph.nodup_le cG Ex;rw[Ym,Ou]at oJ;refine⟨Z,.inl ⟨Y,_,SqL.of Eb⟩,Z,wa,_,Z,Y,Eb,Br 6.1,?_⟩;have s4:AA H (upd H3 wa (.lst (Wz.map V.str++[.str h]))):=λb o' e=>by rw[AD (AI e wH)];exact s3 _ _ e
   have lw:l≠wa:=AI hl hwa;have Bt:(upd H3 wa (.lst (Wz.map V.str++[.str h]))) l≈(.lst 14.3):=by rw[AD lw];exact BA
   have Ig:(upd H3 wa (.lst (Wz.map V.str++[.str h]))) wa≈(.lst ((Wz++[h]).map V.str)):=by rw[uS,B6];rfl
   generalize upd H3 wa (.lst (Wz.map V.str++[.str h]))=H4 at s4 Bt Ig;obtain⟨r,Ab,er⟩:=HK hk;obtain⟨t,hvt,ht⟩:=bk.ups.val g.nd Ab;have uo:A2 rows h=r.2:=by rw[<- er];exact Hy g.nd Ab
   obtain⟨n,en,n1,n2⟩:=uE (us:=r.2) (ls:=ls) (by rw[<- uo];exact up h hm);refine⟨Z,Z,d,Z,(by rw[<- hvt,er];exact BR.f (k:=Sum.inr h) (s4 _ _ bk.at_)),Z,t,l,r.2,ls,Y,AH.of (s4 _ _ ht),SqL.of Bt,?_⟩;rw[en];exact⟨m - 1,V,Wz++[h],n,Y,s4,Bt,Ig,cG,Ex,n2,uB c2 (by rw[uo];exact n1),by rw[Ym,Ou];omega⟩
  ·have hn:h∈Wz:=by simpa using hn
   have il:=List.idxOf_lt_length_of_mem hn;have hat:Wz[Wz.idxOf h]?≈h:=by rw[Yu il,List.getElem_idxOf il]
   have wkn:∀ y∈Wz,AM y=true:=λy hy=>by
    obtain⟨r,Ab,er⟩:=HK (sub y (ws y hy));rw[<- er];exact g.word r Ab
   refine⟨Z,Z,.inl ⟨Y,_,SqL.of Eb⟩,Z,.str h,.str h,Wz.map PySem.W.Dat.str,Wz.idxOf h,.str h,Y,.list (SqL.of Eb) (Gm Wz),.str h,?_,T5 (wkn h hn),by rw[Ya];omega,by rw[Yn,hat];rfl,HI _,λm' e' Po Kk=>?_,Z,?_⟩
   ·rw[Cb];intro z hz;obtain⟨y,hy,rfl⟩:=Yd.mp hz;exact T5 (wkn y hy)
   ·rw[Yn]at Kk;obtain⟨y,hy,rfl⟩:=FK.mp Kk;refine MO λz=>?_;injection z with z;rw[z]at hy;have:=OK wn hy hat;omega
   dsimp only[gN];refine⟨wa,Z,SqL.of Eb,λp hp=>?_⟩;rw[zE _ _ 6.1,<- List.map_drop];refine q p _ _ (s3.trans (L7 hp)) (s3.free hp) uS (by rw[Mo];omega) (yg c2 wn (λy hy=>sub y (ws y hy)) hn)
def rW{Ds:Nat->μ}(F:BK K "__init__" "Kinds.__init__" U5 f fd)(T:HC mg)(D1:Def K mg "check_rows" OT ["rows"] f1 d1)(D2:Def K mg "is_word" HM ["text"] f2 d2)
  (D3:Def K mg "check_ups" OR ["ups_of"] f3 d3) (D4:Def K mg "find_ring" OS ["ups_of"] f4 d4) (D5:Def K mg "endless" JH ["ups_of"] f5 d5) (D6:Def K mg "first_among" J1 ["words","others"] f6 d6)
  (E0:Cf P w K mg base "NoKind" (Ds 0) "word" (B0 (Ds 0) "word" Cd) f0 d0) (E1:Cf P w K mg base "Twice" (Ds 1) "word" (B0 (Ds 1) "word" Cd) fa da) (E3:Cf P w K mg base "Ring" (Ds 3) "ring" (Oe (Ds 3) "ring") fb db) (T7:J4 K mg "TooMany" (Ds 7)):
  AV P w K mg base 3.2 4 f fd ["self","rows"] (Xb K Ds):=by
 have G1:AV P w K mg base 3.2 3 f1 d1 ["rows"] (Y9 K Ds):=vv D1 D2 T E0 E1 T7;have G3:AV P w K mg base 3.2 3 f3 d3 ["ups_of"] (Y3 Ds):=vg D3 E0 E1;have G4:AV P w K mg base 3.2 3 f4 d4 ["ups_of"] Xe:=(rg D4 D5 D6 T).any
 nomatch F.ok1 S1
 ·obtain⟨p,l,rows,e,rfl,_⟩:=h;rfl
 ·obtain⟨p,l,rows,e,rfl,hR,sh,due,re⟩:=h;have nd:=S1.nd;have hu:=Dm hr;have A7:AZ 2 _:=hr.mono 0.2
  ac_nf
  refine⟨_,pS (Bj (JC G1 hr 0.8 D1.m D1.fn.kp D1.b .nil 4.1 3.1))
   (pS (sE 2 nd Gn)
   (pS (Be JK rfl (Fw 1.6) (CO rfl (gC (gE 3 nd) (gC (gE 4 nd) CQ)))
    (AF (FI hu 4.2 7.7 (EE OY 0.8 T.tuple Mr 7.6) rfl)))
   (Qm (pS (Bj (JC G3 hr 0.8 D3.m D3.fn.kp D3.b .nil 4.1 2.2))
   (pS (sE 5 nd (JC G4 hr 0.8 D4.m D4.fn.kp D4.b .nil 4.1 2.2))
   (pS (AR (Em (T3 7.5)) (AF (tm (C:=Ds 3) Ak.of hr.hd E3.ex E3.ini E3.ty E3.go A7 E3.b 0.8 E3.m (pC 7.5 AB))) AS) CA)))))),?_⟩
  exists let b:=_;let c:=AE (Bq _ _ b) a;let e:=AE _ c;AE _ e _ _ _
  have fine:∀ r,Mg rows r->(r=none->HD rows):=λr h e=>by
   cases h with
   | size _=>cases e
   | bad _ _ _ _=>cases e
   | fine f=>exact f
  obtain⟨r1,SX,cZ⟩:∃ r1,Mg rows r1/\((r1≈e)\/(r1=none/\((∃ h:Oc rows (↥e),True)\/(e=.ring/\Hj rows/\M7 rows)))):=by
   cases due with
   | rows h=>exact⟨_,h,.inl rfl⟩
   | ups f h=>exact⟨none,.fine f,.inr ⟨Y,.inl ⟨h,trivial⟩⟩⟩
   | ring f u c=>exact⟨none,.fine f,.inr ⟨Y,.inr ⟨Y,u,c⟩⟩⟩
  refine⟨Z,l,rows,r1,Y,hR,λq hq=>(sh q hq).1,SX,λP_ H1 s1=>?_,λe' P_=>?_⟩
  rotate_left
  ·rcases cZ with z | ⟨z,_⟩
   ·rw[P_]at z;cases z;exact re
   ·rw[P_]at z;cases z
  have fi:=fine r1 SX P_;have pB:(∃ h:Oc rows (↥e),True)\/(e=.ring/\Hj rows/\M7 rows):=by
   rcases cZ with z | ⟨_,z⟩
   ·rw[P_]at z;cases z
   ·exact z
  intro d hd;have s2:AA H (upd H1 d (.dK [])):=λb o e=>by rw[AD (AI (s1 _ _ e) hd)];exact s1 _ _ e
  obtain⟨b,vs,hl,hpr⟩:=id hR;let R6:NW:=λi σ H'=>∃(π:KL) (a c:OV),σ=[↥(.ref p),↥(.ref l),↥(.ref d),a,c,none,none]/\AA H H'/\H' d≈(.dK π)/\Dd H' 5.0 π;refine⟨Z,b,l,vs,Y,hl.mono s2,B1 F1 R6
   ⟨[],none,none,Y,s2,uS,by rw[CD];exact .nil⟩ (λi σ H' _ h0=>by obtain⟨_,_,_,_,s,_⟩:=h0;exact hl.mono s) ?_ ?_⟩
  ·rintro i v σ H' hi ⟨π,a,c,rfl,s3,hdk,hU⟩;obtain⟨r,Ab,t,u,rfl,ht,hug⟩:=BM hpr hi;have dH:H d=none:=s1.free hd;refine⟨t,Z,s3.tup ht,Y,_,Z,_,Z,Y,?_⟩;have Aq:(Sum.inr r.1:Key)∉π.map 0.5:=by rw[hU.keys];exact K7 fi.nd Ab
   have hil:↑5.0<=24:=by rw[Yy];have:=fi.le;omega
   have hkl:↑π=↑5.0:=(Yi hU).symm;have fin:∀(t2:μ) (H2:Hp),AA H' H2->H2 t2≈(.tup 6.7)->∃(BP:KL) (a c:OV),[↥(V.ref p),↥(V.ref l),↥(V.ref d),↥(V.str r.1),↥(V.ref u),none,none]=[↥(V.ref p),↥(V.ref l),↥(V.ref d),a,c,none,none]/\AA H 2.0 /\
     2.0 d≈(.dK BP)/\Dd 2.0 (rows.take 4.6) BP:=λt2 H2 s4 AU=>by
    have d2:=s4 _ _ hdk;have tk:∀ b xs,H2 b≈(.tup xs)->2.0 b≈(.tup xs):=λb xs e=>by
     rw[AD (λz=>by rw[z,d2]at e;cases e)];exact e
    refine⟨_,_,Z,λb o e=>by rw[AD (AI e dH)];exact s4 _ _ (s3 _ _ e),uS,?_⟩;have sn:Dd 2.0 (rows.take i++[r]) (π++[(Sum.inr r.1,V.ref t2)]):=Cu ((hU.mono λb xs e=>s4 _ _ e).mono tk) ⟨Y,t2,Y,tk t2 _ AU⟩;rw[<- Jy _ (FJ Aq)]at sn;rw[Yq,Ab];exact sn
   rcases hug with hug | hug
   ·refine⟨Z,u,Z,.inr ⟨AH.of (s3 _ _ hug),Z,Z,d,Z,Cs.k (k:=Sum.inr r.1) hdk (Br 0.0),fin u H' (AA.refl _) (s3 _ _ hug)⟩⟩
   ·refine⟨Z,u,Z,.inl ⟨s3.seq hug,λt2 AU=>?_⟩⟩;have s4:AA H' (upd H' t2 (.tup 6.7)):=λb o e=>by rw[AD (AI e AU)];exact e
    exact⟨Z,Z,d,Z,Cs.k (k:=Sum.inr r.1) (s4 _ _ hdk) (Br 0.0),fin t2 _ s4 uS⟩
  ·rintro σ H2 ⟨π,a,c,rfl,s3,hdk,hU⟩;have hvl:=↑hpr;rw[<- hvl,Yx]at hU;refine⟨d,π,hdk,λo=>?_⟩;have dH:H d=none:=s1.free hd;have s4:AA H (upd H2 d (.frz o (.dK π))):=λb u e=>by rw[AD (AI e dH)];exact s3 _ _ e
   have bk:Fp (upd H2 d (.frz o (.dK π))) d o rows π:=⟨uS,hU.mono λb xs e=>by rw[AD (λz=>by rw[z,hdk]at e;cases e)];exact e⟩;have cQ:∀ q∈rows,∀ u∈q.2,C2 u:=λq hq=>(sh q hq).2
   rcases pB with⟨qQ,_⟩ | ⟨rfl,uf,cy⟩
   ·exact⟨Z,d,o,rows,π,↥e,Y,bk,fi,cQ,qQ,3.7,λe' er=>by
     cases er;exact re.mono s4⟩
   ·refine⟨Z,d,o,rows,π,none,Y,bk,fi,cQ,.fine uf,λ_ H5 s5=>?_,λe' er=>nomatch er⟩;refine⟨Z,d,o,rows,π,Y,bk.mono s5,fi,uf,cy,λlr ys H6 s6 nlr hlr yl isr=>?_⟩;refine⟨Z,Z,AY ⟨Z,lr,ys,Y,hlr,V,λy hy=>?_,λl2 dx cc ndx ne=>?_⟩⟩
    ·obtain⟨r,Ab,er⟩:=HK (isr.2.2.1 y hy);rw[<- er];exact(sh r Ab).1
    ·have sA:AA H6 (upd (upd H6 l2 (.lst 14.2)) dx (.xd [("ring",.ref l2)])):=λb o' e=>by rw[AD (AI e ndx),AD (AI e cc)];exact e
     have Gz:=s4.trans (s5.trans s6);exact re.ring rfl dx l2 ys _ (Gz.trans sA) uS (Gz.free cc) (by rw[AD ne];exact uS) isr
def nq(Ds:Nat->μ)(E:XK)(H:Hp)(x:Str):Prop:=∀ dx H',AA H H'->H' dx≈(.xd [("word",.str x)])->E (.ref (Ds 0)) (↥dx) H'
inductive X8(C:μ)(Ds:Nat->μ)(vs:LV)(H:Hp)(Q:VK)(E:XK):Prop
 | mk:∀(p:μ) (rows:RS) (x:Str),vs=[.ref p,.str x]->Bc C H p rows->As rows->C2 x->(x∈rows.map 0.5->Q .non H)->(x∉rows.map 0.5->nq Ds E H x)->X8 C Ds vs H Q E
def Rb(rows:RS)(x y w:Str):Prop:=(x∉rows.map 0.5/\w=x)\/(x∈rows.map 0.5/\y∉rows.map 0.5/\w=y)
inductive W2(C:μ)(Ds:Nat->μ)(vs:LV)(H:Hp)(F8:VK)(E:XK):Prop
 | mk:∀(p:μ) (rows:RS) (x y w:Str),vs=[.ref p,.str x,.str y]->Bc C H p rows->As rows->C2 x->C2 y->Rb rows x y w->nq Ds E H w->W2 C Ds vs H F8 E
def Ww(K:Fg)(C:μ)(Ds:Nat->μ):Sp:=λvs H Q E=>QY K C vs H Q E\/Xb K Ds vs H Q E
inductive Xf(C:μ)(Ds:Nat->μ)(vs:LV)(H:Hp)(Q:VK)(E:XK):Prop
 | mk:∀(p:μ) (rows:RS) (x y:Str) (r:Option CZ),vs=[.ref p,.str x,.str y]->Bc C H p rows->As rows->x∈rows.map 0.5->y∈rows.map 0.5->E6 (CI rows x y) r->(r=none->∀ b H',AA H H'->Bc C H' b (CI rows x y)->Q (.ref b) H')->(∀ e,r≈e->E9 Ds (CI rows x y) E H e)->Xf C Ds vs H Q E
def jZ{rows:RS}(g:As rows){x:Str}(h:x∈rows.map 0.5):C2 x:=by
 obtain⟨r,hr,e⟩:=Yd.mp h;rw[<- e];exact H_ (g.word r hr)
def xy{rows:RS}{x y:Str}{q:Str×LS}(h:q∈CI rows x y):∃ r∈rows,q.1=r.1/\((r.1=x/\q.2=r.2++[y])\/(r.1≠x/\q.2=r.2)):=by
 obtain⟨r,hr,e⟩:=Yd.mp h;by_cases z:r.1=x
 ·rw[if_pos z]at e;exact⟨r,hr,by rw[<- e],.inl ⟨z,by rw[<- e]⟩⟩
 ·rw[if_neg z]at e;exact⟨r,hr,by rw[<- e],.inr ⟨z,by rw[<- e]⟩⟩
def tj{rows:RS}(g:As rows){x y:Str}(hx:x∈rows.map 0.5)(hy:y∈rows.map 0.5):∀ q∈CI rows x y,C2 q.1/\∀ u∈q.2,C2 u:=λq hq=>by
 obtain⟨r,hr,e,z⟩:=xy hq;have old:∀ u∈r.2,C2 u:=λu hu=>jZ g (g.known r hr u hu);refine⟨by rw[e];exact H_ (g.word r hr),λu hu=>?_⟩
 rcases z with z | z
 ·rw[z.2]at hu
  rcases Yo.mp hu with c | c
  ·exact old u c
  ·rw[Yf.mp c];exact jZ g hy
 ·rw[z.2]at hu;exact old u hu
def so{Ds:Nat->μ}(F:BK K "check" "Kinds.check" RX f fd)(TC:ET K C)(MH:Ip K C fH fdH)(E0:Cf P w K mg base "NoKind" (Ds 0) "word" (B0 (Ds 0) "word" Cd) f0 Ny):AV P w K mg base 3.2 3 f fd ["self","word"] (X8 C Ds):=by
 have GH:AV P w K mg base 3.2 1 fH fdH ["self","word"] (L8 C):=(Qf MH.fn TC).any
 nomatch F.ok1 mS
 ·obtain⟨p,rows,x,rfl,_⟩:=h;rfl
 ·obtain⟨p,rows,x,rfl,kd,g,sx,q,re⟩:=h;obtain⟨dx,d,a,o,oa,π,Az,h1,h2,h3,h4⟩:=kd.ex;have Ax:AZ 1 _:=hr.mono 0.2
  ac_nf
  refine⟨_,AF (AR (Ct (Cg (FE 0.9 TC.cl MH.me GH Ax MH.b .nil 4.1 3.1))) (AF (Hz (C:=Ds 0) Ak.of hr.hd E0.ex E0.ini E0.ty E0.go hr E0.b 0.8 E0.m 3.1)) AS),?_⟩
  exists A4 _ a _ _ _ _
  refine⟨Z,p,dx,Z,h1,Qd _ _,Z,p,rows,x,Y,kd,g,Z,?_⟩;by_cases hx:x∈rows.map 0.5
  ·rw[Jb hx];exact AL (q hx)
  ·rw[Jc hx];exact AY ⟨Z,Z,(λy _=>⟨x,Y,sx⟩),λdx hdx=>re hx dx _ (L7 hdx) uS⟩
def rj{Ds:Nat->μ}(F:BK K "tied" "Kinds.tied" RQ f fd)(TC:ET K C)(MC:kb K C fC fdC)(MH:Ip K C fH fdH)(M:Mk K C fI)(mgC:mg "Kinds"≈(.ref C))(bI:Bw K fdI ["self","rows"] [])
  (GI:AV P w K mg base 3.2 4 fI fdI ["self","rows"] (Ww K C Ds)):AV P w K mg base 3.2 6 f fd ["self","one","other"] (Xf C Ds):=by
 have GC:AV P w K mg base 3.2 2 fC fdC ["self","word"] (XY C):=(zc MC.fn TC MH).any
 nomatch F.ok1 Z4
 ·obtain⟨p,rows,x,y,r,rfl,_⟩:=h;rfl
 ·obtain⟨p,rows,x,y,r0,rfl,kd,g,hx,hy,due,q,re⟩:=h;obtain⟨dx,d,a,o,oa,π,Az,h1,h2,h3,h4⟩:=kd.ex;have nd:=Z4.nd;have A7:AZ 2 _:=hr.mono 0.2
  ac_nf
  refine⟨_,pS (Bj (FE 0.9 TC.cl MC.me GC A7 MC.b .nil 4.1 3.1))
   (pS (Bj (FE 0.9 TC.cl MC.me GC A7 MC.b .nil 4.1 2.2))
   (pS (sE 3 nd (B4 AB))
   (pS (Be JK rfl (g7 7.0) (CO rfl 10.2)
    (AF (Bj (De EF Gs Gr F4 7.7 (pC (BB (pC (pv 4) (pC (gz (Ae BS (pv 4) 1.6 (Ad _)) (Ar Qj 7.5 (BB 2.2)) 7.5) AB))) AB)))))
   (AF (AW (JD M GI hr rfl mgC bI .nil 4.1 3.3)))))),?_⟩
  exists let b:=_;let c:=AE (Bq _ _ b) a;let e:=AE _ c;let f:=AE _ e;AE _ f _ _ _
  refine⟨Z,p,dx,Z,h1,UH _ _,Z,p,rows,x,Y,kd,g,hx,?_⟩;refine⟨Z,p,dx,Z,h1,UH _ _,Z,p,rows,y,Y,kd,g,hy,?_⟩;refine⟨BN _,λl hl=>?_⟩;have gle:=g.le;have hkv:↑π=↑rows:=(Yi h2.ups).symm;have s1:AA H (upd H l (.lst [])):=Jo hl;let CU:NW:=λi σ H'=>∃(vs:LV) (b c:OV),σ=[↥(.ref p),↥(.str x),↥(.str y),↥(.ref l),b,c]/\(∀ b o,b≠l->H b≈o->H' b≈o)/\H' l≈(.lst vs)/\Paired (LG H') (CI 5.0 x y) vs;refine⟨Z,p,C,dx,_,Z,s1 _ _ h1,TC.cl,TC.nU,Wk _ _,d,o,π,Y,s1 _ _ h2.at_,iW CU
   ⟨[],none,none,Y,λb o hb e=>by rw[AD hb];exact e,uS,by rw[CD];exact .nil⟩ (λi σ H' _ h0=>by obtain⟨_,_,_,_,k,_⟩:=h0;exact k _ _ (AI h2.at_ hl) h2.at_) ?_ ?_⟩
  ·rintro i pr t σ H2 hi ⟨vs,b,c,rfl,k2,Ao,FP⟩ ht;obtain⟨r,Ab,e1,u,e2,hu⟩:=BM h2.ups hi;have u2:H2 u≈(.tup 6.7):=k2 _ _ (AI hu hl) hu;have s3:AA H2 (upd H2 t (.tup [kV pr.1,pr.2])):=Jo ht;have DY:(upd H2 t (.tup [kV pr.1,pr.2])) t≈(.tup [.str r.1,.ref u]):=by rw[uS,e1,e2];rfl
   generalize upd H2 t (.tup [kV pr.1,pr.2])=H3 at s3 DY;refine⟨t,Z,AH.of DY,Y,_,Z,_,Z,Y,?_⟩;have BA:=s3 _ _ Ao;have u3:=s3 _ _ u2;have few:=g.few r (Yc Ab);have vl:↑vs<=24:=by
    rw[<- ↑FP];unfold CI;rw[Ya,Yy];omega
   refine⟨Z,.inl ⟨Y,_,SqL.of BA⟩,Z,Z,Z,Y,Z,?_⟩;rw[Ybs];have fin:∀(v:μ) (us:LS) (H4:Hp),AA H3 H4->H4 v≈(.tup (us.map V.str))->CI [r] x y=[(r.1,us)]->∀ t2,H4 t2=none->∃(Lc:LV) (b c:OV),[↥(V.ref p),↥(V.str x),↥(V.str y),↥(V.ref l),↥(V.str r.1),↥(V.ref u)]=[↥(.ref p),↥(.str x),↥(.str y),↥(.ref l),b,c] /\
     (∀ b o,b≠l->H b≈o->5.2 b≈o)/\5.2 l≈(.lst Lc)/\Paired (LG 5.2) (CI (rows.take 4.6) x y) Lc:=λv us H4 s4 hv et t2 AU=>by
    have s5:AA H4 (upd H4 t2 (.tup [.str r.1,.ref v])):=Jo AU;have Bt:=s4 _ _ BA;have tk:∀ b xs,H4 b≈(.tup xs)->5.2 b≈(.tup xs):=λb xs e=>by
     rw[AD (λz=>by rw[z,Bt]at e;cases e)];exact s5 _ _ e
    have Vv:t2≠l:=λz=>by rw[z,Bt]at AU;cases AU
    refine⟨_,_,Z,λb o hb e=>by rw[AD hb];exact s5 _ _ (s4 _ _ (s3 _ _ (k2 b o hb e))),uS,?_⟩;have e6:CI (rows.take 4.6) x y=CI 5.0 x y++[(r.1,us)]:=by
     rw[<- et,Yq,Ab];unfold CI;rw[B6];rfl
    rw[e6];refine Cu (Paired.mapP FP λr' v' ⟨t',u',e,z1,z2⟩=>⟨t',u',e,tk _ _ (s4 _ _ (s3 _ _ z1)),tk _ _ (s4 _ _ (s3 _ _ z2))⟩) ⟨t2,v,Y,?_,tk _ _ hv⟩;rw[AD Vv];exact uS
   refine BO (λh=>?_) (λh=>?_)
   ·have D0:r.1=x:=Je h;have et:CI [r] x y=[(r.1,r.2++[y])]:=by
     unfold CI;rw[Yr,if_pos D0];rfl
    refine⟨Z,Z,O,λt4 Pl=>?_⟩;have s4:AA H3 (upd H3 t4 (.tup [.str y])):=Jo Pl;have V8:(upd H3 t4 (.tup [.str y])) t4≈(.tup [.str y]):=uS;generalize upd H3 t4 (.tup [.str y])=H4 at s4 V8;refine⟨u,t4,_,Z,Y,AH.of (s4 _ _ u3),AH.of V8,sL (by rw[Ya];simp;omega),λhn=>?_,(λ_ z=>by cases z),λ_ _ t5 Ec=>?_⟩
    ·have hn:r.2=[]:=List.map_eq_nil_iff.mp hn;refine⟨W,λt2 AU=>⟨l,_,Z,Y,Jo AU _ _ (s4 _ _ BA),Br 0.0,?_⟩⟩;exact fin t4 (r.2++[y]) H4 s4 (by rw[V8,hn];rfl) et t2 AU
    ·have s5:AA H4 (upd H4 t5 (.tup (r.2.map V.str++[.str y]))):=Jo Ec;refine⟨W,λt2 AU=>⟨l,_,Z,Y,Jo AU _ _ (s5 _ _ (s4 _ _ BA)),Br 0.0,?_⟩⟩;exact fin t5 (r.2++[y]) _ (s4.trans s5) (by rw[uS,B6];rfl) et t2 AU
   ·have D0:¬ r.1=x:=λz=>h (Jb z);have et:CI [r] x y=[(r.1,r.2)]:=by
     unfold CI;rw[Yr,if_neg D0];rfl
    refine⟨Z,W,λt2 AU=>⟨l,_,Z,Y,Jo AU _ _ BA,Br 0.0,?_⟩⟩;exact fin u r.2 H3 (AA.refl _) u3 et t2 AU
  ·rintro σ H3 ⟨vs,b,c,rfl,k3,BA,Ha⟩;rw[hkv,Yx]at Ha;refine⟨Z,?_⟩;intro xb FT nx ndx nex;have Af:AA H3 (upd (upd H3 FT (.own xb)) xb (.ins C FT [])):=λb o e=>by
    have e1:(upd H3 FT (.own xb)) b≈o:=by rw[AD (AI e ndx)];exact e
    rw[AD (AI e nx)];exact e1
   have hR:Ep H3 l (CI rows x y):=⟨vs,BA,Ha⟩;have dA:∀ b o,H b≈o->H3 b≈o:=λb o e=>k3 b o (AI e hl) e;cases r0 with
   | none =>
    have g2:As (CI rows x y):=by
     cases due with
     | good g=>exact g
    refine .inl ⟨xb,FT,l,CI rows x y,Y,uS,HE.mono (Ep.g hR) Af,g2,λH5 V7 keep=>⟨Y,q rfl xb H5 (λb o e=>?_) V7⟩⟩;have e3:=dA b o e;exact keep b o (AI e3 nx) (Af _ _ e3)
   | some e=>exact .inr ⟨xb,l,CI rows x y,e,Y,HE.mono (Ep.g hR) Af,tj g hx hy,due,(re e rfl).mono λb o z=>Af _ _ (dA b o z)⟩
inductive Xc(K:Fg)(C:μ)(Ds:Nat->μ)(vs:LV)(H:Hp)(Q:VK)(E:XK):Prop
 | mk:∀(p u:μ) (rows:RS) (x:Str) (us:LS) (r:Option CZ),vs=[.ref p,.str x,.ref u]->Bc C H p rows->As rows->Mm K H u us->C2 x->(∀ v∈us,C2 v)->E6 8.4 r->(r=none->∀ b H',AA H H'->Bc C H' b 8.4->Q (.ref b) H')->(∀ e,r≈e->E9 Ds 8.4 E H e)->Xc K C Ds vs H Q E
def rf{Ds:Nat->μ}(F:BK K "more" "Kinds.more" Up f fd)(TC:ET K C)(list:mg "list"=none)(MR:E7 K C "rows" "Kinds.rows" RP ["self"] fR fdR)(M:Mk K C fI)(mgC:mg "Kinds"≈(.ref C))(bI:Bw K fdI ["self","rows"] [])
  (GI:AV P w K mg base 3.2 4 fI fdI ["self","rows"] (Ww K C Ds)):AV P w K mg base 3.2 6 f fd ["self","word","ups"] (Xc K C Ds):=by
 have GR:AV P w K mg base 3.2 1 fR fdR ["self"] (UL C):=(iu MR.fn TC list).any
 nomatch F.ok1 mm
 ·obtain⟨p,u,rows,x,us,r,rfl,_⟩:=h;rfl
 ·obtain⟨p,u,rows,x,us,r0,rfl,kd,g,hu,sx,su,due,q,re⟩:=h;obtain⟨dx,d,a,o,oa,π,Az,h1,_⟩:=kd.ex;have nd:=mm.nd;have Ax:AZ 1 _:=hr.mono 0.2
  ac_nf
  refine⟨_,pS (sE 3 nd (Gp 0.9 TC.cl MR.me GR Ax MR.b .nil 4.1))
   (pS (Bj (De EF Gs Gr F4 7.7 (pC (BB (pC 1.6 2.2)) AB)))
   (AF (AW (JD M GI hr rfl mgC bI .nil 4.1 3.3)))),?_⟩
  exists let b:=AE _ a;AE _ b _ _ _
  refine⟨_,rfl,p,dx,_,rfl,h1,gr _ _,p,rows,rfl,kd,g,λl H1 hl s1 hR=>?_⟩;obtain⟨vs,hvs,hpr⟩:=hR;have gle:=g.le;refine⟨_,rfl,.inl ⟨rfl,_,SqL.of hvs⟩,_,rfl,_,rfl,sL 7.9,λt ht=>?_⟩;have s2:AA H1 (upd H1 t (.tup [.str x,.ref u])):=Jo ht;have AU:(upd H1 t (.tup [.str x,.ref u])) t≈(.tup [.str x,.ref u]):=uS;generalize upd H1 t (.tup [.str x,.ref u])=H2 at s2 AU;have GJ:=s2 _ _ hvs;refine⟨l,_,_,rfl,rfl,GJ,Br (by rw[<- ↑hpr];omega),?_⟩;have k3:∀ b o,b≠l->H2 b≈o->(upd H2 l (.lst 11.7)) b≈o:=λb o hb e=>by rw[AD hb];exact e
  have A_:AA H (upd H2 l (.lst 11.7)):=λb o e=>k3 b o (AI e hl) (s2 _ _ (s1 _ _ e));have tl:t≠l:=λz=>by rw[z,hvs]at ht;cases ht
  have BA:(upd H2 l (.lst 11.7)) l≈(.lst 11.7):=uS;have DY:=k3 _ _ tl AU;have tk:∀ b xs,H1 b≈(.tup xs)->(upd H2 l (.lst 11.7)) b≈(.tup xs):=λb xs e=>k3 b _ (λz=>by rw[z,hvs]at e;cases e) (s2 _ _ e);generalize upd H2 l (.lst 11.7)=H3 at A_ BA DY tk;have Ha:Paired (Rf K H3) 8.4 11.7:=Cu (Paired.mapP hpr λr v ⟨t,u,e,e1,e2⟩=>⟨t,u,e,AH.of (tk _ _ e1),.inl (tk _ _ e2)⟩) ⟨t,u,Y,AH.of DY,hu.mono A_⟩;refine⟨Z,?_⟩;intro xb FT nx ndx nex;have Af:AA H3 (upd (upd H3 FT (.own xb)) xb (.ins C FT [])):=λb o e=>by
   have e1:(upd H3 FT (.own xb)) b≈o:=by rw[AD (AI e ndx)];exact e
   rw[AD (AI e nx)];exact e1
  have hG:HE K (upd (upd H3 FT (.own xb)) xb (.ins C FT [])) l 8.4:=⟨true,vs++[.ref t],SqL.of (Af _ _ BA),Paired.mapP Ha λ_ _ z=>z.mono Af⟩;cases r0 with
  | none =>
   have g2:As 8.4:=by
    cases due with
    | good g=>exact g
   refine .inl ⟨xb,FT,l,rows++[(x,us)],Y,uS,hG,g2,λH5 V7 keep=>⟨Y,q rfl xb H5 (λb o e=>?_) V7⟩⟩;have e3:=A_ _ _ e;exact keep b o (AI e3 nx) (Af _ _ e3)
  | some e =>
   refine .inr ⟨xb,l,rows++[(x,us)],e,Y,hG,λq' hq=>?_,due,(re e rfl).mono λb o z=>Af _ _ (A_ _ _ z)⟩
   rcases Yo.mp hq with z | z
   ·refine⟨H_ (g.word q' z),λv hv=>?_⟩;obtain⟨r',Ab,e'⟩:=Yd.mp (g.known q' z v hv);rw[<- e'];exact H_ (g.word r' Ab)
   ·rw[Yf.mp z];exact⟨sx,su⟩
def rE{Ds:Nat->μ}(F:BK K "tied" "Kinds.tied" RQ f fd)(TC:ET K C)(MC:kb K C fC fdC)(GC:AV P w K mg base 3.2 3 fC fdC ["self","word"] (X8 C Ds)):AV P w K mg base 3.2 4 f fd ["self","one","other"] (W2 C Ds):=by
 nomatch F.ok1 Z4
 ·obtain⟨p,rows,x,y,w',rfl,_⟩:=h;rfl
 ·obtain⟨p,rows,x,y,w',rfl,kd,g,sx,sy,la,re⟩:=h;obtain⟨dx,d,a,o,oa,π,Az,h1,_⟩:=kd.ex
  ac_nf
  refine⟨_,pS (Bj (FE 0.9 TC.cl MC.me GC hr MC.b .nil 4.1 3.1)) (pS (Bj (FE 0.9 TC.cl MC.me GC hr MC.b .nil 4.1 2.2)) CA),?_⟩
  exists let b:=AE _ a;AE _ b _ _ _
  refine⟨Z,p,dx,Z,h1,UH _ _,Z,p,rows,x,Y,kd,g,sx,λhx=>?_,λhx=>?_⟩
  ·rcases la with⟨z,_⟩ | ⟨_,hy,rfl⟩
   ·exact absurd hx z
   ·exact⟨Z,p,dx,Z,h1,UH _ _,Z,p,rows,Z,kd,g,sy,(λz=>absurd z hy),λ_=>re⟩
  ·rcases la with⟨_,rfl⟩ | ⟨z,_⟩
   ·exact re
   ·exact absurd z hx
def Fu(H:Hp)(all rows:RS)(Az:KL):Prop :=
 Paired (λr (p:Key×V)=>p.1=Sum.inr r.1/\∃(t:μ) (fs:LS),p.2=.ref t/\H t≈(.lst (fs.map V.str))/\(∀ y,y∈fs↔Graph.Reach (A2 all) r.1 y)/\↑fs<=↑all) rows Az
def Fu.mono{H H':Hp}{all rows:RS}{Az:KL}(h:Fu H all rows Az)(s:∀ b xs,H b≈(.lst xs)->H' b≈(.lst xs)):Fu H' all rows Az :=
 Paired.mapP h λ_ _ z=>⟨z.1,let⟨t,fs,e,x,y⟩:=z.2;⟨t,fs,e,s _ _ x,y⟩⟩
theorem Fu.keys:∀ {H:Hp}{all rows:RS}{π:KL},Fu H all rows π->π.map 0.5=rows.map λr=>(Sum.inr r.1:Key)
 | _,_,_,_,.nil=>rfl
 | _,_,_,_,.cons r t=>by rw[Yr,Yr,r.1,Fu.keys t]
theorem Fu.val':∀ {H:Hp}{all rows:RS}{π:KL},Fu H all rows π->(rows.map 0.5).Nodup->∀ {r:Str×LS},r∈rows->∃(t:μ) (fs:LS),BG π (Sum.inr r.1)≈(.ref t)/\H t≈(.lst (fs.map V.str))/\(∀ y,y∈fs↔Graph.Reach (A2 all) r.1 y)/\↑fs<=↑all
 | _,_,_,_,.nil,_,r,h=>nomatch h
 | _,_,q :: rs,p :: ps,.cons z t,nd,r,h=>by
  have Lh:(q.1 :: rs.map 0.5).Nodup:=nd;obtain⟨n1,n2⟩:=ID.mp Lh;obtain⟨z1,u,fs,z2,z3,z4⟩:=z
  rcases Yv.mp h with e | h
  ·subst e;exact⟨u,fs,by rw[F3 z1,z2],z3,z4⟩
  ·have ne:¬ p.1=(Sum.inr r.1:Key):=λe=>n1 (by
    rw[z1]at e;have e':q.1=r.1:=by injection e
    rw[e'];exact Yd.mpr ⟨r,h,Y⟩)
   obtain⟨u',CW,h1,h2⟩:=Fu.val' t n2 h;exact⟨u',CW,by rw[F2 ne];exact h1,h2⟩
def Fu.val{H:Hp}{all rows:RS}{π:KL}(h:Fu H all rows π)(nd:(rows.map 0.5).Nodup){r:Str×LS}(hr:r∈rows):∃(t:μ) (fs:LS),BG π (Sum.inr r.1)≈(.ref t)/\H t≈(.lst (fs.map V.str))/\∀ y,y∈fs↔Graph.Reach (A2 all) r.1 y :=
 let⟨u,fs,h1,h2,h3,_⟩:=h.val' nd hr;⟨u,fs,h1,h2,h3⟩
def sX{rows:RS}{x:Str}{fs:LS}(h:∀ y,y∈fs↔Graph.Reach 6.2 x y)(y:Str):decide (y∈fs)=Hq rows x y:=by
 unfold Hq;by_cases z:Graph.Reach 6.2 x y
 ·rw[Jb ((h y).mpr z)];exact(@Jb _ (Classical.propDecidable _) z).symm
 ·rw[Jc λk=>z ((h y).mp k)];exact(@Jc _ (Classical.propDecidable _) z).symm
inductive X5(vs:LV)(H:Hp)(Q:VK)(AO:XK):Prop
 | mk:∀(l:μ) (rows:RS),vs=[.ref l]->Ep H l rows->HD rows->Hj rows->(∀ a Az H',AA H H'->H' a≈(.dK Az)->Fu H' rows rows Az->Q (.ref a) H')->X5 vs H Q AO
structure PD(rows:RS)(x:Str)(fs:LS)(k:Nat):Prop where
 start:x∈fs
 known:∀ y∈fs,y∈rows.map 0.5
 nd:fs.Nodup
 reach:∀ y∈fs,Graph.Reach 6.2 x y
 closed:∀ y∈fs.take k,∀ u∈A2 rows y,u∈fs
def PD.le{rows:RS}{x:Str}{fs:LS}{k:Nat}(h:PD rows x fs k):↑fs<=↑rows:=by
 have:=Graph.nodup_le h.nd h.known
 rwa [Ya]at this
def PD.all{rows:RS}{x:Str}{fs:LS}{k:Nat}(h:PD rows x fs k)(hk:↑fs<=k)(y:Str):y∈fs↔Graph.Reach 6.2 x y :=
 ⟨h.reach y,λr=>Graph.closed_reach (S:=λy=>y∈fs) (λz hz u hu=>h.closed z (by rw[J8 hk];exact hz) u hu) r h.start⟩
def vQ{rows:RS}(g:HD rows)(gu:Hj rows){y u:Str}(hy:y∈rows.map 0.5)(hu:u∈A2 rows y):u∈rows.map 0.5:=by
 obtain⟨r,hr,e⟩:=HK hy;rw[<- e,Hy g.nd hr]at hu;exact gu.known r hr u hu
abbrev pN:LS:=["rows","ups","word","some","above","found","at","up"]
def mh:Am pN ["rows"] (AN Uq):=by nofun
def tJ(F:Def K mg "_law_above" Uq ["rows"] f fd)(len:mg "len"=none):⋯ 1 f fd ["rows"] X5:=by
 nomatch F.fn.ok mh
 ·obtain⟨l,rows,rfl,_⟩:=h;rfl
 ·obtain⟨l,rows,rfl,hR,g,gu,q⟩:=h;have nd:=mh.nd;have hu:=Dm hr
  ac_nf
  refine⟨_,pS (sE 1 nd Gn)
   (pS (Be Bs rfl (Ci 0.9) 4.3
    (AF (FI hu 1.6 4.2 7.7 rfl)))
   (pS (sE 4 nd Gn)
   (pS (Be Bs rfl (Ci 0.9) 4.3
    (pS (sE 5 nd (B4 2.2))
    (pS (sE 6 nd AG)
    (pS (MV Bs (Ae L_ (pv 6) (A9 EC 0.8 len Yw (pC 7.5 AB)) (Ad _))
     (pS (Be Bs rfl (JB (Ju hu 1.6 (Ac Au 7.5 (pv 6) 0.4) 0.4)) (gE 7 nd)
      (AF (AR (Ae Mb (pv 7) 7.5 1.3) (AF (Bj (De EF Gs Gr F4 7.5 (pC (pv 7) AB)))) AS)))
     (AF (sE 6 nd (Ar Ku (pv 6) AG)))))
    (AF (FI hu (pv 4) 4.2 7.5 rfl))))))
   (AF (AW (pv 4)))))),?_⟩
  exists let b:=_;let c:=_;let e:=_;let f:=A4 _ e _;let g:=AE (Bq _ _ f) c;let h:=AE (MI _ g) b;let i:=AE _ h;let j:=AE _ i;let k:=AE (Bq _ _ j) a;let l:=AE _ k;let m:=AE _ l;AE _ m _ _ _
  have gle:=g.le;obtain⟨vs,hvs,hpr⟩:=hR;intro d hd;have s1:AA H (upd H d (.dK [])):=λb o e=>by rw[AD (AI e hd)];exact e
  let Bf:NW:=λi σ H'=>∃(π:KL) (a c:OV),σ=[↥(.ref l),↥(.ref d),a,c,none,none,none,none]/\AA H H'/\H' d≈(.dK π)/\Dd H' 5.0 π;refine⟨Z,l,Y,⟨_,SqL.of (s1 _ _ hvs)⟩,B1 (Ck (xs:=vs)) Bf
   ⟨[],none,none,Y,s1,uS,by rw[CD];exact .nil⟩ (λi σ H' _ h0=>by obtain⟨_,_,_,_,s,_⟩:=h0;exact SqL.of (s _ _ hvs)) ?_ ?_⟩
  ·rintro i v σ H' hi ⟨π,a,c,rfl,s3,hdk,hU⟩;obtain⟨r,Ab,t,u,rfl,ht,hug⟩:=BM hpr hi;refine⟨t,Z,AH.of (s3 _ _ ht),Y,_,Z,_,Z,Y,?_⟩;have Aq:(Sum.inr r.1:Key)∉π.map 0.5:=by rw[hU.keys];exact K7 g.nd Ab
   have hil:↑5.0<=24:=by rw[Yy];omega
   have hkl:↑π=↑5.0:=(Yi hU).symm;refine⟨Z,Z,Z,d,Z,Cs.k (k:=Sum.inr r.1) hdk (Br 0.0),?_⟩;have tk:∀ b xs,H' b≈(.tup xs)->(upd H' d (.dK (Al π (Sum.inr r.1) (.ref u)))) b≈(.tup xs):=λb xs e=>by
    rw[AD (λz=>by rw[z,hdk]at e;cases e)];exact e
   refine⟨_,_,Z,λb o e=>by rw[AD (AI e hd)];exact s3 _ _ e,uS,?_⟩;have sn:Dd (upd H' d (.dK (Al π (Sum.inr r.1) (.ref u)))) (rows.take i++[r]) (π++[(Sum.inr r.1,V.ref u)]):=Cu (hU.mono tk) ⟨Y,u,Y,tk u _ (s3 _ _ hug)⟩;rw[<- Jy _ (FJ Aq)]at sn;rw[Yq,Ab];exact sn
  ·rintro σ H2 ⟨π,a,c,rfl,s3,hdk,hU⟩;have hvl:=↑hpr;rw[<- hvl,Yx]at hU;intro aa Hc;have s4:AA H2 (upd H2 aa (.dK [])):=λb o e=>by rw[AD (AI e Hc)];exact e
   have aaH:H aa=none:=s3.free Hc;have daa:d≠aa:=AI hdk Hc;have hU4:Dd (upd H2 aa (.dK [])) rows π:=hU.mono λb xs e=>s4 _ _ e;have hd4:=s4 _ _ hdk;have Ba:=s3.trans s4;let Dh:NW:=λi σ H'=>∃(Az:KL) (a b c e f:OV),σ=[↥(.ref l),↥(.ref d),a,b,↥(.ref aa),c,e,f]/\(∀ b o,b≠aa->H2 b≈o->H' b≈o)/\H' aa≈(.dK Az)/\Fu H' rows 5.0 Az;refine⟨Z,l,Y,⟨_,SqL.of (Ba _ _ hvs)⟩,B1 (Ck (xs:=vs)) Dh
    ⟨[],_,_,_,_,Z,λb o hb e=>by rw[AD hb];exact e,uS,by rw[CD];exact .nil⟩ (λi σ H' _ h0=>by obtain⟨_,_,_,_,_,_,_,k,_⟩:=h0;exact SqL.of (k _ _ (AI hvs aaH) (s3 _ _ hvs))) ?_ ?_⟩
   ·rintro i v σ H' hi ⟨Az,a,b,c,e,f',rfl,k1,NL,hA⟩;obtain⟨r,Ab,t,u,rfl,ht,hug⟩:=BM hpr hi;have Ap:r∈rows:=Yc Ab;have Sq:∀ b o,H b≈o->H' b≈o:=λb o e=>k1 b o (AI e aaH) (s3 _ _ e);refine⟨t,Z,AH.of (Sq _ _ ht),Y,_,Z,_,Z,Y,?_⟩;refine⟨Z,O,λfa hfa=>?_⟩;have sF:∀ {H5:Hp},AA H' H5->Dd H5 rows π:=λ{H5} s=>hU.mono λb xs e=>s _ _ (k1 b _ (λz=>by rw[z,Hc]at e;cases e) e);have dF:∀ {H5:Hp},AA H' H5->H5 d≈(.dK π):=λ{H5} s=>s _ _ (k1 _ _ daa hdk);let CU:NW:=λm σ H5=>∃(fs:LS) (k:Nat) (f:OV),σ=[↥(.ref l),↥(.ref d),↥(.str r.1),↥(.ref u),↥(.ref aa),↥(.ref fa),↥(.int (k:Int)),f]/\AA H' H5/\H5 fa≈(.lst (fs.map V.str))/\PD rows r.1 fs k/\k<=↑fs/\m + k=↑rows;refine⟨CU,
     ⟨↑rows,[r.1],0,Z,λb o e=>by rw[AD (AI e hfa)];exact e,uS,⟨by simp,λy h=>by rw[Yf.mp h];exact Yd.mpr ⟨r,Ap,Y⟩,by simp,λy h=>by rw[Yf.mp h];exact .refl _,λy h=>by simp at h⟩,by simp,Y⟩,?_⟩
    rintro m σ H5 ⟨fs,k,f2,rfl,s5,Pt,go,hk,hm⟩;have flen:=go.le;refine⟨Z,Z,_,Z,.inl ⟨_,SqL.of Pt,Y⟩,_,Z,Y,Z,?_⟩;rw[Ya];refine BO (λBb=>?_) (λBb=>?_)
    ·have Bb:k<↑fs:=by have:=Je Bb;omega
     let Gw:SW:=λσ' H6=>∃ m',m'<m/\∃(fs:LS) (k:Nat) (f:OV),σ'=[↥(.ref l),↥(.ref d),↥(.str r.1),↥(.ref u),↥(.ref aa),↥(.ref fa),↥(.int (k:Int)),f]/\AA H' H6/\H6 fa≈(.lst (fs.map V.str))/\PD rows r.1 fs k/\k<=↑fs/\m' + k=↑rows;refine⟨Gw,λ_ _ h=>h,?_⟩;have hat:fs[k]?≈fs[k]:=Yu Bb;generalize hhere:fs[k]=here at hat;have hin:here∈fs:=Yc hat;obtain⟨r2,A7,er⟩:=HK (go.known here hin);obtain⟨t2,hvt,AU⟩:=(sF s5).val g.nd A7;rw[er]at hvt;have uo:A2 rows here=r2.2:=by rw[<- er];exact Hy g.nd A7
     have hix:Cr (fs.map V.str) (k:Int)≈(V.str here):=EA (by rw[Yn,hat];rfl);refine⟨Z,Z,Z,fa,_,_,Z,Y,SqL.of Pt,hix,d,Z,(by rw[<- hvt];exact BR.k (k:=Sum.inr here) (dF s5)),t2,Y,⟨_,AH.of AU⟩,?_⟩;have ao:t2≠fa:=λz=>by rw[z,Pt]at AU;cases AU
     refine B1 (JE (xs:=r2.2.map V.str)) (λj σ H6=>∃(ex:LS) (f:OV),σ=[↥(.ref l),↥(.ref d),↥(.str r.1),↥(.ref u),↥(.ref aa),↥(.ref fa),↥(.int (k:Int)),f]/\(∀ b o,b≠fa->H5 b≈o->H6 b≈o)/\H6 fa≈(.lst ((fs++ex).map V.str)) /\
      (∀ y∈fs++ex,y∈rows.map 0.5)/\(fs++ex).Nodup/\(∀ y∈fs++ex,Graph.Reach 6.2 r.1 y)/\∀ z∈r2.2.take j,z∈fs++ex)
      ⟨[],Z,λb o _ e=>e,by rw[Dv];exact Pt,by rw[Dv];exact go.known,by rw[Dv];exact go.nd,by rw[Dv];exact go.reach,λz h=>by simp at h⟩ (λj σ H6 _ h0=>by obtain⟨_,_,_,k6,_⟩:=h0;exact AH.of (k6 _ _ ao AU)) ?_ ?_
     ·rintro j v σ H6 hj ⟨ex,f3,rfl,k6,Nr,kn,ndx,rch,seen⟩;obtain⟨z,hz,rfl⟩:=Ql hj;have hzu:z∈A2 rows here:=by rw[uo];exact Yc hz
      have hle:↑(fs++ex)<=24:=by
       have:=Graph.nodup_le ndx kn;rw[Ya]at this;omega
      refine⟨Z,Z,fa,Z,.inl (SqL.of Nr),Y,JG _,Z,?_⟩;show if(!Bh (.str z) ((fs++ex).map V.str))=true then _ else _
      rw[FD];have sj:∀ y∈r2.2.take (j + 1),y∈r2.2.take j\/y=z:=λy h=>by
       rw[Yq,hz]at h
       rcases Yo.mp h with h | h
       ·exact .inl h
       ·simp at h;exact .inr h
      refine BO (λhn=>?_) (λhn=>?_)
      ·have hn:z∉fs++ex:=λc=>by rw[Jb c]at hn;cases hn
       refine⟨Z,.inl ⟨Y,_,SqL.of Nr⟩,Z,fa,_,Z,Y,Nr,Br 6.1,?_⟩;refine⟨ex++[z],Z,λb o hb e=>by rw[AD hb];exact k6 b o hb e,?_,?_,?_,?_,?_⟩
       ·have e:(fs++(ex++[z])).map V.str=(fs++ex).map V.str++[V.str z]:=by simp
        rw[uS,e]
       ·intro y hy;rw[<- Ms]at hy
        rcases Yo.mp hy with h | h
        ·exact kn y h
        ·rw[Yf.mp h];exact vQ g gu (go.known here hin) hzu
       ·rw[<- Ms];refine List.nodup_append.mpr ⟨ndx,by simp,λa ha b hb e=>?_⟩;rw[Yf.mp hb]at e;rw[e]at ha;exact hn ha
       ·intro y hy;rw[<- Ms]at hy
        rcases Yo.mp hy with h | h
        ·exact rch y h
        ·rw[Yf.mp h];exact(go.reach here hin).snoc hzu
       ·intro y hy;rw[<- Ms]
        rcases sj y hy with h | h
        ·exact Yo.mpr (.inl (seen y h))
        ·rw[h];simp
      ·have hn:z∈fs++ex:=LR λc=>hn (by rw[Jc c];rfl);refine⟨ex,Z,k6,Nr,kn,ndx,rch,λy hy=>?_⟩
       rcases sj y hy with h | h
       ·exact seen y h
       ·rw[h];exact hn
     ·rintro σ H6 ⟨ex,f3,rfl,k6,Nr,kn,ndx,rch,seen⟩;rw[Ya,Yx]at seen;refine⟨Z,_,Z,Y,m - 1,V,fs++ex,k + 1,Z,λb o e=>k6 b o (AI e hfa) (s5 _ _ e),Nr,⟨Yo.mpr (.inl go.start),kn,ndx,rch,?_⟩,by rw[Ym];omega,V⟩;intro y hy z hz;have htk:(fs++ex).take (k + 1)=fs.take k++[here]:=by
       rw[List.take_append_of_le_length 0.0,Yq,hat];rfl
      rw[htk]at hy
      rcases Yo.mp hy with h | h
      ·exact Yo.mpr (.inl (go.closed y h z hz))
      ·rw[Yf.mp h,uo]at hz;exact seen z hz
    ·have hge:↑fs<=k:=by
      have:¬ ((k:Int)<(↑fs:Int)):=λz=>Bb (Jb z);omega
     have eJ:=s5 _ _ NL;have Aq:(Sum.inr r.1:Key)∉Az.map 0.5:=by rw[hA.keys];exact K7 g.nd Ab
     have hil:↑5.0<=24:=by rw[Yy];omega
     have hkl:↑Az=↑5.0:=(Yi hA).symm;refine⟨Z,Z,Z,aa,Z,Cs.k (k:=Sum.inr r.1) eJ (Br 0.0),?_⟩;have lk:∀ b xs,H5 b≈(.lst xs)->(upd H5 aa (.dK (Al Az (Sum.inr r.1) (.ref fa)))) b≈(.lst xs):=λb xs e=>by
      rw[AD (λz=>by rw[z,eJ]at e;cases e)];exact e
     refine⟨_,_,_,_,_,Z,λb o hb e=>by rw[AD hb];exact s5 _ _ (k1 b o hb e),uS,?_⟩;have sn:Fu (upd H5 aa (.dK (Al Az (Sum.inr r.1) (.ref fa)))) rows (rows.take i++[r]) (Az++[(Sum.inr r.1,V.ref fa)]):=Cu ((hA.mono λb xs e=>s5 _ _ e).mono lk) ⟨Y,fa,fs,Y,lk _ _ Pt,go.all hge,go.le⟩;rw[<- Jy _ (FJ Aq)]at sn;rw[Yq,Ab];exact sn
   ·rintro σ H' ⟨Az,a,b,c,e,f',rfl,k1,NL,hA⟩;rw[<- hvl,Yx]at hA;exact⟨Z,q aa Az H' (λb o e=>k1 b o (AI e aaH) (s3 _ _ e)) NL hA⟩
def FW(rows:RS)(n:Nat)(xs:LS):Bool:=decide (↑xs=n)&&xs.all λx=>decide 9.9
structure Xy(rows:RS)(n:Nat)(xs:LS):Prop where
 len:↑xs=n
 known:∀ x∈xs,x∈rows.map 0.5
def Xy.is{rows:RS}{n:Nat}{xs:LS}(h:Xy rows n xs):FW rows n xs=true:=by
 unfold FW;rw[Jb h.len,Du,Cb];exact λx hx=>Jb (h.known x hx)
inductive UK(C:μ)(vs:LV)(H:Hp)(Q:VK)(AO:XK):Prop
 | mk:∀(p t:μ) (n:Nat) (rows:RS) (xs:LS),vs=[.ref p,.int n,.ref t]->Bc C H p rows->As rows->H t≈(.tup 14.1)->↑xs<=1000->(∀ H',AA H H'->Q (.bl (FW rows n xs)) H')->UK C vs H Q AO
def Wm(rows:RS):V->V
 | .str x=>.bl (decide 9.9)
 | _=>.non
def uJ(rows:RS)(xs:LS):(((xs.map V.str).filter λ_=>true).map (Wm rows))=(xs.map λx=>decide 9.9).map V.bl:=by
 rw[Mw.mpr 0.4,Es,Es];rfl
def Ya2:(["word","kinds"]:LS).Nodup:=by rfl'
abbrev HW:LS:=["kinds","places","call"]
def Yel:Am HW HW (AN K6):=by nofun
def jQ(F:Def K mg "is_call" K6 HW f fd)(len:mg "len"=none)(all:mg "all"=none)(TC:ET K C)(MH:Ip K C fH fdH):⋯ 2 f fd HW (UK C):=by
 have GH:⋯ 1 fH fdH ["self","word"] (L8 C):=Qf MH.fn TC
 nomatch F.fn.ok Yel
 ·obtain⟨p,t,n,rows,xs,rfl,_⟩:=h;rfl
 ·obtain⟨p,t,n,rows,xs,rfl,kd,g,ht,hz,q⟩:=h;obtain⟨dx,d,a,o,oa,π,Az,h1,_⟩:=kd.ex;have Ax:AZ 1 _:=hr.mono 0.2
  ac_nf
  refine'⟨_,AF (AW (HG ?ea (JA ?eb))),?_⟩
  case ea=>exact DV BS (A9 C5 0.8 len Yw 2.2) 1.6 (Ad _)
  case eb=>exact A9 (UA rfl) 0.8 all VZ (pC
    (EX ["word"] ["kinds"] [0] (λ_=>B5 (osc:=AN K6) (on:=HW) 1.2 rfl rfl rfl) (JB 4.2) (λC s H fp=>CB (i:=0) Ya2 rfl 1.7 1.4) 2.6
     (λC s H fp=>FE 1.6 TC.cl MH.me GH Ax MH.b .nil Gi 3.5)) AB)
  refine⟨Z,t,Z,.inr (AH.of ht),Z,Y,Z,?_⟩;have e:decide (V.int (↑14.1:Nat)=V.int n)=decide (↑xs=n):=by
   rw[Ya];exact J6.mpr ⟨λz=>by injection z with z;omega,λz=>by rw[z]⟩
  rw[e];refine BO (λh=>?_) (λh=>?_)
  ·refine⟨Z,t,Y,⟨_,AH.of ht⟩,RF (JE (xs:=xs.map V.str)) (sL 6.1) (λ_=>true) (Wm rows) (λD ys hD=>AH.of (by rw[AD (AI ht hD)];exact ht)) ?_ ?_ ?_⟩
   ·intro D ys v R _ _ hR;exact hR
   ·intro D ys v R hD hv _ hR;obtain⟨x,hx,rfl⟩:=Yd.mp hv;have s2:AA H (upd H D (.lst ys)):=AJ hD;exact⟨Z,p,dx,Z,s2 _ _ h1,Qd _ _,Z,p,rows,x,Y,kd.mono s2,g,hR⟩
   ·intro D hD;refine⟨D,Z,SqL.of (by rw[uS,uJ]),?_⟩;have q':=q _ (AJ (o:=.lst (((xs.map V.str).filter λ_=>true).map (Wm rows))) hD);unfold FW at q';rw[h,Du]at q';show Q (.bl ((xs.map λx=>decide 9.9).all id)) _;rw[Mu];exact q'
  ·have q':=q H (AA.refl H);unfold FW at q';rw[show decide (↑xs=n)=false by simpa using h,LK]at q';exact q'
def El(H:Hp)(ds:List (LS))(vs:LV):Prop:=Paired (λ(d:LS) v=>∃ t,v=V.ref t/\H t≈(.tup (d.map V.str))) ds vs
def El.mono{H H':Hp}{ds:List (LS)}{vs:LV}(h:El H ds vs)(s:AA H H'):El H' ds vs:=Paired.mapP h λ_ _ ⟨t,e,x⟩=>⟨t,e,s _ _ x⟩
structure MW(rows:RS)(n:Nat)(ds:List (LS)):Prop where
 call:∀ d∈ds,Xy rows n d
 nd:ds.Nodup
 few:↑ds<=64
def D9(d:LS):List Key:=d.map Sum.inr
def iE(d:LS):(D9 d).map kV=d.map V.str:=by
 unfold D9;rw[Es];rfl
def zI{d e:LS}(h:D9 d=D9 e):d=e:=by
 unfold D9 at h;exact List.map_inj_right (λa b z=>by injection z) |>.mp h
def jX{ds:List (LS)}(nd:ds.Nodup){i:Nat}{d:LS}(h:ds[i]?≈d):D9 d∉(ds.take i).map D9:=by
 intro m;obtain⟨e,he,q⟩:=Yd.mp m;rw[zI q]at he;exact jD nd h he
inductive Y8(K:Fg)(C:μ)(vs:LV)(H:Hp)(Q:VK)(AO:XK):Prop
 | mk:∀(p l:μ) (n:Nat) (b:Bool) (rows:RS) (ds:List (LS)) (us:LV),vs=[.ref p,.int n,.ref l]->Bc C H p rows->As rows->CF K b H l us->El H ds us->MW rows n ds->n<=4->13.2->Y8 K C vs H Q AO
abbrev pR:LS:=["kinds","places","deeds","seen","number","call"]
def VB:Am pR ["kinds","places","deeds"] (AN OZ):=by nofun
def vt(F:Def K mg "check_deeds" OZ ["kinds","places","deeds"] f fd)(DI:Def K mg "is_call" K6 HW fI fdI)(enum:mg "enumerate"=none)(len:mg "len"=none)(all:mg "all"=none)(TC:ET K C)(MH:Ip K C fH fdH):
  ⋯ 3 f fd ["kinds","places","deeds"] (Y8 K C):=by
 have GI:⋯ 2 fI fdI HW (UK C):=jQ DI len all TC MH
 nomatch F.fn.ok VB
 ·obtain⟨p,l,n,b,rows,ds,us,rfl,_⟩:=h;rfl
 ·obtain⟨p,l,n,b,rows,ds,us,rfl,kd,g,hl,hD,gd,hn,q⟩:=h;have nd:=VB.nd;have hu:=Dm hr
  ac_nf
  refine⟨_,pS (sE 3 nd Qt)
   (AF (Be Bs rfl (gF 0.8 enum 2.2) (CO rfl 10.2)
    (pS (AR (Ct (Cg (Ag DI GI hr (pC 0.9 (pC 1.6 (pC 7.5 AB)))))) CA AS)
    (pS (AR (Em (Jp hu 7.5 7.7)) CA AS)
    (AF (FI hu 7.7 7.5 FX rfl)))))),?_⟩
  exists let b:=AE _ a;let c:=AE _ b;let e:=Bq _ _ c;AE _ e _ _ _
  intro d hd;have s0:AA H (upd H d (.dT [])):=AJ hd;have hvl:=↑hD;have few:=gd.few;let Bf:NW:=λi σ H'=>∃(π:List 4.9) (a c:OV),σ=[↥(.ref p),↥(.int n),↥(.ref l),↥(.ref d),a,c]/\AA H H'/\H' d≈(.dT π)/\π.map 0.5=(ds.take i).map D9;refine⟨Z,b,l,us,Y,hl.mono s0,iX Bf
   ⟨[],none,none,Y,s0,uS,by simp⟩ (λi σ H' _ h0=>by obtain⟨_,_,_,_,s,_⟩:=h0;exact hl.mono s) ?_ ?_⟩
  ·rintro i pr t σ H' hi ⟨π,a,c,rfl,s1,hdk,hk⟩ V9;obtain⟨e1,hx⟩:=YC hi;obtain⟨dd,hdd,t2,e2,AU⟩:=BM hD hx;refine k7 ?_;have s2:AA H' (upd H' t (.tup [pr.1,pr.2])):=AJ V9;have Ap:dd∈ds:=Yc hdd;have gc:=gd.call dd Ap;rw[e2];show AE _ _ _ [↥(.ref p),↥(.int n),↥(.ref l),↥(.ref d),↥pr.1,↥(.ref t2)] _;have Aw:=s1.trans s2;refine⟨Z,Z,Z,p,t2,n,rows,dd,Y,kd.mono ?_,g,?_,by have:=gc.len;omega,λH3 s3=>⟨Z,?_⟩⟩
   ·rw[<- e2];exact Aw
   ·rw[<- e2];exact Aw _ _ AU
   rw[gc.is];refine AL ?_;rw[<- e2]at s3;have A_:=Aw.trans s3;have Kl:H3 d≈(.dT π):=s3 _ _ (s2 _ _ hdk);have DY:H3 t2≈(.tup ((D9 dd).map kV)):=by rw[iE];exact A_ _ _ AU
   refine⟨Z,Z,d,Z,BR.t (k:=D9 dd) Kl DY,Z,?_⟩;have Aq:D9 dd∉π.map 0.5:=by rw[hk];exact jX gd.nd hdd
   rw[YZ Aq];refine AL ?_;have hkl:↑π=↑(ds.take i):=by have:=congrArg List.length hk;simpa using this
   have hil:↑(ds.take i)<=64:=by rw[Yy];omega
   refine⟨Z,Z,d,Z,Cs.t (k:=D9 dd) Kl DY (Br 0.0),?_⟩;refine⟨_,_,Z,λb o e=>?_,uS,?_⟩
   ·rw[AD (AI e hd)];exact A_ _ _ e
   ·rw[jR Aq,hk,Yq,hdd,B6];rfl
  ·rintro σ H' ⟨π,a,c,rfl,s1,hdk,hk⟩;exact q H' s1
def z0:¬ (("width":Str)="stands"):=by rfl'
def Hl(k t:μ)(n:Nat):List (Str×V):=BD "stands" (.ref t) (BD "width" (.int n) (BD "book" (.ref k) []))
def yU(k t:μ)(n:Nat):(Hl k t n).lookup ("width":Str)≈(.int n):=by
 unfold Hl;rw[Dg,if_neg z0,Dg,if_pos rfl]
def xx(k t:μ)(n:Nat):(Hl k t n).lookup ("stands":Str)≈(.ref t):=by
 unfold Hl;rw[Dg,if_pos rfl]
def gh(k t:μ)(n:Nat){m:Str}(h1:¬ m="stands")(h2:¬ m="width")(h3:¬ m="book"):(Hl k t n).lookup m=none:=by
 unfold Hl;rw[Dg,if_neg h1,Dg,if_neg h2,Dg,if_neg h3];rfl
def uO(k t:μ)(n:Nat):(Hl k t n).lookup ("places":Str)=none:=gh k t n 1.2 1.2 1.2
def tQ(k t:μ)(n:Nat):(Hl k t n).lookup ("deeds":Str)=none:=gh k t n 1.2 1.2 1.2
structure Fb(C B:μ)(H:Hp)(p k:μ)(rows:RS)(n:Nat)(ds:List (LS)):Prop where
 ex:∃(dx t:μ) (us:LV),H p≈(.ins B dx (Hl k t n))/\Bc C H k rows/\H t≈(.tup us)/\El H ds us
theorem Fb.mono{C B:μ}{H H':Hp}{p k:μ}{rows:RS}{n:Nat}{ds:List (LS)}(h:Fb C B H p k rows n ds)(s:AA H H'):Fb C B H' p k rows n ds:=by
 obtain⟨dx,t,us,h1,h2,h3,h4⟩:=h.ex;exact⟨dx,t,us,s _ _ h1,h2.mono s,s _ _ h3,h4.mono s⟩
structure QE(K:Fg)(B:μ):Prop where
 cl:FL K B
 nB:Eo K B "book"
 nW:Eo K B "width"
 nS:Eo K B "stands"
structure ZU(mg:Str->OU):Prop where
 places:∃ t,mg "MOST_PLACES"≈(.int 4 t)
 deeds:∃ t,mg "MOST_DEEDS"≈(.int 64 t)
 len:mg "len"=none
 all:mg "all"=none
 tuple:mg "tuple"=none
 list:mg "list"=none
 enum:mg "enumerate"=none
inductive Qo(K:Fg)(C B:μ)(vs:LV)(H:Hp)(Q:VK)(AO:XK):Prop
 | mk:∀(p dx k l:μ) (n:Nat) (rows:RS) (ds:List (LS)) (us:LV),vs=[.ref p,.ref k,.int n,.ref l]->H p≈(.ins B dx [])->Bc C H k rows->As rows->(SqL K H l us\/H l≈(.tup us))->El H ds us->MW rows n ds->1<=n->n<=4->(∀ H',Fb C B H' p k rows n ds->(∀ b o,b≠p->H b≈o->H' b≈o)->Q .non H')->Qo K C B vs H Q AO
def UT{C p:μ}{H H':Hp}{k:μ}{rows:RS}{o:HO}(h:Bc C H k rows)(hp:H p≈o)(s:∀ b o,b≠p->H b≈o->H' b≈o)(nk:k≠p)(no:∀ o' u,o≠.frz o' u)(nt:∀ xs,o≠.tup xs):Bc C H' k rows:=by
 obtain⟨dx,d,a,o1,oa,π,Az,h1,h2,h3,h4⟩:=h.ex;have ne:∀ {b o' u},H b≈(.frz o' u)->b≠p:=λ{b o' u} e z=>by rw[z,hp]at e;exact no _ _ (Yt e)
 have net:∀ {b xs},H b≈(.tup xs)->b≠p:=λ{b xs} e z=>by rw[z,hp]at e;exact nt _ (Yt e)
 exact⟨dx,d,a,o1,oa,π,Az,s _ _ nk h1,⟨s _ _ (ne h2.at_) h2.at_,h2.ups.mono λb xs e=>s _ _ (net e) e⟩,s _ _ (ne h3) h3,h4.mono λb o' fk e=>s _ _ (ne e) e⟩
abbrev JP:LS:=["self","kinds","places","deeds"]
def mN:Am JP JP (AN U4):=by nofun
def zY(F:BK K "__init__" "Board.__init__" U4 f fd)(T:ZU mg)(TB:QE K B)(TC:ET K C)(DD:Def K mg "check_deeds" OZ ["kinds","places","deeds"] fD fdD)(DI:Def K mg "is_call" K6 HW fI fdI)(MH:Ip K C fH fdH)(hBC:B≠C):
  ⋯ 4 f fd JP (Qo K C B):=by
 have GD:⋯ 3 fD fdD ["kinds","places","deeds"] (Y8 K C):=vt DD DI T.enum T.len T.all TC MH
 nomatch F.ok mN
 ·obtain⟨p,dx,k,l,n,rows,ds,us,rfl,_⟩:=h;rfl
 ·obtain⟨p,dx,k,l,n,rows,ds,us,rfl,hp,kd,g,hl,hD,gd,n1,n4,q⟩:=h;obtain⟨b,hl,Py⟩:∃ b,CF K b H l us/\(b=false->H l≈(.tup us)):=by
   rcases hl with hl | hl
   ·exact⟨true,hl,λz=>by cases z⟩
   ·exact⟨false,AH.of hl,λ_=>hl⟩
  obtain⟨t1,hP⟩:=T.places;obtain⟨t2,hM⟩:=T.deeds;have GQ:AZ 3 _:=hr.mono 0.2
  ac_nf
  refine⟨_,pS (AR (Ct (Qv Iz Iz AG 4.2 (EB (v:=.int 4) 0.8 hP ⟨Z⟩))) CA AS)
   (pS (AR (Ae FC (A9 EC 0.8 T.len Yw 3.3) (EB (v:=.int 64) 0.8 hM ⟨Z⟩) (Ad _)) CA AS)
   (pS (Bj (Ag DD GD GQ (pC 1.6 (pC 4.2 3.3))))
   (pS (Fy 0.9 1.6 rfl) (pS (Fy 0.9 4.2 rfl)
   (AF (Fy 0.9 (EE OY 0.8 T.tuple Mr 3.3) rfl)))))),?_⟩
  exists let b:=AE _ a;let c:=AE _ b;let e:=AE _ c;let f:=AE _ e;AE _ f _ _ _
  refine⟨Z,_,Z,Y,Z,?_⟩;rw[show decide ((1:Int)<=(n:Int))=true from Jb 0.0];refine AY ⟨_,Z,Y,Z,?_⟩;rw[show(decide ((n:Int)<=4))=true from Jb 0.0];refine AL ?_;have hul:=↑hD;have few:=gd.few;refine⟨Z,_,Z,Jt hl,_,Z,Y,Z,?_⟩;rw[show decide ((64:Int)<(↑us:Int))=false from Jc 0.0];refine AL ?_;refine⟨Z,Z,Z,p |> λ_=>k,l,n,b,rows,ds,us,Y,kd,g,hl,hD,gd,n4,λH1 s1=>?_⟩;have Nj:=s1 _ _ hp;have S6:=kd.mono s1;have nkp:k≠p:=by
   intro z;obtain⟨FT,d,a,o,oa,π,Az,h1,_⟩:=kd.ex;rw[z,hp]at h1;injection h1 with h1;injection h1 with h1;exact hBC h1
  refine⟨Z,Z,p,B,dx,[],Y,Nj,TB.cl,TB.nB,(by show 0<1000;decide),?_⟩;refine⟨Z,Z,p,B,dx,Z,uS,TB.cl,TB.nW,(by show 1<1000;decide),?_⟩;rw[OF];have kp:∀ {fs:List (Str×V)} (b:μ) (o:HO),b≠p->H b≈o->(upd H1 p (.ins B dx fs)) b≈o:=λb o hb e=>by rw[AD hb];exact s1 _ _ e
  have hlp:∀ {fs:List (Str×V)},CF K b (upd H1 p (.ins B dx fs)) l us:=λ{fs}=>by
   have A6:=hl.mono s1;cases b with
   | true =>
    rcases(show SqL K H1 l us from A6)with(e | ⟨o,e⟩) | e
    ·exact .inl (.inl (by rw[AD (λz=>by rw[z,Nj]at e;cases e)];exact e))
    ·exact .inl (.inr ⟨o,by rw[AD (λz=>by rw[z,Nj]at e;cases e)];exact e⟩)
    ·exact .inr e
   | false =>
    rcases(show AH K H1 l us from A6)with(e | ⟨o,e⟩) | e
    ·exact .inl (.inl (by rw[AD (λz=>by rw[z,Nj]at e;cases e)];exact e))
    ·exact .inl (.inr ⟨o,by rw[AD (λz=>by rw[z,Nj]at e;cases e)];exact e⟩)
    ·exact .inr e
  have fin:∀(t:μ) (H2:Hp),AA (upd H1 p (.ins B dx (BD "width" (.int n) (BD "book" (.ref k) [])))) H2->H2 t≈(.tup us)->Q .non (upd H2 p (.ins B dx (Hl k t n))):=λt H2 s2 ht=>by
   have FP:H2 p≈(.ins B dx (BD "width" (.int n) (BD "book" (.ref k) []))):=s2 _ _ uS;have k2:∀ b o,b≠p->H b≈o->(upd H2 p (.ins B dx (Hl k t n))) b≈o:=λb o hb e=>by rw[AD hb];exact s2 _ _ (kp b o hb e)
   refine q _ ⟨dx,t,us,uS,UT kd hp k2 nkp (λ_ _ z=>by cases z) (λ_ z=>by cases z),by rw[AD (λz=>by rw[z,FP]at ht;cases ht)];exact ht,Paired.mapP hD λd v ⟨t',e,x⟩=>⟨t',e,k2 _ _ (λz=>by rw[z,hp]at x;cases x) x⟩⟩ k2
  refine⟨Z,l,us,Y,?_⟩;have no:=hlp (fs:=BD "width" (.int n) (BD "book" (.ref k) []));have wd:(BD "width" (V.int n) (BD "book" (V.ref k) [])).length<1000:=by show 2<1000;decide
  cases b with
  | true =>
   refine .inl ⟨no,λt ht=>⟨Z,p,B,dx,Z,(AJ ht) _ _ uS,TB.cl,TB.nS,wd,fin t _ (AJ ht) uS⟩⟩
  | false =>
   have e:(upd H1 p (.ins B dx (BD "width" (.int n) (BD "book" (.ref k) [])))) l≈(.tup us):=by
    have e0:=s1 _ _ (Py rfl);rw[AD (λz=>by rw[z,Nj]at e0;cases e0)];exact e0
   exact .inr ⟨no,Z,p,B,dx,Z,uS,TB.cl,TB.nS,wd,fin l _ (AA.refl _) e⟩
inductive YM(C B:μ)(vs:LV)(H:Hp)(Q:VK)(AO:XK):Prop
 | mk:∀(p k:μ) (rows:RS) (n:Nat) (ds:List (LS)),vs=[.ref p]->Fb C B H p k rows n ds->Q (.int n) H->YM C B vs H Q AO
inductive X6(C B:μ)(vs:LV)(H:Hp)(Q:VK)(AO:XK):Prop
 | mk:∀(p k:μ) (rows:RS) (n:Nat) (ds:List (LS)),vs=[.ref p]->Fb C B H p k rows n ds->(∀ l us,H l=none->El H ds us->Q (.ref l) (upd H l (.lst us)))->X6 C B vs H Q AO
def Yep:Am ["self"] ["self"] (AN Ux):=by nofun
def uP(F:BK K "places" "Board.places" Ux f fd)(TB:QE K B):⋯ 1 f fd ["self"] (YM C B):=by
 nomatch F.ok Yep
 ·obtain⟨p,k,rows,n,ds,rfl,_⟩:=h;rfl
 ·obtain⟨p,k,rows,n,ds,rfl,⟨dx,t,us,h1,h2,h3,h4⟩,q⟩:=h;exact⟨_,AF (AW 7.0),_,rfl,p,B,dx,_,_,rfl,h1,TB.cl,TB.nW,yU _ _ _,q⟩
def Yeq:Am ["self"] ["self"] (AN U0):=by nofun
def tU(F:BK K "deeds" "Board.deeds" U0 f fd)(TB:QE K B)(list:mg "list"=none):⋯ 1 f fd ["self"] (X6 C B):=by
 nomatch F.ok Yeq
 ·obtain⟨p,k,rows,n,ds,rfl,_⟩:=h;rfl
 ·obtain⟨p,k,rows,n,ds,rfl,⟨dx,t,us,h1,h2,h3,h4⟩,q⟩:=h;exact⟨_,AF (AW (EE Uv 0.8 list LP (pC 7.0 AB))),_,rfl,p,B,dx,_,_,rfl,h1,TB.cl,TB.nS,xx _ _ _,t,us,rfl,.inr (AH.of h3),λl hl=>q l us hl h4⟩
abbrev y_(K:Fg)(B f:μ)(fd:FuncData):Prop:=E7 K B "places" "Board.places" Ux ["self"] f fd
abbrev xa(K:Fg)(B f:μ)(fd:FuncData):Prop:=E7 K B "deeds" "Board.deeds" U0 ["self"] f fd
theorem Drawn.tup{p:μ}{H H':Hp}(d:Drawn p H H'){o:HO}(h:H p≈o)(ho:Hh o){t:μ}{xs:LV}(e:H t≈(.tup xs)):H' t≈(.tup xs):=
 d.keep _ _ (λz=>by rw[z,h]at e;obtain⟨_,_,q,_⟩:=ho;rw[q]at e;cases e) e
def LA{H H':Hp}{l:μ}{rows:RS}(h:Ep H l rows)(s:AA H H'):Ep H' l rows:=by
 obtain⟨vs,a,p⟩:=h;exact⟨vs,s _ _ a,Paired.mapP p λr v ⟨t,u,e,h1,h2⟩=>⟨t,u,e,s _ _ h1,s _ _ h2⟩⟩
def uC{ws:LS}{v:Int}(h0:0<=v)(h1:v<↑1.8):∃ x∈ws,Cr 1.8 v≈(.str x):=by
 have hl:v.toNat<↑ws:=by rw[Ya]at h1;omega
 refine⟨ws[v.toNat],List.getElem_mem hl,?_⟩;have e:((v.toNat:Nat):Int)=v:=by omega
 have q:Cr 1.8 ((v.toNat:Nat):Int)≈(.str ws[v.toNat]):=by
  refine EA ?_;rw[Yn,Yu 0.0];rfl
 rw[e]at q;exact q
abbrev Dt:=PySem.W.Dat
def Ef(d:LS):Dt:=.tuple (d.map PySem.W.Dat.str)
def zH{d e:LS}(h:Ef d=Ef e):d=e:=by
 unfold Ef at h;injection h with h;exact List.map_inj_right (λa b z=>by injection z) |>.mp h
def Xx{K:Fg}{H:Hp}{t:μ}{d:LS}(h:H t≈(.tup (d.map V.str))):Rep K H (.ref t) (Ef d):=.tuple (AH.of h) (Gm d)
theorem jS{K:Fg}{H:Hp}:∀ {ds:List (LS)}{vs:LV},El H ds vs->BH K H vs (ds.map Ef)
 | _,_,.nil=>.nil
 | _,_,.cons ⟨t,e,h⟩ r=>by rw[e];exact .cons (Xx h) (jS r)
def US{rows:RS}(g:As rows):∀ x∈rows.map 0.5,AM x=true:=λx hx=>by
 obtain⟨r,hr,e⟩:=Yd.mp hx;rw[<- e];exact g.word r hr
def QT(n:Nat){x:Str}(h:AM x=true):W.kqdOk n (.str x)=true:=by
 have q:=Qe (ws:=[x]) (λy hy=>by rw[Yf.mp hy];exact h);rw[W.kqdOk]at q;have q2:W.kqdOk 8 (.str x)=true:=by simpa using q
 rw[W.kqdOk]at q2;rw[W.kqdOk];exact q2
def yL(n:Nat){d:LS}(h:∀ x∈d,AM x=true):W.kqdOk (n + 1) (Ef d)=true:=by
 unfold Ef;rw[W.kqdOk,Cb];intro z hz;obtain⟨x,hx,rfl⟩:=Yd.mp hz;exact QT n (h x hx)
def zB(ds:List (LS))(d:LS):((ds.map Ef).any λe=>ES e (Ef d))=decide (d∈ds):=by
 by_cases h:d∈ds
 ·rw[Jb h,IE];exact⟨Ef d,Yd.mpr ⟨d,h,Y⟩,HI _⟩
 ·rw[Jc h,List.any_eq_false];intro z hz;obtain⟨e,he,rfl⟩:=Yd.mp hz;rw[MO λq=>h (by rw[<- zH q];exact he)];exact Yl
structure zx(mg:Str->OU):Prop where
 len:mg "len"=none
 range:mg "range"=none
 tuple:mg "tuple"=none
def zM{K:Fg}{C B:μ}{Hx:Hp}{xb yb dy lz:μ}{n:Nat}{rows:RS}{ds:List (LS)}{us:LV}{R:Hp->Prop}{E:XK}(ny:Hx yb=none)(ndy:Hx dy=none)(kd:Bc C Hx xb rows)(g:As rows)(hz:Hx lz≈(.lst us)\/Hx lz≈(.tup us))(hD:El Hx ds us)(gd:MW rows n ds)(n1:1<=n)(n4:n<=4)(h:∀ H',AA Hx H'->Fb C B H' yb xb rows n ds->R H'):
  Qo K C B [.ref yb,.ref xb,.int n,.ref lz] 4.7 (λv H3=>v=.non/\R H3) E:=by
 have Af:AA Hx 4.7:=λb o e=>by
  have e1:(upd Hx dy (.own yb)) b≈o:=by rw[AD (AI e ndy)];exact e
  rw[AD (AI e ny)];exact e1
 exact⟨yb,dy,xb,lz,n,rows,ds,us,Y,uS,kd.mono Af,g,hz.elim (λe=>.inl (SqL.of (Af _ _ e))) (λe=>.inr (Af _ _ e)),hD.mono Af,gd,n1,n4,λH5 bd Ia=>⟨Y,h H5 (λb o e=>Ia b o (AI e ny) (Af _ _ e)) bd⟩⟩
abbrev AX:=Str×Nat×List (LS×Str)
def Ve(H:Hp)(p:LS×Str)(v:V):Prop:=∃ t tc:μ,v=V.ref t/\H t≈(.tup [.ref tc,.str p.2])/\H tc≈(.tup (p.1.map V.str))
def C1(H:Hp)(ps:List (LS×Str))(vs:LV):Prop:=Paired (Ve H) ps vs
def C1.mono{H H':Hp}{ps:List (LS×Str)}{vs:LV}(h:C1 H ps vs)(k:∀ b xs,H b≈(.tup xs)->H' b≈(.tup xs)):C1 H' ps vs:=Paired.mapP h λ_ _ ⟨t,tc,e,h1,h2⟩=>⟨t,tc,e,k _ _ h1,k _ _ h2⟩
def Bx{H H':Hp}(s:AA H H'):∀ b xs,H b≈(.tup xs)->H' b≈(.tup xs):=λ_ _ e=>s _ _ e
def QC(K:Fg)(H:Hp)(n:AX)(v:V):Prop:=∃(t tp:μ) (b:Bool) (vs:LV),v=V.ref t/\H t≈(.tup [.str n.1,.int n.2.1,.ref tp])/\CF K b H tp vs/\C1 H n.2.2 vs
theorem QC.mono{K:Fg}{H H':Hp}{n:AX}{v:V}(h:QC K H n v)(s:AA H H'):QC K H' n v:=by
 obtain⟨t,tp,b,vs,e,h1,h2,h3⟩:=h;exact⟨t,tp,b,vs,e,s _ _ h1,h2.mono s,h3.mono (Bx s)⟩
structure UP(rows:RS)(n:AX):Prop where
 word:AM n.1=true
 one:1<=n.2.1
 four:n.2.1<=4
 deeds:MW rows n.2.1 (n.2.2.map 0.5)
 made:∀ p∈n.2.2,p.2∈rows.map 0.5
structure C6(rows:RS)(ns:List AX):Prop where
 few:↑ns<=8
 each:∀ n∈ns,UP rows n
 nd:(ns.map 0.5).Nodup
def Ye3:¬ (("book":Str)="made_of"):=by rfl'
def Ye2:¬ (("book":Str)="board_of"):=by rfl'
def Ye1:¬ (("board_of":Str)="made_of"):=by rfl'
def Ft(k bo mo:μ):List (Str×V):=BD "made_of" (.ref mo) (BD "board_of" (.ref bo) (BD "book" (.ref k) []))
def yV(k bo mo:μ):(Ft k bo mo).lookup ("book":Str)≈(.ref k):=by
 unfold Ft;rw[Dg,if_neg Ye3,Dg,if_neg Ye2,Dg,if_pos rfl]
def XC(k bo mo:μ):(Ft k bo mo).lookup ("board_of":Str)≈(.ref bo):=by
 unfold Ft;rw[Dg,if_neg Ye1,Dg,if_pos rfl]
def yW(k bo mo:μ):(Ft k bo mo).lookup ("made_of":Str)≈(.ref mo):=by
 unfold Ft;rw[Dg,if_pos rfl]
def Xo(k bo mo:μ){m:Str}(h1:¬ m="made_of")(h2:¬ m="board_of")(h3:¬ m="book"):(Ft k bo mo).lookup m=none:=by
 unfold Ft;rw[Dg,if_neg h1,Dg,if_neg h2,Dg,if_neg h3];rfl
def C3(R:AX->V->Prop)(ns:List AX)(π:KL):Prop:=Paired (λ(n:AX) (p:Key×V)=>p.1=Sum.inr n.1/\R n p.2) ns π
def C3.imp{R S:AX->V->Prop}{ns:List AX}{π:KL}(h:C3 R ns π)(f:∀ n v,R n v->S n v):C3 S ns π:=Paired.mapP h λ_ _ z=>⟨z.1,f _ _ z.2⟩
theorem C3.keys{R:AX->V->Prop}:∀ {ns:List AX}{π:KL},C3 R ns π->π.map 0.5=ns.map λn=>(Sum.inr n.1:Key)
 | _,_,.nil=>rfl
 | _,_,.cons r t=>by rw[Yr,Yr,r.1,C3.keys t]
theorem C3.val{R:AX->V->Prop}:∀ {ns:List AX}{π:KL},C3 R ns π->(ns.map 0.5).Nodup->∀ {n:AX},n∈ns->∃ v,BG π (Sum.inr n.1)≈v/\R n v
 | _,_,.nil,_,n,h=>nomatch h
 | q :: rs,p :: ps,.cons z t,nd,n,h=>by
  have Lh:(q.1 :: rs.map 0.5).Nodup:=nd;obtain⟨n1,n2⟩:=ID.mp Lh;obtain⟨z1,z2⟩:=z
  rcases Yv.mp h with e | h
  ·subst e;exact⟨p.2,by rw[F3 z1],z2⟩
  ·have ne:¬ p.1=(Sum.inr n.1:Key):=λe=>n1 (by
    rw[z1]at e;have e':q.1=n.1:=by injection e
    rw[e'];exact Yd.mpr ⟨n,h,Y⟩)
   obtain⟨v,h1,h2⟩:=C3.val t n2 h;exact⟨v,by rw[F2 ne];exact h1,h2⟩
def C3.not{R:AX->V->Prop}{ns:List AX}{π:KL}(h:C3 R ns π){x:Str}(hx:x∉ns.map 0.5):BG π (Sum.inr x)=none:=FJ λz=>hx (by
 rw[h.keys]at z;obtain⟨n,hn,e⟩:=Yd.mp z;have e':n.1=x:=by injection e
 exact Yd.mpr ⟨n,hn,e'⟩)
def C3.some{R:AX->V->Prop}{ns:List AX}{π:KL}(h:C3 R ns π){x:Str}(hx:x∈ns.map 0.5):(BG π (Sum.inr x)).isSome=true:=Ul (by
 rw[h.keys];obtain⟨n,hn,e⟩:=Yd.mp hx;exact Yd.mpr ⟨n,hn,by rw[e]⟩)
inductive KI(C B:μ)(H:Hp)(k:μ)(rows:RS)(n:AX)(v:V):Prop
 | mk:∀ y,v=.ref y->Fb C B H y k rows n.2.1 (n.2.2.map 0.5)->KI C B H k rows n v
inductive KC(Z:μ->Prop)(H:Hp)(n:AX)(v:V):Prop
 | mk:∀ l,v=.ref l->H l≈(.lst ((n.2.2.map (·.2)).map V.str))->¬ Z l->KC Z H n v
structure B_(Z:μ->Prop)(C B D:μ)(H:Hp)(p k:μ)(rows:RS)(ns:List AX):Prop where
 ex:∃(dx bo mo:μ) (o:Obj) (Ay A8:KL),H p≈(.ins D dx (Ft k bo mo))/\Bc C H k rows/\H bo≈(.frz o (.dK Ay))/\C3 (KI C B H k rows) ns Ay/\H mo≈(.dK A8)/\C3 (KC Z H) ns A8
abbrev Hw:=B_ λ_=>False
def B_.at_{Z:μ->Prop}{C B D:μ}{H:Hp}{p k:μ}{rows:RS}{ns:List AX}(h:B_ Z C B D H p k rows ns):Hw C B D H p k rows ns:=by
 obtain⟨dx,bo,mo,o,Ay,A8,h1,h2,h3,h4,h5,h6⟩:=h.ex;exact⟨dx,bo,mo,o,Ay,A8,h1,h2,h3,h4,h5,h6.imp λn v ⟨l,e,b,_⟩=>⟨l,e,b,id⟩⟩
theorem B_.mono{Z:μ->Prop}{C B D:μ}{H H':Hp}{p k:μ}{rows:RS}{ns:List AX}(h:B_ Z C B D H p k rows ns)(s:AA H H'):B_ Z C B D H' p k rows ns:=by
 obtain⟨dx,bo,mo,o,Ay,A8,h1,h2,h3,h4,h5,h6⟩:=h.ex;exact⟨dx,bo,mo,o,Ay,A8,s _ _ h1,h2.mono s,s _ _ h3,h4.imp λn v ⟨y,e,b⟩=>⟨y,e,b.mono s⟩,s _ _ h5,h6.imp λn v ⟨l,e,b,z⟩=>⟨l,e,s _ _ b,z⟩⟩
def uA{C B:μ}{H H':Hp}{p k q:μ}{o:HO}{rows:RS}{n:Nat}{ds:List (LS)}(h:Fb C B H p k rows n ds)(hq:H q≈o)(no:∀ o' u,o≠.frz o' u)(nt:∀ xs,o≠.tup xs)(ni:∀ c d f,o≠.ins c d f)(s:∀ b o,b≠q->H b≈o->H' b≈o):Fb C B H' p k rows n ds:=by
 obtain⟨dx,t,us,h1,h2,h3,h4⟩:=h.ex;have ne:∀ {b u},H b≈u->o≠u->b≠q:=λ{b u} e n z=>by rw[z,hq]at e;exact n (Yt e)
 have nk:k≠q:=by
  obtain⟨_,_,_,_,_,_,_,e,_⟩:=h2.ex;exact ne e (ni _ _ _)
 exact⟨dx,t,us,s _ _ (ne h1 (ni _ _ _)) h1,UT h2 hq s nk no nt,s _ _ (ne h3 (nt _)) h3,Paired.mapP h4 λ_ _ ⟨t',e,x⟩=>⟨t',e,s _ _ (ne x (nt _)) x⟩⟩
def He(H:Hp):V->V
 | .ref t=>match H t with
  | some (.tup [x,_])=>x
  | _=>.non
 | _=>.non
def Dx(H:Hp):V->V
 | .ref t=>match H t with
  | some (.tup [_,x])=>x
  | _=>.non
 | _=>.non
def Th{H:Hp}{t:μ}{x y:V}(h:H t≈(.tup [x,y])):He H (.ref t)=x:=by show(match H t with | some (.tup [x,_])=>x | _=>.non)=x;rw[h]
def ML{H:Hp}{t:μ}{x y:V}(h:H t≈(.tup [x,y])):Dx H (.ref t)=y:=by show(match H t with | some (.tup [_,x])=>x | _=>.non)=y;rw[h]
def tN{H:Hp}{p:LS×Str}{v:V}(h:Ve H p v):∃ tc,He H v=.ref tc/\H tc≈(.tup (p.1.map V.str)):=by
 obtain⟨t,tc,rfl,h1,h2⟩:=h;exact⟨tc,Th h1,h2⟩
def iz{H:Hp}{p:LS×Str}{v:V}(h:Ve H p v):Dx H v=.str p.2:=by
 obtain⟨t,tc,rfl,h1,h2⟩:=h;exact ML h1
theorem YH{H:Hp}:∀ {ps:List (LS×Str)}{vs:LV},C1 H ps vs->El H (ps.map 0.5) (vs.map (He H))
 | _,_,.nil=>.nil
 | _,_,.cons h t=>by
  obtain⟨tc,e,h2⟩:=tN h;exact .cons ⟨tc,e,h2⟩ (YH t)
theorem YI{H:Hp}:∀ {ps:List (LS×Str)}{vs:LV},C1 H ps vs->vs.map (Dx H)=(ps.map (·.2)).map V.str
 | _,_,.nil=>rfl
 | _,_,.cons h t=>by rw[Yr,Yr,Yr,iz h,YI t]
def UR{K:Fg}{J:It}{vs:LV}{Ok:Hp->Prop}(R:E_ J vs Ok)(i:Nat)(f:V->V){σ:St}{Q:VK}{H1:Hp}{ps:List (LS×Str)}(hz:↑vs<=1000)(hp:C1 H1 ps vs)(hf:∀ v,[↥(He H1 v),↥(Dx H1 v)][i]?≈(↥(f v)))(hok:∀ H,AA H1 H->Ok H)
  (hd:∀ D H',H1 D=none->AA H1 H'->H' D≈(.lst (vs.map f))->Q (.ref D) H'):Ai 2 [] (g2 K 0 1) QM (Of i) σ Q J H1:=by
 refine iT R (sL 0.0) (λ_=>true) (λ_ x v _=>v=f x) (He H1) (Dx H1) (λ_ _ _ _ _ _ z=>z) hok (λx hx=>?_) ?_ ?_ ?_
 ·obtain⟨j,hj⟩:=HR hx;obtain⟨p,_,t,tc,rfl,h1,_⟩:=BM hp hj;exact⟨t,Y,by rw[Th h1,ML h1];exact h1⟩
 ·intro x H' R' _ _ WO;exact WO H' (AA.refl _)
 ·intro D x H' R' _ _ _ _ _ WO;exact⟨f x,hf x,WO _ H' (AA.refl _) rfl⟩
 ·intro D H' ys hD s hl hq;rw[Mw.mpr 0.4]at hq;rw[RL hq]at hl;exact hd D H' hD s hl
inductive Uu(C:μ)(vs:LV)(H:Hp)(Q:VK)(AO:XK):Prop
 | mk:∀(p l:μ) (rows:RS) (xs:LS),vs=[.ref p,.ref l]->Bc C H p rows->As rows->H l≈(.lst 14.1)->(∀ x∈xs,x∈rows.map 0.5)->Q .non H->Uu C vs H Q AO
def eO(K:Fg)(H:Hp)(l:μ)(ns:List AX):Prop:=∃(b:Bool) (vs:LV),CF K b H l vs/\Paired (QC K H) ns vs
inductive Qk(K:Fg)(C B D:μ)(vs:LV)(H:Hp)(Q:VK)(AO:XK):Prop
 | mk:∀(p dx k l:μ) (rows:RS) (ns:List AX),vs=[.ref p,.ref k,.ref l]->H p≈(.ins D dx [])->Bc C H k rows->As rows->eO K H l ns->C6 rows ns->(∀ H',B_ 10.3 C B D H' p k rows ns->(∀ b o,b≠p->H b≈o->H' b≈o)->Q .non H')->Qk K C B D vs H Q AO
structure Jn(K:Fg)(D:μ):Prop where
 cl:FL K D
 nB:Eo K D "book"
 nO:Eo K D "board_of"
 nM:Eo K D "made_of"
def VI:(["call","made"]:LS).Nodup:=by rfl'
abbrev pQ:LS:=["kinds","makes","made"]
def VC:Am pQ ["kinds","makes"] (AN Oa):=by nofun
def jE(F:Def K mg "check_makes" Oa ["kinds","makes"] f fd)(TC:ET K C)(MH:Ip K C fH fdH):⋯ 2 f fd ["kinds","makes"] (Uu C):=by
 have GH:⋯ 1 fH fdH ["self","word"] (L8 C):=Qf MH.fn TC
 nomatch F.fn.ok VC
 ·obtain⟨p,l,rows,xs,rfl,_⟩:=h;rfl
 ·obtain⟨p,l,rows,xs,rfl,kd,g,hl,kn,q⟩:=h;have nd:=VC.nd;have Ax:AZ 1 _:=hr.mono 0.2;obtain⟨dx,d,a,o,oa,π,Az,h1,_⟩:=kd.ex
  ac_nf
  refine⟨_,(AF (Be Bs rfl (Ci 1.6) (gE 2 nd) (AF (AR (Ct (Cg (FE 0.9 TC.cl MH.me GH Ax MH.b .nil Gi 2.2))) CA AS)))),?_⟩
  exists Bq _ _ a _ _ _
  let Bf:NW:=λi σ H'=>∃ x,σ=[↥(.ref p),↥(.ref l),x]/\H'=H;refine⟨Z,l,Y,⟨_,SqL.of hl⟩,B1 (Ck (xs:=xs.map V.str)) Bf ⟨none,Y,Y⟩ (λi σ H' _ ⟨_,_,e⟩=>by rw[e];exact SqL.of hl) ?_ ?_⟩
  ·rintro i v σ H' hi ⟨x,rfl,e⟩;have e2:=e.symm;subst e2;rw[Yn]at hi;cases hx:xs[i]? with
   | none=>rw[hx]at hi;cases hi
   | some y =>
    rw[hx]at hi;cases hi;refine⟨Z,p,dx,Z,h1,Qd _ _,Z,p,rows,y,Y,kd,g,?_⟩;rw[Jb (kn y (Yc hx))];exact⟨Z,AL ⟨Z,Y⟩⟩
  ·rintro σ H' ⟨x,rfl,e⟩;rw[e];exact q
def y7{x:Str}(h:AM x=true):↑x<=1000:=by have:=DS h;omega
def zT{π:KL}:∀(o':Obj) (u:HO),HO.dK π≠.frz o' u:=λ_ _ z=>by cases z
def zV{π:KL}:∀ xs:LV,HO.dK π≠.tup xs:=λ_ z=>by cases z
def zU{π:KL}:∀(c d:μ) (f:List (Str×V)),HO.dK π≠.ins c d f:=λ_ _ _ z=>by cases z
def T_{C B:μ}{H:Hp}{q k:μ}{π:KL}{o:HO}{rows:RS}{n:AX}{v:V}(h:KI C B H k rows n v)(hq:H q≈(.dK π)):KI C B (upd H q o) k rows n v:=by
 obtain⟨y,e,b⟩:=h;exact⟨y,e,uA b hq zT zV zU λb o hb e=>by rw[AD hb];exact e⟩
def UE{Z:μ->Prop}{H:Hp}{q:μ}{π:KL}{o:HO}{n:AX}{v:V}(h:KC Z H n v)(hq:H q≈(.dK π)):KC Z (upd H q o) n v:=by
 obtain⟨l,e,b,z⟩:=h;exact⟨l,e,by rw[AD (λz=>by rw[z,hq]at b;cases b)];exact b,z⟩
def W7{C B:μ}{H H':Hp}{k:μ}{rows:RS}{n:AX}{v:V}(h:KI C B H k rows n v)(s:AA H H'):KI C B H' k rows n v:=let⟨y,e,b⟩:=h;⟨y,e,b.mono s⟩
def XF{Z:μ->Prop}{H H':Hp}{n:AX}{v:V}(h:KC Z H n v)(s:AA H H'):KC Z H' n v:=let⟨l,e,b,z⟩:=h;⟨l,e,s _ _ b,z⟩
def ja{R:AX->V->Prop}{ns:List AX}{π:KL}{n:AX}{v:V}(h:C3 R ns π)(hn:n.1∉ns.map 0.5)(hv:R n v):C3 R (ns++[n]) (Al π (Sum.inr n.1) v):=by
 rw[Jy _ (h.not hn)];exact Cu h ⟨Y,hv⟩
abbrev Pe:LS:=["self","kinds","names","board_of","made_of","word","places","deeds"]
abbrev Ic:LS:=["self","kinds","names"]
def VF:Am Pe Ic (AN LC):=by nofun
def rX(F:BK K "__init__" "Book.__init__" LC f fd)(T:HC mg)(most:∃ t,mg "MOST_NAMES"≈(.int 8 t))(TD:Jn K D)(hDC:D≠C)(hDB:D≠B)
  (DW:Def K mg "is_word" HM ["text"] fW fdW) (MB:Mk K B fBI) (mgB:mg "Board"≈(.ref B)) (bB:Bw K fdBI JP []) (GB:⋯ 4 fBI fdBI JP (Qo K C B))
  (DM:Def K mg "check_makes" Oa ["kinds","makes"] fM fdM) (GM:⋯ 2 fM fdM ["kinds","makes"] (Uu C)):
  ⋯ 6 f fd Ic (Qk K C B D):=by
 have GW:⋯ 1 fW fdW ["text"] JF:=RI DW T
 nomatch F.ok VF
 ·obtain⟨p,dx,k,l,rows,ns,rfl,_⟩:=h;rfl
 ·obtain⟨p,dx,k,l,rows,ns,rfl,hp,kd,g,⟨b,vs,hl,hN⟩,gn,q⟩:=h;have nd:=VF.nd;have hu:=Dm hr;have Ax:AZ 1 _:=hr.mono 0.2;have A7:AZ 2 _:=hr.mono 0.2;obtain⟨t1,Nv⟩:=most;have hvl:=↑hN;have few:=gn.few
  ac_nf
  refine'⟨_,(pS (AR (Ae FC (A9 EC 0.8 T.len Yw 2.2) (EB (v:=.int 8) 0.8 Nv ⟨Z⟩) (Ad _)) CA AS)
   (pS (sE 3 nd Gn)
   (pS (sE 4 nd Gn)
   (pS (Be Bs rfl (Fw 4.2) (CO rfl (gC (gE 5 nd) (gC (gE 6 nd) (gC (gE 7 nd) CQ))))
    (pS (AR (Ct (Cg (Ag DW GW Ax (pC 7.5 AB)))) CA AS)
   (pS (AR (Em (Jp hu 7.5 7.7)) CA AS)
   (pS (FI hu 7.7 7.5 (JD MB GB hr rfl mgB bB .nil Gi (pC 1.6 (pC (pv 6) (pC ?eC AB)))) rfl)
   (pS (FI hu (pv 4) 7.5 ?eM rfl)
   (AF (Bj (Ag DM GM A7 (pC 1.6 (pC (Ju hu (pv 4) 7.5 0.4) AB))))))))))
   (Qm (pS (Fy 0.9 1.6 rfl)
   (pS (Fy 0.9 7.7 rfl)
   (AF (Fy 0.9 (pv 4) rfl))))))))),?_⟩
  case eC=>exact EX ["call","made"] [] [] 8.1 (Fw (pv 7)) 4.8 2.6 (λC s H fp=>pv 0)
  case eM=>exact EX ["call","made"] [] [] 8.1 (Fw (pv 7)) 4.8 2.6 (λC s H fp=>pv 1)
  exists let b:=_;let c:=AE _ b;let e:=AE _ c;let f:=AE _ e;let g:=AE _ f;let h:=AE (Bq _ _ g) a;let i:=AE _ h;let j:=AE _ i;AE _ j _ _ _
  refine⟨Z,_,Z,Jt hl,_,Z,Y,Z,?_⟩;rw[show decide ((8:Int)<(↑vs:Int))=false from Jc 0.0];refine AL ?_;intro bo hbo;have s1:AA H (upd H bo (.dK [])):=AJ hbo;intro mo hmo;have s2:AA (upd H bo (.dK [])) (upd (upd H bo (.dK [])) mo (.dK [])):=AJ hmo;have hmoH:H mo=none:=s1.free hmo;have bm:bo≠mo:=λz=>by rw[<- z,uS]at hmo;cases hmo
  let Bf:NW:=λi σ H'=>∃(Ay A8:KL) (x y z:OV),σ=[↥(.ref p),↥(.ref k),↥(.ref l),↥(.ref bo),↥(.ref mo),x,y,z]/\AA H H'/\H' bo≈(.dK Ay)/\H' mo≈(.dK A8)/\C3 (KI C B H' k rows) (ns.take i) Ay/\C3 (KC 10.3 H') (ns.take i) A8;refine⟨Z,b,l,vs,Y,(hl.mono s1).mono s2,B1 F1 Bf
   ⟨[],[],none,none,none,Y,s1.trans s2,s2 _ _ uS,uS,by rw[CD];exact .nil,by rw[CD];exact .nil⟩ (λi σ H' _ h0=>by obtain⟨_,_,_,_,_,_,s,_⟩:=h0;exact hl.mono s) ?_ ?_⟩
  ·rintro i v σ H' hi ⟨Ay,A8,x,y,z,rfl,s3,Ls,Pm,hB,hM⟩;obtain⟨nm,hnm,t,tp,bb,ws,rfl,ht,htp,hps⟩:=BM hN hi;have Ap:nm∈ns:=Yc hnm;have gnm:=gn.each nm Ap;have Aq:nm.1∉(ns.take i).map 0.5:=by
    rw[Mq];exact jD gn.nd (by rw[Yn,hnm];rfl)
   have DY:=s3 _ _ ht;refine⟨t,Z,AH.of DY,Y,_,Z,_,Z,_,Z,Y,?_⟩;refine⟨Z,nm.1,Y,y7 gnm.word,λH4 s4=>⟨Z,?_⟩⟩;rw[gnm.word];refine AL ?_;have Ko:=s4 _ _ Ls;have Nn:=s4 _ _ Pm;have P4:=hB.imp λn v h=>W7 h s4;have TR:=hM.imp λn v h=>XF h s4;have Ba:=s3.trans s4;refine⟨Z,Z,bo,Z,BR.k (k:=Sum.inr nm.1) Ko,Z,?_⟩;rw[P4.not Aq];refine AL ?_;have IJ:=htp.mono Ba;have IL:C1 H4 nm.2.2 ws:=hps.mono (Bx Ba);have wl:↑ws<=64:=by
    have h1:=Yi hps;have h2:=gnm.deeds.few;rw[Ya]at h2;omega
   refine⟨Z,Z,Z,bb,tp,ws,Y,IJ,UR F1 0 (He H4) 0.0 IL (λ_=>rfl) (λH' s'=>IJ.mono s') λlc H5 hlc Bp C9=>?_⟩;intro yb dyb ny ndy ney;refine zM ny ndy ((kd.mono Ba).mono Bp) g (.inl C9) ((YH IL).mono Bp) gnm.deeds gnm.one gnm.four λH6 Cn qx=>?_;have Gz:=Bp.trans Cn;have Dy:=Ba.trans Gz;have Nu:=Gz _ _ Ko;have Nm:=Gz _ _ Nn;have bl:↑Ay=i:=by
    have h1:=Yi hB;rw[Yy]at h1;have h2:=(Yg.mp hnm).1;omega
   have ml:↑A8=i:=by
    have h1:=Yi hM;rw[Yy]at h1;have h2:=(Yg.mp hnm).1;omega
   have il:i<8:=by
    have h2:=(Yg.mp hnm).1;omega
   refine⟨Z,Z,bo,Z,Cs.k (k:=Sum.inr nm.1) Nu (Br 0.0),?_⟩;have WT:C3 (KI C B 8.9 k rows) (ns.take i++[nm]) 2.3:=
    ja (P4.imp λn v h=>T_ (W7 h Gz) Nu) Aq (T_ ⟨yb,Y,qx⟩ Nu)
   have P0:C3 (KC 10.3 8.9) (ns.take i) A8:=TR.imp λn v h=>UE (XF h Gz) Nu;have C8:AA H 8.9:=λb o e=>by rw[AD (AI e hbo)];exact Dy _ _ e
   have Nt:8.9 bo≈(.dK 2.3):=uS;have Lp:8.9 mo≈(.dK A8):=by rw[AD (Yz bm)];exact Nm
   generalize upd H6 bo (.dK 2.3)=H7 at WT P0 C8 Nt Lp;generalize Al Ay (Sum.inr nm.1) (.ref yb)=NS at WT Nt;have IH:=htp.mono C8;have IK:C1 H7 nm.2.2 ws:=hps.mono (Bx C8);refine⟨Z,bb,tp,ws,Y,IH,UR F1 1 (Dx H7) 0.0 IK (λ_=>rfl) (λH' s'=>IH.mono s') λlm H8 hlm JN Nq=>?_⟩;rw[YI IK]at Nq;have Nl:=JN _ _ Lp;refine⟨Z,Z,mo,Z,Cs.k (k:=Sum.inr nm.1) Nl (Br 0.0),?_⟩;have lmo:lm≠mo:=λz=>by rw[z,Lp]at hlm;cases hlm
   have WQ:C3 (KC 10.3 6.5) (ns.take i++[nm]) 1.5:=
    ja (P0.imp λn v h=>UE (XF h JN) Nl) Aq (UE ⟨lm,Y,Nq,λ⟨_,z⟩=>by rw[C8.free hlm]at z;cases z⟩ Nl)
   have dg:C3 (KI C B 6.5 k rows) (ns.take i++[nm]) NS:=WT.imp λn v h=>T_ (W7 h JN) Nl;have G6:AA H 6.5:=λb o e=>by rw[AD (AI e hmoH)];exact JN _ _ (C8 _ _ e)
   have Ki:6.5 mo≈(.dK 1.5):=uS;have Px:6.5 bo≈(.dK NS):=by rw[AD bm];exact JN _ _ Nt
   have Np:6.5 lm≈(.lst ((nm.2.2.map (·.2)).map V.str)):=by rw[AD lmo];exact Nq
   have S7:BG 1.5 (Sum.inr nm.1)≈(.ref lm):=by rw[iM,if_pos rfl]
   generalize upd H8 mo (.dK 1.5)=H9 at WQ dg G6 Ki Px Np;generalize Al A8 (Sum.inr nm.1) (.ref lm)=aW at WQ Ki S7;refine⟨Z,Z,Z,mo,Z,(by rw[<- S7];exact BR.k (k:=Sum.inr nm.1) Ki),k,lm,rows,nm.2.2.map (·.2),Y,kd.mono G6,g,Np,λx hx=>?_,?_⟩
   ·obtain⟨pr,hpr,e⟩:=Yd.mp hx;rw[<- e];exact gnm.made pr hpr
   refine⟨NS,aW,_,_,Z,G6,Px,Ki,?_,?_⟩
   ·rw[Yq,hnm];exact dg
   ·rw[Yq,hnm];exact WQ
  ·rintro σ H3 ⟨Ay,A8,x,y,z,rfl,s3,Ls,Pm,hB,hM⟩;rw[<- hvl,Yx]at hB hM;refine⟨bo,Ay,Ls,λo=>?_⟩;have s4:AA H (upd H3 bo (.frz o (.dK Ay))):=λb u e=>by rw[AD (AI e hbo)];exact s3 _ _ e
   have P4:=hB.imp λn v h=>T_ (o:=.frz o (.dK Ay)) h Ls;have TR:=hM.imp λn v h=>UE (o:=.frz o (.dK Ay)) h Ls;have Ko:(upd H3 bo (.frz o (.dK Ay))) bo≈(.frz o (.dK Ay)):=uS;have Nn:(upd H3 bo (.frz o (.dK Ay))) mo≈(.dK A8):=by rw[AD (Yz bm)];exact Pm
   generalize upd H3 bo (.frz o (.dK Ay))=H4 at s4 P4 TR Ko Nn;have HZ:=s4 _ _ hp;have pbo:bo≠p:=λz=>by rw[z,hp]at hbo;cases hbo
   have pmo:mo≠p:=λz=>by rw[z,hp]at hmoH;cases hmoH
   refine⟨Z,Z,p,D,dx,[],Y,HZ,TD.cl,TD.nB,(by show 0<1000;decide),?_⟩;refine⟨Z,Z,p,D,dx,Z,uS,TD.cl,TD.nO,(by show 1<1000;decide),?_⟩;rw[OF];refine⟨Z,Z,p,D,dx,Z,uS,TD.cl,TD.nM,(by show 2<1000;decide),?_⟩;rw[OF];have keep:∀ b o,b≠p->H b≈o->(upd H4 p (.ins D dx (Ft k bo mo))) b≈o:=λb o hb e=>by rw[AD hb];exact s4 _ _ e
   have kp:∀ b o,b≠p->H4 b≈o->(upd H4 p (.ins D dx (Ft k bo mo))) b≈o:=λb o hb e=>by rw[AD hb];exact e
   have nkp:k≠p:=by
    intro z;obtain⟨FT,d,a,o,oa,π,Az,h1,_⟩:=kd.ex;rw[z,hp]at h1;injection h1 with h1;injection h1 with h1;exact hDC h1
   refine q _ ⟨dx,bo,mo,o,Ay,A8,uS,UT kd hp keep nkp (λ_ _ z=>by cases z) (λ_ z=>by cases z),kp _ _ pbo Ko,P4.imp λn v h=>?_,kp _ _ pmo Nn,TR.imp λn v h=>?_⟩ keep
   ·obtain⟨y,e,bd⟩:=h;obtain⟨dxb,t,us,h1,h2,h3,h4⟩:=bd.ex;have yp:y≠p:=by
     intro z;rw[z,HZ]at h1;injection h1 with h1;injection h1 with h1;exact hDB h1
    exact⟨y,e,dxb,t,us,kp _ _ yp h1,UT h2 HZ kp nkp (λ_ _ z=>by cases z) (λ_ z=>by cases z),kp _ _ (λz=>by rw[z,HZ]at h3;cases h3) h3,Paired.mapP h4 λd v ⟨t',e,x⟩=>⟨t',e,kp _ _ (λz=>by rw[z,HZ]at x;cases x) x⟩⟩
   ·obtain⟨l',e,x,z⟩:=h;exact⟨l',e,kp _ _ (λz=>by rw[z,HZ]at x;cases x) x,z⟩
def YG(k bo mo:μ):(Ft k bo mo).lookup ("kinds":Str)=none:=Xo k bo mo 1.2 1.2 1.2
def RH(k bo mo:μ):(Ft k bo mo).lookup ("names":Str)=none:=Xo k bo mo 1.2 1.2 1.2
def tR(k bo mo:μ):(Ft k bo mo).lookup ("check_name":Str)=none:=Xo k bo mo 1.2 1.2 1.2
abbrev xc(K:Fg)(D f:μ)(fd:FuncData):Prop:=E7 K D "check_name" "Book.check_name" RY ["self","word"] f fd
abbrev XI(K:Fg)(D f:μ)(fd:FuncData):Prop:=E7 K D "kinds" "Book.kinds" Um ["self"] f fd
def NoN(Q:μ)(E:XK)(H:Hp)(x:Str):Prop:=∀ dx H',AA H H'->H' dx≈(.xd [("word",.str x)])->E (.ref Q) (↥dx) H'
inductive X_(C B D:μ)(vs:LV)(H:Hp)(Q:VK)(AO:XK):Prop
 | mk:∀(p k:μ) (rows:RS) (ns:List AX) (x:Str),vs=[.ref p,.str x]->Hw C B D H p k rows ns->x∈ns.map 0.5->Q .non H->X_ C B D vs H Q AO
inductive YJ(C B D Q2:μ)(vs:LV)(H:Hp)(F8:VK)(E:XK):Prop
 | mk:∀(p k:μ) (rows:RS) (ns:List AX) (x:Str),vs=[.ref p,.str x]->Hw C B D H p k rows ns->C2 x->x∉ns.map 0.5->NoN Q2 E H x->YJ C B D Q2 vs H F8 E
inductive Qy(C B D:μ)(vs:LV)(H:Hp)(Q:VK)(AO:XK):Prop
 | mk:∀(p k:μ) (rows:RS) (ns:List AX),vs=[.ref p]->Hw C B D H p k rows ns->Q (.ref k) H->Qy C B D vs H Q AO
def Yec:Am ["self","word"] ["self","word"] (AN ZG):=by nofun
def wq(F:BK K "__init__" "NoName.__init__" ZG f fd)(I:Cw K C D "word")(dd:LZ K D)(mD:mg "DeedError"≈(.ref D)):⋯ 1 f fd ["self","word"] (B0 C "word" Cd):=by
 nomatch F.ok Yec
 ·obtain⟨x,y,rfl,_⟩:=h;rfl
 ·obtain⟨x,y,rfl,⟨z,rfl,hz⟩,hx,q⟩:=h
  ac_nf
  refine⟨_,(pS 8.6
   (AF (OD (D:=D) 0.9 1.6))),?_⟩
  exists AE _ a _ _ _
  refine⟨_,rfl,_,rfl,z,rfl,by have:=hz.1;omega,hz.2,by rfl',λt=>⟨x,C,[.str t],rfl,by show 1<=100;decide,I.toExA.toExC,hx,?_⟩⟩;exact⟨_,rfl,_,rfl,x,C,rfl,hx,I,λdx hdx=>q dx hdx⟩
def kE:Am ["self","word"] ["self","word"] (AN RY):=by nofun
def tD(F:BK K "check_name" "Book.check_name" RY f fd)(TD:Jn K D):⋯ 1 f fd ["self","word"] (X_ C B D):=by
 nomatch F.ok kE
 ·obtain⟨p,k,rows,ns,x,rfl,_⟩:=h;rfl
 ·obtain⟨p,k,rows,ns,x,rfl,bk,hx,q⟩:=h;obtain⟨dx,bo,mo,o,Ay,A8,h1,h2,h3,h4,h5,h6⟩:=bk.ex;have hu:=Dm hr
  ac_nf
  refine⟨_,(AF (AR (Em (RM hu 1.6 7.0)) CA AS)),?_⟩;refine⟨_,rfl,_,rfl,p,D,dx,_,_,rfl,h1,TD.cl,TD.nO,XC _ _ _,bo,_,rfl,BR.f (k:=Sum.inr x) h3,_,rfl,?_⟩;rw[h4.some hx];exact AL q
def uw(F:BK K "check_name" "Book.check_name" RY f fd)(TD:Jn K D)(E2:Cf P w K mg base "NoName" Q2 "word" (B0 Q2 "word" Cd) f2 WX):AV P w K mg base 3.2 3 f fd ["self","word"] (YJ C B D Q2):=by
 nomatch F.ok1 kE
 ·obtain⟨p,k,rows,ns,x,rfl,_⟩:=h;rfl
 ·obtain⟨p,k,rows,ns,x,rfl,bk,sx,hx,re⟩:=h;obtain⟨dx,bo,mo,o,Ay,A8,h1,h2,h3,h4,h5,h6⟩:=bk.ex;have hu:=Dm hr
  ac_nf
  refine⟨_,(AF (AR (Em (RM hu 1.6 7.0)) (AF (Hz (C:=Q2) Ak.of hr.hd E2.ex E2.ini E2.ty E2.go hr E2.b 0.8 E2.m 3.1)) AS)),?_⟩
  exists A4 _ a _ _ _ _
  refine⟨_,rfl,_,rfl,p,D,dx,_,_,rfl,h1,TD.cl,TD.nO,XC _ _ _,bo,_,rfl,BR.f (k:=Sum.inr x) h3,_,rfl,?_⟩;rw[h4.not hx];exact AY ⟨_,rfl,_,rfl,(λy _=>⟨x,rfl,sx⟩),λdx hdx=>re dx _ (AJ hdx) uS⟩
def Yek:Am ["self"] ["self"] (AN Um):=by nofun
def jF(F:BK K "kinds" "Book.kinds" Um f fd)(TD:Jn K D):⋯ 1 f fd ["self"] (Qy C B D):=by
 nomatch F.ok Yek
 ·obtain⟨p,k,rows,ns,rfl,_⟩:=h;rfl
 ·obtain⟨p,k,rows,ns,rfl,bk,q⟩:=h;obtain⟨dx,bo,mo,o,Ay,A8,h1,h2,h3,h4,h5,h6⟩:=bk.ex;exact⟨_,AF (AW 7.0),_,rfl,p,D,dx,_,_,rfl,h1,TD.cl,TD.nB,yV _ _ _,q⟩
structure l6(K:Fg)(mg:Str->OU)(D:μ):Prop where
 m:mg "DeedError"≈(.ref D)
 ex:ExC K D
 cl:W.isClsIn K D=true
 ty:W.typeIn K (.ref D)≈(.type "type")
structure eL(K:Fg)(mg:Str->OU)(Ds:Nat->μ):Prop where
 m0:mg "NoKind"≈(.ref (Ds 0))
 m1:mg "Twice"≈(.ref (Ds 1))
 m2:mg "NoName"≈(.ref (Ds 2))
 m3:mg "Ring"≈(.ref (Ds 3))
 m4:mg "NoDeed"≈(.ref (Ds 4))
 m5:mg "Same"≈(.ref (Ds 5))
 m6:mg "NoText"≈(.ref (Ds 6))
 m7:mg "TooMany"≈(.ref (Ds 7))
 m8:mg "NoBoard"≈(.ref (Ds 8))
 m9:mg "NoCall"≈(.ref (Ds 9))
 m10:mg "NoLine"≈(.ref (Ds 10))
 m11:mg "NoPlace"≈(.ref (Ds 11))
 m12:mg "NoWeights"≈(.ref (Ds 12))
 m13:mg "NoTerm"≈(.ref (Ds 13))
 m14:mg "NoRow"≈(.ref (Ds 14))
 cl:∀ k,k<15->W.isClsIn K (Ds k)=true
 ty:∀ k,k<15->W.typeIn K (.ref (Ds k))≈(.type "type")
structure Dn(K:Fg)(D:μ)(Ds:Nat->μ)(i:Nat):Prop where
 ex:ExA K (Ds i)
 sub:W.subIn K (.ref (Ds i)) (.ref D)≈true
 one:∀ k,k<15->W.subIn K (.ref (Ds i)) (.ref (Ds k))≈(decide (k=i))
def Hk{P:Nat->Prop}(h0:P 0)(h1:P 1)(h2:P 2)(h3:P 3)(h4:P 4)(h5:P 5)(h6:P 6)(h7:P 7)(h8:P 8)(h9:P 9)(qd:P 10)(Hd:P 11)(qb:P 12)(qZ:P 13)(JX:P 14):∀ k,k<15->P k:=λk h=>by
 rcases k with _ | _ | _ | _ | _ | _ | _ | _ | _ | _ | _ | _ | _ | _ | _ | k
 ·exact h0
 ·exact h1
 ·exact h2
 ·exact h3
 ·exact h4
 ·exact h5
 ·exact h6
 ·exact h7
 ·exact h8
 ·exact h9
 ·exact qd
 ·exact Hd
 ·exact qb
 ·exact qZ
 ·exact JX
 ·omega
def B9(a0 a1 a2 a3 a4 a5 a6 a7 a8 a9 rD rC rB Wg rA:μ):Nat->μ
 | 0=>a0 | 1=>a1 | 2=>a2 | 3=>a3 | 4=>a4 | 5=>a5 | 6=>a6 | 7=>a7 | 8=>a8 | 9=>a9 | 10=>rD | 11=>rC | 12=>rB | 13=>Wg | _=>rA
def n5:List (Str×Nat):=[("TooMany",7),("NoKind",0),("Twice",1),("NoName",2),("Ring",3),("NoBoard",8),("NoDeed",4),("Same",5),("NoCall",9),("NoTerm",13),("NoText",6),("NoRow",14),("NoLine",10),("NoPlace",11),("NoWeights",12)]
def Bu:Nat->Str
 | 0=>"NoKind"
 | 1=>"Twice"
 | 2=>"NoName"
 | 3=>"Ring"
 | 4=>"NoDeed"
 | 5=>"Same"
 | 6=>"NoText"
 | 7=>"TooMany"
 | 8=>"NoBoard"
 | 9=>"NoCall"
 | 10=>"NoLine"
 | 11=>"NoPlace"
 | 12=>"NoWeights"
 | 13=>"NoTerm"
 | _=>"NoRow"
def xZ:∀ i,i<15->(n5.filter λq=>decide (q.2=i)).map 0.5=[Bu i]:=by rfl'
abbrev Ly(n:Str)(k i:Nat):HO:=.tup [.str n,.bl (decide (k=i))]
def Vm(i:Nat)(H:Hp)(q:Str×Nat)(v:V):Prop:=∃ t,v=.ref t/\H t≈(Ly q.1 q.2 i)
def We:V->Bool
 | .bl b=>b
 | _=>false
theorem jL{i:Nat}{H:Hp}:∀ {L:List (Str×Nat)}{xs:LV},Paired (Vm i H) L xs->(xs.filter λx=>We (Dx H x)).map (He H)=((L.filter λq=>decide (q.2=i)).map 0.5).map V.str
 | _,_,.nil=>rfl
 | q :: L,x :: xs,.cons ⟨t,e,h⟩ r=>by
  have ih:=jL r;have e1:He H x=.str q.1:=by rw[e];exact Th h
  have e2:Dx H x=.bl (decide (q.2=i)):=by rw[e];exact ML h
  have e3:We (Dx H x)=decide (q.2=i):=by rw[e2];rfl
  by_cases z:q.2=i
  ·rw[List.filter_cons_of_pos (by rw[e3];exact Jb z),List.filter_cons_of_pos (by exact Jb z),Yr,Yr,Yr,ih,e1]
  ·rw[List.filter_cons_of_neg (by rw[e3,Jc z];decide),List.filter_cons_of_neg (by rw[Jc z];decide),ih]
def kh{i:Nat}{H:Hp}{L:List (Str×Nat)}{xs:LV}(h:Paired (Vm i H) L xs){x:V}(hx:x∈xs):∃ t k n,x=.ref t/\H t≈(Ly n k i):=by
 obtain⟨j,hj⟩:=Zt.mp hx;obtain⟨q,_,t,e,ht⟩:=BM h hj;exact⟨t,q.2,q.1,e,ht⟩
def R1(Ds:Nat->μ)(i:Nat)(σ:St)(H:Hp):Prop:=∃(e:μ) (dx:Option μ),σ[0]?≈(↥(.ref e))/\H e≈(XO e (Ds i) dx)/\Iy H dx
def R1.same{Ds:Nat->μ}{i:Nat}{σ:St}{H H':Hp}(h:R1 Ds i σ H)(s:AA H H'):R1 Ds i σ H':=by
 obtain⟨e,dx,a,b,c⟩:=h;exact⟨e,dx,a,s _ _ b,AA.xdict c s⟩
def cJ(Ds:Nat->μ)(i:Nat)(n:Str)(k:Nat):TE:=λσ H Q=>R1 Ds i σ H/\∀ t,H t=none->Q (.ref t) (upd H t (Ly n k i))
def ZQ(Ds:Nat->μ)(i:Nat)(L:List (Str×Nat)):TA:=λσ H Q=>R1 Ds i σ H/\∀ ts H',AA H H'->Paired (Vm i H') L ts->Q ts H'
section
variable {X:Cx}{Ds:Nat->μ}{i k:Nat}{n c:Str}
def FY{p p1 p2 p3 p4 p5:Pos}{j x1}(ex:ExA X.K (Ds i))(isi:X.mg "isinstance"=none)(gi:Gl X "isinstance")(v:∀ p,PE X (.Name "e" p) (Of 0))(one:W.kitOne X.K (.ref (Ds i)) (.ref (Ds k))≈(decide (k=i)))(m:X.mg c≈(.ref (Ds k)))(g:Gl X c:=by rfl)(hd:(c == ("__debug__":Str))=false:=by decide):PE X (.Tuple [.Constant (.str n) j p,.Call (.Name "isinstance" p2) [.Name "e" p1,.Name c p3] [] p4] x1 p5) (cJ Ds i n k):=by
 ac_rfl;refine BB (pC Ah (pC (A9 iS gi isi Zs (pC (v _) (pC (EB (v:=.ref (Ds k)) g m rfl hd) AB))) AB)) ρ s σ H Q I ?_;obtain⟨⟨e,dx,h0,hx,hd⟩,q⟩:=h;exact⟨_,h0,e,Ds i,dx,_,_,Z,Y,λu z=>z,hx,hd,ex,one,W,q⟩
def xB:PA X [] (ZQ Ds i []):=λpos ρ s σ H Q I h=>AB pos ρ s σ H Q I (h.2 [] H (AA.refl _) .nil)
def Fs{e:Expr}{es:τ}{L:List (Str×Nat)}(he:PE X e (cJ Ds i n k))(r:PA X es (ZQ Ds i L))(hs:starEach (e :: es) X.env=3.4:: starEach es X.env:=by rfl):PA X (e :: es) (ZQ Ds i ((n,k):: L)):=by
 intro pos ρ s σ H Q I h;refine pC he r hs pos ρ s σ H Q I ?_;obtain⟨z,q⟩:=h;exact⟨z,λt n=>⟨z.same (AJ n),λts H' s' p=>q (.ref t :: ts) H' ((AJ n).trans s') (.cons ⟨t,Y,s' _ _ uS⟩ p)⟩⟩
end
inductive YO(K:Fg)(D:μ)(Ds:Nat->μ)(vs:LV)(H:Hp)(Q:VK)(AO:XK):Prop
 | mk:∀(e:μ) (i:Nat) (dx:Option μ),vs=[.ref e]->H e≈(XO e (Ds i) dx)->Iy H dx->Dn K D Ds i->i<15->(∀ l H',AA H H'->H' l≈(.lst [.str (Bu i)])->Q (.ref l) H')->YO K D Ds vs H Q AO
def xN:(["name","takes","e"]:LS).Nodup:=by rfl'
abbrev cm:LS:=["e","some"]
def mT:Am cm ["e"] (AN RU):=by nofun
def uQ{Ds:Nat->μ}(F:Def K mg "_law_classes" RU ["e"] f fd)(TF:eL K mg Ds)(isi:mg "isinstance"=none)(vr:mg "ValueError"=none):⋯ 1 f fd ["e"] (YO K D Ds):=by
 nomatch F.fn.ok mT
 ·obtain⟨e,i,dx,rfl,_⟩:=h;rfl
 ·obtain⟨e,i,dx,rfl,hx,hd,O,ph,q⟩:=h;have nd:=mT.nd;have one:∀ k,k<15->W.kitOne K (.ref (Ds i)) (.ref (Ds k))≈(decide (k=i)):=λk hk=>zJ (TF.cl k hk) (TF.ty k hk) O.ex.toExC (O.one k hk)
  ac_nf
  refine'⟨_,(pS (sE 1 nd (B4 (Fs (FY O.ex isi rfl 12.2 (one 7 0.2) TF.m7) (Fs (FY O.ex isi rfl 12.2 (one 0 0.2) TF.m0) (Fs (FY O.ex isi rfl 12.2 (one 1 0.2) TF.m1) (Fs (FY O.ex isi rfl 12.2 (one 2 0.2) TF.m2) (Fs (FY O.ex isi rfl 12.2 (one 3 0.2) TF.m3) (Fs (FY O.ex isi rfl 12.2 (one 8 0.2) TF.m8) (Fs (FY O.ex isi rfl 12.2 (one 4 0.2) TF.m4) (Fs (FY O.ex isi rfl 12.2 (one 5 0.2) TF.m5) (Fs (FY O.ex isi rfl 12.2 (one 9 0.2) TF.m9) (Fs (FY O.ex isi rfl 12.2 (one 13 0.2) TF.m13) (Fs (FY O.ex isi rfl 12.2 (one 6 0.2) TF.m6) (Fs (FY O.ex isi rfl 12.2 (one 14 0.2) TF.m14) (Fs (FY O.ex isi rfl 12.2 (one 10 0.2) TF.m10) (Fs (FY O.ex isi rfl 12.2 (one 11 0.2) TF.m11) xB))))))))))))))))
   (pS (Bj (De EF Gs Gr F4 1.6 (pC (FY O.ex isi rfl 12.2 (one 12 0.2) TF.m12) AB)))
   (AF (AW ?c)))),?_⟩
  case c=>exact(EX ["name","takes"] ["e"] [0] (λ_=>B5 (osc:=AN RU) (on:=cm) 1.2 rfl rfl rfl) (Ci 1.6) (λC s H fp=>Jq (K:=K) (i:=0) (j:=1) rfl rfl xN rfl rfl 1.7 1.7 1.4 1.4) (λC s H fp=>Qn (PW.pt (Kw (Cg 1.6) (OE (Cg (A9 (r:=Zd K) iS 0.8 isi Zs (pC 4.2 (pC (gD (v:=.ty "ValueError") 0.8 vr 1.2 rfl) AB)))))))) (λC s H fp=>pv 0))
  exists let b:=AE _ a;AE _ b _ _ _
  refine⟨⟨e,dx,Y,hx,hd⟩,λts H1 s1 P1=>⟨sL (by rw[<- Yi P1];show 14<=100000;decide),λl hl=>?_⟩⟩;have sl:AA H1 (upd H1 l (.lst ts)):=AJ hl;have hll:(upd H1 l (.lst ts)) l≈(.lst ts):=uS;generalize upd H1 l (.lst ts)=H2 at sl hll ⊢;have s2:=s1.trans sl;refine⟨Z,.inl ⟨Y,_,SqL.of hll⟩,⟨e,dx,Y,s2 _ _ hx,AA.xdict hd s2⟩,λt nt=>?_⟩;have st:AA H2 (upd H2 t (Ly "NoWeights" 12 i)):=AJ nt;have htt:(upd H2 t (Ly "NoWeights" 12 i)) t≈(Ly "NoWeights" 12 i):=uS;generalize upd H2 t (Ly "NoWeights" 12 i)=H3 at st htt ⊢;have BA:=st _ _ hll;refine⟨l,_,Z,Y,BA,Br (by rw[<- Yi P1];show 14<=100000;decide),?_⟩;have PB:Paired (Vm i (upd H3 l (.lst (ts++[.ref t])))) n5 (ts++[.ref t]):=by
   have tk:∀ {b:μ} {o:LV},H3 b≈(.tup o)->(upd H3 l (.lst (ts++[.ref t]))) b≈(.tup o):=λ{b o} e=>by
    rw[AD (λz=>by rw[z,BA]at e;cases e)];exact e
   exact Cu (Paired.imp' (λq v ⟨t,e,h⟩=>⟨t,e,tk ((sl.trans st) _ _ h)⟩) P1) ⟨Z,tk htt⟩
  have sU:AA H (upd H3 l (.lst (ts++[.ref t]))):=λb o e=>by rw[AD (AI e (s1.free hl))];exact st _ _ (s2 _ _ e)
  have hlU:(upd H3 l (.lst (ts++[.ref t]))) l≈(.lst (ts++[.ref t])):=uS;generalize ts++[V.ref t]=xs at PB hlU sU ⊢;generalize upd H3 l (.lst xs)=HU at PB sU hlU ⊢;have xl:↑xs=15:=by rw[<- Yi PB];rfl
  refine⟨Z,l,Y,⟨_,SqL.of hlU⟩,iT (Ck (xs:=xs)) (sL 0.0) (λx=>We (Dx HU x)) (λ_ x v _=>v=He HU x) (He HU) (Dx HU) (λ_ _ _ _ _ _ z=>z) (λH' s'=>SqL.of (s' _ _ hlU)) (λx D0=>?_) ?_ ?_ ?_⟩
  ·obtain⟨t,k,n,e1,e2⟩:=kh PB D0;rw[e1];exact⟨t,Y,by rw[Th e2,ML e2];exact e2⟩
  ·intro x H' R s' D0 hR;obtain⟨t,k,n,e1,e2⟩:=kh PB D0;have e3:Dx HU x=.bl (decide (k=i)):=by rw[e1];exact ML e2
   rw[e3]at hR ⊢;refine⟨Z,Z,BO (λz=>?_) (λz=>?_)⟩
   ·refine⟨Z,e,Ds i,dx,_,_,Z,Y,λu z=>z,s' _ _ (sU _ _ hx),AA.xdict (AA.xdict hd sU) s',O.ex,sW O.ex.toExC,Z,?_⟩;rw[show decide (k=i)=true from z]at hR;exact hR H' (AA.refl _)
   ·rw[show decide (k=i)=false from by simpa using z]at hR;exact hR H' (AA.refl _)
  ·intro D x H' R s' _ _ D0 _ hR;exact⟨Z,hR _ H' (AA.refl _) rfl⟩
  ·intro D H' ys _ s' hD hP;refine q D H' (sU.trans s') ?_;rw[hD,RL hP,jL PB,xZ i ph];rfl
inductive okN(v:V)(oF:Hp):Prop
 | mk:∀ k:Nat,v=.int k->k<=1000->okN v oF
structure gS(rows:RS)(n:Nat)(ds:List (LS))(i k:Nat):Prop where
 ex:∃ d,ds[k]?≈d/\((i=4/\FW rows n d=false)\/(i=5/\FW rows n d=true/\d∈ds.take k))
 ahead:∀ d∈ds.take k,FW rows n d=true
 nd:(ds.take k).Nodup
inductive Due(rows:RS)(pl:Int)(ds:List (LS)):Option (Nat×Nat)->Prop
 | board (h:¬ (1<=pl/\pl<=4)\/64<↑ds):Due rows pl ds (↥(8,0))
 | bad {i k:Nat} (n:Nat) (e:pl=n) (n1:1<=n) (n4:n<=4) (few:↑ds<=64) (h:gS rows n ds i k):Due rows pl ds (↥(i,k))
 | good (n:Nat) (e:pl=n) (n1:1<=n) (n4:n<=4) (h:MW rows n ds):Due rows pl ds none
structure Mi(Ds:Nat->μ)(E:XK)(H:Hp)(i k:Nat):Prop where
 plain:i=8->∀ H',AA H H'->E (.ref (Ds 8)) none H'
 num:i≠8->∀ dx H',AA H H'->H' dx≈(.xd [("number",.int k)])->E (.ref (Ds i)) (↥dx) H'
def Mi.mono{Ds:Nat->μ}{E:XK}{H H':Hp}{i k:Nat}(r:Mi Ds E H i k)(s:AA H H'):Mi Ds E H' i k :=
 ⟨λe Av s'=>r.plain e Av (s.trans s'),λe dx Av s' h=>r.num e dx Av (s.trans s') h⟩
def uW{κ:Type}[DecidableEq κ]{k:κ}{π:List (κ×V)}(h:k∈π.map 0.5):∃ v,BG π k≈v:=by
 cases e:BG π k with
 | some v=>exact⟨v,Y⟩
 | none =>
  have:=K4 k π;rw[e]at this;obtain⟨kv,hk,z⟩:=Yd.mp h;rw[show(none:OV).isSome=false from rfl,List.any_eq_false]at this;exact absurd (Jb z) (this kv hk)
inductive Y7(K:Fg)(C:μ)(Ds:Nat->μ)(vs:LV)(H:Hp)(F8:VK)(E:XK):Prop
 | mk:∀(p l:μ) (n:Nat) (b:Bool) (rows:RS) (ds:List (LS)) (us:LV) (i k:Nat),vs=[.ref p,.int n,.ref l]->Bc C H p rows->As rows->CF K b H l us->El H ds us->(∀ d∈ds,↑d<=1000)->n<=4->↑ds<=64->gS rows n ds i k->Mi Ds E H i k->Y7 K C Ds vs H F8 E
inductive X7(K:Fg)(C B:μ)(Ds:Nat->μ)(vs:LV)(H:Hp)(F8:VK)(E:XK):Prop
 | mk:∀(p dx k l:μ) (pl:Int) (rows:RS) (ds:List (LS)) (us:LV) (i j:Nat),vs=[.ref p,.ref k,.int pl,.ref l]->Bc C H k rows->As rows->(SqL K H l us\/H l≈(.tup us))->El H ds us->(∀ d∈ds,↑d<=1000)->↑ds<=1000->Due rows pl ds (↥(i,j))->Mi Ds E H i j->X7 K C B Ds vs H F8 E
def Yeh:Am ["self","number"] ["self","number"] (AN ZE):=by nofun
def wj(F:BK K "__init__" "NoDeed.__init__" ZE f fd)(I:Cw K C D "number")(dd:LZ K D)(mD:mg "DeedError"≈(.ref D)):⋯ 1 f fd ["self","number"] (B0 C "number" okN):=by
 nomatch F.ok Yeh
 ·obtain⟨x,y,rfl,_⟩:=h;rfl
 ·obtain⟨x,y,rfl,⟨k,rfl,hk⟩,hx,q⟩:=h
  ac_nf
  refine⟨_,pS (Bj (OL dd 0.8 mD (pC 0.9 (pC (Hs (CC EW (CC (MG 1.6) (CC EW Ht)))) AB)))) (AF (OD (D:=D) 0.9 1.6)),?_⟩
  exists AE _ a _ _ _
  refine⟨_,rfl,by rfl',_,rfl,k,rfl,by omega,by rfl',λz=>⟨x,C,[.str z],rfl,by show 1<=100;decide,I.toExA.toExC,hx,?_⟩⟩;exact⟨_,rfl,_,rfl,x,C,rfl,hx,I,λdx hdx=>q dx hdx⟩
def Yed:Am ["self","number"] ["self","number"] (AN ZC):=by nofun
def wz(F:BK K "__init__" "Same.__init__" ZC f fd)(I:Cw K C D "number")(dd:LZ K D)(mD:mg "DeedError"≈(.ref D)):⋯ 1 f fd ["self","number"] (B0 C "number" okN):=by
 nomatch F.ok Yed
 ·obtain⟨x,y,rfl,_⟩:=h;rfl
 ·obtain⟨x,y,rfl,⟨k,rfl,hk⟩,hx,q⟩:=h
  ac_nf
  refine⟨_,pS (Bj (OL dd 0.8 mD (pC 0.9 (pC (Hs (CC EW (CC (MG 1.6) (CC EW Ht)))) AB)))) (AF (OD (D:=D) 0.9 1.6)),?_⟩
  exists AE _ a _ _ _
  refine⟨_,rfl,by rfl',_,rfl,k,rfl,by omega,by rfl',λz=>⟨x,C,[.str z],rfl,by show 1<=100;decide,I.toExA.toExC,hx,?_⟩⟩;exact⟨_,rfl,_,rfl,x,C,rfl,hx,I,λdx hdx=>q dx hdx⟩
def vk{Ds:Nat->μ}(F:Def K mg "check_deeds" OZ ["kinds","places","deeds"] f fd)(DI:Def K mg "is_call" K6 HW fI fdI)(enum:mg "enumerate"=none)(len:mg "len"=none)(all:mg "all"=none)(TC:ET K C)(MH:Ip K C fH fdH)
  (E4:Cf P w K mg base "NoDeed" (Ds 4) "number" (B0 (Ds 4) "number" okN) f4 TX) (E5:Cf P w K mg base "Same" (Ds 5) "number" (B0 (Ds 5) "number" okN) f5 TV):AV P w K mg base 3.2 3 f fd ["kinds","places","deeds"] (Y7 K C Ds):=by
 have GI:AV P w K mg base 3.2 2 fI fdI HW (UK C):=(jQ DI len all TC MH).any
 nomatch F.fn.ok1 VB
 ·obtain⟨p,l,n,b,rows,ds,us,i,k,rfl,_⟩:=h;rfl
 ·obtain⟨p,l,n,b,rows,ds,us,i,k,rfl,kd,g,hl,hD,ok,hn,few,fb,re⟩:=h;have nd:=VB.nd;have hu:=Dm hr;have A7:AZ 2 _:=hr.mono 0.2
  ac_nf
  refine⟨_,pS (sE 3 nd Qt)
   (AF (Be JK rfl (gF 0.8 enum 2.2) (CO rfl 10.2)
    (pS (AR (Ct (Cg (JC GI hr 0.8 DI.m DI.fn.kp DI.b .nil 4.1 (pC 0.9 (pC 1.6 (pC 7.5 AB)))))) (AF (Hz (C:=Ds 4) Ak.of hr.hd E4.ex E4.ini E4.ty E4.go A7 E4.b 0.8 E4.m 7.6)) AS)
    (pS (AR (Em (Jp hu 7.5 7.7)) (AF (Hz (C:=Ds 5) Ak.of hr.hd E5.ex E5.ini E5.ty E5.go A7 E5.b 0.8 E5.m 7.6)) AS)
    (AF (FI hu 7.7 7.5 FX rfl)))))),?_⟩
  exists let b:=_;let c:=AE (A4 _ b _) a;let e:=_;let f:=AE (A4 _ e _) c;let g:=Bq _ _ f;AE _ g _ _ _
  intro d hd;have s0:AA H (upd H d (.dT [])):=AJ hd;have hvl:=↑hD;obtain⟨db,hdb,hor⟩:=fb.ex;have kl:k<↑ds:=(Yg.mp hdb).1;let Bf:NW:=λj σ H'=>∃(π:List 4.9) (a c:OV),j<=k/\σ=[↥(.ref p),↥(.int n),↥(.ref l),↥(.ref d),a,c]/\AA H H'/\H' d≈(.dT π)/\π.map 0.5=(ds.take j).map D9;refine⟨Z,b,l,us,Y,hl.mono s0,iX Bf
   ⟨[],none,none,BN _,Y,s0,uS,by simp⟩ (λj σ H' _ h0=>by obtain⟨_,_,_,_,_,s,_⟩:=h0;exact hl.mono s) ?_ ?_⟩
  ·rintro j pr t σ H' hi ⟨π,a,c,jk,rfl,s1,hdk,hk⟩ V9;obtain⟨e1,hx⟩:=YC hi;obtain⟨dd,hdd,t2,e2,AU⟩:=BM hD hx;refine k7 ?_;have s2:AA H' (upd H' t (.tup [pr.1,pr.2])):=AJ V9;have Ap:dd∈ds:=Yc hdd;rw[e2];show AE _ _ _ [↥(.ref p),↥(.int n),↥(.ref l),↥(.ref d),↥pr.1,↥(.ref t2)] _;have Aw:=s1.trans s2;refine⟨Z,Z,Z,p,t2,n,rows,dd,Y,kd.mono ?_,g,?_,ok dd Ap,λH3 s3=>⟨Z,?_⟩⟩
   ·rw[<- e2];exact Aw
   ·rw[<- e2];exact Aw _ _ AU
   rw[<- e2]at s3;have A_:=Aw.trans s3;have Kl:H3 d≈(.dT π):=s3 _ _ (s2 _ _ hdk);have DY:H3 t2≈(.tup ((D9 dd).map kV)):=by rw[iE];exact A_ _ _ AU
   have raised:∀(m:Nat),i=m->m≠8->j=k->∀ dx,H3 dx=none->E (.ref (Ds m)) (↥dx) (upd H3 dx (.xd [("number",pr.1)])):=λm em m8 ej dx hdx=>by
    subst em;refine re.num m8 dx _ (A_.trans (AJ hdx)) ?_;rw[uS,e1,ej]
   have okn:∀ x,H3 x=none->∀ o,okN pr.1 (upd H3 x o):=λx _ o=>⟨j,e1,V⟩;by_cases ej:j=k
   ·rw[ej,hdb]at hdd;cases hdd
    rcases hor with⟨i4,hb⟩ | ⟨i5,hb,hin⟩
    ·rw[hb];refine AY ⟨Z,Z,λx hx=>okn x hx _,λdx hdx=>raised 4 i4 0.2 ej dx hdx⟩
    ·rw[hb];refine AL ⟨Z,Z,d,Z,BR.t (k:=D9 db) Kl DY,Z,?_⟩;obtain⟨v,hv⟩:=uW (π:=π) (k:=D9 db) (by rw[hk,ej];exact Yd.mpr ⟨db,hin,Y⟩);rw[hv];exact AY ⟨Z,Z,λx hx=>okn x hx _,λdx hdx=>raised 5 i5 0.2 ej dx hdx⟩
   ·have jlt:j<k:=by omega
    have hin:(ds.take k)[j]?≈dd:=by rw[Rl,if_pos jlt];exact hdd
    rw[fb.ahead dd (Yc hin)];refine AL ⟨Z,Z,d,Z,BR.t (k:=D9 dd) Kl DY,Z,?_⟩;have Aq:D9 dd∉π.map 0.5:=by
     rw[hk];have:=jX fb.nd hin;rw[List.take_take,LM (My jlt)]at this;exact this
    rw[YZ Aq];refine AL ?_;have hkl:↑π=↑(ds.take j):=by have:=congrArg List.length hk;simpa using this
    have hil:↑(ds.take j)<=64:=by rw[Yy];omega
    refine⟨Z,Z,d,Z,Cs.t (k:=D9 dd) Kl DY (Br 0.0),?_⟩;refine⟨_,_,_,jlt,Y,λb o e=>?_,uS,?_⟩
    ·rw[AD (AI e hd)];exact A_ _ _ e
    ·rw[jR Aq,hk,Yq,hdd,B6];rfl
  ·rintro σ H' ⟨π,a,c,jk,rfl,s1,hdk,hk⟩;rw[YD]at jk;omega
def Wu(K:Fg)(C B:μ)(Ds:Nat->μ):Sp:=λvs H Q E=>Qo K C B vs H Q E\/X7 K C B Ds vs H Q E
def wY{K:Fg}{C B:μ}{Ds:Nat->μ}{Hx:Hp}{xb yb dy lz:μ}{pl:Int}{rows:RS}{ds:List (LS)}{us:LV}{r:Option (Nat×Nat)}{R:Hp->Prop}{E:XK}(ny:Hx yb=none)(ndy:Hx dy=none)(kd:Bc C Hx xb rows)(g:As rows)(hz:Hx lz≈(.lst us)\/Hx lz≈(.tup us))(hD:El Hx ds us)(ok:∀ d∈ds,↑d<=1000)(big:↑ds<=1000)(due:Due rows pl ds r)
  (h:∀ n:Nat,r=none->pl=n->1<=n->n<=4->MW rows n ds->∀ H',AA Hx H'->Fb C B H' yb xb rows n ds->R H') (re:∀ i j,r≈(i,j)->Mi Ds E Hx i j):
  Wu K C B Ds [.ref yb,.ref xb,.int pl,.ref lz] 4.7 (λv H3=>v=.non/\R H3) E:=by
 have Af:AA Hx 4.7:=λb o e=>by
  have e1:(upd Hx dy (.own yb)) b≈o:=by rw[AD (AI e ndy)];exact e
  rw[AD (AI e ny)];exact e1
 have dC:SqL K 4.7 lz us\/4.7 lz≈(.tup us):=hz.elim (λe=>.inl (SqL.of (Af _ _ e))) (λe=>.inr (Af _ _ e));cases r with
 | none =>
  cases due with
  | good n e n1 n4 gd =>
   subst e;exact .inl ⟨yb,dy,xb,lz,n,rows,ds,us,Y,uS,kd.mono Af,g,dC,hD.mono Af,gd,n1,n4,λH5 bd Ia=>⟨Y,h n rfl rfl n1 n4 gd H5 (λb o e=>Ia b o (AI e ny) (Af _ _ e)) bd⟩⟩
 | some ij=>exact .inr ⟨yb,dy,xb,lz,pl,rows,ds,us,ij.1,ij.2,Y,kd.mono Af,g,dC,hD.mono Af,ok,big,due,(re ij.1 ij.2 rfl).mono Af⟩
def sm{Ds:Nat->μ}(F:BK K "__init__" "Board.__init__" U4 f fd)(T:ZU mg)(TC:ET K C)(DD:Def K mg "check_deeds" OZ ["kinds","places","deeds"] fD fdD)(DI:Def K mg "is_call" K6 HW fI fdI)(MH:Ip K C fH fdH)
  (E4:Cf P w K mg base "NoDeed" (Ds 4) "number" (B0 (Ds 4) "number" okN) f4 TX) (E5:Cf P w K mg base "Same" (Ds 5) "number" (B0 (Ds 5) "number" okN) f5 TV) (T8:J4 K mg "NoBoard" (Ds 8)):AV P w K mg base 3.2 4 f fd JP (X7 K C B Ds):=by
 have GD:AV P w K mg base 3.2 3 fD fdD ["kinds","places","deeds"] (Y7 K C Ds):=vk DD DI T.enum T.len T.all TC MH E4 E5
 nomatch F.ok1 mN
 ·obtain⟨p,dx,k,l,pl,rows,ds,us,i,j,rfl,_⟩:=h;rfl
 ·obtain⟨p,dx,k,l,pl,rows,ds,us,i,j,rfl,kd,g,hl,hD,ok,big,due,re⟩:=h;obtain⟨b,hl⟩:∃ b,CF K b H l us:=by
   rcases hl with hl | hl
   ·exact⟨true,hl⟩
   ·exact⟨false,AH.of hl⟩
  obtain⟨t1,hP⟩:=T.places;obtain⟨t2,hM⟩:=T.deeds;have GQ:AZ 3 _:=hr.mono 0.2
  ac_nf
  refine'⟨_,pS (AR (Ct (Qv Iz Iz AG 4.2 (EB (v:=.int 4) 0.8 hP ⟨Z⟩))) (AF (OM (C:=Ds 8) Ak.of hr.hd T8.ex T8.ini 0.8 T8.m (pC (Hs ?f1) AB))) AS)
   (pS (AR (Ae FC (A9 EC 0.8 T.len Yw 3.3) (EB (v:=.int 64) 0.8 hM ⟨Z⟩) (Ad _)) (AF (OM (C:=Ds 8) Ak.of hr.hd T8.ex T8.ini 0.8 T8.m (pC (Hs ?f2) AB))) AS)
   (pS (Bj (JC GD GQ 0.8 DD.m DD.fn.kp DD.b .nil 4.1 (pC 1.6 (pC 4.2 3.3)))) CA)),?_⟩
  case f1=>exact CC EW (CC (MG (EB (v:=.int 4) 0.8 hP ⟨Z⟩)) (CC EW Ht))
  case f2=>exact CC EW (CC (MG (EB (v:=.int 64) 0.8 hM ⟨Z⟩)) (CC EW Ht))
  exists let b:=AE _ a;let c:=_;let e:=AE (A4 _ c _) b;let f:=_;AE (A4 _ f _) e _ _ _
  have hul:=↑hD;refine⟨Z,_,Z,Y,Z,?_⟩;have say:i=8->E (.ref (Ds 8)) none H:=λe=>re.plain e H (AA.refl _);by_cases h1:(1:Int)<=pl
  ·rw[show decide ((1:Int)<=pl)=true from Jb h1];refine AY ⟨_,Z,Y,Z,?_⟩;by_cases h4:pl<=4
   ·rw[show(decide (pl<=4))=true from Jb h4];refine AL ?_;refine⟨Z,_,Z,Jt hl,_,Z,Y,Z,?_⟩;cases due with
    | board h =>
     rw[show decide ((64:Int)<(↑us:Int))=true from Jb (by rcases h with z | z <;> omega)];exact AY ⟨by rfl',64,Y,Q,by rfl',λx=>⟨O,say rfl⟩⟩
    | bad n e n1 n4 few fb =>
     subst e;rw[show decide ((64:Int)<(↑us:Int))=false from Jc 0.0];exact AL ⟨Z,Z,Z,k,l,n,b,rows,ds,us,i,j,Y,kd,g,hl,hD,ok,n4,few,fb,re⟩
   ·rw[show(decide (pl<=4))=false from Jc h4];have e8:i=8:=by
     cases due with
     | board h=>rfl
     | bad n e n1 n4 few fb=>omega
    exact AY ⟨by rfl',4,Y,Q,by rfl',λx=>⟨O,say e8⟩⟩
  ·rw[show decide ((1:Int)<=pl)=false from Jc h1];have e8:i=8:=by
    cases due with
    | board h=>rfl
    | bad n e n1 n4 few fb=>omega
   exact AL ⟨Z,AY ⟨by rfl',4,Y,Q,by rfl',λx=>⟨O,say e8⟩⟩⟩
def N2(H:Hp)(n:AX)(v:V):Prop:=∃(t tp:μ) (vs:LV),v=V.ref t/\H t≈(.tup [.str n.1,.int n.2.1,.ref tp])/\H tp≈(.tup vs)/\C1 H n.2.2 vs
theorem N2.mono{H H':Hp}{n:AX}{v:V}(h:N2 H n v)(k:∀ b xs,H b≈(.tup xs)->H' b≈(.tup xs)):N2 H' n v:=by
 obtain⟨t,tp,vs,e,h1,h2,h3⟩:=h;exact⟨t,tp,vs,e,k _ _ h1,k _ _ h2,h3.mono k⟩
def N2.v{K:Fg}{H:Hp}{n:AX}{v:V}(h:N2 H n v):QC K H n v:=by
 obtain⟨t,tp,vs,e,h1,h2,h3⟩:=h;exact⟨t,tp,false,vs,e,h1,AH.of h2,h3⟩
def Df(H:Hp)(ns:List AX)(vs:LV):Prop:=Paired (N2 H) ns vs
theorem Df.mono{H H':Hp}{ns:List AX}{vs:LV}(h:Df H ns vs)(k:∀ b xs,H b≈(.tup xs)->H' b≈(.tup xs)):Df H' ns vs:=Paired.mapP h λ_ _ z=>z.mono k
abbrev XJ(K:Fg)(D f:μ)(fd:FuncData):Prop:=E7 K D "names" "Book.names" Uo ["self"] f fd
inductive Qz(C B D:μ)(vs:LV)(H:Hp)(Q:VK)(AO:XK):Prop
 | mk:∀(p k:μ) (rows:RS) (ns:List AX),vs=[.ref p]->Hw C B D H p k rows ns->C6 rows ns->(∀(l:μ) (us:LV) (H':Hp),H l=none->AA H H'->H' l≈(.lst us)->Df H' ns us->Q (.ref l) H')->Qz C B D vs H Q AO
theorem gy{H:Hp}:∀ {ps:List (LS×Str)}{us ws:LV},El H (ps.map 0.5) us->Paired (λ(p:V×V) v=>∃ q:μ,v=.ref q/\H q≈(.tup [p.1,p.2])) (us.zip ((ps.map (·.2)).map V.str)) ws->C1 H ps ws
 | [],_,_,.nil,.nil=>.nil
 | p :: ps,_,_,.cons ⟨t,e,h⟩ r,.cons ⟨q,e2,h2⟩ r2=>by
  subst e;exact .cons ⟨q,t,e2,h2,h⟩ (gy r r2)
abbrev pO:LS:=["self","triples","word","board","deeds"]
def mY:Am pO ["self"] (AN Uo):=by nofun
def tH(F:BK K "names" "Book.names" Uo f fd)(TD:Jn K D)(TB:QE K B)(MP:y_ K B fP fdP)(MD:xa K B fD fdD)(list:mg "list"=none)(tuple:mg "tuple"=none)(zip:mg "zip"=none):⋯ 2 f fd ["self"] (Qz C B D):=by
 have GP:⋯ 1 fP fdP ["self"] (YM C B):=uP MP.fn TB;have GD:⋯ 1 fD fdD ["self"] (X6 C B):=tU MD.fn TB list
 nomatch F.ok mY
 ·obtain⟨p,k,rows,ns,rfl,_⟩:=h;rfl
 ·obtain⟨p,k,rows,ns,rfl,bk,gn,q⟩:=h;have nd:=mY.nd;have hu:=Dm hr;obtain⟨dx,bo,mo,o,Ay,A8,h1,h2,h3,h4,h5,h6⟩:=bk.ex
  ac_nf
  refine'⟨_,(pS (sE 1 nd (B4 AB))
   (pS (Be Bs rfl (g7 7.0) 4.3
    (pS (sE 4 nd (vP rfl 0.8 tuple 0.8 zip (pC (Gp 7.7 TB.cl MD.me GD hr MD.b .nil Gi) (pC (Ju hu 7.0 4.2 0.4) AB))))
   (AF (Bj (De EF Gs Gr F4 1.6 (pC (BB (pC 4.2 (pC (Gp 7.7 TB.cl MP.me GP hr MP.b .nil Gi) 7.6))) AB))))))
   (AF (AW 1.6)))),?_⟩
  exists let b:=_;let c:=AE _ b;let e:=AE (Bq _ _ c) a;AE _ e _ _ _
  refine⟨BN _,λl hl=>?_⟩;have s1:AA H (upd H l (.lst [])):=AJ hl;let CU:NW:=λi σ H'=>∃(us:LV) (x y z:OV),σ=[↥(.ref p),↥(.ref l),x,y,z]/\AA H H'/\H' l≈(.lst us)/\Df H' (ns.take i) us;refine⟨Z,p,D,dx,_,Z,s1 _ _ h1,TD.cl,TD.nO,XC _ _ _,bo,o,Ay,Y,s1 _ _ h3,iW CU
   ⟨[],none,none,none,Y,s1,uS,by rw[CD];exact .nil⟩ (λi σ H' _ h0=>by obtain⟨_,_,_,_,_,s,_⟩:=h0;exact s _ _ h3) ?_ ?_⟩
  ·rintro i pr t σ H2 hi ⟨us,x,y,z,rfl,s2,Ao,HB⟩ ht;obtain⟨n,hn,e1,yb,e2,bd⟩:=BM h4 hi;have Ap:n∈ns:=Yc hn;have EJ:=gn.each n Ap;have Ey:AA H2 (upd H2 t (.tup [kV pr.1,pr.2])):=AJ ht;have DY:(upd H2 t (.tup [kV pr.1,pr.2])) t≈(.tup [.str n.1,.ref yb]):=by rw[uS,e1,e2];rfl
   generalize upd H2 t (.tup [kV pr.1,pr.2])=H3 at Ey DY;have s3:=s2.trans Ey;refine⟨t,Z,AH.of DY,Y,_,Z,_,Z,Y,?_⟩;have eG:=bd.mono s3;obtain⟨dxb,tb,usb,WL,_⟩:=eG.ex;obtain⟨mv,hmv,lm,rfl,hlm,_⟩:=h6.val gn.nd Ap;refine⟨Z,yb,dxb,Z,WL,tQ _ _ _,yb,k,rows,n.2.1,Z,eG,λld Sv qI WS=>?_⟩;have Af:AA H3 (upd H3 ld (.lst Sv)):=AJ qI;have SS:(upd H3 ld (.lst Sv)) ld≈(.lst Sv):=uS;have SU:=WS.mono Af;generalize upd H3 ld (.lst Sv)=H4 at Af SS SU;have s4:=s3.trans Af;refine⟨Z,p,D,dx,_,Z,s4 _ _ h1,TD.cl,TD.nM,yW _ _ _,Z,mo,Z,(by rw[<- hmv];exact BR.k (k:=Sum.inr n.1) (s4 _ _ h5)),ld,lm,_,Z,SqL.of SS,SqL.of (s4 _ _ hlm),λtz ws H5 htz Bp aj pq=>?_⟩;have s5:=s4.trans Bp;have qR:C1 H5 n.2.2 ws:=gy (SU.mono Bp) pq;have eF:=bd.mono s5;obtain⟨bN,tb5,usb5,qO,_⟩:=eF.ex;have C9:=Bp _ _ (Af _ _ (Ey _ _ Ao));refine⟨Z,.inl ⟨Y,_,SqL.of C9⟩,Z,Z,yb,bN,Z,qO,uO _ _ _,yb,k,rows,n.2.1,Z,eF,Z,sL 8.0,λt6 Ec=>?_⟩;have Cn:AA H5 (upd H5 t6 (.tup [.str n.1,.int n.2.1,.ref tz])):=AJ Ec;have SN:(upd H5 t6 (.tup [.str n.1,.int n.2.1,.ref tz])) t6≈(.tup [.str n.1,.int n.2.1,.ref tz]):=uS;generalize upd H5 t6 (.tup [.str n.1,.int n.2.1,.ref tz])=H6 at Cn SN;have Co:=Cn _ _ C9;have ul:↑us<=8:=by
    have a:=Yi HB;rw[Yy]at a;have b:=gn.few;omega
   have Vy:=(Ey.trans Af).trans (Bp.trans Cn);have tk:∀ b zs,H6 b≈(.tup zs)->(upd H6 l (.lst (us++[V.ref t6]))) b≈(.tup zs):=λb zs e=>by
    rw[AD (λz=>by rw[z,Co]at e;cases e)];exact e
   refine⟨l,_,Z,Y,Co,Br 0.0,us++[.ref t6],_,_,Z,λb u e=>?_,uS,?_⟩
   ·rw[AD (AI e hl)];exact Cn _ _ (s5 _ _ e)
   ·rw[Yq,hn];exact Cu ((HB.mono (Bx Vy)).mono tk) ⟨t6,tz,ws,Y,tk _ _ SN,tk _ _ (Cn _ _ aj),(qR.mono (Bx Cn)).mono tk⟩
  ·rintro σ H2 ⟨us,x,y,z,rfl,s2,Ao,HB⟩;have bl:↑Ay=↑ns:=(Yi h4).symm;rw[bl,Yx]at HB;exact⟨Z,q l us H2 hl s2 Ao HB⟩
structure Ei(H:Hp)(a:μ)(ws:LS):Prop where
 at_:H a≈(.lst 1.8)
 few:↑ws<=1000
 sh:∀ x∈ws,↑x<=1000
def Ei.mono{H H':Hp}{a:μ}{ws:LS}(h:Ei H a ws)(s:AA H H'):Ei H' a ws:=⟨s _ _ h.at_,h.few,h.sh⟩
def yD:V->Bool
 | .str x=>AM x
 | _=>false
def K8:LS->Bool
 | w :: r=>decide (w="kind")&&(r.all AM&&(decide (↑r=1) || (decide (2<↑r)&&decide (r.getD 1 ""="under"))))
 | []=>false
def Uw(w:Str)(r:LS):K8 (w :: r)=(decide (w="kind")&&(r.all AM&&(decide (↑r=1) || (decide (2<↑r)&&decide (r.getD 1 ""="under"))))):=rfl
def Iv:LS:=["1","2","3","4"]
def RE:LS->Bool
 | [a,b,c]=>decide (a="name")&&(AM b&&decide (c∈Iv))
 | _=>false
def RJ(ws:LS):Bool:=decide (ws.getD 0 ""="deed")&&(decide (5<=↑ws)&&(decide (ws.getD (↑ws - 2) ""="gives")&&(ws.drop 1).all AM))
inductive Od(vs:LV)(H:Hp)(Q:VK)(AO:XK):Prop
 | mk:∀(a:μ) (ws:LS),vs=[.ref a]->Ei H a ws->(∀ H',AA H H'->Q (.bl (ws.all AM)) H')->Od vs H Q AO
inductive ZK(vs:LV)(H:Hp)(Q:VK)(AO:XK):Prop
 | mk:∀(a:μ) (ws:LS),vs=[.ref a]->Ei H a ws->ws≠[]->(∀ H',AA H H'->Q (.bl (K8 ws)) H')->ZK vs H Q AO
inductive ZM(vs:LV)(H:Hp)(Q:VK)(AO:XK):Prop
 | mk:∀(a:μ) (ws:LS),vs=[.ref a]->Ei H a ws->ws≠[]->(∀ H',AA H H'->Q (.bl (RE ws)) H')->ZM vs H Q AO
inductive Z6(vs:LV)(H:Hp)(Q:VK)(AO:XK):Prop
 | mk:∀(a:μ) (ws:LS),vs=[.ref a]->Ei H a ws->ws≠[]->(∀ H',AA H H'->Q (.bl (RJ ws)) H')->Z6 vs H Q AO
def BE{ws:LS}{k:Nat}{x:Str}(h:ws[k]?≈x):Cr 1.8 (k:Int)≈(.str x):=EA (by rw[Yn,h];rfl)
def Wi{ws:LS}{k:Nat}{x:Str}(h1:1<=k)(h2:k<=↑ws)(h:ws[↑ws - k]?≈x):Cr 1.8 (-(k:Int))≈(.str x):=by
 have e:JQ ↑1.8 (-(k:Int))≈(↑ws - k):=by
  unfold JQ;rw[Ya,if_neg 0.0,if_pos 0.0]
  congr 1
  omega
 unfold Cr;rw[e];show 1.8[↑ws - k]?=_;rw[Yn,h];rfl
def eg(ws:LS)(j k:Nat)(h:j + k<=↑ws)(hk:1<=k):BQ 1.8 (↥(j:Int)) (↥(-(k:Int)))=((ws.drop j).take (↑ws - (j + k))).map V.str:=by
 unfold BQ;rw[HT.sIx_nat,<- List.map_drop,<- Mq,Ya];have e:HT.sIx ↑ws ↑ws (↥(-(k:Int)))=↑ws - k:=by
  show(if -(k:Int)<0 then(-(k:Int) + (↑ws:Int)).toNat else min (-(k:Int)).toNat ↑ws)=_;rw[if_pos 0.0];omega
 rw[e,LM 0.0,show ↑ws - k - j=↑ws - (j + k) by omega]
def RA(ws:LS)(k:Nat):BQ 1.8 (↥(k:Int)) none=(ws.drop k).map V.str:=by
 unfold BQ;rw[HT.sIx_nat,HT.sIx_none,<- List.map_drop,<- Mq,Ya]
 congr 1
 by_cases h:k<=↑ws
 ·rw[LM h,J8 (by rw[Mo];exact Ye _)]
 ·rw[Nat.min_eq_right 0.0,List.drop_of_length_le (Ye _),List.drop_of_length_le 0.0,List.take_nil]
def Ya3:(["text"]:LS).Nodup:=by rfl'
def Yaj:Am ["texts"] ["texts"] (AN LB):=by nofun
def vF(F:Def K mg "are_words" LB ["texts"] f fd)(all:mg "all"=none)(DW:Def K mg "is_word" HM ["text"] fW fdW)(GW:⋯ 1 fW fdW ["text"] JF):⋯ 2 f fd ["texts"] Od:=by
 nomatch F.fn.ok Yaj
 ·obtain⟨a,ws,rfl,_⟩:=h;rfl
 ·obtain⟨a,ws,rfl,hw,q⟩:=h
  ac_nf
  refine'⟨_,AF (AW (A9 (UA rfl) 0.8 all VZ (pC ?eC AB))),?_⟩
  case eC=>exact(EX ["text"] [] [] (λ_=>B5 (osc:=AN LB) (on:=["texts"]) 1.2 rfl rfl rfl) (Ci 0.9) (λC s H fp=>CB (i:=0) Ya3 rfl 1.7 1.4) 2.6 (λC s H fp=>Ag DW GW hr 3.5))
  refine⟨Z,a,Y,⟨_,SqL.of hw.at_⟩,gX (Ck (xs:=ws.map V.str)) (sL (by rw[Ya];have:=hw.few;omega)) (λ_=>true) (λ_ x v _=>v=.bl (yD x)) (λ_ _ _ _ _ _ z=>z) (λH' s'=>SqL.of (s' _ _ hw.at_)) (λx H' R s' hx hR=>hR H' (AA.refl _)) ?_ ?_⟩
  ·intro D x H' R s' _ _ hx _ hR;obtain⟨y,hy,rfl⟩:=Yd.mp hx;exact⟨Z,y,Y,hw.sh y hy,λH2 s2=>hR _ H2 s2 rfl⟩
  ·intro D H' ys hD s' hl hP;rw[Mw.mpr 0.4]at hP;have e:=RL hP;rw[Es]at e;refine⟨D,ws.map AM,Y,SqL.of (by rw[hl,e,Es];rfl),?_⟩;have e2:(ws.map AM).all id=ws.all AM:=by rw[Mu];rfl
   show Q (.bl ((ws.map AM).all id)) H';rw[e2];exact q H' s'
def Yah:Am ["words"] ["words"] (AN U2):=by nofun
def ux(F:Def K mg "is_kind_row" U2 ["words"] f fd)(len:mg "len"=none)(DA:Def K mg "are_words" LB ["texts"] fA fdA)(GA:⋯ 2 fA fdA ["texts"] Od):⋯ 3 f fd ["words"] ZK:=by
 nomatch F.fn.ok Yah
 ·obtain⟨a,ws,rfl,_⟩:=h;rfl
 ·obtain⟨a,ws,rfl,hw,hn,q⟩:=h
  ac_nf
  refine'⟨_,(pS (AR (PW.pt (Jm (Ae QI 2.7 Ah (Ad _)) (Kx (Ct (Cg (Ag DA GA hr (pC (F0 (r:=Gd K) Hu 0.9 (FH AG) HH) AB))))))) (AF (AW FX)) AS)
   (AF (AW (Td (DV BS 5.9 AG (Ad _)) (JA (HG (DV FC 5.9 AG (Ad _)) (JA (DV BS 2.7 Ah (Ad _))))))))),?_⟩
  exists AE _ a _ _ _
  rcases ws with _ | ⟨x,r⟩
  ·exact absurd rfl hn
  have a0:Cr ((x :: r).map V.str) 0≈(.str x):=BE (ws:=x :: r) (k:=0) rfl;refine⟨Z,a,_,_,Z,Y,SqL.of hw.at_,a0,Y,Z,?_⟩;by_cases h1:x="kind"
  ·rw[show(!decide (V.str x=V.str "kind"))=false by rw[h1,Jb rfl];rfl];refine AL ⟨Z,Z,a,Z,SqL.of hw.at_,λp hp=>?_⟩;have s1:AA H (upd H p (.lst (BQ ((x :: r).map V.str) (↥1) none))):=AJ hp;have h2:(upd H p (.lst (BQ ((x :: r).map V.str) (↥1) none))) p≈(.lst (r.map V.str)):=by rw[uS];exact congrArg 12.6 (RA (x :: r) 1)
   generalize upd H p (.lst (BQ ((x :: r).map V.str) (↥1) none))=H1 at s1 h2 ⊢;refine⟨p,r,Y,⟨h2,by have:=hw.few;rw[CS]at this;omega,λy hy=>hw.sh y (C7 _ hy)⟩,λH2 s2=>⟨Z,?_⟩⟩;have Aw:=s1.trans s2;have q:=q H2 Aw;rw[Uw]at q;rw[Jb h1,Du]at q;cases ha:r.all AM with
   | false =>
    rw[ha]at q;exact AY q
   | true =>
    rw[ha,Du]at q;have Ao:=SqL.of (K:=K) (Aw _ _ hw.at_);have CH:↑((x :: r).map V.str)=↑r + 1:=by rw[Ya,CS]
    refine AL ⟨Z,a,Z,.inl Ao,Y,Z,?_⟩;rw[CH];by_cases e2:↑r=1
    ·rw[Jb e2,Bool.true_or]at q;rw[Jb (show V.int ((↑r + 1:Nat):Int)=V.int 2 by rw[e2];rfl)];exact AY q
    ·rw[Jc e2,Ot]at q;rw[Jc (λz=>e2 (by have:=V.int.inj z;omega))];refine AL ⟨Z,a,Z,.inl Ao,_,Z,Y,Z,?_⟩;rw[CH];by_cases e3:2<↑r
     ·rw[Jb e3,Du]at q;rw[Jb (show(3:Int)<((↑r + 1:Nat):Int) by omega)];obtain⟨y,hy⟩:∃ y,r[1]?≈y:=⟨r[1],Yu 0.0⟩;rw[IC,hy]at q;refine AY ⟨Z,a,_,_,Z,Y,Ao,BE (ws:=x :: r) (k:=2) (by rw[List.getElem?_cons_succ];exact hy),Y,?_⟩;rw[show decide (V.str y=V.str "under")=decide (y="under")from J6.mpr ⟨λz=>V.str.inj z,λz=>by rw[z]⟩];exact q
     ·rw[Jc e3,LK]at q;rw[Jc (show ¬ (3:Int)<((↑r + 1:Nat):Int) by omega)];exact AL q
  ·rw[show(!decide (V.str x=V.str "kind"))=true by rw[Jc (λz=>h1 (V.str.inj z))];rfl];have q:=q H (AA.refl _);rw[Uw]at q;rw[Jc h1,LK]at q;exact AY q
def l9(K:Fg)(mg:Str->OU):Prop:=∃ a,mg "FIGURES"≈(.ref a)/\∀ H,AH K H a (Iv.map V.str)
def Yag:Am ["words"] ["words"] (AN U3):=by nofun
def yC(c:Str):Bh (.str c) (Iv.map V.str)=decide (c∈Iv):=FD c Iv
def vE{ws:LS}(h:↑ws≠3):RE ws=false:=by
 rcases ws with _ | ⟨a,_ | ⟨b,_ | ⟨c,_ | ⟨d,r⟩⟩⟩⟩
 ·rfl
 ·rfl
 ·rfl
 ·exact absurd rfl h
 ·rfl
def u1(F:Def K mg "is_name_row" U3 ["words"] f fd)(len:mg "len"=none)(FG:l9 K mg)(DW:Def K mg "is_word" HM ["text"] fW fdW)(GW:⋯ 1 fW fdW ["text"] JF):⋯ 2 f fd ["words"] ZM:=by
 nomatch F.fn.ok Yag
 ·obtain⟨a,ws,rfl,_⟩:=h;rfl
 ·obtain⟨a,ws,rfl,hw,hn,q⟩:=h;obtain⟨fg,mgF,hF⟩:=FG
  ac_nf
  refine'⟨_,(AF (AW (HG (DV BS 5.9 AG (Ad _)) (HG (DV BS 2.7 Ah (Ad _)) (HG (Ag DW GW hr (pC 2.7 AB)) (JA (DV (r:=Dz K false) HL 2.7 (EB (v:=.ref fg) 0.8 mgF rfl) 1.3))))))),?_⟩;have hl:=SqL.of (K:=K) hw.at_;refine⟨Z,a,Z,.inl hl,Y,Z,?_⟩;rw[Ya];by_cases e:↑ws=3
  ·obtain⟨x,y,z,rfl⟩:∃ x y z,ws=[x,y,z]:=by
    rcases ws with _ | ⟨x,_ | ⟨y,_ | ⟨z,_ | ⟨d,r⟩⟩⟩⟩
    ·cases e
    ·cases e
    ·cases e
    ·exact⟨x,y,z,Y⟩
    ·simp at e
   have q1:∀ H',AA H H'->Q (.bl (decide (x="name")&&(AM y&&decide (z∈Iv)))) H':=q;rw[Jb (show V.int (↑([x,y,z]:LS):Int)=V.int 3 from rfl)];refine AY ⟨Z,a,_,_,Z,Y,hl,BE (ws:=[x,y,z]) (k:=0) rfl,Y,Z,?_⟩;rw[show decide (V.str x=V.str "name")=decide (x="name")from J6.mpr ⟨λz=>V.str.inj z,λz=>by rw[z]⟩];by_cases h1:x="name"
   ·rw[Jb h1]at q1 ⊢;rw[Du]at q1;refine AY ⟨Z,a,_,_,Z,Y,hl,BE (ws:=[x,y,z]) (k:=1) rfl,y,Y,hw.sh y 1.1,λH1 s1=>⟨Z,?_⟩⟩;have q1:=q1 H1 s1;cases hy:AM y with
    | false =>
     rw[hy]at q1;exact AL q1
    | true =>
     rw[hy,Du,<- yC]at q1;exact AY ⟨Z,a,_,_,Z,Y,SqL.of (s1 _ _ hw.at_),BE (ws:=[x,y,z]) (k:=2) rfl,fg,Z,.inr (hF H1),Y,by rfl',q1⟩
   ·rw[Jc h1]at q1 ⊢;exact AL (q1 H (AA.refl _))
  ·have q:=q H (AA.refl _);rw[vE e]at q;rw[Jc (λz=>e (by have:=V.int.inj z;omega))];exact AL q
def Yai:Am ["words"] ["words"] (AN U1):=by nofun
def uu(F:Def K mg "is_deed_row" U1 ["words"] f fd)(len:mg "len"=none)(DA:Def K mg "are_words" LB ["texts"] fA fdA)(GA:⋯ 2 fA fdA ["texts"] Od):⋯ 3 f fd ["words"] Z6:=by
 nomatch F.fn.ok Yai
 ·obtain⟨a,ws,rfl,_⟩:=h;rfl
 ·obtain⟨a,ws,rfl,hw,hn,q⟩:=h
  ac_nf
  refine'⟨_,(pS (AR (PW.pt (Jm (Ae QI 2.7 Ah (Ad _)) (Kx (Ae L_ 5.9 AG (Ad _))))) (AF (AW FX)) AS)
   (AF (AW (HG (DV BS (Ac (r:=A0 K) Au 0.9 (QJ Qc AG) 0.4) Ah (Ad _)) (JA (Ag DA GA hr (pC (F0 (r:=Gd K) Hu 0.9 (FH AG) HH) AB))))))),?_⟩
  exists AE _ a _ _ _
  have hl:=SqL.of (K:=K) hw.at_;obtain⟨x,hx⟩:∃ x,ws[0]?≈x:=⟨ws[0]'(Oo.mpr hn),Yu _⟩;unfold RJ at q;rw[IC,hx,Rt]at q;refine⟨Z,a,_,_,Z,Y,hl,BE (k:=0) hx,Y,Z,?_⟩;by_cases h1:x="deed"
  ·rw[show(!decide (V.str x=V.str "deed"))=false by rw[h1,Jb rfl];rfl];rw[Jb h1,Du]at q;refine AL ⟨Z,a,Z,.inl hl,_,Z,Y,Z,?_⟩;rw[Ya];by_cases h5:5<=↑ws
   ·rw[Jb h5,Du]at q;rw[Jc (show ¬ ((↑ws:Nat):Int)<5 by omega)];obtain⟨y,hy⟩:∃ y,ws[↑ws - 2]?≈y:=⟨ws[↑ws - 2]' 0.0,Yu _⟩;rw[IC,hy,Rt]at q;refine AL ⟨Z,Z,a,_,_,Z,Y,hl,Wi (k:=2) 0.2 0.0 hy,Y,Z,?_⟩;rw[show decide (V.str y=V.str "gives")=decide (y="gives")from J6.mpr ⟨λz=>V.str.inj z,λz=>by rw[z]⟩];by_cases h2:y="gives"
    ·rw[Jb h2]at q ⊢;rw[Du]at q;refine AY ⟨Z,Z,a,Z,hl,λp hp=>?_⟩;have s1:AA H (upd H p (.lst (BQ 1.8 (↥1) none))):=AJ hp;have h3:(upd H p (.lst (BQ 1.8 (↥1) none))) p≈(.lst ((ws.drop 1).map V.str)):=by rw[uS];exact congrArg 12.6 (RA ws 1)
     generalize upd H p (.lst (BQ 1.8 (↥1) none))=H1 at s1 h3 ⊢;exact⟨p,ws.drop 1,Y,⟨h3,by rw[Mo];have:=hw.few;omega,λy hy=>hw.sh y (List.mem_of_mem_drop hy)⟩,λH2 s2=>q H2 (s1.trans s2)⟩
    ·rw[Jc h2]at q ⊢;exact AL (q H (AA.refl _))
   ·rw[Jc h5,LK]at q;rw[Jb (show((↑ws:Nat):Int)<5 by omega)];exact AY (q H (AA.refl _))
  ·rw[show(!decide (V.str x=V.str "deed"))=true by rw[Jc (λz=>h1 (V.str.inj z))];rfl];rw[Jc h1,LK]at q;exact AY (q H (AA.refl _))
inductive ZJ(vs:LV)(H:Hp)(Q:VK)(AO:XK):Prop
 | mk:∀(a:μ) (ws:LS) (x:Str),vs=[.ref a]->Ei H a ws->ws[1]?≈x->(∀ t u H',AA H H'->H' t≈(.tup [.str x,.ref u])->H' u≈(.lst ((ws.drop 3).map V.str))->H u=none->Q (.ref t) H')->ZJ vs H Q AO
inductive ZL(vs:LV)(H:Hp)(Q:VK)(AO:XK):Prop
 | mk:∀(a:μ) (ws:LS) (x c:Str) (n:Int),vs=[.ref a]->Ei H a ws->ws[1]?≈x->ws[2]?≈c->PySem.intText? c≈n->↑c<=640->(∀ t H',AA H H'->H' t≈(.tup [.str x,.int n])->Q (.ref t) H')->ZL vs H Q AO
inductive Z5(vs:LV)(H:Hp)(Q:VK)(AO:XK):Prop
 | mk:∀(a:μ) (ws:LS) (m:Str),vs=[.ref a]->Ei H a ws->4<=↑ws->ws[↑ws - 1]?≈m->(∀ t c H',AA H H'->H' t≈(.tup [.ref c,.str m])->H' c≈(.tup 5.1)->Q (.ref t) H')->Z5 vs H Q AO
def Yej:Am ["words"] ["words"] (AN UN):=by nofun
def tE(F:Def K mg "kind_of" UN ["words"] f fd):⋯ 1 f fd ["words"] ZJ:=by
 nomatch F.fn.ok Yej
 ·obtain⟨a,ws,x,rfl,_⟩:=h;rfl
 ·obtain⟨a,ws,x,rfl,hw,hx,q⟩:=h
  ac_nf
  refine'⟨_,(AF (AW (BB (pC 2.7 (pC (F0 (r:=Gd K) Hu 0.9 (FH AG) HH) AB))))),?_⟩;have hl:=SqL.of (K:=K) hw.at_;refine⟨_,rfl,a,_,_,_,rfl,rfl,hl,BE (k:=1) hx,_,rfl,_,rfl,a,_,rfl,hl,λu hu=>⟨sL 7.9,λt ht=>?_⟩⟩;have s1:AA H (upd H u (.lst (BQ 1.8 (↥3) none))):=AJ hu;have h3:(upd H u (.lst (BQ 1.8 (↥3) none))) u≈(.lst ((ws.drop 3).map V.str)):=by rw[uS];exact congrArg 12.6 (RA ws 3)
  exact q t u _ (s1.trans (AJ ht)) uS (AJ ht _ _ h3) hu
def Yeg:Am ["words"] ["words"] (AN UO):=by nofun
def tK(F:Def K mg "name_of" UO ["words"] f fd)(int:mg "int"=none):⋯ 1 f fd ["words"] ZL:=by
 nomatch F.fn.ok Yeg
 ·obtain⟨a,ws,x,c,n,rfl,_⟩:=h;rfl
 ·obtain⟨a,ws,x,c,n,rfl,hw,hx,hc,hn,hz,q⟩:=h
  ac_nf
  refine'⟨_,(AF (AW (BB (pC 2.7 (pC (EE iR 0.8 int Rx (pC 2.7 AB)) AB))))),?_⟩;have hl:=SqL.of (K:=K) hw.at_;exact⟨_,rfl,a,_,_,_,rfl,rfl,hl,BE (k:=1) hx,_,rfl,a,_,_,_,rfl,rfl,hl,BE (k:=2) hc,c,n,rfl,hn,hz,sL 7.9,λt ht=>q t _ (AJ ht) uS⟩
def Yen:Am ["words"] ["words"] (AN Zip):=by nofun
def sr(F:Def K mg "deed_of" Zip ["words"] f fd)(tuple:mg "tuple"=none):⋯ 1 f fd ["words"] Z5:=by
 nomatch F.fn.ok Yen
 ·obtain⟨a,ws,m,rfl,_⟩:=h;rfl
 ·obtain⟨a,ws,m,rfl,hw,h4,hm,q⟩:=h
  ac_nf
  refine'⟨_,(AF (AW (BB (pC (EE OY 0.8 tuple Mr (pC (F0 (r:=Gd K) Hu 0.9 (FH AG) (FH (QJ Qc AG))) AB)) (pC (Ac (r:=A0 K) Au 0.9 (QJ Qc AG) 0.4) AB))))),?_⟩;have hl:=SqL.of (K:=K) hw.at_;refine⟨_,rfl,_,rfl,_,rfl,_,rfl,a,_,rfl,hl,λp hp=>?_⟩;have s1:AA H (upd H p (.lst (BQ 1.8 (↥2) (↥(-2))))):=AJ hp;have h3:(upd H p (.lst (BQ 1.8 (↥2) (↥(-2))))) p≈(.lst 5.1):=by rw[uS];exact congrArg 12.6 (eg ws 2 2 0.0 0.2)
  generalize upd H p (.lst (BQ 1.8 (↥2) (↥(-2))))=H1 at s1 h3;refine⟨p,_,rfl,.inl ⟨SqL.of h3,λc hc=>?_⟩⟩;have s2:AA H1 (upd H1 c (.tup 5.1)):=AJ hc;have h4:(upd H1 c (.tup 5.1)) c≈(.tup 5.1):=uS;generalize upd H1 c (.tup 5.1)=H2 at s2 h4 ⊢;exact⟨_,rfl,_,rfl,a,_,_,_,rfl,rfl,SqL.of (s2 _ _ (s1 _ _ hw.at_)),Wi (k:=1) 0.2 0.0 hm,sL 7.9,λt ht=>q t c _ ((s1.trans s2).trans (AJ ht)) uS (AJ ht _ _ h4)⟩
def YL(a b c:Str):(a++b)++c=a++(b++c):=by
 show(⟨(a.cps++b.cps)++c.cps⟩:Str)=⟨a.cps++(b.cps++c.cps)⟩;rw[Array.append_assoc]
def DZ(r:Str)(us:LS):Str:=us.foldl (λr u=>(r++" ")++u) r
theorem OJ:∀(us:LS) (x:Str),Builtin.Str.glued " " (x :: us)=DZ x us
 | [],x=>rfl
 | u :: us,x=>OJ us ((x++" ")++u)
def FA(w:Str)(ups:LS):Str:=if ups.isEmpty then "kind "++w else DZ (("kind "++w)++" under") ups
def Gg(w:Str)(c:LS)(m:Str):Str:=(DZ ("deed "++w) c++" gives ")++m
def Ek(n:AX):Str:=(("name "++n.1)++" ")++Str.ofString (toString (n.2.1:Int))
def iB(w:Str):Builtin.Str.glued " " ["kind",w]="kind "++w:=by
 rw[OJ];show((("kind":Str)++" ")++w)=_;rw[show(("kind":Str)++" ")="kind " by rfl']
def iC(w:Str)(ups:LS):Builtin.Str.glued " " (((["kind",w]:LS)++(["under"]:LS))++ups)=DZ (("kind "++w)++" under") ups:=by
 show Builtin.Str.glued " " ("kind" :: w :: "under" :: ups)=_;rw[OJ];show DZ (((((("kind":Str)++" ")++w)++" ")++"under")) ups=_;rw[show(("kind":Str)++" ")="kind " by rfl',YL ("kind "++w) " " "under",show((" ":Str)++"under")=" under" by rfl']
def e_(w:Str)(c:LS)(m:Str):Builtin.Str.glued " " (((["deed",w]:LS)++c)++(["gives",m]:LS))=Gg w c m:=by
 show Builtin.Str.glued " " ("deed" :: w :: (c++(["gives",m]:LS)))=_;rw[OJ];show DZ ((("deed":Str)++" ")++w) (c++(["gives",m]:LS))=_;rw[show(("deed":Str)++" ")="deed " by rfl'];unfold DZ Gg;rw[List.foldl_append];show((((DZ ("deed "++w) c++" ")++"gives")++" ")++m)=_;rw[YL (DZ ("deed "++w) c) " " "gives",YL (DZ ("deed "++w) c) (" "++"gives") " ",show(((" ":Str)++"gives")++" ")=" gives " by rfl']
theorem Wn:∀ {us:LS}{r:Str},(∀ u∈us,↑u<=8)->↑(DZ r us)<=↑r + 9 * ↑us
 | [],r,_=>by show ↑r<=_;omega
 | u :: us,r,h=>by
  have h1:=Wn (us:=us) (r:=(r++" ")++u) λx hx=>h x (.tail _ hx);have h2:=h u (.head _);rw[strLen_append,strLen_append]at h1;have h3:(" ":Str).length=1:=by rfl'
  show(DZ ((r++" ")++u) us).length<=_;rw[CS];omega
def zG{w m:Str}{c:LS}(hw:↑w<=8)(hm:↑m<=8)(hl:↑c<=4)(h:∀ u∈c,↑u<=8):↑(Gg w c m)<=100:=by
 have h3:("deed ":Str).length=5:=by rfl'
 have h4:(" gives ":Str).length=7:=by rfl'
 have h1:=Wn (r:="deed "++w) h;unfold Gg;rw[strLen_append]at h1;rw[strLen_append,strLen_append];omega
def XH:∀ {n:Nat},1<=n->n<=4->↑(Str.ofString (toString (n:Int)))<=1
 | 1,_,_=>by rfl'
 | 2,_,_=>by rfl'
 | 3,_,_=>by rfl'
 | 4,_,_=>by rfl'
 | 0,h,_=>by omega
 | n + 5,_,h=>by omega
def zO{n:AX}(hw:↑n.1<=8)(h1:1<=n.2.1)(h4:n.2.1<=4):↑(Ek n)<=100:=by
 have a:=XH h1 h4;have h3:("name ":Str).length=5:=by rfl'
 have h5:(" ":Str).length=1:=by rfl'
 unfold Ek;rw[strLen_append,strLen_append,strLen_append];omega
def DO(n:AX):LS:=Ek n :: n.2.2.map λp=>Gg n.1 p.1 p.2
def Ej(rows:RS):LS:=rows.map λr=>FA r.1 r.2
def Iw(rows:RS)(ns:List AX):LS:=Ej rows++ns.flatMap DO
def t9{rows:RS}(g:As rows){n:AX}(h:UP rows n):↑(DO n)<=65/\∀ y∈DO n,↑y<=100:=by
 have hf:=h.deeds.few;rw[Ya]at hf;refine⟨by unfold DO;rw[CS,Ya];omega,λy hy=>?_⟩
 rcases Yv.mp hy with e | hy
 ·rw[e];exact zO (DS h.word).2 h.one h.four
 ·obtain⟨p,hp,e⟩:=Yd.mp hy;have gc:=h.deeds.call p.1 (Yd.mpr ⟨p,hp,Y⟩);have wd:∀ x∈rows.map 0.5,↑x<=8:=λx hx=>by
   obtain⟨r,hr,e⟩:=Yd.mp hx;rw[<- e];exact(DS (g.word r hr)).2
  rw[<- e];exact zG (DS h.word).2 (wd _ (h.made p hp)) (by rw[gc.len];exact h.four) λu hu=>wd _ (gc.known u hu)
theorem Xm{rows:RS}(g:As rows):∀ {ns:List AX},(∀ n∈ns,UP rows n)->↑(ns.flatMap DO)<=65 * ↑ns/\∀ y∈ns.flatMap DO,↑y<=100
 | [],_=>⟨Ye _,λ_ h=>nomatch h⟩
 | n :: ns,h=>by
  obtain⟨a,b⟩:=t9 g (h n (.head _));obtain⟨c,d⟩:=Xm g (ns:=ns) λm hm=>h m (.tail _ hm);rw[List.flatMap_cons,Ym,CS];exact⟨V,λy hy=>(Yo.mp hy).elim (b y) (d y)⟩
inductive QZ(vs:LV)(H:Hp)(Q:VK)(AO:XK):Prop
 | mk:∀(w:Str) (t:μ) (ups:LS),vs=[.str w,.ref t]->H t≈(.tup (ups.map V.str))->↑w<=8->↑ups<=8->(∀ u∈ups,↑u<=8)->(∀ H',AA H H'->Q (.str (FA w ups)) H')->QZ vs H Q AO
inductive QX(vs:LV)(H:Hp)(Q:VK)(AO:XK):Prop
 | mk:∀(w m:Str) (t:μ) (c:LS),vs=[.str w,.ref t,.str m]->H t≈(.tup (c.map V.str))->↑w<=8->↑m<=8->↑c<=4->(∀ u∈c,↑u<=8)->(∀ H',AA H H'->Q (.str (Gg w c m)) H')->QX vs H Q AO
def mZ:Am ["word","ups","words"] ["word","ups"] (AN Ua):=by nofun
def yQ(F:Def K mg "kind_row" Ua ["word","ups"] f fd)(list:mg "list"=none):⋯ 1 f fd ["word","ups"] QZ:=by
 nomatch F.fn.ok mZ
 ·obtain⟨x,t,ups,rfl,_⟩:=h;rfl
 ·obtain⟨x,t,ups,rfl,ht,hx,hl,Ii,q⟩:=h;have nd:=mZ.nd
  ac_nf
  refine'⟨_,(pS (sE 2 nd (B4 (pC Ah 3.5)))
   (pS (AR (Qw 1.6 (λ_=>rfl)) (AF (sE 2 nd (Ar MF (Ar MF 4.2 (B4 (pC Ah AB))) (EE Uv 0.8 list LP 3.1)))) AS)
   (AF (AW (De Ow PySem.F.slot_str_join PySem.F.type_str_join gH Ah 2.2))))),?_⟩
  exists let b:=_;let c:=AE (A4 _ b _) a;AE _ c _ _ _
  have e1:(" ":Str).length=1:=by rfl'
  have ek:("kind":Str).length=4:=by rfl'
  have eu:("under":Str).length=5:=by rfl'
  refine⟨_,rfl,sL 7.9,λl Dj=>?_⟩;have s1:AA H (upd H l (.lst [.str "kind",.str x])):=AJ Dj;have A6:(upd H l (.lst [.str "kind",.str x])) l≈(.lst [.str "kind",.str x]):=uS;generalize upd H l (.lst [.str "kind",.str x])=H1 at s1 A6;refine⟨_,rfl,_,.inr (.inl ⟨_,AH.of (s1 _ _ ht),rfl⟩),BO (λz=>?_) (λz=>?_)⟩
  ·have ne:ups.isEmpty=false:=by
    cases ups with
    | nil=>cases z
    | cons=>rfl
   refine⟨Z,O,λl2 Ao=>?_⟩;have G5:AA H1 (upd H1 l2 (.lst [.str "under"])):=AJ Ao;have IU:(upd H1 l2 (.lst [.str "under"])) l2≈(.lst [.str "under"]):=uS;generalize upd H1 l2 (.lst [.str "under"])=H2 at G5 IU;refine⟨l,l2,_,Z,Y,G5 _ _ A6,IU,sL 8.0,λl3 BA=>?_⟩;have Ey:AA H2 (upd H2 l3 (.lst ([.str "kind",.str x]++[.str "under"]))):=AJ BA;have IT:(upd H2 l3 (.lst ([.str "kind",.str x]++[.str "under"]))) l3≈(.lst ([.str "kind",.str x]++[.str "under"])):=uS;generalize upd H2 l3 (.lst ([.str "kind",.str x]++[.str "under"]))=H3 at Ey IT;have s3:=(s1.trans G5).trans Ey;refine⟨Z,t,Z,.inr (AH.of (s3 _ _ ht)),λl4 Bt=>?_⟩;have Af:AA H3 (upd H3 l4 (.lst (ups.map V.str))):=AJ Bt;have IS:(upd H3 l4 (.lst (ups.map V.str))) l4≈(.lst (ups.map V.str)):=uS;generalize upd H3 l4 (.lst (ups.map V.str))=H4 at Af IS;refine⟨l3,l4,_,Z,Y,Af _ _ IT,IS,sL (by rw[Ya];show 3 + _<=_;omega),λl5 C9=>?_⟩;have Bp:AA H4 (upd H4 l5 (.lst (([.str "kind",.str x]++[.str "under"])++ups.map V.str))):=AJ C9;have IQ:(upd H4 l5 (.lst (([.str "kind",.str x]++[.str "under"])++ups.map V.str))) l5≈(.lst ((((["kind",x]:LS)++(["under"]:LS))++ups).map V.str)):=uS;generalize upd H4 l5 (.lst (([.str "kind",.str x]++[.str "under"])++ups.map V.str))=H5 at Bp IQ;refine⟨Y,Z,_,l5,_,8,Y,Y,IQ,λy hy=>?_,?_,?_⟩
   ·rcases Yo.mp hy with hy | hy
    ·rcases Yo.mp hy with hy | hy
     ·rcases Yv.mp hy with e | hy
      ·rw[e];omega
      ·rw[Yf.mp hy];exact hx
     ·rw[Yf.mp hy];omega
    ·exact Ii y hy
   ·rw[Ym,e1];show(3 + _) * 8 + (3 + _) * 1<=_;omega
   ·rw[iC];have:FA x ups=DZ (("kind "++x)++" under") ups:=by unfold FA;rw[ne];rfl
    rw[<- this];exact q _ ((s3.trans Af).trans Bp)
  ·have e:ups=[]:=by
    cases ups with
    | nil=>rfl
    | cons=>exact absurd rfl z
   subst e;refine⟨Y,Z,_,l,(["kind",x]:LS),8,Y,Y,A6,λy hy=>?_,?_,?_⟩
   ·rcases Yv.mp hy with e | hy
    ·rw[e];omega
    ·rw[Yf.mp hy];exact hx
   ·rw[e1];show 2 * 8 + 2 * 1<=_;omega
   ·rw[iB];exact q _ s1
def mU:Am ["word","call","made"] ["word","call","made"] (AN UZ):=by nofun
def yM(F:Def K mg "deed_row" UZ ["word","call","made"] f fd)(list:mg "list"=none):⋯ 1 f fd ["word","call","made"] QX:=by
 nomatch F.fn.ok mU
 ·obtain⟨x,m,t,c,rfl,_⟩:=h;rfl
 ·obtain⟨x,m,t,c,rfl,ht,hx,hm,hl,Ii,q⟩:=h;have nd:=mU.nd
  ac_nf
  refine'⟨_,AF (AW (De Ow PySem.F.slot_str_join PySem.F.type_str_join gH Ah (pC (Ar MF (Ar MF (B4 (pC Ah 3.5)) (EE Uv 0.8 list LP 3.1)) (B4 (pC Ah 2.2))) AB))),?_⟩;have e1:(" ":Str).length=1:=by rfl'
  have ek:("deed":Str).length=4:=by rfl'
  have eu:("gives":Str).length=5:=by rfl'
  refine⟨Y,Z,W,λl Dj=>?_⟩;have s1:AA H (upd H l (.lst [.str "deed",.str x])):=AJ Dj;have A6:(upd H l (.lst [.str "deed",.str x])) l≈(.lst [.str "deed",.str x]):=uS;generalize upd H l (.lst [.str "deed",.str x])=H1 at s1 A6;refine⟨Z,t,Z,.inr (AH.of (s1 _ _ ht)),λl2 Ao=>?_⟩;have G5:AA H1 (upd H1 l2 (.lst (c.map V.str))):=AJ Ao;have IU:(upd H1 l2 (.lst (c.map V.str))) l2≈(.lst (c.map V.str)):=uS;generalize upd H1 l2 (.lst (c.map V.str))=H2 at G5 IU;refine⟨l,l2,_,Z,Y,G5 _ _ A6,IU,sL (by rw[Ya];show 2 + _<=_;omega),λl3 BA=>?_⟩;have Ey:AA H2 (upd H2 l3 (.lst ([.str "deed",.str x]++c.map V.str))):=AJ BA;have IT:(upd H2 l3 (.lst ([.str "deed",.str x]++c.map V.str))) l3≈(.lst ([.str "deed",.str x]++c.map V.str)):=uS;generalize upd H2 l3 (.lst ([.str "deed",.str x]++c.map V.str))=H3 at Ey IT;refine⟨Z,W,λl4 Bt=>?_⟩;have Af:AA H3 (upd H3 l4 (.lst [.str "gives",.str m])):=AJ Bt;have IS:(upd H3 l4 (.lst [.str "gives",.str m])) l4≈(.lst [.str "gives",.str m]):=uS;generalize upd H3 l4 (.lst [.str "gives",.str m])=H4 at Af IS;refine⟨l3,l4,_,Z,Y,Af _ _ IT,IS,sL (by rw[Ym,Ya];show 2 + _ + 2<=_;omega),λl5 C9=>?_⟩;have Bp:AA H4 (upd H4 l5 (.lst (([.str "deed",.str x]++c.map V.str)++[.str "gives",.str m]))):=AJ C9;have IQ:(upd H4 l5 (.lst (([.str "deed",.str x]++c.map V.str)++[.str "gives",.str m]))) l5≈(.lst ((((["deed",x]:LS)++c)++(["gives",m]:LS)).map V.str)):=by rw[uS,B6,B6];rfl
  generalize upd H4 l5 (.lst (([.str "deed",.str x]++c.map V.str)++[.str "gives",.str m]))=H5 at Bp IQ;refine⟨_,l5,_,8,Y,Y,IQ,λy hy=>?_,?_,?_⟩
  ·rcases Yo.mp hy with hy | hy
   ·rcases Yo.mp hy with hy | hy
    ·rcases Yv.mp hy with e | hy
     ·rw[e];omega
     ·rw[Yf.mp hy];exact hx
    ·exact Ii y hy
   ·rcases Yv.mp hy with e | hy
    ·rw[e];omega
    ·rw[Yf.mp hy];exact hm
  ·rw[Ym,Ym,e1];show(2 + _ + 2) * 8 + (2 + _ + 2) * 1<=_;omega
  ·rw[e_];exact q _ (((s1.trans G5).trans Ey).trans (Af.trans Bp))
def X2{α:Type}{K:Fg}{J:It}{vs:LV}{Ok:Hp->Prop}(R:E_ J vs Ok){js:LN}{te:TE}{σ:St}{Q:VK}{H1:Hp}(hz:↑vs<=1000){xs:List α}(F:α->Str)(Pa:α->V->V->Prop)
  (hp:Paired (λx v=>∃ t a b,v=.ref t/\H1 t≈(.tup [a,b])/\Pa x a b) xs vs) (hok:∀ H,AA H1 H->Ok H)
  (he:∀ x a b H' (R:VK),AA H1 H'->x∈xs->Pa x a b->(∀ Av,AA H' Av->R (.str (F x)) Av)->te (↥a :: some b :: js.map λj=>(σ[j]?).join) H' R)
  (hd:∀ D H',H1 D=none->AA H1 H'->H' D≈(.lst ((xs.map F).map V.str))->Q (.ref D) H'):Ai 2 js (g2 K 0 1) QM te σ Q J H1:=by
 have vl:=Yi hp;let Bf:μ->Nat->LV->St->Hp->Prop:=λD i ys σ' H=>H1 D=none/\AA H1 H/\H D≈(.lst ys)/\ys=((xs.take i).map F).map V.str/\∃ o u,σ'=o :: u :: js.map λj=>(σ[j]?).join;refine MX R (sL 0.0) Bf ?_ ?_ ?_ ?_
 ·intro D hD;exact⟨hD,AJ hD,uS,by rw[CD];rfl,none,none,Y⟩
 ·rintro D i ys σ' H hi ⟨hD,hs,hl,q,_⟩;refine⟨hok H hs,?_⟩;rw[q,Ya,Ya,Yy];omega
 ·rintro D i v ys σ' H hD hx ⟨_,hs,hl,q,o,u,rfl⟩;obtain⟨x,hxi,t,a,b,rfl,hxt,pa⟩:=BM hp hx;refine Za (AH.of (hs _ _ hxt)) ?_;refine he x a b H _ hs (Yc hxi) pa λH4 s4=>?_;have WS:=s4 _ _ hl;refine⟨WS,hD,λb o e=>by rw[AD (AI e hD)];exact s4 _ _ (hs _ _ e),uS,?_,_,Z⟩;rw[Yq,hxi,q,B6,B6];rfl
 ·rintro D ys σ' H hD ⟨_,hs,hl,q,_⟩;rw[<- vl,Yx]at q;exact hd D H hD hs (by rw[hl,q])
inductive XT(C B D:μ)(vs:LV)(H:Hp)(Q:VK)(AO:XK):Prop
 | mk:∀(p k:μ) (rows:RS) (ns:List AX),vs=[.ref p]->Hw C B D H p k rows ns->As rows->C6 rows ns->(∀ l H',H l=none->AA H H'->H' l≈(.lst ((Iw rows ns).map V.str))->Q (.ref l) H')->XT C B D vs H Q AO
def aE(H:Hp)(r:Str×LS)(a b:V):Prop:=a=.str r.1/\∃ t,b=.ref t/\H t≈(.tup 6.7)
def n6(H:Hp)(r:LS×Str)(a b:V):Prop:=b=.str r.2/\∃ t,a=.ref t/\H t≈(.tup (r.1.map V.str))
def gQ{H:Hp}{rows:RS}{vs:LV}(h:Paired (LG H) rows vs):Paired (λx v=>∃ t a b,v=V.ref t/\H t≈(.tup [a,b])/\aE H x a b) rows vs:=Paired.mapP h λr v ⟨t,t2,e,h1,h2⟩=>⟨t,_,_,e,h1,Y,t2,Y,h2⟩
def xD{H:Hp}{ps:List (LS×Str)}{vs:LV}(h:C1 H ps vs):Paired (λx v=>∃ t a b,v=V.ref t/\H t≈(.tup [a,b])/\n6 H x a b) ps vs:=Paired.mapP h λr v ⟨t,tc,e,h1,h2⟩=>⟨t,_,_,e,h1,Y,tc,Y,h2⟩
def Og{rows:RS}(g:As rows):∀ x∈rows.map 0.5,↑x<=8:=λx hx=>by
 obtain⟨r,hr,e⟩:=Yd.mp hx;rw[<- e];exact(DS (g.word r hr)).2
def xJ(n:AX):((((Str.empty++"name ")++n.1)++" ")++Str.ofString (toString (n.2.1:Int)))=Ek n:=by
 rw[show(Str.empty++("name ":Str))="name " by rfl'];rfl
def kC:(["word","ups"]:LS).Nodup:=by rfl'
def xM:(["call","made","word"]:LS).Nodup:=by rfl'
abbrev V6:LS:=["book","rows","word","places","deeds"]
def mO:Am V6 ["book"] (AN OQ):=by nofun
set_option maxHeartbeats 8000000 in
def za(F:Def K mg "book_rows" OQ ["book"] f fd)(TD:Jn K D)(TC:ET K C)(list:mg "list"=none)
  (MK:XI K D fK fdK) (MN:XJ K D fN fdN) (GN:⋯ 2 fN fdN ["self"] (Qz C B D)) (MR:E7 K C "rows" "Kinds.rows" RP ["self"] fR fdR)
  (DK:Def K mg "kind_row" Ua ["word","ups"] fKR fdKR) (DD:Def K mg "deed_row" UZ ["word","call","made"] fDR fdDR):⋯ 3 f fd ["book"] (XT C B D):=by
 have GK:⋯ 1 fK fdK ["self"] (Qy C B D):=jF MK.fn TD;have GR:⋯ 1 fR fdR ["self"] (UL C):=iu MR.fn TC list;have GKR:⋯ 1 fKR fdKR ["word","ups"] QZ:=yQ DK list;have GDR:⋯ 1 fDR fdDR ["word","call","made"] QX:=yM DD list
 nomatch F.fn.ok mO
 ·obtain⟨p,k,rows,ns,rfl,_⟩:=h;rfl
 ·obtain⟨p,k,rows,ns,rfl,bk,g,gn,q⟩:=h;have nd:=mO.nd;have Ax:AZ 1 _:=hr.mono 0.2;have A7:AZ 2 _:=hr.mono 0.2
  ac_nf
  refine'⟨_,(pS ?eK
   (pS (Be Bs rfl (Ci (Gp 0.9 TD.cl MN.me GN hr MN.b .nil Gi)) (CO rfl (gC (CB (i:=2) nd rfl 1.4) (gC (gE 3 nd) (gC (gE 4 nd) CQ))))
    (pS (Bj (De EF Gs Gr F4 1.6 (pC (rH (UI lY (UI (xI 4.2) (UI lY (UI (xH 7.7) yc))))) AB)))
   (AF (Bj (De EF PySem.F.slot_list_extend PySem.F.type_list_extend sZ 1.6 (pC ?eD AB))))))
   (AF (AW 1.6)))),?_⟩
  case eK=>exact(HP (k:=1) ["word","ups"] [] [] nd rfl rfl (λ_=>B5 (osc:=AN OQ) (on:=V6) 1.2 rfl rfl rfl) (Ci (Gp (Gp 0.9 TD.cl MK.me GK Ax MK.b .nil Gi) TC.cl MR.me GR Ax MR.b .nil Gi)) (λC s H fp=>Jq (K:=K) (i:=0) (j:=1) rfl rfl kC rfl rfl 1.7 1.7 1.4 1.4) 2.6 (λC s H fp=>Ag DK GKR Ax (pC 0.9 3.1)))
  case eD=>exact(EX ["call","made"] ["word"] [2] (λ_=>B5 (osc:=AN OQ) (on:=V6) 1.2 rfl rfl rfl) (JB (pv 4)) (λC s H fp=>Jq (K:=K) (i:=0) (j:=1) rfl rfl xM rfl rfl 1.7 1.7 1.4 1.4) 2.6 (λC s H fp=>Ag DD GDR Ax (pC 4.2 (pC 0.9 3.1))))
  exists let b:=_;let c:=AE _ b;let e:=AE (Bq _ _ c) a;AE _ e _ _ _
  obtain⟨dx,bo,mo,o,Ay,A8,h1,h2,h3,h4,h5,h6⟩:=bk.ex;obtain⟨dxk,dk,ak,okk,oak,π,Az,EI,_⟩:=h2.ex;refine⟨Z,p,dx,Z,h1,YG _ _ _,p,k,rows,ns,Y,bk,k,dxk,Z,EI,gr _ _,k,rows,Y,h2,g,λlr H1 hlr s1 WN=>?_⟩;obtain⟨vs,hvs,hP⟩:=WN;have vl:=Yi hP;have gle:=g.le;have few:=gn.few;refine⟨lr,Y,⟨_,SqL.of hvs⟩,X2 (Ck (xs:=vs)) 0.0 (λr=>FA r.1 r.2) (aE H1) (gQ hP) (λH' s=>SqL.of (s _ _ hvs)) ?_ λl H2 hl G5 Ao=>?_⟩
  ·rintro x a b H' R s' hx ⟨rfl,t,rfl,ht⟩ hR;exact⟨Z,Z,x.1,t,x.2,Y,s' _ _ ht,(DS (g.word x hx)).2,g.few x hx,λu hu=>Og g u (g.known x hx u hu),hR⟩
  have s2:=s1.trans G5;have hlH:H l=none:=s1.free hl;refine⟨Z,p,dx,Z,s2 _ _ h1,RH _ _ _,p,k,rows,ns,Y,bk.mono s2,gn,λlf fs H3 hlf Ey IP Fl=>?_⟩;have BA:=Ey _ _ Ao;have lfl:lf≠l:=λz=>by rw[z,Ao]at hlf;cases hlf
  have fl:=Yi Fl;let Dh:NW:=λi σ H'=>∃ x2 x3 x4:OV,σ=[↥(.ref p),↥(.ref l),x2,x3,x4]/\13.0/\H' l≈(.lst ((Ej rows++(ns.take i).flatMap DO).map V.str));refine⟨lf,Y,⟨_,SqL.of IP⟩,B1 (Ck (xs:=fs)) Dh
   ⟨none,none,none,Y,λ_ _ _ e=>e,by rw[CD,List.flatMap_nil,Dv];exact BA⟩ (λi σ H' _ h0=>by obtain⟨_,_,_,_,s,_⟩:=h0;exact SqL.of (s _ _ lfl IP)) ?_ ?_⟩
  ·rintro i v σ H4 hi ⟨x2,x3,x4,rfl,Af,Bt⟩;obtain⟨n,hn,t,tp,ws,rfl,ht,htp,hD⟩:=BM Fl hi;have Ap:n∈ns:=Yc hn;have EJ:=gn.each n Ap;have tk:∀ b xs,H3 b≈(.tup xs)->H4 b≈(.tup xs):=λb xs e=>Af _ _ (λz=>by rw[z,BA]at e;cases e) e;have pl:↑(Ej rows++(ns.take i).flatMap DO)<=544:=by
    have:=(Xm g (ns:=ns.take i) λm hm=>gn.each m (Rv hm)).1;rw[Yy]at this;rw[Ym];unfold Ej;rw[Ya];omega
   have n1:=EJ.one;have n4:=EJ.four;have nw:=(DS EJ.word).2;have wl:=Yi hD;have dl:=EJ.deeds.few;rw[Ya]at dl;refine⟨t,Z,AH.of (tk _ _ ht),Y,_,Z,_,Z,_,Z,Y,?_⟩;refine⟨Z,.inl ⟨Y,_,SqL.of Bt⟩,by rfl',Z,n.1,Y,V,by rfl',Z,(n.2.1:Int),Y,V,l,_,Z,Y,Bt,Br 6.1,?_⟩;rw[xJ];have Bp:∀ b o,b≠l->H4 b≈o->(upd H4 l (.lst 1.9)) b≈o:=λb o hb e=>by rw[AD hb];exact e
   have C9:(upd H4 l (.lst 1.9)) l≈(.lst 1.9):=uS;generalize upd H4 l (.lst 1.9)=H5 at Bp C9;have Kb:∀ b xs,H3 b≈(.tup xs)->H5 b≈(.tup xs):=λb xs e=>Bp _ _ (λz=>by rw[z,BA]at e;cases e) (tk _ _ e);refine⟨Z,.inl ⟨Y,_,SqL.of C9⟩,Z,tp,Y,⟨_,AH.of (Kb _ _ htp)⟩,X2 (JE (xs:=ws)) 0.0 (λx=>Gg n.1 x.1 x.2) (n6 H5) (xD (hD.mono Kb)) (λH' s=>AH.of (s _ _ (Kb _ _ htp))) ?_ λlc H6 hlc Cn bF=>?_⟩
   ·rintro x a b H' R s' hx ⟨rfl,tc,rfl,htc⟩ hR;have gc:=EJ.deeds.call x.1 (Yd.mpr ⟨x,hx,Y⟩);exact⟨Z,Z,Z,n.1,x.2,tc,x.1,Y,s' _ _ htc,nw,Og g _ (EJ.made x hx),by rw[gc.len];exact n4,λu hu=>Og g u (gc.known u hu),hR⟩
   ·have Co:=Cn _ _ C9;have e6:1.9++(n.2.2.map λx=>Gg n.1 x.1 x.2).map V.str=(Ej rows++(ns.take 4.6).flatMap DO).map V.str:=by
     rw[Yq,hn];simp[DO,List.flatMap_append]
    refine⟨l,lc,_,Z,Y,Co,bF,sL (by simp only[Ym,Ya,CS,Rm]at pl ⊢;omega),?_⟩;rw[e6];exact⟨_,_,Z,λb o hb e=>by rw[AD hb];exact Cn _ _ (Bp _ _ hb (Af _ _ hb e)),uS⟩
  ·rintro σ H4 ⟨x2,x3,x4,rfl,Af,Bt⟩;rw[<- fl,Yx]at Bt;exact⟨Z,q l H4 hlH (λb o e=>Af _ _ (AI e hlH) (Ey _ _ (s2 _ _ e))) Bt⟩
def VL(r:Str×LS):PySem.W.Dat:=.tuple [.str r.1,.tuple (r.2.map PySem.W.Dat.str)]
theorem jT{K:Fg}{H:Hp}:∀ {rows:RS}{vs:LV},Paired (LG H) rows vs->BH K H vs (rows.map VL)
 | _,_,.nil=>.nil
 | _,_,.cons h t=>by
  obtain⟨a,u,rfl,h1,h2⟩:=h;exact .cons (.tuple (AH.of h1) (.cons (.str _) (.cons (.tuple (AH.of h2) (Gm _)) .nil))) (jT t)
def y3{rows:RS}(g:As rows){r:Str×LS}(hr:r∈rows):∀ u∈r.2,AM u=true:=λu hu=>by
 obtain⟨q,hq,e⟩:=Yd.mp (g.known r hr u hu);rw[<- e];exact g.word q hq
def fo{ups:LS}{i:Nat}{u r:Str}(h:ups[i]?≈u):DZ r (ups.take 4.6)=(DZ r (ups.take i)++" ")++u:=by
 unfold DZ;rw[Yq,h];exact List.foldl_append ..
def Xl{ups:LS}{r:Str}(hr:↑r<=100)(hl:↑ups<=8)(h:∀ u∈ups,↑u<=8)(i:Nat):↑(DZ r (ups.take i))<=200:=by
 have:=Wn (r:=r) (us:=ups.take i) λu hu=>h u (Rv hu);rw[Yy]at this;omega
inductive T9(K:Fg)(vs:LV)(H:Hp)(Q:VK)(AO:XK):Prop
 | mk:∀(b:Bool) (w:Str) (t:μ) (ups:LS),vs=[.str w,.ref t]->CF K b H t (ups.map V.str)->↑w<=8->↑ups<=8->(∀ u∈ups,↑u<=8)->(∀ H',AA H H'->Q (.str (FA w ups)) H')->T9 K vs H Q AO
inductive Xa(K:Fg)(vs:LV)(H:Hp)(Q:VK)(AO:XK):Prop
 | mk:∀(b:Bool) (w m:Str) (t:μ) (c:LS),vs=[.str w,.ref t,.str m]->CF K b H t (c.map V.str)->↑w<=8->↑m<=8->↑c<=8->(∀ u∈c,↑u<=8)->(∀ H',AA H H'->Q (.str (Gg w c m)) H')->Xa K vs H Q AO
def xU{K:Fg}{b:Bool}{H:Hp}{a:μ}{xs:LV}(h:CF K b H a xs):SqL K H a xs\/AH K H a xs:=by
 cases b with
 | true=>exact .inl h
 | false=>exact .inr h
abbrev pL:LS:=["word","ups","row","up"]
def mj:Am pL ["word","ups"] (AN OX):=by nofun
def jH(F:Def K mg "_law_kind_row" OX ["word","ups"] f fd)(len:mg "len"=none):⋯ 1 f fd ["word","ups"] (T9 K):=by
 nomatch F.fn.ok mj
 ·obtain⟨b,x,t,ups,rfl,_⟩:=h;rfl
 ·obtain⟨b,x,t,ups,rfl,ht,hx,hl,Ii,q⟩:=h;have nd:=mj.nd
  ac_nf
  refine'⟨_,(pS (sE 2 nd (Ar Dr Ah 0.9))
   (Fz (AR (Ae FC (A9 C5 0.8 len Yw 3.1) AG (Ad _)) (AF (sE 2 nd (Ar Dr 4.2 Ah))) AS)
   (pS (Be Bs rfl (Fw 1.6) (gE 3 nd) (AF (sE 2 nd (Ar Dr (Ar Dr 4.2 Ah) 7.7))))
   (AF (AW 4.2))))),?_⟩
  exists let b:=_;let c:=AE (Bq _ _ b) a;let e:=_;let f:=Ge (A4 _ e _) c;AE _ f _ _ _
  have e1:(" ":Str).length=1:=by rfl'
  have ek:("kind ":Str).length=5:=by rfl'
  have eu:(" under":Str).length=6:=by rfl'
  refine⟨Z,_,Z,Y,sL 0.0,?_⟩;let CU:SW:=λσ' H'=>∃ r0:Str,σ'=[↥(.str x),↥(.ref t),↥(.str r0),none]/\H'=H/\↑r0<=100/\DZ r0 ups=FA x ups;refine⟨CU,?_,?_⟩
  ·refine⟨Z,t,Z,xU ht,_,Z,Y,Z,BO (λz=>?_) (λz=>?_)⟩
   ·have ne:ups.isEmpty=false:=by
     cases ups with
     | nil=>exact absurd z 0.2
     | cons=>rfl
    refine⟨Z,_,Z,Y,sL 7.1,Z,Y,by rw[strLen_append,strLen_append];omega,?_⟩;unfold FA;rw[ne];rfl
   ·have e:ups=[]:=by
     cases ups with
     | nil=>rfl
     | cons a r=>exact absurd (by rw[decide_eq_true_eq,Ya,CS];omega) z
    subst e;exact⟨Z,Y,by rw[strLen_append];omega,Y⟩
  ·rintro σ' H' ⟨r0,rfl,rfl,FO,er⟩;let Bf:NW:=λi σ H1=>∃ y:OV,σ=[↥(.str x),↥(.ref t),↥(.str (DZ r0 (ups.take i))),y]/\H1=H';refine⟨Z,b,t,Z,ht,B1 (F1 (xs:=ups.map V.str)) Bf
    ⟨none,by rw[CD];rfl,Y⟩ (λi σ H' _ ⟨_,_,e⟩=>by rw[e];exact ht) ?_ ?_⟩
   ·rintro i v σ H' hi ⟨y,rfl,rfl⟩;rw[Yn]at hi;obtain⟨u,hu,rfl⟩:=FK.mp hi;have:=Xl FO hl Ii i;have u8:=Ii u (Yc hu);refine⟨Z,_,Z,Y,sL 0.0,Z,_,Z,Y,sL 7.1,↥(.str u),?_,Y⟩;rw[fo hu];rfl
   ·rintro σ H' ⟨y,rfl,rfl⟩;rw[Ya,Yx,er];exact⟨Z,q _ (AA.refl _)⟩
def rZ(F:Def K mg "_law_kind_row" OX ["word","ups"] f fd)(len:mg "len"=none):⋯ 1 f fd ["word","ups"] QZ :=
 (jH F len).imp λvs H Q E ⟨w,t,ups,e,ht,r1,r2,r3,r4⟩=>⟨false,w,t,ups,e,AH.of ht,r1,r2,r3,r4⟩
abbrev pM:LS:=["word","deed","made","row","kind"]
def mi:Am pM ["word","deed","made"] (AN OW):=by nofun
def jG(F:Def K mg "_law_deed_row" OW ["word","deed","made"] f fd):⋯ 1 f fd ["word","deed","made"] (Xa K):=by
 nomatch F.fn.ok mi
 ·obtain⟨b,x,m,t,c,rfl,_⟩:=h;rfl
 ·obtain⟨b,x,m,t,c,rfl,ht,hx,hm,hl,Ii,q⟩:=h;have nd:=mi.nd
  ac_nf
  refine'⟨_,(pS (sE 3 nd (Ar Dr Ah 0.9))
   (pS (Be Bs rfl (Fw 1.6) (gE 4 nd) (AF (sE 3 nd (Ar Dr (Ar Dr 7.7 Ah) (pv 4)))))
   (AF (AW (Ar Dr (Ar Dr 7.7 Ah) 4.2))))),?_⟩
  exists let b:=_;let c:=AE (Bq _ _ b) a;AE _ c _ _ _
  have e1:(" ":Str).length=1:=by rfl'
  have ek:("deed ":Str).length=5:=by rfl'
  have eu:(" gives ":Str).length=7:=by rfl'
  refine⟨Z,_,Z,Y,sL 0.0,?_⟩;have FO:(("deed ":Str)++x).length<=100:=by rw[strLen_append];omega
  let Dh:NW:=λi σ H'=>∃ y:OV,σ=[↥(.str x),↥(.ref t),↥(.str m),↥(.str (DZ ("deed "++x) (c.take i))),y]/\H'=H;refine⟨Z,b,t,Z,ht,B1 (F1 (xs:=c.map V.str)) Dh
   ⟨none,by rw[CD];rfl,Y⟩ (λi σ H' _ ⟨_,_,e⟩=>by rw[e];exact ht) ?_ ?_⟩
  ·rintro i v σ H' hi ⟨y,rfl,rfl⟩;rw[Yn]at hi;obtain⟨u,hu,rfl⟩:=FK.mp hi;have:=Xl FO 0.0 Ii i;have u8:=Ii u (Yc hu);refine⟨Z,_,Z,Y,sL 0.0,Z,_,Z,Y,sL 7.1,↥(.str u),?_,Y⟩;rw[fo hu];rfl
  ·rintro σ H' ⟨y,rfl,rfl⟩;rw[Ya,Yx];have:=Xl FO 0.0 Ii ↑c;rw[Yx]at this;exact⟨Z,_,Z,Y,sL 0.0,Z,_,Z,Y,sL 7.1,q _ (AA.refl _)⟩
def rY(F:Def K mg "_law_deed_row" OW ["word","deed","made"] f fd):⋯ 1 f fd ["word","deed","made"] QX :=
 (jG F).imp λvs H Q E ⟨w,m,t,c,e,ht,hx,hm,hl,r1,r2⟩=>⟨false,w,m,t,c,e,AH.of ht,hx,hm,V,r1,r2⟩
inductive ZP(vs:LV)(H:Hp)(Q:VK)(AO:XK):Prop
 | mk:∀(l ln:μ) (rows:RS) (ns:List AX) (us:LV),vs=[.ref l,.ref ln]->Ep H l rows->As rows->H ln≈(.lst us)->Df H ns us->C6 rows ns->(∀ l' H',H l'=none->AA H H'->H' l'≈(.lst ((Iw rows ns).map V.str))->Q (.ref l') H')->ZP vs H Q AO
abbrev ck:LS:=["rows","names","found","word","places","pairs","deed","made"]
def mz:Am ck ["rows","names"] (AN RW):=by nofun
set_option maxHeartbeats 8000000 in
def u6(F:Def K mg "_law_written" RW ["rows","names"] f fd)(str:mg "str"=none)(len:mg "len"=none)
  (DK:Def K mg "_law_kind_row" OX ["word","ups"] fKR fdKR) (DD:Def K mg "_law_deed_row" OW ["word","deed","made"] fDR fdDR):⋯ 2 f fd ["rows","names"] ZP:=by
 have GKR:⋯ 1 fKR fdKR ["word","ups"] QZ:=rZ DK len;have GDR:⋯ 1 fDR fdDR ["word","deed","made"] QX:=rY DD
 nomatch F.fn.ok mz
 ·obtain⟨l,ln,rows,ns,us,rfl,_⟩:=h;rfl
 ·obtain⟨lr,lf,rows,ns,fs,rfl,WN,g,hlf,hN,gn,q⟩:=h;have nd:=mz.nd
  ac_nf
  refine'⟨_,(pS ?eK
   (pS (Be Bs rfl (Ci 1.6) (CO rfl (gC (gE 3 nd) 10.2))
    (pS (Bj (De EF Gs Gr F4 4.2 (pC (Ar Dr (Ar Dr (Ar Dr Ah 7.7) Ah) (EE jh 0.8 str PyProof.Rows.boot_str 7.6)) AB)))
   (AF (Be Bs rfl (JB 7.5) (CO rfl (gC (gE 6 nd) (gC (gE 7 nd) CQ)))
     (AF (Bj (De EF Gs Gr F4 4.2 (pC (Ag DD GDR hr (pC 7.7 (pC (pv 6) (pC (pv 7) AB)))) AB))))))))
   (AF (AW 4.2)))),?_⟩
  case eK=>exact(HP (k:=2) ["word","ups"] [] [] nd rfl rfl (λ_=>B5 (osc:=AN RW) (on:=ck) 1.2 rfl rfl rfl) (Ci 0.9) (λC s H fp=>Jq (K:=K) (i:=0) (j:=1) rfl rfl kC rfl rfl 1.7 1.7 1.4 1.4) 2.6 (λC s H fp=>Ag DK GKR hr (pC 0.9 3.1)))
  exists let b:=_;let c:=Bq _ _ b;let e:=AE _ c;let f:=AE (Bq _ _ e) a;AE _ f _ _ _
  obtain⟨vs,hvs,hP⟩:=WN;have vl:=Yi hP;have gle:=g.le;have few:=gn.few;refine⟨Z,lr,Y,⟨_,SqL.of hvs⟩,X2 (Ck (xs:=vs)) 0.0 (λr=>FA r.1 r.2) (aE H) (gQ hP) (λH' s=>SqL.of (s _ _ hvs)) ?_ λl H3 hl s3 BA=>?_⟩
  ·rintro x a b H' R s' hx ⟨rfl,t,rfl,ht⟩ hR;exact⟨Z,Z,x.1,t,x.2,Y,s' _ _ ht,(DS (g.word x hx)).2,g.few x hx,λu hu=>Og g u (g.known x hx u hu),hR⟩
  have lfl:lf≠l:=AI hlf hl;have fl:=Yi hN;have IP:=s3 _ _ hlf;have Fl:=hN.mono (Bx s3);let Bf:NW:=λi σ H'=>∃ x2 x3 x4 x5 x6:OV,σ=[↥(.ref lr),↥(.ref lf),↥(.ref l),x2,x3,x4,x5,x6]/\13.0/\H' l≈(.lst ((Ej rows++(ns.take i).flatMap DO).map V.str));refine⟨Z,lf,Y,⟨_,SqL.of IP⟩,B1 (Ck (xs:=fs)) Bf
   ⟨none,none,none,none,none,Y,λ_ _ _ e=>e,by rw[CD,List.flatMap_nil,Dv];exact BA⟩ (λi σ H' _ h0=>by obtain⟨_,_,_,_,_,_,s,_⟩:=h0;exact SqL.of (s _ _ lfl IP)) ?_ ?_⟩
  ·rintro i v σ H4 hi ⟨x2,x3,x4,x5,x6,rfl,Af,Bt⟩;obtain⟨n,hn,t,tp,ws,rfl,ht,htp,hD⟩:=BM Fl hi;have Ap:n∈ns:=Yc hn;have EJ:=gn.each n Ap;have tk:∀ b xs,H3 b≈(.tup xs)->H4 b≈(.tup xs):=λb xs e=>Af _ _ (λz=>by rw[z,BA]at e;cases e) e;have pl:↑(Ej rows++(ns.take i).flatMap DO)<=544:=by
    have:=(Xm g (ns:=ns.take i) λm hm=>gn.each m (Rv hm)).1;rw[Yy]at this;rw[Ym];unfold Ej;rw[Ya];omega
   have n1:=EJ.one;have n4:=EJ.four;have nw:=(DS EJ.word).2;have wl:=Yi hD;have dl:=EJ.deeds.few;rw[Ya]at dl;have e1:(" ":Str).length=1:=by rfl'
   have ek:("name ":Str).length=5:=by rfl'
   have nl:=XH n1 n4;refine⟨t,Z,AH.of (tk _ _ ht),Y,_,Z,_,Z,_,Z,Y,?_⟩;refine⟨Z,.inl ⟨Y,_,SqL.of Bt⟩,Z,_,Z,Y,sL 0.0,_,Z,Y,sL 7.1,Z,(n.2.1:Int),Y,Qi 0.0,_,Z,Y,sL (by rw[strLen_append,strLen_append];show _ + ↑(Str.ofString (toString (n.2.1:Int)))<=_;omega),l,_,Z,Y,Bt,Br 6.1,?_⟩;have Bp:∀ b o,b≠l->H4 b≈o->(upd H4 l (.lst 1.9)) b≈o:=λb o hb e=>by rw[AD hb];exact e
   have C9:(upd H4 l (.lst 1.9)) l≈(.lst 1.9):=uS;have Kb:∀ {H':Hp},13.0->∀ b xs,H3 b≈(.tup xs)->H' b≈(.tup xs):=λs b xs e=>s _ _ (λz=>by rw[z,BA]at e;cases e) e;have Le:=λb o (hb:b≠l) (e:H3 b≈o)=>Bp b o hb (Af b o hb e);let Dh:NW:=λj σ H'=>∃ y5 y6:OV,σ=[↥(.ref lr),↥(.ref lf),↥(.ref l),↥(.str n.1),↥(.int n.2.1),↥(.ref tp),y5,y6]/\13.0/\H' l≈(.lst (((Ej rows++(ns.take i).flatMap DO)++(Ek n :: (n.2.2.take j).map λx=>Gg n.1 x.1 x.2)).map V.str));refine⟨Z,tp,Y,⟨_,AH.of (Kb Le _ _ htp)⟩,B1 (JE (xs:=ws)) Dh
    ⟨x5,x6,Y,Le,C9.trans 1.1⟩ (λj σ H' _ h0=>by obtain⟨_,_,_,s,_⟩:=h0;exact AH.of (Kb s _ _ htp)) ?_ ?_⟩
   ·rintro j v σ H6 hj ⟨y5,y6,rfl,PU,Co⟩;obtain⟨x,hx,t',tc,rfl,Cy,htc⟩:=BM hD hj;have gc:=EJ.deeds.call x.1 (Yd.mpr ⟨x,Yc hx,Y⟩);refine⟨t',Z,AH.of (Kb PU _ _ Cy),Y,_,Z,_,Z,Y,?_⟩;refine⟨Z,.inl ⟨Y,_,SqL.of Co⟩,Z,Z,Z,n.1,x.2,tc,x.1,Y,Kb PU _ _ htc,nw,Og g _ (EJ.made x (Yc hx)),by rw[gc.len];exact n4,λu hu=>Og g u (gc.known u hu),λH7 F9=>⟨l,_,Z,Y,F9 _ _ Co,Br ?_,_,Z,λb o hb e=>by rw[AD hb];exact F9 _ _ (PU _ _ hb e),?_⟩⟩
    ·simp only[Ym,Ya,CS,Yy]at pl ⊢;omega
    ·rw[uS,Yq,hx];simp
   ·rintro σ H6 ⟨y5,y6,rfl,PU,Co⟩;refine⟨_,_,_,_,Z,PU,?_⟩;rw[Co,<- wl,Yx,Yq,hn];simp[DO,List.flatMap_append]
  ·rintro σ H4 ⟨x2,x3,x4,x5,x6,rfl,Af,Bt⟩;rw[<- fl,Yx]at Bt;exact⟨Z,q l H4 hl (λb o e=>Af _ _ (AI e hl) (s3 _ _ e)) Bt⟩
abbrev Row:=Str×LS
def nL(c:Str):Nat:=if c="1" then 1 else if c="2" then 2 else if c="3" then 3 else 4
def fq{c:Str}(h:c∈Iv):PySem.intText? c≈((nL c:Nat):Int)/\↑c<=640:=by
 have h:c="1"\/c="2"\/c="3"\/c="4":=by
  unfold Iv at h;simpa using h
 rcases h with rfl | rfl | rfl | rfl <;> exact⟨by rfl',by rfl'⟩
section
variable {H0 H H':Hp}{lr ln:μ}{rows:List Row}{cj:List (AX×μ)}{vr vn:LV}
end
abbrev own(lr ln:μ)(cj:List (AX×μ)):ξ:=lr :: ln :: cj.map (·.2)
def sY{K:Fg}{C:μ}{Hx:Hp}{xb dx l:μ}{rows:RS}{R:Hp->Prop}{E:XK}(nx:Hx xb=none)(ndx:Hx dx=none)(hR:HE K Hx l rows)(g:As rows)(h:∀ H',AA Hx H'->Bc C H' xb rows->R H'):
  QY K C [.ref xb,.ref l] (upd (upd Hx dx (.own xb)) xb (.ins C dx [])) (λv H3=>v=.non/\R H3) E:=by
 have Af:AA Hx (upd (upd Hx dx (.own xb)) xb (.ins C dx [])):=λb o e=>by
  have e1:(upd Hx dx (.own xb)) b≈o:=by rw[AD (AI e ndx)];exact e
  rw[AD (AI e nx)];exact e1
 exact⟨xb,dx,l,rows,Y,uS,hR.mono Af,g,λH4 kd keep=>⟨Y,h H4 (λb o e=>keep b o (AI e nx) (Af _ _ e)) kd⟩⟩
def B_.sub{Z Z':μ->Prop}{C B D:μ}{H:Hp}{p k:μ}{rows:RS}{ns:List AX}(h:B_ Z C B D H p k rows ns)(s:∀ b,Z' b->Z b):B_ Z' C B D H p k rows ns:=by
 obtain⟨dx,bo,mo,o,Ay,A8,h1,h2,h3,h4,h5,h6⟩:=h.ex;exact⟨dx,bo,mo,o,Ay,A8,h1,h2,h3,h4,h5,h6.imp λn v z=>by
  obtain⟨l,e,b,c⟩:=z;exact⟨l,e,b,λy=>c (s _ y)⟩⟩
def gm{K:Fg}{C B D:μ}{Hx:Hp}{pb db k l:μ}{rows:RS}{ns:List AX}{R:Hp->Prop}{E:XK}(nb:Hx pb=none)(ndb:Hx db=none)(kd:Bc C Hx k rows)(g:As rows)(hN:eO K Hx l ns)(gn:C6 rows ns)(h:∀ H',AA Hx H'->B_ (λb=>∃ o,Hx b≈o) C B D H' pb k rows ns->R H'):
  Qk K C B D [.ref pb,.ref k,.ref l] 8.8 (λv H3=>v=.non/\R H3) E:=by
 have Af:AA Hx 8.8:=λb o e=>by
  have e1:(upd Hx db (.own pb)) b≈o:=by rw[AD (AI e ndb)];exact e
  rw[AD (AI e nb)];exact e1
 obtain⟨b,vs,hl,hp⟩:=hN;exact⟨pb,db,k,l,rows,ns,Y,uS,kd.mono Af,g,⟨b,vs,hl.mono Af,Paired.mapP hp λ_ _ z=>z.mono Af⟩,gn,λH4 bk keep=>⟨Y,h H4 (λb o e=>keep b o (AI e nb) (Af _ _ e)) (bk.sub λb z=>by
  obtain⟨o,e⟩:=z;exact⟨o,Af _ _ e⟩)⟩⟩
structure Fo(t:Str)(ws:LS):Prop where
 sp:Txt.split t " "=ws
 ne:ws≠[]
 few:↑ws<=1000
 sh:∀ x∈ws,↑x<=1000
 len:↑t<=1000
def Tg:((" ":Str).length == 0)=false:=by rfl'
def Iu(n:Nat):Str:=Str.ofString (toString (n:Int))
def kW(r:Row):LS:="kind" :: r.1 :: (if r.2.isEmpty then[]else "under" :: r.2)
def nW(n:AX):LS:=["name",n.1,Iu n.2.1]
def dW(x:Str)(c:LS)(m:Str):LS:=((["deed",x]:LS)++c)++(["gives",m]:LS)
def Xr(r:Row):FA r.1 r.2=Builtin.Str.glued " " (kW r):=by
 unfold FA kW;cases h:r.2.isEmpty with
 | true=>exact(iB r.1).symm
 | false=>exact(iC r.1 r.2).symm
def Xt(n:AX):Ek n=Builtin.Str.glued " " (nW n):=by
 unfold nW;rw[OJ];show _=(((("name":Str)++" ")++n.1)++" ")++Iu n.2.1;rw[show(("name":Str)++" ")="name " by rfl'];rfl
def X3(x:Str)(c:LS)(m:Str):Gg x c m=Builtin.Str.glued " " (dW x c m):=(e_ x c m).symm
def fj{c:Nat}(h:¬ (97<=c/\c<=122)){x:Str}(hx:AM x=true):c∉x.cps.toList:=λz=>by
 have:=((K9 x).mp hx).2 c z;unfold Gh at this;exact h (Je this)
def Io(x:Str):Prop:=32∉x.cps.toList/\10∉x.cps.toList/\↑x<=8
def K5{x:Str}(h:AM x=true):Io x:=⟨fj 0.2 h,fj 0.2 h,(DS h).2⟩
def zj{n:Nat}(h1:1<=n)(h4:n<=4):Io (Iu n):=by
 have h:n=1\/n=2\/n=3\/n=4:=by omega
 unfold Io
 rcases h with rfl | rfl | rfl | rfl <;> rfl'
def Wo{n:Nat}(h1:1<=n)(h4:n<=4):Iu n∈Iv/\nL (Iu n)=n:=by
 have h:n=1\/n=2\/n=3\/n=4:=by omega
 rcases h with rfl | rfl | rfl | rfl <;> exact⟨by rfl',by rfl'⟩
def uG{c d:Nat}(cd:d≠c):∀ {xs:LS},(∀ x∈xs,d∉x.cps.toList)->d∉(Builtin.Str.glued (sgn c) xs).cps.toList:=by
 intro xs h;rw[StrLaws.glued_eq_join]
 induction xs with
 | nil=>exact λz=>nomatch z
 | cons x r ih =>
  cases r with
  | nil=>exact h x CT
  | cons y r =>
   rw[RD];intro z
   rcases Yo.mp z with z | z
   ·exact h x CT z
   rcases Yv.mp z with z | z
   ·exact cd z
   ·exact ih (λu hu=>h u (C7 _ hu)) z
def sJ{c B:Nat}:∀ {xs:LS},(∀ x∈xs,↑x<=B)->↑(Builtin.Str.glued (sgn c) xs)<=↑xs * (B + 1):=by
 intro xs h;rw[StrLaws.glued_eq_join]
 induction xs with
 | nil=>exact BN _
 | cons x r ih =>
  have hx:=h x CT;cases r with
  | nil =>
   show ↑x<=1 * (B + 1);omega
  | cons y r =>
   have e:↑(Str.join (sgn c) (x :: y :: r))=↑x + 1 + ↑(Str.join (sgn c) (y :: r)):=by
    show↑(x++sgn c++Str.join (sgn c) (y :: r))=_;rw[strLen_append,strLen_append];rfl
   have:=ih (λu hu=>h u (C7 _ hu));rw[e,CS,Nat.succ_mul];omega
def Ts{t:Str}{ws:LS}(e:t=Builtin.Str.glued " " ws)(Cz:ws≠[])(few:↑ws<=100)(h:∀ x∈ws,Io x):Fo t ws/\10∉t.cps.toList:=by
 have b:(" ":Str)=sgn 32:=rfl;have l8:∀ x∈ws,↑x<=8:=λx hx=>(h x hx).2.2;rw[e,b];refine⟨⟨vG Cz λp hp=>(h p hp).1,Cz,V,λx hx=>by have:=l8 x hx;omega,?_⟩,uG 0.2 λx hx=>(h x hx).2.1⟩;have:=sJ (c:=32) l8;omega
def wQ{r:Row}(hw:AM r.1=true)(hl:↑r.2<=8)(hu:∀ u∈r.2,AM u=true):Fo (FA r.1 r.2) (kW r)/\10∉(FA r.1 r.2).cps.toList:=by
 refine Ts (Xr r) (JJ _ _) ?_ λx hx=>?_
 ·unfold kW;split
  ·show 2<=100;decide
  ·show ↑r.2 + 1 + 1 + 1<=100;omega
 ·rcases Yv.mp hx with rfl | hx
  ·unfold Io;rfl'
  rcases Yv.mp hx with rfl | hx
  ·exact K5 hw
  split at hx
  ·exact nomatch hx
  ·rcases Yv.mp hx with rfl | hx
   ·unfold Io;rfl'
   ·exact K5 (hu x hx)
def xK{n:AX}(hw:AM n.1=true)(h1:1<=n.2.1)(h4:n.2.1<=4):Fo (Ek n) (nW n)/\10∉(Ek n).cps.toList:=by
 refine Ts (Xt n) (JJ _ _) (by show 3<=100;decide) λx hx=>?_
 rcases Yv.mp hx with rfl | hx
 ·unfold Io;rfl'
 rcases Yv.mp hx with rfl | hx
 ·exact K5 hw
 rw[Yf.mp hx];exact zj h1 h4
def wJ{x m:Str}{c:LS}(hw:AM x=true)(hl:↑c<=5)(hc:∀ u∈c,AM u=true)(hm:AM m=true):Fo (Gg x c m) (dW x c m)/\10∉(Gg x c m).cps.toList:=by
 refine Ts (X3 x c m) (by unfold dW;exact List.append_ne_nil_of_right_ne_nil _ (JJ _ _)) (by unfold dW;rw[Ym,Ym];show 2 + ↑c + 2<=100;omega) λy hy=>?_
 rcases Yo.mp hy with hy | hy
 ·rcases Yo.mp hy with hy | hy
  ·rcases Yv.mp hy with rfl | hy
   ·unfold Io;rfl'
   ·rw[Yf.mp hy];exact K5 hw
  ·exact K5 (hc y hy)
 ·rcases Yv.mp hy with rfl | hy
  ·unfold Io;rfl'
  ·rw[Yf.mp hy];exact K5 hm
def uq:AM "under"=true:=by rfl'
def uk:AM "gives"=true:=by rfl'
def Yaz:¬ (("name":Str)="kind"):=by rfl'
def Ya1:¬ (("deed":Str)="kind"):=by rfl'
def Ya0:¬ (("deed":Str)="name"):=by rfl'
def yE{r:Row}(hw:AM r.1=true)(hu:∀ u∈r.2,AM u=true):K8 (kW r)=true:=by
 unfold kW;rw[Uw,Jb rfl,Du,Fc];cases h:r.2 with
 | nil=>exact⟨by show([r.1].all AM)=true;rw[LX,hw];rfl,Y⟩
 | cons a l =>
  rw[h]at hu;refine⟨?_,?_⟩
  ·show((r.1 :: "under" :: a :: l).all AM)=true;rw[Cb];intro x hx
   rcases Yv.mp hx with rfl | hx
   ·exact hw
   rcases Yv.mp hx with rfl | hx
   ·exact uq
   ·exact hu x hx
  ·rw[Bool.or_eq_true,Fc];refine .inr ⟨Jb ?_,Jb rfl⟩;show 2<↑l + 1 + 1 + 1;omega
def yG{w:Str}(h:¬ w="kind")(r:LS):K8 (w :: r)=false:=by rw[Uw,Jc h,LK]
def L3(x m:Str)(c:LS):(dW x c m).getD 1 ""=x/\((dW x c m).drop 2).take (↑(dW x c m) - 4)=c/\(dW x c m).getD (↑(dW x c m) - 1) ""=m/\↑(dW x c m)=↑c + 4/\(dW x c m).getD (↑(dW x c m) - 2) ""="gives":=by
 have l:↑(dW x c m)=↑c + 4:=by
  unfold dW;rw[Ym,Ym];show 2 + ↑c + 2=_;omega
 have e:dW x c m=(("deed" :: x :: (c++(["gives",m]:LS))):LS):=rfl;refine⟨Y,?_,?_,l,?_⟩
 ·rw[l,e];show(c++(["gives",m]:LS)).take (↑c + 4 - 4)=c;rw[Nat.add_sub_cancel,List.take_left'];rfl
 ·rw[l,e,IC,show ↑c + 4 - 1=↑c + 1 + 2 by omega];show((c++(["gives",m]:LS))[↑c + 1]?).getD ""=m;rw[LW 0.0,show ↑c + 1 - ↑c=1 by omega];rfl
 ·rw[l,e,IC,show ↑c + 4 - 2=↑c + 2 by omega];show((c++(["gives",m]:LS))[↑c]?).getD ""="gives";rw[LW 0.0,Nat.sub_self];rfl
abbrev EY:=Str×Int×List (LS×Str)
def VG(K:Fg)(H:Hp)(n:EY)(v:V):Prop:=∃(t tp:μ) (b:Bool) (vs:LV),v=V.ref t/\H t≈(.tup [.str n.1,.int n.2.1,.ref tp])/\CF K b H tp vs/\C1 H n.2.2 vs
theorem VG.mono{K:Fg}{H H':Hp}{n:EY}{v:V}(h:VG K H n v)(s:AA H H'):VG K H' n v:=by
 obtain⟨t,tp,b,vs,e,h1,h2,h3⟩:=h;exact⟨t,tp,b,vs,e,s _ _ h1,h2.mono s,h3.mono (Bx s)⟩
def K0(K:Fg)(H:Hp)(ns:List EY)(vs:LV):Prop:=Paired (VG K H) ns vs
theorem K0.mono{K:Fg}{H H':Hp}{ns:List EY}{vs:LV}(h:K0 K H ns vs)(s:AA H H'):K0 K H' ns vs:=Paired.mapP h λ_ _ z=>z.mono s
inductive Cc
 | many
 | noN (w:Str)
 | twice (w:Str)
 | board
 | noD (k:Nat)
 | same (k:Nat)
 | noK (w:Str)
def Z0(i k:Nat):Cc:=if i=8 then .board else if i=4 then .noD k else .same k
def Jk(rows:RS)(ps:List (LS×Str)):Option Str:=(ps.map (·.2)).find? λx=>decide 6.4
inductive Gb(rows:RS)(ahead:LS)(n:EY):Option Cc->Prop
 | noN (h:AM n.1=false):Gb rows ahead n (↥(.noN n.1))
 | twice (h:AM n.1=true) (h2:n.1∈ahead):Gb rows ahead n (↥(.twice n.1))
 | bad {i k:Nat} (h:AM n.1=true) (h2:n.1∉ahead) (h3:Due rows n.2.1 (n.2.2.map 0.5) (↥(i,k))):Gb rows ahead n (↥(Z0 i k))
 | noK {w:Str} (h:AM n.1=true) (h2:n.1∉ahead) (h3:Due rows n.2.1 (n.2.2.map 0.5) none) (h4:Jk rows n.2.2≈w):Gb rows ahead n (↥(.noK w))
 | fine (h:AM n.1=true) (h2:n.1∉ahead) (h3:Due rows n.2.1 (n.2.2.map 0.5) none) (h4:Jk rows n.2.2=none):Gb rows ahead n none
abbrev Im(ns:List EY)(i:Nat):LS:=(ns.take i).map 0.5
inductive Dk(rows:RS)(ns:List EY):Option Cc->Prop
 | many (h:8<↑ns):Dk rows ns (↥.many)
 | bad {e:Cc} (i:Nat) (n:EY) (h:↑ns<=8) (hi:ns[i]?≈n) (ah:∀ j m,j<i->ns[j]?≈m->Gb rows (Im ns j) m none) (hn:Gb rows (Im ns i) n (↥e)):Dk rows ns (↥e)
 | fine (h:↑ns<=8) (ah:∀ j m,ns[j]?≈m->Gb rows (Im ns j) m none):Dk rows ns none
structure Z3(n:EY):Prop where
 w:C2 n.1
 few:↑n.2.2<=200
 deed:∀ p∈n.2.2,↑p.1<=1000
 made:∀ p∈n.2.2,C2 p.2
def E8(Q:μ)(a:Str)(v:V)(E:XK)(H:Hp):Prop:=∀ dx H',AA H H'->H' dx≈(.xd [(a,v)])->E (.ref Q) (↥dx) H'
def Iq(Ds:Nat->μ)(E:XK)(H:Hp):Cc->Prop
 | .many=>∀ H',AA H H'->E (.ref (Ds 7)) none H'
 | .noN w=>E8 (Ds 2) "word" (.str w) E H
 | .twice w=>E8 (Ds 1) "word" (.str w) E H
 | .board=>∀ H',AA H H'->E (.ref (Ds 8)) none H'
 | .noD k=>E8 (Ds 4) "number" (.int k) E H
 | .same k=>E8 (Ds 5) "number" (.int k) E H
 | .noK w=>E8 (Ds 0) "word" (.str w) E H
def E8.mono{Q:μ}{a:Str}{v:V}{E:XK}{H H':Hp}(h:E8 Q a v E H)(s:AA H H'):E8 Q a v E H':=λdx Av s' e=>h dx Av (s.trans s') e
theorem Iq.mono{Ds:Nat->μ}{E:XK}{H H':Hp}(s:AA H H'):∀ {e:Cc},Iq Ds E H e->Iq Ds E H' e
 | .many,h=>λAv s'=>h Av (s.trans s')
 | .noN w,h=>E8.mono h s
 | .twice w,h=>E8.mono h s
 | .board,h=>λAv s'=>h Av (s.trans s')
 | .noD k,h=>E8.mono h s
 | .same k,h=>E8.mono h s
 | .noK w,h=>E8.mono h s
def Due.idx{rows:RS}{pl:Int}{ds:List (LS)}{i j:Nat}(h:Due rows pl ds (↥(i,j))):i=4\/i=5\/i=8:=by
 cases h with
 | board=>exact .inr (.inr rfl)
 | bad n e n1 n4 few fb =>
  obtain⟨d,_,z | z⟩:=fb.ex
  ·exact .inl z.1
  ·exact .inr (.inl z.1)
def yf{Ds:Nat->μ}{E:XK}{H:Hp}{rows:RS}{pl:Int}{ds:List (LS)}{i j:Nat}(d:Due rows pl ds (↥(i,j)))(h:Iq Ds E H (Z0 i j)):Mi Ds E H i j:=by
 rcases d.idx with rfl | rfl | rfl
 ·exact⟨λz=>absurd z 0.2,λ_=>h⟩
 ·exact⟨λz=>absurd z 0.2,λ_=>h⟩
 ·exact⟨λ_=>h,λz=>absurd rfl z⟩
inductive YN(C:μ)(Ds:Nat->μ)(vs:LV)(H:Hp)(F8:VK)(E:XK):Prop
 | mk:∀(p l:μ) (rows:RS) (xs:LS) (wd:Str),vs=[.ref p,.ref l]->Bc C H p rows->As rows->H l≈(.lst 14.1)->(∀ x∈xs,C2 x)->xs.find? (λx=>decide 6.4)≈wd->E8 (Ds 0) "word" (.str wd) E H->YN C Ds vs H F8 E
inductive YA(K:Fg)(C B D:μ)(Ds:Nat->μ)(vs:LV)(H:Hp)(F8:VK)(E:XK):Prop
 | mk:∀(p k l:μ) (b:Bool) (rows:RS) (ns:List EY) (us:LV) (e:Cc),vs=[.ref p,.ref k,.ref l]->Bc C H k rows->As rows->CF K b H l us->K0 K H ns us->(∀ n∈ns,Z3 n)->Dk rows ns (↥e)->Iq Ds E H e->YA K C B D Ds vs H F8 E
structure l7(P:χ)(w:World)(K:Fg)(mg:Str->OU)(base:Heap)(Ds:Nat->μ)(f0 f1 f2 f4 f5:μ)(Ny TY WX TX TV:FuncData):Prop where
 e0:Cf P w K mg base "NoKind" (Ds 0) "word" (B0 (Ds 0) "word" Cd) f0 Ny
 e1:Cf P w K mg base "Twice" (Ds 1) "word" (B0 (Ds 1) "word" Cd) f1 TY
 e2:Cf P w K mg base "NoName" (Ds 2) "word" (B0 (Ds 2) "word" Cd) f2 WX
 e4:Cf P w K mg base "NoDeed" (Ds 4) "number" (B0 (Ds 4) "number" okN) f4 TX
 e5:Cf P w K mg base "Same" (Ds 5) "number" (B0 (Ds 5) "number" okN) f5 TV
 p7:J4 K mg "TooMany" (Ds 7)
 p8:J4 K mg "NoBoard" (Ds 8)
def uR{Ds:Nat->μ}(F:Def K mg "check_makes" Oa ["kinds","makes"] f fd)(TC:ET K C)(MH:Ip K C fH fdH)(E0:Cf P w K mg base "NoKind" (Ds 0) "word" (B0 (Ds 0) "word" Cd) f0 Ny):AV P w K mg base 3.2 3 f fd ["kinds","makes"] (YN C Ds):=by
 have GH:AV P w K mg base 3.2 1 fH fdH ["self","word"] (L8 C):=(Qf MH.fn TC).any
 nomatch F.fn.ok1 VC
 ·obtain⟨p,l,rows,xs,wd,rfl,_⟩:=h;rfl
 ·obtain⟨p,l,rows,xs,wd,rfl,kd,g,hl,sh,hw,re⟩:=h;have nd:=VC.nd;have Ax:AZ 1 _:=hr.mono 0.2;obtain⟨dx,d,a,o,oa,π,Az,h1,_⟩:=kd.ex
  ac_nf
  refine⟨_,(AF (Be JK rfl (Ci 1.6) (gE 2 nd) (AF (AR (Ct (Cg (FE 0.9 TC.cl MH.me GH Ax MH.b .nil 4.1 2.2))) (AF (Hz (C:=Ds 0) Ak.of hr.hd E0.ex E0.ini E0.ty E0.go hr E0.b 0.8 E0.m 2.2)) AS)))),?_⟩
  exists let b:=A4 _ a _;Bq _ _ b _ _ _
  let Bf:NW:=λi σ H'=>∃ x,σ=[↥(.ref p),↥(.ref l),x]/\H'=H/\∀ y∈xs.take i,y∈rows.map 0.5;refine⟨Z,l,Y,⟨_,SqL.of hl⟩,B1 (Ck (xs:=xs.map V.str)) Bf ⟨none,Y,Y,λy hy=>by rw[CD]at hy;cases hy⟩ (λi σ H' _ h0=>by obtain⟨_,_,e,_⟩:=h0;exact by rw[e];exact SqL.of hl) ?_ ?_⟩
  ·rintro i v σ H' hi ⟨x,rfl,e,ah⟩;have e2:=e.symm;subst e2;rw[Yn]at hi;obtain⟨y,hy,rfl⟩:=FK.mp hi;refine⟨Z,p,dx,Z,h1,Qd _ _,Z,p,rows,y,Y,kd,g,Z,?_⟩;by_cases hm:y∈rows.map 0.5
   ·rw[Jb hm];refine AL ⟨Z,Y,λu hu=>?_⟩;rw[Yq,hy]at hu
    rcases Yo.mp hu with c | c
    ·exact ah u c
    ·rw[Yf.mp c];exact hm
   ·rw[Jc hm];have e:xs.find? (λx=>decide 6.4)≈y:=by
     have il:=(Yg.mp hy).1;have es:xs=xs.take i++y :: xs.drop 4.6:=by
      have F_:=hy;rw[Yu il]at F_;rw[<- Yt F_,<- List.drop_eq_getElem_cons il,List.take_append_drop]
     rw[es,List.find?_append,List.find?_eq_none.mpr (λu hu=>by rw[decide_eq_true_iff];exact λc=>c (ah u hu)),Option.none_or];exact List.find?_cons_of_pos (show(λx=>decide 6.4) y=true from Jb hm)
    rw[e]at hw;have e3:=Yt hw;rw[<- e3]at re;exact AY ⟨Z,Z,(λ_ _=>⟨y,Y,sh y (Yc hy)⟩),λdx hdx=>re dx _ (AJ hdx) uS⟩
  ·rintro σ H' ⟨x,rfl,e,ah⟩;rw[Ya,Yx]at ah;have h1:=VW hw;have h2:=List.find?_some hw;exact absurd (ah _ h1) (Je h2)
def AV.succ{P:χ}{w:World}{K:Fg}{mg:Str->OU}{base:Heap}{CX:Et}{k:Nat}{ps:LS}{sp:Sp}(F:AV P w K mg base CX k f fd ps sp):AV P w K mg base CX (k + 1) f fd ps sp :=
 ⟨F.len,λA outer s H args us vs Q E hr=>F.run A outer s H args us vs Q E (hr.mono (Gv _))⟩
def i9{rows:RS}{ps:List (LS×Str)}(h:Jk rows ps=none):∀ x∈ps.map (·.2),x∈rows.map 0.5:=λx hx=>by
 have:=List.find?_eq_none.mp h x hx;exact LR λc=>this (Jb c)
def tG{Ds:Nat->μ}(F:BK K "__init__" "Book.__init__" LC f fd)(T:HC mg)(most:∃ t,mg "MOST_NAMES"≈(.int 8 t))(ER:l7 P w K mg base Ds f0 f1 f2 f4 f5 Ny TY WX TX TV)
  (DW:Def K mg "is_word" HM ["text"] fW fdW) (MB:Mk K B fBI) (mgB:mg "Board"≈(.ref B)) (bB:Bw K fdBI JP []) (GB:AV P w K mg base 3.2 4 fBI fdBI JP (Wu K C B Ds))
  (DM:Def K mg "check_makes" Oa ["kinds","makes"] fM fdM) (GM:⋯ 3 fM fdM ["kinds","makes"] (Uu C)) (XM:AV P w K mg base 3.2 3 fM fdM ["kinds","makes"] (YN C Ds)):
  AV P w K mg base 3.2 6 f fd Ic (YA K C B D Ds):=by
 have GW:AV P w K mg base 3.2 1 fW fdW ["text"] JF:=(RI DW T).any;have GM2:=AV.or (AV.any (CX:=An P w) GM) XM
 nomatch F.ok1 VF
 ·obtain⟨p,k,l,b,rows,ns,us,e,rfl,_⟩:=h;rfl
 ·obtain⟨p,k,l,b,rows,ns,vs,e,rfl,kd,g,hl,hN,ft,bd,re⟩:=h;have nd:=VF.nd;have hu:=Dm hr;have Ax:AZ 1 _:=hr.mono 0.2;have A7:AZ 2 _:=hr.mono 0.2;have GQ:AZ 3 _:=hr.mono 0.2;obtain⟨t1,Nv⟩:=most;have hvl:=Yi hN
  ac_nf
  refine'⟨_,(pS (AR (Ae FC (A9 EC 0.8 T.len Yw 2.2) (EB (v:=.int 8) 0.8 Nv ⟨Z⟩) (Ad _)) (AF (OM (C:=Ds 7) Ak.of hr.hd ER.p7.ex ER.p7.ini 0.8 ER.p7.m (pC (Hs (CC EW (CC (MG (EB (v:=.int 8) 0.8 Nv ⟨Z⟩)) (CC EW Ht)))) AB))) AS)
   (pS (sE 3 nd Gn)
   (pS (sE 4 nd Gn)
   (pS (Be JK rfl (Fw 4.2) (CO rfl (gC (gE 5 nd) (gC (gE 6 nd) (gC (gE 7 nd) CQ))))
    (pS (AR (Ct (Cg (JC GW Ax 0.8 DW.m DW.fn.kp DW.b .nil 4.1 (pC 7.5 AB)))) (AF (Hz (C:=Ds 2) Ak.of hr.hd ER.e2.ex ER.e2.ini ER.e2.ty ER.e2.go A7 ER.e2.b 0.8 ER.e2.m (pC 7.5 AB))) AS)
   (pS (AR (Em (Jp hu 7.5 7.7)) (AF (Hz (C:=Ds 1) Ak.of hr.hd ER.e1.ex ER.e1.ini ER.e1.ty ER.e1.go A7 ER.e1.b 0.8 ER.e1.m (pC 7.5 AB))) AS)
   (pS (FI hu 7.7 7.5 (JD MB GB hr rfl mgB bB .nil 4.1 (pC 1.6 (pC (pv 6) (pC ?eC AB)))) rfl)
   (pS (FI hu (pv 4) 7.5 ?eM rfl)
   (AF (Bj (JC GM2 GQ 0.8 DM.m DM.fn.kp DM.b .nil 4.1 (pC 1.6 (pC (Ju hu (pv 4) 7.5 0.4) AB))))))))))
   CA)))),?_⟩
  case eC=>exact EX ["call","made"] [] [] 8.1 (Fw (pv 7)) 4.8 2.6 (λC s H fp=>pv 0)
  case eM=>exact EX ["call","made"] [] [] 8.1 (Fw (pv 7)) 4.8 2.6 (λC s H fp=>pv 1)
  exists let b:=_;let c:=AE _ b;let e:=AE _ c;let f:=_;let g:=AE (A4 _ f _) e;let h:=_;let i:=AE (A4 _ h _) g;let j:=AE (Bq _ _ i) a;let k:=AE _ j;let l:=AE _ k;let m:=_;AE (A4 _ m _) l _ _ _
  refine⟨Z,_,Z,Jt hl,_,Z,Y,Z,?_⟩;cases bd with
  | many h =>
   rw[show decide ((8:Int)<(↑vs:Int))=true from Jb 0.0];exact AY ⟨by rfl',8,Y,Q,by rfl',λx=>⟨O,re H (AA.refl _)⟩⟩
  | bad ib nb h8 hib ah hnb =>
  rw[show decide ((8:Int)<(↑vs:Int))=false from Jc 0.0];refine AL ?_;intro bo hbo;have s1:AA H (upd H bo (.dK [])):=AJ hbo;intro mo hmo;have s2:AA (upd H bo (.dK [])) (upd (upd H bo (.dK [])) mo (.dK [])):=AJ hmo;have hmoH:H mo=none:=s1.free hmo;have bm:bo≠mo:=λz=>by rw[<- z,uS]at hmo;cases hmo
  have ibl:ib<↑ns:=(Yg.mp hib).1;let Dh:NW:=λi σ H'=>i<=ib/\∃(Ay A8:KL) (x y z:OV),σ=[↥(.ref p),↥(.ref k),↥(.ref l),↥(.ref bo),↥(.ref mo),x,y,z]/\AA H H'/\H' bo≈(.dK Ay)/\H' mo≈(.dK A8)/\Ay.map 0.5=(Im ns i).map (Sum.inr:Str->Key)/\↑A8<=i;refine⟨Z,b,l,vs,Y,(hl.mono s1).mono s2,B1 F1 Dh
   ⟨BN _,[],[],none,none,none,Y,s1.trans s2,s2 _ _ uS,uS,Y,Ye _⟩ (λi σ H' _ h0=>by obtain⟨_,_,_,_,_,_,_,s,_⟩:=h0;exact hl.mono s) ?_ ?_⟩
  ·rintro i v σ H' hi ⟨iib,Ay,A8,x,y,z,rfl,s3,Ls,Pm,hB,hM⟩;obtain⟨nm,hnm,t,tp,bb,ws,rfl,ht,htp,hps⟩:=BM hN hi;have Ap:nm∈ns:=Yc hnm;have fn:=ft nm Ap;have DY:=s3 _ _ ht;have due:(i<ib/\Gb rows (Im ns i) nm none)\/(i=ib/\Gb rows (Im ns i) nm (↥e)):=by
    rcases Nat.lt_or_eq_of_le iib with c | c
    ·exact .inl ⟨c,ah i nm c hnm⟩
    ·refine .inr ⟨c,?_⟩;rw[<- c]at hib hnb;rw[hib]at hnm;rw[<- Yt hnm];exact hnb
   refine⟨t,Z,AH.of DY,Y,_,Z,_,Z,_,Z,Y,?_⟩;refine⟨Z,nm.1,Y,by have:=fn.w.1;omega,λH4 s4=>⟨Z,?_⟩⟩;have Ba:=s3.trans s4;cases hw:AM nm.1 with
   | false =>
    rcases due with⟨_,d⟩ | ⟨_,d⟩
    ·cases d with
     | fine h=>rw[hw]at h;cases h
    ·cases d with
     | noN _=>exact AY ⟨Z,Z,(λ_ _=>⟨nm.1,Y,fn.w⟩),λdx hdx=>re dx _ (Ba.trans (AJ hdx)) uS⟩
     | twice h _=>rw[hw]at h;cases h
     | bad h _ _=>rw[hw]at h;cases h
     | noK h _ _ _=>rw[hw]at h;cases h
   | true =>
   refine AL ?_;have Ko:=s4 _ _ Ls;have Nn:=s4 _ _ Pm;refine⟨Z,Z,bo,Z,BR.k (k:=Sum.inr nm.1) Ko,Z,?_⟩;by_cases hin:nm.1∈Im ns i
   ·have e1:(BG Ay (Sum.inr nm.1)).isSome=true:=Ul (by rw[hB];exact Yd.mpr ⟨_,hin,Y⟩);rw[e1]
    rcases due with⟨_,d⟩ | ⟨_,d⟩
    ·cases d with
     | fine _ h=>exact absurd hin h
    ·cases d with
     | noN h=>rw[hw]at h;cases h
     | twice _ _=>exact AY ⟨Z,Z,(λ_ _=>⟨nm.1,Y,fn.w⟩),λdx hdx=>re dx _ (Ba.trans (AJ hdx)) uS⟩
     | bad _ h _=>exact absurd hin h
     | noK _ h _ _=>exact absurd hin h
   have e0:BG Ay (Sum.inr nm.1)=none:=FJ λc=>by
    rw[hB]at c;obtain⟨u,EH,eu⟩:=Yd.mp c;injection eu with eu;exact hin (eu ▸ EH)
   rw[e0];refine AL ?_;have IJ:=htp.mono Ba;have IL:C1 H4 nm.2.2 ws:=hps.mono (Bx Ba);have wl:↑ws<=200:=by
    have h1:=Yi hps;have h2:=fn.few;omega
   obtain⟨r,Ab,hrn⟩:∃ r,Due rows nm.2.1 12.7 r/\((r=none/\((i<ib/\Jk rows nm.2.2=none)\/∃ wd,Jk rows nm.2.2≈wd/\e=.noK wd))\/∃ ii kk,r≈(ii,kk)/\e=Z0 ii kk):=by
    rcases due with⟨c,d⟩ | ⟨c,d⟩
    ·cases d with
     | fine _ _ h3 h4=>exact⟨_,h3,.inl ⟨Y,.inl ⟨c,h4⟩⟩⟩
    ·cases d with
     | noN h=>rw[hw]at h;cases h
     | twice _ h=>exact absurd h hin
     | bad _ _ h3=>exact⟨_,h3,.inr ⟨_,Z,Y⟩⟩
     | noK _ _ h3 h4=>exact⟨_,h3,.inl ⟨Y,.inr ⟨_,h4,Y⟩⟩⟩
   refine⟨Z,Z,Z,bb,tp,ws,Y,IJ,UR F1 0 (He H4) 0.0 IL (λ_=>rfl) (λH' s'=>IJ.mono s') λlc H5 hlc Bp C9=>?_⟩;intro yb dyb ny ndy ney;refine wY (r:=r) ny ndy ((kd.mono Ba).mono Bp) g (.inl C9) ((YH IL).mono Bp) (λd hd=>?_) (by rw[Ya];have:=fn.few;omega) Ab (λn er _ _ _ _ H6 Cn _=>?_) λii kk er=>?_
   ·obtain⟨pr,hpr,ed⟩:=Yd.mp hd;rw[<- ed];exact fn.deed pr hpr
   ·have hrn:(i<ib/\Jk rows nm.2.2=none)\/∃ wd,Jk rows nm.2.2≈wd/\e=.noK wd:=by
     rcases hrn with h | ⟨_,_,h,_⟩
     ·exact h.2
     ·rw[er]at h;cases h
    have Gz:=Bp.trans Cn;have Dy:=Ba.trans Gz;have Nu:=Gz _ _ Ko;have Nm:=Gz _ _ Nn;have bl:↑Ay=i:=by
     have h1:=congrArg List.length hB;rw[Ya,Ya,Ya,Yy]at h1;omega
    refine⟨Z,Z,bo,Z,Cs.k (k:=Sum.inr nm.1) Nu (Br 0.0),?_⟩;have C8:AA H 8.9:=λb o e=>by rw[AD (AI e hbo)];exact Dy _ _ e
    have Nt:8.9 bo≈(.dK 2.3):=uS;have Lp:8.9 mo≈(.dK A8):=by rw[AD (Yz bm)];exact Nm
    generalize upd H6 bo (.dK 2.3)=H7 at C8 Nt Lp;have IH:=htp.mono C8;have IK:C1 H7 nm.2.2 ws:=hps.mono (Bx C8);refine⟨Z,bb,tp,ws,Y,IH,UR F1 1 (Dx H7) 0.0 IK (λ_=>rfl) (λH' s'=>IH.mono s') λlm H8 hlm JN Nq=>?_⟩;rw[YI IK]at Nq;have Nl:=JN _ _ Lp;refine⟨Z,Z,mo,Z,Cs.k (k:=Sum.inr nm.1) Nl (Br 0.0),?_⟩;have lmo:lm≠mo:=λz=>by rw[z,Lp]at hlm;cases hlm
    have G6:AA H 6.5:=λb o e=>by rw[AD (AI e hmoH)];exact JN _ _ (C8 _ _ e)
    have Ki:6.5 mo≈(.dK 1.5):=uS;have Px:6.5 bo≈(.dK 2.3):=by rw[AD bm];exact JN _ _ Nt
    have Np:6.5 lm≈(.lst ((nm.2.2.map (·.2)).map V.str)):=by rw[AD lmo];exact Nq
    have S7:BG 1.5 (Sum.inr nm.1)≈(.ref lm):=by rw[iM,if_pos rfl]
    generalize upd H8 mo (.dK 1.5)=H9 at G6 Ki Px Np;refine⟨Z,Z,Z,mo,Z,(by rw[<- S7];exact BR.k (k:=Sum.inr nm.1) Ki),?_⟩
    rcases hrn with⟨c,h4⟩ | ⟨wd,h4,ee⟩
    ·refine .inl ⟨k,lm,rows,nm.2.2.map (·.2),Y,kd.mono G6,g,Np,i9 h4,?_⟩;refine⟨c,_,_,_,_,Z,G6,Px,Ki,?_,?_⟩
     ·rw[Jy _ e0,B6,hB];show _=((ns.take 4.6).map 0.5).map _;rw[Yq,hnm,B6,B6];rfl
     ·have:=Uc A8 (Sum.inr nm.1:Key) (.ref lm);omega
    ·rw[ee]at re;refine .inr ⟨k,lm,rows,nm.2.2.map (λx:LS×Str=>x.2),wd,Y,kd.mono G6,g,Np,λx hx=>?_,h4,E8.mono re G6⟩;obtain⟨pr,hpr,ed⟩:=Yd.mp hx;rw[<- ed];exact fn.made pr hpr
   ·rcases hrn with⟨h,_⟩ | ⟨i2,k2,h,ee⟩
    ·rw[er]at h;cases h
    ·rw[er]at h;injection h with h;injection h with h1 h2;rw[ee,<- h1,<- h2]at re;rw[er]at Ab;exact yf Ab (Iq.mono (Ba.trans Bp) re)
  ·rintro σ H3 ⟨iib,_⟩;omega
def TZ:Cc->Str
 | .many=>"TooMany"
 | .noN _=>"NoName"
 | .twice _=>"Twice"
 | .board=>"NoBoard"
 | .noD _=>"NoDeed"
 | .same _=>"Same"
 | .noK _=>"NoKind"
def N0:Cc->V
 | .many=>.non
 | .noN w=>.str w
 | .twice w=>.str w
 | .board=>.non
 | .noD k=>.int k
 | .same k=>.int k
 | .noK w=>.str w
def WZ:Cc->Nat
 | .many=>7
 | .noN _=>2
 | .twice _=>1
 | .board=>8
 | .noD _=>4
 | .same _=>5
 | .noK _=>0
def wL:∀ d:Cc,Bu (WZ d)=TZ d
 | .many=>rfl
 | .noN _=>rfl
 | .twice _=>rfl
 | .board=>rfl
 | .noD _=>rfl
 | .same _=>rfl
 | .noK _=>rfl
def wK:∀ d:Cc,WZ d<15
 | .many=>(by decide:7<15)
 | .noN _=>(by decide:2<15)
 | .twice _=>(by decide:1<15)
 | .board=>(by decide:8<15)
 | .noD _=>(by decide:4<15)
 | .same _=>(by decide:5<15)
 | .noK _=>(by decide:0<15)
def Il(x:V)(r:LV):Cr (x :: r) 0≈x:=EA (j:=0) rfl
abbrev pI:LS:=["e","taken_by"]
def mq:Am pI ["e"] (AN Uz):=by nofun
abbrev w3:LV:=(["NoName","Twice","NoKind"]:LS).map V.str
abbrev w2:LV:=(["NoDeed","Same"]:LS).map V.str
def ip{rows:RS}{ns:List EY}(h:Dk rows ns none):C6 rows (ns.map λn=>(n.1,n.2.1.toNat,n.2.2))/\∀ n∈ns,0<=n.2.1:=by
 cases h with
 | fine le ah =>
  have one:∀ n∈ns,UP rows (n.1,n.2.1.toNat,n.2.2)/\0<=n.2.1:=λn hn=>by
   obtain⟨j,hj⟩:=HR hn;cases ah j n hj with
   | fine h1 h2 h3 h4 =>
    cases h3 with
    | good m e n1 n4 gd =>
     have e':n.2.1.toNat=m:=by omega
     exact⟨⟨h1,by show 1<=n.2.1.toNat;omega,by show n.2.1.toNat<=4;omega,by show MW rows n.2.1.toNat _;rw[e'];exact gd,λp hp=>i9 h4 p.2 (Yd.mpr ⟨p,hp,Y⟩)⟩,V⟩
  refine⟨⟨by rw[Ya];exact le,λm hm=>?_,?_⟩,λn hn=>(one n hn).2⟩
  ·obtain⟨n,hn,rfl⟩:=Yd.mp hm;exact(one n hn).1
  ·rw[Es];show(ns.map 0.5).Nodup;have:∀ i,((ns.take i).map 0.5).Nodup:=λi=>by
    induction i with
    | zero=>rw[CD];exact .nil
    | succ i ih =>
     rw[Yq];cases hj:ns[i]? with
     | none=>rw[show(ns.take i++(none:Option EY).toList)=ns.take i from Dv _];exact ih
     | some n =>
      show((ns.take i++[n]).map 0.5).Nodup;rw[B6,List.nodup_append];cases ah i n hj with
      | fine _ h2 _ _=>exact⟨ih,by simp,λa ha b hb e=>h2 (by have JU:b=n.1:=Yf.mp hb;rw[<- JU,<- e];exact ha)⟩
   have:=this ↑ns
   rwa [Yx]at this
def Qa(K:Fg)(C B D:μ)(Ds:Nat->μ):Sp:=λvs H Q E=>Qk K C B D vs H Q E\/YA K C B D Ds vs H Q E
def B7(x:Str):Prop:=PyData.strOk x=true
def HJ{x:Str}(h:AM x=true):B7 x:=by
 have:=T5 h;exact this
def OC(n:Nat){x:Str}(h:B7 x):W.kqdOk n (.str x)=true:=by
 rw[W.kqdOk];exact h
def gx(n:Nat){d:LS}(h:∀ x∈d,B7 x):W.kqdOk (n + 1) (Ef d)=true:=by
 unfold Ef;rw[W.kqdOk,Cb];intro z hz;obtain⟨x,hx,rfl⟩:=Yd.mp hz;exact OC n (h x hx)
def sv(n:Nat){ds:List (LS)}(h:∀ d∈ds,∀ x∈d,B7 x):(ds.map Ef).all (W.kqdOk (n + 1))=true:=by
 rw[Cb];intro z hz;obtain⟨d,hd,rfl⟩:=Yd.mp hz;exact gx n (h d hd)
def UB(xs:LV)(k:Nat):BQ xs none (↥(k:Int))=xs.take k:=by
 unfold BQ;rw[HT.sIx_none,HT.sIx_nat,List.drop_zero,Nat.sub_zero]
 rcases Nat.le_total k ↑xs with h | h
 ·rw[LM h]
 ·rw[Nat.min_eq_right h,J8 (Ye _),J8 h]
theorem Paired.takeD{α β:Type}{F:α->β->Prop}:∀ {l:List α}{m:List β}(k:Nat),Paired F l m->Paired F (l.take k) (m.take k)
 | _,_,0,_=>by rw[CD,CD];exact .nil
 | _,_,_ + 1,.nil=>by rw[List.take_nil,List.take_nil];exact .nil
 | _,_,k + 1,.cons r t=>.cons r (Paired.takeD k t)
def lL(ws:LS):V->V
 | .str x=>.bl (!decide (x∈ws))
 | _=>.non
def tY(ws d:LS):((((d.map V.str).filter λ_=>true).map (lL ws))=(d.map λx=>!decide (x∈ws)).map V.bl)/\(d.map λx=>!decide (x∈ws)).any id=!(d.all λx=>decide (x∈ws)):=by
 constructor
 ·rw[Mw.mpr 0.4,Es,Es];rfl
 ·rw[List.any_map]
  induction d with
  | nil=>rfl
  | cons x r ih=>rw[J7,LX,ih];show((!decide (x∈ws)) || _)=_;cases decide (x∈ws) <;> rfl
def Ya4:(["sign"]:LS).Nodup:=by rfl'
def VJ:(["row"]:LS).Nodup:=by rfl'
def ZV:(["name"]:LS).Nodup:=by rfl'
def Ya7:(["kind","words"]:LS).Nodup:=by rfl'
def Ya6:(["pair"]:LS).Nodup:=by rfl'
def Ya5:(["pair","words"]:LS).Nodup:=by rfl'
structure Vj(n:EY):Prop extends Z3 n where
 wo:B7 n.1
 dk:∀ p∈n.2.2,∀ x∈p.1,B7 x
 ma:∀ p∈n.2.2,B7 p.2
def BdV(H:Hp):Option Cc->V->Prop
 | none,v=>v=.non
 | some d,v=>∃ a,v=.ref a/\H a≈(.tup [.str (TZ d),N0 d])
inductive XU(K:Fg)(vs:LV)(H:Hp)(Q:VK)(AO:XK):Prop
 | mk:∀(l ln:μ) (rows:RS) (ns:List EY) (us:LV),vs=[.ref l,.ref ln]->Ep H l rows->As rows->H ln≈(.lst us)->K0 K H ns us->(∀ n∈ns,Vj n)->↑ns<=1000->(∀ r v H',AA H H'->Dk rows ns r->BdV H' r v->Q v H')->XU K vs H Q AO
def QO(K:Fg):R2:=λx y H Q=>A0 K x y H Q\/C_ K x y H Q
def Ya9{X:Cx}:R5 X (QO X.K):=λvalue slice ρ s σ H x y v u Q I rx ry h hs=>h.elim (λh=>Au value slice ρ s σ H x y v u Q I rx ry h hs) (λh=>Dp value slice ρ s σ H x y v u Q I rx ry h hs)
def Km(H:Hp):V->V
 | .ref t=>match H t with
  | some (.tup (x :: _))=>x
  | _=>.non
 | _=>.non
def Tv{H:Hp}{t:μ}{x:V}{r:LV}(h:H t≈(.tup (x :: r))):Km H (.ref t)=x:=by
 show(match H t with | some (.tup (x :: _))=>x | _=>.non)=x;rw[h]
theorem RC{H:Hp}:∀ {rows:RS}{vs:LV},Paired (LG H) rows vs->vs.map (Km H)=(rows.map 0.5).map V.str
 | _,_,.nil=>rfl
 | _,_,.cons ⟨t,u,e,h1,_⟩ r=>by
  subst e;rw[Yr,Yr,Yr,Tv h1,RC r]
theorem UD{K:Fg}{H:Hp}:∀ {ns:List EY}{vs:LV},K0 K H ns vs->vs.map (Km H)=(ns.map 0.5).map V.str
 | _,_,.nil=>rfl
 | _,_,.cons ⟨t,_,_,_,e,h1,_⟩ r=>by
  subst e;rw[Yr,Yr,Yr,Tv h1,UD r]
def K3{K:Fg}{J:It}{vs:LV}{Ok:Hp->Prop}(R:E_ J vs Ok){js:LN}{σ:St}{Q:VK}{H1:Hp}(hz:↑vs<=1000)(hp:∀ v∈vs,∃ t x r,v=.ref t/\H1 t≈(.tup (x :: r)))(hok:∀ H,AA H1 H->Ok H)
  (hd:∀ D H',H1 D=none->AA H1 H'->H' D≈(.lst (vs.map (Km H1)))->Q (.ref D) H'):Ai 1 js (DJ 0) QM (PJ (C_ K) (Of 0) (tC (.int 0))) σ Q J H1:=by
 refine Q_ R (sL 0.0) (λ_=>true) (Km H1) hok ?_ ?_ ?_
 ·intro x H R' _ _ h;exact h H (AA.refl _)
 ·intro x H R' s hx _ h;obtain⟨t,y,r,rfl,ht⟩:=hp x hx;rw[Tv ht]at h;exact⟨Z,t,_,_,Z,Y,AH.of (s _ _ ht),Il _ _,h H (AA.refl _)⟩
 ·intro D H' hD s hl;rw[Mw.mpr 0.4]at hl;exact hd D H' hD s hl
def Zh{b:Bool}{H:Hp}{a:μ}{xs:LV}(h:CF K b H a xs):SqL K H a xs\/AH K H a xs:=by
 cases b with
 | true=>exact .inl h
 | false=>exact .inr h
def Yac{b:Bool}{H:Hp}{a:μ}{xs:LV}{lo hi:Option Int}{Q:VK}(h:CF K b H a xs)(q:∀ b' p H',AA H H'->CF K b' H' p (BQ xs lo hi)->Q (.ref p) H'):Gd K (.ref a) lo hi H Q\/Rh K (.ref a) lo hi H Q:=by
 cases b with
 | true=>exact .inl ⟨a,xs,Y,h,λp hp=>q true p _ (AJ hp) (SqL.of uS)⟩
 | false=>exact .inr ⟨a,xs,Y,h,λe=>q false a H (AA.refl _) (by rw[eZ e];exact h),λ_ p hp=>q false p _ (AJ hp) (AH.of uS)⟩
theorem Wq{H:Hp}:∀ {ps:List (LS×Str)}{vs:LV},C1 H ps vs->El H (ps.map 0.5) (vs.map (Km H))
 | _,_,.nil=>.nil
 | _,_,.cons ⟨t,tc,e,h1,h2⟩ r=>by
  subst e;rw[Yr,Yr];exact .cons ⟨tc,Tv h1,h2⟩ (Wq r)
def Yei:Am ["text"] ["text"] (AN RV):=by nofun
def uz(F:Def K mg "_law_is_word" RV ["text"] f fd)(len:mg "len"=none)(all:mg "all"=none):⋯ 1 f fd ["text"] JF:=by
 nomatch F.fn.ok Yei
 ·obtain⟨x,rfl,_⟩:=h;rfl
 ·obtain⟨x,rfl,hx,k⟩:=h
  ac_nf
  refine'⟨_,AF (AW (HG (rG L_ L_ AG (A9 EC 0.8 len Yw 3.5) AG) (JA (A9 (UA rfl) 0.8 all VZ (pC ?eC AB))))),?_⟩
  case eC=>exact(EX ["sign"] [] [] (λ_=>B5 (osc:=AN RV) (on:=["text"]) 1.2 rfl rfl rfl) (lX 0.9) (λC s H fp=>CB (i:=0) Ya4 rfl 1.7 1.4) 2.6 (λC s H fp=>DV iw 0.9 Ah 1.3))
  have no:¬ (1<=↑x/\↑x<=8)->AM x=false:=λh=>by unfold AM;rw[Jc h];rfl
  refine⟨Z,_,Z,⟨sL 0.0,Y⟩,_,Z,Y,Z,?_⟩;by_cases h1:1<=↑x
  ·rw[Jb (show(0:Int)<(↑x:Int) by omega)];refine AY ⟨_,Z,Y,Z,?_⟩;by_cases h2:↑x<=8
   ·rw[Jb (show(↑x:Int)<9 by omega)];refine AY ⟨Z,Z,RF hJ (by unfold Hr;rw[Ya,Jv];exact sL 0.0) (λ_=>true) QG (λ_ _ _=>trivial) ?_ ?_ ?_⟩
    ·intro D ys v R _ _ hR;exact hR
    ·intro D ys v R _ hv _ hR;obtain⟨c,_,e⟩:=Yd.mp hv;subst e;exact⟨Z,_,Z,Y,hR⟩
    ·intro D hD;refine⟨D,x.cps.toList.map Gh,Y,SqL.of (by rw[<- i7];exact uS),?_⟩;have e:(x.cps.toList.map Gh).all id=AM x:=by
      unfold AM;rw[Jb ⟨h1,h2⟩,Du,Mu];rfl
     have q:=k (upd H D (.lst (((Hr x).filter λ_=>true).map QG))) λb o hb=>by rw[AD (AI hb hD)];exact hb
     rw[<- e]at q;exact q
   ·rw[Jc (show ¬ (↑x:Int)<9 by omega)];have q:=k H (AA.refl _);rw[no (λz=>h2 z.2)]at q;exact AL q
  ·rw[Jc (show ¬ (0:Int)<(↑x:Int) by omega)];have q:=k H (AA.refl _);rw[no (λz=>h1 z.1)]at q;exact AL ⟨Z,AL q⟩
abbrev Nh:LS:=["rows","names","words","k","word","places","pairs","at","deed","strange"]
def mQ:Am Nh ["rows","names"] (AN J2):=by nofun
def zZ(F:Def K mg "_law_book_due" J2 ["rows","names"] f fd)(len:mg "len"=none)(range:mg "range"=none)(any:mg "any"=none)(DW:Def K mg "_law_is_word" RV ["text"] fW fdW)(GW:⋯ 1 fW fdW ["text"] JF):⋯ 2 f fd ["rows","names"] (XU K):=by
 nomatch F.fn.ok mQ
 ·obtain⟨l,ln,rows,ns,us,rfl,_⟩:=h;rfl
 ·obtain⟨l,ln,rows,ns,us,rfl,hR,g,CH,hN,ok,big,q⟩:=h;have nd:=mQ.nd;have hu:=hr.units;have gle:=g.le
  ac_nf
  refine'⟨_,(pS (Er (i:=2) nd rfl 1.4 ?eW)
   (pS (AR (Ae FC (A9 C5 0.8 len Yw 3.1) AG (Ad _)) 9.6 AS)
   (pS (Be Bs rfl (MY 0.8 range (pC (A9 C5 0.8 len Yw 3.1) AB)) (gE 3 nd)
    (pS (MJ (Ac (r:=A0 K) Au 1.6 7.7 0.4) (CO rfl (gC (gE 4 nd) (gC (gE 5 nd) (gC (gE 6 nd) CQ)))))
   (pS (AR (Ct (Cg (Ag DW GW hr 7.6))) (AF (AW (BB (pC Ah 7.6)))) AS)
   (pS (AR (Ae (r:=Dz K false) HL (pv 4) ?eN 1.3) (AF (AW (BB (pC Ah 7.6)))) AS)
   (pS (AR (PW.pt (Jm (Ae L_ 7.5 AG (Ad _)) (Jm (Ae FC 7.5 AG (Ad _)) (Kx (Ae FC (A9 C5 0.8 len Yw (pC (pv 6) AB)) AG (Ad _)))))) 9.6 AS)
   (pS (Be Bs rfl (MY 0.8 range (pC (A9 C5 0.8 len Yw (pC (pv 6) AB)) AB)) (gE 7 nd)
     (pS (sE 8 nd (Ac (r:=C_ K) Dp (Ac (r:=QO K) Ya9 (pv 6) (pv 7) 0.4) AG 0.4))
   (pS (AR (PW.pt (Jm (Ae QI (A9 C5 0.8 len Yw (pC (pv 8) AB)) 7.5 (Ad _)) (Kx (Cg (A9 (gU rfl) 0.8 any PyProof.Rows.boot_any (pC ?eK AB)))))) (AF (AW (BB (pC Ah (pC (pv 7) AB))))) AS)
   (AF (AR (Ae (w_ (mK hr)) (pv 8) ?eP 1.3) (AF (AW (BB (pC Ah (pC (pv 7) AB))))) AS)))))
   (pS ?eS
   (AF (AR (Ae (N_ hu) (pv 9) (B4 AB) (Ad _)) (AF (AW (BB (pC Ah (pC (Ac (r:=A0 K) Au (pv 9) AG 0.4) AB))))) AS)))))))))
   (AF (AW Dq))))),?_⟩
  case eW=>exact(EX ["row"] [] [] 5.7 (Ci 0.9) 11.2 2.6 2.8)
  case eN=>exact(EX ["name"] [] [] 5.7 (Ci (F0 (r:=Gd K) Hu 1.6 HH (FH 7.7))) (λC s H fp=>CB (i:=0) ZV rfl 1.7 1.4) 2.6 2.8)
  case eK=>exact(EX ["kind"] ["words"] [2] 5.7 (JB (pv 8)) (λC s H fp=>CB (i:=0) Ya7 rfl 1.7 1.4) 2.6 (λC s H fp=>DV (r:=Dz K true) Mb 0.9 1.6 1.3))
  case eP=>exact(EX ["pair"] [] [] 5.7 (Fw (F0 (JL.or Hu gJ) (pv 6) HH (FH (pv 7)))) (λC s H fp=>CB (i:=0) Ya6 rfl 1.7 1.4) 2.6 2.8)
  case eS=>exact(HP (k:=9) ["pair"] ["words"] [2] nd rfl rfl 5.7 (Fw (pv 6)) (λC s H fp=>CB (i:=0) Ya5 rfl 1.7 1.4) (λC s H fp=>Qn (Ae (r:=Dz K true) Mb (Ac (r:=C_ K) Dp 0.9 AG 0.4) 1.6 1.3)) 2.8)
  exists let b:=_;let c:=A4 _ b _;let e:=AE _ c;let f:=_;let g:=AE _ f;let h:=AE _ g;let i:=AE (Bq _ _ h) e;let j:=AE _ i;let k:=AE _ j;let l:=AE _ k;let m:=AE _ l;let n:=AE (Bq _ _ m) a;let o:=AE _ n;AE _ o _ _ _
  obtain⟨rvs,hrvs,hrp⟩:=id hR;have hul:=Yi hN;refine⟨Z,l,Y,⟨_,SqL.of hrvs⟩,K3 (Ck (xs:=rvs)) (by rw[<- ↑hrp];omega) (λv hv=>?_) (λH' s'=>SqL.of (s' _ _ hrvs)) λlw H1 hlw s1 EG=>?_⟩
  ·obtain⟨j,hj⟩:=HR hv;obtain⟨r,_,t,u,e,h1,_⟩:=BM hrp hj;exact⟨t,_,_,e,h1⟩
  rw[RC hrp]at EG;have two:∀(H':Hp) (d:Cc) (t:μ),H' t=none->AA H H'->Dk rows ns (↥d)->Q (.ref t) (upd H' t (.tup [.str (TZ d),N0 d])):=λH' d t ht s' bd=>q _ _ _ (s'.trans (AJ ht)) bd ⟨t,Y,uS⟩;refine⟨Z,ln,Z,.inl (SqL.of (s1 _ _ CH)),_,Z,Y,Z,BO (λz=>?_) (λz=>?_)⟩
  ·have z:(8:Int)<(↑us:Int):=Je z;exact⟨W,λt ht=>two H1 .many t ht s1 (.many 0.0)⟩
  have h8:↑ns<=8:=by
   have:¬ (8:Int)<(↑us:Int):=λc=>z (Jb c);omega
  let Bf:NW:=λi σ H'=>∃ x3 x4 x5 x6 x7 x8 x9:OV,σ=[↥(.ref l),↥(.ref ln),↥(.ref lw),x3,x4,x5,x6,x7,x8,x9]/\AA H1 H'/\∀ j m,j<i->ns[j]?≈m->Gb rows (Im ns j) m none;refine⟨Z,ln,Z,.inl (SqL.of (s1 _ _ CH)),↑us,Y,V,V,B1 OO Bf
   ⟨none,none,none,none,none,none,none,Y,AA.refl _,λj m h=>absurd h (Nat.not_lt_zero _)⟩ (λ_ _ _ _ _=>trivial) ?_ ?_⟩
  ·rintro i v σ H2 hi ⟨x3,x4,x5,x6,x7,x8,x9,rfl,s2,ah⟩;obtain⟨JT,rfl⟩:=K_ hi;have hi:i<↑us:=by simpa using JT
   have hix:us[i]?≈us[i]:=Yu hi;obtain⟨nm,hnm,t,tp,bb,ws,et,ht,htp,hps⟩:=BM hN hix;have o:=ok nm (Yc hnm);have Aw:=s1.trans s2;have IM:=Aw _ _ CH;have D8:=s2 _ _ EG;have AU:=Aw _ _ ht;have hat:Cr us (0 + ((i:Nat):Int))≈(.ref t):=by rw[LQ,<- et];exact EA hix
   have bad:∀ {e:Cc},Gb rows (Im ns i) nm (↥e)->Dk rows ns (↥e):=λh=>.bad i nm h8 hnm ah h;refine⟨Z,Z,ln,_,_,Z,Y,SqL.of IM,hat,t,Z,AH.of AU,Y,_,Z,_,Z,_,Z,Y,?_⟩;refine⟨Z,nm.1,Y,by have:=o.w.1;omega,λH3 s3=>⟨Z,?_⟩⟩;have A_:=Aw.trans s3;cases hw:AM nm.1 with
   | false=>exact AY ⟨Z,W,λt' Cy=>two H3 (.noN nm.1) t' Cy A_ (bad (.noN hw))⟩
   | true =>
   refine AL ?_;have bE:=s3 _ _ IM;refine⟨Z,Z,Z,Z,ln,Z,SqL.of bE,λlp hlp=>?_⟩;rw[show(0 + ((i:Nat):Int))=((i:Nat):Int) by omega,UB];have s4:AA H3 (upd H3 lp (.lst (us.take i))):=AJ hlp;have h4:(upd H3 lp (.lst (us.take i))) lp≈(.lst (us.take i)):=uS;generalize upd H3 lp (.lst (us.take i))=H4 at s4 h4 ⊢;have Ba:=A_.trans s4;have TQ:K0 K H4 (ns.take i) (us.take i):=Paired.takeD i (hN.mono Ba);refine⟨lp,Y,⟨_,SqL.of h4⟩,K3 (Ck (xs:=us.take i)) (by rw[Yy];omega) (λv hv=>?_) (λH' s'=>SqL.of (s' _ _ h4)) λlh H5 hlh s5 dN=>?_⟩
   ·obtain⟨j,hj⟩:=HR hv;obtain⟨n',_,t',_,_,_,e,h1,_⟩:=BM TQ hj;exact⟨t',_,_,e,h1⟩
   rw[UD TQ]at dN;have By:=Ba.trans s5;refine⟨lh,Z,.inl (SqL.of dN),Y,by rw[Mu,Cb];exact λ_ _=>rfl,Z,?_⟩;rw[if_neg (show ¬ (false=true) by decide),FD];by_cases hin:nm.1∈Im ns i
   ·rw[show decide (nm.1∈(ns.take i).map 0.5)=true from Jb hin];exact AY ⟨Z,W,λt' Cy=>two H5 (.twice nm.1) t' Cy By (bad (.twice hw hin))⟩
   rw[show decide (nm.1∈(ns.take i).map 0.5)=false from Jc hin];refine AL ?_;have KY:=htp.mono By;have hwl:=Yi hps;have brd:(¬ (1<=nm.2.1/\nm.2.1<=4)\/64<↑12.7)->Dk rows ns (↥.board):=λc=>bad (.bad (i:=8) (k:=0) hw hin (.board c));have say:∀(t':μ),H5 t'=none->(¬ (1<=nm.2.1/\nm.2.1<=4)\/64<↑12.7)->Q (.ref t') (upd H5 t' (.tup [.str "NoBoard",.non])):=λt' Cy c=>two H5 .board t' Cy By (brd c);refine⟨Z,_,Z,Y,Z,BO (λz1=>?_) (λz1=>?_)⟩
   ·have z1:nm.2.1<1:=Je z1;exact AY ⟨W,λt' Cy=>say t' Cy (.inl 0.0)⟩
   have z1:¬ nm.2.1<1:=λc=>z1 (Jb c);refine⟨Z,_,Z,Y,Z,BO (λz2=>?_) (λz2=>?_)⟩
   ·have z2:(4:Int)<nm.2.1:=Je z2;exact AY ⟨W,λt' Cy=>say t' Cy (.inl 0.0)⟩
   have z2:¬ (4:Int)<nm.2.1:=λc=>z2 (Jb c);refine⟨Z,tp,Z,Zh KY,_,Z,Y,Z,BO (λz3=>?_) (λz3=>?_)⟩
   ·have z3:(64:Int)<(↑ws:Int):=Je z3;exact⟨W,λt' Cy=>say t' Cy (.inr 6.1)⟩
   have z3:¬ (64:Int)<(↑ws:Int):=λc=>z3 (Jb c);obtain⟨n,en⟩:∃ n:Nat,nm.2.1=n:=⟨nm.2.1.toNat,V⟩;have few:↑12.7<=64:=by rw[Ya];omega
   have hD:El H 12.7 (ws.map (Km H)):=Wq hps;have wkd:∀ d∈nm.2.2.map 0.5,↑d<=1000/\∀ x∈d,B7 x:=λd hd=>by
    obtain⟨p,hp,e⟩:=Yd.mp hd;rw[<- e];exact⟨o.deed p hp,o.dk p hp⟩
   have Pk:=s5 _ _ (s4 _ _ (s3 _ _ D8));have dl:↑12.7=↑ws:=by rw[Ya];exact hwl
   let Dh:NW:=λj σ H'=>∃ x7 x8:OV,σ=[↥(.ref l),↥(.ref ln),↥(.ref lw),↥(.int ((i:Nat):Int)),↥(.str nm.1),↥(.int nm.2.1),↥(.ref tp),x7,x8,x9]/\AA H5 H'/\(∀ d∈(nm.2.2.map 0.5).take j,FW rows n d=true)/\((nm.2.2.map 0.5).take j).Nodup;refine⟨Z,tp,Z,Zh KY,↑ws,Y,V,V,B1 OO Dh
    ⟨x7,x8,Y,AA.refl _,(λd hd=>by rw[CD]at hd;cases hd),by rw[CD];exact .nil⟩ (λ_ _ _ _ _=>trivial) ?_ ?_⟩
   ·rintro j v σ H6 hj ⟨oI,oH,rfl,s6,cb,ndk⟩;obtain⟨Pq,rfl⟩:=K_ hj;have hj:j<↑ws:=by simpa using Pq
    have hjx:ws[j]?≈ws[j]:=Yu hj;obtain⟨pr,hpr,tq,td,eq,qG,HA⟩:=BM hps hjx;have Dy:=By.trans s6;have II:=KY.mono s6;have hatj:Cr ws (0 + ((j:Nat):Int))≈(.ref tq):=by rw[LQ,<- eq];exact EA hjx
    have hdj:12.7[j]?≈pr.1:=by rw[Yn,hpr];rfl
    have Ap:=Yc hdj;have au:=Dy _ _ qG;have NF:=Dy _ _ HA;have ix:QO K (.ref tp) (.int (0 + ((j:Nat):Int))) H6=QO K (.ref tp) (.int (0 + ((j:Nat):Int))) H6:=rfl;have go:∀ {R:VK},R (.ref tq) H6->QO K (.ref tp) (.int (0 + ((j:Nat):Int))) H6 R:=λ{R} h=>by
     rcases Zh II with c | c
     ·exact .inl ⟨tp,_,_,Z,Y,c,hatj,h⟩
     ·exact .inr ⟨tp,_,_,Z,Y,c,hatj,h⟩
    have badd:FW rows n pr.1=false->Dk rows ns (↥(.noD j)):=λc=>bad (.bad (i:=4) (k:=j) hw hin (.bad n en 0.0 0.0 few ⟨⟨pr.1,hdj,.inl ⟨Y,c⟩⟩,cb,ndk⟩));refine⟨Z,Z,go ⟨tq,_,_,Z,Y,AH.of au,Il _ _,?_⟩⟩;refine⟨Z,td,Z,.inr (AH.of NF),Z,Y,Z,?_⟩;have e:(!decide (V.int (↑(pr.1.map V.str):Nat)=V.int nm.2.1))=!decide (↑pr.1=n):=by
     rw[Ya]
     congr 1
     exact J6.mpr ⟨λz=>by injection z with z;omega,λz=>by rw[z,en]⟩
    rw[e];have ret:∀(H':Hp) (d:Cc) (wd:Str),AA H H'->TZ d=wd->N0 d=.int ((j:Nat):Int)->Dk rows ns (↥d)->∀ t',H' t'=none->Q (.ref t') (upd H' t' (.tup [.str wd,.int (0 + ((j:Nat):Int))])):=λH' d wd s' e1 e2 bd t' Cy=>by
     have:=two H' d t' Cy s' bd;rw[e1,e2]at this;rw[LQ];exact this
    by_cases hn:¬ ↑pr.1=n
    ·rw[Jc hn];exact AY (AY ⟨Z,W,λt' Cy=>ret H6 (.noD j) _ Dy rfl rfl (badd (by unfold FW;rw[Jc hn];rfl)) t' Cy⟩)
    have hn:=Decidable.not_not.mp hn;rw[Jb hn];have JR:=s6 _ _ Pk;refine AL ⟨Z,td,Y,⟨_,AH.of NF⟩,Q_ (JE (xs:=pr.1.map V.str)) (sL (by rw[Ya];have:=(wkd _ Ap).1;omega)) (λ_=>true) (lL 13.9) (λH' s'=>AH.of (s' _ _ NF)) ?_ ?_ ?_⟩
    ·intro v H' R s' _ hR;exact hR H' (AA.refl _)
    ·intro v H' R s' hv _ hR;obtain⟨z,hz,rfl⟩:=Yd.mp hv;refine⟨Z,Z,lw,Z,.inl (SqL.of (s' _ _ JR)),Y,?_,?_⟩
     ·rw[Mu,Cb];exact λ_ _=>rfl
     rw[if_pos rfl,FD];exact hR H' (AA.refl _)
    ·intro D H7 Ij s7 Fj;obtain⟨ea,eb⟩:=tY 13.9 pr.1;rw[ea]at Fj;refine⟨D,(pr.1.map λx=>!decide 9.9),Y,SqL.of Fj,(pr.1.map λx=>!decide 9.9).any id,Y,?_⟩;rw[eb];have C8:=Dy.trans s7;have ec:FW rows n pr.1=pr.1.all λx=>decide 9.9:=by unfold FW;rw[Jb hn,Du]
     rw[<- ec];cases hc:FW rows n pr.1 with
     | false=>exact AY ⟨Z,W,λt' Cy=>ret H7 (.noD j) _ C8 rfl rfl (badd hc) t' Cy⟩
     | true =>
      refine AL ⟨Z,Z,Z,Z,Yac (II.mono s7) λb' p H8 s8 WE=>?_⟩;rw[show(0 + ((j:Nat):Int))=((j:Nat):Int) by omega,UB]at WE;have S4:=C8.trans s8;have SR:C1 H8 (nm.2.2.take j) (ws.take j):=Paired.takeD j (hps.mono (Bx S4));refine⟨b',p,Z,WE,K3 F1 (by rw[Yy];omega) (λv hv=>?_) (λH' s'=>WE.mono s') λlq H9 hlq s9 qE=>?_⟩
      ·obtain⟨m,hm⟩:=HR hv;obtain⟨_,_,t',_,e,h1,_⟩:=BM SR hm;exact⟨t',_,_,e,h1⟩
      have G6:=S4.trans s9;have de:El H9 ((nm.2.2.take j).map 0.5) ((ws.take j).map (Km H8)):=(Wq SR).mono s9;rw[Mq]at de;refine⟨Ef pr.1,((nm.2.2.map 0.5).take j).map Ef,Xx (G6 _ _ HA),.list (SqL.of qE) (jS de),gx 8 (wkd _ Ap).2,sv 7 (λd' Kn=>(wkd d' (Rv Kn)).2),Z,?_⟩;rw[zB];by_cases Ka:pr.1∈(nm.2.2.map 0.5).take j
      ·rw[show id (decide (pr.1∈(nm.2.2.map 0.5).take j))=true from Jb Ka];exact AY ⟨Z,W,λt' Cy=>ret H9 (.same j) _ G6 rfl rfl (bad (.bad (i:=5) (k:=j) hw hin (.bad n en 0.0 0.0 few ⟨⟨pr.1,hdj,.inr ⟨Y,hc,Ka⟩⟩,cb,ndk⟩))) t' Cy⟩
      ·rw[show id (decide (pr.1∈(nm.2.2.map 0.5).take j))=false from Jc Ka];have d8:(nm.2.2.map 0.5).take (j + 1)=(nm.2.2.map 0.5).take j++[pr.1]:=by rw[Yq,hdj];rfl
       refine AL ⟨_,Z,((s6.trans s7).trans s8).trans s9,λd' Kn=>?_,?_⟩
       ·rw[d8]at Kn
        rcases Yo.mp Kn with z | z
        ·exact cb d' z
        ·rw[Yf.mp z];exact hc
       ·rw[d8,List.nodup_append];exact⟨ndk,by simp,λa ha b hb e=>Ka (by rw[<- Yf.mp hb,<- e];exact ha)⟩
   ·rintro σ H6 ⟨oI,oH,rfl,s6,cb,ndk⟩;rw[J0,show(((↑ws:Nat):Int)).toNat=↑12.7 by omega,Yx]at cb ndk;have gd:Due rows nm.2.1 12.7 none:=.good n en 0.0 0.0 ⟨λd hd=>by
     have:=cb d hd;unfold FW at this;rw[Fc,Cb]at this;exact⟨Je this.1,λx hx=>Je (this.2 x hx)⟩,ndk,few⟩
    have Dy:=By.trans s6;have II:=KY.mono s6;have NG:C1 H6 nm.2.2 ws:=hps.mono (Bx Dy);have JR:=s6 _ _ Pk;refine⟨Z,bb,tp,Z,II,Q_ F1 (sL 0.0) (λv=>match Dx H6 v with | .str x=>decide 6.4 | _=>false) (Dx H6) (λH' s'=>II.mono s') ?_ ?_ ?_⟩
    ·intro v H' R s' hv hR;obtain⟨m,hm⟩:=HR hv;obtain⟨pp,_,t',tc,rfl,h1,_⟩:=BM NG hm;rw[ML h1]at hR;refine⟨Z,t',_,_,Z,Y,AH.of (s' _ _ h1),EA (j:=1) rfl,Z,lw,Z,.inl (SqL.of (s' _ _ JR)),Y,by rw[Mu,Cb];exact λ_ _=>rfl,Z,?_⟩;rw[if_pos rfl,FD,<- decide_not];exact hR H' (AA.refl _)
    ·intro v H' R s' hv _ hR;obtain⟨m,hm⟩:=HR hv;obtain⟨pp,_,t',tc,rfl,h1,_⟩:=BM NG hm;rw[ML h1]at hR;exact⟨Z,t',_,_,Z,Y,AH.of (s' _ _ h1),EA (j:=1) rfl,hR H' (AA.refl _)⟩
    intro ls H7 hls s7 Fj;have ef:(ws.filter λv=>match Dx H6 v with | .str x=>decide 6.4 | _=>false).map (Dx H6)=((nm.2.2.map (·.2)).filter λx=>decide 6.4).map V.str:=by
     have:∀ {ps:List (LS×Str)} {vs:LV},C1 H6 ps vs->(vs.filter λv=>match Dx H6 v with | .str x=>decide 6.4 | _=>false).map (Dx H6)=((ps.map (·.2)).filter λx=>decide 6.4).map V.str:=λ{ps vs} h=>by
      induction h with
      | nil=>rfl
      | cons a _ ih =>
       have ea:=iz a;rw[Yr,Rr,Rr,ea];dsimp only;split
       ·rw[Yr,Yr,ih,ea]
       ·exact ih
     exact this NG
    rw[ef]at Fj;have C8:=Dy.trans s7;have eM:Jk rows nm.2.2=((nm.2.2.map (·.2)).filter λx=>decide 6.4).head?:=by unfold Jk;rw[List.head?_filter]
    have fy:∀ y∈(nm.2.2.map (·.2)).filter (λx=>decide 6.4),B7 y:=λy hy=>by
     obtain⟨p,hp,e⟩:=Yd.mp (LO.mp hy).1;rw[<- e];exact o.ma p hp
    generalize(nm.2.2.map (·.2)).filter (λx=>decide 6.4)=ys at Fj eM fy;refine⟨Z,BN _,λle hle=>?_⟩;have s8:AA H7 (upd H7 le (.lst [])):=AJ hle;have dh:(upd H7 le (.lst [])) le≈(.lst []):=uS;generalize upd H7 le (.lst [])=H8 at s8 dh ⊢;have S4:=C8.trans s8;have okd:W.kqdOk 9 (.list (ys.map PySem.W.Dat.str))=true:=by
     show(ys.map PySem.W.Dat.str).all (W.kqdOk 8)=true;rw[Cb];intro d hd;obtain⟨x,hx,rfl⟩:=Yd.mp hd;exact fy x hx
    refine⟨.list (ys.map PySem.W.Dat.str),.list [],.list (SqL.of (s8 _ _ Fj)) (Gm ys),.list (SqL.of dh) .nil,okd,Q,Z,?_⟩;cases ys with
    | cons y r =>
     rw[MO 1.1];exact AY ⟨Z,ls,_,_,Z,Y,SqL.of (s8 _ _ Fj),Il _ _,W,λt' Cy=>two H8 (.noK y) t' Cy S4 (bad (.noK hw hin gd eM))⟩
    | nil =>
     rw[show PySem.W.Dat.list (([]:LS).map PySem.W.Dat.str)=.list []from rfl,HI];refine AL ⟨_,_,_,_,_,_,Z,((((s2.trans s3).trans s4).trans s5).trans s6).trans (s7.trans s8),λj m hjm hm=>?_⟩
     rcases Nat.lt_or_eq_of_le (Nat.le_of_lt_succ hjm)with c | c
     ·exact ah j m c hm
     ·rw[c,hnm]at hm;have em:=Yt hm;rw[c,<- em];exact .fine hw hin gd eM
  ·rintro σ H2 ⟨x3,x4,x5,x6,x7,x8,x9,rfl,s2,ah⟩;rw[J0]at ah;refine q none .non H2 (s1.trans s2) (.fine h8 λj m hm=>ah j m ?_ hm) rfl;have:=(Yg.mp hm).1;omega
def jv(x:Str):Prop:=↑x<=20/\∀ c∈x.cps.toList,c<128
instance (x:Str):Decidable (jv x):=by unfold jv;infer_instance
def Pb(p:LS×Str):Dt:=.tuple [Ef p.1,.str p.2]
theorem g8{K:Fg}{H:Hp}:∀ {ps:List (LS×Str)}{vs:LV},C1 H ps vs->BH K H vs (ps.map Pb)
 | _,_,.nil=>.nil
 | _,_,.cons ⟨t,tc,e,h1,h2⟩ r=>by
  subst e;exact .cons (.tuple (AH.of h1) (.cons (Xx h2) (.cons (.str _) .nil))) (g8 r)
def rK{X:Cx}{e:Expr}:PE X e (λ_ _ _=>False):=λ_ _ _ _ _ _ h=>h.elim
def Kt{X:Cx}{E:XK}{k:Nat}{ps:LS}{sp:Sp}{x:Str}{st:Stmt}{p pos:Pos}{e:Expr}{es:τ}{t:TA}(FF:Ak X E)(d:Def X.K X.mg x st ps f fd)(G:AV X.prog X.w X.K X.mg X.base (An X.prog X.w) k f fd ps sp)(hr:AZ k X.A)
  (ha:PA X (e :: es) t) (hg:Gl X x:=by rfl) (hdb:(x == ("__debug__":Str))=false:=by decide) (he:starEach (e :: es) X.env=3.4:: starEach es X.env:=by rfl) (hpl:(backTo pos 3.6).any 0.5=false:=by rfl):
  PE X (.Call (.Name x p) (e :: es) [] pos) (Zi sp [] E t):=JC G hr hg d.m d.fn.kp d.b .nil (Bi FF) ha hdb he hpl
def MQ(ws:LS):Bool:=decide (↑ws=3)&&(decide (ws.getD 0 ""="tie")&&ws.all AM)
def Hm(ws:LS):Bool:=K8 ws || (MQ ws || (RE ws || RJ ws))
abbrev q1:LS:=["smooth","show"]
abbrev q2:LS:=["even","mend"]
abbrev q3:LS:=["ask","next"]
def FU(ws:LS):Bool:=if ws.getD 0 ""∈q1 then decide (↑ws=1)else if ws.getD 0 ""∈q2 then decide (↑ws=2)&&ws.all AM else decide (ws.getD 0 ""∈q3)&&(decide (2<↑ws)&&ws.all AM)
inductive LI(B:LS->Bool)(vs:LV)(H:Hp)(Q:VK)(AO:XK):Prop
 | mk:∀(a:μ) (ws:LS),vs=[.ref a]->Ei H a ws->ws≠[]->(∀ H',AA H H'->Q (.bl (B ws)) H')->LI B vs H Q AO
def B3(a b:Str):decide (V.str a=V.str b)=decide (a=b):=J6.mpr ⟨λz=>V.str.inj z,λz=>by rw[z]⟩
def Zc{ws:LS}(h:ws≠[]):∃ x,ws[0]?≈x/\ws.getD 0 ""=x:=by
 rcases ws with _ | ⟨x,r⟩
 ·exact absurd rfl h
 ·exact⟨x,rfl,rfl⟩
def Yad:Am ["words"] ["words"] (AN Ut):=by nofun
def tL(F:Def K mg "is_tie_row" Ut ["words"] f fd)(len:mg "len"=none)(DA:Def K mg "are_words" LB ["texts"] fA fdA)(GA:⋯ 2 fA fdA ["texts"] Od):⋯ 3 f fd ["words"] (LI MQ):=by
 nomatch F.fn.ok Yad
 ·obtain⟨a,ws,rfl,_⟩:=h;rfl
 ·obtain⟨a,ws,rfl,hw,hn,q⟩:=h
  ac_nf
  refine'⟨_,AF (AW (HG (DV BS 5.9 AG (Ad _)) (HG (DV BS 2.7 Ah (Ad _)) (JA (Ag DA GA hr 3.5))))),?_⟩;have hl:=SqL.of (K:=K) hw.at_;obtain⟨x,hx,ex⟩:=Zc hn;unfold MQ at q;rw[ex]at q;refine⟨_,rfl,a,_,rfl,.inl hl,rfl,_,rfl,?_⟩;rw[Ya,show decide (V.int ((↑ws:Nat):Int)=V.int 3)=decide (↑ws=3)from J6.mpr ⟨λz=>by have:=V.int.inj z;omega,λz=>by rw[z];rfl⟩];by_cases e:↑ws=3
  ·rw[Jb e]at q ⊢;rw[Du]at q;refine AY ⟨_,rfl,a,_,_,_,rfl,rfl,hl,BE (k:=0) hx,rfl,_,rfl,?_⟩;rw[B3];by_cases h1:x="tie"
   ·rw[Jb h1]at q ⊢;rw[Du]at q;exact AY ⟨_,rfl,a,ws,rfl,hw,q⟩
   ·rw[Jc h1]at q ⊢;exact AL (q H (AA.refl _))
  ·rw[Jc e]at q ⊢;exact AL (q H (AA.refl _))
def Yaf:Am ["words"] ["words"] (AN Us):=by nofun
def u4(F:Def K mg "is_telling" Us ["words"] f fd)(DK:Def K mg "is_kind_row" U2 ["words"] fK fdK)(GK:⋯ 3 fK fdK ["words"] ZK)
  (DT:Def K mg "is_tie_row" Ut ["words"] fT fdT) (GT:⋯ 3 fT fdT ["words"] (LI MQ)) (DN:Def K mg "is_name_row" U3 ["words"] fN fdN) (GN:⋯ 2 fN fdN ["words"] ZM)
  (DD:Def K mg "is_deed_row" U1 ["words"] fD fdD) (GD:⋯ 3 fD fdD ["words"] Z6):⋯ 4 f fd ["words"] (LI Hm):=by
 nomatch F.fn.ok Yaf
 ·obtain⟨a,ws,rfl,_⟩:=h;rfl
 ·obtain⟨a,ws,rfl,hw,hn,q⟩:=h;have A7:AZ 2 _:=hr.mono 0.2
  ac_nf
  refine'⟨_,AF (AW (Td (Ag DK GK hr 3.5) (Td (Ag DT GT hr 3.5) (Td (Ag DN GN A7 3.5) (JA (Ag DD GD hr 3.5)))))),?_⟩;unfold Hm at q;refine⟨_,rfl,a,ws,rfl,hw,hn,λH1 s1=>⟨_,rfl,?_⟩⟩;cases h1:K8 ws with
  | true=>rw[h1,Bool.true_or]at q;exact AY (q H1 s1)
  | false =>
   rw[h1,Ot]at q;refine AL ⟨Z,a,ws,Y,hw.mono s1,hn,λH2 s2=>⟨Z,?_⟩⟩;cases h2:MQ ws with
   | true=>rw[h2,Bool.true_or]at q;exact AY (q H2 (s1.trans s2))
   | false =>
    rw[h2,Ot]at q;have Aw:=s1.trans s2;refine AL ⟨Z,a,ws,Y,hw.mono Aw,hn,λH3 s3=>⟨Z,?_⟩⟩;cases h3:RE ws with
    | true=>rw[h3,Bool.true_or]at q;exact AY (q H3 (Aw.trans s3))
    | false =>
     rw[h3,Ot]at q;exact AL ⟨Z,a,ws,Y,hw.mono (Aw.trans s3),hn,λH4 s4=>q H4 ((Aw.trans s3).trans s4)⟩
def Yak:Am ["words"] ["words"] (AN RO):=by nofun
def Wl(x:Str)(l:LS):Bh (.str x) (l.map V.str)=decide (x∈l):=FD x l
def tT(F:Def K mg "is_asking" RO ["words"] f fd)(len:mg "len"=none)(DA:Def K mg "are_words" LB ["texts"] fA fdA)(GA:⋯ 2 fA fdA ["texts"] Od):⋯ 3 f fd ["words"] (LI FU):=by
 nomatch F.fn.ok Yak
 ·obtain⟨a,ws,rfl,_⟩:=h;rfl
 ·obtain⟨a,ws,rfl,hw,hn,q⟩:=h
  ac_nf
  refine'⟨_,(pS (AR (Ae (r:=Dz K false) HL 2.7 (Qu q1 rfl 0.2) 1.3) (AF (AW (DV BS 5.9 AG (Ad _)))) AS)
   (pS (AR (Ae (r:=Dz K false) HL 2.7 (Qu q2 rfl 0.2) 1.3) (AF (AW (HG (DV BS 5.9 AG (Ad _)) (JA (Ag DA GA hr 3.5))))) AS)
   (AF (AW (HG (DV (r:=Dz K false) HL 2.7 (Qu q3 rfl 0.2) 1.3) (HG (DV FC 5.9 AG (Ad _)) (JA (Ag DA GA hr 3.5)))))))),?_⟩
  exists let b:=_;let c:=AE (A4 _ b _) a;let e:=_;AE (A4 _ e _) c _ _ _
  obtain⟨x,hx,ex⟩:=Zc hn;unfold FU at q;rw[ex]at q;have hl:=SqL.of (K:=K) hw.at_;refine⟨Z,a,_,_,Z,Y,hl,BE (k:=0) hx,λt1 Kf=>⟨t1,Z,.inr (AH.of uS),Y,Y,Z,?_⟩⟩;have s1:=AJ (o:=.tup (q1.map V.str)) Kf;have EG:=hw.mono s1;rw[show(if false=true then !Bh (.str x) (q1.map V.str)else Bh (.str x) (q1.map V.str))=decide (x∈q1)from Wl x q1];generalize upd H t1 (.tup (q1.map V.str))=H1 at s1 EG ⊢;have lenE:∀ k:Nat,decide (V.int ((↑ws:Nat):Int)=V.int (k:Int))=decide (↑ws=k):=λk=>J6.mpr ⟨λz=>by have:=V.int.inj z;omega,λz=>by rw[z]⟩;by_cases h1:x∈q1
  ·rw[if_pos h1]at q;rw[Jb h1];refine AY ⟨Z,a,Z,.inl (SqL.of EG.at_),Y,?_⟩;rw[Ya,show(V.int 1)=V.int ((1:Nat):Int)from rfl,lenE];exact q H1 s1
  rw[if_neg h1]at q;rw[Jc h1];refine AL ⟨Z,a,_,_,Z,Y,SqL.of EG.at_,BE (k:=0) hx,λt2 AU=>⟨t2,Z,.inr (AH.of uS),Y,Y,Z,?_⟩⟩;have s2:=s1.trans (AJ (o:=.tup (q2.map V.str)) AU);have D8:=hw.mono s2;rw[show(if false=true then !Bh (.str x) (q2.map V.str)else Bh (.str x) (q2.map V.str))=decide (x∈q2)from Wl x q2];generalize upd H1 t2 (.tup (q2.map V.str))=H2 at s2 D8 ⊢;by_cases h2:x∈q2
  ·rw[if_pos h2]at q;rw[Jb h2];refine AY ⟨Z,a,Z,.inl (SqL.of D8.at_),Y,Z,?_⟩;rw[Ya,show(V.int 2)=V.int ((2:Nat):Int)from rfl,lenE];by_cases e:↑ws=2
   ·rw[Jb e]at q ⊢;rw[Du]at q;exact AY ⟨Z,a,ws,Y,D8,λH3 s3=>q H3 (s2.trans s3)⟩
   ·rw[Jc e]at q ⊢;exact AL (q H2 s2)
  rw[if_neg h2]at q;rw[Jc h2];refine AL ⟨Z,a,_,_,Z,Y,SqL.of D8.at_,BE (k:=0) hx,λt3 DY=>⟨t3,Z,.inr (AH.of uS),Y,Y,?_⟩⟩;have s3:=s2.trans (AJ (o:=.tup (q3.map V.str)) DY);have Eb:=hw.mono s3;rw[show(if false=true then !Bh (.str x) (q3.map V.str)else Bh (.str x) (q3.map V.str))=decide (x∈q3)from Wl x q3];generalize upd H2 t3 (.tup (q3.map V.str))=H3 at s3 Eb ⊢;refine⟨Z,?_⟩;by_cases h3:x∈q3
  ·rw[Jb h3]at q ⊢;rw[Du]at q;refine AY ⟨Z,a,Z,.inl (SqL.of Eb.at_),_,Z,Y,Z,?_⟩;rw[Ya];by_cases e:2<↑ws
   ·rw[Jb e,Du]at q;rw[Jb (show(2:Int)<((↑ws:Nat):Int) by omega)];exact AY ⟨Z,a,ws,Y,Eb,λH4 s4=>q H4 (s3.trans s4)⟩
   ·rw[Jc e,LK]at q;rw[Jc (show ¬ (2:Int)<((↑ws:Nat):Int) by omega)];exact AL (q H3 s3)
  ·rw[Jc h3]at q ⊢;exact AL (q H3 s3)
def kZ:Am ["row","words"] ["row"] (AN Uj):=by nofun
inductive X9(vs:LV)(H:Hp)(Q:VK)(AO:XK):Prop
 | mk:∀(x:Str) (ws:LS),vs=[.str x]->Fo x ws->(x="back"\/Hm ws=true\/FU ws=true)->13.2->X9 vs H Q AO
def vL(F:Def K mg "check_row" Uj ["row"] f fd)(DT:Def K mg "is_telling" Us ["words"] fT fdT)(GT:⋯ 4 fT fdT ["words"] (LI Hm))
  (DA:Def K mg "is_asking" RO ["words"] fA fdA) (GA:⋯ 3 fA fdA ["words"] (LI FU)):⋯ 5 f fd ["row"] X9:=by
 nomatch F.fn.ok kZ
 ·obtain⟨x,ws,rfl,_⟩:=h;rfl
 ·obtain⟨x,ws,rfl,rt,cs,q⟩:=h;have nd:=kZ.nd;have GQ:AZ 3 _:=hr.mono 0.2
  ac_nf
  refine'⟨_,(pS (sE 1 nd (De Ow VN VM UG 0.9 (pC Ah AB)))
   (AF (AR (PW.pt (Kw (Ae QI 0.9 Ah (Ad _)) (Kw (Ct (Cg (Ag DT GT hr 3.1))) (Kw (Ct (Cg (Ag DA GA GQ 3.1))) (OE (Ct (Cg rK))))))) CA AS))),?_⟩
  exists AE _ a _ _ _
  refine⟨_,rfl,rfl,x," ",rfl,rfl,Tg,sL (by have:=rt.len;omega),by rw[rt.sp];have:=rt.few;exact sL 0.0,λpw hpw=>?_⟩;rw[rt.sp];have s1:AA H (upd H pw (.lst 1.8)):=AJ hpw;have h1:(upd H pw (.lst 1.8)) pw≈(.lst 1.8):=uS;generalize upd H pw (.lst 1.8)=H1 at s1 h1 ⊢;have hw:Ei H1 pw ws:=⟨h1,rt.few,rt.sh⟩;refine⟨_,rfl,rfl,_,rfl,?_⟩;rw[B3];by_cases e:x="back"
  ·rw[Jb e];exact AL (q H1 s1)
  rw[Jc e];refine AY ⟨_,rfl,pw,ws,rfl,hw,rt.ne,λH2 s2=>⟨_,rfl,?_⟩⟩;cases ht:Hm ws with
  | true=>exact AL (q H2 (s1.trans s2))
  | false =>
   refine AY ⟨Z,pw,ws,Y,hw.mono s2,rt.ne,λH3 s3=>⟨Z,?_⟩⟩;have ha:FU ws=true:=by
    rcases cs with c | c | c
    ·exact absurd c e
    ·rw[ht]at c;cases c
    ·exact c
   rw[ha];exact AL (q H3 ((s1.trans s2).trans s3))
inductive A3
 | kind (x:Str) (us:LS)
 | tie (x y:Str)
 | name (x:Str) (n:Nat)
 | deed (x:Str) (c:LS) (m:Str)
def A1:A3->LS
 | .kind x us=>kW (x,us)
 | .tie x y=>["tie",x,y]
 | .name x n=>nW (x,n,[])
 | .deed x c m=>dW x c m
def Eg:A3->Prop
 | .kind x us=>AM x=true/\↑us<=8/\∀ u∈us,AM u=true
 | .tie x y=>AM x=true/\AM y=true
 | .name x n=>AM x=true/\1<=n/\n<=4
 | .deed x c m=>AM x=true/\1<=↑c/\↑c<=5/\(∀ u∈c,AM u=true)/\AM m=true
def nX(n:AX):EY:=(n.1,(n.2.1:Int),n.2.2)
def Cq(rows:List Row):A3->List Row
 | .kind x us=>rows++[(x,us)]
 | .tie x y=>CI rows x y
 | _=>rows
def Ed(x:Str)(c:LS)(m:Str)(n:AX):AX:=if n.1=x then(n.1,n.2.1,n.2.2++[(c,m)])else n
def FQ(ns:List AX):A3->List AX
 | .name x n=>ns++[(x,n,[])]
 | .deed x c m=>ns.map (Ed x c m)
 | _=>ns
inductive CG
 | kin (e:CZ)
 | bok (d:Cc)
structure Std(rows:List Row)(ns:List AX)(c:A3):Prop where
 tie:∀ x y,c=.tie x y->x∈rows.map 0.5/\y∈rows.map 0.5
 deed:∀ x d m,c=.deed x d m->x∈ns.map 0.5
inductive Fn(rows:List Row)(ns:List AX)(c:A3):Option CG->Prop
 | lack {x y w:Str} (e:c=.tie x y) (h:Rb rows x y w):Fn rows ns c (↥(.kin (.noK w)))
 | noN {x m:Str} {d:LS} (e:c=.deed x d m) (h:x∉ns.map 0.5):Fn rows ns c (↥(.bok (.noN x)))
 | kin {e:CZ} (st:Std rows ns c) (h:E6 7.4 (↥e)):Fn rows ns c (↥(.kin e))
 | bok {d:Cc} (st:Std rows ns c) (k:E6 7.4 none) (h:Dk 7.4 ((FQ ns c).map nX) (↥d)):Fn rows ns c (↥(.bok d))
 | fine (st:Std rows ns c) (k:E6 7.4 none) (h:Dk 7.4 ((FQ ns c).map nX) none):Fn rows ns c none
def Ir(Ds:Nat->μ)(rows:List Row)(E:XK)(H:Hp):CG->Prop
 | .kin e=>E9 Ds rows E H e
 | .bok d=>Iq Ds E H d
theorem iG{x:Str}{us:LS}:∀ {rows:List Row},rows.lookup x≈us->(x,us)∈rows
 | [],h=>nomatch h
 | (y,vs):: r,h=>by
  rw[Cv]at h;cases e:(x == y)with
  | true =>
   rw[e]at h;cases h;rw[eq_of_beq e];exact CT
  | false =>
   rw[e]at h;exact C7 _ (iG h)
def ia{rows:List Row}{r:Option CZ}(g:As rows)(h:E6 rows r):r=none:=by
 cases h with
 | good _=>rfl
 | rows h =>
  refine False.elim ?_;cases h with
  | size h=>exact h ⟨g.ne,g.le⟩
  | bad k h1 h2 h =>
   obtain⟨r,hk,c | c | c⟩:=h.ex
   ·rw[g.word r (Yc hk)]at c;cases c.1
   ·exact K7 (rows:=rows) g.nd hk (by
     obtain⟨q,hq,e⟩:=Yd.mp c.2.1;exact Yd.mpr ⟨q,hq,by rw[e]⟩)
   ·have:=g.few r (Yc hk);omega
 | ups f h =>
  refine False.elim ?_;cases h with
  | bad k j h =>
   obtain⟨r,u,hk,hj,_,_,c | c⟩:=h.ex
   ·exact c.1 (g.known r (Yc hk) u (Yc hj))
   ·obtain⟨i,hi⟩:=Zt.mp c.2.1;rw[Rl]at hi;split at hi
    ·have e:=(List.getElem?_inj (by have:=(Yg.mp hi).1;exact this) (g.upnd r (Yc hk))).mp (hi.trans hj.symm);omega
    ·cases hi
 | ring f u c =>
  refine False.elim ?_;obtain⟨rk,hrk⟩:=g.rank;obtain⟨x,hx,u,hu,hr⟩:=c;have up:∀ {a b:Str},b∈A2 rows a->rk b<rk a:=λ{a b} hb=>by
   unfold A2 at hb;cases hl:rows.lookup a with
   | none=>rw[hl]at hb;exact nomatch hb
   | some us =>
    rw[hl]at hb;exact hrk (a,us) (iG hl) b hb
  have le:∀ {a b:Str},Graph.Reach 6.2 a b->rk b<=rk a:=λ{a b} h=>Graph.closed_reach (S:=λz=>rk z<=rk a) (λz hz y hy=>by have:=up hy;exact BU (My this) hz) h (Ye _);have a:=up hu;have b:=le hr;omega
def gI(ns:List AX):(ns.map nX).map (λn=>((n.1,n.2.1.toNat,n.2.2):AX))=ns:=by
 rw[Es]
 conv=>rhs;rw[<- List.map_id ns]
 exact List.map_congr_left λn _=>rfl
def gp(ns:List AX):(ns.map nX).map 0.5=ns.map 0.5:=by rw[Es];rfl
def zh{rows:List Row}{ns:List AX}{c:A3}(h:Fn rows ns c none):As 7.4/\C6 7.4 (FQ ns c):=by
 cases h with
 | fine st k h =>
  obtain⟨a,_⟩:=ip h;rw[gI]at a;refine⟨?_,a⟩;cases k with
  | good g=>exact g
theorem RG{K:Fg}{H:Hp}:∀ {ns:List AX}{us:LV},Df H ns us->K0 K H (ns.map nX) us
 | _,_,.nil=>.nil
 | _,_,.cons r t=>.cons (by
   obtain⟨t',tp,vs,e,h1,h2,h3⟩:=r;exact⟨t',tp,false,vs,e,h1,AH.of h2,h3⟩) (RG t)
def N8(ns:List AX):Prop:=∀ n∈ns,AM n.1=true/\n.2.1<=4/\↑n.2.2<=65/\∀ p∈n.2.2,↑p.1<=5/\(∀ u∈p.1,AM u=true)/\AM p.2=true
def OI{rows:List Row}{ns:List AX}(g:As rows)(h:C6 rows ns):N8 ns:=λn hn=>by
 have a:=h.each n hn;have gw:∀ x∈rows.map 0.5,AM x=true:=US g;refine⟨a.word,a.four,by have:=a.deeds.few;rw[Ya]at this;omega,λp hp=>?_⟩;have b:=a.deeds.call p.1 (Yd.mpr ⟨p,hp,Y⟩);exact⟨by rw[b.len];have:=a.four;omega,λu hu=>gw u (b.known u hu),gw _ (a.made p hp)⟩
def UC{ns:List AX}{rows:List Row}(g:As rows)(h:C6 rows ns){c:A3}(f:Eg c):N8 (FQ ns c):=by
 have a:=OI g h;cases c with
 | kind x us=>exact a
 | tie x y=>exact a
 | name x n =>
  intro m hm
  rcases Yo.mp hm with z | z
  ·exact a m z
  ·rw[Yf.mp z];exact⟨f.1,f.2.2,BN _,λp hp=>nomatch hp⟩
 | deed x d m =>
  intro n hn;obtain⟨n0,Lo,rfl⟩:=Yd.mp hn;have b:=a n0 Lo;have fw:=(h.each n0 Lo).deeds.few;rw[Ya]at fw;unfold Ed;split
  ·refine⟨b.1,b.2.1,by rw[Ym];show ↑n0.2.2 + 1<=65;omega,λp hp=>?_⟩
   rcases Yo.mp hp with z | z
   ·exact b.2.2.2 p z
   ·rw[Yf.mp z];exact⟨f.2.2.1,f.2.2.2.1,f.2.2.2.2⟩
  ·exact b
def fu{ns:List AX}(h:N8 ns):∀ n∈ns.map nX,Z3 n:=λn hn=>by
 obtain⟨n0,Lo,rfl⟩:=Yd.mp hn;obtain⟨a,b,c,d⟩:=h n0 Lo;exact⟨H_ a,by show ↑n0.2.2<=200;omega,λp hp=>by have:=(d p hp).1;omega,λp hp=>H_ (d p hp).2.2⟩
def Xs{K:Fg}{C B D:μ}{Ds:Nat->μ}{Hx:Hp}{pb db k l:μ}{rows:List Row}{ns:List AX}{us:LV}{r:Option Cc}{R:Hp->Prop}{E:XK}(nb:Hx pb=none)(ndb:Hx db=none)(kd:Bc C Hx k rows)(g:As rows)(hl:Hx l≈(.lst us))(hN:Df Hx ns us)(ft:N8 ns)(bd:Dk rows (ns.map nX) r)
  (h:r=none->∀ H',AA Hx H'->B_ (λb=>∃ o,Hx b≈o) C B D H' pb k rows ns->R H') (re:∀ e,r≈e->Iq Ds E Hx e):
  Qa K C B D Ds [.ref pb,.ref k,.ref l] 8.8 (λv H3=>v=.non/\R H3) E:=by
 cases r with
 | none =>
  obtain⟨gn,_⟩:=ip bd;rw[gI]at gn;exact .inl (gm nb ndb kd g ⟨true,us,SqL.of hl,Paired.mapP hN λ_ _ z=>z.v⟩ gn λH' s bk=>h rfl H' s bk)
 | some e =>
  have Af:AA Hx 8.8:=λb o e=>by
   have e1:(upd Hx db (.own pb)) b≈o:=by rw[AD (AI e ndb)];exact e
   rw[AD (AI e nb)];exact e1
  exact .inr ⟨pb,k,l,true,rows,_,us,e,Y,kd.mono Af,g,SqL.of (Af _ _ hl),RG (hN.mono (Bx Af)),fu ft,bd,Iq.mono Af (re e rfl)⟩
def lJ(C B D Q2:μ):Sp:=λvs H Q E=>X_ C B D vs H Q E\/YJ C B D Q2 vs H Q E
def Oz(C B D:μ)(Ds:Nat->μ)(H:Hp)(Q:VK)(E:XK)(rows:List Row)(ns:List AX)(c:A3)(r:Option CG):Prop :=
 (r=none->∀ b k H',AA H H'->B_ 10.3 C B D H' b k 7.4 (FQ ns c)->Q (.ref b) H')/\∀ e,r≈e->Ir Ds 7.4 E H e
theorem Ir.mono{Ds:Nat->μ}{rows:List Row}{E:XK}{H H':Hp}{e:CG}(h:Ir Ds rows E H e)(s:AA H H'):Ir Ds rows E H' e:=by
 cases e with
 | kin e=>exact E9.mono h s
 | bok d=>exact Iq.mono s h
theorem Oz.mono{C B D:μ}{Ds:Nat->μ}{H H':Hp}{Q:VK}{E:XK}{rows:List Row}{ns:List AX}{c:A3}{r:Option CG}(h:Oz C B D Ds H Q E rows ns c r)(s:AA H H'):Oz C B D Ds H' Q E rows ns c r :=
 ⟨λe b k H2 s2 bk=>h.1 e b k H2 (s.trans s2) (bk.sub λb z=>by obtain⟨o,e⟩:=z;exact⟨o,s _ _ e⟩),λe he=>(h.2 e he).mono s⟩
inductive ZN(C B D:μ)(Ds:Nat->μ)(vs:LV)(H:Hp)(Q:VK)(E:XK):Prop
 | mk:∀(pb k t:μ) (rows:List Row) (ns:List AX) (x m:Str) (c:LS) (r:Option CG),vs=[.ref pb,.str x,.ref t]->Hw C B D H pb k rows ns->As rows->C6 rows ns->Eg (.deed x c m)->Ve H (c,m) (.ref t)->Fn rows ns (.deed x c m) r->Oz C B D Ds H Q E rows ns (.deed x c m) r->ZN C B D Ds vs H Q E
abbrev pF:LS:=["book","word","deed","names","name","places","deeds"]
def mw:Am pF ["book","word","deed"] (AN Uk):=by nofun
def vO{Ds:Nat->μ}(F:Def K mg "with_deed" Uk ["book","word","deed"] f fd)(TD:Jn K D)
  (MC:xc K D fC fdC) (GC:AV P w K mg base 3.2 3 fC fdC ["self","word"] (lJ C B D (Ds 2))) (MN:XJ K D fN fdN) (GN:AV P w K mg base 3.2 2 fN fdN ["self"] (Qz C B D)) (MK:XI K D fK fdK) (GK:AV P w K mg base 3.2 1 fK fdK ["self"] (Qy C B D))
  (MD:Mk K D fKI) (mgD:mg "Book"≈(.ref D)) (bD:Bw K fdKI Ic []) (GD:AV P w K mg base 3.2 6 fKI fdKI Ic (Qa K C B D Ds)):AV P w K mg base 3.2 8 f fd ["book","word","deed"] (ZN C B D Ds):=by
 nomatch F.fn.ok1 mw
 ·obtain⟨pb,k,t,rows,ns,x,m,c,r,rfl,_⟩:=h;rfl
 ·obtain⟨pb,k,t,rows,ns,x,m,c,r,rfl,bk,g,gn,fc,hp,due,wr⟩:=h;have nd:=mw.nd;have Ax:AZ 1 _:=hr.mono 0.2;have A7:AZ 2 _:=hr.mono 0.2;have GQ:AZ 3 _:=hr.mono 0.2;have Ll:AZ 7 _:=hr.mono 0.2
  ac_nf
  refine'⟨_,(pS (Bj (FE 0.9 TD.cl MC.me GC GQ MC.b .nil 4.1 3.1))
   (pS (sE 3 nd (B4 AB))
   (pS (Be JK rfl (Ci 10.6) (CO rfl (gC (gE 4 nd) (gC (gE 5 nd) (gC (gE 6 nd) CQ))))
    (AF (Bj (De EF Gs Gr F4 7.7 (pC (BB (pC (pv 4) (pC 7.5 (pC (gz (Ae BS (pv 4) 1.6 (Ad _)) (Ar Qj (pv 6) (BB 2.2)) (pv 6)) AB)))) AB)))))
   (AF (AW (JD MD GD Ll rfl mgD bD .nil 4.1 (pC (Gp 0.9 TD.cl MK.me GK Ax MK.b .nil 4.1) 3.3))))))),?_⟩
  exists let b:=_;let c:=AE (Bq _ _ b) a;let e:=AE _ c;AE _ e _ _ _
  obtain⟨dx,bo,mo,o,Ay,A8,h1,_⟩:=bk.ex;refine⟨_,rfl,pb,dx,_,rfl,h1,tR _ _ _,_,rfl,?_⟩;by_cases hx:x∉ns.map 0.5
  ·have er:r≈(.bok (.noN x)):=by
    cases due with
    | lack e _=>cases e
    | noN e _=>cases e;rfl
    | kin st _=>exact absurd (st.deed _ _ _ rfl) hx
    | bok st _ _=>exact absurd (st.deed _ _ _ rfl) hx
    | fine st _ _=>exact absurd (st.deed _ _ _ rfl) hx
   exact .inr ⟨pb,k,rows,ns,x,Y,bk,H_ fc.1,hx,wr.2 _ er⟩
  have hx:=Classical.not_not.mp hx;obtain⟨d,bd,er⟩:∃ d:Option Cc,Dk rows ((FQ ns (.deed x c m)).map nX) d/\r=d.map CG.bok:=by
   cases due with
   | lack e _=>cases e
   | noN e h=>cases e;exact absurd hx h
   | kin st h=>cases ia g h
   | bok st _ h=>exact⟨_,h,Y⟩
   | fine st _ h=>exact⟨_,h,Y⟩
  refine .inl ⟨pb,k,rows,ns,x,Y,bk,hx,BN _,λln CH=>?_⟩;have s1:AA H (upd H ln (.lst [])):=AJ CH;have A6:(upd H ln (.lst [])) ln≈(.lst []):=uS;generalize upd H ln (.lst [])=H1 at s1 A6;refine⟨Z,pb,dx,Z,s1 _ _ h1,RH _ _ _,pb,k,rows,ns,Y,bk.mono s1,gn,λl us H2 hl s2 Ao HB=>?_⟩;have Aw:=s1.trans s2;have IM:=s2 _ _ A6;have lnl:l≠ln:=Yz (AI A6 hl);have few:=gn.few;have nl:=Yi HB;let Bf:NW:=λi σ H'=>∃(vs:LV) (a b e:OV),σ=[↥(.ref pb),↥(.str x),↥(.ref t),↥(.ref ln),a,b,e]/\(∀ b o,b≠ln->H2 b≈o->H' b≈o)/\H' ln≈(.lst vs)/\Df H' ((ns.take i).map (Ed x c m)) vs;refine⟨l,Y,⟨_,SqL.of Ao⟩,B1 (Ck (xs:=us)) Bf
   ⟨[],none,none,none,Y,λ_ _ _ e=>e,IM,by rw[CD];exact .nil⟩ (λi σ H' _ h0=>by obtain⟨_,_,_,_,_,k2,_⟩:=h0;exact SqL.of (k2 _ _ lnl Ao)) ?_ ?_⟩
  ·rintro i v σ H3 hi ⟨vs,a,b,e,rfl,k3,BA,Fl⟩;obtain⟨n,hn,tn,tp,ws,rfl,ht,htp,hP⟩:=BM HB hi;have tk:∀ b xs,H2 b≈(.tup xs)->H3 b≈(.tup xs):=λb xs e=>k3 _ _ (λz=>by rw[z,IM]at e;cases e) e;have t3:=tk _ _ ht;have cH:=tk _ _ htp;have il:i<↑us:=(Yg.mp hi).1;have vl:↑vs<=8:=by rw[<- Yi Fl,Ya,Yy];omega
   refine⟨tn,Z,AH.of t3,Y,_,Z,_,Z,_,Z,Y,?_⟩;refine⟨Z,.inl ⟨Y,_,SqL.of BA⟩,Z,Z,Z,Z,Y,Z,?_⟩;rw[B3];have fin:∀(tq:μ) (ps:List (LS×Str)) (ws:LV) (H4:Hp),AA H3 H4->H4 tq≈(.tup ws)->C1 H4 ps ws->Ed x c m n=(n.1,n.2.1,ps)->∀ t2,H4 t2=none->∃(Lc:LV) (a b e:OV),[↥(V.ref pb),↥(V.str x),↥(V.ref t),↥(V.ref ln),↥(V.str n.1),↥(V.int n.2.1),↥(V.ref tp)]=[↥(.ref pb),↥(.str x),↥(.ref t),↥(.ref ln),a,b,e] /\
     (∀ b o,b≠ln->H2 b≈o->4.0 b≈o)/\4.0 ln≈(.lst Lc)/\Df 4.0 ((ns.take 4.6).map (Ed x c m)) Lc:=λtq ps ws H4 s4 hq hps et t2 AU=>by
    have s5:AA H4 (upd H4 t2 (.tup [.str n.1,.int n.2.1,.ref tq])):=AJ AU;have Bt:=s4 _ _ BA;have Vu:∀ b xs,H4 b≈(.tup xs)->4.0 b≈(.tup xs):=λb xs e=>by
     rw[AD (λz=>by rw[z,Bt]at e;cases e)];exact s5 _ _ e
    have Vv:t2≠ln:=λz=>by rw[z,Bt]at AU;cases AU
    refine⟨_,_,_,Z,λb o hb e=>by rw[AD hb];exact s5 _ _ (s4 _ _ (k3 _ _ hb e)),uS,?_⟩;have e2:(ns.take 4.6).map (Ed x c m)=(ns.take i).map (Ed x c m)++[(n.1,n.2.1,ps)]:=by rw[Yq,hn,B6];show _++[Ed x c m n]=_;rw[et]
    rw[e2];exact Cu ((Fl.mono λb xs e=>s4 _ _ e).mono Vu) ⟨t2,tq,ws,Y,by rw[AD Vv,uS],Vu _ _ hq,hps.mono Vu⟩
   have dY:=hP.mono tk;by_cases ex:n.1=x
   ·rw[Jb ex];obtain⟨t0,tc,e0,p1,p2⟩:=hp;cases e0;refine AY ⟨Z,Z,O,λt4 Pl=>?_⟩;have Af:AA H3 (upd H3 t4 (.tup [.ref t])):=AJ Pl;have di:(upd H3 t4 (.tup [.ref t])) t4≈(.tup [.ref t]):=uS;generalize upd H3 t4 (.tup [.ref t])=H4 at Af di ⊢;have wl:=Yi hP;have nf:=(gn.each n (Yc hn)).deeds.few;rw[Ya]at nf;refine ON (K:=K) (Af _ _ cH) di (sL (by show ↑ws + 1<=100000;omega)) λtq H5 Bp hq=>⟨sL 8.0,λt2 AU=>⟨ln,vs,Z,Y,?_,Br 0.0,?_⟩⟩
    ·exact AJ AU _ _ (Bp _ _ (Af _ _ BA))
    ·have Le:=Af.trans Bp;refine fin tq (n.2.2++[(c,m)]) (ws++[.ref t]) H5 Le hq (Cu (dY.mono (Bx Le)) ⟨t,tc,Y,?_,?_⟩) (by unfold Ed;rw[if_pos ex]) t2 AU
     ·exact Le _ _ (tk _ _ (Aw _ _ p1))
     ·exact Le _ _ (tk _ _ (Aw _ _ p2))
   ·rw[Jc ex];refine AL ⟨Z,sL 8.0,λt2 AU=>⟨ln,_,Z,Y,AJ AU _ _ BA,Br 0.0,?_⟩⟩;exact fin tp n.2.2 ws H3 (AA.refl _) cH dY (by unfold Ed;rw[if_neg ex]) t2 AU
  ·rintro σ H3 ⟨vs,a,b,e,rfl,k3,BA,Fl⟩;rw[<- nl,Yx]at Fl;have A_:AA H H3:=λb o e=>k3 _ _ (AI e CH) (Aw _ _ e);refine⟨Z,pb,dx,Z,A_ _ _ h1,YG _ _ _,pb,k,rows,ns,Y,bk.mono A_,Z,?_⟩;intro p2 d2 np G_ ne2;have kd:Bc C H3 k rows:=by
    obtain⟨_,_,_,_,_,_,_,z,_⟩:=(bk.mono A_).ex;exact z
   have b_:=wr.mono A_;refine Xs np G_ kd g BA Fl (UC g gn fc) bd (λe H4 s4 Lz=>b_.1 (by rw[er,e];rfl) p2 k H4 s4 Lz) λe he=>?_;exact b_.2 (.bok e) (by rw[er,he];rfl)
def Bv:A3->Str
 | .kind _ _=>"kind"
 | .tie _ _=>"tie"
 | .name _ _=>"name"
 | .deed _ _ _=>"deed"
def DQ:∀ c:A3,(A1 c)[0]?≈(Bv c)
 | .kind _ _=>rfl
 | .tie _ _=>rfl
 | .name _ _=>rfl
 | .deed _ _ _=>rfl
def wF(c:A3):∃ x,(A1 c)[1]?≈x:=by cases c <;> exact⟨Z⟩
def mL(r:Row):(kW r).drop 3=r.2:=by
 unfold kW
 rcases r with⟨x,us⟩
 cases us with
 | nil=>rfl
 | cons a l=>rfl
def eh(x m:Str)(c:LS):(dW x c m)[↑(dW x c m) - 1]?≈m:=by
 obtain⟨a1,a2,a3,a4,a5⟩:=L3 x m c;rw[IC]at a3;cases h:(dW x c m)[↑(dW x c m) - 1]? with
 | none =>
  have:=List.getElem?_eq_none_iff.mp h;omega
 | some z=>rw[h]at a3;exact congrArg some a3
def xT(C:μ)(Ds:Nat->μ):Sp:=λvs H Q E=>Xf C Ds vs H Q E\/W2 C Ds vs H Q E
inductive ZO(C B D:μ)(Ds:Nat->μ)(vs:LV)(H:Hp)(Q:VK)(E:XK):Prop
 | mk:∀(pb k a:μ) (rows:List Row) (ns:List AX) (c:A3) (r:Option CG),vs=[.ref pb,.ref a]->Hw C B D H pb k rows ns->As rows->C6 rows ns->Eg c->Ei H a (A1 c)->Fn rows ns c r->Oz C B D Ds H Q E rows ns c r->ZO C B D Ds vs H Q E
def ZW:¬ (("kind":Str)="deed"):=by rfl'
def kD:¬ (("kind":Str)="name"):=by rfl'
def ZX:¬ (("kind":Str)="tie"):=by rfl'
def ZZ:¬ (("tie":Str)="deed"):=by rfl'
def j8:¬ (("tie":Str)="name"):=by rfl'
def ZY:¬ (("name":Str)="deed"):=by rfl'
abbrev pE:LS:=["book","words","kinds","pair"]
def my:Am pE ["book","words"] (AN Ub):=by nofun
set_option maxHeartbeats 8000000 in
def u5{Ds:Nat->μ}(F:Def K mg "with_row" Ub ["book","words"] f fd)(TD:Jn K D)(TC:ET K C)
  (DW:Def K mg "with_deed" Uk ["book","word","deed"] fWD fdWD) (GW:AV P w K mg base 3.2 8 fWD fdWD ["book","word","deed"] (ZN C B D Ds))
  (DDO:Def K mg "deed_of" Zip ["words"] fDO fdDO) (GDO:AV P w K mg base 3.2 1 fDO fdDO ["words"] Z5) (DNO:Def K mg "name_of" UO ["words"] fNO fdNO) (GNO:AV P w K mg base 3.2 1 fNO fdNO ["words"] ZL) (DKO:Def K mg "kind_of" UN ["words"] fKO fdKO) (GKO:AV P w K mg base 3.2 1 fKO fdKO ["words"] ZJ)
  (MN:XJ K D fN fdN) (GN:AV P w K mg base 3.2 2 fN fdN ["self"] (Qz C B D)) (MK:XI K D fK fdK) (GK:AV P w K mg base 3.2 1 fK fdK ["self"] (Qy C B D))
  (MT:E7 K C "tied" "Kinds.tied" RQ ["self","one","other"] fT fdT) (GT:AV P w K mg base 3.2 6 fT fdT ["self","one","other"] (xT C Ds)) (MM:E7 K C "more" "Kinds.more" Up ["self","word","ups"] fM fdM) (GM:AV P w K mg base 3.2 6 fM fdM ["self","word","ups"] (Xc K C Ds))
  (MD:Mk K D fKI) (mgD:mg "Book"≈(.ref D)) (bD:Bw K fdKI Ic []) (GD:AV P w K mg base 3.2 6 fKI fdKI Ic (Qa K C B D Ds)):AV P w K mg base 3.2 9 f fd ["book","words"] (ZO C B D Ds):=by
 nomatch F.fn.ok1 my
 ·obtain⟨pb,k,a,rows,ns,c,r,rfl,_⟩:=h;rfl
 ·obtain⟨pb,k,a,rows,ns,c,r,rfl,bk,g,gn,fc,hw,due,wr⟩:=h;have nd:=my.nd;have Ax:AZ 1 _:=hr.mono 0.2;have A7:AZ 2 _:=hr.mono 0.2;have dJ:AZ 6 _:=hr.mono 0.2;have Ll:AZ 7 _:=hr.mono 0.2;have qD:AZ 8 _:=hr.mono 0.2
  ac_nf
  refine'⟨_,(pS (sE 2 nd (Gp 0.9 TD.cl MK.me GK Ax MK.b .nil 4.1))
   (pS (AR (Ae BS 2.4 Ah (Ad _)) (AF (AW (Kt Ak.of DW GW qD (pC 0.9 (pC 2.4 (pC (Kt Ak.of DDO GDO Ax 3.1) AB)))))) AS)
   (pS (AR (Ae BS 2.4 Ah (Ad _)) (AF (AW (JD MD GD Ll rfl mgD bD .nil 4.1 (pC 4.2 (pC (Ar MF 10.6 (B4 (pC (Ar Qj (Kt Ak.of DNO GNO Ax 3.1) (BB (pC (BB AB) AB))) AB))) AB))))) AS)
   (pS (AR (Ae BS 2.4 Ah (Ad _)) (AF (AW (JD MD GD Ll rfl mgD bD .nil 4.1 (pC (FE 4.2 TC.cl MT.me GT dJ MT.b .nil 4.1 (pC 2.4 (pC 2.4 AB))) (pC 10.6 AB))))) AS)
   (pS (sE 3 nd (Kt Ak.of DKO GKO Ax 3.1))
   (AF (AW (JD MD GD Ll rfl mgD bD .nil 4.1 (pC (FE 4.2 TC.cl MM.me GM dJ MM.b .nil 4.1 (pC (Ac (r:=C_ K) Dp 7.7 AG 0.4) (pC (Ac (r:=C_ K) Dp 7.7 AG 0.4) AB))) (pC 10.6 AB)))))))))),?_⟩
  exists let b:=AE _ a;let c:=_;let e:=AE (A4 _ c _) b;let f:=_;let g:=AE (A4 _ f _) e;let h:=_;let i:=AE (A4 _ h _) g;AE _ i _ _ _
  obtain⟨dx,bo,mo,o,Ay,A8,h1,kd,_⟩:=bk.ex;obtain⟨dxk,dk,ak,_,_,_,_,EI,_⟩:=kd.ex;have hl:=SqL.of (K:=K) hw.at_;refine⟨_,rfl,pb,dx,_,rfl,h1,YG _ _ _,pb,k,rows,ns,rfl,bk,?_⟩;refine⟨_,rfl,a,_,_,_,rfl,rfl,hl,BE (k:=0) (DQ c),rfl,_,rfl,?_⟩;rw[B3];have fin:∀ {c:A3} {r:Option CG} {kx:μ} {H1:Hp},Oz C B D Ds H Q E rows ns c r->FQ ns c=ns->AA H H1->Bc C H1 kx 7.4->As 7.4->(∃ d:Option Cc,Dk 7.4 (ns.map nX) d/\r=d.map CG.bok)->∀(l:μ) (us:LV) (H2:Hp),AA H1 H2->H2 l≈(.lst us)->Df H2 ns us ->
    ∀ p2 d2,H2 p2=none->H2 d2=none->Qa K C B D Ds [.ref p2,.ref kx,.ref l] (upd (upd H2 d2 (.own p2)) p2 (.ins D d2 [])) (λv H3=>v=.non/\Q (.ref p2) H3) E:=λ{c r kx H1} wr en s1 S6 g1 hd l us H2 s2 Ao HB p2 d2 np G_=>by
   obtain⟨d,bd,er⟩:=hd;have Aw:=s1.trans s2;have cE:=wr.mono Aw;refine Xs np G_ (S6.mono s2) g1 Ao HB (OI g gn) bd (λe H4 s4 Lz=>cE.1 (by rw[er,e];rfl) p2 kx H4 s4 (by rw[en];exact Lz)) λe he=>?_;exact cE.2 (.bok e) (by rw[er,he];rfl)
  cases c with
  | deed x c m =>
   rw[Jb (show Bv (.deed x c m)="deed" from rfl)];have h4:4<=↑(dW x c m):=by rw[(L3 x m c).2.2.2.1];omega
   refine AY ⟨Z,Z,a,_,_,Z,Y,hl,BE (k:=1) (show(dW x c m)[1]?≈x from rfl),Z,a,dW x c m,m,Y,hw,h4,eh x m c,λt tc H1 s1 g1 g2=>?_⟩;rw[(L3 x m c).2.1]at g2;exact⟨pb,k,t,rows,ns,x,m,c,r,Y,bk.mono s1,g,gn,fc,⟨t,tc,Y,g1,g2⟩,due,wr.mono s1⟩
  | name x n =>
   rw[Jc (show ¬ Bv (.name x n)="deed" from ZY)];refine AL ⟨Z,a,_,_,Z,Y,hl,BE (k:=0) (DQ _),Y,Z,?_⟩;rw[B3,Jb (show Bv (.name x n)="name" from rfl)];obtain⟨WW,WV⟩:=Wo fc.2.1 fc.2.2;obtain⟨i1,i2⟩:=fq WW;rw[WV]at i1;refine AY ⟨Z,Z,pb,dx,Z,h1,RH _ _ _,pb,k,rows,ns,Y,bk,gn,λl us H1 Dj s1 A6 Pz=>?_⟩;refine⟨Z,a,nW (x,n,[]),x,Iu n,Z,hw.mono s1,Y,Y,i1,i2,λt1 H2 s2 g2=>⟨BN _,λte hte=>⟨O,λt2 AU=>?_⟩⟩⟩;have Ey:AA H2 (upd H2 te (.tup [])):=AJ hte;have e3:(upd H2 te (.tup [])) te≈(.tup []):=uS;generalize upd H2 te (.tup [])=H3 at Ey e3 AU ⊢;have Af:AA H3 (upd H3 t2 (.tup [.ref te])):=AJ AU;have e4:(upd H3 t2 (.tup [.ref te])) t2≈(.tup [.ref te]):=uS;generalize upd H3 t2 (.tup [.ref te])=H4 at Af e4 ⊢;have cW:=Ey.trans Af;refine ON (K:=K) (cW _ _ g2) e4 (sL (by show 2 + 1<=100000;decide)) λp H5 Bp g5=>⟨O,λl2 Ao=>?_⟩;have Cn:AA H5 (upd H5 l2 (.lst [.ref p])):=AJ Ao;have e6:(upd H5 l2 (.lst [.ref p])) l2≈(.lst [.ref p]):=uS;generalize upd H5 l2 (.lst [.ref p])=H6 at Cn e6 ⊢;have G0:=s2.trans (cW.trans (Bp.trans Cn));have few:=gn.few;have nl:=Yi Pz;refine⟨l,l2,us,[.ref p],Y,Y,G0 _ _ A6,e6,sL (by show ↑us + 1<=100000;omega),λl3 BA=>?_⟩;have F9:AA H6 (upd H6 l3 (.lst (us++[.ref p]))):=AJ BA;have e7:(upd H6 l3 (.lst (us++[.ref p]))) l3≈(.lst (us++[.ref p])):=uS;generalize upd H6 l3 (.lst (us++[.ref p]))=H7 at F9 e7 ⊢;have Lf:=G0.trans F9;have C8:=s1.trans Lf;intro p2 d2 np G_ ne2;obtain⟨d,bd,er⟩:∃ d:Option Cc,Dk rows ((FQ ns (.name x n)).map nX) d/\r=d.map CG.bok:=by
    cases due with
    | lack e _=>cases e
    | noN e h=>cases e
    | kin st h=>cases ia g h
    | bok st _ h=>exact⟨_,h,Y⟩
    | fine st _ h=>exact⟨_,h,Y⟩
   have bz:=wr.mono C8;refine Xs np G_ (kd.mono C8) g e7 ?_ (UC g gn fc) bd (λe H4 s4 Lz=>bz.1 (by rw[er,e];rfl) p2 k H4 s4 Lz) λe he=>bz.2 (.bok e) (by rw[er,he];rfl);exact Cu (Pz.mono (Bx Lf)) ⟨p,te,[],Y,F9 _ _ (Cn _ _ g5),F9 _ _ (Cn _ _ (Bp _ _ (Af _ _ e3))),.nil⟩
  | tie x y =>
   rw[Jc (show ¬ Bv (.tie x y)="deed" from ZZ)];refine AL ⟨Z,a,_,_,Z,Y,hl,BE (k:=0) (DQ _),Y,Z,?_⟩;rw[B3,Jc (show ¬ Bv (.tie x y)="name" from j8)];refine AL ⟨Z,a,_,_,Z,Y,hl,BE (k:=0) (DQ _),Y,Z,?_⟩;rw[B3,Jb (show Bv (.tie x y)="tie" from rfl)];refine AY ⟨Z,k,dxk,Z,EI,zR _ _,Z,a,_,_,Z,Y,hl,BE (k:=1) (show(A1 (.tie x y))[1]?≈x from rfl),Z,a,_,_,Z,Y,hl,BE (k:=2) (show(A1 (.tie x y))[2]?≈y from rfl),?_⟩;by_cases st:x∈rows.map 0.5/\y∈rows.map 0.5
   ·obtain⟨r1,hk,cs⟩:∃ r1,E6 (CI rows x y) r1/\((∃ e,r1≈e/\r≈(.kin e))\/(r1=none/\∃ d:Option Cc,Dk (CI rows x y) (ns.map nX) d/\r=d.map CG.bok)):=by
     cases due with
     | lack e h =>
      cases e
      rcases h with⟨h,_⟩ | ⟨_,h,_⟩
      ·exact absurd st.1 h
      ·exact absurd st.2 h
     | noN e h=>cases e
     | kin st h=>exact⟨_,h,.inl ⟨Z,Y⟩⟩
     | bok st k h=>exact⟨_,k,.inr ⟨Y,_,h,Y⟩⟩
     | fine st k h=>exact⟨_,k,.inr ⟨Y,_,h,Y⟩⟩
    refine .inl ⟨k,rows,x,y,r1,Y,kd,g,st.1,st.2,hk,λe1 kx H1 s1 S6=>?_,λe he=>?_⟩
    ·rcases cs with⟨e,z,_⟩ | ⟨_,hd⟩
     ·rw[e1]at z;cases z
     have g1:As (CI rows x y):=by
      rw[e1]at hk;cases hk with
      | good g=>exact g
     refine⟨Z,pb,dx,Z,s1 _ _ h1,RH _ _ _,pb,k,rows,ns,Y,bk.mono s1,gn,λl us H2 Dj s2 Ao HB=>?_⟩;intro p2 d2 np G_ ne2;exact fin (c:=.tie x y) wr rfl s1 S6 g1 hd l us H2 s2 Ao HB p2 d2 np G_
    ·rcases cs with⟨e2,z,er⟩ | ⟨z,_⟩
     ·rw[he]at z;cases z;exact wr.2 _ er
     ·rw[he]at z;cases z
   ·have lk:∃ w,Rb rows x y w/\r≈(.kin (.noK w)):=by
     cases due with
     | lack e h=>cases e;exact⟨_,h,Y⟩
     | noN e h=>cases e
     | kin s h=>exact absurd (s.tie _ _ rfl) st
     | bok s _ _=>exact absurd (s.tie _ _ rfl) st
     | fine s _ _=>exact absurd (s.tie _ _ rfl) st
    obtain⟨z,lk,er⟩:=lk;exact .inr ⟨k,rows,x,y,z,Y,kd,g,H_ fc.1,H_ fc.2,lk,λd2 H2 s2 e2=>E9.noK (wr.2 _ er) z rfl d2 H2 s2 e2⟩
  | kind x us =>
   rw[Jc (show ¬ Bv (.kind x us)="deed" from ZW)];refine AL ⟨Z,a,_,_,Z,Y,hl,BE (k:=0) (DQ _),Y,Z,?_⟩;rw[B3,Jc (show ¬ Bv (.kind x us)="name" from kD)];refine AL ⟨Z,a,_,_,Z,Y,hl,BE (k:=0) (DQ _),Y,Z,?_⟩;rw[B3,Jc (show ¬ Bv (.kind x us)="tie" from ZX)];refine AL ⟨Z,a,A1 (.kind x us),x,Y,hw,Y,λt u H1 s1 g1 g2 gu=>?_⟩;rw[show(A1 (.kind x us)).drop 3=us from mL (x,us)]at g2;obtain⟨r1,hk,cs⟩:∃ r1,E6 8.4 r1/\((∃ e,r1≈e/\r≈(.kin e))\/(r1=none/\∃ d:Option Cc,Dk 8.4 (ns.map nX) d/\r=d.map CG.bok)):=by
    cases due with
    | lack e h=>cases e
    | noN e h=>cases e
    | kin st h=>exact⟨_,h,.inl ⟨Z,Y⟩⟩
    | bok st k h=>exact⟨_,k,.inr ⟨Y,_,h,Y⟩⟩
    | fine st k h=>exact⟨_,k,.inr ⟨Y,_,h,Y⟩⟩
   refine⟨Z,k,dxk,Z,s1 _ _ EI,zQ _ _,Z,t,_,_,Z,Y,AH.of g1,EA (j:=0) rfl,Z,t,_,_,Z,Y,AH.of g1,EA (j:=1) rfl,k,u,rows,x,us,r1,Y,kd.mono s1,g,.inr (SqL.of g2),H_ fc.1,λv hv=>H_ (fc.2.2 v hv),hk,λe1 kx H2 s2 pX=>?_,λe he=>?_⟩
   ·rcases cs with⟨e,z,_⟩ | ⟨_,hd⟩
    ·rw[e1]at z;cases z
    have dz:As 8.4:=by
     rw[e1]at hk;cases hk with
     | good g=>exact g
    have Aw:=s1.trans s2;refine⟨Z,pb,dx,Z,Aw _ _ h1,RH _ _ _,pb,k,rows,ns,Y,bk.mono Aw,gn,λl Bn H3 Dj s3 BA Fl=>?_⟩;intro p2 d2 np G_ ne2;exact fin (c:=.kind x us) wr rfl Aw pX dz hd l Bn H3 s3 BA Fl p2 d2 np G_
   ·rcases cs with⟨e2,z,er⟩ | ⟨z,_⟩
    ·rw[he]at z;cases z;exact E9.mono (wr.2 _ er) s1
    ·rw[he]at z;cases z
def Mv(U:μ)(o:HO):Prop:=(∃ xs,o=.lst xs)\/∃ d f,o=.ins U d f
section
variable {C B D U:μ}{M:μ->Prop}{H H':Hp}
def Fq(hM:∀ b,M b->∃ o,H b≈o/\Mv U o){b:μ}{o:HO}(e:H b≈o)(n:¬ Mv U o):¬ M b:=λz=>by
 obtain⟨o',e',h⟩:=hM b z;rw[e]at e';cases e';exact n h
def Ti{U:μ}{o:Obj}{u:HO}:¬ Mv U (.frz o u):=λh=>by rcases h with⟨_,h⟩ | ⟨_,_,h⟩ <;> cases h
def N9{U:μ}{xs:LV}:¬ Mv U (.tup xs):=λh=>by rcases h with⟨_,h⟩ | ⟨_,_,h⟩ <;> cases h
def Yay{U:μ}{xs:KL}:¬ Mv U (.dK xs):=λh=>by rcases h with⟨_,h⟩ | ⟨_,_,h⟩ <;> cases h
def Ws{U A:μ}{d:μ}{f:List (Str×V)}(n:U≠A):¬ Mv U (.ins A d f):=λh=>by
 rcases h with⟨_,h⟩ | ⟨_,_,h⟩
 ·cases h
 ·injection h with h _ _;exact n h.symm
def Bc.keepM(hC:U≠C)(hM:∀ b,M b->∃ o,H b≈o/\Mv U o)(s:∀ b o,¬ M b->H b≈o->H' b≈o){k:μ}{rows:List Row}(h:Bc C H k rows):Bc C H' k rows:=by
 obtain⟨dx,d,a,o1,oa,π,Az,h1,h2,h3,h4⟩:=h.ex;exact⟨dx,d,a,o1,oa,π,Az,s _ _ (Fq hM h1 (Ws hC)) h1,⟨s _ _ (Fq hM h2.at_ Ti) h2.at_,h2.ups.mono λb xs e=>s _ _ (Fq hM e N9) e⟩,s _ _ (Fq hM h3 Ti) h3,h4.mono λb o' fk e=>s _ _ (Fq hM e Ti) e⟩
theorem Fb.keepM(hC:U≠C)(hB:U≠B)(hM:∀ b,M b->∃ o,H b≈o/\Mv U o)(s:∀ b o,¬ M b->H b≈o->H' b≈o){p k:μ}{rows:List Row}{n:Nat}{ds:List (LS)}(h:Fb C B H p k rows n ds):Fb C B H' p k rows n ds:=by
 obtain⟨dx,t,us,h1,h2,h3,h4⟩:=h.ex;exact⟨dx,t,us,s _ _ (Fq hM h1 (Ws hB)) h1,Bc.keepM hC hM s h2,s _ _ (Fq hM h3 N9) h3,Paired.mapP h4 λ_ _ ⟨t',e,x⟩=>⟨t',e,s _ _ (Fq hM x N9) x⟩⟩
theorem B_.keepM{Z:μ->Prop}(hC:U≠C)(hB:U≠B)(hD:U≠D)(hM:∀ b,M b->∃ o,H b≈o/\Mv U o)(hZ:∀ b,M b->Z b)(s:∀ b o,¬ M b->H b≈o->H' b≈o){p k:μ}{rows:List Row}{ns:List AX}(h:B_ Z C B D H p k rows ns):B_ Z C B D H' p k rows ns:=by
 obtain⟨dx,bo,mo,o,Ay,A8,h1,h2,h3,h4,h5,h6⟩:=h.ex;exact⟨dx,bo,mo,o,Ay,A8,s _ _ (Fq hM h1 (Ws hD)) h1,Bc.keepM hC hM s h2,s _ _ (Fq hM h3 Ti) h3,h4.imp λn v ⟨y,e,b⟩=>⟨y,e,Fb.keepM hC hB hM s b⟩,s _ _ (Fq hM h5 Yay) h5,h6.imp λn v ⟨l,e,b,z⟩=>⟨l,e,s _ _ (λy=>z (hZ l y)) b,z⟩⟩
end
def Ca(b lp tx:μ):List (Str×V):=[("now",.ref b),("past",.ref lp),("texts",.ref tx)]
def z9:¬ (("now":Str)="past"):=by rfl'
def mI:¬ (("now":Str)="texts"):=by rfl'
def mJ:¬ (("past":Str)="texts"):=by rfl'
def Yas(b:μ)(v:V):BD "past" v [("now",.ref b)]=([("now",.ref b),("past",v)]:List (Str×V)):=by
 unfold BD;rw[if_neg z9];rfl
def Yar(b d:μ)(v:V):BD "texts" v [("now",.ref b),("past",.ref d)]=([("now",.ref b),("past",.ref d),("texts",v)]:List (Str×V)):=by
 unfold BD;rw[if_neg mI];unfold BD;rw[if_neg mJ];rfl
def Yaq(b b' lp tx:μ):BD "now" (.ref b') (Ca b lp tx)=Ca b' lp tx:=by
 unfold Ca BD;rw[if_pos rfl]
def j_(b lp tx Sw:μ):BD "texts" (.ref Sw) (Ca b lp tx)=Ca b lp Sw:=by
 unfold Ca BD;rw[if_neg mI];unfold BD;rw[if_neg mJ];unfold BD;rw[if_pos rfl]
def XA(b lp tx:μ):(Ca b lp tx).lookup ("now":Str)≈(.ref b):=by
 unfold Ca;rw[List.lookup_cons_self]
def XB(b lp tx:μ):(Ca b lp tx).lookup ("past":Str)≈(.ref lp):=by
 unfold Ca;rw[Cv,show(("past":Str) == "now")=false from by rfl',List.lookup_cons_self]
def fV(b lp tx:μ):(Ca b lp tx).lookup ("texts":Str)≈(.ref tx):=by
 unfold Ca;rw[Cv,show(("texts":Str) == "now")=false from by rfl',Cv,show(("texts":Str) == "past")=false from by rfl',List.lookup_cons_self]
def Xn(b lp tx:μ){x:Str}(h1:(x == ("now":Str))=false)(h2:(x == ("past":Str))=false)(h3:(x == ("texts":Str))=false):(Ca b lp tx).lookup x=none:=by
 unfold Ca;rw[Cv,h1,Cv,h2,Cv,h3];rfl
def gq(b lp tx:μ):(Ca b lp tx).lookup ("move":Str)=none:=Xn b lp tx 1.2 1.2 1.2
def zP(b lp tx:μ):(Ca b lp tx).lookup ("back":Str)=none:=Xn b lp tx 1.2 1.2 1.2
def XG(b lp tx:μ):(Ca b lp tx).lookup ("say":Str)=none:=Xn b lp tx 1.2 1.2 1.2
structure N3(K:Fg)(U:μ):Prop where
 cl:FL K U
 nN:Eo K U "now"
 nP:Eo K U "past"
 nT:Eo K U "texts"
structure Gj(U:μ)(H:Hp)(p b lp:μ)(vs:LV):Prop where
 ex:∃(dx tx:μ) (ob:Obj),H p≈(.ins U dx (Ca b lp tx))/\H lp≈(.lst vs)/\H tx≈(.frz ob (.dT []))
def Gj.mono{U:μ}{H H':Hp}{p b lp:μ}{vs:LV}(h:Gj U H p b lp vs)(s:AA H H'):Gj U H' p b lp vs:=by
 obtain⟨dx,tx,ob,h1,h2,h3⟩:=h.ex;exact⟨dx,tx,ob,s _ _ h1,s _ _ h2,s _ _ h3⟩
def QP:List Row:=[("thing",[])]
def Zb:As QP:=⟨Q,Q,(λr hr=>by rw[Yf.mp hr];rfl'),by rfl',(λr hr=>by rw[Yf.mp hr];exact BN _),(λr hr u hu=>by rw[Yf.mp hr]at hu;cases hu),(λr hr=>by rw[Yf.mp hr];exact .nil),(λ_=>0),(λr hr u hu=>by rw[Yf.mp hr]at hu;cases hu)⟩
def k_:C6 QP []:=⟨BN _,(λn hn=>nomatch hn),.nil⟩
inductive XZ(C B D U:μ)(vs:LV)(H:Hp)(Q:VK)(AO:XK):Prop
 | mk:∀(p dx:μ),vs=[.ref p]->H p≈(.ins U dx [])->(∀ b k lp H',H lp=none->(∀ c o,c≠p->H c≈o->H' c≈o)->Gj U H' p b lp []->B_ 10.3 C B D H' b k QP []->Q .non H')->XZ C B D U vs H Q AO
inductive Tt(U:μ)(vs:LV)(H:Hp)(Q:VK)(AO:XK):Prop
 | mk:∀(p b lp b2:μ) (us:LV),vs=[.ref p,.ref b2]->Gj U H p b lp us->(∀ l H',H l=none->(∀ c o,c≠p->H c≈o->H' c≈o)->Gj U H' p b2 lp us->H' l≈(.lst [.str "ok"])->Q (.ref l) H')->Tt U vs H Q AO
def ZR(U:μ)(Ds:Nat->μ)(H:Hp)(p lp:μ)(us:LV)(Q:VK)(E:XK):Prop :=
 (us=[]/\∀ H',AA H H'->E (.ref (Ds 14)) none H')\/∃ FN b0,us=FN++[.ref b0]/\∀ l H',H l=none->(∀ c o,c≠p->c≠lp->H c≈o->H' c≈o)->Gj U H' p b0 lp FN->H' l≈(.lst [.str "ok"])->Q (.ref l) H'
inductive Wv(U:μ)(Ds:Nat->μ)(vs:LV)(H:Hp)(Q:VK)(E:XK):Prop
 | mk:∀(p b lp:μ) (us:LV),vs=[.ref p]->Gj U H p b lp us->ZR U Ds H p lp us Q E->Wv U Ds vs H Q E
def zu(C B D U:μ)(Ds:Nat->μ)(H:Hp)(p b lp:μ)(us:LV)(x:Str)(ws:LS)(Q:VK)(E:XK):Prop :=
 ∃(k:μ) (rows:List Row) (ns:List AX) (c:A3) (r:Option CG),ws=A1 c/\x≠"back"/\Hw C B D H b k rows ns/\As rows/\C6 rows ns/\Eg c/\Fn rows ns c r/\↑us<=1000 /\
  (r=none->∀ b2 k2 l H',H l=none->(∀ c o,c≠p->c≠lp->H c≈o->H' c≈o)->Gj U H' p b2 lp (us++[.ref b])->B_ 10.3 C B D H' b2 k2 7.4 (FQ ns c)->H' l≈(.lst [.str "ok"])->Q (.ref l) H')/\∀ e,r≈e->Ir Ds 7.4 E H e
def zv(C B D:μ)(H:Hp)(b:μ)(x:Str)(Q:VK):Prop :=
 x="show"/\∃(k:μ) (rows:List Row) (ns:List AX),Hw C B D H b k rows ns/\As rows/\C6 rows ns/\∀ l H',H l=none->AA H H'->H' l≈(.lst ((Iw rows ns).map V.str))->Q (.ref l) H'
inductive QL(C B D U:μ)(Ds:Nat->μ)(vs:LV)(H:Hp)(Q:VK)(E:XK):Prop
 | mk:∀(p b lp:μ) (us:LV) (x:Str) (ws:LS),vs=[.ref p,.str x]->Gj U H p b lp us->Fo x ws->((x="back"/\ZR U Ds H p lp us Q E)\/zv C B D H b x Q\/zu C B D U Ds H p b lp us x ws Q E)->QL C B D U Ds vs H Q E
def Yeo:Am ["self"] ["self"] (AN Y_):=by nofun
def zf(F:BK K "__init__" "Desk.__init__" Y_ f fd)(TU:N3 K U)(hC:U≠C)(hB:U≠B)(hD:U≠D)
  (M:Mk K C fI) (mgC:mg "Kinds"≈(.ref C)) (bI:Bw K fdI ["self","rows"] []) (GI:⋯ 4 fI fdI ["self","rows"] (QY K C))
  (MD:Mk K D fKI) (mgD:mg "Book"≈(.ref D)) (bD:Bw K fdKI Ic []) (GD:⋯ 6 fKI fdKI Ic (Qk K C B D)):⋯ 8 f fd ["self"] (XZ C B D U):=by
 nomatch F.ok Yeo
 ·obtain⟨p,dx,rfl,_⟩:=h;rfl
 ·obtain⟨p,dx,rfl,hp,q⟩:=h;have WB:AZ 5 _:=hr.mono 0.2;have Ll:AZ 7 _:=hr.mono 0.2
  ac_nf
  refine⟨_,pS (Fy 0.9 (JD MD GD Ll rfl mgD bD .nil Gi (pC (JD M GI WB rfl mgC bI .nil Gi (pC (B4 (pC (BB (pC Ah (pC (BB AB) AB))) AB)) AB)) (pC (BB AB) AB))) rfl) (pS (Fy 0.9 (B4 AB) rfl) (pS (Fy 0.9 Qt rfl) (Xw AS))),?_⟩
  exists let b:=AE _ a;let c:=AE _ b;AE _ c _ _ _
  refine⟨BN _,λte hte=>⟨sL 7.9,λt ht=>⟨sL (by show 1<=100000;decide),λl hl=>?_⟩⟩⟩;have s1:AA H (upd H te (.tup [])):=AJ hte;have e1:(upd H te (.tup [])) te≈(.tup []):=uS;generalize upd H te (.tup [])=H1 at s1 e1 ht hl ⊢;have s2:AA H1 (upd H1 t (.tup [.str "thing",.ref te])):=AJ ht;have e2:(upd H1 t (.tup [.str "thing",.ref te])) t≈(.tup [.str "thing",.ref te]):=uS;generalize upd H1 t (.tup [.str "thing",.ref te])=H2 at s2 e2 hl ⊢;have s3:AA H2 (upd H2 l (.lst [.ref t])):=AJ hl;have e3:(upd H2 l (.lst [.ref t])) l≈(.lst [.ref t]):=uS;generalize upd H2 l (.lst [.ref t])=H3 at s3 e3 ⊢;have A_:=s1.trans (s2.trans s3);intro xb dxb nx ndx nex;refine sY (rows:=QP) nx ndx ⟨true,[.ref t],SqL.of e3,.cons ⟨t,te,rfl,AH.of (s3 _ _ e2),.inl (s3 _ _ (s2 _ _ e1))⟩ .nil⟩ Zb λH4 s4 kd=>?_;refine⟨BN _,λt4 Pl=>?_⟩;have s5:AA H4 (upd H4 t4 (.tup [])):=AJ Pl;have e5:(upd H4 t4 (.tup [])) t4≈(.tup []):=uS;generalize upd H4 t4 (.tup [])=H5 at s5 e5 ⊢;have By:=A_.trans (s4.trans s5);intro pb db nb ndb neb;refine gm nb ndb (kd.mono s5) Zb ⟨false,[],AH.of e5,.nil⟩ k_ λH6 s6 bk=>?_;have Dy:=By.trans s6;have bk:=bk.sub (Z':=λb=>∃ o,H b≈o) λb z=>by
   obtain⟨o,e⟩:=z;exact⟨o,By _ _ e⟩
  refine⟨Z,p,U,dx,[],Y,Dy _ _ hp,TU.cl,TU.nN,(by show 0<1000;decide),?_⟩;have Lm:=Dy _ _ hp;refine⟨BN _,λlp hlp=>?_⟩;have lpp:lp≠p:=λz=>by rw[z,uS]at hlp;cases hlp
  have cp:H6 lp=none:=by rw[AD lpp]at hlp;exact hlp
  have e7:(upd (upd H6 p (.ins U dx (BD "now" (.ref pb) []))) lp (.lst [])) p≈(.ins U dx [("now",.ref pb)]):=by
   rw[AD (Yz lpp),uS];rfl
  have e8:(upd (upd H6 p (.ins U dx (BD "now" (.ref pb) []))) lp (.lst [])) lp≈(.lst []):=uS;have k8:∀ b o,b≠p->H6 b≈o->(upd (upd H6 p (.ins U dx (BD "now" (.ref pb) []))) lp (.lst [])) b≈o:=λb o hb e=>by rw[AD (AI e cp),AD hb];exact e
  generalize upd (upd H6 p (.ins U dx (BD "now" (.ref pb) []))) lp (.lst [])=H8 at e7 e8 k8 ⊢;refine⟨Z,p,U,dx,Z,e7,TU.cl,TU.nP,(by show 1<1000;decide),?_⟩;rw[Yas];intro tx htx;have txp:tx≠p:=λz=>by rw[z,uS]at htx;cases htx
  have Vs:H8 tx=none:=by rw[AD txp]at htx;exact htx
  have txl:tx≠lp:=λz=>by rw[z,e8]at Vs;cases Vs
  have e9:(upd (upd H8 p (.ins U dx [("now",.ref pb),("past",.ref lp)])) tx (.dT [])) p≈(.ins U dx [("now",.ref pb),("past",.ref lp)]):=by rw[AD (Yz txp),uS]
  refine⟨Z,p,U,dx,Z,e9,TU.cl,TU.nT,(by show 2<1000;decide),?_⟩;rw[Yar];refine⟨tx,[],by rw[AD txp,uS],λob=>?_⟩;have kp:∀ b o,b≠p->H6 b≈o->(upd (upd (upd (upd H8 p (.ins U dx [("now",.ref pb),("past",.ref lp)])) tx (.dT [])) p (.ins U dx [("now",.ref pb),("past",.ref lp),("texts",.ref tx)])) tx (.frz ob (.dT []))) b≈o:=λb o hb e=>by
   have e':=k8 b o hb e;have bt:=AI e' Vs;rw[AD bt,AD hb,AD bt,AD hb];exact e'
  refine q pb xb lp _ (Dy.free cp) (λc o hc e=>kp c o hc (Dy _ _ e)) ⟨dx,tx,ob,by rw[AD (Yz txp),uS];rfl,by rw[AD (Yz txl),AD lpp,AD (Yz txl),AD lpp];exact e8,uS⟩ ?_;exact B_.keepM (U:=U) (M:=λb=>b=p) hC hB hD (λb hb=>⟨.ins U dx [],by rw[hb];exact Lm,.inr ⟨_,Z⟩⟩) (λb hb=>⟨.ins U dx [],by rw[hb];exact hp⟩) (λb o hb e=>kp b o hb e) bk
abbrev pJ:LS:=["self","book","rows","moved","pair","before","after","asked"]
def mn:Am pJ ["self","book"] (AN Ue):=by nofun
def rT(F:BK K "move" "Desk.move" Ue f fd)(TU:N3 K U):⋯ 1 f fd ["self","book"] (Tt U):=by
 nomatch F.ok mn
 ·obtain⟨p,b,lp,b2,us,rfl,_⟩:=h;rfl
 ·obtain⟨p,b,lp,b2,us,rfl,dk,q⟩:=h;have nd:=mn.nd
  ac_nf
  refine'⟨_,pS (sE 2 nd (B4 (pC Ah AB))) (pS (sE 3 nd Qt) (Xw (pS (Be Bs rfl (i0 7.0) (CO rfl 10.2) CA)
   (pS (Fy 0.9 1.6 rfl) (pS (Fy 0.9 7.7 rfl) (AF (AW 4.2))))))),?_⟩
  exists let b:=AE _ a;AE _ b _ _ _
  obtain⟨dx,tx,ob,h1,h2,h3⟩:=dk.ex;refine⟨O,λl hl=>?_⟩;have s1:AA H (upd H l (.lst [.str "ok"])):=AJ hl;have e1:(upd H l (.lst [.str "ok"])) l≈(.lst [.str "ok"]):=uS;generalize upd H l (.lst [.str "ok"])=H1 at s1 e1 ⊢;intro d hd;refine⟨d,[],uS,λo2=>?_⟩;have s2:AA H1 8.5:=λc o e=>by rw[AD (AI e hd),AD (AI e hd)];exact e
  have e2:8.5 d≈(.frz o2 (.dT [])):=uS;generalize upd (upd H1 d (.dT [])) d (.frz o2 (.dT []))=H2 at s2 e2 ⊢;have Aw:=s1.trans s2;let CU:NW:=λi σ H'=>H'=H2/\σ=[↥(.ref p),↥(.ref b2),↥(.ref l),↥(.ref d),none,none,none,none];refine⟨Z,p,U,dx,_,Z,Aw _ _ h1,TU.cl,TU.nT,fV _ _ _,tx,[],Y,.inr ⟨ob,Aw _ _ h3,jN CU ⟨Y,Y⟩ (λi σ H' _ z=>by rw[z.1];exact Aw _ _ h3) (λi pr t c σ H' hi=>nomatch hi) ?_⟩⟩;rintro σ H' ⟨e,rfl⟩;have e:=e.symm;subst e;have pl:l≠p:=λz=>by rw[z,h1]at hl;cases hl
  have pd:d≠p:=λz=>by rw[z,s1 _ _ h1]at hd;cases hd
  have plp:lp≠p:=λz=>by rw[z,h1]at h2;cases h2
  refine⟨Z,Z,p,U,dx,Z,Aw _ _ h1,TU.cl,TU.nN,(by show 3<1000;decide),?_⟩;rw[Yaq];refine⟨Z,Z,p,U,dx,Z,uS,TU.cl,TU.nT,(by show 3<1000;decide),?_⟩;rw[j_];refine⟨Z,q l _ hl (λc o hc e=>by rw[AD hc,AD hc];exact Aw _ _ e) ⟨dx,d,o2,uS,by rw[AD plp,AD plp];exact Aw _ _ h2,by rw[AD pd,AD pd];exact e2⟩ (by rw[AD pl,AD pl];exact s2 _ _ e1)⟩
abbrev kf(K:Fg)(U f:μ)(fd:FuncData):Prop:=E7 K U "move" "Desk.move" Ue ["self","book"] f fd
abbrev wZ(K:Fg)(U f:μ)(fd:FuncData):Prop:=E7 K U "back" "Desk.back" Ud ["self"] f fd
abbrev pT:LS:=["self","book","kept","pair","text"]
def mP:Am pT ["self"] (AN Ud):=by nofun
def ze{Ds:Nat->μ}(F:BK K "back" "Desk.back" Ud f fd)(TU:N3 K U)(Z9:J4 K mg "NoRow" (Ds 14))(MM:kf K U fM fdM)(GM:AV P w K mg base 3.2 1 fM fdM ["self","book"] (Tt U)):AV P w K mg base 3.2 2 f fd ["self"] (Wv U Ds):=by
 nomatch F.ok1 mP
 ·obtain⟨p,b,lp,us,rfl,_⟩:=h;rfl
 ·obtain⟨p,b,lp,us,rfl,dk,be⟩:=h;have nd:=mP.nd;have Ax:AZ 1 _:=hr.mono 0.2
  ac_nf
  refine'⟨_,pS (AR (Ct (Qw 7.0 (λ_=>rfl))) (AF (OM (C:=Ds 14) Ak.of hr.hd Z9.ex Z9.ini 0.8 Z9.m (pC Ah AB))) AS)
   (pS (sE 1 nd (Tq EF PySem.F.slot_list_pop PySem.F.type_list_pop Wr 7.0))
   (pS (sE 2 nd Qt) (Xw (pS (Be JK rfl (i0 7.0) (CO rfl (gC (gE 3 nd) (gC (gE 4 nd) CQ))) CA)
   (pS (Fy 0.9 4.2 rfl) (AF (AW (FE 0.9 TU.cl MM.me GM Ax MM.b .nil 4.1 3.1)))))))),?_⟩
  exists let b:=AE _ a;let c:=AE _ b;let e:=_;AE (A4 _ e _) c _ _ _
  obtain⟨dx,tx,ob,h1,h2,h3⟩:=dk.ex;refine⟨Z,p,U,dx,_,Z,h1,TU.cl,TU.nP,XB _ _ _,_,.inl ⟨_,SqL.of h2,Y⟩,?_⟩
  rcases be with⟨rfl,ex⟩ | ⟨FN,b0,rfl,q⟩
  ·exact AY ⟨O,ex H (AA.refl _)⟩
  have ne:(FN++[V.ref b0]).isEmpty=false:=by cases FN <;> rfl
  rw[ne];have lpp:lp≠p:=λz=>by rw[z,h1]at h2;cases h2
  have txl:tx≠lp:=λz=>by rw[z,h2]at h3;cases h3
  refine AL ⟨Z,p,U,dx,_,Z,h1,TU.cl,TU.nP,XB _ _ _,.inl ⟨Y,_,SqL.of h2⟩,lp,_,.ref b0,Y,Y,h2,by rw[Ym];simp,?_⟩;rw[List.dropLast_concat];have k1:∀ c o,c≠lp->H c≈o->(upd H lp (.lst FN)) c≈o:=λc o hc e=>by rw[AD hc];exact e
  have e1:(upd H lp (.lst FN)) lp≈(.lst FN):=uS;have f1:∀ c,(upd H lp (.lst FN)) c=none->H c=none:=λc e=>by
   have:c≠lp:=λz=>by rw[z,uS]at e;cases e
   rw[AD this]at e;exact e
  generalize upd H lp (.lst FN)=H1 at k1 e1 f1 ⊢;have Hd:=k1 _ _ (Yz lpp) h1;have dj:=k1 _ _ txl h3;intro d hd;refine⟨d,[],uS,λo2=>?_⟩;have s2:AA H1 8.5:=λc o e=>by rw[AD (AI e hd),AD (AI e hd)];exact e
  have e2:8.5 d≈(.frz o2 (.dT [])):=uS;generalize upd (upd H1 d (.dT [])) d (.frz o2 (.dT []))=H2 at s2 e2 ⊢;let CU:NW:=λi σ H'=>H'=H2/\σ=[↥(.ref p),↥(.ref b0),↥(.ref d),none,none];refine⟨Z,p,U,dx,_,Z,s2 _ _ Hd,TU.cl,TU.nT,fV _ _ _,tx,[],Y,.inr ⟨ob,s2 _ _ dj,jN CU ⟨Y,Y⟩ (λi σ H' _ z=>by rw[z.1];exact s2 _ _ dj) (λi pr t c σ H' hi=>nomatch hi) ?_⟩⟩;rintro σ H' ⟨e,rfl⟩;have e:=e.symm;subst e;have pd:d≠p:=λz=>by rw[z,Hd]at hd;cases hd
  refine⟨Z,Z,p,U,dx,Z,s2 _ _ Hd,TU.cl,TU.nT,(by show 3<1000;decide),?_⟩;rw[j_];have e3:(upd H2 p (.ins U dx (Ca b lp d))) p≈(.ins U dx (Ca b lp d)):=uS;have k3:∀ c o,c≠p->H2 c≈o->(upd H2 p (.ins U dx (Ca b lp d))) c≈o:=λc o hc e=>by rw[AD hc];exact e
  have f3:∀ c,(upd H2 p (.ins U dx (Ca b lp d))) c=none->H2 c=none:=λc e=>by
   have:c≠p:=λz=>by rw[z,uS]at e;cases e
   rw[AD this]at e;exact e
  generalize upd H2 p (.ins U dx (Ca b lp d))=H3 at e3 k3 f3 ⊢;refine⟨Z,p,dx,Z,e3,gq _ _ _,Z,p,b,lp,b0,FN,Y,⟨dx,d,o2,e3,k3 _ _ lpp (s2 _ _ e1),k3 _ _ pd e2⟩,λl H4 hl k4 qq Bt=>q l H4 (f1 _ (s2.free (f3 _ hl))) (λc o h1 h2 e=>k4 _ _ h1 (k3 _ _ h1 (s2 _ _ (k1 _ _ h2 e)))) qq Bt⟩
def Yer:Am ["book","words","board"] ["book","words"] (AN U6):=by nofun
inductive XR(C B D:μ)(vs:LV)(H:Hp)(Q:VK)(AO:XK):Prop
 | mk:∀(b a k:μ) (rows:List Row) (ns:List AX),vs=[.ref b,.ref a]->Ei H a ["show"]->Hw C B D H b k rows ns->As rows->C6 rows ns->(∀ l H',H l=none->AA H H'->H' l≈(.lst ((Iw rows ns).map V.str))->Q (.ref l) H')->XR C B D vs H Q AO
def zW(F:Def K mg "asked_of_book" U6 ["book","words"] f fd)(DR:Def K mg "book_rows" OQ ["book"] fR fdR)(GR:⋯ 3 fR fdR ["book"] (XT C B D)):⋯ 4 f fd ["book","words"] (XR C B D):=by
 nomatch F.fn.ok Yer
 ·obtain⟨b,a,k,rows,ns,rfl,_⟩:=h;rfl
 ·obtain⟨b,a,k,rows,ns,rfl,hw,bk,g,gn,q⟩:=h
  ac_nf
  refine'⟨_,pS (AR (Ae BS 2.4 Ah (Ad _)) (AF (AW (Ag DR GR hr 3.5))) AS) CA,?_⟩
  exists AE _ a _ _ _
  refine⟨_,rfl,a,_,_,_,rfl,rfl,SqL.of hw.at_,BE (ws:=["show"]) (k:=0) rfl,rfl,_,rfl,?_⟩;rw[B3,Jb rfl];exact AY ⟨_,rfl,b,k,rows,ns,rfl,bk,g,gn,q⟩
def OH:∀ {c:A3},Eg c->Fo (Builtin.Str.glued " " (A1 c)) (A1 c)/\Hm (A1 c)=true/\FU (A1 c)=false
 | .kind x us,h=>by
  have r:=(wQ (r:=(x,us)) h.1 h.2.1 h.2.2).1;rw[Xr]at r;refine⟨r,?_,?_⟩
  ·unfold Hm;rw[show K8 (A1 (.kind x us))=true from yE (r:=(x,us)) h.1 h.2.2];rfl
  ·unfold FU;rw[show(A1 (.kind x us)).getD 0 ""="kind" from rfl,if_neg 1.2,if_neg 1.2,show decide (("kind":Str)∈q3)=false by rfl'];rfl
 | .tie x y,h=>by
  refine⟨(Ts (t:=Builtin.Str.glued " " (A1 (.tie x y))) rfl (JJ _ _) (by show 3<=100;decide) λz hz=>?_).1,?_,?_⟩
  ·rcases Yv.mp hz with rfl | hz
   ·unfold Io;rfl'
   rcases Yv.mp hz with rfl | hz
   ·exact K5 h.1
   ·rw[Yf.mp hz];exact K5 h.2
  ·unfold Hm;have e:MQ (A1 (.tie x y))=true:=by
    unfold MQ;rw[Jb (show↑(A1 (.tie x y))=3 from rfl),Jb (show(A1 (.tie x y)).getD 0 ""="tie" from rfl)];show(true&&(true&&(["tie",x,y]:LS).all AM))=true;rw[LX,LX,LX,h.1,h.2,show AM "tie"=true by rfl'];rfl
   rw[e,show K8 (A1 (.tie x y))=false from yG 1.2 _];rfl
  ·unfold FU;rw[show(A1 (.tie x y)).getD 0 ""="tie" from rfl,if_neg 1.2,if_neg 1.2,show decide (("tie":Str)∈q3)=false by rfl'];rfl
 | .name x n,h=>by
  have r:=(xK (n:=(x,n,[])) h.1 h.2.1 h.2.2).1;rw[Xt]at r;obtain⟨a,b⟩:=Wo h.2.1 h.2.2;refine⟨r,?_,?_⟩
  ·unfold Hm;have e:RE (A1 (.name x n))=true:=by
    show(decide (("name":Str)="name")&&(AM x&&decide (Iu n∈Iv)))=true;rw[Jb rfl,h.1,Jb a];rfl
   rw[e];simp
  ·unfold FU;rw[show(A1 (.name x n)).getD 0 ""="name" from rfl,if_neg 1.2,if_neg 1.2,show decide (("name":Str)∈q3)=false by rfl'];rfl
 | .deed x c m,h=>by
  have r:=(wJ h.1 h.2.2.1 h.2.2.2.1 h.2.2.2.2).1;rw[X3]at r;obtain⟨a1,a2,a3,a4,a5⟩:=L3 x m c;refine⟨r,?_,?_⟩
  ·unfold Hm;have e:RJ (A1 (.deed x c m))=true:=by
    unfold RJ;rw[Fc,Fc,Fc];refine⟨Jb rfl,Jb (by show 5<=↑(dW x c m);rw[a4];have:=h.2.1;omega),Jb a5,?_⟩;show((x :: (c++(["gives",m]:LS))).all AM)=true;rw[Cb];intro y hy
    rcases Yv.mp hy with rfl | hy
    ·exact h.1
    rcases Yo.mp hy with hy | hy
    ·exact h.2.2.2.1 y hy
    rcases Yv.mp hy with rfl | hy
    ·exact uk
    ·rw[Yf.mp hy];exact h.2.2.2.2
   rw[e];simp
  ·unfold FU;rw[show(A1 (.deed x c m)).getD 0 ""="deed" from rfl,if_neg 1.2,if_neg 1.2,show decide (("deed":Str)∈q3)=false by rfl'];rfl
def yA:∀ c:A3,¬ Bv c="run"/\¬ Bv c="ask"
 | .kind _ _=>(by rfl':¬ ("kind":Str)="run"/\¬ ("kind":Str)="ask")
 | .tie _ _=>(by rfl':¬ ("tie":Str)="run"/\¬ ("tie":Str)="ask")
 | .name _ _=>(by rfl':¬ ("name":Str)="run"/\¬ ("name":Str)="ask")
 | .deed _ _ _=>(by rfl':¬ ("deed":Str)="run"/\¬ ("deed":Str)="ask")
def Qx:Fo "show" ["show"]:=⟨by rfl',JJ _ _,Q,by rfl',by rfl'⟩
def Xz:Fo "back" ["back"]:=⟨by rfl',JJ _ _,Q,by rfl',by rfl'⟩
abbrev pH:LS:=["self","row","words","greater"]
def mr:Am pH ["self","row"] (AN RK):=by nofun
def yN{Ds:Nat->μ}(F:BK K "say" "Desk.say" RK f fd)(TU:N3 K U)(hC:U≠C)(hB:U≠B)(hD:U≠D)
  (DC:Def K mg "check_row" Uj ["row"] fC fdC) (GC:AV P w K mg base 3.2 5 fC fdC ["row"] X9) (DA:Def K mg "is_asking" RO ["words"] fA fdA) (GA:AV P w K mg base 3.2 3 fA fdA ["words"] (LI FU))
  (DW:Def K mg "with_row" Ub ["book","words"] fW fdW) (GW:AV P w K mg base 3.2 9 fW fdW ["book","words"] (ZO C B D Ds)) (DAB:Def K mg "asked_of_book" U6 ["book","words"] fAB fdAB) (GAB:AV P w K mg base 3.2 4 fAB fdAB ["book","words"] (XR C B D))
  (MM:kf K U fM fdM) (GM:AV P w K mg base 3.2 1 fM fdM ["self","book"] (Tt U)) (MB:wZ K U fB fdB) (GB:AV P w K mg base 3.2 2 fB fdB ["self"] (Wv U Ds)):AV P w K mg base 3.2 10 f fd ["self","row"] (QL C B D U Ds):=by
 nomatch F.ok1 mr
 ·obtain⟨p,b,lp,us,x,ws,rfl,_⟩:=h;rfl
 ·obtain⟨p,b,lp,us,x,ws,rfl,dk,rt,cs⟩:=h;have nd:=mr.nd;have Ax:AZ 1 _:=hr.mono 0.2;have A7:AZ 2 _:=hr.mono 0.2;have GQ:AZ 3 _:=hr.mono 0.2;have WC:AZ 4 _:=hr.mono 0.2;have WB:AZ 5 _:=hr.mono 0.2;have WA:AZ 9 _:=hr.mono 0.2
  ac_nf
  refine'⟨_,(pS (Bj (Kt Ak.of DC GC WB 3.1))
   (pS (sE 2 nd (De Ow VN VM UG 1.6 (pC Ah AB)))
   (pS (AR (Ae BS 1.6 Ah (Ad _)) (AF (AW (Gp 0.9 TU.cl MB.me GB A7 MB.b .nil 4.1))) AS)
   (pS (AR 9.0 CA AS)
   (pS (AR 9.0 CA AS)
   (pS (AR (Cg (Kt Ak.of DA GA GQ 2.2)) (AF (AW (Kt Ak.of DAB GAB WC (pC 7.0 2.2)))) AS)
   (pS (sE 3 nd (Kt Ak.of DW GW WA (pC 7.0 2.2)))
   (pS (Bj (De EF Gs Gr F4 7.0 (pC 7.0 AB)))
   (AF (AW (FE 0.9 TU.cl MM.me GM Ax MM.b .nil 4.1 3.3))))))))))),?_⟩
  exists let b:=AE _ a;let c:=AE _ b;let e:=_;let f:=AE (A4 _ e _) c;let g:=AE _ f;let h:=AE _ g;let i:=_;let j:=AE (A4 _ i _) h;let k:=AE _ j;AE _ k _ _ _
  have okr:x="back"\/Hm ws=true\/FU ws=true:=by
   rcases cs with⟨e,_⟩ | ⟨e,_⟩ | ⟨k,rows,ns,c,r,e,_,_,_,_,fc,_⟩
   ·exact .inl e
   ·refine .inr (.inr ?_);have:ws=(["show"]:LS):=by rw[<- rt.sp,e];exact Qx.sp
    rw[this];unfold FU;rw[if_pos 1.2];rfl
   ·rw[e];exact .inr (.inl (OH fc).2.1)
  refine⟨Z,x,ws,Y,rt,okr,λH1 s1=>?_⟩;refine⟨Z,Y,x," ",Y,Y,Tg,sL (by have:=rt.len;omega),by rw[rt.sp];have:=rt.few;exact sL 0.0,λpw hpw=>?_⟩;rw[rt.sp];have G5:AA H1 (upd H1 pw (.lst 1.8)):=AJ hpw;have e2:(upd H1 pw (.lst 1.8)) pw≈(.lst 1.8):=uS;generalize upd H1 pw (.lst 1.8)=H2 at G5 e2 ⊢;have s2:=s1.trans G5;have hw:Ei H2 pw ws:=⟨e2,rt.few,rt.sh⟩;have Kq:=dk.mono s2;obtain⟨dx,tx,ob,h1,h2,h3⟩:=Kq.ex;have g1:H p≈(.ins U dx (Ca b lp tx)):=by
   obtain⟨FT,Sw,pA,g1,g2,g3⟩:=dk.ex;have:=s2 _ _ g1;rw[h1]at this;rw[<- this]at g1 <;> exact g1
  refine⟨Z,Y,Z,?_⟩;rw[B3];by_cases eb:x="back"
  ·rw[Jb eb];have be:ZR U Ds H p lp us Q E:=by
    rcases cs with⟨_,h⟩ | ⟨e,_⟩ | ⟨k,rows,ns,c,r,_,e,_⟩
    ·exact h
    ·rw[eb]at e;exact absurd e 1.2
    ·exact absurd eb e
   refine AY ⟨Z,p,dx,Z,h1,zP _ _ _,p,b,lp,us,Y,Kq,?_⟩
   rcases be with⟨z,q⟩ | ⟨FN,b0,z,q⟩
   ·exact .inl ⟨z,λH' s'=>q H' (s2.trans s')⟩
   ·exact .inr ⟨FN,b0,z,λl H' hl k Lx GX=>q l H' (s2.free hl) (λc o h1 h2 e=>k c o h1 h2 (s2 _ _ e)) Lx GX⟩
  rw[Jc eb];obtain⟨y,hy,ey⟩:=Zc rt.ne;have hl:=SqL.of (K:=K) hw.at_;have ny:¬ y="run"/\¬ y="ask":=by
   rcases cs with⟨e,_⟩ | ⟨e,_⟩ | ⟨k,rows,ns,c,r,e,_⟩
   ·exact absurd e eb
   ·have:ws=(["show"]:LS):=by rw[<- rt.sp,e];exact Qx.sp
    rw[this]at hy;cases hy;exact⟨by rfl',by rfl'⟩
   ·rw[e,DQ]at hy;cases hy;exact yA c
  refine AL ⟨Z,pw,_,_,Z,Y,hl,BE (k:=0) hy,Y,Z,?_⟩;rw[B3,Jc ny.1];refine AL ⟨Z,pw,_,_,Z,Y,hl,BE (k:=0) hy,Y,Z,?_⟩;rw[B3,Jc ny.2];refine AL ⟨Z,pw,ws,Y,hw,rt.ne,λH3 s3=>⟨Z,?_⟩⟩;have A_:=s2.trans s3
  rcases cs with⟨e,_⟩ | ⟨e,k,rows,ns,bk,g,gn,q⟩ | ⟨k,rows,ns,c,r,e,_,bk,g,gn,fc,due,ul,q,re⟩
  ·exact absurd e eb
  ·have ew:ws=(["show"]:LS):=by rw[<- rt.sp,e];exact Qx.sp
   subst ew;rw[show FU (["show"]:LS)=true by unfold FU;rw[if_pos 1.2];rfl];exact AY ⟨Z,p,U,dx,_,Z,s3 _ _ h1,TU.cl,TU.nN,XA _ _ _,Z,b,pw,k,rows,ns,Y,hw.mono s3,bk.mono A_,g,gn,λl H' hl s' GX=>q l H' (A_.free hl) (A_.trans s') GX⟩
  subst e;rw[(OH fc).2.2];refine AL ⟨Z,p,U,dx,_,Z,s3 _ _ h1,TU.cl,TU.nN,XA _ _ _,Z,b,k,pw,rows,ns,c,r,Y,bk.mono A_,g,gn,fc,hw.mono s3,due,λer b2 k2 H4 s4 Lz=>?_,λe er=>(re e er).mono A_⟩;have Af:=s3.trans s4;have Ba:=A_.trans s4;have JX:=Af _ _ h1;have Nw:=Af _ _ h2;have qV:=Af _ _ h3;have lpp:lp≠p:=λz=>by rw[z,h1]at h2;cases h2
  have txl:tx≠lp:=λz=>by rw[z,h2]at h3;cases h3
  refine⟨Z,p,U,dx,_,Z,JX,TU.cl,TU.nP,XB _ _ _,.inl ⟨Y,_,SqL.of Nw⟩,Z,p,U,dx,_,Z,JX,TU.cl,TU.nN,XA _ _ _,lp,us,Z,Y,Nw,Br 0.0,?_⟩;have k5:∀ c o,c≠lp->H4 c≈o->(upd H4 lp (.lst (us++[.ref b]))) c≈o:=λc o hc e=>by rw[AD hc];exact e
  have e5:(upd H4 lp (.lst (us++[.ref b]))) lp≈(.lst (us++[.ref b])):=uS;have f5:∀ c,(upd H4 lp (.lst (us++[.ref b]))) c=none->H4 c=none:=λc e=>by
   have:c≠lp:=λz=>by rw[z,uS]at e;cases e
   rw[AD this]at e;exact e
  generalize upd H4 lp (.lst (us++[.ref b]))=H5 at k5 e5 f5 ⊢;have lpH:∃ o,H lp≈o:=by
   obtain⟨FT,Sw,pA,dz,g2,g3⟩:=dk.ex;exact⟨_,g2⟩
  have bP:B_ 10.3 C B D H4 b2 k2 7.4 (FQ ns c):=Lz.sub λb z=>by
   obtain⟨o,e⟩:=z;exact⟨o,A_ _ _ e⟩
  have qv:=B_.keepM (U:=U) (M:=λb=>b=lp) hC hB hD (λb hb=>⟨.lst us,by rw[hb];exact Nw,.inl ⟨Z⟩⟩) (λb hb=>by rw[hb];exact lpH) (λb o hb e=>k5 b o hb e) bP;have P5:=k5 _ _ (Yz lpp) JX;refine⟨Z,p,dx,Z,P5,gq _ _ _,Z,p,b,lp,b2,us++[.ref b],Y,⟨dx,tx,ob,P5,e5,k5 _ _ txl qV⟩,λl H6 hl k6 qp Co=>?_⟩;refine q er b2 k2 l H6 (Ba.free (f5 _ hl)) (λc o h1 h2 e=>k6 _ _ h1 (k5 _ _ h2 (Ba _ _ e))) qp ?_ Co;exact B_.keepM (U:=U) (M:=λb=>b=p) hC hB hD (λb' JU=>⟨.ins U dx (Ca b lp tx),by rw[JU];exact P5,.inr ⟨_,Z⟩⟩) (λb' JU=>⟨.ins U dx (Ca b lp tx),by rw[JU];exact g1⟩) (λb' o hb e=>k6 b' o hb e) qv
def B2(i:Nat):Option Str:=if i<=2 then some "word" else if i=4\/i=5 then some "number" else if i=6 then some "row" else none
def LF(H:Hp)(i:Nat)(f:V)(dx:Option μ):Prop:=(B2 i=none/\f=.non/\Iy H dx)\/∃ a x,dx≈a/\B2 i≈x/\H a≈(.xd [(x,f)])
def LF.mono{H H':Hp}{i:Nat}{f:V}{dx:Option μ}(h:LF H i f dx)(s:AA H H'):LF H' i f dx:=by
 rcases h with⟨a,b,c⟩ | ⟨a,x,b,c,d⟩
 ·exact .inl ⟨a,b,AA.xdict c s⟩
 ·exact .inr ⟨a,x,b,c,s _ _ d⟩
def LF.xd{H:Hp}{i:Nat}{f:V}{dx:Option μ}(h:LF H i f dx):Iy H dx:=by
 rcases h with⟨_,_,c⟩ | ⟨a,x,b,_,d⟩
 ·exact c
 ·exact .inr ⟨a,_,b,d⟩
structure ZT(K:Fg)(D:μ)(Ds:Nat->μ)(L:LN):Prop where
 lt:∀ i∈L,i<15
 o:∀ i∈L,Dn K D Ds i
 i:∀ i∈L,∀ x,B2 i≈x->Cw K (Ds i) D x
def Yaw{K:Fg}{D:μ}{Ds:Nat->μ}(O0:Dn K D Ds 0)(O1:Dn K D Ds 1)(O2:Dn K D Ds 2)(O3:Dn K D Ds 3)(O4:Dn K D Ds 4)(O5:Dn K D Ds 5)(O7:Dn K D Ds 7)(O8:Dn K D Ds 8)(nj:Dn K D Ds 14)
  (I0:Cw K (Ds 0) D "word") (I1:Cw K (Ds 1) D "word") (I2:Cw K (Ds 2) D "word") (I4:Cw K (Ds 4) D "number") (I5:Cw K (Ds 5) D "number"):ZT K D Ds [0,1,2,3,4,5,7,8,14]:=by
 refine⟨Q,λi hi=>?_,λi hi x h=>?_⟩
 ·simp only[Yv,List.not_mem_nil,or_false]at hi
  rcases hi with rfl | rfl | rfl | rfl | rfl | rfl | rfl | rfl | rfl <;> assumption
 ·have w:B2 0≈"word"/\B2 1≈"word"/\B2 2≈"word"/\B2 4≈"number"/\B2 5≈"number"/\B2 3=none/\B2 7=none/\B2 8=none/\B2 14=none:=by rfl'
  obtain⟨w0,w1,w2,w4,w5,w3,w7,w8,oK⟩:=w;simp only[Yv,List.not_mem_nil,or_false]at hi
  rcases hi with rfl | rfl | rfl | rfl | rfl | rfl | rfl | rfl | rfl
  ·rw[w0]at h;cases h;exact I0
  ·rw[w1]at h;cases h;exact I1
  ·rw[w2]at h;cases h;exact I2
  ·rw[w3]at h;cases h
  ·rw[w4]at h;cases h;exact I4
  ·rw[w5]at h;cases h;exact I5
  ·rw[w7]at h;cases h
  ·rw[w8]at h;cases h
  ·rw[oK]at h;cases h
def XE(Ds:Nat->μ)(L:LN)(Q:VK):XK:=λcls dx H1=>∃ i f,i∈L/\cls=.ref (Ds i)/\LF H1 i f dx/\∀ a H',AA H1 H'->H' a≈(.tup [.str (Bu i),f])->Q (.ref a) H'
def QQ{Ds:Nat->μ}{L:LN}{Q:VK}{H:Hp}{i:Nat}(hi:i∈L)(z:B2 i=none)(h:∀ a H',AA H H'->H' a≈(.tup [.str (Bu i),.non])->Q (.ref a) H'):∀ dx H',AA H H'->Iy H' dx->XE Ds L Q (.ref (Ds i)) dx H' :=
 λdx H' s hd=>⟨i,.non,hi,Y,.inl ⟨z,Y,hd⟩,λa Av s' e=>h a Av (s.trans s') e⟩
def L9{Ds:Nat->μ}{L:LN}{Q:VK}{H:Hp}{i:Nat}{x:Str}{f:V}(hi:i∈L)(z:B2 i≈x)(h:∀ a H',AA H H'->H' a≈(.tup [.str (Bu i),f])->Q (.ref a) H'):E8 (Ds i) x f (XE Ds L Q) H :=
 λdx H' s hd=>⟨i,f,hi,Y,.inr ⟨dx,x,Y,z,hd⟩,λa Av s' e=>h a Av (s.trans s') e⟩
def kI:CZ->Nat
 | .many=>7
 | .noK _=>0
 | .twice _=>1
 | .ring=>3
def kF:CZ->V
 | .many=>.non
 | .noK w=>.str w
 | .twice w=>.str w
 | .ring=>.non
def cI:CG->Nat
 | .kin e=>kI e
 | .bok d=>WZ d
def cF:CG->V
 | .kin e=>kF e
 | .bok d=>N0 d
def gb:B2 3=none/\B2 7=none/\B2 8=none/\B2 9=none/\B2 13=none/\B2 14=none:=by rfl'
def zk:B2 0≈"word"/\B2 1≈"word"/\B2 2≈"word"/\B2 4≈"number"/\B2 5≈"number":=by rfl'
def y8{Ds:Nat->μ}{L:LN}{Q:VK}(hL:∀ d:CG,cI d∈L){rows:List Row}{H:Hp}{d:CG}(h:∀ a H',AA H H'->H' a≈(.tup [.str (Bu (cI d)),cF d])->Q (.ref a) H'):Ir Ds rows (XE Ds L Q) H d:=by
 have m:=hL d;obtain⟨n3,n7,n8,_⟩:=gb;obtain⟨w0,w1,w2,w4,w5⟩:=zk;cases d with
 | kin e =>
  refine⟨λz H' s=>?_,λw z=>?_,λw z=>?_,λz dx l ys H' s h1 h2 h3 h4=>?_⟩
  ·subst z;exact QQ m n7 h none H' s (.inl rfl)
  ·subst z;exact L9 m w0 h
  ·subst z;exact L9 m w1 h
  ·subst z;exact QQ m n3 h (↥dx) H' s (.inr ⟨dx,Z,h1⟩)
 | bok d =>
  cases d with
  | many=>exact λH' s=>QQ m n7 h none H' s (.inl rfl)
  | board=>exact λH' s=>QQ m n8 h none H' s (.inl rfl)
  | noN w=>exact L9 m w2 h
  | twice w=>exact L9 m w1 h
  | noK w=>exact L9 m w0 h
  | noD k=>exact L9 m w4 h
  | same k=>exact L9 m w5 h
inductive Xd(Ds:Nat->μ)(L:LN)(vs:LV)(H:Hp)(Q:VK)(AO:XK):Prop
 | mk:∀(e:μ) (dx:Option μ) (i:Nat) (f:V),vs=[.ref e]->H e≈(XO e (Ds i) dx)->i∈L->LF H i f dx->(∀ a H',AA H H'->H' a≈(.tup [.str (Bu i),f])->Q (.ref a) H')->Xd Ds L vs H Q AO
def z7:∀ i,i<15->(B2 i≈"word"/\Bh (.str (Bu i)) w3=true)\/(Bh (.str (Bu i)) w3=false/\((B2 i≈"number"/\Bh (.str (Bu i)) w2=true)\/(Bh (.str (Bu i)) w2=false/\((B2 i≈"row"/\decide (V.str (Bu i)=V.str "NoText")=true)\/(B2 i=none/\decide (V.str (Bu i)=V.str "NoText")=false))))):=by rfl'
def vN{Ds:Nat->μ}{L:LN}(F:Def K mg "_law_refusal" Uz ["e"] f fd)(len:mg "len"=none)(O:ZT K D Ds L)(DC:Def K mg "_law_classes" RU ["e"] fC fdC)(GC:⋯ 1 fC fdC ["e"] (YO K D Ds)):⋯ 2 f fd ["e"] (Xd Ds L):=by
 nomatch F.fn.ok mq
 ·obtain⟨e,dx,i,f,rfl,_⟩:=h;rfl
 ·obtain⟨e,dx,i,f,rfl,he,hi,hx,q⟩:=h;have nd:=mq.nd
  ac_nf
  refine'⟨_,(pS (sE 1 nd (Ag DC GC hr 3.5))
   (pS (AR (Ae QI (A9 C5 0.8 len Yw 3.1) AG (Ad _)) CA AS)
   (pS (AR (Ae (r:=Dz K false) HL 2.4 (Qu ["NoName","Twice","NoKind"] rfl 0.2) 1.3) 14.9 AS)
   (pS (AR (Ae (r:=Dz K false) HL 2.4 (Qu ["NoDeed","Same"] rfl 0.2) 1.3) 14.9 AS)
   (pS (AR (Ae BS 2.4 Ah (Ad _)) 14.9 AS)
   (AF (AW (BB (pC 2.4 (pC Dq AB)))))))))),?_⟩
  exists let b:=_;let c:=AE (A4 _ b _) a;let e:=_;let f:=AE (A4 _ e _) c;let g:=_;let h:=AE (A4 _ g _) f;let i:=AE _ h;AE _ i _ _ _
  refine⟨_,rfl,e,i,dx,rfl,he,hx.xd,O.o i hi,O.lt i hi,λl H1 s1 hl=>?_⟩;refine⟨_,rfl,l,_,rfl,.inl (SqL.of hl),rfl,_,rfl,AL ?_⟩;refine⟨_,rfl,l,_,_,_,rfl,rfl,SqL.of hl,Il _ _,λt1 Kf=>⟨t1,_,rfl,.inr (AH.of uS),rfl,rfl,_,rfl,?_⟩⟩;have s2:=s1.trans (AJ (o:=.tup w3) Kf);have Ao:=(AJ (o:=.tup w3) Kf) _ _ hl;generalize upd H1 t1 (.tup w3)=H2 at s2 Ao ⊢;have fld:∀ {x:Str} {H':Hp},B2 i≈x->AA H H'->∃(a:μ),dx≈a/\H' a≈(.xd [(x,f)]):=λ{x H'} z s'=>by
   rcases hx with⟨c,_⟩ | ⟨a,y,c1,c2,c3⟩
   ·rw[z]at c;cases c
   ·rw[z]at c2;rw[Yt c2];exact⟨a,c1,s' _ _ c3⟩
  rcases z7 i (O.lt i hi)with⟨k1,c1⟩ | ⟨c1,c⟩
  ·rw[show(if false=true then !Bh (.str (Bu i)) w3 else Bh (.str (Bu i)) w3)=true from c1];obtain⟨a,rfl,ha⟩:=fld k1 s2;exact AY ⟨Z,l,_,_,Z,Y,SqL.of Ao,Il _ _,Z,e,Ds i,a,_,Z,s2 _ _ he,ha,O.i i hi _ k1,Y,W,λa ha=>q a _ (s2.trans (AJ ha)) uS⟩
  rw[show(if false=true then !Bh (.str (Bu i)) w3 else Bh (.str (Bu i)) w3)=false from c1];refine AL ⟨Z,l,_,_,Z,Y,SqL.of Ao,Il _ _,λt2 AU=>⟨t2,Z,.inr (AH.of uS),Y,Y,Z,?_⟩⟩;have s3:=s2.trans (AJ (o:=.tup w2) AU);have BA:=(AJ (o:=.tup w2) AU) _ _ Ao;generalize upd H2 t2 (.tup w2)=H3 at s3 BA ⊢
  rcases c with⟨k1,c2⟩ | ⟨c2,c⟩
  ·rw[show(if false=true then !Bh (.str (Bu i)) w2 else Bh (.str (Bu i)) w2)=true from c2];obtain⟨a,rfl,ha⟩:=fld k1 s3;exact AY ⟨Z,l,_,_,Z,Y,SqL.of BA,Il _ _,Z,e,Ds i,a,_,Z,s3 _ _ he,ha,O.i i hi _ k1,Y,W,λa ha=>q a _ (s3.trans (AJ ha)) uS⟩
  rw[show(if false=true then !Bh (.str (Bu i)) w2 else Bh (.str (Bu i)) w2)=false from c2];refine AL ⟨Z,l,_,_,Z,Y,SqL.of BA,Il _ _,Y,Z,?_⟩
  rcases c with⟨k1,c3⟩ | ⟨k1,c3⟩
  ·rw[c3];obtain⟨a,rfl,ha⟩:=fld k1 s3;exact AY ⟨Z,l,_,_,Z,Y,SqL.of BA,Il _ _,Z,e,Ds i,a,_,Z,s3 _ _ he,ha,O.i i hi _ k1,Y,W,λa ha=>q a _ (s3.trans (AJ ha)) uS⟩
  ·rw[c3];have f0:f=.non:=by
    rcases hx with⟨_,z,_⟩ | ⟨a,y,_,c2,_⟩
    ·exact z
    ·rw[k1]at c2;cases c2
   rw[f0]at q;exact AL ⟨Z,l,_,_,Z,Y,SqL.of BA,Il _ _,W,λa ha=>q a _ (s3.trans (AJ ha)) uS⟩
def mG(Q:VK):VK:=λv H'=>∀ a Av,AA H' Av->Av a≈(.tup [.str "told",v])->Q (.ref a) Av
inductive UJ(U:μ)(Ds:Nat->μ)(L:LN)(SAY:Sp)(vs:LV)(H:Hp)(Q:VK)(AO:XK):Prop
 | mk:∀(p dx:μ) (fs:List (Str×V)) (x:Str),vs=[.ref p,.str x]->H p≈(.ins U dx fs)->fs.lookup ("say":Str)=none->(∀(Q2:VK) (E2:XK),(∀ v H',mG Q v H'->Q2 v H')->(∀ cls d H',XE Ds L Q cls d H'->E2 cls d H')->SAY [.ref p,.str x] H Q2 E2)->UJ U Ds L SAY vs H Q AO
abbrev pP:LS:=["desk","row","found","wrong","e"]
def mX:Am pP ["desk","row"] (AN Ur):=by nofun
def s_{Ds:Nat->μ}{L:LN}{SAY:Sp}{k:Nat}(hk:2<=k)(F:Def K mg "_law_heard" Ur ["desk","row"] f fd)(TD:l6 K mg D)(O:ZT K D Ds L)(cU:FL K U)
  (MS:E7 K U "say" "Desk.say" RK ["self","row"] fS fdS) (GS:AV P w K mg base 3.2 k fS fdS ["self","row"] SAY)
  (DR:Def K mg "_law_refusal" Uz ["e"] fR fdR) (GR:⋯ 2 fR fdR ["e"] (Xd Ds L)):⋯ (k + 1) f fd ["desk","row"] (UJ U Ds L SAY):=by
 nomatch F.fn.ok mX
 ·obtain⟨p,dx,fs,x,rfl,_⟩:=h;rfl
 ·obtain⟨p,dx,fs,x,rfl,hp,no,q⟩:=h;have nd:=mX.nd;have A7:AZ 2 _:=hr.mono hk
  ac_nf
  refine'⟨_,(pS (sE 2 nd Dq)
   (pS (sE 3 nd Dq)
   (Fz (xE (i:=3) (j:=4) rfl rfl TD.ex nd 0.8 TD.m rfl 1.7 rfl rfl (rP (ya (i:=2) nd rfl 1.7 (rL 0.9 cU MS.me GS hr MS.b 3.1))))
   (pS (AR (Ae yr 7.7 Dq (Ad _)) (AF (AW (Ag DR GR A7 3.3))) AS)
   (AF (AW (BB (pC Ah 2.2)))))))),?_⟩
  exists let b:=AE _ a;let c:=Ge _ b;let e:=AE _ c;AE _ e _ _ _
  let CU:SW:=λσ' H'=>(∃(v:V) (x4:OV),σ'=[↥(.ref p),↥(.str x),↥v,↥.non,x4]/\mG Q v H')\/∃(e:μ) (d:Option μ) (i:Nat) (f:V) (x4:OV),σ'=[↥(.ref p),↥(.str x),↥.non,↥(.ref e),x4]/\H' e≈(XO e (Ds i) d)/\i∈L/\LF H' i f d/\∀ a Av,AA H' Av->Av a≈(.tup [.str (Bu i),f])->Q (.ref a) Av;refine⟨CU,?_,?_⟩
  ·refine⟨Z,p,dx,fs,Y,hp,no,Z,?_⟩;refine q _ _ (λv H' ht=>.inl ⟨v,none,Y,ht⟩) λcls d H' he=>?_;obtain⟨i,f,hi,rfl,hx,q2⟩:=he;exact⟨Z,(O.o i hi).ex.toExC,(O.o i hi).sub,λe he=>.inr ⟨e,d,i,f,none,Y,uS,hi,hx.mono (AJ he),λa Av Ea z=>q2 a Av ((AJ he).trans Ea) z⟩⟩
  ·rintro σ' H1 (⟨v,x4,rfl,ht⟩ | ⟨e,d,i,f,x4,rfl,he,hi,hx,q2⟩)
   ·exact⟨Z,Y,Z,AL ⟨Z,W,λa ha=>ht a _ (AJ ha) uS⟩⟩
   ·refine⟨Z,Y,Z,?_⟩;rw[Jc (show ¬ (V.ref e=V.non)from λz=>by cases z)];exact AY ⟨Z,e,d,i,f,Y,he,hi,hx,q2⟩
def KdV(H:Hp):Option CZ->V->Prop
 | none,v=>v=.non
 | some e,v=>∃ a,v=.ref a/\H a≈(.tup [.str (Bu (kI e)),kF e])
inductive X4(vs:LV)(H:Hp)(Q:VK)(AO:XK):Prop
 | mk:∀(l:μ) (rows:List Row),vs=[.ref l]->Ep H l rows->1<=↑rows->↑rows<=1000->(∀ r∈rows,AM r.1=true/\↑r.2<=1000)->(∀ r v H',AA H H'->E6 rows r->KdV H' r v->Q v H')->X4 vs H Q AO
def j7(rows:List Row)(z:Str):V->V
 | .str u=>.bl (Hq rows u z)
 | _=>.non
def zC(rows:List Row)(z:Str):∀ l:LS,((l.map V.str).filter λ_=>true).map (j7 rows z)=(l.map λu=>Hq rows u z).map V.bl:=λl=>by
 rw[Mw.mpr 0.4,Es,Es];rfl
def xO:(["up","word","above"]:LS).Nodup:=by rfl'
abbrev V4:LS:=["rows","words","k","word","ups","at","above"]
def mf:Am V4 ["rows"] (AN Ob):=by nofun
set_option maxHeartbeats 8000000 in
def tF(F:Def K mg "_law_kinds_due" Ob ["rows"] f fd)(len:mg "len"=none)(range:mg "range"=none)(any:mg "any"=none)(DA:Def K mg "_law_above" Uq ["rows"] fA fdA)(GA:⋯ 1 fA fdA ["rows"] X5):⋯ 2 f fd ["rows"] X4:=by
 nomatch F.fn.ok mf
 ·obtain⟨l,rows,rfl,_⟩:=h;rfl
 ·obtain⟨l,rows,rfl,hR,ne,few,rok,q⟩:=h;have nd:=mf.nd;have EH:=Dm hr
  ac_nf
  refine'⟨_,(pS ?eW
   (pS (AR (Ae FC 5.9 AG (Ad _)) 9.6 AS)
   (pS (Be Bs rfl (MY 0.8 range (pC 5.9 AB)) (gE 2 nd)
    (pS (AR (Ae (r:=Dz K false) HL (Ac (r:=A0 K) Au 1.6 4.2 0.4) (F0 (r:=Gd K) Hu 1.6 HH (FH 4.2)) 1.3) (AF (AW (BB (pC Ah (pC (Ac (r:=A0 K) Au 1.6 4.2 0.4) AB))))) AS)
   (AF (AR (Ae FC (A9 C5 0.8 len Yw (pC (Ac (r:=C_ K) Dp (Ac (r:=A0 K) Au 0.9 4.2 0.4) AG 0.4) AB)) AG (Ad _)) 9.6 AS))))
   (pS (Be Bs rfl (Ci 0.9) (CO rfl (gC (CB (i:=3) nd rfl 1.4) (gC (gE 4 nd) CQ)))
    (AF (Be Bs rfl (MY 0.8 range (pC (A9 C5 0.8 len Yw 7.6) AB)) (gE 5 nd)
     (pS (AR (Ae (r:=Dz K true) Mb (Ac (r:=C_ K) Dp (pv 4) 7.5 0.4) 1.6 1.3) (AF (AW (BB (pC Ah (pC (Ac (r:=C_ K) Dp (pv 4) 7.5 0.4) AB))))) AS)
   (AF (AR (Ae (r:=Dz K false) HL (Ac (r:=C_ K) Dp (pv 4) 7.5 0.4) (F0 (r:=Rh K) gJ (pv 4) HH (FH 7.5)) 1.3) (AF (AW (BB (pC Ah (pC (Ac (r:=C_ K) Dp (pv 4) 7.5 0.4) AB))))) AS))))))
   (pS (Er (i:=6) nd rfl 1.4 (Ag DA GA hr 3.5))
   (pS (Be Bs rfl (Ci 0.9) (CO rfl (gC (CB (i:=3) nd rfl 1.4) (gC (gE 4 nd) CQ)))
    (AF (AR (Cg (A9 (r:=VA K λbs=>bs.any id) (gU rfl) 0.8 any PyProof.Rows.boot_any (pC ?e2 AB))) 9.6 AS)))
   (AF (AW Dq)))))))),?_⟩
  case eW=>exact(HP (k:=1) ["row"] [] [] nd rfl rfl (λ_=>B5 (osc:=AN Ob) (on:=V4) 1.2 rfl rfl rfl) (Ci 0.9) 11.2 2.6 2.8)
  case e2=>exact(EX ["up"] ["word","above"] [3,6] (λ_=>B5 (osc:=AN Ob) (on:=V4) 1.2 rfl rfl rfl) (JB (pv 4)) (λC s H fp=>CB (i:=0) xO rfl 1.7 1.4) 2.6 (λC s H fp=>DV (r:=Dz K false) HL 1.6 (Ju EH 4.2 0.9 0.4) 1.3))
  exists let b:=_;let c:=AE (Bq _ _ b) a;let e:=AE _ c;let f:=_;let g:=A4 _ f _;let h:=_;let i:=AE (A4 _ h _) g;let j:=Bq _ _ i;let k:=AE (Bq _ _ j) e;let l:=_;let m:=_;let n:=AE (A4 _ m _) l;let o:=AE (Bq _ _ n) k;let p:=AE _ o;AE _ p _ _ _
  obtain⟨vs,hvs,hpr⟩:=id hR;have vl:↑rows=↑vs:=Yi hpr;refine⟨Z,l,Y,⟨_,SqL.of hvs⟩,K3 (Ck (xs:=vs)) 0.0 (λv hv=>?_) (λH' s'=>SqL.of (s' _ _ hvs)) λlw H1 hlw s1 EG=>?_⟩
  ·obtain⟨j,hj⟩:=HR hv;obtain⟨r,_,t,u,e,h1,_⟩:=BM hpr hj;exact⟨t,_,_,e,h1⟩
  rw[RC hpr]at EG;have say:∀(e:CZ) (t:μ) (H':Hp),AA H H'->H' t=none->E6 rows (↥e)->Q (.ref t) (upd H' t (.tup [.str (Bu (kI e)),kF e])):=λe t H' s' ht d=>q (↥e) _ _ (s'.trans (AJ ht)) d ⟨t,Y,uS⟩;refine⟨Z,l,Z,.inl (SqL.of (s1 _ _ hvs)),_,Z,Y,Z,BO (λbig=>?_) (λsmall=>?_)⟩
  ·have big:(24:Int)<(↑vs:Int):=Je big;exact⟨W,λt ht=>say .many t H1 s1 ht (.rows (.size λz=>by omega))⟩
  have small:↑rows<=24:=by
   have:¬ (24:Int)<(↑vs:Int):=λz=>small (Jb z);omega
  let Bf:NW:=λi σ H'=>∃ x2:OV,σ=[↥(.ref l),↥(.ref lw),x2,none,none,none,none]/\AA H1 H'/\(∀ r∈rows.take i,AM r.1=true/\↑r.2<=8)/\((rows.take i).map 0.5).Nodup;refine⟨Z,l,Z,.inl (SqL.of (s1 _ _ hvs)),↑vs,Y,V,V,B1 OO Bf
   ⟨none,Y,AA.refl _,(λr hr=>by rw[CD]at hr;cases hr),(by rw[CD];exact .nil)⟩ (λ_ _ _ _ _=>trivial) ?_ ?_⟩
  ·rintro i v σ H2 hi ⟨x2,rfl,s2,ah,ndp⟩;obtain⟨JT,rfl⟩:=K_ hi;have hi:i<↑vs:=by simpa using JT
   have hix:vs[i]?≈vs[i]:=Yu hi;obtain⟨r,Ab,t,u,et,ht,hut⟩:=BM hpr hix;have hm:=Yc Ab;obtain⟨wk,ul⟩:=rok r hm;have Aw:=s1.trans s2;have hat:Cr vs (0 + ((i:Nat):Int))≈(.ref t):=by rw[LQ,<- et];exact EA hix
   have hwt:Cr 10.7 (0 + ((i:Nat):Int))≈(.str r.1):=by rw[LQ];exact EA (by rw[Yn,Yn,Ab];rfl)
   have D8:=s2 _ _ EG;have bad:∀(e:CZ) (t2:μ) (H':Hp),AA H H'->H' t2=none->((AM r.1=false/\e=.noK r.1)\/(AM r.1=true/\r.1∈(rows.take i).map 0.5/\e=.twice r.1)\/(AM r.1=true/\r.1∉(rows.take i).map 0.5/\8<↑r.2/\e=.many))->Q (.ref t2) (upd H' t2 (.tup [.str (Bu (kI e)),kF e])):=λe t2 H' sH AU h =>
    say e t2 H' sH AU (.rows (.bad i ne small ⟨⟨r,Ab,h⟩,ah,ndp⟩))
   refine⟨Z,Z,lw,_,_,Z,Y,SqL.of D8,hwt,Z,Z,Z,lw,Z,SqL.of D8,λlp hlp=>?_⟩;rw[show(0 + ((i:Nat):Int))=((i:Nat):Int) by omega,UB];have e1:((rows.map 0.5).map V.str).take i=((rows.take i).map 0.5).map V.str:=by rw[Mq,Mq]
   rw[e1];have s3:=AJ (o:=.lst 13.1) hlp;have h3:(upd H2 lp (.lst 13.1)) lp≈(.lst 13.1):=uS;generalize upd H2 lp (.lst 13.1)=H3 at s3 h3 ⊢;have A_:=Aw.trans s3;have Eb:=s3 _ _ D8;rw[show(0 + ((i:Nat):Int))=((i:Nat):Int) by omega]at hwt hat;refine⟨lp,Z,.inl (SqL.of h3),Y,JG _,Z,?_⟩;rw[if_neg (show ¬ (false=true) by decide),FD];refine BO (λhs=>?_) (λhs=>?_)
   ·have hs:=Je hs;exact⟨Z,Z,lw,_,_,Z,Y,SqL.of Eb,hwt,W,λt2 AU=>bad (.twice r.1) t2 H3 A_ AU (.inr (.inl ⟨wk,hs,Y⟩))⟩
   have hs:r.1∉(rows.take i).map 0.5:=λz=>hs (Jb z);refine⟨Z,Z,l,_,_,Z,Y,SqL.of (A_ _ _ hvs),hat,t,_,_,Z,Y,AH.of (A_ _ _ ht),EA (j:=1) rfl,u,Z,.inr (AH.of (A_ _ _ hut)),_,Z,Y,Z,?_⟩;rw[Ya];refine BO (λhg=>?_) (λhg=>?_)
   ·have hg:8<↑r.2:=by have:=Je hg;omega
    exact⟨W,λt2 AU=>bad .many t2 H3 A_ AU (.inr (.inr ⟨wk,hs,hg,Y⟩))⟩
   have hg:↑r.2<=8:=by
    have:¬ ((↑r.2:Int) > 8):=λz=>hg (Jb z);omega
   have e1:rows.take 4.6=rows.take i++[r]:=by rw[Yq,Ab];rfl
   refine⟨Z,s2.trans s3,?_,?_⟩
   ·intro r2 A7;rw[e1]at A7
    rcases Yo.mp A7 with z | z
    ·exact ah r2 z
    ·rw[Yf.mp z];exact⟨wk,hg⟩
   ·rw[e1,B6];refine List.nodup_append.mpr ⟨ndp,by simp,λa ha b hb e=>?_⟩;have:b=r.1:=by simpa using hb
    rw[e,this]at ha;exact hs ha
  rintro σ H2 ⟨x2,rfl,s2,ah,ndp⟩;rw[show↑(Jr 0 (↑vs:Int).toNat)=↑rows by rw[J0];omega,Yx]at ah ndp;have f:HD rows:=⟨ne,small,λr hr=>(ah r hr).1,ndp,λr hr=>(ah r hr).2⟩;have Aw:=s1.trans s2;have Ao:=s2 _ _ EG;let Dh:NW:=λi σ H'=>∃ x3 x4 x5:OV,σ=[↥(.ref l),↥(.ref lw),x2,x3,x4,x5,none]/\AA H2 H'/\∀ r∈rows.take i,(∀ v∈r.2,v∈rows.map 0.5)/\r.2.Nodup;refine⟨Z,l,Y,⟨_,SqL.of (Aw _ _ hvs)⟩,B1 (Ck (xs:=vs)) Dh
   ⟨_,_,Z,AA.refl _,(λr hr=>by rw[CD]at hr;cases hr)⟩ (λi σ H' _ h0=>by obtain⟨_,_,_,_,s,_⟩:=h0;exact SqL.of (s _ _ (Aw _ _ hvs))) ?_ ?_⟩
  ·rintro i v σ H3 hi ⟨x3,x4,x5,rfl,s3,ahu⟩;obtain⟨r,Ab,t,u,rfl,ht,hut⟩:=BM hpr hi;have hm:=Yc Ab;have A_:=Aw.trans s3;have few:=f.few r hm;refine⟨t,Z,AH.of (A_ _ _ ht),Y,_,Z,_,Z,Y,?_⟩;let R6:NW:=λj σ H'=>∃ x5:OV,σ=[↥(.ref l),↥(.ref lw),x2,↥(.str r.1),↥(.ref u),x5,none]/\AA H2 H'/\(∀ v∈r.2.take j,v∈rows.map 0.5)/\(r.2.take j).Nodup;refine⟨Z,u,Z,.inr (AH.of (A_ _ _ hut)),Z,V,by rw[Ya];omega,B1 OO R6
    ⟨Z,s3,(λv hv=>by rw[CD]at hv;cases hv),by rw[CD];exact .nil⟩ (λ_ _ _ _ _=>trivial) ?_ ?_⟩
   ·rintro j v σ H4 hj ⟨x5,rfl,s4,kn,ndu⟩;obtain⟨Pq,rfl⟩:=K_ hj;rw[Ya]at Pq;have qK:j<↑r.2:=by omega
    have hy:r.2[j]?≈r.2[j]:=Yu qK;generalize r.2[j]=y at hy;have hat:Cr 6.7 (0 + (j:Int))≈(.str y):=by
     rw[LQ];exact EA (by rw[Yn,hy];rfl)
    have Ba:=Aw.trans s4;have Li:=Ba _ _ hut;have Bt:=s4 _ _ Ao;have bad:∀(e:CZ) (t2:μ) (H':Hp),AA H H'->H' t2=none->((y∉rows.map 0.5/\e=.noK y)\/(y∈rows.map 0.5/\y∈r.2.take j/\e=.twice y))->Q (.ref t2) (upd H' t2 (.tup [.str (Bu (kI e)),kF e])):=λe t2 H' sH AU h =>
     say e t2 H' sH AU (.ups f (.bad i j ⟨⟨r,y,Ab,hy,kn,ndu,h⟩,ahu⟩))
    refine⟨Z,Z,u,_,_,Z,Y,AH.of Li,hat,Z,lw,Z,.inl (SqL.of Bt),Y,JG _,Z,?_⟩;rw[show(if true=true then !Bh (V.str y) 10.7 else Bh (V.str y) 10.7)=!decide (y∈rows.map 0.5)from by rw[if_pos rfl,FD]];refine BO (λhn=>?_) (λhn=>?_)
    ·have hn:y∉rows.map 0.5:=λz=>by rw[Jb z]at hn;cases hn
     exact⟨Z,Z,u,_,_,Z,Y,AH.of Li,hat,W,λt2 AU=>bad (.noK y) t2 H4 Ba AU (.inl ⟨hn,Y⟩)⟩
    ·have hn:y∈rows.map 0.5:=LR λc=>hn (by rw[Jc c];rfl);refine⟨Z,Z,u,_,_,Z,Y,AH.of Li,hat,Z,Z,Z,ye Li λuc H5 s5 h5=>?_⟩;rw[show BQ 6.7 none (↥(0 + (j:Int)))=(r.2.take j).map V.str from by rw[LQ,UB,Mq]]at h5;have By:=Ba.trans s5;refine⟨uc,Z,.inr (AH.of h5),Y,JG _,Z,?_⟩;rw[show(if false=true then !Bh (V.str y) ((r.2.take j).map V.str)else Bh (V.str y) ((r.2.take j).map V.str))=decide (y∈r.2.take j)from by rw[if_neg (show ¬ (false=true) by decide),FD]];refine BO (λhs=>?_) (λhs=>?_)
     ·have hs:=Je hs;exact⟨Z,Z,u,_,_,Z,Y,AH.of (s5 _ _ Li),hat,W,λt2 AU=>bad (.twice y) t2 H5 By AU (.inr ⟨hn,hs,Y⟩)⟩
     ·have hs:y∉r.2.take j:=λz=>hs (Jb z);have e1:r.2.take (j + 1)=r.2.take j++[y]:=by rw[Yq,hy];rfl
      refine⟨Z,s4.trans s5,?_,?_⟩
      ·intro v hv;rw[e1]at hv
       rcases Yo.mp hv with z | z
       ·exact kn v z
       ·rw[Yf.mp z];exact hn
      ·rw[e1];refine List.nodup_append.mpr ⟨ndu,by simp,λa ha b hb e=>?_⟩;rw[e,Yf.mp hb]at ha;exact hs ha
   ·rintro σ H4 ⟨x5,rfl,s4,kn,ndu⟩;have ej:r.2.take ↑(Jr 0 (↑6.7:Int).toNat)=r.2:=by
     rw[J0,Ya];exact J8 0.0
    rw[ej]at kn ndu;refine⟨_,_,Z,s4,λr2 A7=>?_⟩;rw[Yq,Ab]at A7
    rcases Yo.mp A7 with z | z
    ·exact ahu r2 z
    ·have:r2=r:=by simpa using z
     rw[this];exact⟨kn,ndu⟩
  rintro σ H3 ⟨x3,x4,x5,rfl,s3,ahu⟩;rw[<- vl,Yx]at ahu;have uf:Hj rows:=⟨λr hr=>(ahu r hr).1,λr hr=>(ahu r hr).2⟩;have A_:=Aw.trans s3;refine⟨Z,l,rows,Y,LA hR A_,f,uf,λaa Az H4 s4 Hc hA=>?_⟩;have Ba:=A_.trans s4;let aF:NW:=λi σ H'=>∃ x3 x4:OV,σ=[↥(.ref l),↥(.ref lw),x2,x3,x4,x5,↥(.ref aa)]/\AA H4 H'/\∀ r∈rows.take i,∀ u∈r.2,¬ Graph.Reach 6.2 u r.1;refine⟨Z,l,Y,⟨_,SqL.of (Ba _ _ hvs)⟩,B1 (Ck (xs:=vs)) aF
   ⟨_,Z,AA.refl _,(λr hr=>by rw[CD]at hr;cases hr)⟩ (λi σ H' _ h0=>by obtain⟨_,_,_,s,_⟩:=h0;exact SqL.of (s _ _ (Ba _ _ hvs))) ?_ ?_⟩
  ·rintro i v σ H5 hi ⟨x3,x4,rfl,s5,ahr⟩;obtain⟨r,Ab,t,u,rfl,ht,hut⟩:=BM hpr hi;have hm:=Yc Ab;have By:=Ba.trans s5;have few:=f.few r hm;refine⟨t,Z,AH.of (By _ _ ht),Y,_,Z,_,Z,Y,?_⟩;have dI:=By _ _ hut;refine⟨Z,u,Y,⟨_,AH.of dI⟩,Q_ (JE (xs:=r.2.map V.str)) (sL 6.1) (λ_=>true) (j7 rows r.1) (λAv Ea=>AH.of (Ea _ _ dI)) ?_ ?_ ?_⟩
   ·intro v Av R' Ea _ NM;exact NM Av (AA.refl _)
   ·intro v Av R' Ea hv _ NM;obtain⟨y,hy,rfl⟩:=Yd.mp hv;obtain⟨r2,ar,Nz⟩:=HK (uf.known r hm y hy);obtain⟨t2,fs,GJ,AU,hin⟩:=(hA.mono λb xs e=>(s5.trans Ea) b _ e).val f.nd ar;rw[Nz]at GJ hin;refine⟨Z,Z,Z,aa,Z,(by rw[<- GJ];exact BR.k (k:=Sum.inr y) ((s5.trans Ea) _ _ Hc)),t2,Z,.inl (SqL.of AU),Y,JG fs,?_⟩;rw[show(if false=true then !Bh (V.str r.1) (fs.map V.str)else Bh (V.str r.1) (fs.map V.str))=Hq rows y r.1 from by rw[if_neg (show ¬ (false=true) by decide),FD,sX hin]];exact NM Av (AA.refl _)
   ·intro D3 H6 hD3 s6 BA;rw[zC]at BA;refine⟨D3,Z,SqL.of BA,Z,BO (λh=>?_) (λh=>?_)⟩
    ·have h:((r.2.map λy=>Hq rows y r.1).any id)=true:=h;rw[IE]at h;obtain⟨b,hb,eb⟩:=h;obtain⟨y,hy,rfl⟩:=Yd.mp hb;have cy:M7 rows:=⟨r.1,Yd.mpr ⟨r,hm,Y⟩,y,by rw[Hy f.nd hm];exact hy,QW.mp eb⟩;exact⟨W,λt2 AU=>say .ring t2 H6 (By.trans s6) AU (.ring f uf cy)⟩
    ·have h:¬ ((r.2.map λy=>Hq rows y r.1).any id)=true:=h;refine⟨_,Z,s5.trans s6,λr2 A7=>?_⟩;rw[Yq,Ab]at A7
     rcases Yo.mp A7 with z | z
     ·exact ahr r2 z
     ·have:r2=r:=by simpa using z
      rw[this];intro y hy re;exact h (IE.mpr ⟨true,Yd.mpr ⟨y,hy,QW.mpr re⟩,Y⟩)
  rintro σ H5 ⟨x3,x4,rfl,s5,ahr⟩;rw[<- vl,Yx]at ahr;refine q none _ _ (Ba.trans s5) (.good (yY f uf ?_)) rfl;rintro⟨x,hx,y,hy,re⟩;obtain⟨r,Ab,er⟩:=HK hx;rw[<- er,Hy f.nd Ab]at hy;rw[<- er]at re;exact ahr r Ab y hy re
inductive T6(vs:LV)(H:Hp)(Q:VK)(AO:XK):Prop
 | mk:∀(l ln a:μ) (rows:List Row) (ns:List AX) (us:LV) (c:A3),vs=[.ref l,.ref ln,.ref a]->Ep H l rows->H ln≈(.lst us)->Df H ns us->Ei H a (A1 c)->Eg c->↑rows<=1000->↑ns<=1000->(∀ r∈rows,↑r.2<=1000)->(∀ n∈ns,↑n.2.2<=1000)->(∀ t l' DX Bn H',AA H H'->H' t≈(.tup [.ref l',.ref DX])->Ep H' l' 7.4->H' DX≈(.lst Bn)->Df H' (FQ ns c) Bn->(l'=l\/H l'=none)->(DX=ln\/H DX=none)->H t=none->Q (.ref t) H')->T6 vs H Q AO
def xR:(["word","ups","words"]:LS).Nodup:=by rfl'
def xQ:(["word","many","pairs","words","pair"]:LS).Nodup:=by rfl'
abbrev g3(K:Fg)(i j k:Nat):TG:=U9 K 3 (L4 (DJ i) (L4 (DJ j) (L4 (DJ k) Z1)))
def rM{X:Cx}{K:Fg}{i j k:Nat}{x y z:Str}{p q r pos:Pos}{c:Nat}(hK:X.K=K)(hc:X.calm=true)(hN:X.N.Nodup)(hi:X.N[i]?≈x)(hj:X.N[j]?≈y)(hk:X.N[k]?≈z)(hx:Loc X.env.scope x)(hy:Loc X.env.scope y)(hz:Loc X.env.scope z)
  (fx:X.fn x=true\/X.env.scope.names.lookup x≈.local) (fy:X.fn y=true\/X.env.scope.names.lookup y≈.local) (fz:X.fn z=true\/X.env.scope.names.lookup z≈.local):PG X (.Tuple [.Name x p,.Name y q,.Name z r] c pos) (g3 K i j k):=by
 subst hK;exact CO hc (gC (CB (i:=i) hN hi hx fx) (gC (CB (i:=j) hN hj hy fy) (gC (CB (i:=k) hN hk hz fz) CQ)))
abbrev V5:LS:=["rows","names","words","pair"]
abbrev G9:LS:=["rows","names","words"]
def mW:Am V5 G9 (AN Ma):=by nofun
set_option maxHeartbeats 8000000 in
def rV(F:Def K mg "_law_grown" Ma G9 f fd)(tuple:mg "tuple"=none)(int:mg "int"=none):⋯ 1 f fd G9 T6:=by
 nomatch F.fn.ok mW
 ·obtain⟨l,ln,a,rows,ns,us,c,rfl,_⟩:=h;rfl
 ·obtain⟨l,ln,a,rows,ns,us,c,rfl,hR,CH,hN,hw,fc,rl,nl,rul,nul,q⟩:=h;have nd:=mW.nd
  ac_nf
  refine'⟨_,(pS (AR 9.0 (AF (sE 0 nd (Ar MF 0.9 (B4 (pC (BB (pC 2.1 (pC (EE OY 0.8 tuple Mr (pC (F0 (r:=Gd K) Hu 4.2 (FH AG) HH) AB)) AB))) AB))))) AS)
   (pS (AR 9.0 (AF ?eT) AS)
   (pS (AR 9.0 (AF (sE 1 nd (Ar MF 1.6 (B4 (pC (BB (pC 2.1 (pC (EE iR 0.8 int Rx (pC 2.1 AB)) (pC (BB AB) AB)))) AB))))) AS)
   (pS (AR 9.0 (pS (Er (i:=3) nd rfl 1.4 (BB (pC (EE OY 0.8 tuple Mr (pC (F0 (r:=Gd K) Hu 4.2 (FH AG) (FH (QJ Qc AG))) AB)) (pC (Ac (r:=A0 K) Au 4.2 (QJ Qc AG) 0.4) AB))))
   (AF ?eD)) AS)
   (AF (AW (BB (pC 0.9 3.1)))))))),?_⟩
  case eT=>exact(HP (k:=0) ["word","ups"] ["words"] [2] nd rfl rfl (λ_=>B5 (osc:=AN Ma) (on:=V5) 1.2 rfl rfl rfl) (Ci 0.9) (λC s H fp=>Jq (K:=K) (i:=0) (j:=1) rfl rfl xR rfl rfl 1.7 1.7 1.4 1.4) 2.6 (λC s H fp=>BB (pC 0.9 (pC (Ar (r:=QN K) Qj 1.6 (Ar (r:=Te K) gB (BB (pC 2.1 AB)) (EE YB 0.8 int Rx (pC (DV BS 0.9 2.1 (Ad _)) AB)))) AB))))
  case eD=>exact(HP (k:=1) ["word","many","pairs"] ["words","pair"] [2,3] nd rfl rfl (λ_=>B5 (osc:=AN Ma) (on:=V5) 1.2 rfl rfl rfl) (Ci 1.6) (λC s H fp=>rM (K:=K) (i:=0) (j:=1) (k:=2) rfl rfl xQ rfl rfl rfl 1.7 1.7 1.7 1.4 1.4 1.4) 2.6 (λC s H fp=>BB (pC 0.9 (pC 1.6 (pC (Ar (r:=QN K) Qj 4.2 (Ar (r:=Te K) gB (BB 7.6) (EE YB 0.8 int Rx (pC (DV BS 0.9 (Ac (r:=A0 K) Au 7.7 AG 0.4) (Ad _)) AB)))) AB)))))
  exists let b:=_;let c:=AE _ b;let e:=AE (A4 _ c _) a;let f:=_;let g:=AE (A4 _ f _) e;let h:=AE _ g;let i:=_;AE (A4 _ i _) h _ _ _
  have hl:=SqL.of (K:=K) hw.at_;obtain⟨vs,hvs,hpr⟩:=id hR;have vl:=Yi hpr;have ul:=Yi hN;refine⟨Z,a,_,_,Z,Y,hl,BE (k:=0) (DQ c),Y,Z,?_⟩;rw[B3];cases c with
  | kind x Bn =>
   rw[Jb (show Bv (.kind x Bn)="kind" from rfl)];refine AY ⟨Z,Z,a,_,_,Z,Y,hl,BE (k:=1) (show(A1 (.kind x Bn))[1]?≈x from rfl),Z,Z,a,Z,hl,λp hp=>?_⟩;have s1:AA H (upd H p (.lst (BQ ((A1 (.kind x Bn)).map V.str) (↥3) none))):=AJ hp;have h1:(upd H p (.lst (BQ ((A1 (.kind x Bn)).map V.str) (↥3) none))) p≈(.lst (Bn.map V.str)):=by
    rw[uS];exact congrArg 12.6 ((RA (kW (x,Bn)) 3).trans (congrArg (λz=>z.map V.str) (mL (x,Bn))))
   generalize upd H p (.lst (BQ ((A1 (.kind x Bn)).map V.str) (↥3) none))=H1 at s1 h1 ⊢;refine⟨p,Z,.inl ⟨SqL.of h1,λu hu=>⟨W,λt ht=>⟨O,λl1 A6=>?_⟩⟩⟩⟩;have s2:AA H1 (upd H1 u (.tup (Bn.map V.str))):=AJ hu;have h2:(upd H1 u (.tup (Bn.map V.str))) u≈(.tup (Bn.map V.str)):=uS;generalize upd H1 u (.tup (Bn.map V.str))=H2 at s2 h2 ht A6 ⊢;have s3:AA H2 (upd H2 t (.tup [.str x,.ref u])):=AJ ht;have h3:(upd H2 t (.tup [.str x,.ref u])) t≈(.tup [.str x,.ref u]):=uS;generalize upd H2 t (.tup [.str x,.ref u])=H3 at s3 h3 A6 ⊢;have s4:AA H3 (upd H3 l1 (.lst [.ref t])):=AJ A6;have h4:(upd H3 l1 (.lst [.ref t])) l1≈(.lst [.ref t]):=uS;generalize upd H3 l1 (.lst [.ref t])=H4 at s4 h4 ⊢;have Ba:=s1.trans (s2.trans (s3.trans s4));refine⟨l,l1,vs,[.ref t],Y,Y,Ba _ _ hvs,h4,sL (by show ↑vs + 1<=100000;omega),λl2 Ao=>?_⟩;have s5:AA H4 (upd H4 l2 (.lst 11.7)):=AJ Ao;have h5:(upd H4 l2 (.lst 11.7)) l2≈(.lst 11.7):=uS;generalize upd H4 l2 (.lst 11.7)=H5 at s5 h5 ⊢;have By:=Ba.trans s5;have C9:=SqL.of (K:=K) (By _ _ hw.at_);refine⟨Z,a,_,_,Z,Y,C9,BE (k:=0) (DQ _),Y,Z,?_⟩;rw[B3,Jc (show ¬ Bv (.kind x Bn)="tie" from ZX)];refine AL ⟨Z,a,_,_,Z,Y,C9,BE (k:=0) (DQ _),Y,Z,?_⟩;rw[B3,Jc (show ¬ Bv (.kind x Bn)="name" from kD)];refine AL ⟨Z,a,_,_,Z,Y,C9,BE (k:=0) (DQ _),Y,Z,?_⟩;rw[B3,Jc (show ¬ Bv (.kind x Bn)="deed" from ZW)];refine AL ⟨Z,Z,W,λt6 Ec=>?_⟩;have s6:=AJ (o:=.tup [.ref l2,.ref ln]) Ec;refine q t6 l2 ln us _ (By.trans s6) uS ⟨_,s6 _ _ h5,?_⟩ (s6 _ _ (By _ _ CH)) (hN.mono (Bx (By.trans s6))) (.inr (Ba.free Ao)) (.inl rfl) (By.free Ec);have Vy:=(s3.trans s4).trans (s5.trans s6);exact Cu (Paired.mapP hpr λr v ⟨t',u',e,a1,a2⟩=>⟨t',u',e,s6 _ _ (By _ _ a1),s6 _ _ (By _ _ a2)⟩) ⟨t,u,Y,s6 _ _ (s5 _ _ (s4 _ _ h3)),Vy _ _ h2⟩
  | tie x y =>
   rw[Jc (show ¬ Bv (.tie x y)="kind" from(by rfl':¬ (("tie":Str)="kind")))];refine AL ⟨Z,a,_,_,Z,Y,hl,BE (k:=0) (DQ _),Y,Z,?_⟩;rw[B3,Jb (show Bv (.tie x y)="tie" from rfl)];let Bf:μ->Nat->LV->St->Hp->Prop:=λD i ys σ' H'=>AA H H'/\H D=none/\H' D≈(.lst ys)/\Paired (LG H') ((rows.take i).map λr=>if r.1=x then(r.1,r.2++[y])else r) ys/\∃ u v,σ'=[u,v,↥(.ref a)];refine AY ⟨Z,l,Y,⟨_,SqL.of hvs⟩,MX (Ck (xs:=vs)) (sL 0.0) Bf
    (λD hD=>⟨AJ hD,hD,uS,by rw[CD];exact .nil,_,Z⟩) (λD i ys σ' H' hi h0=>by obtain⟨s,_,_,hp,_⟩:=h0;exact⟨SqL.of (s _ _ hvs),by have:=Yi hp;rw[Ya,Yy]at this;omega⟩) ?_ ?_⟩
   ·rintro D i v ys σ' H7 hD hi ⟨s7,Ij,Lv,Fi,x1,x2,rfl⟩;obtain⟨r,Ab,t,u,rfl,ht,hu⟩:=BM hpr hi;have hul:=rul r (Yc Ab);have Fj:=SqL.of (K:=K) (s7 _ _ hw.at_);refine⟨t,Z,AH.of (s7 _ _ ht),Y,_,Z,_,Z,Y,?_⟩;refine⟨Z,Z,Z,a,_,_,Z,Y,Fj,BE (k:=2) (show(A1 (.tie x y))[2]?≈y from rfl),O,λt1 Kf=>?_⟩;have s8:AA H7 (upd H7 t1 (.tup [.str y])):=AJ Kf;have h8:(upd H7 t1 (.tup [.str y])) t1≈(.tup [.str y]):=uS;generalize upd H7 t1 (.tup [.str y])=H8 at s8 h8 ⊢;refine⟨Z,Z,a,_,_,Z,Y,SqL.of (s8 _ _ (s7 _ _ hw.at_)),BE (k:=1) (show(A1 (.tie x y))[1]?≈x from rfl),Y,.inr ⟨Z,?_⟩⟩;have fin:∀(zs:LS) (p t2:μ) (BL:Hp),AA H7 BL->BL p≈(.tup (r.2.map V.str++zs.map V.str))->(if r.1=x then(r.1,r.2++[y])else r)=(r.1,r.2++zs)->BL t2=none ->
      6.3 D≈(.lst ys)/\AA H (upd 6.3 D (.lst 11.9))/\H D=none/\(upd 6.3 D (.lst 11.9)) D≈(.lst 11.9)/\Paired (LG (upd 6.3 D (.lst 11.9))) ((rows.take 4.6).map λr=>if r.1=x then(r.1,r.2++[y])else r) 11.9/\∃ u' v':OV,[↥(V.str r.1),↥(.ref u),↥(.ref a)]=[u',v',↥(.ref a)]:=λzs p t2 BL CV NH e AU=>by
     have EZ:AA BL 6.3:=AJ AU;have Hd:6.3 t2≈(.tup [.str r.1,.ref p]):=uS;generalize upd BL t2 (.tup [.str r.1,.ref p])=KH at EZ Hd;have Eu:=CV.trans EZ;have IV:=Eu _ _ Lv;have tk:∀ b xs,KH b≈(.tup xs)->(upd KH D (.lst (ys++[V.ref t2]))) b≈(.tup xs):=λb xs e=>by rw[AD (λz=>by rw[z,IV]at e;cases e)];exact e
     refine⟨IV,λb o e=>by rw[AD (AI e Ij)];exact Eu _ _ (s7 _ _ e),Ij,uS,?_,_,Z⟩;rw[Yq,Ab,B6];show Paired _ (_++[if r.1=x then(r.1,r.2++[y])else r]) _;rw[e];exact Cu (Paired.mapP Fi λr' v' ⟨t',u',e',a1,a2⟩=>⟨t',u',e',tk _ _ (Eu _ _ a1),tk _ _ (Eu _ _ a2)⟩) ⟨t2,p,Y,tk _ _ Hd,by rw[tk _ _ (EZ _ _ NH),B6]⟩
    refine⟨t1,[.str y],Z,Y,AH.of h8,JJ _ _,by show 1<=100;decide,λhb=>?_,λhb tz htz=>?_⟩
    ·have e:r.1=x:=V.str.inj (Je hb);exact ON (K:=K) (s8 _ _ (s7 _ _ hu)) h8 (sL (by rw[Ya];show _ + 1<=100000;omega)) λp BL CV Lw=>⟨W,λt2 AU=>fin [y] p t2 BL (s8.trans CV) Lw (if_pos e) AU⟩
    ·have e:¬ r.1=x:=λz=>of_decide_eq_false hb (by rw[z]);have s9:=AJ (o:=.tup []) htz;exact ON (K:=K) (s9 _ _ (s8 _ _ (s7 _ _ hu))) uS (sL (by rw[Ya];show _ + 0<=100000;omega)) λp BL CV Lw=>⟨W,λt2 AU=>fin [] p t2 BL (s8.trans (s9.trans CV)) Lw (by rw[if_neg e,Dv]) AU⟩
   ·rintro D ys σ' H7 hD ⟨s7,Ij,Lv,Fi,_⟩;rw[<- vl,Yx]at Fi;have Fj:=SqL.of (K:=K) (s7 _ _ hw.at_);refine⟨Z,a,_,_,Z,Y,Fj,BE (k:=0) (DQ _),Y,Z,?_⟩;rw[B3,Jc (show ¬ Bv (.tie x y)="name" from j8)];refine AL ⟨Z,a,_,_,Z,Y,Fj,BE (k:=0) (DQ _),Y,Z,?_⟩;rw[B3,Jc (show ¬ Bv (.tie x y)="deed" from ZZ)];refine AL ⟨Z,Z,W,λt6 Ec=>?_⟩;have s6:=AJ (o:=.tup [.ref D,.ref ln]) Ec;exact q t6 D ln us _ (s7.trans s6) uS ⟨_,s6 _ _ Lv,Paired.mapP Fi λr v ⟨t',u',e,a1,a2⟩=>⟨t',u',e,s6 _ _ a1,s6 _ _ a2⟩⟩ (s6 _ _ (s7 _ _ CH)) (hN.mono (Bx (s7.trans s6))) (.inr Ij) (.inl rfl) (s7.free Ec)
  | name x n =>
   rw[Jc (show ¬ Bv (.name x n)="kind" from Yaz)];refine AL ⟨Z,a,_,_,Z,Y,hl,BE (k:=0) (DQ _),Y,Z,?_⟩;rw[B3,Jc (show ¬ Bv (.name x n)="tie" from(by rfl':¬ (("name":Str)="tie")))];refine AL ⟨Z,a,_,_,Z,Y,hl,BE (k:=0) (DQ _),Y,Z,?_⟩;rw[B3,Jb (show Bv (.name x n)="name" from rfl)];obtain⟨WW,WV⟩:=Wo fc.2.1 fc.2.2;obtain⟨i1,i2⟩:=fq WW;rw[WV]at i1;refine AY ⟨Z,Z,a,_,_,Z,Y,hl,BE (k:=1) (show(A1 (.name x n))[1]?≈x from rfl),Z,a,_,_,Z,Y,hl,BE (k:=2) (show(A1 (.name x n))[2]?≈(Iu n)from rfl),Iu n,n,Y,i1,i2,BN _,λte hte=>⟨sL 8.0,λt ht=>⟨O,λl1 A6=>?_⟩⟩⟩;have s2:AA H (upd H te (.tup [])):=AJ hte;have h2:(upd H te (.tup [])) te≈(.tup []):=uS;generalize upd H te (.tup [])=H2 at s2 h2 ht A6 ⊢;have s3:AA H2 (upd H2 t (.tup [.str x,.int n,.ref te])):=AJ ht;have h3:(upd H2 t (.tup [.str x,.int n,.ref te])) t≈(.tup [.str x,.int n,.ref te]):=uS;generalize upd H2 t (.tup [.str x,.int n,.ref te])=H3 at s3 h3 A6 ⊢;have s4:AA H3 (upd H3 l1 (.lst [.ref t])):=AJ A6;have h4:(upd H3 l1 (.lst [.ref t])) l1≈(.lst [.ref t]):=uS;generalize upd H3 l1 (.lst [.ref t])=H4 at s4 h4 ⊢;have Ba:=s2.trans (s3.trans s4);refine⟨ln,l1,us,[.ref t],Y,Y,Ba _ _ CH,h4,sL (by show ↑us + 1<=100000;omega),λl2 Ao=>?_⟩;have s5:AA H4 (upd H4 l2 (.lst (us++[.ref t]))):=AJ Ao;have h5:(upd H4 l2 (.lst (us++[.ref t]))) l2≈(.lst (us++[.ref t])):=uS;generalize upd H4 l2 (.lst (us++[.ref t]))=H5 at s5 h5 ⊢;have By:=Ba.trans s5;have C9:=SqL.of (K:=K) (By _ _ hw.at_);refine⟨Z,a,_,_,Z,Y,C9,BE (k:=0) (DQ _),Y,Z,?_⟩;rw[B3,Jc (show ¬ Bv (.name x n)="deed" from ZY)];refine AL ⟨Z,Z,W,λt6 Ec=>?_⟩;have s6:=AJ (o:=.tup [.ref l,.ref l2]) Ec;have Cn:=s5.trans s6;refine q t6 l l2 _ _ (By.trans s6) uS (LA hR (By.trans s6)) (s6 _ _ h5) ?_ (.inl rfl) (.inr (Ba.free Ao)) (By.free Ec);exact Cu (hN.mono (Bx (By.trans s6))) ⟨t,te,[],Y,Cn _ _ (s4 _ _ h3),Cn _ _ (s4 _ _ (s3 _ _ h2)),.nil⟩
  | deed x d m =>
   rw[Jc (show ¬ Bv (.deed x d m)="kind" from Ya1)];refine AL ⟨Z,a,_,_,Z,Y,hl,BE (k:=0) (DQ _),Y,Z,?_⟩;rw[B3,Jc (show ¬ Bv (.deed x d m)="tie" from(by rfl':¬ (("deed":Str)="tie")))];refine AL ⟨Z,a,_,_,Z,Y,hl,BE (k:=0) (DQ _),Y,Z,?_⟩;rw[B3,Jc (show ¬ Bv (.deed x d m)="name" from Ya0)];refine AL ⟨Z,a,_,_,Z,Y,hl,BE (k:=0) (DQ _),Y,Z,?_⟩;rw[B3,Jb (show Bv (.deed x d m)="deed" from rfl)];have h4:4<=↑(A1 (.deed x d m)):=by show 4<=↑(dW x d m);rw[(L3 x m d).2.2.2.1];omega
   refine AY ⟨Z,Z,Z,Z,a,Z,hl,λp hp=>?_⟩;have s1:AA H (upd H p (.lst 12.4)):=AJ hp;have h1:(upd H p (.lst 12.4)) p≈(.lst (d.map V.str)):=by
    rw[uS];refine congrArg 12.6 ?_;rw[show(d.map V.str)=(((dW x d m).drop 2).take (↑(dW x d m) - 4)).map V.str by rw[(L3 x m d).2.1]];exact eg (dW x d m) 2 2 (by have:=(L3 x m d).2.2.2.1;omega) 0.2
   generalize upd H p (.lst 12.4)=H1 at s1 h1;refine⟨p,Z,.inl ⟨SqL.of h1,λtc htc=>?_⟩⟩;have s2:AA H1 (upd H1 tc (.tup (d.map V.str))):=AJ htc;have h2:(upd H1 tc (.tup (d.map V.str))) tc≈(.tup (d.map V.str)):=uS;generalize upd H1 tc (.tup (d.map V.str))=H2 at s2 h2 ⊢;have Aw:=s1.trans s2;refine⟨Z,Z,a,_,_,Z,Y,SqL.of (Aw _ _ hw.at_),Wi (k:=1) 0.2 0.0 (eh x m d),W,λtp htp=>?_⟩;have s3:AA H2 (upd H2 tp (.tup [.ref tc,.str m])):=AJ htp;have h3:(upd H2 tp (.tup [.ref tc,.str m])) tp≈(.tup [.ref tc,.str m]):=uS;generalize upd H2 tp (.tup [.ref tc,.str m])=H3 at s3 h3 ⊢;have A_:=Aw.trans s3;have qX:=s3 _ _ h2;have Fl:=hN.mono (Bx A_);let Dh:μ->Nat->LV->St->Hp->Prop:=λD i ys σ' H'=>AA H3 H'/\H3 D=none/\H' D≈(.lst ys)/\Df H' ((ns.take i).map (Ed x d m)) ys/\∃ u v z,σ'=[u,v,z,↥(.ref a),↥(.ref tp)];refine⟨Z,ln,Y,⟨_,SqL.of (A_ _ _ CH)⟩,MX (Ck (xs:=us)) (sL 0.0) Dh
    (λD hD=>⟨AJ hD,hD,uS,by rw[CD];exact .nil,_,_,Z⟩) (λD i ys σ' H' hi h0=>by obtain⟨s,_,_,hp,_⟩:=h0;exact⟨SqL.of (s _ _ (A_ _ _ CH)),by have:=Yi hp;rw[Ya,Yy]at this;omega⟩) ?_ ?_⟩
   ·rintro D i v ys σ' H7 hD hi ⟨s7,Ij,Lv,Fi,x1,x2,x3,rfl⟩;obtain⟨n,hn,t,tq,Lc,rfl,ht,htq,hP⟩:=BM Fl hi;have hul:=nul n (Yc hn);have hPl:=Yi hP;have qA:=s7 _ _ ht;have SM:=s7 _ _ htq;refine⟨t,Z,AH.of qA,Y,_,Z,_,Z,_,Z,Y,?_⟩;refine⟨Z,Z,Z,Z,O,λt1 Kf=>?_⟩;have s8:AA H7 (upd H7 t1 (.tup [.ref tp])):=AJ Kf;have h8:(upd H7 t1 (.tup [.ref tp])) t1≈(.tup [.ref tp]):=uS;generalize upd H7 t1 (.tup [.ref tp])=H8 at s8 h8 ⊢;refine⟨Z,Z,a,_,_,Z,Y,SqL.of (s8 _ _ (s7 _ _ (A_ _ _ hw.at_))),BE (k:=1) (show(A1 (.deed x d m))[1]?≈x from rfl),Y,.inr ⟨Z,?_⟩⟩;have fin:∀(ps:List (LS×Str)) (zs:LV) (p t2:μ) (BL:Hp),AA H7 BL->BL p≈(.tup zs)->C1 BL ps zs->Ed x d m n=(n.1,n.2.1,ps)->BL t2=none ->
      4.5 D≈(.lst ys)/\AA H3 (upd 4.5 D (.lst 11.9))/\H3 D=none/\(upd 4.5 D (.lst 11.9)) D≈(.lst 11.9)/\Df (upd 4.5 D (.lst 11.9)) ((ns.take 4.6).map (Ed x d m)) 11.9/\∃ u' v' z':OV,[↥(V.str n.1),↥(.int n.2.1),↥(.ref tq),↥(.ref a),↥(.ref tp)]=[u',v',z',↥(.ref a),↥(.ref tp)]:=λps zs p t2 BL CV NH hps e AU=>by
     have EZ:AA BL 4.5:=AJ AU;have Hd:4.5 t2≈(.tup [.str n.1,.int n.2.1,.ref p]):=uS;generalize upd BL t2 (.tup [.str n.1,.int n.2.1,.ref p])=KH at EZ Hd;have Eu:=CV.trans EZ;have IV:=Eu _ _ Lv;have tk:∀ b xs,KH b≈(.tup xs)->(upd KH D (.lst (ys++[V.ref t2]))) b≈(.tup xs):=λb xs e=>by rw[AD (λz=>by rw[z,IV]at e;cases e)];exact e
     refine⟨IV,λb o e=>by rw[AD (AI e Ij)];exact Eu _ _ (s7 _ _ e),Ij,uS,?_,_,_,Z⟩;rw[Yq,hn,B6];show Df _ (_++[Ed x d m n]) _;rw[e];exact Cu ((Fi.mono (Bx Eu)).mono tk) ⟨t2,p,zs,Y,tk _ _ Hd,tk _ _ (EZ _ _ NH),(hps.mono (Bx EZ)).mono tk⟩
    refine⟨t1,[.ref tp],Z,Y,AH.of h8,JJ _ _,by show 1<=100;decide,λhb=>?_,λhb tz htz=>?_⟩
    ·have e:n.1=x:=V.str.inj (Je hb);refine ON (K:=K) (s8 _ _ SM) h8 (sL (by show _ + 1<=100000;omega)) λp BL CV Lw=>⟨sL 8.0,λt2 AU=>fin (n.2.2++[(d,m)]) _ p t2 BL (s8.trans CV) Lw ?_ (by unfold Ed;rw[if_pos e]) AU⟩;have M9:=s7.trans (s8.trans CV);exact Cu (hP.mono (Bx M9)) ⟨tp,tc,Y,M9 _ _ h3,M9 _ _ qX⟩
    ·have e:¬ n.1=x:=λz=>of_decide_eq_false hb (by rw[z]);have s9:=AJ (o:=.tup []) htz;refine ON (K:=K) (s9 _ _ (s8 _ _ SM)) uS (sL (by show _ + 0<=100000;omega)) λp BL CV Lw=>⟨sL 8.0,λt2 AU=>fin n.2.2 _ p t2 BL (s8.trans (s9.trans CV)) Lw ?_ (by unfold Ed;rw[if_neg e]) AU⟩;rw[Dv];exact hP.mono (Bx (s7.trans (s8.trans (s9.trans CV))))
   ·rintro D ys σ' H7 hD ⟨s7,Ij,Lv,Fi,_⟩;rw[<- ul,Yx]at Fi;have C8:=A_.trans s7;refine⟨Z,Z,W,λt6 Ec=>?_⟩;have s6:=AJ (o:=.tup [.ref l,.ref D]) Ec;exact q t6 l D ys _ (C8.trans s6) uS (LA hR (C8.trans s6)) (s6 _ _ Lv) (Fi.mono (Bx s6)) (.inl rfl) (.inr (A_.free Ij)) (C8.free Ec)
def aL(H:Hp):Option CG->V->Prop
 | none,v=>v=.non
 | some e,v=>∃ a,v=.ref a/\H a≈(.tup [.str (Bu (cI e)),cF e])
inductive XW(vs:LV)(H:Hp)(Q:VK)(AO:XK):Prop
 | mk:∀(l ln a:μ) (rows:List Row) (ns:List AX) (us:LV) (c:A3),vs=[.ref l,.ref ln,.ref a]->Ep H l rows->As rows->H ln≈(.lst us)->Df H ns us->C6 rows ns->Ei H a (A1 c)->Eg c->(∀ r v H',AA H H'->Fn rows ns c r->aL H' r v->Q v H')->XW vs H Q AO
def W3(kw:LS):V->Bool
 | .str z=>!decide (z∈kw)
 | _=>false
def tZ(kw:LS)(ws:LS):((ws.map V.str).filter (W3 kw)).map (λv=>v)=(ws.filter λz=>!decide (z∈kw)).map V.str:=by
 rw[List.map_id',List.filter_map];rfl
def yZ{rows:List Row}(g:As rows){c:A3}(f:Eg c):1<=↑7.4/\↑7.4<=1000/\∀ r∈Cq rows c,AM r.1=true/\↑r.2<=1000:=by
 have one:∀ r∈rows,AM r.1=true/\↑r.2<=1000:=λr hr=>⟨g.word r hr,by have:=g.few r hr;omega⟩;have gl:=g.le;have gn:=g.ne;cases c with
 | kind x us =>
  show 1<=↑8.4/\↑8.4<=1000/\_;rw[Ym];refine⟨V,by show ↑rows + 1<=1000;omega,λr hr=>?_⟩
  rcases Yo.mp hr with z | z
  ·exact one r z
  ·rw[Yf.mp z];exact⟨f.1,by have:=f.2.1;show ↑us<=1000;omega⟩
 | tie x y =>
  show 1<=↑(CI rows x y)/\↑(CI rows x y)<=1000/\∀ r∈CI rows x y,_;unfold CI;rw[Ya];refine⟨gn,V,λr hr=>?_⟩;obtain⟨r0,h0,rfl⟩:=Yd.mp hr;have a:=one r0 h0;have b:=g.few r0 h0;split
  ·exact⟨a.1,by show↑(r0.2++[y])<=1000;rw[Ym];show ↑r0.2 + 1<=1000;omega⟩
  ·exact a
 | name x n=>exact⟨gn,by show ↑rows<=1000;omega,one⟩
 | deed x d m=>exact⟨gn,by show ↑rows<=1000;omega,one⟩
def lT{ns:List AX}(h:N8 ns):∀ n∈ns.map nX,Vj n:=λn hn=>by
 obtain⟨n0,Lo,rfl⟩:=Yd.mp hn;obtain⟨a,b,c,d⟩:=h n0 Lo;exact⟨fu h _ (Yd.mpr ⟨n0,Lo,Y⟩),HJ a,λp hp x hx=>HJ ((d p hp).2.1 x hx),λp hp=>HJ (d p hp).2.2⟩
abbrev S5:LS:=["rows","names","words","kinds","strange","more","longer","due"]
def mR:Am S5 G9 (AN Mc):=by nofun
def xP:(["word","kinds"]:LS).Nodup:=by rfl'
set_option maxHeartbeats 8000000 in
def zb(F:Def K mg "_law_change_due" Mc G9 f fd)(DG:Def K mg "_law_grown" Ma G9 fG fdG)(GG:⋯ 1 fG fdG G9 T6)
  (DK:Def K mg "_law_kinds_due" Ob ["rows"] fK fdK) (GK:⋯ 2 fK fdK ["rows"] X4) (DB:Def K mg "_law_book_due" J2 ["rows","names"] fB fdB) (GB:⋯ 2 fB fdB ["rows","names"] (XU K)):⋯ 3 f fd G9 XW:=by
 nomatch F.fn.ok mR
 ·obtain⟨l,ln,a,rows,ns,us,c,rfl,_⟩:=h;rfl
 ·obtain⟨l,ln,a,rows,ns,us,c,rfl,hR,g,CH,hN,gn,hw,fc,q⟩:=h;have nd:=mR.nd;have hu:=hr.units;have Ax:AZ 1 _:=hr.mono 0.2
  ac_nf
  refine'⟨_,(pS (Er (i:=3) nd rfl 1.4 ?eW)
   (Fz (AR 9.0 (pS ?eS
   (AF (AR (Ae (N_ hu) (pv 4) (B4 AB) (Ad _)) (AF (AW (BB (pC Ah (pC (Ac (r:=A0 K) Au (pv 4) AG 0.4) AB))))) AS))) AS)
   (Fz (AR (PW.pt (Kw 9.0 (OE (Ae (r:=Dz K true) Mb 2.1 ?eN 1.3)))) (AF (AW (BB (pC Ah (pC 2.1 AB))))) AS)
   (pS (MJ (Ag DG GG Ax (pC 0.9 (pC 1.6 2.2))) (CO rfl (gC (gE 5 nd) (gC (gE 6 nd) CQ))))
   (pS (sE 7 nd (Ag DK GK hr (pC 7.5 AB)))
   (pS (AR (Ae Tn (pv 7) Dq (Ad _)) (AF (sE 7 nd (Ag DB GB hr (pC 7.5 (pC (pv 6) AB))))) AS)
   (AF (AW (pv 7))))))))),?_⟩
  case eW=>exact(EX ["row"] [] [] (λ_=>B5 (osc:=AN Mc) (on:=S5) 1.2 rfl rfl rfl) (Ci 0.9) 11.2 2.6 2.8)
  case eS=>exact(HP (k:=4) ["word"] ["kinds"] [3] nd rfl rfl (λ_=>B5 (osc:=AN Mc) (on:=S5) 1.2 rfl rfl rfl) (Ci (F0 (r:=Gd K) Hu 4.2 (FH AG) HH)) (λC s H fp=>CB (i:=0) xP rfl 1.7 1.4) (λC s H fp=>Qn (Ae (r:=Dz K true) Mb 0.9 1.6 1.3)) (λC s H fp=>pv 0))
  case eN=>exact(EX ["name"] [] [] (λ_=>B5 (osc:=AN Mc) (on:=S5) 1.2 rfl rfl rfl) (Ci 1.6) (λC s H fp=>CB (i:=0) ZV rfl 1.7 1.4) 2.6 2.8)
  exists let b:=_;let c:=AE (A4 _ b _) a;let e:=AE _ c;let f:=AE _ e;let g:=_;let h:=Ge (A4 _ g _) f;let i:=_;let j:=A4 _ i _;let k:=AE _ j;let l:=Ge (A4 _ k _) h;AE _ l _ _ _
  obtain⟨vs,hvs,hpr⟩:=id hR;have vl:=Yi hpr;have ul:=Yi hN;have gle:=g.le;have few:=gn.few;refine⟨Z,l,Y,⟨_,SqL.of hvs⟩,K3 (Ck (xs:=vs)) 0.0 (λv hv=>?_) (λH' s'=>SqL.of (s' _ _ hvs)) λlw H1 hlw s1 EG=>?_⟩
  ·obtain⟨j,hj⟩:=HR hv;obtain⟨r,_,t,u,e,h1,_⟩:=BM hpr hj;exact⟨t,_,_,e,h1⟩
  rw[RC hpr]at EG;have A6:=SqL.of (K:=K) (s1 _ _ hw.at_);let CU:SW:=λσ' H'=>∃ x4:OV,σ'=[↥(.ref l),↥(.ref ln),↥(.ref a),↥(.ref lw),x4,none,none,none]/\AA H H'/\H' lw≈(.lst 10.7)/\∀ x y,c=.tie x y->x∈rows.map 0.5/\y∈rows.map 0.5;refine⟨CU,?_,?_⟩
  ·refine⟨Z,a,_,_,Z,Y,A6,BE (k:=0) (DQ c),Y,Z,?_⟩;rw[B3];have no:(∀ x y,c≠.tie x y)->¬ Bv c="tie":=λh=>by
    cases c with
    | tie x y=>exact absurd rfl (h x y)
    | kind x Bn=>exact ZX
    | name x n=>exact(by rfl':¬ (("name":Str)="tie"))
    | deed x d m=>exact(by rfl':¬ (("deed":Str)="tie"))
   by_cases ct:∃ x y,c=.tie x y
   ·obtain⟨x,y,rfl⟩:=ct;rw[Jb (show Bv (.tie x y)="tie" from rfl)];refine AY ⟨Z,Z,a,Z,A6,λp hp=>?_⟩;have s2:AA H1 (upd H1 p (.lst (BQ ((A1 (.tie x y)).map V.str) (↥1) none))):=AJ hp;have h2:(upd H1 p (.lst (BQ ((A1 (.tie x y)).map V.str) (↥1) none))) p≈(.lst (([x,y]:LS).map V.str)):=by
     rw[uS];exact congrArg 12.6 (RA (A1 (.tie x y)) 1)
    generalize upd H1 p (.lst (BQ ((A1 (.tie x y)).map V.str) (↥1) none))=H2 at s2 h2 ⊢;have D8:=s2 _ _ EG;refine⟨p,Y,⟨_,SqL.of h2⟩,Q_ (Ck (xs:=([x,y]:LS).map V.str)) (sL 7.9) (W3 13.9) (λv=>v) (λH' s'=>SqL.of (s' _ _ h2)) ?_ ?_ λls H3 hls s3 BA=>?_⟩
    ·intro v H' R s' hv hR;obtain⟨z,_,rfl⟩:=Yd.mp hv;refine⟨Z,Z,lw,Z,.inl (SqL.of (s' _ _ D8)),Y,JG _,Z,?_⟩;rw[show(if true=true then !Bh (V.str z) 10.7 else Bh (V.str z) 10.7)=W3 13.9 (.str z)from by rw[if_pos rfl,FD];rfl];exact hR H' (AA.refl _)
    ·intro v H' R s' hv _ hR;exact⟨Z,hR H' (AA.refl _)⟩
    ·rw[tZ]at BA;have A_:=s1.trans (s2.trans s3);have say:∀ z t,Rb rows x y z->H3 t=none\/True->∀ H',AA H3 H'->H' t≈(.tup [.str "NoKind",.str z])->Q (.ref t) H':=λz t lk _ H' s' e=>q (↥(.kin (.noK z))) _ _ (A_.trans s') (.lack rfl lk) ⟨t,Y,e⟩;have wx:∀ z∈([x,y]:LS),AM z=true:=λz hz=>by
      rcases Yv.mp hz with rfl | hz
      ·exact fc.1
      ·rw[Yf.mp hz];exact fc.2
     refine⟨Z,BN _,λl0 Dj=>?_⟩;have s4:AA H3 (upd H3 l0 (.lst [])):=AJ Dj;have h4:(upd H3 l0 (.lst [])) l0≈(.lst []):=uS;generalize upd H3 l0 (.lst [])=H4 at s4 h4 ⊢;have Bt:=s4 _ _ BA;generalize ez:(([x,y]:LS).filter λz=>!decide (z∈rows.map 0.5))=zs at Bt BA;refine⟨.list (zs.map PySem.W.Dat.str),.list [],.list (SqL.of Bt) (Gm _),.list (SqL.of h4) .nil,Qe λz hz=>?_,Y,Z,?_⟩
     ·rw[<- ez]at hz;exact wx z (LO.mp hz).1
     have lk:∀ z,zs[0]?≈z->Rb rows x y z:=λz hz=>by
      rw[<- ez,Rr]at hz;by_cases hx:x∈rows.map 0.5
      ·rw[Jb hx]at hz;rw[if_neg 0.2,Rr]at hz;by_cases hy:y∈rows.map 0.5
       ·rw[Jb hy]at hz;cases hz
       ·rw[Jc hy]at hz;exact .inr ⟨hx,hy,(Yt hz).symm⟩
      ·rw[Jc hx]at hz;exact .inl ⟨hx,(Yt hz).symm⟩
     cases zs with
     | nil =>
      rw[show(!ES (.list (([]:LS).map PySem.W.Dat.str)) (.list []))=false from by rw[show ES (.list (([]:LS).map PySem.W.Dat.str)) (.list [])=true from HI _];rfl];refine AL ⟨Z,A_.trans s4,s4 _ _ (s3 _ _ D8),λx' y' e=>?_⟩;injection e with e1 e2;rw[<- e1,<- e2];have no:=List.filter_eq_nil_iff.mp ez;have ax:=no x (CT);have ay:=no y (C7 _ CT);refine⟨LR λc=>ax (by rw[Jc c];rfl),LR λc=>ay (by rw[Jc c];rfl)⟩
     | cons z bx =>
      rw[show(!ES (.list ((z :: bx).map PySem.W.Dat.str)) (.list []))=true from by rw[MO (λe=>by injection e with e;cases e)];rfl];exact AY ⟨Z,ls,_,_,Z,Y,SqL.of Bt,BE (k:=0) (ws:=z :: bx) rfl,W,λt ht=>say z t (lk z rfl) (.inr trivial) _ (s4.trans (AJ ht)) uS⟩
   ·rw[Jc (no λx y e=>ct ⟨x,y,e⟩)];exact AL ⟨none,Y,s1,EG,λx y e=>absurd ⟨x,y,e⟩ ct⟩
  rintro σ' H2 ⟨x4,rfl,s2,D8,cO⟩;have Ao:=SqL.of (K:=K) (s2 _ _ hw.at_);let Gw:SW:=λσ' H'=>∃ x4:OV,σ'=[↥(.ref l),↥(.ref ln),↥(.ref a),↥(.ref lw),x4,none,none,none]/\AA H H'/\Std rows ns c;refine⟨Gw,?_,?_⟩
  ·refine⟨Z,a,_,_,Z,Y,Ao,BE (k:=0) (DQ c),Y,Z,?_⟩;rw[B3];by_cases cd:∃ x d m,c=.deed x d m
   ·obtain⟨x,d,m,rfl⟩:=cd;rw[Jb (show Bv (.deed x d m)="deed" from rfl)];refine AY ⟨Z,a,_,_,Z,Y,Ao,BE (k:=1) (show(A1 (.deed x d m))[1]?≈x from rfl),Z,ln,Y,⟨_,SqL.of (s2 _ _ CH)⟩,K3 (Ck (xs:=us)) 0.0 (λv hv=>?_) (λH' s'=>SqL.of (s' _ _ (s2 _ _ CH))) λlh H3 hlh s3 dO=>?_⟩
    ·obtain⟨j,hj⟩:=HR hv;obtain⟨n',_,t',_,_,e,h1,_⟩:=BM (hN.mono (Bx s2)) hj;exact⟨t',_,_,e,h1⟩
    rw[UD (RG (K:=K) (hN.mono (Bx s2))),gp]at dO;refine⟨lh,Z,.inl (SqL.of dO),Y,JG _,Z,?_⟩;rw[if_pos rfl,FD];by_cases hin:x∈ns.map 0.5
    ·rw[Jb hin];exact AL ⟨x4,Y,s2.trans s3,cO,λx' d' m' e=>by injection e with e;rw[<- e];exact hin⟩
    ·rw[Jc hin];exact AY ⟨Z,a,_,_,Z,Y,SqL.of (s3 _ _ (s2 _ _ hw.at_)),BE (k:=1) (show(A1 (.deed x d m))[1]?≈x from rfl),W,λt ht=>q (↥(.bok (.noN x))) _ _ ((s2.trans s3).trans (AJ ht)) (.noN rfl hin) ⟨t,Y,uS⟩⟩
   ·have no:¬ Bv c="deed":=by
     cases c with
     | tie x y=>exact ZZ
     | kind x Bn=>exact ZW
     | name x n=>exact ZY
     | deed x d m=>exact absurd ⟨x,d,m,Y⟩ cd
    rw[Jc no];exact AL ⟨x4,Y,s2,cO,λx d m e=>absurd ⟨x,d,m,e⟩ cd⟩
  rintro σ' H3 ⟨x4',rfl,s3,st⟩;obtain⟨qg,qf,qe⟩:=yZ g fc;have fw:=UC g gn fc;have nfew:∀ n∈ns,↑n.2.2<=1000:=λn hn=>by have:=(OI g gn n hn).2.2.1;omega
  refine⟨Z,Z,Z,l,ln,a,rows,ns,us,c,Y,LA hR s3,s3 _ _ CH,hN.mono (Bx s3),hw.mono s3,fc,V,V,λr hr=>by have:=g.few r hr;omega,nfew,λt l' DX Bn H4 s4 ht dU bC TQ _ _ _=>?_⟩;have Ba:=s3.trans s4;refine⟨t,Z,AH.of ht,Y,_,Z,_,Z,Y,?_⟩;refine⟨Z,l',Z,dU,qg,qf,qe,λr v H5 s5 kd hv=>?_⟩;have By:=Ba.trans s5;cases r with
  | some e =>
   obtain⟨t2,rfl,AU⟩:=hv;exact⟨Z,Y,Z,AL ⟨Z,q (↥(.kin e)) _ _ By (.kin st kd) ⟨t2,Y,AU⟩⟩⟩
  | none =>
   cases hv;have gg:As 7.4:=by
    cases kd with
    | good g=>exact g
   have nl:↑(FQ ns c)<=1000:=by
    cases c with
    | kind x Bn=>show ↑ns<=1000;omega
    | tie x y=>show ↑ns<=1000;omega
    | name x n=>show↑(ns++[(x,n,[])])<=1000;rw[Ym];show ↑ns + 1<=1000;omega
    | deed x d m=>show↑(ns.map (Ed x d m))<=1000;rw[Ya];omega
   refine⟨Z,Y,Z,AY ⟨Z,Z,l',DX,Cq rows c,(FQ ns c).map nX,Bn,Y,LA dU s5,gg,s5 _ _ bC,RG (TQ.mono (Bx s5)),lT fw,by rw[Ya];exact nl,λr v H6 s6 bd hv=>⟨Z,?_⟩⟩⟩;have Dy:=By.trans s6;cases r with
   | none=>exact q none _ _ Dy (.fine st kd bd) hv
   | some d =>
    obtain⟨t2,rfl,AU⟩:=hv;exact q (↥(.bok d)) _ _ Dy (.bok st kd bd) ⟨t2,Y,by rw[AU,<- wL];rfl⟩
def Pd(n:AX):Dt:=.tuple [.str n.1,.int ((n.2.1:Nat):Int),.tuple (n.2.2.map Pb)]
theorem XQ{K:Fg}{H:Hp}:∀ {ns:List AX}{us:LV},Df H ns us->BH K H us (ns.map Pd)
 | _,_,.nil=>.nil
 | _,_,.cons r t=>by
  obtain⟨a,tp,vs,rfl,h1,h2,h3⟩:=r;exact .cons (.tuple (AH.of h1) (.cons (.str _) (.cons (.int _) (.cons (.tuple (AH.of h2) (g8 h3)) .nil)))) (XQ t)
def wg(k:Nat){p:LS×Str}(hc:∀ u∈p.1,AM u=true)(hm:AM p.2=true):W.kqdOk (k + 2) (Pb p)=true:=by
 show(W.kqdOk (k + 1) (Ef p.1)&&(W.kqdOk (k + 1) (.str p.2)&&true))=true;rw[yL k hc,QT (k + 1) hm];rfl
def j9(k:Nat){ns:List AX}(h:N8 ns):(ns.map Pd).all (W.kqdOk (k + 4))=true:=by
 rw[Cb];intro z hz;obtain⟨n,hn,rfl⟩:=Yd.mp hz;obtain⟨a,b,c,d⟩:=h n hn;have e:(n.2.2.map Pb).all (W.kqdOk (k + 2))=true:=by
  rw[Cb];intro y hy;obtain⟨p,hp,rfl⟩:=Yd.mp hy;exact wg k (d p hp).2.1 (d p hp).2.2
 show(W.kqdOk (k + 3) (.str n.1)&&(W.kqdOk (k + 3) (.int ((n.2.1:Nat):Int))&&((n.2.2.map Pb).all (W.kqdOk (k + 2))&&true)))=true;rw[QT (k + 3) a,e,show W.kqdOk (k + 3) (.int ((n.2.1:Nat):Int))=true from rfl];rfl
def Yau{c:Prop}[Decidable c]{Bo Re:Hp->Prop}{Z:Prop}{H4:Hp}(hb:∀ H',AA H4 H'->Bo H')(hz:(∀ H',AA H4 H'->Bo H')->Z):if c then(if true=true then Bo H4 else Re H4)else Z:=by
 split
 ·exact hb H4 (AA.refl _)
 ·exact hz hb
def eX{p:μ}{n:Nat}{js:LN}{te:TE}{σ:St}{Q:VK}{H1:Hp}{tl:St}{B:Str->Prop}(hp:∃ o,H1 p≈o/\Hh o)(hn:n<=1000)(hσ:Kc 1 js σ=none :: tl)
  (he:∀(v:V) (H':Hp) (R:VK),Drawn p H1 H'->(∀ x Av,Drawn p H' Av->B x->R (.str x) Av)->te (↥v :: tl) H' R)
  (hd:∀(D:μ) (xs:LS) (H':Hp),H1 D=none->Drawn p H1 H'->H' D≈(.lst 14.1)->↑xs=n->(∀ x∈xs,B x)->Q (.ref D) H'):Ai 1 js (DJ 0) QM te σ Q (R7 0 n) H1:=by
 obtain⟨o0,Nk,TH⟩:=hp;let Bf:μ->Nat->LV->St->Hp->Prop:=λD i ys σ' H'=>Drawn p H1 H'/\H' D≈(.lst ys)/\∃(xs:LS) (o:OV),ys=xs.map V.str/\↑xs=i/\(∀ x∈xs,B x)/\σ'=o :: tl;refine MX OO (by rw[J0];exact sL 0.0) Bf
  (λD hD=>⟨(Drawn.refl ⟨o0,Nk,TH⟩).new hD,uS,[],none,Y,Y,(λx h=>nomatch h),hσ⟩) (λD i ys σ' H' _ h0=>by obtain⟨_,_,xs,_,e,el,_⟩:=h0;exact⟨trivial,by rw[e,Ya];omega⟩) ?_ ?_
 ·rintro D i v ys σ' H' hD hi ⟨d,hl,xs,o,rfl,rfl,hb,rfl⟩;have pD:p≠D:=AI Nk hD;refine he v H' _ d λx Av d2 wx=>⟨d2.keep _ _ (Yz pD) hl,(d.trans d2).sub (o':=.lst []) (q:=D) (λb o hb e=>by rw[AD hb];exact e) hD pD,uS,xs++[x],↥v,by rw[B6];rfl,by simp,λy hy=>?_,Y⟩
  rcases Yo.mp hy with z | z
  ·exact hb y z
  ·rw[Yf.mp z];exact wx
 ·rintro D ys σ' H' hD ⟨d,hl,xs,o,rfl,hx,hb,rfl⟩;rw[J0]at hx;exact hd D xs H' hD d hl hx hb
inductive Wx(vs:LV)(H:Hp)(Q:VK)(AO:XK):Prop
 | mk:∀(p a:μ) (ws:LS),vs=[.ref p,.ref a]->p≠a->(∃ o,H p≈o/\Hh o)->H a≈(.lst 1.8)->Qr ws->↑ws<=24->(∀ x H',Drawn p H H'->AM x=true->Q (.str x) H')->Wx vs H Q AO
inductive XX(vs:LV)(H:Hp)(Q:VK)(AO:XK):Prop
 | mk:∀(p l ln:μ) (rows:List Row) (ns:List AX) (us:LV),vs=[.ref p,.ref l,.ref ln]->(∃ o,H p≈o/\Hh o)->p≠l->p≠ln->Ep H l rows->As rows->H ln≈(.lst us)->Df H ns us->C6 rows ns->(∀ x c H',Drawn p H H'->Eg c->Fo x (A1 c)->Q (.str x) H')->XX vs H Q AO
def tf(a b:Str):(("tie ":Str)++a++" ")++b=Builtin.Str.glued " " (["tie",a,b]:LS):=by
 rw[OJ];show _=(((("tie":Str)++" ")++a)++" ")++b;rw[show(("tie":Str)++" ")="tie " by rfl']
def Yef:Am ["pot","words"] ["pot","words"] (AN Uh):=by nofun
def yS(F:Def K mg "_law_pick" Uh ["pot","words"] f fd)(len:mg "len"=none)(DT:Def K mg "_law_take" MZ ["pot","many"] fT fdT)(GT:⋯ 1 fT fdT ["pot","many"] OB)
  (DW:Def K mg "_law_word" HN ["pot","words"] fW fdW) (GW:⋯ 2 fW fdW ["pot","words"] Tu):⋯ 3 f fd ["pot","words"] Wx:=by
 nomatch F.fn.ok Yef
 ·obtain⟨p,a,ws,rfl,_⟩:=h;rfl
 ·obtain⟨p,a,ws,rfl,pa,⟨o,hp,ho⟩,ha,wok,wl,q⟩:=h;have hu:=hr.units;have Ax:AZ 1 _:=hr.mono 0.2
  ac_nf
  refine'⟨_,(pS (AR (PW.pt (Jm (Ae (Tj hu) 1.6 (B4 AB) (Ad _)) (Kx (Ae BS 9.7 AG (Ad _))))) (AF (AW (Ag DW GW hr (pC 0.9 3.1)))) AS)
   (AF (AW (Ac (r:=A0 K) Au 1.6 (Ag DT GT Ax (pC 0.9 (pC (A9 C5 0.8 len Yw 3.1) AB))) 0.4)))),?_⟩
  exists let b:=_;AE (A4 _ b _) a _ _ _
  refine⟨_,rfl,BN _,λl0 Dj=>?_⟩;have s1:AA H (upd H l0 (.lst [])):=AJ Dj;have h1:(upd H l0 (.lst [])) l0≈(.lst []):=uS;generalize upd H l0 (.lst [])=H1 at s1 h1 ⊢;have d1:Drawn p H H1:=(Drawn.refl ⟨o,hp,ho⟩).same s1;have WM:=s1 _ _ ha;refine⟨.list 11.6,.list [],.list (SqL.of WM) (Gm _),.list (SqL.of h1) .nil,Qe wok.word,rfl,_,rfl,BO (λz=>?_) (λz=>?_)⟩
  ·exact AY ⟨_,rfl,_,rfl,p,a,ws,rfl,pa,d1.pot,WM,wok,wl,λx H' d wx _=>q x H' (d1.trans d) wx⟩
  have ne:ws≠[]:=λc=>z (by rw[c];exact HI _);have wp:0<↑ws:=Oo.mpr ne;refine⟨Z,p,15,o,Y,s1 _ _ hp,ho,Q,Q,λv o2 v0 v1 GV=>⟨Y,Z,?_⟩⟩;have d2:=d1.trans (Drawn.upd (p:=p) (H:=H1) GV);have FP:(upd H1 p o2) p≈o2:=uS;have TM:(upd H1 p o2) a≈(.lst 1.8):=by rw[AD (Yz pa)];exact WM
  generalize upd H1 p o2=H2 at d2 FP TM ⊢;refine BO (λ_=>?_) (λ_=>?_)
  ·exact⟨Z,Z,p,a,ws,Y,pa,⟨o2,FP,GV⟩,TM,wok,wl,λx H' d wx _=>q x H' (d2.trans d) wx⟩
  ·refine⟨Z,Z,Z,a,Z,.inl (SqL.of TM),p,_,o2,Y,FP,GV,by rw[Ya];omega,by rw[Ya];omega,λv o3 v0 v1 JS=>?_⟩;have d3:Drawn p H2 (upd H2 p o3):=Drawn.upd JS;obtain⟨x,hx,hat⟩:=uC (ws:=ws) v0 v1;exact⟨a,_,_,Z,Y,SqL.of (d3.keep _ _ (Yz pa) TM),hat,q x _ (d2.trans d3) (wok.word x hx)⟩
abbrev RZ:LS:=["pot","rows","names","kinds","words","way","again","ups","word","places","pairs","deed"]
abbrev Rg:LS:=["pot","rows","names"]
def ka:Am RZ Rg (AN LD):=by nofun
def lF:(["k","pot","kinds"]:LS).Nodup:=by rfl'
set_option maxHeartbeats 8000000 in
def zd(F:Def K mg "_law_change_row" LD Rg f fd)(len:mg "len"=none)(range:mg "range"=none)(int:mg "int"=none)(str:mg "str"=none)(DT:Def K mg "_law_take" MZ ["pot","many"] fT fdT)(GT:⋯ 1 fT fdT ["pot","many"] OB)
  (DW:Def K mg "_law_word" HN ["pot","words"] fW fdW) (GW:⋯ 2 fW fdW ["pot","words"] Tu) (DP:Def K mg "_law_pick" Uh ["pot","words"] fP fdP) (GP:⋯ 3 fP fdP ["pot","words"] Wx)
  (DK:Def K mg "_law_kind_row" OX ["word","ups"] fK fdK) (GK:⋯ 1 fK fdK ["word","ups"] (T9 K)) (DD:Def K mg "_law_deed_row" OW ["word","deed","made"] fD fdD) (GD:⋯ 1 fD fdD ["word","deed","made"] (Xa K)):⋯ 4 f fd Rg XX:=by
 nomatch F.fn.ok ka
 ·obtain⟨p,l,ln,rows,ns,us,rfl,_⟩:=h;rfl
 ·obtain⟨p,l,ln,rows,ns,us,rfl,⟨o,hp,ho⟩,pl,pln,hR,g,CH,hN,gn,q⟩:=h;have nd:=ka.nd;have hu:=hr.units;have Ax:AZ 1 _:=hr.mono 0.2;have A7:AZ 2 _:=hr.mono 0.2
  ac_nf
  refine'⟨_,(pS (Er (i:=3) nd rfl 1.4 ?eK)
   (pS ?eW
   (pS (sE 5 nd 9.7)
   (pS (sE 6 nd (DV BS 9.7 AG (Ad _)))
   (pS (AR (Ae L_ 7.5 AG (Ad _)) (pS ?eU
   (pS (AR (Cg (pv 6)) (AF (AW (Ag DK GK Ax (pC (Ag DP GP hr (pC 0.9 3.3)) (pC (pv 7) AB))))) AS)
   (AF (AW (Ag DK GK Ax (pC (Ag DW GW A7 (pC 0.9 3.3)) (pC (pv 7) AB))))))) AS)
   (pS (AR (Ae BS 7.5 AG (Ad _)) (AF (AW (Ar Dr (Ar Dr (Ar Dr Ah (Ag DP GP hr (pC 0.9 3.3))) Ah) (Ag DP GP hr (pC 0.9 3.3))))) AS)
   (pS (AR (PW.pt (Jm (Ae BS 7.5 AG (Ad _)) (Kx (Ae (Tj hu) 4.2 (B4 AB) (Ad _))))) (pS (sE 8 nd (Ag DW GW A7 (pC 0.9 7.6)))
   (Fz (AR (Cg (pv 6)) (AF (sE 8 nd (Ag DP GP hr (pC 0.9 7.6)))) AS)
   (AF (AW (Ar Dr (Ar Dr (Ar Dr Ah (pv 8)) Ah) (EE jh 0.8 str PyProof.Rows.boot_str (pC (Ar Ku AG 9.7) AB))))))) AS)
   (pS (MJ (Ac (r:=A0 K) Au 4.2 (Ag DT GT Ax (pC 0.9 (pC (A9 C5 0.8 len Yw 2.2) AB))) 0.4) (CO rfl (gC (gE 8 nd) (gC (gE 9 nd) (gC (gE 10 nd) CQ)))))
   (pS ?eD
   (AF (AW (Ag DD GD Ax (pC (Ag DP GP hr (pC 0.9 (pC (B4 (pC (pv 8) AB)) AB))) (pC (pv 11) (pC (Ag DP GP hr (pC 0.9 3.3)) AB))))))))))))))),?_⟩
  case eK=>exact(EX ["row"] [] [] 8.2 (Ci 1.6) 11.2 2.6 2.8)
  case eW=>exact(HP (k:=4) ["name"] [] [] nd rfl rfl 8.2 (Ci 4.2) (λC s H fp=>CB (i:=0) ZV rfl 1.7 1.4) 2.6 2.8)
  case eU=>exact(HP (k:=7) ["k"] ["pot","kinds"] [0,3] nd rfl rfl 8.2 (MY 0.8 range (pC 9.7 AB)) (λC s H fp=>CB (i:=0) lF rfl 1.7 1.4) 2.6 (λC s H fp=>Ag DP GP hr (pC 1.6 2.2)))
  case eD=>exact(HP (k:=11) ["k"] ["pot","kinds"] [0,3] nd rfl rfl 8.2 (MY 0.8 range (pC (Ar Ku (pv 9) (EE YB 0.8 int Rx (pC (pv 6) AB))) AB)) (λC s H fp=>CB (i:=0) lF rfl 1.7 1.4) 2.6 (λC s H fp=>Ag DP GP hr (pC 1.6 2.2)))
  exists let b:=AE _ a;let c:=AE _ b;let e:=_;let f:=_;let g:=Ge (A4 _ f _) e;let h:=AE _ g;let i:=AE (A4 _ h _) c;let j:=_;let k:=AE (A4 _ j _) i;let l:=_;let m:=_;let n:=AE (A4 _ m _) l;let o:=AE _ n;let p:=AE (A4 _ o _) k;let q:=AE _ p;let r:=AE _ q;let s:=AE _ r;AE _ s _ _ _
  obtain⟨vs,hvs,hpr⟩:=id hR;have vl:=Yi hpr;have ul:=Yi hN;have gle:=g.le;have few:=gn.few;have wk:Qr 13.9:=⟨US g,g.nd⟩;have fn:=OI g gn;have wn:Qr (ns.map 0.5):=⟨λx hx=>by
   obtain⟨n,hn,rfl⟩:=Yd.mp hx;exact(fn n hn).1,gn.nd⟩
  have kl:↑13.9<=24:=by rw[Ya];exact gle
  have nl:↑(ns.map 0.5)<=24:=by rw[Ya];omega
  refine⟨Z,l,Y,⟨_,SqL.of hvs⟩,K3 (Ck (xs:=vs)) 0.0 (λv hv=>?_) (λH' s'=>SqL.of (s' _ _ hvs)) λlw H1 hlw s1 EG=>?_⟩
  ·obtain⟨j,hj⟩:=HR hv;obtain⟨r,_,t,u,e,h1,_⟩:=BM hpr hj;exact⟨t,_,_,e,h1⟩
  rw[RC hpr]at EG;refine⟨Z,ln,Y,⟨_,SqL.of (s1 _ _ CH)⟩,K3 (Ck (xs:=us)) 0.0 (λv hv=>?_) (λH' s'=>SqL.of (s' _ _ (s1 _ _ CH))) λlx H2 hlx s2 Ni=>?_⟩
  ·obtain⟨j,hj⟩:=HR hv;obtain⟨n',_,t',_,_,e,h1,_⟩:=BM (hN.mono (Bx s1)) hj;exact⟨t',_,_,e,h1⟩
  rw[UD (RG (K:=K) (hN.mono (Bx s1))),gp]at Ni;have Aw:=s1.trans s2;have d2:Drawn p H H2:=(Drawn.refl ⟨o,hp,ho⟩).same Aw;have D8:=s2 _ _ EG;have plw:p≠lw:=AI hp hlw;have plx:p≠lx:=AI (s1 _ _ hp) hlx;have FP:=Aw _ _ hp;refine⟨Z,p,9,o,Y,FP,ho,Q,Q,λway o3 w0 w9 JS=>?_⟩;have d_:Drawn p H2 (upd H2 p o3):=Drawn.upd JS;have Ha:(upd H2 p o3) p≈o3:=uS;generalize upd H2 p o3=H3 at d_ Ha ⊢;refine⟨Z,p,16,o3,Y,Ha,JS,Q,Q,λag o4 _ _ Ln=>⟨Y,?_⟩⟩;have Tb:=d_.trans (Drawn.upd (p:=p) (H:=H3) Ln);have HZ:(upd H3 p o4) p≈o4:=uS;generalize upd H3 p o4=H4 at Tb HZ ⊢;generalize decide (V.int ag=V.int 0)=b;have QB:=d2.trans Tb;have Ig:=Tb.keep _ _ (Yz plw) D8;have dE:=Tb.keep _ _ (Yz plx) Ni;refine⟨Z,_,Z,Y,Z,BO (λ_=>?_) (λ_=>?_)⟩
  ·-- one more kind
   refine⟨Z,p,3,o4,Y,HZ,Ln,Q,Q,λm o5 m0 m3 S_=>?_⟩;have Wc:Drawn p H4 (upd H4 p o5):=Drawn.upd S_;have HY:(upd H4 p o5) p≈o5:=uS;generalize upd H4 p o5=H5 at Wc HY ⊢;obtain⟨k,rfl⟩:=Zu m0;have Pk:=Wc.keep _ _ (Yz plw) Ig;refine⟨k,Y,V,V,eX (p:=p) (n:=k) (B:=λx=>AM x=true) ⟨o5,HY,S_⟩ 0.0 rfl (λv H' R d hR=>⟨Z,Z,p,lw,Z,plw,d.pot,d.keep _ _ (Yz plw) Pk,wk,kl,λx Av d2 wx=>hR x Av d2 wx⟩) λD xs H6 hD Ik Co xl xw=>?_⟩;have Wd:=QB.trans (Wc.trans Ik);have JR:=Ik.keep _ _ (Yz plw) Pk;have pD:p≠D:=AI HY hD;have fin:∀(x:Str) (H7:Hp),Drawn p H6 H7->AM x=true->T9 K [.str x,.ref D] H7 Q E0:=λx H7 d7 wx=>⟨true,x,D,xs,Y,SqL.of (d7.keep _ _ (Yz pD) Co),(DS wx).2,V,λu hu=>(DS (xw u hu)).2,λH8 s8=>by
    have fc:Eg (.kind x xs):=⟨wx,V,xw⟩;refine q (FA x xs) (.kind x xs) H8 ((Wd.trans d7).same s8) fc ?_;rw[Xr (x,xs)];exact(OH fc).1⟩
   refine⟨Z,Z,?_⟩;cases b with
   | true=>exact AY ⟨Z,Z,p,lw,Z,plw,Ik.pot,JR,wk,kl,λx H7 d7 wx=>⟨Z,fin x H7 d7 wx⟩⟩
   | false=>exact AL ⟨Z,Z,p,lw,Z,plw,Ik.pot,JR,wk,kl,λx H7 d7 wx _=>⟨Z,fin x H7 d7 wx⟩⟩
  refine⟨Z,Y,Z,BO (λ_=>?_) (λ_=>?_)⟩
  ·-- a tie
   refine⟨Z,Z,p,lw,Z,plw,⟨o4,HZ,Ln⟩,Ig,wk,kl,λx H5 d5 wx=>?_⟩;have xl:=(DS wx).2;have e1:(" ":Str).length=1:=by rfl'
   have ek:("tie ":Str).length=4:=by rfl'
   refine⟨_,Z,Y,sL 0.0,_,Z,Y,sL 7.1,?_⟩;refine⟨Z,Z,p,lw,Z,plw,d5.pot,d5.keep _ _ (Yz plw) Ig,wk,kl,λy H6 d6 wy=>?_⟩;have yl:=(DS wy).2;refine⟨_,Z,Y,sL (by rw[strLen_append,strLen_append];omega),?_⟩;have fc:Eg (.tie x y):=⟨wx,wy⟩;refine q _ (.tie x y) H6 (QB.trans (d5.trans d6)) fc ?_;rw[tf];exact(OH fc).1
  refine⟨Z,Y,Z,Yau (H4:=H4) (λH5 s5=>?_) (λnm=>?_)⟩
  ·-- a name
   have N1:=QB.same s5;refine⟨Z,Z,p,lx,Z,plx,N1.pot,s5 _ _ dE,wn,nl,λx H6 d6 wx _=>?_⟩;let CU:SW:=λσ' H'=>∃ x:Str,σ'=[↥(.ref p),↥(.ref l),↥(.ref ln),↥(.ref lw),↥(.ref lx),↥(.int way),↥(.bl b),none,↥(.str x),none,none,none]/\Drawn p H H'/\AM x=true;refine⟨CU,?_,?_⟩
   ·refine⟨Z,Z,?_⟩;cases b with
    | true=>exact AY ⟨Z,Z,p,lx,Z,plx,d6.pot,d6.keep _ _ (Yz plx) (s5 _ _ dE),wn,nl,λy H7 d7 wy=>⟨y,Y,(N1.trans d6).trans d7,wy⟩⟩
    | false=>exact AL ⟨x,Y,N1.trans d6,wx⟩
   ·rintro σ' H7 ⟨y,rfl,d7,wy⟩;obtain⟨o7,Fi,Kg⟩:=d7.pot;have yl:=(DS wy).2;have e1:(" ":Str).length=1:=by rfl'
    have ek:("name ":Str).length=5:=by rfl'
    refine⟨Z,_,Z,Y,sL 0.0,_,Z,Y,sL 7.1,?_⟩;refine⟨Z,p,3,o7,Y,Fi,Kg,Q,Q,λv o8 v0 v3 WG=>?_⟩;obtain⟨k,rfl⟩:=Zu v0;have ei:(1:Int) + (k:Int)=((k + 1:Nat):Int):=by omega
    have nk:=XH (n:=k + 1) 0.0 0.0;refine⟨_,Z,Y,1 + (k:Int),Y,Qi 0.0,_,Z,Y,sL (by rw[strLen_append,strLen_append,ei];omega),?_⟩;have fc:Eg (.name y (k + 1)):=⟨wy,V,V⟩;refine q _ (.name y (k + 1)) _ (d7.trans (Drawn.upd WG)) fc ?_;rw[ei];show Fo (Ek (y,k + 1,[])) _;rw[Xt];exact(OH fc).1
  refine⟨Z,BN _,λl0 Dj=>?_⟩;have s5:AA H4 (upd H4 l0 (.lst [])):=AJ Dj;have h5:(upd H4 l0 (.lst [])) l0≈(.lst []):=uS;have V1:=nm (upd H4 l0 (.lst [])) s5;generalize upd H4 l0 (.lst [])=H5 at s5 h5 V1 ⊢;have N1:=QB.same s5;have NJ:=s5 _ _ (QB.keep _ _ (Yz pln) CH);have dZ:Df H5 ns us:=hN.mono λb xs e=>Drawn.tup N1 hp ho e;have HY:=s5 _ _ HZ;refine⟨.list (ns.map Pd),.list [],.list (SqL.of NJ) (XQ dZ),.list (SqL.of h5) .nil,(by rw[W.kqdOk];exact j9 4 fn),Y,Z,BO (λ_=>V1) (λz=>?_)⟩;clear V1 nm;have ne:ns≠[]:=λc=>z (by rw[c];exact HI _);have np:0<↑ns:=Oo.mpr ne;refine⟨Z,Z,Z,ln,Z,.inl (SqL.of NJ),p,_,o4,Y,HY,Ln,V,V,λv o6 v0 v1 Kh=>?_⟩;have Ik:Drawn p H5 (upd H5 p o6):=Drawn.upd Kh;have Lm:(upd H5 p o6) p≈o6:=uS;generalize upd H5 p o6=H6 at Ik Lm ⊢;have Wd:=N1.trans Ik;obtain⟨k,rfl⟩:=Zu v0;have hk:us[k]?≈us[k]:=Yu 0.0;obtain⟨n,hn,t,tp,Lc,e',ht,htp,hP⟩:=BM dZ hk;have Ec:=Drawn.tup Ik HY Ln ht;have EJ:=gn.each n (Yc hn);have n1:=EJ.one;have n4:=EJ.four;have hat:Cr us (k:Int)≈(.ref t):=by rw[<- e'];exact EA hk
  refine⟨ln,_,_,Z,Y,SqL.of (Ik.keep _ _ (Yz pln) NJ),hat,t,Z,AH.of Ec,Y,_,Z,_,Z,_,Z,Y,?_⟩;obtain⟨m,em,m1,m5⟩:∃ m:Nat,((n.2.1:Nat):Int) + (if b=true then(1:Int)else 0)=(m:Int)/\1<=m/\m<=5:=by
   cases b with
   | true=>exact⟨n.2.1 + 1,by rw[if_pos rfl];omega,V,V⟩
   | false=>exact⟨n.2.1,by rw[if_neg 0.2];omega,V,V⟩
  have JR:=Ik.keep _ _ (Yz plw) (s5 _ _ Ig);refine⟨Z,Z,.inr ⟨b,Y,_,Z,Y,m,congrArg (λz=>[V.int z]) em,V,V,eX (p:=p) (n:=m) (B:=λx=>AM x=true) ⟨o6,Lm,Kh⟩ 0.0 rfl (λv H' R d hR=>⟨Z,Z,p,lw,Z,plw,d.pot,d.keep _ _ (Yz plw) JR,wk,kl,λx Av d2 wx=>hR x Av d2 wx⟩) λD xs H7 hD Wb Fj xl xw=>?_⟩⟩;have pD:p≠D:=AI Lm hD;have qt:=Wd.trans Wb;have p6:=Wb.keep _ _ (Yz plw) JR;refine⟨Z,Z,O,λl1 A6=>?_⟩;have s8:AA H7 (upd H7 l1 (.lst [.str n.1])):=AJ A6;have h8:(upd H7 l1 (.lst [.str n.1])) l1≈(.lst (([n.1]:LS).map V.str)):=uS;obtain⟨o7,Fi,Kg⟩:=Wb.pot;have oz:p≠l1:=AI Fi A6;generalize upd H7 l1 (.lst [.str n.1])=H8 at s8 h8 ⊢;have wo:Qr [n.1]:=⟨λx hx=>by rw[Yf.mp hx];exact EJ.word,ID.mpr ⟨List.not_mem_nil,.nil⟩⟩;refine⟨p,l1,[n.1],Y,oz,⟨o7,s8 _ _ Fi,Kg⟩,h8,wo,(by show 1<=24;decide),λx H9 d9 wx=>?_⟩;have qr:=(qt.same s8).trans d9;refine⟨Z,Z,Z,p,lw,Z,plw,d9.pot,d9.keep _ _ (Yz plw) (s8 _ _ p6),wk,kl,λy BL eA wy=>?_⟩;refine⟨true,x,y,D,xs,Y,SqL.of (eA.keep _ _ (Yz pD) (d9.keep _ _ (Yz pD) (s8 _ _ Fj))),(DS wx).2,(DS wy).2,V,λu hu=>(DS (xw u hu)).2,λKH EZ=>?_⟩;have fc:Eg (.deed x xs y):=⟨wx,V,V,xw,wy⟩;refine q _ (.deed x xs y) KH ((qr.trans eA).same EZ) fc ?_;rw[X3];exact(OH fc).1
def Hv{a b:Str}(ha:B7 a)(hb:B7 b):B7 (a++b):=by
 unfold B7 PyData.strOk at *;show((a.cps++b.cps).all _)=true;rw[Array.all_append,ha,hb];rfl
theorem Xg:∀ {us:LS}{r:Str},B7 r->(∀ u∈us,B7 u)->B7 (DZ r us)
 | [],r,h,_=>h
 | u :: us,r,h,hu=>Xg (us:=us) (Hv (Hv h (by unfold B7;rfl')) (hu u (CT))) λv hv=>hu v (C7 _ hv)
def y4{n:Nat}(h1:1<=n)(h4:n<=4):B7 (Iu n):=by
 have h:n=1\/n=2\/n=3\/n=4:=by omega
 unfold B7
 rcases h with rfl | rfl | rfl | rfl <;> rfl'
def uX{rows:List Row}{ns:List AX}(g:As rows)(h:C6 rows ns):∀ y∈Iw rows ns,B7 y:=λy hy=>by
 have gw:∀ x∈rows.map 0.5,B7 x:=λx hx=>HJ (US g x hx);have c1:∀ {t:Str},PyData.strOk t=true->B7 t:=λz=>z
 rcases Yo.mp hy with z | z
 ·obtain⟨r,hr,rfl⟩:=Yd.mp z;have hx:=gw r.1 (Yd.mpr ⟨r,hr,Y⟩);show B7 (FA r.1 r.2);unfold FA;split
  ·exact Hv (c1 1.2) hx
  ·exact Xg (Hv (Hv (c1 1.2) hx) (c1 1.2)) λu hu=>gw u (g.known r hr u hu)
 ·obtain⟨n,hn,hz⟩:=List.mem_flatMap.mp z;have gn:=h.each n hn;have hx:B7 n.1:=HJ gn.word
  rcases Yv.mp hz with rfl | hz
  ·exact Hv (Hv (Hv (c1 1.2) hx) (c1 1.2)) (y4 gn.one gn.four)
  ·obtain⟨p,hp,rfl⟩:=Yd.mp hz;exact Hv (Hv (Xg (Hv (c1 1.2) hx) λu hu=>gw u ((gn.deeds.call p.1 (Yd.mpr ⟨p,hp,Y⟩)).known u hu)) (c1 1.2)) (gw _ (gn.made p hp))
def rh{l:LS}(h:∀ z∈l,B7 z):W.kqdOk 9 (.list (l.map PySem.W.Dat.str))=true:=by
 show(l.map PySem.W.Dat.str).all (W.kqdOk 8)=true;rw[Cb];intro d hd;obtain⟨x,hx,rfl⟩:=Yd.mp hd;exact h x hx
def cD:CG->Dt
 | .kin .many=>.none
 | .kin (.noK w)=>.str w
 | .kin (.twice w)=>.str w
 | .kin .ring=>.none
 | .bok .many=>.none
 | .bok (.noN w)=>.str w
 | .bok (.twice w)=>.str w
 | .bok .board=>.none
 | .bok (.noD k)=>.int k
 | .bok (.same k)=>.int k
 | .bok (.noK w)=>.str w
def kg{K:Fg}{H:Hp}:∀ d:CG,Rep K H (cF d) (cD d)
 | .kin .many=>.none
 | .kin (.noK w)=>.str w
 | .kin (.twice w)=>.str w
 | .kin .ring=>.none
 | .bok .many=>.none
 | .bok (.noN w)=>.str w
 | .bok (.twice w)=>.str w
 | .bok .board=>.none
 | .bok (.noD k)=>.int k
 | .bok (.same k)=>.int k
 | .bok (.noK w)=>.str w
def yI{rows:List Row}{ah:LS}{n:EY}{d:Cc}(h:Gb rows ah n (↥d))(o:Vj n)(w:Str)(hw:N0 d=.str w):B7 w:=by
 cases h with
 | noN _=>injection hw with hw;rw[<- hw];exact o.wo
 | twice _ _=>injection hw with hw;rw[<- hw];exact o.wo
 | bad _ _ h3 =>
  rcases h3.idx with e | e | e <;> subst e <;> cases hw
 | noK _ _ _ h4 =>
  injection hw with hw;obtain⟨p,hp,e⟩:=Yd.mp (VW h4);rw[<- hw,<- e];exact o.ma p hp
def xh{rows:List Row}{ns:List EY}{d:Cc}(h:Dk rows ns (↥d))(o:∀ n∈ns,Vj n)(w:Str)(hw:N0 d=.str w):B7 w:=by
 cases h with
 | many _=>cases hw
 | bad i n _ hi _ hn=>exact yI hn (o n (Yc hi)) w hw
def yF{rows:List Row}{e:CZ}(h:E6 rows (↥e))(o:∀ r∈rows,AM r.1=true/\∀ u∈r.2,AM u=true)(w:Str)(hw:kF e=.str w):B7 w:=by
 generalize er:some e=r at h;cases h with
 | rows h =>
  cases er;cases h with
  | size _=>cases hw
  | bad k _ _ h =>
   obtain⟨r,hr,c⟩:=h.ex;have a:=(o r (Yc hr)).1
   rcases c with⟨_,rfl⟩ | ⟨_,_,rfl⟩ | ⟨_,_,_,rfl⟩
   ·injection hw with hw;rw[<- hw];exact HJ a
   ·injection hw with hw;rw[<- hw];exact HJ a
   ·cases hw
 | ups _ h =>
  cases er;cases h with
  | bad k j h =>
   obtain⟨r,u,hr,hu,_,_,c⟩:=h.ex;have a:=(o r (Yc hr)).2 u (Yc hu)
   rcases c with⟨_,rfl⟩ | ⟨_,_,rfl⟩
   ·injection hw with hw;rw[<- hw];exact HJ a
   ·injection hw with hw;rw[<- hw];exact HJ a
 | ring _ _ _=>cases er;cases hw
 | good _=>cases er
def sM{rows:List Row}(g:As rows){c:A3}(f:Eg c):∀ r∈Cq rows c,AM r.1=true/\∀ u∈r.2,AM u=true:=by
 have one:∀ r∈rows,AM r.1=true/\∀ u∈r.2,AM u=true:=λr hr=>⟨g.word r hr,λu hu=>US g u (g.known r hr u hu)⟩;cases c with
 | kind x us =>
  intro r hr
  rcases Yo.mp hr with z | z
  ·exact one r z
  ·rw[Yf.mp z];exact⟨f.1,f.2.2⟩
 | tie x y =>
  intro r hr;obtain⟨r0,h0,rfl⟩:=Yd.mp hr;have a:=one r0 h0;split
  ·refine⟨a.1,λu hu=>?_⟩
   rcases Yo.mp hu with z | z
   ·exact a.2 u z
   ·rw[Yf.mp z];exact f.2
  ·exact a
 | name x n=>exact one
 | deed x d m=>exact one
def xi{rows:List Row}{ns:List AX}{c:A3}{d:CG}(h:Fn rows ns c (↥d))(g:As rows)(gn:C6 rows ns)(f:Eg c)(w:Str)(hw:cF d=.str w):B7 w:=by
 generalize er:some d=r at h;cases h with
 | lack e l =>
  cases er;subst e;injection hw with hw
  rcases l with⟨_,z⟩ | ⟨_,_,z⟩
  ·rw[<- hw,z];exact HJ f.1
  ·rw[<- hw,z];exact HJ f.2
 | noN e _=>cases er;subst e;injection hw with hw;rw[<- hw];exact HJ f.1
 | kin _ h=>cases er;exact yF h (sM g f) w hw
 | bok _ _ h=>cases er;exact xh h (lT (UC g gn f)) w hw
 | fine _ _ _=>cases er
def dX(i:Nat)(f:Dt):Dt:=.tuple [.str (Bu i),f]
def dT:Dt:=.tuple [.str "told",.list [.str "ok"]]
def yR:∀ i,i<15->W.kqdOk 8 (.str (Bu i))=true:=by rfl'
def Ybt:∀ d:CG,cI d<15
 | .kin .many=>(by decide:7<15)
 | .kin (.noK _)=>(by decide:0<15)
 | .kin (.twice _)=>(by decide:1<15)
 | .kin .ring=>(by decide:3<15)
 | .bok d=>wK d
def Yax{d:CG}(h:∀ w,cF d=.str w->B7 w):W.kqdOk 9 (dX (cI d) (cD d))=true:=by
 have a:=yR (cI d) (Ybt d);have b:W.kqdOk 8 (cD d)=true:=by
  cases d with
  | kin e =>
   cases e with
   | many=>rfl
   | ring=>rfl
   | noK w=>exact OC 8 (h w rfl)
   | twice w=>exact OC 8 (h w rfl)
  | bok e =>
   cases e with
   | many=>rfl
   | board=>rfl
   | noD k=>rfl
   | same k=>rfl
   | noK w=>exact OC 8 (h w rfl)
   | noN w=>exact OC 8 (h w rfl)
   | twice w=>exact OC 8 (h w rfl)
 show(W.kqdOk 8 (.str (Bu (cI d)))&&(W.kqdOk 8 (cD d)&&true))=true;rw[a,b];rfl
abbrev Pg:=List Row×List AX
def Zz(pd lp lq b:μ):Prop:=b=pd\/b=lp\/b=lq
def JM(Z:μ->Prop)(H:Hp)(h:Pg)(l ln:μ):Prop:=Ep H l h.1/\(∃ us,H ln≈(.lst us)/\Df H h.2 us)/\¬ Z l/\¬ Z ln
def QV(Z:μ->Prop)(H:Hp)(h:Pg)(v:V):Prop:=∃ t l ln:μ,v=.ref t/\H t≈(.tup [.ref l,.ref ln])/\JM Z H h l ln
def BV(C B D:μ)(Z:μ->Prop)(H:Hp)(h:Pg)(v:V):Prop:=∃ b k:μ,v=.ref b/\B_ Z C B D H b k h.1 h.2
theorem JM.mono{Z:μ->Prop}{H H':Hp}{h:Pg}{l ln:μ}(p:JM Z H h l ln)(s:AA H H'):JM Z H' h l ln:=by
 obtain⟨a,⟨us,b,c⟩,d,e⟩:=p;exact⟨LA a s,⟨us,s _ _ b,c.mono (Bx s)⟩,d,e⟩
section
variable {C B D U:μ}{Z:μ->Prop}{H H':Hp}
def JM.keepM(hM:∀ b,Z b->∃ o,H b≈o/\Mv U o)(s:∀ b o,¬ Z b->H b≈o->H' b≈o){h:Pg}{l ln:μ}(p:JM Z H h l ln):JM Z H' h l ln:=by
 obtain⟨⟨vs,a1,a2⟩,⟨us,b,c⟩,d,e⟩:=p;have tk:∀ b xs,H b≈(.tup xs)->H' b≈(.tup xs):=λb xs z=>s _ _ (Fq hM z N9) z;exact⟨⟨vs,s _ _ d a1,Paired.mapP a2 λ_ _ ⟨t,u,x,y,z⟩=>⟨t,u,x,tk _ _ y,tk _ _ z⟩⟩,⟨us,s _ _ e b,c.mono tk⟩,d,e⟩
theorem QV.keepM(hM:∀ b,Z b->∃ o,H b≈o/\Mv U o)(s:∀ b o,¬ Z b->H b≈o->H' b≈o){h:Pg}{v:V}(p:QV Z H h v):QV Z H' h v:=by
 obtain⟨t,l,ln,e,ht,pg⟩:=p;exact⟨t,l,ln,e,s _ _ (Fq hM ht N9) ht,pg.keepM hM s⟩
theorem BV.keepM(hC:U≠C)(hB:U≠B)(hD:U≠D)(hM:∀ b,Z b->∃ o,H b≈o/\Mv U o)(s:∀ b o,¬ Z b->H b≈o->H' b≈o){h:Pg}{v:V}(p:BV C B D Z H h v):BV C B D Z H' h v:=by
 obtain⟨b,k,e,bk⟩:=p;exact⟨b,k,e,bk.keepM (U:=U) (M:=Z) hC hB hD hM (λ_ z=>z) s⟩
end
structure HS(C B D U:μ)(pd lp lq:μ)(Hi H:Hp)(b l ln:μ)(pg:Pg)(hist:List Pg):Prop where
 si:AA Hi H
 fr:∀ c,Zz pd lp lq c->Hi c=none
 ex:∃ us qs,Gj U H pd b lp us/\H lq≈(.lst qs)/\Paired (BV C B D 10.8 H) hist us/\Paired (QV 10.8 H) hist qs
 bk:∃ k,B_ 10.8 C B D H b k pg.1 pg.2
 pv:JM 10.8 H pg l ln
 gd:∀ h∈pg :: hist,As h.1/\C6 h.1 h.2
 ne:lq≠lp
theorem BV.mono{C B D:μ}{Z:μ->Prop}{H H':Hp}{h:Pg}{v:V}(p:BV C B D Z H h v)(s:AA H H'):BV C B D Z H' h v:=by
 obtain⟨b,k,e,bk⟩:=p;exact⟨b,k,e,bk.mono s⟩
theorem QV.mono{Z:μ->Prop}{H H':Hp}{h:Pg}{v:V}(p:QV Z H h v)(s:AA H H'):QV Z H' h v:=by
 obtain⟨t,l,ln,e,ht,pg⟩:=p;exact⟨t,l,ln,e,s _ _ ht,pg.mono s⟩
theorem HS.mono{C B D U pd lp lq:μ}{Hi H H':Hp}{b l ln:μ}{pg:Pg}{hist:List Pg}(w:HS C B D U pd lp lq Hi H b l ln pg hist)(s:AA H H'):HS C B D U pd lp lq Hi H' b l ln pg hist:=by
 obtain⟨us,qs,a1,a2,a3,a4⟩:=w.ex;obtain⟨k,bk⟩:=w.bk;exact⟨w.si.trans s,w.fr,⟨us,qs,a1.mono s,s _ _ a2,Paired.mapP a3 λ_ _ z=>z.mono s,Paired.mapP a4 λ_ _ z=>z.mono s⟩,⟨k,bk.mono s⟩,w.pv.mono s,w.gd,w.ne⟩
theorem Paired.unsnoc{α β:Type}{F:α->β->Prop}{a:α}:∀ {l:List α}{m:List β},Paired F (l++[a]) m->∃ m' b,m=m'++[b]/\Paired F l m'/\F a b
 | [],_,.cons r .nil=>⟨[],Z,.nil,r⟩
 | x :: l,_,.cons r t=>by
  obtain⟨m',b,e,p,q⟩:=Paired.unsnoc (l:=l) t;exact⟨_ :: m',b,by rw[e];rfl,.cons r p,q⟩
def Pr(h:Pg):Dt:=.tuple [.list (h.1.map VL),.list (h.2.map Pd)]
def tI(k:Nat){rows:List Row}(g:As rows):(rows.map VL).all (W.kqdOk (k + 2))=true:=by
 rw[Cb];intro d hd;obtain⟨r,hr,rfl⟩:=Yd.mp hd;show(W.kqdOk (k + 1) (.str r.1)&&(((r.2.map PySem.W.Dat.str).all (W.kqdOk k))&&true))=true;have e:(r.2.map PySem.W.Dat.str).all (W.kqdOk k)=true:=by
  rw[Cb];intro y hy;obtain⟨x,hx,rfl⟩:=Yd.mp hy;exact QT k (y3 g hr x hx)
 rw[QT (k + 1) (g.word r hr),e];rfl
theorem i3{K:Fg}{Z:μ->Prop}{H:Hp}:∀ {hist:List Pg}{qs:LV},Paired (QV Z H) hist qs->BH K H qs (hist.map Pr)
 | _,_,.nil=>.nil
 | _,_,.cons ⟨t,l,ln,e,ht,⟨vs,a1,a2⟩,⟨us,b1,b2⟩,_⟩ r=>by
  subst e;exact .cons (.tuple (AH.of ht) (.cons (.list (SqL.of a1) (jT a2)) (.cons (.list (SqL.of b1) (XQ b2)) .nil))) (i3 r)
def yO{hist:List Pg}(h:∀ x∈hist,As x.1/\C6 x.1 x.2):W.kqdOk 9 (.list (hist.map Pr))=true:=by
 show(hist.map Pr).all (W.kqdOk 8)=true;rw[Cb];intro d hd;obtain⟨x,hx,rfl⟩:=Yd.mp hd;obtain⟨g,gn⟩:=h x hx;show(((x.1.map VL).all (W.kqdOk 6))&&(((x.2.map Pd).all (W.kqdOk 6))&&true))=true;rw[tI 4 g,j9 2 (OI g gn)];rfl
def Tf(K:Fg):Sp:=λvs H Q _=>∃(a:μ) (ns:List Int),vs=[.ref a]/\SqL K H a 9.4/\↑ns<=63/\∀ H',Q (.bl true) H'
def Ybu:∀ d:CG,cI d∈[0,1,2,3,4,5,7,8,14]
 | .kin .many=>(by decide:7∈[0,1,2,3,4,5,7,8,14])
 | .kin (.noK _)=>(by decide:0∈[0,1,2,3,4,5,7,8,14])
 | .kin (.twice _)=>(by decide:1∈[0,1,2,3,4,5,7,8,14])
 | .kin .ring=>(by decide:3∈[0,1,2,3,4,5,7,8,14])
 | .bok .many=>(by decide:7∈[0,1,2,3,4,5,7,8,14])
 | .bok (.noN _)=>(by decide:2∈[0,1,2,3,4,5,7,8,14])
 | .bok (.twice _)=>(by decide:1∈[0,1,2,3,4,5,7,8,14])
 | .bok .board=>(by decide:8∈[0,1,2,3,4,5,7,8,14])
 | .bok (.noD _)=>(by decide:4∈[0,1,2,3,4,5,7,8,14])
 | .bok (.same _)=>(by decide:5∈[0,1,2,3,4,5,7,8,14])
 | .bok (.noK _)=>(by decide:0∈[0,1,2,3,4,5,7,8,14])
inductive Act(pg:Pg)(hist:List Pg):Str->Pg->List Pg->Option Dt->Prop
 | refC {x:Str} {c:A3} {e:CG} (fc:Eg c) (rt:Fo x (A1 c)) (cd:Fn pg.1 pg.2 c (↥e)):Act pg hist x pg hist (↥(dX (cI e) (cD e)))
 | chg {x:Str} {c:A3} (fc:Eg c) (rt:Fo x (A1 c)) (cd:Fn pg.1 pg.2 c none):Act pg hist x (Cq pg.1 c,FQ pg.2 c) (hist++[pg]) none
 | noB (h:hist=[]):Act pg hist "back" pg hist (↥(dX 14 .none))
 | back {Dw:List Pg} {h:Pg} (e:hist=Dw++[h]):Act pg hist "back" h Dw none
def wb{pg CL:Pg}{hist A5:List Pg}{x:Str}{o:Option Dt}(h:Act pg hist x CL A5 o)(g:As pg.1)(gn:C6 pg.1 pg.2):W.kqdOk 9 (o.getD dT)=true:=by
 cases h with
 | refC fc rt cd=>exact Yax (xi cd g gn fc)
 | chg fc rt cd=>show W.kqdOk 9 dT=true;rfl'
 | noB h=>show W.kqdOk 9 (dX 14 .none)=true;rfl'
 | back e=>show W.kqdOk 9 dT=true;rfl'
def Ir.imp{Ds:Nat->μ}{rows:List Row}{E E':XK}{H:Hp}(i:∀ cls d H',E cls d H'->E' cls d H'):∀ {e:CG},Ir Ds rows E H e->Ir Ds rows E' H e
 | .kin _,h=>⟨λz H' s=>i _ _ _ (E9.many h z H' s),λw z dx H' s e=>i _ _ _ (E9.noK h w z dx H' s e),λw z dx H' s e=>i _ _ _ (E9.twice h w z dx H' s e),λz dx l ys H' s a b c d=>i _ _ _ (E9.ring h z dx l ys H' s a b c d)⟩
 | .bok .many,h=>λH' s=>i _ _ _ (h H' s)
 | .bok (.noN _),h=>λdx H' s e=>i _ _ _ (h dx H' s e)
 | .bok (.twice _),h=>λdx H' s e=>i _ _ _ (h dx H' s e)
 | .bok .board,h=>λH' s=>i _ _ _ (h H' s)
 | .bok (.noD _),h=>λdx H' s e=>i _ _ _ (h dx H' s e)
 | .bok (.same _),h=>λdx H' s e=>i _ _ _ (h dx H' s e)
 | .bok (.noK _),h=>λdx H' s e=>i _ _ _ (h dx H' s e)
def Xu{x:Str}{c:A3}(rt:Fo x (A1 c)):x≠"back":=λe=>by
 have:=rt.sp;rw[e,Xz.sp]at this;obtain⟨y,hy⟩:=wF c;rw[<- this]at hy;cases hy
def sN{K:Fg}{C B D U pd lp lq b l ln l' DX:μ}{Ds:Nat->μ}{L:LN}(hC:U≠C)(hB:U≠B)(hD:U≠D)(hL:∀ d:CG,cI d∈L)(JX:14∈L){Hi H1 H':Hp}{pg CL:Pg}{hist A5:List Pg}{xr:Str}{o:Option Dt}{Q:VK}{E:XK}
  (W:HS C B D U pd lp lq Hi H1 b l ln pg hist) (fw:↑hist<=100) (kp:∀ b o,b≠lq->H1 b≈o->H' b≈o) (act:Act pg hist xr CL A5 o) (pv:JM 10.8 H' CL l' DX) (hq:∃ qs,H' lq≈(.lst qs)/\Paired (QV 10.8 H') A5 qs)
  (q:∀ a b' Av,HS C B D U pd lp lq Hi Av b' l' DX CL A5->(∀ c o,¬ Zz pd lp lq c->H' c≈o->Av c≈o)->Rep K Av (.ref a) (o.getD dT)->Q (.ref a) Av):UJ U Ds L (QL C B D U Ds) [.ref pd,.str xr] H' Q E:=by
 obtain⟨us,qs,dk,hlq,hb,hqs⟩:=W.ex;obtain⟨dx,tx,ob,g1,g2,g3⟩:=dk.ex;have pdq:pd≠lq:=N7 g1 hlq (by intro z;cases z);have txq:tx≠lq:=N7 g3 hlq (by intro z;cases z);have h1:=kp _ _ pdq g1;have h2:=kp _ _ (Yz W.ne) g2;have h3:=kp _ _ txq g3;have Lx:Gj U H' pd b lp us:=⟨dx,tx,ob,h1,h2,h3⟩;have hM:∀ c,Zz pd lp lq c->∃ o,H1 c≈o/\Mv U o:=by
  rintro c (rfl | rfl | rfl)
  ·exact⟨_,g1,.inr ⟨_,Z⟩⟩
  ·exact⟨_,g2,.inl ⟨Z⟩⟩
  ·exact⟨_,hlq,.inl ⟨Z⟩⟩
 have kz:∀ c o,¬ Zz pd lp lq c->H1 c≈o->H' c≈o:=λc o n e=>kp c o (λz=>n (.inr (.inr z))) e;obtain⟨k,bk⟩:=W.bk;have Tc:=bk.keepM (U:=U) (M:=Zz pd lp lq) hC hB hD hM (λ_ z=>z) kz;have JU:Paired (BV C B D 10.8 H') hist us:=Paired.mapP hb λ_ _ z=>z.keepM hC hB hD hM kz;obtain⟨Ib,Ce,KZ⟩:=hq;have cP:AA Hi H':=λc o e=>kz c o (λz=>by rw[W.fr c z]at e;cases e) (W.si _ _ e);have ul:=Yi hb;obtain⟨g,gn⟩:=W.gd pg (CT);have Lu:∀ c,Zz pd lp lq c->∃ o,H' c≈o/\Mv U o:=by
  rintro c (rfl | rfl | rfl)
  ·exact⟨_,h1,.inr ⟨_,Z⟩⟩
  ·exact⟨_,h2,.inl ⟨Z⟩⟩
  ·exact⟨_,Ce,.inl ⟨Z⟩⟩
 refine⟨pd,dx,_,xr,Y,h1,XG _ _ _,λQ2 E2 hQ hE=>?_⟩;have stay:CL=pg->A5=hist->∀ Av,AA H' Av->HS C B D U pd lp lq Hi Av b l' DX CL A5:=λe1 e2 Av s=>by
  subst e1 e2;exact(⟨cP,W.fr,⟨us,Ib,Lx,Ce,JU,KZ⟩,⟨k,Tc⟩,pv,W.gd,W.ne⟩:HS C B D U pd lp lq Hi H' b l' DX CL A5).mono s
 have moved:∀ {Nf:LV} {b2:μ} {H2 H3:Hp} {a sl:μ},(∀ c o,c≠pd->c≠lp->H' c≈o->H2 c≈o)->Gj U H2 pd b2 lp Nf->Paired (BV C B D 10.8 H2) A5 Nf->(∃ k2,B_ 10.8 C B D H2 b2 k2 CL.1 CL.2)->(∀ h∈CL :: A5,As h.1/\C6 h.1 h.2) ->
   AA H2 H3->H3 a≈(.tup [.str "told",.ref sl])->H3 sl≈(.lst [.str "ok"])->o=none->Q (.ref a) H3:=λ{Nf b2 H2 H3 a sl} Kd Kq qP Wf qh s3 ha hsl eo=>by
  have Ie:∀ c o,¬ Zz pd lp lq c->H' c≈o->H2 c≈o:=λc o n e=>Kd c o (λz=>n (.inl z)) (λz=>n (.inr (.inl z))) e;refine q a b2 H3 ((⟨λc o e=>Ie c o (λz=>by rw[W.fr c z]at e;cases e) (cP _ _ e),W.fr,⟨Nf,Ib,Kq,Kd _ _ (Yz pdq) W.ne Ce,qP,Paired.mapP KZ λ_ _ z=>z.keepM Lu Ie⟩,Wf,pv.keepM Lu Ie,qh,W.ne⟩:HS C B D U pd lp lq Hi H2 b2 l' DX CL A5).mono s3) (λc o n e=>s3 _ _ (Ie c o n e)) ?_;rw[eo];exact .tuple (AH.of ha) (.cons (.str _) (.cons (.list (SqL.of hsl) (.cons (.str _) .nil)) .nil))
 cases act with
 | refC fc rt cd =>
  refine⟨pd,b,lp,us,xr,Z,Lx,rt,.inr (.inr ⟨k,pg.1,pg.2,_,Z,Xu rt,Tc.at_,g,gn,fc,cd,V,3.7,λe he=>?_⟩)⟩;cases he;exact Ir.imp hE (y8 hL λa Av s e=>q a b Av (stay rfl rfl Av s) (λc o _ e=>s c o e) (.tuple (AH.of e) (.cons (.str _) (.cons (kg _) .nil))))
 | chg fc rt cd =>
  refine⟨pd,b,lp,us,xr,Z,Lx,rt,.inr (.inr ⟨k,pg.1,pg.2,_,none,Y,Xu rt,Tc.at_,g,gn,fc,cd,V,λ_ b2 k2 sl H2 hsl Kd Kq Wf Ao=>?_,λe he=>nomatch he⟩)⟩;have Ie:∀ c o,¬ Zz pd lp lq c->H' c≈o->H2 c≈o:=λc o n e=>Kd c o (λz=>n (.inl z)) (λz=>n (.inr (.inl z))) e;refine hQ _ _ λa H3 s3 ha=>moved Kd Kq (Cu (Paired.mapP JU λ_ _ z=>z.keepM hC hB hD Lu Ie) ⟨b,k,Y,Tc.keepM (U:=U) (M:=Zz pd lp lq) hC hB hD Lu (λ_ z=>z) Ie⟩) ⟨k2,Wf.sub λc z=>by
   obtain⟨o,e,_⟩:=Lu c z;exact⟨o,e⟩⟩ (λh hh=>?_) s3 ha (s3 _ _ Ao) rfl
  rcases Yv.mp hh with rfl | hh
  ·exact zh cd
  rcases Yo.mp hh with hh | hh
  ·exact W.gd h (C7 _ hh)
  ·rw[Yf.mp hh];exact⟨g,gn⟩
 | noB h =>
  have u0:us=[]:=List.length_eq_zero_iff.mp (by rw[<- ul,h];rfl);refine⟨pd,b,lp,us,"back",["back"],Y,Lx,Xz,.inl ⟨Y,.inl ⟨u0,λAv s=>hE _ _ _ (QQ JX gb.2.2.2.2.2 (λa H3 s3 e=>q a b H3 (stay rfl rfl H3 s3) (λc o _ e=>s3 c o e) (.tuple (AH.of e) (.cons (.str _) (.cons .none .nil)))) none Av s (.inl rfl))⟩⟩⟩
 | back e =>
  subst e;obtain⟨FN,vb,eu,p1,b0,k0,rfl,qw⟩:=Paired.unsnoc JU;refine⟨pd,b,lp,us,"back",["back"],Y,Lx,Xz,.inl ⟨Y,.inr ⟨FN,b0,eu,λsl H2 hsl Kd Kq Ao=>?_⟩⟩⟩;have Ie:∀ c o,¬ Zz pd lp lq c->H' c≈o->H2 c≈o:=λc o n e=>Kd c o (λz=>n (.inl z)) (λz=>n (.inr (.inl z))) e;refine hQ _ _ λa H3 s3 ha=>moved Kd Kq (Paired.mapP p1 λ_ _ z=>z.keepM hC hB hD Lu Ie) ⟨k0,qw.keepM (U:=U) (M:=Zz pd lp lq) hC hB hD Lu (λ_ z=>z) Ie⟩ (λh hh=>?_) s3 ha (s3 _ _ Ao) rfl;refine W.gd h (C7 _ ?_)
  rcases Yv.mp hh with rfl | hh
  ·exact F5 _ (CT)
  ·exact LL _ hh
def M3(K:Fg)(Z:μ->Prop)(H:Hp):Option Dt->V->Prop
 | none,v=>∃ t l2,v=.ref t/\H t≈(.tup [.str "told",.ref l2])/\H l2≈(.lst [.str "ok"])/\¬ Z l2
 | some d,v=>∃(t:μ) (i:Nat) (f:V) (fd:Dt),v=.ref t/\H t≈(.tup [.str (Bu i),f])/\d=dX i fd/\∀ H',Rep K H' f fd
def M3.rep{K:Fg}{Z:μ->Prop}{H:Hp}:∀ {o:Option Dt}{v:V},M3 K Z H o v->Rep K H v (o.getD dT)
 | none,_,⟨t,l2,e,h1,h2,_⟩=>by
  subst e;exact .tuple (AH.of h1) (.cons (.str _) (.cons (.list (SqL.of h2) (.cons (.str _) .nil)) .nil))
 | some d,_,⟨t,i,f,fd,e,h1,h2,h3⟩=>by
  subst e h2;exact .tuple (AH.of h1) (.cons (.str _) (.cons (h3 _) .nil))
def M3.keep{K:Fg}{Z:μ->Prop}{H H':Hp}(tk:∀ b xs,H b≈(.tup xs)->H' b≈(.tup xs))(s:∀ b o,¬ Z b->H b≈o->H' b≈o):∀ {o:Option Dt}{v:V},M3 K Z H o v->M3 K Z H' o v
 | none,_,⟨t,l2,e,h1,h2,h3⟩=>⟨t,l2,e,tk _ _ h1,s _ _ h3 h2,h3⟩
 | some d,_,⟨t,i,f,fd,e,h1,h2,h3⟩=>⟨t,i,f,fd,e,tk _ _ h1,h2,h3⟩
def lU{X:Cx}:I_ (An X.prog X.w) X E0:=by
 rintro _ _ _ _ _ _ _ ⟨_,_,_,_,_,_,_,_,_,_,_,_,_,_,_,h⟩;exact h.elim
def B_.nil_{Z Z':μ->Prop}{C B D:μ}{H:Hp}{p k:μ}{rows:List Row}(h:B_ Z C B D H p k rows []):B_ Z' C B D H p k rows []:=by
 obtain⟨dx,bo,mo,o,Ay,A8,h1,h2,h3,h4,h5,h6⟩:=h.ex;cases h6;exact⟨dx,bo,mo,o,Ay,[],h1,h2,h3,h4,h5,.nil⟩
structure zy(mg:Str->OU):Prop where
 len:mg "len"=none
 range:mg "range"=none
 min:mg "min"=none
 list:mg "list"=none
 isi:mg "isinstance"=none
abbrev Ye0:LS:=["script","desk","rows","names","past","k","pot","row","due","shown"]
def kG:Am Ye0 ["script"] (AN Zf):=by nofun
set_option maxHeartbeats 16000000 in
def wc{Ds:Nat->μ}{L:LN}(F:Def K mg "law" Zf ["script"] f fd)(T:zy mg)(hC:U≠C)(hB:U≠B)(hD:U≠D)(hL:∀ d:CG,cI d∈L)(JX:14∈L)(TU:N3 K U)
  (MU:Mk K U fU) (mgU:mg "Desk"≈(.ref U)) (bU:Bw K fdU ["self"] []) (GU:⋯ 8 fU fdU ["self"] (XZ C B D U)) (MS:E7 K U "say" "Desk.say" RK ["self","row"] fS fdS) (GS:AV P w K mg base 3.2 10 fS fdS ["self","row"] (QL C B D U Ds))
  (DP:Def K mg "_law_pot" UY ["script","k"] fP fdP) (GP:⋯ 1 fP fdP ["script","k"] (Zg K)) (DT:Def K mg "_law_take" MZ ["pot","many"] fT fdT) (GT:⋯ 1 fT fdT ["pot","many"] OB)
  (DC:Def K mg "_law_change_row" LD Rg fC fdC) (GC:⋯ 4 fC fdC Rg XX) (DDu:Def K mg "_law_change_due" Mc G9 fDu fdDu) (GDu:⋯ 3 fDu fdDu G9 XW)
  (DG:Def K mg "_law_grown" Ma G9 fG fdG) (GG:⋯ 1 fG fdG G9 T6) (DH:Def K mg "_law_heard" Ur ["desk","row"] fH fdH) (GH:⋯ 11 fH fdH ["desk","row"] (UJ U Ds L (QL C B D U Ds)))
  (DW:Def K mg "_law_written" RW ["rows","names"] fW fdW) (GW:⋯ 2 fW fdW ["rows","names"] ZP):⋯ 12 f fd ["script"] (Tf K):=by
 nomatch F.fn.ok kG
 ·obtain⟨a,ns,rfl,_⟩:=h;rfl
 ·obtain⟨a,ns,rfl,hS,hlen,q⟩:=h;have nd:=kG.nd;have hu:=hr.units;have Ax:AZ 1 _:=hr.mono 0.2;have A7:AZ 2 _:=hr.mono 0.2;have GQ:AZ 3 _:=hr.mono 0.2;have WC:AZ 4 _:=hr.mono 0.2;have WA:AZ 9 _:=hr.mono 0.2;have SQ:AZ 10 _:=hr.mono 0.2
  ac_nf
  refine'⟨_,(pS (sE 1 nd (rJ MU GU WA rfl mgU bU .nil Gi))
   (pS (sE 2 nd (B4 (pC (BB (pC Ah (pC (BB AB) AB))) AB)))
   (pS (sE 3 nd (B4 AB))
   (pS (sE 4 nd (B4 AB))
   (pS (Be Bs rfl (MY 0.8 T.range (pC (A9 (rq rfl) 0.8 T.min PyProof.Rows.boot_min (pC (A9 C5 0.8 T.len Yw 3.5) (pC AG AB))) AB)) (gE 5 nd)
    (pS (sE 6 nd (Ag DP GP Ax (pC 0.9 (pC 7.5 AB))))
   (pS (sE 7 nd (Ag DC GC WC (pC (pv 6) (pC 4.2 3.3))))
   (pS (sE 8 nd (Ag DDu GDu GQ (pC 4.2 (pC 7.7 (pC (De Ow VN VM UG (pv 7) (pC Ah AB)) AB)))))
   (Fz (AR (Ae BS (Ag DT GT Ax (pC (pv 6) (pC AG AB))) AG (Ad _)) (pS (sE 7 nd Ah)
   (pS (sE 8 nd Dq)
   (AF (AR (Ae (Tj hu) (pv 4) (B4 AB) (Ad _)) (AF (sE 8 nd (BB (pC Ah (pC Dq AB))))) AS)))) AS)
   (Fz (AR (PW.pt (Kw (Ae Tn (pv 8) Dq (Ad _)) (OE (Ae BS (pv 7) Ah (Ad _)))))
      (AF (MJ (Tq EF PySem.F.slot_list_pop PySem.F.type_list_pop Wr (pv 4)) 4.3))
      (AF (AR (Ae Tn (pv 8) Dq (Ad _)) (pS (Bj (De EF Gs Gr F4 (pv 4) (pC (BB (pC 4.2 3.3)) AB)))
   (AF (MJ (Ag DG GG Ax (pC 4.2 (pC 7.7 (pC (De Ow VN VM UG (pv 7) (pC Ah AB)) AB)))) 4.3))) AS)))
   (Fz (AR (Ae Tn (pv 8) Dq (Ad _)) (AF (sE 8 nd (BB (pC Ah (pC (B4 (pC Ah AB)) AB))))) AS)
   (Fz (AR (Ae (N_ hu) (Ag DH GH hr (pC 1.6 (pC (pv 7) AB))) (pv 8) (Ad _)) (AF (AW FX)) AS)
   (pS (sE 9 nd (FE 1.6 TU.cl MS.me GS SQ MS.b .nil lU (pC Ah AB)))
   (pS (AR (PW.pt (Jm (Ct (Cg (A9 zD 0.8 T.isi Zs (pC (pv 9) (pC (gD (v:=.ty "list") 0.8 T.list LP rfl) AB))))) (Kx (Ae (N_ hu) (pv 9) (Ag DW GW A7 (pC 4.2 3.3)) (Ad _))))) (AF (AW FX)) AS)
   (AF (Bj (Tq EF PySem.F.slot_list_clear PySem.F.type_list_clear zN (pv 9))))))))))))))
   (AF (AW (DV (Tj hu) (FE 1.6 TU.cl MS.me GS SQ MS.b .nil lU (pC Ah AB)) (Ag DW GW A7 (pC 4.2 3.3)) (Ad _))))))))),?_⟩
  exists let b:=_;let c:=AE _ b;let e:=AE _ c;let f:=Ge _ e;let g:=_;let h:=Ge (A4 _ g _) f;let i:=_;let j:=_;let k:=AE _ j;let l:=A4 _ k _;let m:=Ge (A4 _ i l) h;let n:=_;let o:=A4 _ n _;let p:=AE _ o;let q:=AE _ p;let r:=Ge (A4 _ q _) m;let s:=AE _ r;let t:=AE _ s;let u:=AE _ t;let v:=AE (Bq _ _ u) a;let w:=AE _ v;let x:=AE _ w;let y:=AE _ x;AE _ y _ _ _
  have Cd:∀ {pd lp lq b l ln:μ} {pg:Pg} {hist:List Pg} {H1:Hp},HS C B D U pd lp lq H H1 b l ln pg hist->W.kqdOk 9 (.list ((Iw pg.1 pg.2).map PySem.W.Dat.str))=true:=λ{pd lp lq b l ln pg hist H1} W=>by
   obtain⟨g,gn⟩:=W.gd pg (CT);exact rh (uX g gn)
  intro pd dx np G_ ne2;refine⟨pd,dx,Y,uS,λb k lp H1 hlp cz Wa eE=>⟨Y,?_⟩⟩;have hlpp:lp≠pd:=λz=>by rw[z,uS]at hlp;cases hlp
  have bA:H lp=none:=by
   rw[AD hlpp]at hlp;exact(AJ G_:AA H (upd H dx (.own pd))).free hlp
  have s1:AA H H1:=λc o e=>cz c o (AI e np) (by rw[AD (AI e np)];exact AJ G_ _ _ e);refine⟨BN _,λte hte=>⟨W,λt ht=>⟨O,λl hl=>?_⟩⟩⟩;have s2:AA H1 (upd H1 te (.tup [])):=AJ hte;have e2:(upd H1 te (.tup [])) te≈(.tup []):=uS;generalize upd H1 te (.tup [])=H2 at s2 e2 ht hl ⊢;have s3:AA H2 (upd H2 t (.tup [.str "thing",.ref te])):=AJ ht;have e3:(upd H2 t (.tup [.str "thing",.ref te])) t≈(.tup [.str "thing",.ref te]):=uS;generalize upd H2 t (.tup [.str "thing",.ref te])=H3 at s3 e3 hl ⊢;have s4:AA H3 (upd H3 l (.lst [.ref t])):=AJ hl;have e4:(upd H3 l (.lst [.ref t])) l≈(.lst [.ref t]):=uS;have A6:H1 l=none:=s2.free (s3.free hl);generalize upd H3 l (.lst [.ref t])=H4 at s4 e4 ⊢;refine⟨BN _,λln CH=>⟨BN _,λlq hlq=>?_⟩⟩;have s5:AA H4 (upd H4 ln (.lst [])):=AJ CH;have e5:(upd H4 ln (.lst [])) ln≈(.lst []):=uS;have Fe:H1 ln=none:=s2.free (s3.free (s4.free CH));have lln:ln≠l:=λz=>by rw[z,e4]at CH;cases CH
  generalize upd H4 ln (.lst [])=H5 at s5 e5 hlq ⊢;have s6:AA H5 (upd H5 lq (.lst [])):=AJ hlq;have e6:(upd H5 lq (.lst [])) lq≈(.lst []):=uS;have NI:H1 lq=none:=s2.free (s3.free (s4.free (s5.free hlq)));have lql:lq≠l:=λz=>by rw[z,s5 _ _ e4]at hlq;cases hlq
  have lqn:lq≠ln:=λz=>by rw[z,e5]at hlq;cases hlq
  generalize upd H5 lq (.lst [])=H6 at s6 e6 ⊢;have G0:=s2.trans (s3.trans (s4.trans (s5.trans s6)));obtain⟨dx1,tx,ob,g1,g2,g3⟩:=id Wa.ex;have a_:H lq=none:=s1.free NI;have old:∀ c,H1 c=none->c≠pd/\c≠lp:=λc n=>⟨(λz=>by rw[z,g1]at n;cases n),(λz=>by rw[z,g2]at n;cases n)⟩;have W0:HS C B D U pd lp lq H H6 b l ln (QP,[]) []:=by
   refine⟨s1.trans G0,?_,⟨[],[],Wa.mono G0,e6,.nil,.nil⟩,⟨k,(B_.nil_ eE).mono G0⟩,⟨⟨[.ref t],s6 _ _ (s5 _ _ e4),.cons ⟨t,te,Y,s6 _ _ (s5 _ _ (s4 _ _ e3)),s6 _ _ (s5 _ _ (s4 _ _ (s3 _ _ e2)))⟩ .nil⟩,⟨[],s6 _ _ e5,.nil⟩,?_,?_⟩,?_,(old lq NI).2⟩
   ·rintro c (rfl | rfl | rfl)
    ·exact np
    ·exact bA
    ·exact a_
   ·rintro(z | z | z)
    ·exact(old l A6).1 z
    ·exact(old l A6).2 z
    ·exact lql z.symm
   ·rintro(z | z | z)
    ·exact(old ln Fe).1 z
    ·exact(old ln Fe).2 z
    ·exact lqn z.symm
   ·intro h hh;rw[Yf.mp hh];exact⟨Zb,k_⟩
  have hSl:=(s1.trans G0).seq hS;obtain⟨m,em,m60⟩:∃ m:Nat,(if(60:Int)<(↑9.4:Int)then(60:Int)else(↑9.4:Int))=(m:Int)/\m<=60:=by
   rw[Ya];by_cases c:(60:Int)<(↑ns:Int)
   ·exact⟨60,by rw[if_pos c];rfl,V⟩
   ·exact⟨↑ns,by rw[if_neg c],V⟩
  let Bf:NW:=λi σ H'=>∃(b l ln:μ) (pg:Pg) (hist:List Pg) (x5 x6 x7 x8 x9:OV),σ=[↥(.ref a),↥(.ref pd),↥(.ref l),↥(.ref ln),↥(.ref lq),x5,x6,x7,x8,x9]/\HS C B D U pd lp lq H H' b l ln pg hist/\↑hist<=i;refine⟨Z,a,Z,.inl hSl,_,Z,m,congrArg (λz=>[V.int z]) em,V,V,B1 OO Bf
   ⟨b,l,ln,_,[],none,none,none,none,none,Y,W0,Ye _⟩ (λ_ _ _ _ _=>trivial) ?_ ?_⟩
  ·clear s2 e2 s3 e3 s4 e4 s5 e5 s6 e6 G0 g1 g2 g3 old W0 A6 Fe NI lql lqn lln hSl Wa eE cz s1;rintro i v σ H1 hi ⟨b,l,ln,pg,hist,x5,x6,x7,x8,x9,rfl,W,fw⟩;obtain⟨JT,rfl⟩:=K_ hi;have hi:i<m:=by simpa using JT
   obtain⟨g,gn⟩:=W.gd pg (CT);obtain⟨Vz,⟨Bn,Fe,Pz⟩,ow,ou⟩:=id W.pv;obtain⟨us,qs,dk,hlq,hb,hqs⟩:=W.ex;obtain⟨dxd,tx,ob,g1,g2,g3⟩:=id dk.ex;refine⟨Z,Z,a,0 + (i:Int),ns,Y,W.si.seq hS,V,V,V,λpk ok hpk hok=>?_⟩;have s2:AA H1 (upd H1 pk ok):=AJ hpk;have FP:(upd H1 pk ok) pk≈ok:=uS;generalize upd H1 pk ok=H2 at s2 FP ⊢;have pkl:pk≠l:=λz=>by
    obtain⟨v1,h1,_⟩:=Vz;rw[z,h1]at hpk;cases hpk
   have pkn:pk≠ln:=λz=>by rw[z,Fe]at hpk;cases hpk
   refine⟨Z,Z,Z,pk,l,ln,pg.1,pg.2,Bn,Y,⟨ok,FP,hok⟩,pkl,pkn,LA Vz s2,g,s2 _ _ Fe,Pz.mono (Bx s2),gn,λx c H3 d3 fc rt=>?_⟩;have PV:AA H1 H3:=λc o e=>d3.keep _ _ (AI e hpk) (s2 _ _ e);obtain⟨o3,Ha,JS⟩:=d3.pot;refine⟨Z,Z,Z,Y,x," ",Y,Y,Tg,sL (by have:=rt.len;omega),by rw[rt.sp];have:=rt.few;exact sL 0.0,λpw hpw=>?_⟩;rw[rt.sp];have Af:AA H3 (upd H3 pw (.lst 12.1)):=AJ hpw;have h4:(upd H3 pw (.lst 12.1)) pw≈(.lst 12.1):=uS;generalize upd H3 pw (.lst 12.1)=H4 at Af h4 ⊢;have S3:=PV.trans Af;refine⟨l,ln,pw,pg.1,pg.2,Bn,c,Y,LA Vz S3,g,S3 _ _ Fe,Pz.mono (Bx S3),gn,⟨h4,rt.few,rt.sh⟩,fc,λr v H5 Bp cd hv=>?_⟩;have oi:=S3.trans Bp;have HY:=Bp _ _ (Af _ _ Ha);let CU:SW:=λσ' H'=>∃(xr:Str) (v:V),σ'=[↥(.ref a),↥(.ref pd),↥(.ref l),↥(.ref ln),↥(.ref lq),↥(.int (0 + (i:Int))),↥(.ref pk),↥(.str xr),↥v,x9]/\AA H1 H'/\((∃ r,xr=x/\Fn pg.1 pg.2 c r/\aL H' r v)\/(xr="back"/\hist=[]/\∃ t,v=.ref t/\H' t≈(.tup [.str (Bu 14),.non]))\/(xr="back"/\hist≠[]/\v=.non));refine⟨CU,?_,?_⟩
   ·refine⟨Z,pk,6,o3,Y,HY,JS,Q,Q,λtk o6 _ _ Kh=>⟨Y,Z,?_⟩⟩;have G0:AA H1 (upd H5 pk o6):=λc o e=>by rw[AD (AI e hpk)];exact oi _ _ e
    have dG:aL (upd H5 pk o6) r v:=by
     cases r with
     | none=>exact hv
     | some e =>
      obtain⟨t,z,ht⟩:=hv;exact⟨t,z,by rw[AD (λz=>by
       obtain⟨r',b',eo,_⟩:=JS;rw[z,HY,eo]at ht;cases ht)];exact ht⟩
    generalize upd H5 pk o6=H6 at G0 dG ⊢;refine BO (λ_=>?_) (λ_=>⟨x,v,Y,G0,.inl ⟨r,Y,cd,dG⟩⟩);refine⟨Z,BN _,λl0 Dj=>?_⟩;have s7:AA H6 (upd H6 l0 (.lst [])):=AJ Dj;have h7:(upd H6 l0 (.lst [])) l0≈(.lst []):=uS;generalize upd H6 l0 (.lst [])=H7 at s7 h7 ⊢;have Lf:=G0.trans s7;refine⟨.list (hist.map Pr),.list [],.list (SqL.of (Lf _ _ hlq)) (i3 (Paired.mapP hqs λ_ _ z=>z.mono Lf)),.list (SqL.of h7) .nil,yO λy hy=>W.gd y (C7 _ hy),Y,Z,BO (λz=>?_) (λz=>?_)⟩
    ·have e:hist=[]:=LR λc=>by
      have z:ES (.list (hist.map Pr)) (.list [])=true:=z;rw[MO (λy=>c (List.map_eq_nil_iff.mp (by injection y)))]at z;cases z
     exact⟨W,λt ht=>⟨"back",.ref t,Y,Lf.trans (AJ ht),.inr (.inl ⟨Y,e,t,Y,uS⟩)⟩⟩
    ·exact⟨"back",.non,Y,Lf,.inr (.inr ⟨Y,(λc=>z (by rw[c];exact HI _)),Y⟩)⟩
   rintro σ' H6 ⟨xr,v,rfl,s6,cs⟩;have hMq:∀ {H':Hp} {Ib:LV},(∀ b o,b≠lq->H1 b≈o->H' b≈o)->H' lq≈(.lst Ib)->∀ c,Zz pd lp lq c->∃ o,H' c≈o/\Mv U o:=λ{H' Ib} kp hq=>by
    rintro c (rfl | rfl | rfl)
    ·exact⟨_,kp _ _ (N7 g1 hlq (by intro z;cases z)) g1,.inr ⟨_,Z⟩⟩
    ·exact⟨_,kp _ _ (Yz W.ne) g2,.inl ⟨Z⟩⟩
    ·exact⟨_,hq,.inl ⟨Z⟩⟩
   have free_nz:∀ {H':Hp} {Ib:LV} {c:μ},(∀ b o,b≠lq->H1 b≈o->H' b≈o)->H' lq≈(.lst Ib)->H' c=none->¬ Zz pd lp lq c:=λ{H' Ib c} kp hq n z=>by
    obtain⟨o,e,_⟩:=hMq kp hq c z;rw[e]at n;cases n
   have Co:=s6 _ _ hlq;have k6:∀ b o,b≠lq->H1 b≈o->H6 b≈o:=λb o _ e=>s6 _ _ e;have dc:=hMq k6 Co;have S9:=Paired.mapP hqs λ_ _ z=>z.mono s6;have ql:=Yi hqs;let Gw:SW:=λσ' H'=>∃(l' DX:μ) (v:V) (CL:Pg) (A5:List Pg) (o:Option Dt),σ'=[↥(.ref a),↥(.ref pd),↥(.ref l'),↥(.ref DX),↥(.ref lq),↥(.int (0 + (i:Int))),↥(.ref pk),↥(.str xr),↥v,x9]/\Act pg hist xr CL A5 o/\JM 10.8 H' CL l' DX/\(∃ qs,H' lq≈(.lst qs)/\Paired (QV 10.8 H') A5 qs)/\(∀ b o,b≠lq->H1 b≈o->H' b≈o)/\↑A5<=i + 1/\((v=.non/\o=none)\/(v≠.non/\M3 K 10.8 H' o v));refine⟨Gw,?_,?_⟩
   ·rcases cs with⟨r,rfl,cd,hv⟩ | ⟨rfl,e0,t,rfl,ht⟩ | ⟨rfl,cf,rfl⟩
    ·cases r with
     | some e =>
      obtain⟨t,rfl,ht⟩:=hv;exact⟨Z,Y,Z,AL ⟨Z,Y,Z,AL ⟨l,ln,.ref t,pg,hist,Z,.refC fc rt cd,W.pv.mono s6,⟨qs,Co,S9⟩,k6,V,.inr ⟨3.7,t,cI e,cF e,cD e,Y,ht,Y,λ_=>kg e⟩⟩⟩⟩
     | none =>
      cases hv;refine⟨Z,Y,Z,AY ⟨Z,Y,Z,?_⟩⟩;rw[B3,Jc (Xu rt)];refine AL ⟨Z,Y,Z,AY ⟨Z,.inl ⟨Y,_,SqL.of Co⟩,Z,Z,W,λt ht=>?_⟩⟩;have s7:AA H6 (upd H6 t (.tup [.ref l,.ref ln])):=AJ ht;have h7:(upd H6 t (.tup [.ref l,.ref ln])) t≈(.tup [.ref l,.ref ln]):=uS;generalize upd H6 t (.tup [.ref l,.ref ln])=H7 at s7 h7 ⊢;refine⟨lq,qs,Z,Y,s7 _ _ Co,Br 0.0,?_⟩;have k8:∀ b o,b≠lq->H7 b≈o->(upd H7 lq (.lst (qs++[.ref t]))) b≈o:=λb o hb e=>by rw[AD hb];exact e
      have h8:(upd H7 lq (.lst (qs++[.ref t]))) lq≈(.lst (qs++[.ref t])):=uS;generalize upd H7 lq (.lst (qs++[.ref t]))=H8 at k8 h8 ⊢;have tq:t≠lq:=N7 h7 (s7 _ _ Co) (by intro z;cases z);have F9:=s6.trans s7;have P0:=hMq (λb o _ e=>F9 _ _ e) (s7 _ _ Co);have Ph:∀ c o,¬ Zz pd lp lq c->H7 c≈o->H8 c≈o:=λc o n e=>k8 c o (λz=>n (.inr (.inr z))) e;have cX:=(W.pv.mono F9).keepM P0 Ph;have qF:=Paired.mapP (Paired.mapP hqs λ_ _ z=>z.mono F9) λ_ _ z=>z.keepM P0 Ph;refine⟨Z,Z,Z,Y,xr," ",Y,Y,Tg,sL (by have:=rt.len;omega),by rw[rt.sp];have:=rt.few;exact sL 0.0,λPZ av=>?_⟩;rw[rt.sp];have s9:AA H8 (upd H8 PZ (.lst 12.1)):=AJ av;have h9:(upd H8 PZ (.lst 12.1)) PZ≈(.lst 12.1):=uS;generalize upd H8 PZ (.lst 12.1)=H9 at s9 h9 ⊢;obtain⟨p1,⟨PH,p2,p3⟩,_⟩:=cX.mono s9;have gle:=g.le;have few:=gn.few;refine⟨l,ln,PZ,pg.1,pg.2,PH,c,Y,p1,p2,p3,⟨h9,rt.few,rt.sh⟩,fc,V,V,(λr hr=>by have:=g.few r hr;omega),(λn hn=>by have:=(OI g gn n hn).2.2.1;omega),λtg l2 ln2 Nf BL CV htg bL Su bM fl fln ftg=>?_⟩;have IG:=s9.trans CV;have pY:∀ b o,b≠lq->H1 b≈o->BL b≈o:=λb o hb e=>IG _ _ (k8 _ _ hb (F9 _ _ e));have c_:∀ b o,b≠lq->H1 b≈o->H9 b≈o:=λb o hb e=>s9 _ _ (k8 _ _ hb (F9 _ _ e));refine⟨tg,Z,AH.of htg,Y,_,Z,_,Z,Y,?_⟩;refine⟨l2,ln2,.non,(Cq pg.1 c,FQ pg.2 c),hist++[pg],none,Y,.chg fc rt cd,⟨bL,⟨Nf,Su,bM⟩,?_,?_⟩,⟨qs++[.ref t],IG _ _ h8,Cu (Paired.mapP qF λ_ _ z=>z.mono IG) ⟨t,l,ln,Y,IG _ _ (k8 _ _ tq h7),cX.mono IG⟩⟩,pY,by rw[Ym];show ↑hist + 1<=i + 1;omega,.inl ⟨Y,Y⟩⟩
      ·rcases fl with e | n
       ·rw[e];exact ow
       ·exact free_nz c_ (s9 _ _ h8) n
      ·rcases fln with e | n
       ·rw[e];exact ou
       ·exact free_nz c_ (s9 _ _ h8) n
    ·exact⟨Z,Y,Z,AL ⟨Z,Y,Z,AL ⟨l,ln,.ref t,pg,hist,Z,.noB e0,W.pv.mono s6,⟨qs,Co,S9⟩,k6,V,.inr ⟨3.7,t,14,.non,.none,Y,ht,Y,λ_=>.none⟩⟩⟩⟩
    ·refine⟨Z,Y,Z,AY ⟨Z,Y,Z,?_⟩⟩;rw[B3,Jb rfl];obtain⟨Dw,h0,e⟩:∃ Dw h0,hist=Dw++[h0]:=⟨hist.dropLast,hist.getLast cf,(List.dropLast_concat_getLast cf).symm⟩;rw[e]at S9;obtain⟨PY,vq,eq,p1,t,l2,ln2,rfl,ht,pgv⟩:=Paired.unsnoc S9;refine AY ⟨Z,.inl ⟨Y,_,SqL.of Co⟩,lq,qs,.ref t,Y,Y,Co,by rw[eq];simp,?_⟩;rw[eq,List.dropLast_concat];have k8:∀ b o,b≠lq->H6 b≈o->(upd H6 lq (.lst PY)) b≈o:=λb o hb e=>by rw[AD hb];exact e
     have h8:(upd H6 lq (.lst PY)) lq≈(.lst PY):=uS;generalize upd H6 lq (.lst PY)=H8 at k8 h8 ⊢;have tq:t≠lq:=N7 ht Co (by intro z;cases z);have Ph:∀ c o,¬ Zz pd lp lq c->H6 c≈o->H8 c≈o:=λc o n e=>k8 c o (λz=>n (.inr (.inr z))) e;refine⟨t,Z,AH.of (k8 _ _ tq ht),Y,_,Z,_,Z,Y,?_⟩;exact⟨l2,ln2,.non,h0,Dw,none,Y,.back e,pgv.keepM dc Ph,⟨PY,h8,Paired.mapP p1 λ_ _ z=>z.keepM dc Ph⟩,λb o hb e=>k8 _ _ hb (s6 _ _ e),by have:=congrArg List.length e;rw[Ym]at this;have z:↑([h0]:List Pg)=1:=rfl;omega,.inl ⟨Y,Y⟩⟩
   rintro σ' H7 ⟨l',DX,v',CL,A5,o,rfl,act,oy,⟨Ib,Ce,KZ⟩,c0,GX,dv⟩;have dw:=wb act g gn;let KG:SW:=λσ' H'=>∃ v:V,σ'=[↥(.ref a),↥(.ref pd),↥(.ref l'),↥(.ref DX),↥(.ref lq),↥(.int (0 + (i:Int))),↥(.ref pk),↥(.str xr),↥v,x9]/\AA H7 H'/\M3 K 10.8 H' o v;refine⟨KG,?_,?_⟩
   ·rcases dv with⟨rfl,rfl⟩ | ⟨nv,dv⟩
    ·refine⟨Z,Y,Z,AY ⟨O,λl2 Ao=>⟨W,λt ht=>⟨.ref t,Y,(AJ Ao).trans (AJ ht),t,l2,Y,uS,AJ ht _ _ uS,free_nz c0 Ce Ao⟩⟩⟩⟩
    ·refine⟨Z,Y,Z,?_⟩;rw[Jc nv];exact AL ⟨v',Y,AA.refl _,dv⟩
   rintro σ' H8 ⟨v8,rfl,s8,du⟩;have cx:∀ b o,b≠lq->H1 b≈o->H8 b≈o:=λb o hb e=>s8 _ _ (c0 _ _ hb e);have Nv:=hMq cx (s8 _ _ Ce);let KD:SW:=λσ' H'=>∃ b':μ,σ'=[↥(.ref a),↥(.ref pd),↥(.ref l'),↥(.ref DX),↥(.ref lq),↥(.int (0 + (i:Int))),↥(.ref pk),↥(.str xr),↥v8,x9]/\HS C B D U pd lp lq H H' b' l' DX CL A5;refine⟨KD,?_,?_⟩
   ·refine⟨Z,Z,sN (E:=E0) hC hB hD hL JX W 0.0 cx act (oy.mono s8) ⟨Ib,s8 _ _ Ce,Paired.mapP KZ λ_ _ z=>z.mono s8⟩ λah b' H9 W9 kz rp=>⟨Z,_,_,rp,(du.keep (λb xs e=>kz _ _ (Fq Nv e N9) e) kz).rep,dw,dw,Z,?_⟩⟩;rw[HI];exact AL ⟨b',Y,W9⟩
   rintro σ' H9 ⟨b',rfl,W9⟩;obtain⟨PH,oq,QA,_⟩:=W9.ex;obtain⟨WY,oN,o_,f1,_,_⟩:=id QA.ex;obtain⟨k9,Fm⟩:=W9.bk;obtain⟨g9,P7⟩:=W9.gd CL (CT);refine⟨Z,pd,WY,Z,f1,XG _ _ _,pd,b',lp,PH,"show",["show"],Y,QA,Qx,.inr (.inl ⟨Y,k9,CL.1,CL.2,Fm.at_,g9,P7,λsl BL hsl CV Gx=>?_⟩)⟩;refine⟨Z,_,_,_,Z,.lst Gx,Y,Z,AL ?_⟩;obtain⟨w1,⟨wu,w2,w3⟩,_⟩:=(W9.mono CV).pv;refine⟨Z,Z,Z,l',DX,CL.1,CL.2,wu,Y,w1,g9,w2,w3,P7,λlw KH hlw EZ NK=>⟨.list ((Iw CL.1 CL.2).map PySem.W.Dat.str),.list ((Iw CL.1 CL.2).map PySem.W.Dat.str),.list (SqL.of (EZ _ _ Gx)) (Gm _),.list (SqL.of NK) (Gm _),Cd W9,Cd W9,Z,?_⟩⟩;rw[HI];refine AL ⟨Z,.inl ⟨Y,_,SqL.of (EZ _ _ Gx)⟩,sl,Z,Y,EZ _ _ Gx,?_⟩;exact⟨b',l',DX,CL,A5,_,_,_,_,Z,W9.mono (λc o e=>by rw[AD (AI e hsl)];exact EZ _ _ (CV _ _ e)),GX⟩
  ·rintro σ H7 ⟨b,l,ln,pg,hist,x5,x6,x7,x8,x9,rfl,W9,_⟩;obtain⟨PH,oq,QA,_⟩:=W9.ex;obtain⟨WY,oN,o_,f1,_,_⟩:=id QA.ex;obtain⟨k9,Fm⟩:=W9.bk;obtain⟨g9,P7⟩:=W9.gd pg (CT);refine⟨Z,pd,WY,Z,f1,XG _ _ _,pd,b,lp,PH,"show",["show"],Y,QA,Qx,.inr (.inl ⟨Y,k9,pg.1,pg.2,Fm.at_,g9,P7,λsl BL hsl CV Gx=>?_⟩)⟩;obtain⟨w1,⟨wu,w2,w3⟩,_⟩:=(W9.mono CV).pv;refine⟨Z,Z,l,ln,pg.1,pg.2,wu,Y,w1,g9,w2,w3,P7,λlw KH hlw EZ NK=>⟨.list ((Iw pg.1 pg.2).map PySem.W.Dat.str),.list ((Iw pg.1 pg.2).map PySem.W.Dat.str),.list (SqL.of (EZ _ _ Gx)) (Gm _),.list (SqL.of NK) (Gm _),Cd W9,Cd W9,?_⟩⟩;rw[HI];exact q _
end M1
namespace M1
open PySem L2
variable {P:χ}{w:World}{K:Fg}{mg:Str->OU}{base:Heap}
def md{K:Fg}{m q:Str}{st:Stmt}{ps:LS}(T:Mp K C m q st f fd)(b:Bw K fd ps []):E7 K C m q st ps f fd:=⟨T.fn,b,T.a,T.i,T.fn.kp⟩
def tq:=@tp
set_option maxHeartbeats 4000000 in
def all_mk{l:W.OpenLaw}{w:World}{K:Fg}{h:Heap}{mg:Str->OU}(X:K.In h)(G:h.Ns mainGlobals mg)(hfa:mg "law"≈(.ref fa))
  {T_LETTERS T_MOST_LETTERS T_MOST_KINDS T_MOST_UPS T_MOST_PLACES T_MOST_DEEDS T_MOST_NAMES:Tok}
  (p_QD:Qp K "DeedError" QD)
  (e_QD:ExC K QD)
  (KW:Qp K "NoKind" Q0)
  (KU:Qp K "Twice" Q1)
  (KS:Qp K "NoName" Q2)
  (KR:Qp K "Ring" Q3)
  (KQ:Qp K "NoDeed" Q4)
  (KP:Qp K "Same" Q5)
  (NB:Qp K "NoText" Q6)
  (KO:Qp K "TooMany" Q7)
  (KN:Qp K "NoBoard" Q8)
  (NA:Qp K "NoCall" Q9)
  (IZ:Qp K "NoLine" BZ)
  (IY:Qp K "NoPlace" BY)
  (IX:Qp K "NoWeights" BX)
  (IW:Qp K "NoTerm" BW)
  (F6:Qp K "NoRow" BJ)
  (SJ:Cw K Q0 QD "word")
  (Sn:W.subIn K (.ref Q0) (.ref QD)≈true)
  (aV:KA K Q0 Q0 Q1 Q2 Q3 Q4 Q5 Q6 Q7 Q8 Q9 BZ BY BX BW BJ true false false false false false false false false false false false false false false)
  (SI:Cw K Q1 QD "word")
  (Sm:W.subIn K (.ref Q1) (.ref QD)≈true)
  (aS:KA K Q1 Q0 Q1 Q2 Q3 Q4 Q5 Q6 Q7 Q8 Q9 BZ BY BX BW BJ false true false false false false false false false false false false false false false)
  (SH:Cw K Q2 QD "word")
  (Sl:W.subIn K (.ref Q2) (.ref QD)≈true)
  (aR:KA K Q2 Q0 Q1 Q2 Q3 Q4 Q5 Q6 Q7 Q8 Q9 BZ BY BX BW BJ false false true false false false false false false false false false false false false)
  (SG:Cw K Q3 QD "ring")
  (Sk:W.subIn K (.ref Q3) (.ref QD)≈true)
  (aQ:KA K Q3 Q0 Q1 Q2 Q3 Q4 Q5 Q6 Q7 Q8 Q9 BZ BY BX BW BJ false false false true false false false false false false false false false false false)
  (SE:Cw K Q4 QD "number")
  (Sj:W.subIn K (.ref Q4) (.ref QD)≈true)
  (aP:KA K Q4 Q0 Q1 Q2 Q3 Q4 Q5 Q6 Q7 Q8 Q9 BZ BY BX BW BJ false false false false true false false false false false false false false false false)
  (SD:Cw K Q5 QD "number")
  (Si:W.subIn K (.ref Q5) (.ref QD)≈true)
  (aO:KA K Q5 Q0 Q1 Q2 Q3 Q4 Q5 Q6 Q7 Q8 Q9 BZ BY BX BW BJ false false false false false true false false false false false false false false false)
  (SA:ExA K Q7)
  (Sh:W.subIn K (.ref Q7) (.ref QD)≈true)
  (aN:KA K Q7 Q0 Q1 Q2 Q3 Q4 Q5 Q6 Q7 Q8 Q9 BZ BY BX BW BJ false false false false false false false true false false false false false false false)
  (Ss:W.findIn K (.ref Q7) "__init__"≈(↥(.builtin "ValueError.__init__")))
  (R_:ExA K Q8)
  (Sg:W.subIn K (.ref Q8) (.ref QD)≈true)
  (aM:KA K Q8 Q0 Q1 Q2 Q3 Q4 Q5 Q6 Q7 Q8 Q9 BZ BY BX BW BJ false false false false false false false false true false false false false false false)
  (Sr:W.findIn K (.ref Q8) "__init__"≈(↥(.builtin "ValueError.__init__")))
  (La:ExA K BJ)
  (Nc:W.subIn K (.ref BJ) (.ref QD)≈true)
  (So:KA K BJ Q0 Q1 Q2 Q3 Q4 Q5 Q6 Q7 Q8 Q9 BZ BY BX BW BJ false false false false false false false false false false false false false false true)
  (Nd:W.findIn K (.ref BJ) "__init__"≈(↥(.builtin "ValueError.__init__")))
  (ga_QD:W.specialIn K (.ref QD) "__getattribute__"≈(↥(.builtin "type.__getattribute__")))
  (rd_QD:W.readsIn K QD (.type "type")=true)
  (fi_QD:W.findCls K (.ref QD) (.type "type") "__init__"≈(.val (.builtin "ValueError.__init__")))
  (TC:Cp K "Kinds" C)
  (TB:Cp K "Board" B)
  (TD:Cp K "Book" D)
  (TU:Cp K "Desk" U)
  (T_mI:Mp K C "__init__" "Kinds.__init__" U5 f_mI d_mI)
  (T_mH:Mp K C "has" "Kinds.has" Ug f_mH d_mH)
  (T_mC:Mp K C "check" "Kinds.check" RX f_mC d_mC)
  (T_mM:Mp K C "more" "Kinds.more" Up f_mM d_mM)
  (T_mT:Mp K C "tied" "Kinds.tied" RQ f_mT d_mT)
  (T_mR:Mp K C "rows" "Kinds.rows" RP f_mR d_mR)
  (T_bI:Mp K B "__init__" "Board.__init__" U4 f_bI d_bI)
  (T_bP:Mp K B "places" "Board.places" Ux f_bP d_bP)
  (T_bD:Mp K B "deeds" "Board.deeds" U0 f_bD d_bD)
  (T_kI:Mp K D "__init__" "Book.__init__" LC f_kI d_kI)
  (T_kC:Mp K D "check_name" "Book.check_name" RY f_kC d_kC)
  (T_kK:Mp K D "kinds" "Book.kinds" Um f_kK d_kK)
  (T_kN:Mp K D "names" "Book.names" Uo f_kN d_kN)
  (T_uI:Mp K U "__init__" "Desk.__init__" Y_ f_uI d_uI)
  (T_uS:Mp K U "say" "Desk.say" RK f_uS d_uS)
  (T_uM:Mp K U "move" "Desk.move" Ue f_uM d_uM)
  (T_uB:Mp K U "back" "Desk.back" Ud f_uB d_uB)
  (Nb:Mp K Q0 "__init__" "NoKind.__init__" ZF NR d_x0)
  (Na:Mp K Q1 "__init__" "Twice.__init__" ZD NQ d_x1)
  (NZ:Mp K Q2 "__init__" "NoName.__init__" ZG NP d_x2)
  (NY:Mp K Q3 "__init__" "Ring.__init__" ZA SV d_x3)
  (NX:Mp K Q4 "__init__" "NoDeed.__init__" ZE NO d_x4)
  (NV:Mp K Q5 "__init__" "Same.__init__" ZC NN d_x5)
  (Sf:W.typeIn K (.ref NR)≈(.type "function"))
  (Se:W.typeIn K (.ref NQ)≈(.type "function"))
  (Sd:W.typeIn K (.ref NP)≈(.type "function"))
  (Sb:W.typeIn K (.ref SV)≈(.type "function"))
  (Sa:W.typeIn K (.ref NO)≈(.type "function"))
  (SY:W.typeIn K (.ref NN)≈(.type "function"))
  (T_w:Tp K "is_word" HM f_w d_w)
  (T_cr:Tp K "check_rows" OT f_cr d_cr)
  (T_cu:Tp K "check_ups" OR f_cu d_cu)
  (T_fa:Tp K "first_among" J1 f_fa d_fa)
  (T_en:Tp K "endless" JH f_en d_en)
  (T_fr:Tp K "find_ring" OS f_fr d_fr)
  (T_aa:Tp K "all_above" Ui f_aa d_aa)
  (T_P:Tp K "_law_pot" UY f_P d_P)
  (T_T:Tp K "_law_take" MZ f_T d_T)
  (T_Le:Tp K "_law_letters" Uy f_Le d_Le)
  (T_W:Tp K "_law_word" HN f_W d_W)
  (T_A:Tp K "_law_above" Uq f_A d_A)
  (T_ic:Tp K "is_call" K6 f_ic d_ic)
  (T_cd:Tp K "check_deeds" OZ f_cd d_cd)
  (T_cm:Tp K "check_makes" Oa f_cm d_cm)
  (T_arw:Tp K "are_words" LB f_arw d_arw)
  (T_fkr:Tp K "is_kind_row" U2 f_fkr d_fkr)
  (T_fnr:Tp K "is_name_row" U3 f_fnr d_fnr)
  (T_fdr:Tp K "is_deed_row" U1 f_fdr d_fdr)
  (T_kof:Tp K "kind_of" UN f_kof d_kof)
  (T_nof:Tp K "name_of" UO f_nof d_nof)
  (T_dof:Tp K "deed_of" Zip f_dof d_dof)
  (T_kr:Tp K "kind_row" Ua f_kr d_kr)
  (T_dr:Tp K "deed_row" UZ f_dr d_dr)
  (T_br:Tp K "book_rows" OQ f_br d_br)
  (T_itr:Tp K "is_tie_row" Ut f_itr d_itr)
  (T_itl:Tp K "is_telling" Us f_itl d_itl)
  (T_iak:Tp K "is_asking" RO f_iak d_iak)
  (T_chk:Tp K "check_row" Uj f_chk d_chk)
  (T_wd:Tp K "with_deed" Uk f_wd d_wd)
  (T_wr:Tp K "with_row" Ub f_wr d_wr)
  (T_ab:Tp K "asked_of_book" U6 f_ab d_ab)
  (T_cls:Tp K "_law_classes" RU f_cls d_cls)
  (T_rfu:Tp K "_law_refusal" Uz f_rfu d_rfu)
  (T_liw:Tp K "_law_is_word" RV f_liw d_liw)
  (T_bdu:Tp K "_law_book_due" J2 f_bdu d_bdu)
  (T_kdu:Tp K "_law_kinds_due" Ob f_kdu d_kdu)
  (T_lk:Tp K "_law_kind_row" OX f_lk d_lk)
  (T_ld:Tp K "_law_deed_row" OW f_ld d_ld)
  (T_lw:Tp K "_law_written" RW f_lw d_lw)
  (T_he:Tp K "_law_heard" Ur f_he d_he)
  (T_pk:Tp K "_law_pick" Uh f_pk d_pk)
  (T_crw:Tp K "_law_change_row" LD f_crw d_crw)
  (T_gr:Tp K "_law_grown" Ma f_gr d_gr)
  (T_cdu:Tp K "_law_change_due" Mc f_cdu d_cdu)
  (T_L:Tp K "law" Zf f_L d_L)
  (n_ups_of:W.findIn K (.ref C) "ups_of"≈none)
  (n_above_of:W.findIn K (.ref C) "above_of"≈none)
  (n_book_B:W.findIn K (.ref B) "book"≈none)
  (n_width_B:W.findIn K (.ref B) "width"≈none)
  (n_stands_B:W.findIn K (.ref B) "stands"≈none)
  (n_has_B:W.findIn K (.ref B) "has"≈none)
  (n_book_D:W.findIn K (.ref D) "book"≈none)
  (n_board_of_D:W.findIn K (.ref D) "board_of"≈none)
  (n_made_of_D:W.findIn K (.ref D) "made_of"≈none)
  (n_has_D:W.findIn K (.ref D) "has"≈none)
  (n_deeds_D:W.findIn K (.ref D) "deeds"≈none)
  (n_now_U:W.findIn K (.ref U) "now"≈none)
  (n_past_U:W.findIn K (.ref U) "past"≈none)
  (n_texts_U:W.findIn K (.ref U) "texts"≈none)
  (n_has_U:W.findIn K (.ref U) "has"≈none)
  (n_deeds_U:W.findIn K (.ref U) "deeds"≈none)
  (n_names_U:W.findIn K (.ref U) "names"≈none)
  (g_FG:W.nsIn K mainGlobals "FIGURES"≈(↥(.ref FG)))
  (l_FG:K.lookup FG=some {cls:=.type "tuple",dict:=dd_FG,data:=.seq #[.str "1" oC,.str "2" oB,.str "3" oA,.str "4" n_] n_FG,slots:=sl_FG})
  (g_LETTERS:W.nsIn K mainGlobals "LETTERS"≈(↥(.str Md.letters T_LETTERS)))
  (g_MOST_LETTERS:W.nsIn K mainGlobals "MOST_LETTERS"≈(↥(.int 8 T_MOST_LETTERS)))
  (g_MOST_KINDS:W.nsIn K mainGlobals "MOST_KINDS"≈(↥(.int 24 T_MOST_KINDS)))
  (g_MOST_UPS:W.nsIn K mainGlobals "MOST_UPS"≈(↥(.int 8 T_MOST_UPS)))
  (g_MOST_PLACES:W.nsIn K mainGlobals "MOST_PLACES"≈(↥(.int 4 T_MOST_PLACES)))
  (g_MOST_DEEDS:W.nsIn K mainGlobals "MOST_DEEDS"≈(↥(.int 64 T_MOST_DEEDS)))
  (g_MOST_NAMES:W.nsIn K mainGlobals "MOST_NAMES"≈(↥(.int 8 T_MOST_NAMES)))
  (z_len:W.nsIn K mainGlobals "len"≈none)
  (z_all:W.nsIn K mainGlobals "all"≈none)
  (z_any:W.nsIn K mainGlobals "any"≈none)
  (z_list:W.nsIn K mainGlobals "list"≈none)
  (z_tuple:W.nsIn K mainGlobals "tuple"≈none)
  (z_range:W.nsIn K mainGlobals "range"≈none)
  (z_int:W.nsIn K mainGlobals "int"≈none)
  (z_str:W.nsIn K mainGlobals "str"≈none)
  (z_min:W.nsIn K mainGlobals "min"≈none)
  (z_isinstance:W.nsIn K mainGlobals "isinstance"≈none)
  (z_enumerate:W.nsIn K mainGlobals "enumerate"≈none)
  (z_zip:W.nsIn K mainGlobals "zip"≈none)
  (z_ValueError:W.nsIn K mainGlobals "ValueError"≈none)
  : ∃ fd:FuncData,(∀(s:ε) (v:δ),BindsTo s fd ⟨[v],[]⟩ [("script",v)])/\∀ base:Heap,K.In base->base.Ns mainGlobals mg->AV l.prog w K mg base IF 12 fa fd ["script"] (Tf K):=by
 have e:=hfa.symm.trans (W.mg_of X G T_L.a);cases e;obtain⟨_,_,_,_,_,_,rfl⟩:=Tp.ex T_L.fn;have mgC_LETTERS:=W.mg_of X G g_LETTERS;have mgC_MOST_LETTERS:=W.mg_of X G g_MOST_LETTERS;have mgC_MOST_KINDS:=W.mg_of X G g_MOST_KINDS;have mgC_MOST_UPS:=W.mg_of X G g_MOST_UPS;have mgC_MOST_PLACES:=W.mg_of X G g_MOST_PLACES;have mgC_MOST_DEEDS:=W.mg_of X G g_MOST_DEEDS;have mgC_MOST_NAMES:=W.mg_of X G g_MOST_NAMES;have mgN_len:=W.mg_none_of X G z_len;have mgN_all:=W.mg_none_of X G z_all;have mgN_any:=W.mg_none_of X G z_any;have mgN_list:=W.mg_none_of X G z_list;have mgN_tuple:=W.mg_none_of X G z_tuple;have mgN_range:=W.mg_none_of X G z_range;have mgN_int:=W.mg_none_of X G z_int;have mgN_str:=W.mg_none_of X G z_str;have mgN_min:=W.mg_none_of X G z_min;have mgN_isinstance:=W.mg_none_of X G z_isinstance;have mgN_enumerate:=W.mg_none_of X G z_enumerate;have mgN_zip:=W.mg_none_of X G z_zip;have mgN_ValueError:=W.mg_none_of X G z_ValueError;obtain⟨aC,pg,hd,po,sa,mk,kc⟩:=TC;have mgC:=W.mg_of X G aC;have M:Mk K C f_mI:=⟨mk,T_mI.a,T_mI.i,kc⟩;obtain⟨aB,pg_B,hd_B,po_B,sa_B,mk_B,kc_B⟩:=TB;have mgB:=W.mg_of X G aB;have M_B:Mk K B f_bI:=⟨mk_B,T_bI.a,T_bI.i,kc_B⟩;obtain⟨aD,pg_D,hd_D,po_D,sa_D,mk_D,kc_D⟩:=TD;have mgD:=W.mg_of X G aD;have M_D:Mk K D f_kI:=⟨mk_D,T_kI.a,T_kI.i,kc_D⟩;obtain⟨aU,pg_U,hd_U,po_U,sa_U,mk_U,kc_U⟩:=TU;have mgU:=W.mg_of X G aU;have M_U:Mk K U f_uI:=⟨mk_U,T_uI.a,T_uI.i,kc_U⟩;have F_mI:=T_mI.fn;have b_mI:=CY "self" "rows" T_mI.fn;have a_mH:=T_mH.a;have M_mH:=md T_mH (CY "self" "word" T_mH.fn);have M_mC:=md T_mC (CY "self" "word" T_mC.fn);have M_mM:=md T_mM (Hf "self" "word" "ups" T_mM.fn);have M_mT:=md T_mT (Hf "self" "one" "other" T_mT.fn);have M_mR:=md T_mR (Bz "self" T_mR.fn);have F_bI:=T_bI.fn;have b_bI:=qu "self" "kinds" "places" "deeds" T_bI.fn;have M_bP:=md T_bP (Bz "self" T_bP.fn);have a_bD:=T_bD.a;have M_bD:=md T_bD (Bz "self" T_bD.fn);have F_kI:=T_kI.fn;have b_kI:=Hf "self" "kinds" "names" T_kI.fn;have M_kC:=md T_kC (CY "self" "word" T_kC.fn);have M_kK:=md T_kK (Bz "self" T_kK.fn);have a_kN:=T_kN.a;have M_kN:=md T_kN (Bz "self" T_kN.fn);have F_uI:=T_uI.fn;have b_uI:=Bz "self" T_uI.fn;have F_uS:=T_uS.fn;have M_uS:=md T_uS (CY "self" "row" T_uS.fn);have F_uM:=T_uM.fn;have M_uM:=md T_uM (CY "self" "book" T_uM.fn);have F_uB:=T_uB.fn;have M_uB:=md T_uB (Bz "self" T_uB.fn);have bw:=Nb.fn;have bg:=Nb.a;have bW:=CY "self" "word" Nb.fn;have bu:=Na.fn;have bf:=Na.a;have bV:=CY "self" "word" Na.fn;have br:=NZ.fn;have bc:=NZ.a;have bT:=CY "self" "word" NZ.fn;have bq:=NY.fn;have ba:=NY.a;have bS:=CY "self" "ring" NY.fn;have bp:=NX.fn;have bZ:=NX.a;have bR:=CY "self" "number" NX.fn;have bj:=NV.fn;have bY:=NV.a;have bQ:=CY "self" "number" NV.fn;have D_w:=df X G T_w (Bz "text" T_w.fn);have D_cr:=df X G T_cr (Bz "rows" T_cr.fn);have D_cu:=df X G T_cu (Bz "ups_of" T_cu.fn);have D_fa:=df X G T_fa (CY "words" "others" T_fa.fn);have D_en:=df X G T_en (Bz "ups_of" T_en.fn);have D_fr:=df X G T_fr (Bz "ups_of" T_fr.fn);have D_aa:=df X G T_aa (CY "ups_of" "word" T_aa.fn);have D_P:=df X G T_P (CY "script" "k" T_P.fn);have D_T:=df X G T_T (CY "pot" "many" T_T.fn);have D_Le:=df X G T_Le (Bz "number" T_Le.fn);have D_W:=df X G T_W (CY "pot" "words" T_W.fn);have D_A:=df X G T_A (Bz "rows" T_A.fn);have D_ic:=df X G T_ic (Hf "kinds" "places" "call" T_ic.fn);have D_cd:=df X G T_cd (Hf "kinds" "places" "deeds" T_cd.fn);have D_cm:=df X G T_cm (CY "kinds" "makes" T_cm.fn);have D_arw:=df X G T_arw (Bz "texts" T_arw.fn);have D_fkr:=df X G T_fkr (Bz "words" T_fkr.fn);have D_fnr:=df X G T_fnr (Bz "words" T_fnr.fn);have D_fdr:=df X G T_fdr (Bz "words" T_fdr.fn);have D_kof:=df X G T_kof (Bz "words" T_kof.fn);have D_nof:=df X G T_nof (Bz "words" T_nof.fn);have D_dof:=df X G T_dof (Bz "words" T_dof.fn);have D_kr:=df X G T_kr (CY "word" "ups" T_kr.fn);have D_dr:=df X G T_dr (Hf "word" "call" "made" T_dr.fn);have D_br:=df X G T_br (Bz "book" T_br.fn);have D_itr:=df X G T_itr (Bz "words" T_itr.fn);have D_itl:=df X G T_itl (Bz "words" T_itl.fn);have D_iak:=df X G T_iak (Bz "words" T_iak.fn);have D_chk:=df X G T_chk (Bz "row" T_chk.fn);have D_wd:=df X G T_wd (Hf "book" "word" "deed" T_wd.fn);have D_wr:=df X G T_wr (CY "book" "words" T_wr.fn);have D_ab:=df X G T_ab (CY "book" "words" T_ab.fn);have D_cls:=df X G T_cls (Bz "e" T_cls.fn);have D_rfu:=df X G T_rfu (Bz "e" T_rfu.fn);have D_liw:=df X G T_liw (Bz "text" T_liw.fn);have D_bdu:=df X G T_bdu (CY "rows" "names" T_bdu.fn);have D_kdu:=df X G T_kdu (Bz "rows" T_kdu.fn);have D_lk:=df X G T_lk (CY "word" "ups" T_lk.fn);have D_ld:=df X G T_ld (Hf "word" "deed" "made" T_ld.fn);have D_lw:=df X G T_lw (CY "rows" "names" T_lw.fn);have D_he:=df X G T_he (CY "desk" "row" T_he.fn);have D_pk:=df X G T_pk (CY "pot" "words" T_pk.fn);have D_crw:=df X G T_crw (Hf "pot" "rows" "names" T_crw.fn);have D_gr:=df X G T_gr (Hf "rows" "names" "words" T_gr.fn);have D_cdu:=df X G T_cdu (Hf "rows" "names" "words" T_cdu.fn);have D_L:=df X G T_L (Bz "script" T_L.fn);have DD:LZ K QD:=⟨ga_QD,rd_QD,fi_QD⟩;have TD:l6 K mg QD:=⟨W.mg_of X G p_QD.a,e_QD,p_QD.cl,p_QD.ty⟩;have TF:eL K mg 0.1:=⟨W.mg_of X G KW.a,W.mg_of X G KU.a,W.mg_of X G KS.a,W.mg_of X G KR.a,W.mg_of X G KQ.a,W.mg_of X G KP.a,W.mg_of X G NB.a,W.mg_of X G KO.a,W.mg_of X G KN.a,W.mg_of X G NA.a,W.mg_of X G IZ.a,W.mg_of X G IY.a,W.mg_of X G IX.a,W.mg_of X G IW.a,W.mg_of X G F6.a,Hk KW.cl KU.cl KS.cl KR.cl KQ.cl KP.cl NB.cl KO.cl KN.cl NA.cl IZ.cl IY.cl IX.cl IW.cl F6.cl,Hk KW.ty KU.ty KS.ty KR.ty KQ.ty KP.ty NB.ty KO.ty KN.ty NA.ty IZ.ty IY.ty IX.ty IW.ty F6.ty⟩;obtain⟨f0,f1,f2,f3,f4,f5,f6,f7,f8,f9,EO,EN,EM,EL,EK⟩:=aV;have O0:Dn K QD 0.1 0:=⟨SJ.toExA,Sn,Hk f0 f1 f2 f3 f4 f5 f6 f7 f8 f9 EO EN EM EL EK⟩;have I0:=SJ;have ai:=W.mg_of X G KW.a;obtain⟨f0,f1,f2,f3,f4,f5,f6,f7,f8,f9,EO,EN,EM,EL,EK⟩:=aS;have O1:Dn K QD 0.1 1:=⟨SI.toExA,Sm,Hk f0 f1 f2 f3 f4 f5 f6 f7 f8 f9 EO EN EM EL EK⟩;have I1:=SI;have af:=W.mg_of X G KU.a;obtain⟨f0,f1,f2,f3,f4,f5,f6,f7,f8,f9,EO,EN,EM,EL,EK⟩:=aR;have O2:Dn K QD 0.1 2:=⟨SH.toExA,Sl,Hk f0 f1 f2 f3 f4 f5 f6 f7 f8 f9 EO EN EM EL EK⟩;have I2:=SH;have ae:=W.mg_of X G KS.a;obtain⟨f0,f1,f2,f3,f4,f5,f6,f7,f8,f9,EO,EN,EM,EL,EK⟩:=aQ;have O3:Dn K QD 0.1 3:=⟨SG.toExA,Sk,Hk f0 f1 f2 f3 f4 f5 f6 f7 f8 f9 EO EN EM EL EK⟩;have I3:=SG;have aZ:=W.mg_of X G KR.a;obtain⟨f0,f1,f2,f3,f4,f5,f6,f7,f8,f9,EO,EN,EM,EL,EK⟩:=aP;have O4:Dn K QD 0.1 4:=⟨SE.toExA,Sj,Hk f0 f1 f2 f3 f4 f5 f6 f7 f8 f9 EO EN EM EL EK⟩;have I4:=SE;have aY:=W.mg_of X G KQ.a;obtain⟨f0,f1,f2,f3,f4,f5,f6,f7,f8,f9,EO,EN,EM,EL,EK⟩:=aO;have O5:Dn K QD 0.1 5:=⟨SD.toExA,Si,Hk f0 f1 f2 f3 f4 f5 f6 f7 f8 f9 EO EN EM EL EK⟩;have I5:=SD;have aX:=W.mg_of X G KP.a;obtain⟨f0,f1,f2,f3,f4,f5,f6,f7,f8,f9,EO,EN,EM,EL,EK⟩:=aN;have O7:Dn K QD 0.1 7:=⟨SA,Sh,Hk f0 f1 f2 f3 f4 f5 f6 f7 f8 f9 EO EN EM EL EK⟩;have nc:J4 K mg "TooMany" Q7:=⟨W.mg_of X G KO.a,SA.toExC,Ss⟩;obtain⟨f0,f1,f2,f3,f4,f5,f6,f7,f8,f9,EO,EN,EM,EL,EK⟩:=aM;have O8:Dn K QD 0.1 8:=⟨R_,Sg,Hk f0 f1 f2 f3 f4 f5 f6 f7 f8 f9 EO EN EM EL EK⟩;have nZ:J4 K mg "NoBoard" Q8:=⟨W.mg_of X G KN.a,R_.toExC,Sr⟩;obtain⟨f0,f1,f2,f3,f4,f5,f6,f7,f8,f9,EO,EN,EM,EL,EK⟩:=So;have nj:Dn K QD 0.1 14:=⟨La,Nc,Hk f0 f1 f2 f3 f4 f5 f6 f7 f8 f9 EO EN EM EL EK⟩;have bh:J4 K mg "NoRow" BJ:=⟨W.mg_of X G F6.a,La.toExC,Nd⟩;have TK:HC mg:=⟨⟨_,mgC_LETTERS⟩,⟨_,mgC_MOST_LETTERS⟩,⟨_,mgC_MOST_KINDS⟩,⟨_,mgC_MOST_UPS⟩,mgN_len,mgN_all,mgN_list,mgN_tuple⟩;have TC:ET K C:=⟨⟨pg,hd,po,sa⟩,n_ups_of,n_above_of⟩;have TBd:QE K B:=⟨⟨pg_B,hd_B,po_B,sa_B⟩,n_book_B,n_width_B,n_stands_B⟩;have TBm:ZU mg:=⟨⟨_,mgC_MOST_PLACES⟩,⟨_,mgC_MOST_DEEDS⟩,mgN_len,mgN_all,mgN_tuple,mgN_list,mgN_enumerate⟩;have hBC:B≠C:=λz=>by rw[z,a_mH]at n_has_B;cases n_has_B
 have TKn:Jn K D:=⟨⟨pg_D,hd_D,po_D,sa_D⟩,n_book_D,n_board_of_D,n_made_of_D⟩;have hDC:D≠C:=λz=>by rw[z,a_mH]at n_has_D;cases n_has_D
 have hDB:D≠B:=λz=>by rw[z,a_bD]at n_deeds_D;cases n_deeds_D
 have TDd:zx mg:=⟨mgN_len,mgN_range,mgN_tuple⟩;have TFG:l9 K mg:=⟨FG,W.mg_of X G g_FG,λH=>.inr ⟨_,_,_,l_FG,Y,Y,sL (by show 4<=100000;decide),.cons ⟨Z⟩ (.cons ⟨Z⟩ (.cons ⟨Z⟩ (.cons ⟨Z⟩ .nil)))⟩⟩;have TU:N3 K U:=⟨⟨pg_U,hd_U,po_U,sa_U⟩,n_now_U,n_past_U,n_texts_U⟩;have hUC:U≠C:=λz=>by rw[z,a_mH]at n_has_U;cases n_has_U
 have hUB:U≠B:=λz=>by rw[z,a_bD]at n_deeds_U;cases n_deeds_U
 have hUD:U≠D:=λz=>by rw[z,a_kN]at n_names_U;cases n_names_U
 exact⟨_,λs v=>.of_eq rfl,λbase _ _=>have GI:=yP (P:=l.prog) (w:=w) (base:=base) F_mI TK TC D_cr D_w D_cu D_fr D_en D_fa D_aa;have GB:=zY (P:=l.prog) (w:=w) (base:=base) F_bI TBm TBd TC D_cd D_ic M_mH hBC;have GP:=we (P:=l.prog) (w:=w) (base:=base) D_P mgN_len;have GT:=f_ (P:=l.prog) (w:=w) (base:=base) D_T;have GW:=yo (P:=l.prog) (w:=w) (base:=base) D_W D_T D_Le mgN_len;have GLA:=tJ (P:=l.prog) (w:=w) (base:=base) D_A mgN_len;have E0:Cf l.prog w K mg base "NoKind" (0.1 0) "word" (B0 (0.1 0) "word" Cd) NR _:=⟨ai,I0.toExA.toExC,bg,Sf,bW,wm bw I0 DD TD.m⟩;have E1:Cf l.prog w K mg base "Twice" (0.1 1) "word" (B0 (0.1 1) "word" Cd) NQ _:=⟨af,I1.toExA.toExC,bf,Se,bV,w6 bu I1 DD TD.m⟩;have E3:Cf l.prog w K mg base "Ring" (0.1 3) "ring" (Oe (0.1 3) "ring") SV _:=⟨aZ,I3.toExA.toExC,ba,Sb,bS,wt bq mgN_list I3 DD TD.m⟩;have GIT:AV l.prog w K mg base (An l.prog w) 4 f_mI _ ["self","rows"] (Ww K C 0.1):=(GI.any (CX:=An l.prog w)).or (rW F_mI TK D_cr D_w D_cu D_fr D_en D_fa E0 E1 E3 nc);have E2:Cf l.prog w K mg base "NoName" (0.1 2) "word" (B0 (0.1 2) "word" Cd) NP _:=⟨ae,I2.toExA.toExC,bc,Sd,bT,wq br I2 DD TD.m⟩;have E4:Cf l.prog w K mg base "NoDeed" (0.1 4) "number" (B0 (0.1 4) "number" okN) NO _:=⟨aY,I4.toExA.toExC,bZ,Sa,bR,wj bp I4 DD TD.m⟩;have E5:Cf l.prog w K mg base "Same" (0.1 5) "number" (B0 (0.1 5) "number" okN) NN _:=⟨aX,I5.toExA.toExC,bY,SY,bQ,wz bj I5 DD TD.m⟩;have ER:l7 l.prog w K mg base 0.1 NR NQ NP NO NN _ _ _ _ _:=⟨E0,E1,E2,E4,E5,nc,nZ⟩;have GBT:AV l.prog w K mg base (An l.prog w) 4 f_bI _ JP (Wu K C B 0.1):=(GB.any (CX:=An l.prog w)).or (sm F_bI TBm TC D_cd D_ic M_mH E4 E5 nZ);have GKI:=rX F_kI TK ⟨_,mgC_MOST_NAMES⟩ TKn hDC hDB D_w M_B mgB b_bI GB D_cm (jE D_cm TC M_mH);have GKX:=tG (D:=D) F_kI TK ⟨_,mgC_MOST_NAMES⟩ ER D_w M_B mgB b_bI GBT D_cm (AV.succ (jE D_cm TC M_mH)) (uR D_cm TC M_mH E0);have GKT:AV l.prog w K mg base (An l.prog w) 6 f_kI _ Ic (Qa K C B D 0.1):=(GKI.any (CX:=An l.prog w)).or GKX;have GIW:=RI D_w TK;have GAW:=vF D_arw mgN_all D_w GIW;have GFK:=ux D_fkr mgN_len D_arw GAW;have GFN:=u1 D_fnr mgN_len TFG D_w GIW;have GFD:=uu D_fdr mgN_len D_arw GAW;have GKO:=tE D_kof;have GNO:=tK D_nof mgN_int;have GDO:=sr D_dof mgN_tuple;have GKN:=tH (C:=C) M_kN.fn TKn TBd M_bP M_bD mgN_list mgN_tuple mgN_zip;have GBR:=za D_br TKn TC mgN_list M_kK M_kN GKN M_mR D_kr D_dr;have GKK:=jF (B:=B) (C:=C) M_kK.fn TKn;have GTi:=tL D_itr mgN_len D_arw GAW;have GTe:=u4 D_itl D_fkr GFK D_itr GTi D_fnr GFN D_fdr GFD;have GIA:=tT D_iak mgN_len D_arw GAW;have GCR:=vL D_chk D_itl GTe D_iak GIA;have GCk:=so (Ds:=0.1) M_mC.fn TC M_mH E0;have GMT:=(rj M_mT.fn TC M_mC M_mH M mgC b_mI GIT).or ((rE M_mT.fn TC M_mC GCk).mono (k:=6) 0.2);have GMM:=rf M_mM.fn TC mgN_list M_mR M mgC b_mI GIT;have GCN:AV l.prog w K mg base (An l.prog w) 3 f_kC _ ["self","word"] (lJ C B D (0.1 2)):=(((tD (B:=B) (C:=C) M_kC.fn TKn).any (CX:=An l.prog w)).mono (k:=3) 0.2).or (uw M_kC.fn TKn E2);have GWD:=vO D_wd TKn M_kC GCN M_kN GKN.any M_kK GKK.any M_D mgD b_kI GKT;have GWR:=u5 D_wr TKn TC D_wd GWD D_dof GDO.any D_nof GNO.any D_kof GKO.any M_kN GKN.any M_kK GKK.any M_mT GMT M_mM GMM M_D mgD b_kI GKT;have GAB:=zW D_ab D_br GBR;have GMv:=rT F_uM TU;have GBk:=ze F_uB TU bh M_uM GMv.any;have GSy:=yN F_uS TU hUC hUB hUD D_chk GCR.any D_iak GIA.any D_wr GWR D_ab GAB.any M_uM GMv.any M_uB GBk;have GUI:=zf F_uI TU hUC hUB hUD M mgC b_mI GI M_D mgD b_kI GKI;have OG:=Yaw (K:=K) (D:=QD) (Ds:=0.1) O0 O1 O2 O3 O4 O5 O7 O8 nj I0 I1 I2 I4 I5;have GCl:=uQ (P:=l.prog) (w:=w) (base:=base) (D:=QD) D_cls TF mgN_isinstance mgN_ValueError;have GRf:=vN D_rfu mgN_len OG D_cls GCl;have GHe:=s_ 0.2 D_he TD OG TU.cl M_uS GSy D_rfu GRf;have GLW:=uz (P:=l.prog) (w:=w) (base:=base) D_liw mgN_len mgN_all;have GDu:=zZ D_bdu mgN_len mgN_range mgN_any D_liw GLW;have GKD:=tF D_kdu mgN_len mgN_range mgN_any D_A GLA;have GGr:=rV (P:=l.prog) (w:=w) (base:=base) D_gr mgN_tuple mgN_int;have GCd:=zb D_cdu D_gr GGr D_kdu GKD D_bdu GDu;have GPk:=yS D_pk mgN_len D_T GT D_W GW;have GLK:=jH (P:=l.prog) (w:=w) (base:=base) D_lk mgN_len;have GLD:=jG (P:=l.prog) (w:=w) (base:=base) D_ld;have GCw:=zd D_crw mgN_len mgN_range mgN_int mgN_str D_T GT D_W GW D_pk GPk D_lk GLK D_ld GLD;have GLw:=u6 (P:=l.prog) (w:=w) (base:=base) D_lw mgN_str mgN_len D_lk D_ld;wc D_L ⟨mgN_len,mgN_range,mgN_min,mgN_list,mgN_isinstance⟩ hUC hUB hUD Ybu 0.2 TU M_U mgU b_uI GUI M_uS GSy D_P GP D_T GT D_crw GCw D_cdu GCd D_gr GGr D_he GHe D_lw GLw⟩
def walk{l:W.OpenLaw}{q:χ}{loose:LS}{XP:(Str->OU)->Heap->Prop}{YP:World->Heap->Prop}{d:DefRec}{K:Params->Fg}(hn:l.most≈63)(hdf:d.params.defaults=[])
  (hY:∀(w:World) (h:Heap),YP w h->(K w.params).In h)
  (F:∀(w:World) (mg:Str->OU) (fa:μ) (h:Heap),(K w.params).In h->h.Ns mainGlobals mg->mg d.name≈(.ref fa) ->
   ∃ fd:FuncData,(∀(s:ε) (u:δ),BindsTo s fd ⟨[u],[]⟩ [("script",u)])/\∀ base:Heap,(K w.params).In base->base.Ns mainGlobals mg->AV l.prog w (K w.params) mg base IF 12 fa fd ["script"] (Tf (K w.params))):
  W.WalkO q loose XP YP l.row.toRowW d [] (λf vs=>PySem.call f vs):=
 L2.walk_of (n:=63) (k:=12) (x:="script") (CX:=λ_=>IF) (sp:=λw=>Tf (K w.params)) hn 0.2 hdf ⟨Y,Q,Q,Y⟩ hY F (λ_ _ a ns hl _ hS=>⟨a,ns,Y,hS,hl,λ_=>rfl⟩) λ_ _ _ _ _ z=>z
end M1
open PySem PySem.W PyProof.Rows
set_option maxRecDepth 100000 in
set_option maxHeartbeats 0 in
theorem PySem.Challenge.cw_manydeeds_k81_rows_that_change_a_desk_holds : PySem.Challenge.rw_manydeeds_k81_rows_that_change_a_desk.Holds := by
 refine Qh ?_
 k_fill
 refine M1.walk (l:=PySem.Challenge.rw_manydeeds_k81_rows_that_change_a_desk) rfl rfl (λw h Y=>W.kIn_of Y) ?F
 case F =>
  intro w mg fa h KX G hmg;refine' M1.all_mk KX G hmg ..
  any_goals first | exact L2.qc (by k_is) (by k_is) (by k_is) (by k_is) (by k_is) (by k_is) | exact L2.qa (by k_is) (by k_is) (by k_is) (by k_is) (by k_is) (by k_is) (by k_is) (by k_is) (by k_is) (by k_is) (by k_is) (by k_is) | exact L2.qi (by k_is) (by k_is) (by k_is) (by k_is) (by k_is) (by k_is) (by k_is) (by k_is) (by k_is) (by k_is) (by k_is) (by k_is) (by k_is) (by k_is) | exact⟨by k_is,by k_is,by k_is⟩ | exact⟨J,J,by k_is,by k_is,by k_is⟩ | skip
  any_goals first | exact L2.tp (by k_is) (by k_is) (by k_is) (by k_is) | exact L2.mp (by k_is) (by k_is) (by k_is) (by k_is) (by k_is) | exact⟨J,by k_is⟩ | k_is
