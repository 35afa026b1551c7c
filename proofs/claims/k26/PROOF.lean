import PyProof.Rows.All
import Wide.All
import OpenK.AllK
import Wide.FinOn
import Lean
import PyProof.EqAt
import PyProof.EqKinds
import PyProof.TupleCall
import PySem.Challenge.RW_manydeeds_k26_whole_parted_by_two_lineup
set_option Elab.async false
set_option linter.all false
set_option maxRecDepth 100000
abbrev ξ:=List (List PySem.Str)
abbrev ζ:=List Int
abbrev τ:=List PySem.Addr
abbrev μ:=Array PySem.Value
abbrev δ:=List PySem.Expr
abbrev ε:=PySem.Addr
abbrev χ:=PySem.Value
abbrev ω:=PySem.Shared
abbrev Γ:=PySem.Program
abbrev EV:=PySem.Value->PySem.Shared->Prop
abbrev PL:=List (PySem.Addr×PySem.Obj)
abbrev LU:=List PySem.Value
abbrev OU:=Option PySem.Value
abbrev LN:=List Nat
def Ja:=@PySem.wpAny_bind
def Jb:=@decide_eq_true
def Jc:=@decide_eq_false
def Jd:=@PySem.wpAny_pure
def Je:=@of_decide_eq_true
def Jf:=@PySem.wpAny_mono
def Jg:=@PySem.wpAny_field
def Jh:=@PySem.wpAny_truthy_bool
def Ji:=@PySem.wpAny_loadPart_at
def Jj:=@PySem.wpAny_holding
set_option hygiene false
local macro_rules|`(tactic|rfl')=>`(tactic|decide +kernel)
local macro_rules|`(tactic|ac_rfl)=>`(tactic|intro π s σ H Q I h)
local macro_rules|`(tactic|exfalso)=>`(tactic|intro π s σ H x y v u Q I rx ry h)
abbrev RS:=List (PySem.Str×List PySem.Str)
abbrev LS:=List PySem.Str
abbrev Fg:=PySem.W.Frag
def Ya:=@List.length_map
def Yb:=@List.getElem?_eq_getElem
def Yc:=@PySem.Heap.get?_push_of_some
def Yd:=@List.mem_of_getElem?
def Ye:=@List.getElem?_eq_some_iff
def Yf:=@Nat.le_refl
def Yg:=@List.getD_eq_getElem?_getD
def Yh:=@List.getElem?_map
def Yi:=@List.mem_singleton
def Yj:=@PySem.Heap.lt_size
def Yk:=@List.mem_map
def Yl:=@List.mem_cons
def Ym:=@PySem.Heap.get?_push_size
def Yn:=@List.size_toArray
def Yo:=@Nat.lt_of_lt_of_le
def Yp:=@List.mem_append
def Yq:=@Bool.false_ne_true
def Yr:=@List.map_cons
def Ys:=@PyProof.Rows.boot_isinstance
def Yt:=@Int.toNat_natCast
def Yu:=@List.nodup_cons
def Yv:=@Nat.ne_of_lt
def Yw:=@List.mem_append_right
def Yx:=@Ne.symm
def Yy:=@PySem.boot_len
def Yz:=@PySem.F.plainAttrs_list
def BU:=@List.length_take
def Bw:=@List.length_append
def BQ:=@Option.some.inj
def BP:=@List.map_append
def A_:=@PySem.Paired.length
def Bb:=@PySem.PassesOwn.never
def A8:=@Nat.le_trans
def Bv:=@List.all_eq_true
def Ea:=@List.nodup_iff_pairwise_ne
def BE:=@Nat.zero_le
def Ce:=@List.take_add_one
def CA:=@List.mem_range
def Cd:=@List.length_cons
def D0:=@List.getElem?_of_mem
def E4:=@PySem.F.slot_list_append
def E3:=@PySem.F.type_list_append
def Bu:=@List.map_map
def Cc:=@List.mem_filter
def Dz:=@PySem.mem_of_lookup
def Dk:=@List.pairwise_cons
def E2:=@List.getElem?_eq_none
def Dj:=@List.lookup_cons
def Di:=@List.filter_cons
def C4:=@PySem.Heap.size_push
def Dy:=@List.take_length
def EI:=@Bool.and_eq_true
def Ec:=@List.length_range
def Js:=@PyProof.Rows.callWith_type1
def G6:=@List.mem_cons_of_mem
def DG:=@Nat.ne_of_gt
def Eb:=@List.append_nil
def Hg:=@List.length_filter_le
def G5:=@List.filter_eq_self
def G0:=@Int.toNat_of_nonneg
def Jp:=@List.pairwise_iff_getElem
def Ip:=@Option.map_eq_some_iff
def Io:=@PyProof.Rows.boot_list
def Ku:=@List.getElem?_append_right
def F8:=@List.any_eq_true
def F7:=@Nat.le_add_right
def Jo:=@PyProof.Rows.boot_tuple
def Kr:=@Classical.byContradiction
def Jn:=@List.getElem?_set_self
def Il:=@Array.length_toList
def Ob:=@PyProof.Rows.slot_tuple_getitem
def Jm:=@List.mem_append_left
def Kp:=@PySem.Heap.get?_update_other
def EZ:=@PySem.Paired.snoc
def Jk:=@beq_eq_false_iff_ne
def JZ:=@List.getElem?_range
def Iq:=@List.nodup_append
def F9:=@Nat.lt_irrefl
def G8:=@List.nodup_nil
def K1:=@PySem.F.slot_zip_next
def FV:=@Int.zero_add
def Ky:=@PyProof.Rows.boot_all
def Jr:=@List.mem_cons_self
def Jq:=@Bool.false_eq_true
def Kx:=@List.mem_iff_getElem
def Kw:=@List.mem_of_mem_take
def FU:=@Nat.le_succ
def MW:=@List.take_of_length_le
def Im:=@Bool.eq_iff_iff
def Og:=@List.getElem?_append_left
def Of:=@List.mem_or_eq_of_mem_set
def MV:=@PySem.Heap.get?_update_self
def MS:=@List.take_append_drop
def Od:=@PyProof.Rows.boot_sorted
def Kq:=@Int.natCast_nonneg
def MO:=@List.getElem?_set_ne
def Ik:=@List.take_zero
def Ko:=@List.pairwise_map
def Jl:=@PyProof.Rows.KeyOrd.kle_refl
def MM:=@List.map_congr_left
def ML:=@List.length_pos_iff
def Hh:=@List.map_id'
def RF:=@Array.getElem?_eq_some_iff
def K3:=@List.getElem_mem
def VB:=@PySem.F.slot_tuple_iterator_next
def Kz:=@decide_eq_decide
def Oq:=@Array.getElem?_toList
def MY:=@Int.emod_lt_of_pos
def Oo:=@List.mem_of_mem_erase
def RE:=@List.drop_eq_getElem_cons
def RC:=@Option.isSome_iff_exists
def Kv:=@List.length_set
def Oi:=@PySem.Heap.SameBut.update
def Oh:=@List.length_reverse
def Kt:=@List.Perm.refl
def RA:=@List.drop_of_length_le
def Oe:=@PySem.Obj.data_mapFields
def MR:=@List.find?_cons
def MQ:=@List.forIn_cons
def Qy:=@PySem.Obj.isFreed_of_fields
def MN:=@Int.emod_nonneg
def Qx:=@PyProof.Rows.boot_any
def Kn:=@List.any_cons
def Oa:=@List.getElem_take
def OZ:=@List.ext_getElem?
def OY:=@List.append_assoc
def RG:=@List.length_dropLast
def K4:=@List.map_nil
def VD:=@PySem.AutoSeq1.wpAny_loadPart'
def VA:=@List.eraseIdx_cons_succ
def U_:=@PySem.F.args_zip_next_1
def U9:=@PySem.F.slot_list_index
def MX:=@Bool.true_and
def Om:=@List.of_mem_zip
def RD:=@Nat.lt_of_le_of_lt
def Ol:=@List.length_zip
def Oj:=@List.filter_map
def U8:=@PySem.F.entry_zip_next
def U7:=@PySem.SeqAt.canLay_of_shaped
def RB:=@List.any_eq_false
def Q_:=@Nat.lt_succ_of_lt
def MT:=@Nat.le_of_lt
def Qz:=@List.length_drop
def YW:=@PySem.F.excBase_ValueError
def Oc:=@List.map_take
def YV:=@List.getElem?_zip_eq_some
def Qw:=@List.idxOf_cons
def YU:=@List.getElem?_take_of_lt
def YT:=@PySem.F.args_tuple_add_2
def U6:=@List.lookup_append
def YS:=@List.getElem?_replicate
def YY:=@PySem.F.entry_tuple_add
def YX:=@PySem.F.type_list_index
def VC:=@List.perm_middle
local macro_rules|`(tactic|nofun)=>`(tactic|exact ⟨rfl,rfl,rfl,by decide +kernel,rfl,by decide +kernel,by decide +kernel⟩)
set_option hygiene false
local macro_rules|`(tactic|nomatch $t)=>`(tactic|refine $t (fun vs H Q E h=>?_) (fun Ao A outer s H vs Q E hr h=>?_))
local macro_rules|`(⋯)=>`(Bi P w K mg base Ir)
noncomputable section
local macro_rules | `(tactic| ac_nf)=>`(tactic| (with_reducible show let X:=_;let d:=_;∃ t,CB X _ t∧t d _ _);intros)
local macro_rules | `(tactic|exists $t)=>`(tactic|(with_reducible show let a:=_;$t);intros)
local macro_rules|`(⟨$a,*⟩)=>do
 let b:=a.getElems
 if b.any fun x=>[`Z,`Y,`W,`V,`U,`O,`Q,`J,`G].contains x.raw.getId then
  let c←b.mapM fun x=>(match x.raw.getId with|`Z=>return #[←`(_),←`(rfl)]|`Y=>return #[←`(rfl)]|`W=>return #[←`(by omega)]|`V=>return #[←`(by decide)]|`U=>return #[←`(sL (by show 2<=100000;decide))]|`O=>return #[←`(by rw[Ya];omega)]|`Q=>return #[←`(_),←`(_)]|`J=>return #[←`(by k_is),←`(by k_is),←`(by k_is),←`(by k_is),←`(by k_is),←`(by k_is)]|`G=>return #[←`(sL (by show 1<=100000;decide))]|_=>return #[x]:Lean.MacroM (Array Lean.Term))
  let d:Array Lean.Term:=c.flatten
  `(⟨$d,*⟩)
 else Lean.Macro.throwUnsupported
local macro_rules|`($a≈$b)=>`($a=some $b)
local macro_rules|`(↥$a)=>`(some $a)
local macro_rules|`(↑$a)=>`(($a).length)
local macro_rules|`(⇑$a)=>`(($a).heap.objs.size)
namespace L2
open PySem PySem.Spec PyProof.Rows
abbrev Key:=Sum Int Str
def Lj:Key->χ->Bool
 | .inl k,v=>Value.isInt k v
 | .inr x,v=>Value.isStrOf x v
def zp(w:World):Key->Int
 | .inl k=>hashInt k
 | .inr x=>hashStr w x
def Ij:∀ {k:Key}{v:χ},Lj k v=true->(∃ i t,k=Sum.inl i/\v=Value.int i t)\/(∃ x t,k=Sum.inr x/\v=Value.str x t)
 | .inl i,v,h=>by
  obtain⟨t,e⟩:=Value.isInt_shape (k:=i) (v:=v) h;exact .inl ⟨i,t,Y,e⟩
 | .inr x,v,h=>by
  obtain⟨t,e⟩:=Value.isStrOf_shape (x:=x) (v:=v) h;exact .inr ⟨x,t,Y,e⟩
def qu(i:Int)(t:Tok):Lj (.inl i) (.int i t)=true:=by simp[Lj,Value.isInt]
def qv(x:Str)(t:Tok):Lj (.inr x) (.str x t)=true:=by simp[Lj,Value.isStrOf]
def vq(a b:Int):decide ((Sum.inl a:Key)=Sum.inl b)=(a == b):=by
 by_cases e:a=b
 ·subst e;simp
 ·have h:¬ (Sum.inl a:Key)=Sum.inl b:=λq=>e (Sum.inl.inj q);rw[Jc h];exact(Jk.mpr e).symm
def vw(a b:Str):decide ((Sum.inr a:Key)=Sum.inr b)=decide (a=b):=by
 by_cases e:a=b
 ·subst e;simp
 ·have h:¬ (Sum.inr a:Key)=Sum.inr b:=λq=>e (Sum.inr.inj q);rw[Jc h,Jc e]
def vt(a:Int)(b:Str):decide ((Sum.inl a:Key)=Sum.inr b)=false:=Jc (λq=>nomatch q)
def vv(a:Str)(b:Int):decide ((Sum.inr a:Key)=Sum.inl b)=false:=Jc (λq=>nomatch q)
def Cu(prog:Γ)(w:World):PySem.KeyKind prog w Key where
 is:=Lj
 hash:=zp w
 inj:=λv a b ha hb=>by
  rcases Ij ha with⟨i,t,rfl,rfl⟩ | ⟨x,t,rfl,rfl⟩
  ·rcases Ij hb with⟨j,u,rfl,e⟩ | ⟨y,u,rfl,e⟩
   ·injection e with e1 _;rw[e1]
   ·exact nomatch e
  ·rcases Ij hb with⟨j,u,rfl,e⟩ | ⟨y,u,rfl,e⟩
   ·exact nomatch e
   ·injection e with e1 _;rw[e1]
 byValue:=λk v h=>by
  rcases Ij h with⟨i,t,rfl,rfl⟩ | ⟨x,t,rfl,rfl⟩ <;> rfl
 pyHash:=λhv h=>by
  rcases Ij hv with⟨i,t,rfl,rfl⟩ | ⟨x,t,rfl,rfl⟩
  ·exact wpAny_pyHash_int h
  ·exact wpAny_pyHash_str h
 eqBool:=λhu hv h=>by
  rcases Ij hu with⟨i,t,rfl,rfl⟩ | ⟨x,t,rfl,rfl⟩
  ·rcases Ij hv with⟨j,u,rfl,rfl⟩ | ⟨y,u,rfl,rfl⟩
   ·rw[vq]at h;exact wpAny_eqBool_int h
   ·rw[vt]at h;exact SeqAt.EqAt.int_str i t y u _ _ _ _ h
  ·rcases Ij hv with⟨j,u,rfl,rfl⟩ | ⟨y,u,rfl,rfl⟩
   ·rw[vv]at h;exact SeqAt.EqAt.str_int x t j u _ _ _ _ h
   ·rw[vw]at h;exact wpAny_eqBool_str h
 «strs»:=λk x t v h=>by
  rcases Ij h with⟨i,u,rfl,e⟩ | ⟨y,u,rfl,e⟩
  ·exact nomatch e
  ·injection e with e1 _;subst e1;cases v <;> rfl
def t_(prog:Γ)(w:World)(i:Int)(t:Tok):(Cu prog w).is (.inl i) (.int i t)=true:=qu i t
def uA(prog:Γ)(w:World)(x:Str)(t:Tok):(Cu prog w).is (.inr x) (.str x t)=true:=qv x t
inductive V where
 | non | bl (b:Bool) | int (i:Int) | str (x:Str) | byt (b:Array UInt8) | flt (b:UInt64) | ref (a:ε) | ty (n:String)
 deriving DecidableEq
abbrev _root_.LV:=List V
abbrev _root_.OV:=Option V
abbrev _root_.KL:=List (Key×V)
def AZ:V->χ->Prop
 | .non,u=>u=Value.none
 | .bl b,u=>u=Value.bool b
 | .int i,u=>∃ t,u=Value.int i t
 | .str x,u=>∃ t,u=Value.str x t
 | .byt b,u=>∃ t,u=Value.bytes b t
 | .flt b,u=>∃ t,u=Value.float b t
 | .ref a,u=>u=Value.ref a
 | .ty n,u=>u=Value.type n
abbrev AQ:LV->LU->Prop:=Paired AZ
theorem AQ.length{xs:LV}{us:LU}(r:AQ xs us):↑xs=↑us:=A_ r
theorem AQ.get:∀ {xs:LV}{us:LU}{i:Nat}{x:V},AQ xs us->xs[i]?≈x->∃ u,us[i]?≈u/\AZ x u
 | _,_,_,_,.nil,e=>by simp at e
 | _,_,0,_,.cons r _,e=>by simp at e;subst e;exact⟨Z,r⟩
 | _,_,i + 1,x,.cons _ t,e=>by
  obtain⟨u,h1,h2⟩:=AQ.get (i:=i) (x:=x) t (by simpa using e);exact⟨u,by simpa using h1,h2⟩
theorem AQ.set{x:V}{u:χ}(r:AZ x u):∀ {xs:LV}{us:LU}(i:Nat),AQ xs us->AQ (xs.set i x) (us.set i u)
 | _,_,_,.nil=>.nil
 | _,_,0,.cons _ t=>.cons r t
 | _,_,i + 1,.cons q t=>.cons q (AQ.set r i t)
theorem AQ.append:∀ {xs ys:LV}{us ws:LU},AQ xs us->AQ ys ws->AQ (xs++ys) (us++ws)
 | _,_,_,_,.nil,s=>s
 | _,_,_,_,.cons r t,s=>.cons r (AQ.append t s)
theorem AQ.take:∀ {xs:LV}{us:LU}(n:Nat),AQ xs us->AQ (xs.take n) (us.take n)
 | _,_,0,_=>.nil
 | _,_,_ + 1,.nil=>.nil
 | _,_,n + 1,.cons r t=>.cons r (AQ.take n t)
theorem AQ.drop:∀ {xs:LV}{us:LU}(n:Nat),AQ xs us->AQ (xs.drop n) (us.drop n)
 | _,_,0,r=>r
 | _,_,_ + 1,.nil=>.nil
 | _,_,n + 1,.cons _ t=>AQ.drop n t
def ES:OV->OU->Prop
 | some v,↥u=>AZ v u
 | none,none=>True
 | _,_=>False
def KV{κ:Type}:List (κ×V)->List (κ×χ)->Prop:=Paired λ(p:κ×V) (q:κ×χ)=>p.1=q.1/\AZ p.2 q.2
def kV:Key->V
 | .inl i=>.int i
 | .inr x=>.str x
inductive HO where
 | lst (xs:LV)
 | tup (xs:LV)
 | dK (ν:KL) | dT (ν:List (List Key×V))
 | set (S:Int->Bool) (n:Nat)
 | ins (C dx:ε) (fs:List (Str×V))
 | own (x:ε)
 | xd (fs:List (Str×V))
 | met (f x:ε)
 | rng (lo hi:Int)
 | frz (o:Obj) (u:HO)
 | tbl (ps:μ)
 | ext (φ:Heap->Prop)
abbrev Hp:=ε->Option HO
def upd(H:Hp)(a:ε)(o:HO):Hp:=λb=>if b=a then ↥o else H b
def uS{H:Hp}{a:ε}{o:HO}:upd H a o a≈o:=by unfold upd;rw[if_pos rfl]
def AD{H:Hp}{a b:ε}{o:HO}(h:b≠a):upd H a o b=H b:=by unfold upd;rw[if_neg h]
def Np{H:Hp}{a:ε}{o u:HO}:upd (upd H a o) a u=upd H a u:=by
 funext b;unfold upd;split <;> rfl
def YM{H:Hp}{a b:ε}{o u:HO}(h:H a≈o)(h':H b≈u)(d:o≠u):a≠b:=by
 intro e;subst e;rw[h]at h';exact d (BQ h')
def AK{H:Hp}{a b:ε}{o:HO}(h:H a≈o)(h':H b=none):a≠b:=by
 intro e;subst e;rw[h]at h';cases h'
section
variable (P:Γ)(w:World)
def A7(H:Hp)(h:Heap)(a:ε):HO->Prop
 | .lst xs=>↑xs<=sizeLine/\∃(ψ:LU) (n:Nat),AQ xs ψ/\h.get? a=some {cls:=.type "list",data:=.seq ψ.toArray n}
 | .tup xs=>↑xs<=sizeLine/\∃ ψ:LU,AQ xs ψ/\IsTup h a ψ.toArray
 | .dK ν=>↑ν<=sizeLine/\(a == sysModules)=false/\∃ vs,KV ν vs/\h.DictOf (Cu P w) a vs
 | .dT ν=>↑ν<=sizeLine/\(a == sysModules)=false/\∃ xs:List (List Key×ε×χ),
   Paired (λ(p:List Key×V) (q:List Key×ε×χ)=>p.1=q.1/\H q.2.1≈(.tup (p.1.map kV))/\AZ p.2 q.2.2) ν xs /\
   ∃ o es ep,h.get? a≈o/\o.ExactDict/\o.data=.dict es ep/\es.toList=xs.map (entryOfKey (tupleKind (Cu P w)))/\(xs.map (·.1)).Nodup
 | .set S n=>h.SetOf (intKind P w) a S n
 | .ins C dx fs=>H dx≈(.own a)/\↑fs<=1000/\dx≠a/\h.get? a≈(W.instObj C dx) /\
   ∃ mA,h.Ns1 dx mA/\(∀ f,ES (fs.lookup f) (mA f))/\PySem.Within mA (fs.map (·.1))
 | .own _=>∃ o,h.get? a≈o
 | .xd fs=>∃ mA,h.Ns1 a mA/\∀ f,ES (fs.lookup f) (mA f)
 | .rng lo hi=>∃ t u v,h.get? a=some {cls:=.type "range",data:=.fields #[.int lo t,.int hi u,.int 1 v] }
 | .frz o u=>h.get? a≈o/\A7 H h a u
 | .tbl ps=>h.get? a=some {cls:=.none,data:=.fields ps}
 | .met f x=>h.get? a≈(W.methodObj (.ref f) (.ref x))
 | .ext φ=>φ h/\(∃ o,h.get? a≈o)/\∀ h1 h2:Heap,φ h1->(∀ o,h1.get? a≈o->h2.get? a≈o)->φ h2
def BK(H:Hp)(h:Heap):Prop:=∀ a o,H a≈o->A7 P w H h a o
end
section
variable {P:Γ}{w:World}{H H':Hp}{h h':Heap}{a:ε}{o:HO}
theorem A7.lt(x:A7 P w H h a o):a<h.objs.size:=by
 cases o with
 | lst xs=>obtain⟨_,_,_,_,e⟩:=x;exact Yj e
 | tup xs=>obtain⟨_,_,_,p⟩:=x;exact p.lt
 | dK ν=>obtain⟨_,_,_,_,o,_,_,e,_⟩:=x;exact Yj e
 | dT ν=>obtain⟨_,_,_,_,o,_,_,e,_⟩:=x;exact Yj e
 | set S n=>obtain⟨o,_,_,_,e,_⟩:=x;exact Yj e
 | ins C dx fs=>obtain⟨_,_,_,e,_⟩:=x;exact Yj e
 | own y=>obtain⟨_,e⟩:=x;exact Yj e
 | xd fs=>obtain⟨_,⟨_,_,_,e,_⟩,_⟩:=x;exact Yj e
 | rng lo hi=>obtain⟨_,_,_,e⟩:=x;exact Yj e
 | frz ob u=>obtain⟨e,_⟩:=x;exact Yj e
 | tbl ps=>exact Yj (show h.get? a≈_ from x)
 | met f y=>exact Yj (show h.get? a≈_ from x)
 | ext φ=>obtain⟨_,⟨_,e⟩,_⟩:=x;exact Yj e
theorem Paired.mapP{α β:Type}{F G:α->β->Prop}:∀ {l₁:List α}{l₂:List β},Paired F l₁ l₂->(∀ a b,F a b->G a b)->Paired G l₁ l₂
 | _,_,.nil,_=>.nil
 | _,_,.cons r t,f=>.cons (f _ _ r) (Paired.mapP t f)
def A7.stay(x:A7 P w H h a o)(k:∀ b u,(b=a\/H b≈(.own a))->h.get? b≈u->h'.get? b≈u)
  (ho:∀ b,H b≈(.own a)->H' b≈(.own a)) (ht:∀ b xs,H b≈(.tup xs)->H' b≈(.tup xs)):A7 P w H' h' a o:=by
 induction o with
 | lst xs=>obtain⟨z,ψ,n,r,e⟩:=x;exact⟨z,ψ,n,r,k _ _ (.inl rfl) e⟩
 | tup xs=>obtain⟨z,ψ,r,ob,e,c⟩:=x;exact⟨z,ψ,r,ob,k _ _ (.inl rfl) e,c⟩
 | dK ν=>obtain⟨z,y,vs,r,ob,es,ep,e,c⟩:=x;exact⟨z,y,vs,r,ob,es,ep,k _ _ (.inl rfl) e,c⟩
 | dT ν =>
  obtain⟨z,y,xs,r,ob,es,ep,e,c⟩:=x;exact⟨z,y,xs,Paired.mapP r λp q z=>⟨z.1,ht _ _ z.2.1,z.2.2⟩,ob,es,ep,k _ _ (.inl rfl) e,c⟩
 | set S n=>obtain⟨ob,es,ep,t,e,c⟩:=x;exact⟨ob,es,ep,t,k _ _ (.inl rfl) e,c⟩
 | ins C dx fs =>
  obtain⟨d,z,ne,e,mA,⟨od,es,ep,e2,c⟩,r⟩:=x;exact⟨ho _ d,z,ne,k _ _ (.inl rfl) e,mA,⟨od,es,ep,k _ _ (.inr d) e2,c⟩,r⟩
 | own y=>obtain⟨ob,e⟩:=x;exact⟨ob,k _ _ (.inl rfl) e⟩
 | xd fs=>obtain⟨mA,⟨od,es,ep,e,c⟩,r⟩:=x;exact⟨mA,⟨od,es,ep,k _ _ (.inl rfl) e,c⟩,r⟩
 | rng lo hi=>obtain⟨t,u,v,e⟩:=x;exact⟨t,u,v,k _ _ (.inl rfl) e⟩
 | frz ob u ih=>obtain⟨e,q⟩:=x;exact⟨k _ _ (.inl rfl) e,ih q⟩
 | tbl ps =>
  have e:h.get? a=some {cls:=.none,data:=.fields ps}:=x;show h'.get? a=some {cls:=.none,data:=.fields ps};exact k a _ (.inl rfl) e
 | met f y =>
  have e:h.get? a≈(W.methodObj (.ref f) (.ref y)):=x;show h'.get? a≈(W.methodObj (.ref f) (.ref y));exact k a _ (.inl rfl) e
 | ext φ=>obtain⟨p,⟨o,e⟩,st⟩:=x;exact⟨st _ _ p λo q=>k _ _ (.inl rfl) q,⟨o,k _ _ (.inl rfl) e⟩,st⟩
theorem BK.lt(x:BK P w H h)(e:H a≈o):a<h.objs.size:=(x a o e).lt
def BK.fresh(x:BK P w H h)(e:h.objs.size<=a):H a=none:=by
 cases q:H a with
 | none=>rfl
 | some u=>exact absurd (Yo (x.lt q) e) (F9 _)
def BK.kept(x:BK P w H h)(k:∀ b u,h.get? b≈u->h'.get? b≈u):BK P w H h':=λa o e =>
 (x a o e).stay (λb u _ q=>k b u q) (λ_ q=>q) λ_ _ q=>q
def BK.laid(x:BK P w H h)(k:∀ b u,h.get? b≈u->h'.get? b≈u)(hp:h.objs.size<=a)(new:A7 P w (upd H a o) h' a o):BK P w (upd H a o) h':=λb u e=>by
 have hn:=x.fresh hp;by_cases hb:b=a
 ·subst hb;rw[uS]at e;cases e;exact new
 ·rw[AD hb]at e;exact(x b u e).stay (λc v _ q=>k c v q) (λc q=>by rw[AD (AK q hn)];exact q) λc xs q=>by rw[AD (AK q hn)];exact q
end
def Rd(H:Hp)(a:ε)(u:HO):Prop:=H a≈u\/∃ o,H a≈(.frz o u)
def Rd.ok{P:Γ}{w:World}{H:Hp}{h:Heap}{a:ε}{u:HO}(r:Rd H a u)(x:BK P w H h):A7 P w H h a u:=by
 rcases r with r | ⟨o,r⟩
 ·exact x a u r
 ·obtain⟨_,q⟩:=x a _ r;exact q
def RV:Option HO->Prop
 | some (.lst _)=>True
 | some (.dK _)=>True
 | some (.dT _)=>True
 | some (.set _ _)=>True
 | some (.ins _ _ _)=>True
 | some (.ext _)=>True
 | _=>False
section
variable {P:Γ}{w:World}{H:Hp}{h h':Heap}{x e:ε}{o':HO}
def BK.write(ok:BK P w H h)(mu:RV (H x))(he:e=x\/H e≈(.own x))(k:∀ b u,b≠e->h.get? b≈u->h'.get? b≈u)(heo:∃ u,h'.get? e≈u)
  (new:A7 P w (upd H x o') h' x o'):BK P w (upd H x o') h':=λb u q=>by
 have nown:∀ c y,H c≈(.own y)->c≠x:=λc y r z=>by subst z;rw[r]at mu;exact mu
 have ntup:∀ c xs,H c≈(.tup xs)->c≠x:=λc xs r z=>by subst z;rw[r]at mu;exact mu
 by_cases hb:b=x
 ·subst hb;rw[uS]at q;cases q;exact new
 ·rw[AD hb]at q;by_cases hbe:b=e
  ·have q':H b≈(.own x):=by
    rcases he with z | z
    ·exact absurd (hbe.trans z) hb
    ·rw[hbe];exact z
   rw[q]at q';cases q';obtain⟨v,hv⟩:=heo;exact⟨v,by rw[hbe];exact hv⟩
  ·refine(ok b u q).stay (λc v hc r=>k c v ?_ r) (λc r=>by rw[AD (nown c b r)];exact r) λc xs r=>by rw[AD (ntup c xs r)];exact r
   rcases hc with rfl | hc
   ·exact hbe
   ·rintro rfl
    rcases he with z | z
    ·exact nown c b hc z
    ·rw[hc]at z;cases z;exact hb rfl
end
structure Un(fs ex:τ)(H H':Hp)(h h':Heap):Prop where
 keep:∀ b o,h.get? b≈o->H b=none->b∉fs->b∉ex->h'.get? b≈o
 slot:∀ b o,h.get? b≈o->H b=none->b∈fs->b∉ex->∃ sl,h'.get? b=some {o with slots:=sl}
 free:∀ b o,h.get? b≈o->H b=none->b∉ex->H' b=none
 there:∀ b o,h.get? b≈o->b∉ex->∃ o',h'.get? b≈o'
 tups:∀ b xs,H b≈(.tup xs)->H' b≈(.tup xs)
 frzs:∀ b o u,H b≈(.frz o u)->H' b≈(.frz o u)
 tbls:∀ b ps,H b≈(.tbl ps)->∃ more,H' b≈(.tbl (ps++more))
section
variable {fs B0 ex ex':τ}{H H1 H2:Hp}{h h1 h2 h':Heap}{a x e:ε}{o:HO}
def Un.any(u:Un fs ex H H1 h h1){b:ε}{ob:Obj}(q:h.get? b≈ob)(n:H b=none)(hx:b∉ex):∃ sl,h1.get? b=some {ob with slots:=sl}:=by
 by_cases hb:b∈fs
 ·exact u.slot b ob q n hb hx
 ·exact⟨ob.slots,u.keep b ob q n hb hx⟩
def Un.kept(k:∀ b u,h.get? b≈u->h'.get? b≈u):Un fs ex H H h h' :=
 ⟨λb ob q _ _ _=>k b ob q,λb ob q _ _ _=>⟨ob.slots,k b ob q⟩,λ_ _ _ n _=>n,λb ob q _=>⟨ob,k b ob q⟩,λ_ _ q=>q,λ_ _ _ q=>q,λ_ ps q=>⟨#[],by rw[q];simp⟩⟩
def Un.refl:Un fs ex H H h h:=Un.kept λ_ _ q=>q
def Un.laid(k:∀ b u,h.get? b≈u->h'.get? b≈u)(hp:h.objs.size<=a)(hn:H a=none):Un fs ex H (upd H a o) h h' where
 keep:=λb u q _ _ _=>k b u q
 slot:=λb u q _ _ _=>⟨u.slots,k b u q⟩
 free:=λb u q n _=>by rw[AD (Yv (Yo (Yj q) hp))];exact n
 there:=λb u q _=>⟨u,k b u q⟩
 tups:=λb xs q=>by rw[AD (AK q hn)];exact q
 frzs:=λb u xs q=>by rw[AD (AK q hn)];exact q
 tbls:=λb ps q=>⟨#[],by rw[AD (AK q hn),q];simp⟩
def Un.write(mu:RV (H x))(he:e=x\/H e≈(.own x))(k:∀ b u,b≠e->h.get? b≈u->h'.get? b≈u)(heo:∃ u,h'.get? e≈u):Un fs ex H (upd H x o) h h':=by
 have hx:∀ b,H b=none->b≠x:=λb n z=>by subst z;rw[n]at mu;exact mu
 have hb:∀ b,H b=none->b≠e:=λb n z=>by
  subst z
  rcases he with r | r
  ·exact hx b n r
  ·rw[n]at r;cases r
 have hm:∀ b u,H b≈u->¬ RV (↥u)->b≠x:=λb u q nm z=>by subst z;rw[q]at mu;exact nm mu
 refine⟨λb u q n _ _=>k b u (hb b n) q,λb u q n _ _=>⟨u.slots,k b u (hb b n) q⟩,λb u q n _=>by rw[AD (hx b n)];exact n,λb u q _=>?_,
  λb xs q=>by rw[AD (hm b _ q λz=>z)];exact q,λb u xs q=>by rw[AD (hm b _ q λz=>z)];exact q,λb ps q=>⟨#[],by rw[AD (hm b _ q λz=>z),q];simp⟩⟩
 by_cases hbe:b=e
 ·subst hbe;exact heo
 ·exact⟨u,k b u hbe q⟩
end
def SS(h:Heap)(H:Hp):τ:=(List.range h.objs.size).filter λa=>(H a).isSome
def IK(h:Heap)(H:Hp):Heap:=W.hideAll h (SS h H)
def qT(h:Heap)(H:Hp):(IK h H).objs.size=h.objs.size:=W.hideAll_size _ _
def oB{h:Heap}{H:Hp}{b:ε}{o:Obj}(e:h.get? b≈o)(n:H b=none):(IK h H).get? b≈o :=
 W.hideAll_get _ e λhm=>by
  have q:(H b).isSome=true:=(Cc.mp hm).2;rw[n]at q;simp at q
def xn{h:Heap}{H:Hp}{b:ε}{o:Obj}(e:(IK h H).get? b≈o):h.get? b≈o/\H b=none:=by
 have e':h.get? b≈o:=W.of_hideAll (SS h H) e;refine⟨e',?_⟩;cases q:H b with
 | none=>rfl
 | some x =>
  have hm:b∈SS h H:=Cc.mpr ⟨CA.mpr (Yj e'),by simp[q]⟩;have z:(IK h H).get? b=none:=W.hideAll_none (SS h H) hm;rw[z]at e;cases e
def xi(g h:Heap)(L:ε):PL:=(List.range h.objs.size).filterMap λa=>if a=L\/(g.get? a).isSome=true then none else(h.get? a).map λo=>(a,o)
def Ay(g h:Heap)(L d:ε):PL:=(xi g h L).filter λp=>decide (p.1≠d)
structure Mod(K:Fg)(mg:Str->OU)(base:Heap):Prop where
 kin:K.In base
 glob:base.Ns mainGlobals mg
 blt:∃ mb,base.Ns builtinsNs mb/\∀ x:Str,x≠"__name__"->mb x=bootBuiltins x
 nolimit:base.NoLimit
structure Cx where
 prog:Γ
 w:World
 K:Fg
 mg:Str->OU
 base:Heap
 A:Around
 N:LS
 s₀:ω
 H₀:Hp
 env:Env
 outer:List Env
 stack:List Env
 ex:τ
 fn:Str->Bool
 calm:Bool
 pn:PL
 xe:EV
def CZ(l:List Env):τ:=l.filterMap (·.frame)
abbrev Cx.fs(X:Cx):τ:=CZ X.outer
def RK(sc:Scope)(x:Str):Prop:=sc.names.lookup x≈.local\/sc.names.lookup x≈.cell\/sc.names.lookup x≈.free
def Loc(sc:Scope)(x:Str):Prop:=sc.names.lookup x≈.local\/sc.names.lookup x≈.cell
def yw(env:Env)(h:Heap)(m:Str->OU)(x:Str)(u:χ):Prop :=
 (env.kindOf x≈.local/\m x≈u)\/((env.kindOf x≈.cell\/env.kindOf x≈.free)/\∃ c,env.cells.lookup x≈c/\h.IsCell c (↥u))
structure Cx.Ok(X:Cx):Prop where
 mod:Mod X.K X.mg X.base
 kind:X.env.scope.kind=.function
 glob:X.env.globals=mainGlobals
 blt:X.env.builtins=builtinsNs
 above:⇑X.s₀<=X.env.locals
 inj:∀ x y c,X.env.cells.lookup x≈c->X.env.cells.lookup y≈c->x=y
 has:∀ x,(X.env.kindOf x≈.cell\/X.env.kindOf x≈.free)->∃ c,X.env.cells.lookup x≈c
 cab:∀ x c,X.fn x=true->X.env.cells.lookup x≈c->⇑X.s₀<=c
 hd:X.calm=true->X.A.handled=none
 frames:X.A.frames≈X.stack
 stk:X.stack=X.outer\/(X.stack=X.env :: X.outer/\X.env.frame≈X.env.locals)
 exf:∀ b∈X.ex,b≠X.env.locals/\∀ x c,X.env.cells.lookup x≈c->c≠b
 bs:∀ b o,X.base.get? b≈o->X.s₀.heap.get? b≈o/\X.H₀ b=none
 bsz:X.base.objs.size<=⇑X.s₀
 noex:∀ b o,X.base.get? b≈o->b∉X.ex
 exfs:∀ b∈X.ex,b∉X.fs
 funs:X.s₀.heap.FunFrames X.base X.outer
 frf:∀ b∈X.fs,X.H₀ b=none
structure Inv(X:Cx)(π:PL)(σ:List (OV))(H:Hp)(s:ω):Prop where
 ok:X.Ok
 os:s.os=X.s₀.os
 bare:AllBare s.gens
 base:Un X.fs X.ex X.H₀ H X.s₀.heap s.heap
 loc:∃ m,s.heap.Ns X.env.locals m/\∀(i:Nat) (x:Str) (v:V),X.N[i]?≈x->σ[i]?≈(↥v)->RK X.env.scope x->∃ u,AZ v u/\yw X.env s.heap m x u
 cell:∀ x c,X.env.cells.lookup x≈c->∃ v,s.heap.IsCell c v
 free:H X.env.locals=none
 freeC:∀ x c,X.env.cells.lookup x≈c->H c=none
 pin:∀ p∈X.pn++π,s.heap.get? p.1≈p.2/\H p.1=none/\p.1≠X.env.locals/\p.1∉X.fs/\∀ v,p.2.data≠.cell v
 hok:BK X.prog X.w H s.heap
 len:↑σ=↑X.N
section
variable {X:Cx}{π:PL}{σ:List (OV)}{H H':Hp}{s:ω}{h':Heap}
def Cx.Ok.nofr(ok:X.Ok){b:ε}{o:Obj}(e:X.base.get? b≈o):b∉X.fs:=λhb=>by
 have:=(ok.funs.mem hb).1;rw[e]at this;cases this
theorem Inv.bs(I:Inv X π σ H s):∀ b o,X.base.get? b≈o->s.heap.get? b≈o/\H b=none:=λb o e =>
 ⟨I.base.keep b o (I.ok.bs b o e).1 (I.ok.bs b o e).2 (I.ok.nofr e) (I.ok.noex b o e),I.base.free b o (I.ok.bs b o e).1 (I.ok.bs b o e).2 (I.ok.noex b o e)⟩
def Inv.bk(I:Inv X π σ H s):∀ b o,X.base.get? b≈o->s.heap.get? b≈o:=λb o e=>(I.bs b o e).1
theorem Inv.mod(I:Inv X π σ H s):Mod X.K X.mg X.base:=I.ok.mod
def Inv.kIn(I:Inv X π σ H s):X.K.In s.heap:=I.ok.mod.kin.keeps I.bk
theorem Inv.nolimit(I:Inv X π σ H s):s.heap.NoLimit:=I.ok.mod.nolimit.keeps I.bk
theorem Inv.lt(I:Inv X π σ H s):X.env.locals<⇑s:=let⟨_,hn,_⟩:=I.loc;hn.lt
def Inv.sz(I:Inv X π σ H s):⇑X.s₀<=⇑s:=A8 I.ok.above (MT I.lt)
def Inv.nofs(I:Inv X π σ H s){a:ε}(h:⇑s<=a):a∉X.fs:=λhb=>by
 obtain⟨_,o,ho,_⟩:=I.ok.funs.mem hb;exact absurd (Yo (Yj ho) (A8 I.sz h)) (F9 _)
def Inv.cne(I:Inv X π σ H s):∀ x c,X.env.cells.lookup x≈c->c≠X.env.locals:=λx c e z=>by
 obtain⟨v,o,ho,hd⟩:=I.cell x c e;obtain⟨m,⟨o',es,ep,JG,Pb,_⟩,_⟩:=I.loc;rw[z,JG]at ho;cases ho;rw[Pb]at hd;cases hd
theorem Inv.funs(I:Inv X π σ H s):s.heap.FunFrames X.base X.outer:=by
 have all:∀(l:List Env),(∀ b∈CZ l,b∈X.fs)->X.s₀.heap.FunFrames X.base l->s.heap.FunFrames X.base l:=by
  intro l
  induction l with
  | nil=>intro _ _;trivial
  | cons env r ih =>
   intro hs hl;obtain⟨hk,⟨L,o,hf,hn,ho,hd⟩,hr⟩:=hl;have hL:L∈X.fs:=hs L (by unfold CZ;rw[List.filterMap_cons,hf];exact Jr);obtain⟨sl,e⟩:=I.base.slot L o ho (I.ok.frf L hL) hL λz=>I.ok.exfs L z hL;exact⟨hk,⟨L,_,hf,hn,e,hd⟩,ih (λb hb=>hs b (by unfold CZ;rw[List.filterMap_cons,hf];exact G6 _ hb)) hr⟩
 exact all X.outer (λ_ hb=>hb) I.ok.funs
theorem Inv.stack(I:Inv X π σ H s):s.heap.FunFrames X.base X.stack:=by
 rcases I.ok.stk with e | ⟨e,hf⟩
 ·rw[e];exact I.funs
 ·rw[e];obtain⟨m,hn,_⟩:=I.loc;refine .cons (by rw[I.ok.kind];decide) hf hn ?_ I.funs;exact Heap.get?_none_of_le (A8 I.ok.bsz I.ok.above)
def Inv.stkSub(I:Inv X π σ H s):∀ b∈CZ X.stack,b∈X.env.locals :: X.fs:=λb hb=>by
 rcases I.ok.stk with e | ⟨e,hf⟩
 ·rw[e]at hb;exact G6 _ hb
 ·rw[e]at hb;unfold CZ at hb;rw[List.filterMap_cons,hf]at hb;exact hb
def Inv.stkFree(I:Inv X π σ H s):∀ b∈CZ X.stack,H b=none:=λb hb=>by
 rcases Yl.mp (I.stkSub b hb)with e | hb
 ·rw[e];exact I.free
 ·obtain⟨_,o,ho,_⟩:=I.ok.funs.mem hb;exact I.base.free b o ho (I.ok.frf b hb) λz=>I.ok.exfs b z hb
def Inv.step{g':Array GenState}{t':Nat}{d':Drawn}{ch:τ}(I:Inv X π σ H s)
  (hch:∀ b∈ch,(b∈X.ex\/⇑X.s₀<=b)/\b≠X.env.locals/\(∀ x c,X.env.cells.lookup x≈c->c≠b)/\∀ p∈X.pn++π,p.1≠b)
  (keep:∀ b o,b≠X.env.locals->b∉X.fs->b∉ch->s.heap.get? b≈o->H b=none->h'.get? b≈o)
  (slot:∀ b o,b≠X.env.locals->b∈X.fs->b∉ch->s.heap.get? b≈o->H b=none->∃ sl,h'.get? b=some {o with slots:=sl}) (free:∀ b o,b∉ch->s.heap.get? b≈o->H b=none->H' b=none)
  (there:∀ b o,b∉ch->s.heap.get? b≈o->∃ o',h'.get? b≈o')
  (tups:∀ b xs,H b≈(.tup xs)->H' b≈(.tup xs)) (frzs:∀ b o u,H b≈(.frz o u)->H' b≈(.frz o u)) (tbls:∀ b ps,H b≈(.tbl ps)->∃ more,H' b≈(.tbl (ps++more)))
  (ns:∀ m,s.heap.Ns X.env.locals m->h'.Ns X.env.locals m) (hok:BK X.prog X.w H' h') (hg:AllBare g'):
  Inv X π σ H' {s with heap:=h',gens:=g',drawn:=d',toks:=t' }:=by
 have neL:∀ b o,X.s₀.heap.get? b≈o->b≠X.env.locals:=λb o e=>Yv (Yo (Yj e) I.ok.above);have neC:∀ b o,X.s₀.heap.get? b≈o->b∉X.ex->b∉ch:=λb o e hx hb=>by
  rcases(hch b hb).1 with z | z
  ·exact hx z
  ·exact absurd (Yo (Yj e) z) (F9 _)
 have cellK:∀ x c,X.env.cells.lookup x≈c->∀ v,s.heap.IsCell c v->h'.IsCell c v:=λx c e v ⟨o,ho,hd⟩=>by
  have nch:c∉ch:=λz=>(hch c z).2.2.1 x c e rfl;by_cases hc:c∈X.fs
  ·obtain⟨sl,q⟩:=slot c o (I.cne x c e) hc nch ho (I.freeC x c e);exact⟨_,q,hd⟩
  ·exact⟨o,keep c o (I.cne x c e) hc nch ho (I.freeC x c e),hd⟩
 refine⟨I.ok,I.os,hg,⟨λb o e n hb hx=>?_,λb o e n hb hx=>?_,λb o e n hx=>?_,λb o e hx=>?_,λb xs e=>tups b xs (I.base.tups b xs e),λb o xs e=>frzs b o xs (I.base.frzs b o xs e),λb ps e=>?_⟩,?_,λx c e=>?_,?_,λx c e=>?_,λp hp=>?_,hok,I.len⟩
 ·exact keep b o (neL b o e) hb (neC b o e hx) (I.base.keep b o e n hb hx) (I.base.free b o e n hx)
 ·obtain⟨sl,e1⟩:=I.base.slot b o e n hb hx;obtain⟨O1,e2⟩:=slot b _ (neL b o e) hb (neC b o e hx) e1 (I.base.free b o e n hx);exact⟨O1,e2⟩
 ·obtain⟨o',e1⟩:=I.base.there b o e hx;exact free b o' (neC b o e hx) e1 (I.base.free b o e n hx)
 ·obtain⟨o',e1⟩:=I.base.there b o e hx;exact there b o' (neC b o e hx) e1
 ·obtain⟨m1,e1⟩:=I.base.tbls b ps e;obtain⟨m2,e2⟩:=tbls b _ e1;exact⟨m1++m2,by rw[e2,Array.append_assoc]⟩
 ·obtain⟨m,hn,hl⟩:=I.loc;refine⟨m,ns m hn,λi x v e1 e2 e3=>?_⟩;obtain⟨u,r,l⟩:=hl i x v e1 e2 e3;refine⟨u,r,?_⟩
  rcases l with l | ⟨k,c,e,z⟩
  ·exact .inl l
  ·exact .inr ⟨k,c,e,cellK x c e _ z⟩
 ·obtain⟨v,z⟩:=I.cell x c e;exact⟨v,cellK x c e v z⟩
 ·obtain⟨m,⟨o,_,_,ho,_⟩,_⟩:=I.loc;exact free _ o (λz=>(hch _ z).2.1 rfl) ho I.free
 ·obtain⟨v,o,ho,hd⟩:=I.cell x c e;exact free c o (λz=>(hch c z).2.2.1 x c e rfl) ho (I.freeC x c e)
 ·obtain⟨e,n,ne,nf,d⟩:=I.pin p hp;have nch:p.1∉ch:=λz=>(hch p.1 z).2.2.2 p hp rfl;exact⟨keep p.1 p.2 ne nf nch e n,free p.1 p.2 nch e n,ne,nf,d⟩
def Inv.un{t':Nat}(I:Inv X π σ H s)(u:Un X.fs [] H H' s.heap h')(hok:BK X.prog X.w H' h'):Inv X π σ H' {s with heap:=h',toks:=t' }:=by
 obtain⟨m,⟨o,es,ep,ho,r⟩,_⟩:=id I.loc;obtain⟨sl,hL⟩:=u.any ho I.free (by simp);exact I.step (g':=s.gens) (d':=s.drawn) (ch:=[]) (λ_ z=>nomatch z) (λb o _ hb _ e n=>u.keep b o e n hb (by simp)) (λb o _ hb _ e n=>u.slot b o e n hb (by simp)) (λb o _ e n=>u.free b o e n (by simp)) (λb o _ e=>u.there b o e (by simp)) u.tups u.frzs u.tbls (λm' hm=>by
  obtain⟨o',NO,NP,JG,r'⟩:=hm;rw[ho]at JG;cases JG;exact⟨_,NO,NP,hL,r'⟩) hok I.bare
def Inv.call{g':Array GenState}{t':Nat}{d':Drawn}{ch:τ}(I:Inv X π σ H s)(u:Un (CZ X.stack) ch H H' s.heap h')(hok:BK X.prog X.w H' h')(hg:AllBare g')
  (hch:∀ b∈ch,(b∈X.ex\/⇑X.s₀<=b)/\b≠X.env.locals/\(∀ x c,X.env.cells.lookup x≈c->c≠b)/\∀ p∈X.pn++π,p.1≠b):
  Inv X π σ H' {s with heap:=h',gens:=g',drawn:=d',toks:=t' }:=by
 obtain⟨m,⟨o,es,ep,ho,r⟩,_⟩:=id I.loc;obtain⟨sl,hL⟩:=u.any ho I.free λz=>(hch _ z).2.1 rfl;exact I.step (ch:=ch) hch (λb o hL hb hc e n=>u.keep b o e n (λz=>(Yl.mp (I.stkSub b z)).elim hL hb) hc) (λb o _ _ hc e n=>u.any e n hc) (λb o hc e n=>u.free b o e n hc) (λb o hc e=>u.there b o e hc) u.tups u.frzs u.tbls (λm' hm=>by
  obtain⟨o',NO,NP,JG,r'⟩:=hm;rw[ho]at JG;cases JG;exact⟨_,NO,NP,hL,r'⟩) hok hg
def Inv.turned{t':Nat}{it:ε}(I:Inv X π σ H s)(k:∀ b o,b≠it->s.heap.get? b≈o->h'.get? b≈o)(hn:H it=none)(hL:it≠X.env.locals)
  (h1:it∈X.ex\/⇑X.s₀<=it) (h2:∀ x c,X.env.cells.lookup x≈c->c≠it) (h3:∀ p∈X.pn++π,p.1≠it):Inv X π σ H {s with heap:=h',toks:=t' }:=by
 have nit:∀ b u,H b≈u->b≠it:=λb u e z=>by rw[z,hn]at e;cases e
 refine I.step (g':=s.gens) (d':=s.drawn) (ch:=[it]) (λb hb=>?_) (λb o _ _ hc e _=>k b o (λz=>hc (by simp[z])) e) (λb o _ _ hc e _=>⟨o.slots,k b o (λz=>hc (by simp[z])) e⟩) (λ_ _ _ _ n=>n)
  (λb o hc e=>⟨o,k b o (λz=>hc (by simp[z])) e⟩) (λ_ _ e=>e) (λ_ _ _ e=>e) (λb ps e=>⟨#[],by rw[e];simp⟩) (λm hm=>?_) (λb u e=>?_) I.bare
 ·have e:b=it:=by simpa using hb
  subst e;exact⟨h1,hL,h2,h3⟩
 ·obtain⟨o,es,ep,ho,r⟩:=hm;exact⟨o,es,ep,k _ o (Yx hL) ho,r⟩
 ·refine(I.hok b u e).stay (λc v hc q=>k c v ?_ q) (λ_ q=>q) λ_ _ q=>q
  rcases hc with z | z
  ·rw[z];exact nit b u e
  ·exact nit c _ z
def Inv.tok(I:Inv X π σ H s)(t:Nat):Inv X π σ H {s with toks:=t}:=I.un (h':=s.heap) (t':=t) Un.refl I.hok
theorem Inv.kept{t':Nat}(I:Inv X π σ H s)(k:∀ b u,s.heap.get? b≈u->h'.get? b≈u):Inv X π σ H {s with heap:=h',toks:=t' }:=I.un (Un.kept k) (I.hok.kept k)
theorem Inv.laid{a:ε}{o:HO}{t':Nat}(I:Inv X π σ H s)(k:∀ b u,s.heap.get? b≈u->h'.get? b≈u)(hp:⇑s<=a)(new:A7 X.prog X.w (upd H a o) h' a o):
  Inv X π σ (upd H a o) {s with heap:=h',toks:=t' }:=I.un (Un.laid k hp (I.hok.fresh hp)) (I.hok.laid k hp new)
theorem Inv.write{x e:ε}{o:HO}{t':Nat}(I:Inv X π σ H s)(mu:RV (H x))(he:e=x\/H e≈(.own x))(k:∀ b u,b≠e->s.heap.get? b≈u->h'.get? b≈u)(heo:∃ u,h'.get? e≈u)
  (new:A7 X.prog X.w (upd H x o) h' x o):Inv X π σ (upd H x o) {s with heap:=h',toks:=t' }:=I.un (Un.write mu he k heo) (I.hok.write mu he k heo new)
def Inv.pins_of{Bc:PL}(I:Inv X π σ H s)(h:∀ p∈Bc,s.heap.get? p.1≈p.2/\H p.1=none/\p.1≠X.env.locals/\p.1∉X.fs/\∀ v,p.2.data≠.cell v):Inv X Bc σ H s :=
 ⟨I.ok,I.os,I.bare,I.base,I.loc,I.cell,I.free,I.freeC,λp hp=>(Yp.mp hp).elim (λz=>I.pin p (Jm _ z)) (h p),I.hok,I.len⟩
def Lx{N:LS}(hN:N.Nodup){i j:Nat}{x:Str}(a:N[i]?≈x)(b:N[j]?≈x):i=j:=by
 obtain⟨h1,e1⟩:=Ye.mp a;obtain⟨h2,e2⟩:=Ye.mp b;exact(List.getElem_inj hN).mp (e1.trans e2.symm)
def f_{M:Model}{A:Around}{E:EV}{i:Nat}{x:Str}{v:V}{u:χ}{Q:Unit->ω->Prop}(I:Inv X π σ H s)(hN:X.N.Nodup)(hi:X.N[i]?≈x)(hx:Loc X.env.scope x)(r:AZ v u)
  (h:∀ s',Inv X π (σ.set i (↥v)) H s'->(∃ a,Heap.SameBut a s.heap s'.heap/\(a=X.env.locals\/X.env.cells.lookup x≈a))->Q () s') (hf:X.fn x=true\/X.env.scope.names.lookup x≈.local:=by first | exact .inl rfl | exact .inr rfl | assumption):wpAny M A (storeName X.env x u) Q E s:=by
 obtain⟨m,hn,hl⟩:=id I.loc;have hcls:(X.env.scope.kind == .class || (X.env.scope.kind == .module&&X.env.locals != X.env.globals))=false:=by rw[I.ok.kind];rfl
 have hiσ:i<↑σ:=by rw[I.len];exact(Ye.mp hi).1
 have cne:=I.cne;have tracked:∀ {a:ε} {h':Heap},(∃ o,s.heap.get? a≈o/\H a=none)->Heap.SameBut a s.heap h'->BK X.prog X.w H h':=λ{a h'} ha hs b ob e=>by
  obtain⟨_,_,Aq⟩:=ha;refine(I.hok b ob e).stay (λc w' hc q=>(hs.2 c ?_).trans q) (λ_ q=>q) λ_ _ q=>q;rintro rfl
  rcases hc with rfl | hc
  ·rw[Aq]at e;cases e
  ·rw[Aq]at hc;cases hc
 rcases hx with hk | hk
 ·refine wpAny_storeName_local hk hn (λh' mW hs=>?_) hcls;obtain⟨oL,_,_,hoL,_⟩:=id hn;refine h _ ⟨I.ok,I.os,I.bare,⟨λb o e n hb hx=>?_,λb o e n hb hx=>?_,I.base.free,λb o e hx=>?_,I.base.tups,I.base.frzs,I.base.tbls⟩,⟨_,mW,λj y v' e1 e2 e3=>?_⟩,λy c e=>?_,I.free,I.freeC,λp hp=>?_,tracked ⟨oL,hoL,I.free⟩ hs,by simpa using I.len⟩ ⟨_,hs,.inl rfl⟩
  ·exact(hs.2 b (Yv (Yo (Yj e) I.ok.above))).trans (I.base.keep b o e n hb hx)
  ·obtain⟨sl,e1⟩:=I.base.slot b o e n hb hx;exact⟨sl,(hs.2 b (Yv (Yo (Yj e) I.ok.above))).trans e1⟩
  ·obtain⟨o',e1⟩:=I.base.there b o e hx;exact⟨o',(hs.2 b (Yv (Yo (Yj e) I.ok.above))).trans e1⟩
  ·by_cases hj:j=i
   ·subst hj;rw[hi]at e1;cases e1;rw[Jn hiσ]at e2;cases e2;exact⟨u,r,.inl ⟨hk,by simp⟩⟩
   ·rw[MO (Yx hj)]at e2;obtain⟨u',r',q⟩:=hl j y v' e1 e2 e3;refine⟨u',r',?_⟩
    rcases q with⟨k,e⟩ | ⟨k,c,e,z⟩
    ·refine .inl ⟨k,?_⟩;have:y≠x:=λe=>hj (Lx hN e1 (e ▸ hi));simp[this,e]
    ·exact .inr ⟨k,c,e,z.sameBut hs (cne y c e)⟩
  ·obtain⟨w',z⟩:=I.cell y c e;exact⟨w',z.sameBut hs (cne y c e)⟩
  ·obtain⟨e,n,ne,nf,d⟩:=I.pin p hp;exact⟨(hs.2 p.1 ne).trans e,n,ne,nf,d⟩
 ·have hfn:X.fn x=true:=by
   rcases hf with z | z
   ·exact z
   ·rw[z]at hk;cases hk
  obtain⟨c,hc⟩:=I.ok.has x (.inl hk);obtain⟨w',z⟩:=I.cell x c hc;refine wpAny_storeName_cell I.ok.kind hk hc z (λh' BM hs=>?_);obtain⟨oc,hoc,hocd⟩:=id z;refine h {s with heap:=h' } ⟨I.ok,I.os,I.bare,⟨λb o e n hb hx=>?_,λb o e n hb hx=>?_,I.base.free,λb o e hx=>?_,I.base.tups,I.base.frzs,I.base.tbls⟩,⟨m,hn.sameBut hs (Yx (cne x c hc)),λj y v' e1 e2 e3=>?_⟩,λy c' e=>?_,I.free,I.freeC,λp hp=>?_,tracked ⟨oc,hoc,I.freeC x c hc⟩ hs,by simpa using I.len⟩ ⟨c,hs,.inr hc⟩
  ·exact(hs.2 b (Yv (Yo (Yj e) (I.ok.cab x c hfn hc)))).trans (I.base.keep b o e n hb hx)
  ·obtain⟨sl,e1⟩:=I.base.slot b o e n hb hx;exact⟨sl,(hs.2 b (Yv (Yo (Yj e) (I.ok.cab x c hfn hc)))).trans e1⟩
  ·obtain⟨o',e1⟩:=I.base.there b o e hx;exact⟨o',(hs.2 b (Yv (Yo (Yj e) (I.ok.cab x c hfn hc)))).trans e1⟩
  ·by_cases hj:j=i
   ·subst hj;rw[hi]at e1;cases e1;rw[Jn hiσ]at e2;cases e2;exact⟨u,r,.inr ⟨.inl hk,c,hc,BM⟩⟩
   ·rw[MO (Yx hj)]at e2;obtain⟨u',r',q⟩:=hl j y v' e1 e2 e3;refine⟨u',r',?_⟩
    rcases q with q | ⟨k,c',e,z'⟩
    ·exact .inl q
    ·refine .inr ⟨k,c',e,z'.sameBut hs ?_⟩;rintro rfl;exact hj (Lx hN e1 (I.ok.inj _ _ _ e hc ▸ hi))
  ·by_cases hcc:c'=c
   ·subst hcc;exact⟨_,BM⟩
   ·obtain⟨w2,z2⟩:=I.cell y c' e;exact⟨w2,z2.sameBut hs hcc⟩
  ·obtain⟨e,n,ne,nf,d⟩:=I.pin p hp;refine⟨(hs.2 p.1 ?_).trans e,n,ne,nf,d⟩;intro q;rw[q,hoc]at e;have q':oc=p.2:=BQ e;exact d w' (by rw[<- q'];exact hocd)
def UC{M:Model}{A:Around}{E:EV}{i:Nat}{x:Str}{v:V}{u:χ}{Q:Unit->ω->Prop}(I:Inv X π σ H s)(hN:X.N.Nodup)(hi:X.N[i]?≈x)(hx:Loc X.env.scope x)(r:AZ v u)
  (h:∀ s',Inv X π (σ.set i (↥v)) H s'->Q () s') (hf:X.fn x=true\/X.env.scope.names.lookup x≈.local:=by first | exact .inl rfl | exact .inr rfl | assumption):wpAny M A (storeName X.env x u) Q E s :=
 f_ I hN hi hx r (λs' I' _=>h s' I') hf
def Inv.call'{s':ω}{ch:τ}(I:Inv X π σ H s)(ho:s'.os=s.os)(u:Un (CZ X.stack) ch H H' s.heap s'.heap)(hok:BK X.prog X.w H' s'.heap)(hg:AllBare s'.gens)
  (hch:∀ b∈ch,(b∈X.ex\/⇑X.s₀<=b)/\b≠X.env.locals/\(∀ x c,X.env.cells.lookup x≈c->c≠b)/\∀ p∈X.pn++π,p.1≠b):Inv X π σ H' s':=by
 obtain⟨h',g',d',t',o'⟩:=s';have e:o'=s.os:=ho;subst e;exact I.call (g':=g') (t':=t') (d':=d') u hok hg hch
end
abbrev XK:=χ->Option ε->Hp->Prop
abbrev St:=List (OV)
abbrev VK:=V->Hp->Prop
abbrev _root_.SW:=St->Hp->Prop
abbrev _root_.NW:=Nat->St->Hp->Prop
abbrev TE:=St->Hp->VK->Prop
abbrev TT:=St->Hp->(Bool->Hp->Prop)->Prop
abbrev TA:=St->Hp->(LV->Hp->Prop)->Prop
structure HJ where
 nx:SW
 rt:VK
 bk:SW:=λ_ _=>False
 ct:SW:=λ_ _=>False
abbrev TS:=HJ->St->Hp->Prop
def EP(X:Cx)(π:PL)(σ:St)(Q:VK)(u:χ)(s':ω):Prop:=∃ v H',Inv X π σ H' s'/\AZ v u/\Q v H'
def TP(X:Cx)(π:PL)(σ:St)(Q:Bool->Hp->Prop)(b:Bool)(s':ω):Prop:=∃ H',Inv X π σ H' s'/\Q b H'
def AP(X:Cx)(π:PL)(σ:St)(Q:LV->Hp->Prop)(us:LU)(s':ω):Prop:=∃ vs H',Inv X π σ H' s'/\AQ vs us/\Q vs H'
def SP(X:Cx)(π:PL)(D:HJ)(f:Flow)(s':ω):Prop :=
 match f with
 | .next=>∃ σ' H',Inv X π σ' H' s'/\D.nx σ' H'
 | .brk=>∃ σ' H',Inv X π σ' H' s'/\D.bk σ' H'
 | .cont=>∃ σ' H',Inv X π σ' H' s'/\D.ct σ' H'
 | .ret u=>∃ v σ' H',Inv X π σ' H' s'/\AZ v u/\D.rt v H'
def PE(X:Cx)(e:Expr)(t:TE):Prop :=
 ∀(π:PL) (s:ω) (σ:St) (H:Hp) (Q:VK),Inv X π σ H s->t σ H Q->wpAny (model X.prog X.w) X.A (eval e X.env) (EP X π σ Q) X.xe s
def PT(X:Cx)(e:Expr)(t:TT):Prop :=
 ∀(π:PL) (s:ω) (σ:St) (H:Hp) (Q:Bool->Hp->Prop),Inv X π σ H s->t σ H Q->wpAny (model X.prog X.w) X.A (isTrue e X.env (eval e X.env)) (TP X π σ Q) X.xe s
def PW(X:Cx)(e:Expr)(t:TT):Prop :=
 ∀(whole:Sem χ) (π:PL) (s:ω) (σ:St) (H:Hp) (Q:Bool->Hp->Prop),Inv X π σ H s->t σ H Q->wpAny (model X.prog X.w) X.A (isTrue e X.env whole) (TP X π σ Q) X.xe s
def PW.pt{X:Cx}{e:Expr}{t:TT}(h:PW X e t):PT X e t:=h _
def PA(X:Cx)(es:δ)(t:TA):Prop :=
 ∀(pos:Pos) (π:PL) (s:ω) (σ:St) (H:Hp) (Q:LV->Hp->Prop),Inv X π σ H s->t σ H Q->wpAny (model X.prog X.w) X.A (spliced (backTo pos (starEach es X.env))) (AP X π σ Q) X.xe s
def PS(X:Cx)(st:Stmt)(t:TS):Prop :=
 ∀(π:PL) (s:ω) (σ:St) (H:Hp) (D:HJ),Inv X π σ H s->t D σ H->wpAny (model X.prog X.w) X.A (exec st X.env) (SP X π D) X.xe s
def CB(X:Cx)(st:List Stmt)(t:TS):Prop :=
 ∀(π:PL) (s:ω) (σ:St) (H:Hp) (D:HJ),Inv X π σ H s->t D σ H->wpAny (model X.prog X.w) X.A (execs st X.env) (SP X π D) X.xe s
def AM{α:Type}{t:Sem α}{Q Q':α->ω->Prop}{M:Model}{A:Around}{E:EV}{s:ω}(h:wpAny M A t Q E s)(hQ:∀ a s,Q a s->Q' a s):wpAny M A t Q' E s:=Jf h hQ λ_ _ x=>x
section
variable {X:Cx}
def YA(i:Nat):TE:=λσ H Q=>∃ v,σ[i]?≈(↥v)/\Q v H
def tC(v:V):TE:=λ_ H Q=>Q v H
def kP{i:Nat}{x:Str}{pos:Pos}(hN:X.N[i]?≈x)(hv:RK X.env.scope x)(hd:(x == ("__debug__":Str))=false:=by decide)(hcd:(x == ("__classdict__":Str))=false:=by decide):PE X (.Name x pos) (YA i):=by
 ac_rfl;obtain⟨v,e,h⟩:=h;obtain⟨m,hn,hl⟩:=I.loc;obtain⟨u,r,l⟩:=hl i x v hN e hv;have fin:EP X π σ Q u s:=⟨v,H,I,r,h⟩
 rcases l with⟨hk,hm⟩ | ⟨hk,c,hc,hcell⟩
 ·exact wpAny_Name (wpAny_loadName_local I.ok.kind hk hn hm fin) hd
 ·rcases hk with hk | hk
  ·exact wpAny_Name (wpAny_loadName_cell I.ok.kind hk hc hcell fin) hd
  ·exact wpAny_Name (wpAny_loadName_free I.ok.kind hk hc hcell fin hcd) hd
def AE{i j pos}:PE X (.Constant (.int i) j pos) (tC (.int i)):=λ_ _ _ H _ I h=>wpAny_Constant_int ⟨.int i,H,I.tok _,⟨Z⟩,h⟩
def Bg{b j pos}:PE X (.Constant (.bool b) j pos) (tC (.bl b)):=λ_ _ _ H _ I h=>Constant_bool ⟨.bl b,H,I,Y,h⟩
def Nh{j pos}:PE X (.Constant .none j pos) (tC .non):=λ_ _ _ H _ I h=>Constant_none ⟨.non,H,I,Y,h⟩
def FQ{x j pos}:PE X (.Constant (.str x) j pos) (tC (.str x)):=λ_ _ _ H _ I h=>Calls.Constant_str ⟨.str x,H,I.tok _,⟨Z⟩,h⟩
def Gl(X:Cx)(x:Str):Prop:=X.env.kindOf x≈.globalImplicit
def Nm{E:EV}{π:PL}{s:ω}{σ:St}{H:Hp}{x:Str}{u:χ}{pos:Pos}{Q:EV}(I:Inv X π σ H s)(hg:Gl X x)(hm:X.mg x≈u)(h:Q u s)
  (hd:(x == ("__debug__":Str))=false:=by decide):wpAny (model X.prog X.w) X.A (eval (.Name x pos) X.env) Q E s :=
 Calls.Name_function_global I.ok.kind hg (Calls.loadGlobal_global (by rw[I.ok.glob];exact I.mod.glob.keeps I.bk) hm h) hd
def F1{E:EV}{π:PL}{s:ω}{σ:St}{H:Hp}{x:Str}{u:χ}{pos:Pos}{Q:EV}(I:Inv X π σ H s)(hg:Gl X x)(hm:X.mg x=none)(hv:bootBuiltins x≈u)(h:Q u s)
  (hn:x≠"__name__":=by decide) (hd:(x == ("__debug__":Str))=false:=by decide):wpAny (model X.prog X.w) X.A (eval (.Name x pos) X.env) Q E s:=by
 obtain⟨mb,h1,h2⟩:=I.mod.blt;exact Calls.Name_function_global I.ok.kind hg (Calls.loadGlobal_builtin (by rw[I.ok.glob];exact I.mod.glob.keeps I.bk) hm (by rw[I.ok.blt];exact h1.keeps I.bk) ((h2 x hn).trans hv) h) hd
def Cv{x:Str}{v:V}{u:χ}{pos:Pos}(hg:Gl X x)(hm:X.mg x≈u)(r:AZ v u)(hd:(x == ("__debug__":Str))=false:=by decide):PE X (.Name x pos) (tC v):=
 λ_ _ _ H _ I h=>Nm I hg hm ⟨v,H,I,r,h⟩ hd
def JR{x:Str}{v:V}{u:χ}{pos:Pos}(hg:Gl X x)(hm:X.mg x=none)(hv:bootBuiltins x≈u)(r:AZ v u)(hn:x≠"__name__":=by decide)(hd:(x == ("__debug__":Str))=false:=by decide):PE X (.Name x pos) (tC v):=
 λ_ _ _ H _ I h=>F1 I hg hm hv ⟨v,H,I,r,h⟩ hn hd
variable {a b:Expr}{ta tb:TE}{pos:Pos}
def PC(X:Cx)(op:CmpOp)(a b:Expr)(t:TE):Prop :=
 ∀(π:PL) (s:ω) (σ:St) (H:Hp) (Q:VK),Inv X π σ H s->t σ H Q ->
  wpAny (model X.prog X.w) X.A (eval a X.env) (λv s₁=>wpAny (model X.prog X.w) X.A (eval b X.env) (λu s₂=>wpAny (model X.prog X.w) X.A (compareOp op v u) (EP X π σ Q) X.xe s₂) X.xe s₁) X.xe s
def dJ(b:Expr){op:CmpOp}(h:op≠.In)(h2:op≠.NotIn):behindInMarks op b=false:=by
 have e1:(op == CmpOp.In)=false:=by cases op <;> first | rfl | exact absurd rfl h
 have e2:(op == CmpOp.NotIn)=false:=by cases op <;> first | rfl | exact absurd rfl h2
 cases b <;> simp[behindInMarks,e1,e2]
def vW(ta:TE):TE:=λσ H Q=>ta σ H λx H1=>Q (.bl (!decide (x=.non))) H1
def AZ.none_iff{x:V}{v:χ}(r:AZ x v):(v == Value.none)=decide (x=.non):=by
 cases x with
 | non=>cases r;rfl
 | bl _=>cases r;rfl
 | int _=>obtain⟨t,rfl⟩:=r;rfl
 | str _=>obtain⟨t,rfl⟩:=r;rfl
 | byt _=>obtain⟨t,rfl⟩:=r;rfl
 | flt _=>obtain⟨t,rfl⟩:=r;rfl
 | ref _=>cases r;rfl
 | ty _=>cases r;rfl
def cH{j pos'}(ha:PE X a ta):PC X .IsNot a (.Constant .none j pos') (vW ta):=by
 ac_rfl;refine AM (ha π s σ H _ I h) λv s1 ⟨x,H1,I1,r1,q1⟩=>?_;exact Constant_none (isnot_none_gen ⟨.bl _,H1,I1,by rw[r1.none_iff];rfl,q1⟩)
def tB(t:TE):TT:=λσ H Q=>t σ H λx H1=>∃ c,x=.bl c/\Q c H1
def kN{op:CmpOp}{t:TE}(h:PC X op a b t)(h1:behindInMarks op b=false:=by first | exact dJ _ (by decide) (by decide) | rfl):PE X (.Compare a [op] [b] pos) t:=λπ s σ H Q I hw=>wpAny_Compare1 (h π s σ H Q I hw) h1
def KS{op:CmpOp}{t:TE}(h:PC X op a b t)(h1:behindInMarks op b=false:=by first | exact dJ _ (by decide) (by decide) | rfl):PT X (.Compare a [op] [b] pos) (tB t):=by
 intro π s σ H Q I hw;refine wpAny_isTrue_Compare1 (AM (h π s σ H _ I hw) λv s1 h1=>AM h1 λu s2 h2=>AM h2 λc s3 ⟨x,H1,I1,r1,q1⟩=>?_) h1;obtain⟨d,rfl,q⟩:=q1;cases r1;exact Jh ⟨H1,I1,q⟩
def BZ{e:Expr}{t:TE}(h:PE X e t)(he:∀ whole,isTrue e X.env whole=(do let v <- whole;standAt e.pos;holding [v] (truthy v)):=by intro _;rfl):PT X e (tB t):=by
 intro π s σ H Q I hw;refine isTrue_plain (AM (h π s σ H _ I hw) λv s1 ⟨x,H1,I1,r1,q1⟩=>?_) (he _);obtain⟨d,rfl,q⟩:=q1;cases r1;exact Jh ⟨H1,I1,q⟩
variable {tA SY:TT}{Ay:δ}
def ze(t u:TT):TT:=λσ H Q=>t σ H λc H1=>if c=true then u σ H1 Q else Q false H1
def ku(t u:TT):TT:=λσ H Q=>t σ H λc H1=>if c=true then Q true H1 else u σ H1 Q
def ux(t:TT):TT:=λσ H Q=>t σ H λc H1=>Q (!c) H1
def Tx(ha:PT X a tA):PW X (.BoolOp .And [a] pos) tA:=by
 intro wh π s σ H Q I h;refine isTrue_and (AM (ha π s σ H Q I h) λc s1 e=>?_);cases c with
 | true=>exact isTrue_and_nil e
 | false=>exact e
def KU(ha:PT X a tA):PW X (.BoolOp .Or [a] pos) tA:=by
 intro wh π s σ H Q I h;refine isTrue_or (AM (ha π s σ H Q I h) λc s1 e=>?_);cases c with
 | false=>exact isTrue_or_nil e
 | true=>exact e
def Te(ha:PT X a tA)(hb:PW X (.BoolOp .And (b :: Ay) pos) SY):PW X (.BoolOp .And (a :: b :: Ay) pos) (ze tA SY):=by
 intro wh π s σ H Q I h;refine isTrue_and (AM (ha π s σ H _ I h) λc s1 ⟨H1,I1,q1⟩=>?_);cases c with
 | true=>exact hb wh π s1 σ H1 Q I1 q1
 | false=>exact⟨H1,I1,q1⟩
def JO(ha:PT X a tA)(hb:PW X (.BoolOp .Or (b :: Ay) pos) SY):PW X (.BoolOp .Or (a :: b :: Ay) pos) (ku tA SY):=by
 intro wh π s σ H Q I h;refine isTrue_or (AM (ha π s σ H _ I h) λc s1 ⟨H1,I1,q1⟩=>?_);cases c with
 | true=>exact⟨H1,I1,q1⟩
 | false=>exact hb wh π s1 σ H1 Q I1 q1
def Bs(ha:PT X a tA):PT X (.UnaryOp .Not a pos) (ux tA):=by
 ac_rfl;exact isTrue_not (ha π s σ H (λc H1=>Q (!c) H1) I h)
def vQ(ta tb:TE):TE:=λσ H Q=>ta σ H λx H1=>∃ c,x=.bl c/\if c=true then tb σ H1 Q else Q (.bl false) H1
def vX(ta:TE):TE:=λσ H Q=>ta σ H λx H1=>∃ c,x=.bl c/\Q (.bl (!c)) H1
def Ni{op}{t:TE}(h:PE X a t):PE X (.BoolOp op [a] pos) t:=λπ s σ H Q I hw=>BoolOp_one (h π s σ H Q I hw)
def Ng(ha:PE X a ta)(hb:PE X (.BoolOp .And (b :: Ay) pos) tb):PE X (.BoolOp .And (a :: b :: Ay) pos) (vQ ta tb):=by
 ac_rfl;refine BoolOp_and (AM (ha π s σ H _ I h) λv s1 ⟨x,H1,I1,r1,q1⟩=>?_);obtain⟨c,rfl,q1⟩:=q1;cases r1;refine Jh ?_;cases c with
 | true=>exact hb π s1 σ H1 Q I1 q1
 | false=>exact⟨.bl false,H1,I1,Y,q1⟩
def kO(ha:PE X a ta):PE X (.UnaryOp .Not a pos) (vX ta):=by
 ac_rfl;refine UnaryOp_ (AM (ha π s σ H _ I h) λv s1 ⟨x,H1,I1,r1,q1⟩=>?_);obtain⟨c,rfl,q1⟩:=q1;cases r1;exact not_of (Jh ⟨.bl (!c),H1,I1,Y,q1⟩)
def kx(t:TT)(ta tb:TE):TE:=λσ H Q=>t σ H λc H1=>if c=true then ta σ H1 Q else tb σ H1 Q
def p_{c:Expr}(hc:PT X c tA)(ha:PE X a ta)(hb:PE X b tb):PE X (.IfExp c a b pos) (kx tA ta tb):=by
 ac_rfl;refine wpAny_IfExp (AM (hc π s σ H _ I h) λd s1 ⟨H1,I1,q1⟩=>?_);cases d with
 | true=>exact ha π s1 σ H1 Q I1 q1
 | false=>exact hb π s1 σ H1 Q I1 q1
end
def SqL(K:Fg)(H:Hp)(a:ε)(xs:LV):Prop :=
 Rd H a (.lst xs) \/
  ∃(o:Obj) (ψ:μ) (n:Nat),K.lookup a≈o/\o.cls=.type "list"/\o.dict=none/\o.data=.seq ψ n/\ψ.size<=sizeLine/\AQ xs ψ.toList
def AH(K:Fg)(H:Hp)(a:ε)(xs:LV):Prop :=
 Rd H a (.tup xs) \/
  ∃(o:Obj) (ψ:μ) (n:Nat),K.lookup a≈o/\o.cls=.type "tuple"/\o.data=.seq ψ n/\ψ.size<=sizeLine/\AQ xs ψ.toList
def y9:χ->OV
 | .none=>↥.non
 | .bool b=>↥(.bl b)
 | .int i _=>↥(.int i)
 | .str x _=>↥(.str x)
 | .bytes b _=>↥(.byt b)
 | .float b _=>↥(.flt b)
 | .ref a=>↥(.ref a)
 | .type n=>↥(.ty n)
 | _=>none
def AZ.abs{x:V}{u:χ}(r:AZ x u):y9 u≈x:=by
 cases x with
 | non=>cases r;rfl
 | bl _=>cases r;rfl
 | int _=>obtain⟨t,rfl⟩:=r;rfl
 | str _=>obtain⟨t,rfl⟩:=r;rfl
 | byt _=>obtain⟨t,rfl⟩:=r;rfl
 | flt _=>obtain⟨t,rfl⟩:=r;rfl
 | ref _=>cases r;rfl
 | ty _=>cases r;rfl
theorem AZ.inj{x y:V}{u:χ}(r:AZ x u)(q:AZ y u):x=y:=BQ (r.abs.symm.trans q.abs)
theorem AQ.inj:∀ {xs ys:LV}{us:LU},AQ xs us->AQ ys us->xs=ys
 | _,_,_,.nil,.nil=>rfl
 | _,_,_,.cons r t,.cons r' t'=>by rw[r.inj r',AQ.inj t t']
section
variable {X:Cx}{π:PL}{σ:St}{H:Hp}{s:ω}{a:ε}{xs ys:LV}
def SqL.of{K:Fg}(h:H a≈(.lst xs)):SqL K H a xs:=.inl (.inl h)
def AH.of{K:Fg}(h:H a≈(.tup xs)):AH K H a xs:=.inl (.inl h)
def Inv.list(I:Inv X π σ H s)(h:SqL X.K H a xs):∃ ψ:LU,AQ xs ψ/\PlainL s.heap a ψ.toArray/\↑xs<=sizeLine:=by
 rcases h with h | ⟨o,ψ,n,hk,hc,hd,hs,hz,r⟩
 ·obtain⟨z,ψ,n,r,e⟩:=h.ok I.hok;exact⟨ψ,r,⟨_,n,e,Y,Y,Y⟩,z⟩
 ·refine⟨ψ.toList,r,⟨o,n,I.kIn a o hk,hc,hd,by simpa using hs⟩,?_⟩;have e:=↑r;simp only[Il]at e;omega
def Inv.tuple(I:Inv X π σ H s)(h:AH X.K H a xs):∃ ψ:LU,AQ xs ψ/\IsTup s.heap a ψ.toArray/\↑xs<=sizeLine:=by
 rcases h with h | ⟨o,ψ,n,hk,hc,hs,hz,r⟩
 ·obtain⟨z,ψ,r,p⟩:=h.ok I.hok;exact⟨ψ,r,p,z⟩
 ·refine⟨ψ.toList,r,⟨o,I.kIn a o hk,hc,n,by simpa using hs⟩,?_⟩;have e:=↑r;simp only[Il]at e;omega
def Inv.list_inj(I:Inv X π σ H s)(h:SqL X.K H a xs)(h':SqL X.K H a ys):xs=ys:=by
 obtain⟨ψ,r,⟨o,n,e,_,_,d⟩,_⟩:=I.list h;obtain⟨its',r',⟨o',n',e',_,_,d'⟩,_⟩:=I.list h';rw[e]at e';cases e';rw[d]at d';injection d' with d1 _;have:ψ=its':=by simpa using congrArg Array.toList d1
 subst this;exact r.inj r'
def Inv.tuple_inj(I:Inv X π σ H s)(h:AH X.K H a xs)(h':AH X.K H a ys):xs=ys:=by
 obtain⟨ψ,r,⟨o,e,_,n,d⟩,_⟩:=I.tuple h;obtain⟨its',r',⟨o',e',_,n',d'⟩,_⟩:=I.tuple h';rw[e]at e';cases e';rw[d]at d';injection d' with d1 _;have:ψ=its':=by simpa using congrArg Array.toList d1
 subst this;exact r.inj r'
end
abbrev Cx.wish(X:Cx)(E:EV):Cx:={X with xe:=E}
abbrev Cx.nox(X:Cx):Cx:=X.wish λ_ _=>False
theorem Cx.Ok.wish{X:Cx}(ok:X.Ok)(E:EV):(X.wish E).Ok :=
 ⟨ok.mod,ok.kind,ok.glob,ok.blt,ok.above,ok.inj,ok.has,ok.cab,ok.hd,ok.frames,ok.stk,ok.exf,ok.bs,ok.bsz,ok.noex,ok.exfs,ok.funs,ok.frf⟩
def Cx.Ok.unwish{X:Cx}{E:EV}(ok:(X.wish E).Ok):X.Ok :=
 ⟨ok.mod,ok.kind,ok.glob,ok.blt,ok.above,ok.inj,ok.has,ok.cab,ok.hd,ok.frames,ok.stk,ok.exf,ok.bs,ok.bsz,ok.noex,ok.exfs,ok.funs,ok.frf⟩
section
variable {X:Cx}{π:PL}{σ:St}{H:Hp}{s:ω}{E:EV}
theorem Inv.wish(I:Inv X π σ H s)(E:EV):Inv (X.wish E) π σ H s:=⟨I.ok.wish E,I.os,I.bare,I.base,I.loc,I.cell,I.free,I.freeC,I.pin,I.hok,I.len⟩
theorem Inv.unwish(I:Inv (X.wish E) π σ H s):Inv X π σ H s:=⟨I.ok.unwish,I.os,I.bare,I.base,I.loc,I.cell,I.free,I.freeC,I.pin,I.hok,I.len⟩
theorem SP.unwish{D:HJ}{f:Flow}{s':ω}(h:SP (X.wish E) π D f s'):SP X π D f s':=by
 cases f with
 | next=>obtain⟨σ',H',I,q⟩:=h;exact⟨σ',H',I.unwish,q⟩
 | brk=>obtain⟨σ',H',I,q⟩:=h;exact⟨σ',H',I.unwish,q⟩
 | cont=>obtain⟨σ',H',I,q⟩:=h;exact⟨σ',H',I.unwish,q⟩
 | ret u=>obtain⟨v,σ',H',I,r,q⟩:=h;exact⟨v,σ',H',I.unwish,r,q⟩
theorem CB.nox{st:List Stmt}{t:TS}(h:CB X.nox st t):CB X st t:=λπ s σ H D I hw =>
 Jf (h π s σ H D (I.wish _) hw) (λ_ _ q=>q.unwish) λ_ _ z=>False.elim z
end
section
variable {X:Cx}{st:Stmt}{Ay:List Stmt}{t u:TS}{e:Expr}{te:TE}{pos:Pos}
def vV:TS:=λD σ H=>D.nx σ H
def AF(t u:TS):TS:=λD σ H=>t {D with nx:=u D} σ H
def Af:CB X [] vV:=λ_ _ σ H _ I h=>wpAny_execs_nil ⟨σ,H,I,h⟩
def pS(h1:PS X st t)(h2:CB X Ay u):CB X (st :: Ay) (AF t u):=by
 intro π s σ H D I h;refine wpAny_execs_cons (AM (h1 π s σ H {D with nx:=u D} I h) λf s1 q=>?_);cases f with
 | next =>
  obtain⟨σ',H',I',q⟩:=q;exact h2 π s1 σ' H' D I' q
 | ret v=>exact q
 | brk=>exact q
 | cont=>exact q
def AG(h1:PS X st t):CB X [st] t:=by
 intro π s σ H D I h;refine wpAny_execs_cons (AM (h1 π s σ H D I h) λf s1 q=>?_);cases f with
 | next=>exact wpAny_execs_nil q
 | ret v=>exact q
 | brk=>exact q
 | cont=>exact q
def Inv.quiet{π:PL}{σ:St}{H:Hp}{s:ω}(I:Inv X π σ H s):interactive X.env=false:=by simp[interactive,I.ok.kind]
def vT(te:TE):TS:=λD σ H=>te σ H λ_ H1=>D.nx σ H1
def B8(he:PE X e te)(hs:swapsWith e none pos.line X.env=pure false:=by rfl):PS X (.Expr e pos) (vT te):=by
 intro π s σ H D I h;exact wpAny_Expr_any (AM (he π s σ H _ I h) λv s1 ⟨x,H1,I1,r1,q1⟩=>⟨σ,H1,I1,q1⟩) I.quiet hs
def uy(te:TE):TS:=λD σ H=>te σ H D.rt
def AS(he:PE X e te):PS X (.Return (↥e) pos) (uy te):=by
 intro π s σ H D I h;exact wpAny_Return_some (AM (he π s σ H _ I h) λv s1 ⟨x,H1,I1,r1,q1⟩=>⟨x,σ,H1,I1,r1,q1⟩)
def HP(c:TT)(t u:TS):TS:=λD σ H=>c σ H λb H1=>if b=true then t D σ H1 else u D σ H1
def Ae{c:Expr}{a b:List Stmt}{tc:TT}(hc:PT X c tc)(ha:CB X a t)(hb:CB X b u):PS X (.If c a b pos) (HP tc t u):=by
 intro π s σ H D I h;refine wpAny_If (AM (hc π s σ H _ I h) λd s1 ⟨H1,I1,q1⟩=>?_);cases d with
 | true=>exact ha π s1 σ H1 D I1 q1
 | false=>exact hb π s1 σ H1 D I1 q1
def xA:TS:=λ_ _ _=>False
def Dh{sts:List Stmt}:CB X sts xA:=λ_ _ _ _ _ _ h=>h.elim
end
abbrev TG:=V->St->Hp->(St->Hp->Prop)->Prop
abbrev MZ:=LV->St->Hp->(St->Hp->Prop)->Prop
def PG(X:Cx)(target:Expr)(t:TG):Prop :=
 ∀(π:PL) (s:ω) (σ:St) (H:Hp) (v:V) (u:χ) (Q:SW),Inv X π σ H s->AZ v u->t v σ H Q ->
  wpAny (model X.prog X.w) X.A (assign target X.env u) (λ_ s'=>∃ σ' H',Inv X π σ' H' s'/\Q σ' H') X.xe s
def VH(X:Cx)(ts:δ)(t:MZ):Prop :=
 ∀(π:PL) (s:ω) (σ:St) (H:Hp) (vs:LV) (us:LU) (Q:SW),Inv X π σ H s->AQ vs us->t vs σ H Q ->
  wpAny (model X.prog X.w) X.A (assignInOrder ((assignEach ts X.env).map (·.2)) us) (λ_ s'=>∃ σ' H',Inv X π σ' H' s'/\Q σ' H') X.xe s
abbrev Xz:=V->V->V->Hp->(Hp->Prop)->Prop
def iH(X:Cx)(t:Xz):Prop :=
 ∀(π:PL) (s:ω) (σ:St) (H:Hp) (o i v:V) (ov iv u:χ) (Q:Hp->Prop),Inv X π σ H s->AZ o ov->AZ i iv->AZ v u->t o i v H Q ->
  wpAny (model X.prog X.w) X.A (setItem ov iv u) (λ_ s'=>∃ H',Inv X π σ H' s'/\Q H') X.xe s
section
variable {X:Cx}{pos:Pos}
def C_(i:Nat):TG:=λv σ H Q=>Q (σ.set i (↥v)) H
def Az{i:Nat}{x:Str}(hN:X.N.Nodup)(hi:X.N[i]?≈x)(hx:Loc X.env.scope x)(hf:X.fn x=true\/X.env.scope.names.lookup x≈.local:=by first | exact .inl rfl | exact .inr rfl | assumption):PG X (.Name x pos) (C_ i):=by
 intro π s σ H v u Q I r h;exact wpAny_assign_Name (UC I hN hi hx r (λs' I'=>⟨_,H,I',h⟩) hf)
def gE(i:Nat){x:Str}(hN:X.N.Nodup)(hi:X.N[i]?≈x:=by rfl)(hx:Loc X.env.scope x:=by exact Or.inl rfl)(hf:X.fn x=true\/X.env.scope.names.lookup x≈.local:=by first | exact .inl rfl | exact .inr rfl | assumption):PG X (.Name x pos) (C_ i):=Az hN hi hx hf
def iN:MZ:=λvs σ H Q=>vs=[]/\Q σ H
def YC(t:TG)(u:MZ):MZ:=λvs σ H Q=>∃ v r,vs=v :: r/\t v σ H λσ' H'=>u r σ' H' Q
def IY:VH X [] iN:=by
 intro π s σ H vs us Q I r h;obtain⟨e,h⟩:=h;subst e;cases r;exact assignInOrder_nil ⟨σ,H,I,h⟩
def gC{e:Expr}{es:δ}{t:TG}{u:MZ}(h1:PG X e t)(h2:VH X es u)
  (hs:(assignEach (e :: es) X.env).map (·.2)=assign e X.env :: (assignEach es X.env).map (·.2):=by rfl):VH X (e :: es) (YC t u):=by
 intro π s σ H vs us Q I r h;obtain⟨v,vr,e1,h⟩:=h;subst e1;cases r with
 | cons r rr =>
  rw[hs];refine assignInOrder_cons (AM (h1 π s σ H _ _ _ I r h) λ_ s1 ⟨σ1,H1,I1,q1⟩=>?_);exact h2 π s1 σ1 H1 _ _ Q I1 rr q1
def iO(K:Fg)(n:Nat)(t:MZ):TG:=λv σ H Q=>∃ a xs,v=.ref a/\AH K H a xs/\↑xs=n/\t xs σ H Q
def IU{es:δ}{k:Nat}{t:MZ}{n:Nat}(hc:X.calm=true)(h:VH X es t)
  (hn:↑(assignEach es X.env)=n:=by rfl) (hst:(assignEach es X.env).findIdx? (·.1)=none:=by rfl):PG X (.Tuple es k pos) (iO X.K n t):=by
 intro π s σ H v u Q I r hw;obtain⟨a,xs,e1,hq,hl,hw⟩:=hw;subst e1;cases r;obtain⟨ψ,rv,ht,hz⟩:=I.tuple hq;refine assign_Tuple_tuple (I.ok.hd hc) ht (by simp[hn,<- hl,rv.length]) hst λh' hx=>?_;have I1:Inv X π σ H {s with heap:=h' }:=I.kept (t':=s.toks) λb o e=>hx b o (Yv (Yj e)) e;exact h π _ σ H xs _ Q I1 (by simpa using rv) hw
def zi(to ti:TE)(t:Xz):TG:=λv σ H Q=>to σ H λo H1=>ti σ H1 λi H2=>t o i v H2 λH3=>Q σ H3
def WW{o i:Expr}{to ti:TE}{t:Xz}(ho:PE X o to)(hi:PE X i ti)(hs:iH X t)
  (ha:∀ v,assign (.Subscript o i pos) X.env v=(do
   let ov <- holding [v] (eval o X.env);let iv <- holding [v,ov] (eval i X.env)
   standAt pos
   holding [v,ov,iv] (setItem ov iv v)
   release [v,ov,iv] []):=by intro _;rfl):PG X (.Subscript o i pos) (zi to ti t):=by
 intro π s σ H v u Q I r h;rw[ha];refine Ja (Jj (AM (ho π s σ H _ I h) λov s1 ⟨x,H1,I1,r1,q1⟩=>?_));refine Ja (Jj (AM (hi π s1 σ H1 _ I1 q1) λiv s2 ⟨y,H2,I2,r2,q2⟩=>?_));refine Ja (wpAny_standAt (Ja (Jj (AM (hs π s2 σ H2 x y v ov iv u _ I2 r1 r2 r q2) λ_ s3 ⟨H3,I3,q3⟩=>?_))));exact wpAny_release ⟨σ,H3,I3,q3⟩
def JX(te:TE)(g:TG):TS:=λD σ H=>te σ H λx H1=>g x σ H1 D.nx
def Td{tg e:Expr}{te:TE}{g:TG}(he:PE X e te)(hg:PG X tg g)(hs:swapsWithSole [tg] e pos.line X.env=pure false:=by rfl)(hw:swappedStores [tg] e X.env=pure none:=by rfl)
  (h1:(assignEach [tg] X.env).map (·.2)=[assign tg X.env]:=by rfl):PS X (.Assign [tg] e pos) (JX te g):=by
 intro π s σ H D I h;refine wpAny_Assign_stores (AM (he π s σ H _ I h) λv s1 ⟨x,H1,I1,r1,q1⟩=>?_) hs hw;rw[h1];exact AM (hg π s1 σ H1 x v _ I1 r1 q1) λ_ s2 q=>q
def Bt{i:Nat}{x:Str}{e:Expr}{te:TE}{pos':Pos}(hN:X.N.Nodup)(hi:X.N[i]?≈x)(hx:Loc X.env.scope x)(he:PE X e te)(hs:swapsWith e (↥(.Name x pos')) pos.line X.env=pure false:=by rfl)(hf:X.fn x=true\/X.env.scope.names.lookup x≈.local:=by first | exact .inl rfl | exact .inr rfl | assumption):
  PS X (.Assign [.Name x pos'] e pos) (JX te (C_ i)):=by
 intro π s σ H D I h;refine wpAny_Assign_Name (AM (he π s σ H _ I h) λv s1 ⟨y,H1,I1,r1,q1⟩=>?_) hs;exact UC I1 hN hi hx r1 (λs2 I2=>⟨_,H1,I2,q1⟩) hf
def sE(i:Nat){x:Str}{e:Expr}{te:TE}{pos':Pos}(hN:X.N.Nodup)(he:PE X e te)(hi:X.N[i]?≈x:=by rfl)(hx:Loc X.env.scope x:=by exact Or.inl rfl)(hs:swapsWith e (↥(.Name x pos')) pos.line X.env=pure false:=by rfl)(hf:X.fn x=true\/X.env.scope.names.lookup x≈.local:=by first | exact .inl rfl | exact .inr rfl | assumption):PS X (.Assign [.Name x pos'] e pos) (JX te (C_ i)):=Bt hN hi hx he hs hf
end
section
variable {X:Cx}{pos:Pos}
def Lp(c:TT)(tb:TS):TS:=λD σ H=>∃ W:NW,(∃ m,W m σ H)/\∀ m σ H,W m σ H ->
 c σ H λb H1=>if b=true then ∃ N:SW,(∀ σ' H',N σ' H'->∃ m',m'<m/\W m' σ' H')/\tb {D with nx:=N,ct:=N,bk:=D.nx} σ H1 else D.nx σ H1
def Kg{c:Expr}{body:List Stmt}{tc:TT}{tb:TS}(hp:PassesOwn (model X.prog X.w) X.A X.env X.xe)(hc:PT X c tc)(hb:CB X body tb):PS X (.While c body [] pos) (Lp tc tb):=by
 intro π s σ H D I h;obtain⟨W,⟨m0,w0⟩,turn⟩:=h;refine wpAny_While (codeAny_whileLoop (λn s'=>∃ σ' H',Inv X π σ' H' s'/\W n σ' H') ?_ m0 ⟨σ,H,I,w0⟩);rintro n s1 ⟨σ1,H1,I1,w1⟩;refine wpAny_passesOwn hp (AM (hc π s1 σ1 H1 _ I1 (turn n σ1 H1 w1)) λb s2 ⟨H2,I2,q2⟩=>?_);cases b with
 | true =>
  obtain⟨N,hN,q2⟩:=q2;rw[if_pos rfl];refine wpAny_passesOwn hp (AM (hb π s2 σ1 H2 _ I2 q2) λf s3 q3=>?_);cases f with
  | next =>
   obtain⟨σ3,H3,I3,n3⟩:=q3;obtain⟨m',hm,w3⟩:=hN σ3 H3 n3;exact⟨m',hm,σ3,H3,I3,w3⟩
  | cont =>
   obtain⟨σ3,H3,I3,n3⟩:=q3;obtain⟨m',hm,w3⟩:=hN σ3 H3 n3;exact⟨m',hm,σ3,H3,I3,w3⟩
  | brk=>exact q3
  | ret v=>exact q3
 | false =>
  rw[if_neg Yq];exact wpAny_execs_nil ⟨σ1,H2,I2,q2⟩
end
structure It where
 go:Nat->Hp->Prop
 yld:Nat->Hp->V->Hp->Prop
 stop:Nat->Hp->Prop
def BH(X:Cx)(π:PL)(H:Hp)(b:ε):Prop :=
 H b=none/\b≠X.env.locals/\b∉X.fs/\(b∈X.ex\/⇑X.s₀<=b)/\(∀ x c,X.env.cells.lookup x≈c->c≠b)/\∀ p∈X.pn++π,p.1≠b
def Inv.fpOk{X:Cx}{π:PL}{σ:St}{H H':Hp}{s:ω}{b:ε}(I:Inv X π σ H s)(hb:⇑s<=b)(hn:H' b=none):BH X π H' b:=by
 refine⟨hn,DG (Yo I.lt hb),I.nofs hb,.inr (A8 I.sz hb),λx c e z=>?_,λp hp z=>?_⟩
 ·obtain⟨v,q⟩:=I.cell x c e;exact absurd (Yo q.lt (by rw[z];exact hb)) (F9 _)
 ·exact absurd (Yo (Yj (I.pin p hp).1) (by rw[z];exact hb)) (F9 _)
structure Ft(P:Γ)(w:World)(K:Fg)(tg:Expr)(J:It)(fp:τ)(it:ε)(tn:Nat->Heap->Prop):Prop where
 mem:it∈fp
 obj:∀ i h,tn i h->∀ b∈fp,∃ o,h.get? b≈o/\∀ v,o.data≠.cell v
 keep:∀ i h h',tn i h->(∀ b∈fp,∀ o,h.get? b≈o->h'.get? b≈o)->tn i h'
 item:∀(X:Cx),X.prog=P->X.w=w->X.K=K->X.calm=true->∀(i:Nat) (π:PL) (s:ω) (σ:St) (H:Hp) (E:EV),Inv X π σ H s->(∀ b∈fp,BH X π H b)->tn i s.heap->J.go i H ->
  wpAny (model P w) X.A (pyNext (.ref it)) (λr s1=>∃ u,r≈u /\
   wpAny (model P w) X.A (letOwnedTupleGo tg (.ref it) u) (λ_ s2=>∃ x H',Inv X π σ H' s2/\AZ x u/\J.yld i H x H'/\tn (i + 1) s2.heap/\∀ b∈fp,H' b=none) E s1) E s
 done:∀(X:Cx),X.prog=P->X.w=w->X.K=K->X.calm=true->∀(i:Nat) (π:PL) (s:ω) (σ:St) (H:Hp) (E:EV),Inv X π σ H s->(∀ b∈fp,BH X π H b)->tn i s.heap->J.stop i H ->
  wpAny (model P w) X.A (pyNext (.ref it)) (λr s1=>r=none/\Inv X π σ H s1) E s
 self:∀(A:Around) (i:Nat) (s:ω) (Q:EV) (E:EV),tn i s.heap->Q (.ref it) s->wpAny (model P w) A (pyIter (.ref it)) Q E s
abbrev TI:=St->Hp->(It->Hp->Prop)->Prop
def VG(X:Cx)(π:PL)(σ:St)(tg:Expr)(R:It->Hp->Prop)(itv:χ)(s2:ω):Prop :=
 ∃(it:ε) (fp:τ) (tn:Nat->Heap->Prop) (J:It) (H':Hp),itv=.ref it/\Inv X π σ H' s2/\Ft X.prog X.w X.K tg J fp it tn/\tn 0 s2.heap/\(∀ b∈fp,BH X π H' b)/\R J H'
def PI(X:Cx)(tg iter:Expr)(wi:TI):Prop :=
 ∀(π:PL) (s:ω) (σ:St) (H:Hp) (R:It->Hp->Prop),Inv X π σ H s->wi σ H R ->
  wpAny (model X.prog X.w) X.A (eval iter X.env) (λv s1=>wpAny (model X.prog X.w) X.A (pyIter v) (VG X π σ tg R) X.xe s1) X.xe s
def NX{M:Model}{A:Around}{E:EV}{s:ω}{tg:Expr}{it:ε}{u:χ}{o:Obj}{n:String}{vs:μ}{Q:Unit->ω->Prop}(ho:s.heap.get? it≈o)(hc:o.cls=.type n)(hd:o.data=.fields vs)
  (hn:["enumerate","zip","dict_itemiterator","dict_reverseitemiterator","odict_iterator","itertools.zip_longest","itertools.pairwise"].contains n=false) (hQ:Q () s):wpAny M A (letOwnedTupleGo tg (.ref it) u) Q E s:=by
 unfold letOwnedTupleGo;cases tg <;> first
  | exact Jd hQ
  | (cases u <;> first
    | exact Jd hQ
    | (refine Ja (wpAny_load ho ?_)
       rw[hc,hd];show wpAny M A (if(["enumerate","zip","dict_itemiterator","dict_reverseitemiterator","odict_iterator","itertools.zip_longest","itertools.pairwise"].contains n&&vs[0]? == ↥(rawInt _))=true then _ else _) Q E s;rw[if_neg (by intro h;rw[hn,Bool.false_and]at h;cases h)];exact Jd hQ))
def RW(K:Fg)(a:ε):It :=
 ⟨λi H=>∃ xs x,SqL K H a xs/\xs[i]?≈x,λi H x H'=>H'=H/\∀ xs,SqL K H a xs->xs[i]?≈x,λi H=>∃ xs,SqL K H a xs/\↑xs<=i⟩
def VL(K:Fg)(a:ε):It :=
 ⟨λi H=>∃ xs x,AH K H a xs/\xs[i]?≈x,λi H x H'=>H'=H/\∀ xs,AH K H a xs->xs[i]?≈x,λi H=>∃ xs,AH K H a xs/\↑xs<=i⟩
def VN(lo:Int)(n:Nat):It:=⟨λi _=>i<n,λi H x H'=>H'=H/\x=.int (lo + i),λi _=>n<=i⟩
def gB{P:Γ}{w:World}{K:Fg}{tg:Expr}(a it:ε):Ft P w K tg (RW K a) [it] it (λi h=>h.IsListIter it a i) where
 mem:=by simp
 obj:=λi h st b hb=>by
  have e:b=it:=by simpa using hb
  subst e;obtain⟨o,e,c,d⟩:=st;exact⟨o,e,λv z=>by rw[d]at z;cases z⟩
 keep:=λi h h' st k=>st.at λo e=>k it (by simp) o e
 item:=by
  intro X hP hw hK hc i π s σ H E I hf st hg;subst hP hw hK;obtain⟨xs,x,hq,hx⟩:=hg;obtain⟨ψ,rv,p,hz⟩:=I.list hq;obtain⟨u,hu,ru⟩:=rv.get hx;obtain⟨f0,f1,f2,f3,f4,f5⟩:=hf it (by simp);refine wpAny_pyNext_list_item st p.isList (x:=u) (by simpa using hu) λh' A1 sb=>?_;have I1:Inv X π σ H {s with heap:=h' }:=I.turned (t':=s.toks) (λb o hb e=>(sb.2 b hb).trans e) f0 f1 f3 f4 f5;obtain⟨o,e,c,d⟩:=id A1;exact⟨u,Y,NX (s:={s with heap:=h' }) e c d (by decide) ⟨x,H,I1,ru,⟨Y,λys hy=>by rw[I.list_inj hy hq];exact hx⟩,A1,λb hb=>(hf b hb).1⟩⟩
 done:=by
  intro X hP hw hK hc i π s σ H E I hf st hg;subst hP hw hK;obtain⟨xs,hq,hx⟩:=hg;obtain⟨ψ,rv,p,hz⟩:=I.list hq;obtain⟨f0,f1,f2,f3,f4,f5⟩:=hf it (by simp);have hl:=↑rv;exact wpAny_pyNext_list_end (I.ok.hd hc) st p.isList (by simp;omega) λh' eb=>⟨Y,I.turned (t':=s.toks) (λb o hb e=>eb b o hb e) f0 f1 f3 f4 f5⟩
 self:=λ_ _ _ _ _ st h=>wpAny_pyIter_listiter st h
def gZ{P:Γ}{w:World}{K:Fg}{tg:Expr}(a it:ε):Ft P w K tg (VL K a) [it] it (λi h=>h.IsTupleIter it a i) where
 mem:=by simp
 obj:=λi h st b hb=>by
  have e:b=it:=by simpa using hb
  subst e;obtain⟨o,e,c,d⟩:=st;exact⟨o,e,λv z=>by rw[d]at z;cases z⟩
 keep:=λi h h' st k=>st.at λo e=>k it (by simp) o e
 item:=by
  intro X hP hw hK hc i π s σ H E I hf st hg;subst hP hw hK;obtain⟨xs,x,hq,hx⟩:=hg;obtain⟨ψ,rv,p,hz⟩:=I.tuple hq;obtain⟨u,hu,ru⟩:=rv.get hx;obtain⟨f0,f1,f2,f3,f4,f5⟩:=hf it (by simp);refine wpAny_pyNext_tuple_item st (show s.heap.IsTuple a ψ.toArray from p) (x:=u) (by simpa using hu) λh' A1 sb=>?_;have I1:Inv X π σ H {s with heap:=h' }:=I.turned (t':=s.toks) (λb o hb e=>(sb.2 b hb).trans e) f0 f1 f3 f4 f5;obtain⟨o,e,c,d⟩:=id A1;exact⟨u,Y,NX (s:={s with heap:=h' }) e c d (by decide) ⟨x,H,I1,ru,⟨Y,λys hy=>by rw[I.tuple_inj hy hq];exact hx⟩,A1,λb hb=>(hf b hb).1⟩⟩
 done:=by
  intro X hP hw hK hc i π s σ H E I hf st hg;subst hP hw hK;obtain⟨xs,hq,hx⟩:=hg;obtain⟨ψ,rv,p,hz⟩:=I.tuple hq;obtain⟨f0,f1,f2,f3,f4,f5⟩:=hf it (by simp);have hl:=↑rv;exact wpAny_pyNext_tuple_end (I.ok.hd hc) st (show s.heap.IsTuple a ψ.toArray from p) (by simp;omega) λh' eb=>⟨Y,I.turned (t':=s.toks) (λb o hb e=>eb b o hb e) f0 f1 f3 f4 f5⟩
 self:=λ_ _ _ _ _ st h=>wpAny_pyIter_tupleiter st h
def tG{P:Γ}{w:World}{K:Fg}{tg:Expr}(it:ε)(lo:Int)(n:Nat):Ft P w K tg (VN lo n) [it] it (λi h=>IsRangeIter h it (lo + (i:Nat) * 1) ((n:Int) - (i:Nat)) 1) where
 mem:=by simp
 obj:=λi h st b hb=>by
  have e:b=it:=by simpa using hb
  subst e;exact⟨_,st,λv z=>by
   have z':Data.fields _=Data.cell v:=z;cases z'⟩
 keep:=λi h h' st k=>k it (by simp) _ st
 item:=by
  intro X hP hw hK hc i π s σ H E I hf st hg;subst hP hw hK;obtain⟨f0,f1,f2,f3,f4,f5⟩:=hf it (by simp);have W:=Walks.range (prog:=X.prog) (w:=X.w) (I.ok.hd hc) it lo 1 n;refine W.item i s _ _ hg st λv h' tk hv A1 kk=>?_;obtain⟨t,rfl⟩:=hv;have I1:Inv X π σ H {s with heap:=h',toks:=tk}:=I.turned (λb o hb e=>kk b o (by simpa using hb) e) f0 f1 f3 f4 f5;refine⟨Z,NX (s:={s with heap:=h',toks:=tk}) (n:="range_iterator") A1 rfl rfl (by decide) ⟨.int (lo + i),H,I1,⟨t,?_⟩,⟨Y,Y⟩,A1,λb hb=>(hf b hb).1⟩⟩;rw[Int.mul_one]
 done:=by
  intro X hP hw hK hc i π s σ H E I hf st hg;subst hP hw hK;obtain⟨f0,f1,f2,f3,f4,f5⟩:=hf it (by simp);exact wpAny_pyNext_range_end (I.ok.hd hc) st (by have:n<=i:=hg;omega) λh' eb=>⟨Y,I.turned (t':=s.toks) (λb o hb e=>eb b o hb e) f0 f1 f3 f4 f5⟩
 self:=λ_ _ _ _ _ st h=>wpAny_pyIter_rangeiter st h
section
variable {X:Cx}{tg:Expr}
def jJ(K:Fg)(tl:TE):TI:=λσ H R=>tl σ H λx H1=>∃ a,x=.ref a/\(∃ xs,SqL K H1 a xs)/\R (RW K a) H1
def zl(K:Fg)(tl:TE):TI:=λσ H R=>tl σ H λx H1=>∃ a,x=.ref a/\(∃ xs,AH K H1 a xs)/\R (VL K a) H1
def Bn{l:Expr}{tl:TE}(hl:PE X l tl):PI X tg l (jJ X.K tl):=by
 intro π s σ H R I h;refine AM (hl π s σ H _ I h) λv s1 ⟨x,H1,I1,r1,q1⟩=>?_;obtain⟨a,e,⟨xs,hq⟩,q⟩:=q1;subst e;cases r1;obtain⟨ψ,rv,p,hz⟩:=I1.list hq;refine wpAny_pyIter_list p.isList ?_;refine⟨⇑s1,[⇑s1],Q,H1,Y,I1.kept (t':=s1.toks) λb o e=>Yc _ e,gB a _,⟨_,Ym _ rfl,Y,Y⟩,λb hb=>?_,q⟩;have e:b=⇑s1:=by simpa using hb
 subst e;exact I1.fpOk (Yf _) (I1.hok.fresh (Yf _))
def HZ{l:Expr}{tl:TE}(hl:PE X l tl):PI X tg l (zl X.K tl):=by
 intro π s σ H R I h;refine AM (hl π s σ H _ I h) λv s1 ⟨x,H1,I1,r1,q1⟩=>?_;obtain⟨a,e,⟨xs,hq⟩,q⟩:=q1;subst e;cases r1;obtain⟨ψ,rv,p,hz⟩:=I1.tuple hq;refine wpAny_pyIter_tuple (show s1.heap.IsTuple a ψ.toArray from p) ?_;refine⟨⇑s1,[⇑s1],Q,H1,Y,I1.kept (t':=s1.toks) λb o e=>Yc _ e,gZ a _,⟨_,Ym _ rfl,Y,Y⟩,λb hb=>?_,q⟩;have e:b=⇑s1:=by simpa using hb
 subst e;exact I1.fpOk (Yf _) (I1.hok.fresh (Yf _))
def pL{π:PL}{σ:St}{H:Hp}{s:ω}{R:It->Hp->Prop}{E:EV}{lo hi:Int}{t u v:Tok}{tk:Nat}(I:Inv X π σ H s)(h1:-(2 ^ 62)<=lo)(h2:lo<2 ^ 62)(h3:-(2 ^ 62)<=hi)(h4:hi<2 ^ 62)
  (q:R (VN lo (hi - lo).toNat) H):wpAny (model X.prog X.w) X.A (pyIter (.ref ⇑s)) (VG X π σ tg R) E {s with heap:=s.heap.push {cls:=.type "range",data:=.fields #[.int lo t,.int hi u,.int 1 v] },toks:=tk}:=by
 refine wpAny_pyIter_range (IsRange.new ..) (small_one h1 h2 h3 h4) ?_;have I1:Inv X π σ H {s with heap:=s.heap.push {cls:=.type "range",data:=.fields #[.int lo t,.int hi u,.int 1 v] },toks:=tk}:=I.kept λb o e=>Yc _ e;refine⟨(s.heap.push {cls:=.type "range",data:=.fields #[.int lo t,.int hi u,.int 1 v] }).objs.size,[(s.heap.push {cls:=.type "range",data:=.fields #[.int lo t,.int hi u,.int 1 v] }).objs.size],Q,H,Y,
  I1.kept (t':=tk) λb o e=>Yc _ e,tG _ lo (hi - lo).toNat,?_,λb hb=>?_,q⟩
 ·have e1:lo + ((0:Nat):Int) * 1=lo:=by simp
  have e2:(((hi - lo).toNat:Nat):Int) - ((0:Nat):Int)=Builtin.Range.rangeSize lo hi 1:=by rw[rangeSize_one];split <;> omega
  show IsRangeIter _ _ (lo + ((0:Nat):Int) * 1) ((((hi - lo).toNat:Nat):Int) - ((0:Nat):Int)) 1;rw[e1,e2];exact Ym _ rfl
 ·have e:b=(s.heap.push {cls:=.type "range",data:=.fields #[.int lo t,.int hi u,.int 1 v] }).objs.size:=by simpa using hb
  subst e;exact I1.fpOk (Yf _) (I1.hok.fresh (Yf _))
def vc(ta:TA):TI:=λσ H R=>ta σ H λvs H1=>∃ j:Int,vs=[.int j]/\-(2 ^ 62)<=j/\j<2 ^ 62/\R (VN 0 j.toNat) H1
def Gu{a:Expr}{ta:TA}{p pos:Pos}(hg:Gl X "range")(hm:X.mg "range"=none)(ha:PA X [a] ta)(hs:starEach [a] X.env=[(false,eval a X.env)]:=by rfl):PI X tg (.Call (.Name "range" p) [a] [] pos) (vc ta):=by
 intro π s σ H R I h;refine Call_ (F1 I hg hm boot_range (Js (AM (ha pos π s σ H _ I h) λus s1 ⟨vs,H1,I1,r1,q1⟩=>?_) hs rfl));obtain⟨j,e,q1,q2,q⟩:=q1;subst e;cases r1 with
 | cons r rr =>
  cases rr;obtain⟨t,rfl⟩:=r;exact call_range_1 (pL I1 (by omega) (by omega) q1 q2 (by simpa using q))
def Es(wi:TI)(g:TG)(tb:TS):TS:=λD σ H=>wi σ H λJ H1=>∃ W:Nat->Nat->St->Hp->Prop,(∃ m,W 0 m σ H1)/\∀ i m σ H,W i m σ H ->
 (J.stop i H/\D.nx σ H)\/(J.go i H/\∃ N:SW,(∀ σ' H',N σ' H'->∃ m',m'<m/\W (i + 1) m' σ' H')/\∀ x H',J.yld i H x H'->g x σ H' λσ2 H2=>tb {D with nx:=N,ct:=N,bk:=D.nx} σ2 H2)
def Nj(fp:τ)(h:Heap):PL:=fp.filterMap λb=>(h.get? b).map λo=>(b,o)
def OB{fp:τ}{h:Heap}{b:ε}{o:Obj}(hb:b∈fp)(e:h.get? b≈o):(b,o)∈Nj fp h:=List.mem_filterMap.mpr ⟨b,hb,by rw[e];rfl⟩
def qm{fp:τ}{h:Heap}{p:ε×Obj}(hp:p∈Nj fp h):p.1∈fp/\h.get? p.1≈p.2:=by
 obtain⟨b,hb,e⟩:=List.mem_filterMap.mp hp;cases q:h.get? b with
 | none=>rw[q]at e;cases e
 | some o =>
  rw[q]at e;have e':(b,o)=p:=BQ e;subst e';exact⟨hb,q⟩
def Inv.pinned{π:PL}{σ:St}{H:Hp}{s:ω}{fp:τ}(I:Inv X π σ H s)(hf:∀ b∈fp,BH X π H b)(ho:∀ b∈fp,∃ o,s.heap.get? b≈o/\∀ v,o.data≠.cell v):Inv X (π++Nj fp s.heap) σ H s :=
 I.pins_of λp hp=>(Yp.mp hp).elim (λz=>I.pin p (Yw _ z)) λz=>by
  obtain⟨hb,e⟩:=qm z;obtain⟨f0,f1,f2,_⟩:=hf p.1 hb;obtain⟨o,e',d⟩:=ho p.1 hb;rw[e]at e';cases e';exact⟨e,f0,f1,f2,d⟩
def Inv.unpinned{π pl:PL}{σ:St}{H:Hp}{s:ω}(I:Inv X (π++pl) σ H s):Inv X π σ H s:=I.pins_of λp hp=>I.pin p (Yw _ (Jm _ hp))
def CS{iter:Expr}{body:List Stmt}{wi:TI}{g:TG}{tb:TS}{pos:Pos}(hp:PassesOwn (model X.prog X.w) X.A X.env X.xe)(hc:X.calm=true)(hi:PI X tg iter wi)(hg:PG X tg g)(hb:CB X body tb)
  (hs:∀ x,foldedSetIterable iter X.env x=pure x:=by intro _;rfl):PS X (.For tg iter body [] pos) (Es wi g tb):=by
 intro π s σ H D I h;refine wpAny_For (AM (hi π s σ H _ I h) λv s1 h1=>AM h1 λitv s2 h2=>?_) hs;obtain⟨it,fp,tn,J,H2,e,I2,T,FY,f2,W,⟨m0,w0⟩,turn⟩:=h2;subst e;have stat:∀ {H':Hp},(∀ b∈fp,H' b=none)->∀ b∈fp,BH X π H' b:=λhn b hb=>⟨hn b hb,(f2 b hb).2⟩;refine codeAny_forLoop_any (λn s'=>∃ i σ' H',Inv X π σ' H' s'/\tn i s'.heap/\(∀ b∈fp,H' b=none)/\W i n σ' H') ?_ m0 ⟨0,σ,H2,I2,FY,λb hb=>(f2 b hb).1,w0⟩;rintro n s3 ⟨i,σ3,H3,I3,J5,FK,w3⟩
 rcases turn i n σ3 H3 w3 with⟨stop,qn⟩ | ⟨go,N,hN,step⟩
 ·refine wpAny_passesOwn hp (AM (T.done X rfl rfl rfl hc i π s3 σ3 H3 X.xe I3 (stat FK) J5 stop) λr s4 ⟨hr,I4⟩=>?_);subst hr;exact wpAny_execs_nil ⟨σ3,H3,I4,qn⟩
 ·refine wpAny_passesOwn hp (AM (T.item X rfl rfl rfl hc i π s3 σ3 H3 X.xe I3 (stat FK) J5 go) λr s4 ⟨u,hr,h4⟩=>?_);subst hr;refine wpAny_passesOwn hp (AM h4 λ_ s5 ⟨x,H5,I5,r5,y5,HA,HH⟩=>?_);have RX:=I5.pinned (stat HH) (T.obj _ _ HA);refine wpAny_passesOwn hp (AM (hg _ s5 σ3 H5 x u _ RX r5 (step x H5 y5)) λ_ s6 ⟨σ6,H6,I6,q6⟩=>?_);refine wpAny_passesOwn hp (AM (hb _ s6 σ6 H6 _ I6 q6) λf s7 q7=>?_);have again:∀ {σ7:St} {H7:Hp},Inv X (π++Nj fp s5.heap) σ7 H7 s7->N σ7 H7->∃ m,m<n/\∃ i σ' H',Inv X π σ' H' s7/\tn i s7.heap/\(∀ b∈fp,H' b=none)/\W i m σ' H':=λ{σ7 H7} I7 n7=>by
   obtain⟨m',hm,w7⟩:=hN σ7 H7 n7;refine⟨m',hm,i + 1,σ7,H7,I7.unpinned,T.keep _ _ _ HA λb hb o e=>(I7.pin (b,o) (Yw _ (Yw _ (OB hb e)))).1,λb hb=>?_,w7⟩;obtain⟨o,e,d⟩:=T.obj _ _ HA b hb;exact(I7.pin (b,o) (Yw _ (Yw _ (OB hb e)))).2.1
  cases f with
  | next=>obtain⟨σ7,H7,I7,n7⟩:=q7;exact again I7 n7
  | cont=>obtain⟨σ7,H7,I7,n7⟩:=q7;exact again I7 n7
  | brk=>obtain⟨σ7,H7,I7,q7⟩:=q7;exact⟨σ7,H7,I7.unpinned,q7⟩
  | ret v=>obtain⟨x7,σ7,H7,I7,r7,q7⟩:=q7;exact⟨x7,σ7,H7,I7.unpinned,r7,q7⟩
end
abbrev R2:=V->V->Hp->VK->Prop
def BV(X:Cx)(f:χ->χ->Sem χ)(r:R2):Prop :=
 ∀(π:PL) (s:ω) (σ:St) (H:Hp) (x y:V) (v u:χ) (Q:VK),Inv X π σ H s->AZ x v->AZ y u->r x y H Q ->
  wpAny (model X.prog X.w) X.A (f v u) (EP X π σ Q) X.xe s
def YZ(X:Cx)(f:χ->Sem χ)(r:V->Hp->VK->Prop):Prop :=
 ∀(π:PL) (s:ω) (σ:St) (H:Hp) (x:V) (v:χ) (Q:VK),Inv X π σ H s->AZ x v->r x H Q ->
  wpAny (model X.prog X.w) X.A (f v) (EP X π σ Q) X.xe s
def FN(X:Cx)(f:χ)(r:LV->Hp->VK->Prop):Prop :=
 ∀(π:PL) (s:ω) (σ:St) (H:Hp) (xs:LV) (us:LU) (Q:VK),Inv X π σ H s->AQ xs us->r xs H Q ->
  wpAny (model X.prog X.w) X.A (call f us) (EP X π σ Q) X.xe s
def yz(X:Cx)(r:V->Hp->(Bool->Hp->Prop)->Prop):Prop :=
 ∀(π:PL) (s:ω) (σ:St) (H:Hp) (x:V) (v:χ) (Q:Bool->Hp->Prop),Inv X π σ H s->AZ x v->r x H Q ->
  wpAny (model X.prog X.w) X.A (truthy v) (TP X π σ Q) X.xe s
def SX(r:R2)(ta tb:TE):TE:=λσ H Q=>ta σ H λx H1=>tb σ H1 λy H2=>r x y H2 Q
def km(r:V->Hp->VK->Prop)(ta:TE):TE:=λσ H Q=>ta σ H λx H1=>r x H1 Q
def rI(C:Int->Int->Prop)(g:Int->Int->V):R2:=λx y H Q=>∃ i j,x=.int i/\y=.int j/\C i j/\Q (g i j) H
def J8(g:Int->Int->V):R2:=λx y H Q=>∃ i j,x=.int i/\y=.int j/\Q (g i j) H
def rU(g:Int->V):V->Hp->VK->Prop:=λx H Q=>∃ i,x=.int i/\Q (g i) H
section
variable {X:Cx}{a b c:Expr}{ta tb tc:TE}{pos:Pos}
def X5(ha:PE X a ta)(hb:PE X b tb){π:PL}{s:ω}{σ:St}{H:Hp}{R:V->V->Hp->Prop}(I:Inv X π σ H s)
  (h:ta σ H λx H1=>tb σ H1 λy H2=>R x y H2) {Q:EV} {f:χ->χ->Sem χ}
  (hf:∀ v u s2 x y H2,Inv X π σ H2 s2->AZ x v->AZ y u->R x y H2->wpAny (model X.prog X.w) X.A (f v u) Q X.xe s2):
  wpAny (model X.prog X.w) X.A (eval a X.env) (λv s₁=>wpAny (model X.prog X.w) X.A (eval b X.env) (λu s₂=>wpAny (model X.prog X.w) X.A (f v u) Q X.xe s₂) X.xe s₁) X.xe s:=by
 refine AM (ha π s σ H _ I h) λv s1 ⟨x,H1,I1,r1,q1⟩=>?_;refine AM (hb π s1 σ H1 _ I1 q1) λu s2 ⟨y,H2,I2,r2,q2⟩=>?_;exact hf v u s2 x y H2 I2 r1 r2 q2
def Aj{op:Operator}{r:R2}(ho:BV X (binaryOp op) r)(ha:PE X a ta)(hb:PE X b tb):PE X (.BinOp a op b pos) (SX r ta tb):=by
 ac_rfl;exact wpAny_BinOp (X5 ha hb I h λv u s2 x y H2 I2 rx ry q=>ho π s2 σ H2 x y v u Q I2 rx ry q)
def vF{op:UnaryOp}{r:V->Hp->VK->Prop}(ho:YZ X (unaryOp op) r)(ha:PE X a ta):PE X (.UnaryOp op a pos) (km r ta):=by
 ac_rfl;exact UnaryOp_ (AM (ha π s σ H _ I h) λv s1 ⟨x,H1,I1,r1,q1⟩=>ho π s1 σ H1 x v Q I1 r1 q1)
def M_{f:χ->χ->Sem χ}{C:Int->Int->Prop}{g:Int->Int->Int}
  (rule:∀(i j:Int) (t u:Tok) (s:ω) (Q:EV) (E:EV),C i j->Q (.int (g i j) s.toks) {s with toks:=s.toks + 1}->wpAny (model X.prog X.w) X.A (f (.int i t) (.int j u)) Q E s):
  BV X f (rI C λi j=>.int (g i j)):=by
 exfalso;obtain⟨i,j,rfl,rfl,hc,q⟩:=h;obtain⟨t,rfl⟩:=rx;obtain⟨t',rfl⟩:=ry;exact rule i j t t' s _ _ hc ⟨.int (g i j),H,I.tok _,⟨Z⟩,q⟩
def iU{f:χ->χ->Sem χ}{g:Int->Int->Int}
  (rule:∀(i j:Int) (t u:Tok) (s:ω) (Q:EV) (E:EV),Q (.int (g i j) s.toks) {s with toks:=s.toks + 1}->wpAny (model X.prog X.w) X.A (f (.int i t) (.int j u)) Q E s):
  BV X f (J8 λi j=>.int (g i j)):=by
 exfalso;obtain⟨i,j,rfl,rfl,q⟩:=h;obtain⟨t,rfl⟩:=rx;obtain⟨t',rfl⟩:=ry;exact rule i j t t' s _ _ ⟨.int (g i j),H,I.tok _,⟨Z⟩,q⟩
def U1{f:χ->χ->Sem χ}{g:Int->Int->Bool}
  (rule:∀(i j:Int) (t u:Tok) (s:ω) (Q:EV) (E:EV),Q (.bool (g i j)) s->wpAny (model X.prog X.w) X.A (f (.int i t) (.int j u)) Q E s):
  BV X f (J8 λi j=>.bl (g i j)):=by
 exfalso;obtain⟨i,j,rfl,rfl,q⟩:=h;obtain⟨t,rfl⟩:=rx;obtain⟨t',rfl⟩:=ry;exact rule i j t t' s _ _ ⟨.bl (g i j),H,I,Y,q⟩
def yu(i j:Int):Prop:=0<j/\j<1073741824
def yv(i j:Int):Prop:=0<=j/\j<=1000000/\i.natAbs<2 ^ 64
def Xw(i j:Int):Prop:=(-(2 ^ 64)<i/\i<2 ^ 64)\/(-(2 ^ 64)<j/\j<2 ^ 64)
def Xw.ok{i j:Int}(h:Xw i j):IntMulOk i j:=by
 rcases h with⟨h1,h2⟩ | ⟨h1,h2⟩
 ·exact .of_left (intBits_le_64 h1 h2)
 ·exact .of_right (intBits_le_64 h1 h2)
def F2:BV X (binaryOp .Add) (J8 λi j=>.int (i + j)):=iU λ_ _ _ _ _ _ _ q=>add_int q
def Nd:BV X (binaryOp .Sub) (J8 λi j=>.int (i - j)):=iU λ_ _ _ _ _ _ _ q=>sub_int q
def Tb:BV X (binaryOp .Mult) (rI Xw λi j=>.int (i * j)):=M_ λ_ _ _ _ _ _ _ hc q=>mul_int q hc.ok
def Ws:BV X (binaryOp .FloorDiv) (rI yu λi j=>.int (i / j)):=M_ λi j _ _ _ _ _ hc q=>by
 have h1:(0:Int)<j:=hc.1;have h2:j<1073741824:=hc.2;exact floordiv_int (by omega) (by rw[Int.fdiv_eq_ediv_of_nonneg i (by omega)];exact q) (.inl (PyProof.noPylong_small (by omega)))
def HY:BV X (binaryOp .Mod) (rI (λ_ j=>0<j) λi j=>.int (i % j)):=M_ λi j _ _ _ _ _ hc q=>by
 have h1:(0:Int)<j:=hc;exact mod_int' (by omega) (by rw[Int.fmod_eq_emod_of_nonneg i (by omega)];exact q)
def Nc:BV X (binaryOp .Pow) (rI yv λi j=>.int (i ^ j.toNat)):=M_ λ_ _ _ _ _ _ _ hc q=>pow_int_small hc.1 hc.2.1 hc.2.2 q
def ke{f:χ->Sem χ}{g:Int->Int}
  (rule:∀(i:Int) (t:Tok) (s:ω) (Q:EV) (E:EV),Q (.int (g i) s.toks) {s with toks:=s.toks + 1}->wpAny (model X.prog X.w) X.A (f (.int i t)) Q E s):
  YZ X f (rU λi=>.int (g i)):=by
 intro π s σ H x v Q I rx h;obtain⟨i,rfl,q⟩:=h;obtain⟨t,rfl⟩:=rx;exact rule i t s _ _ ⟨.int (g i),H,I.tok _,⟨Z⟩,q⟩
def xE:YZ X (unaryOp .USub) (rU λi=>.int (-i)):=ke λ_ _ _ _ _ q=>neg_int q
end
def i4:V->V->Bool
 | .non,.non=>true | .non,.int _=>true | .int _,.non=>true | .non,.bl _=>true | .bl _,.non=>true | .non,.str _=>true | .str _,.non=>true
 | .int _,.int _=>true | .bl _,.bl _=>true | .str _,.str _=>true | .byt _,.byt _=>true
 | .int _,.str _=>true | .str _,.int _=>true | .bl _,.str _=>true | .str _,.bl _=>true
 | _,_=>false
def lE:R2:=λx y H Q=>i4 x y=true/\Q (.bl (decide (x=y))) H
def lD:R2:=λx y H Q=>i4 x y=true/\Q (.bl (!decide (x=y))) H
def bS{i j:Int}:decide (V.int i=V.int j)=(i == j):=by
 rw[Im];simp
def jb{i j:Bool}:decide (V.bl i=V.bl j)=(i == j):=by
 rw[Im];simp
def bT{i j:Str}:decide (V.str i=V.str j)=(i == j):=by
 rw[Im];simp
def bQ{i j:Array UInt8}:decide (V.byt i=V.byt j)=(i.toList == j.toList):=by
 rw[Im];cases i;cases j;simp
section
variable {X:Cx}{a b c:Expr}{ta tb tc:TE}{pos:Pos}
def BI{π:PL}{σ:St}{H:Hp}{s:ω}{Q:VK}{k k':Bool}(I:Inv X π σ H s)(q:Q (.bl k) H)(e:k=k'):EP X π σ Q (.bool k') s:=by
 subst e;exact⟨.bl k,H,I,Y,q⟩
def Cs:BV X (compareOp .Eq) lE:=by
 exfalso;obtain⟨hs,q⟩:=h;cases x with
 | non =>
  cases rx;cases y with
  | non=>cases ry;exact PySem.EqNone.eq_none_none (BI I q (by simp))
  | bl j=>cases ry;exact PySem.EqNone.eq_none_bool (BI I q (by simp))
  | int j=>obtain⟨t',rfl⟩:=ry;exact PySem.EqNone.eq_none_int (BI I q (by simp))
  | str j=>obtain⟨t',rfl⟩:=ry;exact PySem.EqNone.eq_none_str (BI I q (by simp))
  | _=>exact absurd (show false=true from hs) Yq
 | bl i =>
  cases rx;cases y with
  | non=>cases ry;exact PySem.EqNone.eq_bool_none (BI I q (by simp))
  | bl j=>cases ry;exact eq_bool (BI I q jb)
  | str j=>obtain⟨t',rfl⟩:=ry;exact PySem.EqMixed.eq_bool_str (BI I q (by simp))
  | _=>exact absurd (show false=true from hs) Yq
 | int i =>
  obtain⟨t,rfl⟩:=rx;cases y with
  | non=>cases ry;exact PySem.EqNone.eq_int_none (BI I q (by simp))
  | int j=>obtain⟨t',rfl⟩:=ry;exact eq_int (BI I q bS)
  | str j=>obtain⟨t',rfl⟩:=ry;exact PySem.EqMixed.eq_int_str (BI I q (by simp))
  | _=>exact absurd (show false=true from hs) Yq
 | str i =>
  obtain⟨t,rfl⟩:=rx;cases y with
  | non=>cases ry;exact PySem.EqNone.eq_str_none (BI I q (by simp))
  | bl j=>cases ry;exact PySem.EqMixed.eq_str_bool (BI I q (by simp))
  | int j=>obtain⟨t',rfl⟩:=ry;exact PySem.EqMixed.eq_str_int (BI I q (by simp))
  | str j=>obtain⟨t',rfl⟩:=ry;exact eq_str (BI I q bT)
  | _=>exact absurd (show false=true from hs) Yq
 | byt i =>
  obtain⟨t,rfl⟩:=rx;cases y with
  | byt j=>obtain⟨t',rfl⟩:=ry;exact W.eq_bytes (BI I q bQ)
  | _=>exact absurd (show false=true from hs) Yq
 | _=>cases y <;> exact absurd (show false=true from hs) Yq
def Gm:BV X (compareOp .NotEq) lD:=by
 exfalso;obtain⟨hs,q⟩:=h;cases x with
 | non =>
  cases rx;cases y with
  | non=>cases ry;exact PySem.EqNone.ne_none_none (BI I q (by simp))
  | bl j=>cases ry;exact PySem.EqNone.ne_none_bool (BI I q (by simp))
  | int j=>obtain⟨t',rfl⟩:=ry;exact PySem.EqNone.ne_none_int (BI I q (by simp))
  | str j=>obtain⟨t',rfl⟩:=ry;exact PySem.EqNone.ne_none_str (BI I q (by simp))
  | _=>exact absurd (show false=true from hs) Yq
 | bl i =>
  cases rx;cases y with
  | non=>cases ry;exact PySem.EqNone.ne_bool_none (BI I q (by simp))
  | bl j=>cases ry;exact ne_bool (BI I q (congrArg not jb))
  | str j=>obtain⟨t',rfl⟩:=ry;exact PySem.EqMixed.ne_bool_str (BI I q (by simp))
  | _=>exact absurd (show false=true from hs) Yq
 | int i =>
  obtain⟨t,rfl⟩:=rx;cases y with
  | non=>cases ry;exact PySem.EqNone.ne_int_none (BI I q (by simp))
  | int j=>obtain⟨t',rfl⟩:=ry;exact ne_int (BI I q (congrArg not bS))
  | str j=>obtain⟨t',rfl⟩:=ry;exact PySem.EqMixed.ne_int_str (BI I q (by simp))
  | _=>exact absurd (show false=true from hs) Yq
 | str i =>
  obtain⟨t,rfl⟩:=rx;cases y with
  | non=>cases ry;exact PySem.EqNone.ne_str_none (BI I q (by simp))
  | bl j=>cases ry;exact PySem.EqMixed.ne_str_bool (BI I q (by simp))
  | int j=>obtain⟨t',rfl⟩:=ry;exact PySem.EqMixed.ne_str_int (BI I q (by simp))
  | str j=>obtain⟨t',rfl⟩:=ry;exact ne_str (BI I q (congrArg not bT))
  | _=>exact absurd (show false=true from hs) Yq
 | byt i =>
  obtain⟨t,rfl⟩:=rx;cases y with
  | byt j=>obtain⟨t',rfl⟩:=ry;exact W.ne_bytes (BI I q (congrArg not bQ))
  | _=>exact absurd (show false=true from hs) Yq
 | _=>cases y <;> exact absurd (show false=true from hs) Yq
def Pw:BV X (compareOp .Lt) (J8 λi j=>.bl (decide (i<j))):=U1 λ_ _ _ _ _ _ _ q=>lt_int q
def NZ:BV X (compareOp .LtE) (J8 λi j=>.bl (decide (i<=j))):=U1 λ_ _ _ _ _ _ _ q=>le_int q
def Pu:BV X (compareOp .Gt) (J8 λi j=>.bl (decide (j<i))):=U1 λ_ _ _ _ _ _ _ q=>gt_int q
def jK:BV X (compareOp .GtE) (J8 λi j=>.bl (decide (j<=i))):=U1 λ_ _ _ _ _ _ _ q=>ge_int q
def qy:BV X (compareOp .In) (λx y H Q=>∃ i j,x=.str i/\y=.str j/\Q (.bl (!(Builtin.Str.occurrences j i 0 ↑j 1).isEmpty)) H):=by
 exfalso;obtain⟨i,j,rfl,rfl,q⟩:=h;obtain⟨t,rfl⟩:=rx;obtain⟨t',rfl⟩:=ry;exact in_str (BI I q rfl)
def kM:BV X (compareOp .Is) (λx y H Q=>y=.non/\Q (.bl (decide (x=.non))) H):=by
 exfalso;obtain⟨rfl,q⟩:=h;cases ry;refine is_none_gen (BI I q ?_);cases x <;> first
  | (cases rx;rfl)
  | (obtain⟨t,rfl⟩:=rx;rfl)
def Ai(b:Expr){op:CmpOp}(h:op≠.In:=by decide)(h2:op≠.NotIn:=by decide):behindInMarks op b=false:=by
 have e1:(op == CmpOp.In)=false:=by cases op <;> first | rfl | exact absurd rfl h
 have e2:(op == CmpOp.NotIn)=false:=by cases op <;> first | rfl | exact absurd rfl h2
 cases b <;> simp[behindInMarks,e1,e2]
def Ha{op:CmpOp}{r:R2}(ho:BV X (compareOp op) r)(ha:PE X a ta)(hb:PE X b tb)(hm:behindInMarks op b=false):PE X (.Compare a [op] [b] pos) (SX r ta tb):=by
 ac_rfl;exact wpAny_Compare1 (X5 ha hb I h λv u s2 x y H2 I2 rx ry q=>ho π s2 σ H2 x y v u Q I2 rx ry q) hm
def jT(t:TE):TT:=λσ H Q=>t σ H λx H'=>∃ k,x=.bl k/\Q k H'
def Al{op:CmpOp}{r:R2}(ho:BV X (compareOp op) r)(ha:PE X a ta)(hb:PE X b tb)(hm:behindInMarks op b=false):PT X (.Compare a [op] [b] pos) (jT (SX r ta tb)):=by
 ac_rfl;refine wpAny_isTrue_Compare1 (AM (ha π s σ H _ I h) λv s1 ⟨x,H1,I1,r1,q1⟩=>AM (hb π s1 σ H1 _ I1 q1) λu s2 ⟨y,H2,I2,r2,q2⟩ =>
  AM (ho π s2 σ H2 x y v u _ I2 r1 r2 q2) λc s3 ⟨z,H3,I3,r3,k,e,q3⟩=>?_) hm
 subst e;cases r3;exact Jh ⟨H3,I3,q3⟩
def wz(r r':R2)(ta tb tc:TE):TE:=λσ H Q=>ta σ H λx H1=>tb σ H1 λy H2=>r x y H2 λz H3=>∃ k,z=.bl k /\
 (if k=true then tc σ H3 λw' H4=>r' y w' H4 Q else Q (.bl false) H3)
def XA{op Vf:CmpOp}{r r':R2}(ho:BV X (compareOp op) r)(JG:BV X (compareOp Vf) r')(ha:PE X a ta)(hb:PE X b tb)(hc:PE X c tc)
  (hm:lastMarks [op,Vf] [b,c]=false:=by with_unfolding_all rfl):PT X (.Compare a [op,Vf] [b,c] pos) (jT (wz r r' ta tb tc)):=by
 ac_rfl;refine isTrue_chain (AM (ha π s σ H _ I h) λv s1 ⟨x,H1,I1,r1,q1⟩=>test_link (AM (hb π s1 σ H1 _ I1 q1) λu s2 ⟨y,H2,I2,r2,q2⟩ =>
  AM (ho π s2 σ H2 x y v u _ I2 r1 r2 q2) λd s3 ⟨z,H3,I3,r3,k,e,q3⟩=>?_)) hm
 subst e;cases r3;refine Jh ?_;cases k with
 | false =>
  obtain⟨k',e',q'⟩:=q3;cases e';exact ite_ff ⟨H3,I3,q'⟩
 | true =>
  refine ite_tt (test_last (AM (hc π s3 σ H3 _ I3 q3) λw' s4 ⟨z',H4,I4,r4,q4⟩=>AM (JG π s4 σ H4 y z' u w' _ I4 r2 r4 q4) λd' s5 ⟨z2,H5,I5,r5,k2,e2,q5⟩=>?_));subst e2;cases r5;exact Jh ⟨H5,I5,q5⟩
def iJ(K:Fg)(x:V)(H:Hp)(k:Bool):Prop :=
 match x with
 | .non=>k=false
 | .bl b=>k=b
 | .int i=>k=(i != 0)
 | .str y=>↑y<=sizeLine/\k=((↑y:Int) != 0)
 | .byt y=>y.size<=sizeLine/\k=((y.size:Int) != 0)
 | .ref p=>(∃ xs,SqL K H p xs/\k=!xs.isEmpty)\/(∃ xs,AH K H p xs/\k=!xs.isEmpty)\/∃ ν,H p≈(.dK ν)/\k=!ν.isEmpty
 | _=>False
def rz{κ:Type}{ν:List (κ×V)}{vs:List (κ×χ)}(r:KV ν vs):(!vs.isEmpty)=!ν.isEmpty:=by
 cases r <;> rfl
def gP{xs:LV}{ψ:LU}(r:AQ xs ψ):(!ψ.toArray.isEmpty)=!xs.isEmpty:=by
 cases r <;> simp
def Lr:(sizeLine:Nat)<2 ^ 63:=by rw[sizeLine_eq];decide
def xD:yz X (λx H Q=>∃ k,iJ X.K x H k/\Q k H):=by
 intro π s σ H x v Q I rx h;obtain⟨k,e,q⟩:=h;have hl:=Lr;have hs:sizeLine=16777216:=sizeLine_eq;cases x with
 | non =>
  cases rx;have e':k=false:=e;subst e';exact truthy_none ⟨H,I,q⟩
 | bl b =>
  cases rx;have e':k=b:=e;subst e';exact Jh ⟨H,I,q⟩
 | int i =>
  obtain⟨t,rfl⟩:=rx;have e':k=(i != 0):=e;subst e';exact PySem.P.truthy_int ⟨H,I,q⟩
 | str y =>
  obtain⟨t,rfl⟩:=rx;obtain⟨hy,e'⟩:↑y<=sizeLine/\k=((↑y:Int) != 0):=e;subst e';exact PySem.P.truthy_str (by omega) ⟨H,I.tok _,q⟩
 | byt y =>
  obtain⟨t,rfl⟩:=rx;obtain⟨hy,e'⟩:y.size<=sizeLine/\k=((y.size:Int) != 0):=e;subst e';exact W.truthy_bytes (by omega) ⟨H,I.tok _,q⟩
 | ref p =>
  cases rx;have e':(∃ xs,SqL X.K H p xs/\k=!xs.isEmpty)\/(∃ xs,AH X.K H p xs/\k=!xs.isEmpty)\/∃ ν,H p≈(.dK ν)/\k=!ν.isEmpty:=e
  rcases e' with⟨xs,hx,e'⟩ | ⟨xs,hx,e'⟩ | ⟨ν,hx,e'⟩
  ·subst e';obtain⟨ψ,r,pl,hz⟩:=I.list hx;have hlen:=↑r;exact wpAny_truthy_list pl.isList (by simp only[Yn];omega) ⟨H,I.tok _,by rw[gP r];exact q⟩
  ·subst e';obtain⟨ψ,r,pl,hz⟩:=I.tuple hx;have hlen:=↑r;exact truthy_tuple pl (by simp only[Yn];omega) ⟨H,I.tok _,by rw[gP r];exact q⟩
  ·subst e';obtain⟨hz,hS,vs,r,m⟩:↑ν<=sizeLine/\(p == sysModules)=false/\∃ vs,KV ν vs/\s.heap.DictOf (Cu X.prog X.w) p vs:=I.hok p _ hx;have hlen:↑ν=↑vs:=A_ r;exact wpAny_truthy_dict hS m (by omega) ⟨H,I.tok _,by rw[rz r];exact q⟩
 | _=>exact(show False from e).elim
def XB(ha:PE X a ta)(he:∀ whole,isTrue a X.env whole=(do let v <- whole;standAt a.pos;holding [v] (truthy v))):
  PT X a (λσ H Q=>ta σ H λx H'=>∃ k,iJ X.K x H' k/\Q k H'):=by
 ac_rfl;exact isTrue_plain (AM (ha π s σ H _ I h) λv s1 ⟨x,H1,I1,r1,q1⟩=>xD π s1 σ H1 x v Q I1 r1 q1) (he _)
def UO:BV X (binaryOp .Add) (λx y H Q=>∃ i j,x=.str i/\y=.str j/\↑i + ↑j<=sizeLine/\Q (.str (i++j)) H):=by
 exfalso;obtain⟨i,j,rfl,rfl,hz,q⟩:=h;obtain⟨t,rfl⟩:=rx;obtain⟨t',rfl⟩:=ry;exact add_str (λt' tk=>⟨.str (i++j),H,I.tok _,⟨Z⟩,q⟩) hz
def F0{x:V}{us:LU}(r:AQ [x] us):∃ u,us=[u]/\AZ x u:=by
 cases r with
 | cons r1 r2=>cases r2;exact⟨Z,r1⟩
def YO{x y:V}{us:LU}(r:AQ [x,y] us):∃ u w',us=[u,w']/\AZ x u/\AZ y w':=by
 cases r with
 | cons r1 r2 =>
  cases r2 with
  | cons r3 r4=>cases r4;exact⟨_,Z,r1,r3⟩
def qE:FN X (.type "int") (λxs H Q=>(∃ i,xs=[.int i]/\Q (.int i) H)\/∃ k,xs=[.bl k]/\Q (.int (if k then 1 else 0)) H):=by
 intro π s σ H xs us Q I r h
 rcases h with⟨i,rfl,q⟩ | ⟨k,rfl,q⟩
 ·obtain⟨u,rfl,t,rfl⟩:=F0 r;exact call_int_int ⟨.int i,H,I,⟨Z⟩,q⟩
 ·obtain⟨u,rfl,r1⟩:=F0 r;cases r1;exact call_int_bool ⟨.int (if k then 1 else 0),H,I.tok _,⟨Z⟩,q⟩
def ik(K:Fg)(x:V)(H:Hp)(n:Nat):Prop :=
 match x with
 | .str y=>↑y<=sizeLine/\n=↑y
 | .byt y=>y.size<=sizeLine/\n=y.size
 | .ref p=>(∃ xs,SqL K H p xs/\n=↑xs)\/∃ xs,AH K H p xs/\n=↑xs
 | _=>False
def Hd:FN X (.builtin "len") (λxs H Q=>∃ x n,xs=[x]/\ik X.K x H n/\Q (.int n) H):=by
 intro π s σ H xs us Q I r h;obtain⟨x,n,rfl,e,q⟩:=h;obtain⟨u,rfl,rx⟩:=F0 r;have hl:=Lr;have hs:sizeLine=16777216:=sizeLine_eq;cases x with
 | str y =>
  obtain⟨t,rfl⟩:=rx;obtain⟨hy,e'⟩:↑y<=sizeLine/\n=↑y:=e;subst e';exact len_str (by omega) ⟨.int _,H,I.tok _,⟨Z⟩,q⟩
 | byt y =>
  obtain⟨t,rfl⟩:=rx;obtain⟨hy,e'⟩:y.size<=sizeLine/\n=y.size:=e;subst e';exact W.len_bytes (by omega) ⟨.int _,H,I.tok _,⟨Z⟩,q⟩
 | ref p =>
  cases rx;have e':(∃ xs,SqL X.K H p xs/\n=↑xs)\/∃ xs,AH X.K H p xs/\n=↑xs:=e
  rcases e' with⟨xs,hx,e'⟩ | ⟨xs,hx,e'⟩
  ·subst e';obtain⟨ψ,r',pl,hz⟩:=I.list hx;have hlen:=↑r';exact Calls.call_len_list pl.isList (by simp only[Yn];omega) ⟨.int ↑xs,H,I.tok _,⟨_,by simp only[Yn];rw[hlen]⟩,q⟩
  ·subst e';obtain⟨ψ,r',pl,hz⟩:=I.tuple hx;have hlen:=↑r';exact len_tuple pl (by simp only[Yn];omega) ⟨.int ↑xs,H,I.tok _,⟨_,by simp only[Yn];rw[hlen]⟩,q⟩
 | _=>exact(show False from e).elim
end
structure MG(h:Heap)(x dx C:ε)(mA:Str->OU):Prop where
 obj:h.get? x≈(W.instObj C dx)
 ns:h.Ns1 dx mA
 ne:dx≠x
def qd{h:Heap}{dx:ε}{mA:Str->OU}(n:h.Ns1 dx mA):∃ od,h.get? dx≈od/\∀ name,W.lookIn name od≈(mA name):=by
 obtain⟨o,es,ep,ho,hd,hk,_,hm⟩:=n;refine⟨o,ho,λname=>?_⟩;have e:=hm name;unfold nsFind findBy at e;rw[<- Array.find?_toList]at e;unfold W.lookIn;rw[hd];dsimp only;split
 ·rename_i y q
  rw[q]at e;exact congrArg some e
 ·rename_i q
  rw[q]at e;have a:es.toList.any (·.refKey)=false:=by
   rw[RB];intro y hy;obtain⟨z,t,hkey⟩:=hk y (Array.mem_toList_iff.mp hy);simp[DictEntry.refKey,hkey]
  have a':¬ es.toList.any (·.refKey)=true:=by rw[a];exact Yq
  rw[if_neg a'];exact congrArg some e
def MG.look{h:Heap}{x dx C:ε}{mA:Str->OU}(I:MG h x dx C mA):∃ od,W.InstAt h x (W.instObj C dx) C (↥od)/\∀ name,W.lookIn name od≈(mA name):=
 let⟨od,ho,hl⟩:=qd I.ns
 ⟨od,⟨I.obj,Y,Y,ho⟩,hl⟩
section
variable {prog:Γ}{w:World}{A:Around}{E:EV}{s:ω}{K:Fg}{x dx C f:ε}{mA:Str->OU}{name:Str}{v:χ}
def xW{expr:Bool}{Q:EV}(X:K.In s.heap)(I:MG s.heap x dx C mA)(hg:W.plainGet K C name=true)(hh:W.hasDictIn K C=true)
  (ha:W.findIn K (.ref C) name≈none) (hv:mA name≈v) (PH:W.handedIn v=true) (h:Q v {s with toks:=s.toks + 1}):
  wpAny (model prog w) A (getAttr (.ref x) name expr) Q E s:=by
 obtain⟨od,J,hl⟩:=I.look;exact W.get_value X J (W.plainGet_of hg).1 (W.findObj_own hh ha rfl (by rw[hl,hv])) PH h
def pG{pl:Sem Bool}{Q:χ×LU->ω->Prop}(X:K.In s.heap)(I:MG s.heap x dx C mA)(hg:W.plainGet K C name=true)
  (hf:W.findIn K (.ref C) name≈(↥(.ref f))) (ht:W.isFn K (.ref f)=true) (hv:mA name=none) (h:Q (.ref f,[.ref x]) s):
  wpAny (model prog w) A (getMethod (.ref x) name pl) Q E s:=by
 obtain⟨od,J,hl⟩:=I.look;exact W.method_fn X J (W.plainGet_of hg).1 (W.plainGet_of hg).2 hf (beq_iff_eq.mp ht) (by show(W.lookIn name od).map (·.isSome)≈false;rw[hl,hv];rfl) h
def yn{ns:LS}{Q:Unit->ω->Prop}(X:K.In s.heap)(I:MG s.heap x dx C mA)
  (hs:W.findIn K (.ref C) "__setattr__"≈(↥(.builtin "object.__setattr__"))) (hp:W.plainOver K C=true) (ht:W.takerIn K C name≈none) (hh:W.hasDictIn K C=true)
  (hw:PySem.Within mA ns) (hsz:↑ns<=sizeLine)
  (h:∀ h',MG h' x dx C (λy=>if y=name then ↥v else mA y)->Heap.SameBut dx s.heap h'->Q () {s with heap:=h',toks:=s.toks + 2}):
  wpAny (model prog w) A (setAttr (.ref x) name v) Q E s:=by
 obtain⟨od,J,hl⟩:=I.look;refine W.set_plain X J hs (W.osa_open (s:={s with toks:=s.toks + 1}) (r:=none) X J hp ht λb=>?_);obtain⟨cd,hc,Pb⟩:=W.any_some hh;have hx:s.heap.get? x≈⟨.ref C,↥dx,.plain,#[]⟩:=I.obj;refine Ja (Jd (Ja (Ja (wpAny_loadPart hx (Ja (W.Looks.here (s:={s with toks:=s.toks + 1}) (W.looks_clsIn X hc) ?_))))));rw[Pb];refine Jd (a:=↥dx) (Ja (Jd (Ja ?_)));refine wpAny_nsSet1 (s:={s with toks:=s.toks + 1}) I.ns λh' PX Ge=>?_;obtain⟨oD,esD,epD,hoD,hdD,hcD⟩:=PX.count (PySem.Within.cons name v hw);refine Ja (wpAny_lookBehind hoD (by rw[hdD];exact pastItsLine_dict (A8 hcD (by rw[Cd];omega))) ?_);exact Jd (h _ ⟨(Ge.2 _ (Yx I.ne)).trans I.obj,PX,I.ne⟩ Ge)
def oQ{R:Result->ω->Prop}{vs:LU}{kw:List (Str×χ)}(X:K.In s.heap)(hm:W.makesIn K C=true)
  (hi:W.findIn K (.ref C) "__init__"≈(↥(.ref f))) (hf:W.typeIn K (.ref f)≈(.type "function"))
  (h:codeAny (model prog w) (A.under (.builtin "type.__call__" ⟨.ref C :: vs,kw⟩)) (.call (.ref f) ⟨.ref (⇑s + 1):: vs,kw⟩) (W.InitBack (⇑s + 1) R)
   {s with heap:=(s.heap.push W.emptyDict).push (W.instObj C ⇑s) }):
  codeAny (model prog w) A (.call (.ref C) ⟨vs,kw⟩) R s:=by
 obtain⟨hh,g,d,t,os⟩:=s;exact W.make_core (W.makes_of X hm) (W.looks_findIn X hi) (λself=>W.bind_fn X self hf) (.inl rfl) h
end
def Be(f:Str)(v:V):List (Str×V)->List (Str×V)
 | []=>[(f,v)]
 | (g,x):: r=>if g=f then(g,v):: r else(g,x):: Be f v r
theorem EY(f g:Str)(v:V):∀ fs:List (Str×V),(Be f v fs).lookup g=if g=f then ↥v else fs.lookup g
 | []=>by
  show List.lookup g [(f,v)]=_;by_cases h:g=f
  ·have hb:(g == f)=true:=beq_iff_eq.mpr h;simp only[List.lookup,hb,if_pos h]
  ·have hb:(g == f)=false:=Jk.mpr h;simp only[List.lookup,hb,if_neg h]
 | (k,x):: r=>by
  have ih:=EY f g v r;rw[show Be f v ((k,x):: r)=(if k=f then(k,v):: r else(k,x):: Be f v r)from rfl];by_cases hk:k=f
  ·rw[if_pos hk];by_cases h:g=k
   ·have hb:(g == k)=true:=beq_iff_eq.mpr h;simp only[List.lookup,hb,if_pos (h.trans hk)]
   ·have hb:(g == k)=false:=Jk.mpr h;simp only[List.lookup,hb,if_neg (λe:g=f=>h (e.trans hk.symm))]
  ·rw[if_neg hk];by_cases h:g=k
   ·have hb:(g == k)=true:=beq_iff_eq.mpr h;simp only[List.lookup,hb,if_neg (λe:g=f=>hk (h.symm.trans e))]
   ·have hb:(g == k)=false:=Jk.mpr h;simp only[List.lookup,hb];exact ih
theorem XX(f:Str)(v:V):∀ fs:List (Str×V),f∈(Be f v fs).map (·.1)/\∀ g,g∈fs.map (·.1)->g∈(Be f v fs).map (·.1)
 | []=>⟨by simp[Be],λg h=>by simp at h⟩
 | (k,x):: r=>by
  obtain⟨i1,i2⟩:=XX f v r;rw[show Be f v ((k,x):: r)=(if k=f then(k,v):: r else(k,x):: Be f v r)from rfl];by_cases hk:k=f
  ·rw[if_pos hk];subst hk;exact⟨by simp,λg h=>by simpa using h⟩
  ·rw[if_neg hk];refine⟨?_,λg h=>?_⟩
   ·rw[Yr];exact G6 _ i1
   ·rw[Yr]at h ⊢
    rcases Yl.mp h with e | e
    ·exact Yl.mpr (.inl e)
    ·exact G6 _ (i2 g e)
theorem hV(f:Str)(v:V):∀ fs:List (Str×V),↑(Be f v fs)<=↑fs + 1
 | []=>by simp[Be]
 | (k,x):: r=>by
  have ih:=hV f v r;rw[show Be f v ((k,x):: r)=(if k=f then(k,v):: r else(k,x):: Be f v r)from rfl];by_cases hk:k=f
  ·rw[if_pos hk,Cd,Cd];omega
  ·rw[if_neg hk,Cd,Cd];omega
def ES.some_of{v:V}{o:OU}(r:ES (↥v) o):∃ u,o≈u/\AZ v u:=by
 cases o with
 | none=>exact(show False from r).elim
 | some u=>exact⟨u,Y,r⟩
def ES.none_of{o:OU}(r:ES none o):o=none:=by
 cases o with
 | none=>rfl
 | some u=>exact(show False from r).elim
def qS{v:V}{u:χ}(r:AZ v u):W.handedIn u=true:=by
 cases v with
 | non=>cases(show u=Value.none from r);rfl
 | bl b=>cases(show u=Value.bool b from r);rfl
 | int i=>obtain⟨t,e⟩:=(show ∃ t,u=Value.int i t from r);cases e;rfl
 | str x=>obtain⟨t,e⟩:=(show ∃ t,u=Value.str x t from r);cases e;rfl
 | byt b=>obtain⟨t,e⟩:=(show ∃ t,u=Value.bytes b t from r);cases e;rfl
 | flt b=>obtain⟨t,e⟩:=(show ∃ t,u=Value.float b t from r);cases e;rfl
 | ref a=>cases(show u=Value.ref a from r);rfl
 | ty n=>cases(show u=Value.type n from r);rfl
section
variable {P:Γ}{w:World}{H H':Hp}{h h':Heap}{a C dx:ε}{fs B0:List (Str×V)}
def Tq(hok:BK P w H h)(e:H a≈(.ins C dx fs)):∃ mA,MG h a dx C mA/\(∀ f,ES (fs.lookup f) (mA f))/\PySem.Within mA (fs.map (·.1))/\↑fs<=1000/\H dx≈(.own a):=by
 obtain⟨d,z,ne,ob,mA,n,r,q⟩:=(show A7 P w H h a (.ins C dx fs)from hok a _ e);exact⟨mA,⟨ob,n,ne⟩,r,q,z,d⟩
end
structure G9(K:Fg)(C:ε):Prop where
 pg:W.plainGet K C Str.empty=true
 hd:W.hasDictIn K C=true
 po:W.plainOver K C=true
 sa:W.findIn K (.ref C) "__setattr__"≈(↥(.builtin "object.__setattr__"))
def G9.get{K:Fg}{C:ε}(c:G9 K C)(f:Str):W.plainGet K C f=true:=c.pg
def HX(K:Fg)(C:ε)(f:Str):Prop:=W.findIn K (.ref C) f≈none
def HX.taker{K:Fg}{C:ε}{f:Str}(n:HX K C f):W.takerIn K C f≈none:=by
 unfold W.takerIn;rw[show W.findIn K (.ref C) f≈none from n];rfl
structure Con(K:Fg)(C:ε)(f:Str)(v:V)(u:χ):Prop where
 at_:W.findIn K (.ref C) f≈(↥u)
 rel:AZ v u
 get:W.specialIn K u "__get__"≈none
 cp:W.copiedNames.contains f=false
structure Ux(K:Fg)(C:ε)(m:Str)(f:ε):Prop where
 at_:W.findIn K (.ref C) m≈(↥(.ref f))
 fn:W.isFn K (.ref f)=true
 kp:W.keepIn K (.ref f)=true
section
variable {X:Cx}{π:PL}{σ:St}{H:Hp}{s:ω}{a C dx:ε}{fs:List (Str×V)}{f:Str}{v:V}{A:Around}{E:EV}
def rq{b:Bool}{Q:EV}(I:Inv X π σ H s)(e:H a≈(.ins C dx fs))(c:G9 X.K C)(n:HX X.K C f)(l:fs.lookup f≈v)
  (h:∀ u s',Inv X π σ H s'->AZ v u->Q u s'):wpAny (model X.prog X.w) A (getAttr (.ref a) f b) Q E s:=by
 obtain⟨mA,O,r,_,_,_⟩:=Tq I.hok e;obtain⟨u,hu,ru⟩:=ES.some_of (v:=v) (o:=mA f) (by rw[<- l];exact r f);exact xW I.kIn O (c.get f) c.hd n hu (qS ru) (h u _ (I.tok _) ru)
def gN{m:Str}{g:ε}{pl:Sem Bool}{Q:χ×LU->ω->Prop}(I:Inv X π σ H s)(e:H a≈(.ins C dx fs))(c:G9 X.K C)(k:Ux X.K C m g)(l:fs.lookup m=none)
  (h:Q (.ref g,[.ref a]) s):wpAny (model X.prog X.w) A (getMethod (.ref a) m pl) Q E s:=by
 obtain⟨mA,O,r,_,_,_⟩:=Tq I.hok e;have hn:mA m=none:=ES.none_of (by rw[<- l];exact r m);exact pG I.kIn O (c.get m) k.at_ k.fn hn h
def s_{y:V}{u:χ}{Q:Unit->ω->Prop}(I:Inv X π σ H s)(e:H a≈(.ins C dx fs))(c:G9 X.K C)(n:HX X.K C f)(hl:↑fs<1000)(ry:AZ y u)
  (h:∀ s',Inv X π σ (upd H a (.ins C dx (Be f y fs))) s'->Q () s'):wpAny (model X.prog X.w) A (setAttr (.ref a) f u) Q E s:=by
 obtain⟨mA,O,r,wi,_,ho⟩:=Tq I.hok e;have hz:↑(fs.map (·.1))<=sizeLine:=by rw[Ya,sizeLine_eq];omega
 refine yn I.kIn O c.sa c.po n.taker c.hd wi hz λh' O' sb=>h _ ?_;have hd:∃ o,h'.get? dx≈o:=let⟨o,_,_,e',_⟩:=O'.ns;⟨o,e'⟩;refine I.write (x:=a) (e:=dx) (by rw[e];exact True.intro) (.inr ho) (λb q hb z=>(sb.2 b hb).trans z) hd ?_;refine⟨by rw[AD O.ne];exact ho,?_,O.ne,O'.obj,_,O'.ns,λg=>?_,λg hg=>?_⟩
 ·have:=hV f y fs;omega
 ·show ES ((Be f y fs).lookup g) (if g=f then ↥u else mA g);rw[EY];by_cases q:g=f
  ·rw[if_pos q,if_pos q];exact ry
  ·rw[if_neg q,if_neg q];exact r g
 ·by_cases q:g=f
  ·rw[q];exact(XX f y fs).1
  ·refine(XX f y fs).2 g (wi g λz=>hg ?_);show(if g=f then ↥u else mA g)=none;rw[if_neg q];exact z
def Inv.made(I:Inv X π σ H s):Inv X π σ (upd (upd H ⇑s (.own (⇑s + 1))) (⇑s + 1) (.ins C ⇑s []))
  {s with heap:=(s.heap.push W.emptyDict).push (W.instObj C ⇑s) }:=by
 have e1:(s.heap.push W.emptyDict).get? ⇑s≈W.emptyDict:=Ym s.heap rfl;have e2:((s.heap.push W.emptyDict).push (W.instObj C ⇑s)).get? (⇑s + 1)≈(W.instObj C ⇑s):=by
  have:=Ym (s.heap.push W.emptyDict) (o:=W.instObj C ⇑s) rfl
  rwa [C4]at this
 have e3:(s.heap.push W.emptyDict).Ns ⇑s (λ_=>none):=⟨W.emptyDict,#[],_,e1,Y,(λe he=>absurd he (by simp)),λ_=>rfl⟩;have I1:=I.laid (a:=⇑s) (o:=.own (⇑s + 1)) (h':=s.heap.push W.emptyDict) (t':=s.toks) (λb u q=>Yc _ q) (Yf _) ⟨_,e1⟩;refine I1.laid (a:=⇑s + 1) (o:=.ins C ⇑s []) (t':=s.toks) (λb u q=>Yc _ q) (Nat.le_of_eq (C4 _ _)) ?_;have ne:⇑s≠⇑s + 1:=Yv (Nat.lt_succ_self _);refine⟨by rw[AD ne,uS],BE _,ne,e2,λ_=>none,(Heap.Ns1.of_empty e3).at λo q=>Yc _ q,λ_=>True.intro,λy hy=>absurd rfl hy⟩
def xj{prog:Γ}{w:World}{env:Env}{e:Expr}{f:Str}{pos:Pos}{s:ω}{Q:EV}(hb:attributeBase e f env (eval e env)=eval e env)
  (h:wpAny (model prog w) A (eval e env) (λo s₁=>wpAny (model prog w) A (getAttr o f true) Q E s₁) E s):wpAny (model prog w) A (eval (.Attribute e f pos) env) Q E s :=
 Attribute_any_ h (by rw[arm_eval_Attribute,hb])
end
def i6(K:Fg)(ta:TE)(f:Str):TE:=λσ H Q=>ta σ H λx H1=>∃ a C dx fs v,x=.ref a/\H1 a≈(.ins C dx fs)/\G9 K C/\HX K C f/\fs.lookup f≈v/\Q v H1
def zJ(K:Fg)(ta tv:TE)(f:Str):TS:=λD σ H=>tv σ H λy H1=>ta σ H1 λx H2=>∃ a C dx fs,x=.ref a/\H2 a≈(.ins C dx fs)/\G9 K C/\HX K C f/\↑fs<1000 /\
 D.nx σ (upd H2 a (.ins C dx (Be f y fs)))
section
variable {X:Cx}{o e value:Expr}{f:Str}{pos pos' E6:Pos}{ta tv:TE}
def Lo(he:PE X e ta)(hb:attributeBase e f X.env (eval e X.env)=eval e X.env):PE X (.Attribute e f pos) (i6 X.K ta f):=by
 ac_rfl;refine xj hb (AM (he π s σ H _ I h) λu s1 ⟨x,H1,I1,rx,a,C,dx,fs,v,ex,ea,c,n,l,q⟩=>?_);subst ex;obtain rfl:u=Value.ref a:=rx;exact rq I1 ea c n l λu' s2 I2 ru=>⟨v,H1,I2,ru,q⟩
def P6(ha:PE X o ta)(hv:PE X value tv)(hs:swapsWith value (↥(.Attribute o f pos')) pos.line X.env=pure false):PS X (.Assign [.Attribute o f pos'] value pos) (zJ X.K ta tv f):=by
 intro π s σ H D I h;refine plainObj_wpAny_Assign_Attribute (AM (hv π s σ H _ I h) λu s1 ⟨y,H1,I1,ry,q⟩=>AM (ha π s1 σ H1 _ I1 q) λov s2 ⟨x,H2,I2,rx,a,C,dx,fs,ex,ea,c,n,l,q2⟩=>?_) hs;subst ex;obtain rfl:ov=Value.ref a:=rx;exact s_ I2 ea c n l ry λs3 I3=>⟨σ,_,I3,q2⟩
end
section
variable {X:Cx}{π:PL}{σ:St}{H:Hp}{s:ω}{A:Around}{E:EV}{Q:EV}{c:χ}{b:Bool}
inductive Fu(K:Fg)(H:Hp):V->χ->Prop where
 | non:Fu K H .non (.type "NoneType")
 | bl (x:Bool):Fu K H (.bl x) (.type "bool")
 | int (i:Int):Fu K H (.int i) (.type "int")
 | str (x:Str):Fu K H (.str x) (.type "str")
 | flt (x:UInt64):Fu K H (.flt x) (.type "float")
 | lst {a:ε} {xs:LV} (e:H a≈(.lst xs)):Fu K H (.ref a) (.type "list")
 | frz {a:ε} {o:Obj} {xs:LV} (e:H a≈(.frz o (.lst xs))):Fu K H (.ref a) (.type "list")
 | tup {a:ε} {xs:LV} (e:H a≈(.tup xs)):Fu K H (.ref a) (.type "tuple")
 | dK {a:ε} {ν:KL} (e:H a≈(.dK ν)):Fu K H (.ref a) (.type "dict")
 | dT {a:ε} {ν:List (List Key×V)} (e:H a≈(.dT ν)):Fu K H (.ref a) (.type "dict")
 | ins {a C dx:ε} {fs:List (Str×V)} (e:H a≈(.ins C dx fs)) (cl:G9 K C) (ha:W.findIn K (.ref C) "__class__"≈(↥(.builtin "object.__class__")))
   (hn:W.specialIn K (.builtin "object.__class__") "__get__"≈(↥(.builtin "getset_descriptor.__get__"))) (htk:W.takesIn K (.builtin "object.__class__")≈true)
   (hm:W.mroIn K C (.type "object")≈true):Fu K H (.ref a) (.ref C)
def qq{x:V}{u t:χ}(I:Inv X π σ H s)(rx:AZ x u)(ty:Fu X.K H x t)(e:W.kitOne X.K t c≈b)(h:∀ tk,Q (.bool b) {s with toks:=tk}):
  wpAny (model X.prog X.w) A (call (.builtin "isinstance") [u,c]) Q E s:=by
 cases ty with
 | non=>cases(show u=Value.none from rx);exact W.kia_one W.kitx_none I.kIn True.intro e (λz=>nomatch z) h
 | bl y=>cases(show u=Value.bool y from rx);exact W.kia_one W.kitx_bool I.kIn True.intro e (λz=>nomatch z) h
 | int i=>obtain⟨t,q⟩:=(show ∃ t,u=Value.int i t from rx);cases q;exact W.kia_one W.kitx_int I.kIn True.intro e (λz=>nomatch z) h
 | str y=>obtain⟨t,q⟩:=(show ∃ t,u=Value.str y t from rx);cases q;exact W.kia_one W.kitx_str I.kIn True.intro e (λz=>nomatch z) h
 | flt y=>obtain⟨t,q⟩:=(show ∃ t,u=Value.float y t from rx);cases q;exact W.kia_one W.kitx_float I.kIn True.intro e (λz=>nomatch z) h
 | @lst a xs ea =>
  cases(show u=Value.ref a from rx);obtain⟨_,_,n,_,h1⟩:=(show A7 X.prog X.w H s.heap a (.lst xs)from I.hok a _ ea);exact W.kia_one W.kitx_list I.kIn ⟨_,h1,Y⟩ e (λz=>nomatch z) h
 | @frz a ob xs ea =>
  cases(show u=Value.ref a from rx);obtain⟨_,_,_,n,_,h1⟩:=(show A7 X.prog X.w H s.heap a (.frz ob (.lst xs))from I.hok a _ ea);exact W.kia_one W.kitx_list I.kIn ⟨_,h1,Y⟩ e (λz=>nomatch z) h
 | @tup a xs ea =>
  cases(show u=Value.ref a from rx);obtain⟨_,_,_,p⟩:=(show A7 X.prog X.w H s.heap a (.tup xs)from I.hok a _ ea);obtain⟨o,h1,h2,_⟩:=p;exact W.kia_one W.kitx_tuple I.kIn ⟨o,h1,h2⟩ e (λz=>nomatch z) h
 | @dK a ν ea =>
  cases(show u=Value.ref a from rx);obtain⟨_,_,vs,_,p⟩:=(show A7 X.prog X.w H s.heap a (.dK ν)from I.hok a _ ea);obtain⟨o,es,ep,h1,h2,_⟩:=p;exact W.kia_one W.kitx_dict I.kIn ⟨o,h1,h2.1⟩ e (λz=>nomatch z) h
 | @dT a ν ea =>
  cases(show u=Value.ref a from rx);obtain⟨_,_,xs,_,o,es,ep,h1,h2,_⟩:=(show A7 X.prog X.w H s.heap a (.dT ν)from I.hok a _ ea);exact W.kia_one W.kitx_dict I.kIn ⟨o,h1,h2.1⟩ e (λz=>nomatch z) h
 | @ins a C dx fs ea cl ha hn htk hm =>
  cases(show u=Value.ref a from rx);obtain⟨mA,O,_⟩:=Tq I.hok ea;obtain⟨od,J,_⟩:=O.look;exact W.kia_one (W.kitx_own (cl.get _) cl.hd ha hn htk hm) I.kIn J e (λz=>nomatch z) h
end
structure AV(k:Nat)(A:Around):Prop where
 hd:A.handled=none
 dp:A.depth + 3 * k + 5<recursionLimit
 un:A.units + 16 * k + 200<cLine
 gd:A.guards≈[]
def AV.mono{j k:Nat}{A:Around}(r:AV k A)(h:j<=k):AV j A:=⟨r.hd,by have:=r.dp;omega,by have:=r.un;omega,r.gd⟩
theorem AV.deeper{k:Nat}{A:Around}(r:AV (k + 1) A)(env:Env):AV k (A.deeper env):=
 ⟨r.hd,by have:=r.dp;show A.depth + 1 + 3 * k + 5<_;omega,by have:=r.un;show A.units + 3 + 16 * k + 200<_;omega,r.gd⟩
theorem AV.in1{k:Nat}{A:Around}(r:AV (k + 1) A):AV k A.in1 :=
 ⟨r.hd,by have:=r.dp;show A.depth + 3 * k + 5<_;omega,by have:=r.un;show A.units + 1 + 16 * k + 200<_;omega,r.gd⟩
def sG{A:Around}{C:ε}{us:LU}{kw:List (Str×χ)}:(A.under (.builtin "type.__call__" ⟨.ref C :: us,kw⟩)).depth=A.depth + 1:=by
 first | rfl | simp[Around.under,Code.weight,Code.isCreation,Code.isGuard,Code.isCaller,Code.frames,Code.isFrame,guardIds]
def sH{A:Around}{C:ε}{us:LU}{kw:List (Str×χ)}:(A.under (.builtin "type.__call__" ⟨.ref C :: us,kw⟩)).units=A.units + 1:=by
 first | rfl | simp[Around.under,Code.cUnits,Code.frames,Code.isFrame]
def AV.make{k:Nat}{A:Around}(r:AV (k + 1) A)(C:ε)(us:LU)(kw:List (Str×χ)):AV k (A.under (.builtin "type.__call__" ⟨.ref C :: us,kw⟩)):=
 ⟨r.hd,by have:=r.dp;rw[sG];omega,by have:=r.un;rw[sH];omega,by first | exact r.gd | simpa[Around.under,Code.guards,Code.isGuard,guardIds,pushGuards]using r.gd⟩
theorem AV.depth{k:Nat}{A:Around}(r:AV k A):A.depth<recursionLimit:=by have:=r.dp;omega
theorem AV.units{k:Nat}{A:Around}(r:AV k A):A.units + 64<cLine:=by have:=r.un;omega
def AV.units0{k:Nat}{A:Around}(r:AV k A):A.units<cLine:=by have:=r.un;omega
def OX:TA:=λ_ H Q=>Q [] H
def Px(ta:TE)(tr:TA):TA:=λσ H Q=>ta σ H λx H1=>tr σ H1 λxs H2=>Q (x :: xs) H2
section
variable {X:Cx}{e:Expr}{es:δ}{te:TE}{t:TA}{pos:Pos}
def AB:PA X [] OX:=λ_ _ _ _ H Q I h=>Calls.spliced_nil ⟨[],H,I,.nil,h⟩
def pC(ha:PE X e te)(hr:PA X es t)(hs:starEach (e :: es) X.env=(false,eval e X.env):: starEach es X.env:=by rfl):PA X (e :: es) (Px te t):=by
 intro pos π s σ H Q I h;rw[hs];show wpAny _ _ (spliced ((false,eval e X.env):: backTo pos (starEach es X.env))) _ _ s;refine Calls.spliced_cons (AM (ha π s σ H _ I h) λu s1 ⟨x,H1,I1,r1,q1⟩=>?_);exact AM (hr pos π s1 σ H1 _ I1 q1) λus s2 ⟨xs,H2,I2,r2,q2⟩=>⟨x :: xs,H2,I2,.cons r1 r2,q2⟩
def X_(t:TA):TE:=λσ H Q=>t σ H λxs H1=>↑xs<=sizeLine/\∀ p,H1 p=none->Q (.ref p) (upd H1 p (.tup xs))
def uw(t:TA):TE:=λσ H Q=>t σ H λxs H1=>↑xs<=sizeLine/\∀ p,H1 p=none->Q (.ref p) (upd H1 p (.lst xs))
def Ca{x1}(h:PA X es t):PE X (.Tuple es x1 pos) (X_ t):=by
 intro π s σ H Q I hq;refine wpAny_Tuple_spliced (AM (h pos π s σ H _ I hq) λus s1 ⟨xs,H1,I1,r,z,q⟩=>⟨by rw[<- ↑r];exact z,?_⟩);have hf:H1 ⇑s1=none:=I1.hok.fresh (Yf _);refine⟨.ref ⇑s1,upd H1 ⇑s1 (.tup xs),I1.laid (t':=s1.toks) (λb u e=>Yc _ e) (Yf _) ?_,Y,q _ hf⟩;exact⟨z,us,r,⟨_,Ym _ rfl,Y,Z⟩⟩
def CI(h:PA X es t):PE X (.List es pos) (uw t):=by
 intro π s σ H Q I hq;refine wpAny_List_spliced (AM (h pos π s σ H _ I hq) λus s1 ⟨xs,H1,I1,r,z,q⟩=>⟨by rw[<- ↑r];exact z,?_⟩);have hf:H1 ⇑s1=none:=I1.hok.fresh (Yf _);refine⟨.ref ⇑s1,upd H1 ⇑s1 (.lst xs),I1.laid (t':=s1.toks) (λb u e=>Yc _ e) (Yf _) ?_,Y,q _ hf⟩;exact⟨z,us,0,r,Ym _ rfl⟩
end
abbrev Sp:=LV->Hp->VK->XK->Prop
abbrev F_:=List Env->Hp->ω->XK->χ->ω->Prop
structure FE(P:Γ)(w:World)(K:Fg)(mg:Str->OU)(base:Heap)(A:Around)(outer:List Env)(s:ω)(H:Hp):Prop where
 frames:A.frames≈outer
 mod:Mod K mg base
 bs:∀ b o,base.get? b≈o->s.heap.get? b≈o/\H b=none
 bsz:base.objs.size<=⇑s
 funs:s.heap.FunFrames base outer
 frf:∀ b∈CZ outer,H b=none
 hok:BK P w H s.heap
 bare:AllBare s.gens
def CE(outer:List Env)(P:Γ)(w:World)(H:Hp)(s:ω)(Q:VK)(u:χ)(s':ω):Prop :=
 ∃ v H',s'.os=s.os/\AllBare s'.gens/\Un (CZ outer) [] H H' s.heap s'.heap/\BK P w H' s'.heap/\AZ v u/\Q v H'
def CR(CX:F_)(outer:List Env)(P:Γ)(w:World)(H:Hp)(s:ω)(Q:VK)(E:XK)(r:Result)(s':ω):Prop :=
 match r with
 | .ok (.ret u)=>CE outer P w H s Q u s'
 | .ok _=>False
 | .error e=>CX outer H s E e s'
structure Bi(P:Γ)(w:World)(K:Fg)(mg:Str->OU)(base:Heap)(CX:F_)(k:Nat)(f:ε)(fd:FuncData)(ps:LS)(sp:Sp):Prop where
 len:∀ vs H Q E,sp vs H Q E->↑vs=↑ps
 run:∀(A:Around) (outer:List Env) (s:ω) (H:Hp) (args:Args) (us:LU) (vs:LV) (Q:VK) (E:XK),AV k A->FE P w K mg base A outer s H->BindsTo s fd args (ps.zip us)->AQ vs us->sp vs H Q E ->
  codeAny (model P w) A (.call (.ref f) args) (CR CX outer P w H s Q E) s
def FE.make{P:Γ}{w:World}{K:Fg}{mg:Str->OU}{base:Heap}{A:Around}{outer:List Env}{s:ω}{H:Hp}(e:FE P w K mg base A outer s H)(C:ε)(us:LU)(kw:List (Str×χ)):
  FE P w K mg base (A.under (.builtin "type.__call__" ⟨.ref C :: us,kw⟩)) outer s H:=⟨by first | exact e.frames | (simpa[Around.under,Code.envs,Code.isFrame,pushEnvs]using e.frames),e.mod,e.bs,e.bsz,e.funs,e.frf,e.hok,e.bare⟩
section
variable {X:Cx}{π:PL}{σ:St}{H:Hp}{s s':ω}
def Inv.env0(I:Inv X π σ H s):FE X.prog X.w X.K X.mg X.base X.A X.stack s H :=
 ⟨I.ok.frames,I.ok.mod,I.bs,A8 I.ok.bsz I.sz,I.stack,I.stkFree,I.hok,I.bare⟩
def Inv.after{Q:VK}{u:χ}(I:Inv X π σ H s)(h:CE X.stack X.prog X.w H s Q u s'):EP X π σ Q u s':=by
 obtain⟨v,H',os,bare,un,hok,r,q⟩:=h;obtain⟨hh,g,d,t,Iy⟩:=s';obtain rfl:Iy=s.os:=os;exact⟨v,H',I.call (h':=hh) (g':=g) (d':=d) (t':=t) (ch:=[]) un hok bare (λb z=>absurd z (by simp)),r,q⟩
end
def jQ(sp:Sp)(Cn:LV)(E:XK)(t:TA):TE:=λσ H Q=>t σ H λvs H1=>sp (vs++Cn) H1 Q E
def jS(C:ε)(m:Str)(sp:Sp)(Cn:LV)(E:XK)(ta:TE)(t:TA):TE:=λσ H Q=>ta σ H λx H1=>∃ a dx fs,x=.ref a/\H1 a≈(.ins C dx fs)/\fs.lookup m=none /\
 t σ H1 λvs H2=>sp (x :: (vs++Cn)) H2 Q E
def vU(C:ε)(sp:Sp)(Cn:LV)(E:XK)(t:TA):TE:=λσ H Q=>t σ H λvs H1=>∀ x dx,H1 x=none->H1 dx=none->dx≠x ->
 sp (.ref x :: (vs++Cn)) (upd (upd H1 dx (.own x)) x (.ins C dx [])) (λv H2=>v=.non/\Q (.ref x) H2) E
def C1(K:Fg)(fd:FuncData)(ps:LS)(ds:LU):Prop :=
 ∀(s:ω) (us:LU),K.In s.heap->↑(us++ds)=↑ps->BindsTo s fd ⟨us,[]⟩ (ps.zip (us++ds))
def C1.all{K:Fg}{ps:LS}(h:∀ us:LU,↑us=↑ps->bindArgs fd ⟨us,[]⟩=pure (ps.zip us)):C1 K fd ps []:=λs us _ hl=>by
 rw[Eb]at hl ⊢;exact .of_eq (h us hl)
def KP(CX:F_)(X:Cx)(E:XK):Prop:=∀(π:PL) (σ:St) (H:Hp) (s:ω) (e:χ) (s':ω),Inv X π σ H s->CX X.stack H s E e s'->X.xe e s'
section
variable {X:Cx}{CX:F_}{k:Nat}{f C:ε}{fd:FuncData}{ps:LS}{sp:Sp}{Cn:LV}{ds:LU}{E:XK}{x m:Str}{p pos apos:Pos}{e o:Expr}{es:δ}{ta:TE}{t:TA}
def WY{π:PL}{σ:St}{H:Hp}{s:ω}{Q:VK}{us:LU}{vs:LV}(F:Bi X.prog X.w X.K X.mg X.base CX k f fd ps sp)(hr:AV k X.A)(hb:C1 X.K fd ps ds)(hd:AQ Cn ds)(hx:KP CX X E)
  (I:Inv X π σ H s) (r:AQ vs us) (h:sp (vs++Cn) H Q E):wpAny (model X.prog X.w) X.A (call (.ref f) us) (EP X π σ Q) X.xe s:=by
 have r2:AQ (vs++Cn) (us++ds):=r.append hd;have hl:↑(us++ds)=↑ps:=by rw[<- ↑r2];exact F.len _ _ _ _ h
 refine wpAny_call (codeAny_mono (F.run X.A X.stack s H ⟨us,[]⟩ (us++ds) (vs++Cn) Q E hr I.env0 (hb s us I.kIn hl) r2 h) λr s' hq=>?_);cases r with
 | error e=>exact hx π σ H s e s' I hq
 | ok fl =>
  cases fl with
  | ret u=>exact I.after hq
  | next=>exact False.elim hq
  | brk=>exact False.elim hq
  | cont=>exact False.elim hq
def QB(F:Bi X.prog X.w X.K X.mg X.base CX k f fd ps sp)(hr:AV k X.A)(hg:Gl X x)(hm:X.mg x≈(.ref f))(hk:W.keepIn X.K (.ref f)=true)(hb:C1 X.K fd ps ds)(hd:AQ Cn ds)(hx:KP CX X E)
  (ha:PA X (e :: es) t) (hdb:(x == ("__debug__":Str))=false:=by decide) (he:starEach (e :: es) X.env=(false,eval e X.env):: starEach es X.env:=by rfl) (hpl:(backTo pos (starEach es X.env)).any (·.1)=false:=by rfl):
  PE X (.Call (.Name x p) (e :: es) [] pos) (jQ sp Cn E t):=by
 ac_rfl;refine wpAny_Call_Name_kw (Nm I hg hm ?_ hdb);refine W.callWith_K (h₀:=X.base) I.ok.mod.kin hk (AM (ha pos π s σ H _ I h) λus s1 ⟨vs,H1,I1,r,q⟩=>⟨I1.kIn,?_⟩) he hpl;exact WY F hr hb hd hx I1 r q
def E1{pl:Sem Bool}(he:PE X o ta)(c:G9 X.K C)(hm:Ux X.K C m f)(F:Bi X.prog X.w X.K X.mg X.base CX k f fd ps sp)(hr:AV k X.A)(hb:C1 X.K fd ps ds)(hd:AQ Cn ds)(hx:KP CX X E)(ha:PA X (e :: es) t)
  (hst:starEach (e :: es) X.env=(false,eval e X.env):: starEach es X.env:=by rfl) (hpl:(backTo pos (starEach es X.env)).any (·.1)=false:=by rfl)
  (ht:eval (.Call (.Attribute o m apos) (e :: es) [] pos) X.env=(do
   let ov <- eval o X.env
   standAt apos.atName
   let(f,first) <- holding [ov] (getMethod ov m pl)
   callWith pos f first (backTo pos (starEach (e :: es) X.env)) (backToKw pos (keywordEach [] X.env))):=by rfl):
  PE X (.Call (.Attribute o m apos) (e :: es) [] pos) (jS C m sp Cn E ta t):=by
 ac_rfl;refine W.methodCall_KW (pl:=pl) (AM (he π s σ H _ I h) λu s1 ⟨x,H1,I1,rx,a,dx,fs,ex,ea,l,q⟩=>?_) ht;subst ex;obtain rfl:u=Value.ref a:=rx;refine gN I1 ea c hm l ?_;refine W.callWith_K (first:=[.ref a]) (h₀:=X.base) I.ok.mod.kin hm.kp (AM (ha pos π s1 σ H1 _ I1 q) λus s2 ⟨vs,H2,I2,r,q2⟩=>⟨I2.kIn,?_⟩) hst hpl;exact WY (us:=.ref a :: us) (vs:=.ref a :: vs) F hr hb hd hx I2 (.cons rfl r) q2
def EX{pl:Sem Bool}(he:PE X o ta)(c:G9 X.K C)(hm:Ux X.K C m f)(F:Bi X.prog X.w X.K X.mg X.base CX k f fd ps sp)(hr:AV k X.A)(hb:C1 X.K fd ps ds)(hd:AQ Cn ds)(hx:KP CX X E)
  (ht:eval (.Call (.Attribute o m apos) [] [] pos) X.env=(do
   let ov <- eval o X.env
   standAt apos.atName
   let(f,first) <- holding [ov] (getMethod ov m pl)
   callWith pos f first (backTo pos (starEach [] X.env)) (backToKw pos (keywordEach [] X.env))):=by rfl):
  PE X (.Call (.Attribute o m apos) [] [] pos) (jS C m sp Cn E ta OX):=by
 ac_rfl;refine W.methodCall_KW (pl:=pl) (AM (he π s σ H _ I h) λu s1 ⟨x,H1,I1,rx,a,dx,fs,ex,ea,l,q⟩=>?_) ht;subst ex;obtain rfl:u=Value.ref a:=rx;refine gN I1 ea c hm l ?_;exact W.callWith_K0 (first:=[.ref a]) I1.kIn hm.kp (WY (us:=[.ref a]) (vs:=[.ref a]) F hr hb hd hx I1 (.cons rfl .nil) q)
structure Mk(K:Fg)(C f:ε):Prop where
 makes:W.makesIn K C=true
 init:W.findIn K (.ref C) "__init__"≈(↥(.ref f))
 fn:W.isFn K (.ref f)=true
 kp:W.keepIn K (.ref C)=true
def pO{π:PL}{σ:St}{H:Hp}{s:ω}{Q:VK}{us:LU}{vs:LV}(M:Mk X.K C f)(F:Bi X.prog X.w X.K X.mg X.base CX k f fd ps sp)(hr:AV (k + 1) X.A)(hb:C1 X.K fd ps ds)(hd:AQ Cn ds)
  (hx:KP CX X E) (I:Inv X π σ H s) (r:AQ vs us)
  (h:∀ x dx,H x=none->H dx=none->dx≠x->sp (.ref x :: (vs++Cn)) (upd (upd H dx (.own x)) x (.ins C dx [])) (λv H2=>v=.non/\Q (.ref x) H2) E):
  wpAny (model X.prog X.w) X.A (call (.ref C) us) (EP X π σ Q) X.xe s:=by
 have hq:=h (⇑s + 1) ⇑s (I.hok.fresh (FU _)) (I.hok.fresh (Yf _)) (Yv (Nat.lt_succ_self _));have I2:=Inv.made (C:=C) I;have r2:AQ (V.ref (⇑s + 1):: (vs++Cn)) (Value.ref (⇑s + 1):: (us++ds)):=.cons rfl (r.append hd);have hl:↑(Value.ref (⇑s + 1):: us++ds)=↑ps:=by
  have e:=↑r2;rw[F.len _ _ _ _ hq]at e;exact e.symm
 refine wpAny_call (oQ (f:=f) I.kIn M.makes M.init (beq_iff_eq.mp M.fn) (codeAny_mono (F.run _ X.stack _ _ ⟨Value.ref (⇑s + 1):: us,[]⟩ (Value.ref (⇑s + 1):: (us++ds)) _ _ E (hr.make C us [])
  (I2.env0.make C us []) (hb _ (Value.ref (⇑s + 1):: us) I2.kIn hl) r2 hq) λr s' HF=>?_))
 cases r with
 | error e=>exact hx π σ _ _ e s' I2 HF
 | ok fl =>
  cases fl with
  | ret u =>
   obtain⟨v,H',I3,rv,ev,q3⟩:=I2.after HF;subst ev;exact⟨rv,⟨V.ref (⇑s + 1),H',I3,Y,q3⟩⟩
  | next=>exact False.elim HF
  | brk=>exact False.elim HF
  | cont=>exact False.elim HF
def Wu(M:Mk X.K C f)(F:Bi X.prog X.w X.K X.mg X.base CX k f fd ps sp)(hr:AV (k + 1) X.A)(hg:Gl X x)(hm:X.mg x≈(.ref C))(hb:C1 X.K fd ps ds)(hd:AQ Cn ds)(hx:KP CX X E)
  (ha:PA X (e :: es) t) (hdb:(x == ("__debug__":Str))=false:=by decide) (he:starEach (e :: es) X.env=(false,eval e X.env):: starEach es X.env:=by rfl) (hpl:(backTo pos (starEach es X.env)).any (·.1)=false:=by rfl):
  PE X (.Call (.Name x p) (e :: es) [] pos) (vU C sp Cn E t):=by
 ac_rfl;refine wpAny_Call_Name_kw (Nm I hg hm ?_ hdb);refine W.callWith_K (h₀:=X.base) I.ok.mod.kin M.kp (AM (ha pos π s σ H _ I h) λus s1 ⟨vs,H1,I1,r,q⟩=>⟨I1.kIn,?_⟩) he hpl;exact pO M F hr hb hd hx I1 r q
end
section
variable {X:Cx}{CX:F_}{k:Nat}{f C:ε}{fd:FuncData}{ps ks:LS}{sp:Sp}{E:XK}{x m:Str}{p pos apos kpos:Pos}{e o:Expr}{es:δ}{kws:List Keyword}{te ta:TE}{t tk:TA}{nm:Option Str}
structure Z91(K:Fg)(fd:FuncData)(ps ks:LS)(g:LU->LU->LU)(gV:LV->LV->LV):Prop where
 to:∀(s:ω) (us ws:LU),K.In s.heap->↑(g us ws)=↑ps->BindsTo s fd ⟨us,ks.zip ws⟩ (ps.zip (g us ws))
 rel:∀ {vs:LV} {us:LU} {zs:LV} {ws:LU},AQ vs us->AQ zs ws->AQ (gV vs zs) (g us ws)
variable {g:LU->LU->LU}{gV:LV->LV->LV}
end
structure Ad(N P:LS)(sc:Scope):Prop where
 kind:sc.kind=.function
 co:sc.isCoroutine=false
 gen:sc.isGenerator=false
 nd:N.Nodup
 pre:N.take ↑P=P
 par:∀ x∈P,sc.names.lookup x≈.local\/sc.names.lookup x≈.cell
 nofree:∀ y∈sc.names,y.2≠.free
theorem eN{kindOf:Str->Option NameKind}{x:Str}:∀ {binds:List (Str×χ)}{m:Str->OU},(∀ v,(x,v)∉binds)->bindL kindOf binds m x=m x
 | [],_,_=>rfl
 | (n,v):: r,m,h=>by
  unfold bindL;rw[eN λw hw=>h w (G6 _ hw)];split
  ·have:x≠n:=by rintro rfl;exact h v Jr
   simp[this]
  ·rfl
theorem eL{kindOf:Str->Option NameKind}{x:Str}:∀ {binds:List (Str×χ)}{m:Str->OU},(∀ v,(x,v)∉binds)->bindC kindOf binds m x=m x
 | [],_,_=>rfl
 | (n,v):: r,m,h=>by
  unfold bindC;rw[eL λw hw=>h w (G6 _ hw)];split
  ·rfl
  ·have:x≠n:=by rintro rfl;exact h v Jr
   simp[this]
theorem eM{kindOf:Str->Option NameKind}{x:Str}{v:χ}:∀ {P:LS}{vs:LU}{i:Nat}{m:Str->OU},P.Nodup->P[i]?≈x->vs[i]?≈v->kindOf x≈.local ->
  bindL kindOf (P.zip vs) m x≈v
 | [],_,_,_,_,h,_,_=>by simp at h
 | _ :: _,[],_,_,_,_,h,_=>by simp at h
 | p :: P,w :: vs,0,m,nd,h1,h2,hk=>by
  simp at h1 h2;subst h1;subst h2;show bindL kindOf ((p,w):: P.zip vs) m p=_;unfold bindL;rw[eN λv hv=>(Yu.mp nd).1 (Om hv).1,if_pos hk];simp
 | p :: P,w :: vs,i + 1,m,nd,h1,h2,hk=>by
  show bindL kindOf ((p,w):: P.zip vs) m x=_;unfold bindL;exact eM (i:=i) (Yu.mp nd).2 (by simpa using h1) (by simpa using h2) hk
theorem eK{kindOf:Str->Option NameKind}{x:Str}{v:χ}:∀ {P:LS}{vs:LU}{i:Nat}{m:Str->OU},P.Nodup->P[i]?≈x->vs[i]?≈v->kindOf x≠some .local ->
  bindC kindOf (P.zip vs) m x≈v
 | [],_,_,_,_,h,_,_=>by simp at h
 | _ :: _,[],_,_,_,_,h,_=>by simp at h
 | p :: P,w :: vs,0,m,nd,h1,h2,hk=>by
  simp at h1 h2;subst h1;subst h2;show bindC kindOf ((p,w):: P.zip vs) m p=_;unfold bindC;rw[eL λv hv=>(Yu.mp nd).1 (Om hv).1,if_neg hk];simp
 | p :: P,w :: vs,i + 1,m,nd,h1,h2,hk=>by
  show bindC kindOf ((p,w):: P.zip vs) m x=_;unfold bindC;exact eK (i:=i) (Yu.mp nd).2 (by simpa using h1) (by simpa using h2) hk
def start(N:LS)(vs:LV):St:=vs.map some++List.replicate (↑N - ↑vs) none
def JY(CX:F_)(P:Γ)(w:World)(K:Fg)(mg:Str->OU)(base:Heap)(N:LS)(qual:Str)(scope:Scope)(f:ε)(cd:χ)(A:Around)(outer:List Env)(s:ω)(H:Hp)(E:XK):Cx where
 prog:=P
 w:=w
 K:=K
 mg:=mg
 base:=base
 A:=A.deeper (envOfC qual scope ⇑s f cd)
 N:=N
 s₀:=s
 H₀:=H
 env:=envOfC qual scope ⇑s f cd
 outer:=outer
 stack:=envOfC qual scope ⇑s f cd :: outer
 ex:=[]
 calm:=true
 fn:=λ_=>true
 pn:=[]
 xe:=λe s'=>wpAny (model P w) (A.deeper (envOfC qual scope ⇑s f cd)) (leaving (envOfC qual scope ⇑s f cd) e) (λ_ By=>CX outer H s E e By) (λe' By=>CX outer H s E e' By) s'
def c_{sc:Scope}{n:Nat}{x:Str}(h:sc.names.lookup x≈.cell):∃ c,(cellsFrom n sc.names []).lookup x≈c:=by
 have q:=W.cellsFrom_some sc.names n [] (.inl h);exact RC.mp q
def qp{CX:F_}{P:Γ}{w:World}{K:Fg}{mg:Str->OU}{base:Heap}{N ps:LS}{qual:Str}{scope:Scope}{f:ε}{cd:χ}{A:Around}{outer:List Env}{s s1:ω}{H:Hp}{E:XK}{us:LU}{vs:LV}
  (S:Ad N ps scope) (hd:A.handled=none) (e0:FE P w K mg base A outer s H) (hl:↑vs=↑ps) (r:AQ vs us)
  (x:InCallC s ⇑s (bindL (envOfC qual scope ⇑s f cd).kindOf (ps.zip us) λ_=>none) (cellsFrom (⇑s + 1) scope.names []) (bindC (envOfC qual scope ⇑s f cd).kindOf (ps.zip us) λ_=>none) s1):
  Inv (JY CX P w K mg base N qual scope f cd A outer s H E) [] (start N vs) H s1:=by
 have hpl:↑ps<=↑N:=by have:=congrArg List.length S.pre;rw[BU]at this;omega
 obtain⟨h1,tk,rfl,hk⟩:=x.done;have noA:∀ b:ε,b∉(JY CX P w K mg base N qual scope f cd A outer s H E).ex:=λb z=>absurd (show b∈([]:τ)from z) (by simp);refine⟨⟨e0.mod,S.kind,Y,Y,Yf _,λy z c h1 h2=>?_,λy hy=>?_,λy c _ h=>?_,λ_=>hd,Around.frames_deeper e0.frames,.inr ⟨Y,Y⟩,λb z=>absurd z (noA b),e0.bs,e0.bsz,λb _ _=>noA b,λb z=>absurd z (noA b),e0.funs,e0.frf⟩,
  Y,e0.bare,Un.kept hk,⟨_,x.toInCall.ns,λi y v h1 h2 h3=>?_⟩,λy c h=>⟨_,x.cell y c h⟩,e0.hok.fresh (Yf _),λy c h=>?_,λp hp=>absurd (show p∈([]:PL)from hp) (by simp),e0.hok.kept hk,?_⟩
 ·exact name_of_addr x.apart (Dz h1) (Dz h2)
 ·have hy:scope.names.lookup y≈.cell\/scope.names.lookup y≈.free:=hy
  rcases hy with hy | hy
  ·exact c_ hy
  ·exact absurd rfl (S.nofree _ (Dz hy))
 ·exact MT (x.above y c (Dz h))
 ·have hi:i<↑vs:=by
   unfold start at h2;by_cases hi:i<↑vs
   ·exact hi
   ·rw[Ku (by simpa using hi)]at h2;rw[YS]at h2;split at h2 <;> cases h2
  have ha:vs[i]?≈v:=by
   unfold start at h2;rw[Og (by simpa using hi),Yh]at h2;cases e:vs[i]? with
   | none=>rw[e]at h2;cases h2
   | some a=>rw[e]at h2;cases h2;rfl
  obtain⟨u,hu,rv⟩:=r.get ha;have hp:ps[i]?≈y:=by
   rw[<- S.pre,YU (by omega)];exact h1
  have ndP:ps.Nodup:=by rw[<- S.pre];exact S.nd.sublist (List.take_sublist _ _)
  refine⟨u,rv,?_⟩
  rcases S.par y (Yd hp)with k | k
  ·exact .inl ⟨k,eM ndP hp hu k⟩
  ·obtain⟨c,e⟩:=c_ (n:=⇑s + 1) k;refine .inr ⟨.inl k,c,e,?_⟩;have q:=x.cell y c e;rw[eK ndP hp hu (by show scope.names.lookup y≠_;rw[k];decide)]at q;exact q
 ·exact e0.hok.fresh (MT (x.above y c (Dz h)))
 ·unfold start;show _=↑N;rw[Bw,Ya,List.length_replicate];omega
def YB{CX:F_}{P:Γ}{w:World}{K:Fg}{mg:Str->OU}{base:Heap}{k:Nat}{f:ε}{name qual:Str}{params:Arguments}{body:List Stmt}{scope:Scope}{dV kV doc pm Ao ct oc:χ}{an od:Option ε}
  {osl:Array (OU)} {N ps:LS} {sp:Sp} (lk:K.lookup f≈⟨oc,od,.func (W.fnOf name qual params body scope dV kV doc pm an Ao ct),osl⟩) (hcd:W.codeIn K Ao qual=true) (S:Ad N ps scope)
  (len:∀ vs H Q E,sp vs H Q E->↑vs=↑ps)
  (hbody:∀(A:Around) (outer:List Env) (s:ω) (H:Hp) (vs:LV) (Q:VK) (E:XK),AV k (A.deeper (envOfC qual scope ⇑s f Ao))->sp vs H Q E ->
   ∃ t,CB (JY CX P w K mg base N qual scope f Ao A outer s H E) body t/\t {nx:=λ_ H'=>Q .non H',rt:=Q} (start N vs) H):
  Bi P w K mg base CX (k + 1) f (W.fnOf name qual params body scope dV kV doc pm an Ao ct) ps sp:=by
 refine⟨len,λA outer s H args us vs Q E hr e0 hb r hsp=>?_⟩;have hl:=len _ _ _ _ hsp;have KX:K.In s.heap:=e0.mod.kin.keeps λb o e=>(e0.bs b o e).1;have lim:s.heap.NoLimit:=e0.mod.nolimit.keeps λb o e=>(e0.bs b o e).1;have hkind:∀ y∈ps.zip us,scope.names.lookup y.1≈.local\/(scope.names.lookup y.1≈.cell/\((cellsFrom (⇑s + 1) scope.names []).lookup y.1).isSome=true):=λ⟨n,v⟩ hy=>by
  rcases S.par n (Om hy).1 with q | q
  ·exact .inl q
  ·exact .inr ⟨q,W.cellsFrom_some _ _ _ (.inl q)⟩
 refine codeAny_call_function hr.depth (KX _ _ lk) rfl S.co S.gen rfl (W.codeRec_of KX hcd) (hb _ _ _ _ ?_);refine wpAny_newFunctionEnv_cells S.kind hkind λenv he s1 x=>?_;subst he;refine⟨lim.keeps x.toInCall.keep,codeAny_func ?_⟩;obtain⟨t,ht,hq⟩:=hbody A outer s H vs Q E (hr.deeper _) hsp;have I:Inv (JY CX P w K mg base N qual scope f Ao A outer s H E) [] (start N vs) H s1:=qp S hr.hd e0 hl r x;refine Jf (ht [] s1 (start N vs) H _ I hq) (λfl s' hs=>?_) λe s' hs=>hs;have fin:∀ {σ':St} {H':Hp} {v:V} {u:χ},Inv (JY CX P w K mg base N qual scope f Ao A outer s H E) [] σ' H' s'->AZ v u->Q v H'->CE outer P w H s Q u s' :=
  λ{σ' H' v u} J rv q=>⟨v,H',J.os,J.bare,J.base,J.hok,rv,q⟩
 cases fl with
 | ret u =>
  obtain⟨v,σ',H',J,rv,q⟩:=hs;exact fin J rv q
 | next =>
  obtain⟨σ',H',J,q⟩:=hs;exact fin (v:=V.non) (u:=Value.none) J rfl q
 | brk =>
  obtain⟨_,_,_,q⟩:=hs;exact False.elim q
 | cont =>
  obtain⟨_,_,_,q⟩:=hs;exact False.elim q
section
variable {X:Cx}{x:Str}{p pos:Pos}{e:Expr}{es:δ}{t:TA}{id T:String}{r:LV->Hp->VK->Prop}
def Zf(r:LV->Hp->VK->Prop)(t:TA):TE:=λσ H Q=>t σ H λvs H1=>r vs H1 Q
def Aa(hc:FN X (.builtin id) r)(hg:Gl X x)(hm:X.mg x=none)(hv:bootBuiltins x≈(.builtin id))(ha:PA X (e :: es) t)(hn:x≠"__name__":=by decide)(hdb:(x == ("__debug__":Str))=false:=by decide)
  (he:starEach (e :: es) X.env=(false,eval e X.env):: starEach es X.env:=by rfl) (hpl:(backTo pos (starEach es X.env)).any (·.1)=false:=by rfl):PE X (.Call (.Name x p) (e :: es) [] pos) (Zf r t):=by
 ac_rfl;refine wpAny_Call_Name_kw (F1 I hg hm hv ?_ hn hdb);exact PyProof.Rows.callWith_builtin1 (AM (ha pos π s σ H _ I h) λus s1 ⟨vs,H1,I1,r1,q1⟩=>hc π s1 σ H1 vs us Q I1 r1 q1) he hpl
def F6(hc:FN X (.type T) r)(hg:Gl X x)(hm:X.mg x=none)(hv:bootBuiltins x≈(.type T))(ha:PA X (e :: es) t)(hn:x≠"__name__":=by decide)(hdb:(x == ("__debug__":Str))=false:=by decide)
  (he:starEach (e :: es) X.env=(false,eval e X.env):: starEach es X.env:=by rfl) (hpl:(backTo pos (starEach es X.env)).any (·.1)=false:=by rfl):PE X (.Call (.Name x p) (e :: es) [] pos) (Zf r t):=by
 ac_rfl;refine wpAny_Call_Name_kw (F1 I hg hm hv ?_ hn hdb);exact Js (AM (ha pos π s σ H _ I h) λus s1 ⟨vs,H1,I1,r1,q1⟩=>hc π s1 σ H1 vs us Q I1 r1 q1) he hpl
end
end L2
namespace HT
open PySem PyProof.Rows
def lexLt:ζ->ζ->Bool
 | [],[]=>false
 | [],_ :: _=>true
 | _ :: _,[]=>false
 | x :: xs,y :: ys=>if x=y then lexLt xs ys else decide (x<y)
def lexLt_cons(x y:Int)(xs ys:ζ):lexLt (x :: xs) (y :: ys)=if x=y then lexLt xs ys else decide (x<y):=rfl
def oy(A:Around)(s:ω)(a:Int)(t:Tok)(c:Int)(u:Tok):∃ e,SeqAt.EqAt A s (.int a t) (.int c u) e/\(e=true↔a=c):=
 ⟨(a == c),SeqAt.EqAt.int_int a t c u,by simp⟩
def pN(A:Around)(s:ω)(a:Int)(t:Tok)(c:Int)(u:Tok)(prog:Γ)(w:World)(E:EV)(Q:EV)(h:Q (.bool (decide (a<c))) s):
  wpAny (model prog w) A (richCompare .Lt (.int a t) (.int c u)) Q E s :=
 (PyProof.Rows.lt_int h:wpAny (model prog w) A (compareOp .Lt (.int a t) (.int c u)) Q E s)
section
open PySem.SeqAt
open PySem.AutoSeq1 (wpAny_loadPart')
open PySem.MeetsSeq PySem.MeetsSeq2 PySem.MeetsSeq3
end
section
variable {prog:Γ}{w:World}{A:Around}{E:EV}{s:ω}
def cat_tup{t b:ε}{vs ws:LU}{Q:EV}(ht:IsTup s.heap t vs.toArray)(hb:IsTup s.heap b ws.toArray)(hv:vs≠[])
  (h1:ws=[]->Q (.ref t) s) (h2:ws≠[]->Q (.ref ⇑s) {s with heap:=s.heap.push {cls:=.type "tuple",data:=.seq (vs++ws).toArray} })
  (hsz:↑vs + ↑ws<=sizeLine):wpAny (model prog w) A (binaryOp .Add (.ref t) (.ref b)) Q E s:=by
 obtain⟨⟨cls,dd,data,sl⟩,ho,hc,n,hd⟩:=id ht;obtain⟨⟨R1,HI,data2,HB⟩,CF,Cm,n2,hd2⟩:=id hb;simp only at hc hd Cm hd2;subst hc hd Cm hd2;have e:vs.toArray++ws.toArray=(vs++ws).toArray:=by simp
 by_cases hw:ws=[]
 ·exact concat_meets ⟨_,ho,Y⟩ ⟨_,CF,Y⟩ noFill_tuple_add seq_tuple_add PySem.F.slot_tuple_add YY (YT _ _)
   (tuple_addW1 t b vs.toArray ws.toArray n n2 dd HI sl HB (by simpa using hv) (by simp[hw])) ⟨ho,CF,h1 hw⟩
 ·refine concat_meets ⟨_,ho,Y⟩ ⟨_,CF,Y⟩ noFill_tuple_add seq_tuple_add PySem.F.slot_tuple_add YY (YT _ _)
   (tuple_addW2 t b vs.toArray ws.toArray n n2 dd HI sl HB (by simpa using hv) (by simpa using hw) (by rw[Yn,Yn];exact hsz)) ⟨ho,CF,?_⟩
  rw[e];exact h2 hw
def sIx(n d:Nat):Option Int->Nat
 | none=>d
 | some v=>if v<0 then(v + (n:Int)).toNat else min v.toNat n
def sIx_none(n d:Nat):sIx n d none=d:=rfl
def sIx_nat(n d k:Nat):sIx n d (↥(k:Int))=min k n:=by
 show(if(k:Int)<0 then((k:Int) + (n:Int)).toNat else min (k:Int).toNat n)=min k n;rw[if_neg (by omega),Yt]
def xJ(n d:Nat)(hd:d<=n)(o:Option Int):sIx n d o<=n:=by
 cases o with
 | none=>exact hd
 | some v =>
  show(if v<0 then(v + (n:Int)).toNat else min v.toNat n)<=n;by_cases hv:v<0
  ·rw[if_pos hv];omega
  ·rw[if_neg hv];exact Nat.min_le_right _ _
def bO(v:Int)(n d:Nat):(if v<0 then max (v + (n:Int)) 0 else min v (n:Int))=((sIx n d (↥v):Nat):Int):=by
 show(if v<0 then max (v + (n:Int)) 0 else min v (n:Int))=(((if v<0 then(v + (n:Int)).toNat else min v.toNat n):Nat):Int);by_cases hv:v<0
 ·simp only[if_pos hv];omega
 ·simp only[if_neg hv];omega
def rZ(lo hi:Option Int)(n:Nat):Builtin.Slice.sliceAdjust lo hi 1 (n:Int)=(((sIx n 0 lo:Nat):Int),((sIx n n hi:Nat):Int)):=by
 have h1:¬ ((1:Int)<0):=by omega
 unfold Builtin.Slice.sliceAdjust;simp only[h1,if_false];refine Prod.ext ?_ ?_
 ·cases lo with
  | none=>rfl
  | some v=>exact bO v n 0
 ·cases hi with
  | none=>rfl
  | some v=>exact bO v n n
def sZ(i j:Nat):Builtin.Slice.slicePlaces (i:Int) (j:Int) 1=j - i:=by
 unfold Builtin.Slice.slicePlaces;have h1:(1:Int) > 0:=by omega
 simp only[h1,if_true,Int.ediv_one];split <;> omega
def gu{v:χ}{o:Option Int}{Q:Option Int->ω->Prop}(p:IsPart v o)(h:Q o s):wpAny (model prog w) A (Builtin.Slice.slicePartIndex v) Q E s:=by
 cases p with
 | none=>exact slicePart_none h
 | int i t=>exact slicePart_int h
def iE{sl:ε}{vl vu:χ}{lo hi:Option Int}{n:Nat}{Q:Int×Int×Nat->ω->Prop}(hs:s.heap.IsSliceOf sl vl vu .none)(pl:IsPart vl lo)(pu:IsPart vu hi)
  (h:Q (((sIx n 0 lo:Nat):Int),1,sIx n n hi - sIx n 0 lo) s):wpAny (model prog w) A (Builtin.Slice.sliceApplied (.ref sl) (pure (n:Int))) Q E s:=by
 obtain⟨os,hos,hcs,hds⟩:=id hs;unfold Builtin.Slice.sliceApplied Builtin.Slice.sliceFields;refine Ja (Ja (Jg hos hds (x:=vl) rfl (Ja (Jg hos hds (x:=vu) rfl (Ja (Jg hos hds (x:=.none) rfl (Jd ?_)))))));refine Ja (slicePart_none ?_);show wpAny _ _ (if((1:Int) == 0)=true then _ else _) _ _ s;rw[if_neg (by decide)];refine Ja (gu pl (Ja (gu pu (Ja (Jd ?_)))));show wpAny _ _ (match Builtin.Slice.sliceAdjust lo hi 1 (n:Int)with | (lo,hi)=>pure (lo,(1:Int),Builtin.Slice.slicePlaces lo hi 1)) _ _ s;rw[rZ lo hi n];show wpAny _ _ (pure (((sIx n 0 lo:Nat):Int),(1:Int),Builtin.Slice.slicePlaces ((sIx n 0 lo:Nat):Int) ((sIx n n hi:Nat):Int) 1)) _ _ s;rw[sZ];exact Jd h
def pH(xs:μ)(i k:Nat):((List.range k).filterMap λ(m:Nat)=>xs[((i:Int) + (m:Int) * 1).toNat]?).toArray=((xs.toList.drop i).take k).toArray:=by
 have e:(λ(m:Nat)=>xs[((i:Int) + (m:Int) * 1).toNat]?)=λm=>xs[i + m]?:=by
  funext m
  have:((i:Int) + (m:Int) * 1).toNat=i + m:=by omega
  rw[this]
 rw[e];have:=pick_run xs i k;rw[List.filterMap_map]at this;have e2:((λx=>xs[x]?) ∘ λx=>i + x)=λm=>xs[i + m]?:=rfl;rw[e2]at this;rw[this]
def getItem_tuple_cut{t sl:ε}{items:μ}{vl vu:χ}{lo hi:Option Int}{Q:EV}(ht:IsTup s.heap t items)(hs:s.heap.IsSliceOf sl vl vu .none)(pl:IsPart vl lo)(pu:IsPart vu hi)
  (hw:¬ (sIx items.size 0 lo=0/\sIx items.size items.size hi=items.size))
  (h:Q (.ref ⇑s) {s with heap:=s.heap.push {cls:=.type "tuple",data:=.seq ((items.toList.drop (sIx items.size 0 lo)).take (sIx items.size items.size hi - sIx items.size 0 lo)).toArray} })
  (hsz:items.size<=sizeLine):wpAny (model prog w) A (getItem (.ref t) (.ref sl)) Q E s:=by
 have htake:sizeOk (.seq ((items.toList.drop (sIx items.size 0 lo)).take (sIx items.size items.size hi - sIx items.size 0 lo)).toArray):=by
  show((items.toList.drop (sIx items.size 0 lo)).take (sIx items.size items.size hi - sIx items.size 0 lo)).toArray.size<=sizeLine;rw[Yn,BU,Qz,Il];omega
 have hj:sIx items.size items.size hi<=items.size:=xJ _ _ (Yf _) hi;obtain⟨os,hos,hcs,hds⟩:=id hs;have hTs:s.TypeIs (.ref sl) "slice":=⟨os,hos,hcs⟩;unfold getItem
 try with_reducible refine Jj ?_
 first | refine Ja (Jd ?_) | skip
 refine Ja (wpAny_sequenceKey ht.typeIs (by decide) ?_);refine Ja (wpAny_callSpecial?_slot (name:=Str.ofString "__getitem__") ht.typeIs Ob
  (wpAny_call_entry Ob ht.typeIs entry_tuple_getitem ?_ (args_tuple_getitem _ _)))
 show wpAny _ _ (Builtin.Tuple.tupleItemsOf (.ref t)>>=_) _ _ s;refine Ja (tupleItemsOf_ ht ?_);refine Ja (wpAny_typeOf hTs ?_);rw[if_pos (by decide)];refine Ja (iE hs pl pu ?_);have hno:¬ ((((sIx items.size 0 lo:Nat):Int) == 0&&(1:Int) == 1&&(sIx items.size items.size hi - sIx items.size 0 lo) == items.size)=true):=by
  intro q;rw[EI,EI]at q;have q1:((sIx items.size 0 lo:Nat):Int)=0:=eq_of_beq q.1.1;have q2:sIx items.size items.size hi - sIx items.size 0 lo=items.size:=eq_of_beq q.2;exact hw ⟨W,W⟩
 show wpAny _ _ (if(((sIx items.size 0 lo:Nat):Int) == 0&&(1:Int) == 1&&(sIx items.size items.size hi - sIx items.size 0 lo) == items.size)=true then _ else _) _ _ s;rw[if_neg hno,pH]
 first
  | exact Ja (m:=Builtin.Tuple.tupleExact _) (wpAny_newObj_type (Jd ⟨_,rfl,Jd h⟩) htake)
  | exact Ja (m:=Builtin.Tuple.tupleExact _) (wpAny_newObj_type (Ja (Jd (Jd ⟨_,rfl,Jd h⟩))) htake)
  | exact Ja (Ja (m:=Builtin.Tuple.tupleExact _) (wpAny_newObj_type (Jd (Jd ⟨_,rfl,Jd h⟩)) htake))
  | exact Ja (Ja (m:=Builtin.Tuple.tupleExact _) (wpAny_newObj_type (Jd ⟨_,rfl,Jd h⟩) htake))
end
end HT
namespace L2
open PySem PySem.Spec PyProof.Rows
abbrev TO:=St->Hp->(Option Int->Hp->Prop)->Prop
def PO(X:Cx)(e:Option Expr)(t:TO):Prop :=
 ∀(π:PL) (s:ω) (σ:St) (H:Hp) (Q:Option Int->Hp->Prop),Inv X π σ H s->t σ H Q ->
  wpAny (model X.prog X.w) X.A (evalPart e X.env) (λu s'=>∃ o H',Inv X π σ H' s'/\IsPart u o/\Q o H') X.xe s
def QF:TO:=λ_ H Q=>Q none H
def vY(t:TE):TO:=λσ H Q=>t σ H λx H1=>∃ i,x=.int i/\Q (↥i) H1
def UM{ns:ζ}:∀ {us:LU},AQ (ns.map V.int) us->IntsAre us ns:=by
 induction ns with
 | nil=>intro us r;rw[K4]at r;cases r;exact .nil
 | cons n ns ih =>
  intro us r;rw[Yr]at r;cases r with
  | cons r1 r2 =>
   obtain⟨t,e⟩:=r1;subst e;exact .cons n t (ih r2)
section
variable {X:Cx}{e:Expr}{te:TE}{lo hi:Option Expr}{tl th:TO}{pos p2:Pos}
def IZ:PO X none QF:=by
 ac_rfl;rw[evalPart_none];exact Jd ⟨none,H,I,.none,h⟩
def Ia(h:PE X e te):PO X (↥e) (vY te):=by
 intro π s σ H Q I hw;rw[evalPart_some];refine AM (h π s σ H _ I hw) λu s1 ⟨x,H1,I1,r1,q1⟩=>?_;obtain⟨i,rfl,q⟩:=q1;obtain⟨t,rfl⟩:=r1;exact⟨↥i,H1,I1,.int i t,q⟩
def RM(X:Cx)(r:V->Option Int->Option Int->Hp->VK->Prop):Prop :=
 ∀(π:PL) (s:ω) (σ:St) (H:Hp) (x:V) (v vl vu:χ) (lo hi:Option Int) (sl:ε) (Q:VK),Inv X π σ H s->AZ x v->s.heap.IsSliceOf sl vl vu .none->IsPart vl lo->IsPart vu hi->r x lo hi H Q ->
  ∃ T id,typeLookup (.type T) "__getitem__"=pure (↥(.builtin id))/\s.TypeIs v T/\wpAny (model X.prog X.w) X.A (getItem v (.ref sl)) (EP X π σ Q) X.xe s
def ko(r:V->Option Int->Option Int->Hp->VK->Prop)(te:TE)(tl th:TO):TE:=λσ H Q=>te σ H λx H1=>tl σ H1 λl H2=>th σ H2 λu H3=>r x l u H3 Q
def Ic{r:V->Option Int->Option Int->Hp->VK->Prop}(hr:RM X r)(he:PE X e te)(hl:PO X lo tl)(hu:PO X hi th):PE X (.Subscript e (.Slice lo hi none p2) pos) (ko r te tl th):=by
 ac_rfl;refine Subscript_ (AM (he π s σ H _ I h) λv s1 ⟨x,H1,I1,r1,q1⟩=>?_);refine wpAny_Slice (AM (hl π s1 σ H1 _ I1 q1) λvl s2 ⟨l,H2,I2,pl,q2⟩=>AM (hu π s2 σ H2 _ I2 q2) λvu s3 ⟨u,H3,I3,pu,q3⟩=>?_);rw[evalPart_none];refine Jd ?_;have I4:Inv X π σ H3 {s3 with heap:=s3.heap.push {cls:=.type "slice",data:=.fields #[vl,vu,.none] } }:=I3.kept (t':=s3.toks) λb ob q=>Yc _ q;obtain⟨T,id,hT,ht,hg⟩:=hr π {s3 with heap:=s3.heap.push {cls:=.type "slice",data:=.fields #[vl,vu,.none] } } σ H3 x v vl vu l u ⇑s3 Q I4 r1 (Heap.IsSliceOf.new ..) pl pu q3;show wpAny (model X.prog X.w) X.A (subscriptTail e (.Slice lo hi none p2) v (.ref ⇑s3)) (EP X π σ Q) X.xe {s3 with heap:=s3.heap.push {cls:=.type "slice",data:=.fields #[vl,vu,.none] } };exact tail_any (ops:=[.ref ⇑s3,v]) ht hT hg (by with_unfolding_all rfl)
def Du(xs:LV)(lo hi:Option Int):LV:=(xs.drop (HT.sIx ↑xs 0 lo)).take (HT.sIx ↑xs ↑xs hi - HT.sIx ↑xs 0 lo)
def gn(xs:LV)(lo hi:Option Int):↑(Du xs lo hi)<=↑xs:=by
 unfold Du;rw[BU,Qz];omega
def zI(K:Fg):V->Option Int->Option Int->Hp->VK->Prop:=λx lo hi H Q=>∃ a xs,x=.ref a/\AH K H a xs /\
 ¬ (HT.sIx ↑xs 0 lo=0/\HT.sIx ↑xs ↑xs hi=↑xs)/\∀ p,H p=none->Q (.ref p) (upd H p (.tup (Du xs lo hi)))
def wy:RM X (zI X.K):=by
 intro π s σ H x v vl vu lo hi sl Q I rx hs pl pu h;obtain⟨a,xs,rfl,hx,hw,q⟩:=h;cases rx;obtain⟨ψ,r,ht,hz⟩:=I.tuple hx;have hlen:ψ.toArray.size=↑xs:=by rw[Yn];exact r.length.symm
 refine⟨"tuple",_,Ob.lookup,ht.typeIs,?_⟩;refine HT.getItem_tuple_cut ht hs pl pu (by rw[hlen];exact hw) ?_ (by rw[hlen];exact hz);rw[hlen];refine⟨.ref ⇑s,_,I.laid (t':=s.toks) (o:=.tup (Du xs lo hi)) (λb ob q=>Yc _ q) (Yf _) ?_,Y,q _ (I.hok.fresh (Yf _))⟩;exact⟨A8 (gn xs lo hi) hz,_,(r.drop (HT.sIx ↑xs 0 lo)).take (HT.sIx ↑xs ↑xs hi - HT.sIx ↑xs 0 lo),IsTup.new _ _⟩
def vH(K:Fg):R2:=λx y H Q=>∃ a b xs ys,x=.ref a/\y=.ref b/\AH K H a xs/\AH K H b ys/\xs≠[]/\↑xs + ↑ys<=sizeLine /\
 (ys=[]->Q (.ref a) H)/\(ys≠[]->∀ p,H p=none->Q (.ref p) (upd H p (.tup (xs++ys))))
def AQ.nil_iff{xs:LV}{us:LU}(r:AQ xs us):us=[]↔xs=[]:=by
 cases r with
 | nil=>simp
 | cons _ _=>simp
def yA:BV X (binaryOp .Add) (vH X.K):=by
 exfalso;obtain⟨a,b,xs,ys,rfl,rfl,ha,hb,hx,hz,q1,q2⟩:=h;cases rx;cases ry;obtain⟨ψ,r1,p1,_⟩:=I.tuple ha;obtain⟨Hn,r2,p2,_⟩:=I.tuple hb;refine HT.cat_tup p1 p2 (λz=>hx (r1.nil_iff.mp z)) (λz=>⟨.ref a,H,I,Y,q1 (r2.nil_iff.mp z)⟩) (λz=>?_) (by rw[<- ↑r1,<- ↑r2];exact hz);refine⟨.ref ⇑s,_,I.laid (t':=s.toks) (o:=.tup (xs++ys)) (λb ob q=>Yc _ q) (Yf _) ?_,Y,q2 (λw=>z (r2.nil_iff.mpr w)) _ (I.hok.fresh (Yf _))⟩;exact⟨by rw[Bw];exact hz,_,r1.append r2,IsTup.new _ _⟩
end
def JC(n:Nat)(i:Int):Option Nat:=if 0<=i then(if i<n then ↥i.toNat else none)else if -(n:Int)<=i then ↥(i + n).toNat else none
def BC{α:Type}(xs:List α)(i:Int):Option α:=(JC ↑xs i).bind λj=>xs[j]?
def cG{n:Nat}{i:Int}{j:Nat}(h:JC n i≈j):seqIndex? i n≈j/\j<n/\-(n:Int)<=i/\i<n:=by
 unfold JC at h;by_cases h0:0<=i
 ·rw[if_pos h0]at h;by_cases h1:i<n
  ·rw[if_pos h1]at h;have e:i.toNat=j:=BQ h;exact⟨by rw[seqIndex_of h0 h1,e],W,W,h1⟩
  ·rw[if_neg h1]at h;cases h
 ·rw[if_neg h0]at h;by_cases h1:-(n:Int)<=i
  ·rw[if_pos h1]at h;have e:(i + n).toNat=j:=BQ h;exact⟨by rw[seqIndex_neg (by omega) h1,e],W,h1,W⟩
  ·rw[if_neg h1]at h;cases h
def Wd{α:Type}{xs:List α}{i:Int}{v:α}(h:BC xs i≈v):∃ j,seqIndex? i ↑xs≈j/\xs[j]?≈v/\j<↑xs/\-(↑xs:Int)<=i/\i<↑xs:=by
 unfold BC at h;cases e:JC ↑xs i with
 | none=>rw[e]at h;cases h
 | some j =>
  rw[e]at h;obtain⟨h1,h2,h3,h4⟩:=cG e;exact⟨j,h1,h,h2,h3,h4⟩
def DB{α:Type}{xs:List α}{j:Nat}{v:α}(h:xs[j]?≈v):BC xs (j:Int)≈v:=by
 have hj:j<↑xs:=(Ye.mp h).1;have e:JC ↑xs (j:Int)≈j:=by
  unfold JC;rw[if_pos (by omega),if_pos (by omega)];simp
 unfold BC;rw[e];exact h
def xh(b:Expr):Prop:=∀ o i,subscripted b false o i=operate [o,i] (getItem o i)
def VJ(X:Cx)(r:R2):Prop :=
 ∀(value slice:Expr) (π:PL) (s:ω) (σ:St) (H:Hp) (x y:V) (v u:χ) (Q:VK),Inv X π σ H s->AZ x v->AZ y u->r x y H Q ->
  subscripted slice false v u=operate [v,u] (getItem v u)->wpAny (model X.prog X.w) X.A (subscriptTail value slice v u) (EP X π σ Q) X.xe s
def Y3(X:Cx)(id:String)(r:V->LV->Hp->VK->Prop):Prop :=
 ∀(π:PL) (s:ω) (σ:St) (H:Hp) (x:V) (xs:LV) (v:χ) (us:LU) (Q:VK),Inv X π σ H s->AZ x v->AQ xs us->r x xs H Q ->
  wpAny (model X.prog X.w) X.A (call (.builtin id) (v :: us)) (EP X π σ Q) X.xe s
section
variable {X:Cx}{a b:Expr}{ta tb:TE}{pos:Pos}
def AN{r:R2}(hr:VJ X r)(ha:PE X a ta)(hb:PE X b tb)(hs:xh b):PE X (.Subscript a b pos) (SX r ta tb):=by
 ac_rfl;exact Subscript_ (X5 ha hb I h λv u s2 x y H2 I2 rx ry q=>hr a b π s2 σ H2 x y v u Q I2 rx ry q (hs _ _))
def A6(K:Fg):R2:=λx y H Q=>∃ p xs i v,x=.ref p/\y=.int i/\SqL K H p xs/\BC xs i≈v/\Q v H
def Ax(K:Fg):R2:=λx y H Q=>∃ p xs i v,x=.ref p/\y=.int i/\AH K H p xs/\BC xs i≈v/\Q v H
def zF:R2:=λx y H Q=>∃ z i c,x=.str z/\y=.int i/\↑z<=sizeLine/\BC z.cps.toList i≈c/\Q (.str ⟨#[c]⟩) H
def Ak:VJ X (A6 X.K):=by
 intro value slice π s σ H x y v u Q I rx ry h hs;obtain⟨p,xs,i,z,rfl,rfl,hq,he,q⟩:=h;cases rx;obtain⟨t,rfl⟩:=ry;obtain⟨ψ,r,pl,hz⟩:=I.list hq;obtain⟨j,h1,h2,h3,h4,h5⟩:=Wd he;obtain⟨w,ew,DK⟩:=r.get h2;have hl:=↑r;have hn:=Lr;have fin:EP X π σ Q w s:=⟨z,H,I,DK,q⟩;by_cases h0:0<=i
 ·have hj:i.toNat=j:=by
   rw[seqIndex_of h0 h5]at h1;exact BQ h1
  exact item_listR pl.isList h0 (by omega) (by rw[hj];simpa using ew) fin hs
 ·have hj:(i + (ψ.toArray.size:Int)).toNat=j:=by
   rw[seqIndex_neg (by omega) h4]at h1;rw[Yn,<- hl];exact BQ h1
  exact subscriptTail_builtinR (x:=w) pl.isList.typeIs slot_list_getitem.lookup
   (wpAny_getItem_list_neg (Q:=λr s'=>r=w/\EP X π σ Q r s') pl.isList (by omega) (by rw[Yn] <;> omega) (by omega) (by rw[hj];simpa using ew) ⟨Y,fin⟩) hs
def A0:VJ X (Ax X.K):=by
 intro value slice π s σ H x y v u Q I rx ry h hs;obtain⟨p,xs,i,z,rfl,rfl,hq,he,q⟩:=h;cases rx;obtain⟨t,rfl⟩:=ry;obtain⟨ψ,r,pl,hz⟩:=I.tuple hq;obtain⟨j,h1,h2,h3,h4,h5⟩:=Wd he;obtain⟨w,ew,DK⟩:=r.get h2;have hl:=↑r;have hn:=Lr;have fin:EP X π σ Q w s:=⟨z,H,I,DK,q⟩;exact subscriptTail_builtinR (x:=w) pl.typeIs slot_tuple_getitem.lookup
  (getItem_tuple (j:=j) (Q:=λr s'=>r=w/\EP X π σ Q r s') pl (by omega) (by omega) (by rw[Yn,<- hl];exact h1) (by simpa using ew) ⟨Y,fin⟩) hs
def vo:VJ X zF:=by
 intro value slice π s σ H x y v u Q I rx ry h hs;obtain⟨z,i,c,rfl,rfl,hz,he,q⟩:=h;obtain⟨t,rfl⟩:=rx;obtain⟨t',rfl⟩:=ry;obtain⟨j,h1,h2,h3,h4,h5⟩:=Wd he;have hl:↑z.cps.toList=↑z:=by simp[Str.length]
 rw[hl]at h1 h4 h5;have hn:=Lr;exact tail_any (typeIs_str s z t) slot_str_getitem.lookup (getItem_str (c:=c) (by
  have e1:decide (i < -(2 ^ 63:Int))=false:=Jc (by omega);have e2:decide (i ≥ 2 ^ 63)=false:=Jc (by omega);rw[e1,e2,Bool.or_false]) (by rw[h1];simpa using h2) ⟨.str ⟨#[c]⟩,H,I.tok _,⟨Z⟩,q⟩) hs
def sI(ψ:LU)(n j:Nat)(u:χ):Obj.mapSeq (·.setIfInBounds j u) {cls:=.type "list",data:=.seq ψ.toArray n}={cls:=.type "list",data:=.seq (ψ.set j u).toArray n}:=by
 simp[Obj.mapSeq]
theorem Inv.lst{π:PL}{σ:St}{H:Hp}{s:ω}{p:ε}{xs:LV}(I:Inv X π σ H s)(h:H p≈(.lst xs)):
  ∃(ψ:LU) (n:Nat),AQ xs ψ/\s.heap.get? p=some {cls:=.type "list",data:=.seq ψ.toArray n}/\↑xs<=sizeLine:=by
 obtain⟨z,ψ,n,r,e⟩:=I.hok p _ h;exact⟨ψ,n,r,e,z⟩
def Inv.lstUpd{π:PL}{σ:St}{H:Hp}{s:ω}{p:ε}{xs ys:LV}{ψ its':LU}{n n':Nat}{f:Obj->Obj}(I:Inv X π σ H s)(h:H p≈(.lst xs))
  (ho:s.heap.get? p=some {cls:=.type "list",data:=.seq ψ.toArray n}) (hf:f {cls:=.type "list",data:=.seq ψ.toArray n}={cls:=.type "list",data:=.seq its'.toArray n' }) (r:AQ ys its') (hz:↑ys<=sizeLine) (t:Nat):
  Inv X π σ (upd H p (.lst ys)) {s with heap:=s.heap.update p f,toks:=t}:=by
 have e:(s.heap.update p f).get? p=some {cls:=.type "list",data:=.seq its'.toArray n' }:=by
  rw[MV f ho (by rw[hf] <;> rfl),hf]
 refine I.write (x:=p) (e:=p) (by rw[h];trivial) (.inl rfl) (λb u hb q=>(Kp _ _ (Yx hb)).trans q) ⟨_,e⟩ ?_;exact⟨hz,its',n',r,e⟩
def vK:V->V->V->Hp->(Hp->Prop)->Prop:=λo i v H Q=>∃ p xs k j,o=.ref p/\i=.int k/\H p≈(.lst xs)/\JC ↑xs k≈j/\Q (upd H p (.lst (xs.set j v)))
def XE:iH X vK:=by
 intro π s σ H o i v ov iv u Q I ro ri rv h;obtain⟨p,xs,k,j,rfl,rfl,hp,hj,q⟩:=h;cases ro;obtain⟨t,rfl⟩:=ri;obtain⟨ψ,n,r,ho,hz⟩:=I.lst hp;obtain⟨h1,h2,h3,h4⟩:=cG hj;have hl:=↑r;have hn:=Lr;have I':Inv X π σ (upd H p (.lst (xs.set j v))) {s with heap:=s.heap.update p (Obj.mapSeq (·.setIfInBounds j u)) } :=
  I.lstUpd hp ho (sI ψ n j u) (r.set rv j) (by rw[Kv];exact hz) s.toks
 by_cases h0:0<=k
 ·have hk:k.toNat=j:=by
   rw[seqIndex_of h0 h4]at h1;exact BQ h1
  exact W.ki_setAt ho h0 (by omega) (by rw[Yn,<- hl];exact h4) (by rw[hk];exact⟨_,I',q⟩)
 ·have hk:(k + (ψ.toArray.size:Int)).toNat=j:=by
   rw[seqIndex_neg (by omega) h3]at h1;rw[Yn,<- hl];exact BQ h1
  exact W.ki_setBack ho (by omega) (by rw[Yn,<- hl];exact h3) (by omega) (by rw[hk];exact⟨_,I',q⟩)
def uP(lo hi:Option Int)(n:Nat):(sliceBounds lo hi none n).1=((HT.sIx n 0 lo:Nat):Int)/\(sliceBounds lo hi none n).2.1=((HT.sIx n n hi:Nat):Int)/\(sliceBounds lo hi none n).2.2=1:=by
 refine⟨?_,?_,Y⟩
 ·cases lo with
  | none=>simp[sliceBounds,HT.sIx]
  | some i =>
   simp only[sliceBounds,HT.sIx,Option.getD_none,show(1:Int) > 0 by decide,if_true];by_cases h:i<0
   ·simp only[h,if_true] <;> omega
   ·simp only[h,if_false] <;> omega
 ·cases hi with
  | none=>simp[sliceBounds,HT.sIx]
  | some i =>
   simp only[sliceBounds,HT.sIx,Option.getD_none,show(1:Int) > 0 by decide,if_true];by_cases h:i<0
   ·simp only[h,if_true] <;> omega
   ·simp only[h,if_false] <;> omega
def ua(ψ:LU)(lo hi:Option Int):slicePick ψ.toArray lo hi none=((ψ.drop (HT.sIx ↑ψ 0 lo)).take (HT.sIx ↑ψ ↑ψ hi - HT.sIx ↑ψ 0 lo)).toArray:=by
 obtain⟨h1,h2,h3⟩:=uP lo hi ψ.toArray.size;unfold slicePick;rw[h1,h2,h3];simp only[sliceRange_one,pick_run,Yn] <;> rfl
def U2(K:Fg):V->Option Int->Option Int->Hp->VK->Prop:=λx lo hi H Q=>∃ a xs,x=.ref a/\SqL K H a xs/\∀ p,H p=none->Q (.ref p) (upd H p (.lst (Du xs lo hi)))
def Tz:RM X (U2 X.K):=by
 intro π s σ H x v vl vu lo hi sl Q I rx hs pl pu h;obtain⟨a,xs,rfl,hx,q⟩:=h;cases rx;obtain⟨ψ,r,ht,hz⟩:=I.list hx;have hlen:=↑r;refine⟨"list",_,slot_list_getitem.lookup,ht.isList.typeIs,?_⟩;refine wpAny_getItem_list_slice ht.isList hs pl pu .none (by simp) ?_ (by rw[Yn] <;> omega);rw[ua,<- hlen];refine⟨.ref ⇑s,_,I.laid (t':=s.toks) (o:=.lst (Du xs lo hi)) (λb ob q=>Yc _ q) (Yf _) ?_,Y,q _ (I.hok.fresh (Yf _))⟩;exact⟨A8 (gn xs lo hi) hz,_,0,(r.drop (HT.sIx ↑xs 0 lo)).take (HT.sIx ↑xs ↑xs hi - HT.sIx ↑xs 0 lo),Ym _ rfl⟩
def JN:V->Bool
 | .non=>true
 | .bl _=>true
 | .int _=>true
 | .str _=>true
 | _=>false
def KG:V->V->Bool
 | .non,.non=>true
 | .bl a,.bl b=>a == b
 | .bl a,.int b=>(if a then 1 else 0) == b
 | .int a,.bl b=>a == (if b then 1 else 0)
 | .int a,.int b=>a == b
 | .str a,.str b=>a == b
 | _,_=>false
def vh{A:Around}{s:ω}{y x:V}{u v:χ}(ry:AZ y u)(rx:AZ x v)(fy:JN y=true)(fx:JN x=true):SeqAt.EqAt A s u v (KG y x):=by
 cases y with
 | non =>
  cases ry;cases x with
  | non=>cases rx;exact SeqAt.EqAt.same _
  | bl b=>cases rx;exact SeqAt.EqAt.none_bool b
  | int b=>obtain⟨t,rfl⟩:=rx;exact SeqAt.EqAt.none_int b t
  | str b=>obtain⟨t,rfl⟩:=rx;exact SeqAt.EqAt.none_str b t
  | _=>exact absurd (show false=true from fx) Yq
 | bl a =>
  cases ry;cases x with
  | non=>cases rx;exact SeqAt.EqAt.bool_none a
  | bl b=>cases rx;exact SeqAt.EqAt.bool_bool a b
  | int b=>obtain⟨t,rfl⟩:=rx;exact SeqAt.EqAt.bool_int a b t
  | str b=>obtain⟨t,rfl⟩:=rx;exact SeqAt.EqAt.bool_str a b t
  | _=>exact absurd (show false=true from fx) Yq
 | int a =>
  obtain⟨t',rfl⟩:=ry;cases x with
  | non=>cases rx;exact SeqAt.EqAt.int_none a t'
  | bl b=>cases rx;exact SeqAt.EqAt.int_bool a t' b
  | int b=>obtain⟨t,rfl⟩:=rx;exact SeqAt.EqAt.int_int a t' b t
  | str b=>obtain⟨t,rfl⟩:=rx;exact SeqAt.EqAt.int_str a t' b t
  | _=>exact absurd (show false=true from fx) Yq
 | str a =>
  obtain⟨t',rfl⟩:=ry;cases x with
  | non=>cases rx;exact SeqAt.EqAt.str_none a t'
  | bl b=>cases rx;exact SeqAt.EqAt.str_bool a t' b
  | int b=>obtain⟨t,rfl⟩:=rx;exact SeqAt.EqAt.str_int a t' b t
  | str b=>obtain⟨t,rfl⟩:=rx;exact SeqAt.EqAt.str_str a t' b t
  | _=>exact absurd (show false=true from fx) Yq
 | _=>exact absurd (show false=true from fy) Yq
def Em(x:V)(u:χ):Bool:=match u with
 | .none=>KG .non x
 | .bool b=>KG (.bl b) x
 | .int i _=>KG (.int i) x
 | .str z _=>KG (.str z) x
 | _=>false
def jd{x y:V}{u:χ}(r:AZ y u)(f:JN y=true):Em x u=KG y x:=by
 cases y with
 | non=>cases r;rfl
 | bl b=>cases r;rfl
 | int i=>obtain⟨t,rfl⟩:=r;rfl
 | str z=>obtain⟨t,rfl⟩:=r;rfl
 | _=>exact absurd (show false=true from f) Yq
theorem P_{x:V}:∀ {xs:LV}{us:LU},AQ xs us->xs.all JN=true->us.any (Em x)=xs.any λy=>KG y x
 | _,_,.nil,_=>rfl
 | y :: xs,u :: us,.cons r t,f=>by
  rw[List.all_cons,EI]at f;rw[Kn,Kn,jd r f.1,P_ t f.2]
theorem Zip{A:Around}{s:ω}{x:V}{v:χ}(rx:AZ x v)(fx:JN x=true):∀ {xs:LV}{us:LU},AQ xs us->xs.all JN=true->∀ u∈us,SeqAt.EqAt A s u v (Em x u)
 | _,_,.nil,_=>λu hu=>by cases hu
 | y :: xs,u :: us,.cons r t,f=>λu' hu=>by
  rw[List.all_cons,EI]at f
  rcases Yl.mp hu with rfl | hu
  ·rw[jd r f.1];exact vh r rx f.1 fx
  ·exact Zip rx fx t f.2 u' hu
def Gb(x:V)(xs:LV):Bool:=xs.any λy=>KG y x
def Sd(K:Fg)(neg:Bool):R2:=λx y H Q=>∃ p xs,y=.ref p/\(SqL K H p xs\/AH K H p xs)/\JN x=true/\xs.all JN=true/\Q (.bl (if neg then !Gb x xs else Gb x xs)) H
def UH:BV X (compareOp .In) (Sd X.K false):=by
 exfalso;obtain⟨p,xs,rfl,hq,fx,fs,q⟩:=h;cases ry
 rcases hq with hq | hq
 ·obtain⟨ψ,r,pl,hz⟩:=I.list hq;refine SeqAt.in_listAt (Em x) pl.isList (λw hw=>Zip rx fx r fs w (by simpa using hw)) ⟨.bl _,H,I,Y,?_⟩;rw[show ψ.toArray.any (Em x)=ψ.any (Em x) by simp,P_ r fs];exact q
 ·obtain⟨ψ,r,pl,hz⟩:=I.tuple hq;refine SeqAt.in_tupleAt (Em x) pl (λw hw=>Zip rx fx r fs w (by simpa using hw)) ⟨.bl _,H,I,Y,?_⟩;rw[show ψ.toArray.any (Em x)=ψ.any (Em x) by simp,P_ r fs];exact q
def uO:BV X (compareOp .NotIn) (Sd X.K true):=by
 exfalso;obtain⟨p,xs,rfl,hq,fx,fs,q⟩:=h;cases ry
 rcases hq with hq | hq
 ·obtain⟨ψ,r,pl,hz⟩:=I.list hq;refine SeqAt.notIn_listAt (Em x) pl.isList (λw hw=>Zip rx fx r fs w (by simpa using hw)) ⟨.bl _,H,I,Y,?_⟩;rw[show ψ.toArray.any (Em x)=ψ.any (Em x) by simp,P_ r fs];exact q
 ·obtain⟨ψ,r,pl,hz⟩:=I.tuple hq;refine SeqAt.notIn_tupleAt (Em x) pl (λw hw=>Zip rx fx r fs w (by simpa using hw)) ⟨.bl _,H,I,Y,?_⟩;rw[show ψ.toArray.any (Em x)=ψ.any (Em x) by simp,P_ r fs];exact q
def B9:FN X (.builtin "len") (λxs H Q=>∃ p ys,xs=[.ref p]/\(SqL X.K H p ys\/AH X.K H p ys)/\Q (.int ↑ys) H):=by
 intro π s σ H xs us Q I r h;obtain⟨p,ys,rfl,hq,q⟩:=h;obtain⟨u,rfl,rx⟩:=F0 r;cases rx;have hn:=Lr
 rcases hq with hq | hq
 ·obtain⟨ψ,r',pl,hz⟩:=I.list hq;have hlen:=↑r';exact Calls.call_len_list pl.isList (by simp only[Yn] <;> omega) ⟨.int ↑ys,H,I.tok _,⟨s.toks + 1,by rw[Yn,hlen]⟩,q⟩
 ·obtain⟨ψ,r',pl,hz⟩:=I.tuple hq;have hlen:=↑r';exact len_tuple pl (by simp only[Yn] <;> omega) ⟨.int ↑ys,H,I.tok _,⟨s.toks + 1,by rw[Yn,hlen]⟩,q⟩
def UZ:FN X (.type "list") (λxs H Q=>∃ p ys,xs=[.ref p]/\(SqL X.K H p ys\/AH X.K H p ys)/\∀ l,H l=none->Q (.ref l) (upd H l (.lst ys))):=by
 intro π s σ H xs us Q I r h;obtain⟨p,ys,rfl,hq,q⟩:=h;obtain⟨u,rfl,rx⟩:=F0 r;cases rx;have fin:∀(ψ:LU),AQ ys ψ->↑ys<=sizeLine->∀(h':Heap) (c':Nat),(∀ b o',s.heap.get? b≈o'->h'.get? b≈o') ->
   h'.get? ⇑s=some {cls:=.type "list",dict:=none,data:=.seq ψ.toArray c',slots:=#[] }->EP X π σ Q (.ref ⇑s) {s with heap:=h' }:=λψ r' hz h' c' kp e =>
  ⟨.ref ⇑s,_,I.laid (t':=s.toks) kp (Yf _) (show A7 X.prog X.w _ h' _ (.lst ys)from⟨hz,ψ,c',r',e⟩),Y,q _ (I.hok.fresh (Yf _))⟩
 rcases hq with hq | hq
 ·obtain⟨ψ,r',pl,hz⟩:=I.list hq;have hlen:=↑r';obtain⟨o,ho,hc,n,hd⟩:=pl.isList;exact call_list_seq p (.inl rfl) ho hc hd (λh' c' kp e=>fin ψ r' hz h' c' kp e) (by simp only[Yn] <;> omega)
 ·obtain⟨ψ,r',pl,hz⟩:=I.tuple hq;have hlen:=↑r';obtain⟨o,ho,hc,n,hd⟩:=pl;exact call_list_seq p (.inr rfl) ho hc hd (λh' c' kp e=>fin ψ r' hz h' c' kp e) (by simp only[Yn] <;> omega)
def L8:FN X (.type "tuple") (λxs H Q=>∃ p ys,xs=[.ref p]/\((SqL X.K H p ys/\∀ l,H l=none->Q (.ref l) (upd H l (.tup ys)))\/(AH X.K H p ys/\Q (.ref p) H))):=by
 intro π s σ H xs us Q I r h;obtain⟨p,ys,rfl,h⟩:=h;obtain⟨u,rfl,rx⟩:=F0 r;cases rx
 rcases h with⟨hq,q⟩ | ⟨hq,q⟩
 ·obtain⟨ψ,r',pl,hz⟩:=I.list hq;have hlen:=↑r';refine call_tuple_list pl.isList (λh' kp=>?_) (by simp only[Yn] <;> omega);have I1:Inv X π σ H {s with heap:=h' }:=I.kept (t':=s.toks) kp;have I2:Inv X π σ (upd H h'.objs.size (.tup ys)) {s with heap:=h'.push {cls:=.type "tuple",data:=.seq ψ.toArray} } :=
   I1.laid (t':=s.toks) (λb o e=>Yc _ e) (Yf _) (show A7 X.prog X.w _ _ _ (.tup ys)from⟨hz,ψ,r',IsTup.new _ _⟩)
  exact⟨.ref h'.objs.size,_,I2,Y,q _ (I1.hok.fresh (Yf _))⟩
 ·obtain⟨ψ,r',pl,hz⟩:=I.tuple hq;exact call_tuple_same pl ⟨.ref p,H,I,Y,q⟩
def VS(K:Fg)(T:String)(x:V)(H:Hp):Prop:=match x with
 | .str _=>T="str"
 | .int _=>T="int"
 | .ref p=>(T="list"/\∃ xs,SqL K H p xs)\/(T="tuple"/\∃ o,K.lookup p≈o/\o.cls=.type "tuple"/\o.dict=none) \/
   (T="dict"/\((∃ ν,H p≈(.dK ν))\/∃ ν,H p≈(.dT ν)))\/(T="set"/\∃ S n,H p≈(.set S n))
 | _=>False
def kG{π:PL}{σ:St}{H:Hp}{s:ω}{T:String}{x:V}{v:χ}(I:Inv X π σ H s)(r:AZ x v)(ty:VS X.K T x H):
  s.TypeIs v T/\∀ a,v=.ref a->∃ ob,s.heap.get? a≈ob/\ob.dict=none:=by
 cases x with
 | str z =>
  obtain⟨t,rfl⟩:=r;cases(show T="str" from ty);exact⟨typeIs_str s z t,λ_ e=>nomatch e⟩
 | int i =>
  obtain⟨t,rfl⟩:=r;cases(show T="int" from ty);exact⟨typeIs_int s i t,λ_ e=>nomatch e⟩
 | ref p =>
  cases r
  rcases ty with⟨rfl,xs,hq⟩ | ⟨rfl,o,hk,hc,hd⟩ | ⟨rfl,hk⟩ | ⟨rfl,S,n,hk⟩
  ·obtain⟨ψ,_,pl,_⟩:=I.list hq;refine⟨pl.isList.typeIs,λa e=>?_⟩;cases e;obtain⟨o,n,e,c,hd,_⟩:=pl;exact⟨o,e,hd⟩
  ·refine⟨⟨o,I.kIn p o hk,hc⟩,λa e=>?_⟩;cases e;exact⟨o,I.kIn _ o hk,hd⟩
  ·have z:∃ o,s.heap.get? p≈o/\o.ExactDict:=by
    rcases hk with⟨ν,hk⟩ | ⟨ν,hk⟩
    ·obtain⟨_,_,_,_,o,_,_,e,ex,_⟩:=I.hok p _ hk;exact⟨o,e,ex⟩
    ·obtain⟨_,_,_,_,o,_,_,e,ex,_⟩:=I.hok p _ hk;exact⟨o,e,ex⟩
   obtain⟨o,e,ex⟩:=z;refine⟨⟨o,e,ex.1⟩,λa e2=>?_⟩;cases e2;exact⟨o,e,ex.2.1⟩
  ·obtain⟨o,_,_,_,e,ex,_⟩:=I.hok p _ hk;refine⟨⟨o,e,ex.1⟩,λa e2=>?_⟩;cases e2;exact⟨o,e,ex.2.1⟩
 | _=>exact False.elim ty
def uq(K:Fg)(T:String)(r:V->LV->Hp->VK->Prop)(to:TE):TE:=λσ H Q=>to σ H λx H1=>VS K T x H1/\r x [] H1 Q
def Zg(K:Fg)(T:String)(r:V->LV->Hp->VK->Prop)(to:TE)(t:TA):TE:=λσ H Q=>to σ H λx H1=>VS K T x H1/\t σ H1 λxs H2=>r x xs H2 Q
variable {o e:Expr}{es:δ}{to:TE}{t:TA}{name:Str}{apos AX:Pos}{T id:String}{r:V->LV->Hp->VK->Prop}
def wU(pa:PlainAttrs T)(slot:Slot T name id)(hty:typeOf (.builtin id)=pure (.type "method_descriptor"))(hm:Y3 X id r)(ho:PE X o to)
  (Cj:attributeBase o name X.env (eval o X.env)=eval o X.env:=by rfl) (Ci:(apos.endLine == AX.line)=true:=by rfl):PE X (.Call (.Attribute o name apos) [] [] AX) (uq X.K T r to):=by
 ac_rfl;refine wpAny_Call_method0_late Cj Ci (AM (ho π s σ H _ I h) λv s1 ⟨x,H1,I1,r1,ty,q1⟩=>?_);obtain⟨h1,h2⟩:=kG I1 r1 ty;exact⟨T,id,pa,slot,hty,h1,h2,Calls.callWith_builtin rfl (PySem.evalArgs_none (hm π s1 σ H1 x [] v [] Q I1 r1 .nil q1))⟩
def Ct(pa:PlainAttrs T)(slot:Slot T name id)(hty:typeOf (.builtin id)=pure (.type "method_descriptor"))(hm:Y3 X id r)(ho:PE X o to)(ha:PA X (e :: es) t)
  (Cj:attributeBase o name X.env (eval o X.env)=eval o X.env:=by rfl)
  (hfew:((backTo AX (starEach (e :: es) X.env)).all (λx=>!x.1)&&(backToKw AX (keywordEach [] X.env)).all (λx=>x.1.isSome)
   && decide (↑(e :: es) + ↑([]:List Keyword) + (if([]:List Keyword).isEmpty then 0 else 1)<30))=true:=by rfl)
  (Ci:(apos.endLine == AX.line)=true:=by rfl) (hs:starEach (e :: es) X.env=(false,eval e X.env):: starEach es X.env:=by rfl) (hplain:(backTo AX (starEach es X.env)).any (·.1)=false:=by rfl):
  PE X (.Call (.Attribute o name apos) (e :: es) [] AX) (Zg X.K T r to t):=by
 ac_rfl;refine wpAny_Call_method_late Cj hfew Ci rfl (AM (ho π s σ H _ I h) λv s1 ⟨x,H1,I1,r1,ty,q1⟩=>?_);obtain⟨h1,h2⟩:=kG I1 r1 ty;refine⟨T,id,pa,slot,hty,h1,h2,?_⟩;have hA:=ha AX π s1 σ H1 _ I1 q1;rw[hs]at hA ⊢;refine Calls.callWith_builtin (by show(false || (backTo AX (starEach es X.env)).any (·.1))=false;rw[hplain] <;> rfl) (Calls.evalArgs_plain ?_);exact AM hA λus s2 ⟨vs,H2,I2,r2,q2⟩=>hm π s2 σ H2 x vs v us Q I2 r1 r2 q2
end
def Ou(X:Cx)(id:String)(r:V->LV->Hp->VK->Prop):Prop :=
 ∀(π:PL) (s:ω) (σ:St) (H:Hp) (x:V) (xs:LV) (v:χ) (us:LU) (Q:VK),Inv X π σ H s->AZ x v->AQ xs us->r x xs H Q ->
  wpAny (model X.prog X.w) X.A (call (.builtin id) (v :: us)) (EP X π σ Q) X.xe s
def AQ.one:∀ {x:V}{us:LU},AQ [x] us->∃ u,us=[u]/\AZ x u
 | _,_,.cons r .nil=>⟨Z,r⟩
def AQ.zero:∀ {us:LU},AQ [] us->us=[]
 | _,.nil=>rfl
theorem AQ.dropLast{xs:LV}{us:LU}(h:AQ xs us):AQ xs.dropLast us.dropLast:=by
 induction h with
 | nil=>exact .nil
 | cons r t ih =>
  cases t with
  | nil=>exact .nil
  | cons q t'=>exact .cons r ih
theorem AQ.eraseIdx:∀ {xs:LV}{us:LU}(i:Nat),AQ xs us->AQ (xs.eraseIdx i) (us.eraseIdx i)
 | _,_,_,.nil=>.nil
 | _,_,0,.cons _ t=>t
 | _,_,i + 1,.cons r t=>.cons r (AQ.eraseIdx i t)
def rh{α:Type}(l:List α):l.eraseIdx (↑l - 1)=l.dropLast:=by
 induction l with
 | nil=>rfl
 | cons a r ih =>
  cases r with
  | nil=>rfl
  | cons b r =>
   have e:↑(a :: b :: r) - 1=(↑(b :: r) - 1) + 1:=by
    have h1:↑(a :: b :: r)=↑r + 2:=rfl;have h2:↑(b :: r)=↑r + 1:=rfl;omega
   rw[e,VA,ih]
   all_goals rfl
theorem fm{α:Type}:∀(l:List α) (i:Nat),↑(l.eraseIdx i)<=↑l
 | [],_=>Yf _
 | _ :: _,0=>FU _
 | _ :: r,i + 1=>Nat.succ_le_succ (fm r i)
section
variable {X:Cx}{π:PL}{σ:St}{H:Hp}{s:ω}{l b:ε}{xs ys zs:LV}
def Inv.lset{ψ its':LU}{n:Nat}{f:μ->μ}{t':Nat}(I:Inv X π σ H s)(hH:H l≈(.lst xs))
  (e:s.heap.get? l=some {cls:=.type "list",data:=.seq ψ.toArray n}) (hf:f ψ.toArray=its'.toArray) (hv:AQ ys its') (hz:↑ys<=sizeLine):
  Inv X π σ (upd H l (.lst ys)) {s with heap:=s.heap.update l (Obj.mapSeq f),toks:=t' }:=by
 have q:=PySem.IsL.update e f;rw[hf]at q;refine I.write (x:=l) (e:=l) (by rw[hH];exact trivial) (.inl rfl) (λb' u hb hu=>(Kp s.heap (Obj.mapSeq f) (Yx hb)).trans hu) ⟨_,q⟩ ?_;exact⟨hz,its',_,hv,q⟩
def Inv.lnew{ψ:LU}{t':Nat}(I:Inv X π σ H s)(hv:AQ ys ψ)(hz:↑ys<=sizeLine):
  Inv X π σ (upd H ⇑s (.lst ys)) {s with heap:=s.heap.push {cls:=.type "list",data:=.seq ψ.toArray},toks:=t' } :=
 I.laid (λ_ _ q=>Yc _ q) (Yf _) ⟨hz,ψ,0,hv,Ym _ rfl⟩
theorem Inv.fresh(I:Inv X π σ H s):H ⇑s=none:=I.hok.fresh (Yf _)
def Inv.lstM(I:Inv X π σ H s)(hH:H l≈(.lst xs)):↑xs<=sizeLine/\∃(ψ:LU) (n:Nat),AQ xs ψ/\↑xs=↑ψ/\s.heap.get? l=some {cls:=.type "list",data:=.seq ψ.toArray n}:=by
 obtain⟨z,ψ,n,r,e⟩:=I.hok l _ hH;exact⟨z,ψ,n,r,↑r,e⟩
end
section
variable {X:Cx}
def yM:V->LV->Hp->VK->Prop:=λx vs H Q=>∃ l xs y,x=.ref l/\vs=[y]/\H l≈(.lst xs)/\↑xs<sizeLine/\Q .non (upd H l (.lst (xs++[y])))
def EF:Ou X "list.append" yM:=by
 intro π s σ H x vs v us Q I rx rv h;obtain⟨l,xs,y,rfl,rfl,hH,hz,q⟩:=h;cases rx;obtain⟨u,rfl,ru⟩:=rv.one;obtain⟨z,ψ,n,r,hl,e⟩:=I.lstM hH;refine call_meets F.slot_list_append ⟨_,e,Y⟩ F.entry_list_append (F.args_list_append_2 _ _) (PySem.list_append l ψ.toArray n u (by rw[Yn];omega)) ⟨e,?_⟩;refine⟨.non,_,I.lset (its':=ψ++[u]) hH e (by simp) (r.append (.cons ru .nil)) ?_,Y,q⟩;rw[Bw,List.length_singleton];omega
def zG:V->LV->Hp->VK->Prop:=λx vs H Q=>∃ l xs y,x=.ref l/\vs=[]/\H l≈(.lst xs)/\xs[↑xs - 1]?≈y/\Q y (upd H l (.lst xs.dropLast))
def v7:Ou X "list.pop" zG:=by
 intro π s σ H x vs v us Q I rx rv h;obtain⟨l,xs,y,rfl,rfl,hH,hy,q⟩:=h;cases rx;have hus:=rv.zero;subst hus;obtain⟨z,ψ,n,r,hl,e⟩:=I.lstM hH;obtain⟨u,hu,ru⟩:=r.get hy;have IB:ψ.toArray[ψ.toArray.size - 1]?≈u:=by
  show ψ.toArray[↑ψ - 1]?≈u;rw[<- Oq,<- hl];exact hu
 refine call_meets F.slot_list_pop ⟨_,e,Y⟩ F.entry_list_pop (F.args_list_pop_1 _) (MeetsSeq.list_pop_last l ψ.toArray n u IB (by rw[Yn];omega)) ⟨e,?_⟩;refine⟨y,_,I.lset (its':=ψ.dropLast) hH e ?_ r.dropLast ?_,ru,q⟩
 ·show ψ.toArray.eraseIdxIfInBounds (ψ.toArray.size - 1)=ψ.dropLast.toArray;rw[Yn,List.eraseIdxIfInBounds_toArray,rh]
 ·rw[RG];omega
def zq:R2:=λx y H Q=>∃ l b xs zs,x=.ref l/\y=.ref b/\H l≈(.lst xs)/\H b≈(.lst zs)/\↑xs + ↑zs<=sizeLine/\∀ p,H p=none->Q (.ref p) (upd H p (.lst (xs++zs)))
def WU:BV X (binaryOp .Add) zq:=by
 exfalso;obtain⟨l,b,xs,zs,rfl,rfl,hH,hB,hz,q⟩:=h;cases rx;cases ry;obtain⟨z,ψ,n,r,hl,e⟩:=I.lstM hH;obtain⟨z2,Hn,n2,r2,CO,e2⟩:=I.lstM hB;refine PySem.P.add_list e e2 ?_ (by rw[Yn,Yn];omega);have ea:ψ.toArray++Hn.toArray=(ψ++Hn).toArray:=by simp
 rw[ea];exact⟨.ref _,_,I.lnew (t':=s.toks) (r.append r2) (by rw[Bw];omega),Y,q _ I.fresh⟩
end
section
variable {prog:Γ}{w:World}{A:Around}{E:EV}{s:ω}
end
section
variable {X:Cx}
end
section
variable {κ:Type}[DecidableEq κ]
def Bm(ν:List (κ×V))(k:κ):OV:=(ν.find? λkv=>decide (kv.1=k)).map (·.2)
def BX(ν:List (κ×V))(k:κ)(v:V):List (κ×V):=
 if(ν.any λkv=>decide (kv.1=k))=true then ν.map (λkv=>if kv.1=k then(kv.1,v)else kv)else ν++[(k,v)]
def N0{p:κ×V}{r:List (κ×V)}{k:κ}(e:p.1=k):Bm (p :: r) k≈p.2:=by simp[Bm,MR,e]
def Nz{p:κ×V}{r:List (κ×V)}{k:κ}(e:¬ p.1=k):Bm (p :: r) k=Bm r k:=by simp[Bm,MR,e]
theorem QN(k:κ):∀ ν:List (κ×V),(ν.any λkv=>decide (kv.1=k))=(Bm ν k).isSome
 | []=>rfl
 | p :: r=>by
  rw[Kn];by_cases e:p.1=k
  ·simp only[N0 e,Jb e,Bool.true_or,Option.isSome_some]
  ·rw[Nz e,Jc e,Bool.false_or];exact QN k r
def Xk(ν:List (κ×V))(k:κ)(v:V):↑(BX ν k v)<=↑ν + 1:=by
 unfold BX;split
 ·rw[Ya];omega
 ·rw[Bw,Cd,List.length_nil];omega
def Nv{ν:List (κ×V)}{k:κ}(v:V)(h:Bm ν k=none):BX ν k v=ν++[(k,v)]:=by
 unfold BX;rw[QN,h];exact if_neg (by decide)
def ES.isSome_eq{o:OV}{u:OU}(r:ES o u):o.isSome=u.isSome:=by
 cases o with
 | none=>cases u with
  | none=>rfl
  | some _=>exact(show False from r).elim
 | some _=>cases u with
  | none=>exact(show False from r).elim
  | some _=>rfl
def KV.val{ν:List (κ×V)}{vs:List (κ×χ)}(r:KV ν vs)(k:κ):ES (Bm ν k) (valueAt vs k):=by
 unfold KV at r
 induction r with
 | nil=>exact True.intro
 | @cons p q ps qs h t ih =>
  obtain⟨h1,h2⟩:=h;by_cases e:p.1=k
  ·have e':q.1=k:=h1.symm.trans e;have b:valueAt (q :: qs) k≈q.2:=by simp[valueAt,MR,e']
   rw[N0 e,b];exact h2
  ·have e':¬ q.1=k:=λz=>e (h1.trans z);have b:valueAt (q :: qs) k=valueAt qs k:=by simp[valueAt,MR,e']
   rw[Nz e,b];exact ih
theorem KV.any{ν:List (κ×V)}{vs:List (κ×χ)}(r:KV ν vs)(k:κ):(ν.any λkv=>decide (kv.1=k))=vs.any λkv=>decide (kv.1=k):=by
 unfold KV at r
 induction r with
 | nil=>rfl
 | cons h t ih=>rw[Kn,Kn,ih,h.1]
def KV.repl{ν:List (κ×V)}{vs:List (κ×χ)}(r:KV ν vs)(k:κ){y:V}{u:χ}(ry:AZ y u):
  KV (ν.map λkv=>if kv.1=k then(kv.1,y)else kv) (vs.map λkv=>if kv.1=k then(kv.1,u)else kv):=by
 unfold KV at r ⊢
 induction r with
 | nil=>exact .nil
 | @cons p q ps qs h t ih =>
  rw[Yr,Yr];refine .cons ?_ ih;obtain⟨h1,h2⟩:=h;by_cases e:p.1=k
  ·rw[if_pos e,if_pos (h1.symm.trans e)];exact⟨h1,ry⟩
  ·rw[if_neg e,if_neg (λz=>e (h1.trans z))];exact⟨h1,h2⟩
def KV.put{ν:List (κ×V)}{vs:List (κ×χ)}(r:KV ν vs)(k:κ){y:V}{u:χ}(ry:AZ y u):KV (BX ν k y) (stored vs k u):=by
 unfold BX stored;rw[r.any k];by_cases e:(vs.any λkv=>decide (kv.1=k))=true
 ·rw[if_pos e,if_pos e];exact r.repl k ry
 ·rw[if_neg e,if_neg e];exact EZ r ⟨Y,ry⟩
theorem KV.length{ν:List (κ×V)}{vs:List (κ×χ)}(r:KV ν vs):↑ν=↑vs:=A_ r
end
def NY{P:Γ}{w:World}{k:Key}{u:χ}(r:AZ (kV k) u):(Cu P w).is k u=true:=by
 cases k with
 | inl i=>obtain⟨t,e⟩:=(show ∃ t,u=Value.int i t from r);subst e;exact t_ P w i t
 | inr x=>obtain⟨t,e⟩:=(show ∃ t,u=Value.str x t from r);subst e;exact uA P w x t
theorem fc{P:Γ}{w:World}:∀ {ks:List Key}{us:LU},AQ (ks.map kV) us->ItemsAre (Cu P w) ks us
 | [],_,r=>by rw[K4]at r;cases r;exact .nil
 | k :: ks,_,r=>by
  rw[Yr]at r;cases r with
  | cons h t=>exact .cons (NY h) (fc t)
abbrev KT(H:Hp):List (List Key×V)->List (List Key×ε×χ)->Prop:=Paired λp q=>p.1=q.1/\H q.2.1≈(.tup (p.1.map kV))/\AZ p.2 q.2.2
def KT.val{H:Hp}{ν:List (List Key×V)}{xs:List (List Key×ε×χ)}(r:KT H ν xs)(k:List Key):ES (Bm ν k) ((atKey xs k).map (·.2)):=by
 induction r with
 | nil=>exact True.intro
 | @cons p q ps qs h t ih =>
  obtain⟨h1,_,h2⟩:=h;by_cases e:p.1=k
  ·have e':q.1=k:=h1.symm.trans e;have b:atKey (q :: qs) k≈q.2:=by simp[atKey,MR,e']
   rw[N0 e,b];exact h2
  ·have e':¬ q.1=k:=λz=>e (h1.trans z);have b:atKey (q :: qs) k=atKey qs k:=by simp[atKey,MR,e']
   rw[Nz e,b];exact ih
def KT.repl{H:Hp}{ν:List (List Key×V)}{xs:List (List Key×ε×χ)}(r:KT H ν xs)(k:List Key){y:V}{u:χ}(ry:AZ y u):
  KT H (ν.map λkv=>if kv.1=k then(kv.1,y)else kv) (xs.map (putAt k u)):=by
 induction r with
 | nil=>exact .nil
 | @cons p q ps qs h t ih =>
  rw[Yr,Yr];refine .cons ?_ ih;obtain⟨h1,h2,h3⟩:=h;unfold putAt;by_cases e:p.1=k
  ·rw[if_pos e,if_pos (h1.symm.trans e)];exact⟨h1,h2,ry⟩
  ·rw[if_neg e,if_neg (λz=>e (h1.trans z))];exact⟨h1,h2,h3⟩
def KT.put{H:Hp}{ν:List (List Key×V)}{xs:List (List Key×ε×χ)}(r:KT H ν xs)(k:List Key){b:ε}{y:V}{u:χ}(hb:H b≈(.tup (k.map kV)))(ry:AZ y u):
  KT H (BX ν k y) (storedH xs k b u):=by
 have e:(ν.any λkv=>decide (kv.1=k))=(atKey xs k).isSome:=by
  rw[QN,(r.val k).isSome_eq,Option.isSome_map]
 unfold BX storedH;rw[e];by_cases q:(atKey xs k).isSome=true
 ·rw[if_pos q,if_pos q];exact r.repl k ry
 ·rw[if_neg q,if_neg q];exact EZ r ⟨Y,hb,ry⟩
def KT.keeps{H H':Hp}{ν:List (List Key×V)}{xs:List (List Key×ε×χ)}(r:KT H ν xs)(ht:∀ b ys,H b≈(.tup ys)->H' b≈(.tup ys)):KT H' ν xs :=
 Paired.mapP r λ_ _ z=>⟨z.1,ht _ _ z.2.1,z.2.2⟩
section
variable {P:Γ}{w:World}{H:Hp}{h:Heap}{a:ε}
def jV{u:HO}(ok:BK P w H h)(e:Rd H a u):A7 P w H h a u:=e.ok ok
def Li{ν:KL}(ok:BK P w H h)(e:Rd H a (.dK ν)):↑ν<=sizeLine/\(a == sysModules)=false/\∃ vs,KV ν vs/\h.DictOf (Cu P w) a vs :=
 show A7 P w H h a (.dK ν)from jV ok e
def jI{ν:KL}(ok:BK P w H h)(e:H a≈(.dK ν)):↑ν<=sizeLine/\(a == sysModules)=false/\∃ vs,KV ν vs/\h.DictOf (Cu P w) a vs:=Li ok (.inl e)
def P7{ks:List Key}(ok:BK P w H h)(e:H a≈(.tup (ks.map kV))):(tupleKind (Cu P w)).is h ks a:=by
 obtain⟨_,ψ,r,o,h1,h2,n,h3⟩:=(show A7 P w H h a (.tup (ks.map kV))from ok a _ e);exact⟨o,ψ.toArray,n,h1,h2,h3,by simpa using fc r⟩
def NU{ν:List (List Key×V)}(ok:BK P w H h)(e:Rd H a (.dT ν)):↑ν<=sizeLine/\(a == sysModules)=false /\
  ∃ xs,KT H ν xs/\h.DictOfH (tupleKind (Cu P w)) a xs:=by
 obtain⟨z,y,xs,r,o,es,ep,h1,h2,h3,h4,h5⟩:=(show A7 P w H h a (.dT ν)from jV ok e);refine⟨z,y,xs,r,o,es,ep,h1,h2,h3,h4,λx hx=>?_,h5⟩;have all:∀ {l:List (List Key×V)} {m:List (List Key×ε×χ)},KT H l m->∀ x∈m,(tupleKind (Cu P w)).is h x.1 x.2.1:=by
  intro l m q
  induction q with
  | nil=>intro x hx;exact nomatch hx
  | @cons p q ps qs hq t ih =>
   intro x hx
   rcases Yl.mp hx with e | hx
   ·subst e;exact P7 ok (by rw[<- hq.1];exact hq.2.1)
   ·exact ih x hx
 exact all r x hx
def u7{ν:List (List Key×V)}(ok:BK P w H h)(e:H a≈(.dT ν)):↑ν<=sizeLine/\(a == sysModules)=false /\
  ∃ xs,KT H ν xs/\h.DictOfH (tupleKind (Cu P w)) a xs:=NU ok (.inl e)
end
def Bk(H:Hp)(a:ε)(y:V)(r:OV):Prop :=
 (∃ ν k,Rd H a (.dK ν)/\y=kV k/\r=Bm ν k)\/∃ ν k b,Rd H a (.dT ν)/\y=.ref b/\H b≈(.tup (k.map kV))/\r=Bm ν k
def Ep(H:Hp)(a:ε)(y v:V)(H':Hp):Prop :=
 (∃ ν k,H a≈(.dK ν)/\y=kV k/\↑ν<sizeLine/\H'=upd H a (.dK (BX ν k v))) \/
 ∃ ν k b,H a≈(.dT ν)/\y=.ref b/\H b≈(.tup (k.map kV))/\↑ν<sizeLine/\H'=upd H a (.dT (BX ν k v))
def Bk.k{H:Hp}{a:ε}{ν:KL}{k:Key}(e:H a≈(.dK ν)):Bk H a (kV k) (Bm ν k):=.inl ⟨ν,k,.inl e,Y,Y⟩
def Bk.t{H:Hp}{a b:ε}{ν:List (List Key×V)}{k:List Key}(e:H a≈(.dT ν))(eb:H b≈(.tup (k.map kV))):Bk H a (.ref b) (Bm ν k):=.inr ⟨ν,k,b,.inl e,Y,eb,Y⟩
def Ep.k{H:Hp}{a:ε}{ν:KL}{k:Key}{v:V}(e:H a≈(.dK ν))(hl:↑ν<sizeLine):Ep H a (kV k) v (upd H a (.dK (BX ν k v))):=.inl ⟨ν,k,e,Y,hl,Y⟩
def Ep.t{H:Hp}{a b:ε}{ν:List (List Key×V)}{k:List Key}{v:V}(e:H a≈(.dT ν))(eb:H b≈(.tup (k.map kV)))(hl:↑ν<sizeLine):
  Ep H a (.ref b) v (upd H a (.dT (BX ν k v))):=.inr ⟨ν,k,b,e,Y,eb,hl,Y⟩
section
variable {X:Cx}{π:PL}{σ:St}{H:Hp}{s:ω}{a:ε}{y v:V}{u r:χ}{o:OV}{A:Around}{E:EV}
def Inv.big(I:Inv X π σ H s):sysModules<⇑s:=by
 have h:mainGlobals<⇑s:=(I.mod.glob.keeps I.bk).lt;exact Nat.lt_trans (by decide) h
def qJ{Q:EV}(hu:A.units + 1<cLine)(I:Inv X π σ H s)(g:Bk H a y (↥v))(ry:AZ y u)(h:∀ w' s',Inv X π σ H s'->AZ v w'->Q w' s'):
  wpAny (model X.prog X.w) A (getItem (.ref a) u) Q E s:=by
 rcases g with⟨ν,k,e,ey,l⟩ | ⟨ν,k,b,e,ey,eb,l⟩
 ·subst ey;obtain⟨z,hd,vs,rel,dd⟩:=Li I.hok e;obtain⟨w',hw,DK⟩:=ES.some_of (v:=v) (o:=valueAt vs k) (by rw[l];exact rel.val k);exact wpAny_getItem_of (NY ry) dd.mapOf hw (h w' _ (I.tok _) DK)
 ·subst ey;cases(show u=Value.ref b from ry);obtain⟨z,hd,xs,rel,dd⟩:=NU I.hok e;obtain⟨w',hw,DK⟩:=ES.some_of (v:=v) (o:=(atKey xs k).map (·.2)) (by rw[l];exact rel.val k);obtain⟨p,hp,Eg⟩:=Ip.mp hw;refine wpAny_getItem_heap (tupleKind_room_in1 hu) (P7 I.hok eb) dd hp ?_;rw[Eg];exact h w' _ (I.tok _) DK
def zC{Q:EV}(hu:A.units + 1<cLine)(I:Inv X π σ H s)(g:Bk H a y o)(ry:AZ y u)(h:∀ s',Inv X π σ H s'->Q (.bool o.isSome) s'):
  wpAny (model X.prog X.w) A (compareOp .In u (.ref a)) Q E s:=by
 rcases g with⟨ν,k,e,ey,l⟩ | ⟨ν,k,b,e,ey,eb,l⟩
 ·subst ey;obtain⟨z,hd,vs,rel,dd⟩:=Li I.hok e;refine wpAny_in_of (NY ry) hd dd.mapOf ?_;rw[<- (rel.val k).isSome_eq,<- l];exact h _ (I.tok _)
 ·subst ey;cases(show u=Value.ref b from ry);obtain⟨z,hd,xs,rel,dd⟩:=NU I.hok e;refine wpAny_in_heap (tupleKind_room_in1 hu) (P7 I.hok eb) hd dd ?_;have q:=(rel.val k).isSome_eq;rw[Option.isSome_map]at q;rw[<- q,<- l];exact h _ (I.tok _)
def xO{Q:EV}(hu:A.units + 1<cLine)(I:Inv X π σ H s)(g:Bk H a y o)(ry:AZ y u)(h:∀ s',Inv X π σ H s'->Q (.bool (!o.isSome)) s'):
  wpAny (model X.prog X.w) A (compareOp .NotIn u (.ref a)) Q E s:=by
 rcases g with⟨ν,k,e,ey,l⟩ | ⟨ν,k,b,e,ey,eb,l⟩
 ·subst ey;obtain⟨z,hd,vs,rel,dd⟩:=Li I.hok e;refine wpAny_notIn_of (NY ry) hd dd.mapOf ?_;rw[<- (rel.val k).isSome_eq,<- l];exact h _ (I.tok _)
 ·subst ey;cases(show u=Value.ref b from ry);obtain⟨z,hd,xs,rel,dd⟩:=NU I.hok e;refine wpAny_notIn_heap (tupleKind_room_in1 hu) (P7 I.hok eb) hd dd ?_;have q:=(rel.val k).isSome_eq;rw[Option.isSome_map]at q;rw[<- q,<- l];exact h _ (I.tok _)
def Wg{h':Heap}{t':Nat}{ob:HO}(I:Inv X π σ H s)(mu:RV (H a))(hs:Heap.SameBut a s.heap h')(he:∃ q,h'.get? a≈q)(new:A7 X.prog X.w (upd H a ob) h' a ob):
  Inv X π σ (upd H a ob) {s with heap:=h',toks:=t' } :=
 I.write (x:=a) (e:=a) mu (.inl rfl) (λb q hb z=>(hs.2 b hb).trans z) he new
def jc{P:Γ}{w:World}{H':Hp}{h':Heap}{ν:KL}{vs:List (Key×χ)}(z:↑ν<=sizeLine)(hd:(a == sysModules)=false)(rel:KV ν vs)(dd:h'.DictOf (Cu P w) a vs):
  A7 P w H' h' a (.dK ν):=⟨z,hd,vs,rel,dd⟩
def qK{H':Hp}{Q:Unit->ω->Prop}(hu:A.units + 1<cLine)(I:Inv X π σ H s)(g:Ep H a y v H')(ry:AZ y u)(rv:AZ v r)(h:∀ s',Inv X π σ H' s'->Q () s'):
  wpAny (model X.prog X.w) A (setItem (.ref a) u r) Q E s:=by
 rcases g with⟨ν,k,e,ey,l,eH⟩ | ⟨ν,k,b,e,ey,eb,l,eH⟩
 ·subst ey eH;obtain⟨z,hd,vs,rel,dd⟩:=jI I.hok e;have hz:↑vs<=sizeLine:=by rw[<- ↑rel];exact z
  have hl:↑(BX ν k v)<=sizeLine:=by have:=Xk ν k v;omega
  refine wpAny_setItem_pairs (hsz:=hz) (NY ry) dd λh' KH hs=>h _ ?_;have he:∃ q,h'.get? a≈q:=let⟨q,_,_,hq,_⟩:=KH;⟨q,hq⟩;exact Wg I (by rw[e];exact True.intro) hs he (jc hl hd (rel.put k rv) KH)
 ·subst ey eH;cases(show u=Value.ref b from ry);obtain⟨z,hd,xs,rel,dd⟩:=u7 I.hok e;have hz:↑xs<=sizeLine:=by rw[<- A_ rel];exact z
  have hl:↑(BX ν k v)<=sizeLine:=by have:=Xk ν k v;omega
  refine wpAny_setItem_heap (hsz:=hz) (tupleKind_room_in1 hu) (P7 I.hok eb) dd λh' KH hs=>h _ ?_;obtain⟨q,es,ep,hq,h2,h3,h4,_,h5⟩:=KH;refine Wg I (by rw[e];exact True.intro) hs ⟨q,hq⟩ ⟨hl,hd,_,(rel.put k eb rv).keeps λc ys ec=>?_,q,es,ep,hq,h2,h3,h4,h5⟩;rw[AD (YM ec e (λz=>nomatch z))];exact ec
end
section
variable {X:Cx}{π:PL}{σ:St}{H:Hp}{s:ω}{a:ε}{ν:KL}{k:Key}{u:χ}{A:Around}{E:EV}
end
def iF(i:Expr):Prop:=∀ ov iv,subscripted i false ov iv=operate [ov,iv] (getItem ov iv)
def yY{prog:Γ}{w:World}{A:Around}{E:EV}{s:ω}{env:Env}{value slice:Expr}{pos:Pos}{T id:String}{Q:EV}
  (hl:typeLookup (.type T) "__getitem__"=pure (↥(.builtin id))) (hs:iF slice)
  (h:wpAny (model prog w) A (eval value env) (λo s₁=>wpAny (model prog w) A (eval slice env) (λi s₂=>s₂.TypeIs o T/\wpAny (model prog w) A (getItem o i) Q E s₂) E s₁) E s):
  wpAny (model prog w) A (eval (.Subscript value slice pos) env) Q E s:=by
 refine Subscript_ (Jf h (λo s₁ h₁=>Jf h₁ (λi s₂ h₂=>?_) λ_ _ x=>x) λ_ _ x=>x);obtain⟨hT,h₂⟩:=h₂;unfold subscriptTail;refine Ja ?_;rw[getitemInPython_of_ne hT.not_modules];refine Ja (wpAny_specialOf hT hl ?_);have fin:wpAny (model prog w) A (subscripted slice false o i) (λr s₃=>wpAny (model prog w) A (letTemporaryGo value o r>>=λ_=>pure r) Q E s₃) E s₂:=by
  rw[hs o i];exact wpAny_operating (Jf h₂ (λr s₃ h₃=>Ja (wpAny_letTemporaryGo (Jd h₃))) λ_ _ x=>x)
 first
  | exact Jd (Ja fin)
  | exact Ja (Jd (Ja fin))
  | exact Ja fin
def tV{X:Cx}{π:PL}{σ:St}{H:Hp}{s:ω}{a:ε}{y:V}{o:OV}(I:Inv X π σ H s)(g:Bk H a y o):s.TypeIs (.ref a) "dict":=by
 rcases g with⟨ν,k,e,_,_⟩ | ⟨ν,k,b,e,_,_,_⟩
 ·obtain⟨_,_,vs,_,dd⟩:=Li I.hok e;exact dd.typeIs
 ·obtain⟨_,_,xs,_,dd⟩:=NU I.hok e;exact dd.typeIs
def vR(td ty:TE):TE:=λσ H Q=>td σ H λx H1=>ty σ H1 λy H2=>∃ a v,x=.ref a/\Bk H2 a y (↥v)/\Q v H2
def ur(ty td:TE):TE:=λσ H Q=>ty σ H λy H1=>td σ H1 λx H2=>∃ a o,x=.ref a/\Bk H2 a y o/\Q (.bl o.isSome) H2
def yZ(ty td:TE):TE:=λσ H Q=>ty σ H λy H1=>td σ H1 λx H2=>∃ a o,x=.ref a/\Bk H2 a y o/\Q (.bl (!o.isSome)) H2
def vM(td ty tv:TE):TS:=λD σ H=>tv σ H λv H1=>td σ H1 λx H2=>ty σ H2 λy H3=>∃ a H4,x=.ref a/\Ep H3 a y v H4/\D.nx σ H4
section
variable {X:Cx}{o i e value:Expr}{pos pos' E6:Pos}{td ty tv:TE}
def JS(hu:X.A.units + 1<cLine)(ho:PE X o td)(hi:PE X i ty)(hs:iF i):PE X (.Subscript o i pos) (vR td ty):=by
 ac_rfl;refine yY PySem.F.slot_dict_getitem.lookup hs (AM (ho π s σ H _ I h) λu s1 ⟨x,H1,I1,rx,q1⟩=>AM (hi π s1 σ H1 _ I1 q1) λiv s2 ⟨y,H2,I2,ry,a,v,ex,g,q2⟩=>?_);subst ex;obtain rfl:u=Value.ref a:=rx;exact⟨tV I2 g,qJ hu I2 g ry λw' s3 I3 DK=>⟨v,H2,I3,DK,q2⟩⟩
def Nf(hu:X.A.units + 1<cLine)(hi:PE X i ty)(ho:PE X o td):PC X .In i o (ur ty td):=by
 ac_rfl;refine AM (hi π s σ H _ I h) λiv s1 ⟨y,H1,I1,ry,q1⟩=>AM (ho π s1 σ H1 _ I1 q1) λu s2 ⟨x,H2,I2,rx,a,ov,ex,g,q2⟩=>?_;subst ex;obtain rfl:u=Value.ref a:=rx;exact zC hu I2 g ry λs3 I3=>⟨.bl ov.isSome,H2,I3,Y,q2⟩
def eh(hu:X.A.units + 1<cLine)(hi:PE X i ty)(ho:PE X o td):PC X .NotIn i o (yZ ty td):=by
 ac_rfl;refine AM (hi π s σ H _ I h) λiv s1 ⟨y,H1,I1,ry,q1⟩=>AM (ho π s1 σ H1 _ I1 q1) λu s2 ⟨x,H2,I2,rx,a,ov,ex,g,q2⟩=>?_;subst ex;obtain rfl:u=Value.ref a:=rx;exact xO hu I2 g ry λs3 I3=>⟨.bl (!ov.isSome),H2,I3,Y,q2⟩
def KZ(hu:X.A.units + 1<cLine)(ho:PE X o td)(hi:PE X i ty)(hv:PE X value tv)(hs:swapsWith value (↥(.Subscript o i pos')) pos.line X.env=pure false):
  PS X (.Assign [.Subscript o i pos'] value pos) (vM td ty tv):=by
 intro π s σ H D I h;refine wpAny_Assign_Subscript (AM (hv π s σ H _ I h) λr s1 ⟨v,H1,I1,rv,q1⟩=>AM (ho π s1 σ H1 _ I1 q1) λu s2 ⟨x,H2,I2,rx,q2⟩=>AM (hi π s2 σ H2 _ I2 q2) λiv s3 ⟨y,H3,I3,ry,a,H4,ex,g,q3⟩=>?_) hs;subst ex;obtain rfl:u=Value.ref a:=rx;exact qK hu I3 g ry rv λs4 I4=>⟨σ,H4,I4,q3⟩
end
def dB{P:Γ}{w:World}{H:Hp}(h:Heap)(hb:sysModules<h.objs.size):A7 P w H (h.push {cls:=.type "dict",data:=.dict #[] }) h.objs.size (.dK []):=
 ⟨BE _,Jk.mpr (Yx (Yv hb)),[],.nil,Heap.DictOf.new h⟩
def ou{P:Γ}{w:World}{H:Hp}(h:Heap)(hb:sysModules<h.objs.size):A7 P w H (h.push {cls:=.type "dict",data:=.dict #[] }) h.objs.size (.dT []):=
 ⟨BE _,Jk.mpr (Yx (Yv hb)),[],.nil,_,#[],0,Ym _ rfl,⟨Y,Y,Y⟩,Y,Y,G8⟩
def w9:TE:=λ_ H Q=>∀ p,H p=none->Q (.ref p) (upd H p (.dK []))
def w_:TE:=λ_ H Q=>∀ p,H p=none->Q (.ref p) (upd H p (.dT []))
section
variable {X:Cx}{pos:Pos}
def Nu:PE X (.Dict [] [] pos) w9:=λπ s σ H Q I h =>
 wpAny_Dict_empty ⟨.ref ⇑s,_,I.laid (a:=⇑s) (o:=.dK []) (t':=s.toks) (λ_ _ q=>Yc _ q) (Yf _) (dB s.heap I.big),Y,h _ (I.hok.fresh (Yf _))⟩
def p9:PE X (.Dict [] [] pos) w_:=λπ s σ H Q I h =>
 wpAny_Dict_empty ⟨.ref ⇑s,_,I.laid (a:=⇑s) (o:=.dT []) (t':=s.toks) (λ_ _ q=>Yc _ q) (Yf _) (ou s.heap I.big),Y,h _ (I.hok.fresh (Yf _))⟩
end
def Wb:List (TE×TE)->St->Hp->(List (V×V)->Hp->Prop)->Prop
 | [],_,H,Q=>Q [] H
 | (tk,tv):: r,σ,H,Q=>tk σ H λx H1=>tv σ H1 λy H2=>Wb r σ H2 λps H3=>Q ((x,y):: ps) H3
abbrev VV:List (V×V)->List (χ×χ)->Prop:=Paired λp q=>AZ p.1 q.1/\AZ p.2 q.2
def VF(X:Cx)(pos:Pos)(keys:List (Option Expr))(values:δ)(trs:List (TE×TE)):Prop :=
 ∀(π:PL) (s:ω) (σ:St) (H:Hp) (Q:List (V×V)->Hp->Prop),Inv X π σ H s->Wb trs σ H Q ->
  wpAny (model X.prog X.w) X.A (evalPairs (pairTrees keys values X.env pos)) (λvs s'=>∃ ps H',Inv X π σ H' s'/\VV ps vs/\Q ps H') X.xe s
def yJ{X:Cx}{pos:Pos}:VF X pos [] [] []:=λπ s σ H Q I h=>pairTrees_nil_walk ⟨[],H,I,.nil,h⟩
def pI{X:Cx}{pos:Pos}{k v:Expr}{ks:List (Option Expr)}{vs:δ}{tk tv:TE}{trs:List (TE×TE)}(hk:PE X k tk)(hv:PE X v tv)(hr:VF X pos ks vs trs):
  VF X pos (↥k :: ks) (v :: vs) ((tk,tv):: trs):=λπ s σ H Q I h =>
 pairTrees_cons_walk (AM (hk π s σ H _ I h) λu s1 ⟨x,H1,I1,rx,q1⟩=>AM (hv π s1 σ H1 _ I1 q1) λw2 s2 ⟨y,H2,I2,ry,q2⟩ =>
  AM (hr π s2 σ H2 _ I2 q2) λws s3 ⟨ps,H3,I3,rel,q3⟩=>⟨(x,y):: ps,H3,I3,.cons ⟨rx,ry⟩ rel,q3⟩)
def P4(ν more:KL):KL:=more.foldl (λacc kv=>BX acc kv.1 kv.2) ν
def KV.merge:∀ {more:KL}{rs:List (Key×χ)}{ν:KL}{vs:List (Key×χ)},KV more rs->KV ν vs->KV (P4 ν more) (merged vs rs):=by
 intro more rs ν vs r;unfold KV at r
 induction r generalizing ν vs with
 | nil=>intro q;exact q
 | @cons p q ps qs h t ih =>
  intro r0;have e:KV (BX ν p.1 p.2) (stored vs q.1 q.2):=by
   have:=r0.put p.1 h.2;rw[<- h.1];exact this
  exact ih e
theorem iC:∀(more ν:KL),↑(P4 ν more)<=↑ν + ↑more
 | [],ν=>by show ↑ν<=↑ν + 0;omega
 | p :: r,ν=>by
  have h1:=iC r (BX ν p.1 p.2);have h2:=Xk ν p.1 p.2;show↑(P4 (BX ν p.1 p.2) r)<=_;rw[Cd];omega
theorem gH{P:Γ}{w:World}:∀ {ν:KL}{ws:List (χ×χ)},VV (ν.map λkv=>(kV kv.1,kv.2)) ws->∃ rs,Carries (Cu P w) ws rs/\KV ν rs
 | [],_,r=>by rw[K4]at r;cases r;exact⟨[],True.intro,.nil⟩
 | p :: ν,_,r=>by
  rw[Yr]at r;cases r with
  | @cons a b as bs h t =>
   obtain⟨rs,c,q⟩:=gH (P:=P) (w:=w) t;obtain⟨b1,b2⟩:=b;exact⟨(p.1,b2):: rs,⟨NY h.1,Y,c⟩,.cons ⟨Y,h.2⟩ q⟩
def vS(trs:List (TE×TE)):TE:=λσ H Q=>∀ p,H p=none->Wb trs σ (upd H p (.dK [])) λps H2=>H2 p≈(.dK [])/\∃ ν:KL,ps=ν.map (λkv=>(kV kv.1,kv.2))/\↑ν<=15/\Q (.ref p) (upd H2 p (.dK (P4 [] ν)))
def yD{X:Cx}{pos:Pos}{keys:List (Option Expr)}{values:δ}{trs:List (TE×TE)}(h:VF X pos keys values trs)(hall:keys.all (·.isSome)=true)(hl:↑keys=↑values)(h0:keys≠[])
  (nN:↑keys<=15):PE X (.Dict keys values pos) (vS trs):=by
 intro π s σ H Q I q;have hn:=I.hok.fresh (Yf ⇑s);have I1:=I.laid (a:=⇑s) (o:=.dK []) (h':=s.heap.push {cls:=.type "dict",data:=.dict #[] }) (t':=s.toks) (λ_ _ q=>Yc _ q) (Yf _) (dB s.heap I.big);refine wpAny_Dict_walk (knd:=Cu X.prog X.w) hall hl h0 nN (AM (h π _ σ _ _ I1 (q _ hn)) λws s2 ⟨ps,H2,I2,rel,e,ν,ep,lk,q2⟩=>?_);subst ep;obtain⟨rs,c,rk⟩:=gH (P:=X.prog) (w:=X.w) rel;obtain⟨z,hd,ka,r0,dd⟩:=jI I2.hok e;cases r0;refine⟨rs,c,dd,λh' KH hs=>⟨.ref ⇑s,_,?_,Y,q2⟩⟩;have hz:↑(P4 [] ν)<=sizeLine:=by
  have h1:=iC ν [];rw[List.length_nil]at h1;rw[sizeLine_eq];omega
 have he:∃ q,h'.get? ⇑s≈q:=let⟨q,_,_,hq,_⟩:=KH;⟨q,hq⟩;exact Wg I2 (by rw[e];exact True.intro) hs he (jc hz hd (rk.merge .nil) KH)
structure M1(X:Cx)(o:Expr)(m:Str)(apos:Pos)(e:Expr)(AX:Pos):Prop where
 base:attributeBase o m X.env (eval o X.env)=eval o X.env
 few:((backTo AX (starEach [e] X.env)).all (λx=>!x.1)&&(backToKw AX (keywordEach [] X.env)).all (λx=>x.1.isSome)
  && decide (↑([e]:δ) + ↑([]:List Keyword) + (if([]:List Keyword).isEmpty then 0 else 1)<30))=true
 line:(apos.endLine == AX.line)=true
 trees:backTo AX (starEach [e] X.env)=[(false,eval e X.env)]
structure M2(X:Cx)(o:Expr)(m:Str)(apos:Pos)(e f:Expr)(AX:Pos):Prop where
 base:attributeBase o m X.env (eval o X.env)=eval o X.env
 few:((backTo AX (starEach [e,f] X.env)).all (λx=>!x.1)&&(backToKw AX (keywordEach [] X.env)).all (λx=>x.1.isSome)
  && decide (↑([e,f]:δ) + ↑([]:List Keyword) + (if([]:List Keyword).isEmpty then 0 else 1)<30))=true
 line:(apos.endLine == AX.line)=true
 trees:backTo AX (starEach [e,f] X.env)=[(false,eval e X.env),(false,eval f X.env)]
def zw(H:Hp)(a:ε):Prop:=(∃ ν,Rd H a (.dK ν))\/∃ ν,Rd H a (.dT ν)
def vm{X:Cx}{π:PL}{σ:St}{H:Hp}{s:ω}{a:ε}(I:Inv X π σ H s)(d:zw H a):
  s.TypeIs (.ref a) "dict"/\(∀ b,Value.ref a=.ref b->∃ ob,s.heap.get? b≈ob/\ob.dict=none)/\(a == sysModules)=false:=by
 rcases d with⟨ν,e⟩ | ⟨ν,e⟩
 ·obtain⟨_,hd,vs,_,dd⟩:=Li I.hok e;refine⟨dd.typeIs,λb q=>?_,hd⟩;cases q;obtain⟨ob,_,_,h1,h2,_⟩:=dd;exact⟨ob,h1,h2.2.1⟩
 ·obtain⟨_,hd,xs,_,dd⟩:=NU I.hok e;refine⟨dd.typeIs,λb q=>?_,hd⟩;cases q;obtain⟨ob,_,_,h1,h2,_⟩:=dd;exact⟨ob,h1,h2.2.1⟩
section
variable {X:Cx}{π:PL}{σ:St}{H:Hp}{s:ω}{a:ε}{y d:V}{u r:χ}{o:OV}{A:Around}{E:EV}
end
section
variable {X:Cx}{o e f:Expr}{apos AX:Pos}{td ty tx:TE}
end
section
variable {X:Cx}{π:PL}{σ:St}{H:Hp}{s:ω}{a:ε}{ν:KL}{A:Around}{E:EV}
end
section
variable {X:Cx}{π:PL}{σ:St}{H:Hp}{s:ω}{a:ε}{y:V}{u:χ}{A:Around}{E:EV}
end
end L2
namespace Att
open PySem PySem.W PySem.Calls PyProof.Rows
def uh{P:Params}{h:Heap}:∀(ns:ζ) (vs:LU),WellAll P h vs (ns.map WData.int)->IntsAre vs ns:=by
 intro ns
 induction ns with
 | nil =>
  intro vs w;rw[K4]at w;cases w;exact .nil
 | cons n ns ih =>
  intro vs w;rw[Yr]at w;cases w with
  | cons a b =>
   cases a;exact .cons _ _ (ih _ b)
def rW{l:OpenLaw}{n:Nat}(hn:l.most≈n){P:Params}{h:Heap}{args:List WData}{vals:LU}
  (hpre:l.row.toRowW.claim.pre args=true) (hwl:WellAll P h vals args):
  ∃ a vs ns,vals=[Value.ref a]/\args=[WData.list (ns.map WData.int)]/\h.get? a=some {cls:=.type "list",data:=.seq vs.toArray}/\IntsAre vs ns/\↑ns<=n:=by
 have hsh:WShape.hasAll [] args [.list .int]=true:=(pre_splitW hpre).1;have hc:l.pre.holds [] {args:=args}=true:=(pre_splitW hpre).2;obtain⟨d,r,rfl,h1,h2⟩:=hasAllW_cons hsh;obtain rfl:=hasAllW_nil h2;obtain⟨xs,rfl,h3⟩:=hasW_list h1;obtain⟨ns,rfl⟩:=items_int h3;have hlen:↑ns<=n:=by
  unfold OpenLaw.pre at hc;have h4:(WTm.not (.lt (.lit (.int (n:Int))) (.len (.arg 0)))).holds [] {args:=[.list (ns.map .int)] }=true:=by
   have h4:=(holds_andW hc).1;rw[hn]at h4;exact h4
  have h5:=condW_of h4 (w_not (w_lt w_lit (w_len_list (w_arg rfl))));rw[Ya]at h5;refine Nat.le_of_not_lt λq=>?_;have q':(n:Int)<((↑ns:Nat):Int):=by omega
  first
   | (rw[Jb q']at h5;exact absurd h5 (by decide))
   | (simp at h5;omega)
 cases hwl with
 | cons w1 w2 =>
  cases w2;cases w1 with
  | list ho hall=>exact⟨Q,ns,Y,Y,ho,uh ns _ hall,hlen⟩
def q_(l:OpenLaw)(args:List WData):l.row.toRowW.claim.post args (.bool true) args=true :=
 postW_of (r:=l.row.toRowW) (X:=(true == true))
  (show WShape.has [] (.bool true) .bool=true by first | rfl | decide | simp[WShape.has,WShape.arms,WShape.armsAll])
  (show(WTm.eq .res (.lit (.bool true))).value [] {args:=args,res:=↥(.bool true),after:=args}≈(.bool (true == true))from w_eq_bool (w_res rfl) w_lit) rfl
def attach_call{l:OpenLaw}{n:Nat}{q:Γ}{loose:LS}{XP:(Str->OU)->Heap->Prop}{YP:World->Heap->Prop}{d:DefRec}
  (hn:l.most≈n) (hdf:d.params.defaults=[])
  (call:∀(w:World) (s₀ s₁:ω) (mg mb:Str->OU) (fa:ε) (o:Obj) (pm cd doc:χ) (a:ε) (vs:LU) (ns:ζ),
   Ground q loose [] XP w s₀ mg mb s₁.heap->YP w s₁.heap ->
   s₁.heap.get? fa≈o->o.data=.func (docDef d.name d.params d.body d.scope pm cd doc)->s₁.heap.CodeRec cd d.name->mg d.name≈(.ref fa) ->
   s₁.heap.get? a=some {cls:=.type "list",data:=.seq vs.toArray}->IntsAre vs ns->↑ns<=n->s₁.gens=#[] ->
   codeAny (model l.prog w) callerA (.call (.ref fa) ⟨[.ref a],[]⟩) (λr s'=>r=.ok (.ret (.bool true))/\OldK s₁.heap s'.heap/\s'.os=s₁.os/\AllBare s'.gens) s₁):
  WalkO q loose XP YP l.row.toRowW d [] (λf vs=>PySem.call f vs):=by
 intro w s₀ s₁ mg mb G Y fa o pm cd doc dV kV ho hd hcd hD hmg hg args vals as hpre hlay hrd hwl hlo;obtain rfl:dV=.none:=Dflts.none hD hdf;obtain rfl:kV=.none:=Dflts.noKw hD;obtain⟨a,vs,ns,rfl,rfl,hobj,hints,hlen⟩:=rW hn hpre hwl;refine enter_call (codeAny_mono (call w s₀ s₁ mg mb fa o pm cd doc a vs ns G Y ho (fd_plain hd) hcd hmg hobj hints hlen hg) λr s' hq=>?_);obtain⟨rfl,h2,h3,h4⟩:=hq;exact⟨.inl ⟨.bool true,.bool true,[],Y,λ_=>rfl,.bool true,q_ l _,λ_=>⟨List.Pairwise.nil,λ_ hm=>(nomatch hm)⟩⟩,h2,h3,h4⟩
section
variable {prog:Γ}{w:World}{A:Around}{E:EV}{s:ω}{K:Frag}
end
end Att
namespace L2
open PySem PySem.Spec PyProof.Rows
theorem gF:∀ {vs:LU}{ns:ζ},IntsAre vs ns->AQ (ns.map V.int) vs
 | _,_,.nil=>.nil
 | _,_,.cons n t h=>.cons ⟨t,Y⟩ (gF h)
def IX(s:Stmt)(j:Nat):Stmt:=match s with
 | .ClassDef _ _ _ body _ _ _ _ _ _ _=>body.getD j (.Pass ⟨0,0,0,0⟩)
 | _=>.Pass ⟨0,0,0,0⟩
def FR(s:Stmt):Arguments:=match s with
 | .FunctionDef _ a _ _ _ _ _ _ _ _=>a
 | _=>{posonlyargs:=[],args:=[],vararg:=none,kwonlyargs:=[],kw_defaults:=[],kwarg:=none,defaults:=[] }
def CM(s:Stmt):List Stmt:=match s with
 | .FunctionDef _ _ b _ _ _ _ _ _ _=>b
 | _=>[]
def AJ(s:Stmt):Scope:=match s with
 | .FunctionDef _ _ _ _ _ _ sc _ _ _=>sc
 | _=>{kind:=.function,names:=[],isGenerator:=false,isCoroutine:=false}
abbrev Ir:F_:=λ_ _ _ _ _ _=>False
abbrev E0:XK:=λ_ _ _=>False
def BS{X:Cx}:KP Ir X E0:=λ_ _ _ _ _ _ _ h=>h.elim
structure Bj(K:Fg)(x qual:Str)(st:Stmt)(f:ε)(fd:FuncData):Prop where
 ex:∃(oc:χ) (od:Option ε) (kV doc pm:χ) (an:Option ε) (Ao ct:χ) (osl:Array (OU)),
  fd=W.fnOf x qual (FR st) (CM st) (AJ st) .none kV doc pm an Ao ct/\K.lookup f≈⟨oc,od,.func fd,osl⟩/\W.codeIn K Ao qual=true
 kp:W.keepIn K (.ref f)=true
section
variable {P:Γ}{w:World}{K:Fg}{mg:Str->OU}{base:Heap}
def Bj.ok{x qual:Str}{st:Stmt}{N ps:LS}{k:Nat}{sp:Sp}(F:Bj K x qual st f fd)(S:Ad N ps (AJ st))(len:∀ vs H Q E,sp vs H Q E->↑vs=↑ps)
  (hbody:∀(Ao:χ) (A:Around) (outer:List Env) (s:ω) (H:Hp) (vs:LV) (Q:VK) (E:XK),AV k (A.deeper (envOfC qual (AJ st) ⇑s f Ao))->sp vs H Q E ->
   ∃ t,CB (JY Ir P w K mg base N qual (AJ st) f Ao A outer s H E).nox (CM st) t/\t {nx:=λ_ H'=>Q .non H',rt:=Q} (start N vs) H):Bi P w K mg base Ir (k + 1) f fd ps sp:=by
 obtain⟨oc,od,kV,doc,pm,an,Ao,ct,osl,rfl,lk,hcd⟩:=F.ex;refine YB lk hcd S len λA outer s H vs Q E hr hsp=>?_;obtain⟨t,h,q⟩:=hbody Ao A outer s H vs Q E hr hsp;exact⟨t,h.nox,q⟩
def Bj.binds{x qual:Str}{st:Stmt}{ps:LS}(F:Bj K x qual st f fd)
  (h:∀(kV doc pm:χ) (an:Option ε) (Ao ct:χ) (us:LU),↑us=↑ps->bindArgs (W.fnOf x qual (FR st) (CM st) (AJ st) .none kV doc pm an Ao ct) ⟨us,[]⟩=pure (ps.zip us)):C1 K fd ps []:=by
 obtain⟨oc,od,kV,doc,pm,an,Ao,ct,osl,rfl,lk,hcd⟩:=F.ex;exact .all (h kV doc pm an Ao ct)
def jg{x qual:Str}{st:Stmt}{f:ε}{oc:χ}{od an:Option ε}{osl:Array (OU)}{kV doc pm Ao ct:χ}(l:K.lookup f≈⟨oc,od,.func (W.fnOf x qual (FR st) (CM st) (AJ st) .none kV doc pm an Ao ct),osl⟩)
  (c:W.codeIn K Ao qual=true) (k:W.keepIn K (.ref f)=true):Bj K x qual st f (W.fnOf x qual (FR st) (CM st) (AJ st) .none kV doc pm an Ao ct):=⟨⟨oc,od,kV,doc,pm,an,Ao,ct,osl,Y,l,c⟩,k⟩
end
def Fy{A:Around}{k:Nat}(hr:AV k A):A.units + 1<cLine:=RD (Nat.add_le_add_left (by decide:1<=64) _) hr.units
section
variable {X:Cx}
def pv(i:Nat){x:Str}{pos:Pos}(hN:X.N[i]?≈x:=by rfl)(hv:RK X.env.scope x:=by first | exact Or.inl rfl | exact Or.inr (Or.inl rfl) | exact Or.inr (Or.inr rfl))(hd:(x == ("__debug__":Str))=false:=by decide)
  (hcd:(x == ("__classdict__":Str))=false:=by decide):PE X (.Name x pos) (YA i):=kP hN hv hd hcd
end
def Ap{A B:Prop}(h:B):if false=true then A else B:=by
 rw[if_neg Yq];exact h
def CG{A B:Prop}(h:A):if true=true then A else B:=by
 rw[if_pos rfl];exact h
def A2{c A B:Prop}[Decidable c](h1:c->A)(h2:¬ c->B):if c then A else B:=by
 by_cases h:c
 ·rw[if_pos h];exact h1 h
 ·rw[if_neg h];exact h2 h
def AA(H H':Hp):Prop:=∀ b o,H b≈o->H' b≈o
def AA.refl(H:Hp):AA H H:=λ_ _ h=>h
def AA.trans{H H1 H2:Hp}(a:AA H H1)(b:AA H1 H2):AA H H2:=λc o h=>b c o (a c o h)
def AA.free{H H':Hp}(e:AA H H'){l:ε}(h:H' l=Option.none):H l=Option.none:=by
 cases q:H l with
 | none=>rfl
 | some o =>
  rw[e l o q]at h;cases h
def AA.seq{K:Fg}{H H':Hp}{a:ε}{xs:LV}(e:AA H H')(h:SqL K H a xs):SqL K H' a xs:=by
 rcases h with(h | ⟨o,h⟩) | h
 ·exact .inl (.inl (e _ _ h))
 ·exact .inl (.inr ⟨o,e _ _ h⟩)
 ·exact .inr h
section
variable {X:Cx}
end
section
variable {κ:Type}[DecidableEq κ]
def pY{ν:List (κ×V)}{k:κ}(h:Bm ν k=none):¬ k∈ν.map (·.1):=by
 intro m;obtain⟨p,hp,e⟩:=Yk.mp m;have q:(ν.any λkv=>decide (kv.1=k))=true:=F8.mpr ⟨p,hp,Jb e⟩;rw[QN,h]at q;exact absurd q (by simp)
def ck{ν:List (κ×V)}{k:κ}{v:V}(h:Bm ν k≈v):k∈ν.map (·.1):=by
 have q:(ν.any λkv=>decide (kv.1=k))=true:=by
  rw[QN,h]
  all_goals rfl
 obtain⟨p,hp,e⟩:=F8.mp q;exact Yk.mpr ⟨p,hp,Je e⟩
end
end L2
set_option maxHeartbeats 4000000
namespace HT
open PySem PyProof.Rows
open PySem.SeqAt
open PySem.AutoSeq1 (wpAny_loadPart')
open PySem.MeetsSeq PySem.MeetsSeq2 PySem.MeetsSeq3
section
variable {prog:Γ}{w:World}{A:Around}{E:EV}{s:ω}
end
end HT
namespace L2
open PySem PySem.Spec PyProof.Rows
structure Fs(J:It)(xs:LV)(Ok:Hp->Prop):Prop where
 go:∀(i:Nat) (x:V) (H:Hp),Ok H->xs[i]?≈x->J.go i H
 yld:∀(i:Nat) (x:V) (H:Hp) (y:V) (H':Hp),Ok H->xs[i]?≈x->J.yld i H y H'->y=x/\H'=H
 stop:∀(H:Hp),Ok H->J.stop ↑xs H
def B4{K:Fg}{a:ε}{xs:LV}:Fs (RW K a) xs (λH=>SqL K H a xs) where
 go:=λi x H ok hx=>⟨xs,x,ok,hx⟩
 yld:=λi x H y H' ok hx h=>by
  obtain⟨e,h⟩:=h;have q:=h xs ok;rw[hx]at q;exact⟨(BQ q).symm,e⟩
 stop:=λH ok=>⟨xs,ok,Yf _⟩
def Ie{K:Fg}{a:ε}{xs:LV}:Fs (VL K a) xs (λH=>AH K H a xs) where
 go:=λi x H ok hx=>⟨xs,x,ok,hx⟩
 yld:=λi x H y H' ok hx h=>by
  obtain⟨e,h⟩:=h;have q:=h xs ok;rw[hx]at q;exact⟨(BQ q).symm,e⟩
 stop:=λH ok=>⟨xs,ok,Yf _⟩
def C2(lo:Int)(n:Nat):LV:=(List.range n).map λ(k:Nat)=>V.int (lo + (k:Int))
def Cw(lo:Int)(n:Nat):↑(C2 lo n)=n:=by unfold C2;rw[Ya,Ec]
def EH{lo:Int}{n i:Nat}{x:V}(h:(C2 lo n)[i]?≈x):i<n/\x=V.int (lo + (i:Int)):=by
 have hi:i<n:=by
  have:=(Ye.mp h).1
  rwa [Cw]at this
 refine⟨hi,?_⟩;unfold C2 at h;rw[Yh,JZ hi]at h;exact(BQ h).symm
def Gx{lo:Int}{n:Nat}:Fs (VN lo n) (C2 lo n) (λ_=>True) where
 go:=λi x H _ hx=>(EH hx).1
 yld:=λi x H y H' _ hx h=>by
  obtain⟨e,h⟩:=h;exact⟨h.trans (EH hx).2.symm,e⟩
 stop:=λH _=>by
  show n<=↑(C2 lo n);rw[Cw];exact Yf _
def C3{J:It}{xs:LV}{Ok:Hp->Prop}(R:Fs J xs Ok){g:TG}{tb:TS}{D:HJ}{σ:St}{H:Hp}(Pv:NW)(h0:Pv 0 σ H)(hl:∀ i σ H,i<=↑xs->Pv i σ H->Ok H)
  (hs:∀ i x σ H,xs[i]?≈x->Pv i σ H->g x σ H λσ2 H2=>tb {D with nx:=Pv (i + 1),ct:=Pv (i + 1),bk:=D.nx} σ2 H2) (hd:∀ σ H,Pv ↑xs σ H->D.nx σ H):
  ∃ W:Nat->Nat->St->Hp->Prop,(∃ m,W 0 m σ H)/\∀ i m σ H,W i m σ H ->
   (J.stop i H/\D.nx σ H)\/(J.go i H/\∃ N:SW,(∀ σ' H',N σ' H'->∃ m',m'<m/\W (i + 1) m' σ' H')/\∀ x H',J.yld i H x H'->g x σ H' λσ2 H2=>tb {D with nx:=N,ct:=N,bk:=D.nx} σ2 H2):=by
 refine⟨λi m σ H=>m=↑xs - i/\i<=↑xs/\Pv i σ H,⟨↑xs,by simp,BE _,h0⟩,?_⟩;rintro i m σ H ⟨rfl,hi,p⟩;have q:=hl i σ H hi p;by_cases AW:i<↑xs
 ·have hx:xs[i]?≈xs[i]:=by simp[AW]
  refine .inr ⟨R.go i _ H q hx,Pv (i + 1),λσ' H' p'=>⟨↑xs - (i + 1),W,Y,AW,p'⟩,λx H' y=>?_⟩;obtain⟨e1,e2⟩:=R.yld i _ H x H' q hx y;rw[e2];exact hs i x σ H (by rw[e1];exact hx) p
 ·have e:i=↑xs:=by omega
  subst e;exact .inl ⟨R.stop H q,hd σ H p⟩
def VM(x:Str):It:=⟨λi _=>i<x.cps.size,λi H v H'=>H'=H/\∃ c,x.cps[i]?≈c/\v=.str ⟨#[c]⟩,λi _=>x.cps.size<=i⟩
def JQ(x:Str):LV:=x.cps.toList.map λc=>V.str ⟨#[c]⟩
def pP{x:Str}:Fs (VM x) (JQ x) (λ_=>True) where
 go:=λi y H _ hx=>by
  have:=(Ye.mp hx).1;unfold JQ at this;rw[Ya]at this;show i<x.cps.size;simpa using this
 yld:=λi y H z H' _ hx h=>by
  obtain⟨e,c,hc,hz⟩:=h;refine⟨?_,e⟩;unfold JQ at hx;rw[Yh,Oq,hc]at hx;rw[hz];exact BQ hx
 stop:=λH _=>by
  show x.cps.size<=↑(JQ x);unfold JQ;simp
def dv{P:Γ}{w:World}{K:Fg}{tg:Expr}(x:Str)(t:Tok)(it:ε)(ty:String)(hty:ty="str_ascii_iterator"\/ty="str_iterator"):
  Ft P w K tg (VM x) [it] it (λi h=>h.IsStrIter it ty x t i) where
 mem:=by simp
 obj:=λi h st b hb=>by
  have e:b=it:=by simpa using hb
  subst e;obtain⟨o,e,c,d⟩:=st;exact⟨o,e,λv z=>by rw[d]at z;cases z⟩
 keep:=λi h h' st k=>by
  obtain⟨o,ho,r⟩:=st;exact⟨o,k it (by simp) o ho,r⟩
 item:=by
  intro X hP hw hK hc i π s σ H E I hf st hg;subst hP hw hK;obtain⟨f0,f1,f2,f3,f4,f5⟩:=hf it (by simp);have hi:i<x.cps.size:=hg;have hx:x.cps[i]?≈x.cps[i]:=by simp[hi]
  have fin:∀ h':Heap,h'.IsStrIter it ty x t (i + 1)->Heap.SameBut it s.heap h'->∃ u,↥(Value.str ⟨#[x.cps[i]]⟩ s.toks)≈u /\
    wpAny (model X.prog X.w) X.A (letOwnedTupleGo tg (.ref it) u) (λ_ s2=>∃ y H',Inv X π σ H' s2/\AZ y u/\(VM x).yld i H y H'/\s2.heap.IsStrIter it ty x t (i + 1)/\∀ b∈[it],H' b=none) E {s with heap:=h',toks:=s.toks + 1}:=λh' A1 sb=>by
   have I1:Inv X π σ H {s with heap:=h',toks:=s.toks + 1}:=I.turned (λb o hb e=>(sb.2 b hb).trans e) f0 f1 f3 f4 f5;obtain⟨o,e,c,d⟩:=id A1;refine⟨Z,NX (s:={s with heap:=h',toks:=s.toks + 1}) e c d ?_ ⟨.str ⟨#[x.cps[i]]⟩,H,I1,⟨Z⟩,⟨Y,_,hx,Y⟩,A1,λb hb=>(hf b hb).1⟩⟩
   rcases hty with rfl | rfl <;> decide
  rcases hty with rfl | rfl
  ·exact wpAny_pyNext_ascii_item st hx λh' A1 sb=>fin h' A1 sb
  ·exact wpAny_pyNext_wide_item st hx λh' A1 sb=>fin h' A1 sb
 done:=by
  intro X hP hw hK hc i π s σ H E I hf st hg;subst hP hw hK;obtain⟨f0,f1,f2,f3,f4,f5⟩:=hf it (by simp);have hi:x.cps.size<=i:=hg;have hx:x.cps[i]?=none:=by simp[hi]
  rcases hty with rfl | rfl
  ·exact wpAny_pyNext_ascii_end (I.ok.hd hc) st hx λh' eb=>⟨Y,I.turned (t':=s.toks) (λb o hb e=>eb b o hb e) f0 f1 f3 f4 f5⟩
  ·exact wpAny_pyNext_wide_end (I.ok.hd hc) st hx λh' eb=>⟨Y,I.turned (t':=s.toks) (λb o hb e=>eb b o hb e) f0 f1 f3 f4 f5⟩
 self:=λ_ _ _ _ _ st h=>by
  rcases hty with rfl | rfl
  ·exact wpAny_pyIter_striter_ascii st h
  ·exact wpAny_pyIter_striter_wide st h
section
variable {X:Cx}{tg:Expr}
def zk(tl:TE):TI:=λσ H R=>tl σ H λx H1=>∃ z,x=.str z/\R (VM z) H1
def wY{l:Expr}{tl:TE}(hl:PE X l tl):PI X tg l (zk tl):=by
 intro π s σ H R I h;refine AM (hl π s σ H _ I h) λv s1 ⟨x,H1,I1,r1,q1⟩=>?_;obtain⟨z,e,q⟩:=q1;subst e;obtain⟨t,rfl⟩:=r1;have fp:∀ b∈[⇑s1],BH X π H1 b:=λb hb=>by
  have e:b=⇑s1:=by simpa using hb
  subst e;exact I1.fpOk (Yf _) (I1.hok.fresh (Yf _))
 cases ha:z.cps.all (·<128)with
 | false =>
  refine wpAny_pyIter_wide ha ?_;exact⟨⇑s1,[⇑s1],Q,H1,Y,I1.kept (t':=s1.toks) λb o e=>Yc _ e,dv z t _ "str_iterator" (.inr rfl),⟨_,Ym _ rfl,Y,Y⟩,fp,q⟩
 | true =>
  refine wpAny_pyIter_ascii ha ?_;exact⟨⇑s1,[⇑s1],Q,H1,Y,I1.kept (t':=s1.toks) λb o e=>Yc _ e,dv z t _ "str_ascii_iterator" (.inl rfl),⟨_,Ym _ rfl,Y,Y⟩,fp,q⟩
end
def CL(env:Env):List (Str×NameKind)->List (Str×ε)->List (Str×ε)
 | [],acc=>acc
 | (n,k):: r,acc=>if(k == NameKind.free)=true then CL env r ((n,(env.cells.lookup n).getD 0):: acc)else CL env r acc
def tS{env:Env}{n:Str}{c:ε}(h:env.cells.lookup n≈c):cellOf env n=pure c:=by
 unfold cellOf;rw[h]
def Xn{scope:Scope}{env:Env}(h:∀ y∈scope.names,y.2=.free->∃ c,env.cells.lookup y.1≈c):closureFor scope env=pure (CL env scope.names []):=by
 have key:∀(l:List (Str×NameKind)) (acc:List (Str×ε)),(∀ y∈l,y.2=.free->∃ c,env.cells.lookup y.1≈c) ->
   (forIn l acc λ(x:Str×NameKind) (r:List (Str×ε))=>(match x with
    | (name,kind)=>if(kind == NameKind.free)=true then(do let a <- cellOf env name;pure (ForInStep.yield ((name,a):: r)))else pure (ForInStep.yield r):Sem (ForInStep (List (Str×ε)))))=pure (CL env l acc):=by
  intro l
  induction l with
  | nil=>intro acc _;rfl
  | cons y r ih =>
   intro acc hy;obtain⟨n,k⟩:=y;have aL:=λacc=>ih acc λz hz=>hy z (G6 _ hz);rw[MQ];by_cases hk:(k == NameKind.free)=true
   ·obtain⟨c,hc⟩:=hy (n,k) Jr (by simpa using hk);have hc:env.cells.lookup n≈c:=hc;simp only[hk,if_true,tS hc];unfold CL;rw[if_pos hk,hc];exact aL _
   ·simp only[hk];unfold CL;rw[if_neg hk];exact aL _
 unfold closureFor;have q:=key scope.names [] h;show((forIn scope.names [] _:Sem (List (Str×ε)))>>=λr=>pure r)=_
 first
  | (rw[show(forIn scope.names [] _:Sem (List (Str×ε)))=_ from q];rfl)
  | (refine(congrArg (λm=>m>>=λr=>pure r) q).trans ?_;rfl)
theorem Qe{env:Env}:∀(l:List (Str×NameKind)) (acc:List (Str×ε)) (x:Str) (c:ε),(∀ y∈l,y.2=.free->∃ c,env.cells.lookup y.1≈c) ->
  (∀ x c,acc.lookup x≈c->env.cells.lookup x≈c)->(CL env l acc).lookup x≈c->env.cells.lookup x≈c
 | [],acc,x,c,_,ha,h=>ha x c h
 | (n,k):: r,acc,x,c,hy,ha,h=>by
  have hr:∀ y∈r,y.2=.free->∃ c,env.cells.lookup y.1≈c:=λy IB=>hy y (G6 _ IB);unfold CL at h;by_cases hk:(k == NameKind.free)=true
  ·rw[if_pos hk]at h;refine Qe r _ x c hr (λz d hz=>?_) h;obtain⟨c',BM⟩:=hy (n,k) Jr (by simpa using hk);have BM:env.cells.lookup n≈c':=BM;rw[Dj]at hz;by_cases e:(z == n)=true
   ·simp only[e]at hz;have e':z=n:=by simpa using e
    rw[e',BM];rw[BM]at hz;exact hz
   ·have e':(z == n)=false:=by simpa using e
    simp only[e']at hz;exact ha z d hz
  ·rw[if_neg hk]at h;exact Qe r acc x c hr ha h
theorem Xa{env:Env}:∀(l:List (Str×NameKind)) (acc:List (Str×ε)) (x:Str),(acc.lookup x).isSome=true->((CL env l acc).lookup x).isSome=true
 | [],acc,x,h=>h
 | (n,k):: r,acc,x,h=>by
  unfold CL;by_cases hk:(k == NameKind.free)=true
  ·rw[if_pos hk];refine Xa r _ x ?_;rw[Dj];cases e:(x == n)with
   | true=>rfl
   | false=>exact h
  ·rw[if_neg hk];exact Xa r acc x h
theorem T4{env:Env}:∀(l:List (Str×NameKind)) (acc:List (Str×ε)) (x:Str),(x,NameKind.free)∈l->((CL env l acc).lookup x).isSome=true
 | [],acc,x,h=>nomatch h
 | (n,k):: r,acc,x,h=>by
  unfold CL
  rcases Yl.mp h with e | h
  ·injection e with e1 e2;subst e1;subst e2;rw[if_pos (by decide)];refine Xa r _ x ?_;rw[Dj];simp
  ·by_cases hk:(k == NameKind.free)=true
   ·rw[if_pos hk];exact T4 r _ x h
   ·rw[if_neg hk];exact T4 r _ x h
theorem Xv{env:Env}:∀ {names:List (Str×NameKind)}{x:Str},names.lookup x≈.free ->
  (names.map λ(n,k)=>if(k == NameKind.free&&env.scope.kind == .function&&env.kindOf n == ↥.cell)then(n,NameKind.cell)else(n,k)).lookup x≈.cell \/
  (names.map λ(n,k)=>if(k == NameKind.free&&env.scope.kind == .function&&env.kindOf n == ↥.cell)then(n,NameKind.cell)else(n,k)).lookup x≈.free
 | [],_,h=>by simp at h
 | (n,k):: r,x,h=>by
  have ih:=@Xv env r x;rw[Yr];show List.lookup x ((if(k == NameKind.free&&env.scope.kind == .function&&env.kindOf n == ↥.cell)=true then(n,NameKind.cell)else(n,k)):: _)=_\/List.lookup x ((if(k == NameKind.free&&env.scope.kind == .function&&env.kindOf n == ↥.cell)=true then(n,NameKind.cell)else(n,k)):: _)=_;cases hx:x == n with
  | true =>
   simp only[Dj,hx]at h;cases h;by_cases hc:(NameKind.free == NameKind.free&&env.scope.kind == .function&&env.kindOf n == ↥.cell)=true
   ·rw[if_pos hc];simp only[Dj,hx];exact .inl trivial
   ·rw[if_neg hc];simp only[Dj,hx];exact .inr trivial
  | false =>
   simp only[Dj,hx]at h;by_cases hc:(k == NameKind.free&&env.scope.kind == .function&&env.kindOf n == ↥.cell)=true
   ·rw[if_pos hc];simp only[Dj,hx];exact ih h
   ·rw[if_neg hc];simp only[Dj,hx];exact ih h
theorem Xu{env:Env}:∀ {names:List (Str×NameKind)}{x:Str},
  ((names.map λ(n,k)=>if(k == NameKind.free&&env.scope.kind == .function&&env.kindOf n == ↥.cell)then(n,NameKind.cell)else(n,k)).lookup x≈.cell \/
  (names.map λ(n,k)=>if(k == NameKind.free&&env.scope.kind == .function&&env.kindOf n == ↥.cell)then(n,NameKind.cell)else(n,k)).lookup x≈.free) ->
  names.lookup x≈.free\/names.lookup x≈.cell
 | [],_,h=>by simp at h
 | (n,k):: r,x,h=>by
  have ih:=@Xu env r x;rw[Yr]at h
  change List.lookup x ((if(k == NameKind.free&&env.scope.kind == .function&&env.kindOf n == ↥.cell)=true then(n,NameKind.cell)else(n,k)):: _)=_\/List.lookup x ((if(k == NameKind.free&&env.scope.kind == .function&&env.kindOf n == ↥.cell)=true then(n,NameKind.cell)else(n,k)):: _)=_ at h
  cases hx:x == n with
  | true =>
   simp only[Dj,hx];by_cases hc:(k == NameKind.free&&env.scope.kind == .function&&env.kindOf n == ↥.cell)=true
   ·left;have:(k == NameKind.free)=true:=by
     cases hk:(k == NameKind.free)with
     | true=>rfl
     | false=>rw[hk]at hc;simp at hc
    have:k=NameKind.free:=by simpa using this
    rw[this]
   ·rw[if_neg hc]at h;simp only[Dj,hx]at h
    rcases h with h | h
    ·exact .inr h
    ·exact .inl h
  | false =>
   simp only[Dj,hx];apply ih;by_cases hc:(k == NameKind.free&&env.scope.kind == .function&&env.kindOf n == ↥.cell)=true
   ·rw[if_pos hc]at h;simp only[Dj,hx]at h;exact h
   ·rw[if_neg hc]at h;simp only[Dj,hx]at h;exact h
abbrev Dd(X:Cx)(scope:Scope)(N:LS)(C:ε)(s:ω)(H:Hp)(fp:τ):Cx :=
 {X with N:=N,s₀:=s,H₀:=H,env:=compEnvC scope (CL X.env scope.names []) C X.env,outer:=X.stack,ex:=fp,fn:=λ_=>false,pn:=[],xe:=λ_ _=>False}
def Hz(n:Nat)(js:LN)(σ:St):St:=List.replicate n none++js.map λj=>(σ[j]?).join
def cq(n:Nat)(js:LN)(σ:St):↑(Hz n js σ)=n + ↑js:=by unfold Hz;simp
structure Gp(X:Cx)(scope:Scope)(own η:LS)(js:LN):Prop where
 calm:X.calm=true
 kind:scope.kind=.function
 nocell:∀ y∈scope.names,y.2≠.cell
 locals:∀ y∈scope.names,y.2=.local->scope.names.lookup y.1≈.local
 fr:∀ y∈scope.names,y.2=.free->X.env.scope.names.lookup y.1≈.cell\/X.env.scope.names.lookup y.1≈.free
 fre:∀ x∈η,scope.names.lookup x≈.free
 slots:js.map (λj=>X.N[j]?)=η.map some
def Ma(X:Cx)(ifs:δ)(t:TT):Prop :=
 ∀(π:PL) (s:ω) (σ:St) (H:Hp) (Q:Bool->Hp->Prop),Inv X π σ H s->t σ H Q ->
  wpAny (model X.prog X.w) X.A (forIn ifs true λc r=>if r=true then do let ok <- isTrue c X.env (eval c X.env);pure (ForInStep.yield ok)else pure (ForInStep.yield r)) (TP X π σ Q) X.xe s
def Py:TT:=λ_ H Q=>Q true H
def Br{X:Cx}:Ma X [] Py:=λ_ _ _ H _ I h=>wpAny_tests_nil ⟨H,I,h⟩
def F3{X:Cx}{c:Expr}{t:TT}(h:PT X c t):Ma X [c] t:=λπ s σ H Q I q=>wpAny_tests_one (h π s σ H Q I q)
def AU(n:Nat)(js:LN)(g:TG)(tt:TT)(te:TE)(σ:St)(Q:VK)(J:It)(H1:Hp):Prop:=∀ D,H1 D=none ->
 ∃ W:Nat->Nat->LV->St->Hp->Prop,(∃ m,W 0 m [] (Hz n js σ) (upd H1 D (.lst [])))/\∀ i m ys σ' H',W i m ys σ' H' ->
  (J.stop i H'/\Q (.ref D) H') \/
  (J.go i H'/\↑ys<sizeLine/\∃ N:LV->St->Hp->Prop,(∀ LA σ3 H3,N LA σ3 H3->∃ m',m'<m/\W (i + 1) m' LA σ3 H3)/\∀ x H2,J.yld i H' x H2->g x σ' H2 λσ3 H3=>tt σ3 H3 λb H4 =>
   if b=true then te σ3 H4 λv H5=>H5 D≈(.lst ys)/\N (ys++[v]) σ3 (upd H5 D (.lst (ys++[v])))
   else N ys σ3 H4)
section
variable {prog:Γ}{w:World}{A:Around}{E:EV}{R:Result->ω->Prop}{s:ω}
def hY{elt target iter:Expr}{ifs:δ}{scope:Scope}{pos:Pos}{it acc:χ}{env:Env}(I:Nat->ω->Prop)
  (turn:∀ n s,I n s->∀ E:EV,wpAny (model prog w) A (pyNext it) (λr s₁=>match r with
   | none=>R (.ok .next) s₁
   | some v=>wpAny (model prog w) A (letOwnedTupleGo target it v) (λ_ Zh=>wpAny (model prog w) A (assign target env v) (λ_ s₂ =>
     wpAny (model prog w) A (forIn ifs true λc r=>if r=true then do let ok <- isTrue c env (eval c env);pure (ForInStep.yield ok)else pure (ForInStep.yield r)) (λok s₃ =>
      if ok=true then wpAny (model prog w) A (eval elt env) (λx s₄ =>
       wpAny (model prog w) A (call (.builtin "list.append") [acc,x]) (λ_ s₅=>∃ m,m<n/\I m s₅) E s₄) E s₃
      else ∃ m,m<n/\I m s₃) E s₂) E Zh) E s₁) E s)
  (n:Nat) (h:I n s):
  codeAny (model prog w) A (.compLoop (.ListComp elt [⟨target,iter,ifs,0⟩] scope pos) 0 it acc env) R s:=by
 refine codeAny_loop rfl I (λn s hI=>?_) n h;show wpAny _ A ((compTurn (.ListComp elt [⟨target,iter,ifs,0⟩] scope pos) 0 it acc env).onRaise (λx=>do noteFrame x env;theTreesLotGoes x)) _ _ s;refine wpAny_noted ?_;rw[compTurn_list];refine Ja (wpAny_standAt (Ja (Jf (turn n s hI _) (λr s₁ h₁=>?_) λ_ _ h'=>h')));cases r with
 | none=>exact Jd h₁
 | some v =>
  refine Ja (Jf h₁ (λ_ Zh mD=>?_) λ_ _ h'=>h');refine Ja (Jf mD (λ_ s₂ h₂=>Ja (Jf h₂ (λok s₃ h₃=>?_) λ_ _ h'=>h')) λ_ _ h'=>h');cases ok with
  | false=>exact Jd ⟨Y,h₃⟩
  | true =>
   exact Ja (Ja (Jf h₃ (λx s₄ h₄=>Ja (Jf h₄ (λ_ s₅ h₅=>Jd (Jd ⟨Y,h₅⟩)) λ_ _ h'=>h')) λ_ _ h'=>h'))
end
section
variable {X:Cx}{π:PL}{σ:St}{scope:Scope}{own η:LS}{js:LN}
theorem Gp.cells(c:Gp X scope own η js)(ok:X.Ok):∀ y∈scope.names,y.2=.free->∃ a,X.env.cells.lookup y.1≈a:=λy hy e=>by
 rcases c.fr y hy e with h | h
 ·exact ok.has y.1 (.inl h)
 ·exact ok.has y.1 (.inr h)
def Gp.cl(c:Gp X scope own η js)(ok:X.Ok){x:Str}{a:ε}(h:(CL X.env scope.names []).lookup x≈a):X.env.cells.lookup x≈a :=
 Qe scope.names [] x a (c.cells ok) (λ_ _ z=>by simp at z) h
def Gp.has(c:Gp X scope own η js){x:Str}(h:scope.names.lookup x≈.free):∃ a,(CL X.env scope.names []).lookup x≈a :=
 RC.mp (T4 scope.names [] x (Dz h))
theorem Gp.ok{s2:ω}{H2:Hp}{fp:τ}{C:ε}(c:Gp X scope own η js)(I:Inv X π σ H2 s2)(f2:∀ b∈fp,BH X π H2 b)(AW:∀ b∈fp,b<⇑s2)(hC:⇑s2<=C)(N:LS):
  (Dd X scope N C s2 H2 fp).Ok where
 mod:=I.ok.mod
 kind:=c.kind
 glob:=I.ok.glob
 blt:=I.ok.blt
 above:=hC
 inj:=λx y a h1 h2=>I.ok.inj x y a (c.cl I.ok h1) (c.cl I.ok h2)
 has:=λx h=>by
  have h':scope.names.lookup x≈.free\/scope.names.lookup x≈.cell:=Xu (env:=X.env) h
  rcases h' with h' | h'
  ·exact c.has h'
  ·exact absurd rfl (c.nocell _ (Dz h'))
 cab:=λx a h=>absurd (show false=true from h) Yq
 hd:=λh=>I.ok.hd h
 frames:=I.ok.frames
 stk:=.inl rfl
 exf:=λb hb=>⟨Yv (Yo (AW b hb) hC),λx a h=>(f2 b hb).2.2.2.2.1 x a (c.cl I.ok h)⟩
 bs:=I.bs
 bsz:=A8 I.ok.bsz I.sz
 noex:=λb o e hb=>by
  rcases(f2 b hb).2.2.2.1 with z | z
  ·exact I.ok.noex b o e z
  ·exact absurd (Yo (Yj e) (A8 I.ok.bsz z)) (F9 _)
 exfs:=λb hb z=>by
  rcases Yl.mp (I.stkSub b z)with e | e
  ·exact(f2 b hb).2.1 e
  ·exact(f2 b hb).2.2.1 e
 funs:=I.stack
 frf:=I.stkFree
def gI{s2:ω}{tg iter elt:Expr}{ifs:δ}{pos:Pos}{g:TG}{tt:TT}{te:TE}{Q:VK}{RR:χ->ε->Result->ω->Prop}{itv:χ}{E:EV}
  (c:Gp X scope own η js)
  (hg:∀ C s H fp,PG (Dd X scope (own++η) C s H fp) tg g) (ht:∀ C s H fp,Ma (Dd X scope (own++η) C s H fp) ifs tt) (he:∀ C s H fp,PE (Dd X scope (own++η) C s H fp) elt te)
  (h:VG X π σ tg (AU ↑own js g tt te σ Q) itv s2)
  (hR:∀ D C H' s',Inv X π σ H' s'->BH X π H' C->(∃ m,s'.heap.Ns C m)->Q (.ref D) H'->RR (.ref D) C (.ok .next) s'):
  wpAny (model X.prog X.w) X.A (newList []) (λacc s₃=>wpAny (model X.prog X.w) X.A (newFunctionEnv scope X.env.globals (CL X.env scope.names []) [] X.env.qual none .none (↥X.env)) (λcenv s₄ =>
   codeAny (model X.prog X.w) X.A (.compStart (.ListComp elt [⟨tg,iter,ifs,0⟩] scope pos) 0 itv acc {cenv with scope:=relabel scope X.env}) (RR acc cenv.locals) s₄) E s₃) E s2:=by
 obtain⟨it,fp,tn,J,H2,e,I2,T,FY,f2,hq⟩:=h;subst e;refine wpAny_newObj_type (wpAny_newFunctionEnv c.nocell (by intro y hy;simp at hy) (λh₁ hns₁ hsb₁=>?_) c.kind);dsimp only at hns₁ hsb₁ ⊢;generalize Le:s2.heap.push {cls:=.type "list",dict:=none,data:=.seq ([]:LU).toArray}=G2 at hns₁ hsb₁ ⊢;have hC:G2.objs.size=⇑s2 + 1:=by rw[<- Le,C4]
 have hDC:⇑s2≠G2.objs.size:=by rw[hC];exact Yv (Nat.lt_succ_self _)
 have hCle:⇑s2<=G2.objs.size:=by rw[hC];exact FU _
 have old:∀ b o,s2.heap.get? b≈o->h₁.get? b≈o:=λb o e=>by
  have hb:=Yj e;exact hsb₁.extBut b o (by rw[hC];exact Yv (Q_ hb)) (Yc _ (Le ▸ Yc _ e))
 have hD:H2 ⇑s2=none:=I2.hok.fresh (Yf _);have AW:∀ b∈fp,b<⇑s2:=λb hb=>by
  obtain⟨o,e,_⟩:=T.obj _ _ FY b hb;exact Yj e
 have FC:h₁.get? ⇑s2=some {cls:=.type "list",data:=.seq ([]:LU).toArray}:=hsb₁.extBut _ _ hDC (Yc _ (Le ▸ Ym _ rfl));obtain⟨W,⟨m0,w0⟩,turn⟩:=hq _ hD;have I0:∀ tk,Inv (Dd X scope (own++η) G2.objs.size s2 H2 fp) [] (Hz ↑own js σ) (upd H2 ⇑s2 (.lst [])) {s2 with heap:=h₁,toks:=tk}:=λtk=>by
  refine⟨c.ok I2 f2 AW hCle _,Y,I2.bare,Un.laid old (Yf _) hD,⟨_,hns₁,λi x v h1 h2 h3=>?_⟩,λx a h=>?_,?_,λx a h=>?_,λp hp=>absurd (show p∈([]:PL)from hp) (by simp),I2.hok.laid old (Yf _) ⟨BE _,[],0,.nil,FC⟩,?_⟩
  ·have hi:↑own<=i:=by
    by_cases hi:i<↑own
    ·unfold Hz at h2;rw[Og (by simpa using hi),YS]at h2;rw[if_pos hi]at h2;cases h2
    ·omega
   have hx:η[i - ↑own]?≈x:=by
    have El:(own++η)[i]?≈x:=h1
    rwa [Ku hi]at El
   have Pl:(js.map λj=>(σ[j]?).join)[i - ↑own]?≈(↥v):=by
    unfold Hz at h2;rw[Ku (by simpa using hi)]at h2;simpa using h2
   rw[Yh]at Pl;obtain⟨j,hj,hjv⟩:=Ip.mp Pl;have hs:=congrArg (λl=>l[i - ↑own]?) c.slots;rw[Yh,Yh,hj,hx]at hs;have hNj:X.N[j]?≈x:=BQ hs;have hσ:σ[j]?≈(↥v):=by
    cases q:σ[j]? with
    | none=>rw[q]at hjv;cases hjv
    | some o =>
     rw[q]at hjv;have:o≈v:=hjv;rw[this]
   have Aq:=c.fre x (Yd hx);have hXk:=c.fr (x,.free) (Dz Aq) rfl;obtain⟨m,hn,hl⟩:=I2.loc;have vis:RK X.env.scope x:=by rcases hXk with k | k;exact .inr (.inl k);exact .inr (.inr k)
   obtain⟨u,r,l⟩:=hl j x v hNj hσ vis;refine⟨u,r,.inr ⟨Xv (env:=X.env) Aq,?_⟩⟩
   rcases l with⟨hk,_⟩ | ⟨_,a,ha,hcell⟩
   ·rcases hXk with k | k
    ·have hk:X.env.scope.names.lookup x≈.local:=hk;rw[show X.env.scope.names.lookup x≈.cell from k]at hk;cases hk
    ·have hk:X.env.scope.names.lookup x≈.local:=hk;rw[show X.env.scope.names.lookup x≈.free from k]at hk;cases hk
   ·obtain⟨a',S4⟩:=c.has Aq;have e:=c.cl I2.ok S4;rw[ha]at e;cases e;obtain⟨o,ho,hd⟩:=hcell;exact⟨a,S4,o,old a o ho,hd⟩
  ·obtain⟨v,o,ho,hd⟩:=I2.cell x a (c.cl I2.ok h);exact⟨v,o,old a o ho,hd⟩
  ·show upd H2 ⇑s2 (.lst []) G2.objs.size=none;rw[AD (Yx hDC)];exact I2.hok.fresh hCle
  ·obtain⟨v,o,ho,hd⟩:=I2.cell x a (c.cl I2.ok h);rw[AD (Yv (Yj ho))];exact I2.freeC x a (c.cl I2.ok h)
  ·rw[cq,Bw];have:=congrArg List.length c.slots;rw[Ya,Ya]at this;omega
 have stat:∀ {H':Hp},(∀ b∈fp,H' b=none)->∀ b∈fp,BH (Dd X scope (own++η) G2.objs.size s2 H2 fp) [] H' b:=λ{H'} hn b hb=>by
  obtain⟨f0,f1,f3,f4,f5,f6⟩:=f2 b hb;refine⟨hn b hb,Yv (Yo (AW b hb) hCle),λz=>?_,.inl hb,λx a h=>f5 x a (c.cl I2.ok h),λp hp=>absurd (show p∈([]:PL)from hp) (by simp)⟩
  rcases Yl.mp (I2.stkSub b z)with e | e
  ·exact f1 e
  ·exact f3 e
 have loop:∀ s₃:ω,s₃={s2 with heap:=h₁,toks:=s2.toks + ↑([]:List (Str×χ))} ->
   codeAny (model X.prog X.w) X.A (.compLoop (.ListComp elt [⟨tg,iter,ifs,0⟩] scope pos) 0 (.ref it) (.ref ⇑s2) (compEnvC scope (CL X.env scope.names []) G2.objs.size X.env))
    (RR (.ref ⇑s2) G2.objs.size) s₃:=by
  rintro s₃ rfl;refine hY (λn s'=>∃ i ys σ' H',Inv (Dd X scope (own++η) G2.objs.size s2 H2 fp) [] σ' H' s'/\tn i s'.heap/\(∀ b∈fp,H' b=none)/\W i n ys σ' H') ?_ m0
   ⟨0,[],Q,I0 _,T.keep _ _ _ FY λb _ o e=>old b o e,λb hb=>by rw[AD (Yv (AW b hb))];exact(f2 b hb).1,w0⟩
  rintro n s3 ⟨i,ys,σ3,H3,I3,J5,FK,w3⟩ E'
  rcases turn i n ys σ3 H3 w3 with⟨stop,qn⟩ | ⟨go,hz,N,hN,step⟩
  ·refine AM (T.done (Dd X scope (own++η) G2.objs.size s2 H2 fp) rfl rfl rfl c.calm i [] s3 σ3 H3 E' I3 (stat FK) J5 stop) λr s4 ⟨hr,I4⟩=>?_;subst hr;have back:Inv X π σ H3 s4:=I2.call' (ch:=fp) I4.os I4.base I4.hok I4.bare λb hb=>⟨(f2 b hb).2.2.2.1,(f2 b hb).2.1,(f2 b hb).2.2.2.2.1,(f2 b hb).2.2.2.2.2⟩;exact hR _ _ H3 s4 back (I2.fpOk hCle I4.free) ⟨_,I4.loc.choose_spec.1⟩ qn
  ·refine AM (T.item (Dd X scope (own++η) G2.objs.size s2 H2 fp) rfl rfl rfl c.calm i [] s3 σ3 H3 E' I3 (stat FK) J5 go) λr s4 ⟨u,hr,h4⟩=>?_;subst hr;refine AM h4 λ_ s5 ⟨x,H5,I5,r5,y5,HA,HH⟩=>?_;have RX:=I5.pinned (stat HH) (T.obj _ _ HA);have nof:∀(e:χ) (s':ω),(Dd X scope (own++η) G2.objs.size s2 H2 fp).xe e s'->E' e s':=λ_ _ z=>False.elim z;refine Jf (hg _ _ _ _ _ s5 σ3 H5 x u _ RX r5 (step x H5 y5)) (λ_ s6 ⟨σ6,H6,I6,q6⟩=>?_) nof;refine Jf (ht _ _ _ _ _ s6 σ6 H6 _ I6 q6) (λb s7 ⟨H7,I7,q7⟩=>?_) nof;have again:∀ {σ7:St} {H7:Hp} {s7:ω} {LB:LV},Inv (Dd X scope (own++η) G2.objs.size s2 H2 fp) ([]++Nj fp s5.heap) σ7 H7 s7->N LB σ7 H7 ->
     ∃ m,m<n/\∃ i ys σ' H',Inv (Dd X scope (own++η) G2.objs.size s2 H2 fp) [] σ' H' s7/\tn i s7.heap/\(∀ b∈fp,H' b=none)/\W i m ys σ' H':=λ{σ7 H7 s7 LB} I7 n7=>by
    obtain⟨m',hm,w7⟩:=hN _ _ _ n7;refine⟨m',hm,i + 1,LB,σ7,H7,I7.unpinned,T.keep _ _ _ HA λb hb o e=>(I7.pin (b,o) (Yw _ (Yw _ (OB hb e)))).1,λb hb=>?_,w7⟩;obtain⟨o,e,d⟩:=T.obj _ _ HA b hb;exact(I7.pin (b,o) (Yw _ (Yw _ (OB hb e)))).2.1
   cases b with
   | false =>
    rw[if_neg Yq]at q7 ⊢;exact again I7 q7
   | true =>
    rw[if_pos rfl]at q7 ⊢;refine Jf (he _ _ _ _ _ s7 σ6 H7 _ I7 q7) (λv s8 ⟨y,H8,I8,r8,HG,w8⟩=>?_) nof;refine Jf (EF (X:=Dd X scope (own++η) G2.objs.size s2 H2 fp) _ s8 σ6 H8 (.ref ⇑s2) [y] (.ref ⇑s2) [v] (λ_ H9=>H9=upd H8 ⇑s2 (.lst (ys++[y]))) I8 rfl (.cons r8 .nil) ⟨_,ys,y,Y,Y,HG,hz,Y⟩) (λz s9 ⟨_,H9,I9,_,e9⟩=>?_) nof;subst e9;exact again I9 w8
 exact codeAny_compStart_list (loop _ rfl) (T.self X.A 0 _ _ _ (T.keep _ _ _ FY λb _ o e=>old b o e) (loop _ rfl))
end
section
variable {X:Cx}{scope:Scope}{own η:LS}{js:LN}{tg iter elt:Expr}{ifs:δ}{wi:TI}{g:TG}{tt:TT}{te:TE}{pos:Pos}
def jR(n:Nat)(js:LN)(wi:TI)(g:TG)(tt:TT)(te:TE):TE:=λσ H Q=>wi σ H (AU n js g tt te σ Q)
def BO(own η:LS)(js:LN)(hc:X.Ok->Gp X scope own η js)(hi:PI X tg iter wi)
  (hg:∀ C s H fp,PG (Dd X scope (own++η) C s H fp) tg g) (ht:∀ C s H fp,Ma (Dd X scope (own++η) C s H fp) ifs tt) (he:∀ C s H fp,PE (Dd X scope (own++η) C s H fp) elt te)
  (hs:∀ x,foldedSetIterable iter X.env x=pure x:=by intro _;rfl):
  PE X (.ListComp elt [⟨tg,iter,ifs,0⟩] scope pos) (jR ↑own js wi g tt te):=by
 ac_rfl;have c:=hc I.ok;rw[eval_ListComp];refine wpAny_comprehension_free (use:=none) rfl hs (Xn (c.cells I.ok)) c.kind c.locals (AM (hi π s σ H _ I h) λxv s₁ h₁=>AM h₁ λit s₂ h₂=>?_);refine gI (RR:=λacc C=>compPost (model X.prog X.w) X.A X.xe none (EP X π σ Q) acc C) c hg ht he h₂ λD C H' s' J F n q=>?_;obtain⟨m,hn⟩:=n;obtain⟨f0,f1,f2,f3,f4,f5⟩:=F;exact⟨m,hn,λh' Gf=>⟨.ref D,H',J.turned (t':=s'.toks) (λb o hb e=>Gf.extBut b o hb e) f0 f1 f3 f4 f5,Y,q⟩⟩
def pU(k n:Nat)(js:LN)(wi:TI)(g:TG)(tt:TT)(te:TE):TS:=λD σ H=>wi σ H (AU n js g tt te σ λv H1=>D.nx (σ.set k (↥v)) H1)
def L6{k:Nat}{y:Str}{py spos:Pos}(own η:LS)(js:LN)(hN:X.N.Nodup)(hk:X.N[k]?≈y)(hy:X.env.scope.names.lookup y≈.local)(hc:X.Ok->Gp X scope own η js)(hi:PI X tg iter wi)
  (hg:∀ C s H fp,PG (Dd X scope (own++η) C s H fp) tg g) (ht:∀ C s H fp,Ma (Dd X scope (own++η) C s H fp) ifs tt) (he:∀ C s H fp,PE (Dd X scope (own++η) C s H fp) elt te)
  (hsw:swapsWith (.ListComp elt [⟨tg,iter,ifs,0⟩] scope pos) (↥(.Name y py)) spos.line X.env=pure true:=by rfl)
  (hs:∀ x,foldedSetIterable iter X.env x=pure x:=by intro _;rfl):
  PS X (.Assign [.Name y py] (.ListComp elt [⟨tg,iter,ifs,0⟩] scope pos) spos) (pU k ↑own js wi g tt te):=by
 intro π s σ H D I h;have c:=hc I.ok;rw[exec_Assign_Name_used _ _ _ _ hsw];refine Ja (wpAny_standAt (Ja ?_));show wpAny _ X.A (do let _ <- comprehension (.ListComp elt [⟨tg,iter,ifs,0⟩] scope pos) scope X.env _ (newList []) false (eval iter X.env) (↥(assign (.Name y py) X.env))) _ _ s;refine Ja (Jf (wpAny_comprehension_free (use:=↥(assign (.Name y py) X.env)) (Q:=λ_ s'=>SP X π D .next s') rfl hs (Xn (c.cells I.ok)) c.kind c.locals
  (AM (hi π s σ H _ I h) λxv s₁ h₁=>AM h₁ λit s₂ h₂=>?_)) (λ_ s' hq=>Jd (Jd hq)) λ_ _ e=>e)
 refine gI (RR:=λacc C=>compPost (model X.prog X.w) X.A X.xe (↥(assign (.Name y py) X.env)) (λ_ s'=>SP X π D .next s') acc C) c hg ht he h₂ λA' C H' s' J F n q=>?_;obtain⟨m,hn⟩:=n;obtain⟨f0,f1,f2,f3,f4,f5⟩:=F;show wpAny _ X.A (assign (.Name y py) X.env (.ref A')) _ _ _;refine wpAny_assign_Name (f_ J hN hk (.inl hy) (v:=.ref A') rfl (λBy J' ⟨a,sb,ha⟩=>?_) (.inr hy));have BG:a≠C:=by
  rcases ha with e | e
  ·rw[e];exact Yx f1
  ·exact f4 y a e
 refine⟨m,hn.sameBut sb (Yx BG),λh' Gf=>⟨_,H',J'.turned (t':=By.toks) (λb o hb e=>Gf.extBut b o hb e) f0 f1 f3 f4 f5,q⟩⟩
end
def Kh{J:It}{xs:LV}{Ok:Hp->Prop}(R:Fs J xs Ok){n:Nat}{js:LN}{g:TG}{tt:TT}{te:TE}{σ:St}{Q:VK}{H1:Hp}(hz:↑xs<=sizeLine)
  (Pv:ε->Nat->LV->St->Hp->Prop) (h0:∀ D,H1 D=none->Pv D 0 [] (Hz n js σ) (upd H1 D (.lst [])))
  (hok:∀ D i ys σ' H,i<=↑xs->Pv D i ys σ' H->Ok H/\↑ys<=i)
  (hs:∀ D i x ys σ' H,H1 D=none->xs[i]?≈x->Pv D i ys σ' H->g x σ' H λσ3 H3=>tt σ3 H3 λb H4 =>
   if b=true then te σ3 H4 λv H5=>H5 D≈(.lst ys)/\Pv D (i + 1) (ys++[v]) σ3 (upd H5 D (.lst (ys++[v])))else Pv D (i + 1) ys σ3 H4)
  (hd:∀ D ys σ' H,H1 D=none->Pv D ↑xs ys σ' H->Q (.ref D) H):
  AU n js g tt te σ Q J H1:=by
 intro D hD;refine⟨λi m ys σ' H=>m=↑xs - i/\i<=↑xs/\Pv D i ys σ' H,⟨↑xs,by simp,BE _,h0 D hD⟩,?_⟩;rintro i m ys σ' H ⟨rfl,hi,p⟩;obtain⟨q,hy⟩:=hok D i ys σ' H hi p;by_cases AW:i<↑xs
 ·have hx:xs[i]?≈xs[i]:=by simp[AW]
  refine .inr ⟨R.go i _ H q hx,W,Pv D (i + 1),λLA σ3 H3 p3=>⟨↑xs - (i + 1),W,Y,AW,p3⟩,λx H' y=>?_⟩;obtain⟨e1,e2⟩:=R.yld i _ H x H' q hx y;rw[e2];exact hs D i x ys σ' H hD (by rw[e1];exact hx) p
 ·have e:i=↑xs:=by omega
  subst e;exact .inl ⟨R.stop H q,hd D ys σ' H hD p⟩
def Lz{J:It}{xs:LV}{Ok:Hp->Prop}(R:Fs J xs Ok){js:LN}{tt:TT}{te:TE}{σ:St}{Q:VK}{H1:Hp}(hz:↑xs<=sizeLine)(p:V->Bool)(f:V->V)
  (hok:∀ D ys,H1 D=none->Ok (upd H1 D (.lst ys)))
  (ht:∀ D ys x (R:Bool->Hp->Prop),H1 D=none->x∈xs->R (p x) (upd H1 D (.lst ys))->tt (↥x :: js.map λj=>(σ[j]?).join) (upd H1 D (.lst ys)) R)
  (he:∀ D ys x (R:V->Hp->Prop),H1 D=none->x∈xs->p x=true->R (f x) (upd H1 D (.lst ys))->te (↥x :: js.map λj=>(σ[j]?).join) (upd H1 D (.lst ys)) R)
  (hd:∀ D,H1 D=none->Q (.ref D) (upd H1 D (.lst ((xs.filter p).map f)))):
  AU 1 js (C_ 0) tt te σ Q J H1:=by
 refine Kh R hz (λD i ys σ' H=>H1 D=none/\ys=((xs.take i).filter p).map f/\(∃ o,σ'=o :: js.map λj=>(σ[j]?).join)/\H=upd H1 D (.lst ys)) ?_ ?_ ?_ ?_
 ·intro D hD;exact⟨hD,by simp,⟨none,Y⟩,Y⟩
 ·rintro D i ys σ' H hi ⟨hD,e,_,rfl⟩;refine⟨hok D ys hD,?_⟩;rw[e,Ya];exact A8 (Hg _ _) (by rw[BU];omega)
 ·rintro D i x ys σ' H hD hx ⟨_,e,⟨o,rfl⟩,rfl⟩;show tt (↥x :: js.map λj=>(σ[j]?).join) (upd H1 D (.lst ys)) _;have hm:x∈xs:=Yd hx;refine ht D ys x _ hD hm ?_;cases hp:p x with
  | true =>
   rw[if_pos rfl];refine he D ys x _ hD hm hp ⟨uS,hD,?_,⟨Z⟩,Np⟩;rw[take_succ_filter p xs i x hx,hp,BP,e];rfl
  | false =>
   rw[if_neg Yq];refine⟨hD,?_,⟨Z⟩,Y⟩;rw[take_succ_filter p xs i x hx,hp,BP,e];simp
 ·rintro D ys σ' H hD ⟨_,e,_,rfl⟩;rw[Dy]at e;rw[e];exact hd D hD
section
variable {X:Cx}
def eO{bs:List Bool}{ψ:LU}(r:AQ (bs.map V.bl) ψ):∀(i:Nat) (v:χ),ψ[i]?≈v->v=Value.bool (bs.getD i false):=λi v h=>by
 have hl:=↑r;rw[Ya]at hl;have hi:i<↑ψ:=(Ye.mp h).1;have hb:(bs.map V.bl)[i]?≈(V.bl (bs.getD i false)):=by
  rw[Yh,Yg];have:i<↑bs:=by omega
  simp[this]
 obtain⟨u,hu,ru⟩:=r.get hb;rw[h]at hu;cases hu;exact ru
def rA{bs:List Bool}:(List.range ↑bs).all (λi=>bs.getD i false)=bs.all id:=by
 rw[Im];simp only[Bv,CA,id];constructor
 ·intro h b hb;obtain⟨i,hi,e⟩:=Kx.mp hb;have:=h i hi;rw[Yg]at this;simpa[hi,e]using this
 ·intro h i hi;rw[Yg];simp only[Yb hi,Option.getD_some];exact h _ (K3 hi)
def rB{bs:List Bool}:(List.range ↑bs).any (λi=>bs.getD i false)=bs.any id:=by
 rw[Im];simp only[F8,CA,id];constructor
 ·rintro⟨i,hi,e⟩;rw[Yg]at e;simp only[Yb hi,Option.getD_some]at e;exact⟨_,K3 hi,e⟩
 ·rintro⟨b,hb,e⟩;obtain⟨i,hi,e'⟩:=Kx.mp hb;refine⟨i,hi,?_⟩;rw[Yg];simp only[Yb hi,Option.getD_some];rw[e',e]
def HM(K:Fg)(f:List Bool->Bool):LV->Hp->VK->Prop:=λxs H Q=>∃ a bs,xs=[.ref a]/\SqL K H a (bs.map V.bl)/\Q (.bl (f bs)) H
def Kc(hc:X.calm=true):FN X (.builtin "all") (HM X.K λbs=>bs.all id):=by
 intro π s σ H xs us Q I r h;obtain⟨a,bs,rfl,ha,q⟩:=h;obtain⟨u,rfl,ru⟩:=F0 r;cases ru;obtain⟨ψ,rv,p,hz⟩:=I.list ha;have hl:=↑rv;rw[Ya]at hl;refine call_all_walk (wpAny_pyIter_list p.isList ?_);have BG:a≠⇑s:=by
  obtain⟨o,ho,_⟩:=p.isList;exact Yv (Yj ho)
 refine⟨⇑s,Q,Q,_,λi=>bs.getD i false,Y,Walks.list (A:=X.A.in1) (I.ok.hd hc) ⇑s a BG ψ.toArray,⟨⟨_,Ym _ rfl,Y,Y⟩,?_⟩,?_,?_⟩
 ·obtain⟨o,ho,r'⟩:=p.isList;exact⟨o,Yc _ ho,r'⟩
 ·intro i v s' Q' E' hv hq;have e:=eO rv i v (by simpa using hv);subst e;exact Jh hq
 ·intro h' tk hk;refine⟨.bl (bs.all id),H,I.kept λb o e=>hk b o ?_ (Yc _ e),?_,q⟩
  ·have hb:=Yj e;intro z;have z':b=⇑s:=by simpa using z
   exact Yv hb z'
  ·have:ψ.toArray.size=↑bs:=by simp[hl]
   rw[this,rA];rfl
def QJ(hc:X.calm=true):FN X (.builtin "any") (HM X.K λbs=>bs.any id):=by
 intro π s σ H xs us Q I r h;obtain⟨a,bs,rfl,ha,q⟩:=h;obtain⟨u,rfl,ru⟩:=F0 r;cases ru;obtain⟨ψ,rv,p,hz⟩:=I.list ha;have hl:=↑rv;rw[Ya]at hl;refine call_any_walk (wpAny_pyIter_list p.isList ?_);have BG:a≠⇑s:=by
  obtain⟨o,ho,_⟩:=p.isList;exact Yv (Yj ho)
 refine⟨⇑s,Q,Q,_,λi=>bs.getD i false,Y,Walks.list (A:=X.A.in1) (I.ok.hd hc) ⇑s a BG ψ.toArray,⟨⟨_,Ym _ rfl,Y,Y⟩,?_⟩,?_,?_⟩
 ·obtain⟨o,ho,r'⟩:=p.isList;exact⟨o,Yc _ ho,r'⟩
 ·intro i v s' Q' E' hv hq;have e:=eO rv i v (by simpa using hv);subst e;exact Jh hq
 ·intro h' tk hk;refine⟨.bl (bs.any id),H,I.kept λb o e=>hk b o ?_ (Yc _ e),?_,q⟩
  ·have hb:=Yj e;intro z;have z':b=⇑s:=by simpa using z
   exact Yv hb z'
  ·have:ψ.toArray.size=↑bs:=by simp[hl]
   rw[this,rB];rfl
def u4(i j:Int):Prop:=Builtin.Int.intBits i<=2 ^ 20/\Builtin.Int.intBits j<=2 ^ 20
def Wt:BV X (binaryOp .Mult) (rI u4 λi j=>.int (i * j)):=M_ λ_ _ _ _ _ _ _ hc q=>mul_int q (IntMulOk.of_bits hc.1 hc.2)
def u3(i j:Int):Prop:=0<j/\j<4611686018427387904
def p6:BV X (binaryOp .FloorDiv) (rI u3 λi j=>.int (i / j)):=M_ λi j _ _ _ _ _ hc q=>by
 have h1:(0:Int)<j:=hc.1;have h2:j<4611686018427387904:=hc.2;refine floordiv_int (by omega) (by rw[Int.fdiv_eq_ediv_of_nonneg i (by omega)];exact q) (.inl (PyProof.noPylong_of_log2 ?_));have h3:j.natAbs.log2<62:=(Nat.log2_lt (by omega)).mpr (by omega);omega
def zH:V->Option Int->Option Int->Hp->VK->Prop:=λx lo hi H Q=>∃ z,x=.str z/\↑z<=sizeLine/\Q (.str (Txt.slice z lo hi)) H
def Wc:RM X zH:=by
 intro π s σ H x v vl vu lo hi sl Q I rx hs pl pu h;obtain⟨z,rfl,hz,q⟩:=h;obtain⟨t,rfl⟩:=rx;refine⟨"str",_,F.slot_str_getitem.lookup,typeIs_str _ _ _,?_⟩;have fin:∀ t' k,EP X π σ Q (.str (Txt.slice z lo hi) t') {s with toks:=k}:=λt' k=>⟨.str _,H,I.tok _,⟨Z⟩,q⟩;have hsz:=A8 (Txt.slice_le z lo hi) hz;obtain⟨o,h1,h2,h3⟩:=hs;cases pl with
 | none =>
  cases pu with
  | none=>exact wpAny_getItem_str_slice (l:=none) (u:=none) (st:=none) ⟨o,h1,h2,h3⟩ rfl (post_val_or_str ⟨hsz,fin⟩)
  | int j uj=>exact wpAny_getItem_str_slice (l:=none) (u:=↥(j,uj)) (st:=none) ⟨o,h1,h2,h3⟩ rfl (post_val_or_str ⟨hsz,fin⟩)
 | int i ui =>
  cases pu with
  | none=>exact wpAny_getItem_str_slice (l:=↥(i,ui)) (u:=none) (st:=none) ⟨o,h1,h2,h3⟩ rfl (post_val_or_str ⟨hsz,fin⟩)
  | int j uj=>exact wpAny_getItem_str_slice (l:=↥(i,ui)) (u:=↥(j,uj)) (st:=none) ⟨o,h1,h2,h3⟩ rfl (post_val_or_str ⟨hsz,fin⟩)
def iW(K:Fg):LV->Hp->VK->Prop:=λxs H Q=>∃ x n t b,xs=[x,.ty n]/\Fu K H x t/\W.kitOne K t (.type n)≈b/\Q (.bl b) H
def Kd:FN X (.builtin "isinstance") (iW X.K):=by
 intro π s σ H xs us Q I r h;obtain⟨x,n,t,b,rfl,ty,e,q⟩:=h;obtain⟨u,w',rfl,r1,r2⟩:=YO r;cases r2;exact qq I r1 ty e λtk=>⟨.bl b,H,I.tok _,Y,q⟩
end
def jH(osc:Scope)(on:LS)(scope:Scope)(η:LS)(js:LN):Bool :=
 (scope.kind == .function)&&scope.names.all (λy=>y.2 != .cell)&&scope.names.all (λy=>y.2 != .local || scope.names.lookup y.1 == ↥.local) &&
 scope.names.all (λy=>y.2 != .free || (osc.names.lookup y.1 == ↥.cell || osc.names.lookup y.1 == ↥.free))&&η.all (λx=>scope.names.lookup x == ↥.free)&&decide (js.map (λj=>on[j]?)=η.map some)
def A3{X:Cx}{osc scope:Scope}{on own η:LS}{js:LN}(h:jH osc on scope η js=true)(h1:X.env.scope=osc)(h2:X.N=on)(h3:X.calm=true):Gp X scope own η js:=by
 subst h1;subst h2;unfold jH at h;simp only[EI,Bv,decide_eq_true_eq,Bool.or_eq_true,bne_iff_ne,beq_iff_eq,ne_eq]at h;obtain⟨⟨⟨⟨⟨a,b⟩,c⟩,d⟩,e⟩,f⟩:=h;exact⟨h3,a,b,λy hy z=>(c y hy).resolve_left (λq=>q z),λy hy z=>(d y hy).resolve_left (λq=>q z),e,f⟩
def Uw(t u:TS):TS:=λD σ H=>∃ M:SW,t {D with nx:=M} σ H/\∀ σ' H',M σ' H'->u D σ' H'
def Ka{X:Cx}{st:Stmt}{Ay:List Stmt}{t u:TS}(h1:PS X st t)(h2:CB X Ay u):CB X (st :: Ay) (Uw t u):=by
 intro π s σ H D I h;obtain⟨M,h,hM⟩:=h;refine wpAny_execs_cons (AM (h1 π s σ H {D with nx:=M} I h) λf s1 q=>?_);cases f with
 | next =>
  obtain⟨σ',H',I',q⟩:=q;exact h2 π s1 σ' H' D I' (hM _ _ q)
 | ret v=>exact q
 | brk=>exact q
 | cont=>exact q
structure Def(K:Fg)(mg:Str->OU)(x:Str)(st:Stmt)(ps:LS)(f:ε)(fd:FuncData):Prop where
 fn:Bj K x x st f fd
 b:C1 K fd ps []
 m:mg x≈(.ref f)
def AO{X:Cx}{k:Nat}{ps:LS}{sp:Sp}{x:Str}{st:Stmt}{p pos:Pos}{e:Expr}{es:δ}{t:TA}(d:Def X.K X.mg x st ps f fd)(F:Bi X.prog X.w X.K X.mg X.base Ir k f fd ps sp)(hr:AV k X.A)
  (ha:PA X (e :: es) t) (hg:Gl X x:=by rfl) (hdb:(x == ("__debug__":Str))=false:=by decide) (he:starEach (e :: es) X.env=(false,eval e X.env):: starEach es X.env:=by rfl) (hpl:(backTo pos (starEach es X.env)).any (·.1)=false:=by rfl):
  PE X (.Call (.Name x p) (e :: es) [] pos) (jQ sp [] E0 t):=QB F hr hg d.m d.fn.kp d.b .nil BS ha hdb he hpl
def sL{n:Nat}(h:n<=100000):n<=sizeLine:=by rw[sizeLine_eq];omega
end L2
namespace L2
open PySem PySem.Spec PyProof.Rows PySem.W
mutual
inductive Rep(K:Fg)(H:Hp):V->Dat->Prop
 | none:Rep K H .non .none
 | bool (b:Bool):Rep K H (.bl b) (.bool b)
 | int (i:Int):Rep K H (.int i) (.int i)
 | str (x:Str):Rep K H (.str x) (.str x)
 | tuple {a:ε} {xs:LV} {ds:List Dat}:AH K H a xs->Ar K H xs ds->Rep K H (.ref a) (.tuple ds)
 | list {a:ε} {xs:LV} {ds:List Dat}:SqL K H a xs->Ar K H xs ds->Rep K H (.ref a) (.list ds)
inductive Ar(K:Fg)(H:Hp):LV->List Dat->Prop
 | nil:Ar K H [] []
 | cons {v:V} {vs:LV} {d:Dat} {ds:List Dat}:Rep K H v d->Ar K H vs ds->Ar K H (v :: vs) (d :: ds)
end
def AA.tup{K:Fg}{H H':Hp}{a:ε}{xs:LV}(e:AA H H')(h:AH K H a xs):AH K H' a xs:=by
 rcases h with(h | ⟨o,h⟩) | h
 ·exact .inl (.inl (e _ _ h))
 ·exact .inl (.inr ⟨o,e _ _ h⟩)
 ·exact .inr h
mutual
theorem Rep.mono{K:Fg}{H H':Hp}(e:AA H H'):∀ {v:V}{d:Dat},Rep K H v d->Rep K H' v d
 | _,_,.none=>.none
 | _,_,.bool b=>.bool b
 | _,_,.int i=>.int i
 | _,_,.str x=>.str x
 | _,_,.tuple h r=>.tuple (e.tup h) (Ar.mono e r)
 | _,_,.list h r=>.list (e.seq h) (Ar.mono e r)
theorem Ar.mono{K:Fg}{H H':Hp}(e:AA H H'):∀ {vs:LV}{ds:List Dat},Ar K H vs ds->Ar K H' vs ds
 | _,_,.nil=>.nil
 | _,_,.cons h r=>.cons (Rep.mono e h) (Ar.mono e r)
end
section
variable {X:Cx}{π:PL}{σ:St}{H:Hp}{s:ω}
mutual
theorem Rep.reads(I:Inv X π σ H s):∀ {v:V}{d:Dat}{u:χ},Rep X.K H v d->AZ v u->∃ as,Reads s.heap u (kqdP d) as
 | _,_,_,.none,r=>by cases(show _=Value.none from r);rw[kqdP];exact⟨_,Reads.none⟩
 | _,_,_,.bool b,r=>by cases(show _=Value.bool b from r);rw[kqdP];exact⟨_,Reads.bool b⟩
 | _,_,_,.int i,r=>by obtain⟨t,e⟩:=(show ∃ t,_=Value.int i t from r);cases e;rw[kqdP];exact⟨_,Reads.int i t⟩
 | _,_,_,.str x,r=>by obtain⟨t,e⟩:=(show ∃ t,_=Value.str x t from r);cases e;rw[kqdP];exact⟨_,Reads.str x t⟩
 | _,_,_,.tuple (a:=a) h q,r=>by
  cases(show _=Value.ref a from r);obtain⟨ψ,rv,⟨o,e,c,n,d⟩,_⟩:=I.tuple h;obtain⟨as,p⟩:=Ar.reads I q rv;rw[kqdP];exact⟨as,reads_tuple_at e c d (by simpa using p)⟩
 | _,_,_,.list (a:=a) h q,r=>by
  cases(show _=Value.ref a from r);obtain⟨ψ,rv,⟨o,n,e,c,_,d⟩,_⟩:=I.list h;obtain⟨as,p⟩:=Ar.reads I q rv;rw[kqdP];exact⟨_,reads_list_at e c d (by simpa using p)⟩
theorem Ar.reads(I:Inv X π σ H s):∀ {vs:LV}{ds:List Dat}{us:LU},Ar X.K H vs ds->AQ vs us->∃ as,ReadsAll s.heap us (kqdPs ds) as
 | _,_,_,.nil,r=>by cases r;rw[kqdPs];exact⟨_,ReadsAll.nil⟩
 | _,_,_,.cons h q,r=>by
  cases r with
  | cons r1 r2 =>
   obtain⟨as,p⟩:=Rep.reads I h r1;obtain⟨bs,t⟩:=Ar.reads I q r2;rw[kqdPs];exact⟨_,ReadsAll.cons p t⟩
end
end
def C8(d e:Dat):Bool:=@decide (d=e) (Classical.propDecidable _)
def Ey(d:Dat):C8 d d=true:=by unfold C8;exact @Jb _ (Classical.propDecidable _) rfl
def xN{d e:Dat}(h:d=e):C8 d e=true:=by rw[h];exact Ey e
def IV{d e:Dat}(h:d≠e):C8 d e=false:=by unfold C8;exact @Jc _ (Classical.propDecidable _) h
def Tn{d e:Dat}{n k:Nat}(h1:kqdOk n d=true)(h2:kqdOk k e=true):PyData.eqv (kqdP d) (kqdP e)=C8 d e:=by
 have q:=kqd_eqv n d e k h1 h2;by_cases h:d=e
 ·rw[xN h];exact q.mpr h
 ·rw[IV h];exact Bool.eq_false_iff.mpr λx=>h (q.mp x)
def JU{d:Dat}(h:kqdOk 9 d=true):SeqAt.shaped (kqdP d)=true:=by
 have l:=kqd_lay 9 d h;unfold SeqAt.shaped;rw[l.1,MX];exact Jb (A8 l.2 (by decide))
section
variable {X:Cx}
def iV(K:Fg)(f:Bool->Bool):R2:=λx y H Q=>∃ d e,Rep K H x d/\Rep K H y e/\kqdOk 9 d=true/\kqdOk 9 e=true/\Q (.bl (f (C8 d e))) H
def wO(hu:X.A.units + 64<cLine):BV X (compareOp .Eq) (iV X.K id):=by
 exfalso;obtain⟨d,e,h1,h2,k1,k2,q⟩:=h;obtain⟨as,ra⟩:=h1.reads I rx;obtain⟨bs,rb⟩:=h2.reads I ry;exact eq_dataH ra rb (JU k1) (JU k2) hu (BI I q (by rw[Tn k1 k2];rfl))
def IT(hu:X.A.units + 64<cLine):BV X (compareOp .NotEq) (iV X.K Bool.not):=by
 exfalso;obtain⟨d,e,h1,h2,k1,k2,q⟩:=h;obtain⟨as,ra⟩:=h1.reads I rx;obtain⟨bs,rb⟩:=h2.reads I ry;exact ne_dataH ra rb (JU k1) (JU k2) hu (BI I q (by rw[Tn k1 k2]))
end
end L2
namespace L2
open PySem PySem.Spec PyProof.Rows
section
variable {X:Cx}{π:PL}{σ:St}{H H':Hp}{s:ω}{a:ε}{ν:KL}{o:Obj}
def Inv.reH(I:Inv X π σ H s)(base:Un X.fs X.ex X.H₀ H' X.s₀.heap s.heap)(hn:∀ b,H b=none->H' b=none)(hok:BK X.prog X.w H' s.heap):Inv X π σ H' s :=
 ⟨I.ok,I.os,I.bare,base,I.loc,I.cell,hn _ I.free,λx c e=>hn _ (I.freeC x c e),λp hp=>by
  obtain⟨e,n,r⟩:=I.pin p hp;exact⟨e,hn _ n,r⟩,hok,I.len⟩
def Inv.reAt{u u':HO}(I:Inv X π σ H s)(h:H a≈u)(nt:∀ xs,u≠.tup xs)(no:∀ y,u≠.own y)(nb:∀ ps,u≠.tbl ps)(nf:∀ o v,X.H₀ a≠some (.frz o v))
  (ok:A7 X.prog X.w H s.heap a u->A7 X.prog X.w (upd H a u') s.heap a u'):Inv X π σ (upd H a u') s:=by
 have hn:∀ b,H b=none->upd H a u' b=none:=λb e=>by
  rw[AD]
  ·exact e
  ·rintro rfl;rw[h]at e;cases e
 refine I.reH ⟨I.base.keep,I.base.slot,λb ob e n hx=>hn b (I.base.free b ob e n hx),I.base.there,λb xs e=>?_,λb ob v e=>?_,λb ps e=>?_⟩ hn ?_
 ·have q:=I.base.tups b xs e;rw[AD]
  ·exact q
  ·rintro rfl;rw[h]at q;exact nt xs (BQ q)
 ·have q:=I.base.frzs b ob v e;rw[AD]
  ·exact q
  ·rintro rfl;exact nf ob v e
 ·obtain⟨m,q⟩:=I.base.tbls b ps e;refine⟨m,?_⟩;rw[AD]
  ·exact q
  ·rintro rfl;rw[h]at q;exact nb _ (BQ q)
 ·intro b v e;by_cases hb:b=a
  ·subst hb;rw[uS]at e;cases e;exact ok (I.hok b u h)
  ·rw[AD hb]at e;refine(I.hok b v e).stay (λ_ _ _ q=>q) (λc q=>?_) λc xs q=>?_
   ·rw[AD]
    ·exact q
    ·rintro rfl;rw[h]at q;exact no _ (BQ q)
   ·rw[AD]
    ·exact q
    ·rintro rfl;rw[h]at q;exact nt _ (BQ q)
def Inv.freeze(I:Inv X π σ H s)(h:H a≈(.dK ν))(ho:s.heap.get? a≈o):Inv X π σ (upd H a (.frz o (.dK ν))) s/\∀ o' v,X.H₀ a≠some (.frz o' v):=by
 have nf:∀ o' v,X.H₀ a≠some (.frz o' v):=λo' v e=>by
  have q:=I.base.frzs a o' v e;rw[h]at q;cases q
 refine⟨I.reAt h (λ_ z=>nomatch z) (λ_ z=>nomatch z) (λ_ z=>nomatch z) nf λk=>⟨ho,k.stay (λ_ _ _ q=>q) (λc q=>?_) λc xs q=>?_⟩,nf⟩
 ·rw[AD]
  ·exact q
  ·rintro rfl;rw[h]at q;cases q
 ·rw[AD]
  ·exact q
  ·rintro rfl;rw[h]at q;cases q
def jz{P:Γ}{w:World}{k:Key}{u:χ}(h:(Cu P w).is k u=true):AZ (kV k) u:=by
 rcases Ij (show Lj k u=true from h)with⟨i,t,rfl,rfl⟩ | ⟨x,t,rfl,rfl⟩
 ·exact⟨t,Y⟩
 ·exact⟨t,Y⟩
end
def Y5(a:ε)(o:Obj)(ν:KL):It :=
 ⟨λi H=>i<↑ν/\H a≈(.frz o (.dK ν)),λi H v H'=>H'=H/\∃ p,ν[i]?≈p/\v=kV p.1,λi H=>↑ν<=i/\H a≈(.frz o (.dK ν))⟩
def Y4(a:ε)(o:Obj)(ν:KL):It :=
 ⟨λi H=>i<↑ν/\H a≈(.frz o (.dK ν)),λi H v H'=>H'=H/\∃ p,ν[i]?≈p/\v=p.2,λi H=>↑ν<=i/\H a≈(.frz o (.dK ν))⟩
theorem KV.get{κ:Type}:∀ {ν:List (κ×V)}{vs:List (κ×χ)},KV ν vs->∀ {i:Nat}{p:κ×V},ν[i]?≈p->∃ u,vs[i]?≈(p.1,u)/\AZ p.2 u
 | _,_,.nil,i,p,h=>by simp at h
 | _,_,.cons r t,0,p,h=>by
  simp at h;subst h;exact⟨_,by simp[r.1],r.2⟩
 | _,_,.cons r t,i + 1,p,h=>by
  obtain⟨u,h1,h2⟩:=KV.get t (i:=i) (p:=p) (by simpa using h);exact⟨u,by simpa using h1,h2⟩
def Nr{P:Γ}{w:World}{H:Hp}{h:Heap}{a:ε}{o:Obj}{ν:KL}{es:Array DictEntry}{ep:Nat}(ok:A7 P w H h a (.frz o (.dK ν)))(hd:o.data=.dict es ep):
  (a == sysModules)=false/\∃ vs,KV ν vs/\h.DictAt (Cu P w) a vs ep:=by
 obtain⟨ho,z,hs,vs,r,o',NO,NP,h1,h2,h3,h4,h5,h6⟩:=ok;rw[ho]at h1;cases h1;rw[hd]at h3;cases h3;exact⟨hs,vs,r,o,es,ho,h2,hd,h4,h5,h6⟩
def rR{P:Γ}{w:World}{K:Fg}{tg:Expr}(a it:ε)(o:Obj)(ν:KL)(es:Array DictEntry)(ep:Nat)(hd:o.data=.dict es ep):
  Ft P w K tg (Y5 a o ν) [it] it (λi h=>h.IsKeyIter it a i ↑ν ep) where
 mem:=by simp
 obj:=λi h st b hb=>by
  have e:b=it:=by simpa using hb
  subst e;obtain⟨o,e,c,d⟩:=st;exact⟨o,e,λv z=>by rw[d]at z;cases z⟩
 keep:=λi h h' st k=>by
  obtain⟨o,ho,r⟩:=st;exact⟨o,k it (by simp) o ho,r⟩
 item:=by
  intro X hP hw hK hc i π s σ H E I hf st hg;subst hP hw hK;obtain⟨f0,f1,f2,f3,f4,f5⟩:=hf it (by simp);obtain⟨hi,ha⟩:=hg;obtain⟨_,vs,r,dd⟩:=Nr (I.hok a _ ha) hd;obtain⟨p,hp⟩:∃ p,ν[i]?≈p:=⟨ν[i],by simp[hi]⟩;obtain⟨u,hu,ru⟩:=r.get hp;have hl:↑ν=↑vs:=A_ r;rw[hl]at st;refine wpAny_pyNext_dict_item st dd hu λkey h' hk A1 sb=>?_;have I1:Inv X π σ H {s with heap:=h' }:=I.turned (t':=s.toks) (λb o hb e=>(sb.2 b hb).trans e) f0 f1 f3 f4 f5;obtain⟨o',e,c,d⟩:=id A1;rw[<- hl]at A1;exact⟨key,Y,NX (s:={s with heap:=h' }) e c d (by decide) ⟨kV p.1,H,I1,jz hk,⟨Y,p,hp,Y⟩,A1,λb hb=>(hf b hb).1⟩⟩
 done:=by
  intro X hP hw hK hc i π s σ H E I hf st hg;subst hP hw hK;obtain⟨f0,f1,f2,f3,f4,f5⟩:=hf it (by simp);obtain⟨hi,ha⟩:=hg;obtain⟨_,vs,r,dd⟩:=Nr (I.hok a _ ha) hd;have hl:↑ν=↑vs:=A_ r;rw[hl]at st;exact wpAny_pyNext_dict_end (I.ok.hd hc) st dd (by simp;omega) λh' eb=>⟨Y,I.turned (t':=s.toks) (λb o hb e=>eb b o hb e) f0 f1 f3 f4 f5⟩
 self:=λ_ _ _ _ _ st h=>wpAny_pyIter_keyiter st h
def rS{P:Γ}{w:World}{K:Fg}{tg:Expr}(a it:ε)(o:Obj)(ν:KL)(es:Array DictEntry)(ep:Nat)(hd:o.data=.dict es ep):
  Ft P w K tg (Y4 a o ν) [it] it (λi h=>h.IsValIter it a i ↑ν ep) where
 mem:=by simp
 obj:=λi h st b hb=>by
  have e:b=it:=by simpa using hb
  subst e;obtain⟨o,e,c,d⟩:=st;exact⟨o,e,λv z=>by rw[d]at z;cases z⟩
 keep:=λi h h' st k=>by
  obtain⟨o,ho,r⟩:=st;exact⟨o,k it (by simp) o ho,r⟩
 item:=by
  intro X hP hw hK hc i π s σ H E I hf st hg;subst hP hw hK;obtain⟨f0,f1,f2,f3,f4,f5⟩:=hf it (by simp);obtain⟨hi,ha⟩:=hg;obtain⟨_,vs,r,dd⟩:=Nr (I.hok a _ ha) hd;obtain⟨p,hp⟩:∃ p,ν[i]?≈p:=⟨ν[i],by simp[hi]⟩;obtain⟨u,hu,ru⟩:=r.get hp;have hl:↑ν=↑vs:=A_ r;rw[hl]at st;refine wpAny_pyNext_values_item st dd hu λh' A1 sb=>?_;have I1:Inv X π σ H {s with heap:=h' }:=I.turned (t':=s.toks) (λb o hb e=>(sb.2 b hb).trans e) f0 f1 f3 f4 f5;obtain⟨o',e,c,d⟩:=id A1;rw[<- hl]at A1;exact⟨u,Y,NX (s:={s with heap:=h' }) e c d (by decide) ⟨p.2,H,I1,ru,⟨Y,p,hp,Y⟩,A1,λb hb=>(hf b hb).1⟩⟩
 done:=by
  intro X hP hw hK hc i π s σ H E I hf st hg;subst hP hw hK;obtain⟨f0,f1,f2,f3,f4,f5⟩:=hf it (by simp);obtain⟨hi,ha⟩:=hg;obtain⟨_,vs,r,dd⟩:=Nr (I.hok a _ ha) hd;have hl:↑ν=↑vs:=A_ r;rw[hl]at st;exact wpAny_pyNext_values_end (I.ok.hd hc) st dd (by simp;omega) λh' eb=>⟨Y,I.turned (t':=s.toks) (λb o hb e=>eb b o hb e) f0 f1 f3 f4 f5⟩
 self:=λ_ _ _ _ _ st h=>wpAny_pyIter_valiter st h
def uu(t:TS):TS:=λD σ H=>∃ a ν,H a≈(.dK ν)/\∀ o,t D σ (upd H a (.frz o (.dK ν)))
def Ww{X:Cx}{sts:List Stmt}{t:TS}(h:CB X sts t):CB X sts (uu t):=by
 intro π s σ H D I q;obtain⟨a,ν,ha,q⟩:=q;obtain⟨o,ho⟩:∃ o,s.heap.get? a≈o:=by
  obtain⟨_,_,vs,_,o,_,_,e,_⟩:=I.hok a _ ha;exact⟨o,e⟩
 exact h π s σ _ D (I.freeze ha ho).1 (q o)
def dc{P:Γ}{w:World}{H:Hp}{h:Heap}{a:ε}{o:Obj}{ν:KL}(ok:A7 P w H h a (.frz o (.dK ν))):∃ es ep,o.data=.dict es ep:=by
 obtain⟨ho,z,hs,vs,r,o',NO,NP,h1,h2,h3,_⟩:=ok;rw[ho]at h1;cases h1;exact⟨NO,NP,h3⟩
def fQ{a:ε}{o:Obj}{ν:KL}:Fs (Y5 a o ν) (ν.map λp=>kV p.1) (λH=>H a≈(.frz o (.dK ν))) where
 go:=λi x H ok hx=>by
  have:=(Ye.mp hx).1;rw[Ya]at this;exact⟨this,ok⟩
 yld:=λi x H y H' ok hx h=>by
  obtain⟨e,p,hp,hy⟩:=h;rw[Yh,hp]at hx;exact⟨hy.trans (BQ hx),e⟩
 stop:=λH ok=>⟨by rw[Ya];exact Yf _,ok⟩
def rE{a:ε}{o:Obj}{ν:KL}:Fs (Y4 a o ν) (ν.map λp=>p.2) (λH=>H a≈(.frz o (.dK ν))) where
 go:=λi x H ok hx=>by
  have:=(Ye.mp hx).1;rw[Ya]at this;exact⟨this,ok⟩
 yld:=λi x H y H' ok hx h=>by
  obtain⟨e,p,hp,hy⟩:=h;rw[Yh,hp]at hx;exact⟨hy.trans (BQ hx),e⟩
 stop:=λH ok=>⟨by rw[Ya];exact Yf _,ok⟩
section
variable {X:Cx}{tg:Expr}
def vb(tl:TE):TI:=λσ H R=>tl σ H λx H1=>∃ a o ν,x=.ref a/\H1 a≈(.frz o (.dK ν))/\R (Y5 a o ν) H1
def cJ{l:Expr}{tl:TE}(hl:PE X l tl):PI X tg l (vb tl):=by
 intro π s σ H R I h;refine AM (hl π s σ H _ I h) λv s1 ⟨x,H1,I1,r1,q1⟩=>?_;obtain⟨a,o,ν,e,ha,q⟩:=q1;subst e;cases r1;obtain⟨es,ep,hd⟩:=dc (I1.hok a _ ha);obtain⟨hs,vs,r,dd⟩:=Nr (I1.hok a _ ha) hd;have hl:↑ν=↑vs:=A_ r;refine wpAny_pyIter_dict hs dd ?_;refine⟨⇑s1,[⇑s1],Q,H1,Y,I1.kept (t':=s1.toks) λb o e=>Yc _ e,rR a _ o ν es ep hd,⟨_,Ym _ rfl,Y,by rw[hl];rfl⟩,λb hb=>?_,q⟩;have e:b=⇑s1:=by simpa using hb
 subst e;exact I1.fpOk (Yf _) (I1.hok.fresh (Yf _))
end
def uF{n:Nat}(h:n<=10000000):n<=sizeLine:=by rw[sizeLine_eq];omega
theorem Tv:∀ {xs:LV}{us:LU},↑xs=↑us->(∀(i:Nat) (v:V) (u:χ),xs[i]?≈v->us[i]?≈u->AZ v u)->AQ xs us
 | [],[],_,_=>.nil
 | [],_ :: _,h,_=>by simp at h
 | _ :: _,[],h,_=>by simp at h
 | x :: xs,u :: us,h,k=>.cons (k 0 x u rfl rfl) (Tv (by simpa using h) λi v w hv hw=>k (i + 1) v w (by simpa using hv) (by simpa using hw))
def T5{J:It}{xs:LV}{Ok:Hp->Prop}(R:Fs J xs Ok){js:LN}{tt:TT}{te:TE}{σ:St}{Q:VK}{H1:Hp}(hz:↑xs<=sizeLine)(p:V->Bool)(F:ε->V->V->Hp->Prop)
  (hF:∀ D x v H H',(∀ b o,b≠D->H b≈o->H' b≈o)->F D x v H->F D x v H')
  (hok:∀ H,AA H1 H->Ok H)
  (ht:∀ x H (R:Bool->Hp->Prop),AA H1 H->x∈xs->(∀ H',AA H H'->R (p x) H')->tt (↥x :: js.map λj=>(σ[j]?).join) H R)
  (he:∀ D x H (R:V->Hp->Prop),AA H1 H->(∃ ys,H D≈(.lst ys))->H1 D=none->x∈xs->p x=true->(∀ v H',AA H H'->F D x v H'->R v H')->te (↥x :: js.map λj=>(σ[j]?).join) H R)
  (hd:∀ D H' ys,H1 D=none->AA H1 H'->H' D≈(.lst ys)->Paired (λx v=>F D x v H') (xs.filter p) ys->Q (.ref D) H'):
  AU 1 js (C_ 0) tt te σ Q J H1:=by
 refine Kh R hz (λD i ys σ' H=>H1 D=none/\AA H1 H/\H D≈(.lst ys)/\Paired (λx v=>F D x v H) ((xs.take i).filter p) ys/\∃ o,σ'=o :: js.map λj=>(σ[j]?).join) ?_ ?_ ?_ ?_
 ·intro D hD;exact⟨hD,λb o e=>by rw[AD (AK e hD)];exact e,uS,by simpa using Paired.nil,none,Y⟩
 ·rintro D i ys σ' H hi ⟨hD,hs,hl,hp,_⟩;refine⟨hok H hs,?_⟩;rw[<- ↑hp];exact A8 (Hg _ _) (by rw[BU];omega)
 ·rintro D i x ys σ' H hD hx ⟨_,hs,hl,hp,o,rfl⟩;show tt (↥x :: js.map λj=>(σ[j]?).join) H _;have hm:x∈xs:=Yd hx;refine ht x H _ hs hm λH4 s4=>?_;have LR:AA H1 H4:=hs.trans s4;have mono:∀ {H H':Hp},(∀ b o,b≠D->H b≈o->H' b≈o)->Paired (λx v=>F D x v H) ((xs.take i).filter p) ys->Paired (λx v=>F D x v H') ((xs.take i).filter p) ys:=λh q=>Paired.mapP q λa b z=>hF D a b _ _ h z;cases hpx:p x with
  | true =>
   rw[if_pos rfl];refine he D x H4 _ LR ⟨_,s4 _ _ hl⟩ hD hm hpx λv H5 s5 f5=>⟨s5 _ _ (s4 _ _ hl),hD,λb o e=>?_,uS,?_,Z⟩
   ·rw[AD (AK e hD)];exact s5 _ _ (LR _ _ e)
   ·rw[take_succ_filter p xs i x hx,hpx,if_pos rfl];refine EZ (mono (λb o hb e=>by rw[AD hb];exact s5 _ _ (s4 _ _ e)) hp) (hF D _ _ _ _ (λb o hb e=>by rw[AD hb];exact e) f5)
  | false =>
   rw[if_neg Yq];refine⟨hD,LR,s4 _ _ hl,?_,Z⟩;rw[take_succ_filter p xs i x hx,hpx,if_neg Yq,Eb];exact mono (λb o _ e=>s4 _ _ e) hp
 ·rintro D ys σ' H hD ⟨_,hs,hl,hp,_⟩;rw[Dy]at hp;exact hd D H ys hD hs hl hp
section
variable {X:Cx}
def yN:V->LV->Hp->VK->Prop:=λx vs H Q=>∃ l xs i y,x=.ref l/\vs=[.int i,y]/\H l≈(.lst xs)/\0<=i/\i<=↑xs/\↑xs<sizeLine/\Q .non (upd H l (.lst (xs.take i.toNat++y :: xs.drop i.toNat)))
def eW:Ou X "list.insert" yN:=by
 intro π s σ H x vs v us Q I rx rv h;obtain⟨l,xs,i,y,rfl,rfl,hH,h0,h1,hz,q⟩:=h;cases rx;obtain⟨u,w',rfl,⟨t,rfl⟩,ru⟩:=YO rv;obtain⟨z,ψ,n,r,hl,e⟩:=I.lstM hH;have hs:sizeLine=16777216:=sizeLine_eq;have hc:¬ (!Builtin.List.listFitsIndex i)=true:=by
  have:Builtin.List.listFitsIndex i=true:=by
   unfold Builtin.List.listFitsIndex;simp;omega
  rw[this];decide
 refine call_meets F.slot_list_insert ⟨_,e,Y⟩ F.entry_list_insert (F.args_list_insert_3 _ _ _) (PySem.AutoSeq1.list_insert_list_int_val_1 l ψ.toArray n i t w' hc (by rw[Yn];omega)) ⟨e,?_⟩;have hk:(if i<0 then(i + (ψ.toArray.size:Int)).toNat else min i.toNat ψ.toArray.size)=i.toNat:=by
  rw[if_neg (by omega),Yn];omega
 refine⟨.non,_,I.lset (its':=ψ.take i.toNat++w' :: ψ.drop i.toNat) hH e ?_ ?_ ?_,Y,q⟩
 ·show(ψ.toArray.extract 0 (if i<0 then(i + (ψ.toArray.size:Int)).toNat else min i.toNat ψ.toArray.size)).push w'++ψ.toArray.extract (if i<0 then(i + (ψ.toArray.size:Int)).toNat else min i.toNat ψ.toArray.size)=_;rw[hk];apply Array.ext';simp;exact MW (by rw[Qz];exact Yf _)
 ·exact(r.take _).append (.cons ru (r.drop _))
 ·rw[Bw,Cd,BU,Qz];omega
def Qc{a:Expr}{ta:TE}{p1 p2 Mf Dn:Pos}(hc:X.calm=true)(ha:PE X a ta)(V4:Gl X "list")(LX:X.mg "list"=none)(V3:Gl X "range")(V0:X.mg "range"=none)
  (hs:starEach [a] X.env=[(false,eval a X.env)]:=by rfl)
  (Ge:starEach [.Call (.Name "range" p2) [a] [] Dn] X.env=[(false,eval (.Call (.Name "range" p2) [a] [] Dn) X.env)]:=by rfl):
  PE X (.Call (.Name "list" p1) [.Call (.Name "range" p2) [a] [] Dn] [] Mf) (λσ H Q=>Px ta OX σ H λvs H1=>∃ j:Int,vs=[.int j]/\0<=j/\j<=1000000/\∀ l,H1 l=none->Q (.ref l) (upd H1 l (.lst (C2 0 j.toNat)))):=by
 ac_rfl;refine wpAny_Call_Name_kw (F1 I V4 LX Io ?_ (by decide) (by decide));refine Js ?_ Ge rfl;refine Calls.spliced_cons ?_;refine wpAny_Call_Name_kw (F1 I V3 V0 boot_range ?_ (by decide) (by decide));refine Js ?_ hs rfl;have pa:PA X [a] (Px ta OX):=pC ha AB hs;refine AM (pa Dn π s σ H (λvs H1=>∃ j:Int,vs=[.int j]/\0<=j/\j<=1000000/\∀ l,H1 l=none->Q (.ref l) (upd H1 l (.lst (C2 0 j.toNat)))) I h) λus s1 ⟨vs,H1,I1,r1,q1⟩=>?_;obtain⟨j,e,h0,h1,q⟩:=q1;subst e;obtain⟨u,rfl,t,rfl⟩:=F0 r1;refine call_range_1 (Calls.spliced_nil ?_);have I2:Inv X π σ H1 {s1 with heap:=s1.heap.push {cls:=.type "range",data:=.fields #[.int 0 s1.toks,.int j t,.int 1 (s1.toks + 1)] },toks:=s1.toks + 1 + 1}:=I1.kept λb o e=>Yc _ e;refine call_list_range (n:=j.toNat) (I1.ok.hd hc) (IsRange.new ..) (small_one (by decide) (by decide) (by omega) (by omega)) (by rw[rangeSize_one];split <;> omega) (by omega) λh' tk GZ c' hk V8 FC=>?_;obtain⟨a1,a2⟩:=FC;have BA:H1 (s1.heap.push {cls:=.type "range",data:=.fields #[.int 0 s1.toks,.int j t,.int 1 (s1.toks + 1)] }).objs.size=none:=I2.hok.fresh (Yf _);refine⟨.ref _,_,I2.laid (o:=.lst (C2 0 j.toNat)) hk (Yf _) ⟨?_,GZ.toList,c',?_,by simpa using V8⟩,Y,q _ BA⟩
 ·rw[Cw];exact uF (by omega)
 ·have len:↑(C2 0 j.toNat)=↑GZ.toList:=by rw[Cw,Il,a1]
  exact Tv len λi v u hv hu=>by
   obtain⟨hi,e⟩:=EH hv;obtain⟨t',e'⟩:=a2 i u (by rw[<- Oq];exact hu);rw[e,e'];exact⟨t',by rw[Int.mul_one]⟩
end
end L2
namespace Graph
variable {α:Type}[DecidableEq α]
inductive Reach(ups:α->List α):α->α->Prop
 | refl (a:α):Reach ups a a
 | step {a b c:α}:b∈ups a->Reach ups b c->Reach ups a c
def Reach.trans{ups:α->List α}{a b c:α}(h:Reach ups a b)(k:Reach ups b c):Reach ups a c:=by
 induction h with
 | refl=>exact k
 | step m _ ih=>exact .step m (ih k)
def Reach.one{ups:α->List α}{a b:α}(h:b∈ups a):Reach ups a b:=.step h (.refl b)
def Reach.snoc{ups:α->List α}{a b c:α}(h:Reach ups a b)(k:c∈ups b):Reach ups a c:=h.trans (.one k)
def Reach.rank{ups:α->List α}{rk:α->Nat}(hr:∀ a b,b∈ups a->rk b<rk a){a b:α}(h:Reach ups a b):rk b<=rk a:=by
 induction h with
 | refl=>exact Yf _
 | step m _ ih=>have:=hr _ _ m;omega
def Reach.rank_lt{ups:α->List α}{rk:α->Nat}(hr:∀ a b,b∈ups a->rk b<rk a){a b:α}(h:Reach ups a b)(BG:a≠b):rk b<rk a:=by
 cases h with
 | refl=>exact absurd rfl BG
 | step m k =>
  have h1:=hr _ _ m;have h2:=Reach.rank hr k;omega
def kept(ups:α->List α)(left:List α):List α:=left.filter λw=>(ups w).any λu=>decide (u∈left)
def kept_sub{ups:α->List α}{left:List α}{w:α}(h:w∈kept ups left):w∈left:=(Cc.mp h).1
def kept_le(ups:α->List α)(left:List α):↑(kept ups left)<=↑left:=Hg _ _
theorem gK{p:α->Bool}:∀ {l:List α},↑(l.filter p)=↑l->l.filter p=l
 | [],_=>rfl
 | a :: r,h=>by
  have hle:=Hg p r;rw[Di]at h ⊢;cases hp:p a with
  | true =>
   rw[hp,if_pos rfl,Cd,Cd]at h;rw[if_pos rfl,gK (by omega)]
  | false =>
   rw[hp,if_neg Yq,Cd]at h;omega
theorem dD(rk:α->Nat):∀(l:List α),l≠[]->∃ m,m∈l/\∀ x∈l,rk m<=rk x
 | [],h=>absurd rfl h
 | a :: r,_=>by
  by_cases hr:r=[]
  ·subst hr;exact⟨a,by simp,λx hx=>by simp at hx;subst hx;exact Yf _⟩
  ·obtain⟨m,hm,hx⟩:=dD rk r hr;by_cases hc:rk a<=rk m
   ·refine⟨a,by simp,λx Gd=>?_⟩
    rcases Yl.mp Gd with e | e
    ·subst e;exact Yf _
    ·exact A8 hc (hx x e)
   ·refine⟨m,G6 _ hm,λx Gd=>?_⟩
    rcases Yl.mp Gd with e | e
    ·subst e;omega
    ·exact hx x e
def kept_nil{ups:α->List α}{left:List α}{rk:α->Nat}(hr:∀ a∈left,∀ b∈ups a,rk b<rk a)(h:↑(kept ups left)=↑left):left=[]:=by
 refine Kr λBG=>?_;obtain⟨m,hm,hx⟩:=dD rk left BG;have e:kept ups left=left:=gK h;rw[<- e]at hm;obtain⟨h1,h2⟩:=Cc.mp hm;obtain⟨u,hu,hd⟩:=F8.mp h2;have hl:u∈left:=Je hd;have a:=hr m h1 u hu;have b:=hx u hl;omega
theorem nodup_le:∀ {l k:List α},l.Nodup->(∀ x∈l,x∈k)->↑l<=↑k
 | [],k,_,_=>BE _
 | a :: r,k,hn,hs=>by
  obtain⟨h1,h2⟩:=Yu.mp hn;have ha:a∈k:=hs a (by simp);have:=nodup_le (k:=k.erase a) h2 λx hx=>(List.mem_erase_of_ne (λ(e:x=a)=>h1 (by rw[<- e];exact hx))).mpr (hs x (G6 _ hx));rw[List.length_erase_of_mem ha]at this;have hpos:0<↑k:=List.length_pos_of_mem ha;rw[Cd];omega
def closed_reach{ups:α->List α}{S:α->Prop}(hc:∀ x,S x->∀ y∈ups x,S y){a b:α}(h:Reach ups a b)(ha:S a):S b:=by
 induction h with
 | refl=>exact ha
 | step m _ ih=>exact ih (hc _ ha _ m)
end Graph
namespace Md
open PySem L2
abbrev letters:Str:="abcdefghijklmnopqrstuvwxyz"
def HU(c:Nat):Bool:=decide (97<=c/\c<=122)
def BD(x:Str):Bool:=decide (1<=↑x/\↑x<=8)&&x.cps.toList.all HU
def UN:letters.cps.toList=[97,98,99,100,101,102,103,104,105,106,107,108,109,110,111,112,113,114,115,116,117,118,119,120,121,122]:=by rfl'
def sA{i:Nat}(h:i<26):letters.cps.toList[i]?≈(97 + i):=by
 rw[UN];have:∀ i:_root_.Fin 26,([97,98,99,100,101,102,103,104,105,106,107,108,109,110,111,112,113,114,115,116,117,118,119,120,121,122]:LN)[i.1]?≈(97 + i.1):=by decide
 exact this ⟨i,h⟩
def tY:letters.cps.toList=(List.range 26).map (97 + ·):=by rw[UN];rfl
def vx(c:Nat):(!(Builtin.Str.occurrences letters ⟨#[c]⟩ 0 letters.length 1).isEmpty)=HU c:=by
 rw[StrLaws.found_one,tY];unfold HU;rw[decide_eq_decide,Yk];constructor
 ·rintro⟨a,ha,rfl⟩;have:=CA.mp ha;omega
 ·intro h;exact⟨c - 97,CA.mpr (by omega),W⟩
def Ib(x:Str):↑x.cps.toList=↑x:=by simp[Str.length]
def bg(c:Nat):↑(⟨#[c]⟩:Str)=1:=rfl
def bc(x y:Str):↑(x++y)=↑x + ↑y:=by
 show(x.cps++y.cps).size=_;rw[Array.size_append];rfl
def cz(x y:Str):(x++y).cps.toList=x.cps.toList++y.cps.toList:=by
 show(x.cps++y.cps).toList=_;rw[Array.toList_append]
def cj{x y:Str}(h:x.cps.toList=y.cps.toList):x=y:=by
 cases x;cases y
 congr 1
 exact Array.ext' h
def YD:V->V
 | .str y=>.bl (!(Builtin.Str.occurrences letters y 0 letters.length 1).isEmpty)
 | _=>.non
def rX(x:Str):((JQ x).filter λ_=>true).map YD=(x.cps.toList.map HU).map V.bl:=by
 rw[G5.mpr λ_ _=>rfl];unfold JQ;rw[Bu,Bu];refine MM λc _=>?_;show V.bl _=V.bl _;rw[vx]
def Kl(x:Str):BD x=true↔(1<=↑x.cps.toList/\↑x.cps.toList<=8)/\∀ c∈x.cps.toList,HU c=true:=by
 unfold BD;rw[EI,decide_eq_true_eq,Bv,Ib]
def QO{x:Str}(h:BD x=true):1<=↑x/\↑x<=8:=by
 have:=((Kl x).mp h).1
 rwa [Ib]at this
def QG{x:Str}(h:BD x=true):PyData.strOk x=true:=by
 unfold PyData.strOk;rw[Array.all_eq_true'];intro c hc;have:=((Kl x).mp h).2 c (by simpa using hc);have:=Je this;exact Jb (by omega)
def Dg(n:Nat):LN:=(97 + n % 26):: (if h:n / 26=0 then[]else Dg (n / 26))
termination_by n
decreasing_by omega
def OL(n:Nat):Dg n=(97 + n % 26):: (if n / 26=0 then[]else Dg (n / 26)):=by
 rw[Dg];by_cases h:n / 26=0
 ·rw[dif_pos h,if_pos h]
 ·rw[dif_neg h,if_neg h]
theorem Xr:∀(k n:Nat),n<26 ^ (k + 1)->↑(Dg n)<=k + 1
 | 0,n,h=>by
  rw[OL,if_pos (by have:n<26:=h;omega)];exact Yf _
 | k + 1,n,h=>by
  rw[OL];by_cases h0:n / 26=0
  ·rw[if_pos h0];simp
  ·rw[if_neg h0,Cd];have:=Xr k (n / 26) (Nat.div_lt_of_lt_mul (by rw[Nat.pow_succ]at h;omega));omega
def uR(n:Nat):∀ c∈Dg n,HU c=true:=by
 induction n using Nat.strongRecOn with
 | ind n ih =>
  rw[OL];intro c hc
  rcases Yl.mp hc with e | hc
  ·rw[e];exact Jb (by omega)
  ·by_cases h0:n / 26=0
   ·rw[if_pos h0]at hc;cases hc
   ·rw[if_neg h0]at hc;exact ih (n / 26) (by omega) c hc
def Qu:LN->Nat
 | []=>0
 | c :: r=>(c - 97) + 26 * Qu r
def uJ(n:Nat):Qu (Dg n)=n:=by
 induction n using Nat.strongRecOn with
 | ind n ih =>
  rw[OL];unfold Qu;by_cases h0:n / 26=0
  ·rw[if_pos h0];unfold Qu;omega
  ·rw[if_neg h0,ih (n / 26) (by omega)];omega
def Ez(n:Nat):Str:=⟨(Dg n).toArray⟩
def Xo(n:Nat):(Ez n).cps.toList=Dg n:=by simp[Ez]
def uK{a b:Nat}(h:Ez a=Ez b):a=b:=by
 have:=congrArg (λs:Str=>Qu s.cps.toList) h;simpa[Xo,uJ]using this
def uT(n:Nat):1<=↑(Dg n):=by rw[OL];simp
def Xp{n:Nat}(h:n<26 ^ 8):BD (Ez n)=true:=by
 rw[Kl,Xo];exact⟨⟨uT n,Xr 7 n h⟩,uR n⟩
def oF(j:Int)(n:Nat)(h:0<=j):Builtin.Str.strSliceIndices none (↥j) 1 n=List.range (min j.toNat n):=by
 unfold Builtin.Str.strSliceIndices sliceRange;have h1:¬ j<0:=by omega
 simp only[show(1:Int) > 0 by decide,if_true,if_neg h1];have e:(max (0:Int) (min j (n:Int)))=((min j.toNat n:Nat):Int):=by omega
 rw[e];have e2:(if(0:Int)<((min j.toNat n:Nat):Int)then(((min j.toNat n:Nat):Int) - 0 + 1 - 1) / 1 else 0)=((min j.toNat n:Nat):Int):=by
  split
  ·rw[Int.ediv_one];omega
  ·omega
 rw[e2,Yt];have:∀ l:LN,l.map (λ(k:Nat)=>((0:Int) + 1 * (k:Int)).toNat)=l:=λl=>by
  conv=>rhs;rw[<- List.map_id l]
  refine MM λk _=>?_;show _=k;omega
 exact this _
theorem hZ(l:LN):∀ m,m<=↑l->(List.range m).filterMap (λi=>l.toArray[i]?)=l.take m
 | 0,_=>by simp
 | m + 1,h=>by
  rw[List.range_succ,List.filterMap_append,hZ l m (by omega),Ce];have:m<↑l:=h;simp[this]
def UQ(x:Str)(j:Int)(h:0<=j):(Txt.slice x none (↥j)).cps.toList=x.cps.toList.take j.toNat:=by
 unfold Txt.slice;rw[oF j ↑x h];have hl:=Ib x;split
 ·rename_i hc
  have:min j.toNat ↑x=↑x:=by simpa using hc
  rw[MW (by omega)]
 ·have q:=hZ x.cps.toList (min j.toNat ↑x) (by omega);have e:x.cps.toList.toArray=x.cps:=by simp
  rw[e]at q;show((List.range (min j.toNat ↑x)).filterMap (x.cps[·]?)).toArray.toList=_;rw[List.toList_toArray,q];by_cases hj:j.toNat<=↑x
  ·rw[Nat.min_eq_left hj]
  ·rw[Nat.min_eq_right (by omega),MW (by omega),MW (by omega)]
def Er(o:HO):Prop:=∃ r b:Int,o=.lst [.int r,.int b]/\0<=r/\r<10 ^ 256/\0<=b/\b<2147483647
structure Drawn(p:ε)(H H':Hp):Prop where
 keep:∀ b o,b≠p->H b≈o->H' b≈o
 pot:∃ o,H' p≈o/\Er o
def Drawn.refl{p:ε}{H:Hp}(h:∃ o,H p≈o/\Er o):Drawn p H H:=⟨λ_ _ _ e=>e,h⟩
def Drawn.trans{p:ε}{H H1 H2:Hp}(a:Drawn p H H1)(b:Drawn p H1 H2):Drawn p H H2:=⟨λc o hc e=>b.keep c o hc (a.keep c o hc e),b.pot⟩
theorem Drawn.upd{p:ε}{H:Hp}{o:HO}(h:Er o):Drawn p H (L2.upd H p o):=⟨λb u hb e=>by rw[AD hb];exact e,_,uS,h⟩
def Drawn.new{p q:ε}{H H':Hp}{o:HO}(d:Drawn p H H')(hq:H' q=none):Drawn p H (L2.upd H' q o):=
 ⟨λb u hb e=>by rw[AD (AK (d.keep b u hb e) hq)];exact d.keep b u hb e,by
  obtain⟨u,h1,h2⟩:=d.pot;exact⟨u,by rw[AD (AK h1 hq)];exact h1,h2⟩⟩
def Drawn.same{p:ε}{H H1 H2:Hp}(d:Drawn p H H1)(s:AA H1 H2):Drawn p H H2 :=
 ⟨λb u hb e=>s _ _ (d.keep b u hb e),by obtain⟨u,h1,h2⟩:=d.pot;exact⟨u,s _ _ h1,h2⟩⟩
def Drawn.sub{p q:ε}{H H1 H2:Hp}{o':HO}(d:Drawn p H H1)(k:∀ b o,b≠q->H1 b≈o->H2 b≈o)(hq:H q=none)(hp:p≠q):Drawn p H H2 :=
 ⟨λb u hb e=>k _ _ (AK e hq) (d.keep b u hb e),by obtain⟨u,h1,h2⟩:=d.pot;exact⟨u,k _ _ hp h1,h2⟩⟩
def _root_.L2.SqL.mono_new{K:Fg}{H:Hp}{a q:ε}{xs:LV}{o:HO}(h:SqL K H a xs)(hq:H q=none):SqL K (L2.upd H q o) a xs :=
 AA.seq (λb u e=>by rw[AD (AK e hq)];exact e) h
def B_{n:Nat}(h:n<=100000):n<sizeLine:=by rw[sizeLine_eq];omega
def P8:δ->Option (LS)
 | []=>↥[]
 | .Constant (.str x) _ _ :: r=>(P8 r).map (x :: ·)
 | _=>none
def q9{X:Cx}:∀ {es:δ}{ws:LS},P8 es≈ws->PA X es (λ_ H Q=>Q (ws.map V.str) H):=by
 intro es
 induction es with
 | nil =>
  intro ws h;have e:ws=[]:=(BQ h).symm;subst e;exact AB
 | cons e r ih =>
  intro ws h;cases e with
  | Constant c j p =>
   cases c with
   | str x =>
    have h':(P8 r).map (x :: ·)≈ws:=h;obtain⟨vs,h1,h2⟩:=Ip.mp h';subst h2;exact pC FQ (ih h1) rfl
   | _=>exact nomatch (show(none:Option (LS))≈ws from h)
  | _=>exact nomatch (show(none:Option (LS))≈ws from h)
theorem Nl(x:Str):∀ ws:LS,Gb (.str x) (ws.map V.str)=decide (x∈ws)
 | []=>rfl
 | w :: r=>by
  have ih:=Nl x r;unfold Gb at ih ⊢;rw[Yr,Kn,ih];show((w == x) || decide (x∈r))=decide (x∈w :: r);rw[Im];simp only[Bool.or_eq_true,beq_iff_eq,decide_eq_true_eq,Yl];constructor
  ·rintro(h | h)
   ·exact .inl h.symm
   ·exact .inr h
  ·rintro(h | h)
   ·exact .inl h.symm
   ·exact .inr h
def QU(ws:LS):(ws.map V.str).all JN=true:=by
 rw[Bv];intro v hv;obtain⟨w,_,e⟩:=Yk.mp hv;rw[<- e];rfl
theorem Gv{K:Fg}{H:Hp}:∀ ws:LS,Ar K H (ws.map V.str) (ws.map W.Dat.str)
 | []=>.nil
 | w :: r=>.cons (.str w) (Gv r)
def Ql(H:Hp)(r:Str×LS)(v:V):Prop:=∃ t u,v=.ref t/\H t≈(.tup [.str r.1,.ref u])/\H u≈(.tup (r.2.map V.str))
def Gq(H:Hp)(l:ε)(ρ:RS):Prop:=∃ vs,H l≈(.lst vs)/\Paired (Ql H) ρ vs
structure Ab(ρ:RS):Prop where
 ne:1<=↑ρ
 le:↑ρ<=24
 word:∀ r∈ρ,BD r.1=true
 nd:(ρ.map (·.1)).Nodup
 few:∀ r∈ρ,↑r.2<=8
 known:∀ r∈ρ,∀ u∈r.2,u∈ρ.map (·.1)
 upnd:∀ r∈ρ,r.2.Nodup
 rank:∃ rk:Str->Nat,∀ r∈ρ,∀ u∈r.2,rk u<rk r.1
def JP(ws:LS)(uf:List (LN))(os:LN):RS:=os.map λj=>(ws.getD j "",(uf.getD j []).map λi=>ws.getD i "")
def xX{ws:LS}{uf:List (LN)}{os:LN}{m:Nat}(JH:1<=m)(hm:m<=24)(hw:∀ x∈ws,BD x=true)(hn:ws.Nodup)(hl:↑ws=m)(hu:∀(k:Nat) (js:LN),uf[k]?≈js->(∀ j∈js,j<k)/\js.Nodup/\↑js<=8)(hul:↑uf=m)
  (on:os.Nodup) (om:∀ j,j∈os↔j<m) (ol:↑os=m):Ab (JP ws uf os):=by
 have at_:∀ {j:Nat},j<m->ws.getD j ""∈ws/\ws[j]?≈(ws.getD j ""):=λ{j} h=>by
  have hj:j<↑ws:=by omega
  rw[Yg,Yb hj];exact⟨K3 hj,Y⟩
 have inj:∀ {i j:Nat},i<m->j<m->ws.getD i ""=ws.getD j ""->i=j:=λ{i j} hi hj e=>by
  have a:=(at_ hi).2;have b:=(at_ hj).2;rw[e]at a;exact Lx hn a b
 have ups:∀ {j:Nat},j<m->∃ js,uf.getD j []=js/\(∀ i∈js,i<j)/\js.Nodup/\↑js<=8:=λ{j} h=>by
  have hj:j<↑uf:=by omega
  have e:uf[j]?≈(uf.getD j []):=by rw[Yg,Yb hj];rfl
  exact⟨Z,hu j _ e⟩
 have mem:∀ {r:Str×LS},r∈JP ws uf os->∃ j,j<m/\r=(ws.getD j "",(uf.getD j []).map λi=>ws.getD i ""):=λ{r} h=>by
  obtain⟨j,hj,e⟩:=Yk.mp h;exact⟨j,(om j).mp hj,e.symm⟩
 have words:(JP ws uf os).map (·.1)=os.map λj=>ws.getD j "":=by
  unfold JP;rw[Bu];rfl
 refine⟨by unfold JP;rw[Ya];omega,by unfold JP;rw[Ya];omega,λr hr=>?_,?_,λr hr=>?_,λr hr u BR=>?_,λr hr=>?_,λx=>ws.idxOf x,λr hr u BR=>?_⟩
 ·obtain⟨j,hj,rfl⟩:=mem hr;exact hw _ (at_ hj).1
 ·rw[words,Ea,Ko];refine(Ea.mp on).imp_of_mem λ{a b} ha hb h e=>h (inj ((om a).mp ha) ((om b).mp hb) e)
 ·obtain⟨j,hj,rfl⟩:=mem hr;obtain⟨js,e,_,_,h8⟩:=ups hj;show((uf.getD j []).map λi=>ws.getD i "").length<=8;rw[Ya,e];exact h8
 ·obtain⟨j,hj,rfl⟩:=mem hr;obtain⟨i,hi,e⟩:=Yk.mp BR;obtain⟨js,e',hb,_⟩:=ups hj;rw[e']at hi;have hij:=hb i hi;rw[words];exact Yk.mpr ⟨i,(om i).mpr (by omega),e⟩
 ·obtain⟨j,hj,rfl⟩:=mem hr;obtain⟨js,e',hb,hnd,_⟩:=ups hj;show((uf.getD j []).map λi=>ws.getD i "").Nodup;rw[e',Ea,Ko];refine(Ea.mp hnd).imp_of_mem λ{a b} ha V7 h e=>h (inj (by have:=hb a ha;omega) (by have:=hb b V7;omega) e)
 ·obtain⟨j,hj,rfl⟩:=mem hr;obtain⟨i,hi,e⟩:=Yk.mp BR;obtain⟨js,e',hb,_⟩:=ups hj;rw[e']at hi;have hij:=hb i hi;have ix:∀ {j:Nat},j<m->ws.idxOf (ws.getD j "")=j:=λ{j} h=>by
   have a:=(at_ h).1;have lt:ws.idxOf (ws.getD j "")<↑ws:=List.idxOf_lt_length_iff.mpr a;have g:ws[ws.idxOf (ws.getD j "")]?≈(ws.getD j ""):=by rw[Yb lt,List.getElem_idxOf lt]
   exact Lx hn g (at_ h).2
  show ws.idxOf u<ws.idxOf (ws.getD j "");rw[<- e,ix hj,ix (by omega)];exact hij
end Md
namespace L2
open PySem PySem.Spec PyProof.Rows
section
variable {X:Cx}{tg:Expr}
def EK(K:Fg)(b:Bool)(H:Hp)(a:ε)(xs:LV):Prop:=if b=true then SqL K H a xs else AH K H a xs
def EK.mono{K:Fg}{b:Bool}{H H':Hp}{a:ε}{xs:LV}(h:EK K b H a xs)(s:AA H H'):EK K b H' a xs:=by
 cases b with
 | true=>exact s.seq (show SqL K H a xs from h)
 | false=>exact s.tup (show AH K H a xs from h)
def VO(K:Fg)(b:Bool)(a:ε)(xs:LV):It:=⟨λi H=>i<↑xs/\EK K b H a xs,λi H x H'=>H'=H/\xs[i]?≈x,λi H=>↑xs<=i/\EK K b H a xs⟩
def dW{K:Fg}{b:Bool}{a:ε}{xs:LV}:Fs (VO K b a xs) xs (λH=>EK K b H a xs) where
 go:=λi x H ok hx=>⟨(Ye.mp hx).1,ok⟩
 yld:=λi x H y H' ok hx h=>by
  obtain⟨e,h⟩:=h;rw[hx]at h;exact⟨(BQ h).symm,e⟩
 stop:=λH ok=>⟨Yf _,ok⟩
def Ft.imp{P:Γ}{w:World}{K:Fg}{tg:Expr}{J J':It}{fp:τ}{it:ε}{tn:Nat->Heap->Prop}(T:Ft P w K tg J fp it tn)(hgo:∀ i H,J'.go i H->J.go i H)
  (hy:∀ i H x H',J'.go i H->J.yld i H x H'->J'.yld i H x H') (hs:∀ i H,J'.stop i H->J.stop i H):Ft P w K tg J' fp it tn where
 mem:=T.mem
 obj:=T.obj
 keep:=T.keep
 item:=λX h1 h2 h3 h4 i π s σ H E I hf st g=>AM (T.item X h1 h2 h3 h4 i π s σ H E I hf st (hgo i H g)) λr s1 ⟨u,e,h⟩=>⟨u,e,AM h λ_ s2 ⟨x,H',I',r',y,t,f⟩=>⟨x,H',I',r',hy i H x H' g y,t,f⟩⟩
 done:=λX h1 h2 h3 h4 i π s σ H E I hf st g=>T.done X h1 h2 h3 h4 i π s σ H E I hf st (hs i H g)
 self:=T.self
def zj(K:Fg)(tl:TE):TI:=λσ H R=>tl σ H λx H1=>∃ b a xs,x=.ref a/\EK K b H1 a xs/\R (VO K b a xs) H1
def jv{l:Expr}{tl:TE}(hl:PE X l tl):PI X tg l (zj X.K tl):=by
 intro π s σ H R I h;refine AM (hl π s σ H _ I h) λv s1 ⟨x,H1,I1,r1,q1⟩=>?_;obtain⟨b,a,xs,e,hq,q⟩:=q1;subst e;cases r1;have fp:∀ b∈[⇑s1],BH X π H1 b:=λb hb=>by
  have e:b=⇑s1:=by simpa using hb
  subst e;exact I1.fpOk (Yf _) (I1.hok.fresh (Yf _))
 have get:∀ {i:Nat} {ys:LV},i<↑ys->∃ y,ys[i]?≈y:=λ{i ys} h=>⟨ys[i],by simp[h]⟩;cases b with
 | true =>
  have hq:SqL X.K H1 a xs:=hq;obtain⟨ψ,rv,p,hz⟩:=I1.list hq;refine wpAny_pyIter_list p.isList ?_;refine⟨⇑s1,[⇑s1],_,VO X.K true a xs,H1,Y,I1.kept (t':=s1.toks) λb o e=>Yc _ e,(gB a _).imp (λi H g=>?_) (λi H x H' g y=>⟨y.1,y.2 xs g.2⟩) (λi H g=>⟨xs,g.2,g.1⟩),⟨_,Ym _ rfl,Y,Y⟩,fp,q⟩;obtain⟨y,hy⟩:=get g.1;exact⟨xs,y,g.2,hy⟩
 | false =>
  have hq:AH X.K H1 a xs:=hq;obtain⟨ψ,rv,p,hz⟩:=I1.tuple hq;refine wpAny_pyIter_tuple (show s1.heap.IsTuple a ψ.toArray from p) ?_;refine⟨⇑s1,[⇑s1],_,VO X.K false a xs,H1,Y,I1.kept (t':=s1.toks) λb o e=>Yc _ e,(gZ a _).imp (λi H g=>?_) (λi H x H' g y=>⟨y.1,y.2 xs g.2⟩) (λi H g=>⟨xs,g.2,g.1⟩),⟨_,Ym _ rfl,Y,Y⟩,fp,q⟩;obtain⟨y,hy⟩:=get g.1;exact⟨xs,y,g.2,hy⟩
def vd(to:TE):TI:=λσ H R=>to σ H λx H1=>∃ a ob ν,x=.ref a/\H1 a≈(.frz ob (.dK ν))/\R (Y4 a ob ν) H1
def yI{o:Expr}{to:TE}{apos AX:Pos}(ho:PE X o to)(Cj:attributeBase o "values" X.env (eval o X.env)=eval o X.env:=by rfl)(Ci:(apos.endLine == AX.line)=true:=by rfl):
  PI X tg (.Call (.Attribute o "values" apos) [] [] AX) (vd to):=by
 intro π s σ H R I h;refine wpAny_Call_method0_late Cj Ci (AM (ho π s σ H _ I h) λv s1 ⟨x,H1,I1,r1,q1⟩=>?_);obtain⟨a,ob,ν,e,ha,q⟩:=q1;subst e;obtain rfl:v=Value.ref a:=r1;obtain⟨t1,t2,t3⟩:=vm I1 (.inl ⟨ν,.inr ⟨ob,ha⟩⟩);obtain⟨es,ep,hd⟩:=dc (I1.hok a _ ha);obtain⟨hs,vs,r,dd⟩:=Nr (I1.hok a _ ha) hd;have hl:↑ν=↑vs:=A_ r;refine⟨"dict","dict.values",PySem.F.plainAttrs_dict,PySem.F.slot_dict_values,PySem.F.type_dict_values,t1,t2,Calls.callWith_builtin rfl (PySem.evalArgs_none ?_)⟩;refine call_meetsIn PySem.F.slot_dict_values t1 PySem.F.entry_dict_values (PySem.F.args_dict_values_1 _) (meets_dict_values (Cu X.prog X.w) a t3) ⟨⟨vs,dd.dictOf⟩,?_⟩;have I2:Inv X π σ H1 {s1 with heap:=s1.heap.push {cls:=.type "dict_values",data:=.fields #[.ref a] } }:=I1.kept (t':=s1.toks) λb o e=>Yc _ e;refine wpAny_pyIter_values (kvs:=vs) (ep:=ep) (knd:=Cu X.prog X.w) ⟨_,Ym _ rfl,Y,Y⟩ (dd.at' λo e=>Yc _ e) ?_;refine⟨_,[_],Q,H1,Y,I2.kept (t':=s1.toks) λb o e=>Yc _ e,rS a _ ob ν es ep hd,⟨_,Ym _ rfl,Y,by rw[hl];rfl⟩,λb hb=>?_,q⟩;have e:b=_:=Yi.mp hb;subst e;exact I2.fpOk (Yf _) (I2.hok.fresh (Yf _))
def uc(hc:X.calm=true):FN X (.type "list") (λxs H Q=>∃ a ν,xs=[.ref a]/\Rd H a (.dK ν)/\∀ l,H l=none->Q (.ref l) (upd H l (.lst (ν.map λp=>kV p.1)))):=by
 intro π s σ H xs us Q I r h;obtain⟨a,ν,rfl,ha,q⟩:=h;obtain⟨u,rfl,ru⟩:=F0 r;cases ru;obtain⟨hz,hs,vs,rv,o,es,ep,h1,h2,h3,h4,h5,h6⟩:=Li I.hok ha;have hl:↑ν=↑vs:=A_ rv;have dd:s.heap.DictAt (Cu X.prog X.w) a vs ep:=⟨o,es,h1,h2,h3,h4,h5,h6⟩;refine W.kdl_call (W.kdl_dict (knd:=Cu X.prog X.w) (kvs:=vs) (ep:=ep) hs) (I.ok.hd hc) dd (by rw[<- hl];exact hz) λh' tk GZ c' hk V8 FC=>?_;obtain⟨a1,a2⟩:=FC;refine⟨.ref _,_,I.laid (o:=.lst (ν.map λp=>kV p.1)) hk (Yf _) ⟨by rw[Ya];exact hz,GZ.toList,c',?_,by simpa using V8⟩,Y,q _ (I.hok.fresh (Yf _))⟩;refine Tv (by have z:↑GZ.toList=GZ.size:=Il;rw[Ya];omega) λi v u hv hu=>?_;rw[Yh]at hv;obtain⟨p,hp,e⟩:=Ip.mp hv;obtain⟨w',hw,_⟩:=rv.get hp;obtain⟨k,x,Ei,V2⟩:=a2 i u (by rw[<- Oq];exact hu);rw[hw]at Ei;injection Ei with Ei;injection Ei with Ei _;rw[<- e,Ei];exact jz V2
def Bk.f{H:Hp}{a:ε}{o:Obj}{ν:KL}{k:Key}(e:H a≈(.frz o (.dK ν))):Bk H a (kV k) (Bm ν k):=.inl ⟨ν,k,.inr ⟨o,e⟩,Y,Y⟩
end
end L2
namespace Md
open PySem L2
def X4(K:Fg)(H:Hp)(u:ε)(us:LS):Prop:=H u≈(.tup (us.map V.str))\/SqL K H u (us.map V.str)
def X4.sq{K:Fg}{H:Hp}{u:ε}{us:LS}(h:X4 K H u us):∃ b,EK K b H u (us.map V.str):=by
 rcases h with h | h
 ·exact⟨false,AH.of h⟩
 ·exact⟨true,h⟩
def yy(K:Fg)(H:Hp)(r:Str×LS)(v:V):Prop:=∃ t u,v=.ref t/\AH K H t [.str r.1,.ref u]/\X4 K H u r.2
def YJ(K:Fg)(H:Hp)(l:ε)(ρ:RS):Prop:=∃ b vs,EK K b H l vs/\Paired (yy K H) ρ vs
def Gq.g{K:Fg}{H:Hp}{l:ε}{ρ:RS}(h:Gq H l ρ):YJ K H l ρ:=by
 obtain⟨vs,a,p⟩:=h;refine⟨true,vs,SqL.of a,Paired.mapP p λr v z=>?_⟩;obtain⟨t,u,e,h1,h2⟩:=z;exact⟨t,u,e,AH.of h1,.inl h2⟩
theorem B3{α β:Type}{F:α->β->Prop}:∀ {l:List α}{k:List β},Paired F l k->∀ {i:Nat}{b:β},k[i]?≈b->∃ a,l[i]?≈a/\F a b
 | _,_,.nil,i,b,h=>by simp at h
 | _,_,.cons r t,0,b,h=>by simp at h;subst h;exact⟨Z,r⟩
 | _,_,.cons r t,i + 1,b,h=>by
  obtain⟨a,h1,h2⟩:=B3 t (i:=i) (b:=b) (by simpa using h);exact⟨a,by simpa using h1,h2⟩
def He{ν:KL}{k:Key}(h:k∉ν.map (·.1)):Bm ν k=none:=by
 cases e:Bm ν k with
 | none=>rfl
 | some v=>exact absurd (ck e) h
def XM{ν:KL}{k:Key}{v:V}(h:k∉ν.map (·.1)):(BX ν k v).map (·.1)=ν.map (·.1)++[k]:=by
 rw[Nv v (He h),BP];rfl
def QS{ρ:RS}{i:Nat}{r:Str×LS}(nd:(ρ.map (·.1)).Nodup)(h:ρ[i]?≈r):(Sum.inr r.1:Key)∉(ρ.take i).map λr=>(Sum.inr r.1:Key):=by
 intro m;obtain⟨q,hq,e⟩:=Yk.mp m;have e:q.1=r.1:=by injection e
 obtain⟨j,hj,ej⟩:=Kx.mp hq;rw[BU]at hj;have mZ:ρ[j]?≈q:=by
  rw[Oa]at ej;rw[Yb (by omega),ej]
 have a:(ρ.map (·.1))[j]?≈r.1:=by rw[Yh,mZ,<- e];rfl
 have b:(ρ.map (·.1))[i]?≈r.1:=by rw[Yh,h];rfl
 have:=Lx nd a b;omega
def Dr(H:Hp)(ρ:RS)(ν:KL):Prop:=Paired (λr (p:Key×V)=>p.1=Sum.inr r.1/\∃ t,p.2=.ref t/\H t≈(.tup (r.2.map V.str))) ρ ν
def Dr.mono{H H':Hp}{ρ:RS}{ν:KL}(h:Dr H ρ ν)(s:∀ b xs,H b≈(.tup xs)->H' b≈(.tup xs)):Dr H' ρ ν :=
 Paired.mapP h λ_ _ z=>⟨z.1,let⟨t,e,x⟩:=z.2;⟨t,e,s _ _ x⟩⟩
theorem Dr.keys:∀ {H:Hp}{ρ:RS}{ν:KL},Dr H ρ ν->ν.map (·.1)=ρ.map λr=>(Sum.inr r.1:Key)
 | _,_,_,.nil=>rfl
 | _,_,_,.cons r t=>by rw[Yr,Yr,r.1,Dr.keys t]
def An(ρ:RS)(x:Str):LS:=(ρ.lookup x).getD []
def Ny{ρ:RS}(nd:(ρ.map (·.1)).Nodup){r:Str×LS}(h:r∈ρ):An ρ r.1=r.2:=by
 unfold An
 induction ρ with
 | nil=>cases h
 | cons q rs ih =>
  have FZ:(q.1 :: rs.map (·.1)).Nodup:=nd;obtain⟨n1,n2⟩:=Yu.mp FZ;obtain⟨a,b⟩:=q;rw[Dj]
  rcases Yl.mp h with e | h
  ·subst e;simp
  ·have ne:(r.1 == a)=false:=by
    rw[beq_eq_false_iff_ne];intro e;exact n1 (Yk.mpr ⟨r,h,e⟩)
   rw[ne];exact ih n2 h
theorem Dr.val:∀ {H:Hp}{ρ:RS}{ν:KL},Dr H ρ ν->(ρ.map (·.1)).Nodup->∀ {r:Str×LS},r∈ρ->∃ t,Bm ν (Sum.inr r.1)≈(.ref t)/\H t≈(.tup (r.2.map V.str))
 | _,_,_,.nil,_,r,h=>nomatch h
 | _,q :: rs,p :: ps,.cons z t,nd,r,h=>by
  have FZ:(q.1 :: rs.map (·.1)).Nodup:=nd;obtain⟨n1,n2⟩:=Yu.mp FZ;obtain⟨z1,u,z2,z3⟩:=z
  rcases Yl.mp h with e | h
  ·subst e;exact⟨u,by rw[N0 z1,z2],z3⟩
  ·have ne:¬ p.1=(Sum.inr r.1:Key):=λe=>n1 (by
    rw[z1]at e;have e':q.1=r.1:=by injection e
    rw[e'];exact Yk.mpr ⟨r,h,Y⟩)
   obtain⟨u',h1,h2⟩:=Dr.val t n2 h;exact⟨u',by rw[Nz ne];exact h1,h2⟩
def YF{H:Hp}{ρ:RS}{ν:KL}(h:Dr H ρ ν):(ν.map λp=>kV p.1)=(ρ.map (·.1)).map V.str:=by
 have e:(ν.map λp=>kV p.1)=(ν.map (·.1)).map kV:=by rw[Bu];rfl
 rw[e,h.keys,Bu,Bu];rfl
end Md
namespace L2
open PySem PySem.Spec PyProof.Rows
section
variable {X:Cx}{π:PL}{σ:St}{H H':Hp}{s:ω}{h':Heap}
end
section
variable {X:Cx}
def jU(K:Fg):R2:=λx y H Q=>∃ a b xs ys,x=.ref a/\y=.ref b/\AH K H a xs/\AH K H b ys/\↑xs + ↑ys<=sizeLine /\
 (xs=[]->Q (.ref b) H)/\(xs≠[]->ys=[]->Q (.ref a) H)/\(xs≠[]->ys≠[]->∀ p,H p=none->Q (.ref p) (upd H p (.tup (xs++ys))))
def Wr:BV X (binaryOp .Add) (jU X.K):=by
 exfalso;obtain⟨a,b,xs,ys,rfl,rfl,ha,hb,hz,q0,q1,q2⟩:=h;by_cases hx:xs=[]
 ·cases rx;cases ry;obtain⟨ψ,r1,p1,_⟩:=I.tuple ha;obtain⟨Hn,r2,p2,_⟩:=I.tuple hb;have e:ψ=[]:=r1.nil_iff.mpr hx;obtain⟨⟨cls,dd,data,sl⟩,ho,hc,n,hd⟩:=id p1;obtain⟨⟨R1,HI,data2,HB⟩,CF,Cm,n2,hd2⟩:=id p2;simp only at hc hd Cm hd2;subst hc hd Cm hd2;exact concat_meets ⟨_,ho,Y⟩ ⟨_,CF,Y⟩ noFill_tuple_add seq_tuple_add PySem.F.slot_tuple_add YY (YT _ _)
   (tuple_addW0 a b ψ.toArray Hn.toArray n n2 dd HI sl HB (by simp[e])) ⟨ho,CF,⟨.ref b,H,I,Y,q0 hx⟩⟩
 ·exact yA π s σ H _ _ v u Q I rx ry ⟨a,b,xs,ys,Y,Y,ha,hb,hx,hz,q1 hx,q2 hx⟩
end
section
variable {X:Cx}{π:PL}{σ:St}{H:Hp}{s:ω}{h':Heap}
end
section
variable {X:Cx}
end
section
variable {X:Cx}
end
section
variable {prog:Γ}{w:World}{A:Around}{E:EV}{s:ω}
def OH{p t:ε}{k:Nat}{us:μ}{u:χ}{Q:EV}(hp:s.heap.IsTupleIter p t k)(ht:s.heap.IsTuple t us)(hu:us[k]?≈u)
  (q:∀ g,g.IsTupleIter p t (k + 1)->Heap.SameBut p s.heap g->Q u {s with heap:=g}):wpAny (model prog w) A (Builtin.SmallTypes.nextOf (.ref p)) Q E s:=by
 obtain⟨ob,h1,h2,h3⟩:=id hp;obtain⟨ot,h4,_,nt,h5⟩:=ht;unfold Builtin.SmallTypes.nextOf;refine Ja (wpAny_callSpecial?_slot (name:=Str.ofString "__next__") hp.typeIs VB (wpAny_call_entry VB hp.typeIs PySem.F.entry_tuple_iterator_next ?_ (PySem.F.args_tuple_iterator_next_1 _)));show wpAny _ _ (field (.ref p) 0>>=_) _ _ s;refine Ja (Jg h1 h3 (x:=.ref t) rfl ?_);show wpAny _ _ (if(Value.ref t == Value.none)=true then _ else _) _ _ s;rw[if_neg (show ¬ ((Value.ref t == Value.none)=true)from Yq)];show wpAny _ _ (field (.ref p) 1>>=_) _ _ s;refine Ja (Jg h1 h3 (x:=.int k 0) rfl ?_);show wpAny _ _ (seqItems? (.ref t)>>=_) _ _ s;refine Ja (wpAny_seqItems h4 h5 ?_);simp only[Yt,hu];refine Ja (wpAny_setField h1 h3 (by simp) (Jd ⟨u,Y,Jd (q _ ?_ (Oi ..))⟩));exact⟨_,MV _ h1 (Qy (Oe h3 _)),(Obj.cls_mapFields ..).trans h2,by rw[Oe h3];simp[rawInt]⟩
def Qb{p t:ε}{k:Nat}{us:μ}{Q:EV}(hh:A.handled=none)(hp:s.heap.IsTupleIter p t k)(ht:s.heap.IsTuple t us)(hu:us[k]?=none)
  (q:∀ g e,Heap.ExtBut p s.heap g->(∃ o,g.get? e≈o/\o.cls=.type "StopIteration")->E (.ref e) {s with heap:=g}):wpAny (model prog w) A (Builtin.SmallTypes.nextOf (.ref p)) Q E s:=by
 obtain⟨ob,h1,h2,h3⟩:=id hp;obtain⟨ot,h4,_,nt,h5⟩:=ht;unfold Builtin.SmallTypes.nextOf;refine Ja (wpAny_callSpecial?_slot (name:=Str.ofString "__next__") hp.typeIs VB (wpAny_call_entry VB hp.typeIs PySem.F.entry_tuple_iterator_next ?_ (PySem.F.args_tuple_iterator_next_1 _)));show wpAny _ _ (field (.ref p) 0>>=_) _ _ s;refine Ja (Jg h1 h3 (x:=.ref t) rfl ?_);show wpAny _ _ (if(Value.ref t == Value.none)=true then _ else _) _ _ s;rw[if_neg (show ¬ ((Value.ref t == Value.none)=true)from Yq)];show wpAny _ _ (field (.ref p) 1>>=_) _ _ s;refine Ja (Jg h1 h3 (x:=.int k 0) rfl ?_);show wpAny _ _ (seqItems? (.ref t)>>=_) _ _ s;refine Ja (wpAny_seqItems h4 h5 ?_);simp only[Yt,hu];refine Ja (wpAny_rule (Ja (wpAny_setField h1 h3 (by simp) ?_)));show wpAny _ _ (newExc (.type "StopIteration") []>>=_) _ _ _;refine Ja ?_;simp only[newExc,newTuple];refine Ja (wpAny_newObj_type ?_ (by size_fits));refine Ja (m:=firstArgMember _ _) (wpAny_of_eq (a:=Value.none) (by first | rfl | (simp only[firstArgMember];rfl)) ?_);refine wpAny_newObj_type ?_ (by size_fits);simp only[raiseNew];refine Ja (wpAny_handled ?_)
 first | rw[show A.in1.handled=none from hh] | rw[hh]
 refine Ja (Jd (wpAny_throw ?_));exact q _ _ (((Oi ..).extBut.push _).push _) ⟨_,Ym _ rfl,Y⟩
structure Gz(h:Heap)(z ti to i1 i2 l1 l2:ε)(k:Nat)(f:χ):Prop where
 z:IsZip h z ti to f
 ti:IsPair h ti (.ref i1) (.ref i2)
 to:∃ a b,IsPair h to a b
 i1:h.IsTupleIter i1 l1 k
 i2:h.IsTupleIter i2 l2 k
theorem Gz.at{h h':Heap}{z ti to i1 i2 l1 l2:ε}{k:Nat}{f:χ}(x:Gz h z ti to i1 i2 l1 l2 k f)(e:∀ b∈[z,ti,to,i1,i2],∀ o,h.get? b≈o->h'.get? b≈o):Gz h' z ti to i1 i2 l1 l2 k f :=
 ⟨e z (by simp) _ x.z,e ti (by simp) _ x.ti,let⟨a,b,y⟩:=x.to;⟨a,b,e to (by simp) _ y⟩,x.i1.at λo q=>e i1 (by simp) o q,x.i2.at λo q=>e i2 (by simp) o q⟩
def sQ{z ti to i1 i2 l1 l2:ε}{k:Nat}{xs ys:μ}{x y:χ}{Q:EV}(D:ZipApart z ti to i1 i2 l1 l2)(st:Gz s.heap z ti to i1 i2 l1 l2 k .none)
  (t1:s.heap.IsTuple l1 xs) (t2:s.heap.IsTuple l2 ys) (hx:xs[k]?≈x) (hy:ys[k]?≈y)
  (q:∀ g,Gz g z ti to i1 i2 l1 l2 (k + 1) (rawInt ⇑s)->IsPair g ⇑s x y->(∀ c o,c≠z->c≠to->c≠i1->c≠i2->s.heap.get? c≈o->g.get? c≈o)->Q (.ref ⇑s) {s with heap:=g}):
  wpAny (model prog w) A (Builtin.«zip.__next__» ⟨[.ref z],[]⟩) (λfin s'=>∃ v,fin=.done (.ret v)/\Q v s') E s:=by
 obtain⟨hz,hti,⟨a,b,hto⟩,FG,DY⟩:=st;show wpAny _ _ (field (.ref z) 2>>=_) _ _ _;refine Ja (Jg hz rfl (x:=.bool false) rfl ?_);show wpAny _ _ (field (.ref z) 3>>=_) _ _ _;refine Ja (Jg hz rfl (x:=.ref ti) rfl (Ja (wpAny_seqItems hti rfl ?_)));show wpAny _ _ (Builtin.SmallTypes.ownedTupleIsFree (.ref z)>>=_) _ _ _;refine Ja ?_;unfold Builtin.SmallTypes.ownedTupleIsFree;refine Ja (Jg hz rfl (x:=.none) rfl (Jd ?_));simp only[if_true];refine Ja (wpAny_rule (Ja (Jg hz rfl (x:=.ref to) rfl (Ja (wpAny_setField_rec hz (by simp) λg1 z1 e1=>?_)))));replace z1:IsZip g1 z ti to .ellipsis:=z1;refine Ja ?_;simp only[List.zipIdx_cons,List.zipIdx_nil,MQ,List.forIn_nil];refine Ja (Ja (wpAny_onRaise ?_));show wpAny _ _ (Builtin.SmallTypes.nextOf (.ref i1)>>=_) _ _ _;refine Ja (OH (FG.extBut e1.extBut D.i1z) (t1.extBut e1.extBut D.l1z) hx λg2 j1 e2=>Jd ?_);have to2:IsPair g2 to a b:=e2.extBut _ _ D.TOi1 (e1.extBut _ _ D.TOz hto);refine Ja (wpAny_seqItems to2 rfl (Ja (wpAny_updateSeq_pair to2 λg3 to3 e3=>?_)));replace to3:IsPair g3 to x b:=to3;refine Ja (wpAny_letGo (Jd (Ja (Ja (wpAny_onRaise ?_)))));show wpAny _ _ (Builtin.SmallTypes.nextOf (.ref i2)>>=_) _ _ _;refine Ja (OH (((DY.extBut e1.extBut D.i2z).extBut e2.extBut D.i12.symm).extBut e3.extBut D.TOi2.symm) (((t2.extBut e1.extBut D.l2z).extBut e2.extBut D.l2i1).extBut e3.extBut D.l2TO) hy λg4 j2 e4=>Jd ?_);have Oz:IsPair g4 to x b:=e4.extBut _ _ D.TOi2 to3;refine Ja (wpAny_seqItems Oz rfl (Ja (wpAny_updateSeq_pair Oz λg5 Iu e5=>?_)));replace Iu:IsPair g5 to x y:=Iu;refine Ja (wpAny_letGo (Jd (Jd (Ja (wpAny_seqItems Iu rfl (Ja (wpAny_newTuple ?_)))))));have sz:g5.objs.size=⇑s:=by rw[e5.1,e4.1,e3.1,e2.1,e1.1]
 have z5:IsZip g5 z ti to .ellipsis:=e5.extBut _ _ D.TOz.symm (e4.extBut _ _ D.i2z.symm (e3.extBut _ _ D.TOz.symm (e2.extBut _ _ D.i1z.symm z1)));have k5:∀ c o,c≠z->c≠to->c≠i1->c≠i2->s.heap.get? c≈o->g5.get? c≈o:=λc o c1 c2 c3 c4 e=>e5.extBut _ _ c2 (e4.extBut _ _ c4 (e3.extBut _ _ c2 (e2.extBut _ _ c3 (e1.extBut _ _ c1 e))));have Vw:g5.IsTupleIter i1 l1 (k + 1):=((j1.extBut e3.extBut D.TOi1.symm).extBut e4.extBut D.i12).extBut e5.extBut D.TOi1.symm;have Vv:g5.IsTupleIter i2 l2 (k + 1):=j2.extBut e5.extBut D.TOi2.symm;have zlt:z<g5.objs.size:=Yj z5;show wpAny _ _ (Builtin.SmallTypes.ownedTupleHandOut (.ref z) (.ref g5.objs.size)>>=_) _ _ _;refine Ja ?_;unfold Builtin.SmallTypes.ownedTupleHandOut;have z6:IsZip (g5.push {cls:=.type "tuple",data:=.seq #[x,y] }) z ti to .ellipsis:=Yc _ z5;refine Ja (wpAny_setField_rec z6 (by simp) λg7 z7 e7=>?_);replace z7:IsZip g7 z ti to (rawInt g5.objs.size):=z7;refine wpAny_setField_rec z7 (by simp) λg8 z8 e8=>?_;replace z8:IsZip g8 z ti to (rawInt g5.objs.size):=z8;have up:∀ c o,c≠z->g5.get? c≈o->g8.get? c≈o:=λc o c1 e=>e8.extBut _ _ c1 (e7.extBut _ _ c1 (Yc _ e));have p8:IsPair g8 g5.objs.size x y:=e8.extBut _ _ (DG zlt) (e7.extBut _ _ (DG zlt) (Ym _ rfl));rw[sz]at z8 p8;refine Jd ⟨Z,?_⟩;show Q (.ref g5.objs.size) _;rw[sz];exact q g8 ⟨z8,up _ _ D.TIz (k5 _ _ D.TIz D.TITO D.TIi1 D.TIi2 hti),⟨x,y,up _ _ D.TOz Iu⟩,Vw.at λo e=>up _ o D.i1z e,Vv.at λo e=>up _ o D.i2z e⟩ p8 λc o c1 c2 c3 c4 e=>up c o c1 (k5 c o c1 c2 c3 c4 e)
def sP{z ti to i1 i2 l1 l2:ε}{k:Nat}{xs ys:μ}{Q:Fin->ω->Prop}(hh:A.handled=none)(D:ZipApart z ti to i1 i2 l1 l2)(st:Gz s.heap z ti to i1 i2 l1 l2 k .none)
  (t1:s.heap.IsTuple l1 xs) (t2:s.heap.IsTuple l2 ys) (Cg:xs[k]?=none\/ys[k]?=none)
  (q:∀ g e,(∀ c o,c≠z->c≠to->c≠i1->c≠i2->s.heap.get? c≈o->g.get? c≈o)->(∃ o,g.get? e≈o/\o.cls=.type "StopIteration")->E (.ref e) {s with heap:=g}):
  wpAny (model prog w) A (Builtin.«zip.__next__» ⟨[.ref z],[]⟩) Q E s:=by
 obtain⟨hz,hti,⟨a,b,hto⟩,FG,DY⟩:=st;show wpAny _ _ (field (.ref z) 2>>=_) _ _ _;refine Ja (Jg hz rfl (x:=.bool false) rfl ?_);show wpAny _ _ (field (.ref z) 3>>=_) _ _ _;refine Ja (Jg hz rfl (x:=.ref ti) rfl (Ja (wpAny_seqItems hti rfl ?_)));show wpAny _ _ (Builtin.SmallTypes.ownedTupleIsFree (.ref z)>>=_) _ _ _;refine Ja ?_;unfold Builtin.SmallTypes.ownedTupleIsFree;refine Ja (Jg hz rfl (x:=.none) rfl (Jd ?_));simp only[if_true];refine Ja (wpAny_rule (Ja (Jg hz rfl (x:=.ref to) rfl (Ja (wpAny_setField_rec hz (by simp) λg1 z1 e1=>?_)))));replace z1:IsZip g1 z ti to .ellipsis:=z1;refine Ja ?_;simp only[List.zipIdx_cons,List.zipIdx_nil,MQ,List.forIn_nil];refine Ja (Ja (wpAny_onRaise ?_));show wpAny _ _ (Builtin.SmallTypes.nextOf (.ref i1)>>=_) _ _ _;cases hx:xs[k]? with
 | none =>
  refine Ja (Qb hh (FG.extBut e1.extBut D.i1z) (t1.extBut e1.extBut D.l1z) hx λg2 e e2 he=>?_);obtain⟨oe,ho,hc⟩:=he;have z2:IsZip g2 z ti to .ellipsis:=e2 _ _ D.i1z.symm z1;have ez:e≠z:=λx=>by subst x;rw[z2]at ho;cases ho;simp at hc
  exact wpAny_setField_rec z2 (by simp) λg3 _ e3=>q g3 e (λc o c1 _ c3 _ x=>e3.extBut _ _ c1 (e2 _ _ c3 (e1.extBut _ _ c1 x))) ⟨oe,e3.extBut _ _ ez ho,hc⟩
 | some x =>
  have hy:ys[k]?=none:=by rcases Cg with h | h;rw[hx]at h;cases h;exact h
  refine Ja (OH (FG.extBut e1.extBut D.i1z) (t1.extBut e1.extBut D.l1z) hx λg2 j1 e2=>Jd ?_);have to2:IsPair g2 to a b:=e2.extBut _ _ D.TOi1 (e1.extBut _ _ D.TOz hto);refine Ja (wpAny_seqItems to2 rfl (Ja (wpAny_updateSeq_pair to2 λg3 to3 e3=>?_)));refine Ja (wpAny_letGo (Jd (Ja (Ja (wpAny_onRaise ?_)))));show wpAny _ _ (Builtin.SmallTypes.nextOf (.ref i2)>>=_) _ _ _;refine Ja (Qb hh (((DY.extBut e1.extBut D.i2z).extBut e2.extBut D.i12.symm).extBut e3.extBut D.TOi2.symm) (((t2.extBut e1.extBut D.l2z).extBut e2.extBut D.l2i1).extBut e3.extBut D.l2TO) hy λg4 e e4 he=>?_);obtain⟨oe,ho,hc⟩:=he;have z4:IsZip g4 z ti to .ellipsis:=e4 _ _ D.i2z.symm (e3.extBut _ _ D.TOz.symm (e2.extBut _ _ D.i1z.symm z1));have ez:e≠z:=λx=>by subst x;rw[z4]at ho;cases ho;simp at hc
  exact wpAny_setField_rec z4 (by simp) λg5 _ e5=>q g5 e (λc o c1 c2 c3 c4 x=>e5.extBut _ _ c1 (e4 _ _ c4 (e3.extBut _ _ c2 (e2.extBut _ _ c3 (e1.extBut _ _ c1 x))))) ⟨oe,e5.extBut _ _ ez ho,hc⟩
def uY{z ti to i1 i2 l1 l2:ε}{k:Nat}{xs ys:μ}{x y:χ}{Q:OU->ω->Prop}(D:ZipApart z ti to i1 i2 l1 l2)(st:Gz s.heap z ti to i1 i2 l1 l2 k .none)
  (t1:s.heap.IsTuple l1 xs) (t2:s.heap.IsTuple l2 ys) (hx:xs[k]?≈x) (hy:ys[k]?≈y)
  (q:∀ g,Gz g z ti to i1 i2 l1 l2 (k + 1) (rawInt ⇑s)->IsPair g ⇑s x y->(∀ c o,c≠z->c≠to->c≠i1->c≠i2->s.heap.get? c≈o->g.get? c≈o)->Q (↥(.ref ⇑s)) {s with heap:=g}):
  wpAny (model prog w) A (pyNext (.ref z)) Q E s:=by
 have hT:s.TypeIs (.ref z) "zip":=⟨_,st.z,Y⟩;unfold pyNext;exact Ja (wpAny_attempt (wpAny_callSpecial?_slot (name:=Str.ofString "__next__") hT K1 (wpAny_call_entry K1 hT U8 (sQ D st t1 t2 hx hy λg a1 a2 a3=>Jd (q g a1 a2 a3)) (U_ _))))
def uX{z ti to i1 i2 l1 l2:ε}{k:Nat}{xs ys:μ}{Q:OU->ω->Prop}(hh:A.handled=none)(D:ZipApart z ti to i1 i2 l1 l2)(st:Gz s.heap z ti to i1 i2 l1 l2 k .none)
  (t1:s.heap.IsTuple l1 xs) (t2:s.heap.IsTuple l2 ys) (Cg:xs[k]?=none\/ys[k]?=none)
  (q:∀ g,(∀ c o,c≠z->c≠to->c≠i1->c≠i2->s.heap.get? c≈o->g.get? c≈o)->Q none {s with heap:=g}):wpAny (model prog w) A (pyNext (.ref z)) Q E s:=by
 have hT:s.TypeIs (.ref z) "zip":=⟨_,st.z,Y⟩;unfold pyNext;refine Ja (wpAny_attempt (wpAny_callSpecial?_slot (name:=Str.ofString "__next__") hT K1 (wpAny_call_entry K1 hT U8 (sP hh D st t1 t2 Cg λg e hk he=>?_) (U_ _))));obtain⟨o,ho,hc⟩:=he;refine Ja (wpAny_isInstance (T:="StopIteration") (b:=true) ⟨o,ho,hc⟩ isSubtype_stop ?_);exact Jd (q _ hk)
end
def Hi(ps:List (V×V))(Ok:Hp->Prop):It :=
 ⟨λi H=>i<↑ps/\Ok H,λi H v H'=>∃ t p,ps[i]?≈p/\H t=none/\v=.ref t/\H'=upd H t (.tup [p.1,p.2]),λi H=>↑ps<=i/\Ok H⟩
section
variable {prog:Γ}{w:World}{A:Around}{E:EV}{s:ω}
abbrev K_(h:Heap)(l1:ε):Heap:=h.push {cls:=.type "tuple_iterator",data:=.fields #[.ref l1,.int 0 0] }
abbrev SN(h:Heap)(l1 l2:ε):Heap:=(K_ h l1).push {cls:=.type "tuple_iterator",data:=.fields #[.ref l2,.int 0 0] }
abbrev SM(h:Heap)(l1 l2:ε):Heap:=(SN h l1 l2).push {cls:=.type "tuple",data:=.seq #[.ref h.objs.size,.ref (K_ h l1).objs.size] }
abbrev SK(h:Heap)(l1 l2:ε):Heap:=(SM h l1 l2).push {cls:=.type "tuple",data:=.seq #[.none,.none] }
abbrev M3(h:Heap)(l1 l2:ε):Heap:=(SK h l1 l2).push {cls:=.type "zip",data:=.fields #[.none,.bool false,.bool false,.ref (SN h l1 l2).objs.size,.ref (SM h l1 l2).objs.size] }
def sM(l1 l2:ε)(xs ys:μ):Meets (Builtin.«zip.__new__» ⟨[.type "zip",.ref l1,.ref l2],[]⟩) (λ_ R s=>s.heap.IsTuple l1 xs/\s.heap.IsTuple l2 ys /\
   R (.ok (.ret (.ref (SK s.heap l1 l2).objs.size))) {s with heap:=M3 s.heap l1 l2}):=
 .of_wp λprog w A R s h=>by
  obtain⟨hp,g,d,tk,os⟩:=s;obtain⟨t1,t2,h⟩:=h;have hsub:=sub_zip;have T1:Heap.IsTuple (Shared.heap ⟨hp,g,d,tk,os⟩) l1 xs:=t1;have T2:Heap.IsTuple (Shared.heap ⟨hp.push {cls:=.type "tuple_iterator",data:=.fields #[.ref l1,.int 0 0] },g,d,tk,os⟩) l2 ys:=Heap.IsTuple.push t2 _
  wp_walk using wpAny_pyIter_tuple T1,wpAny_pyIter_tuple T2
  exact⟨Z,h⟩
def qG{l1 l2:ε}{xs ys:μ}{Q:EV}(t1:s.heap.IsTuple l1 xs)(t2:s.heap.IsTuple l2 ys)
  (q:∀ g,Gz g (⇑s + 4) (⇑s + 2) (⇑s + 3) ⇑s (⇑s + 1) l1 l2 0 .none->(∀ c o,s.heap.get? c≈o->g.get? c≈o)->Q (.ref (⇑s + 4)) {s with heap:=g}):
  wpAny (model prog w) A (call (.type "zip") [.ref l1,.ref l2]) Q E s:=by
 refine callType_new PySem.F.called_zip (by decide) (PySem.F.typeCall_zip_2 _ _) (PySem.F.newCall_zip_2 _ _) (λobj=>PySem.F.args_object_init_3 obj _ _) PySem.F.entry_zip_new (sM l1 l2 xs ys) ⟨t1,t2,?_⟩;have n1:(K_ s.heap l1).objs.size=⇑s + 1:=C4 ..;have n2:(SN s.heap l1 l2).objs.size=⇑s + 2:=by rw[C4,n1]
 have n3:(SM s.heap l1 l2).objs.size=⇑s + 3:=by rw[C4,n2]
 have n4:(SK s.heap l1 l2).objs.size=⇑s + 4:=by rw[C4,n3]
 have up:∀ {h:Heap} {a:ε} {o:Obj} (x:Obj),h.get? a≈o->(h.push x).get? a≈o:=λx e=>Yc _ e;have f5:(M3 s.heap l1 l2).get? (SK s.heap l1 l2).objs.size≈_:=Ym _ rfl;have f4:(M3 s.heap l1 l2).get? (SM s.heap l1 l2).objs.size≈_:=up _ (Ym _ rfl);have f3:(M3 s.heap l1 l2).get? (SN s.heap l1 l2).objs.size≈_:=up _ (up _ (Ym _ rfl));have f2:(M3 s.heap l1 l2).get? (K_ s.heap l1).objs.size≈_:=up _ (up _ (up _ (Ym _ rfl)));have f1:(M3 s.heap l1 l2).get? ⇑s≈_:=up _ (up _ (up _ (up _ (Ym _ rfl))));show _/\_;rw[n2,n3,n4]at f5;rw[n1,n2]at f3;rw[n3]at f4;rw[n1]at f2;rw[n4];exact⟨⟨_,f5,Y⟩,q _ ⟨f5,f3,⟨Q,f4⟩,⟨_,f1,Y,Y⟩,⟨_,f2,Y,Y⟩⟩ λc o x=>up _ (up _ (up _ (up _ (up _ x))))⟩
end
def QP{xs ys:LV}{i:Nat}{p:V×V}(h:(xs.zip ys)[i]?≈p):xs[i]?≈p.1/\ys[i]?≈p.2:=by
 rw[YV]at h;exact h
def Inv.turnedNewL{X:Cx}{π:PL}{σ:St}{H:Hp}{s:ω}{h':Heap}{t':Nat}{ψ:τ}{a:ε}{o:HO}(I:Inv X π σ H s)(k:∀ b u,b∉ψ->s.heap.get? b≈u->h'.get? b≈u)
  (f:∀ b∈ψ,BH X π H b) (ha:⇑s<=a) (new:A7 X.prog X.w (upd H a o) h' a o):Inv X π σ (upd H a o) {s with heap:=h',toks:=t' }:=by
 have nit:∀ b u,H b≈u->b∉ψ:=λb u e z=>by have:=(f b z).1;rw[this]at e;cases e
 have na:∀ b u,H b≈u->b≠a:=λb u e=>Yv (Yo (I.hok.lt e) ha);have low:∀ {b u},H b≈u->(upd H a o) b≈u:=λ{b u} e=>by rw[AD (na b u e)];exact e
 refine I.step (g':=s.gens) (d':=s.drawn) (ch:=ψ) (λb hb=>?_) (λb u _ _ hc e _=>k b u hc e) (λb u _ _ hc e _=>⟨u.slots,k b u hc e⟩)
  (λb u _ e n=>by rw[AD (Yv (Yo (Yj e) ha))];exact n)
  (λb u hc e=>⟨u,k b u hc e⟩) (λ_ _ e=>low e) (λ_ _ _ e=>low e) (λb ps e=>⟨#[],by rw[low e];simp⟩) (λm hm=>?_) (λb u e=>?_) I.bare
 ·obtain⟨f0,f1,f2,f3,f4,f5⟩:=f b hb;exact⟨f3,f1,f4,f5⟩
 ·obtain⟨o',es,ep,ho,r⟩:=hm;exact⟨o',es,ep,k _ o' (λz=>(f _ z).2.1 rfl) ho,r⟩
 ·by_cases hb:b=a
  ·subst hb;rw[uS]at e;cases e;exact new
  ·rw[AD hb]at e;refine(I.hok b u e).stay (λc v hc q=>k c v ?_ q) (λ_ q=>low q) λ_ _ q=>low q
   rcases hc with z | z
   ·rw[z];exact nit b u e
   ·exact nit c _ z
def Inv.turnedL{X:Cx}{π:PL}{σ:St}{H:Hp}{s:ω}{h':Heap}{t':Nat}{ψ:τ}(I:Inv X π σ H s)(k:∀ b u,b∉ψ->s.heap.get? b≈u->h'.get? b≈u)
  (f:∀ b∈ψ,BH X π H b):Inv X π σ H {s with heap:=h',toks:=t' }:=by
 have nit:∀ b u,H b≈u->b∉ψ:=λb u e z=>by have:=(f b z).1;rw[this]at e;cases e
 refine I.step (g':=s.gens) (d':=s.drawn) (ch:=ψ) (λb hb=>?_) (λb u _ _ hc e _=>k b u hc e) (λb u _ _ hc e _=>⟨u.slots,k b u hc e⟩)
  (λb u _ e n=>n) (λb u hc e=>⟨u,k b u hc e⟩) (λ_ _ e=>e) (λ_ _ _ e=>e) (λb ps e=>⟨#[],by rw[e];simp⟩) (λm hm=>?_) (λb u e=>?_) I.bare
 ·obtain⟨f0,f1,f2,f3,f4,f5⟩:=f b hb;exact⟨f3,f1,f4,f5⟩
 ·obtain⟨o',es,ep,ho,r⟩:=hm;exact⟨o',es,ep,k _ o' (λz=>(f _ z).2.1 rfl) ho,r⟩
 ·refine(I.hok b u e).stay (λc v hc q=>k c v ?_ q) (λ_ q=>q) λ_ _ q=>q
  rcases hc with z | z
  ·rw[z];exact nit b u e
  ·exact nit c _ z
def pX{P:Γ}{w:World}{K:Fg}{elts:δ}{x1}{pos:Pos}{xs ys:LV}(a b z ti to i1 i2:ε)(D:ZipApart z ti to i1 i2 a b):
  Ft P w K (.Tuple elts x1 pos) (Hi (xs.zip ys) λH=>AH K H a xs/\AH K H b ys) [z,ti,to,i1,i2] z (λi h=>Gz h z ti to i1 i2 a b i .none) where
 mem:=by simp
 obj:=λi h st c hc=>by
  have BM:c=z\/c=ti\/c=to\/c=i1\/c=i2:=by simpa using hc
  obtain⟨x,y,h3⟩:=st.to;obtain⟨o1,e1,_,d1⟩:=st.i1;obtain⟨o2,e2,_,d2⟩:=st.i2
  rcases BM with rfl | rfl | rfl | rfl | rfl
  ·exact⟨_,st.z,λv q=>by cases q⟩
  ·exact⟨_,st.ti,λv q=>by cases q⟩
  ·exact⟨_,h3,λv q=>by cases q⟩
  ·exact⟨_,e1,λv q=>by rw[d1]at q;cases q⟩
  ·exact⟨_,e2,λv q=>by rw[d2]at q;cases q⟩
 keep:=λi h h' st k=>st.at k
 item:=by
  intro X hP hw hK hc i π s σ H E I hf st hg;subst hP hw hK;obtain⟨hi,ha,hb⟩:=hg;obtain⟨p,hp⟩:∃ p,(xs.zip ys)[i]?≈p:=⟨(xs.zip ys)[i]'hi,Yb hi⟩;obtain⟨hx,hy⟩:=QP hp;obtain⟨ψ,rv,pa,_⟩:=I.tuple ha;obtain⟨jts,DK,pb,_⟩:=I.tuple hb;obtain⟨u,hu,ru⟩:=rv.get hx;obtain⟨v,hv,Vd⟩:=DK.get hy;refine uY D st (show s.heap.IsTuple a ψ.toArray from pa) (show s.heap.IsTuple b jts.toArray from pb) (by simpa using hu) (by simpa using hv) λg A1 hpr hk=>?_;refine⟨Z,?_⟩;refine wpAny_letOwnedTupleGo_zip (s:={s with heap:=g}) A1.z λg' z' sb=>?_;have zlt:z<⇑s:=Yj st.z;have nz:⇑s≠z:=DG zlt;have D8:Heap.ExtBut z g g':=sb.extBut;have hT:IsPair g' ⇑s u v:=D8 _ _ nz hpr;have I1:Inv X π σ (upd H ⇑s (.tup [p.1,p.2])) {s with heap:=g' }:=I.turnedNewL (t':=s.toks) (ψ:=[z,ti,to,i1,i2]) (λc o hc e=>D8 c o (λq=>hc (by simp[q])) (hk c o (λq=>hc (by simp[q])) (λq=>hc (by simp[q])) (λq=>hc (by simp[q])) (λq=>hc (by simp[q])) e)) hf (Yf _)
   ⟨U,[u,v],.cons ru (.cons Vd .nil),⟨_,hT,Y,Z⟩⟩
  have FY:Gz g' z ti to i1 i2 a b (i + 1) .none:=by
   obtain⟨a1,a2,a3⟩:=A1.to;exact⟨z',D8 _ _ D.TIz A1.ti,⟨a1,a2,D8 _ _ D.TOz a3⟩,A1.i1.extBut D8 D.i1z,A1.i2.extBut D8 D.i2z⟩
  refine⟨.ref ⇑s,_,I1,Y,⟨⇑s,p,hp,I.hok.fresh (Yf _),Y,Y⟩,FY,λc hc=>?_⟩;have lt:∀ c∈[z,ti,to,i1,i2],c<⇑s:=λc hc=>by
   have BM:c=z\/c=ti\/c=to\/c=i1\/c=i2:=by simpa using hc
   obtain⟨a1,a2,a3⟩:=st.to;obtain⟨o1,e1,_⟩:=st.i1;obtain⟨o2,e2,_⟩:=st.i2
   rcases BM with rfl | rfl | rfl | rfl | rfl
   ·exact zlt
   ·exact Yj st.ti
   ·exact Yj a3
   ·exact Yj e1
   ·exact Yj e2
  rw[AD (Yv (lt c hc))];exact(hf c hc).1
 done:=by
  intro X hP hw hK hc i π s σ H E I hf st hg;subst hP hw hK;obtain⟨hi,ha,hb⟩:=hg;obtain⟨ψ,rv,pa,_⟩:=I.tuple ha;obtain⟨jts,DK,pb,_⟩:=I.tuple hb;have l1:=↑rv;have l2:=↑DK;have Cg:ψ.toArray[i]?=none\/jts.toArray[i]?=none:=by
   rw[Ol]at hi
   rcases Nat.le_total ↑xs ↑ys with h | h
   ·rw[Nat.min_eq_left h]at hi;exact .inl (by simp;omega)
   ·rw[Nat.min_eq_right h]at hi;exact .inr (by simp;omega)
  exact uX (I.ok.hd hc) D st (show s.heap.IsTuple a ψ.toArray from pa) (show s.heap.IsTuple b jts.toArray from pb) Cg λg hk=>⟨Y,I.turnedL (t':=s.toks) (ψ:=[z,ti,to,i1,i2]) (λc o hc e=>hk c o (λq=>hc (by simp[q])) (λq=>hc (by simp[q])) (λq=>hc (by simp[q])) (λq=>hc (by simp[q])) e) hf⟩
 self:=λA i s Q E st h=>wpAny_pyIter_zip st.z h
section
variable {X:Cx}
def zo(K:Fg)(ta:TA):TI:=λσ H R=>ta σ H λvs H1=>∃(a b:ε) (xs ys:LV),vs=[.ref a,.ref b]/\AH K H1 a xs/\AH K H1 b ys/\R (Hi (xs.zip ys) λH=>AH K H a xs/\AH K H b ys) H1
def jw{elts:δ}{x1}{E6:Pos}{a b:Expr}{ta:TA}{p pos:Pos}(hg:Gl X "zip")(hm:X.mg "zip"=none)(ha:PA X [a,b] ta)(hs:starEach [a,b] X.env=[(false,eval a X.env),(false,eval b X.env)]:=by rfl)(Ge:starEach [b] X.env=[(false,eval b X.env)]:=by rfl):
  PI X (.Tuple elts x1 E6) (.Call (.Name "zip" p) [a,b] [] pos) (zo X.K ta):=by
 intro π s σ H R I h;refine Call_ (F1 I hg hm boot_zip (Js (AM (ha pos π s σ H _ I h) λus s1 ⟨vs,H1,I1,r1,q1⟩=>?_) (by rw[hs,Ge]) (by rw[Ge];rfl)));obtain⟨l1,l2,xs,ys,e,t1,t2,q⟩:=q1;subst e;cases r1 with
 | cons r rr =>
  cases rr with
  | cons r' rr =>
   cases rr;obtain rfl:_=Value.ref l1:=r;obtain rfl:_=Value.ref l2:=r';obtain⟨ψ,rv,pa,_⟩:=I1.tuple t1;obtain⟨jts,DK,pb,_⟩:=I1.tuple t2;have b1:s1.heap.IsTuple l1 ψ.toArray:=pa;have b2:s1.heap.IsTuple l2 jts.toArray:=pb;have NB:l1<⇑s1:=let⟨_,e,_⟩:=b1;Yj e;have Vr:l2<⇑s1:=let⟨_,e,_⟩:=b2;Yj e;refine qG b1 b2 λg st hk=>wpAny_pyIter_zip (s:={s1 with heap:=g}) st.z ?_;have D:ZipApart (⇑s1 + 4) (⇑s1 + 2) (⇑s1 + 3) ⇑s1 (⇑s1 + 1) l1 l2:=W.ktu_apart _ _ _ NB Vr;refine⟨_,[⇑s1 + 4,⇑s1 + 2,⇑s1 + 3,⇑s1,⇑s1 + 1],Q,H1,Y,I1.kept (t':=s1.toks) λb o e=>hk b o e,pX l1 l2 _ _ _ _ _ D,st,λc hc=>?_,q⟩;have BM:c=⇑s1 + 4\/c=⇑s1 + 2\/c=⇑s1 + 3\/c=⇑s1\/c=⇑s1 + 1:=by simpa using hc
   have ge:⇑s1<=c:=by
    rcases BM with rfl | rfl | rfl | rfl | rfl
    ·exact F7 _ _
    ·exact F7 _ _
    ·exact F7 _ _
    ·exact Yf _
    ·exact F7 _ _
   exact I1.fpOk ge (I1.hok.fresh ge)
end
def qM{prog:Γ}{w:World}{A:Around}(hh:A.handled=none)(p t:ε)(ne:t≠p)(us:μ):Draws prog w A p [p,t] us.size (λi v=>us[i]?≈v) (λi h=>h.IsTupleIter p t i/\h.IsTuple t us) where
 live:=λ_ _ st=>let⟨o,ho,_⟩:=st.1;⟨o,ho⟩
 frame:=λ_ _ _ st hk=>⟨st.1.at λo e=>hk p (by simp) o e,let⟨o,ho,r⟩:=st.2;⟨o,hk t (by simp) o ho,r⟩⟩
 item:=λi s Q E hi st q=>OH st.1 st.2 (u:=us[i]) (by simp[hi]) λg A1 sb=>q _ g s.toks (by simp[hi]) ⟨A1,st.2.extBut sb.extBut ne⟩ sb
 done:=λs Q E st q=>Qb hh st.1 st.2 (by simp) q
def K5(b:Bool)(h:Heap)(p a:ε)(i:Nat):Prop:=if b=true then h.IsListIter p a i else h.IsTupleIter p a i
def Y0(b:Bool)(h:Heap)(a:ε)(us:μ):Prop:=if b=true then h.IsList a us else h.IsTuple a us
theorem K5.at{b:Bool}{h h':Heap}{p a:ε}{i:Nat}(x:K5 b h p a i)(e:∀ o,h.get? p≈o->h'.get? p≈o):K5 b h' p a i:=by
 cases b with
 | true=>exact Heap.IsListIter.at (show h.IsListIter p a i from x) e
 | false=>exact Heap.IsTupleIter.at (show h.IsTupleIter p a i from x) e
def K5.obj{b:Bool}{h:Heap}{p a:ε}{i:Nat}(x:K5 b h p a i):∃ o,h.get? p≈o/\∀ v,o.data≠.cell v:=by
 cases b with
 | true =>
  obtain⟨o,e,_,d⟩:=(show h.IsListIter p a i from x);exact⟨o,e,λv z=>by rw[d]at z;cases z⟩
 | false =>
  obtain⟨o,e,_,d⟩:=(show h.IsTupleIter p a i from x);exact⟨o,e,λv z=>by rw[d]at z;cases z⟩
def qL{prog:Γ}{w:World}{A:Around}(b:Bool)(hh:A.handled=none)(p t:ε)(ne:t≠p)(us:μ):Draws prog w A p [p,t] us.size (λi v=>us[i]?≈v) (λi h=>K5 b h p t i/\Y0 b h t us):=by
 cases b with
 | true=>exact Draws.list hh p t ne us
 | false=>exact qM hh p t ne us
def Inv.sseq{X:Cx}{π:PL}{σ:St}{H:Hp}{s:ω}{b:Bool}{a:ε}{xs:LV}(I:Inv X π σ H s)(h:EK X.K b H a xs):∃ ψ:LU,AQ xs ψ/\Y0 b s.heap a ψ.toArray:=by
 cases b with
 | true =>
  obtain⟨ψ,rv,p,_⟩:=I.list (show SqL X.K H a xs from h);exact⟨ψ,rv,p.isList⟩
 | false =>
  obtain⟨ψ,rv,p,_⟩:=I.tuple (show AH X.K H a xs from h);exact⟨ψ,rv,p⟩
def HS(xs:LV):List (V×V):=(C2 0 ↑xs).zip xs
def N7(xs:LV):↑(HS xs)=↑xs:=by
 unfold HS;rw[Ol,Cw,Nat.min_self]
def QT{xs:LV}{i:Nat}{p:V×V}(h:(HS xs)[i]?≈p):p.1=.int i/\xs[i]?≈p.2:=by
 obtain⟨h1,h2⟩:=QP h;obtain⟨_,e⟩:=EH h1;exact⟨by rw[e,FV],h2⟩
section
variable {prog:Γ}{w:World}{A:Around}{E:EV}{s:ω}
def tZ(l:ε)(us:μ):Meets (Builtin.«enumerate.__new__» ⟨[.type "enumerate",.ref l],[]⟩) (λ_ R s=>s.heap.IsTuple l us /\
   R (.ok (.ret (.ref (s.heap.push {cls:=.type "tuple_iterator",data:=.fields #[.ref l,.int 0 0] }).objs.size)))
    {s with heap:=(s.heap.push {cls:=.type "tuple_iterator",data:=.fields #[.ref l,.int 0 0] }).push {cls:=.type "enumerate",data:=.fields #[.none,.bool false,.ref ⇑s,rawInt 0,.none,.none] } }):=
 .of_wp λprog w A R s h=>by
  obtain⟨hp,g,d,tk,os⟩:=s;obtain⟨ht,h⟩:=h;have hsub:=sub_enumerate;obtain⟨⟨c,dct,dt,sl⟩,hl,hc,n,hd⟩:=id ht;replace hc:c=.type "tuple":=hc;replace hd:dt=.seq us n:=hd;subst hc hd;have hT:Heap.IsTuple (Shared.heap ⟨hp,g,d,tk,os⟩) l us:=ht
  wp_walk using VD hl
  refine wpAny_stack_any λst=>Jd ?_;split
  ·rename_i c _ _ _ _ _
   cases(c == Value.type "enumerate")
   ·wp_walk using VD hl,wpAny_pyIter_tuple hT
    exact⟨Z,h⟩
   ·wp_walk using VD hl,wpAny_pyIter_tuple hT
    exact⟨Z,h⟩
  ·wp_walk using VD hl,wpAny_pyIter_tuple hT
   exact⟨Z,h⟩
def qD(b:Bool){l:ε}{us:μ}{Q:EV}(hl:Y0 b s.heap l us)
  (q:∀ g,IsEnum g (⇑s + 1) ⇑s 0 .none->K5 b g ⇑s l 0->(∀ c o,s.heap.get? c≈o->g.get? c≈o)->Q (.ref (⇑s + 1)) {s with heap:=g}):
  wpAny (model prog w) A (call (.type "enumerate") [.ref l]) Q E s:=by
 cases b with
 | true=>exact call_enumerate_list (show s.heap.IsList l us from hl) λg h1 h2 _ h4=>q g h1 h2 h4
 | false =>
  refine callType_new PySem.F.called_enumerate (by decide) (PySem.F.typeCall_enumerate_1 _) (PySem.F.newCall_enumerate_1 _) (λobj=>PySem.F.args_object_init_2 obj _) PySem.F.entry_enumerate_new (tZ l us) ⟨hl,?_⟩;have n1:(K_ s.heap l).objs.size=⇑s + 1:=C4 ..;show _/\_;rw[n1];have he:IsEnum ((K_ s.heap l).push {cls:=.type "enumerate",data:=.fields #[.none,.bool false,.ref ⇑s,rawInt 0,.none,.none] }) (⇑s + 1) ⇑s 0 .none:=by
   have:=Ym (K_ s.heap l) (o:={cls:=.type "enumerate",data:=.fields #[.none,.bool false,.ref ⇑s,rawInt 0,.none,.none] }) rfl;rw[n1]at this;exact this
  exact⟨⟨_,he,Y⟩,q _ he ⟨_,Yc _ (Ym _ rfl),Y,Y⟩ λc o x=>Yc _ (Yc _ x)⟩
end
def bU{prog:Γ}{w:World}{A:Around}{E:EV}{s:ω}{e p:ε}{i:Int}{old:χ}{Q:OU->ω->Prop}(hh:A.handled=none)(he:IsEnum s.heap e p i old)
  (nx:∀(Q:EV) (E:EV),(∀ g e,Heap.ExtBut p s.heap g->(∃ o,g.get? e≈o/\o.cls=.type "StopIteration")->E (.ref e) {s with heap:=g})->wpAny (model prog w) A.in1 (Builtin.SmallTypes.nextOf (.ref p)) Q E s)
  (q:∀ g,Heap.ExtBut p s.heap g->Q none {s with heap:=g}):wpAny (model prog w) A (pyNext (.ref e)) Q E s:=by
 have hT:s.TypeIs (.ref e) "enumerate":=⟨_,he,Y⟩;unfold pyNext;refine Ja (wpAny_attempt (wpAny_callSpecial?_slot (name:=Str.ofString "__next__") hT PySem.F.slot_enumerate_next (wpAny_call_entry PySem.F.slot_enumerate_next hT PySem.F.entry_enumerate_next ?_ (PySem.F.args_enumerate_next_1 _))));show wpAny _ _ (field (.ref e) 2>>=_) _ _ _;refine Ja (Jg he rfl (x:=.ref p) rfl (Ja (nx _ _ λg x eb hx=>?_)));obtain⟨o,ho,hc⟩:=hx;refine Ja (wpAny_isInstance (T:="StopIteration") (b:=true) ⟨o,ho,hc⟩ isSubtype_stop ?_);exact Jd (q _ eb)
def rQ{P:Γ}{w:World}{K:Fg}{elts:δ}{x1}{pos:Pos}{xs:LV}(b:Bool)(a e p:ε)(ep:e≠p)(ea:e≠a)(ap:a≠p):
  Ft P w K (.Tuple elts x1 pos) (Hi (HS xs) λH=>EK K b H a xs) [e,p] e (λi h=>(∃ old,IsEnum h e p i old)/\K5 b h p a i) where
 mem:=by simp
 obj:=λi h st c hc=>by
  have BM:c=e\/c=p:=by simpa using hc
  obtain⟨⟨old,he⟩,si⟩:=st
  rcases BM with rfl | rfl
  ·exact⟨_,he,λv q=>by cases q⟩
  ·exact si.obj
 keep:=λi h h' st k=>by
  obtain⟨⟨old,he⟩,si⟩:=st;exact⟨⟨old,k e (by simp) _ he⟩,si.at λo q=>k p (by simp) o q⟩
 item:=by
  intro X hP hw hK hc i π s σ H E I hf st hg;subst hP hw hK;obtain⟨hi,ha⟩:=hg;obtain⟨⟨old,he⟩,si⟩:=st;obtain⟨pr,hp⟩:∃ p,(HS xs)[i]?≈p:=⟨(HS xs)[i]'hi,Yb hi⟩;obtain⟨e1,hx⟩:=QT hp;obtain⟨ψ,rv,sq⟩:=I.sseq ha;obtain⟨u,hu,ru⟩:=rv.get hx;have hil:i<ψ.toArray.size:=by rw[N7]at hi;have:=↑rv;simp;omega
  have D:=qL (prog:=X.prog) (w:=X.w) (A:=X.A.in1) b (I.ok.hd hc) p a ap ψ.toArray;refine wpAny_pyNext_enum_itemD D he ⟨si,sq⟩ hil ep (by simp;exact⟨ep,ea⟩) λx g tk hPx ho hst hT _ hk=>?_;have exu:x=u:=by
   have h1:ψ.toArray[i]?≈x:=hPx;have h2:ψ.toArray[i]?≈u:=by simpa using hu
   rw[h1]at h2;exact BQ h2
  subst exu;refine⟨Z,?_⟩;refine wpAny_letOwnedTupleGo_enum (s:={s with heap:=g,toks:=tk + 1}) ho λg' mm sb=>?_;have elt:e<⇑s:=Yj he;have plt:p<⇑s:=let⟨o,q,_⟩:=si.obj;Yj q;have D8:Heap.ExtBut e g g':=sb.extBut;have JK:IsPair g' ⇑s (.int i tk) x:=D8 _ _ (DG elt) hT;have I1:Inv X π σ (upd H ⇑s (.tup [pr.1,pr.2])) {s with heap:=g',toks:=tk + 1}:=I.turnedNewL (t':=tk + 1) (ψ:=[e,p]) (λc o hc q=>D8 c o (λz=>hc (by simp[z])) (hk c o (λz=>hc (by simp[z])) (λz=>hc (by simp[z])) q)) hf (Yf _)
   ⟨U,[.int i tk,x],.cons (by rw[e1];exact⟨tk,Y⟩) (.cons ru .nil),⟨_,JK,Y,Z⟩⟩
  refine⟨.ref ⇑s,_,I1,Y,⟨⇑s,pr,hp,I.hok.fresh (Yf _),Y,Y⟩,⟨⟨x,by simpa using mm⟩,hst.1.at λo q=>D8 _ o (Yx ep) q⟩,λc hc=>?_⟩;have BM:c=e\/c=p:=by simpa using hc
  have ne:c≠⇑s:=by
   rcases BM with rfl | rfl
   ·exact Yv elt
   ·exact Yv plt
  rw[AD ne];exact(hf c hc).1
 done:=by
  intro X hP hw hK hc i π s σ H E I hf st hg;subst hP hw hK;obtain⟨hi,ha⟩:=hg;obtain⟨⟨old,he⟩,si⟩:=st;obtain⟨ψ,rv,sq⟩:=I.sseq ha;have hl:=↑rv;rw[N7]at hi;cases b with
  | true =>
   have si:s.heap.IsListIter p a i:=si;have sq:s.heap.IsList a ψ.toArray:=sq;refine bU (I.ok.hd hc) he (λQ E hE=>wpAny_nextOf_list_end (I.ok.hd hc) si sq (by simp;omega) hE) λg eb=>⟨Y,I.turnedL (t':=s.toks) (ψ:=[e,p]) (λc o hc q=>eb c o (λz=>hc (by simp[z])) q) hf⟩
  | false =>
   have si:s.heap.IsTupleIter p a i:=si;have sq:s.heap.IsTuple a ψ.toArray:=sq;refine bU (I.ok.hd hc) he (λQ E hE=>Qb (I.ok.hd hc) si sq (by simp;omega) hE) λg eb=>⟨Y,I.turnedL (t':=s.toks) (ψ:=[e,p]) (λc o hc q=>eb c o (λz=>hc (by simp[z])) q) hf⟩
 self:=λA i s Q E st h=>let⟨⟨_,he⟩,_⟩:=st;wpAny_pyIter_enum he h
section
variable {X:Cx}
def va(K:Fg)(ta:TA):TI:=λσ H R=>ta σ H λvs H1=>∃(b:Bool) (a:ε) (xs:LV),vs=[.ref a]/\EK K b H1 a xs/\R (Hi (HS xs) λH=>EK K b H a xs) H1
def Wv{elts:δ}{x1}{E6:Pos}{a:Expr}{ta:TA}{p pos:Pos}(hg:Gl X "enumerate")(hm:X.mg "enumerate"=none)(ha:PA X [a] ta)(hs:starEach [a] X.env=[(false,eval a X.env)]:=by rfl):
  PI X (.Tuple elts x1 E6) (.Call (.Name "enumerate" p) [a] [] pos) (va X.K ta):=by
 intro π s σ H R I h;refine Call_ (F1 I hg hm boot_enumerate (Js (AM (ha pos π s σ H _ I h) λus s1 ⟨vs,H1,I1,r1,q1⟩=>?_) hs rfl));obtain⟨b,l,xs,e,t1,q⟩:=q1;subst e;cases r1 with
 | cons r rr =>
  cases rr;obtain rfl:_=Value.ref l:=r;obtain⟨ψ,rv,sq⟩:=I1.sseq t1;have NB:l<⇑s1:=by
   cases b with
   | true=>obtain⟨_,e,_⟩:=(show s1.heap.IsList l ψ.toArray from sq);exact Yj e
   | false=>obtain⟨_,e,_⟩:=(show s1.heap.IsTuple l ψ.toArray from sq);exact Yj e
  refine qD b sq λg he si hk=>wpAny_pyIter_enum (s:={s1 with heap:=g}) he ?_;refine⟨_,[⇑s1 + 1,⇑s1],Q,H1,Y,I1.kept (t':=s1.toks) λb o e=>hk b o e,rQ b l _ _ (Nat.succ_ne_self _) (DG (Q_ NB)) (Yv NB),⟨⟨_,he⟩,si⟩,λc hc=>?_,q⟩;have BM:c=⇑s1 + 1\/c=⇑s1:=by simpa using hc
  have ge:⇑s1<=c:=by
   rcases BM with rfl | rfl
   ·exact F7 _ _
   ·exact Yf _
  exact I1.fpOk ge (I1.hok.fresh ge)
end
end L2
namespace L2
open PySem PySem.Spec PyProof.Rows PySem.W
def U0{A:Around}{k:Nat}(hr:AV k A):A.units + 65<cLine:=by have:=hr.un;omega
def gg{κ:Type}[DecidableEq κ]{ν:List (κ×V)}{k:κ}(h:k∉ν.map (·.1)):Bm ν k=none:=by
 cases e:Bm ν k with
 | none=>rfl
 | some v=>exact absurd (ck e) h
def sf{κ:Type}[DecidableEq κ]{ν:List (κ×V)}{k:κ}{v:V}(h:k∉ν.map (·.1)):(BX ν k v).map (·.1)=ν.map (·.1)++[k]:=by
 rw[Nv v (gg h),BP];rfl
def ql{α:Type}{l:List α}(nd:l.Nodup){i:Nat}{x:α}(h:l[i]?≈x):x∉l.take i:=by
 intro m;have hi:=(Ye.mp h).1;have e:=(Ye.mp h).2;have sp:l=l.take i++l.drop i:=(MS i l).symm;rw[sp]at nd;have q:=(Iq.mp nd).2.2 x m;refine q x ?_ rfl;rw[RE hi,e];exact Jr
def XH{ps:List (V×V)}{Ok:Hp->Prop}{g:TG}{tb:TS}{D:HJ}{σ:St}{H:Hp}(Pv:NW)(h0:Pv 0 σ H)(hl:∀ i σ H,i<=↑ps->Pv i σ H->Ok H)
  (hs:∀ i p t σ H,ps[i]?≈p->Pv i σ H->H t=none->g (.ref t) σ (upd H t (.tup [p.1,p.2])) λσ2 H2=>tb {D with nx:=Pv (i + 1),ct:=Pv (i + 1),bk:=D.nx} σ2 H2) (hd:∀ σ H,Pv ↑ps σ H->D.nx σ H):
  ∃ W:Nat->Nat->St->Hp->Prop,(∃ m,W 0 m σ H)/\∀ i m σ H,W i m σ H ->
   ((Hi ps Ok).stop i H/\D.nx σ H)\/((Hi ps Ok).go i H/\∃ N:SW,(∀ σ' H',N σ' H'->∃ m',m'<m/\W (i + 1) m' σ' H')/\∀ x H',(Hi ps Ok).yld i H x H'->g x σ H' λσ2 H2=>tb {D with nx:=N,ct:=N,bk:=D.nx} σ2 H2):=by
 refine⟨λi m σ H=>m=↑ps - i/\i<=↑ps/\Pv i σ H,⟨↑ps,by simp,BE _,h0⟩,?_⟩;rintro i m σ H ⟨rfl,hi,p⟩;have q:=hl i σ H hi p;by_cases AW:i<↑ps
 ·refine .inr ⟨⟨AW,q⟩,Pv (i + 1),λσ' H' p'=>⟨↑ps - (i + 1),W,Y,AW,p'⟩,λx H' y=>?_⟩;obtain⟨t,pr,hp,ht,rfl,rfl⟩:=y;exact hs i pr t σ H hp p ht
 ·have e:i=↑ps:=by omega
  subst e;exact .inl ⟨⟨Yf _,q⟩,hd σ H p⟩
abbrev g2(K:Fg)(i j:Nat):TG:=iO K 2 (YC (C_ i) (YC (C_ j) iN))
def vZ{K:Fg}{i j:Nat}{t:ε}{x y:V}{σ:St}{H:Hp}{R:SW}(h:AH K H t [x,y])(q:R ((σ.set i (↥x)).set j (↥y)) H):g2 K i j (.ref t) σ H R :=
 ⟨t,[x,y],Y,h,Y,x,[y],Y,y,[],Y,Y,q⟩
def Tg{K:Fg}{i j:Nat}{t:ε}{x y:V}{σ:St}{H:Hp}{R:SW}(q:R ((σ.set i (↥x)).set j (↥y)) (upd H t (.tup [x,y]))):g2 K i j (.ref t) σ (upd H t (.tup [x,y])) R :=
 vZ (AH.of uS) q
def Tc{X:Cx}{K:Fg}{i j:Nat}{x y:Str}{p q pos:Pos}{c:Nat}(hK:X.K=K)(hc:X.calm=true)(hN:X.N.Nodup)(hi:X.N[i]?≈x)(hj:X.N[j]?≈y)(hx:Loc X.env.scope x)(hy:Loc X.env.scope y)
  (fx:X.fn x=true\/X.env.scope.names.lookup x≈.local) (fy:X.fn y=true\/X.env.scope.names.lookup y≈.local):PG X (.Tuple [.Name x p,.Name y q] c pos) (g2 K i j):=by
 subst hK;exact IU hc (gC (Az (i:=i) hN hi hx fx) (gC (Az (i:=j) hN hj hy fy) IY))
def B1{H:Hp}{t:ε}{o:HO}(h:H t=none):AA H (upd H t o):=λb u e=>by rw[AD (AK e h)];exact e
def hJ{α:Type}(p:α->Bool):∀(xs:List α) (i:Nat) (x:α),xs[i]?≈x->(xs.take (i + 1)).filter p=(xs.take i).filter p++if p x=true then[x]else[]:=by
 intro xs i x h;rw[Ce,h,List.filter_append]
 congr 1
 cases e:p x <;> simp[List.filter,e]
def XG{K:Fg}{ps:List (V×V)}{Ok:Hp->Prop}{js:LN}{tt:TT}{te:TE}{σ:St}{Q:VK}{H1:Hp}(hz:↑ps<=sizeLine)(p:V×V->Bool)(F:ε->V×V->V->Hp->Prop)
  (hF:∀ D x v H H',(∀ b o,b≠D->H b≈o->H' b≈o)->F D x v H->F D x v H')
  (hok:∀ H,AA H1 H->Ok H)
  (ht:∀ x H (R:Bool->Hp->Prop),AA H1 H->x∈ps->(∀ H',AA H H'->R (p x) H')->tt (↥x.1 :: some x.2 :: js.map λj=>(σ[j]?).join) H R)
  (he:∀ D x H (R:V->Hp->Prop),AA H1 H->(∃ ys,H D≈(.lst ys))->H1 D=none->x∈ps->p x=true->(∀ v H',AA H H'->F D x v H'->R v H')->te (↥x.1 :: some x.2 :: js.map λj=>(σ[j]?).join) H R)
  (hd:∀ D H' ys,H1 D=none->AA H1 H'->H' D≈(.lst ys)->Paired (λx v=>F D x v H') (ps.filter p) ys->Q (.ref D) H'):
  AU 2 js (g2 K 0 1) tt te σ Q (Hi ps Ok) H1:=by
 intro D hD;refine⟨λi m ys σ' H=>m=↑ps - i/\i<=↑ps/\AA H1 H/\H D≈(.lst ys)/\Paired (λx v=>F D x v H) ((ps.take i).filter p) ys/\∃ o u,σ'=o :: u :: js.map λj=>(σ[j]?).join,
  ⟨↑ps,by simp,BE _,B1 hD,uS,by simpa using Paired.nil,none,none,Y⟩,?_⟩
 rintro i m ys σ' H ⟨rfl,hi,hs,hl,hp,o,u,rfl⟩;have mono:∀ {H H':Hp},(∀ b o,b≠D->H b≈o->H' b≈o)->Paired (λx v=>F D x v H) ((ps.take i).filter p) ys->Paired (λx v=>F D x v H') ((ps.take i).filter p) ys:=λh q=>Paired.mapP q λa b z=>hF D a b _ _ h z;by_cases AW:i<↑ps
 ·have yl:↑ys<sizeLine:=by
   rw[<- ↑hp];refine RD (Hg _ _) ?_;rw[BU];omega
  refine .inr ⟨⟨AW,hok H hs⟩,yl,λLA σ3 H3=>AA H1 H3/\H3 D≈(.lst LA)/\Paired (λx v=>F D x v H3) ((ps.take (i + 1)).filter p) LA/\∃ o u,σ3=o :: u :: js.map λj=>(σ[j]?).join,
   λLA σ3 H3 z=>⟨↑ps - (i + 1),W,Y,AW,z⟩,λx H2 y=>?_⟩
  obtain⟨t,x,hx,LP,rfl,rfl⟩:=y;refine Tg ?_;show tt (↥x.1 :: some x.2 :: js.map λj=>(σ[j]?).join) (upd H t (.tup [x.1,x.2])) _;have hm:x∈ps:=Yd hx;have st:AA H (upd H t (.tup [x.1,x.2])):=B1 LP;refine ht x _ _ (hs.trans st) hm λH4 s4=>?_;have IA:AA H H4:=st.trans s4;have LR:AA H1 H4:=hs.trans IA;cases hpx:p x with
  | true =>
   rw[if_pos rfl];refine he D x H4 _ LR ⟨_,IA _ _ hl⟩ hD hm hpx λv H5 s5 f5=>⟨s5 _ _ (IA _ _ hl),λb o e=>?_,uS,?_,_,Z⟩
   ·rw[AD (AK e hD)];exact s5 _ _ (LR _ _ e)
   ·rw[hJ p ps i x hx,hpx,if_pos rfl];refine EZ (mono (λb o hb e=>by rw[AD hb];exact s5 _ _ (IA _ _ e)) hp) (hF D _ _ _ _ (λb o hb e=>by rw[AD hb];exact e) f5)
  | false =>
   rw[if_neg Yq];refine⟨LR,IA _ _ hl,?_,_,Z⟩;rw[hJ p ps i x hx,hpx,if_neg Yq,Eb];exact mono (λb o _ e=>IA _ _ e) hp
 ·have e:i=↑ps:=by omega
  subst e;rw[Dy]at hp;exact .inl ⟨⟨Yf _,hok H hs⟩,hd D H ys hD hs hl hp⟩
theorem XI{α:Type}{f:α->V}:∀ {xs:List α}{ys:LV},Paired (λx v=>v=f x) xs ys->ys=xs.map f
 | _,_,.nil=>rfl
 | _,_,.cons r t=>by rw[Yr,r,XI t]
def eR{K:Fg}{ps:List (V×V)}{Ok:Hp->Prop}{js:LN}{tt:TT}{te:TE}{σ:St}{Q:VK}{H1:Hp}(hz:↑ps<=sizeLine)(p:V×V->Bool)(f:V×V->V)
  (hok:∀ H,AA H1 H->Ok H)
  (ht:∀ x H (R:Bool->Hp->Prop),AA H1 H->x∈ps->(∀ H',AA H H'->R (p x) H')->tt (↥x.1 :: some x.2 :: js.map λj=>(σ[j]?).join) H R)
  (he:∀ x H (R:V->Hp->Prop),AA H1 H->x∈ps->p x=true->(∀ H',AA H H'->R (f x) H')->te (↥x.1 :: some x.2 :: js.map λj=>(σ[j]?).join) H R)
  (hd:∀ D H',H1 D=none->AA H1 H'->H' D≈(.lst ((ps.filter p).map f))->Q (.ref D) H'):
  AU 2 js (g2 K 0 1) tt te σ Q (Hi ps Ok) H1 :=
 XG hz p (λ_ x v _=>v=f x) (λ_ _ _ _ _ _ z=>z) hok ht (λD x H R hs _ _ hx hp k=>he x H R hs hx hp λH' s'=>k _ _ s' rfl)
  λD H' ys hD hs hl hp=>hd D H' hD hs (by rw[hl,XI hp])
def EG{J:It}{xs:LV}{Ok:Hp->Prop}(R:Fs J xs Ok){js:LN}{tt:TT}{te:TE}{σ:St}{Q:VK}{H1:Hp}(hz:↑xs<=sizeLine)(p:V->Bool)(f:V->V)
  (hok:∀ H,AA H1 H->Ok H)
  (ht:∀ x H (R:Bool->Hp->Prop),AA H1 H->x∈xs->(∀ H',AA H H'->R (p x) H')->tt (↥x :: js.map λj=>(σ[j]?).join) H R)
  (he:∀ x H (R:V->Hp->Prop),AA H1 H->x∈xs->p x=true->(∀ H',AA H H'->R (f x) H')->te (↥x :: js.map λj=>(σ[j]?).join) H R)
  (hd:∀ D H',H1 D=none->AA H1 H'->H' D≈(.lst ((xs.filter p).map f))->Q (.ref D) H'):
  AU 1 js (C_ 0) tt te σ Q J H1 :=
 T5 R hz p (λ_ x v _=>v=f x) (λ_ _ _ _ _ _ z=>z) hok ht (λD x H R hs _ _ hx hp k=>he x H R hs hx hp λH' s'=>k _ _ s' rfl)
  λD H' ys hD hs hl hp=>hd D H' hD hs (by rw[hl,XI hp])
section
variable {X:Cx}
theorem bX{d:Dat}{n:Nat}(h2:kqdOk n d=true):∀ {ds:List Dat},ds.all (kqdOk 8)=true->((kqdPs ds).any λy=>PyData.eqv y (kqdP d))=ds.any λe=>C8 e d
 | [],_=>by rw[kqdPs];rfl
 | e :: ds,h=>by
  rw[List.all_cons,EI]at h;rw[kqdPs,Kn,Kn,Tn h.1 h2,bX h2 h.2]
def zE(K:Fg)(f:Bool->Bool):R2:=λx y H Q=>∃ d ds,Rep K H x d/\Rep K H y (.list ds)/\kqdOk 9 d=true/\ds.all (kqdOk 8)=true/\Q (.bl (f (ds.any λe=>C8 e d))) H
def dX{ds:List Dat}(h:ds.all (kqdOk 8)=true):SeqAt.shaped (PyData.list (kqdPs ds))=true:=by
 have:=JU (d:=.list ds) (by rw[kqdOk];exact h);rw[kqdP]at this;exact this
def qz(hu:X.A.units + 65<cLine):BV X (compareOp .NotIn) (zE X.K Bool.not):=by
 exfalso;obtain⟨d,ds,h1,h2,k1,k2,q⟩:=h;obtain⟨as,ra⟩:=h1.reads I rx;obtain⟨bs,rb⟩:=h2.reads I ry;rw[kqdP]at rb;exact SeqAt.notIn_list_reads rb ra (U7 (dX k2)) (U7 (JU k1)) (room_in_shaped (JU k1) hu) (BI I q (by rw[bX k1 k2]))
end
def AI(i:Nat):V:=.int (i:Nat)
def IL(i:Nat):Dat:=.int (i:Nat)
theorem XQ{K:Fg}{H:Hp}:∀ ns:LN,Ar K H (ns.map AI) (ns.map IL)
 | []=>.nil
 | n :: r=>.cons (.int _) (XQ r)
def cM(n:Nat)(ns:LN):kqdOk (n + 1) (.list (ns.map IL))=true:=by
 rw[kqdOk,Bv];intro z hz;obtain⟨x,_,rfl⟩:=Yk.mp hz;unfold IL;rw[kqdOk]
def Xg(n:Nat):C2 0 n=(List.range n).map AI:=by
 refine OZ λi=>?_;by_cases hi:i<n
 ·have h1:(C2 0 n)[i]?≈((C2 0 n)[i]'(by rw[Cw];exact hi)):=Yb _;obtain⟨_,e⟩:=EH h1;rw[h1,e,Yh,JZ hi];show some (V.int (0 + (i:Nat)))≈(V.int (i:Nat));rw[FV]
 ·rw[E2 (by rw[Cw];omega),E2 (by simp;omega)]
end L2
namespace L2
open PySem PySem.Spec PyProof.Rows
def mB(k:Nat)(v:χ):Bool:=match v with
 | .int i _=>i == (k:Nat)
 | _=>false
def wj{ms:LN}{ψ:LU}(r:AQ (ms.map AI) ψ){m:Nat}{u:χ}(h:ψ[m]?≈u):∃ i t,ms[m]?≈i/\u=.int (i:Nat) t:=by
 have hl:=↑r;rw[Ya]at hl;have hm:m<↑ms:=by have:=(Ye.mp h).1;omega
 have hx:(ms.map AI)[m]?≈(AI ms[m]):=by rw[Yh,Yb hm];rfl
 obtain⟨u',BR,ru⟩:=r.get hx;rw[h]at BR;cases BR;obtain⟨t,e⟩:=(show ∃ t,u=Value.int (ms[m]:Nat) t from ru);exact⟨ms[m],t,Yb hm,e⟩
theorem fZ:∀ {ms:LN}{k m:Nat},m<ms.idxOf k->ms[m]?≠some k
 | [],k,m,h=>by simp
 | a :: r,k,m,h=>by
  rw[Qw]at h;by_cases e:a=k
  ·simp[e]at h
  ·have e':(a == k)=false:=by simpa using e
   rw[e']at h;cases m with
   | zero=>simp[e]
   | succ m =>
    rw[List.getElem?_cons_succ];exact fZ (by simpa using h)
theorem eT:∀(ms:LN) (k:Nat),ms.eraseIdx (ms.idxOf k)=ms.erase k
 | [],k=>by simp
 | a :: r,k=>by
  rw[Qw,List.erase_cons];by_cases e:a=k
  ·simp[e]
  ·have e':(a == k)=false:=by simpa using e
   rw[e',if_neg (by decide)];simp only[cond_false,VA];rw[eT r k]
theorem eU{α β:Type}(f:α->β):∀(l:List α) (j:Nat),(l.map f).eraseIdx j=(l.eraseIdx j).map f
 | [],_=>rfl
 | _ :: _,0=>rfl
 | a :: r,j + 1=>by
  rw[Yr,VA,VA,Yr,eU f r j]
section
variable {X:Cx}
def yO:V->LV->Hp->VK->Prop:=λx vs H Q=>∃(l:ε) (ms:LN) (k:Nat),x=.ref l/\vs=[.int (k:Nat)]/\H l≈(.lst (ms.map AI))/\k∈ms/\Q .non (upd H l (.lst ((ms.erase k).map AI)))
def qf:Ou X "list.remove" yO:=by
 intro π s σ H x vs v us Q I rx rv h;obtain⟨l,ms,k,rfl,rfl,hH,hk,q⟩:=h;cases rx;obtain⟨u,rfl,ru⟩:=rv.one;obtain⟨t,rfl⟩:=ru;obtain⟨z,ψ,n,r,hl,e⟩:=I.lstM hH;have Fh:↑ψ=↑ms:=by rw[<- hl,Ya]
 have hj:ms.idxOf k<↑ms:=List.idxOf_lt_length_of_mem hk;have get:∀ m (hm:m<ψ.toArray.size),∃ t,ψ.toArray[m]=.int ((ms[m]'(by simp at hm;omega):Nat):Int) t:=λm hm=>by
  have J_:m<↑ψ:=by simpa using hm
  obtain⟨i,t,h1,h2⟩:=wj r (Yb J_);have e1:ms[m]'(by omega)=i:=BQ ((Yb (by omega)).symm.trans h1);refine⟨t,?_⟩;rw[e1];simpa using h2
 refine call_meets PySem.F.slot_list_remove ⟨_,e,Y⟩ PySem.F.entry_list_remove (PySem.F.args_list_remove_2 _ _)
  (MeetsSeq.list_remove l ψ.toArray n (.int (k:Nat) t) (mB k) (λy hy=>?_) (ms.idxOf k) (by simp;omega) ?_ (λm hm AW=>?_) (by simp;omega)) ⟨e,?_⟩
 ·obtain⟨m,hm,e'⟩:=Array.getElem_of_mem hy;obtain⟨t',e2⟩:=get m hm;rw[<- e',e2];exact MeetsSeq.EqGives.int _ _ _ _
 ·obtain⟨t',e2⟩:=get (ms.idxOf k) (by simp;omega);rw[e2];show(((ms[ms.idxOf k]:Nat):Int) == (k:Nat))=true;rw[List.getElem_idxOf hj];simp
 ·obtain⟨t',e2⟩:=get m hm;rw[e2];have J_:m<↑ms:=by simp at hm;omega
  show(((ms[m]:Nat):Int) == (k:Nat))=false;have:ms[m]≠k:=λz=>fZ AW (by rw[Yb J_,z]);rw[beq_eq_false_iff_ne];intro z;exact this (by omega)
 ·refine⟨.non,_,I.lset (its':=ψ.eraseIdx (ms.idxOf k)) (ys:=(ms.map AI).eraseIdx (ms.idxOf k)) hH e ?_ (r.eraseIdx _) ?_,Y,?_⟩
  ·show ψ.toArray.eraseIdxIfInBounds _=(ψ.eraseIdx _).toArray;rw[List.eraseIdxIfInBounds_toArray]
  ·have:=fm (ms.map AI) (ms.idxOf k);omega
  ·rw[eU,eT];exact q
end
end L2
namespace L2
open PySem PySem.W PySem.Spec PyProof.Rows
theorem dm:∀ {ds:List Dat}{m:Nat}{e:Dat},ds[m]?≈e->(kqdPs ds)[m]?≈(kqdP e)
 | [],_,_,h=>by simp at h
 | a :: r,0,e,h=>by
  rw[kqdPs];have:a=e:=by simpa using h
  rw[this];rfl
 | a :: r,m + 1,e,h=>by
  rw[kqdPs,List.getElem?_cons_succ];exact dm (by simpa using h)
theorem fj:∀ ds:List Dat,↑(kqdPs ds)=↑ds
 | []=>by rw[kqdPs];rfl
 | a :: r=>by rw[kqdPs,Cd,Cd,fj r]
section
variable {X:Cx}
def cL(K:Fg):V->LV->Hp->VK->Prop:=λx vs H Q=>∃ y d ds j e,vs=[y]/\Rep K H x (.list ds)/\Rep K H y d/\ds.all (kqdOk 8)=true/\kqdOk 9 d=true/\↑ds<=100000/\ds[j]?≈e/\C8 e d=true/\(∀ m e,m<j->ds[m]?≈e->C8 e d=false)/\Q (.int (j:Nat)) H
def XZ(hu:X.A.units + 65<cLine):Ou X "list.index" (cL X.K):=by
 intro π s σ H x vs v us Q I rx rv h;obtain⟨y,d,ds,j,e,rfl,h1,h2,k1,k2,hz,he,hd,hno,q⟩:=h;obtain⟨u,rfl,ru⟩:=rv.one;obtain⟨as,ra⟩:=h1.reads I rx;obtain⟨bs,rb⟩:=h2.reads I ru;rw[kqdP]at ra;have aM:=U7 (dX k1);have hdl:=U7 (JU k2);cases ra with
 | @list l ob ψ n _ _ a1 a2 a3 a4 =>
  obtain⟨cls,dd,data,sl⟩:=ob;simp only at a2 a3;subst a2 a3;have hm:=SeqAt.readsAll_map _ _ _ aM a4;have hml:ψ.size=↑ds:=by
   have:=congrArg List.length hm;rw[Ya,fj]at this;simpa using this
  have Za:∀ m (e:Dat),ds[m]?≈e->kqdOk 8 e=true:=λm e h=>Bv.mp k1 e (Yd h);have val:∀ m (e:Dat) (J_:m<ψ.size),ds[m]?≈e->PyData.eqv (SeqAt.readOf s.heap ψ[m]) (kqdP d)=C8 e d:=λm e J_ h=>by
   have e1:=dm h;rw[<- hm,Yh]at e1;have e2:ψ.toList[m]?≈ψ[m]:=by simp[J_]
   rw[e2]at e1;have e1:SeqAt.readOf s.heap ψ[m]=kqdP e:=BQ e1;rw[e1];exact Tn (Za m e h) k2
  have hj:j<ψ.size:=by have:=(Ye.mp he).1;omega
  refine call_meets U9 ⟨_,a1,Y⟩ PySem.F.entry_list_index (PySem.F.args_list_index_2 _ _)
   (SeqAt.list_indexAt l ψ n dd sl u (λy=>PyData.eqv (SeqAt.readOf s.heap y) (kqdP d)) j hj (by omega) ?_ ?_) ⟨a1,SeqAt.items_eqAt a4 rb aM hdl (room_in_shaped (JU k2) hu),?_⟩
  ·show PyData.eqv (SeqAt.readOf s.heap ψ[j]) (kqdP d)=true;rw[val j e hj he];exact hd
  ·intro m J_ AW;show PyData.eqv (SeqAt.readOf s.heap ψ[m]) (kqdP d)=false;have h0:ds[m]?≈(ds[m]'(by omega)):=Yb (by omega);rw[val m _ J_ h0];exact hno m _ AW h0
  ·exact⟨.int j,H,I.tok _,⟨Z⟩,q⟩
end
end L2
namespace L2
open PySem PySem.Spec PyProof.Rows
section
variable {prog:Γ}{w:World}{A:Around}{E:EV}{s:ω}{d it:ε}{es:Array DictEntry}{ep i:Nat}
end
section
variable {X:Cx}{π:PL}{σ:St}{H H':Hp}{s:ω}{a:ε}{ν:List (List Key×V)}{o:Obj}
end
section
variable {X:Cx}{tg:Expr}
end
structure G_(h:Heap)(e T:ε)(cls:χ)(dx:Option ε)(fl:χ):Prop where
 ne:T≠e
 obj:∃ oe vs,h.get? e≈oe/\oe.cls=cls/\oe.dict=dx/\oe.data=.fields vs/\vs[1]?≈(.ref T)
 tb:∃ oT ts,h.get? T≈oT/\oT.data=.fields ts/\ts[3]?≈fl
structure Bo(S R:τ)(h h':Heap):Prop where
 sz:h.objs.size<=h'.objs.size
 keep:∀ b o,h.get? b≈o->b∉S->b∉R->h'.get? b≈o
 slot:∀ b o,h.get? b≈o->b∉R->∃ sl,h'.get? b=some {o with slots:=sl}
 there:∀ b o,h.get? b≈o->∃ o',h'.get? b≈o'
def Bo.mono{S S' R R':τ}{h h':Heap}(c:Bo S R h h')(hs:∀ b∈S,b∈S')(hr:∀ b∈R,b∈R'):Bo S' R' h h' :=
 ⟨c.sz,λb o e n1 n2=>c.keep b o e (λz=>n1 (hs b z)) λz=>n2 (hr b z),λb o e n=>c.slot b o e λz=>n (hr b z),c.there⟩
def Bo.trans{S R:τ}{h h1 h2:Heap}(a:Bo S R h h1)(b:Bo S R h1 h2):Bo S R h h2 :=
 ⟨A8 a.sz b.sz,λc o e n1 n2=>b.keep c o (a.keep c o e n1 n2) n1 n2,λc o e n=>by
  obtain⟨sl,e1⟩:=a.slot c o e n;obtain⟨O1,e2⟩:=b.slot c _ e1 n;exact⟨O1,e2⟩,λc o e=>by
  obtain⟨o1,e1⟩:=a.there c o e;exact b.there c o1 e1⟩
def Bo.drop{S R:τ}{h h':Heap}{t:ε}(c:Bo S (t :: R) h h')(ht:h.objs.size<=t):Bo S R h h' :=
 ⟨c.sz,λb o e n1 n2=>c.keep b o e n1 λz=>(Yl.mp z).elim (λq=>absurd (Yj e) (by rw[q];exact Nat.not_lt.mpr ht)) n2,
  λb o e n=>c.slot b o e λz=>(Yl.mp z).elim (λq=>absurd (Yj e) (by rw[q];exact Nat.not_lt.mpr ht)) n,c.there⟩
def ud(f:μ->μ)(o:Obj):(Obj.mapFields f o).dict=o.dict:=by
 obtain⟨c,d,dt,sl⟩:=o;cases dt <;> rfl
def Bo.setF{h:Heap}{T:ε}{oT:Obj}{ts:μ}{f:μ->μ}(hT:h.get? T≈oT)(hd:oT.data=.fields ts):Bo [] [T] h (h.update T (Obj.mapFields f)):=by
 have other:∀ b,b≠T->(h.update T (Obj.mapFields f)).get? b=h.get? b:=λb hb=>Kp _ _ (Yx hb);refine⟨Nat.le_of_eq (Heap.size_after_update ..).symm,λb o e _ n=>(other b λz=>n (by simp[z])).trans e,λb o e n=>⟨o.slots,(other b λz=>n (by simp[z])).trans e⟩,λb o e=>?_⟩;by_cases hb:b=T
 ·subst hb;exact⟨_,MV _ hT (Qy (Oe hd _))⟩
 ·exact⟨o,(other b hb).trans e⟩
def Bo.entry{S:τ}{h g:Heap}{e:ε}{oe nb:Obj}{vs ts:μ}{fl:χ}(sl:Heap.SlotsOnly S h g)(ns:e∉S)(he:h.get? e≈oe)(hd:oe.data=.fields vs)(hsz:1<vs.size)(hnb:nb.data=.fields ts)(h3:ts[3]?≈fl):
  G_ ((g.push nb).update e (Obj.mapFields λr=>r.setIfInBounds 1 (.ref g.objs.size))) e g.objs.size oe.cls oe.dict fl/\Bo S [e] h ((g.push nb).update e (Obj.mapFields λr=>r.setIfInBounds 1 (.ref g.objs.size))):=by
 have ge:g.get? e≈oe:=(sl.2.1 e ns).trans he;have apart:g.objs.size≠e:=DG (Yj ge);have pe:(g.push nb).get? e≈oe:=Yc nb ge;have data:=Oe hd λr=>r.setIfInBounds 1 (Value.ref g.objs.size);have self:=MV (Obj.mapFields λr=>r.setIfInBounds 1 (Value.ref g.objs.size)) pe (Qy data);have Ay:∀ b o,b≠e->g.get? b≈o->((g.push nb).update e (Obj.mapFields λr=>r.setIfInBounds 1 (.ref g.objs.size))).get? b≈o:=λb o n q =>
  (Kp _ _ λz=>n z.symm).trans (Yc nb q)
 have tnew:(g.push nb).get? g.objs.size≈nb:=Ym g (Qy hnb);refine⟨⟨apart,⟨Q,self,Obj.cls_mapFields _ _,ud _ _,data,by simp[hsz]⟩,⟨nb,ts,(Kp _ _ λz=>apart z.symm).trans tnew,hnb,h3⟩⟩,⟨?_,λb o q n1 n2=>?_,λb o q n=>?_,λb o q=>?_⟩⟩
 ·rw[Heap.size_after_update,C4,sl.1];omega
 ·exact Ay b o (λz=>n2 (z ▸ Jr)) ((sl.2.1 b n1).trans q)
 ·obtain⟨k,r⟩:=sl.2.2 b o q;exact⟨k,Ay b _ (λz=>n (z ▸ Jr)) r⟩
 ·obtain⟨k,r⟩:=sl.2.2 b o q;by_cases z:b=e
  ·subst z;exact⟨_,self⟩
  ·exact⟨_,Ay b _ z r⟩
section
variable {M:Model}{A:Around}{E:EV}{s:ω}
def dM{base:Heap}{env:Env}{outer:List Env}{L e:ε}{oe:Obj}{vs:μ}{head:χ}{hadNext:Bool}{Q:Unit->ω->Prop}
  (hfr:A.frames≈(env :: outer)) (hl:s.heap.FunFrames base (env :: outer)) (hf:env.frame≈L) (he:s.heap.get? e≈oe) (hd:oe.data=.fields vs) (hsz:1<vs.size)
  (h:∀ h' T,⇑s<=T->G_ h' e T oe.cls oe.dict (rawInt L)->Bo (CZ (env :: outer)) [e] s.heap h'->Q () {s with heap:=h' }):
  wpAny M A (frameOf env>>=λa=>entryPlaceOf L hadNext>>=λpl=>EntryCells.newEntry head a .none (rawInt L) .none pl>>=λb=>setField (.ref e) 1 b) Q E s:=by
 have nf:e∉CZ (env :: outer):=λm=>by
  have q:=(hl.mem m).2;rw[he]at q;obtain⟨_,r1,r2⟩:=q;cases r1;exact r2 vs hd
 apply Ja;refine wpAny_frameOf_fun hfr hl hf λg1 M8=>Ja (wpAny_entryPlaceOf λpl place=>Ja ?_);have three:∀ xs:LU,IsPlace xs->([head,Value.ref L,.none,rawInt L,.none]++(if xs.isEmpty then List.replicate 6 Value.none else xs)).toArray[3]?≈(rawInt L):=λxs _=>by simp
 have laid:=Bo.entry (nb:={cls:=.type "traceback",data:=.fields ([head,.ref L,.none,rawInt L,.none]++(if pl.isEmpty then List.replicate 6 Value.none else pl)).toArray}) M8 nf he hd hsz rfl (three pl place);refine wpAny_newObj_type (wpAny_setField (Yc _ ((M8.2.1 e nf).trans he)) hd hsz ?_) (place.sizeOk5 _ _ _ _ _);exact h _ _ (Nat.le_of_eq M8.1.symm) laid.1 laid.2
def UD{e T:ε}{cls fl:χ}{dx:Option ε}{Q:Unit->ω->Prop}(a:G_ s.heap e T cls dx fl)
  (h:∀ h',G_ h' e T cls dx .none->Bo [] [T] s.heap h'->Q () {s with heap:=h' }):wpAny M A (setFlight (.ref e) none) Q E s:=by
 obtain⟨ne,⟨oe,vs,he,hc,hdx,hd,h1⟩,⟨oT,ts,hT,hdT,h3⟩⟩:=a;obtain⟨Rj,_⟩:=RF.mp h3;have some_:(Value.ref T != Value.none)=true:=by simp
 unfold setFlight;apply Ja;apply Jg he hd h1;rw[if_pos some_];refine wpAny_setField hT hdT Rj (h _ ⟨ne,⟨oe,vs,(Kp _ _ ne).trans he,hc,hdx,hd,h1⟩,⟨Q,MV _ hT (Qy (Oe hdT _)),Oe hdT _,by simp[Rj]⟩⟩ (Bo.setF hT hdT))
def eI{base:Heap}{env:Env}{outer:List Env}{L e T:ε}{cls:χ}{dx:Option ε}{Q:Unit->ω->Prop}
  (hfr:A.frames≈(env :: outer)) (hl:s.heap.FunFrames base (env :: outer)) (hf:env.frame≈L) (a:G_ s.heap e T cls dx .none)
  (h:∀ h' T',⇑s<=T'->G_ h' e T' cls dx (rawInt L)->Bo (CZ (env :: outer)) [e,T] s.heap h'->Q () {s with heap:=h' }):wpAny M A (noteFrame (.ref e) env) Q E s:=by
 obtain⟨ne,⟨oe,vs,he,hc,hdx,hd,h1⟩,⟨oT,ts,hT,hdT,h3⟩⟩:=a;subst hc hdx;have some_:(Value.ref T != Value.none)=true:=by simp
 have apart:¬ (Value.none == rawInt L)=true:=by simp[rawInt]
 have c1:Bo [] [T] s.heap (s.heap.update T (Obj.mapFields λr=>r.setIfInBounds 3 Value.none)):=Bo.setF hT hdT;have kept:∀ b o,s.heap.get? b≈o->b≠T->(s.heap.update T (Obj.mapFields λr=>r.setIfInBounds 3 Value.none)).get? b≈o:=λb o q n=>c1.keep b o q (λz=>nomatch z) λz=>n (Yi.mp z);unfold noteFrame;simp only[hf];apply Ja;apply Jg he hd h1;rw[if_pos some_];apply Ja;apply Jg hT hdT h3;rw[if_neg apart];apply Ja;refine wpAny_setField hT hdT (RF.mp h3).1 ?_;refine dM hfr (hl.of_keeps λb o q nf=>⟨o,kept b o q λz=>by subst z;rw[hT]at q;cases q;exact nf ts hdT,Y⟩) hf (kept e oe he λz=>ne z.symm) hd (RF.mp h1).1 λh' T' JK a' c'=>?_;exact h h' T' (A8 c1.sz JK) a' ((c1.mono (λb z=>nomatch z) λb z=>by simp at z;simp[z]).trans (c'.mono (λb z=>z) λb z=>by simp at z;simp[z]))
def qX{base:Heap}{env:Env}{outer:List Env}{L e:ε}{oe:Obj}{vs:μ}{Q:Unit->ω->Prop}
  (hfr:A.frames≈(env :: outer)) (hl:s.heap.FunFrames base (env :: outer)) (hf:env.frame≈L) (he:s.heap.get? e≈oe) (hd:oe.data=.fields vs) (h1:vs[1]?≈.none)
  (h:∀ h' T,⇑s<=T->G_ h' e T oe.cls oe.dict .none->Bo (CZ (env :: outer)) [e] s.heap h'->Q () {s with heap:=h' }):wpAny M A (leaving env (.ref e)) Q E s:=by
 unfold leaving noteFrame;simp only[hf];apply Ja;apply Ja;apply Jg he hd h1;rw[if_neg (by decide)];refine dM hfr hl hf he hd (RF.mp h1).1 λh' T hT a c=>?_;refine UD a λh2 a2 c2=>h h2 T hT a2 ?_;have c3:Bo (CZ (env :: outer)) [T,e] s.heap h2:=(c.mono (λb z=>z) λb z=>by simp at z;simp[z]).trans (c2.mono (λb z=>nomatch z) λb z=>by simp at z;simp[z]);exact c3.drop hT
def yp{base:Heap}{env:Env}{outer:List Env}{L e T:ε}{cls:χ}{dx:Option ε}{Q:Unit->ω->Prop}
  (hfr:A.frames≈(env :: outer)) (hl:s.heap.FunFrames base (env :: outer)) (hf:env.frame≈L) (a:G_ s.heap e T cls dx .none)
  (h:∀ h' T',⇑s<=T'->G_ h' e T' cls dx .none->Bo (CZ (env :: outer)) [e,T] s.heap h'->Q () {s with heap:=h' }):wpAny M A (leaving env (.ref e)) Q E s:=by
 unfold leaving;refine Ja (eI hfr hl hf a λh' T' hT a' c=>?_);refine UD a' λh2 a2 c2=>h h2 T' hT a2 ?_;have c3:Bo (CZ (env :: outer)) [T',e,T] s.heap h2:=(c.mono (λb z=>z) λb z=>by simp at z;rcases z with z | z <;> simp[z]).trans (c2.mono (λb z=>nomatch z) λb z=>by simp at z;simp[z]);exact c3.drop hT
end
def BK.chg{P:Γ}{w:World}{H:Hp}{h h':Heap}{S R:τ}(x:BK P w H h)(c:Bo S R h h')(hS:∀ b∈S,H b=none)(hR:∀ b∈R,H b=none):BK P w H h':=λa o e =>
 (x a o e).stay (λb u hb q=>by
  have hn:H b≠none:=by
   rcases hb with z | z
   ·rw[z,e];simp
   ·rw[z];simp
  exact c.keep b u q (λz=>hn (hS b z)) λz=>hn (hR b z)) (λ_ q=>q) λ_ _ q=>q
def Un.chg{fs ex S R:τ}{H:Hp}{h h':Heap}(c:Bo S R h h')(hS:∀ b∈S,b∈fs)(hR:∀ b∈R,b∈ex):Un fs ex H H h h' :=
 ⟨λb o e n hb hx=>c.keep b o e (λz=>hb (hS b z)) λz=>hx (hR b z),λb o e n hb hx=>c.slot b o e λz=>hx (hR b z),λ_ _ _ n _=>n,λb o e _=>c.there b o e,λ_ _ q=>q,λ_ _ _ q=>q,λ_ ps q=>⟨#[],by rw[q];simp⟩⟩
def Dm(P:Γ)(w:World):F_:=λouter H s E ev s'=>∃(e T:ε) (cls:χ) (dx:Option ε) (H':Hp),ev=.ref e/\s'.os=s.os/\AllBare s'.gens/\Un (CZ outer) [] H H' s.heap s'.heap/\BK P w H' s'.heap /\
 H' e=none/\H' T=none/\⇑s<=e/\⇑s<=T/\G_ s'.heap e T cls dx .none/\E cls dx H'
structure Dl(X:Cx)(E:XK):Prop where
 xe:X.xe=λe s'=>wpAny (model X.prog X.w) X.A (leaving X.env e) (λ_ By=>Dm X.prog X.w X.outer X.H₀ X.s₀ E e By) (λe' By=>Dm X.prog X.w X.outer X.H₀ X.s₀ E e' By) s'
 stk:X.stack=X.env :: X.outer
 fr:X.env.frame≈X.env.locals
 ex:X.ex=[]
def Dl.of{P:Γ}{w:World}{K:Fg}{mg:Str->OU}{base:Heap}{N:LS}{qual:Str}{scope:Scope}{f:ε}{cd:χ}{A:Around}{outer:List Env}{s:ω}{H:Hp}{E:XK} :
  Dl (JY (Dm P w) P w K mg base N qual scope f cd A outer s H E) E:=⟨Y,Y,Y,Y⟩
section
variable {X:Cx}{π:PL}{σ:St}{H:Hp}{s:ω}{E:XK}{e T:ε}{cls:χ}{dx:Option ε}
def Dl.old(F:Dl X E)(f:BH X π H e):⇑X.s₀<=e:=by
 rcases f.2.2.2.1 with z | z
 ·rw[F.ex]at z;cases z
 ·exact z
def Dl.un{h':Heap}{R:τ}(F:Dl X E)(I:Inv X π σ H s)(c:Bo (CZ X.stack) R s.heap h')(hR:∀ b∈R,⇑X.s₀<=b):Un X.fs [] X.H₀ H X.s₀.heap h':=by
 have B:=I.base;have hx:∀ b,b∉X.ex:=λb z=>by rw[F.ex]at z;cases z
 have ns:∀ b o,X.s₀.heap.get? b≈o->b∉X.fs->b∉CZ X.stack:=λb o q n z=>by
  rcases Yl.mp (I.stkSub b z)with r | r
  ·exact absurd (Yo (Yj q) (by rw[r];exact I.ok.above)) (F9 _)
  ·exact n r
 have nr:∀ b o,X.s₀.heap.get? b≈o->b∉R:=λb o q z=>absurd (Yo (Yj q) (hR b z)) (F9 _);refine⟨λb o q n hb _=>c.keep b o (B.keep b o q n hb (hx b)) (ns b o q hb) (nr b o q),λb o q n hb _=>?_,λb o q n _=>B.free b o q n (hx b),λb o q _=>?_,B.tups,B.frzs,B.tbls⟩
 ·obtain⟨sl,e1⟩:=B.slot b o q n hb (hx b);obtain⟨O1,e2⟩:=c.slot b _ e1 (nr b o q);exact⟨O1,e2⟩
 ·obtain⟨o1,e1⟩:=B.there b o q (hx b);exact c.there b o1 e1
def Dl.leave(F:Dl X E)(I:Inv X π σ H s)(fe:BH X π H e)(fT:BH X π H T)(a:G_ s.heap e T cls dx .none)(h:E cls dx H):X.xe (.ref e) s:=by
 rw[F.xe];have hfr:X.A.frames≈(X.env :: X.outer):=by rw[<- F.stk];exact I.ok.frames
 have hl:s.heap.FunFrames X.base (X.env :: X.outer):=by rw[<- F.stk];exact I.stack
 refine yp hfr hl F.fr a λh' T' JK a' c=>?_;rw[<- F.stk]at c;exact⟨e,T',cls,dx,H,Y,I.os,I.bare,F.un I c λb z=>by simp at z;rcases z with z | z <;> rw[z];exact F.old fe;exact F.old fT,
  I.hok.chg c I.stkFree (λb z=>by simp at z;rcases z with z | z <;> rw[z];exact fe.1;exact fT.1),fe.1,I.hok.fresh JK,F.old fe,A8 I.sz JK,a',h⟩
def Dl.raised{oe:Obj}{vs:μ}(F:Dl X E)(I:Inv X π σ H s)(fe:BH X π H e)(he:s.heap.get? e≈oe)(hd:oe.data=.fields vs)(h1:vs[1]?≈.none)(h:E oe.cls oe.dict H):X.xe (.ref e) s:=by
 rw[F.xe];have hfr:X.A.frames≈(X.env :: X.outer):=by rw[<- F.stk];exact I.ok.frames
 have hl:s.heap.FunFrames X.base (X.env :: X.outer):=by rw[<- F.stk];exact I.stack
 refine qX hfr hl F.fr he hd h1 λh' T' JK a' c=>?_;rw[<- F.stk]at c;exact⟨e,T',oe.cls,oe.dict,H,Y,I.os,I.bare,F.un I c λb z=>by simp at z;rw[z];exact F.old fe,
  I.hok.chg c I.stkFree (λb z=>by simp at z;rw[z];exact fe.1),fe.1,I.hok.fresh JK,F.old fe,A8 I.sz JK,a',h⟩
def Na(F:Dl X E):KP (Dm X.prog X.w) X E:=by
 rintro π σ H s ev s' I ⟨e,T,cls,dx,H',rfl,os,bare,un,hok,he,hT,se,sT,a,h⟩;have I':Inv X π σ H' s':=I.call' (ch:=[]) os un hok bare λb z=>nomatch z;exact F.leave I' (I.fpOk se he) (I.fpOk sT hT) a h
end
def Bi.any{P:Γ}{w:World}{K:Fg}{mg:Str->OU}{base:Heap}{CX:F_}{k:Nat}{ps:LS}{sp:Sp}(F:Bi P w K mg base Ir k f fd ps sp):Bi P w K mg base CX k f fd ps sp :=
 ⟨F.len,λA outer s H args us vs Q E hr he hb hv hs=>codeAny_mono (F.run A outer s H args us vs Q E hr he hb hv hs) λr s' hq=>by
  cases r with
  | error e=>exact False.elim hq
  | ok fl=>cases fl <;> exact hq⟩
def Bj.ok1{P:Γ}{w:World}{K:Fg}{mg:Str->OU}{base:Heap}{x qual:Str}{st:Stmt}{N ps:LS}{k:Nat}{sp:Sp}(F:Bj K x qual st f fd)(S:Ad N ps (AJ st))(len:∀ vs H Q E,sp vs H Q E->↑vs=↑ps)
  (hbody:∀(Ao:χ) (A:Around) (outer:List Env) (s:ω) (H:Hp) (vs:LV) (Q:VK) (E:XK),AV k (A.deeper (envOfC qual (AJ st) ⇑s f Ao))->sp vs H Q E ->
   ∃ t,CB (JY (Dm P w) P w K mg base N qual (AJ st) f Ao A outer s H E) (CM st) t/\t {nx:=λ_ H'=>Q .non H',rt:=Q} (start N vs) H):Bi P w K mg base (Dm P w) (k + 1) f fd ps sp:=by
 obtain⟨oc,od,kV,doc,pm,an,Ao,ct,osl,rfl,lk,hcd⟩:=F.ex;refine YB lk hcd S len λA outer s H vs Q E hr hsp=>?_;exact hbody Ao A outer s H vs Q E hr hsp
end L2
namespace L2
open PySem PySem.Spec
structure ExC(K:Fg)(C:ε):Prop where
 obj:∃ nm q N bs bm hdct sn sub ab col dd k0 k1 k2 k3 k5,K.lookup C≈(excClassObj nm q C N bs bm hdct sn sub ab col dd k0 k1 k2 k3 k5 "ValueError.__new__")
 val:W.subIn K (.ref C) (.type "ValueError")≈true
 bas:W.subIn K (.ref C) (.type "BaseException")≈true
 att:W.subIn K (.ref C) (.type "AttributeError")≈false
 nam:W.subIn K (.ref C) (.type "NameError")≈false
 kp:W.keepIn K (.ref C)=true
abbrev Ew(C t:ε):Obj:={cls:=.ref C,data:=.fields #[.ref t,.none,.none,.none,.bool false,.none] }
abbrev HW(us:LU):Obj:={cls:=.type "tuple",data:=.seq us.toArray}
section
variable {K:Fg}{prog:Γ}{w:World}{A:Around}{E:EV}{h:Heap}{g:Array GenState}{d:Drawn}{t:Nat}{os:OsState}{C:ε}
def JT{nm q:Str}{N:ε}{bs bm:LU}{hdct:Bool}{sn:LS}{sub:LU}{ab:Bool}{col:Option Bool}{dd:Option ε}{k0 k1 k2 k3 k5:OU}{nid:String}{x:χ}{b:Bool}
  (l:K.lookup C≈(excClassObj nm q C N bs bm hdct sn sub ab col dd k0 k1 k2 k3 k5 nid)) (e:W.subIn K (.ref C) x≈b):(Value.ref C :: bm).contains x=b:=by
 have e2:((W.clsIn K C).bind λcd=>if cd.mro.isEmpty=true then none else ↥(cd.mro.contains x))≈b:=e;have e3:W.clsIn K C=some {name:=nm,bases:=bs,mro:=.ref C :: bm,ns:=N,qualname:=q,hasDict:=hdct,slotNames:=sn,subclasses:=sub,abstract:=ab,collection:=col,hasDel:=false}:=by
  unfold W.clsIn;rw[l]
 rw[e3]at e2;exact BQ e2
def xR{Ay:LU}{R:Result->ω->Prop}(X:K.In h)(c:ExC K C)(hrest:Ay.length<=sizeLine)
  (hq:R (.ok (.ret (.ref (h.objs.size + 1)))) ⟨(h.push (HW Ay)).push (Ew C h.objs.size),g,d,t,os⟩):
  codeAny (model prog w) A (.builtin "ValueError.__new__" ⟨.ref C :: Ay,[]⟩) R ⟨h,g,d,t,os⟩:=by
 obtain⟨nm,q,N,bs,bm,hdct,sn,sub,ab,col,dd,k0,k1,k2,k3,k5,lk⟩:=c.obj;have Fv:=YW;have cV:=JT lk c.val;have cA:=JT lk c.att;have cN:=JT lk c.nam;have hC:=X _ _ lk;have hends:=Fv.ends;refine codeAny_builtinAt Fv.entry ?_;unfold Builtin.«BaseException.__new__»;apply PySem.wpAt_bind;show PySem.wpAt _ _ _ (stack>>=_) _ _ _;apply PySem.wpAt_bind;refine PySem.wpAt_stack λp below=>PySem.wpAt_of_wpAny ?_
 wp_walk
 apply PySem.wpAt_of_wpAny;rw[Fv.owner]
 repeat (first | with_reducible refine wpAny_madeHere_exc Fv.canon hC ?_ | with_reducible refine Ji hC ?_ | (with_reducible refine wpAny_isSubtype_exc hC ?_;first | rw[cV] | rw[cA] | rw[cN]) | wp_step)
 show R _ _;rw[C4];exact hq
def oz{Ay:LU}{i:χ}{Q:EV}(X:K.In h)(c:ExC K C)(hi:W.findIn K (.ref C) "__init__"≈(↥i))
  (hb:∀ self,W.Looks (model prog w) ((h.push (HW Ay)).push (Ew C h.objs.size)) (bindSpecial i self) (i,[self])) (hrest:Ay.length<=sizeLine)
  (hq:codeAny (model prog w) (A.under (.builtin "type.__call__" ⟨.ref C :: Ay,[]⟩)) (.call i ⟨.ref (h.objs.size + 1):: Ay,[]⟩)
   (λr s'=>match r with | .ok (.ret v)=>v=.none/\Q (.ref (h.objs.size + 1)) s' | .ok _=>False | .error e=>E e s') ⟨(h.push (HW Ay)).push (Ew C h.objs.size),g,d,t,os⟩):
  wpAny (model prog w) A (call (.ref C) Ay) Q E ⟨h,g,d,t,os⟩:=by
 obtain⟨nm,q,N,bs,bm,hdct,sn,sub,ab,col,dd,k0,k1,k2,k3,k5,lk⟩:=c.obj;have Fv:=YW;have cV:=JT lk c.val;have cS:(Value.ref C :: bm).contains (.ref C)=true:=by simp
 have hC:=X _ _ lk;have up:∀ b o,h.get? b≈o->((h.push (HW Ay)).push (Ew C h.objs.size)).get? b≈o:=λb o e=>Yc _ (Yc _ e);have X1:K.In ((h.push (HW Ay)).push (Ew C h.objs.size)):=X.keeps up;have nH:=X1 _ _ lk;have got:((h.push (HW Ay)).push (Ew C h.objs.size)).get? (h.objs.size + 1)≈(Ew C h.objs.size):=Heap.get?_push_at (by rw[C4]) rfl;have f1:=tc_lookup;have f2:=tc_bind (.ref C);have hT:(⟨h,g,d,t,os⟩:ω).TypeIs (.ref C) "type":=⟨_,hC,Y⟩;have hstar:=Fv.noStar;apply wpAny_call;apply codeAny_of_tree;show wpAny _ _ (callAny (.ref C) _) _ _ _
 repeat (any_goals (first | assumption | with_reducible refine Ji hC ?_ | wp_step))
 constructor
 ·rfl
 apply codeAny_call_builtin_at (Code.quiet_builtin _ (by rfl')) entry_typeCall;apply wpAny_check_type_call_sub hC
 repeat (first | with_reducible refine Ji hC ?_ | with_reducible refine wpAny_madeBy_exc hC ?_ | wp_step)
 apply codeAny_call_builtin_code (Code.quiet_builtin _ Fv.quiet);simp only[checkBuiltinCall,Fv.newKind,Fv.newSplit,Fv.newRow]
 repeat (first | refine Ji hC ?_ | (refine wpAny_isSubtype_exc hC ?_;rw[cV]) | refine wpAny_staticBase_exc hC ?_ | refine wpAny_madeBy_exc hC ?_ | simp only[bne_self_eq_false,Jq,if_false] | wp_step)
 apply xR X c hrest;show wpAny _ _ _ _ _ _;apply Ja;unfold isInstance
 repeat (first | with_reducible refine Ji got ?_ | (with_reducible refine wpAny_isSubtype_exc nH ?_;rw[cS]) | wp_step)
 refine(W.looks_findIn (M:=model prog w) X1 hi).here ?_;apply Jj;apply Ja;refine(hb (.ref (h.objs.size + 1))).here ?_;apply Ja;apply wpAny_call;refine codeAny_mono hq λr s' q=>?_;cases r with
 | error e=>exact q
 | ok f =>
  cases f with
  | ret v =>
   obtain⟨rfl,q⟩:=q;apply Jd;show wpAny _ _ (ret (.ref (h.objs.size + 1))) _ _ _;exact Jd q
  | next=>exact q.elim
  | brk=>exact q.elim
  | cont=>exact q.elim
def qQ{Ay:LU}{R:Result->ω->Prop}{e t0:ε}(X:K.In h)(c:ExC K C)(he:h.get? e≈(Ew C t0))(hrest:Ay.length<=sizeLine)
  (hq:R (.ok (.ret .none)) ⟨(h.push (HW Ay)).update e (Obj.mapFields (·.setIfInBounds 0 (.ref h.objs.size))),g,d,t,os⟩):
  codeAny (model prog w) A (.call (.builtin "ValueError.__init__") ⟨.ref e :: Ay,[]⟩) R ⟨h,g,d,t,os⟩:=by
 obtain⟨nm,q,N,bs,bm,hdct,sn,sub,ab,col,dd,k0,k1,k2,k3,k5,lk⟩:=c.obj;have Fv:=YW;have cV:=JT lk c.val;have hC:=X _ _ lk;have hshort:=Fv.noStar;have chk:∀(a b:String) (n:Nat),Bind.check ⟨.positional,"*","ValueError",.self,[⟨"args",.varPos,false⟩]⟩ a b n (List.map (λx=>x.fst) ({pos:=Value.ref e :: Ay}:Args).kw)=pure ():=λa b n=>check_star_args _ _ _ _ _ _;have mf:(h.push (HW Ay)).get? e≈(Ew C t0):=Yc _ he;apply codeAny_call_builtin Fv.init.plain Fv.initEntry;simp only[checkBuiltinCall,Fv.initKind,Fv.initSplit,Fv.initRow]
 repeat (first | with_reducible refine Ji he ?_ | with_reducible refine Ji hC ?_ | (with_reducible refine wpAny_isSubtype_exc hC ?_;rw[cV]) | wp_step)
 apply wpAny_onRaise;rw[chk];apply Jd
 wp_walk
 exact hq
def sg{env:Env}{x:Str}{np AX pos:Pos}{args:δ}{s:ω}{Q:Flow->ω->Prop}(c:ExC K C)(hh:A.handled=none)
  (h1:wpAny (model prog w) A (eval (.Call (.Name x np) args [] AX) env) (λv s₁=>∃ e t0 dx sl,v=.ref e/\K.In s₁.heap /\
   s₁.heap.get? e≈⟨.ref C,dx,.fields #[.ref t0,.none,.none,.none,.bool false,.none],sl⟩/\E (.ref e) s₁) E s):
  wpAny (model prog w) A (exec (.Raise (↥(.Call (.Name x np) args [] AX)) none pos) env) Q E s:=by
 obtain⟨nm,q,N,bs,bm,hdct,sn,sub,ab,col,dd,k0,k1,k2,k3,k5,lk⟩:=c.obj;have cB:=JT lk c.bas;rw[arm_exec_Raise];apply Ja;apply wpAny_standAt;unfold raiseStmt;apply Ja;show wpAny _ _ (do let v <- eval (.Call (.Name x np) args [] AX) env;standAt pos;pure v) _ _ _;apply Ja;refine Jf h1 (λv s₁ h₁=>?_) λ_ _ z=>z;apply Ja;apply wpAny_standAt;apply Jd;obtain⟨e,t0,dx,sl,rfl,X,he,hE⟩:=h₁;obtain⟨hp,g,d,tk,os⟩:=s₁;have hC:=X _ _ lk
 repeat (first | with_reducible refine Ji he ?_ | with_reducible refine Ji hC ?_ | (with_reducible refine wpAny_isSubtype_exc hC ?_;rw[cB]) | wp_step)
 exact wpAny_raiseNew_none hh hE
end
end L2
namespace L2
open PySem PySem.Spec PySem.Builtin PySem.Builtin.ObjectAttr PySem.W
structure K6(K:Fg)(C:ε):Prop extends ExC K C where
 ga:W.findIn K (.ref C) "__getattribute__"≈(↥(.builtin "BaseException.__getattribute__"))
 gt:W.findIn K (.ref C) "__getattr__"≈none
 ca:W.findIn K (.ref C) "__class__"≈(↥(.builtin "object.__class__"))
 cg:W.specialIn K (.builtin "object.__class__") "__get__"≈(↥(.builtin "getset_descriptor.__get__"))
 ct:W.takesIn K (.builtin "object.__class__")≈true
 ob:W.mroIn K C (.type "object")≈true
section
variable {K:Fg}{prog:Γ}{w:World}{A:Around}{E:EV}{h:Heap}{g:Array GenState}{d:Drawn}{t:Nat}{os:OsState}{x C:ε}{ox:Obj}{od:Option Obj}{name:Str}
def qO{nameV:χ}{M:Model}{Q:Unit->ω->Prop}(X:K.In h)(c:ExC K C)(I:W.InstAt h x ox C od)(hq:Q () ⟨h,g,d,t,os⟩):
  wpAny M A (checkBuiltinCall "BaseException.__getattribute__" ⟨[.ref x,nameV],[]⟩) Q E ⟨h,g,d,t,os⟩:=by
 have hk:builtinKind "BaseException.__getattribute__"≈.slot:=by rfl'
 have hs:splitId "BaseException.__getattribute__"≈("BaseException","__getattribute__"):=by rfl'
 have ha:=PySem.F.args_bexc_ga (.ref x) nameV;have hi:W.Looks M h (isInstance (.ref x) (.type "BaseException")) true:=I.type.andThen (W.looks_subIn X c.bas);simp only[checkBuiltinCall,hk,hs];apply Ja;apply hi.at;simp only[Bool.not_true,Jq,if_false];exact wpAny_of_eq ha hq
def qP{tk:Tok}{Q:Fin->ω->Prop}{f:Found}(X:K.In h)(I:W.InstAt h x ox C od)(hf:W.Looks (model prog w) h (find (.ref x) (.ref C) name) f)
  (hq:wpAny (model prog w) A (match f with | .value v=>ret v | .bind g a=>bindTo g a (.ref x) (.ref C) | .missing=>unsupported "") Q E ⟨h,g,d,t,os⟩) (hm:f≠.missing):
  wpAny (model prog w) A (Builtin.«object.__getattribute__» ⟨[.ref x,.str name tk],[]⟩) Q E ⟨h,g,d,t,os⟩:=by
 have L0:=I.type (M:=model prog w);unfold Builtin.«object.__getattribute__»;apply Ja;apply Jd;apply Ja;apply Jd;apply Ja;apply L0.at;apply Ja;apply hf.at;cases f with
 | value v=>exact hq
 | bind a b=>exact hq
 | missing=>exact absurd rfl hm
def vi{tk:Tok}{fill expr:Bool}{Q:EV}{f:Found}{v:χ}(X:K.In h)(c:K6 K C)(I:W.InstAt h x ox C od)(hf:W.Looks (model prog w) h (find (.ref x) (.ref C) name) f)(hm:f≠.missing)
  (hq:∀ {A:Around} {E:EV} {Q:Fin->ω->Prop},Q (.done (.ret v)) ⟨h,g,d,t,os⟩->wpAny (model prog w) A (match f with | .value v=>ret v | .bind g a=>bindTo g a (.ref x) (.ref C) | .missing=>unsupported "") Q E ⟨h,g,d,t,os⟩)
  (hh:handedIn v=true) (hv:Q v ⟨h,g,d,t,os⟩):wpAny (model prog w) A (getAttrBy (.ref x) (.str name tk) fill expr) Q E ⟨h,g,d,t,os⟩:=by
 have L0:=I.type (M:=model prog w);have L1:=looks_findIn (M:=model prog w) X c.ga;have L2:=looks_findIn (M:=model prog w) X c.gt;have Vx:(expr&&onTheHeap (Value.builtin "BaseException.__getattribute__"))=false:=by cases expr <;> rfl
 have apart:(onTheHeap (Value.ref C)&&Value.builtin "BaseException.__getattribute__" == Value.builtin "object.__getattribute__")=false:=by
  rw[show(Value.builtin "BaseException.__getattribute__" == Value.builtin "object.__getattribute__")=false from by rfl'];rfl
 have f3:=PySem.F.attrBase_ValueError.ga.bind (.ref x);have body:∀ {A:Around} {R:Result->ω->Prop},R (.ok (.ret v)) ⟨h,g,d,t,os⟩->codeAny (model prog w) A (.call (.builtin "BaseException.__getattribute__") ⟨[.ref x,.str name tk],[]⟩) R ⟨h,g,d,t,os⟩:=λ{A R} r =>
  codeAny_call_builtin PySem.F.attrBase_ValueError.ga.plain PySem.F.entry_bexc_ga (qO X c.toExC I (qP X I hf (hq r) hm))
 unfold getAttrBy;apply Jj;apply Ja;apply L0.at;apply Ja;apply L1.at;show wpAny _ _ (if(onTheHeap (Value.ref C)&&Value.builtin "BaseException.__getattribute__" == Value.builtin "object.__getattribute__")=true then _ else getAttrByItsOwn (.ref x) (.str name tk) (.ref C) (.builtin "BaseException.__getattribute__") fill expr) _ _ _;rw[if_neg (by rw[apart];exact Yq)];unfold getAttrByItsOwn;apply Ja;show wpAny _ _ (typeLookup (.ref C) "__getattr__") _ _ _;apply L2.at;apply Ja;apply wpAny_attempt;apply Jj;unfold callGetattribute;rw[if_neg (by rw[Vx];exact Yq)];unfold boundAndCalled;apply Ja;refine wpAny_of_eq f3 ?_;refine wpAny_call (body ?_);show wpAny _ _ (handedOut v) _ _ _;rw[handedOut_of hh];exact Jd hv
def xQ(c:K6 K C):KitX K (.ref x) (.ref C) (λh=>InstAt h x ox C od) where
 ty:=λ_ _ _ I=>I.type
 it:=λ_ _ X _=>by
  obtain⟨nm,q,N,bs,bm,hdct,sn,sub,ab,col,dd,k0,k1,k2,k3,k5,lk⟩:=c.obj;intro A' Q' E' s' k q;unfold isType loadHead;apply Ja;apply wpAny_loadPart (k _ _ (X _ _ lk));exact Jd q
 ne:=λh tp dd ψ n sl X e=>by
  obtain⟨nm,q,N,bs,bm,hdct,sn,sub,ab,col,dd,k0,k1,k2,k3,k5,lk⟩:=c.obj;have hC:=X _ _ lk;refine Bool.eq_false_iff.mpr λz=>?_;have z:C=tp:=Value.ref.inj (beq_iff_eq.mp z);rw[z,e]at hC;have q1:Value.type "tuple"=Value.type "type":=congrArg (λo=>Option.elim o Value.none Obj.cls) hC;exact absurd q1 (by decide)
 ca:=λ{prog w A E Q s} X I q=>by
  obtain⟨hh,g,d,t,os⟩:=s;have hcls:∃ cd,clsIn K C≈cd:=by
   obtain⟨nm,q,N,bs,bm,hdct,sn,sub,ab,col,dd,k0,k1,k2,k3,k5,lk⟩:=c.obj;unfold clsIn;rw[lk];exact⟨Z⟩
  obtain⟨cd,hcd⟩:=hcls;have hf:findObj K C od "__class__"≈(.bind (.builtin "getset_descriptor.__get__") (.builtin "object.__class__")):=by
   unfold findObj;rw[hcd,c.ca];dsimp only[Option.bind];rw[c.cg];dsimp only;rw[c.ct]
  unfold getAttr? getAttrBy?;apply Ja;apply wpAny_mkText;apply Ja;apply wpAny_attempt;refine vi X c I (looks_find X I hf) (λz=>nomatch z) (λ{A E Q} r=>?_) rfl (Jd q);show wpAny _ _ (bindTo (.builtin "getset_descriptor.__get__") (.builtin "object.__class__") (.ref x) (.ref C)) _ _ _;unfold bindTo;show wpAny _ _ (holding [.builtin "object.__class__"] (call (.builtin "getset_descriptor.__get__") [.builtin "object.__class__",.ref x,.ref C])>>=ret) _ _ _;apply Ja;apply Jj;exact wpAny_call (class_get (ox:=ox) (od:=od) X I c.ob (Jd r))
end
end L2
namespace L2
open PySem PySem.Spec PyProof.Rows
def XO(e C:ε)(dx:Option ε):HO:=.ext λh=>∃ o,h.get? e≈o/\o.cls=.ref C/\o.dict=dx/\W.notCls o=true
abbrev TF:=St->Hp->(Hp->Prop)->Prop
def PF(X:Cx)(e:Expr)(t:TF):Prop:=∀(π:PL) (s:ω) (σ:St) (H:Hp) (Q:Hp->Prop),Inv X π σ H s->t σ H Q ->
 wpAny (model X.prog X.w) X.A (eval e X.env) (λu s'=>∃ y tk H',u=.str y tk/\↑y<=100000/\Inv X π σ H' s'/\Q H') X.xe s
def VI(X:Cx)(es:δ)(t:TF):Prop:=∀(π:PL) (s:ω) (σ:St) (H:Hp) (Q:Hp->Prop) (acc:Str) (j:Nat),Inv X π σ H s->↑acc<=100000 * j->j + ↑es<=100->t σ H Q ->
 Joins (model X.prog X.w) X.A X.xe (evalEach es X.env) acc (λout s'=>∃ H',↑out<=10000000/\Inv X π σ H' s'/\Q H') s
section
variable {X:Cx}{e:Expr}{es:δ}{te:TE}{t u:TF}{pos:Pos}
def zD(x:Str):TF:=λ_ H Q=>↑x<=100000/\Q H
def kQ{x j}:PF X (.Constant (.str x) j pos) (zD x):=λ_ _ _ H _ I h=>Calls.Constant_str ⟨x,_,H,Y,h.1,I.tok _,h.2⟩
def zf(te:TE):TF:=λσ H Q=>te σ H λv H1=>∃ i:Int,v=.int i/\i.natAbs<2 ^ 64/\Q H1
def cF{i:Int}(h:i.natAbs<2 ^ 64):i.natAbs.log2<1920:=by
 by_cases z:i.natAbs=0
 ·rw[z];decide
 ·exact Nat.lt_trans ((Nat.log2_lt z).mpr h) (by decide)
def xZ{i:Int}(h:i.natAbs<2 ^ 64):↑(Str.ofString (toString i))<=100000:=by
 have e:=PySem.int_text_length_le (k:=1920) (by decide) (cF h);rw[PySem.ofString_length];omega
def wX(he:PE X e te):PF X (.FormattedValue e (-1) none pos) (zf te):=by
 ac_rfl;refine wpAny_FormattedValue_plain (AM (he π s σ H _ I h) λv s1 ⟨x,H1,I1,r1,i,ex,hi,q⟩=>?_);subst ex;obtain⟨t,rfl⟩:=r1;exact wpAny_formatField_int (cF hi) ⟨Q,H1,Y,xZ hi,I1.tok _,q⟩
def zg:TF:=λ_ H Q=>Q H
def zh(t u:TF):TF:=λσ H Q=>t σ H λH1=>u σ H1 Q
def yH:VI X [] zg:=λπ s σ H Q acc j I ha hj h=>⟨H,by simp at hj;exact A8 ha (A8 (Nat.mul_le_mul_left _ hj) (by decide)),I,h⟩
def T9(h1:PF X e t)(h2:VI X es u):VI X (e :: es) (zh t u):=by
 intro π s σ H Q acc j I ha hj h;show wpAny _ _ (eval e X.env) _ _ s;refine AM (h1 π s σ H _ I h) λv s1 ⟨y,tk,H1,ev,hy,I1,q⟩=>?_;have hl:↑(acc++y)<=100000 * (j + 1):=by rw[strLen_append];omega
 have Gg:j + 1 + ↑es<=100:=by simp at hj;omega
 refine⟨y,tk,ev,A8 hl (A8 (Nat.mul_le_mul_left _ (show j + 1<=100 by omega)) (by decide)),?_⟩;exact h2 π s1 σ H1 Q _ (j + 1) I1 hl Gg q
def kz(t:TF):TE:=λσ H Q=>t σ H λH1=>∀ x:Str,Q (.str x) H1
def yF{v1 v2:Expr}{Ay:δ}(h:VI X (v1 :: v2 :: Ay) t)(hl:↑(v1 :: v2 :: Ay)<=100:=by decide):PE X (.JoinedStr (v1 :: v2 :: Ay) pos) (kz t):=by
 intro π s σ H Q I hq;apply wpAny_JoinedStr;have z:=h π s σ H _ Str.empty 0 I (BE _) (by simpa using hl) hq;have mono:∀(l:List (Sem χ)) (acc:Str) (P P':Str->ω->Prop) (s:ω),(∀ o s',P o s'->P' o s')->Joins (model X.prog X.w) X.A X.xe l acc P s->Joins (model X.prog X.w) X.A X.xe l acc P' s:=by
  intro l
  induction l with
  | nil=>intro acc P P' s f q;exact f _ _ q
  | cons a r ih =>
   intro acc P P' s f q;exact AM (show wpAny _ _ a _ _ s from q) λv s1 ⟨y,tk,e1,e2,e3⟩=>⟨y,tk,e1,e2,ih _ P P' s1 f e3⟩
 exact mono _ _ _ _ _ (λo s' ⟨H',l,I',q'⟩=>⟨A8 l (by decide),⟨.str o,H',I'.tok _,⟨Z⟩,q' o⟩⟩) z
end
section
variable {X:Cx}{E:XK}{C:ε}{x:Str}{np AX pos:Pos}{e:Expr}{es:δ}{t:TA}
def kq(E:XK)(C:ε)(t:TA):TS:=λ_ σ H=>t σ H λvs H1=>↑vs<=sizeLine/\E (.ref C) none H1
def o_{K:Fg}{prog:Γ}{w:World}{A:Around}{E:EV}{s:ω}{us:LU}{Q:EV}(X:K.In s.heap)(c:ExC K C)(hi:W.findIn K (.ref C) "__init__"≈(↥(.builtin "ValueError.__init__")))(hl:↑us<=sizeLine)
  (h:∀ h' t0,(∀ b o,s.heap.get? b≈o->h'.get? b≈o)->h'.get? (⇑s + 1)≈(Ew C t0)->Q (.ref (⇑s + 1)) {s with heap:=h' }):
  wpAny (model prog w) A (call (.ref C) us) Q E s:=by
 obtain⟨hp,g,d,tk,os⟩:=s;dsimp only at X h ⊢;refine oz X c hi (λself=>W.Looks.of_pure (PySem.F.excBase_ValueError.init.bind self)) hl ?_;have up:∀ b o,hp.get? b≈o->((hp.push (HW us)).push (Ew C hp.objs.size)).get? b≈o:=λb o q=>Yc _ (Yc _ q);have got:((hp.push (HW us)).push (Ew C hp.objs.size)).get? (hp.objs.size + 1)≈(Ew C hp.objs.size):=Heap.get?_push_at (by rw[C4]) rfl;refine qQ (t0:=hp.objs.size) (X.keeps up) c got hl ⟨Y,h _ ((hp.push (HW us)).push (Ew C hp.objs.size)).objs.size (λb o q=>?_) ?_⟩
 ·have nb:b≠hp.objs.size + 1:=Yv (Q_ (Yj q));rw[Kp _ _ (Yx nb)];exact Yc _ (up b o q)
 ·rw[MV _ (Yc _ got) rfl];rfl
def pJ(F:Dl X E)(hh:X.A.handled=none)(c:ExC X.K C)(hi:W.findIn X.K (.ref C) "__init__"≈(↥(.builtin "ValueError.__init__")))(hg:Gl X x)(hm:X.mg x≈(.ref C))(ha:PA X (e :: es) t)
  (hdb:(x == ("__debug__":Str))=false:=by decide) (he:starEach (e :: es) X.env=(false,eval e X.env):: starEach es X.env:=by rfl) (hpl:(backTo AX (starEach es X.env)).any (·.1)=false:=by rfl):
  PS X (.Raise (↥(.Call (.Name x np) (e :: es) [] AX)) none pos) (kq E C t):=by
 intro π s σ H D I h;refine sg c hh (wpAny_Call_Name_kw (Nm I hg hm ?_ hdb));refine W.callWith_K (h₀:=X.base) I.ok.mod.kin c.kp (AM (ha AX π s σ H _ I h) λus s1 ⟨vs,H1,I1,r,hl,q⟩=>⟨I1.kIn,?_⟩) he hpl;refine o_ I1.kIn c hi (by rw[List.nil_append,<- ↑r];exact hl) λh' t0 k got=>?_;have I2:Inv X π σ H1 {s1 with heap:=h' }:=I1.kept (t':=s1.toks) k;refine⟨_,t0,none,#[],Y,I2.kIn,got,?_⟩;exact F.raised I2 (I1.fpOk (FU _) (I1.hok.fresh (FU _))) got rfl rfl q
end
section
variable {X:Cx}{π:PL}{σ:St}{H:Hp}{s:ω}{A:Around}{E:EV}{Q:EV}{e C:ε}{dx:Option ε}{cv:χ}{b:Bool}
def NS(H:Hp)(dx:Option ε):Prop:=dx=none\/∃ a fs,dx≈a/\H a≈(.xd fs)
def yc(I:Inv X π σ H s)(hx:H e≈(XO e C dx))(hd:NS H dx):∃ ox od,W.InstAt s.heap e ox C od:=by
 have q:A7 X.prog X.w H s.heap e (XO e C dx):=I.hok e _ hx;obtain⟨⟨o,h1,h2,h3,h4⟩,_⟩:=q
 rcases hd with hd | ⟨a,fs,hd,ha⟩
 ·exact⟨o,none,⟨h1,h2,h4,by rw[h3,hd];trivial⟩⟩
 ·have q:A7 X.prog X.w H s.heap a (.xd fs):=I.hok a _ ha;obtain⟨mA,⟨oa,es,ep,e1,_⟩,_⟩:=q;exact⟨o,↥oa,⟨h1,h2,h4,by rw[h3,hd];exact e1⟩⟩
def r6(I:Inv X π σ H s)(hx:H e≈(XO e C dx))(hd:NS H dx)(c:K6 X.K C)(k:W.kitOne X.K (.ref C) cv≈b)(h:∀ tk,Q (.bool b) {s with toks:=tk}):
  wpAny (model X.prog X.w) A (call (.builtin "isinstance") [.ref e,cv]) Q E s:=by
 obtain⟨ox,od,J⟩:=yc I hx hd;exact W.kia_one (xQ (ox:=ox) (od:=od) c) I.kIn J k (λz=>nomatch z) h
end
abbrev RH:=χ->Option ε->St->Hp->Prop
abbrev Ot:=HJ->RH->St->Hp->Prop
abbrev VE:=St->Hp->VK->XK->Prop
def XP(X:Cx)(π:PL)(E:RH)(ev:χ)(s':ω):Prop:=∃(e T:ε) (cls:χ) (dx:Option ε) (σ':St) (H':Hp),ev=.ref e/\Inv X π σ' H' s'/\BH X π H' e/\BH X π H' T/\G_ s'.heap e T cls dx .none/\E cls dx σ' H'
def kT(X:Cx)(e:Expr)(t:VE):Prop:=∀(π:PL) (s:ω) (σ:St) (H:Hp) (Q:VK) (E:XK),Inv X π σ H s->t σ H Q E ->
 wpAny (model X.prog X.w) X.A (eval e X.env) (EP X π σ Q) (XP X π λc d σ' H'=>σ'=σ/\E c d H') s
def kR(X:Cx)(st:Stmt)(t:Ot):Prop:=∀(π:PL) (s:ω) (σ:St) (H:Hp) (D:HJ) (E:RH),Inv X π σ H s->t D E σ H->wpAny (model X.prog X.w) X.A (exec st X.env) (SP X π D) (XP X π E) s
def iI(X:Cx)(st:List Stmt)(t:Ot):Prop:=∀(π:PL) (s:ω) (σ:St) (H:Hp) (D:HJ) (E:RH),Inv X π σ H s->t D E σ H->wpAny (model X.prog X.w) X.A (execs st X.env) (SP X π D) (XP X π E) s
section
variable {X:Cx}{st:Stmt}{Ay:List Stmt}{t u:Ot}{e:Expr}{te:VE}{pos:Pos}
def pK(h1:kR X st t):iI X [st] t:=by
 intro π s σ H D E I h;refine wpAny_execs_cons (AM (h1 π s σ H D E I h) λf s1 q=>?_);cases f with
 | next=>exact wpAny_execs_nil q
 | ret v=>exact q
 | brk=>exact q
 | cont=>exact q
def yd{π:PL}{E E':RH}(f:∀ c d σ H,E c d σ H->E' c d σ H){ev:χ}{s':ω}(h:XP X π E ev s'):XP X π E' ev s':=by
 obtain⟨e,T,cls,dx,σ',H',r,I,fe,fT,a,q⟩:=h;exact⟨e,T,cls,dx,σ',H',r,I,fe,fT,a,f _ _ _ _ q⟩
def u0(i:Nat)(te:VE):Ot:=λD E σ H=>te σ H (λv H1=>D.nx (σ.set i (↥v)) H1) λc d H1=>E c d σ H1
def yL{i:Nat}{x:Str}{pos':Pos}(hN:X.N.Nodup)(hi:X.N[i]?≈x)(hx:Loc X.env.scope x)(he:kT X e te)(hs:swapsWith e (↥(.Name x pos')) pos.line X.env=pure false:=by rfl)
  (hf:X.fn x=true\/X.env.scope.names.lookup x≈.local:=by first | exact .inl rfl | exact .inr rfl | assumption):kR X (.Assign [.Name x pos'] e pos) (u0 i te):=by
 intro π s σ H D E I h;refine wpAny_Assign_Name (Jf (he π s σ H _ _ I h) (λv s1 ⟨y,H1,I1,r1,q1⟩=>?_) λev s1 z=>yd (λc d σ' H' q=>?_) z) hs
 ·exact UC I1 hN hi hx r1 (λs2 I2=>⟨_,H1,I2,q1⟩) hf
 ·obtain⟨rfl,q⟩:=q;exact q
end
section
variable {X:Cx}{k:Nat}{f C:ε}{fd:FuncData}{ps:LS}{sp:Sp}{Cn:LV}{ds:LU}{x m:Str}{p pos apos:Pos}{e o:Expr}{es:δ}{ta:TE}{t:TA}
def yj{π:PL}{σ:St}{H:Hp}{s:ω}{Q:VK}{E:XK}{us:LU}{vs:LV}(F:Bi X.prog X.w X.K X.mg X.base (Dm X.prog X.w) k f fd ps sp)(hr:AV k X.A)(hb:C1 X.K fd ps [])
  (I:Inv X π σ H s) (r:AQ vs us) (h:sp vs H Q E):wpAny (model X.prog X.w) X.A (call (.ref f) us) (EP X π σ Q) (XP X π λc d σ' H'=>σ'=σ/\E c d H') s:=by
 have hl:↑(us++[])=↑ps:=by rw[Eb,<- ↑r];exact F.len _ _ _ _ h
 have b:=hb s us I.kIn hl;rw[Eb]at b;refine wpAny_call (codeAny_mono (F.run X.A X.stack s H ⟨us,[]⟩ us vs Q E hr I.env0 b r h) λr s' hq=>?_);cases r with
 | error e =>
  obtain⟨e,T,cls,dx,H',rfl,os,bare,un,hok,he,hT,se,sT,a,q⟩:=hq;exact⟨e,T,cls,dx,σ,H',Y,I.call' (ch:=[]) os un hok bare (λb z=>nomatch z),I.fpOk se he,I.fpOk sT hT,a,Y,q⟩
 | ok fl =>
  cases fl with
  | ret u=>exact I.after hq
  | next=>exact False.elim hq
  | brk=>exact False.elim hq
  | cont=>exact False.elim hq
def v8(sp:Sp)(t:TA):VE:=λσ H Q E=>t σ H λvs H1=>sp vs H1 Q E
def yC{π:PL}{s:ω}{σ:St}{H:Hp}{Q:LV->Hp->Prop}{E:EV}(ha:PA X.nox es t)(I:Inv X π σ H s)(h:t σ H Q):
  wpAny (model X.prog X.w) X.A (spliced (backTo pos (starEach es X.env))) (AP X π σ Q) E s :=
 Jf (ha pos π s σ H Q (I.wish _) h) (λ_ _ ⟨vs,H',I',r,q⟩=>⟨vs,H',I'.unwish,r,q⟩) λ_ _ z=>False.elim z
def qC{st:Stmt}(d:Def X.K X.mg x st ps f fd)(F:Bi X.prog X.w X.K X.mg X.base (Dm X.prog X.w) k f fd ps sp)(hr:AV k X.A)(hg:Gl X x)(ha:PA X.nox (e :: es) t)(hdb:(x == ("__debug__":Str))=false:=by decide)
  (he:starEach (e :: es) X.env=(false,eval e X.env):: starEach es X.env:=by rfl) (hpl:(backTo pos (starEach es X.env)).any (·.1)=false:=by rfl):kT X (.Call (.Name x p) (e :: es) [] pos) (v8 sp t):=by
 intro π s σ H Q E I h;refine wpAny_Call_Name_kw (Nm I hg d.m ?_ hdb);refine W.callWith_K (h₀:=X.base) I.ok.mod.kin d.fn.kp (AM (yC ha I h) λus s1 ⟨vs,H1,I1,r,q⟩=>⟨I1.kIn,?_⟩) he hpl;exact yj F hr d.b I1 r q
end
section
variable {K:Fg}{M:Model}{A:Around}{E:EV}{h:Heap}{g:Array GenState}{d:Drawn}{t:Nat}{os:OsState}{e C D:ε}
def tW{oe:Obj}{Q:Bool->ω->Prop}(X:K.In h)(cD:ExC K D)(he:h.get? e≈oe)(hcls:oe.cls=.ref C)(cC:ExC K C)(hs:W.subIn K (.ref C) (.ref D)≈true)(hq:Q true ⟨h,g,d,t,os⟩):
  wpAny M A (excMatches (.ref e) (.ref D)) Q E ⟨h,g,d,t,os⟩:=by
 obtain⟨nm,q,N,bs,bm,hdct,sn,sub,ab,col,dd,k0,k1,k2,k3,k5,lk⟩:=cD.obj;obtain⟨nm',q',N',bs',bm',kX,sn',sub',ab',col',KH,k0',k1',k2',k3',k5',aG⟩:=cC.obj;have cB:=JT lk cD.bas;have cS:=JT aG hs;have hD:=X _ _ lk;have hC:=X _ _ aG;have f:=tc_notTuple;unfold excMatches
 repeat (first | (with_reducible refine Ji he ?_;rw[hcls]) | with_reducible refine Ji hD ?_ | (with_reducible refine wpAny_isSubtype_exc hD ?_;rw[cB]) | (with_reducible refine wpAny_isSubtype_exc hC ?_;rw[cS]) | wp_step)
 exact hq
end
section
variable {X:Cx}{π:PL}{σ:St}{H:Hp}{s:ω}
def Inv.track{a:ε}{o:HO}(I:Inv X π σ H s)(f:BH X π H a)(ok:A7 X.prog X.w (upd H a o) s.heap a o):Inv X π σ (upd H a o) s:=by
 obtain⟨f0,f1,f2,f3,f4,f5⟩:=f;have ne:∀ b u,H b≈u->b≠a:=λb u q z=>by rw[z,f0]at q;cases q
 have old:∀ b u,X.s₀.heap.get? b≈u->b∉X.ex->b≠a:=λb u q n z=>by
  rcases f3 with r | r
  ·rw[z]at n;exact n r
  ·exact absurd (Yo (Yj q) (by rw[z];exact r)) (F9 _)
 refine⟨I.ok,I.os,I.bare,⟨I.base.keep,I.base.slot,λb u q n hx=>by rw[AD (old b u q hx)];exact I.base.free b u q n hx,I.base.there,λb xs q=>by have z:=I.base.tups b xs q;rw[AD (ne b _ z)];exact z,
  λb u xs q=>by have z:=I.base.frzs b u xs q;rw[AD (ne b _ z)];exact z,λb ps q=>by obtain⟨m,z⟩:=I.base.tbls b ps q;exact⟨m,by rw[AD (ne b _ z)];exact z⟩⟩,
  I.loc,I.cell,by rw[AD (Yx f1)];exact I.free,λx c q=>by rw[AD (f4 x c q)];exact I.freeC x c q,λp hp=>?_,λb u q=>?_,I.len⟩
 ·obtain⟨p1,p2,p3,p4,p5⟩:=I.pin p hp;exact⟨p1,by rw[AD (f5 p hp)];exact p2,p3,p4,p5⟩
 ·by_cases hb:b=a
  ·subst hb;rw[uS]at q;cases q;exact ok
  ·rw[AD hb]at q;exact(I.hok b u q).stay (λ_ _ _ z=>z) (λc z=>by rw[AD (ne c _ z)];exact z) λc xs z=>by rw[AD (ne c _ z)];exact z
def Inv.gone{i:Nat}{x:Str}{m:Str->OU}{v:OU}{h':Heap}{tk:Nat}(I:Inv X π σ H s)(hN:X.N.Nodup)(hi:X.N[i]?≈x)(hx:X.env.scope.names.lookup x≈.local)
  (hm:s.heap.Ns X.env.locals m) (hn:h'.Ns X.env.locals λy=>if y=x then v else m y) (hs:Heap.SameBut X.env.locals s.heap h'):Inv X π (σ.set i none) H {s with heap:=h',toks:=tk}:=by
 obtain⟨m0,JH,hl⟩:=id I.loc;have hmm:m0=m:=by
  obtain⟨o1,es1,ep1,a1,a2,_,a3⟩:=JH;obtain⟨o2,es2,ep2,b1,b2,_,b3⟩:=hm;rw[a1]at b1;cases b1;rw[a2]at b2;cases b2
  funext y
  rw[<- a3,<- b3]
 subst hmm;have cne:=I.cne;obtain⟨oL,_,_,hoL,_⟩:=id hm;refine⟨I.ok,I.os,I.bare,⟨λb o e n hb hx=>?_,λb o e n hb hx=>?_,I.base.free,λb o e hx=>?_,I.base.tups,I.base.frzs,I.base.tbls⟩,⟨_,hn,λj y v' e1 e2 e3=>?_⟩,λy c e=>?_,I.free,I.freeC,λp hp=>?_,λb ob e=>?_,by simpa using I.len⟩
 ·exact(hs.2 b (Yv (Yo (Yj e) I.ok.above))).trans (I.base.keep b o e n hb hx)
 ·obtain⟨sl,e1⟩:=I.base.slot b o e n hb hx;exact⟨sl,(hs.2 b (Yv (Yo (Yj e) I.ok.above))).trans e1⟩
 ·obtain⟨o',e1⟩:=I.base.there b o e hx;exact⟨o',(hs.2 b (Yv (Yo (Yj e) I.ok.above))).trans e1⟩
 ·have hj:j≠i:=λz=>by
   subst z;by_cases hb:j<↑σ
   ·rw[Jn hb]at e2;cases e2
   ·rw[E2 (by simpa using hb)]at e2;cases e2
  rw[MO (Yx hj)]at e2;obtain⟨u',r',q⟩:=hl j y v' e1 e2 e3;refine⟨u',r',?_⟩
  rcases q with⟨k,e⟩ | ⟨k,c,e,z⟩
  ·refine .inl ⟨k,?_⟩;have:y≠x:=λe=>hj (Lx hN e1 (e ▸ hi));simp[this,e]
  ·exact .inr ⟨k,c,e,z.sameBut hs (cne y c e)⟩
 ·obtain⟨w',z⟩:=I.cell y c e;exact⟨w',z.sameBut hs (cne y c e)⟩
 ·obtain⟨e,n,ne,nf,d⟩:=I.pin p hp;exact⟨(hs.2 p.1 ne).trans e,n,ne,nf,d⟩
 ·refine(I.hok b ob e).stay (λc w' hc q=>(hs.2 c ?_).trans q) (λ_ q=>q) λ_ _ q=>q;rintro rfl
  rcases hc with rfl | hc
  ·rw[I.free]at e;cases e
  ·rw[I.free]at hc;cases hc
abbrev Cx.marked(X:Cx)(v:χ):Cx:={X with A:=X.A.mark (↥v),calm:=false,xe:=λ_ _=>False}
def Inv.mark(I:Inv X π σ H s)(v:χ):Inv (X.marked v) π σ H s :=
 ⟨⟨I.ok.mod,I.ok.kind,I.ok.glob,I.ok.blt,I.ok.above,I.ok.inj,I.ok.has,I.ok.cab,λz=>absurd z Yq,I.ok.frames,I.ok.stk,I.ok.exf,I.ok.bs,I.ok.bsz,I.ok.noex,I.ok.exfs,I.ok.funs,I.ok.frf⟩,
  I.os,I.bare,I.base,I.loc,I.cell,I.free,I.freeC,I.pin,I.hok,I.len⟩
def Inv.unmark{v:χ}(J:Inv (X.marked v) π σ H s)(ok:X.Ok):Inv X π σ H s :=
 ⟨ok,J.os,J.bare,J.base,J.loc,J.cell,J.free,J.freeC,J.pin,J.hok,J.len⟩
end
section
variable {X:Cx}{D:ε}{body:List Stmt}{t:Ot}{x n dn:Str}{np xp ep ap hp pos:Pos}{i j:Nat}
def uz(K:Fg)(D:ε)(i j:Nat)(t:Ot):TS:=λB σ H=>t B (λcls dx σ' H'=>∃ C,cls=.ref C/\ExC K C/\W.subIn K (.ref C) (.ref D)≈true /\
 ∀ e,H' e=none->B.nx (((σ'.set j (↥(.ref e))).set i (↥(.ref e))).set j none) (upd H' e (XO e C dx))) σ H
def wc(hst:X.stack=X.env :: X.outer)(hf:X.env.frame≈X.env.locals)(cD:ExC X.K D)(hN:X.N.Nodup)(hg:Gl X dn)(hm:X.mg dn≈(.ref D))(hi:X.N[i]?≈x)(hx:Loc X.env.scope x)(hj:X.N[j]?≈n)
  (hn:X.env.scope.names.lookup n≈.local) (hb:iI X body t) (hfx:X.fn x=true\/X.env.scope.names.lookup x≈.local:=by first | exact .inl rfl | exact .inr rfl | assumption) (hdb:(dn == ("__debug__":Str))=false:=by decide)
  (hd2:(n == ("__debug__":Str))=false:=by decide) (Su:(n == ("__classdict__":Str))=false:=by decide) (hs:∀ v,swapsWith (.Name n ep) (↥(.Name x xp)) ap.line (X.marked v).env=pure false:=by intro;rfl):
  PS X (.Try body [.ExceptHandler (↥(.Name dn np)) (↥n) [.Assign [.Name x xp] (.Name n ep) ap] hp] [] [] pos) (uz X.K D i j t):=by
 intro π s σ H B I h;refine wpAny_Try_except (Jf (hb π s σ H B _ I h) (λf s1 q=>?_) λev s1 z=>?_)
 ·cases f with
  | next=>exact wpAny_execs_nil q
  | ret v=>exact q
  | brk=>exact q
  | cont=>exact q
 ·obtain⟨e,T,cls,dx,σ',H',rfl,I1,fe,fT,a,C,rfl,cC,csub,q⟩:=z;have hfr:X.A.frames≈(X.env :: X.outer):=by rw[<- hst];exact I1.ok.frames
  have hl:s1.heap.FunFrames X.base (X.env :: X.outer):=by rw[<- hst];exact I1.stack
  refine eI hfr hl hf a λh1 T1 Ej a1 c1=>?_;refine UD a1 λh2 a2 c2=>?_;rw[<- hst]at c1;have c3:Bo (CZ X.stack) [T1,e,T] s1.heap h2:=(c1.mono (λb z=>z) λb z=>by simp at z;rcases z with z | z <;> simp[z]).trans (c2.mono (λb z=>nomatch z) λb z=>by simp at z;simp[z]);have I2:Inv X π σ' H' {s1 with heap:=h2}:=I1.call (ch:=[e,T]) (t':=s1.toks) (d':=s1.drawn) (g':=s1.gens) (Un.chg (c3.drop Ej) (λb z=>z) λb z=>z) (I1.hok.chg (c3.drop Ej) I1.stkFree λb z=>by
   simp at z;rcases z with z | z <;> rw[z];exact fe.1;exact fT.1) I1.bare λb z=>by
   simp at z;rcases z with z | z <;> rw[z];exact⟨fe.2.2.2.1,fe.2.1,fe.2.2.2.2.1,fe.2.2.2.2.2⟩;exact⟨fT.2.2.2.1,fT.2.1,fT.2.2.2.2.1,fT.2.2.2.2.2⟩
  have Pn:BH X π H' T1:=I1.fpOk Ej (I1.hok.fresh Ej);have M2:=I2.mark (.ref e);refine wpAny_handleBy_cons (codeAny_handlers_test (Nm (X:=X.marked (.ref e)) M2 hg hm ?_ hdb)) (by intro q;cases q);obtain⟨oe,vs,he,hc,hdx,hd,Bz⟩:=a2.obj;refine tW I2.kIn cD he hc cC csub (codeAny_handlers_suite_as ?_);refine UD a2 λh3 a3 c4=>?_;have c5:Bo (CZ X.stack) [T1] h2 h3:=c4.mono (λb z=>nomatch z) λb z=>z;have I3:Inv X π σ' H' {s1 with heap:=h3}:=I2.call (s:={s1 with heap:=h2}) (h':=h3) (ch:=[T1]) (t':=s1.toks) (d':=s1.drawn) (g':=s1.gens) (Un.chg c5 (λb z=>z) λb z=>z) (I2.hok.chg c4 (λb z=>(nomatch z:H' b=none)) λb z=>by simp at z;rw[z];exact Pn.1) I2.bare λb z=>by
   simp at z;rw[z];exact⟨Pn.2.2.2.1,Pn.2.1,Pn.2.2.2.2.1,Pn.2.2.2.2.2⟩
  obtain⟨Zz,vs3,aU,Sv,ZV,ZW,hv3⟩:=a3.obj;have I4:Inv X π σ' (upd H' e (XO e C dx)) {s1 with heap:=h3}:=I3.track fe ⟨⟨Zz,aU,Sv,ZV,by unfold W.notCls;rw[ZW]⟩,⟨Zz,aU⟩,λh1 h2 ⟨o,q1,q2⟩ k=>⟨o,k o q1,q2⟩⟩;have M4:=I4.mark (.ref e);refine UC (X:=X.marked (.ref e)) (i:=j) M4 hN hj (.inl hn) (v:=.ref e) rfl (λs5 M5=>?_) (.inr hn);have L5:(σ'.set j (↥(.ref e)))[j]?≈(↥(.ref e)):=by
   have:j<↑σ':=by rw[I3.len];exact(Ye.mp hj).1
   rw[Jn this]
  have R:=(AG (Bt (X:=X.marked (.ref e)) (i:=i) (pos:=ap) (pos':=xp) hN hi hx (kP (X:=X.marked (.ref e)) (pos:=ep) hj (.inl hn) hd2 Su) (hs _) hfx)) π s5 _ _
   {nx:=λσ6 H6=>σ6=(σ'.set j (↥(.ref e))).set i (↥(.ref e))/\H6=upd H' e (XO e C dx),rt:=λ_ _=>False} M5 ⟨_,L5,Y,Y⟩
  refine Jf R (λf s6 q6=>?_) λ_ _ z=>False.elim z;cases f with
  | ret v=>obtain⟨_,_,_,_,_,z⟩:=q6;exact z.elim
  | brk=>obtain⟨_,_,_,z⟩:=q6;exact z.elim
  | cont=>obtain⟨_,_,_,z⟩:=q6;exact z.elim
  | next =>
   obtain⟨σ6,H6,M6,rfl,rfl⟩:=q6;have I6:=M6.unmark I.ok;obtain⟨m,aP,_⟩:=id I6.loc;refine wpAny_nameGoes_keeps hn aP (by rw[I.ok.kind];rfl) λh7 v mU mN=>?_;exact⟨Q,I6.gone hN hj hn aP mU mN,q e fe.1⟩
end
section
variable {X:Cx}{k:Nat}{f C:ε}{fd:FuncData}{ps:LS}{sp:Sp}{x m:Str}{p pos apos:Pos}{e o:Expr}{es:δ}{ta:TE}{t:TA}
end
theorem eQ:∀ {bs:List Bool}{us:LU},AQ (bs.map V.bl) us->us=bs.map Value.bool
 | [],_,h=>by cases h;rfl
 | b :: r,_,h=>by
  cases h with
  | cons a t=>rw[eQ t];cases a;rfl
theorem gi(h:Heap):∀ bs:List Bool,ReadsAll h (bs.map Value.bool) (bs.map PyData.bool) []
 | []=>.nil
 | b :: r=>by have:=ReadsAll.cons (Reads.bool (h:=h) b) (gi h r);exact this
theorem gh(k:Bool):∀ bs:List Bool,countIn (.bool k) (bs.map PyData.bool)=((bs.countP (· == k):Nat):Int)
 | []=>rfl
 | b :: r=>by
  rw[Yr,countIn,gh k r,List.countP_cons];cases b <;> cases k <;> simp[same] <;> omega
def qe{X:Cx}:Ou X "list.count" (λx vs H Q=>∃(l:ε) (bs:List Bool) (k:Bool),x=.ref l/\vs=[.bl k]/\H l≈(.lst (bs.map V.bl))/\Q (.int ((bs.countP (· == k):Nat):Int)) H):=by
 intro π s σ H x vs v us Q I rx rv h;obtain⟨l,bs,k,rfl,rfl,hH,q⟩:=h;cases rx;obtain⟨u,rfl,ru⟩:=rv.one;cases ru;obtain⟨z,ψ,n,r,hl,e⟩:=I.lstM hH;have hb:=eQ r;subst hb;refine count_list_bools (xs:=bs.map PyData.bool) (hp:=s.heap) ⟨_,e,Y,Z⟩ (gi _ _) ?_ ?_
 ·rw[List.all_map,Bv];intro b _;rfl
 ·rw[gh];exact⟨.int _,H,I.tok _,⟨Z⟩,q⟩
def dh{K:Fg}{C D:ε}{b:Bool}(h1:W.isClsIn K D=true)(h2:W.typeIn K (.ref D)≈(.type "type"))(c:ExC K C)(h:W.subIn K (.ref C) (.ref D)≈b):W.kitOne K (.ref C) (.ref D)≈b:=by
 unfold W.kitOne;by_cases z:C=D
 ·subst z;obtain⟨nm,q,N,bs,bm,hdct,sn,sub,ab,col,dd,k0,k1,k2,k3,k5,lk⟩:=c.obj;have:=JT lk h;rw[if_pos (by simp)];rw[<- this];simp
 ·rw[if_neg (by simpa using z)];unfold W.kitCls;have El:(W.clsIn K D).isSome=true:=h1;show(if((W.clsIn K D).isSome&&W.typeIn K (.ref D) == ↥(.type "type"))=true then W.subIn K (.ref C) (.ref D)else none)≈b;rw[if_pos (by rw[El,h2];rfl)];exact h
def qx{K:Fg}{C:ε}(c:ExC K C):W.kitOne K (.ref C) (.type "ValueError")≈true:=by
 unfold W.kitOne;rw[if_neg (by simp)];unfold W.kitCls;show(if W.kitMeta "ValueError"=true then W.subIn K (.ref C) (.type "ValueError")else none)≈true;rw[if_pos (by rfl')];exact c.val
def vI(K:Fg):LV->Hp->VK->Prop:=λxs H Q=>∃(e C:ε) (dx:Option ε) (y:V) (cv:χ) (b:Bool),xs=[.ref e,y]/\AZ y cv/\(∀ u,AZ y u->u=cv)/\H e≈(XO e C dx)/\NS H dx/\K6 K C/\W.kitOne K (.ref C) cv≈b/\Q (.bl b) H
def EE{X:Cx}:FN X (.builtin "isinstance") (vI X.K):=by
 intro π s σ H xs us Q I r h;obtain⟨e,C,dx,y,cv,b,rfl,ry,hy,hx,hd,c,k,q⟩:=h;obtain⟨u,w',rfl,r1,r2⟩:=YO r;cases r1;rw[hy w' r2];exact r6 I hx hd c k λtk=>⟨.bl b,H,I.tok _,Y,q⟩
def AA.xdict{H H':Hp}{dx:Option ε}(h:NS H dx)(s:AA H H'):NS H' dx:=h.elim .inl λ⟨a,fs,e,x⟩=>.inr ⟨a,fs,e,s _ _ x⟩
section
variable {X:Cx}
end
end L2
namespace L2
open PySem PySem.W PySem.Spec PyProof.Rows
theorem YQ{K:Fg}{H:Hp}:∀ xs:LS,Ar K H (xs.map V.str) (xs.map Dat.str)
 | []=>.nil
 | x :: r=>.cons (.str x) (YQ r)
theorem Xd:∀ xs:LS,kqdPs (xs.map Dat.str)=xs.map PyData.str
 | []=>by rw[K4,kqdPs];rfl
 | x :: r=>by rw[Yr,kqdPs,Xd r,kqdP];rfl
theorem Xc:∀ xs:LS,PyData.depthAll (xs.map PyData.str)=0
 | []=>by rw[K4,PyData.depthAll]
 | x :: r=>by rw[Yr,PyData.depthAll,Xc r,PyData.depth];rfl
theorem Xl:∀ xs:LS,PyData.hasDictAll (xs.map PyData.str)=false
 | []=>by rw[K4,PyData.hasDictAll]
 | x :: r=>by rw[Yr,PyData.hasDictAll,Xl r,PyData.hasDict];rfl
theorem du:∀ {xs:LS},(∀ x∈xs,↑x<=50/\∀ c∈x.cps.toList,c<16 ^ 8)->((xs.map reprText).map (·.length)).sum<=502 * ↑xs
 | [],_=>by simp
 | x :: r,h=>by
  have ih:=du (xs:=r) λy hy=>h y (by simp[hy]);obtain⟨h1,h2⟩:=h x (by simp);have b:=StrLaws.reprText_len x h2;rw[Yr,Yr,List.sum_cons,Cd];omega
def qt{xs:LS}(h:∀ x∈xs,↑x<=50/\∀ c∈x.cps.toList,c<16 ^ 8)(hl:↑xs<=100):(Str.join ", " (xs.map reprText)).length<=60000:=by
 cases xs with
 | nil=>decide
 | cons a r =>
  have s:=du h;rw[Yr,len_join_cons ", " (reprText a) (r.map reprText),<- Yr,Ya];have e:(Str.ofString ", ").length=2:=by decide
  rw[e];simp only[Cd]at hl s;omega
section
variable {X:Cx}{e:Expr}{te:TE}{pos:Pos}{k:Nat}
def Et(x:Str):Prop:=↑x<=50/\∀ c∈x.cps.toList,c<16 ^ 8
def u_(K:Fg)(te:TE):TF:=λσ H Q=>te σ H λv H1=>∃(t:ε) (xs:LS),v=.ref t/\(AH K H1 t (xs.map V.str)\/SqL K H1 t (xs.map V.str))/\↑xs<=100/\(∀ x∈xs,Et x)/\Q H1
def yG(hr:AV k X.A)(he:PE X e te):PF X (.FormattedValue e 114 none pos) (u_ X.K te):=by
 ac_rfl;refine wpAny_FormattedValue_repr (AM (he π s σ H _ I h) λv s1 ⟨y,H1,I1,r1,t,xs,ey,ht,hl,hx,q⟩=>?_);subst ey;obtain rfl:v=Value.ref t:=r1;have hu:=hr.units;have hj:=qt hx hl;have fin:∀ z:Str,↑z<=100000->∀ h' u tk,(∀ b o,s1.heap.get? b≈o->h'.get? b≈o)->wpAny (model X.prog X.w) X.A (formatField (.str z u) Str.empty) (λu s'=>∃ y tk H',u=.str y tk/\↑y<=100000/\Inv X π σ H' s'/\Q H') X.xe {s1 with heap:=h',toks:=tk}:=λz hz h' u tk kp=>by
  have I2:Inv X π σ H1 {s1 with heap:=h',toks:=tk}:=I1.kept kp;exact wpAny_formatField_str ⟨Q,H1,Y,hz,I2,q⟩ ⟨Q,H1,Y,hz,I2.tok _,q⟩ (A8 hz (by decide))
 rcases ht with ht | ht
 ·obtain⟨as,ra⟩:=(Rep.tuple ht (YQ xs)).reads I1 rfl;rw[kqdP,Xd]at ra;have sh:(PyData.tuple (xs.map PyData.str)).shown.length<=100000:=by
   rw[PyData.shown_tuple,PyData.shownAll_strs,strLen_append,strLen_append];have e1:(Str.ofString "(").length=1:=by decide
   have e2:(Str.ofString (if↑(xs.map PyData.str) == 1 then ",)" else ")")).length<=2:=by split <;> decide
   omega
  refine pyReprObj_of_reads ra ?_ ?_ hr.gd ?_ (λ_ _ z=>z) (λh' u tk kp=>fin _ sh h' u tk kp) (A8 sh (by decide))
  ·rw[PyData.showable,PyData.showableAll_strs]
  ·rw[PyData.hasDict,Xl];intro z;cases z
  ·rw[PyData.depth,Xc];omega
 ·obtain⟨as,ra⟩:=(Rep.list ht (YQ xs)).reads I1 rfl;rw[kqdP,Xd]at ra;have sh:(PyData.list (xs.map PyData.str)).shown.length<=100000:=by
   rw[PyData.shown_list,PyData.shownAll_strs,strLen_append,strLen_append];have e1:(Str.ofString "[").length=1:=by decide
   have e2:(Str.ofString "]").length=1:=by decide
   omega
  refine pyReprObj_of_reads ra ?_ ?_ hr.gd ?_ (λ_ _ z=>z) (λh' u tk kp=>fin _ sh h' u tk kp) (A8 sh (by decide))
  ·rw[PyData.showable,PyData.showableAll_strs]
  ·rw[PyData.hasDict,Xl];intro z;cases z
  ·rw[PyData.depth,Xc];omega
end
end L2
namespace L2
open PySem PySem.Spec PyProof.Rows HT
section
variable {prog:Γ}{w:World}{A:Around}{E:EV}{s:ω}
def uk{t sl:ε}{items:μ}{vl vu:χ}{lo hi:Option Int}{Q:EV}(ht:IsTup s.heap t items)(hs:s.heap.IsSliceOf sl vl vu .none)(pl:IsPart vl lo)(pu:IsPart vu hi)
  (hw:sIx items.size 0 lo=0/\sIx items.size items.size hi=items.size) (h:Q (.ref t) s):wpAny (model prog w) A (getItem (.ref t) (.ref sl)) Q E s:=by
 obtain⟨os,hos,hcs,hds⟩:=id hs;have hTs:s.TypeIs (.ref sl) "slice":=⟨os,hos,hcs⟩;unfold getItem
 try with_reducible refine Jj ?_
 first | refine Ja (Jd ?_) | skip
 refine Ja (wpAny_sequenceKey ht.typeIs (by decide) ?_);refine Ja (wpAny_callSpecial?_slot (name:=Str.ofString "__getitem__") ht.typeIs Ob
  (wpAny_call_entry Ob ht.typeIs entry_tuple_getitem ?_ (args_tuple_getitem _ _)))
 show wpAny _ _ (Builtin.Tuple.tupleItemsOf (.ref t)>>=_) _ _ s;refine Ja (tupleItemsOf_ ht ?_);refine Ja (wpAny_typeOf hTs ?_);rw[if_pos (by decide)];refine Ja (iE hs pl pu ?_);have yes:(((sIx items.size 0 lo:Nat):Int) == 0&&(1:Int) == 1&&(sIx items.size items.size hi - sIx items.size 0 lo) == items.size)=true:=by
  rw[hw.1,hw.2];simp
 show wpAny _ _ (if(((sIx items.size 0 lo:Nat):Int) == 0&&(1:Int) == 1&&(sIx items.size items.size hi - sIx items.size 0 lo) == items.size)=true then _ else _) _ _ s;rw[if_pos yes];apply Ja;unfold Builtin.Tuple.tupleIsExact;refine Ja (wpAny_typeOf ht.typeIs ?_);apply Jd;rw[if_pos (by decide)];refine Ja (wpAny_rule ?_);refine Jd ?_;exact⟨Z,Jd h⟩
end
def Qv(K:Fg):V->Option Int->Option Int->Hp->VK->Prop:=λx lo hi H Q=>∃ a xs,x=.ref a/\AH K H a xs /\
 ((sIx ↑xs 0 lo=0/\sIx ↑xs ↑xs hi=↑xs)->Q (.ref a) H)/\(¬ (sIx ↑xs 0 lo=0/\sIx ↑xs ↑xs hi=↑xs)->∀ p,H p=none->Q (.ref p) (upd H p (.tup (Du xs lo hi))))
def Wm{X:Cx}:RM X (Qv X.K):=by
 intro π s σ H x v vl vu lo hi sl Q I rx hs pl pu h;obtain⟨a,xs,ex,hx,q1,q2⟩:=h;by_cases hw:sIx ↑xs 0 lo=0/\sIx ↑xs ↑xs hi=↑xs
 ·subst ex;cases rx;obtain⟨ψ,r,ht,hz⟩:=I.tuple hx;have hlen:ψ.toArray.size=↑xs:=by rw[Yn];exact r.length.symm
  refine⟨"tuple",_,Ob.lookup,ht.typeIs,?_⟩;exact uk ht hs pl pu (by rw[hlen];exact hw) ⟨.ref a,H,I,Y,q1 hw⟩
 ·exact wy π s σ H x v vl vu lo hi sl Q I rx hs pl pu ⟨a,xs,ex,hx,hw,q2 hw⟩
def xM{xs:LV}{lo hi:Option Int}(h:sIx ↑xs 0 lo=0/\sIx ↑xs ↑xs hi=↑xs):Du xs lo hi=xs:=by
 unfold Du;rw[h.1,h.2,List.drop_zero,Nat.sub_zero,Dy]
def Wx{K:Fg}{H:Hp}{a:ε}{xs:LV}{lo hi:Option Int}{Q:VK}(hx:H a≈(.tup xs))(q:∀ p H',AA H H'->H' p≈(.tup (Du xs lo hi))->Q (.ref p) H'):Qv K (.ref a) lo hi H Q :=
 ⟨a,xs,Y,AH.of hx,λh=>q a H (AA.refl _) (by rw[xM h];exact hx),λ_ p hp=>q p _ (λb o e=>by rw[AD (AK e hp)];exact e) uS⟩
def XC{K:Fg}{H:Hp}{a b:ε}{xs ys:LV}{Q:VK}(hx:H a≈(.tup xs))(hy:H b≈(.tup ys))(hz:↑xs + ↑ys<=sizeLine)(q:∀ p H',AA H H'->H' p≈(.tup (xs++ys))->Q (.ref p) H'):jU K (.ref a) (.ref b) H Q :=
 ⟨a,b,xs,ys,Y,Y,AH.of hx,AH.of hy,hz,λe=>q b H (AA.refl _) (by rw[e];exact hy),λ_ e=>q a H (AA.refl _) (by rw[e,Eb];exact hx),λ_ _ p hp=>q p _ (λc o e=>by rw[AD (AK e hp)];exact e) uS⟩
def dA(xs:LS)(lo hi:Option Int):∃ ys:LS,Du (xs.map V.str) lo hi=ys.map V.str/\(∀ y∈ys,y∈xs)/\↑ys<=↑xs:=by
 refine⟨((xs.drop (HT.sIx ↑xs 0 lo)).take (HT.sIx ↑xs ↑xs hi - HT.sIx ↑xs 0 lo)),?_,λy hy=>List.mem_of_mem_drop (Kw hy),?_⟩
 ·unfold Du;rw[Ya,<- List.map_drop,<- Oc]
 ·rw[BU,Qz];omega
end L2
namespace L2
open PySem PySem.Spec PyProof.Rows
section
variable {X:Cx}
end
end L2
namespace L2
open PySem PySem.Spec PySem.Builtin PySem.Builtin.ObjectAttr PySem.W
structure zz(K:Fg)(C D:ε)(a:Str):Prop extends K6 K C where
 lk:∃ nm q N bs sn sub ab col dd k0 k1 k2 k3 k5,K.lookup C≈(excClassObj nm q C N bs [.ref D,.type "ValueError",.type "Exception",.type "BaseException",.type "object"] true sn sub ab col dd k0 k1 k2 k3 k5 "ValueError.__new__")
 sa:W.findIn K (.ref C) "__setattr__"≈(↥(.builtin "object.__setattr__"))
 na:W.findIn K (.ref C) a≈none
section
variable {K:Fg}{prog:Γ}{w:World}{A:Around}{E:EV}{s:ω}{C D e t0:ε}{a:Str}{v:χ}
end
end L2
namespace L2
open PySem PySem.Spec PyProof.Rows
def XN(e C:ε):HO:=.ext λh=>∃ t0,h.get? e≈(Ew C t0)
structure DIn(K:Fg)(D:ε):Prop where
 ga:W.specialIn K (.ref D) "__getattribute__"≈(↥(.builtin "type.__getattribute__"))
 rd:W.readsIn K D (.type "type")=true
 fi:W.findCls K (.ref D) (.type "type") "__init__"≈(.val (.builtin "ValueError.__init__"))
section
variable {X:Cx}{π:PL}{σ:St}{H:Hp}{s:ω}{a:ε}{φ:Heap->Prop}
end
section
variable {X:Cx}{C D f:ε}{fd:FuncData}{k:Nat}{x dn a:Str}{np AX pos apos pos':Pos}{e o value:Expr}{es:δ}{t:TA}{ta tv:TE}{ps:LS}
end
theorem P2:∀(names:List (Str×NameKind)) (n:Nat) (acc:List (Str×ε)),cellsFrom n names acc=cellsFrom n names []++acc
 | [],_,_=>rfl
 | (x,k):: r,n,acc=>by
  unfold cellsFrom;split
  ·rw[P2 r (n + 1) ((x,n):: acc),P2 r (n + 1) [(x,n)],OY];rfl
  ·exact P2 r n acc
theorem Tj:∀(names:List (Str×NameKind)) (n:Nat) (y:Str×ε),y∈cellsFrom n names []->(y.1,NameKind.cell)∈names
 | [],_,_,h=>by cases h
 | (x,k):: r,n,y,h=>by
  unfold cellsFrom at h;split at h
  ·rename_i hk
   have CW:k=.cell:=by simpa using hk
   rw[P2]at h
   rcases Yp.mp h with z | z
   ·exact G6 _ (Tj r (n + 1) y z)
   ·rw[Yi.mp z,CW];exact Jr
  ·exact G6 _ (Tj r n y h)
def qN{M:Model}{A:Around}{E:EV}{s:ω}{scope:Scope}{globals:ε}{closure:List (Str×ε)}{qual:Str}{outer:Env}{builtins:ε}{Q:Env->ω->Prop}
  (hQ:∀ h',h'.Ns ⇑s (λ_=>none)->(∀ b o,s.heap.get? b≈o->h'.get? b≈o)->CellsOk h' (⇑s + 1) (cellsFrom (⇑s + 1) scope.names []) ->
   Q (newEnv scope ⇑s globals (cellsFrom (⇑s + 1) scope.names []++closure) qual none .none (↥outer) builtins) {s with heap:=h' }):
  wpAny M A (newFunctionEnv scope globals closure [] qual none .none (↥outer) builtins) Q E s:=by
 simp only[newFunctionEnv,Option.isSome_some,if_true];refine Ja (wpAny_alloc ?_);refine Ja (wpAny_layCells _ (λname kind cells=>by cases hkc:kind == NameKind.cell <;> simp[hkc]) _ _ _ _ ?_);have ok:=cellsFrom_ok scope.names (s.heap.push {cls:=.type "dict",data:=.dict #[] }) (⇑s + 1) [] ⟨λ_ _ hm=>(nomatch hm),List.Pairwise.nil⟩ (by rw[C4];exact Yf _);rw[C4]at ok;rw[show({s with heap:=s.heap.push {cls:=.type "dict",data:=.dict #[] } }:ω).heap.objs.size=⇑s + 1 from C4 ..];rw[List.forIn_nil];refine Ja (Jd (Jd ?_));have q:=hQ _ ((Heap.Ns.new s.heap (.type "dict")).keeps (pushCells_keeps scope.names _)) (λb o e=>pushCells_keeps _ _ b o (Yc _ e)) ok;rw[P2];exact q
abbrev EW(X:Cx)(scope:Scope)(N:LS)(C:ε)(s:ω)(H:Hp)(fp:τ):Cx :=
 {X with N:=N,s₀:=s,H₀:=H,env:=compEnvC scope (cellsFrom (C + 1) scope.names []++CL X.env scope.names []) C X.env,outer:=X.stack,ex:=fp,fn:=λx=>scope.names.lookup x == ↥.cell,pn:=[],xe:=λ_ _=>False}
structure F4(X:Cx)(scope:Scope)(own η:LS)(js:LN):Prop where
 calm:X.calm=true
 kind:scope.kind=.function
 cells:∀ y∈scope.names,y.2=.cell->scope.names.lookup y.1≈.cell
 locals:∀ y∈scope.names,y.2=.local->scope.names.lookup y.1≈.local
 fr:∀ y∈scope.names,y.2=.free->X.env.scope.names.lookup y.1≈.cell\/X.env.scope.names.lookup y.1≈.free
 fre:∀ x∈η,scope.names.lookup x≈.free
 slots:js.map (λj=>X.N[j]?)=η.map some
section
variable {X:Cx}{π:PL}{σ:St}{scope:Scope}{own η:LS}{js:LN}
def F4.clo(c:F4 X scope own η js)(ok:X.Ok):∀ y∈scope.names,y.2=.free->∃ a,X.env.cells.lookup y.1≈a:=λy hy e=>by
 rcases c.fr y hy e with h | h
 ·exact ok.has y.1 (.inl h)
 ·exact ok.has y.1 (.inr h)
def F4.cl(c:F4 X scope own η js)(ok:X.Ok){n:Nat}{x:Str}{a:ε}(h:(cellsFrom n scope.names []++CL X.env scope.names []).lookup x≈a):
  ((x,a)∈cellsFrom n scope.names []/\scope.names.lookup x≈.cell)\/X.env.cells.lookup x≈a:=by
 rw[U6]at h;cases q:(cellsFrom n scope.names []).lookup x with
 | some b =>
  rw[q]at h;cases h;have m:=Dz q;exact .inl ⟨m,c.cells _ (Tj _ _ _ m) rfl⟩
 | none =>
  rw[q]at h;exact .inr (Qe scope.names [] x a (c.clo ok) (λ_ _ z=>by simp at z) h)
def F4.has(c:F4 X scope own η js){n:Nat}{x:Str}(h:scope.names.lookup x≈.free):∃ a,(cellsFrom n scope.names []++CL X.env scope.names []).lookup x≈a/\(CL X.env scope.names []).lookup x≈a:=by
 have q:(cellsFrom n scope.names []).lookup x=none:=by
  cases q:(cellsFrom n scope.names []).lookup x with
  | none=>rfl
  | some b =>
   have z:=c.cells _ (Tj _ _ _ (Dz q)) rfl;rw[show scope.names.lookup x≈.cell from z]at h;cases h
 obtain⟨a,ha⟩:=RC.mp (T4 (env:=X.env) scope.names [] x (Dz h));exact⟨a,by rw[U6,q];exact ha,ha⟩
def F4.hasC{n:Nat}{x:Str}(h:scope.names.lookup x≈.cell):∃ a,(cellsFrom n scope.names []++CL X.env scope.names []).lookup x≈a:=by
 obtain⟨a,ha⟩:=RC.mp (W.cellsFrom_some scope.names n [] (.inl h));exact⟨a,by rw[U6,ha];rfl⟩
theorem F4.ok{s2:ω}{H2:Hp}{fp:τ}{C:ε}{h':Heap}(c:F4 X scope own η js)(I:Inv X π σ H2 s2)(f2:∀ b∈fp,BH X π H2 b)(AW:∀ b∈fp,b<⇑s2)(hC:⇑s2<=C)(N:LS)
  (co:CellsOk h' (C + 1) (cellsFrom (C + 1) scope.names [])):(EW X scope N C s2 H2 fp).Ok where
 mod:=I.ok.mod
 kind:=c.kind
 glob:=I.ok.glob
 blt:=I.ok.blt
 above:=hC
 inj:=λx y a h1 h2=>by
  have old:∀ z,X.env.cells.lookup z≈a->a<⇑s2:=λz q=>by
   obtain⟨v,r⟩:=I.cell z a q;exact r.lt
  have new:∀ z,(z,a)∈cellsFrom (C + 1) scope.names []->C + 1<=a:=λz q=>(co.empty z a q).2
  rcases c.cl I.ok h1 with⟨z1,_⟩ | z1 <;> rcases c.cl I.ok h2 with⟨z2,_⟩ | z2
  ·exact name_of_addr co.apart z1 z2
  ·exact absurd (Yo (Yo (old _ z2) hC) (Nat.le_of_succ_le (new _ z1))) (F9 _)
  ·exact absurd (Yo (Yo (old _ z1) hC) (Nat.le_of_succ_le (new _ z2))) (F9 _)
  ·exact I.ok.inj x y a z1 z2
 has:=λx h=>by
  have h':scope.names.lookup x≈.free\/scope.names.lookup x≈.cell:=Xu (env:=X.env) h
  rcases h' with h' | h'
  ·obtain⟨a,z,_⟩:=c.has (n:=C + 1) h';exact⟨a,z⟩
  ·exact F4.hasC h'
 cab:=λx a h h1=>by
  have hx:scope.names.lookup x≈.cell:=by simpa using h
  rcases c.cl I.ok h1 with⟨z,_⟩ | z
  ·have:=(co.empty x a z).2;show ⇑s2<=a;omega
  ·have q:(cellsFrom (C + 1) scope.names []++CL X.env scope.names []).lookup x≈a:=h1;obtain⟨b,hb⟩:=RC.mp (W.cellsFrom_some scope.names (C + 1) [] (.inl hx));rw[U6,hb]at q;cases q;have:=(co.empty x a (Dz hb)).2;show ⇑s2<=a;omega
 hd:=λh=>I.ok.hd h
 frames:=I.ok.frames
 stk:=.inl rfl
 exf:=λb hb=>⟨Yv (Yo (AW b hb) hC),λx a h=>by
  rcases c.cl I.ok h with⟨z,_⟩ | z
  ·exact DG (Yo (Yo (AW b hb) hC) (Nat.le_of_succ_le (co.empty x a z).2))
  ·exact(f2 b hb).2.2.2.2.1 x a z⟩
 bs:=I.bs
 bsz:=A8 I.ok.bsz I.sz
 noex:=λb o e hb=>by
  rcases(f2 b hb).2.2.2.1 with z | z
  ·exact I.ok.noex b o e z
  ·exact absurd (Yo (Yj e) (A8 I.ok.bsz z)) (F9 _)
 exfs:=λb hb z=>by
  rcases Yl.mp (I.stkSub b z)with e | e
  ·exact(f2 b hb).2.1 e
  ·exact(f2 b hb).2.2.1 e
 funs:=I.stack
 frf:=I.stkFree
def tU{s2:ω}{tg iter elt:Expr}{ifs:δ}{pos:Pos}{g:TG}{tt:TT}{te:TE}{Q:VK}{RR:χ->ε->Result->ω->Prop}{itv:χ}{E:EV}
  (c:F4 X scope own η js)
  (hg:∀ C s H fp,PG (EW X scope (own++η) C s H fp) tg g) (ht:∀ C s H fp,Ma (EW X scope (own++η) C s H fp) ifs tt) (he:∀ C s H fp,PE (EW X scope (own++η) C s H fp) elt te)
  (h:VG X π σ tg (AU ↑own js g tt te σ Q) itv s2)
  (hR:∀ D C H' s',Inv X π σ H' s'->BH X π H' C->(∃ m,s'.heap.Ns C m)->Q (.ref D) H'->RR (.ref D) C (.ok .next) s'):
  wpAny (model X.prog X.w) X.A (newList []) (λacc s₃=>wpAny (model X.prog X.w) X.A (newFunctionEnv scope X.env.globals (CL X.env scope.names []) [] X.env.qual none .none (↥X.env)) (λcenv s₄ =>
   codeAny (model X.prog X.w) X.A (.compStart (.ListComp elt [⟨tg,iter,ifs,0⟩] scope pos) 0 itv acc {cenv with scope:=relabel scope X.env}) (RR acc cenv.locals) s₄) E s₃) E s2:=by
 obtain⟨it,fp,tn,J,H2,e,I2,T,FY,f2,hq⟩:=h;subst e;refine wpAny_newObj_type (qN λh₁ hns₁ kp₁ co₁=>?_);dsimp only at hns₁ kp₁ co₁ ⊢;generalize Le:s2.heap.push {cls:=.type "list",dict:=none,data:=.seq ([]:LU).toArray}=G2 at hns₁ kp₁ co₁ ⊢;have hC:G2.objs.size=⇑s2 + 1:=by rw[<- Le,C4]
 have hDC:⇑s2≠G2.objs.size:=by rw[hC];exact Yv (Nat.lt_succ_self _)
 have hCle:⇑s2<=G2.objs.size:=by rw[hC];exact FU _
 have old:∀ b o,s2.heap.get? b≈o->h₁.get? b≈o:=λb o e=>kp₁ b o (Le ▸ Yc _ e);have hD:H2 ⇑s2=none:=I2.hok.fresh (Yf _);have AW:∀ b∈fp,b<⇑s2:=λb hb=>by
  obtain⟨o,e,_⟩:=T.obj _ _ FY b hb;exact Yj e
 have FC:h₁.get? ⇑s2=some {cls:=.type "list",data:=.seq ([]:LU).toArray}:=kp₁ _ _ (Le ▸ Ym _ rfl);obtain⟨W,⟨m0,w0⟩,turn⟩:=hq _ hD;have I0:∀ tk,Inv (EW X scope (own++η) G2.objs.size s2 H2 fp) [] (Hz ↑own js σ) (upd H2 ⇑s2 (.lst [])) {s2 with heap:=h₁,toks:=tk}:=λtk=>by
  refine⟨c.ok I2 f2 AW hCle _ co₁,Y,I2.bare,Un.laid old (Yf _) hD,⟨_,hns₁,λi x v h1 h2 h3=>?_⟩,λx a h=>?_,?_,λx a h=>?_,λp hp=>absurd (show p∈([]:PL)from hp) (by simp),I2.hok.laid old (Yf _) ⟨BE _,[],0,.nil,FC⟩,?_⟩
  ·have hi:↑own<=i:=by
    by_cases hi:i<↑own
    ·unfold Hz at h2;rw[Og (by simpa using hi),YS]at h2;rw[if_pos hi]at h2;cases h2
    ·omega
   have hx:η[i - ↑own]?≈x:=by
    have El:(own++η)[i]?≈x:=h1
    rwa [Ku hi]at El
   have Pl:(js.map λj=>(σ[j]?).join)[i - ↑own]?≈(↥v):=by
    unfold Hz at h2;rw[Ku (by simpa using hi)]at h2;simpa using h2
   rw[Yh]at Pl;obtain⟨j,hj,hjv⟩:=Ip.mp Pl;have hs:=congrArg (λl=>l[i - ↑own]?) c.slots;rw[Yh,Yh,hj,hx]at hs;have hNj:X.N[j]?≈x:=BQ hs;have hσ:σ[j]?≈(↥v):=by
    cases q:σ[j]? with
    | none=>rw[q]at hjv;cases hjv
    | some o =>
     rw[q]at hjv;have:o≈v:=hjv;rw[this]
   have Aq:=c.fre x (Yd hx);have hXk:=c.fr (x,.free) (Dz Aq) rfl;obtain⟨m,hn,hl⟩:=I2.loc;have vis:RK X.env.scope x:=by rcases hXk with k | k;exact .inr (.inl k);exact .inr (.inr k)
   obtain⟨u,r,l⟩:=hl j x v hNj hσ vis;refine⟨u,r,.inr ⟨Xv (env:=X.env) Aq,?_⟩⟩
   rcases l with⟨hk,_⟩ | ⟨_,a,ha,hcell⟩
   ·rcases hXk with k | k
    ·have hk:X.env.scope.names.lookup x≈.local:=hk;rw[show X.env.scope.names.lookup x≈.cell from k]at hk;cases hk
    ·have hk:X.env.scope.names.lookup x≈.local:=hk;rw[show X.env.scope.names.lookup x≈.free from k]at hk;cases hk
   ·obtain⟨a',S4,mE⟩:=c.has (n:=G2.objs.size + 1) Aq;have e:=Qe scope.names [] x a' (c.clo I2.ok) (λ_ _ z=>by simp at z) mE;rw[ha]at e;cases e;obtain⟨o,ho,hd⟩:=hcell;exact⟨a,S4,o,old a o ho,hd⟩
  ·rcases c.cl I2.ok h with⟨z,_⟩ | z
   ·exact⟨none,(co₁.empty x a z).1⟩
   ·obtain⟨v,o,ho,hd⟩:=I2.cell x a z;exact⟨v,o,old a o ho,hd⟩
  ·show upd H2 ⇑s2 (.lst []) G2.objs.size=none;rw[AD (Yx hDC)];exact I2.hok.fresh hCle
  ·rcases c.cl I2.ok h with⟨z,_⟩ | z
   ·have la:=(co₁.empty x a z).2;have lb:⇑s2<a:=RD hCle (Nat.lt_of_succ_le la);rw[AD (DG lb)];exact I2.hok.fresh (MT lb)
   ·obtain⟨v,o,ho,hd⟩:=I2.cell x a z;rw[AD (Yv (Yj ho))];exact I2.freeC x a z
  ·rw[cq,Bw];have:=congrArg List.length c.slots;rw[Ya,Ya]at this;omega
 have stat:∀ {H':Hp},(∀ b∈fp,H' b=none)->∀ b∈fp,BH (EW X scope (own++η) G2.objs.size s2 H2 fp) [] H' b:=λ{H'} hn b hb=>by
  obtain⟨f0,f1,f3,f4,f5,f6⟩:=f2 b hb;refine⟨hn b hb,Yv (Yo (AW b hb) hCle),λz=>?_,.inl hb,λx a h=>by
   rcases c.cl I2.ok h with⟨z,_⟩ | z
   ·exact DG (Yo (Yo (AW b hb) hCle) (Nat.le_of_succ_le (co₁.empty x a z).2))
   ·exact f5 x a z,λp hp=>absurd (show p∈([]:PL)from hp) (by simp)⟩
  rcases Yl.mp (I2.stkSub b z)with e | e
  ·exact f1 e
  ·exact f3 e
 have loop:∀ s₃:ω,s₃={s2 with heap:=h₁,toks:=s2.toks} ->
   codeAny (model X.prog X.w) X.A (.compLoop (.ListComp elt [⟨tg,iter,ifs,0⟩] scope pos) 0 (.ref it) (.ref ⇑s2) (compEnvC scope (cellsFrom (G2.objs.size + 1) scope.names []++CL X.env scope.names []) G2.objs.size X.env))
    (RR (.ref ⇑s2) G2.objs.size) s₃:=by
  rintro s₃ rfl;refine hY (λn s'=>∃ i ys σ' H',Inv (EW X scope (own++η) G2.objs.size s2 H2 fp) [] σ' H' s'/\tn i s'.heap/\(∀ b∈fp,H' b=none)/\W i n ys σ' H') ?_ m0
   ⟨0,[],Q,I0 _,T.keep _ _ _ FY λb _ o e=>old b o e,λb hb=>by rw[AD (Yv (AW b hb))];exact(f2 b hb).1,w0⟩
  rintro n s3 ⟨i,ys,σ3,H3,I3,J5,FK,w3⟩ E'
  rcases turn i n ys σ3 H3 w3 with⟨stop,qn⟩ | ⟨go,hz,N,hN,step⟩
  ·refine AM (T.done (EW X scope (own++η) G2.objs.size s2 H2 fp) rfl rfl rfl c.calm i [] s3 σ3 H3 E' I3 (stat FK) J5 stop) λr s4 ⟨hr,I4⟩=>?_;subst hr;have back:Inv X π σ H3 s4:=I2.call' (ch:=fp) I4.os I4.base I4.hok I4.bare λb hb=>⟨(f2 b hb).2.2.2.1,(f2 b hb).2.1,(f2 b hb).2.2.2.2.1,(f2 b hb).2.2.2.2.2⟩;exact hR _ _ H3 s4 back (I2.fpOk hCle I4.free) ⟨_,I4.loc.choose_spec.1⟩ qn
  ·refine AM (T.item (EW X scope (own++η) G2.objs.size s2 H2 fp) rfl rfl rfl c.calm i [] s3 σ3 H3 E' I3 (stat FK) J5 go) λr s4 ⟨u,hr,h4⟩=>?_;subst hr;refine AM h4 λ_ s5 ⟨x,H5,I5,r5,y5,HA,HH⟩=>?_;have RX:=I5.pinned (stat HH) (T.obj _ _ HA);have nof:∀(e:χ) (s':ω),(EW X scope (own++η) G2.objs.size s2 H2 fp).xe e s'->E' e s':=λ_ _ z=>False.elim z;refine Jf (hg _ _ _ _ _ s5 σ3 H5 x u _ RX r5 (step x H5 y5)) (λ_ s6 ⟨σ6,H6,I6,q6⟩=>?_) nof;refine Jf (ht _ _ _ _ _ s6 σ6 H6 _ I6 q6) (λb s7 ⟨H7,I7,q7⟩=>?_) nof;have again:∀ {σ7:St} {H7:Hp} {s7:ω} {LB:LV},Inv (EW X scope (own++η) G2.objs.size s2 H2 fp) ([]++Nj fp s5.heap) σ7 H7 s7->N LB σ7 H7 ->
     ∃ m,m<n/\∃ i ys σ' H',Inv (EW X scope (own++η) G2.objs.size s2 H2 fp) [] σ' H' s7/\tn i s7.heap/\(∀ b∈fp,H' b=none)/\W i m ys σ' H':=λ{σ7 H7 s7 LB} I7 n7=>by
    obtain⟨m',hm,w7⟩:=hN _ _ _ n7;refine⟨m',hm,i + 1,LB,σ7,H7,I7.unpinned,T.keep _ _ _ HA λb hb o e=>(I7.pin (b,o) (Yw _ (Yw _ (OB hb e)))).1,λb hb=>?_,w7⟩;obtain⟨o,e,d⟩:=T.obj _ _ HA b hb;exact(I7.pin (b,o) (Yw _ (Yw _ (OB hb e)))).2.1
   cases b with
   | false =>
    rw[if_neg Yq]at q7 ⊢;exact again I7 q7
   | true =>
    rw[if_pos rfl]at q7 ⊢;refine Jf (he _ _ _ _ _ s7 σ6 H7 _ I7 q7) (λv s8 ⟨y,H8,I8,r8,HG,w8⟩=>?_) nof;refine Jf (EF (X:=EW X scope (own++η) G2.objs.size s2 H2 fp) _ s8 σ6 H8 (.ref ⇑s2) [y] (.ref ⇑s2) [v] (λ_ H9=>H9=upd H8 ⇑s2 (.lst (ys++[y]))) I8 rfl (.cons r8 .nil) ⟨_,ys,y,Y,Y,HG,hz,Y⟩) (λz s9 ⟨_,H9,I9,_,e9⟩=>?_) nof;subst e9;exact again I9 w8
 exact codeAny_compStart_list (loop _ rfl) (T.self X.A 0 _ _ _ (T.keep _ _ _ FY λb _ o e=>old b o e) (loop _ rfl))
end
section
variable {X:Cx}{scope:Scope}{own η:LS}{js:LN}{tg iter elt:Expr}{ifs:δ}{wi:TI}{g:TG}{tt:TT}{te:TE}{pos:Pos}
def p7(own η:LS)(js:LN)(hc:X.Ok->F4 X scope own η js)(hi:PI X tg iter wi)
  (hg:∀ C s H fp,PG (EW X scope (own++η) C s H fp) tg g) (ht:∀ C s H fp,Ma (EW X scope (own++η) C s H fp) ifs tt) (he:∀ C s H fp,PE (EW X scope (own++η) C s H fp) elt te)
  (hs:∀ x,foldedSetIterable iter X.env x=pure x:=by intro _;rfl):
  PE X (.ListComp elt [⟨tg,iter,ifs,0⟩] scope pos) (jR ↑own js wi g tt te):=by
 ac_rfl;have c:=hc I.ok;rw[eval_ListComp];refine wpAny_comprehension_free (use:=none) rfl hs (Xn (c.clo I.ok)) c.kind c.locals (AM (hi π s σ H _ I h) λxv s₁ h₁=>AM h₁ λit s₂ h₂=>?_);refine tU (RR:=λacc C=>compPost (model X.prog X.w) X.A X.xe none (EP X π σ Q) acc C) c hg ht he h₂ λD C H' s' J F n q=>?_;obtain⟨m,hn⟩:=n;obtain⟨f0,f1,f2,f3,f4,f5⟩:=F;exact⟨m,hn,λh' Gf=>⟨.ref D,H',J.turned (t':=s'.toks) (λb o hb e=>Gf.extBut b o hb e) f0 f1 f3 f4 f5,Y,q⟩⟩
end
def ja(osc:Scope)(on:LS)(scope:Scope)(η:LS)(js:LN):Bool :=
 (scope.kind == .function)&&scope.names.all (λy=>y.2 != .cell || scope.names.lookup y.1 == ↥.cell)&&scope.names.all (λy=>y.2 != .local || scope.names.lookup y.1 == ↥.local) &&
 scope.names.all (λy=>y.2 != .free || (osc.names.lookup y.1 == ↥.cell || osc.names.lookup y.1 == ↥.free))&&η.all (λx=>scope.names.lookup x == ↥.free)&&decide (js.map (λj=>on[j]?)=η.map some)
def qH{X:Cx}{osc scope:Scope}{on own η:LS}{js:LN}(h:ja osc on scope η js=true)(h1:X.env.scope=osc)(h2:X.N=on)(h3:X.calm=true):F4 X scope own η js:=by
 subst h1;subst h2;unfold ja at h;simp only[EI,Bv,decide_eq_true_eq,Bool.or_eq_true,bne_iff_ne,beq_iff_eq,ne_eq]at h;obtain⟨⟨⟨⟨⟨a,b⟩,c⟩,d⟩,e⟩,f⟩:=h;exact⟨h3,a,λy hy z=>(b y hy).resolve_left (λq=>q z),λy hy z=>(c y hy).resolve_left (λq=>q z),λy hy z=>(d y hy).resolve_left (λq=>q z),e,f⟩
def vL(sc osc:Scope):Scope:={sc with names:=sc.names.map λ(n,k)=>if(k == NameKind.free&&osc.kind == .function&&osc.names.lookup n == ↥.cell)then(n,NameKind.cell)else(n,k) }
def sv:typeLookup (.type "list_reverseiterator") "__len__"=pure none:=by rw[typeLookup_type,builtinLookup_eq_fast];kernel_rfl
def uC:typeLookup (.type "list_reverseiterator") "__length_hint__"=pure (↥(.builtin "list_reverseiterator.__length_hint__")):=by rw[typeLookup_type,builtinLookup_eq_fast];kernel_rfl
section
variable {prog:Γ}{w:World}{A:Around}{E:EV}{s:ω}{r:ε}
def ym{Q:Bool->ω->Prop}(tr:s.TypeIs (.ref r) "list_reverseiterator")(q:Q false s):wpAny (model prog w) A (Builtin.List.listLengthHint (.ref r)) Q E s:=by
 unfold Builtin.List.listLengthHint;refine Ja (wpAny_specialOf tr sv ?_)
 wp_delta
 refine Ja (wpAny_specialOf tr uC ?_);generalize hq:("list_reverseiterator.__length_hint__":String)=nm
 wp_delta
 rw[show splitId nm≈("list_reverseiterator","__length_hint__")from by subst hq;rfl'];subst hq;refine Ja (wpAny_isInstance (T:="list_reverseiterator") (b:=true) tr (by rw[isSubtype_type];kernel_rfl) ?_);refine wpAny_ite_split (λc=>absurd c (by decide)) (λ_=>?_);refine wpAny_ite_split (λ_=>?_) (λc=>absurd (by rfl') c);refine wpAny_ite_split (λc=>absurd c (by rfl')) (λ_=>?_);exact Jd q
def rF{R:Result->ω->Prop}{l:ε}{items:μ}{c0:Nat}(hh:A.handled=none)(hi:s.heap.IsRevIter r l ((items.size:Int) - 1))(hl:s.heap.IsList l items)(lr:l≠r)(S:ε)(Sr:S≠r)(Sl:S≠l)(res:χ)(hn:items.size<=sizeLine)
  (eS:s.heap.get? S=some {cls:=.type "list",data:=.seq #[] c0})
  (q:∀ g tk acc c,(∀ b o,b≠S->b≠r->s.heap.get? b≈o->g.get? b≈o)->g.get? S=some {cls:=.type "list",dict:=none,data:=.seq acc c,slots:=#[] }->ItemsOf (λi v=>items[items.size - 1 - i]?≈v) acc items.size->R (.ok (.ret res)) {s with heap:=g,toks:=tk}):
  wpAny (model prog w) A.in1 (Builtin.List.listExtendWith (.ref S) (.ref r) res)
   (λfin s'=>match fin with | .done f=>R (.ok f) s' | .again c'=>c'.quiet=true/\codeAny (model prog w) A c' R s') (λe s'=>R (.error e) s') s:=by
 have W:=Walks.listRev (prog:=prog) (w:=w) (A:=A.in1) hh r l lr items;have nS:S∉[r,l]:=λz=>by
  rcases Yl.mp z with e | e
  ·exact Sr e
  ·exact Sl (Yi.mp e)
 unfold Builtin.List.listExtendWith;refine Ja (wpAny_typeOf hi.typeIs ?_);have n1:Builtin.List.listSameRef (.ref S) (.ref r)=false:=by simp[Builtin.List.listSameRef,Sr]
 have n2:(Value.type "list_reverseiterator" == Value.type "list")=false:=by rfl'
 have n3:(Value.type "list_reverseiterator" == Value.type "tuple")=false:=by rfl'
 simp only[n1,n2,n3,Bool.or_false,Jq,if_false];refine Ja (wpAny_pyIter_revIter hi ?_);refine Ja (Jj (ym hi.typeIs ?_));refine wpAny_ite_split (λc=>absurd c (by rfl')) (λ_=>Jd ⟨plainId_quiet PySem.F.plain_extend_loop _,?_⟩);refine codeAny_extend_loopS W.toS hn S nS res items.size 0 _ #[] c0 rfl (BE _) ⟨BE _,?_,hl⟩ eS (ItemsOf.nil _) λs' acc c mv nh ia=>?_
 ·have e0:(items.size:Int) - 1 - ((0:Nat):Int)=(items.size:Int) - 1:=by omega
  rw[e0];exact hi
 ·rw[Moved.eq_with mv];exact q s'.heap s'.toks acc c (λb o b1 b2 e=>mv.heap b o (λz=>by
   rcases Yl.mp z with e' | e'
   ·exact b1 e'
   ·exact b2 (Yi.mp e')) e) nh ia
def yk{Q:EV}{l:ε}{items:μ}(hh:A.handled=none)(hi:s.heap.IsRevIter r l ((items.size:Int) - 1))(hl:s.heap.IsList l items)(lr:l≠r)(hn:items.size<=sizeLine)
  (q:∀ g tk acc c,(∀ b o,b≠r->s.heap.get? b≈o->g.get? b≈o)->g.get? ⇑s=some {cls:=.type "list",dict:=none,data:=.seq acc c,slots:=#[] }->ItemsOf (λi v=>items[items.size - 1 - i]?≈v) acc items.size->Q (.ref ⇑s) {s with heap:=g,toks:=tk}):
  wpAny (model prog w) A (call (.type "list") [.ref r]) Q E s:=by
 have rlt:r<⇑s:=let⟨_,e,_⟩:=hi;Yj e;have llt:l<⇑s:=let⟨_,e,_⟩:=hl;Yj e;refine callType_codes (Q₁:=λx s1=>x=.ref ⇑s/\s1={s with heap:=s.heap.push {cls:=.type "list",data:=.seq #[] } }) PySem.F.called_list (PySem.F.typeCall_list_1 _) PySem.F.entry_list_init
  (code_list_new _ ⟨Y,Y⟩) λx s1 e1=>?_
 obtain⟨rfl,rfl⟩:=e1;have eS:(s.heap.push {cls:=.type "list",data:=.seq #[] }).get? ⇑s=some {cls:=.type "list",data:=.seq #[] }:=Ym _ rfl;refine⟨⟨_,eS,Y⟩,PySem.F.args_list_init_2 _ _,?_⟩;show wpAny _ A.in1.in1 (do let old <- Builtin.List.listItems (.ref ⇑s);Builtin.List.listUpdate (.ref ⇑s) (λ_=>#[]);letGo old.toList.reverse;Builtin.List.listExtendWith (.ref ⇑s) (.ref r) .none) _ _ _;refine Ja ?_;unfold Builtin.List.listItems;refine Ja (wpAny_seqItems eS rfl (Jd ?_));show wpAny _ _ (updateSeq ⇑s (λ_=>#[])>>=λ_=>letGo (#[]:μ).toList.reverse>>=λ_=>Builtin.List.listExtendWith (.ref ⇑s) (.ref r) .none) _ _ _;refine Ja (wpAny_updateSeq eS rfl ?_);have ng:=MV (Obj.mapSeq (λ_=>(#[]:μ))) eS rfl;have oth:∀ b o,b<⇑s->s.heap.get? b≈o->((s.heap.push {cls:=.type "list",data:=.seq #[] }).update ⇑s (Obj.mapSeq (λ_=>(#[]:μ)))).get? b≈o :=
  λb o hb e=>(Kp _ _ (DG hb)).trans (Yc _ e)
 refine Ja (wpAny_letGo ?_);refine rF (A:=A.in1) hh (hi.at λo e=>oth r o rlt e) (hl.at λo e=>oth l o llt e) lr _ (DG rlt) (DG llt) .none hn ng λg tk acc c k e2 ia=>?_;exact⟨Y,q g tk acc c (λb o hb e=>k b o (Yv (Yj e)) hb (oth b o (Yj e) e)) e2 ia⟩
end
section
variable {X:Cx}
def sY{a:Expr}{ta:TE}{p1 p2 Mf Dn:Pos}(hc:X.calm=true)(ha:PE X a ta)(V4:Gl X "list")(LX:X.mg "list"=none)(V3:Gl X "reversed")(V0:X.mg "reversed"=none)
  (hs:starEach [a] X.env=[(false,eval a X.env)]:=by rfl)
  (Ge:starEach [.Call (.Name "reversed" p2) [a] [] Dn] X.env=[(false,eval (.Call (.Name "reversed" p2) [a] [] Dn) X.env)]:=by rfl):
  PE X (.Call (.Name "list" p1) [.Call (.Name "reversed" p2) [a] [] Dn] [] Mf) (λσ H Q=>Px ta OX σ H λvs H1=>∃ l xs,vs=[.ref l]/\SqL X.K H1 l xs/\∀ p,H1 p=none->Q (.ref p) (upd H1 p (.lst xs.reverse))):=by
 ac_rfl;refine wpAny_Call_Name_kw (F1 I V4 LX Io ?_ (by decide) (by decide));refine Js ?_ Ge rfl;refine Calls.spliced_cons ?_;refine wpAny_Call_Name_kw (F1 I V3 V0 PyProof.Rows.boot_reversed ?_ (by decide) (by decide));refine Js ?_ hs rfl;have pa:PA X [a] (Px ta OX):=pC ha AB hs;refine AM (pa Dn π s σ H (λvs H1=>∃ l xs,vs=[.ref l]/\SqL X.K H1 l xs/\∀ p,H1 p=none->Q (.ref p) (upd H1 p (.lst xs.reverse))) I h) λus s1 ⟨vs,H1,I1,r1,q1⟩=>?_;obtain⟨l,xs,e,hS,q⟩:=q1;subst e;obtain⟨u,rfl,ru⟩:=F0 r1;cases ru;obtain⟨ψ,rv,⟨ol,nl,el,cl,dl,dt⟩,hz⟩:=I1.list hS;have il:s1.heap.IsList l ψ.toArray:=⟨ol,el,cl,nl,dt⟩;have lt:=Yj el;refine call_reversed_list il (Calls.spliced_nil ?_);have nsz:(s1.heap.push (revObj l ((ψ.toArray.size:Int) - 1))).objs.size=⇑s1 + 1:=C4 ..;have hl:=↑rv;refine yk (I1.ok.hd hc) ⟨_,Ym _ rfl,Y,Y⟩ (il.at λo e=>Yc _ e) (Yv lt) (by rw[Yn,<- hl];exact hz) λg tk acc c k eS ia=>?_;obtain⟨a1,a2⟩:=ia;have fr:H1 (s1.heap.push (revObj l ((ψ.toArray.size:Int) - 1))).objs.size=none:=I1.hok.fresh (by rw[nsz];omega);refine⟨.ref _,_,I1.laid (o:=.lst xs.reverse) (λb o e=>k b o (Yv (Yj e)) (Yc _ e)) (by rw[nsz];omega) ⟨by rw[Oh];exact hz,acc.toList,c,?_,by simpa using eS⟩,Y,q _ fr⟩;have len:↑xs.reverse=↑acc.toList:=by
  rw[Oh];have e:↑acc.toList=acc.size:=rfl;rw[e,a1,Yn,hl]
 refine Tv len λi v u hv hu=>?_;have BR:=a2 i u (by rw[<- Oq];exact hu);have hi:i<↑xs:=by
  have:=(Ye.mp hv).1
  rwa [Oh]at this
 rw[List.getElem?_reverse hi]at hv;obtain⟨u',e1,e2⟩:=rv.get hv;have e3:ψ.toArray[ψ.toArray.size - 1 - i]?≈u':=by
  rw[List.getElem?_toArray,Yn,<- hl];exact e1
 rw[e3]at BR;cases BR;exact e2
end
structure Ybn(K:Fg)(D:ε):Prop where
 ha:W.findIn K (.ref D) "__class__"≈(↥(.builtin "object.__class__"))
 hn:W.specialIn K (.builtin "object.__class__") "__get__"≈(↥(.builtin "getset_descriptor.__get__"))
 ht:W.takesIn K (.builtin "object.__class__")≈true
 hm:W.mroIn K D (.type "object")≈true
 ki:W.kitOne K (.ref D) (.ref D)≈true
section
variable {prog:Γ}{w:World}{A:Around}
end
section
variable {X:Cx}
end
section
variable {X:Cx}{π:PL}{σ:St}{H:Hp}{s:ω}{a:ε}{o:Obj}{ν:List (List Key×V)}
end
end L2
namespace L2
open PySem PySem.Spec PySem.Builtin
section
variable {X:Cx}
end
end L2
namespace L2
open PySem PySem.Spec PyProof.Rows
section
variable {X:Cx}{C D f:ε}{fd:FuncData}{k:Nat}{x dn a:Str}{np AX pos apos pos':Pos}{e o value:Expr}{es:δ}{t:TA}{ta tv:TE}{ps:LS}
end
end L2
namespace L2
open PySem PySem.Spec PySem.Builtin
def tE{ss:LS}:∀ {us:LU},AQ (ss.map V.str) us->PyProof.Rows.StrsAre us ss:=by
 induction ss with
 | nil=>intro us r;rw[K4]at r;cases r;exact .nil
 | cons x xs ih =>
  intro us r;rw[Yr]at r;cases r with
  | cons h t =>
   obtain⟨tk,rfl⟩:=h;exact .cons _ _ (ih t)
def rV{ss:LS}{us:LU}(h:PyProof.Rows.StrsAre us ss):AQ (ss.map V.str) us:=by
 induction h with
 | nil=>exact .nil
 | cons y t h ih=>exact .cons ⟨t,Y⟩ ih
section
variable {X:Cx}
def UK:FN X (.builtin "sorted") (λxs H Q=>∃ p ss,xs=[.ref p]/\SqL X.K H p (ss.map V.str)/\↑ss<64/\∀(LD:LS) l,LD.Perm ss->PyProof.Rows.sortedS LD=true->H l=none->Q (.ref l) (upd H l (.lst (LD.map V.str)))):=by
 intro π s σ H xs us Q I r h;obtain⟨p,ss,rfl,hq,Dq,q⟩:=h;obtain⟨u,rfl,rx⟩:=F0 r;cases rx;obtain⟨ψ,r',pl,hz⟩:=I.list hq;have hlen:=↑r';rw[Ya]at hlen;refine PyProof.Rows.sorted_strs pl.isList (tE r') (by omega) λout LD a1 a2 a3=>?_;obtain⟨e,he⟩:=PyProof.Rows.sortedAll_at s.heap ψ out;have CO:↑(LD.map V.str)<=sizeLine:=by
  rw[Ya,a2.length_eq];rw[Ya]at hz;exact hz
 exact⟨.ref (⇑s + 1),_,I.laid (t':=s.toks) (λb o eb=>PyProof.Rows.sortedAll_old eb) (FU _) (show A7 X.prog X.w _ _ _ (.lst (LD.map V.str))from⟨CO,out.toList,e,rV a1,he⟩),Y,q LD _ a2 a3 (I.hok.fresh (FU _))⟩
end
theorem W0:∀ {a b:LN},¬ a<b->¬ b<a->a=b
 | [],[],_,_=>rfl
 | [],y :: b,h,_=>absurd (List.Lex.nil:List.Lex (·<·) [] (y :: b)) h
 | x :: a,[],_,h=>absurd (List.Lex.nil:List.Lex (·<·) [] (x :: a)) h
 | x :: a,y :: b,h,k=>by
  rcases Nat.lt_trichotomy x y with z | z | z
  ·exact absurd (List.Lex.rel z:List.Lex (·<·) (x :: a) (y :: b)) h
  ·subst z;rw[W0 (a:=a) (b:=b) (λz=>h (List.Lex.cons z)) (λz=>k (List.Lex.cons z))]
  ·exact absurd (List.Lex.rel z:List.Lex (·<·) (y :: b) (x :: a)) k
def HD(a b:Str):Prop:=¬ b.cps.toList<a.cps.toList
def qb{a b c:Str}(h:HD a b)(k:HD b c):HD a c:=λz=>by
 by_cases e:a.cps.toList<b.cps.toList
 ·exact k (List.lt_trans z e)
 ·have:=W0 e h;unfold HD at k;rw[<- this]at k;exact k z
def oM{a b:Str}(h:HD a b)(k:HD b a):a=b:=by
 have:=W0 k h;cases a with
 | mk a=>cases b with
  | mk b =>
   congr 1
   exact Array.toList_inj.mp this
theorem fM:∀ {p:Str}{l:LS},PyProof.Rows.risingS p l=true->(p :: l).Pairwise HD
 | p,[],_=>Dk.mpr ⟨(λ_ h=>nomatch h),List.Pairwise.nil⟩
 | p,x :: r,h=>by
  have h':(!ltCps x.cps.toList p.cps.toList&&PyProof.Rows.risingS x r)=true:=h;rw[EI]at h';have ih:=fM h'.2;have px:HD p x:=λz=>by
   have e:=h'.1;rw[PyProof.Rows.ltCps_eq,Jb z]at e;cases e
  refine Dk.mpr ⟨λy hy=>?_,ih⟩
  rcases Yl.mp hy with rfl | hy
  ·exact px
  ·exact qb px ((Dk.mp ih).1 y hy)
def fY:∀ {l:LS},PyProof.Rows.sortedS l=true->l.Pairwise HD
 | [],_=>.nil
 | _ :: _,h=>fM h
theorem e_:∀ {a b:LS},a.Pairwise HD->b.Pairwise HD->a.Perm b->a=b
 | [],b,_,_,p=>(List.Perm.nil_eq p)
 | x :: a,[],_,_,p=>absurd p.length_eq (by simp)
 | x :: a,y :: b,h,k,p=>by
  have e:x=y:=by
   have hx:x∈y :: b:=p.mem_iff.mp (by simp);have hy:y∈x :: a:=p.mem_iff.mpr (by simp)
   rcases Yl.mp hx with e | hx
   ·exact e
   rcases Yl.mp hy with e | hy
   ·exact e.symm
   exact oM ((Dk.mp h).1 y hy) ((Dk.mp k).1 x hx)
  subst e;rw[e_ (Dk.mp h).2 (Dk.mp k).2 ((List.perm_cons x).mp p)]
def g6{a b:LS}(h:PyProof.Rows.sortedS a=true)(k:PyProof.Rows.sortedS b=true)(p:a.Perm b):a=b:=e_ (fY h) (fY k) p
section
variable {X:Cx}
end
end L2
namespace L2
open PySem PySem.Spec PyProof.Rows
structure ZLt(h:Heap)(z ti to i1 i2 l1 l2:ε)(k:Nat)(f:χ):Prop where
 z:IsZip h z ti to f
 ti:IsPair h ti (.ref i1) (.ref i2)
 to:∃ a b,IsPair h to a b
 i1:h.IsListIter i1 l1 k
 i2:h.IsListIter i2 l2 k
section
variable {prog:Γ}{w:World}{A:Around}{E:EV}{s:ω}
end
section
variable {X:Cx}
end
def uQ{ns:ζ}{us:LU}(h:IntsAre us ns):AQ (ns.map V.int) us:=by
 induction h with
 | nil=>exact .nil
 | cons y t h ih=>exact .cons ⟨t,Y⟩ ih
section
variable {X:Cx}
def gG:FN X (.builtin "sorted") (λxs H Q=>∃ p ns,xs=[.ref p]/\SqL X.K H p (ns.map V.int)/\↑ns<64/\∀(LJ:ζ) l,LJ.Perm ns->LJ.Pairwise (·<=·)->H l=none->Q (.ref l) (upd H l (.lst (LJ.map V.int)))):=by
 intro π s σ H xs us Q I r h;obtain⟨p,ns,rfl,hq,Dq,q⟩:=h;obtain⟨u,rfl,rx⟩:=F0 r;cases rx;obtain⟨ψ,r',pl,hz⟩:=I.list hq;have hlen:=↑r';rw[Ya]at hlen;refine sorted_ints pl.isList (UM r') (by omega) λout LJ a1 a2 a3=>?_;obtain⟨e,he⟩:=sortedAll_at s.heap ψ out;have CO:↑(LJ.map V.int)<=sizeLine:=by
  rw[Ya,a2.length_eq];rw[Ya]at hz;exact hz
 exact⟨.ref (⇑s + 1),_,I.laid (t':=s.toks) (λb o eb=>sortedAll_old eb) (FU _) (show A7 X.prog X.w _ _ _ (.lst (LJ.map V.int))from⟨CO,out.toList,e,uQ a1,he⟩),Y,q LJ _ a2 a3 (I.hok.fresh (FU _))⟩
end
theorem Xj:∀ {a b:ζ},a.Pairwise (·<=·)->b.Pairwise (·<=·)->a.Perm b->a=b
 | [],b,_,_,p=>(List.Perm.nil_eq p)
 | x :: a,[],_,_,p=>absurd p.length_eq (by simp)
 | x :: a,y :: b,h,k,p=>by
  have e:x=y:=by
   have hx:x∈y :: b:=p.mem_iff.mp (by simp);have hy:y∈x :: a:=p.mem_iff.mpr (by simp)
   rcases Yl.mp hx with e | hx
   ·exact e
   rcases Yl.mp hy with e | hy
   ·exact e.symm
   have:=(Dk.mp h).1 y hy;have:=(Dk.mp k).1 x hx;omega
  subst e;rw[Xj (Dk.mp h).2 (Dk.mp k).2 ((List.perm_cons x).mp p)]
section
variable {prog:Γ}{w:World}{A:Around}{E:EV}{s:ω}
structure Gy(h:Heap)(z ti to i1 i2 l1 l2:ε)(k:Nat)(f:χ):Prop where
 z:IsZip h z ti to f
 ti:IsPair h ti (.ref i1) (.ref i2)
 to:∃ a b,IsPair h to a b
 i1:h.IsTupleIter i1 l1 k
 i2:h.IsListIter i2 l2 k
theorem Gy.at{h h':Heap}{z ti to i1 i2 l1 l2:ε}{k:Nat}{f:χ}(x:Gy h z ti to i1 i2 l1 l2 k f)(e:∀ b∈[z,ti,to,i1,i2],∀ o,h.get? b≈o->h'.get? b≈o):Gy h' z ti to i1 i2 l1 l2 k f :=
 ⟨e z (by simp) _ x.z,e ti (by simp) _ x.ti,let⟨a,b,y⟩:=x.to;⟨a,b,e to (by simp) _ y⟩,x.i1.at λo q=>e i1 (by simp) o q,x.i2.at λo q=>e i2 (by simp) o q⟩
def sO{z ti to i1 i2 l1 l2:ε}{k:Nat}{xs ys:μ}{x y:χ}{Q:EV}(D:ZipApart z ti to i1 i2 l1 l2)(st:Gy s.heap z ti to i1 i2 l1 l2 k .none)
  (t1:s.heap.IsTuple l1 xs) (t2:s.heap.IsList l2 ys) (hx:xs[k]?≈x) (hy:ys[k]?≈y)
  (q:∀ g,Gy g z ti to i1 i2 l1 l2 (k + 1) (rawInt ⇑s)->IsPair g ⇑s x y->(∀ c o,c≠z->c≠to->c≠i1->c≠i2->s.heap.get? c≈o->g.get? c≈o)->Q (.ref ⇑s) {s with heap:=g}):
  wpAny (model prog w) A (Builtin.«zip.__next__» ⟨[.ref z],[]⟩) (λfin s'=>∃ v,fin=.done (.ret v)/\Q v s') E s:=by
 obtain⟨hz,hti,⟨a,b,hto⟩,FG,DY⟩:=st;show wpAny _ _ (field (.ref z) 2>>=_) _ _ _;refine Ja (Jg hz rfl (x:=.bool false) rfl ?_);show wpAny _ _ (field (.ref z) 3>>=_) _ _ _;refine Ja (Jg hz rfl (x:=.ref ti) rfl (Ja (wpAny_seqItems hti rfl ?_)));show wpAny _ _ (Builtin.SmallTypes.ownedTupleIsFree (.ref z)>>=_) _ _ _;refine Ja ?_;unfold Builtin.SmallTypes.ownedTupleIsFree;refine Ja (Jg hz rfl (x:=.none) rfl (Jd ?_));simp only[if_true];refine Ja (wpAny_rule (Ja (Jg hz rfl (x:=.ref to) rfl (Ja (wpAny_setField_rec hz (by simp) λg1 z1 e1=>?_)))));replace z1:IsZip g1 z ti to .ellipsis:=z1;refine Ja ?_;simp only[List.zipIdx_cons,List.zipIdx_nil,MQ,List.forIn_nil];refine Ja (Ja (wpAny_onRaise ?_));show wpAny _ _ (Builtin.SmallTypes.nextOf (.ref i1)>>=_) _ _ _;refine Ja (OH (FG.extBut e1.extBut D.i1z) (t1.extBut e1.extBut D.l1z) hx λg2 j1 e2=>Jd ?_);have to2:IsPair g2 to a b:=e2.extBut _ _ D.TOi1 (e1.extBut _ _ D.TOz hto);refine Ja (wpAny_seqItems to2 rfl (Ja (wpAny_updateSeq_pair to2 λg3 to3 e3=>?_)));replace to3:IsPair g3 to x b:=to3;refine Ja (wpAny_letGo (Jd (Ja (Ja (wpAny_onRaise ?_)))));show wpAny _ _ (Builtin.SmallTypes.nextOf (.ref i2)>>=_) _ _ _;refine Ja (wpAny_nextOf_list_item (((DY.extBut e1.extBut D.i2z).extBut e2.extBut D.i12.symm).extBut e3.extBut D.TOi2.symm) (((t2.extBut e1.extBut D.l2z).extBut e2.extBut D.l2i1).extBut e3.extBut D.l2TO) hy λg4 j2 e4=>Jd ?_);have Oz:IsPair g4 to x b:=e4.extBut _ _ D.TOi2 to3;refine Ja (wpAny_seqItems Oz rfl (Ja (wpAny_updateSeq_pair Oz λg5 Iu e5=>?_)));replace Iu:IsPair g5 to x y:=Iu;refine Ja (wpAny_letGo (Jd (Jd (Ja (wpAny_seqItems Iu rfl (Ja (wpAny_newTuple ?_)))))));have sz:g5.objs.size=⇑s:=by rw[e5.1,e4.1,e3.1,e2.1,e1.1]
 have z5:IsZip g5 z ti to .ellipsis:=e5.extBut _ _ D.TOz.symm (e4.extBut _ _ D.i2z.symm (e3.extBut _ _ D.TOz.symm (e2.extBut _ _ D.i1z.symm z1)));have k5:∀ c o,c≠z->c≠to->c≠i1->c≠i2->s.heap.get? c≈o->g5.get? c≈o:=λc o c1 c2 c3 c4 e=>e5.extBut _ _ c2 (e4.extBut _ _ c4 (e3.extBut _ _ c2 (e2.extBut _ _ c3 (e1.extBut _ _ c1 e))));have Vw:g5.IsTupleIter i1 l1 (k + 1):=((j1.extBut e3.extBut D.TOi1.symm).extBut e4.extBut D.i12).extBut e5.extBut D.TOi1.symm;have Vv:g5.IsListIter i2 l2 (k + 1):=j2.extBut e5.extBut D.TOi2.symm;have zlt:z<g5.objs.size:=Yj z5;show wpAny _ _ (Builtin.SmallTypes.ownedTupleHandOut (.ref z) (.ref g5.objs.size)>>=_) _ _ _;refine Ja ?_;unfold Builtin.SmallTypes.ownedTupleHandOut;have z6:IsZip (g5.push {cls:=.type "tuple",data:=.seq #[x,y] }) z ti to .ellipsis:=Yc _ z5;refine Ja (wpAny_setField_rec z6 (by simp) λg7 z7 e7=>?_);replace z7:IsZip g7 z ti to (rawInt g5.objs.size):=z7;refine wpAny_setField_rec z7 (by simp) λg8 z8 e8=>?_;replace z8:IsZip g8 z ti to (rawInt g5.objs.size):=z8;have up:∀ c o,c≠z->g5.get? c≈o->g8.get? c≈o:=λc o c1 e=>e8.extBut _ _ c1 (e7.extBut _ _ c1 (Yc _ e));have p8:IsPair g8 g5.objs.size x y:=e8.extBut _ _ (DG zlt) (e7.extBut _ _ (DG zlt) (Ym _ rfl));rw[sz]at z8 p8;refine Jd ⟨Z,?_⟩;show Q (.ref g5.objs.size) _;rw[sz];exact q g8 ⟨z8,up _ _ D.TIz (k5 _ _ D.TIz D.TITO D.TIi1 D.TIi2 hti),⟨x,y,up _ _ D.TOz Iu⟩,Vw.at λo e=>up _ o D.i1z e,Vv.at λo e=>up _ o D.i2z e⟩ p8 λc o c1 c2 c3 c4 e=>up c o c1 (k5 c o c1 c2 c3 c4 e)
def sN{z ti to i1 i2 l1 l2:ε}{k:Nat}{xs ys:μ}{Q:Fin->ω->Prop}(hh:A.handled=none)(D:ZipApart z ti to i1 i2 l1 l2)(st:Gy s.heap z ti to i1 i2 l1 l2 k .none)
  (t1:s.heap.IsTuple l1 xs) (t2:s.heap.IsList l2 ys) (Cg:xs[k]?=none\/ys[k]?=none)
  (q:∀ g e,(∀ c o,c≠z->c≠to->c≠i1->c≠i2->s.heap.get? c≈o->g.get? c≈o)->(∃ o,g.get? e≈o/\o.cls=.type "StopIteration")->E (.ref e) {s with heap:=g}):
  wpAny (model prog w) A (Builtin.«zip.__next__» ⟨[.ref z],[]⟩) Q E s:=by
 obtain⟨hz,hti,⟨a,b,hto⟩,FG,DY⟩:=st;show wpAny _ _ (field (.ref z) 2>>=_) _ _ _;refine Ja (Jg hz rfl (x:=.bool false) rfl ?_);show wpAny _ _ (field (.ref z) 3>>=_) _ _ _;refine Ja (Jg hz rfl (x:=.ref ti) rfl (Ja (wpAny_seqItems hti rfl ?_)));show wpAny _ _ (Builtin.SmallTypes.ownedTupleIsFree (.ref z)>>=_) _ _ _;refine Ja ?_;unfold Builtin.SmallTypes.ownedTupleIsFree;refine Ja (Jg hz rfl (x:=.none) rfl (Jd ?_));simp only[if_true];refine Ja (wpAny_rule (Ja (Jg hz rfl (x:=.ref to) rfl (Ja (wpAny_setField_rec hz (by simp) λg1 z1 e1=>?_)))));replace z1:IsZip g1 z ti to .ellipsis:=z1;refine Ja ?_;simp only[List.zipIdx_cons,List.zipIdx_nil,MQ,List.forIn_nil];refine Ja (Ja (wpAny_onRaise ?_));show wpAny _ _ (Builtin.SmallTypes.nextOf (.ref i1)>>=_) _ _ _;cases hx:xs[k]? with
 | none =>
  refine Ja (Qb hh (FG.extBut e1.extBut D.i1z) (t1.extBut e1.extBut D.l1z) hx λg2 e e2 he=>?_);obtain⟨oe,ho,hc⟩:=he;have z2:IsZip g2 z ti to .ellipsis:=e2 _ _ D.i1z.symm z1;have ez:e≠z:=λx=>by subst x;rw[z2]at ho;cases ho;simp at hc
  exact wpAny_setField_rec z2 (by simp) λg3 _ e3=>q g3 e (λc o c1 _ c3 _ x=>e3.extBut _ _ c1 (e2 _ _ c3 (e1.extBut _ _ c1 x))) ⟨oe,e3.extBut _ _ ez ho,hc⟩
 | some x =>
  have hy:ys[k]?=none:=by rcases Cg with h | h;rw[hx]at h;cases h;exact h
  refine Ja (OH (FG.extBut e1.extBut D.i1z) (t1.extBut e1.extBut D.l1z) hx λg2 j1 e2=>Jd ?_);have to2:IsPair g2 to a b:=e2.extBut _ _ D.TOi1 (e1.extBut _ _ D.TOz hto);refine Ja (wpAny_seqItems to2 rfl (Ja (wpAny_updateSeq_pair to2 λg3 to3 e3=>?_)));refine Ja (wpAny_letGo (Jd (Ja (Ja (wpAny_onRaise ?_)))));show wpAny _ _ (Builtin.SmallTypes.nextOf (.ref i2)>>=_) _ _ _;refine Ja (wpAny_nextOf_list_end hh (((DY.extBut e1.extBut D.i2z).extBut e2.extBut D.i12.symm).extBut e3.extBut D.TOi2.symm) (((t2.extBut e1.extBut D.l2z).extBut e2.extBut D.l2i1).extBut e3.extBut D.l2TO) hy λg4 e e4 he=>?_);obtain⟨oe,ho,hc⟩:=he;have z4:IsZip g4 z ti to .ellipsis:=e4 _ _ D.i2z.symm (e3.extBut _ _ D.TOz.symm (e2.extBut _ _ D.i1z.symm z1));have ez:e≠z:=λx=>by subst x;rw[z4]at ho;cases ho;simp at hc
  exact wpAny_setField_rec z4 (by simp) λg5 _ e5=>q g5 e (λc o c1 c2 c3 c4 x=>e5.extBut _ _ c1 (e4 _ _ c4 (e3.extBut _ _ c2 (e2.extBut _ _ c3 (e1.extBut _ _ c1 x))))) ⟨oe,e5.extBut _ _ ez ho,hc⟩
def uW{z ti to i1 i2 l1 l2:ε}{k:Nat}{xs ys:μ}{x y:χ}{Q:OU->ω->Prop}(D:ZipApart z ti to i1 i2 l1 l2)(st:Gy s.heap z ti to i1 i2 l1 l2 k .none)
  (t1:s.heap.IsTuple l1 xs) (t2:s.heap.IsList l2 ys) (hx:xs[k]?≈x) (hy:ys[k]?≈y)
  (q:∀ g,Gy g z ti to i1 i2 l1 l2 (k + 1) (rawInt ⇑s)->IsPair g ⇑s x y->(∀ c o,c≠z->c≠to->c≠i1->c≠i2->s.heap.get? c≈o->g.get? c≈o)->Q (↥(.ref ⇑s)) {s with heap:=g}):
  wpAny (model prog w) A (pyNext (.ref z)) Q E s:=by
 have hT:s.TypeIs (.ref z) "zip":=⟨_,st.z,Y⟩;unfold pyNext;exact Ja (wpAny_attempt (wpAny_callSpecial?_slot (name:=Str.ofString "__next__") hT K1 (wpAny_call_entry K1 hT U8 (sO D st t1 t2 hx hy λg a1 a2 a3=>Jd (q g a1 a2 a3)) (U_ _))))
def uV{z ti to i1 i2 l1 l2:ε}{k:Nat}{xs ys:μ}{Q:OU->ω->Prop}(hh:A.handled=none)(D:ZipApart z ti to i1 i2 l1 l2)(st:Gy s.heap z ti to i1 i2 l1 l2 k .none)
  (t1:s.heap.IsTuple l1 xs) (t2:s.heap.IsList l2 ys) (Cg:xs[k]?=none\/ys[k]?=none)
  (q:∀ g,(∀ c o,c≠z->c≠to->c≠i1->c≠i2->s.heap.get? c≈o->g.get? c≈o)->Q none {s with heap:=g}):wpAny (model prog w) A (pyNext (.ref z)) Q E s:=by
 have hT:s.TypeIs (.ref z) "zip":=⟨_,st.z,Y⟩;unfold pyNext;refine Ja (wpAny_attempt (wpAny_callSpecial?_slot (name:=Str.ofString "__next__") hT K1 (wpAny_call_entry K1 hT U8 (sN hh D st t1 t2 Cg λg e hk he=>?_) (U_ _))));obtain⟨o,ho,hc⟩:=he;refine Ja (wpAny_isInstance (T:="StopIteration") (b:=true) ⟨o,ho,hc⟩ isSubtype_stop ?_);exact Jd (q _ hk)
abbrev SJ(h:Heap)(l1:ε):Heap:=h.push {cls:=.type "tuple_iterator",data:=.fields #[.ref l1,.int 0 0] }
abbrev SI(h:Heap)(l1 l2:ε):Heap:=(SJ h l1).push {cls:=.type "list_iterator",data:=.fields #[.ref l2,.int 0 0] }
abbrev SH(h:Heap)(l1 l2:ε):Heap:=(SI h l1 l2).push {cls:=.type "tuple",data:=.seq #[.ref h.objs.size,.ref (SJ h l1).objs.size] }
abbrev SG(h:Heap)(l1 l2:ε):Heap:=(SH h l1 l2).push {cls:=.type "tuple",data:=.seq #[.none,.none] }
abbrev M0(h:Heap)(l1 l2:ε):Heap:=(SG h l1 l2).push {cls:=.type "zip",data:=.fields #[.none,.bool false,.bool false,.ref (SI h l1 l2).objs.size,.ref (SH h l1 l2).objs.size] }
def sJ(l1 l2:ε)(xs ys:μ):Meets (Builtin.«zip.__new__» ⟨[.type "zip",.ref l1,.ref l2],[]⟩) (λ_ R s=>s.heap.IsTuple l1 xs/\s.heap.IsList l2 ys /\
   R (.ok (.ret (.ref (SG s.heap l1 l2).objs.size))) {s with heap:=M0 s.heap l1 l2}):=
 .of_wp λprog w A R s h=>by
  obtain⟨hp,g,d,tk,os⟩:=s;obtain⟨t1,t2,h⟩:=h;have hsub:=sub_zip;have T1:Heap.IsTuple (Shared.heap ⟨hp,g,d,tk,os⟩) l1 xs:=t1;have T2:Heap.IsList (Shared.heap ⟨hp.push {cls:=.type "tuple_iterator",data:=.fields #[.ref l1,.int 0 0] },g,d,tk,os⟩) l2 ys:=Heap.IsList.push t2 _
  wp_walk using wpAny_pyIter_tuple T1,wpAny_pyIter_list T2
  exact⟨Z,h⟩
def qF{l1 l2:ε}{xs ys:μ}{Q:EV}(t1:s.heap.IsTuple l1 xs)(t2:s.heap.IsList l2 ys)
  (q:∀ g,Gy g (⇑s + 4) (⇑s + 2) (⇑s + 3) ⇑s (⇑s + 1) l1 l2 0 .none->(∀ c o,s.heap.get? c≈o->g.get? c≈o)->Q (.ref (⇑s + 4)) {s with heap:=g}):
  wpAny (model prog w) A (call (.type "zip") [.ref l1,.ref l2]) Q E s:=by
 refine callType_new PySem.F.called_zip (by decide) (PySem.F.typeCall_zip_2 _ _) (PySem.F.newCall_zip_2 _ _) (λobj=>PySem.F.args_object_init_3 obj _ _) PySem.F.entry_zip_new (sJ l1 l2 xs ys) ⟨t1,t2,?_⟩;have n1:(SJ s.heap l1).objs.size=⇑s + 1:=C4 ..;have n2:(SI s.heap l1 l2).objs.size=⇑s + 2:=by rw[C4,n1]
 have n3:(SH s.heap l1 l2).objs.size=⇑s + 3:=by rw[C4,n2]
 have n4:(SG s.heap l1 l2).objs.size=⇑s + 4:=by rw[C4,n3]
 have up:∀ {h:Heap} {a:ε} {o:Obj} (x:Obj),h.get? a≈o->(h.push x).get? a≈o:=λx e=>Yc _ e;have f5:(M0 s.heap l1 l2).get? (SG s.heap l1 l2).objs.size≈_:=Ym _ rfl;have f4:(M0 s.heap l1 l2).get? (SH s.heap l1 l2).objs.size≈_:=up _ (Ym _ rfl);have f3:(M0 s.heap l1 l2).get? (SI s.heap l1 l2).objs.size≈_:=up _ (up _ (Ym _ rfl));have f2:(M0 s.heap l1 l2).get? (SJ s.heap l1).objs.size≈_:=up _ (up _ (up _ (Ym _ rfl)));have f1:(M0 s.heap l1 l2).get? ⇑s≈_:=up _ (up _ (up _ (up _ (Ym _ rfl))));show _/\_;rw[n2,n3,n4]at f5;rw[n1,n2]at f3;rw[n3]at f4;rw[n1]at f2;rw[n4];exact⟨⟨_,f5,Y⟩,q _ ⟨f5,f3,⟨Q,f4⟩,⟨_,f1,Y,Y⟩,⟨_,f2,Y,Y⟩⟩ λc o x=>up _ (up _ (up _ (up _ (up _ x))))⟩
end
def rT{P:Γ}{w:World}{K:Fg}{elts:δ}{x1}{pos:Pos}{xs ys:LV}(a b z ti to i1 i2:ε)(D:ZipApart z ti to i1 i2 a b):
  Ft P w K (.Tuple elts x1 pos) (Hi (xs.zip ys) λH=>AH K H a xs/\SqL K H b ys) [z,ti,to,i1,i2] z (λi h=>Gy h z ti to i1 i2 a b i .none) where
 mem:=by simp
 obj:=λi h st c hc=>by
  have BM:c=z\/c=ti\/c=to\/c=i1\/c=i2:=by simpa using hc
  obtain⟨x,y,h3⟩:=st.to;obtain⟨o1,e1,_,d1⟩:=st.i1;obtain⟨o2,e2,_,d2⟩:=st.i2
  rcases BM with rfl | rfl | rfl | rfl | rfl
  ·exact⟨_,st.z,λv q=>by cases q⟩
  ·exact⟨_,st.ti,λv q=>by cases q⟩
  ·exact⟨_,h3,λv q=>by cases q⟩
  ·exact⟨_,e1,λv q=>by rw[d1]at q;cases q⟩
  ·exact⟨_,e2,λv q=>by rw[d2]at q;cases q⟩
 keep:=λi h h' st k=>st.at k
 item:=by
  intro X hP hw hK hc i π s σ H E I hf st hg;subst hP hw hK;obtain⟨hi,ha,hb⟩:=hg;obtain⟨p,hp⟩:∃ p,(xs.zip ys)[i]?≈p:=⟨(xs.zip ys)[i]'hi,Yb hi⟩;obtain⟨hx,hy⟩:=QP hp;obtain⟨ψ,rv,pa,_⟩:=I.tuple ha;obtain⟨jts,DK,pb,_⟩:=I.list hb;obtain⟨u,hu,ru⟩:=rv.get hx;obtain⟨v,hv,Vd⟩:=DK.get hy;refine uW D st (show s.heap.IsTuple a ψ.toArray from pa) pb.isList (by simpa using hu) (by simpa using hv) λg A1 hpr hk=>?_;refine⟨Z,?_⟩;refine wpAny_letOwnedTupleGo_zip (s:={s with heap:=g}) A1.z λg' z' sb=>?_;have zlt:z<⇑s:=Yj st.z;have nz:⇑s≠z:=DG zlt;have D8:Heap.ExtBut z g g':=sb.extBut;have hT:IsPair g' ⇑s u v:=D8 _ _ nz hpr;have I1:Inv X π σ (upd H ⇑s (.tup [p.1,p.2])) {s with heap:=g' }:=I.turnedNewL (t':=s.toks) (ψ:=[z,ti,to,i1,i2]) (λc o hc e=>D8 c o (λq=>hc (by simp[q])) (hk c o (λq=>hc (by simp[q])) (λq=>hc (by simp[q])) (λq=>hc (by simp[q])) (λq=>hc (by simp[q])) e)) hf (Yf _)
   ⟨U,[u,v],.cons ru (.cons Vd .nil),⟨_,hT,Y,Z⟩⟩
  have FY:Gy g' z ti to i1 i2 a b (i + 1) .none:=by
   obtain⟨a1,a2,a3⟩:=A1.to;exact⟨z',D8 _ _ D.TIz A1.ti,⟨a1,a2,D8 _ _ D.TOz a3⟩,A1.i1.extBut D8 D.i1z,A1.i2.extBut D8 D.i2z⟩
  refine⟨.ref ⇑s,_,I1,Y,⟨⇑s,p,hp,I.hok.fresh (Yf _),Y,Y⟩,FY,λc hc=>?_⟩;have lt:∀ c∈[z,ti,to,i1,i2],c<⇑s:=λc hc=>by
   have BM:c=z\/c=ti\/c=to\/c=i1\/c=i2:=by simpa using hc
   obtain⟨a1,a2,a3⟩:=st.to;obtain⟨o1,e1,_⟩:=st.i1;obtain⟨o2,e2,_⟩:=st.i2
   rcases BM with rfl | rfl | rfl | rfl | rfl
   ·exact zlt
   ·exact Yj st.ti
   ·exact Yj a3
   ·exact Yj e1
   ·exact Yj e2
  rw[AD (Yv (lt c hc))];exact(hf c hc).1
 done:=by
  intro X hP hw hK hc i π s σ H E I hf st hg;subst hP hw hK;obtain⟨hi,ha,hb⟩:=hg;obtain⟨ψ,rv,pa,_⟩:=I.tuple ha;obtain⟨jts,DK,pb,_⟩:=I.list hb;have l1:=↑rv;have l2:=↑DK;have Cg:ψ.toArray[i]?=none\/jts.toArray[i]?=none:=by
   rw[Ol]at hi
   rcases Nat.le_total ↑xs ↑ys with h | h
   ·rw[Nat.min_eq_left h]at hi;exact .inl (by simp;omega)
   ·rw[Nat.min_eq_right h]at hi;exact .inr (by simp;omega)
  exact uV (I.ok.hd hc) D st (show s.heap.IsTuple a ψ.toArray from pa) pb.isList Cg λg hk=>⟨Y,I.turnedL (t':=s.toks) (ψ:=[z,ti,to,i1,i2]) (λc o hc e=>hk c o (λq=>hc (by simp[q])) (λq=>hc (by simp[q])) (λq=>hc (by simp[q])) (λq=>hc (by simp[q])) e) hf⟩
 self:=λA i s Q E st h=>wpAny_pyIter_zip st.z h
section
variable {X:Cx}
def ve(K:Fg)(ta:TA):TI:=λσ H R=>ta σ H λvs H1=>∃(a b:ε) (xs ys:LV),vs=[.ref a,.ref b]/\AH K H1 a xs/\SqL K H1 b ys/\R (Hi (xs.zip ys) λH=>AH K H a xs/\SqL K H b ys) H1
def cK{elts:δ}{x1}{E6:Pos}{a b:Expr}{ta:TA}{p pos:Pos}(hg:Gl X "zip")(hm:X.mg "zip"=none)(ha:PA X [a,b] ta)(hs:starEach [a,b] X.env=[(false,eval a X.env),(false,eval b X.env)]:=by rfl)(Ge:starEach [b] X.env=[(false,eval b X.env)]:=by rfl):
  PI X (.Tuple elts x1 E6) (.Call (.Name "zip" p) [a,b] [] pos) (ve X.K ta):=by
 intro π s σ H R I h;refine Call_ (F1 I hg hm boot_zip (Js (AM (ha pos π s σ H _ I h) λus s1 ⟨vs,H1,I1,r1,q1⟩=>?_) (by rw[hs,Ge]) (by rw[Ge];rfl)));obtain⟨l1,l2,xs,ys,e,t1,t2,q⟩:=q1;subst e;cases r1 with
 | cons r rr =>
  cases rr with
  | cons r' rr =>
   cases rr;obtain rfl:_=Value.ref l1:=r;obtain rfl:_=Value.ref l2:=r';obtain⟨ψ,rv,pa,_⟩:=I1.tuple t1;obtain⟨jts,DK,pb,_⟩:=I1.list t2;have b1:s1.heap.IsTuple l1 ψ.toArray:=pa;have b2:s1.heap.IsList l2 jts.toArray:=pb.isList;have NB:l1<⇑s1:=let⟨_,e,_⟩:=b1;Yj e;have Vr:l2<⇑s1:=let⟨_,e,_⟩:=b2;Yj e;refine qF b1 b2 λg st hk=>wpAny_pyIter_zip (s:={s1 with heap:=g}) st.z ?_;have D:ZipApart (⇑s1 + 4) (⇑s1 + 2) (⇑s1 + 3) ⇑s1 (⇑s1 + 1) l1 l2:=W.ktu_apart _ _ _ NB Vr;refine⟨_,[⇑s1 + 4,⇑s1 + 2,⇑s1 + 3,⇑s1,⇑s1 + 1],Q,H1,Y,I1.kept (t':=s1.toks) λb o e=>hk b o e,rT l1 l2 _ _ _ _ _ D,st,λc hc=>?_,q⟩;have BM:c=⇑s1 + 4\/c=⇑s1 + 2\/c=⇑s1 + 3\/c=⇑s1\/c=⇑s1 + 1:=by simpa using hc
   have ge:⇑s1<=c:=by
    rcases BM with rfl | rfl | rfl | rfl | rfl
    ·exact F7 _ _
    ·exact F7 _ _
    ·exact F7 _ _
    ·exact Yf _
    ·exact F7 _ _
   exact I1.fpOk ge (I1.hok.fresh ge)
end
end L2
namespace L2
open PySem PySem.Spec PyProof.Rows
open PySem.W (KasT kas_rev kas_asc kas_desc kas_tail3 kas_descPart kas_count kas_place kas_bin kas_sort)
def Bq{α:Type}(lt:Nat->Nat->Bool)(N:Nat):KasT α->(α->Prop)->Prop
 | .ret a,R=>R a
 | .ask i j k,R=>i<N/\j<N/\Bq lt N (k (lt i j)) R
theorem OA{α β:Type}{lt:Nat->Nat->Bool}{N:Nat}{f:α->KasT β}{R:β->Prop}:∀ {t:KasT α},Bq lt N t (λa=>Bq lt N (f a) R)->Bq lt N (t.bind f) R
 | .ret _,h=>h
 | .ask _ _ k,⟨h1,h2,h⟩=>⟨h1,h2,OA (t:=k _) h⟩
theorem dk{α:Type}{lt:Nat->Nat->Bool}{N:Nat}{cmp:Nat->Nat->(Bool->ω->Prop)->ω->Prop}{I:ω->Prop}{R:α->Prop}{Q:α->ω->Prop}
  (hc:∀ i j C s,i<N->j<N->I s->(∀ s',I s'->C (lt i j) s')->cmp i j C s) (hq:∀ a s',R a->I s'->Q a s'):∀(t:KasT α) (s:ω),Bq lt N t R->I s->t.kasWp cmp Q s
 | .ret a,s,h,hI=>hq a s h hI
 | .ask i j k,s,⟨h1,h2,h⟩,hI=>hc i j _ s h1 h2 hI λs' nF=>dk hc hq (k _) s' h nF
section
variable {O:KeyOrd}{key:Nat->O.α}{N:Nat}
abbrev Aw(key:Nat->O.α)(i j:Nat):Bool:=O.blt (key i) (key j)
def KN(key:Nat->O.α)(p:Array Nat)(i:Nat):O.α:=key (p.getD i 0)
def PB(N:Nat)(p:Array Nat):Prop:=p.toList.Perm (List.range N)
def HR(key:Nat->O.α)(p:Array Nat)(k:Nat):Prop:=∀ i j,i<=j->j<k->O.kle (KN key p i) (KN key p j)
def Qk(key:Nat->O.α)(p:Array Nat)(k:Nat):Prop:=∀ i j,i<=j->j<k->O.kle (KN key p j) (KN key p i)
theorem PB.size{p:Array Nat}(h:PB N p):p.size=N:=by
 have:=h.length_eq;rw[Il,Ec]at this;exact this
def PB.lt{p:Array Nat}(h:PB N p)(hN:0<N)(i:Nat):p.getD i 0<N:=by
 by_cases hi:i<p.size
 ·have e:p.getD i 0=p[i]:=by simp[Array.getD,hi]
  rw[e];have:p[i]∈p.toList:=by simp
  exact CA.mp (h.mem_iff.mp this)
 ·have e:p.getD i 0=0:=by simp[Array.getD,hi]
  rw[e];exact hN
def Lv{p:Array Nat}(i:Nat):p.getD i 0=(p[i]?).getD 0:=by
 simp
def PB.rev{p:Array Nat}(h:PB N p)(i j:Nat):PB N (kas_rev p i j):=(Array.perm_iff_toList_perm.mp (mirror_perm p i j _)).trans h
def PB.bub{p:Array Nat}(h:PB N p)(i j:Nat):PB N (bubble p i j):=(Array.perm_iff_toList_perm.mp (bubble_perm p i j)).trans h
def WM{p:Array Nat}{i j:Nat}(hj:j<=p.size)(k:Nat):KN key (kas_rev p i j) k=if i<=k/\k<j then KN key p (i + j - 1 - k)else KN key p k:=by
 have e:=getElem?_mirror_all (xs:=p) (i:=i) hj k;have e1:(mirror p i j ((j - i) / 2)).getD k 0=((mirror p i j ((j - i) / 2))[k]?).getD 0:=Lv k;show key ((mirror p i j ((j - i) / 2)).getD k 0)=_;rw[e1,e];by_cases h1:i<=k/\k<j
 ·rw[if_pos h1,if_pos h1];exact congrArg key (Lv _).symm
 ·rw[if_neg h1,if_neg h1];exact congrArg key (Lv k).symm
def QQ{p:Array Nat}{i j:Nat}(hj:j<=p.size)(heq:∀ k,i<=k->k<j->KN key p k=KN key p (j - 1))(k:Nat):KN key (kas_rev p i j) k=KN key p k:=by
 rw[WM hj];split
 ·rw[heq _ (by omega) (by omega),heq k (by omega) (by omega)]
 ·rfl
def jZ{p:Array Nat}{src d:Nat}(hs:src<p.size)(hd:d<=src)(k:Nat):KN key (bubble p src d) k=if k=src - d then KN key p src else if src - d<k/\k<=src then KN key p (k - 1)else KN key p k:=by
 have e:=getElem?_bubble hs d hd k;have e1:(bubble p src d).getD k 0=((bubble p src d)[k]?).getD 0:=Lv k;show key ((bubble p src d).getD k 0)=_;rw[e1,e];by_cases h1:k=src - d
 ·rw[if_pos h1,if_pos h1];exact congrArg key (Lv src).symm
 ·rw[if_neg h1,if_neg h1];by_cases h2:src - d<k/\k<=src
  ·rw[if_pos h2,if_pos h2];exact congrArg key (Lv (k - 1)).symm
  ·rw[if_neg h2,if_neg h2];exact congrArg key (Lv k).symm
theorem WQ{p:Array Nat}{R:Nat->Prop}(hB:PB N p)(hN:0<N):∀(f n:Nat),1<=n->HR key p n ->
  (∀ m,n<=m->m<=n + f->HR key p m->(m=n + f\/O.klt (KN key p m) (KN key p (m - 1)))->R m)->Bq (Aw key) N (kas_asc p f n) R
 | 0,n,_,hs,h=>h n (Yf _) (Yf _) hs (.inl rfl)
 | f + 1,n,h1,hs,h=>by
  refine⟨hB.lt hN _,hB.lt hN _,?_⟩;cases hless:O.blt (key (p.getD n 0)) (key (p.getD (n - 1) 0))with
  | true =>
   show Bq _ _ (if Aw key _ _=true then _ else _) _;rw[show Aw key (p.getD n 0) (p.getD (n - 1) 0)=true from hless,if_pos rfl];exact h n (Yf _) (by omega) hs (.inr hless)
  | false =>
   show Bq _ _ (if Aw key _ _=true then _ else _) _;rw[show Aw key (p.getD n 0) (p.getD (n - 1) 0)=false from hless,if_neg (by simp)];refine WQ hB hN f (n + 1) (by omega) (λi j hij hj=>?_) λm m1 m2 ms mo=>h m (by omega) (by omega) ms (by rcases mo with e | e;exact .inl (by omega);exact .inr e);by_cases hjx:j<n
   ·exact hs i j hij hjx
   ·have Gg:j=n:=by omega
    subst Gg;by_cases CY:i=j
    ·subst CY;exact Jl _
    ·exact KeyOrd.kle_trans (hs i (j - 1) (by omega) (by omega)) hless
def di{p:Array Nat}{n nrem:Nat}{R:Nat×Array Nat->Prop}(hB:PB N p)(hN:0<N)(h1:1<=n)(hnn:n<=nrem)(hr:nrem<=N)(hs:Qk key p n)
  (h:∀ m p',PB N p'->1<=m->m<=nrem->HR key p' m->R (m,p')):Bq (Aw key) N (kas_tail3 n nrem p) R:=by
 unfold kas_tail3;have hz:n<=p.size:=by rw[hB.size];omega
 refine OA (WQ (hB.rev 0 n) hN _ n h1 (λi j hij hj=>?_) λm m1 m2 ms _=>h m _ (hB.rev 0 n) (by omega) (by omega) ms);rw[WM hz,WM hz,if_pos (by omega),if_pos (by omega)];exact hs _ _ (by omega) (by omega)
theorem Tr{R:Array Nat×Nat×Nat->Prop}(hN:0<N):∀(f:Nat) (p:Array Nat) (n q:Nat),PB N p->1<=n->n + f<=N->Qk key p n->q + 1<=n->(∀ i,n - (q + 1)<=i->i<n->KN key p i=KN key p (n - 1)) ->
  (∀ p' m q',PB N p'->n<=m->m<=n + f->Qk key p' m->q' + 1<=m->(∀ i,m - (q' + 1)<=i->i<m->KN key p' i=KN key p' (m - 1))->R (p',m,q'))->Bq (Aw key) N (kas_desc f p n q) R
 | 0,p,n,q,hB,h1,hz,hs,hq,he,h=>h p n q hB (Yf _) (Yf _) hs hq he
 | f + 1,p,n,q,hB,h1,hz,hs,hq,he,h=>by
  have hsz:n<=p.size:=by rw[hB.size];omega
  refine⟨hB.lt hN _,hB.lt hN _,?_⟩;cases hless:O.blt (key (p.getD n 0)) (key (p.getD (n - 1) 0))with
  | true =>
   show Bq _ _ (if Aw key _ _=true then _ else _) _;rw[show Aw key (p.getD n 0) (p.getD (n - 1) 0)=true from hless,if_pos rfl];have K7:∀ xs:Array Nat,(∀ k,KN key xs k=KN key p k)->Qk key xs (n + 1):=by
    intro xs hk i j hij hj;rw[hk,hk];by_cases hjx:j<n
    ·exact hs i j hij hjx
    ·have Gg:j=n:=by omega
     subst Gg;by_cases CY:i=j
     ·subst CY;exact Jl _
     ·exact KeyOrd.kle_trans (KeyOrd.kle_of_klt hless) (hs i (j - 1) (by omega) (by omega))
   by_cases hneq:q > 0
   ·rw[if_pos hneq];exact Tr hN f _ (n + 1) 0 (hB.rev _ _) (by omega) (by omega) (K7 _ (QQ hsz he)) (by omega) (λi h1 h2=>by congr 1;omega) λp' m q' a1 a2 a3 a4 a5 a6=>h p' m q' a1 (by omega) (by omega) a4 a5 a6
   ·rw[if_neg hneq];exact Tr hN f _ (n + 1) 0 hB (by omega) (by omega) (K7 _ λ_=>rfl) (by omega) (λi h1 h2=>by congr 1;omega) λp' m q' a1 a2 a3 a4 a5 a6=>h p' m q' a1 (by omega) (by omega) a4 a5 a6
  | false =>
   show Bq _ _ (if Aw key _ _=true then _ else _) _;rw[show Aw key (p.getD n 0) (p.getD (n - 1) 0)=false from hless,if_neg (by simp)];refine⟨hB.lt hN _,hB.lt hN _,?_⟩;cases hl:O.blt (key (p.getD (n - 1) 0)) (key (p.getD n 0))with
   | true =>
    show Bq _ _ (if Aw key _ _=true then _ else _) _;rw[show Aw key (p.getD (n - 1) 0) (p.getD n 0)=true from hl,if_pos rfl];exact h p n q hB (Yf _) (by omega) hs hq he
   | false =>
    show Bq _ _ (if Aw key _ _=true then _ else _) _;rw[show Aw key (p.getD (n - 1) 0) (p.getD n 0)=false from hl,if_neg (by simp)];have heqx:KN key p n=KN key p (n - 1):=KeyOrd.kle_antisymm hl hless;refine Tr hN f p (n + 1) (q + 1) hB (by omega) (by omega) (λi j hij hj=>?_) (by omega) (λi h1 h2=>?_) λp' m q' a1 a2 a3 a4 a5 a6=>h p' m q' a1 (by omega) (by omega) a4 a5 a6
    ·by_cases hjx:j<n
     ·exact hs i j hij hjx
     ·have Gg:j=n:=by omega
      subst Gg;by_cases CY:i=j
      ·subst CY;exact Jl _
      ·rw[heqx];exact hs i (j - 1) (by omega) (by omega)
    ·rw[show n + 1 - 1=n by omega];by_cases hix:i=n
     ·subst hix;rfl
     ·rw[heqx];exact he i (by omega) (by omega)
def hO{p:Array Nat}{n nrem:Nat}{R:Nat×Array Nat->Prop}(hB:PB N p)(hN:0<N)(hnn:n + 1<=nrem)(hr:nrem<=N)(hs:Qk key p (n + 1))
  (h:∀ m p',PB N p'->1<=m->m<=nrem->HR key p' m->R (m,p')):Bq (Aw key) N (kas_descPart n nrem p) R:=by
 unfold kas_descPart;refine OA (Tr hN _ p (n + 1) 0 hB (by omega) (by omega) hs (by omega) (λi h1 h2=>by congr 1;omega) λp' m q WB m1 m2 Gf hq he=>?_);have hsz:m<=p'.size:=by rw[WB.size];omega
 show Bq _ _ (if q > 0 then kas_tail3 m nrem (kas_rev p' (m - (q + 1)) m)else kas_tail3 m nrem p') R;by_cases hneq:q > 0
 ·rw[if_pos hneq];refine di (WB.rev _ _) hN (by omega) (by omega) hr (λi j hij hj=>?_) h;rw[QQ hsz he,QQ hsz he];exact Gf i j hij hj
 ·rw[if_neg hneq];exact di WB hN (by omega) (by omega) hr Gf h
def oK{p:Array Nat}{nrem:Nat}{R:Nat×Array Nat->Prop}(hB:PB N p)(hN:0<N)(h1:1<=nrem)(hr:nrem<=N)
  (h:∀ m p',PB N p'->1<=m->m<=nrem->HR key p' m->R (m,p')):Bq (Aw key) N (kas_count nrem p) R:=by
 unfold kas_count;refine OA (WQ hB hN _ 1 (Yf _) (λi j hij hj=>by have:i=j:=(by omega);subst this;exact Jl _) λn n1 n2 hsn hor=>?_);by_cases hnn:n=nrem
 ·rw[if_pos (by simpa using hnn)];exact h n p hB n1 (by omega) hsn
 ·rw[if_neg (by simpa using hnn)];have AW:O.klt (KN key p n) (KN key p (n - 1)):=hor.resolve_left (by omega);have hsz:n<=p.size:=by rw[hB.size];omega
  by_cases hgt:n > 1
  ·rw[if_pos hgt];refine⟨hB.lt hN _,hB.lt hN _,?_⟩;cases hl:O.blt (key (p.getD 0 0)) (key (p.getD (n - 1) 0))with
   | true =>
    show Bq _ _ (if Aw key _ _=true then _ else _) _;rw[show Aw key (p.getD 0 0) (p.getD (n - 1) 0)=true from hl,if_pos rfl];exact h n p hB n1 (by omega) hsn
   | false =>
    show Bq _ _ (if Aw key _ _=true then _ else _) _;rw[show Aw key (p.getD 0 0) (p.getD (n - 1) 0)=false from hl,if_neg (by simp)];have heq:∀ k,k<n->KN key p k=KN key p (n - 1):=λk hk=>KeyOrd.kle_antisymm (hsn k (n - 1) (by omega) (by omega)) (KeyOrd.kle_trans (show O.kle (KN key p (n - 1)) (KN key p 0)from hl) (hsn 0 k (by omega) hk));refine hO (hB.rev 0 n) hN (by omega) hr (λi j hij hj=>?_) h;rw[QQ hsz (λk _ h2=>heq k h2),QQ hsz (λk _ h2=>heq k h2)];by_cases hjn:j<n
    ·rw[heq j hjn,heq i (by omega)];exact Jl _
    ·have:j=n:=by omega
     subst this;by_cases hi:i=j
     ·subst hi;exact Jl _
     ·rw[heq i (by omega)];exact KeyOrd.kle_of_klt AW
  ·rw[if_neg hgt];have e1:n=1:=by omega
   subst e1;refine hO hB hN (by omega) hr (λi j hij hj=>?_) h;by_cases hi:i=j
   ·subst hi;exact Jl _
   ·have e0:i=0:=by omega
    have e2:j=1:=by omega
    subst e0 e2;exact KeyOrd.kle_of_klt AW
theorem W6{p:Array Nat}{k:Nat}{R:Nat->Prop}(hB:PB N p)(hN:0<N)(hs:HR key p k):∀(f l r:Nat),l<=r->r<=k->r - l<=f ->
  (∀ i,i<l->O.kle (KN key p i) (KN key p k))->(∀ i,r<=i->i<k->O.klt (KN key p k) (KN key p i)) ->
  (∀ l,l<=k->(∀ i,i<l->O.kle (KN key p i) (KN key p k))->(∀ i,l<=i->i<k->O.klt (KN key p k) (KN key p i))->R l)->Bq (Aw key) N (kas_place p k f l r) R
 | 0,l,r,hlr,hrk,hm,hlo,hhi,h=>h l (by omega) hlo λi h1 h2=>hhi i (by omega) h2
 | f + 1,l,r,hlr,hrk,hm,hlo,hhi,h=>by
  show Bq _ _ (if l ≥ r then _ else _) _;by_cases hge:l ≥ r
  ·rw[if_pos hge];exact h l (by omega) hlo λi h1 h2=>hhi i (by omega) h2
  ·rw[if_neg hge];refine⟨hB.lt hN _,hB.lt hN _,?_⟩;cases hless:O.blt (key (p.getD k 0)) (key (p.getD ((l + r) / 2) 0))with
   | true =>
    show Bq _ _ (if Aw key _ _=true then _ else _) _;rw[show Aw key (p.getD k 0) (p.getD ((l + r) / 2) 0)=true from hless,if_pos rfl];exact W6 hB hN hs f l ((l + r) / 2) (by omega) (by omega) (by omega) hlo (λi h1 h2=>KeyOrd.klt_of_klt_of_kle hless (hs _ _ h1 h2)) h
   | false =>
    show Bq _ _ (if Aw key _ _=true then _ else _) _;rw[show Aw key (p.getD k 0) (p.getD ((l + r) / 2) 0)=false from hless,if_neg (by simp)];exact W6 hB hN hs f ((l + r) / 2 + 1) r (by omega) (by omega) (by omega) (λi h1=>KeyOrd.kle_trans (hs i ((l + r) / 2) (by omega) (by omega)) (show O.kle (KN key p ((l + r) / 2)) (KN key p k)from hless)) hhi h
theorem ji{R:Array Nat->Prop}(hN:0<N):∀(f:Nat) (p:Array Nat) (k:Nat),PB N p->k + f=N->HR key p k->(∀ p',PB N p'->HR key p' N->R p')->Bq (Aw key) N (kas_bin f p k) R
 | 0, p, k, hB, hk, hs, h => h p hB (by have : k = N := by omega
                                        rw[<- this];exact hs)
 | f + 1,p,k,hB,hk,hs,h=>by
  refine OA (W6 hB hN hs k 0 k (by omega) (by omega) (by omega) (λi hi=>by omega) (λi h1 h2=>by omega) λl hlk hlo hhi=>?_);refine ji hN f _ (k + 1) (hB.bub _ _) (by omega) (λi j hij hj=>?_) h;have hks:k<p.size:=by rw[hB.size];omega
  rw[jZ hks (by omega),jZ hks (by omega),show k - (k - l)=l by omega]
  repeat' split
  all_goals first
   | (refine False.elim ?_;omega)
   | exact Jl _
   | exact hlo _ (by omega)
   | exact KeyOrd.kle_of_klt (hhi _ (by omega) (by omega))
   | exact hs _ _ (by omega) (by omega)
def ba{R:Array Nat->Prop}(hN:0<N)(h:∀ p,PB N p->HR key p N->R p):Bq (Aw key) N (kas_sort N) R:=by
 unfold kas_sort;refine OA (oK (p:=(List.range N).toArray) (Kt _) hN hN (Yf _) λm p' hB m1 m2 hs=>?_);show Bq _ _ (if m<N then kas_bin (N - max m 1) p' (max m 1)else .ret p') R;by_cases AW:m<N
 ·rw[if_pos AW,show max m 1=m by omega];exact ji hN _ p' m hB (by omega) hs h
 ·rw[if_neg AW];have:m=N:=by omega
  exact h p' hB (this ▸ hs)
end
end L2
namespace L2
open PySem PySem.Spec PyProof.Rows
structure Tp(K:Fg)(x:Str)(st:Stmt)(f:ε)(fd:FuncData):Prop where
 a:W.nsIn K mainGlobals x≈(↥(.ref f))
 fn:Bj K x x st f fd
structure Mp(K:Fg)(C:ε)(x q:Str)(st:Stmt)(f:ε)(fd:FuncData):Prop where
 a:W.findIn K (.ref C) x≈(↥(.ref f))
 i:W.isFn K (.ref f)=true
 fn:Bj K x q st f fd
structure Cp(K:Fg)(x:Str)(C:ε):Prop where
 a:W.nsIn K mainGlobals x≈(↥(.ref C))
 pg:W.plainGet K C Str.empty=true
 hd:W.hasDictIn K C=true
 po:W.plainOver K C=true
 sa:W.findIn K (.ref C) "__setattr__"≈(↥(.builtin "object.__setattr__"))
 mx:W.makesIn K C=true
 kc:W.keepIn K (.ref C)=true
section
variable {K:Fg}{x q:Str}{st:Stmt}{f C:ε}{oc:χ}{od an:Option ε}{osl:Array (OU)}{kV doc pm Ao ct:χ}
def tp(a:W.nsIn K mainGlobals x≈(↥(.ref f)))(l:K.lookup f≈⟨oc,od,.func (W.fnOf x x (FR st) (CM st) (AJ st) .none kV doc pm an Ao ct),osl⟩)(c:W.codeIn K Ao x=true)(k:W.keepIn K (.ref f)=true):
  Tp K x st f (W.fnOf x x (FR st) (CM st) (AJ st) .none kV doc pm an Ao ct):=⟨a,jg l c k⟩
def mp(a:W.findIn K (.ref C) x≈(↥(.ref f)))(i:W.isFn K (.ref f)=true)(l:K.lookup f≈⟨oc,od,.func (W.fnOf x q (FR st) (CM st) (AJ st) .none kV doc pm an Ao ct),osl⟩)(c:W.codeIn K Ao q=true)(k:W.keepIn K (.ref f)=true):
  Mp K C x q st f (W.fnOf x q (FR st) (CM st) (AJ st) .none kV doc pm an Ao ct):=⟨a,i,jg l c k⟩
end
section
variable {K:Fg}{mg:Str->OU}{x q:Str}{st:Stmt}{f:ε}{fd:FuncData}{h:Heap}
def aF{us:LU}(h:↑us=1):∃ a,us=[a]:=List.length_eq_one_iff.mp h
def ln2{us:LU}(h:↑us=2):∃ a b,us=[a,b]:=by
 cases us with
 | nil=>cases h
 | cons a r=>obtain⟨_,rfl⟩:=aF (Nat.succ.inj h);exact⟨_,Z⟩
def aE{us:LU}(h:↑us=3):∃ a b c,us=[a,b,c]:=by
 cases us with
 | nil=>cases h
 | cons a r=>obtain⟨_,_,rfl⟩:=ln2 (Nat.succ.inj h);exact⟨Q,Z⟩
def aD{us:LU}(h:↑us=4):∃ a b c d,us=[a,b,c,d]:=by
 cases us with
 | nil=>cases h
 | cons a r=>obtain⟨_,_,_,rfl⟩:=aE (Nat.succ.inj h);exact⟨Q,_,Z⟩
def lg{us:LU}(h:↑us=5):∃ a b c d e,us=[a,b,c,d,e]:=by
 cases us with
 | nil=>cases h
 | cons a r=>obtain⟨_,_,_,_,rfl⟩:=aD (Nat.succ.inj h);exact⟨Q,Q,Z⟩
def ED(a:Str)(F:Bj K x q st f fd)(e:∀(kV doc pm:χ) (an:Option ε) (Ao ct u:χ),bindArgs (W.fnOf x q (FR st) (CM st) (AJ st) .none kV doc pm an Ao ct) ⟨[u],[]⟩=pure ([a].zip [u]):=by intros;rfl):C1 K fd [a] [] :=
 F.binds λ_ _ _ _ _ _ us hl=>by
 obtain⟨_,rfl⟩:=aF hl;exact e ..
def Co(a b:Str)(F:Bj K x q st f fd)(e:∀(kV doc pm:χ) (an:Option ε) (Ao ct u v:χ),bindArgs (W.fnOf x q (FR st) (CM st) (AJ st) .none kV doc pm an Ao ct) ⟨[u,v],[]⟩=pure ([a,b].zip [u,v]):=by intros;rfl):C1 K fd [a,b] [] :=
 F.binds λ_ _ _ _ _ _ us hl=>by
 obtain⟨_,_,rfl⟩:=ln2 hl;exact e ..
def DZ(a b c:Str)(F:Bj K x q st f fd)(e:∀(kV doc pm:χ) (an:Option ε) (Ao ct u v w:χ),bindArgs (W.fnOf x q (FR st) (CM st) (AJ st) .none kV doc pm an Ao ct) ⟨[u,v,w],[]⟩=pure ([a,b,c].zip [u,v,w]):=by intros;rfl):C1 K fd [a,b,c] [] :=
 F.binds λ_ _ _ _ _ _ us hl=>by
 obtain⟨_,_,_,rfl⟩:=aE hl;exact e ..
def Po(a b c d:Str)(F:Bj K x q st f fd)(e:∀(kV doc pm:χ) (an:Option ε) (Ao ct u v w y:χ),bindArgs (W.fnOf x q (FR st) (CM st) (AJ st) .none kV doc pm an Ao ct) ⟨[u,v,w,y],[]⟩=pure ([a,b,c,d].zip [u,v,w,y]):=by intros;rfl):C1 K fd [a,b,c,d] [] :=
 F.binds λ_ _ _ _ _ _ us hl=>by
 obtain⟨_,_,_,_,rfl⟩:=aD hl;exact e ..
def nv(a b c d g:Str)(F:Bj K x q st f fd)(e:∀(kV doc pm:χ) (an:Option ε) (Ao ct u v w y z:χ),bindArgs (W.fnOf x q (FR st) (CM st) (AJ st) .none kV doc pm an Ao ct) ⟨[u,v,w,y,z],[]⟩=pure ([a,b,c,d,g].zip [u,v,w,y,z]):=by intros;rfl):C1 K fd [a,b,c,d,g] [] :=
 F.binds λ_ _ _ _ _ _ us hl=>by
 obtain⟨_,_,_,_,_,rfl⟩:=lg hl;exact e ..
def df{ps:LS}(X:K.In h)(G:h.Ns mainGlobals mg)(T:Tp K x st f fd)(b:C1 K fd ps []):Def K mg x st ps f fd:=⟨T.fn,b,W.mg_of X G T.a⟩
theorem Tp.ex{x q:Str}(F:Bj K x q st f fd):∃(kV doc pm:χ) (an:Option ε) (Ao ct:χ),fd=W.fnOf x q (FR st) (CM st) (AJ st) .none kV doc pm an Ao ct:=by
 obtain⟨oc,od,kV,doc,pm,an,Ao,ct,osl,e,_⟩:=F.ex;exact⟨kV,doc,pm,an,Ao,ct,e⟩
end
abbrev zt:=St->Hp->(Str->Hp->Prop)->Prop
abbrev zr:=St->Hp->Str->(Str->Hp->Prop)->Prop
section
variable {X:Cx}{e:Expr}{es:δ}{te:TE}{t:zt}{u:zr}{pos:Pos}
end
section
variable {X:Cx}
end
section
variable {X:Cx}
end
section
variable {X:Cx}
end
end L2
namespace Md
open PySem L2
end Md
namespace L2
open PySem PySem.Spec PyProof.Rows
structure Qp(K:Fg)(x:Str)(C:ε):Prop where
 a:W.nsIn K mainGlobals x≈(↥(.ref C))
 cl:W.isClsIn K C=true
 ty:W.typeIn K (.ref C)≈(.type "type")
structure zv(K:Fg)(q Q0 Q1 Q2 Q3 Q4 Q5 Q6 Q7 Q8 Q9 RU RT RQ RP RO:ε)(b0 b1 b2 b3 b4 b5 b6 b7 b8 b9 oA n_ n9 n8 n6:Bool):Prop where
 f0:W.subIn K (.ref q) (.ref Q0)≈b0
 f1:W.subIn K (.ref q) (.ref Q1)≈b1
 f2:W.subIn K (.ref q) (.ref Q2)≈b2
 f3:W.subIn K (.ref q) (.ref Q3)≈b3
 f4:W.subIn K (.ref q) (.ref Q4)≈b4
 f5:W.subIn K (.ref q) (.ref Q5)≈b5
 f6:W.subIn K (.ref q) (.ref Q6)≈b6
 f7:W.subIn K (.ref q) (.ref Q7)≈b7
 f8:W.subIn K (.ref q) (.ref Q8)≈b8
 f9:W.subIn K (.ref q) (.ref Q9)≈b9
 bF:W.subIn K (.ref q) (.ref RU)≈oA
 bE:W.subIn K (.ref q) (.ref RT)≈n_
 bC:W.subIn K (.ref q) (.ref RQ)≈n9
 bA:W.subIn K (.ref q) (.ref RP)≈n8
 a_:W.subIn K (.ref q) (.ref RO)≈n6
section
variable {K:Fg}{C D N:ε}{nm q a:Str}{bs sub bm:LU}{hd ab:Bool}{sn:LS}{col:Option Bool}{dd:Option ε}{k0 k1 k2 k3 k5:OU}
def qc(l:K.lookup C≈(excClassObj nm q C N bs bm hd sn sub ab col dd k0 k1 k2 k3 k5 "ValueError.__new__"))(v:W.subIn K (.ref C) (.type "ValueError")≈true)(b:W.subIn K (.ref C) (.type "BaseException")≈true)(t:W.subIn K (.ref C) (.type "AttributeError")≈false)(n:W.subIn K (.ref C) (.type "NameError")≈false)(k:W.keepIn K (.ref C)=true):ExC K C :=
 ⟨⟨Q,Q,Q,Q,Q,Q,Q,Q,l⟩,v,b,t,n,k⟩
def qa(l:K.lookup C≈(excClassObj nm q C N bs bm hd sn sub ab col dd k0 k1 k2 k3 k5 "ValueError.__new__"))(v:W.subIn K (.ref C) (.type "ValueError")≈true)(b:W.subIn K (.ref C) (.type "BaseException")≈true)(t:W.subIn K (.ref C) (.type "AttributeError")≈false)(n:W.subIn K (.ref C) (.type "NameError")≈false)(k:W.keepIn K (.ref C)=true)
  (ga:W.findIn K (.ref C) "__getattribute__"≈(↥(.builtin "BaseException.__getattribute__"))) (gt:W.findIn K (.ref C) "__getattr__"≈none) (ca:W.findIn K (.ref C) "__class__"≈(↥(.builtin "object.__class__"))) (cg:W.specialIn K (.builtin "object.__class__") "__get__"≈(↥(.builtin "getset_descriptor.__get__"))) (ct:W.takesIn K (.builtin "object.__class__")≈true) (ob:W.mroIn K C (.type "object")≈true):K6 K C:=⟨qc l v b t n k,ga,gt,ca,cg,ct,ob⟩
def qi(l:K.lookup C≈(excClassObj nm q C N bs [.ref D,.type "ValueError",.type "Exception",.type "BaseException",.type "object"] true sn sub ab col dd k0 k1 k2 k3 k5 "ValueError.__new__"))(v:W.subIn K (.ref C) (.type "ValueError")≈true)(b:W.subIn K (.ref C) (.type "BaseException")≈true)(t:W.subIn K (.ref C) (.type "AttributeError")≈false)(n:W.subIn K (.ref C) (.type "NameError")≈false)(k:W.keepIn K (.ref C)=true)
  (ga:W.findIn K (.ref C) "__getattribute__"≈(↥(.builtin "BaseException.__getattribute__"))) (gt:W.findIn K (.ref C) "__getattr__"≈none) (ca:W.findIn K (.ref C) "__class__"≈(↥(.builtin "object.__class__"))) (cg:W.specialIn K (.builtin "object.__class__") "__get__"≈(↥(.builtin "getset_descriptor.__get__"))) (ct:W.takesIn K (.builtin "object.__class__")≈true) (ob:W.mroIn K C (.type "object")≈true) (sa:W.findIn K (.ref C) "__setattr__"≈(↥(.builtin "object.__setattr__"))) (na:W.findIn K (.ref C) a≈none):zz K C D a:=⟨qa l v b t n k ga gt ca cg ct ob,⟨Q,Q,Q,Q,Q,Q,Q,l⟩,sa,na⟩
end
section
variable {prog:Γ}{w:World}{A:Around}{E:EV}{s:ω}{x y:Str}{t u:Tok}
end
section
variable {X:Cx}
end
end L2
namespace Md
open PySem L2
end Md
namespace L2
open PySem PySem.Spec PyProof.Rows
section
variable {prog:Γ}{w:World}{A:Around}{E:EV}{s:ω}
end
section
variable {M:Model}{A:Around}{E:EV}{s:ω}{env:Env}
end
section
variable {X:Cx}
end
abbrev HN(o:Obj):HO:=.frz o (.ext λ_=>True)
def WX{P:Γ}{w:World}{H:Hp}{h:Heap}{a:ε}{o:Obj}(e:h.get? a≈o):A7 P w H h a (HN o):=⟨e,trivial,⟨o,e⟩,λ_ _ _ _=>trivial⟩
def Dw(H:Hp)(P:ε)(pos:Pos)(qual:Str):Prop:=H P≈(.tbl #[])\/∃(c:ε) (oc:Obj) (vs:μ) (t:Tok),H P≈(.tbl #[rawInt pos.line,rawInt pos.col,.ref c])/\H c≈(HN oc)/\oc.data=.fields vs/\vs[1]?≈(.str qual t)
structure Lh(mg:Str->OU)(base:Heap)(c P:ε):Prop where
 code:W.CodeHd base c P
 ne:mainGlobals≠P
 blt:base.BuiltinsAt mg P
def Bf(P:ε)(H H':Hp):Prop:=∀ b o,b≠P->H b≈o->H' b≈o
theorem Xb{env:Env}:∀(names:List (Str×NameKind)) (acc:List (Str×ε)),(∀ y∈names,y.2=.free->∃ c,env.cells.lookup y.1≈c)->(∀ x c,acc.lookup x≈c->env.cells.lookup x≈c) ->
  ∃ cl:List (Str×ε),(forIn names acc λx (cs:List (Str×ε))=>(do
   if x.2 == NameKind.free then let c <- cellOf env x.1;pure (ForInStep.yield ((x.1,c):: cs))else pure (ForInStep.yield cs):Sem _))=pure cl/\(∀ x c,cl.lookup x≈c->env.cells.lookup x≈c) /\
   (∀ y∈names,y.2=.free->∃ c,cl.lookup y.1≈c)/\∀ x c,acc.lookup x≈c->∃ c',cl.lookup x≈c'
 | [],acc,_,ha=>⟨acc,Y,ha,(λ_ h=>nomatch h),λx c h=>⟨c,h⟩⟩
 | (n,k):: r,acc,h,ha=>by
  by_cases hk:k=NameKind.free
  ·obtain⟨c,hc⟩:=h (n,k) (.head _) hk;obtain⟨cl,e,h1,h2,h3⟩:=Xb r ((n,c):: acc) (λy hy=>h y (.tail _ hy)) (λx d hx=>by
    rw[Dj]at hx;cases hb:x == n with
    | true=>rw[hb]at hx;cases hx;rw[eq_of_beq hb];exact hc
    | false=>rw[hb]at hx;exact ha x d hx)
   refine⟨cl,?_,h1,λy hy hf=>?_,λx d hx=>?_⟩
   ·rw[MQ];have e1:(k == NameKind.free)=true:=by rw[hk];rfl
    have e2:cellOf env n=pure c:=by unfold cellOf;rw[hc]
    simp only[e1,e2,if_true,pure_bind];exact e
   ·rcases Yl.mp hy with rfl | hy
    ·exact h3 n c (by rw[Dj];simp)
    ·exact h2 y hy hf
   ·by_cases hb:(x == n)=true
    ·exact h3 x c (by rw[Dj,hb])
    ·exact h3 x d (by rw[Dj];simp only[Bool.not_eq_true]at hb;rw[hb];exact hx)
  ·obtain⟨cl,e,h1,h2,h3⟩:=Xb r acc (λy hy=>h y (.tail _ hy)) ha;refine⟨cl,?_,h1,λy hy hf=>?_,h3⟩
   ·rw[MQ];have e1:(k == NameKind.free)=false:=by cases k <;> first | rfl | exact absurd rfl hk
    simp only[e1,Jq,if_false,pure_bind];exact e
   ·rcases Yl.mp hy with rfl | hy
    ·exact absurd hf hk
    ·exact h2 y hy hf
def rg{scope:Scope}{env:Env}(h:∀ y∈scope.names,y.2=.free->∃ c,env.cells.lookup y.1≈c):
  ∃ cl:List (Str×ε),closureFor scope env=pure cl/\(∀ x c,cl.lookup x≈c->env.cells.lookup x≈c)/\∀ y∈scope.names,y.2=.free->∃ c,cl.lookup y.1≈c:=by
 obtain⟨cl,e,h1,h2,_⟩:=Xb scope.names [] h (λ_ _ h=>by cases h);refine⟨cl,?_,h1,h2⟩;unfold closureFor;exact(congrArg (λm:Sem _=>m>>=λr=>pure r) e).trans (pure_bind _ _)
section
variable {X:Cx}{π:PL}{σ:St}{H:Hp}{s:ω}
def dC{params:Arguments}{body:Expr}{scope:Scope}{pos:Pos}{c P:ε}{E:EV}{Q:EV}{qual:Str}(I:Inv X π σ H s)(L:Lh X.mg X.base c P)(hcode:X.env.code=.ref c)(hq:X.env.qual++"<lambda>"=qual)
  (hT:Dw H P pos qual) (hdef:defaultsOf params X.env=([],[])) (Aq:∀ y∈scope.names,y.2=.free->∃ c,X.env.cells.lookup y.1≈c)
  (h:∀(f c':ε) (oc:Obj) (vs:μ) (t:Tok) (ctv:χ) (cl:List (Str×ε)) (H':Hp) (s':ω),(∀ x c,cl.lookup x≈c->X.env.cells.lookup x≈c)->(∀ y∈scope.names,y.2=.free->∃ c,cl.lookup y.1≈c) ->
   Inv X π σ H' s'->Bf P H H'->Dw H' P pos qual->H f=none->H' f≈(HN (W.kla_obj "<lambda>" qual params body scope cl ((X.mg "__name__").getD .none) c' ctv))->H' c'≈(HN oc)->oc.data=.fields vs->vs[1]?≈(.str qual t)->Q (.ref f) s'):
  wpAny (model X.prog X.w) X.A (eval (.Lambda params body scope pos) X.env) Q E s:=by
 refine W.kla_eval hdef ?_;obtain⟨cl,ecl,FH,Cm⟩:=rg Aq;have hg:s.heap.Ns mainGlobals X.mg:=I.mod.glob.keeps I.bk;have C:W.CodeHd s.heap c P:=L.code.keeps I.bk;have hb:s.heap.BuiltinsAt X.mg P:=L.blt.keeps I.bk;rw[hq]
 rcases hT with hT | ⟨c',oc,vs,t,hT,hc,hd,hv⟩
 ·have hP:s.heap.get? P≈(W.tabObj #[]):=I.hok P _ hT;have hPl:P<⇑s:=Yj hP;refine W.kla_makeFunction ecl I.ok.glob hg hcode C hP trivial rfl L.ne hb λc' ctv h' tk hx hge AW hrec htb=>?_;obtain⟨c₂,oc,vs,t,e2,hoc,hd,hv⟩:=hrec;cases e2;have hcP:c'≠P:=DG (Yo hPl hge);have hfc:h'.objs.size≠c':=DG AW;have hfP:h'.objs.size≠P:=DG (Nat.lt_trans (Yo hPl hge) AW);have hfs:⇑s<=h'.objs.size:=A8 hge (MT AW);have Ri:h'.get? P≈(W.tabObj #[rawInt pos.line,rawInt pos.col,.ref c']):=by simpa using htb
  obtain⟨fo,efo⟩:∃ fo,fo=W.kla_obj "<lambda>" qual params body scope cl ((X.mg "__name__").getD .none) c' ctv:=⟨Z⟩;obtain⟨H',eH⟩:∃ H':Hp,H'=upd (upd (upd H P (.tbl #[rawInt pos.line,rawInt pos.col,.ref c'])) c' (HN oc)) h'.objs.size (HN fo):=⟨Z⟩;have aT:H' h'.objs.size≈(HN fo):=by rw[eH];exact uS
  have BM:H' c'≈(HN oc):=by rw[eH,AD (Yx hfc)];exact uS
  have V9:H' P≈(.tbl #[rawInt pos.line,rawInt pos.col,.ref c']):=by rw[eH,AD (Yx hfP),AD (Yx hcP)];exact uS
  have low:∀ b,b<⇑s->b≠P->H' b=H b:=λb hb hbP=>by
   rw[eH,AD (Yv (Yo hb hfs)),AD (Yv (Yo hb hge)),AD hbP]
  have lowS:∀ b u,b≠P->H b≈u->H' b≈u:=λb u hbP e=>by rw[low b (I.hok.lt e) hbP];exact e
  have nP:∀ b,H b=none->b≠P:=λb n z=>by rw[z,hT]at n;cases n
  have kp:∀ b o,b≠P->s.heap.get? b≈o->(h'.push fo).get? b≈o:=λb o hbP e=>Yc _ (hx b o hbP e);have I':Inv X π σ H' {s with heap:=h'.push fo,toks:=tk}:=by
   refine I.un ⟨λb o e n _ _=>kp b o (nP b n) e,λb o e n _ _=>⟨o.slots,kp b o (nP b n) e⟩,λb o e n _=>by rw[low b (Yj e) (nP b n)];exact n,λb o e _=>?_,λb xs e=>lowS b _ (λz=>by rw[z,hT]at e;cases e) e,λb o u e=>lowS b _ (λz=>by rw[z,hT]at e;cases e) e,λb ps e=>?_⟩ λb u e=>?_
   ·by_cases hbP:b=P
    ·exact⟨_,by rw[hbP];exact Yc _ Ri⟩
    ·exact⟨o,kp b o hbP e⟩
   ·by_cases hbP:b=P
    ·rw[hbP,hT]at e;cases e;exact⟨#[rawInt pos.line,rawInt pos.col,.ref c'],by rw[hbP,V9];simp⟩
    ·exact⟨#[],by rw[lowS b _ hbP e];simp⟩
   ·by_cases h1:b=h'.objs.size
    ·rw[h1,aT]at e;cases e;rw[h1];exact WX (by rw[efo];exact Ym _ rfl)
    by_cases h2:b=c'
    ·rw[h2,BM]at e;cases e;rw[h2];exact WX (Yc _ hoc)
    by_cases h3:b=P
    ·rw[h3,V9]at e;cases e;rw[h3];exact Yc _ Ri
    have e':H b≈u:=by rw[eH,AD h1,AD h2,AD h3]at e;exact e
    refine(I.hok b u e').stay (λd v hd q=>kp d v (λz=>?_) q) (λd q=>lowS d _ (λz=>by rw[z,hT]at q;cases q) q) λd xs q=>lowS d _ (λz=>by rw[z,hT]at q;cases q) q
    rcases hd with z' | z'
    ·exact h3 (z'.symm.trans z)
    ·rw[z,hT]at z';cases z'
  have:=h h'.objs.size c' oc vs t ctv cl H' _ FH Cm I' (λb o hb e=>lowS b o hb e) (.inr ⟨c',oc,vs,t,V9,BM,hd,hv⟩) (I.hok.fresh hfs) (by rw[aT,efo]) BM hd hv;rw[efo]at this;exact this
 ·have hP:s.heap.get? P≈(W.tabObj #[rawInt pos.line,rawInt pos.col,.ref c']):=I.hok P _ hT;have hPl:P<⇑s:=Yj hP;refine W.kla_makeFunctionHit (cv:=.ref c') ecl I.ok.glob hg hcode C hP trivial (by simp[codeAmong,rawInt]) hb λctv h' tk hk hsz=>?_;have hfr:H h'.objs.size=none:=I.hok.fresh hsz;have lowS:∀ b u,H b≈u->(upd H h'.objs.size (HN (W.kla_obj "<lambda>" qual params body scope cl ((X.mg "__name__").getD .none) c' ctv))) b≈u:=λb u e=>by rw[AD (AK e hfr)];exact e
  exact h h'.objs.size c' oc vs t ctv cl _ _ FH Cm (I.laid (t':=tk) (λb u e=>Yc _ (hk b u e)) hsz (WX (Ym _ rfl))) (λb o _ e=>lowS b o e) (.inr ⟨c',oc,vs,t,lowS _ _ hT,lowS _ _ hc,hd,hv⟩) hfr uS (lowS _ _ hc) hd hv
end
def Pt(X:Cx)(A:Around)(N:LS)(qual:Str)(scope:Scope)(f:ε)(cd:χ)(cl:List (Str×ε))(s:ω)(H:Hp):Cx where
 prog:=X.prog
 w:=X.w
 K:=X.K
 mg:=X.mg
 base:=X.base
 A:=A.deeper (W.envX qual scope ⇑s f cd cl)
 N:=N
 s₀:=s
 H₀:=H
 env:=W.envX qual scope ⇑s f cd cl
 outer:=X.stack
 stack:=W.envX qual scope ⇑s f cd cl :: X.stack
 ex:=[]
 calm:=true
 fn:=λ_=>false
 pn:=[]
 xe:=λ_ _=>False
structure U4(osc:Scope)(on:LS)(scope:Scope)(x:Str)(η:LS)(js:LN):Prop where
 kind:scope.kind=.function
 co:scope.isCoroutine=false
 gen:scope.isGenerator=false
 nocell:∀ y∈scope.names,y.2≠.cell
 par:scope.names.lookup x≈.local
 fre:∀ y∈η,scope.names.lookup y≈.free
 pl:js.map (λj=>on[j]?)=η.map some
 fr:∀ y∈scope.names,y.2=.free->osc.names.lookup y.1≈.cell\/osc.names.lookup y.1≈.free
def dq{osc:Scope}{on:LS}{scope:Scope}{x:Str}{η:LS}{js:LN}
  (h:((scope.kind == .function)&&!scope.isCoroutine&&!scope.isGenerator&&scope.names.all (λy=>y.2 != .cell)&&(scope.names.lookup x == ↥.local)&&η.all (λy=>scope.names.lookup y == ↥.free)&&decide (js.map (λj=>on[j]?)=η.map some) &&
   scope.names.all (λy=>y.2 != .free || (osc.names.lookup y.1 == ↥.cell || osc.names.lookup y.1 == ↥.free)))=true):U4 osc on scope x η js:=by
 simp only[EI,Bv,decide_eq_true_eq,Bool.or_eq_true,bne_iff_ne,beq_iff_eq,ne_eq,Bool.not_eq_true']at h;obtain⟨⟨⟨⟨⟨⟨⟨a,b⟩,c⟩,d⟩,e⟩,f⟩,g⟩,i⟩:=h;exact⟨a,b,c,d,e,f,g,λy hy z=>(i y hy).resolve_left (λq=>q z)⟩
section
variable {X:Cx}{π:PL}{σ:St}{H:Hp}{s:ω}
def bb{A:Around}{params:Arguments}{body:Expr}{scope:Scope}{qual x:Str}{η:LS}{js:LN}{f c':ε}{oc:Obj}{vs:μ}{t:Tok}{ctv pm:χ}{cl:List (Str×ε)}{v:V}{u:χ}{tb:TE}{Q:VK}
  (I:Inv X π σ H s) (hA:A.frames≈X.stack) (hh:A.handled=none) (hdp:A.depth<recursionLimit) (Lm:U4 X.env.scope X.N scope x η js) (hf:H f≈(HN (W.kla_obj "<lambda>" qual params body scope cl pm c' ctv)))
  (hc:H c'≈(HN oc)) (hd:oc.data=.fields vs) (hv:vs[1]?≈(.str qual t)) (FH:∀ x c,cl.lookup x≈c->X.env.cells.lookup x≈c) (Cm:∀ y∈scope.names,y.2=.free->∃ c,cl.lookup y.1≈c)
  (hbind:bindArgs (W.kla_fn "<lambda>" qual params body scope cl pm (.ref c') ctv) ⟨[u],[]⟩=pure [(x,u)]) (ru:AZ v u)
  (hb:PE (Pt X A (x :: η) qual scope f (.ref c') cl s H) body tb) (h:tb (↥v :: js.map λj=>(σ[j]?).join) H Q):
  wpAny (model X.prog X.w) A (call (.ref f) [u]) (EP X π σ Q) (λ_ _=>False) s:=by
 have ho:s.heap.get? f≈(W.kla_obj "<lambda>" qual params body scope cl pm c' ctv):=(I.hok f _ hf).1;have hco:s.heap.get? c'≈oc:=(I.hok c' _ hc).1;have run:codeAny (model X.prog X.w) A (.call (.ref f) ⟨[u],[]⟩) (λr s'=>match r with | .ok (.ret u)=>EP X π σ Q u s' | _=>False) s:=by
  refine W.kla_callFunE hdp ho rfl Lm.co Lm.gen rfl ⟨c',oc,vs,t,Y,hco,hd,hv⟩ ?_;rw[hbind];refine Jd (wpAny_newFunctionEnv Lm.nocell (λy hy=>by rw[Yi.mp hy];exact Lm.par) (λh' hns hsb=>?_) Lm.kind);have keep:∀ b o,s.heap.get? b≈o->h'.get? b≈o:=λb o e=>hsb.extBut b o (Yv (Yj e)) (Yc _ e);refine⟨I.nolimit.keeps keep,W.kla_codeExpr ?_⟩;have ZP:(Pt X A (x :: η) qual scope f (.ref c') cl s H).Ok:=by
   refine⟨I.ok.mod,Lm.kind,Y,Y,Yf _,λy z c a b=>I.ok.inj y z c (FH y c a) (FH z c b),λy hy=>?_,(λy c z _=>by cases z),λ_=>hh,Around.frames_deeper hA,.inr ⟨Y,Y⟩,(λb z=>nomatch (show b∈([]:τ)from z)),I.bs,A8 I.ok.bsz I.sz,
    (λb _ _ z=>nomatch (show b∈([]:τ)from z)),(λb z=>nomatch (show b∈([]:τ)from z)),I.stack,I.stkFree⟩
   have hy:scope.names.lookup y≈.cell\/scope.names.lookup y≈.free:=hy
   rcases hy with hy | hy
   ·exact absurd rfl (Lm.nocell _ (Dz hy))
   ·exact Cm _ (Dz hy) rfl
  have I1:Inv (Pt X A (x :: η) qual scope f (.ref c') cl s H) [] (↥v :: js.map λj=>(σ[j]?).join) H {s with heap:=h',toks:=s.toks + 1}:=by
   refine⟨ZP,Y,I.bare,Un.kept keep,⟨_,hns,λi y v' h1 h2 h3=>?_⟩,λy c e=>?_,I.hok.fresh (Yf _),λy c e=>I.freeC y c (FH y c e),(λp hp=>nomatch (show p∈([]:PL)from hp)),I.hok.kept keep,?_⟩
   ·cases i with
    | zero =>
     have h1:some x≈y:=h1;have h2:some (↥v)≈(↥v'):=h2;cases h1;cases h2;exact⟨u,ru,.inl ⟨Lm.par,by show List.lookup x [(x,u)]≈u;simp⟩⟩
    | succ i =>
     have h1:η[i]?≈y:=h1;have h2:(js.map λj=>(σ[j]?).join)[i]?≈(↥v'):=h2;rw[Yh]at h2;obtain⟨j,hj,ej⟩:=Ip.mp h2;have e3:X.N[j]?≈y:=by
      have e4:=congrArg (·[i]?) Lm.pl;simp only[Yh,hj,h1,Option.map_some]at e4;exact BQ e4
     have e5:σ[j]?≈(↥v'):=by
      cases q:σ[j]? with
      | none=>rw[q]at ej;cases ej
      | some z=>rw[q]at ej;rw[show z≈v' from ej]
     have fy:=Lm.fre y (Yd h1);have ky:=Lm.fr _ (Dz fy) rfl;obtain⟨m,_,lk⟩:=I.loc;obtain⟨u',lC,L'⟩:=lk j y v' e3 e5 (.inr ky);obtain⟨c2,Rw⟩:=Cm _ (Dz fy) rfl;refine⟨u',lC,.inr ⟨.inr fy,c2,Rw,?_⟩⟩
     rcases L' with⟨kl,_⟩ | ⟨_,c3,Sv,cell⟩
     ·have kl:X.env.scope.names.lookup y≈.local:=kl
      rcases ky with ky | ky
      ·have ky:X.env.scope.names.lookup y≈.cell:=ky;rw[kl]at ky;cases ky
      ·have ky:X.env.scope.names.lookup y≈.free:=ky;rw[kl]at ky;cases ky
     ·rw[FH _ _ Rw]at Sv;cases Sv;obtain⟨o,e,r⟩:=cell;exact⟨o,keep _ _ e,r⟩
   ·obtain⟨w',o,e',r⟩:=I.cell y c (FH y c e);exact⟨w',o,keep _ _ e',r⟩
   ·show↑(↥v :: js.map λj=>(σ[j]?).join)=↑(x :: η);have:=congrArg List.length Lm.pl;rw[Ya,Ya]at this;rw[Cd,Cd,Ya,this]
  refine Jf (hb [] _ _ H Q I1 h) (λw' s' hq=>?_) λe s' z=>False.elim z;obtain⟨v',H',J,rv,q⟩:=hq;exact I.after ⟨v',H',J.os,J.bare,J.base,J.hok,rv,q⟩
 refine wpAny_call (codeAny_mono run λr s' hq=>?_);cases r with
 | error e=>exact hq
 | ok fl =>
  cases fl with
  | ret w'=>exact hq
  | next=>exact False.elim hq
  | brk=>exact False.elim hq
  | cont=>exact False.elim hq
end
end L2
namespace L2
open PySem PySem.Spec PyProof.Rows
open PySem.W (KasT kas_sort kas_cmp kas_item kas_st kas_runs kas_range)
def OW{α:Type}(lt:Nat->Nat->Bool):KasT α->α
 | .ret a=>a
 | .ask i j k=>OW lt (k (lt i j))
theorem fh{α:Type}{lt:Nat->Nat->Bool}{N:Nat}{R:α->Prop}:∀ {t:KasT α},Bq lt N t R->Bq lt N t (λa=>R a/\a=OW lt t)
 | .ret _,h=>⟨h,Y⟩
 | .ask _ _ k,⟨h1,h2,h⟩=>⟨h1,h2,fh (t:=k _) h⟩
theorem fg{α:Type}{lt:Nat->Nat->Bool}{N:Nat}{R:α->Prop}:∀ {t:KasT α},Bq lt N t R->R (OW lt t)
 | .ret _,h=>h
 | .ask _ _ k,⟨_,_,h⟩=>fg (t:=k _) h
def sIx(n:Nat)(lt:Nat->Nat->Bool):Array Nat:=if n<2 then(List.range n).toArray else OW lt (kas_sort n)
def Tf{O:KeyOrd}(key:Nat->O.α)(n:Nat):PB n (sIx n (Aw key))/\HR key (sIx n (Aw key)) n:=by
 unfold sIx;by_cases h:n<2
 ·rw[if_pos h];refine⟨Kt _,λi j hij hj=>?_⟩;have:i=j:=by omega
  subst this;exact Jl _
 ·rw[if_neg h];exact fg (ba (key:=key) (N:=n) (R:=λp=>PB n p/\HR key p n) (by omega) λp a b=>⟨a,b⟩)
def ri(b:Bool)(n i:Nat):Nat:=if b then n - 1 - i else i
def Zx{α:Type}(b:Bool)(l:List α):List α:=if b then l.reverse else l
def IP{O:KeyOrd}(b:Bool)(kf:Nat->O.α)(n:Nat):LN:=Zx b ((sIx n (Aw λi=>kf (ri b n i))).toList.map (ri b n))
def Fz{O:KeyOrd}(b:Bool)(kf:Nat->O.α)(xs:LV):LV:=(IP b kf ↑xs).map λi=>xs.getD i .non
def yg(b:Bool)(n:Nat){l:LN}(h:l.Perm (List.range n)):(Zx b (l.map (ri b n))).Perm (List.range n):=by
 cases b with
 | false =>
  show(l.map λi=>i).Perm _;rw[Hh];exact h
 | true =>
  show((l.map λi=>n - 1 - i).reverse).Perm _;refine(List.reverse_perm _).trans ((h.map _).trans ?_);have e:(List.range n).map (λi=>n - 1 - i)=(List.range n).reverse:=by
   apply OZ;intro i;by_cases hi:i<n
   ·rw[Yh,JZ hi,List.getElem?_reverse (by rw[Ec];exact hi),Ec,JZ (by omega)];rfl
   ·rw[E2 (by rw[Ya,Ec];omega),E2 (by rw[Oh,Ec];omega)]
  rw[e];exact List.reverse_perm _
def L4{O:KeyOrd}(b:Bool)(kf:Nat->O.α)(n:Nat):(IP b kf n).Perm (List.range n):=yg b n (Tf _ n).1
def h_{O:KeyOrd}(b:Bool)(kf:Nat->O.α)(n:Nat):(IP b kf n).Pairwise λi j=>if b then O.kle (kf j) (kf i)else O.kle (kf i) (kf j):=by
 obtain⟨pb,so⟩:=Tf (λi=>kf (ri b n i)) n;have pw:((sIx n (Aw λi=>kf (ri b n i))).toList.map (ri b n)).Pairwise λi j=>O.kle (kf i) (kf j):=by
  rw[Ko,Jp];intro i j hi hj hij;rw[Il]at hi hj;have hs:=pb.size;have:=so i j (MT hij) (by omega);unfold KN at this;simp only[Array.getD,hi,hj,dite_true]at this;simpa using this
 unfold IP;cases b with
 | false=>exact pw
 | true=>exact List.pairwise_reverse.mpr pw
def sW{O:KeyOrd}(b:Bool)(kf:Nat->O.α)(xs:LV):(Fz b kf xs).Perm xs:=by
 refine((L4 b kf ↑xs).map _).trans ?_;have e:(List.range ↑xs).map (λi=>xs.getD i V.non)=xs:=by
  apply OZ;intro i;by_cases hi:i<↑xs
  ·rw[Yh,JZ hi,Yb hi];show some (xs.getD i V.non)=_;rw[Yg,Yb hi];rfl
  ·rw[E2 (by rw[Ya,Ec];omega),E2 (by omega)]
 rw[e]
def IS:KeyOrd where
 α:=Int
 blt:=λa b=>decide (a<b)
 irrefl:=λa=>Jc (by omega)
 trans:=λa b c h1 h2=>Jb (by have:=Je h1;have:=Je h2;omega)
 negTrans:=λa b c h=>by
  have h:=Je h;by_cases hb:a<b
  ·exact .inl (Jb hb)
  ·exact .inr (Jb (by omega))
 total:=λa b h1 h2=>by
  have h1:=of_decide_eq_false h1;have h2:=of_decide_eq_false h2;omega
section
variable {prog:Γ}{w:World}{A:Around}{E:EV}{s:ω}{a kS:ε}{b:Bool}{vs:LU}{keys:μ}{e e1:Nat}{P:PySem.Fin->ω->Prop}
def cu{st:SortSt}{res:Array Keyed}(nk:s.heap.get? kS≈(seqObj "list" keys e))(na:s.heap.get? a≈(seqObj "list" #[] e1))(hka:kS≠a)
  (Dq:keys.size<64) (hr:arrOf st=res) (hz:res.size<64) (hfl:failedOf st=none)
  (h:∀ h' tk c,(∀ x o,x≠kS->x≠a->s.heap.get? x≈o->h'.get? x≈o)->(∃ o,h'.get? kS≈o)->h'.get? a≈(seqObj "list" (if b then(res.map (·.2)).reverse else res.map (·.2)) c)->P (.done (.ret .none)) {s with heap:=h',toks:=tk}):
  wpAny (model prog w) A (ksk_tail a b e1 (.ref kS) st) P E s:=by
 have hout:(if b then(res.map (·.2)).reverse else res.map (·.2)).size<64:=by
  cases b with
  | false=>simp only[Jq,if_false,Array.size_map];exact hz
  | true=>simp only[if_true,Array.size_reverse,Array.size_map];exact hz
 have s1:=Oi s.heap kS (Obj.mapSeq λ_=>(#[]:μ));have Vj:(s.heap.update kS (Obj.mapSeq λ_=>(#[]:μ))).get? a≈(seqObj "list" #[] e1):=(s1.2 a hka.symm).trans na;have lH:∃ o,(s.heap.update kS (Obj.mapSeq λ_=>(#[]:μ))).get? kS≈o:=⟨_,get?_update_seq nk λ_=>#[]⟩;have s2:=Oi (s.heap.update kS (Obj.mapSeq λ_=>(#[]:μ))) a (Obj.mapSeq λ_=>if b then(res.map (·.2)).reverse else res.map (·.2));have Cm:=get?_update_seq Vj λ_=>if b then(res.map (·.2)).reverse else res.map (·.2)
 unfold ksk_tail;rw[hr,hfl]
 try dsimp only
 refine Ja (listUpdate_at nk rfl ?_ (by rw[sizeLine_eq];omega) (BE _));refine Ja (wpAny_letGo ?_);refine Ja (seqEpoch_at Vj rfl ?_);refine Ja (listUpdate_at Vj rfl ?_ (BE _) (A8 (MT hout) (by rw[sizeLine_eq];omega)));simp only[bne_self_eq_false,Jq,if_false];exact Jd (h _ _ _ (λx o x1 x2 q=>(s2.2 x x2).trans ((s1.2 x x1).trans q)) (let⟨o,q⟩:=lH;⟨o,(s2.2 kS hka).trans q⟩) Cm)
def wu{κ:SortKind}{it:Array Keyed}{O:KeyOrd}(key:Nat->O.α){Q:Unit×SortSt->ω->Prop}(h2:2<=it.size)(Dq:it.size<64)
  (cmp:∀ i j C,i<it.size->j<it.size->C (O.blt (key i) (key j)) s->wpAny (model prog w) A (keyLt' κ (kas_item it i).1 (kas_item it j).1) C (λ_ _=>False) s)
  (h:∀ st,arrOf st=(sIx it.size (Aw key)).map (kas_item it)->failedOf st=none->Q ((),st) s):wpAny (model prog w) A (sortRuns'.run (SortSt.mk' κ it #[] 7 none)) Q E s:=by
 have kp:=fh (ba (key:=key) (N:=it.size) (R:=λ_=>True) (by omega) λ_ _ _=>trivial);have ask:(kas_sort it.size).kasWp (kas_cmp prog w A κ it) (λp s'=>s'=s/\p=OW (Aw key) (kas_sort it.size)) s :=
  dk (I:=λs'=>s'=s) (λi j C s' hi hj hI hC=>by subst hI;exact cmp i j C hi hj (hC _ rfl)) (λa s' hR hI=>⟨hI,hR.2⟩) _ _ kp rfl
 have run:=kas_runs (E:=E) (Q:=λ_ A1 s'=>s'=s/\arrOf A1=(OW (Aw key) (kas_sort it.size)).map (kas_item it)/\failedOf A1=none) h2 Dq (λp' A1 s' a1 a2 a3 a4=>⟨a4.1,by rw[a2,a4.2],a3⟩) ask;have est:kas_st κ it (List.toArray (List.range it.size))=SortSt.mk' κ it #[] 7 none:=by
  show SortSt.mk' κ ((List.toArray (List.range it.size)).map (kas_item it)) #[] 7 none=_;rw[kas_range]
 rw[est]at run;refine Jf run (λr s' hq=>?_) λ_ _ z=>z;obtain⟨⟨⟩,st⟩:=r;obtain⟨e1,e2,e3⟩:=hq;subst e1;refine h st ?_ e3;unfold sIx;rw[if_neg (by omega)];exact e2
abbrev Dv(b:Bool)(keys:μ)(vs:LU):Array Keyed:=if b then(keys.zip vs.toArray).reverse else keys.zip vs.toArray
def xK{O:KeyOrd}(key:Nat->O.α){κ:SortKind}(nk:s.heap.get? kS≈(seqObj "list" keys e))(na:s.heap.get? a≈(seqObj "list" #[] e1))(hka:kS≠a)(hkl:keys.size=↑vs)(Dq:↑vs<64)
  (hkind:2<=keys.size->∀ Q:SortKind->ω->Prop,Q κ s->wpAny (model prog w) A (keyKind' keys) Q E s)
  (cmp:∀ i j C,i<↑vs->j<↑vs->C (O.blt (key i) (key j)) s->wpAny (model prog w) A (keyLt' κ (kas_item (Dv b keys vs) i).1 (kas_item (Dv b keys vs) j).1) C (λ_ _=>False) s)
  (h:∀ h' tk c,(∀ x o,x≠kS->x≠a->s.heap.get? x≈o->h'.get? x≈o)->(∃ o,h'.get? kS≈o) ->
   h'.get? a≈(seqObj "list" (if b then(((sIx ↑vs (Aw key)).map (kas_item (Dv b keys vs))).map (·.2)).reverse else((sIx ↑vs (Aw key)).map (kas_item (Dv b keys vs))).map (·.2)) c)->P (.done (.ret .none)) {s with heap:=h',toks:=tk}):
  wpAny (model prog w) A (ksk_end a b vs.toArray e1 (.ref kS) keys) P E s:=by
 have hzs:(Dv b keys vs).size=↑vs:=by
  unfold Dv;cases b with
  | false=>simp only[Jq,if_false];rw[Array.size_zip,hkl,Yn,Nat.min_self]
  | true=>simp only[if_true,Array.size_reverse];rw[Array.size_zip,hkl,Yn,Nat.min_self]
 have hps:=(Tf key ↑vs).1.size;have step:∀ t:Sem PySem.Fin,wpAny (model prog w) A t P E s->wpAny (model prog w) A (if b=true then(do let _ <- rule "list.sort.reverse";t)else t) P E s:=by
  intro t ht;split
  ·exact Ja (wpAny_rule ht)
  ·exact ht
 unfold ksk_end
 try dsimp only
 refine step _ ?_;by_cases h2:vs.toArray.size<2
 ·rw[if_pos h2,if_pos h2];refine Ja (Jd ?_);rw[StateT.run_pure];refine Ja (Jd ?_)
  try dsimp only
  rw[Yn]at h2;refine cu (res:=(sIx ↑vs (Aw key)).map (kas_item (Dv b keys vs))) nk na hka (by omega) ?_ (by rw[Array.size_map,hps];omega) rfl h;show Dv b keys vs=_;unfold sIx;rw[if_pos h2,<- hzs];exact(kas_range _).symm
 ·rw[if_neg h2,if_neg h2];rw[Yn]at h2;refine Ja (hkind (by omega) _ ?_);refine Ja (wu (it:=Dv b keys vs) key (by omega) (by omega) (λi j C hi hj hC=>cmp i j C (by omega) (by omega) hC) λst hst hf=>?_)
  try dsimp only
  refine cu (res:=(sIx ↑vs (Aw key)).map (kas_item (Dv b keys vs))) nk na hka (by omega) (by rw[hst,hzs]) (by rw[Array.size_map,hps];omega) hf h
end
end L2
namespace L2
open PySem PySem.Spec PyProof.Rows
section
variable {X:Cx}{π:PL}{σ:St}{H:Hp}{s:ω}
def BH.same{b:ε}{H':Hp}(f:BH X π H b)(n:H' b=none):BH X π H' b:=⟨n,f.2⟩
def yo{A:Around}{f:χ}{a kS:ε}{b:Bool}{xs:LV}{vs:LU}{e1:Nat}{P:PySem.Fin->ω->Prop}{E:EV}(F:Nat->V->Hp->Prop)(hF:∀ i v H1 H2,AA H1 H2->F i v H1->F i v H2)
  (I:Inv X π σ H s) (nk:s.heap.get? kS≈(seqObj "list" #[] 0)) (na:s.heap.get? a≈(seqObj "list" #[] e1)) (hka:kS≠a) (fk:BH X π H kS) (fa:BH X π H a) (rv:AQ xs vs) (Dq:↑vs<64)
  (turn:∀ i x u H' s' Bc,xs[i]?≈x->AZ x u->AA H H'->Inv X Bc σ H' s'->wpAny (model X.prog X.w) A (call f [u]) (EP X Bc σ λv BL=>AA H' BL/\F i v BL) (λ_ _=>False) s')
  (h:∀ H' s' kA e ks,Inv X π σ H' s'->AA H H'->s'.heap.get? kS≈(seqObj "list" kA e)->s'.heap.get? a≈(seqObj "list" #[] e1)->BH X π H' kS->BH X π H' a->AQ ks kA.toList->↑ks=↑xs->(∀ i k,ks[i]?≈k->F i k H') ->
   wpAny (model X.prog X.w) A (ksk_end a b vs.toArray e1 (.ref kS) kA) P E s'):
  wpAny (model X.prog X.w) A (ksk_rest a f b vs.toArray e1 (.ref kS)) P E s:=by
 have hxl:↑xs=↑vs:=↑rv;unfold ksk_rest;refine Ja (wpAny_rule ?_)
 first
  | rw[List.forIn_toArray]
  | (rw[<- Array.forIn_toList];simp only[List.toList_toArray])
  | rw[<- Array.forIn_toList]
 refine Ja (ksk_fold (λi s'=>∃ H' kA e ks,Inv X π σ H' s'/\AA H H'/\s'.heap.get? kS≈(seqObj "list" kA e)/\s'.heap.get? a≈(seqObj "list" #[] e1)/\BH X π H' kS/\BH X π H' a/\AQ ks kA.toList/\↑ks=i/\(∀ j k,ks[j]?≈k->F j k H')) vs 0 s
  ⟨H,#[],0,[],I,AA.refl _,nk,na,fk,fa,.nil,rfl,λj k z=>by simp at z⟩ ?step ?done)
 case step =>
  rintro j u s' hu ⟨H',kA,e,ks,I',sm,Iz,I_,BW,Fj,rk,hkl,hks⟩;simp only[Nat.zero_add]at hkl ⊢;have hj:j<↑vs:=(Ye.mp hu).1;obtain⟨x,hx,rx⟩:∃ x,xs[j]?≈x/\AZ x u:=by
   have Gg:j<↑xs:=by omega
   obtain⟨u',BR,r⟩:=rv.get (Yb Gg);rw[hu]at BR;cases BR;exact⟨_,Yb Gg,r⟩
  have I2:Inv X ((kS,seqObj "list" kA e):: (a,seqObj "list" #[] e1):: π) σ H' s':=I'.pins_of λp hp=>by
   rcases Yl.mp hp with rfl | hp
   ·exact⟨Iz,BW.1,BW.2.1,BW.2.2.1,λv z=>by cases z⟩
   ·rcases Yl.mp hp with rfl | hp
    ·exact⟨I_,Fj.1,Fj.2.1,Fj.2.2.1,λv z=>by cases z⟩
    ·exact I'.pin p (Yw _ hp)
  refine Ja (wpAny_attempt (Jf (turn j x u H' s' _ hx rx sm I2) (λw' s2 he=>?_) λ_ _ z=>z.elim));obtain⟨v,H2,I3,Vc,C7,fv⟩:=he;have p1:=I3.pin (kS,seqObj "list" kA e) (Yw _ (.head _));have p2:=I3.pin (a,seqObj "list" #[] e1) (Yw _ (.tail _ (.head _)));have I4:Inv X π σ H2 s2:=I3.pins_of λp hp=>I3.pin p (Yw _ (.tail _ (.tail _ hp)));have ax:=BW.same p1.2.1;have nX:=Fj.same p2.2.1;have hz:kA.size=j:=by
   have h1:↑ks=↑kA.toList:=↑rk;rw[Il]at h1;exact h1.symm.trans hkl
  have s1:=Oi s2.heap kS (Obj.mapSeq (·.push w'));obtain⟨c2,Cm⟩:∃ c2,(s2.heap.update kS (Obj.mapSeq (·.push w'))).get? kS≈(seqObj "list" (kA.push w') c2):=⟨_,get?_update_seq p1.1 (·.push w')⟩
  try dsimp only
  refine Ja (listUpdate_at p1.1 rfl ?_ (by rw[hz,sizeLine_eq];omega) (A8 (Nat.le_of_eq (Array.size_push ..)) (by rw[hz,sizeLine_eq];omega)));refine Jd ⟨Y,H2,kA.push w',c2,ks++[v],I4.turnedL (t':=s2.toks) (ψ:=[kS]) (λc o hc q=>(s1.2 c (λz=>hc (by simp[z]))).trans q) (λc hc=>by rw[Yi.mp hc];exact ax),sm.trans C7,Cm,(s1.2 a hka.symm).trans p2.1,ax,nX,?_,by rw[Bw,hkl];rfl,λi k hk=>?_⟩
  ·rw[Array.toList_push];exact rk.append (.cons Vc .nil)
  ·rcases Nat.lt_trichotomy i ↑ks with q | q | q
   ·rw[Og q]at hk;exact hF i k _ _ C7 (hks i k hk)
   ·rw[q,Ku (Yf _),Nat.sub_self]at hk;cases hk;rw[q,hkl];exact fv
   ·rw[E2 (by rw[Bw];show ↑ks + 1<=i;omega)]at hk;cases hk
 case done =>
  rintro s' ⟨H',kA,e,ks,I',sm,Iz,I_,BW,Fj,rk,hkl,hks⟩
  try dsimp only
  refine Ja (listItems_at Iz rfl ?_);exact h H' s' kA e ks I' sm Iz I_ BW Fj rk (by rw[hkl,hxl,Nat.zero_add]) hks
end
def Wi{b:Bool}{keys:μ}{vs:LU}(hkl:keys.size=↑vs){i:Nat}(hi:i<↑vs):W.kas_item (Dv b keys vs) i=(keys.getD (ri b ↑vs i) .none,vs.getD (ri b ↑vs i) .none):=by
 have hz:(keys.zip vs.toArray).size=↑vs:=by rw[Array.size_zip,hkl,Yn,Nat.min_self]
 have at_:∀ {j:Nat},j<↑vs->(keys.zip vs.toArray)[j]?≈(keys.getD j .none,vs.getD j .none):=λ{j} hj=>by
  rw[Array.getElem?_eq_getElem (by omega)];have h1:j<keys.size:=by omega
  simp[Array.getD,h1,Yg,Yb hj]
 have g:∀ {xs:Array Keyed} {j:Nat} {x:Keyed},xs[j]?≈x->xs.getD j (Value.none,Value.none)=x:=λ{xs j x} h=>by
  obtain⟨hj,e⟩:=RF.mp h;simp[Array.getD,hj,e]
 unfold W.kas_item Dv ri;cases b with
 | false=>simp only[Jq,if_false];exact g (at_ hi)
 | true =>
  simp only[if_true];refine g ?_;rw[Array.getElem?_reverse (by rw[hz];exact hi),hz];exact at_ (by omega)
theorem cm{xs:LV}{vs:LU}(r:AQ xs vs):∀(l:LN),(∀ i∈l,i<↑xs)->AQ (l.map λi=>xs.getD i .non) (l.map λi=>vs.getD i .none)
 | [],_=>.nil
 | i :: l,h=>by
  have hi:i<↑xs:=h i (.head _);obtain⟨u,hu,ru⟩:=r.get (Yb hi);refine .cons ?_ (cm r l λj hj=>h j (.tail _ hj));show AZ (xs.getD i V.non) (vs.getD i Value.none);rw[Yg,Yb hi,Yg,hu];exact ru
def wQ{O:KeyOrd}{b:Bool}{keys:μ}{vs:LU}(kf:Nat->O.α)(hkl:keys.size=↑vs):
  (if b then(((sIx ↑vs (Aw λi=>kf (ri b ↑vs i))).map (W.kas_item (Dv b keys vs))).map (·.2)).reverse else((sIx ↑vs (Aw λi=>kf (ri b ↑vs i))).map (W.kas_item (Dv b keys vs))).map (·.2)).toList=(IP b kf ↑vs).map λi=>vs.getD i .none:=by
 have hp:=(Tf (λi=>kf (ri b ↑vs i)) ↑vs).1;unfold IP;generalize sIx ↑vs (Aw λi=>kf (ri b ↑vs i))=p at hp;have e:(((p.map (W.kas_item (Dv b keys vs))).map (·.2)).toList)=(p.toList.map (ri b ↑vs)).map λi=>vs.getD i .none:=by
  rw[Array.toList_map,Array.toList_map,Bu,Bu];refine MM λi hi=>?_;show(W.kas_item (Dv b keys vs) i).2=_;rw[Wi hkl (CA.mp (hp.mem_iff.mp hi))];rfl
 cases b with
 | false =>
  simp only[Jq,if_false];exact e
 | true =>
  simp only[if_true,Array.toList_reverse];rw[e];show _=((p.toList.map (ri true ↑vs)).reverse).map _;rw[List.map_reverse]
section
variable {X:Cx}{π:PL}{σ:St}{H:Hp}{s:ω}
def fV{O:KeyOrd}{κ:SortKind}{f:χ}{b:Bool}{l:ε}{xs:LV}{kw:List (Str×χ)}{Q:VK}{E:EV}(kf:Nat->O.α)(F:Nat->V->Hp->Prop)(hF:∀ i v H1 H2,AA H1 H2->F i v H1->F i v H2)(I:Inv X π σ H s)(hl:SqL X.K H l xs)(Dq:↑xs<64)
  (aY:argsOk "sorted" ⟨[.ref l],kw⟩) (my:∀ x,argsOk "list.sort" ⟨[.ref x],kw⟩) (ht:∀ x,Builtin.«list.sort» ⟨[.ref x],kw⟩=ksk_tree x f b)
  (turn:∀ i x u H' s' Bc,xs[i]?≈x->AZ x u->AA H H'->Inv X Bc σ H' s'->wpAny (model X.prog X.w) X.A.in1.in1 (call f [u]) (EP X Bc σ λv BL=>AA H' BL/\F i v BL) (λ_ _=>False) s')
  (hkind:∀ ks kA H' s',Inv X π σ H' s'->AQ ks kA.toList->↑ks=↑xs->(∀ i k,ks[i]?≈k->F i k H')->2<=kA.size->∀(E:EV) (C:SortKind->ω->Prop),C κ s'->wpAny (model X.prog X.w) X.A.in1.in1 (keyKind' kA) C E s')
  (cmp:∀ u1 u2 k1 k2 i j H' s',Inv X π σ H' s'->AZ k1 u1->AZ k2 u2->F i k1 H'->F j k2 H'->∀ C:Bool->ω->Prop,C (O.blt (kf i) (kf j)) s'->wpAny (model X.prog X.w) X.A.in1.in1 (keyLt' κ u1 u2) C (λ_ _=>False) s')
  (q:∀ D H',H D=none->AA H H'->H' D≈(.lst (Fz b kf xs))->Q (.ref D) H'):
  wpAny (model X.prog X.w) X.A (call (.builtin "sorted") [.ref l] kw) (EP X π σ Q) E s:=by
 obtain⟨vs,rv,pl,hz⟩:=I.list hl;have hxl:↑xs=↑vs:=↑rv;have hLs:s.heap.IsList l vs.toArray:=pl.isList;refine call_function_entry_kw kind_sorted plain_sorted entry_sorted aY ?_;unfold Builtin.«sorted»;refine Ja (m:=checkCount "sorted" 1 1 _) (Jd ?_);refine Ja (collect_list hLs ?_ (by rw[sizeLine_eq];omega));refine Ja (wpAny_newList ?_ (by rw[sizeLine_eq];omega));have hsz:((s.heap.push (seqObj "list" #[] 0)).update ⇑s (Obj.mapSeq (·++vs.toArray))).objs.size=⇑s + 1:=by
  rw[Heap.size_update,size_push']
 have hoL:(((s.heap.push (seqObj "list" #[] 0)).update ⇑s (Obj.mapSeq (·++vs.toArray))).push (seqObj "list" vs.toArray 0)).get? (⇑s + 1)≈(seqObj "list" vs.toArray 0):=by
  rw[<- hsz];exact Ym _ rfl
 have keep:∀ b o,s.heap.get? b≈o->(((s.heap.push (seqObj "list" #[] 0)).update ⇑s (Obj.mapSeq (·++vs.toArray))).push (seqObj "list" vs.toArray 0)).get? b≈o:=λb o q=>by
  have AW:b<⇑s:=Yj q;rw[Heap.get?_push_ne _ _ _ (by rw[hsz];exact Yv (Q_ AW)),Heap.get?_update_ne _ _ _ _ (Yv AW),Heap.get?_push_ne _ _ _ (Yv AW)];exact q
 show wpAny _ _ _ _ _ {s with heap:=((s.heap.push (seqObj "list" #[] 0)).update ⇑s (Obj.mapSeq (·++vs.toArray))).push (seqObj "list" vs.toArray 0) };rw[hsz];generalize((s.heap.push (seqObj "list" #[] 0)).update ⇑s (Obj.mapSeq (·++vs.toArray))).push (seqObj "list" vs.toArray 0)=g at hoL keep;have Ig:Inv X π σ H {s with heap:=g}:=I.kept (t':=s.toks) keep;obtain⟨a,ea⟩:∃ a,a=⇑s + 1:=⟨Z⟩;have hage:⇑s<=a:=by rw[ea];exact FU _
 rw[<- ea]at hoL ⊢;have hag:a<g.objs.size:=Yj hoL;refine Ja (Jj (wpAny_call_entry_kw slot_list_sort ⟨_,hoL,Y⟩ entry_list_sort ?body (my _)))
 case body =>
  show wpAny (model X.prog X.w) X.A.in1.in1 (Builtin.«list.sort» ⟨[.ref a],kw⟩) _ _ _;rw[ht a];have s1:=Oi g a (Obj.mapSeq λ_=>(#[]:μ));have DQ:=get?_update_seq hoL λ_=>(#[]:μ);generalize(if((λ_:μ=>(#[]:μ)) vs.toArray).size == vs.toArray.size then 0 else 0 + 1)=e1 at DQ;replace DQ:(g.update a (Obj.mapSeq λ_=>(#[]:μ))).get? a≈(seqObj "list" #[] e1):=DQ;unfold ksk_tree;refine Ja (listItems_at hoL rfl ?_);refine Ja (listUpdate_at hoL rfl ?_ (by rw[Yn,sizeLine_eq];omega) (BE _));refine Ja (seqEpoch_at DQ rfl ?_);have Sz:H a=none:=I.hok.fresh hage;have az:BH X π H a:=I.fpOk hage Sz;have I1:Inv X π σ H {s with heap:=g.update a (Obj.mapSeq λ_=>(#[]:μ)) }:=Inv.turnedL (s:={s with heap:=g}) (t':=s.toks) (ψ:=[a]) Ig (λc o hc q=>(s1.2 c (λz=>hc (by simp[z]))).trans q) (λc hc=>by rw[Yi.mp hc];exact az);have z1:(g.update a (Obj.mapSeq λ_=>(#[]:μ))).objs.size=g.objs.size:=Heap.size_update ..;generalize g.update a (Obj.mapSeq λ_=>(#[]:μ))=g1 at DQ I1 z1;refine Ja (wpAny_newTuple ?_ (by show ↑vs<=_;rw[sizeLine_eq];omega));refine Ja (wpAny_newList ?_ (BE _));refine Jj ?_;have z2:(g1.push (seqObj "tuple" vs.toArray 0)).objs.size=g1.objs.size + 1:=size_push' ..;have I2:Inv X π σ H {s with heap:=(g1.push (seqObj "tuple" vs.toArray 0)).push (seqObj "list" #[] 0) }:=I1.kept (t':=s.toks) λb o e=>Yc _ (Yc _ e);have nk:((g1.push (seqObj "tuple" vs.toArray 0)).push (seqObj "list" #[] 0)).get? (g1.push (seqObj "tuple" vs.toArray 0)).objs.size≈(seqObj "list" #[] 0):=Ym _ rfl;have na:((g1.push (seqObj "tuple" vs.toArray 0)).push (seqObj "list" #[] 0)).get? a≈(seqObj "list" #[] e1):=Yc _ (Yc _ DQ);have hkge:g1.objs.size<=(g1.push (seqObj "tuple" vs.toArray 0)).objs.size:=by rw[z2];exact FU _
  have fk:BH X π H (g1.push (seqObj "tuple" vs.toArray 0)).objs.size:=I1.fpOk hkge (I1.hok.fresh hkge);have hka:(g1.push (seqObj "tuple" vs.toArray 0)).objs.size≠a:=by
   rw[z2,z1];exact DG (Q_ hag)
  show wpAny _ _ (ksk_rest a f b vs.toArray e1 (.ref (g1.push (seqObj "tuple" vs.toArray 0)).objs.size)) _ _ _;generalize(g1.push (seqObj "tuple" vs.toArray 0)).objs.size=kS at nk hka fk;generalize(g1.push (seqObj "tuple" vs.toArray 0)).push (seqObj "list" #[] 0)=g2 at nk na I2;refine yo F hF I2 nk na hka fk az rv (by omega) turn λH' s' kA e ks I' sm Iz I_ BW Fj rk hkl hks=>?_;have hkz:kA.size=↑vs:=by
   have h1:↑ks=↑kA.toList:=↑rk;rw[Il]at h1;exact(h1.symm.trans hkl).trans hxl
  have kat:∀ {i:Nat},i<↑vs->∃ k,AZ k (kA.getD i .none)/\F i k H':=λ{i} hi=>by
   have CY:i<↑ks:=by omega
   obtain⟨u,hu,ru⟩:=rk.get (Yb CY);refine⟨_,?_,hks i _ (Yb CY)⟩;have DY:i<kA.size:=by omega
   have:kA.getD i .none=u:=by
    rw[Oq,Array.getElem?_eq_getElem DY]at hu;simp[Array.getD,DY];exact BQ hu
   rw[this];exact ru
  have hri:∀ {i:Nat},i<↑vs->ri b ↑vs i<↑vs:=λ{i} hi=>by
   unfold ri;cases b with
   | false=>exact hi
   | true=>show ↑vs - 1 - i<↑vs;omega
  refine xK (λi=>kf (ri b ↑vs i)) Iz I_ hka hkz (by omega) (λh2 C hC=>hkind ks kA H' s' I' rk hkl hks h2 _ C hC) (λi j C hi hj hC=>?_) λh' tk c kp ek Z3=>⟨Z,?_⟩
  ·rw[Wi hkz hi,Wi hkz hj];obtain⟨k1,r1,f1⟩:=kat (hri hi);obtain⟨k2,r2,f2⟩:=kat (hri hj);exact cmp _ _ k1 k2 _ _ H' s' I' r1 r2 f1 f2 C hC
  refine Jd ⟨Z,?_⟩;have ev:=wQ (b:=b) kf hkz;generalize(if b then(((sIx ↑vs (Aw λi=>kf (ri b ↑vs i))).map (W.kas_item (Dv b kA vs))).map (·.2)).reverse else((sIx ↑vs (Aw λi=>kf (ri b ↑vs i))).map (W.kas_item (Dv b kA vs))).map (·.2))=out at ev Z3;have vy:AQ (Fz b kf xs) out.toList:=by
   rw[ev];unfold Fz;rw[hxl];exact cm rv _ λi hi=>by rw[hxl];exact CA.mp ((L4 b kf ↑vs).mem_iff.mp hi)
  have yl:↑(Fz b kf xs)<=sizeLine:=by
   rw[(sW b kf xs).length_eq];exact sL (by omega)
  have I_:∀ b u,H' b≈u->b≠a:=λb u e z=>by rw[z,Fj.1]at e;cases e
  have Iz:∀ b u,H' b≈u->b≠kS:=λb u e z=>by rw[z,BW.1]at e;cases e
  have low:∀ d u,H' d≈u->(upd H' a (.lst (Fz b kf xs))) d≈u:=λd u e=>by rw[AD (I_ d u e)];exact e
  have E8:∀ {b:ε},b∉[kS,a]->b≠kS/\b≠a:=λ{b} hb=>⟨λz=>hb (by simp[z]),λz=>hb (by simp[z])⟩;have I3:Inv X π σ (upd H' a (.lst (Fz b kf xs))) {s' with heap:=h',toks:=tk}:=by
   refine I'.step (g':=s'.gens) (d':=s'.drawn) (ch:=[kS,a]) (λb hb=>?_) (λb o _ _ hc e _=>kp b o (E8 hc).1 (E8 hc).2 e) (λb o _ _ hc e _=>⟨o.slots,kp b o (E8 hc).1 (E8 hc).2 e⟩)
    (λb o hc e n=>by rw[AD (E8 hc).2];exact n) (λb o hc e=>⟨o,kp b o (E8 hc).1 (E8 hc).2 e⟩) (λb xs e=>low b _ e) (λb o u e=>low b _ e) (λb ps e=>⟨#[],by rw[low b _ e];simp⟩) (λm hm=>?_) (λb u e=>?_) I'.bare
   ·have:b=kS\/b=a:=by simpa using hb
    rcases this with rfl | rfl
    ·exact⟨BW.2.2.2.1,BW.2.1,BW.2.2.2.2.1,BW.2.2.2.2.2⟩
    ·exact⟨Fj.2.2.2.1,Fj.2.1,Fj.2.2.2.2.1,Fj.2.2.2.2.2⟩
   ·obtain⟨o,es,ep,ho,r⟩:=hm;exact⟨o,es,ep,kp _ o (Yx BW.2.1) (Yx Fj.2.1) ho,r⟩
   ·by_cases hb:b=a
    ·rw[hb,uS]at e;cases e;rw[hb];exact⟨yl,out.toList,c,vy,by rw[Z3]⟩
    ·rw[AD hb]at e;refine(I'.hok b u e).stay (λd v hd q=>kp d v ?_ ?_ q) (λd q=>low d _ q) λd xs q=>low d _ q
     ·rcases hd with rfl | hd
      ·exact Iz _ _ e
      ·exact Iz _ _ hd
     ·rcases hd with rfl | hd
      ·exact I_ _ _ e
      ·exact I_ _ _ hd
  exact⟨.ref a,_,I3,Y,q a _ Sz (λb o e=>low b o (sm b o e)) uS⟩
end
end L2
namespace L2
open PySem PySem.Spec PySem.Calls PyProof.Rows
section
variable {M:Model}{A:Around}{E:EV}{s:ω}{env:Env}
def bP{pos:Pos}{id:String}{e:Expr}{kws:List Keyword}{Q:EV}
  (h:wpAny M A (spliced (backTo pos (starEach [e] env))) (λvs s1=>wpAny M A (evalAll ((backToKw pos (keywordEach kws env)).map (·.2))) (λks s2=>wpAny M A (call (.builtin id) vs (((backToKw pos (keywordEach kws env)).filterMap (·.1)).zip ks)) Q E s2) E s1) E s)
  (he:backTo pos (starEach [e] env)=[(false,eval e env)]:=by rfl) (ha:(backToKw pos (keywordEach kws env)).all (·.1.isSome)=true:=by rfl) (hk:(backToKw pos (keywordEach kws env)).any (·.1.isNone)=false:=by rfl):
  wpAny M A (callWith pos (.builtin id) [] (backTo pos (starEach [e] env)) (backToKw pos (keywordEach kws env))) Q E s:=by
 unfold callWith;rw[he]at h ⊢;refine Ja (Jj (Jf (evalArgs_kwB (Q:=λa s1=>wpAny M A (call (.builtin id) ([]++a.pos) a.kw) Q E s1) ha h) (λa s1 h1=>Ja (wpAny_standAt ?_)) λ_ _ x=>x));simp only[hk,Bool.or_false];refine Ja (Jd ?_);exact Ja (Jf h1 (λr s2 hr=>Ja (Jj (wpAny_point (Jd hr)))) λ_ _ z=>z)
end
def SqL.sameT{K:Fg}{H H':Hp}{P l:ε}{ps:μ}{xs:LV}(h:SqL K H l xs)(hP:H P≈(.tbl ps))(sm:Bf P H H'):SqL K H' l xs:=by
 rcases h with h | h
 ·rcases h with h | ⟨o,h⟩
  ·exact .inl (.inl (sm _ _ (λz=>by rw[z,hP]at h;cases h) h))
  ·exact .inl (.inr ⟨o,sm _ _ (λz=>by rw[z,hP]at h;cases h) h⟩)
 ·exact .inr h
theorem Dw.tbl{H:Hp}{P:ε}{pos:Pos}{qual:Str}(h:Dw H P pos qual):∃ ps,H P≈(.tbl ps):=by
 rcases h with h | ⟨_,_,_,_,h,_⟩
 ·exact⟨_,h⟩
 ·exact⟨_,h⟩
def Dw.keep{H H':Hp}{P:ε}{pos:Pos}{qual:Str}(h:Dw H P pos qual)(k:∀ b o,(∃ ps,o=.tbl ps)\/(∃ ob u,o=.frz ob u)->H b≈o->H' b≈o):Dw H' P pos qual:=by
 rcases h with h | ⟨c,oc,vs,t,h1,h2,r⟩
 ·exact .inl (k _ _ (.inl ⟨Z⟩) h)
 ·exact .inr ⟨c,oc,vs,t,k _ _ (.inl ⟨Z⟩) h1,k _ _ (.inr ⟨_,Z⟩) h2,r⟩
def Dw.mono{H H':Hp}{P:ε}{pos:Pos}{qual:Str}(h:Dw H P pos qual)(s:AA H H'):Dw H' P pos qual:=h.keep λb o _ e=>s b o e
def Bf.trans{P:ε}{H H1 H2:Hp}(a:Bf P H H1)(b:Bf P H1 H2):Bf P H H2:=λc o hc e=>b c o hc (a c o hc e)
def AA.t{P:ε}{H H':Hp}(s:AA H H'):Bf P H H':=λb o _ e=>s b o e
def xB(K:Fg)(P:ε)(lpos:Pos)(qual:Str)(b:Bool)(te tb:TE)(js:LN):TE:=λσ H Q=>te σ H λv H1=>∃(l:ε) (xs:LV) (kf:Nat->Int),v=.ref l/\SqL K H1 l xs/\↑xs<64/\Dw H1 P lpos qual /\
 ∀ H2,Bf P H1 H2->Dw H2 P lpos qual ->
  (∀ i x H3,xs[i]?≈x->AA H2 H3->tb (↥x :: js.map λj=>(σ[j]?).join) H3 λk H4=>AA H3 H4/\k=.int (kf i)) /\
  ∀ D H3,H2 D=none->AA H2 H3->H3 D≈(.lst (Fz (O:=IS) b kf xs))->Q (.ref D) H3
def hX:bootBuiltins "sorted"≈(.builtin "sorted"):=by rfl'
section
variable {X:Cx}
def qA{e body:Expr}{params:Arguments}{scope:Scope}{lpos Vs l_ p pos AX:Pos}{j:Nat}{b:Bool}{te tb:TE}{x:Str}{c P:ε}{qual:Str}(η:LS)(js:LN)(hc:X.calm=true)(hg:Gl X "sorted")(hm:X.mg "sorted"=none)(he:PE X e te)
  (L:Lh X.mg X.base c P) (hcode:X.env.code=.ref c) (hq:X.env.qual++"<lambda>"=qual) (Lm:U4 X.env.scope X.N scope x η js) (hdp:X.A.depth<recursionLimit)
  (hb:∀(f c':ε) (cl:List (Str×ε)) (s:ω) (H:Hp),PE (Pt X X.A.in1.in1 (x :: η) qual scope f (.ref c') cl s H) body tb)
  (hbind:∀(cl:List (Str×ε)) (pm:χ) (c':ε) (ctv u:χ),bindArgs (W.kla_fn "<lambda>" qual params body scope cl pm (.ref c') ctv) ⟨[u],[]⟩=pure [(x,u)]:=by intros;rfl)
  (hdef:defaultsOf params X.env=([],[]):=by rfl)
  (hs:backTo pos (starEach [e] X.env)=[(false,eval e X.env)]:=by rfl):
  PE X (.Call (.Name "sorted" p) [e] [⟨some "key",.Lambda params body scope lpos,Vs⟩,⟨some "reverse",.Constant (.bool b) j AX,l_⟩] pos) (xB X.K P lpos qual b te tb js):=by
 ac_rfl;refine wpAny_Call_Name_kw (F1 I hg hm hX ?_);refine bP ?_ hs rfl rfl;rw[hs];refine spliced_cons (AM (he π s σ H _ I h) λu s1 ⟨v,H1,I1,r1,l,xs,kf,ev,hl,Dq,hT,q⟩=>spliced_nil ?_);subst ev;obtain rfl:u=Value.ref l:=r1;show wpAny _ _ (evalAll ((do let v <- eval (.Lambda params body scope lpos) X.env;standAt pos;pure v):: (do let v <- eval (.Constant (.bool b) j AX) X.env;standAt pos;pure v):: [])) _ _ s1;refine wpAny_evalAll_cons (Ja ?_);have Aq:∀ y∈scope.names,y.2=.free->∃ c,X.env.cells.lookup y.1≈c:=λy hy z=>I1.ok.has y.1 (Lm.fr y hy z);refine dC I1 L hcode hq hT hdef Aq λf c' oc vs t ctv cl H2 s2 FH Cm I2 sm JJ hfr hf hcc hd hv=>?_;refine Ja (wpAny_standAt (Jd ?_));refine wpAny_evalAll_cons (Ja (Constant_bool (Ja (wpAny_standAt (Jd (wpAny_evalAll_nil ?_))))));obtain⟨ps,hP⟩:=hT.tbl;obtain⟨qk,qr⟩:=q H2 sm JJ;show wpAny _ _ (call (.builtin "sorted") [.ref l] [(Str.ofString "key",.ref f),(Str.ofString "reverse",.bool b)]) _ _ _;refine fV (O:=IS) (κ:=oneType') kf (λi v _=>v=.int (kf i)) (λ_ _ _ _ _ z=>z) I2 (hl.sameT hP sm) Dq (ksk_s2 _ _ _) (λx=>ksk_l2 _ _ _) (λx=>ksk_t2 f x b) (λi x' u H' s' Bc hx ru smH I'=>?_) (λks kA H' s' I' rk hkl hks h2 E C hC=>?_) (λu1 u2 k1 k2 i j H' s' I' r1 r2 e1 e2 C hC=>?_) qr
 ·exact bb (A:=X.A.in1.in1) I' I'.ok.frames (I'.ok.hd hc) hdp Lm (smH _ _ hf) (smH _ _ hcc) hd hv FH Cm (hbind cl _ c' ctv u) ru (hb f c' cl s' H') (qk i x' H' hx smH)
 ·have eks:ks=((List.range ↑xs).map kf).map V.int:=by
   apply OZ;intro i;by_cases hi:i<↑xs
   ·have CY:i<↑ks:=by omega
    rw[Yb CY,hks i _ (Yb CY),Yh,Yh,JZ hi];rfl
   ·rw[E2 (by omega),E2 (by rw[Ya,Ya,Ec];omega)]
  rw[eks]at rk;rw[ksk_kind (UM rk) h2];exact Jd hC
 ·subst e1 e2;obtain⟨t1,rfl⟩:=r1;obtain⟨t2,rfl⟩:=r2;rw[keyLt'_oneType];exact oneLt_int hC
end
end L2
namespace HT
open PySem
section
open PySem.SeqAt
open PySem.AutoSeq1 (wpAny_loadPart')
open PySem.MeetsSeq PySem.MeetsSeq2 PySem.MeetsSeq3
open PyProof.Rows (IntsAre)
def de{vs:LU}{ns:ζ}(h:IntsAre vs ns):∀ {i:Nat}{v:χ},vs[i]?≈v->∃ a t,v=.int a t/\ns[i]?≈a:=by
 induction h with
 | nil=>intro i v e;cases i <;> cases e
 | cons n t h ih =>
  intro i v e;cases i with
  | zero=>cases e;exact⟨_,Z,Y⟩
  | succ i=>exact ih e
def lex_drop{ns ms:ζ}{i:Nat}{a c:Int}(h1:ns[i]?≈a)(h2:ms[i]?≈c):lexLt (ns.drop i) (ms.drop i)=if a=c then lexLt (ns.drop (i + 1)) (ms.drop (i + 1))else decide (a<c):=by
 obtain⟨l1,e1⟩:=Ye.mp h1;obtain⟨l2,e2⟩:=Ye.mp h2;rw[RE l1,RE l2,lexLt_cons,e1,e2]
def xg(l b:ε)(items AY:μ)(n n2:Nat)(dd HI:Option ε)(sl HB:Array (OU))(hsz:items.size=AY.size)(ns ms:ζ)(hi:IntsAre items.toList ns)(hj:IntsAre AY.toList ms)(k:Nat):
  ∀ i:Nat,items.size - i=k->Meets (Builtin.«list.__eq__.loop» ⟨[.ref l,.ref b,rawInt i,rawInt 0],[]⟩)
   (λA R s=>s.heap.get? l=some {cls:=.type "list",dict:=dd,data:=.seq items n,slots:=sl}/\s.heap.get? b=some {cls:=.type "list",dict:=HI,data:=.seq AY n2,slots:=HB} /\
    R (.ok (.ret (.bool (lexLt (ns.drop i) (ms.drop i))))) s):=by
 have z1:items.size=↑ns:=by rw[<- ↑hi];simp
 have z2:AY.size=↑ms:=by rw[<- ↑hj];simp
 induction k with
 | zero =>
  intro i hk prog w A R s h;obtain⟨hp,g,d,tk,os⟩:=s;obtain⟨hl,hb,h⟩:=h
  wp_walk using wpAny_loadPart' hl,wpAny_loadPart' hb
  have FG:items[((i:Nat):Int).toNat]?=none:=by simp;omega
  have DY:AY[((i:Nat):Int).toNat]?=none:=by simp;omega
  rw[RA (by omega),RA (by omega)]at h;rw[FG,DY]
  wp_walk using wpAny_loadPart' hl,wpAny_loadPart' hb
  show R (.ok (.ret (.bool (decide (items.size<AY.size))))) _;rw[hsz,Jc (F9 _)];exact h
 | succ k ih =>
  intro i hk prog w A R s h;obtain⟨hp,g,d,tk,os⟩:=s;obtain⟨hl,hb,h⟩:=h
  wp_walk using wpAny_loadPart' hl,wpAny_loadPart' hb
  have AW:i<items.size:=by omega
  have Rn:i<AY.size:=by omega
  have FG:items[((i:Nat):Int).toNat]?≈items[i]:=by simp[AW]
  have DY:AY[((i:Nat):Int).toNat]?≈AY[i]:=by simp[Rn]
  have hc:((i:Int) + 1)=((i + 1:Nat):Int):=by push_cast;rfl
  obtain⟨a,t,ea,na⟩:=de hi (i:=i) (v:=items[i]) (by simp[AW]);obtain⟨c,u,ec,nc⟩:=de hj (i:=i) (v:=AY[i]) (by simp[Rn]);rw[lex_drop na nc]at h;rw[FG,DY,ea,ec];obtain⟨e,he,hiff⟩:=oy A.in1 ⟨hp,g,d,tk,os⟩ a t c u;refine Ja (he prog w _ _ ?_);cases e with
  | true =>
   rw[if_pos (hiff.mp rfl)]at h
   wp_walk
   rw[hc];exact⟨plainId_quiet plain_eq_loop _,codeAny_builtin entry_eq_loop (by
    rw[Around.under_plainId plain_eq_loop _];exact ih (i + 1) (by omega) prog w A R _ ⟨hl,hb,h⟩)⟩
  | false =>
   rw[if_neg (λq=>absurd (hiff.mpr q) Yq)]at h;have hri:=pN A.in1 ⟨hp,g,d,tk,os⟩ a t c u prog w
   wp_walk using wpAny_loadPart' hl,wpAny_loadPart' hb
   rw[FG,DY,ea,ec]
   wp_walk using hri
   exact h
def list_lt_ints(l b:ε)(items AY:μ)(n n2:Nat)(dd HI:Option ε)(sl HB:Array (OU))(hsz:items.size=AY.size)(ns ms:ζ)(hi:IntsAre items.toList ns)(hj:IntsAre AY.toList ms):
  Meets (Builtin.«list.__lt__» ⟨[.ref l,.ref b],[]⟩)
   (λA R s=>s.heap.get? l=some {cls:=.type "list",dict:=dd,data:=.seq items n,slots:=sl}/\s.heap.get? b=some {cls:=.type "list",dict:=HI,data:=.seq AY n2,slots:=HB} /\
    R (.ok (.ret (.bool (lexLt ns ms)))) s):=by
 intro prog w A R s h;obtain⟨hp,g,d,tk,os⟩:=s;obtain⟨hl,hb,h⟩:=h;have f3:=AutoSeq1.sub_list_list
 wp_walk using wpAny_loadPart' hl,wpAny_loadPart' hb
 exact⟨plainId_quiet plain_eq_loop _,codeAny_builtin entry_eq_loop (by
  rw[Around.under_plainId plain_eq_loop _];exact xg l b items AY n n2 dd HI sl HB hsz ns ms hi hj _ 0 rfl prog w A R _ ⟨hl,hb,h⟩)⟩
end
end HT
namespace L2
open PySem PySem.Spec PySem.Calls PyProof.Rows
theorem bh:∀ a:ζ,HT.lexLt a a=false
 | []=>rfl
 | x :: a=>by rw[HT.lexLt_cons,if_pos rfl];exact bh a
theorem TX:∀ a b c:ζ,HT.lexLt a b=true->HT.lexLt b c=true->HT.lexLt a c=true
 | [],[],_,h,_=>by cases h
 | [],_ :: _,[],_,h=>by cases h
 | [],_ :: _,_ :: _,_,_=>rfl
 | _ :: _,[],_,h,_=>by cases h
 | _ :: _,_ :: _,[],_,h=>by cases h
 | x :: a,y :: b,z :: c,h1,h2=>by
  rw[HT.lexLt_cons]at h1 h2 ⊢;by_cases e1:x=y
  ·rw[if_pos e1]at h1;by_cases e2:y=z
   ·rw[if_pos e2]at h2;rw[if_pos (e1.trans e2)];exact TX a b c h1 h2
   ·rw[if_neg e2]at h2;rw[if_neg (by rw[e1];exact e2),e1];exact h2
  ·rw[if_neg e1]at h1;have h1:=Je h1;by_cases e2:y=z
   ·rw[if_neg (by rw[<- e2];exact e1),<- e2];exact Jb h1
   ·rw[if_neg e2]at h2;have h2:=Je h2;rw[if_neg (by omega)];exact Jb (by omega)
theorem Ts:∀ a b:ζ,HT.lexLt a b=false->HT.lexLt b a=false->a=b
 | [],[],_,_=>rfl
 | [],_ :: _,h,_=>by cases h
 | _ :: _,[],_,h=>by cases h
 | x :: a,y :: b,h1,h2=>by
  rw[HT.lexLt_cons]at h1 h2;by_cases e1:x=y
  ·rw[if_pos e1]at h1;rw[if_pos e1.symm]at h2;rw[e1,Ts a b h1 h2]
  ·rw[if_neg e1]at h1;rw[if_neg (λz=>e1 z.symm)]at h2;have h1:=of_decide_eq_false h1;have h2:=of_decide_eq_false h2;exact absurd (by omega) e1
def xf(a b c:ζ)(h:HT.lexLt a c=true):HT.lexLt a b=true\/HT.lexLt b c=true:=by
 cases h1:HT.lexLt a b with
 | true=>exact .inl rfl
 | false =>
  cases h2:HT.lexLt b a with
  | true=>exact .inr (TX b a c h2 h)
  | false=>rw[<- Ts a b h1 h2];exact .inr h
def Lq:KeyOrd where
 α:=ζ
 blt:=HT.lexLt
 irrefl:=bh
 trans:=TX
 negTrans:=xf
 total:=Ts
section
variable {prog:Γ}{w:World}{A:Around}{E:EV}{s:ω}
def oO{l b:ε}{items AY:μ}{ns ms:ζ}{Q:Bool->ω->Prop}(hl:s.heap.IsList l items)(hb:s.heap.IsList b AY)(hi:IntsAre items.toList ns)(hj:IntsAre AY.toList ms)(hz:↑ns=↑ms)
  (hu:A.units<cLine) (h:Q (HT.lexLt ns ms) s):wpAny (model prog w) A (keyLt' oneType' (.ref l) (.ref b)) Q E s:=by
 obtain⟨⟨cls,dd,data,sl⟩,ho,hc,n,hd⟩:=id hl;obtain⟨⟨R1,HI,data2,HB⟩,CF,Cm,n2,hd2⟩:=id hb;simp only at hc hd Cm hd2;subst hc hd Cm hd2;have z1:items.size=↑ns:=by rw[<- ↑hi];simp
 have z2:AY.size=↑ms:=by rw[<- ↑hj];simp
 rw[keyLt'_oneType,oneLt'_eq];simp only[if_true];refine Ja (wpAny_cRoomFor hu ?_);refine Ja (wpAny_callSpecialIfBound?_slot (T:="list") ⟨_,ho,Y⟩ PySem.F.slot_list_lt (call_meets PySem.F.slot_list_lt ⟨_,ho,Y⟩ PySem.F.entry_list_lt (PySem.F.args_list_lt_2 _ _) (HT.list_lt_ints l b items AY n n2 dd HI sl HB (by omega) ns ms hi hj) ⟨ho,CF,?_⟩));exact Jh h
end
def xC(K:Fg)(P:ε)(lpos:Pos)(qual:Str)(te tb:TE)(js:LN):TE:=λσ H Q=>te σ H λv H1=>∃(l:ε) (xs:LV) (kf:Nat->ζ) (m:Nat),v=.ref l/\SqL K H1 l xs/\↑xs<64/\Dw H1 P lpos qual /\
 ∀ H2,Bf P H1 H2->Dw H2 P lpos qual ->
  (∀ i x H3,xs[i]?≈x->AA H2 H3->tb (↥x :: js.map λj=>(σ[j]?).join) H3 λk H4=>AA H3 H4/\↑(kf i)=m/\∃ d,k=.ref d/\H4 d≈(.lst ((kf i).map V.int))) /\
  ∀ D H3,H2 D=none->AA H2 H3->H3 D≈(.lst (Fz (O:=Lq) false kf xs))->Q (.ref D) H3
section
variable {X:Cx}
def qB{e body:Expr}{params:Arguments}{scope:Scope}{lpos Vs p pos:Pos}{te tb:TE}{x:Str}{c P:ε}{qual:Str}(η:LS)(js:LN)(hc:X.calm=true)(hg:Gl X "sorted")(hm:X.mg "sorted"=none)(he:PE X e te)
  (L:Lh X.mg X.base c P) (hcode:X.env.code=.ref c) (hq:X.env.qual++"<lambda>"=qual) (Lm:U4 X.env.scope X.N scope x η js) (hdp:X.A.depth<recursionLimit) (hu:X.A.in1.in1.units<cLine)
  (hb:∀(f c':ε) (cl:List (Str×ε)) (s:ω) (H:Hp),PE (Pt X X.A.in1.in1 (x :: η) qual scope f (.ref c') cl s H) body tb)
  (hbind:∀(cl:List (Str×ε)) (pm:χ) (c':ε) (ctv u:χ),bindArgs (W.kla_fn "<lambda>" qual params body scope cl pm (.ref c') ctv) ⟨[u],[]⟩=pure [(x,u)]:=by intros;rfl)
  (hdef:defaultsOf params X.env=([],[]):=by rfl)
  (hs:backTo pos (starEach [e] X.env)=[(false,eval e X.env)]:=by rfl):
  PE X (.Call (.Name "sorted" p) [e] [⟨some "key",.Lambda params body scope lpos,Vs⟩] pos) (xC X.K P lpos qual te tb js):=by
 ac_rfl;refine wpAny_Call_Name_kw (F1 I hg hm hX ?_);refine bP ?_ hs rfl rfl;rw[hs];refine spliced_cons (AM (he π s σ H _ I h) λu s1 ⟨v,H1,I1,r1,l,xs,kf,m,ev,hl,Dq,hT,q⟩=>spliced_nil ?_);subst ev;obtain rfl:u=Value.ref l:=r1;show wpAny _ _ (evalAll ((do let v <- eval (.Lambda params body scope lpos) X.env;standAt pos;pure v):: [])) _ _ s1;refine wpAny_evalAll_cons (Ja ?_);have Aq:∀ y∈scope.names,y.2=.free->∃ c,X.env.cells.lookup y.1≈c:=λy hy z=>I1.ok.has y.1 (Lm.fr y hy z);refine dC I1 L hcode hq hT hdef Aq λf c' oc vs t ctv cl H2 s2 FH Cm I2 sm JJ hfr hf hcc hd hv=>?_;refine Ja (wpAny_standAt (Jd (wpAny_evalAll_nil ?_)));obtain⟨ps,hP⟩:=hT.tbl;obtain⟨qk,qr⟩:=q H2 sm JJ;show wpAny _ _ (call (.builtin "sorted") [.ref l] [(Str.ofString "key",.ref f)]) _ _ _;refine fV (O:=Lq) (κ:=oneType') kf (λi v H'=>↑(kf i)=m/\∃ d,v=.ref d/\H' d≈(.lst ((kf i).map V.int))) (λ_ _ _ _ k7 z=>⟨z.1,z.2.elim λd z=>⟨d,z.1,k7 _ _ z.2⟩⟩) I2 (hl.sameT hP sm) Dq (ksk_s1 _ _) (λx=>ksk_l1 _ _) (λx=>ksk_t1 f x) (λi x' u H' s' Bc hx ru smH I'=>?_) (λks kA H' s' I' rk hkl hks h2 E C hC=>?_) (λu1 u2 k1 k2 i j H' s' I' r1 r2 e1 e2 C hC=>?_) qr
 ·exact bb (A:=X.A.in1.in1) I' I'.ok.frames (I'.ok.hd hc) hdp Lm (smH _ _ hf) (smH _ _ hcc) hd hv FH Cm (hbind cl _ c' ctv u) ru (hb f c' cl s' H') (qk i x' H' hx smH)
 ·refine Eq.mp (congrArg (λz=>wpAny (model X.prog X.w) X.A.in1.in1 (keyKind' z) C E s') (Array.toArray_toList (xs:=kA))) (W.kas_kind (T:=.type "list") (by rw[Il];exact h2) (λv hv=>?_) rfl rfl hC);obtain⟨i,hi⟩:=D0 hv;have CY:i<↑ks:=by rw[↑rk];exact(Ye.mp hi).1
  obtain⟨u,BR,ru⟩:=rk.get (Yb CY);obtain⟨_,d,ed,Pb⟩:=hks i _ (Yb CY);rw[hi]at BR;injection BR with BR;subst BR;rw[ed]at ru;obtain rfl:v=Value.ref d:=ru;obtain⟨vs',_,pl,_⟩:=I'.list (a:=d) (xs:=(kf i).map V.int) (.inl (.inl Pb));obtain⟨o,ho,hcl,_⟩:=pl.isList;rw[<- hcl];exact(W.Looks.ld ho).andThen .now
 ·obtain⟨m1,d1,rfl,q1⟩:=e1;obtain⟨m2,d2,rfl,q2⟩:=e2;obtain rfl:u1=Value.ref d1:=r1;obtain rfl:u2=Value.ref d2:=r2;obtain⟨v1,lB,p1,_⟩:=I'.list (a:=d1) (xs:=(kf i).map V.int) (.inl (.inl q1));obtain⟨v2,Vc,p2,_⟩:=I'.list (a:=d2) (xs:=(kf j).map V.int) (.inl (.inl q2));exact oO p1.isList p2.isList (by simpa using UM lB) (by simpa using UM Vc) (m1.trans m2.symm) hu hC
end
end L2
namespace L2
open PySem PySem.Spec PyProof.Rows
def qZ{P:Γ}{w:World}{K:Fg}{mg mb:Str->OU}{CX:F_}{k:Nat}{x:Str}{sp:Sp}{s₁:ω}{vs:LU}{ns:ζ}(ts:τ)
  (hts:∀ T∈ts,s₁.heap.get? T≈(W.tabObj #[])) (hcd:∀ T∈ts,∃ c,W.CodeHd s₁.heap c T) (hKt:∀ T∈ts,K.lookup T=none)
  (hbm:∃ bm ob,mg "__builtins__"≈(.ref bm)/\bm≠builtinsNs/\s₁.heap.get? bm≈ob/\ob.cls=.type "module"/\ob.dict≈builtinsNs/\ob.data=.plain)
  (KX:K.In s₁.heap) (hns:s₁.heap.Ns mainGlobals mg) (hb:s₁.heap.Ns builtinsNs mb) (hbb:∀ x:Str,x≠"__name__"->mb x=bootBuiltins x) (hlim:s₁.heap.NoLimit) (hg:s₁.gens=#[])
  (ha:s₁.heap.get? a=some {cls:=.type "list",data:=.seq vs.toArray}) (hi:IntsAre vs ns) (hl:↑ns<=sizeLine) (hr:AV k callerA)
  (F:∀ base:Heap,K.In base->base.Ns mainGlobals mg->(∀ T∈ts,mainGlobals≠T/\base.BuiltinsAt mg T)->Bi P w K mg base CX k fa fd [x] sp) (hbind:∀(s:ω) (u:χ),BindsTo s fd ⟨[u],[]⟩ [(x,u)])
  (hsp:∀ H:Hp,SqL K H a (ns.map V.int)->(∀ T∈ts,H T≈(.tbl #[]))->sp [.ref a] H (λv _=>v=.bl true) λ_ _ _=>False)
  (hCX:∀ H e s',CX [] H s₁ (λ_ _ _=>False) e s'->False):
  codeAny (model P w) callerA (.call (.ref fa) ⟨[.ref a],[]⟩) (λr s'=>r=.ok (.ret (.bool true))/\OldK s₁.heap s'.heap/\s'.os=s₁.os/\AllBare s'.gens) s₁:=by
 have rv:=gF hi;have lenV:=↑hi;have hat:a∉ts:=λz=>by have e:=hts a z;rw[ha]at e;cases e
 have core:∀ H:Hp,SqL K H a (ns.map V.int)->BK P w H s₁.heap->(∀ b,H b≠none->b=a\/b∈ts)->(∀ T∈ts,H T≈(.tbl #[]))->(H a≠none->K.lookup a=none/\∃ o xs,H a≈(.frz o (.lst xs))) ->
   codeAny (model P w) callerA (.call (.ref fa) ⟨[.ref a],[]⟩) (λr s'=>r=.ok (.ret (.bool true))/\OldK s₁.heap s'.heap/\s'.os=s₁.os/\AllBare s'.gens) s₁:=by
  intro H hS hok hA hT hK;have base_of:∀ {b:ε} {o:Obj},s₁.heap.get? b≈o->H b=none->(IK s₁.heap H).get? b≈o:=λe n=>oB e n;have noA:∀ {b:ε} {o:Obj},s₁.heap.get? b≈o->(∀ ψ n,o.data≠.seq ψ n)->(∀ fs,o.data≠.fields fs)->H b=none:=λ{b o} e d1 d2=>by
   cases q:H b with
   | none=>rfl
   | some u =>
    rcases hA b (by rw[q];simp)with e' | e'
    ·subst e';rw[ha]at e;cases e;exact absurd rfl (d1 _ _)
    ·rw[hts b e']at e;cases e;exact absurd rfl (d2 _)
  have nsK:∀ {b:ε} {m:Str->OU},s₁.heap.Ns b m->(IK s₁.heap H).Ns b m:=λ{b m} ⟨o,es,ep,e,d,r⟩=>⟨o,es,ep,base_of e (noA e (λ_ _ z=>by rw[d]at z;cases z) (λ_ z=>by rw[d]at z;cases z)),d,r⟩;have hKb:K.In (IK s₁.heap H):=λb o e=>base_of (KX b o e) (by
   cases q:H b with
   | none=>rfl
   | some u =>
    rcases hA b (by rw[q];simp)with e' | e'
    ·subst e';rw[(hK (by rw[q];simp)).1]at e;cases e
    ·rw[hKt b e']at e;cases e)
  have hM:Mod K mg (IK s₁.heap H):=⟨hKb,nsK hns,⟨mb,nsK hb,hbb⟩,let⟨mc,h1,h2⟩:=hlim;⟨mc,nsK h1,h2⟩⟩;have hbt:∀ T∈ts,mainGlobals≠T/\(IK s₁.heap H).BuiltinsAt mg T:=λT hTm=>by
   obtain⟨bm,ob,b1,b2,b3,b4,b5,b6⟩:=hbm;have hgT:mainGlobals≠T:=λq=>by
    obtain⟨o,es,ep,e,hd,_⟩:=hns;rw[q,hts T hTm]at e;cases e;cases hd
   refine⟨hgT,bm,ob,b1,b2,λq=>?_,λq=>?_,base_of b3 (noA b3 (λ_ _ z=>by rw[b6]at z;cases z) (λ_ z=>by rw[b6]at z;cases z)),b4,b5,b6⟩
   ·obtain⟨o,es,ep,e,hd,_⟩:=hns;rw[q,e]at b3;cases b3;rw[hd]at b6;cases b6
   ·rw[q,hts T hTm]at b3;cases b3;cases b4
  have e0:FE P w K mg (IK s₁.heap H) callerA [] s₁ H:=⟨Y,hM,λb o e=>xn e,Nat.le_of_eq (qT _ _),trivial,λb hb=>absurd (show b∈([]:τ)from hb) (by simp),hok,.of_eq hg⟩;refine codeAny_mono ((F _ hKb (nsK hns) hbt).run callerA [] s₁ H ⟨[.ref a],[]⟩ [.ref a] [.ref a] _ _ hr e0 (hbind s₁ (.ref a)) (.cons rfl .nil) (hsp H hS hT)) λr s' h=>?_;cases r with
  | error e=>exact(hCX H e s' h).elim
  | ok fl =>
   cases fl with
   | next=>exact False.elim h
   | brk=>exact False.elim h
   | cont=>exact False.elim h
   | ret u =>
    obtain⟨v,H',os,bare,un,Rk,r',q⟩:=h;have q':v=.bl true:=q;subst q';obtain rfl:u=Value.bool true:=r';have keep:∀ b o,b∉ts->s₁.heap.get? b≈o->s'.heap.get? b≈o:=λb o ZX e=>by
     cases q:H b with
     | none=>exact un.keep b o e q (by intro z;exact absurd (show b∈([]:τ)from z) (by simp)) (by simp)
     | some u =>
      rcases hA b (by rw[q];simp)with z | z
      ·subst z;obtain⟨_,ob,xs,z⟩:=hK (by rw[q];simp);have z2:=un.frzs b ob _ z;obtain⟨e1,_⟩:=hok b _ z;obtain⟨e2,_⟩:=Rk b _ z2;rw[e]at e1;cases e1;exact e2
      ·exact absurd z ZX
    have grown:∀ b o,b∈ts->s₁.heap.get? b≈o->isCodeTable s₁.heap b/\o=W.tabObj #[]/\∃ ps,s'.heap.get? b≈(W.tabObj ps):=λb o hb e=>by
     have e2:=hts b hb;obtain⟨c,hc⟩:=hcd b hb;obtain⟨more,hm⟩:=un.tbls b _ (hT b hb);have e3:s'.heap.get? b≈(W.tabObj (#[]++more)):=Rk b _ hm;rw[e]at e2;exact⟨(hc.tab (hts b hb)).isCodeTable,BQ e2,_,e3⟩
    refine⟨Y,⟨λb o e=>?_,λb o e=>?_⟩,os,bare⟩
    ·by_cases hb:b∈ts
     ·obtain⟨ht,rfl,ps,hP⟩:=grown b o hb e;exact .inr (.inl ⟨ht,Y,#[],ps,Y,by rw[Array.empty_append];exact hP⟩)
     ·exact .inl (keep b o hb e)
    ·by_cases hb:b∈ts
     ·obtain⟨_,_,ps,hP⟩:=grown b o hb e;exact⟨_,hP⟩
     ·exact⟨o,keep b o hb e⟩
 cases hk:K.lookup a with
 | some o =>
  have e:=KX a o hk;rw[ha]at e;cases e;refine core (λb=>if b∈ts then ↥(.tbl #[])else none) (.inr ⟨_,vs.toArray,_,hk,Y,Y,Y,by rw[Yn,lenV];exact hl,by simpa using rv⟩) (λb u z=>?_) (λb z=>?_) (λT hT=>if_pos hT) λz=>absurd (if_neg hat) z
  ·by_cases hb:b∈ts
   ·have z':=(if_pos hb).symm.trans z;cases z';exact hts b hb
   ·have z':=(if_neg hb).symm.trans z;cases z'
  ·by_cases hb:b∈ts
   ·exact .inr hb
   ·exact absurd (if_neg hb) z
 | none =>
  refine core (λb=>if b=a then ↥(.frz {cls:=.type "list",data:=.seq vs.toArray} (.lst (ns.map V.int)))else if b∈ts then ↥(.tbl #[])else none) (.inl (.inr ⟨{cls:=.type "list",data:=.seq vs.toArray},if_pos rfl⟩)) (λb u z=>?_) (λb z=>?_) (λT hT=>?_) λ_=>⟨hk,Q,if_pos rfl⟩
  ·by_cases hb:b=a
   ·have z':=(if_pos hb).symm.trans z;cases z';subst hb;exact⟨ha,by rw[Ya];exact hl,vs,_,rv,ha⟩
   ·have z':=(if_neg hb).symm.trans z;by_cases Fi:b∈ts
    ·have z2:=(if_pos Fi).symm.trans z';cases z2;exact hts b Fi
    ·have z2:=(if_neg Fi).symm.trans z';cases z2
  ·by_cases hb:b=a
   ·exact .inl hb
   ·by_cases Fi:b∈ts
    ·exact .inr Fi
    ·exact absurd ((if_neg hb).trans (if_neg Fi)) z
  ·show(if T=a then _ else _)=_;rw[if_neg (λz=>hat (by rw[<- z];exact hT)),if_pos hT]
def sC{K:Fg}{h:Heap}{T:ε}(X:K.In h)(hP:h.get? T≈(W.tabObj #[]))(hK:W.noTabs K=true):K.lookup T=none:=by
 cases q:K.lookup T with
 | none=>rfl
 | some o =>
  have e:=X T o q;rw[hP]at e;cases e;have h2:=Bv.mp hK (T,W.tabObj #[]) (W.mem_of_lookupK q);exact absurd (show false=true from h2) Yq
def walk_ofT{l:W.OpenLaw}{n k:Nat}{q:Γ}{loose:LS}{XP:(Str->OU)->Heap->Prop}{d:DefRec}{K:Params->Fg}{as:τ}{e:∀ P,as=(K P).map (·.1)}{ts:τ}{CX:World->F_}{sp:World->Sp}{x:Str}
  (hn:l.most≈n) (PX:n<=sizeLine) (hdf:d.params.defaults=[]) (hr:AV k callerA) (hNT:∀ w:World,W.noTabs (K w.params)=true)
  (F:∀(w:World) (mg:Str->OU) (fa:ε) (h:Heap),(K w.params).In h->h.Ns mainGlobals mg->mg d.name≈(.ref fa) ->
   (∀ T∈ts,∃ c,W.codeHdIn (K w.params) c T=true)/\∃ fd:FuncData,(∀(s:ω) (u:χ),BindsTo s fd ⟨[u],[]⟩ [(x,u)]) /\
    ∀ base:Heap,(K w.params).In base->base.Ns mainGlobals mg->(∀ T∈ts,mainGlobals≠T/\base.BuiltinsAt mg T)->Bi l.prog w (K w.params) mg base (CX w) k fa fd [x] (sp w))
  (hsp:∀(w:World) (H:Hp) (a:ε) (ns:ζ),↑ns<=n->SqL (K w.params) H a (ns.map V.int)->(∀ T∈ts,H T≈(.tbl #[]))->sp w [.ref a] H (λv _=>v=.bl true) λ_ _ _=>False)
  (hCX:∀(w:World) (H:Hp) (s:ω) (e:χ) (s':ω),CX w [] H s (λ_ _ _=>False) e s'->False):
  W.WalkO q loose XP (W.kmHook K as e ts).says l.row.toRowW d [] (λf vs=>PySem.call f vs):=by
 refine Att.attach_call hn hdf λw s₀ s₁ mg mb fa o pm cd doc a vs ns G Y ho hd hcd hmg hobj hints hlen hg=>?_;have KX:=W.km_in_of Y;obtain⟨hc,fd,hb,hF⟩:=F w mg fa _ KX G.T.g hmg;exact qZ ts (W.km_tabs_of Y) (λT hT=>let⟨c,z⟩:=hc T hT;⟨c,W.codeHd_of_K KX z⟩) (λT hT=>sC KX (W.km_tabs_of Y T hT) (hNT w)) G.T.bmain KX G.T.g G.T.b G.T.builtins G.T.nolimit hg hobj hints (A8 hlen PX) hr hF hb (λH hS hT=>hsp w H a ns hlen hS hT) λH e s'=>hCX w H s₁ e s'
end L2
namespace L2
open PySem PySem.W PySem.Spec PyProof.Rows
section
variable {X:Cx}{e:Expr}{te:TE}{pos:Pos}{k:Nat}
end
end L2
namespace Mb
open PySem L2
variable {P:Γ}{w:World}{K:Fg}{mg:Str->OU}{base:Heap}
def top(i:Nat):Stmt:=PySem.Challenge.pw_manydeeds_k26_whole_parted_by_two_lineup.main.body.getD i (.Pass ⟨0,0,0,0⟩)
abbrev Ii:Stmt:=top 21
abbrev Uh:Stmt:=top 22
abbrev Xs:Stmt:=IX (top 23) 0
abbrev Uc:Stmt:=IX (top 23) 1
abbrev Uq:Stmt:=IX (top 23) 2
abbrev Ub:Stmt:=IX (top 23) 3
abbrev L7:Stmt:=top 25
abbrev Nx:Stmt:=top 26
abbrev Kk:Stmt:=top 27
abbrev OR:Stmt:=top 28
abbrev Up:Stmt:=top 29
abbrev UJ:Stmt:=top 30
abbrev Nn:Stmt:=top 31
abbrev QR:Stmt:=top 33
abbrev Qj:Stmt:=top 34
abbrev Km:Stmt:=top 35
abbrev OK:Stmt:=top 36
abbrev Qa:Stmt:=top 38
abbrev QC:Stmt:=top 39
abbrev Nw:Stmt:=top 40
abbrev Qi:Stmt:=top 41
abbrev L_:Stmt:=top 42
abbrev N4:Stmt:=top 43
abbrev N3:Stmt:=top 49
abbrev Um:Stmt:=top 50
abbrev UW:Stmt:=top 51
abbrev OP:Stmt:=top 52
abbrev N2:Stmt:=top 53
abbrev UX:Stmt:=top 54
abbrev UU:Stmt:=top 55
abbrev Xt:Stmt:=IX (top 56) 0
abbrev UT:Stmt:=IX (top 56) 1
abbrev Qf:Stmt:=IX (top 56) 2
abbrev Ud:Stmt:=IX (top 56) 6
abbrev Uo:Stmt:=IX (top 56) 7
abbrev OM:Stmt:=IX (top 56) 8
abbrev QX:Stmt:=top 58
abbrev Hf:Stmt:=top 59
abbrev OQ:Stmt:=top 60
abbrev F5:Stmt:=top 61
abbrev Ul:Stmt:=top 62
abbrev L3:Stmt:=top 63
abbrev OG:Stmt:=top 64
abbrev Ua:Stmt:=top 65
abbrev OJ:Stmt:=top 66
abbrev OO:Stmt:=top 67
abbrev Uj:Stmt:=top 68
abbrev Uk:Stmt:=top 69
abbrev Qh:Stmt:=top 70
abbrev Us:Stmt:=top 71
abbrev ON:Stmt:=top 72
abbrev Qg:Stmt:=top 73
abbrev L9:Stmt:=top 74
abbrev Ur:Stmt:=top 75
abbrev OE:Stmt:=top 76
abbrev Ui:Stmt:=top 77
abbrev Ug:Stmt:=top 78
abbrev JW:Stmt:=top 79
abbrev Qd:Stmt:=top 80
abbrev OF:Stmt:=top 81
abbrev OI:Stmt:=top 82
abbrev Ut:Stmt:=top 83
abbrev Ue:Stmt:=top 84
abbrev Pz:Stmt:=top 85
end Mb
namespace Mb
open PySem L2 Md
variable {P:Γ}{w:World}{K:Fg}{mg:Str->OU}{base:Heap}
structure Xx(K:Fg)(mg:Str->OU)(D:ε):Prop where
 m:mg "DeedError"≈(.ref D)
 ex:ExC K D
 cl:W.isClsIn K D=true
 ty:W.typeIn K (.ref D)≈(.type "type")
structure bN(K:Fg)(mg:Str->OU)(Ds:Nat->ε):Prop where
 m0:mg "NoKind"≈(.ref (Ds 0))
 m1:mg "Twice"≈(.ref (Ds 1))
 m2:mg "NoName"≈(.ref (Ds 2))
 m3:mg "Ring"≈(.ref (Ds 3))
 m4:mg "NoDeed"≈(.ref (Ds 4))
 m5:mg "Same"≈(.ref (Ds 5))
 m6:mg "NoText"≈(.ref (Ds 6))
 m7:mg "TooMany"≈(.ref (Ds 7))
 m8:mg "NoBoard"≈(.ref (Ds 8))
 m9:mg "NoCall"≈(.ref (Ds 9))
 m10:mg "NoLine"≈(.ref (Ds 10))
 m11:mg "NoPlace"≈(.ref (Ds 11))
 m12:mg "NoWeights"≈(.ref (Ds 12))
 m13:mg "NoTerm"≈(.ref (Ds 13))
 m14:mg "NoRow"≈(.ref (Ds 14))
 cl:∀ k,k<15->W.isClsIn K (Ds k)=true
 ty:∀ k,k<15->W.typeIn K (.ref (Ds k))≈(.type "type")
structure YI(K:Fg)(D:ε)(Ds:Nat->ε)(i:Nat):Prop where
 ex:K6 K (Ds i)
 sub:W.subIn K (.ref (Ds i)) (.ref D)≈true
 one:∀ k,k<15->W.subIn K (.ref (Ds i)) (.ref (Ds k))≈(decide (k=i))
def YK{P:Nat->Prop}(h0:P 0)(h1:P 1)(h2:P 2)(h3:P 3)(h4:P 4)(h5:P 5)(h6:P 6)(h7:P 7)(h8:P 8)(h9:P 9)(KD:P 10)(BB:P 11)(nQ:P 12)(S8:P 13)(nO:P 14):∀ k,k<15->P k:=λk h=>by
 rcases k with _ | _ | _ | _ | _ | _ | _ | _ | _ | _ | _ | _ | _ | _ | _ | k
 ·exact h0
 ·exact h1
 ·exact h2
 ·exact h3
 ·exact h4
 ·exact h5
 ·exact h6
 ·exact h7
 ·exact h8
 ·exact h9
 ·exact KD
 ·exact BB
 ·exact nQ
 ·exact S8
 ·exact nO
 ·omega
def ay(a0 a1 a2 a3 a4 a5 a6 a7 a8 a9 WL WK WJ Pq WI:ε):Nat->ε
 | 0=>a0 | 1=>a1 | 2=>a2 | 3=>a3 | 4=>a4 | 5=>a5 | 6=>a6 | 7=>a7 | 8=>a8 | 9=>a9 | 10=>WL | 11=>WK | 12=>WJ | 13=>Pq | _=>WI
abbrev TJ(i:Nat):List Bool:=(List.range 15).map λk=>decide (k=i)
def qR:∀ i,i<15->(TJ i).countP (· == true)=1:=by rfl'
def pB{i p:Nat}(hp:p<15):((TJ i).map V.bl)[p]?≈(.bl (decide (p=i))):=by
 rw[Yh,Yh,JZ hp];rfl
def cQ(K:Fg)(D:ε)(Ds:Nat->ε):Sp:=λvs H Q _=>∃(e:ε) (i p:Nat) (dx:Option ε),vs=[.ref e,.int p]/\H e≈(XO e (Ds i) dx)/\NS H dx/\YI K D Ds i/\i<15/\p<15/\∀ H',AA H H'->Q (.bl (decide (p=i))) H'
abbrev lV:LS:=["e","place","some"]
def iZ:Ad lV ["e","place"] (AJ Uj):=by nofun
def oW{Ds:Nat->ε}(F:Def K mg "_law_alone" Uj ["e","place"] f fd)(TD:Xx K mg D)(TF:bN K mg Ds)(isi:mg "isinstance"=none)(vr:mg "ValueError"=none):⋯ 1 f fd ["e","place"] (cQ K D Ds):=by
 nomatch F.fn.ok iZ
 ·obtain⟨e,i,p,dx,rfl,_⟩:=h;rfl
 ·obtain⟨e,i,p,dx,rfl,hx,hd,O,mC,lF,q⟩:=h;have nd:=iZ.nd;have one:∀ k,k<15->W.kitOne K (.ref (Ds i)) (.ref (Ds k))≈(decide (k=i)):=λk hk=>dh (TF.cl k hk) (TF.ty k hk) O.ex.toExC (O.one k hk)
  ac_nf
  refine'⟨_,pS (sE 2 nd (CI (pC ?a0 (pC ?a1 (pC ?a2 (pC ?a3 (pC ?a4 (pC ?a5 (pC ?a6 (pC ?a7 (pC ?a8 (pC ?a9 (pC ?WL (pC ?WK (pC ?WJ (pC ?Pq (pC ?WI AB)))))))))))))))))
   (pS (Ae (PW.pt (JO (Bs (BZ ?b1)) (KU (Bs (BZ ?b2))))) (AG (AS Bg)) Af) (AG (AS (Ng ?c1 (Ni ?c2))))),?_⟩
  case a0=>exact Aa EE (by rfl) isi Ys (pC (pv 0) (pC (Cv (v:=.ref (Ds 0)) (by rfl) TF.m0 rfl) AB))
  case a1=>exact Aa EE (by rfl) isi Ys (pC (pv 0) (pC (Cv (v:=.ref (Ds 1)) (by rfl) TF.m1 rfl) AB))
  case a2=>exact Aa EE (by rfl) isi Ys (pC (pv 0) (pC (Cv (v:=.ref (Ds 2)) (by rfl) TF.m2 rfl) AB))
  case a3=>exact Aa EE (by rfl) isi Ys (pC (pv 0) (pC (Cv (v:=.ref (Ds 3)) (by rfl) TF.m3 rfl) AB))
  case a4=>exact Aa EE (by rfl) isi Ys (pC (pv 0) (pC (Cv (v:=.ref (Ds 4)) (by rfl) TF.m4 rfl) AB))
  case a5=>exact Aa EE (by rfl) isi Ys (pC (pv 0) (pC (Cv (v:=.ref (Ds 5)) (by rfl) TF.m5 rfl) AB))
  case a6=>exact Aa EE (by rfl) isi Ys (pC (pv 0) (pC (Cv (v:=.ref (Ds 6)) (by rfl) TF.m6 rfl) AB))
  case a7=>exact Aa EE (by rfl) isi Ys (pC (pv 0) (pC (Cv (v:=.ref (Ds 7)) (by rfl) TF.m7 rfl) AB))
  case a8=>exact Aa EE (by rfl) isi Ys (pC (pv 0) (pC (Cv (v:=.ref (Ds 8)) (by rfl) TF.m8 rfl) AB))
  case a9=>exact Aa EE (by rfl) isi Ys (pC (pv 0) (pC (Cv (v:=.ref (Ds 9)) (by rfl) TF.m9 rfl) AB))
  case WL=>exact Aa EE (by rfl) isi Ys (pC (pv 0) (pC (Cv (v:=.ref (Ds 10)) (by rfl) TF.m10 rfl) AB))
  case WK=>exact Aa EE (by rfl) isi Ys (pC (pv 0) (pC (Cv (v:=.ref (Ds 11)) (by rfl) TF.m11 rfl) AB))
  case WJ=>exact Aa EE (by rfl) isi Ys (pC (pv 0) (pC (Cv (v:=.ref (Ds 12)) (by rfl) TF.m12 rfl) AB))
  case Pq=>exact Aa EE (by rfl) isi Ys (pC (pv 0) (pC (Cv (v:=.ref (Ds 13)) (by rfl) TF.m13 rfl) AB))
  case WI=>exact Aa EE (by rfl) isi Ys (pC (pv 0) (pC (Cv (v:=.ref (Ds 14)) (by rfl) TF.m14 rfl) AB))
  case b1=>exact Aa EE (by rfl) isi Ys (pC (pv 0) (pC (Cv (v:=.ref D) (by rfl) TD.m rfl) AB))
  case b2=>exact Aa EE (by rfl) isi Ys (pC (pv 0) (pC (JR (v:=.ty "ValueError") (by rfl) vr (by rfl') rfl) AB))
  case c1=>exact Ha Cs (Ct Yz PySem.F.slot_list_count PySem.F.type_list_count qe (pv 2) (pC Bg AB)) AE (Ai _)
  case c2=>exact AN Ak (pv 2) (pv 1) (λ_ _=>rfl)
  exists let b:=AF _ a;AF _ b _ _ _
  refine⟨Z,e,Ds i,dx,Q,Z,Y,λu z=>z,hx,hd,O.ex,one 0 (by decide),?_⟩;refine⟨Z,e,Ds i,dx,Q,Z,Y,λu z=>z,hx,hd,O.ex,one 1 (by decide),?_⟩;refine⟨Z,e,Ds i,dx,Q,Z,Y,λu z=>z,hx,hd,O.ex,one 2 (by decide),?_⟩;refine⟨Z,e,Ds i,dx,Q,Z,Y,λu z=>z,hx,hd,O.ex,one 3 (by decide),?_⟩;refine⟨Z,e,Ds i,dx,Q,Z,Y,λu z=>z,hx,hd,O.ex,one 4 (by decide),?_⟩;refine⟨Z,e,Ds i,dx,Q,Z,Y,λu z=>z,hx,hd,O.ex,one 5 (by decide),?_⟩;refine⟨Z,e,Ds i,dx,Q,Z,Y,λu z=>z,hx,hd,O.ex,one 6 (by decide),?_⟩;refine⟨Z,e,Ds i,dx,Q,Z,Y,λu z=>z,hx,hd,O.ex,one 7 (by decide),?_⟩;refine⟨Z,e,Ds i,dx,Q,Z,Y,λu z=>z,hx,hd,O.ex,one 8 (by decide),?_⟩;refine⟨Z,e,Ds i,dx,Q,Z,Y,λu z=>z,hx,hd,O.ex,one 9 (by decide),?_⟩;refine⟨Z,e,Ds i,dx,Q,Z,Y,λu z=>z,hx,hd,O.ex,one 10 (by decide),?_⟩;refine⟨Z,e,Ds i,dx,Q,Z,Y,λu z=>z,hx,hd,O.ex,one 11 (by decide),?_⟩;refine⟨Z,e,Ds i,dx,Q,Z,Y,λu z=>z,hx,hd,O.ex,one 12 (by decide),?_⟩;refine⟨Z,e,Ds i,dx,Q,Z,Y,λu z=>z,hx,hd,O.ex,one 13 (by decide),?_⟩;refine⟨Z,e,Ds i,dx,Q,Z,Y,λu z=>z,hx,hd,O.ex,one 14 (by decide),?_⟩;refine⟨sL (by show 15<=100000;decide),λl hl=>?_⟩;have s1:AA H (upd H l (.lst ((TJ i).map V.bl))):=B1 hl;have NF:=s1 _ _ hx;have aX:=AA.xdict hd s1;refine⟨Z,e,Ds i,dx,Q,Z,Y,λu z=>z,NF,aX,O.ex,dh TD.cl TD.ty O.ex.toExC O.sub,Z,?_⟩;refine Ap ⟨Z,e,Ds i,dx,Q,Z,Y,λu z=>z,NF,aX,O.ex,qx O.ex.toExC,Z,Ap ?_⟩;refine⟨Z,.inl ⟨Y,_,SqL.of uS⟩,l,TJ i,true,Y,Y,uS,Y,Z,?_⟩;rw[qR i mC];exact CG ⟨Z,Z,l,_,p,.bl (decide (p=i)),Y,Y,SqL.of uS,DB (pB lF),q _ s1⟩
def YN(K:Fg):Sp:=λvs H Q _=>∃(a:ε) (k:Int) (ns:ζ),vs=[.ref a,.int k]/\SqL K H a (ns.map V.int)/\↑ns<=100/\0<=k/\k<=1000/\∀ p o,H p=none->Er o->Q (.ref p) (upd H p o)
def KY:Sp:=λvs H Q _=>∃(p:ε) (m:Int) (o:HO),vs=[.ref p,.int m]/\H p≈o/\Er o/\0<m/\m<4611686018427387904/\∀(v:Int) o',0<=v->v<m->Er o'->Q (.int v) (upd H p o')
def fu:Sp:=λvs H Q _=>∃ n:Nat,vs=[.int n]/\n<26 ^ 8/\Q (.str (Ez n)) H
def P0:Ad ["script","k","cell","rest"] ["script","k"] (AJ QX):=by nofun
def WO:(10:Int) ^ (64:Int).toNat * 10 ^ (64:Int).toNat * 10 ^ (64:Int).toNat * 10 ^ (64:Int).toNat=10 ^ 256:=by rfl'
def wL(F:Def K mg "_law_pot" QX ["script","k"] f fd)(len:mg "len"=none):⋯ 1 f fd ["script","k"] (YN K):=by
 nomatch F.fn.ok P0
 ·obtain⟨a,k,ns,rfl,_⟩:=h;rfl
 ·obtain⟨a,k,ns,rfl,hS,hl,CV,Ei,q⟩:=h;refine⟨_,pS (Bt (i:=2) P0.nd rfl (Or.inl rfl) AE)
   (Ka (Ae (Al Pw (pv 1) (Aa Hd (by rfl) len Yy (pC (pv 0) AB)) (Ai _))
    (AG (Bt (i:=2) P0.nd rfl (Or.inl rfl) (Aj HY (AN Ak (pv 0) (pv 1) (λ_ _=>rfl))
     (Aj Wt (Aj Wt (Aj Wt (Aj Nc AE AE) (Aj Nc AE AE)) (Aj Nc AE AE)) (Aj Nc AE AE))))) Af)
   (pS (Bt (i:=3) P0.nd rfl (Or.inl rfl) AE)
   (Ka (Ae (Al jK (pv 2) (Aj Nc AE AE) (Ai _)) (AG (Bt (i:=3) P0.nd rfl (Or.inl rfl) (pv 2))) Af)
   (AG (AS (CI (pC (pv 3) (pC (Aj HY (Aj Tb (Aj F2 (Aj F2 (Aj HY (pv 2) AE) (Aj Tb AE (pv 1))) AE) AE) AE) AB)))))))),?_⟩
  refine⟨λσ' H'=>H'=H/\∃ c:Int,0<=c/\c<10 ^ 256/\σ'=[↥(.ref a),↥(.int k),↥(.int c),none],?_,?_⟩
  ·refine⟨Z,Z,_,Z,.inl ⟨_,hS,Y⟩,_,Z,Y,Z,?_⟩;refine A2 (λh1=>?_) (λh1=>?_)
   ·have h1:k<(↑(ns.map V.int):Int):=Je h1;rw[Ya]at h1;have hi:k.toNat<↑ns:=by omega
    have hat:BC (ns.map V.int) k≈(V.int ns[k.toNat]):=by
     have e:(ns.map V.int)[k.toNat]?≈(V.int ns[k.toNat]):=by rw[Yh,Yb hi];rfl
     have:=DB e
     rwa [G0 CV]at this
    refine⟨Z,Z,Q,_,Z,Y,hS,hat,_,Z,Y,⟨V,V,by rfl'⟩,_,Z,Y,⟨V,V,by rfl'⟩,_,Z,Y,⟨by rfl',by rfl'⟩,
     _,Z,Y,⟨V,V,by rfl'⟩,_,Z,Y,⟨by rfl',by rfl'⟩,_,Z,Y,⟨V,V,by rfl'⟩,_,Z,Y,⟨by rfl',by rfl'⟩,_,Z,Y,?_,Y,_,?_,?_,Y⟩
    ·show(0:Int)<_;rw[WO];rfl'
    ·rw[WO];exact MN _ (by rfl')
    ·rw[WO];exact MY _ (by rfl')
   ·exact⟨Y,0,V,by rfl',Y⟩
  ·rintro σ' H' ⟨rfl,c,mr,FH,rfl⟩;refine⟨λσ2 H2=>H2=H'/\∃ r:Int,0<=r/\r<10 ^ 256/\σ2=[↥(.ref a),↥(.int k),↥(.int c),↥(.int r)],?_,?_⟩
   ·refine⟨Z,_,Z,Y,⟨V,V,by rfl'⟩,_,Z,Y,Z,?_⟩;refine A2 (λh1=>?_) (λh1=>?_)
    ·exact⟨Z,Y,c,mr,FH,Y⟩
    ·exact⟨Y,0,V,by rfl',Y⟩
   ·rintro σ2 H2 ⟨rfl,r,HE,Ac,rfl⟩;have m0:=MN c (b:=2147483629) (by decide);have m1:=MY c (b:=2147483629) (by decide);refine⟨Z,Z,_,Z,Y,(by show(0:Int)<2147483629;decide),Z,_,Z,Y,.inl ⟨V,V⟩,_,Z,Y,_,Z,Y,_,Z,Y,.inr ⟨V,V⟩,_,Z,Y,(by show(0:Int)<2147483647;decide),U,λp hp=>?_⟩;refine q p _ hp ⟨r,Z,HE,Ac,MN _ (by decide),MY _ (by decide)⟩
def j4:Ad ["pot","many","found"] ["pot","many"] (AJ Hf):=by nofun
def QH(F:Def K mg "_law_take" Hf ["pot","many"] f fd):⋯ 1 f fd ["pot","many"] KY:=by
 nomatch F.fn.ok j4
 ·obtain⟨p,m,o,rfl,_⟩:=h;rfl
 ·obtain⟨p,m,o,rfl,hp,⟨r,b,rfl,HE,Ac,Sy,Lb⟩,JH,LX,q⟩:=h;refine⟨_,pS (Ae (Al Pu (AN Ak (pv 0) AE (λ_ _=>rfl)) AE (Ai _))
    (pS (Bt (i:=2) j4.nd rfl (Or.inl rfl) (Aj HY (AN Ak (pv 0) AE (λ_ _=>rfl)) (pv 1)))
    (pS (Td (Aj p6 (AN Ak (pv 0) AE (λ_ _=>rfl)) (pv 1)) (WW (pv 0) AE XE)) (AG (AS (pv 2))))) Af)
   (pS (Td (Aj HY (Aj F2 (Aj Tb (AN Ak (pv 0) AE (λ_ _=>rfl)) AE) AE) AE) (WW (pv 0) AE XE))
   (AG (AS (Aj HY (Aj Ws (Aj HY (Aj Tb (AN Ak (pv 0) AE (λ_ _=>rfl)) (AN Ak (pv 0) AE (λ_ _=>rfl))) AE) AE) (pv 1))))),?_⟩
  refine⟨Z,p,Q,Z,Y,SqL.of hp,Y,_,Z,Y,Z,?_⟩;refine A2 (λh1=>?_) (λh1=>?_)
  ·refine⟨Z,p,Q,Z,Y,SqL.of hp,Y,Z,_,Z,Y,JH,?_⟩;refine⟨Z,p,Q,Z,Y,SqL.of hp,Y,Z,_,Z,Y,⟨JH,LX⟩,?_⟩;refine⟨Z,p,Q,0,Y,Y,hp,Y,Z,?_⟩;have h1:0<r:=Je h1;exact q _ _ (MN _ (by omega)) (MY _ JH) ⟨r / m,b,Y,Int.ediv_nonneg HE (by omega),Int.lt_of_le_of_lt (Int.ediv_le_self _ HE) Ac,Sy,Lb⟩
  ·refine⟨Z,p,Q,Z,Y,SqL.of hp,Y,_,Z,Y,.inr ⟨V,V⟩,_,Z,Y,_,Z,Y,(by show(0:Int)<2147483647;decide),?_⟩;refine⟨Z,p,Q,1,Y,Y,hp,Y,?_⟩;have m0:=MN (b * 69621 + 12345) (b:=2147483647) (by decide);have m1:=MY (b * 69621 + 12345) (b:=2147483647) (by decide);refine⟨Z,p,Q,Z,Y,SqL.of uS,Y,Z,p,Q,Z,Y,SqL.of uS,Y,_,Z,Y,.inl ⟨W,W⟩,_,Z,Y,(by show(0:Int)<2147483629;decide),_,Z,Y,⟨V,V⟩,Z,_,Z,Y,JH,?_⟩;exact q _ _ (MN _ (by omega)) (MY _ JH) ⟨r,Z,HE,Ac,m0,m1⟩
def jW:Ad ["number","word"] ["number"] (AJ OQ):=by nofun
def tN(F:Def K mg "_law_letters" OQ ["number"] f fd):⋯ 1 f fd ["number"] fu:=by
 nomatch F.fn.ok jW
 ·obtain⟨n,rfl,_⟩:=h;rfl
 ·obtain⟨n,rfl,hn,q⟩:=h;have nd:=jW.nd;refine⟨_,pS (sE 1 nd FQ)
   (pS (Kg Bb (JO (Al Cs (pv 1) FQ (Ai _)) (KU (Al Pu (pv 0) AE (Ai _)))).pt
    (pS (sE 1 nd (Aj UO (pv 1) (AN vo FQ (Aj HY (pv 0) AE) (λ_ _=>rfl))))
    (AG (sE 0 nd (Aj Ws (pv 0) AE)))))
   (AG (AS (pv 1)))),?_⟩
  have e0:("":Str).cps.toList=[]:=by rfl'
  have hlen:↑(Dg n)<=8:=Xr 7 n hn;refine⟨λm σ H2=>H2=H/\∃(x:Str) (k:Nat),σ=[↥(.int k),↥(.str x)]/\m=k + (if x.cps.toList=[]then 1 else 0) /\
   ((x.cps.toList=[]/\k=n)\/(x.cps.toList≠[]/\k=0/\x.cps.toList=Dg n)\/(x.cps.toList≠[]/\0<k/\x.cps.toList++Dg k=Dg n)),⟨Z,_,n,Y,Y,.inl ⟨e0,Y⟩⟩,?_⟩
  rintro m σ H2 ⟨rfl,x,k,rfl,rfl,inv⟩;have more:(x.cps.toList=[]\/0<k)->∃ N:SW,(∀ σ' H',N σ' H'->∃ m',m'<k + (if x.cps.toList=[]then 1 else 0)/\(H'=H2/\∃(y:Str) (j:Nat),σ'=[↥(.int j),↥(.str y)]/\m'=j + (if y.cps.toList=[]then 1 else 0) /\
    ((y.cps.toList=[]/\j=n)\/(y.cps.toList≠[]/\j=0/\y.cps.toList=Dg n)\/(y.cps.toList≠[]/\0<j/\y.cps.toList++Dg j=Dg n)))) /\
    N [↥(.int ((k:Int) / 26)),↥(.str (x++⟨#[97 + k % 26]⟩))] H2:=λhk=>by
   refine⟨λσ' H'=>σ'=[↥(.int ((k:Int) / 26)),↥(.str (x++⟨#[97 + k % 26]⟩))]/\H'=H2,?_,Y,Y⟩;rintro σ' H' ⟨rfl,rfl⟩;have el:(x++⟨#[97 + k % 26]⟩:Str).cps.toList=x.cps.toList++[97 + k % 26]:=cz _ _;have ne:(x++⟨#[97 + k % 26]⟩:Str).cps.toList≠[]:=by rw[el];simp
   have kd:((k:Int) / 26)=((k / 26:Nat):Int):=by omega
   have whole:(x.cps.toList++[97 + k % 26])++(if k / 26=0 then[]else Dg (k / 26))=Dg n:=by
    rw[OY,List.singleton_append,<- OL]
    rcases inv with⟨h1,h2⟩ | ⟨h1,h2,_⟩ | ⟨_,_,h3⟩
    ·rw[h1,h2];rfl
    ·rcases hk with z | z
     ·exact absurd z h1
     ·omega
    ·exact h3
   refine⟨k / 26,?_,Y,_,k / 26,by rw[kd],by rw[if_neg ne];rfl,?_⟩
   ·rcases hk with z | z
    ·rw[if_pos z];omega
    ·have:k / 26<k:=by omega
     omega
   ·right;rw[el];by_cases z:k / 26=0
    ·rw[if_pos z,Eb]at whole;exact .inl ⟨by simp,z,whole⟩
    ·rw[if_neg z]at whole;exact .inr ⟨by simp,W,whole⟩
  have xlen:↑x<=8:=by
   rw[<- Ib]
   rcases inv with⟨h1,_⟩ | ⟨_,_,h3⟩ | ⟨_,_,h3⟩
   ·rw[h1];simp
   ·rw[h3];exact hlen
   ·have:=congrArg List.length h3;rw[Bw]at this;omega
  have KI:BC letters.cps.toList ((k:Int) % 26)≈(97 + k % 26):=by
   have:=DB (sA (i:=k % 26) (by omega));have e:((k % 26:Nat):Int)=(k:Int) % 26:=by omega
   rwa [e]at this
  refine⟨Z,Y,Z,?_⟩;refine A2 (λh1=>?_) (λh1=>?_)
  ·have hx:x.cps.toList=[]:=by
    have:=Je h1;injection this with this;rw[this];exact e0
   obtain⟨N,hN,n0⟩:=more (.inl hx);refine CG ⟨N,hN,?_⟩;exact⟨Z,Z,_,Z,Y,(by show(0:Int)<26;decide),Q,Z,Y,sL (by rw[<- Ib,UN];decide),KI,_,Z,Y,sL (by rw[bg];omega),Z,_,Z,Y,⟨V,V⟩,n0⟩
  ·have hx:x.cps.toList≠[]:=λz=>h1 (Jb (by rw[cj (z.trans e0.symm)]));refine⟨Z,_,Z,Y,Z,?_⟩;refine A2 (λh2=>?_) (λh2=>?_)
   ·have hk:0<k:=by have:(0:Int)<(k:Int):=Je h2;omega
    obtain⟨N,hN,n0⟩:=more (.inr hk);refine⟨N,hN,?_⟩;exact⟨Z,Z,_,Z,Y,(by show(0:Int)<26;decide),Q,Z,Y,sL (by rw[<- Ib,UN];decide),KI,_,Z,Y,sL (by rw[bg];omega),Z,_,Z,Y,⟨V,V⟩,n0⟩
   ·have hk:k=0:=by
     have:¬ (0:Int)<(k:Int):=λz=>h2 (Jb z);omega
    have hf:x=Ez n:=by
     refine cj ?_;rw[Xo]
     rcases inv with⟨h1,_⟩ | ⟨_,_,h3⟩ | ⟨_,h2,_⟩
     ·exact absurd h1 hx
     ·exact h3
     ·omega
    rw[hf];exact⟨Z,q⟩
structure P9(ws:LS):Prop where
 word:∀ x∈ws,BD x=true
 nd:ws.Nodup
def Wa:Sp:=λvs H Q _=>∃(p a:ε) (ws:LS),vs=[.ref p,.ref a]/\p≠a/\(∃ o,H p≈o/\Er o)/\H a≈(.lst (ws.map V.str))/\P9 ws/\↑ws<=24 /\
 ∀ x H',Drawn p H H'->BD x=true->x∉ws->Q (.str x) H'
def cf:Sp:=λvs H Q _=>∃(p:ε) (m:Nat),vs=[.ref p,.int m]/\(∃ o,H p≈o/\Er o)/\m<=24 /\
 ∀ l (ws:LS) H',Drawn p H H'->H l=none->H' l≈(.lst (ws.map V.str))->P9 ws->↑ws=m->Q (.ref l) H'
def KW:LS:=["kind","under","name","deed","gives","with","none","clash","a","ab","abc","abcdefgh","even"]
def rY:KW.all BD=true:=by rfl'
def We{ws:LS}{v:Int}(h0:0<=v)(h1:v<↑ws):∃ x,x∈ws/\BC (ws.map V.str) v≈(.str x):=by
 have hi:v.toNat<↑ws:=by omega
 have e:(ws.map V.str)[v.toNat]?≈(V.str ws[v.toNat]):=by rw[Yh,Yb hi];rfl
 have:=DB e;rw[G0 h0]at this;exact⟨_,K3 hi,this⟩
def gQ(ws:LS):(!C8 (.list (ws.map W.Dat.str)) (.list []))=true↔ws≠[]:=by
 cases ws with
 | nil=>simp[Ey]
 | cons w r =>
  rw[IV (by simp)];simp
def WS{ws:LS}(h:∀ x∈ws,BD x=true):W.kqdOk 9 (.list (ws.map W.Dat.str))=true:=by
 show(ws.map W.Dat.str).all (W.kqdOk 8)=true;rw[Bv];intro d hd;obtain⟨x,hx,e⟩:=Yk.mp hd;rw[<- e];exact QG (h x hx)
def j5:Ad ["pot","words","some","way","word","number"] ["pot","words"] (AJ F5):=by nofun
def gy{x y:Str}{n:Nat}(hn:1<=n)(h:y.cps.toList=x.cps.toList.take n)(h1:1<=↑x)(h8:↑x<=8\/n<=8)(hl:∀ c∈x.cps.toList,HU c=true):BD y=true:=by
 rw[Kl,h,BU,Ib];refine⟨⟨W,W⟩,λc hc=>hl c (Kw hc)⟩
def aV:List Stmt->Stmt
 | s :: _=>s
 | []=>.Pass ⟨0,0,0,0⟩
def O0:TE:=X_ (λ_ H Q=>Q (KW.map V.str) H)
def CU:Stmt:=aV (CM F5)
def Pq:∃ es c p0 p1 p2,CU=.Assign [.Name ("some":Str) p0] (.Tuple es c p1) p2/\P8 es≈KW:=⟨Q,Q,Z,by rfl'⟩
def yK{X:Cx}{st:Stmt}{i:Nat}{x:Str}{ws:LS}(h:∃ es c p0 p1 p2,st=.Assign [.Name x p0] (.Tuple es c p1) p2/\P8 es≈ws)(hN:X.N.Nodup)(hi:X.N[i]?≈x)(hx:Loc X.env.scope x)(hf:X.fn x=true\/X.env.scope.names.lookup x≈.local):PS X st (JX (X_ (λ_ H Q=>Q (ws.map V.str) H)) (C_ i)):=by
 obtain⟨es,c,p0,p1,p2,rfl,h⟩:=h;exact Bt hN hi hx (Ca (q9 h)) rfl hf
def vG{X:Cx}(hN:X.N.Nodup)(hi:X.N[2]?≈("some":Str))(hx:Loc X.env.scope ("some":Str))(hf:X.fn ("some":Str)=true\/X.env.scope.names.lookup ("some":Str)≈NameKind.local):PS X CU (JX O0 (C_ 2)):=
 @yK X CU 2 ("some":Str) KW Pq hN hi hx hf
def VT:List Stmt->List Stmt
 | _ :: r=>r
 | []=>[]
def wg{X:Cx}{l:List Stmt}{t u:TS}(h0:l.isEmpty=false)(h1:PS X (aV l) t)(h2:CB X (VT l) u):CB X l (AF t u):=by
 cases l with
 | nil=>cases h0
 | cons a r=>exact pS h1 h2
def O7:(CM F5).isEmpty=false:=by rfl'
def we{X:Cx}{u:TS}(hN:X.N.Nodup)(hi:X.N[2]?≈("some":Str))(hx:Loc X.env.scope ("some":Str))(hf:X.fn ("some":Str)=true\/X.env.scope.names.lookup ("some":Str)≈NameKind.local)(h2:CB X (VT (CM F5)) u):CB X (CM F5) (AF (JX O0 (C_ 2)) u):=
 @wg X (CM F5) (JX O0 (C_ 2)) u O7 (@vG X hN hi hx hf) h2
def u9{X:Cx}{D:HJ}{σ:St}{H:Hp}(hN:X.N.Nodup)(hi:X.N[2]?≈("some":Str))(hx:Loc X.env.scope ("some":Str))(hf:X.fn ("some":Str)=true\/X.env.scope.names.lookup ("some":Str)≈NameKind.local)
  (h:∃ u,CB X (VT (CM F5)) u/\AF (JX O0 (C_ 2)) u D σ H):∃ t,CB X (CM F5) t/\t D σ H:=by
 obtain⟨u,h1,h2⟩:=h;exact⟨AF (JX O0 (C_ 2)) u,@we X u hN hi hx hf h1,h2⟩
def cO(F:Def K mg "_law_word" F5 ["pot","words"] f fd)(DT:Def K mg "_law_take" Hf ["pot","many"] fT fdT)(DL:Def K mg "_law_letters" OQ ["number"] fL fdL)(len:mg "len"=none):
  ⋯ 2 f fd ["pot","words"] Wa:=by
 have GT:⋯ 1 fT fdT ["pot","many"] KY:=QH DT;have GL:⋯ 1 fL fdL ["number"] fu:=tN DL
 nomatch F.fn.ok j5
 ·obtain⟨p,a,ws,rfl,_⟩:=h;rfl
 ·obtain⟨p,a,ws,rfl,hpa,hpot,ha,hw,hl24,q⟩:=h;have nd:=j5.nd;have hu:=hr.units;refine @u9 _ _ _ _ nd rfl (Or.inl rfl) (Or.inl rfl) ?_;refine⟨_,(pS (sE 3 nd (AO DT GT hr (pC (pv 0) (pC AE AB))))
   (pS (sE 4 nd (AN A0 (pv 2) (AO DT GT hr (pC (pv 0) (pC AE AB))) (λ_ _=>rfl)))
   (Ka (Ae (Al Cs (pv 3) AE (Ai _)) (AG (sE 4 nd (AO DL GL hr (pC (AO DT GT hr (pC (pv 0) (pC (Aj Nd (Aj Nc AE AE) AE) AB))) AB)))) Af)
   (Ka (Ae (Te (Al Cs (pv 3) AE (Ai _)) (Tx (Al (IT hu) (pv 1) (CI AB) (Ai _)))).pt
    (pS (sE 4 nd (AN Ak (pv 1) (AO DT GT hr (pC (pv 0) (pC (Aa Hd (by rfl) len Yy (pC (pv 1) AB)) AB))) (λ_ _=>rfl)))
    (AG (sE 4 nd (Ic Wc (Aj UO (pv 4) (AO DL GL hr (pC (AO DT GT hr (pC (pv 0) (pC AE AB))) AB))) IZ (Ia AE))))) Af)
   (Ka (Ae (Te (Al Cs (pv 3) AE (Ai _)) (Tx (Al (IT hu) (pv 1) (CI AB) (Ai _)))).pt
    (pS (sE 4 nd (AN Ak (pv 1) (AO DT GT hr (pC (pv 0) (pC (Aa Hd (by rfl) len Yy (pC (pv 1) AB)) AB))) (λ_ _=>rfl)))
    (AG (sE 4 nd (Ic Wc (pv 4) IZ (Ia (Aj F2 AE (AO DT GT hr (pC (pv 0) (pC (Aa Hd (by rfl) len Yy (pC (pv 4) AB)) AB))))))))) Af)
   (pS (sE 5 nd AE)
   (pS (Kg Bb (Al UH (pv 4) (pv 1) (by with_unfolding_all rfl))
    (pS (sE 4 nd (AO DL GL hr (pC (pv 5) AB)))
    (AG (sE 5 nd (Aj F2 (pv 5) AE)))))
   (AG (AS (pv 4)))))))))),?_⟩
  have hap:a≠p:=Yx hpa;obtain⟨o0,EB,FF⟩:=hpot;have wl:∀ {H':Hp},Drawn p H H'->SqL K H' a (ws.map V.str):=λd=>SqL.of (d.keep _ _ hap ha);refine⟨sL (by show 13<=100000;decide),λt ht=>?_⟩;have d1:Drawn p H (upd H t (.tup (KW.map V.str))):=(Drawn.refl ⟨o0,EB,FF⟩).new ht;have tp:t≠p:=λe=>by rw[e,EB]at ht;cases ht
  refine⟨Z,p,4,o0,Y,(by rw[AD (Yx tp)];exact EB),FF,V,V,λway o1 hw0 JD DQ=>?_⟩;refine⟨Z,Z,p,13,o1,Y,uS,DQ,V,V,λv o2 B6 Bz CF=>?_⟩;obtain⟨x0,Vx,hat⟩:=We (ws:=KW) B6 (by show v<13;exact Bz);refine⟨t,KW.map V.str,_,Z,Y,AH.of (by rw[AD tp,AD tp];exact uS),hat,?_⟩;have w0:BD x0=true:=Bv.mp rY x0 Vx;have d3:Drawn p H (upd (upd (upd H t (.tup (KW.map V.str))) p o1) p o2):=(d1.trans (Drawn.upd DQ)).trans (Drawn.upd CF);refine⟨λσ' H'=>∃ x:Str,σ'=[↥(.ref p),↥(.ref a),↥(.ref t),↥(.int way),↥(.str x),none]/\BD x=true/\Drawn p H H',?_,?_⟩
  ·refine⟨Z,Y,Z,?_⟩;refine A2 (λ_=>?_) (λ_=>?_)
   ·obtain⟨o3,PU,Ff⟩:=d3.pot;refine⟨Z,_,Z,Y,⟨V,V,by rfl'⟩,_,Z,Y,p,_,o3,Y,PU,Ff,V,V,λv o4 B6 Bz PV=>?_⟩;have Bz:v<208827064550:=Bz;refine⟨v.toNat,by rw[G0 B6];rfl,W,Z,Xp (by omega),d3.trans (Drawn.upd PV)⟩
   ·exact⟨x0,Y,w0,d3⟩
  ·rintro σ' H1 ⟨x1,rfl,w1,d4⟩;refine⟨λσ' H'=>∃ x:Str,σ'=[↥(.ref p),↥(.ref a),↥(.ref t),↥(.int way),↥(.str x),none]/\BD x=true/\Drawn p H H',?_,?_⟩
   ·refine⟨Z,Y,Z,?_⟩;refine A2 (λ_=>?_) (λ_=>Ap ⟨x1,Y,w1,d4⟩);refine⟨Z,BE _,λt2 Bp=>⟨.list (ws.map W.Dat.str),.list [],.list ((wl d4).mono_new Bp) (Gv ws),.list (SqL.of uS) .nil,WS hw.word,Y,Z,?_⟩⟩;have d5:Drawn p H (upd H1 t2 (.lst [])):=d4.new Bp;refine A2 (λBG=>?_) (λ_=>⟨x1,Y,w1,d5⟩);have BG:ws≠[]:=(gQ ws).mp BG;have hpos:0<↑ws:=ML.mpr BG;obtain⟨o5,PR,NI⟩:=d5.pot;refine⟨Z,Z,Z,_,Z,.inl ⟨_,wl d5,Y⟩,p,_,o5,Y,PR,NI,O,O,λv o6 B6 Bz JF=>?_⟩;rw[Ya]at Bz;obtain⟨x2,mH,Mw⟩:=We (ws:=ws) B6 Bz;have d6:Drawn p H (upd (upd H1 t2 (.lst [])) p o6):=d5.trans (Drawn.upd JF);have w2:BD x2=true:=hw.word x2 mH;refine⟨a,ws.map V.str,_,Z,Y,wl d6,Mw,?_⟩;refine⟨Z,Z,p,26,o6,Y,uS,JF,V,V,λv o7 B6 Bz EO=>?_⟩;refine⟨v.toNat,by rw[G0 B6];rfl,W,?_⟩;have VR:BD (Ez v.toNat)=true:=Xp (by omega);have l2:=QO w2;have l3:=QO VR;refine⟨_,Z,Y,sL (by omega),Z,Z,sL (by rw[bc];omega),?_⟩;refine⟨Z,?_,d6.trans (Drawn.upd EO)⟩;refine gy (x:=x2++Ez v.toNat) (n:=8) (by decide) (UQ _ 8 (by decide)) (by rw[bc];omega) (.inr (Yf _)) λc hc=>?_;rw[cz]at hc
    rcases Yp.mp hc with hc | hc
    ·exact((Kl x2).mp w2).2 c hc
    ·exact((Kl _).mp VR).2 c hc
   ·rintro σ' H2 ⟨x2,rfl,w2,d5⟩;refine⟨λσ' H'=>∃ x:Str,σ'=[↥(.ref p),↥(.ref a),↥(.ref t),↥(.int way),↥(.str x),none]/\BD x=true/\Drawn p H H',?_,?_⟩
    ·refine⟨Z,Y,Z,?_⟩;refine A2 (λ_=>?_) (λ_=>Ap ⟨x2,Y,w2,d5⟩);refine⟨Z,BE _,λt2 Bp=>⟨.list (ws.map W.Dat.str),.list [],.list ((wl d5).mono_new Bp) (Gv ws),.list (SqL.of uS) .nil,WS hw.word,Y,Z,?_⟩⟩;have d6:Drawn p H (upd H2 t2 (.lst [])):=d5.new Bp;refine A2 (λBG=>?_) (λ_=>⟨x2,Y,w2,d6⟩);have BG:ws≠[]:=(gQ ws).mp BG;have hpos:0<↑ws:=ML.mpr BG;obtain⟨o6,NH,JF⟩:=d6.pot;refine⟨Z,Z,Z,_,Z,.inl ⟨_,wl d6,Y⟩,p,_,o6,Y,NH,JF,O,O,λv o7 B6 Bz EO=>?_⟩;rw[Ya]at Bz;obtain⟨x3,mG,ZY⟩:=We (ws:=ws) B6 Bz;have d7:Drawn p H (upd (upd H2 t2 (.lst [])) p o7):=d6.trans (Drawn.upd EO);have w3:BD x3=true:=hw.word x3 mG;have l3:=QO w3;refine⟨a,ws.map V.str,_,Z,Y,wl d7,ZY,?_⟩;refine⟨Z,Z,Z,_,Z,⟨sL (by omega),Y⟩,p,_,o7,Y,uS,EO,W,W,λv o8 B6 Bz IE=>?_⟩;refine⟨_,Z,Y,Z,Z,sL (by omega),?_⟩;refine⟨Z,?_,d7.trans (Drawn.upd IE)⟩;exact gy (x:=x3) (n:=(1 + v).toNat) (by omega) (UQ _ (1 + v) (by omega)) (by omega) (.inl (by omega)) ((Kl x3).mp w3).2
    ·rintro σ' H3 ⟨x3,rfl,w3,d6⟩;refine⟨λm σ H'=>∃(x:Str) (n:Nat),σ=[↥(.ref p),↥(.ref a),↥(.ref t),↥(.int way),↥(.str x),↥(.int n)]/\BD x=true/\Drawn p H H'/\m=↑ws + 1 - n/\n<=↑ws + 1 /\
      (n=0\/x=Ez (n - 1))/\∀ j,j + 1<n->Ez j∈ws,⟨_,x3,0,Y,w3,d6,Y,W,.inl rfl,λj hj=>by omega⟩,?_⟩
     rintro m σ H4 ⟨x,n,rfl,wx,dx,rfl,hn,hxn,hall⟩;refine⟨Z,Z,a,Z,.inl (wl dx),Y,QU ws,Z,?_⟩;show if Gb (.str x) (ws.map V.str)=true then _ else _
     rw[Nl];refine A2 (λhin=>?_) (λhin=>?_)
     ·have hin:x∈ws:=Je hin;have all:∀ j,j<n->Ez j∈ws:=λj hj=>by
       by_cases z:j + 1<n
       ·exact hall j z
       ·rcases hxn with e | e
        ·omega
        ·have:j=n - 1:=by omega
         rw[this,<- e];exact hin
      have hle:n<=↑ws:=by
       have:=Graph.nodup_le (l:=(List.range n).map Ez) (k:=ws) ?_ ?_
       ·simpa using this
       ·rw[Ea,Ko];exact(Ea.mp List.nodup_range).imp λh e=>h (uK e)
       ·intro y hy;obtain⟨j,hj,e⟩:=Yk.mp hy;rw[<- e];exact all j (CA.mp hj)
      refine⟨λσ' H'=>σ'=[↥(.ref p),↥(.ref a),↥(.ref t),↥(.int way),↥(.str (Ez n)),↥(.int ((n:Int) + 1))]/\H'=H4,?_,?_⟩
      ·rintro σ' H' ⟨rfl,rfl⟩;exact⟨↑ws + 1 - (n + 1),W,Ez n,n + 1,Y,Xp (by omega),dx,Y,W,.inr rfl,λj hj=>all j (by omega)⟩
      ·exact⟨Z,n,Y,W,Z,_,Z,Y,Y,Y⟩
     ·have hin:x∉ws:=λz=>hin (Jb z);exact⟨Z,q x H4 dx wx hin⟩
def cn:Ad ["pot","many","words","k"] ["pot","many"] (AJ Ul):=by nofun
def pz(F:Def K mg "_law_words" Ul ["pot","many"] f fd)(DW:Def K mg "_law_word" F5 ["pot","words"] fW fdW)(DT:Def K mg "_law_take" Hf ["pot","many"] fT fdT)(DL:Def K mg "_law_letters" OQ ["number"] fL fdL)(len:mg "len"=none)(range:mg "range"=none):
  ⋯ 3 f fd ["pot","many"] cf:=by
 have GW:⋯ 2 fW fdW ["pot","words"] Wa:=cO DW DT DL len
 nomatch F.fn.ok cn
 ·obtain⟨p,m,rfl,_⟩:=h;rfl
 ·obtain⟨p,m,rfl,⟨o0,EB,FF⟩,hm,q⟩:=h;have nd:=cn.nd;refine⟨_,pS (sE 2 nd (CI AB))
   (pS (CS Bb rfl (Gu rfl range (pC (pv 1) AB)) (gE 3 nd)
    (AG (B8 (Ct Yz E4 E3 EF (pv 2) (pC (AO DW GW hr (pC (pv 0) (pC (pv 2) AB))) AB)))))
   (AG (AS (pv 2)))),?_⟩
  refine⟨BE _,λl hl=>?_⟩;have lp:p≠l:=AK EB hl;refine⟨Z,m,Y,W,W,C3 Gx (λi σ H'=>∃(ws:LS) (kv:OV),σ=[↥(.ref p),↥(.int m),↥(.ref l),kv]/\Drawn p H H'/\H' l≈(.lst (ws.map V.str))/\P9 ws/\↑ws=i)
   ⟨[],none,Y,(Drawn.refl ⟨o0,EB,FF⟩).new hl,uS,⟨(λ_ h=>nomatch h),G8⟩,Y⟩ (λ_ _ _ _ _=>trivial) ?_ ?_⟩
  ·rintro i v σ H' hi ⟨ws,kv,rfl,d,hw,ok,rfl⟩;obtain⟨hi,rfl⟩:=EH hi;refine⟨Z,.inl ⟨Y,_,SqL.of hw⟩,Z,Z,p,l,ws,Y,lp,d.pot,hw,ok,W,λx H2 d2 wx nx=>?_⟩;have Sn:H2 l≈(.lst (ws.map V.str)):=d2.keep _ _ (Yx lp) hw;refine⟨l,_,Z,Y,Sn,B_ (by rw[Ya];omega),?_⟩;refine⟨ws++[x],Z,?_,by rw[uS,BP];rfl,⟨λy hy=>?_,?_⟩,by simp⟩
   ·refine(d.trans d2).sub (q:=l) (o':=.lst []) (λb o hb e=>by rw[AD hb];exact e) hl lp
   ·rcases Yp.mp hy with hy | hy
    ·exact ok.word y hy
    ·rw[Yi.mp hy];exact wx
   ·rw[Iq];exact⟨ok.nd,by simp,λa ha b hb e=>nx (by rw[<- Yi.mp hb,<- e];exact ha)⟩
  ·rintro σ H' ⟨ws,kv,rfl,d,hw,ok,hlen⟩;rw[Cw]at hlen;exact⟨Z,q l ws H' d hl hw ok (by simpa using hlen)⟩
def B7(js:LN):LV:=js.map λ(j:Nat)=>V.int (j:Int)
structure jG(k:Nat)(js:LN):Prop where
 below:∀ j∈js,j<k
 nd:js.Nodup
 few:↑js<=8
def jP:Sp:=λvs H Q _=>∃(p:ε) (k sh:Nat),vs=[.ref p,.int k,.int sh]/\(∃ o,H p≈o/\Er o)/\k<=24 /\
 ∀ l (js:LN) H',Drawn p H H'->H' l≈(.lst (B7 js))->jG k js->Q (.ref l) H'
structure y8(mg:Str->OU):Prop where
 range:mg "range"=none
 int:mg "int"=none
def jY:Ad ["pot","k","shape","one","other","bits"] ["pot","k","shape"] (AJ L3):=by nofun
abbrev X9:LS:=["pot","k","shape","one","other","bits"]
def iS:(["j"]:LS).Nodup:=by rfl'
def vf:(["j","bits"]:LS).Nodup:=by rfl'
def NA(v:V):Bool:=match v with | .int i=>decide (0<=i) | _=>false
def NV:LV:=[.int 1,.int 2,.int 4,.int 8,.int 16,.int 32,.int 64,.int 128]
def Uz(bits:Int)(v:V):Bool:=match v with
 | .int j=>decide (j<8)&&(match BC NV j with | some (.int e)=>decide (bits / e % 2=1) | _=>false)
 | _=>false
def ow{j:Int}(h0:0<=j)(h1:j<8):∃ e:Int,BC NV j≈(.int e)/\0<e/\e<1000:=by
 have:∀ i:_root_.Fin 8,∃ e:Int,BC NV (i.1:Int)≈(.int e)/\0<e/\e<1000:=by
  intro i
  match i with
  | ⟨0,_⟩=>exact⟨1,Y,V,V⟩
  | ⟨1,_⟩=>exact⟨2,Y,V,V⟩
  | ⟨2,_⟩=>exact⟨4,Y,V,V⟩
  | ⟨3,_⟩=>exact⟨8,Y,V,V⟩
  | ⟨4,_⟩=>exact⟨16,Y,V,V⟩
  | ⟨5,_⟩=>exact⟨32,Y,V,V⟩
  | ⟨6,_⟩=>exact⟨64,Y,V,V⟩
  | ⟨7,_⟩=>exact⟨128,Y,V,V⟩
 have q:=this ⟨j.toNat,W⟩
 rwa [G0 h0]at q
def rj(k:Nat)(p:V->Bool):∃ js:LN,(C2 0 k).filter p=B7 js/\(∀ j∈js,j<k/\p (.int (j:Int))=true)/\js.Nodup:=by
 refine⟨(List.range k).filter λj=>p (.int (j:Int)),?_,λj hj=>?_,List.nodup_range.filter _⟩
 ·unfold C2 B7;rw[Oj];have e:((λ(j:Nat)=>V.int (0 + (j:Int))))=λ(j:Nat)=>V.int (j:Int):=by
   funext j
   rw[FV]
  rw[e];rfl
 ·obtain⟨h1,h2⟩:=Cc.mp hj;exact⟨CA.mp h1,h2⟩
theorem gx:∀ {xs ys:LV},Paired (λx v=>v=x) xs ys->ys=xs
 | _,_,.nil=>rfl
 | _,_,.cons h t=>by rw[h,gx t]
def wN(F:Def K mg "_law_ups" L3 ["pot","k","shape"] f fd)(DT:Def K mg "_law_take" Hf ["pot","many"] fT fdT)(T:y8 mg):⋯ 2 f fd ["pot","k","shape"] jP:=by
 have GT:⋯ 1 fT fdT ["pot","many"] KY:=QH DT
 nomatch F.fn.ok jY
 ·obtain⟨p,k,sh,rfl,_⟩:=h;rfl
 ·obtain⟨p,k,sh,rfl,⟨o0,EB,FF⟩,hk,q⟩:=h;have nd:=jY.nd;refine⟨_,pS (Ae (Al Cs (pv 1) AE (Ai _)) (AG (AS (CI AB))) Af)
   (pS (sE 3 nd (AO DT GT hr (pC (pv 0) (pC (pv 1) AB))))
   (pS (sE 4 nd (AO DT GT hr (pC (pv 0) (pC (pv 1) AB))))
   (pS (Ae (Al Cs (pv 2) AE (Ai _)) (AG (AS (CI (pC (pv 3) AB)))) Af)
   (pS (Ae (Al Cs (pv 2) AE (Ai _)) (AG (AS (Ic Tz
     (BO ["j"] [] [] (λ_=>A3 (osc:=AJ L3) (on:=X9) (by rfl') rfl rfl rfl) (HZ (Ca (pC (pv 3) (pC (pv 4) AB)))) (λC s H fp=>Az (i:=0) iS rfl (Or.inl rfl) (Or.inr rfl)) (λC s H fp=>Br) (λC s H fp=>pv 0))
     IZ (Ia (Aj F2 AE (F6 qE (by rfl) T.int PyProof.Rows.boot_int (pC (Ha Gm (pv 3) (pv 4) (Ai _)) AB))))))) Af)
   (pS (Ae (Al Cs (pv 2) AE (Ai _)) (AG (AS
     (BO ["j"] [] [] (λ_=>A3 (osc:=AJ L3) (on:=X9) (by rfl') rfl rfl rfl) (HZ (Ca (pC (Aj Nd (Aj Nd (pv 1) AE) (Aj HY (pv 1) AE)) (pC (Aj Nd (Aj Nd (pv 1) AE) (Aj HY (pv 1) AE)) AB)))) (λC s H fp=>Az (i:=0) iS rfl (Or.inl rfl) (Or.inr rfl))
      (λC s H fp=>F3 (Al jK (pv 0) AE (Ai _))) (λC s H fp=>pv 0)))) Af)
   (pS (Ae (Al Cs (pv 2) AE (Ai _)) (AG (AS (CI (pC (Aj Nd (pv 1) AE) AB)))) Af)
   (pS (Bt (i:=5) nd rfl (Or.inr rfl) (AO DT GT hr (pC (pv 0) (pC AE AB))))
   (AG (AS (BO ["j"] ["bits"] [5] (λ_=>A3 (osc:=AJ L3) (on:=X9) (by rfl') rfl rfl rfl) (Gu rfl T.range (pC (pv 1) AB)) (λC s H fp=>Az (i:=0) vf rfl (Or.inl rfl) (Or.inr rfl))
    (λC s H fp=>F3 (PW.pt (Te (Al Pw (pv 0) AE (Ai _)) (Tx (Al Cs (Aj HY (Aj Ws (pv 1) (AN (r:=Ax K) A0 (Ca (pC AE (pC AE (pC AE (pC AE (pC AE (pC AE (pC AE (pC AE AB))))))))) (pv 0) (λ_ _=>rfl))) AE) AE (Ai _)))))) (λC s H fp=>pv 0))))))))))),?_⟩
  have dr:Drawn p H H:=Drawn.refl ⟨o0,EB,FF⟩;refine⟨Z,Y,Z,?_⟩;refine A2 (λh0=>?_) (λh0=>?_)
  ·exact⟨BE _,λl hl=>q l [] _ (dr.new hl) uS ⟨(λ_ h=>nomatch h),G8,BE _⟩⟩
  have CV:0<k:=by
   refine Nat.pos_of_ne_zero λz=>h0 (Jb ?_);rw[z];rfl
  refine⟨Z,Z,p,k,o0,Y,EB,FF,W,W,λone o1 KD BB DQ=>?_⟩;refine⟨Z,Z,p,k,o1,Y,uS,DQ,W,W,λoth o2 nM h21 CF=>?_⟩;rw[Np];have d2:Drawn p H (upd H p o2):=Drawn.upd CF;refine⟨Z,Y,Z,?_⟩;refine A2 (λ_=>?_) (λ_=>?_)
  ·refine⟨Z,G,λl hl=>q l [one.toNat] _ (d2.new hl) ?_ ⟨λj hj=>?_,by simp,by simp⟩⟩
   ·rw[uS];show some (HO.lst [V.int one])≈(HO.lst [V.int ((one.toNat:Nat):Int)]);rw[G0 KD]
   ·rw[Yi.mp hj];omega
  refine⟨Z,Y,Z,?_⟩;refine A2 (λ_=>?_) (λ_=>?_)
  ·-- [j for j in(one,other)][:1 + int(one != other)]
   refine⟨Z,Z,U,λt ht=>⟨t,Y,⟨_,AH.of uS⟩,Lz (Ie (xs:=[V.int one,V.int oth])) (sL (by show 2<=100000;decide)) (λ_=>true) (λv=>v) (λD ys hD=>AH.of (by rw[AD (AK uS hD)];exact uS)) ?_ ?_ ?_⟩⟩
   ·intro D ys x R _ _ hR;exact hR
   ·intro D ys x R _ _ _ hR;exact⟨Z,hR⟩
   ·intro D hD;have e2:([V.int one,V.int oth].filter λ_=>true).map (λv=>v)=[V.int one,V.int oth]:=rfl;rw[e2];have d4:Drawn p H (upd (upd (upd H p o2) t (.tup [V.int one,V.int oth])) D (.lst [V.int one,V.int oth])):=(d2.new ht).new hD;refine⟨Z,Z,Y,.inr ⟨Z,_,Z,Y,Z,D,Z,SqL.of uS,λl hl=>?_⟩⟩;by_cases he:one=oth
    ·have e3:(!decide (V.int one=V.int oth))=false:=by rw[he];simp
     rw[e3];refine q l [one.toNat] _ (d4.new hl) ?_ ⟨λj hj=>by rw[Yi.mp hj];omega,by simp,by simp⟩;rw[uS];show some (HO.lst [V.int one])≈(HO.lst [V.int ((one.toNat:Nat):Int)]);rw[G0 KD]
    ·have e3:(!decide (V.int one=V.int oth))=true:=by
      rw[Jc (λz=>he (by injection z))];rfl
     rw[e3];refine q l [one.toNat,oth.toNat] _ (d4.new hl) ?_ ⟨λj hj=>?_,?_,by simp⟩
     ·rw[uS];show some (HO.lst [V.int one,V.int oth])≈(HO.lst [V.int ((one.toNat:Nat):Int),V.int ((oth.toNat:Nat):Int)]);rw[G0 KD,G0 nM]
     ·rcases Yl.mp hj with e | e
      ·rw[e];omega
      ·rw[Yi.mp e];omega
     ·refine Yu.mpr ⟨λz=>he ?_,by simp⟩;have:=Yi.mp z;omega
  refine⟨Z,Y,Z,?_⟩;refine A2 (λ_=>?_) (λ_=>?_)
  ·-- diamonds
   have JH:=MN (k:Int) (b:=2) (by decide);have LX:=MY (k:Int) (b:=2) (by decide);refine⟨Z,_,Z,Y,Z,_,Z,Y,(by show(0:Int)<2;decide),_,Z,Y,Z,_,Z,Y,Z,_,Z,Y,(by show(0:Int)<2;decide),_,Z,Y,U,λt ht=>⟨t,Y,⟨_,AH.of uS⟩,
    Lz (Ie (xs:=[V.int ((k:Int) - 2 - (k:Int) % 2),V.int ((k:Int) - 1 - (k:Int) % 2)])) (sL (by show 2<=100000;decide)) NA (λv=>v) (λD ys hD=>AH.of (by rw[AD (AK uS hD)];exact uS)) ?_ ?_ ?_⟩⟩
   ·intro D ys x R _ hx hR;obtain⟨i,rfl⟩:∃ i,x=V.int i:=by
     rcases Yl.mp hx with e | e
     ·exact⟨_,e⟩
     ·exact⟨_,Yi.mp e⟩
    exact⟨Z,_,Z,Y,Z,hR⟩
   ·intro D ys x R _ _ _ hR;exact⟨Z,hR⟩
   ·intro D hD;have d4:=(d2.new (o:=.tup [V.int ((k:Int) - 2 - (k:Int) % 2),V.int ((k:Int) - 1 - (k:Int) % 2)]) ht).new (o:=.lst (([V.int ((k:Int) - 2 - (k:Int) % 2),V.int ((k:Int) - 1 - (k:Int) % 2)].filter NA).map λv=>v)) hD;by_cases h2:2<=(k:Int) - (k:Int) % 2
    ·refine q D [((k:Int) - 2 - (k:Int) % 2).toNat,((k:Int) - 1 - (k:Int) % 2).toNat] _ d4 ?_ ⟨λj hj=>?_,?_,by simp⟩
     ·rw[uS];have a1:NA (V.int ((k:Int) - 2 - (k:Int) % 2))=true:=Jb (by omega);have a2:NA (V.int ((k:Int) - 1 - (k:Int) % 2))=true:=Jb (by omega);rw[Di,a1,if_pos rfl,Di,a2,if_pos rfl];show some (HO.lst [V.int _,V.int _])≈(HO.lst [V.int ((Int.toNat _:Nat):Int),V.int ((Int.toNat _:Nat):Int)]);rw[G0 (by omega),G0 (by omega)]
     ·rcases Yl.mp hj with e | e
      ·rw[e];omega
      ·rw[Yi.mp e];omega
     ·refine Yu.mpr ⟨λz=>?_,by simp⟩;have:=Yi.mp z;omega
    ·refine q D [] _ d4 ?_ ⟨(λ_ h=>nomatch h),G8,BE _⟩;rw[uS];have a1:NA (V.int ((k:Int) - 2 - (k:Int) % 2))=false:=Jc (by omega);have a2:NA (V.int ((k:Int) - 1 - (k:Int) % 2))=false:=Jc (by omega);rw[Di,a1,if_neg Yq,Di,a2,if_neg Yq];rfl
  refine⟨Z,Y,Z,?_⟩;refine A2 (λ_=>?_) (λ_=>?_)
  ·refine⟨Z,_,Z,Y,G,λl hl=>q l [k - 1] _ (d2.new hl) ?_ ⟨λj hj=>?_,by simp,by simp⟩⟩
   ·rw[uS];show some (HO.lst [V.int ((k:Int) - 1)])≈(HO.lst [V.int ((k - 1:Nat):Int)]);have:((k - 1:Nat):Int)=(k:Int) - 1:=by omega
    rw[this]
   ·rw[Yi.mp hj];omega
  refine⟨Z,p,256,o2,Y,uS,CF,V,V,λbits o3 Sy Lb Ff=>?_⟩;rw[Np];have d3:Drawn p H (upd H p o3):=Drawn.upd Ff;refine⟨Z,(k:Int),Y,W,W,?_⟩;rw[show((k:Int)).toNat=k from rfl];refine T5 Gx (sL (by rw[Cw];omega)) (Uz bits) (λ_ x v _=>v=x) (λ_ _ _ _ _ _ h=>h) (λ_ _=>trivial) ?_ ?_ ?_
  ·intro x H2 R hs hx hR;obtain⟨i,hi⟩:=List.mem_iff_getElem?.mp hx;obtain⟨hik,rfl⟩:=EH hi;refine⟨Z,_,Z,Y,Z,?_⟩;refine A2 (λh8=>?_) (λh8=>?_)
   ·have h8:(0:Int) + (i:Int)<8:=Je h8;obtain⟨e,he,mh,mf⟩:=ow (j:=(0:Int) + (i:Int)) (by omega) h8;refine⟨Z,sL (by show 8<=100000;decide),λt ht=>⟨Z,t,NV,_,Z,Y,AH.of uS,he,_,Z,Y,⟨mh,W⟩,_,Z,Y,(by show(0:Int)<2;decide),Y,Z,?_⟩⟩;have e1:Uz bits (V.int (0 + (i:Int)))=decide (V.int (bits / e % 2)=V.int 1):=by
     show(decide ((0:Int) + (i:Int)<8)&&(match BC NV (0 + (i:Int))with | some (.int e)=>decide (bits / e % 2=1) | _=>false))=_;rw[he,Jb h8,MX];show decide (bits / e % 2=1)=_;rw[decide_eq_decide];constructor
     ·intro z;rw[z]
     ·intro z;injection z
    have:=hR (upd H2 t (.tup NV)) λb o e=>by rw[AD (AK e ht)];exact e
    rw[e1]at this;exact this
   ·have h8:¬ ((0:Int) + (i:Int)<8):=λz=>h8 (Jb z);have e1:Uz bits (V.int (0 + (i:Int)))=false:=by
     show(decide ((0:Int) + (i:Int)<8)&&_)=false;rw[Jc h8,Bool.false_and]
    have:=hR H2 (AA.refl _);rw[e1]at this;exact this
  ·intro D x H2 R hs _ _ hx _ hR;exact⟨Z,hR x H2 (AA.refl _) rfl⟩
  ·intro D H2 ys hD hs hl hp;have e:=gx hp;subst e;obtain⟨js,e,hj,hnd⟩:=rj k (Uz bits);refine q D js H2 (d3.same hs) (by rw[hl,e]) ⟨λj h=>(hj j h).1,hnd,?_⟩;have:=Graph.nodup_le (l:=js) (k:=List.range 8) hnd λj h=>by
    have h2:(decide ((j:Int)<8)&&_)=true:=(hj j h).2;have h3:=(EI _ _ ▸ h2:_/\_).1;have h4:(j:Int)<8:=Je h3;exact CA.mpr (by omega)
   simpa using this
def cX:Sp:=λvs H Q _=>∃(p:ε) (m:Nat),vs=[.ref p,.int m]/\(∃ o,H p≈o/\Er o)/\1<=m/\m<=24 /\
 ∀ l (ρ:RS) H',Drawn p H H'->H l=none->Gq H' l ρ->Ab ρ->↑ρ<=m->Q (.ref l) H'
def Zd(ws:LS):V->V
 | .int j=>.str (ws.getD j.toNat "")
 | _=>.non
def pZ(ws:LS)(js:LN):(B7 js).map (Zd ws)=(js.map λi=>ws.getD i "").map V.str:=by
 unfold B7;rw[Bu,Bu];rfl
def bY{ws:LS}{j:Nat}(h:j<↑ws):BC (ws.map V.str) (j:Int)≈(.str (ws.getD j "")):=by
 have e:(ws.map V.str)[j]?≈(V.str (ws.getD j "")):=by
  rw[Yh,Yg,Yb h];rfl
 exact DB e
def tX(m:Nat):C2 0 m=B7 (List.range m):=by
 unfold C2 B7;refine MM λj _=>?_;rw[FV]
def T3{α:Type}(l:List α):l.filter (λ_=>true)=l:=G5.mpr λ_ _=>rfl
def RL(ws:LS)(H:Hp)(js:LN)(v:V):Prop:=∃ t,v=.ref t/\H t≈(.tup ((js.map λi=>ws.getD i "").map V.str))
def RL.mono{ws:LS}{H H':Hp}{js:LN}{v:V}(h:RL ws H js v)(k:∀ b xs,H b≈(.tup xs)->H' b≈(.tup xs)):RL ws H' js v:=by
 obtain⟨t,e,h⟩:=h;exact⟨t,e,k _ _ h⟩
theorem gT{α β:Type}{F:α->β->Prop}:∀ {l:List α}{k:List β},Paired F l k->∀ {i:Nat}{a:α},l[i]?≈a->∃ b,k[i]?≈b/\F a b
 | _,_,.nil,i,a,h=>by simp at h
 | _,_,.cons r t,0,a,h=>by simp at h;subst h;exact⟨Z,r⟩
 | _,_,.cons r t,i + 1,a,h=>by
  obtain⟨b,h1,h2⟩:=gT t (i:=i) (a:=a) (by simpa using h);exact⟨b,by simpa using h1,h2⟩
def W5{H:Hp}{D b:ε}{o u:HO}(hD:H D=none)(e:H b≈o):(upd H D u) b≈o:=by rw[AD (AK e hD)];exact e
theorem gw{ws:LS}{uf:List (LN)}{D:ε}{H:Hp}:∀ {os:LN}{ys:LV},
  Paired (λx v=>∃(j:Nat) (t u:ε),x=V.int (j:Int)/\v=.ref t/\t≠D/\u≠D/\H t≈(.tup [.str (ws.getD j ""),.ref u])/\H u≈(.tup (((uf.getD j []).map λi=>ws.getD i "").map V.str))) (B7 os) ys->Paired (Ql H) (JP ws uf os) ys
 | [],_,h=>by cases h;exact .nil
 | j :: os,_,h=>by
  cases h with
  | cons r t =>
   obtain⟨i,a,u,e,rfl,_,_,h3,h4⟩:=r;have e':(j:Int)=(i:Int):=by injection e
   have nq:j=i:=by omega
   subst nq;exact .cons ⟨a,u,Y,h3,h4⟩ (gw t)
structure u5(p lw lo lu:ε)(ws:LS)(H H':Hp)(i:Nat)(os:LN)(uf:List (LN))(us:LV):Prop where
 d:Drawn p H H'
 w:H' lw≈(.lst (ws.map V.str))
 o:H' lo≈(.lst (B7 os))
 u:H' lu≈(.lst us)
 pu:Paired (RL ws H') uf us
 ul:↑uf=i
 uok:∀(k:Nat) (js:LN),uf[k]?≈js->jG k js
 on:os.Nodup
 om:∀ j,j∈os↔j<i
 ol:↑os=i
def vg:(["j","words"]:LS).Nodup:=by rfl'
def wo:(["k","words","ups"]:LS).Nodup:=by rfl'
structure iK(mg:Str->OU):Prop where
 range:mg "range"=none
 int:mg "int"=none
 len:mg "len"=none
 tuple:mg "tuple"=none
 list:mg "list"=none
abbrev YG:LS:=["pot","most","many","words","shape","order","ups","k"]
def j0:Ad YG ["pot","most"] (AJ OG):=by nofun
def oo(F:Def K mg "_law_rows" OG ["pot","most"] f fd)(DT:Def K mg "_law_take" Hf ["pot","many"] fT fdT)(DU:Def K mg "_law_ups" L3 ["pot","k","shape"] fU fdU)
  (DWs:Def K mg "_law_words" Ul ["pot","many"] fWs fdWs) (DW:Def K mg "_law_word" F5 ["pot","words"] fW fdW) (DL:Def K mg "_law_letters" OQ ["number"] fL fdL) (T:iK mg):⋯ 4 f fd ["pot","most"] cX:=by
 have GT:⋯ 1 fT fdT ["pot","many"] KY:=QH DT;have GU:⋯ 2 fU fdU ["pot","k","shape"] jP:=wN DU DT ⟨T.range,T.int⟩;have GW:⋯ 3 fWs fdWs ["pot","many"] cf:=pz DWs DW DT DL T.len T.range
 nomatch F.fn.ok j0
 ·obtain⟨p,m,rfl,_⟩:=h;rfl
 ·obtain⟨p,most,rfl,⟨o0,EB,FF⟩,LX,hm24,q⟩:=h;have nd:=j0.nd;have Ac:AV 1 _:=hr.mono (by decide);have EA:AV 2 _:=hr.mono (by decide)
  ac_nf
  refine⟨_,pS (sE 2 nd (Aj F2 AE (AO DT GT Ac (pC (pv 0) (pC (pv 1) AB)))))
   (pS (Bt (i:=3) nd rfl (Or.inr rfl) (AO DWs GW hr (pC (pv 0) (pC (pv 2) AB))))
   (pS (sE 4 nd (AO DT GT Ac (pC (pv 0) (pC AE AB))))
   (pS (sE 5 nd (CI AB))
   (pS (Bt (i:=6) nd rfl (Or.inr rfl) (CI AB))
   (pS (CS Bb rfl (Gu (by rfl) T.range (pC (pv 2) AB)) (gE 7 nd)
    (pS (B8 (Ct Yz E4 E3 EF (pv 6) (pC (F6 L8 (by rfl) T.tuple Jo (pC
     (BO ["j"] ["words"] [3] (λ_=>A3 (osc:=AJ OG) (on:=YG) (by rfl') rfl rfl rfl) (Bn (AO DU GU EA (pC (pv 0) (pC (pv 7) (pC (pv 4) AB))))) (λC s H fp=>Az (i:=0) vg rfl (Or.inl rfl) (Or.inr rfl)) (λC s H fp=>Br)
      (λC s H fp=>AN (r:=A6 K) Ak (pv 1) (pv 0) (λ_ _=>rfl))) AB)) AB)))
    (AG (B8 (Ct Yz PySem.F.slot_list_insert PySem.F.type_list_insert eW (pv 5) (pC (AO DT GT Ac (pC (pv 0) (pC (Aj F2 (pv 7) AE) AB))) (pC (pv 7) AB)))))))
   (Ka (Ae (Al Cs (AO DT GT Ac (pC (pv 0) (pC AE AB))) AE (Ai _)) (AG (sE 5 nd (Qc rfl (pv 2) (by rfl) T.list (by rfl) T.range))) Af)
   (AG (AS (BO ["k"] ["words","ups"] [3,6] (λ_=>A3 (osc:=AJ OG) (on:=YG) (by rfl') rfl rfl rfl) (Bn (pv 5)) (λC s H fp=>Az (i:=0) wo rfl (Or.inl rfl) (Or.inr rfl)) (λC s H fp=>Br)
    (λC s H fp=>Ca (pC (AN (r:=A6 K) Ak (pv 1) (pv 0) (λ_ _=>rfl)) (pC (AN (r:=A6 K) Ak (pv 2) (pv 0) (λ_ _=>rfl)) AB)))))))))))),?_⟩
  exists let b:=_;let c:=Uw (HP _ b _) a;let e:=_;let f:=AF _ e;let g:=AF (Es _ _ f) c;let h:=AF _ g;let i:=AF _ h;let j:=AF _ i;let k:=AF _ j;AF _ k _ _ _
  refine⟨Z,Z,p,most,o0,Y,EB,FF,W,W,λv o1 B6 Bz DQ=>⟨_,Z,Y,?_⟩⟩;have hv:(1:Int) + v=((1 + v.toNat:Nat):Int):=by omega
  have d1:Drawn p H (upd H p o1):=Drawn.upd DQ;refine⟨Z,Z,p,1 + v.toNat,(by show[V.ref p,V.int (1 + v)]=[V.ref p,V.int ((1 + v.toNat:Nat):Int)];rw[<- hv]),d1.pot,W,λlw ws H2 d2 hlw hw ok hwl=>?_⟩;have hlw0:H lw=none:=by
   cases e:H lw with
   | none=>rfl
   | some o =>
    by_cases z:lw=p
    ·rw[z]at hlw;rw[uS]at hlw;cases hlw
    ·rw[d1.keep lw o z e]at hlw;cases hlw
  have NQ:=d1.trans d2;obtain⟨o2,Eg,CF⟩:=d2.pot;have pw:p≠lw:=YM Eg hw (by
   obtain⟨r,b,e,_⟩:=CF;rw[e];intro z;injection z with z;have z2:=congrArg (λl=>l[0]?) z;cases ws with
   | nil=>simp at z2
   | cons x r=>simp at z2)
  refine⟨Z,p,5,o2,Y,Eg,CF,V,V,λsh o3 mO hs1 Ff=>?_⟩;have d3:Drawn p H (upd H2 p o3):=NQ.trans (Drawn.upd Ff);refine⟨BE _,λlo hlo=>⟨BE _,λlu hlu=>?_⟩⟩;have d5:Drawn p H (upd (upd (upd H2 p o3) lo (.lst [])) lu (.lst [])):=(d3.new hlo).new hlu;have w5:(upd (upd (upd H2 p o3) lo (.lst [])) lu (.lst [])) lw≈(.lst (ws.map V.str)):=by
   have a1:(upd H2 p o3) lw≈(.lst (ws.map V.str)):=by rw[AD (Yx pw)];exact hw
   have a2:(upd (upd H2 p o3) lo (.lst [])) lw≈(.lst (ws.map V.str)):=by rw[AD (AK a1 hlo)];exact a1
   rw[AD (AK a2 hlu)];exact a2
  have o5:(upd (upd (upd H2 p o3) lo (.lst [])) lu (.lst [])) lo≈(.lst (B7 [])):=by
   rw[AD (AK uS hlu)];exact uS
  have plo:p≠lo:=AK (show(upd H2 p o3) p≈o3 from uS) hlo;have plu:p≠lu:=AK (show(upd (upd H2 p o3) lo (.lst [])) p≈o3 by rw[AD plo];exact uS) hlu;have lou:lo≠lu:=AK uS hlu;have lwo:lw≠lo:=λz=>by
   have a1:(upd H2 p o3) lw≈(.lst (ws.map V.str)):=by rw[AD (Yx pw)];exact hw
   rw[z,hlo]at a1;cases a1
  have lwu:lw≠lu:=λz=>by
   have a1:(upd H2 p o3) lw≈(.lst (ws.map V.str)):=by rw[AD (Yx pw)];exact hw
   have a2:(upd (upd H2 p o3) lo (.lst [])) lw≈(.lst (ws.map V.str)):=by rw[AD lwo];exact a1
   rw[z,hlu]at a2;cases a2
  have hloH:H lo=none:=by
   cases e:H lo with
   | none=>rfl
   | some o=>rw[d3.keep lo o (Yx plo) e]at hlo;cases hlo
  have hluH:H lu=none:=by
   cases e:H lu with
   | none=>rfl
   | some o=>rw[(d3.new (o:=.lst []) hlo).keep lu o (Yx plu) e]at hlu;cases hlu
  refine⟨Z,(1:Int) + v,Y,W,W,?_⟩;have hmn:((1:Int) + v).toNat=↑ws:=by omega
  rw[hmn];let EM:NW:=λi σ H'=>∃(os:LN) (uf:List (LN)) (us:LV) (kv:OV),σ=[↥(.ref p),↥(.int most),↥(.int (1 + v)),↥(.ref lw),↥(.int sh),↥(.ref lo),↥(.ref lu),kv]/\u5 p lw lo lu ws H H' i os uf us;refine C3 Gx EM
   ⟨[],[],[],none,Y,d5,w5,o5,uS,.nil,Y,λk js h=>by simp at h,G8,λj=>by simp,Y⟩ (λ_ _ _ _ _=>trivial) ?_ ?_
  ·rintro i x σ H' hi ⟨os,uf,us,kv,rfl,g⟩;obtain⟨hi,rfl⟩:=EH hi;have hul:↑us=i:=by rw[<- ↑g.pu];exact g.ul
   refine⟨Z,.inl ⟨Y,_,SqL.of g.u⟩,Z,Z,Z,p,i,sh.toNat,by rw[FV,G0 mO];rfl,g.d.pot,W,λl js H6 d6 hl uok=>⟨l,Y,⟨_,SqL.of hl⟩,?_⟩⟩;have w6:H6 lw≈(.lst (ws.map V.str)):=d6.keep _ _ (Yx pw) g.w;refine Lz (B4 (xs:=B7 js)) (sL (by unfold B7;rw[Ya];have:=uok.few;omega)) (λ_=>true) (Zd ws) (λD ys hD=>SqL.of (by rw[AD (AK hl hD)];exact hl)) ?_ ?_ ?_
   ·intro D ys y R _ _ hR;exact hR
   ·intro D ys y R hD hy _ hR;obtain⟨j,hj,rfl⟩:=Yk.mp hy;have hjl:j<↑ws:=by have:=uok.below j hj;omega
    exact⟨Z,Z,lw,Q,Z,Y,SqL.of (by rw[AD (AK w6 hD)];exact w6),bY hjl,hR⟩
   ·intro D hD;rw[T3,pZ];refine⟨D,Z,.inl ⟨SqL.of uS,λt ht=>?_⟩⟩;have keepDt:∀ b o,H6 b≈o->(upd (upd H6 D (.lst ((js.map λi=>ws.getD i "").map V.str))) t (.tup ((js.map λi=>ws.getD i "").map V.str))) b≈o:=λb o e=>by
     have e1:(upd H6 D (.lst ((js.map λi=>ws.getD i "").map V.str))) b≈o:=by rw[AD (AK e hD)];exact e
     rw[AD (AK e1 ht)];exact e1
    have u6:H6 lu≈(.lst us):=d6.keep _ _ (Yx plu) g.u;have o6:H6 lo≈(.lst (B7 os)):=d6.keep _ _ (Yx plo) g.o;refine⟨lu,us,Z,Y,keepDt _ _ u6,B_ (by omega),?_⟩;obtain⟨o7,PQ,EO⟩:=d6.pot;refine⟨Z,.inl ⟨Y,_,SqL.of (by rw[AD lou];exact keepDt _ _ o6)⟩,Z,Z,_,Z,Y,p,_,o7,Y,(by rw[AD plu];exact keepDt _ _ PQ),EO,W,W,λat_ o8 Sz aY IE=>?_⟩;refine⟨Z,lo,B7 os,at_,Z,Y,(by rw[AD (Yx plo),AD lou];exact keepDt _ _ o6),Sz,(by unfold B7;rw[Ya,g.ol];omega),B_ (by unfold B7;rw[Ya,g.ol];omega),?_⟩;have tlu:t≠lu:=λz=>by rw[z]at ht;rw[W5 hD u6]at ht;cases ht
    have tlo:t≠lo:=λz=>by rw[z]at ht;rw[W5 hD o6]at ht;cases ht
    have tp:t≠p:=λz=>by rw[z]at ht;rw[W5 hD PQ]at ht;cases ht
    have all:∀ b o,b≠p->b≠lu->b≠lo->H6 b≈o->(upd (upd (upd (upd (upd H6 D (.lst ((js.map λi=>ws.getD i "").map V.str))) t (.tup ((js.map λi=>ws.getD i "").map V.str))) lu (.lst (us++[.ref t]))) p o8) lo (.lst ((B7 os).take at_.toNat++V.int (0 + (i:Int)):: (B7 os).drop at_.toNat))) b≈o:=λb o h1 h2 h3 e=>by
     rw[AD h3,AD h1,AD h2];exact keepDt _ _ e
    have tt:(upd (upd (upd (upd (upd H6 D (.lst ((js.map λi=>ws.getD i "").map V.str))) t (.tup ((js.map λi=>ws.getD i "").map V.str))) lu (.lst (us++[.ref t]))) p o8) lo (.lst ((B7 os).take at_.toNat++V.int (0 + (i:Int)):: (B7 os).drop at_.toNat))) t≈(.tup ((js.map λi=>ws.getD i "").map V.str)):=by
     rw[AD tlo,AD tp,AD tlu];exact uS
    have tups:∀ b xs,H' b≈(.tup xs)->(upd (upd (upd (upd (upd H6 D (.lst ((js.map λi=>ws.getD i "").map V.str))) t (.tup ((js.map λi=>ws.getD i "").map V.str))) lu (.lst (us++[.ref t]))) p o8) lo (.lst ((B7 os).take at_.toNat++V.int (0 + (i:Int)):: (B7 os).drop at_.toNat))) b≈(.tup xs):=λb xs e=>by
     obtain⟨oP,hP,r,b',eP,_⟩:=g.d.pot;have bp:b≠p:=λz=>by rw[z,hP,eP]at e;cases e
     have bu:b≠lu:=λz=>by rw[z,g.u]at e;cases e
     have bo:b≠lo:=λz=>by rw[z,g.o]at e;cases e
     exact all b _ bp bu bo (d6.keep b _ bp e)
    refine⟨os.take at_.toNat++i :: os.drop at_.toNat,uf++[js],us++[.ref t],Z,?_⟩;refine⟨⟨λb o hb e=>?_,?_⟩,?_,?_,?_,?_,by rw[Bw,g.ul];rfl,?_,?_,?_,?_⟩
    ·have e6:=(g.d.trans d6).keep b o hb e;exact all b o hb (λz=>by rw[z,hluH]at e;cases e) (λz=>by rw[z,hloH]at e;cases e) e6
    ·exact⟨o8,by rw[AD plo];exact uS,IE⟩
    ·exact all lw _ (Yx pw) lwu lwo w6
    ·rw[uS];unfold B7;rw[BP,Yr,Oc,List.map_drop,FV]
    ·rw[AD (Yx lou),AD (Yx plu)];exact uS
    ·exact EZ (Paired.mapP g.pu λa b z=>z.mono tups) ⟨t,Y,tt⟩
    ·intro k aJ hk;by_cases hki:k<↑uf
     ·rw[Og hki]at hk;exact g.uok k aJ hk
     ·rw[Ku (by omega)]at hk;have CV:k - ↑uf=0:=by
       have:=(Ye.mp hk).1;simp at this;omega
      rw[CV]at hk;have e:js=aJ:=by simpa using hk
      have e2:k=i:=by have:=g.ul;omega
      rw[<- e,e2];exact uok
    ·have hperm:(os.take at_.toNat++i :: os.drop at_.toNat).Perm (i :: os):=by
      refine VC.trans ?_;rw[MS]
     exact hperm.nodup_iff.mpr (Yu.mpr ⟨λz=>by have:=(g.om i).mp z;omega,g.on⟩)
    ·intro j;have hperm:(os.take at_.toNat++i :: os.drop at_.toNat).Perm (i :: os):=by
      refine VC.trans ?_;rw[MS]
     rw[hperm.mem_iff,Yl,g.om];omega
    ·have hperm:(os.take at_.toNat++i :: os.drop at_.toNat).Perm (i :: os):=by
      refine VC.trans ?_;rw[MS]
     rw[hperm.length_eq,Cd,g.ol]
  ·rintro σ H' ⟨os,uf,us,kv,rfl,g⟩;rw[Cw]at g;let E5:SW:=λσ' H2=>∃(Si:ε) (Iy:LN) (kv:OV),σ'=[↥(.ref p),↥(.int most),↥(.int (1 + v)),↥(.ref lw),↥(.int sh),↥(.ref Si),↥(.ref lu),kv]/\Drawn p H H2/\H2 lw≈(.lst (ws.map V.str))/\H2 Si≈(.lst (B7 Iy))/\H2 lu≈(.lst us)/\Paired (RL ws H2) uf us/\Iy.Nodup/\(∀ j,j∈Iy↔j<↑ws)/\↑Iy=↑ws;refine⟨E5,?_,?_⟩
   ·obtain⟨oP,hP,hoP⟩:=g.d.pot;refine⟨Z,p,3,oP,Y,hP,hoP,V,V,λv3 o9 _ _ Vz=>⟨Y,Z,?_⟩⟩;have d9:Drawn p H (upd H' p o9):=g.d.trans (Drawn.upd Vz);have t9:∀ b xs,H' b≈(.tup xs)->(upd H' p o9) b≈(.tup xs):=λb xs e=>by
     obtain⟨r,b',eP,_⟩:=hoP;rw[AD (λz=>by rw[z,hP,eP]at e;cases e)];exact e
    refine A2 (λ_=>?_) (λ_=>?_)
    ·refine⟨Z,(1:Int) + v,Y,W,W,λl hl=>?_⟩;rw[hmn,tX];have nn:∀ {b:ε} {o:HO},(upd H' p o9) b≈o->(upd (upd H' p o9) l (.lst (B7 (List.range ↑ws)))) b≈o:=λ{b o} e=>by rw[AD (AK e hl)];exact e
     exact⟨l,List.range ↑ws,Z,d9.new hl,nn (by rw[AD (Yx pw)];exact g.w),uS,nn (by rw[AD (Yx plu)];exact g.u),Paired.mapP g.pu λa b z=>(z.mono t9).mono λb xs e=>nn e,List.nodup_range,λj=>CA,by simp⟩
    ·exact⟨lo,os,Z,d9,by rw[AD (Yx pw)];exact g.w,by rw[AD (Yx plo)];exact g.o,by rw[AD (Yx plu)];exact g.u,Paired.mapP g.pu λa b z=>z.mono t9,g.on,g.om,g.ol⟩
   ·rintro σ' H2 ⟨Si,Iy,kv',rfl,dE,wE,oE,uE,pE,on,om,ol⟩;refine⟨Z,Si,Y,⟨_,SqL.of oE⟩,?_⟩;refine T5 (B4 (xs:=B7 Iy)) (sL (by unfold B7;rw[Ya];omega)) (λ_=>true)
     (λD x v H=>∃(j:Nat) (t u:ε),x=.int (j:Int)/\v=.ref t/\t≠D/\u≠D/\H t≈(.tup [.str (ws.getD j ""),.ref u])/\H u≈(.tup (((uf.getD j []).map λi=>ws.getD i "").map V.str))) ?_ ?_ ?_ ?_ ?_
    ·rintro D x v H BL hk ⟨j,t,u,e1,e2,h1,h2,h3,h4⟩;exact⟨j,t,u,e1,e2,h1,h2,hk _ _ h1 h3,hk _ _ h2 h4⟩
    ·intro H3 hs;exact hs.seq (SqL.of oE)
    ·intro x H3 R hs hx hR;exact hR H3 (AA.refl _)
    ·intro D x H3 R hs ⟨ys,hD⟩ Pj hx _ hR;obtain⟨j,hj,rfl⟩:=Yk.mp hx;have hjl:j<↑ws:=(om j).mp hj;have huj:uf[j]?≈(uf.getD j []):=by
      have:j<↑uf:=by rw[g.ul];exact hjl
      rw[Yg,Yb this];rfl
     obtain⟨uv,mK,t,rfl,mJ⟩:=gT pE huj;have So:=hs _ _ mJ;refine⟨Z,Z,lw,Q,Z,Y,SqL.of (hs _ _ wE),bY hjl,Z,Z,lu,Q,Z,Y,SqL.of (hs _ _ uE),DB mK,U,λtn htn=>?_⟩;have tD:tn≠D:=λz=>by rw[z,hD]at htn;cases htn
     have uD:t≠D:=λz=>by rw[z,hD]at So;cases So
     exact hR _ _ (λb o e=>by rw[AD (AK e htn)];exact e) ⟨j,tn,t,Y,Y,tD,uD,uS,by rw[AD (AK So htn)];exact So⟩
    ·intro D H3 ys hD hs hl hp;rw[T3]at hp;have hDH:H D=none:=by
      cases e:H D with
      | none=>rfl
      | some o =>
       by_cases z:D=p
       ·obtain⟨oP,hP,_⟩:=dE.pot;rw[z,hP]at hD;cases hD
       ·rw[dE.keep D o z e]at hD;cases hD
     refine q D (JP ws uf Iy) H3 (dE.same hs) hDH ⟨ys,hl,?_⟩ (xX (m:=↑ws) (by omega) (by omega) ok.word ok.nd rfl (λk js h=>⟨(g.uok k js h).below,(g.uok k js h).nd,(g.uok k js h).few⟩) g.ul on om ol) (by unfold JP;rw[Ya];omega);exact gw hp
def dw:Sp:=λvs H Q _=>∃ x:Str,vs=[.str x]/\↑x<=1000/\∀ H',AA H H'->Q (.bl (BD x)) H'
def g9(K:Fg):Sp:=λvs H Q _=>∃(l:ε) (ρ:RS),vs=[.ref l]/\YJ K H l ρ/\Ab ρ/\∀ H',AA H H'->Q .non H'
structure IM(H:Hp)(d:ε)(o:Obj)(ρ:RS)(ν:KL):Prop where
 at_:H d≈(.frz o (.dK ν))
 ups:Dr H ρ ν
theorem IM.mono{H H':Hp}{d:ε}{o:Obj}{ρ:RS}{ν:KL}(b:IM H d o ρ ν)(s:AA H H'):IM H' d o ρ ν:=⟨s _ _ b.at_,b.ups.mono λ_ _ e=>s _ _ e⟩
def gv:Sp:=λvs H Q _=>∃(d:ε) (o:Obj) (ρ:RS) (ν:KL),vs=[.ref d]/\IM H d o ρ ν/\Ab ρ/\∀ H',AA H H'->Q .non H'
def KQ(us left:LS):V:=match us.find? (λx=>decide (x∈left))with | some x=>.str x | none=>.non
def cU(K:Fg):Sp:=λvs H Q _=>∃(a b:ε) (us left:LS),vs=[.ref a,.ref b]/\AH K H a (us.map V.str)/\SqL K H b (left.map V.str)/\Q (KQ us left) H
def ft:Sp:=λvs H Q _=>∃(d:ε) (o:Obj) (ρ:RS) (ν:KL),vs=[.ref d]/\IM H d o ρ ν/\Ab ρ/\∀ l H',AA H H'->H' l≈(.lst [])->Q (.ref l) H'
def kE:Sp:=λvs H Q _=>∃(d:ε) (o:Obj) (ρ:RS) (ν:KL),vs=[.ref d]/\IM H d o ρ ν/\Ab ρ/\∀ H',AA H H'->Q .non H'
structure OS(mg:Str->OU):Prop where
 letters:∃ t,mg "LETTERS"≈(.str letters t)
 most:∃ t,mg "MOST_LETTERS"≈(.int 8 t)
 kinds:∃ t,mg "MOST_KINDS"≈(.int 24 t)
 ups:∃ t,mg "MOST_UPS"≈(.int 8 t)
 len:mg "len"=none
 all:mg "all"=none
 list:mg "list"=none
 tuple:mg "tuple"=none
def k9:Ad ["text"] ["text"] (AJ N3):=by nofun
def yW:(["sign"]:LS).Nodup:=by rfl'
def rH(F:Def K mg "is_word" N3 ["text"] f fd)(T:OS mg):⋯ 1 f fd ["text"] dw:=by
 nomatch F.fn.ok k9
 ·obtain⟨x,rfl,_⟩:=h;rfl
 ·obtain⟨x,rfl,hx,k⟩:=h;obtain⟨t1,hl⟩:=T.letters;obtain⟨t2,hm⟩:=T.most;refine⟨_,pS (Ae (Bs (XA NZ NZ AE (Aa Hd (by rfl) T.len Yy (pC (pv 0) AB)) (Cv (v:=.int 8) (by rfl) hm ⟨Z⟩))) (AG (AS Bg)) Af)
   (AG (AS (Aa (Kc rfl) (by rfl) T.all Ky (pC
    (BO ["sign"] [] [] (λ_=>A3 (osc:=AJ N3) (on:=["text"]) (by rfl') rfl rfl rfl) (wY (pv 0)) (λC s H fp=>Az (i:=0) yW rfl (Or.inl rfl) (Or.inr rfl)) (λC s H fp=>Br)
     (λC s H fp=>Ha qy (pv 0) (Cv (v:=.str letters) (by rfl) hl ⟨Z⟩) (by with_unfolding_all rfl))) AB)))),?_⟩
  refine⟨Z,_,Z,⟨sL (by omega),Y⟩,_,Z,Y,Z,?_⟩;have no:¬ (1<=↑x/\↑x<=8)->BD x=false:=λh=>by unfold BD;rw[Jc h];rfl
  have same:AA H H:=AA.refl H;refine A2 (λh1=>?_) (λh1=>?_)
  ·have h1:(1:Int)<=(↑x:Int):=Je h1;refine⟨_,Z,Y,Z,?_⟩;refine A2 (λh2=>?_) (λh2=>?_)
   ·have h2:¬ ((↑x:Int)<=8):=by simpa using h2
    have q:=k H same;rw[no (by omega)]at q;exact q
   ·have h2:((↑x:Int)<=8):=by simpa using h2
    refine⟨Z,Z,Lz pP (by unfold JQ;rw[Ya,Ib];exact sL (by omega)) (λ_=>true) YD (λ_ _ _=>trivial) ?_ ?_ ?_⟩
    ·intro D ys v R _ _ hR;exact hR
    ·intro D ys v R _ hv _ hR;obtain⟨c,_,e⟩:=Yk.mp hv;subst e;exact⟨Z,_,Z,Y,hR⟩
    ·intro D hD;refine⟨D,x.cps.toList.map HU,Y,SqL.of (by rw[<- rX];exact uS),?_⟩;have e:(x.cps.toList.map HU).all id=BD x:=by
      unfold BD;rw[Jb (by omega),MX,List.all_map];rfl
     have q:=k (upd H D (.lst (((JQ x).filter λ_=>true).map YD))) λb o hb=>by rw[AD (AK hb hD)];exact hb
     rw[<- e]at q;exact q
  ·have h1:¬ ((1:Int)<=(↑x:Int)):=λz=>h1 (Jb z);refine⟨Z,?_⟩;refine CG ?_;have q:=k H same;rw[no (by omega)]at q;exact q
def Wj{b:Bool}{H:Hp}{a:ε}{xs:LV}(h:EK K b H a xs):ik K (.ref a) H ↑xs:=by
 cases b with
 | true=>exact .inl ⟨xs,h,Y⟩
 | false=>exact .inr ⟨xs,h,Y⟩
def ig:Ad ["rows","seen","word","ups"] ["rows"] (AJ Um):=by nofun
def uZ(F:Def K mg "check_rows" Um ["rows"] f fd)(DW:Def K mg "is_word" N3 ["text"] fW fdW)(T:OS mg):⋯ 2 f fd ["rows"] (g9 K):=by
 have GW:⋯ 1 fW fdW ["text"] dw:=rH DW T
 nomatch F.fn.ok ig
 ·obtain⟨l,ρ,rfl,_⟩:=h;rfl
 ·obtain⟨l,ρ,rfl,⟨b,vs,hl,hp⟩,g,q⟩:=h;obtain⟨t1,hK⟩:=T.kinds;obtain⟨t2,hU⟩:=T.ups;have nd:=ig.nd;have hu:=Fy hr;refine⟨_,pS (Ae (Bs (XA NZ NZ AE (Aa Hd (by rfl) T.len Yy (pC (pv 0) AB)) (Cv (v:=.int 24) (by rfl) hK ⟨Z⟩))) Dh Af)
   (pS (sE 1 nd Nu)
   (AG (CS Bb rfl (jv (pv 0)) (IU rfl (gC (gE 2 nd) (gC (gE 3 nd) IY)))
    (pS (Ae (Bs (BZ (AO DW GW hr (pC (pv 2) AB)))) Dh Af)
    (pS (Ae (KS (Nf hu (pv 2) (pv 1))) Dh Af)
    (pS (Ae (Al Pu (Aa Hd (by rfl) T.len Yy (pC (pv 3) AB)) (Cv (v:=.int 8) (by rfl) hU ⟨Z⟩) (Ai _)) Dh Af)
    (AG (KZ hu (pv 1) (pv 2) Bg rfl)))))))),?_⟩
  have hvl:=↑hp;have g1:=g.ne;have g2:=g.le;refine⟨Z,_,Z,Wj hl,_,Z,Y,Z,?_⟩;rw[show decide ((1:Int)<=(↑vs:Int))=true from Jb (by omega)];refine CG ⟨_,Z,Y,Z,?_⟩;rw[show(decide ((↑vs:Int)<=24))=true from Jb (by omega)];refine Ap ?_;intro d hd;have s0:AA H (upd H d (.dK [])):=λb o e=>by rw[AD (AK e hd)];exact e
  refine⟨Z,b,l,vs,Y,hl.mono s0,C3 dW (λi σ H'=>∃(ν:KL) (a c:OV),σ=[↥(.ref l),↥(.ref d),a,c]/\AA H H'/\H' d≈(.dK ν)/\ν.map (·.1)=(ρ.take i).map λr=>(Sum.inr r.1:Key))
   ⟨[],none,none,Y,s0,uS,by simp⟩ (λi σ H' _ ⟨_,_,_,_,s,_⟩=>hl.mono s) ?_ ?_⟩
  ·rintro i v σ H' hi ⟨ν,a,c,rfl,s,hdk,hk⟩;obtain⟨r,As,t,u,rfl,ht,hug⟩:=B3 hp hi;obtain⟨b',BR⟩:=hug.sq;have Bx:r∈ρ:=Yd As;have hw:=g.word r Bx;have hwl:=QO hw;refine⟨t,Z,s.tup ht,Y,_,Z,_,Z,Y,?_⟩;refine⟨Z,r.1,Y,W,λH2 s2=>⟨Z,?_⟩⟩;rw[hw];refine Ap ?_;have hd2:H2 d≈(.dK ν):=s2 _ _ hdk;refine⟨Z,Z,d,Z,Bk.k (k:=Sum.inr r.1) hd2,Z,?_⟩;have BA:(Sum.inr r.1:Key)∉ν.map (·.1):=by rw[hk];exact QS g.nd As
   rw[He BA];refine Ap ?_;refine⟨Z,_,Z,Wj (BR.mono (s.trans s2)),_,Z,Y,Z,?_⟩;rw[show decide ((8:Int)<(↑(r.2.map V.str):Int))=false from Jc (by rw[Ya];have:=g.few r Bx;omega)];refine Ap ?_;have hkl:↑ν=↑(ρ.take i):=by have:=congrArg List.length hk;simpa using this
   have hil:↑(ρ.take i)<=24:=by rw[BU];omega
   refine⟨Z,Z,d,Z,Ep.k (k:=Sum.inr r.1) hd2 (B_ (by omega)),?_⟩;refine⟨Q,Z,λb o e=>?_,uS,?_⟩
   ·rw[AD (AK e hd)];exact s2 _ _ (s _ _ e)
   ·rw[XM BA,hk,Ce,As,BP];rfl
  ·rintro σ H' ⟨ν,a,c,rfl,s,hdk,hk⟩;exact q H' s
def ij:Ad ["ups_of","ups","seen","up"] ["ups_of"] (AJ UW):=by nofun
def Ls{us:LS}{i:Nat}{v:V}(h:(us.map V.str)[i]?≈v):∃ x,us[i]?≈x/\v=.str x:=by
 rw[Yh]at h;obtain⟨x,hx,e⟩:=Ip.mp h;exact⟨x,hx,e.symm⟩
def rP{us:LS}{i:Nat}{x:Str}(nd:us.Nodup)(h:us[i]?≈x):(Sum.inr x:Key)∉(us.take i).map λy=>(Sum.inr y:Key):=by
 intro m;obtain⟨y,hy,e⟩:=Yk.mp m;have e:y=x:=by injection e
 subst e;obtain⟨j,hj,ej⟩:=Kx.mp hy;rw[BU]at hj;rw[Oa]at ej;have a:us[j]?≈y:=by rw[Yb (by omega),ej]
 have:=Lx nd a h;omega
def uL(F:Def K mg "check_ups" UW ["ups_of"] f fd):⋯ 1 f fd ["ups_of"] gv:=by
 nomatch F.fn.ok ij
 ·obtain⟨d,o,ρ,ν,rfl,_⟩:=h;rfl
 ·obtain⟨d,o,ρ,ν,rfl,bk,g,q⟩:=h;have nd:=ij.nd;have hu:=Fy hr;refine⟨_,AG (CS Bb rfl (yI (pv 0)) (gE 1 nd)
    (pS (sE 2 nd Nu)
    (AG (CS Bb rfl (HZ (pv 1)) (gE 3 nd)
     (pS (Ae (KS (eh hu (pv 3) (pv 0))) Dh Af)
     (pS (Ae (KS (Nf hu (pv 3) (pv 2))) Dh Af)
     (AG (KZ hu (pv 2) (pv 3) Bg rfl)))))))),?_⟩
  refine⟨Z,d,o,ν,Y,bk.at_,C3 rE (λi σ H'=>∃(a b c:OV),σ=[↥(.ref d),a,b,c]/\AA H H') ⟨none,none,none,Y,AA.refl H⟩ (λi σ H' _ ⟨_,_,_,_,s⟩=>s _ _ bk.at_) ?_ ?_⟩
  ·rintro i v σ H' hi ⟨a,b,c,rfl,s⟩;rw[Yh]at hi;obtain⟨p,hp,e⟩:=Ip.mp hi;obtain⟨r,As,hk,t,ht,htup⟩:=B3 bk.ups hp;have Bx:r∈ρ:=Yd As;subst e;show C_ 1 p.2 _ _ _;rw[ht];intro sd hsd;have s1:AA H (upd H' sd (.dK [])):=λb o e=>by rw[AD (AK (s _ _ e) hsd)];exact s _ _ e
   have t1:(upd H' sd (.dK [])) t≈(.tup (r.2.map V.str)):=s1 _ _ htup;refine⟨Z,t,Y,⟨_,AH.of t1⟩,C3 (Ie (xs:=r.2.map V.str)) (λj σ H2=>∃(CN:KL) (c:OV),σ=[↥(.ref d),↥(.ref t),↥(.ref sd),c]/\AA H H2/\H2 sd≈(.dK CN)/\CN.map (·.1)=(r.2.take j).map λy=>(Sum.inr y:Key))
    ⟨[],Z,s1,uS,by simp⟩ (λj σ H2 _ ⟨_,_,_,s,_⟩=>AH.of (s _ _ htup)) ?_ ?_⟩
   ·rintro j v σ H2 hj ⟨CN,c,rfl,s2,Mr,CW⟩;obtain⟨x,hx,rfl⟩:=Ls hj;have xm:x∈r.2:=Yd hx;have known:=g.known r Bx x xm;refine⟨Z,Z,d,Z,Bk.f (k:=Sum.inr x) (s2 _ _ bk.at_),Z,?_⟩;obtain⟨r2,EA,S9⟩:=Yk.mp known;obtain⟨t2,LO,_⟩:=bk.ups.val g.nd EA;rw[<- S9,LO,S9];refine Ap ?_;have BA:(Sum.inr x:Key)∉CN.map (·.1):=by rw[CW];exact rP (g.upnd r Bx) hx
    refine⟨Z,Z,sd,Z,Bk.k (k:=Sum.inr x) Mr,Z,?_⟩;rw[He BA];refine Ap ?_;have hkl:↑CN=↑(r.2.take j):=by have:=congrArg List.length CW;simpa using this
    have hjl:↑(r.2.take j)<=8:=by rw[BU];have:=g.few r Bx;omega
    have hsH:H sd=none:=s.free hsd;refine⟨Z,Z,sd,Z,Ep.k (k:=Sum.inr x) Mr (B_ (by omega)),_,Z,λb o e=>?_,uS,?_⟩
    ·rw[AD (AK e hsH)];exact s2 _ _ e
    ·rw[XM BA,CW,Ce,hx,BP];rfl
   ·rintro σ H2 ⟨CN,c,rfl,s2,Mr,CW⟩;exact⟨Q,Z,s2⟩
  ·rintro σ H' ⟨a,b,c,rfl,s⟩;exact q H' s
def i9:Ad ["words","others","word"] ["words","others"] (AJ OP):=by nofun
def og(F:Def K mg "first_among" OP ["words","others"] f fd):⋯ 1 f fd ["words","others"] (cU K):=by
 nomatch F.fn.ok i9
 ·obtain⟨a,b,us,left,rfl,_⟩:=h;rfl
 ·obtain⟨a,b,us,left,rfl,ha,hb,q⟩:=h;have nd:=i9.nd;refine⟨_,pS (CS Bb rfl (HZ (pv 0)) (gE 2 nd) (AG (Ae (Al UH (pv 2) (pv 1) (by with_unfolding_all rfl)) (AG (AS (pv 2))) Af)))
   (AG (AS Nh)),?_⟩
  refine⟨Z,a,Y,⟨_,ha⟩,C3 (Ie (xs:=us.map V.str)) (λi σ H'=>H'=H/\(∃ c:OV,σ=[↥(.ref a),↥(.ref b),c])/\(us.take i).find? (λx=>decide (x∈left))=none) ⟨Y,⟨none,Y⟩,by simp⟩ (λi σ H' _ ⟨e,_⟩=>by rw[e];exact ha) ?_ ?_⟩
  ·rintro i v σ H' hi ⟨rfl,⟨c,rfl⟩,hf⟩;obtain⟨x,hx,rfl⟩:=Ls hi;refine⟨Z,Z,b,Z,.inl hb,Y,QU left,Z,?_⟩;show if Gb (.str x) (left.map V.str)=true then _ else _
   rw[Nl];have split:us=us.take i++x :: us.drop (i + 1):=by
    have AW:=(Ye.mp hx).1;have e:us[i]=x:=(Ye.mp hx).2;rw[<- e,List.getElem_cons_drop AW,MS]
   refine A2 (λh=>?_) (λh=>?_)
   ·have fv:KQ us left=.str x:=by
     unfold KQ;rw[split,List.find?_append,hf,MR];simp only[h];rfl
    rw[fv]at q;exact⟨Z,q⟩
   ·refine⟨Y,⟨Z⟩,?_⟩;rw[Ce,hx,List.find?_append,hf];have h':decide (x∈left)=false:=by simpa using h
    simp[h']
  ·rintro σ H' ⟨rfl,⟨c,rfl⟩,hf⟩;rw[Ya,Dy]at hf;have fv:KQ us left=.non:=by unfold KQ;rw[hf]
   rw[fv]at q;exact q
def YE(ρ:RS)(ls:LS):V->Bool
 | .str x=>(An ρ x).any λu=>decide (u∈ls)
 | _=>false
def oH(ρ:RS)(ls:LS):((ls.map V.str).filter (YE ρ ls)).map (λv=>v)=(Graph.kept (An ρ) ls).map V.str:=by
 rw[Hh,Oj];rfl
def pF(us ls:LS):(!decide (KQ us ls=V.non))=us.any λu=>decide (u∈ls):=by
 unfold KQ;cases e:us.find? λx=>decide (x∈ls)with
 | none =>
  have:∀ x∈us,¬ decide (x∈ls)=true:=List.find?_eq_none.mp e;rw[Im];constructor
  ·intro h;simp at h
  ·intro h;obtain⟨x,hx,h1⟩:=F8.mp h;exact absurd h1 (this x hx)
 | some x =>
  have h1:=List.find?_some e;have h2:=List.mem_of_find?_eq_some e;rw[Im];constructor
  ·intro _;exact F8.mpr ⟨x,h2,h1⟩
  ·intro _;rfl
abbrev iR:LS:=["ups_of","left","kept"]
def Zm:Ad iR ["ups_of"] (AJ N2):=by nofun
def wF:(["word","ups_of","left"]:LS).Nodup:=by rfl'
def Gw{ρ:RS}{x:Str}(h:x∈ρ.map (·.1)):∃ r∈ρ,r.1=x:=by
 obtain⟨r,hr,e⟩:=Yk.mp h;exact⟨r,hr,e⟩
def tK(F:Def K mg "endless" N2 ["ups_of"] f fd)(DF:Def K mg "first_among" OP ["words","others"] fF fdF)(T:OS mg):⋯ 2 f fd ["ups_of"] ft:=by
 have GF:⋯ 1 fF fdF ["words","others"] (cU K):=og DF
 nomatch F.fn.ok Zm
 ·obtain⟨d,o,ρ,ν,rfl,_⟩:=h;rfl
 ·obtain⟨d,o,ρ,ν,rfl,bk,g,q⟩:=h;have nd:=Zm.nd;have hu:=Fy hr
  ac_nf
  refine⟨_,pS (Bt (i:=1) nd rfl (Or.inr rfl) (F6 (uc rfl) (by rfl) T.list Io (pC (pv 0) AB)))
   (AG (Kg Bb (BZ Bg)
    (pS (L6 (k:=2) ["word"] ["ups_of","left"] [0,1] nd rfl rfl (λ_=>A3 (osc:=AJ N2) (on:=iR) (by rfl') rfl rfl rfl) (Bn (pv 1)) (λC s H fp=>Az (i:=0) wF rfl (Or.inl rfl) (Or.inr rfl))
     (λC s H fp=>F3 (KS (cH (AO DF GF hr (pC (JS hu (pv 1) (pv 0) (λ_ _=>rfl)) (pC (pv 2) AB)))))) (λC s H fp=>pv 0))
    (pS (Ae (Al Cs (Aa Hd (by rfl) T.len Yy (pC (pv 2) AB)) (Aa Hd (by rfl) T.len Yy (pC (pv 1) AB)) (Ai _)) (AG (AS (pv 2))) Af)
    (AG (Bt (i:=1) nd rfl (Or.inr rfl) (pv 2))))))),?_⟩
  exists let b:=AF _ a;let c:=AF _ b;let e:=Lp _ c;AF _ e _ _ _
  have wl:↑(ρ.map (·.1))<=24:=by rw[Ya];exact g.le
  refine⟨Z,d,ν,Y,.inr ⟨o,bk.at_⟩,λl0 NK=>?_⟩;let E5:NW:=λm σ H'=>∃(ll:ε) (ls:LS) (c:OV),σ=[↥(.ref d),↥(.ref ll),c]/\AA H H'/\H' ll≈(.lst (ls.map V.str))/\(∀ x∈ls,x∈ρ.map (·.1))/\↑ls<=24/\m=↑ls;refine⟨E5,
   ⟨_,l0,ρ.map (·.1),none,Y,λb o e=>by rw[AD (AK e NK)];exact e,by rw[uS,YF bk.ups],λx h=>h,wl,Y⟩,?_⟩
  rintro m σ H' ⟨ll,ls,c,rfl,s1,hll,hsub,h24,rfl⟩;refine⟨true,Y,?_⟩;let Hj:SW:=λσ' H2=>∃ m',m'<↑ls/\∃(ll:ε) (ls:LS) (c:OV),σ'=[↥(.ref d),↥(.ref ll),c]/\AA H H2/\H2 ll≈(.lst (ls.map V.str))/\(∀ x∈ls,x∈ρ.map (·.1))/\↑ls<=24/\m'=↑ls;refine CG ⟨Hj,λ_ _ h=>h,?_⟩;refine⟨Z,ll,Y,⟨_,SqL.of hll⟩,Lz (B4 (xs:=ls.map V.str)) (sL (by rw[Ya];omega)) (YE ρ ls) (λv=>v) (λD ys hD=>SqL.of (by rw[AD (AK hll hD)];exact hll)) ?_ ?_ ?_⟩
  ·intro D ys v R hD hv hR;obtain⟨x,hx,rfl⟩:=Yk.mp hv;obtain⟨r,As,rfl⟩:=Gw (hsub x hx);obtain⟨t,hvt,ht⟩:=bk.ups.val g.nd As;have kp:∀ b o,H b≈o->(upd H' D (.lst ys)) b≈o:=λb o e=>by rw[AD (AK (s1 _ _ e) hD)];exact s1 _ _ e
   refine⟨Z,Z,d,Z,(by rw[<- hvt];exact Bk.f (k:=Sum.inr r.1) (kp _ _ bk.at_)),Z,t,ll,r.2,ls,Y,AH.of (kp _ _ ht),SqL.of (by rw[AD (AK hll hD)];exact hll),Z,?_⟩;have e:(!decide (KQ r.2 ls=V.non))=YE ρ ls (V.str r.1):=by
    rw[pF];show _=(An ρ r.1).any _;rw[Ny g.nd As]
   rw[e];exact hR
  ·intro D ys v R hD hv _ hR;exact⟨Z,hR⟩
  ·intro D hD;rw[oH];have hDl:(upd H' D (.lst ((Graph.kept (An ρ) ls).map V.str))) ll≈(.lst (ls.map V.str)):=by rw[AD (AK hll hD)];exact hll
   have s2:AA H (upd H' D (.lst ((Graph.kept (An ρ) ls).map V.str))):=λb o e=>by rw[AD (AK (s1 _ _ e) hD)];exact s1 _ _ e
   refine⟨Z,_,Z,.inl ⟨_,SqL.of uS,Y⟩,Z,_,Z,.inl ⟨_,SqL.of hDl,Y⟩,Y,Z,?_⟩;have kle:=Graph.kept_le (An ρ) ls;refine A2 (λh=>?_) (λh=>?_)
   ·have h:↑(Graph.kept (An ρ) ls)=↑ls:=by
     have:=Je h;injection this with this;rw[Ya,Ya]at this;omega
    obtain⟨rk,hrk⟩:=g.rank;have nil:ls=[]:=Graph.kept_nil (rk:=rk) (λa ha b hb=>by
     obtain⟨r,As,rfl⟩:=Gw (hsub a ha);rw[Ny g.nd As]at hb;exact hrk r As b hb) h
    have kn:Graph.kept (An ρ) ls=[]:=by rw[nil];rfl
    refine⟨Z,q D _ s2 ?_⟩;rw[uS,kn];rfl
   ·have h:↑(Graph.kept (An ρ) ls)≠↑ls:=λz=>h (Jb (by rw[Ya,Ya,z]));exact⟨Z,_,W,D,_,Z,s2,uS,λx hx=>hsub x (Graph.kept_sub hx),W,Y⟩
def Zj:Ad ["ups_of","left","way","here"] ["ups_of"] (AJ UX):=by nofun
def x_(F:Def K mg "find_ring" UX ["ups_of"] f fd)(DE:Def K mg "endless" N2 ["ups_of"] fE fdE)(DF:Def K mg "first_among" OP ["words","others"] fF fdF)(T:OS mg):⋯ 3 f fd ["ups_of"] kE:=by
 have GE:⋯ 2 fE fdE ["ups_of"] ft:=tK DE DF T
 nomatch F.fn.ok Zj
 ·obtain⟨d,o,ρ,ν,rfl,_⟩:=h;rfl
 ·obtain⟨d,o,ρ,ν,rfl,bk,g,q⟩:=h;have nd:=Zj.nd
  ac_nf
  refine⟨_,pS (sE 1 nd (AO DE GE hr (pC (pv 0) AB)))
   (pS (Ae (Bs (XB (pv 1) (λ_=>rfl))) (AG (AS Nh)) Af) Dh),?_⟩
  exists let b:=AF _ a;AF _ b _ _ _
  refine⟨Z,d,o,ρ,ν,Y,bk,g,λl H' s1 hl=>?_⟩;exact⟨Z,false,.inl ⟨[],SqL.of hl,Y⟩,CG (q H' s1)⟩
def O_(x:Str):Key:=Sum.inr x
def cw:Sp:=λvs H Q _=>∃(d:ε) (o:Obj) (ρ:RS) (ν:KL) (x:Str),vs=[.ref d,.str x]/\IM H d o ρ ν/\Ab ρ/\x∈ρ.map (·.1) /\
 ∀ a o' fk H',H a=none->AA H H'->H' a≈(.frz o' (.dK fk))->(∀ y,(Sum.inr y:Key)∈fk.map (·.1)↔Graph.Reach (An ρ) x y)->Q (.ref a) H'
structure YH(ρ:RS)(x:Str)(fs ws:LS):Prop where
 start:x∈fs
 sub:∀ y∈ws,y∈fs
 known:∀ y∈fs,y∈ρ.map (·.1)
 nd:fs.Nodup
 reach:∀ y∈fs,Graph.Reach (An ρ) x y
 closed:∀ y∈fs,y∉ws->∀ u∈An ρ y,u∈fs
 few:↑ws<=↑fs
def Zn:Ad ["ups_of","word","found","waiting","here","up"] ["ups_of","word"] (AJ UU):=by nofun
def XY{fk:KL}{fs:LS}(h:fk.map (·.1)=fs.map O_)(y:Str):(Sum.inr y:Key)∈fk.map (·.1)↔y∈fs:=by
 rw[h];constructor
 ·intro m;obtain⟨z,hz,e⟩:=Yk.mp m;have e:z=y:=by
   unfold O_ at e;injection e
  rw[<- e];exact hz
 ·intro m;exact Yk.mpr ⟨y,m,Y⟩
def UY{fk:KL}{k:Key}(h:k∈fk.map (·.1)):(Bm fk k).isSome=true:=by
 cases e:Bm fk k with
 | none=>exact absurd h (pY e)
 | some v=>rfl
def oU(F:Def K mg "all_above" UU ["ups_of","word"] f fd):⋯ 1 f fd ["ups_of","word"] cw:=by
 nomatch F.fn.ok Zn
 ·obtain⟨d,o,ρ,ν,x,rfl,_⟩:=h;rfl
 ·obtain⟨d,o,ρ,ν,x,rfl,bk,g,hx,q⟩:=h;have nd:=Zn.nd;have hu:=Fy hr
  ac_nf
  refine⟨_,pS (sE 2 nd (yD (pI (pv 1) Bg yJ) rfl rfl (by simp) (by show 1<=15;decide)))
   (pS (sE 3 nd (CI (pC (pv 1) AB)))
   (pS (Kg Bb (XB (pv 3) (λ_=>rfl))
    (pS (sE 4 nd (wU Yz PySem.F.slot_list_pop PySem.F.type_list_pop v7 (pv 3)))
    (AG (CS Bb rfl (HZ (JS hu (pv 0) (pv 4) (λ_ _=>rfl))) (gE 5 nd)
     (AG (Ae (KS (eh hu (pv 5) (pv 2))) (pS (KZ hu (pv 2) (pv 5) Bg rfl)
      (AG (B8 (Ct Yz E4 E3 EF (pv 3) (pC (pv 5) AB))))) Af))))))
   (Ww (AG (AS (pv 2)))))),?_⟩
  exists let b:=_;let c:=AF _ b;let e:=HP _ c _;let f:=Es _ _ e;let g:=AF _ f;let h:=AF (Lp _ g) a;let i:=AF _ h;AF _ i _ _ _
  intro fa hfa;refine⟨Z,uS,[(Sum.inr x,.bl true)],Y,(by show 1<=15;decide),?_⟩;rw[Np];refine⟨Z,G,λwa hwa=>?_⟩;have fw:fa≠wa:=AK uS hwa;have hwaH:H wa=none:=by
   cases e:H wa with
   | none=>rfl
   | some u=>rw[AD (Yx fw),e]at hwa;cases hwa
  have bound:∀ {fs ws:LS},YH ρ x fs ws->↑fs<=↑ρ:=λ{fs ws} h=>by
   have:=Graph.nodup_le h.nd h.known
   rwa [Ya]at this
  have gle:=g.le;let zy:NW:=λm σ H'=>∃(fs ws:LS) (fk:KL) (a b:OV),σ=[↥(.ref d),↥(.str x),↥(.ref fa),↥(.ref wa),a,b]/\AA H H'/\H' fa≈(.dK fk)/\fk.map (·.1)=fs.map O_/\H' wa≈(.lst (ws.map V.str))/\YH ρ x fs ws/\m + 2 * ↑fs=2 * ↑ρ + ↑ws;refine⟨zy,
   ⟨2 * ↑ρ - 1,[x],[x],[(Sum.inr x,.bl true)],none,none,Y,λb o e=>by rw[AD (AK e hwaH),AD (AK e hfa)];exact e,by rw[AD fw];exact uS,Y,uS,
    ⟨by simp,λy h=>h,λy h=>by rw[Yi.mp h];exact hx,by simp,λy h=>by rw[Yi.mp h];exact .refl x,λy h n=>absurd h n,Yf _⟩,by have:=g.ne;simp;omega⟩,?_⟩
  rintro m σ H' ⟨fs,ws,fk,a,b,rfl,s1,hf,hk,hw,go,hm⟩;have flen:=bound go;refine⟨Z,_,.inl ⟨_,SqL.of hw,Y⟩,?_⟩;refine A2 (λBG=>?_) (λBG=>?_)
  ·-- here=waiting.pop()
   have wne:ws≠[]:=by
    intro z;rw[z]at BG;cases BG
   have hpos:0<↑ws:=ML.mpr wne;have split:ws=ws.dropLast++[ws.getLast wne]:=(List.dropLast_concat_getLast wne).symm;generalize hhere:ws.getLast wne=here at split;have Bx:here∈ws:=by rw[split];simp
   have hfs:here∈fs:=go.sub here Bx;obtain⟨r,As,er⟩:=Gw (go.known here hfs);obtain⟨t,hvt,ht⟩:=bk.ups.val g.nd As;have last:(ws.map V.str)[↑(ws.map V.str) - 1]?≈(V.str here):=by
    rw[Yh,Ya];have:ws[↑ws - 1]?≈here:=by
     rw[<- hhere,List.getLast_eq_getElem,Yb (by omega)]
    rw[this];rfl
   let zx:SW:=λσ' H2=>∃ m',m'<m/\∃(fs ws:LS) (fk:KL) (a b:OV),σ'=[↥(.ref d),↥(.str x),↥(.ref fa),↥(.ref wa),a,b]/\AA H H2/\H2 fa≈(.dK fk)/\fk.map (·.1)=fs.map O_/\H2 wa≈(.lst (ws.map V.str))/\YH ρ x fs ws/\m' + 2 * ↑fs=2 * ↑ρ + ↑ws;refine⟨zx,λ_ _ h=>h,?_⟩;refine⟨Z,.inl ⟨Y,_,SqL.of hw⟩,wa,_,Z,Y,hw,last,?_⟩;have s2:AA H (upd H' wa (.lst (ws.map V.str).dropLast)):=λb o e=>by rw[AD (AK e hwaH)];exact s1 _ _ e
   refine⟨Z,Z,d,Z,(by rw[<- hvt,er];exact Bk.f (k:=Sum.inr here) (s2 _ _ bk.at_)),t,Y,⟨_,AH.of (s2 _ _ ht)⟩,?_⟩;have uo:An ρ here=r.2:=by rw[<- er];exact Ny g.nd As
   refine C3 (Ie (xs:=r.2.map V.str)) (λj σ H2=>∃(B0 FX:LS) (BW:KL) (b:OV),σ=[↥(.ref d),↥(.str x),↥(.ref fa),↥(.ref wa),↥(.str here),b]/\AA H H2/\H2 fa≈(.dK BW)/\BW.map (·.1)=B0.map O_/\H2 wa≈(.lst (FX.map V.str)) /\
    (∀ y∈fs,y∈B0)/\(∀ y∈ws.dropLast,y∈FX)/\(∀ y∈FX,y∈B0)/\(∀ y∈B0,y∈ρ.map (·.1))/\B0.Nodup/\(∀ y∈B0,Graph.Reach (An ρ) x y)/\(∀ y∈B0,y∈fs\/y∈FX)/\(∀ u∈r.2.take j,u∈B0)/\↑FX + 2 * ↑fs + ↑B0<=↑ws.dropLast + 2 * ↑B0 + ↑fs)
    ⟨fs,ws.dropLast,fk,Z,s2,by rw[AD fw];exact hf,hk,by rw[uS,List.map_dropLast],λy h=>h,λy h=>h,λy h=>go.sub y ((List.dropLast_sublist ws).subset h),go.known,go.nd,go.reach,λy h=>.inl h,λu h=>by simp at h,W⟩ (λj σ H2 _ h0=>by obtain⟨_,_,_,_,_,s,_⟩:=h0;exact AH.of (s _ _ ht)) ?_ ?_
   ·rintro j v σ H2 hj ⟨B0,FX,BW,b,rfl,s3,Pa,LZ,LM,c1,c2,c3,c4,c5,c6,c7,c8,c9⟩;obtain⟨u,BR,rfl⟩:=Ls hj;have um:u∈r.2:=Yd BR;have nV:↑B0<=↑ρ:=by
     have:=Graph.nodup_le c5 c4
     rwa [Ya]at this
    have kl:↑BW=↑B0:=by have:=congrArg List.length LZ;simpa using this
    refine⟨Z,Z,fa,Z,Bk.k (k:=Sum.inr u) Pa,Z,?_⟩;have dl:↑ws.dropLast=↑ws - 1:=RG;have gf:=go.few;by_cases nin:u∉B0
    ·have nk:(Sum.inr u:Key)∉BW.map (·.1):=λz=>nin ((XY LZ u).mp z);have VR:↑FX<=↑ρ * 3:=by omega
     rw[He nk];refine CG ?_;refine⟨Z,Z,fa,Z,Ep.k (k:=Sum.inr u) Pa (B_ (by omega)),?_⟩;have aO:(upd H2 fa (.dK (BX BW (Sum.inr u) (.bl true)))) wa≈(.lst (FX.map V.str)):=by rw[AD (Yx fw)];exact LM
     refine⟨Z,.inl ⟨Y,_,SqL.of aO⟩,Z,wa,_,Z,Y,aO,B_ (by rw[Ya];omega),?_⟩;refine⟨B0++[u],FX++[u],BX BW (Sum.inr u) (.bl true),Z,λb o e=>by rw[AD (AK e hwaH),AD (AK e hfa)];exact s3 _ _ e,by rw[AD fw];exact uS,?_,by rw[uS,BP];rfl,λy h=>Jm _ (c1 y h),λy h=>Jm _ (c2 y h),λy h=>?_,λy h=>?_,?_,λy h=>?_,λy h=>?_,λy h=>?_,?_⟩
     ·rw[XM nk,LZ,BP];rfl
     ·rcases Yp.mp h with h | h
      ·exact Jm _ (c3 y h)
      ·exact Yw _ h
     ·rcases Yp.mp h with h | h
      ·exact c4 y h
      ·rw[Yi.mp h];exact g.known r As u um
     ·rw[Iq];exact⟨c5,by simp,λa ha b hb e=>nin (by rw[<- Yi.mp hb,<- e];exact ha)⟩
     ·rcases Yp.mp h with h | h
      ·exact c6 y h
      ·rw[Yi.mp h];exact(go.reach here hfs).snoc (by rw[uo];exact um)
     ·rcases Yp.mp h with h | h
      ·rcases c7 y h with h | h
       ·exact .inl h
       ·exact .inr (Jm _ h)
      ·exact .inr (Yw _ h)
     ·rw[Ce,BR]at h
      rcases Yp.mp h with h | h
      ·exact Jm _ (c8 y h)
      ·have:y=u:=by simpa using h
       rw[this];exact Yw _ (by simp)
     ·rw[Bw,Bw];simp only[List.length_singleton];omega
    ·have yin:u∈B0:=Kr nin;rw[UY ((XY LZ u).mpr yin)];refine Ap ?_;refine⟨B0,FX,BW,Z,s3,Pa,LZ,LM,c1,c2,c3,c4,c5,c6,c7,λy h=>?_,c9⟩;rw[Ce,BR]at h
     rcases Yp.mp h with h | h
     ·exact c8 y h
     ·have:y=u:=by simpa using h
      rw[this];exact yin
   ·rintro σ H2 ⟨B0,FX,BW,b,rfl,s3,Pa,LZ,LM,c1,c2,c3,c4,c5,c6,c7,c8,c9⟩;rw[Ya,Dy]at c8;have nV:↑B0<=↑ρ:=by
     have:=Graph.nodup_le c5 c4
     rwa [Ya]at this
    have dl:↑ws.dropLast=↑ws - 1:=RG;have fle:↑fs<=↑B0:=Graph.nodup_le go.nd c1;have gf:=go.few;refine⟨2 * ↑ρ + ↑FX - 2 * ↑B0,W,B0,FX,BW,_,Z,s3,Pa,LZ,LM,⟨c1 x go.start,c3,c4,c5,c6,λy hy hn u BR=>?_,W⟩,W⟩
    rcases c7 y hy with IB | IB
    ·by_cases yh:y=here
     ·rw[yh,uo]at BR;exact c8 u BR
     ·have nw:y∉ws:=λz=>by
       rw[split]at z
       rcases Yp.mp z with z | z
       ·exact hn (c2 y z)
       ·exact yh (Yi.mp z)
      exact c1 u (go.closed y IB nw u BR)
    ·exact absurd IB hn
  ·have wnil:ws=[]:=by
    cases ws with
    | nil=>rfl
    | cons y r=>exact absurd rfl BG
   refine⟨fa,fk,hf,λo'=>⟨Z,q fa o' fk _ hfa (λb o e=>by rw[AD (AK e hfa)];exact s1 _ _ e) uS λy=>?_⟩⟩;rw[XY hk y];constructor
   ·exact λh=>go.reach y h
   ·intro h;refine Graph.closed_reach (S:=λy=>y∈fs) (λy hy u BR=>go.closed y hy (by rw[wnil];simp) u BR) h go.start
def WE:¬ (("ups_of":Str)="above_of"):=by rfl'
def Fo(d a:ε):List (Str×V):=Be "above_of" (.ref a) (Be "ups_of" (.ref d) [])
def jf(d a:ε):(Fo d a).lookup ("ups_of":Str)≈(.ref d):=by
 unfold Fo;rw[EY,if_neg WE,EY,if_pos rfl]
def je(d a:ε):(Fo d a).lookup ("above_of":Str)≈(.ref a):=by
 unfold Fo;rw[EY,if_pos rfl]
def QA(d a:ε){m:Str}(h1:¬ m="above_of")(h2:¬ m="ups_of"):(Fo d a).lookup m=none:=by
 unfold Fo;rw[EY,if_neg h1,EY,if_neg h2];rfl
def HV(H:Hp)(all ρ:RS)(AL:KL):Prop :=
 Paired (λr (p:Key×V)=>p.1=Sum.inr r.1/\∃ t o' fk,p.2=.ref t/\H t≈(.frz o' (.dK fk))/\∀ y,(Sum.inr y:Key)∈fk.map (·.1)↔Graph.Reach (An all) r.1 y) ρ AL
def HV.mono{H H':Hp}{all ρ:RS}{AL:KL}(h:HV H all ρ AL)(s:∀ b o' fk,H b≈(.frz o' (.dK fk))->H' b≈(.frz o' (.dK fk))):HV H' all ρ AL :=
 Paired.mapP h λ_ _ z=>⟨z.1,let⟨t,o',fk,e,x,y⟩:=z.2;⟨t,o',fk,e,s _ _ _ x,y⟩⟩
theorem HV.keys:∀ {H:Hp}{all ρ:RS}{ν:KL},HV H all ρ ν->ν.map (·.1)=ρ.map λr=>(Sum.inr r.1:Key)
 | _,_,_,_,.nil=>rfl
 | _,_,_,_,.cons r t=>by rw[Yr,Yr,r.1,HV.keys t]
theorem HV.val:∀ {H:Hp}{all ρ:RS}{ν:KL},HV H all ρ ν->(ρ.map (·.1)).Nodup->∀ {r:Str×LS},r∈ρ->∃ t o' fk,Bm ν (Sum.inr r.1)≈(.ref t)/\H t≈(.frz o' (.dK fk))/\∀ y,(Sum.inr y:Key)∈fk.map (·.1)↔Graph.Reach (An all) r.1 y
 | _,_,_,_,.nil,_,r,h=>nomatch h
 | _,_,q :: rs,p :: ps,.cons z t,nd,r,h=>by
  have FZ:(q.1 :: rs.map (·.1)).Nodup:=nd;obtain⟨n1,n2⟩:=Yu.mp FZ;obtain⟨z1,u,o',fk,z2,z3,z4⟩:=z
  rcases Yl.mp h with e | h
  ·subst e;exact⟨u,o',fk,by rw[N0 z1,z2],z3,z4⟩
  ·have ne:¬ p.1=(Sum.inr r.1:Key):=λe=>n1 (by
    rw[z1]at e;have e':q.1=r.1:=by injection e
    rw[e'];exact Yk.mpr ⟨r,h,Y⟩)
   obtain⟨u',LI,BW,h1,h2⟩:=HV.val t n2 h;exact⟨u',LI,BW,by rw[Nz ne];exact h1,h2⟩
structure BN(C:ε)(H:Hp)(p:ε)(ρ:RS):Prop where
 ex:∃(dx d a:ε) (o oa:Obj) (ν AL:KL),H p≈(.ins C dx (Fo d a))/\IM H d o ρ ν/\H a≈(.frz oa (.dK AL))/\HV H ρ ρ AL
theorem BN.mono{C:ε}{H H':Hp}{p:ε}{ρ:RS}(h:BN C H p ρ)(s:AA H H'):BN C H' p ρ:=by
 obtain⟨dx,d,a,o,oa,ν,AL,h1,h2,h3,h4⟩:=h.ex;exact⟨dx,d,a,o,oa,ν,AL,s _ _ h1,h2.mono s,s _ _ h3,h4.mono λ_ _ _ e=>s _ _ e⟩
structure C0(K:Fg)(C:ε):Prop where
 cl:G9 K C
 nU:HX K C "ups_of"
 nA:HX K C "above_of"
structure HK(K:Fg)(C:ε)(m qual:Str)(st:Stmt)(ps:LS)(f:ε)(fd:FuncData):Prop where
 fn:Bj K m qual st f fd
 b:C1 K fd ps []
 me:Ux K C m f
def WZ(K:Fg)(C:ε):Sp:=λvs H Q _=>∃(p dx l:ε) (ρ:RS),vs=[.ref p,.ref l]/\H p≈(.ins C dx [])/\YJ K H l ρ/\Ab ρ /\
 ∀ H',BN C H' p ρ->(∀ b o,b≠p->H b≈o->H' b≈o)->Q .non H'
def Wo(C:ε):Sp:=λvs H Q _=>∃(p:ε) (ρ:RS) (x:Str),vs=[.ref p,.str x]/\BN C H p ρ/\Ab ρ/\x∈ρ.map (·.1)/\Q .non H
def YR(C:ε):Sp:=λvs H Q _=>∃(p:ε) (ρ:RS) (x:Str),vs=[.ref p,.str x]/\BN C H p ρ/\Ab ρ/\Q (.bl (decide (x∈ρ.map (·.1)))) H
def Av(ρ:RS)(x y:Str):Bool:=@decide (Graph.Reach (An ρ) x y) (Classical.propDecidable _)
def QE(C:ε):Sp:=λvs H Q _=>∃(p:ε) (ρ:RS) (x y:Str),vs=[.ref p,.str x,.str y]/\BN C H p ρ/\Ab ρ/\x∈ρ.map (·.1)/\y∈ρ.map (·.1)/\Q (.bl (Av ρ x y)) H
def Zl:Ad ["self","rows","ups_of","word","ups","ring","above_of"] ["self","rows"] (AJ Xt):=by nofun
def xt(F:Bj K "__init__" "Kinds.__init__" Xt f fd)(T:OS mg)(TC:C0 K C)(D1:Def K mg "check_rows" Um ["rows"] f1 d1)(D2:Def K mg "is_word" N3 ["text"] f2 d2)
  (D3:Def K mg "check_ups" UW ["ups_of"] f3 d3) (D4:Def K mg "find_ring" UX ["ups_of"] f4 d4) (D5:Def K mg "endless" N2 ["ups_of"] f5 d5) (D6:Def K mg "first_among" OP ["words","others"] f6 d6) (D7:Def K mg "all_above" UU ["ups_of","word"] f7 d7):
  ⋯ 4 f fd ["self","rows"] (WZ K C):=by
 have G1:⋯ 2 f1 d1 ["rows"] (g9 K):=uZ D1 D2 T;have G3:⋯ 1 f3 d3 ["ups_of"] gv:=uL D3;have G4:⋯ 3 f4 d4 ["ups_of"] kE:=x_ D4 D5 D6 T;have G7:⋯ 1 f7 d7 ["ups_of","word"] cw:=oU D7
 nomatch F.ok Zl
 ·obtain⟨p,dx,l,ρ,rfl,_⟩:=h;rfl
 ·obtain⟨p,dx,l,ρ,rfl,hp,hR,g,q⟩:=h;have nd:=Zl.nd;have hu:=Fy hr;have Ac:AV 1 _:=hr.mono (by decide);have EA:AV 2 _:=hr.mono (by decide)
  ac_nf
  refine⟨_,pS (B8 (AO D1 G1 EA (pC (pv 1) AB)))
   (pS (sE 2 nd Nu)
   (pS (CS Bb rfl (jv (pv 1)) (IU rfl (gC (gE 3 nd) (gC (gE 4 nd) IY)))
    (AG (KZ hu (pv 2) (pv 3) (F6 L8 (by rfl) T.tuple Jo (pC (pv 4) AB)) rfl)))
   (Ww (pS (B8 (AO D3 G3 Ac (pC (pv 2) AB)))
   (pS (sE 5 nd (AO D4 G4 hr (pC (pv 2) AB)))
   (pS (Ae (KS (cH (pv 5))) Dh Af)
   (pS (sE 6 nd Nu)
   (pS (CS Bb rfl (cJ (pv 2)) (gE 3 nd) (AG (KZ hu (pv 6) (pv 3) (AO D7 G7 Ac (pC (pv 2) (pC (pv 3) AB))) rfl)))
   (Ww (pS (P6 (pv 0) (pv 2) rfl) (AG (P6 (pv 0) (pv 6) rfl)))))))))))),?_⟩
  exists let b:=_;let c:=AF (Es _ _ b) a;let e:=AF _ c;AF _ e _ _ _
  refine⟨Z,l,ρ,Y,hR,g,λH1 s1=>?_⟩;intro d hd;have s2:AA H (upd H1 d (.dK [])):=λb o e=>by rw[AD (AK (s1 _ _ e) hd)];exact s1 _ _ e
  obtain⟨b,vs,hl,hpr⟩:=hR;let EM:NW:=λi σ H'=>∃(ν:KL) (a c:OV),σ=[↥(.ref p),↥(.ref l),↥(.ref d),a,c,none,none]/\AA H H'/\H' d≈(.dK ν)/\Dr H' (ρ.take i) ν;refine⟨Z,b,l,vs,Y,hl.mono s2,C3 dW EM
   ⟨[],none,none,Y,s2,uS,by rw[Ik];exact .nil⟩ (λi σ H' _ h0=>by obtain⟨_,_,_,_,s,_⟩:=h0;exact hl.mono s) ?_ ?_⟩
  ·rintro i v σ H' hi ⟨ν,a,c,rfl,s3,hdk,hU⟩;obtain⟨r,As,t,u,rfl,ht,hug⟩:=B3 hpr hi;have dH:H d=none:=s1.free hd;refine⟨t,Z,s3.tup ht,Y,_,Z,_,Z,Y,?_⟩;have BA:(Sum.inr r.1:Key)∉ν.map (·.1):=by rw[hU.keys];exact QS g.nd As
   have hil:↑(ρ.take i)<=24:=by rw[BU];have:=g.le;omega
   have hkl:↑ν=↑(ρ.take i):=(A_ hU).symm;have fin:∀(t2:ε) (H2:Hp),AA H' H2->H2 t2≈(.tup (r.2.map V.str))->∃(CN:KL) (a c:OV),[↥(V.ref p),↥(V.ref l),↥(V.ref d),↥(V.str r.1),↥(V.ref u),none,none]=[↥(V.ref p),↥(V.ref l),↥(V.ref d),a,c,none,none]/\AA H (upd H2 d (.dK (BX ν (Sum.inr r.1) (.ref t2)))) /\
     (upd H2 d (.dK (BX ν (Sum.inr r.1) (.ref t2)))) d≈(.dK CN)/\Dr (upd H2 d (.dK (BX ν (Sum.inr r.1) (.ref t2)))) (ρ.take (i + 1)) CN:=λt2 H2 s4 Bp=>by
    have d2:=s4 _ _ hdk;have tk:∀ b xs,H2 b≈(.tup xs)->(upd H2 d (.dK (BX ν (Sum.inr r.1) (.ref t2)))) b≈(.tup xs):=λb xs e=>by
     rw[AD (λz=>by rw[z,d2]at e;cases e)];exact e
    refine⟨Q,Z,λb o e=>by rw[AD (AK e dH)];exact s4 _ _ (s3 _ _ e),uS,?_⟩;have sn:Dr (upd H2 d (.dK (BX ν (Sum.inr r.1) (.ref t2)))) (ρ.take i++[r]) (ν++[(Sum.inr r.1,V.ref t2)]):=EZ ((hU.mono λb xs e=>s4 _ _ e).mono tk) ⟨Y,t2,Y,tk t2 _ Bp⟩;rw[<- Nv _ (He BA)]at sn;rw[Ce,As];exact sn
   rcases hug with hug | hug
   ·refine⟨Z,u,Z,.inr ⟨AH.of (s3 _ _ hug),Z,Z,d,Z,Ep.k (k:=Sum.inr r.1) hdk (B_ (by omega)),fin u H' (AA.refl _) (s3 _ _ hug)⟩⟩
   ·refine⟨Z,u,Z,.inl ⟨s3.seq hug,λt2 Bp=>?_⟩⟩;have s4:AA H' (upd H' t2 (.tup (r.2.map V.str))):=λb o e=>by rw[AD (AK e Bp)];exact e
    exact⟨Z,Z,d,Z,Ep.k (k:=Sum.inr r.1) (s4 _ _ hdk) (B_ (by omega)),fin t2 _ s4 uS⟩
  ·rintro σ H2 ⟨ν,a,c,rfl,s3,hdk,hU⟩;have hvl:=↑hpr;rw[<- hvl,Dy]at hU;refine⟨d,ν,hdk,λo=>?_⟩;have dH:H d=none:=s1.free hd;have s4:AA H (upd H2 d (.frz o (.dK ν))):=λb u e=>by rw[AD (AK e dH)];exact s3 _ _ e
   have bk:IM (upd H2 d (.frz o (.dK ν))) d o ρ ν:=⟨uS,hU.mono λb xs e=>by rw[AD (λz=>by rw[z,hdk]at e;cases e)];exact e⟩;refine⟨Z,d,o,ρ,ν,Y,bk,g,λH5 s5=>?_⟩;refine⟨Z,d,o,ρ,ν,Y,bk.mono s5,g,λH6 s6=>?_⟩;refine⟨Z,Z,Ap ?_⟩;have J6:=s5.trans s6;have bK:=bk.mono J6;have s7:AA H H6:=s4.trans J6;intro aa CP;have s8:AA H (upd H6 aa (.dK [])):=λb u e=>by rw[AD (AK (s7 _ _ e) CP)];exact s7 _ _ e
   have Zp:AA H6 (upd H6 aa (.dK [])):=λb u e=>by rw[AD (AK e CP)];exact e
   let Jt:NW:=λi σ H'=>∃(AL:KL) (a b c:OV),σ=[↥(.ref p),↥(.ref l),↥(.ref d),a,b,c,↥(.ref aa)]/\AA H H'/\IM H' d o ρ ν/\H' aa≈(.dK AL)/\HV H' ρ (ρ.take i) AL;refine⟨Z,d,o,ν,Y,(bK.mono Zp).at_,C3 fQ Jt
    ⟨[],Q,Z,s8,bK.mono Zp,uS,by rw[Ik];exact .nil⟩ (λi σ H' _ h0=>by obtain⟨_,_,_,_,_,_,b,_⟩:=h0;exact b.at_) ?_ ?_⟩
   ·rintro i v σ H' hi ⟨AL,a,b,c,rfl,s9,II,FD,hA⟩;rw[Yh]at hi;obtain⟨pr,ZN,e⟩:=Ip.mp hi;obtain⟨r,As,hk,_⟩:=B3 II.ups ZN;have Bx:r∈ρ:=Yd As;have ev:v=.str r.1:=by rw[<- e,hk];rfl
    subst ev;have aaH:H aa=none:=s7.free CP;refine⟨Z,Z,d,o,ρ,ν,r.1,Y,II,g,Yk.mpr ⟨r,Bx,Y⟩,λx o' fk CC hx CK hxk hreach=>?_⟩;have BA:(Sum.inr r.1:Key)∉AL.map (·.1):=by rw[hA.keys];exact QS g.nd As
    have hil:↑(ρ.take i)<=24:=by rw[BU];have:=g.le;omega
    have hkl:↑AL=↑(ρ.take i):=(A_ hA).symm;have Mz:=CK _ _ FD;refine⟨Z,Z,aa,Z,Ep.k (k:=Sum.inr r.1) Mz (B_ (by omega)),?_⟩;have kp:∀ b u,b≠aa->CC b≈u->(upd CC aa (.dK (BX AL (Sum.inr r.1) (.ref x)))) b≈u:=λb u hb e=>by rw[AD hb];exact e
    refine⟨Q,_,Z,λb u e=>kp b u (AK e aaH) (CK _ _ (s9 _ _ e)),⟨kp _ _ (λz=>?_) (CK _ _ II.at_),(II.ups.mono λb xs e=>CK _ _ e).mono λb xs e=>kp _ _ (λz=>by rw[z,Mz]at e;cases e) e⟩,uS,?_⟩
    ·have:=II.at_;rw[z,FD]at this;cases this
    ·rw[Nv _ (He BA),Ce,As];have fz:∀ b LI BW,CC b≈(.frz LI (.dK BW))->(upd CC aa (.dK (AL++[(Sum.inr r.1,V.ref x)]))) b≈(.frz LI (.dK BW)):=λb LI BW e=>by rw[AD (λz=>by rw[z,Mz]at e;cases e)];exact e
     exact EZ ((hA.mono λb LI BW e=>CK _ _ e).mono fz) ⟨Y,x,o',fk,Y,fz _ _ _ hxk,hreach⟩
   ·rintro σ H' ⟨AL,a,b,c,rfl,s9,II,FD,hA⟩;have hkv:↑ν=↑ρ:=(A_ II.ups).symm;rw[Ya,hkv,Dy]at hA;have aaH:H aa=none:=s7.free CP;refine⟨aa,AL,FD,λoa=>?_⟩;have LW:H' p≈(.ins C dx []):=s9 _ _ hp;have pa:p≠aa:=AK hp aaH;have pd:p≠d:=AK hp dH;have da:d≠aa:=λz=>by have:=II.at_;rw[z,FD]at this;cases this
    refine⟨Z,Z,p,C,dx,[],Y,(by rw[AD pa];exact LW),TC.cl,TC.nU,(by show 0<1000;decide),Z,Z,p,C,dx,Z,uS,TC.cl,TC.nA,(by show 1<1000;decide),?_⟩;rw[Np];have kp:∀ b u,b≠p->b≠aa->H' b≈u->(upd (upd H' aa (.frz oa (.dK AL))) p (.ins C dx (Fo d aa))) b≈u:=λb u h1 h2 e=>by rw[AD h1,AD h2];exact e
    refine q _ ⟨dx,d,aa,o,oa,ν,AL,uS,⟨kp _ _ (Yx pd) da II.at_,II.ups.mono λb xs e=>kp _ _ (λz=>by rw[z,LW]at e;cases e) (λz=>by rw[z,FD]at e;cases e) e⟩,by rw[AD (Yx pa)];exact uS,hA.mono λb LI BW e=>kp _ _ (λz=>by rw[z,LW]at e;cases e) (λz=>by rw[z,FD]at e;cases e) e⟩ λb u hb e=>kp _ _ hb (AK e aaH) (s9 _ _ e)
def zT:Ad ["self","word"] ["self","word"] (AJ UT):=by nofun
def kK(F:Bj K "has" "Kinds.has" UT f fd)(TC:C0 K C):⋯ 1 f fd ["self","word"] (YR C):=by
 nomatch F.ok zT
 ·obtain⟨p,ρ,x,rfl,_⟩:=h;rfl
 ·obtain⟨p,ρ,x,rfl,⟨dx,d,a,o,oa,ν,AL,h1,h2,h3,h4⟩,g,q⟩:=h;have hu:=Fy hr
  ac_nf
  refine⟨_,AG (AS (kN (Nf hu (pv 1) (Lo (pv 0) rfl)))),?_⟩;refine⟨Z,Z,p,C,dx,_,Z,h1,TC.cl,TC.nU,jf _ _,d,Z,Bk.f (k:=Sum.inr x) h2.at_,?_⟩;have e:(Bm ν (Sum.inr x:Key)).isSome=decide (x∈ρ.map (·.1)):=by
   have hk:(Sum.inr x:Key)∈ν.map (·.1)↔x∈ρ.map (·.1):=by
    rw[h2.ups.keys];constructor
    ·intro m;obtain⟨r,As,e⟩:=Yk.mp m;exact Yk.mpr ⟨r,As,by injection e⟩
    ·intro m;obtain⟨r,As,e⟩:=Yk.mp m;exact Yk.mpr ⟨r,As,by rw[e]⟩
   by_cases z:x∈ρ.map (·.1)
   ·rw[UY (hk.mpr z),Jb z]
   ·rw[He λk=>z (hk.mp k),Jc z];rfl
  rw[e];exact q
abbrev Gj(K:Fg)(C fH:ε)(fdH:FuncData):Prop:=HK K C "has" "Kinds.has" UT ["self","word"] fH fdH
def zR:Ad ["self","word"] ["self","word"] (AJ Qf):=by nofun
def ju(d a:ε):(Fo d a).lookup ("has":Str)=none:=QA d a (by rfl') (by rfl')
def dN(F:Bj K "check" "Kinds.check" Qf f fd)(TC:C0 K C)(MH:Gj K C fH fdH):⋯ 2 f fd ["self","word"] (Wo C):=by
 have GH:⋯ 1 fH fdH ["self","word"] (YR C):=kK MH.fn TC
 nomatch F.ok zR
 ·obtain⟨p,ρ,x,rfl,_⟩:=h;rfl
 ·obtain⟨p,ρ,x,rfl,kd,g,hx,q⟩:=h;obtain⟨dx,d,a,o,oa,ν,AL,h1,h2,h3,h4⟩:=kd.ex
  ac_nf
  refine⟨_,AG (Ae (Bs (BZ (E1 (pv 0) TC.cl MH.me GH hr MH.b .nil BS (pC (pv 1) AB)))) Dh Af),?_⟩;refine⟨Z,p,dx,Z,h1,ju _ _,Z,p,ρ,x,Y,kd,g,Z,?_⟩;rw[Jb hx];exact Ap q
def W8(d a:ε):(Fo d a).lookup ("check":Str)=none:=QA d a (by rfl') (by rfl')
def zc:Ad ["self","one","other"] ["self","one","other"] (AJ Ud):=by nofun
def W_(F:Bj K "under" "Kinds.under" Ud f fd)(TC:C0 K C)(MC:HK K C "check" "Kinds.check" Qf ["self","word"] fC fdC)(MH:Gj K C fH fdH):⋯ 3 f fd ["self","one","other"] (QE C):=by
 have GC:⋯ 2 fC fdC ["self","word"] (Wo C):=dN MC.fn TC MH
 nomatch F.ok zc
 ·obtain⟨p,ρ,x,y,rfl,_⟩:=h;rfl
 ·obtain⟨p,ρ,x,y,rfl,kd,g,hx,hy,q⟩:=h;obtain⟨dx,d,a,o,oa,ν,AL,h1,h2,h3,h4⟩:=kd.ex;have hu:=Fy hr
  ac_nf
  refine⟨_,pS (B8 (E1 (pv 0) TC.cl MC.me GC hr MC.b .nil BS (pC (pv 1) AB)))
   (pS (B8 (E1 (pv 0) TC.cl MC.me GC hr MC.b .nil BS (pC (pv 2) AB)))
   (AG (AS (kN (Nf hu (pv 2) (JS hu (Lo (pv 0) rfl) (pv 1) (λ_ _=>rfl))))))),?_⟩
  exists let b:=AF _ a;AF _ b _ _ _
  obtain⟨r,As,er⟩:=Gw hx;obtain⟨t,o',fk,hv,ht,hreach⟩:=h4.val g.nd As;refine⟨Z,p,dx,Z,h1,W8 _ _,Z,p,ρ,x,Y,kd,g,hx,?_⟩;refine⟨Z,p,dx,Z,h1,W8 _ _,Z,p,ρ,y,Y,kd,g,hy,?_⟩;refine⟨Z,Z,p,C,dx,_,Z,h1,TC.cl,TC.nA,je _ _,Z,a,Z,(by rw[<- hv,er];exact Bk.f (k:=Sum.inr x) h3),t,Z,Bk.f (k:=Sum.inr y) ht,?_⟩;have e:(Bm fk (Sum.inr y:Key)).isSome=Av ρ x y:=by
   have hh:=hreach y;rw[er]at hh;unfold Av;by_cases z:Graph.Reach (An ρ) x y
   ·rw[UY (hh.mpr z)];exact(@Jb _ (Classical.propDecidable _) z).symm
   ·rw[He λk=>z (hh.mp k)];exact(@Jc _ (Classical.propDecidable _) z).symm
  rw[e];exact q
def fq(C:ε):Sp:=λvs H Q _=>∃(p:ε) (ρ:RS) (x y:Str),vs=[.ref p,.str x,.str y]/\BN C H p ρ/\Ab ρ/\x∈ρ.map (·.1)/\y∈ρ.map (·.1)/\Q (.bl (Av ρ x y&&!decide (x=y))) H
def Au(ρ:RS)(x:Str):LS:=(ρ.map (·.1)).filter λy=>Av ρ x y
def XR(C:ε):Sp:=λvs H Q _=>∃(p:ε) (ρ:RS) (x:Str),vs=[.ref p,.str x]/\BN C H p ρ/\Ab ρ/\x∈ρ.map (·.1)/\∀ l,H l=none->Q (.ref l) (upd H l (.lst ((Au ρ x).map V.str)))
def Ze(ρ:RS)(x:Str):V->Bool
 | .str y=>Av ρ x y
 | _=>false
def qU(ρ:RS)(x:Str):(((ρ.map (·.1)).map V.str).filter (Ze ρ x)).map (λv=>v)=(Au ρ x).map V.str:=by
 rw[Hh,Oj];rfl
def qw{fk:KL}{ρ:RS}{x:Str}(h:∀ y,(Sum.inr y:Key)∈fk.map (·.1)↔Graph.Reach (An ρ) x y)(y:Str):(Bm fk (Sum.inr y:Key)).isSome=Av ρ x y:=by
 unfold Av;by_cases z:Graph.Reach (An ρ) x y
 ·rw[UY ((h y).mpr z)];exact(@Jb _ (Classical.propDecidable _) z).symm
 ·rw[He λk=>z ((h y).mp k)];exact(@Jc _ (Classical.propDecidable _) z).symm
def QL(d a:ε):(Fo d a).lookup ("under":Str)=none:=QA d a (by rfl') (by rfl')
def tH(d a:ε):(Fo d a).lookup ("beneath":Str)=none:=QA d a (by rfl') (by rfl')
def W7(d a:ε):(Fo d a).lookup ("above":Str)=none:=QA d a (by rfl') (by rfl')
def wk:(["high","self","word"]:LS).Nodup:=by rfl'
abbrev TQ(K:Fg)(C fC:ε)(fdC:FuncData):Prop:=HK K C "check" "Kinds.check" Qf ["self","word"] fC fdC
abbrev P1(K:Fg)(C fU:ε)(fdU:FuncData):Prop:=HK K C "under" "Kinds.under" Ud ["self","one","other"] fU fdU
def yE{X:Cx}{e:Expr}{ta:TE}{f:Str}{pos:Pos}{K:Fg}(hK:X.K=K)(he:PE X e ta)(hb:attributeBase e f X.env (eval e X.env)=eval e X.env):PE X (.Attribute e f pos) (i6 K ta f):=by
 subst hK;exact Lo he hb
def zP:Ad ["self","one","other"] ["self","one","other"] (AJ Uo):=by nofun
def tJ(F:Bj K "beneath" "Kinds.beneath" Uo f fd)(TC:C0 K C)(MU:P1 K C fU fdU)(MC:TQ K C fC fdC)(MH:Gj K C fH fdH):⋯ 4 f fd ["self","one","other"] (fq C):=by
 have GU:⋯ 3 fU fdU ["self","one","other"] (QE C):=W_ MU.fn TC MC MH
 nomatch F.ok zP
 ·obtain⟨p,ρ,x,y,rfl,_⟩:=h;rfl
 ·obtain⟨p,ρ,x,y,rfl,kd,g,hx,hy,q⟩:=h;obtain⟨dx,d,a,o,oa,ν,AL,h1,_⟩:=kd.ex;refine'⟨_,AG (AS (Ng ?ea (Ni ?eb))),?_⟩
  case ea=>exact E1 (pv 0) TC.cl MU.me GU hr MU.b .nil BS (pC (pv 1) (pC (pv 2) AB))
  case eb=>exact Ha Gm (pv 1) (pv 2) (Ai _)
  refine⟨Z,p,dx,Z,h1,QL _ _,Z,Z,p,ρ,x,y,Y,kd,g,hx,hy,Z,?_⟩;have e:decide (V.str x=V.str y)=decide (x=y):=Kz.mpr ⟨λz=>by injection z,λz=>by rw[z]⟩;refine A2 (λh=>?_) (λh=>?_)
  ·refine⟨Z,Z,Y,?_⟩;rw[h,MX]at q;rw[e];exact q
  ·have h':Av ρ x y=false:=by simpa using h
   rw[h',Bool.false_and]at q;exact q
def zK:Ad ["self","word"] ["self","word"] (AJ OM):=by nofun
def gS(F:Bj K "above" "Kinds.above" OM f fd)(TC:C0 K C)(MC:TQ K C fC fdC)(MH:Gj K C fH fdH):⋯ 3 f fd ["self","word"] (XR C):=by
 have GC:⋯ 2 fC fdC ["self","word"] (Wo C):=dN MC.fn TC MH
 nomatch F.ok zK
 ·obtain⟨p,ρ,x,rfl,_⟩:=h;rfl
 ·obtain⟨p,ρ,x,rfl,kd,g,hx,q⟩:=h;obtain⟨dx,d,a,o,oa,ν,AL,h1,h2,h3,h4⟩:=kd.ex;have hu:=Fy hr
  ac_nf
  refine⟨_,pS (B8 (E1 (pv 0) TC.cl MC.me GC hr MC.b .nil BS (pC (pv 1) AB)))
   (AG (AS (BO ["high"] ["self","word"] [0,1] (λ_=>A3 (osc:=AJ OM) (on:=["self","word"]) (by rfl') rfl rfl rfl) (cJ (Lo (pv 0) rfl)) (λC s H fp=>Az (i:=0) wk rfl (Or.inl rfl) (Or.inr rfl))
    (λC s H fp=>F3 (KS (Nf hu (pv 0) (JS hu (yE (K:=K) rfl (pv 1) rfl) (pv 2) (λ_ _=>rfl))))) (λC s H fp=>pv 0)))),?_⟩
  exists AF _ a _ _ _
  obtain⟨r,As,er⟩:=Gw hx;obtain⟨t,o',fk,hv,ht,hreach⟩:=h4.val g.nd As;rw[er]at hv hreach;have hkv:↑ν<=24:=by rw[<- A_ h2.ups];exact g.le
  refine⟨Z,p,dx,Z,h1,W8 _ _,Z,p,ρ,x,Y,kd,g,hx,?_⟩;refine⟨Z,p,C,dx,_,Z,h1,TC.cl,TC.nU,jf _ _,d,o,ν,Y,h2.at_,Lz fQ (sL (by rw[Ya];omega)) (Ze ρ x) (λv=>v) (λD ys hD=>by rw[AD (AK h2.at_ hD)];exact h2.at_) ?_ ?_ ?_⟩
  ·intro D ys v R hD PH hR;rw[YF h2.ups]at PH;obtain⟨y,hy,rfl⟩:=Yk.mp PH;have kp:∀ b o,H b≈o->(upd H D (.lst ys)) b≈o:=λb o e=>by rw[AD (AK e hD)];exact e
   refine⟨Z,Z,p,C,dx,_,Z,kp _ _ h1,TC.cl,TC.nA,je _ _,Z,a,Z,(by rw[<- hv];exact Bk.f (k:=Sum.inr x) (kp _ _ h3)),t,Z,Bk.f (k:=Sum.inr y) (kp _ _ ht),Z,?_⟩;rw[qw hreach y];exact hR
  ·intro D ys v R hD PH _ hR;exact⟨Z,hR⟩
  ·intro D hD;rw[YF h2.ups,qU];exact q D hD
def CH(H:Hp)(all ρ:RS)(AL:KL):Prop :=
 Paired (λr (p:Key×V)=>p.1=Sum.inr r.1/\∃(t:ε) (fs:LS),p.2=.ref t/\H t≈(.lst (fs.map V.str))/\(∀ y,y∈fs↔Graph.Reach (An all) r.1 y)/\↑fs<=↑all/\fs.Nodup) ρ AL
def CH.mono{H H':Hp}{all ρ:RS}{AL:KL}(h:CH H all ρ AL)(s:∀ b xs,H b≈(.lst xs)->H' b≈(.lst xs)):CH H' all ρ AL :=
 Paired.mapP h λ_ _ z=>⟨z.1,let⟨t,fs,e,x,y⟩:=z.2;⟨t,fs,e,s _ _ x,y⟩⟩
theorem CH.keys:∀ {H:Hp}{all ρ:RS}{ν:KL},CH H all ρ ν->ν.map (·.1)=ρ.map λr=>(Sum.inr r.1:Key)
 | _,_,_,_,.nil=>rfl
 | _,_,_,_,.cons r t=>by rw[Yr,Yr,r.1,CH.keys t]
theorem CH.val':∀ {H:Hp}{all ρ:RS}{ν:KL},CH H all ρ ν->(ρ.map (·.1)).Nodup->∀ {r:Str×LS},r∈ρ->∃(t:ε) (fs:LS),Bm ν (Sum.inr r.1)≈(.ref t)/\H t≈(.lst (fs.map V.str))/\(∀ y,y∈fs↔Graph.Reach (An all) r.1 y)/\↑fs<=↑all/\fs.Nodup
 | _,_,_,_,.nil,_,r,h=>nomatch h
 | _,_,q :: rs,p :: ps,.cons z t,nd,r,h=>by
  have FZ:(q.1 :: rs.map (·.1)).Nodup:=nd;obtain⟨n1,n2⟩:=Yu.mp FZ;obtain⟨z1,u,fs,z2,z3,z4⟩:=z
  rcases Yl.mp h with e | h
  ·subst e;exact⟨u,fs,by rw[N0 z1,z2],z3,z4⟩
  ·have ne:¬ p.1=(Sum.inr r.1:Key):=λe=>n1 (by
    rw[z1]at e;have e':q.1=r.1:=by injection e
    rw[e'];exact Yk.mpr ⟨r,h,Y⟩)
   obtain⟨u',B0,h1,h2⟩:=CH.val' t n2 h;exact⟨u',B0,by rw[Nz ne];exact h1,h2⟩
def CH.val{H:Hp}{all ρ:RS}{ν:KL}(h:CH H all ρ ν)(nd:(ρ.map (·.1)).Nodup){r:Str×LS}(hr:r∈ρ):∃(t:ε) (fs:LS),Bm ν (Sum.inr r.1)≈(.ref t)/\H t≈(.lst (fs.map V.str))/\∀ y,y∈fs↔Graph.Reach (An all) r.1 y :=
 let⟨u,fs,h1,h2,h3,_⟩:=h.val' nd hr;⟨u,fs,h1,h2,h3⟩
def eV{ρ:RS}{x:Str}{fs:LS}(h:∀ y,y∈fs↔Graph.Reach (An ρ) x y)(y:Str):decide (y∈fs)=Av ρ x y:=by
 unfold Av;by_cases z:Graph.Reach (An ρ) x y
 ·rw[Jb ((h y).mpr z)];exact(@Jb _ (Classical.propDecidable _) z).symm
 ·rw[Jc λk=>z ((h y).mp k)];exact(@Jc _ (Classical.propDecidable _) z).symm
def dz:Sp:=λvs H Q _=>∃(l:ε) (ρ:RS),vs=[.ref l]/\Gq H l ρ/\Ab ρ/\∀ a AL H',AA H H'->H' a≈(.dK AL)->CH H' ρ ρ AL->Q (.ref a) H'
structure Ox(ρ:RS)(x:Str)(fs:LS)(k:Nat):Prop where
 start:x∈fs
 known:∀ y∈fs,y∈ρ.map (·.1)
 nd:fs.Nodup
 reach:∀ y∈fs,Graph.Reach (An ρ) x y
 closed:∀ y∈fs.take k,∀ u∈An ρ y,u∈fs
def Ox.le{ρ:RS}{x:Str}{fs:LS}{k:Nat}(h:Ox ρ x fs k):↑fs<=↑ρ:=by
 have:=Graph.nodup_le h.nd h.known
 rwa [Ya]at this
def Ox.all{ρ:RS}{x:Str}{fs:LS}{k:Nat}(h:Ox ρ x fs k)(hk:↑fs<=k)(y:Str):y∈fs↔Graph.Reach (An ρ) x y :=
 ⟨h.reach y,λr=>Graph.closed_reach (S:=λy=>y∈fs) (λz hz u hu=>h.closed z (by rw[MW hk];exact hz) u hu) r h.start⟩
def g0{ρ:RS}(g:Ab ρ){y u:Str}(hy:y∈ρ.map (·.1))(hu:u∈An ρ y):u∈ρ.map (·.1):=by
 obtain⟨r,hr,e⟩:=Gw hy;rw[<- e,Ny g.nd hr]at hu;exact g.known r hr u hu
abbrev lT:LS:=["rows","ups","word","some","above","found","at","up"]
def i_:Ad lT ["rows"] (AJ Ua):=by nofun
def rJ(F:Def K mg "_law_above" Ua ["rows"] f fd)(len:mg "len"=none):⋯ 1 f fd ["rows"] dz:=by
 nomatch F.fn.ok i_
 ·obtain⟨l,ρ,rfl,_⟩:=h;rfl
 ·obtain⟨l,ρ,rfl,hR,g,q⟩:=h;have nd:=i_.nd;have hu:=Fy hr
  ac_nf
  refine⟨_,pS (sE 1 nd Nu)
   (pS (CS Bb rfl (Bn (pv 0)) (IU rfl (gC (gE 2 nd) (gC (gE 3 nd) IY)))
    (AG (KZ hu (pv 1) (pv 2) (pv 3) rfl)))
   (pS (sE 4 nd Nu)
   (pS (CS Bb rfl (Bn (pv 0)) (IU rfl (gC (gE 2 nd) (gC (gE 3 nd) IY)))
    (pS (sE 5 nd (CI (pC (pv 2) AB)))
    (pS (sE 6 nd AE)
    (pS (Kg Bb (Al Pw (pv 6) (Aa Hd (by rfl) len Yy (pC (pv 5) AB)) (Ai _))
     (pS (CS Bb rfl (HZ (JS hu (pv 1) (AN Ak (pv 5) (pv 6) (λ_ _=>rfl)) (λ_ _=>rfl))) (gE 7 nd)
      (AG (Ae (Al uO (pv 7) (pv 5) (by with_unfolding_all rfl)) (AG (B8 (Ct Yz E4 E3 EF (pv 5) (pC (pv 7) AB)))) Af)))
     (AG (sE 6 nd (Aj F2 (pv 6) AE)))))
    (AG (KZ hu (pv 4) (pv 2) (pv 5) rfl))))))
   (AG (AS (pv 4)))))),?_⟩
  exists let b:=_;let c:=_;let e:=_;let f:=HP _ e _;let g:=AF (Es _ _ f) c;let h:=AF (Lp _ g) b;let i:=AF _ h;let j:=AF _ i;let k:=AF (Es _ _ j) a;let l:=AF _ k;let m:=AF _ l;AF _ m _ _ _
  have gle:=g.le;obtain⟨vs,hvs,hpr⟩:=hR;intro d hd;have s1:AA H (upd H d (.dK [])):=λb o e=>by rw[AD (AK e hd)];exact e
  let EM:NW:=λi σ H'=>∃(ν:KL) (a c:OV),σ=[↥(.ref l),↥(.ref d),a,c,none,none,none,none]/\AA H H'/\H' d≈(.dK ν)/\Dr H' (ρ.take i) ν;refine⟨Z,l,Y,⟨_,SqL.of (s1 _ _ hvs)⟩,C3 (B4 (xs:=vs)) EM
   ⟨[],none,none,Y,s1,uS,by rw[Ik];exact .nil⟩ (λi σ H' _ h0=>by obtain⟨_,_,_,_,s,_⟩:=h0;exact SqL.of (s _ _ hvs)) ?_ ?_⟩
  ·rintro i v σ H' hi ⟨ν,a,c,rfl,s3,hdk,hU⟩;obtain⟨r,As,t,u,rfl,ht,hug⟩:=B3 hpr hi;refine⟨t,Z,AH.of (s3 _ _ ht),Y,_,Z,_,Z,Y,?_⟩;have BA:(Sum.inr r.1:Key)∉ν.map (·.1):=by rw[hU.keys];exact QS g.nd As
   have hil:↑(ρ.take i)<=24:=by rw[BU];omega
   have hkl:↑ν=↑(ρ.take i):=(A_ hU).symm;refine⟨Z,Z,Z,d,Z,Ep.k (k:=Sum.inr r.1) hdk (B_ (by omega)),?_⟩;have tk:∀ b xs,H' b≈(.tup xs)->(upd H' d (.dK (BX ν (Sum.inr r.1) (.ref u)))) b≈(.tup xs):=λb xs e=>by
    rw[AD (λz=>by rw[z,hdk]at e;cases e)];exact e
   refine⟨Q,Z,λb o e=>by rw[AD (AK e hd)];exact s3 _ _ e,uS,?_⟩;have sn:Dr (upd H' d (.dK (BX ν (Sum.inr r.1) (.ref u)))) (ρ.take i++[r]) (ν++[(Sum.inr r.1,V.ref u)]):=EZ (hU.mono tk) ⟨Y,u,Y,tk u _ (s3 _ _ hug)⟩;rw[<- Nv _ (He BA)]at sn;rw[Ce,As];exact sn
  ·rintro σ H2 ⟨ν,a,c,rfl,s3,hdk,hU⟩;have hvl:=↑hpr;rw[<- hvl,Dy]at hU;intro aa CP;have s4:AA H2 (upd H2 aa (.dK [])):=λb o e=>by rw[AD (AK e CP)];exact e
   have aaH:H aa=none:=s3.free CP;have daa:d≠aa:=AK hdk CP;have hU4:Dr (upd H2 aa (.dK [])) ρ ν:=hU.mono λb xs e=>s4 _ _ e;have hd4:=s4 _ _ hdk;have IA:=s3.trans s4;let Jt:NW:=λi σ H'=>∃(AL:KL) (a b c e f:OV),σ=[↥(.ref l),↥(.ref d),a,b,↥(.ref aa),c,e,f]/\(∀ b o,b≠aa->H2 b≈o->H' b≈o)/\H' aa≈(.dK AL)/\CH H' ρ (ρ.take i) AL;refine⟨Z,l,Y,⟨_,SqL.of (IA _ _ hvs)⟩,C3 (B4 (xs:=vs)) Jt
    ⟨[],Q,Q,Z,λb o hb e=>by rw[AD hb];exact e,uS,by rw[Ik];exact .nil⟩ (λi σ H' _ h0=>by obtain⟨_,_,_,_,_,_,_,k,_⟩:=h0;exact SqL.of (k _ _ (AK hvs aaH) (s3 _ _ hvs))) ?_ ?_⟩
   ·rintro i v σ H' hi ⟨AL,a,b,c,e,f',rfl,k1,GY,hA⟩;obtain⟨r,As,t,u,rfl,ht,hug⟩:=B3 hpr hi;have Bx:r∈ρ:=Yd As;have R_:∀ b o,H b≈o->H' b≈o:=λb o e=>k1 b o (AK e aaH) (s3 _ _ e);refine⟨t,Z,AH.of (R_ _ _ ht),Y,_,Z,_,Z,Y,?_⟩;refine⟨Z,G,λfa hfa=>?_⟩;have sF:∀ {H5:Hp},AA H' H5->Dr H5 ρ ν:=λ{H5} s=>hU.mono λb xs e=>s _ _ (k1 b _ (λz=>by rw[z,CP]at e;cases e) e);have dF:∀ {H5:Hp},AA H' H5->H5 d≈(.dK ν):=λ{H5} s=>s _ _ (k1 _ _ daa hdk);let E5:NW:=λm σ H5=>∃(fs:LS) (k:Nat) (f:OV),σ=[↥(.ref l),↥(.ref d),↥(.str r.1),↥(.ref u),↥(.ref aa),↥(.ref fa),↥(.int (k:Int)),f]/\AA H' H5/\H5 fa≈(.lst (fs.map V.str))/\Ox ρ r.1 fs k/\k<=↑fs/\m + k=↑ρ;refine⟨E5,
     ⟨↑ρ,[r.1],0,Z,λb o e=>by rw[AD (AK e hfa)];exact e,uS,⟨by simp,λy h=>by rw[Yi.mp h];exact Yk.mpr ⟨r,Bx,Y⟩,by simp,λy h=>by rw[Yi.mp h];exact .refl _,λy h=>by simp at h⟩,by simp,Y⟩,?_⟩
    rintro m σ H5 ⟨fs,k,f2,rfl,s5,PZ,go,hk,hm⟩;have flen:=go.le;refine⟨Z,Z,_,Z,.inl ⟨_,SqL.of PZ,Y⟩,_,Z,Y,Z,?_⟩;rw[Ya];refine A2 (λAW=>?_) (λAW=>?_)
    ·have AW:k<↑fs:=by have:=Je AW;omega
     let Hj:SW:=λσ' H6=>∃ m',m'<m/\∃(fs:LS) (k:Nat) (f:OV),σ'=[↥(.ref l),↥(.ref d),↥(.str r.1),↥(.ref u),↥(.ref aa),↥(.ref fa),↥(.int (k:Int)),f]/\AA H' H6/\H6 fa≈(.lst (fs.map V.str))/\Ox ρ r.1 fs k/\k<=↑fs/\m' + k=↑ρ;refine⟨Hj,λ_ _ h=>h,?_⟩;have hat:fs[k]?≈fs[k]:=Yb AW;generalize hhere:fs[k]=here at hat;have hin:here∈fs:=Yd hat;obtain⟨r2,EA,er⟩:=Gw (go.known here hin);obtain⟨t2,hvt,Bp⟩:=(sF s5).val g.nd EA;rw[er]at hvt;have uo:An ρ here=r2.2:=by rw[<- er];exact Ny g.nd EA
     have hix:BC (fs.map V.str) (k:Int)≈(V.str here):=DB (by rw[Yh,hat];rfl);refine⟨Z,Z,Z,fa,Q,Z,Y,SqL.of PZ,hix,d,Z,(by rw[<- hvt];exact Bk.k (k:=Sum.inr here) (dF s5)),t2,Y,⟨_,AH.of Bp⟩,?_⟩;have ZL:t2≠fa:=λz=>by rw[z,PZ]at Bp;cases Bp
     refine C3 (Ie (xs:=r2.2.map V.str)) (λj σ H6=>∃(ex:LS) (f:OV),σ=[↥(.ref l),↥(.ref d),↥(.str r.1),↥(.ref u),↥(.ref aa),↥(.ref fa),↥(.int (k:Int)),f]/\(∀ b o,b≠fa->H5 b≈o->H6 b≈o)/\H6 fa≈(.lst ((fs++ex).map V.str)) /\
      (∀ y∈fs++ex,y∈ρ.map (·.1))/\(fs++ex).Nodup/\(∀ y∈fs++ex,Graph.Reach (An ρ) r.1 y)/\∀ z∈r2.2.take j,z∈fs++ex)
      ⟨[],Z,λb o _ e=>e,by rw[Eb];exact PZ,by rw[Eb];exact go.known,by rw[Eb];exact go.nd,by rw[Eb];exact go.reach,λz h=>by simp at h⟩ (λj σ H6 _ h0=>by obtain⟨_,_,_,k6,_⟩:=h0;exact AH.of (k6 _ _ ZL Bp)) ?_ ?_
     ·rintro j v σ H6 hj ⟨ex,f3,rfl,k6,NL,kn,ndx,rch,seen⟩;obtain⟨z,hz,rfl⟩:=Ls hj;have hzu:z∈An ρ here:=by rw[uo];exact Yd hz
      have hle:↑(fs++ex)<=24:=by
       have:=Graph.nodup_le ndx kn;rw[Ya]at this;omega
      refine⟨Z,Z,fa,Z,.inl (SqL.of NL),Y,QU _,Z,?_⟩;show if(!Gb (.str z) ((fs++ex).map V.str))=true then _ else _
      rw[Nl];have sj:∀ y∈r2.2.take (j + 1),y∈r2.2.take j\/y=z:=λy h=>by
       rw[Ce,hz]at h
       rcases Yp.mp h with h | h
       ·exact .inl h
       ·simp at h;exact .inr h
      refine A2 (λhn=>?_) (λhn=>?_)
      ·have hn:z∉fs++ex:=λc=>by rw[Jb c]at hn;cases hn
       refine⟨Z,.inl ⟨Y,_,SqL.of NL⟩,Z,fa,_,Z,Y,NL,B_ (by rw[Ya];omega),?_⟩;refine⟨ex++[z],Z,λb o hb e=>by rw[AD hb];exact k6 b o hb e,?_,?_,?_,?_,?_⟩
       ·have e:(fs++(ex++[z])).map V.str=(fs++ex).map V.str++[V.str z]:=by simp
        rw[uS,e]
       ·intro y hy;rw[<- OY]at hy
        rcases Yp.mp hy with h | h
        ·exact kn y h
        ·rw[Yi.mp h];exact g0 g (go.known here hin) hzu
       ·rw[<- OY];refine Iq.mpr ⟨ndx,by simp,λa ha b hb e=>?_⟩;rw[Yi.mp hb]at e;rw[e]at ha;exact hn ha
       ·intro y hy;rw[<- OY]at hy
        rcases Yp.mp hy with h | h
        ·exact rch y h
        ·rw[Yi.mp h];exact(go.reach here hin).snoc hzu
       ·intro y hy;rw[<- OY]
        rcases sj y hy with h | h
        ·exact Yp.mpr (.inl (seen y h))
        ·rw[h];simp
      ·have hn:z∈fs++ex:=Kr λc=>hn (by rw[Jc c];rfl);refine⟨ex,Z,k6,NL,kn,ndx,rch,λy hy=>?_⟩
       rcases sj y hy with h | h
       ·exact seen y h
       ·rw[h];exact hn
     ·rintro σ H6 ⟨ex,f3,rfl,k6,NL,kn,ndx,rch,seen⟩;rw[Ya,Dy]at seen;refine⟨Z,_,Z,Y,m - 1,W,fs++ex,k + 1,Z,λb o e=>k6 b o (AK e hfa) (s5 _ _ e),NL,⟨Yp.mpr (.inl go.start),kn,ndx,rch,?_⟩,by rw[Bw];omega,W⟩;intro y hy z hz;have htk:(fs++ex).take (k + 1)=fs.take k++[here]:=by
       rw[List.take_append_of_le_length (by omega),Ce,hat];rfl
      rw[htk]at hy
      rcases Yp.mp hy with h | h
      ·exact Yp.mpr (.inl (go.closed y h z hz))
      ·rw[Yi.mp h,uo]at hz;exact seen z hz
    ·have hge:↑fs<=k:=by
      have:¬ ((k:Int)<(↑fs:Int)):=λz=>AW (Jb z);omega
     have bM:=s5 _ _ GY;have BA:(Sum.inr r.1:Key)∉AL.map (·.1):=by rw[hA.keys];exact QS g.nd As
     have hil:↑(ρ.take i)<=24:=by rw[BU];omega
     have hkl:↑AL=↑(ρ.take i):=(A_ hA).symm;refine⟨Z,Z,Z,aa,Z,Ep.k (k:=Sum.inr r.1) bM (B_ (by omega)),?_⟩;have lk:∀ b xs,H5 b≈(.lst xs)->(upd H5 aa (.dK (BX AL (Sum.inr r.1) (.ref fa)))) b≈(.lst xs):=λb xs e=>by
      rw[AD (λz=>by rw[z,bM]at e;cases e)];exact e
     refine⟨Q,Q,_,Z,λb o hb e=>by rw[AD hb];exact s5 _ _ (k1 b o hb e),uS,?_⟩;have sn:CH (upd H5 aa (.dK (BX AL (Sum.inr r.1) (.ref fa)))) ρ (ρ.take i++[r]) (AL++[(Sum.inr r.1,V.ref fa)]):=EZ ((hA.mono λb xs e=>s5 _ _ e).mono lk) ⟨Y,fa,fs,Y,lk _ _ PZ,go.all hge,go.le,go.nd⟩;rw[<- Nv _ (He BA)]at sn;rw[Ce,As];exact sn
   ·rintro σ H' ⟨AL,a,b,c,e,f',rfl,k1,GY,hA⟩;rw[<- hvl,Dy]at hA;exact⟨Z,q aa AL H' (λb o e=>k1 b o (AK e aaH) (s3 _ _ e)) GY hA⟩
def Fx(ρ:RS)(n:Nat)(xs:LS):Bool:=decide (↑xs=n)&&xs.all λx=>decide (x∈ρ.map (·.1))
structure Bh(ρ:RS)(n:Nat)(xs:LS):Prop where
 len:↑xs=n
 known:∀ x∈xs,x∈ρ.map (·.1)
def Bh.is{ρ:RS}{n:Nat}{xs:LS}(h:Bh ρ n xs):Fx ρ n xs=true:=by
 unfold Fx;rw[Jb h.len,MX,Bv];exact λx hx=>Jb (h.known x hx)
def UA(C:ε):Sp:=λvs H Q _=>∃(p t:ε) (n:Nat) (ρ:RS) (xs:LS),vs=[.ref p,.int n,.ref t]/\BN C H p ρ/\Ab ρ/\H t≈(.tup (xs.map V.str))/\↑xs<=1000/\∀ H',AA H H'->Q (.bl (Fx ρ n xs)) H'
def WT(ρ:RS):V->V
 | .str x=>.bl (decide (x∈ρ.map (·.1)))
 | _=>.non
def r_(ρ:RS)(xs:LS):(((xs.map V.str).filter λ_=>true).map (WT ρ))=(xs.map λx=>decide (x∈ρ.map (·.1))).map V.bl:=by
 rw[G5.mpr (λ_ _=>rfl),Bu,Bu];rfl
def vB:(["word","kinds"]:LS).Nodup:=by rfl'
abbrev CD:LS:=["kinds","places","call"]
def zU:Ad CD CD (AJ Ii):=by nofun
def Xf(F:Def K mg "is_call" Ii CD f fd)(len:mg "len"=none)(all:mg "all"=none)(TC:C0 K C)(MH:Gj K C fH fdH):⋯ 2 f fd CD (UA C):=by
 have GH:⋯ 1 fH fdH ["self","word"] (YR C):=kK MH.fn TC
 nomatch F.fn.ok zU
 ·obtain⟨p,t,n,ρ,xs,rfl,_⟩:=h;rfl
 ·obtain⟨p,t,n,ρ,xs,rfl,kd,g,ht,hz,q⟩:=h;obtain⟨dx,d,a,o,oa,ν,AL,h1,_⟩:=kd.ex;have Ac:AV 1 _:=hr.mono (by decide);refine'⟨_,AG (AS (Ng ?ea (Ni ?eb))),?_⟩
  case ea=>exact Ha Cs (Aa B9 (by rfl) len Yy (pC (pv 2) AB)) (pv 1) (Ai _)
  case eb=>exact Aa (Kc rfl) (by rfl) all Ky (pC
    (BO ["word"] ["kinds"] [0] (λ_=>A3 (osc:=AJ Ii) (on:=CD) (by rfl') rfl rfl rfl) (HZ (pv 2)) (λC s H fp=>Az (i:=0) vB rfl (Or.inl rfl) (Or.inr rfl)) (λC s H fp=>Br)
     (λC s H fp=>E1 (pv 1) TC.cl MH.me GH Ac MH.b .nil BS (pC (pv 0) AB))) AB)
  refine⟨Z,t,Z,.inr (AH.of ht),Z,Y,Z,?_⟩;have e:decide (V.int (↑(xs.map V.str):Nat)=V.int n)=decide (↑xs=n):=by
   rw[Ya];exact Kz.mpr ⟨λz=>by injection z with z;omega,λz=>by rw[z]⟩
  rw[e];refine A2 (λh=>?_) (λh=>?_)
  ·refine⟨Z,t,Y,⟨_,AH.of ht⟩,Lz (Ie (xs:=xs.map V.str)) (sL (by rw[Ya];omega)) (λ_=>true) (WT ρ) (λD ys hD=>AH.of (by rw[AD (AK ht hD)];exact ht)) ?_ ?_ ?_⟩
   ·intro D ys v R _ _ hR;exact hR
   ·intro D ys v R hD hv _ hR;obtain⟨x,hx,rfl⟩:=Yk.mp hv;have s2:AA H (upd H D (.lst ys)):=B1 hD;exact⟨Z,p,dx,Z,s2 _ _ h1,ju _ _,Z,p,ρ,x,Y,kd.mono s2,g,hR⟩
   ·intro D hD;refine⟨D,Z,SqL.of (by rw[uS,r_]),?_⟩;have q':=q _ (B1 (o:=.lst (((xs.map V.str).filter λ_=>true).map (WT ρ))) hD);unfold Fx at q';rw[h,MX]at q';show Q (.bl ((xs.map λx=>decide (x∈ρ.map (·.1))).all id)) _;rw[List.all_map];exact q'
  ·have q':=q H (AA.refl H);unfold Fx at q';rw[show decide (↑xs=n)=false by simpa using h,Bool.false_and]at q';exact q'
def B2(H:Hp)(ds:ξ)(vs:LV):Prop:=Paired (λ(d:LS) v=>∃ t,v=V.ref t/\H t≈(.tup (d.map V.str))) ds vs
def B2.mono{H H':Hp}{ds:ξ}{vs:LV}(h:B2 H ds vs)(s:AA H H'):B2 H' ds vs:=Paired.mapP h λ_ _ ⟨t,e,x⟩=>⟨t,e,s _ _ x⟩
structure Ba(ρ:RS)(n:Nat)(ds:ξ):Prop where
 call:∀ d∈ds,Bh ρ n d
 nd:ds.Nodup
 few:↑ds<=64
def Gk(d:LS):List Key:=d.map Sum.inr
def oJ(d:LS):(Gk d).map kV=d.map V.str:=by
 unfold Gk;rw[Bu];rfl
def oI{d e:LS}(h:Gk d=Gk e):d=e:=by
 unfold Gk at h;exact List.map_inj_right (λa b z=>by injection z) |>.mp h
def tF{ds:ξ}(nd:ds.Nodup){i:Nat}{d:LS}(h:ds[i]?≈d):Gk d∉(ds.take i).map Gk:=by
 intro m;obtain⟨e,he,q⟩:=Yk.mp m;rw[oI q]at he;exact ql nd h he
def iB(K:Fg)(C:ε):Sp:=λvs H Q _=>∃(p l:ε) (n:Nat) (b:Bool) (ρ:RS) (ds:ξ) (us:LV),vs=[.ref p,.int n,.ref l]/\BN C H p ρ/\Ab ρ/\EK K b H l us/\B2 H ds us/\Ba ρ n ds/\n<=4/\∀ H',AA H H'->Q .non H'
abbrev lU:LS:=["kinds","places","deeds","seen","number","call"]
def ie:Ad lU ["kinds","places","deeds"] (AJ Uh):=by nofun
def ug(F:Def K mg "check_deeds" Uh ["kinds","places","deeds"] f fd)(DI:Def K mg "is_call" Ii CD fI fdI)(enum:mg "enumerate"=none)(len:mg "len"=none)(all:mg "all"=none)(TC:C0 K C)(MH:Gj K C fH fdH):
  ⋯ 3 f fd ["kinds","places","deeds"] (iB K C):=by
 have GI:⋯ 2 fI fdI CD (UA C):=Xf DI len all TC MH
 nomatch F.fn.ok ie
 ·obtain⟨p,l,n,b,ρ,ds,us,rfl,_⟩:=h;rfl
 ·obtain⟨p,l,n,b,ρ,ds,us,rfl,kd,g,hl,hD,gd,hn,q⟩:=h;have nd:=ie.nd;have hu:=Fy hr;refine⟨_,pS (sE 3 nd p9)
   (AG (CS Bb rfl (Wv (by rfl) enum (pC (pv 2) AB)) (IU rfl (gC (gE 4 nd) (gC (gE 5 nd) IY)))
    (pS (Ae (Bs (BZ (AO DI GI hr (pC (pv 0) (pC (pv 1) (pC (pv 5) AB)))))) Dh Af)
    (pS (Ae (KS (Nf hu (pv 5) (pv 3))) Dh Af)
    (AG (KZ hu (pv 3) (pv 5) Bg rfl)))))),?_⟩
  intro d hd;have s0:AA H (upd H d (.dT [])):=B1 hd;have hvl:=↑hD;have few:=gd.few;refine⟨Z,b,l,us,Y,hl.mono s0,XH (λi σ H'=>∃(ν:List (List Key×V)) (a c:OV),σ=[↥(.ref p),↥(.int n),↥(.ref l),↥(.ref d),a,c]/\AA H H'/\H' d≈(.dT ν)/\ν.map (·.1)=(ds.take i).map Gk)
   ⟨[],none,none,Y,s0,uS,by simp⟩ (λi σ H' _ ⟨_,_,_,_,s,_⟩=>hl.mono s) ?_ ?_⟩
  ·rintro i pr t σ H' hi ⟨ν,a,c,rfl,s1,hdk,hk⟩ LP;obtain⟨e1,hx⟩:=QT hi;obtain⟨dd,hdd,t2,e2,Bp⟩:=B3 hD hx;refine Tg ?_;have s2:AA H' (upd H' t (.tup [pr.1,pr.2])):=B1 LP;have Bx:dd∈ds:=Yd hdd;have gc:=gd.call dd Bx;rw[e2];show AF _ _ _ [↥(.ref p),↥(.int n),↥(.ref l),↥(.ref d),↥pr.1,↥(.ref t2)] _;have BF:=s1.trans s2;refine⟨Z,Z,Z,p,t2,n,ρ,dd,Y,kd.mono ?_,g,?_,by have:=gc.len;omega,λH3 s3=>⟨Z,?_⟩⟩
   ·rw[<- e2];exact BF
   ·rw[<- e2];exact BF _ _ Bp
   rw[gc.is];refine Ap ?_;rw[<- e2]at s3;have A4:=BF.trans s3;have Su:H3 d≈(.dT ν):=s3 _ _ (s2 _ _ hdk);have IC:H3 t2≈(.tup ((Gk dd).map kV)):=by rw[oJ];exact A4 _ _ Bp
   refine⟨Z,Z,d,Z,Bk.t (k:=Gk dd) Su IC,Z,?_⟩;have BA:Gk dd∉ν.map (·.1):=by rw[hk];exact tF gd.nd hdd
   rw[gg BA];refine Ap ?_;have hkl:↑ν=↑(ds.take i):=by have:=congrArg List.length hk;simpa using this
   have hil:↑(ds.take i)<=64:=by rw[BU];omega
   refine⟨Z,Z,d,Z,Ep.t (k:=Gk dd) Su IC (B_ (by omega)),?_⟩;refine⟨Q,Z,λb o e=>?_,uS,?_⟩
   ·rw[AD (AK e hd)];exact A4 _ _ e
   ·rw[sf BA,hk,Ce,hdd,BP];rfl
  ·rintro σ H' ⟨ν,a,c,rfl,s1,hdk,hk⟩;exact q H' s1
def y_:¬ (("book":Str)="stands"):=by rfl'
def zA:¬ (("book":Str)="width"):=by rfl'
def zB:¬ (("width":Str)="stands"):=by rfl'
def FP(k t:ε)(n:Nat):List (Str×V):=Be "stands" (.ref t) (Be "width" (.int n) (Be "book" (.ref k) []))
def xS(k t:ε)(n:Nat):(FP k t n).lookup ("book":Str)≈(.ref k):=by
 unfold FP;rw[EY,if_neg y_,EY,if_neg zA,EY,if_pos rfl]
def xU(k t:ε)(n:Nat):(FP k t n).lookup ("width":Str)≈(.int n):=by
 unfold FP;rw[EY,if_neg zB,EY,if_pos rfl]
def xT(k t:ε)(n:Nat):(FP k t n).lookup ("stands":Str)≈(.ref t):=by
 unfold FP;rw[EY,if_pos rfl]
def W4(k t:ε)(n:Nat){m:Str}(h1:¬ m="stands")(h2:¬ m="width")(h3:¬ m="book"):(FP k t n).lookup m=none:=by
 unfold FP;rw[EY,if_neg h1,EY,if_neg h2,EY,if_neg h3];rfl
def N8(k t:ε)(n:Nat):(FP k t n).lookup ("kinds":Str)=none:=W4 k t n (by rfl') (by rfl') (by rfl')
def QY(k t:ε)(n:Nat):(FP k t n).lookup ("places":Str)=none:=W4 k t n (by rfl') (by rfl') (by rfl')
def QV(k t:ε)(n:Nat):(FP k t n).lookup ("deeds":Str)=none:=W4 k t n (by rfl') (by rfl') (by rfl')
structure Cb(C B:ε)(H:Hp)(p k:ε)(ρ:RS)(n:Nat)(ds:ξ):Prop where
 ex:∃(dx t:ε) (us:LV),H p≈(.ins B dx (FP k t n))/\BN C H k ρ/\H t≈(.tup us)/\B2 H ds us
theorem Cb.mono{C B:ε}{H H':Hp}{p k:ε}{ρ:RS}{n:Nat}{ds:ξ}(h:Cb C B H p k ρ n ds)(s:AA H H'):Cb C B H' p k ρ n ds:=by
 obtain⟨dx,t,us,h1,h2,h3,h4⟩:=h.ex;exact⟨dx,t,us,s _ _ h1,h2.mono s,s _ _ h3,h4.mono s⟩
structure Gn(K:Fg)(B:ε):Prop where
 cl:G9 K B
 nB:HX K B "book"
 nW:HX K B "width"
 nS:HX K B "stands"
structure U5(mg:Str->OU):Prop where
 places:∃ t,mg "MOST_PLACES"≈(.int 4 t)
 deeds:∃ t,mg "MOST_DEEDS"≈(.int 64 t)
 len:mg "len"=none
 all:mg "all"=none
 tuple:mg "tuple"=none
 list:mg "list"=none
 enum:mg "enumerate"=none
def Wn(K:Fg)(C B:ε):Sp:=λvs H Q _=>∃(p dx k l:ε) (n:Nat) (ρ:RS) (ds:ξ) (us:LV),vs=[.ref p,.ref k,.int n,.ref l]/\H p≈(.ins B dx [])/\BN C H k ρ/\Ab ρ/\(SqL K H l us\/H l≈(.tup us))/\B2 H ds us/\Ba ρ n ds/\1<=n/\n<=4 /\
 ∀ H',Cb C B H' p k ρ n ds->(∀ b o,b≠p->H b≈o->H' b≈o)->Q .non H'
def r9{C p:ε}{H H':Hp}{k:ε}{ρ:RS}{o:HO}(h:BN C H k ρ)(hp:H p≈o)(s:∀ b o,b≠p->H b≈o->H' b≈o)(nk:k≠p)(no:∀ o' u,o≠.frz o' u)(nt:∀ xs,o≠.tup xs):BN C H' k ρ:=by
 obtain⟨dx,d,a,o1,oa,ν,AL,h1,h2,h3,h4⟩:=h.ex;have ne:∀ {b o' u},H b≈(.frz o' u)->b≠p:=λ{b o' u} e z=>by rw[z,hp]at e;exact no _ _ (BQ e)
 have net:∀ {b xs},H b≈(.tup xs)->b≠p:=λ{b xs} e z=>by rw[z,hp]at e;exact nt _ (BQ e)
 exact⟨dx,d,a,o1,oa,ν,AL,s _ _ nk h1,⟨s _ _ (ne h2.at_) h2.at_,h2.ups.mono λb xs e=>s _ _ (net e) e⟩,s _ _ (ne h3) h3,h4.mono λb o' fk e=>s _ _ (ne e) e⟩
abbrev O5:LS:=["self","kinds","places","deeds"]
def zM:Ad O5 O5 (AJ Xs):=by nofun
def oY(F:Bj K "__init__" "Board.__init__" Xs f fd)(T:U5 mg)(TB:Gn K B)(TC:C0 K C)(DD:Def K mg "check_deeds" Uh ["kinds","places","deeds"] fD fdD)(DI:Def K mg "is_call" Ii CD fI fdI)(MH:Gj K C fH fdH)(hBC:B≠C):
  ⋯ 4 f fd O5 (Wn K C B):=by
 have GD:⋯ 3 fD fdD ["kinds","places","deeds"] (iB K C):=ug DD DI T.enum T.len T.all TC MH
 nomatch F.ok zM
 ·obtain⟨p,dx,k,l,n,ρ,ds,us,rfl,_⟩:=h;rfl
 ·obtain⟨p,dx,k,l,n,ρ,ds,us,rfl,hp,kd,g,hl,hD,gd,n1,n4,q⟩:=h;obtain⟨b,hl,Sy⟩:∃ b,EK K b H l us/\(b=false->H l≈(.tup us)):=by
   rcases hl with hl | hl
   ·exact⟨true,hl,λz=>by cases z⟩
   ·exact⟨false,AH.of hl,λ_=>hl⟩
  obtain⟨t1,hP⟩:=T.places;obtain⟨t2,hM⟩:=T.deeds;have D_:AV 3 _:=hr.mono (by decide)
  ac_nf
  refine⟨_,pS (Ae (Bs (XA NZ NZ AE (pv 2) (Cv (v:=.int 4) (by rfl) hP ⟨Z⟩))) Dh Af)
   (pS (Ae (Al Pu (Aa Hd (by rfl) T.len Yy (pC (pv 3) AB)) (Cv (v:=.int 64) (by rfl) hM ⟨Z⟩) (Ai _)) Dh Af)
   (pS (B8 (AO DD GD D_ (pC (pv 1) (pC (pv 2) (pC (pv 3) AB)))))
   (pS (P6 (pv 0) (pv 1) rfl) (pS (P6 (pv 0) (pv 2) rfl)
   (AG (P6 (pv 0) (F6 L8 (by rfl) T.tuple Jo (pC (pv 3) AB)) rfl)))))),?_⟩
  exists let b:=AF _ a;let c:=AF _ b;let e:=AF _ c;let f:=AF _ e;AF _ f _ _ _
  refine⟨Z,_,Z,Y,Z,?_⟩;rw[show decide ((1:Int)<=(n:Int))=true from Jb (by omega)];refine CG ⟨_,Z,Y,Z,?_⟩;rw[show(decide ((n:Int)<=4))=true from Jb (by omega)];refine Ap ?_;have hul:=↑hD;have few:=gd.few;refine⟨Z,_,Z,Wj hl,_,Z,Y,Z,?_⟩;rw[show decide ((64:Int)<(↑us:Int))=false from Jc (by omega)];refine Ap ?_;refine⟨Z,Z,Z,p |> λ_=>k,l,n,b,ρ,ds,us,Y,kd,g,hl,hD,gd,n4,λH1 s1=>?_⟩;have Eh:=s1 _ _ hp;have Vu:=kd.mono s1;have nkp:k≠p:=by
   intro z;obtain⟨IH,d,a,o,oa,ν,AL,h1,_⟩:=kd.ex;rw[z,hp]at h1;injection h1 with h1;injection h1 with h1;exact hBC h1
  refine⟨Z,Z,p,B,dx,[],Y,Eh,TB.cl,TB.nB,(by show 0<1000;decide),?_⟩;refine⟨Z,Z,p,B,dx,Z,uS,TB.cl,TB.nW,(by show 1<1000;decide),?_⟩;rw[Np];have kp:∀ {fs:List (Str×V)} (b:ε) (o:HO),b≠p->H b≈o->(upd H1 p (.ins B dx fs)) b≈o:=λb o hb e=>by rw[AD hb];exact s1 _ _ e
  have hlp:∀ {fs:List (Str×V)},EK K b (upd H1 p (.ins B dx fs)) l us:=λ{fs}=>by
   have Bd:=hl.mono s1;cases b with
   | true =>
    rcases(show SqL K H1 l us from Bd)with(e | ⟨o,e⟩) | e
    ·exact .inl (.inl (by rw[AD (λz=>by rw[z,Eh]at e;cases e)];exact e))
    ·exact .inl (.inr ⟨o,by rw[AD (λz=>by rw[z,Eh]at e;cases e)];exact e⟩)
    ·exact .inr e
   | false =>
    rcases(show AH K H1 l us from Bd)with(e | ⟨o,e⟩) | e
    ·exact .inl (.inl (by rw[AD (λz=>by rw[z,Eh]at e;cases e)];exact e))
    ·exact .inl (.inr ⟨o,by rw[AD (λz=>by rw[z,Eh]at e;cases e)];exact e⟩)
    ·exact .inr e
  have fin:∀(t:ε) (H2:Hp),AA (upd H1 p (.ins B dx (Be "width" (.int n) (Be "book" (.ref k) [])))) H2->H2 t≈(.tup us)->Q .non (upd H2 p (.ins B dx (FP k t n))):=λt H2 s2 ht=>by
   have Eg:H2 p≈(.ins B dx (Be "width" (.int n) (Be "book" (.ref k) []))):=s2 _ _ uS;have k2:∀ b o,b≠p->H b≈o->(upd H2 p (.ins B dx (FP k t n))) b≈o:=λb o hb e=>by rw[AD hb];exact s2 _ _ (kp b o hb e)
   refine q _ ⟨dx,t,us,uS,r9 kd hp k2 nkp (λ_ _ z=>by cases z) (λ_ z=>by cases z),by rw[AD (λz=>by rw[z,Eg]at ht;cases ht)];exact ht,Paired.mapP hD λd v ⟨t',e,x⟩=>⟨t',e,k2 _ _ (λz=>by rw[z,hp]at x;cases x) x⟩⟩ k2
  refine⟨Z,l,us,Y,?_⟩;have no:=hlp (fs:=Be "width" (.int n) (Be "book" (.ref k) []));have wd:(Be "width" (V.int n) (Be "book" (V.ref k) [])).length<1000:=by show 2<1000;decide
  cases b with
  | true =>
   refine .inl ⟨no,λt ht=>⟨Z,p,B,dx,Z,(B1 ht) _ _ uS,TB.cl,TB.nS,wd,fin t _ (B1 ht) uS⟩⟩
  | false =>
   have e:(upd H1 p (.ins B dx (Be "width" (.int n) (Be "book" (.ref k) [])))) l≈(.tup us):=by
    have e0:=s1 _ _ (Sy rfl);rw[AD (λz=>by rw[z,Eh]at e0;cases e0)];exact e0
   exact .inr ⟨no,Z,p,B,dx,Z,uS,TB.cl,TB.nS,wd,fin l _ (AA.refl _) e⟩
def Ly(C B:ε):Sp:=λvs H Q _=>∃(p k:ε) (ρ:RS) (n:Nat) (ds:ξ),vs=[.ref p]/\Cb C B H p k ρ n ds/\Q (.ref k) H
def N5(C B:ε):Sp:=λvs H Q _=>∃(p k:ε) (ρ:RS) (n:Nat) (ds:ξ),vs=[.ref p]/\Cb C B H p k ρ n ds/\Q (.int n) H
def QM(C B:ε):Sp:=λvs H Q _=>∃(p k:ε) (ρ:RS) (n:Nat) (ds:ξ),vs=[.ref p]/\Cb C B H p k ρ n ds/\∀ l us,H l=none->B2 H ds us->Q (.ref l) (upd H l (.lst us))
def zN:Ad ["self"] ["self"] (AJ Uc):=by nofun
def N9(F:Bj K "kinds" "Board.kinds" Uc f fd)(TB:Gn K B):⋯ 1 f fd ["self"] (Ly C B):=by
 nomatch F.ok zN
 ·obtain⟨p,k,ρ,n,ds,rfl,_⟩:=h;rfl
 ·obtain⟨p,k,ρ,n,ds,rfl,⟨dx,t,us,h1,h2,h3,h4⟩,q⟩:=h;exact⟨_,AG (AS (Lo (pv 0) rfl)),Z,p,B,dx,_,Z,h1,TB.cl,TB.nB,xS _ _ _,q⟩
def zO:Ad ["self"] ["self"] (AJ Uq):=by nofun
def QZ(F:Bj K "places" "Board.places" Uq f fd)(TB:Gn K B):⋯ 1 f fd ["self"] (N5 C B):=by
 nomatch F.ok zO
 ·obtain⟨p,k,ρ,n,ds,rfl,_⟩:=h;rfl
 ·obtain⟨p,k,ρ,n,ds,rfl,⟨dx,t,us,h1,h2,h3,h4⟩,q⟩:=h;exact⟨_,AG (AS (Lo (pv 0) rfl)),Z,p,B,dx,_,Z,h1,TB.cl,TB.nW,xU _ _ _,q⟩
def zL:Ad ["self"] ["self"] (AJ Ub):=by nofun
def UG(F:Bj K "deeds" "Board.deeds" Ub f fd)(TB:Gn K B)(list:mg "list"=none):⋯ 1 f fd ["self"] (QM C B):=by
 nomatch F.ok zL
 ·obtain⟨p,k,ρ,n,ds,rfl,_⟩:=h;rfl
 ·obtain⟨p,k,ρ,n,ds,rfl,⟨dx,t,us,h1,h2,h3,h4⟩,q⟩:=h;exact⟨_,AG (AS (F6 UZ (by rfl) list Io (pC (Lo (pv 0) rfl) AB))),Z,p,B,dx,_,Z,h1,TB.cl,TB.nS,xT _ _ _,t,us,Y,.inr (AH.of h3),λl hl=>q l us hl h4⟩
abbrev Nk(K:Fg)(B f:ε)(fd:FuncData):Prop:=HK K B "kinds" "Board.kinds" Uc ["self"] f fd
abbrev QI(K:Fg)(B f:ε)(fd:FuncData):Prop:=HK K B "places" "Board.places" Uq ["self"] f fd
abbrev Ti(K:Fg)(B f:ε)(fd:FuncData):Prop:=HK K B "deeds" "Board.deeds" Ub ["self"] f fd
def CJ(ρ:RS)(xs ys:LS):Bool:=(xs.zip ys).all λp=>Av ρ p.1 p.2
def Qt(p:Str×Str):V×V:=(V.str p.1,V.str p.2)
def Tw(xs ys:LS):(xs.map V.str).zip (ys.map V.str)=(xs.zip ys).map Qt:=by rw[List.zip_map];rfl
def Ki{α β:Type}{f:α->β}{l:List α}{i:Nat}{y:β}(h:(l.map f)[i]?≈y):∃ x,l[i]?≈x/\f x=y:=by
 rw[Yh]at h;exact Ip.mp h
def UB(C:ε):Sp:=λvs H Q _=>∃(p a b:ε) (ρ:RS) (xs ys:LS),vs=[.ref p,.ref a,.ref b]/\BN C H p ρ/\Ab ρ/\H a≈(.tup (xs.map V.str))/\H b≈(.tup (ys.map V.str))/\(∀ x∈xs,x∈ρ.map (·.1))/\(∀ y∈ys,y∈ρ.map (·.1)) /\
 ∀ H',AA H H'->Q (.bl (CJ ρ xs ys)) H'
def Xm(C:ε):Sp:=λvs H Q _=>∃(p t:ε) (n:Nat) (ρ:RS) (xs:LS),vs=[.ref p,.int n,.ref t]/\BN C H p ρ/\Ab ρ/\H t≈(.tup (xs.map V.str))/\Bh ρ n xs/\n<=4/\∀ H',AA H H'->Q .non H'
def AR(ρ:RS)(ds:ξ)(xs:LS):LN:=(List.range ↑ds).filter λi=>CJ ρ xs (ds.getD i [])
def XS(C B:ε):Sp:=λvs H Q _=>∃(p k t:ε) (ρ:RS) (n:Nat) (ds:ξ) (xs:LS),vs=[.ref p,.ref t]/\Cb C B H p k ρ n ds/\Ab ρ/\Ba ρ n ds/\n<=4/\H t≈(.tup (xs.map V.str))/\Bh ρ n xs /\
 ∀ l H',H l=none->AA H H'->H' l≈(.lst ((AR ρ ds xs).map λi=>V.int (i:Nat)))->Q (.ref l) H'
abbrev lK:LS:=["kinds","one","other","low","high"]
def i3:Ad lK ["kinds","one","other"] (AJ Nx):=by nofun
def ee(F:Def K mg "within" Nx ["kinds","one","other"] f fd)(zip:mg "zip"=none)(TC:C0 K C)(MU:P1 K C fU fdU)(MC:TQ K C fC fdC)(MH:Gj K C fH fdH):
  ⋯ 4 f fd ["kinds","one","other"] (UB C):=by
 have GU:⋯ 3 fU fdU ["self","one","other"] (QE C):=W_ MU.fn TC MC MH
 nomatch F.fn.ok i3
 ·obtain⟨p,a,b,ρ,xs,ys,rfl,_⟩:=h;rfl
 ·obtain⟨p,a,b,ρ,xs,ys,rfl,kd,g,ha,hb,hx,hy,q⟩:=h;obtain⟨dx,d,a1,o,oa,ν,AL,h1,_⟩:=kd.ex;have nd:=i3.nd;refine⟨_,pS (CS Bb rfl (jw (by rfl) zip (pC (pv 1) (pC (pv 2) AB))) (IU rfl (gC (gE 3 nd) (gC (gE 4 nd) IY)))
    (AG (Ae (Bs (BZ (E1 (pv 0) TC.cl MU.me GU hr MU.b .nil BS (pC (pv 3) (pC (pv 4) AB))))) (AG (AS Bg)) Af)))
   (AG (AS Bg)),?_⟩
  refine⟨Z,Z,a,b,_,Z,AH.of ha,AH.of hb,XH (λi σ H'=>∃(u v:OV),σ=[↥(.ref p),↥(.ref a),↥(.ref b),u,v]/\AA H H'/\∀ z∈(xs.zip ys).take i,Av ρ z.1 z.2=true)
   ⟨none,none,Y,AA.refl H,by simp⟩ (λi σ H' _ ⟨_,_,_,s,_⟩=>⟨AH.of (s _ _ ha),AH.of (s _ _ hb)⟩) ?_ ?_⟩
  ·rintro i pr t σ H' hi ⟨u,v,rfl,s1,hall⟩ LP;rw[Tw]at hi;obtain⟨z,hz,rfl⟩:=Ki hi;refine Tg ?_;have s2:=s1.trans (B1 (o:=.tup [(Qt z).1,(Qt z).2]) LP);have zm:=Yd hz;have hzx:=hx _ (Om zm).1;have hzy:=hy _ (Om zm).2;refine⟨Z,p,dx,Z,s2 _ _ h1,QL _ _,Z,Z,p,ρ,z.1,z.2,Y,kd.mono s2,g,hzx,hzy,Z,?_⟩;refine A2 (λh=>?_) (λh=>?_)
   ·have e:CJ ρ xs ys=false:=by
     unfold CJ;rw[List.all_eq_false];exact⟨z,zm,by simpa using h⟩
    have q':=q _ s2;rw[e]at q';exact q'
   ·refine⟨_,Z,s2,λy IB=>?_⟩;rw[Ce,hz]at IB
    rcases Yp.mp IB with m | m
    ·exact hall y m
    ·have:y=z:=by simpa using m
     rw[this];simpa using h
  ·rintro σ H' ⟨u,v,rfl,s1,hall⟩;rw[Tw,Ya,Dy]at hall;have e:CJ ρ xs ys=true:=by
    unfold CJ;rw[Bv];exact hall
   have q':=q _ s1;rw[e]at q';exact q'
def ic:Ad CD CD (AJ L7):=by nofun
def iD(F:Def K mg "check_call" L7 CD f fd)(DI:Def K mg "is_call" Ii CD fI fdI)(len:mg "len"=none)(all:mg "all"=none)(TC:C0 K C)(MH:Gj K C fH fdH):⋯ 3 f fd CD (Xm C):=by
 have GI:⋯ 2 fI fdI CD (UA C):=Xf DI len all TC MH
 nomatch F.fn.ok ic
 ·obtain⟨p,t,n,ρ,xs,rfl,_⟩:=h;rfl
 ·obtain⟨p,t,n,ρ,xs,rfl,kd,g,ht,gc,hn,q⟩:=h;refine⟨_,AG (Ae (Bs (BZ (AO DI GI hr (pC (pv 0) (pC (pv 1) (pC (pv 2) AB)))))) Dh Af),?_⟩;refine⟨Z,Z,Z,p,t,n,ρ,xs,Y,kd,g,ht,by have:=gc.len;omega,λH' s'=>⟨Z,?_⟩⟩;rw[gc.is];exact Ap (q H' s')
abbrev Z8:LS:=["board","call","kinds"]
def U3:Ad Z8 ["board","call"] (AJ Kk):=by nofun
def yU:(["number","deed","kinds","call"]:LS).Nodup:=by rfl'
def iT(p:V×V):V:=p.1
def pA{ρ:RS}{ds:ξ}{xs:LS}{us:LV}{p:V×V->Bool}(hl:↑ds=↑us)(h:∀ i (d:LS) v,ds[i]?≈d->us[i]?≈v->p (.int (i:Nat),v)=CJ ρ xs d):
  ((HS us).filter p).map iT=(AR ρ ds xs).map λi=>V.int (i:Nat):=by
 have e1:HS us=(List.range ↑us).map λ(i:Nat)=>(V.int (i:Nat),us.getD i .non):=by
  refine OZ λi=>?_;by_cases hi:i<↑us
  ·have h1:(HS us)[i]?≈((HS us)[i]'(by rw[N7];exact hi)):=Yb (by rw[N7];exact hi);obtain⟨a,b⟩:=QT h1;rw[h1,Yh,JZ hi];refine congrArg some (Prod.ext a ?_);show _=us.getD i .non;rw[Yg,b];rfl
  ·rw[E2 (by rw[N7];omega),E2 (by simp;omega)]
 rw[e1,Oj,Bu];unfold AR;rw[hl];have e2:(List.range ↑us).filter (p ∘ λ(i:Nat)=>(V.int (i:Nat),us.getD i .non))=(List.range ↑us).filter λi=>CJ ρ xs (ds.getD i []):=by
  refine List.filter_congr λi hi=>?_;have hi:i<↑us:=CA.mp hi;have d1:ds[i]?≈(ds.getD i []):=by rw[Yg,Yb (by omega)];rfl
  have u1:us[i]?≈(us.getD i .non):=by rw[Yg,Yb hi];rfl
  exact h i _ _ d1 u1
 rw[e2];rfl
def iM(ρ:RS)(ds:ξ)(xs:LS):V×V->Bool
 | (.int i,_)=>CJ ρ xs (ds.getD i.toNat [])
 | _=>false
def tL(F:Def K mg "fitting" Kk ["board","call"] f fd)(T:U5 mg)(zip:mg "zip"=none)(TC:C0 K C)(TB:Gn K B)(MK:Nk K B fK fdK)(MP:QI K B fPl fdPl)(MD:Ti K B fDe fdDe)
  (DCk:Def K mg "check_call" L7 CD fCk fdCk) (DW:Def K mg "within" Nx ["kinds","one","other"] fW fdW) (DI:Def K mg "is_call" Ii CD fI fdI) (MU:P1 K C fU fdU) (MC:TQ K C fC fdC) (MH:Gj K C fH fdH):
  ⋯ 5 f fd ["board","call"] (XS C B):=by
 have GK:⋯ 1 fK fdK ["self"] (Ly C B):=N9 MK.fn TB;have GP:⋯ 1 fPl fdPl ["self"] (N5 C B):=QZ MP.fn TB;have GD:⋯ 1 fDe fdDe ["self"] (QM C B):=UG MD.fn TB T.list;have GC:⋯ 3 fCk fdCk CD (Xm C):=iD DCk DI T.len T.all TC MH;have GW:⋯ 4 fW fdW ["kinds","one","other"] (UB C):=ee DW zip TC MU MC MH
 nomatch F.fn.ok U3
 ·obtain⟨p,k,t,ρ,n,ds,xs,rfl,_⟩:=h;rfl
 ·obtain⟨p,k,t,ρ,n,ds,xs,rfl,bd,g,gd,hn,ht,gc,q⟩:=h;obtain⟨dx,ts,us,h1,h2,h3,h4⟩:=bd.ex;have nd:=U3.nd;have Ac:AV 1 _:=hr.mono (by decide);have D_:AV 3 _:=hr.mono (by decide);refine'⟨_,pS (Bt (i:=2) nd rfl (Or.inr rfl) (EX (pv 0) TB.cl MK.me GK Ac MK.b .nil BS))
   (pS (B8 (AO DCk GC D_ (pC (pv 2) (pC (EX (pv 0) TB.cl MP.me GP Ac MP.b .nil BS) (pC (pv 1) AB)))))
   (AG (AS ?ea))),?_⟩
  case ea=>exact(BO ["number","deed"] ["kinds","call"] [2,1] (λ_=>A3 (osc:=AJ Kk) (on:=Z8) (by rfl') rfl rfl rfl) (Wv (by rfl) T.enum (pC (EX (pv 0) TB.cl MD.me GD Ac MD.b .nil BS) AB))
    (λC s H fp=>Tc (K:=K) (i:=0) (j:=1) rfl rfl yU rfl rfl (Or.inl rfl) (Or.inl rfl) (Or.inr rfl) (Or.inr rfl))
    (λC s H fp=>F3 (BZ (AO DW GW hr (pC (pv 2) (pC (pv 3) (pC (pv 1) AB)))))) (λC s H fp=>pv 0))
  refine⟨Z,p,dx,Z,h1,N8 _ _ _,p,k,ρ,n,ds,Y,bd,?_⟩;refine⟨Z,Z,p,dx,Z,h1,QY _ _ _,p,k,ρ,n,ds,Y,bd,Z,k,t,n,ρ,xs,Y,h2,g,ht,gc,hn,λH1 s1=>?_⟩;refine⟨Z,p,dx,Z,s1 _ _ h1,QV _ _ _,p,k,ρ,n,ds,Y,bd.mono s1,λl J4 hl hD=>?_⟩;have s2:AA H1 (upd H1 l (.lst J4)):=B1 hl;have hul:=↑hD;have few:=gd.few;refine⟨true,l,J4,Y,SqL.of uS,eR (sL (by rw[N7];omega)) (iM ρ ds xs) iT (λH' s'=>SqL.of (s' _ _ uS)) ?_ ?_ ?_⟩
  ·intro x H' R s' hx hR;obtain⟨i,hi⟩:=D0 hx;obtain⟨e1,hu⟩:=QT hi;obtain⟨dd,hdd,t2,e2,Bp⟩:=B3 hD hu;have BF:=s1.trans (s2.trans s');have gcd:=gd.call dd (Yd hdd);rw[e2];refine⟨Z,Z,Z,k,t,t2,ρ,xs,dd,Y,h2.mono BF,g,BF _ _ ht,s' _ _ (s2 _ _ Bp),gc.known,gcd.known,λH3 s3=>⟨Z,?_⟩⟩;have e:iM ρ ds xs x=CJ ρ xs dd:=by
    obtain⟨x1,x2⟩:=x;have e1:x1=.int (i:Nat):=e1;rw[e1];show CJ ρ xs (ds.getD ((i:Nat):Int).toNat [])=_;rw[Yt,Yg,hdd];rfl
   rw[<- e];exact hR H3 s3
  ·intro x H' R s' hx _ hR;exact⟨Z,hR H' (AA.refl _)⟩
  ·intro D H' Pj s' Fh;have BF:=s1.trans (s2.trans s');refine q D H' ?_ BF ?_
   ·cases e:H D with
    | none=>rfl
    | some u=>have:=s2 _ _ (s1 _ _ e);rw[this]at Pj;cases Pj
   ·rw[Fh,pA hul λi d v hd hv=>?_];show CJ ρ xs (ds.getD ((i:Nat):Int).toNat [])=_;rw[Yt,Yg,hd];rfl
def KR{H:Hp}{p a:ε}{o:HO}{ws:LS}(h:H p≈o)(ho:Er o)(ha:H a≈(.lst (ws.map V.str))):p≠a:=YM h ha (by
 obtain⟨r,b,e,_⟩:=ho;rw[e];intro z;injection z with z;have z2:=congrArg (λl=>l[0]?) z;cases ws with
 | nil=>simp at z2
 | cons x r=>simp at z2)
theorem Drawn.tup{p:ε}{H H':Hp}(d:Drawn p H H'){o:HO}(h:H p≈o)(ho:Er o){t:ε}{xs:LV}(e:H t≈(.tup xs)):H' t≈(.tup xs):=
 d.keep _ _ (λz=>by rw[z,h]at e;obtain⟨_,_,q,_⟩:=ho;rw[q]at e;cases e) e
def OD{H H':Hp}{l:ε}{ρ:RS}(h:Gq H l ρ)(s:AA H H'):Gq H' l ρ:=by
 obtain⟨vs,a,p⟩:=h;exact⟨vs,s _ _ a,Paired.mapP p λr v ⟨t,u,e,h1,h2⟩=>⟨t,u,e,s _ _ h1,s _ _ h2⟩⟩
def Xi{K:Fg}{l:ε}{H2:Hp}{ρ:RS}{σ:St}{te:TE}{Q:VK}(hR:Gq H2 l ρ)(few:↑ρ<=100)
  (he:∀(t u:ε) (x:Str) H' (R:VK),H' t≈(.tup [.str x,.ref u])->R (.str x) H'->te [↥(.ref t)] H' R)
  (hd:∀ D H3,H2 D=none->AA H2 H3->H3 D≈(.lst ((ρ.map (·.1)).map V.str))->Q (.ref D) H3):AU 1 [] (C_ 0) Py te σ Q (RW K l) H2:=by
 obtain⟨vs,hvs,hpr⟩:=hR;refine T5 (B4 (xs:=vs)) (sL (by rw[<- ↑hpr];omega)) (λ_=>true) (λ_ x v _=>∀ r,Ql H2 r x->v=.str r.1) (λ_ _ _ _ _ _ h=>h) (λH' s=>s.seq (SqL.of hvs)) ?_ ?_ ?_
 ·intro x H3 R _ _ Ag;exact Ag H3 (AA.refl _)
 ·intro D x H3 R s3 _ _ hx _ Ag;obtain⟨i,hi⟩:=List.mem_iff_getElem?.mp hx;obtain⟨r,As,t,u,rfl,ht,BR⟩:=B3 hpr hi;refine he t u r.1 H3 R (s3 _ _ ht) (Ag _ _ (AA.refl _) λr' h'=>?_);obtain⟨t',u',e1,e2,_⟩:=h';cases e1;rw[ht]at e2;have e2:=BQ e2;injection e2 with e2;injection e2 with e2 _
 ·intro D H3 ys hD H_ hlD hpD;rw[T3]at hpD;have eys:ys=(ρ.map (·.1)).map V.str:=by
   have:∀ {ρ:RS} {vs ys:LV},Paired (Ql H2) ρ vs->Paired (λx v=>∀ r,Ql H2 r x->v=.str r.1) vs ys->ys=(ρ.map (·.1)).map V.str:=by
    intro ρ vs ys a
    induction a generalizing ys with
    | nil=>intro b;cases b;rfl
    | cons h t ih =>
     intro b;cases b with
     | cons h' t'=>rw[Yr,Yr,h' _ h,ih t']
   exact this hpr hpD
  subst eys;exact hd D H3 hD H_ hlD
def N_{ws:LS}{v:Int}(h0:0<=v)(h1:v<↑(ws.map V.str)):∃ x∈ws,BC (ws.map V.str) v≈(.str x):=by
 have hl:v.toNat<↑ws:=by rw[Ya]at h1;omega
 refine⟨ws[v.toNat],K3 hl,?_⟩;have e:((v.toNat:Nat):Int)=v:=by omega
 have q:BC (ws.map V.str) ((v.toNat:Nat):Int)≈(.str ws[v.toNat]):=by
  refine DB ?_;rw[Yh,Yb (by omega)];rfl
 rw[e]at q;exact q
abbrev Dt:=W.Dat
def Fn(d:LS):Dt:=.tuple (d.map W.Dat.str)
def yr{d e:LS}(h:Fn d=Fn e):d=e:=by
 unfold Fn at h;injection h with h;exact List.map_inj_right (λa b z=>by injection z) |>.mp h
def dR{K:Fg}{H:Hp}{t:ε}{d:LS}(h:H t≈(.tup (d.map V.str))):Rep K H (.ref t) (Fn d):=.tuple (AH.of h) (Gv d)
theorem gr{K:Fg}{H:Hp}:∀ {ds:ξ}{vs:LV},B2 H ds vs->Ar K H vs (ds.map Fn)
 | _,_,.nil=>.nil
 | _,_,.cons ⟨t,e,h⟩ r=>by rw[e];exact .cons (dR h) (gr r)
def UL{ρ:RS}(g:Ab ρ):∀ x∈ρ.map (·.1),BD x=true:=λx hx=>by
 obtain⟨r,hr,e⟩:=Yk.mp hx;rw[<- e];exact g.word r hr
def XD{ρ:RS}(g:Ab ρ){x y:Str}(hx:x∈ρ.map (·.1))(h:Graph.Reach (An ρ) x y):y∈ρ.map (·.1):=
 Graph.closed_reach (S:=λy=>y∈ρ.map (·.1)) (λz hz u hu=>g0 g hz hu) h hx
def wM(n:Nat){x:Str}(h:BD x=true):W.kqdOk n (.str x)=true:=by
 have q:=WS (ws:=[x]) (λy hy=>by rw[Yi.mp hy];exact h);rw[W.kqdOk]at q;have q2:W.kqdOk 8 (.str x)=true:=by simpa using q
 rw[W.kqdOk]at q2;rw[W.kqdOk];exact q2
def cE(n:Nat){d:LS}(h:∀ x∈d,BD x=true):W.kqdOk (n + 1) (Fn d)=true:=by
 unfold Fn;rw[W.kqdOk,Bv];intro z hz;obtain⟨x,hx,rfl⟩:=Yk.mp hz;exact wM n (h x hx)
def oZ(n:Nat){ds:ξ}(h:∀ d∈ds,∀ x∈d,BD x=true):(ds.map Fn).all (W.kqdOk (n + 1))=true:=by
 rw[Bv];intro z hz;obtain⟨d,hd,rfl⟩:=Yk.mp hz;exact cE n (h d hd)
def yq(ds:ξ)(d:LS):((ds.map Fn).any λe=>C8 e (Fn d))=decide (d∈ds):=by
 by_cases h:d∈ds
 ·rw[Jb h,F8];exact⟨Fn d,Yk.mpr ⟨d,h,Y⟩,Ey _⟩
 ·rw[Jc h,RB];intro z hz;obtain⟨e,he,rfl⟩:=Yk.mp hz;rw[IV λq=>h (by rw[<- yr q];exact he)];exact Yq
def cT:Sp:=λvs H Q _=>∃(p l aa:ε) (n m:Nat) (ρ:RS) (AL:KL),vs=[.ref p,.ref l,.ref aa,.int n,.int m]/\(∃ o,H p≈o/\Er o)/\Gq H l ρ/\Ab ρ/\H aa≈(.dK AL)/\CH H ρ ρ AL/\1<=n/\n<=4/\m<=63 /\
 ∀(ld:ε) (ds:ξ) (us:LV) (H':Hp),Drawn p H H'->H ld=none->H' ld≈(.lst us)->B2 H' ds us->Ba ρ n ds->↑ds<=m->Q (.ref ld) H'
abbrev YL(K:Fg):LV->Hp->VK->Prop:=λxs H Q=>∃ p ys,xs=[.ref p]/\(SqL K H p ys\/AH K H p ys)/\Q (.int ↑ys) H
structure y6(mg:Str->OU):Prop where
 len:mg "len"=none
 range:mg "range"=none
 tuple:mg "tuple"=none
abbrev Vm:LS:=["pot","rows","above","places","most","words","base","deeds","k","deed","near","place","some"]
def i8:Ad Vm ["pot","rows","above","places","most"] (AJ OJ):=by nofun
def Wk:(["row"]:LS).Nodup:=by rfl'
def jo:(["k","words","pot"]:LS).Nodup:=by rfl'
def B2.drawn{p:ε}{H H':Hp}{o:HO}{ds:ξ}{us:LV}(h:B2 H ds us)(k:∀ b xs,H b≈(.tup xs)->H' b≈(.tup xs)):B2 H' ds us:=Paired.mapP h λ_ _ ⟨t,e,x⟩=>⟨t,e,k _ _ x⟩
set_option maxHeartbeats 8000000 in
def rG(F:Def K mg "_law_deeds" OJ ["pot","rows","above","places","most"] f fd)(DT:Def K mg "_law_take" Hf ["pot","many"] fT fdT)(T:y6 mg):
  ⋯ 2 f fd ["pot","rows","above","places","most"] cT:=by
 have GT:⋯ 1 fT fdT ["pot","many"] KY:=QH DT
 nomatch F.fn.ok i8
 ·obtain⟨p,l,aa,n,m,ρ,AL,rfl,_⟩:=h;rfl
 ·obtain⟨p,l,aa,n,m,ρ,AL,rfl,⟨o0,EB,FF⟩,hR,g,CP,hA,n1,n4,hm,q⟩:=h;have nd:=i8.nd;have hu:=Fy hr;have Ac:AV 1 _:=hr.mono (by decide);have gle:=g.le
  ac_nf
  refine'⟨_,pS (Bt (i:=5) nd rfl (Or.inr rfl) ?e1)
   (pS ?e2
   (pS (sE 7 nd (CI AB))
   (pS (CS Bb rfl (Gu (by rfl) T.range (pC (AO DT GT Ac (pC (pv 0) (pC (Aj F2 (pv 4) AE) AB))) AB)) (gE 8 nd)
    (pS (sE 9 nd (CI AB))
    (pS (sE 10 nd (AO DT GT Ac (pC (pv 0) (pC AE AB))))
    (pS (CS Bb rfl (Gu (by rfl) T.range (pC (pv 3) AB)) (gE 11 nd)
     (pS (sE 12 nd (pv 5))
     (Ka (Ae (Al Pu (pv 10) AE (Ai _)) (AG (sE 12 nd (JS hu (pv 2) (AN Ak (pv 6) (pv 11) (λ_ _=>rfl)) (λ_ _=>rfl)))) Af)
     (AG (B8 (Ct Yz E4 E3 EF (pv 9) (pC (AN Ak (pv 12) (AO DT GT Ac (pC (pv 0) (pC (Aa B9 (by rfl) T.len Yy (pC (pv 12) AB)) AB))) (λ_ _=>rfl)) AB)))))))
    (AG (Ae (Al (qz (U0 hr)) (F6 L8 (by rfl) T.tuple Jo (pC (pv 9) AB)) (pv 7) (by with_unfolding_all rfl))
     (AG (B8 (Ct Yz E4 E3 EF (pv 7) (pC (F6 L8 (by rfl) T.tuple Jo (pC (pv 9) AB)) AB)))) Af))))))
   (AG (AS (pv 7)))))),?_⟩
  case e1=>exact(BO ["row"] [] [] (λ_=>A3 (osc:=AJ OJ) (on:=Vm) (by rfl') rfl rfl rfl) (Bn (pv 1)) (λC s H fp=>Az (i:=0) Wk rfl (Or.inl rfl) (Or.inr rfl)) (λC s H fp=>Br) (λC s H fp=>AN (r:=Ax K) A0 (pv 0) AE (λ_ _=>rfl)))
  case e2=>exact(L6 (k:=6) ["k"] ["words","pot"] [5,0] nd rfl rfl (λ_=>A3 (osc:=AJ OJ) (on:=Vm) (by rfl') rfl rfl rfl) (Gu (by rfl) T.range (pC (pv 3) AB)) (λC s H fp=>Az (i:=0) jo rfl (Or.inl rfl) (Or.inr rfl)) (λC s H fp=>Br)
    (λC s H fp=>AN (r:=A6 K) Ak (pv 1) (AO DT GT Ac (pC (pv 2) (pC (Aa (r:=YL K) B9 (by rfl) T.len Yy (pC (pv 1) AB)) AB))) (λ_ _=>rfl)))
  exists let b:=_;let c:=HP _ b _;let e:=_;let f:=_;let g:=Uw (HP _ f _) e;let h:=AF _ g;let i:=AF (Es _ _ h) c;let j:=AF _ i;let k:=AF _ j;let l:=AF (Es _ _ k) a;let m:=AF _ l;let n:=AF _ m;AF _ n _ _ _
  obtain⟨ka,ZG,hpr0⟩:=id hR;refine⟨Z,l,Y,⟨_,SqL.of ZG⟩,Xi hR (by omega) (λt u x H' R ht hRx=>⟨Z,t,Q,Z,Y,AH.of ht,Y,hRx⟩) λlw H1 hlw s1 hw=>?_⟩;have Eh:=s1 _ _ EB;have lwp:lw≠p:=Yx (KR Eh FF hw);have lwH:H lw=none:=hlw;have wne:ρ.map (·.1)≠[]:=by
   have:=g.ne;intro z;have z2:=congrArg List.length z;rw[Ya]at z2;simp at z2;rw[z2]at this;simp at this
  have wpos:0<↑(ρ.map (·.1)):=ML.mpr wne;have wl:↑(ρ.map (·.1))<=24:=by rw[Ya];exact gle
  let EM:ε->Nat->LV->St->Hp->Prop:=λD i ys σ' H'=>Drawn p H1 H'/\H' D≈(.lst ys)/\∃(bs:LS) (o:OV),ys=bs.map V.str/\↑bs=i/\(∀ x∈bs,x∈ρ.map (·.1))/\σ'=[o,↥(.ref lw),↥(.ref p)];refine⟨Z,n,Y,W,W,Kh Gx (by rw[Cw];exact sL (by omega)) EM
   (λD hD=>⟨(Drawn.refl ⟨o0,Eh,FF⟩).new hD,uS,[],none,Y,Y,(λx h=>nomatch h),Y⟩) (λD i ys σ' H' _ h0=>by obtain⟨_,_,bs,_,e,el,_⟩:=h0;exact⟨trivial,by rw[e,Ya];omega⟩) ?_ ?_⟩
  ·rintro D i v ys σ' H' hD hi ⟨d,hl,bs,o,rfl,rfl,hb,rfl⟩;obtain⟨hi,rfl⟩:=EH hi;obtain⟨o1,hpp,hoo⟩:=d.pot;have JD:=d.keep _ _ lwp hw;have pD:p≠D:=AK Eh hD;refine⟨Z,Z,Z,lw,Z,.inl (SqL.of JD),p,_,o1,Y,hpp,hoo,O,O,λv o2 B6 Bz CF=>?_⟩;obtain⟨x,hxm,hat⟩:=N_ B6 Bz;have d2:Drawn p H' (upd H' p o2):=Drawn.upd CF;refine⟨lw,Q,Z,Y,SqL.of (d2.keep _ _ lwp JD),hat,d2.keep _ _ (Yx pD) hl,(d.trans d2).sub (o':=.lst []) (q:=D) (λb o hb e=>by rw[AD hb];exact e) hD pD,uS,bs++[x],_,by rw[BP];rfl,by simp,λy hy=>?_,Y⟩
   rcases Yp.mp hy with z | z
   ·exact hb y z
   ·rw[Yi.mp z];exact hxm
  rintro lb ys σ' H2 hlb ⟨d2,Rt,bs,o,rfl,hbl,hb,rfl⟩;rw[Cw]at hbl;have hbl:↑bs=n:=by simpa using hbl
  have bG:Drawn p H H2:=⟨λb o hb e=>d2.keep b o hb (s1 _ _ e),d2.pot⟩;have Sn:=d2.keep _ _ lwp hw;have lbH:H lb=none:=s1.free hlb;have pb:p≠lb:=AK EB lbH;have wb:lw≠lb:=AK hw hlb;refine⟨BE _,λld hld=>?_⟩;have d3:=bG.new (o:=.lst []) hld;have K8:∀ b o,H2 b≈o->(upd H2 ld (.lst [])) b≈o:=B1 hld;have ldH:H ld=none:=by
   cases e:H ld with
   | none=>rfl
   | some u =>
    by_cases z:ld=p
    ·obtain⟨o1,h1,_⟩:=d2.pot;rw[z,h1]at hld;cases hld
    ·rw[bG.keep _ _ z e]at hld;cases hld
  have pd:p≠ld:=AK EB ldH;have wd:lw≠ld:=AK Sn hld;have bd:lb≠ld:=AK Rt hld;obtain⟨o3,PU,Ff⟩:=d3.pot;refine⟨Z,Z,_,Z,Y,p,_,o3,Y,PU,Ff,W,W,λv o4 B6 Bz PV=>⟨v,Y,W,W,?_⟩⟩;have d4:Drawn p H (upd (upd H2 ld (.lst [])) p o4):=d3.trans (Drawn.upd PV);let E5:NW:=λi σ H'=>∃(ds:ξ) (us:LV) (a b c d e:OV),σ=[↥(.ref p),↥(.ref l),↥(.ref aa),↥(.int n),↥(.int m),↥(.ref lw),↥(.ref lb),↥(.ref ld),a,b,c,d,e]/\Drawn p H H'/\H' lw≈(.lst ((ρ.map (·.1)).map V.str))/\H' lb≈(.lst (bs.map V.str))/\H' ld≈(.lst us)/\B2 H' ds us/\(∀ d∈ds,Bh ρ n d)/\ds.Nodup/\↑ds<=i;refine C3 Gx E5
   ⟨[],[],none,none,none,none,none,Y,d4,by rw[AD lwp];exact K8 _ _ Sn,by rw[AD (Yx pb)];exact K8 _ _ Rt,by rw[AD (Yx pd)];exact uS,.nil,(λd h=>nomatch h),G8,Yf _⟩ (λ_ _ _ _ _=>trivial) ?_ ?_
  ·rintro i v' σ H5 hi ⟨ds,us,a5,b5,c5,e5,f5,rfl,d5,Sm,Sw,aW,WA,WC,Z2,len5⟩;obtain⟨hi,rfl⟩:=EH hi;obtain⟨o5,PR,NI⟩:=d5.pot;refine⟨BE _,λlq hlq=>?_⟩;have d6:=(Drawn.refl (p:=p) ⟨o5,PR,NI⟩).new (o:=.lst []) hlq;obtain⟨o6,NH,JF⟩:=d6.pot;refine⟨Z,p,3,o6,Y,NH,JF,V,V,λnr o7 hn0 hn1 EO=>?_⟩;have pq:p≠lq:=AK PR hlq;have d7:Drawn p H5 (upd (upd H5 lq (.lst [])) p o7):=d6.trans (Drawn.upd EO);let Jt:NW:=λj σ H'=>∃(xs:LS) (d e:OV),σ=[↥(.ref p),↥(.ref l),↥(.ref aa),↥(.int n),↥(.int m),↥(.ref lw),↥(.ref lb),↥(.ref ld),↥(.int (0 + (i:Nat))),↥(.ref lq),↥(.int nr),d,e]/\Drawn p H5 H'/\H' lq≈(.lst (xs.map V.str))/\↑xs=j/\∀ x∈xs,x∈ρ.map (·.1);refine⟨Z,n,Y,W,W,C3 Gx Jt
    ⟨[],_,Z,d7,by rw[AD (Yx pq)];exact uS,Y,(λx h=>nomatch h)⟩ (λ_ _ _ _ _=>trivial) ?_ ?_⟩
   ·rintro j v2 σ H8 hj ⟨xs,d8,e8,rfl,Fl,PM,rfl,Sj⟩;obtain⟨hj,rfl⟩:=EH hj;have hj:↑xs<n:=by omega
    obtain⟨o8,PN,IE⟩:=Fl.pot;have Hs:=d5.trans Fl;have PD:=Fl.keep _ _ lwp Sm;have JI:=Fl.keep _ _ (Yx pb) Sw;refine⟨Z,?_⟩;let Hj:SW:=λσ' H'=>∃(as:ε) (fs:LS),σ'=[↥(.ref p),↥(.ref l),↥(.ref aa),↥(.int n),↥(.int m),↥(.ref lw),↥(.ref lb),↥(.ref ld),↥(.int (0 + (i:Nat))),↥(.ref lq),↥(.int nr),↥(.int (0 + (↑xs:Nat))),↥(.ref as)]/\H'=H8/\H8 as≈(.lst (fs.map V.str))/\fs≠[]/\↑fs<=24/\∀ x∈fs,x∈ρ.map (·.1);refine⟨Hj,?_,?_⟩
    ·refine⟨Z,_,Z,Y,Z,A2 (λh=>?_) (λh=>?_)⟩
     ·have hbx:bs[↑xs]?≈(bs[↑xs]'(by omega)):=Yb (by omega);generalize bs[↑xs]'(by omega)=x at hbx;have hxm:=hb x (Yd hbx);obtain⟨r,As,er⟩:=Gw hxm;obtain⟨t,fs,hv,ht,hfs,fl⟩:=hA.val' g.nd As;have xfs:x∈fs:=(hfs x).mpr (by rw[er];exact .refl x);have tp:t≠p:=Yx (KR EB FF ht);have aap:aa≠p:=λz=>by rw[z,EB]at CP;obtain⟨_,_,q',_⟩:=FF;rw[q']at CP;cases CP
      have hat:BC (bs.map V.str) (0 + (↑xs:Nat):Int)≈(.str x):=by
       rw[FV];refine DB ?_;rw[Yh,hbx];rfl
      have kn:∀ y∈fs,y∈ρ.map (·.1):=λy hy=>XD g hxm (by rw[<- er];exact(hfs y).mp hy);exact⟨Z,Z,Z,lb,Q,Z,Y,SqL.of JI,hat,aa,Z,(by rw[<- hv,er];exact Bk.k (k:=Sum.inr x) (Hs.keep _ _ aap CP)),t,fs,Y,Y,Hs.keep _ _ tp ht,(λz=>by rw[z]at xfs;cases xfs),W,kn⟩
     ·exact⟨lw,Z,Y,PD,wne,wl,λx h=>h⟩
    ·rintro σ' H' ⟨as,fs,rfl,ni,has,WE,fl,fk⟩;have e9:=ni.symm;subst e9;have fpos:0<↑fs:=ML.mpr WE;have ap:as≠p:=Yx (KR PN IE has);refine⟨Z,.inl ⟨Y,_,SqL.of PM⟩,Z,Z,Z,as,Z,.inl (SqL.of has),p,_,o8,Y,PN,IE,O,O,λv o9 B6 Bz Vz=>?_⟩;obtain⟨x,hxm,hat⟩:=N_ B6 Bz;have d9:Drawn p H8 (upd H8 p o9):=Drawn.upd Vz;have mP:=d9.keep _ _ (Yx pq) PM;refine⟨as,Q,Z,Y,SqL.of (d9.keep _ _ ap has),hat,lq,_,Z,Y,mP,B_ (by rw[Ya];omega),xs++[x],_,Z,(Fl.trans d9).sub (o':=.lst []) (q:=lq) (λb o hb e=>by rw[AD hb];exact e) hlq pq,by rw[uS,BP];rfl,by simp,λy hy=>?_⟩
     rcases Yp.mp hy with z | z
     ·exact Sj y z
     ·rw[Yi.mp z];exact fk x hxm
   ·rintro σ H8 ⟨xs,d8,e8,rfl,Fl,PM,hxl,Sj⟩;rw[Cw]at hxl;have hxl:↑xs=n:=by simpa using hxl
    have ldp:ld≠p:=Yx pd;have Sq:=Fl.keep _ _ ldp aW;have HG:B2 H8 ds us:=WA.drawn (p:=p) (o:=.lst []) λb zs e=>Drawn.tup Fl PR NI e;have okx:∀ y∈xs,BD y=true:=λy hy=>UL g y (Sj y hy);have okd:∀ d∈ds,∀ y∈d,BD y=true:=λd hd y hy=>UL g y ((WC d hd).known y hy);have Hs:=d5.trans Fl;have ldq:ld≠lq:=AK aW hlq;have lwq:lw≠lq:=AK Sm hlq;have lbq:lb≠lq:=AK Sw hlq;have CY:i<m + 1:=by omega
    refine⟨Z,lq,Z,.inl ⟨SqL.of PM,λt ht=>?_⟩⟩;have s9:AA H8 (upd H8 t (.tup (xs.map V.str))):=B1 ht;refine⟨Z,Fn xs,ds.map Fn,dR uS,.list (SqL.of (s9 _ _ Sq)) (gr (HG.mono s9)),cE 8 okx,oZ 7 okd,Z,?_⟩;rw[yq];refine A2 (λh=>?_) (λh=>?_)
    ·have hn:xs∉ds:=by simpa using h
     refine⟨Z,.inl ⟨Y,_,SqL.of (s9 _ _ Sq)⟩,Z,lq,Z,.inl ⟨SqL.of (s9 _ _ PM),λt2 Bp=>?_⟩⟩;have CK:=s9.trans (B1 (o:=.tup (xs.map V.str)) Bp);have Rv:=CK _ _ Sq;have hul:=↑HG;refine⟨ld,_,Z,Y,Rv,B_ (by omega),ds++[xs],us++[.ref t2],Q,Q,Z,?_,?_,?_,uS,?_,?_,?_,?_⟩
     ·exact(Hs.same CK).sub (o':=.lst []) (q:=ld) (λb o hb e=>by rw[AD hb];exact e) ldH pd
     ·rw[AD wd];exact CK _ _ (Fl.keep _ _ lwp Sm)
     ·rw[AD bd];exact CK _ _ (Fl.keep _ _ (Yx pb) Sw)
     ·have tk:∀ b zs,(upd (upd H8 t (.tup (xs.map V.str))) t2 (.tup (xs.map V.str))) b≈(.tup zs)->(upd (upd (upd H8 t (.tup (xs.map V.str))) t2 (.tup (xs.map V.str))) ld (.lst (us++[V.ref t2]))) b≈(.tup zs):=λb zs e=>by
       rw[AD (λz=>by rw[z,Rv]at e;cases e)];exact e
      exact EZ ((HG.mono CK).drawn (p:=p) (o:=.lst []) tk) ⟨t2,Y,tk _ _ uS⟩
     ·intro d hd
      rcases Yp.mp hd with z | z
      ·exact WC d z
      ·rw[Yi.mp z];exact⟨hxl,Sj⟩
     ·rw[Iq];exact⟨Z2,by simp,λa ha b hb e=>hn (by rw[<- Yi.mp hb,<- e];exact ha)⟩
     ·rw[Bw];show ↑ds + 1<=i + 1;omega
    ·exact⟨ds,us,Q,Q,Z,Hs.same s9,s9 _ _ (Fl.keep _ _ lwp Sm),s9 _ _ (Fl.keep _ _ (Yx pb) Sw),s9 _ _ Sq,HG.mono s9,WC,Z2,W⟩
  ·rintro σ H6 ⟨ds,us,a5,b5,c5,e5,f5,rfl,d6,hw6,hb6,mq,nG,nR,lI,Y_⟩;rw[Cw]at Y_;exact⟨Z,q ld ds us H6 d6 ldH mq nG ⟨nR,lI,W⟩ (by omega)⟩
def xF{H H':Hp}{ρ:RS}{AL:KL}(g:Ab ρ)(hA:CH H ρ ρ AL)(s:AA H H'){x:Str}(hx:x∈ρ.map (·.1)):∃(t:ε) (fs:LS),Bm AL (Sum.inr x)≈(.ref t)/\H' t≈(.lst (fs.map V.str))/\∀ y,Gb (V.str y) (fs.map V.str)=Av ρ x y:=by
 obtain⟨r,As,er⟩:=Gw hx;obtain⟨t,fs,hv,ht,hfs⟩:=hA.val g.nd As;refine⟨t,fs,by rw[<- er];exact hv,s _ _ ht,λy=>?_⟩;rw[Nl];exact eV (by rw[er]at hfs;exact hfs) y
def XT:Sp:=λvs H Q _=>∃(aa a b:ε) (ρ:RS) (AL:KL) (xs ys:LS),vs=[.ref aa,.ref a,.ref b]/\Ab ρ/\H aa≈(.dK AL)/\CH H ρ ρ AL/\H a≈(.tup (xs.map V.str))/\H b≈(.tup (ys.map V.str))/\(∀ x∈xs,x∈ρ.map (·.1))/\↑xs<=1000 /\
 ∀ H',AA H H'->Q (.bl (CJ ρ xs ys)) H'
def jy(ρ:RS):V×V->V
 | (.str x,.str y)=>.bl (Av ρ x y)
 | _=>.non
def sr(ρ:RS)(xs ys:LS):(((xs.map V.str).zip (ys.map V.str)).filter λ_=>true).map (jy ρ)=((xs.zip ys).map λp=>Av ρ p.1 p.2).map V.bl:=by
 rw[T3,Tw,Bu,Bu];rfl
def wA:(["under","word","above"]:LS).Nodup:=by rfl'
structure X3(mg:Str->OU):Prop where
 all:mg "all"=none
 zip:mg "zip"=none
 isi:mg "isinstance"=none
 int:mg "int"=none
 bool:mg "bool"=none
abbrev JA:LS:=["above","one","other"]
def zW:Ad JA JA (AJ OO):=by nofun
def tP(F:Def K mg "_law_within" OO JA f fd)(T:X3 mg):⋯ 1 f fd JA XT:=by
 nomatch F.fn.ok zW
 ·obtain⟨aa,a,b,ρ,AL,xs,ys,rfl,_⟩:=h;rfl
 ·obtain⟨aa,a,b,ρ,AL,xs,ys,rfl,g,CP,hA,ha,hb,hx,hl,q⟩:=h;have hu:=Fy hr
  ac_nf
  refine'⟨_,AG (AS (Aa (Kc rfl) (by rfl) T.all Ky (pC ?ea AB))),?_⟩
  case ea=>exact(BO ["under","word"] ["above"] [0] (λ_=>A3 (osc:=AJ OO) (on:=JA) (by rfl') rfl rfl rfl) (jw (by rfl) T.zip (pC (pv 1) (pC (pv 2) AB)))
    (λC s H fp=>Tc (K:=K) (i:=0) (j:=1) rfl rfl wA rfl rfl (Or.inl rfl) (Or.inl rfl) (Or.inr rfl) (Or.inr rfl)) (λC s H fp=>Br)
    (λC s H fp=>Ha (r:=Sd K false) UH (pv 1) (JS hu (pv 2) (pv 0) (λ_ _=>rfl)) (by with_unfolding_all rfl)))
  refine⟨Z,Z,a,b,_,Z,AH.of ha,AH.of hb,eR (sL (by rw[Ol,Ya];omega)) (λ_=>true) (jy ρ) (λH' s'=>⟨AH.of (s' _ _ ha),AH.of (s' _ _ hb)⟩) ?_ ?_ ?_⟩
  ·intro x H' R s' _ hR;exact hR H' (AA.refl _)
  ·intro x H' R s' hxm _ hR;rw[Tw]at hxm;obtain⟨z,hz,rfl⟩:=Yk.mp hxm;obtain⟨t,fs,hv,ht,hin⟩:=xF g hA s' (hx _ (Om hz).1);refine⟨Z,Z,Z,aa,Z,(by rw[<- hv];exact Bk.k (k:=Sum.inr z.1) (s' _ _ CP)),t,Z,.inl (SqL.of ht),Y,QU fs,?_⟩;have e1:(if false=true then !Gb (Qt z).2 (fs.map V.str)else Gb (Qt z).2 (fs.map V.str))=Av ρ z.1 z.2:=by rw[if_neg (by decide)];exact hin z.2
   rw[e1];exact hR H' (AA.refl _)
  ·intro D H' hD s' Fh;refine⟨D,Z,SqL.of (by rw[Fh,sr]),?_⟩;have q':=q H' s';unfold CJ at q';show Q (.bl (((xs.zip ys).map λp=>Av ρ p.1 p.2).all id)) _;rw[List.all_map];exact q'
def cc:Sp:=λvs H Q _=>∃ i:Int,vs=[.int i]/\Q (.bl true) H
def zd:Ad ["found"] ["found"] (AJ Uk):=by nofun
def pj(F:Def K mg "_law_whole" Uk ["found"] f fd)(T:X3 mg):⋯ 1 f fd ["found"] cc:=by
 nomatch F.fn.ok zd
 ·obtain⟨i,rfl,_⟩:=h;rfl
 ·obtain⟨i,rfl,q⟩:=h
  ac_nf
  refine'⟨_,AG (AS (Ng ?ea (Ni (kO ?eb)))),?_⟩
  case ea=>exact Aa Kd (by rfl) T.isi Ys (pC (pv 0) (pC (JR (v:=.ty "int") (by rfl) T.int PyProof.Rows.boot_int rfl) AB))
  case eb=>exact Aa Kd (by rfl) T.isi Ys (pC (pv 0) (pC (JR (v:=.ty "bool") (by rfl) T.bool PyProof.Rows.boot_bool rfl) AB))
  refine⟨Z,Q,_,Z,.int i,Y,Z,CG ⟨Z,Q,_,Z,.int i,Y,Z,q⟩⟩
def wB(ρ:RS)(ds:ξ)(j k:Nat):Bool:=CJ ρ (ds.getD j []) (ds.getD k [])
def Lk(W:Nat->Nat->Bool)(θ:LN)(x:Nat):LN:=if θ.any (λk=>W k x)=true then θ else θ.filter (λk=>!W x k)++[x]
def Bl(W:Nat->Nat->Bool)(l:LN):LN:=l.filter λk=>!(l.any λj=>!decide (j=k)&&W j k)
structure Ex(W:Nat->Nat->Bool)(l θ:LN):Prop where
 sub:θ.Sublist l
 min:∀ k∈θ,∀ j∈l,W j k=true->j=k
 dom:∀ j∈l,∃ k∈θ,k=j\/W k j=true
def Ex.nil(W:Nat->Nat->Bool):Ex W [] []:=⟨.slnil,(λk h=>nomatch h),(λk h=>nomatch h)⟩
def Ex.step{W:Nat->Nat->Bool}{l θ:LN}{x:Nat}{S:Nat->Prop}(tr:∀ a b c,S a->S b->S c->W a b=true->W b c=true->W a c=true)(an:∀ a b,S a->S b->W a b=true->W b a=true->a=b)(hl:∀ k∈l,S k)(hx:S x)(h:Ex W l θ):Ex W (l++[x]) (Lk W θ x):=by
 have ns:∀ k∈θ,S k:=λk hk=>hl k (h.sub.subset hk);unfold Lk;by_cases c:θ.any (λk=>W k x)=true
 ·rw[if_pos c];obtain⟨k0,CV,w0⟩:=F8.mp c;refine⟨h.sub.trans (List.sublist_append_left _ _),λk hk j hj w=>?_,λj hj=>?_⟩
  ·rcases Yp.mp hj with z | z
   ·exact h.min k hk j z w
   ·have e:j=x:=Yi.mp z;subst e;have e1:=h.min k hk k0 (h.sub.subset CV) (tr k0 j k (ns _ CV) hx (ns _ hk) w0 w);rw[e1]at w0;exact an j k hx (ns _ hk) w w0
  ·rcases Yp.mp hj with z | z
   ·exact h.dom j z
   ·rw[Yi.mp z];exact⟨k0,CV,.inr w0⟩
 ·rw[if_neg c];have nc:∀ k∈θ,¬ W k x=true:=λk hk w=>c (F8.mpr ⟨k,hk,w⟩);refine⟨List.Sublist.append (List.filter_sublist.trans h.sub) (List.Sublist.refl _),λk hk j hj w=>?_,λj hj=>?_⟩
  ·rcases Yp.mp hk with y | y
   ·obtain⟨y1,y2⟩:=Cc.mp y
    rcases Yp.mp hj with z | z
    ·exact h.min k y1 j z w
    ·rw[Yi.mp z]at w;rw[w]at y2;cases y2
   ·have e:k=x:=Yi.mp y;subst e
    rcases Yp.mp hj with z | z
    ·obtain⟨k0,CV,d⟩:=h.dom j z
     rcases d with d | d
     ·rw[d]at CV;exact absurd w (nc j CV)
     ·exact absurd (tr k0 j k (ns _ CV) (hl _ z) hx d w) (nc k0 CV)
    ·exact Yi.mp z
  ·rcases Yp.mp hj with z | z
   ·obtain⟨k0,CV,d⟩:=h.dom j z;by_cases wx:W x k0=true
    ·refine⟨x,by simp,.inr ?_⟩
     rcases d with d | d
     ·rw[<- d];exact wx
     ·exact tr x k0 j hx (ns _ CV) (hl _ z) wx d
    ·exact⟨k0,Jm _ (Cc.mpr ⟨CV,by simpa using wx⟩),d⟩
   ·rw[Yi.mp z];exact⟨x,by simp,.inl rfl⟩
theorem Xh{α:Type}[DecidableEq α]:∀ {θ l:List α},θ.Sublist l->l.Nodup->θ=l.filter λk=>decide (k∈θ)
 | _,_,.slnil,_=>rfl
 | _,_,.cons a h,nd=>by
  obtain⟨n1,n2⟩:=Yu.mp nd;rw[Di,if_neg (by simpa using λm=>n1 (h.subset m))];exact Xh h n2
 | _,_,.cons₂ (l₁:=n) (l₂:=l) a h,nd=>by
  obtain⟨n1,n2⟩:=Yu.mp nd;rw[Di,if_pos (by simp)]
  congr 1
  have e:(l.filter λk=>decide (k∈a :: n))=l.filter λk=>decide (k∈n):=List.filter_congr λk hk=>by
   have:k≠a:=λz=>n1 (by rw[<- z];exact hk);simp[this]
  rw[e];exact Xh h n2
def Ex.is{W:Nat->Nat->Bool}{l θ:LN}(nd:l.Nodup)(h:Ex W l θ):θ=Bl W l:=by
 refine(Xh h.sub nd).trans ?_;unfold Bl;refine List.filter_congr λk hk=>?_;rw[Im,decide_eq_true_iff,Bool.not_eq_true',RB];constructor
 ·intro hm j hj z;rw[EI]at z;have:=h.min k hm j hj z.2;simp[this]at z
 ·intro hm;obtain⟨k0,CV,d⟩:=h.dom k hk
  rcases d with d | d
  ·rw[<- d];exact CV
  ·by_cases e:k0=k
   ·rw[<- e];exact CV
   ·exact absurd (by rw[EI];exact⟨by simp[e],d⟩) (hm k0 (h.sub.subset CV))
def gz{ρ:RS}{x y:Str}:Av ρ x y=true↔Graph.Reach (An ρ) x y:=by
 unfold Av;exact @decide_eq_true_iff _ (Classical.propDecidable _)
def ye{ρ:RS}(g:Ab ρ):∃ rk:Str->Nat,∀ a b,b∈An ρ a->rk b<rk a:=by
 obtain⟨rk,hrk⟩:=g.rank;refine⟨rk,λa b hb=>?_⟩;unfold An at hb;cases e:ρ.lookup a with
 | none=>rw[e]at hb;simp at hb
 | some us =>
  rw[e]at hb;have hm:(a,us)∈ρ:=Dz e;exact hrk (a,us) hm b hb
def su{ρ:RS}(g:Ab ρ){x y:Str}(h1:Graph.Reach (An ρ) x y)(h2:Graph.Reach (An ρ) y x):x=y:=by
 obtain⟨rk,hrk⟩:=ye g;refine Kr λne=>?_;have a:=Graph.Reach.rank_lt hrk h1 ne;have b:=Graph.Reach.rank hrk h2;omega
def uB{ups:Str->LS}{x y z:Str}(h1:Graph.Reach ups x y)(h2:Graph.Reach ups y z):Graph.Reach ups x z:=h1.trans h2
def OC{ρ:RS}{xs ys:LS}:CJ ρ xs ys=true↔∀(i:Nat) (x y:Str),xs[i]?≈x->ys[i]?≈y->Graph.Reach (An ρ) x y:=by
 unfold CJ;rw[Bv];constructor
 ·intro h i x y hx hy;have hz:(xs.zip ys)[i]?≈(x,y):=by rw[YV];exact⟨hx,hy⟩
  exact gz.mp (h _ (Yd hz))
 ·intro h p hp;obtain⟨i,hi⟩:=D0 hp;rw[YV]at hi;exact gz.mpr (h i _ _ hi.1 hi.2)
def uU{ρ:RS}{n:Nat}{xs ys zs:LS}(h1:↑xs=n)(h2:↑ys=n)(h3:↑zs=n)(a:CJ ρ xs ys=true)(b:CJ ρ ys zs=true):CJ ρ xs zs=true:=by
 rw[OC]at a b ⊢;intro i x z hx hz;have hi:i<↑ys:=by have:=(Ye.mp hx).1;omega
 exact uB (a i x _ hx (Yb hi)) (b i _ z (Yb hi) hz)
def uG{ρ:RS}(g:Ab ρ){n:Nat}{xs ys:LS}(h1:↑xs=n)(h2:↑ys=n)(a:CJ ρ xs ys=true)(b:CJ ρ ys xs=true):xs=ys:=by
 rw[OC]at a b;refine List.ext_getElem (h1.trans h2.symm) λi i1 i2=>?_;exact su g (a i _ _ (Yb i1) (Yb i2)) (b i _ _ (Yb i2) (Yb i1))
def Df{ds:ξ}{j:Nat}(h:j<↑ds):ds[j]?≈(ds.getD j []):=by
 rw[Yg,Yb h];rfl
section
variable {ρ:RS}{n:Nat}{ds:ξ}(g:Ab ρ)(gd:Ba ρ n ds)
include gd in
def pf(a b c:Nat)(ha:a<↑ds)(hb:b<↑ds)(hc:c<↑ds)(h1:wB ρ ds a b=true)(h2:wB ρ ds b c=true):wB ρ ds a c=true :=
 uU (gd.call _ (Yd (Df ha))).len (gd.call _ (Yd (Df hb))).len (gd.call _ (Yd (Df hc))).len h1 h2
include g gd in
def ya(a b:Nat)(ha:a<↑ds)(hb:b<↑ds)(h1:wB ρ ds a b=true)(h2:wB ρ ds b a=true):a=b:=by
 have e:=uG g (gd.call _ (Yd (Df ha))).len (gd.call _ (Yd (Df hb))).len h1 h2;have h3:=Df ha;have h4:=Df hb;rw[e]at h3;exact(List.getElem?_inj ha gd.nd).mp (h3.trans h4.symm)
include g gd in
def eY{l θ:LN}{x:Nat}(hl:∀ k∈l,k<↑ds)(hx:x<↑ds)(h:Ex (wB ρ ds) l θ):Ex (wB ρ ds) (l++[x]) (Lk (wB ρ ds) θ x):=
 h.step (S:=λk=>k<↑ds) (pf gd) (ya g gd) hl hx
end
def gY(C:ε):Sp:=λvs H Q _=>∃(p ld ln:ε) (x n:Nat) (ρ:RS) (ds:ξ) (us:LV) (θ:LN),vs=[.ref p,.ref ld,.ref ln,.int x]/\BN C H p ρ/\Ab ρ/\H ld≈(.lst us)/\B2 H ds us/\Ba ρ n ds/\H ln≈(.lst (θ.map AI))/\(∀ k∈θ,k<↑ds)/\x<↑ds/\↑θ<=64 /\
 ∀ l H',AA H H'->(l=ln\/H l=none)->H' l≈(.lst ((Lk (wB ρ ds) θ x).map AI))->Q (.ref l) H'
def wV(ρ:RS)(ds:ξ)(x:Nat):V->V
 | .int j=>.bl (wB ρ ds j.toNat x)
 | _=>.non
def Z1(ρ:RS)(ds:ξ)(x:Nat):V->Bool
 | .int j=>!wB ρ ds x j.toNat
 | _=>false
def xG(ρ:RS)(ds:ξ)(x:Nat)(θ:LN):((θ.map AI).filter λ_=>true).map (wV ρ ds x)=(θ.map λk=>wB ρ ds k x).map V.bl:=by
 rw[G5.mpr (λ_ _=>rfl),Bu,Bu];rfl
def xk(ρ:RS)(ds:ξ)(x:Nat)(θ:LN):((θ.map AI).filter (Z1 ρ ds x)).map (λv=>v)=(θ.filter λk=>!wB ρ ds x k).map AI:=by
 rw[Hh,Oj];rfl
def bz:(["kept","kinds","deeds","number"]:LS).Nodup:=by rfl'
abbrev J9:LS:=["kinds","deeds","near","number"]
def zX:Ad J9 J9 (AJ OR):=by nofun
def uN(F:Def K mg "nearest_with" OR J9 f fd)(any:mg "any"=none)(DW:Def K mg "within" Nx ["kinds","one","other"] fW fdW)(GW:⋯ 4 fW fdW ["kinds","one","other"] (UB C)):
  ⋯ 5 f fd J9 (gY C):=by
 nomatch F.fn.ok zX
 ·obtain⟨p,ld,ln,x,n,ρ,ds,us,θ,rfl,_⟩:=h;rfl
 ·obtain⟨p,ld,ln,x,n,ρ,ds,us,θ,rfl,kd,g,hld,hD,gd,ER,hk,hx,hn,q⟩:=h;refine'⟨_,pS (Ae (BZ (Aa (QJ rfl) (by rfl) any Qx (pC ?ea AB))) (AG (AS (pv 2))) Af) (AG (AS (Aj WU ?eb (CI (pC (pv 3) AB))))),?_⟩
  case ea=>exact(BO ["kept"] ["kinds","deeds","number"] [0,1,3] (λ_=>A3 (osc:=AJ OR) (on:=J9) (by rfl') rfl rfl rfl) (Bn (pv 2)) (λC s H fp=>Az (i:=0) bz rfl (Or.inl rfl) (Or.inr rfl)) (λC s H fp=>Br)
    (λC s H fp=>AO DW GW hr (pC (pv 1) (pC (AN (r:=A6 K) Ak (pv 2) (pv 0) (λ_ _=>rfl)) (pC (AN (r:=A6 K) Ak (pv 2) (pv 3) (λ_ _=>rfl)) AB)))))
  case eb=>exact(BO ["kept"] ["kinds","deeds","number"] [0,1,3] (λ_=>A3 (osc:=AJ OR) (on:=J9) (by rfl') rfl rfl rfl) (Bn (pv 2)) (λC s H fp=>Az (i:=0) bz rfl (Or.inl rfl) (Or.inr rfl))
    (λC s H fp=>F3 (Bs (BZ (AO DW GW hr (pC (pv 1) (pC (AN (r:=A6 K) Ak (pv 2) (pv 3) (λ_ _=>rfl)) (pC (AN (r:=A6 K) Ak (pv 2) (pv 0) (λ_ _=>rfl)) AB))))))) (λC s H fp=>pv 0))
  have hul:=↑hD;have at_:∀(H':Hp) (k:Nat),AA H H'->k<↑ds->∃ t,BC us ((k:Nat):Int)≈(.ref t)/\H' t≈(.tup ((ds.getD k []).map V.str)):=λH' k s' hk=>by
   have CW:k<↑us:=by omega
   obtain⟨dd,hdd,t,e,ht⟩:=B3 hD (Yb CW);refine⟨t,DB ((Yb CW).trans (congrArg some e)),?_⟩;have e2:ds.getD k []=dd:=by rw[Yg,hdd];rfl
   rw[e2];exact s' _ _ ht
  have kn:∀ k,k<↑ds->∀ y∈ds.getD k [],y∈ρ.map (·.1):=λk hk=>(gd.call _ (Yd (Df hk))).known;refine⟨Z,ln,Y,⟨_,SqL.of ER⟩,EG (B4 (xs:=θ.map AI)) (sL (by rw[Ya];omega)) (λ_=>true) (wV ρ ds x) (λH' s'=>s'.seq (SqL.of ER)) ?_ ?_ ?_⟩
  ·intro v H' R s' _ hR;exact hR H' (AA.refl _)
  ·intro v H' R s' hv _ hR;obtain⟨k,CW,rfl⟩:=Yk.mp hv;obtain⟨t1,a1,h1⟩:=at_ H' k s' (hk k CW);obtain⟨t2,a2,h2⟩:=at_ H' x s' hx;exact⟨Z,Z,Z,ld,Q,Z,Y,SqL.of (s' _ _ hld),a1,Z,Z,ld,Q,Z,Y,SqL.of (s' _ _ hld),a2,p,t1,t2,ρ,_,Z,kd.mono s',g,h1,h2,kn k (hk k CW),kn x hx,λBL By=>hR BL By⟩
  ·intro D H1 Pj s1 Bd;rw[xG]at Bd;have eA:(θ.map λk=>wB ρ ds k x).any id=θ.any λk=>wB ρ ds k x:=by rw[List.any_map];rfl
   refine⟨D,Z,SqL.of Bd,_,congrArg V.bl eA,?_⟩;refine A2 (λh=>?_) (λh=>?_)
   ·refine⟨Z,q ln H1 s1 (.inl rfl) ?_⟩;unfold Lk;rw[if_pos h];exact s1 _ _ ER
   ·refine⟨Z,ln,Y,⟨_,SqL.of (s1 _ _ ER)⟩,EG (B4 (xs:=θ.map AI)) (sL (by rw[Ya];omega)) (Z1 ρ ds x) (λv=>v) (λH' s'=>s'.seq (SqL.of (s1 _ _ ER))) ?_ ?_ ?_⟩
    ·intro v H' R s' hv hR;obtain⟨k,CW,rfl⟩:=Yk.mp hv;have s2:=s1.trans s';obtain⟨t1,a1,h1⟩:=at_ H' k s2 (hk k CW);obtain⟨t2,a2,h2⟩:=at_ H' x s2 hx;exact⟨Z,Z,Z,ld,Q,Z,Y,SqL.of (s2 _ _ hld),a2,Z,Z,ld,Q,Z,Y,SqL.of (s2 _ _ hld),a1,p,t2,t1,ρ,_,Z,kd.mono s2,g,h2,h1,kn x hx,kn k (hk k CW),λBL By=>⟨Z,hR BL By⟩⟩
    ·intro v H' R s' hv _ hR;exact⟨Z,hR H' (AA.refl _)⟩
    ·intro D2 H2 Gh s2 CO;rw[xk]at CO;have fl:↑(θ.filter λk=>!wB ρ ds x k)<=64:=A8 (Hg _ _) hn;refine⟨Z,G,λl3 Ck=>⟨D2,l3,_,Z,Y,(B1 Ck) _ _ CO,uS,sL (by rw[Ya];show _ + 1<=100000;omega),λl4 DV=>?_⟩⟩;have C7:=s1.trans s2;have s3:=C7.trans (B1 (o:=.lst [.int x]) Ck);refine q l4 _ (s3.trans (B1 DV)) (.inr (s3.free DV)) ?_;rw[uS];unfold Lk;rw[if_neg h,BP];rfl
def g_(C B:ε):Sp:=λvs H Q _=>∃(p k l:ε) (ρ:RS) (n:Nat) (ds:ξ) (ms:LN),vs=[.ref p,.ref l]/\Cb C B H p k ρ n ds/\Ab ρ/\Ba ρ n ds/\H l≈(.lst (ms.map AI))/\(∀ j∈ms,j<↑ds)/\ms.Nodup/\↑ms<=64 /\
 ∀ l' H',AA H H'->H l'=none->H' l'≈(.lst ((Bl (wB ρ ds) ms).map AI))->Q (.ref l') H'
abbrev lR:LS:=["board","numbers","kinds","deeds","near","number"]
def ip:Ad lR ["board","numbers"] (AJ Up):=by nofun
def bx{ms:LN}{i:Nat}{v:V}(h:(ms.map AI)[i]?≈v):∃ x,ms[i]?≈x/\v=.int (x:Nat):=by
 obtain⟨x,h1,h2⟩:=Ki h;exact⟨x,h1,h2.symm⟩
def ub(F:Def K mg "nearest_among" Up ["board","numbers"] f fd)(list:mg "list"=none)(any:mg "any"=none)(TB:Gn K B)(MK:Nk K B fK fdK)(MD:Ti K B fDe fdDe)(DN:Def K mg "nearest_with" OR J9 fN fdN)
  (DW:Def K mg "within" Nx ["kinds","one","other"] fW fdW) (GW:⋯ 4 fW fdW ["kinds","one","other"] (UB C)):⋯ 6 f fd ["board","numbers"] (g_ C B):=by
 have GK:⋯ 1 fK fdK ["self"] (Ly C B):=N9 MK.fn TB;have GD:⋯ 1 fDe fdDe ["self"] (QM C B):=UG MD.fn TB list;have GN:⋯ 5 fN fdN J9 (gY C):=uN DN any DW GW
 nomatch F.fn.ok ip
 ·obtain⟨p,k,l,ρ,n,ds,ms,rfl,_⟩:=h;rfl
 ·obtain⟨p,k,l,ρ,n,ds,ms,rfl,bd,g,gd,hl,hms,FZ,hml,q⟩:=h;obtain⟨dx,ts,us0,h1,h2,h3,h4⟩:=bd.ex;have nd:=ip.nd;have Ac:AV 1 _:=hr.mono (by decide);refine⟨_,(pS (sE 2 nd (EX (pv 0) TB.cl MK.me GK Ac MK.b .nil BS))
   (pS (sE 3 nd (EX (pv 0) TB.cl MD.me GD Ac MD.b .nil BS))
   (pS (sE 4 nd (CI AB))
   (pS (CS Bb rfl (Bn (pv 1)) (gE 5 nd) (AG (sE 4 nd (AO DN GN hr (pC (pv 2) (pC (pv 3) (pC (pv 4) (pC (pv 5) AB))))))))
   (AG (AS (pv 4))))))),?_⟩
  refine⟨Z,p,dx,Z,h1,N8 _ _ _,p,k,ρ,n,ds,Y,bd,?_⟩;refine⟨Z,p,dx,Z,h1,QV _ _ _,p,k,ρ,n,ds,Y,bd,λld us hld hD=>?_⟩;have s1:AA H (upd H ld (.lst us)):=B1 hld;refine⟨BE _,λl0 NK=>?_⟩;have s2:AA H (upd (upd H ld (.lst us)) l0 (.lst [])):=s1.trans (B1 NK);have ZS:(upd (upd H ld (.lst us)) l0 (.lst [])) ld≈(.lst us):=(B1 NK) _ _ uS;have ZU:H l0=none:=s1.free NK;refine⟨Z,l,Y,⟨_,SqL.of (s2 _ _ hl)⟩,C3 (B4 (xs:=ms.map AI)) (λi σ H'=>∃(ln:ε) (θ:LN) (x:OV),σ=[↥(.ref p),↥(.ref l),↥(.ref k),↥(.ref ld),↥(.ref ln),x]/\AA H H'/\H' ld≈(.lst us)/\H ln=none/\H' ln≈(.lst (θ.map AI))/\Ex (wB ρ ds) (ms.take i) θ)
   ⟨l0,[],none,Y,s2,ZS,ZU,uS,Ex.nil _⟩ (λi σ H' _ ⟨_,_,_,_,s',_⟩=>SqL.of (s' _ _ hl)) ?_ ?_⟩
  ·rintro i v σ H' hi ⟨ln,θ,x0,rfl,s',Mv,hlnH,ER,ok⟩;obtain⟨x,hx,rfl⟩:=bx hi;have nl:↑θ<=↑ms:=A8 ok.sub.length_le (by rw[BU];omega);refine⟨Z,Z,Z,Z,k,ld,ln,x,n,ρ,ds,us,θ,Y,h2.mono s',g,Mv,hD.mono s',gd,ER,λj hj=>hms j (Kw (ok.sub.subset hj)),hms x (Yd hx),W,λl' H2 By hor Fh=>?_⟩;refine⟨l',_,Z,s'.trans By,By _ _ Mv,?_,Fh,?_⟩
   ·rcases hor with z | z
    ·rw[z];exact hlnH
    ·exact s'.free z
   ·rw[Ce,hx];exact eY g gd (λj hj=>hms j (Kw hj)) (hms x (Yd hx)) ok
  ·rintro σ H' ⟨ln,θ,x0,rfl,s',Mv,hlnH,ER,ok⟩;rw[Ya,Dy]at ok;refine⟨Z,q ln H' s' hlnH ?_⟩;rw[ER,ok.is FZ]
def Wh{ρ:RS}{ds:ξ}{xs:LS}:∀ k∈AR ρ ds xs,k<↑ds:=λk hk=>CA.mp (Cc.mp hk).1
def Kb(ρ:RS)(ds:ξ)(xs:LS):(AR ρ ds xs).Nodup:=List.nodup_range.filter _
def QK(ρ:RS)(ds:ξ)(xs:LS):↑(AR ρ ds xs)<=↑ds:=by
 unfold AR;refine A8 (Hg _ _) ?_;rw[Ec];exact Yf _
def Ll:LN->LV
 | []=>[.str "none"]
 | [k]=>[.str "deed",AI k]
 | k :: j :: _=>[.str "clash",AI k,AI j]
def eE:Sp:=λvs H Q _=>∃(l:ε) (θ:LN),vs=[.ref l]/\H l≈(.lst (θ.map AI))/\∀ t H',H t=none->AA H H'->H' t≈(.tup (Ll θ))->Q (.ref t) H'
def vP:Ad ["near"] ["near"] (AJ UJ):=by nofun
def sV(F:Def K mg "told_of" UJ ["near"] f fd)(len:mg "len"=none):⋯ 1 f fd ["near"] eE:=by
 nomatch F.fn.ok vP
 ·obtain⟨l,θ,rfl,_⟩:=h;rfl
 ·obtain⟨l,θ,rfl,hl,q⟩:=h;refine⟨_,pS (Ae (Bs (XB (pv 0) (λ_=>rfl))) (AG (AS (Ca (pC FQ AB)))) Af)
   (pS (Ae (Al Cs (Aa B9 (by rfl) len Yy (pC (pv 0) AB)) AE (Ai _)) (AG (AS (Ca (pC FQ (pC (AN Ak (pv 0) AE (λ_ _=>rfl)) AB))))) Af)
   (AG (AS (Ca (pC FQ (pC (AN Ak (pv 0) AE (λ_ _=>rfl)) (pC (AN Ak (pv 0) AE (λ_ _=>rfl)) AB))))))),?_⟩
  cases θ with
  | nil=>exact⟨Z,false,.inl ⟨[],SqL.of hl,Y⟩,CG ⟨G,λt ht=>q t _ ht (B1 ht) uS⟩⟩
  | cons k r =>
   refine⟨Z,true,.inl ⟨_,SqL.of hl,Y⟩,Ap ?_⟩;refine⟨Z,l,Z,.inl (SqL.of hl),Y,Z,?_⟩;cases r with
   | nil =>
    refine A2 (λ_=>?_) (λh=>absurd (by rfl) h);exact⟨Z,l,Q,Z,Y,SqL.of hl,Y,U,λt ht=>q t _ ht (B1 ht) uS⟩
   | cons j r =>
    refine A2 (λh=>?_) (λ_=>?_)
    ·have h:=Je h;injection h with h;simp at h;omega
    ·exact⟨Z,l,Q,Z,Y,SqL.of hl,DB (j:=0) rfl,Z,l,Q,Z,Y,SqL.of hl,DB (j:=1) rfl,sL (by show 3<=100000;decide),λt ht=>q t _ ht (B1 ht) uS⟩
def X6(ρ:RS)(ds:ξ)(xs:LS):V->Bool
 | .int i=>CJ ρ xs (ds.getD i.toNat [])
 | _=>false
def xP(ρ:RS)(ds:ξ)(xs:LS):((C2 0 ↑ds).filter (X6 ρ ds xs)).map (λv=>v)=(AR ρ ds xs).map AI:=by
 rw[Hh,Xg,Oj];rfl
def Ke{H H':Hp}{ds:ξ}{us:LV}(hD:B2 H ds us)(s:AA H H'){k:Nat}(hk:k<↑ds):∃ t,BC us ((k:Nat):Int)≈(.ref t)/\H' t≈(.tup ((ds.getD k []).map V.str)):=by
 have hul:=↑hD;have CW:k<↑us:=by omega
 obtain⟨dd,hdd,t,e,ht⟩:=B3 hD (Yb CW);refine⟨t,DB ((Yb CW).trans (congrArg some e)),?_⟩;have e2:ds.getD k []=dd:=by rw[Yg,hdd];rfl
 rw[e2];exact s _ _ ht
def gJ{ρ:RS}{n:Nat}{ds:ξ}(gd:Ba ρ n ds){k:Nat}(hk:k<↑ds):∀ y∈ds.getD k [],y∈ρ.map (·.1):=(gd.call _ (Yd (Df hk))).known
def Nq{ρ:RS}{n:Nat}{ds:ξ}(gd:Ba ρ n ds){k:Nat}(hk:k<↑ds):↑(ds.getD k [])=n:=(gd.call _ (Yd (Df hk))).len
def KO:LN->List Dt
 | []=>[.str "none"]
 | [k]=>[.str "deed",IL k]
 | k :: j :: _=>[.str "clash",IL k,IL j]
def rD{K:Fg}{H:Hp}:∀ θ:LN,Ar K H (Ll θ) (KO θ)
 | []=>.cons (.str _) .nil
 | [k]=>.cons (.str _) (.cons (.int _) .nil)
 | k :: j :: _=>.cons (.str _) (.cons (.int _) (.cons (.int _) .nil))
def dS{K:Fg}{H:Hp}{t:ε}{θ:LN}(h:H t≈(.tup (Ll θ))):Rep K H (.ref t) (.tuple (KO θ)):=.tuple (AH.of h) (rD θ)
def vE(n:Nat):W.kqdOk n (.str "none")=true:=by rw[W.kqdOk];rfl'
def vD(n:Nat):W.kqdOk n (.str "deed")=true:=by rw[W.kqdOk];rfl'
def vC(n:Nat):W.kqdOk n (.str "clash")=true:=by rw[W.kqdOk];rfl'
def kL(n k:Nat):W.kqdOk n (IL k)=true:=by unfold IL;rw[W.kqdOk]
def dO(n:Nat):∀ θ:LN,W.kqdOk (n + 1) (.tuple (KO θ))=true
 | []=>by rw[W.kqdOk];simp[KO,vE]
 | [k]=>by rw[W.kqdOk];simp[KO,vD,kL]
 | k :: j :: _=>by rw[W.kqdOk];simp[KO,vC,kL]
def nx(W:Nat->Nat->Bool):Nat->LN->LN×LN
 | 0,l=>([],Bl W l)
 | f + 1,l=>match Bl W l with
  | [k]=>(k :: (nx W f (l.erase k)).1,(nx W f (l.erase k)).2)
  | ms=>([],ms)
def TZ{W:Nat->Nat->Bool}{f k:Nat}{l:LN}(h:Bl W l=[k]):nx W (f + 1) l=(k :: (nx W f (l.erase k)).1,(nx W f (l.erase k)).2):=by
 rw[nx,h]
def TY{W:Nat->Nat->Bool}{f:Nat}{l:LN}(h:↑(Bl W l)≠1):nx W f l=([],Bl W l):=by
 cases f with
 | zero=>rfl
 | succ f =>
  rw[nx];cases e:Bl W l with
  | nil=>rfl
  | cons a r =>
   cases r with
   | nil=>rw[e]at h;exact absurd rfl h
   | cons b r=>rfl
def Kf{W:Nat->Nat->Bool}{l:LN}:∀ k∈Bl W l,k∈l:=λk hk=>(Cc.mp hk).1
def UE{l:LN}{k:Nat}(h:k∈l):↑(l.erase k) + 1=↑l:=by
 rw[List.length_erase_of_mem h];have:=List.length_pos_of_mem h;omega
def Ta{l:LN}(h:↑l=1):∃ k,l=[k]:=List.length_eq_one_iff.mp h
def cW(C B:ε):Sp:=λvs H Q _=>∃(p k t:ε) (ρ:RS) (n:Nat) (ds:ξ) (xs:LS),vs=[.ref p,.ref t]/\Cb C B H p k ρ n ds/\Ab ρ/\Ba ρ n ds/\n<=4/\H t≈(.tup (xs.map V.str))/\Bh ρ n xs /\
 ∀(tr lr te:ε) (H':Hp),H lr=none->AA H H'->H' tr≈(.tup [.ref lr,.ref te])->H' lr≈(.lst ((nx (wB ρ ds) ↑(AR ρ ds xs) (AR ρ ds xs)).1.map AI))->H' te≈(.tup (Ll (nx (wB ρ ds) ↑(AR ρ ds xs) (AR ρ ds xs)).2))->Q (.ref tr) H'
abbrev lO:LS:=["board","call","left","near","row"]
def Uu:Ad lO ["board","call"] (AJ Nn):=by nofun
def oi(F:Def K mg "nexts" Nn ["board","call"] f fd)(len:mg "len"=none)(DA:Def K mg "nearest_among" Up ["board","numbers"] fA fdA)(GA:⋯ 6 fA fdA ["board","numbers"] (g_ C B))(DF:Def K mg "fitting" Kk ["board","call"] fF fdF)(GF:⋯ 5 fF fdF ["board","call"] (XS C B))(DO:Def K mg "told_of" UJ ["near"] fO fdO):
  ⋯ 7 f fd ["board","call"] (cW C B):=by
 have GO:⋯ 1 fO fdO ["near"] eE:=sV DO len
 nomatch F.fn.ok Uu
 ·obtain⟨p,k,t,ρ,n,ds,xs,rfl,_⟩:=h;rfl
 ·obtain⟨p,k,t,ρ,n,ds,xs,rfl,bd,g,gd,hn,ht,gc,q⟩:=h;have nd:=Uu.nd;have Ac:AV 1 _:=hr.mono (by decide);have ID:AV 5 _:=hr.mono (by decide);have few:=gd.few;have fl:=QK ρ ds xs
  ac_nf
  refine⟨_,(pS (sE 2 nd (AO DF GF ID (pC (pv 0) (pC (pv 1) AB))))
   (pS (sE 3 nd (AO DA GA hr (pC (pv 0) (pC (pv 2) AB))))
   (pS (sE 4 nd (CI AB))
   (pS (Kg Bb (Al Cs (Aa B9 (by rfl) len Yy (pC (pv 3) AB)) AE (Ai _))
    (pS (B8 (Ct Yz E4 E3 EF (pv 4) (pC (AN Ak (pv 3) AE (λ_ _=>rfl)) AB)))
   (pS (B8 (Ct Yz PySem.F.slot_list_remove PySem.F.type_list_remove qf (pv 2) (pC (AN Ak (pv 3) AE (λ_ _=>rfl)) AB)))
   (AG (sE 3 nd (AO DA GA hr (pC (pv 0) (pC (pv 2) AB))))))))
   (AG (AS (Ca (pC (pv 4) (pC (AO DO GO Ac (pC (pv 3) AB)) AB))))))))),?_⟩
  exists let b:=_;let c:=AF _ b;let e:=AF _ c;let f:=AF (Lp _ e) a;let g:=AF _ f;let h:=AF _ g;AF _ h _ _ _
  refine⟨Z,Z,p,k,t,ρ,n,ds,xs,Y,bd,g,gd,hn,ht,gc,λll H1 hll s1 Bd=>?_⟩;refine⟨Z,Z,p,k,ll,ρ,n,ds,AR ρ ds xs,Y,bd.mono s1,g,gd,Bd,Wh,Kb _ _ _,W,λln H2 s2 ER CO=>?_⟩;have C7:=s1.trans s2;refine⟨BE _,λlr hlr=>?_⟩;have Rp:=s2 _ _ Bd;have lrH:H lr=none:=C7.free hlr;have llr:ll≠lr:=AK Rp hlr;have lnr:ln≠lr:=AK CO hlr;let E5:NW:=λm σ H'=>∃(ln:ε) (left row:LN),σ=[↥(.ref p),↥(.ref t),↥(.ref ll),↥(.ref ln),↥(.ref lr)]/\AA H H'/\H' ll≈(.lst (left.map AI))/\H' ln≈(.lst ((Bl (wB ρ ds) left).map AI))/\H' lr≈(.lst (row.map AI))/\ln≠ll/\ln≠lr/\(∀ j∈left,j<↑ds)/\left.Nodup/\↑row + ↑left<=64/\nx (wB ρ ds) ↑(AR ρ ds xs) (AR ρ ds xs)=(row++(nx (wB ρ ds) ↑left left).1,(nx (wB ρ ds) ↑left left).2)/\m=↑left;refine⟨E5,
   ⟨_,ln,AR ρ ds xs,[],Y,C7.trans (B1 hlr),by rw[AD llr];exact Rp,by rw[AD lnr];exact CO,uS,Yx (AK Bd ER),lnr,Wh,Kb _ _ _,by show 0 + _<=64;omega,Y,Y⟩,?_⟩
  rintro m σ H' ⟨ln,left,row,rfl,s',ZR,Ho,GQ,nll,nlr,AW,hnd,hlen,hnx,rfl⟩;refine⟨Z,ln,Z,.inl (SqL.of Ho),Y,Z,?_⟩;have e:decide (V.int (↑((Bl (wB ρ ds) left).map AI):Nat)=V.int 1)=decide (↑(Bl (wB ρ ds) left)=1):=by
   rw[Ya];exact Kz.mpr ⟨λz=>by injection z with z;omega,λz=>by rw[z];rfl⟩
  rw[e];refine A2 (λh=>?_) (λh=>?_)
  ·obtain⟨k1,Ei⟩:=Ta (Je h);have kl:k1∈left:=Kf k1 (by rw[Ei];simp);have el:=UE kl;rw[Ei]at Ho;let Hj:SW:=λσ' H2=>∃ m',m'<↑left/\∃(ln:ε) (left row:LN),σ'=[↥(.ref p),↥(.ref t),↥(.ref ll),↥(.ref ln),↥(.ref lr)]/\AA H H2/\H2 ll≈(.lst (left.map AI))/\H2 ln≈(.lst ((Bl (wB ρ ds) left).map AI))/\H2 lr≈(.lst (row.map AI))/\ln≠ll/\ln≠lr/\(∀ j∈left,j<↑ds)/\left.Nodup/\↑row + ↑left<=64/\nx (wB ρ ds) ↑(AR ρ ds xs) (AR ρ ds xs)=(row++(nx (wB ρ ds) ↑left left).1,(nx (wB ρ ds) ↑left left).2)/\m'=↑left;refine⟨Hj,λ_ _ h=>h,?_⟩;refine⟨Z,.inl ⟨Y,_,SqL.of GQ⟩,Z,ln,Q,Z,Y,SqL.of Ho,DB (j:=0) rfl,lr,_,Z,Y,GQ,B_ (by rw[Ya];omega),?_⟩;have C5:(upd H' lr (.lst (row.map AI++[AI k1]))) ll≈(.lst (left.map AI)):=by rw[AD llr];exact ZR
   have ZQ:(upd H' lr (.lst (row.map AI++[AI k1]))) ln≈(.lst ([k1].map AI)):=by rw[AD nlr];exact Ho
   refine⟨Z,.inl ⟨Y,_,SqL.of C5⟩,Z,ln,Q,Z,Y,SqL.of ZQ,DB (j:=0) rfl,ll,left,k1,Y,Y,C5,kl,?_⟩;have s4:AA H (upd (upd H' lr (.lst (row.map AI++[AI k1]))) ll (.lst ((left.erase k1).map AI))):=λb o e=>by
    have n1:b≠ll:=AK e hll;rw[AD n1,AD (AK e lrH)];exact s' _ _ e
   refine⟨Z,Z,p,k,ll,ρ,n,ds,left.erase k1,Y,bd.mono s4,g,gd,uS,λj hj=>AW j (Oo hj),hnd.erase k1,W,λln2 H5 s5 Ro KA=>?_⟩;refine⟨_,W,ln2,left.erase k1,row++[k1],Y,s4.trans s5,s5 _ _ uS,KA,?_,Yx (AK uS Ro),?_,λj hj=>AW j (Oo hj),hnd.erase k1,by rw[Bw];show ↑row + 1 + _<=64;omega,?_,Y⟩
   ·refine s5 _ _ ?_;rw[AD (Yx llr),uS,BP];rfl
   ·intro z;have h0:(upd (upd H' lr (.lst (row.map AI++[AI k1]))) ll (.lst ((left.erase k1).map AI))) lr≈(.lst (row.map AI++[AI k1])):=by rw[AD (Yx llr)];exact uS
    have h1:=Ro;rw[z]at h1;rw[h1]at h0;cases h0
   ·rw[hnx,<- el,TZ Ei];simp
  ·have BG:↑(Bl (wB ρ ds) left)≠1:=λz=>h (Jb z);rw[TY BG]at hnx;refine⟨Z,Z,ln,Z,Ho,λte H3 hte s3 ZI=>⟨U,λtr htr=>?_⟩⟩;have s4:AA H3 (upd H3 tr (.tup [.ref lr,.ref te])):=B1 htr;refine q tr lr te _ lrH (s'.trans (s3.trans s4)) uS ?_ ?_
   ·rw[hnx];show _≈(HO.lst ((row++[]).map AI));rw[Eb];exact s4 _ _ (s3 _ _ GQ)
   ·rw[hnx];exact s4 _ _ ZI
structure Xy(K:Fg)(mg:Str->OU)(x:Str)(C:ε):Prop where
 m:mg x≈(.ref C)
 ex:ExC K C
 ini:W.findIn K (.ref C) "__init__"≈(↥(.builtin "ValueError.__init__"))
def iA(C N:ε):Sp:=λvs H _ E=>∃(p t:ε) (n:Nat) (ρ:RS) (xs:LS),vs=[.ref p,.int n,.ref t]/\BN C H p ρ/\Ab ρ/\H t≈(.tup (xs.map V.str))/\Fx ρ n xs=false/\n<=4/\↑xs<=100/\(∀ x∈xs,Et x)/\∀ H',AA H H'->E (.ref N) none H'
def N6(C B N:ε):Sp:=λvs H _ E=>∃(p k t:ε) (ρ:RS) (n:Nat) (ds:ξ) (xs:LS),vs=[.ref p,.ref t]/\Cb C B H p k ρ n ds/\Ab ρ/\n<=4/\H t≈(.tup (xs.map V.str))/\Fx ρ n xs=false/\↑xs<=100/\(∀ x∈xs,Et x)/\∀ H',AA H H'->E (.ref N) none H'
def ue(F:Def K mg "check_call" L7 CD f fd)(TN:Xy K mg "NoCall" N)(DI:Def K mg "is_call" Ii CD fI fdI)(len:mg "len"=none)(all:mg "all"=none)(TC:C0 K C)(MH:Gj K C fH fdH):Bi P w K mg base (Dm P w) 3 f fd CD (iA C N):=by
 have GI:Bi P w K mg base (Dm P w) 2 fI fdI CD (UA C):=(Xf DI len all TC MH).any
 nomatch F.fn.ok1 ic
 ·obtain⟨p,t,n,ρ,xs,rfl,_⟩:=h;rfl
 ·obtain⟨p,t,n,ρ,xs,rfl,kd,g,ht,hb,n4,hl,hx,q⟩:=h;refine⟨_,(AG (Ae (Bs (BZ (QB GI hr (by rfl) DI.m DI.fn.kp DI.b .nil (Na Dl.of) (pC (pv 0) (pC (pv 1) (pC (pv 2) AB)))))) (AG (pJ (C:=N) Dl.of hr.hd TN.ex TN.ini (by rfl) TN.m (pC (yF (T9 (yG hr (pv 2)) (T9 kQ (T9 (wX (pv 1)) (T9 kQ yH))))) AB))) Af)),?_⟩;refine⟨Z,Z,Z,p,t,n,ρ,xs,Y,kd,g,ht,W,λH' s'=>⟨Z,?_⟩⟩;rw[hb];refine CG ⟨Z,t,xs,Y,.inl (AH.of (s' _ _ ht)),hl,hx,by rfl',Z,n,Y,W,by rfl',λx=>⟨G,q H' s'⟩⟩
def uH(F:Def K mg "fitting" Kk ["board","call"] f fd)(TN:Xy K mg "NoCall" N)(T:U5 mg)(TC:C0 K C)(TB:Gn K B)(MK:Nk K B fK fdK)(MP:QI K B fPl fdPl)
  (DC:Def K mg "check_call" L7 CD fCk fdCk) (DI:Def K mg "is_call" Ii CD fI fdI) (MH:Gj K C fH fdH):Bi P w K mg base (Dm P w) 5 f fd ["board","call"] (N6 C B N):=by
 have GK:Bi P w K mg base (Dm P w) 1 fK fdK ["self"] (Ly C B):=(N9 MK.fn TB).any;have GP:Bi P w K mg base (Dm P w) 1 fPl fdPl ["self"] (N5 C B):=(QZ MP.fn TB).any;have GC:Bi P w K mg base (Dm P w) 3 fCk fdCk CD (iA C N):=ue DC TN DI T.len T.all TC MH
 nomatch F.fn.ok1 U3
 ·obtain⟨p,k,t,ρ,n,ds,xs,rfl,_⟩:=h;rfl
 ·obtain⟨p,k,t,ρ,n,ds,xs,rfl,bd,g,n4,ht,hb,hl,hx,q⟩:=h;obtain⟨dx,ts,us,h1,h2,h3,h4⟩:=bd.ex;have nd:=U3.nd;have Ac:AV 1 _:=hr.mono (by decide);have D_:AV 3 _:=hr.mono (by decide);refine⟨_,pS (Bt (i:=2) nd rfl (Or.inr rfl) (EX (pv 0) TB.cl MK.me GK Ac MK.b .nil (Na Dl.of)))
   (pS (B8 (QB GC D_ (by rfl) DC.m DC.fn.kp DC.b .nil (Na Dl.of) (pC (pv 2) (pC (EX (pv 0) TB.cl MP.me GP Ac MP.b .nil (Na Dl.of)) (pC (pv 1) AB))))) Dh),?_⟩
  refine⟨Z,p,dx,Z,h1,N8 _ _ _,p,k,ρ,n,ds,Y,bd,?_⟩;exact⟨Z,Z,p,dx,Z,h1,QY _ _ _,p,k,ρ,n,ds,Y,bd,Z,k,t,n,ρ,xs,Y,h2,g,ht,hb,n4,hl,hx,q⟩
def rM(F:Def K mg "nexts" Nn ["board","call"] f fd)(DF:Def K mg "fitting" Kk ["board","call"] fF fdF)(GF:Bi P w K mg base (Dm P w) 5 fF fdF ["board","call"] (N6 C B N)):
  Bi P w K mg base (Dm P w) 8 f fd ["board","call"] (N6 C B N):=by
 nomatch F.fn.ok1 Uu
 ·obtain⟨p,k,t,ρ,n,ds,xs,rfl,_⟩:=h;rfl
 ·obtain⟨p,k,t,ρ,n,ds,xs,rfl,r⟩:=h;have nd:=Uu.nd;have ID:AV 5 _:=hr.mono (by decide);refine⟨_,pS (sE 2 nd (QB GF ID (by rfl) DF.m DF.fn.kp DF.b .nil (Na Dl.of) (pC (pv 0) (pC (pv 1) AB)))) Dh,?_⟩;exact⟨Z,Z,p,k,t,ρ,n,ds,xs,Y,r⟩
def Am{H:Hp}{l:ε}{o:HO}(hl:H l=none):AA H (upd H l o):=λb o' e=>by rw[AD (AK e hl)];exact e
def EU{ρ:RS}{x y:Str}:Av ρ x y=true↔Graph.Reach (An ρ) x y:=by
 unfold Av;exact @decide_eq_true_iff _ (Classical.propDecidable _)
def Fw(ρ:RS)(x:Str)(ls:LS):Prop:=ls.Perm (Au ρ x)/\∀(k:Nat) (a b:Str),ls[k]?≈a->b∈ls.take k->¬ Graph.Reach (An ρ) a b
def Ih{ρ:RS}{x y:Str}(h:y∈Au ρ x):y∈ρ.map (·.1):=by
 unfold Au at h;exact(Cc.mp h).1
def T7{ρ:RS}(g:Ab ρ)(x:Str):(Au ρ x).Nodup:=by
 unfold Au;exact g.nd.sublist List.filter_sublist
def Nt{ρ:RS}(g:Ab ρ)(x:Str):↑(Au ρ x)<=24:=by
 have:=Hg (λy=>Av ρ x y) (ρ.map (·.1));rw[Ya]at this;have:=g.le;unfold Au;omega
def T8{l:LS}(h:∀ z∈l,PyData.strOk z=true):W.kqdOk 9 (.list (l.map W.Dat.str))=true:=by
 show(l.map W.Dat.str).all (W.kqdOk 8)=true;rw[Bv];intro d hd;obtain⟨x,hx,rfl⟩:=Yk.mp hd;exact h x hx
def eG{a b:LS}(h:a.map W.Dat.str=b.map W.Dat.str):a=b:=by
 induction a generalizing b with
 | nil =>
  cases b with
  | nil=>rfl
  | cons y b=>cases h
 | cons x a ih =>
  cases b with
  | nil=>cases h
  | cons y b =>
   rw[Yr,Yr]at h;injection h with h1 h2;injection h1 with h1;rw[h1,ih h2]
def W3(xs:LV)(k:Nat):Du xs none (↥(k:Int))=xs.take k:=by
 unfold Du;rw[HT.sIx_none,HT.sIx_nat,List.drop_zero,Nat.sub_zero]
 rcases Nat.le_total k ↑xs with h | h
 ·rw[Nat.min_eq_left h]
 ·rw[Nat.min_eq_right h,MW (Yf _),MW h]
def pW{ys:LS}{i:Nat}{y:Str}(nd:ys.Nodup)(hi:ys[i]?≈y):y∉ys.take i:=λh=>by
 obtain⟨j,hj,e⟩:=Kx.mp h;rw[BU]at hj;rw[Oa]at e;obtain⟨CY,ei⟩:=Ye.mp hi;have:=(Ea.mp nd);have:=Jp.mp this j i (by omega) CY (by omega);exact this (e.trans ei.symm)
def MI(ρ:RS)(a b:Str):Bool:=Av ρ a b&&!decide (a=b)
def Gr(ρ:RS)(ls:LS)(k:Nat):Bool:=((ls.take k).map λb=>MI ρ (ls.getD k "") b).any id
def iL(ρ:RS)(a:Str):V->V
 | .str b=>.bl (MI ρ a b)
 | _=>.non
def WN(ρ:RS)(ls:LS):V->V
 | .int k=>.bl (Gr ρ ls k.toNat)
 | _=>.non
theorem bZ(ρ:RS)(a:Str):∀ l:LS,((l.map V.str).filter λ_=>true).map (iL ρ a)=(l.map λb=>MI ρ a b).map V.bl
 | []=>rfl
 | u :: r=>by
  have:=bZ ρ a r;rw[G5.mpr (λ_ _=>rfl)]at this ⊢;rw[Yr,Yr,this];rfl
def qW(ρ:RS)(ls:LS)(n:Nat):((C2 0 n).filter λ_=>true).map (WN ρ ls)=((List.range n).map (Gr ρ ls)).map V.bl:=by
 rw[G5.mpr (λ_ _=>rfl),Xg,Bu,Bu];refine MM λk _=>?_;show V.bl (Gr ρ ls ((k:Nat):Int).toNat)=_;rw[Yt];rfl
def rf{ρ:RS}(g:Ab ρ){x:Str}{ls:LS}(p:ls.Perm (Au ρ x)):(!((List.range ↑ls).map (Gr ρ ls)).any id)=true↔Fw ρ x ls:=by
 have nd:ls.Nodup:=p.nodup_iff.mpr (T7 g x);rw[Bool.not_eq_true',RB];constructor
 ·refine λh=>⟨p,λk a b hk hb re=>?_⟩;have AW:=(Ye.mp hk).1;refine h _ (Yk.mpr ⟨k,CA.mpr AW,Y⟩) ?_;show Gr ρ ls k=true;unfold Gr;rw[F8];refine⟨true,Yk.mpr ⟨b,hb,?_⟩,Y⟩;rw[Yg,hk];show MI ρ a b=true;unfold MI;rw[EU.mpr re,Jc (λe:a=b=>pW nd hk (by rw[e];exact hb))];rfl
 ·rintro⟨_,h⟩ b hb e;obtain⟨k,hk,rfl⟩:=Yk.mp hb;have AW:=CA.mp hk;have e:Gr ρ ls k=true:=e;unfold Gr at e;rw[F8]at e;obtain⟨c,hc,e⟩:=e;obtain⟨y,hy,rfl⟩:=Yk.mp hc;have CW:ls[k]?≈ls[k]:=Yb AW;rw[Yg,CW]at e;have e:MI ρ ls[k] y=true:=e;unfold MI at e;rw[EI]at e;exact h k _ y CW hy (EU.mp e.1)
def jM(C:ε):Sp:=λvs H Q _=>∃(p l:ε) (ρ:RS) (ls:LS) (k:Nat),vs=[.ref p,.ref l,.int k]/\BN C H p ρ/\Ab ρ/\H l≈(.lst (ls.map V.str))/\(∀ z∈ls,z∈ρ.map (·.1))/\k<↑ls/\↑ls<64/\∀ H',AA H H'->Q (.bl (Gr ρ ls k)) H'
def dY(C:ε):Sp:=λvs H Q _=>∃(p l:ε) (ρ:RS) (x:Str) (ls:LS),vs=[.ref p,.str x,.ref l]/\BN C H p ρ/\Ab ρ/\x∈ρ.map (·.1)/\H l≈(.lst (ls.map V.str))/\(∀ z∈ls,PyData.strOk z=true)/\↑ls<64/\∀ v H',AA H H'->(v=true↔Fw ρ x ls)->Q (.bl v) H'
abbrev LL:LS:=["kinds","line","spot"]
abbrev LK:LS:=["kinds","word","line"]
def zQ:Ad LL LL (AJ Qj):=by nofun
def zV:Ad LK LK (AJ QR):=by nofun
def yP:(["ahead","kinds","line","spot"]:LS).Nodup:=by rfl'
def v_:(["spot","kinds","line"]:LS).Nodup:=by rfl'
def wI(F:Def K mg "beneath_one_ahead" Qj LL f fd)(any:mg "any"=none)(TC:C0 K C)(MB:HK K C "beneath" "Kinds.beneath" Uo ["self","one","other"] fB fdB)(GB:⋯ 4 fB fdB ["self","one","other"] (fq C)):⋯ 5 f fd LL (jM C):=by
 nomatch F.fn.ok zQ
 ·obtain⟨p,l,ρ,ls,k,rfl,_⟩:=h;rfl
 ·obtain⟨p,l,ρ,ls,k,rfl,kd,g,hl,kn,hk,Dq,q⟩:=h
  ac_nf
  refine'⟨_,AG (AS (Aa (r:=HM K λbs=>bs.any id) (QJ rfl) (by rfl) any Qx (pC ?e1 AB))),?_⟩
  case e1=>exact(BO ["ahead"] ["kinds","line","spot"] [0,1,2] (λ_=>A3 (osc:=AJ Qj) (on:=LL) (by rfl') rfl rfl rfl) (Bn (Ic (r:=U2 K) Tz (pv 1) IZ (Ia (pv 2)))) (λC s H fp=>Az (i:=0) yP rfl (Or.inl rfl) (Or.inr rfl)) (λC s H fp=>Br)
    (λC s H fp=>E1 (pv 1) TC.cl MB.me GB hr MB.b .nil BS (pC (AN (r:=A6 K) Ak (pv 2) (pv 3) (λ_ _=>rfl)) (pC (pv 0) AB))))
  have hy:ls[k]?≈ls[k]:=Yb hk;have eg:ls.getD k ""=ls[k]:=by rw[Yg,hy];rfl
  generalize ls[k]=y at hy eg;refine⟨Z,Z,Z,l,Z,SqL.of hl,λl1 Bd=>?_⟩;dsimp only[QF]at *;rw[show Du (ls.map V.str) none (↥(k:Int))=(ls.take k).map V.str from by rw[W3,Oc]];have s1:AA H (upd H l1 (.lst ((ls.take k).map V.str))):=Am Bd;have BB:(upd H l1 (.lst ((ls.take k).map V.str))) l1≈(.lst ((ls.take k).map V.str)):=uS;generalize upd H l1 (.lst ((ls.take k).map V.str))=H1 at s1 BB;refine⟨l1,Y,⟨_,SqL.of BB⟩,EG (B4 (xs:=(ls.take k).map V.str)) (sL (by rw[Ya,BU];omega)) (λ_=>true) (iL ρ y) (λH' s'=>s'.seq (SqL.of BB)) ?_ ?_ ?_⟩
  ·intro v H' R s' _ Ag;exact Ag H' (AA.refl _)
  ·intro v H' R s' hv _ Ag;obtain⟨z,hz,rfl⟩:=Yk.mp hv;have EN:=s1.trans s';have NC:=kd.mono EN;obtain⟨dx,d,a,o,oa,ν,AL,h1,_⟩:=NC.ex;refine⟨Z,p,dx,Z,h1,tH _ _,Z,Z,l,Q,Z,Y,SqL.of (EN _ _ hl),DB (by rw[Yh,hy];rfl),Z,p,ρ,y,z,Y,NC,g,kn y (Yd hy),kn z (Kw hz),?_⟩;exact Ag H' (AA.refl _)
  ·intro D3 H2 JL s2 Ck;rw[bZ]at Ck;refine⟨D3,Z,SqL.of Ck,?_⟩;have:=q H2 (s1.trans s2);unfold Gr at this;rw[eg]at this;exact this
def tM(F:Def K mg "is_line" QR LK f fd)(srt:mg "sorted"=none)(any:mg "any"=none)(range:mg "range"=none)(len:mg "len"=none)(TC:C0 K C)(MA:HK K C "above" "Kinds.above" OM ["self","word"] fA fdA)(GA:⋯ 3 fA fdA ["self","word"] (XR C))
  (DO:Def K mg "beneath_one_ahead" Qj LL fO fdO) (GO:⋯ 5 fO fdO LL (jM C)):⋯ 6 f fd LK (dY C):=by
 nomatch F.fn.ok zV
 ·obtain⟨p,l,ρ,x,ls,rfl,_⟩:=h;rfl
 ·obtain⟨p,l,ρ,x,ls,rfl,kd,g,hx,hl,lok,Dq,q⟩:=h;have hu:=hr.units;have D_:AV 3 _:=hr.mono (by decide);obtain⟨dx,d,a,o,oa,ν,AL,h1,_⟩:=kd.ex
  ac_nf
  refine'⟨_,(pS (Ae (Al (IT hu) (Aa UK (by rfl) srt Od (pC (pv 2) AB)) (Aa UK (by rfl) srt Od (pC (E1 (pv 0) TC.cl MA.me GA D_ MA.b .nil BS (pC (pv 1) AB)) AB)) (Ai _)) (AG (AS Bg)) Af)
   (AG (AS (kO (Aa (r:=HM K λbs=>bs.any id) (QJ rfl) (by rfl) any Qx (pC ?e1 AB)))))),?_⟩
  case e1=>exact(BO ["spot"] ["kinds","line"] [0,2] (λ_=>A3 (osc:=AJ QR) (on:=LK) (by rfl') rfl rfl rfl) (Gu (by rfl) range (pC (Aa B9 (by rfl) len Yy (pC (pv 2) AB)) AB)) (λC s H fp=>Az (i:=0) v_ rfl (Or.inl rfl) (Or.inr rfl)) (λC s H fp=>Br) (λC s H fp=>AO DO GO hr (pC (pv 1) (pC (pv 2) (pC (pv 0) AB)))))
  exists AF _ a _ _ _
  refine⟨Z,l,ls,Y,SqL.of hl,Dq,λs1 l1 p1 o1 Bd=>?_⟩;have Iv:AA H (upd H l1 (.lst (s1.map V.str))):=Am Bd;have BB:(upd H l1 (.lst (s1.map V.str))) l1≈(.lst (s1.map V.str)):=uS;generalize upd H l1 (.lst (s1.map V.str))=H1 at Iv BB;have hle:=Nt g x;refine⟨Z,p,dx,Z,Iv _ _ h1,W7 _ _,Z,p,ρ,x,Y,kd.mono Iv,g,hx,λl2 CO=>⟨l2,Z,SqL.of uS,W,λs2 l3 p3 o3 Ck=>?_⟩⟩;have Zi:AA H1 (upd H1 l2 (.lst ((Au ρ x).map V.str))):=Am CO;generalize upd H1 l2 (.lst ((Au ρ x).map V.str))=H2 at Zi Ck;have M7:AA H2 (upd H2 l3 (.lst (s2.map V.str))):=Am Ck;have Cz:(upd H2 l3 (.lst (s2.map V.str))) l3≈(.lst (s2.map V.str)):=uS;generalize upd H2 l3 (.lst (s2.map V.str))=H3 at M7 Cz;have RY:=Zi.trans M7;have A4:=Iv.trans RY;have ok1:∀ z∈s1,PyData.strOk z=true:=λz hz=>lok z (p1.mem_iff.mp hz);have Vg:∀ z∈s2,PyData.strOk z=true:=λz hz=>by
   obtain⟨r,As,e⟩:=Yk.mp (Ih (p3.mem_iff.mp hz));rw[<- e];exact QG (g.word r As)
  refine⟨.list (s1.map W.Dat.str),.list (s2.map W.Dat.str),.list (SqL.of (RY _ _ BB)) (Gv _),.list (SqL.of Cz) (Gv _),T8 ok1,T8 Vg,Z,?_⟩;by_cases hp:ls.Perm (Au ρ x)
  ·have En:s1=s2:=g6 o1 o3 (p1.trans (hp.trans p3.symm));rw[En,Ey];have kn:∀ z∈ls,z∈ρ.map (·.1):=λz hz=>Ih (hp.mem_iff.mp hz);refine Ap ⟨Z,l,Z,.inl (SqL.of (A4 _ _ hl)),Z,W,O,EG Gx (by rw[Cw,Ya];exact sL (by omega)) (λ_=>true) (WN ρ ls) (λ_ _=>trivial) ?_ ?_ ?_⟩
   ·intro v H' R s' _ Ag;exact Ag H' (AA.refl _)
   ·intro v H' R s' hv _ Ag;obtain⟨i,hi⟩:=D0 hv;obtain⟨DY,rfl⟩:=EH hi;rw[Ya]at DY;have EN:=A4.trans s';refine⟨Z,Z,Z,p,l,ρ,ls,i,by rw[FV];rfl,kd.mono EN,g,EN _ _ hl,kn,W,Dq,λBL By=>?_⟩;have:=Ag BL By;have e:WN ρ ls (V.int (0 + (i:Int)))=.bl (Gr ρ ls i):=by
     rw[FV];show V.bl (Gr ρ ls ((i:Nat):Int).toNat)=_;rw[Yt]
    rw[e]at this;exact this
   ·intro D3 H4 JL s4 DV;rw[Ya,Yt,qW]at DV;refine⟨D3,Z,SqL.of DV,Z,?_⟩;exact q _ H4 (A4.trans s4) (rf g hp)
  ·have En:s1≠s2:=λe=>hp ((p1.symm.trans (e ▸ Kt _)).trans p3);rw[show(!C8 (.list (s1.map W.Dat.str)) (.list (s2.map W.Dat.str)))=true from by
    rw[IV (λz=>by injection z with z;exact En (eG z))];rfl]
   exact CG (q false H3 A4 ⟨(λz=>by cases z),λz=>absurd z.1 hp⟩)
def xV{ρ:RS}(g:Ab ρ){x:Str}(hx:x∈ρ.map (·.1)){fs:LS}(hf:∀ y,y∈fs↔Graph.Reach (An ρ) x y)(nd:fs.Nodup):fs.Perm (Au ρ x):=by
 refine(List.perm_ext_iff_of_nodup nd (T7 g x)).mpr λy=>?_;rw[hf];unfold Au;rw[Cc];exact⟨λr=>⟨XD g hx r,EU.mpr r⟩,λh=>EU.mp h.2⟩
def aR(ρ:RS)(a:Str):V->V
 | .str b=>.bl (Av ρ a b)
 | _=>.non
theorem jh(ρ:RS)(a:Str):∀ l:LS,((l.map V.str).filter λ_=>true).map (aR ρ a)=(l.map λb=>Av ρ a b).map V.bl
 | []=>rfl
 | u :: r=>by
  have:=jh ρ a r;rw[G5.mpr (λ_ _=>rfl)]at this ⊢;rw[Yr,Yr,this];rfl
def gq{ρ:RS}{rk:Str->Nat}(hrk:∀ r∈ρ,∀ u∈r.2,rk u<rk r.1)(nd:(ρ.map (·.1)).Nodup)(kn:∀ r∈ρ,∀ u∈r.2,u∈ρ.map (·.1)){x y:Str}(hx:x∈ρ.map (·.1))(r:Graph.Reach (An ρ) x y):x=y\/rk y<rk x:=by
 induction r with
 | refl=>exact .inl rfl
 | step h t ih =>
  rename_i a b c
  obtain⟨q,hq,e⟩:=Gw hx;have hu:b∈q.2:=by rw[<- e,Ny nd hq]at h;exact h
  have lt:rk b<rk a:=by rw[<- e];exact hrk q hq b hu
  rcases ih (kn q hq b hu)with z | z
  ·rw[<- z];exact .inr lt
  ·exact .inr (by omega)
def IJ(H:Hp)(cs:ξ)(vs:LV):Prop:=Paired (λc v=>∃ t,v=.ref t/\H t≈(.lst (c.map V.str))) cs vs
def IJ.mono{H H':Hp}{cs:ξ}{vs:LV}(h:IJ H cs vs)(s:AA H H'):IJ H' cs vs:=Paired.mapP h λ_ _ ⟨t,e,h⟩=>⟨t,e,s _ _ h⟩
def Cq(H:Hp)(t:ε)(ord:ζ)(cs:ξ):Prop:=∃(lo ll:ε) (vs:LV),H t≈(.tup [.ref lo,.ref ll])/\H lo≈(.lst (ord.map V.int))/\H ll≈(.lst vs)/\IJ H cs vs
theorem Cq.mono{H H':Hp}{t:ε}{ord:ζ}{cs:ξ}(h:Cq H t ord cs)(s:AA H H'):Cq H' t ord cs:=by
 obtain⟨lo,ll,vs,h1,h2,h3,h4⟩:=h;exact⟨lo,ll,vs,s _ _ h1,s _ _ h2,s _ _ h3,h4.mono s⟩
def TV(ls:LS):Prop:=∀ z∈ls,PyData.strOk z=true
structure Fq(ord:ζ)(cs:ξ):Prop where
 few:↑ord<=10
 fewL:↑cs<=10
 txt:∀ c∈cs,TV c/\↑c<64
def XU{a b:LS}(h:a.map V.str=b.map V.str):a=b:=by
 induction a generalizing b with
 | nil =>
  cases b with
  | nil=>rfl
  | cons y b=>cases h
 | cons x a ih =>
  cases b with
  | nil=>cases h
  | cons y b =>
   rw[Yr,Yr]at h;injection h with h1 h2;injection h1 with h1;rw[h1,ih h2]
def Ah(n:Nat):ζ:=(List.range n).map λi=>((i:Nat):Int)
def T_(n:Nat):C2 0 n=(Ah n).map V.int:=by
 rw[Xg];unfold Ah;rw[Bu];rfl
def fG(n:Nat):(Ah n).Pairwise (·<=·):=by
 unfold Ah;rw[Ko];exact List.pairwise_lt_range.imp λh=>by omega
structure DJ(ρ:RS)(xs:LS)(ord:ζ)(cs:ξ):Prop where
 ord:ord.Perm (Ah ↑xs)
 len:↑cs=↑xs
 line:∀(i:Nat) (x:Str) (c:LS),xs[i]?≈x->cs[i]?≈c->Fw ρ x c
def dg{a b:ζ}(h:a.map W.Dat.int=b.map W.Dat.int):a=b:=by
 induction a generalizing b with
 | nil =>
  cases b with
  | nil=>rfl
  | cons y b=>cases h
 | cons x a ih =>
  cases b with
  | nil=>cases h
  | cons y b =>
   rw[Yr,Yr]at h;injection h with h1 h2;injection h1 with h1;rw[h1,ih h2]
theorem N1{K:Fg}{H:Hp}:∀ ns:ζ,Ar K H (ns.map V.int) (ns.map W.Dat.int)
 | []=>.nil
 | n :: r=>.cons (.int _) (N1 r)
def Tt(ns:ζ):W.kqdOk 9 (.list (ns.map W.Dat.int))=true:=by
 show(ns.map W.Dat.int).all (W.kqdOk 8)=true;rw[Bv];intro d hd;obtain⟨x,hx,rfl⟩:=Yk.mp hd;rw[W.kqdOk]
theorem Wz{α:Type}{F:α->Bool->Prop}:∀ {ps:List α}{vs:LV},Paired (λp v=>∃ b,v=.bl b/\F p b) ps vs->∃ bs:List Bool,vs=bs.map V.bl/\Paired F ps bs
 | _,_,.nil=>⟨[],Y,.nil⟩
 | _,_,.cons ⟨b,e,h⟩ t=>by
  obtain⟨bs,e2,h2⟩:=Wz t;exact⟨b :: bs,by rw[e,e2];rfl,.cons h h2⟩
def j7(C B:ε):Sp:=λvs H Q _=>∃(p k t lu:ε) (ρ:RS) (n:Nat) (ds:ξ) (xs:LS) (ord:ζ) (cs:ξ),vs=[.ref p,.ref t,.ref lu]/\Cb C B H p k ρ n ds/\Ab ρ/\n<=4/\H t≈(.tup (xs.map V.str))/\Bh ρ n xs/\Cq H lu ord cs/\Fq ord cs/\∀ v H',AA H H'->(v=true↔DJ ρ xs ord cs)->Q (.bl v) H'
abbrev Z6:LS:=["board","call","lineup","kinds","places","order","lines"]
def jD:Ad Z6 ["board","call","lineup"] (AJ Qa):=by nofun
def wD:(["word","line","kinds"]:LS).Nodup:=by rfl'
theorem Xe{ρ:RS}{H:Hp}:∀ {xs:LS}{cs:ξ}{vs:LV}{bs:List Bool},IJ H cs vs->↑cs=↑xs->Paired (λ(pr:V×V) b=>(b=true↔∀(x:Str) (c:LS),pr.1=.str x->(∃ t,pr.2=.ref t/\H t≈(.lst (c.map V.str)))->Fw ρ x c)) ((xs.map V.str).zip vs) bs ->
  (bs.all id=true↔∀(i:Nat) (x:Str) (c:LS),xs[i]?≈x->cs[i]?≈c->Fw ρ x c)
 | [],_,_,_,.nil,_,h=>by
  cases h;exact⟨λ_ i x c h=>by simp at h,λ_=>rfl⟩
 | x :: xs,c :: cs,v :: vs,bs,.cons ⟨t,e,ht⟩ r,hl,h=>by
  cases h with
  | cons hb hr =>
   rename_i b bs
   have ih:=Xe (ρ:=ρ) r (by simpa using hl) hr;rw[List.all_cons,EI,ih];have V7:b=true↔Fw ρ x c:=by
    rw[hb];constructor
    ·intro z;exact z x c rfl ⟨t,e,ht⟩
    ·intro z x' c' ex ⟨t',et,LQ⟩;cases ex;rw[e]at et;cases et;rw[ht]at LQ;have:c.map V.str=c'.map V.str:=by
      injection LQ with LQ;injection LQ
     have ec:c=c':=XU this;rw[<- ec];exact z
   show(b=true/\_)↔_;rw[V7];constructor
   ·rintro⟨h1,h2⟩ i x' c' hx hc;cases i with
    | zero =>
     simp at hx hc;rw[<- hx,<- hc];exact h1
    | succ i=>exact h2 i x' c' (by simpa using hx) (by simpa using hc)
   ·intro z;exact⟨z 0 x c rfl rfl,λi x' c' hx hc=>z (i + 1) x' c' (by simpa using hx) (by simpa using hc)⟩
def uM(F:Def K mg "is_lineup" Qa ["board","call","lineup"] f fd)(srt:mg "sorted"=none)(list:mg "list"=none)(range:mg "range"=none)(len:mg "len"=none)(all:mg "all"=none)(zip:mg "zip"=none)(TC:C0 K C)(TB:Gn K B)(MK:Nk K B fK fdK)(MP:QI K B fPl fdPl)
  (DCk:Def K mg "check_call" L7 CD fCk fdCk) (GC:⋯ 3 fCk fdCk CD (Xm C)) (DIL:Def K mg "is_line" QR LK fIL fdIL) (GIL:⋯ 6 fIL fdIL LK (dY C)):⋯ 7 f fd ["board","call","lineup"] (j7 C B):=by
 have GK:⋯ 1 fK fdK ["self"] (Ly C B):=N9 MK.fn TB;have GP:⋯ 1 fPl fdPl ["self"] (N5 C B):=QZ MP.fn TB
 nomatch F.fn.ok jD
 ·obtain⟨p,k,t,lu,ρ,n,ds,xs,ord,cs,rfl,_⟩:=h;rfl
 ·obtain⟨p,k,t,lu,ρ,n,ds,xs,ord,cs,rfl,bd,g,n4,ht,gc,hlu,lok,q⟩:=h;obtain⟨dx,ts,us,h1,h2,h3,h4⟩:=bd.ex;have nd:=jD.nd;have hu:=hr.units;have Ac:AV 1 _:=hr.mono (by decide);have D_:AV 3 _:=hr.mono (by decide)
  ac_nf
  refine'⟨_,(pS (Bt (i:=3) nd rfl (Or.inr rfl) (EX (pv 0) TB.cl MK.me GK Ac MK.b .nil BS))
   (pS (sE 4 nd (EX (pv 0) TB.cl MP.me GP Ac MP.b .nil BS))
   (pS (B8 (AO DCk GC D_ (pC (pv 3) (pC (pv 4) (pC (pv 1) AB)))))
   (pS (sE 5 nd (AN (r:=Ax K) A0 (pv 2) AE (λ_ _=>rfl)))
   (pS (sE 6 nd (AN (r:=Ax K) A0 (pv 2) AE (λ_ _=>rfl)))
   (pS (Ae (PW.pt (JO (Al (IT hu) (Aa gG (by rfl) srt Od (pC (pv 5) AB)) (Qc rfl (pv 4) (by rfl) list (by rfl) range) (Ai _)) (KU (Al Gm (Aa B9 (by rfl) len Yy (pC (pv 6) AB)) (pv 4) (Ai _))))) (AG (AS Bg)) Af)
   (AG (AS (Aa (r:=HM K λbs=>bs.all id) (Kc rfl) (by rfl) all Ky (pC ?e1 AB)))))))))),?_⟩
  case e1=>exact(BO ["word","line"] ["kinds"] [3] (λ_=>A3 (osc:=AJ Qa) (on:=Z6) (by rfl') rfl rfl rfl) (cK (by rfl) zip (pC (pv 1) (pC (pv 6) AB))) (λC s H fp=>Tc (K:=K) (i:=0) (j:=1) rfl rfl wD rfl rfl (Or.inl rfl) (Or.inl rfl) (Or.inr rfl) (Or.inr rfl)) (λC s H fp=>Br) (λC s H fp=>AO DIL GIL hr (pC (pv 2) (pC (pv 0) (pC (pv 1) AB)))))
  exists let b:=AF _ a;let c:=AF _ b;let e:=AF _ c;let f:=AF _ e;let g:=AF _ f;AF _ g _ _ _
  obtain⟨lo,ll,vs,AW,hlo,hll,hL⟩:=hlu;have xl:=gc.len;refine⟨Z,p,dx,Z,h1,N8 _ _ _,p,k,ρ,n,ds,Y,bd,?_⟩;refine⟨Z,p,dx,Z,h1,QY _ _ _,p,k,ρ,n,ds,Y,bd,?_⟩;refine⟨Z,Z,Z,k,t,n,ρ,xs,Y,h2,g,ht,gc,n4,λH1 s1=>?_⟩;refine⟨Z,lu,Q,Z,Y,AH.of (s1 _ _ AW),Y,Z,lu,Q,Z,Y,AH.of (s1 _ _ AW),Y,?_⟩;have few:=lok.few;have fewL:=lok.fewL;refine⟨Z,lo,ord,Y,SqL.of (s1 _ _ hlo),W,λns l2 pn on CO=>?_⟩;have s2:AA H1 (upd H1 l2 (.lst (ns.map V.int))):=Am CO;have CQ:(upd H1 l2 (.lst (ns.map V.int))) l2≈(.lst (ns.map V.int)):=uS;generalize upd H1 l2 (.lst (ns.map V.int))=H2 at s2 CQ;refine⟨Z,Z,W,W,λl3 Ck=>?_⟩;rw[Yt,T_];have s3:AA H2 (upd H2 l3 (.lst ((Ah n).map V.int))):=Am Ck;have Cz:(upd H2 l3 (.lst ((Ah n).map V.int))) l3≈(.lst ((Ah n).map V.int)):=uS;generalize upd H2 l3 (.lst ((Ah n).map V.int))=H3 at s3 Cz;have A4:=s1.trans (s2.trans s3);refine⟨.list (ns.map W.Dat.int),.list ((Ah n).map W.Dat.int),.list (SqL.of (s3 _ _ CQ)) (N1 _),.list (SqL.of Cz) (N1 _),Tt _,Tt _,Z,?_⟩;by_cases hp:ord.Perm (Ah n)
  ·have En:ns=Ah n:=Xj on (fG n) (pn.trans hp);rw[En,Ey];have C5:=A4 _ _ hll;have vl:=A_ hL;refine Ap ⟨Z,ll,Z,.inl (SqL.of C5),Z,Y,Z,?_⟩;by_cases hc:↑cs=n
   ·rw[show(!decide (V.int ((↑vs:Nat):Int)=V.int ((n:Nat):Int)))=false from by rw[<- vl,hc,Jb rfl];rfl];refine Ap ⟨Z,Z,t,ll,_,Z,AH.of (A4 _ _ ht),SqL.of C5,XG (by rw[Ol,Ya];exact sL (by omega)) (λ_=>true) (λ_ pr v _=>∃ b,v=.bl b/\(b=true↔∀(x:Str) (c:LS),pr.1=.str x->(∃ t,pr.2=.ref t/\H t≈(.lst (c.map V.str)))->Fw ρ x c)) (λ_ _ _ _ _ _ h=>h) (λH' s'=>⟨AH.of (s' _ _ (A4 _ _ ht)),SqL.of (s' _ _ C5)⟩) ?_ ?_ ?_⟩
    ·intro pr H' R s' _ Ag;exact Ag H' (AA.refl _)
    ·intro D pr H' R s' _ _ hpr _ Ag;obtain⟨i,hi⟩:=D0 hpr;obtain⟨NF,Bz⟩:=QP hi;obtain⟨x,hx,ex⟩:=Ls NF;obtain⟨c,hcc,tc,ec,htc⟩:=B3 hL Bz;obtain⟨cok,clen⟩:=lok.txt c (Yd hcc);have EN:=A4.trans s';rw[ex,ec];refine⟨Z,Z,Z,k,tc,ρ,x,c,Y,h2.mono EN,g,gc.known x (Yd hx),EN _ _ htc,cok,clen,λv BL By hv=>Ag _ BL By ⟨v,Y,?_⟩⟩;rw[hv];constructor
     ·intro z x' c' e1 ⟨t',e2,e3⟩;rw[ex]at e1;cases e1;rw[ec]at e2;cases e2;rw[htc]at e3;have:c.map V.str=c'.map V.str:=by
       injection e3 with e3;injection e3
      have ecc:c=c':=XU this;rw[<- ecc];exact z
     ·intro z;exact z x c ex ⟨tc,ec,htc⟩
    ·intro D H4 ys hD s4 DV pr;rw[G5.mpr (λ_ _=>rfl)]at pr;obtain⟨bs,eb,pb⟩:=Wz pr;rw[eb]at DV;refine⟨D,bs,Y,SqL.of DV,?_⟩;refine q _ H4 (A4.trans s4) ?_;have lp:=Xe (ρ:=ρ) hL (by omega) pb;show bs.all id=true↔_;rw[lp];exact⟨λz=>⟨by rw[xl];exact hp,W,z⟩,λz=>z.line⟩
   ·rw[show(!decide (V.int ((↑vs:Nat):Int)=V.int ((n:Nat):Int)))=true from by rw[Jc (λz=>by injection z with z;omega)];rfl];exact CG (q false H3 A4 ⟨(λz=>by cases z),λz=>absurd (z.len.trans xl) hc⟩)
  ·have En:ns≠Ah n:=λe=>hp (pn.symm.trans (e ▸ Kt _));rw[show(!C8 (.list (ns.map W.Dat.int)) (.list ((Ah n).map W.Dat.int)))=true from by
    rw[IV (λz=>by injection z with z;exact En (dg z))];rfl]
   exact CG (q false H3 A4 ⟨(λz=>by cases z),λz=>absurd (xl ▸ z.ord) hp⟩)
abbrev xH(K:Fg):LV->Hp->VK->Prop:=λxs H Q=>∃ p ys,xs=[.ref p]/\(SqL K H p ys\/AH K H p ys)/\∀ l,H l=none->Q (.ref l) (upd H l (.lst ys))
structure EL(H:Hp)(t lo ll:ε)(bs:τ)(ord:ζ)(cs:ξ):Prop where
 tup:H t≈(.tup [.ref lo,.ref ll])
 ord:H lo≈(.lst (ord.map V.int))
 lst:H ll≈(.lst (bs.map V.ref))
 lin:Paired (λ(c:LS) (b:ε)=>H b≈(.lst (c.map V.str))) cs bs
theorem XJ{α β γ:Type}{F:α->γ->Prop}{f:β->γ}:∀ {a:List α}{b:List β},Paired (λx y=>F x (f y)) a b->Paired F a (b.map f)
 | _,_,.nil=>.nil
 | _,_,.cons h t=>.cons h (XJ t)
def EL.at_{H:Hp}{t lo ll:ε}{bs:τ}{ord:ζ}{cs:ξ}(h:EL H t lo ll bs ord cs):Cq H t ord cs:=⟨lo,ll,_,h.tup,h.ord,h.lst,XJ (Paired.mapP h.lin λ_ b e=>⟨b,Y,e⟩)⟩
theorem JV{α β:Type}{F:α->β->Prop}:∀ {a:List α}{b:List β},Paired F a b->Paired (λx y=>y∈b/\F x y) a b
 | _,_,.nil=>.nil
 | _,_,.cons h t=>.cons ⟨.head _,h⟩ (Paired.mapP (JV t) λ_ _ ⟨m,q⟩=>⟨.tail _ m,q⟩)
def EL.keep{H H':Hp}{t lo ll:ε}{bs:τ}{ord:ζ}{cs:ξ}(h:EL H t lo ll bs ord cs)(k:∀ b o,b=t\/b∈lo :: ll :: bs->(∀ ps,o≠.tbl ps)->H b≈o->H' b≈o):EL H' t lo ll bs ord cs :=
 ⟨k _ _ (.inl rfl) (λ_ z=>nomatch z) h.tup,k _ _ (.inr (.head _)) (λ_ z=>nomatch z) h.ord,k _ _ (.inr (.tail _ (.head _))) (λ_ z=>nomatch z) h.lst,Paired.mapP (JV h.lin) λ_ b ⟨m,e⟩=>k b _ (.inr (.tail _ (.tail _ m))) (λ_ z=>nomatch z) e⟩
def EL.mono{H H':Hp}{t lo ll:ε}{bs:τ}{ord:ζ}{cs:ξ}(h:EL H t lo ll bs ord cs)(s:AA H H'):EL H' t lo ll bs ord cs:=h.keep λb o _ _ e=>s b o e
def EL.live{H:Hp}{t lo ll:ε}{bs:τ}{ord:ζ}{cs:ξ}(h:EL H t lo ll bs ord cs){b:ε}(hb:b∈lo :: ll :: bs):∃ us,H b≈(.lst us):=by
 rcases Yl.mp hb with e | hb
 ·rw[e];exact⟨_,h.ord⟩
 rcases Yl.mp hb with e | hb
 ·rw[e];exact⟨_,h.lst⟩
 obtain⟨i,hi⟩:=D0 hb;obtain⟨c,_,e⟩:=B3 h.lin hi;exact⟨_,e⟩
def FO(H0 H:Hp)(t:ε)(ord:ζ)(cs:ξ):Prop:=∃(lo ll:ε) (bs:τ),H0 t=none/\(∀ b∈lo :: ll :: bs,H0 b=none)/\(lo :: ll :: bs).Nodup/\EL H t lo ll bs ord cs
theorem FO.at_{H0 H:Hp}{t:ε}{ord:ζ}{cs:ξ}(h:FO H0 H t ord cs):Cq H t ord cs:=by
 obtain⟨lo,ll,bs,_,_,_,h⟩:=h;exact h.at_
def FO.sub{H0 H1 H:Hp}{t:ε}{ord:ζ}{cs:ξ}(h:FO H1 H t ord cs)(s:∀ b,H1 b=none->H0 b=none):FO H0 H t ord cs:=by
 obtain⟨lo,ll,bs,f1,f2,n,h⟩:=h;exact⟨lo,ll,bs,s _ f1,λb hb=>s b (f2 b hb),n,h⟩
def qh{K:Fg}{ll:ε}{H1:Hp}{vs:LV}{G:V->HO->Prop}{σ:St}{te:TE}{Q:VK}(hll:H1 ll≈(.lst vs))(few:↑vs<=100)
  (he:∀(v:V) H' (R:VK),v∈vs->AA H1 H'->(∀ b o,H' b=none->G v o->R (.ref b) (upd H' b o))->te [↥v] H' R)
  (hd:∀ D H2 (bs:τ),H1 D=none->AA H1 H2->H2 D≈(.lst (bs.map V.ref))->(D :: bs).Nodup->(∀ b∈bs,H1 b=none)->Paired (λv b=>∃ o,H2 b≈o/\G v o) vs bs->Q (.ref D) H2):AU 1 [] (C_ 0) Py te σ Q (RW K ll) H1:=by
 refine Kh (B4 (xs:=vs)) (sL (by omega)) (λD i ys σ' H'=>H1 D=none/\AA H1 H'/\∃ bs:τ,ys=bs.map V.ref/\H' D≈(.lst (bs.map V.ref))/\(D :: bs).Nodup/\(∀ b∈bs,H1 b=none/\H' b≠none)/\Paired (λv b=>∃ o,H' b≈o/\G v o) (vs.take i) bs/\∃ o,σ'=[o]) ?_ ?_ ?_ ?_
 ·intro D hD;exact⟨hD,Am hD,[],Y,uS,Yu.mpr ⟨(λh=>nomatch h),G8⟩,(λb h=>nomatch h),by rw[Ik];exact .nil,none,Y⟩
 ·rintro D i ys σ' H' hi ⟨_,s,bs,rfl,_,_,_,pr,_⟩;have:=A_ pr;rw[BU]at this;exact⟨s.seq (SqL.of hll),O⟩
 ·rintro D i v ys σ' H' hD hi ⟨_,s,bs,rfl,h1,h2,h3,pr,o,rfl⟩;refine he v H' _ (Yd hi) s λb o hb hG=>?_;have bD:b≠D:=Yx (AK h1 hb);have k2:∀ c u,c≠D->H' c≈u->(upd (upd H' b o) D (.lst (bs.map V.ref++[.ref b]))) c≈u:=λc u hc e=>by rw[AD hc,AD (AK e hb)];exact e
  have bn:b∉bs:=λz=>(h3 b z).2 hb;have nD:∀ c∈bs,c≠D:=λc hc z=>(Yu.mp h2).1 (by rw[<- z];exact hc);refine⟨by rw[AD (Yx bD)];exact h1,hD,λc u e=>k2 c u (AK e hD) (s _ _ e),bs++[b],by rw[BP];rfl,by rw[BP];exact uS,?_,?_,?_,Z⟩
  ·rw[<- List.cons_append];refine Iq.mpr ⟨h2,Yu.mpr ⟨(λh=>nomatch h),G8⟩,λx hx y hy z=>?_⟩;rw[Yi.mp hy]at z
   rcases Yl.mp hx with e | e
   ·exact bD (z.symm.trans e)
   ·exact bn (by rw[<- z];exact e)
  ·intro c hc
   rcases Yp.mp hc with z | z
   ·obtain⟨f,l⟩:=h3 c z;refine⟨f,?_⟩;cases e:H' c with
    | none=>exact absurd e l
    | some u=>rw[k2 c u (nD c z) e];simp
   ·rw[Yi.mp z];exact⟨s.free hb,by rw[AD bD,uS];simp⟩
  ·rw[Ce,hi];exact EZ (Paired.mapP (JV pr) λ_ c ⟨m,o',e,g⟩=>⟨o',k2 c _ (nD c m) e,g⟩) ⟨o,by rw[AD bD,uS],hG⟩
 ·rintro D ys σ' H' hD ⟨_,s,bs,rfl,h1,h2,h3,pr,_⟩;rw[Dy]at pr;exact hd D H' bs hD s h1 h2 (λb hb=>(h3 b hb).1) pr
def W9:Sp:=λvs H Q _=>∃(lu:ε) (ord:ζ) (cs:ξ),vs=[.ref lu]/\Cq H lu ord cs/\Fq ord cs/\∀ l2 H',AA H H'->FO H H' l2 ord cs->Q (.ref l2) H'
def zS:Ad ["lineup"] ["lineup"] (AJ ON):=by nofun
def dI:(["line"]:LS).Nodup:=by rfl'
theorem gX{α β γ:Type}{F:α->β->Prop}{G:β->γ->Prop}:∀ {cs:List α}{lv:List β}{hs:List γ},Paired F cs lv->Paired G lv hs->Paired (λa c=>∃ b,F a b/\G b c) cs hs
 | _,_,_,.nil,.nil=>.nil
 | _,_,_,.cons h t,.cons h' t'=>.cons ⟨_,h,h'⟩ (gX t t')
def qo(F:Def K mg "_law_copied" ON ["lineup"] f fd)(list:mg "list"=none):⋯ 1 f fd ["lineup"] W9:=by
 nomatch F.fn.ok zS
 ·obtain⟨lu,ord,cs,rfl,_⟩:=h;rfl
 ·obtain⟨lu,ord,cs,rfl,⟨lo,ll,vs,AW,hlo,hll,hL⟩,lok,q⟩:=h;refine'⟨_,AG (AS (Ca (pC (F6 UZ (by rfl) list Io (pC (AN (r:=Ax K) A0 (pv 0) AE (λ_ _=>rfl)) AB)) (pC ?e1 AB)))),?_⟩
  case e1=>exact(BO ["line"] [] [] (λ_=>A3 (osc:=AJ ON) (on:=["lineup"]) (by rfl') rfl rfl rfl) (Bn (AN (r:=Ax K) A0 (pv 0) AE (λ_ _=>rfl))) (λC s H fp=>Az (i:=0) dI rfl (Or.inl rfl) (Or.inr rfl)) (λC s H fp=>Br) (λC s H fp=>F6 (r:=xH K) UZ (by rfl) list Io (pC (pv 0) AB)))
  have fewL:=lok.fewL;have vl:=A_ hL;refine⟨Z,lu,Q,Z,Y,AH.of AW,Y,lo,Z,.inl (SqL.of hlo),λl1 Bd=>?_⟩;have s1:AA H (upd H l1 (.lst (ord.map V.int))):=Am Bd;have BB:(upd H l1 (.lst (ord.map V.int))) l1≈(.lst (ord.map V.int)):=uS;generalize upd H l1 (.lst (ord.map V.int))=H1 at s1 BB;have Hq:=s1 _ _ hll;have Pf:=hL.mono s1;refine⟨Z,lu,Q,Z,Y,AH.of (s1 _ _ AW),Y,ll,Y,⟨_,SqL.of Hq⟩,qh (G:=λv o=>∀ c:LS,(∃ t,v=.ref t/\H1 t≈(.lst (c.map V.str)))->o=.lst (c.map V.str)) Hq (by omega) (λv H' R hv s' hR=>?_) λD H2 bs hD s2 Gh nD fD pr=>?_⟩
  ·obtain⟨i,hi⟩:=D0 hv;obtain⟨c,hc,t,rfl,ht⟩:=B3 Pf hi;refine⟨Z,t,Z,.inl (SqL.of (s' _ _ ht)),λb hb=>hR b _ hb λc' ⟨t',e,LQ⟩=>?_⟩;cases e;rw[ht]at LQ;injection LQ
  refine⟨U,λl3 Ck=>?_⟩;have C7:=s1.trans s2;have s3:AA H2 (upd H2 l3 (.tup [.ref l1,.ref D])):=Am Ck;refine q l3 _ (C7.trans s3) ⟨l1,D,bs,C7.free Ck,λb hb=>?_,?_,⟨uS,s3 _ _ (s2 _ _ BB),s3 _ _ Gh,Paired.mapP (gX Pf pr) λc b ⟨v,hv,o,e,hG⟩=>?_⟩⟩
  ·rcases Yl.mp hb with e | hb
   ·rw[e];exact Bd
   rcases Yl.mp hb with e | hb
   ·rw[e];exact s1.free hD
   ·exact s1.free (fD b hb)
  ·refine Yu.mpr ⟨λz=>?_,nD⟩
   rcases Yl.mp z with e | e
   ·exact AK BB hD e
   ·exact AK BB (fD l1 e) rfl
  ·rw[hG c hv]at e;exact s3 _ _ e
def j6(K:Fg):Sp:=λvs H Q _=>∃(a:ε) (ns:ζ) (m:Nat),vs=[.ref a,.int m]/\SqL K H a (ns.map V.int)/\↑ns<=100/\1<=m/\m<=24 /\
 ∀(t l aa ld tc:ε) (n:Nat) (ρ:RS) (AL:KL) (ds:ξ) (us:LV) (xs:LS) (H':Hp),AA H H'->H' t≈(.tup [.ref l,.ref aa,.int n,.ref ld,.ref tc])->Gq H' l ρ->Ab ρ->H' aa≈(.dK AL)->CH H' ρ ρ AL ->
  1<=n->n<=4->H' ld≈(.lst us)->B2 H' ds us->Ba ρ n ds->↑ds<=24->H' tc≈(.tup (xs.map V.str))->Bh ρ n xs->Q (.ref t) H'
abbrev Se:LS:=["script","most","rows","above","pot","places","many","words","beside","deeds","call"]
def i7:Ad Se ["script","most"] (AJ L9):=by nofun
def wm:(["k","words","beside"]:LS).Nodup:=by rfl'
def xo(F:Def K mg "_law_case" L9 ["script","most"] f fd)(len:mg "len"=none)(range:mg "range"=none)(list:mg "list"=none)(tuple:mg "tuple"=none)
  (DR:Def K mg "_law_rows" OG ["pot","most"] fR fdR) (GR:⋯ 4 fR fdR ["pot","most"] cX) (DP:Def K mg "_law_pot" QX ["script","k"] fP fdP) (GP:⋯ 1 fP fdP ["script","k"] (YN K))
  (DT:Def K mg "_law_take" Hf ["pot","many"] fT fdT) (GT:⋯ 1 fT fdT ["pot","many"] KY) (DA:Def K mg "_law_above" Ua ["rows"] fA fdA) (GA:⋯ 1 fA fdA ["rows"] dz)
  (DDe:Def K mg "_law_deeds" OJ ["pot","rows","above","places","most"] fDe fdDe) (GDe:⋯ 2 fDe fdDe ["pot","rows","above","places","most"] cT):
  ⋯ 5 f fd ["script","most"] (j6 K):=by
 nomatch F.fn.ok i7
 ·obtain⟨a,ns,m,rfl,_⟩:=h;rfl
 ·obtain⟨a,ns,m,rfl,hS,hlen,m1,lZ,q⟩:=h;have nd:=i7.nd;have Ac:AV 1 _:=hr.mono (by decide);have EA:AV 2 _:=hr.mono (by decide)
  ac_nf
  refine'⟨_,(pS (sE 2 nd (AO DR GR hr (pC (AO DP GP Ac (pC (pv 0) (pC AE AB))) (pC (pv 1) AB))))
   (pS (sE 3 nd (AO DA GA Ac (pC (pv 2) AB)))
   (pS (Bt (i:=4) nd rfl (Or.inr rfl) (AO DP GP Ac (pC (pv 0) (pC AE AB))))
   (pS (sE 5 nd (Aj F2 AE (AO DT GT Ac (pC (pv 4) (pC AE AB)))))
   (pS (sE 6 nd (AN (r:=Ax K) A0 (Ca (pC AE (pC AE (pC AE (pC AE AB))))) (AO DT GT Ac (pC (pv 4) (pC AE AB))) (λ_ _=>rfl)))
   (pS (Bt (i:=7) nd rfl (Or.inr rfl) ?e1)
   (pS (Bt (i:=8) nd rfl (Or.inr rfl) (F6 UZ (by rfl) list Io (pC (pv 4) AB)))
   (pS (sE 9 nd (AO DDe GDe EA (pC (pv 4) (pC (pv 2) (pC (pv 3) (pC (pv 5) (pC (pv 6) AB)))))))
   (pS (sE 10 nd (F6 L8 (by rfl) tuple Jo (pC ?e2 AB)))
   (Ka (Ae (Al Cs (AO DT GT Ac (pC (pv 4) (pC AE AB))) AE (Ai _)) (AG (sE 10 nd (F6 L8 (by rfl) tuple Jo (pC ?e3 AB)))) Af)
   (AG (AS (Ca (pC (pv 2) (pC (pv 3) (pC (pv 5) (pC (pv 9) (pC (pv 10) AB)))))))))))))))))),?_⟩
  case e1=>exact(BO ["row"] [] [] (λ_=>A3 (osc:=AJ L9) (on:=Se) (by rfl') rfl rfl rfl) (Bn (pv 2)) (λC s H fp=>Az (i:=0) Wk rfl (Or.inl rfl) (Or.inr rfl)) (λC s H fp=>Br) (λC s H fp=>AN (r:=Ax K) A0 (pv 0) AE (λ_ _=>rfl)))
  case e2=>exact(BO ["k"] ["words","beside"] [7,8] (λ_=>A3 (osc:=AJ L9) (on:=Se) (by rfl') rfl rfl rfl) (Gu (by rfl) range (pC (pv 5) AB)) (λC s H fp=>Az (i:=0) wm rfl (Or.inl rfl) (Or.inr rfl)) (λC s H fp=>Br)
    (λC s H fp=>AN (r:=A6 K) Ak (pv 1) (AO DT GT Ac (pC (pv 2) (pC (Aa (r:=YL K) B9 (by rfl) len Yy (pC (pv 1) AB)) AB))) (λ_ _=>rfl)))
  case e3=>exact(BO ["k"] ["words","pot"] [7,4] (λ_=>A3 (osc:=AJ L9) (on:=Se) (by rfl') rfl rfl rfl) (Gu (by rfl) range (pC (pv 5) AB)) (λC s H fp=>Az (i:=0) jo rfl (Or.inl rfl) (Or.inr rfl)) (λC s H fp=>Br)
    (λC s H fp=>AN (r:=A6 K) Ak (pv 1) (AO DT GT Ac (pC (pv 2) (pC (Aa (r:=YL K) B9 (by rfl) len Yy (pC (pv 1) AB)) AB))) (λ_ _=>rfl)))
  exists let b:=_;let c:=Uw (HP _ b _) a;let e:=AF _ c;let f:=AF _ e;let g:=AF _ f;let h:=AF _ g;let i:=AF _ h;let j:=AF _ i;let k:=AF _ j;let l:=AF _ k;AF _ l _ _ _
  refine⟨Z,a,0,ns,Y,hS,hlen,V,V,λp2 o3 Eg Ff=>⟨Z,p2,m,Y,⟨o3,uS,Ff⟩,m1,lZ,λl ρ H1 d1 hl NM g rl=>?_⟩⟩;have s1:AA H H1:=λb o e=>d1.keep b o (AK e Eg) ((B1 Eg) _ _ e);have gle:=g.le;have gne:1<=↑ρ:=by have:=g.ne;omega
  refine⟨Z,l,ρ,Y,NM,g,λaa AL H2 C7 CP hA=>?_⟩;have s2:=s1.trans C7;have IG:=OD NM C7;refine⟨Z,a,1,ns,Y,s2.seq hS,hlen,V,V,λp o5 hp NI=>?_⟩;refine⟨Z,p,4,o5,Y,uS,NI,V,V,λv o6 B6 Bz JF=>⟨_,Z,Y,?_⟩⟩;have H_:AA H2 (upd (upd H2 p o5) p o6):=λb o e=>by rw[AD (AK e hp),AD (AK e hp)];exact e
  have NH:(upd (upd H2 p o5) p o6) p≈o6:=uS;generalize upd (upd H2 p o5) p o6=H3 at H_ NH;obtain⟨n,en⟩:∃ n:Nat,(1 + v)=(n:Int):=⟨(1 + v).toNat,W⟩;have n1:1<=n:=by omega
  have n4:n<=4:=by omega
  refine⟨sL (by show 4<=100000;decide),λt4 JE=>?_⟩;have C6:AA H3 (upd H3 t4 (.tup [.int 8,.int 8,.int 8,.int 24])):=Am JE;have Ek:(upd H3 t4 (.tup [.int 8,.int 8,.int 8,.int 24])) t4≈(.tup ([(8:Int),8,8,24].map V.int)):=uS;generalize upd H3 t4 (.tup [.int 8,.int 8,.int 8,.int 24])=H4 at C6 Ek;have PQ:=C6 _ _ NH;refine⟨Z,p,4,o6,Y,PQ,JF,V,V,λv5 o7 v50 v51 EO=>?_⟩;have WG:Drawn p H4 (upd H4 p o7):=Drawn.upd EO;have PN:(upd H4 p o7) p≈o7:=uS;generalize upd H4 p o7=H5 at WG PN;obtain⟨mo,hmo,hat⟩:∃ mo:Nat,mo<=24/\BC ([(8:Int),8,8,24].map V.int) v5≈(.int mo):=by
   have:v5=0\/v5=1\/v5=2\/v5=3:=by omega
   rcases this with e | e | e | e
   ·exact⟨8,V,by rw[e];rfl⟩
   ·exact⟨8,V,by rw[e];rfl⟩
   ·exact⟨8,V,by rw[e];rfl⟩
   ·exact⟨24,V,by rw[e];rfl⟩
  refine⟨t4,Q,Z,Y,AH.of (Drawn.tup WG PQ JF Ek),hat,?_⟩;have Zu:AA H2 H5:=λb u e=>WG.keep b u (AK e hp) (C6 _ _ (H_ _ _ e));have ao:=OD IG Zu;obtain⟨vs5,ZF,hpr5⟩:=id ao;refine⟨Z,l,Y,⟨_,SqL.of ZF⟩,Xi ao (by omega) (λt u x H' R ht hRx=>⟨Z,t,Q,Z,Y,AH.of ht,Y,hRx⟩) λlw H6 hlw J6 hw=>?_⟩;have LH:=Zu.trans J6;have LW:=J6 _ _ PN;have wl:↑(ρ.map (·.1))=↑ρ:=Ya ..;obtain⟨r7,b7,e7,ho7'⟩:=id EO;refine⟨Z,p,Z,.inl (SqL.of (by rw[LW,e7])),λbs hbs=>?_⟩;have Sa:AA H6 (upd H6 bs (.lst [.int r7,.int b7])):=Am hbs;have V6:(upd H6 bs (.lst [.int r7,.int b7])) bs≈o7:=by rw[uS,e7]
  generalize upd H6 bs (.lst [.int r7,.int b7])=H7 at Sa V6;have E9:=Sa _ _ LW;have M9:=LH.trans Sa;have bp:bs≠p:=Yx (AK LW hbs);have aN:=Sa _ _ hw;show AF _ _ _ [↥(.ref a),↥(.int m),↥(.ref l),↥(.ref aa),↥(.ref p),↥(.int (1 + v)),↥(.int mo),↥(.ref lw),↥(.ref bs),none,none] H7;rw[en];refine⟨Z,Z,Z,Z,Z,p,l,aa,n,mo,ρ,AL,Y,⟨o7,E9,EO⟩,OD IG M9,g,M9 _ _ CP,hA.mono λb xs e=>M9 _ _ e,n1,n4,W,λld ds us H8 d8 hld hus hD gd dl=>?_⟩;have JI:=d8.keep _ _ bp V6;have wp:lw≠p:=Yx (KR E9 EO aN);have PD:=d8.keep _ _ wp aN;have lA:AA H2 H8:=λb u e=>d8.keep b u (AK e hp) (M9 _ _ e);have wb:lw≠bs:=Yx (KR JI EO PD);have wpos:1<=↑(ρ.map (·.1)):=by omega
  let EM:ε->Nat->LV->St->Hp->Prop:=λD i ys σ' H'=>Drawn bs H8 H'/\H' D≈(.lst ys)/\∃(xs:LS) (o:OV),ys=xs.map V.str/\↑xs=i/\(∀ x∈xs,x∈ρ.map (·.1))/\σ'=[o,↥(.ref lw),↥(.ref bs)];refine⟨Z,n,Y,W,W,Kh Gx (by rw[Cw];exact sL (by omega)) EM
   (λD hD=>⟨(Drawn.refl ⟨o7,JI,EO⟩).new hD,uS,[],none,Y,Y,(λx h=>nomatch h),Y⟩) (λD i ys σ' H' _ h0=>by obtain⟨_,_,bs,_,e,el,_⟩:=h0;exact⟨trivial,by rw[e,Ya];omega⟩) ?_ ?_⟩
  ·rintro D i v ys σ' H' hD hi ⟨d,hl,xs,o,rfl,rfl,hb,rfl⟩;obtain⟨hi,rfl⟩:=EH hi;obtain⟨o1,hpp,hoo⟩:=d.pot;have JD:=d.keep _ _ wb PD;have pD:bs≠D:=AK JI hD;refine⟨Z,Z,Z,lw,Z,.inl (SqL.of JD),bs,_,o1,Y,hpp,hoo,O,O,λv o2 B6 Bz CF=>?_⟩;obtain⟨x,hxm,hat⟩:=N_ B6 Bz;have d2:Drawn bs H' (upd H' bs o2):=Drawn.upd CF;refine⟨lw,Q,Z,Y,SqL.of (d2.keep _ _ wb JD),hat,d2.keep _ _ (Yx pD) hl,(d.trans d2).sub (o':=.lst []) (q:=D) (λb o hb e=>by rw[AD hb];exact e) hD pD,uS,xs++[x],_,by rw[BP];rfl,by simp,λy hy=>?_,Y⟩
   rcases Yp.mp hy with z | z
   ·exact hb y z
   ·rw[Yi.mp z];exact hxm
  rintro lc ys σ' H9 hlc ⟨d9,ZT,xs,o,rfl,hxl,mF,rfl⟩;rw[Cw]at hxl;have hxl:↑xs=n:=by simpa using hxl
  refine⟨lc,Z,.inl ⟨SqL.of ZT,λtc htc=>?_⟩⟩;have s9:AA H9 (upd H9 tc (.tup (xs.map V.str))):=B1 htc;have Rf:(upd H9 tc (.tup (xs.map V.str))) tc≈(.tup (xs.map V.str)):=uS;generalize upd H9 tc (.tup (xs.map V.str))=CC at s9 Rf;have Eo:H2 bs=none:=LH.free hbs;have k_:AA H2 CC:=λb u e=>s9 _ _ (d9.keep b u (AK e Eo) (lA _ _ e));obtain⟨o8,ZO,IE⟩:=id d8.pot;have Mt:CC p≈o8:=s9 _ _ (d9.keep _ _ (Yx bp) ZO);have ZD:=s9 _ _ (d9.keep _ _ wb PD);have ldb:ld≠bs:=λz=>by rw[z,V6]at hld;cases hld
  have SD:=s9 _ _ (d9.keep _ _ ldb hus);have ZZ:B2 CC ds us:=(hD.drawn (p:=bs) (o:=o7) λb zs e=>Drawn.tup d9 JI EO e).mono s9;have gc:Bh ρ n xs:=⟨hxl,mF⟩;let E5:SW:=λσ' H'=>∃(tc:ε) (xs:LS),σ'=[↥(.ref a),↥(.int m),↥(.ref l),↥(.ref aa),↥(.ref p),↥(.int n),↥(.int mo),↥(.ref lw),↥(.ref bs),↥(.ref ld),↥(.ref tc)]/\Drawn p CC H'/\H' tc≈(.tup (xs.map V.str))/\Bh ρ n xs;refine⟨E5,?_,?_⟩
  ·refine⟨Z,p,4,o8,Y,Mt,IE,V,V,λv11 O4 z_ z9 Rm=>?_⟩;have Gi:Drawn p CC (upd CC p O4):=Drawn.upd Rm;have Ms:(upd CC p O4) p≈O4:=uS;generalize upd CC p O4=CT at Gi Ms;have ZC:=Gi.keep _ _ wp ZD;refine⟨Y,Z,A2 (λ_=>?_) (λ_=>⟨tc,xs,Y,Gi,Drawn.tup Gi Mt IE Rf,gc⟩)⟩;let Jt:ε->Nat->LV->St->Hp->Prop:=λD i ys σ' H'=>Drawn p CT H'/\H' D≈(.lst ys)/\∃(xs:LS) (o:OV),ys=xs.map V.str/\↑xs=i/\(∀ x∈xs,x∈ρ.map (·.1))/\σ'=[o,↥(.ref lw),↥(.ref p)];refine⟨Z,n,Y,W,W,Kh Gx (by rw[Cw];exact sL (by omega)) Jt
    (λD hD=>⟨(Drawn.refl ⟨O4,Ms,Rm⟩).new hD,uS,[],none,Y,Y,(λx h=>nomatch h),Y⟩) (λD i ys σ' H' _ h0=>by obtain⟨_,_,bs,_,e,el,_⟩:=h0;exact⟨trivial,by rw[e,Ya];omega⟩) ?_ ?_⟩
   ·rintro D i v ys σ' H' hD hi ⟨d,hl,xs,o,rfl,rfl,hb,rfl⟩;obtain⟨hi,rfl⟩:=EH hi;obtain⟨o1,hpp,hoo⟩:=d.pot;have JD:=d.keep _ _ wp ZC;have pD:p≠D:=AK Ms hD;refine⟨Z,Z,Z,lw,Z,.inl (SqL.of JD),p,_,o1,Y,hpp,hoo,O,O,λv o2 B6 Bz CF=>?_⟩;obtain⟨x,hxm,hat⟩:=N_ B6 Bz;have d2:Drawn p H' (upd H' p o2):=Drawn.upd CF;refine⟨lw,Q,Z,Y,SqL.of (d2.keep _ _ wp JD),hat,d2.keep _ _ (Yx pD) hl,(d.trans d2).sub (o':=.lst []) (q:=D) (λb o hb e=>by rw[AD hb];exact e) hD pD,uS,xs++[x],_,by rw[BP];rfl,by simp,λy hy=>?_,Y⟩
    rcases Yp.mp hy with z | z
    ·exact hb y z
    ·rw[Yi.mp z];exact hxm
   rintro lj ys σ' Ju hlc2 ⟨NQ,SF,Zc,o,rfl,Jy,ZA,rfl⟩;rw[Cw]at Jy;have Jy:↑Zc=n:=by simpa using Jy
   refine⟨lj,Z,.inl ⟨SqL.of SF,λkg ZJ=>?_⟩⟩;exact⟨kg,Zc,Y,(Gi.trans NQ).same (B1 ZJ),uS,⟨Jy,ZA⟩⟩
  rintro σ' CT ⟨tc,xs,rfl,Gi,SE,gc⟩;have Y9:AA H2 CT:=λb u e=>Gi.keep b u (AK e hp) (k_ _ _ e);have ldp:ld≠p:=λz=>by rw[z,E9]at hld;cases hld
  refine⟨Z,Z,Z,Z,Z,sL (by show 5<=100000;decide),λt ht=>?_⟩;have st:AA CT (upd CT t (.tup [.ref l,.ref aa,.int n,.ref ld,.ref tc])):=Am ht;have Sb:=Y9.trans st;exact q t l aa ld tc n ρ AL ds us xs _ (s2.trans Sb) uS (OD IG Sb) g (Sb _ _ CP) (hA.mono λb xs e=>Sb _ _ e) n1 n4 (st _ _ (Gi.keep _ _ ldp SD)) ((ZZ.drawn (p:=p) (o:=o7) λb zs e=>Drawn.tup Gi Mt IE e).mono st) gd (by omega) (st _ _ SE) gc
def oR{K:Fg}{C:ε}{Hx:Hp}{xb dx l:ε}{ρ:RS}{R:Hp->Prop}{E:XK}(nx:Hx xb=none)(ndx:Hx dx=none)(hR:Gq Hx l ρ)(g:Ab ρ)(h:∀ H',AA Hx H'->BN C H' xb ρ->R H'):
  WZ K C [.ref xb,.ref l] (upd (upd Hx dx (.own xb)) xb (.ins C dx [])) (λv H3=>v=.non/\R H3) E:=by
 have C6:AA Hx (upd (upd Hx dx (.own xb)) xb (.ins C dx [])):=λb o e=>by
  have e1:(upd Hx dx (.own xb)) b≈o:=by rw[AD (AK e ndx)];exact e
  rw[AD (AK e nx)];exact e1
 exact⟨xb,dx,l,ρ,Y,uS,(Gq.g (OD hR C6)),g,λH4 kd keep=>⟨Y,h H4 (λb o e=>keep b o (AK e nx) (C6 _ _ e)) kd⟩⟩
def dG{K:Fg}{C B:ε}{Hx:Hp}{xb yb dy lz:ε}{n:Nat}{ρ:RS}{ds:ξ}{us:LV}{R:Hp->Prop}{E:XK}(ny:Hx yb=none)(ndy:Hx dy=none)(kd:BN C Hx xb ρ)(g:Ab ρ)(hz:Hx lz≈(.lst us)\/Hx lz≈(.tup us))(hD:B2 Hx ds us)(gd:Ba ρ n ds)(n1:1<=n)(n4:n<=4)(h:∀ H',AA Hx H'->Cb C B H' yb xb ρ n ds->R H'):
  Wn K C B [.ref yb,.ref xb,.int n,.ref lz] (upd (upd Hx dy (.own yb)) yb (.ins B dy [])) (λv H3=>v=.non/\R H3) E:=by
 have C6:AA Hx (upd (upd Hx dy (.own yb)) yb (.ins B dy [])):=λb o e=>by
  have e1:(upd Hx dy (.own yb)) b≈o:=by rw[AD (AK e ndy)];exact e
  rw[AD (AK e ny)];exact e1
 exact⟨yb,dy,xb,lz,n,ρ,ds,us,Y,uS,kd.mono C6,g,hz.elim (λe=>.inl (SqL.of (C6 _ _ e))) (λe=>.inr (C6 _ _ e)),hD.mono C6,gd,n1,n4,λH5 bd R9=>⟨Y,h H5 (λb o e=>R9 b o (AK e ny) (C6 _ _ e)) bd⟩⟩
def Qm(c:LS):W.Dat:=.list (c.map W.Dat.str)
def OT(c:ζ×ξ):W.Dat:=.tuple [.list (c.1.map W.Dat.int),.list (c.2.map Qm)]
theorem fJ{K:Fg}{H:Hp}:∀ {cs:ξ}{vs:LV},IJ H cs vs->Ar K H vs (cs.map Qm)
 | _,_,.nil=>.nil
 | _,_,.cons ⟨t,e,h⟩ r=>by
  subst e;exact .cons (.list (SqL.of h) (Gv _)) (fJ r)
def xI{K:Fg}{H:Hp}{t:ε}{c:ζ×ξ}(h:Cq H t c.1 c.2):Rep K H (.ref t) (OT c):=by
 obtain⟨lo,ll,vs,h1,h2,h3,h4⟩:=h;exact .tuple (AH.of h1) (.cons (.list (SqL.of h2) (N1 _)) (.cons (.list (SqL.of h3) (fJ h4)) .nil))
def xq{m:Nat}{c:LS}(h:TV c):W.kqdOk (m + 2) (Qm c)=true:=by
 show(c.map W.Dat.str).all (W.kqdOk (m + 1))=true;rw[Bv];intro d hd;obtain⟨x,hx,rfl⟩:=Yk.mp hd;exact h x hx
def xr{m:Nat}{c:ζ×ξ}(h:Fq c.1 c.2):W.kqdOk (m + 4) (OT c)=true:=by
 show([W.Dat.list (c.1.map W.Dat.int),.list (c.2.map Qm)]).all (W.kqdOk (m + 3))=true;rw[Bv];intro d hd
 rcases Yl.mp hd with e | hd
 ·rw[e];show(c.1.map W.Dat.int).all (W.kqdOk (m + 2))=true;rw[Bv];intro d hd;obtain⟨x,hx,rfl⟩:=Yk.mp hd;rw[W.kqdOk]
 ·rw[Yi.mp hd];show(c.2.map Qm).all (W.kqdOk (m + 2))=true;rw[Bv];intro d hd;obtain⟨x,hx,rfl⟩:=Yk.mp hd;exact xq (h.txt x hx).1
def eX{ρ:RS}{n:Nat}{ds:ξ}(g:Ab ρ)(gd:Ba ρ n ds):∀ {l:LN},(∀ k∈l,k<↑ds)->l.Nodup->Ex (wB ρ ds) l (Bl (wB ρ ds) l):=by
 intro l hl nd;have ex:∀ m,m<=↑l->∃ θ,Ex (wB ρ ds) (l.take m) θ:=by
  intro m
  induction m with
  | zero=>exact λ_=>⟨[],by rw[Ik];exact Ex.nil _⟩
  | succ m ih =>
   intro hm;obtain⟨θ,h⟩:=ih (by omega);have hx:l[m]?≈(l[m]'(by omega)):=Yb (by omega);refine⟨Lk (wB ρ ds) θ (l[m]'(by omega)),?_⟩;rw[Ce,hx];exact eY g gd (λk hk=>hl k (Kw hk)) (hl _ (K3 _)) h
 obtain⟨θ,h⟩:=ex ↑l (Yf _);rw[Dy]at h;rw[<- h.is nd];exact h
def kJ{W:Nat->Nat->Bool}{l r e:LN}{k:Nat}(h:nx W ↑l l=(k :: r,e)):Bl W l=[k]/\nx W ↑(l.erase k) (l.erase k)=(r,e):=by
 by_cases c:↑(Bl W l)=1
 ·obtain⟨k',hk⟩:=Ta c;have kl:k'∈l:=Kf k' (by rw[hk];simp);rw[<- UE kl,TZ hk]at h;injection h with h1 h2;injection h1 with h1 h3;subst h1;exact⟨hk,by rw[<- h3,<- h2]⟩
 ·rw[TY c]at h;injection h with h1;cases h1
def wH{W:Nat->Nat->Bool}{l e:LN}(h:nx W ↑l l=([],e)):Bl W l=e/\↑e≠1:=by
 by_cases c:↑(Bl W l)=1
 ·obtain⟨k',hk⟩:=Ta c;have kl:k'∈l:=Kf k' (by rw[hk];simp);rw[<- UE kl,TZ hk]at h;injection h with h1;cases h1
 ·rw[TY c]at h;injection h with _ h1;rw[<- h1];exact⟨Y,c⟩
def Dc(d:LS)(cs:ξ)(p:Int):Int:=(((cs.getD p.toNat []).idxOf (d.getD p.toNat ""):Nat):Int)
def Hc(d:LS)(ord:ζ)(cs:ξ):ζ:=ord.map (Dc d cs)
theorem jj{α:Type}{fa fb:α->Int}:∀ {ord:List α},(∀ p∈ord,fa p=fb p\/fa p<fb p)->(∃ p∈ord,fa p≠fb p)->HT.lexLt (ord.map fa) (ord.map fb)=true
 | [],_,⟨p,h,_⟩=>nomatch h
 | q :: ord,h,⟨p,hp,BG⟩=>by
  rw[Yr,Yr,HT.lexLt_cons];by_cases e:fa q=fb q
  ·rw[if_pos e];refine jj (λp hp=>h p (.tail _ hp)) ⟨p,?_,BG⟩;cases hp with
   | head=>exact absurd e BG
   | tail _ hp=>exact hp
  ·rw[if_neg e];exact Jb ((h q (.head _)).resolve_left e)
def Lw{c:LS}{a:Str}(h:a∈c):c[c.idxOf a]?≈a:=by
 have hl:=List.idxOf_lt_length_of_mem h;rw[Yb hl,List.getElem_idxOf hl]
def oN{ρ:RS}{x:Str}{c:LS}(L:Fw ρ x c){a b:Str}(ha:a∈c)(hb:b∈c)(r:Graph.Reach (An ρ) a b)(ne:a≠b):c.idxOf a<c.idxOf b:=by
 have ga:=Lw ha;have gb:=Lw hb
 rcases Nat.lt_trichotomy (c.idxOf a) (c.idxOf b)with h | h | h
 ·exact h
 ·rw[h,gb]at ga;injection ga with ga;exact absurd ga.symm ne
 ·refine absurd r (L.2 _ a b ga ?_);obtain⟨hl,e⟩:=Ye.mp gb;rw[<- e];rw[Kx];exact⟨c.idxOf b,by rw[BU];exact Nat.lt_min.mpr ⟨h,hl⟩,by rw[Oa]⟩
def FT{ρ:RS}{ds:ξ}{xs:LS}{k:Nat}(h:k∈AR ρ ds xs):k<↑ds/\CJ ρ xs (ds.getD k [])=true:=by
 unfold AR at h;have:=Cc.mp h;exact⟨CA.mp this.1,this.2⟩
section
variable {ρ:RS}{n:Nat}{ds:ξ}{xs:LS}{ord:ζ}{cs:ξ}
def Lu(g:Ab ρ)(gd:Ba ρ n ds)(gc:Bh ρ n xs)(L:DJ ρ xs ord cs){k i:Nat}(hk:k∈AR ρ ds xs)(hi:i<n):∃ d x c,(ds.getD k [])[i]?≈d/\xs[i]?≈x/\cs[i]?≈c/\Fw ρ x c/\d∈c/\(ds.getD k []).getD i ""=d/\cs.getD i []=c:=by
 obtain⟨kl,wi⟩:=FT hk;have gk:=gd.call _ (Yd (Df kl));have h1:i<↑(ds.getD k []):=by rw[gk.len];exact hi
 have h2:i<↑xs:=by rw[gc.len];exact hi
 have h3:i<↑cs:=by rw[L.len];exact h2
 have e1:=Yb h1;have e2:=Yb h2;have e3:=Yb h3;have ln:=L.line i _ _ e2 e3;refine⟨Q,_,e1,e2,e3,ln,?_,by rw[Yg,e1];rfl,by rw[Yg,e3];rfl⟩;rw[OC]at wi;refine ln.1.mem_iff.mpr ?_;unfold Au;exact Cc.mpr ⟨gk.known _ (K3 h1),EU.mpr (wi i _ _ e2 e1)⟩
def P5(gc:Bh ρ n xs)(L:DJ ρ xs ord cs){p:Int}:p∈ord↔∃ i:Nat,i<n/\p=(i:Nat):=by
 rw[L.ord.mem_iff,gc.len];unfold Ah;rw[Yk];constructor
 ·rintro⟨i,hi,rfl⟩;exact⟨i,CA.mp hi,Y⟩
 ·rintro⟨i,hi,rfl⟩;exact⟨i,CA.mpr hi,Y⟩
def pQ(g:Ab ρ)(gd:Ba ρ n ds)(gc:Bh ρ n xs)(L:DJ ρ xs ord cs){j k:Nat}(hj:j∈AR ρ ds xs)(hk:k∈AR ρ ds xs)(BG:j≠k)(w:wB ρ ds j k=true):HT.lexLt (Hc (ds.getD j []) ord cs) (Hc (ds.getD k []) ord cs)=true:=by
 unfold wB at w;rw[OC]at w;obtain⟨jl,_⟩:=FT hj;obtain⟨kl,_⟩:=FT hk;have gj:=gd.call _ (Yd (Df jl));have gk:=gd.call _ (Yd (Df kl));have step:∀ i:Nat,i<n->((ds.getD j []).getD i ""=(ds.getD k []).getD i ""/\Dc (ds.getD j []) cs (i:Nat)=Dc (ds.getD k []) cs (i:Nat))\/Dc (ds.getD j []) cs (i:Nat)<Dc (ds.getD k []) cs (i:Nat):=λi hi=>by
  obtain⟨d1,x1,c1,a1,a2,a3,a4,a5,a6,a7⟩:=Lu g gd gc L hj hi;obtain⟨d2,x2,c2,b1,b2,b3,b4,b5,b6,b7⟩:=Lu g gd gc L hk hi;rw[a3]at b3;injection b3 with b3;subst b3;unfold Dc;rw[Yt,a6,b6,a7];by_cases e:d1=d2
  ·exact .inl ⟨e,by rw[e]⟩
  ·exact .inr (Int.ofNat_lt.mpr (oN a4 a5 b5 (w i _ _ a1 b1) e))
 refine jj (λp hp=>?_) ?_
 ·obtain⟨i,hi,rfl⟩:=(P5 gc L).mp hp
  rcases step i hi with h | h
  ·exact .inl h.2
  ·exact .inr h
 ·refine Kr λno=>BG ?_;have all:∀ i:Nat,i<n->(ds.getD j []).getD i ""=(ds.getD k []).getD i "":=λi hi=>by
   rcases step i hi with h | h
   ·exact h.1
   ·exact absurd ⟨(i:Nat),(P5 gc L).mpr ⟨i,hi,Y⟩,W⟩ no
  have e:ds.getD j []=ds.getD k []:=List.ext_getElem (gj.len.trans gk.len.symm) λi i1 i2=>by
   have t1:(ds.getD j []).getD i ""=(ds.getD j [])[i]:=by rw[Yg,Yb i1];rfl
   have t2:(ds.getD k []).getD i ""=(ds.getD k [])[i]:=by rw[Yg,Yb i2];rfl
   rw[<- t1,<- t2];exact all i (by rw[<- gj.len];exact i1)
  have e1:=Df jl;have e2:=Df kl;rw[e]at e1;obtain⟨l1,q1⟩:=Ye.mp e1;obtain⟨l2,q2⟩:=Ye.mp e2
  rcases Nat.lt_trichotomy j k with h | h | h
  ·exact absurd (q1.trans q2.symm) (Jp.mp (Ea.mp gd.nd) j k l1 l2 h)
  ·exact h
  ·exact absurd (q2.trans q1.symm) (Jp.mp (Ea.mp gd.nd) k j l2 l1 h)
end
theorem gs{W:Nat->Nat->Bool}{κ:Nat->ζ}:∀(row:LN) {l e R:LN},nx W ↑l l=(row,e)->R.Perm l->l.Nodup->R.Pairwise (λa b=>HT.lexLt (κ b) (κ a)=false)->(∀ a∈l,∀ b∈l,a≠b->W a b=true->HT.lexLt (κ a) (κ b)=true)->(∀ l':LN,(∀ k∈l',k∈l)->l'.Nodup->Ex W l' (Bl W l'))->R.take ↑row=row
 | [],_,_,_,_,_,_,_,_,_=>by rw[List.length_nil,Ik]
 | k :: r,l,e,R,h,p,nd,pw,lt,θ=>by
  obtain⟨m1,h2⟩:=kJ h;have kl:k∈l:=Kf k (by rw[m1];exact .head _);have nk:=θ l (λ_ z=>z) nd;rw[m1]at nk;cases R with
  | nil=>exact nomatch p.mem_iff.mpr kl
  | cons a R =>
   have ak:a=k:=Kr λne=>by
    have hk:k∈R:=(Yl.mp (p.mem_iff.mpr kl)).resolve_left λz=>ne z.symm;have al:a∈l:=p.mem_iff.mp (.head _);obtain⟨k',CW,h'⟩:=nk.dom a al;rw[Yi.mp CW]at h';have h1:=lt k kl a al (λz=>ne z.symm) (h'.resolve_left λz=>ne z.symm);rw[(Dk.mp pw).1 k hk]at h1;cases h1
   subst ak;rw[Cd,List.take_succ_cons];refine congrArg _ (gs r h2 ?_ (nd.erase a) (Dk.mp pw).2 (λa ha b hb=>lt a (Oo ha) b (Oo hb)) λl' Fh FZ=>θ l' (λz hz=>Oo (Fh z hz)) FZ);have:=p.erase a
   rwa [List.erase_cons_head]at this
def KJ(ρ:RS)(ds:ξ)(xs:LS)(ord:ζ)(cs:ξ)(i:Nat):ζ:=Hc (ds.getD ((AR ρ ds xs).getD i 0) []) ord cs
def BY(ρ:RS)(ds:ξ)(xs:LS)(ord:ζ)(cs:ξ):LN:=(IP (O:=Lq) false (KJ ρ ds xs ord cs) ↑(AR ρ ds xs)).map λi=>(AR ρ ds xs).getD i 0
def rp(l:LN):((List.range ↑l).map λi=>l.getD i 0)=l:=by
 refine List.ext_getElem (by rw[Ya,Ec]) λi i1 i2=>?_;rw[List.getElem_map,List.getElem_range,Yg,Yb i2];rfl
def Kj(ρ:RS)(ds:ξ)(xs:LS)(ord:ζ)(cs:ξ):(BY ρ ds xs ord cs).Perm (AR ρ ds xs):=by
 have:=(L4 (O:=Lq) false (KJ ρ ds xs ord cs) ↑(AR ρ ds xs)).map λi=>(AR ρ ds xs).getD i 0
 rwa [rp]at this
def Wy(ρ:RS)(ds:ξ)(xs:LS)(ord:ζ)(cs:ξ):(BY ρ ds xs ord cs).Pairwise (λa b=>HT.lexLt (Hc (ds.getD b []) ord cs) (Hc (ds.getD a []) ord cs)=false):=by
 unfold BY;rw[Ko];exact(h_ (O:=Lq) false (KJ ρ ds xs ord cs) ↑(AR ρ ds xs)).imp λh=>h
def pM(ρ:RS)(ds:ξ)(xs:LS)(ord:ζ)(cs:ξ):Fz (O:=Lq) false (KJ ρ ds xs ord cs) ((AR ρ ds xs).map AI)=(BY ρ ds xs ord cs).map AI:=by
 unfold Fz BY;rw[Ya,Bu];refine MM λi hi=>?_;have hi:=CA.mp ((L4 (O:=Lq) false (KJ ρ ds xs ord cs) _).mem_iff.mp hi);show((AR ρ ds xs).map AI).getD i V.non=AI ((AR ρ ds xs).getD i 0);rw[Yg,Yh,Yb hi,Yg,Yb hi];rfl
def dQ{ρ:RS}{n:Nat}{ds:ξ}{xs:LS}{ord:ζ}{cs:ξ}(g:Ab ρ)(gd:Ba ρ n ds)(gc:Bh ρ n xs)(L:DJ ρ xs ord cs):
  (BY ρ ds xs ord cs).take (nx (wB ρ ds) ↑(AR ρ ds xs) (AR ρ ds xs)).1.length=(nx (wB ρ ds) ↑(AR ρ ds xs) (AR ρ ds xs)).1 :=
 gs (κ:=λk=>Hc (ds.getD k []) ord cs) _ (e:=(nx (wB ρ ds) ↑(AR ρ ds xs) (AR ρ ds xs)).2) rfl (Kj _ _ _ _ _) (Kb _ _ _) (Wy _ _ _ _ _) (λa ha b hb ne w=>pQ g gd gc L ha hb ne w) λl' Fh FZ=>eX g gd (λk hk=>(FT (Fh k hk)).1) FZ
def cY:Sp:=λvs H Q _=>∃(t lu:ε) (d:LS) (ord:ζ) (cs:ξ),vs=[.ref t,.ref lu]/\H t≈(.tup (d.map V.str))/\Cq H lu ord cs/\Fq ord cs/\(∀ p∈ord,∃(i:Nat) (z:Str) (c:LS),p=(i:Nat)/\d[i]?≈z/\cs[i]?≈c/\z∈c) /\
 ∀ l H',AA H H'->H' l≈(.lst ((Hc d ord cs).map V.int))->Q (.ref l) H'
def TM(d:LS)(cs:ξ):V->V
 | .int p=>.int (Dc d cs p)
 | v=>v
theorem eF(d:LS)(cs:ξ):∀ ord:ζ,((ord.map V.int).filter λ_=>true).map (TM d cs)=(Hc d ord cs).map V.int
 | []=>rfl
 | p :: r=>by
  show V.int (Dc d cs p):: ((r.map V.int).filter λ_=>true).map (TM d cs)=_;rw[eF d cs r];rfl
def wt:(["place","lineup","deed"]:LS).Nodup:=by rfl'
def bq{H:Hp}{cs:ξ}{vs:LV}(h:IJ H cs vs){i:Nat}{c:LS}(hc:cs[i]?≈c):∃ t,vs[i]?≈(.ref t)/\H t≈(.lst (c.map V.str)):=by
 have hl:=A_ h;have hi:i<↑vs:=by have:=(Ye.mp hc).1;omega
 obtain⟨c',BM,t,e,ht⟩:=B3 h (Yb hi);rw[hc]at BM;injection BM with BM;exact⟨t,by rw[Yb hi,e],by rw[BM];exact ht⟩
def gO{c:LS}{z:Str}:∀ {m:Nat}{y:Str},m<c.idxOf z->c[m]?≈y->y≠z:=λ{m y} hm hy e=>by
 induction c generalizing m with
 | nil=>cases hy
 | cons x c ih =>
  rw[Qw]at hm;by_cases hx:x=z
  ·rw[show(x == z)=true from by rw[hx];exact beq_self_eq_true _]at hm;exact absurd hm (Nat.not_lt_zero _)
  ·rw[show(x == z)=false from Jk.mpr hx]at hm;cases m with
   | zero=>injection hy with hy;exact hx (hy.trans e)
   | succ m=>exact ih (m:=m) (by have:m + 1<c.idxOf z + 1:=hm;omega) hy
def Dx{xs:LV}{v:Int}{x:V}(h0:0<=v)(h:xs[v.toNat]?≈x):BC xs v≈x:=by
 have e:((v.toNat:Nat):Int)=v:=by omega
 have:=DB h;rw[e]at this;exact this
def wW{X:Cx}{K:Fg}{T id:String}{name:Str}{r:V->LV->Hp->VK->Prop}{o e:Expr}{es:δ}{to:TE}{t:TA}{apos AX:Pos}(hK:X.K=K)(pa:PySem.PlainAttrs T)(slot:Slot T name id)(hty:typeOf (.builtin id)=pure (.type "method_descriptor"))(hm:Y3 X id r)(ho:PE X o to)(ha:PA X (e :: es) t)
  (Cj:attributeBase o name X.env (eval o X.env)=eval o X.env:=by rfl)
  (hfew:((backTo AX (starEach (e :: es) X.env)).all (λx=>!x.1)&&(backToKw AX (keywordEach [] X.env)).all (λx=>x.1.isSome)
   && decide (↑(e :: es) + ↑([]:List Keyword) + (if([]:List Keyword).isEmpty then 0 else 1)<30))=true:=by rfl)
  (Ci:(apos.endLine == AX.line)=true:=by rfl) (hs:starEach (e :: es) X.env=(false,eval e X.env):: starEach es X.env:=by rfl) (hplain:(backTo AX (starEach es X.env)).any (·.1)=false:=by rfl):
  PE X (.Call (.Attribute o name apos) (e :: es) [] AX) (Zg K T r to t):=by
 subst hK;exact Ct pa slot hty hm ho ha Cj hfew Ci hs hplain
abbrev MJ:LS:=["deed","lineup"]
def jX:Ad MJ MJ (AJ QC):=by nofun
def oq(F:Def K mg "spots" QC MJ f fd):⋯ 1 f fd MJ cY:=by
 nomatch F.fn.ok jX
 ·obtain⟨t,lu,d,ord,cs,rfl,_⟩:=h;rfl
 ·obtain⟨t,lu,d,ord,cs,rfl,ht,⟨lo,ll,us,hlu,hlo,hll,hL⟩,ok,pl,q⟩:=h;have nd:=jX.nd;refine'⟨_,AG (AS ?e1),?_⟩
  case e1 =>
   refine' BO ["place"] ["lineup","deed"] [1,0] (λ_=>A3 (osc:=AJ QC) (on:=MJ) (by rfl') rfl rfl rfl) (Bn (AN (r:=Ax K) A0 (pv 1) AE (λ_ _=>rfl))) (λC s H fp=>Az (i:=0) wt rfl (Or.inl rfl) (Or.inr rfl)) (λC s H fp=>Br) ?em
   case em=>exact(λC s H fp=>wW (r:=cL K) rfl Yz U9 YX (XZ (U0 hr)) (AN (r:=A6 K) Ak (AN (r:=Ax K) A0 (pv 1) AE (λ_ _=>rfl)) (pv 0) (λ_ _=>rfl)) (pC (AN (r:=Ax K) A0 (pv 2) (pv 0) (λ_ _=>rfl)) AB))
  have few:=ok.few;refine⟨Z,lu,Q,Z,Y,AH.of hlu,Y,lo,Y,⟨_,SqL.of hlo⟩,EG (B4 (xs:=ord.map V.int)) (sL (by rw[Ya];omega)) (λ_=>true) (TM d cs) (λH' s'=>s'.seq (SqL.of hlo)) ?_ ?_ ?_⟩
  ·intro v H' R s' _ Ag;exact Ag H' (AA.refl _)
  ·intro v H' R s' hv _ Ag;obtain⟨p,hp,rfl⟩:=Yk.mp hv;obtain⟨i,z,c,rfl,hz,hc,hzc⟩:=pl p hp;obtain⟨tc,htc,hcc⟩:=bq (hL.mono s') hc;obtain⟨cok,clen⟩:=ok.txt c (Yd hc);have J2:BC us ((i:Nat):Int)≈(.ref tc):=Dx (Kq _) (by rw[Yt];exact htc);have Mw:BC (d.map V.str) ((i:Nat):Int)≈(.str z):=Dx (Kq _) (by rw[Yt,Yh,hz];rfl);have el:(c.map W.Dat.str).all (W.kqdOk 8)=true:=by
    rw[Bv];intro e he;obtain⟨y,hy,rfl⟩:=Yk.mp he;exact cok y hy
   refine⟨Z,lu,Q,Z,Y,AH.of (s' _ _ hlu),Y,Z,ll,Q,Z,Y,SqL.of (s' _ _ hll),J2,.inl ⟨Y,_,SqL.of hcc⟩,Z,Z,t,Q,Z,Y,AH.of (s' _ _ ht),Mw,_,.str z,_,c.idxOf z,.str z,Y,.list (SqL.of hcc) (Gv _),.str _,el,cok z hzc,O,by rw[Yh,Lw hzc];rfl,Ey _,λm e hm he=>?_,?_⟩
   ·obtain⟨y,hy,rfl⟩:=Ki he;exact IV λq=>gO hm hy (by injection q)
   ·have es:TM d cs (.int ((i:Nat):Int))=.int ((c.idxOf z:Nat):Int):=by
     show V.int (Dc d cs (i:Nat))=_;unfold Dc;have e1:cs.getD i []=c:=by rw[Yg,hc];rfl
     have e2:d.getD i ""=z:=by rw[Yg,hz];rfl
     rw[Yt,e1,e2]
    rw[es]at Ag;exact Ag H' (AA.refl _)
  ·intro D H' hD s' hl;rw[eF]at hl;exact q D H' s' hl
def BN.monoT{C T:ε}{H H':Hp}{p:ε}{ρ:RS}(h:BN C H p ρ)(hT:∃ ps,H T≈(.tbl ps))(s:Bf T H H'):BN C H' p ρ:=by
 obtain⟨ps,hT⟩:=hT;obtain⟨dx,d,a,o,oa,ν,AL,h1,h2,h3,h4⟩:=h.ex;have k:∀ b u,(∀ ps,u≠.tbl ps)->H b≈u->H' b≈u:=λb u hn e=>s b u (λz=>by rw[z,hT]at e;cases e;exact hn _ rfl) e;exact⟨dx,d,a,o,oa,ν,AL,k _ _ (λ_ z=>nomatch z) h1,⟨k _ _ (λ_ z=>nomatch z) h2.at_,h2.ups.mono λ_ _ e=>k _ _ (λ_ z=>nomatch z) e⟩,k _ _ (λ_ z=>nomatch z) h3,h4.mono λ_ _ _ e=>k _ _ (λ_ z=>nomatch z) e⟩
def WR{T b:ε}{H:Hp}{o:HO}(hT:∃ ps,H T≈(.tbl ps))(e:H b≈o)(n:∀ ps,o≠.tbl ps):b≠T:=λz=>by
 obtain⟨ps,hT⟩:=hT;rw[z,hT]at e;cases e;exact n _ rfl
def Bj.okL{P:Γ}{w:World}{K:Fg}{mg:Str->OU}{base:Heap}{x qual:Str}{st:Stmt}{N ps:LS}{k:Nat}{sp:Sp}(F:Bj K x qual st f fd)(hc:fd.code=.ref c)(S:Ad N ps (AJ st))(len:∀ vs H Q E,sp vs H Q E->↑vs=↑ps)
  (hbody:∀(A:Around) (outer:List Env) (s:ω) (H:Hp) (vs:LV) (Q:VK) (E:XK),AV k (A.deeper (PyProof.Rows.envOfC qual (AJ st) ⇑s f (.ref c)))->sp vs H Q E ->
   ∃ t,CB (JY Ir P w K mg base N qual (AJ st) f (.ref c) A outer s H E).nox (CM st) t/\t {nx:=λ_ H'=>Q .non H',rt:=Q} (start N vs) H):⋯ (k + 1) f fd ps sp:=by
 obtain⟨oc,od,kV,doc,pm,an,Ao,ct,osl,rfl,lk,hcd⟩:=F.ex;have hc:Ao=.ref c:=hc;subst hc;refine YB lk hcd S len λA outer s H vs Q E hr hsp=>?_;obtain⟨t,h,q⟩:=hbody A outer s H vs Q E hr hsp;exact⟨t,h.nox,q⟩
def Eu{T:ε}{H H':Hp}(hT:∃ ps,H T≈(.tbl ps))(s:Bf T H H'){b:ε}{u:HO}(e:H b≈u)(n:∀ ps,u≠.tbl ps):H' b≈u:=s b u (WR hT e n) e
def IJ.monoT{T:ε}{H H':Hp}{cs:ξ}{vs:LV}(h:IJ H cs vs)(hT:∃ ps,H T≈(.tbl ps))(s:Bf T H H'):IJ H' cs vs:=Paired.mapP h λ_ _ ⟨t,e,x⟩=>⟨t,e,Eu hT s x λ_ z=>nomatch z⟩
theorem Cq.monoT{T:ε}{H H':Hp}{t:ε}{ord:ζ}{cs:ξ}(h:Cq H t ord cs)(hT:∃ ps,H T≈(.tbl ps))(s:Bf T H H'):Cq H' t ord cs:=by
 obtain⟨lo,ll,vs,h1,h2,h3,h4⟩:=h;exact⟨lo,ll,vs,Eu hT s h1 (λ_ z=>nomatch z),Eu hT s h2 (λ_ z=>nomatch z),Eu hT s h3 (λ_ z=>nomatch z),h4.monoT hT s⟩
abbrev iQ:Str:="ranked.<locals>.<lambda>"
def xc:("ranked":Str)++(".<locals>.":Str)++("<lambda>":Str)=iQ:=by rfl'
abbrev Uy(T:ε)(lp:Pos)(H:Hp):Prop:=Dw H T lp iQ
structure yt(C B T:ε)(lp:Pos)(H:Hp)(p t lu:ε)(ρ:RS)(n:Nat)(ds:ξ)(xs:LS)(ord:ζ)(cs:ξ):Prop where
 bd:∃ k,Cb C B H p k ρ n ds
 g:Ab ρ
 gd:Ba ρ n ds
 n4:n<=4
 d24:↑ds<=24
 ht:H t≈(.tup (xs.map V.str))
 gc:Bh ρ n xs
 lu:Cq H lu ord cs
 ok:Fq ord cs
 is:DJ ρ xs ord cs
 tab:Uy T lp H
def kC(C B T:ε)(lp:Pos):Sp:=λvs H Q _=>∃(p t lu:ε) (ρ:RS) (n:Nat) (ds:ξ) (xs:LS) (ord:ζ) (cs:ξ),vs=[.ref p,.ref t,.ref lu]/\yt C B T lp H p t lu ρ n ds xs ord cs /\
 ∀ l H',H l=none->Bf T H H'->Uy T lp H'->H' l≈(.lst ((BY ρ ds xs ord cs).map AI))->Q (.ref l) H'
def Ln{T D:ε}{H H1:Hp}(hT:∃ ps,H T≈(.tbl ps))(h1:Bf T H H1)(Ej:∃ ps,H1 T≈(.tbl ps))(hD:H1 D=none):H D=none:=by
 cases e:H D with
 | none=>rfl
 | some u =>
  obtain⟨ps,Ej⟩:=Ej;by_cases z:D=T
  ·rw[z,Ej]at hD;cases hD
  ·rw[h1 D u z e]at hD;cases hD
abbrev ME:LS:=["board","call","lineup"]
abbrev Z4:LS:=["board","call","lineup","deeds"]
def iz:Ad Z4 ME (AJ Nw):=by nofun
def rO:∃ lp:Pos,∀ {f C B T c fI fF fD fS:ε}{fd fdI fdF fdD fdS:FuncData}(F:Def K mg "ranked" Nw ME f fd) (hc:fd.code=.ref c) (LT:Lh mg base c T) (srt:mg "sorted"=none) (list:mg "list"=none) (TB:Gn K B) (MD:Ti K B fD fdD)
  (DI:Def K mg "is_lineup" Qa ME fI fdI) (GI:⋯ 7 fI fdI ME (j7 C B)) (DF:Def K mg "fitting" Kk ["board","call"] fF fdF) (GF:⋯ 5 fF fdF ["board","call"] (XS C B)) (DS:Def K mg "spots" QC MJ fS fdS),⋯ 8 f fd ME (kC C B T lp):=by
 apply Exists.intro
 ·intro f C B T c fI fF fD fS fd fdI fdF fdD fdS F hc LT srt list TB MD DI GI DF GF DS;have GD:⋯ 1 fD fdD ["self"] (QM C B):=UG MD.fn TB list;have GS:⋯ 1 fS fdS MJ cY:=oq DS;refine Bj.okL F.fn hc iz (λvs H Q E h=>?_) (λA outer s H vs Q E hr h=>?_)
  ·obtain⟨p,t,lu,ρ,n,ds,xs,ord,cs,rfl,_⟩:=h;rfl
  ·obtain⟨p,t,lu,ρ,n,ds,xs,ord,cs,rfl,ask,q⟩:=h;have nd:=iz.nd;have Ac:AV 1 _:=hr.mono (by decide);have ID:AV 5 _:=hr.mono (by decide);have hrL:∀ env:Env,AV 1 ((A.deeper (PyProof.Rows.envOfC "ranked" (AJ Nw) ⇑s f (.ref c))).in1.in1.deeper env):=λenv=>(AV.deeper (AV.in1 (AV.in1 hr)) env).mono (by decide)
   ac_nf
   refine'⟨_,(pS (Ae (Bs (BZ (AO DI GI hr (pC (pv 0) (pC (pv 1) (pC (pv 2) AB)))))) Dh Af)
   (pS (Bt (i:=3) nd rfl (Or.inr rfl) (EX (pv 0) TB.cl MD.me GD Ac MD.b .nil BS))
   (AG (AS (qB ["deeds","lineup"] [3,2] rfl (by rfl) srt (AO DF GF ID (pC (pv 0) (pC (pv 1) AB))) LT rfl xc (dq (osc:=AJ Nw) (on:=Z4) (x:="number") (by rfl')) (RD (A8 (F7 _ _) (F7 _ _)) hr.dp) (AV.in1 (AV.in1 hr)).units0
     (λf' c' cl s' H'=>AO DS GS (hrL _) (pC (AN (r:=A6 K) Ak (pv 1) (pv 0) (λ_ _=>rfl)) (pC (pv 2) AB)))))))),?_⟩
   exists let b:=AF _ a;AF _ b _ _ _
   obtain⟨⟨k,bd⟩,g,gd,n4,d24,ht,gc,hlu,lok,lup,hT⟩:=ask;have fl:=QK ρ ds xs;refine⟨Z,Z,Z,p,k,t,lu,ρ,n,ds,xs,ord,cs,Y,bd,g,n4,ht,gc,hlu,lok,λv H1 s1 hv=>?_⟩;rw[hv.mpr lup];obtain⟨dx,ts,us,h1,h2,h3,h4⟩:=bd.ex;refine⟨Z,Ap ⟨Z,p,dx,Z,s1 _ _ h1,QV _ _ _,p,k,ρ,n,ds,Y,bd.mono s1,λld J4 hld hD=>?_⟩⟩;have s2:AA H1 (upd H1 ld (.lst J4)):=Am hld;have CQ:(upd H1 ld (.lst J4)) ld≈(.lst J4):=uS;generalize upd H1 ld (.lst J4)=H2 at s2 CQ;have BF:=s1.trans s2;have Gh:=hD.mono s2;refine⟨Z,Z,p,k,t,ρ,n,ds,xs,Y,bd.mono BF,g,gd,n4,BF _ _ ht,gc,λl H3 hl s3 Ck=>?_⟩;have A4:=BF.trans s3;refine⟨l,_,KJ ρ ds xs ord cs,n,Y,SqL.of Ck,O,hT.mono A4,λH4 sm Pe=>⟨λi v H5 hi s5=>?_,λD H5 WA s5 R0=>?_⟩⟩
   ·have tb:=(hT.mono A4).tbl;obtain⟨m,hm,rfl⟩:=Ki hi;have hmf:=Yd hm;obtain⟨ml,mw⟩:=FT hmf;obtain⟨tm,hat,htm⟩:=Ke (Gh.mono s3) (AA.refl _) ml;have ZH:=s5 _ _ (Eu tb sm htm (λ_ z=>nomatch z));refine⟨Z,Z,ld,Q,Z,Y,SqL.of (s5 _ _ (Eu tb sm (s3 _ _ CQ) (λ_ z=>nomatch z))),hat,Z,tm,lu,_,ord,cs,Y,ZH,((hlu.mono A4).monoT tb sm).mono s5,lok,λpl hpl=>?_,λl6 H6 s6 PY=>⟨s6,?_,l6,Y,?_⟩⟩
    ·obtain⟨i',CY,rfl⟩:=(P5 gc lup).mp hpl;obtain⟨d,x,c,a1,a2,a3,a4,a5,a6,a7⟩:=Lu g gd gc lup hmf CY;exact⟨i',d,c,Y,a1,a3,a5⟩
    ·unfold KJ Hc;rw[Ya,lup.ord.length_eq];unfold Ah;rw[Ya,Ec,gc.len]
    ·unfold KJ;have e:(AR ρ ds xs).getD i 0=m:=by rw[Yg,hm];rfl
     rw[e];exact PY
   ·rw[show(AR ρ ds xs).map (λi=>V.int (i:Nat))=(AR ρ ds xs).map AI from rfl,pM]at R0;have sT:=(A4.t (P:=T)).trans sm;exact q D H5 (Ln hT.tbl sT Pe.tbl WA) (sT.trans s5.t) (Pe.mono s5) R0
def Wq:Sp:=λvs H Q _=>∃(aa ld t:ε) (n:Nat) (ρ:RS) (AL:KL) (ds:ξ) (us:LV) (xs:LS),vs=[.ref aa,.ref ld,.ref t]/\Ab ρ/\H aa≈(.dK AL)/\CH H ρ ρ AL/\H ld≈(.lst us)/\B2 H ds us/\Ba ρ n ds/\H t≈(.tup (xs.map V.str))/\Bh ρ n xs/\n<=4 /\
 ∀ l H',H l=none->AA H H'->H' l≈(.lst ((AR ρ ds xs).map AI))->Q (.ref l) H'
def yS:(["k","above","call","deeds"]:LS).Nodup:=by rfl'
structure X0(mg:Str->OU):Prop where
 len:mg "len"=none
 range:mg "range"=none
 any:mg "any"=none
abbrev FL:LS:=["above","deeds","call"]
def jA:Ad FL FL (AJ OE):=by nofun
def oh(F:Def K mg "_law_fits" OE FL f fd)(T:X0 mg)(DLW:Def K mg "_law_within" OO JA fLW fdLW)(GLW:⋯ 1 fLW fdLW JA XT):⋯ 2 f fd FL Wq:=by
 nomatch F.fn.ok jA
 ·obtain⟨aa,ld,t,n,ρ,AL,ds,us,xs,rfl,_⟩:=h;rfl
 ·obtain⟨aa,ld,t,n,ρ,AL,ds,us,xs,rfl,g,CP,hA,hld,hD,gd,ht,gc,hn,q⟩:=h;have nd:=jA.nd;have hul:=↑hD;have few:=gd.few;refine'⟨_,AG (AS ?e1),?_⟩
  case e1=>exact(BO ["k"] ["above","call","deeds"] [0,2,1] (λ_=>A3 (osc:=AJ OE) (on:=FL) (by rfl') rfl rfl rfl) (Gu (by rfl) T.range (pC (Aa B9 (by rfl) T.len Yy (pC (pv 1) AB)) AB)) (λC s H fp=>Az (i:=0) yS rfl (Or.inl rfl) (Or.inr rfl))
    (λC s H fp=>F3 (BZ (AO DLW GLW hr (pC (pv 1) (pC (pv 2) (pC (AN (r:=A6 K) Ak (pv 3) (pv 0) (λ_ _=>rfl)) AB)))))) (λC s H fp=>pv 0))
  refine⟨Z,ld,Z,.inl (SqL.of hld),Z,W,W,EG Gx (by rw[Cw];exact sL (by omega)) (X6 ρ ds xs) (λv=>v) (λ_ _=>trivial) ?_ ?_ ?_⟩
  ·intro x H' R s' hx hR;obtain⟨j,hj⟩:=D0 hx;obtain⟨hj,rfl⟩:=EH hj;have hj:j<↑ds:=by omega
   obtain⟨tq,a1,htq⟩:=Ke hD s' hj;refine⟨Z,Z,Z,Z,ld,Q,Z,Y,SqL.of (s' _ _ hld),(by rw[FV];exact a1),aa,t,tq,ρ,AL,xs,Z,g,s' _ _ CP,hA.mono λb xs e=>s' _ _ e,s' _ _ ht,htq,gc.known,by have:=gc.len;omega,λBL By=>⟨Z,?_⟩⟩;have e:X6 ρ ds xs (V.int (0 + (j:Nat)))=CJ ρ xs (ds.getD j []):=by
    show CJ ρ xs (ds.getD ((0:Int) + (j:Nat)).toNat [])=_;rw[FV,Yt]
   rw[<- e];exact hR BL By
  ·intro x H' R s' hx _ hR;exact⟨Z,hR H' (AA.refl _)⟩
  ·intro lf H1 hlf s1 IF;rw[show((↑us:Nat):Int).toNat=↑ds by omega,xP]at IF;exact q lf H1 hlf s1 IF
abbrev B5(ds:ξ)(ord:ζ)(cs:ξ)(k:Nat):ζ:=Hc (ds.getD k []) ord cs
theorem eu{κ:Nat->ζ}:∀ {A B:LN},A.Perm B->A.Pairwise (λa b=>HT.lexLt (κ a) (κ b)=true)->B.Pairwise (λa b=>HT.lexLt (κ b) (κ a)=false)->A=B
 | [],B,p,_,_=>(List.nil_perm.mp p).symm
 | a :: A,[],p,_,_=>nomatch p.mem_iff.mp (.head _)
 | a :: A,b :: B,p,pa,pb=>by
  have e:a=b:=Kr λne=>by
   have h1:a∈B:=(Yl.mp (p.mem_iff.mp (.head _))).resolve_left ne;have h2:b∈A:=(Yl.mp (p.mem_iff.mpr (.head _))).resolve_left λz=>ne z.symm;have q1:=(Dk.mp pa).1 b h2;rw[(Dk.mp pb).1 a h1]at q1;cases q1
  subst e;rw[eu p.cons_inv (Dk.mp pa).2 (Dk.mp pb).2]
def bV{c:LS}{a b:Str}(ha:a∈c)(hb:b∈c)(h:c.idxOf a=c.idxOf b):a=b:=by
 have ga:=Lw ha;rw[h,Lw hb]at ga;injection ga with ga;exact ga.symm
section
variable {ρ:RS}{n:Nat}{ds:ξ}{xs:LS}{ord:ζ}{cs:ξ}
def kF(g:Ab ρ)(gd:Ba ρ n ds)(gc:Bh ρ n xs)(L:DJ ρ xs ord cs){j k:Nat}(hj:j∈AR ρ ds xs)(hk:k∈AR ρ ds xs){p:Int}(hp:p∈ord):
  ∃(i:Nat) (z1 z2:Str) (c:LS),p=(i:Nat)/\i<n/\(ds.getD j [])[i]?≈z1/\(ds.getD k [])[i]?≈z2/\cs[i]?≈c/\z1∈c/\z2∈c/\Dc (ds.getD j []) cs p=(c.idxOf z1:Nat)/\Dc (ds.getD k []) cs p=(c.idxOf z2:Nat):=by
 obtain⟨i,hi,rfl⟩:=(P5 gc L).mp hp;obtain⟨d1,x1,c1,a1,a2,a3,a4,a5,a6,a7⟩:=Lu g gd gc L hj hi;obtain⟨d2,x2,c2,b1,b2,b3,b4,b5,b6,b7⟩:=Lu g gd gc L hk hi;rw[a3]at b3;injection b3 with b3;subst b3;refine⟨i,d1,d2,c1,Y,hi,a1,b1,a3,a5,b5,?_,?_⟩
 ·unfold Dc;rw[Yt,a6,a7]
 ·unfold Dc;rw[Yt,b6,a7]
def vp(g:Ab ρ)(gd:Ba ρ n ds)(gc:Bh ρ n xs)(L:DJ ρ xs ord cs){j k:Nat}(hj:j∈AR ρ ds xs)(hk:k∈AR ρ ds xs)(e:B5 ds ord cs j=B5 ds ord cs k):j=k:=by
 obtain⟨jl,_⟩:=FT hj;obtain⟨kl,_⟩:=FT hk;have gj:=gd.call _ (Yd (Df jl));have gk:=gd.call _ (Yd (Df kl));have e:ord.map (Dc (ds.getD j []) cs)=ord.map (Dc (ds.getD k []) cs):=e;have ed:ds.getD j []=ds.getD k []:=List.ext_getElem (gj.len.trans gk.len.symm) λi i1 i2=>by
  have hp:((i:Nat):Int)∈ord:=(P5 gc L).mpr ⟨i,by rw[<- gj.len];exact i1,Y⟩;obtain⟨i',z1,z2,c,ei,_,h1,h2,_,m1,m2,s1,s2⟩:=kF g gd gc L hj hk hp;have ei:i=i':=by omega
  subst ei;have es:=List.map_inj_left.mp e _ hp;rw[s1,s2]at es;have ez:=bV m1 m2 (by omega);rw[Yb i1]at h1;rw[Yb i2]at h2;injection h1 with h1;injection h2 with h2;rw[h1,h2,ez]
 have e1:=Df jl;have e2:=Df kl;rw[ed]at e1;exact(List.getElem?_inj jl gd.nd).mp (e1.trans e2.symm)
end
structure RN(H:Hp)(ld lu:ε)(ρ:RS)(n:Nat)(ds:ξ)(us:LV)(xs:LS)(ord:ζ)(cs:ξ):Prop where
 g:Ab ρ
 gd:Ba ρ n ds
 d24:↑ds<=24
 gc:Bh ρ n xs
 hld:H ld≈(.lst us)
 hD:B2 H ds us
 lu:Cq H lu ord cs
 ok:Fq ord cs
 is:DJ ρ xs ord cs
theorem RN.mono{H H':Hp}{ld lu:ε}{ρ:RS}{n:Nat}{ds:ξ}{us:LV}{xs:LS}{ord:ζ}{cs:ξ}(h:RN H ld lu ρ n ds us xs ord cs)(s:AA H H'):RN H' ld lu ρ n ds us xs ord cs :=
 ⟨h.g,h.gd,h.d24,h.gc,s _ _ h.hld,h.hD.mono s,h.lu.mono s,h.ok,h.is⟩
def jL:Sp:=λvs H Q _=>∃(ld lu:ε) (j k:Nat) (ρ:RS) (n:Nat) (ds:ξ) (us:LV) (xs:LS) (ord:ζ) (cs:ξ),vs=[.ref ld,.int j,.int k,.ref lu]/\RN H ld lu ρ n ds us xs ord cs/\j∈AR ρ ds xs/\k∈AR ρ ds xs /\
 ∀ H',AA H H'->Q (.bl (HT.lexLt (B5 ds ord cs j) (B5 ds ord cs k))) H'
def jO:Sp:=λvs H Q _=>∃(ld lf lu:ε) (ρ:RS) (n:Nat) (ds:ξ) (us:LV) (xs:LS) (ord:ζ) (cs:ξ),vs=[.ref ld,.ref lf,.ref lu]/\RN H ld lu ρ n ds us xs ord cs/\H lf≈(.lst ((AR ρ ds xs).map AI)) /\
 ∀ l H',H l=none->AA H H'->H' l≈(.lst ((BY ρ ds xs ord cs).map AI))->Q (.ref l) H'
abbrev lW:LS:=["deeds","one","other","lineup","place","low","high"]
abbrev Qo:LS:=["deeds","one","other","lineup"]
def iY:Ad lW Qo (AJ Ui):=by nofun
def rK(F:Def K mg "_law_ahead" Ui Qo f fd):⋯ 1 f fd Qo jL:=by
 nomatch F.fn.ok iY
 ·obtain⟨ld,lu,j,k,ρ,n,ds,us,xs,ord,cs,rfl,_⟩:=h;rfl
 ·obtain⟨ld,lu,j,k,ρ,n,ds,us,xs,ord,cs,rfl,⟨g,gd,d24,gc,hld,hD,⟨lo,ll,vs,hlu,hlo,hll,hL⟩,ok,lup⟩,hj,hk,q⟩:=h;have nd:=iY.nd;have ix:∀(i:Nat) (hi:i=5\/i=6),True:=λ_ _=>trivial
  ac_nf
  refine'⟨_,(pS (CS Bb rfl (Bn (AN (r:=Ax K) A0 (pv 3) AE (λ_ _=>rfl))) (gE 4 nd)
    (pS (sE 5 nd (AN (r:=Ax K) A0 (AN (r:=A6 K) Ak (pv 0) (pv 1) (λ_ _=>rfl)) (pv 4) (λ_ _=>rfl)))
   (pS (sE 6 nd (AN (r:=Ax K) A0 (AN (r:=A6 K) Ak (pv 0) (pv 2) (λ_ _=>rfl)) (pv 4) (λ_ _=>rfl)))
   (AG (Ae (Al Gm (pv 5) (pv 6) (Ai _)) (AG (AS (Ha Pw (Ct Yz U9 YX (XZ (U0 hr)) (AN (r:=A6 K) Ak (AN (r:=Ax K) A0 (pv 3) AE (λ_ _=>rfl)) (pv 4) (λ_ _=>rfl)) (pC (pv 5) AB)) (Ct Yz U9 YX (XZ (U0 hr)) (AN (r:=A6 K) Ak (AN (r:=Ax K) A0 (pv 3) AE (λ_ _=>rfl)) (pv 4) (λ_ _=>rfl)) (pC (pv 6) AB)) (Ai _)))) Af)))))
   (AG (AS Bg))),?_⟩
  exists let b:=_;let c:=HP _ b _;let e:=AF _ c;let f:=AF _ e;AF (Es _ _ f) a _ _ _
  have few:=ok.few;obtain⟨jl,_⟩:=FT hj;obtain⟨kl,_⟩:=FT hk;obtain⟨tj,aj,htj⟩:=Ke hD (AA.refl _) jl;obtain⟨tk,ak,htk⟩:=Ke hD (AA.refl _) kl;let EM:NW:=λi σ H'=>∃(x4 x5 x6:OV),σ=[↥(.ref ld),↥(.int j),↥(.int k),↥(.ref lu),x4,x5,x6]/\AA H H'/\HT.lexLt (B5 ds ord cs j) (B5 ds ord cs k)=HT.lexLt ((B5 ds ord cs j).drop i) ((B5 ds ord cs k).drop i);refine⟨Z,lu,Q,Z,Y,AH.of hlu,Y,lo,Y,⟨_,SqL.of hlo⟩,C3 (B4 (xs:=ord.map V.int)) EM
   ⟨none,none,none,Y,AA.refl _,Y⟩ (λi σ H' _ h0=>by obtain⟨_,_,_,_,s',_⟩:=h0;exact SqL.of (s' _ _ hlo)) ?_ ?_⟩
  ·rintro i v σ H' hi ⟨x4,x5,x6,rfl,s',he⟩;obtain⟨p,hp,rfl⟩:=Ki hi;obtain⟨i',z1,z2,c,rfl,_,h1,h2,hc,m1,m2,e1,e2⟩:=kF g gd gc lup hj hk (Yd hp);have k1:(B5 ds ord cs j)[i]?≈((c.idxOf z1:Nat):Int):=by rw[<- e1];show(ord.map _)[i]?=_;rw[Yh,hp];rfl
   have k2:(B5 ds ord cs k)[i]?≈((c.idxOf z2:Nat):Int):=by rw[<- e2];show(ord.map _)[i]?=_;rw[Yh,hp];rfl
   rw[HT.lex_drop k1 k2]at he;have KI:BC ((ds.getD j []).map V.str) ((i':Nat):Int)≈(.str z1):=Dx (Kq _) (by rw[Yt,Yh,h1];rfl);have at2:BC ((ds.getD k []).map V.str) ((i':Nat):Int)≈(.str z2):=Dx (Kq _) (by rw[Yt,Yh,h2];rfl);refine⟨Z,Z,ld,Q,Z,Y,SqL.of (s' _ _ hld),aj,Z,tj,Q,Z,Y,AH.of (s' _ _ htj),KI,?_⟩;refine⟨Z,Z,ld,Q,Z,Y,SqL.of (s' _ _ hld),ak,Z,tk,Q,Z,Y,AH.of (s' _ _ htk),at2,?_⟩;refine⟨Z,Z,Y,Z,?_⟩;have ez:decide (V.str z1=V.str z2)=decide (z1=z2):=Kz.mpr ⟨λq=>by injection q,λq=>by rw[q]⟩;rw[ez];by_cases z:z1=z2
   ·rw[Jb z];rw[if_pos (by rw[z])]at he;exact Ap ⟨Q,Z,s',he⟩
   ·rw[Jc z];rw[if_neg (λq=>z (bV m1 m2 (by omega)))]at he;obtain⟨tc,htc,hcc⟩:=bq (hL.mono s') hc;obtain⟨cok,clen⟩:=ok.txt c (Yd hc);have J2:BC vs ((i':Nat):Int)≈(.ref tc):=Dx (Kq _) (by rw[Yt];exact htc);have el:(c.map W.Dat.str).all (W.kqdOk 8)=true:=by
     rw[Bv];intro e he;obtain⟨y,hy,rfl⟩:=Yk.mp he;exact(cok y hy)
    have bef:∀ {z:Str},∀ m e,m<c.idxOf z->(c.map W.Dat.str)[m]?≈e->C8 e (.str z)=false:=λm e hm he=>by
     obtain⟨y,hy,rfl⟩:=Ki he;exact IV λq=>gO hm hy (by injection q)
    refine CG ⟨Z,lu,Q,Z,Y,AH.of (s' _ _ hlu),Y,Z,ll,Q,Z,Y,SqL.of (s' _ _ hll),J2,.inl ⟨Y,_,SqL.of hcc⟩,Z,_,.str z1,_,c.idxOf z1,.str z1,Y,.list (SqL.of hcc) (Gv _),.str _,el,(cok z1 m1),O,by rw[Yh,Lw m1];rfl,Ey _,bef,?_⟩;refine⟨Z,lu,Q,Z,Y,AH.of (s' _ _ hlu),Y,Z,ll,Q,Z,Y,SqL.of (s' _ _ hll),J2,.inl ⟨Y,_,SqL.of hcc⟩,Z,_,.str z2,_,c.idxOf z2,.str z2,Y,.list (SqL.of hcc) (Gv _),.str _,el,(cok z2 m2),O,by rw[Yh,Lw m2];rfl,Ey _,bef,_,Z,Y,?_⟩;have:=q H' s';rw[he]at this;exact this
  ·rintro σ H' ⟨x4,x5,x6,rfl,s',he⟩;have:=q H' s';rw[he,Ya]at this;rw[RA (by show↑(ord.map _)<=_;rw[Ya];exact Yf _),RA (by show↑(ord.map _)<=_;rw[Ya];exact Yf _)]at this;exact this
def vk{κ:Nat->ζ}{R:LN}{m k:Nat}(pw:R.Pairwise λa b=>HT.lexLt (κ a) (κ b)=true)(lo:∀ a∈R.take m,HT.lexLt (κ a) (κ k)=true)(hi:∀ b∈R.drop m,HT.lexLt (κ k) (κ b)=true):(R.take m++k :: R.drop m).Pairwise λa b=>HT.lexLt (κ a) (κ b)=true:=by
 have p2:(R.take m++R.drop m).Pairwise λa b=>HT.lexLt (κ a) (κ b)=true:=by rw[MS];exact pw
 obtain⟨pa,pb,pab⟩:=List.pairwise_append.mp p2;refine List.pairwise_append.mpr ⟨pa,Dk.mpr ⟨hi,pb⟩,λa ha b hb=>?_⟩
 rcases Yl.mp hb with rfl | hb
 ·exact lo a ha
 ·exact pab a ha b hb
def vj{κ:Nat->ζ}{R:LN}{m k:Nat}(pw:R.Pairwise λa b=>HT.lexLt (κ a) (κ b)=true)(h:∀ b,R[m]?≈b->HT.lexLt (κ k) (κ b)=true):∀ b∈R.drop m,HT.lexLt (κ k) (κ b)=true:=by
 intro b hb;by_cases hm:m<↑R
 ·rw[RE hm]at hb;have h0:=h _ (Yb hm)
  rcases Yl.mp hb with rfl | hb
  ·exact h0
  ·have p2:(R.drop m).Pairwise λa b=>HT.lexLt (κ a) (κ b)=true:=pw.sublist (List.drop_sublist _ _);rw[RE hm]at p2;exact TX _ _ _ h0 ((Dk.mp p2).1 b hb)
 ·rw[RA (by omega)]at hb;cases hb
def oG{R L:LN}{m k:Nat}(p:R.Perm L):(R.take m++k :: R.drop m).Perm (L++[k]):=by
 refine VC.trans ?_;rw[MS];exact(List.Perm.cons _ p).trans (List.perm_append_singleton _ _).symm
def pV{R:LN}{m:Nat}{b:Nat}{Pr:Nat->Prop}(h:∀ a∈R.take m,Pr a)(hb:R[m]?≈b)(pb:Pr b):∀ a∈R.take (m + 1),Pr a:=by
 intro a ha;rw[Ce,hb]at ha
 rcases Yp.mp ha with z | z
 ·exact h a z
 ·cases z with
  | head=>exact pb
  | tail _ z=>cases z
abbrev lS:LS:=["deeds","fits","lineup","row","number","at"]
abbrev Qq:LS:=["deeds","fits","lineup"]
def jC:Ad lS Qq (AJ Ug):=by nofun
def tO(F:Def K mg "_law_ranked" Ug Qq f fd)(len:mg "len"=none)(DA:Def K mg "_law_ahead" Ui Qo fA fdA)(GA:⋯ 1 fA fdA Qo jL):⋯ 2 f fd Qq jO:=by
 nomatch F.fn.ok jC
 ·obtain⟨ld,lf,lu,ρ,n,ds,us,xs,ord,cs,rfl,_⟩:=h;rfl
 ·obtain⟨ld,lf,lu,ρ,n,ds,us,xs,ord,cs,rfl,rk,hlf,q⟩:=h;have nd:=jC.nd;have fl:=QK ρ ds xs;have d24:=rk.d24
  ac_nf
  refine'⟨_,(pS (sE 3 nd (CI AB))
   (pS (CS Bb rfl (Bn (pv 1)) (gE 4 nd)
    (pS (sE 5 nd AE)
   (pS (Kg Bb (PW.pt (Te (Al Pw (pv 5) (Aa B9 (by rfl) len Yy (pC (pv 3) AB)) (Ai _)) (Tx (BZ (AO DA GA hr (pC (pv 0) (pC (AN (r:=A6 K) Ak (pv 3) (pv 5) (λ_ _=>rfl)) (pC (pv 4) (pC (pv 2) AB)))))))))
     (AG (sE 5 nd (Aj F2 (pv 5) AE))))
   (AG (B8 (Ct Yz PySem.F.slot_list_insert PySem.F.type_list_insert eW (pv 3) (pC (pv 5) (pC (pv 4) AB))))))))
   (AG (AS (pv 3))))),?_⟩
  exists let b:=_;let c:=_;let e:=AF (Lp _ c) b;let f:=AF _ e;let g:=AF (Es _ _ f) a;AF _ g _ _ _
  refine⟨BE _,λlr hlr=>?_⟩;have s1:AA H (upd H lr (.lst [])):=Am hlr;have BB:(upd H lr (.lst [])) lr≈(.lst []):=uS;generalize upd H lr (.lst [])=H1 at s1 BB;have lfr:lf≠lr:=AK hlf hlr;let EM:NW:=λi σ H'=>∃(R:LN) (x4 x5:OV),σ=[↥(.ref ld),↥(.ref lf),↥(.ref lu),↥(.ref lr),x4,x5]/\AA H H'/\H' lr≈(.lst (R.map AI))/\R.Perm ((AR ρ ds xs).take i)/\R.Pairwise (λa b=>HT.lexLt (B5 ds ord cs a) (B5 ds ord cs b)=true);refine⟨Z,lf,Y,⟨_,SqL.of (s1 _ _ hlf)⟩,C3 (B4 (xs:=(AR ρ ds xs).map AI)) EM
   ⟨[],none,none,Y,s1,BB,Kt _,.nil⟩ (λi σ H' _ h0=>by obtain⟨_,_,_,_,s',_⟩:=h0;exact SqL.of (s' _ _ hlf)) ?_ ?_⟩
  ·rintro i v σ H' hi ⟨R,x4,x5,rfl,s',hR,pR,pw⟩;obtain⟨k,hk,rfl⟩:=bx hi;have hkf:=Yd hk;have inR:∀ a∈R,a∈AR ρ ds xs:=λa ha=>Kw (pR.mem_iff.mp ha);have knR:k∉R:=λh=>by
    have ht:=pR.mem_iff.mp h;obtain⟨j,hj,e⟩:=Kx.mp ht;rw[BU]at hj;rw[Oa]at e;obtain⟨CY,ei⟩:=Ye.mp hk;exact Jp.mp (Ea.mp (Kb ρ ds xs)) j i (by omega) CY (by omega) (e.trans ei.symm)
   have Rl:↑R<=24:=by rw[pR.length_eq,BU];omega
   let E5:NW:=λm σ H'=>∃(at':Nat),σ=[↥(.ref ld),↥(.ref lf),↥(.ref lu),↥(.ref lr),↥(.int (k:Nat)),↥(.int (at':Nat))]/\AA H H'/\H' lr≈(.lst (R.map AI))/\at'<=↑R/\(∀ a∈R.take at',HT.lexLt (B5 ds ord cs a) (B5 ds ord cs k)=true)/\m=↑R - at';refine⟨E5,
    ⟨_,0,Y,s',hR,BE _,(λa h=>by rw[Ik]at h;cases h),Y⟩,?_⟩
   rintro m σ H2 ⟨at',rfl,s2,IG,le,lo,rfl⟩;refine⟨Z,Z,lr,Z,.inl (SqL.of IG),_,Z,Y,Z,?_⟩;have fin:∀ H3,AA H H3->H3 lr≈(.lst (R.map AI))->(∀ b,R[at']?≈b->HT.lexLt (B5 ds ord cs k) (B5 ds ord cs b)=true)->∃(R':LN),(R.map AI).take at'++AI k :: (R.map AI).drop at'=R'.map AI/\R'.Perm ((AR ρ ds xs).take (i + 1))/\R'.Pairwise (λa b=>HT.lexLt (B5 ds ord cs a) (B5 ds ord cs b)=true):=λH3 s3 h3 hb=>by
    refine⟨R.take at'++k :: R.drop at',by rw[BP,Yr,Oc,List.map_drop],?_,vk pw lo (vj pw hb)⟩;rw[Ce,hk];exact oG pR
   by_cases hm:at'<↑R
   ·rw[show decide (((at':Nat):Int)<((↑(R.map AI):Nat):Int))=true from Jb (by rw[Ya];omega)];have gm:=Yb hm;generalize R[at']=b at gm;have hbR:=Yd gm;have hat:BC (R.map AI) ((at':Nat):Int)≈(AI b):=Dx (Kq _) (by rw[Yt,Yh,gm];rfl);refine CG ⟨Z,Z,Z,lr,Q,Z,Y,SqL.of IG,hat,Z,Z,ld,lu,b,k,ρ,n,ds,us,xs,ord,cs,Y,rk.mono s2,inR b hbR,hkf,λH3 s3=>⟨Z,?_⟩⟩;have S6:=s3 _ _ IG;have A4:=s2.trans s3;cases hx:HT.lexLt (B5 ds ord cs b) (B5 ds ord cs k)with
    | true =>
     let Hj:SW:=λσ' H'=>∃ m',m'<↑R - at'/\∃(at':Nat),σ'=[↥(.ref ld),↥(.ref lf),↥(.ref lu),↥(.ref lr),↥(.int (k:Nat)),↥(.int (at':Nat))]/\AA H H'/\H' lr≈(.lst (R.map AI))/\at'<=↑R/\(∀ a∈R.take at',HT.lexLt (B5 ds ord cs a) (B5 ds ord cs k)=true)/\m'=↑R - at';refine CG ⟨Hj,λ_ _ h=>h,?_⟩;exact⟨Z,_,Z,Y,_,W,at' + 1,Y,A4,S6,hm,pV lo gm hx,Y⟩
    | false =>
     refine Ap ?_;have hb:∀ b',R[at']?≈b'->HT.lexLt (B5 ds ord cs k) (B5 ds ord cs b')=true:=λb' h'=>by
      rw[gm]at h';injection h' with h';subst h';cases hy:HT.lexLt (B5 ds ord cs k) (B5 ds ord cs b)with
      | true=>rfl
      | false=>exact absurd (vp rk.g rk.gd rk.gc rk.is (inR b hbR) hkf (Ts _ _ hx hy)) λz=>knR (z ▸ hbR)
     obtain⟨R',e',p',w'⟩:=fin H3 A4 S6 hb;refine⟨Z,.inl ⟨Y,_,SqL.of S6⟩,Z,Z,lr,Q,Z,Y,S6,Kq _,O,B_ (by rw[Ya];omega),?_⟩;refine⟨R',_,Z,λc u e=>by rw[AD (AK e hlr)];exact A4 _ _ e,?_,p',w'⟩;rw[uS,Yt];exact congrArg (λz=>↥(HO.lst z)) e'
   ·rw[show decide (((at':Nat):Int)<((↑(R.map AI):Nat):Int))=false from Jc (by rw[Ya];omega)];obtain⟨R',e',p',w'⟩:=fin H2 s2 IG (λb h=>by rw[E2 (by omega)]at h;cases h);refine Ap (Ap ?_);refine⟨Z,.inl ⟨Y,_,SqL.of IG⟩,Z,Z,lr,Q,Z,Y,IG,Kq _,O,B_ (by rw[Ya];omega),?_⟩;refine⟨R',_,Z,λc u e=>by rw[AD (AK e hlr)];exact s2 _ _ e,?_,p',w'⟩;rw[uS,Yt];exact congrArg (λz=>↥(HO.lst z)) e'
  ·rintro σ H' ⟨R,x4,x5,rfl,s',hR,pR,pw⟩;rw[Ya,Dy]at pR;have e:R=BY ρ ds xs ord cs:=eu (κ:=B5 ds ord cs) (pR.trans (Kj ρ ds xs ord cs).symm) pw (Wy ρ ds xs ord cs);rw[e]at hR;exact⟨Z,q lr H' hlr s' hR⟩
def jN:Sp:=λvs H Q _=>∃(a l:ε) (ρ:RS) (AL:KL) (x:Str) (ls:LS),vs=[.ref a,.str x,.ref l]/\Ab ρ/\H a≈(.dK AL)/\CH H ρ ρ AL/\x∈ρ.map (·.1)/\H l≈(.lst (ls.map V.str))/\(∀ z∈ls,PyData.strOk z=true)/\↑ls<64/\∀ v H',AA H H'->(v=true↔Fw ρ x ls)->Q (.bl v) H'
abbrev Z7:LS:=["above","word","line","k"]
def jB:Ad Z7 ["above","word","line"] (AJ Qh):=by nofun
def yQ:(["high","above","line","k"]:LS).Nodup:=by rfl'
def wK(F:Def K mg "_law_is_line" Qh ["above","word","line"] f fd)(srt:mg "sorted"=none)(any:mg "any"=none)(range:mg "range"=none)(len:mg "len"=none):⋯ 1 f fd ["above","word","line"] jN:=by
 nomatch F.fn.ok jB
 ·obtain⟨a,l,ρ,AL,x,ls,rfl,_⟩:=h;rfl
 ·obtain⟨a,l,ρ,AL,x,ls,rfl,g,ha,hA,hx,hl,lok,Dq,q⟩:=h;have nd:=jB.nd;have hu:=hr.units;have BR:=Fy hr
  ac_nf
  refine'⟨_,(pS (Ae (Al (IT hu) (Aa UK (by rfl) srt Od (pC (pv 2) AB)) (Aa UK (by rfl) srt Od (pC (JS BR (pv 0) (pv 1) (λ_ _=>rfl)) AB)) (Ai _)) (AG (AS Bg)) Af)
   (pS (CS Bb rfl (Gu (by rfl) range (pC (Aa B9 (by rfl) len Yy (pC (pv 2) AB)) AB)) (Az (i:=3) nd rfl (Or.inr rfl))
    (AG (Ae (BZ (Aa (r:=HM K λbs=>bs.any id) (QJ rfl) (by rfl) any Qx (pC ?e1 AB))) (AG (AS Bg)) Af)))
   (AG (AS Bg)))),?_⟩
  case e1=>exact(BO ["high"] ["above","line","k"] [0,2,3] (λ_=>A3 (osc:=AJ Qh) (on:=Z7) (by rfl') rfl rfl rfl) (Bn (Ic (r:=U2 K) Tz (pv 2) IZ (Ia (pv 3)))) (λC s H fp=>Az (i:=0) yQ rfl (Or.inl rfl) (Or.inr rfl)) (λC s H fp=>Br)
    (λC s H fp=>Ha (r:=Sd K false) UH (pv 0) (JS BR (pv 1) (AN (r:=A6 K) Ak (pv 2) (pv 3) (λ_ _=>rfl)) (λ_ _=>rfl)) (by with_unfolding_all rfl)))
  exists let b:=_;let c:=AF (Es _ _ b) a;AF _ c _ _ _
  obtain⟨r0,HE,nZ⟩:=Gw hx;obtain⟨t0,fs,B6,LP,aS,_,fnd⟩:=hA.val' g.nd HE;rw[nZ]at B6 aS;have fp:=xV g hx aS fnd;have fle:↑fs<=24:=by rw[fp.length_eq];exact Nt g x
  refine⟨Z,l,ls,Y,SqL.of hl,Dq,λs1 l1 p1 o1 Bd=>?_⟩;have Iv:AA H (upd H l1 (.lst (s1.map V.str))):=Am Bd;have BB:(upd H l1 (.lst (s1.map V.str))) l1≈(.lst (s1.map V.str)):=uS;generalize upd H l1 (.lst (s1.map V.str))=H1 at Iv BB;refine⟨Z,Z,a,Z,(by rw[<- B6];exact Bk.k (k:=Sum.inr x) (Iv _ _ ha)),t0,fs,Y,SqL.of (Iv _ _ LP),W,λs2 l3 p3 o3 Ck=>?_⟩;have M7:AA H1 (upd H1 l3 (.lst (s2.map V.str))):=Am Ck;have Cz:(upd H1 l3 (.lst (s2.map V.str))) l3≈(.lst (s2.map V.str)):=uS;generalize upd H1 l3 (.lst (s2.map V.str))=H3 at M7 Cz;have A4:=Iv.trans M7;have ok1:∀ z∈s1,PyData.strOk z=true:=λz hz=>lok z (p1.mem_iff.mp hz);have Vg:∀ z∈s2,PyData.strOk z=true:=λz hz=>by
   obtain⟨r,As,e⟩:=Yk.mp (Ih (fp.mem_iff.mp (p3.mem_iff.mp hz)));rw[<- e];exact QG (g.word r As)
  refine⟨.list (s1.map W.Dat.str),.list (s2.map W.Dat.str),.list (SqL.of (M7 _ _ BB)) (Gv _),.list (SqL.of Cz) (Gv _),T8 ok1,T8 Vg,Z,?_⟩;by_cases hp:ls.Perm (Au ρ x)
  ·have En:s1=s2:=g6 o1 o3 (p1.trans (hp.trans (fp.symm.trans p3.symm)));rw[En,Ey];have kn:∀ z∈ls,z∈ρ.map (·.1):=λz hz=>Ih (hp.mem_iff.mp hz);let EM:NW:=λi σ H'=>∃ x3:OV,σ=[↥(.ref a),↥(.str x),↥(.ref l),x3]/\AA H H'/\∀ k c b,k<i->ls[k]?≈c->b∈ls.take k->¬ Graph.Reach (An ρ) c b;refine Ap ⟨Z,l,Z,.inl (SqL.of (A4 _ _ hl)),Z,W,O,C3 Gx EM
    ⟨none,Y,A4,λk _ _ h=>absurd h (Nat.not_lt_zero _)⟩ (λ_ _ _ _ _=>trivial) ?_ ?_⟩
   ·rintro i v σ H4 hi ⟨x3,rfl,s4,ah⟩;obtain⟨DY,rfl⟩:=EH hi;rw[Ya]at DY;have ma:i<↑ls:=by omega
    have hy:ls[i]?≈ls[i]:=Yb ma;generalize ls[i]=y at hy;have hyw:=kn y (Yd hy);have DV:=s4 _ _ hl;refine⟨Z,Z,Z,l,Z,SqL.of DV,λl5 KA=>?_⟩;dsimp only[QF]at *;rw[show Du (ls.map V.str) none (↥(0 + (i:Int)))=(ls.take i).map V.str from by rw[FV,W3,Oc]];have s5:AA H4 (upd H4 l5 (.lst ((ls.take i).map V.str))):=Am KA;have NN:(upd H4 l5 (.lst ((ls.take i).map V.str))) l5≈(.lst ((ls.take i).map V.str)):=uS;generalize upd H4 l5 (.lst ((ls.take i).map V.str))=H5 at s5 NN;refine⟨l5,Y,⟨_,SqL.of NN⟩,EG (B4 (xs:=(ls.take i).map V.str)) (sL (by rw[Ya,BU];omega)) (λ_=>true) (aR ρ y) (λH' s'=>s'.seq (SqL.of NN)) ?_ ?_ ?_⟩
    ·intro v H' R s' _ Ag;exact Ag H' (AA.refl _)
    ·intro v H' R s' hv _ Ag;obtain⟨z,hz,rfl⟩:=Yk.mp hv;have EN:=s4.trans (s5.trans s');obtain⟨r2,GJ,S9⟩:=Gw hyw;obtain⟨t2,f2,LO,Bp,hin⟩:=(hA.mono λb xs e=>EN b _ e).val g.nd GJ;rw[S9]at LO hin;refine⟨Z,Z,Z,Z,l,Q,Z,Y,SqL.of (EN _ _ hl),(by rw[FV];exact DB (by rw[Yh,hy];rfl)),a,Z,(by rw[<- LO];exact Bk.k (k:=Sum.inr y) (EN _ _ ha)),t2,Z,.inl (SqL.of Bp),Y,QU f2,?_⟩;rw[show(if false=true then !Gb (V.str z) (f2.map V.str)else Gb (V.str z) (f2.map V.str))=Av ρ y z from by rw[if_neg (by decide),Nl,eV hin]];exact Ag H' (AA.refl _)
    ·intro D3 H6 JL s6 PY;rw[jh]at PY;refine⟨D3,Z,SqL.of PY,Z,A2 (λh=>?_) (λh=>?_)⟩
     ·have h:(((ls.take i).map λb=>Av ρ y b).any id)=true:=h;rw[F8]at h;obtain⟨c,hc,ec⟩:=h;obtain⟨z,hz,rfl⟩:=Yk.mp hc;exact q false H6 (s4.trans (s5.trans s6)) ⟨(λz=>by cases z),λlp=>absurd (EU.mp ec) (lp.2 i y z hy hz)⟩
     ·have h:¬ (((ls.take i).map λb=>Av ρ y b).any id)=true:=h;refine⟨Z,s4.trans (s5.trans s6),λk c b hk hc hb re=>?_⟩
      rcases Nat.lt_succ_iff_lt_or_eq.mp hk with z | z
      ·exact ah k c b z hc hb re
      ·subst z;rw[hy]at hc;cases hc;exact h (F8.mpr ⟨true,Yk.mpr ⟨b,hb,EU.mpr re⟩,Y⟩)
   ·rintro σ H4 ⟨x3,rfl,s4,ah⟩;refine q true H4 s4 ⟨λ_=>⟨hp,λk c b hc hb=>ah k c b ?_ hc hb⟩,λ_=>rfl⟩;rw[Cw,Ya,Yt];exact(Ye.mp hc).1
  ·have En:s1≠s2:=λe=>hp ((p1.symm.trans (e ▸ Kt _)).trans (p3.trans fp));rw[show(!C8 (.list (s1.map W.Dat.str)) (.list (s2.map W.Dat.str)))=true from by
    rw[IV (λz=>by injection z with z;exact En (eG z))];rfl]
   exact CG (q false H3 A4 ⟨(λz=>by cases z),λz=>absurd z.1 hp⟩)
def j8:Sp:=λvs H Q _=>∃(a t lu:ε) (ρ:RS) (AL:KL) (xs:LS) (ord:ζ) (cs:ξ),vs=[.ref a,.ref t,.ref lu]/\Ab ρ/\H a≈(.dK AL)/\CH H ρ ρ AL/\H t≈(.tup (xs.map V.str))/\(∀ x∈xs,x∈ρ.map (·.1))/\↑xs<=4/\Cq H lu ord cs/\Fq ord cs/\∀ v H',AA H H'->(v=true↔DJ ρ xs ord cs)->Q (.bl v) H'
abbrev MF:LS:=["above","call","lineup"]
def vN:Ad MF MF (AJ Qg):=by nofun
def wC:(["word","line","above"]:LS).Nodup:=by rfl'
def xu(F:Def K mg "_law_is_lineup" Qg MF f fd)(srt:mg "sorted"=none)(list:mg "list"=none)(range:mg "range"=none)(len:mg "len"=none)(all:mg "all"=none)(zip:mg "zip"=none)
  (DL:Def K mg "_law_is_line" Qh ["above","word","line"] fL fdL) (GL:⋯ 1 fL fdL ["above","word","line"] jN):⋯ 2 f fd MF j8:=by
 nomatch F.fn.ok vN
 ·obtain⟨a,t,lu,ρ,AL,xs,ord,cs,rfl,_⟩:=h;rfl
 ·obtain⟨a,t,lu,ρ,AL,xs,ord,cs,rfl,g,ha,hA,ht,kn,x4,hlu,lok,q⟩:=h;have hu:=hr.units
  ac_nf
  refine'⟨_,(pS (Ae (PW.pt (JO (Al (IT hu) (Aa gG (by rfl) srt Od (pC (AN (r:=Ax K) A0 (pv 2) AE (λ_ _=>rfl)) AB)) (Qc rfl (Aa B9 (by rfl) len Yy (pC (pv 1) AB)) (by rfl) list (by rfl) range) (Ai _)) (KU (Al Gm (Aa B9 (by rfl) len Yy (pC (AN (r:=Ax K) A0 (pv 2) AE (λ_ _=>rfl)) AB)) (Aa B9 (by rfl) len Yy (pC (pv 1) AB)) (Ai _))))) (AG (AS Bg)) Af)
   (AG (AS (Aa (r:=HM K λbs=>bs.all id) (Kc rfl) (by rfl) all Ky (pC ?e1 AB))))),?_⟩
  case e1=>exact(BO ["word","line"] ["above"] [0] (λ_=>A3 (osc:=AJ Qg) (on:=MF) (by rfl') rfl rfl rfl) (cK (by rfl) zip (pC (pv 1) (pC (AN (r:=Ax K) A0 (pv 2) AE (λ_ _=>rfl)) AB))) (λC s H fp=>Tc (K:=K) (i:=0) (j:=1) rfl rfl wC rfl rfl (Or.inl rfl) (Or.inl rfl) (Or.inr rfl) (Or.inr rfl)) (λC s H fp=>Br) (λC s H fp=>AO DL GL hr (pC (pv 2) (pC (pv 0) (pC (pv 1) AB)))))
  exists AF _ a _ _ _
  obtain⟨lo,ll,vs,AW,hlo,hll,hL⟩:=hlu;have few:=lok.few;have fewL:=lok.fewL;refine⟨Z,lu,Q,Z,Y,AH.of AW,Y,lo,ord,Y,SqL.of hlo,W,λns l2 pn on CO=>?_⟩;have s2:AA H (upd H l2 (.lst (ns.map V.int))):=Am CO;have CQ:(upd H l2 (.lst (ns.map V.int))) l2≈(.lst (ns.map V.int)):=uS;generalize upd H l2 (.lst (ns.map V.int))=H2 at s2 CQ;refine⟨Z,t,Z,.inr (AH.of (s2 _ _ ht)),Z,W,O,λl3 Ck=>?_⟩;rw[Ya,Yt,T_];have s3:AA H2 (upd H2 l3 (.lst ((Ah ↑xs).map V.int))):=Am Ck;have Cz:(upd H2 l3 (.lst ((Ah ↑xs).map V.int))) l3≈(.lst ((Ah ↑xs).map V.int)):=uS;generalize upd H2 l3 (.lst ((Ah ↑xs).map V.int))=H3 at s3 Cz;have A4:=s2.trans s3;refine⟨.list (ns.map W.Dat.int),.list ((Ah ↑xs).map W.Dat.int),.list (SqL.of (s3 _ _ CQ)) (N1 _),.list (SqL.of Cz) (N1 _),Tt _,Tt _,Z,?_⟩;by_cases hp:ord.Perm (Ah ↑xs)
  ·have En:ns=Ah ↑xs:=Xj on (fG _) (pn.trans hp);rw[En,Ey];have C5:=A4 _ _ hll;have E_:=A4 _ _ AW;have IC:=A4 _ _ ht;have vl:=A_ hL;refine Ap ⟨Z,lu,Q,Z,Y,AH.of E_,Y,ll,Z,.inl (SqL.of C5),Z,t,Z,.inr (AH.of IC),Y,Z,?_⟩;rw[Ya];by_cases hc:↑cs=↑xs
   ·rw[show(!decide (V.int ((↑vs:Nat):Int)=V.int ((↑xs:Nat):Int)))=false from by rw[<- vl,hc,Jb rfl];rfl];refine Ap ⟨Z,Z,lu,Q,Z,Y,AH.of E_,Y,t,ll,_,Z,AH.of IC,SqL.of C5,XG (by rw[Ol,Ya];exact sL (by omega)) (λ_=>true) (λ_ pr v _=>∃ b,v=.bl b/\(b=true↔∀(x:Str) (c:LS),pr.1=.str x->(∃ t,pr.2=.ref t/\H t≈(.lst (c.map V.str)))->Fw ρ x c)) (λ_ _ _ _ _ _ h=>h) (λH' s'=>⟨AH.of (s' _ _ IC),SqL.of (s' _ _ C5)⟩) ?_ ?_ ?_⟩
    ·intro pr H' R s' _ Ag;exact Ag H' (AA.refl _)
    ·intro D pr H' R s' _ _ hpr _ Ag;obtain⟨i,hi⟩:=D0 hpr;obtain⟨NF,Bz⟩:=QP hi;obtain⟨x,hx,ex⟩:=Ls NF;obtain⟨c,hcc,tc,ec,htc⟩:=B3 hL Bz;obtain⟨cok,clen⟩:=lok.txt c (Yd hcc);have EN:=A4.trans s';rw[ex,ec];refine⟨Z,Z,Z,a,tc,ρ,AL,x,c,Y,g,EN _ _ ha,hA.mono λb xs e=>EN _ _ e,kn x (Yd hx),EN _ _ htc,(λz hz=>(cok z hz)),clen,λv BL By hv=>Ag _ BL By ⟨v,Y,?_⟩⟩;rw[hv];constructor
     ·intro z x' c' e1 ⟨t',e2,e3⟩;rw[ex]at e1;cases e1;rw[ec]at e2;cases e2;rw[htc]at e3;have:c.map V.str=c'.map V.str:=by
       injection e3 with e3;injection e3
      rw[<- XU this];exact z
     ·intro z;exact z x c ex ⟨tc,ec,htc⟩
    ·intro D H4 ys hD s4 DV pr;rw[G5.mpr (λ_ _=>rfl)]at pr;obtain⟨bs,eb,pb⟩:=Wz pr;rw[eb]at DV;refine⟨D,bs,Y,SqL.of DV,?_⟩;refine q _ H4 (A4.trans s4) ?_;have lp:=Xe (ρ:=ρ) hL (by omega) pb;show bs.all id=true↔_;rw[lp];exact⟨λz=>⟨hp,hc,z⟩,λz=>z.line⟩
   ·rw[show(!decide (V.int ((↑vs:Nat):Int)=V.int ((↑xs:Nat):Int)))=true from by rw[Jc (λz=>by injection z with z;omega)];rfl];exact CG (q false H3 A4 ⟨(λz=>by cases z),λz=>absurd z.len hc⟩)
  ·have En:ns≠Ah ↑xs:=λe=>hp (pn.symm.trans (e ▸ Kt _));rw[show(!C8 (.list (ns.map W.Dat.int)) (.list ((Ah ↑xs).map W.Dat.int)))=true from by
    rw[IV (λz=>by injection z with z;exact En (dg z))];rfl]
   exact CG (q false H3 A4 ⟨(λz=>by cases z),λz=>absurd z.ord hp⟩)
def Xq{x:Str}(h:BD x=true):Et x:=by
 unfold BD at h;rw[EI,Bv]at h;have l:=Je h.1;refine⟨W,λc hc=>?_⟩;have:=h.2 c hc;unfold HU at this;simp only[EI,decide_eq_true_eq]at this;have e:(16:Nat) ^ 8=4294967296:=by decide
 omega
def eC:Sp:=λvs H Q _=>∃(p lw:ε) (ws:LS),vs=[.ref p,.ref lw]/\(∃ o,H p≈o/\Er o)/\H lw≈(.lst (ws.map V.str))/\P9 ws/\↑ws<=24/\∀ x H',Drawn p H H'->Et x->x∉ws->Q (.str x) H'
def kH{x:Str}{c:Nat}(hc:c∈x.cps.toList)(h:HU c=false):BD x=false:=by
 cases z:BD x with
 | false=>rfl
 | true =>
  have:=((Kl x).mp z).2 c hc;rw[h]at this;cases this
def Wf(a b:Str):(a++b).cps.toList=a.cps.toList++b.cps.toList:=Array.toList_append
def eJ{a b:Str}(ha:Et a)(la:↑a<=8)(hb:Et b)(lb:↑b<=1):Et (a++b):=by
 have e:↑(a++b)=↑a + ↑b:=by
  show(a.cps++b.cps).size=_;rw[Array.size_append];rfl
 refine⟨W,λc hc=>?_⟩;rw[Wf]at hc
 rcases Yp.mp hc with z | z
 ·exact ha.2 c z
 ·exact hb.2 c z
instance (x:Str):Decidable (Et x):=by unfold Et;infer_instance
abbrev lP:LS:=["pot","words","word"]
def iu:Ad lP ["pot","words"] (AJ Us):=by nofun
def sR(F:Def K mg "_law_no_word" Us ["pot","words"] f fd)(DT:Def K mg "_law_take" Hf ["pot","many"] fT fdT)(GT:⋯ 1 fT fdT ["pot","many"] KY)(DW:Def K mg "_law_word" F5 ["pot","words"] fW fdW)(GW:⋯ 2 fW fdW ["pot","words"] Wa):⋯ 3 f fd ["pot","words"] eC:=by
 nomatch F.fn.ok iu
 ·obtain⟨p,lw,ws,rfl,_⟩:=h;rfl
 ·obtain⟨p,lw,ws,rfl,⟨o,hp,ho⟩,hw,wok,wle,q⟩:=h;have nd:=iu.nd;have Ac:AV 1 _:=hr.mono (by decide);refine⟨_,(pS (sE 2 nd (AO DW GW hr (pC (pv 0) (pC (pv 1) AB))))
   (AG (AS (AN (r:=A6 K) Ak (CI (pC (pv 2) (pC FQ (pC (Aj UO (pv 2) FQ) (pC FQ (pC (Aj UO (Ic Wc (pv 2) IZ (Ia AE)) FQ) AB)))))) (AO DT GT Ac (pC (pv 0) (pC AE AB))) (λ_ _=>rfl))))),?_⟩
  have pw:p≠lw:=KR hp ho hw;refine⟨Z,Z,p,lw,ws,Y,pw,⟨o,hp,ho⟩,hw,wok,wle,λx H1 d1 wx nx=>?_⟩;obtain⟨o1,Eh,DQ⟩:=id d1.pot;have sx:=Xq wx;have xl:=(QO wx).2;have s7:Et (Txt.slice x none (↥7)):=by
   have e:=UQ x 7 (by decide);refine⟨?_,λc hc=>?_⟩
   ·have:(Txt.slice x none (↥7)).cps.toList.length<=7:=by rw[e,BU];exact Nat.min_le_left _ _
    rw[Ib]at this;omega
   ·rw[e]at hc;exact sx.2 c (Kw hc)
  have l7:↑(Txt.slice x none (↥7))<=7:=by
   have e:=UQ x 7 (by decide);have:(Txt.slice x none (↥7)).cps.toList.length<=7:=by rw[e,BU];exact Nat.min_le_left _ _
   rwa [Ib]at this
  refine⟨Z,Z,_,Z,Y,sL (by show _ + 1<=100000;omega),Z,Z,x,Y,sL (by omega),_,Z,Y,sL (by show _ + 1<=100000;omega),sL (by show 5<=100000;decide),λl2 CO=>?_⟩;obtain⟨opts,eo⟩:∃ opts:LS,opts=[x,"",x++" ","A",Txt.slice x none (↥7)++"-"]:=⟨Z⟩;have s2:=Am (o:=.lst [.str x,.str "",.str (x++" "),.str "A",.str (Txt.slice x none (↥7)++"-")]) CO;have CQ:(upd H1 l2 (.lst [.str x,.str "",.str (x++" "),.str "A",.str (Txt.slice x none (↥7)++"-")])) l2≈(.lst (opts.map V.str)):=by rw[uS,eo];rfl
  generalize upd H1 l2 (.lst [.str x,.str "",.str (x++" "),.str "A",.str (Txt.slice x none (↥7)++"-")])=H2 at s2 CQ;have Eg:=s2 _ _ Eh;refine⟨Z,p,5,o1,Y,Eg,DQ,V,V,λv o3 v0 v1 Ff=>?_⟩;have d3:Drawn p H2 (upd H2 p o3):=Drawn.upd Ff;obtain⟨z,hz,hat⟩:=N_ (ws:=opts) v0 (by rw[eo];show v<5;exact v1);have l9:l2≠p:=Yx (KR Eg DQ CQ);have nw:∀ {y:Str},BD y=false->y∉ws:=λ{y} h hm=>by
   rw[wok.word y hm]at h;cases h
  have key:Et z/\z∉ws:=by
   rw[eo]at hz
   rcases Yl.mp hz with c | hz
   ·rw[c];exact⟨sx,nx⟩
   rcases Yl.mp hz with c | hz
   ·rw[c];exact⟨by rfl',nw (by rfl')⟩
   rcases Yl.mp hz with c | hz
   ·rw[c];exact⟨eJ sx xl (by rfl') (by rfl'),nw (kH (c:=32) (by rw[Wf];exact Yp.mpr (.inr (by rfl'))) (by decide))⟩
   rcases Yl.mp hz with c | hz
   ·rw[c];exact⟨by rfl',nw (by rfl')⟩
   ·rw[Yi.mp hz];exact⟨eJ s7 (by omega) (by rfl') (by rfl'),nw (kH (c:=45) (by rw[Wf];exact Yp.mpr (.inr (by rfl'))) (by decide))⟩
  exact⟨l2,Q,Z,Y,SqL.of (d3.keep _ _ l9 CQ),hat,q z _ ((d1.same s2).trans d3) key.1 key.2⟩
def qI(xs:LV)(h:xs≠[]):Du xs none (↥(-1))=xs.dropLast:=by
 have hl:0<↑xs:=ML.mpr h;unfold Du;rw[HT.sIx_none,List.drop_zero,Nat.sub_zero];have e:HT.sIx ↑xs ↑xs (↥(-1))=↑xs - 1:=by
  show(if(-1:Int)<0 then((-1:Int) + (↑xs:Int)).toNat else min (-1:Int).toNat ↑xs)=_;rw[if_pos (by decide)];omega
 rw[e,List.dropLast_eq_take]
def XF{ρ:RS}{n:Nat}{xs:LS}(h:↑xs≠n):Fx ρ n xs=false:=by
 unfold Fx;rw[Jc h];rfl
def qY{ρ:RS}{n:Nat}{xs:LS}{y:Str}(hy:y∈xs)(ny:y∉ρ.map (·.1)):Fx ρ n xs=false:=by
 unfold Fx;rw[Bool.and_eq_false_iff];refine .inr (List.all_eq_false.mpr ⟨y,hy,?_⟩);rw[Jc ny];decide
def d_:Sp:=λvs H Q _=>∃(p lw t:ε) (ρ:RS) (n:Nat) (xs:LS),vs=[.ref p,.ref lw,.ref t]/\(∃ o,H p≈o/\Er o)/\Ab ρ/\H lw≈(.lst ((ρ.map (·.1)).map V.str))/\H t≈(.tup (xs.map V.str))/\Bh ρ n xs/\1<=n/\n<=4 /\
 ∀ t' (ys:LS) H',Drawn p H H'->H' t'≈(.tup (ys.map V.str))->Fx ρ n ys=false->↑ys<=100->(∀ y∈ys,Et y)->Q (.ref t') H'
abbrev lQ:LS:=["pot","words","call","way","at","word"]
def iq:Ad lQ ["pot","words","call"] (AJ Ur):=by nofun
def tQ(F:Def K mg "_law_no_call" Ur ["pot","words","call"] f fd)(len:mg "len"=none)(DT:Def K mg "_law_take" Hf ["pot","many"] fT fdT)(GT:⋯ 1 fT fdT ["pot","many"] KY)
  (DN:Def K mg "_law_no_word" Us ["pot","words"] fN fdN) (GN:⋯ 3 fN fdN ["pot","words"] eC):⋯ 4 f fd ["pot","words","call"] d_:=by
 nomatch F.fn.ok iq
 ·obtain⟨p,lw,t,ρ,n,xs,rfl,_⟩:=h;rfl
 ·obtain⟨p,lw,t,ρ,n,xs,rfl,⟨o,hp,ho⟩,g,hw,ht,gc,n1,n4,q⟩:=h;have nd:=iq.nd;have Ac:AV 1 _:=hr.mono (by decide)
  ac_nf
  refine'⟨_,(pS (sE 3 nd (AO DT GT Ac (pC (pv 0) (pC AE AB))))
   (pS (sE 4 nd (AO DT GT Ac (pC (pv 0) (pC (Aa B9 (by rfl) len Yy (pC (pv 2) AB)) AB))))
   (pS (sE 5 nd (AN (r:=A6 K) Ak (pv 1) (AO DT GT Ac (pC (pv 0) (pC (Aa B9 (by rfl) len Yy (pC (pv 1) AB)) AB))) (λ_ _=>rfl)))
   (pS (Ae (Al Cs (pv 3) AE (Ai _)) (AG (AS (Ic (r:=Qv K) Wm (pv 2) IZ (Ia (vF xE AE))))) Af)
   (pS (Ae (Al Cs (pv 3) AE (Ai _)) (AG (AS (Aj Wr (pv 2) (Ca (pC (pv 5) AB))))) Af)
   (pS (Ae (Al Cs (pv 3) AE (Ai _)) (AG (AS (Ca AB))) Af)
   (AG (AS (Aj Wr (Aj Wr (Ic (r:=Qv K) Wm (pv 2) IZ (Ia (pv 4))) (Ca (pC (AO DN GN hr (pC (pv 0) (pC (pv 1) AB))) AB))) (Ic (r:=Qv K) Wm (pv 2) (Ia (Aj F2 (pv 4) AE)) IZ)))))))))),?_⟩
  exists let b:=AF _ a;let c:=_;let e:=AF (HP _ c _) b;let f:=_;let g:=AF (HP _ f _) e;let h:=AF _ g;let i:=AF _ h;AF _ i _ _ _
  have xl:=gc.len;have gle:=g.le;have gne:=g.ne;have wl:↑(ρ.map (·.1))=↑ρ:=Ya ..;have wp:lw≠p:=Yx (KR hp ho hw);have tp:t≠p:=λz=>by
   obtain⟨_,_,e,_⟩:=id ho;rw[z,hp,e]at ht;cases ht
  have wok:P9 (ρ.map (·.1)):=⟨λx hx=>by
   obtain⟨r,As,rfl⟩:=Yk.mp hx;exact g.word r As,g.nd⟩
  have xsh:∀ x∈xs,Et x:=λx hx=>Xq (wok.word x (gc.known x hx));refine⟨Z,p,4,o,Y,hp,ho,V,V,λway o1 w0 w4 DQ=>?_⟩;have d1:Drawn p H (upd H p o1):=Drawn.upd DQ;have Eh:(upd H p o1) p≈o1:=uS;generalize upd H p o1=H1 at d1 Eh;refine⟨Z,Z,t,Z,.inr (AH.of (d1.keep _ _ tp ht)),p,_,o1,Y,Eh,DQ,O,O,λat_ o2 a0 a1 CF=>?_⟩;have NQ:Drawn p H1 (upd H1 p o2):=Drawn.upd CF;have Eg:(upd H1 p o2) p≈o2:=uS;generalize upd H1 p o2=H2 at NQ Eg;have d2:=d1.trans NQ;rw[Ya]at a1;refine⟨Z,Z,Z,lw,Z,.inl (SqL.of (d2.keep _ _ wp hw)),p,_,o2,Y,Eg,CF,O,O,λv3 o3 b0 b1 Ff=>?_⟩;have bH:Drawn p H2 (upd H2 p o3):=Drawn.upd Ff;have PU:(upd H2 p o3) p≈o3:=uS;generalize upd H2 p o3=H3 at bH PU;have d3:=d2.trans bH;obtain⟨x,hx,hat⟩:=N_ b0 b1;have IC:=d3.keep _ _ tp ht;have LM:=d3.keep _ _ wp hw;refine⟨lw,Q,Z,Y,SqL.of LM,hat,?_⟩;refine⟨Z,Y,Z,A2 (λ_=>?_) (λ_=>?_)⟩
  ·refine⟨Z,Z,Z,Wx IC λt4 H4 s4 h4=>?_⟩;have xne:xs.map V.str≠[]:=λz=>by rw[List.map_eq_nil_iff]at z;rw[z]at xl;simp at xl;omega
   rw[qI _ xne,<- List.map_dropLast]at h4;exact q t4 xs.dropLast H4 (d3.same s4) h4 (XF (by rw[RG];omega)) (by rw[RG];omega) λy hy=>xsh y (List.dropLast_subset _ hy)
  refine⟨Z,Y,Z,A2 (λ_=>?_) (λ_=>?_)⟩
  ·refine⟨Z,Z,G,λt4 JE=>?_⟩;have s4:AA H3 (upd H3 t4 (.tup [.str x])):=Am JE;have Ek:(upd H3 t4 (.tup [.str x])) t4≈(.tup [.str x]):=uS;generalize upd H3 t4 (.tup [.str x])=H4 at s4 Ek;refine XC (s4 _ _ IC) Ek (sL (by rw[Ya];show _ + 1<=100000;omega)) λt5 H5 s5 h5=>?_;refine q t5 (xs++[x]) H5 (d3.same (s4.trans s5)) (by rw[h5,BP];rfl) (XF (by rw[Bw];show _ + 1≠_;omega)) (by rw[Bw];show _ + 1<=_;omega) λy hy=>?_
   rcases Yp.mp hy with z | z
   ·exact xsh y z
   ·rw[Yi.mp z];exact Xq (wok.word x hx)
  refine⟨Z,Y,Z,A2 (λ_=>?_) (λ_=>?_)⟩
  ·refine⟨BE _,λt4 JE=>?_⟩;exact q t4 [] _ (d3.same (Am JE)) uS (XF (by show 0≠n;omega)) (by show 0<=100;omega) λy hy=>nomatch hy
  ·refine⟨Z,Z,Z,Wx IC λt4 H4 s4 h4=>?_⟩;obtain⟨kZ,e1,Y7,len1⟩:=dA xs none (↥at_);rw[e1]at h4;have d4:=d3.same s4;refine⟨Z,Z,p,lw,Z,d4.pot,s4 _ _ LM,wok,W,λy H5 d5 sy ny=>?_⟩;have bJ:=d4.trans d5;obtain⟨o4,mT,PV⟩:=id d4.pot;have nJ:=Drawn.tup d5 mT PV h4;have mM:=bJ.keep _ _ tp ht;refine⟨G,λt6 mL=>?_⟩;have s6:AA H5 (upd H5 t6 (.tup [.str y])):=Am mL;have Pk:(upd H5 t6 (.tup [.str y])) t6≈(.tup [.str y]):=uS;generalize upd H5 t6 (.tup [.str y])=H6 at s6 Pk;refine XC (s6 _ _ nJ) Pk (sL (by rw[Ya];show _ + 1<=100000;omega)) λt7 H7 s7 h7=>?_;have Zq:=s6.trans s7;refine⟨Z,Z,_,Z,Y,Z,?_⟩;dsimp only[QF];refine Wx (Zq _ _ mM) λt8 H8 s8 h8=>?_;obtain⟨kY,e2,Y6,len2⟩:=dA xs (↥(at_ + 1)) none;rw[e2]at h8;refine XC (s8 _ _ h7) h8 (sL (by rw[Bw,Ya,Ya];show _ + 1 + _<=100000;omega)) λt9 H9 s9 h9=>?_;refine q t9 (kZ++[y]++kY) H9 (bJ.same (Zq.trans (s8.trans s9))) (by rw[h9,BP,BP];rfl) (qY (y:=y) (by simp) ny) (by rw[Bw,Bw];show _ + 1 + _<=100;omega) λz hz=>?_
   rcases Yp.mp hz with c | c
   ·rcases Yp.mp c with c | c
    ·exact xsh z (Y7 z c)
    ·rw[Yi.mp c];exact sy
   ·exact xsh z (Y6 z c)
def T6{ρ:RS}(g:Ab ρ){x y:Str}(hx:x∈ρ.map (·.1)):y∈Au ρ x↔Graph.Reach (An ρ) x y:=by
 unfold Au;rw[Cc];exact⟨λh=>EU.mp h.2,λh=>⟨XD g hx h,EU.mpr h⟩⟩
def oC{ρ:RS}(g:Ab ρ){a b:Str}(ha:a∈ρ.map (·.1))(hb:b∈ρ.map (·.1))(r:Graph.Reach (An ρ) a b)(ne:a≠b):↑(Au ρ b)<↑(Au ρ a):=by
 obtain⟨rk,hrk⟩:=g.rank;have na:a∉Au ρ b:=λh=>by
  have r2:=(T6 g hb).mp h
  rcases gq hrk g.nd g.known ha r with z | z
  ·exact ne z
  ·rcases gq hrk g.nd g.known hb r2 with z2 | z2
   ·exact ne z2.symm
   ·omega
 have:=Graph.nodup_le (l:=a :: Au ρ b) (k:=Au ρ a) (Yu.mpr ⟨na,T7 g b⟩) λx hx=>by
  rcases Yl.mp hx with rfl | hx
  ·exact(T6 g ha).mpr (.refl _)
  ·exact(T6 g ha).mpr (r.trans ((T6 g hb).mp hx))
 exact this
def Fp(ρ:RS)(x:Str)(i:Nat):Int:=((Au ρ ((Au ρ x).getD i "")).length:Int)
def De(ρ:RS)(x:Str):LS:=(IP (O:=IS) true (Fp ρ x) ↑(Au ρ x)).map λi=>(Au ρ x).getD i ""
def To{l:LS}{i:Nat}(h:i<↑l):l[i]?≈(l.getD i "")/\l.getD i ""∈l:=by
 rw[Yg,Yb h];exact⟨Y,K3 h⟩
def yB(ρ:RS)(x:Str):Fz (O:=IS) true (Fp ρ x) ((Au ρ x).map V.str)=(De ρ x).map V.str:=by
 unfold Fz De;rw[Ya,Bu];refine MM λi hi=>?_;have hi:=CA.mp ((L4 (O:=IS) true (Fp ρ x) _).mem_iff.mp hi);show((Au ρ x).map V.str).getD i V.non=V.str ((Au ρ x).getD i "");rw[Yg,Yh,(To hi).1];rfl
def rC(l:LS):(List.range ↑l).map (λi=>l.getD i "")=l:=by
 apply OZ;intro i;by_cases hi:i<↑l
 ·rw[Yh,JZ hi,(To hi).1];rfl
 ·rw[E2 (by rw[Ya,Ec];omega),E2 (by omega)]
def UP(ρ:RS)(x:Str):(De ρ x).Perm (Au ρ x):=by
 have:=(L4 (O:=IS) true (Fp ρ x) ↑(Au ρ x)).map λi=>(Au ρ x).getD i "";rw[rC]at this;exact this
abbrev iG(ρ:RS)(ls:LS):Prop:=ls.Pairwise λb a=>¬ Graph.Reach (An ρ) a b
def dP{ρ:RS}(g:Ab ρ)(x:Str):iG ρ (De ρ x):=by
 have so:=h_ (O:=IS) true (Fp ρ x) ↑(Au ρ x);have pm:=L4 (O:=IS) true (Fp ρ x) ↑(Au ρ x);have nd:(IP (O:=IS) true (Fp ρ x) ↑(Au ρ x)).Nodup:=pm.nodup_iff.mpr List.nodup_range;have lt:∀ i∈IP (O:=IS) true (Fp ρ x) ↑(Au ρ x),i<↑(Au ρ x):=λi hi=>CA.mp (pm.mem_iff.mp hi);unfold De;refine Ko.mpr ?_;have both:=List.Pairwise.and so (Ea.mp nd);refine List.Pairwise.imp_of_mem ?_ both;rintro i j hi hj ⟨h1,h2⟩ r;have CY:=lt i hi;have Gg:=lt j hj;obtain⟨ei,mi⟩:=To CY;obtain⟨ej,mj⟩:=To Gg;have ne:(Au ρ x).getD j ""≠(Au ρ x).getD i "":=λz=>by
  have hnd:=T7 g x;have a1:=(Ye.mp ei).2;have a2:=(Ye.mp ej).2;have:(Au ρ x)[i]=(Au ρ x)[j]:=by rw[a1,a2,z]
  exact h2 ((List.getElem_inj hnd).mp this)
 have l:=oC g (Ih mj) (Ih mi) r ne;have h1:decide (Fp ρ x i<Fp ρ x j)=false:=h1;have h1:=of_decide_eq_false h1;unfold Fp at h1;omega
def bj{ρ:RS}{x:Str}{ls:LS}(p:ls.Perm (Au ρ x))(u:iG ρ ls):Fw ρ x ls:=by
 refine⟨p,λk a b hk hb=>?_⟩;obtain⟨AW,ea⟩:=Ye.mp hk;obtain⟨j,hj,eb⟩:=Kx.mp hb;rw[BU]at hj;rw[Oa]at eb;have:=Jp.mp u j k (by omega) AW (by omega);rw[ea,eb]at this;exact this
def IQ(ρ:RS)(x y:Str):LS:=(De ρ x).filter (λz=>Av ρ z y)++(De ρ x).filter λz=>!Av ρ z y
def tR{ρ:RS}(g:Ab ρ)(x y:Str):Fw ρ x (IQ ρ x y):=by
 have pu:=dP g x;refine bj (List.Perm.trans ?_ (UP ρ x)) ?_
 ·exact List.filter_append_perm _ _
 ·refine List.pairwise_append.mpr ⟨pu.filter _,pu.filter _,λb hb a ha r=>?_⟩;have h1:=EU.mp (Cc.mp hb).2;have h2:=(Cc.mp ha).2;rw[EU.mpr (r.trans h1)]at h2;cases h2
abbrev iP:Str:="plain_line.<locals>.<lambda>"
def xa:("plain_line":Str)++(".<locals>.":Str)++("<lambda>":Str)=iP:=by rfl'
def vJ(K:Fg):LV->Hp->VK->Prop:=λxs H Q=>∃ p ys,xs=[V.ref p]/\(SqL K H p ys\/AH K H p ys)/\Q (.int ↑ys) H
abbrev ET(T:ε)(lp:Pos)(H:Hp):Prop:=Dw H T lp iP
def Tu(C T:ε)(lp:Pos):Sp:=λvs H Q _=>∃(p:ε) (ρ:RS) (x:Str),vs=[.ref p,.str x]/\BN C H p ρ/\Ab ρ/\x∈ρ.map (·.1)/\ET T lp H/\∀ D H',H D=none->Bf T H H'->ET T lp H'->H' D≈(.lst ((De ρ x).map V.str))->Q (.ref D) H'
def cP(C T:ε)(lp:Pos):Sp:=λvs H Q _=>∃(p:ε) (ρ:RS) (x y:Str),vs=[.ref p,.str x,.str y]/\BN C H p ρ/\Ab ρ/\x∈ρ.map (·.1)/\y∈ρ.map (·.1)/\Graph.Reach (An ρ) x y/\ET T lp H/\∀ D H',H D=none->Bf T H H'->ET T lp H'->H' D≈(.lst ((IQ ρ x y).map V.str))->Q (.ref D) H'
def SR(ρ:RS)(y:Str):V->Bool
 | .str z=>Av ρ z y
 | _=>false
theorem gD(ρ:RS)(y:Str):∀ l:LS,((l.map V.str).filter (SR ρ y)).map (λv=>v)=(l.filter λz=>Av ρ z y).map V.str
 | []=>rfl
 | z :: r=>by
  have:=gD ρ y r;rw[Hh]at this ⊢;rw[Yr,Di,Di,this];show(if Av ρ z y=true then _ else _)=_;split <;> rfl
theorem gR(ρ:RS)(y:Str):∀ l:LS,((l.map V.str).filter λv=>!SR ρ y v).map (λv=>v)=(l.filter λz=>!Av ρ z y).map V.str
 | []=>rfl
 | z :: r=>by
  have:=gR ρ y r;rw[Hh]at this ⊢;rw[Yr,Di,Di,this];show(if(!Av ρ z y)=true then _ else _)=_;split <;> rfl
abbrev HC:LS:=["kinds","word"]
def zY:Ad HC HC (AJ Km):=by nofun
abbrev Vk:LS:=["kinds","word","other","line","ahead"]
abbrev Qr:LS:=["kinds","word","other"]
def jF:Ad Vk Qr (AJ OK):=by nofun
def jn:(["high","kinds","other"]:LS).Nodup:=by rfl'
def oj:∃ lp:Pos,∀ {f C T c fA:ε}{fd fdA:FuncData}(F:Def K mg "plain_line" Km HC f fd) (hc:fd.code=.ref c) (LT:Lh mg base c T) (srt:mg "sorted"=none) (len:mg "len"=none) (TC:C0 K C) (MA:HK K C "above" "Kinds.above" OM ["self","word"] fA fdA)
  (GA:⋯ 3 fA fdA ["self","word"] (XR C)),⋯ 7 f fd HC (Tu C T lp):=by
 apply Exists.intro
 ·intro f C T c fA fd fdA F hc LT srt len TC MA GA;refine Bj.okL F.fn hc zY (λvs H Q E h=>?_) (λA outer s H vs Q E hr h=>?_)
  ·obtain⟨p,ρ,x,rfl,_⟩:=h;rfl
  ·obtain⟨p,ρ,x,rfl,kd,g,hx,hT,q⟩:=h;have D_:AV 3 _:=hr.mono (by decide);have hrL:∀ env:Env,AV 3 ((A.deeper (PyProof.Rows.envOfC "plain_line" (AJ Km) ⇑s f (.ref c))).in1.in1.deeper env):=λenv=>AV.deeper (AV.in1 (AV.in1 hr)) env;refine'⟨_,AG (AS (qA ["kinds"] [0] rfl (by rfl) srt (E1 (pv 0) TC.cl MA.me GA D_ MA.b .nil BS (pC (pv 1) AB)) LT rfl xa (dq (osc:=AJ Km) (on:=HC) (x:="high") (by rfl')) (RD (A8 (F7 _ _) (F7 _ _)) hr.dp)
    (λf' c' cl s' H'=>Aa (r:=vJ K) B9 (by rfl) len Yy (pC (E1 (pv 1) TC.cl MA.me GA (hrL _) MA.b .nil BS (pC (pv 0) AB)) AB)))),?_⟩
   obtain⟨dx,d,a,o,oa,ν,AL,h1,_⟩:=kd.ex;have hle:=Nt g x;refine⟨Z,p,dx,Z,h1,W7 _ _,Z,p,ρ,x,Y,kd,g,hx,λl hl=>?_⟩;have s1:AA H (upd H l (.lst ((Au ρ x).map V.str))):=Am hl;have BB:(upd H l (.lst ((Au ρ x).map V.str))) l≈(.lst ((Au ρ x).map V.str)):=uS;generalize upd H l (.lst ((Au ρ x).map V.str))=H1 at s1 BB;refine⟨l,_,Fp ρ x,Y,SqL.of BB,O,hT.mono s1,λH2 sm JJ=>⟨λi v H3 hi s3=>?_,λD H3 hD s3 JL=>?_⟩⟩
   ·obtain⟨z,hz,rfl⟩:=Ls hi;have hzm:=Ih (Yd hz);have O8:=((kd.mono s1).monoT (hT.mono s1).tbl sm).mono s3;obtain⟨IH,d',a',o',Z0,CN,R4,El,_⟩:=O8.ex;refine⟨Z,p,IH,Z,El,W7 _ _,Z,p,ρ,z,Y,O8,g,hzm,λl4 DV=>⟨l4,Z,.inl (SqL.of uS),Am DV,?_⟩⟩;rw[Ya];unfold Fp;rw[Yg,hz];rfl
   ·rw[yB]at JL;exact q D H3 (by
     cases e:H D with
     | none=>rfl
     | some u =>
      obtain⟨ps,hps⟩:=hT.tbl;by_cases hDT:D=T
      ·obtain⟨ps2,ZM⟩:=JJ.tbl;rw[hDT,ZM]at hD;cases hD
      ·rw[sm D u hDT (s1 _ _ e)]at hD;cases hD) ((s1.t (P:=T)).trans (sm.trans s3.t)) (JJ.mono s3) JL
def oV{lp:Pos}(F:Def K mg "line_ahead" OK Qr f fd)(TC:C0 K C)(MU:P1 K C fU fdU)(GU:⋯ 3 fU fdU ["self","one","other"] (QE C))
  (DP:Def K mg "plain_line" Km HC fP fdP) (GP:⋯ 7 fP fdP HC (Tu C T lp)):⋯ 8 f fd Qr (cP C T lp):=by
 nomatch F.fn.ok jF
 ·obtain⟨p,ρ,x,y,rfl,_⟩:=h;rfl
 ·obtain⟨p,ρ,x,y,rfl,kd,g,hx,hy,re,hT,q⟩:=h;have nd:=jF.nd;have D_:AV 3 _:=hr.mono (by decide);obtain⟨dx,d,a,o,oa,ν,AL,h1,_⟩:=kd.ex;refine'⟨_,(pS (Ae (Bs (BZ (E1 (pv 0) TC.cl MU.me GU D_ MU.b .nil BS (pC (pv 1) (pC (pv 2) AB))))) Dh Af)
   (pS (sE 3 nd (AO DP GP hr (pC (pv 0) (pC (pv 1) AB))))
   (pS ?eA
   (AG (AS (Aj WU (pv 4) ?eB)))))),?_⟩
  case eA=>exact(L6 (k:=4) ["high"] ["kinds","other"] [0,2] nd rfl rfl (λ_=>A3 (osc:=AJ OK) (on:=Vk) (by rfl') rfl rfl rfl) (Bn (pv 3)) (λC s H fp=>Az (i:=0) jn rfl (Or.inl rfl) (Or.inr rfl)) (λC s H fp=>F3 (BZ (E1 (pv 1) TC.cl MU.me GU D_ MU.b .nil BS (pC (pv 0) (pC (pv 2) AB))))) (λC s H fp=>pv 0))
  case eB=>exact(BO ["high"] ["kinds","other"] [0,2] (λ_=>A3 (osc:=AJ OK) (on:=Vk) (by rfl') rfl rfl rfl) (Bn (pv 3)) (λC s H fp=>Az (i:=0) jn rfl (Or.inl rfl) (Or.inr rfl)) (λC s H fp=>F3 (Bs (BZ (E1 (pv 1) TC.cl MU.me GU D_ MU.b .nil BS (pC (pv 0) (pC (pv 2) AB)))))) (λC s H fp=>pv 0))
  refine⟨Z,p,dx,Z,h1,QL _ _,Z,Z,p,ρ,x,y,Y,kd,g,hx,hy,Z,?_⟩;rw[EU.mpr re];refine Ap ⟨Z,Z,p,ρ,x,Y,kd,g,hx,hT,λl H1 NK sT Ej hl=>?_⟩;have Vu:=kd.monoT hT.tbl sT;have pl:↑(De ρ x)<=24:=by rw[(UP ρ x).length_eq];exact Nt g x
  have pk:∀ z∈De ρ x,z∈ρ.map (·.1):=λz hz=>Ih ((UP ρ x).mem_iff.mp hz);have und:∀ {z:Str} {H':Hp} {R:Bool->Hp->Prop},z∈De ρ x->AA H1 H'->R (Av ρ z y) H'->∃(dx:ε) (fs:List (Str×V)),H' p≈(.ins C dx fs)/\fs.lookup ("under":Str)=none/\BN C H' p ρ:=λ{z H' R} hz s' _=>by
   obtain⟨IH,d',a',o',Z0,CN,R4,El,_⟩:=(Vu.mono s').ex;exact⟨IH,_,El,QL _ _,Vu.mono s'⟩
  refine⟨Z,l,Y,⟨_,SqL.of hl⟩,EG (B4 (xs:=(De ρ x).map V.str)) (sL (by rw[Ya];omega)) (SR ρ y) (λv=>v) (λH' s'=>s'.seq (SqL.of hl)) ?_ ?_ ?_⟩
  ·intro v H' R s' hv Ag;obtain⟨z,hz,rfl⟩:=Yk.mp hv;obtain⟨IH,B0,El,nu,NC⟩:=und (R:=λ_ _=>True) hz s' trivial;exact⟨Z,p,IH,Z,El,nu,Z,Z,p,ρ,z,y,Y,NC,g,pk z hz,hy,Z,Ag H' (AA.refl _)⟩
  ·intro v H' R s' _ _ Ag;exact⟨Z,Ag H' (AA.refl _)⟩
  intro l2 H2 CO s2 CQ;rw[gD]at CQ;have Fh:=s2 _ _ hl;refine⟨Z,Z,l,Y,⟨_,SqL.of Fh⟩,EG (B4 (xs:=(De ρ x).map V.str)) (sL (by rw[Ya];omega)) (λv=>!SR ρ y v) (λv=>v) (λH' s'=>s'.seq (SqL.of Fh)) ?_ ?_ ?_⟩
  ·intro v H' R s' hv Ag;obtain⟨z,hz,rfl⟩:=Yk.mp hv;obtain⟨IH,B0,El,nu,NC⟩:=und (R:=λ_ _=>True) hz (s2.trans s') trivial;exact⟨Z,p,IH,Z,El,nu,Z,Z,p,ρ,z,y,Y,NC,g,pk z hz,hy,Z,Ag H' (AA.refl _)⟩
  ·intro v H' R s' _ _ Ag;exact⟨Z,Ag H' (AA.refl _)⟩
  intro l3 H3 Ck s3 Cz;rw[gR]at Cz;have f1:=Hg (λz=>Av ρ z y) (De ρ x);have f2:=Hg (λz=>!Av ρ z y) (De ρ x);refine⟨l2,l3,_,Z,Y,s3 _ _ CQ,Cz,sL (by rw[Ya,Ya];omega),λD hD=>?_⟩;have CU:=s2.trans s3;have sD:AA H3 (upd H3 D (.lst ((IQ ρ x y).map V.str))):=Am hD;have e:(List.map V.str (List.filter (λz=>Av ρ z y) (De ρ x))++List.map V.str (List.filter (λz=>!Av ρ z y) (De ρ x)))=(IQ ρ x y).map V.str:=by
   unfold IQ;rw[BP]
  rw[e];refine q D _ ?_ (sT.trans (CU.trans sD).t) (Ej.mono (CU.trans sD)) uS;cases z:H D with
  | none=>rfl
  | some u =>
   by_cases hDT:D=T
   ·obtain⟨ps,hps⟩:=Ej.tbl;rw[hDT,CU _ _ hps]at hD;cases hD
   ·rw[CU _ _ (sT D u hDT z)]at hD;cases hD
def d0:Sp:=λvs H Q _=>∃(aa ld t:ε) (n:Nat) (ρ:RS) (AL:KL) (ds:ξ) (us:LV) (xs:LS),vs=[.ref aa,.ref ld,.ref t]/\Ab ρ/\H aa≈(.dK AL)/\CH H ρ ρ AL/\H ld≈(.lst us)/\B2 H ds us/\Ba ρ n ds/\H t≈(.tup (xs.map V.str))/\Bh ρ n xs/\n<=4 /\
 ∀ tr lr ln H',H lr=none->H ln=none->AA H H'->H' tr≈(.tup [.ref lr,.ref ln])->H' lr≈(.lst ((nx (wB ρ ds) ↑(AR ρ ds xs) (AR ρ ds xs)).1.map AI))->H' ln≈(.lst ((nx (wB ρ ds) ↑(AR ρ ds xs) (AR ρ ds xs)).2.map AI))->Q (.ref tr) H'
def WV(ρ:RS)(ds:ξ)(k:Nat):V->V
 | .int j=>.bl (!decide (j.toNat=k)&&wB ρ ds j.toNat k)
 | _=>.non
def sX(ρ:RS)(ds:ξ)(k:Nat)(fs:LN):((fs.map AI).filter λ_=>true).map (WV ρ ds k)=(fs.map λj=>!decide (j=k)&&wB ρ ds j k).map V.bl:=by
 rw[G5.mpr (λ_ _=>rfl),Bu,Bu];rfl
def X8(ρ:RS)(ds:ξ)(left:LN):V->Bool
 | .int k=>!(left.any λj=>!decide (j=k.toNat)&&wB ρ ds j k.toNat)
 | _=>false
theorem bt(ρ:RS)(ds:ξ)(left:LN):∀ l:LN,((l.map AI).filter (X8 ρ ds left)).map (λv=>v)=(l.filter λk=>!(left.any λj=>!decide (j=k)&&wB ρ ds j k)).map AI
 | []=>rfl
 | k :: r=>by
  have:=bt ρ ds left r;rw[Hh]at this ⊢;rw[Yr,Di,Di,this];show(if(!(left.any λj=>!decide (j=((k:Nat):Int).toNat)&&wB ρ ds j ((k:Nat):Int).toNat))=true then _ else _)=_;rw[Yt];split <;> rfl
def Vi(k:Nat):V->Bool
 | .int j=>!decide (j.toNat=k)
 | _=>false
def wG(k:Nat):∀ {l:LN},l.Nodup->((l.map AI).filter (Vi k)).map (λv=>v)=(l.erase k).map AI:=λ{l} nd=>by
 rw[Hh,nd.erase_eq_filter];clear nd
 induction l with
 | nil=>rfl
 | cons j r ih =>
  rw[Yr,Di,Di,ih];show(if(!decide (((j:Nat):Int).toNat=k))=true then _ else _)=_;rw[Yt];by_cases e:j=k
  ·subst e;simp
  ·simp[e]
def yR:(["j","k","above","deeds"]:LS).Nodup:=by rfl'
def yT:(["k","above","deeds","left"]:LS).Nodup:=by rfl'
def vA:(["k","near"]:LS).Nodup:=by rfl'
abbrev Vl:LS:=["above","deeds","call","left","row","near"]
def jE:Ad Vl FL (AJ JW):=by nofun
def vO:Scope:=match CM JW with
 | [_,_,.While _ (.Assign _ (.ListComp _ _ sc _) _ :: _) _ _]=>sc
 | _=>AJ JW
def rL(F:Def K mg "_law_nexts" JW FL f fd)(T:X0 mg)(DF:Def K mg "_law_fits" OE FL fF fdF)(GF:⋯ 2 fF fdF FL Wq)(DLW:Def K mg "_law_within" OO JA fLW fdLW)(GLW:⋯ 1 fLW fdLW JA XT):⋯ 3 f fd FL d0:=by
 nomatch F.fn.ok jE
 ·obtain⟨aa,ld,t,n,ρ,AL,ds,us,xs,rfl,_⟩:=h;rfl
 ·obtain⟨aa,ld,t,n,ρ,AL,ds,us,xs,rfl,g,CP,hA,hld,hD,gd,ht,gc,hn,q⟩:=h;have nd:=jE.nd;have hul:=↑hD;have few:=gd.few;have fl:=QK ρ ds xs;have Ac:AV 1 _:=hr.mono (by decide)
  ac_nf
  refine'⟨_,(pS (Bt (i:=3) nd rfl (Or.inr rfl) (AO DF GF hr (pC (pv 0) (pC (pv 1) (pC (pv 2) AB)))))
   (pS (sE 4 nd (CI AB))
   (AG (Kg Bb (BZ Bg)
    (pS ?e1
   (pS (Ae (Al Gm (Aa B9 (by rfl) T.len Yy (pC (pv 5) AB)) AE (Ai _)) (AG (AS (Ca (pC (pv 4) (pC (pv 5) AB))))) Af)
   (pS (B8 (Ct Yz E4 E3 EF (pv 4) (pC (AN Ak (pv 5) AE (λ_ _=>rfl)) AB)))
   (AG ?e2)))))))),?_⟩
  case e1=>exact Bt (i:=5) nd rfl (Or.inr rfl) (p7 ["k"] ["above","deeds","left"] [0,1,3] (λ_=>qH (osc:=AJ JW) (on:=Vl) (by rfl') rfl rfl rfl) (Bn (pv 3)) (λC s H fp=>Az (i:=0) yT rfl (Or.inr rfl) (Or.inl rfl))
    (λC s H fp=>by
     refine' F3 (Bs (BZ (Aa (r:=HM K λbs=>bs.any id) (QJ rfl) (by rfl) T.any Qx (pC ?ei AB))))
     case ei =>
      refine' BO (wi:=jJ K (YA 3)) ["j"] ["k","above","deeds"] [0,1,2] (λ_=>A3 (osc:=vL vO (AJ JW)) (on:=["k","above","deeds","left"]) (by rfl') rfl rfl rfl) ?ej ?ek ?el ?em
      case ej=>exact Bn (pv 3)
      case ek=>exact(λC s H fp=>Az (i:=0) yR rfl (Or.inl rfl) (Or.inr rfl))
      case el=>exact(λC s H fp=>Br)
      case em=>exact(λC s H fp=>Ng (Ha Gm (pv 0) (pv 1) (Ai _)) (Ni (AO DLW GLW Ac (pC (pv 2) (pC (AN (r:=A6 K) Ak (pv 3) (pv 0) (λ_ _=>rfl)) (pC (AN (r:=A6 K) Ak (pv 3) (pv 1) (λ_ _=>rfl)) AB))))))) (λC s H fp=>pv 0))
  case e2=>exact Bt (i:=3) nd rfl (Or.inr rfl) (BO ["k"] ["near"] [5] (λ_=>A3 (osc:=AJ JW) (on:=Vl) (by rfl') rfl rfl rfl) (Bn (pv 3)) (λC s H fp=>Az (i:=0) vA rfl (Or.inl rfl) (Or.inr rfl))
    (λC s H fp=>F3 (Al Gm (pv 0) (AN (r:=A6 K) Ak (pv 1) AE (λ_ _=>rfl)) (Ai _))) (λC s H fp=>pv 0))
  exists let b:=AF _ a;let c:=AF _ b;let e:=AF _ c;let f:=Lp _ e;let g:=AF _ f;AF _ g _ _ _
  refine⟨Z,Z,Z,aa,ld,t,n,ρ,AL,ds,us,xs,Y,g,CP,hA,hld,hD,gd,ht,gc,hn,λlf H1 hlf s1 IF=>?_⟩;refine⟨BE _,λlr hlr=>?_⟩;have s2:AA H1 (upd H1 lr (.lst [])):=Am hlr;have CQ:(upd H1 lr (.lst [])) lr≈(.lst []):=uS;generalize upd H1 lr (.lst [])=H2 at s2 CQ;have BF:=s1.trans s2;have lrH:H lr=none:=s1.free hlr;let E5:NW:=λm σ H'=>∃(lf:ε) (left row:LN) (x5:OV),σ=[↥(.ref aa),↥(.ref ld),↥(.ref t),↥(.ref lf),↥(.ref lr),x5]/\AA H H'/\H' lf≈(.lst (left.map AI))/\H' lr≈(.lst (row.map AI))/\lf≠lr/\(∀ j∈left,j<↑ds)/\left.Nodup/\↑row + ↑left<=64/\nx (wB ρ ds) ↑(AR ρ ds xs) (AR ρ ds xs)=(row++(nx (wB ρ ds) ↑left left).1,(nx (wB ρ ds) ↑left left).2)/\m=↑left;refine⟨E5,
   ⟨_,lf,AR ρ ds xs,[],none,Y,BF,s2 _ _ IF,CQ,AK IF hlr,Wh,Kb _ _ _,by show 0 + _<=64;omega,Y,Y⟩,?_⟩
  rintro m σ H' ⟨lf,left,row,x5,rfl,s',J1,GQ,nfr,AW,hnd,hlen,hnx,rfl⟩;let Hj:SW:=λσ' H2=>∃ m',m'<↑left/\∃(lf:ε) (left row:LN) (x5:OV),σ'=[↥(.ref aa),↥(.ref ld),↥(.ref t),↥(.ref lf),↥(.ref lr),x5]/\AA H H2/\H2 lf≈(.lst (left.map AI))/\H2 lr≈(.lst (row.map AI))/\lf≠lr/\(∀ j∈left,j<↑ds)/\left.Nodup/\↑row + ↑left<=64/\nx (wB ρ ds) ↑(AR ρ ds xs) (AR ρ ds xs)=(row++(nx (wB ρ ds) ↑left left).1,(nx (wB ρ ds) ↑left left).2)/\m'=↑left;refine⟨Z,CG ⟨Hj,λ_ _ h=>h,?_⟩⟩;refine⟨Z,lf,Y,⟨_,SqL.of J1⟩,EG (B4 (xs:=left.map AI)) (sL (by rw[Ya];omega)) (X8 ρ ds left) (λv=>v) (λH' s'=>s'.seq (SqL.of J1)) ?_ ?_ ?_⟩
  ·intro v H3 R s3 hv hR;obtain⟨k,hk,rfl⟩:=Yk.mp hv;have hkl:=AW k hk;have J0:=s3 _ _ J1;refine⟨Z,lf,Y,⟨_,SqL.of J0⟩,EG (B4 (xs:=left.map AI)) (sL (by rw[Ya];omega)) (λ_=>true) (WV ρ ds k) (λH' s'=>s'.seq (SqL.of J0)) ?_ ?_ ?_⟩
   ·intro v H4 R' s4 _ Ag;exact Ag H4 (AA.refl _)
   ·intro v H4 R' s4 hv _ Ag;obtain⟨j,hj,rfl⟩:=Yk.mp hv;have hjl:=AW j hj;have e:decide (AI j=AI k)=decide (j=k):=Kz.mpr ⟨λz=>by unfold AI at z;injection z with z;omega,λz=>by rw[z]⟩;have eo:WV ρ ds k (AI j)=.bl (!decide (j=k)&&wB ρ ds j k):=rfl;rw[eo]at Ag;refine⟨Z,Z,Y,Z,?_⟩;rw[e];refine A2 (λh=>?_) (λh=>?_)
    ·have s5:=s'.trans (s3.trans s4);obtain⟨t1,a1,h1⟩:=Ke hD s5 hjl;obtain⟨t2,a2,h2⟩:=Ke hD s5 hkl;rw[h,MX]at Ag;exact⟨Z,Z,Z,ld,Q,Z,Y,SqL.of (s5 _ _ hld),a1,Z,Z,ld,Q,Z,Y,SqL.of (s5 _ _ hld),a2,aa,t1,t2,ρ,AL,_,Z,g,s5 _ _ CP,hA.mono λb xs e=>s5 _ _ e,h1,h2,gJ gd hjl,by have:=Nq gd hjl;omega,λBL By=>Ag BL By⟩
    ·rw[show(!decide (j=k))=false by simpa using h,Bool.false_and]at Ag;exact Ag H4 (AA.refl _)
   ·intro D H4 Pj s4 DV;rw[sX]at DV;have eA:(left.map λj=>!decide (j=k)&&wB ρ ds j k).any id=left.any λj=>!decide (j=k)&&wB ρ ds j k:=by rw[List.any_map];rfl
    refine⟨D,Z,SqL.of DV,_,congrArg V.bl eA,?_⟩;have em:X8 ρ ds left (AI k)=!(left.any λj=>!decide (j=k)&&wB ρ ds j k):=rfl;rw[em]at hR;exact hR H4 s4
  ·intro v H3 R s3 _ _ hR;exact⟨Z,hR H3 (AA.refl _)⟩
  intro ln H3 ER s3 NJ;rw[bt,show(left.filter λk=>!(left.any λj=>!decide (j=k)&&wB ρ ds j k))=Bl (wB ρ ds) left from rfl]at NJ;have Mu:=s3 _ _ GQ;have J0:=s3 _ _ J1;refine⟨Z,ln,Z,.inl (SqL.of NJ),Y,Z,?_⟩;have e:decide (V.int (↑((Bl (wB ρ ds) left).map AI):Nat)=V.int 1)=decide (↑(Bl (wB ρ ds) left)=1):=by
   rw[Ya];exact Kz.mpr ⟨λz=>by injection z with z;omega,λz=>by rw[z];rfl⟩
  rw[e];by_cases h1:↑(Bl (wB ρ ds) left)=1
  ·rw[Jb h1];obtain⟨k1,Ei⟩:=Ta h1;have kl:k1∈left:=Kf k1 (by rw[Ei];simp);have el:=UE kl;rw[Ei]at NJ;refine Ap ⟨Z,.inl ⟨Y,_,SqL.of Mu⟩,Z,ln,Q,Z,Y,SqL.of NJ,DB (j:=0) rfl,lr,_,Z,Y,Mu,B_ (by rw[Ya];omega),?_⟩;have lnr:ln≠lr:=λz=>by rw[z,GQ]at ER;cases ER
   have k4:∀ b u,b≠lr->H3 b≈u->(upd H3 lr (.lst (row.map AI++[AI k1]))) b≈u:=λb u hb e=>by rw[AD hb];exact e
   have Ek:(upd H3 lr (.lst (row.map AI++[AI k1]))) lr≈(.lst ((row++[k1]).map AI)):=by rw[uS,BP];rfl
   generalize upd H3 lr (.lst (row.map AI++[AI k1]))=H4 at k4 Ek;have mV:=k4 _ _ lnr NJ;have Rq:=k4 _ _ nfr J0;have s4:AA H H4:=λb u e=>k4 b u (AK e lrH) (s3 _ _ (s' _ _ e));refine⟨Z,lf,Y,⟨_,SqL.of Rq⟩,EG (B4 (xs:=left.map AI)) (sL (by rw[Ya];omega)) (Vi k1) (λv=>v) (λH' s'=>s'.seq (SqL.of Rq)) ?_ ?_ ?_⟩
   ·intro v H5 R s5 hv hR;obtain⟨j,hj,rfl⟩:=Yk.mp hv;refine⟨Z,Z,ln,Q,Z,Y,SqL.of (s5 _ _ mV),DB (j:=0) rfl,Y,Z,?_⟩;have en:Vi k1 (AI j)=!decide (AI j=AI k1):=by
     show(!decide (((j:Nat):Int).toNat=k1))=_;rw[Yt];exact congrArg _ (Kz.mpr ⟨λz=>by rw[z],λz=>by unfold AI at z;injection z with z;omega⟩)
    rw[en]at hR;exact hR H5 (AA.refl _)
   ·intro v H5 R s5 _ _ hR;exact⟨Z,hR H5 (AA.refl _)⟩
   intro lh H5 Rr s5 KA;rw[wG k1 hnd]at KA;refine⟨_,W,lh,left.erase k1,row++[k1],Z,s4.trans s5,KA,s5 _ _ Ek,(λz=>by rw[z,Ek]at Rr;cases Rr),λj hj=>AW j (Oo hj),hnd.erase k1,by rw[Bw];show ↑row + 1 + _<=64;omega,?_,Y⟩;rw[hnx,<- el,TZ Ei];simp
  ·rw[Jc h1];rw[TY h1]at hnx;refine CG ⟨Z,Z,U,λtr htr=>?_⟩;have s4:AA H3 (upd H3 tr (.tup [.ref lr,.ref ln])):=Am htr;refine q tr lr ln _ lrH (s'.free ER) (s'.trans (s3.trans s4)) uS ?_ ?_
   ·rw[hnx];show _≈(HO.lst ((row++[]).map AI));rw[Eb];exact s4 _ _ Mu
   ·rw[hnx];exact s4 _ _ NJ
def NT(H H':Hp):Prop:=∀ b o,(∀ ps,o≠.tbl ps)->H b≈o->H' b≈o
def Bf.nt{T:ε}{H H':Hp}(s:Bf T H H')(hT:∃ ps,H T≈(.tbl ps)):NT H H':=λb o n e=>s b o (WR hT e n) e
def AA.nt{H H':Hp}(s:AA H H'):NT H H':=λb o _ e=>s b o e
def NT.trans{H H1 H':Hp}(s:NT H H1)(t:NT H1 H'):NT H H':=λb o n e=>t b o n (s b o n e)
def BN.monoN{C:ε}{H H':Hp}{p:ε}{ρ:RS}(h:BN C H p ρ)(k:NT H H'):BN C H' p ρ:=by
 obtain⟨dx,d,a,o,oa,ν,AL,h1,h2,h3,h4⟩:=h.ex;exact⟨dx,d,a,o,oa,ν,AL,k _ _ (λ_ z=>nomatch z) h1,⟨k _ _ (λ_ z=>nomatch z) h2.at_,h2.ups.mono λ_ _ e=>k _ _ (λ_ z=>nomatch z) e⟩,k _ _ (λ_ z=>nomatch z) h3,h4.mono λ_ _ _ e=>k _ _ (λ_ z=>nomatch z) e⟩
def UR{H H':Hp}{all ρ:RS}{AL:KL}(h:CH H all ρ AL)(k:NT H H'):CH H' all ρ AL:=h.mono λb xs e=>k b _ (λ_ z=>nomatch z) e
def B2.monoN{H H':Hp}{ds:ξ}{us:LV}(h:B2 H ds us)(k:NT H H'):B2 H' ds us:=Paired.mapP h λ_ _ ⟨t,e,x⟩=>⟨t,e,k _ _ (λ_ z=>nomatch z) x⟩
theorem Cb.monoN{C B:ε}{H H':Hp}{p k:ε}{ρ:RS}{n:Nat}{ds:ξ}(h:Cb C B H p k ρ n ds)(s:NT H H'):Cb C B H' p k ρ n ds:=by
 obtain⟨dx,t,us,h1,h2,h3,h4⟩:=h.ex;exact⟨dx,t,us,s _ _ (λ_ z=>nomatch z) h1,h2.monoN s,s _ _ (λ_ z=>nomatch z) h3,h4.monoN s⟩
structure EJ(T U:ε)(lp lr:Pos)(H:Hp):Prop where
 p:ET T lp H
 r:Uy U lr H
 ne:T≠U
def gA{T U:ε}{H H':Hp}{pos:Pos}{q:Str}(h:Dw H T pos q)(hU:∃ ps,H U≈(.tbl ps))(ne:T≠U)(s:Bf U H H'):Dw H' T pos q:=by
 rcases h with h | ⟨c,oc,vs,t,h1,h2,h3⟩
 ·exact .inl (s _ _ ne h)
 ·exact .inr ⟨c,oc,vs,t,s _ _ ne h1,s _ _ (WR hU h2 (λ_ z=>nomatch z)) h2,h3⟩
def EJ.plain{T U:ε}{lp lr:Pos}{H H':Hp}(h:EJ T U lp lr H)(s:Bf T H H')(t:ET T lp H'):EJ T U lp lr H':=⟨t,gA h.r h.p.tbl (Yx h.ne) s,h.ne⟩
def EJ.rank{T U:ε}{lp lr:Pos}{H H':Hp}(h:EJ T U lp lr H)(s:Bf U H H')(t:Uy U lr H'):EJ T U lp lr H':=⟨gA h.p h.r.tbl h.ne s,t,h.ne⟩
theorem EJ.mono{T U:ε}{lp lr:Pos}{H H':Hp}(h:EJ T U lp lr H)(s:AA H H'):EJ T U lp lr H':=⟨h.p.mono s,h.r.mono s,h.ne⟩
noncomputable abbrev EC (ρ:RS) (xs:LS):ξ:=xs.map (De ρ)
def kB(C B T:ε)(lp:Pos):Sp:=λvs H Q _=>∃(p k t:ε) (ρ:RS) (n:Nat) (ds:ξ) (xs:LS),vs=[.ref p,.ref t]/\Cb C B H p k ρ n ds/\Ab ρ/\n<=4/\H t≈(.tup (xs.map V.str))/\Bh ρ n xs/\ET T lp H /\
 ∀ lu H',Bf T H H'->ET T lp H'->FO H H' lu (Ah n) (EC ρ xs)->Q (.ref lu) H'
def gp{K:Fg}{C T k t:ε}{lp:Pos}{H1:Hp}{ρ:RS}{xs:LS}{σ:St}{j:Nat}{te:TE}{Q:VK}(hj:(σ[j]?).join≈(.ref k))(ht:H1 t≈(.tup (xs.map V.str)))(few:↑xs<=100)(kd:BN C H1 k ρ)(hT:ET T lp H1)
  (he:∀(x:Str) H' (R:VK),x∈xs->BN C H' k ρ->ET T lp H'->(∀ D BL,H' D=none->Bf T H' BL->ET T lp BL->BL D≈(.lst ((De ρ x).map V.str))->R (.ref D) BL)->te [↥(.str x),↥(.ref k)] H' R)
  (hd:∀ D H2 (bs:τ),H1 D=none->Bf T H1 H2->ET T lp H2->H2 D≈(.lst (bs.map V.ref))->(D :: bs).Nodup->(∀ b∈bs,H1 b=none)->Paired (λ(c:LS) b=>H2 b≈(.lst (c.map V.str))) (EC ρ xs) bs->Q (.ref D) H2):AU 1 [j] (C_ 0) Py te σ Q (VL K t) H1:=by
 refine Kh (Ie (xs:=xs.map V.str)) (sL (by rw[Ya];omega)) (λD i ys σ' H'=>H1 D=none/\Bf T H1 H'/\ET T lp H'/\∃ bs:τ,ys=bs.map V.ref/\H' D≈(.lst (bs.map V.ref))/\(D :: bs).Nodup/\(∀ b∈bs,H1 b=none)/\Paired (λ(c:LS) b=>H' b≈(.lst (c.map V.str))) (EC ρ (xs.take i)) bs/\∃ o,σ'=[o,↥(.ref k)]) ?_ ?_ ?_ ?_
 ·intro D hD;refine⟨hD,(Am hD).t,hT.mono (Am hD),[],Y,uS,Yu.mpr ⟨(λh=>nomatch h),G8⟩,(λb h=>nomatch h),by rw[Ik];exact .nil,none,?_⟩;show[none,(σ[j]?).join]=_;rw[hj]
 ·rintro D i ys σ' H' _ ⟨_,s,tT,bs,rfl,h1,n1,f1,h2,_⟩;have:=A_ h2;rw[Ya,BU]at this;exact⟨AH.of (Eu hT.tbl s ht (λ_ z=>nomatch z)),O⟩
 ·rintro D i v ys σ' H' hD hi ⟨_,s,tT,bs,rfl,h1,n1,f1,h2,o,rfl⟩;obtain⟨x,hx,rfl⟩:=Ki hi;refine he x H' _ (Yd hx) (kd.monoT hT.tbl s) tT λb BL hb s2 t2 Fi=>?_;have Gh:=Eu tT.tbl s2 h1 (λ_ z=>nomatch z);have bD:b≠D:=Yx (AK h1 hb);have bn:b∉bs:=λz=>by
   obtain⟨i,hi⟩:=D0 z;obtain⟨c,_,e⟩:=B3 h2 hi;rw[e]at hb;cases hb
  refine⟨Gh,hD,λc u hc e=>?_,t2.keep λc u hu e=>?_,bs++[b],by rw[BP];rfl,by rw[BP];exact uS,?_,λc hc=>?_,?_,Z⟩
  ·rw[AD (AK e hD)];exact s2 c u hc (s c u hc e)
  ·rw[AD (λz=>by rw[z,Gh]at e;rcases hu with⟨_,rfl⟩ | ⟨_,_,rfl⟩ <;> cases e)];exact e
  ·rw[<- List.cons_append];refine Iq.mpr ⟨n1,Yu.mpr ⟨(λh=>nomatch h),G8⟩,λx hx y hy z=>?_⟩;rw[Yi.mp hy]at z
   rcases Yl.mp hx with e | e
   ·exact bD (z.symm.trans e)
   ·exact bn (by rw[<- z];exact e)
  ·rcases Yp.mp hc with z | z
   ·exact f1 c z
   ·rw[Yi.mp z];exact Ln hT.tbl s tT.tbl hb
  ·rw[Ce,hx];unfold EC;rw[BP];refine EZ (Paired.mapP (JV h2) λc b' ⟨m',h'⟩=>?_) ?_
   ·rw[AD (λz=>(Yu.mp n1).1 (by rw[<- z];exact m'))];exact Eu tT.tbl s2 h' (λ_ z=>nomatch z)
   ·rw[AD bD];exact Fi
 ·rintro D ys σ' H' hD ⟨_,s,tT,bs,rfl,h1,n1,f1,h2,_⟩;rw[Ya,Dy]at h2;exact hd D H' bs hD s tT h1 n1 f1 h2
def FO.monoN{H0 H H':Hp}{t:ε}{ord:ζ}{cs:ξ}(h:FO H0 H t ord cs)(k:NT H H'):FO H0 H' t ord cs:=by
 obtain⟨lo,ll,bs,f1,f2,n,h⟩:=h;exact⟨lo,ll,bs,f1,f2,n,h.keep λb o _ hn e=>k b o hn e⟩
def jt{H H1:Hp}{lo ll:ε}{bs:τ}(fl:H lo=none)(h1:∃ u,H1 lo≈u)(fr:∀ b,H1 b=none->H b=none)(fD:H1 ll=none)(fb:∀ b∈bs,H1 b=none)(n:(ll :: bs).Nodup):(∀ b∈lo :: ll :: bs,H b=none)/\(lo :: ll :: bs).Nodup:=by
 refine⟨λb hb=>?_,Yu.mpr ⟨λz=>?_,n⟩⟩
 ·rcases Yl.mp hb with e | hb
  ·rw[e];exact fl
  rcases Yl.mp hb with e | hb
  ·rw[e];exact fr _ fD
  ·exact fr _ (fb b hb)
 ·obtain⟨u,h1⟩:=h1
  rcases Yl.mp z with e | e
  ·rw[e,fD]at h1;cases h1
  ·rw[fb _ e]at h1;cases h1
abbrev DM:LS:=["board","call"]
abbrev Z5:LS:=["board","call","kinds"]
def iw:Ad Z5 DM (AJ Qi):=by nofun
def jq:(["word","kinds"]:LS).Nodup:=by rfl'
def x9{lp:Pos}(F:Def K mg "plain_lineup" Qi DM f fd)(list:mg "list"=none)(range:mg "range"=none)(TB:Gn K B)(MK:Nk K B fK fdK)(MP:QI K B fPl fdPl)(DP:Def K mg "plain_line" Km HC fP fdP)(GP:⋯ 7 fP fdP HC (Tu C T lp)):⋯ 8 f fd DM (kB C B T lp):=by
 have GK:⋯ 1 fK fdK ["self"] (Ly C B):=N9 MK.fn TB;have GPl:⋯ 1 fPl fdPl ["self"] (N5 C B):=QZ MP.fn TB
 nomatch F.fn.ok iw
 ·obtain⟨p,k,t,ρ,n,ds,xs,rfl,_⟩:=h;rfl
 ·obtain⟨p,k,t,ρ,n,ds,xs,rfl,bd,g,n4,ht,gc,hT,q⟩:=h;obtain⟨dx,ts,us,h1,h2,h3,h4⟩:=bd.ex;have nd:=iw.nd;have Ac:AV 1 _:=hr.mono (by decide);have xl:=gc.len;refine'⟨_,(pS (Bt (i:=2) nd rfl (Or.inr rfl) (EX (pv 0) TB.cl MK.me GK Ac MK.b .nil BS))
   (AG (AS (Ca (pC (Qc rfl (EX (pv 0) TB.cl MP.me GPl Ac MP.b .nil BS) (by rfl) list (by rfl) range) (pC ?e1 AB)))))),?_⟩
  case e1=>exact(BO ["word"] ["kinds"] [2] (λ_=>A3 (osc:=AJ Qi) (on:=Z5) (by rfl') rfl rfl rfl) (HZ (pv 1)) (λC s H fp=>Az (i:=0) jq rfl (Or.inl rfl) (Or.inr rfl)) (λC s H fp=>Br) (λC s H fp=>AO DP GP hr (pC (pv 1) (pC (pv 0) AB))))
  refine⟨Z,p,dx,Z,h1,N8 _ _ _,p,k,ρ,n,ds,Y,bd,?_⟩;refine⟨Z,p,dx,Z,h1,QY _ _ _,p,k,ρ,n,ds,Y,bd,Z,W,W,λl1 Bd=>?_⟩;rw[Yt,T_];have s1:AA H (upd H l1 (.lst ((Ah n).map V.int))):=Am Bd;have BB:(upd H l1 (.lst ((Ah n).map V.int))) l1≈(.lst ((Ah n).map V.int)):=uS;generalize upd H l1 (.lst ((Ah n).map V.int))=H1 at s1 BB;have Ej:=hT.mono s1;refine⟨Z,t,Y,⟨_,AH.of (s1 _ _ ht)⟩,gp rfl (s1 _ _ ht) (by omega) (h2.mono s1) Ej (λx H' R hx kd tT hR=>⟨Z,Z,k,ρ,x,Y,kd,g,gc.known x hx,tT,hR⟩) λD H2 bs hD s2 JJ Gh nD fD pr=>?_⟩;refine⟨U,λlu hlu=>?_⟩;have s3:AA H2 (upd H2 lu (.tup [.ref l1,.ref D])):=Am hlu;obtain⟨ff,nn⟩:=jt Bd ⟨_,BB⟩ (λb hb=>s1.free hb) hD fD nD;exact q lu _ ((s1.t (P:=T)).trans (s2.trans s3.t)) (JJ.mono s3) ⟨l1,D,bs,s1.free (Ln Ej.tbl s2 JJ.tbl hlu),ff,nn,⟨uS,s3 _ _ (Eu Ej.tbl s2 BB (λ_ z=>nomatch z)),s3 _ _ Gh,Paired.mapP pr λc b hb=>s3 _ _ hb⟩⟩
def xY{l r:LS}{a b:Str}(ha:a∈l)(hb:b∉l):(l++r).idxOf a<(l++r).idxOf b:=by
 induction l with
 | nil=>cases ha
 | cons y l ih =>
  rw[List.cons_append,Qw,Qw];have hyb:y≠b:=λz=>hb (by rw[z];exact .head _);rw[show(y == b)=false from Jk.mpr hyb];by_cases hya:y=a
  ·rw[show(y == a)=true from by rw[hya];exact beq_self_eq_true _];exact Nat.succ_pos _
  ·rw[show(y == a)=false from Jk.mpr hya];exact Nat.succ_lt_succ (ih ((Yl.mp ha).resolve_left λz=>hya z.symm) λz=>hb (.tail _ z))
def qV{ρ:RS}{x u a b:Str}(ha:a∈IQ ρ x u)(ra:Graph.Reach (An ρ) a u)(rb:¬ Graph.Reach (An ρ) b u):(IQ ρ x u).idxOf a<(IQ ρ x u).idxOf b:=by
 unfold IQ at ha ⊢;refine xY ?_ λhb=>rb (EU.mp (Cc.mp hb).2)
 rcases Yp.mp ha with z | z
 ·exact z
 ·exact Cc.mpr ⟨(Cc.mp z).1,EU.mpr ra⟩
def HL(ρ:RS)(ds:ξ)(n a b:Nat):LN:=(List.range n).filter λi=>!Av ρ ((ds.getD a []).getD i "") ((ds.getD b []).getD i "")
def Cr(n i:Nat):ζ:=((i:Nat):Int):: (Ah n).filter λj=>!decide (j=((i:Nat):Int))
def C9(ρ:RS)(ds:ξ)(xs:LS)(b i:Nat):ξ:=(EC ρ xs).set i (IQ ρ (xs.getD i "") ((ds.getD b []).getD i ""))
def getD_some{l:LS}{i:Nat}(h:i<↑l):l[i]?≈(l.getD i ""):=by
 rw[Yg,Yb h];rfl
def wZ{ρ:RS}{ds:ξ}{n a b:Nat}(la:↑(ds.getD a [])=n)(lb:↑(ds.getD b [])=n)(w:wB ρ ds a b=false):HL ρ ds n a b≠[]:=λz=>by
 have:wB ρ ds a b=true:=by
  unfold wB;rw[OC];intro i x y hx hy;have hi:=(Ye.mp hx).1;rw[getD_some hi]at hx;rw[getD_some (by omega)]at hy;injection hx with hx;injection hy with hy;refine EU.mp ?_;cases h:Av ρ x y with
  | true=>rfl
  | false =>
   have m:i∈HL ρ ds n a b:=Cc.mpr ⟨CA.mpr (by omega),by rw[hx,hy,h];rfl⟩;rw[z]at m;cases m
 rw[this]at w;cases w
def QW{ρ:RS}{n:Nat}{xs:LS}(g:Ab ρ)(gc:Bh ρ n xs):DJ ρ xs (Ah n) (EC ρ xs):=by
 refine⟨by rw[gc.len],by rw[Ya],λi x c hx hc=>?_⟩;rw[Yh,hx]at hc;injection hc with hc;rw[<- hc];exact bj (UP ρ x) (dP g x)
def q8{n i:Nat}(hi:i<n):(Cr n i).Perm (Ah n):=by
 have nd:(Ah n).Nodup:=by
  unfold Ah;rw[Ea,Ko];exact(Ea.mp List.nodup_range).imp λh z=>h (by omega)
 have m:((i:Nat):Int)∈Ah n:=Yk.mpr ⟨i,CA.mpr hi,Y⟩;unfold Cr;have e:(Ah n).filter (λj=>!decide (j=((i:Nat):Int)))=(Ah n).erase ((i:Nat):Int):=by
  rw[nd.erase_eq_filter];refine List.filter_congr λj _=>?_;by_cases h:j=((i:Nat):Int)
  ·simp[h]
  ·simp[h]
 rw[e];exact(List.perm_cons_erase m).symm
def US{ρ:RS}{n i b:Nat}{ds:ξ}{xs:LS}(g:Ab ρ)(gc:Bh ρ n xs)(hi:i<n):DJ ρ xs (Cr n i) (C9 ρ ds xs b i):=by
 have P:=QW g gc;refine⟨by rw[gc.len];exact q8 hi,by unfold C9;rw[Kv];exact P.len,λj x c hx hc=>?_⟩;unfold C9 at hc;by_cases q:i=j
 ·subst q;have Gd:=hx;rw[getD_some (by have:=gc.len;omega)]at Gd;injection Gd with Gd;rw[Jn (by rw[Ya];have:=gc.len;omega)]at hc;injection hc with hc;rw[<- hc,Gd];exact tR g _ _
 ·rw[MO q]at hc;exact P.line j x c hx hc
theorem Wl{W:Nat->Nat->Bool}:∀(row:LN) {l e:LN},nx W ↑l l=(row,e)->∃ left,Bl W left=e/\↑e≠1/\(row++left).Perm l
 | [],l,e,h=>by
  obtain⟨a,b⟩:=wH h;exact⟨l,a,b,Kt _⟩
 | k :: r,l,e,h=>by
  obtain⟨m1,h2⟩:=kJ h;have kl:k∈l:=Kf k (by rw[m1];exact .head _);obtain⟨left,a,b,p⟩:=Wl r h2;exact⟨left,a,b,(List.Perm.cons k p).trans (List.perm_cons_erase kl).symm⟩
section
variable {ρ:RS}{n:Nat}{ds:ξ}{xs:LS}{row θ left:LN}
def gL{ord:ζ}{cs:ξ}(g:Ab ρ)(gd:Ba ρ n ds)(gc:Bh ρ n xs)(L:DJ ρ xs ord cs)(e:nx (wB ρ ds) ↑(AR ρ ds xs) (AR ρ ds xs)=(row,θ))(pl:(row++left).Perm (AR ρ ds xs)){j y:Nat}(hj:(BY ρ ds xs ord cs)[j]?≈y):(↑row<=j↔y∈left):=by
 have fnd:=Kb ρ ds xs;have rn:(BY ρ ds xs ord cs).Nodup:=(Kj ρ ds xs ord cs).nodup_iff.mpr fnd;have rt:=dQ (ds:=ds) g gd gc L;rw[e]at rt;have rt:(BY ρ ds xs ord cs).take ↑row=row:=rt;have pnd:(row++left).Nodup:=pl.nodup_iff.mpr fnd;have yf:y∈AR ρ ds xs:=(Kj _ _ _ _ _).mem_iff.mp (Yd hj);constructor
 ·intro hl
  rcases Yp.mp (pl.mem_iff.mpr yf)with z | z
  ·rw[<- rt]at z;obtain⟨i,hi⟩:=D0 z;have il:=(Ye.mp hi).1;rw[BU]at il;rw[YU (by omega)]at hi;obtain⟨a1,a2⟩:=Ye.mp hi;obtain⟨b1,b2⟩:=Ye.mp hj;have:=(List.getElem_inj rn).mp (a2.trans b2.symm);omega
  ·exact z
 ·intro hy;refine Kr λno=>?_;have:y∈row:=by rw[<- rt];exact Yd (i:=j) (by rw[YU (by omega)];exact hj)
  exact(Iq.mp pnd).2.2 y this y hy rfl
def wR{a b i:Nat}{r:LN}(g:Ab ρ)(gd:Ba ρ n ds)(gc:Bh ρ n xs)(e:nx (wB ρ ds) ↑(AR ρ ds xs) (AR ρ ds xs)=(row,θ))(pl:(row++left).Perm (AR ρ ds xs))(ha:a∈left)(hb:b∈left)(ne:a≠b)(hp:HL ρ ds n a b=i :: r):i<n/\(BY ρ ds xs (Cr n i) (C9 ρ ds xs b i))[↑row]?≠some a:=by
 obtain⟨hi,hr⟩:=Cc.mp (show i∈HL ρ ds n a b by rw[hp];exact .head _);have hi:=CA.mp hi;refine⟨hi,λh=>?_⟩;have lu:DJ ρ xs (Cr n i) (C9 ρ ds xs b i):=US g gc hi;have af:a∈AR ρ ds xs:=pl.mem_iff.mp (Yw _ ha);have bf:b∈AR ρ ds xs:=pl.mem_iff.mp (Yw _ hb);obtain⟨j,hj⟩:=D0 ((Kj ρ ds xs (Cr n i) (C9 ρ ds xs b i)).mem_iff.mpr bf);have jr:=(gL g gd gc lu e pl hj).mpr hb;have jr:↑row<j:=Nat.lt_of_le_of_ne jr λz=>by
  rw[<- z,h]at hj;injection hj with hj;exact ne hj
 obtain⟨h1,h2⟩:=Ye.mp h;obtain⟨j1,j2⟩:=Ye.mp hj;have bad:=Jp.mp (Wy ρ ds xs (Cr n i) (C9 ρ ds xs b i)) ↑row j h1 j1 jr;rw[h2,j2]at bad;obtain⟨dy,xy,cy,a1,a2,a3,a4,a5,a6,a7⟩:=Lu g gd gc lu bf hi;obtain⟨dx,xx,cx,b1,b2,b3,b4,b5,b6,b7⟩:=Lu g gd gc lu af hi;have NR:=a3;unfold C9 at NR;rw[Jn (by rw[Ya];have:=gc.len;omega)]at NR;injection NR with NR;have lt:Dc (ds.getD b []) (C9 ρ ds xs b i) (i:Nat)<Dc (ds.getD a []) (C9 ρ ds xs b i) (i:Nat):=by
  unfold Dc;rw[Yt,a6,b6,a7,<- NR];refine Int.ofNat_lt.mpr (qV (by rw[NR];exact a5) ?_ λz=>?_)
  ·rw[a6];exact .refl _
  ·rw[b6,EU.mpr z]at hr;cases hr
 unfold Hc Cr at bad;rw[Yr,Yr,HT.lexLt_cons,if_neg (by omega),Jb lt]at bad;cases bad
end
theorem gW{α β:Type}{F:α->β->Prop}{x:α}{y:β}(h:F x y):∀ {a:List α}{b:List β}(i:Nat),Paired F a b->Paired F (a.set i x) (b.set i y)
 | _,_,_,.nil=>.nil
 | _,_,0,.cons _ t=>.cons h t
 | _,_,i + 1,.cons q t=>.cons q (gW h i t)
theorem eZ{α:Type}{x:α}:∀ {l:List α}(i:Nat),l.Nodup->x∉l->(l.set i x).Nodup
 | [],_,h,_=>h
 | a :: l,0,h,n=>Yu.mpr ⟨λz=>n (.tail _ z),(Yu.mp h).2⟩
 | a :: l,i + 1,h,n=>by
  obtain⟨h1,h2⟩:=Yu.mp h;refine Yu.mpr ⟨λz=>?_,eZ i h2 λz=>n (.tail _ z)⟩
  rcases Of z with e | e
  ·exact h1 e
  ·exact n (by rw[<- e];exact .head _)
def Ve(ρ:RS)(ds:ξ)(a b:Nat):V->Bool
 | .int i=>!Av ρ ((ds.getD a []).getD i.toNat "") ((ds.getD b []).getD i.toNat "")
 | _=>false
theorem jx(ρ:RS)(ds:ξ)(a b:Nat):∀ l:LN,((l.map AI).filter (Ve ρ ds a b)).map (λv=>v)=(l.filter λi=>!Av ρ ((ds.getD a []).getD i "") ((ds.getD b []).getD i "")).map AI
 | []=>rfl
 | k :: r=>by
  have:=jx ρ ds a b r;rw[Hh]at this ⊢;rw[Yr,Di,Di,this];show(if(!Av ρ ((ds.getD a []).getD ((k:Nat):Int).toNat "") ((ds.getD b []).getD ((k:Nat):Int).toNat ""))=true then _ else _)=_;rw[Yt];split <;> rfl
def Vh(i:Nat):V->Bool
 | .int j=>!decide (j=((i:Nat):Int))
 | _=>false
theorem kI(i:Nat):∀ l:ζ,((l.map V.int).filter (Vh i)).map (λv=>v)=(l.filter λj=>!decide (j=((i:Nat):Int))).map V.int
 | []=>rfl
 | k :: r=>by
  have:=kI i r;rw[Hh]at this ⊢;rw[Yr,Di,Di,this];show(if(!decide (k=((i:Nat):Int)))=true then _ else _)=_;split <;> rfl
def sk(n:Nat):(Ah n).map V.int=(List.range n).map AI:=by
 unfold Ah;rw[Bu];rfl
def vn{m i:Nat}(h:i<m):JC m ((i:Nat):Int)≈i:=by
 unfold JC;rw[if_pos (by omega),if_pos (by omega),Yt]
def i5(C B T:ε)(lp:Pos):Sp:=λvs H Q _=>∃(p k t:ε) (ρ:RS) (n:Nat) (ds:ξ) (xs:LS) (a b i:Nat) (r:LN),vs=[.ref p,.ref t,.int (a:Nat),.int (b:Nat)]/\Cb C B H p k ρ n ds/\Ab ρ/\Ba ρ n ds/\n<=4/\H t≈(.tup (xs.map V.str))/\Bh ρ n xs/\ET T lp H/\a∈AR ρ ds xs/\b∈AR ρ ds xs/\HL ρ ds n a b=i :: r /\
 ∀ lu H',Bf T H H'->ET T lp H'->FO H H' lu (Cr n i) (C9 ρ ds xs b i)->Q (.ref lu) H'
abbrev Sf:LS:=["board","call","one","other","kinds","one_kinds","other_kinds","places","parted","order","lines"]
abbrev Qn:LS:=["board","call","one","other"]
def iX:Ad Sf Qn (AJ L_):=by nofun
def yV:(["place","kinds","one_kinds","other_kinds"]:LS).Nodup:=by rfl'
def v9:(["place","parted"]:LS).Nodup:=by rfl'
set_option maxHeartbeats 8000000 in
def tI{lp:Pos}(F:Def K mg "lineup_against" L_ Qn f fd)(list:mg "list"=none)(range:mg "range"=none)(TC:C0 K C)(TB:Gn K B)(MK:Nk K B fK fdK)(MD:Ti K B fD fdD)(MP:QI K B fPl fdPl)(MU:P1 K C fU fdU)(GU:⋯ 3 fU fdU ["self","one","other"] (QE C))
  (DP:Def K mg "plain_line" Km HC fP fdP) (GP:⋯ 7 fP fdP HC (Tu C T lp)) (DA:Def K mg "line_ahead" OK Qr fA fdA) (GA:⋯ 8 fA fdA Qr (cP C T lp)):⋯ 9 f fd Qn (i5 C B T lp):=by
 have GK:⋯ 1 fK fdK ["self"] (Ly C B):=N9 MK.fn TB;have GD:⋯ 1 fD fdD ["self"] (QM C B):=UG MD.fn TB list;have GPl:⋯ 1 fPl fdPl ["self"] (N5 C B):=QZ MP.fn TB
 nomatch F.fn.ok iX
 ·obtain⟨p,k,t,ρ,n,ds,xs,a,b,i,r,rfl,_⟩:=h;rfl
 ·obtain⟨p,k,t,ρ,n,ds,xs,a,b,i,r,rfl,bd,g,gd,n4,ht,gc,hT,af,bf,hp,q⟩:=h;obtain⟨dx,ts,us,h1,h2,h3,h4⟩:=bd.ex;have nd:=iX.nd;have Ac:AV 1 _:=hr.mono (by decide);have D_:AV 3 _:=hr.mono (by decide);have NG:AV 7 _:=hr.mono (by decide);have xl:=gc.len
  ac_nf
  refine'⟨_,(pS (Bt (i:=4) nd rfl (Or.inr rfl) (EX (pv 0) TB.cl MK.me GK Ac MK.b .nil BS))
   (pS (Bt (i:=5) nd rfl (Or.inr rfl) (AN (r:=A6 K) Ak (EX (pv 0) TB.cl MD.me GD Ac MD.b .nil BS) (pv 2) (λ_ _=>rfl)))
   (pS (Bt (i:=6) nd rfl (Or.inr rfl) (AN (r:=A6 K) Ak (EX (pv 0) TB.cl MD.me GD Ac MD.b .nil BS) (pv 3) (λ_ _=>rfl)))
   (pS (sE 7 nd (Qc rfl (EX (pv 0) TB.cl MP.me GPl Ac MP.b .nil BS) (by rfl) list (by rfl) range))
   (pS (Bt (i:=8) nd rfl (Or.inr rfl) (AN (r:=A6 K) Ak ?e1 AE (λ_ _=>rfl)))
   (pS (sE 9 nd (Aj WU (CI (pC (pv 8) AB)) ?e2))
   (pS ?e3
   (pS (Td (AO DA GA hr (pC (pv 4) (pC (AN (r:=Ax K) A0 (pv 1) (pv 8) (λ_ _=>rfl)) (pC (AN (r:=Ax K) A0 (pv 6) (pv 8) (λ_ _=>rfl)) AB)))) (WW (pv 10) (pv 8) XE))
   (AG (AS (Ca (pC (pv 9) (pC (pv 10) AB))))))))))))),?_⟩
  case e1=>exact(BO ["place"] ["kinds","one_kinds","other_kinds"] [4,5,6] (λ_=>A3 (osc:=AJ L_) (on:=Sf) (by rfl') rfl rfl rfl) (Bn (pv 7)) (λC s H fp=>Az (i:=0) yV rfl (Or.inl rfl) (Or.inr rfl))
    (λC s H fp=>F3 (Bs (BZ (E1 (pv 1) TC.cl MU.me GU D_ MU.b .nil BS (pC (AN (r:=Ax K) A0 (pv 2) (pv 0) (λ_ _=>rfl)) (pC (AN (r:=Ax K) A0 (pv 3) (pv 0) (λ_ _=>rfl)) AB)))))) (λC s H fp=>pv 0))
  case e2=>exact(BO ["place"] ["parted"] [8] (λ_=>A3 (osc:=AJ L_) (on:=Sf) (by rfl') rfl rfl rfl) (Bn (pv 7)) (λC s H fp=>Az (i:=0) v9 rfl (Or.inl rfl) (Or.inr rfl)) (λC s H fp=>F3 (Al Gm (pv 0) (pv 1) (Ai _))) (λC s H fp=>pv 0))
  case e3=>exact(L6 (k:=10) ["word"] ["kinds"] [4] nd rfl rfl (λ_=>A3 (osc:=AJ L_) (on:=Sf) (by rfl') rfl rfl rfl) (HZ (pv 1)) (λC s H fp=>Az (i:=0) jq rfl (Or.inl rfl) (Or.inr rfl)) (λC s H fp=>Br) (λC s H fp=>AO DP GP NG (pC (pv 1) (pC (pv 0) AB))))
  exists let b:=AF _ a;let c:=AF _ b;let e:=AF _ c;let f:=AF _ e;let g:=AF _ f;let h:=AF _ g;let i:=AF _ h;AF _ i _ _ _
  obtain⟨al,_⟩:=FT af;obtain⟨bl,bw⟩:=FT bf;have la:=Nq gd al;have lb:=Nq gd bl;obtain⟨hi,_⟩:=Cc.mp (show i∈HL ρ ds n a b by rw[hp];exact .head _);have hi:=CA.mp hi;refine⟨Z,p,dx,Z,h1,N8 _ _ _,p,k,ρ,n,ds,Y,bd,?_⟩;refine⟨Z,p,dx,Z,h1,QV _ _ _,p,k,ρ,n,ds,Y,bd,λl1 SQ Bd KC=>?_⟩;have s1:AA H (upd H l1 (.lst SQ)):=Am Bd;have BB:(upd H l1 (.lst SQ)) l1≈(.lst SQ):=uS;generalize upd H l1 (.lst SQ)=H1 at s1 BB;obtain⟨ta,hat,hta⟩:=Ke KC s1 al;refine⟨Z,l1,Q,Z,Y,SqL.of BB,hat,?_⟩;refine⟨Z,p,dx,Z,s1 _ _ h1,QV _ _ _,p,k,ρ,n,ds,Y,bd.mono s1,λl2 SO CO Gh=>?_⟩;have s2:AA H1 (upd H1 l2 (.lst SO)):=Am CO;have CQ:(upd H1 l2 (.lst SO)) l2≈(.lst SO):=uS;generalize upd H1 l2 (.lst SO)=H2 at s2 CQ;obtain⟨tb,hbt,htb⟩:=Ke Gh s2 bl;have BF:=s1.trans s2;refine⟨Z,l2,Q,Z,Y,SqL.of CQ,hbt,?_⟩;refine⟨Z,p,dx,Z,BF _ _ h1,QY _ _ _,p,k,ρ,n,ds,Y,bd.mono BF,Z,W,W,λl3 Ck=>?_⟩;rw[Yt,T_];have s3:AA H2 (upd H2 l3 (.lst ((Ah n).map V.int))):=Am Ck;have Cz:(upd H2 l3 (.lst ((Ah n).map V.int))) l3≈(.lst ((Ah n).map V.int)):=uS;generalize upd H2 l3 (.lst ((Ah n).map V.int))=H3 at s3 Cz;have A4:=BF.trans s3;have ZK:=s3 _ _ (s2 _ _ hta);have Rh:=s3 _ _ htb;have O8:=h2.mono A4;have atk:∀ {d:Nat} {j:Nat},d<↑ds->j<n->BC ((ds.getD d []).map V.str) ((j:Nat):Int)≈(.str ((ds.getD d []).getD j ""))/\(ds.getD d []).getD j ""∈ρ.map (·.1):=λ{d j} hd hj=>by
   have e:=getD_some (l:=ds.getD d []) (i:=j) (by rw[Nq gd hd];exact hj);refine⟨Dx (by omega) ?_,gJ gd hd _ (Yd e)⟩;rw[Yt,Yh,e];rfl
  have My:=Cz;rw[sk]at My;refine⟨Z,l3,Y,⟨_,SqL.of My⟩,EG (B4 (xs:=(List.range n).map AI)) (sL (by rw[Ya,Ec];omega)) (Ve ρ ds a b) (λv=>v) (λH' s'=>s'.seq (SqL.of My)) ?_ ?_ ?_⟩
  ·intro v H' R s' hv Ag;obtain⟨j,hj,rfl⟩:=Yk.mp hv;have hj:=CA.mp hj;obtain⟨IH,d',a',o',Z0,CN,R4,El,_⟩:=(O8.mono s').ex;obtain⟨e1,m1⟩:=atk al hj;obtain⟨e2,m2⟩:=atk bl hj;refine⟨Z,k,IH,Z,El,QL _ _,Z,Z,ta,Q,Z,Y,AH.of (s' _ _ ZK),e1,Z,Z,tb,Q,Z,Y,AH.of (s' _ _ Rh),e2,k,ρ,_,Z,O8.mono s',g,m1,m2,Z,?_⟩;have e:Ve ρ ds a b (AI j)=!Av ρ ((ds.getD a []).getD j "") ((ds.getD b []).getD j ""):=by
    show(!Av ρ ((ds.getD a []).getD ((j:Nat):Int).toNat "") ((ds.getD b []).getD ((j:Nat):Int).toNat ""))=_;rw[Yt]
   have Hr:=Ag H' (AA.refl _);rw[e]at Hr;exact Hr
  ·intro v H' R s' _ _ Ag;exact⟨Z,Ag H' (AA.refl _)⟩
  intro l4 H4 DV s4 Ek;rw[jx]at Ek;have Ek:H4 l4≈(.lst ((HL ρ ds n a b).map AI)):=Ek;rw[hp]at Ek;refine⟨l4,Q,AI i,Y,Y,SqL.of Ek,Dx (Int.le_refl _) rfl,?_⟩;refine⟨Z,G,λl5 KA=>?_⟩;have s5:AA H4 (upd H4 l5 (.lst [AI i])):=Am KA;have NN:(upd H4 l5 (.lst [AI i])) l5≈(.lst [AI i]):=uS;generalize upd H4 l5 (.lst [AI i])=H5 at s5 NN;have av:=s5 _ _ (s4 _ _ Cz);have rlen:↑(Ah n)=n:=by unfold Ah;rw[Ya,Ec]
  refine⟨Z,l3,Y,⟨_,SqL.of av⟩,EG (B4 (xs:=(Ah n).map V.int)) (sL (by rw[Ya];omega)) (Vh i) (λv=>v) (λH' s'=>s'.seq (SqL.of av)) ?_ ?_ ?_⟩
  ·intro v H' R s' hv Ag;obtain⟨j,hj,rfl⟩:=Yk.mp hv;refine⟨Z,Z,Y,Z,?_⟩;have e:Vh i (.int j)=!decide (V.int j=AI i):=by
    show(!decide (j=((i:Nat):Int)))=_;exact congrArg _ (Kz.mpr ⟨λz=>by rw[z];rfl,λz=>by injection z⟩)
   have Hr:=Ag H' (AA.refl _);rw[e]at Hr;exact Hr
  ·intro v H' R s' _ _ Ag;exact⟨Z,Ag H' (AA.refl _)⟩
  intro l6 H6 PY s6 Pk;rw[kI]at Pk;have fl:=Hg (λj=>!decide (j=((i:Nat):Int))) (Ah n);refine⟨l5,l6,_,Z,Y,s6 _ _ NN,Pk,sL (by rw[Ya];show 1 + _<=100000;omega),λl7 V1=>?_⟩;have eo:[AI i]++((Ah n).filter λj=>!decide (j=((i:Nat):Int))).map V.int=(Cr n i).map V.int:=rfl;rw[eo];have s7:AA H6 (upd H6 l7 (.lst ((Cr n i).map V.int))):=Am V1;have Lg:(upd H6 l7 (.lst ((Cr n i).map V.int))) l7≈(.lst ((Cr n i).map V.int)):=uS;generalize upd H6 l7 (.lst ((Cr n i).map V.int))=H7 at s7 Lg;have Zt:=s4.trans (s5.trans (s6.trans s7));have Iw:=A4.trans Zt;have Pd:=hT.mono Iw;have lx:H l7=none:=(A4.trans (s4.trans (s5.trans s6))).free V1;refine⟨Z,t,Y,⟨_,AH.of (Iw _ _ ht)⟩,gp rfl (Iw _ _ ht) (by omega) (h2.mono Iw) Pd (λx H' R hx kd tT hR=>⟨Z,Z,k,ρ,x,Y,kd,g,gc.known x hx,tT,hR⟩) λD H8 bs hD s8 Pc HG nD fD pr=>?_⟩;have aI:∀ {b:ε} {us:LV},H7 b≈(.tup us)->H8 b≈(.tup us):=λe=>Eu Pd.tbl s8 e (λ_ z=>nomatch z);have hx:xs[i]?≈(xs.getD i ""):=getD_some (by omega);have hatx:BC (xs.map V.str) ((i:Nat):Int)≈(.str (xs.getD i "")):=Dx (by omega) (by rw[Yt,Yh,hx];rfl);obtain⟨e2,m2⟩:=atk bl hi;have re:Graph.Reach (An ρ) (xs.getD i "") ((ds.getD b []).getD i ""):=by
   rw[OC]at bw;exact bw i _ _ hx (getD_some (by omega))
  refine⟨Z,Z,Z,t,Q,Z,Y,AH.of (aI (Iw _ _ ht)),hatx,Z,Z,tb,Q,Z,Y,AH.of (aI (Zt _ _ Rh)),e2,k,ρ,_,Z,(h2.mono Iw).monoT Pd.tbl s8,g,gc.known _ (Yd hx),m2,re,Pc,λD9 H9 S7 s9 mz nI=>?_⟩;have Rz:=Eu Pc.tbl s9 HG (λ_ z=>nomatch z);have hl:=A_ pr;rw[Ya]at hl;refine⟨Z,Z,D,bs.map V.ref,_,i,Y,Y,Rz,vn (by rw[Ya];omega),?_⟩;rw[show(bs.map V.ref).set i (.ref D9)=(bs.set i D9).map V.ref from List.map_set.symm];have Z9:D9≠D:=Yx (AK HG S7);have lJ:D9∉bs:=λz=>by
   obtain⟨j,hj⟩:=D0 z;obtain⟨c,_,e⟩:=B3 pr hj;rw[e]at S7;cases S7
  have ND:∀ b u,b≠D->H9 b≈u->(upd H9 D (.lst ((bs.set i D9).map V.ref))) b≈u:=λb u hb e=>by rw[AD hb];exact e
  have KD:(upd H9 D (.lst ((bs.set i D9).map V.ref))) D≈(.lst ((bs.set i D9).map V.ref)):=uS;have Mx:ET T lp (upd H9 D (.lst ((bs.set i D9).map V.ref))):=mz.keep λc u hu e=>ND c u (λz=>by rw[z,Rz]at e;rcases hu with⟨_,rfl⟩ | ⟨_,_,rfl⟩ <;> cases e) e;generalize upd H9 D (.lst ((bs.set i D9).map V.ref))=CC at ND KD Mx;have sT:Bf T H CC:=λc u hc e=>ND c u (AK (Iw _ _ e) hD) (s9 c u hc (s8 c u hc (Iw _ _ e)));refine⟨Z,Z,U,λlu hlu=>?_⟩;have Cy:AA CC (upd CC lu (.tup [.ref l7,.ref D])):=Am hlu;have ly:l7≠D:=AK Lg hD;have f9:H7 D9=none:=Ln Pd.tbl s8 Pc.tbl S7;obtain⟨ff,nn⟩:=jt (bs:=bs.set i D9) lx ⟨_,Lg⟩ (λb hb=>Iw.free hb) hD (λc hc=>by
   rcases Of hc with e | e
   ·exact fD c e
   ·rw[e];exact f9) (Yu.mpr ⟨λz=>by
    rcases Of z with e | e
    ·exact(Yu.mp nD).1 e
    ·exact Z9 e.symm,eZ i (Yu.mp nD).2 lJ⟩)
  refine q lu _ (sT.trans Cy.t) (Mx.mono Cy) ⟨l7,D,_,Ln hT.tbl sT Mx.tbl hlu,ff,nn,⟨uS,Cy _ _ (ND _ _ ly (Eu Pc.tbl s9 (Eu Pd.tbl s8 Lg (λ_ z=>nomatch z)) (λ_ z=>nomatch z))),Cy _ _ KD,?_⟩⟩;unfold C9;have nDb:∀ c∈bs,c≠D:=λc hc z=>(Yu.mp nD).1 (by rw[<- z];exact hc);exact gW (F:=λ(c:LS) (b:ε)=>(upd CC lu (.tup [.ref l7,.ref D])) b≈(.lst (c.map V.str))) (Cy _ _ (ND _ _ Z9 nI)) i (Paired.mapP (JV pr) λc b' ⟨m',h'⟩=>Cy _ _ (ND _ _ (nDb b' m') (Eu Pc.tbl s9 h' (λ_ z=>nomatch z))))
def jm{ρ:RS}{xs:LS}{ord:ζ}{cs:ξ}(g:Ab ρ)(h4:↑xs<=4)(h:DJ ρ xs ord cs):Fq ord cs:=by
 refine⟨?_,by rw[h.len];omega,λc hc=>?_⟩
 ·rw[h.ord.length_eq];unfold Ah;rw[Ya,Ec];omega
 ·obtain⟨i,hi⟩:=D0 hc;have il:=(Ye.mp hi).1;rw[h.len]at il;have L:=h.line i _ c (Yb il) hi;refine⟨λz hz=>QG (UL g z (Ih (L.1.mem_iff.mp hz))),?_⟩;have:=Nt g (xs[i]);rw[L.1.length_eq];omega
def NT.l{H H':Hp}(s:NT H H'){b:ε}{us:LV}(h:H b≈(.lst us)):H' b≈(.lst us):=s b _ (λ_ z=>nomatch z) h
def NT.t{H H':Hp}(s:NT H H'){b:ε}{us:LV}(h:H b≈(.tup us)):H' b≈(.tup us):=s b _ (λ_ z=>nomatch z) h
def kU(H0 H:Hp)(t1 t2:ε)(o1:ζ)(c1:ξ)(o2:ζ)(c2:ξ):Prop:=∃(lo1 Fd:ε) (Fm:τ) (Fb Fc:ε) (Eo:τ),(∀ b∈(lo1 :: Fd :: Fm)++(Fb :: Fc :: Eo),H0 b=none)/\((lo1 :: Fd :: Fm)++(Fb :: Fc :: Eo)).Nodup/\EL H t1 lo1 Fd Fm o1 c1/\EL H t2 Fb Fc Eo o2 c2
def vz{H0 H4 H':Hp}{t1 t2:ε}{o1 o2:ζ}{c1 c2:ξ}(a:FO H0 H4 t1 o1 c1)(b:FO H4 H' t2 o2 c2)(k:NT H4 H')(s:∀ c,H4 c=none->H0 c=none):kU H0 H' t1 t2 o1 c1 o2 c2:=by
 obtain⟨lo1,Fd,Fm,f1,f2,n1,h1⟩:=a;obtain⟨Fb,Fc,Eo,g1,g2,n2,h2⟩:=b;refine⟨lo1,Fd,Fm,Fb,Fc,Eo,λc hc=>?_,Iq.mpr ⟨n1,n2,λx hx y hy z=>?_⟩,h1.keep λb o _ hn e=>k b o hn e,h2⟩
 ·rcases Yp.mp hc with z | z
  ·exact f2 c z
  ·exact s c (g2 c z)
 ·obtain⟨us,e⟩:=h1.live hx;rw[z,g2 y hy]at e;cases e
def X7(θ:LN)(first:Nat):Nat:=if θ.getD 0 0=first then θ.getD 1 0 else θ.getD 0 0
def j_(C B T U:ε)(lp lr:Pos):Sp:=λvs H Q _=>∃(p k t:ε) (ρ:RS) (n:Nat) (ds:ξ) (xs:LS) (row θ:LN),vs=[.ref p,.ref t]/\Cb C B H p k ρ n ds/\Ab ρ/\Ba ρ n ds/\n<=4/\↑ds<=24/\H t≈(.tup (xs.map V.str))/\Bh ρ n xs/\EJ T U lp lr H/\nx (wB ρ ds) ↑(AR ρ ds xs) (AR ρ ds xs)=(row,θ) /\
 (θ=[]->∀ H',NT H H'->EJ T U lp lr H'->Q .non H')/\(θ≠[]->∀(pt u1 u2:ε) (first b i:Nat) (r:LN) (H':Hp),NT H H'->EJ T U lp lr H'->H' pt≈(.tup [.ref u1,.ref u2])->kU H H' u1 u2 (Ah n) (EC ρ xs) (Cr n i) (C9 ρ ds xs b i)->(BY ρ ds xs (Ah n) (EC ρ xs))[↑row]?≈first->b=X7 θ first->HL ρ ds n first b=i :: r->i<n->(BY ρ ds xs (Cr n i) (C9 ρ ds xs b i))[↑row]?≠some first->Q (.ref pt) H')
abbrev lM:LS:=["board","call","answer","row","behind","plain","first","other"]
def Uv:Ad lM DM (AJ N4):=by nofun
set_option maxHeartbeats 8000000 in
def sS{lp lr:Pos}(F:Def K mg "parting" N4 DM f fd)(len:mg "len"=none)(DN:Def K mg "nexts" Nn ["board","call"] fN fdN)(GN:⋯ 7 fN fdN ["board","call"] (cW C B))(DL:Def K mg "plain_lineup" Qi DM fL fdL)(GL:⋯ 8 fL fdL DM (kB C B T lp))
  (DR:Def K mg "ranked" Nw ME fR fdR) (GR:⋯ 8 fR fdR ME (kC C B U lr)) (DA:Def K mg "lineup_against" L_ Qn fA fdA) (GA:⋯ 9 fA fdA Qn (i5 C B T lp)):⋯ 10 f fd DM (j_ C B T U lp lr):=by
 nomatch F.fn.ok Uv
 ·obtain⟨p,k,t,ρ,n,ds,xs,row,θ,rfl,_⟩:=h;rfl
 ·obtain⟨p,k,t,ρ,n,ds,xs,row,θ,rfl,bd,g,gd,n4,d24,ht,gc,tb,enx,q0,q1⟩:=h;have nd:=Uv.nd;have hu:=hr.units;have NG:AV 7 _:=hr.mono (by decide);have PK:AV 8 _:=hr.mono (by decide);have xl:=gc.len
  ac_nf
  refine'⟨_,(pS (sE 2 nd (AO DN GN NG (pC (pv 0) (pC (pv 1) AB))))
   (pS (sE 3 nd (AN (r:=Ax K) A0 (pv 2) AE (λ_ _=>rfl)))
   (pS (sE 4 nd (AN (r:=Ax K) A0 (pv 2) AE (λ_ _=>rfl)))
   (pS (Ae (Al (wO hu) (pv 4) (Ca (pC FQ AB)) (Ai _)) (AG (AS Nh)) Af)
   (pS (sE 5 nd (AO DL GL PK (pC (pv 0) (pC (pv 1) AB))))
   (pS (sE 6 nd (AN (r:=A6 K) Ak (AO DR GR PK (pC (pv 0) (pC (pv 1) (pC (pv 5) AB)))) (Aa B9 (by rfl) len Yy (pC (pv 3) AB)) (λ_ _=>rfl)))
   (pS (sE 7 nd (p_ (Al Cs (AN (r:=Ax K) A0 (pv 4) AE (λ_ _=>rfl)) (pv 6) (Ai _)) (AN (r:=Ax K) A0 (pv 4) AE (λ_ _=>rfl)) (AN (r:=Ax K) A0 (pv 4) AE (λ_ _=>rfl))))
   (AG (AS (Ca (pC (pv 5) (pC (AO DA GA hr (pC (pv 0) (pC (pv 1) (pC (pv 6) (pC (pv 7) AB))))) AB)))))))))))),?_⟩
  exists let b:=AF _ a;let c:=AF _ b;let e:=AF _ c;let f:=AF _ e;let g:=AF _ f;let h:=AF _ g;AF _ h _ _ _
  refine⟨Z,Z,p,k,t,ρ,n,ds,xs,Y,bd,g,gd,n4,ht,gc,λtf l1 t1 H1 Bd s1 IF BB PJ=>?_⟩;rw[enx]at BB PJ;refine⟨Z,tf,Q,Z,Y,AH.of IF,Y,Z,tf,Q,Z,Y,AH.of IF,Y,?_⟩;refine⟨Z,G,λt2 Bp=>?_⟩;have s2:AA H1 (upd H1 t2 (.tup [.str "none"])):=Am Bp;have CQ:(upd H1 t2 (.tup [.str "none"])) t2≈(.tup (Ll [])):=uS;generalize upd H1 t2 (.tup [.str "none"])=H2 at s2 CQ;have BF:=s1.trans s2;have GG:=s2 _ _ PJ;refine⟨Q,dS GG,dS CQ,dO _ _,dO _ _,Z,?_⟩;obtain⟨left,em,e1,pl⟩:=Wl row enx
  match θ,em,e1,enx,q0,q1,GG with
  | [],em,e1,enx,q0,q1,GG =>
   rw[Ey];exact CG (q0 rfl H2 (AA.nt BF) (tb.mono BF))
  | [k1],em,e1,enx,q0,q1,GG=>exact absurd rfl e1
  | k1 :: k2 :: r,em,e1,enx,q0,q1,GG =>
   rw[show C8 (.tuple (KO (k1 :: k2 :: r))) (.tuple (KO []))=false from IV (λz=>by injection z with z;injection z with z1 z2;cases z2)];have SV:=tb.mono BF;refine Ap ⟨Z,Z,p,k,t,ρ,n,ds,xs,Y,bd.mono BF,g,n4,BF _ _ ht,gc,SV.p,λu1 H3 s3 ae Sh=>?_⟩;have n3:NT H2 H3:=Bf.nt s3 SV.p.tbl;have Vp:=(AA.nt BF).trans n3;have SU:=SV.plain s3 ae;have plup:=QW (xs:=xs) g gc;have fnd:=Kb ρ ds xs;have lnd:(row++left).Nodup:=pl.nodup_iff.mpr fnd;have l2:k1∈left/\k2∈left/\k1≠k2/\∀ x∈left,(x≠k1->wB ρ ds x k1=false)/\(x≠k2->wB ρ ds x k2=false):=by
    have m1:=Kf k1 (by rw[em];exact .head _:k1∈Bl (wB ρ ds) left);have m2:=Kf k2 (by rw[em];exact .tail _ (.head _):k2∈Bl (wB ρ ds) left);have mn:(Bl (wB ρ ds) left).Nodup:=List.Pairwise.filter _ (lnd.sublist (List.sublist_append_right _ _));rw[em]at mn;have no:∀ y,y∈Bl (wB ρ ds) left->∀ x∈left,x≠y->wB ρ ds x y=false:=λy hy x hx ne=>by
     have hy:=(Cc.mp hy).2;rw[Bool.not_eq_true',RB]at hy;cases h:wB ρ ds x y with
     | false=>rfl
     | true=>exact absurd (by rw[Jc ne,h];rfl) (hy x hx)
    exact⟨m1,m2,λz=>(Yu.mp mn).1 (by rw[z];exact .head _),λx hx=>⟨no k1 (by rw[em];exact .head _) x hx,no k2 (by rw[em];exact .tail _ (.head _)) x hx⟩⟩
   obtain⟨m1,m2,Fe,wn⟩:=l2;refine⟨Z,Z,Z,p,t,u1,ρ,n,ds,xs,_,Z,⟨⟨k,bd.monoN Vp⟩,g,gd,n4,d24,Vp.t ht,gc,Sh.at_,jm g (by omega) plup,plup,SU.r⟩,λlk H4 hlk s4 Pe mY=>?_⟩;have Sg:NT H3 H4:=Bf.nt s4 SU.r.tbl;have Vo:=Vp.trans Sg;have lY:NT H1 H4:=(AA.nt s2).trans (n3.trans Sg);have VX:=SU.rank s4 Pe;have rl:↑(BY ρ ds xs (Ah n) (EC ρ xs))=↑(row++left):=(Kj _ _ _ _ _).length_eq.trans pl.length_eq.symm;have rlt:↑row<↑(BY ρ ds xs (Ah n) (EC ρ xs)):=by
    have:0<↑left:=ML.mpr (λz=>by rw[z]at m1;cases m1);rw[rl,Bw];omega
   obtain⟨first,hfi⟩:∃ first,(BY ρ ds xs (Ah n) (EC ρ xs))[↑row]?≈first:=⟨_,Yb rlt⟩
   have fl:first∈left:=(gL g gd gc plup enx pl hfi).mp (Yf _)
   refine⟨Z,l1,Z,.inl (SqL.of (lY.l BB)),lk,Q,AI first,Y,Y,SqL.of mY,Dx (by omega) (by rw[Ya,Yt,Yh,hfi];rfl),?_⟩;have JE:=Sg.t (n3.t GG);have ho:∃ b,b=X7 (k1 :: k2 :: r) first/\b∈left/\first≠b/\wB ρ ds first b=false/\(decide (AI k1=AI first)=true->AI k2=AI b)/\(¬ decide (AI k1=AI first)=true->AI k1=AI b):=by
    by_cases e:k1=first
    ·refine⟨k2,(if_pos e).symm,m2,λz=>Fe (e.trans z),(wn first fl).2 (λz=>Fe (e.trans z)),λ_=>rfl,λno=>absurd (Jb (by rw[e])) no⟩
    ·refine⟨k1,(if_neg e).symm,m1,λz=>e z.symm,(wn first fl).1 (λz=>e z.symm),λy=>absurd (Je y) (λz=>e (by injection z with z;exact Int.ofNat.inj z)),λ_=>rfl⟩
   obtain⟨b,hb,bl,fb,wfb,o1,o2⟩:=ho;have af:first∈AR ρ ds xs:=pl.mem_iff.mp (Yw _ fl)
   have bf:b∈AR ρ ds xs:=pl.mem_iff.mp (Yw _ bl);obtain⟨i,rr,hp⟩:∃ i rr,HL ρ ds n first b=i :: rr:=by
    have:=wZ (Nq gd (FT af).1) (Nq gd (FT bf).1) wfb;cases h:HL ρ ds n first b with
    | nil=>exact absurd h this
    | cons i rr=>exact⟨i,rr,Y⟩
   obtain⟨hi,pne⟩:=wR g gd gc enx pl fl bl fb hp;have a1:BC (Ll (k1 :: k2 :: r)) 1≈(AI k1):=rfl;have a2:BC (Ll (k1 :: k2 :: r)) 2≈(AI k2):=rfl;refine⟨Z,t1,Q,Z,Y,AH.of JE,a1,Z,Y,Z,A2 (λy=>⟨Z,t1,Q,AI b,Y,Y,AH.of JE,by rw[a2,o1 y],?_⟩) (λy=>⟨Z,t1,Q,AI b,Y,Y,AH.of JE,by rw[a1,o2 y],?_⟩)⟩
   all_goals
    refine⟨Z,Z,Z,Z,Z,p,k,t,ρ,n,ds,xs,first,b,i,rr,Y,bd.monoN Vo,g,gd,n4,Vo.t ht,gc,VX.p,af,bf,hp,λu2 H5 s5 m_ Vq=>⟨U,λpt hpt=>?_⟩⟩;have lX:NT H4 H5:=Bf.nt s5 VX.p.tbl;have s6:AA H5 (upd H5 pt (.tup [.ref u1,.ref u2])):=Am hpt;have aA:=lX.trans (AA.nt s6);have nY:∀ c,H4 c=none->H c=none:=λc hc=>BF.free (Ln SV.p.tbl s3 ae.tbl (Ln SU.r.tbl s4 Pe.tbl hc));exact q1 (by simp) pt u1 u2 first b i rr _ (Vo.trans aA) ((VX.plain s5 m_).mono s6) uS (vz ((Sh.sub λc hc=>BF.free hc).monoN Sg) (Vq.monoN (AA.nt s6)) aA nY) hfi hb hp hi pne
def cZ:Sp:=λvs H Q _=>∃(l:ε) (ls:LS),vs=[.ref l]/\H l≈(.lst (ls.map V.str))/\↑ls<64/\∀ H',AA H H'->Q (.bl true) H'
def j9:Sp:=λvs H Q _=>∃(lu:ε) (ord:ζ) (cs:ξ),vs=[.ref lu]/\Cq H lu ord cs/\Fq ord cs/\∀ H',AA H H'->Q (.bl true) H'
abbrev Ee:LS:=["found"]
def za:Ad Ee Ee (AJ Qd):=by nofun
def zZ:Ad Ee Ee (AJ OF):=by nofun
def oS:(["word"]:LS).Nodup:=by rfl'
def qg:(["place"]:LS).Nodup:=by rfl'
def bW{α:Type}(l:List α):((l.map λ_=>true).all id)=true:=Bv.mpr λb hb=>by obtain⟨_,_,rfl⟩:=Yk.mp hb;rfl
def br{α:Type}(l:LV):((l.filter λ_=>true).map λ_=>V.bl true)=(l.map λ_=>true).map V.bl:=by
 rw[G5.mpr (λ_ _=>rfl),Bu];rfl
def ph(F:Def K mg "_law_texts" Qd Ee f fd)(isi:mg "isinstance"=none)(list:mg "list"=none)(str:mg "str"=none)(all:mg "all"=none):⋯ 1 f fd Ee cZ:=by
 nomatch F.fn.ok za
 ·obtain⟨l,ls,rfl,_⟩:=h;rfl
 ·obtain⟨l,ls,rfl,hl,Dq,q⟩:=h
  ac_nf
  refine'⟨_,AG (AS (Ng (Aa Kd (by rfl) isi Ys (pC (pv 0) (pC (JR (v:=.ty "list") (by rfl) list Io rfl) AB))) (Ni (Aa (r:=HM K λbs=>bs.all id) (Kc rfl) (by rfl) all Ky (pC ?e1 AB))))),?_⟩
  case e1=>exact(BO ["word"] [] [] (λ_=>A3 (osc:=AJ Qd) (on:=Ee) (by rfl') rfl rfl rfl) (Bn (pv 0)) (λC s H fp=>Az (i:=0) oS rfl (Or.inl rfl) (Or.inr rfl)) (λC s H fp=>Br) (λC s H fp=>Aa (r:=iW K) Kd (by rfl) isi Ys (pC (pv 0) (pC (JR (v:=.ty "str") (by rfl) str PyProof.Rows.boot_str rfl) AB))))
  refine⟨Z,Q,_,Z,.lst hl,Y,Z,CG ⟨Z,l,Y,⟨_,SqL.of hl⟩,EG (B4 (xs:=ls.map V.str)) (sL (by rw[Ya];omega)) (λ_=>true) (λ_=>.bl true) (λH' s'=>s'.seq (SqL.of hl)) ?_ ?_ ?_⟩⟩
  ·intro v H' R s' _ Ag;exact Ag H' (AA.refl _)
  ·intro v H' R s' hv _ Ag;obtain⟨z,hz,rfl⟩:=Yk.mp hv;exact⟨Z,Q,_,Z,.str _,Y,Ag H' (AA.refl _)⟩
  ·intro D H1 hD s1 Bd;rw[G5.mpr (λ_ _=>rfl),Bu]at Bd;have e:ls.map ((λ_=>V.bl true) ∘ V.str)=(ls.map λ_=>true).map V.bl:=by rw[Bu];rfl
   rw[e]at Bd;refine⟨D,Z,SqL.of Bd,?_⟩;show Q (V.bl ((ls.map λ_=>true).all id)) H1;rw[show((ls.map λ_=>true).all id)=true from Bv.mpr λb hb=>by obtain⟨_,_,rfl⟩:=Yk.mp hb;rfl];exact q H1 s1
def xw(F:Def K mg "_law_pair" OF Ee f fd)(isi:mg "isinstance"=none)(list:mg "list"=none)(tuple:mg "tuple"=none)(len:mg "len"=none)(all:mg "all"=none)(DW:Def K mg "_law_whole" Uk ["found"] fW fdW)(GW:⋯ 1 fW fdW ["found"] cc)(DX:Def K mg "_law_texts" Qd Ee fX fdX)(GX:⋯ 1 fX fdX Ee cZ):⋯ 2 f fd Ee j9:=by
 nomatch F.fn.ok zZ
 ·obtain⟨lu,ord,cs,rfl,_⟩:=h;rfl
 ·obtain⟨lu,ord,cs,rfl,⟨lo,ll,vs,AW,hlo,hll,hL⟩,lok,q⟩:=h
  ac_nf
  refine'⟨_,(pS (Ae (PW.pt (JO (Bs (BZ (Aa Kd (by rfl) isi Ys (pC (pv 0) (pC (JR (v:=.ty "tuple") (by rfl) tuple Jo rfl) AB)))))
     (JO (Al Gm (Aa B9 (by rfl) len Yy (pC (pv 0) AB)) AE (Ai _)) (KU (Bs (BZ (Aa Kd (by rfl) isi Ys (pC (AN (r:=Ax K) A0 (pv 0) AE (λ_ _=>rfl)) (pC (JR (v:=.ty "list") (by rfl) list Io rfl) AB))))))))) (AG (AS Bg)) Af)
   (pS (Ae (PW.pt (JO (Bs (BZ (Aa (r:=HM K λbs=>bs.all id) (Kc rfl) (by rfl) all Ky (pC ?e1 AB)))) (KU (Bs (BZ (Aa Kd (by rfl) isi Ys (pC (AN (r:=Ax K) A0 (pv 0) AE (λ_ _=>rfl)) (pC (JR (v:=.ty "list") (by rfl) list Io rfl) AB)))))))) (AG (AS Bg)) Af)
   (AG (AS (Aa (r:=HM K λbs=>bs.all id) (Kc rfl) (by rfl) all Ky (pC ?e2 AB)))))),?_⟩
  case e1=>exact(BO ["place"] [] [] (λ_=>A3 (osc:=AJ OF) (on:=Ee) (by rfl') rfl rfl rfl) (Bn (AN (r:=Ax K) A0 (pv 0) AE (λ_ _=>rfl))) (λC s H fp=>Az (i:=0) qg rfl (Or.inl rfl) (Or.inr rfl)) (λC s H fp=>Br) (λC s H fp=>AO DW GW hr (pC (pv 0) AB)))
  case e2=>exact(BO ["line"] [] [] (λ_=>A3 (osc:=AJ OF) (on:=Ee) (by rfl') rfl rfl rfl) (Bn (AN (r:=Ax K) A0 (pv 0) AE (λ_ _=>rfl))) (λC s H fp=>Az (i:=0) dI rfl (Or.inl rfl) (Or.inr rfl)) (λC s H fp=>Br) (λC s H fp=>AO DX GX hr (pC (pv 0) AB)))
  exists let b:=AF _ a;AF _ b _ _ _
  have few:=lok.few;have fewL:=lok.fewL;have vl:=A_ hL;refine⟨Z,Q,_,Z,.tup AW,Y,Z,Ap ?_⟩;refine⟨Z,lu,Z,.inr (AH.of AW),Y,Z,Ap ?_⟩;refine⟨Z,lu,Q,Z,Y,AH.of AW,Y,Q,_,Z,.lst hlo,Y,Z,Ap ?_⟩;refine⟨Z,lu,Q,Z,Y,AH.of AW,Y,lo,Y,⟨_,SqL.of hlo⟩,EG (B4 (xs:=ord.map V.int)) (sL (by rw[Ya];omega)) (λ_=>true) (λ_=>.bl true) (λH' s'=>s'.seq (SqL.of hlo)) ?_ ?_ ?_⟩
  ·intro v H' R s' _ Ag;exact Ag H' (AA.refl _)
  ·intro v H' R s' hv _ Ag;obtain⟨z,hz,rfl⟩:=Yk.mp hv;exact⟨Z,z,Y,Ag H' (AA.refl _)⟩
  intro D H1 hD s1 Bd;rw[br (α:=V)]at Bd;refine⟨D,Z,SqL.of Bd,Z,?_⟩;show if(!((ord.map V.int).map λ_=>true).all id)=true then _ else _
  rw[bW];refine Ap ?_;refine⟨Z,lu,Q,Z,Y,AH.of (s1 _ _ AW),Y,Q,_,Z,.lst (s1 _ _ hll),Y,Z,Ap ?_⟩;have Hq:=s1 _ _ hll;refine⟨Z,lu,Q,Z,Y,AH.of (s1 _ _ AW),Y,ll,Y,⟨_,SqL.of Hq⟩,EG (B4 (xs:=vs)) (sL (by omega)) (λ_=>true) (λ_=>.bl true) (λH' s'=>s'.seq (SqL.of Hq)) ?_ ?_ ?_⟩
  ·intro v H' R s' _ Ag;exact Ag H' (AA.refl _)
  ·intro v H' R s' hv _ Ag;obtain⟨i,hi⟩:=D0 hv;obtain⟨c,hc,t,rfl,ht⟩:=B3 hL hi;exact⟨Z,t,c,Y,s' _ _ (s1 _ _ ht),(lok.txt c (Yd hc)).2,λBL By=>Ag BL By⟩
  intro D2 H2 Gh s2 CO;rw[br (α:=V)]at CO;refine⟨D2,Z,SqL.of CO,?_⟩;show Q (V.bl ((vs.map λ_=>true).all id)) H2;rw[bW];exact q H2 (s1.trans s2)
structure Rc where
 t:ε
 lo:ε
 ll:ε
 bs:τ
abbrev Rc.pcs(r:Rc):τ:=r.lo :: r.ll :: r.bs
abbrev BJ:=ζ×ξ
structure A9(H:Hp)(l:ε)(Rs:List Rc)(S:List BJ):Prop where
 at_:H l≈(.lst (Rs.map λr=>V.ref r.t))
 lus:Paired (λ(u:BJ) (r:Rc)=>EL H r.t r.lo r.ll r.bs u.1 u.2) S Rs
 nd:(l :: Rs.flatMap Rc.pcs).Nodup
theorem UI{α β:Type}{F:α->β->Prop}:∀ {a:List α}{b:List β},↑a=↑b->(∀(i:Nat) x y,a[i]?≈x->b[i]?≈y->F x y)->Paired F a b
 | [],[],_,_=>.nil
 | [],_ :: _,h,_=>by cases h
 | _ :: _,[],h,_=>by cases h
 | x :: a,y :: b,h,f=>.cons (f 0 x y rfl rfl) (UI (by simpa using h) λi u v hu hv=>f (i + 1) u v hu hv)
def Gs{α β:Type}{F:α->β->Prop}{a:List α}{b:List β}(h:Paired F a b){i:Nat}{x:α}{y:β}(hx:a[i]?≈x)(hy:b[i]?≈y):F x y:=by
 obtain⟨x',e,q⟩:=B3 h hy;rw[hx]at e;injection e with e;rw[e];exact q
def gM{Rs:List Rc}(h:(Rs.flatMap Rc.pcs).Nodup){i j:Nat}{r q:Rc}(hi:Rs[i]?≈r)(hj:Rs[j]?≈q)(ne:i≠j){b:ε}(hb:b∈r.pcs):b∉q.pcs:=λhq=>by
 have pw:=(List.pairwise_flatMap.mp (Ea.mp h)).2;obtain⟨i1,i2⟩:=Ye.mp hi;obtain⟨j1,j2⟩:=Ye.mp hj
 rcases Nat.lt_or_ge i j with z | z
 ·have:=Jp.mp pw i j i1 j1 z;rw[i2,j2]at this;exact this b hb b hq rfl
 ·have:=Jp.mp pw j i j1 i1 (by omega);rw[i2,j2]at this;exact this b hq b hb rfl
def dZ{Rs:List Rc}(h:(Rs.flatMap Rc.pcs).Nodup){r:Rc}(hr:r∈Rs):r.pcs.Nodup:=Ea.mpr ((List.pairwise_flatMap.mp (Ea.mp h)).1 r hr)
def IW{Rs:List Rc}{r:Rc}(hr:r∈Rs){b:ε}(hb:b∈r.pcs):b∈Rs.flatMap Rc.pcs:=List.mem_flatMap.mpr ⟨r,hr,hb⟩
section
variable {H H':Hp}{l:ε}{Rs:List Rc}{S:List BJ}
theorem A9.mono(h:A9 H l Rs S)(s:AA H H'):A9 H' l Rs S:=⟨s _ _ h.at_,Paired.mapP h.lus λ_ _ x=>x.mono s,h.nd⟩
def A9.keepP(h:A9 H l Rs S)(k:∀ b o,b∈Rs.flatMap Rc.pcs\/b=l\/(∃ us,o=.tup us)->H b≈o->H' b≈o):A9 H' l Rs S:=by
 refine⟨k _ _ (.inr (.inl rfl)) h.at_,Paired.mapP (JV h.lus) λu r ⟨m,x⟩=>⟨k _ _ (.inr (.inr ⟨Z⟩)) x.tup,k _ _ (.inl (IW m (.head _))) x.ord,k _ _ (.inl (IW m (.tail _ (.head _)))) x.lst,Paired.mapP (JV x.lin) λc b ⟨mb,e⟩=>k _ _ (.inl (IW m (.tail _ (.tail _ mb)))) e⟩,h.nd⟩
def A9.frame(h:A9 H l Rs S){b:ε}{us:LV}{o:HO}(hb:H b≈(.lst us))(hn:b∉l :: Rs.flatMap Rc.pcs):A9 (upd H b o) l Rs S:=by
 refine h.keepP λc u hc e=>?_;rw[AD]
 ·exact e
 ·intro z
  rcases hc with q | q | ⟨J4,q⟩
  ·exact hn (.tail _ (by rw[<- z];exact q))
  ·exact hn (by rw[<- z,q];exact .head _)
  ·rw[z,hb,q]at e;cases e
def A9.line(h:A9 H l Rs S){j k:Nat}{r:Rc}{o:ζ}{cs:ξ}{b:ε}{c:LS}(hr:Rs[j]?≈r)(hS:S[j]?≈(o,cs))(hb:r.bs[k]?≈b)(hc:cs[k]?≈c)(z:LS):H b≈(.lst (c.map V.str))/\b∈r.pcs/\A9 (upd H b (.lst (z.map V.str))) l Rs (S.set j (o,cs.set k z)):=by
 obtain⟨n1,n2⟩:=Yu.mp h.nd;have hx:=Gs h.lus hS hr;have hbc:=Gs hx.lin hc hb;have rm:=Yd hr;have bm:b∈r.pcs:=.tail _ (.tail _ (Yd hb));have own:=dZ n2 rm;have tb:∀ {q:ε} {us:LV},H q≈(.tup us)->q≠b:=λe z=>by rw[z,hbc]at e;cases e
 refine⟨hbc,bm,?_,UI (by rw[Kv];exact A_ h.lus) λi u q hu hq=>?_,h.nd⟩
 ·rw[AD (λz=>n1 (by rw[z];exact IW rm bm))];exact h.at_
 ·by_cases e:j=i
  ·subst e;rw[hr]at hq;injection hq with hq;subst hq;rw[Jn (Ye.mp hS).1]at hu;injection hu with hu;subst hu;obtain⟨w1,w2⟩:=Yu.mp own;obtain⟨w3,w4⟩:=Yu.mp w2;refine⟨by rw[AD (tb hx.tup)];exact hx.tup,by rw[AD (λz=>w1 (by rw[z];exact .tail _ (Yd hb)))];exact hx.ord,by rw[AD (λz=>w3 (by rw[z];exact Yd hb))];exact hx.lst,UI (by rw[Kv];exact A_ hx.lin) λm d p hd hp=>?_⟩;by_cases e2:k=m
   ·subst e2;rw[hb]at hp;injection hp with hp;subst hp;rw[Jn (Ye.mp hc).1]at hd;injection hd with hd;subst hd;exact uS
   ·rw[MO e2]at hd;have pb:p≠b:=λz=>by
     obtain⟨m1,m2⟩:=Ye.mp hp;obtain⟨k1,k2⟩:=Ye.mp hb;exact e2 ((List.getElem_inj w4).mp (k2.trans (z.symm.trans m2.symm)))
    rw[AD pb];exact Gs hx.lin hd hp
  ·rw[MO e]at hu;have HF:=Gs h.lus hu hq;refine HF.keep λx o' Gd _ ex=>?_;rw[AD]
   ·exact ex
   ·intro z
    rcases Gd with y | y
    ·rw[y]at z;exact tb HF.tup z
    ·exact gM n2 hq hr (Yx e) y (by rw[z];exact bm)
def A9.ordr(h:A9 H l Rs S){j:Nat}{r:Rc}{o:ζ}{cs:ξ}(hr:Rs[j]?≈r)(hS:S[j]?≈(o,cs))(z:ζ):H r.lo≈(.lst (o.map V.int))/\A9 (upd H r.lo (.lst (z.map V.int))) l Rs (S.set j (z,cs)):=by
 obtain⟨n1,n2⟩:=Yu.mp h.nd;have hx:=Gs h.lus hS hr;have rm:=Yd hr;have bm:r.lo∈r.pcs:=.head _;have own:=dZ n2 rm;have tb:∀ {q:ε} {us:LV},H q≈(.tup us)->q≠r.lo:=λe z=>by rw[z,hx.ord]at e;cases e
 refine⟨hx.ord,?_,UI (by rw[Kv];exact A_ h.lus) λi u q hu hq=>?_,h.nd⟩
 ·rw[AD (λz=>n1 (by rw[z];exact IW rm bm))];exact h.at_
 ·by_cases e:j=i
  ·subst e;rw[hr]at hq;injection hq with hq;subst hq;rw[Jn (Ye.mp hS).1]at hu;injection hu with hu;subst hu;obtain⟨w1,w2⟩:=Yu.mp own;exact⟨by rw[AD (tb hx.tup)];exact hx.tup,uS,by rw[AD (λz=>w1 (by rw[<- z];exact .head _))];exact hx.lst,Paired.mapP (JV hx.lin) λc b ⟨mb,eb⟩=>by rw[AD (λz=>w1 (by rw[<- z];exact .tail _ mb))];exact eb⟩
  ·rw[MO e]at hu;have HF:=Gs h.lus hu hq;refine HF.keep λx o' Gd _ ex=>?_;rw[AD]
   ·exact ex
   ·intro z
    rcases Gd with y | y
    ·rw[y]at z;exact tb HF.tup z
    ·exact gM n2 hq hr (Yx e) y (by rw[z];exact bm)
end
theorem dU{K:Fg}{H:Hp}:∀ {S:List BJ}{Rs:List Rc},Paired (λ(u:BJ) (r:Rc)=>EL H r.t r.lo r.ll r.bs u.1 u.2) S Rs->Ar K H (Rs.map λr=>V.ref r.t) (S.map OT)
 | _,_,.nil=>.nil
 | _,_,.cons h t=>.cons (xI h.at_) (dU t)
def A9.rep{K:Fg}{H:Hp}{l:ε}{Rs:List Rc}{S:List BJ}(h:A9 H l Rs S):Rep K H (.ref l) (.list (S.map OT)):=.list (SqL.of h.at_) (dU h.lus)
def Nb{m:Nat}{S:List BJ}(h:∀ u∈S,Fq u.1 u.2):W.kqdOk (m + 5) (.list (S.map OT))=true:=by
 show(S.map OT).all (W.kqdOk (m + 4))=true;rw[List.all_map,Bv];exact λu hu=>xr (h u hu)
def A9.alive{H:Hp}{l:ε}{Rs:List Rc}{S:List BJ}(h:A9 H l Rs S){b:ε}(hb:b∈l :: Rs.flatMap Rc.pcs):∃ us,H b≈(.lst us):=by
 rcases Yl.mp hb with e | e
 ·rw[e];exact⟨_,h.at_⟩
 ·obtain⟨q,hq,hxq⟩:=List.mem_flatMap.mp e;obtain⟨j,hj⟩:=D0 hq;obtain⟨_,_,x'⟩:=B3 h.lus hj;exact x'.live hxq
def A9.dead{H:Hp}{l:ε}{Rs:List Rc}{S:List BJ}(h:A9 H l Rs S){b:ε}(hb:b∈l :: Rs.flatMap Rc.pcs)(e:H b=none):False:=by
 obtain⟨_,z⟩:=h.alive hb;rw[e]at z;cases z
def XW{J:It}{vs:LV}{Ok:Hp->Prop}(R:Fs J vs Ok){H1:Hp}{S:List BJ}{σ:St}{te:TE}{Q:VK}(few:↑vs<=100)(hok:∀ H,AA H1 H->Ok H)(hL:Paired (λ(u:BJ) v=>∃ t,v=V.ref t/\Cq H1 t u.1 u.2) S vs)(ok:∀ u∈S,Fq u.1 u.2)
  (he:∀(t:ε) ord cs H' (R:VK),Cq H' t ord cs->Fq ord cs->(∀ l2 BL,AA H' BL->FO H' BL l2 ord cs->R (.ref l2) BL)->te [↥(.ref t)] H' R)
  (hd:∀ D H2 (Ks:List Rc),H1 D=none->AA H1 H2->A9 H2 D Ks S->(∀ b∈D :: Ks.flatMap Rc.pcs,H1 b=none)->Q (.ref D) H2):AU 1 [] (C_ 0) Py te σ Q J H1:=by
 refine Kh R (sL (by omega)) (λD i ys σ' H'=>H1 D=none/\AA H1 H'/\∃ Ks:List Rc,ys=(Ks.map λr=>V.ref r.t)/\A9 H' D Ks (S.take i)/\(∀ b∈Ks.flatMap Rc.pcs,H1 b=none)/\∃ o,σ'=[o]) ?_ ?_ ?_ ?_
 ·intro D hD;exact⟨hD,Am hD,[],Y,⟨uS,by rw[Ik];exact .nil,Yu.mpr ⟨(λh=>nomatch h),G8⟩⟩,(λb h=>nomatch h),none,Y⟩
 ·rintro D i ys σ' H' hi ⟨_,s,Ks,rfl,h,_⟩;have:=A_ h.lus;rw[BU]at this;exact⟨hok H' s,O⟩
 ·rintro D i v ys σ' H' hD hi ⟨_,s,Ks,rfl,h,f,o,rfl⟩;obtain⟨u,hu,t,rfl,ht⟩:=B3 hL hi;refine he t u.1 u.2 H' _ (ht.mono s) (ok u (Yd hu)) λl2 BL s2 nu=>?_;obtain⟨lo,ll,bs,f1,f2,n1,hx⟩:=nu;have h2:=h.mono s2;obtain⟨d1,d2⟩:=Yu.mp h.nd;have k3:∀ c u,c≠D->BL c≈u->(upd BL D (.lst ((Ks.map λr=>V.ref r.t)++[.ref l2]))) c≈u:=λc u hc e=>by rw[AD hc];exact e
  have DH:=h.at_;have alive:∀ b∈Ks.flatMap Rc.pcs,H' b≠none:=λb hb=>by
   obtain⟨r,hr,hb⟩:=List.mem_flatMap.mp hb;obtain⟨j,hj⟩:=D0 hr;obtain⟨u',_,x⟩:=B3 h.lus hj;obtain⟨us,e⟩:=x.live hb;rw[e];simp
  have nD:∀ b∈(lo :: ll :: bs),b≠D:=λb hb z=>by rw[z]at hb;rw[f2 D hb]at DH;cases DH
  refine⟨h2.at_,hD,λc u e=>k3 c u (AK e hD) (s2 _ _ (s _ _ e)),Ks++[⟨l2,lo,ll,bs⟩],by rw[BP];rfl,⟨by rw[BP];exact uS,?_,?_⟩,λb hb=>?_,Z⟩
  ·rw[Ce,hu];refine EZ (Paired.mapP (JV h2.lus) λu' r ⟨m,x⟩=>x.keep λc o' hc _ e=>k3 c o' (λz=>?_) e) (hx.keep λc o' hc _ e=>k3 c o' (λz=>?_) e)
   ·rcases hc with y | y
    ·have:=x.tup;rw[<- y,z,h2.at_]at this;cases this
    ·exact d1 (by rw[<- z];exact IW m y)
   ·rcases hc with y | y
    ·rw[z]at y;have:=hx.tup;rw[<- y,h2.at_]at this;cases this
    ·exact nD c y z
  ·rw[List.flatMap_append];have e1:[(⟨l2,lo,ll,bs⟩:Rc)].flatMap Rc.pcs=lo :: ll :: bs:=by rw[List.flatMap_cons,List.flatMap_nil,Eb]
   rw[e1,<- List.cons_append];refine Iq.mpr ⟨h.nd,n1,λx hx y hy z=>?_⟩
   rcases Yl.mp hx with e | e
   ·exact nD y hy (z.symm.trans e)
   ·exact alive x e (by rw[z];exact f2 y hy)
  ·rw[List.flatMap_append]at hb
   rcases Yp.mp hb with z | z
   ·exact f b z
   ·have e1:[(⟨l2,lo,ll,bs⟩:Rc)].flatMap Rc.pcs=lo :: ll :: bs:=by rw[List.flatMap_cons,List.flatMap_nil,Eb]
    rw[e1]at z;exact s.free (f2 b z)
 ·rintro D ys σ' H' hD ⟨_,s,Ks,rfl,h,f,_⟩;have vl:=A_ hL;rw[<- vl,Dy]at h;refine hd D H' Ks hD s h λb hb=>?_
  rcases Yl.mp hb with e | e
  ·rw[e];exact hD
  ·exact f b e
def Ed(i m:Nat)(S:List BJ):Prop:=∀ u∈S,↑u.1<=4 + i/\↑u.2<=4/\∀ c∈u.2,TV c/\↑c<=24 + m
def Ed.ok{i m:Nat}{S:List BJ}(h:Ed i m S)(hi:i<=6)(hm:m<40):∀ u∈S,Fq u.1 u.2:=λu hu=>by
 obtain⟨a,b,c⟩:=h u hu;exact⟨W,W,λd hd=>⟨(c d hd).1,by have:=(c d hd).2;omega⟩⟩
def Ed.up{i m i' m':Nat}{S:List BJ}(h:Ed i m S)(hi:i<=i')(hm:m<=m'):Ed i' m' S:=λu hu=>by
 obtain⟨a,b,c⟩:=h u hu;exact⟨W,b,λd hd=>⟨(c d hd).1,by have:=(c d hd).2;omega⟩⟩
def yX:PyData.strOk ("":Str)=true:=by rfl'
def Ed.line{i m j k:Nat}{S:List BJ}{o:ζ}{cs:ξ}{c:LS}(h:Ed i m S)(hS:S[j]?≈(o,cs))(hc:cs[k]?≈c):Ed i (m + 1) (S.set j (o,cs.set k (c++[("":Str)]))):=λu hu=>by
 rcases Of hu with e | e
 ·exact h.up (Yf _) (FU _) u e
 ·obtain⟨a,b,q⟩:=h _ (Yd hS);subst e;refine⟨a,by rw[Kv];exact b,λd hd=>?_⟩
  rcases Of hd with e | e
  ·exact⟨(q d e).1,by have:=(q d e).2;omega⟩
  ·obtain⟨q1,q2⟩:=q c (Yd hc);subst e;refine⟨λz hz=>?_,by rw[Bw];show ↑c + 1<=_;omega⟩
   rcases Yp.mp hz with y | y
   ·exact q1 z y
   ·rw[Yi.mp y];exact yX
def Ed.ordr{i m j:Nat}{S:List BJ}{o:ζ}{cs:ξ}(h:Ed i m S)(hS:S[j]?≈(o,cs)):Ed (i + 1) m (S.set j (o++[0],cs)):=λu hu=>by
 rcases Of hu with e | e
 ·exact h.up (FU _) (Yf _) u e
 ·obtain⟨a,b,q⟩:=h _ (Yd hS);subst e;have a:↑o<=4 + i:=a;exact⟨by rw[Bw];show ↑o + 1<=_;omega,b,q⟩
def cR:Sp:=λvs H Q _=>∃(la:ε) (Rs:List Rc) (S:List BJ),vs=[.ref la]/\A9 H la Rs S/\Ed 0 0 S/\↑S<=2/\∀ H',(∀ b o,b∉Rs.flatMap Rc.pcs->H b≈o->H' b≈o)->Q (.bl true) H'
abbrev Vn:LS:=["lineups","at","lineup","k","kept"]
def ib:Ad Vn ["lineups"] (AJ OI):=by nofun
def b_:(["one"]:LS).Nodup:=by rfl'
def A9.refs{H:Hp}{l:ε}{Rs:List Rc}{S:List BJ}(h:A9 H l Rs S):Paired (λ(u:BJ) v=>∃ t,v=V.ref t/\Cq H t u.1 u.2) S (Rs.map λr=>V.ref r.t):=XJ (Paired.mapP h.lus λ_ r x=>⟨r.t,Y,x.at_⟩)
set_option maxHeartbeats 8000000 in
def oX(F:Def K mg "_law_apart" OI ["lineups"] f fd)(enum:mg "enumerate"=none)(range:mg "range"=none)(len:mg "len"=none)(DC:Def K mg "_law_copied" ON ["lineup"] fC fdC)(GC:⋯ 1 fC fdC ["lineup"] W9):⋯ 2 f fd ["lineups"] cR:=by
 nomatch F.fn.ok ib
 ·obtain⟨la,Rs,S,rfl,_⟩:=h;rfl
 ·obtain⟨la,Rs,S,rfl,hL,bd,s2,q⟩:=h;have nd:=ib.nd;have hu:=hr.units
  ac_nf
  refine'⟨_,(pS (CS Bb rfl (Wv (by rfl) enum (pC (pv 0) AB)) (IU rfl (gC (gE 1 nd) (gC (gE 2 nd) IY)))
    (pS (CS Bb rfl (Gu (by rfl) range (pC (Aa B9 (by rfl) len Yy (pC (AN (r:=Ax K) A0 (pv 2) AE (λ_ _=>rfl)) AB)) AB)) (gE 3 nd)
     (pS ?e1
   (pS (B8 (Ct Yz E4 E3 EF (AN (r:=A6 K) Ak (AN (r:=Ax K) A0 (AN (r:=A6 K) Ak (pv 4) (pv 1) (λ_ _=>rfl)) AE (λ_ _=>rfl)) (pv 3) (λ_ _=>rfl)) (pC FQ AB)))
   (pS (B8 (Ct Yz E4 E3 EF (AN (r:=A6 K) Ak (AN (r:=Ax K) A0 (pv 2) AE (λ_ _=>rfl)) (pv 3) (λ_ _=>rfl)) (pC FQ AB)))
   (AG (Ae (Al (IT hu) (pv 0) (pv 4) (Ai _)) (AG (AS Bg)) Af))))))
   (pS ?e2
   (pS (B8 (Ct Yz E4 E3 EF (AN (r:=Ax K) A0 (AN (r:=A6 K) Ak (pv 4) (pv 1) (λ_ _=>rfl)) AE (λ_ _=>rfl)) (pC AE AB)))
   (pS (B8 (Ct Yz E4 E3 EF (AN (r:=Ax K) A0 (pv 2) AE (λ_ _=>rfl)) (pC AE AB)))
   (AG (Ae (Al (IT hu) (pv 0) (pv 4) (Ai _)) (AG (AS Bg)) Af)))))))
   (AG (AS Bg))),?_⟩
  case e1=>exact(L6 (k:=4) ["one"] [] [] nd rfl rfl (λ_=>A3 (osc:=AJ OI) (on:=Vn) (by rfl') rfl rfl rfl) (Bn (pv 0)) (λC s H fp=>Az (i:=0) b_ rfl (Or.inl rfl) (Or.inr rfl)) (λC s H fp=>Br) (λC s H fp=>AO DC GC hr (pC (pv 0) AB)))
  case e2=>exact(L6 (k:=4) ["one"] [] [] nd rfl rfl (λ_=>A3 (osc:=AJ OI) (on:=Vn) (by rfl') rfl rfl rfl) (Bn (pv 0)) (λC s H fp=>Az (i:=0) b_ rfl (Or.inl rfl) (Or.inr rfl)) (λC s H fp=>Br) (λC s H fp=>AO DC GC hr (pC (pv 0) AB)))
  exists let b:=_;let c:=AF _ b;let e:=AF _ c;let f:=AF _ e;let g:=_;let h:=AF _ g;let i:=AF _ h;let j:=AF _ i;let k:=AF (Es _ _ j) f;AF (Es _ _ k) a _ _ _
  have rl:=A_ hL.lus;let EM:NW:=λi σ H'=>∃(S':List BJ) (x1 x2 x3 x4:OV),σ=[↥(.ref la),x1,x2,x3,x4]/\A9 H' la Rs S'/\↑S'=↑S/\Ed i (4 * i) S'/\(∀ b o,b∉Rs.flatMap Rc.pcs->H b≈o->H' b≈o);refine⟨Z,true,la,Z,SqL.of hL.at_,XH EM
   ⟨S,none,none,none,none,Y,hL,Y,bd,λ_ _ _ e=>e⟩ (λi σ H' _ h0=>by obtain⟨_,_,_,_,_,_,h,_⟩:=h0;exact SqL.of h.at_) ?_ ?_⟩
  ·rintro i pr t σ H1 hi ⟨S1,x1,x2,x3,x4,rfl,Pf,M8,WH,WD⟩ ht;obtain⟨e1,hx⟩:=QT hi;obtain⟨r,Ac,e2⟩:=Ki hx;refine Tg ?_;have s1:AA H1 (upd H1 t (.tup [pr.1,pr.2])):=Am ht;generalize upd H1 t (.tup [pr.1,pr.2])=H2 at s1;rw[e1,<- e2];have ir:i<↑Rs:=(Ye.mp Ac).1;have i2:i<2:=by omega
   have aq:=Pf.mono s1;have nT:∀ b o,b∉Rs.flatMap Rc.pcs->H b≈o->H2 b≈o:=λb o hb e=>s1 _ _ (WD b o hb e);obtain⟨⟨o0,cs0⟩,ai⟩:∃ u,S1[i]?≈u:=⟨_,Yb (by omega)⟩;have HE:=Gs aq.lus ai Ac;have c4:=(WH _ (Yd ai)).2.1;have bl:=A_ HE.lin;dsimp only at bl c4;show AF _ _ _ [↥(.ref la),↥(.int i),↥(.ref r.t),x3,x4] H2;let Jt:NW:=λk σ H'=>∃(S':List BJ) (x3 x4:OV),σ=[↥(.ref la),↥(.int i),↥(.ref r.t),x3,x4]/\A9 H' la Rs S'/\↑S'=↑S/\Ed i (4 * i + k) S'/\(∀ b o,b∉Rs.flatMap Rc.pcs->H b≈o->H' b≈o);refine⟨Z,r.t,Q,Z,Y,AH.of HE.tup,Y,r.ll,Z,.inl (SqL.of HE.lst),Z,W,O,C3 Gx Jt
    ⟨S1,x3,x4,Y,aq,M8,WH,nT⟩ (λ_ _ _ _ _=>trivial) ?_ ?_⟩
   ·rintro k v σ H3 hk ⟨S3,y3,y4,rfl,FJ,Va,JM,FK⟩;obtain⟨V2,rfl⟩:=EH hk;have hk:k<↑r.bs:=by simpa using V2
    obtain⟨⟨o3,S_⟩,FI⟩:∃ u,S3[i]?≈u:=⟨_,Yb (by omega)⟩;have n5:=A_ (Gs FJ.lus FI Ac).lin;dsimp only at n5;obtain⟨c,hc⟩:∃ c,S_[k]?≈c:=⟨_,Yb (by omega)⟩;have cb:=(JM _ (Yd FI)).2.2 c (Yd hc);obtain⟨b,hb⟩:∃ b,r.bs[k]?≈b:=⟨_,Yb hk⟩;refine⟨Z,la,Y,⟨_,SqL.of FJ.at_⟩,XW B4 (by rw[Ya];omega) (λH' s'=>s'.seq (SqL.of FJ.at_)) FJ.refs (JM.ok (by omega) (by omega)) (λt ord cs H' R ht lok hR=>⟨Z,t,ord,cs,Y,ht,lok,hR⟩) λD H4 Ks hD s4 hK fK=>?_⟩;have kl:=A_ hK.lus;obtain⟨kr,hkr⟩:∃ kr,Ks[i]?≈kr:=⟨_,Yb (by omega)⟩;have hkx:=Gs hK.lus FI hkr;have kbl:=A_ hkx.lin;dsimp only at kbl;obtain⟨kb,hkb⟩:∃ b,kr.bs[k]?≈b:=⟨_,Yb (by omega)⟩;obtain⟨hkc,kbm,Ph⟩:=hK.line hkr FI hkb hc (c++[("":Str)]);have V_:=FJ.mono s4;have KI:BC (Ks.map λr=>V.ref r.t) ((i:Nat):Int)≈(.ref kr.t):=Dx (by omega) (by rw[Yt,Yh,hkr];rfl);have at2:∀ {bs:τ} {b:ε},bs[k]?≈b->BC (bs.map V.ref) (0 + ((k:Nat):Int))≈(.ref b):=λe=>by rw[FV];exact Dx (by omega) (by rw[Yt,Yh,e];rfl)
    have en:c.map V.str++[V.str ""]=(c++[("":Str)]).map V.str:=by rw[BP];rfl
    refine⟨Z,Z,D,Q,Z,Y,SqL.of hK.at_,KI,kr.t,Q,Z,Y,AH.of hkx.tup,Y,Z,kr.ll,Q,Z,Y,SqL.of hkx.lst,at2 hkb,.inl ⟨Y,_,SqL.of hkc⟩,kb,_,Z,Y,hkc,B_ (by rw[Ya];omega),?_⟩;rw[en];have kbH:H3 kb=none:=fK kb (.tail _ (IW (Yd hkr) kbm));have Ld:A9 (upd H4 kb (.lst ((c++[("":Str)]).map V.str))) la Rs S3:=V_.frame hkc λz=>FJ.dead z kbH;have HH:∀ b o,b∉Rs.flatMap Rc.pcs->H b≈o->(upd H4 kb (.lst ((c++[("":Str)]).map V.str))) b≈o:=λb o hb e=>by rw[AD (AK (FK b o hb e) kbH)];exact s4 _ _ (FK b o hb e)
    generalize upd H4 kb (.lst ((c++[("":Str)]).map V.str))=H5 at Ph Ld HH;obtain⟨hbc,bm,Lc⟩:=Ld.line Ac FI hb hc (c++[("":Str)]);have Sk:=Gs Ld.lus FI Ac;refine⟨Z,r.t,Q,Z,Y,AH.of Sk.tup,Y,Z,r.ll,Q,Z,Y,SqL.of Sk.lst,at2 hb,.inl ⟨Y,_,SqL.of hbc⟩,b,_,Z,Y,hbc,B_ (by rw[Ya];omega),?_⟩;rw[en];have bR:b∈Rs.flatMap Rc.pcs:=IW (Yd Ac) bm;have Pg:A9 (upd H5 b (.lst ((c++[("":Str)]).map V.str))) D Ks (S3.set i (o3,S_.set k (c++[("":Str)]))):=Ph.frame hbc λz=>FJ.dead (.tail _ bR) (fK b z);have Pm:∀ x o,x∉Rs.flatMap Rc.pcs->H x≈o->(upd H5 b (.lst ((c++[("":Str)]).map V.str))) x≈o:=λx o hx e=>by rw[AD (λz=>hx (by rw[z];exact bR))];exact HH x o hx e
    generalize upd H5 b (.lst ((c++[("":Str)]).map V.str))=H6 at Lc Pg Pm;have Pp:=JM.line FI hc;have O3:=Pp.ok (by omega) (by omega);refine⟨Z,Z,Q,Lc.rep,Pg.rep,Nb O3,Nb O3,Z,?_⟩;rw[Ey];exact Ap ⟨Q,Z,Lc,by rw[Kv];exact Va,Pp,Pm⟩
   ·rintro σ H3 ⟨S3,y3,y4,rfl,FJ,Va,JM,FK⟩;have JM:Ed i (4 * (i + 1)) S3:=JM.up (Yf _) (by
     rw[Cw];have:((↑(r.bs.map V.ref):Nat):Int).toNat=↑r.bs:=by rw[Ya];omega
     omega)
    obtain⟨⟨o3,S_⟩,FI⟩:∃ u,S3[i]?≈u:=⟨_,Yb (by omega)⟩;refine⟨Z,la,Y,⟨_,SqL.of FJ.at_⟩,XW B4 (by rw[Ya];omega) (λH' s'=>s'.seq (SqL.of FJ.at_)) FJ.refs (JM.ok (by omega) (by omega)) (λt ord cs H' R ht lok hR=>⟨Z,t,ord,cs,Y,ht,lok,hR⟩) λD H4 Ks hD s4 hK fK=>?_⟩;have kl:=A_ hK.lus;obtain⟨kr,hkr⟩:∃ kr,Ks[i]?≈kr:=⟨_,Yb (by omega)⟩;have hkx:=Gs hK.lus FI hkr;obtain⟨hko,Ph⟩:=hK.ordr hkr FI (o3++[0]);have V_:=FJ.mono s4;have ob:=(JM _ (Yd FI)).1;dsimp only at ob;have KI:BC (Ks.map λr=>V.ref r.t) ((i:Nat):Int)≈(.ref kr.t):=Dx (by omega) (by rw[Yt,Yh,hkr];rfl);have en:o3.map V.int++[V.int 0]=(o3++[0]).map V.int:=by rw[BP];rfl
    refine⟨Z,Z,D,Q,Z,Y,SqL.of hK.at_,KI,kr.t,Q,Z,Y,AH.of hkx.tup,Y,.inl ⟨Y,_,SqL.of hko⟩,kr.lo,_,Z,Y,hko,B_ (by rw[Ya];omega),?_⟩;rw[en];have kbH:H3 kr.lo=none:=fK kr.lo (.tail _ (IW (Yd hkr) (.head _)));have Ld:A9 (upd H4 kr.lo (.lst ((o3++[0]).map V.int))) la Rs S3:=V_.frame hko λz=>FJ.dead z kbH;have HH:∀ b o,b∉Rs.flatMap Rc.pcs->H b≈o->(upd H4 kr.lo (.lst ((o3++[0]).map V.int))) b≈o:=λb o hb e=>by rw[AD (AK (FK b o hb e) kbH)];exact s4 _ _ (FK b o hb e)
    generalize upd H4 kr.lo (.lst ((o3++[0]).map V.int))=H5 at Ph Ld HH;obtain⟨hlo,Lc⟩:=Ld.ordr Ac FI (o3++[0]);have Sk:=Gs Ld.lus FI Ac;refine⟨Z,r.t,Q,Z,Y,AH.of Sk.tup,Y,.inl ⟨Y,_,SqL.of hlo⟩,r.lo,_,Z,Y,hlo,B_ (by rw[Ya];omega),?_⟩;rw[en];have bR:r.lo∈Rs.flatMap Rc.pcs:=IW (Yd Ac) (.head _);have Pg:A9 (upd H5 r.lo (.lst ((o3++[0]).map V.int))) D Ks (S3.set i (o3++[0],S_)):=Ph.frame hlo λz=>FJ.dead (.tail _ bR) (fK r.lo z);have Pm:∀ x o,x∉Rs.flatMap Rc.pcs->H x≈o->(upd H5 r.lo (.lst ((o3++[0]).map V.int))) x≈o:=λx o hx e=>by rw[AD (λz=>hx (by rw[z];exact bR))];exact HH x o hx e
    generalize upd H5 r.lo (.lst ((o3++[0]).map V.int))=H6 at Lc Pg Pm;have Pp:=JM.ordr FI;have O3:=Pp.ok (by omega) (by omega);refine⟨Z,Z,Q,Lc.rep,Pg.rep,Nb O3,Nb O3,Z,?_⟩;rw[Ey];exact Ap ⟨Q,Q,Z,Lc,by rw[Kv];exact Va,Pp,Pm⟩
  ·rintro σ H1 ⟨S1,x1,x2,x3,x4,rfl,Pf,M8,WH,WD⟩;exact q H1 WD
def kD(C B:ε):Sp:=λvs H Q _=>∃(p k t:ε) (ρ:RS) (n:Nat) (ds:ξ) (xs:LS),vs=[.ref p,.ref t]/\Cb C B H p k ρ n ds/\Ab ρ/\n<=4/\H t≈(.tup (xs.map V.str))/\Fx ρ n xs=false/\↑xs<=100/\(∀ x∈xs,Et x)/\∀ H',AA H H'->Q (.bl true) H'
def yx(H:Hp)(ρ:RS)(ds:ξ)(xs:LS)(row θ:LN)(v:V):Prop:=(θ=[]/\v=.non)\/(θ≠[]/\∃(pt u1 u2:ε) (o1:ζ) (c1:ξ) (o2:ζ) (c2:ξ) (first:Nat),v=.ref pt/\H pt≈(.tup [.ref u1,.ref u2])/\Cq H u1 o1 c1/\Cq H u2 o2 c2/\DJ ρ xs o1 c1/\DJ ρ xs o2 c2/\(BY ρ ds xs o1 c1)[↑row]?≈first/\(BY ρ ds xs o2 c2)[↑row]?≠some first)
def eD:Sp:=λvs H Q _=>∃(aa ld t:ε) (v:V) (ρ:RS) (AL:KL) (n:Nat) (ds:ξ) (us:LV) (xs:LS) (row θ:LN),vs=[.ref aa,.ref ld,.ref t,v]/\Ab ρ/\Ba ρ n ds/\n<=4/\↑ds<=24/\H aa≈(.dK AL)/\CH H ρ ρ AL/\H ld≈(.lst us)/\B2 H ds us/\H t≈(.tup (xs.map V.str))/\Bh ρ n xs/\nx (wB ρ ds) ↑(AR ρ ds xs) (AR ρ ds xs)=(row,θ)/\yx H ρ ds xs row θ v/\∀ H',AA H H'->Q (.bl true) H'
abbrev lL:LS:=["board","call","found","e"]
def i0:Ad lL DM (AJ Ut):=by nofun
abbrev lN:LS:=["above","deeds","call","found","fits","row","behind","lineup","ranks"]
abbrev Qs:LS:=["above","deeds","call","found"]
def iy:Ad lN Qs (AJ Ue):=by nofun
def yi{ρ:RS}{n:Nat}{ds:ξ}{xs:LS}{row θ:LN}(g:Ab ρ)(gd:Ba ρ n ds)(e:nx (wB ρ ds) ↑(AR ρ ds xs) (AR ρ ds xs)=(row,θ)):(θ=[]/\↑row=↑(AR ρ ds xs))\/(θ≠[]/\↑row<↑(AR ρ ds xs)):=by
 obtain⟨left,em,e1,pl⟩:=Wl row e;have lnd:left.Nodup:=((pl.nodup_iff).mpr (Kb ρ ds xs)).sublist (List.sublist_append_right _ _);have nk:=eX g gd (λk hk=>(FT (pl.mem_iff.mp (Yw _ hk))).1) lnd;have len:=pl.length_eq;rw[Bw]at len;rw[em]at nk;cases left with
 | nil =>
  refine .inl ⟨by rw[<- em];rfl,by simpa using len⟩
 | cons x l =>
  obtain⟨k0,CV,_⟩:=nk.dom x (.head _);refine .inr ⟨(λz=>by rw[z]at CV;cases CV),?_⟩;rw[Cd]at len;omega
def uI(F:Def K mg "parting" N4 DM f fd)(DN:Def K mg "nexts" Nn ["board","call"] fN fdN)(GN:Bi P w K mg base (Dm P w) 8 fN fdN ["board","call"] (N6 C B N)):Bi P w K mg base (Dm P w) 9 f fd DM (N6 C B N):=by
 nomatch F.fn.ok1 Uv
 ·obtain⟨p,k,t,ρ,n,ds,xs,rfl,_⟩:=h;rfl
 ·obtain⟨p,k,t,ρ,n,ds,xs,rfl,r⟩:=h;have nd:=Uv.nd
  ac_nf
  refine⟨_,pS (sE 2 nd (QB GN hr (by rfl) DN.m DN.fn.kp DN.b .nil (Na Dl.of) (pC (pv 0) (pC (pv 1) AB)))) Dh,?_⟩
  exists AF _ a _ _ _
  exact⟨Z,Z,p,k,t,ρ,n,ds,xs,Y,r⟩
def sU{Ds:Nat->ε}(F:Def K mg "_law_refused" Ut DM f fd)(TD:Xx K mg D)(O9:YI K D Ds 9)(DP:Def K mg "parting" N4 DM fP fdP)(XP:Bi P w K mg base (Dm P w) 9 fP fdP DM (N6 C B (Ds 9)))
  (DA:Def K mg "_law_alone" Uj ["e","place"] fA fdA) (GA:⋯ 1 fA fdA ["e","place"] (cQ K D Ds)):⋯ 10 f fd DM (kD C B):=by
 nomatch F.fn.ok i0
 ·obtain⟨p,k,t,ρ,n,ds,xs,rfl,_⟩:=h;rfl
 ·obtain⟨p,k,t,ρ,n,ds,xs,rfl,bd,g,n4,ht,hb,hl,hx,q⟩:=h;have nd:=i0.nd;have Ac:AV 1 _:=hr.mono (by decide)
  ac_nf
  refine⟨_,(pS (sE 2 nd Nh)
   (pS (wc (i:=2) (j:=3) rfl rfl TD.ex nd (by rfl) TD.m rfl (Or.inl rfl) rfl rfl (pK (yL (i:=2) nd rfl (Or.inl rfl) (qC DP XP hr (by rfl) (pC (pv 0) (pC (pv 1) AB))))))
   (AG (AS (AO DA GA Ac (pC (pv 2) (pC AE AB))))))),?_⟩
  exists let b:=AF _ a;AF _ b _ _ _
  refine⟨Z,Z,p,k,t,ρ,n,ds,xs,Y,bd,g,n4,ht,hb,hl,hx,λH1 s1=>?_⟩;refine⟨Z,O9.ex.toExC,O9.sub,λea hea=>?_⟩;have s2:AA H1 (upd H1 ea (XO ea (Ds 9) none)):=Am hea;refine⟨Z,ea,9,9,none,Y,uS,.inl rfl,O9,V,V,λH3 s3=>?_⟩;rw[Jb rfl];exact q H3 (s1.trans (s2.trans s3))
set_option maxHeartbeats 8000000 in
def rN(F:Def K mg "_law_parted" Ue Qs f fd)(isi:mg "isinstance"=none)(tuple:mg "tuple"=none)(len:mg "len"=none)(DF:Def K mg "_law_fits" OE FL fF fdF)(GF:⋯ 2 fF fdF FL Wq)(DN:Def K mg "_law_nexts" JW FL fN fdN)(GN:⋯ 3 fN fdN FL d0)
  (DPr:Def K mg "_law_pair" OF Ee fPr fdPr) (GPr:⋯ 2 fPr fdPr Ee j9) (DLU:Def K mg "_law_is_lineup" Qg MF fLU fdLU) (GLU:⋯ 2 fLU fdLU MF j8) (DLR:Def K mg "_law_ranked" Ug Qq fLR fdLR) (GLR:⋯ 2 fLR fdLR Qq jO):⋯ 4 f fd Qs eD:=by
 nomatch F.fn.ok iy
 ·obtain⟨aa,ld,t,v,ρ,AL,n,ds,us,xs,row,θ,rfl,_⟩:=h;rfl
 ·obtain⟨aa,ld,t,v,ρ,AL,n,ds,us,xs,row,θ,rfl,g,gd,n4,d24,ha,hA,hld,hD,ht,gc,enx,hv,q⟩:=h;have nd:=iy.nd;have hu:=hr.units;have EA:AV 2 _:=hr.mono (by decide);have xl:=gc.len
  ac_nf
  refine'⟨_,(pS (sE 4 nd (AO DF GF EA (pC (pv 0) (pC (pv 1) (pC (pv 2) AB)))))
   (pS (sE 5 nd (AN (r:=Ax K) A0 (AO DN GN hr (pC (pv 0) (pC (pv 1) (pC (pv 2) AB)))) AE (λ_ _=>rfl)))
   (pS (Ae (Al Cs (Aa B9 (by rfl) len Yy (pC (pv 5) AB)) (Aa B9 (by rfl) len Yy (pC (pv 4) AB)) (Ai _)) (AG (AS (Ha kM (pv 3) Nh (Ai _)))) Af)
   (pS (Ae (PW.pt (JO (Bs (BZ (Aa Kd (by rfl) isi Ys (pC (pv 3) (pC (JR (v:=.ty "tuple") (by rfl) tuple Jo rfl) AB))))) (KU (Al Gm (Aa B9 (by rfl) len Yy (pC (pv 3) AB)) AE (Ai _))))) (AG (AS Bg)) Af)
   (pS (sE 6 nd (CI AB))
   (pS (CS Bb rfl (HZ (pv 3)) (gE 7 nd)
    (pS (Ae (PW.pt (JO (Bs (BZ (AO DPr GPr EA (pC (pv 7) AB)))) (KU (Bs (BZ (AO DLU GLU EA (pC (pv 0) (pC (pv 2) (pC (pv 7) AB))))))))) (AG (AS Bg)) Af)
   (pS (sE 8 nd (AO DLR GLR EA (pC (pv 1) (pC (pv 4) (pC (pv 7) AB)))))
   (pS (Ae (Al (IT hu) (Ic (r:=U2 K) Tz (pv 8) IZ (Ia (Aa B9 (by rfl) len Yy (pC (pv 5) AB)))) (pv 5) (Ai _)) (AG (AS Bg)) Af)
   (AG (B8 (Ct Yz E4 E3 EF (pv 6) (pC (AN (r:=A6 K) Ak (pv 8) (Aa B9 (by rfl) len Yy (pC (pv 5) AB)) (λ_ _=>rfl)) AB))))))))
   (AG (AS (Ha Gm (AN (r:=A6 K) Ak (pv 6) AE (λ_ _=>rfl)) (AN (r:=A6 K) Ak (pv 6) AE (λ_ _=>rfl)) (Ai _)))))))))),?_⟩
  exists let b:=_;let c:=AF _ b;let e:=AF _ c;let f:=AF _ e;let g:=AF (Es _ _ f) a;let h:=AF _ g;let i:=AF _ h;let j:=AF _ i;let k:=AF _ j;AF _ k _ _ _
  have fl:=QK ρ ds xs;refine⟨Z,Z,Z,aa,ld,t,n,ρ,AL,ds,us,xs,Y,g,ha,hA,hld,hD,gd,ht,gc,n4,λlf H1 hlf s1 IF=>?_⟩;refine⟨Z,Z,Z,aa,ld,t,n,ρ,AL,ds,us,xs,Y,g,s1 _ _ ha,hA.mono (λb xs e=>s1 _ _ e),s1 _ _ hld,hD.mono s1,gd,s1 _ _ ht,gc,n4,λtr lr ln H2 hlr ER s2 Bp GJ PX=>?_⟩;rw[enx]at GJ;have BF:=s1.trans s2;have V5:=s2 _ _ IF;refine⟨tr,Q,Z,Y,AH.of Bp,Y,?_⟩;refine⟨Z,lr,Z,.inl (SqL.of GJ),Z,lf,Z,.inl (SqL.of V5),Y,Z,?_⟩;rw[Ya,Ya]
  rcases yi g gd enx with⟨nn,el⟩ | ⟨nn,lt⟩
  ·rw[el,Jb rfl]
   rcases hv with⟨_,rfl⟩ | ⟨z,_⟩
   ·refine CG ⟨Z,Y,?_⟩;show Q (.bl (decide (V.non=V.non))) H2;rw[Jb rfl];exact q H2 BF
   ·exact absurd nn z
  rcases hv with⟨z,_⟩ | ⟨_,pt,u1,u2,o1,c1,o2,c2,first,rfl,hpt,Sh,Vq,p1,p2,hfi,BG⟩
  ·exact absurd z nn
  rw[Jc (λz=>by injection z with z;have:=Int.ofNat.inj z;dsimp only at this;omega)];refine Ap ?_;have Jz:=BF _ _ hpt;refine⟨Z,Q,_,Z,.tup Jz,Y,Z,Ap ?_⟩;refine⟨Z,pt,Z,.inr (AH.of Jz),Y,Z,Ap ?_⟩;refine⟨BE _,λlb hlb=>?_⟩;have s3:AA H2 (upd H2 lb (.lst [])):=Am hlb;have Cz:(upd H2 lb (.lst [])) lb≈(.lst []):=uS;generalize upd H2 lb (.lst [])=H3 at s3 Cz;have lfb:lf≠lb:=AK V5 hlb;have lrb:lr≠lb:=AK GJ hlb;have hU:Paired (λ(u:ζ×ξ) (v:V)=>∃ tu:ε,v=.ref tu/\Cq H2 tu u.1 u.2/\DJ ρ xs u.1 u.2) [(o1,c1),(o2,c2)] [.ref u1,.ref u2]:=.cons ⟨u1,Y,Sh.mono BF,p1⟩ (.cons ⟨u2,Y,Vq.mono BF,p2⟩ .nil);generalize hW:([(o1,c1),(o2,c2)]:List (ζ×ξ))=W at hU;have W2:↑W=2:=by rw[<- hW];rfl
  refine⟨Z,pt,Y,⟨_,AH.of (s3 _ _ Jz)⟩,C3 (Ie (xs:=[V.ref u1,.ref u2])) (λj (σ:St) (H':Hp)=>∃(x7 x8:OV),σ=[↥(.ref aa),↥(.ref ld),↥(.ref t),↥(.ref pt),↥(.ref lf),↥(.ref lr),↥(.ref lb),x7,x8]/\AA H2 H'/\H' lb≈(.lst (((W.take j).map λu=>(BY ρ ds xs u.1 u.2).getD ↑row 0).map AI)))
   ⟨none,none,Y,s3,Cz⟩ (λ_ _ _ _ h0=>by obtain⟨_,_,_,h,_⟩:=h0;exact AH.of (h _ _ Jz)) ?_ ?_⟩
  ·rintro j v σ H4 hj ⟨x7,x8,rfl,s4,La⟩;obtain⟨⟨ord,cs⟩,hu,lu,rfl,hlu,lup⟩:=B3 hU hj;dsimp only at hlu lup;have lok:=jm g (by omega) lup;have IA:=BF.trans s4;refine⟨Z,lu,ord,cs,Y,hlu.mono s4,lok,λH5 s5=>⟨Z,Ap ?_⟩⟩;have J7:=IA.trans s5;refine⟨Z,Z,Z,aa,t,lu,ρ,AL,xs,ord,cs,Y,g,J7 _ _ ha,hA.mono (λb xs e=>J7 _ _ e),J7 _ _ ht,gc.known,W,hlu.mono (s4.trans s5),lok,λv H6 s6 hv=>?_⟩;rw[hv.mpr lup];refine⟨Z,Ap ?_⟩;have Zs:=s5.trans s6;have LH:=s4.trans Zs;have Zw:=BF.trans LH;refine⟨Z,Z,Z,ld,lf,lu,ρ,n,ds,us,xs,ord,cs,Y,⟨g,gd,d24,gc,Zw _ _ hld,hD.mono Zw,hlu.mono LH,lok,lup⟩,LH _ _ V5,λl7 H7 V1 s7 Lg=>?_⟩;have M9:=LH.trans s7;have NG:=M9 _ _ GJ;refine⟨Z,Z,lr,Z,.inl (SqL.of NG),Z,l7,Z,SqL.of Lg,λl8 mX=>?_⟩;have rk:=dQ (ds:=ds) g gd gc lup;rw[enx]at rk;have rk:(BY ρ ds xs ord cs).take ↑row=row:=rk;dsimp only[QF]at *;rw[Ya,W3,<- Oc,rk];have s8:AA H7 (upd H7 l8 (.lst (row.map AI))):=Am mX;have au:(upd H7 l8 (.lst (row.map AI))) l8≈(.lst (row.map AI)):=uS;generalize upd H7 l8 (.lst (row.map AI))=H8 at s8 au;have PK:=s8 _ _ NG;refine⟨Z,.list (row.map IL),.list (row.map IL),.list (SqL.of au) (XQ _),.list (SqL.of PK) (XQ _),cM _ _,cM _ _,Z,?_⟩;rw[Ey];refine Ap ?_;have rl:↑(BY ρ ds xs ord cs)=↑(AR ρ ds xs):=(Kj ρ ds xs ord cs).length_eq;obtain⟨m,hm⟩:∃ m,(BY ρ ds xs ord cs)[↑row]?≈m:=⟨_,Yb (by omega)⟩;have Zr:=Zs.trans (s7.trans s8);have JI:=Zr _ _ La;have few:↑((W.take j).map λu=>(BY ρ ds xs u.1 u.2).getD ↑row 0)<=2:=by rw[Ya,BU];omega
   refine⟨Z,.inl ⟨Y,_,SqL.of JI⟩,Z,Z,lr,Z,.inl (SqL.of PK),l7,Q,AI m,Y,Y,SqL.of (s8 _ _ Lg),Dx (by omega) (by rw[Ya,Yt,Yh,hm];rfl),lb,_,Z,Y,JI,B_ (by rw[Ya];omega),?_⟩;refine⟨_,Z,λb u e=>by rw[AD (AK e hlb)];exact Zr _ _ (s4 _ _ e),?_⟩;rw[uS,Ce,hu,BP,BP];show some (HO.lst (_++[AI m]))≈(HO.lst (_++[AI ((BY ρ ds xs ord cs).getD ↑row 0)]));rw[Yg,hm];rfl
  rintro σ H4 ⟨x7,x8,rfl,s4,La⟩;rw[<- hW]at La;have La:H4 lb≈(.lst [AI ((BY ρ ds xs o1 c1).getD ↑row 0),AI ((BY ρ ds xs o2 c2).getD ↑row 0)]):=La;have e1:(BY ρ ds xs o1 c1).getD ↑row 0=first:=by rw[Yg,hfi];rfl
  have e2:(BY ρ ds xs o2 c2).getD ↑row 0≠first:=λz=>BG (by
   have rl:↑(BY ρ ds xs o2 c2)=↑(AR ρ ds xs):=(Kj ρ ds xs o2 c2).length_eq;rw[Yg,Yb (by omega)]at z;rw[Yb (by omega)];exact congrArg some z)
  refine⟨Z,lb,Q,Z,Y,SqL.of La,Dx (Int.le_refl _) rfl,Z,lb,Q,Z,Y,SqL.of La,Dx (by decide) rfl,Y,?_⟩;rw[e1,Jc (λz=>e2 (by injection z with z;exact(Int.ofNat.inj z).symm))];exact q H4 (BF.trans s4)
theorem gU{α β:Type}{R:α->β->Prop}:∀ {l:List α}{m:List β},Paired R l m->Paired R l.reverse m.reverse
 | _,_,.nil=>.nil
 | _,_,.cons r t=>by
  rw[List.reverse_cons,List.reverse_cons];exact EZ (gU t) r
def Ba.rev{ρ:RS}{n:Nat}{ds:ξ}(h:Ba ρ n ds):Ba ρ n ds.reverse :=
 ⟨λd hd=>h.call d (List.mem_reverse.mp hd),List.pairwise_reverse.mpr (List.Pairwise.imp (λa=>Yx a) h.nd),by rw[Oh];exact h.few⟩
def Th(K:Fg)(T U:ε):Sp:=λvs H Q _=>∃(a:ε) (ns:ζ),vs=[.ref a]/\SqL K H a (ns.map V.int)/\↑ns<=63/\H T≈(.tbl #[])/\H U≈(.tbl #[])/\∀ H',Q (.bl true) H'
abbrev nL:LS:=["script","rows","above","places","deeds","call","kinds","turned","first","second","copies","board","stands","found","words","pot"]
def Zk:Ad nL ["script"] (AJ Pz):=by nofun
def wq:(["lineup"]:LS).Nodup:=by rfl'
def HQ(ρ:RS)(n:Nat)(ds:ξ)(xs:LS)(S:List BJ):Prop:=∃ row θ,nx (wB ρ ds) ↑(AR ρ ds xs) (AR ρ ds xs)=(row,θ)/\((θ=[]/\S=[])\/(θ≠[]/\∃(first b i:Nat) (r:LN),(BY ρ ds xs (Ah n) (EC ρ xs))[↑row]?≈first/\b=X7 θ first/\HL ρ ds n first b=i :: r/\i<n/\S=[(Ah n,EC ρ xs),(Cr n i,C9 ρ ds xs b i)]))
def HQ.uniq{ρ:RS}{n:Nat}{ds:ξ}{xs:LS}{S S':List BJ}(h:HQ ρ n ds xs S)(h':HQ ρ n ds xs S'):S=S':=by
 obtain⟨row,θ,e,h⟩:=h;obtain⟨row',near',e',h'⟩:=h';rw[e]at e';injection e' with e1 e2;subst e1;subst e2
 rcases h with⟨z,hs⟩ | ⟨z,first,b,i,r,a1,a2,a3,_,hs⟩
 ·rcases h' with⟨_,Gf⟩ | ⟨z',_⟩
  ·rw[hs,Gf]
  ·exact absurd z z'
 ·rcases h' with⟨z',_⟩ | ⟨_,Zb,b',i',r',c1,c2,c3,_,Gf⟩
  ·exact absurd z' z
  ·rw[a1]at c1;injection c1 with c1;subst c1;rw[<- a2]at c2;subst c2;rw[a3]at c3;injection c3 with c3;subst c3;rw[hs,Gf]
def jk{ρ:RS}{xs:LS}{ord:ζ}{cs:ξ}(g:Ab ρ)(h4:↑xs<=4)(h:DJ ρ xs ord cs):↑ord<=4 + 0/\↑cs<=4/\∀ c∈cs,TV c/\↑c<=24 + 0:=by
 refine⟨?_,by rw[h.len];omega,λc hc=>?_⟩
 ·rw[h.ord.length_eq];unfold Ah;rw[Ya,Ec];omega
 ·obtain⟨i,hi⟩:=D0 hc;have il:=(Ye.mp hi).1;rw[h.len]at il;have L:=h.line i _ c (Yb il) hi;refine⟨λz hz=>QG (UL g z (Ih (L.1.mem_iff.mp hz))),?_⟩;rw[L.1.length_eq];exact Nt g (xs[i])
def HQ.bd{ρ:RS}{n:Nat}{ds:ξ}{xs:LS}{S:List BJ}(g:Ab ρ)(gc:Bh ρ n xs)(n4:n<=4)(h:HQ ρ n ds xs S):Ed 0 0 S/\↑S<=2:=by
 obtain⟨row,θ,_,h⟩:=h;have x4:↑xs<=4:=by rw[gc.len];exact n4
 rcases h with⟨_,hs⟩ | ⟨_,first,b,i,r,_,_,_,hi,hs⟩
 ·rw[hs];exact⟨(λu hu=>nomatch hu),V⟩
 ·rw[hs];refine⟨λu hu=>?_,Yf _⟩
  rcases Yl.mp hu with e | e
  ·rw[e];exact jk g x4 (QW g gc)
  ·rw[Yi.mp e];exact jk g x4 (US g gc hi)
def Mc(lk:ε)(H:Hp)(Ss:List (List BJ))(cv:LV):Prop:=Paired (λ(S:List BJ) v=>∃(l:ε) (Ks:List Rc),v=V.ref l/\A9 H l Ks S/\lk∉l :: Ks.flatMap Rc.pcs) Ss cv
def A9.monoN{H H':Hp}{l:ε}{Rs:List Rc}{S:List BJ}(h:A9 H l Rs S)(k:NT H H'):A9 H' l Rs S:=by
 refine⟨k.l h.at_,Paired.mapP h.lus λu r x=>x.keep λb o _ hn e=>k b o hn e,h.nd⟩
theorem Mc.monoN{lk:ε}{H H':Hp}{Ss:List (List BJ)}{cv:LV}(h:Mc lk H Ss cv)(k:NT H H'):Mc lk H' Ss cv:=Paired.mapP h λ_ _ ⟨l,Ks,e,x,n⟩=>⟨l,Ks,e,x.monoN k,n⟩
def Mc.put{lk:ε}{H:Hp}{Ss:List (List BJ)}{cv us ws:LV}(h:Mc lk H Ss cv)(hk:H lk≈(.lst us)):Mc lk (upd H lk (.lst ws)) Ss cv:=Paired.mapP h λ_ _ ⟨l,Ks,e,x,n⟩=>⟨l,Ks,e,x.frame hk n,n⟩
def pT{K:Fg}{H H':Hp}{l:ε}{xs:LV}(h:SqL K H l xs)(s:NT H H'):SqL K H' l xs:=by
 rcases h with(h | ⟨o,h⟩) | h
 ·exact .inl (.inl (s.l h))
 ·exact .inl (.inr ⟨o,s _ _ (λ_ z=>nomatch z) h⟩)
 ·exact .inr h
def cI{ι:Type}{F:ι->List BJ->Prop}{I:List ι}{Ss:List (List BJ)}{S0:List BJ}{j:Nat}{aK:ι}(h:∀(i:Nat) S it,Ss[i]?≈S->I[i]?≈it->F it S)(hj:↑Ss=j)(hit:I[j]?≈aK)(h0:F aK S0)(i:Nat)(S:List BJ)(it:ι)(hS:(Ss++[S0])[i]?≈S)(hI:I[i]?≈it):F it S:=by
 rcases Nat.lt_or_ge i ↑Ss with z | z
 ·rw[Og z]at hS;exact h i S it hS hI
 ·rw[Ku z]at hS;have:i - ↑Ss=0:=by have:=(Ye.mp hS).1;simp only[Cd,List.length_nil]at this;omega
  rw[this]at hS;injection hS with hS;rw[show i=j by omega,hit]at hI;injection hI with hI;rw[<- hS,<- hI];exact h0
structure y7(mg:Str->OU):Prop where
 list:mg "list"=none
 rev:mg "reversed"=none
set_option maxHeartbeats 16000000 in
def wJ{lp lr:Pos}(F:Def K mg "law" Pz ["script"] f fd)(TL:y7 mg)(TU:T≠U)(M:Mk K C fI)(mgC:mg "Kinds"≈(.ref C))(bI:C1 K fdI ["self","rows"] [])(GI:⋯ 4 fI fdI ["self","rows"] (WZ K C))
  (MB:Mk K B fBI) (mgB:mg "Board"≈(.ref B)) (bB:C1 K fdBI O5 []) (GB:⋯ 4 fBI fdBI O5 (Wn K C B))
  (DCa:Def K mg "_law_case" L9 ["script","most"] fCa fdCa) (GCa:⋯ 5 fCa fdCa ["script","most"] (j6 K)) (DP:Def K mg "_law_pot" QX ["script","k"] fP fdP) (GP:⋯ 1 fP fdP ["script","k"] (YN K)) (DPt:Def K mg "parting" N4 DM fPt fdPt) (GPt:⋯ 10 fPt fdPt DM (j_ C B T U lp lr))
  (DPd:Def K mg "_law_parted" Ue Qs fPd fdPd) (GPd:⋯ 4 fPd fdPd Qs eD) (DCp:Def K mg "_law_copied" ON ["lineup"] fCp fdCp) (GCp:⋯ 1 fCp fdCp ["lineup"] W9) (DAp:Def K mg "_law_apart" OI ["lineups"] fAp fdAp) (GAp:⋯ 2 fAp fdAp ["lineups"] cR)
  (DRf:Def K mg "_law_refused" Ut DM fRf fdRf) (GRf:⋯ 10 fRf fdRf DM (kD C B)) (DNc:Def K mg "_law_no_call" Ur ["pot","words","call"] fNc fdNc) (GNc:⋯ 4 fNc fdNc ["pot","words","call"] d_):⋯ 11 f fd ["script"] (Th K T U):=by
 nomatch F.fn.ok Zk
 ·obtain⟨a,ns,rfl,_⟩:=h;rfl
 ·obtain⟨a,ns,rfl,hS,hlen,ag,aZ,q⟩:=h;have nd:=Zk.nd;have hu:=hr.units;have Ac:AV 1 _:=hr.mono (by decide);have EA:AV 2 _:=hr.mono (by decide);have Vy:AV 4 _:=hr.mono (by decide);have ID:AV 5 _:=hr.mono (by decide)
  ac_nf
  refine'⟨_,(pS (Td (AO DCa GCa ID (pC (pv 0) (pC AE AB))) (IU rfl (gC (gE 1 nd) (gC (gE 2 nd) (gC (gE 3 nd) (gC (gE 4 nd) (gC (gE 5 nd) IY)))))))
   (pS (sE 6 nd (Wu M GI ID (by rfl) mgC bI .nil BS (pC (pv 1) AB)))
   (pS (sE 7 nd (sY rfl (pv 4) (by rfl) TL.list (by rfl) TL.rev))
   (pS (sE 8 nd (Wu MB GB ID (by rfl) mgB bB .nil BS (pC (pv 6) (pC (pv 3) (pC (pv 4) AB)))))
   (pS (sE 9 nd (Wu MB GB ID (by rfl) mgB bB .nil BS (pC (pv 6) (pC (pv 3) (pC (pv 7) AB)))))
   (pS (sE 10 nd (CI AB))
   (pS (CS Bb rfl (Bn (CI (pC (Ca (pC (pv 8) (pC (pv 4) AB))) (pC (Ca (pC (pv 9) (pC (pv 7) AB))) (pC (Ca (pC (pv 8) (pC (pv 4) AB))) AB))))) (IU rfl (gC (gE 11 nd) (gC (gE 12 nd) IY)))
    (pS (sE 13 nd (AO DPt GPt hr (pC (pv 11) (pC (pv 5) AB))))
   (pS (Ae (Bs (BZ (AO DPd GPd Vy (pC (pv 2) (pC (pv 12) (pC (pv 5) (pC (pv 13) AB))))))) (AG (AS Bg)) Af)
   (AG (Ae (Al kM (pv 13) Nh (Ai _)) (AG (B8 (Ct Yz E4 E3 EF (pv 10) (pC (CI AB) AB))))
     (pS (B8 (Ct Yz E4 E3 EF (pv 10) (pC ?e1 AB)))
   (AG (Ae (Bs (BZ (AO DAp GAp EA (pC (CI (pC (AN (r:=Ax K) A0 (pv 13) AE (λ_ _=>rfl)) (pC (AN (r:=Ax K) A0 (pv 13) AE (λ_ _=>rfl)) AB))) AB)))) (AG (AS Bg)) Af))))))))
   (pS (Ae (Al (IT hu) (AN (r:=A6 K) Ak (pv 10) AE (λ_ _=>rfl)) (AN (r:=A6 K) Ak (pv 10) AE (λ_ _=>rfl)) (Ai _)) (AG (AS Bg)) Af)
   (pS ?e2
   (pS (sE 15 nd (AO DP GP Ac (pC (pv 0) (pC AE AB))))
   (pS (Ae (Bs (BZ (AO DRf GRf hr (pC (pv 8) (pC (AO DNc GNc Vy (pC (pv 15) (pC (pv 14) (pC (pv 5) AB)))) AB))))) (AG (AS Bg)) Af)
   (AG (AS (AO DPd GPd Vy (pC (pv 2) (pC (pv 4) (pC (pv 5) (pC (AO DPt GPt hr (pC (pv 8) (pC (pv 5) AB))) AB)))))))))))))))))),?_⟩
  case e1=>exact(BO ["lineup"] [] [] (λ_=>A3 (osc:=AJ Pz) (on:=nL) (by rfl') rfl rfl rfl) (HZ (pv 13)) (λC s H fp=>Az (i:=0) wq rfl (Or.inl rfl) (Or.inr rfl)) (λC s H fp=>Br) (λC s H fp=>AO DCp GCp Ac (pC (pv 0) AB)))
  case e2=>exact(L6 (k:=14) ["row"] [] [] nd rfl rfl (λ_=>A3 (osc:=AJ Pz) (on:=nL) (by rfl') rfl rfl rfl) (Bn (pv 1)) (λC s H fp=>Az (i:=0) Wk rfl (Or.inl rfl) (Or.inr rfl)) (λC s H fp=>Br) (λC s H fp=>AN (r:=Ax K) A0 (pv 0) AE (λ_ _=>rfl)))
  exists let b:=AF _ a;let c:=AF _ b;let e:=AF _ c;let f:=AF _ e;let g:=_;let h:=_;let i:=AF _ h;let j:=HP _ g i;let k:=AF _ j;let l:=AF _ k;let m:=AF (Es _ _ l) f;let n:=AF _ m;let o:=AF _ n;let p:=AF _ o;let q:=AF _ p;let r:=AF _ q;AF _ r _ _ _
  refine⟨Z,a,ns,24,Y,hS,W,V,V,λt0 l aa ld tc n ρ AL ds us xs H1 s1 PJ NM g GY ar n1 n4 GV KC gd dl Rg gc=>⟨t0,Z,AH.of PJ,Y,_,Z,_,Z,_,Z,_,Z,_,Z,Y,?_⟩⟩;have few:=gd.few;have xl:=gc.len;have gle:=g.le;refine⟨Z,?_⟩;intro xb dxb lG ndx nex;refine oR lG ndx NM g λH2 C7 Vt=>?_;refine⟨Z,ld,us,Y,SqL.of (C7 _ _ GV),λlt AW=>?_⟩;have H_:AA H2 (upd H2 lt (.lst us.reverse)):=Am AW;have E_:(upd H2 lt (.lst us.reverse)) lt≈(.lst us.reverse):=uS;generalize upd H2 lt (.lst us.reverse)=H3 at H_ E_;have CU:=C7.trans H_;have JL:B2 H3 ds.reverse us.reverse:=gU (KC.mono CU);have aw:=gd.rev;refine⟨Z,Z,Z,?_⟩;intro yb dyb ny ndy ney;refine dG ny ndy (Vt.mono H_) g (.inl (CU _ _ GV)) (KC.mono CU) gd n1 n4 λH4 C6 TH=>?_;have Zv:=CU.trans C6;refine⟨Z,Z,Z,?_⟩;intro zb dzb nz ndz nez;refine dG nz ndz ((Vt.mono H_).mono C6) g (.inl (C6 _ _ E_)) (JL.mono C6) aw n1 n4 λH5 LG bL=>?_;have Ga:=Zv.trans LG;have J7:=s1.trans Ga;have kh:EJ T U lp lr H5:=⟨.inl (J7 _ _ ag),.inl (J7 _ _ aZ),TU⟩;refine⟨BE _,λlk hlk=>?_⟩;have J6:AA H5 (upd H5 lk (.lst [])):=Am hlk;have aQ:(upd H5 lk (.lst [])) lk≈(.lst []):=uS;generalize upd H5 lk (.lst [])=H6 at J6 aQ;refine⟨Z,Z,U,λq1 mS=>?_⟩;have t1:AA H6 (upd H6 q1 (.tup [.ref yb,.ref ld])):=Am mS;have Lb:(upd H6 q1 (.tup [.ref yb,.ref ld])) q1≈(.tup [.ref yb,.ref ld]):=uS;generalize upd H6 q1 (.tup [.ref yb,.ref ld])=G1 at t1 Lb;refine⟨Z,Z,U,λq2 mR=>?_⟩;have t2:AA G1 (upd G1 q2 (.tup [.ref zb,.ref lt])):=Am mR;have Fi:(upd G1 q2 (.tup [.ref zb,.ref lt])) q2≈(.tup [.ref zb,.ref lt]):=uS;generalize upd G1 q2 (.tup [.ref zb,.ref lt])=G2 at t2 Fi;refine⟨Z,Z,U,λq3 mQ=>?_⟩;have t3:AA G2 (upd G2 q3 (.tup [.ref yb,.ref ld])):=Am mQ;have Sx:(upd G2 q3 (.tup [.ref yb,.ref ld])) q3≈(.tup [.ref yb,.ref ld]):=uS;generalize upd G2 q3 (.tup [.ref yb,.ref ld])=G3 at t3 Sx;refine⟨sL (by show 3<=100000;decide),λlq hlq=>?_⟩;have t4:AA G3 (upd G3 lq (.lst [.ref q1,.ref q2,.ref q3])):=Am hlq;have hbq:(upd G3 lq (.lst [.ref q1,.ref q2,.ref q3])) lq≈(.lst [.ref q1,.ref q2,.ref q3]):=uS;generalize upd G3 lq (.lst [.ref q1,.ref q2,.ref q3])=Hb at t4 hbq;have VY:=t3.trans t4;have VZ:=t2.trans VY;have Zo:=t1.trans VZ;have Lb:=VZ _ _ Lb;have Fi:=VY _ _ Fi;have Sx:=t4 _ _ Sx;have Vb:=J6.trans Zo;have hkb:=Zo _ _ aQ;have lqk:lq≠lk:=λz=>by rw[z,hkb]at hbq;cases hbq
  have R5:=OD NM Ga;have a5:=Ga _ _ GY;have A5:CH H5 ρ ρ AL:=ar.mono λb xs e=>Ga _ _ e;have LC:=Ga _ _ Rg;have S5:=J7.seq hS;have items:Paired (λ(it:ε×ε×ξ×LV) (v:V)=>∃ q:ε,v=.ref q/\Hb q≈(.tup [.ref it.1,.ref it.2.1])/\(∃ k,Cb C B H5 it.1 k ρ n it.2.2.1)/\H5 it.2.1≈(.lst it.2.2.2)/\B2 H5 it.2.2.1 it.2.2.2/\Ba ρ n it.2.2.1/\↑it.2.2.1<=24) [(yb,ld,ds,us),(zb,lt,ds.reverse,us.reverse),(yb,ld,ds,us)] [.ref q1,.ref q2,.ref q3] :=
   .cons ⟨q1,Y,Lb,⟨xb,TH.mono LG⟩,Ga _ _ GV,KC.mono Ga,gd,dl⟩ (.cons ⟨q2,Y,Fi,⟨xb,bL⟩,(C6.trans LG) _ _ E_,JL.mono (C6.trans LG),aw,by rw[Oh];exact dl⟩ (.cons ⟨q3,Y,Sx,⟨xb,TH.mono LG⟩,Ga _ _ GV,KC.mono Ga,gd,dl⟩ .nil))
  have R3:Cb C B H5 yb xb ρ n ds:=TH.mono LG;have aH:=Ga _ _ GV;have D5:=KC.mono Ga;clear NM GY ar Rg GV KC JL E_ Vt TH bL C7 H_ CU C6 Zv LG PJ Ga J7 ag aZ hS s1 t1 t2 t3 t4 VY VZ;generalize hI:([(yb,ld,ds,us),(zb,lt,ds.reverse,us.reverse),(yb,ld,ds,us)]:List (ε×ε×ξ×LV))=I at items;refine⟨lq,Y,⟨_,SqL.of hbq⟩,C3 (B4 (xs:=[V.ref q1,.ref q2,.ref q3])) (λj (σ:St) (H':Hp)=>∃(cv:LV) (Ss:List (List BJ)) (VQ Oy VP:OV),σ=[↥(.ref a),↥(.ref l),↥(.ref aa),↥(.int n),↥(.ref ld),↥(.ref tc),↥(.ref xb),↥(.ref lt),↥(.ref yb),↥(.ref zb),↥(.ref lk),VQ,Oy,VP,none,none]/\(∀ b o,b≠lk->(∀ ps,o≠.tbl ps)->Hb b≈o->H' b≈o)/\EJ T U lp lr H'/\H' lk≈(.lst cv)/\Mc lk H' Ss cv/\↑Ss=j/\∀(i:Nat) S it,Ss[i]?≈S->I[i]?≈it->HQ ρ n it.2.2.1 xs S)
   ⟨[],[],none,none,none,Y,(λb o _ _ e=>e),kh.mono Vb,hkb,.nil,Y,λi S it h=>nomatch h⟩ (λ_ _ _ _ h0=>by obtain⟨_,_,_,_,_,_,k,_⟩:=h0;exact SqL.of (k _ _ lqk (λ_ z=>nomatch z) hbq)) ?_ ?_⟩
  ·rintro j v σ H8 hj ⟨cv,Ss,VQ,Oy,VP,rfl,k8,VW,LY,Lf,LF,O2⟩;obtain⟨⟨bo,st,dj,uj⟩,hit,qj,rfl,hqj,⟨kj,bdj⟩,hst,hDj,gdj,dlj⟩:=B3 items hj;dsimp only at hqj bdj hst hDj gdj dlj;have j3:j<3:=by rw[<- hI]at hit;exact(Ye.mp hit).1
   have JB:NT H5 H8:=λb o hn e=>k8 b o (AK e hlk) hn (Vb _ _ e);have qk:qj≠lk:=λz=>by rw[z,hkb]at hqj;cases hqj
   refine⟨qj,Z,AH.of (k8 _ _ qk (λ_ z=>nomatch z) hqj),Y,_,Z,_,Z,Y,?_⟩;generalize enx:nx (wB ρ dj) ↑(AR ρ dj xs) (AR ρ dj xs)=nw;obtain⟨row,θ⟩:=nw;have cvl:=A_ Lf;refine⟨Z,Z,bo,kj,tc,ρ,n,dj,xs,row,θ,Y,bdj.monoN JB,g,gdj,n4,dlj,JB.t LC,gc,VW,enx,λnn H9 O6 VU=>?_,λnn pt u1 u2 first b i r H9 O6 VU hpt l2 hfi hb hp hi BG=>?_⟩
   ·have Ef:=JB.trans O6;refine⟨Z,Z,Z,Z,aa,st,tc,.non,ρ,AL,n,dj,uj,xs,row,θ,Y,g,gdj,n4,dlj,Ef _ _ (λ_ z=>nomatch z) a5,UR A5 Ef,Ef.l hst,hDj.monoN Ef,Ef.t LC,gc,enx,.inl ⟨nn,Y⟩,λCC CK=>⟨Z,Ap ?_⟩⟩;have Hm:=O6.trans (AA.nt CK);have FA:=Hm.l LY;refine⟨Z,Y,Z,CG ⟨Z,.inl ⟨Y,_,SqL.of FA⟩,BE _,λle hle=>?_⟩⟩;have Cy:AA CC (upd CC le (.lst [])):=Am hle;have BB:(upd CC le (.lst [])) le≈(.lst []):=uS;generalize upd CC le (.lst [])=CT at Cy BB;have Dp:=Cy _ _ FA;have Hl:=Hm.trans (AA.nt Cy);have lek:le≠lk:=Yx (AK FA hle);refine⟨lk,_,Z,Y,Dp,B_ (by omega),?_⟩;have z0:=Lf.monoN Hl;have E7:=(VU.mono CK).mono Cy;have Fe:∀ b u,b≠lk->CT b≈u->(upd CT lk (.lst (cv++[.ref le]))) b≈u:=λb u hb e=>by rw[AD hb];exact e
    have kt:∀ b u,(∃ ps,u=.tbl ps)\/(∃ ob u',u=.frz ob u')->CT b≈u->(upd CT lk (.lst (cv++[.ref le]))) b≈u:=λb u hu e=>Fe b u (λz=>by rw[z,Dp]at e;rcases hu with⟨_,rfl⟩ | ⟨_,_,rfl⟩ <;> cases e) e;refine⟨cv++[.ref le],Ss++[[]],Q,Z,λb o hb hn e=>Fe b o hb (Hl b o hn (k8 b o hb hn e)),⟨E7.p.keep kt,E7.r.keep kt,E7.ne⟩,uS,EZ (z0.put Dp) ⟨le,[],Y,⟨Fe _ _ lek BB,.nil,Yu.mpr ⟨(λh=>nomatch h),G8⟩⟩,λz=>?_⟩,by rw[Bw,LF];rfl,cI (F:=λit S=>HQ ρ n it.2.2.1 xs S) O2 LF hit ⟨row,θ,enx,.inl ⟨nn,Y⟩⟩⟩
    ·rcases Yl.mp z with e | e
     ·exact lek e.symm
     ·cases e
   ·obtain⟨lo1,Fd,Fm,Fb,Fc,Eo,fr,ndp,X1,X2⟩:=l2;have plup:=QW (xs:=xs) g gc;have alup:DJ ρ xs (Cr n i) (C9 ρ dj xs b i):=US g gc hi;have pdS:HQ ρ n dj xs [(Ah n,EC ρ xs),(Cr n i,C9 ρ dj xs b i)]:=⟨row,θ,enx,.inr ⟨nn,first,b,i,r,hfi,hb,hp,hi,Y⟩⟩;obtain⟨bdS,_⟩:=pdS.bd g gc n4;have Ef:=JB.trans O6;refine⟨Z,Z,Z,Z,aa,st,tc,.ref pt,ρ,AL,n,dj,uj,xs,row,θ,Y,g,gdj,n4,dlj,Ef _ _ (λ_ z=>nomatch z) a5,UR A5 Ef,Ef.l hst,hDj.monoN Ef,Ef.t LC,gc,enx,.inr ⟨nn,pt,u1,u2,Q,Q,first,Y,hpt,X1.at_,X2.at_,plup,alup,hfi,BG⟩,λCC CK=>⟨Z,Ap ?_⟩⟩;have Hm:=O6.trans (AA.nt CK);have FA:=Hm.l LY;have FW:=CK _ _ hpt;have RJ:=X1.mono CK;have RI:=X2.mono CK;refine⟨Z,Y,Z,Ap ⟨Z,.inl ⟨Y,_,SqL.of FA⟩,Z,pt,Y,⟨_,AH.of FW⟩,XW (Ie (xs:=[V.ref u1,.ref u2])) (show 2<=100 by decide) (λH' s'=>AH.of (s' _ _ FW)) (S:=[(Ah n,EC ρ xs),(Cr n i,C9 ρ dj xs b i)]) (.cons ⟨u1,Y,RJ.at_⟩ (.cons ⟨u2,Y,RI.at_⟩ .nil)) (bdS.ok (by decide) (by decide)) (λt ord cs H' R ht lok hR=>⟨Z,t,ord,cs,Y,ht,lok,hR⟩) λD CT Ks hD Cy hK fK=>?_⟩⟩;have Dp:=Cy _ _ FA;have Hl:=Hm.trans (AA.nt Cy);refine⟨lk,_,Z,Y,Dp,B_ (by omega),?_⟩;have nK:lk∉D :: Ks.flatMap Rc.pcs:=λz=>by
     have:=fK lk z;rw[FA]at this;cases this
    have E7:=(VU.mono CK).mono Cy;have Fe:∀ b u,b≠lk->CT b≈u->(upd CT lk (.lst (cv++[.ref D]))) b≈u:=λb u hb e=>by rw[AD hb];exact e
    have kt:∀ b u,(∃ ps,u=.tbl ps)\/(∃ ob u',u=.frz ob u')->CT b≈u->(upd CT lk (.lst (cv++[.ref D]))) b≈u:=λb u hu e=>Fe b u (λz=>by rw[z,Dp]at e;rcases hu with⟨_,rfl⟩ | ⟨_,_,rfl⟩ <;> cases e) e;have Jv:EJ T U lp lr (upd CT lk (.lst (cv++[.ref D]))):=⟨E7.p.keep kt,E7.r.keep kt,E7.ne⟩;have Ru:(upd CT lk (.lst (cv++[.ref D]))) lk≈(.lst (cv++[.ref D])):=uS;have Ry:=hK.frame (o:=.lst (cv++[.ref D])) Dp nK;have kW:Paired (λ(S:List BJ) v=>∃(l:ε) (Ks:List Rc),v=V.ref l/\A9 H8 l Ks S/\A9 (upd CT lk (.lst (cv++[.ref D]))) l Ks S/\lk∉l :: Ks.flatMap Rc.pcs) Ss cv:=Paired.mapP Lf λ_ _ ⟨l,Ks,e,x,n⟩=>⟨l,Ks,e,x,(x.monoN Hl).frame Dp n,n⟩;generalize upd CT lk (.lst (cv++[.ref D]))=Ju at Fe Jv Ru Ry kW;have tk:∀ {q:ε} {us:LV},CT q≈(.tup us)->q≠lk:=λe z=>by rw[z,Dp]at e;cases e
    have K9:=Fe _ _ (tk (Cy _ _ FW)) (Cy _ _ FW);refine⟨Z,pt,Q,Z,Y,AH.of K9,Y,Z,pt,Q,Z,Y,AH.of K9,Y,U,λla hla=>?_⟩;have CU:AA Ju (upd Ju la (.lst [.ref u1,.ref u2])):=Am hla;have S8:(upd Ju la (.lst [.ref u1,.ref u2])) la≈(.lst [.ref u1,.ref u2]):=uS;generalize upd Ju la (.lst [.ref u1,.ref u2])=Ow at CU S8;have ef:([⟨u1,lo1,Fd,Fm⟩,⟨u2,Fb,Fc,Eo⟩]:List Rc).flatMap Rc.pcs=(lo1 :: Fd :: Fm)++(Fb :: Fc :: Eo):=by rw[List.flatMap_cons,List.flatMap_cons,List.flatMap_nil,Eb]
    have pk:∀ x∈(lo1 :: Fd :: Fm)++(Fb :: Fc :: Eo),x≠lk:=λx hx z=>by
     have:=fr x hx;rw[z,LY]at this;cases this
    have Y1:EL Ju u1 lo1 Fd Fm (Ah n) (EC ρ xs):=(RJ.mono Cy).keep λc o hc _ e=>Fe c o (by
     rcases hc with y | y
     ·rw[y];exact tk (RJ.mono Cy).tup
     ·exact pk c (Jm _ y)) e
    have Y2:EL Ju u2 Fb Fc Eo (Cr n i) (C9 ρ dj xs b i):=(RI.mono Cy).keep λc o hc _ e=>Fe c o (by
     rcases hc with y | y
     ·rw[y];exact tk (RI.mono Cy).tup
     ·exact pk c (Yw _ y)) e
    have Rx:A9 Ow la [⟨u1,lo1,Fd,Fm⟩,⟨u2,Fb,Fc,Eo⟩] [(Ah n,EC ρ xs),(Cr n i,C9 ρ dj xs b i)]:=by
     refine⟨S8,.cons (Y1.mono CU) (.cons (Y2.mono CU) .nil),?_⟩;rw[ef];refine Yu.mpr ⟨λz=>?_,ndp⟩
     rcases Yp.mp z with y | y
     ·obtain⟨_,e⟩:=Y1.live y;rw[hla]at e;cases e
     ·obtain⟨_,e⟩:=Y2.live y;rw[hla]at e;cases e
    refine⟨la,_,Z,Rx,bdS,Yf 2,λOv J3=>⟨Z,Ap ?_⟩⟩;rw[ef]at J3;have R7:∀ x∈(lo1 :: Fd :: Fm)++(Fb :: Fc :: Eo),∃ us,Ow x≈(.lst us):=λx hx=>Rx.alive (.tail _ (by rw[ef];exact hx));have out:∀ x o,((∃ u,H8 x≈u)\/(∃ us,o=.tup us)\/(∃ ps,o=.tbl ps)\/(∃ ob u',o=.frz ob u'))->Ow x≈o->Ov x≈o:=λx o hx e=>J3 x o (λz=>by
     rcases hx with⟨u,y⟩ | y
     ·rw[fr x z]at y;cases y
     ·obtain⟨us,e'⟩:=R7 x z;rw[e']at e
      rcases y with⟨_,rfl⟩ | ⟨_,rfl⟩ | ⟨_,_,rfl⟩ <;> cases e) e
    have Hk:=Jv.mono CU;have Rb:∀ b u,(∃ ps,u=.tbl ps)\/(∃ ob u',u=.frz ob u')->Ow b≈u->Ov b≈u:=λb u hu e=>out b u (.inr (.inr hu)) e;refine⟨cv++[.ref D],Ss++[_],Q,Z,λb o hb hn e=>?_,⟨Hk.p.keep Rb,Hk.r.keep Rb,Hk.ne⟩,out lk _ (.inl ⟨_,LY⟩) (CU _ _ Ru),EZ (Paired.mapP kW λS v ⟨l,Ks,e,x8,Oy,n⟩=>⟨l,Ks,e,(Oy.mono CU).keepP λc o hc e'=>?_,n⟩) ⟨D,Ks,Y,(Ry.mono CU).keepP λc o hc e'=>?_,nK⟩,by rw[Bw,LF];rfl,cI (F:=λit S=>HQ ρ n it.2.2.1 xs S) O2 LF hit pdS⟩
    ·have e8:=k8 b o hb hn e;exact out b o (.inl ⟨_,e8⟩) (CU _ _ (Fe b o hb (Hl b o hn e8)))
    ·refine out c o ?_ e'
     rcases hc with y | y | y
     ·obtain⟨us,z⟩:=x8.alive (.tail _ y);exact .inl ⟨_,z⟩
     ·rw[y];exact .inl ⟨_,x8.at_⟩
     ·exact .inr (.inl y)
    ·rcases hc with y | y | y
     ·refine J3 c o (λz=>?_) e';have:=fK c (.tail _ y)
      rcases Yp.mp z with z | z
      ·obtain⟨_,e⟩:=RJ.live z;rw[this]at e;cases e
      ·obtain⟨_,e⟩:=RI.live z;rw[this]at e;cases e
     ·refine J3 c o (λz=>?_) e';have:=fK c (by rw[y];exact .head _)
      rcases Yp.mp z with z | z
      ·obtain⟨_,e⟩:=RJ.live z;rw[this]at e;cases e
      ·obtain⟨_,e⟩:=RI.live z;rw[this]at e;cases e
     ·exact out c o (.inr (.inl y)) e'
  rintro σ H8 ⟨cv,Ss,VQ,Oy,VP,rfl,k8,VW,LY,Lf,LF,O2⟩;have cvl:=A_ Lf;have LF:↑Ss=3:=LF;obtain⟨v0,B6⟩:∃ v,cv[0]?≈v:=⟨_,Yb (by omega)⟩;obtain⟨v2,LO⟩:∃ v,cv[2]?≈v:=⟨_,Yb (by omega)⟩;obtain⟨S0,nE,l0,K0,rfl,y0,_⟩:=B3 Lf B6;obtain⟨S2,nC,l2,K2,rfl,y2,_⟩:=B3 Lf LO;have p0:HQ ρ n ds xs S0:=O2 0 S0 (yb,ld,ds,us) nE (by rw[<- hI];rfl);have p2:HQ ρ n ds xs S2:=O2 2 S2 (yb,ld,ds,us) nC (by rw[<- hI];rfl);have nj:=p0.uniq p2;subst nj;have Zy:=(p0.bd g gc n4).1.ok (by decide) (by decide);refine⟨Z,lk,Q,Z,Y,SqL.of LY,Dx (Int.le_refl _) B6,Z,lk,Q,Z,Y,SqL.of LY,Dx (by decide) LO,Q,y0.rep,y2.rep,Nb Zy,Nb Zy,Z,?_⟩;rw[Ey];refine Ap ?_;have JB:NT H5 H8:=λb o hn e=>k8 b o (AK e hlk) hn (Vb _ _ e);have R8:Gq H8 l ρ:=by
   obtain⟨vs,e,pr⟩:=R5;exact⟨vs,JB.l e,Paired.mapP pr λr v ⟨t,u,e,h1,h2⟩=>⟨t,u,e,JB.t h1,JB.t h2⟩⟩
  obtain⟨vs8,ZE,_⟩:=id R8;refine⟨Z,l,Y,⟨_,SqL.of ZE⟩,Xi R8 (by omega) (λt u x H' R ht hRx=>⟨Z,t,Q,Z,Y,AH.of ht,Y,hRx⟩) λlw H9 hlw s9 mI=>?_⟩;have Ef:=JB.trans (AA.nt s9);refine⟨Z,a,2,ns,Y,pT S5 Ef,W,V,V,λp o hp ho=>?_⟩;have CK:AA H9 (upd H9 p o):=Am hp;have E9:(upd H9 p o) p≈o:=uS;generalize upd H9 p o=CC at CK E9;have Ra:=Ef.trans (AA.nt CK);refine⟨Z,Z,Z,Z,p,lw,tc,ρ,n,xs,Y,⟨o,E9,ho⟩,g,CK _ _ mI,Ra.t LC,gc,n1,n4,λt2 ys CT Gi Bp hcb yl hys=>?_⟩;have Z_:NT H5 CT:=λb u hn e=>Gi.keep b u (AK (Ef b u hn e) hp) (Ra b u hn e);refine⟨yb,xb,t2,ρ,n,ds,ys,Y,R3.monoN Z_,g,n4,Bp,hcb,yl,hys,λJu C7=>⟨Z,Ap ?_⟩⟩;have Jx:=Z_.trans (AA.nt C7);have pl:∃ xs,CC p≈(.lst xs):=by obtain⟨r1,b1,eo,_⟩:=id ho;exact⟨_,by rw[E9,eo]⟩
  have Jv:EJ T U lp lr Ju:=by
   have Me:=(VW.mono s9).mono CK;have kt:∀ b u,(∃ ps,u=.tbl ps)\/(∃ ob u',u=.frz ob u')->CC b≈u->CT b≈u:=λb u hu e=>Gi.keep b u (λz=>by obtain⟨xs,q'⟩:=pl;rw[z,q']at e;rcases hu with⟨_,rfl⟩ | ⟨_,_,rfl⟩ <;> cases e) e;exact(⟨Me.p.keep kt,Me.r.keep kt,Me.ne⟩:EJ T U lp lr CT).mono C7
  generalize enx:nx (wB ρ ds) ↑(AR ρ ds xs) (AR ρ ds xs)=nw;obtain⟨row,θ⟩:=nw;refine⟨Z,Z,Z,Z,Z,yb,xb,tc,ρ,n,ds,xs,row,θ,Y,R3.monoN Jx,g,gd,n4,dl,Jx.t LC,gc,Jv,enx,λnn Ow O7 Hk=>?_,λnn pt u1 u2 first b i r Ow O7 Hk hpt l2 hfi hb hp hi BG=>?_⟩
  ·have Cf:=Jx.trans O7;exact⟨aa,ld,tc,.non,ρ,AL,n,ds,us,xs,row,θ,Y,g,gd,n4,dl,Cf _ _ (λ_ z=>nomatch z) a5,UR A5 Cf,Cf.l aH,D5.monoN Cf,Cf.t LC,gc,enx,.inl ⟨nn,Y⟩,λOv _=>q Ov⟩
  ·have Cf:=Jx.trans O7;obtain⟨lo1,Fd,Fm,Fb,Fc,Eo,_,_,X1,X2⟩:=l2;exact⟨aa,ld,tc,.ref pt,ρ,AL,n,ds,us,xs,row,θ,Y,g,gd,n4,dl,Cf _ _ (λ_ z=>nomatch z) a5,UR A5 Cf,Cf.l aH,D5.monoN Cf,Cf.t LC,gc,enx,.inr ⟨nn,pt,u1,u2,Q,Q,first,Y,hpt,X1.at_,X2.at_,QW g gc,US g gc hi,hfi,BG⟩,λOv _=>q Ov⟩
end Mb
namespace Mb
open PySem L2
variable {P:Γ}{w:World}{K:Fg}{mg:Str->OU}{base:Heap}
def md{K:Fg}{m q:Str}{st:Stmt}{ps:LS}(T:Mp K C m q st f fd)(b:C1 K fd ps []):HK K C m q st ps f fd:=⟨T.fn,b,T.a,T.i,T.fn.kp⟩
def tq:=@tp
set_option maxHeartbeats 4000000 in
def all_mk{l:W.OpenLaw}{w:World}{K:Fg}{h:Heap}{mg:Str->OU}(X:K.In h)(G:h.Ns mainGlobals mg)(hfa:mg "law"≈(.ref fa))
  {T_LETTERS T_MOST_LETTERS T_MOST_KINDS T_MOST_UPS T_MOST_PLACES T_MOST_DEEDS:Tok}
  (p_QD:Qp K "DeedError" QD)
  (e_QD:ExC K QD)
  (Mq:Qp K "NoKind" Q0)
  (Mo:Qp K "Twice" Q1)
  (Mn:Qp K "NoName" Q2)
  (Mm:Qp K "Ring" Q3)
  (Ml:Qp K "NoDeed" Q4)
  (Mj:Qp K "Same" Q5)
  (Mi:Qp K "NoText" Q6)
  (Mh:Qp K "TooMany" Q7)
  (Mg:Qp K "NoBoard" Q8)
  (Jw:Qp K "NoCall" Q9)
  (Hy:Qp K "NoLine" RU)
  (Hw:Qp K "NoPlace" RT)
  (Hv:Qp K "NoWeights" RQ)
  (Hu:Qp K "NoTerm" RP)
  (Ht:Qp K "NoRow" RO)
  (RZ:K6 K Q9)
  (R6:W.subIn K (.ref Q9) (.ref QD)≈true)
  (Y8:zv K Q9 Q0 Q1 Q2 Q3 Q4 Q5 Q6 Q7 Q8 Q9 RU RT RQ RP RO false false false false false false false false false true false false false false false)
  (SA:W.findIn K (.ref Q9) "__init__"≈(↥(.builtin "ValueError.__init__")))
  (TC:Cp K "Kinds" C)
  (TB:Cp K "Board" B)
  (T_mI:Mp K C "__init__" "Kinds.__init__" Xt f_mI d_mI)
  (T_mH:Mp K C "has" "Kinds.has" UT f_mH d_mH)
  (T_mC:Mp K C "check" "Kinds.check" Qf f_mC d_mC)
  (T_mUn:Mp K C "under" "Kinds.under" Ud f_mUn d_mUn)
  (T_mB:Mp K C "beneath" "Kinds.beneath" Uo f_mB d_mB)
  (T_mA:Mp K C "above" "Kinds.above" OM f_mA d_mA)
  (T_bI:Mp K B "__init__" "Board.__init__" Xs f_bI d_bI)
  (T_bK:Mp K B "kinds" "Board.kinds" Uc f_bK d_bK)
  (T_bP:Mp K B "places" "Board.places" Uq f_bP d_bP)
  (T_bD:Mp K B "deeds" "Board.deeds" Ub f_bD d_bD)
  (T_w:Tp K "is_word" N3 f_w d_w)
  (T_cr:Tp K "check_rows" Um f_cr d_cr)
  (T_cu:Tp K "check_ups" UW f_cu d_cu)
  (T_fa:Tp K "first_among" OP f_fa d_fa)
  (T_en:Tp K "endless" N2 f_en d_en)
  (T_fr:Tp K "find_ring" UX f_fr d_fr)
  (T_aa:Tp K "all_above" UU f_aa d_aa)
  (T_P:Tp K "_law_pot" QX f_P d_P)
  (T_T:Tp K "_law_take" Hf f_T d_T)
  (T_Le:Tp K "_law_letters" OQ f_Le d_Le)
  (T_W:Tp K "_law_word" F5 f_W d_W)
  (T_Ws:Tp K "_law_words" Ul f_Ws d_Ws)
  (T_U:Tp K "_law_ups" L3 f_U d_U)
  (T_R:Tp K "_law_rows" OG f_R d_R)
  (T_A:Tp K "_law_above" Ua f_A d_A)
  (T_ic:Tp K "is_call" Ii f_ic d_ic)
  (T_cd:Tp K "check_deeds" Uh f_cd d_cd)
  (T_cc:Tp K "check_call" L7 f_cc d_cc)
  (T_wi:Tp K "within" Nx f_wi d_wi)
  (T_fi:Tp K "fitting" Kk f_fi d_fi)
  (T_na:Tp K "nearest_among" Up f_na d_na)
  (T_nw:Tp K "nearest_with" OR f_nw d_nw)
  (T_to:Tp K "told_of" UJ f_to d_to)
  (T_de:Tp K "_law_deeds" OJ f_de d_de)
  (T_lw:Tp K "_law_within" OO f_lw d_lw)
  (T_al:Tp K "_law_alone" Uj f_al d_al)
  (T_wh:Tp K "_law_whole" Uk f_wh d_wh)
  (T_nx:Tp K "nexts" Nn f_nx d_nx)
  (T_il:Tp K "is_line" QR f_il d_il)
  (T_bo:Tp K "beneath_one_ahead" Qj f_bo d_bo)
  (T_no:Tp K "_law_no_word" Us f_no d_no)
  (T_iu:Tp K "is_lineup" Qa f_iu d_iu)
  (T_cp:Tp K "_law_copied" ON f_cp d_cp)
  (T_ca:Tp K "_law_case" L9 f_ca d_ca)
  (T_nc:Tp K "_law_no_call" Ur f_nc d_nc)
  (T_sp:Tp K "spots" QC f_sp d_sp)
  (T_pl:Tp K "plain_line" Km f_pl d_pl)
  (T_rk:Tp K "ranked" Nw f_rk d_rk)
  (T_la:Tp K "line_ahead" OK f_la d_la)
  (T_pu:Tp K "plain_lineup" Qi f_pu d_pu)
  (T_ag:Tp K "lineup_against" L_ f_ag d_ag)
  (T_pt:Tp K "parting" N4 f_pt d_pt)
  (T_lf:Tp K "_law_fits" OE f_lf d_lf)
  (T_lx:Tp K "_law_nexts" JW f_lx d_lx)
  (T_lil:Tp K "_law_is_line" Qh f_lil d_lil)
  (T_lilu:Tp K "_law_is_lineup" Qg f_lilu d_lilu)
  (T_lah:Tp K "_law_ahead" Ui f_lah d_lah)
  (T_lrk:Tp K "_law_ranked" Ug f_lrk d_lrk)
  (T_tx:Tp K "_law_texts" Qd f_tx d_tx)
  (T_pr:Tp K "_law_pair" OF f_pr d_pr)
  (T_ap:Tp K "_law_apart" OI f_ap d_ap)
  (T_rf:Tp K "_law_refused" Ut f_rf d_rf)
  (T_pd:Tp K "_law_parted" Ue f_pd d_pd)
  (T_L:Tp K "law" Pz f_L d_L)
  (n_ups_of:W.findIn K (.ref C) "ups_of"≈none)
  (n_above_of:W.findIn K (.ref C) "above_of"≈none)
  (n_book_B:W.findIn K (.ref B) "book"≈none)
  (n_width_B:W.findIn K (.ref B) "width"≈none)
  (n_stands_B:W.findIn K (.ref B) "stands"≈none)
  (n_has_B:W.findIn K (.ref B) "has"≈none)
  {cb_pl Tb_pl cb_rk Tb_rk:ε}
  (hc_pl:d_pl.code=.ref cb_pl)
  (ht_pl:W.codeHdIn K cb_pl Tb_pl=true)
  (hc_rk:d_rk.code=.ref cb_rk)
  (ht_rk:W.codeHdIn K cb_rk Tb_rk=true)
  (hTne:Tb_pl≠Tb_rk)
  (g_LETTERS:W.nsIn K mainGlobals "LETTERS"≈(↥(.str Md.letters T_LETTERS)))
  (g_MOST_LETTERS:W.nsIn K mainGlobals "MOST_LETTERS"≈(↥(.int 8 T_MOST_LETTERS)))
  (g_MOST_KINDS:W.nsIn K mainGlobals "MOST_KINDS"≈(↥(.int 24 T_MOST_KINDS)))
  (g_MOST_UPS:W.nsIn K mainGlobals "MOST_UPS"≈(↥(.int 8 T_MOST_UPS)))
  (g_MOST_PLACES:W.nsIn K mainGlobals "MOST_PLACES"≈(↥(.int 4 T_MOST_PLACES)))
  (g_MOST_DEEDS:W.nsIn K mainGlobals "MOST_DEEDS"≈(↥(.int 64 T_MOST_DEEDS)))
  (z_len:W.nsIn K mainGlobals "len"≈none)
  (z_all:W.nsIn K mainGlobals "all"≈none)
  (z_any:W.nsIn K mainGlobals "any"≈none)
  (z_list:W.nsIn K mainGlobals "list"≈none)
  (z_tuple:W.nsIn K mainGlobals "tuple"≈none)
  (z_range:W.nsIn K mainGlobals "range"≈none)
  (z_int:W.nsIn K mainGlobals "int"≈none)
  (z_isinstance:W.nsIn K mainGlobals "isinstance"≈none)
  (z_sorted:W.nsIn K mainGlobals "sorted"≈none)
  (z_reversed:W.nsIn K mainGlobals "reversed"≈none)
  (z_zip:W.nsIn K mainGlobals "zip"≈none)
  (z_bool:W.nsIn K mainGlobals "bool"≈none)
  (z_enumerate:W.nsIn K mainGlobals "enumerate"≈none)
  (z_str:W.nsIn K mainGlobals "str"≈none)
  (z_ValueError:W.nsIn K mainGlobals "ValueError"≈none)
  : (∀ T∈[Tb_pl,Tb_rk],∃ c,W.codeHdIn K c T=true)/\∃ fd:FuncData,(∀(s:ω) (v:χ),BindsTo s fd ⟨[v],[]⟩ [("script",v)])/\∀ base:Heap,K.In base->base.Ns mainGlobals mg->(∀ T∈[Tb_pl,Tb_rk],mainGlobals≠T/\base.BuiltinsAt mg T)->Bi l.prog w K mg base Ir 11 fa fd ["script"] (Th K Tb_pl Tb_rk):=by
 have e:=hfa.symm.trans (W.mg_of X G T_L.a);cases e;obtain⟨_,_,_,_,_,_,rfl⟩:=Tp.ex T_L.fn;have mgC_LETTERS:=W.mg_of X G g_LETTERS;have mgC_MOST_LETTERS:=W.mg_of X G g_MOST_LETTERS;have mgC_MOST_KINDS:=W.mg_of X G g_MOST_KINDS;have mgC_MOST_UPS:=W.mg_of X G g_MOST_UPS;have mgC_MOST_PLACES:=W.mg_of X G g_MOST_PLACES;have mgC_MOST_DEEDS:=W.mg_of X G g_MOST_DEEDS;have mgN_len:=W.mg_none_of X G z_len;have mgN_all:=W.mg_none_of X G z_all;have mgN_any:=W.mg_none_of X G z_any;have mgN_list:=W.mg_none_of X G z_list;have mgN_tuple:=W.mg_none_of X G z_tuple;have mgN_range:=W.mg_none_of X G z_range;have mgN_int:=W.mg_none_of X G z_int;have mgN_isinstance:=W.mg_none_of X G z_isinstance;have mgN_sorted:=W.mg_none_of X G z_sorted;have mgN_reversed:=W.mg_none_of X G z_reversed;have mgN_zip:=W.mg_none_of X G z_zip;have mgN_bool:=W.mg_none_of X G z_bool;have mgN_enumerate:=W.mg_none_of X G z_enumerate;have mgN_str:=W.mg_none_of X G z_str;have mgN_ValueError:=W.mg_none_of X G z_ValueError;obtain⟨aC,pg,hd,po,sa,mk,kc⟩:=TC;have mgC:=W.mg_of X G aC;have M:Mk K C f_mI:=⟨mk,T_mI.a,T_mI.i,kc⟩;obtain⟨aB,pg_B,hd_B,po_B,sa_B,mk_B,kc_B⟩:=TB;have mgB:=W.mg_of X G aB;have M_B:Mk K B f_bI:=⟨mk_B,T_bI.a,T_bI.i,kc_B⟩;have F_mI:=T_mI.fn;have b_mI:=Co "self" "rows" T_mI.fn;have a_mH:=T_mH.a;have M_mH:=md T_mH (Co "self" "word" T_mH.fn);have M_mC:=md T_mC (Co "self" "word" T_mC.fn);have M_mUn:=md T_mUn (DZ "self" "one" "other" T_mUn.fn);have M_mB:=md T_mB (DZ "self" "one" "other" T_mB.fn);have M_mA:=md T_mA (Co "self" "word" T_mA.fn);have F_bI:=T_bI.fn;have b_bI:=Po "self" "kinds" "places" "deeds" T_bI.fn;have M_bK:=md T_bK (ED "self" T_bK.fn);have M_bP:=md T_bP (ED "self" T_bP.fn);have M_bD:=md T_bD (ED "self" T_bD.fn);have D_w:=df X G T_w (ED "text" T_w.fn);have D_cr:=df X G T_cr (ED "rows" T_cr.fn);have D_cu:=df X G T_cu (ED "ups_of" T_cu.fn);have D_fa:=df X G T_fa (Co "words" "others" T_fa.fn);have D_en:=df X G T_en (ED "ups_of" T_en.fn);have D_fr:=df X G T_fr (ED "ups_of" T_fr.fn);have D_aa:=df X G T_aa (Co "ups_of" "word" T_aa.fn);have D_P:=df X G T_P (Co "script" "k" T_P.fn);have D_T:=df X G T_T (Co "pot" "many" T_T.fn);have D_Le:=df X G T_Le (ED "number" T_Le.fn);have D_W:=df X G T_W (Co "pot" "words" T_W.fn);have D_Ws:=df X G T_Ws (Co "pot" "many" T_Ws.fn);have D_U:=df X G T_U (DZ "pot" "k" "shape" T_U.fn);have D_R:=df X G T_R (Co "pot" "most" T_R.fn);have D_A:=df X G T_A (ED "rows" T_A.fn);have D_ic:=df X G T_ic (DZ "kinds" "places" "call" T_ic.fn);have D_cd:=df X G T_cd (DZ "kinds" "places" "deeds" T_cd.fn);have D_cc:=df X G T_cc (DZ "kinds" "places" "call" T_cc.fn);have D_wi:=df X G T_wi (DZ "kinds" "one" "other" T_wi.fn);have D_fi:=df X G T_fi (Co "board" "call" T_fi.fn);have D_na:=df X G T_na (Co "board" "numbers" T_na.fn);have D_nw:=df X G T_nw (Po "kinds" "deeds" "near" "number" T_nw.fn);have D_to:=df X G T_to (ED "near" T_to.fn);have D_de:=df X G T_de (nv "pot" "rows" "above" "places" "most" T_de.fn);have D_lw:=df X G T_lw (DZ "above" "one" "other" T_lw.fn);have D_al:=df X G T_al (Co "e" "place" T_al.fn);have D_wh:=df X G T_wh (ED "found" T_wh.fn);have D_nx:=df X G T_nx (Co "board" "call" T_nx.fn);have D_il:=df X G T_il (DZ "kinds" "word" "line" T_il.fn);have D_bo:=df X G T_bo (DZ "kinds" "line" "spot" T_bo.fn);have D_no:=df X G T_no (Co "pot" "words" T_no.fn);have D_iu:=df X G T_iu (DZ "board" "call" "lineup" T_iu.fn);have D_cp:=df X G T_cp (ED "lineup" T_cp.fn);have D_ca:=df X G T_ca (Co "script" "most" T_ca.fn);have D_nc:=df X G T_nc (DZ "pot" "words" "call" T_nc.fn);have D_sp:=df X G T_sp (Co "deed" "lineup" T_sp.fn);have D_pl:=df X G T_pl (Co "kinds" "word" T_pl.fn);have D_rk:=df X G T_rk (DZ "board" "call" "lineup" T_rk.fn);have D_la:=df X G T_la (DZ "kinds" "word" "other" T_la.fn);have D_pu:=df X G T_pu (Co "board" "call" T_pu.fn);have D_ag:=df X G T_ag (Po "board" "call" "one" "other" T_ag.fn);have D_pt:=df X G T_pt (Co "board" "call" T_pt.fn);have D_lf:=df X G T_lf (DZ "above" "deeds" "call" T_lf.fn);have D_lx:=df X G T_lx (DZ "above" "deeds" "call" T_lx.fn);have D_lil:=df X G T_lil (DZ "above" "word" "line" T_lil.fn);have D_lilu:=df X G T_lilu (DZ "above" "call" "lineup" T_lilu.fn);have D_lah:=df X G T_lah (Po "deeds" "one" "other" "lineup" T_lah.fn);have D_lrk:=df X G T_lrk (DZ "deeds" "fits" "lineup" T_lrk.fn);have D_tx:=df X G T_tx (ED "found" T_tx.fn);have D_pr:=df X G T_pr (ED "found" T_pr.fn);have D_ap:=df X G T_ap (ED "lineups" T_ap.fn);have D_rf:=df X G T_rf (Co "board" "call" T_rf.fn);have D_pd:=df X G T_pd (Po "above" "deeds" "call" "found" T_pd.fn);have D_L:=df X G T_L (ED "script" T_L.fn);have TD:Xx K mg QD:=⟨W.mg_of X G p_QD.a,e_QD,p_QD.cl,p_QD.ty⟩;have TF:bN K mg (ay Q0 Q1 Q2 Q3 Q4 Q5 Q6 Q7 Q8 Q9 RU RT RQ RP RO):=⟨W.mg_of X G Mq.a,W.mg_of X G Mo.a,W.mg_of X G Mn.a,W.mg_of X G Mm.a,W.mg_of X G Ml.a,W.mg_of X G Mj.a,W.mg_of X G Mi.a,W.mg_of X G Mh.a,W.mg_of X G Mg.a,W.mg_of X G Jw.a,W.mg_of X G Hy.a,W.mg_of X G Hw.a,W.mg_of X G Hv.a,W.mg_of X G Hu.a,W.mg_of X G Ht.a,YK Mq.cl Mo.cl Mn.cl Mm.cl Ml.cl Mj.cl Mi.cl Mh.cl Mg.cl Jw.cl Hy.cl Hw.cl Hv.cl Hu.cl Ht.cl,YK Mq.ty Mo.ty Mn.ty Mm.ty Ml.ty Mj.ty Mi.ty Mh.ty Mg.ty Jw.ty Hy.ty Hw.ty Hv.ty Hu.ty Ht.ty⟩;obtain⟨f0,f1,f2,f3,f4,f5,f6,f7,f8,f9,bF,bE,bC,bA,a_⟩:=Y8;have O9:YI K QD (ay Q0 Q1 Q2 Q3 Q4 Q5 Q6 Q7 Q8 Q9 RU RT RQ RP RO) 9:=⟨RZ,R6,YK f0 f1 f2 f3 f4 f5 f6 f7 f8 f9 bF bE bC bA a_⟩;have zu:Xy K mg "NoCall" Q9:=⟨W.mg_of X G Jw.a,RZ.toExC,SA⟩;have TK:OS mg:=⟨⟨_,mgC_LETTERS⟩,⟨_,mgC_MOST_LETTERS⟩,⟨_,mgC_MOST_KINDS⟩,⟨_,mgC_MOST_UPS⟩,mgN_len,mgN_all,mgN_list,mgN_tuple⟩;have TR:iK mg:=⟨mgN_range,mgN_int,mgN_len,mgN_tuple,mgN_list⟩;have TC:C0 K C:=⟨⟨pg,hd,po,sa⟩,n_ups_of,n_above_of⟩;have TBd:Gn K B:=⟨⟨pg_B,hd_B,po_B,sa_B⟩,n_book_B,n_width_B,n_stands_B⟩;have TBm:U5 mg:=⟨⟨_,mgC_MOST_PLACES⟩,⟨_,mgC_MOST_DEEDS⟩,mgN_len,mgN_all,mgN_tuple,mgN_list,mgN_enumerate⟩;have hBC:B≠C:=λz=>by rw[z,a_mH]at n_has_B;cases n_has_B
 have hts:∀ T∈[Tb_pl,Tb_rk],∃ c,W.codeHdIn K c T=true:=by
  intro T hT;simp only[Yl,List.not_mem_nil,or_false]at hT
  rcases hT with rfl | rfl
  ·exact⟨_,ht_pl⟩
  ·exact⟨_,ht_rk⟩
 exact⟨hts,_,λs v=>.of_eq rfl,λbase kb _ hb=>have LT_pl:Lh mg base cb_pl Tb_pl:=⟨W.codeHd_of_K kb ht_pl,(hb Tb_pl (by simp)).1,(hb Tb_pl (by simp)).2⟩;have LT_rk:Lh mg base cb_rk Tb_rk:=⟨W.codeHd_of_K kb ht_rk,(hb Tb_rk (by simp)).1,(hb Tb_rk (by simp)).2⟩;have GI:=xt (P:=l.prog) (w:=w) (base:=base) F_mI TK TC D_cr D_w D_cu D_fr D_en D_fa D_aa;have GB:=oY (P:=l.prog) (w:=w) (base:=base) F_bI TBm TBd TC D_cd D_ic M_mH hBC;have GP:=wL (P:=l.prog) (w:=w) (base:=base) D_P mgN_len;have GT:=QH (P:=l.prog) (w:=w) (base:=base) D_T;have GR:=oo (P:=l.prog) (w:=w) (base:=base) D_R D_T D_U D_Ws D_W D_Le TR;have GWd:=cO (P:=l.prog) (w:=w) (base:=base) D_W D_T D_Le mgN_len;have GLA:=rJ (P:=l.prog) (w:=w) (base:=base) D_A mgN_len;have GDe:=rG (P:=l.prog) (w:=w) (base:=base) D_de D_T ⟨mgN_len,mgN_range,mgN_tuple⟩;have GIL:=tM D_il mgN_sorted mgN_any mgN_range mgN_len TC M_mA (gS M_mA.fn TC M_mC M_mH) D_bo (wI D_bo mgN_any TC M_mB (tJ M_mB.fn TC M_mUn M_mC M_mH));have GIU:=uM (P:=l.prog) (w:=w) (base:=base) D_iu mgN_sorted mgN_list mgN_range mgN_len mgN_all mgN_zip TC TBd M_bK M_bP D_cc (iD D_cc D_ic mgN_len mgN_all TC M_mH) D_il GIL;have GCp:=qo (P:=l.prog) (w:=w) (base:=base) D_cp mgN_list;have GCa:=xo D_ca mgN_len mgN_range mgN_list mgN_tuple D_R GR D_P GP D_T GT D_A GLA D_de GDe;have GW:=ee (P:=l.prog) (w:=w) (base:=base) D_wi mgN_zip TC M_mUn M_mC M_mH;have GF:=tL (P:=l.prog) (w:=w) (base:=base) D_fi TBm mgN_zip TC TBd M_bK M_bP M_bD D_cc D_wi D_ic M_mUn M_mC M_mH;have GA:=ub D_na mgN_list mgN_any TBd M_bK M_bD D_nw D_wi GW;have GNx:=oi D_nx mgN_len D_na GA D_fi GF D_to;have TW:X3 mg:=⟨mgN_all,mgN_zip,mgN_isinstance,mgN_int,mgN_bool⟩;have TN:X0 mg:=⟨mgN_len,mgN_range,mgN_any⟩;have GLW:=tP (P:=l.prog) (w:=w) (base:=base) D_lw TW;have GWh:=pj (P:=l.prog) (w:=w) (base:=base) D_wh TW;have GNw:=sR D_no D_T GT D_W GWd;have GNc:=tQ D_nc mgN_len D_T GT D_no GNw;have XN:=rM D_nx D_fi (uH (P:=l.prog) (w:=w) (base:=base) D_fi zu TBm TC TBd M_bK M_bP D_cc D_ic M_mH);have XP:=uI D_pt D_nx XN;have GAl:=oW (P:=l.prog) (w:=w) (base:=base) D_al TD TF mgN_isinstance mgN_ValueError;Exists.elim (oj (P:=l.prog) (w:=w) (base:=base)) λlp GPl=>Exists.elim (rO (P:=l.prog) (w:=w) (base:=base)) λlr GRk=>have GPl:=GPl D_pl hc_pl LT_pl mgN_sorted mgN_len TC M_mA (gS M_mA.fn TC M_mC M_mH);have GRk:=GRk D_rk hc_rk LT_rk mgN_sorted mgN_list TBd M_bD D_iu GIU D_fi GF D_sp;have GLF:=oh D_lf TN D_lw GLW;have GUd:=W_ M_mUn.fn TC M_mC M_mH;have GPU:=x9 D_pu mgN_list mgN_range TBd M_bK M_bP D_pl GPl;have GLa:=oV D_la TC M_mUn GUd D_pl GPl;have GAg:=tI D_ag mgN_list mgN_range TC TBd M_bK M_bD M_bP M_mUn GUd D_pl GPl D_la GLa;have GPt:=sS D_pt mgN_len D_nx GNx D_pu GPU D_rk GRk D_ag GAg;have GTx:=ph D_tx mgN_isinstance mgN_list mgN_str mgN_all;have GPr:=xw D_pr mgN_isinstance mgN_list mgN_tuple mgN_len mgN_all D_wh GWh D_tx GTx;have GLLU:=xu D_lilu mgN_sorted mgN_list mgN_range mgN_len mgN_all mgN_zip D_lil (wK D_lil mgN_sorted mgN_any mgN_range mgN_len);have GLRk:=tO D_lrk mgN_len D_lah (rK D_lah);have GPd:=rN D_pd mgN_isinstance mgN_tuple mgN_len D_lf GLF D_lx (rL D_lx TN D_lf GLF D_lw GLW) D_pr GPr D_lilu GLLU D_lrk GLRk;wJ D_L ⟨mgN_list,mgN_reversed⟩ hTne M mgC b_mI GI M_B mgB b_bI GB D_ca GCa D_P GP D_pt GPt D_pd GPd D_cp GCp D_ap (oX D_ap mgN_enumerate mgN_range mgN_len D_cp GCp) D_rf (sU D_rf TD O9 D_pt XP D_al GAl) D_nc GNc⟩
def walk{l:W.OpenLaw}{q:Γ}{loose:LS}{XP:(Str->OU)->Heap->Prop}{d:DefRec}{K:Params->Fg}{as:τ}{e:∀ P,as=(K P).map (·.1)}{T0 T1:ε}(hn:l.most≈63)(hdf:d.params.defaults=[])
  (hNT:∀ w:World,W.noTabs (K w.params)=true)
  (F:∀(w:World) (mg:Str->OU) (fa:ε) (h:Heap),(K w.params).In h->h.Ns mainGlobals mg->mg d.name≈(.ref fa) ->
   (∀ T∈[T0,T1],∃ c,W.codeHdIn (K w.params) c T=true)/\∃ fd:FuncData,(∀(s:ω) (u:χ),BindsTo s fd ⟨[u],[]⟩ [("script",u)])/\∀ base:Heap,(K w.params).In base->base.Ns mainGlobals mg->(∀ T∈[T0,T1],mainGlobals≠T/\base.BuiltinsAt mg T)->Bi l.prog w (K w.params) mg base Ir 11 fa fd ["script"] (Th (K w.params) T0 T1)):
  W.WalkO q loose XP (W.kmHook K as e [T0,T1]).says l.row.toRowW d [] (λf vs=>PySem.call f vs):=
 L2.walk_ofT (n:=63) (k:=11) (x:="script") (CX:=λ_=>Ir) (sp:=λw=>Th (K w.params) T0 T1) hn (by decide) hdf ⟨Y,V,V,Y⟩ hNT F (λ_ _ a ns hl hS hT=>⟨a,ns,Y,hS,hl,hT _ (by simp),hT _ (by simp),λ_=>rfl⟩) λ_ _ _ _ _ z=>z
end Mb
namespace PySem.W.Fast
set_option hygiene false
local macro_rules|`(command|#check $s:str)=>do
 let mut r:=#[]
 let mut n:=0
 let mut k:=0
 for c in s.getString.toList do
  n:=n*62+(c.toNat-(if c.toNat<58 then 48 else if c.toNat<91 then 55 else 61))
  k:=k+1
  if k%11==0 then
   let i:=Lean.mkIdent (.mkSimple s!"tw{n}")
   r:=r.push (←`(command|def $i:ident:=0))
   n:=0
 return Lean.mkNullNode (r.map (·.raw))
#check "2B3jf837Mx4IcA4MfnEZuhLQupiirUlsQ0AibR8Hal8wL6P8Y4QI6ZpHQAyAvJjCBU8senrzzhXMr7OZEzclaCsd3jbSQh4iepH4GYQvqmEp3nBrQ2yGaptB1K1u8Uqigf7l40ikRMpDTQN0mJMbIJOrQjGYglWXZHqgOF0AIo4Yj6ouEywFeFyThOz6BIzm26LzwDIiXys87HbM4GvUL4YzijFbCtj7jWQH3DDDnVemd8Go9VCdBwkQVlmxp6D09eJWOAZL5aVu519dmHa9OTXiINos1C00ephSyu6TYGhAkmZjua5HG1qfFFN5iSGF6LnztDAC8DBn3a4dGJCh7BycQJbKx1tq5ix25DVMOlOG0GQApnqDDlE6qV6n1sjbC2nWCijCeNVIG0iuG2HD1SR2IocdVy5s7N0CjOk2jJ7dZ0qvUWJSBfKSL7KVAnIQ1ZW6eo1IxglsaNIeqAeINrNft0tVyowTgDLQAxbVfPYBRcp78g3QxVCzqWCbF2GShXZIM3sm5OuVx3d1LHHK9ZPS5uXJCq1Hm4iVU8Icsb8o1rsbs3T3LK47IA9l40cncn3uQpR9gwsWMd6kbi6Pd8fSoPVAt24Iz25O1tneGw2DwbYeZwk7losvM5gwB8B9gEIXrDj8t6cIX2zCUShjF6ysj7LoNpT8PZxIOWNMNNCbzHc6ev6crBVFXfTVOlcEFrNoRHZa87e6Xp76kJSAsG1uW01c2U3RPCJRhFiHT1El4zFnn0URnQzGXnXbD9HHc3C54G5akeQgrGEsOf9XoIpLLojYUIq1N7s1OGxxIrIR8e8LGYWqh4X3CDGk3dbZyQft8g4mRwF7MH11OmmmZDhdNw6YCN19coJe8Faref42tinkJXVHGrLM3s2HCUwnBME5WmA0BRaMfQkaI5NdaSoi3SBhGsVtpu4rSBZ3pGy2EPkrUJIwIkg92T02mKXvU3ZZIeuGHwC1LjJmAxfIsKVzA3fGk3JTdAlCNTtB6JmKcaEPJJTk5sFZYJTMidBImdX8qcAYkcBfkAIngejiEKb2wKQEtufM6UXcMqq77ytKc3t11wg8NXKrLcSBUenRpDcaWb9eaFMlIVKaFzoDkvALxWngd99oocBRZZNM6HM0BJXRD0MrtxBpGumOCOtIBLl6lxYMnt50s25mJmwWLHIbt4zOaRS7taLgHsRZrXCRMkiJwQK1KHx9tQ9rp5XVeACaiIHAM4hSiDVZLZKYYl5151S5z4WhgjHd3N7PWwqKmpqGxBqF05zZN0W0B2W1lsmedMU8bO1FZhTSAbLUQAx0FX0g5BSys0SAGaiE8CGrQaorvvY5tZpj7ewxLy06dcO3plsVcBJhrri9s6fC2o0d1QecEzVE3fzAArc1AMF0p1wMRHoQZ0t6941moeRH0qqdt01TXuY8nF6VVva0t4LJNPY4JdrCV4l5cYwn1Nl8EVM3hbnpJP44Hvc7wWo7nMIlVOQSGs6vg86s2wcP8FuxH1LFXPhZOQHIjEHgc4OTd159UT2ec7E94CrRtBtXhy9C4V8gYY4keygAJ1qiHmPetS9VjnY4GqQa77El9Xmy8SJP8yFgzNE5nWnLxqppBvn2ZcKanh057YM6YJt3b8EzpWXA9uEkdOiminT3VhL52VqjOZ7kts29EmWLIDFPz8wIEP26JJHsErGxqMj14dntHFHfuN4GYjAFMixIIIJJJs3dQkpr5WaLPDT5i2WKglPwXzb6KJJwZvunkfSdO4rTYYQ2RBpbCWULYUXjtnx8wVZzXS0TJmKQvHdK4qgTX9lpkiZQ0AJqHysy9qCOn59ELVYlDDZCKTLMziqHXgIooJM0DGiwV5Wn5o60hgSXBaT4ev3EbDklm6IGvrIqkl2gbBcTDqLtS6rsCpmW4GGI8ikHmGn37kK6Op1ioNKMbfx4HIp8UWT3V4KhBLtQ5xulkDS1UTPlCj5Vs6HePCTrzQz47EbhUB6doDxhLRpufSosYvDI09X0obeBhh2xRdLN2HaMT2SGjV6s94Ch6ToVhVCBJDg4RUXZJpRvGvGIwgC4veP5pKIYkrIP4DOH1kf0hiZbLLlGAFVnmkHXxQ1IcxLo8a2gyFrATMJIeBBiCxi92WXbIzvGOc0MevmhfrKIT8Osr2CNL6oUg6jMJB24Cfksz34rZnKAl726xnbJow6j8j4tgUEUxLvY8i994o128D8Lan4O8MIDAdW6UDycpW1pVPTbVxZEcCgn1kZ2JnN6FGLtmcxRnIFEE34OvMDujA9APlD6cXaJpH47MG1T1pa0EroXolA0rx3CTGCFqrF0Eg1wNaB5Vw3itD2rzb7IXLA4CCY43meCxalJuGcsjJusQYG5sMIchGSoWIXSFMWH6uzQLWk12B4iESbBUGD0vk4bRn7qxXG1mNU79FEG8z136z3vHcWUaD2DYRuK50a8npDcluE0nmj0EGhbi3xBe7oVO2jE88XF2pr5w4E11uj7qccWn53W7FWgoABVN0u7tw9OT9Rm3joUzzW83vTGfkobOZNQX960NCOz9FpL1JvZxKwfA4d6ItUNZYpmoO2IDKL2dsDRj3BxuP0AY3fmHBnhhTP7yPS1Av1gRw8pONY6Iqdg8aq7OQ5TWlu6ixpoM4m23TGBDNhyI0Z2vSGPOu8EYWC2HjuOUKDtWK9ZxF3SYDF9NOqzj6XPCLxoJZhkXouLUiNqzm63DsJyWotN4tWbSJHZuUVDBwJ8AEb6h44Whbo8wDoRhWFXtQGcCEfEOfrUkCinhGl9RmvKHy1wdr8CqZG2OZmlx5fi7I8DDBwvGME8v0SDhHIHCVXlF0EHLOTHhsE3GtUFL27FyQJBbUwsRKtB13n3S801VCzU7qGYoB0zxEl0KR0AEiZfQ8KJhwLf9ryko9y41xfLUfvu58m6Jxqa0fy3Hnfybf12yQ2o9xbpuA9cjLj0EUthE0hdL9xfFc7Vb30KD3mrL2eVEuKDeGvpOkvceFjLHAlmR1OjGyhHlOKMDGD5PECOSmwsRc7Dr7QEZo85nDzercVAqjT07bleUMoD8gWFe4wg1Qcf49EYDKBY27QyL9USKs0iM6UaFK4TYKAU02n5WKbm26GvXI7MrWv0jFLN629EXl11fsn2HMeikMGqzax7EwRJi1kAprK9gL8twK21z1WpR8zHOYeoFBFBOMjJTC033XoyvQudYc1YKnxuVZNVpDelll53Np2Z5RlzS5qEfVCEMV2ickurOHHWoePL2bt7V5kvYnsscLRRHxYIACTuJ9VA9mP0sUdPHf9y33vw34EG7LSeOPuUCasJ0rxTTp6LfTLISR76lGA38G5KVTlX2bxaKAg95v2YqyXu7G4WQ6oiyKSKuFu7AOrfEo7Fox9cVixGNCo8sshAF9Ed3yw7QbOIw5DEZqfqiZ2NpRCpmlZkWL2xXD0It01GSlPu8N0Bmi1eY2M9fsbOBTiiI38ebC45gRBxKL2jmQeT9U1DEklVEbPZ26eBSdnB64UKq36GiV9mobpg9INl3Tq5sUOqFMdajMd7QE79YVhnf7SSvR7Rg5Liob5PrAJO8hWrLSAB7CVXOwxba3SDkdVeZizzTDDLnTeluduNuCcHwzdoIBA57ZwpJpWFup4GMSUBA42PK41x4xPYORGlQEuOYR7AaX8AH85PkgJlFbuJHYSMfdzgDrBEHCIx4Kf54AaQq6nfemhIFfaX5Km6I995Y7ZCvjCaPOLUNHLvdez8i2FdGpFRkO7OCGDbdTqhjLn5LAZSS1S0UI3O1oHLrHluh2zFYvDWOEP2LZL6mk7Toi4IvfkABLResS6HKsJDaPpjwERxXteIWMl74IvNFAnTkCv4IZE62zM2hzHzoOEKcpXtD99lnrX2ZV5Y1r4EMzm6LfH5TGTKpXN8niDKzJ9P2xhx4Cw1vnvhylEnLU554oUXLRyBG8YlyjQPEZ9FaEVtzozgg1h5XbOtINHSGnJAdQS2660CckY7idF40T7fEfPTFk9IbB85584YZiLf4p9Jd3CrijlKHOZW0k9Mwl1TNYRaEpIXV81VNlyPf3t478Q9oGd14lZ5NRVd2OU4L5LbHDS4nOHJRBni1Obba6WW4WTuEbJbontIXomV0EB34m5qK3ilknc0p04p30h71eSxAJdbvOVY61ALFqK7X1xP8LF6R3N8dFTTl0BYeOoc6meX6vVa2o3bldF5zctGn3CJuuJFxUh8ebHm44sMgIqipnNTHCR3wSiDm4c8HxsGdGRkLj62U32hDXfSGEdqjzgJ5QELC4RIRSB7lBA77XKsLIG2eaG225ZERyIle8bFnjPPSthYByA0gsRpiMw0XeBPvVgy0vL4a3bSJRCbW6e9HwZzFAuPI3dOevT22fLFRI1S5OcT5LAkvPA2w07ra7VMEJOu8Dez2VM0wkOcicfKENwwCJtl8kI5RW1lr3YyTLhRmmCEUnakDFOrz54CJxc7TrqQghT7z7BcA75YZIPBeKZvERs1LzImJdHx80G730wHGWff36HtSTCSo7FrJglA5AsX7WViNTi9CdJVnj6xMdn0XjFbuYYCeSET55sI0FVh20gh7e6XNryo07XSpmfKVn38luuFWNzpKl8jmO3vOvqgqJmw41sy6QsYAZELn1FrBuxLnFND3fc5vH5OYjtErQeiy2aJDW9mJgUIBmEvdjh4JGW71oGaWZLZXsJwIibmRUftgHRZxvt90nGTDQ3garXmY0tDp47Kbkrihk8YtZRe4DjBB8KA9IlpBw6h9YmhkAasJFW4AIXBhNgc1PLbEA3vJwY8B9zKgT2l4Fph9revL6MVzFaJuop7JhUl77J2XVibv6HmH9wv8goK9bQNGn3Xk61xqdQ5v7ce82zfOb3tIgKi8HwtJLmjuFCzSnALFoPoAiAcSSOCY8pDV1eVlVAYsrSKjt2MY73Bcs3b1Hi96lRptDKUB6D6TP7Axu6aKf2wzAJVI5ZcR2pqwpL9NBH9LioAVREullDKCwskjsUqgJJLePqjVSY4DJLFYUyHdYwgHG35ljOJZz0GBZHhvPnP8KD6Bdpn1MemwD1HCr5bkyx2CyvVkrxxwBL3jkbJlUYpig9VrGIbbFBYx6UdkLmbDectED88elnIFZq9TbtpZHrFRc4F8iDTII4XgHQEKHpwy6H6DQ26xzlBbR8DEZlJvtHMx7DCgrb7zj68D1JJyEtsBGMdD3FSFJPbm1RCgCuBLFniKp8qCcodhGoLIGQvC0ZpqFvsChXQ8QVgfrtHfjbwdtrfzYHJmfSeF86ea3h4a4AVgUY2FL3F9MSnaHc6jZte8lyVHBCMmetseO3d9Aufo6w2yUF278bjfpoWMmB18e2tC3YVZVBC12uBQDLDJ97MhiI5WXlE6YqvQRSguCH5ycATqSIfgh47OCiIlk6II0EX9thC3AS4KqNBSjwNDcqIqRE7fBKF2qG9modjTHyp6FbyWpQlTsVsFDR07IykiV86ZfSDZwqRIX5zoy31Jg6uQBIXSRAo4NLh16V5mbbufo6A8i5VVqPzOd0ln6e36p79U7gAdlYDmd9N0Ruc8yuBMk64RPXNRSC48o2r8mC4I5XrsKj78KYnUiAAJYG5jQrQOPA1qWYhWni7Fr1q6QlYBTf74HoMB8nSculoGo2XhfVdUzKEliTxgxE4891S6LSGoMAzLBzMJ1bkoreWBwU6vGKKTPs10jcLfYH3EZ8xg77KJV6qG5mTcrSEfsHy5fFVYMmzfrG4JMDesgyLXB3tXv2sQB0C73aDQwpvlzwJ34blEIL0ZEK2Uikcflqnv9KPx2IIwQvFyIx6sBflbBDEGyEPM1scchuGDJQNSYEuAM1ae5OchVkdiFm9fJx7mrIWEfaLJXzfq3SEKVrAaibZT8CjgyI7XjjQ22ep1ka2RsWs9sxG6Zikiwj7jA9h43V9Nf67ZQVMWtIb73bcanwClMMl2ZimRMOpW7W2YhO5utV1rS2SWl2E6RQNsL0lJ8dgt3XUJptILit1LkYHF0jG307HYlFqSa1c9hyoUFXAPOJRFjkZEL4Fx1ubeVHCfBwHZJBkFTCZPm51xzAa196BVgE2HKqW7DD9W0Z2o345umeR3ChuV25bpAlvEoHt259sbixt05FI4jWqggOW6vq30s5aflIyxn2pwZ2Sa4epe2G45dK43EvbLkvQZvAB2xnJsYrsh8Tf5AJdjJCwtsebXHzMeBHjXDixGJm3ruBc061EtvO2hhQhDBEhfnDjQW6mxDlIcUoxKQ3g1I5xILdwQ9PBiRiAX7b2iTBacKmj4v3QnBQZLcS48IMr18ivPx7zLYeBB9jPMiffdOB1IM5O75xR1AyxdjbqFyXXAduth6XLYEYAXLbMuaO0qMATCQT5rVwUrAMvCetc40VzAMub9pzSkQJAKC0sWt6ISGAIN0TkzqQ5sAEpe64WXV1MAAD8IsE6yFnA90pmP4GYfs9uMSLnnZVPL9sVYMfJflrV9hORzfFRRjP9fUqwMTMD6T9WfI9VUG0WU9OiM3DLOOq49BeN1qUfrIp8zhrvusgk8Y8tzxPShyWn88paUQOUk4uA8lpOyt0q55e0rUAlj6IhGn8bcu0Vj3Mul8PJTWux1hEf8NpwkqBilsL89I7r9Sv09G88QOf4K7mMT83q48S9kycU7g7HhAf72V27estSwfe8xJ7UvMJmMP1Df7OthQpLH33B7KELdarvvMg7BFshjePU7l79MGZ8l3xtD70w116aZIU36tsVD0e79iG6s2hdbuOgo76k4ELy08TnX6igbqlenLAp6U1K45JGnVI6KHIBiqfVse6HXoKY2mLzU6EeS0LTFGP50cepYy4Pwld6CjPnGYj1nk61ngMGgtMPY5zKjisIoN165vsgWwjGXGC5vqIPROvlTC5sku25PTMyH5r7bi6gJYe95o0SvJhsxIU5KBS39DdI4V5JW9Ysw6TqX5DtDL0Cnetk0U9ZmP4zUh54jxZtGEm8ez4Wlxi5tQTYh4T3ZNrkzCqf4R4ZCYnGtvR4PHHcgC54PS46gGKsNaAiF42bRTBkvulx0OY28ZnZB9e3jhZyuRWRfg3aumYImlxrv3YQntaTajlH3LKD207c8oY3D0FLOc3OzK36SnX52sKyr0IiZl1hthLR2wa8kwkldYV2vdhOjKtijJ2rrYR7KcnQV2otnfN1m3Hx2nvfwY58UbF2lgMVS1NV5e2gpVHLPJoUm2UY9yzpwbhM2LdE96DlaJz0DqojYeRATdLnT8w7hSKYyLfZOzGFe1aYLVKf2ypXdcDLHCSo8nyheeL2CY8mGVhzBKw433mTdIPOKnDunAtXoOSKjdHTTix6vjKhtA6SicWsWKhmm2GzNXVz23gaZZNNGcNKVuQZ313g4yKTgbXhzFiedKF9So5FRlTaK978F5ZJlrRJumGxCEgHsvJskQTx6HEj6JdHM9LiLwi5Ja7NTPu8V5kJTXFM7gRJkZJTSEgictHY6JLRjS7AE2KL1vMDjYbX7QAJ9UB5oVe1ejJ6lUeRow3Q3IHPMW9TAv8UI8ruhlLX22PI8YV7d7dBcwI7DVtLwMnAWI3SMFwME5tAI1zgN52a0gpHzQr5m7TFoDHyYcviHP6WiHju37rQ3zTfHaDPaGPc8vUHWnCMMpEut2HWQlD1cxeFxHPn56r7112iH6Ld532TIrMGx2bAYbpkV4GlsV3BDWjqbGcmvvX5HRCY1e7FBtvkEZlGSPv5bICyepGBKrX5gARF3G4VNohJr9FGG07yrysCPjHFTiXLSz7X7b1Wgf1DbEreP1UncHEkMDMd1U8NxZJapZREnzCUrsgWjSEiUxtJ26qZJEZ7deKax5Y6ERM68g7jybnEJoWKSXUeReEHeVSA1uPBmE7gEuSG6EMDDreyhpVP5akDqOLfuscXp5DpYYaYigI0pDi0tO0R8cSkDarD8mPSO8sDQBAi2L7gdFDJeslh8qjqQD0jj9Hjx8DY1Hynz5NwZG7CsHjaxHhswSClhv9IFmgjhCccm3TgZLOoCYWVfNn84r4CXK4DV78VopCPR2w7cy8FQC778o0UGNWZC5GioLmX3HUC2pkX1iar5i"
end PySem.W.Fast
open PySem PySem.W PyProof.Rows
set_option maxRecDepth 100000 in
set_option maxHeartbeats 0 in
theorem PySem.Challenge.cw_manydeeds_k26_whole_parted_by_two_lineup_holds : PySem.Challenge.rw_manydeeds_k26_whole_parted_by_two_lineup.Holds := by
 w_on;o_law;k_head;(case hw=>w_witness2)
 k_fill
 refine Mb.walk (l:=PySem.Challenge.rw_manydeeds_k26_whole_parted_by_two_lineup) rfl rfl (λw=>by kernel_rfl) ?F
 case F =>
  intro w mg fa h KX G hmg;refine' Mb.all_mk KX G hmg (hc_pl:=?hc_pl) (ht_pl:=?ht_pl) (hc_rk:=?hc_rk) (ht_rk:=?ht_rk) (hTne:=?hTne) ..
  any_goals first | exact L2.qc (by k_is) (by k_is) (by k_is) (by k_is) (by k_is) (by k_is) | exact L2.qa (by k_is) (by k_is) (by k_is) (by k_is) (by k_is) (by k_is) (by k_is) (by k_is) (by k_is) (by k_is) (by k_is) (by k_is) | exact L2.qi (by k_is) (by k_is) (by k_is) (by k_is) (by k_is) (by k_is) (by k_is) (by k_is) (by k_is) (by k_is) (by k_is) (by k_is) (by k_is) (by k_is) | exact⟨by k_is,by k_is,by k_is⟩ | exact⟨J,J,by k_is,by k_is,by k_is⟩ | skip
  any_goals first | exact L2.tp (by k_is) (by k_is) (by k_is) (by k_is) | exact L2.mp (by k_is) (by k_is) (by k_is) (by k_is) (by k_is) | exact⟨J,by k_is⟩ | k_is
  (case hc_pl=>exact rfl)
  (case ht_pl=>kernel_rfl)
  (case hc_rk=>exact rfl)
  (case ht_rk=>kernel_rfl)
  (case hTne=>decide)
