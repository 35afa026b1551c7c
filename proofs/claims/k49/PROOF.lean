import PyProof.Rows.All
import Wide.All
import OpenK.AllK
import Wide.FinOn
import Lean
import PyProof.EqAt
import PyProof.EqKinds
import PyProof.TupleCall
import PySem.Challenge.RW_manydeeds_k49_tables_refused
set_option Elab.async false
set_option linter.all false
set_option maxRecDepth 100000
abbrev ζ:=List (List PySem.Str)
abbrev τ:=List Int
abbrev μ:=List PySem.Addr
abbrev δ:=Array PySem.Value
abbrev ε:=List PySem.Expr
abbrev χ:=PySem.Addr
abbrev ω:=PySem.Value
abbrev Γ:=PySem.Shared
abbrev Δ:=PySem.Program
abbrev EV:=PySem.Value->PySem.Shared->Prop
abbrev PL:=List (PySem.Addr×PySem.Obj)
abbrev LU:=List PySem.Value
abbrev OU:=Option PySem.Value
abbrev LN:=List Nat
def Ja:=@PySem.wpAny_bind
def Jb:=@decide_eq_true
def Jc:=@decide_eq_false
def Jd:=@PySem.wpAny_pure
def Je:=@of_decide_eq_true
def Jf:=@PySem.wpAny_mono
def Jg:=@PySem.wpAny_field
def Jh:=@PySem.wpAny_truthy_bool
def Ji:=@PySem.wpAny_loadPart_at
def Jj:=@PySem.wpAny_holding
set_option hygiene false
local macro_rules|`(tactic|rfl')=>`(tactic|decide +kernel)
local macro_rules|`(tactic|ac_rfl)=>`(tactic|intro π s σ H Q I h)
local macro_rules|`(tactic|exfalso)=>`(tactic|intro π s σ H x y v u Q I rx ry h)
abbrev RS:=List (PySem.Str×List PySem.Str)
abbrev LS:=List PySem.Str
abbrev Fg:=PySem.W.Frag
def Ya:=@List.length_map
def Yb:=@PySem.Heap.get?_push_of_some
def Yc:=@PySem.Heap.lt_size
def Yd:=@Nat.le_refl
def Ye:=@PySem.Heap.get?_push_size
def Yf:=@List.getElem?_eq_some_iff
def Yg:=@List.getElem?_eq_getElem
def Yh:=@Bool.false_ne_true
def Yi:=@List.mem_of_getElem?
def Yj:=@List.getElem?_map
def Yk:=@List.size_toArray
def Yl:=@Nat.ne_of_lt
def Ym:=@List.mem_singleton
def Yn:=@Nat.lt_of_lt_of_le
def Yo:=@List.mem_map
def Yp:=@Option.some.inj
def Yq:=@Nat.le_trans
def Yr:=@List.mem_append
def Ys:=@List.map_cons
def Yt:=@Nat.ne_of_gt
def Yu:=@List.length_append
def Yv:=@List.length_take
def Yw:=@PyProof.Rows.boot_isinstance
def Yx:=@PySem.boot_len
def Yy:=@List.map_append
def Yz:=@PySem.PassesOwn.never
def Ae:=@Ne.symm
def BO:=@PySem.Paired.length
def B0:=@Int.toNat_natCast
def Bz:=@List.take_add_one
def Bt:=@List.length_cons
def BN:=@List.map_map
def Bj:=@List.mem_cons
def CI:=@List.take_length
def Ew:=@List.getD_eq_getElem?_getD
def C7:=@List.replicate_succ
def DX:=@List.mem_cons_of_mem
def Co:=@Bool.false_eq_true
def ED:=@PySem.Heap.get?_update_self
def Cd:=@List.all_eq_true
def EC:=@PySem.F.slot_zip_next
def Bm:=@Nat.zero_le
def Di:=@List.mem_cons_self
def EB:=@List.filter_eq_self
def FJ:=@List.mem_append_right
def Dh:=@List.lookup_cons
def IH:=@PyProof.Rows.callWith_type1
def C6:=@PySem.Heap.size_push
def Fq:=@PySem.Heap.get?_update_other
def Fp:=@Option.map_eq_some_iff
def JR:=@PySem.F.slot_dict_itemiterator_next
def EF:=@Bool.and_eq_true
def Gq:=@PySem.F.plainAttrs_list
def EE:=@List.append_nil
def EY:=@Nat.le_add_right
def EX:=@List.take_zero
def Lf:=@List.getElem?_zip_eq_some
def Le:=@Array.getElem?_eq_getElem
def IK:=@List.getElem?_of_mem
def Ft:=@List.any_eq_true
def JQ:=@Array.getElem?_toList
def JP:=@List.length_filter_le
def QZ:=@PyProof.Rows.slot_tuple_getitem
def Lb:=@PySem.F.args_zip_next_1
def LZ:=@PyProof.Rows.boot_tuple
def Fs:=@List.nodup_cons
def II:=@PySem.Obj.data_mapFields
def LX:=@PySem.F.entry_zip_next
def LW:=@Array.getElem?_eq_none
def JM:=@Array.length_toList
def JL:=@PySem.mem_of_lookup
def LR:=@List.getElem?_eq_none
def Gm:=@Bool.eq_iff_iff
def LQ:=@List.mem_append_left
def IQ:=@List.filter_cons
def NQ:=@PySem.Calls.callWith_builtin
def NO:=@PyProof.Rows.boot_list
def Lj:=@beq_eq_false_iff_ne
def Lh:=@List.map_congr_left
def Lg:=@PySem.Heap.SameBut.update
def IM:=@List.find?_cons
def IL:=@Nat.min_eq_left
def Sd:=@PySem.F.slot_dict_valueiterator_next
def NL:=@PySem.Obj.isFreed_of_fields
def Gp:=@Nat.lt_irrefl
def SX:=@PySem.F.slot_dict_keyiterator_next
def QY:=@Int.eq_ofNat_of_zero_le
def La:=@List.flatten_cons
def LY:=@List.append_assoc
def JO:=@List.forIn_cons
def JN:=@List.length_zip
def NJ:=@List.getElem?_range
def QV:=@PySem.SeqAt.canLay_of_shaped
def Gn:=@List.map_id'
def IG:=@List.any_cons
def SN:=@Array.getElem?_eq_some_iff
def SM:=@List.nodup_iff_pairwise_ne
def LP:=@List.length_drop
def Xp:=@PySem.F.slot_tuple_iterator_next
def NP:=@Nat.lt_of_le_of_lt
def NN:=@List.map_inj_right
def Sf:=@PySem.F.plain_extend_loop
def Xn:=@PySem.F.args_dict_itemiterator_next_1
def IP:=@Nat.lt_trans
def Xk:=@PySem.F.entry_dict_itemiterator_next
def Qb:=@PySem.Around.under_plainId
def Sb:=@PySem.F.slot_list_append
def Sa:=@PySem.F.type_list_append
def SY:=@List.eq_of_mem_replicate
def SV:=@PySem.F.plainAttrs_dict
def Lc:=@List.forIn_nil
def IJ:=@PySem.Paired.snoc
def SR:=@List.take_of_length_le
def QX:=@PySem.Calls.spliced_cons
def QW:=@Int.emod_lt_of_pos
def NI:=@List.mem_filter
def SO:=@List.length_replicate
def NH:=@List.foldl_cons
def NG:=@Int.natCast_mul
def QU:=@PySem.Calls.spliced_nil
def QT:=@List.length_range
def QS:=@List.flatMap_cons
def Sh:=@List.replicate_succ'
def Xo:=@PySem.F.slot_dict_values
def Qd:=@List.zipIdx_cons
def Li:=@Int.zero_add
def Xm:=@PySem.AutoSeq1.wpAny_loadPart'
def Qc:=@decide_eq_decide
def Se:=@PySem.evalArgs_none
def Xj:=@PySem.F.slot_dict_items
def NM:=@Bool.not_true
def Qa:=@Int.emod_nonneg
def Xh:=@List.getElem?_set_self
def Ld:=@Nat.le_succ
def SU:=@List.any_eq_false
def SS:=@Option.isSome_map
def SQ:=@List.foldl_append
def Xg:=@List.length_singleton
def Xf:=@PySem.F.slot_dict_len
def Xe:=@PyProof.Rows.boot_all
def Xd:=@List.length_dropLast
def Xc:=@List.mem_iff_getElem
def bX:=@List.getElem?_append_right
def bW:=@PySem.F.excBase_ValueError
def Xb:=@List.map_eq_nil_iff
def SK:=@List.of_mem_zip
def bf:=@List.getElem?_append_left
def bc:=@Classical.byContradiction
def Sg:=@List.idxOf_cons
def ba:=@List.getElem?_take_of_lt
def bZ:=@PySem.F.args_tuple_add_2
def Xl:=@List.forIn_toArray
def bY:=@PySem.F.entry_tuple_add
def Xi:=@List.pairwise_map
local macro_rules|`(tactic|nofun)=>`(tactic|exact ⟨rfl,rfl,rfl,by decide +kernel,rfl,by decide +kernel,by decide +kernel⟩)
set_option hygiene false
local macro_rules|`(tactic|nomatch $t)=>`(tactic|refine $t (fun vs H Q E h=>?_) (fun As A outer s H vs Q E hr h=>?_))
local macro_rules|`(⋯)=>`(AN P w K mg base IT)
noncomputable section
local macro_rules | `(tactic| ac_nf)=>`(tactic| (with_reducible show let X:=_;let d:=_;∃ t,PSs X _ t∧t d _ _);intros)
local macro_rules | `(tactic|exists $t)=>`(tactic|(with_reducible show let a:=_;$t);intros)
local macro_rules|`(⟨$a,*⟩)=>do
 let b:=a.getElems
 if b.any fun x=>[`Z,`Y,`W,`V,`U,`O,`Q,`J].contains x.raw.getId then
  let c←b.mapM fun x=>(match x.raw.getId with|`Z=>return #[←`(_),←`(rfl)]|`Y=>return #[←`(rfl)]|`W=>return #[←`(by decide)]|`V=>return #[←`(_),←`(_),←`(_),←`(_),←`(_),←`(_)]|`U=>return #[←`(ρ),←`(n),←`(ds)]|`O=>return #[←`(by omega)]|`Q=>return #[←`(sL (by show 1<=100000;decide))]|`J=>return #[←`(sL (by show 2<=100000;decide))]|_=>return #[x]:Lean.MacroM (Array Lean.Term))
  let d:Array Lean.Term:=c.flatten
  `(⟨$d,*⟩)
 else Lean.Macro.throwUnsupported
local macro_rules|`($a≈$b)=>`($a=some $b)
local macro_rules|`(↥$a)=>`(some $a)
local macro_rules|`(↑$a)=>`(($a).length)
local macro_rules|`(⇑$a)=>`(($a).heap.objs.size)
namespace L2
open PySem PySem.Spec PyProof.Rows
abbrev Key:=Sum Int Str
def Ma:Key->ω->Bool
 | .inl k,v=>Value.isInt k v
 | .inr x,v=>Value.isStrOf x v
def Yby(w:World):Key->Int
 | .inl k=>hashInt k
 | .inr x=>hashStr w x
def IF:∀ {k:Key}{v:ω},Ma k v=true->(∃ i t,k=Sum.inl i/\v=Value.int i t)\/(∃ x t,k=Sum.inr x/\v=Value.str x t)
 | .inl i,v,h=>by
  obtain⟨t,e⟩:=Value.isInt_shape (k:=i) (v:=v) h;exact .inl ⟨i,t,Y,e⟩
 | .inr x,v,h=>by
  obtain⟨t,e⟩:=Value.isStrOf_shape (x:=x) (v:=v) h;exact .inr ⟨x,t,Y,e⟩
def uY(i:Int)(t:Tok):Ma (.inl i) (.int i t)=true:=by simp[Ma,Value.isInt]
def uZ(x:Str)(t:Tok):Ma (.inr x) (.str x t)=true:=by simp[Ma,Value.isStrOf]
def zQ(a b:Int):decide ((Sum.inl a:Key)=Sum.inl b)=(a == b):=by
 by_cases e:a=b
 ·subst e;simp
 ·have h:¬ (Sum.inl a:Key)=Sum.inl b:=λq=>e (Sum.inl.inj q);rw[Jc h];exact(Lj.mpr e).symm
def zT(a b:Str):decide ((Sum.inr a:Key)=Sum.inr b)=decide (a=b):=by
 by_cases e:a=b
 ·subst e;simp
 ·have h:¬ (Sum.inr a:Key)=Sum.inr b:=λq=>e (Sum.inr.inj q);rw[Jc h,Jc e]
def zR(a:Int)(b:Str):decide ((Sum.inl a:Key)=Sum.inr b)=false:=Jc (λq=>nomatch q)
def zS(a:Str)(b:Int):decide ((Sum.inr a:Key)=Sum.inl b)=false:=Jc (λq=>nomatch q)
def BV(prog:Δ)(w:World):PySem.KeyKind prog w Key where
 is:=Ma
 hash:=Yby w
 inj:=λv a b ha hb=>by
  rcases IF ha with⟨i,t,rfl,rfl⟩ | ⟨x,t,rfl,rfl⟩
  ·rcases IF hb with⟨j,u,rfl,e⟩ | ⟨y,u,rfl,e⟩
   ·injection e with e1 _;rw[e1]
   ·exact nomatch e
  ·rcases IF hb with⟨j,u,rfl,e⟩ | ⟨y,u,rfl,e⟩
   ·exact nomatch e
   ·injection e with e1 _;rw[e1]
 byValue:=λk v h=>by
  rcases IF h with⟨i,t,rfl,rfl⟩ | ⟨x,t,rfl,rfl⟩ <;> rfl
 pyHash:=λhv h=>by
  rcases IF hv with⟨i,t,rfl,rfl⟩ | ⟨x,t,rfl,rfl⟩
  ·exact wpAny_pyHash_int h
  ·exact wpAny_pyHash_str h
 eqBool:=λhu hv h=>by
  rcases IF hu with⟨i,t,rfl,rfl⟩ | ⟨x,t,rfl,rfl⟩
  ·rcases IF hv with⟨j,u,rfl,rfl⟩ | ⟨y,u,rfl,rfl⟩
   ·rw[zQ]at h;exact wpAny_eqBool_int h
   ·rw[zR]at h;exact SeqAt.EqAt.int_str i t y u _ _ _ _ h
  ·rcases IF hv with⟨j,u,rfl,rfl⟩ | ⟨y,u,rfl,rfl⟩
   ·rw[zS]at h;exact SeqAt.EqAt.str_int x t j u _ _ _ _ h
   ·rw[zT]at h;exact wpAny_eqBool_str h
 «strs»:=λk x t v h=>by
  rcases IF h with⟨i,u,rfl,e⟩ | ⟨y,u,rfl,e⟩
  ·exact nomatch e
  ·injection e with e1 _;subst e1;cases v <;> rfl
def wG(prog:Δ)(w:World)(i:Int)(t:Tok):(BV prog w).is (.inl i) (.int i t)=true:=uY i t
def wH(prog:Δ)(w:World)(x:Str)(t:Tok):(BV prog w).is (.inr x) (.str x t)=true:=uZ x t
inductive V where
 | non | bl (b:Bool) | int (i:Int) | str (x:Str) | byt (b:Array UInt8) | flt (b:UInt64) | ref (a:χ) | ty (n:String)
 deriving DecidableEq
abbrev _root_.LV:=List V
abbrev _root_.OV:=Option V
abbrev _root_.KL:=List (Key×V)
def AW:V->ω->Prop
 | .non,u=>u=Value.none
 | .bl b,u=>u=Value.bool b
 | .int i,u=>∃ t,u=Value.int i t
 | .str x,u=>∃ t,u=Value.str x t
 | .byt b,u=>∃ t,u=Value.bytes b t
 | .flt b,u=>∃ t,u=Value.float b t
 | .ref a,u=>u=Value.ref a
 | .ty n,u=>u=Value.type n
abbrev AR:LV->LU->Prop:=Paired AW
theorem AR.length{xs:LV}{us:LU}(r:AR xs us):↑xs=↑us:=BO r
theorem AR.get:∀ {xs:LV}{us:LU}{i:Nat}{x:V},AR xs us->xs[i]?≈x->∃ u,us[i]?≈u/\AW x u
 | _,_,_,_,.nil,e=>by simp at e
 | _,_,0,_,.cons r _,e=>by simp at e;subst e;exact⟨Z,r⟩
 | _,_,i + 1,x,.cons _ t,e=>by
  obtain⟨u,h1,h2⟩:=AR.get (i:=i) (x:=x) t (by simpa using e);exact⟨u,by simpa using h1,h2⟩
theorem AR.set{x:V}{u:ω}(r:AW x u):∀ {xs:LV}{us:LU}(i:Nat),AR xs us->AR (xs.set i x) (us.set i u)
 | _,_,_,.nil=>.nil
 | _,_,0,.cons _ t=>.cons r t
 | _,_,i + 1,.cons q t=>.cons q (AR.set r i t)
theorem AR.append:∀ {xs ys:LV}{us ws:LU},AR xs us->AR ys ws->AR (xs++ys) (us++ws)
 | _,_,_,_,.nil,s=>s
 | _,_,_,_,.cons r t,s=>.cons r (AR.append t s)
theorem AR.take:∀ {xs:LV}{us:LU}(n:Nat),AR xs us->AR (xs.take n) (us.take n)
 | _,_,0,_=>.nil
 | _,_,_ + 1,.nil=>.nil
 | _,_,n + 1,.cons r t=>.cons r (AR.take n t)
theorem AR.drop:∀ {xs:LV}{us:LU}(n:Nat),AR xs us->AR (xs.drop n) (us.drop n)
 | _,_,0,r=>r
 | _,_,_ + 1,.nil=>.nil
 | _,_,n + 1,.cons _ t=>AR.drop n t
def CZ:OV->OU->Prop
 | some v,↥u=>AW v u
 | none,none=>True
 | _,_=>False
def KV{κ:Type}:List (κ×V)->List (κ×ω)->Prop:=Paired λ(p:κ×V) (q:κ×ω)=>p.1=q.1/\AW p.2 q.2
def kV:Key->V
 | .inl i=>.int i
 | .inr x=>.str x
inductive HO where
 | lst (xs:LV)
 | tup (xs:LV)
 | dK (ν:KL) | dT (ν:List (List Key×V))
 | set (S:Int->Bool) (n:Nat)
 | ins (C dx:χ) (fs:List (Str×V))
 | own (x:χ)
 | xd (fs:List (Str×V))
 | met (f x:χ)
 | rng (lo hi:Int)
 | frz (o:Obj) (u:HO)
 | tbl (ps:δ)
 | ext (φ:Heap->Prop)
abbrev Hp:=χ->Option HO
def upd(H:Hp)(a:χ)(o:HO):Hp:=λb=>if b=a then ↥o else H b
def uS{H:Hp}{a:χ}{o:HO}:upd H a o a≈o:=by unfold upd;rw[if_pos rfl]
def AE{H:Hp}{a b:χ}{o:HO}(h:b≠a):upd H a o b=H b:=by unfold upd;rw[if_neg h]
def WI{H:Hp}{a:χ}{o u:HO}:upd (upd H a o) a u=upd H a u:=by
 funext b;unfold upd;split <;> rfl
def yC{H:Hp}{a b:χ}{o u:HO}(h:H a≈o)(h':H b≈u)(d:o≠u):a≠b:=by
 intro e;subst e;rw[h]at h';exact d (Yp h')
def AS{H:Hp}{a b:χ}{o:HO}(h:H a≈o)(h':H b=none):a≠b:=by
 intro e;subst e;rw[h]at h';cases h'
section
variable (P:Δ)(w:World)
def A1(H:Hp)(h:Heap)(a:χ):HO->Prop
 | .lst xs=>↑xs<=sizeLine/\∃(η:LU) (n:Nat),AR xs η/\h.get? a=some {cls:=.type "list",data:=.seq η.toArray n}
 | .tup xs=>↑xs<=sizeLine/\∃ η:LU,AR xs η/\IsTup h a η.toArray
 | .dK ν=>↑ν<=sizeLine/\(a == sysModules)=false/\∃ vs,KV ν vs/\h.DictOf (BV P w) a vs
 | .dT ν=>↑ν<=sizeLine/\(a == sysModules)=false/\∃ xs:List (List Key×χ×ω),
   Paired (λ(p:List Key×V) (q:List Key×χ×ω)=>p.1=q.1/\H q.2.1≈(.tup (p.1.map kV))/\AW p.2 q.2.2) ν xs /\
   ∃ o es ep,h.get? a≈o/\o.ExactDict/\o.data=.dict es ep/\es.toList=xs.map (entryOfKey (tupleKind (BV P w)))/\(xs.map (·.1)).Nodup
 | .set S n=>h.SetOf (intKind P w) a S n
 | .ins C dx fs=>H dx≈(.own a)/\↑fs<=1000/\dx≠a/\h.get? a≈(W.instObj C dx) /\
   ∃ mA,h.Ns1 dx mA/\(∀ f,CZ (fs.lookup f) (mA f))/\PySem.Within mA (fs.map (·.1))
 | .own _=>∃ o,h.get? a≈o
 | .xd fs=>∃ mA,h.Ns1 a mA/\∀ f,CZ (fs.lookup f) (mA f)
 | .rng lo hi=>∃ t u v,h.get? a=some {cls:=.type "range",data:=.fields #[.int lo t,.int hi u,.int 1 v] }
 | .frz o u=>h.get? a≈o/\A1 H h a u
 | .tbl ps=>h.get? a=some {cls:=.none,data:=.fields ps}
 | .met f x=>h.get? a≈(W.methodObj (.ref f) (.ref x))
 | .ext φ=>φ h/\(∃ o,h.get? a≈o)/\∀ h1 h2:Heap,φ h1->(∀ o,h1.get? a≈o->h2.get? a≈o)->φ h2
def BF(H:Hp)(h:Heap):Prop:=∀ a o,H a≈o->A1 P w H h a o
end
section
variable {P:Δ}{w:World}{H H':Hp}{h h':Heap}{a:χ}{o:HO}
theorem A1.lt(x:A1 P w H h a o):a<h.objs.size:=by
 cases o with
 | lst xs=>obtain⟨_,_,_,_,e⟩:=x;exact Yc e
 | tup xs=>obtain⟨_,_,_,p⟩:=x;exact p.lt
 | dK ν=>obtain⟨_,_,_,_,o,_,_,e,_⟩:=x;exact Yc e
 | dT ν=>obtain⟨_,_,_,_,o,_,_,e,_⟩:=x;exact Yc e
 | set S n=>obtain⟨o,_,_,_,e,_⟩:=x;exact Yc e
 | ins C dx fs=>obtain⟨_,_,_,e,_⟩:=x;exact Yc e
 | own y=>obtain⟨_,e⟩:=x;exact Yc e
 | xd fs=>obtain⟨_,⟨_,_,_,e,_⟩,_⟩:=x;exact Yc e
 | rng lo hi=>obtain⟨_,_,_,e⟩:=x;exact Yc e
 | frz ob u=>obtain⟨e,_⟩:=x;exact Yc e
 | tbl ps=>exact Yc (show h.get? a≈_ from x)
 | met f y=>exact Yc (show h.get? a≈_ from x)
 | ext φ=>obtain⟨_,⟨_,e⟩,_⟩:=x;exact Yc e
theorem Paired.mapP{α β:Type}{F G:α->β->Prop}:∀ {l₁:List α}{l₂:List β},Paired F l₁ l₂->(∀ a b,F a b->G a b)->Paired G l₁ l₂
 | _,_,.nil,_=>.nil
 | _,_,.cons r t,f=>.cons (f _ _ r) (Paired.mapP t f)
def A1.stay(x:A1 P w H h a o)(k:∀ b u,(b=a\/H b≈(.own a))->h.get? b≈u->h'.get? b≈u)
  (ho:∀ b,H b≈(.own a)->H' b≈(.own a)) (ht:∀ b xs,H b≈(.tup xs)->H' b≈(.tup xs)):A1 P w H' h' a o:=by
 induction o with
 | lst xs=>obtain⟨z,η,n,r,e⟩:=x;exact⟨z,η,n,r,k _ _ (.inl rfl) e⟩
 | tup xs=>obtain⟨z,η,r,ob,e,c⟩:=x;exact⟨z,η,r,ob,k _ _ (.inl rfl) e,c⟩
 | dK ν=>obtain⟨z,y,vs,r,ob,es,ep,e,c⟩:=x;exact⟨z,y,vs,r,ob,es,ep,k _ _ (.inl rfl) e,c⟩
 | dT ν =>
  obtain⟨z,y,xs,r,ob,es,ep,e,c⟩:=x;exact⟨z,y,xs,Paired.mapP r λp q z=>⟨z.1,ht _ _ z.2.1,z.2.2⟩,ob,es,ep,k _ _ (.inl rfl) e,c⟩
 | set S n=>obtain⟨ob,es,ep,t,e,c⟩:=x;exact⟨ob,es,ep,t,k _ _ (.inl rfl) e,c⟩
 | ins C dx fs =>
  obtain⟨d,z,ne,e,mA,⟨od,es,ep,e2,c⟩,r⟩:=x;exact⟨ho _ d,z,ne,k _ _ (.inl rfl) e,mA,⟨od,es,ep,k _ _ (.inr d) e2,c⟩,r⟩
 | own y=>obtain⟨ob,e⟩:=x;exact⟨ob,k _ _ (.inl rfl) e⟩
 | xd fs=>obtain⟨mA,⟨od,es,ep,e,c⟩,r⟩:=x;exact⟨mA,⟨od,es,ep,k _ _ (.inl rfl) e,c⟩,r⟩
 | rng lo hi=>obtain⟨t,u,v,e⟩:=x;exact⟨t,u,v,k _ _ (.inl rfl) e⟩
 | frz ob u ih=>obtain⟨e,q⟩:=x;exact⟨k _ _ (.inl rfl) e,ih q⟩
 | tbl ps =>
  have e:h.get? a=some {cls:=.none,data:=.fields ps}:=x;show h'.get? a=some {cls:=.none,data:=.fields ps};exact k a _ (.inl rfl) e
 | met f y =>
  have e:h.get? a≈(W.methodObj (.ref f) (.ref y)):=x;show h'.get? a≈(W.methodObj (.ref f) (.ref y));exact k a _ (.inl rfl) e
 | ext φ=>obtain⟨p,⟨o,e⟩,st⟩:=x;exact⟨st _ _ p λo q=>k _ _ (.inl rfl) q,⟨o,k _ _ (.inl rfl) e⟩,st⟩
theorem BF.lt(x:BF P w H h)(e:H a≈o):a<h.objs.size:=(x a o e).lt
def BF.fresh(x:BF P w H h)(e:h.objs.size<=a):H a=none:=by
 cases q:H a with
 | none=>rfl
 | some u=>exact absurd (Yn (x.lt q) e) (Gp _)
def BF.kept(x:BF P w H h)(k:∀ b u,h.get? b≈u->h'.get? b≈u):BF P w H h':=λa o e =>
 (x a o e).stay (λb u _ q=>k b u q) (λ_ q=>q) λ_ _ q=>q
def BF.laid(x:BF P w H h)(k:∀ b u,h.get? b≈u->h'.get? b≈u)(hp:h.objs.size<=a)(new:A1 P w (upd H a o) h' a o):BF P w (upd H a o) h':=λb u e=>by
 have hn:=x.fresh hp;by_cases hb:b=a
 ·subst hb;rw[uS]at e;cases e;exact new
 ·rw[AE hb]at e;exact(x b u e).stay (λc v _ q=>k c v q) (λc q=>by rw[AE (AS q hn)];exact q) λc xs q=>by rw[AE (AS q hn)];exact q
end
def Rd(H:Hp)(a:χ)(u:HO):Prop:=H a≈u\/∃ o,H a≈(.frz o u)
def Rd.ok{P:Δ}{w:World}{H:Hp}{h:Heap}{a:χ}{u:HO}(r:Rd H a u)(x:BF P w H h):A1 P w H h a u:=by
 rcases r with r | ⟨o,r⟩
 ·exact x a u r
 ·obtain⟨_,q⟩:=x a _ r;exact q
def Sl:Option HO->Prop
 | some (.lst _)=>True
 | some (.dK _)=>True
 | some (.dT _)=>True
 | some (.set _ _)=>True
 | some (.ins _ _ _)=>True
 | some (.ext _)=>True
 | _=>False
section
variable {P:Δ}{w:World}{H:Hp}{h h':Heap}{x e:χ}{o':HO}
def BF.write(ok:BF P w H h)(mu:Sl (H x))(he:e=x\/H e≈(.own x))(k:∀ b u,b≠e->h.get? b≈u->h'.get? b≈u)(heo:∃ u,h'.get? e≈u)
  (new:A1 P w (upd H x o') h' x o'):BF P w (upd H x o') h':=λb u q=>by
 have nown:∀ c y,H c≈(.own y)->c≠x:=λc y r z=>by subst z;rw[r]at mu;exact mu
 have ntup:∀ c xs,H c≈(.tup xs)->c≠x:=λc xs r z=>by subst z;rw[r]at mu;exact mu
 by_cases hb:b=x
 ·subst hb;rw[uS]at q;cases q;exact new
 ·rw[AE hb]at q;by_cases hbe:b=e
  ·have q':H b≈(.own x):=by
    rcases he with z | z
    ·exact absurd (hbe.trans z) hb
    ·rw[hbe];exact z
   rw[q]at q';cases q';obtain⟨v,hv⟩:=heo;exact⟨v,by rw[hbe];exact hv⟩
  ·refine(ok b u q).stay (λc v hc r=>k c v ?_ r) (λc r=>by rw[AE (nown c b r)];exact r) λc xs r=>by rw[AE (ntup c xs r)];exact r
   rcases hc with rfl | hc
   ·exact hbe
   ·rintro rfl
    rcases he with z | z
    ·exact nown c b hc z
    ·rw[hc]at z;cases z;exact hb rfl
end
structure Un(fs ex:μ)(H H':Hp)(h h':Heap):Prop where
 keep:∀ b o,h.get? b≈o->H b=none->b∉fs->b∉ex->h'.get? b≈o
 slot:∀ b o,h.get? b≈o->H b=none->b∈fs->b∉ex->∃ sl,h'.get? b=some {o with slots:=sl}
 free:∀ b o,h.get? b≈o->H b=none->b∉ex->H' b=none
 there:∀ b o,h.get? b≈o->b∉ex->∃ o',h'.get? b≈o'
 tups:∀ b xs,H b≈(.tup xs)->H' b≈(.tup xs)
 frzs:∀ b o u,H b≈(.frz o u)->H' b≈(.frz o u)
 tbls:∀ b ps,H b≈(.tbl ps)->∃ more,H' b≈(.tbl (ps++more))
section
variable {fs B4 ex ex':μ}{H H1 H2:Hp}{h h1 h2 h':Heap}{a x e:χ}{o:HO}
def Un.any(u:Un fs ex H H1 h h1){b:χ}{ob:Obj}(q:h.get? b≈ob)(n:H b=none)(hx:b∉ex):∃ sl,h1.get? b=some {ob with slots:=sl}:=by
 by_cases hb:b∈fs
 ·exact u.slot b ob q n hb hx
 ·exact⟨ob.slots,u.keep b ob q n hb hx⟩
def Un.kept(k:∀ b u,h.get? b≈u->h'.get? b≈u):Un fs ex H H h h' :=
 ⟨λb ob q _ _ _=>k b ob q,λb ob q _ _ _=>⟨ob.slots,k b ob q⟩,λ_ _ _ n _=>n,λb ob q _=>⟨ob,k b ob q⟩,λ_ _ q=>q,λ_ _ _ q=>q,λ_ ps q=>⟨#[],by rw[q];simp⟩⟩
def Un.refl:Un fs ex H H h h:=Un.kept λ_ _ q=>q
def Un.laid(k:∀ b u,h.get? b≈u->h'.get? b≈u)(hp:h.objs.size<=a)(hn:H a=none):Un fs ex H (upd H a o) h h' where
 keep:=λb u q _ _ _=>k b u q
 slot:=λb u q _ _ _=>⟨u.slots,k b u q⟩
 free:=λb u q n _=>by rw[AE (Yl (Yn (Yc q) hp))];exact n
 there:=λb u q _=>⟨u,k b u q⟩
 tups:=λb xs q=>by rw[AE (AS q hn)];exact q
 frzs:=λb u xs q=>by rw[AE (AS q hn)];exact q
 tbls:=λb ps q=>⟨#[],by rw[AE (AS q hn),q];simp⟩
def Un.write(mu:Sl (H x))(he:e=x\/H e≈(.own x))(k:∀ b u,b≠e->h.get? b≈u->h'.get? b≈u)(heo:∃ u,h'.get? e≈u):Un fs ex H (upd H x o) h h':=by
 have hx:∀ b,H b=none->b≠x:=λb n z=>by subst z;rw[n]at mu;exact mu
 have hb:∀ b,H b=none->b≠e:=λb n z=>by
  subst z
  rcases he with r | r
  ·exact hx b n r
  ·rw[n]at r;cases r
 have hm:∀ b u,H b≈u->¬ Sl (↥u)->b≠x:=λb u q nm z=>by subst z;rw[q]at mu;exact nm mu
 refine⟨λb u q n _ _=>k b u (hb b n) q,λb u q n _ _=>⟨u.slots,k b u (hb b n) q⟩,λb u q n _=>by rw[AE (hx b n)];exact n,λb u q _=>?_,
  λb xs q=>by rw[AE (hm b _ q λz=>z)];exact q,λb u xs q=>by rw[AE (hm b _ q λz=>z)];exact q,λb ps q=>⟨#[],by rw[AE (hm b _ q λz=>z),q];simp⟩⟩
 by_cases hbe:b=e
 ·subst hbe;exact heo
 ·exact⟨u,k b u hbe q⟩
end
def VG(h:Heap)(H:Hp):μ:=(List.range h.objs.size).filter λa=>(H a).isSome
def Io(h:Heap)(H:Hp):Heap:=W.hideAll h (VG h H)
def t6(h:Heap)(H:Hp):(Io h H).objs.size=h.objs.size:=W.hideAll_size _ _
def q8{h:Heap}{H:Hp}{b:χ}{o:Obj}(e:h.get? b≈o)(n:H b=none):(Io h H).get? b≈o :=
 W.hideAll_get _ e λhm=>by
  have q:(H b).isSome=true:=(NI.mp hm).2;rw[n]at q;simp at q
def Z25{h:Heap}{H:Hp}{b:χ}{o:Obj}(e:(Io h H).get? b≈o):h.get? b≈o/\H b=none:=by
 have e':h.get? b≈o:=W.of_hideAll (VG h H) e;refine⟨e',?_⟩;cases q:H b with
 | none=>rfl
 | some x =>
  have hm:b∈VG h H:=NI.mpr ⟨List.mem_range.mpr (Yc e'),by simp[q]⟩;have z:(Io h H).get? b=none:=W.hideAll_none (VG h H) hm;rw[z]at e;cases e
def Z37(g h:Heap)(L:χ):PL:=(List.range h.objs.size).filterMap λa=>if a=L\/(g.get? a).isSome=true then none else(h.get? a).map λo=>(a,o)
def AQ(g h:Heap)(L d:χ):PL:=(Z37 g h L).filter λp=>decide (p.1≠d)
structure Mod(K:Fg)(mg:Str->OU)(base:Heap):Prop where
 kin:K.In base
 glob:base.Ns mainGlobals mg
 blt:∃ mb,base.Ns builtinsNs mb/\∀ x:Str,x≠"__name__"->mb x=bootBuiltins x
 nolimit:base.NoLimit
structure Cx where
 prog:Δ
 w:World
 K:Fg
 mg:Str->OU
 base:Heap
 A:Around
 N:LS
 s₀:Γ
 H₀:Hp
 env:Env
 outer:List Env
 stack:List Env
 ex:μ
 fn:Str->Bool
 calm:Bool
 pn:PL
 xe:EV
def CB(l:List Env):μ:=l.filterMap (·.frame)
abbrev Cx.fs(X:Cx):μ:=CB X.outer
def Xr(sc:Scope)(x:Str):Prop:=sc.names.lookup x≈.local\/sc.names.lookup x≈.cell\/sc.names.lookup x≈.free
def Loc(sc:Scope)(x:Str):Prop:=sc.names.lookup x≈.local\/sc.names.lookup x≈.cell
def Ycf(env:Env)(h:Heap)(m:Str->OU)(x:Str)(u:ω):Prop :=
 (env.kindOf x≈.local/\m x≈u)\/((env.kindOf x≈.cell\/env.kindOf x≈.free)/\∃ c,env.cells.lookup x≈c/\h.IsCell c (↥u))
structure Cx.Ok(X:Cx):Prop where
 mod:Mod X.K X.mg X.base
 kind:X.env.scope.kind=.function
 glob:X.env.globals=mainGlobals
 blt:X.env.builtins=builtinsNs
 above:⇑X.s₀<=X.env.locals
 inj:∀ x y c,X.env.cells.lookup x≈c->X.env.cells.lookup y≈c->x=y
 has:∀ x,(X.env.kindOf x≈.cell\/X.env.kindOf x≈.free)->∃ c,X.env.cells.lookup x≈c
 cab:∀ x c,X.fn x=true->X.env.cells.lookup x≈c->⇑X.s₀<=c
 hd:X.calm=true->X.A.handled=none
 frames:X.A.frames≈X.stack
 stk:X.stack=X.outer\/(X.stack=X.env :: X.outer/\X.env.frame≈X.env.locals)
 exf:∀ b∈X.ex,b≠X.env.locals/\∀ x c,X.env.cells.lookup x≈c->c≠b
 bs:∀ b o,X.base.get? b≈o->X.s₀.heap.get? b≈o/\X.H₀ b=none
 bsz:X.base.objs.size<=⇑X.s₀
 noex:∀ b o,X.base.get? b≈o->b∉X.ex
 exfs:∀ b∈X.ex,b∉X.fs
 funs:X.s₀.heap.FunFrames X.base X.outer
 frf:∀ b∈X.fs,X.H₀ b=none
structure Inv(X:Cx)(π:PL)(σ:List (OV))(H:Hp)(s:Γ):Prop where
 ok:X.Ok
 os:s.os=X.s₀.os
 bare:AllBare s.gens
 base:Un X.fs X.ex X.H₀ H X.s₀.heap s.heap
 loc:∃ m,s.heap.Ns X.env.locals m/\∀(i:Nat) (x:Str) (v:V),X.N[i]?≈x->σ[i]?≈(↥v)->Xr X.env.scope x->∃ u,AW v u/\Ycf X.env s.heap m x u
 cell:∀ x c,X.env.cells.lookup x≈c->∃ v,s.heap.IsCell c v
 free:H X.env.locals=none
 freeC:∀ x c,X.env.cells.lookup x≈c->H c=none
 pin:∀ p∈X.pn++π,s.heap.get? p.1≈p.2/\H p.1=none/\p.1≠X.env.locals/\p.1∉X.fs/\∀ v,p.2.data≠.cell v
 hok:BF X.prog X.w H s.heap
 len:↑σ=↑X.N
section
variable {X:Cx}{π:PL}{σ:List (OV)}{H H':Hp}{s:Γ}{h':Heap}
def Cx.Ok.nofr(ok:X.Ok){b:χ}{o:Obj}(e:X.base.get? b≈o):b∉X.fs:=λhb=>by
 have:=(ok.funs.mem hb).1;rw[e]at this;cases this
theorem Inv.bs(I:Inv X π σ H s):∀ b o,X.base.get? b≈o->s.heap.get? b≈o/\H b=none:=λb o e =>
 ⟨I.base.keep b o (I.ok.bs b o e).1 (I.ok.bs b o e).2 (I.ok.nofr e) (I.ok.noex b o e),I.base.free b o (I.ok.bs b o e).1 (I.ok.bs b o e).2 (I.ok.noex b o e)⟩
def Inv.bk(I:Inv X π σ H s):∀ b o,X.base.get? b≈o->s.heap.get? b≈o:=λb o e=>(I.bs b o e).1
theorem Inv.mod(I:Inv X π σ H s):Mod X.K X.mg X.base:=I.ok.mod
def Inv.kIn(I:Inv X π σ H s):X.K.In s.heap:=I.ok.mod.kin.keeps I.bk
theorem Inv.lt(I:Inv X π σ H s):X.env.locals<⇑s:=let⟨_,hn,_⟩:=I.loc;hn.lt
def Inv.sz(I:Inv X π σ H s):⇑X.s₀<=⇑s:=Yq I.ok.above (Nat.le_of_lt I.lt)
def Inv.nofs(I:Inv X π σ H s){a:χ}(h:⇑s<=a):a∉X.fs:=λhb=>by
 obtain⟨_,o,ho,_⟩:=I.ok.funs.mem hb;exact absurd (Yn (Yc ho) (Yq I.sz h)) (Gp _)
def Inv.cne(I:Inv X π σ H s):∀ x c,X.env.cells.lookup x≈c->c≠X.env.locals:=λx c e z=>by
 obtain⟨v,o,ho,hd⟩:=I.cell x c e;obtain⟨m,⟨o',es,ep,Ii,BX,_⟩,_⟩:=I.loc;rw[z,Ii]at ho;cases ho;rw[BX]at hd;cases hd
theorem Inv.funs(I:Inv X π σ H s):s.heap.FunFrames X.base X.outer:=by
 have all:∀(l:List Env),(∀ b∈CB l,b∈X.fs)->X.s₀.heap.FunFrames X.base l->s.heap.FunFrames X.base l:=by
  intro l
  induction l with
  | nil=>intro _ _;trivial
  | cons env r ih =>
   intro hs hl;obtain⟨hk,⟨L,o,hf,hn,ho,hd⟩,hr⟩:=hl;have hL:L∈X.fs:=hs L (by unfold CB;rw[List.filterMap_cons,hf];exact Di);obtain⟨sl,e⟩:=I.base.slot L o ho (I.ok.frf L hL) hL λz=>I.ok.exfs L z hL;exact⟨hk,⟨L,_,hf,hn,e,hd⟩,ih (λb hb=>hs b (by unfold CB;rw[List.filterMap_cons,hf];exact DX _ hb)) hr⟩
 exact all X.outer (λ_ hb=>hb) I.ok.funs
theorem Inv.stack(I:Inv X π σ H s):s.heap.FunFrames X.base X.stack:=by
 rcases I.ok.stk with e | ⟨e,hf⟩
 ·rw[e];exact I.funs
 ·rw[e];obtain⟨m,hn,_⟩:=I.loc;refine .cons (by rw[I.ok.kind];decide) hf hn ?_ I.funs;exact Heap.get?_none_of_le (Yq I.ok.bsz I.ok.above)
def Inv.stkSub(I:Inv X π σ H s):∀ b∈CB X.stack,b∈X.env.locals :: X.fs:=λb hb=>by
 rcases I.ok.stk with e | ⟨e,hf⟩
 ·rw[e]at hb;exact DX _ hb
 ·rw[e]at hb;unfold CB at hb;rw[List.filterMap_cons,hf]at hb;exact hb
def Inv.stkFree(I:Inv X π σ H s):∀ b∈CB X.stack,H b=none:=λb hb=>by
 rcases Bj.mp (I.stkSub b hb)with e | hb
 ·rw[e];exact I.free
 ·obtain⟨_,o,ho,_⟩:=I.ok.funs.mem hb;exact I.base.free b o ho (I.ok.frf b hb) λz=>I.ok.exfs b z hb
def Inv.step{g':Array GenState}{t':Nat}{d':Drawn}{ch:μ}(I:Inv X π σ H s)
  (hch:∀ b∈ch,(b∈X.ex\/⇑X.s₀<=b)/\b≠X.env.locals/\(∀ x c,X.env.cells.lookup x≈c->c≠b)/\∀ p∈X.pn++π,p.1≠b)
  (keep:∀ b o,b≠X.env.locals->b∉X.fs->b∉ch->s.heap.get? b≈o->H b=none->h'.get? b≈o)
  (slot:∀ b o,b≠X.env.locals->b∈X.fs->b∉ch->s.heap.get? b≈o->H b=none->∃ sl,h'.get? b=some {o with slots:=sl}) (free:∀ b o,b∉ch->s.heap.get? b≈o->H b=none->H' b=none)
  (there:∀ b o,b∉ch->s.heap.get? b≈o->∃ o',h'.get? b≈o')
  (tups:∀ b xs,H b≈(.tup xs)->H' b≈(.tup xs)) (frzs:∀ b o u,H b≈(.frz o u)->H' b≈(.frz o u)) (tbls:∀ b ps,H b≈(.tbl ps)->∃ more,H' b≈(.tbl (ps++more)))
  (ns:∀ m,s.heap.Ns X.env.locals m->h'.Ns X.env.locals m) (hok:BF X.prog X.w H' h') (hg:AllBare g'):
  Inv X π σ H' {s with heap:=h',gens:=g',drawn:=d',toks:=t' }:=by
 have neL:∀ b o,X.s₀.heap.get? b≈o->b≠X.env.locals:=λb o e=>Yl (Yn (Yc e) I.ok.above);have neC:∀ b o,X.s₀.heap.get? b≈o->b∉X.ex->b∉ch:=λb o e hx hb=>by
  rcases(hch b hb).1 with z | z
  ·exact hx z
  ·exact absurd (Yn (Yc e) z) (Gp _)
 have cellK:∀ x c,X.env.cells.lookup x≈c->∀ v,s.heap.IsCell c v->h'.IsCell c v:=λx c e v ⟨o,ho,hd⟩=>by
  have nch:c∉ch:=λz=>(hch c z).2.2.1 x c e rfl;by_cases hc:c∈X.fs
  ·obtain⟨sl,q⟩:=slot c o (I.cne x c e) hc nch ho (I.freeC x c e);exact⟨_,q,hd⟩
  ·exact⟨o,keep c o (I.cne x c e) hc nch ho (I.freeC x c e),hd⟩
 refine⟨I.ok,I.os,hg,⟨λb o e n hb hx=>?_,λb o e n hb hx=>?_,λb o e n hx=>?_,λb o e hx=>?_,λb xs e=>tups b xs (I.base.tups b xs e),λb o xs e=>frzs b o xs (I.base.frzs b o xs e),λb ps e=>?_⟩,?_,λx c e=>?_,?_,λx c e=>?_,λp hp=>?_,hok,I.len⟩
 ·exact keep b o (neL b o e) hb (neC b o e hx) (I.base.keep b o e n hb hx) (I.base.free b o e n hx)
 ·obtain⟨sl,e1⟩:=I.base.slot b o e n hb hx;obtain⟨Ql,e2⟩:=slot b _ (neL b o e) hb (neC b o e hx) e1 (I.base.free b o e n hx);exact⟨Ql,e2⟩
 ·obtain⟨o',e1⟩:=I.base.there b o e hx;exact free b o' (neC b o e hx) e1 (I.base.free b o e n hx)
 ·obtain⟨o',e1⟩:=I.base.there b o e hx;exact there b o' (neC b o e hx) e1
 ·obtain⟨m1,e1⟩:=I.base.tbls b ps e;obtain⟨m2,e2⟩:=tbls b _ e1;exact⟨m1++m2,by rw[e2,Array.append_assoc]⟩
 ·obtain⟨m,hn,hl⟩:=I.loc;refine⟨m,ns m hn,λi x v e1 e2 e3=>?_⟩;obtain⟨u,r,l⟩:=hl i x v e1 e2 e3;refine⟨u,r,?_⟩
  rcases l with l | ⟨k,c,e,z⟩
  ·exact .inl l
  ·exact .inr ⟨k,c,e,cellK x c e _ z⟩
 ·obtain⟨v,z⟩:=I.cell x c e;exact⟨v,cellK x c e v z⟩
 ·obtain⟨m,⟨o,_,_,ho,_⟩,_⟩:=I.loc;exact free _ o (λz=>(hch _ z).2.1 rfl) ho I.free
 ·obtain⟨v,o,ho,hd⟩:=I.cell x c e;exact free c o (λz=>(hch c z).2.2.1 x c e rfl) ho (I.freeC x c e)
 ·obtain⟨e,n,ne,nf,d⟩:=I.pin p hp;have nch:p.1∉ch:=λz=>(hch p.1 z).2.2.2 p hp rfl;exact⟨keep p.1 p.2 ne nf nch e n,free p.1 p.2 nch e n,ne,nf,d⟩
def Inv.un{t':Nat}(I:Inv X π σ H s)(u:Un X.fs [] H H' s.heap h')(hok:BF X.prog X.w H' h'):Inv X π σ H' {s with heap:=h',toks:=t' }:=by
 obtain⟨m,⟨o,es,ep,ho,r⟩,_⟩:=id I.loc;obtain⟨sl,hL⟩:=u.any ho I.free (by simp);exact I.step (g':=s.gens) (d':=s.drawn) (ch:=[]) (λ_ z=>nomatch z) (λb o _ hb _ e n=>u.keep b o e n hb (by simp)) (λb o _ hb _ e n=>u.slot b o e n hb (by simp)) (λb o _ e n=>u.free b o e n (by simp)) (λb o _ e=>u.there b o e (by simp)) u.tups u.frzs u.tbls (λm' hm=>by
  obtain⟨o',Ij,Il,Ii,r'⟩:=hm;rw[ho]at Ii;cases Ii;exact⟨_,Ij,Il,hL,r'⟩) hok I.bare
def Inv.call{g':Array GenState}{t':Nat}{d':Drawn}{ch:μ}(I:Inv X π σ H s)(u:Un (CB X.stack) ch H H' s.heap h')(hok:BF X.prog X.w H' h')(hg:AllBare g')
  (hch:∀ b∈ch,(b∈X.ex\/⇑X.s₀<=b)/\b≠X.env.locals/\(∀ x c,X.env.cells.lookup x≈c->c≠b)/\∀ p∈X.pn++π,p.1≠b):
  Inv X π σ H' {s with heap:=h',gens:=g',drawn:=d',toks:=t' }:=by
 obtain⟨m,⟨o,es,ep,ho,r⟩,_⟩:=id I.loc;obtain⟨sl,hL⟩:=u.any ho I.free λz=>(hch _ z).2.1 rfl;exact I.step (ch:=ch) hch (λb o hL hb hc e n=>u.keep b o e n (λz=>(Bj.mp (I.stkSub b z)).elim hL hb) hc) (λb o _ _ hc e n=>u.any e n hc) (λb o hc e n=>u.free b o e n hc) (λb o hc e=>u.there b o e hc) u.tups u.frzs u.tbls (λm' hm=>by
  obtain⟨o',Ij,Il,Ii,r'⟩:=hm;rw[ho]at Ii;cases Ii;exact⟨_,Ij,Il,hL,r'⟩) hok hg
def Inv.turned{t':Nat}{it:χ}(I:Inv X π σ H s)(k:∀ b o,b≠it->s.heap.get? b≈o->h'.get? b≈o)(hn:H it=none)(hL:it≠X.env.locals)
  (h1:it∈X.ex\/⇑X.s₀<=it) (h2:∀ x c,X.env.cells.lookup x≈c->c≠it) (h3:∀ p∈X.pn++π,p.1≠it):Inv X π σ H {s with heap:=h',toks:=t' }:=by
 have nit:∀ b u,H b≈u->b≠it:=λb u e z=>by rw[z,hn]at e;cases e
 refine I.step (g':=s.gens) (d':=s.drawn) (ch:=[it]) (λb hb=>?_) (λb o _ _ hc e _=>k b o (λz=>hc (by simp[z])) e) (λb o _ _ hc e _=>⟨o.slots,k b o (λz=>hc (by simp[z])) e⟩) (λ_ _ _ _ n=>n)
  (λb o hc e=>⟨o,k b o (λz=>hc (by simp[z])) e⟩) (λ_ _ e=>e) (λ_ _ _ e=>e) (λb ps e=>⟨#[],by rw[e];simp⟩) (λm hm=>?_) (λb u e=>?_) I.bare
 ·have e:b=it:=by simpa using hb
  subst e;exact⟨h1,hL,h2,h3⟩
 ·obtain⟨o,es,ep,ho,r⟩:=hm;exact⟨o,es,ep,k _ o (Ae hL) ho,r⟩
 ·refine(I.hok b u e).stay (λc v hc q=>k c v ?_ q) (λ_ q=>q) λ_ _ q=>q
  rcases hc with z | z
  ·rw[z];exact nit b u e
  ·exact nit c _ z
def Inv.tok(I:Inv X π σ H s)(t:Nat):Inv X π σ H {s with toks:=t}:=I.un (h':=s.heap) (t':=t) Un.refl I.hok
theorem Inv.kept{t':Nat}(I:Inv X π σ H s)(k:∀ b u,s.heap.get? b≈u->h'.get? b≈u):Inv X π σ H {s with heap:=h',toks:=t' }:=I.un (Un.kept k) (I.hok.kept k)
theorem Inv.laid{a:χ}{o:HO}{t':Nat}(I:Inv X π σ H s)(k:∀ b u,s.heap.get? b≈u->h'.get? b≈u)(hp:⇑s<=a)(new:A1 X.prog X.w (upd H a o) h' a o):
  Inv X π σ (upd H a o) {s with heap:=h',toks:=t' }:=I.un (Un.laid k hp (I.hok.fresh hp)) (I.hok.laid k hp new)
theorem Inv.write{x e:χ}{o:HO}{t':Nat}(I:Inv X π σ H s)(mu:Sl (H x))(he:e=x\/H e≈(.own x))(k:∀ b u,b≠e->s.heap.get? b≈u->h'.get? b≈u)(heo:∃ u,h'.get? e≈u)
  (new:A1 X.prog X.w (upd H x o) h' x o):Inv X π σ (upd H x o) {s with heap:=h',toks:=t' }:=I.un (Un.write mu he k heo) (I.hok.write mu he k heo new)
def Inv.pins_of{Lp:PL}(I:Inv X π σ H s)(h:∀ p∈Lp,s.heap.get? p.1≈p.2/\H p.1=none/\p.1≠X.env.locals/\p.1∉X.fs/\∀ v,p.2.data≠.cell v):Inv X Lp σ H s :=
 ⟨I.ok,I.os,I.bare,I.base,I.loc,I.cell,I.free,I.freeC,λp hp=>(Yr.mp hp).elim (λz=>I.pin p (LQ _ z)) (h p),I.hok,I.len⟩
def Rm{N:LS}(hN:N.Nodup){i j:Nat}{x:Str}(a:N[i]?≈x)(b:N[j]?≈x):i=j:=by
 obtain⟨h1,e1⟩:=Yf.mp a;obtain⟨h2,e2⟩:=Yf.mp b;exact(List.getElem_inj hN).mp (e1.trans e2.symm)
def jf{M:Model}{A:Around}{E:EV}{i:Nat}{x:Str}{v:V}{u:ω}{Q:Unit->Γ->Prop}(I:Inv X π σ H s)(hN:X.N.Nodup)(hi:X.N[i]?≈x)(hx:Loc X.env.scope x)(r:AW v u)
  (h:∀ s',Inv X π (σ.set i (↥v)) H s'->(∃ a,Heap.SameBut a s.heap s'.heap/\(a=X.env.locals\/X.env.cells.lookup x≈a))->Q () s') (hf:X.fn x=true\/X.env.scope.names.lookup x≈.local:=by first | exact .inl rfl | exact .inr rfl | assumption):wpAny M A (storeName X.env x u) Q E s:=by
 obtain⟨m,hn,hl⟩:=id I.loc;have hcls:(X.env.scope.kind == .class || (X.env.scope.kind == .module&&X.env.locals != X.env.globals))=false:=by rw[I.ok.kind];rfl
 have hiσ:i<↑σ:=by rw[I.len];exact(Yf.mp hi).1
 have cne:=I.cne;have tracked:∀ {a:χ} {h':Heap},(∃ o,s.heap.get? a≈o/\H a=none)->Heap.SameBut a s.heap h'->BF X.prog X.w H h':=λ{a h'} ha hs b ob e=>by
  obtain⟨_,_,hfree⟩:=ha;refine(I.hok b ob e).stay (λc w' hc q=>(hs.2 c ?_).trans q) (λ_ q=>q) λ_ _ q=>q;rintro rfl
  rcases hc with rfl | hc
  ·rw[hfree]at e;cases e
  ·rw[hfree]at hc;cases hc
 rcases hx with hk | hk
 ·refine wpAny_storeName_local hk hn (λh' Vd hs=>?_) hcls;obtain⟨oL,_,_,hoL,_⟩:=id hn;refine h _ ⟨I.ok,I.os,I.bare,⟨λb o e n hb hx=>?_,λb o e n hb hx=>?_,I.base.free,λb o e hx=>?_,I.base.tups,I.base.frzs,I.base.tbls⟩,⟨_,Vd,λj y v' e1 e2 e3=>?_⟩,λy c e=>?_,I.free,I.freeC,λp hp=>?_,tracked ⟨oL,hoL,I.free⟩ hs,by simpa using I.len⟩ ⟨_,hs,.inl rfl⟩
  ·exact(hs.2 b (Yl (Yn (Yc e) I.ok.above))).trans (I.base.keep b o e n hb hx)
  ·obtain⟨sl,e1⟩:=I.base.slot b o e n hb hx;exact⟨sl,(hs.2 b (Yl (Yn (Yc e) I.ok.above))).trans e1⟩
  ·obtain⟨o',e1⟩:=I.base.there b o e hx;exact⟨o',(hs.2 b (Yl (Yn (Yc e) I.ok.above))).trans e1⟩
  ·by_cases hj:j=i
   ·subst hj;rw[hi]at e1;cases e1;rw[Xh hiσ]at e2;cases e2;exact⟨u,r,.inl ⟨hk,by simp⟩⟩
   ·rw[List.getElem?_set_ne (Ae hj)]at e2;obtain⟨u',r',q⟩:=hl j y v' e1 e2 e3;refine⟨u',r',?_⟩
    rcases q with⟨k,e⟩ | ⟨k,c,e,z⟩
    ·refine .inl ⟨k,?_⟩;have:y≠x:=λe=>hj (Rm hN e1 (e ▸ hi));simp[this,e]
    ·exact .inr ⟨k,c,e,z.sameBut hs (cne y c e)⟩
  ·obtain⟨w',z⟩:=I.cell y c e;exact⟨w',z.sameBut hs (cne y c e)⟩
  ·obtain⟨e,n,ne,nf,d⟩:=I.pin p hp;exact⟨(hs.2 p.1 ne).trans e,n,ne,nf,d⟩
 ·have hfn:X.fn x=true:=by
   rcases hf with z | z
   ·exact z
   ·rw[z]at hk;cases hk
  obtain⟨c,hc⟩:=I.ok.has x (.inl hk);obtain⟨w',z⟩:=I.cell x c hc;refine wpAny_storeName_cell I.ok.kind hk hc z (λh' Bo hs=>?_);obtain⟨oc,hoc,hocd⟩:=id z;refine h {s with heap:=h' } ⟨I.ok,I.os,I.bare,⟨λb o e n hb hx=>?_,λb o e n hb hx=>?_,I.base.free,λb o e hx=>?_,I.base.tups,I.base.frzs,I.base.tbls⟩,⟨m,hn.sameBut hs (Ae (cne x c hc)),λj y v' e1 e2 e3=>?_⟩,λy c' e=>?_,I.free,I.freeC,λp hp=>?_,tracked ⟨oc,hoc,I.freeC x c hc⟩ hs,by simpa using I.len⟩ ⟨c,hs,.inr hc⟩
  ·exact(hs.2 b (Yl (Yn (Yc e) (I.ok.cab x c hfn hc)))).trans (I.base.keep b o e n hb hx)
  ·obtain⟨sl,e1⟩:=I.base.slot b o e n hb hx;exact⟨sl,(hs.2 b (Yl (Yn (Yc e) (I.ok.cab x c hfn hc)))).trans e1⟩
  ·obtain⟨o',e1⟩:=I.base.there b o e hx;exact⟨o',(hs.2 b (Yl (Yn (Yc e) (I.ok.cab x c hfn hc)))).trans e1⟩
  ·by_cases hj:j=i
   ·subst hj;rw[hi]at e1;cases e1;rw[Xh hiσ]at e2;cases e2;exact⟨u,r,.inr ⟨.inl hk,c,hc,Bo⟩⟩
   ·rw[List.getElem?_set_ne (Ae hj)]at e2;obtain⟨u',r',q⟩:=hl j y v' e1 e2 e3;refine⟨u',r',?_⟩
    rcases q with q | ⟨k,c',e,z'⟩
    ·exact .inl q
    ·refine .inr ⟨k,c',e,z'.sameBut hs ?_⟩;rintro rfl;exact hj (Rm hN e1 (I.ok.inj _ _ _ e hc ▸ hi))
  ·by_cases hcc:c'=c
   ·subst hcc;exact⟨_,Bo⟩
   ·obtain⟨w2,z2⟩:=I.cell y c' e;exact⟨w2,z2.sameBut hs hcc⟩
  ·obtain⟨e,n,ne,nf,d⟩:=I.pin p hp;refine⟨(hs.2 p.1 ?_).trans e,n,ne,nf,d⟩;intro q;rw[q,hoc]at e;have q':oc=p.2:=Yp e;exact d w' (by rw[<- q'];exact hocd)
def Zz{M:Model}{A:Around}{E:EV}{i:Nat}{x:Str}{v:V}{u:ω}{Q:Unit->Γ->Prop}(I:Inv X π σ H s)(hN:X.N.Nodup)(hi:X.N[i]?≈x)(hx:Loc X.env.scope x)(r:AW v u)
  (h:∀ s',Inv X π (σ.set i (↥v)) H s'->Q () s') (hf:X.fn x=true\/X.env.scope.names.lookup x≈.local:=by first | exact .inl rfl | exact .inr rfl | assumption):wpAny M A (storeName X.env x u) Q E s :=
 jf I hN hi hx r (λs' I' _=>h s' I') hf
def Inv.call'{s':Γ}{ch:μ}(I:Inv X π σ H s)(ho:s'.os=s.os)(u:Un (CB X.stack) ch H H' s.heap s'.heap)(hok:BF X.prog X.w H' s'.heap)(hg:AllBare s'.gens)
  (hch:∀ b∈ch,(b∈X.ex\/⇑X.s₀<=b)/\b≠X.env.locals/\(∀ x c,X.env.cells.lookup x≈c->c≠b)/\∀ p∈X.pn++π,p.1≠b):Inv X π σ H' s':=by
 obtain⟨h',g',d',t',o'⟩:=s';have e:o'=s.os:=ho;subst e;exact I.call (g':=g') (t':=t') (d':=d') u hok hg hch
end
abbrev XK:=ω->Option χ->Hp->Prop
abbrev St:=List (OV)
abbrev VK:=V->Hp->Prop
abbrev _root_.SW:=St->Hp->Prop
abbrev _root_.NW:=Nat->St->Hp->Prop
abbrev TE:=St->Hp->VK->Prop
abbrev TT:=St->Hp->(Bool->Hp->Prop)->Prop
abbrev TA:=St->Hp->(LV->Hp->Prop)->Prop
structure F9 where
 nx:SW
 rt:VK
 bk:SW:=λ_ _=>False
 ct:SW:=λ_ _=>False
abbrev TS:=F9->St->Hp->Prop
def EP(X:Cx)(π:PL)(σ:St)(Q:VK)(u:ω)(s':Γ):Prop:=∃ v H',Inv X π σ H' s'/\AW v u/\Q v H'
def TP(X:Cx)(π:PL)(σ:St)(Q:Bool->Hp->Prop)(b:Bool)(s':Γ):Prop:=∃ H',Inv X π σ H' s'/\Q b H'
def AP(X:Cx)(π:PL)(σ:St)(Q:LV->Hp->Prop)(us:LU)(s':Γ):Prop:=∃ vs H',Inv X π σ H' s'/\AR vs us/\Q vs H'
def SP(X:Cx)(π:PL)(D:F9)(f:Flow)(s':Γ):Prop :=
 match f with
 | .next=>∃ σ' H',Inv X π σ' H' s'/\D.nx σ' H'
 | .brk=>∃ σ' H',Inv X π σ' H' s'/\D.bk σ' H'
 | .cont=>∃ σ' H',Inv X π σ' H' s'/\D.ct σ' H'
 | .ret u=>∃ v σ' H',Inv X π σ' H' s'/\AW v u/\D.rt v H'
def PE(X:Cx)(e:Expr)(t:TE):Prop :=
 ∀(π:PL) (s:Γ) (σ:St) (H:Hp) (Q:VK),Inv X π σ H s->t σ H Q->wpAny (model X.prog X.w) X.A (eval e X.env) (EP X π σ Q) X.xe s
def PT(X:Cx)(e:Expr)(t:TT):Prop :=
 ∀(π:PL) (s:Γ) (σ:St) (H:Hp) (Q:Bool->Hp->Prop),Inv X π σ H s->t σ H Q->wpAny (model X.prog X.w) X.A (isTrue e X.env (eval e X.env)) (TP X π σ Q) X.xe s
def PW(X:Cx)(e:Expr)(t:TT):Prop :=
 ∀(whole:Sem ω) (π:PL) (s:Γ) (σ:St) (H:Hp) (Q:Bool->Hp->Prop),Inv X π σ H s->t σ H Q->wpAny (model X.prog X.w) X.A (isTrue e X.env whole) (TP X π σ Q) X.xe s
def PW.pt{X:Cx}{e:Expr}{t:TT}(h:PW X e t):PT X e t:=h _
def PA(X:Cx)(es:ε)(t:TA):Prop :=
 ∀(pos:Pos) (π:PL) (s:Γ) (σ:St) (H:Hp) (Q:LV->Hp->Prop),Inv X π σ H s->t σ H Q->wpAny (model X.prog X.w) X.A (spliced (backTo pos (starEach es X.env))) (AP X π σ Q) X.xe s
def PS(X:Cx)(st:Stmt)(t:TS):Prop :=
 ∀(π:PL) (s:Γ) (σ:St) (H:Hp) (D:F9),Inv X π σ H s->t D σ H->wpAny (model X.prog X.w) X.A (exec st X.env) (SP X π D) X.xe s
def PSs(X:Cx)(st:List Stmt)(t:TS):Prop :=
 ∀(π:PL) (s:Γ) (σ:St) (H:Hp) (D:F9),Inv X π σ H s->t D σ H->wpAny (model X.prog X.w) X.A (execs st X.env) (SP X π D) X.xe s
def AH{α:Type}{t:Sem α}{Q Q':α->Γ->Prop}{M:Model}{A:Around}{E:EV}{s:Γ}(h:wpAny M A t Q E s)(hQ:∀ a s,Q a s->Q' a s):wpAny M A t Q' E s:=Jf h hQ λ_ _ x=>x
section
variable {X:Cx}
def Cy(i:Nat):TE:=λσ H Q=>∃ v,σ[i]?≈(↥v)/\Q v H
def tC(v:V):TE:=λ_ H Q=>Q v H
def m_{i:Nat}{x:Str}{pos:Pos}(hN:X.N[i]?≈x)(hv:Xr X.env.scope x)(hd:(x == ("__debug__":Str))=false:=by decide)(hcd:(x == ("__classdict__":Str))=false:=by decide):PE X (.Name x pos) (Cy i):=by
 ac_rfl;obtain⟨v,e,h⟩:=h;obtain⟨m,hn,hl⟩:=I.loc;obtain⟨u,r,l⟩:=hl i x v hN e hv;have fin:EP X π σ Q u s:=⟨v,H,I,r,h⟩
 rcases l with⟨hk,hm⟩ | ⟨hk,c,hc,hcell⟩
 ·exact wpAny_Name (wpAny_loadName_local I.ok.kind hk hn hm fin) hd
 ·rcases hk with hk | hk
  ·exact wpAny_Name (wpAny_loadName_cell I.ok.kind hk hc hcell fin) hd
  ·exact wpAny_Name (wpAny_loadName_free I.ok.kind hk hc hcell fin hcd) hd
def AI{i j pos}:PE X (.Constant (.int i) j pos) (tC (.int i)):=λ_ _ _ H _ I h=>wpAny_Constant_int ⟨.int i,H,I.tok _,⟨Z⟩,h⟩
def Dw{b j pos}:PE X (.Constant (.bool b) j pos) (tC (.bl b)):=λ_ _ _ H _ I h=>Constant_bool ⟨.bl b,H,I,Y,h⟩
def Mj{j pos}:PE X (.Constant .none j pos) (tC .non):=λ_ _ _ H _ I h=>Constant_none ⟨.non,H,I,Y,h⟩
def Gb{x j pos}:PE X (.Constant (.str x) j pos) (tC (.str x)):=λ_ _ _ H _ I h=>Calls.Constant_str ⟨.str x,H,I.tok _,⟨Z⟩,h⟩
def Gl(X:Cx)(x:Str):Prop:=X.env.kindOf x≈.globalImplicit
def Kw{E:EV}{π:PL}{s:Γ}{σ:St}{H:Hp}{x:Str}{u:ω}{pos:Pos}{Q:EV}(I:Inv X π σ H s)(hg:Gl X x)(hm:X.mg x≈u)(h:Q u s)
  (hd:(x == ("__debug__":Str))=false:=by decide):wpAny (model X.prog X.w) X.A (eval (.Name x pos) X.env) Q E s :=
 Calls.Name_function_global I.ok.kind hg (Calls.loadGlobal_global (by rw[I.ok.glob];exact I.mod.glob.keeps I.bk) hm h) hd
def Fj{E:EV}{π:PL}{s:Γ}{σ:St}{H:Hp}{x:Str}{u:ω}{pos:Pos}{Q:EV}(I:Inv X π σ H s)(hg:Gl X x)(hm:X.mg x=none)(hv:bootBuiltins x≈u)(h:Q u s)
  (hn:x≠"__name__":=by decide) (hd:(x == ("__debug__":Str))=false:=by decide):wpAny (model X.prog X.w) X.A (eval (.Name x pos) X.env) Q E s:=by
 obtain⟨mb,h1,h2⟩:=I.mod.blt;exact Calls.Name_function_global I.ok.kind hg (Calls.loadGlobal_builtin (by rw[I.ok.glob];exact I.mod.glob.keeps I.bk) hm (by rw[I.ok.blt];exact h1.keeps I.bk) ((h2 x hn).trans hv) h) hd
def By{x:Str}{v:V}{u:ω}{pos:Pos}(hg:Gl X x)(hm:X.mg x≈u)(r:AW v u)(hd:(x == ("__debug__":Str))=false:=by decide):PE X (.Name x pos) (tC v):=
 λ_ _ _ H _ I h=>Kw I hg hm ⟨v,H,I,r,h⟩ hd
def Z2p{x:Str}{v:V}{u:ω}{pos:Pos}(hg:Gl X x)(hm:X.mg x=none)(hv:bootBuiltins x≈u)(r:AW v u)(hn:x≠"__name__":=by decide)(hd:(x == ("__debug__":Str))=false:=by decide):PE X (.Name x pos) (tC v):=
 λ_ _ _ H _ I h=>Fj I hg hm hv ⟨v,H,I,r,h⟩ hn hd
variable {a b:Expr}{ta tb:TE}{pos:Pos}
def PC(X:Cx)(op:CmpOp)(a b:Expr)(t:TE):Prop :=
 ∀(π:PL) (s:Γ) (σ:St) (H:Hp) (Q:VK),Inv X π σ H s->t σ H Q ->
  wpAny (model X.prog X.w) X.A (eval a X.env) (λv s₁=>wpAny (model X.prog X.w) X.A (eval b X.env) (λu s₂=>wpAny (model X.prog X.w) X.A (compareOp op v u) (EP X π σ Q) X.xe s₂) X.xe s₁) X.xe s
def ib(b:Expr){op:CmpOp}(h:op≠.In)(h2:op≠.NotIn):behindInMarks op b=false:=by
 have e1:(op == CmpOp.In)=false:=by cases op <;> first | rfl | exact absurd rfl h
 have e2:(op == CmpOp.NotIn)=false:=by cases op <;> first | rfl | exact absurd rfl h2
 cases b <;> simp[behindInMarks,e1,e2]
def yU(ta:TE):TE:=λσ H Q=>ta σ H λx H1=>Q (.bl (!decide (x=.non))) H1
def AW.none_iff{x:V}{v:ω}(r:AW x v):(v == Value.none)=decide (x=.non):=by
 cases x with
 | non=>cases r;rfl
 | bl _=>cases r;rfl
 | int _=>obtain⟨t,rfl⟩:=r;rfl
 | str _=>obtain⟨t,rfl⟩:=r;rfl
 | byt _=>obtain⟨t,rfl⟩:=r;rfl
 | flt _=>obtain⟨t,rfl⟩:=r;rfl
 | ref _=>cases r;rfl
 | ty _=>cases r;rfl
def g_{j pos'}(ha:PE X a ta):PC X .IsNot a (.Constant .none j pos') (yU ta):=by
 ac_rfl;refine AH (ha π s σ H _ I h) λv s1 ⟨x,H1,I1,r1,q1⟩=>?_;exact Constant_none (isnot_none_gen ⟨.bl _,H1,I1,by rw[r1.none_iff];rfl,q1⟩)
def tB(t:TE):TT:=λσ H Q=>t σ H λx H1=>∃ c,x=.bl c/\Q c H1
def mz{op:CmpOp}{t:TE}(h:PC X op a b t)(h1:behindInMarks op b=false:=by first | exact ib _ (by decide) (by decide) | rfl):PE X (.Compare a [op] [b] pos) t:=λπ s σ H Q I hw=>wpAny_Compare1 (h π s σ H Q I hw) h1
def Iz{op:CmpOp}{t:TE}(h:PC X op a b t)(h1:behindInMarks op b=false:=by first | exact ib _ (by decide) (by decide) | rfl):PT X (.Compare a [op] [b] pos) (tB t):=by
 intro π s σ H Q I hw;refine wpAny_isTrue_Compare1 (AH (h π s σ H _ I hw) λv s1 h1=>AH h1 λu s2 h2=>AH h2 λc s3 ⟨x,H1,I1,r1,q1⟩=>?_) h1;obtain⟨d,rfl,q⟩:=q1;cases r1;exact Jh ⟨H1,I1,q⟩
def CF{e:Expr}{t:TE}(h:PE X e t)(he:∀ whole,isTrue e X.env whole=(do let v <- whole;standAt e.pos;holding [v] (truthy v)):=by intro _;rfl):PT X e (tB t):=by
 intro π s σ H Q I hw;refine isTrue_plain (AH (h π s σ H _ I hw) λv s1 ⟨x,H1,I1,r1,q1⟩=>?_) (he _);obtain⟨d,rfl,q⟩:=q1;cases r1;exact Jh ⟨H1,I1,q⟩
variable {tA VL:TT}{AQ:ε}
def Ya7(t u:TT):TT:=λσ H Q=>t σ H λc H1=>if c=true then u σ H1 Q else Q false H1
def pA(t u:TT):TT:=λσ H Q=>t σ H λc H1=>if c=true then Q true H1 else u σ H1 Q
def Ya1(t:TT):TT:=λσ H Q=>t σ H λc H1=>Q (!c) H1
def WL(ha:PT X a tA):PW X (.BoolOp .And [a] pos) tA:=by
 intro wh π s σ H Q I h;refine isTrue_and (AH (ha π s σ H Q I h) λc s1 e=>?_);cases c with
 | true=>exact isTrue_and_nil e
 | false=>exact e
def Hy(ha:PT X a tA):PW X (.BoolOp .Or [a] pos) tA:=by
 intro wh π s σ H Q I h;refine isTrue_or (AH (ha π s σ H Q I h) λc s1 e=>?_);cases c with
 | false=>exact isTrue_or_nil e
 | true=>exact e
def V6(ha:PT X a tA)(hb:PW X (.BoolOp .And (b :: AQ) pos) VL):PW X (.BoolOp .And (a :: b :: AQ) pos) (Ya7 tA VL):=by
 intro wh π s σ H Q I h;refine isTrue_and (AH (ha π s σ H _ I h) λc s1 ⟨H1,I1,q1⟩=>?_);cases c with
 | true=>exact hb wh π s1 σ H1 Q I1 q1
 | false=>exact⟨H1,I1,q1⟩
def Fe(ha:PT X a tA)(hb:PW X (.BoolOp .Or (b :: AQ) pos) VL):PW X (.BoolOp .Or (a :: b :: AQ) pos) (pA tA VL):=by
 intro wh π s σ H Q I h;refine isTrue_or (AH (ha π s σ H _ I h) λc s1 ⟨H1,I1,q1⟩=>?_);cases c with
 | true=>exact⟨H1,I1,q1⟩
 | false=>exact hb wh π s1 σ H1 Q I1 q1
def Bx(ha:PT X a tA):PT X (.UnaryOp .Not a pos) (Ya1 tA):=by
 ac_rfl;exact isTrue_not (ha π s σ H (λc H1=>Q (!c) H1) I h)
def yM(ta tb:TE):TE:=λσ H Q=>ta σ H λx H1=>∃ c,x=.bl c/\if c=true then tb σ H1 Q else Q (.bl false) H1
def Ya0(ta tb:TE):TE:=λσ H Q=>ta σ H λx H1=>∃ c,x=.bl c/\if c=true then Q (.bl true) H1 else tb σ H1 Q
def RW{op}{t:TE}(h:PE X a t):PE X (.BoolOp op [a] pos) t:=λπ s σ H Q I hw=>BoolOp_one (h π s σ H Q I hw)
def V9(ha:PE X a ta)(hb:PE X (.BoolOp .And (b :: AQ) pos) tb):PE X (.BoolOp .And (a :: b :: AQ) pos) (yM ta tb):=by
 ac_rfl;refine BoolOp_and (AH (ha π s σ H _ I h) λv s1 ⟨x,H1,I1,r1,q1⟩=>?_);obtain⟨c,rfl,q1⟩:=q1;cases r1;refine Jh ?_;cases c with
 | true=>exact hb π s1 σ H1 Q I1 q1
 | false=>exact⟨.bl false,H1,I1,Y,q1⟩
def yc(ha:PE X a ta)(hb:PE X (.BoolOp .Or (b :: AQ) pos) tb):PE X (.BoolOp .Or (a :: b :: AQ) pos) (Ya0 ta tb):=by
 ac_rfl;refine BoolOp_or (AH (ha π s σ H _ I h) λv s1 ⟨x,H1,I1,r1,q1⟩=>?_);obtain⟨c,rfl,q1⟩:=q1;cases r1;refine Jh ?_;cases c with
 | false=>exact hb π s1 σ H1 Q I1 q1
 | true=>exact⟨.bl true,H1,I1,Y,q1⟩
end
def AD(K:Fg)(H:Hp)(a:χ)(xs:LV):Prop :=
 Rd H a (.lst xs) \/
  ∃(o:Obj) (η:δ) (n:Nat),K.lookup a≈o/\o.cls=.type "list"/\o.dict=none/\o.data=.seq η n/\η.size<=sizeLine/\AR xs η.toList
def AJ(K:Fg)(H:Hp)(a:χ)(xs:LV):Prop :=
 Rd H a (.tup xs) \/
  ∃(o:Obj) (η:δ) (n:Nat),K.lookup a≈o/\o.cls=.type "tuple"/\o.data=.seq η n/\η.size<=sizeLine/\AR xs η.toList
def Yb8:ω->OV
 | .none=>↥.non
 | .bool b=>↥(.bl b)
 | .int i _=>↥(.int i)
 | .str x _=>↥(.str x)
 | .bytes b _=>↥(.byt b)
 | .float b _=>↥(.flt b)
 | .ref a=>↥(.ref a)
 | .type n=>↥(.ty n)
 | _=>none
def AW.abs{x:V}{u:ω}(r:AW x u):Yb8 u≈x:=by
 cases x with
 | non=>cases r;rfl
 | bl _=>cases r;rfl
 | int _=>obtain⟨t,rfl⟩:=r;rfl
 | str _=>obtain⟨t,rfl⟩:=r;rfl
 | byt _=>obtain⟨t,rfl⟩:=r;rfl
 | flt _=>obtain⟨t,rfl⟩:=r;rfl
 | ref _=>cases r;rfl
 | ty _=>cases r;rfl
theorem AW.inj{x y:V}{u:ω}(r:AW x u)(q:AW y u):x=y:=Yp (r.abs.symm.trans q.abs)
theorem AR.inj:∀ {xs ys:LV}{us:LU},AR xs us->AR ys us->xs=ys
 | _,_,_,.nil,.nil=>rfl
 | _,_,_,.cons r t,.cons r' t'=>by rw[r.inj r',AR.inj t t']
section
variable {X:Cx}{π:PL}{σ:St}{H:Hp}{s:Γ}{a:χ}{xs ys:LV}
def AD.of{K:Fg}(h:H a≈(.lst xs)):AD K H a xs:=.inl (.inl h)
def AJ.of{K:Fg}(h:H a≈(.tup xs)):AJ K H a xs:=.inl (.inl h)
def Inv.list(I:Inv X π σ H s)(h:AD X.K H a xs):∃ η:LU,AR xs η/\PlainL s.heap a η.toArray/\↑xs<=sizeLine:=by
 rcases h with h | ⟨o,η,n,hk,hc,hd,hs,hz,r⟩
 ·obtain⟨z,η,n,r,e⟩:=h.ok I.hok;exact⟨η,r,⟨_,n,e,Y,Y,Y⟩,z⟩
 ·refine⟨η.toList,r,⟨o,n,I.kIn a o hk,hc,hd,by simpa using hs⟩,?_⟩;have e:=↑r;simp only[JM]at e;omega
def Inv.tuple(I:Inv X π σ H s)(h:AJ X.K H a xs):∃ η:LU,AR xs η/\IsTup s.heap a η.toArray/\↑xs<=sizeLine:=by
 rcases h with h | ⟨o,η,n,hk,hc,hs,hz,r⟩
 ·obtain⟨z,η,r,p⟩:=h.ok I.hok;exact⟨η,r,p,z⟩
 ·refine⟨η.toList,r,⟨o,I.kIn a o hk,hc,n,by simpa using hs⟩,?_⟩;have e:=↑r;simp only[JM]at e;omega
def Inv.list_inj(I:Inv X π σ H s)(h:AD X.K H a xs)(h':AD X.K H a ys):xs=ys:=by
 obtain⟨η,r,⟨o,n,e,_,_,d⟩,_⟩:=I.list h;obtain⟨its',r',⟨o',n',e',_,_,d'⟩,_⟩:=I.list h';rw[e]at e';cases e';rw[d]at d';injection d' with d1 _;have:η=its':=by simpa using congrArg Array.toList d1
 subst this;exact r.inj r'
def Inv.tuple_inj(I:Inv X π σ H s)(h:AJ X.K H a xs)(h':AJ X.K H a ys):xs=ys:=by
 obtain⟨η,r,⟨o,e,_,n,d⟩,_⟩:=I.tuple h;obtain⟨its',r',⟨o',e',_,n',d'⟩,_⟩:=I.tuple h';rw[e]at e';cases e';rw[d]at d';injection d' with d1 _;have:η=its':=by simpa using congrArg Array.toList d1
 subst this;exact r.inj r'
end
abbrev Cx.wish(X:Cx)(E:EV):Cx:={X with xe:=E}
abbrev Cx.nox(X:Cx):Cx:=X.wish λ_ _=>False
theorem Cx.Ok.wish{X:Cx}(ok:X.Ok)(E:EV):(X.wish E).Ok :=
 ⟨ok.mod,ok.kind,ok.glob,ok.blt,ok.above,ok.inj,ok.has,ok.cab,ok.hd,ok.frames,ok.stk,ok.exf,ok.bs,ok.bsz,ok.noex,ok.exfs,ok.funs,ok.frf⟩
def Cx.Ok.unwish{X:Cx}{E:EV}(ok:(X.wish E).Ok):X.Ok :=
 ⟨ok.mod,ok.kind,ok.glob,ok.blt,ok.above,ok.inj,ok.has,ok.cab,ok.hd,ok.frames,ok.stk,ok.exf,ok.bs,ok.bsz,ok.noex,ok.exfs,ok.funs,ok.frf⟩
section
variable {X:Cx}{π:PL}{σ:St}{H:Hp}{s:Γ}{E:EV}
theorem Inv.wish(I:Inv X π σ H s)(E:EV):Inv (X.wish E) π σ H s:=⟨I.ok.wish E,I.os,I.bare,I.base,I.loc,I.cell,I.free,I.freeC,I.pin,I.hok,I.len⟩
theorem Inv.unwish(I:Inv (X.wish E) π σ H s):Inv X π σ H s:=⟨I.ok.unwish,I.os,I.bare,I.base,I.loc,I.cell,I.free,I.freeC,I.pin,I.hok,I.len⟩
theorem SP.unwish{D:F9}{f:Flow}{s':Γ}(h:SP (X.wish E) π D f s'):SP X π D f s':=by
 cases f with
 | next=>obtain⟨σ',H',I,q⟩:=h;exact⟨σ',H',I.unwish,q⟩
 | brk=>obtain⟨σ',H',I,q⟩:=h;exact⟨σ',H',I.unwish,q⟩
 | cont=>obtain⟨σ',H',I,q⟩:=h;exact⟨σ',H',I.unwish,q⟩
 | ret u=>obtain⟨v,σ',H',I,r,q⟩:=h;exact⟨v,σ',H',I.unwish,r,q⟩
theorem PSs.nox{st:List Stmt}{t:TS}(h:PSs X.nox st t):PSs X st t:=λπ s σ H D I hw =>
 Jf (h π s σ H D (I.wish _) hw) (λ_ _ q=>q.unwish) λ_ _ z=>False.elim z
end
section
variable {X:Cx}{st:Stmt}{AQ:List Stmt}{t u:TS}{e:Expr}{te:TE}{pos:Pos}
def yT:TS:=λD σ H=>D.nx σ H
def AF(t u:TS):TS:=λD σ H=>t {D with nx:=u D} σ H
def Aj:PSs X [] yT:=λ_ _ σ H _ I h=>wpAny_execs_nil ⟨σ,H,I,h⟩
def pS(h1:PS X st t)(h2:PSs X AQ u):PSs X (st :: AQ) (AF t u):=by
 intro π s σ H D I h;refine wpAny_execs_cons (AH (h1 π s σ H {D with nx:=u D} I h) λf s1 q=>?_);cases f with
 | next =>
  obtain⟨σ',H',I',q⟩:=q;exact h2 π s1 σ' H' D I' q
 | ret v=>exact q
 | brk=>exact q
 | cont=>exact q
def AG(h1:PS X st t):PSs X [st] t:=by
 intro π s σ H D I h;refine wpAny_execs_cons (AH (h1 π s σ H D I h) λf s1 q=>?_);cases f with
 | next=>exact wpAny_execs_nil q
 | ret v=>exact q
 | brk=>exact q
 | cont=>exact q
def Inv.quiet{π:PL}{σ:St}{H:Hp}{s:Γ}(I:Inv X π σ H s):interactive X.env=false:=by simp[interactive,I.ok.kind]
def yQ(te:TE):TS:=λD σ H=>te σ H λ_ H1=>D.nx σ H1
def A7(he:PE X e te)(hs:swapsWith e none pos.line X.env=pure false:=by rfl):PS X (.Expr e pos) (yQ te):=by
 intro π s σ H D I h;exact wpAny_Expr_any (AH (he π s σ H _ I h) λv s1 ⟨x,H1,I1,r1,q1⟩=>⟨σ,H1,I1,q1⟩) I.quiet hs
def Yaz(te:TE):TS:=λD σ H=>te σ H D.rt
def Ab(he:PE X e te):PS X (.Return (↥e) pos) (Yaz te):=by
 intro π s σ H D I h;exact wpAny_Return_some (AH (he π s σ H _ I h) λv s1 ⟨x,H1,I1,r1,q1⟩=>⟨x,σ,H1,I1,r1,q1⟩)
def Bp(c:TT)(t u:TS):TS:=λD σ H=>c σ H λb H1=>if b=true then t D σ H1 else u D σ H1
def Ac{c:Expr}{a b:List Stmt}{tc:TT}(hc:PT X c tc)(ha:PSs X a t)(hb:PSs X b u):PS X (.If c a b pos) (Bp tc t u):=by
 intro π s σ H D I h;refine wpAny_If (AH (hc π s σ H _ I h) λd s1 ⟨H1,I1,q1⟩=>?_);cases d with
 | true=>exact ha π s1 σ H1 D I1 q1
 | false=>exact hb π s1 σ H1 D I1 q1
def zb:TS:=λ_ _ _=>False
def Bb{sts:List Stmt}:PSs X sts zb:=λ_ _ _ _ _ _ h=>h.elim
end
abbrev TG:=V->St->Hp->(St->Hp->Prop)->Prop
abbrev NR:=LV->St->Hp->(St->Hp->Prop)->Prop
def PG(X:Cx)(target:Expr)(t:TG):Prop :=
 ∀(π:PL) (s:Γ) (σ:St) (H:Hp) (v:V) (u:ω) (Q:SW),Inv X π σ H s->AW v u->t v σ H Q ->
  wpAny (model X.prog X.w) X.A (assign target X.env u) (λ_ s'=>∃ σ' H',Inv X π σ' H' s'/\Q σ' H') X.xe s
def Xv(X:Cx)(ts:ε)(t:NR):Prop :=
 ∀(π:PL) (s:Γ) (σ:St) (H:Hp) (vs:LV) (us:LU) (Q:SW),Inv X π σ H s->AR vs us->t vs σ H Q ->
  wpAny (model X.prog X.w) X.A (assignInOrder ((assignEach ts X.env).map (·.2)) us) (λ_ s'=>∃ σ' H',Inv X π σ' H' s'/\Q σ' H') X.xe s
abbrev aw:=V->V->V->Hp->(Hp->Prop)->Prop
def n5(X:Cx)(t:aw):Prop :=
 ∀(π:PL) (s:Γ) (σ:St) (H:Hp) (o i v:V) (ov iv u:ω) (Q:Hp->Prop),Inv X π σ H s->AW o ov->AW i iv->AW v u->t o i v H Q ->
  wpAny (model X.prog X.w) X.A (setItem ov iv u) (λ_ s'=>∃ H',Inv X π σ H' s'/\Q H') X.xe s
section
variable {X:Cx}{pos:Pos}
def EI(i:Nat):TG:=λv σ H Q=>Q (σ.set i (↥v)) H
def Bl{i:Nat}{x:Str}(hN:X.N.Nodup)(hi:X.N[i]?≈x)(hx:Loc X.env.scope x)(hf:X.fn x=true\/X.env.scope.names.lookup x≈.local:=by first | exact .inl rfl | exact .inr rfl | assumption):PG X (.Name x pos) (EI i):=by
 intro π s σ H v u Q I r h;exact wpAny_assign_Name (Zz I hN hi hx r (λs' I'=>⟨_,H,I',h⟩) hf)
def gE(i:Nat){x:Str}(hN:X.N.Nodup)(hi:X.N[i]?≈x:=by rfl)(hx:Loc X.env.scope x:=by exact Or.inl rfl)(hf:X.fn x=true\/X.env.scope.names.lookup x≈.local:=by first | exact .inl rfl | exact .inr rfl | assumption):PG X (.Name x pos) (EI i):=Bl hN hi hx hf
def oC:NR:=λvs σ H Q=>vs=[]/\Q σ H
def bJ(t:TG)(u:NR):NR:=λvs σ H Q=>∃ v r,vs=v :: r/\t v σ H λσ' H'=>u r σ' H' Q
def H_:Xv X [] oC:=by
 intro π s σ H vs us Q I r h;obtain⟨e,h⟩:=h;subst e;cases r;exact assignInOrder_nil ⟨σ,H,I,h⟩
def gC{e:Expr}{es:ε}{t:TG}{u:NR}(h1:PG X e t)(h2:Xv X es u)
  (hs:(assignEach (e :: es) X.env).map (·.2)=assign e X.env :: (assignEach es X.env).map (·.2):=by rfl):Xv X (e :: es) (bJ t u):=by
 intro π s σ H vs us Q I r h;obtain⟨v,vr,e1,h⟩:=h;subst e1;cases r with
 | cons r rr =>
  rw[hs];refine assignInOrder_cons (AH (h1 π s σ H _ _ _ I r h) λ_ s1 ⟨σ1,H1,I1,q1⟩=>?_);exact h2 π s1 σ1 H1 _ _ Q I1 rr q1
def oE(K:Fg)(n:Nat)(t:NR):TG:=λv σ H Q=>∃ a xs,v=.ref a/\AJ K H a xs/\↑xs=n/\t xs σ H Q
def Hw{es:ε}{k:Nat}{t:NR}{n:Nat}(hc:X.calm=true)(h:Xv X es t)
  (hn:↑(assignEach es X.env)=n:=by rfl) (hst:(assignEach es X.env).findIdx? (·.1)=none:=by rfl):PG X (.Tuple es k pos) (oE X.K n t):=by
 intro π s σ H v u Q I r hw;obtain⟨a,xs,e1,hq,hl,hw⟩:=hw;subst e1;cases r;obtain⟨η,rv,ht,hz⟩:=I.tuple hq;refine assign_Tuple_tuple (I.ok.hd hc) ht (by simp[hn,<- hl,rv.length]) hst λh' hx=>?_;have I1:Inv X π σ H {s with heap:=h' }:=I.kept (t':=s.toks) λb o e=>hx b o (Yl (Yc e)) e;exact h π _ σ H xs _ Q I1 (by simpa using rv) hw
def Yb3(to ti:TE)(t:aw):TG:=λv σ H Q=>to σ H λo H1=>ti σ H1 λi H2=>t o i v H2 λH3=>Q σ H3
def ZI{o i:Expr}{to ti:TE}{t:aw}(ho:PE X o to)(hi:PE X i ti)(hs:n5 X t)
  (ha:∀ v,assign (.Subscript o i pos) X.env v=(do
   let ov <- holding [v] (eval o X.env);let iv <- holding [v,ov] (eval i X.env)
   standAt pos
   holding [v,ov,iv] (setItem ov iv v)
   release [v,ov,iv] []):=by intro _;rfl):PG X (.Subscript o i pos) (Yb3 to ti t):=by
 intro π s σ H v u Q I r h;rw[ha];refine Ja (Jj (AH (ho π s σ H _ I h) λov s1 ⟨x,H1,I1,r1,q1⟩=>?_));refine Ja (Jj (AH (hi π s1 σ H1 _ I1 q1) λiv s2 ⟨y,H2,I2,r2,q2⟩=>?_));refine Ja (wpAny_standAt (Ja (Jj (AH (hs π s2 σ H2 x y v ov iv u _ I2 r1 r2 r q2) λ_ s3 ⟨H3,I3,q3⟩=>?_))));exact wpAny_release ⟨σ,H3,I3,q3⟩
def W9(te:TE)(g:TG):TS:=λD σ H=>te σ H λx H1=>g x σ H1 D.nx
def Px{tg e:Expr}{te:TE}{g:TG}(he:PE X e te)(hg:PG X tg g)(hs:swapsWithSole [tg] e pos.line X.env=pure false:=by rfl)(hw:swappedStores [tg] e X.env=pure none:=by rfl)
  (h1:(assignEach [tg] X.env).map (·.2)=[assign tg X.env]:=by rfl):PS X (.Assign [tg] e pos) (W9 te g):=by
 intro π s σ H D I h;refine wpAny_Assign_stores (AH (he π s σ H _ I h) λv s1 ⟨x,H1,I1,r1,q1⟩=>?_) hs hw;rw[h1];exact AH (hg π s1 σ H1 x v _ I1 r1 q1) λ_ s2 q=>q
def Cc{i:Nat}{x:Str}{e:Expr}{te:TE}{pos':Pos}(hN:X.N.Nodup)(hi:X.N[i]?≈x)(hx:Loc X.env.scope x)(he:PE X e te)(hs:swapsWith e (↥(.Name x pos')) pos.line X.env=pure false:=by rfl)(hf:X.fn x=true\/X.env.scope.names.lookup x≈.local:=by first | exact .inl rfl | exact .inr rfl | assumption):
  PS X (.Assign [.Name x pos'] e pos) (W9 te (EI i)):=by
 intro π s σ H D I h;refine wpAny_Assign_Name (AH (he π s σ H _ I h) λv s1 ⟨y,H1,I1,r1,q1⟩=>?_) hs;exact Zz I1 hN hi hx r1 (λs2 I2=>⟨_,H1,I2,q1⟩) hf
def sE(i:Nat){x:Str}{e:Expr}{te:TE}{pos':Pos}(hN:X.N.Nodup)(he:PE X e te)(hi:X.N[i]?≈x:=by rfl)(hx:Loc X.env.scope x:=by exact Or.inl rfl)(hs:swapsWith e (↥(.Name x pos')) pos.line X.env=pure false:=by rfl)(hf:X.fn x=true\/X.env.scope.names.lookup x≈.local:=by first | exact .inl rfl | exact .inr rfl | assumption):PS X (.Assign [.Name x pos'] e pos) (W9 te (EI i)):=Cc hN hi hx he hs hf
end
section
variable {X:Cx}{pos:Pos}
def ZN(c:TT)(tb:TS):TS:=λD σ H=>∃ W:NW,(∃ m,W m σ H)/\∀ m σ H,W m σ H ->
 c σ H λb H1=>if b=true then ∃ N:SW,(∀ σ' H',N σ' H'->∃ m',m'<m/\W m' σ' H')/\tb {D with nx:=N,ct:=N,bk:=D.nx} σ H1 else D.nx σ H1
def Z2{c:Expr}{body:List Stmt}{tc:TT}{tb:TS}(hp:PassesOwn (model X.prog X.w) X.A X.env X.xe)(hc:PT X c tc)(hb:PSs X body tb):PS X (.While c body [] pos) (ZN tc tb):=by
 intro π s σ H D I h;obtain⟨W,⟨m0,w0⟩,turn⟩:=h;refine wpAny_While (codeAny_whileLoop (λn s'=>∃ σ' H',Inv X π σ' H' s'/\W n σ' H') ?_ m0 ⟨σ,H,I,w0⟩);rintro n s1 ⟨σ1,H1,I1,w1⟩;refine wpAny_passesOwn hp (AH (hc π s1 σ1 H1 _ I1 (turn n σ1 H1 w1)) λb s2 ⟨H2,I2,q2⟩=>?_);cases b with
 | true =>
  obtain⟨N,hN,q2⟩:=q2;rw[if_pos rfl];refine wpAny_passesOwn hp (AH (hb π s2 σ1 H2 _ I2 q2) λf s3 q3=>?_);cases f with
  | next =>
   obtain⟨σ3,H3,I3,n3⟩:=q3;obtain⟨m',hm,w3⟩:=hN σ3 H3 n3;exact⟨m',hm,σ3,H3,I3,w3⟩
  | cont =>
   obtain⟨σ3,H3,I3,n3⟩:=q3;obtain⟨m',hm,w3⟩:=hN σ3 H3 n3;exact⟨m',hm,σ3,H3,I3,w3⟩
  | brk=>exact q3
  | ret v=>exact q3
 | false =>
  rw[if_neg Yh];exact wpAny_execs_nil ⟨σ1,H2,I2,q2⟩
end
structure It where
 go:Nat->Hp->Prop
 yld:Nat->Hp->V->Hp->Prop
 stop:Nat->Hp->Prop
def CY(X:Cx)(π:PL)(H:Hp)(b:χ):Prop :=
 H b=none/\b≠X.env.locals/\b∉X.fs/\(b∈X.ex\/⇑X.s₀<=b)/\(∀ x c,X.env.cells.lookup x≈c->c≠b)/\∀ p∈X.pn++π,p.1≠b
def Inv.fpOk{X:Cx}{π:PL}{σ:St}{H H':Hp}{s:Γ}{b:χ}(I:Inv X π σ H s)(hb:⇑s<=b)(hn:H' b=none):CY X π H' b:=by
 refine⟨hn,Yt (Yn I.lt hb),I.nofs hb,.inr (Yq I.sz hb),λx c e z=>?_,λp hp z=>?_⟩
 ·obtain⟨v,q⟩:=I.cell x c e;exact absurd (Yn q.lt (by rw[z];exact hb)) (Gp _)
 ·exact absurd (Yn (Yc (I.pin p hp).1) (by rw[z];exact hb)) (Gp _)
structure Dq(P:Δ)(w:World)(K:Fg)(tg:Expr)(J:It)(fp:μ)(it:χ)(tn:Nat->Heap->Prop):Prop where
 mem:it∈fp
 obj:∀ i h,tn i h->∀ b∈fp,∃ o,h.get? b≈o/\∀ v,o.data≠.cell v
 keep:∀ i h h',tn i h->(∀ b∈fp,∀ o,h.get? b≈o->h'.get? b≈o)->tn i h'
 item:∀(X:Cx),X.prog=P->X.w=w->X.K=K->X.calm=true->∀(i:Nat) (π:PL) (s:Γ) (σ:St) (H:Hp) (E:EV),Inv X π σ H s->(∀ b∈fp,CY X π H b)->tn i s.heap->J.go i H ->
  wpAny (model P w) X.A (pyNext (.ref it)) (λr s1=>∃ u,r≈u /\
   wpAny (model P w) X.A (letOwnedTupleGo tg (.ref it) u) (λ_ s2=>∃ x H',Inv X π σ H' s2/\AW x u/\J.yld i H x H'/\tn (i + 1) s2.heap/\∀ b∈fp,H' b=none) E s1) E s
 done:∀(X:Cx),X.prog=P->X.w=w->X.K=K->X.calm=true->∀(i:Nat) (π:PL) (s:Γ) (σ:St) (H:Hp) (E:EV),Inv X π σ H s->(∀ b∈fp,CY X π H b)->tn i s.heap->J.stop i H ->
  wpAny (model P w) X.A (pyNext (.ref it)) (λr s1=>r=none/\Inv X π σ H s1) E s
 self:∀(A:Around) (i:Nat) (s:Γ) (Q:EV) (E:EV),tn i s.heap->Q (.ref it) s->wpAny (model P w) A (pyIter (.ref it)) Q E s
abbrev TI:=St->Hp->(It->Hp->Prop)->Prop
def bj(X:Cx)(π:PL)(σ:St)(tg:Expr)(R:It->Hp->Prop)(itv:ω)(s2:Γ):Prop :=
 ∃(it:χ) (fp:μ) (tn:Nat->Heap->Prop) (J:It) (H':Hp),itv=.ref it/\Inv X π σ H' s2/\Dq X.prog X.w X.K tg J fp it tn/\tn 0 s2.heap/\(∀ b∈fp,CY X π H' b)/\R J H'
def PI(X:Cx)(tg iter:Expr)(wi:TI):Prop :=
 ∀(π:PL) (s:Γ) (σ:St) (H:Hp) (R:It->Hp->Prop),Inv X π σ H s->wi σ H R ->
  wpAny (model X.prog X.w) X.A (eval iter X.env) (λv s1=>wpAny (model X.prog X.w) X.A (pyIter v) (bj X π σ tg R) X.xe s1) X.xe s
def Kl{M:Model}{A:Around}{E:EV}{s:Γ}{tg:Expr}{it:χ}{u:ω}{o:Obj}{n:String}{vs:δ}{Q:Unit->Γ->Prop}(ho:s.heap.get? it≈o)(hc:o.cls=.type n)(hd:o.data=.fields vs)
  (hn:["enumerate","zip","dict_itemiterator","dict_reverseitemiterator","odict_iterator","itertools.zip_longest","itertools.pairwise"].contains n=false) (hQ:Q () s):wpAny M A (letOwnedTupleGo tg (.ref it) u) Q E s:=by
 unfold letOwnedTupleGo;cases tg <;> first
  | exact Jd hQ
  | (cases u <;> first
    | exact Jd hQ
    | (refine Ja (wpAny_load ho ?_)
       rw[hc,hd];show wpAny M A (if(["enumerate","zip","dict_itemiterator","dict_reverseitemiterator","odict_iterator","itertools.zip_longest","itertools.pairwise"].contains n&&vs[0]? == ↥(rawInt _))=true then _ else _) Q E s;rw[if_neg (by intro h;rw[hn,Bool.false_and]at h;cases h)];exact Jd hQ))
def Sn(K:Fg)(a:χ):It :=
 ⟨λi H=>∃ xs x,AD K H a xs/\xs[i]?≈x,λi H x H'=>H'=H/\∀ xs,AD K H a xs->xs[i]?≈x,λi H=>∃ xs,AD K H a xs/\↑xs<=i⟩
def br(K:Fg)(a:χ):It :=
 ⟨λi H=>∃ xs x,AJ K H a xs/\xs[i]?≈x,λi H x H'=>H'=H/\∀ xs,AJ K H a xs->xs[i]?≈x,λi H=>∃ xs,AJ K H a xs/\↑xs<=i⟩
def Sm(lo:Int)(n:Nat):It:=⟨λi _=>i<n,λi H x H'=>H'=H/\x=.int (lo + i),λi _=>n<=i⟩
def jq{P:Δ}{w:World}{K:Fg}{tg:Expr}(a it:χ):Dq P w K tg (Sn K a) [it] it (λi h=>h.IsListIter it a i) where
 mem:=by simp
 obj:=λi h st b hb=>by
  have e:b=it:=by simpa using hb
  subst e;obtain⟨o,e,c,d⟩:=st;exact⟨o,e,λv z=>by rw[d]at z;cases z⟩
 keep:=λi h h' st k=>st.at λo e=>k it (by simp) o e
 item:=by
  intro X hP hw hK hc i π s σ H E I hf st hg;subst hP hw hK;obtain⟨xs,x,hq,hx⟩:=hg;obtain⟨η,rv,p,hz⟩:=I.list hq;obtain⟨u,hu,ru⟩:=rv.get hx;obtain⟨f0,f1,f2,f3,f4,f5⟩:=hf it (by simp);refine wpAny_pyNext_list_item st p.isList (x:=u) (by simpa using hu) λh' Ay sb=>?_;have I1:Inv X π σ H {s with heap:=h' }:=I.turned (t':=s.toks) (λb o hb e=>(sb.2 b hb).trans e) f0 f1 f3 f4 f5;obtain⟨o,e,c,d⟩:=id Ay;exact⟨u,Y,Kl (s:={s with heap:=h' }) e c d (by decide) ⟨x,H,I1,ru,⟨Y,λys hy=>by rw[I.list_inj hy hq];exact hx⟩,Ay,λb hb=>(hf b hb).1⟩⟩
 done:=by
  intro X hP hw hK hc i π s σ H E I hf st hg;subst hP hw hK;obtain⟨xs,hq,hx⟩:=hg;obtain⟨η,rv,p,hz⟩:=I.list hq;obtain⟨f0,f1,f2,f3,f4,f5⟩:=hf it (by simp);have hl:=↑rv;exact wpAny_pyNext_list_end (I.ok.hd hc) st p.isList (by simp;omega) λh' eb=>⟨Y,I.turned (t':=s.toks) (λb o hb e=>eb b o hb e) f0 f1 f3 f4 f5⟩
 self:=λ_ _ _ _ _ st h=>wpAny_pyIter_listiter st h
def kB{P:Δ}{w:World}{K:Fg}{tg:Expr}(a it:χ):Dq P w K tg (br K a) [it] it (λi h=>h.IsTupleIter it a i) where
 mem:=by simp
 obj:=λi h st b hb=>by
  have e:b=it:=by simpa using hb
  subst e;obtain⟨o,e,c,d⟩:=st;exact⟨o,e,λv z=>by rw[d]at z;cases z⟩
 keep:=λi h h' st k=>st.at λo e=>k it (by simp) o e
 item:=by
  intro X hP hw hK hc i π s σ H E I hf st hg;subst hP hw hK;obtain⟨xs,x,hq,hx⟩:=hg;obtain⟨η,rv,p,hz⟩:=I.tuple hq;obtain⟨u,hu,ru⟩:=rv.get hx;obtain⟨f0,f1,f2,f3,f4,f5⟩:=hf it (by simp);refine wpAny_pyNext_tuple_item st (show s.heap.IsTuple a η.toArray from p) (x:=u) (by simpa using hu) λh' Ay sb=>?_;have I1:Inv X π σ H {s with heap:=h' }:=I.turned (t':=s.toks) (λb o hb e=>(sb.2 b hb).trans e) f0 f1 f3 f4 f5;obtain⟨o,e,c,d⟩:=id Ay;exact⟨u,Y,Kl (s:={s with heap:=h' }) e c d (by decide) ⟨x,H,I1,ru,⟨Y,λys hy=>by rw[I.tuple_inj hy hq];exact hx⟩,Ay,λb hb=>(hf b hb).1⟩⟩
 done:=by
  intro X hP hw hK hc i π s σ H E I hf st hg;subst hP hw hK;obtain⟨xs,hq,hx⟩:=hg;obtain⟨η,rv,p,hz⟩:=I.tuple hq;obtain⟨f0,f1,f2,f3,f4,f5⟩:=hf it (by simp);have hl:=↑rv;exact wpAny_pyNext_tuple_end (I.ok.hd hc) st (show s.heap.IsTuple a η.toArray from p) (by simp;omega) λh' eb=>⟨Y,I.turned (t':=s.toks) (λb o hb e=>eb b o hb e) f0 f1 f3 f4 f5⟩
 self:=λ_ _ _ _ _ st h=>wpAny_pyIter_tupleiter st h
def vz{P:Δ}{w:World}{K:Fg}{tg:Expr}(it:χ)(lo:Int)(n:Nat):Dq P w K tg (Sm lo n) [it] it (λi h=>IsRangeIter h it (lo + (i:Nat) * 1) ((n:Int) - (i:Nat)) 1) where
 mem:=by simp
 obj:=λi h st b hb=>by
  have e:b=it:=by simpa using hb
  subst e;exact⟨_,st,λv z=>by
   have z':Data.fields _=Data.cell v:=z;cases z'⟩
 keep:=λi h h' st k=>k it (by simp) _ st
 item:=by
  intro X hP hw hK hc i π s σ H E I hf st hg;subst hP hw hK;obtain⟨f0,f1,f2,f3,f4,f5⟩:=hf it (by simp);have W:=Walks.range (prog:=X.prog) (w:=X.w) (I.ok.hd hc) it lo 1 n;refine W.item i s _ _ hg st λv h' tk hv Ay kk=>?_;obtain⟨t,rfl⟩:=hv;have I1:Inv X π σ H {s with heap:=h',toks:=tk}:=I.turned (λb o hb e=>kk b o (by simpa using hb) e) f0 f1 f3 f4 f5;refine⟨Z,Kl (s:={s with heap:=h',toks:=tk}) (n:="range_iterator") Ay rfl rfl (by decide) ⟨.int (lo + i),H,I1,⟨t,?_⟩,⟨Y,Y⟩,Ay,λb hb=>(hf b hb).1⟩⟩;rw[Int.mul_one]
 done:=by
  intro X hP hw hK hc i π s σ H E I hf st hg;subst hP hw hK;obtain⟨f0,f1,f2,f3,f4,f5⟩:=hf it (by simp);exact wpAny_pyNext_range_end (I.ok.hd hc) st (by have:n<=i:=hg;omega) λh' eb=>⟨Y,I.turned (t':=s.toks) (λb o hb e=>eb b o hb e) f0 f1 f3 f4 f5⟩
 self:=λ_ _ _ _ _ st h=>wpAny_pyIter_rangeiter st h
section
variable {X:Cx}{tg:Expr}
def xj(K:Fg)(tl:TE):TI:=λσ H R=>tl σ H λx H1=>∃ a,x=.ref a/\(∃ xs,AD K H1 a xs)/\R (Sn K a) H1
def Yb0(K:Fg)(tl:TE):TI:=λσ H R=>tl σ H λx H1=>∃ a,x=.ref a/\(∃ xs,AJ K H1 a xs)/\R (br K a) H1
def CT{l:Expr}{tl:TE}(hl:PE X l tl):PI X tg l (xj X.K tl):=by
 intro π s σ H R I h;refine AH (hl π s σ H _ I h) λv s1 ⟨x,H1,I1,r1,q1⟩=>?_;obtain⟨a,e,⟨xs,hq⟩,q⟩:=q1;subst e;cases r1;obtain⟨η,rv,p,hz⟩:=I1.list hq;refine wpAny_pyIter_list p.isList ?_;refine⟨⇑s1,[⇑s1],_,_,H1,Y,I1.kept (t':=s1.toks) λb o e=>Yb _ e,jq a _,⟨_,Ye _ rfl,Y,Y⟩,λb hb=>?_,q⟩;have e:b=⇑s1:=by simpa using hb
 subst e;exact I1.fpOk (Yd _) (I1.hok.fresh (Yd _))
def Ml{l:Expr}{tl:TE}(hl:PE X l tl):PI X tg l (Yb0 X.K tl):=by
 intro π s σ H R I h;refine AH (hl π s σ H _ I h) λv s1 ⟨x,H1,I1,r1,q1⟩=>?_;obtain⟨a,e,⟨xs,hq⟩,q⟩:=q1;subst e;cases r1;obtain⟨η,rv,p,hz⟩:=I1.tuple hq;refine wpAny_pyIter_tuple (show s1.heap.IsTuple a η.toArray from p) ?_;refine⟨⇑s1,[⇑s1],_,_,H1,Y,I1.kept (t':=s1.toks) λb o e=>Yb _ e,kB a _,⟨_,Ye _ rfl,Y,Y⟩,λb hb=>?_,q⟩;have e:b=⇑s1:=by simpa using hb
 subst e;exact I1.fpOk (Yd _) (I1.hok.fresh (Yd _))
def tM{π:PL}{σ:St}{H:Hp}{s:Γ}{R:It->Hp->Prop}{E:EV}{lo hi:Int}{t u v:Tok}{tk:Nat}(I:Inv X π σ H s)(h1:-(2 ^ 62)<=lo)(h2:lo<2 ^ 62)(h3:-(2 ^ 62)<=hi)(h4:hi<2 ^ 62)
  (q:R (Sm lo (hi - lo).toNat) H):wpAny (model X.prog X.w) X.A (pyIter (.ref ⇑s)) (bj X π σ tg R) E {s with heap:=s.heap.push {cls:=.type "range",data:=.fields #[.int lo t,.int hi u,.int 1 v] },toks:=tk}:=by
 refine wpAny_pyIter_range (IsRange.new ..) (small_one h1 h2 h3 h4) ?_;have I1:Inv X π σ H {s with heap:=s.heap.push {cls:=.type "range",data:=.fields #[.int lo t,.int hi u,.int 1 v] },toks:=tk}:=I.kept λb o e=>Yb _ e;refine⟨(s.heap.push {cls:=.type "range",data:=.fields #[.int lo t,.int hi u,.int 1 v] }).objs.size,[(s.heap.push {cls:=.type "range",data:=.fields #[.int lo t,.int hi u,.int 1 v] }).objs.size],_,_,H,Y,
  I1.kept (t':=tk) λb o e=>Yb _ e,vz _ lo (hi - lo).toNat,?_,λb hb=>?_,q⟩
 ·have e1:lo + ((0:Nat):Int) * 1=lo:=by simp
  have e2:(((hi - lo).toNat:Nat):Int) - ((0:Nat):Int)=Builtin.Range.rangeSize lo hi 1:=by rw[rangeSize_one];split <;> omega
  show IsRangeIter _ _ (lo + ((0:Nat):Int) * 1) ((((hi - lo).toNat:Nat):Int) - ((0:Nat):Int)) 1;rw[e1,e2];exact Ye _ rfl
 ·have e:b=(s.heap.push {cls:=.type "range",data:=.fields #[.int lo t,.int hi u,.int 1 v] }).objs.size:=by simpa using hb
  subst e;exact I1.fpOk (Yd _) (I1.hok.fresh (Yd _))
def xk(ta:TA):TI:=λσ H R=>ta σ H λvs H1=>∃ j:Int,vs=[.int j]/\-(2 ^ 62)<=j/\j<2 ^ 62/\R (Sm 0 j.toNat) H1
def Gj{a:Expr}{ta:TA}{p pos:Pos}(hg:Gl X "range")(hm:X.mg "range"=none)(ha:PA X [a] ta)(hs:starEach [a] X.env=[(false,eval a X.env)]:=by rfl):PI X tg (.Call (.Name "range" p) [a] [] pos) (xk ta):=by
 intro π s σ H R I h;refine Call_ (Fj I hg hm boot_range (IH (AH (ha pos π s σ H _ I h) λus s1 ⟨vs,H1,I1,r1,q1⟩=>?_) hs rfl));obtain⟨j,e,q1,q2,q⟩:=q1;subst e;cases r1 with
 | cons r rr =>
  cases rr;obtain⟨t,rfl⟩:=r;exact call_range_1 (tM I1 (by omega) (by omega) q1 q2 (by simpa using q))
def B5(wi:TI)(g:TG)(tb:TS):TS:=λD σ H=>wi σ H λJ H1=>∃ W:Nat->Nat->St->Hp->Prop,(∃ m,W 0 m σ H1)/\∀ i m σ H,W i m σ H ->
 (J.stop i H/\D.nx σ H)\/(J.go i H/\∃ N:SW,(∀ σ' H',N σ' H'->∃ m',m'<m/\W (i + 1) m' σ' H')/\∀ x H',J.yld i H x H'->g x σ H' λσ2 H2=>tb {D with nx:=N,ct:=N,bk:=D.nx} σ2 H2)
def RX(fp:μ)(h:Heap):PL:=fp.filterMap λb=>(h.get? b).map λo=>(b,o)
def Wh{fp:μ}{h:Heap}{b:χ}{o:Obj}(hb:b∈fp)(e:h.get? b≈o):(b,o)∈RX fp h:=List.mem_filterMap.mpr ⟨b,hb,by rw[e];rfl⟩
def uK{fp:μ}{h:Heap}{p:χ×Obj}(hp:p∈RX fp h):p.1∈fp/\h.get? p.1≈p.2:=by
 obtain⟨b,hb,e⟩:=List.mem_filterMap.mp hp;cases q:h.get? b with
 | none=>rw[q]at e;cases e
 | some o =>
  rw[q]at e;have e':(b,o)=p:=Yp e;subst e';exact⟨hb,q⟩
def Inv.pinned{π:PL}{σ:St}{H:Hp}{s:Γ}{fp:μ}(I:Inv X π σ H s)(hf:∀ b∈fp,CY X π H b)(ho:∀ b∈fp,∃ o,s.heap.get? b≈o/\∀ v,o.data≠.cell v):Inv X (π++RX fp s.heap) σ H s :=
 I.pins_of λp hp=>(Yr.mp hp).elim (λz=>I.pin p (FJ _ z)) λz=>by
  obtain⟨hb,e⟩:=uK z;obtain⟨f0,f1,f2,_⟩:=hf p.1 hb;obtain⟨o,e',d⟩:=ho p.1 hb;rw[e]at e';cases e';exact⟨e,f0,f1,f2,d⟩
def Inv.unpinned{π pl:PL}{σ:St}{H:Hp}{s:Γ}(I:Inv X (π++pl) σ H s):Inv X π σ H s:=I.pins_of λp hp=>I.pin p (FJ _ (LQ _ hp))
def Ba{iter:Expr}{body:List Stmt}{wi:TI}{g:TG}{tb:TS}{pos:Pos}(hp:PassesOwn (model X.prog X.w) X.A X.env X.xe)(hc:X.calm=true)(hi:PI X tg iter wi)(hg:PG X tg g)(hb:PSs X body tb)
  (hs:∀ x,foldedSetIterable iter X.env x=pure x:=by intro _;rfl):PS X (.For tg iter body [] pos) (B5 wi g tb):=by
 intro π s σ H D I h;refine wpAny_For (AH (hi π s σ H _ I h) λv s1 h1=>AH h1 λitv s2 h2=>?_) hs;obtain⟨it,fp,tn,J,H2,e,I2,T,FT,f2,W,⟨m0,w0⟩,turn⟩:=h2;subst e;have stat:∀ {H':Hp},(∀ b∈fp,H' b=none)->∀ b∈fp,CY X π H' b:=λhn b hb=>⟨hn b hb,(f2 b hb).2⟩;refine codeAny_forLoop_any (λn s'=>∃ i σ' H',Inv X π σ' H' s'/\tn i s'.heap/\(∀ b∈fp,H' b=none)/\W i n σ' H') ?_ m0 ⟨0,σ,H2,I2,FT,λb hb=>(f2 b hb).1,w0⟩;rintro n s3 ⟨i,σ3,H3,I3,Qk,RI,w3⟩
 rcases turn i n σ3 H3 w3 with⟨stop,qn⟩ | ⟨go,N,hN,step⟩
 ·refine wpAny_passesOwn hp (AH (T.done X rfl rfl rfl hc i π s3 σ3 H3 X.xe I3 (stat RI) Qk stop) λr s4 ⟨hr,I4⟩=>?_);subst hr;exact wpAny_execs_nil ⟨σ3,H3,I4,qn⟩
 ·refine wpAny_passesOwn hp (AH (T.item X rfl rfl rfl hc i π s3 σ3 H3 X.xe I3 (stat RI) Qk go) λr s4 ⟨u,hr,h4⟩=>?_);subst hr;refine wpAny_passesOwn hp (AH h4 λ_ s5 ⟨x,H5,I5,r5,y5,ME,Y3⟩=>?_);have bu:=I5.pinned (stat Y3) (T.obj _ _ ME);refine wpAny_passesOwn hp (AH (hg _ s5 σ3 H5 x u _ bu r5 (step x H5 y5)) λ_ s6 ⟨σ6,H6,I6,q6⟩=>?_);refine wpAny_passesOwn hp (AH (hb _ s6 σ6 H6 _ I6 q6) λf s7 q7=>?_);have again:∀ {σ7:St} {H7:Hp},Inv X (π++RX fp s5.heap) σ7 H7 s7->N σ7 H7->∃ m,m<n/\∃ i σ' H',Inv X π σ' H' s7/\tn i s7.heap/\(∀ b∈fp,H' b=none)/\W i m σ' H':=λ{σ7 H7} I7 n7=>by
   obtain⟨m',hm,w7⟩:=hN σ7 H7 n7;refine⟨m',hm,i + 1,σ7,H7,I7.unpinned,T.keep _ _ _ ME λb hb o e=>(I7.pin (b,o) (FJ _ (FJ _ (Wh hb e)))).1,λb hb=>?_,w7⟩;obtain⟨o,e,d⟩:=T.obj _ _ ME b hb;exact(I7.pin (b,o) (FJ _ (FJ _ (Wh hb e)))).2.1
  cases f with
  | next=>obtain⟨σ7,H7,I7,n7⟩:=q7;exact again I7 n7
  | cont=>obtain⟨σ7,H7,I7,n7⟩:=q7;exact again I7 n7
  | brk=>obtain⟨σ7,H7,I7,q7⟩:=q7;exact⟨σ7,H7,I7.unpinned,q7⟩
  | ret v=>obtain⟨x7,σ7,H7,I7,r7,q7⟩:=q7;exact⟨x7,σ7,H7,I7.unpinned,r7,q7⟩
end
abbrev R2:=V->V->Hp->VK->Prop
def BP(X:Cx)(f:ω->ω->Sem ω)(r:R2):Prop :=
 ∀(π:PL) (s:Γ) (σ:St) (H:Hp) (x y:V) (v u:ω) (Q:VK),Inv X π σ H s->AW x v->AW y u->r x y H Q ->
  wpAny (model X.prog X.w) X.A (f v u) (EP X π σ Q) X.xe s
def bg(X:Cx)(f:ω->Sem ω)(r:V->Hp->VK->Prop):Prop :=
 ∀(π:PL) (s:Γ) (σ:St) (H:Hp) (x:V) (v:ω) (Q:VK),Inv X π σ H s->AW x v->r x H Q ->
  wpAny (model X.prog X.w) X.A (f v) (EP X π σ Q) X.xe s
def Em(X:Cx)(f:ω)(r:LV->Hp->VK->Prop):Prop :=
 ∀(π:PL) (s:Γ) (σ:St) (H:Hp) (xs:LV) (us:LU) (Q:VK),Inv X π σ H s->AR xs us->r xs H Q ->
  wpAny (model X.prog X.w) X.A (call f us) (EP X π σ Q) X.xe s
def Yca(X:Cx)(r:V->Hp->(Bool->Hp->Prop)->Prop):Prop :=
 ∀(π:PL) (s:Γ) (σ:St) (H:Hp) (x:V) (v:ω) (Q:Bool->Hp->Prop),Inv X π σ H s->AW x v->r x H Q ->
  wpAny (model X.prog X.w) X.A (truthy v) (TP X π σ Q) X.xe s
def IX(r:R2)(ta tb:TE):TE:=λσ H Q=>ta σ H λx H1=>tb σ H1 λy H2=>r x y H2 Q
def o9(r:V->Hp->VK->Prop)(ta:TE):TE:=λσ H Q=>ta σ H λx H1=>r x H1 Q
def rI(C:Int->Int->Prop)(g:Int->Int->V):R2:=λx y H Q=>∃ i j,x=.int i/\y=.int j/\C i j/\Q (g i j) H
def He(g:Int->Int->V):R2:=λx y H Q=>∃ i j,x=.int i/\y=.int j/\Q (g i j) H
def rU(g:Int->V):V->Hp->VK->Prop:=λx H Q=>∃ i,x=.int i/\Q (g i) H
section
variable {X:Cx}{a b c:Expr}{ta tb tc:TE}{pos:Pos}
def ao(ha:PE X a ta)(hb:PE X b tb){π:PL}{s:Γ}{σ:St}{H:Hp}{R:V->V->Hp->Prop}(I:Inv X π σ H s)
  (h:ta σ H λx H1=>tb σ H1 λy H2=>R x y H2) {Q:EV} {f:ω->ω->Sem ω}
  (hf:∀ v u s2 x y H2,Inv X π σ H2 s2->AW x v->AW y u->R x y H2->wpAny (model X.prog X.w) X.A (f v u) Q X.xe s2):
  wpAny (model X.prog X.w) X.A (eval a X.env) (λv s₁=>wpAny (model X.prog X.w) X.A (eval b X.env) (λu s₂=>wpAny (model X.prog X.w) X.A (f v u) Q X.xe s₂) X.xe s₁) X.xe s:=by
 refine AH (ha π s σ H _ I h) λv s1 ⟨x,H1,I1,r1,q1⟩=>?_;refine AH (hb π s1 σ H1 _ I1 q1) λu s2 ⟨y,H2,I2,r2,q2⟩=>?_;exact hf v u s2 x y H2 I2 r1 r2 q2
def Al{op:Operator}{r:R2}(ho:BP X (binaryOp op) r)(ha:PE X a ta)(hb:PE X b tb):PE X (.BinOp a op b pos) (IX r ta tb):=by
 ac_rfl;exact wpAny_BinOp (ao ha hb I h λv u s2 x y H2 I2 rx ry q=>ho π s2 σ H2 x y v u Q I2 rx ry q)
def RP{op:UnaryOp}{r:V->Hp->VK->Prop}(ho:bg X (unaryOp op) r)(ha:PE X a ta):PE X (.UnaryOp op a pos) (o9 r ta):=by
 ac_rfl;exact UnaryOp_ (AH (ha π s σ H _ I h) λv s1 ⟨x,H1,I1,r1,q1⟩=>ho π s1 σ H1 x v Q I1 r1 q1)
def Pe{f:ω->ω->Sem ω}{C:Int->Int->Prop}{g:Int->Int->Int}
  (rule:∀(i j:Int) (t u:Tok) (s:Γ) (Q:EV) (E:EV),C i j->Q (.int (g i j) s.toks) {s with toks:=s.toks + 1}->wpAny (model X.prog X.w) X.A (f (.int i t) (.int j u)) Q E s):
  BP X f (rI C λi j=>.int (g i j)):=by
 exfalso;obtain⟨i,j,rfl,rfl,hc,q⟩:=h;obtain⟨t,rfl⟩:=rx;obtain⟨t',rfl⟩:=ry;exact rule i j t t' s _ _ hc ⟨.int (g i j),H,I.tok _,⟨Z⟩,q⟩
def lR{f:ω->ω->Sem ω}{g:Int->Int->Int}
  (rule:∀(i j:Int) (t u:Tok) (s:Γ) (Q:EV) (E:EV),Q (.int (g i j) s.toks) {s with toks:=s.toks + 1}->wpAny (model X.prog X.w) X.A (f (.int i t) (.int j u)) Q E s):
  BP X f (He λi j=>.int (g i j)):=by
 exfalso;obtain⟨i,j,rfl,rfl,q⟩:=h;obtain⟨t,rfl⟩:=rx;obtain⟨t',rfl⟩:=ry;exact rule i j t t' s _ _ ⟨.int (g i j),H,I.tok _,⟨Z⟩,q⟩
def XH{f:ω->ω->Sem ω}{g:Int->Int->Bool}
  (rule:∀(i j:Int) (t u:Tok) (s:Γ) (Q:EV) (E:EV),Q (.bool (g i j)) s->wpAny (model X.prog X.w) X.A (f (.int i t) (.int j u)) Q E s):
  BP X f (He λi j=>.bl (g i j)):=by
 exfalso;obtain⟨i,j,rfl,rfl,q⟩:=h;obtain⟨t,rfl⟩:=rx;obtain⟨t',rfl⟩:=ry;exact rule i j t t' s _ _ ⟨.bl (g i j),H,I,Y,q⟩
def Ycj(i j:Int):Prop:=0<j/\j<1073741824
def Yci(i j:Int):Prop:=0<=j/\j<=1000000/\i.natAbs<2 ^ 64
def ag(i j:Int):Prop:=(-(2 ^ 64)<i/\i<2 ^ 64)\/(-(2 ^ 64)<j/\j<2 ^ 64)
def ag.ok{i j:Int}(h:ag i j):IntMulOk i j:=by
 rcases h with⟨h1,h2⟩ | ⟨h1,h2⟩
 ·exact .of_left (intBits_le_64 h1 h2)
 ·exact .of_right (intBits_le_64 h1 h2)
def Iy:BP X (binaryOp .Add) (He λi j=>.int (i + j)):=lR λ_ _ _ _ _ _ _ q=>add_int q
def mr:BP X (binaryOp .Sub) (He λi j=>.int (i - j)):=lR λ_ _ _ _ _ _ _ q=>sub_int q
def Mh:BP X (binaryOp .Mult) (rI ag λi j=>.int (i * j)):=Pe λ_ _ _ _ _ _ _ hc q=>mul_int q hc.ok
def g9:BP X (binaryOp .FloorDiv) (rI Ycj λi j=>.int (i / j)):=Pe λi j _ _ _ _ _ hc q=>by
 have h1:(0:Int)<j:=hc.1;have h2:j<1073741824:=hc.2;exact floordiv_int (by omega) (by rw[Int.fdiv_eq_ediv_of_nonneg i (by omega)];exact q) (.inl (PyProof.noPylong_small (by omega)))
def Ku:BP X (binaryOp .Mod) (rI (λ_ j=>0<j) λi j=>.int (i % j)):=Pe λi j _ _ _ _ _ hc q=>by
 have h1:(0:Int)<j:=hc;exact mod_int' (by omega) (by rw[Int.fmod_eq_emod_of_nonneg i (by omega)];exact q)
def Mi:BP X (binaryOp .Pow) (rI Yci λi j=>.int (i ^ j.toNat)):=Pe λ_ _ _ _ _ _ _ hc q=>pow_int_small hc.1 hc.2.1 hc.2.2 q
def ou{f:ω->Sem ω}{g:Int->Int}
  (rule:∀(i:Int) (t:Tok) (s:Γ) (Q:EV) (E:EV),Q (.int (g i) s.toks) {s with toks:=s.toks + 1}->wpAny (model X.prog X.w) X.A (f (.int i t)) Q E s):
  bg X f (rU λi=>.int (g i)):=by
 intro π s σ H x v Q I rx h;obtain⟨i,rfl,q⟩:=h;obtain⟨t,rfl⟩:=rx;exact rule i t s _ _ ⟨.int (g i),H,I.tok _,⟨Z⟩,q⟩
def Ra:bg X (unaryOp .USub) (rU λi=>.int (-i)):=ou λ_ _ _ _ _ q=>neg_int q
end
def lM:V->V->Bool
 | .non,.non=>true | .non,.int _=>true | .int _,.non=>true | .non,.bl _=>true | .bl _,.non=>true | .non,.str _=>true | .str _,.non=>true
 | .int _,.int _=>true | .bl _,.bl _=>true | .str _,.str _=>true | .byt _,.byt _=>true
 | .int _,.str _=>true | .str _,.int _=>true | .bl _,.str _=>true | .str _,.bl _=>true
 | _,_=>false
def pQ:R2:=λx y H Q=>lM x y=true/\Q (.bl (decide (x=y))) H
def pO:R2:=λx y H Q=>lM x y=true/\Q (.bl (!decide (x=y))) H
def gR{i j:Int}:decide (V.int i=V.int j)=(i == j):=by
 rw[Gm];simp
def mW{i j:Bool}:decide (V.bl i=V.bl j)=(i == j):=by
 rw[Gm];simp
def gS{i j:Str}:decide (V.str i=V.str j)=(i == j):=by
 rw[Gm];simp
def gQ{i j:Array UInt8}:decide (V.byt i=V.byt j)=(i.toList == j.toList):=by
 rw[Gm];cases i;cases j;simp
section
variable {X:Cx}{a b c:Expr}{ta tb tc:TE}{pos:Pos}
def BG{π:PL}{σ:St}{H:Hp}{s:Γ}{Q:VK}{k k':Bool}(I:Inv X π σ H s)(q:Q (.bl k) H)(e:k=k'):EP X π σ Q (.bool k') s:=by
 subst e;exact⟨.bl k,H,I,Y,q⟩
def Bw:BP X (compareOp .Eq) pQ:=by
 exfalso;obtain⟨hs,q⟩:=h;cases x with
 | non =>
  cases rx;cases y with
  | non=>cases ry;exact PySem.EqNone.eq_none_none (BG I q (by simp))
  | bl j=>cases ry;exact PySem.EqNone.eq_none_bool (BG I q (by simp))
  | int j=>obtain⟨t',rfl⟩:=ry;exact PySem.EqNone.eq_none_int (BG I q (by simp))
  | str j=>obtain⟨t',rfl⟩:=ry;exact PySem.EqNone.eq_none_str (BG I q (by simp))
  | _=>exact absurd (show false=true from hs) Yh
 | bl i =>
  cases rx;cases y with
  | non=>cases ry;exact PySem.EqNone.eq_bool_none (BG I q (by simp))
  | bl j=>cases ry;exact eq_bool (BG I q mW)
  | str j=>obtain⟨t',rfl⟩:=ry;exact PySem.EqMixed.eq_bool_str (BG I q (by simp))
  | _=>exact absurd (show false=true from hs) Yh
 | int i =>
  obtain⟨t,rfl⟩:=rx;cases y with
  | non=>cases ry;exact PySem.EqNone.eq_int_none (BG I q (by simp))
  | int j=>obtain⟨t',rfl⟩:=ry;exact eq_int (BG I q gR)
  | str j=>obtain⟨t',rfl⟩:=ry;exact PySem.EqMixed.eq_int_str (BG I q (by simp))
  | _=>exact absurd (show false=true from hs) Yh
 | str i =>
  obtain⟨t,rfl⟩:=rx;cases y with
  | non=>cases ry;exact PySem.EqNone.eq_str_none (BG I q (by simp))
  | bl j=>cases ry;exact PySem.EqMixed.eq_str_bool (BG I q (by simp))
  | int j=>obtain⟨t',rfl⟩:=ry;exact PySem.EqMixed.eq_str_int (BG I q (by simp))
  | str j=>obtain⟨t',rfl⟩:=ry;exact eq_str (BG I q gS)
  | _=>exact absurd (show false=true from hs) Yh
 | byt i =>
  obtain⟨t,rfl⟩:=rx;cases y with
  | byt j=>obtain⟨t',rfl⟩:=ry;exact W.eq_bytes (BG I q gQ)
  | _=>exact absurd (show false=true from hs) Yh
 | _=>cases y <;> exact absurd (show false=true from hs) Yh
def RN:BP X (compareOp .NotEq) pO:=by
 exfalso;obtain⟨hs,q⟩:=h;cases x with
 | non =>
  cases rx;cases y with
  | non=>cases ry;exact PySem.EqNone.ne_none_none (BG I q (by simp))
  | bl j=>cases ry;exact PySem.EqNone.ne_none_bool (BG I q (by simp))
  | int j=>obtain⟨t',rfl⟩:=ry;exact PySem.EqNone.ne_none_int (BG I q (by simp))
  | str j=>obtain⟨t',rfl⟩:=ry;exact PySem.EqNone.ne_none_str (BG I q (by simp))
  | _=>exact absurd (show false=true from hs) Yh
 | bl i =>
  cases rx;cases y with
  | non=>cases ry;exact PySem.EqNone.ne_bool_none (BG I q (by simp))
  | bl j=>cases ry;exact ne_bool (BG I q (congrArg not mW))
  | str j=>obtain⟨t',rfl⟩:=ry;exact PySem.EqMixed.ne_bool_str (BG I q (by simp))
  | _=>exact absurd (show false=true from hs) Yh
 | int i =>
  obtain⟨t,rfl⟩:=rx;cases y with
  | non=>cases ry;exact PySem.EqNone.ne_int_none (BG I q (by simp))
  | int j=>obtain⟨t',rfl⟩:=ry;exact ne_int (BG I q (congrArg not gR))
  | str j=>obtain⟨t',rfl⟩:=ry;exact PySem.EqMixed.ne_int_str (BG I q (by simp))
  | _=>exact absurd (show false=true from hs) Yh
 | str i =>
  obtain⟨t,rfl⟩:=rx;cases y with
  | non=>cases ry;exact PySem.EqNone.ne_str_none (BG I q (by simp))
  | bl j=>cases ry;exact PySem.EqMixed.ne_str_bool (BG I q (by simp))
  | int j=>obtain⟨t',rfl⟩:=ry;exact PySem.EqMixed.ne_str_int (BG I q (by simp))
  | str j=>obtain⟨t',rfl⟩:=ry;exact ne_str (BG I q (congrArg not gS))
  | _=>exact absurd (show false=true from hs) Yh
 | byt i =>
  obtain⟨t,rfl⟩:=rx;cases y with
  | byt j=>obtain⟨t',rfl⟩:=ry;exact W.ne_bytes (BG I q (congrArg not gQ))
  | _=>exact absurd (show false=true from hs) Yh
 | _=>cases y <;> exact absurd (show false=true from hs) Yh
def Hv:BP X (compareOp .Lt) (He λi j=>.bl (decide (i<j))):=XH λ_ _ _ _ _ _ _ q=>lt_int q
def Iv:BP X (compareOp .LtE) (He λi j=>.bl (decide (i<=j))):=XH λ_ _ _ _ _ _ _ q=>le_int q
def GZ:BP X (compareOp .Gt) (He λi j=>.bl (decide (j<i))):=XH λ_ _ _ _ _ _ _ q=>gt_int q
def ya:BP X (compareOp .GtE) (He λi j=>.bl (decide (j<=i))):=XH λ_ _ _ _ _ _ _ q=>ge_int q
def uz:BP X (compareOp .In) (λx y H Q=>∃ i j,x=.str i/\y=.str j/\Q (.bl (!(Builtin.Str.occurrences j i 0 ↑j 1).isEmpty)) H):=by
 exfalso;obtain⟨i,j,rfl,rfl,q⟩:=h;obtain⟨t,rfl⟩:=rx;obtain⟨t',rfl⟩:=ry;exact in_str (BG I q rfl)
def mj:BP X (compareOp .Is) (λx y H Q=>y=.non/\Q (.bl (decide (x=.non))) H):=by
 exfalso;obtain⟨rfl,q⟩:=h;cases ry;refine is_none_gen (BG I q ?_);cases x <;> first
  | (cases rx;rfl)
  | (obtain⟨t,rfl⟩:=rx;rfl)
def Ao(b:Expr){op:CmpOp}(h:op≠.In:=by decide)(h2:op≠.NotIn:=by decide):behindInMarks op b=false:=by
 have e1:(op == CmpOp.In)=false:=by cases op <;> first | rfl | exact absurd rfl h
 have e2:(op == CmpOp.NotIn)=false:=by cases op <;> first | rfl | exact absurd rfl h2
 cases b <;> simp[behindInMarks,e1,e2]
def FH{op:CmpOp}{r:R2}(ho:BP X (compareOp op) r)(ha:PE X a ta)(hb:PE X b tb)(hm:behindInMarks op b=false):PE X (.Compare a [op] [b] pos) (IX r ta tb):=by
 ac_rfl;exact wpAny_Compare1 (ao ha hb I h λv u s2 x y H2 I2 rx ry q=>ho π s2 σ H2 x y v u Q I2 rx ry q) hm
def mK(t:TE):TT:=λσ H Q=>t σ H λx H'=>∃ k,x=.bl k/\Q k H'
def Ax{op:CmpOp}{r:R2}(ho:BP X (compareOp op) r)(ha:PE X a ta)(hb:PE X b tb)(hm:behindInMarks op b=false):PT X (.Compare a [op] [b] pos) (mK (IX r ta tb)):=by
 ac_rfl;refine wpAny_isTrue_Compare1 (AH (ha π s σ H _ I h) λv s1 ⟨x,H1,I1,r1,q1⟩=>AH (hb π s1 σ H1 _ I1 q1) λu s2 ⟨y,H2,I2,r2,q2⟩ =>
  AH (ho π s2 σ H2 x y v u _ I2 r1 r2 q2) λc s3 ⟨z,H3,I3,r3,k,e,q3⟩=>?_) hm
 subst e;cases r3;exact Jh ⟨H3,I3,q3⟩
def zW(r r':R2)(ta tb tc:TE):TE:=λσ H Q=>ta σ H λx H1=>tb σ H1 λy H2=>r x y H2 λz H3=>∃ k,z=.bl k /\
 (if k=true then tc σ H3 λw' H4=>r' y w' H4 Q else Q (.bl false) H3)
def P8{op X8:CmpOp}{r r':R2}(ho:BP X (compareOp op) r)(Ii:BP X (compareOp X8) r')(ha:PE X a ta)(hb:PE X b tb)(hc:PE X c tc)
  (hm:lastMarks [op,X8] [b,c]=false:=by with_unfolding_all rfl):PT X (.Compare a [op,X8] [b,c] pos) (mK (zW r r' ta tb tc)):=by
 ac_rfl;refine isTrue_chain (AH (ha π s σ H _ I h) λv s1 ⟨x,H1,I1,r1,q1⟩=>test_link (AH (hb π s1 σ H1 _ I1 q1) λu s2 ⟨y,H2,I2,r2,q2⟩ =>
  AH (ho π s2 σ H2 x y v u _ I2 r1 r2 q2) λd s3 ⟨z,H3,I3,r3,k,e,q3⟩=>?_)) hm
 subst e;cases r3;refine Jh ?_;cases k with
 | false =>
  obtain⟨k',e',q'⟩:=q3;cases e';exact ite_ff ⟨H3,I3,q'⟩
 | true =>
  refine ite_tt (test_last (AH (hc π s3 σ H3 _ I3 q3) λw' s4 ⟨z',H4,I4,r4,q4⟩=>AH (Ii π s4 σ H4 y z' u w' _ I4 r2 r4 q4) λd' s5 ⟨z2,H5,I5,r5,k2,e2,q5⟩=>?_));subst e2;cases r5;exact Jh ⟨H5,I5,q5⟩
def n8(K:Fg)(x:V)(H:Hp)(k:Bool):Prop :=
 match x with
 | .non=>k=false
 | .bl b=>k=b
 | .int i=>k=(i != 0)
 | .str y=>↑y<=sizeLine/\k=((↑y:Int) != 0)
 | .byt y=>y.size<=sizeLine/\k=((y.size:Int) != 0)
 | .ref p=>(∃ xs,AD K H p xs/\k=!xs.isEmpty)\/(∃ xs,AJ K H p xs/\k=!xs.isEmpty)\/∃ ν,H p≈(.dK ν)/\k=!ν.isEmpty
 | _=>False
def vM{κ:Type}{ν:List (κ×V)}{vs:List (κ×ω)}(r:KV ν vs):(!vs.isEmpty)=!ν.isEmpty:=by
 cases r <;> rfl
def j5{xs:LV}{η:LU}(r:AR xs η):(!η.toArray.isEmpty)=!xs.isEmpty:=by
 cases r <;> simp
def Mq:(sizeLine:Nat)<2 ^ 63:=by rw[sizeLine_eq];decide
def zc:Yca X (λx H Q=>∃ k,n8 X.K x H k/\Q k H):=by
 intro π s σ H x v Q I rx h;obtain⟨k,e,q⟩:=h;have hl:=Mq;have hs:sizeLine=16777216:=sizeLine_eq;cases x with
 | non =>
  cases rx;have e':k=false:=e;subst e';exact truthy_none ⟨H,I,q⟩
 | bl b =>
  cases rx;have e':k=b:=e;subst e';exact Jh ⟨H,I,q⟩
 | int i =>
  obtain⟨t,rfl⟩:=rx;have e':k=(i != 0):=e;subst e';exact PySem.P.truthy_int ⟨H,I,q⟩
 | str y =>
  obtain⟨t,rfl⟩:=rx;obtain⟨hy,e'⟩:↑y<=sizeLine/\k=((↑y:Int) != 0):=e;subst e';exact PySem.P.truthy_str (by omega) ⟨H,I.tok _,q⟩
 | byt y =>
  obtain⟨t,rfl⟩:=rx;obtain⟨hy,e'⟩:y.size<=sizeLine/\k=((y.size:Int) != 0):=e;subst e';exact W.truthy_bytes (by omega) ⟨H,I.tok _,q⟩
 | ref p =>
  cases rx;have e':(∃ xs,AD X.K H p xs/\k=!xs.isEmpty)\/(∃ xs,AJ X.K H p xs/\k=!xs.isEmpty)\/∃ ν,H p≈(.dK ν)/\k=!ν.isEmpty:=e
  rcases e' with⟨xs,hx,e'⟩ | ⟨xs,hx,e'⟩ | ⟨ν,hx,e'⟩
  ·subst e';obtain⟨η,r,pl,hz⟩:=I.list hx;have hlen:=↑r;exact wpAny_truthy_list pl.isList (by simp only[Yk];omega) ⟨H,I.tok _,by rw[j5 r];exact q⟩
  ·subst e';obtain⟨η,r,pl,hz⟩:=I.tuple hx;have hlen:=↑r;exact truthy_tuple pl (by simp only[Yk];omega) ⟨H,I.tok _,by rw[j5 r];exact q⟩
  ·subst e';obtain⟨hz,hS,vs,r,m⟩:↑ν<=sizeLine/\(p == sysModules)=false/\∃ vs,KV ν vs/\s.heap.DictOf (BV X.prog X.w) p vs:=I.hok p _ hx;have hlen:↑ν=↑vs:=BO r;exact wpAny_truthy_dict hS m (by omega) ⟨H,I.tok _,by rw[vM r];exact q⟩
 | _=>exact(show False from e).elim
def Z3(ha:PE X a ta)(he:∀ whole,isTrue a X.env whole=(do let v <- whole;standAt a.pos;holding [v] (truthy v))):
  PT X a (λσ H Q=>ta σ H λx H'=>∃ k,n8 X.K x H' k/\Q k H'):=by
 ac_rfl;exact isTrue_plain (AH (ha π s σ H _ I h) λv s1 ⟨x,H1,I1,r1,q1⟩=>zc π s1 σ H1 x v Q I1 r1 q1) (he _)
def vg:BP X (binaryOp .Add) (λx y H Q=>∃ i j,x=.str i/\y=.str j/\↑i + ↑j<=sizeLine/\Q (.str (i++j)) H):=by
 exfalso;obtain⟨i,j,rfl,rfl,hz,q⟩:=h;obtain⟨t,rfl⟩:=rx;obtain⟨t',rfl⟩:=ry;exact add_str (λt' tk=>⟨.str (i++j),H,I.tok _,⟨Z⟩,q⟩) hz
def Ga{x:V}{us:LU}(r:AR [x] us):∃ u,us=[u]/\AW x u:=by
 cases r with
 | cons r1 r2=>cases r2;exact⟨Z,r1⟩
def mL{x y:V}{us:LU}(r:AR [x,y] us):∃ u w',us=[u,w']/\AW x u/\AW y w':=by
 cases r with
 | cons r1 r2 =>
  cases r2 with
  | cons r3 r4=>cases r4;exact⟨_,Z,r1,r3⟩
def nj(K:Fg)(x:V)(H:Hp)(n:Nat):Prop :=
 match x with
 | .str y=>↑y<=sizeLine/\n=↑y
 | .byt y=>y.size<=sizeLine/\n=y.size
 | .ref p=>(∃ xs,AD K H p xs/\n=↑xs)\/∃ xs,AJ K H p xs/\n=↑xs
 | _=>False
def Ms:Em X (.builtin "len") (λxs H Q=>∃ x n,xs=[x]/\nj X.K x H n/\Q (.int n) H):=by
 intro π s σ H xs us Q I r h;obtain⟨x,n,rfl,e,q⟩:=h;obtain⟨u,rfl,rx⟩:=Ga r;have hl:=Mq;have hs:sizeLine=16777216:=sizeLine_eq;cases x with
 | str y =>
  obtain⟨t,rfl⟩:=rx;obtain⟨hy,e'⟩:↑y<=sizeLine/\n=↑y:=e;subst e';exact len_str (by omega) ⟨.int _,H,I.tok _,⟨Z⟩,q⟩
 | byt y =>
  obtain⟨t,rfl⟩:=rx;obtain⟨hy,e'⟩:y.size<=sizeLine/\n=y.size:=e;subst e';exact W.len_bytes (by omega) ⟨.int _,H,I.tok _,⟨Z⟩,q⟩
 | ref p =>
  cases rx;have e':(∃ xs,AD X.K H p xs/\n=↑xs)\/∃ xs,AJ X.K H p xs/\n=↑xs:=e
  rcases e' with⟨xs,hx,e'⟩ | ⟨xs,hx,e'⟩
  ·subst e';obtain⟨η,r',pl,hz⟩:=I.list hx;have hlen:=↑r';exact Calls.call_len_list pl.isList (by simp only[Yk];omega) ⟨.int ↑xs,H,I.tok _,⟨_,by simp only[Yk];rw[hlen]⟩,q⟩
  ·subst e';obtain⟨η,r',pl,hz⟩:=I.tuple hx;have hlen:=↑r';exact len_tuple pl (by simp only[Yk];omega) ⟨.int ↑xs,H,I.tok _,⟨_,by simp only[Yk];rw[hlen]⟩,q⟩
 | _=>exact(show False from e).elim
end
structure NB(h:Heap)(x dx C:χ)(mA:Str->OU):Prop where
 obj:h.get? x≈(W.instObj C dx)
 ns:h.Ns1 dx mA
 ne:dx≠x
def jj{h:Heap}{dx:χ}{mA:Str->OU}(n:h.Ns1 dx mA):∃ od,h.get? dx≈od/\∀ name,W.lookIn name od≈(mA name):=by
 obtain⟨o,es,ep,ho,hd,hk,_,hm⟩:=n;refine⟨o,ho,λname=>?_⟩;have e:=hm name;unfold nsFind findBy at e;rw[<- Array.find?_toList]at e;unfold W.lookIn;rw[hd];dsimp only;split
 ·rename_i y q
  rw[q]at e;exact congrArg some e
 ·rename_i q
  rw[q]at e;have a:es.toList.any (·.refKey)=false:=by
   rw[SU];intro y hy;obtain⟨z,t,hkey⟩:=hk y (Array.mem_toList_iff.mp hy);simp[DictEntry.refKey,hkey]
  have a':¬ es.toList.any (·.refKey)=true:=by rw[a];exact Yh
  rw[if_neg a'];exact congrArg some e
def NB.look{h:Heap}{x dx C:χ}{mA:Str->OU}(I:NB h x dx C mA):∃ od,W.InstAt h x (W.instObj C dx) C (↥od)/\∀ name,W.lookIn name od≈(mA name):=
 let⟨od,ho,hl⟩:=jj I.ns
 ⟨od,⟨I.obj,Y,Y,ho⟩,hl⟩
section
variable {prog:Δ}{w:World}{A:Around}{E:EV}{s:Γ}{K:Fg}{x dx C f:χ}{mA:Str->OU}{name:Str}{v:ω}
def zq{expr:Bool}{Q:EV}(X:K.In s.heap)(I:NB s.heap x dx C mA)(hg:W.plainGet K C name=true)(hh:W.hasDictIn K C=true)
  (ha:W.findIn K (.ref C) name≈none) (hv:mA name≈v) (qN:W.handedIn v=true) (h:Q v {s with toks:=s.toks + 1}):
  wpAny (model prog w) A (getAttr (.ref x) name expr) Q E s:=by
 obtain⟨od,J,hl⟩:=I.look;exact W.get_value X J (W.plainGet_of hg).1 (W.findObj_own hh ha rfl (by rw[hl,hv])) qN h
def qz{pl:Sem Bool}{Q:ω×LU->Γ->Prop}(X:K.In s.heap)(I:NB s.heap x dx C mA)(hg:W.plainGet K C name=true)
  (hf:W.findIn K (.ref C) name≈(↥(.ref f))) (ht:W.isFn K (.ref f)=true) (hv:mA name=none) (h:Q (.ref f,[.ref x]) s):
  wpAny (model prog w) A (getMethod (.ref x) name pl) Q E s:=by
 obtain⟨od,J,hl⟩:=I.look;exact W.method_fn X J (W.plainGet_of hg).1 (W.plainGet_of hg).2 hf (beq_iff_eq.mp ht) (by show(W.lookIn name od).map (·.isSome)≈false;rw[hl,hv];rfl) h
def Z1w{ns:LS}{Q:Unit->Γ->Prop}(X:K.In s.heap)(I:NB s.heap x dx C mA)
  (hs:W.findIn K (.ref C) "__setattr__"≈(↥(.builtin "object.__setattr__"))) (hp:W.plainOver K C=true) (ht:W.takerIn K C name≈none) (hh:W.hasDictIn K C=true)
  (hw:PySem.Within mA ns) (hsz:↑ns<=sizeLine)
  (h:∀ h',NB h' x dx C (λy=>if y=name then ↥v else mA y)->Heap.SameBut dx s.heap h'->Q () {s with heap:=h',toks:=s.toks + 2}):
  wpAny (model prog w) A (setAttr (.ref x) name v) Q E s:=by
 obtain⟨od,J,hl⟩:=I.look;refine W.set_plain X J hs (W.osa_open (s:={s with toks:=s.toks + 1}) (r:=none) X J hp ht λb=>?_);obtain⟨cd,hc,BX⟩:=W.any_some hh;have hx:s.heap.get? x≈⟨.ref C,↥dx,.plain,#[]⟩:=I.obj;refine Ja (Jd (Ja (Ja (wpAny_loadPart hx (Ja (W.Looks.here (s:={s with toks:=s.toks + 1}) (W.looks_clsIn X hc) ?_))))));rw[BX];refine Jd (a:=↥dx) (Ja (Jd (Ja ?_)));refine wpAny_nsSet1 (s:={s with toks:=s.toks + 1}) I.ns λh' Vc DK=>?_;obtain⟨oD,esD,epD,hoD,hdD,hcD⟩:=Vc.count (PySem.Within.cons name v hw);refine Ja (wpAny_lookBehind hoD (by rw[hdD];exact pastItsLine_dict (Yq hcD (by rw[Bt];omega))) ?_);exact Jd (h _ ⟨(DK.2 _ (Ae I.ne)).trans I.obj,Vc,I.ne⟩ DK)
def rE{R:Result->Γ->Prop}{vs:LU}{kw:List (Str×ω)}(X:K.In s.heap)(hm:W.makesIn K C=true)
  (hi:W.findIn K (.ref C) "__init__"≈(↥(.ref f))) (hf:W.typeIn K (.ref f)≈(.type "function"))
  (h:codeAny (model prog w) (A.under (.builtin "type.__call__" ⟨.ref C :: vs,kw⟩)) (.call (.ref f) ⟨.ref (⇑s + 1):: vs,kw⟩) (W.InitBack (⇑s + 1) R)
   {s with heap:=(s.heap.push W.emptyDict).push (W.instObj C ⇑s) }):
  codeAny (model prog w) A (.call (.ref C) ⟨vs,kw⟩) R s:=by
 obtain⟨hh,g,d,t,os⟩:=s;exact W.make_core (W.makes_of X hm) (W.looks_findIn X hi) (λself=>W.bind_fn X self hf) (.inl rfl) h
end
def BZ(f:Str)(v:V):List (Str×V)->List (Str×V)
 | []=>[(f,v)]
 | (g,x):: r=>if g=f then(g,v):: r else(g,x):: BZ f v r
theorem EA(f g:Str)(v:V):∀ fs:List (Str×V),(BZ f v fs).lookup g=if g=f then ↥v else fs.lookup g
 | []=>by
  show List.lookup g [(f,v)]=_;by_cases h:g=f
  ·have hb:(g == f)=true:=beq_iff_eq.mpr h;simp only[List.lookup,hb,if_pos h]
  ·have hb:(g == f)=false:=Lj.mpr h;simp only[List.lookup,hb,if_neg h]
 | (k,x):: r=>by
  have ih:=EA f g v r;rw[show BZ f v ((k,x):: r)=(if k=f then(k,v):: r else(k,x):: BZ f v r)from rfl];by_cases hk:k=f
  ·rw[if_pos hk];by_cases h:g=k
   ·have hb:(g == k)=true:=beq_iff_eq.mpr h;simp only[List.lookup,hb,if_pos (h.trans hk)]
   ·have hb:(g == k)=false:=Lj.mpr h;simp only[List.lookup,hb,if_neg (λe:g=f=>h (e.trans hk.symm))]
  ·rw[if_neg hk];by_cases h:g=k
   ·have hb:(g == k)=true:=beq_iff_eq.mpr h;simp only[List.lookup,hb,if_neg (λe:g=f=>hk (h.symm.trans e))]
   ·have hb:(g == k)=false:=Lj.mpr h;simp only[List.lookup,hb];exact ih
theorem aE(f:Str)(v:V):∀ fs:List (Str×V),f∈(BZ f v fs).map (·.1)/\∀ g,g∈fs.map (·.1)->g∈(BZ f v fs).map (·.1)
 | []=>⟨by simp[BZ],λg h=>by simp at h⟩
 | (k,x):: r=>by
  obtain⟨i1,i2⟩:=aE f v r;rw[show BZ f v ((k,x):: r)=(if k=f then(k,v):: r else(k,x):: BZ f v r)from rfl];by_cases hk:k=f
  ·rw[if_pos hk];subst hk;exact⟨by simp,λg h=>by simpa using h⟩
  ·rw[if_neg hk];refine⟨?_,λg h=>?_⟩
   ·rw[Ys];exact DX _ i1
   ·rw[Ys]at h ⊢
    rcases Bj.mp h with e | e
    ·exact Bj.mpr (.inl e)
    ·exact DX _ (i2 g e)
theorem kU(f:Str)(v:V):∀ fs:List (Str×V),↑(BZ f v fs)<=↑fs + 1
 | []=>by simp[BZ]
 | (k,x):: r=>by
  have ih:=kU f v r;rw[show BZ f v ((k,x):: r)=(if k=f then(k,v):: r else(k,x):: BZ f v r)from rfl];by_cases hk:k=f
  ·rw[if_pos hk,Bt,Bt];omega
  ·rw[if_neg hk,Bt,Bt];omega
def CZ.some_of{v:V}{o:OU}(r:CZ (↥v) o):∃ u,o≈u/\AW v u:=by
 cases o with
 | none=>exact(show False from r).elim
 | some u=>exact⟨u,Y,r⟩
def CZ.none_of{o:OU}(r:CZ none o):o=none:=by
 cases o with
 | none=>rfl
 | some u=>exact(show False from r).elim
def jM{v:V}{u:ω}(r:AW v u):W.handedIn u=true:=by
 cases v with
 | non=>cases(show u=Value.none from r);rfl
 | bl b=>cases(show u=Value.bool b from r);rfl
 | int i=>obtain⟨t,e⟩:=(show ∃ t,u=Value.int i t from r);cases e;rfl
 | str x=>obtain⟨t,e⟩:=(show ∃ t,u=Value.str x t from r);cases e;rfl
 | byt b=>obtain⟨t,e⟩:=(show ∃ t,u=Value.bytes b t from r);cases e;rfl
 | flt b=>obtain⟨t,e⟩:=(show ∃ t,u=Value.float b t from r);cases e;rfl
 | ref a=>cases(show u=Value.ref a from r);rfl
 | ty n=>cases(show u=Value.type n from r);rfl
section
variable {P:Δ}{w:World}{H H':Hp}{h h':Heap}{a C dx:χ}{fs B4:List (Str×V)}
def ZX(hok:BF P w H h)(e:H a≈(.ins C dx fs)):∃ mA,NB h a dx C mA/\(∀ f,CZ (fs.lookup f) (mA f))/\PySem.Within mA (fs.map (·.1))/\↑fs<=1000/\H dx≈(.own a):=by
 obtain⟨d,z,ne,ob,mA,n,r,q⟩:=(show A1 P w H h a (.ins C dx fs)from hok a _ e);exact⟨mA,⟨ob,n,ne⟩,r,q,z,d⟩
end
structure Fw(K:Fg)(C:χ):Prop where
 pg:W.plainGet K C Str.empty=true
 hd:W.hasDictIn K C=true
 po:W.plainOver K C=true
 sa:W.findIn K (.ref C) "__setattr__"≈(↥(.builtin "object.__setattr__"))
def Fw.get{K:Fg}{C:χ}(c:Fw K C)(f:Str):W.plainGet K C f=true:=c.pg
def Gh(K:Fg)(C:χ)(f:Str):Prop:=W.findIn K (.ref C) f≈none
def Gh.taker{K:Fg}{C:χ}{f:Str}(n:Gh K C f):W.takerIn K C f≈none:=by
 unfold W.takerIn;rw[show W.findIn K (.ref C) f≈none from n];rfl
structure Con(K:Fg)(C:χ)(f:Str)(v:V)(u:ω):Prop where
 at_:W.findIn K (.ref C) f≈(↥u)
 rel:AW v u
 get:W.specialIn K u "__get__"≈none
 cp:W.copiedNames.contains f=false
structure XA(K:Fg)(C:χ)(m:Str)(f:χ):Prop where
 at_:W.findIn K (.ref C) m≈(↥(.ref f))
 fn:W.isFn K (.ref f)=true
 kp:W.keepIn K (.ref f)=true
section
variable {X:Cx}{π:PL}{σ:St}{H:Hp}{s:Γ}{a C dx:χ}{fs:List (Str×V)}{f:Str}{v:V}{A:Around}{E:EV}
def vL{b:Bool}{Q:EV}(I:Inv X π σ H s)(e:H a≈(.ins C dx fs))(c:Fw X.K C)(n:Gh X.K C f)(l:fs.lookup f≈v)
  (h:∀ u s',Inv X π σ H s'->AW v u->Q u s'):wpAny (model X.prog X.w) A (getAttr (.ref a) f b) Q E s:=by
 obtain⟨mA,O,r,_,_,_⟩:=ZX I.hok e;obtain⟨u,hu,ru⟩:=CZ.some_of (v:=v) (o:=mA f) (by rw[<- l];exact r f);exact zq I.kIn O (c.get f) c.hd n hu (jM ru) (h u _ (I.tok _) ru)
def j3{m:Str}{g:χ}{pl:Sem Bool}{Q:ω×LU->Γ->Prop}(I:Inv X π σ H s)(e:H a≈(.ins C dx fs))(c:Fw X.K C)(k:XA X.K C m g)(l:fs.lookup m=none)
  (h:Q (.ref g,[.ref a]) s):wpAny (model X.prog X.w) A (getMethod (.ref a) m pl) Q E s:=by
 obtain⟨mA,O,r,_,_,_⟩:=ZX I.hok e;have hn:mA m=none:=CZ.none_of (by rw[<- l];exact r m);exact qz I.kIn O (c.get m) k.at_ k.fn hn h
def vt{y:V}{u:ω}{Q:Unit->Γ->Prop}(I:Inv X π σ H s)(e:H a≈(.ins C dx fs))(c:Fw X.K C)(n:Gh X.K C f)(hl:↑fs<1000)(ry:AW y u)
  (h:∀ s',Inv X π σ (upd H a (.ins C dx (BZ f y fs))) s'->Q () s'):wpAny (model X.prog X.w) A (setAttr (.ref a) f u) Q E s:=by
 obtain⟨mA,O,r,wi,_,ho⟩:=ZX I.hok e;have hz:↑(fs.map (·.1))<=sizeLine:=by rw[Ya,sizeLine_eq];omega
 refine Z1w I.kIn O c.sa c.po n.taker c.hd wi hz λh' O' sb=>h _ ?_;have hd:∃ o,h'.get? dx≈o:=let⟨o,_,_,e',_⟩:=O'.ns;⟨o,e'⟩;refine I.write (x:=a) (e:=dx) (by rw[e];exact True.intro) (.inr ho) (λb q hb z=>(sb.2 b hb).trans z) hd ?_;refine⟨by rw[AE O.ne];exact ho,?_,O.ne,O'.obj,_,O'.ns,λg=>?_,λg hg=>?_⟩
 ·have:=kU f y fs;omega
 ·show CZ ((BZ f y fs).lookup g) (if g=f then ↥u else mA g);rw[EA];by_cases q:g=f
  ·rw[if_pos q,if_pos q];exact ry
  ·rw[if_neg q,if_neg q];exact r g
 ·by_cases q:g=f
  ·rw[q];exact(aE f y fs).1
  ·refine(aE f y fs).2 g (wi g λz=>hg ?_);show(if g=f then ↥u else mA g)=none;rw[if_neg q];exact z
def Inv.made(I:Inv X π σ H s):Inv X π σ (upd (upd H ⇑s (.own (⇑s + 1))) (⇑s + 1) (.ins C ⇑s []))
  {s with heap:=(s.heap.push W.emptyDict).push (W.instObj C ⇑s) }:=by
 have e1:(s.heap.push W.emptyDict).get? ⇑s≈W.emptyDict:=Ye s.heap rfl;have e2:((s.heap.push W.emptyDict).push (W.instObj C ⇑s)).get? (⇑s + 1)≈(W.instObj C ⇑s):=by
  have:=Ye (s.heap.push W.emptyDict) (o:=W.instObj C ⇑s) rfl
  rwa [C6]at this
 have e3:(s.heap.push W.emptyDict).Ns ⇑s (λ_=>none):=⟨W.emptyDict,#[],_,e1,Y,(λe he=>absurd he (by simp)),λ_=>rfl⟩;have I1:=I.laid (a:=⇑s) (o:=.own (⇑s + 1)) (h':=s.heap.push W.emptyDict) (t':=s.toks) (λb u q=>Yb _ q) (Yd _) ⟨_,e1⟩;refine I1.laid (a:=⇑s + 1) (o:=.ins C ⇑s []) (t':=s.toks) (λb u q=>Yb _ q) (Nat.le_of_eq (C6 _ _)) ?_;have ne:⇑s≠⇑s + 1:=Yl (Nat.lt_succ_self _);refine⟨by rw[AE ne,uS],Bm _,ne,e2,λ_=>none,(Heap.Ns1.of_empty e3).at λo q=>Yb _ q,λ_=>True.intro,λy hy=>absurd rfl hy⟩
def gh{prog:Δ}{w:World}{env:Env}{e:Expr}{f:Str}{pos:Pos}{s:Γ}{Q:EV}(hb:attributeBase e f env (eval e env)=eval e env)
  (h:wpAny (model prog w) A (eval e env) (λo s₁=>wpAny (model prog w) A (getAttr o f true) Q E s₁) E s):wpAny (model prog w) A (eval (.Attribute e f pos) env) Q E s :=
 Attribute_any_ h (by rw[arm_eval_Attribute,hb])
end
def Ya4(K:Fg)(ta:TE)(f:Str):TE:=λσ H Q=>ta σ H λx H1=>∃ a C dx fs v,x=.ref a/\H1 a≈(.ins C dx fs)/\Fw K C/\Gh K C f/\fs.lookup f≈v/\Q v H1
def Ybp(K:Fg)(ta tv:TE)(f:Str):TS:=λD σ H=>tv σ H λy H1=>ta σ H1 λx H2=>∃ a C dx fs,x=.ref a/\H2 a≈(.ins C dx fs)/\Fw K C/\Gh K C f/\↑fs<1000 /\
 D.nx σ (upd H2 a (.ins C dx (BZ f y fs)))
section
variable {X:Cx}{o e value:Expr}{f:Str}{pos pos' C_:Pos}{ta tv:TE}
def Er(he:PE X e ta)(hb:attributeBase e f X.env (eval e X.env)=eval e X.env):PE X (.Attribute e f pos) (Ya4 X.K ta f):=by
 ac_rfl;refine gh hb (AH (he π s σ H _ I h) λu s1 ⟨x,H1,I1,rx,a,C,dx,fs,v,ex,ea,c,n,l,q⟩=>?_);subst ex;obtain rfl:u=Value.ref a:=rx;exact vL I1 ea c n l λu' s2 I2 ru=>⟨v,H1,I2,ru,q⟩
def RY(ha:PE X o ta)(hv:PE X value tv)(hs:swapsWith value (↥(.Attribute o f pos')) pos.line X.env=pure false):PS X (.Assign [.Attribute o f pos'] value pos) (Ybp X.K ta tv f):=by
 intro π s σ H D I h;refine plainObj_wpAny_Assign_Attribute (AH (hv π s σ H _ I h) λu s1 ⟨y,H1,I1,ry,q⟩=>AH (ha π s1 σ H1 _ I1 q) λov s2 ⟨x,H2,I2,rx,a,C,dx,fs,ex,ea,c,n,l,q2⟩=>?_) hs;subst ex;obtain rfl:ov=Value.ref a:=rx;exact vt I2 ea c n l ry λs3 I3=>⟨σ,_,I3,q2⟩
end
section
variable {X:Cx}{π:PL}{σ:St}{H:Hp}{s:Γ}{A:Around}{E:EV}{Q:EV}{c:ω}{b:Bool}
inductive GJ(K:Fg)(H:Hp):V->ω->Prop where
 | non:GJ K H .non (.type "NoneType")
 | bl (x:Bool):GJ K H (.bl x) (.type "bool")
 | int (i:Int):GJ K H (.int i) (.type "int")
 | str (x:Str):GJ K H (.str x) (.type "str")
 | flt (x:UInt64):GJ K H (.flt x) (.type "float")
 | lst {a:χ} {xs:LV} (e:H a≈(.lst xs)):GJ K H (.ref a) (.type "list")
 | frz {a:χ} {o:Obj} {xs:LV} (e:H a≈(.frz o (.lst xs))):GJ K H (.ref a) (.type "list")
 | tup {a:χ} {xs:LV} (e:H a≈(.tup xs)):GJ K H (.ref a) (.type "tuple")
 | dK {a:χ} {ν:KL} (e:H a≈(.dK ν)):GJ K H (.ref a) (.type "dict")
 | dT {a:χ} {ν:List (List Key×V)} (e:H a≈(.dT ν)):GJ K H (.ref a) (.type "dict")
 | ins {a C dx:χ} {fs:List (Str×V)} (e:H a≈(.ins C dx fs)) (cl:Fw K C) (ha:W.findIn K (.ref C) "__class__"≈(↥(.builtin "object.__class__")))
   (hn:W.specialIn K (.builtin "object.__class__") "__get__"≈(↥(.builtin "getset_descriptor.__get__"))) (htk:W.takesIn K (.builtin "object.__class__")≈true)
   (hm:W.mroIn K C (.type "object")≈true):GJ K H (.ref a) (.ref C)
end
structure AX(k:Nat)(A:Around):Prop where
 hd:A.handled=none
 dp:A.depth + 3 * k + 5<recursionLimit
 un:A.units + 16 * k + 200<cLine
 gd:A.guards≈[]
def AX.mono{j k:Nat}{A:Around}(r:AX k A)(h:j<=k):AX j A:=⟨r.hd,by have:=r.dp;omega,by have:=r.un;omega,r.gd⟩
theorem AX.deeper{k:Nat}{A:Around}(r:AX (k + 1) A)(env:Env):AX k (A.deeper env):=
 ⟨r.hd,by have:=r.dp;show A.depth + 1 + 3 * k + 5<_;omega,by have:=r.un;show A.units + 3 + 16 * k + 200<_;omega,r.gd⟩
def vQ{A:Around}{C:χ}{us:LU}{kw:List (Str×ω)}:(A.under (.builtin "type.__call__" ⟨.ref C :: us,kw⟩)).depth=A.depth + 1:=by
 first | rfl | simp[Around.under,Code.weight,Code.isCreation,Code.isGuard,Code.isCaller,Code.frames,Code.isFrame,guardIds]
def vR{A:Around}{C:χ}{us:LU}{kw:List (Str×ω)}:(A.under (.builtin "type.__call__" ⟨.ref C :: us,kw⟩)).units=A.units + 1:=by
 first | rfl | simp[Around.under,Code.cUnits,Code.frames,Code.isFrame]
def AX.make{k:Nat}{A:Around}(r:AX (k + 1) A)(C:χ)(us:LU)(kw:List (Str×ω)):AX k (A.under (.builtin "type.__call__" ⟨.ref C :: us,kw⟩)):=
 ⟨r.hd,by have:=r.dp;rw[vQ];omega,by have:=r.un;rw[vR];omega,by first | exact r.gd | simpa[Around.under,Code.guards,Code.isGuard,guardIds,pushGuards]using r.gd⟩
theorem AX.depth{k:Nat}{A:Around}(r:AX k A):A.depth<recursionLimit:=by have:=r.dp;omega
theorem AX.units{k:Nat}{A:Around}(r:AX k A):A.units + 64<cLine:=by have:=r.un;omega
def LL:TA:=λ_ H Q=>Q [] H
def Kp(ta:TE)(tr:TA):TA:=λσ H Q=>ta σ H λx H1=>tr σ H1 λxs H2=>Q (x :: xs) H2
section
variable {X:Cx}{e:Expr}{es:ε}{te:TE}{t:TA}{pos:Pos}
def AB:PA X [] LL:=λ_ _ _ _ H Q I h=>QU ⟨[],H,I,.nil,h⟩
def pC(ha:PE X e te)(hr:PA X es t)(hs:starEach (e :: es) X.env=(false,eval e X.env):: starEach es X.env:=by rfl):PA X (e :: es) (Kp te t):=by
 intro pos π s σ H Q I h;rw[hs];show wpAny _ _ (spliced ((false,eval e X.env):: backTo pos (starEach es X.env))) _ _ s;refine QX (AH (ha π s σ H _ I h) λu s1 ⟨x,H1,I1,r1,q1⟩=>?_);exact AH (hr pos π s1 σ H1 _ I1 q1) λus s2 ⟨xs,H2,I2,r2,q2⟩=>⟨x :: xs,H2,I2,.cons r1 r2,q2⟩
def lP(t:TA):TE:=λσ H Q=>t σ H λxs H1=>↑xs<=sizeLine/\∀ p,H1 p=none->Q (.ref p) (upd H1 p (.tup xs))
def Ya2(t:TA):TE:=λσ H Q=>t σ H λxs H1=>↑xs<=sizeLine/\∀ p,H1 p=none->Q (.ref p) (upd H1 p (.lst xs))
def C2{x1}(h:PA X es t):PE X (.Tuple es x1 pos) (lP t):=by
 intro π s σ H Q I hq;refine wpAny_Tuple_spliced (AH (h pos π s σ H _ I hq) λus s1 ⟨xs,H1,I1,r,z,q⟩=>⟨by rw[<- ↑r];exact z,?_⟩);have hf:H1 ⇑s1=none:=I1.hok.fresh (Yd _);refine⟨.ref ⇑s1,upd H1 ⇑s1 (.tup xs),I1.laid (t':=s1.toks) (λb u e=>Yb _ e) (Yd _) ?_,Y,q _ hf⟩;exact⟨z,us,r,⟨_,Ye _ rfl,Y,Z⟩⟩
def C1(h:PA X es t):PE X (.List es pos) (Ya2 t):=by
 intro π s σ H Q I hq;refine wpAny_List_spliced (AH (h pos π s σ H _ I hq) λus s1 ⟨xs,H1,I1,r,z,q⟩=>⟨by rw[<- ↑r];exact z,?_⟩);have hf:H1 ⇑s1=none:=I1.hok.fresh (Yd _);refine⟨.ref ⇑s1,upd H1 ⇑s1 (.lst xs),I1.laid (t':=s1.toks) (λb u e=>Yb _ e) (Yd _) ?_,Y,q _ hf⟩;exact⟨z,us,0,r,Ye _ rfl⟩
end
abbrev Sp:=LV->Hp->VK->XK->Prop
abbrev EZ:=List Env->Hp->Γ->XK->ω->Γ->Prop
structure Ec(P:Δ)(w:World)(K:Fg)(mg:Str->OU)(base:Heap)(A:Around)(outer:List Env)(s:Γ)(H:Hp):Prop where
 frames:A.frames≈outer
 mod:Mod K mg base
 bs:∀ b o,base.get? b≈o->s.heap.get? b≈o/\H b=none
 bsz:base.objs.size<=⇑s
 funs:s.heap.FunFrames base outer
 frf:∀ b∈CB outer,H b=none
 hok:BF P w H s.heap
 bare:AllBare s.gens
def CE(outer:List Env)(P:Δ)(w:World)(H:Hp)(s:Γ)(Q:VK)(u:ω)(s':Γ):Prop :=
 ∃ v H',s'.os=s.os/\AllBare s'.gens/\Un (CB outer) [] H H' s.heap s'.heap/\BF P w H' s'.heap/\AW v u/\Q v H'
def CR(CX:EZ)(outer:List Env)(P:Δ)(w:World)(H:Hp)(s:Γ)(Q:VK)(E:XK)(r:Result)(s':Γ):Prop :=
 match r with
 | .ok (.ret u)=>CE outer P w H s Q u s'
 | .ok _=>False
 | .error e=>CX outer H s E e s'
structure AN(P:Δ)(w:World)(K:Fg)(mg:Str->OU)(base:Heap)(CX:EZ)(k:Nat)(f:χ)(fd:FuncData)(ps:LS)(sp:Sp):Prop where
 len:∀ vs H Q E,sp vs H Q E->↑vs=↑ps
 run:∀(A:Around) (outer:List Env) (s:Γ) (H:Hp) (args:Args) (us:LU) (vs:LV) (Q:VK) (E:XK),AX k A->Ec P w K mg base A outer s H->BindsTo s fd args (ps.zip us)->AR vs us->sp vs H Q E ->
  codeAny (model P w) A (.call (.ref f) args) (CR CX outer P w H s Q E) s
theorem AN.mono{P:Δ}{w:World}{K:Fg}{mg:Str->OU}{base:Heap}{CX:EZ}{j k:Nat}{ps:LS}{sp:Sp}(F:AN P w K mg base CX j f fd ps sp)(h:j<=k):
  AN P w K mg base CX k f fd ps sp:=⟨F.len,λA outer s H args us vs Q E hr=>F.run A outer s H args us vs Q E (hr.mono h)⟩
def Ec.make{P:Δ}{w:World}{K:Fg}{mg:Str->OU}{base:Heap}{A:Around}{outer:List Env}{s:Γ}{H:Hp}(e:Ec P w K mg base A outer s H)(C:χ)(us:LU)(kw:List (Str×ω)):
  Ec P w K mg base (A.under (.builtin "type.__call__" ⟨.ref C :: us,kw⟩)) outer s H:=⟨by first | exact e.frames | (simpa[Around.under,Code.envs,Code.isFrame,pushEnvs]using e.frames),e.mod,e.bs,e.bsz,e.funs,e.frf,e.hok,e.bare⟩
section
variable {X:Cx}{π:PL}{σ:St}{H:Hp}{s s':Γ}
def Inv.env0(I:Inv X π σ H s):Ec X.prog X.w X.K X.mg X.base X.A X.stack s H :=
 ⟨I.ok.frames,I.ok.mod,I.bs,Yq I.ok.bsz I.sz,I.stack,I.stkFree,I.hok,I.bare⟩
def Inv.after{Q:VK}{u:ω}(I:Inv X π σ H s)(h:CE X.stack X.prog X.w H s Q u s'):EP X π σ Q u s':=by
 obtain⟨v,H',os,bare,un,hok,r,q⟩:=h;obtain⟨hh,g,d,t,pV⟩:=s';obtain rfl:pV=s.os:=os;exact⟨v,H',I.call (h':=hh) (g':=g) (d':=d) (t':=t) (ch:=[]) un hok bare (λb z=>absurd z (by simp)),r,q⟩
end
def Vu(sp:Sp)(CN:LV)(E:XK)(t:TA):TE:=λσ H Q=>t σ H λvs H1=>sp (vs++CN) H1 Q E
def mI(C:χ)(m:Str)(sp:Sp)(CN:LV)(E:XK)(ta:TE)(t:TA):TE:=λσ H Q=>ta σ H λx H1=>∃ a dx fs,x=.ref a/\H1 a≈(.ins C dx fs)/\fs.lookup m=none /\
 t σ H1 λvs H2=>sp (x :: (vs++CN)) H2 Q E
def yS(C:χ)(sp:Sp)(CN:LV)(E:XK)(t:TA):TE:=λσ H Q=>t σ H λvs H1=>∀ x dx,H1 x=none->H1 dx=none->dx≠x ->
 sp (.ref x :: (vs++CN)) (upd (upd H1 dx (.own x)) x (.ins C dx [])) (λv H2=>v=.non/\Q (.ref x) H2) E
def CC(K:Fg)(fd:FuncData)(ps:LS)(ds:LU):Prop :=
 ∀(s:Γ) (us:LU),K.In s.heap->↑(us++ds)=↑ps->BindsTo s fd ⟨us,[]⟩ (ps.zip (us++ds))
def CC.all{K:Fg}{ps:LS}(h:∀ us:LU,↑us=↑ps->bindArgs fd ⟨us,[]⟩=pure (ps.zip us)):CC K fd ps []:=λs us _ hl=>by
 rw[EE]at hl ⊢;exact .of_eq (h us hl)
def Kr(CX:EZ)(X:Cx)(E:XK):Prop:=∀(π:PL) (σ:St) (H:Hp) (s:Γ) (e:ω) (s':Γ),Inv X π σ H s->CX X.stack H s E e s'->X.xe e s'
section
variable {X:Cx}{CX:EZ}{k:Nat}{f C:χ}{fd:FuncData}{ps:LS}{sp:Sp}{CN:LV}{ds:LU}{E:XK}{x m:Str}{p pos apos:Pos}{e o:Expr}{es:ε}{ta:TE}{t:TA}
def ZJ{π:PL}{σ:St}{H:Hp}{s:Γ}{Q:VK}{us:LU}{vs:LV}(F:AN X.prog X.w X.K X.mg X.base CX k f fd ps sp)(hr:AX k X.A)(hb:CC X.K fd ps ds)(hd:AR CN ds)(hx:Kr CX X E)
  (I:Inv X π σ H s) (r:AR vs us) (h:sp (vs++CN) H Q E):wpAny (model X.prog X.w) X.A (call (.ref f) us) (EP X π σ Q) X.xe s:=by
 have r2:AR (vs++CN) (us++ds):=r.append hd;have hl:↑(us++ds)=↑ps:=by rw[<- ↑r2];exact F.len _ _ _ _ h
 refine wpAny_call (codeAny_mono (F.run X.A X.stack s H ⟨us,[]⟩ (us++ds) (vs++CN) Q E hr I.env0 (hb s us I.kIn hl) r2 h) λr s' hq=>?_);cases r with
 | error e=>exact hx π σ H s e s' I hq
 | ok fl =>
  cases fl with
  | ret u=>exact I.after hq
  | next=>exact False.elim hq
  | brk=>exact False.elim hq
  | cont=>exact False.elim hq
def ZZ(F:AN X.prog X.w X.K X.mg X.base CX k f fd ps sp)(hr:AX k X.A)(hg:Gl X x)(hm:X.mg x≈(.ref f))(hk:W.keepIn X.K (.ref f)=true)(hb:CC X.K fd ps ds)(hd:AR CN ds)(hx:Kr CX X E)
  (ha:PA X (e :: es) t) (hdb:(x == ("__debug__":Str))=false:=by decide) (he:starEach (e :: es) X.env=(false,eval e X.env):: starEach es X.env:=by rfl) (hpl:(backTo pos (starEach es X.env)).any (·.1)=false:=by rfl):
  PE X (.Call (.Name x p) (e :: es) [] pos) (Vu sp CN E t):=by
 ac_rfl;refine wpAny_Call_Name_kw (Kw I hg hm ?_ hdb);refine W.callWith_K (h₀:=X.base) I.ok.mod.kin hk (AH (ha pos π s σ H _ I h) λus s1 ⟨vs,H1,I1,r,q⟩=>⟨I1.kIn,?_⟩) he hpl;exact ZJ F hr hb hd hx I1 r q
def Hz{pl:Sem Bool}(he:PE X o ta)(c:Fw X.K C)(hm:XA X.K C m f)(F:AN X.prog X.w X.K X.mg X.base CX k f fd ps sp)(hr:AX k X.A)(hb:CC X.K fd ps ds)(hd:AR CN ds)(hx:Kr CX X E)(ha:PA X (e :: es) t)
  (hst:starEach (e :: es) X.env=(false,eval e X.env):: starEach es X.env:=by rfl) (hpl:(backTo pos (starEach es X.env)).any (·.1)=false:=by rfl)
  (ht:eval (.Call (.Attribute o m apos) (e :: es) [] pos) X.env=(do
   let ov <- eval o X.env
   standAt apos.atName
   let(f,first) <- holding [ov] (getMethod ov m pl)
   callWith pos f first (backTo pos (starEach (e :: es) X.env)) (backToKw pos (keywordEach [] X.env))):=by rfl):
  PE X (.Call (.Attribute o m apos) (e :: es) [] pos) (mI C m sp CN E ta t):=by
 ac_rfl;refine W.methodCall_KW (pl:=pl) (AH (he π s σ H _ I h) λu s1 ⟨x,H1,I1,rx,a,dx,fs,ex,ea,l,q⟩=>?_) ht;subst ex;obtain rfl:u=Value.ref a:=rx;refine j3 I1 ea c hm l ?_;refine W.callWith_K (first:=[.ref a]) (h₀:=X.base) I.ok.mod.kin hm.kp (AH (ha pos π s1 σ H1 _ I1 q) λus s2 ⟨vs,H2,I2,r,q2⟩=>⟨I2.kIn,?_⟩) hst hpl;exact ZJ (us:=.ref a :: us) (vs:=.ref a :: vs) F hr hb hd hx I2 (.cons rfl r) q2
def Am{pl:Sem Bool}(he:PE X o ta)(c:Fw X.K C)(hm:XA X.K C m f)(F:AN X.prog X.w X.K X.mg X.base CX k f fd ps sp)(hr:AX k X.A)(hb:CC X.K fd ps ds)(hd:AR CN ds)(hx:Kr CX X E)
  (ht:eval (.Call (.Attribute o m apos) [] [] pos) X.env=(do
   let ov <- eval o X.env
   standAt apos.atName
   let(f,first) <- holding [ov] (getMethod ov m pl)
   callWith pos f first (backTo pos (starEach [] X.env)) (backToKw pos (keywordEach [] X.env))):=by rfl):
  PE X (.Call (.Attribute o m apos) [] [] pos) (mI C m sp CN E ta LL):=by
 ac_rfl;refine W.methodCall_KW (pl:=pl) (AH (he π s σ H _ I h) λu s1 ⟨x,H1,I1,rx,a,dx,fs,ex,ea,l,q⟩=>?_) ht;subst ex;obtain rfl:u=Value.ref a:=rx;refine j3 I1 ea c hm l ?_;exact W.callWith_K0 (first:=[.ref a]) I1.kIn hm.kp (ZJ (us:=[.ref a]) (vs:=[.ref a]) F hr hb hd hx I1 (.cons rfl .nil) q)
structure Mk(K:Fg)(C f:χ):Prop where
 makes:W.makesIn K C=true
 init:W.findIn K (.ref C) "__init__"≈(↥(.ref f))
 fn:W.isFn K (.ref f)=true
 kp:W.keepIn K (.ref C)=true
def tN{π:PL}{σ:St}{H:Hp}{s:Γ}{Q:VK}{us:LU}{vs:LV}(M:Mk X.K C f)(F:AN X.prog X.w X.K X.mg X.base CX k f fd ps sp)(hr:AX (k + 1) X.A)(hb:CC X.K fd ps ds)(hd:AR CN ds)
  (hx:Kr CX X E) (I:Inv X π σ H s) (r:AR vs us)
  (h:∀ x dx,H x=none->H dx=none->dx≠x->sp (.ref x :: (vs++CN)) (upd (upd H dx (.own x)) x (.ins C dx [])) (λv H2=>v=.non/\Q (.ref x) H2) E):
  wpAny (model X.prog X.w) X.A (call (.ref C) us) (EP X π σ Q) X.xe s:=by
 have hq:=h (⇑s + 1) ⇑s (I.hok.fresh (Ld _)) (I.hok.fresh (Yd _)) (Yl (Nat.lt_succ_self _));have I2:=Inv.made (C:=C) I;have r2:AR (V.ref (⇑s + 1):: (vs++CN)) (Value.ref (⇑s + 1):: (us++ds)):=.cons rfl (r.append hd);have hl:↑(Value.ref (⇑s + 1):: us++ds)=↑ps:=by
  have e:=↑r2;rw[F.len _ _ _ _ hq]at e;exact e.symm
 refine wpAny_call (rE (f:=f) I.kIn M.makes M.init (beq_iff_eq.mp M.fn) (codeAny_mono (F.run _ X.stack _ _ ⟨Value.ref (⇑s + 1):: us,[]⟩ (Value.ref (⇑s + 1):: (us++ds)) _ _ E (hr.make C us [])
  (I2.env0.make C us []) (hb _ (Value.ref (⇑s + 1):: us) I2.kIn hl) r2 hq) λr s' E_=>?_))
 cases r with
 | error e=>exact hx π σ _ _ e s' I2 E_
 | ok fl =>
  cases fl with
  | ret u =>
   obtain⟨v,H',I3,rv,ev,q3⟩:=I2.after E_;subst ev;exact⟨rv,⟨V.ref (⇑s + 1),H',I3,Y,q3⟩⟩
  | next=>exact False.elim E_
  | brk=>exact False.elim E_
  | cont=>exact False.elim E_
def hJ(M:Mk X.K C f)(F:AN X.prog X.w X.K X.mg X.base CX k f fd ps sp)(hr:AX (k + 1) X.A)(hg:Gl X x)(hm:X.mg x≈(.ref C))(hb:CC X.K fd ps ds)(hd:AR CN ds)(hx:Kr CX X E)
  (ha:PA X (e :: es) t) (hdb:(x == ("__debug__":Str))=false:=by decide) (he:starEach (e :: es) X.env=(false,eval e X.env):: starEach es X.env:=by rfl) (hpl:(backTo pos (starEach es X.env)).any (·.1)=false:=by rfl):
  PE X (.Call (.Name x p) (e :: es) [] pos) (yS C sp CN E t):=by
 ac_rfl;refine wpAny_Call_Name_kw (Kw I hg hm ?_ hdb);refine W.callWith_K (h₀:=X.base) I.ok.mod.kin M.kp (AH (ha pos π s σ H _ I h) λus s1 ⟨vs,H1,I1,r,q⟩=>⟨I1.kIn,?_⟩) he hpl;exact tN M F hr hb hd hx I1 r q
end
section
variable {X:Cx}{CX:EZ}{k:Nat}{f C:χ}{fd:FuncData}{ps ks:LS}{sp:Sp}{E:XK}{x m:Str}{p pos apos kpos:Pos}{e o:Expr}{es:ε}{kws:List Keyword}{te ta:TE}{t tk:TA}{nm:Option Str}
structure Yar(K:Fg)(fd:FuncData)(ps ks:LS)(g:LU->LU->LU)(gV:LV->LV->LV):Prop where
 to:∀(s:Γ) (us ws:LU),K.In s.heap->↑(g us ws)=↑ps->BindsTo s fd ⟨us,ks.zip ws⟩ (ps.zip (g us ws))
 rel:∀ {vs:LV} {us:LU} {zs:LV} {ws:LU},AR vs us->AR zs ws->AR (gV vs zs) (g us ws)
variable {g:LU->LU->LU}{gV:LV->LV->LV}
end
structure Ad(N P:LS)(sc:Scope):Prop where
 kind:sc.kind=.function
 co:sc.isCoroutine=false
 gen:sc.isGenerator=false
 nd:N.Nodup
 pre:N.take ↑P=P
 par:∀ x∈P,sc.names.lookup x≈.local\/sc.names.lookup x≈.cell
 nofree:∀ y∈sc.names,y.2≠.free
theorem jD{kindOf:Str->Option NameKind}{x:Str}:∀ {binds:List (Str×ω)}{m:Str->OU},(∀ v,(x,v)∉binds)->bindL kindOf binds m x=m x
 | [],_,_=>rfl
 | (n,v):: r,m,h=>by
  unfold bindL;rw[jD λw hw=>h w (DX _ hw)];split
  ·have:x≠n:=by rintro rfl;exact h v Di
   simp[this]
  ·rfl
theorem jT{kindOf:Str->Option NameKind}{x:Str}:∀ {binds:List (Str×ω)}{m:Str->OU},(∀ v,(x,v)∉binds)->bindC kindOf binds m x=m x
 | [],_,_=>rfl
 | (n,v):: r,m,h=>by
  unfold bindC;rw[jT λw hw=>h w (DX _ hw)];split
  ·rfl
  ·have:x≠n:=by rintro rfl;exact h v Di
   simp[this]
theorem jC{kindOf:Str->Option NameKind}{x:Str}{v:ω}:∀ {P:LS}{vs:LU}{i:Nat}{m:Str->OU},P.Nodup->P[i]?≈x->vs[i]?≈v->kindOf x≈.local ->
  bindL kindOf (P.zip vs) m x≈v
 | [],_,_,_,_,h,_,_=>by simp at h
 | _ :: _,[],_,_,_,_,h,_=>by simp at h
 | p :: P,w :: vs,0,m,nd,h1,h2,hk=>by
  simp at h1 h2;subst h1;subst h2;show bindL kindOf ((p,w):: P.zip vs) m p=_;unfold bindL;rw[jD λv hv=>(Fs.mp nd).1 (SK hv).1,if_pos hk];simp
 | p :: P,w :: vs,i + 1,m,nd,h1,h2,hk=>by
  show bindL kindOf ((p,w):: P.zip vs) m x=_;unfold bindL;exact jC (i:=i) (Fs.mp nd).2 (by simpa using h1) (by simpa using h2) hk
theorem jS{kindOf:Str->Option NameKind}{x:Str}{v:ω}:∀ {P:LS}{vs:LU}{i:Nat}{m:Str->OU},P.Nodup->P[i]?≈x->vs[i]?≈v->kindOf x≠some .local ->
  bindC kindOf (P.zip vs) m x≈v
 | [],_,_,_,_,h,_,_=>by simp at h
 | _ :: _,[],_,_,_,_,h,_=>by simp at h
 | p :: P,w :: vs,0,m,nd,h1,h2,hk=>by
  simp at h1 h2;subst h1;subst h2;show bindC kindOf ((p,w):: P.zip vs) m p=_;unfold bindC;rw[jT λv hv=>(Fs.mp nd).1 (SK hv).1,if_neg hk];simp
 | p :: P,w :: vs,i + 1,m,nd,h1,h2,hk=>by
  show bindC kindOf ((p,w):: P.zip vs) m x=_;unfold bindC;exact jS (i:=i) (Fs.mp nd).2 (by simpa using h1) (by simpa using h2) hk
def start(N:LS)(vs:LV):St:=vs.map some++List.replicate (↑N - ↑vs) none
def LI(CX:EZ)(P:Δ)(w:World)(K:Fg)(mg:Str->OU)(base:Heap)(N:LS)(qual:Str)(scope:Scope)(f:χ)(cd:ω)(A:Around)(outer:List Env)(s:Γ)(H:Hp)(E:XK):Cx where
 prog:=P
 w:=w
 K:=K
 mg:=mg
 base:=base
 A:=A.deeper (envOfC qual scope ⇑s f cd)
 N:=N
 s₀:=s
 H₀:=H
 env:=envOfC qual scope ⇑s f cd
 outer:=outer
 stack:=envOfC qual scope ⇑s f cd :: outer
 ex:=[]
 calm:=true
 fn:=λ_=>true
 pn:=[]
 xe:=λe s'=>wpAny (model P w) (A.deeper (envOfC qual scope ⇑s f cd)) (leaving (envOfC qual scope ⇑s f cd) e) (λ_ DJ=>CX outer H s E e DJ) (λe' DJ=>CX outer H s E e' DJ) s'
def iJ{sc:Scope}{n:Nat}{x:Str}(h:sc.names.lookup x≈.cell):∃ c,(cellsFrom n sc.names []).lookup x≈c:=by
 have q:=W.cellsFrom_some sc.names n [] (.inl h);exact Option.isSome_iff_exists.mp q
def uW{CX:EZ}{P:Δ}{w:World}{K:Fg}{mg:Str->OU}{base:Heap}{N ps:LS}{qual:Str}{scope:Scope}{f:χ}{cd:ω}{A:Around}{outer:List Env}{s s1:Γ}{H:Hp}{E:XK}{us:LU}{vs:LV}
  (S:Ad N ps scope) (hd:A.handled=none) (e0:Ec P w K mg base A outer s H) (hl:↑vs=↑ps) (r:AR vs us)
  (x:InCallC s ⇑s (bindL (envOfC qual scope ⇑s f cd).kindOf (ps.zip us) λ_=>none) (cellsFrom (⇑s + 1) scope.names []) (bindC (envOfC qual scope ⇑s f cd).kindOf (ps.zip us) λ_=>none) s1):
  Inv (LI CX P w K mg base N qual scope f cd A outer s H E) [] (start N vs) H s1:=by
 have hpl:↑ps<=↑N:=by have:=congrArg List.length S.pre;rw[Yv]at this;omega
 obtain⟨h1,tk,rfl,hk⟩:=x.done;have noA:∀ b:χ,b∉(LI CX P w K mg base N qual scope f cd A outer s H E).ex:=λb z=>absurd (show b∈([]:μ)from z) (by simp);refine⟨⟨e0.mod,S.kind,Y,Y,Yd _,λy z c h1 h2=>?_,λy hy=>?_,λy c _ h=>?_,λ_=>hd,Around.frames_deeper e0.frames,.inr ⟨Y,Y⟩,λb z=>absurd z (noA b),e0.bs,e0.bsz,λb _ _=>noA b,λb z=>absurd z (noA b),e0.funs,e0.frf⟩,
  Y,e0.bare,Un.kept hk,⟨_,x.toInCall.ns,λi y v h1 h2 h3=>?_⟩,λy c h=>⟨_,x.cell y c h⟩,e0.hok.fresh (Yd _),λy c h=>?_,λp hp=>absurd (show p∈([]:PL)from hp) (by simp),e0.hok.kept hk,?_⟩
 ·exact name_of_addr x.apart (JL h1) (JL h2)
 ·have hy:scope.names.lookup y≈.cell\/scope.names.lookup y≈.free:=hy
  rcases hy with hy | hy
  ·exact iJ hy
  ·exact absurd rfl (S.nofree _ (JL hy))
 ·exact Nat.le_of_lt (x.above y c (JL h))
 ·have hi:i<↑vs:=by
   unfold start at h2;by_cases hi:i<↑vs
   ·exact hi
   ·rw[bX (by simpa using hi)]at h2;rw[List.getElem?_replicate]at h2;split at h2 <;> cases h2
  have ha:vs[i]?≈v:=by
   unfold start at h2;rw[bf (by simpa using hi),Yj]at h2;cases e:vs[i]? with
   | none=>rw[e]at h2;cases h2
   | some a=>rw[e]at h2;cases h2;rfl
  obtain⟨u,hu,rv⟩:=r.get ha;have hp:ps[i]?≈y:=by
   rw[<- S.pre,ba (by omega)];exact h1
  have ndP:ps.Nodup:=by rw[<- S.pre];exact S.nd.sublist (List.take_sublist _ _)
  refine⟨u,rv,?_⟩
  rcases S.par y (Yi hp)with k | k
  ·exact .inl ⟨k,jC ndP hp hu k⟩
  ·obtain⟨c,e⟩:=iJ (n:=⇑s + 1) k;refine .inr ⟨.inl k,c,e,?_⟩;have q:=x.cell y c e;rw[jS ndP hp hu (by show scope.names.lookup y≠_;rw[k];decide)]at q;exact q
 ·exact e0.hok.fresh (Nat.le_of_lt (x.above y c (JL h)))
 ·unfold start;show _=↑N;rw[Yu,Ya,SO];omega
def mB{CX:EZ}{P:Δ}{w:World}{K:Fg}{mg:Str->OU}{base:Heap}{k:Nat}{f:χ}{name qual:Str}{params:Arguments}{body:List Stmt}{scope:Scope}{dV kV doc pm As ct oc:ω}{an od:Option χ}
  {osl:Array (OU)} {N ps:LS} {sp:Sp} (lk:K.lookup f≈⟨oc,od,.func (W.fnOf name qual params body scope dV kV doc pm an As ct),osl⟩) (hcd:W.codeIn K As qual=true) (S:Ad N ps scope)
  (len:∀ vs H Q E,sp vs H Q E->↑vs=↑ps)
  (hbody:∀(A:Around) (outer:List Env) (s:Γ) (H:Hp) (vs:LV) (Q:VK) (E:XK),AX k (A.deeper (envOfC qual scope ⇑s f As))->sp vs H Q E ->
   ∃ t,PSs (LI CX P w K mg base N qual scope f As A outer s H E) body t/\t {nx:=λ_ H'=>Q .non H',rt:=Q} (start N vs) H):
  AN P w K mg base CX (k + 1) f (W.fnOf name qual params body scope dV kV doc pm an As ct) ps sp:=by
 refine⟨len,λA outer s H args us vs Q E hr e0 hb r hsp=>?_⟩;have hl:=len _ _ _ _ hsp;have KX:K.In s.heap:=e0.mod.kin.keeps λb o e=>(e0.bs b o e).1;have lim:s.heap.NoLimit:=e0.mod.nolimit.keeps λb o e=>(e0.bs b o e).1;have hkind:∀ y∈ps.zip us,scope.names.lookup y.1≈.local\/(scope.names.lookup y.1≈.cell/\((cellsFrom (⇑s + 1) scope.names []).lookup y.1).isSome=true):=λ⟨n,v⟩ hy=>by
  rcases S.par n (SK hy).1 with q | q
  ·exact .inl q
  ·exact .inr ⟨q,W.cellsFrom_some _ _ _ (.inl q)⟩
 refine codeAny_call_function hr.depth (KX _ _ lk) rfl S.co S.gen rfl (W.codeRec_of KX hcd) (hb _ _ _ _ ?_);refine wpAny_newFunctionEnv_cells S.kind hkind λenv he s1 x=>?_;subst he;refine⟨lim.keeps x.toInCall.keep,codeAny_func ?_⟩;obtain⟨t,ht,hq⟩:=hbody A outer s H vs Q E (hr.deeper _) hsp;have I:Inv (LI CX P w K mg base N qual scope f As A outer s H E) [] (start N vs) H s1:=uW S hr.hd e0 hl r x;refine Jf (ht [] s1 (start N vs) H _ I hq) (λfl s' hs=>?_) λe s' hs=>hs;have fin:∀ {σ':St} {H':Hp} {v:V} {u:ω},Inv (LI CX P w K mg base N qual scope f As A outer s H E) [] σ' H' s'->AW v u->Q v H'->CE outer P w H s Q u s' :=
  λ{σ' H' v u} J rv q=>⟨v,H',J.os,J.bare,J.base,J.hok,rv,q⟩
 cases fl with
 | ret u =>
  obtain⟨v,σ',H',J,rv,q⟩:=hs;exact fin J rv q
 | next =>
  obtain⟨σ',H',J,q⟩:=hs;exact fin (v:=V.non) (u:=Value.none) J rfl q
 | brk =>
  obtain⟨_,_,_,q⟩:=hs;exact False.elim q
 | cont =>
  obtain⟨_,_,_,q⟩:=hs;exact False.elim q
section
variable {X:Cx}{x:Str}{p pos:Pos}{e:Expr}{es:ε}{t:TA}{id T:String}{r:LV->Hp->VK->Prop}
def dU(r:LV->Hp->VK->Prop)(t:TA):TE:=λσ H Q=>t σ H λvs H1=>r vs H1 Q
def Ai(hc:Em X (.builtin id) r)(hg:Gl X x)(hm:X.mg x=none)(hv:bootBuiltins x≈(.builtin id))(ha:PA X (e :: es) t)(hn:x≠"__name__":=by decide)(hdb:(x == ("__debug__":Str))=false:=by decide)
  (he:starEach (e :: es) X.env=(false,eval e X.env):: starEach es X.env:=by rfl) (hpl:(backTo pos (starEach es X.env)).any (·.1)=false:=by rfl):PE X (.Call (.Name x p) (e :: es) [] pos) (dU r t):=by
 ac_rfl;refine wpAny_Call_Name_kw (Fj I hg hm hv ?_ hn hdb);exact PyProof.Rows.callWith_builtin1 (AH (ha pos π s σ H _ I h) λus s1 ⟨vs,H1,I1,r1,q1⟩=>hc π s1 σ H1 vs us Q I1 r1 q1) he hpl
def FI(hc:Em X (.type T) r)(hg:Gl X x)(hm:X.mg x=none)(hv:bootBuiltins x≈(.type T))(ha:PA X (e :: es) t)(hn:x≠"__name__":=by decide)(hdb:(x == ("__debug__":Str))=false:=by decide)
  (he:starEach (e :: es) X.env=(false,eval e X.env):: starEach es X.env:=by rfl) (hpl:(backTo pos (starEach es X.env)).any (·.1)=false:=by rfl):PE X (.Call (.Name x p) (e :: es) [] pos) (dU r t):=by
 ac_rfl;refine wpAny_Call_Name_kw (Fj I hg hm hv ?_ hn hdb);exact IH (AH (ha pos π s σ H _ I h) λus s1 ⟨vs,H1,I1,r1,q1⟩=>hc π s1 σ H1 vs us Q I1 r1 q1) he hpl
end
end L2
namespace HT
open PySem PyProof.Rows
section
open PySem.SeqAt
open PySem.AutoSeq1 (wpAny_loadPart')
open PySem.MeetsSeq PySem.MeetsSeq2 PySem.MeetsSeq3
end
section
variable {prog:Δ}{w:World}{A:Around}{E:EV}{s:Γ}
def cat_tup{t b:χ}{vs ws:LU}{Q:EV}(ht:IsTup s.heap t vs.toArray)(hb:IsTup s.heap b ws.toArray)(hv:vs≠[])
  (h1:ws=[]->Q (.ref t) s) (h2:ws≠[]->Q (.ref ⇑s) {s with heap:=s.heap.push {cls:=.type "tuple",data:=.seq (vs++ws).toArray} })
  (hsz:↑vs + ↑ws<=sizeLine):wpAny (model prog w) A (binaryOp .Add (.ref t) (.ref b)) Q E s:=by
 obtain⟨⟨cls,dd,data,sl⟩,ho,hc,n,hd⟩:=id ht;obtain⟨⟨cy,Vo,data2,VM⟩,FW,RE,n2,hd2⟩:=id hb;simp only at hc hd RE hd2;subst hc hd RE hd2;have e:vs.toArray++ws.toArray=(vs++ws).toArray:=by simp
 by_cases hw:ws=[]
 ·exact concat_meets ⟨_,ho,Y⟩ ⟨_,FW,Y⟩ noFill_tuple_add seq_tuple_add PySem.F.slot_tuple_add bY (bZ _ _)
   (tuple_addW1 t b vs.toArray ws.toArray n n2 dd Vo sl VM (by simpa using hv) (by simp[hw])) ⟨ho,FW,h1 hw⟩
 ·refine concat_meets ⟨_,ho,Y⟩ ⟨_,FW,Y⟩ noFill_tuple_add seq_tuple_add PySem.F.slot_tuple_add bY (bZ _ _)
   (tuple_addW2 t b vs.toArray ws.toArray n n2 dd Vo sl VM (by simpa using hv) (by simpa using hw) (by rw[Yk,Yk];exact hsz)) ⟨ho,FW,?_⟩
  rw[e];exact h2 hw
def sIx(n d:Nat):Option Int->Nat
 | none=>d
 | some v=>if v<0 then(v + (n:Int)).toNat else min v.toNat n
def sIx_none(n d:Nat):sIx n d none=d:=rfl
def sIx_nat(n d k:Nat):sIx n d (↥(k:Int))=min k n:=by
 show(if(k:Int)<0 then((k:Int) + (n:Int)).toNat else min (k:Int).toNat n)=min k n;rw[if_neg (by omega),B0]
def zf(n d:Nat)(hd:d<=n)(o:Option Int):sIx n d o<=n:=by
 cases o with
 | none=>exact hd
 | some v =>
  show(if v<0 then(v + (n:Int)).toNat else min v.toNat n)<=n;by_cases hv:v<0
  ·rw[if_pos hv];omega
  ·rw[if_neg hv];exact Nat.min_le_right _ _
def gP(v:Int)(n d:Nat):(if v<0 then max (v + (n:Int)) 0 else min v (n:Int))=((sIx n d (↥v):Nat):Int):=by
 show(if v<0 then max (v + (n:Int)) 0 else min v (n:Int))=(((if v<0 then(v + (n:Int)).toNat else min v.toNat n):Nat):Int);by_cases hv:v<0
 ·simp only[if_pos hv];omega
 ·simp only[if_neg hv];omega
def vj(lo hi:Option Int)(n:Nat):Builtin.Slice.sliceAdjust lo hi 1 (n:Int)=(((sIx n 0 lo:Nat):Int),((sIx n n hi:Nat):Int)):=by
 have h1:¬ ((1:Int)<0):=by omega
 unfold Builtin.Slice.sliceAdjust;simp only[h1,if_false];refine Prod.ext ?_ ?_
 ·cases lo with
  | none=>rfl
  | some v=>exact gP v n 0
 ·cases hi with
  | none=>rfl
  | some v=>exact gP v n n
def vh(i j:Nat):Builtin.Slice.slicePlaces (i:Int) (j:Int) 1=j - i:=by
 unfold Builtin.Slice.slicePlaces;have h1:(1:Int) > 0:=by omega
 simp only[h1,if_true,Int.ediv_one];split <;> omega
def kJ{v:ω}{o:Option Int}{Q:Option Int->Γ->Prop}(p:IsPart v o)(h:Q o s):wpAny (model prog w) A (Builtin.Slice.slicePartIndex v) Q E s:=by
 cases p with
 | none=>exact slicePart_none h
 | int i t=>exact slicePart_int h
def kx{sl:χ}{vl vu:ω}{lo hi:Option Int}{n:Nat}{Q:Int×Int×Nat->Γ->Prop}(hs:s.heap.IsSliceOf sl vl vu .none)(pl:IsPart vl lo)(pu:IsPart vu hi)
  (h:Q (((sIx n 0 lo:Nat):Int),1,sIx n n hi - sIx n 0 lo) s):wpAny (model prog w) A (Builtin.Slice.sliceApplied (.ref sl) (pure (n:Int))) Q E s:=by
 obtain⟨os,hos,hcs,hds⟩:=id hs;unfold Builtin.Slice.sliceApplied Builtin.Slice.sliceFields;refine Ja (Ja (Jg hos hds (x:=vl) rfl (Ja (Jg hos hds (x:=vu) rfl (Ja (Jg hos hds (x:=.none) rfl (Jd ?_)))))));refine Ja (slicePart_none ?_);show wpAny _ _ (if((1:Int) == 0)=true then _ else _) _ _ s;rw[if_neg (by decide)];refine Ja (kJ pl (Ja (kJ pu (Ja (Jd ?_)))));show wpAny _ _ (match Builtin.Slice.sliceAdjust lo hi 1 (n:Int)with | (lo,hi)=>pure (lo,(1:Int),Builtin.Slice.slicePlaces lo hi 1)) _ _ s;rw[vj lo hi n];show wpAny _ _ (pure (((sIx n 0 lo:Nat):Int),(1:Int),Builtin.Slice.slicePlaces ((sIx n 0 lo:Nat):Int) ((sIx n n hi:Nat):Int) 1)) _ _ s;rw[vh];exact Jd h
def sJ(xs:δ)(i k:Nat):((List.range k).filterMap λ(m:Nat)=>xs[((i:Int) + (m:Int) * 1).toNat]?).toArray=((xs.toList.drop i).take k).toArray:=by
 have e:(λ(m:Nat)=>xs[((i:Int) + (m:Int) * 1).toNat]?)=λm=>xs[i + m]?:=by
  funext m
  have:((i:Int) + (m:Int) * 1).toNat=i + m:=by omega
  rw[this]
 rw[e];have:=pick_run xs i k;rw[List.filterMap_map]at this;have e2:((λx=>xs[x]?) ∘ λx=>i + x)=λm=>xs[i + m]?:=rfl;rw[e2]at this;rw[this]
def getItem_tuple_cut{t sl:χ}{items:δ}{vl vu:ω}{lo hi:Option Int}{Q:EV}(ht:IsTup s.heap t items)(hs:s.heap.IsSliceOf sl vl vu .none)(pl:IsPart vl lo)(pu:IsPart vu hi)
  (hw:¬ (sIx items.size 0 lo=0/\sIx items.size items.size hi=items.size))
  (h:Q (.ref ⇑s) {s with heap:=s.heap.push {cls:=.type "tuple",data:=.seq ((items.toList.drop (sIx items.size 0 lo)).take (sIx items.size items.size hi - sIx items.size 0 lo)).toArray} })
  (hsz:items.size<=sizeLine):wpAny (model prog w) A (getItem (.ref t) (.ref sl)) Q E s:=by
 have htake:sizeOk (.seq ((items.toList.drop (sIx items.size 0 lo)).take (sIx items.size items.size hi - sIx items.size 0 lo)).toArray):=by
  show((items.toList.drop (sIx items.size 0 lo)).take (sIx items.size items.size hi - sIx items.size 0 lo)).toArray.size<=sizeLine;rw[Yk,Yv,LP,JM];omega
 have hj:sIx items.size items.size hi<=items.size:=zf _ _ (Yd _) hi;obtain⟨os,hos,hcs,hds⟩:=id hs;have hTs:s.TypeIs (.ref sl) "slice":=⟨os,hos,hcs⟩;unfold getItem
 try with_reducible refine Jj ?_
 first | refine Ja (Jd ?_) | skip
 refine Ja (wpAny_sequenceKey ht.typeIs (by decide) ?_);refine Ja (wpAny_callSpecial?_slot (name:=Str.ofString "__getitem__") ht.typeIs QZ
  (wpAny_call_entry QZ ht.typeIs entry_tuple_getitem ?_ (args_tuple_getitem _ _)))
 show wpAny _ _ (Builtin.Tuple.tupleItemsOf (.ref t)>>=_) _ _ s;refine Ja (tupleItemsOf_ ht ?_);refine Ja (wpAny_typeOf hTs ?_);rw[if_pos (by decide)];refine Ja (kx hs pl pu ?_);have hno:¬ ((((sIx items.size 0 lo:Nat):Int) == 0&&(1:Int) == 1&&(sIx items.size items.size hi - sIx items.size 0 lo) == items.size)=true):=by
  intro q;rw[EF,EF]at q;have q1:((sIx items.size 0 lo:Nat):Int)=0:=eq_of_beq q.1.1;have q2:sIx items.size items.size hi - sIx items.size 0 lo=items.size:=eq_of_beq q.2;exact hw ⟨O,O⟩
 show wpAny _ _ (if(((sIx items.size 0 lo:Nat):Int) == 0&&(1:Int) == 1&&(sIx items.size items.size hi - sIx items.size 0 lo) == items.size)=true then _ else _) _ _ s;rw[if_neg hno,sJ]
 first
  | exact Ja (m:=Builtin.Tuple.tupleExact _) (wpAny_newObj_type (Jd ⟨_,rfl,Jd h⟩) htake)
  | exact Ja (m:=Builtin.Tuple.tupleExact _) (wpAny_newObj_type (Ja (Jd (Jd ⟨_,rfl,Jd h⟩))) htake)
  | exact Ja (Ja (m:=Builtin.Tuple.tupleExact _) (wpAny_newObj_type (Jd (Jd ⟨_,rfl,Jd h⟩)) htake))
  | exact Ja (Ja (m:=Builtin.Tuple.tupleExact _) (wpAny_newObj_type (Jd ⟨_,rfl,Jd h⟩) htake))
end
end HT
namespace L2
open PySem PySem.Spec PyProof.Rows
abbrev TO:=St->Hp->(Option Int->Hp->Prop)->Prop
def PO(X:Cx)(e:Option Expr)(t:TO):Prop :=
 ∀(π:PL) (s:Γ) (σ:St) (H:Hp) (Q:Option Int->Hp->Prop),Inv X π σ H s->t σ H Q ->
  wpAny (model X.prog X.w) X.A (evalPart e X.env) (λu s'=>∃ o H',Inv X π σ H' s'/\IsPart u o/\Q o H') X.xe s
def Rf:TO:=λ_ H Q=>Q none H
def Vv(t:TE):TO:=λσ H Q=>t σ H λx H1=>∃ i,x=.int i/\Q (↥i) H1
section
variable {X:Cx}{e:Expr}{te:TE}{lo hi:Option Expr}{tl th:TO}{pos p2:Pos}
def Za:PO X none Rf:=by
 ac_rfl;rw[evalPart_none];exact Jd ⟨none,H,I,.none,h⟩
def Mr(h:PE X e te):PO X (↥e) (Vv te):=by
 intro π s σ H Q I hw;rw[evalPart_some];refine AH (h π s σ H _ I hw) λu s1 ⟨x,H1,I1,r1,q1⟩=>?_;obtain⟨i,rfl,q⟩:=q1;obtain⟨t,rfl⟩:=r1;exact⟨↥i,H1,I1,.int i t,q⟩
def Xt(X:Cx)(r:V->Option Int->Option Int->Hp->VK->Prop):Prop :=
 ∀(π:PL) (s:Γ) (σ:St) (H:Hp) (x:V) (v vl vu:ω) (lo hi:Option Int) (sl:χ) (Q:VK),Inv X π σ H s->AW x v->s.heap.IsSliceOf sl vl vu .none->IsPart vl lo->IsPart vu hi->r x lo hi H Q ->
  ∃ T id,typeLookup (.type T) "__getitem__"=pure (↥(.builtin id))/\s.TypeIs v T/\wpAny (model X.prog X.w) X.A (getItem v (.ref sl)) (EP X π σ Q) X.xe s
def VH(r:V->Option Int->Option Int->Hp->VK->Prop)(te:TE)(tl th:TO):TE:=λσ H Q=>te σ H λx H1=>tl σ H1 λl H2=>th σ H2 λu H3=>r x l u H3 Q
def Rp{r:V->Option Int->Option Int->Hp->VK->Prop}(hr:Xt X r)(he:PE X e te)(hl:PO X lo tl)(hu:PO X hi th):PE X (.Subscript e (.Slice lo hi none p2) pos) (VH r te tl th):=by
 ac_rfl;refine Subscript_ (AH (he π s σ H _ I h) λv s1 ⟨x,H1,I1,r1,q1⟩=>?_);refine wpAny_Slice (AH (hl π s1 σ H1 _ I1 q1) λvl s2 ⟨l,H2,I2,pl,q2⟩=>AH (hu π s2 σ H2 _ I2 q2) λvu s3 ⟨u,H3,I3,pu,q3⟩=>?_);rw[evalPart_none];refine Jd ?_;have I4:Inv X π σ H3 {s3 with heap:=s3.heap.push {cls:=.type "slice",data:=.fields #[vl,vu,.none] } }:=I3.kept (t':=s3.toks) λb ob q=>Yb _ q;obtain⟨T,id,hT,ht,hg⟩:=hr π {s3 with heap:=s3.heap.push {cls:=.type "slice",data:=.fields #[vl,vu,.none] } } σ H3 x v vl vu l u ⇑s3 Q I4 r1 (Heap.IsSliceOf.new ..) pl pu q3;show wpAny (model X.prog X.w) X.A (subscriptTail e (.Slice lo hi none p2) v (.ref ⇑s3)) (EP X π σ Q) X.xe {s3 with heap:=s3.heap.push {cls:=.type "slice",data:=.fields #[vl,vu,.none] } };exact tail_any (ops:=[.ref ⇑s3,v]) ht hT hg (by with_unfolding_all rfl)
def Cv(xs:LV)(lo hi:Option Int):LV:=(xs.drop (HT.sIx ↑xs 0 lo)).take (HT.sIx ↑xs ↑xs hi - HT.sIx ↑xs 0 lo)
def kG(xs:LV)(lo hi:Option Int):↑(Cv xs lo hi)<=↑xs:=by
 unfold Cv;rw[Yv,LP];omega
def QR(K:Fg):V->Option Int->Option Int->Hp->VK->Prop:=λx lo hi H Q=>∃ a xs,x=.ref a/\AJ K H a xs /\
 ¬ (HT.sIx ↑xs 0 lo=0/\HT.sIx ↑xs ↑xs hi=↑xs)/\∀ p,H p=none->Q (.ref p) (upd H p (.tup (Cv xs lo hi)))
def ZK:Xt X (QR X.K):=by
 intro π s σ H x v vl vu lo hi sl Q I rx hs pl pu h;obtain⟨a,xs,rfl,hx,hw,q⟩:=h;cases rx;obtain⟨η,r,ht,hz⟩:=I.tuple hx;have hlen:η.toArray.size=↑xs:=by rw[Yk];exact r.length.symm
 refine⟨"tuple",_,QZ.lookup,ht.typeIs,?_⟩;refine HT.getItem_tuple_cut ht hs pl pu (by rw[hlen];exact hw) ?_ (by rw[hlen];exact hz);rw[hlen];refine⟨.ref ⇑s,_,I.laid (t':=s.toks) (o:=.tup (Cv xs lo hi)) (λb ob q=>Yb _ q) (Yd _) ?_,Y,q _ (I.hok.fresh (Yd _))⟩;exact⟨Yq (kG xs lo hi) hz,_,(r.drop (HT.sIx ↑xs 0 lo)).take (HT.sIx ↑xs ↑xs hi - HT.sIx ↑xs 0 lo),IsTup.new _ _⟩
def yd(K:Fg):R2:=λx y H Q=>∃ a b xs ys,x=.ref a/\y=.ref b/\AJ K H a xs/\AJ K H b ys/\xs≠[]/\↑xs + ↑ys<=sizeLine /\
 (ys=[]->Q (.ref a) H)/\(ys≠[]->∀ p,H p=none->Q (.ref p) (upd H p (.tup (xs++ys))))
def AR.nil_iff{xs:LV}{us:LU}(r:AR xs us):us=[]↔xs=[]:=by
 cases r with
 | nil=>simp
 | cons _ _=>simp
def Z2t:BP X (binaryOp .Add) (yd X.K):=by
 exfalso;obtain⟨a,b,xs,ys,rfl,rfl,ha,hb,hx,hz,q1,q2⟩:=h;cases rx;cases ry;obtain⟨η,r1,p1,_⟩:=I.tuple ha;obtain⟨Cf,r2,p2,_⟩:=I.tuple hb;refine HT.cat_tup p1 p2 (λz=>hx (r1.nil_iff.mp z)) (λz=>⟨.ref a,H,I,Y,q1 (r2.nil_iff.mp z)⟩) (λz=>?_) (by rw[<- ↑r1,<- ↑r2];exact hz);refine⟨.ref ⇑s,_,I.laid (t':=s.toks) (o:=.tup (xs++ys)) (λb ob q=>Yb _ q) (Yd _) ?_,Y,q2 (λw=>z (r2.nil_iff.mpr w)) _ (I.hok.fresh (Yd _))⟩;exact⟨by rw[Yu];exact hz,_,r1.append r2,IsTup.new _ _⟩
end
def Ig(n:Nat)(i:Int):Option Nat:=if 0<=i then(if i<n then ↥i.toNat else none)else if -(n:Int)<=i then ↥(i + n).toNat else none
def Ej{α:Type}(xs:List α)(i:Int):Option α:=(Ig ↑xs i).bind λj=>xs[j]?
def gm{n:Nat}{i:Int}{j:Nat}(h:Ig n i≈j):seqIndex? i n≈j/\j<n/\-(n:Int)<=i/\i<n:=by
 unfold Ig at h;by_cases h0:0<=i
 ·rw[if_pos h0]at h;by_cases h1:i<n
  ·rw[if_pos h1]at h;have e:i.toNat=j:=Yp h;exact⟨by rw[seqIndex_of h0 h1,e],O,O,h1⟩
  ·rw[if_neg h1]at h;cases h
 ·rw[if_neg h0]at h;by_cases h1:-(n:Int)<=i
  ·rw[if_pos h1]at h;have e:(i + n).toNat=j:=Yp h;exact⟨by rw[seqIndex_neg (by omega) h1,e],O,h1,O⟩
  ·rw[if_neg h1]at h;cases h
def ZT{α:Type}{xs:List α}{i:Int}{v:α}(h:Ej xs i≈v):∃ j,seqIndex? i ↑xs≈j/\xs[j]?≈v/\j<↑xs/\-(↑xs:Int)<=i/\i<↑xs:=by
 unfold Ej at h;cases e:Ig ↑xs i with
 | none=>rw[e]at h;cases h
 | some j =>
  rw[e]at h;obtain⟨h1,h2,h3,h4⟩:=gm e;exact⟨j,h1,h,h2,h3,h4⟩
def Es{α:Type}{xs:List α}{j:Nat}{v:α}(h:xs[j]?≈v):Ej xs (j:Int)≈v:=by
 have hj:j<↑xs:=(Yf.mp h).1;have e:Ig ↑xs (j:Int)≈j:=by
  unfold Ig;rw[if_pos (by omega),if_pos (by omega)];simp
 unfold Ej;rw[e];exact h
def gZ(b:Expr):Prop:=∀ o i,subscripted b false o i=operate [o,i] (getItem o i)
def Xx(X:Cx)(r:R2):Prop :=
 ∀(value slice:Expr) (π:PL) (s:Γ) (σ:St) (H:Hp) (x y:V) (v u:ω) (Q:VK),Inv X π σ H s->AW x v->AW y u->r x y H Q ->
  subscripted slice false v u=operate [v,u] (getItem v u)->wpAny (model X.prog X.w) X.A (subscriptTail value slice v u) (EP X π σ Q) X.xe s
def oP(X:Cx)(id:String)(r:V->LV->Hp->VK->Prop):Prop :=
 ∀(π:PL) (s:Γ) (σ:St) (H:Hp) (x:V) (xs:LV) (v:ω) (us:LU) (Q:VK),Inv X π σ H s->AW x v->AR xs us->r x xs H Q ->
  wpAny (model X.prog X.w) X.A (call (.builtin id) (v :: us)) (EP X π σ Q) X.xe s
section
variable {X:Cx}{a b:Expr}{ta tb:TE}{pos:Pos}
def A9{r:R2}(hr:Xx X r)(ha:PE X a ta)(hb:PE X b tb)(hs:gZ b):PE X (.Subscript a b pos) (IX r ta tb):=by
 ac_rfl;exact Subscript_ (ao ha hb I h λv u s2 x y H2 I2 rx ry q=>hr a b π s2 σ H2 x y v u Q I2 rx ry q (hs _ _))
def Cz(K:Fg):R2:=λx y H Q=>∃ p xs i v,x=.ref p/\y=.int i/\AD K H p xs/\Ej xs i≈v/\Q v H
def LJ(K:Fg):R2:=λx y H Q=>∃ p xs i v,x=.ref p/\y=.int i/\AJ K H p xs/\Ej xs i≈v/\Q v H
def Ybr:R2:=λx y H Q=>∃ z i c,x=.str z/\y=.int i/\↑z<=sizeLine/\Ej z.cps.toList i≈c/\Q (.str ⟨#[c]⟩) H
def Bi:Xx X (Cz X.K):=by
 intro value slice π s σ H x y v u Q I rx ry h hs;obtain⟨p,xs,i,z,rfl,rfl,hq,he,q⟩:=h;cases rx;obtain⟨t,rfl⟩:=ry;obtain⟨η,r,pl,hz⟩:=I.list hq;obtain⟨j,h1,h2,h3,h4,h5⟩:=ZT he;obtain⟨w,ew,BQ⟩:=r.get h2;have hl:=↑r;have hn:=Mq;have fin:EP X π σ Q w s:=⟨z,H,I,BQ,q⟩;by_cases h0:0<=i
 ·have hj:i.toNat=j:=by
   rw[seqIndex_of h0 h5]at h1;exact Yp h1
  exact item_listR pl.isList h0 (by omega) (by rw[hj];simpa using ew) fin hs
 ·have hj:(i + (η.toArray.size:Int)).toNat=j:=by
   rw[seqIndex_neg (by omega) h4]at h1;rw[Yk,<- hl];exact Yp h1
  exact subscriptTail_builtinR (x:=w) pl.isList.typeIs slot_list_getitem.lookup
   (wpAny_getItem_list_neg (Q:=λr s'=>r=w/\EP X π σ Q r s') pl.isList (by omega) (by rw[Yk] <;> omega) (by omega) (by rw[hj];simpa using ew) ⟨Y,fin⟩) hs
def Mn:Xx X (LJ X.K):=by
 intro value slice π s σ H x y v u Q I rx ry h hs;obtain⟨p,xs,i,z,rfl,rfl,hq,he,q⟩:=h;cases rx;obtain⟨t,rfl⟩:=ry;obtain⟨η,r,pl,hz⟩:=I.tuple hq;obtain⟨j,h1,h2,h3,h4,h5⟩:=ZT he;obtain⟨w,ew,BQ⟩:=r.get h2;have hl:=↑r;have hn:=Mq;have fin:EP X π σ Q w s:=⟨z,H,I,BQ,q⟩;exact subscriptTail_builtinR (x:=w) pl.typeIs slot_tuple_getitem.lookup
  (getItem_tuple (j:=j) (Q:=λr s'=>r=w/\EP X π σ Q r s') pl (by omega) (by omega) (by rw[Yk,<- hl];exact h1) (by simpa using ew) ⟨Y,fin⟩) hs
def zP:Xx X Ybr:=by
 intro value slice π s σ H x y v u Q I rx ry h hs;obtain⟨z,i,c,rfl,rfl,hz,he,q⟩:=h;obtain⟨t,rfl⟩:=rx;obtain⟨t',rfl⟩:=ry;obtain⟨j,h1,h2,h3,h4,h5⟩:=ZT he;have hl:↑z.cps.toList=↑z:=by simp[Str.length]
 rw[hl]at h1 h4 h5;have hn:=Mq;exact tail_any (typeIs_str s z t) slot_str_getitem.lookup (getItem_str (c:=c) (by
  have e1:decide (i < -(2 ^ 63:Int))=false:=Jc (by omega);have e2:decide (i ≥ 2 ^ 63)=false:=Jc (by omega);rw[e1,e2,Bool.or_false]) (by rw[h1];simpa using h2) ⟨.str ⟨#[c]⟩,H,I.tok _,⟨Z⟩,q⟩) hs
def vS(η:LU)(n j:Nat)(u:ω):Obj.mapSeq (·.setIfInBounds j u) {cls:=.type "list",data:=.seq η.toArray n}={cls:=.type "list",data:=.seq (η.set j u).toArray n}:=by
 simp[Obj.mapSeq]
theorem Inv.lst{π:PL}{σ:St}{H:Hp}{s:Γ}{p:χ}{xs:LV}(I:Inv X π σ H s)(h:H p≈(.lst xs)):
  ∃(η:LU) (n:Nat),AR xs η/\s.heap.get? p=some {cls:=.type "list",data:=.seq η.toArray n}/\↑xs<=sizeLine:=by
 obtain⟨z,η,n,r,e⟩:=I.hok p _ h;exact⟨η,n,r,e,z⟩
def Inv.lstUpd{π:PL}{σ:St}{H:Hp}{s:Γ}{p:χ}{xs ys:LV}{η its':LU}{n n':Nat}{f:Obj->Obj}(I:Inv X π σ H s)(h:H p≈(.lst xs))
  (ho:s.heap.get? p=some {cls:=.type "list",data:=.seq η.toArray n}) (hf:f {cls:=.type "list",data:=.seq η.toArray n}={cls:=.type "list",data:=.seq its'.toArray n' }) (r:AR ys its') (hz:↑ys<=sizeLine) (t:Nat):
  Inv X π σ (upd H p (.lst ys)) {s with heap:=s.heap.update p f,toks:=t}:=by
 have e:(s.heap.update p f).get? p=some {cls:=.type "list",data:=.seq its'.toArray n' }:=by
  rw[ED f ho (by rw[hf] <;> rfl),hf]
 refine I.write (x:=p) (e:=p) (by rw[h];trivial) (.inl rfl) (λb u hb q=>(Fq _ _ (Ae hb)).trans q) ⟨_,e⟩ ?_;exact⟨hz,its',n',r,e⟩
def yf:V->V->V->Hp->(Hp->Prop)->Prop:=λo i v H Q=>∃ p xs k j,o=.ref p/\i=.int k/\H p≈(.lst xs)/\Ig ↑xs k≈j/\Q (upd H p (.lst (xs.set j v)))
def Z4:n5 X yf:=by
 intro π s σ H o i v ov iv u Q I ro ri rv h;obtain⟨p,xs,k,j,rfl,rfl,hp,hj,q⟩:=h;cases ro;obtain⟨t,rfl⟩:=ri;obtain⟨η,n,r,ho,hz⟩:=I.lst hp;obtain⟨h1,h2,h3,h4⟩:=gm hj;have hl:=↑r;have hn:=Mq;have I':Inv X π σ (upd H p (.lst (xs.set j v))) {s with heap:=s.heap.update p (Obj.mapSeq (·.setIfInBounds j u)) } :=
  I.lstUpd hp ho (vS η n j u) (r.set rv j) (by rw[List.length_set];exact hz) s.toks
 by_cases h0:0<=k
 ·have hk:k.toNat=j:=by
   rw[seqIndex_of h0 h4]at h1;exact Yp h1
  exact W.ki_setAt ho h0 (by omega) (by rw[Yk,<- hl];exact h4) (by rw[hk];exact⟨_,I',q⟩)
 ·have hk:(k + (η.toArray.size:Int)).toNat=j:=by
   rw[seqIndex_neg (by omega) h3]at h1;rw[Yk,<- hl];exact Yp h1
  exact W.ki_setBack ho (by omega) (by rw[Yk,<- hl];exact h3) (by omega) (by rw[hk];exact⟨_,I',q⟩)
def wk(lo hi:Option Int)(n:Nat):(sliceBounds lo hi none n).1=((HT.sIx n 0 lo:Nat):Int)/\(sliceBounds lo hi none n).2.1=((HT.sIx n n hi:Nat):Int)/\(sliceBounds lo hi none n).2.2=1:=by
 refine⟨?_,?_,Y⟩
 ·cases lo with
  | none=>simp[sliceBounds,HT.sIx]
  | some i =>
   simp only[sliceBounds,HT.sIx,Option.getD_none,show(1:Int) > 0 by decide,if_true];by_cases h:i<0
   ·simp only[h,if_true] <;> omega
   ·simp only[h,if_false] <;> omega
 ·cases hi with
  | none=>simp[sliceBounds,HT.sIx]
  | some i =>
   simp only[sliceBounds,HT.sIx,Option.getD_none,show(1:Int) > 0 by decide,if_true];by_cases h:i<0
   ·simp only[h,if_true] <;> omega
   ·simp only[h,if_false] <;> omega
def xI(η:LU)(lo hi:Option Int):slicePick η.toArray lo hi none=((η.drop (HT.sIx ↑η 0 lo)).take (HT.sIx ↑η ↑η hi - HT.sIx ↑η 0 lo)).toArray:=by
 obtain⟨h1,h2,h3⟩:=wk lo hi η.toArray.size;unfold slicePick;rw[h1,h2,h3];simp only[sliceRange_one,pick_run,Yk] <;> rfl
def bD(K:Fg):V->Option Int->Option Int->Hp->VK->Prop:=λx lo hi H Q=>∃ a xs,x=.ref a/\AD K H a xs/\∀ p,H p=none->Q (.ref p) (upd H p (.lst (Cv xs lo hi)))
def gw:Xt X (bD X.K):=by
 intro π s σ H x v vl vu lo hi sl Q I rx hs pl pu h;obtain⟨a,xs,rfl,hx,q⟩:=h;cases rx;obtain⟨η,r,ht,hz⟩:=I.list hx;have hlen:=↑r;refine⟨"list",_,slot_list_getitem.lookup,ht.isList.typeIs,?_⟩;refine wpAny_getItem_list_slice ht.isList hs pl pu .none (by simp) ?_ (by rw[Yk] <;> omega);rw[xI,<- hlen];refine⟨.ref ⇑s,_,I.laid (t':=s.toks) (o:=.lst (Cv xs lo hi)) (λb ob q=>Yb _ q) (Yd _) ?_,Y,q _ (I.hok.fresh (Yd _))⟩;exact⟨Yq (kG xs lo hi) hz,_,0,(r.drop (HT.sIx ↑xs 0 lo)).take (HT.sIx ↑xs ↑xs hi - HT.sIx ↑xs 0 lo),Ye _ rfl⟩
def Iq:V->Bool
 | .non=>true
 | .bl _=>true
 | .int _=>true
 | .str _=>true
 | _=>false
def Ki:V->V->Bool
 | .non,.non=>true
 | .bl a,.bl b=>a == b
 | .bl a,.int b=>(if a then 1 else 0) == b
 | .int a,.bl b=>a == (if b then 1 else 0)
 | .int a,.int b=>a == b
 | .str a,.str b=>a == b
 | _,_=>false
def yp{A:Around}{s:Γ}{y x:V}{u v:ω}(ry:AW y u)(rx:AW x v)(fy:Iq y=true)(fx:Iq x=true):SeqAt.EqAt A s u v (Ki y x):=by
 cases y with
 | non =>
  cases ry;cases x with
  | non=>cases rx;exact SeqAt.EqAt.same _
  | bl b=>cases rx;exact SeqAt.EqAt.none_bool b
  | int b=>obtain⟨t,rfl⟩:=rx;exact SeqAt.EqAt.none_int b t
  | str b=>obtain⟨t,rfl⟩:=rx;exact SeqAt.EqAt.none_str b t
  | _=>exact absurd (show false=true from fx) Yh
 | bl a =>
  cases ry;cases x with
  | non=>cases rx;exact SeqAt.EqAt.bool_none a
  | bl b=>cases rx;exact SeqAt.EqAt.bool_bool a b
  | int b=>obtain⟨t,rfl⟩:=rx;exact SeqAt.EqAt.bool_int a b t
  | str b=>obtain⟨t,rfl⟩:=rx;exact SeqAt.EqAt.bool_str a b t
  | _=>exact absurd (show false=true from fx) Yh
 | int a =>
  obtain⟨t',rfl⟩:=ry;cases x with
  | non=>cases rx;exact SeqAt.EqAt.int_none a t'
  | bl b=>cases rx;exact SeqAt.EqAt.int_bool a t' b
  | int b=>obtain⟨t,rfl⟩:=rx;exact SeqAt.EqAt.int_int a t' b t
  | str b=>obtain⟨t,rfl⟩:=rx;exact SeqAt.EqAt.int_str a t' b t
  | _=>exact absurd (show false=true from fx) Yh
 | str a =>
  obtain⟨t',rfl⟩:=ry;cases x with
  | non=>cases rx;exact SeqAt.EqAt.str_none a t'
  | bl b=>cases rx;exact SeqAt.EqAt.str_bool a t' b
  | int b=>obtain⟨t,rfl⟩:=rx;exact SeqAt.EqAt.str_int a t' b t
  | str b=>obtain⟨t,rfl⟩:=rx;exact SeqAt.EqAt.str_str a t' b t
  | _=>exact absurd (show false=true from fx) Yh
 | _=>exact absurd (show false=true from fy) Yh
def Ik(x:V)(u:ω):Bool:=match u with
 | .none=>Ki .non x
 | .bool b=>Ki (.bl b) x
 | .int i _=>Ki (.int i) x
 | .str z _=>Ki (.str z) x
 | _=>false
def ma{x y:V}{u:ω}(r:AW y u)(f:Iq y=true):Ik x u=Ki y x:=by
 cases y with
 | non=>cases r;rfl
 | bl b=>cases r;rfl
 | int i=>obtain⟨t,rfl⟩:=r;rfl
 | str z=>obtain⟨t,rfl⟩:=r;rfl
 | _=>exact absurd (show false=true from f) Yh
theorem ZS{x:V}:∀ {xs:LV}{us:LU},AR xs us->xs.all Iq=true->us.any (Ik x)=xs.any λy=>Ki y x
 | _,_,.nil,_=>rfl
 | y :: xs,u :: us,.cons r t,f=>by
  rw[List.all_cons,EF]at f;rw[IG,IG,ma r f.1,ZS t f.2]
theorem Zs{A:Around}{s:Γ}{x:V}{v:ω}(rx:AW x v)(fx:Iq x=true):∀ {xs:LV}{us:LU},AR xs us->xs.all Iq=true->∀ u∈us,SeqAt.EqAt A s u v (Ik x u)
 | _,_,.nil,_=>λu hu=>by cases hu
 | y :: xs,u :: us,.cons r t,f=>λu' hu=>by
  rw[List.all_cons,EF]at f
  rcases Bj.mp hu with rfl | hu
  ·rw[ma r f.1];exact yp r rx f.1 fx
  ·exact Zs rx fx t f.2 u' hu
def Qx(x:V)(xs:LV):Bool:=xs.any λy=>Ki y x
def pP(K:Fg)(neg:Bool):R2:=λx y H Q=>∃ p xs,y=.ref p/\(AD K H p xs\/AJ K H p xs)/\Iq x=true/\xs.all Iq=true/\Q (.bl (if neg then !Qx x xs else Qx x xs)) H
def uy:BP X (compareOp .In) (pP X.K false):=by
 exfalso;obtain⟨p,xs,rfl,hq,fx,fs,q⟩:=h;cases ry
 rcases hq with hq | hq
 ·obtain⟨η,r,pl,hz⟩:=I.list hq;refine SeqAt.in_listAt (Ik x) pl.isList (λw hw=>Zs rx fx r fs w (by simpa using hw)) ⟨.bl _,H,I,Y,?_⟩;rw[show η.toArray.any (Ik x)=η.any (Ik x) by simp,ZS r fs];exact q
 ·obtain⟨η,r,pl,hz⟩:=I.tuple hq;refine SeqAt.in_tupleAt (Ik x) pl (λw hw=>Zs rx fx r fs w (by simpa using hw)) ⟨.bl _,H,I,Y,?_⟩;rw[show η.toArray.any (Ik x)=η.any (Ik x) by simp,ZS r fs];exact q
def B_:Em X (.builtin "len") (λxs H Q=>∃ p ys,xs=[.ref p]/\(AD X.K H p ys\/AJ X.K H p ys)/\Q (.int ↑ys) H):=by
 intro π s σ H xs us Q I r h;obtain⟨p,ys,rfl,hq,q⟩:=h;obtain⟨u,rfl,rx⟩:=Ga r;cases rx;have hn:=Mq
 rcases hq with hq | hq
 ·obtain⟨η,r',pl,hz⟩:=I.list hq;have hlen:=↑r';exact Calls.call_len_list pl.isList (by simp only[Yk] <;> omega) ⟨.int ↑ys,H,I.tok _,⟨s.toks + 1,by rw[Yk,hlen]⟩,q⟩
 ·obtain⟨η,r',pl,hz⟩:=I.tuple hq;have hlen:=↑r';exact len_tuple pl (by simp only[Yk] <;> omega) ⟨.int ↑ys,H,I.tok _,⟨s.toks + 1,by rw[Yk,hlen]⟩,q⟩
def kW:Em X (.type "list") (λxs H Q=>∃ p ys,xs=[.ref p]/\(AD X.K H p ys\/AJ X.K H p ys)/\∀ l,H l=none->Q (.ref l) (upd H l (.lst ys))):=by
 intro π s σ H xs us Q I r h;obtain⟨p,ys,rfl,hq,q⟩:=h;obtain⟨u,rfl,rx⟩:=Ga r;cases rx;have fin:∀(η:LU),AR ys η->↑ys<=sizeLine->∀(h':Heap) (c':Nat),(∀ b o',s.heap.get? b≈o'->h'.get? b≈o') ->
   h'.get? ⇑s=some {cls:=.type "list",dict:=none,data:=.seq η.toArray c',slots:=#[] }->EP X π σ Q (.ref ⇑s) {s with heap:=h' }:=λη r' hz h' c' kp e =>
  ⟨.ref ⇑s,_,I.laid (t':=s.toks) kp (Yd _) (show A1 X.prog X.w _ h' _ (.lst ys)from⟨hz,η,c',r',e⟩),Y,q _ (I.hok.fresh (Yd _))⟩
 rcases hq with hq | hq
 ·obtain⟨η,r',pl,hz⟩:=I.list hq;have hlen:=↑r';obtain⟨o,ho,hc,n,hd⟩:=pl.isList;exact call_list_seq p (.inl rfl) ho hc hd (λh' c' kp e=>fin η r' hz h' c' kp e) (by simp only[Yk] <;> omega)
 ·obtain⟨η,r',pl,hz⟩:=I.tuple hq;have hlen:=↑r';obtain⟨o,ho,hc,n,hd⟩:=pl;exact call_list_seq p (.inr rfl) ho hc hd (λh' c' kp e=>fin η r' hz h' c' kp e) (by simp only[Yk] <;> omega)
def LG:Em X (.type "tuple") (λxs H Q=>∃ p ys,xs=[.ref p]/\((AD X.K H p ys/\∀ l,H l=none->Q (.ref l) (upd H l (.tup ys)))\/(AJ X.K H p ys/\Q (.ref p) H))):=by
 intro π s σ H xs us Q I r h;obtain⟨p,ys,rfl,h⟩:=h;obtain⟨u,rfl,rx⟩:=Ga r;cases rx
 rcases h with⟨hq,q⟩ | ⟨hq,q⟩
 ·obtain⟨η,r',pl,hz⟩:=I.list hq;have hlen:=↑r';refine call_tuple_list pl.isList (λh' kp=>?_) (by simp only[Yk] <;> omega);have I1:Inv X π σ H {s with heap:=h' }:=I.kept (t':=s.toks) kp;have I2:Inv X π σ (upd H h'.objs.size (.tup ys)) {s with heap:=h'.push {cls:=.type "tuple",data:=.seq η.toArray} } :=
   I1.laid (t':=s.toks) (λb o e=>Yb _ e) (Yd _) (show A1 X.prog X.w _ _ _ (.tup ys)from⟨hz,η,r',IsTup.new _ _⟩)
  exact⟨.ref h'.objs.size,_,I2,Y,q _ (I1.hok.fresh (Yd _))⟩
 ·obtain⟨η,r',pl,hz⟩:=I.tuple hq;exact call_tuple_same pl ⟨.ref p,H,I,Y,q⟩
def X2(K:Fg)(T:String)(x:V)(H:Hp):Prop:=match x with
 | .str _=>T="str"
 | .int _=>T="int"
 | .ref p=>(T="list"/\∃ xs,AD K H p xs)\/(T="tuple"/\∃ o,K.lookup p≈o/\o.cls=.type "tuple"/\o.dict=none) \/
   (T="dict"/\((∃ ν,H p≈(.dK ν))\/∃ ν,H p≈(.dT ν)))\/(T="set"/\∃ S n,H p≈(.set S n))
 | _=>False
def nN{π:PL}{σ:St}{H:Hp}{s:Γ}{T:String}{x:V}{v:ω}(I:Inv X π σ H s)(r:AW x v)(ty:X2 X.K T x H):
  s.TypeIs v T/\∀ a,v=.ref a->∃ ob,s.heap.get? a≈ob/\ob.dict=none:=by
 cases x with
 | str z =>
  obtain⟨t,rfl⟩:=r;cases(show T="str" from ty);exact⟨typeIs_str s z t,λ_ e=>nomatch e⟩
 | int i =>
  obtain⟨t,rfl⟩:=r;cases(show T="int" from ty);exact⟨typeIs_int s i t,λ_ e=>nomatch e⟩
 | ref p =>
  cases r
  rcases ty with⟨rfl,xs,hq⟩ | ⟨rfl,o,hk,hc,hd⟩ | ⟨rfl,hk⟩ | ⟨rfl,S,n,hk⟩
  ·obtain⟨η,_,pl,_⟩:=I.list hq;refine⟨pl.isList.typeIs,λa e=>?_⟩;cases e;obtain⟨o,n,e,c,hd,_⟩:=pl;exact⟨o,e,hd⟩
  ·refine⟨⟨o,I.kIn p o hk,hc⟩,λa e=>?_⟩;cases e;exact⟨o,I.kIn _ o hk,hd⟩
  ·have z:∃ o,s.heap.get? p≈o/\o.ExactDict:=by
    rcases hk with⟨ν,hk⟩ | ⟨ν,hk⟩
    ·obtain⟨_,_,_,_,o,_,_,e,ex,_⟩:=I.hok p _ hk;exact⟨o,e,ex⟩
    ·obtain⟨_,_,_,_,o,_,_,e,ex,_⟩:=I.hok p _ hk;exact⟨o,e,ex⟩
   obtain⟨o,e,ex⟩:=z;refine⟨⟨o,e,ex.1⟩,λa e2=>?_⟩;cases e2;exact⟨o,e,ex.2.1⟩
  ·obtain⟨o,_,_,_,e,ex,_⟩:=I.hok p _ hk;refine⟨⟨o,e,ex.1⟩,λa e2=>?_⟩;cases e2;exact⟨o,e,ex.2.1⟩
 | _=>exact False.elim ty
def Ya6(K:Fg)(T:String)(r:V->LV->Hp->VK->Prop)(to:TE):TE:=λσ H Q=>to σ H λx H1=>X2 K T x H1/\r x [] H1 Q
def dW(K:Fg)(T:String)(r:V->LV->Hp->VK->Prop)(to:TE)(t:TA):TE:=λσ H Q=>to σ H λx H1=>X2 K T x H1/\t σ H1 λxs H2=>r x xs H2 Q
variable {o e:Expr}{es:ε}{to:TE}{t:TA}{name:Str}{apos AK:Pos}{T id:String}{r:V->LV->Hp->VK->Prop}
def mw(pa:PlainAttrs T)(slot:Slot T name id)(hty:typeOf (.builtin id)=pure (.type "method_descriptor"))(hm:oP X id r)(ho:PE X o to)
  (BJ:attributeBase o name X.env (eval o X.env)=eval o X.env:=by rfl) (BI:(apos.endLine == AK.line)=true:=by rfl):PE X (.Call (.Attribute o name apos) [] [] AK) (Ya6 X.K T r to):=by
 ac_rfl;refine wpAny_Call_method0_late BJ BI (AH (ho π s σ H _ I h) λv s1 ⟨x,H1,I1,r1,ty,q1⟩=>?_);obtain⟨h1,h2⟩:=nN I1 r1 ty;exact⟨T,id,pa,slot,hty,h1,h2,NQ rfl (Se (hm π s1 σ H1 x [] v [] Q I1 r1 .nil q1))⟩
def Iw(pa:PlainAttrs T)(slot:Slot T name id)(hty:typeOf (.builtin id)=pure (.type "method_descriptor"))(hm:oP X id r)(ho:PE X o to)(ha:PA X (e :: es) t)
  (BJ:attributeBase o name X.env (eval o X.env)=eval o X.env:=by rfl)
  (hfew:((backTo AK (starEach (e :: es) X.env)).all (λx=>!x.1)&&(backToKw AK (keywordEach [] X.env)).all (λx=>x.1.isSome)
   && decide (↑(e :: es) + ↑([]:List Keyword) + (if([]:List Keyword).isEmpty then 0 else 1)<30))=true:=by rfl)
  (BI:(apos.endLine == AK.line)=true:=by rfl) (hs:starEach (e :: es) X.env=(false,eval e X.env):: starEach es X.env:=by rfl) (hplain:(backTo AK (starEach es X.env)).any (·.1)=false:=by rfl):
  PE X (.Call (.Attribute o name apos) (e :: es) [] AK) (dW X.K T r to t):=by
 ac_rfl;refine wpAny_Call_method_late BJ hfew BI rfl (AH (ho π s σ H _ I h) λv s1 ⟨x,H1,I1,r1,ty,q1⟩=>?_);obtain⟨h1,h2⟩:=nN I1 r1 ty;refine⟨T,id,pa,slot,hty,h1,h2,?_⟩;have hA:=ha AK π s1 σ H1 _ I1 q1;rw[hs]at hA ⊢;refine NQ (by show(false || (backTo AK (starEach es X.env)).any (·.1))=false;rw[hplain] <;> rfl) (Calls.evalArgs_plain ?_);exact AH hA λus s2 ⟨vs,H2,I2,r2,q2⟩=>hm π s2 σ H2 x vs v us Q I2 r1 r2 q2
end
def Qg(X:Cx)(id:String)(r:V->LV->Hp->VK->Prop):Prop :=
 ∀(π:PL) (s:Γ) (σ:St) (H:Hp) (x:V) (xs:LV) (v:ω) (us:LU) (Q:VK),Inv X π σ H s->AW x v->AR xs us->r x xs H Q ->
  wpAny (model X.prog X.w) X.A (call (.builtin id) (v :: us)) (EP X π σ Q) X.xe s
def AR.one:∀ {x:V}{us:LU},AR [x] us->∃ u,us=[u]/\AW x u
 | _,_,.cons r .nil=>⟨Z,r⟩
def AR.zero:∀ {us:LU},AR [] us->us=[]
 | _,.nil=>rfl
theorem AR.dropLast{xs:LV}{us:LU}(h:AR xs us):AR xs.dropLast us.dropLast:=by
 induction h with
 | nil=>exact .nil
 | cons r t ih =>
  cases t with
  | nil=>exact .nil
  | cons q t'=>exact .cons r ih
theorem AR.rep{xs:LV}{us:LU}(h:AR xs us):∀ k:Nat,AR (List.replicate k xs).flatten (List.replicate k us).flatten
 | 0=>.nil
 | k + 1=>by
  rw[C7,C7,La,La];exact AR.append h (AR.rep h k)
def vK{α:Type}(l:List α):l.eraseIdx (↑l - 1)=l.dropLast:=by
 induction l with
 | nil=>rfl
 | cons a r ih =>
  cases r with
  | nil=>rfl
  | cons b r =>
   have e:↑(a :: b :: r) - 1=(↑(b :: r) - 1) + 1:=by
    have h1:↑(a :: b :: r)=↑r + 2:=rfl;have h2:↑(b :: r)=↑r + 1:=rfl;omega
   rw[e,List.eraseIdx_cons_succ,ih]
   all_goals rfl
theorem jK(η:LU):∀(k:Nat) (acc:LU),
  List.foldl (λx1 x2=>x1++x2) acc.toArray (List.replicate k η.toArray)=(acc++(List.replicate k η).flatten).toArray
 | 0,acc=>by simp
 | k + 1,acc=>by
  have e:acc.toArray++η.toArray=(acc++η).toArray:=by simp
  have e2:(acc++η)++(List.replicate k η).flatten=acc++(List.replicate (k + 1) η).flatten:=by
   rw[C7,La,LY]
  rw[<- e2,<- jK η k (acc++η),<- e,C7,NH]
section
variable {X:Cx}{π:PL}{σ:St}{H:Hp}{s:Γ}{l b:χ}{xs ys zs:LV}
def Inv.lset{η its':LU}{n:Nat}{f:δ->δ}{t':Nat}(I:Inv X π σ H s)(hH:H l≈(.lst xs))
  (e:s.heap.get? l=some {cls:=.type "list",data:=.seq η.toArray n}) (hf:f η.toArray=its'.toArray) (hv:AR ys its') (hz:↑ys<=sizeLine):
  Inv X π σ (upd H l (.lst ys)) {s with heap:=s.heap.update l (Obj.mapSeq f),toks:=t' }:=by
 have q:=PySem.IsL.update e f;rw[hf]at q;refine I.write (x:=l) (e:=l) (by rw[hH];exact trivial) (.inl rfl) (λb' u hb hu=>(Fq s.heap (Obj.mapSeq f) (Ae hb)).trans hu) ⟨_,q⟩ ?_;exact⟨hz,its',_,hv,q⟩
def Inv.lnew{η:LU}{t':Nat}(I:Inv X π σ H s)(hv:AR ys η)(hz:↑ys<=sizeLine):
  Inv X π σ (upd H ⇑s (.lst ys)) {s with heap:=s.heap.push {cls:=.type "list",data:=.seq η.toArray},toks:=t' } :=
 I.laid (λ_ _ q=>Yb _ q) (Yd _) ⟨hz,η,0,hv,Ye _ rfl⟩
theorem Inv.fresh(I:Inv X π σ H s):H ⇑s=none:=I.hok.fresh (Yd _)
def Inv.lstM(I:Inv X π σ H s)(hH:H l≈(.lst xs)):↑xs<=sizeLine/\∃(η:LU) (n:Nat),AR xs η/\↑xs=↑η/\s.heap.get? l=some {cls:=.type "list",data:=.seq η.toArray n}:=by
 obtain⟨z,η,n,r,e⟩:=I.hok l _ hH;exact⟨z,η,n,r,↑r,e⟩
def i5{n:Nat}(h:n<=sizeLine):Builtin.List.listTooLong n=false:=by
 unfold Builtin.List.listTooLong;exact Jc (by omega)
end
section
variable {X:Cx}
def Z2d:V->LV->Hp->VK->Prop:=λx vs H Q=>∃ l xs y,x=.ref l/\vs=[y]/\H l≈(.lst xs)/\↑xs<sizeLine/\Q .non (upd H l (.lst (xs++[y])))
def QB:Qg X "list.append" Z2d:=by
 intro π s σ H x vs v us Q I rx rv h;obtain⟨l,xs,y,rfl,rfl,hH,hz,q⟩:=h;cases rx;obtain⟨u,rfl,ru⟩:=rv.one;obtain⟨z,η,n,r,hl,e⟩:=I.lstM hH;refine call_meets F.slot_list_append ⟨_,e,Y⟩ F.entry_list_append (F.args_list_append_2 _ _) (PySem.list_append l η.toArray n u (by rw[Yk];omega)) ⟨e,?_⟩;refine⟨.non,_,I.lset (its':=η++[u]) hH e (by simp) (r.append (.cons ru .nil)) ?_,Y,q⟩;rw[Yu,Xg];omega
def Z2c:V->LV->Hp->VK->Prop:=λx vs H Q=>∃ l b xs zs,x=.ref l/\vs=[.ref b]/\H l≈(.lst xs)/\H b≈(.lst zs)/\↑xs + ↑zs<=sizeLine/\Q .non (upd H l (.lst (xs++zs)))
def uB:Qg X "list.extend" Z2c:=by
 intro π s σ H x vs v us Q I rx rv h;obtain⟨l,b,xs,zs,rfl,rfl,hH,hB,hz,q⟩:=h;cases rx;obtain⟨u,rfl,ru⟩:=rv.one;cases ru;obtain⟨z,η,n,r,hl,e⟩:=I.lstM hH;obtain⟨z2,Cf,n2,r2,Ap,e2⟩:=I.lstM hB;have hsz:η.toArray.size + Cf.toArray.size<=sizeLine:=by rw[Yk,Yk];omega
 have hlong:¬ (!η.toArray.isEmpty&&Builtin.List.listTooLong (η.toArray.size + Cf.toArray.size))=true:=by
  rw[i5 hsz,Bool.and_false];exact Yh
 refine call_meets F.slot_list_extend ⟨_,e,Y⟩ F.entry_list_extend (F.args_list_extend_2 _ _)
  (AutoSeq1.list_extend_list_list_0 l η.toArray n b Cf.toArray n2 hlong (by rw[Yk];omega) (by omega)) ⟨e,e2,?_⟩
 refine⟨.non,_,I.lset (its':=η++Cf) hH e (by simp) (r.append r2) ?_,Y,q⟩;rw[Yu];omega
def Ybq:V->LV->Hp->VK->Prop:=λx vs H Q=>∃ l xs y,x=.ref l/\vs=[]/\H l≈(.lst xs)/\xs[↑xs - 1]?≈y/\Q y (upd H l (.lst xs.dropLast))
def nQ:Qg X "list.pop" Ybq:=by
 intro π s σ H x vs v us Q I rx rv h;obtain⟨l,xs,y,rfl,rfl,hH,hy,q⟩:=h;cases rx;have hus:=rv.zero;subst hus;obtain⟨z,η,n,r,hl,e⟩:=I.lstM hH;obtain⟨u,hu,ru⟩:=r.get hy;have Hg:η.toArray[η.toArray.size - 1]?≈u:=by
  show η.toArray[↑η - 1]?≈u;rw[<- JQ,<- hl];exact hu
 refine call_meets F.slot_list_pop ⟨_,e,Y⟩ F.entry_list_pop (F.args_list_pop_1 _) (MeetsSeq.list_pop_last l η.toArray n u Hg (by rw[Yk];omega)) ⟨e,?_⟩;refine⟨y,_,I.lset (its':=η.dropLast) hH e ?_ r.dropLast ?_,ru,q⟩
 ·show η.toArray.eraseIdxIfInBounds (η.toArray.size - 1)=η.dropLast.toArray;rw[Yk,List.eraseIdxIfInBounds_toArray,vK]
 ·rw[Xd];omega
def Ybt:R2:=λx y H Q=>∃ l b xs zs,x=.ref l/\y=.ref b/\H l≈(.lst xs)/\H b≈(.lst zs)/\↑xs + ↑zs<=sizeLine/\∀ p,H p=none->Q (.ref p) (upd H p (.lst (xs++zs)))
def ZF:BP X (binaryOp .Add) Ybt:=by
 exfalso;obtain⟨l,b,xs,zs,rfl,rfl,hH,hB,hz,q⟩:=h;cases rx;cases ry;obtain⟨z,η,n,r,hl,e⟩:=I.lstM hH;obtain⟨z2,Cf,n2,r2,Ap,e2⟩:=I.lstM hB;refine PySem.P.add_list e e2 ?_ (by rw[Yk,Yk];omega);have ea:η.toArray++Cf.toArray=(η++Cf).toArray:=by simp
 rw[ea];exact⟨.ref _,_,I.lnew (t':=s.toks) (r.append r2) (by rw[Yu];omega),Y,q _ I.fresh⟩
def lT:R2:=λx y H Q=>∃ l k xs,x=.ref l/\y=.int k/\H l≈(.lst xs)/\-(2 ^ 63)<=k/\k<2 ^ 63/\↑xs * k.toNat<=sizeLine /\
 ∀ p,H p=none->Q (.ref p) (upd H p (.lst (List.replicate k.toNat xs).flatten))
def zx{α:Type}(xs:List α)(k:Nat):(List.replicate k xs).flatten.length=k * ↑xs:=by
 induction k with
 | zero=>simp
 | succ k ih=>rw[C7,La,Yu,ih,Nat.succ_mul,Nat.add_comm]
def ZL:BP X (binaryOp .Mult) lT:=by
 exfalso;obtain⟨l,k,xs,rfl,rfl,hH,h1,h2,hz,q⟩:=h;cases rx;obtain⟨t,rfl⟩:=ry;obtain⟨z,η,n,r,hl,e⟩:=I.lstM hH;have hlen:η.toArray.size * k.toNat<=sizeLine:=by rw[Yk,<- hl];exact hz
 have hcap:¬ η.toArray.size * k.toNat > (2 ^ 63 - 1) / 8:=by
  have:(sizeLine:Nat)<=(2 ^ 63 - 1) / 8:=by decide
  omega
 have hfit:¬ (!Builtin.List.listFitsIndex k)=true:=by
  rw[fitsIndex_both h1 h2];exact Yh
 have hlong:¬ Builtin.List.listTooLong (η.toArray.size * k.toNat)=true:=by
  rw[i5 hlen];exact Yh
 have Av:List.foldl (λx1 x2=>x1++x2) #[] (List.replicate (if η.toArray.isEmpty=true then 0 else k.toNat) η.toArray)=(List.replicate k.toNat η).flatten.toArray:=by
  have f0:∀ m:Nat,List.foldl (λx1 x2=>x1++x2) #[] (List.replicate m η.toArray)=(List.replicate m η).flatten.toArray:=λm=>by
   have:=jK η m [];rw[List.nil_append]at this;exact this
  rw[f0];cases η with
  | nil=>simp
  | cons a r'=>rw[if_neg (by simp)]
 refine wpAny_binaryOp_repeat_ref (T:="list") (U:="int") (by decide) ⟨_,e,Y⟩ (λs'=>typeIs_int s' k t) noFill_list_mul F.fills_int_mul F.slot_int_rmul repeat_list F.slot_int_index.lookup
  (call_meets F.slot_int_rmul (typeIs_int s k t) F.entry_int_rmul (F.args_int_rmul_2 _ _) (int___rmul___int_list k t l η.toArray n)
   ⟨e,Y,⟨_,e,Y⟩,call_meets F.slot_list_mul ⟨_,e,Y⟩ F.entry_list_mul (F.args_list_mul_2 _ _) (AutoListH.list___mul___list_int_3 l η.toArray n k t hfit hcap hlong) ⟨e,?_⟩⟩)
 rw[Av];exact⟨.ref _,_,I.lnew (t':=s.toks) (r.rep k.toNat) (by rw[zx,Nat.mul_comm];exact hz),Y,q _ I.fresh⟩
end
section
variable {prog:Δ}{w:World}{A:Around}{E:EV}{s:Γ}
end
section
variable {X:Cx}
end
section
variable {κ:Type}[DecidableEq κ]
def A0(ν:List (κ×V))(k:κ):OV:=(ν.find? λkv=>decide (kv.1=k)).map (·.2)
def BD(ν:List (κ×V))(k:κ)(v:V):List (κ×V):=
 if(ν.any λkv=>decide (kv.1=k))=true then ν.map (λkv=>if kv.1=k then(kv.1,v)else kv)else ν++[(k,v)]
def JE{p:κ×V}{r:List (κ×V)}{k:κ}(e:p.1=k):A0 (p :: r) k≈p.2:=by simp[A0,IM,e]
def JD{p:κ×V}{r:List (κ×V)}{k:κ}(e:¬ p.1=k):A0 (p :: r) k=A0 r k:=by simp[A0,IM,e]
theorem Rt(k:κ):∀ ν:List (κ×V),(ν.any λkv=>decide (kv.1=k))=(A0 ν k).isSome
 | []=>rfl
 | p :: r=>by
  rw[IG];by_cases e:p.1=k
  ·simp only[JE e,Jb e,Bool.true_or,Option.isSome_some]
  ·rw[JD e,Jc e,Bool.false_or];exact Rt k r
def aQ(ν:List (κ×V))(k:κ)(v:V):↑(BD ν k v)<=↑ν + 1:=by
 unfold BD;split
 ·rw[Ya];omega
 ·rw[Yu,Bt,List.length_nil];omega
def Mu{ν:List (κ×V)}{k:κ}(v:V)(h:A0 ν k=none):BD ν k v=ν++[(k,v)]:=by
 unfold BD;rw[Rt,h];exact if_neg (by decide)
def CZ.isSome_eq{o:OV}{u:OU}(r:CZ o u):o.isSome=u.isSome:=by
 cases o with
 | none=>cases u with
  | none=>rfl
  | some _=>exact(show False from r).elim
 | some _=>cases u with
  | none=>exact(show False from r).elim
  | some _=>rfl
theorem CZ.getD{o:OV}{u:OU}{d:V}{d':ω}(r:CZ o u)(rd:AW d d'):AW (o.getD d) (u.getD d'):=by
 cases o with
 | none=>cases u with
  | none=>exact rd
  | some _=>exact(show False from r).elim
 | some _=>cases u with
  | none=>exact(show False from r).elim
  | some _=>exact r
def KV.val{ν:List (κ×V)}{vs:List (κ×ω)}(r:KV ν vs)(k:κ):CZ (A0 ν k) (valueAt vs k):=by
 unfold KV at r
 induction r with
 | nil=>exact True.intro
 | @cons p q ps qs h t ih =>
  obtain⟨h1,h2⟩:=h;by_cases e:p.1=k
  ·have e':q.1=k:=h1.symm.trans e;have b:valueAt (q :: qs) k≈q.2:=by simp[valueAt,IM,e']
   rw[JE e,b];exact h2
  ·have e':¬ q.1=k:=λz=>e (h1.trans z);have b:valueAt (q :: qs) k=valueAt qs k:=by simp[valueAt,IM,e']
   rw[JD e,b];exact ih
theorem KV.any{ν:List (κ×V)}{vs:List (κ×ω)}(r:KV ν vs)(k:κ):(ν.any λkv=>decide (kv.1=k))=vs.any λkv=>decide (kv.1=k):=by
 unfold KV at r
 induction r with
 | nil=>rfl
 | cons h t ih=>rw[IG,IG,ih,h.1]
def KV.repl{ν:List (κ×V)}{vs:List (κ×ω)}(r:KV ν vs)(k:κ){y:V}{u:ω}(ry:AW y u):
  KV (ν.map λkv=>if kv.1=k then(kv.1,y)else kv) (vs.map λkv=>if kv.1=k then(kv.1,u)else kv):=by
 unfold KV at r ⊢
 induction r with
 | nil=>exact .nil
 | @cons p q ps qs h t ih =>
  rw[Ys,Ys];refine .cons ?_ ih;obtain⟨h1,h2⟩:=h;by_cases e:p.1=k
  ·rw[if_pos e,if_pos (h1.symm.trans e)];exact⟨h1,ry⟩
  ·rw[if_neg e,if_neg (λz=>e (h1.trans z))];exact⟨h1,h2⟩
def KV.put{ν:List (κ×V)}{vs:List (κ×ω)}(r:KV ν vs)(k:κ){y:V}{u:ω}(ry:AW y u):KV (BD ν k y) (stored vs k u):=by
 unfold BD stored;rw[r.any k];by_cases e:(vs.any λkv=>decide (kv.1=k))=true
 ·rw[if_pos e,if_pos e];exact r.repl k ry
 ·rw[if_neg e,if_neg e];exact IJ r ⟨Y,ry⟩
theorem KV.length{ν:List (κ×V)}{vs:List (κ×ω)}(r:KV ν vs):↑ν=↑vs:=BO r
end
def Iu{P:Δ}{w:World}{k:Key}{u:ω}(r:AW (kV k) u):(BV P w).is k u=true:=by
 cases k with
 | inl i=>obtain⟨t,e⟩:=(show ∃ t,u=Value.int i t from r);subst e;exact wG P w i t
 | inr x=>obtain⟨t,e⟩:=(show ∃ t,u=Value.str x t from r);subst e;exact wH P w x t
theorem jN{P:Δ}{w:World}:∀ {ks:List Key}{us:LU},AR (ks.map kV) us->ItemsAre (BV P w) ks us
 | [],_,r=>by rw[List.map_nil]at r;cases r;exact .nil
 | k :: ks,_,r=>by
  rw[Ys]at r;cases r with
  | cons h t=>exact .cons (Iu h) (jN t)
abbrev KT(H:Hp):List (List Key×V)->List (List Key×χ×ω)->Prop:=Paired λp q=>p.1=q.1/\H q.2.1≈(.tup (p.1.map kV))/\AW p.2 q.2.2
def KT.val{H:Hp}{ν:List (List Key×V)}{xs:List (List Key×χ×ω)}(r:KT H ν xs)(k:List Key):CZ (A0 ν k) ((atKey xs k).map (·.2)):=by
 induction r with
 | nil=>exact True.intro
 | @cons p q ps qs h t ih =>
  obtain⟨h1,_,h2⟩:=h;by_cases e:p.1=k
  ·have e':q.1=k:=h1.symm.trans e;have b:atKey (q :: qs) k≈q.2:=by simp[atKey,IM,e']
   rw[JE e,b];exact h2
  ·have e':¬ q.1=k:=λz=>e (h1.trans z);have b:atKey (q :: qs) k=atKey qs k:=by simp[atKey,IM,e']
   rw[JD e,b];exact ih
def KT.repl{H:Hp}{ν:List (List Key×V)}{xs:List (List Key×χ×ω)}(r:KT H ν xs)(k:List Key){y:V}{u:ω}(ry:AW y u):
  KT H (ν.map λkv=>if kv.1=k then(kv.1,y)else kv) (xs.map (putAt k u)):=by
 induction r with
 | nil=>exact .nil
 | @cons p q ps qs h t ih =>
  rw[Ys,Ys];refine .cons ?_ ih;obtain⟨h1,h2,h3⟩:=h;unfold putAt;by_cases e:p.1=k
  ·rw[if_pos e,if_pos (h1.symm.trans e)];exact⟨h1,h2,ry⟩
  ·rw[if_neg e,if_neg (λz=>e (h1.trans z))];exact⟨h1,h2,h3⟩
def KT.put{H:Hp}{ν:List (List Key×V)}{xs:List (List Key×χ×ω)}(r:KT H ν xs)(k:List Key){b:χ}{y:V}{u:ω}(hb:H b≈(.tup (k.map kV)))(ry:AW y u):
  KT H (BD ν k y) (storedH xs k b u):=by
 have e:(ν.any λkv=>decide (kv.1=k))=(atKey xs k).isSome:=by
  rw[Rt,(r.val k).isSome_eq,SS]
 unfold BD storedH;rw[e];by_cases q:(atKey xs k).isSome=true
 ·rw[if_pos q,if_pos q];exact r.repl k ry
 ·rw[if_neg q,if_neg q];exact IJ r ⟨Y,hb,ry⟩
def KT.keeps{H H':Hp}{ν:List (List Key×V)}{xs:List (List Key×χ×ω)}(r:KT H ν xs)(ht:∀ b ys,H b≈(.tup ys)->H' b≈(.tup ys)):KT H' ν xs :=
 Paired.mapP r λ_ _ z=>⟨z.1,ht _ _ z.2.1,z.2.2⟩
section
variable {P:Δ}{w:World}{H:Hp}{h:Heap}{a:χ}
def mE{u:HO}(ok:BF P w H h)(e:Rd H a u):A1 P w H h a u:=e.ok ok
def Kk{ν:KL}(ok:BF P w H h)(e:Rd H a (.dK ν)):↑ν<=sizeLine/\(a == sysModules)=false/\∃ vs,KV ν vs/\h.DictOf (BV P w) a vs :=
 show A1 P w H h a (.dK ν)from mE ok e
def l9{ν:KL}(ok:BF P w H h)(e:H a≈(.dK ν)):↑ν<=sizeLine/\(a == sysModules)=false/\∃ vs,KV ν vs/\h.DictOf (BV P w) a vs:=Kk ok (.inl e)
def Mo{ks:List Key}(ok:BF P w H h)(e:H a≈(.tup (ks.map kV))):(tupleKind (BV P w)).is h ks a:=by
 obtain⟨_,η,r,o,h1,h2,n,h3⟩:=(show A1 P w H h a (.tup (ks.map kV))from ok a _ e);exact⟨o,η.toArray,n,h1,h2,h3,by simpa using jN r⟩
def Mc{ν:List (List Key×V)}(ok:BF P w H h)(e:Rd H a (.dT ν)):↑ν<=sizeLine/\(a == sysModules)=false /\
  ∃ xs,KT H ν xs/\h.DictOfH (tupleKind (BV P w)) a xs:=by
 obtain⟨z,y,xs,r,o,es,ep,h1,h2,h3,h4,h5⟩:=(show A1 P w H h a (.dT ν)from mE ok e);refine⟨z,y,xs,r,o,es,ep,h1,h2,h3,h4,λx hx=>?_,h5⟩;have all:∀ {l:List (List Key×V)} {m:List (List Key×χ×ω)},KT H l m->∀ x∈m,(tupleKind (BV P w)).is h x.1 x.2.1:=by
  intro l m q
  induction q with
  | nil=>intro x hx;exact nomatch hx
  | @cons p q ps qs hq t ih =>
   intro x hx
   rcases Bj.mp hx with e | hx
   ·subst e;exact Mo ok (by rw[<- hq.1];exact hq.2.1)
   ·exact ih x hx
 exact all r x hx
def xc{ν:List (List Key×V)}(ok:BF P w H h)(e:H a≈(.dT ν)):↑ν<=sizeLine/\(a == sysModules)=false /\
  ∃ xs,KT H ν xs/\h.DictOfH (tupleKind (BV P w)) a xs:=Mc ok (.inl e)
end
def BB(H:Hp)(a:χ)(y:V)(r:OV):Prop :=
 (∃ ν k,Rd H a (.dK ν)/\y=kV k/\r=A0 ν k)\/∃ ν k b,Rd H a (.dT ν)/\y=.ref b/\H b≈(.tup (k.map kV))/\r=A0 ν k
def DS(H:Hp)(a:χ)(y v:V)(H':Hp):Prop :=
 (∃ ν k,H a≈(.dK ν)/\y=kV k/\↑ν<sizeLine/\H'=upd H a (.dK (BD ν k v))) \/
 ∃ ν k b,H a≈(.dT ν)/\y=.ref b/\H b≈(.tup (k.map kV))/\↑ν<sizeLine/\H'=upd H a (.dT (BD ν k v))
def BB.k{H:Hp}{a:χ}{ν:KL}{k:Key}(e:H a≈(.dK ν)):BB H a (kV k) (A0 ν k):=.inl ⟨ν,k,.inl e,Y,Y⟩
def BB.t{H:Hp}{a b:χ}{ν:List (List Key×V)}{k:List Key}(e:H a≈(.dT ν))(eb:H b≈(.tup (k.map kV))):BB H a (.ref b) (A0 ν k):=.inr ⟨ν,k,b,.inl e,Y,eb,Y⟩
def DS.k{H:Hp}{a:χ}{ν:KL}{k:Key}{v:V}(e:H a≈(.dK ν))(hl:↑ν<sizeLine):DS H a (kV k) v (upd H a (.dK (BD ν k v))):=.inl ⟨ν,k,e,Y,hl,Y⟩
def DS.t{H:Hp}{a b:χ}{ν:List (List Key×V)}{k:List Key}{v:V}(e:H a≈(.dT ν))(eb:H b≈(.tup (k.map kV)))(hl:↑ν<sizeLine):
  DS H a (.ref b) v (upd H a (.dT (BD ν k v))):=.inr ⟨ν,k,b,e,Y,eb,hl,Y⟩
section
variable {X:Cx}{π:PL}{σ:St}{H:Hp}{s:Γ}{a:χ}{y v:V}{u r:ω}{o:OV}{A:Around}{E:EV}
def Inv.big(I:Inv X π σ H s):sysModules<⇑s:=by
 have h:mainGlobals<⇑s:=(I.mod.glob.keeps I.bk).lt;exact IP (by decide) h
def tW{Q:EV}(hu:A.units + 1<cLine)(I:Inv X π σ H s)(g:BB H a y (↥v))(ry:AW y u)(h:∀ w' s',Inv X π σ H s'->AW v w'->Q w' s'):
  wpAny (model X.prog X.w) A (getItem (.ref a) u) Q E s:=by
 rcases g with⟨ν,k,e,ey,l⟩ | ⟨ν,k,b,e,ey,eb,l⟩
 ·subst ey;obtain⟨z,hd,vs,rel,dd⟩:=Kk I.hok e;obtain⟨w',hw,BQ⟩:=CZ.some_of (v:=v) (o:=valueAt vs k) (by rw[l];exact rel.val k);exact wpAny_getItem_of (Iu ry) dd.mapOf hw (h w' _ (I.tok _) BQ)
 ·subst ey;cases(show u=Value.ref b from ry);obtain⟨z,hd,xs,rel,dd⟩:=Mc I.hok e;obtain⟨w',hw,BQ⟩:=CZ.some_of (v:=v) (o:=(atKey xs k).map (·.2)) (by rw[l];exact rel.val k);obtain⟨p,hp,FA⟩:=Fp.mp hw;refine wpAny_getItem_heap (tupleKind_room_in1 hu) (Mo I.hok eb) dd hp ?_;rw[FA];exact h w' _ (I.tok _) BQ
def Yb4{Q:EV}(hu:A.units + 1<cLine)(I:Inv X π σ H s)(g:BB H a y o)(ry:AW y u)(h:∀ s',Inv X π σ H s'->Q (.bool o.isSome) s'):
  wpAny (model X.prog X.w) A (compareOp .In u (.ref a)) Q E s:=by
 rcases g with⟨ν,k,e,ey,l⟩ | ⟨ν,k,b,e,ey,eb,l⟩
 ·subst ey;obtain⟨z,hd,vs,rel,dd⟩:=Kk I.hok e;refine wpAny_in_of (Iu ry) hd dd.mapOf ?_;rw[<- (rel.val k).isSome_eq,<- l];exact h _ (I.tok _)
 ·subst ey;cases(show u=Value.ref b from ry);obtain⟨z,hd,xs,rel,dd⟩:=Mc I.hok e;refine wpAny_in_heap (tupleKind_room_in1 hu) (Mo I.hok eb) hd dd ?_;have q:=(rel.val k).isSome_eq;rw[SS]at q;rw[<- q,<- l];exact h _ (I.tok _)
def Z32{Q:EV}(hu:A.units + 1<cLine)(I:Inv X π σ H s)(g:BB H a y o)(ry:AW y u)(h:∀ s',Inv X π σ H s'->Q (.bool (!o.isSome)) s'):
  wpAny (model X.prog X.w) A (compareOp .NotIn u (.ref a)) Q E s:=by
 rcases g with⟨ν,k,e,ey,l⟩ | ⟨ν,k,b,e,ey,eb,l⟩
 ·subst ey;obtain⟨z,hd,vs,rel,dd⟩:=Kk I.hok e;refine wpAny_notIn_of (Iu ry) hd dd.mapOf ?_;rw[<- (rel.val k).isSome_eq,<- l];exact h _ (I.tok _)
 ·subst ey;cases(show u=Value.ref b from ry);obtain⟨z,hd,xs,rel,dd⟩:=Mc I.hok e;refine wpAny_notIn_heap (tupleKind_room_in1 hu) (Mo I.hok eb) hd dd ?_;have q:=(rel.val k).isSome_eq;rw[SS]at q;rw[<- q,<- l];exact h _ (I.tok _)
def WB{h':Heap}{t':Nat}{ob:HO}(I:Inv X π σ H s)(mu:Sl (H a))(hs:Heap.SameBut a s.heap h')(he:∃ q,h'.get? a≈q)(new:A1 X.prog X.w (upd H a ob) h' a ob):
  Inv X π σ (upd H a ob) {s with heap:=h',toks:=t' } :=
 I.write (x:=a) (e:=a) mu (.inl rfl) (λb q hb z=>(hs.2 b hb).trans z) he new
def mX{P:Δ}{w:World}{H':Hp}{h':Heap}{ν:KL}{vs:List (Key×ω)}(z:↑ν<=sizeLine)(hd:(a == sysModules)=false)(rel:KV ν vs)(dd:h'.DictOf (BV P w) a vs):
  A1 P w H' h' a (.dK ν):=⟨z,hd,vs,rel,dd⟩
def tX{H':Hp}{Q:Unit->Γ->Prop}(hu:A.units + 1<cLine)(I:Inv X π σ H s)(g:DS H a y v H')(ry:AW y u)(rv:AW v r)(h:∀ s',Inv X π σ H' s'->Q () s'):
  wpAny (model X.prog X.w) A (setItem (.ref a) u r) Q E s:=by
 rcases g with⟨ν,k,e,ey,l,eH⟩ | ⟨ν,k,b,e,ey,eb,l,eH⟩
 ·subst ey eH;obtain⟨z,hd,vs,rel,dd⟩:=l9 I.hok e;have hz:↑vs<=sizeLine:=by rw[<- ↑rel];exact z
  have hl:↑(BD ν k v)<=sizeLine:=by have:=aQ ν k v;omega
  refine wpAny_setItem_pairs (hsz:=hz) (Iu ry) dd λh' F8 hs=>h _ ?_;have he:∃ q,h'.get? a≈q:=let⟨q,_,_,hq,_⟩:=F8;⟨q,hq⟩;exact WB I (by rw[e];exact True.intro) hs he (mX hl hd (rel.put k rv) F8)
 ·subst ey eH;cases(show u=Value.ref b from ry);obtain⟨z,hd,xs,rel,dd⟩:=xc I.hok e;have hz:↑xs<=sizeLine:=by rw[<- BO rel];exact z
  have hl:↑(BD ν k v)<=sizeLine:=by have:=aQ ν k v;omega
  refine wpAny_setItem_heap (hsz:=hz) (tupleKind_room_in1 hu) (Mo I.hok eb) dd λh' F8 hs=>h _ ?_;obtain⟨q,es,ep,hq,h2,h3,h4,_,h5⟩:=F8;refine WB I (by rw[e];exact True.intro) hs ⟨q,hq⟩ ⟨hl,hd,_,(rel.put k eb rv).keeps λc ys ec=>?_,q,es,ep,hq,h2,h3,h4,h5⟩;rw[AE (yC ec e (λz=>nomatch z))];exact ec
end
section
variable {X:Cx}{π:PL}{σ:St}{H:Hp}{s:Γ}{a:χ}{ν:KL}{k:Key}{u:ω}{A:Around}{E:EV}
end
def XB(i:Expr):Prop:=∀ ov iv,subscripted i false ov iv=operate [ov,iv] (getItem ov iv)
def hV{prog:Δ}{w:World}{A:Around}{E:EV}{s:Γ}{env:Env}{value slice:Expr}{pos:Pos}{T id:String}{Q:EV}
  (hl:typeLookup (.type T) "__getitem__"=pure (↥(.builtin id))) (hs:XB slice)
  (h:wpAny (model prog w) A (eval value env) (λo s₁=>wpAny (model prog w) A (eval slice env) (λi s₂=>s₂.TypeIs o T/\wpAny (model prog w) A (getItem o i) Q E s₂) E s₁) E s):
  wpAny (model prog w) A (eval (.Subscript value slice pos) env) Q E s:=by
 refine Subscript_ (Jf h (λo s₁ h₁=>Jf h₁ (λi s₂ h₂=>?_) λ_ _ x=>x) λ_ _ x=>x);obtain⟨hT,h₂⟩:=h₂;unfold subscriptTail;refine Ja ?_;rw[getitemInPython_of_ne hT.not_modules];refine Ja (wpAny_specialOf hT hl ?_);have fin:wpAny (model prog w) A (subscripted slice false o i) (λr s₃=>wpAny (model prog w) A (letTemporaryGo value o r>>=λ_=>pure r) Q E s₃) E s₂:=by
  rw[hs o i];exact wpAny_operating (Jf h₂ (λr s₃ h₃=>Ja (wpAny_letTemporaryGo (Jd h₃))) λ_ _ x=>x)
 first
  | exact Jd (Ja fin)
  | exact Ja (Jd (Ja fin))
  | exact Ja fin
def wN{X:Cx}{π:PL}{σ:St}{H:Hp}{s:Γ}{a:χ}{y:V}{o:OV}(I:Inv X π σ H s)(g:BB H a y o):s.TypeIs (.ref a) "dict":=by
 rcases g with⟨ν,k,e,_,_⟩ | ⟨ν,k,b,e,_,_,_⟩
 ·obtain⟨_,_,vs,_,dd⟩:=Kk I.hok e;exact dd.typeIs
 ·obtain⟨_,_,xs,_,dd⟩:=Mc I.hok e;exact dd.typeIs
def yO(td ty:TE):TE:=λσ H Q=>td σ H λx H1=>ty σ H1 λy H2=>∃ a v,x=.ref a/\BB H2 a y (↥v)/\Q v H2
def Ya5(ty td:TE):TE:=λσ H Q=>ty σ H λy H1=>td σ H1 λx H2=>∃ a o,x=.ref a/\BB H2 a y o/\Q (.bl o.isSome) H2
def Z1q(ty td:TE):TE:=λσ H Q=>ty σ H λy H1=>td σ H1 λx H2=>∃ a o,x=.ref a/\BB H2 a y o/\Q (.bl (!o.isSome)) H2
def mM(td ty tv:TE):TS:=λD σ H=>tv σ H λv H1=>td σ H1 λx H2=>ty σ H2 λy H3=>∃ a H4,x=.ref a/\DS H3 a y v H4/\D.nx σ H4
section
variable {X:Cx}{o i e value:Expr}{pos pos' C_:Pos}{td ty tv:TE}
def Kx(hu:X.A.units + 1<cLine)(ho:PE X o td)(hi:PE X i ty)(hs:XB i):PE X (.Subscript o i pos) (yO td ty):=by
 ac_rfl;refine hV PySem.F.slot_dict_getitem.lookup hs (AH (ho π s σ H _ I h) λu s1 ⟨x,H1,I1,rx,q1⟩=>AH (hi π s1 σ H1 _ I1 q1) λiv s2 ⟨y,H2,I2,ry,a,v,ex,g,q2⟩=>?_);subst ex;obtain rfl:u=Value.ref a:=rx;exact⟨wN I2 g,tW hu I2 g ry λw' s3 I3 BQ=>⟨v,H2,I3,BQ,q2⟩⟩
def RV(hu:X.A.units + 1<cLine)(hi:PE X i ty)(ho:PE X o td):PC X .In i o (Ya5 ty td):=by
 ac_rfl;refine AH (hi π s σ H _ I h) λiv s1 ⟨y,H1,I1,ry,q1⟩=>AH (ho π s1 σ H1 _ I1 q1) λu s2 ⟨x,H2,I2,rx,a,ov,ex,g,q2⟩=>?_;subst ex;obtain rfl:u=Value.ref a:=rx;exact Yb4 hu I2 g ry λs3 I3=>⟨.bl ov.isSome,H2,I3,Y,q2⟩
def Z_(hu:X.A.units + 1<cLine)(hi:PE X i ty)(ho:PE X o td):PC X .NotIn i o (Z1q ty td):=by
 ac_rfl;refine AH (hi π s σ H _ I h) λiv s1 ⟨y,H1,I1,ry,q1⟩=>AH (ho π s1 σ H1 _ I1 q1) λu s2 ⟨x,H2,I2,rx,a,ov,ex,g,q2⟩=>?_;subst ex;obtain rfl:u=Value.ref a:=rx;exact Z32 hu I2 g ry λs3 I3=>⟨.bl (!ov.isSome),H2,I3,Y,q2⟩
def Gi(hu:X.A.units + 1<cLine)(ho:PE X o td)(hi:PE X i ty)(hv:PE X value tv)(hs:swapsWith value (↥(.Subscript o i pos')) pos.line X.env=pure false):
  PS X (.Assign [.Subscript o i pos'] value pos) (mM td ty tv):=by
 intro π s σ H D I h;refine wpAny_Assign_Subscript (AH (hv π s σ H _ I h) λr s1 ⟨v,H1,I1,rv,q1⟩=>AH (ho π s1 σ H1 _ I1 q1) λu s2 ⟨x,H2,I2,rx,q2⟩=>AH (hi π s2 σ H2 _ I2 q2) λiv s3 ⟨y,H3,I3,ry,a,H4,ex,g,q3⟩=>?_) hs;subst ex;obtain rfl:u=Value.ref a:=rx;exact tX hu I3 g ry rv λs4 I4=>⟨σ,H4,I4,q3⟩
end
def iL{P:Δ}{w:World}{H:Hp}(h:Heap)(hb:sysModules<h.objs.size):A1 P w H (h.push {cls:=.type "dict",data:=.dict #[] }) h.objs.size (.dK []):=
 ⟨Bm _,Lj.mpr (Ae (Yl hb)),[],.nil,Heap.DictOf.new h⟩
def rT{P:Δ}{w:World}{H:Hp}(h:Heap)(hb:sysModules<h.objs.size):A1 P w H (h.push {cls:=.type "dict",data:=.dict #[] }) h.objs.size (.dT []):=
 ⟨Bm _,Lj.mpr (Ae (Yl hb)),[],.nil,_,#[],0,Ye _ rfl,⟨Y,Y,Y⟩,Y,Y,List.nodup_nil⟩
def zY:TE:=λ_ H Q=>∀ p,H p=none->Q (.ref p) (upd H p (.dK []))
def za:TE:=λ_ H Q=>∀ p,H p=none->Q (.ref p) (upd H p (.dT []))
section
variable {X:Cx}{pos:Pos}
def Ro:PE X (.Dict [] [] pos) zY:=λπ s σ H Q I h =>
 wpAny_Dict_empty ⟨.ref ⇑s,_,I.laid (a:=⇑s) (o:=.dK []) (t':=s.toks) (λ_ _ q=>Yb _ q) (Yd _) (iL s.heap I.big),Y,h _ (I.hok.fresh (Yd _))⟩
def K6:PE X (.Dict [] [] pos) za:=λπ s σ H Q I h =>
 wpAny_Dict_empty ⟨.ref ⇑s,_,I.laid (a:=⇑s) (o:=.dT []) (t':=s.toks) (λ_ _ q=>Yb _ q) (Yd _) (rT s.heap I.big),Y,h _ (I.hok.fresh (Yd _))⟩
end
def ZM:List (TE×TE)->St->Hp->(List (V×V)->Hp->Prop)->Prop
 | [],_,H,Q=>Q [] H
 | (tk,tv):: r,σ,H,Q=>tk σ H λx H1=>tv σ H1 λy H2=>ZM r σ H2 λps H3=>Q ((x,y):: ps) H3
abbrev VV:List (V×V)->List (ω×ω)->Prop:=Paired λp q=>AW p.1 q.1/\AW p.2 q.2
def Xu(X:Cx)(pos:Pos)(keys:List (Option Expr))(values:ε)(trs:List (TE×TE)):Prop :=
 ∀(π:PL) (s:Γ) (σ:St) (H:Hp) (Q:List (V×V)->Hp->Prop),Inv X π σ H s->ZM trs σ H Q ->
  wpAny (model X.prog X.w) X.A (evalPairs (pairTrees keys values X.env pos)) (λvs s'=>∃ ps H',Inv X π σ H' s'/\VV ps vs/\Q ps H') X.xe s
def Z2g{X:Cx}{pos:Pos}:Xu X pos [] [] []:=λπ s σ H Q I h=>pairTrees_nil_walk ⟨[],H,I,.nil,h⟩
def sM{X:Cx}{pos:Pos}{k v:Expr}{ks:List (Option Expr)}{vs:ε}{tk tv:TE}{trs:List (TE×TE)}(hk:PE X k tk)(hv:PE X v tv)(hr:Xu X pos ks vs trs):
  Xu X pos (↥k :: ks) (v :: vs) ((tk,tv):: trs):=λπ s σ H Q I h =>
 pairTrees_cons_walk (AH (hk π s σ H _ I h) λu s1 ⟨x,H1,I1,rx,q1⟩=>AH (hv π s1 σ H1 _ I1 q1) λw2 s2 ⟨y,H2,I2,ry,q2⟩ =>
  AH (hr π s2 σ H2 _ I2 q2) λws s3 ⟨ps,H3,I3,rel,q3⟩=>⟨(x,y):: ps,H3,I3,.cons ⟨rx,ry⟩ rel,q3⟩)
def RZ(ν more:KL):KL:=more.foldl (λacc kv=>BD acc kv.1 kv.2) ν
def KV.merge:∀ {more:KL}{rs:List (Key×ω)}{ν:KL}{vs:List (Key×ω)},KV more rs->KV ν vs->KV (RZ ν more) (merged vs rs):=by
 intro more rs ν vs r;unfold KV at r
 induction r generalizing ν vs with
 | nil=>intro q;exact q
 | @cons p q ps qs h t ih =>
  intro r0;have e:KV (BD ν p.1 p.2) (stored vs q.1 q.2):=by
   have:=r0.put p.1 h.2;rw[<- h.1];exact this
  exact ih e
theorem kg:∀(more ν:KL),↑(RZ ν more)<=↑ν + ↑more
 | [],ν=>by show ↑ν<=↑ν + 0;omega
 | p :: r,ν=>by
  have h1:=kg r (BD ν p.1 p.2);have h2:=aQ ν p.1 p.2;show↑(RZ (BD ν p.1 p.2) r)<=_;rw[Bt];omega
theorem jw{P:Δ}{w:World}:∀ {ν:KL}{ws:List (ω×ω)},VV (ν.map λkv=>(kV kv.1,kv.2)) ws->∃ rs,Carries (BV P w) ws rs/\KV ν rs
 | [],_,r=>by rw[List.map_nil]at r;cases r;exact⟨[],True.intro,.nil⟩
 | p :: ν,_,r=>by
  rw[Ys]at r;cases r with
  | @cons a b as bs h t =>
   obtain⟨rs,c,q⟩:=jw (P:=P) (w:=w) t;obtain⟨b1,b2⟩:=b;exact⟨(p.1,b2):: rs,⟨Iu h.1,Y,c⟩,.cons ⟨Y,h.2⟩ q⟩
def yP(trs:List (TE×TE)):TE:=λσ H Q=>∀ p,H p=none->ZM trs σ (upd H p (.dK [])) λps H2=>H2 p≈(.dK [])/\∃ ν:KL,ps=ν.map (λkv=>(kV kv.1,kv.2))/\↑ν<=15/\Q (.ref p) (upd H2 p (.dK (RZ [] ν)))
def Z2o{X:Cx}{pos:Pos}{keys:List (Option Expr)}{values:ε}{trs:List (TE×TE)}(h:Xu X pos keys values trs)(hall:keys.all (·.isSome)=true)(hl:↑keys=↑values)(h0:keys≠[])
  (qd:↑keys<=15):PE X (.Dict keys values pos) (yP trs):=by
 intro π s σ H Q I q;have hn:=I.hok.fresh (Yd ⇑s);have I1:=I.laid (a:=⇑s) (o:=.dK []) (h':=s.heap.push {cls:=.type "dict",data:=.dict #[] }) (t':=s.toks) (λ_ _ q=>Yb _ q) (Yd _) (iL s.heap I.big);refine wpAny_Dict_walk (knd:=BV X.prog X.w) hall hl h0 qd (AH (h π _ σ _ _ I1 (q _ hn)) λws s2 ⟨ps,H2,I2,rel,e,ν,ep,lk,q2⟩=>?_);subst ep;obtain⟨rs,c,rk⟩:=jw (P:=X.prog) (w:=X.w) rel;obtain⟨z,hd,vs0,r0,dd⟩:=l9 I2.hok e;cases r0;refine⟨rs,c,dd,λh' F8 hs=>⟨.ref ⇑s,_,?_,Y,q2⟩⟩;have hz:↑(RZ [] ν)<=sizeLine:=by
  have h1:=kg ν [];rw[List.length_nil]at h1;rw[sizeLine_eq];omega
 have he:∃ q,h'.get? ⇑s≈q:=let⟨q,_,_,hq,_⟩:=F8;⟨q,hq⟩;exact WB I2 (by rw[e];exact True.intro) hs he (mX hz hd (rk.merge .nil) F8)
structure M1(X:Cx)(o:Expr)(m:Str)(apos:Pos)(e:Expr)(AK:Pos):Prop where
 base:attributeBase o m X.env (eval o X.env)=eval o X.env
 few:((backTo AK (starEach [e] X.env)).all (λx=>!x.1)&&(backToKw AK (keywordEach [] X.env)).all (λx=>x.1.isSome)
  && decide (↑([e]:ε) + ↑([]:List Keyword) + (if([]:List Keyword).isEmpty then 0 else 1)<30))=true
 line:(apos.endLine == AK.line)=true
 trees:backTo AK (starEach [e] X.env)=[(false,eval e X.env)]
structure M2(X:Cx)(o:Expr)(m:Str)(apos:Pos)(e f:Expr)(AK:Pos):Prop where
 base:attributeBase o m X.env (eval o X.env)=eval o X.env
 few:((backTo AK (starEach [e,f] X.env)).all (λx=>!x.1)&&(backToKw AK (keywordEach [] X.env)).all (λx=>x.1.isSome)
  && decide (↑([e,f]:ε) + ↑([]:List Keyword) + (if([]:List Keyword).isEmpty then 0 else 1)<30))=true
 line:(apos.endLine == AK.line)=true
 trees:backTo AK (starEach [e,f] X.env)=[(false,eval e X.env),(false,eval f X.env)]
def oR(H:Hp)(a:χ):Prop:=(∃ ν,Rd H a (.dK ν))\/∃ ν,Rd H a (.dT ν)
def V4{X:Cx}{π:PL}{σ:St}{H:Hp}{s:Γ}{a:χ}(I:Inv X π σ H s)(d:oR H a):
  s.TypeIs (.ref a) "dict"/\(∀ b,Value.ref a=.ref b->∃ ob,s.heap.get? b≈ob/\ob.dict=none)/\(a == sysModules)=false:=by
 rcases d with⟨ν,e⟩ | ⟨ν,e⟩
 ·obtain⟨_,hd,vs,_,dd⟩:=Kk I.hok e;refine⟨dd.typeIs,λb q=>?_,hd⟩;cases q;obtain⟨ob,_,_,h1,h2,_⟩:=dd;exact⟨ob,h1,h2.2.1⟩
 ·obtain⟨_,hd,xs,_,dd⟩:=Mc I.hok e;refine⟨dd.typeIs,λb q=>?_,hd⟩;cases q;obtain⟨ob,_,_,h1,h2,_⟩:=dd;exact⟨ob,h1,h2.2.1⟩
section
variable {X:Cx}{π:PL}{σ:St}{H:Hp}{s:Γ}{a:χ}{y d:V}{u r:ω}{o:OV}{A:Around}{E:EV}
def yo{Q:EV}(hu:A.units + 1<cLine)(I:Inv X π σ H s)(g:BB H a y o)(ry:AW y u)(rd:AW d r)(h:∀ w' s',Inv X π σ H s'->AW (o.getD d) w'->Q w' s'):
  wpAny (model X.prog X.w) A (call (.builtin "dict.get") [.ref a,u,r]) Q E s:=by
 rcases g with⟨ν,k,e,ey,l⟩ | ⟨ν,k,b,e,ey,eb,l⟩
 ·subst ey;obtain⟨z,hd,vs,rel,dd⟩:=Kk I.hok e;refine call_meetsIn PySem.F.slot_dict_get dd.typeIs PySem.F.entry_dict_get (PySem.F.args_dict_get_3 _ _ _) (meets_dict_get_default (BV X.prog X.w) a (Iu ry) hd r) ⟨_,dd.mapOf,h _ _ (I.tok _) ?_⟩;rw[l];exact(rel.val k).getD rd
 ·subst ey;cases(show u=Value.ref b from ry);obtain⟨z,hd,xs,rel,dd⟩:=Mc I.hok e;refine call_meetsIn PySem.F.slot_dict_get dd.typeIs PySem.F.entry_dict_get (PySem.F.args_dict_get_3 _ _ _) (meetsH_dict_get_default (tupleKind (BV X.prog X.w)) a b hd r) ⟨tupleKind_room_in1 hu,k,xs,Mo I.hok eb,dd,h _ _ (I.tok _) ?_⟩;rw[l];exact(rel.val k).getD rd
end
def zX(td ty tx:TE):TE:=λσ H Q=>td σ H λx H1=>∃ a,x=.ref a/\oR H1 a/\ty σ H1 λy H2=>tx σ H2 λz H3=>∃ o,BB H3 a y o/\Q (o.getD z) H3
section
variable {X:Cx}{o e f:Expr}{apos AK:Pos}{td ty tx:TE}
def r6(hu:X.A.units + 1<cLine)(ho:PE X o td)(he:PE X e ty)(hf:PE X f tx)(m:M2 X o "get" apos e f AK):PE X (.Call (.Attribute o "get" apos) [e,f] [] AK) (zX td ty tx):=by
 ac_rfl;refine wpAny_Call_method m.base m.few m.line SV PySem.F.slot_dict_get PySem.F.type_dict_get (AH (ho π s σ H _ I h) λu s1 ⟨x,H1,I1,rx,a,ex,d,q1⟩=>?_);subst ex;obtain rfl:u=Value.ref a:=rx;obtain⟨t1,t2,_⟩:=V4 I1 d;refine⟨t1,t2,?_⟩;rw[m.trees];refine NQ rfl (Calls.evalArgs_plain (QX (AH (he π s1 σ H1 _ I1 q1) λiv s2 ⟨y,H2,I2,ry,q2⟩ =>
  QX (AH (hf π s2 σ H2 _ I2 q2) λfv s3 ⟨z,H3,I3,rz,ov,g,q3⟩=>QU ?_))))
 exact yo hu I3 g ry rz λw' s4 I4 BQ=>⟨_,H3,I4,BQ,q3⟩
end
section
variable {X:Cx}{π:PL}{σ:St}{H:Hp}{s:Γ}{a:χ}{ν:KL}{A:Around}{E:EV}
end
section
variable {X:Cx}{π:PL}{σ:St}{H:Hp}{s:Γ}{a:χ}{y:V}{u:ω}{A:Around}{E:EV}
end
end L2
namespace Att
open PySem PySem.W PySem.Calls PyProof.Rows
def xU{P:Params}{h:Heap}:∀(ns:τ) (vs:LU),WellAll P h vs (ns.map WData.int)->IntsAre vs ns:=by
 intro ns
 induction ns with
 | nil =>
  intro vs w;rw[List.map_nil]at w;cases w;exact .nil
 | cons n ns ih =>
  intro vs w;rw[Ys]at w;cases w with
  | cons a b =>
   cases a;exact .cons _ _ (ih _ b)
def uw{l:OpenLaw}{n:Nat}(hn:l.most≈n){P:Params}{h:Heap}{args:List WData}{vals:LU}
  (hpre:l.row.toRowW.claim.pre args=true) (hwl:WellAll P h vals args):
  ∃ a vs ns,vals=[Value.ref a]/\args=[WData.list (ns.map WData.int)]/\h.get? a=some {cls:=.type "list",data:=.seq vs.toArray}/\IntsAre vs ns/\↑ns<=n:=by
 have hsh:WShape.hasAll [] args [.list .int]=true:=(pre_splitW hpre).1;have hc:l.pre.holds [] {args:=args}=true:=(pre_splitW hpre).2;obtain⟨d,r,rfl,h1,h2⟩:=hasAllW_cons hsh;obtain rfl:=hasAllW_nil h2;obtain⟨xs,rfl,h3⟩:=hasW_list h1;obtain⟨ns,rfl⟩:=items_int h3;have hlen:↑ns<=n:=by
  unfold OpenLaw.pre at hc;have h4:(WTm.not (.lt (.lit (.int (n:Int))) (.len (.arg 0)))).holds [] {args:=[.list (ns.map .int)] }=true:=by
   have h4:=(holds_andW hc).1;rw[hn]at h4;exact h4
  have h5:=condW_of h4 (w_not (w_lt w_lit (w_len_list (w_arg rfl))));rw[Ya]at h5;refine Nat.le_of_not_lt λq=>?_;have q':(n:Int)<((↑ns:Nat):Int):=by omega
  first
   | (rw[Jb q']at h5;exact absurd h5 (by decide))
   | (simp at h5;omega)
 cases hwl with
 | cons w1 w2 =>
  cases w2;cases w1 with
  | list ho hall=>exact⟨_,_,ns,Y,Y,ho,xU ns _ hall,hlen⟩
def ud(l:OpenLaw)(args:List WData):l.row.toRowW.claim.post args (.bool true) args=true :=
 postW_of (r:=l.row.toRowW) (X:=(true == true))
  (show WShape.has [] (.bool true) .bool=true by first | rfl | decide | simp[WShape.has,WShape.arms,WShape.armsAll])
  (show(WTm.eq .res (.lit (.bool true))).value [] {args:=args,res:=↥(.bool true),after:=args}≈(.bool (true == true))from w_eq_bool (w_res rfl) w_lit) rfl
def attach_call{l:OpenLaw}{n:Nat}{q:Δ}{loose:LS}{XP:(Str->OU)->Heap->Prop}{YP:World->Heap->Prop}{d:DefRec}
  (hn:l.most≈n) (hdf:d.params.defaults=[])
  (call:∀(w:World) (s₀ s₁:Γ) (mg mb:Str->OU) (fa:χ) (o:Obj) (pm cd doc:ω) (a:χ) (vs:LU) (ns:τ),
   Ground q loose [] XP w s₀ mg mb s₁.heap->YP w s₁.heap ->
   s₁.heap.get? fa≈o->o.data=.func (docDef d.name d.params d.body d.scope pm cd doc)->s₁.heap.CodeRec cd d.name->mg d.name≈(.ref fa) ->
   s₁.heap.get? a=some {cls:=.type "list",data:=.seq vs.toArray}->IntsAre vs ns->↑ns<=n->s₁.gens=#[] ->
   codeAny (model l.prog w) callerA (.call (.ref fa) ⟨[.ref a],[]⟩) (λr s'=>r=.ok (.ret (.bool true))/\OldK s₁.heap s'.heap/\s'.os=s₁.os/\AllBare s'.gens) s₁):
  WalkO q loose XP YP l.row.toRowW d [] (λf vs=>PySem.call f vs):=by
 intro w s₀ s₁ mg mb G Y fa o pm cd doc dV kV ho hd hcd hD hmg hg args vals as hpre hlay hrd hwl hlo;obtain rfl:dV=.none:=Dflts.none hD hdf;obtain rfl:kV=.none:=Dflts.noKw hD;obtain⟨a,vs,ns,rfl,rfl,hobj,hints,hlen⟩:=uw hn hpre hwl;refine enter_call (codeAny_mono (call w s₀ s₁ mg mb fa o pm cd doc a vs ns G Y ho (fd_plain hd) hcd hmg hobj hints hlen hg) λr s' hq=>?_);obtain⟨rfl,h2,h3,h4⟩:=hq;exact⟨.inl ⟨.bool true,.bool true,[],Y,λ_=>rfl,.bool true,ud l _,λ_=>⟨List.Pairwise.nil,λ_ hm=>(nomatch hm)⟩⟩,h2,h3,h4⟩
section
variable {prog:Δ}{w:World}{A:Around}{E:EV}{s:Γ}{K:Frag}
end
end Att
namespace L2
open PySem PySem.Spec PyProof.Rows
theorem jr:∀ {vs:LU}{ns:τ},IntsAre vs ns->AR (ns.map V.int) vs
 | _,_,.nil=>.nil
 | _,_,.cons n t h=>.cons ⟨t,Y⟩ (jr h)
def av(H:Hp):Prop:=∀ b,H b=none\/∃ o xs,H b≈(.frz o (.lst xs))
def rC{P:Δ}{w:World}{K:Fg}{mg mb:Str->OU}{CX:EZ}{k:Nat}{x:Str}{sp:Sp}{s₁:Γ}{vs:LU}{ns:τ}
  (KX:K.In s₁.heap) (hns:s₁.heap.Ns mainGlobals mg) (hb:s₁.heap.Ns builtinsNs mb) (hbb:∀ x:Str,x≠"__name__"->mb x=bootBuiltins x) (hlim:s₁.heap.NoLimit) (hg:s₁.gens=#[])
  (ha:s₁.heap.get? a=some {cls:=.type "list",data:=.seq vs.toArray}) (hi:IntsAre vs ns) (hl:↑ns<=sizeLine) (hr:AX k callerA)
  (F:∀ base:Heap,K.In base->base.Ns mainGlobals mg->AN P w K mg base CX k fa fd [x] sp) (hbind:∀(s:Γ) (u:ω),BindsTo s fd ⟨[u],[]⟩ [(x,u)])
  (hsp:∀ H:Hp,av H->AD K H a (ns.map V.int)->sp [.ref a] H (λv _=>v=.bl true) λ_ _ _=>False)
  (hCX:∀ H e s',CX [] H s₁ (λ_ _ _=>False) e s'->False):
  codeAny (model P w) callerA (.call (.ref fa) ⟨[.ref a],[]⟩) (λr s'=>r=.ok (.ret (.bool true))/\OldK s₁.heap s'.heap/\s'.os=s₁.os/\AllBare s'.gens) s₁:=by
 have rv:=jr hi;have lenV:=↑hi;have core:∀ H:Hp,av H->AD K H a (ns.map V.int)->BF P w H s₁.heap->(∀ b,H b≠none->b=a)->(H a≠none->K.lookup a=none) ->
   codeAny (model P w) callerA (.call (.ref fa) ⟨[.ref a],[]⟩) (λr s'=>r=.ok (.ret (.bool true))/\OldK s₁.heap s'.heap/\s'.os=s₁.os/\AllBare s'.gens) s₁:=by
  intro H hO hS hok hA hK;have base_of:∀ {b:χ} {o:Obj},s₁.heap.get? b≈o->H b=none->(Io s₁.heap H).get? b≈o:=λe n=>q8 e n;have noA:∀ {b:χ} {o:Obj} {es:Array DictEntry} {ep:Nat},s₁.heap.get? b≈o->o.data=.dict es ep->H b=none:=λ{b o es ep} e d=>by
   cases q:H b with
   | none=>rfl
   | some u =>
    have e':b=a:=hA b (by rw[q];simp);subst e';rw[ha]at e;cases e;have d':Data.seq vs.toArray _=Data.dict es ep:=d;cases d'
  have nsK:∀ {b:χ} {m:Str->OU},s₁.heap.Ns b m->(Io s₁.heap H).Ns b m:=λ{b m} ⟨o,es,ep,e,d,r⟩=>⟨o,es,ep,base_of e (noA e d),d,r⟩;have hKb:K.In (Io s₁.heap H):=λb o e=>base_of (KX b o e) (by
   cases q:H b with
   | none=>rfl
   | some u =>
    have e':b=a:=hA b (by rw[q];simp);subst e';rw[hK (by rw[q];simp)]at e;cases e)
  have hM:Mod K mg (Io s₁.heap H):=⟨hKb,nsK hns,⟨mb,nsK hb,hbb⟩,let⟨mc,h1,h2⟩:=hlim;⟨mc,nsK h1,h2⟩⟩;have e0:Ec P w K mg (Io s₁.heap H) callerA [] s₁ H:=⟨Y,hM,λb o e=>Z25 e,Nat.le_of_eq (t6 _ _),trivial,λb hb=>absurd (show b∈([]:μ)from hb) (by simp),hok,.of_eq hg⟩;refine codeAny_mono ((F _ hKb (nsK hns)).run callerA [] s₁ H ⟨[.ref a],[]⟩ [.ref a] [.ref a] _ _ hr e0 (hbind s₁ (.ref a)) (.cons rfl .nil) (hsp H hO hS)) λr s' h=>?_;cases r with
  | error e=>exact(hCX H e s' h).elim
  | ok fl =>
   cases fl with
   | next=>exact False.elim h
   | brk=>exact False.elim h
   | cont=>exact False.elim h
   | ret u =>
    obtain⟨v,H',os,bare,un,cU,r',q⟩:=h;have q':v=.bl true:=q;subst q';obtain rfl:u=Value.bool true:=r';refine⟨Y,OldK.of_keep λb o e=>?_,os,bare⟩;cases q:H b with
    | none=>exact un.keep b o e q (by intro z;exact absurd (show b∈([]:μ)from z) (by simp)) (by simp)
    | some u =>
     rcases hO b with z | ⟨ob,xs,z⟩
     ·rw[q]at z;cases z
     ·have z2:=un.frzs b ob _ z;obtain⟨e1,_⟩:=hok b _ z;obtain⟨e2,_⟩:=cU b _ z2;rw[e]at e1;cases e1;exact e2
 cases hk:K.lookup a with
 | some o =>
  have e:=KX a o hk;rw[ha]at e;cases e;refine core (λ_=>none) (λ_=>.inl rfl) (.inr ⟨_,vs.toArray,_,hk,Y,Y,Y,by rw[Yk,lenV];exact hl,by simpa using rv⟩) (λb u z=>by have z':(none:Option HO)≈u:=z;cases z') (λb z=>absurd rfl z) λz=>absurd rfl z
 | none =>
  refine core (λb=>if b=a then ↥(.frz {cls:=.type "list",data:=.seq vs.toArray} (.lst (ns.map V.int)))else none) (λb=>?_) (.inl (.inr ⟨{cls:=.type "list",data:=.seq vs.toArray},if_pos rfl⟩)) (λb u z=>?_) (λb z=>?_) λ_=>hk
  ·by_cases hb:b=a
   ·exact .inr ⟨_,_,if_pos hb⟩
   ·exact .inl (if_neg hb)
  ·by_cases hb:b=a
   ·have z':=(if_pos hb).symm.trans z;cases z';subst hb;exact⟨ha,by rw[Ya];exact hl,vs,_,rv,ha⟩
   ·have z':=(if_neg hb).symm.trans z;cases z'
  ·by_cases hb:b=a
   ·exact hb
   ·exact absurd (if_neg hb) z
def walk_of{l:W.OpenLaw}{n k:Nat}{q:Δ}{loose:LS}{XP:(Str->OU)->Heap->Prop}{YP:World->Heap->Prop}{d:DefRec}{K:Params->Fg}{CX:World->EZ}{sp:World->Sp}{x:Str}
  (hn:l.most≈n) (Vc:n<=sizeLine) (hdf:d.params.defaults=[]) (hr:AX k callerA)
  (hY:∀(w:World) (h:Heap),YP w h->(K w.params).In h)
  (F:∀(w:World) (mg:Str->OU) (fa:χ) (h:Heap),(K w.params).In h->h.Ns mainGlobals mg->mg d.name≈(.ref fa) ->
   ∃ fd:FuncData,(∀(s:Γ) (u:ω),BindsTo s fd ⟨[u],[]⟩ [(x,u)]) /\
    ∀ base:Heap,(K w.params).In base->base.Ns mainGlobals mg->AN l.prog w (K w.params) mg base (CX w) k fa fd [x] (sp w))
  (hsp:∀(w:World) (H:Hp) (a:χ) (ns:τ),↑ns<=n->av H->AD (K w.params) H a (ns.map V.int)->sp w [.ref a] H (λv _=>v=.bl true) λ_ _ _=>False)
  (hCX:∀(w:World) (H:Hp) (s:Γ) (e:ω) (s':Γ),CX w [] H s (λ_ _ _=>False) e s'->False):
  W.WalkO q loose XP YP l.row.toRowW d [] (λf vs=>PySem.call f vs):=by
 refine Att.attach_call hn hdf λw s₀ s₁ mg mb fa o pm cd doc a vs ns G Y ho hd hcd hmg hobj hints hlen hg=>?_;have KX:=hY w _ Y;obtain⟨fd,hb,hF⟩:=F w mg fa _ KX G.T.g hmg;exact rC KX G.T.g G.T.b G.T.builtins G.T.nolimit hg hobj hints (Yq hlen Vc) hr hF hb (λH hO hS=>hsp w H a ns hlen hO hS) λH e s'=>hCX w H s₁ e s'
def Fl(s:Stmt)(j:Nat):Stmt:=match s with
 | .ClassDef _ _ _ body _ _ _ _ _ _ _=>body.getD j (.Pass ⟨0,0,0,0⟩)
 | _=>.Pass ⟨0,0,0,0⟩
def Et(s:Stmt):Arguments:=match s with
 | .FunctionDef _ a _ _ _ _ _ _ _ _=>a
 | _=>{posonlyargs:=[],args:=[],vararg:=none,kwonlyargs:=[],kw_defaults:=[],kwarg:=none,defaults:=[] }
def Dz(s:Stmt):List Stmt:=match s with
 | .FunctionDef _ _ b _ _ _ _ _ _ _=>b
 | _=>[]
def AL(s:Stmt):Scope:=match s with
 | .FunctionDef _ _ _ _ _ _ sc _ _ _=>sc
 | _=>{kind:=.function,names:=[],isGenerator:=false,isCoroutine:=false}
abbrev IT:EZ:=λ_ _ _ _ _ _=>False
abbrev E0:XK:=λ_ _ _=>False
def Aw{X:Cx}:Kr IT X E0:=λ_ _ _ _ _ _ _ h=>h.elim
structure BW(K:Fg)(x qual:Str)(st:Stmt)(f:χ)(fd:FuncData):Prop where
 ex:∃(oc:ω) (od:Option χ) (kV doc pm:ω) (an:Option χ) (As ct:ω) (osl:Array (OU)),
  fd=W.fnOf x qual (Et st) (Dz st) (AL st) .none kV doc pm an As ct/\K.lookup f≈⟨oc,od,.func fd,osl⟩/\W.codeIn K As qual=true
 kp:W.keepIn K (.ref f)=true
section
variable {P:Δ}{w:World}{K:Fg}{mg:Str->OU}{base:Heap}
def BW.ok{x qual:Str}{st:Stmt}{N ps:LS}{k:Nat}{sp:Sp}(F:BW K x qual st f fd)(S:Ad N ps (AL st))(len:∀ vs H Q E,sp vs H Q E->↑vs=↑ps)
  (hbody:∀(As:ω) (A:Around) (outer:List Env) (s:Γ) (H:Hp) (vs:LV) (Q:VK) (E:XK),AX k (A.deeper (envOfC qual (AL st) ⇑s f As))->sp vs H Q E ->
   ∃ t,PSs (LI IT P w K mg base N qual (AL st) f As A outer s H E).nox (Dz st) t/\t {nx:=λ_ H'=>Q .non H',rt:=Q} (start N vs) H):AN P w K mg base IT (k + 1) f fd ps sp:=by
 obtain⟨oc,od,kV,doc,pm,an,As,ct,osl,rfl,lk,hcd⟩:=F.ex;refine mB lk hcd S len λA outer s H vs Q E hr hsp=>?_;obtain⟨t,h,q⟩:=hbody As A outer s H vs Q E hr hsp;exact⟨t,h.nox,q⟩
def BW.binds{x qual:Str}{st:Stmt}{ps:LS}(F:BW K x qual st f fd)
  (h:∀(kV doc pm:ω) (an:Option χ) (As ct:ω) (us:LU),↑us=↑ps->bindArgs (W.fnOf x qual (Et st) (Dz st) (AL st) .none kV doc pm an As ct) ⟨us,[]⟩=pure (ps.zip us)):CC K fd ps []:=by
 obtain⟨oc,od,kV,doc,pm,an,As,ct,osl,rfl,lk,hcd⟩:=F.ex;exact .all (h kV doc pm an As ct)
def nP{x qual:Str}{st:Stmt}{f:χ}{oc:ω}{od an:Option χ}{osl:Array (OU)}{kV doc pm As ct:ω}(l:K.lookup f≈⟨oc,od,.func (W.fnOf x qual (Et st) (Dz st) (AL st) .none kV doc pm an As ct),osl⟩)
  (c:W.codeIn K As qual=true) (k:W.keepIn K (.ref f)=true):BW K x qual st f (W.fnOf x qual (Et st) (Dz st) (AL st) .none kV doc pm an As ct):=⟨⟨oc,od,kV,doc,pm,an,As,ct,osl,Y,l,c⟩,k⟩
end
def EK{A:Around}{k:Nat}(hr:AX k A):A.units + 1<cLine:=NP (Nat.add_le_add_left (by decide:1<=64) _) hr.units
section
variable {X:Cx}
def pv(i:Nat){x:Str}{pos:Pos}(hN:X.N[i]?≈x:=by rfl)(hv:Xr X.env.scope x:=by first | exact Or.inl rfl | exact Or.inr (Or.inl rfl) | exact Or.inr (Or.inr rfl))(hd:(x == ("__debug__":Str))=false:=by decide)
  (hcd:(x == ("__classdict__":Str))=false:=by decide):PE X (.Name x pos) (Cy i):=m_ hN hv hd hcd
end
def Af{A B:Prop}(h:B):if false=true then A else B:=by
 rw[if_neg Yh];exact h
def Az{A B:Prop}(h:A):if true=true then A else B:=by
 rw[if_pos rfl];exact h
def BY{c A B:Prop}[Decidable c](h1:c->A)(h2:¬ c->B):if c then A else B:=by
 by_cases h:c
 ·rw[if_pos h];exact h1 h
 ·rw[if_neg h];exact h2 h
def AA(H H':Hp):Prop:=∀ b o,H b≈o->H' b≈o
def AA.refl(H:Hp):AA H H:=λ_ _ h=>h
def AA.trans{H H1 H2:Hp}(a:AA H H1)(b:AA H1 H2):AA H H2:=λc o h=>b c o (a c o h)
def AA.free{H H':Hp}(e:AA H H'){l:χ}(h:H' l=Option.none):H l=Option.none:=by
 cases q:H l with
 | none=>rfl
 | some o =>
  rw[e l o q]at h;cases h
def AA.seq{K:Fg}{H H':Hp}{a:χ}{xs:LV}(e:AA H H')(h:AD K H a xs):AD K H' a xs:=by
 rcases h with(h | ⟨o,h⟩) | h
 ·exact .inl (.inl (e _ _ h))
 ·exact .inl (.inr ⟨o,e _ _ h⟩)
 ·exact .inr h
section
variable {X:Cx}
end
section
variable {κ:Type}[DecidableEq κ]
def tD{ν:List (κ×V)}{k:κ}(h:A0 ν k=none):¬ k∈ν.map (·.1):=by
 intro m;obtain⟨p,hp,e⟩:=Yo.mp m;have q:(ν.any λkv=>decide (kv.1=k))=true:=Ft.mpr ⟨p,hp,Jb e⟩;rw[Rt,h]at q;exact absurd q (by simp)
def hW{ν:List (κ×V)}{k:κ}{v:V}(h:A0 ν k≈v):k∈ν.map (·.1):=by
 have q:(ν.any λkv=>decide (kv.1=k))=true:=by
  rw[Rt,h]
  all_goals rfl
 obtain⟨p,hp,e⟩:=Ft.mp q;exact Yo.mpr ⟨p,hp,Je e⟩
end
end L2
set_option maxHeartbeats 4000000
namespace HT
open PySem PyProof.Rows
open PySem.SeqAt
open PySem.AutoSeq1 (wpAny_loadPart')
open PySem.MeetsSeq PySem.MeetsSeq2 PySem.MeetsSeq3
section
variable {prog:Δ}{w:World}{A:Around}{E:EV}{s:Γ}
end
end HT
namespace L2
open PySem PySem.Spec PyProof.Rows
structure FE(J:It)(xs:LV)(Ok:Hp->Prop):Prop where
 go:∀(i:Nat) (x:V) (H:Hp),Ok H->xs[i]?≈x->J.go i H
 yld:∀(i:Nat) (x:V) (H:Hp) (y:V) (H':Hp),Ok H->xs[i]?≈x->J.yld i H y H'->y=x/\H'=H
 stop:∀(H:Hp),Ok H->J.stop ↑xs H
def DV{K:Fg}{a:χ}{xs:LV}:FE (Sn K a) xs (λH=>AD K H a xs) where
 go:=λi x H ok hx=>⟨xs,x,ok,hx⟩
 yld:=λi x H y H' ok hx h=>by
  obtain⟨e,h⟩:=h;have q:=h xs ok;rw[hx]at q;exact⟨(Yp q).symm,e⟩
 stop:=λH ok=>⟨xs,ok,Yd _⟩
def Mv{K:Fg}{a:χ}{xs:LV}:FE (br K a) xs (λH=>AJ K H a xs) where
 go:=λi x H ok hx=>⟨xs,x,ok,hx⟩
 yld:=λi x H y H' ok hx h=>by
  obtain⟨e,h⟩:=h;have q:=h xs ok;rw[hx]at q;exact⟨(Yp q).symm,e⟩
 stop:=λH ok=>⟨xs,ok,Yd _⟩
def Gd(lo:Int)(n:Nat):LV:=(List.range n).map λ(k:Nat)=>V.int (lo + (k:Int))
def EW(lo:Int)(n:Nat):↑(Gd lo n)=n:=by unfold Gd;rw[Ya,QT]
def Fm{lo:Int}{n i:Nat}{x:V}(h:(Gd lo n)[i]?≈x):i<n/\x=V.int (lo + (i:Int)):=by
 have hi:i<n:=by
  have:=(Yf.mp h).1
  rwa [EW]at this
 refine⟨hi,?_⟩;unfold Gd at h;rw[Yj,NJ hi]at h;exact(Yp h).symm
def JG{lo:Int}{n:Nat}:FE (Sm lo n) (Gd lo n) (λ_=>True) where
 go:=λi x H _ hx=>(Fm hx).1
 yld:=λi x H y H' _ hx h=>by
  obtain⟨e,h⟩:=h;exact⟨h.trans (Fm hx).2.symm,e⟩
 stop:=λH _=>by
  show n<=↑(Gd lo n);rw[EW];exact Yd _
def CH{J:It}{xs:LV}{Ok:Hp->Prop}(R:FE J xs Ok){g:TG}{tb:TS}{D:F9}{σ:St}{H:Hp}(Pv:NW)(h0:Pv 0 σ H)(hl:∀ i σ H,i<=↑xs->Pv i σ H->Ok H)
  (hs:∀ i x σ H,xs[i]?≈x->Pv i σ H->g x σ H λσ2 H2=>tb {D with nx:=Pv (i + 1),ct:=Pv (i + 1),bk:=D.nx} σ2 H2) (hd:∀ σ H,Pv ↑xs σ H->D.nx σ H):
  ∃ W:Nat->Nat->St->Hp->Prop,(∃ m,W 0 m σ H)/\∀ i m σ H,W i m σ H ->
   (J.stop i H/\D.nx σ H)\/(J.go i H/\∃ N:SW,(∀ σ' H',N σ' H'->∃ m',m'<m/\W (i + 1) m' σ' H')/\∀ x H',J.yld i H x H'->g x σ H' λσ2 H2=>tb {D with nx:=N,ct:=N,bk:=D.nx} σ2 H2):=by
 refine⟨λi m σ H=>m=↑xs - i/\i<=↑xs/\Pv i σ H,⟨↑xs,by simp,Bm _,h0⟩,?_⟩;rintro i m σ H ⟨rfl,hi,p⟩;have q:=hl i σ H hi p;by_cases A_:i<↑xs
 ·have hx:xs[i]?≈xs[i]:=by simp[A_]
  refine .inr ⟨R.go i _ H q hx,Pv (i + 1),λσ' H' p'=>⟨↑xs - (i + 1),O,Y,A_,p'⟩,λx H' y=>?_⟩;obtain⟨e1,e2⟩:=R.yld i _ H x H' q hx y;rw[e2];exact hs i x σ H (by rw[e1];exact hx) p
 ·have e:i=↑xs:=by omega
  subst e;exact .inl ⟨R.stop H q,hd σ H p⟩
def Xy(x:Str):It:=⟨λi _=>i<x.cps.size,λi H v H'=>H'=H/\∃ c,x.cps[i]?≈c/\v=.str ⟨#[c]⟩,λi _=>x.cps.size<=i⟩
def I_(x:Str):LV:=x.cps.toList.map λc=>V.str ⟨#[c]⟩
def tO{x:Str}:FE (Xy x) (I_ x) (λ_=>True) where
 go:=λi y H _ hx=>by
  have:=(Yf.mp hx).1;unfold I_ at this;rw[Ya]at this;show i<x.cps.size;simpa using this
 yld:=λi y H z H' _ hx h=>by
  obtain⟨e,c,hc,hz⟩:=h;refine⟨?_,e⟩;unfold I_ at hx;rw[Yj,JQ,hc]at hx;rw[hz];exact Yp hx
 stop:=λH _=>by
  show x.cps.size<=↑(I_ x);unfold I_;simp
def i3{P:Δ}{w:World}{K:Fg}{tg:Expr}(x:Str)(t:Tok)(it:χ)(ty:String)(hty:ty="str_ascii_iterator"\/ty="str_iterator"):
  Dq P w K tg (Xy x) [it] it (λi h=>h.IsStrIter it ty x t i) where
 mem:=by simp
 obj:=λi h st b hb=>by
  have e:b=it:=by simpa using hb
  subst e;obtain⟨o,e,c,d⟩:=st;exact⟨o,e,λv z=>by rw[d]at z;cases z⟩
 keep:=λi h h' st k=>by
  obtain⟨o,ho,r⟩:=st;exact⟨o,k it (by simp) o ho,r⟩
 item:=by
  intro X hP hw hK hc i π s σ H E I hf st hg;subst hP hw hK;obtain⟨f0,f1,f2,f3,f4,f5⟩:=hf it (by simp);have hi:i<x.cps.size:=hg;have hx:x.cps[i]?≈x.cps[i]:=by simp[hi]
  have fin:∀ h':Heap,h'.IsStrIter it ty x t (i + 1)->Heap.SameBut it s.heap h'->∃ u,↥(Value.str ⟨#[x.cps[i]]⟩ s.toks)≈u /\
    wpAny (model X.prog X.w) X.A (letOwnedTupleGo tg (.ref it) u) (λ_ s2=>∃ y H',Inv X π σ H' s2/\AW y u/\(Xy x).yld i H y H'/\s2.heap.IsStrIter it ty x t (i + 1)/\∀ b∈[it],H' b=none) E {s with heap:=h',toks:=s.toks + 1}:=λh' Ay sb=>by
   have I1:Inv X π σ H {s with heap:=h',toks:=s.toks + 1}:=I.turned (λb o hb e=>(sb.2 b hb).trans e) f0 f1 f3 f4 f5;obtain⟨o,e,c,d⟩:=id Ay;refine⟨Z,Kl (s:={s with heap:=h',toks:=s.toks + 1}) e c d ?_ ⟨.str ⟨#[x.cps[i]]⟩,H,I1,⟨Z⟩,⟨Y,_,hx,Y⟩,Ay,λb hb=>(hf b hb).1⟩⟩
   rcases hty with rfl | rfl <;> decide
  rcases hty with rfl | rfl
  ·exact wpAny_pyNext_ascii_item st hx λh' Ay sb=>fin h' Ay sb
  ·exact wpAny_pyNext_wide_item st hx λh' Ay sb=>fin h' Ay sb
 done:=by
  intro X hP hw hK hc i π s σ H E I hf st hg;subst hP hw hK;obtain⟨f0,f1,f2,f3,f4,f5⟩:=hf it (by simp);have hi:x.cps.size<=i:=hg;have hx:x.cps[i]?=none:=by simp[hi]
  rcases hty with rfl | rfl
  ·exact wpAny_pyNext_ascii_end (I.ok.hd hc) st hx λh' eb=>⟨Y,I.turned (t':=s.toks) (λb o hb e=>eb b o hb e) f0 f1 f3 f4 f5⟩
  ·exact wpAny_pyNext_wide_end (I.ok.hd hc) st hx λh' eb=>⟨Y,I.turned (t':=s.toks) (λb o hb e=>eb b o hb e) f0 f1 f3 f4 f5⟩
 self:=λ_ _ _ _ _ st h=>by
  rcases hty with rfl | rfl
  ·exact wpAny_pyIter_striter_ascii st h
  ·exact wpAny_pyIter_striter_wide st h
section
variable {X:Cx}{tg:Expr}
def Yb1(tl:TE):TI:=λσ H R=>tl σ H λx H1=>∃ z,x=.str z/\R (Xy z) H1
def zI{l:Expr}{tl:TE}(hl:PE X l tl):PI X tg l (Yb1 tl):=by
 intro π s σ H R I h;refine AH (hl π s σ H _ I h) λv s1 ⟨x,H1,I1,r1,q1⟩=>?_;obtain⟨z,e,q⟩:=q1;subst e;obtain⟨t,rfl⟩:=r1;have fp:∀ b∈[⇑s1],CY X π H1 b:=λb hb=>by
  have e:b=⇑s1:=by simpa using hb
  subst e;exact I1.fpOk (Yd _) (I1.hok.fresh (Yd _))
 cases ha:z.cps.all (·<128)with
 | false =>
  refine wpAny_pyIter_wide ha ?_;exact⟨⇑s1,[⇑s1],_,_,H1,Y,I1.kept (t':=s1.toks) λb o e=>Yb _ e,i3 z t _ "str_iterator" (.inr rfl),⟨_,Ye _ rfl,Y,Y⟩,fp,q⟩
 | true =>
  refine wpAny_pyIter_ascii ha ?_;exact⟨⇑s1,[⇑s1],_,_,H1,Y,I1.kept (t':=s1.toks) λb o e=>Yb _ e,i3 z t _ "str_ascii_iterator" (.inl rfl),⟨_,Ye _ rfl,Y,Y⟩,fp,q⟩
end
def Dd(env:Env):List (Str×NameKind)->List (Str×χ)->List (Str×χ)
 | [],acc=>acc
 | (n,k):: r,acc=>if(k == NameKind.free)=true then Dd env r ((n,(env.cells.lookup n).getD 0):: acc)else Dd env r acc
def v_{env:Env}{n:Str}{c:χ}(h:env.cells.lookup n≈c):cellOf env n=pure c:=by
 unfold cellOf;rw[h]
def ka{scope:Scope}{env:Env}(h:∀ y∈scope.names,y.2=.free->∃ c,env.cells.lookup y.1≈c):closureFor scope env=pure (Dd env scope.names []):=by
 have key:∀(l:List (Str×NameKind)) (acc:List (Str×χ)),(∀ y∈l,y.2=.free->∃ c,env.cells.lookup y.1≈c) ->
   (forIn l acc λ(x:Str×NameKind) (r:List (Str×χ))=>(match x with
    | (name,kind)=>if(kind == NameKind.free)=true then(do let a <- cellOf env name;pure (ForInStep.yield ((name,a):: r)))else pure (ForInStep.yield r):Sem (ForInStep (List (Str×χ)))))=pure (Dd env l acc):=by
  intro l
  induction l with
  | nil=>intro acc _;rfl
  | cons y r ih =>
   intro acc hy;obtain⟨n,k⟩:=y;have eQ:=λacc=>ih acc λz hz=>hy z (DX _ hz);rw[JO];by_cases hk:(k == NameKind.free)=true
   ·obtain⟨c,hc⟩:=hy (n,k) Di (by simpa using hk);have hc:env.cells.lookup n≈c:=hc;simp only[hk,if_true,v_ hc];unfold Dd;rw[if_pos hk,hc];exact eQ _
   ·simp only[hk];unfold Dd;rw[if_neg hk];exact eQ _
 unfold closureFor;have q:=key scope.names [] h;show((forIn scope.names [] _:Sem (List (Str×χ)))>>=λr=>pure r)=_
 first
  | (rw[show(forIn scope.names [] _:Sem (List (Str×χ)))=_ from q];rfl)
  | (refine(congrArg (λm=>m>>=λr=>pure r) q).trans ?_;rfl)
theorem aP{env:Env}:∀(l:List (Str×NameKind)) (acc:List (Str×χ)) (x:Str) (c:χ),(∀ y∈l,y.2=.free->∃ c,env.cells.lookup y.1≈c) ->
  (∀ x c,acc.lookup x≈c->env.cells.lookup x≈c)->(Dd env l acc).lookup x≈c->env.cells.lookup x≈c
 | [],acc,x,c,_,ha,h=>ha x c h
 | (n,k):: r,acc,x,c,hy,ha,h=>by
  have hr:∀ y∈r,y.2=.free->∃ c,env.cells.lookup y.1≈c:=λy Hg=>hy y (DX _ Hg);unfold Dd at h;by_cases hk:(k == NameKind.free)=true
  ·rw[if_pos hk]at h;refine aP r _ x c hr (λz d hz=>?_) h;obtain⟨c',Bo⟩:=hy (n,k) Di (by simpa using hk);have Bo:env.cells.lookup n≈c':=Bo;rw[Dh]at hz;by_cases e:(z == n)=true
   ·simp only[e]at hz;have e':z=n:=by simpa using e
    rw[e',Bo];rw[Bo]at hz;exact hz
   ·have e':(z == n)=false:=by simpa using e
    simp only[e']at hz;exact ha z d hz
  ·rw[if_neg hk]at h;exact aP r acc x c hr ha h
theorem aG{env:Env}:∀(l:List (Str×NameKind)) (acc:List (Str×χ)) (x:Str),(acc.lookup x).isSome=true->((Dd env l acc).lookup x).isSome=true
 | [],acc,x,h=>h
 | (n,k):: r,acc,x,h=>by
  unfold Dd;by_cases hk:(k == NameKind.free)=true
  ·rw[if_pos hk];refine aG r _ x ?_;rw[Dh];cases e:(x == n)with
   | true=>rfl
   | false=>exact h
  ·rw[if_neg hk];exact aG r acc x h
theorem Zn{env:Env}:∀(l:List (Str×NameKind)) (acc:List (Str×χ)) (x:Str),(x,NameKind.free)∈l->((Dd env l acc).lookup x).isSome=true
 | [],acc,x,h=>nomatch h
 | (n,k):: r,acc,x,h=>by
  unfold Dd
  rcases Bj.mp h with e | h
  ·injection e with e1 e2;subst e1;subst e2;rw[if_pos (by decide)];refine aG r _ x ?_;rw[Dh];simp
  ·by_cases hk:(k == NameKind.free)=true
   ·rw[if_pos hk];exact Zn r _ x h
   ·rw[if_neg hk];exact Zn r _ x h
theorem k4{env:Env}:∀ {names:List (Str×NameKind)}{x:Str},names.lookup x≈.free ->
  (names.map λ(n,k)=>if(k == NameKind.free&&env.scope.kind == .function&&env.kindOf n == ↥.cell)then(n,NameKind.cell)else(n,k)).lookup x≈.cell \/
  (names.map λ(n,k)=>if(k == NameKind.free&&env.scope.kind == .function&&env.kindOf n == ↥.cell)then(n,NameKind.cell)else(n,k)).lookup x≈.free
 | [],_,h=>by simp at h
 | (n,k):: r,x,h=>by
  have ih:=@k4 env r x;rw[Ys];show List.lookup x ((if(k == NameKind.free&&env.scope.kind == .function&&env.kindOf n == ↥.cell)=true then(n,NameKind.cell)else(n,k)):: _)=_\/List.lookup x ((if(k == NameKind.free&&env.scope.kind == .function&&env.kindOf n == ↥.cell)=true then(n,NameKind.cell)else(n,k)):: _)=_;cases hx:x == n with
  | true =>
   simp only[Dh,hx]at h;cases h;by_cases hc:(NameKind.free == NameKind.free&&env.scope.kind == .function&&env.kindOf n == ↥.cell)=true
   ·rw[if_pos hc];simp only[Dh,hx];exact .inl trivial
   ·rw[if_neg hc];simp only[Dh,hx];exact .inr trivial
  | false =>
   simp only[Dh,hx]at h;by_cases hc:(k == NameKind.free&&env.scope.kind == .function&&env.kindOf n == ↥.cell)=true
   ·rw[if_pos hc];simp only[Dh,hx];exact ih h
   ·rw[if_neg hc];simp only[Dh,hx];exact ih h
theorem ky{env:Env}:∀ {names:List (Str×NameKind)}{x:Str},
  ((names.map λ(n,k)=>if(k == NameKind.free&&env.scope.kind == .function&&env.kindOf n == ↥.cell)then(n,NameKind.cell)else(n,k)).lookup x≈.cell \/
  (names.map λ(n,k)=>if(k == NameKind.free&&env.scope.kind == .function&&env.kindOf n == ↥.cell)then(n,NameKind.cell)else(n,k)).lookup x≈.free) ->
  names.lookup x≈.free\/names.lookup x≈.cell
 | [],_,h=>by simp at h
 | (n,k):: r,x,h=>by
  have ih:=@ky env r x;rw[Ys]at h
  change List.lookup x ((if(k == NameKind.free&&env.scope.kind == .function&&env.kindOf n == ↥.cell)=true then(n,NameKind.cell)else(n,k)):: _)=_\/List.lookup x ((if(k == NameKind.free&&env.scope.kind == .function&&env.kindOf n == ↥.cell)=true then(n,NameKind.cell)else(n,k)):: _)=_ at h
  cases hx:x == n with
  | true =>
   simp only[Dh,hx];by_cases hc:(k == NameKind.free&&env.scope.kind == .function&&env.kindOf n == ↥.cell)=true
   ·left;have:(k == NameKind.free)=true:=by
     cases hk:(k == NameKind.free)with
     | true=>rfl
     | false=>rw[hk]at hc;simp at hc
    have:k=NameKind.free:=by simpa using this
    rw[this]
   ·rw[if_neg hc]at h;simp only[Dh,hx]at h
    rcases h with h | h
    ·exact .inr h
    ·exact .inl h
  | false =>
   simp only[Dh,hx];apply ih;by_cases hc:(k == NameKind.free&&env.scope.kind == .function&&env.kindOf n == ↥.cell)=true
   ·rw[if_pos hc]at h;simp only[Dh,hx]at h;exact h
   ·rw[if_neg hc]at h;simp only[Dh,hx]at h;exact h
abbrev C0(X:Cx)(scope:Scope)(N:LS)(C:χ)(s:Γ)(H:Hp)(fp:μ):Cx :=
 {X with N:=N,s₀:=s,H₀:=H,env:=compEnvC scope (Dd X.env scope.names []) C X.env,outer:=X.stack,ex:=fp,fn:=λ_=>false,pn:=[],xe:=λ_ _=>False}
def IY(n:Nat)(js:LN)(σ:St):St:=List.replicate n none++js.map λj=>(σ[j]?).join
def Z1v(n:Nat)(js:LN)(σ:St):↑(IY n js σ)=n + ↑js:=by unfold IY;simp
structure Fi(X:Cx)(scope:Scope)(own θ:LS)(js:LN):Prop where
 calm:X.calm=true
 kind:scope.kind=.function
 nocell:∀ y∈scope.names,y.2≠.cell
 locals:∀ y∈scope.names,y.2=.local->scope.names.lookup y.1≈.local
 fr:∀ y∈scope.names,y.2=.free->X.env.scope.names.lookup y.1≈.cell\/X.env.scope.names.lookup y.1≈.free
 fre:∀ x∈θ,scope.names.lookup x≈.free
 slots:js.map (λj=>X.N[j]?)=θ.map some
def Sj(X:Cx)(ifs:ε)(t:TT):Prop :=
 ∀(π:PL) (s:Γ) (σ:St) (H:Hp) (Q:Bool->Hp->Prop),Inv X π σ H s->t σ H Q ->
  wpAny (model X.prog X.w) X.A (forIn ifs true λc r=>if r=true then do let ok <- isTrue c X.env (eval c X.env);pure (ForInStep.yield ok)else pure (ForInStep.yield r)) (TP X π σ Q) X.xe s
def RQ:TT:=λ_ H Q=>Q true H
def CU{X:Cx}:Sj X [] RQ:=λ_ _ _ H _ I h=>wpAny_tests_nil ⟨H,I,h⟩
def WK{X:Cx}{c:Expr}{t:TT}(h:PT X c t):Sj X [c] t:=λπ s σ H Q I q=>wpAny_tests_one (h π s σ H Q I q)
def AU(n:Nat)(js:LN)(g:TG)(tt:TT)(te:TE)(σ:St)(Q:VK)(J:It)(H1:Hp):Prop:=∀ D,H1 D=none ->
 ∃ W:Nat->Nat->LV->St->Hp->Prop,(∃ m,W 0 m [] (IY n js σ) (upd H1 D (.lst [])))/\∀ i m ys σ' H',W i m ys σ' H' ->
  (J.stop i H'/\Q (.ref D) H') \/
  (J.go i H'/\↑ys<sizeLine/\∃ N:LV->St->Hp->Prop,(∀ F0 σ3 H3,N F0 σ3 H3->∃ m',m'<m/\W (i + 1) m' F0 σ3 H3)/\∀ x H2,J.yld i H' x H2->g x σ' H2 λσ3 H3=>tt σ3 H3 λb H4 =>
   if b=true then te σ3 H4 λv H5=>H5 D≈(.lst ys)/\N (ys++[v]) σ3 (upd H5 D (.lst (ys++[v])))
   else N ys σ3 H4)
section
variable {prog:Δ}{w:World}{A:Around}{E:EV}{R:Result->Γ->Prop}{s:Γ}
def wR{elt target iter:Expr}{ifs:ε}{scope:Scope}{pos:Pos}{it acc:ω}{env:Env}(I:Nat->Γ->Prop)
  (turn:∀ n s,I n s->∀ E:EV,wpAny (model prog w) A (pyNext it) (λr s₁=>match r with
   | none=>R (.ok .next) s₁
   | some v=>wpAny (model prog w) A (letOwnedTupleGo target it v) (λ_ dX=>wpAny (model prog w) A (assign target env v) (λ_ s₂ =>
     wpAny (model prog w) A (forIn ifs true λc r=>if r=true then do let ok <- isTrue c env (eval c env);pure (ForInStep.yield ok)else pure (ForInStep.yield r)) (λok s₃ =>
      if ok=true then wpAny (model prog w) A (eval elt env) (λx s₄ =>
       wpAny (model prog w) A (call (.builtin "list.append") [acc,x]) (λ_ s₅=>∃ m,m<n/\I m s₅) E s₄) E s₃
      else ∃ m,m<n/\I m s₃) E s₂) E dX) E s₁) E s)
  (n:Nat) (h:I n s):
  codeAny (model prog w) A (.compLoop (.ListComp elt [⟨target,iter,ifs,0⟩] scope pos) 0 it acc env) R s:=by
 refine codeAny_loop rfl I (λn s hI=>?_) n h;show wpAny _ A ((compTurn (.ListComp elt [⟨target,iter,ifs,0⟩] scope pos) 0 it acc env).onRaise (λx=>do noteFrame x env;theTreesLotGoes x)) _ _ s;refine wpAny_noted ?_;rw[compTurn_list];refine Ja (wpAny_standAt (Ja (Jf (turn n s hI _) (λr s₁ h₁=>?_) λ_ _ h'=>h')));cases r with
 | none=>exact Jd h₁
 | some v =>
  refine Ja (Jf h₁ (λ_ dX qI=>?_) λ_ _ h'=>h');refine Ja (Jf qI (λ_ s₂ h₂=>Ja (Jf h₂ (λok s₃ h₃=>?_) λ_ _ h'=>h')) λ_ _ h'=>h');cases ok with
  | false=>exact Jd ⟨Y,h₃⟩
  | true =>
   exact Ja (Ja (Jf h₃ (λx s₄ h₄=>Ja (Jf h₄ (λ_ s₅ h₅=>Jd (Jd ⟨Y,h₅⟩)) λ_ _ h'=>h')) λ_ _ h'=>h'))
end
section
variable {X:Cx}{π:PL}{σ:St}{scope:Scope}{own θ:LS}{js:LN}
theorem Fi.cells(c:Fi X scope own θ js)(ok:X.Ok):∀ y∈scope.names,y.2=.free->∃ a,X.env.cells.lookup y.1≈a:=λy hy e=>by
 rcases c.fr y hy e with h | h
 ·exact ok.has y.1 (.inl h)
 ·exact ok.has y.1 (.inr h)
def Fi.cl(c:Fi X scope own θ js)(ok:X.Ok){x:Str}{a:χ}(h:(Dd X.env scope.names []).lookup x≈a):X.env.cells.lookup x≈a :=
 aP scope.names [] x a (c.cells ok) (λ_ _ z=>by simp at z) h
def Fi.has(c:Fi X scope own θ js){x:Str}(h:scope.names.lookup x≈.free):∃ a,(Dd X.env scope.names []).lookup x≈a :=
 Option.isSome_iff_exists.mp (Zn scope.names [] x (JL h))
theorem Fi.ok{s2:Γ}{H2:Hp}{fp:μ}{C:χ}(c:Fi X scope own θ js)(I:Inv X π σ H2 s2)(f2:∀ b∈fp,CY X π H2 b)(A_:∀ b∈fp,b<⇑s2)(hC:⇑s2<=C)(N:LS):
  (C0 X scope N C s2 H2 fp).Ok where
 mod:=I.ok.mod
 kind:=c.kind
 glob:=I.ok.glob
 blt:=I.ok.blt
 above:=hC
 inj:=λx y a h1 h2=>I.ok.inj x y a (c.cl I.ok h1) (c.cl I.ok h2)
 has:=λx h=>by
  have h':scope.names.lookup x≈.free\/scope.names.lookup x≈.cell:=ky (env:=X.env) h
  rcases h' with h' | h'
  ·exact c.has h'
  ·exact absurd rfl (c.nocell _ (JL h'))
 cab:=λx a h=>absurd (show false=true from h) Yh
 hd:=λh=>I.ok.hd h
 frames:=I.ok.frames
 stk:=.inl rfl
 exf:=λb hb=>⟨Yl (Yn (A_ b hb) hC),λx a h=>(f2 b hb).2.2.2.2.1 x a (c.cl I.ok h)⟩
 bs:=I.bs
 bsz:=Yq I.ok.bsz I.sz
 noex:=λb o e hb=>by
  rcases(f2 b hb).2.2.2.1 with z | z
  ·exact I.ok.noex b o e z
  ·exact absurd (Yn (Yc e) (Yq I.ok.bsz z)) (Gp _)
 exfs:=λb hb z=>by
  rcases Bj.mp (I.stkSub b z)with e | e
  ·exact(f2 b hb).2.1 e
  ·exact(f2 b hb).2.2.1 e
 funs:=I.stack
 frf:=I.stkFree
def jy{s2:Γ}{tg iter elt:Expr}{ifs:ε}{pos:Pos}{g:TG}{tt:TT}{te:TE}{Q:VK}{RR:ω->χ->Result->Γ->Prop}{itv:ω}{E:EV}
  (c:Fi X scope own θ js)
  (hg:∀ C s H fp,PG (C0 X scope (own++θ) C s H fp) tg g) (ht:∀ C s H fp,Sj (C0 X scope (own++θ) C s H fp) ifs tt) (he:∀ C s H fp,PE (C0 X scope (own++θ) C s H fp) elt te)
  (h:bj X π σ tg (AU ↑own js g tt te σ Q) itv s2)
  (hR:∀ D C H' s',Inv X π σ H' s'->CY X π H' C->(∃ m,s'.heap.Ns C m)->Q (.ref D) H'->RR (.ref D) C (.ok .next) s'):
  wpAny (model X.prog X.w) X.A (newList []) (λacc s₃=>wpAny (model X.prog X.w) X.A (newFunctionEnv scope X.env.globals (Dd X.env scope.names []) [] X.env.qual none .none (↥X.env)) (λcenv s₄ =>
   codeAny (model X.prog X.w) X.A (.compStart (.ListComp elt [⟨tg,iter,ifs,0⟩] scope pos) 0 itv acc {cenv with scope:=relabel scope X.env}) (RR acc cenv.locals) s₄) E s₃) E s2:=by
 obtain⟨it,fp,tn,J,H2,e,I2,T,FT,f2,hq⟩:=h;subst e;refine wpAny_newObj_type (wpAny_newFunctionEnv c.nocell (by intro y hy;simp at hy) (λh₁ hns₁ hsb₁=>?_) c.kind);dsimp only at hns₁ hsb₁ ⊢;generalize YV:s2.heap.push {cls:=.type "list",dict:=none,data:=.seq ([]:LU).toArray}=G2 at hns₁ hsb₁ ⊢;have hC:G2.objs.size=⇑s2 + 1:=by rw[<- YV,C6]
 have hDC:⇑s2≠G2.objs.size:=by rw[hC];exact Yl (Nat.lt_succ_self _)
 have hCle:⇑s2<=G2.objs.size:=by rw[hC];exact Ld _
 have old:∀ b o,s2.heap.get? b≈o->h₁.get? b≈o:=λb o e=>by
  have hb:=Yc e;exact hsb₁.extBut b o (by rw[hC];exact Yl (Nat.lt_succ_of_lt hb)) (Yb _ (YV ▸ Yb _ e))
 have hD:H2 ⇑s2=none:=I2.hok.fresh (Yd _);have A_:∀ b∈fp,b<⇑s2:=λb hb=>by
  obtain⟨o,e,_⟩:=T.obj _ _ FT b hb;exact Yc e
 have BH:h₁.get? ⇑s2=some {cls:=.type "list",data:=.seq ([]:LU).toArray}:=hsb₁.extBut _ _ hDC (Yb _ (YV ▸ Ye _ rfl));obtain⟨W,⟨m0,w0⟩,turn⟩:=hq _ hD;have I0:∀ tk,Inv (C0 X scope (own++θ) G2.objs.size s2 H2 fp) [] (IY ↑own js σ) (upd H2 ⇑s2 (.lst [])) {s2 with heap:=h₁,toks:=tk}:=λtk=>by
  refine⟨c.ok I2 f2 A_ hCle _,Y,I2.bare,Un.laid old (Yd _) hD,⟨_,hns₁,λi x v h1 h2 h3=>?_⟩,λx a h=>?_,?_,λx a h=>?_,λp hp=>absurd (show p∈([]:PL)from hp) (by simp),I2.hok.laid old (Yd _) ⟨Bm _,[],0,.nil,BH⟩,?_⟩
  ·have hi:↑own<=i:=by
    by_cases hi:i<↑own
    ·unfold IY at h2;rw[bf (by simpa using hi),List.getElem?_replicate]at h2;rw[if_pos hi]at h2;cases h2
    ·omega
   have hx:θ[i - ↑own]?≈x:=by
    have Hk:(own++θ)[i]?≈x:=h1
    rwa [bX hi]at Hk
   have Vl:(js.map λj=>(σ[j]?).join)[i - ↑own]?≈(↥v):=by
    unfold IY at h2;rw[bX (by simpa using hi)]at h2;simpa using h2
   rw[Yj]at Vl;obtain⟨j,hj,hjv⟩:=Fp.mp Vl;have hs:=congrArg (λl=>l[i - ↑own]?) c.slots;rw[Yj,Yj,hj,hx]at hs;have hNj:X.N[j]?≈x:=Yp hs;have hσ:σ[j]?≈(↥v):=by
    cases q:σ[j]? with
    | none=>rw[q]at hjv;cases hjv
    | some o =>
     rw[q]at hjv;have:o≈v:=hjv;rw[this]
   have hfree:=c.fre x (Yi hx);have hXk:=c.fr (x,.free) (JL hfree) rfl;obtain⟨m,hn,hl⟩:=I2.loc;have vis:Xr X.env.scope x:=by rcases hXk with k | k;exact .inr (.inl k);exact .inr (.inr k)
   obtain⟨u,r,l⟩:=hl j x v hNj hσ vis;refine⟨u,r,.inr ⟨k4 (env:=X.env) hfree,?_⟩⟩
   rcases l with⟨hk,_⟩ | ⟨_,a,ha,hcell⟩
   ·rcases hXk with k | k
    ·have hk:X.env.scope.names.lookup x≈.local:=hk;rw[show X.env.scope.names.lookup x≈.cell from k]at hk;cases hk
    ·have hk:X.env.scope.names.lookup x≈.local:=hk;rw[show X.env.scope.names.lookup x≈.free from k]at hk;cases hk
   ·obtain⟨a',fY⟩:=c.has hfree;have e:=c.cl I2.ok fY;rw[ha]at e;cases e;obtain⟨o,ho,hd⟩:=hcell;exact⟨a,fY,o,old a o ho,hd⟩
  ·obtain⟨v,o,ho,hd⟩:=I2.cell x a (c.cl I2.ok h);exact⟨v,o,old a o ho,hd⟩
  ·show upd H2 ⇑s2 (.lst []) G2.objs.size=none;rw[AE (Ae hDC)];exact I2.hok.fresh hCle
  ·obtain⟨v,o,ho,hd⟩:=I2.cell x a (c.cl I2.ok h);rw[AE (Yl (Yc ho))];exact I2.freeC x a (c.cl I2.ok h)
  ·rw[Z1v,Yu];have:=congrArg List.length c.slots;rw[Ya,Ya]at this;omega
 have stat:∀ {H':Hp},(∀ b∈fp,H' b=none)->∀ b∈fp,CY (C0 X scope (own++θ) G2.objs.size s2 H2 fp) [] H' b:=λ{H'} hn b hb=>by
  obtain⟨f0,f1,f3,f4,f5,f6⟩:=f2 b hb;refine⟨hn b hb,Yl (Yn (A_ b hb) hCle),λz=>?_,.inl hb,λx a h=>f5 x a (c.cl I2.ok h),λp hp=>absurd (show p∈([]:PL)from hp) (by simp)⟩
  rcases Bj.mp (I2.stkSub b z)with e | e
  ·exact f1 e
  ·exact f3 e
 have loop:∀ s₃:Γ,s₃={s2 with heap:=h₁,toks:=s2.toks + ↑([]:List (Str×ω))} ->
   codeAny (model X.prog X.w) X.A (.compLoop (.ListComp elt [⟨tg,iter,ifs,0⟩] scope pos) 0 (.ref it) (.ref ⇑s2) (compEnvC scope (Dd X.env scope.names []) G2.objs.size X.env))
    (RR (.ref ⇑s2) G2.objs.size) s₃:=by
  rintro s₃ rfl;refine wR (λn s'=>∃ i ys σ' H',Inv (C0 X scope (own++θ) G2.objs.size s2 H2 fp) [] σ' H' s'/\tn i s'.heap/\(∀ b∈fp,H' b=none)/\W i n ys σ' H') ?_ m0
   ⟨0,[],_,_,I0 _,T.keep _ _ _ FT λb _ o e=>old b o e,λb hb=>by rw[AE (Yl (A_ b hb))];exact(f2 b hb).1,w0⟩
  rintro n s3 ⟨i,ys,σ3,H3,I3,Qk,RI,w3⟩ E'
  rcases turn i n ys σ3 H3 w3 with⟨stop,qn⟩ | ⟨go,hz,N,hN,step⟩
  ·refine AH (T.done (C0 X scope (own++θ) G2.objs.size s2 H2 fp) rfl rfl rfl c.calm i [] s3 σ3 H3 E' I3 (stat RI) Qk stop) λr s4 ⟨hr,I4⟩=>?_;subst hr;have back:Inv X π σ H3 s4:=I2.call' (ch:=fp) I4.os I4.base I4.hok I4.bare λb hb=>⟨(f2 b hb).2.2.2.1,(f2 b hb).2.1,(f2 b hb).2.2.2.2.1,(f2 b hb).2.2.2.2.2⟩;exact hR _ _ H3 s4 back (I2.fpOk hCle I4.free) ⟨_,I4.loc.choose_spec.1⟩ qn
  ·refine AH (T.item (C0 X scope (own++θ) G2.objs.size s2 H2 fp) rfl rfl rfl c.calm i [] s3 σ3 H3 E' I3 (stat RI) Qk go) λr s4 ⟨u,hr,h4⟩=>?_;subst hr;refine AH h4 λ_ s5 ⟨x,H5,I5,r5,y5,ME,Y3⟩=>?_;have bu:=I5.pinned (stat Y3) (T.obj _ _ ME);have nof:∀(e:ω) (s':Γ),(C0 X scope (own++θ) G2.objs.size s2 H2 fp).xe e s'->E' e s':=λ_ _ z=>False.elim z;refine Jf (hg _ _ _ _ _ s5 σ3 H5 x u _ bu r5 (step x H5 y5)) (λ_ s6 ⟨σ6,H6,I6,q6⟩=>?_) nof;refine Jf (ht _ _ _ _ _ s6 σ6 H6 _ I6 q6) (λb s7 ⟨H7,I7,q7⟩=>?_) nof;have again:∀ {σ7:St} {H7:Hp} {s7:Γ} {Qi:LV},Inv (C0 X scope (own++θ) G2.objs.size s2 H2 fp) ([]++RX fp s5.heap) σ7 H7 s7->N Qi σ7 H7 ->
     ∃ m,m<n/\∃ i ys σ' H',Inv (C0 X scope (own++θ) G2.objs.size s2 H2 fp) [] σ' H' s7/\tn i s7.heap/\(∀ b∈fp,H' b=none)/\W i m ys σ' H':=λ{σ7 H7 s7 Qi} I7 n7=>by
    obtain⟨m',hm,w7⟩:=hN _ _ _ n7;refine⟨m',hm,i + 1,Qi,σ7,H7,I7.unpinned,T.keep _ _ _ ME λb hb o e=>(I7.pin (b,o) (FJ _ (FJ _ (Wh hb e)))).1,λb hb=>?_,w7⟩;obtain⟨o,e,d⟩:=T.obj _ _ ME b hb;exact(I7.pin (b,o) (FJ _ (FJ _ (Wh hb e)))).2.1
   cases b with
   | false =>
    rw[if_neg Yh]at q7 ⊢;exact again I7 q7
   | true =>
    rw[if_pos rfl]at q7 ⊢;refine Jf (he _ _ _ _ _ s7 σ6 H7 _ I7 q7) (λv s8 ⟨y,H8,I8,r8,qb,w8⟩=>?_) nof;refine Jf (QB (X:=C0 X scope (own++θ) G2.objs.size s2 H2 fp) _ s8 σ6 H8 (.ref ⇑s2) [y] (.ref ⇑s2) [v] (λ_ H9=>H9=upd H8 ⇑s2 (.lst (ys++[y]))) I8 rfl (.cons r8 .nil) ⟨_,ys,y,Y,Y,qb,hz,Y⟩) (λz s9 ⟨_,H9,I9,_,e9⟩=>?_) nof;subst e9;exact again I9 w8
 exact codeAny_compStart_list (loop _ rfl) (T.self X.A 0 _ _ _ (T.keep _ _ _ FT λb _ o e=>old b o e) (loop _ rfl))
end
section
variable {X:Cx}{scope:Scope}{own θ:LS}{js:LN}{tg iter elt:Expr}{ifs:ε}{wi:TI}{g:TG}{tt:TT}{te:TE}{pos:Pos}
def yN(n:Nat)(js:LN)(wi:TI)(g:TG)(tt:TT)(te:TE):TE:=λσ H Q=>wi σ H (AU n js g tt te σ Q)
def Cm(own θ:LS)(js:LN)(hc:X.Ok->Fi X scope own θ js)(hi:PI X tg iter wi)
  (hg:∀ C s H fp,PG (C0 X scope (own++θ) C s H fp) tg g) (ht:∀ C s H fp,Sj (C0 X scope (own++θ) C s H fp) ifs tt) (he:∀ C s H fp,PE (C0 X scope (own++θ) C s H fp) elt te)
  (hs:∀ x,foldedSetIterable iter X.env x=pure x:=by intro _;rfl):
  PE X (.ListComp elt [⟨tg,iter,ifs,0⟩] scope pos) (yN ↑own js wi g tt te):=by
 ac_rfl;have c:=hc I.ok;rw[eval_ListComp];refine wpAny_comprehension_free (use:=none) rfl hs (ka (c.cells I.ok)) c.kind c.locals (AH (hi π s σ H _ I h) λxv s₁ h₁=>AH h₁ λit s₂ h₂=>?_);refine jy (RR:=λacc C=>compPost (model X.prog X.w) X.A X.xe none (EP X π σ Q) acc C) c hg ht he h₂ λD C H' s' J F n q=>?_;obtain⟨m,hn⟩:=n;obtain⟨f0,f1,f2,f3,f4,f5⟩:=F;exact⟨m,hn,λh' YK=>⟨.ref D,H',J.turned (t':=s'.toks) (λb o hb e=>YK.extBut b o hb e) f0 f1 f3 f4 f5,Y,q⟩⟩
def sr(k n:Nat)(js:LN)(wi:TI)(g:TG)(tt:TT)(te:TE):TS:=λD σ H=>wi σ H (AU n js g tt te σ λv H1=>D.nx (σ.set k (↥v)) H1)
def QF{k:Nat}{y:Str}{py spos:Pos}(own θ:LS)(js:LN)(hN:X.N.Nodup)(hk:X.N[k]?≈y)(hy:X.env.scope.names.lookup y≈.local)(hc:X.Ok->Fi X scope own θ js)(hi:PI X tg iter wi)
  (hg:∀ C s H fp,PG (C0 X scope (own++θ) C s H fp) tg g) (ht:∀ C s H fp,Sj (C0 X scope (own++θ) C s H fp) ifs tt) (he:∀ C s H fp,PE (C0 X scope (own++θ) C s H fp) elt te)
  (hsw:swapsWith (.ListComp elt [⟨tg,iter,ifs,0⟩] scope pos) (↥(.Name y py)) spos.line X.env=pure true:=by rfl)
  (hs:∀ x,foldedSetIterable iter X.env x=pure x:=by intro _;rfl):
  PS X (.Assign [.Name y py] (.ListComp elt [⟨tg,iter,ifs,0⟩] scope pos) spos) (sr k ↑own js wi g tt te):=by
 intro π s σ H D I h;have c:=hc I.ok;rw[exec_Assign_Name_used _ _ _ _ hsw];refine Ja (wpAny_standAt (Ja ?_));show wpAny _ X.A (do let _ <- comprehension (.ListComp elt [⟨tg,iter,ifs,0⟩] scope pos) scope X.env _ (newList []) false (eval iter X.env) (↥(assign (.Name y py) X.env))) _ _ s;refine Ja (Jf (wpAny_comprehension_free (use:=↥(assign (.Name y py) X.env)) (Q:=λ_ s'=>SP X π D .next s') rfl hs (ka (c.cells I.ok)) c.kind c.locals
  (AH (hi π s σ H _ I h) λxv s₁ h₁=>AH h₁ λit s₂ h₂=>?_)) (λ_ s' hq=>Jd (Jd hq)) λ_ _ e=>e)
 refine jy (RR:=λacc C=>compPost (model X.prog X.w) X.A X.xe (↥(assign (.Name y py) X.env)) (λ_ s'=>SP X π D .next s') acc C) c hg ht he h₂ λA' C H' s' J F n q=>?_;obtain⟨m,hn⟩:=n;obtain⟨f0,f1,f2,f3,f4,f5⟩:=F;show wpAny _ X.A (assign (.Name y py) X.env (.ref A')) _ _ _;refine wpAny_assign_Name (jf J hN hk (.inl hy) (v:=.ref A') rfl (λDJ J' ⟨a,sb,ha⟩=>?_) (.inr hy));have Dn:a≠C:=by
  rcases ha with e | e
  ·rw[e];exact Ae f1
  ·exact f4 y a e
 refine⟨m,hn.sameBut sb (Ae Dn),λh' YK=>⟨_,H',J'.turned (t':=DJ.toks) (λb o hb e=>YK.extBut b o hb e) f0 f1 f3 f4 f5,q⟩⟩
end
def WX{J:It}{xs:LV}{Ok:Hp->Prop}(R:FE J xs Ok){n:Nat}{js:LN}{g:TG}{tt:TT}{te:TE}{σ:St}{Q:VK}{H1:Hp}(hz:↑xs<=sizeLine)
  (Pv:χ->Nat->LV->St->Hp->Prop) (h0:∀ D,H1 D=none->Pv D 0 [] (IY n js σ) (upd H1 D (.lst [])))
  (hok:∀ D i ys σ' H,i<=↑xs->Pv D i ys σ' H->Ok H/\↑ys<=i)
  (hs:∀ D i x ys σ' H,H1 D=none->xs[i]?≈x->Pv D i ys σ' H->g x σ' H λσ3 H3=>tt σ3 H3 λb H4 =>
   if b=true then te σ3 H4 λv H5=>H5 D≈(.lst ys)/\Pv D (i + 1) (ys++[v]) σ3 (upd H5 D (.lst (ys++[v])))else Pv D (i + 1) ys σ3 H4)
  (hd:∀ D ys σ' H,H1 D=none->Pv D ↑xs ys σ' H->Q (.ref D) H):
  AU n js g tt te σ Q J H1:=by
 intro D hD;refine⟨λi m ys σ' H=>m=↑xs - i/\i<=↑xs/\Pv D i ys σ' H,⟨↑xs,by simp,Bm _,h0 D hD⟩,?_⟩;rintro i m ys σ' H ⟨rfl,hi,p⟩;obtain⟨q,hy⟩:=hok D i ys σ' H hi p;by_cases A_:i<↑xs
 ·have hx:xs[i]?≈xs[i]:=by simp[A_]
  refine .inr ⟨R.go i _ H q hx,O,Pv D (i + 1),λF0 σ3 H3 p3=>⟨↑xs - (i + 1),O,Y,A_,p3⟩,λx H' y=>?_⟩;obtain⟨e1,e2⟩:=R.yld i _ H x H' q hx y;rw[e2];exact hs D i x ys σ' H hD (by rw[e1];exact hx) p
 ·have e:i=↑xs:=by omega
  subst e;exact .inl ⟨R.stop H q,hd D ys σ' H hD p⟩
def Z6{J:It}{xs:LV}{Ok:Hp->Prop}(R:FE J xs Ok){js:LN}{tt:TT}{te:TE}{σ:St}{Q:VK}{H1:Hp}(hz:↑xs<=sizeLine)(p:V->Bool)(f:V->V)
  (hok:∀ D ys,H1 D=none->Ok (upd H1 D (.lst ys)))
  (ht:∀ D ys x (R:Bool->Hp->Prop),H1 D=none->x∈xs->R (p x) (upd H1 D (.lst ys))->tt (↥x :: js.map λj=>(σ[j]?).join) (upd H1 D (.lst ys)) R)
  (he:∀ D ys x (R:V->Hp->Prop),H1 D=none->x∈xs->p x=true->R (f x) (upd H1 D (.lst ys))->te (↥x :: js.map λj=>(σ[j]?).join) (upd H1 D (.lst ys)) R)
  (hd:∀ D,H1 D=none->Q (.ref D) (upd H1 D (.lst ((xs.filter p).map f)))):
  AU 1 js (EI 0) tt te σ Q J H1:=by
 refine WX R hz (λD i ys σ' H=>H1 D=none/\ys=((xs.take i).filter p).map f/\(∃ o,σ'=o :: js.map λj=>(σ[j]?).join)/\H=upd H1 D (.lst ys)) ?_ ?_ ?_ ?_
 ·intro D hD;exact⟨hD,by simp,⟨none,Y⟩,Y⟩
 ·rintro D i ys σ' H hi ⟨hD,e,_,rfl⟩;refine⟨hok D ys hD,?_⟩;rw[e,Ya];exact Yq (JP _ _) (by rw[Yv];omega)
 ·rintro D i x ys σ' H hD hx ⟨_,e,⟨o,rfl⟩,rfl⟩;show tt (↥x :: js.map λj=>(σ[j]?).join) (upd H1 D (.lst ys)) _;have hm:x∈xs:=Yi hx;refine ht D ys x _ hD hm ?_;cases hp:p x with
  | true =>
   rw[if_pos rfl];refine he D ys x _ hD hm hp ⟨uS,hD,?_,⟨Z⟩,WI⟩;rw[take_succ_filter p xs i x hx,hp,Yy,e];rfl
  | false =>
   rw[if_neg Yh];refine⟨hD,?_,⟨Z⟩,Y⟩;rw[take_succ_filter p xs i x hx,hp,Yy,e];simp
 ·rintro D ys σ' H hD ⟨_,e,_,rfl⟩;rw[CI]at e;rw[e];exact hd D hD
section
variable {X:Cx}
def jE{bs:List Bool}{η:LU}(r:AR (bs.map V.bl) η):∀(i:Nat) (v:ω),η[i]?≈v->v=Value.bool (bs.getD i false):=λi v h=>by
 have hl:=↑r;rw[Ya]at hl;have hi:i<↑η:=(Yf.mp h).1;have hb:(bs.map V.bl)[i]?≈(V.bl (bs.getD i false)):=by
  rw[Yj,Ew];have:i<↑bs:=by omega
  simp[this]
 obtain⟨u,hu,ru⟩:=r.get hb;rw[h]at hu;cases hu;exact ru
def ug{bs:List Bool}:(List.range ↑bs).all (λi=>bs.getD i false)=bs.all id:=by
 rw[Gm];simp only[Cd,List.mem_range,id];constructor
 ·intro h b hb;obtain⟨i,hi,e⟩:=Xc.mp hb;have:=h i hi;rw[Ew]at this;simpa[hi,e]using this
 ·intro h i hi;rw[Ew];simp only[Yg hi,Option.getD_some];exact h _ (List.getElem_mem hi)
def uh{bs:List Bool}:(List.range ↑bs).any (λi=>bs.getD i false)=bs.any id:=by
 rw[Gm];simp only[Ft,List.mem_range,id];constructor
 ·rintro⟨i,hi,e⟩;rw[Ew]at e;simp only[Yg hi,Option.getD_some]at e;exact⟨_,List.getElem_mem hi,e⟩
 ·rintro⟨b,hb,e⟩;obtain⟨i,hi,e'⟩:=Xc.mp hb;refine⟨i,hi,?_⟩;rw[Ew];simp only[Yg hi,Option.getD_some];rw[e',e]
def lS(K:Fg)(f:List Bool->Bool):LV->Hp->VK->Prop:=λxs H Q=>∃ a bs,xs=[.ref a]/\AD K H a (bs.map V.bl)/\Q (.bl (f bs)) H
def WM(hc:X.calm=true):Em X (.builtin "all") (lS X.K λbs=>bs.all id):=by
 intro π s σ H xs us Q I r h;obtain⟨a,bs,rfl,ha,q⟩:=h;obtain⟨u,rfl,ru⟩:=Ga r;cases ru;obtain⟨η,rv,p,hz⟩:=I.list ha;have hl:=↑rv;rw[Ya]at hl;refine call_all_walk (wpAny_pyIter_list p.isList ?_);have Dn:a≠⇑s:=by
  obtain⟨o,ho,_⟩:=p.isList;exact Yl (Yc ho)
 refine⟨⇑s,_,_,_,_,_,λi=>bs.getD i false,Y,Walks.list (A:=X.A.in1) (I.ok.hd hc) ⇑s a Dn η.toArray,⟨⟨_,Ye _ rfl,Y,Y⟩,?_⟩,?_,?_⟩
 ·obtain⟨o,ho,r'⟩:=p.isList;exact⟨o,Yb _ ho,r'⟩
 ·intro i v s' Q' E' hv hq;have e:=jE rv i v (by simpa using hv);subst e;exact Jh hq
 ·intro h' tk hk;refine⟨.bl (bs.all id),H,I.kept λb o e=>hk b o ?_ (Yb _ e),?_,q⟩
  ·have hb:=Yc e;intro z;have z':b=⇑s:=by simpa using z
   exact Yl hb z'
  ·have:η.toArray.size=↑bs:=by simp[hl]
   rw[this,ug];rfl
def Zv(hc:X.calm=true):Em X (.builtin "any") (lS X.K λbs=>bs.any id):=by
 intro π s σ H xs us Q I r h;obtain⟨a,bs,rfl,ha,q⟩:=h;obtain⟨u,rfl,ru⟩:=Ga r;cases ru;obtain⟨η,rv,p,hz⟩:=I.list ha;have hl:=↑rv;rw[Ya]at hl;refine call_any_walk (wpAny_pyIter_list p.isList ?_);have Dn:a≠⇑s:=by
  obtain⟨o,ho,_⟩:=p.isList;exact Yl (Yc ho)
 refine⟨⇑s,_,_,_,_,_,λi=>bs.getD i false,Y,Walks.list (A:=X.A.in1) (I.ok.hd hc) ⇑s a Dn η.toArray,⟨⟨_,Ye _ rfl,Y,Y⟩,?_⟩,?_,?_⟩
 ·obtain⟨o,ho,r'⟩:=p.isList;exact⟨o,Yb _ ho,r'⟩
 ·intro i v s' Q' E' hv hq;have e:=jE rv i v (by simpa using hv);subst e;exact Jh hq
 ·intro h' tk hk;refine⟨.bl (bs.any id),H,I.kept λb o e=>hk b o ?_ (Yb _ e),?_,q⟩
  ·have hb:=Yc e;intro z;have z':b=⇑s:=by simpa using z
   exact Yl hb z'
  ·have:η.toArray.size=↑bs:=by simp[hl]
   rw[this,uh];rfl
def xY(i j:Int):Prop:=Builtin.Int.intBits i<=2 ^ 20/\Builtin.Int.intBits j<=2 ^ 20
def WJ:BP X (binaryOp .Mult) (rI xY λi j=>.int (i * j)):=Pe λ_ _ _ _ _ _ _ hc q=>mul_int q (IntMulOk.of_bits hc.1 hc.2)
end
def l8(osc:Scope)(on:LS)(scope:Scope)(θ:LS)(js:LN):Bool :=
 (scope.kind == .function)&&scope.names.all (λy=>y.2 != .cell)&&scope.names.all (λy=>y.2 != .local || scope.names.lookup y.1 == ↥.local) &&
 scope.names.all (λy=>y.2 != .free || (osc.names.lookup y.1 == ↥.cell || osc.names.lookup y.1 == ↥.free))&&θ.all (λx=>scope.names.lookup x == ↥.free)&&decide (js.map (λj=>on[j]?)=θ.map some)
def Bs{X:Cx}{osc scope:Scope}{on own θ:LS}{js:LN}(h:l8 osc on scope θ js=true)(h1:X.env.scope=osc)(h2:X.N=on)(h3:X.calm=true):Fi X scope own θ js:=by
 subst h1;subst h2;unfold l8 at h;simp only[EF,Cd,decide_eq_true_eq,Bool.or_eq_true,bne_iff_ne,beq_iff_eq,ne_eq]at h;obtain⟨⟨⟨⟨⟨a,b⟩,c⟩,d⟩,e⟩,f⟩:=h;exact⟨h3,a,b,λy hy z=>(c y hy).resolve_left (λq=>q z),λy hy z=>(d y hy).resolve_left (λq=>q z),e,f⟩
def GQ(t u:TS):TS:=λD σ H=>∃ M:SW,t {D with nx:=M} σ H/\∀ σ' H',M σ' H'->u D σ' H'
def IA{X:Cx}{st:Stmt}{AQ:List Stmt}{t u:TS}(h1:PS X st t)(h2:PSs X AQ u):PSs X (st :: AQ) (GQ t u):=by
 intro π s σ H D I h;obtain⟨M,h,hM⟩:=h;refine wpAny_execs_cons (AH (h1 π s σ H {D with nx:=M} I h) λf s1 q=>?_);cases f with
 | next =>
  obtain⟨σ',H',I',q⟩:=q;exact h2 π s1 σ' H' D I' (hM _ _ q)
 | ret v=>exact q
 | brk=>exact q
 | cont=>exact q
structure Def(K:Fg)(mg:Str->OU)(x:Str)(st:Stmt)(ps:LS)(f:χ)(fd:FuncData):Prop where
 fn:BW K x x st f fd
 b:CC K fd ps []
 m:mg x≈(.ref f)
def AY{X:Cx}{k:Nat}{ps:LS}{sp:Sp}{x:Str}{st:Stmt}{p pos:Pos}{e:Expr}{es:ε}{t:TA}(d:Def X.K X.mg x st ps f fd)(F:AN X.prog X.w X.K X.mg X.base IT k f fd ps sp)(hr:AX k X.A)
  (ha:PA X (e :: es) t) (hg:Gl X x:=by rfl) (hdb:(x == ("__debug__":Str))=false:=by decide) (he:starEach (e :: es) X.env=(false,eval e X.env):: starEach es X.env:=by rfl) (hpl:(backTo pos (starEach es X.env)).any (·.1)=false:=by rfl):
  PE X (.Call (.Name x p) (e :: es) [] pos) (Vu sp [] E0 t):=ZZ F hr hg d.m d.fn.kp d.b .nil Aw ha hdb he hpl
def sL{n:Nat}(h:n<=100000):n<=sizeLine:=by rw[sizeLine_eq];omega
end L2
namespace L2
open PySem PySem.Spec PyProof.Rows PySem.W
mutual
inductive Rep(K:Fg)(H:Hp):V->Dat->Prop
 | none:Rep K H .non .none
 | bool (b:Bool):Rep K H (.bl b) (.bool b)
 | int (i:Int):Rep K H (.int i) (.int i)
 | str (x:Str):Rep K H (.str x) (.str x)
 | tuple {a:χ} {xs:LV} {ds:List Dat}:AJ K H a xs->A6 K H xs ds->Rep K H (.ref a) (.tuple ds)
 | list {a:χ} {xs:LV} {ds:List Dat}:AD K H a xs->A6 K H xs ds->Rep K H (.ref a) (.list ds)
inductive A6(K:Fg)(H:Hp):LV->List Dat->Prop
 | nil:A6 K H [] []
 | cons {v:V} {vs:LV} {d:Dat} {ds:List Dat}:Rep K H v d->A6 K H vs ds->A6 K H (v :: vs) (d :: ds)
end
def AA.tup{K:Fg}{H H':Hp}{a:χ}{xs:LV}(e:AA H H')(h:AJ K H a xs):AJ K H' a xs:=by
 rcases h with(h | ⟨o,h⟩) | h
 ·exact .inl (.inl (e _ _ h))
 ·exact .inl (.inr ⟨o,e _ _ h⟩)
 ·exact .inr h
mutual
theorem Rep.mono{K:Fg}{H H':Hp}(e:AA H H'):∀ {v:V}{d:Dat},Rep K H v d->Rep K H' v d
 | _,_,.none=>.none
 | _,_,.bool b=>.bool b
 | _,_,.int i=>.int i
 | _,_,.str x=>.str x
 | _,_,.tuple h r=>.tuple (e.tup h) (A6.mono e r)
 | _,_,.list h r=>.list (e.seq h) (A6.mono e r)
theorem A6.mono{K:Fg}{H H':Hp}(e:AA H H'):∀ {vs:LV}{ds:List Dat},A6 K H vs ds->A6 K H' vs ds
 | _,_,.nil=>.nil
 | _,_,.cons h r=>.cons (Rep.mono e h) (A6.mono e r)
end
section
variable {X:Cx}{π:PL}{σ:St}{H:Hp}{s:Γ}
mutual
theorem Rep.reads(I:Inv X π σ H s):∀ {v:V}{d:Dat}{u:ω},Rep X.K H v d->AW v u->∃ as,Reads s.heap u (kqdP d) as
 | _,_,_,.none,r=>by cases(show _=Value.none from r);rw[kqdP];exact⟨_,Reads.none⟩
 | _,_,_,.bool b,r=>by cases(show _=Value.bool b from r);rw[kqdP];exact⟨_,Reads.bool b⟩
 | _,_,_,.int i,r=>by obtain⟨t,e⟩:=(show ∃ t,_=Value.int i t from r);cases e;rw[kqdP];exact⟨_,Reads.int i t⟩
 | _,_,_,.str x,r=>by obtain⟨t,e⟩:=(show ∃ t,_=Value.str x t from r);cases e;rw[kqdP];exact⟨_,Reads.str x t⟩
 | _,_,_,.tuple (a:=a) h q,r=>by
  cases(show _=Value.ref a from r);obtain⟨η,rv,⟨o,e,c,n,d⟩,_⟩:=I.tuple h;obtain⟨as,p⟩:=A6.reads I q rv;rw[kqdP];exact⟨as,reads_tuple_at e c d (by simpa using p)⟩
 | _,_,_,.list (a:=a) h q,r=>by
  cases(show _=Value.ref a from r);obtain⟨η,rv,⟨o,n,e,c,_,d⟩,_⟩:=I.list h;obtain⟨as,p⟩:=A6.reads I q rv;rw[kqdP];exact⟨_,reads_list_at e c d (by simpa using p)⟩
theorem A6.reads(I:Inv X π σ H s):∀ {vs:LV}{ds:List Dat}{us:LU},A6 X.K H vs ds->AR vs us->∃ as,ReadsAll s.heap us (kqdPs ds) as
 | _,_,_,.nil,r=>by cases r;rw[kqdPs];exact⟨_,ReadsAll.nil⟩
 | _,_,_,.cons h q,r=>by
  cases r with
  | cons r1 r2 =>
   obtain⟨as,p⟩:=Rep.reads I h r1;obtain⟨bs,t⟩:=A6.reads I q r2;rw[kqdPs];exact⟨_,ReadsAll.cons p t⟩
end
end
def Cu(d e:Dat):Bool:=@decide (d=e) (Classical.propDecidable _)
def WN(d:Dat):Cu d d=true:=by unfold Cu;exact @Jb _ (Classical.propDecidable _) rfl
def Z33{d e:Dat}(h:d=e):Cu d e=true:=by rw[h];exact WN e
def WA{d e:Dat}(h:d≠e):Cu d e=false:=by unfold Cu;exact @Jc _ (Classical.propDecidable _) h
def Zj{d e:Dat}{n k:Nat}(h1:kqdOk n d=true)(h2:kqdOk k e=true):PyData.eqv (kqdP d) (kqdP e)=Cu d e:=by
 have q:=kqd_eqv n d e k h1 h2;by_cases h:d=e
 ·rw[Z33 h];exact q.mpr h
 ·rw[WA h];exact Bool.eq_false_iff.mpr λx=>h (q.mp x)
def JH{d:Dat}(h:kqdOk 9 d=true):SeqAt.shaped (kqdP d)=true:=by
 have l:=kqd_lay 9 d h;unfold SeqAt.shaped;rw[l.1,Bool.true_and];exact Jb (Yq l.2 (by decide))
section
variable {X:Cx}
def Ybs(K:Fg)(f:Bool->Bool):R2:=λx y H Q=>∃ d e,Rep K H x d/\Rep K H y e/\kqdOk 9 d=true/\kqdOk 9 e=true/\Q (.bl (f (Cu d e))) H
def mq(hu:X.A.units + 64<cLine):BP X (compareOp .NotEq) (Ybs X.K Bool.not):=by
 exfalso;obtain⟨d,e,h1,h2,k1,k2,q⟩:=h;obtain⟨as,ra⟩:=h1.reads I rx;obtain⟨bs,rb⟩:=h2.reads I ry;exact ne_dataH ra rb (JH k1) (JH k2) hu (BG I q (by rw[Zj k1 k2]))
end
end L2
namespace L2
open PySem PySem.Spec PyProof.Rows
section
variable {X:Cx}{π:PL}{σ:St}{H H':Hp}{s:Γ}{a:χ}{ν:KL}{o:Obj}
def Inv.reH(I:Inv X π σ H s)(base:Un X.fs X.ex X.H₀ H' X.s₀.heap s.heap)(hn:∀ b,H b=none->H' b=none)(hok:BF X.prog X.w H' s.heap):Inv X π σ H' s :=
 ⟨I.ok,I.os,I.bare,base,I.loc,I.cell,hn _ I.free,λx c e=>hn _ (I.freeC x c e),λp hp=>by
  obtain⟨e,n,r⟩:=I.pin p hp;exact⟨e,hn _ n,r⟩,hok,I.len⟩
def Inv.reAt{u u':HO}(I:Inv X π σ H s)(h:H a≈u)(nt:∀ xs,u≠.tup xs)(no:∀ y,u≠.own y)(nb:∀ ps,u≠.tbl ps)(nf:∀ o v,X.H₀ a≠some (.frz o v))
  (ok:A1 X.prog X.w H s.heap a u->A1 X.prog X.w (upd H a u') s.heap a u'):Inv X π σ (upd H a u') s:=by
 have hn:∀ b,H b=none->upd H a u' b=none:=λb e=>by
  rw[AE]
  ·exact e
  ·rintro rfl;rw[h]at e;cases e
 refine I.reH ⟨I.base.keep,I.base.slot,λb ob e n hx=>hn b (I.base.free b ob e n hx),I.base.there,λb xs e=>?_,λb ob v e=>?_,λb ps e=>?_⟩ hn ?_
 ·have q:=I.base.tups b xs e;rw[AE]
  ·exact q
  ·rintro rfl;rw[h]at q;exact nt xs (Yp q)
 ·have q:=I.base.frzs b ob v e;rw[AE]
  ·exact q
  ·rintro rfl;exact nf ob v e
 ·obtain⟨m,q⟩:=I.base.tbls b ps e;refine⟨m,?_⟩;rw[AE]
  ·exact q
  ·rintro rfl;rw[h]at q;exact nb _ (Yp q)
 ·intro b v e;by_cases hb:b=a
  ·subst hb;rw[uS]at e;cases e;exact ok (I.hok b u h)
  ·rw[AE hb]at e;refine(I.hok b v e).stay (λ_ _ _ q=>q) (λc q=>?_) λc xs q=>?_
   ·rw[AE]
    ·exact q
    ·rintro rfl;rw[h]at q;exact no _ (Yp q)
   ·rw[AE]
    ·exact q
    ·rintro rfl;rw[h]at q;exact nt _ (Yp q)
def Inv.freeze(I:Inv X π σ H s)(h:H a≈(.dK ν))(ho:s.heap.get? a≈o):Inv X π σ (upd H a (.frz o (.dK ν))) s/\∀ o' v,X.H₀ a≠some (.frz o' v):=by
 have nf:∀ o' v,X.H₀ a≠some (.frz o' v):=λo' v e=>by
  have q:=I.base.frzs a o' v e;rw[h]at q;cases q
 refine⟨I.reAt h (λ_ z=>nomatch z) (λ_ z=>nomatch z) (λ_ z=>nomatch z) nf λk=>⟨ho,k.stay (λ_ _ _ q=>q) (λc q=>?_) λc xs q=>?_⟩,nf⟩
 ·rw[AE]
  ·exact q
  ·rintro rfl;rw[h]at q;cases q
 ·rw[AE]
  ·exact q
  ·rintro rfl;rw[h]at q;cases q
def nD{P:Δ}{w:World}{k:Key}{u:ω}(h:(BV P w).is k u=true):AW (kV k) u:=by
 rcases IF (show Ma k u=true from h)with⟨i,t,rfl,rfl⟩ | ⟨x,t,rfl,rfl⟩
 ·exact⟨t,Y⟩
 ·exact⟨t,Y⟩
end
def bt(a:χ)(o:Obj)(ν:KL):It :=
 ⟨λi H=>i<↑ν/\H a≈(.frz o (.dK ν)),λi H v H'=>H'=H/\∃ p,ν[i]?≈p/\v=kV p.1,λi H=>↑ν<=i/\H a≈(.frz o (.dK ν))⟩
def bq(a:χ)(o:Obj)(ν:KL):It :=
 ⟨λi H=>i<↑ν/\H a≈(.frz o (.dK ν)),λi H v H'=>H'=H/\∃ p,ν[i]?≈p/\v=p.2,λi H=>↑ν<=i/\H a≈(.frz o (.dK ν))⟩
theorem KV.get{κ:Type}:∀ {ν:List (κ×V)}{vs:List (κ×ω)},KV ν vs->∀ {i:Nat}{p:κ×V},ν[i]?≈p->∃ u,vs[i]?≈(p.1,u)/\AW p.2 u
 | _,_,.nil,i,p,h=>by simp at h
 | _,_,.cons r t,0,p,h=>by
  simp at h;subst h;exact⟨_,by simp[r.1],r.2⟩
 | _,_,.cons r t,i + 1,p,h=>by
  obtain⟨u,h1,h2⟩:=KV.get t (i:=i) (p:=p) (by simpa using h);exact⟨u,by simpa using h1,h2⟩
def P5{P:Δ}{w:World}{H:Hp}{h:Heap}{a:χ}{o:Obj}{ν:KL}{es:Array DictEntry}{ep:Nat}(ok:A1 P w H h a (.frz o (.dK ν)))(hd:o.data=.dict es ep):
  (a == sysModules)=false/\∃ vs,KV ν vs/\h.DictAt (BV P w) a vs ep:=by
 obtain⟨ho,z,hs,vs,r,o',Ij,Il,h1,h2,h3,h4,h5,h6⟩:=ok;rw[ho]at h1;cases h1;rw[hd]at h3;cases h3;exact⟨hs,vs,r,o,es,ho,h2,hd,h4,h5,h6⟩
def u9{P:Δ}{w:World}{K:Fg}{tg:Expr}(a it:χ)(o:Obj)(ν:KL)(es:Array DictEntry)(ep:Nat)(hd:o.data=.dict es ep):
  Dq P w K tg (bt a o ν) [it] it (λi h=>h.IsKeyIter it a i ↑ν ep) where
 mem:=by simp
 obj:=λi h st b hb=>by
  have e:b=it:=by simpa using hb
  subst e;obtain⟨o,e,c,d⟩:=st;exact⟨o,e,λv z=>by rw[d]at z;cases z⟩
 keep:=λi h h' st k=>by
  obtain⟨o,ho,r⟩:=st;exact⟨o,k it (by simp) o ho,r⟩
 item:=by
  intro X hP hw hK hc i π s σ H E I hf st hg;subst hP hw hK;obtain⟨f0,f1,f2,f3,f4,f5⟩:=hf it (by simp);obtain⟨hi,ha⟩:=hg;obtain⟨_,vs,r,dd⟩:=P5 (I.hok a _ ha) hd;obtain⟨p,hp⟩:∃ p,ν[i]?≈p:=⟨ν[i],by simp[hi]⟩;obtain⟨u,hu,ru⟩:=r.get hp;have hl:↑ν=↑vs:=BO r;rw[hl]at st;refine wpAny_pyNext_dict_item st dd hu λkey h' hk Ay sb=>?_;have I1:Inv X π σ H {s with heap:=h' }:=I.turned (t':=s.toks) (λb o hb e=>(sb.2 b hb).trans e) f0 f1 f3 f4 f5;obtain⟨o',e,c,d⟩:=id Ay;rw[<- hl]at Ay;exact⟨key,Y,Kl (s:={s with heap:=h' }) e c d (by decide) ⟨kV p.1,H,I1,nD hk,⟨Y,p,hp,Y⟩,Ay,λb hb=>(hf b hb).1⟩⟩
 done:=by
  intro X hP hw hK hc i π s σ H E I hf st hg;subst hP hw hK;obtain⟨f0,f1,f2,f3,f4,f5⟩:=hf it (by simp);obtain⟨hi,ha⟩:=hg;obtain⟨_,vs,r,dd⟩:=P5 (I.hok a _ ha) hd;have hl:↑ν=↑vs:=BO r;rw[hl]at st;exact wpAny_pyNext_dict_end (I.ok.hd hc) st dd (by simp;omega) λh' eb=>⟨Y,I.turned (t':=s.toks) (λb o hb e=>eb b o hb e) f0 f1 f3 f4 f5⟩
 self:=λ_ _ _ _ _ st h=>wpAny_pyIter_keyiter st h
def vA{P:Δ}{w:World}{K:Fg}{tg:Expr}(a it:χ)(o:Obj)(ν:KL)(es:Array DictEntry)(ep:Nat)(hd:o.data=.dict es ep):
  Dq P w K tg (bq a o ν) [it] it (λi h=>h.IsValIter it a i ↑ν ep) where
 mem:=by simp
 obj:=λi h st b hb=>by
  have e:b=it:=by simpa using hb
  subst e;obtain⟨o,e,c,d⟩:=st;exact⟨o,e,λv z=>by rw[d]at z;cases z⟩
 keep:=λi h h' st k=>by
  obtain⟨o,ho,r⟩:=st;exact⟨o,k it (by simp) o ho,r⟩
 item:=by
  intro X hP hw hK hc i π s σ H E I hf st hg;subst hP hw hK;obtain⟨f0,f1,f2,f3,f4,f5⟩:=hf it (by simp);obtain⟨hi,ha⟩:=hg;obtain⟨_,vs,r,dd⟩:=P5 (I.hok a _ ha) hd;obtain⟨p,hp⟩:∃ p,ν[i]?≈p:=⟨ν[i],by simp[hi]⟩;obtain⟨u,hu,ru⟩:=r.get hp;have hl:↑ν=↑vs:=BO r;rw[hl]at st;refine wpAny_pyNext_values_item st dd hu λh' Ay sb=>?_;have I1:Inv X π σ H {s with heap:=h' }:=I.turned (t':=s.toks) (λb o hb e=>(sb.2 b hb).trans e) f0 f1 f3 f4 f5;obtain⟨o',e,c,d⟩:=id Ay;rw[<- hl]at Ay;exact⟨u,Y,Kl (s:={s with heap:=h' }) e c d (by decide) ⟨p.2,H,I1,ru,⟨Y,p,hp,Y⟩,Ay,λb hb=>(hf b hb).1⟩⟩
 done:=by
  intro X hP hw hK hc i π s σ H E I hf st hg;subst hP hw hK;obtain⟨f0,f1,f2,f3,f4,f5⟩:=hf it (by simp);obtain⟨hi,ha⟩:=hg;obtain⟨_,vs,r,dd⟩:=P5 (I.hok a _ ha) hd;have hl:↑ν=↑vs:=BO r;rw[hl]at st;exact wpAny_pyNext_values_end (I.ok.hd hc) st dd (by simp;omega) λh' eb=>⟨Y,I.turned (t':=s.toks) (λb o hb e=>eb b o hb e) f0 f1 f3 f4 f5⟩
 self:=λ_ _ _ _ _ st h=>wpAny_pyIter_valiter st h
def Ya3(t:TS):TS:=λD σ H=>∃ a ν,H a≈(.dK ν)/\∀ o,t D σ (upd H a (.frz o (.dK ν)))
def Zb{X:Cx}{sts:List Stmt}{t:TS}(h:PSs X sts t):PSs X sts (Ya3 t):=by
 intro π s σ H D I q;obtain⟨a,ν,ha,q⟩:=q;obtain⟨o,ho⟩:∃ o,s.heap.get? a≈o:=by
  obtain⟨_,_,vs,_,o,_,_,e,_⟩:=I.hok a _ ha;exact⟨o,e⟩
 exact h π s σ _ D (I.freeze ha ho).1 (q o)
def iR{P:Δ}{w:World}{H:Hp}{h:Heap}{a:χ}{o:Obj}{ν:KL}(ok:A1 P w H h a (.frz o (.dK ν))):∃ es ep,o.data=.dict es ep:=by
 obtain⟨ho,z,hs,vs,r,o',Ij,Il,h1,h2,h3,_⟩:=ok;rw[ho]at h1;cases h1;exact⟨Ij,Il,h3⟩
def uq{a:χ}{o:Obj}{ν:KL}:FE (bt a o ν) (ν.map λp=>kV p.1) (λH=>H a≈(.frz o (.dK ν))) where
 go:=λi x H ok hx=>by
  have:=(Yf.mp hx).1;rw[Ya]at this;exact⟨this,ok⟩
 yld:=λi x H y H' ok hx h=>by
  obtain⟨e,p,hp,hy⟩:=h;rw[Yj,hp]at hx;exact⟨hy.trans (Yp hx),e⟩
 stop:=λH ok=>⟨by rw[Ya];exact Yd _,ok⟩
def uv{a:χ}{o:Obj}{ν:KL}:FE (bq a o ν) (ν.map λp=>p.2) (λH=>H a≈(.frz o (.dK ν))) where
 go:=λi x H ok hx=>by
  have:=(Yf.mp hx).1;rw[Ya]at this;exact⟨this,ok⟩
 yld:=λi x H y H' ok hx h=>by
  obtain⟨e,p,hp,hy⟩:=h;rw[Yj,hp]at hx;exact⟨hy.trans (Yp hx),e⟩
 stop:=λH ok=>⟨by rw[Ya];exact Yd _,ok⟩
section
variable {X:Cx}{tg:Expr}
def xi(tl:TE):TI:=λσ H R=>tl σ H λx H1=>∃ a o ν,x=.ref a/\H1 a≈(.frz o (.dK ν))/\R (bt a o ν) H1
def Z2j{l:Expr}{tl:TE}(hl:PE X l tl):PI X tg l (xi tl):=by
 intro π s σ H R I h;refine AH (hl π s σ H _ I h) λv s1 ⟨x,H1,I1,r1,q1⟩=>?_;obtain⟨a,o,ν,e,ha,q⟩:=q1;subst e;cases r1;obtain⟨es,ep,hd⟩:=iR (I1.hok a _ ha);obtain⟨hs,vs,r,dd⟩:=P5 (I1.hok a _ ha) hd;have hl:↑ν=↑vs:=BO r;refine wpAny_pyIter_dict hs dd ?_;refine⟨⇑s1,[⇑s1],_,_,H1,Y,I1.kept (t':=s1.toks) λb o e=>Yb _ e,u9 a _ o ν es ep hd,⟨_,Ye _ rfl,Y,by rw[hl];rfl⟩,λb hb=>?_,q⟩;have e:b=⇑s1:=by simpa using hb
 subst e;exact I1.fpOk (Yd _) (I1.hok.fresh (Yd _))
end
theorem Rg:∀ {xs:LV}{us:LU},↑xs=↑us->(∀(i:Nat) (v:V) (u:ω),xs[i]?≈v->us[i]?≈u->AW v u)->AR xs us
 | [],[],_,_=>.nil
 | [],_ :: _,h,_=>by simp at h
 | _ :: _,[],h,_=>by simp at h
 | x :: xs,u :: us,h,k=>.cons (k 0 x u rfl rfl) (Rg (by simpa using h) λi v w hv hw=>k (i + 1) v w (by simpa using hv) (by simpa using hw))
def K5{J:It}{xs:LV}{Ok:Hp->Prop}(R:FE J xs Ok){js:LN}{tt:TT}{te:TE}{σ:St}{Q:VK}{H1:Hp}(hz:↑xs<=sizeLine)(p:V->Bool)(F:χ->V->V->Hp->Prop)
  (hF:∀ D x v H H',(∀ b o,b≠D->H b≈o->H' b≈o)->F D x v H->F D x v H')
  (hok:∀ H,AA H1 H->Ok H)
  (ht:∀ x H (R:Bool->Hp->Prop),AA H1 H->x∈xs->(∀ H',AA H H'->R (p x) H')->tt (↥x :: js.map λj=>(σ[j]?).join) H R)
  (he:∀ D x H (R:V->Hp->Prop),AA H1 H->(∃ ys,H D≈(.lst ys))->H1 D=none->x∈xs->p x=true->(∀ v H',AA H H'->F D x v H'->R v H')->te (↥x :: js.map λj=>(σ[j]?).join) H R)
  (hd:∀ D H' ys,H1 D=none->AA H1 H'->H' D≈(.lst ys)->Paired (λx v=>F D x v H') (xs.filter p) ys->Q (.ref D) H'):
  AU 1 js (EI 0) tt te σ Q J H1:=by
 refine WX R hz (λD i ys σ' H=>H1 D=none/\AA H1 H/\H D≈(.lst ys)/\Paired (λx v=>F D x v H) ((xs.take i).filter p) ys/\∃ o,σ'=o :: js.map λj=>(σ[j]?).join) ?_ ?_ ?_ ?_
 ·intro D hD;exact⟨hD,λb o e=>by rw[AE (AS e hD)];exact e,uS,by simpa using Paired.nil,none,Y⟩
 ·rintro D i ys σ' H hi ⟨hD,hs,hl,hp,_⟩;refine⟨hok H hs,?_⟩;rw[<- ↑hp];exact Yq (JP _ _) (by rw[Yv];omega)
 ·rintro D i x ys σ' H hD hx ⟨_,hs,hl,hp,o,rfl⟩;show tt (↥x :: js.map λj=>(σ[j]?).join) H _;have hm:x∈xs:=Yi hx;refine ht x H _ hs hm λH4 s4=>?_;have F4:AA H1 H4:=hs.trans s4;have mono:∀ {H H':Hp},(∀ b o,b≠D->H b≈o->H' b≈o)->Paired (λx v=>F D x v H) ((xs.take i).filter p) ys->Paired (λx v=>F D x v H') ((xs.take i).filter p) ys:=λh q=>Paired.mapP q λa b z=>hF D a b _ _ h z;cases hpx:p x with
  | true =>
   rw[if_pos rfl];refine he D x H4 _ F4 ⟨_,s4 _ _ hl⟩ hD hm hpx λv H5 s5 f5=>⟨s5 _ _ (s4 _ _ hl),hD,λb o e=>?_,uS,?_,Z⟩
   ·rw[AE (AS e hD)];exact s5 _ _ (F4 _ _ e)
   ·rw[take_succ_filter p xs i x hx,hpx,if_pos rfl];refine IJ (mono (λb o hb e=>by rw[AE hb];exact s5 _ _ (s4 _ _ e)) hp) (hF D _ _ _ _ (λb o hb e=>by rw[AE hb];exact e) f5)
  | false =>
   rw[if_neg Yh];refine⟨hD,F4,s4 _ _ hl,?_,Z⟩;rw[take_succ_filter p xs i x hx,hpx,if_neg Yh,EE];exact mono (λb o _ e=>s4 _ _ e) hp
 ·rintro D ys σ' H hD ⟨_,hs,hl,hp,_⟩;rw[CI]at hp;exact hd D H ys hD hs hl hp
section
variable {X:Cx}
def Z2b:V->LV->Hp->VK->Prop:=λx vs H Q=>∃ l xs i y,x=.ref l/\vs=[.int i,y]/\H l≈(.lst xs)/\0<=i/\i<=↑xs/\↑xs<sizeLine/\Q .non (upd H l (.lst (xs.take i.toNat++y :: xs.drop i.toNat)))
def uD:Qg X "list.insert" Z2b:=by
 intro π s σ H x vs v us Q I rx rv h;obtain⟨l,xs,i,y,rfl,rfl,hH,h0,h1,hz,q⟩:=h;cases rx;obtain⟨u,w',rfl,⟨t,rfl⟩,ru⟩:=mL rv;obtain⟨z,η,n,r,hl,e⟩:=I.lstM hH;have hs:sizeLine=16777216:=sizeLine_eq;have hc:¬ (!Builtin.List.listFitsIndex i)=true:=by
  have:Builtin.List.listFitsIndex i=true:=by
   unfold Builtin.List.listFitsIndex;simp;omega
  rw[this];decide
 refine call_meets F.slot_list_insert ⟨_,e,Y⟩ F.entry_list_insert (F.args_list_insert_3 _ _ _) (PySem.AutoSeq1.list_insert_list_int_val_1 l η.toArray n i t w' hc (by rw[Yk];omega)) ⟨e,?_⟩;have hk:(if i<0 then(i + (η.toArray.size:Int)).toNat else min i.toNat η.toArray.size)=i.toNat:=by
  rw[if_neg (by omega),Yk];omega
 refine⟨.non,_,I.lset (its':=η.take i.toNat++w' :: η.drop i.toNat) hH e ?_ ?_ ?_,Y,q⟩
 ·show(η.toArray.extract 0 (if i<0 then(i + (η.toArray.size:Int)).toNat else min i.toNat η.toArray.size)).push w'++η.toArray.extract (if i<0 then(i + (η.toArray.size:Int)).toNat else min i.toNat η.toArray.size)=_;rw[hk];apply Array.ext';simp;exact SR (by rw[LP];exact Yd _)
 ·exact(r.take _).append (.cons ru (r.drop _))
 ·rw[Yu,Bt,Yv,LP];omega
end
end L2
namespace Graph
variable {α:Type}[DecidableEq α]
inductive Reach(ups:α->List α):α->α->Prop
 | refl (a:α):Reach ups a a
 | step {a b c:α}:b∈ups a->Reach ups b c->Reach ups a c
def Reach.trans{ups:α->List α}{a b c:α}(h:Reach ups a b)(k:Reach ups b c):Reach ups a c:=by
 induction h with
 | refl=>exact k
 | step m _ ih=>exact .step m (ih k)
def Reach.one{ups:α->List α}{a b:α}(h:b∈ups a):Reach ups a b:=.step h (.refl b)
def Reach.snoc{ups:α->List α}{a b c:α}(h:Reach ups a b)(k:c∈ups b):Reach ups a c:=h.trans (.one k)
def Reach.rank{ups:α->List α}{rk:α->Nat}(hr:∀ a b,b∈ups a->rk b<rk a){a b:α}(h:Reach ups a b):rk b<=rk a:=by
 induction h with
 | refl=>exact Yd _
 | step m _ ih=>have:=hr _ _ m;omega
def Reach.rank_lt{ups:α->List α}{rk:α->Nat}(hr:∀ a b,b∈ups a->rk b<rk a){a b:α}(h:Reach ups a b)(Dn:a≠b):rk b<rk a:=by
 cases h with
 | refl=>exact absurd rfl Dn
 | step m k =>
  have h1:=hr _ _ m;have h2:=Reach.rank hr k;omega
def kept(ups:α->List α)(left:List α):List α:=left.filter λw=>(ups w).any λu=>decide (u∈left)
def kept_sub{ups:α->List α}{left:List α}{w:α}(h:w∈kept ups left):w∈left:=(NI.mp h).1
def kept_le(ups:α->List α)(left:List α):↑(kept ups left)<=↑left:=JP _ _
theorem jz{p:α->Bool}:∀ {l:List α},↑(l.filter p)=↑l->l.filter p=l
 | [],_=>rfl
 | a :: r,h=>by
  have hle:=JP p r;rw[IQ]at h ⊢;cases hp:p a with
  | true =>
   rw[hp,if_pos rfl,Bt,Bt]at h;rw[if_pos rfl,jz (by omega)]
  | false =>
   rw[hp,if_neg Yh,Bt]at h;omega
theorem iY(rk:α->Nat):∀(l:List α),l≠[]->∃ m,m∈l/\∀ x∈l,rk m<=rk x
 | [],h=>absurd rfl h
 | a :: r,_=>by
  by_cases hr:r=[]
  ·subst hr;exact⟨a,by simp,λx hx=>by simp at hx;subst hx;exact Yd _⟩
  ·obtain⟨m,hm,hx⟩:=iY rk r hr;by_cases hc:rk a<=rk m
   ·refine⟨a,by simp,λx Ih=>?_⟩
    rcases Bj.mp Ih with e | e
    ·subst e;exact Yd _
    ·exact Yq hc (hx x e)
   ·refine⟨m,DX _ hm,λx Ih=>?_⟩
    rcases Bj.mp Ih with e | e
    ·subst e;omega
    ·exact hx x e
def kept_nil{ups:α->List α}{left:List α}{rk:α->Nat}(hr:∀ a∈left,∀ b∈ups a,rk b<rk a)(h:↑(kept ups left)=↑left):left=[]:=by
 refine bc λDn=>?_;obtain⟨m,hm,hx⟩:=iY rk left Dn;have e:kept ups left=left:=jz h;rw[<- e]at hm;obtain⟨h1,h2⟩:=NI.mp hm;obtain⟨u,hu,hd⟩:=Ft.mp h2;have hl:u∈left:=Je hd;have a:=hr m h1 u hu;have b:=hx u hl;omega
theorem nodup_le:∀ {l k:List α},l.Nodup->(∀ x∈l,x∈k)->↑l<=↑k
 | [],k,_,_=>Bm _
 | a :: r,k,hn,hs=>by
  obtain⟨h1,h2⟩:=Fs.mp hn;have ha:a∈k:=hs a (by simp);have:=nodup_le (k:=k.erase a) h2 λx hx=>(List.mem_erase_of_ne (λ(e:x=a)=>h1 (by rw[<- e];exact hx))).mpr (hs x (DX _ hx));rw[List.length_erase_of_mem ha]at this;have hpos:0<↑k:=List.length_pos_of_mem ha;rw[Bt];omega
def closed_reach{ups:α->List α}{S:α->Prop}(hc:∀ x,S x->∀ y∈ups x,S y){a b:α}(h:Reach ups a b)(ha:S a):S b:=by
 induction h with
 | refl=>exact ha
 | step m _ ih=>exact ih (hc _ ha _ m)
end Graph
namespace Md
open PySem L2
abbrev letters:Str:="abcdefghijklmnopqrstuvwxyz"
def Ir(c:Nat):Bool:=decide (97<=c/\c<=122)
def Bf(x:Str):Bool:=decide (1<=↑x/\↑x<=8)&&x.cps.toList.all Ir
def Wg:letters.cps.toList=[97,98,99,100,101,102,103,104,105,106,107,108,109,110,111,112,113,114,115,116,117,118,119,120,121,122]:=by rfl'
def vP{i:Nat}(h:i<26):letters.cps.toList[i]?≈(97 + i):=by
 rw[Wg];have:∀ i:_root_.Fin 26,([97,98,99,100,101,102,103,104,105,106,107,108,109,110,111,112,113,114,115,116,117,118,119,120,121,122]:LN)[i.1]?≈(97 + i.1):=by decide
 exact this ⟨i,h⟩
def wA:letters.cps.toList=(List.range 26).map (97 + ·):=by rw[Wg];rfl
def zU(c:Nat):(!(Builtin.Str.occurrences letters ⟨#[c]⟩ 0 letters.length 1).isEmpty)=Ir c:=by
 rw[StrLaws.found_one,wA];unfold Ir;rw[decide_eq_decide,Yo];constructor
 ·rintro⟨a,ha,rfl⟩;have:=List.mem_range.mp ha;omega
 ·intro h;exact⟨c - 97,List.mem_range.mpr (by omega),O⟩
def Ky(x:Str):↑x.cps.toList=↑x:=by simp[Str.length]
def gn(c:Nat):↑(⟨#[c]⟩:Str)=1:=rfl
def rO(x y:Str):(x++y).cps.toList=x.cps.toList++y.cps.toList:=by
 show(x.cps++y.cps).toList=_;rw[Array.toList_append]
def iG{x y:Str}(h:x.cps.toList=y.cps.toList):x=y:=by
 cases x;cases y
 congr 1
 exact Array.ext' h
def bK:V->V
 | .str y=>.bl (!(Builtin.Str.occurrences letters y 0 letters.length 1).isEmpty)
 | _=>.non
def ux(x:Str):((I_ x).filter λ_=>true).map bK=(x.cps.toList.map Ir).map V.bl:=by
 rw[EB.mpr λ_ _=>rfl];unfold I_;rw[BN,BN];refine Lh λc _=>?_;show V.bl _=V.bl _;rw[zU]
def aJ(x:Str):Bf x=true↔(1<=↑x.cps.toList/\↑x.cps.toList<=8)/\∀ c∈x.cps.toList,Ir c=true:=by
 unfold Bf;rw[EF,decide_eq_true_eq,Cd,Ky]
def tG{x:Str}(h:Bf x=true):1<=↑x/\↑x<=8:=by
 have:=((aJ x).mp h).1
 rwa [Ky]at this
def Rh{x:Str}(h:Bf x=true):PyData.strOk x=true:=by
 unfold PyData.strOk;rw[Array.all_eq_true'];intro c hc;have:=((aJ x).mp h).2 c (by simpa using hc);have:=Je this;exact Jb (by omega)
def C3(n:Nat):LN:=(97 + n % 26):: (if h:n / 26=0 then[]else C3 (n / 26))
termination_by n
decreasing_by omega
def M0(n:Nat):C3 n=(97 + n % 26):: (if n / 26=0 then[]else C3 (n / 26)):=by
 rw[C3];by_cases h:n / 26=0
 ·rw[dif_pos h,if_pos h]
 ·rw[dif_neg h,if_neg h]
theorem aV:∀(k n:Nat),n<26 ^ (k + 1)->↑(C3 n)<=k + 1
 | 0,n,h=>by
  rw[M0,if_pos (by have:n<26:=h;omega)];exact Yd _
 | k + 1,n,h=>by
  rw[M0];by_cases h0:n / 26=0
  ·rw[if_pos h0];simp
  ·rw[if_neg h0,Bt];have:=aV k (n / 26) (Nat.div_lt_of_lt_mul (by rw[Nat.pow_succ]at h;omega));omega
def wY(n:Nat):∀ c∈C3 n,Ir c=true:=by
 induction n using Nat.strongRecOn with
 | ind n ih =>
  rw[M0];intro c hc
  rcases Bj.mp hc with e | hc
  ·rw[e];exact Jb (by omega)
  ·by_cases h0:n / 26=0
   ·rw[if_pos h0]at hc;cases hc
   ·rw[if_neg h0]at hc;exact ih (n / 26) (by omega) c hc
def SJ:LN->Nat
 | []=>0
 | c :: r=>(c - 97) + 26 * SJ r
def wb(n:Nat):SJ (C3 n)=n:=by
 induction n using Nat.strongRecOn with
 | ind n ih =>
  rw[M0];unfold SJ;by_cases h0:n / 26=0
  ·rw[if_pos h0];unfold SJ;omega
  ·rw[if_neg h0,ih (n / 26) (by omega)];omega
def Dg(n:Nat):Str:=⟨(C3 n).toArray⟩
def W3(n:Nat):(Dg n).cps.toList=C3 n:=by simp[Dg]
def wm{a b:Nat}(h:Dg a=Dg b):a=b:=by
 have:=congrArg (λs:Str=>SJ s.cps.toList) h;simpa[W3,wb]using this
def wZ(n:Nat):1<=↑(C3 n):=by rw[M0];simp
def w9{n:Nat}(h:n<26 ^ 8):Bf (Dg n)=true:=by
 rw[aJ,W3];exact⟨⟨wZ n,aV 7 n h⟩,wY n⟩
def EH(o:HO):Prop:=∃ r b:Int,o=.lst [.int r,.int b]/\0<=r/\r<10 ^ 256/\0<=b/\b<2147483647
structure Drawn(p:χ)(H H':Hp):Prop where
 keep:∀ b o,b≠p->H b≈o->H' b≈o
 pot:∃ o,H' p≈o/\EH o
def Drawn.refl{p:χ}{H:Hp}(h:∃ o,H p≈o/\EH o):Drawn p H H:=⟨λ_ _ _ e=>e,h⟩
def Drawn.trans{p:χ}{H H1 H2:Hp}(a:Drawn p H H1)(b:Drawn p H1 H2):Drawn p H H2:=⟨λc o hc e=>b.keep c o hc (a.keep c o hc e),b.pot⟩
theorem Drawn.upd{p:χ}{H:Hp}{o:HO}(h:EH o):Drawn p H (L2.upd H p o):=⟨λb u hb e=>by rw[AE hb];exact e,_,uS,h⟩
def Drawn.new{p q:χ}{H H':Hp}{o:HO}(d:Drawn p H H')(hq:H' q=none):Drawn p H (L2.upd H' q o):=
 ⟨λb u hb e=>by rw[AE (AS (d.keep b u hb e) hq)];exact d.keep b u hb e,by
  obtain⟨u,h1,h2⟩:=d.pot;exact⟨u,by rw[AE (AS h1 hq)];exact h1,h2⟩⟩
def Drawn.same{p:χ}{H H1 H2:Hp}(d:Drawn p H H1)(s:AA H1 H2):Drawn p H H2 :=
 ⟨λb u hb e=>s _ _ (d.keep b u hb e),by obtain⟨u,h1,h2⟩:=d.pot;exact⟨u,s _ _ h1,h2⟩⟩
def Drawn.sub{p q:χ}{H H1 H2:Hp}{o':HO}(d:Drawn p H H1)(k:∀ b o,b≠q->H1 b≈o->H2 b≈o)(hq:H q=none)(hp:p≠q):Drawn p H H2 :=
 ⟨λb u hb e=>k _ _ (AS e hq) (d.keep b u hb e),by obtain⟨u,h1,h2⟩:=d.pot;exact⟨u,k _ _ hp h1,h2⟩⟩
def C4{n:Nat}(h:n<=100000):n<sizeLine:=by rw[sizeLine_eq];omega
theorem gX(x:Str):∀ ws:LS,Qx (.str x) (ws.map V.str)=decide (x∈ws)
 | []=>rfl
 | w :: r=>by
  have ih:=gX x r;unfold Qx at ih ⊢;rw[Ys,IG,ih];show((w == x) || decide (x∈r))=decide (x∈w :: r);rw[Gm];simp only[Bool.or_eq_true,beq_iff_eq,decide_eq_true_eq,Bj];constructor
  ·rintro(h | h)
   ·exact .inl h.symm
   ·exact .inr h
  ·rintro(h | h)
   ·exact .inl h.symm
   ·exact .inr h
def t5(ws:LS):(ws.map V.str).all Iq=true:=by
 rw[Cd];intro v hv;obtain⟨w,_,e⟩:=Yo.mp hv;rw[<- e];rfl
theorem Mw{K:Fg}{H:Hp}:∀ ws:LS,A6 K H (ws.map V.str) (ws.map W.Dat.str)
 | []=>.nil
 | w :: r=>.cons (.str w) (Mw r)
def SE(H:Hp)(r:Str×LS)(v:V):Prop:=∃ t u,v=.ref t/\H t≈(.tup [.str r.1,.ref u])/\H u≈(.tup (r.2.map V.str))
def Mf(H:Hp)(l:χ)(ρ:RS):Prop:=∃ vs,H l≈(.lst vs)/\Paired (SE H) ρ vs
structure Ah(ρ:RS):Prop where
 ne:1<=↑ρ
 le:↑ρ<=24
 word:∀ r∈ρ,Bf r.1=true
 nd:(ρ.map (·.1)).Nodup
 few:∀ r∈ρ,↑r.2<=8
 known:∀ r∈ρ,∀ u∈r.2,u∈ρ.map (·.1)
 upnd:∀ r∈ρ,r.2.Nodup
 rank:∃ rk:Str->Nat,∀ r∈ρ,∀ u∈r.2,rk u<rk r.1
end Md
namespace L2
open PySem PySem.Spec PyProof.Rows
section
variable {X:Cx}{tg:Expr}
def C8(K:Fg)(b:Bool)(H:Hp)(a:χ)(xs:LV):Prop:=if b=true then AD K H a xs else AJ K H a xs
def C8.mono{K:Fg}{b:Bool}{H H':Hp}{a:χ}{xs:LV}(h:C8 K b H a xs)(s:AA H H'):C8 K b H' a xs:=by
 cases b with
 | true=>exact s.seq (show AD K H a xs from h)
 | false=>exact s.tup (show AJ K H a xs from h)
def Xz(K:Fg)(b:Bool)(a:χ)(xs:LV):It:=⟨λi H=>i<↑xs/\C8 K b H a xs,λi H x H'=>H'=H/\xs[i]?≈x,λi H=>↑xs<=i/\C8 K b H a xs⟩
def WT{K:Fg}{b:Bool}{a:χ}{xs:LV}:FE (Xz K b a xs) xs (λH=>C8 K b H a xs) where
 go:=λi x H ok hx=>⟨(Yf.mp hx).1,ok⟩
 yld:=λi x H y H' ok hx h=>by
  obtain⟨e,h⟩:=h;rw[hx]at h;exact⟨(Yp h).symm,e⟩
 stop:=λH ok=>⟨Yd _,ok⟩
def Dq.imp{P:Δ}{w:World}{K:Fg}{tg:Expr}{J J':It}{fp:μ}{it:χ}{tn:Nat->Heap->Prop}(T:Dq P w K tg J fp it tn)(hgo:∀ i H,J'.go i H->J.go i H)
  (hy:∀ i H x H',J'.go i H->J.yld i H x H'->J'.yld i H x H') (hs:∀ i H,J'.stop i H->J.stop i H):Dq P w K tg J' fp it tn where
 mem:=T.mem
 obj:=T.obj
 keep:=T.keep
 item:=λX h1 h2 h3 h4 i π s σ H E I hf st g=>AH (T.item X h1 h2 h3 h4 i π s σ H E I hf st (hgo i H g)) λr s1 ⟨u,e,h⟩=>⟨u,e,AH h λ_ s2 ⟨x,H',I',r',y,t,f⟩=>⟨x,H',I',r',hy i H x H' g y,t,f⟩⟩
 done:=λX h1 h2 h3 h4 i π s σ H E I hf st g=>T.done X h1 h2 h3 h4 i π s σ H E I hf st (hs i H g)
 self:=T.self
def Yb2(K:Fg)(tl:TE):TI:=λσ H R=>tl σ H λx H1=>∃ b a xs,x=.ref a/\C8 K b H1 a xs/\R (Xz K b a xs) H1
def V5{l:Expr}{tl:TE}(hl:PE X l tl):PI X tg l (Yb2 X.K tl):=by
 intro π s σ H R I h;refine AH (hl π s σ H _ I h) λv s1 ⟨x,H1,I1,r1,q1⟩=>?_;obtain⟨b,a,xs,e,hq,q⟩:=q1;subst e;cases r1;have fp:∀ b∈[⇑s1],CY X π H1 b:=λb hb=>by
  have e:b=⇑s1:=by simpa using hb
  subst e;exact I1.fpOk (Yd _) (I1.hok.fresh (Yd _))
 have get:∀ {i:Nat} {ys:LV},i<↑ys->∃ y,ys[i]?≈y:=λ{i ys} h=>⟨ys[i],by simp[h]⟩;cases b with
 | true =>
  have hq:AD X.K H1 a xs:=hq;obtain⟨η,rv,p,hz⟩:=I1.list hq;refine wpAny_pyIter_list p.isList ?_;refine⟨⇑s1,[⇑s1],_,Xz X.K true a xs,H1,Y,I1.kept (t':=s1.toks) λb o e=>Yb _ e,(jq a _).imp (λi H g=>?_) (λi H x H' g y=>⟨y.1,y.2 xs g.2⟩) (λi H g=>⟨xs,g.2,g.1⟩),⟨_,Ye _ rfl,Y,Y⟩,fp,q⟩;obtain⟨y,hy⟩:=get g.1;exact⟨xs,y,g.2,hy⟩
 | false =>
  have hq:AJ X.K H1 a xs:=hq;obtain⟨η,rv,p,hz⟩:=I1.tuple hq;refine wpAny_pyIter_tuple (show s1.heap.IsTuple a η.toArray from p) ?_;refine⟨⇑s1,[⇑s1],_,Xz X.K false a xs,H1,Y,I1.kept (t':=s1.toks) λb o e=>Yb _ e,(kB a _).imp (λi H g=>?_) (λi H x H' g y=>⟨y.1,y.2 xs g.2⟩) (λi H g=>⟨xs,g.2,g.1⟩),⟨_,Ye _ rfl,Y,Y⟩,fp,q⟩;obtain⟨y,hy⟩:=get g.1;exact⟨xs,y,g.2,hy⟩
def xq(to:TE):TI:=λσ H R=>to σ H λx H1=>∃ a ob ν,x=.ref a/\H1 a≈(.frz ob (.dK ν))/\R (bq a ob ν) H1
def Z2i{o:Expr}{to:TE}{apos AK:Pos}(ho:PE X o to)(BJ:attributeBase o "values" X.env (eval o X.env)=eval o X.env:=by rfl)(BI:(apos.endLine == AK.line)=true:=by rfl):
  PI X tg (.Call (.Attribute o "values" apos) [] [] AK) (xq to):=by
 intro π s σ H R I h;refine wpAny_Call_method0_late BJ BI (AH (ho π s σ H _ I h) λv s1 ⟨x,H1,I1,r1,q1⟩=>?_);obtain⟨a,ob,ν,e,ha,q⟩:=q1;subst e;obtain rfl:v=Value.ref a:=r1;obtain⟨t1,t2,t3⟩:=V4 I1 (.inl ⟨ν,.inr ⟨ob,ha⟩⟩);obtain⟨es,ep,hd⟩:=iR (I1.hok a _ ha);obtain⟨hs,vs,r,dd⟩:=P5 (I1.hok a _ ha) hd;have hl:↑ν=↑vs:=BO r;refine⟨"dict","dict.values",SV,Xo,PySem.F.type_dict_values,t1,t2,NQ rfl (Se ?_)⟩;refine call_meetsIn Xo t1 PySem.F.entry_dict_values (PySem.F.args_dict_values_1 _) (meets_dict_values (BV X.prog X.w) a t3) ⟨⟨vs,dd.dictOf⟩,?_⟩;have I2:Inv X π σ H1 {s1 with heap:=s1.heap.push {cls:=.type "dict_values",data:=.fields #[.ref a] } }:=I1.kept (t':=s1.toks) λb o e=>Yb _ e;refine wpAny_pyIter_values (kvs:=vs) (ep:=ep) (knd:=BV X.prog X.w) ⟨_,Ye _ rfl,Y,Y⟩ (dd.at' λo e=>Yb _ e) ?_;refine⟨_,[_],_,_,H1,Y,I2.kept (t':=s1.toks) λb o e=>Yb _ e,vA a _ ob ν es ep hd,⟨_,Ye _ rfl,Y,by rw[hl];rfl⟩,λb hb=>?_,q⟩;have e:b=_:=Ym.mp hb;subst e;exact I2.fpOk (Yd _) (I2.hok.fresh (Yd _))
def kr(hc:X.calm=true):Em X (.type "list") (λxs H Q=>∃ a ν,xs=[.ref a]/\Rd H a (.dK ν)/\∀ l,H l=none->Q (.ref l) (upd H l (.lst (ν.map λp=>kV p.1)))):=by
 intro π s σ H xs us Q I r h;obtain⟨a,ν,rfl,ha,q⟩:=h;obtain⟨u,rfl,ru⟩:=Ga r;cases ru;obtain⟨hz,hs,vs,rv,o,es,ep,h1,h2,h3,h4,h5,h6⟩:=Kk I.hok ha;have hl:↑ν=↑vs:=BO rv;have dd:s.heap.DictAt (BV X.prog X.w) a vs ep:=⟨o,es,h1,h2,h3,h4,h5,h6⟩;refine W.kdl_call (W.kdl_dict (knd:=BV X.prog X.w) (kvs:=vs) (ep:=ep) hs) (I.ok.hd hc) dd (by rw[<- hl];exact hz) λh' tk Np c' hk FC BH=>?_;obtain⟨a1,a2⟩:=BH;refine⟨.ref _,_,I.laid (o:=.lst (ν.map λp=>kV p.1)) hk (Yd _) ⟨by rw[Ya];exact hz,Np.toList,c',?_,by simpa using FC⟩,Y,q _ (I.hok.fresh (Yd _))⟩;refine Rg (by have z:↑Np.toList=Np.size:=JM;rw[Ya];omega) λi v u hv hu=>?_;rw[Yj]at hv;obtain⟨p,hp,e⟩:=Fp.mp hv;obtain⟨w',hw,_⟩:=rv.get hp;obtain⟨k,x,A2,Pj⟩:=a2 i u (by rw[<- JQ];exact hu);rw[hw]at A2;injection A2 with A2;injection A2 with A2 _;rw[<- e,A2];exact nD Pj
def BB.f{H:Hp}{a:χ}{o:Obj}{ν:KL}{k:Key}(e:H a≈(.frz o (.dK ν))):BB H a (kV k) (A0 ν k):=.inl ⟨ν,k,.inr ⟨o,e⟩,Y,Y⟩
end
end L2
namespace Md
open PySem L2
def ay(K:Fg)(H:Hp)(u:χ)(us:LS):Prop:=H u≈(.tup (us.map V.str))\/AD K H u (us.map V.str)
def ay.sq{K:Fg}{H:Hp}{u:χ}{us:LS}(h:ay K H u us):∃ b,C8 K b H u (us.map V.str):=by
 rcases h with h | h
 ·exact⟨false,AJ.of h⟩
 ·exact⟨true,h⟩
def Ycc(K:Fg)(H:Hp)(r:Str×LS)(v:V):Prop:=∃ t u,v=.ref t/\AJ K H t [.str r.1,.ref u]/\ay K H u r.2
def bM(K:Fg)(H:Hp)(l:χ)(ρ:RS):Prop:=∃ b vs,C8 K b H l vs/\Paired (Ycc K H) ρ vs
def Mf.g{K:Fg}{H:Hp}{l:χ}{ρ:RS}(h:Mf H l ρ):bM K H l ρ:=by
 obtain⟨vs,a,p⟩:=h;refine⟨true,vs,AD.of a,Paired.mapP p λr v z=>?_⟩;obtain⟨t,u,e,h1,h2⟩:=z;exact⟨t,u,e,AJ.of h1,.inl h2⟩
theorem Bk{α β:Type}{F:α->β->Prop}:∀ {l:List α}{k:List β},Paired F l k->∀ {i:Nat}{b:β},k[i]?≈b->∃ a,l[i]?≈a/\F a b
 | _,_,.nil,i,b,h=>by simp at h
 | _,_,.cons r t,0,b,h=>by simp at h;subst h;exact⟨Z,r⟩
 | _,_,.cons r t,i + 1,b,h=>by
  obtain⟨a,h1,h2⟩:=Bk t (i:=i) (b:=b) (by simpa using h);exact⟨a,by simpa using h1,h2⟩
def LA{ν:KL}{k:Key}(h:k∉ν.map (·.1)):A0 ν k=none:=by
 cases e:A0 ν k with
 | none=>rfl
 | some v=>exact absurd (hW e) h
def aA{ν:KL}{k:Key}{v:V}(h:k∉ν.map (·.1)):(BD ν k v).map (·.1)=ν.map (·.1)++[k]:=by
 rw[Mu v (LA h),Yy];rfl
def aD{ρ:RS}{i:Nat}{r:Str×LS}(nd:(ρ.map (·.1)).Nodup)(h:ρ[i]?≈r):(Sum.inr r.1:Key)∉(ρ.take i).map λr=>(Sum.inr r.1:Key):=by
 intro m;obtain⟨q,hq,e⟩:=Yo.mp m;have e:q.1=r.1:=by injection e
 obtain⟨j,hj,ej⟩:=Xc.mp hq;rw[Yv]at hj;have qU:ρ[j]?≈q:=by
  rw[List.getElem_take]at ej;rw[Yg (by omega),ej]
 have a:(ρ.map (·.1))[j]?≈r.1:=by rw[Yj,qU,<- e];rfl
 have b:(ρ.map (·.1))[i]?≈r.1:=by rw[Yj,h];rfl
 have:=Rm nd a b;omega
def El(H:Hp)(ρ:RS)(ν:KL):Prop:=Paired (λr (p:Key×V)=>p.1=Sum.inr r.1/\∃ t,p.2=.ref t/\H t≈(.tup (r.2.map V.str))) ρ ν
def El.mono{H H':Hp}{ρ:RS}{ν:KL}(h:El H ρ ν)(s:∀ b xs,H b≈(.tup xs)->H' b≈(.tup xs)):El H' ρ ν :=
 Paired.mapP h λ_ _ z=>⟨z.1,let⟨t,e,x⟩:=z.2;⟨t,e,s _ _ x⟩⟩
theorem El.keys:∀ {H:Hp}{ρ:RS}{ν:KL},El H ρ ν->ν.map (·.1)=ρ.map λr=>(Sum.inr r.1:Key)
 | _,_,_,.nil=>rfl
 | _,_,_,.cons r t=>by rw[Ys,Ys,r.1,El.keys t]
def BU(ρ:RS)(x:Str):LS:=(ρ.lookup x).getD []
def Z0{ρ:RS}(nd:(ρ.map (·.1)).Nodup){r:Str×LS}(h:r∈ρ):BU ρ r.1=r.2:=by
 unfold BU
 induction ρ with
 | nil=>cases h
 | cons q rs ih =>
  have Ib:(q.1 :: rs.map (·.1)).Nodup:=nd;obtain⟨n1,n2⟩:=Fs.mp Ib;obtain⟨a,b⟩:=q;rw[Dh]
  rcases Bj.mp h with e | h
  ·subst e;simp
  ·have ne:(r.1 == a)=false:=by
    rw[beq_eq_false_iff_ne];intro e;exact n1 (Yo.mpr ⟨r,h,e⟩)
   rw[ne];exact ih n2 h
theorem El.val:∀ {H:Hp}{ρ:RS}{ν:KL},El H ρ ν->(ρ.map (·.1)).Nodup->∀ {r:Str×LS},r∈ρ->∃ t,A0 ν (Sum.inr r.1)≈(.ref t)/\H t≈(.tup (r.2.map V.str))
 | _,_,_,.nil,_,r,h=>nomatch h
 | _,q :: rs,p :: ps,.cons z t,nd,r,h=>by
  have Ib:(q.1 :: rs.map (·.1)).Nodup:=nd;obtain⟨n1,n2⟩:=Fs.mp Ib;obtain⟨z1,u,z2,z3⟩:=z
  rcases Bj.mp h with e | h
  ·subst e;exact⟨u,by rw[JE z1,z2],z3⟩
  ·have ne:¬ p.1=(Sum.inr r.1:Key):=λe=>n1 (by
    rw[z1]at e;have e':q.1=r.1:=by injection e
    rw[e'];exact Yo.mpr ⟨r,h,Y⟩)
   obtain⟨u',h1,h2⟩:=El.val t n2 h;exact⟨u',by rw[JD ne];exact h1,h2⟩
def mF{H:Hp}{ρ:RS}{ν:KL}(h:El H ρ ν):(ν.map λp=>kV p.1)=(ρ.map (·.1)).map V.str:=by
 have e:(ν.map λp=>kV p.1)=(ν.map (·.1)).map kV:=by rw[BN];rfl
 rw[e,h.keys,BN,BN];rfl
end Md
namespace L2
open PySem PySem.Spec PyProof.Rows
section
variable {X:Cx}{π:PL}{σ:St}{H H':Hp}{s:Γ}{h':Heap}
def Inv.laidMany{t':Nat}(I:Inv X π σ H s)(k:∀ b u,s.heap.get? b≈u->h'.get? b≈u)(agree:∀ b,b<⇑s->H' b=H b)
  (hok:∀ b o,⇑s<=b->H' b≈o->A1 X.prog X.w H' h' b o):Inv X π σ H' {s with heap:=h',toks:=t' }:=by
 have low:∀ {b:χ} {o:HO},H b≈o->H' b≈o:=λ{b o} e=>by rw[agree b (I.hok.lt e)];exact e
 refine I.un ⟨λb o e _ _ _=>k b o e,λb o e _ _ _=>⟨o.slots,k b o e⟩,λb o e n _=>by rw[agree b (Yc e)];exact n,λb o e _=>⟨o,k b o e⟩,λb xs e=>low e,λb o u e=>low e,λb ps e=>⟨#[],by rw[low e];simp⟩⟩ λb o e=>?_;by_cases hb:b<⇑s
 ·have e':=e;rw[agree b hb]at e';exact(I.hok b o e').stay (λc v _ q=>k c v q) (λc q=>low q) λc xs q=>low q
 ·exact hok b o (Nat.le_of_not_lt hb) e
theorem j8{α β:Type}[BEq α][LawfulBEq α]:∀ {as:List α}{ks:List β}{a:α}{i:Nat}{k:β},as.Nodup->as[i]?≈a->ks[i]?≈k->(as.zip ks).lookup a≈k
 | [],_,_,_,_,_,h,_=>by simp at h
 | _ :: _,[],_,_,_,_,_,h=>by simp at h
 | x :: as,y :: ks,a,0,k,_,h1,h2=>by
  simp at h1 h2;subst h1;subst h2;simp
 | x :: as,y :: ks,a,i + 1,k,nd,h1,h2=>by
  obtain⟨n1,n2⟩:=Fs.mp nd;have Hk:as[i]?≈a:=by simpa using h1
  have ne:(a == x)=false:=by
   rw[beq_eq_false_iff_ne];intro e;exact n1 (e ▸ Yi Hk)
  rw[List.zip_cons_cons,Dh,ne];exact j8 n2 Hk (by simpa using h2)
theorem aY{α β:Type}[BEq α][LawfulBEq α]:∀ {as:List α}{ks:List β}{a:α}{k:β},(as.zip ks).lookup a≈k->∃ i:Nat,as[i]?≈a/\ks[i]?≈k
 | [],_,_,_,h=>by simp at h
 | _ :: _,[],_,_,h=>by simp at h
 | x :: as,y :: ks,a,k,h=>by
  rw[List.zip_cons_cons,Dh]at h;cases e:(a == x)with
  | true =>
   rw[e]at h;have e':a=x:=by simpa using e
   subst e';exact⟨0,Y,h⟩
  | false =>
   rw[e]at h;obtain⟨i,h1,h2⟩:=aY h;exact⟨i + 1,by simpa using h1,by simpa using h2⟩
theorem LB{α β:Type}{F:α->β->Prop}:∀ {l:List α}{k:List β},↑l=↑k->(∀(i:Nat) (a:α) (b:β),l[i]?≈a->k[i]?≈b->F a b)->Paired F l k
 | [],[],_,_=>.nil
 | [],_ :: _,h,_=>by simp at h
 | _ :: _,[],h,_=>by simp at h
 | a :: l,b :: k,h,f=>.cons (f 0 a b rfl rfl) (LB (by simpa using h) λi x y hx hy=>f (i + 1) x y (by simpa using hx) (by simpa using hy))
end
def BB.r{H:Hp}{a:χ}{ν:KL}{k:Key}(e:Rd H a (.dK ν)):BB H a (kV k) (A0 ν k):=.inl ⟨ν,k,e,Y,Y⟩
section
variable {X:Cx}
def Ff(K:Fg):R2:=λx y H Q=>∃ a b xs ys,x=.ref a/\y=.ref b/\AJ K H a xs/\AJ K H b ys/\↑xs + ↑ys<=sizeLine /\
 (xs=[]->Q (.ref b) H)/\(xs≠[]->ys=[]->Q (.ref a) H)/\(xs≠[]->ys≠[]->∀ p,H p=none->Q (.ref p) (upd H p (.tup (xs++ys))))
def P0:BP X (binaryOp .Add) (Ff X.K):=by
 exfalso;obtain⟨a,b,xs,ys,rfl,rfl,ha,hb,hz,q0,q1,q2⟩:=h;by_cases hx:xs=[]
 ·cases rx;cases ry;obtain⟨η,r1,p1,_⟩:=I.tuple ha;obtain⟨Cf,r2,p2,_⟩:=I.tuple hb;have e:η=[]:=r1.nil_iff.mpr hx;obtain⟨⟨cls,dd,data,sl⟩,ho,hc,n,hd⟩:=id p1;obtain⟨⟨cy,Vo,data2,VM⟩,FW,RE,n2,hd2⟩:=id p2;simp only at hc hd RE hd2;subst hc hd RE hd2;exact concat_meets ⟨_,ho,Y⟩ ⟨_,FW,Y⟩ noFill_tuple_add seq_tuple_add PySem.F.slot_tuple_add bY (bZ _ _)
   (tuple_addW0 a b η.toArray Cf.toArray n n2 dd Vo sl VM (by simp[e])) ⟨ho,FW,⟨.ref b,H,I,Y,q0 hx⟩⟩
 ·exact Z2t π s σ H _ _ v u Q I rx ry ⟨a,b,xs,ys,Y,Y,ha,hb,hx,hz,q1 hx,q2 hx⟩
end
section
variable {X:Cx}{π:PL}{σ:St}{H:Hp}{s:Γ}{h':Heap}
def Inv.turnedNew{t':Nat}{it a:χ}{o:HO}(I:Inv X π σ H s)(k:∀ b u,b≠it->s.heap.get? b≈u->h'.get? b≈u)(hn:H it=none)(hL:it≠X.env.locals)
  (h1:it∈X.ex\/⇑X.s₀<=it) (h2:∀ x c,X.env.cells.lookup x≈c->c≠it) (h3:∀ p∈X.pn++π,p.1≠it) (ha:⇑s<=a) (new:A1 X.prog X.w (upd H a o) h' a o):
  Inv X π σ (upd H a o) {s with heap:=h',toks:=t' }:=by
 have nit:∀ b u,H b≈u->b≠it:=λb u e z=>by rw[z,hn]at e;cases e
 have na:∀ b u,H b≈u->b≠a:=λb u e=>Yl (Yn (I.hok.lt e) ha);have low:∀ {b u},H b≈u->(upd H a o) b≈u:=λ{b u} e=>by rw[AE (na b u e)];exact e
 refine I.step (g':=s.gens) (d':=s.drawn) (ch:=[it]) (λb hb=>?_) (λb u _ _ hc e _=>k b u (λz=>hc (by simp[z])) e) (λb u _ _ hc e _=>⟨u.slots,k b u (λz=>hc (by simp[z])) e⟩)
  (λb u _ e n=>by rw[AE (Yl (Yn (Yc e) ha))];exact n)
  (λb u hc e=>⟨u,k b u (λz=>hc (by simp[z])) e⟩) (λ_ _ e=>low e) (λ_ _ _ e=>low e) (λb ps e=>⟨#[],by rw[low e];simp⟩) (λm hm=>?_) (λb u e=>?_) I.bare
 ·have e:b=it:=by simpa using hb
  subst e;exact⟨h1,hL,h2,h3⟩
 ·obtain⟨o',es,ep,ho,r⟩:=hm;exact⟨o',es,ep,k _ o' (Ae hL) ho,r⟩
 ·by_cases hb:b=a
  ·subst hb;rw[uS]at e;cases e;exact new
  ·rw[AE hb]at e;refine(I.hok b u e).stay (λc v hc q=>k c v ?_ q) (λ_ q=>low q) λ_ _ q=>low q
   rcases hc with z | z
   ·rw[z];exact nit b u e
   ·exact nit c _ z
end
section
variable {X:Cx}
end
section
variable {X:Cx}
end
section
variable {prog:Δ}{w:World}{A:Around}{E:EV}{s:Γ}
def QK{p t:χ}{k:Nat}{us:δ}{u:ω}{Q:EV}(hp:s.heap.IsTupleIter p t k)(ht:s.heap.IsTuple t us)(hu:us[k]?≈u)
  (q:∀ g,g.IsTupleIter p t (k + 1)->Heap.SameBut p s.heap g->Q u {s with heap:=g}):wpAny (model prog w) A (Builtin.SmallTypes.nextOf (.ref p)) Q E s:=by
 obtain⟨ob,h1,h2,h3⟩:=id hp;obtain⟨ot,h4,_,nt,h5⟩:=ht;unfold Builtin.SmallTypes.nextOf;refine Ja (wpAny_callSpecial?_slot (name:=Str.ofString "__next__") hp.typeIs Xp (wpAny_call_entry Xp hp.typeIs PySem.F.entry_tuple_iterator_next ?_ (PySem.F.args_tuple_iterator_next_1 _)));show wpAny _ _ (field (.ref p) 0>>=_) _ _ s;refine Ja (Jg h1 h3 (x:=.ref t) rfl ?_);show wpAny _ _ (if(Value.ref t == Value.none)=true then _ else _) _ _ s;rw[if_neg (show ¬ ((Value.ref t == Value.none)=true)from Yh)];show wpAny _ _ (field (.ref p) 1>>=_) _ _ s;refine Ja (Jg h1 h3 (x:=.int k 0) rfl ?_);show wpAny _ _ (seqItems? (.ref t)>>=_) _ _ s;refine Ja (wpAny_seqItems h4 h5 ?_);simp only[B0,hu];refine Ja (wpAny_setField h1 h3 (by simp) (Jd ⟨u,Y,Jd (q _ ?_ (Lg ..))⟩));exact⟨_,ED _ h1 (NL (II h3 _)),(Obj.cls_mapFields ..).trans h2,by rw[II h3];simp[rawInt]⟩
def QJ{p t:χ}{k:Nat}{us:δ}{Q:EV}(hh:A.handled=none)(hp:s.heap.IsTupleIter p t k)(ht:s.heap.IsTuple t us)(hu:us[k]?=none)
  (q:∀ g e,Heap.ExtBut p s.heap g->(∃ o,g.get? e≈o/\o.cls=.type "StopIteration")->E (.ref e) {s with heap:=g}):wpAny (model prog w) A (Builtin.SmallTypes.nextOf (.ref p)) Q E s:=by
 obtain⟨ob,h1,h2,h3⟩:=id hp;obtain⟨ot,h4,_,nt,h5⟩:=ht;unfold Builtin.SmallTypes.nextOf;refine Ja (wpAny_callSpecial?_slot (name:=Str.ofString "__next__") hp.typeIs Xp (wpAny_call_entry Xp hp.typeIs PySem.F.entry_tuple_iterator_next ?_ (PySem.F.args_tuple_iterator_next_1 _)));show wpAny _ _ (field (.ref p) 0>>=_) _ _ s;refine Ja (Jg h1 h3 (x:=.ref t) rfl ?_);show wpAny _ _ (if(Value.ref t == Value.none)=true then _ else _) _ _ s;rw[if_neg (show ¬ ((Value.ref t == Value.none)=true)from Yh)];show wpAny _ _ (field (.ref p) 1>>=_) _ _ s;refine Ja (Jg h1 h3 (x:=.int k 0) rfl ?_);show wpAny _ _ (seqItems? (.ref t)>>=_) _ _ s;refine Ja (wpAny_seqItems h4 h5 ?_);simp only[B0,hu];refine Ja (wpAny_rule (Ja (wpAny_setField h1 h3 (by simp) ?_)));show wpAny _ _ (newExc (.type "StopIteration") []>>=_) _ _ _;refine Ja ?_;simp only[newExc,newTuple];refine Ja (wpAny_newObj_type ?_ (by size_fits));refine Ja (m:=firstArgMember _ _) (wpAny_of_eq (a:=Value.none) (by first | rfl | (simp only[firstArgMember];rfl)) ?_);refine wpAny_newObj_type ?_ (by size_fits);simp only[raiseNew];refine Ja (wpAny_handled ?_)
 first | rw[show A.in1.handled=none from hh] | rw[hh]
 refine Ja (Jd (wpAny_throw ?_));exact q _ _ (((Lg ..).extBut.push _).push _) ⟨_,Ye _ rfl,Y⟩
structure Fo(h:Heap)(z ti to i1 i2 l1 l2:χ)(k:Nat)(f:ω):Prop where
 z:IsZip h z ti to f
 ti:IsPair h ti (.ref i1) (.ref i2)
 to:∃ a b,IsPair h to a b
 i1:h.IsTupleIter i1 l1 k
 i2:h.IsTupleIter i2 l2 k
theorem Fo.at{h h':Heap}{z ti to i1 i2 l1 l2:χ}{k:Nat}{f:ω}(x:Fo h z ti to i1 i2 l1 l2 k f)(e:∀ b∈[z,ti,to,i1,i2],∀ o,h.get? b≈o->h'.get? b≈o):Fo h' z ti to i1 i2 l1 l2 k f :=
 ⟨e z (by simp) _ x.z,e ti (by simp) _ x.ti,let⟨a,b,y⟩:=x.to;⟨a,b,e to (by simp) _ y⟩,x.i1.at λo q=>e i1 (by simp) o q,x.i2.at λo q=>e i2 (by simp) o q⟩
def vH{z ti to i1 i2 l1 l2:χ}{k:Nat}{xs ys:δ}{x y:ω}{Q:EV}(D:ZipApart z ti to i1 i2 l1 l2)(st:Fo s.heap z ti to i1 i2 l1 l2 k .none)
  (t1:s.heap.IsTuple l1 xs) (t2:s.heap.IsTuple l2 ys) (hx:xs[k]?≈x) (hy:ys[k]?≈y)
  (q:∀ g,Fo g z ti to i1 i2 l1 l2 (k + 1) (rawInt ⇑s)->IsPair g ⇑s x y->(∀ c o,c≠z->c≠to->c≠i1->c≠i2->s.heap.get? c≈o->g.get? c≈o)->Q (.ref ⇑s) {s with heap:=g}):
  wpAny (model prog w) A (Builtin.«zip.__next__» ⟨[.ref z],[]⟩) (λfin s'=>∃ v,fin=.done (.ret v)/\Q v s') E s:=by
 obtain⟨hz,hti,⟨a,b,hto⟩,F6,Hh⟩:=st;show wpAny _ _ (field (.ref z) 2>>=_) _ _ _;refine Ja (Jg hz rfl (x:=.bool false) rfl ?_);show wpAny _ _ (field (.ref z) 3>>=_) _ _ _;refine Ja (Jg hz rfl (x:=.ref ti) rfl (Ja (wpAny_seqItems hti rfl ?_)));show wpAny _ _ (Builtin.SmallTypes.ownedTupleIsFree (.ref z)>>=_) _ _ _;refine Ja ?_;unfold Builtin.SmallTypes.ownedTupleIsFree;refine Ja (Jg hz rfl (x:=.none) rfl (Jd ?_));simp only[if_true];refine Ja (wpAny_rule (Ja (Jg hz rfl (x:=.ref to) rfl (Ja (wpAny_setField_rec hz (by simp) λg1 z1 e1=>?_)))));replace z1:IsZip g1 z ti to .ellipsis:=z1;refine Ja ?_;simp only[Qd,List.zipIdx_nil,JO,Lc];refine Ja (Ja (wpAny_onRaise ?_));show wpAny _ _ (Builtin.SmallTypes.nextOf (.ref i1)>>=_) _ _ _;refine Ja (QK (F6.extBut e1.extBut D.i1z) (t1.extBut e1.extBut D.l1z) hx λg2 j1 e2=>Jd ?_);have to2:IsPair g2 to a b:=e2.extBut _ _ D.TOi1 (e1.extBut _ _ D.TOz hto);refine Ja (wpAny_seqItems to2 rfl (Ja (wpAny_updateSeq_pair to2 λg3 to3 e3=>?_)));replace to3:IsPair g3 to x b:=to3;refine Ja (wpAny_letGo (Jd (Ja (Ja (wpAny_onRaise ?_)))));show wpAny _ _ (Builtin.SmallTypes.nextOf (.ref i2)>>=_) _ _ _;refine Ja (QK (((Hh.extBut e1.extBut D.i2z).extBut e2.extBut D.i12.symm).extBut e3.extBut D.TOi2.symm) (((t2.extBut e1.extBut D.l2z).extBut e2.extBut D.l2i1).extBut e3.extBut D.l2TO) hy λg4 j2 e4=>Jd ?_);have Qj:IsPair g4 to x b:=e4.extBut _ _ D.TOi2 to3;refine Ja (wpAny_seqItems Qj rfl (Ja (wpAny_updateSeq_pair Qj λg5 IW e5=>?_)));replace IW:IsPair g5 to x y:=IW;refine Ja (wpAny_letGo (Jd (Jd (Ja (wpAny_seqItems IW rfl (Ja (wpAny_newTuple ?_)))))));have sz:g5.objs.size=⇑s:=by rw[e5.1,e4.1,e3.1,e2.1,e1.1]
 have z5:IsZip g5 z ti to .ellipsis:=e5.extBut _ _ D.TOz.symm (e4.extBut _ _ D.i2z.symm (e3.extBut _ _ D.TOz.symm (e2.extBut _ _ D.i1z.symm z1)));have k5:∀ c o,c≠z->c≠to->c≠i1->c≠i2->s.heap.get? c≈o->g5.get? c≈o:=λc o c1 c2 c3 c4 e=>e5.extBut _ _ c2 (e4.extBut _ _ c4 (e3.extBut _ _ c2 (e2.extBut _ _ c3 (e1.extBut _ _ c1 e))));have YE:g5.IsTupleIter i1 l1 (k + 1):=((j1.extBut e3.extBut D.TOi1.symm).extBut e4.extBut D.i12).extBut e5.extBut D.TOi1.symm;have YD:g5.IsTupleIter i2 l2 (k + 1):=j2.extBut e5.extBut D.TOi2.symm;have zlt:z<g5.objs.size:=Yc z5;show wpAny _ _ (Builtin.SmallTypes.ownedTupleHandOut (.ref z) (.ref g5.objs.size)>>=_) _ _ _;refine Ja ?_;unfold Builtin.SmallTypes.ownedTupleHandOut;have z6:IsZip (g5.push {cls:=.type "tuple",data:=.seq #[x,y] }) z ti to .ellipsis:=Yb _ z5;refine Ja (wpAny_setField_rec z6 (by simp) λg7 z7 e7=>?_);replace z7:IsZip g7 z ti to (rawInt g5.objs.size):=z7;refine wpAny_setField_rec z7 (by simp) λg8 z8 e8=>?_;replace z8:IsZip g8 z ti to (rawInt g5.objs.size):=z8;have up:∀ c o,c≠z->g5.get? c≈o->g8.get? c≈o:=λc o c1 e=>e8.extBut _ _ c1 (e7.extBut _ _ c1 (Yb _ e));have p8:IsPair g8 g5.objs.size x y:=e8.extBut _ _ (Yt zlt) (e7.extBut _ _ (Yt zlt) (Ye _ rfl));rw[sz]at z8 p8;refine Jd ⟨Z,?_⟩;show Q (.ref g5.objs.size) _;rw[sz];exact q g8 ⟨z8,up _ _ D.TIz (k5 _ _ D.TIz D.TITO D.TIi1 D.TIi2 hti),⟨x,y,up _ _ D.TOz IW⟩,YE.at λo e=>up _ o D.i1z e,YD.at λo e=>up _ o D.i2z e⟩ p8 λc o c1 c2 c3 c4 e=>up c o c1 (k5 c o c1 c2 c3 c4 e)
def vG{z ti to i1 i2 l1 l2:χ}{k:Nat}{xs ys:δ}{Q:Fin->Γ->Prop}(hh:A.handled=none)(D:ZipApart z ti to i1 i2 l1 l2)(st:Fo s.heap z ti to i1 i2 l1 l2 k .none)
  (t1:s.heap.IsTuple l1 xs) (t2:s.heap.IsTuple l2 ys) (Au:xs[k]?=none\/ys[k]?=none)
  (q:∀ g e,(∀ c o,c≠z->c≠to->c≠i1->c≠i2->s.heap.get? c≈o->g.get? c≈o)->(∃ o,g.get? e≈o/\o.cls=.type "StopIteration")->E (.ref e) {s with heap:=g}):
  wpAny (model prog w) A (Builtin.«zip.__next__» ⟨[.ref z],[]⟩) Q E s:=by
 obtain⟨hz,hti,⟨a,b,hto⟩,F6,Hh⟩:=st;show wpAny _ _ (field (.ref z) 2>>=_) _ _ _;refine Ja (Jg hz rfl (x:=.bool false) rfl ?_);show wpAny _ _ (field (.ref z) 3>>=_) _ _ _;refine Ja (Jg hz rfl (x:=.ref ti) rfl (Ja (wpAny_seqItems hti rfl ?_)));show wpAny _ _ (Builtin.SmallTypes.ownedTupleIsFree (.ref z)>>=_) _ _ _;refine Ja ?_;unfold Builtin.SmallTypes.ownedTupleIsFree;refine Ja (Jg hz rfl (x:=.none) rfl (Jd ?_));simp only[if_true];refine Ja (wpAny_rule (Ja (Jg hz rfl (x:=.ref to) rfl (Ja (wpAny_setField_rec hz (by simp) λg1 z1 e1=>?_)))));replace z1:IsZip g1 z ti to .ellipsis:=z1;refine Ja ?_;simp only[Qd,List.zipIdx_nil,JO,Lc];refine Ja (Ja (wpAny_onRaise ?_));show wpAny _ _ (Builtin.SmallTypes.nextOf (.ref i1)>>=_) _ _ _;cases hx:xs[k]? with
 | none =>
  refine Ja (QJ hh (F6.extBut e1.extBut D.i1z) (t1.extBut e1.extBut D.l1z) hx λg2 e e2 he=>?_);obtain⟨oe,ho,hc⟩:=he;have z2:IsZip g2 z ti to .ellipsis:=e2 _ _ D.i1z.symm z1;have ez:e≠z:=λx=>by subst x;rw[z2]at ho;cases ho;simp at hc
  exact wpAny_setField_rec z2 (by simp) λg3 _ e3=>q g3 e (λc o c1 _ c3 _ x=>e3.extBut _ _ c1 (e2 _ _ c3 (e1.extBut _ _ c1 x))) ⟨oe,e3.extBut _ _ ez ho,hc⟩
 | some x =>
  have hy:ys[k]?=none:=by rcases Au with h | h;rw[hx]at h;cases h;exact h
  refine Ja (QK (F6.extBut e1.extBut D.i1z) (t1.extBut e1.extBut D.l1z) hx λg2 j1 e2=>Jd ?_);have to2:IsPair g2 to a b:=e2.extBut _ _ D.TOi1 (e1.extBut _ _ D.TOz hto);refine Ja (wpAny_seqItems to2 rfl (Ja (wpAny_updateSeq_pair to2 λg3 to3 e3=>?_)));refine Ja (wpAny_letGo (Jd (Ja (Ja (wpAny_onRaise ?_)))));show wpAny _ _ (Builtin.SmallTypes.nextOf (.ref i2)>>=_) _ _ _;refine Ja (QJ hh (((Hh.extBut e1.extBut D.i2z).extBut e2.extBut D.i12.symm).extBut e3.extBut D.TOi2.symm) (((t2.extBut e1.extBut D.l2z).extBut e2.extBut D.l2i1).extBut e3.extBut D.l2TO) hy λg4 e e4 he=>?_);obtain⟨oe,ho,hc⟩:=he;have z4:IsZip g4 z ti to .ellipsis:=e4 _ _ D.i2z.symm (e3.extBut _ _ D.TOz.symm (e2.extBut _ _ D.i1z.symm z1));have ez:e≠z:=λx=>by subst x;rw[z4]at ho;cases ho;simp at hc
  exact wpAny_setField_rec z4 (by simp) λg5 _ e5=>q g5 e (λc o c1 c2 c3 c4 x=>e5.extBut _ _ c1 (e4 _ _ c4 (e3.extBut _ _ c2 (e2.extBut _ _ c3 (e1.extBut _ _ c1 x))))) ⟨oe,e5.extBut _ _ ez ho,hc⟩
def xC{z ti to i1 i2 l1 l2:χ}{k:Nat}{xs ys:δ}{x y:ω}{Q:OU->Γ->Prop}(D:ZipApart z ti to i1 i2 l1 l2)(st:Fo s.heap z ti to i1 i2 l1 l2 k .none)
  (t1:s.heap.IsTuple l1 xs) (t2:s.heap.IsTuple l2 ys) (hx:xs[k]?≈x) (hy:ys[k]?≈y)
  (q:∀ g,Fo g z ti to i1 i2 l1 l2 (k + 1) (rawInt ⇑s)->IsPair g ⇑s x y->(∀ c o,c≠z->c≠to->c≠i1->c≠i2->s.heap.get? c≈o->g.get? c≈o)->Q (↥(.ref ⇑s)) {s with heap:=g}):
  wpAny (model prog w) A (pyNext (.ref z)) Q E s:=by
 have hT:s.TypeIs (.ref z) "zip":=⟨_,st.z,Y⟩;unfold pyNext;exact Ja (wpAny_attempt (wpAny_callSpecial?_slot (name:=Str.ofString "__next__") hT EC (wpAny_call_entry EC hT LX (vH D st t1 t2 hx hy λg a1 a2 a3=>Jd (q g a1 a2 a3)) (Lb _))))
def xB{z ti to i1 i2 l1 l2:χ}{k:Nat}{xs ys:δ}{Q:OU->Γ->Prop}(hh:A.handled=none)(D:ZipApart z ti to i1 i2 l1 l2)(st:Fo s.heap z ti to i1 i2 l1 l2 k .none)
  (t1:s.heap.IsTuple l1 xs) (t2:s.heap.IsTuple l2 ys) (Au:xs[k]?=none\/ys[k]?=none)
  (q:∀ g,(∀ c o,c≠z->c≠to->c≠i1->c≠i2->s.heap.get? c≈o->g.get? c≈o)->Q none {s with heap:=g}):wpAny (model prog w) A (pyNext (.ref z)) Q E s:=by
 have hT:s.TypeIs (.ref z) "zip":=⟨_,st.z,Y⟩;unfold pyNext;refine Ja (wpAny_attempt (wpAny_callSpecial?_slot (name:=Str.ofString "__next__") hT EC (wpAny_call_entry EC hT LX (vG hh D st t1 t2 Au λg e hk he=>?_) (Lb _))));obtain⟨o,ho,hc⟩:=he;refine Ja (wpAny_isInstance (T:="StopIteration") (b:=true) ⟨o,ho,hc⟩ isSubtype_stop ?_);exact Jd (q _ hk)
end
def Fu(ps:List (V×V))(Ok:Hp->Prop):It :=
 ⟨λi H=>i<↑ps/\Ok H,λi H v H'=>∃ t p,ps[i]?≈p/\H t=none/\v=.ref t/\H'=upd H t (.tup [p.1,p.2]),λi H=>↑ps<=i/\Ok H⟩
section
variable {prog:Δ}{w:World}{A:Around}{E:EV}{s:Γ}
abbrev L_(h:Heap)(l1:χ):Heap:=h.push {cls:=.type "tuple_iterator",data:=.fields #[.ref l1,.int 0 0] }
abbrev VD(h:Heap)(l1 l2:χ):Heap:=(L_ h l1).push {cls:=.type "tuple_iterator",data:=.fields #[.ref l2,.int 0 0] }
abbrev VC(h:Heap)(l1 l2:χ):Heap:=(VD h l1 l2).push {cls:=.type "tuple",data:=.seq #[.ref h.objs.size,.ref (L_ h l1).objs.size] }
abbrev VB(h:Heap)(l1 l2:χ):Heap:=(VC h l1 l2).push {cls:=.type "tuple",data:=.seq #[.none,.none] }
abbrev PZ(h:Heap)(l1 l2:χ):Heap:=(VB h l1 l2).push {cls:=.type "zip",data:=.fields #[.none,.bool false,.bool false,.ref (VD h l1 l2).objs.size,.ref (VC h l1 l2).objs.size] }
def vV(l1 l2:χ)(xs ys:δ):Meets (Builtin.«zip.__new__» ⟨[.type "zip",.ref l1,.ref l2],[]⟩) (λ_ R s=>s.heap.IsTuple l1 xs/\s.heap.IsTuple l2 ys /\
   R (.ok (.ret (.ref (VB s.heap l1 l2).objs.size))) {s with heap:=PZ s.heap l1 l2}):=
 .of_wp λprog w A R s h=>by
  obtain⟨hp,g,d,tk,os⟩:=s;obtain⟨t1,t2,h⟩:=h;have hsub:=sub_zip;have T1:Heap.IsTuple (Shared.heap ⟨hp,g,d,tk,os⟩) l1 xs:=t1;have T2:Heap.IsTuple (Shared.heap ⟨hp.push {cls:=.type "tuple_iterator",data:=.fields #[.ref l1,.int 0 0] },g,d,tk,os⟩) l2 ys:=Heap.IsTuple.push t2 _
  wp_walk using wpAny_pyIter_tuple T1,wpAny_pyIter_tuple T2
  exact⟨Z,h⟩
def tS{l1 l2:χ}{xs ys:δ}{Q:EV}(t1:s.heap.IsTuple l1 xs)(t2:s.heap.IsTuple l2 ys)
  (q:∀ g,Fo g (⇑s + 4) (⇑s + 2) (⇑s + 3) ⇑s (⇑s + 1) l1 l2 0 .none->(∀ c o,s.heap.get? c≈o->g.get? c≈o)->Q (.ref (⇑s + 4)) {s with heap:=g}):
  wpAny (model prog w) A (call (.type "zip") [.ref l1,.ref l2]) Q E s:=by
 refine callType_new PySem.F.called_zip (by decide) (PySem.F.typeCall_zip_2 _ _) (PySem.F.newCall_zip_2 _ _) (λobj=>PySem.F.args_object_init_3 obj _ _) PySem.F.entry_zip_new (vV l1 l2 xs ys) ⟨t1,t2,?_⟩;have n1:(L_ s.heap l1).objs.size=⇑s + 1:=C6 ..;have n2:(VD s.heap l1 l2).objs.size=⇑s + 2:=by rw[C6,n1]
 have n3:(VC s.heap l1 l2).objs.size=⇑s + 3:=by rw[C6,n2]
 have n4:(VB s.heap l1 l2).objs.size=⇑s + 4:=by rw[C6,n3]
 have up:∀ {h:Heap} {a:χ} {o:Obj} (x:Obj),h.get? a≈o->(h.push x).get? a≈o:=λx e=>Yb _ e;have f5:(PZ s.heap l1 l2).get? (VB s.heap l1 l2).objs.size≈_:=Ye _ rfl;have f4:(PZ s.heap l1 l2).get? (VC s.heap l1 l2).objs.size≈_:=up _ (Ye _ rfl);have f3:(PZ s.heap l1 l2).get? (VD s.heap l1 l2).objs.size≈_:=up _ (up _ (Ye _ rfl));have f2:(PZ s.heap l1 l2).get? (L_ s.heap l1).objs.size≈_:=up _ (up _ (up _ (Ye _ rfl)));have f1:(PZ s.heap l1 l2).get? ⇑s≈_:=up _ (up _ (up _ (up _ (Ye _ rfl))));show _/\_;rw[n2,n3,n4]at f5;rw[n1,n2]at f3;rw[n3]at f4;rw[n1]at f2;rw[n4];exact⟨⟨_,f5,Y⟩,q _ ⟨f5,f3,⟨_,_,f4⟩,⟨_,f1,Y,Y⟩,⟨_,f2,Y,Y⟩⟩ λc o x=>up _ (up _ (up _ (up _ (up _ x))))⟩
end
def Ru{xs ys:LV}{i:Nat}{p:V×V}(h:(xs.zip ys)[i]?≈p):xs[i]?≈p.1/\ys[i]?≈p.2:=by
 rw[Lf]at h;exact h
def Inv.turnedNewL{X:Cx}{π:PL}{σ:St}{H:Hp}{s:Γ}{h':Heap}{t':Nat}{η:μ}{a:χ}{o:HO}(I:Inv X π σ H s)(k:∀ b u,b∉η->s.heap.get? b≈u->h'.get? b≈u)
  (f:∀ b∈η,CY X π H b) (ha:⇑s<=a) (new:A1 X.prog X.w (upd H a o) h' a o):Inv X π σ (upd H a o) {s with heap:=h',toks:=t' }:=by
 have nit:∀ b u,H b≈u->b∉η:=λb u e z=>by have:=(f b z).1;rw[this]at e;cases e
 have na:∀ b u,H b≈u->b≠a:=λb u e=>Yl (Yn (I.hok.lt e) ha);have low:∀ {b u},H b≈u->(upd H a o) b≈u:=λ{b u} e=>by rw[AE (na b u e)];exact e
 refine I.step (g':=s.gens) (d':=s.drawn) (ch:=η) (λb hb=>?_) (λb u _ _ hc e _=>k b u hc e) (λb u _ _ hc e _=>⟨u.slots,k b u hc e⟩)
  (λb u _ e n=>by rw[AE (Yl (Yn (Yc e) ha))];exact n)
  (λb u hc e=>⟨u,k b u hc e⟩) (λ_ _ e=>low e) (λ_ _ _ e=>low e) (λb ps e=>⟨#[],by rw[low e];simp⟩) (λm hm=>?_) (λb u e=>?_) I.bare
 ·obtain⟨f0,f1,f2,f3,f4,f5⟩:=f b hb;exact⟨f3,f1,f4,f5⟩
 ·obtain⟨o',es,ep,ho,r⟩:=hm;exact⟨o',es,ep,k _ o' (λz=>(f _ z).2.1 rfl) ho,r⟩
 ·by_cases hb:b=a
  ·subst hb;rw[uS]at e;cases e;exact new
  ·rw[AE hb]at e;refine(I.hok b u e).stay (λc v hc q=>k c v ?_ q) (λ_ q=>low q) λ_ _ q=>low q
   rcases hc with z | z
   ·rw[z];exact nit b u e
   ·exact nit c _ z
def Inv.turnedL{X:Cx}{π:PL}{σ:St}{H:Hp}{s:Γ}{h':Heap}{t':Nat}{η:μ}(I:Inv X π σ H s)(k:∀ b u,b∉η->s.heap.get? b≈u->h'.get? b≈u)
  (f:∀ b∈η,CY X π H b):Inv X π σ H {s with heap:=h',toks:=t' }:=by
 have nit:∀ b u,H b≈u->b∉η:=λb u e z=>by have:=(f b z).1;rw[this]at e;cases e
 refine I.step (g':=s.gens) (d':=s.drawn) (ch:=η) (λb hb=>?_) (λb u _ _ hc e _=>k b u hc e) (λb u _ _ hc e _=>⟨u.slots,k b u hc e⟩)
  (λb u _ e n=>n) (λb u hc e=>⟨u,k b u hc e⟩) (λ_ _ e=>e) (λ_ _ _ e=>e) (λb ps e=>⟨#[],by rw[e];simp⟩) (λm hm=>?_) (λb u e=>?_) I.bare
 ·obtain⟨f0,f1,f2,f3,f4,f5⟩:=f b hb;exact⟨f3,f1,f4,f5⟩
 ·obtain⟨o',es,ep,ho,r⟩:=hm;exact⟨o',es,ep,k _ o' (λz=>(f _ z).2.1 rfl) ho,r⟩
 ·refine(I.hok b u e).stay (λc v hc q=>k c v ?_ q) (λ_ q=>q) λ_ _ q=>q
  rcases hc with z | z
  ·rw[z];exact nit b u e
  ·exact nit c _ z
def su{P:Δ}{w:World}{K:Fg}{elts:ε}{x1}{pos:Pos}{xs ys:LV}(a b z ti to i1 i2:χ)(D:ZipApart z ti to i1 i2 a b):
  Dq P w K (.Tuple elts x1 pos) (Fu (xs.zip ys) λH=>AJ K H a xs/\AJ K H b ys) [z,ti,to,i1,i2] z (λi h=>Fo h z ti to i1 i2 a b i .none) where
 mem:=by simp
 obj:=λi h st c hc=>by
  have Bo:c=z\/c=ti\/c=to\/c=i1\/c=i2:=by simpa using hc
  obtain⟨x,y,h3⟩:=st.to;obtain⟨o1,e1,_,d1⟩:=st.i1;obtain⟨o2,e2,_,d2⟩:=st.i2
  rcases Bo with rfl | rfl | rfl | rfl | rfl
  ·exact⟨_,st.z,λv q=>by cases q⟩
  ·exact⟨_,st.ti,λv q=>by cases q⟩
  ·exact⟨_,h3,λv q=>by cases q⟩
  ·exact⟨_,e1,λv q=>by rw[d1]at q;cases q⟩
  ·exact⟨_,e2,λv q=>by rw[d2]at q;cases q⟩
 keep:=λi h h' st k=>st.at k
 item:=by
  intro X hP hw hK hc i π s σ H E I hf st hg;subst hP hw hK;obtain⟨hi,ha,hb⟩:=hg;obtain⟨p,hp⟩:∃ p,(xs.zip ys)[i]?≈p:=⟨(xs.zip ys)[i]'hi,Yg hi⟩;obtain⟨hx,hy⟩:=Ru hp;obtain⟨η,rv,pa,_⟩:=I.tuple ha;obtain⟨jts,BQ,pb,_⟩:=I.tuple hb;obtain⟨u,hu,ru⟩:=rv.get hx;obtain⟨v,hv,X6⟩:=BQ.get hy;refine xC D st (show s.heap.IsTuple a η.toArray from pa) (show s.heap.IsTuple b jts.toArray from pb) (by simpa using hu) (by simpa using hv) λg Ay hpr hk=>?_;refine⟨Z,?_⟩;refine wpAny_letOwnedTupleGo_zip (s:={s with heap:=g}) Ay.z λg' z' sb=>?_;have zlt:z<⇑s:=Yc st.z;have nz:⇑s≠z:=Yt zlt;have DZ:Heap.ExtBut z g g':=sb.extBut;have hT:IsPair g' ⇑s u v:=DZ _ _ nz hpr;have I1:Inv X π σ (upd H ⇑s (.tup [p.1,p.2])) {s with heap:=g' }:=I.turnedNewL (t':=s.toks) (η:=[z,ti,to,i1,i2]) (λc o hc e=>DZ c o (λq=>hc (by simp[q])) (hk c o (λq=>hc (by simp[q])) (λq=>hc (by simp[q])) (λq=>hc (by simp[q])) (λq=>hc (by simp[q])) e)) hf (Yd _)
   ⟨J,[u,v],.cons ru (.cons X6 .nil),⟨_,hT,Y,Z⟩⟩
  have FT:Fo g' z ti to i1 i2 a b (i + 1) .none:=by
   obtain⟨a1,a2,a3⟩:=Ay.to;exact⟨z',DZ _ _ D.TIz Ay.ti,⟨a1,a2,DZ _ _ D.TOz a3⟩,Ay.i1.extBut DZ D.i1z,Ay.i2.extBut DZ D.i2z⟩
  refine⟨.ref ⇑s,_,I1,Y,⟨⇑s,p,hp,I.hok.fresh (Yd _),Y,Y⟩,FT,λc hc=>?_⟩;have lt:∀ c∈[z,ti,to,i1,i2],c<⇑s:=λc hc=>by
   have Bo:c=z\/c=ti\/c=to\/c=i1\/c=i2:=by simpa using hc
   obtain⟨a1,a2,a3⟩:=st.to;obtain⟨o1,e1,_⟩:=st.i1;obtain⟨o2,e2,_⟩:=st.i2
   rcases Bo with rfl | rfl | rfl | rfl | rfl
   ·exact zlt
   ·exact Yc st.ti
   ·exact Yc a3
   ·exact Yc e1
   ·exact Yc e2
  rw[AE (Yl (lt c hc))];exact(hf c hc).1
 done:=by
  intro X hP hw hK hc i π s σ H E I hf st hg;subst hP hw hK;obtain⟨hi,ha,hb⟩:=hg;obtain⟨η,rv,pa,_⟩:=I.tuple ha;obtain⟨jts,BQ,pb,_⟩:=I.tuple hb;have l1:=↑rv;have l2:=↑BQ;have Au:η.toArray[i]?=none\/jts.toArray[i]?=none:=by
   rw[JN]at hi
   rcases Nat.le_total ↑xs ↑ys with h | h
   ·rw[IL h]at hi;exact .inl (by simp;omega)
   ·rw[Nat.min_eq_right h]at hi;exact .inr (by simp;omega)
  exact xB (I.ok.hd hc) D st (show s.heap.IsTuple a η.toArray from pa) (show s.heap.IsTuple b jts.toArray from pb) Au λg hk=>⟨Y,I.turnedL (t':=s.toks) (η:=[z,ti,to,i1,i2]) (λc o hc e=>hk c o (λq=>hc (by simp[q])) (λq=>hc (by simp[q])) (λq=>hc (by simp[q])) (λq=>hc (by simp[q])) e) hf⟩
 self:=λA i s Q E st h=>wpAny_pyIter_zip st.z h
section
variable {X:Cx}
def Ybz(K:Fg)(ta:TA):TI:=λσ H R=>ta σ H λvs H1=>∃(a b:χ) (xs ys:LV),vs=[.ref a,.ref b]/\AJ K H1 a xs/\AJ K H1 b ys/\R (Fu (xs.zip ys) λH=>AJ K H a xs/\AJ K H b ys) H1
def zJ{elts:ε}{x1}{C_:Pos}{a b:Expr}{ta:TA}{p pos:Pos}(hg:Gl X "zip")(hm:X.mg "zip"=none)(ha:PA X [a,b] ta)(hs:starEach [a,b] X.env=[(false,eval a X.env),(false,eval b X.env)]:=by rfl)(DK:starEach [b] X.env=[(false,eval b X.env)]:=by rfl):
  PI X (.Tuple elts x1 C_) (.Call (.Name "zip" p) [a,b] [] pos) (Ybz X.K ta):=by
 intro π s σ H R I h;refine Call_ (Fj I hg hm boot_zip (IH (AH (ha pos π s σ H _ I h) λus s1 ⟨vs,H1,I1,r1,q1⟩=>?_) (by rw[hs,DK]) (by rw[DK];rfl)));obtain⟨l1,l2,xs,ys,e,t1,t2,q⟩:=q1;subst e;cases r1 with
 | cons r rr =>
  cases rr with
  | cons r' rr =>
   cases rr;obtain rfl:_=Value.ref l1:=r;obtain rfl:_=Value.ref l2:=r';obtain⟨η,rv,pa,_⟩:=I1.tuple t1;obtain⟨jts,BQ,pb,_⟩:=I1.tuple t2;have b1:s1.heap.IsTuple l1 η.toArray:=pa;have b2:s1.heap.IsTuple l2 jts.toArray:=pb;have F3:l1<⇑s1:=let⟨_,e,_⟩:=b1;Yc e;have Ie:l2<⇑s1:=let⟨_,e,_⟩:=b2;Yc e;refine tS b1 b2 λg st hk=>wpAny_pyIter_zip (s:={s1 with heap:=g}) st.z ?_;have D:ZipApart (⇑s1 + 4) (⇑s1 + 2) (⇑s1 + 3) ⇑s1 (⇑s1 + 1) l1 l2:=W.ktu_apart _ _ _ F3 Ie;refine⟨_,[⇑s1 + 4,⇑s1 + 2,⇑s1 + 3,⇑s1,⇑s1 + 1],_,_,H1,Y,I1.kept (t':=s1.toks) λb o e=>hk b o e,su l1 l2 _ _ _ _ _ D,st,λc hc=>?_,q⟩;have Bo:c=⇑s1 + 4\/c=⇑s1 + 2\/c=⇑s1 + 3\/c=⇑s1\/c=⇑s1 + 1:=by simpa using hc
   have ge:⇑s1<=c:=by
    rcases Bo with rfl | rfl | rfl | rfl | rfl
    ·exact EY _ _
    ·exact EY _ _
    ·exact EY _ _
    ·exact Yd _
    ·exact EY _ _
   exact I1.fpOk ge (I1.hok.fresh ge)
end
def tZ{prog:Δ}{w:World}{A:Around}(hh:A.handled=none)(p t:χ)(ne:t≠p)(us:δ):Draws prog w A p [p,t] us.size (λi v=>us[i]?≈v) (λi h=>h.IsTupleIter p t i/\h.IsTuple t us) where
 live:=λ_ _ st=>let⟨o,ho,_⟩:=st.1;⟨o,ho⟩
 frame:=λ_ _ _ st hk=>⟨st.1.at λo e=>hk p (by simp) o e,let⟨o,ho,r⟩:=st.2;⟨o,hk t (by simp) o ho,r⟩⟩
 item:=λi s Q E hi st q=>QK st.1 st.2 (u:=us[i]) (by simp[hi]) λg Ay sb=>q _ g s.toks (by simp[hi]) ⟨Ay,st.2.extBut sb.extBut ne⟩ sb
 done:=λs Q E st q=>QJ hh st.1 st.2 (by simp) q
def Lk(b:Bool)(h:Heap)(p a:χ)(i:Nat):Prop:=if b=true then h.IsListIter p a i else h.IsTupleIter p a i
def bh(b:Bool)(h:Heap)(a:χ)(us:δ):Prop:=if b=true then h.IsList a us else h.IsTuple a us
theorem Lk.at{b:Bool}{h h':Heap}{p a:χ}{i:Nat}(x:Lk b h p a i)(e:∀ o,h.get? p≈o->h'.get? p≈o):Lk b h' p a i:=by
 cases b with
 | true=>exact Heap.IsListIter.at (show h.IsListIter p a i from x) e
 | false=>exact Heap.IsTupleIter.at (show h.IsTupleIter p a i from x) e
def Lk.obj{b:Bool}{h:Heap}{p a:χ}{i:Nat}(x:Lk b h p a i):∃ o,h.get? p≈o/\∀ v,o.data≠.cell v:=by
 cases b with
 | true =>
  obtain⟨o,e,_,d⟩:=(show h.IsListIter p a i from x);exact⟨o,e,λv z=>by rw[d]at z;cases z⟩
 | false =>
  obtain⟨o,e,_,d⟩:=(show h.IsTupleIter p a i from x);exact⟨o,e,λv z=>by rw[d]at z;cases z⟩
def tY{prog:Δ}{w:World}{A:Around}(b:Bool)(hh:A.handled=none)(p t:χ)(ne:t≠p)(us:δ):Draws prog w A p [p,t] us.size (λi v=>us[i]?≈v) (λi h=>Lk b h p t i/\bh b h t us):=by
 cases b with
 | true=>exact Draws.list hh p t ne us
 | false=>exact tZ hh p t ne us
def Inv.sseq{X:Cx}{π:PL}{σ:St}{H:Hp}{s:Γ}{b:Bool}{a:χ}{xs:LV}(I:Inv X π σ H s)(h:C8 X.K b H a xs):∃ η:LU,AR xs η/\bh b s.heap a η.toArray:=by
 cases b with
 | true =>
  obtain⟨η,rv,p,_⟩:=I.list (show AD X.K H a xs from h);exact⟨η,rv,p.isList⟩
 | false =>
  obtain⟨η,rv,p,_⟩:=I.tuple (show AJ X.K H a xs from h);exact⟨η,rv,p⟩
def GY(xs:LV):List (V×V):=(Gd 0 ↑xs).zip xs
def QA(xs:LV):↑(GY xs)=↑xs:=by
 unfold GY;rw[JN,EW,Nat.min_self]
def WZ{xs:LV}{i:Nat}{p:V×V}(h:(GY xs)[i]?≈p):p.1=.int i/\xs[i]?≈p.2:=by
 obtain⟨h1,h2⟩:=Ru h;obtain⟨_,e⟩:=Fm h1;exact⟨by rw[e,Li],h2⟩
section
variable {prog:Δ}{w:World}{A:Around}{E:EV}{s:Γ}
def wF(l:χ)(us:δ):Meets (Builtin.«enumerate.__new__» ⟨[.type "enumerate",.ref l],[]⟩) (λ_ R s=>s.heap.IsTuple l us /\
   R (.ok (.ret (.ref (s.heap.push {cls:=.type "tuple_iterator",data:=.fields #[.ref l,.int 0 0] }).objs.size)))
    {s with heap:=(s.heap.push {cls:=.type "tuple_iterator",data:=.fields #[.ref l,.int 0 0] }).push {cls:=.type "enumerate",data:=.fields #[.none,.bool false,.ref ⇑s,rawInt 0,.none,.none] } }):=
 .of_wp λprog w A R s h=>by
  obtain⟨hp,g,d,tk,os⟩:=s;obtain⟨ht,h⟩:=h;have hsub:=sub_enumerate;obtain⟨⟨c,dct,dt,sl⟩,hl,hc,n,hd⟩:=id ht;replace hc:c=.type "tuple":=hc;replace hd:dt=.seq us n:=hd;subst hc hd;have hT:Heap.IsTuple (Shared.heap ⟨hp,g,d,tk,os⟩) l us:=ht
  wp_walk using Xm hl
  refine wpAny_stack_any λst=>Jd ?_;split
  ·rename_i c _ _ _ _ _
   cases(c == Value.type "enumerate")
   ·wp_walk using Xm hl,wpAny_pyIter_tuple hT
    exact⟨Z,h⟩
   ·wp_walk using Xm hl,wpAny_pyIter_tuple hT
    exact⟨Z,h⟩
  ·wp_walk using Xm hl,wpAny_pyIter_tuple hT
   exact⟨Z,h⟩
def t8(b:Bool){l:χ}{us:δ}{Q:EV}(hl:bh b s.heap l us)
  (q:∀ g,IsEnum g (⇑s + 1) ⇑s 0 .none->Lk b g ⇑s l 0->(∀ c o,s.heap.get? c≈o->g.get? c≈o)->Q (.ref (⇑s + 1)) {s with heap:=g}):
  wpAny (model prog w) A (call (.type "enumerate") [.ref l]) Q E s:=by
 cases b with
 | true=>exact call_enumerate_list (show s.heap.IsList l us from hl) λg h1 h2 _ h4=>q g h1 h2 h4
 | false =>
  refine callType_new PySem.F.called_enumerate (by decide) (PySem.F.typeCall_enumerate_1 _) (PySem.F.newCall_enumerate_1 _) (λobj=>PySem.F.args_object_init_2 obj _) PySem.F.entry_enumerate_new (wF l us) ⟨hl,?_⟩;have n1:(L_ s.heap l).objs.size=⇑s + 1:=C6 ..;show _/\_;rw[n1];have he:IsEnum ((L_ s.heap l).push {cls:=.type "enumerate",data:=.fields #[.none,.bool false,.ref ⇑s,rawInt 0,.none,.none] }) (⇑s + 1) ⇑s 0 .none:=by
   have:=Ye (L_ s.heap l) (o:={cls:=.type "enumerate",data:=.fields #[.none,.bool false,.ref ⇑s,rawInt 0,.none,.none] }) rfl;rw[n1]at this;exact this
  exact⟨⟨_,he,Y⟩,q _ he ⟨_,Yb _ (Ye _ rfl),Y,Y⟩ λc o x=>Yb _ (Yb _ x)⟩
end
def gU{prog:Δ}{w:World}{A:Around}{E:EV}{s:Γ}{e p:χ}{i:Int}{old:ω}{Q:OU->Γ->Prop}(hh:A.handled=none)(he:IsEnum s.heap e p i old)
  (nx:∀(Q:EV) (E:EV),(∀ g e,Heap.ExtBut p s.heap g->(∃ o,g.get? e≈o/\o.cls=.type "StopIteration")->E (.ref e) {s with heap:=g})->wpAny (model prog w) A.in1 (Builtin.SmallTypes.nextOf (.ref p)) Q E s)
  (q:∀ g,Heap.ExtBut p s.heap g->Q none {s with heap:=g}):wpAny (model prog w) A (pyNext (.ref e)) Q E s:=by
 have hT:s.TypeIs (.ref e) "enumerate":=⟨_,he,Y⟩;unfold pyNext;refine Ja (wpAny_attempt (wpAny_callSpecial?_slot (name:=Str.ofString "__next__") hT PySem.F.slot_enumerate_next (wpAny_call_entry PySem.F.slot_enumerate_next hT PySem.F.entry_enumerate_next ?_ (PySem.F.args_enumerate_next_1 _))));show wpAny _ _ (field (.ref e) 2>>=_) _ _ _;refine Ja (Jg he rfl (x:=.ref p) rfl (Ja (nx _ _ λg x eb hx=>?_)));obtain⟨o,ho,hc⟩:=hx;refine Ja (wpAny_isInstance (T:="StopIteration") (b:=true) ⟨o,ho,hc⟩ isSubtype_stop ?_);exact Jd (q _ eb)
def u7{P:Δ}{w:World}{K:Fg}{elts:ε}{x1}{pos:Pos}{xs:LV}(b:Bool)(a e p:χ)(ep:e≠p)(ea:e≠a)(ap:a≠p):
  Dq P w K (.Tuple elts x1 pos) (Fu (GY xs) λH=>C8 K b H a xs) [e,p] e (λi h=>(∃ old,IsEnum h e p i old)/\Lk b h p a i) where
 mem:=by simp
 obj:=λi h st c hc=>by
  have Bo:c=e\/c=p:=by simpa using hc
  obtain⟨⟨old,he⟩,si⟩:=st
  rcases Bo with rfl | rfl
  ·exact⟨_,he,λv q=>by cases q⟩
  ·exact si.obj
 keep:=λi h h' st k=>by
  obtain⟨⟨old,he⟩,si⟩:=st;exact⟨⟨old,k e (by simp) _ he⟩,si.at λo q=>k p (by simp) o q⟩
 item:=by
  intro X hP hw hK hc i π s σ H E I hf st hg;subst hP hw hK;obtain⟨hi,ha⟩:=hg;obtain⟨⟨old,he⟩,si⟩:=st;obtain⟨pr,hp⟩:∃ p,(GY xs)[i]?≈p:=⟨(GY xs)[i]'hi,Yg hi⟩;obtain⟨e1,hx⟩:=WZ hp;obtain⟨η,rv,sq⟩:=I.sseq ha;obtain⟨u,hu,ru⟩:=rv.get hx;have hil:i<η.toArray.size:=by rw[QA]at hi;have:=↑rv;simp;omega
  have D:=tY (prog:=X.prog) (w:=X.w) (A:=X.A.in1) b (I.ok.hd hc) p a ap η.toArray;refine wpAny_pyNext_enum_itemD D he ⟨si,sq⟩ hil ep (by simp;exact⟨ep,ea⟩) λx g tk hPx ho hst hT _ hk=>?_;have exu:x=u:=by
   have h1:η.toArray[i]?≈x:=hPx;have h2:η.toArray[i]?≈u:=by simpa using hu
   rw[h1]at h2;exact Yp h2
  subst exu;refine⟨Z,?_⟩;refine wpAny_letOwnedTupleGo_enum (s:={s with heap:=g,toks:=tk + 1}) ho λg' Kf sb=>?_;have elt:e<⇑s:=Yc he;have plt:p<⇑s:=let⟨o,q,_⟩:=si.obj;Yc q;have DZ:Heap.ExtBut e g g':=sb.extBut;have F7:IsPair g' ⇑s (.int i tk) x:=DZ _ _ (Yt elt) hT;have I1:Inv X π σ (upd H ⇑s (.tup [pr.1,pr.2])) {s with heap:=g',toks:=tk + 1}:=I.turnedNewL (t':=tk + 1) (η:=[e,p]) (λc o hc q=>DZ c o (λz=>hc (by simp[z])) (hk c o (λz=>hc (by simp[z])) (λz=>hc (by simp[z])) q)) hf (Yd _)
   ⟨J,[.int i tk,x],.cons (by rw[e1];exact⟨tk,Y⟩) (.cons ru .nil),⟨_,F7,Y,Z⟩⟩
  refine⟨.ref ⇑s,_,I1,Y,⟨⇑s,pr,hp,I.hok.fresh (Yd _),Y,Y⟩,⟨⟨x,by simpa using Kf⟩,hst.1.at λo q=>DZ _ o (Ae ep) q⟩,λc hc=>?_⟩;have Bo:c=e\/c=p:=by simpa using hc
  have ne:c≠⇑s:=by
   rcases Bo with rfl | rfl
   ·exact Yl elt
   ·exact Yl plt
  rw[AE ne];exact(hf c hc).1
 done:=by
  intro X hP hw hK hc i π s σ H E I hf st hg;subst hP hw hK;obtain⟨hi,ha⟩:=hg;obtain⟨⟨old,he⟩,si⟩:=st;obtain⟨η,rv,sq⟩:=I.sseq ha;have hl:=↑rv;rw[QA]at hi;cases b with
  | true =>
   have si:s.heap.IsListIter p a i:=si;have sq:s.heap.IsList a η.toArray:=sq;refine gU (I.ok.hd hc) he (λQ E hE=>wpAny_nextOf_list_end (I.ok.hd hc) si sq (by simp;omega) hE) λg eb=>⟨Y,I.turnedL (t':=s.toks) (η:=[e,p]) (λc o hc q=>eb c o (λz=>hc (by simp[z])) q) hf⟩
  | false =>
   have si:s.heap.IsTupleIter p a i:=si;have sq:s.heap.IsTuple a η.toArray:=sq;refine gU (I.ok.hd hc) he (λQ E hE=>QJ (I.ok.hd hc) si sq (by simp;omega) hE) λg eb=>⟨Y,I.turnedL (t':=s.toks) (η:=[e,p]) (λc o hc q=>eb c o (λz=>hc (by simp[z])) q) hf⟩
 self:=λA i s Q E st h=>let⟨⟨_,he⟩,_⟩:=st;wpAny_pyIter_enum he h
section
variable {X:Cx}
def xh(K:Fg)(ta:TA):TI:=λσ H R=>ta σ H λvs H1=>∃(b:Bool) (a:χ) (xs:LV),vs=[.ref a]/\C8 K b H1 a xs/\R (Fu (GY xs) λH=>C8 K b H a xs) H1
def gs{elts:ε}{x1}{C_:Pos}{a:Expr}{ta:TA}{p pos:Pos}(hg:Gl X "enumerate")(hm:X.mg "enumerate"=none)(ha:PA X [a] ta)(hs:starEach [a] X.env=[(false,eval a X.env)]:=by rfl):
  PI X (.Tuple elts x1 C_) (.Call (.Name "enumerate" p) [a] [] pos) (xh X.K ta):=by
 intro π s σ H R I h;refine Call_ (Fj I hg hm boot_enumerate (IH (AH (ha pos π s σ H _ I h) λus s1 ⟨vs,H1,I1,r1,q1⟩=>?_) hs rfl));obtain⟨b,l,xs,e,t1,q⟩:=q1;subst e;cases r1 with
 | cons r rr =>
  cases rr;obtain rfl:_=Value.ref l:=r;obtain⟨η,rv,sq⟩:=I1.sseq t1;have F3:l<⇑s1:=by
   cases b with
   | true=>obtain⟨_,e,_⟩:=(show s1.heap.IsList l η.toArray from sq);exact Yc e
   | false=>obtain⟨_,e,_⟩:=(show s1.heap.IsTuple l η.toArray from sq);exact Yc e
  refine t8 b sq λg he si hk=>wpAny_pyIter_enum (s:={s1 with heap:=g}) he ?_;refine⟨_,[⇑s1 + 1,⇑s1],_,_,H1,Y,I1.kept (t':=s1.toks) λb o e=>hk b o e,u7 b l _ _ (Nat.succ_ne_self _) (Yt (Nat.lt_succ_of_lt F3)) (Yl F3),⟨⟨_,he⟩,si⟩,λc hc=>?_,q⟩;have Bo:c=⇑s1 + 1\/c=⇑s1:=by simpa using hc
  have ge:⇑s1<=c:=by
   rcases Bo with rfl | rfl
   ·exact EY _ _
   ·exact Yd _
  exact I1.fpOk ge (I1.hok.fresh ge)
end
end L2
namespace L2
open PySem PySem.Spec PyProof.Rows PySem.W
def LM{A:Around}{k:Nat}(hr:AX k A):A.units + 65<cLine:=by have:=hr.un;omega
def My{κ:Type}[DecidableEq κ]{ν:List (κ×V)}{k:κ}(h:k∉ν.map (·.1)):A0 ν k=none:=by
 cases e:A0 ν k with
 | none=>rfl
 | some v=>exact absurd (hW e) h
def vi{κ:Type}[DecidableEq κ]{ν:List (κ×V)}{k:κ}{v:V}(h:k∉ν.map (·.1)):(BD ν k v).map (·.1)=ν.map (·.1)++[k]:=by
 rw[Mu v (My h),Yy];rfl
def uG{α:Type}{l:List α}(nd:l.Nodup){i:Nat}{x:α}(h:l[i]?≈x):x∉l.take i:=by
 intro m;have hi:=(Yf.mp h).1;have e:=(Yf.mp h).2;have sp:l=l.take i++l.drop i:=(List.take_append_drop i l).symm;rw[sp]at nd;have q:=(List.nodup_append.mp nd).2.2 x m;refine q x ?_ rfl;rw[List.drop_eq_getElem_cons hi,e];exact Di
def jL{ps:List (V×V)}{Ok:Hp->Prop}{g:TG}{tb:TS}{D:F9}{σ:St}{H:Hp}(Pv:NW)(h0:Pv 0 σ H)(hl:∀ i σ H,i<=↑ps->Pv i σ H->Ok H)
  (hs:∀ i p t σ H,ps[i]?≈p->Pv i σ H->H t=none->g (.ref t) σ (upd H t (.tup [p.1,p.2])) λσ2 H2=>tb {D with nx:=Pv (i + 1),ct:=Pv (i + 1),bk:=D.nx} σ2 H2) (hd:∀ σ H,Pv ↑ps σ H->D.nx σ H):
  ∃ W:Nat->Nat->St->Hp->Prop,(∃ m,W 0 m σ H)/\∀ i m σ H,W i m σ H ->
   ((Fu ps Ok).stop i H/\D.nx σ H)\/((Fu ps Ok).go i H/\∃ N:SW,(∀ σ' H',N σ' H'->∃ m',m'<m/\W (i + 1) m' σ' H')/\∀ x H',(Fu ps Ok).yld i H x H'->g x σ H' λσ2 H2=>tb {D with nx:=N,ct:=N,bk:=D.nx} σ2 H2):=by
 refine⟨λi m σ H=>m=↑ps - i/\i<=↑ps/\Pv i σ H,⟨↑ps,by simp,Bm _,h0⟩,?_⟩;rintro i m σ H ⟨rfl,hi,p⟩;have q:=hl i σ H hi p;by_cases A_:i<↑ps
 ·refine .inr ⟨⟨A_,q⟩,Pv (i + 1),λσ' H' p'=>⟨↑ps - (i + 1),O,Y,A_,p'⟩,λx H' y=>?_⟩;obtain⟨t,pr,hp,ht,rfl,rfl⟩:=y;exact hs i pr t σ H hp p ht
 ·have e:i=↑ps:=by omega
  subst e;exact .inl ⟨⟨Yd _,q⟩,hd σ H p⟩
abbrev g2(K:Fg)(i j:Nat):TG:=oE K 2 (bJ (EI i) (bJ (EI j) oC))
def xg{K:Fg}{i j:Nat}{t:χ}{x y:V}{σ:St}{H:Hp}{R:SW}(h:AJ K H t [x,y])(q:R ((σ.set i (↥x)).set j (↥y)) H):g2 K i j (.ref t) σ H R :=
 ⟨t,[x,y],Y,h,Y,x,[y],Y,y,[],Y,Y,q⟩
def V3{K:Fg}{i j:Nat}{t:χ}{x y:V}{σ:St}{H:Hp}{R:SW}(q:R ((σ.set i (↥x)).set j (↥y)) (upd H t (.tup [x,y]))):g2 K i j (.ref t) σ (upd H t (.tup [x,y])) R :=
 xg (AJ.of uS) q
def V_{X:Cx}{K:Fg}{i j:Nat}{x y:Str}{p q pos:Pos}{c:Nat}(hK:X.K=K)(hc:X.calm=true)(hN:X.N.Nodup)(hi:X.N[i]?≈x)(hj:X.N[j]?≈y)(hx:Loc X.env.scope x)(hy:Loc X.env.scope y)
  (fx:X.fn x=true\/X.env.scope.names.lookup x≈.local) (fy:X.fn y=true\/X.env.scope.names.lookup y≈.local):PG X (.Tuple [.Name x p,.Name y q] c pos) (g2 K i j):=by
 subst hK;exact Hw hc (gC (Bl (i:=i) hN hi hx fx) (gC (Bl (i:=j) hN hj hy fy) H_))
def AO{H:Hp}{t:χ}{o:HO}(h:H t=none):AA H (upd H t o):=λb u e=>by rw[AE (AS e h)];exact e
def Wy{α:Type}(p:α->Bool):∀(xs:List α) (i:Nat) (x:α),xs[i]?≈x->(xs.take (i + 1)).filter p=(xs.take i).filter p++if p x=true then[x]else[]:=by
 intro xs i x h;rw[Bz,h,List.filter_append]
 congr 1
 cases e:p x <;> simp[List.filter,e]
def jI{K:Fg}{ps:List (V×V)}{Ok:Hp->Prop}{js:LN}{tt:TT}{te:TE}{σ:St}{Q:VK}{H1:Hp}(hz:↑ps<=sizeLine)(p:V×V->Bool)(F:χ->V×V->V->Hp->Prop)
  (hF:∀ D x v H H',(∀ b o,b≠D->H b≈o->H' b≈o)->F D x v H->F D x v H')
  (hok:∀ H,AA H1 H->Ok H)
  (ht:∀ x H (R:Bool->Hp->Prop),AA H1 H->x∈ps->(∀ H',AA H H'->R (p x) H')->tt (↥x.1 :: some x.2 :: js.map λj=>(σ[j]?).join) H R)
  (he:∀ D x H (R:V->Hp->Prop),AA H1 H->(∃ ys,H D≈(.lst ys))->H1 D=none->x∈ps->p x=true->(∀ v H',AA H H'->F D x v H'->R v H')->te (↥x.1 :: some x.2 :: js.map λj=>(σ[j]?).join) H R)
  (hd:∀ D H' ys,H1 D=none->AA H1 H'->H' D≈(.lst ys)->Paired (λx v=>F D x v H') (ps.filter p) ys->Q (.ref D) H'):
  AU 2 js (g2 K 0 1) tt te σ Q (Fu ps Ok) H1:=by
 intro D hD;refine⟨λi m ys σ' H=>m=↑ps - i/\i<=↑ps/\AA H1 H/\H D≈(.lst ys)/\Paired (λx v=>F D x v H) ((ps.take i).filter p) ys/\∃ o u,σ'=o :: u :: js.map λj=>(σ[j]?).join,
  ⟨↑ps,by simp,Bm _,AO hD,uS,by simpa using Paired.nil,none,none,Y⟩,?_⟩
 rintro i m ys σ' H ⟨rfl,hi,hs,hl,hp,o,u,rfl⟩;have mono:∀ {H H':Hp},(∀ b o,b≠D->H b≈o->H' b≈o)->Paired (λx v=>F D x v H) ((ps.take i).filter p) ys->Paired (λx v=>F D x v H') ((ps.take i).filter p) ys:=λh q=>Paired.mapP q λa b z=>hF D a b _ _ h z;by_cases A_:i<↑ps
 ·have yl:↑ys<sizeLine:=by
   rw[<- ↑hp];refine NP (JP _ _) ?_;rw[Yv];omega
  refine .inr ⟨⟨A_,hok H hs⟩,yl,λF0 σ3 H3=>AA H1 H3/\H3 D≈(.lst F0)/\Paired (λx v=>F D x v H3) ((ps.take (i + 1)).filter p) F0/\∃ o u,σ3=o :: u :: js.map λj=>(σ[j]?).join,
   λF0 σ3 H3 z=>⟨↑ps - (i + 1),O,Y,A_,z⟩,λx H2 y=>?_⟩
  obtain⟨t,x,hx,FV,rfl,rfl⟩:=y;refine V3 ?_;show tt (↥x.1 :: some x.2 :: js.map λj=>(σ[j]?).join) (upd H t (.tup [x.1,x.2])) _;have hm:x∈ps:=Yi hx;have st:AA H (upd H t (.tup [x.1,x.2])):=AO FV;refine ht x _ _ (hs.trans st) hm λH4 s4=>?_;have DH:AA H H4:=st.trans s4;have F4:AA H1 H4:=hs.trans DH;cases hpx:p x with
  | true =>
   rw[if_pos rfl];refine he D x H4 _ F4 ⟨_,DH _ _ hl⟩ hD hm hpx λv H5 s5 f5=>⟨s5 _ _ (DH _ _ hl),λb o e=>?_,uS,?_,_,Z⟩
   ·rw[AE (AS e hD)];exact s5 _ _ (F4 _ _ e)
   ·rw[Wy p ps i x hx,hpx,if_pos rfl];refine IJ (mono (λb o hb e=>by rw[AE hb];exact s5 _ _ (DH _ _ e)) hp) (hF D _ _ _ _ (λb o hb e=>by rw[AE hb];exact e) f5)
  | false =>
   rw[if_neg Yh];refine⟨F4,DH _ _ hl,?_,_,Z⟩;rw[Wy p ps i x hx,hpx,if_neg Yh,EE];exact mono (λb o _ e=>DH _ _ e) hp
 ·have e:i=↑ps:=by omega
  subst e;rw[CI]at hp;exact .inl ⟨⟨Yd _,hok H hs⟩,hd D H ys hD hs hl hp⟩
theorem Z9{α:Type}{f:α->V}:∀ {xs:List α}{ys:LV},Paired (λx v=>v=f x) xs ys->ys=xs.map f
 | _,_,.nil=>rfl
 | _,_,.cons r t=>by rw[Ys,r,Z9 t]
def tV{K:Fg}{ps:List (V×V)}{Ok:Hp->Prop}{js:LN}{tt:TT}{te:TE}{σ:St}{Q:VK}{H1:Hp}(hz:↑ps<=sizeLine)(p:V×V->Bool)(f:V×V->V)
  (hok:∀ H,AA H1 H->Ok H)
  (ht:∀ x H (R:Bool->Hp->Prop),AA H1 H->x∈ps->(∀ H',AA H H'->R (p x) H')->tt (↥x.1 :: some x.2 :: js.map λj=>(σ[j]?).join) H R)
  (he:∀ x H (R:V->Hp->Prop),AA H1 H->x∈ps->p x=true->(∀ H',AA H H'->R (f x) H')->te (↥x.1 :: some x.2 :: js.map λj=>(σ[j]?).join) H R)
  (hd:∀ D H',H1 D=none->AA H1 H'->H' D≈(.lst ((ps.filter p).map f))->Q (.ref D) H'):
  AU 2 js (g2 K 0 1) tt te σ Q (Fu ps Ok) H1 :=
 jI hz p (λ_ x v _=>v=f x) (λ_ _ _ _ _ _ z=>z) hok ht (λD x H R hs _ _ hx hp k=>he x H R hs hx hp λH' s'=>k _ _ s' rfl)
  λD H' ys hD hs hl hp=>hd D H' hD hs (by rw[hl,Z9 hp])
def Mt{J:It}{xs:LV}{Ok:Hp->Prop}(R:FE J xs Ok){js:LN}{tt:TT}{te:TE}{σ:St}{Q:VK}{H1:Hp}(hz:↑xs<=sizeLine)(p:V->Bool)(f:V->V)
  (hok:∀ H,AA H1 H->Ok H)
  (ht:∀ x H (R:Bool->Hp->Prop),AA H1 H->x∈xs->(∀ H',AA H H'->R (p x) H')->tt (↥x :: js.map λj=>(σ[j]?).join) H R)
  (he:∀ x H (R:V->Hp->Prop),AA H1 H->x∈xs->p x=true->(∀ H',AA H H'->R (f x) H')->te (↥x :: js.map λj=>(σ[j]?).join) H R)
  (hd:∀ D H',H1 D=none->AA H1 H'->H' D≈(.lst ((xs.filter p).map f))->Q (.ref D) H'):
  AU 1 js (EI 0) tt te σ Q J H1 :=
 K5 R hz p (λ_ x v _=>v=f x) (λ_ _ _ _ _ _ z=>z) hok ht (λD x H R hs _ _ hx hp k=>he x H R hs hx hp λH' s'=>k _ _ s' rfl)
  λD H' ys hD hs hl hp=>hd D H' hD hs (by rw[hl,Z9 hp])
section
variable {X:Cx}
theorem ZR{d:Dat}{n:Nat}(h2:kqdOk n d=true):∀ {ds:List Dat},ds.all (kqdOk 8)=true->((kqdPs ds).any λy=>PyData.eqv y (kqdP d))=ds.any λe=>Cu e d
 | [],_=>by rw[kqdPs];rfl
 | e :: ds,h=>by
  rw[List.all_cons,EF]at h;rw[kqdPs,IG,IG,Zj h.1 h2,ZR h2 h.2]
def XI(K:Fg)(f:Bool->Bool):R2:=λx y H Q=>∃ d ds,Rep K H x d/\Rep K H y (.list ds)/\kqdOk 9 d=true/\ds.all (kqdOk 8)=true/\Q (.bl (f (ds.any λe=>Cu e d))) H
def Z5{ds:List Dat}(h:ds.all (kqdOk 8)=true):SeqAt.shaped (PyData.list (kqdPs ds))=true:=by
 have:=JH (d:=.list ds) (by rw[kqdOk];exact h);rw[kqdP]at this;exact this
def zH(hu:X.A.units + 65<cLine):BP X (compareOp .In) (XI X.K id):=by
 exfalso;obtain⟨d,ds,h1,h2,k1,k2,q⟩:=h;obtain⟨as,ra⟩:=h1.reads I rx;obtain⟨bs,rb⟩:=h2.reads I ry;rw[kqdP]at rb;exact SeqAt.in_list_reads rb ra (QV (Z5 k2)) (QV (JH k1)) (room_in_shaped (JH k1) hu) (BG I q (by rw[ZR k1 k2];rfl))
def Wb(hu:X.A.units + 65<cLine):BP X (compareOp .NotIn) (XI X.K Bool.not):=by
 exfalso;obtain⟨d,ds,h1,h2,k1,k2,q⟩:=h;obtain⟨as,ra⟩:=h1.reads I rx;obtain⟨bs,rb⟩:=h2.reads I ry;rw[kqdP]at rb;exact SeqAt.notIn_list_reads rb ra (QV (Z5 k2)) (QV (JH k1)) (room_in_shaped (JH k1) hu) (BG I q (by rw[ZR k1 k2]))
end
def An(i:Nat):V:=.int (i:Nat)
def SH(i:Nat):Dat:=.int (i:Nat)
end L2
namespace L2
open PySem PySem.Spec PyProof.Rows
section
variable {X:Cx}
end
end L2
namespace L2
open PySem PySem.W PySem.Spec PyProof.Rows
theorem iX:∀ {ds:List Dat}{m:Nat}{e:Dat},ds[m]?≈e->(kqdPs ds)[m]?≈(kqdP e)
 | [],_,_,h=>by simp at h
 | a :: r,0,e,h=>by
  rw[kqdPs];have:a=e:=by simpa using h
  rw[this];rfl
 | a :: r,m + 1,e,h=>by
  rw[kqdPs,List.getElem?_cons_succ];exact iX (by simpa using h)
theorem jO:∀ ds:List Dat,↑(kqdPs ds)=↑ds
 | []=>by rw[kqdPs];rfl
 | a :: r=>by rw[kqdPs,Bt,Bt,jO r]
section
variable {X:Cx}
def gu(K:Fg):V->LV->Hp->VK->Prop:=λx vs H Q=>∃ y d ds j e,vs=[y]/\Rep K H x (.list ds)/\Rep K H y d/\ds.all (kqdOk 8)=true/\kqdOk 9 d=true/\↑ds<=100000/\ds[j]?≈e/\Cu e d=true/\(∀ m e,m<j->ds[m]?≈e->Cu e d=false)/\Q (.int (j:Nat)) H
def uC(hu:X.A.units + 65<cLine):Qg X "list.index" (gu X.K):=by
 intro π s σ H x vs v us Q I rx rv h;obtain⟨y,d,ds,j,e,rfl,h1,h2,k1,k2,hz,he,hd,hno,q⟩:=h;obtain⟨u,rfl,ru⟩:=rv.one;obtain⟨as,ra⟩:=h1.reads I rx;obtain⟨bs,rb⟩:=h2.reads I ru;rw[kqdP]at ra;have eU:=QV (Z5 k1);have hdl:=QV (JH k2);cases ra with
 | @list l ob η n _ _ a1 a2 a3 a4 =>
  obtain⟨cls,dd,data,sl⟩:=ob;simp only at a2 a3;subst a2 a3;have hm:=SeqAt.readsAll_map _ _ _ eU a4;have hml:η.size=↑ds:=by
   have:=congrArg List.length hm;rw[Ya,jO]at this;simpa using this
  have c_:∀ m (e:Dat),ds[m]?≈e->kqdOk 8 e=true:=λm e h=>Cd.mp k1 e (Yi h);have val:∀ m (e:Dat) (Ve:m<η.size),ds[m]?≈e->PyData.eqv (SeqAt.readOf s.heap η[m]) (kqdP d)=Cu e d:=λm e Ve h=>by
   have e1:=iX h;rw[<- hm,Yj]at e1;have e2:η.toList[m]?≈η[m]:=by simp[Ve]
   rw[e2]at e1;have e1:SeqAt.readOf s.heap η[m]=kqdP e:=Yp e1;rw[e1];exact Zj (c_ m e h) k2
  have hj:j<η.size:=by have:=(Yf.mp he).1;omega
  refine call_meets PySem.F.slot_list_index ⟨_,a1,Y⟩ PySem.F.entry_list_index (PySem.F.args_list_index_2 _ _)
   (SeqAt.list_indexAt l η n dd sl u (λy=>PyData.eqv (SeqAt.readOf s.heap y) (kqdP d)) j hj (by omega) ?_ ?_) ⟨a1,SeqAt.items_eqAt a4 rb eU hdl (room_in_shaped (JH k2) hu),?_⟩
  ·show PyData.eqv (SeqAt.readOf s.heap η[j]) (kqdP d)=true;rw[val j e hj he];exact hd
  ·intro m Ve A_;show PyData.eqv (SeqAt.readOf s.heap η[m]) (kqdP d)=false;have h0:ds[m]?≈(ds[m]'(by omega)):=Yg (by omega);rw[val m _ Ve h0];exact hno m _ A_ h0
  ·exact⟨.int j,H,I.tok _,⟨Z⟩,q⟩
end
end L2
namespace L2
open PySem PySem.Spec PyProof.Rows
def BC(h:Heap)(d:χ)(es:Array DictEntry)(ep:Nat):Prop:=∃ o,h.get? d≈o/\o.ExactDict/\o.data=.dict es ep
def BC.ty{s:Γ}{d:χ}{es:Array DictEntry}{ep:Nat}(x:BC s.heap d es ep):s.TypeIs (.ref d) "dict":=let⟨o,e,c,_⟩:=x;⟨o,e,c.1⟩
def BC.at{h h':Heap}{d:χ}{es:Array DictEntry}{ep:Nat}(x:BC h d es ep)(k:∀ o,h.get? d≈o->h'.get? d≈o):BC h' d es ep:=let⟨o,e,r⟩:=x;⟨o,k o e,r⟩
section
variable {prog:Δ}{w:World}{A:Around}{E:EV}{s:Γ}{d it:χ}{es:Array DictEntry}{ep i:Nat}
def iU{Q:EV}(hs:(d == sysModules)=false)(x:BC s.heap d es ep)
  (q:Q (.ref ⇑s) {s with heap:=s.heap.push {cls:=.type "dict_keyiterator",data:=.fields #[.ref d,.int 0 0,.int es.size 0,.int ep 0] } }):wpAny (model prog w) A (pyIter (.ref d)) Q E s:=by
 obtain⟨o,e,c,da⟩:=id x;have T:=x.ty;refine wpAny_pyIter_slot T F.slot_dict_iter (wpAny_call_entry F.slot_dict_iter T F.entry_dict_iter ?_ (F.args_dict_iter_1 _));unfold Builtin.«dict.__iter__»;refine Ja ?_;unfold Builtin.Dict.dictSlotNone;refine Ja (wpAny_notOrdered_dict T ?_);show wpAny _ _ (pure (Value.ref d)) _ _ s;refine Jd ?_;show wpAny _ _ (Builtin.Dict.showsAll d>>=_) _ _ s;unfold Builtin.Dict.showsAll;rw[if_neg (by rw[hs];simp)];refine Ja (Jd (Ja (wpAny_dictEntries e da (Ja (wpAny_dictEpoch e da ?_)))));refine Ja (wpAny_newObj_type (Jd ⟨Z,"dict_keyiterator",_,⟨_,Ye _ rfl,Y⟩,SX.lookup,?_⟩));simpa[rawInt]using q
def kY{Q:OU->Γ->Prop}{en:DictEntry}(hit:s.heap.IsKeyIter it d i es.size ep)(x:BC s.heap d es ep)(hx:es[i]?≈en)
  (q:∀ g,g.IsKeyIter it d (i + 1) es.size ep->Heap.SameBut it s.heap g->Q (↥en.key) {s with heap:=g}):wpAny (model prog w) A (pyNext (.ref it)) Q E s:=by
 obtain⟨oi,ei,ci,di⟩:=id hit;obtain⟨o,e,c,da⟩:=id x;have T:=hit.typeIs;obtain⟨hl,hen⟩:=SN.mp hx;have own:Builtin.Dict_items.ownsTuple "dict_keyiterator"=false:=by decide
 unfold pyNext;refine Ja (wpAny_attempt (wpAny_callSpecial?_slot (name:=Str.ofString "__next__") T SX (wpAny_call_entry SX T F.entry_dict_keyiterator_next ?_ (F.args_dict_keyiterator_next_1 _))));refine Ja (Jd (Ja (Ja ?_)));first | refine Ja (wpAny_typeNameOfWhole_keyiter T (Jd ?_)) | refine Ja (wpAny_typeNameOf_keyiter T (Jd ?_))
 refine Ja (wpAny_fieldsOf ei di ?_);simp only[own,Co,if_false];show wpAny _ _ (if(Value.ref d == Value.none)=true then _ else _) _ _ s;rw[if_neg (show ¬ ((Value.ref d == Value.none)=true)from by intro z;cases z)];refine Ja (Jd (Ja (wpAny_dictEntries e da ?_)));rw[if_neg (by simp)];refine Ja (Jd (Ja (wpAny_dictEpoch e da ?_)));rw[if_neg (by simp)];refine Jd ?_;simp only[show ¬ ((i:Int)<0)from by omega,if_false,B0,hx];refine Ja ?_;first | refine Ja (wpAny_typeNameOfWhole_keyiter T (Jd ?_)) | refine Ja (wpAny_typeNameOf_keyiter T (Jd ?_))
 refine Ja (wpAny_isOneOf_keyiter T ?_);show wpAny _ _ (setField (.ref it) 1 (rawInt ((i:Int) + 1))>>=_) _ _ s;refine Ja (wpAny_setField ei di (by simp) ?_);have S9:(s.heap.update it (Obj.mapFields (·.setIfInBounds 1 (rawInt ((i:Int) + 1))))).IsKeyIter it d (i + 1) es.size ep:=⟨_,ED _ ei (NL (II di _)),(Obj.cls_mapFields ..).trans ci,by rw[II di];simp[rawInt]⟩;refine Ja (Jj (Ja (wpAny_isOneOf_keyiter (s:={s with heap:=s.heap.update it (Obj.mapFields (·.setIfInBounds 1 (rawInt ((i:Int) + 1)))) }) S9.typeIs ?_)));show wpAny _ _ (pure en.key) _ _ _;exact Jd (Jd ⟨Z,Jd (q _ S9 (Lg ..))⟩)
def kX{Q:OU->Γ->Prop}(hh:A.handled=none)(hit:s.heap.IsKeyIter it d i es.size ep)(x:BC s.heap d es ep)(hx:es.size<=i)
  (q:∀ g,Heap.ExtBut it s.heap g->Q none {s with heap:=g}):wpAny (model prog w) A (pyNext (.ref it)) Q E s:=by
 obtain⟨oi,ei,ci,di⟩:=id hit;obtain⟨o,e,c,da⟩:=id x;have T:=hit.typeIs;have own:Builtin.Dict_items.ownsTuple "dict_keyiterator"=false:=by decide
 unfold pyNext;refine Ja (wpAny_attempt (wpAny_callSpecial?_slot (name:=Str.ofString "__next__") T SX (wpAny_call_entry SX T F.entry_dict_keyiterator_next ?_ (F.args_dict_keyiterator_next_1 _))));refine Ja (Jd (Ja (Ja ?_)));first | refine Ja (wpAny_typeNameOfWhole_keyiter T (Jd ?_)) | refine Ja (wpAny_typeNameOf_keyiter T (Jd ?_))
 refine Ja (wpAny_fieldsOf ei di ?_);simp only[own,Co,if_false];show wpAny _ _ (if(Value.ref d == Value.none)=true then _ else _) _ _ s;rw[if_neg (show ¬ ((Value.ref d == Value.none)=true)from by intro z;cases z)];refine Ja (Jd (Ja (wpAny_dictEntries e da ?_)));rw[if_neg (by simp)];refine Ja (Jd (Ja (wpAny_dictEpoch e da ?_)));rw[if_neg (by simp)];refine Jd ?_;simp only[show ¬ ((i:Int)<0)from by omega,if_false,B0,LW hx];refine Ja ?_;first | refine Ja (wpAny_typeNameOfWhole_keyiter T (Jd ?_)) | refine Ja (wpAny_typeNameOf_keyiter T (Jd ?_))
 show wpAny _ _ (setField (.ref it) 0 .none>>=_) _ _ s;refine Ja (wpAny_setField ei di (by simp) ?_);show wpAny _ _ (newExc (.type "StopIteration") []>>=_) _ _ _;refine Ja ?_;simp only[newExc,newTuple];refine Ja (wpAny_newObj_type (Ja (m:=firstArgMember _ _) (wpAny_of_eq (a:=Value.none) (by first | rfl | (simp only[firstArgMember];rfl)) (wpAny_newObj_type ?_ (by size_fits)))) (by size_fits));simp only[raiseNew];refine Ja (wpAny_handled ?_);rw[show A.in1.handled=none from hh];refine Ja (Jd (wpAny_throw ?_));refine Ja (wpAny_isInstance (T:="StopIteration") (b:=true) ⟨_,Ye _ rfl,Y⟩ isSubtype_stop ?_);exact Jd (q _ (((Lg ..).extBut.push _).push _))
def ku(hs:(d == sysModules)=false):MeetsIn prog w (Builtin.«dict.items» ⟨[.ref d],[]⟩) (λ_ R s=>s.TypeIs (.ref d) "dict" /\
   R (.ok (.ret (.ref ⇑s))) {s with heap:=s.heap.push {cls:=.type "dict_items",data:=.fields #[.ref d] } }):=
 .of_wp λA R s ⟨T,h⟩=>by
  unfold Builtin.«dict.items»;refine Ja ?_;unfold Builtin.Dict.noArgs;refine Ja (wpAny_notOrdered_dict T ?_);show wpAny _ _ (pure d) _ _ s;refine Jd ?_;show wpAny _ _ (Builtin.Dict.showsAll d>>=_) _ _ s;unfold Builtin.Dict.showsAll;rw[if_neg (by rw[hs];simp)];exact Ja (Jd (Ja (wpAny_newObj_type (Jd ⟨Z,h⟩))))
def ke{v:χ}{Q:EV}(hv:s.heap.IsItemsView v d)(x:BC s.heap d es ep)
  (q:Q (.ref ⇑s) {s with heap:=s.heap.push {cls:=.type "dict_itemiterator",data:=.fields #[.none,.bool false,.ref d,.int 0 0,.int es.size 0,.int ep 0,.none,.none] } }):
  wpAny (model prog w) A (pyIter (.ref v)) Q E s:=by
 obtain⟨ov,e1,c1,d1⟩:=id hv;obtain⟨o,e,c,da⟩:=id x;have T:=hv.typeIs;have own:Builtin.Dict_items.ownsTuple "dict_itemiterator"=true:=by decide
 refine wpAny_pyIter_slot T F.slot_dict_items_iter (wpAny_call_entry F.slot_dict_items_iter T F.entry_dict_items_iter ?_ (F.args_dict_items_iter_1 _));unfold Builtin.«dict_items.__iter__»;refine Ja (Jd (Ja ?_));unfold Builtin.Dict_items.dictOf;refine Ja (Jg e1 d1 (x:=.ref d) rfl (Jd (Ja ?_)));unfold Builtin.Dict_items.newIterator;refine Ja (wpAny_dictEntries e da (Ja (wpAny_dictEpoch e da ?_)));simp only[own,if_true];refine wpAny_newObj_type (Jd ⟨Z,"dict_itemiterator",_,⟨_,Ye _ rfl,Y⟩,JR.lookup,?_⟩) (by simp only[sizeOk,Builtin.Dict_items.ownedTupleFields,Yk,Yu,Bt,List.length_nil,sizeLine_eq];omega);simpa[rawInt,Builtin.Dict_items.ownedTupleFields]using q
def km{ok ov:ω}{Q:OU->Γ->Prop}{en:DictEntry}(hit:IsItemIter s.heap it d i es.size ep ok ov)(x:BC s.heap d es ep)(hx:es[i]?≈en)
  (q:∀ g,IsItemIterOut g it d (i + 1) es.size ep en.key en.val ⇑s->g.get? ⇑s=some {cls:=.type "tuple",data:=.seq #[en.key,en.val] } ->
   (∀ b o,b≠it->s.heap.get? b≈o->g.get? b≈o)->Q (↥(.ref ⇑s)) {s with heap:=g}):wpAny (model prog w) A (pyNext (.ref it)) Q E s:=by
 obtain⟨hp,g,dr,tk,os⟩:=s;obtain⟨o,e,c,da⟩:=id x;have T:Shared.TypeIs ⟨hp,g,dr,tk,os⟩ (.ref it) "dict_itemiterator":=⟨_,hit,Y⟩;have own:Builtin.Dict_items.ownsTuple "dict_itemiterator"=true:=by decide
 unfold pyNext;refine Ja (wpAny_attempt (wpAny_callSpecial?_slot (name:=Str.ofString "__next__") T JR (wpAny_call_entry JR T Xk ?_ (Xn _))));refine Ja (Jd (Ja (Ja ?_)));first | refine Ja (wpAny_typeNameOfWhole_itemiter T (Jd ?_)) | refine Ja (wpAny_typeNameOf_itemiter T (Jd ?_))
 refine Ja (wpAny_fieldsOf hit rfl ?_);simp only[own,if_true];show wpAny _ _ (if(Value.ref d == Value.none)=true then _ else _) _ _ _;rw[if_neg (show ¬ ((Value.ref d == Value.none)=true)from by intro z;cases z)];refine Ja (Jd (Ja (wpAny_dictEntries e da ?_)));rw[if_neg (by simp)];refine Ja (Jd (Ja (wpAny_dictEpoch e da ?_)));rw[if_neg (by simp)];refine Jd ?_;simp only[show ¬ ((i:Int)<0)from by omega,if_false,B0,hx];refine Ja ?_;first | refine Ja (wpAny_typeNameOfWhole_itemiter T (Jd ?_)) | refine Ja (wpAny_typeNameOf_itemiter T (Jd ?_))
 refine Ja (wpAny_isOneOf_itemiter T ?_);show wpAny _ _ (setField (.ref it) 3 (rawInt ((i:Int) + 1))>>=_) _ _ ⟨hp,g,dr,tk,os⟩;refine Ja (wpAny_setField_rec hit (by simp) λg1 z1 e1=>?_);replace e1:Heap.SameBut it hp g1:=e1;replace z1:IsItemIter g1 it d (i + 1) es.size ep ok ov:=by
  have q1:((i + 1:Nat):Int)=(i:Int) + 1:=by omega
  unfold IsItemIter;rw[q1];simpa[rawInt]using z1
 have T1:Shared.TypeIs ⟨g1,g,dr,tk,os⟩ (.ref it) "dict_itemiterator":=⟨_,z1,Y⟩;refine Ja (Jj (Ja (wpAny_isOneOf_itemiter T1 (Ja (wpAny_isOneOf_itemiter T1 ?_)))));show wpAny _ _ (Builtin.Dict_items.pairFromOwner (.ref it) 6 en.key en.val) _ _ ⟨g1,g,dr,tk,os⟩;unfold Builtin.Dict_items.pairFromOwner;refine Ja (wpAny_newTuple ?_);have z2:IsItemIter (g1.push {cls:=.type "tuple",data:=.seq #[en.key,en.val] }) it d (i + 1) es.size ep ok ov:=Yb _ z1;generalize MT:g1.push {cls:=.type "tuple",data:=.seq #[en.key,en.val] }=g2 at z2;have n1:g1.objs.size=hp.objs.size:=e1.1;have il:it<hp.objs.size:=Yc hit;have t2:g2.get? hp.objs.size=some {cls:=.type "tuple",data:=.seq #[en.key,en.val] }:=by rw[<- MT,<- n1];exact Ye _ rfl
 have k2:∀ b o,b≠it->hp.get? b≈o->g2.get? b≈o:=λb o hb e=>by rw[<- MT];exact Yb _ (e1.extBut b o hb e)
 show wpAny _ _ (Builtin.Dict_items.ownedTupleIsFree (.ref it)>>=_) _ _ ⟨g2,g,dr,tk,os⟩;rw[n1];clear MT z1 e1 T1 n1 g1;refine Ja ?_;unfold Builtin.Dict_items.ownedTupleIsFree;refine Ja (Jg z2 rfl (x:=.none) rfl (Jd ?_));simp only[if_true];refine Ja (Jg z2 rfl (x:=ok) rfl (Ja (Jg z2 rfl (x:=ov) rfl (Ja (wpAny_setField_rec z2 (by simp) λg3 z3 e3=>?_)))));replace e3:Heap.SameBut it g2 g3:=e3;replace z3:IsItemIter g3 it d (i + 1) es.size ep en.key ov:=z3;refine Ja (wpAny_setField_rec z3 (by simp) λg4 z4 e4=>?_);replace e4:Heap.SameBut it g3 g4:=e4;replace z4:IsItemIter g4 it d (i + 1) es.size ep en.key en.val:=z4;refine Ja (wpAny_setField_rec z4 (by simp) λg5 z5 e5=>?_);replace e5:Heap.SameBut it g4 g5:=e5;replace z5:IsItemIterOut g5 it d (i + 1) es.size ep en.key en.val hp.objs.size:=z5;refine Ja (wpAny_setField_rec z5 (by simp) λg6 z6 e6=>?_);replace e6:Heap.SameBut it g5 g6:=e6;replace z6:IsItemIterOut g6 it d (i + 1) es.size ep en.key en.val hp.objs.size:=z6;have up:∀ b o,b≠it->g2.get? b≈o->g6.get? b≈o:=λb o hb e=>e6.extBut b o hb (e5.extBut b o hb (e4.extBut b o hb (e3.extBut b o hb e)));exact Ja (wpAny_letGo (Jd (Jd ⟨Z,Jd (q g6 z6 (up _ _ (Yt il) t2) λb o hb e=>up b o hb (k2 b o hb e))⟩)))
def kh{ok ov:ω}{Q:OU->Γ->Prop}(hh:A.handled=none)(hit:IsItemIter s.heap it d i es.size ep ok ov)(x:BC s.heap d es ep)(hx:es.size<=i)
  (q:∀ g,Heap.ExtBut it s.heap g->Q none {s with heap:=g}):wpAny (model prog w) A (pyNext (.ref it)) Q E s:=by
 obtain⟨o,e,c,da⟩:=id x;have T:s.TypeIs (.ref it) "dict_itemiterator":=⟨_,hit,Y⟩;have own:Builtin.Dict_items.ownsTuple "dict_itemiterator"=true:=by decide
 unfold pyNext;refine Ja (wpAny_attempt (wpAny_callSpecial?_slot (name:=Str.ofString "__next__") T JR (wpAny_call_entry JR T Xk ?_ (Xn _))));refine Ja (Jd (Ja (Ja ?_)));first | refine Ja (wpAny_typeNameOfWhole_itemiter T (Jd ?_)) | refine Ja (wpAny_typeNameOf_itemiter T (Jd ?_))
 refine Ja (wpAny_fieldsOf hit rfl ?_);simp only[own,if_true];show wpAny _ _ (if(Value.ref d == Value.none)=true then _ else _) _ _ s;rw[if_neg (show ¬ ((Value.ref d == Value.none)=true)from by intro z;cases z)];refine Ja (Jd (Ja (wpAny_dictEntries e da ?_)));rw[if_neg (by simp)];refine Ja (Jd (Ja (wpAny_dictEpoch e da ?_)));rw[if_neg (by simp)];refine Jd ?_;simp only[show ¬ ((i:Int)<0)from by omega,if_false,B0,LW hx];refine Ja ?_;first | refine Ja (wpAny_typeNameOfWhole_itemiter T (Jd ?_)) | refine Ja (wpAny_typeNameOf_itemiter T (Jd ?_))
 show wpAny _ _ (setField (.ref it) 2 .none>>=_) _ _ s;refine Ja (wpAny_setField hit rfl (by simp) ?_);show wpAny _ _ (newExc (.type "StopIteration") []>>=_) _ _ _;refine Ja ?_;simp only[newExc,newTuple];refine Ja (wpAny_newObj_type (Ja (m:=firstArgMember _ _) (wpAny_of_eq (a:=Value.none) (by first | rfl | (simp only[firstArgMember];rfl)) (wpAny_newObj_type ?_ (by size_fits)))) (by size_fits));simp only[raiseNew];refine Ja (wpAny_handled ?_);rw[show A.in1.handled=none from hh];refine Ja (Jd (wpAny_throw ?_));refine Ja (wpAny_isInstance (T:="StopIteration") (b:=true) ⟨_,Ye _ rfl,Y⟩ isSubtype_stop ?_);exact Jd (q _ (((Lg ..).extBut.push _).push _))
end
section
variable {X:Cx}{π:PL}{σ:St}{H H':Hp}{s:Γ}{a:χ}{ν:List (List Key×V)}{o:Obj}
def Inv.freezeT(I:Inv X π σ H s)(h:H a≈(.dT ν))(ho:s.heap.get? a≈o):Inv X π σ (upd H a (.frz o (.dT ν))) s:=by
 have nf:∀ o' v,X.H₀ a≠some (.frz o' v):=λo' v e=>by
  have q:=I.base.frzs a o' v e;rw[h]at q;cases q
 refine I.reAt h (λ_ z=>nomatch z) (λ_ z=>nomatch z) (λ_ z=>nomatch z) nf λk=>⟨ho,k.stay (λ_ _ _ q=>q) (λc q=>?_) λc xs q=>?_⟩
 ·rw[AE]
  ·exact q
  ·rintro rfl;rw[h]at q;cases q
 ·rw[AE]
  ·exact q
  ·rintro rfl;rw[h]at q;cases q
theorem Paired.get{α β:Type}{F:α->β->Prop}:∀ {l:List α}{m:List β},Paired F l m->∀ {i:Nat}{x:α},l[i]?≈x->∃ y,m[i]?≈y/\F x y
 | _,_,.nil,i,x,h=>by simp at h
 | _,_,.cons r t,0,x,h=>by
  simp at h;subst h;exact⟨_,by simp,r⟩
 | _,_,.cons r t,i + 1,x,h=>by
  obtain⟨y,h1,h2⟩:=Paired.get t (i:=i) (x:=x) (by simpa using h);exact⟨y,by simpa using h1,h2⟩
def Rv{P:Δ}{w:World}{h:Heap}(ok:A1 P w H h a (.frz o (.dT ν))):∃ es ep,o.data=.dict es ep:=by
 obtain⟨ho,z,hs,xs,r,o',Ij,Il,h1,h2,h3,_⟩:=ok;rw[ho]at h1;cases h1;exact⟨Ij,Il,h3⟩
def JF{P:Δ}{w:World}{h:Heap}{es:Array DictEntry}{ep:Nat}(ok:A1 P w H h a (.frz o (.dT ν)))(hd:o.data=.dict es ep):
  (a == sysModules)=false/\BC h a es ep/\es.size=↑ν/\∀(i:Nat) (p:List Key×V),ν[i]?≈p->∃ t u hs,es[i]?≈(⟨hs,.ref t,u⟩:DictEntry)/\H t≈(.tup (p.1.map kV))/\AW p.2 u:=by
 obtain⟨ho,z,hs,xs,r,o',Ij,Il,h1,h2,h3,h4,h5⟩:=ok;rw[ho]at h1;cases h1;rw[hd]at h3;cases h3;refine⟨hs,⟨o,ho,h2,hd⟩,?_,λi p hp=>?_⟩
 ·rw[size_of_entries h4];exact(BO r).symm
 ·obtain⟨y,hy,e1,e2,e3⟩:=Paired.get r hp;exact⟨y.2.1,y.2.2,_,by rw[entry_at h4,hy];rfl,e2,e3⟩
end
def aj(a:χ)(o:Obj)(ν:List (List Key×V)):It :=
 ⟨λi H=>i<↑ν/\H a≈(.frz o (.dT ν)),λi H v H'=>H'=H/\∃ p t,ν[i]?≈p/\v=.ref t/\H t≈(.tup (p.1.map kV)),λi H=>↑ν<=i/\H a≈(.frz o (.dT ν))⟩
def R9(a:χ)(o:Obj)(ν:List (List Key×V)):It :=
 ⟨λi H=>i<↑ν/\H a≈(.frz o (.dT ν)),λi H v H'=>∃ t b p,ν[i]?≈p/\H t=none/\H b≈(.tup (p.1.map kV))/\v=.ref t/\H'=upd H t (.tup [.ref b,p.2]),λi H=>↑ν<=i/\H a≈(.frz o (.dT ν))⟩
def vw{P:Δ}{w:World}{K:Fg}{tg:Expr}(a it:χ)(o:Obj)(ν:List (List Key×V))(es:Array DictEntry)(ep:Nat)(hd:o.data=.dict es ep):
  Dq P w K tg (aj a o ν) [it] it (λi h=>h.IsKeyIter it a i ↑ν ep) where
 mem:=by simp
 obj:=λi h st b hb=>by
  have e:b=it:=by simpa using hb
  subst e;obtain⟨o,e,c,d⟩:=st;exact⟨o,e,λv z=>by rw[d]at z;cases z⟩
 keep:=λi h h' st k=>by
  obtain⟨o,ho,r⟩:=st;exact⟨o,k it (by simp) o ho,r⟩
 item:=by
  intro X hP hw hK hc i π s σ H E I hf st hg;subst hP hw hK;obtain⟨f0,f1,f2,f3,f4,f5⟩:=hf it (by simp);obtain⟨hi,ha⟩:=hg;obtain⟨_,F2,hl,ge⟩:=JF (I.hok a _ ha) hd;obtain⟨p,hp⟩:∃ p,ν[i]?≈p:=⟨ν[i],by simp[hi]⟩;obtain⟨t,u,hs,hu,ht,ru⟩:=ge i p hp;rw[<- hl]at st;refine kY st F2 hu λh' Ay sb=>?_;have I1:Inv X π σ H {s with heap:=h' }:=I.turned (t':=s.toks) (λb o hb e=>(sb.2 b hb).trans e) f0 f1 f3 f4 f5;obtain⟨o',e,c,d⟩:=id Ay;rw[hl]at Ay;exact⟨Z,Kl (s:={s with heap:=h' }) e c d (by decide) ⟨.ref t,H,I1,Y,⟨Y,p,t,hp,Y,ht⟩,Ay,λb hb=>(hf b hb).1⟩⟩
 done:=by
  intro X hP hw hK hc i π s σ H E I hf st hg;subst hP hw hK;obtain⟨f0,f1,f2,f3,f4,f5⟩:=hf it (by simp);obtain⟨hi,ha⟩:=hg;obtain⟨_,F2,hl,ge⟩:=JF (I.hok a _ ha) hd;rw[<- hl]at st;exact kX (I.ok.hd hc) st F2 (by omega) λh' eb=>⟨Y,I.turned (t':=s.toks) (λb o hb e=>eb b o hb e) f0 f1 f3 f4 f5⟩
 self:=λ_ _ _ _ _ st h=>wpAny_pyIter_keyiter st h
def wM{P:Δ}{w:World}{K:Fg}{elts:ε}{x1}{pos:Pos}(a it:χ)(o:Obj)(ν:List (List Key×V))(es:Array DictEntry)(ep:Nat)(hd:o.data=.dict es ep):
  Dq P w K (.Tuple elts x1 pos) (R9 a o ν) [it] it (λi h=>∃ ok ov,IsItemIter h it a i ↑ν ep ok ov) where
 mem:=by simp
 obj:=λi h st b hb=>by
  have e:b=it:=by simpa using hb
  subst e;obtain⟨ok,ov,st⟩:=st;exact⟨_,st,λv z=>by cases z⟩
 keep:=λi h h' st k=>by
  obtain⟨ok,ov,st⟩:=st;exact⟨ok,ov,k it (by simp) _ st⟩
 item:=by
  intro X hP hw hK hc i π s σ H E I hf st hg;subst hP hw hK;obtain⟨f0,f1,f2,f3,f4,f5⟩:=hf it (by simp);obtain⟨hi,ha⟩:=hg;obtain⟨ok,ov,st⟩:=st;obtain⟨_,F2,hl,ge⟩:=JF (I.hok a _ ha) hd;obtain⟨p,hp⟩:∃ p,ν[i]?≈p:=⟨ν[i],by simp[hi]⟩;obtain⟨b0,u,hs,hu,RF,ru⟩:=ge i p hp;rw[<- hl]at st;refine km st F2 hu λh' Ay ht keep=>?_;refine⟨Z,?_⟩;refine wpAny_letOwnedTupleGo_items (s:={s with heap:=h' }) Ay λFX cF sb=>?_;have itlt:it<⇑s:=Yc st;have tne:⇑s≠it:=Yt itlt;have BL:FX.get? ⇑s=some {cls:=.type "tuple",data:=.seq #[.ref b0,u] }:=sb.extBut _ _ tne ht;have I1:Inv X π σ (upd H ⇑s (.tup [.ref b0,p.2])) {s with heap:=FX }:=I.turnedNew (t':=s.toks) (λb o hb e=>sb.extBut b o hb (keep b o hb e)) f0 f1 f3 f4 f5 (Yd _)
   ⟨J,[.ref b0,u],.cons rfl (.cons ru .nil),⟨_,BL,Y,Z⟩⟩
  refine⟨.ref ⇑s,_,I1,Y,⟨⇑s,b0,p,hp,I.hok.fresh (Yd _),RF,Y,Y⟩,⟨_,_,by rw[<- hl];exact cF⟩,λb hb=>?_⟩;have e:b=it:=by simpa using hb
  subst e;rw[AE (Ae tne)];exact(hf b (by simp)).1
 done:=by
  intro X hP hw hK hc i π s σ H E I hf st hg;subst hP hw hK;obtain⟨f0,f1,f2,f3,f4,f5⟩:=hf it (by simp);obtain⟨hi,ha⟩:=hg;obtain⟨ok,ov,st⟩:=st;obtain⟨_,F2,hl,ge⟩:=JF (I.hok a _ ha) hd;rw[<- hl]at st;exact kh (I.ok.hd hc) st F2 (by omega) λh' eb=>⟨Y,I.turned (t':=s.toks) (λb o hb e=>eb b o hb e) f0 f1 f3 f4 f5⟩
 self:=λA i s Q E st h=>by
  obtain⟨ok,ov,st⟩:=st;exact W.kcp_self st h
def yR(t:TS):TS:=λD σ H=>∃ a ν,H a≈(.dT ν)/\∀ o,t D σ (upd H a (.frz o (.dT ν)))
def sN{X:Cx}{sts:List Stmt}{t:TS}(h:PSs X sts t):PSs X sts (yR t):=by
 intro π s σ H D I q;obtain⟨a,ν,ha,q⟩:=q;obtain⟨o,ho⟩:∃ o,s.heap.get? a≈o:=by
  obtain⟨_,_,xs,_,o,_,_,e,_⟩:=I.hok a _ ha;exact⟨o,e⟩
 exact h π s σ _ D (I.freezeT ha ho) (q o)
section
variable {X:Cx}{tg:Expr}
def b_(R:Obj->Hp->Prop)(H:Hp)(a:χ)(ν:List (List Key×V)):Prop :=
 (H a≈(.dT ν)/\∀ ob,R ob (upd H a (.frz ob (.dT ν))))\/∃ ob,H a≈(.frz ob (.dT ν))/\R ob H
def atT{π:PL}{σ:St}{H:Hp}{s:Γ}{a:χ}{ν:List (List Key×V)}{R:Obj->Hp->Prop}(I:Inv X π σ H s)(h:b_ R H a ν):
  ∃ ob H',Inv X π σ H' s/\H' a≈(.frz ob (.dT ν))/\R ob H':=by
 rcases h with⟨h,q⟩ | ⟨ob,h,q⟩
 ·obtain⟨o,ho⟩:∃ o,s.heap.get? a≈o:=by
   obtain⟨_,_,xs,_,o,_,_,e,_⟩:=I.hok a _ h;exact⟨o,e⟩
  exact⟨o,_,I.freezeT h ho,uS,q o⟩
 ·exact⟨ob,H,I,h,q⟩
def zO(tl:TE):TI:=λσ H R=>tl σ H λx H1=>∃ a ν,x=.ref a/\b_ (λob H'=>R (aj a ob ν) H') H1 a ν
def sI{l:Expr}{tl:TE}(hl:PE X l tl):PI X tg l (zO tl):=by
 intro π s σ H R I h;refine AH (hl π s σ H _ I h) λv s1 ⟨x,H0,I0,r1,q1⟩=>?_;obtain⟨a,ν,e,q⟩:=q1;subst e;cases r1;obtain⟨o,H1,I1,ha,q⟩:=atT I0 q;obtain⟨es,ep,hd⟩:=Rv (I1.hok a _ ha);obtain⟨hs,F2,hl,ge⟩:=JF (I1.hok a _ ha) hd;refine iU hs F2 ?_;refine⟨⇑s1,[⇑s1],_,_,H1,Y,I1.kept (t':=s1.toks) λb o e=>Yb _ e,vw a _ o ν es ep hd,⟨_,Ye _ rfl,Y,by rw[hl];rfl⟩,λb hb=>?_,q⟩;have e:b=⇑s1:=by simpa using hb
 subst e;exact I1.fpOk (Yd _) (I1.hok.fresh (Yd _))
def zt(to:TE):TI:=λσ H R=>to σ H λx H1=>∃ a ν,x=.ref a/\b_ (λob H'=>R (R9 a ob ν) H') H1 a ν
def Wc{elts:ε}{x1}{C_:Pos}{o:Expr}{to:TE}{apos AK:Pos}(ho:PE X o to)(BJ:attributeBase o "items" X.env (eval o X.env)=eval o X.env:=by rfl)(BI:(apos.endLine == AK.line)=true:=by rfl):
  PI X (.Tuple elts x1 C_) (.Call (.Attribute o "items" apos) [] [] AK) (zt to):=by
 intro π s σ H R I h;refine wpAny_Call_method0_late BJ BI (AH (ho π s σ H _ I h) λv s1 ⟨x,H0,I0,r1,q1⟩=>?_);obtain⟨a,ν,e,q⟩:=q1;subst e;obtain rfl:v=Value.ref a:=r1;obtain⟨ob,H1,I1,ha,q⟩:=atT I0 q;obtain⟨t1,t2,t3⟩:=V4 I1 (.inr ⟨ν,.inr ⟨ob,ha⟩⟩);obtain⟨es,ep,hd⟩:=Rv (I1.hok a _ ha);obtain⟨hs,F2,hl,ge⟩:=JF (I1.hok a _ ha) hd;refine⟨"dict","dict.items",SV,Xj,PySem.F.type_dict_items,t1,t2,NQ rfl (Se ?_)⟩;refine call_meetsIn Xj t1 PySem.F.entry_dict_items (PySem.F.args_dict_items_1 _) (ku t3) ⟨t1,?_⟩;have I2:Inv X π σ H1 {s1 with heap:=s1.heap.push {cls:=.type "dict_items",data:=.fields #[.ref a] } }:=I1.kept (t':=s1.toks) λb o e=>Yb _ e;refine ke (es:=es) (ep:=ep) ⟨_,Ye _ rfl,Y,Y⟩ (F2.at λo e=>Yb _ e) ?_;refine⟨_,[_],_,_,H1,Y,I2.kept (t':=s1.toks) λb o e=>Yb _ e,wM a _ ob ν es ep hd,⟨.none,.none,?_⟩,λb hb=>?_,q⟩
 ·rw[<- hl];exact Ye _ rfl
 ·have e:b=_:=Ym.mp hb;subst e;exact I2.fpOk (Yd _) (I2.hok.fresh (Yd _))
end
def BB.tr{H:Hp}{a b:χ}{ν:List (List Key×V)}{k:List Key}(e:Rd H a (.dT ν))(eb:H b≈(.tup (k.map kV))):BB H a (.ref b) (A0 ν k):=.inr ⟨ν,k,b,e,Y,eb,Y⟩
def vn{a:χ}{ob:Obj}{ν:List (List Key×V)}{js:LN}{tt:TT}{te:TE}{σ:St}{Q:VK}{H1:Hp}(hz:↑ν<=sizeLine)(ha:H1 a≈(.frz ob (.dT ν)))(p:List Key×V->Bool)(F:χ->List Key×V->V->Hp->Prop)
  (hF:∀ D x v H H',(∀ b o,b≠D->H b≈o->H' b≈o)->F D x v H->F D x v H')
  (ht:∀ x b H (R:Bool->Hp->Prop),AA H1 H->x∈ν->H b≈(.tup (x.1.map kV))->(∀ H',AA H H'->R (p x) H')->tt (↥(.ref b):: js.map λj=>(σ[j]?).join) H R)
  (he:∀ D x b H (R:V->Hp->Prop),AA H1 H->(∃ ys,H D≈(.lst ys))->H1 D=none->x∈ν->H b≈(.tup (x.1.map kV))->p x=true->(∀ v H',AA H H'->F D x v H'->R v H')->te (↥(.ref b):: js.map λj=>(σ[j]?).join) H R)
  (hd:∀ D H' ys,H1 D=none->AA H1 H'->H' D≈(.lst ys)->Paired (λx v=>F D x v H') (ν.filter p) ys->Q (.ref D) H'):
  AU 1 js (EI 0) tt te σ Q (aj a ob ν) H1:=by
 intro D hD;refine⟨λi m ys σ' H=>m=↑ν - i/\i<=↑ν/\AA H1 H/\H D≈(.lst ys)/\Paired (λx v=>F D x v H) ((ν.take i).filter p) ys/\∃ o,σ'=o :: js.map λj=>(σ[j]?).join,
  ⟨↑ν,by simp,Bm _,AO hD,uS,by simpa using Paired.nil,none,Y⟩,?_⟩
 rintro i m ys σ' H ⟨rfl,hi,hs,hl,hp,o,rfl⟩;have mono:∀ {H H':Hp},(∀ b o,b≠D->H b≈o->H' b≈o)->Paired (λx v=>F D x v H) ((ν.take i).filter p) ys->Paired (λx v=>F D x v H') ((ν.take i).filter p) ys:=λh q=>Paired.mapP q λa b z=>hF D a b _ _ h z;by_cases A_:i<↑ν
 ·have yl:↑ys<sizeLine:=by
   rw[<- ↑hp];refine NP (JP _ _) ?_;rw[Yv];omega
  refine .inr ⟨⟨A_,hs _ _ ha⟩,yl,λF0 σ3 H3=>AA H1 H3/\H3 D≈(.lst F0)/\Paired (λx v=>F D x v H3) ((ν.take (i + 1)).filter p) F0/\∃ o,σ3=o :: js.map λj=>(σ[j]?).join,
   λF0 σ3 H3 z=>⟨↑ν - (i + 1),O,Y,A_,z⟩,λx H2 y=>?_⟩
  obtain⟨rfl,x,b,hx,rfl,hb⟩:=y;show tt (↥(.ref b):: js.map λj=>(σ[j]?).join) H2 _;have hm:x∈ν:=Yi hx;refine ht x b _ _ hs hm hb λH4 DH=>?_;have F4:AA H1 H4:=hs.trans DH;cases hpx:p x with
  | true =>
   rw[if_pos rfl];refine he D x b H4 _ F4 ⟨_,DH _ _ hl⟩ hD hm (DH _ _ hb) hpx λv H5 s5 f5=>⟨s5 _ _ (DH _ _ hl),λb o e=>?_,uS,?_,Z⟩
   ·rw[AE (AS e hD)];exact s5 _ _ (F4 _ _ e)
   ·rw[Wy p ν i x hx,hpx,if_pos rfl];refine IJ (mono (λb o hb e=>by rw[AE hb];exact s5 _ _ (DH _ _ e)) hp) (hF D _ _ _ _ (λb o hb e=>by rw[AE hb];exact e) f5)
  | false =>
   rw[if_neg Yh];refine⟨F4,DH _ _ hl,?_,Z⟩;rw[Wy p ν i x hx,hpx,if_neg Yh,EE];exact mono (λb o _ e=>DH _ _ e) hp
 ·have e:i=↑ν:=by omega
  subst e;rw[CI]at hp;exact .inl ⟨⟨Yd _,hs _ _ ha⟩,hd D H ys hD hs hl hp⟩
def aI{a:χ}{o:Obj}{ν:List (List Key×V)}{g:TG}{tb:TS}{D:F9}{σ:St}{H:Hp}(Pv:NW)(h0:Pv 0 σ H)(hl:∀ i σ H,i<=↑ν->Pv i σ H->H a≈(.frz o (.dT ν)))
  (hs:∀ i p t b σ H,ν[i]?≈p->Pv i σ H->H t=none->H b≈(.tup (p.1.map kV))->g (.ref t) σ (upd H t (.tup [.ref b,p.2])) λσ2 H2=>tb {D with nx:=Pv (i + 1),ct:=Pv (i + 1),bk:=D.nx} σ2 H2) (hd:∀ σ H,Pv ↑ν σ H->D.nx σ H):
  ∃ W:Nat->Nat->St->Hp->Prop,(∃ m,W 0 m σ H)/\∀ i m σ H,W i m σ H ->
   ((R9 a o ν).stop i H/\D.nx σ H)\/((R9 a o ν).go i H/\∃ N:SW,(∀ σ' H',N σ' H'->∃ m',m'<m/\W (i + 1) m' σ' H')/\∀ x H',(R9 a o ν).yld i H x H'->g x σ H' λσ2 H2=>tb {D with nx:=N,ct:=N,bk:=D.nx} σ2 H2):=by
 refine⟨λi m σ H=>m=↑ν - i/\i<=↑ν/\Pv i σ H,⟨↑ν,by simp,Bm _,h0⟩,?_⟩;rintro i m σ H ⟨rfl,hi,p⟩;have q:=hl i σ H hi p;by_cases A_:i<↑ν
 ·refine .inr ⟨⟨A_,q⟩,Pv (i + 1),λσ' H' p'=>⟨↑ν - (i + 1),O,Y,A_,p'⟩,λx H' y=>?_⟩;obtain⟨t,b,pr,hp,ht,hb,rfl,rfl⟩:=y;exact hs i pr t b σ H hp p ht hb
 ·have e:i=↑ν:=by omega
  subst e;exact .inl ⟨⟨Yd _,q⟩,hd σ H p⟩
structure Fz(h:Heap)(e T:χ)(cls:ω)(dx:Option χ)(fl:ω):Prop where
 ne:T≠e
 obj:∃ oe vs,h.get? e≈oe/\oe.cls=cls/\oe.dict=dx/\oe.data=.fields vs/\vs[1]?≈(.ref T)
 tb:∃ oT ts,h.get? T≈oT/\oT.data=.fields ts/\ts[3]?≈fl
structure Bg(S R:μ)(h h':Heap):Prop where
 sz:h.objs.size<=h'.objs.size
 keep:∀ b o,h.get? b≈o->b∉S->b∉R->h'.get? b≈o
 slot:∀ b o,h.get? b≈o->b∉R->∃ sl,h'.get? b=some {o with slots:=sl}
 there:∀ b o,h.get? b≈o->∃ o',h'.get? b≈o'
def Bg.mono{S S' R R':μ}{h h':Heap}(c:Bg S R h h')(hs:∀ b∈S,b∈S')(hr:∀ b∈R,b∈R'):Bg S' R' h h' :=
 ⟨c.sz,λb o e n1 n2=>c.keep b o e (λz=>n1 (hs b z)) λz=>n2 (hr b z),λb o e n=>c.slot b o e λz=>n (hr b z),c.there⟩
def Bg.trans{S R:μ}{h h1 h2:Heap}(a:Bg S R h h1)(b:Bg S R h1 h2):Bg S R h h2 :=
 ⟨Yq a.sz b.sz,λc o e n1 n2=>b.keep c o (a.keep c o e n1 n2) n1 n2,λc o e n=>by
  obtain⟨sl,e1⟩:=a.slot c o e n;obtain⟨Ql,e2⟩:=b.slot c _ e1 n;exact⟨Ql,e2⟩,λc o e=>by
  obtain⟨o1,e1⟩:=a.there c o e;exact b.there c o1 e1⟩
def Bg.drop{S R:μ}{h h':Heap}{t:χ}(c:Bg S (t :: R) h h')(ht:h.objs.size<=t):Bg S R h h' :=
 ⟨c.sz,λb o e n1 n2=>c.keep b o e n1 λz=>(Bj.mp z).elim (λq=>absurd (Yc e) (by rw[q];exact Nat.not_lt.mpr ht)) n2,
  λb o e n=>c.slot b o e λz=>(Bj.mp z).elim (λq=>absurd (Yc e) (by rw[q];exact Nat.not_lt.mpr ht)) n,c.there⟩
def xN(f:δ->δ)(o:Obj):(Obj.mapFields f o).dict=o.dict:=by
 obtain⟨c,d,dt,sl⟩:=o;cases dt <;> rfl
def Bg.setF{h:Heap}{T:χ}{oT:Obj}{ts:δ}{f:δ->δ}(hT:h.get? T≈oT)(hd:oT.data=.fields ts):Bg [] [T] h (h.update T (Obj.mapFields f)):=by
 have other:∀ b,b≠T->(h.update T (Obj.mapFields f)).get? b=h.get? b:=λb hb=>Fq _ _ (Ae hb);refine⟨Nat.le_of_eq (Heap.size_after_update ..).symm,λb o e _ n=>(other b λz=>n (by simp[z])).trans e,λb o e n=>⟨o.slots,(other b λz=>n (by simp[z])).trans e⟩,λb o e=>?_⟩;by_cases hb:b=T
 ·subst hb;exact⟨_,ED _ hT (NL (II hd _))⟩
 ·exact⟨o,(other b hb).trans e⟩
def Bg.entry{S:μ}{h g:Heap}{e:χ}{oe nb:Obj}{vs ts:δ}{fl:ω}(sl:Heap.SlotsOnly S h g)(ns:e∉S)(he:h.get? e≈oe)(hd:oe.data=.fields vs)(hsz:1<vs.size)(hnb:nb.data=.fields ts)(h3:ts[3]?≈fl):
  Fz ((g.push nb).update e (Obj.mapFields λr=>r.setIfInBounds 1 (.ref g.objs.size))) e g.objs.size oe.cls oe.dict fl/\Bg S [e] h ((g.push nb).update e (Obj.mapFields λr=>r.setIfInBounds 1 (.ref g.objs.size))):=by
 have ge:g.get? e≈oe:=(sl.2.1 e ns).trans he;have apart:g.objs.size≠e:=Yt (Yc ge);have pe:(g.push nb).get? e≈oe:=Yb nb ge;have data:=II hd λr=>r.setIfInBounds 1 (Value.ref g.objs.size);have self:=ED (Obj.mapFields λr=>r.setIfInBounds 1 (Value.ref g.objs.size)) pe (NL data);have AQ:∀ b o,b≠e->g.get? b≈o->((g.push nb).update e (Obj.mapFields λr=>r.setIfInBounds 1 (.ref g.objs.size))).get? b≈o:=λb o n q =>
  (Fq _ _ λz=>n z.symm).trans (Yb nb q)
 have tnew:(g.push nb).get? g.objs.size≈nb:=Ye g (NL hnb);refine⟨⟨apart,⟨_,_,self,Obj.cls_mapFields _ _,xN _ _,data,by simp[hsz]⟩,⟨nb,ts,(Fq _ _ λz=>apart z.symm).trans tnew,hnb,h3⟩⟩,⟨?_,λb o q n1 n2=>?_,λb o q n=>?_,λb o q=>?_⟩⟩
 ·rw[Heap.size_after_update,C6,sl.1];omega
 ·exact AQ b o (λz=>n2 (z ▸ Di)) ((sl.2.1 b n1).trans q)
 ·obtain⟨k,r⟩:=sl.2.2 b o q;exact⟨k,AQ b _ (λz=>n (z ▸ Di)) r⟩
 ·obtain⟨k,r⟩:=sl.2.2 b o q;by_cases z:b=e
  ·subst z;exact⟨_,self⟩
  ·exact⟨_,AQ b _ z r⟩
section
variable {M:Model}{A:Around}{E:EV}{s:Γ}
def i6{base:Heap}{env:Env}{outer:List Env}{L e:χ}{oe:Obj}{vs:δ}{head:ω}{hadNext:Bool}{Q:Unit->Γ->Prop}
  (hfr:A.frames≈(env :: outer)) (hl:s.heap.FunFrames base (env :: outer)) (hf:env.frame≈L) (he:s.heap.get? e≈oe) (hd:oe.data=.fields vs) (hsz:1<vs.size)
  (h:∀ h' T,⇑s<=T->Fz h' e T oe.cls oe.dict (rawInt L)->Bg (CB (env :: outer)) [e] s.heap h'->Q () {s with heap:=h' }):
  wpAny M A (frameOf env>>=λa=>entryPlaceOf L hadNext>>=λpl=>EntryCells.newEntry head a .none (rawInt L) .none pl>>=λb=>setField (.ref e) 1 b) Q E s:=by
 have nf:e∉CB (env :: outer):=λm=>by
  have q:=(hl.mem m).2;rw[he]at q;obtain⟨_,r1,r2⟩:=q;cases r1;exact r2 vs hd
 apply Ja;refine wpAny_frameOf_fun hfr hl hf λg1 X4=>Ja (wpAny_entryPlaceOf λpl place=>Ja ?_);have three:∀ xs:LU,IsPlace xs->([head,Value.ref L,.none,rawInt L,.none]++(if xs.isEmpty then List.replicate 6 Value.none else xs)).toArray[3]?≈(rawInt L):=λxs _=>by simp
 have laid:=Bg.entry (nb:={cls:=.type "traceback",data:=.fields ([head,.ref L,.none,rawInt L,.none]++(if pl.isEmpty then List.replicate 6 Value.none else pl)).toArray}) X4 nf he hd hsz rfl (three pl place);refine wpAny_newObj_type (wpAny_setField (Yb _ ((X4.2.1 e nf).trans he)) hd hsz ?_) (place.sizeOk5 _ _ _ _ _);exact h _ _ (Nat.le_of_eq X4.1.symm) laid.1 laid.2
def WW{e T:χ}{cls fl:ω}{dx:Option χ}{Q:Unit->Γ->Prop}(a:Fz s.heap e T cls dx fl)
  (h:∀ h',Fz h' e T cls dx .none->Bg [] [T] s.heap h'->Q () {s with heap:=h' }):wpAny M A (setFlight (.ref e) none) Q E s:=by
 obtain⟨ne,⟨oe,vs,he,hc,hdx,hd,h1⟩,⟨oT,ts,hT,hdT,h3⟩⟩:=a;obtain⟨Sw,_⟩:=SN.mp h3;have some_:(Value.ref T != Value.none)=true:=by simp
 unfold setFlight;apply Ja;apply Jg he hd h1;rw[if_pos some_];refine wpAny_setField hT hdT Sw (h _ ⟨ne,⟨oe,vs,(Fq _ _ ne).trans he,hc,hdx,hd,h1⟩,⟨_,_,ED _ hT (NL (II hdT _)),II hdT _,by simp[Sw]⟩⟩ (Bg.setF hT hdT))
def jQ{base:Heap}{env:Env}{outer:List Env}{L e T:χ}{cls:ω}{dx:Option χ}{Q:Unit->Γ->Prop}
  (hfr:A.frames≈(env :: outer)) (hl:s.heap.FunFrames base (env :: outer)) (hf:env.frame≈L) (a:Fz s.heap e T cls dx .none)
  (h:∀ h' T',⇑s<=T'->Fz h' e T' cls dx (rawInt L)->Bg (CB (env :: outer)) [e,T] s.heap h'->Q () {s with heap:=h' }):wpAny M A (noteFrame (.ref e) env) Q E s:=by
 obtain⟨ne,⟨oe,vs,he,hc,hdx,hd,h1⟩,⟨oT,ts,hT,hdT,h3⟩⟩:=a;subst hc hdx;have some_:(Value.ref T != Value.none)=true:=by simp
 have apart:¬ (Value.none == rawInt L)=true:=by simp[rawInt]
 have c1:Bg [] [T] s.heap (s.heap.update T (Obj.mapFields λr=>r.setIfInBounds 3 Value.none)):=Bg.setF hT hdT;have kept:∀ b o,s.heap.get? b≈o->b≠T->(s.heap.update T (Obj.mapFields λr=>r.setIfInBounds 3 Value.none)).get? b≈o:=λb o q n=>c1.keep b o q (λz=>nomatch z) λz=>n (Ym.mp z);unfold noteFrame;simp only[hf];apply Ja;apply Jg he hd h1;rw[if_pos some_];apply Ja;apply Jg hT hdT h3;rw[if_neg apart];apply Ja;refine wpAny_setField hT hdT (SN.mp h3).1 ?_;refine i6 hfr (hl.of_keeps λb o q nf=>⟨o,kept b o q λz=>by subst z;rw[hT]at q;cases q;exact nf ts hdT,Y⟩) hf (kept e oe he λz=>ne z.symm) hd (SN.mp h1).1 λh' T' F7 a' c'=>?_;exact h h' T' (Yq c1.sz F7) a' ((c1.mono (λb z=>nomatch z) λb z=>by simp at z;simp[z]).trans (c'.mono (λb z=>z) λb z=>by simp at z;simp[z]))
def t7{base:Heap}{env:Env}{outer:List Env}{L e:χ}{oe:Obj}{vs:δ}{Q:Unit->Γ->Prop}
  (hfr:A.frames≈(env :: outer)) (hl:s.heap.FunFrames base (env :: outer)) (hf:env.frame≈L) (he:s.heap.get? e≈oe) (hd:oe.data=.fields vs) (h1:vs[1]?≈.none)
  (h:∀ h' T,⇑s<=T->Fz h' e T oe.cls oe.dict .none->Bg (CB (env :: outer)) [e] s.heap h'->Q () {s with heap:=h' }):wpAny M A (leaving env (.ref e)) Q E s:=by
 unfold leaving noteFrame;simp only[hf];apply Ja;apply Ja;apply Jg he hd h1;rw[if_neg (by decide)];refine i6 hfr hl hf he hd (SN.mp h1).1 λh' T hT a c=>?_;refine WW a λh2 a2 c2=>h h2 T hT a2 ?_;have c3:Bg (CB (env :: outer)) [T,e] s.heap h2:=(c.mono (λb z=>z) λb z=>by simp at z;simp[z]).trans (c2.mono (λb z=>nomatch z) λb z=>by simp at z;simp[z]);exact c3.drop hT
def rM{base:Heap}{env:Env}{outer:List Env}{L e T:χ}{cls:ω}{dx:Option χ}{Q:Unit->Γ->Prop}
  (hfr:A.frames≈(env :: outer)) (hl:s.heap.FunFrames base (env :: outer)) (hf:env.frame≈L) (a:Fz s.heap e T cls dx .none)
  (h:∀ h' T',⇑s<=T'->Fz h' e T' cls dx .none->Bg (CB (env :: outer)) [e,T] s.heap h'->Q () {s with heap:=h' }):wpAny M A (leaving env (.ref e)) Q E s:=by
 unfold leaving;refine Ja (jQ hfr hl hf a λh' T' hT a' c=>?_);refine WW a' λh2 a2 c2=>h h2 T' hT a2 ?_;have c3:Bg (CB (env :: outer)) [T',e,T] s.heap h2:=(c.mono (λb z=>z) λb z=>by simp at z;rcases z with z | z <;> simp[z]).trans (c2.mono (λb z=>nomatch z) λb z=>by simp at z;simp[z]);exact c3.drop hT
end
def BF.chg{P:Δ}{w:World}{H:Hp}{h h':Heap}{S R:μ}(x:BF P w H h)(c:Bg S R h h')(hS:∀ b∈S,H b=none)(hR:∀ b∈R,H b=none):BF P w H h':=λa o e =>
 (x a o e).stay (λb u hb q=>by
  have hn:H b≠none:=by
   rcases hb with z | z
   ·rw[z,e];simp
   ·rw[z];simp
  exact c.keep b u q (λz=>hn (hS b z)) λz=>hn (hR b z)) (λ_ q=>q) λ_ _ q=>q
def Un.chg{fs ex S R:μ}{H:Hp}{h h':Heap}(c:Bg S R h h')(hS:∀ b∈S,b∈fs)(hR:∀ b∈R,b∈ex):Un fs ex H H h h' :=
 ⟨λb o e n hb hx=>c.keep b o e (λz=>hb (hS b z)) λz=>hx (hR b z),λb o e n hb hx=>c.slot b o e λz=>hx (hR b z),λ_ _ _ n _=>n,λb o e _=>c.there b o e,λ_ _ q=>q,λ_ _ _ q=>q,λ_ ps q=>⟨#[],by rw[q];simp⟩⟩
def AZ(P:Δ)(w:World):EZ:=λouter H s E ev s'=>∃(e T:χ) (cls:ω) (dx:Option χ) (H':Hp),ev=.ref e/\s'.os=s.os/\AllBare s'.gens/\Un (CB outer) [] H H' s.heap s'.heap/\BF P w H' s'.heap /\
 H' e=none/\H' T=none/\⇑s<=e/\⇑s<=T/\Fz s'.heap e T cls dx .none/\E cls dx H'
structure Ag(X:Cx)(E:XK):Prop where
 xe:X.xe=λe s'=>wpAny (model X.prog X.w) X.A (leaving X.env e) (λ_ DJ=>AZ X.prog X.w X.outer X.H₀ X.s₀ E e DJ) (λe' DJ=>AZ X.prog X.w X.outer X.H₀ X.s₀ E e' DJ) s'
 stk:X.stack=X.env :: X.outer
 fr:X.env.frame≈X.env.locals
 ex:X.ex=[]
def Ag.of{P:Δ}{w:World}{K:Fg}{mg:Str->OU}{base:Heap}{N:LS}{qual:Str}{scope:Scope}{f:χ}{cd:ω}{A:Around}{outer:List Env}{s:Γ}{H:Hp}{E:XK} :
  Ag (LI (AZ P w) P w K mg base N qual scope f cd A outer s H E) E:=⟨Y,Y,Y,Y⟩
section
variable {X:Cx}{π:PL}{σ:St}{H:Hp}{s:Γ}{E:XK}{e T:χ}{cls:ω}{dx:Option χ}
def Ag.old(F:Ag X E)(f:CY X π H e):⇑X.s₀<=e:=by
 rcases f.2.2.2.1 with z | z
 ·rw[F.ex]at z;cases z
 ·exact z
def Ag.un{h':Heap}{R:μ}(F:Ag X E)(I:Inv X π σ H s)(c:Bg (CB X.stack) R s.heap h')(hR:∀ b∈R,⇑X.s₀<=b):Un X.fs [] X.H₀ H X.s₀.heap h':=by
 have B:=I.base;have hx:∀ b,b∉X.ex:=λb z=>by rw[F.ex]at z;cases z
 have ns:∀ b o,X.s₀.heap.get? b≈o->b∉X.fs->b∉CB X.stack:=λb o q n z=>by
  rcases Bj.mp (I.stkSub b z)with r | r
  ·exact absurd (Yn (Yc q) (by rw[r];exact I.ok.above)) (Gp _)
  ·exact n r
 have nr:∀ b o,X.s₀.heap.get? b≈o->b∉R:=λb o q z=>absurd (Yn (Yc q) (hR b z)) (Gp _);refine⟨λb o q n hb _=>c.keep b o (B.keep b o q n hb (hx b)) (ns b o q hb) (nr b o q),λb o q n hb _=>?_,λb o q n _=>B.free b o q n (hx b),λb o q _=>?_,B.tups,B.frzs,B.tbls⟩
 ·obtain⟨sl,e1⟩:=B.slot b o q n hb (hx b);obtain⟨Ql,e2⟩:=c.slot b _ e1 (nr b o q);exact⟨Ql,e2⟩
 ·obtain⟨o1,e1⟩:=B.there b o q (hx b);exact c.there b o1 e1
def Ag.leave(F:Ag X E)(I:Inv X π σ H s)(fe:CY X π H e)(fT:CY X π H T)(a:Fz s.heap e T cls dx .none)(h:E cls dx H):X.xe (.ref e) s:=by
 rw[F.xe];have hfr:X.A.frames≈(X.env :: X.outer):=by rw[<- F.stk];exact I.ok.frames
 have hl:s.heap.FunFrames X.base (X.env :: X.outer):=by rw[<- F.stk];exact I.stack
 refine rM hfr hl F.fr a λh' T' F7 a' c=>?_;rw[<- F.stk]at c;exact⟨e,T',cls,dx,H,Y,I.os,I.bare,F.un I c λb z=>by simp at z;rcases z with z | z <;> rw[z];exact F.old fe;exact F.old fT,
  I.hok.chg c I.stkFree (λb z=>by simp at z;rcases z with z | z <;> rw[z];exact fe.1;exact fT.1),fe.1,I.hok.fresh F7,F.old fe,Yq I.sz F7,a',h⟩
def Ag.raised{oe:Obj}{vs:δ}(F:Ag X E)(I:Inv X π σ H s)(fe:CY X π H e)(he:s.heap.get? e≈oe)(hd:oe.data=.fields vs)(h1:vs[1]?≈.none)(h:E oe.cls oe.dict H):X.xe (.ref e) s:=by
 rw[F.xe];have hfr:X.A.frames≈(X.env :: X.outer):=by rw[<- F.stk];exact I.ok.frames
 have hl:s.heap.FunFrames X.base (X.env :: X.outer):=by rw[<- F.stk];exact I.stack
 refine t7 hfr hl F.fr he hd h1 λh' T' F7 a' c=>?_;rw[<- F.stk]at c;exact⟨e,T',oe.cls,oe.dict,H,Y,I.os,I.bare,F.un I c λb z=>by simp at z;rw[z];exact F.old fe,
  I.hok.chg c I.stkFree (λb z=>by simp at z;rw[z];exact fe.1),fe.1,I.hok.fresh F7,F.old fe,Yq I.sz F7,a',h⟩
def CQ(F:Ag X E):Kr (AZ X.prog X.w) X E:=by
 rintro π σ H s ev s' I ⟨e,T,cls,dx,H',rfl,os,bare,un,hok,he,hT,se,sT,a,h⟩;have I':Inv X π σ H' s':=I.call' (ch:=[]) os un hok bare λb z=>nomatch z;exact F.leave I' (I.fpOk se he) (I.fpOk sT hT) a h
end
def AN.any{P:Δ}{w:World}{K:Fg}{mg:Str->OU}{base:Heap}{CX:EZ}{k:Nat}{ps:LS}{sp:Sp}(F:AN P w K mg base IT k f fd ps sp):AN P w K mg base CX k f fd ps sp :=
 ⟨F.len,λA outer s H args us vs Q E hr he hb hv hs=>codeAny_mono (F.run A outer s H args us vs Q E hr he hb hv hs) λr s' hq=>by
  cases r with
  | error e=>exact False.elim hq
  | ok fl=>cases fl <;> exact hq⟩
def BW.ok1{P:Δ}{w:World}{K:Fg}{mg:Str->OU}{base:Heap}{x qual:Str}{st:Stmt}{N ps:LS}{k:Nat}{sp:Sp}(F:BW K x qual st f fd)(S:Ad N ps (AL st))(len:∀ vs H Q E,sp vs H Q E->↑vs=↑ps)
  (hbody:∀(As:ω) (A:Around) (outer:List Env) (s:Γ) (H:Hp) (vs:LV) (Q:VK) (E:XK),AX k (A.deeper (envOfC qual (AL st) ⇑s f As))->sp vs H Q E ->
   ∃ t,PSs (LI (AZ P w) P w K mg base N qual (AL st) f As A outer s H E) (Dz st) t/\t {nx:=λ_ H'=>Q .non H',rt:=Q} (start N vs) H):AN P w K mg base (AZ P w) (k + 1) f fd ps sp:=by
 obtain⟨oc,od,kV,doc,pm,an,As,ct,osl,rfl,lk,hcd⟩:=F.ex;refine mB lk hcd S len λA outer s H vs Q E hr hsp=>?_;exact hbody As A outer s H vs Q E hr hsp
end L2
namespace L2
open PySem PySem.Spec
structure ExC(K:Fg)(C:χ):Prop where
 obj:∃ nm q N bs bm hdct sn sub ab col dd k0 k1 k2 k3 k5,K.lookup C≈(excClassObj nm q C N bs bm hdct sn sub ab col dd k0 k1 k2 k3 k5 "ValueError.__new__")
 val:W.subIn K (.ref C) (.type "ValueError")≈true
 bas:W.subIn K (.ref C) (.type "BaseException")≈true
 att:W.subIn K (.ref C) (.type "AttributeError")≈false
 nam:W.subIn K (.ref C) (.type "NameError")≈false
 kp:W.keepIn K (.ref C)=true
abbrev B9(C t:χ):Obj:={cls:=.ref C,data:=.fields #[.ref t,.none,.none,.none,.bool false,.none] }
abbrev EN(us:LU):Obj:={cls:=.type "tuple",data:=.seq us.toArray}
section
variable {K:Fg}{prog:Δ}{w:World}{A:Around}{E:EV}{h:Heap}{g:Array GenState}{d:Drawn}{t:Nat}{os:OsState}{C:χ}
def JC{nm q:Str}{N:χ}{bs bm:LU}{hdct:Bool}{sn:LS}{sub:LU}{ab:Bool}{col:Option Bool}{dd:Option χ}{k0 k1 k2 k3 k5:OU}{nid:String}{x:ω}{b:Bool}
  (l:K.lookup C≈(excClassObj nm q C N bs bm hdct sn sub ab col dd k0 k1 k2 k3 k5 nid)) (e:W.subIn K (.ref C) x≈b):(Value.ref C :: bm).contains x=b:=by
 have e2:((W.clsIn K C).bind λcd=>if cd.mro.isEmpty=true then none else ↥(cd.mro.contains x))≈b:=e;have e3:W.clsIn K C=some {name:=nm,bases:=bs,mro:=.ref C :: bm,ns:=N,qualname:=q,hasDict:=hdct,slotNames:=sn,subclasses:=sub,abstract:=ab,collection:=col,hasDel:=false}:=by
  unfold W.clsIn;rw[l]
 rw[e3]at e2;exact Yp e2
def zh{AQ:LU}{R:Result->Γ->Prop}(X:K.In h)(c:ExC K C)(hrest:AQ.length<=sizeLine)
  (hq:R (.ok (.ret (.ref (h.objs.size + 1)))) ⟨(h.push (EN AQ)).push (B9 C h.objs.size),g,d,t,os⟩):
  codeAny (model prog w) A (.builtin "ValueError.__new__" ⟨.ref C :: AQ,[]⟩) R ⟨h,g,d,t,os⟩:=by
 obtain⟨nm,q,N,bs,bm,hdct,sn,sub,ab,col,dd,k0,k1,k2,k3,k5,lk⟩:=c.obj;have Fv:=bW;have cV:=JC lk c.val;have cA:=JC lk c.att;have cN:=JC lk c.nam;have hC:=X _ _ lk;have hends:=Fv.ends;refine codeAny_builtinAt Fv.entry ?_;unfold Builtin.«BaseException.__new__»;apply PySem.wpAt_bind;show PySem.wpAt _ _ _ (stack>>=_) _ _ _;apply PySem.wpAt_bind;refine PySem.wpAt_stack λp below=>PySem.wpAt_of_wpAny ?_
 wp_walk
 apply PySem.wpAt_of_wpAny;rw[Fv.owner]
 repeat (first | with_reducible refine wpAny_madeHere_exc Fv.canon hC ?_ | with_reducible refine Ji hC ?_ | (with_reducible refine wpAny_isSubtype_exc hC ?_;first | rw[cV] | rw[cA] | rw[cN]) | wp_step)
 show R _ _;rw[C6];exact hq
def iM{AQ:LU}{i:ω}{Q:EV}(X:K.In h)(c:ExC K C)(hi:W.findIn K (.ref C) "__init__"≈(↥i))
  (hb:∀ self,W.Looks (model prog w) ((h.push (EN AQ)).push (B9 C h.objs.size)) (bindSpecial i self) (i,[self])) (hrest:AQ.length<=sizeLine)
  (hq:codeAny (model prog w) (A.under (.builtin "type.__call__" ⟨.ref C :: AQ,[]⟩)) (.call i ⟨.ref (h.objs.size + 1):: AQ,[]⟩)
   (λr s'=>match r with | .ok (.ret v)=>v=.none/\Q (.ref (h.objs.size + 1)) s' | .ok _=>False | .error e=>E e s') ⟨(h.push (EN AQ)).push (B9 C h.objs.size),g,d,t,os⟩):
  wpAny (model prog w) A (call (.ref C) AQ) Q E ⟨h,g,d,t,os⟩:=by
 obtain⟨nm,q,N,bs,bm,hdct,sn,sub,ab,col,dd,k0,k1,k2,k3,k5,lk⟩:=c.obj;have Fv:=bW;have cV:=JC lk c.val;have cS:(Value.ref C :: bm).contains (.ref C)=true:=by simp
 have hC:=X _ _ lk;have up:∀ b o,h.get? b≈o->((h.push (EN AQ)).push (B9 C h.objs.size)).get? b≈o:=λb o e=>Yb _ (Yb _ e);have X1:K.In ((h.push (EN AQ)).push (B9 C h.objs.size)):=X.keeps up;have qc:=X1 _ _ lk;have got:((h.push (EN AQ)).push (B9 C h.objs.size)).get? (h.objs.size + 1)≈(B9 C h.objs.size):=Heap.get?_push_at (by rw[C6]) rfl;have f1:=tc_lookup;have f2:=tc_bind (.ref C);have hT:(⟨h,g,d,t,os⟩:Γ).TypeIs (.ref C) "type":=⟨_,hC,Y⟩;have hstar:=Fv.noStar;apply wpAny_call;apply codeAny_of_tree;show wpAny _ _ (callAny (.ref C) _) _ _ _
 repeat (any_goals (first | assumption | with_reducible refine Ji hC ?_ | wp_step))
 constructor
 ·rfl
 apply codeAny_call_builtin_at (Code.quiet_builtin _ (by rfl')) entry_typeCall;apply wpAny_check_type_call_sub hC
 repeat (first | with_reducible refine Ji hC ?_ | with_reducible refine wpAny_madeBy_exc hC ?_ | wp_step)
 apply codeAny_call_builtin_code (Code.quiet_builtin _ Fv.quiet);simp only[checkBuiltinCall,Fv.newKind,Fv.newSplit,Fv.newRow]
 repeat (first | refine Ji hC ?_ | (refine wpAny_isSubtype_exc hC ?_;rw[cV]) | refine wpAny_staticBase_exc hC ?_ | refine wpAny_madeBy_exc hC ?_ | simp only[bne_self_eq_false,Co,if_false] | wp_step)
 apply zh X c hrest;show wpAny _ _ _ _ _ _;apply Ja;unfold isInstance
 repeat (first | with_reducible refine Ji got ?_ | (with_reducible refine wpAny_isSubtype_exc qc ?_;rw[cS]) | wp_step)
 refine(W.looks_findIn (M:=model prog w) X1 hi).here ?_;apply Jj;apply Ja;refine(hb (.ref (h.objs.size + 1))).here ?_;apply Ja;apply wpAny_call;refine codeAny_mono hq λr s' q=>?_;cases r with
 | error e=>exact q
 | ok f =>
  cases f with
  | ret v =>
   obtain⟨rfl,q⟩:=q;apply Jd;show wpAny _ _ (ret (.ref (h.objs.size + 1))) _ _ _;exact Jd q
  | next=>exact q.elim
  | brk=>exact q.elim
  | cont=>exact q.elim
def jJ{AQ:LU}{R:Result->Γ->Prop}{e t0:χ}(X:K.In h)(c:ExC K C)(he:h.get? e≈(B9 C t0))(hrest:AQ.length<=sizeLine)
  (hq:R (.ok (.ret .none)) ⟨(h.push (EN AQ)).update e (Obj.mapFields (·.setIfInBounds 0 (.ref h.objs.size))),g,d,t,os⟩):
  codeAny (model prog w) A (.call (.builtin "ValueError.__init__") ⟨.ref e :: AQ,[]⟩) R ⟨h,g,d,t,os⟩:=by
 obtain⟨nm,q,N,bs,bm,hdct,sn,sub,ab,col,dd,k0,k1,k2,k3,k5,lk⟩:=c.obj;have Fv:=bW;have cV:=JC lk c.val;have hC:=X _ _ lk;have hshort:=Fv.noStar;have chk:∀(a b:String) (n:Nat),Bind.check ⟨.positional,"*","ValueError",.self,[⟨"args",.varPos,false⟩]⟩ a b n (List.map (λx=>x.fst) ({pos:=Value.ref e :: AQ}:Args).kw)=pure ():=λa b n=>check_star_args _ _ _ _ _ _;have Ke:(h.push (EN AQ)).get? e≈(B9 C t0):=Yb _ he;apply codeAny_call_builtin Fv.init.plain Fv.initEntry;simp only[checkBuiltinCall,Fv.initKind,Fv.initSplit,Fv.initRow]
 repeat (first | with_reducible refine Ji he ?_ | with_reducible refine Ji hC ?_ | (with_reducible refine wpAny_isSubtype_exc hC ?_;rw[cV]) | wp_step)
 apply wpAny_onRaise;rw[chk];apply Jd
 wp_walk
 exact hq
def kH{env:Env}{x:Str}{np AK pos:Pos}{args:ε}{s:Γ}{Q:Flow->Γ->Prop}(c:ExC K C)(hh:A.handled=none)
  (h1:wpAny (model prog w) A (eval (.Call (.Name x np) args [] AK) env) (λv s₁=>∃ e t0 dx sl,v=.ref e/\K.In s₁.heap /\
   s₁.heap.get? e≈⟨.ref C,dx,.fields #[.ref t0,.none,.none,.none,.bool false,.none],sl⟩/\E (.ref e) s₁) E s):
  wpAny (model prog w) A (exec (.Raise (↥(.Call (.Name x np) args [] AK)) none pos) env) Q E s:=by
 obtain⟨nm,q,N,bs,bm,hdct,sn,sub,ab,col,dd,k0,k1,k2,k3,k5,lk⟩:=c.obj;have cB:=JC lk c.bas;rw[arm_exec_Raise];apply Ja;apply wpAny_standAt;unfold raiseStmt;apply Ja;show wpAny _ _ (do let v <- eval (.Call (.Name x np) args [] AK) env;standAt pos;pure v) _ _ _;apply Ja;refine Jf h1 (λv s₁ h₁=>?_) λ_ _ z=>z;apply Ja;apply wpAny_standAt;apply Jd;obtain⟨e,t0,dx,sl,rfl,X,he,hE⟩:=h₁;obtain⟨hp,g,d,tk,os⟩:=s₁;have hC:=X _ _ lk
 repeat (first | with_reducible refine Ji he ?_ | with_reducible refine Ji hC ?_ | (with_reducible refine wpAny_isSubtype_exc hC ?_;rw[cB]) | wp_step)
 exact wpAny_raiseNew_none hh hE
end
end L2
namespace L2
open PySem PySem.Spec PySem.Builtin PySem.Builtin.ObjectAttr PySem.W
structure ExA(K:Fg)(C:χ):Prop extends ExC K C where
 ga:W.findIn K (.ref C) "__getattribute__"≈(↥(.builtin "BaseException.__getattribute__"))
 gt:W.findIn K (.ref C) "__getattr__"≈none
 ca:W.findIn K (.ref C) "__class__"≈(↥(.builtin "object.__class__"))
 cg:W.specialIn K (.builtin "object.__class__") "__get__"≈(↥(.builtin "getset_descriptor.__get__"))
 ct:W.takesIn K (.builtin "object.__class__")≈true
 ob:W.mroIn K C (.type "object")≈true
section
variable {K:Fg}{prog:Δ}{w:World}{A:Around}{E:EV}{h:Heap}{g:Array GenState}{d:Drawn}{t:Nat}{os:OsState}{x C:χ}{ox:Obj}{od:Option Obj}{name:Str}
def tm{nameV:ω}{M:Model}{Q:Unit->Γ->Prop}(X:K.In h)(c:ExC K C)(I:W.InstAt h x ox C od)(hq:Q () ⟨h,g,d,t,os⟩):
  wpAny M A (checkBuiltinCall "BaseException.__getattribute__" ⟨[.ref x,nameV],[]⟩) Q E ⟨h,g,d,t,os⟩:=by
 have hk:builtinKind "BaseException.__getattribute__"≈.slot:=by rfl'
 have hs:splitId "BaseException.__getattribute__"≈("BaseException","__getattribute__"):=by rfl'
 have ha:=PySem.F.args_bexc_ga (.ref x) nameV;have hi:W.Looks M h (isInstance (.ref x) (.type "BaseException")) true:=I.type.andThen (W.looks_subIn X c.bas);simp only[checkBuiltinCall,hk,hs];apply Ja;apply hi.at;simp only[NM,Co,if_false];exact wpAny_of_eq ha hq
def tq{tk:Tok}{Q:Fin->Γ->Prop}{f:Found}(X:K.In h)(I:W.InstAt h x ox C od)(hf:W.Looks (model prog w) h (find (.ref x) (.ref C) name) f)
  (hq:wpAny (model prog w) A (match f with | .value v=>ret v | .bind g a=>bindTo g a (.ref x) (.ref C) | .missing=>unsupported "") Q E ⟨h,g,d,t,os⟩) (hm:f≠.missing):
  wpAny (model prog w) A (Builtin.«object.__getattribute__» ⟨[.ref x,.str name tk],[]⟩) Q E ⟨h,g,d,t,os⟩:=by
 have L0:=I.type (M:=model prog w);unfold Builtin.«object.__getattribute__»;apply Ja;apply Jd;apply Ja;apply Jd;apply Ja;apply L0.at;apply Ja;apply hf.at;cases f with
 | value v=>exact hq
 | bind a b=>exact hq
 | missing=>exact absurd rfl hm
def mh{tk:Tok}{fill expr:Bool}{Q:EV}{f:Found}{v:ω}(X:K.In h)(c:ExA K C)(I:W.InstAt h x ox C od)(hf:W.Looks (model prog w) h (find (.ref x) (.ref C) name) f)(hm:f≠.missing)
  (hq:∀ {A:Around} {E:EV} {Q:Fin->Γ->Prop},Q (.done (.ret v)) ⟨h,g,d,t,os⟩->wpAny (model prog w) A (match f with | .value v=>ret v | .bind g a=>bindTo g a (.ref x) (.ref C) | .missing=>unsupported "") Q E ⟨h,g,d,t,os⟩)
  (hh:handedIn v=true) (hv:Q v ⟨h,g,d,t,os⟩):wpAny (model prog w) A (getAttrBy (.ref x) (.str name tk) fill expr) Q E ⟨h,g,d,t,os⟩:=by
 have L0:=I.type (M:=model prog w);have L1:=looks_findIn (M:=model prog w) X c.ga;have L2:=looks_findIn (M:=model prog w) X c.gt;have qL:(expr&&onTheHeap (Value.builtin "BaseException.__getattribute__"))=false:=by cases expr <;> rfl
 have apart:(onTheHeap (Value.ref C)&&Value.builtin "BaseException.__getattribute__" == Value.builtin "object.__getattribute__")=false:=by
  rw[show(Value.builtin "BaseException.__getattribute__" == Value.builtin "object.__getattribute__")=false from by rfl'];rfl
 have f3:=PySem.F.attrBase_ValueError.ga.bind (.ref x);have body:∀ {A:Around} {R:Result->Γ->Prop},R (.ok (.ret v)) ⟨h,g,d,t,os⟩->codeAny (model prog w) A (.call (.builtin "BaseException.__getattribute__") ⟨[.ref x,.str name tk],[]⟩) R ⟨h,g,d,t,os⟩:=λ{A R} r =>
  codeAny_call_builtin PySem.F.attrBase_ValueError.ga.plain PySem.F.entry_bexc_ga (tm X c.toExC I (tq X I hf (hq r) hm))
 unfold getAttrBy;apply Jj;apply Ja;apply L0.at;apply Ja;apply L1.at;show wpAny _ _ (if(onTheHeap (Value.ref C)&&Value.builtin "BaseException.__getattribute__" == Value.builtin "object.__getattribute__")=true then _ else getAttrByItsOwn (.ref x) (.str name tk) (.ref C) (.builtin "BaseException.__getattribute__") fill expr) _ _ _;rw[if_neg (by rw[apart];exact Yh)];unfold getAttrByItsOwn;apply Ja;show wpAny _ _ (typeLookup (.ref C) "__getattr__") _ _ _;apply L2.at;apply Ja;apply wpAny_attempt;apply Jj;unfold callGetattribute;rw[if_neg (by rw[qL];exact Yh)];unfold boundAndCalled;apply Ja;refine wpAny_of_eq f3 ?_;refine wpAny_call (body ?_);show wpAny _ _ (handedOut v) _ _ _;rw[handedOut_of hh];exact Jd hv
def zg(c:ExA K C):KitX K (.ref x) (.ref C) (λh=>InstAt h x ox C od) where
 ty:=λ_ _ _ I=>I.type
 it:=λ_ _ X _=>by
  obtain⟨nm,q,N,bs,bm,hdct,sn,sub,ab,col,dd,k0,k1,k2,k3,k5,lk⟩:=c.obj;intro A' Q' E' s' k q;unfold isType loadHead;apply Ja;apply wpAny_loadPart (k _ _ (X _ _ lk));exact Jd q
 ne:=λh tp dd η n sl X e=>by
  obtain⟨nm,q,N,bs,bm,hdct,sn,sub,ab,col,dd,k0,k1,k2,k3,k5,lk⟩:=c.obj;have hC:=X _ _ lk;refine Bool.eq_false_iff.mpr λz=>?_;have z:C=tp:=Value.ref.inj (beq_iff_eq.mp z);rw[z,e]at hC;have q1:Value.type "tuple"=Value.type "type":=congrArg (λo=>Option.elim o Value.none Obj.cls) hC;exact absurd q1 (by decide)
 ca:=λ{prog w A E Q s} X I q=>by
  obtain⟨hh,g,d,t,os⟩:=s;have hcls:∃ cd,clsIn K C≈cd:=by
   obtain⟨nm,q,N,bs,bm,hdct,sn,sub,ab,col,dd,k0,k1,k2,k3,k5,lk⟩:=c.obj;unfold clsIn;rw[lk];exact⟨Z⟩
  obtain⟨cd,hcd⟩:=hcls;have hf:findObj K C od "__class__"≈(.bind (.builtin "getset_descriptor.__get__") (.builtin "object.__class__")):=by
   unfold findObj;rw[hcd,c.ca];dsimp only[Option.bind];rw[c.cg];dsimp only;rw[c.ct]
  unfold getAttr? getAttrBy?;apply Ja;apply wpAny_mkText;apply Ja;apply wpAny_attempt;refine mh X c I (looks_find X I hf) (λz=>nomatch z) (λ{A E Q} r=>?_) rfl (Jd q);show wpAny _ _ (bindTo (.builtin "getset_descriptor.__get__") (.builtin "object.__class__") (.ref x) (.ref C)) _ _ _;unfold bindTo;show wpAny _ _ (holding [.builtin "object.__class__"] (call (.builtin "getset_descriptor.__get__") [.builtin "object.__class__",.ref x,.ref C])>>=ret) _ _ _;apply Ja;apply Jj;exact wpAny_call (class_get (ox:=ox) (od:=od) X I c.ob (Jd r))
end
end L2
namespace L2
open PySem PySem.Spec PyProof.Rows
def XO(e C:χ)(dx:Option χ):HO:=.ext λh=>∃ o,h.get? e≈o/\o.cls=.ref C/\o.dict=dx/\W.notCls o=true
abbrev TF:=St->Hp->(Hp->Prop)->Prop
def PF(X:Cx)(e:Expr)(t:TF):Prop:=∀(π:PL) (s:Γ) (σ:St) (H:Hp) (Q:Hp->Prop),Inv X π σ H s->t σ H Q ->
 wpAny (model X.prog X.w) X.A (eval e X.env) (λu s'=>∃ y tk H',u=.str y tk/\↑y<=100000/\Inv X π σ H' s'/\Q H') X.xe s
def Xw(X:Cx)(es:ε)(t:TF):Prop:=∀(π:PL) (s:Γ) (σ:St) (H:Hp) (Q:Hp->Prop) (acc:Str) (j:Nat),Inv X π σ H s->↑acc<=100000 * j->j + ↑es<=100->t σ H Q ->
 Joins (model X.prog X.w) X.A X.xe (evalEach es X.env) acc (λout s'=>∃ H',↑out<=10000000/\Inv X π σ H' s'/\Q H') s
section
variable {X:Cx}{e:Expr}{es:ε}{te:TE}{t u:TF}{pos:Pos}
def QP(x:Str):TF:=λ_ H Q=>↑x<=100000/\Q H
def Kv{x j}:PF X (.Constant (.str x) j pos) (QP x):=λ_ _ _ H _ I h=>Calls.Constant_str ⟨x,_,H,Y,h.1,I.tok _,h.2⟩
def oA(te:TE):TF:=λσ H Q=>te σ H λv H1=>∃ i:Int,v=.int i/\i.natAbs<2 ^ 64/\Q H1
def gY{i:Int}(h:i.natAbs<2 ^ 64):i.natAbs.log2<1920:=by
 by_cases z:i.natAbs=0
 ·rw[z];decide
 ·exact IP ((Nat.log2_lt z).mpr h) (by decide)
def zv{i:Int}(h:i.natAbs<2 ^ 64):↑(Str.ofString (toString i))<=100000:=by
 have e:=PySem.int_text_length_le (k:=1920) (by decide) (gY h);rw[PySem.ofString_length];omega
def nC(he:PE X e te):PF X (.FormattedValue e (-1) none pos) (oA te):=by
 ac_rfl;refine wpAny_FormattedValue_plain (AH (he π s σ H _ I h) λv s1 ⟨x,H1,I1,r1,i,ex,hi,q⟩=>?_);subst ex;obtain⟨t,rfl⟩:=r1;exact wpAny_formatField_int (gY hi) ⟨_,_,H1,Y,zv hi,I1.tok _,q⟩
def xf(te:TE):TF:=λσ H Q=>te σ H λv H1=>∃ x:Str,v=.str x/\↑x<=1000/\(∀ c∈x.cps.toList,c<16 ^ 8)/\Q H1
def Z2k(he:PE X e te):PF X (.FormattedValue e 114 none pos) (xf te):=by
 ac_rfl;refine wpAny_FormattedValue_repr (AH (he π s σ H _ I h) λv s1 ⟨x,H1,I1,r1,y,ex,hl,hc,q⟩=>?_);subst ex;obtain⟨t,rfl⟩:=r1;have b:=StrLaws.reprText_len y hc;have b1:↑(reprText y)<=100000:=by omega
 have b2:↑(reprText y)<=sizeLine:=Yq b1 (by decide);refine pyReprObj_str (wpAny_formatField_str ?_ ?_ b2) b2
 ·exact⟨_,_,H1,Y,b1,I1.tok _,q⟩
 ·exact⟨_,_,H1,Y,b1,I1.tok _,q⟩
def XF:TF:=λ_ H Q=>Q H
def GG(t u:TF):TF:=λσ H Q=>t σ H λH1=>u σ H1 Q
def Rc:Xw X [] XF:=λπ s σ H Q acc j I ha hj h=>⟨H,by simp at hj;exact Yq ha (Yq (Nat.mul_le_mul_left _ hj) (by decide)),I,h⟩
def ER(h1:PF X e t)(h2:Xw X es u):Xw X (e :: es) (GG t u):=by
 intro π s σ H Q acc j I ha hj h;show wpAny _ _ (eval e X.env) _ _ s;refine AH (h1 π s σ H _ I h) λv s1 ⟨y,tk,H1,ev,hy,I1,q⟩=>?_;have hl:↑(acc++y)<=100000 * (j + 1):=by rw[strLen_append];omega
 have YO:j + 1 + ↑es<=100:=by simp at hj;omega
 refine⟨y,tk,ev,Yq hl (Yq (Nat.mul_le_mul_left _ (show j + 1<=100 by omega)) (by decide)),?_⟩;exact h2 π s1 σ H1 Q _ (j + 1) I1 hl YO q
def VJ(t:TF):TE:=λσ H Q=>t σ H λH1=>∀ x:Str,Q (.str x) H1
def Rb{v1 v2:Expr}{AQ:ε}(h:Xw X (v1 :: v2 :: AQ) t)(hl:↑(v1 :: v2 :: AQ)<=100:=by decide):PE X (.JoinedStr (v1 :: v2 :: AQ) pos) (VJ t):=by
 intro π s σ H Q I hq;apply wpAny_JoinedStr;have z:=h π s σ H _ Str.empty 0 I (Bm _) (by simpa using hl) hq;have mono:∀(l:List (Sem ω)) (acc:Str) (P P':Str->Γ->Prop) (s:Γ),(∀ o s',P o s'->P' o s')->Joins (model X.prog X.w) X.A X.xe l acc P s->Joins (model X.prog X.w) X.A X.xe l acc P' s:=by
  intro l
  induction l with
  | nil=>intro acc P P' s f q;exact f _ _ q
  | cons a r ih =>
   intro acc P P' s f q;exact AH (show wpAny _ _ a _ _ s from q) λv s1 ⟨y,tk,e1,e2,e3⟩=>⟨y,tk,e1,e2,ih _ P P' s1 f e3⟩
 exact mono _ _ _ _ _ (λo s' ⟨H',l,I',q'⟩=>⟨Yq l (by decide),⟨.str o,H',I'.tok _,⟨Z⟩,q' o⟩⟩) z
end
section
variable {X:Cx}{E:XK}{C:χ}{x:Str}{np AK pos:Pos}{e:Expr}{es:ε}{t:TA}
def VI(E:XK)(C:χ)(t:TA):TS:=λ_ σ H=>t σ H λvs H1=>↑vs<=sizeLine/\E (.ref C) none H1
def qt{K:Fg}{prog:Δ}{w:World}{A:Around}{E:EV}{s:Γ}{us:LU}{Q:EV}(X:K.In s.heap)(c:ExC K C)(hi:W.findIn K (.ref C) "__init__"≈(↥(.builtin "ValueError.__init__")))(hl:↑us<=sizeLine)
  (h:∀ h' t0,(∀ b o,s.heap.get? b≈o->h'.get? b≈o)->h'.get? (⇑s + 1)≈(B9 C t0)->Q (.ref (⇑s + 1)) {s with heap:=h' }):
  wpAny (model prog w) A (call (.ref C) us) Q E s:=by
 obtain⟨hp,g,d,tk,os⟩:=s;dsimp only at X h ⊢;refine iM X c hi (λself=>W.Looks.of_pure (PySem.F.excBase_ValueError.init.bind self)) hl ?_;have up:∀ b o,hp.get? b≈o->((hp.push (EN us)).push (B9 C hp.objs.size)).get? b≈o:=λb o q=>Yb _ (Yb _ q);have got:((hp.push (EN us)).push (B9 C hp.objs.size)).get? (hp.objs.size + 1)≈(B9 C hp.objs.size):=Heap.get?_push_at (by rw[C6]) rfl;refine jJ (t0:=hp.objs.size) (X.keeps up) c got hl ⟨Y,h _ ((hp.push (EN us)).push (B9 C hp.objs.size)).objs.size (λb o q=>?_) ?_⟩
 ·have nb:b≠hp.objs.size + 1:=Yl (Nat.lt_succ_of_lt (Yc q));rw[Fq _ _ (Ae nb)];exact Yb _ (up b o q)
 ·rw[ED _ (Yb _ got) rfl];rfl
def WR(F:Ag X E)(hh:X.A.handled=none)(c:ExC X.K C)(hi:W.findIn X.K (.ref C) "__init__"≈(↥(.builtin "ValueError.__init__")))(hg:Gl X x)(hm:X.mg x≈(.ref C))(ha:PA X (e :: es) t)
  (hdb:(x == ("__debug__":Str))=false:=by decide) (he:starEach (e :: es) X.env=(false,eval e X.env):: starEach es X.env:=by rfl) (hpl:(backTo AK (starEach es X.env)).any (·.1)=false:=by rfl):
  PS X (.Raise (↥(.Call (.Name x np) (e :: es) [] AK)) none pos) (VI E C t):=by
 intro π s σ H D I h;refine kH c hh (wpAny_Call_Name_kw (Kw I hg hm ?_ hdb));refine W.callWith_K (h₀:=X.base) I.ok.mod.kin c.kp (AH (ha AK π s σ H _ I h) λus s1 ⟨vs,H1,I1,r,hl,q⟩=>⟨I1.kIn,?_⟩) he hpl;refine qt I1.kIn c hi (by rw[List.nil_append,<- ↑r];exact hl) λh' t0 k got=>?_;have I2:Inv X π σ H1 {s1 with heap:=h' }:=I1.kept (t':=s1.toks) k;refine⟨_,t0,none,#[],Y,I2.kIn,got,?_⟩;exact F.raised I2 (I1.fpOk (Ld _) (I1.hok.fresh (Ld _))) got rfl rfl q
end
section
variable {X:Cx}{π:PL}{σ:St}{H:Hp}{s:Γ}{A:Around}{E:EV}{Q:EV}{e C:χ}{dx:Option χ}{cv:ω}{b:Bool}
def Pq(H:Hp)(dx:Option χ):Prop:=dx=none\/∃ a fs,dx≈a/\H a≈(.xd fs)
def Z1l(I:Inv X π σ H s)(hx:H e≈(XO e C dx))(hd:Pq H dx):∃ ox od,W.InstAt s.heap e ox C od:=by
 have q:A1 X.prog X.w H s.heap e (XO e C dx):=I.hok e _ hx;obtain⟨⟨o,h1,h2,h3,h4⟩,_⟩:=q
 rcases hd with hd | ⟨a,fs,hd,ha⟩
 ·exact⟨o,none,⟨h1,h2,h4,by rw[h3,hd];trivial⟩⟩
 ·have q:A1 X.prog X.w H s.heap a (.xd fs):=I.hok a _ ha;obtain⟨mA,⟨oa,es,ep,e1,_⟩,_⟩:=q;exact⟨o,↥oa,⟨h1,h2,h4,by rw[h3,hd];exact e1⟩⟩
def vN(I:Inv X π σ H s)(hx:H e≈(XO e C dx))(hd:Pq H dx)(c:ExA X.K C)(k:W.kitOne X.K (.ref C) cv≈b)(h:∀ tk,Q (.bool b) {s with toks:=tk}):
  wpAny (model X.prog X.w) A (call (.builtin "isinstance") [.ref e,cv]) Q E s:=by
 obtain⟨ox,od,J⟩:=Z1l I hx hd;exact W.kia_one (zg (ox:=ox) (od:=od) c) I.kIn J k (λz=>nomatch z) h
end
abbrev Si:=ω->Option χ->St->Hp->Prop
abbrev Qf:=F9->Si->St->Hp->Prop
abbrev Xs:=St->Hp->VK->XK->Prop
def XP(X:Cx)(π:PL)(E:Si)(ev:ω)(s':Γ):Prop:=∃(e T:χ) (cls:ω) (dx:Option χ) (σ':St) (H':Hp),ev=.ref e/\Inv X π σ' H' s'/\CY X π H' e/\CY X π H' T/\Fz s'.heap e T cls dx .none/\E cls dx σ' H'
def oM(X:Cx)(e:Expr)(t:Xs):Prop:=∀(π:PL) (s:Γ) (σ:St) (H:Hp) (Q:VK) (E:XK),Inv X π σ H s->t σ H Q E ->
 wpAny (model X.prog X.w) X.A (eval e X.env) (EP X π σ Q) (XP X π λc d σ' H'=>σ'=σ/\E c d H') s
def oK(X:Cx)(st:Stmt)(t:Qf):Prop:=∀(π:PL) (s:Γ) (σ:St) (H:Hp) (D:F9) (E:Si),Inv X π σ H s->t D E σ H->wpAny (model X.prog X.w) X.A (exec st X.env) (SP X π D) (XP X π E) s
def n6(X:Cx)(st:List Stmt)(t:Qf):Prop:=∀(π:PL) (s:Γ) (σ:St) (H:Hp) (D:F9) (E:Si),Inv X π σ H s->t D E σ H->wpAny (model X.prog X.w) X.A (execs st X.env) (SP X π D) (XP X π E) s
section
variable {X:Cx}{st:Stmt}{AQ:List Stmt}{t u:Qf}{e:Expr}{te:Xs}{pos:Pos}
def sO(h1:oK X st t):n6 X [st] t:=by
 intro π s σ H D E I h;refine wpAny_execs_cons (AH (h1 π s σ H D E I h) λf s1 q=>?_);cases f with
 | next=>exact wpAny_execs_nil q
 | ret v=>exact q
 | brk=>exact q
 | cont=>exact q
def yX(te:Xs):Qf:=λD E σ H=>te σ H (λ_ H1=>D.nx σ H1) λc d H1=>E c d σ H1
def Z1k{π:PL}{E E':Si}(f:∀ c d σ H,E c d σ H->E' c d σ H){ev:ω}{s':Γ}(h:XP X π E ev s'):XP X π E' ev s':=by
 obtain⟨e,T,cls,dx,σ',H',r,I,fe,fT,a,q⟩:=h;exact⟨e,T,cls,dx,σ',H',r,I,fe,fT,a,f _ _ _ _ q⟩
def sP(he:oM X e te)(hs:swapsWith e none pos.line X.env=pure false:=by rfl):oK X (.Expr e pos) (yX te):=by
 intro π s σ H D E I h;refine wpAny_Expr_any (Jf (he π s σ H _ _ I h) (λv s1 ⟨x,H1,I1,r1,q1⟩=>⟨σ,H1,I1,q1⟩) λev s1 z=>Z1k (λc d σ' H' q=>?_) z) I.quiet hs;obtain⟨rfl,q⟩:=q;exact q
end
section
variable {X:Cx}{k:Nat}{f C:χ}{fd:FuncData}{ps:LS}{sp:Sp}{CN:LV}{ds:LU}{x m:Str}{p pos apos:Pos}{e o:Expr}{es:ε}{ta:TE}{t:TA}
def Z1y{π:PL}{σ:St}{H:Hp}{s:Γ}{Q:VK}{E:XK}{us:LU}{vs:LV}(F:AN X.prog X.w X.K X.mg X.base (AZ X.prog X.w) k f fd ps sp)(hr:AX k X.A)(hb:CC X.K fd ps [])
  (I:Inv X π σ H s) (r:AR vs us) (h:sp vs H Q E):wpAny (model X.prog X.w) X.A (call (.ref f) us) (EP X π σ Q) (XP X π λc d σ' H'=>σ'=σ/\E c d H') s:=by
 have hl:↑(us++[])=↑ps:=by rw[EE,<- ↑r];exact F.len _ _ _ _ h
 have b:=hb s us I.kIn hl;rw[EE]at b;refine wpAny_call (codeAny_mono (F.run X.A X.stack s H ⟨us,[]⟩ us vs Q E hr I.env0 b r h) λr s' hq=>?_);cases r with
 | error e =>
  obtain⟨e,T,cls,dx,H',rfl,os,bare,un,hok,he,hT,se,sT,a,q⟩:=hq;exact⟨e,T,cls,dx,σ,H',Y,I.call' (ch:=[]) os un hok bare (λb z=>nomatch z),I.fpOk se he,I.fpOk sT hT,a,Y,q⟩
 | ok fl =>
  cases fl with
  | ret u=>exact I.after hq
  | next=>exact False.elim hq
  | brk=>exact False.elim hq
  | cont=>exact False.elim hq
def yW(sp:Sp)(t:TA):Xs:=λσ H Q E=>t σ H λvs H1=>sp vs H1 Q E
def Z2r{π:PL}{s:Γ}{σ:St}{H:Hp}{Q:LV->Hp->Prop}{E:EV}(ha:PA X.nox es t)(I:Inv X π σ H s)(h:t σ H Q):
  wpAny (model X.prog X.w) X.A (spliced (backTo pos (starEach es X.env))) (AP X π σ Q) E s :=
 Jf (ha pos π s σ H Q (I.wish _) h) (λ_ _ ⟨vs,H',I',r,q⟩=>⟨vs,H',I'.unwish,r,q⟩) λ_ _ z=>False.elim z
def sH{st:Stmt}(d:Def X.K X.mg x st ps f fd)(F:AN X.prog X.w X.K X.mg X.base (AZ X.prog X.w) k f fd ps sp)(hr:AX k X.A)(hg:Gl X x)(ha:PA X.nox (e :: es) t)(hdb:(x == ("__debug__":Str))=false:=by decide)
  (he:starEach (e :: es) X.env=(false,eval e X.env):: starEach es X.env:=by rfl) (hpl:(backTo pos (starEach es X.env)).any (·.1)=false:=by rfl):oM X (.Call (.Name x p) (e :: es) [] pos) (yW sp t):=by
 intro π s σ H Q E I h;refine wpAny_Call_Name_kw (Kw I hg d.m ?_ hdb);refine W.callWith_K (h₀:=X.base) I.ok.mod.kin d.fn.kp (AH (Z2r ha I h) λus s1 ⟨vs,H1,I1,r,q⟩=>⟨I1.kIn,?_⟩) he hpl;exact Z1y F hr d.b I1 r q
end
section
variable {K:Fg}{M:Model}{A:Around}{E:EV}{h:Heap}{g:Array GenState}{d:Drawn}{t:Nat}{os:OsState}{e C D:χ}
def wQ{oe:Obj}{Q:Bool->Γ->Prop}(X:K.In h)(cD:ExC K D)(he:h.get? e≈oe)(hcls:oe.cls=.ref C)(cC:ExC K C)(hs:W.subIn K (.ref C) (.ref D)≈true)(hq:Q true ⟨h,g,d,t,os⟩):
  wpAny M A (excMatches (.ref e) (.ref D)) Q E ⟨h,g,d,t,os⟩:=by
 obtain⟨nm,q,N,bs,bm,hdct,sn,sub,ab,col,dd,k0,k1,k2,k3,k5,lk⟩:=cD.obj;obtain⟨nm',q',N',bs',bm',oW,sn',sub',ab',col',F8,k0',k1',k2',k3',k5',eN⟩:=cC.obj;have cB:=JC lk cD.bas;have cS:=JC eN hs;have hD:=X _ _ lk;have hC:=X _ _ eN;have f:=tc_notTuple;unfold excMatches
 repeat (first | (with_reducible refine Ji he ?_;rw[hcls]) | with_reducible refine Ji hD ?_ | (with_reducible refine wpAny_isSubtype_exc hD ?_;rw[cB]) | (with_reducible refine wpAny_isSubtype_exc hC ?_;rw[cS]) | wp_step)
 exact hq
end
section
variable {X:Cx}{π:PL}{σ:St}{H:Hp}{s:Γ}
def Inv.track{a:χ}{o:HO}(I:Inv X π σ H s)(f:CY X π H a)(ok:A1 X.prog X.w (upd H a o) s.heap a o):Inv X π σ (upd H a o) s:=by
 obtain⟨f0,f1,f2,f3,f4,f5⟩:=f;have ne:∀ b u,H b≈u->b≠a:=λb u q z=>by rw[z,f0]at q;cases q
 have old:∀ b u,X.s₀.heap.get? b≈u->b∉X.ex->b≠a:=λb u q n z=>by
  rcases f3 with r | r
  ·rw[z]at n;exact n r
  ·exact absurd (Yn (Yc q) (by rw[z];exact r)) (Gp _)
 refine⟨I.ok,I.os,I.bare,⟨I.base.keep,I.base.slot,λb u q n hx=>by rw[AE (old b u q hx)];exact I.base.free b u q n hx,I.base.there,λb xs q=>by have z:=I.base.tups b xs q;rw[AE (ne b _ z)];exact z,
  λb u xs q=>by have z:=I.base.frzs b u xs q;rw[AE (ne b _ z)];exact z,λb ps q=>by obtain⟨m,z⟩:=I.base.tbls b ps q;exact⟨m,by rw[AE (ne b _ z)];exact z⟩⟩,
  I.loc,I.cell,by rw[AE (Ae f1)];exact I.free,λx c q=>by rw[AE (f4 x c q)];exact I.freeC x c q,λp hp=>?_,λb u q=>?_,I.len⟩
 ·obtain⟨p1,p2,p3,p4,p5⟩:=I.pin p hp;exact⟨p1,by rw[AE (f5 p hp)];exact p2,p3,p4,p5⟩
 ·by_cases hb:b=a
  ·subst hb;rw[uS]at q;cases q;exact ok
  ·rw[AE hb]at q;exact(I.hok b u q).stay (λ_ _ _ z=>z) (λc z=>by rw[AE (ne c _ z)];exact z) λc xs z=>by rw[AE (ne c _ z)];exact z
def Inv.gone{i:Nat}{x:Str}{m:Str->OU}{v:OU}{h':Heap}{tk:Nat}(I:Inv X π σ H s)(hN:X.N.Nodup)(hi:X.N[i]?≈x)(hx:X.env.scope.names.lookup x≈.local)
  (hm:s.heap.Ns X.env.locals m) (hn:h'.Ns X.env.locals λy=>if y=x then v else m y) (hs:Heap.SameBut X.env.locals s.heap h'):Inv X π (σ.set i none) H {s with heap:=h',toks:=tk}:=by
 obtain⟨m0,MQ,hl⟩:=id I.loc;have hmm:m0=m:=by
  obtain⟨o1,es1,ep1,a1,a2,_,a3⟩:=MQ;obtain⟨o2,es2,ep2,b1,b2,_,b3⟩:=hm;rw[a1]at b1;cases b1;rw[a2]at b2;cases b2
  funext y
  rw[<- a3,<- b3]
 subst hmm;have cne:=I.cne;obtain⟨oL,_,_,hoL,_⟩:=id hm;refine⟨I.ok,I.os,I.bare,⟨λb o e n hb hx=>?_,λb o e n hb hx=>?_,I.base.free,λb o e hx=>?_,I.base.tups,I.base.frzs,I.base.tbls⟩,⟨_,hn,λj y v' e1 e2 e3=>?_⟩,λy c e=>?_,I.free,I.freeC,λp hp=>?_,λb ob e=>?_,by simpa using I.len⟩
 ·exact(hs.2 b (Yl (Yn (Yc e) I.ok.above))).trans (I.base.keep b o e n hb hx)
 ·obtain⟨sl,e1⟩:=I.base.slot b o e n hb hx;exact⟨sl,(hs.2 b (Yl (Yn (Yc e) I.ok.above))).trans e1⟩
 ·obtain⟨o',e1⟩:=I.base.there b o e hx;exact⟨o',(hs.2 b (Yl (Yn (Yc e) I.ok.above))).trans e1⟩
 ·have hj:j≠i:=λz=>by
   subst z;by_cases hb:j<↑σ
   ·rw[Xh hb]at e2;cases e2
   ·rw[LR (by simpa using hb)]at e2;cases e2
  rw[List.getElem?_set_ne (Ae hj)]at e2;obtain⟨u',r',q⟩:=hl j y v' e1 e2 e3;refine⟨u',r',?_⟩
  rcases q with⟨k,e⟩ | ⟨k,c,e,z⟩
  ·refine .inl ⟨k,?_⟩;have:y≠x:=λe=>hj (Rm hN e1 (e ▸ hi));simp[this,e]
  ·exact .inr ⟨k,c,e,z.sameBut hs (cne y c e)⟩
 ·obtain⟨w',z⟩:=I.cell y c e;exact⟨w',z.sameBut hs (cne y c e)⟩
 ·obtain⟨e,n,ne,nf,d⟩:=I.pin p hp;exact⟨(hs.2 p.1 ne).trans e,n,ne,nf,d⟩
 ·refine(I.hok b ob e).stay (λc w' hc q=>(hs.2 c ?_).trans q) (λ_ q=>q) λ_ _ q=>q;rintro rfl
  rcases hc with rfl | hc
  ·rw[I.free]at e;cases e
  ·rw[I.free]at hc;cases hc
abbrev Cx.marked(X:Cx)(v:ω):Cx:={X with A:=X.A.mark (↥v),calm:=false,xe:=λ_ _=>False}
def Inv.mark(I:Inv X π σ H s)(v:ω):Inv (X.marked v) π σ H s :=
 ⟨⟨I.ok.mod,I.ok.kind,I.ok.glob,I.ok.blt,I.ok.above,I.ok.inj,I.ok.has,I.ok.cab,λz=>absurd z Yh,I.ok.frames,I.ok.stk,I.ok.exf,I.ok.bs,I.ok.bsz,I.ok.noex,I.ok.exfs,I.ok.funs,I.ok.frf⟩,
  I.os,I.bare,I.base,I.loc,I.cell,I.free,I.freeC,I.pin,I.hok,I.len⟩
def Inv.unmark{v:ω}(J:Inv (X.marked v) π σ H s)(ok:X.Ok):Inv X π σ H s :=
 ⟨ok,J.os,J.bare,J.base,J.loc,J.cell,J.free,J.freeC,J.pin,J.hok,J.len⟩
end
section
variable {X:Cx}{D:χ}{body:List Stmt}{t:Qf}{x n dn:Str}{np xp ep ap hp pos:Pos}{i j:Nat}
def Yax(K:Fg)(D:χ)(i j:Nat)(t:Qf):TS:=λB σ H=>t B (λcls dx σ' H'=>∃ C,cls=.ref C/\ExC K C/\W.subIn K (.ref C) (.ref D)≈true /\
 ∀ e,H' e=none->B.nx (((σ'.set j (↥(.ref e))).set i (↥(.ref e))).set j none) (upd H' e (XO e C dx))) σ H
def zK(hst:X.stack=X.env :: X.outer)(hf:X.env.frame≈X.env.locals)(cD:ExC X.K D)(hN:X.N.Nodup)(hg:Gl X dn)(hm:X.mg dn≈(.ref D))(hi:X.N[i]?≈x)(hx:Loc X.env.scope x)(hj:X.N[j]?≈n)
  (hn:X.env.scope.names.lookup n≈.local) (hb:n6 X body t) (hfx:X.fn x=true\/X.env.scope.names.lookup x≈.local:=by first | exact .inl rfl | exact .inr rfl | assumption) (hdb:(dn == ("__debug__":Str))=false:=by decide)
  (hd2:(n == ("__debug__":Str))=false:=by decide) (Hj:(n == ("__classdict__":Str))=false:=by decide) (hs:∀ v,swapsWith (.Name n ep) (↥(.Name x xp)) ap.line (X.marked v).env=pure false:=by intro;rfl):
  PS X (.Try body [.ExceptHandler (↥(.Name dn np)) (↥n) [.Assign [.Name x xp] (.Name n ep) ap] hp] [] [] pos) (Yax X.K D i j t):=by
 intro π s σ H B I h;refine wpAny_Try_except (Jf (hb π s σ H B _ I h) (λf s1 q=>?_) λev s1 z=>?_)
 ·cases f with
  | next=>exact wpAny_execs_nil q
  | ret v=>exact q
  | brk=>exact q
  | cont=>exact q
 ·obtain⟨e,T,cls,dx,σ',H',rfl,I1,fe,fT,a,C,rfl,cC,csub,q⟩:=z;have hfr:X.A.frames≈(X.env :: X.outer):=by rw[<- hst];exact I1.ok.frames
  have hl:s1.heap.FunFrames X.base (X.env :: X.outer):=by rw[<- hst];exact I1.stack
  refine jQ hfr hl hf a λh1 T1 Pk a1 c1=>?_;refine WW a1 λh2 a2 c2=>?_;rw[<- hst]at c1;have c3:Bg (CB X.stack) [T1,e,T] s1.heap h2:=(c1.mono (λb z=>z) λb z=>by simp at z;rcases z with z | z <;> simp[z]).trans (c2.mono (λb z=>nomatch z) λb z=>by simp at z;simp[z]);have I2:Inv X π σ' H' {s1 with heap:=h2}:=I1.call (ch:=[e,T]) (t':=s1.toks) (d':=s1.drawn) (g':=s1.gens) (Un.chg (c3.drop Pk) (λb z=>z) λb z=>z) (I1.hok.chg (c3.drop Pk) I1.stkFree λb z=>by
   simp at z;rcases z with z | z <;> rw[z];exact fe.1;exact fT.1) I1.bare λb z=>by
   simp at z;rcases z with z | z <;> rw[z];exact⟨fe.2.2.2.1,fe.2.1,fe.2.2.2.2.1,fe.2.2.2.2.2⟩;exact⟨fT.2.2.2.1,fT.2.1,fT.2.2.2.2.1,fT.2.2.2.2.2⟩
  have RJ:CY X π H' T1:=I1.fpOk Pk (I1.hok.fresh Pk);have M2:=I2.mark (.ref e);refine wpAny_handleBy_cons (codeAny_handlers_test (Kw (X:=X.marked (.ref e)) M2 hg hm ?_ hdb)) (by intro q;cases q);obtain⟨oe,vs,he,hc,hdx,hd,YH⟩:=a2.obj;refine wQ I2.kIn cD he hc cC csub (codeAny_handlers_suite_as ?_);refine WW a2 λh3 a3 c4=>?_;have c5:Bg (CB X.stack) [T1] h2 h3:=c4.mono (λb z=>nomatch z) λb z=>z;have I3:Inv X π σ' H' {s1 with heap:=h3}:=I2.call (s:={s1 with heap:=h2}) (h':=h3) (ch:=[T1]) (t':=s1.toks) (d':=s1.drawn) (g':=s1.gens) (Un.chg c5 (λb z=>z) λb z=>z) (I2.hok.chg c4 (λb z=>(nomatch z:H' b=none)) λb z=>by simp at z;rw[z];exact RJ.1) I2.bare λb z=>by
   simp at z;rw[z];exact⟨RJ.2.2.2.1,RJ.2.1,RJ.2.2.2.2.1,RJ.2.2.2.2.2⟩
  obtain⟨dw,VF,fV,qW,cj,ck,hv3⟩:=a3.obj;have I4:Inv X π σ' (upd H' e (XO e C dx)) {s1 with heap:=h3}:=I3.track fe ⟨⟨dw,fV,qW,cj,by unfold W.notCls;rw[ck]⟩,⟨dw,fV⟩,λh1 h2 ⟨o,q1,q2⟩ k=>⟨o,k o q1,q2⟩⟩;have M4:=I4.mark (.ref e);refine Zz (X:=X.marked (.ref e)) (i:=j) M4 hN hj (.inl hn) (v:=.ref e) rfl (λs5 M5=>?_) (.inr hn);have L5:(σ'.set j (↥(.ref e)))[j]?≈(↥(.ref e)):=by
   have:j<↑σ':=by rw[I3.len];exact(Yf.mp hj).1
   rw[Xh this]
  have R:=(AG (Cc (X:=X.marked (.ref e)) (i:=i) (pos:=ap) (pos':=xp) hN hi hx (m_ (X:=X.marked (.ref e)) (pos:=ep) hj (.inl hn) hd2 Hj) (hs _) hfx)) π s5 _ _
   {nx:=λσ6 H6=>σ6=(σ'.set j (↥(.ref e))).set i (↥(.ref e))/\H6=upd H' e (XO e C dx),rt:=λ_ _=>False} M5 ⟨_,L5,Y,Y⟩
  refine Jf R (λf s6 q6=>?_) λ_ _ z=>False.elim z;cases f with
  | ret v=>obtain⟨_,_,_,_,_,z⟩:=q6;exact z.elim
  | brk=>obtain⟨_,_,_,z⟩:=q6;exact z.elim
  | cont=>obtain⟨_,_,_,z⟩:=q6;exact z.elim
  | next =>
   obtain⟨σ6,H6,M6,rfl,rfl⟩:=q6;have I6:=M6.unmark I.ok;obtain⟨m,fB,_⟩:=id I6.loc;refine wpAny_nameGoes_keeps hn fB (by rw[I.ok.kind];rfl) λh7 v qS qO=>?_;exact⟨_,_,I6.gone hN hj hn fB qS qO,q e fe.1⟩
end
section
variable {X:Cx}{k:Nat}{f C:χ}{fd:FuncData}{ps:LS}{sp:Sp}{x m:Str}{p pos apos:Pos}{e o:Expr}{es:ε}{ta:TE}{t:TA}
end
theorem jF:∀ {bs:List Bool}{us:LU},AR (bs.map V.bl) us->us=bs.map Value.bool
 | [],_,h=>by cases h;rfl
 | b :: r,_,h=>by
  cases h with
  | cons a t=>rw[jF t];cases a;rfl
theorem kE(h:Heap):∀ bs:List Bool,ReadsAll h (bs.map Value.bool) (bs.map PyData.bool) []
 | []=>.nil
 | b :: r=>by have:=ReadsAll.cons (Reads.bool (h:=h) b) (kE h r);exact this
theorem kD(k:Bool):∀ bs:List Bool,countIn (.bool k) (bs.map PyData.bool)=((bs.countP (· == k):Nat):Int)
 | []=>rfl
 | b :: r=>by
  rw[Ys,countIn,kD k r,List.countP_cons];cases b <;> cases k <;> simp[same] <;> omega
def ub{X:Cx}:Qg X "list.count" (λx vs H Q=>∃(l:χ) (bs:List Bool) (k:Bool),x=.ref l/\vs=[.bl k]/\H l≈(.lst (bs.map V.bl))/\Q (.int ((bs.countP (· == k):Nat):Int)) H):=by
 intro π s σ H x vs v us Q I rx rv h;obtain⟨l,bs,k,rfl,rfl,hH,q⟩:=h;cases rx;obtain⟨u,rfl,ru⟩:=rv.one;cases ru;obtain⟨z,η,n,r,hl,e⟩:=I.lstM hH;have hb:=jF r;subst hb;refine count_list_bools (xs:=bs.map PyData.bool) (hp:=s.heap) ⟨_,e,Y,Z⟩ (kE _ _) ?_ ?_
 ·rw[List.all_map,Cd];intro b _;rfl
 ·rw[kD];exact⟨.int _,H,I.tok _,⟨Z⟩,q⟩
def iW{K:Fg}{C D:χ}{b:Bool}(h1:W.isClsIn K D=true)(h2:W.typeIn K (.ref D)≈(.type "type"))(c:ExC K C)(h:W.subIn K (.ref C) (.ref D)≈b):W.kitOne K (.ref C) (.ref D)≈b:=by
 unfold W.kitOne;by_cases z:C=D
 ·subst z;obtain⟨nm,q,N,bs,bm,hdct,sn,sub,ab,col,dd,k0,k1,k2,k3,k5,lk⟩:=c.obj;have:=JC lk h;rw[if_pos (by simp)];rw[<- this];simp
 ·rw[if_neg (by simpa using z)];unfold W.kitCls;have Hk:(W.clsIn K D).isSome=true:=h1;show(if((W.clsIn K D).isSome&&W.typeIn K (.ref D) == ↥(.type "type"))=true then W.subIn K (.ref C) (.ref D)else none)≈b;rw[if_pos (by rw[Hk,h2];rfl)];exact h
def ua{K:Fg}{C:χ}(c:ExC K C):W.kitOne K (.ref C) (.type "ValueError")≈true:=by
 unfold W.kitOne;rw[if_neg (by simp)];unfold W.kitCls;show(if W.kitMeta "ValueError"=true then W.subIn K (.ref C) (.type "ValueError")else none)≈true;rw[if_pos (by rfl')];exact c.val
def ye(K:Fg):LV->Hp->VK->Prop:=λxs H Q=>∃(e C:χ) (dx:Option χ) (y:V) (cv:ω) (b:Bool),xs=[.ref e,y]/\AW y cv/\(∀ u,AW y u->u=cv)/\H e≈(XO e C dx)/\Pq H dx/\ExA K C/\W.kitOne K (.ref C) cv≈b/\Q (.bl b) H
def Df{X:Cx}:Em X (.builtin "isinstance") (ye X.K):=by
 intro π s σ H xs us Q I r h;obtain⟨e,C,dx,y,cv,b,rfl,ry,hy,hx,hd,c,k,q⟩:=h;obtain⟨u,w',rfl,r1,r2⟩:=mL r;cases r1;rw[hy w' r2];exact vN I hx hd c k λtk=>⟨.bl b,H,I.tok _,Y,q⟩
def AA.xdict{H H':Hp}{dx:Option χ}(h:Pq H dx)(s:AA H H'):Pq H' dx:=h.elim .inl λ⟨a,fs,e,x⟩=>.inr ⟨a,fs,e,s _ _ x⟩
def oG:Expr->Option Int
 | .Constant (.int i) _ _=>↥i
 | _=>none
section
variable {X:Cx}
end
end L2
namespace L2
open PySem PySem.W PySem.Spec PyProof.Rows
theorem bT{K:Fg}{H:Hp}:∀ xs:LS,A6 K H (xs.map V.str) (xs.map Dat.str)
 | []=>.nil
 | x :: r=>.cons (.str x) (bT r)
theorem aK:∀ xs:LS,kqdPs (xs.map Dat.str)=xs.map PyData.str
 | []=>by rw[List.map_nil,kqdPs];rfl
 | x :: r=>by rw[Ys,kqdPs,aK r,kqdP];rfl
theorem aH:∀ xs:LS,PyData.depthAll (xs.map PyData.str)=0
 | []=>by rw[List.map_nil,PyData.depthAll]
 | x :: r=>by rw[Ys,PyData.depthAll,aH r,PyData.depth];rfl
theorem aR:∀ xs:LS,PyData.hasDictAll (xs.map PyData.str)=false
 | []=>by rw[List.map_nil,PyData.hasDictAll]
 | x :: r=>by rw[Ys,PyData.hasDictAll,aR r,PyData.hasDict];rfl
theorem i0:∀ {xs:LS},(∀ x∈xs,↑x<=50/\∀ c∈x.cps.toList,c<16 ^ 8)->((xs.map reprText).map (·.length)).sum<=502 * ↑xs
 | [],_=>by simp
 | x :: r,h=>by
  have ih:=i0 (xs:=r) λy hy=>h y (by simp[hy]);obtain⟨h1,h2⟩:=h x (by simp);have b:=StrLaws.reprText_len x h2;rw[Ys,Ys,List.sum_cons,Bt];omega
def uX{xs:LS}(h:∀ x∈xs,↑x<=50/\∀ c∈x.cps.toList,c<16 ^ 8)(hl:↑xs<=100):(Str.join ", " (xs.map reprText)).length<=60000:=by
 cases xs with
 | nil=>decide
 | cons a r =>
  have s:=i0 h;rw[Ys,len_join_cons ", " (reprText a) (r.map reprText),<- Ys,Ya];have e:(Str.ofString ", ").length=2:=by decide
  rw[e];simp only[Bt]at hl s;omega
section
variable {X:Cx}{e:Expr}{te:TE}{pos:Pos}{k:Nat}
def GX(x:Str):Prop:=↑x<=50/\∀ c∈x.cps.toList,c<16 ^ 8
def bH(K:Fg)(te:TE):TF:=λσ H Q=>te σ H λv H1=>∃(t:χ) (xs:LS),v=.ref t/\(AJ K H1 t (xs.map V.str)\/AD K H1 t (xs.map V.str))/\↑xs<=100/\(∀ x∈xs,GX x)/\Q H1
def gq(hr:AX k X.A)(he:PE X e te):PF X (.FormattedValue e 114 none pos) (bH X.K te):=by
 ac_rfl;refine wpAny_FormattedValue_repr (AH (he π s σ H _ I h) λv s1 ⟨y,H1,I1,r1,t,xs,ey,ht,hl,hx,q⟩=>?_);subst ey;obtain rfl:v=Value.ref t:=r1;have hu:=hr.units;have hj:=uX hx hl;have fin:∀ z:Str,↑z<=100000->∀ h' u tk,(∀ b o,s1.heap.get? b≈o->h'.get? b≈o)->wpAny (model X.prog X.w) X.A (formatField (.str z u) Str.empty) (λu s'=>∃ y tk H',u=.str y tk/\↑y<=100000/\Inv X π σ H' s'/\Q H') X.xe {s1 with heap:=h',toks:=tk}:=λz hz h' u tk kp=>by
  have I2:Inv X π σ H1 {s1 with heap:=h',toks:=tk}:=I1.kept kp;exact wpAny_formatField_str ⟨_,_,H1,Y,hz,I2,q⟩ ⟨_,_,H1,Y,hz,I2.tok _,q⟩ (Yq hz (by decide))
 rcases ht with ht | ht
 ·obtain⟨as,ra⟩:=(Rep.tuple ht (bT xs)).reads I1 rfl;rw[kqdP,aK]at ra;have sh:(PyData.tuple (xs.map PyData.str)).shown.length<=100000:=by
   rw[PyData.shown_tuple,PyData.shownAll_strs,strLen_append,strLen_append];have e1:(Str.ofString "(").length=1:=by decide
   have e2:(Str.ofString (if↑(xs.map PyData.str) == 1 then ",)" else ")")).length<=2:=by split <;> decide
   omega
  refine pyReprObj_of_reads ra ?_ ?_ hr.gd ?_ (λ_ _ z=>z) (λh' u tk kp=>fin _ sh h' u tk kp) (Yq sh (by decide))
  ·rw[PyData.showable,PyData.showableAll_strs]
  ·rw[PyData.hasDict,aR];intro z;cases z
  ·rw[PyData.depth,aH];omega
 ·obtain⟨as,ra⟩:=(Rep.list ht (bT xs)).reads I1 rfl;rw[kqdP,aK]at ra;have sh:(PyData.list (xs.map PyData.str)).shown.length<=100000:=by
   rw[PyData.shown_list,PyData.shownAll_strs,strLen_append,strLen_append];have e1:(Str.ofString "[").length=1:=by decide
   have e2:(Str.ofString "]").length=1:=by decide
   omega
  refine pyReprObj_of_reads ra ?_ ?_ hr.gd ?_ (λ_ _ z=>z) (λh' u tk kp=>fin _ sh h' u tk kp) (Yq sh (by decide))
  ·rw[PyData.showable,PyData.showableAll_strs]
  ·rw[PyData.hasDict,aR];intro z;cases z
  ·rw[PyData.depth,aH];omega
end
def AN.or{P:Δ}{w:World}{K:Fg}{mg:Str->OU}{base:Heap}{CX:EZ}{k:Nat}{ps:LS}{sp dY:Sp}(F:AN P w K mg base CX k f fd ps sp)(G:AN P w K mg base CX k f fd ps dY):
  AN P w K mg base CX k f fd ps (λvs H Q E=>sp vs H Q E\/dY vs H Q E):=
 ⟨λvs H Q E h=>h.elim (F.len vs H Q E) (G.len vs H Q E),λA outer s H args us vs Q E hr he hb hv hs=>hs.elim (F.run A outer s H args us vs Q E hr he hb hv) (G.run A outer s H args us vs Q E hr he hb hv)⟩
end L2
namespace L2
open PySem PySem.Spec PyProof.Rows HT
section
variable {prog:Δ}{w:World}{A:Around}{E:EV}{s:Γ}
def xV{t sl:χ}{items:δ}{vl vu:ω}{lo hi:Option Int}{Q:EV}(ht:IsTup s.heap t items)(hs:s.heap.IsSliceOf sl vl vu .none)(pl:IsPart vl lo)(pu:IsPart vu hi)
  (hw:sIx items.size 0 lo=0/\sIx items.size items.size hi=items.size) (h:Q (.ref t) s):wpAny (model prog w) A (getItem (.ref t) (.ref sl)) Q E s:=by
 obtain⟨os,hos,hcs,hds⟩:=id hs;have hTs:s.TypeIs (.ref sl) "slice":=⟨os,hos,hcs⟩;unfold getItem
 try with_reducible refine Jj ?_
 first | refine Ja (Jd ?_) | skip
 refine Ja (wpAny_sequenceKey ht.typeIs (by decide) ?_);refine Ja (wpAny_callSpecial?_slot (name:=Str.ofString "__getitem__") ht.typeIs QZ
  (wpAny_call_entry QZ ht.typeIs entry_tuple_getitem ?_ (args_tuple_getitem _ _)))
 show wpAny _ _ (Builtin.Tuple.tupleItemsOf (.ref t)>>=_) _ _ s;refine Ja (tupleItemsOf_ ht ?_);refine Ja (wpAny_typeOf hTs ?_);rw[if_pos (by decide)];refine Ja (kx hs pl pu ?_);have yes:(((sIx items.size 0 lo:Nat):Int) == 0&&(1:Int) == 1&&(sIx items.size items.size hi - sIx items.size 0 lo) == items.size)=true:=by
  rw[hw.1,hw.2];simp
 show wpAny _ _ (if(((sIx items.size 0 lo:Nat):Int) == 0&&(1:Int) == 1&&(sIx items.size items.size hi - sIx items.size 0 lo) == items.size)=true then _ else _) _ _ s;rw[if_pos yes];apply Ja;unfold Builtin.Tuple.tupleIsExact;refine Ja (wpAny_typeOf ht.typeIs ?_);apply Jd;rw[if_pos (by decide)];refine Ja (wpAny_rule ?_);refine Jd ?_;exact⟨Z,Jd h⟩
end
def bC(K:Fg):V->Option Int->Option Int->Hp->VK->Prop:=λx lo hi H Q=>∃ a xs,x=.ref a/\AJ K H a xs /\
 ((sIx ↑xs 0 lo=0/\sIx ↑xs ↑xs hi=↑xs)->Q (.ref a) H)/\(¬ (sIx ↑xs 0 lo=0/\sIx ↑xs ↑xs hi=↑xs)->∀ p,H p=none->Q (.ref p) (upd H p (.tup (Cv xs lo hi))))
def Z1u{X:Cx}:Xt X (bC X.K):=by
 intro π s σ H x v vl vu lo hi sl Q I rx hs pl pu h;obtain⟨a,xs,ex,hx,q1,q2⟩:=h;by_cases hw:sIx ↑xs 0 lo=0/\sIx ↑xs ↑xs hi=↑xs
 ·subst ex;cases rx;obtain⟨η,r,ht,hz⟩:=I.tuple hx;have hlen:η.toArray.size=↑xs:=by rw[Yk];exact r.length.symm
  refine⟨"tuple",_,QZ.lookup,ht.typeIs,?_⟩;exact xV ht hs pl pu (by rw[hlen];exact hw) ⟨.ref a,H,I,Y,q1 hw⟩
 ·exact ZK π s σ H x v vl vu lo hi sl Q I rx hs pl pu ⟨a,xs,ex,hx,hw,q2 hw⟩
def Z34{xs:LV}{lo hi:Option Int}(h:sIx ↑xs 0 lo=0/\sIx ↑xs ↑xs hi=↑xs):Cv xs lo hi=xs:=by
 unfold Cv;rw[h.1,h.2,List.drop_zero,Nat.sub_zero,CI]
def Z19{K:Fg}{H:Hp}{a:χ}{xs:LV}{lo hi:Option Int}{Q:VK}(hx:H a≈(.tup xs))(q:∀ p H',AA H H'->H' p≈(.tup (Cv xs lo hi))->Q (.ref p) H'):bC K (.ref a) lo hi H Q :=
 ⟨a,xs,Y,AJ.of hx,λh=>q a H (AA.refl _) (by rw[Z34 h];exact hx),λ_ p hp=>q p _ (λb o e=>by rw[AE (AS e hp)];exact e) uS⟩
def sU{K:Fg}{H:Hp}{a b:χ}{xs ys:LV}{Q:VK}(hx:H a≈(.tup xs))(hy:H b≈(.tup ys))(hz:↑xs + ↑ys<=sizeLine)(q:∀ p H',AA H H'->H' p≈(.tup (xs++ys))->Q (.ref p) H'):Ff K (.ref a) (.ref b) H Q :=
 ⟨a,b,xs,ys,Y,Y,AJ.of hx,AJ.of hy,hz,λe=>q b H (AA.refl _) (by rw[e];exact hy),λ_ e=>q a H (AA.refl _) (by rw[e,EE];exact hx),λ_ _ p hp=>q p _ (λc o e=>by rw[AE (AS e hp)];exact e) uS⟩
end L2
namespace L2
open PySem PySem.Spec PyProof.Rows
section
variable {X:Cx}
end
end L2
namespace L2
open PySem PySem.Spec PySem.Builtin PySem.Builtin.ObjectAttr PySem.W
structure Lm(K:Fg)(C D:χ)(a:Str):Prop extends ExA K C where
 lk:∃ nm q N bs sn sub ab col dd k0 k1 k2 k3 k5,K.lookup C≈(excClassObj nm q C N bs [.ref D,.type "ValueError",.type "Exception",.type "BaseException",.type "object"] true sn sub ab col dd k0 k1 k2 k3 k5 "ValueError.__new__")
 sa:W.findIn K (.ref C) "__setattr__"≈(↥(.builtin "object.__setattr__"))
 na:W.findIn K (.ref C) a≈none
abbrev Zk(C t:χ)(dx:Option χ):Obj:={cls:=.ref C,dict:=dx,data:=.fields #[.ref t,.none,.none,.none,.bool false,.none] }
section
variable {K:Fg}{prog:Δ}{w:World}{A:Around}{E:EV}{s:Γ}{C D e t0:χ}{a:Str}{v:ω}
def zi{tk:Tok}{R:Result->Γ->Prop}(X:K.In s.heap)(c:Lm K C D a)(he:s.heap.get? e≈(B9 C t0))
  (h:∀ h' dx,⇑s<=dx->h'.get? e≈(Zk C t0 (↥dx))->h'.Ns1 dx (λy=>if y=a then ↥v else none)->(∀ b o,b≠e->s.heap.get? b≈o->h'.get? b≈o)->R (.ok (.ret .none)) {s with heap:=h',toks:=s.toks + 1}):
  codeAny (model prog w) A (.call (.builtin "object.__setattr__") ⟨[.ref e,.str a tk,v],[]⟩) R s:=by
 obtain⟨nm,q,N,bs,sn,sub,ab,col,dd,k0,k1,k2,k3,k5,lk⟩:=c.lk;have SF:=PySem.F.store_object;have I:InstAt s.heap e (B9 C t0) C none:=⟨he,Y,Y,trivial⟩;have hcd:clsIn K C=some {name:=nm,bases:=bs,mro:=.ref C :: [.ref D,.type "ValueError",.type "Exception",.type "BaseException",.type "object"],ns:=N,qualname:=q,hasDict:=true,slotNames:=sn,subclasses:=sub,abstract:=ab,collection:=col,hasDel:=false}:=by
  unfold W.clsIn;rw[lk]
 have sb:Looks (model prog w) s.heap (isInstance (.ref e) (.type "object")) true:=I.type.andThen (looks_mroIn X c.ob);refine codeAny_call_builtin SF.slot.plain SF.entry (@check_slot (model prog w) _ _ s "object.__setattr__" "object" "__setattr__" (.ref e) [.str a tk,v] [] _ SF.kind SF.split sb (SF.args (.ref e) (.str a tk) v) ?_);have hm:Looks (model prog w) s.heap (mroOf (.ref C)) (.ref C :: [.ref D,.type "ValueError",.type "Exception",.type "BaseException",.type "object"]):=(looks_clsIn X hcd).andThen .now;rw[osa_eq,refuse_eq];refine Ja (Ja (I.type.here (Ja (hm.here ?_))));rw[refuseLoop_ref,refuseLoop_ref,PySem.F.store_ValueError.passes];refine Jd (Ja (I.type.here (Ja ((looks_findIn X c.na).here (Ja (Jd ?_))))));show wpAny _ _ (storeInOwnDict (.ref e) (.ref C) (.str a tk) a v false) _ _ _;refine Ja (Jd (Ja (Ja (wpAny_loadPart he (Ja ((looks_clsIn X hcd).here ?_))))));have hes:e≠⇑s:=Yl (Yc he);have Ke:(s.heap.push {cls:=.type "dict",data:=.dict #[] }).get? e≈(B9 C t0):=Yb _ he;obtain⟨hh,g,d,t,os⟩:=s;dsimp only at he Ke hes h ⊢;refine Ja (wpAny_alloc' (Ja (wpAny_update' Ke (Jd ?_))));have hgd:((hh.push {cls:=.type "dict",data:=.dict #[] }).update e λo=>{cls:=o.cls,dict:=↥hh.objs.size,data:=o.data,slots:=o.slots}).get? hh.objs.size=some {cls:=.type "dict",data:=.dict #[] } :=
  (Heap.get?_update_ne _ _ _ _ hes.symm).trans (Heap.get?_push_at rfl rfl)
 have hnd:((hh.push {cls:=.type "dict",data:=.dict #[] }).update e λo=>{cls:=o.cls,dict:=↥hh.objs.size,data:=o.data,slots:=o.slots}).Ns hh.objs.size (λ_=>none):=
  ⟨_,#[],_,hgd,Y,λe he=>absurd he (by simp),λ_=>rfl⟩
 show wpAny _ _ (storeInDict hh.objs.size (.str a tk) a v) _ _ _;unfold storeInDict newKeyGuard;refine Ja (Jd (Ja (wpAny_nsSet1 (Heap.Ns1.of_empty hnd) λh' Vd hs=>?_)));obtain⟨oD,esD,epD,hoD,hdD,hcD⟩:=Vd.count (Within.cons a v Within.nil);refine Ja (wpAny_lookBehind hoD (by rw[hdD];exact pastItsLine_dict (Yq hcD (by rw[Bt,List.length_nil,sizeLine_eq];omega))) ?_);refine Jd (h h' hh.objs.size (Yd _) ?_ Vd λb o hb q=>?_)
 ·exact(hs.2 e hes).trans (ED _ Ke rfl)
 ·exact(hs.2 b (Yl (Yc q))).trans ((Heap.get?_update_ne _ _ _ _ hb).trans (Yb _ q))
def zj{Q:Unit->Γ->Prop}(X:K.In s.heap)(c:Lm K C D a)(he:s.heap.get? e≈(B9 C t0))
  (h:∀ h' dx,⇑s<=dx->h'.get? e≈(Zk C t0 (↥dx))->h'.Ns1 dx (λy=>if y=a then ↥v else none)->(∀ b o,b≠e->s.heap.get? b≈o->h'.get? b≈o)->Q () {s with heap:=h',toks:=s.toks + 2}):
  wpAny (model prog w) A (setAttr (.ref e) a v) Q E s :=
 set_plain X (⟨he,Y,Y,trivial⟩:InstAt s.heap e (B9 C t0) C none) c.sa (zi (s:={s with toks:=s.toks + 1}) X c he λh' dx a1 a2 a3 a4=>h h' dx a1 a2 a3 a4)
def Z30{ox od:Obj}{Q:EV}{expr:Bool}(X:K.In s.heap)(c:Lm K C D a)(I:InstAt s.heap e ox C (↥od))(hl:lookIn a od≈(↥v))(hv:handedIn v=true)(h:Q v {s with toks:=s.toks + 1}):
  wpAny (model prog w) A (getAttr (.ref e) a expr) Q E s:=by
 obtain⟨nm,q,N,bs,sn,sub,ab,col,dd,k0,k1,k2,k3,k5,lk⟩:=c.lk;have hd:hasDictIn K C=true:=by
  unfold hasDictIn clsIn;rw[lk];rfl
 obtain⟨hh,g,d,t,os⟩:=s;unfold getAttr;refine Ja (wpAny_mkText ?_);exact mh X c.toExA I (looks_find X I (findObj_own hd c.na rfl hl)) (λz=>nomatch z) (λ{A E Q} r=>Jd r) hv h
end
end L2
namespace L2
open PySem PySem.Spec PyProof.Rows
def XN(e C:χ):HO:=.ext λh=>∃ t0,h.get? e≈(B9 C t0)
def XM(e C dx:χ):HO:=.ext λh=>∃ t0,h.get? e≈(Zk C t0 (↥dx))
def del(H:Hp)(a:χ):Hp:=λb=>if b=a then none else H b
def Zo{H:Hp}{a:χ}:del H a a=none:=by unfold del;rw[if_pos rfl]
def Mg{H:Hp}{a b:χ}(h:b≠a):del H a b=H b:=by unfold del;rw[if_neg h]
structure bx(K:Fg)(D:χ):Prop where
 ga:W.specialIn K (.ref D) "__getattribute__"≈(↥(.builtin "type.__getattribute__"))
 rd:W.readsIn K D (.type "type")=true
 fi:W.findCls K (.ref D) (.type "type") "__init__"≈(.val (.builtin "ValueError.__init__"))
section
variable {X:Cx}{π:PL}{σ:St}{H:Hp}{s:Γ}{a:χ}{φ:Heap->Prop}
def Inv.untrack(I:Inv X π σ H s)(ha:H a≈(.ext φ))(f:⇑X.s₀<=a):Inv X π σ (del H a) s:=by
 have ne:∀ b u,H b≈u->(∀ ψ,u≠.ext ψ)->b≠a:=λb u q n z=>by rw[z,ha]at q;cases q;exact n _ rfl
 have Ex:∀ b,H b=none->del H a b=none:=λb q=>by
  unfold del;split
  ·rfl
  ·exact q
 refine⟨I.ok,I.os,I.bare,⟨I.base.keep,I.base.slot,λb u q n hx=>Ex b (I.base.free b u q n hx),I.base.there,λb xs q=>?_,λb u xs q=>?_,λb ps q=>?_⟩,
  I.loc,I.cell,Ex _ I.free,λx c q=>Ex _ (I.freeC x c q),λp hp=>?_,λb u q=>?_,I.len⟩
 ·have z:=I.base.tups b xs q;rw[Mg (ne b _ z λ_ q=>nomatch q)];exact z
 ·have z:=I.base.frzs b u xs q;rw[Mg (ne b _ z λ_ q=>nomatch q)];exact z
 ·obtain⟨m,z⟩:=I.base.tbls b ps q;exact⟨m,by rw[Mg (ne b _ z λ_ q=>nomatch q)];exact z⟩
 ·obtain⟨p1,p2,p3,p4,p5⟩:=I.pin p hp;exact⟨p1,Ex _ p2,p3,p4,p5⟩
 ·have hb:b≠a:=λz=>by rw[z,Zo]at q;cases q
  rw[Mg hb]at q;exact(I.hok b u q).stay (λ_ _ _ z=>z) (λc z=>by rw[Mg (ne c _ z λ_ q=>nomatch q)];exact z) λc xs z=>by rw[Mg (ne c _ z λ_ q=>nomatch q)];exact z
end
section
variable {X:Cx}{C D f:χ}{fd:FuncData}{k:Nat}{x dn a:Str}{np AK pos apos pos':Pos}{e o value:Expr}{es:ε}{t:TA}{ta tv:TE}{ps:LS}
def pB(K:Fg)(t:TA):TE:=λσ H Q=>t σ H λvs H1=>∃ x C ws,vs=.ref x :: ws/\↑ws<=100/\ExC K C/\H1 x≈(XN x C)/\Q .non H1
def r9{pl:Sem Bool}(d:bx X.K D)(hg:Gl X dn)(hm:X.mg dn≈(.ref D))(ha:PA X (e :: es) t)(hdb:(dn == ("__debug__":Str))=false:=by decide)
  (hst:starEach (e :: es) X.env=(false,eval e X.env):: starEach es X.env:=by rfl) (hpl:(backTo AK (starEach es X.env)).any (·.1)=false:=by rfl)
  (ht:eval (.Call (.Attribute (.Name dn np) "__init__" apos) (e :: es) [] AK) X.env=(eval (.Name dn np) X.env>>=λov=>standAt apos.atName>>=λ_=>holding [ov] (getMethod ov "__init__" pl)>>=λr=>callWith AK r.1 r.2 (backTo AK (starEach (e :: es) X.env)) (backToKw AK (keywordEach [] X.env))):=by rfl):
  PE X (.Call (.Attribute (.Name dn np) "__init__" apos) (e :: es) [] AK) (pB X.K t):=by
 ac_rfl;refine W.methodCall_KW (pl:=pl) (Kw I hg hm ?_ hdb) ht;refine W.method_cls I.kIn d.ga (W.cls_value I.kIn d.rd d.fi rfl ?_);have I0:Inv X π σ H {s with toks:=s.toks + 1}:=I.tok _;refine PyProof.Rows.callWith_builtin1 (AH (ha AK π _ σ H _ I0 h) λus s1 ⟨vs,H1,I1,r,x,C,ws,ev,hl,c,hx,q⟩=>?_) hst hpl;subst ev;obtain⟨u,KW,eu,r1,r2⟩:∃ u KW,us=u :: KW/\AW (.ref x) u/\AR ws KW:=by cases r with | cons a b=>exact⟨_,_,rfl,a,b⟩
 subst eu;obtain rfl:u=Value.ref x:=r1
 ·skip
  have ok:A1 X.prog X.w H1 s1.heap x (XN x C):=I1.hok x _ hx;obtain⟨⟨t0,he⟩,_,_⟩:=ok;obtain⟨hp,g,dr,tk,os⟩:=s1;dsimp only at he;refine wpAny_call (jJ (t0:=t0) I1.kIn c he (by rw[<- ↑r2,sizeLine_eq];omega) ?_);refine⟨.non,H1,?_,Y,q⟩;have hs:x≠hp.objs.size:=Yl (Yc he);have Ke:(hp.push (EN KW)).get? x≈(B9 C t0):=Yb _ he;have up:upd H1 x (XN x C)=H1:=by
   funext b
   unfold upd;split
   ·rename_i z;rw[z];exact hx.symm
   ·rfl
  have W:=I1.write (x:=x) (e:=x) (o:=XN x C) (t':=tk) (h':=(hp.push (EN KW)).update x (Obj.mapFields (·.setIfInBounds 0 (.ref hp.objs.size)))) (by rw[hx];exact True.intro) (.inl rfl)
   (λb u hb z=>(Fq _ _ (Ae hb)).trans (Yb _ z)) ⟨_,ED _ Ke rfl⟩
   ⟨⟨hp.objs.size,ED _ Ke rfl⟩,⟨_,ED _ Ke rfl⟩,λh1 h2 ⟨t1,q1⟩ k=>⟨t1,k _ q1⟩⟩
  rw[up]at W;exact W
def pK(K:Fg)(D:χ)(ta tv:TE)(a:Str):TS:=λB σ H=>tv σ H λy H1=>ta σ H1 λx H2=>∃ e C,x=.ref e/\H2 e≈(XN e C)/\Lm K C D a /\
 ∀ dx,H2 dx=none->B.nx σ (upd (upd H2 e (XM e C dx)) dx (.xd [(a,y)]))
def Z2e(ha:PE X o ta)(hv:PE X value tv)(hs:swapsWith value (↥(.Attribute o a pos')) pos.line X.env=pure false:=by rfl):PS X (.Assign [.Attribute o a pos'] value pos) (pK X.K D ta tv a):=by
 intro π s σ H B I h;refine plainObj_wpAny_Assign_Attribute (AH (hv π s σ H _ I h) λu s1 ⟨y,H1,I1,ry,q⟩=>AH (ha π s1 σ H1 _ I1 q) λov s2 ⟨x,H2,I2,rx,e,C,ex,hx,c,q2⟩=>?_) hs;subst ex;obtain rfl:ov=Value.ref e:=rx;have ok:A1 X.prog X.w H2 s2.heap e (XN e C):=I2.hok e _ hx;obtain⟨⟨t0,he⟩,_,_⟩:=ok;refine zj I2.kIn c he λh' dx hdx Kf hn k=>?_;have fX:H2 dx=none:=I2.hok.fresh hdx;have hde:dx≠e:=Yt (Yn (Yc he) hdx);refine⟨σ,_,?_,q2 dx fX⟩;have W:=I2.write (x:=e) (e:=e) (o:=XM e C dx) (t':=s2.toks + 2) (h':=h') (by rw[hx];exact True.intro) (.inl rfl) (λb u hb z=>k b u hb z) ⟨_,Kf⟩ ⟨⟨t0,Kf⟩,⟨_,Kf⟩,λh1 h2 ⟨t1,q1⟩ k=>⟨t1,k _ q1⟩⟩;refine W.track ?_ ⟨_,hn,λf=>?_⟩
 ·refine I2.fpOk hdx ?_;rw[AE hde];exact fX
 ·by_cases q:f=a
  ·subst q;simp only[List.lookup,beq_self_eq_true,if_true];exact ry
  ·have hb:(f == a)=false:=Lj.mpr q;simp only[List.lookup,hb,if_neg q];exact True.intro
def SI(C:χ)(a:Str)(ok:V->Hp->Prop):Sp:=λvs H Q _=>∃ x y,vs=[.ref x,y]/\ok y H/\H x≈(XN x C)/\∀ dx,H dx=none->Q .non (upd (upd H x (XM x C dx)) dx (.xd [(a,y)]))
def Yay(E:XK)(C:χ)(a:Str)(ok:V->Hp->Prop)(t:TA):TS:=λ_ σ H=>t σ H λvs H1=>∃ y,vs=[y]/\(∀ x,H1 x=none->ok y (upd H1 x (XN x C)))/\∀ dx,H1 dx=none->E (.ref C) (↥dx) (upd H1 dx (.xd [(a,y)]))
def ue{E:XK}{ok:V->Hp->Prop}(Fx:Ag X E)(hh:X.A.handled=none)(c:ExC X.K C)(hi:W.findIn X.K (.ref C) "__init__"≈(↥(.ref f)))(hf:W.typeIn X.K (.ref f)≈(.type "function"))
  (F:AN X.prog X.w X.K X.mg X.base IT k f fd ps (SI C a ok)) (hr:AX (k + 1) X.A) (hb:CC X.K fd ps []) (hg:Gl X x) (hm:X.mg x≈(.ref C)) (ha:PA X (e :: es) t)
  (hdb:(x == ("__debug__":Str))=false:=by decide) (he:starEach (e :: es) X.env=(false,eval e X.env):: starEach es X.env:=by rfl) (hpl:(backTo AK (starEach es X.env)).any (·.1)=false:=by rfl):
  PS X (.Raise (↥(.Call (.Name x np) (e :: es) [] AK)) none pos) (Yay E C a ok t):=by
 intro π s σ H B I h;refine kH c hh (wpAny_Call_Name_kw (Kw I hg hm ?_ hdb));refine W.callWith_K (h₀:=X.base) I.ok.mod.kin c.kp (AH (ha AK π s σ H _ I h) λus s1 ⟨vs,H1,I1,r,y,ev,hy,q⟩=>⟨I1.kIn,?_⟩) he hpl;subst ev;rw[List.nil_append];have rl:↑us=1:=r.length.symm;obtain⟨hp,g,dr,tk,os⟩:=s1;refine iM I1.kIn c hi (λself=>W.bind_fn (I1.kIn.keeps λb o q=>Yb _ (Yb _ q)) self hf) (by rw[rl,sizeLine_eq];decide) ?_;have got:((hp.push (EN us)).push (B9 C hp.objs.size)).get? (hp.objs.size + 1)≈(B9 C hp.objs.size):=Heap.get?_push_at (by rw[C6]) rfl;have n0:H1 (hp.objs.size + 1)=none:=I1.hok.fresh (Ld _);have I2:Inv X π σ (upd H1 (hp.objs.size + 1) (XN (hp.objs.size + 1) C)) ⟨(hp.push (EN us)).push (B9 C hp.objs.size),g,dr,tk,os⟩ :=
  I1.laid (t':=tk) (λb u q=>Yb _ (Yb _ q)) (Ld _) ⟨⟨_,got⟩,⟨_,got⟩,λh1 h2 ⟨t1,q1⟩ k=>⟨t1,k _ q1⟩⟩
 have r2:AR [V.ref (hp.objs.size + 1),y] (Value.ref (hp.objs.size + 1):: us):=.cons rfl r;have hq:SI C a ok [V.ref (hp.objs.size + 1),y] (upd H1 (hp.objs.size + 1) (XN (hp.objs.size + 1) C)) (λv H2=>v=.non/\∃ dx,H1 dx=none/\dx≠hp.objs.size + 1/\H2=upd (upd (upd H1 (hp.objs.size + 1) (XN (hp.objs.size + 1) C)) (hp.objs.size + 1) (XM (hp.objs.size + 1) C dx)) dx (.xd [(a,y)])) (λ_ _ _=>False):=by
  refine⟨_,y,Y,hy _ n0,uS,λdx hd=>⟨Y,dx,?_,?_,Y⟩⟩
  ·by_cases z:dx=hp.objs.size + 1
   ·rw[z];exact n0
   ·rw[AE z]at hd;exact hd
  ·intro z;rw[z,uS]at hd;cases hd
 have hl:↑(Value.ref (hp.objs.size + 1):: us++[])=↑ps:=by rw[EE,<- ↑r2];exact F.len _ _ _ _ hq
 have b:=hb _ (Value.ref (hp.objs.size + 1):: us) I2.kIn hl;rw[EE]at b;refine codeAny_mono (F.run _ X.stack _ _ ⟨Value.ref (hp.objs.size + 1):: us,[]⟩ (Value.ref (hp.objs.size + 1):: us) _ _ (λ_ _ _=>False) (hr.make C us []) (I2.env0.make C us []) b r2 hq) λr s' E_=>?_;cases r with
 | error ev=>exact False.elim E_
 | ok fl =>
  cases fl with
  | ret u =>
   obtain⟨v,H',I3,rv,ev,dx,d1,d2,eH⟩:=I2.after E_;subst ev;have hx:H' (hp.objs.size + 1)≈(XM (hp.objs.size + 1) C dx):=by rw[eH,AE (Ae d2),uS]
   have VS:A1 X.prog X.w H' s'.heap _ (XM (hp.objs.size + 1) C dx):=I3.hok _ _ hx;obtain⟨⟨t0,g0⟩,_,_⟩:=VS;have eq:del H' (hp.objs.size + 1)=upd H1 dx (.xd [(a,y)]):=by
    funext b
    by_cases z:b=hp.objs.size + 1
    ·rw[z,Zo,AE (Ae d2),n0]
    ·rw[Mg z,eH];by_cases z':b=dx
     ·rw[z',uS,uS]
     ·rw[AE z',AE z',AE z,AE z]
   have I4:=I3.untrack hx (Yq I1.sz (Ld _));refine⟨rv,hp.objs.size + 1,t0,↥dx,#[],Y,I4.kIn,g0,?_⟩;exact Fx.raised I4 (I1.fpOk (Ld _) Zo) g0 rfl rfl (by rw[eq];exact q dx d1)
  | next=>exact False.elim E_
  | brk=>exact False.elim E_
  | cont=>exact False.elim E_
def oz(K:Fg)(D:χ)(ta:TE)(a:Str):TE:=λσ H Q=>ta σ H λx H1=>∃ e C dx fs v,x=.ref e/\H1 e≈(XO e C (↥dx))/\H1 dx≈(.xd fs)/\Lm K C D a/\fs.lookup a≈v/\Q v H1
def Z2l(ha:PE X o ta)(hb:attributeBase o a X.env (eval o X.env)=eval o X.env:=by rfl):PE X (.Attribute o a pos) (oz X.K D ta a):=by
 ac_rfl;refine gh hb (AH (ha π s σ H _ I h) λu s1 ⟨x,H1,I1,rx,e,C,dx,fs,v,ex,hx,hd,c,l,q⟩=>?_);subst ex;obtain rfl:u=Value.ref e:=rx;have ok:A1 X.prog X.w H1 s1.heap e (XO e C (↥dx)):=I1.hok e _ hx;obtain⟨⟨oe,h1,h2,h3,h4⟩,_,_⟩:=ok;have okd:A1 X.prog X.w H1 s1.heap dx (.xd fs):=I1.hok dx _ hd;obtain⟨mA,n,r⟩:=okd;obtain⟨od,ho,hl⟩:=jj n;obtain⟨u,hu,ru⟩:=CZ.some_of (v:=v) (o:=mA a) (by rw[<- l];exact r a);exact Z30 (ox:=oe) (od:=od) I1.kIn c ⟨h1,h2,h4,by rw[h3];exact ho⟩ (by rw[hl,hu]) (jM ru) ⟨v,H1,I1.tok _,ru,q⟩
end
structure Tp(K:Fg)(x:Str)(st:Stmt)(f:χ)(fd:FuncData):Prop where
 a:W.nsIn K mainGlobals x≈(↥(.ref f))
 fn:BW K x x st f fd
structure Mp(K:Fg)(C:χ)(x q:Str)(st:Stmt)(f:χ)(fd:FuncData):Prop where
 a:W.findIn K (.ref C) x≈(↥(.ref f))
 i:W.isFn K (.ref f)=true
 fn:BW K x q st f fd
structure Cp(K:Fg)(x:Str)(C:χ):Prop where
 a:W.nsIn K mainGlobals x≈(↥(.ref C))
 pg:W.plainGet K C Str.empty=true
 hd:W.hasDictIn K C=true
 po:W.plainOver K C=true
 sa:W.findIn K (.ref C) "__setattr__"≈(↥(.builtin "object.__setattr__"))
 mx:W.makesIn K C=true
 kc:W.keepIn K (.ref C)=true
section
variable {K:Fg}{x q:Str}{st:Stmt}{f C:χ}{oc:ω}{od an:Option χ}{osl:Array (OU)}{kV doc pm As ct:ω}
def tp(a:W.nsIn K mainGlobals x≈(↥(.ref f)))(l:K.lookup f≈⟨oc,od,.func (W.fnOf x x (Et st) (Dz st) (AL st) .none kV doc pm an As ct),osl⟩)(c:W.codeIn K As x=true)(k:W.keepIn K (.ref f)=true):
  Tp K x st f (W.fnOf x x (Et st) (Dz st) (AL st) .none kV doc pm an As ct):=⟨a,nP l c k⟩
def mp(a:W.findIn K (.ref C) x≈(↥(.ref f)))(i:W.isFn K (.ref f)=true)(l:K.lookup f≈⟨oc,od,.func (W.fnOf x q (Et st) (Dz st) (AL st) .none kV doc pm an As ct),osl⟩)(c:W.codeIn K As q=true)(k:W.keepIn K (.ref f)=true):
  Mp K C x q st f (W.fnOf x q (Et st) (Dz st) (AL st) .none kV doc pm an As ct):=⟨a,i,nP l c k⟩
end
section
variable {K:Fg}{mg:Str->OU}{x q:Str}{st:Stmt}{f:χ}{fd:FuncData}{h:Heap}
def eL{us:LU}(h:↑us=1):∃ a,us=[a]:=List.length_eq_one_iff.mp h
def ln2{us:LU}(h:↑us=2):∃ a b,us=[a,b]:=by
 cases us with
 | nil=>cases h
 | cons a r=>obtain⟨_,rfl⟩:=eL (Nat.succ.inj h);exact⟨_,Z⟩
def eK{us:LU}(h:↑us=3):∃ a b c,us=[a,b,c]:=by
 cases us with
 | nil=>cases h
 | cons a r=>obtain⟨_,_,rfl⟩:=ln2 (Nat.succ.inj h);exact⟨_,_,Z⟩
def eJ{us:LU}(h:↑us=4):∃ a b c d,us=[a,b,c,d]:=by
 cases us with
 | nil=>cases h
 | cons a r=>obtain⟨_,_,_,rfl⟩:=eK (Nat.succ.inj h);exact⟨_,_,_,Z⟩
def qD{us:LU}(h:↑us=5):∃ a b c d e,us=[a,b,c,d,e]:=by
 cases us with
 | nil=>cases h
 | cons a r=>obtain⟨_,_,_,_,rfl⟩:=eJ (Nat.succ.inj h);exact⟨_,_,_,_,Z⟩
def Ci(a:Str)(F:BW K x q st f fd)(e:∀(kV doc pm:ω) (an:Option χ) (As ct u:ω),bindArgs (W.fnOf x q (Et st) (Dz st) (AL st) .none kV doc pm an As ct) ⟨[u],[]⟩=pure ([a].zip [u]):=by intros;rfl):CC K fd [a] [] :=
 F.binds λ_ _ _ _ _ _ us hl=>by
 obtain⟨_,rfl⟩:=eL hl;exact e ..
def CO(a b:Str)(F:BW K x q st f fd)(e:∀(kV doc pm:ω) (an:Option χ) (As ct u v:ω),bindArgs (W.fnOf x q (Et st) (Dz st) (AL st) .none kV doc pm an As ct) ⟨[u,v],[]⟩=pure ([a,b].zip [u,v]):=by intros;rfl):CC K fd [a,b] [] :=
 F.binds λ_ _ _ _ _ _ us hl=>by
 obtain⟨_,_,rfl⟩:=ln2 hl;exact e ..
def FY(a b c:Str)(F:BW K x q st f fd)(e:∀(kV doc pm:ω) (an:Option χ) (As ct u v w:ω),bindArgs (W.fnOf x q (Et st) (Dz st) (AL st) .none kV doc pm an As ct) ⟨[u,v,w],[]⟩=pure ([a,b,c].zip [u,v,w]):=by intros;rfl):CC K fd [a,b,c] [] :=
 F.binds λ_ _ _ _ _ _ us hl=>by
 obtain⟨_,_,_,rfl⟩:=eK hl;exact e ..
def Y4(a b c d:Str)(F:BW K x q st f fd)(e:∀(kV doc pm:ω) (an:Option χ) (As ct u v w y:ω),bindArgs (W.fnOf x q (Et st) (Dz st) (AL st) .none kV doc pm an As ct) ⟨[u,v,w,y],[]⟩=pure ([a,b,c,d].zip [u,v,w,y]):=by intros;rfl):CC K fd [a,b,c,d] [] :=
 F.binds λ_ _ _ _ _ _ us hl=>by
 obtain⟨_,_,_,_,rfl⟩:=eJ hl;exact e ..
def gJ(a b c d g:Str)(F:BW K x q st f fd)(e:∀(kV doc pm:ω) (an:Option χ) (As ct u v w y z:ω),bindArgs (W.fnOf x q (Et st) (Dz st) (AL st) .none kV doc pm an As ct) ⟨[u,v,w,y,z],[]⟩=pure ([a,b,c,d,g].zip [u,v,w,y,z]):=by intros;rfl):CC K fd [a,b,c,d,g] [] :=
 F.binds λ_ _ _ _ _ _ us hl=>by
 obtain⟨_,_,_,_,_,rfl⟩:=qD hl;exact e ..
def df{ps:LS}(X:K.In h)(G:h.Ns mainGlobals mg)(T:Tp K x st f fd)(b:CC K fd ps []):Def K mg x st ps f fd:=⟨T.fn,b,W.mg_of X G T.a⟩
theorem Tp.ex{x q:Str}(F:BW K x q st f fd):∃(kV doc pm:ω) (an:Option χ) (As ct:ω),fd=W.fnOf x q (Et st) (Dz st) (AL st) .none kV doc pm an As ct:=by
 obtain⟨oc,od,kV,doc,pm,an,As,ct,osl,e,_⟩:=F.ex;exact⟨kV,doc,pm,an,As,ct,e⟩
end
structure Qp(K:Fg)(x:Str)(C:χ):Prop where
 a:W.nsIn K mainGlobals x≈(↥(.ref C))
 cl:W.isClsIn K C=true
 ty:W.typeIn K (.ref C)≈(.type "type")
structure S15(K:Fg)(q Q0 Q1 Q2 Q3 Q4 Q5 Q6 Q7 Q8 Q9 CL Ar Aq CK CJ:χ)(b0 b1 b2 b3 b4 b5 b6 b7 b8 b9 qr Hm qq qp qo:Bool):Prop where
 f0:W.subIn K (.ref q) (.ref Q0)≈b0
 f1:W.subIn K (.ref q) (.ref Q1)≈b1
 f2:W.subIn K (.ref q) (.ref Q2)≈b2
 f3:W.subIn K (.ref q) (.ref Q3)≈b3
 f4:W.subIn K (.ref q) (.ref Q4)≈b4
 f5:W.subIn K (.ref q) (.ref Q5)≈b5
 f6:W.subIn K (.ref q) (.ref Q6)≈b6
 f7:W.subIn K (.ref q) (.ref Q7)≈b7
 f8:W.subIn K (.ref q) (.ref Q8)≈b8
 f9:W.subIn K (.ref q) (.ref Q9)≈b9
 f10:W.subIn K (.ref q) (.ref CL)≈qr
 f11:W.subIn K (.ref q) (.ref Ar)≈Hm
 f12:W.subIn K (.ref q) (.ref Aq)≈qq
 f13:W.subIn K (.ref q) (.ref CK)≈qp
 f14:W.subIn K (.ref q) (.ref CJ)≈qo
section
variable {K:Fg}{C D N:χ}{nm q a:Str}{bs sub bm:LU}{hd ab:Bool}{sn:LS}{col:Option Bool}{dd:Option χ}{k0 k1 k2 k3 k5:OU}
end
end L2
namespace L2
open PySem PySem.Spec PyProof.Rows
structure Z9d(X:Cx)(scope:Scope)(own θ:LS)(js:LN):Prop where
 calm:X.calm=true
 kind:scope.kind=.function
 cells:∀ y∈scope.names,y.2=.cell->scope.names.lookup y.1≈.cell
 locals:∀ y∈scope.names,y.2=.local->scope.names.lookup y.1≈.local
 fr:∀ y∈scope.names,y.2=.free->X.env.scope.names.lookup y.1≈.cell\/X.env.scope.names.lookup y.1≈.free
 fre:∀ x∈θ,scope.names.lookup x≈.free
 slots:js.map (λj=>X.N[j]?)=θ.map some
section
variable {X:Cx}{π:PL}{σ:St}{scope:Scope}{own θ:LS}{js:LN}
end
section
variable {X:Cx}{scope:Scope}{own θ:LS}{js:LN}{tg iter elt:Expr}{ifs:ε}{wi:TI}{g:TG}{tt:TT}{te:TE}{pos:Pos}
end
section
variable {prog:Δ}{w:World}{A:Around}{E:EV}{s:Γ}{r:χ}
end
section
variable {X:Cx}
end
structure Ycg(K:Fg)(D:χ):Prop where
 ha:W.findIn K (.ref D) "__class__"≈(↥(.builtin "object.__class__"))
 hn:W.specialIn K (.builtin "object.__class__") "__get__"≈(↥(.builtin "getset_descriptor.__get__"))
 ht:W.takesIn K (.builtin "object.__class__")≈true
 hm:W.mroIn K D (.type "object")≈true
 ki:W.kitOne K (.ref D) (.ref D)≈true
section
variable {prog:Δ}{w:World}{A:Around}
def vD(hh:A.handled=none)(I d:χ)(ne:d≠I)(es:Array DictEntry)(ep:Nat):
  Walks prog w A I [I,d] [I] es.size (λi v=>∃ en,es[i]?≈en/\v=en.key) (λi h=>h.IsKeyIter I d i es.size ep/\BC h d es ep) where
 sub:=λb hb=>by rw[Ym.mp hb];simp
 frame:=λ_ _ _ x k=>⟨x.1.at λo e=>k I (by simp) o e,x.2.at λo e=>k d (by simp) o e⟩
 item:=λi s Q E hi x q=>by
  have hx:es[i]?≈es[i]:=Le hi;exact kY x.1 x.2 hx λg it sb=>q _ g s.toks ⟨_,hx,Y⟩ ⟨it,x.2.at λo e=>(sb.2 d ne).trans e⟩ λb o hb e=>sb.extBut b o (λz=>hb (by simp[z])) e
 done:=λs Q E x q=>kX hh x.1 x.2 (Yd _) λg eb=>q g s.toks λb o hb e=>eb b o (λz=>hb (by simp[z])) e
 self:=λ_ _ _ _ x q=>wpAny_pyIter_keyiter x.1 q
def Z1s{d:χ}{es:Array DictEntry}{ep:Nat}(lo:(d == sysModules)=false):W.KdlSrc prog w "dict" d d es.size (λi v=>∃ en,es[i]?≈en/\v=en.key) (λh=>BC h d es ep) where
 type:=λ_ x=>x.ty
 there:=λ_ x=>let⟨_,e,_⟩:=x;⟨Yc e,Yc e⟩
 keep:=λ_ _ x k=>x.at λo e=>k d (.inl rfl) o e
 notList:=by decide
 notTuple:=by decide
 hint:=λ_ _ _ _ x q=>W.kdl_hint_dict x.ty q
 iter:=λ_ _ hh x=>⟨_,_,(λ_ _ q=>iU lo x q),vD hh _ d (let⟨_,e,_⟩:=x;Yl (Yc e)) es ep,⟨⟨_,Ye _ rfl,Y,Y⟩,x.at λo e=>Yb _ e⟩⟩
end
section
variable {X:Cx}
def vk(hc:X.calm=true):Em X (.type "list") (λxs H Q=>∃ a ν,xs=[.ref a]/\Rd H a (.dT ν)/\∀ l vs,H l=none->Paired (λ(kv:List Key×V) v=>∃ t,v=.ref t/\H t≈(.tup (kv.1.map kV))) ν vs->Q (.ref l) (upd H l (.lst vs))):=by
 intro π s σ H xs us Q I r h;obtain⟨a,ν,rfl,ha,q⟩:=h;obtain⟨u,rfl,ru⟩:=Ga r;cases ru;have raw:∃(es:Array DictEntry) (ep:Nat),(a == sysModules)=false/\BC s.heap a es ep/\es.size=↑ν/\↑ν<=sizeLine/\∀(i:Nat) (p:List Key×V),ν[i]?≈p->∃ t u hs,es[i]?≈(⟨hs,.ref t,u⟩:DictEntry)/\H t≈(.tup (p.1.map kV))/\AW p.2 u:=by
  have fz:∀ {H':Hp} {o:Obj},Inv X π σ H' s->H' a≈(.frz o (.dT ν))->(∀ t ys,H' t≈(.tup ys)->H t≈(.tup ys))->∃(es:Array DictEntry) (ep:Nat),(a == sysModules)=false/\BC s.heap a es ep/\es.size=↑ν/\↑ν<=sizeLine/\∀(i:Nat) (p:List Key×V),ν[i]?≈p->∃ t u hs,es[i]?≈(⟨hs,.ref t,u⟩:DictEntry)/\H t≈(.tup (p.1.map kV))/\AW p.2 u:=λ{H' o} I' h' k=>by
   have ok:=I'.hok a _ h';obtain⟨es,ep,hd⟩:=Rv ok;obtain⟨h1,h2,h3,h4⟩:=JF ok hd;obtain⟨_,z,_⟩:=ok;refine⟨es,ep,h1,h2,h3,z,λi p hp=>?_⟩;obtain⟨t,u,hs,e1,e2,e3⟩:=h4 i p hp;exact⟨t,u,hs,e1,k _ _ e2,e3⟩
  rcases ha with ha | ⟨o,ha⟩
  ·obtain⟨o,ho⟩:∃ o,s.heap.get? a≈o:=by
    obtain⟨_,_,xs,_,o,_,_,e,_⟩:=I.hok a _ ha;exact⟨o,e⟩
   refine fz (I.freezeT ha ho) uS λt ys e=>?_;by_cases z:t=a
   ·rw[z,uS]at e;cases e
   ·rw[AE z]at e;exact e
  ·exact fz I ha λ_ _ e=>e
 obtain⟨es,ep,lo,hr,hn,hz,ge⟩:=raw;refine W.kdl_call (Z1s lo) (I.ok.hd hc) hr (by rw[hn];exact hz) λh' tk acc c k eS ia=>?_;obtain⟨a1,a2⟩:=ia;have at_:∀ i,i<↑ν->∃ t,acc[i]?≈(.ref t)/\∃ p,ν[i]?≈p/\H t≈(.tup (p.1.map kV)):=λi hi=>by
  have hp:ν[i]?≈ν[i]:=Yg hi;obtain⟨t,u,hs,e1,e2,_⟩:=ge i _ hp;have qV:i<acc.size:=by rw[a1,hn];exact hi
  have e3:acc[i]?≈acc[i]:=Le qV;obtain⟨en,e4,e5⟩:=a2 i _ e3;rw[e1]at e4;cases e4;rw[e5]at e3;exact⟨t,e3,_,hp,e2⟩
 let vs:LV:=acc.toList.map λu=>match u with | .ref t=>V.ref t | _=>.non
 have hl:↑vs=↑ν:=by
  show↑(acc.toList.map _)=_;rw[Ya,JM,a1,hn]
 have vat:∀(i:Nat) (t:χ),acc[i]?≈(Value.ref t)->vs[i]?≈(V.ref t):=λi t e=>by
  show(acc.toList.map _)[i]?=_;rw[Yj,JQ,e];rfl
 have fr:H ⇑s=none:=I.hok.fresh (Yd _);refine⟨.ref _,_,I.laid (o:=.lst vs) k (Yd _) ⟨by rw[hl];exact hz,acc.toList,c,?_,by simpa using eS⟩,Y,q _ vs fr ?_⟩
 ·refine Rg (by show↑(acc.toList.map _)=_;exact Ya ..) λi v u hv hu=>?_;have hi:i<↑ν:=by rw[<- hl];exact(Yf.mp hv).1
  obtain⟨t,e,_⟩:=at_ i hi;rw[vat i t e]at hv;rw[JQ,e]at hu;cases hv;cases hu;rfl
 ·refine LB hl.symm λi p v hp hv=>?_;obtain⟨t,e,p',eh,ht⟩:=at_ i ((Yf.mp hp).1);rw[hp]at eh;cases eh;rw[vat i t e]at hv;cases hv;exact⟨t,Y,ht⟩
end
section
variable {X:Cx}{π:PL}{σ:St}{H:Hp}{s:Γ}{a:χ}{o:Obj}{ν:List (List Key×V)}
end
end L2
namespace L2
open PySem PySem.Spec PySem.Builtin
section
variable {X:Cx}
end
end L2
namespace L2
open PySem PySem.Spec PyProof.Rows
section
variable {X:Cx}{C D f:χ}{fd:FuncData}{k:Nat}{x dn a:Str}{np AK pos apos pos':Pos}{e o value:Expr}{es:ε}{t:TA}{ta tv:TE}{ps:LS}
end
end L2
namespace L2
open PySem PySem.Spec PySem.Builtin
section
variable {X:Cx}
end
section
variable {X:Cx}
end
end L2
namespace L2
open PySem PySem.Spec PyProof.Rows
structure xW(h:Heap)(z ti to i1 i2 l1 l2:χ)(k:Nat)(f:ω):Prop where
 z:IsZip h z ti to f
 ti:IsPair h ti (.ref i1) (.ref i2)
 to:∃ a b,IsPair h to a b
 i1:h.IsListIter i1 l1 k
 i2:h.IsListIter i2 l2 k
section
variable {prog:Δ}{w:World}{A:Around}{E:EV}{s:Γ}
def tR{l1 l2:χ}{xs ys:δ}{Q:EV}(t1:s.heap.IsList l1 xs)(t2:s.heap.IsList l2 ys)
  (q:∀ g,xW g (⇑s + 4) (⇑s + 2) (⇑s + 3) ⇑s (⇑s + 1) l1 l2 0 .none->(∀ c o,s.heap.get? c≈o->g.get? c≈o)->Q (.ref (⇑s + 4)) {s with heap:=g}):
  wpAny (model prog w) A (call (.type "zip") [.ref l1,.ref l2]) Q E s :=
 call_zip_2 t1 t2 λg a1 a2 a3 a4 a5 _ a7=>q g ⟨a1,a2,⟨_,_,a3⟩,a4,a5⟩ a7
end
section
variable {X:Cx}
end
section
variable {X:Cx}
end
section
variable {prog:Δ}{w:World}{A:Around}{E:EV}{s:Γ}
structure ZMt(h:Heap)(z ti to i1 i2 l1 l2:χ)(k:Nat)(f:ω):Prop where
 z:IsZip h z ti to f
 ti:IsPair h ti (.ref i1) (.ref i2)
 to:∃ a b,IsPair h to a b
 i1:h.IsTupleIter i1 l1 k
 i2:h.IsListIter i2 l2 k
end
section
variable {X:Cx}
end
section
variable {prog:Δ}{w:World}{A:Around}{E:EV}{s:Γ}{d it:χ}{es:Array DictEntry}{ep i:Nat}
def xS(hs:(d == sysModules)=false):MeetsIn prog w (Builtin.«dict.values» ⟨[.ref d],[]⟩) (λ_ R s=>s.TypeIs (.ref d) "dict" /\
  R (.ok (.ret (.ref ⇑s))) {s with heap:=s.heap.push {cls:=.type "dict_values",data:=.fields #[.ref d] } }):=
 .of_wp λA R s ⟨T,h⟩=>by
  refine Ja ?_;unfold Builtin.Dict.noArgs;refine Ja (wpAny_notOrdered_dict T ?_);show wpAny _ _ (pure d) _ _ s;refine Jd ?_;show wpAny _ _ (Builtin.Dict.showsAll d>>=_) _ _ s;unfold Builtin.Dict.showsAll;rw[if_neg (by rw[hs];exact Yh)];refine Ja (Jd ?_);exact Ja (wpAny_newObj_type (Jd ⟨Z,h⟩))
def wX{v:χ}{Q:EV}(hv:s.heap.IsValuesView v d)(x:BC s.heap d es ep)
  (q:Q (.ref ⇑s) {s with heap:=s.heap.push {cls:=.type "dict_valueiterator",data:=.fields #[.ref d,.int 0 0,.int es.size 0,.int ep 0] } }):wpAny (model prog w) A (pyIter (.ref v)) Q E s:=by
 obtain⟨ov,hov,hcv,hdv⟩:=id hv;obtain⟨o,e,c,da⟩:=id x;refine wpAny_pyIter_slot hv.typeIs F.slot_dict_values_iter (wpAny_call_entry F.slot_dict_values_iter hv.typeIs F.entry_dict_values_iter ?_ (F.args_dict_values_iter_1 _));unfold Builtin.«dict_values.__iter__»;refine Ja (Jd ?_);refine Ja ?_;unfold Builtin.Dict_items.dictOf;refine Ja (Jg hov hdv (x:=.ref d) rfl (Jd ?_));refine Ja ?_;unfold Builtin.Dict_items.newIterator;refine Ja (wpAny_dictEntries e da ?_);refine Ja (wpAny_dictEpoch e da ?_);have hown:Builtin.Dict_items.ownsTuple "dict_valueiterator"=false:=by decide
 simp only[hown,Co,if_false];refine wpAny_newObj_type (Jd ⟨Z,"dict_valueiterator",_,⟨_,Ye _ rfl,Y⟩,Sd.lookup,?_⟩);simpa[rawInt]using q
def xA{Q:OU->Γ->Prop}{en:DictEntry}(hit:s.heap.IsValIter it d i es.size ep)(x:BC s.heap d es ep)(hx:es[i]?≈en)
  (q:∀ g,g.IsValIter it d (i + 1) es.size ep->Heap.SameBut it s.heap g->Q (↥en.val) {s with heap:=g}):wpAny (model prog w) A (pyNext (.ref it)) Q E s:=by
 obtain⟨oi,ei,ci,di⟩:=id hit;obtain⟨o,e,c,da⟩:=id x;have T:=hit.typeIs;have own:Builtin.Dict_items.ownsTuple "dict_valueiterator"=false:=by decide
 unfold pyNext;refine Ja (wpAny_attempt (wpAny_callSpecial?_slot (name:=Str.ofString "__next__") T Sd
  (wpAny_call_entry Sd T F.entry_dict_valueiterator_next ?_ (F.args_dict_valueiterator_next_1 _))))
 refine Ja (Jd (Ja (Ja ?_)))
 first | refine Ja (wpAny_typeNameOfWhole_valiter T (Jd ?_)) | refine Ja (wpAny_typeNameOf_valiter T (Jd ?_))
 refine Ja (wpAny_fieldsOf ei di ?_);simp only[own,Co,if_false];show wpAny _ _ (if(Value.ref d == Value.none)=true then _ else _) _ _ s;rw[if_neg (show ¬ ((Value.ref d == Value.none)=true)from by intro z;cases z)];refine Ja (Jd (Ja (wpAny_dictEntries e da ?_)));rw[if_neg (by simp)];refine Ja (Jd (Ja (wpAny_dictEpoch e da ?_)));rw[if_neg (by simp)];refine Jd ?_;simp only[show ¬ ((i:Int)<0)from by omega,if_false,B0,hx];refine Ja ?_
 first | refine Ja (wpAny_typeNameOfWhole_valiter T (Jd ?_)) | refine Ja (wpAny_typeNameOf_valiter T (Jd ?_))
 refine Ja (wpAny_isOneOf_valiter T ?_);show wpAny _ _ (setField (.ref it) 1 (rawInt ((i:Int) + 1))>>=_) _ _ s;refine Ja (wpAny_setField ei di (by simp) ?_);have Nj:(s.heap.update it (Obj.mapFields (·.setIfInBounds 1 (rawInt ((i:Int) + 1))))).IsValIter it d (i + 1) es.size ep :=
  ⟨_,ED _ ei (NL (II di _)),(Obj.cls_mapFields ..).trans ci,by rw[II di];simp[rawInt]⟩
 refine Ja (Jj ?_);refine Ja (wpAny_isOneOf_valiter (s:={s with heap:=s.heap.update it (Obj.mapFields (·.setIfInBounds 1 (rawInt ((i:Int) + 1)))) }) Nj.typeIs ?_);refine Ja (wpAny_isOneOf_valiter (s:={s with heap:=s.heap.update it (Obj.mapFields (·.setIfInBounds 1 (rawInt ((i:Int) + 1)))) }) Nj.typeIs ?_);show wpAny _ _ (pure en.val) _ _ _;exact Jd (Jd ⟨Z,Jd (q _ Nj (Lg ..))⟩)
def w_{Q:OU->Γ->Prop}(hh:A.handled=none)(hit:s.heap.IsValIter it d i es.size ep)(x:BC s.heap d es ep)(hx:es.size<=i)
  (q:∀ g,Heap.ExtBut it s.heap g->Q none {s with heap:=g}):wpAny (model prog w) A (pyNext (.ref it)) Q E s:=by
 obtain⟨oi,ei,ci,di⟩:=id hit;obtain⟨o,e,c,da⟩:=id x;have T:=hit.typeIs;have own:Builtin.Dict_items.ownsTuple "dict_valueiterator"=false:=by decide
 unfold pyNext;refine Ja (wpAny_attempt (wpAny_callSpecial?_slot (name:=Str.ofString "__next__") T Sd
  (wpAny_call_entry Sd T F.entry_dict_valueiterator_next ?_ (F.args_dict_valueiterator_next_1 _))))
 refine Ja (Jd (Ja (Ja ?_)))
 first | refine Ja (wpAny_typeNameOfWhole_valiter T (Jd ?_)) | refine Ja (wpAny_typeNameOf_valiter T (Jd ?_))
 refine Ja (wpAny_fieldsOf ei di ?_);simp only[own,Co,if_false];show wpAny _ _ (if(Value.ref d == Value.none)=true then _ else _) _ _ s;rw[if_neg (show ¬ ((Value.ref d == Value.none)=true)from by intro z;cases z)];refine Ja (Jd (Ja (wpAny_dictEntries e da ?_)));rw[if_neg (by simp)];refine Ja (Jd (Ja (wpAny_dictEpoch e da ?_)));rw[if_neg (by simp)];refine Jd ?_;simp only[show ¬ ((i:Int)<0)from by omega,if_false,B0,LW hx];refine Ja ?_
 first | refine Ja (wpAny_typeNameOfWhole_valiter T (Jd ?_)) | refine Ja (wpAny_typeNameOf_valiter T (Jd ?_))
 show wpAny _ _ (setField (.ref it) 0 .none>>=_) _ _ s;refine Ja (wpAny_setField ei di (by simp) ?_);show wpAny _ _ (newExc (.type "StopIteration") []>>=_) _ _ _;refine Ja ?_;simp only[newExc,newTuple];refine Ja (wpAny_newObj_type (Ja (m:=firstArgMember _ _) (wpAny_of_eq (a:=Value.none) (by first | rfl | (simp only[firstArgMember];rfl)) (wpAny_newObj_type ?_ (by size_fits)))) (by size_fits));simp only[raiseNew];refine Ja (wpAny_handled ?_);rw[show A.in1.handled=none from hh];refine Ja (Jd (wpAny_throw ?_));refine Ja (wpAny_isInstance (T:="StopIteration") (b:=true) ⟨_,Ye _ rfl,Y⟩ isSubtype_stop ?_);exact Jd (q _ (((Lg ..).extBut.push _).push _))
end
section
variable {prog:Δ}{w:World}{A:Around}
def v5(hh:A.handled=none)(I d:χ)(ne:d≠I)(es:Array DictEntry)(ep:Nat):
  Walks prog w A I [I,d] [I] es.size (λi v=>∃ en,es[i]?≈en/\v=en.val) (λi h=>h.IsValIter I d i es.size ep/\BC h d es ep) where
 sub:=λb hb=>by rw[Ym.mp hb];simp
 frame:=λ_ _ _ x k=>⟨x.1.at λo e=>k I (by simp) o e,x.2.at λo e=>k d (by simp) o e⟩
 item:=λi s Q E hi x q=>by
  have hx:es[i]?≈es[i]:=Le hi;exact xA x.1 x.2 hx λg it sb=>q _ g s.toks ⟨_,hx,Y⟩ ⟨it,x.2.at λo e=>(sb.2 d ne).trans e⟩ λb o hb e=>sb.extBut b o (λz=>hb (by simp[z])) e
 done:=λs Q E x q=>w_ hh x.1 x.2 (Yd _) λg eb=>q g s.toks λb o hb e=>eb b o (λz=>hb (by simp[z])) e
 self:=λ_ _ _ _ x q=>wpAny_pyIter_valiter x.1 q
def tQ{r d:χ}{es:Array DictEntry}{ep:Nat}:W.KdlSrc prog w "dict_values" r d es.size (λi v=>∃ en,es[i]?≈en/\v=en.val) (λh=>h.IsValuesView r d/\BC h d es ep) where
 type:=λ_ x=>x.1.typeIs
 there:=λ_ x=>⟨let⟨_,ho,_⟩:=x.1;Yc ho,let⟨_,e,_⟩:=x.2;Yc e⟩
 keep:=λ_ _ x k=>⟨let⟨o,ho,y⟩:=x.1;⟨o,k r (.inl rfl) o ho,y⟩,x.2.at λo e=>k d (.inr rfl) o e⟩
 notList:=by decide
 notTuple:=by decide
 hint:=λ_ _ _ _ x q=>W.kdl_hint_values x.1.typeIs q
 iter:=λ_ _ hh x=>⟨_,_,(λ_ _ q=>wX x.1 x.2 q),v5 hh _ d (let⟨_,e,_⟩:=x.2;Yl (Yc e)) es ep,⟨⟨_,Ye _ rfl,Y,Y⟩,x.2.at λo e=>Yb _ e⟩⟩
end
section
variable {X:Cx}
def kO{o:Expr}{to:TE}{p1 Gu apos AK:Pos}(hc:X.calm=true)(ho:PE X o to)(RC:Gl X "list")(MO:X.mg "list"=none)
  (BJ:attributeBase o "values" X.env (eval o X.env)=eval o X.env:=by rfl) (BI:(apos.endLine == AK.line)=true:=by rfl)
  (DK:starEach [.Call (.Attribute o "values" apos) [] [] AK] X.env=[(false,eval (.Call (.Attribute o "values" apos) [] [] AK) X.env)]:=by rfl):
  PE X (.Call (.Name "list" p1) [.Call (.Attribute o "values" apos) [] [] AK] [] Gu) (λσ H Q=>to σ H λx H1=>∃ a ν,x=.ref a/\Rd H1 a (.dT ν)/\∀ l,H1 l=none->Q (.ref l) (upd H1 l (.lst (ν.map (·.2))))):=by
 ac_rfl;refine wpAny_Call_Name_kw (Fj I RC MO NO ?_ (by decide) (by decide));refine IH ?_ DK rfl;refine QX ?_;refine wpAny_Call_method0_late BJ BI (AH (ho π s σ H _ I h) λv s1 ⟨x,H1,I1,r1,q1⟩=>?_);obtain⟨a,ν,e,ha,q⟩:=q1;subst e;obtain rfl:v=Value.ref a:=r1;have raw:∃(es:Array DictEntry) (ep:Nat),(a == sysModules)=false/\BC s1.heap a es ep/\es.size=↑ν/\↑ν<=sizeLine/\∀(i:Nat) (p:List Key×V),ν[i]?≈p->∃ t u hs,es[i]?≈(⟨hs,.ref t,u⟩:DictEntry)/\AW p.2 u:=by
  have fz:∀ {H':Hp} {o:Obj},Inv X π σ H' s1->H' a≈(.frz o (.dT ν))->∃(es:Array DictEntry) (ep:Nat),(a == sysModules)=false/\BC s1.heap a es ep/\es.size=↑ν/\↑ν<=sizeLine/\∀(i:Nat) (p:List Key×V),ν[i]?≈p->∃ t u hs,es[i]?≈(⟨hs,.ref t,u⟩:DictEntry)/\AW p.2 u:=λ{H' o} I' h'=>by
   have ok:=I'.hok a _ h';obtain⟨es,ep,hd⟩:=Rv ok;obtain⟨h1,h2,h3,h4⟩:=JF ok hd;obtain⟨_,z,_⟩:=ok;refine⟨es,ep,h1,h2,h3,z,λi p hp=>?_⟩;obtain⟨t,u,hs,e1,e2,e3⟩:=h4 i p hp;exact⟨t,u,hs,e1,e3⟩
  rcases ha with ha | ⟨o,ha⟩
  ·obtain⟨o,ho⟩:∃ o,s1.heap.get? a≈o:=by
    obtain⟨_,_,xs,_,o,_,_,e,_⟩:=I1.hok a _ ha;exact⟨o,e⟩
   exact fz (I1.freezeT ha ho) uS
  ·exact fz I1 ha
 obtain⟨es,ep,lo,hr,hn,hz,ge⟩:=raw;obtain⟨od,ed,cd,dd⟩:=id hr;refine⟨"dict","dict.values",SV,Xo,PySem.F.type_dict_values,hr.ty,(λb e=>by injection e with e;subst e;exact⟨od,ed,cd.2.1⟩),NQ rfl (Se ?_)⟩;refine call_meetsIn Xo hr.ty PySem.F.entry_dict_values (PySem.F.args_dict_values_1 _) (xS lo) ⟨hr.ty,QU ?_⟩;have I2:Inv X π σ H1 {s1 with heap:=s1.heap.push {cls:=.type "dict_values",data:=.fields #[.ref a] } }:=I1.kept (t':=s1.toks) λb o e=>Yb _ e;have Bn:BC (s1.heap.push {cls:=.type "dict_values",data:=.fields #[.ref a] }) a es ep:=hr.at λo e=>Yb _ e;refine W.kdl_call (tQ (r:=⇑s1)) (I2.ok.hd hc) ⟨⟨_,Ye _ rfl,Y,Y⟩,Bn⟩ (by rw[hn];exact hz) λh' tk acc c k eS ia=>?_;obtain⟨a1,a2⟩:=ia;have fr:H1 (s1.heap.push {cls:=.type "dict_values",data:=.fields #[.ref a] }).objs.size=none:=I2.hok.fresh (Yd _);refine⟨.ref _,_,I2.laid (o:=.lst (ν.map (·.2))) k (Yd _) ⟨by rw[Ya];exact hz,acc.toList,c,?_,by simpa using eS⟩,Y,q _ fr⟩;refine Rg (by rw[Ya];show ↑ν=acc.size;rw[a1,hn]) λi v u hv hu=>?_;rw[Yj]at hv;cases hp:ν[i]? with
 | none=>rw[hp]at hv;cases hv
 | some p =>
  rw[hp]at hv;cases hv;obtain⟨t,u',hs,e1,e3⟩:=ge i p hp;rw[JQ]at hu;obtain⟨en,e4,e5⟩:=a2 i u hu;rw[e1]at e4;cases e4;rw[e5];exact e3
end
def ai(st:Int)(n:Nat):It:=⟨λi _=>i<n,λi H x H'=>H'=H/\x=.int ((i:Int) * st),λi _=>n<=i⟩
def Pt(st:Int)(n:Nat):LV:=(List.range n).map λ(k:Nat)=>V.int ((k:Int) * st)
def Wk(st:Int)(n:Nat):↑(Pt st n)=n:=by unfold Pt;rw[Ya,QT]
def Wj{st:Int}{n i:Nat}{x:V}(h:(Pt st n)[i]?≈x):i<n/\x=V.int ((i:Int) * st):=by
 have hi:i<n:=by
  have:=(Yf.mp h).1
  rwa [Wk]at this
 refine⟨hi,?_⟩;unfold Pt at h;rw[Yj,NJ hi]at h;exact(Yp h).symm
def uu{st:Int}{n:Nat}:FE (ai st n) (Pt st n) (λ_=>True) where
 go:=λi x H _ hx=>(Wj hx).1
 yld:=λi x H y H' _ hx h=>by
  obtain⟨e,h⟩:=h;exact⟨h.trans (Wj hx).2.symm,e⟩
 stop:=λH _=>by
  show n<=↑(Pt st n);rw[Wk];exact Yd _
def u_{P:Δ}{w:World}{K:Fg}{tg:Expr}(it:χ)(st:Int)(n:Nat):Dq P w K tg (ai st n) [it] it (λi h=>IsRangeIter h it (0 + (i:Nat) * st) ((n:Int) - (i:Nat)) st) where
 mem:=by simp
 obj:=λi h st b hb=>by
  have e:b=it:=by simpa using hb
  subst e;exact⟨_,st,λv z=>by
   have z':Data.fields _=Data.cell v:=z;cases z'⟩
 keep:=λi h h' st k=>k it (by simp) _ st
 item:=by
  intro X hP hw hK hc i π s σ H E I hf hst hg;subst hP hw hK;obtain⟨f0,f1,f2,f3,f4,f5⟩:=hf it (by simp);have W:=Walks.range (prog:=X.prog) (w:=X.w) (I.ok.hd hc) it 0 st n;refine W.item i s _ _ hg hst λv h' tk hv Ay kk=>?_;obtain⟨t,rfl⟩:=hv;have I1:Inv X π σ H {s with heap:=h',toks:=tk}:=I.turned (λb o hb e=>kk b o (by simpa using hb) e) f0 f1 f3 f4 f5;refine⟨Z,Kl (s:={s with heap:=h',toks:=tk}) (n:="range_iterator") Ay rfl rfl (by decide) ⟨.int ((i:Int) * st),H,I1,⟨t,?_⟩,⟨Y,Y⟩,Ay,λb hb=>(hf b hb).1⟩⟩;rw[Li]
 done:=by
  intro X hP hw hK hc i π s σ H E I hf st hg;subst hP hw hK;obtain⟨f0,f1,f2,f3,f4,f5⟩:=hf it (by simp);exact wpAny_pyNext_range_end (I.ok.hd hc) st (by have:n<=i:=hg;omega) λh' eb=>⟨Y,I.turned (t':=s.toks) (λb o hb e=>eb b o hb e) f0 f1 f3 f4 f5⟩
 self:=λ_ _ _ _ _ st h=>wpAny_pyIter_rangeiter st h
section
variable {X:Cx}{tg:Expr}
def xo(ta:TA):TI:=λσ H R=>ta σ H λvs H1=>∃ st n:Nat,vs=[.int 0,.int ((n * st:Nat):Int),.int st]/\0<st/\st<=1000000/\n * st<=1000000/\R (ai st n) H1
def jY(st n:Nat)(h:0<st):Builtin.Range.rangeSize 0 ((n * st:Nat):Int) st=n:=by
 unfold Builtin.Range.rangeSize;rw[if_pos (by omega)];by_cases hn:n=0
 ·subst hn;rw[if_neg (by simp)];rfl
 ·have hm:0<n * st:=Nat.mul_pos (by omega) h;rw[if_pos (by omega)];have e:(((n * st:Nat):Int) - 0 - 1) / (st:Int)=((n:Int) - 1):=by
   have e1:(((n * st:Nat):Int) - 0 - 1)=((n:Int) - 1) * (st:Int) + ((st:Int) - 1):=by
    rw[NG,Int.sub_mul];omega
   rw[e1,Int.add_comm,Int.add_mul_ediv_right _ _ (by omega),Int.ediv_eq_zero_of_lt (by omega) (by omega),Li]
  rw[e];omega
def uc{a b c:Expr}{ta:TA}{p pos:Pos}(hg:Gl X "range")(hm:X.mg "range"=none)(ha:PA X [a,b,c] ta)(hs:starEach [a,b,c] X.env=[(false,eval a X.env),(false,eval b X.env),(false,eval c X.env)]:=by rfl)(DK:starEach [b,c] X.env=[(false,eval b X.env),(false,eval c X.env)]:=by rfl):
  PI X tg (.Call (.Name "range" p) [a,b,c] [] pos) (xo ta):=by
 intro π s σ H R I h;refine Call_ (Fj I hg hm boot_range (IH (AH (ha pos π s σ H _ I h) λus s1 ⟨vs,H1,I1,r1,q1⟩=>?_) (by rw[hs,DK]) (by rw[DK];rfl)));obtain⟨st,n,e,hst,hst2,hj,q⟩:=q1;subst e;cases r1 with
 | cons r rr =>
  cases rr with
  | cons r' rr =>
   cases rr with
   | cons pT rr =>
    cases rr;obtain⟨t,rfl⟩:=r;obtain⟨t',rfl⟩:=r';obtain⟨pG,rfl⟩:=pT;refine call_range_3 (by omega) ?_ (Or.inl (PyProof.noPylong_small (by omega)));have sm:Builtin.Range.small 0 ((n * st:Nat):Int) (st:Int)=true:=by
     unfold Builtin.Range.small;rw[jY st n hst];have hn:n<=1000000:=Yq (Nat.le_mul_of_pos_right n hst) hj;simp only[Builtin.Range.rangeFitsLong,EF,Bool.or_eq_true,decide_eq_true_eq,beq_iff_eq];refine⟨O,.inr ?_⟩;rw[if_pos (by omega),EF,decide_eq_true_eq,decide_eq_true_eq];omega
    refine wpAny_pyIter_range (IsRange.new ..) sm ?_;have I2:Inv X π σ H1 {s1 with heap:=s1.heap.push {cls:=.type "range",data:=.fields #[.int 0 t,.int ((n * st:Nat):Int) t',.int st pG] },toks:=s1.toks}:=I1.kept λb o e=>Yb _ e;refine⟨_,[_],_,_,H1,Y,I2.kept (t':=s1.toks) λb o e=>Yb _ e,u_ _ st n,?_,λb hb=>?_,q⟩
    ·have e1:(0:Int) + ((0:Nat):Int) * (st:Int)=0:=by simp
     have e2:(n:Int) - ((0:Nat):Int)=Builtin.Range.rangeSize 0 ((n * st:Nat):Int) st:=by rw[jY st n hst];simp
     show IsRangeIter _ _ (0 + ((0:Nat):Int) * (st:Int)) ((n:Int) - ((0:Nat):Int)) st;rw[e1,e2];exact Ye _ rfl
    ·have e:b=_:=Ym.mp hb;subst e;exact I2.fpOk (Yd _) (I2.hok.fresh (Yd _))
end
def Zip{prog:Δ}{w:World}{d:χ}(hd:(d == sysModules)=false):MeetsIn prog w (Builtin.«dict.__len__» ⟨[.ref d],[]⟩) (λ_ R s=>∃ es ep,BC s.heap d es ep/\R (.ok (.ret (.int es.size s.toks))) {s with toks:=s.toks + 1}):=
 .of_wp λA R s ⟨es,ep,x,h⟩=>by
  obtain⟨o,e,c,da⟩:=id x;show wpAny _ _ (dictSize d>>=_) _ _ s;unfold dictSize;refine Ja (Ja (wpAny_dictEntries e da (Jd ?_)));show wpAny _ _ (Builtin.Dict.pendingCount d>>=_) _ _ s;refine Ja (wpAny_pendingCount_other hd ?_);refine wpAny_ret_mkInt ?_;rw[Nat.add_zero];exact h
section
variable {X:Cx}
def t_:Em X (.builtin "len") (λxs H Q=>∃ a ν,xs=[V.ref a]/\Rd H a (.dT ν)/\Q (.int ↑ν) H):=by
 intro π s σ H xs us Q I r h;obtain⟨a,ν,rfl,ha,q⟩:=h;obtain⟨u,rfl,ru⟩:=Ga r;cases ru;have raw:∃(es:Array DictEntry) (ep:Nat),(a == sysModules)=false/\BC s.heap a es ep/\es.size=↑ν/\↑ν<=sizeLine:=by
  have fz:∀ {H':Hp} {o:Obj},Inv X π σ H' s->H' a≈(.frz o (.dT ν))->∃(es:Array DictEntry) (ep:Nat),(a == sysModules)=false/\BC s.heap a es ep/\es.size=↑ν/\↑ν<=sizeLine:=λ{H' o} I' h'=>by
   have ok:=I'.hok a _ h';obtain⟨es,ep,hd⟩:=Rv ok;obtain⟨h1,h2,h3,h4⟩:=JF ok hd;obtain⟨_,z,_⟩:=ok;exact⟨es,ep,h1,h2,h3,z⟩
  rcases ha with ha | ⟨o,ha⟩
  ·obtain⟨o,ho⟩:∃ o,s.heap.get? a≈o:=by
    obtain⟨_,_,xs,_,o,_,_,e,_⟩:=I.hok a _ ha;exact⟨o,e⟩
   exact fz (I.freezeT ha ho) uS
  ·exact fz I ha
 obtain⟨es,ep,lo,hr,hn,hz⟩:=raw;refine Calls.call_function_entry kind_len plain_len entry_len (args_len1 _) ?_;unfold Builtin.«len»;refine Ja (m:=oneArg "len" _) (Jd ?_);refine Ja (m:=callSpecial? (.ref a) (Str.ofString "__len__")) (wpAny_callSpecial?_slot (name:=Str.ofString "__len__") hr.ty Xf
  (call_meetsIn Xf hr.ty PySem.F.entry_dict_len (PySem.F.args_dict_len_1 _) (Zip lo) ⟨es,ep,hr,?_⟩))
 show wpAny _ _ _ _ _ {s with toks:=s.toks + 1};refine Ja (Jj (Jd ?_));refine Ja (wpAny_letGo ?_);have qK:es.size<2 ^ 62:=by rw[hn];rw[sizeLine_eq]at hz;omega
 show wpAny _ _ (if((es.size:Nat):Int)<0 then _ else _) _ _ _;rw[if_neg (by omega)];show wpAny _ _ (if((es.size:Nat):Int) ≥ 2 ^ 63 then _ else _) _ _ _;rw[if_neg (by omega)];refine Ja (wpAny_mkInt (Jd ⟨Z,?_⟩));exact⟨.int ↑ν,H,I.tok _,⟨_,by rw[hn]⟩,q⟩
end
section
variable {prog:Δ}{w:World}{A:Around}{E:EV}{s:Γ}
structure Fn(h:Heap)(z ti to i1 i2 l1 l2:χ)(k:Nat)(f:ω):Prop where
 z:IsZip h z ti to f
 ti:IsPair h ti (.ref i1) (.ref i2)
 to:∃ a b,IsPair h to a b
 i1:h.IsListIter i1 l1 k
 i2:h.IsTupleIter i2 l2 k
theorem Fn.at{h h':Heap}{z ti to i1 i2 l1 l2:χ}{k:Nat}{f:ω}(x:Fn h z ti to i1 i2 l1 l2 k f)(e:∀ b∈[z,ti,to,i1,i2],∀ o,h.get? b≈o->h'.get? b≈o):Fn h' z ti to i1 i2 l1 l2 k f :=
 ⟨e z (by simp) _ x.z,e ti (by simp) _ x.ti,let⟨a,b,y⟩:=x.to;⟨a,b,e to (by simp) _ y⟩,x.i1.at λo q=>e i1 (by simp) o q,x.i2.at λo q=>e i2 (by simp) o q⟩
def vF{z ti to i1 i2 l1 l2:χ}{k:Nat}{xs ys:δ}{x y:ω}{Q:EV}(D:ZipApart z ti to i1 i2 l1 l2)(st:Fn s.heap z ti to i1 i2 l1 l2 k .none)
  (t1:s.heap.IsList l1 xs) (t2:s.heap.IsTuple l2 ys) (hx:xs[k]?≈x) (hy:ys[k]?≈y)
  (q:∀ g,Fn g z ti to i1 i2 l1 l2 (k + 1) (rawInt ⇑s)->IsPair g ⇑s x y->(∀ c o,c≠z->c≠to->c≠i1->c≠i2->s.heap.get? c≈o->g.get? c≈o)->Q (.ref ⇑s) {s with heap:=g}):
  wpAny (model prog w) A (Builtin.«zip.__next__» ⟨[.ref z],[]⟩) (λfin s'=>∃ v,fin=.done (.ret v)/\Q v s') E s:=by
 obtain⟨hz,hti,⟨a,b,hto⟩,F6,Hh⟩:=st;show wpAny _ _ (field (.ref z) 2>>=_) _ _ _;refine Ja (Jg hz rfl (x:=.bool false) rfl ?_);show wpAny _ _ (field (.ref z) 3>>=_) _ _ _;refine Ja (Jg hz rfl (x:=.ref ti) rfl (Ja (wpAny_seqItems hti rfl ?_)));show wpAny _ _ (Builtin.SmallTypes.ownedTupleIsFree (.ref z)>>=_) _ _ _;refine Ja ?_;unfold Builtin.SmallTypes.ownedTupleIsFree;refine Ja (Jg hz rfl (x:=.none) rfl (Jd ?_));simp only[if_true];refine Ja (wpAny_rule (Ja (Jg hz rfl (x:=.ref to) rfl (Ja (wpAny_setField_rec hz (by simp) λg1 z1 e1=>?_)))));replace z1:IsZip g1 z ti to .ellipsis:=z1;refine Ja ?_;simp only[Qd,List.zipIdx_nil,JO,Lc];refine Ja (Ja (wpAny_onRaise ?_));show wpAny _ _ (Builtin.SmallTypes.nextOf (.ref i1)>>=_) _ _ _;refine Ja (wpAny_nextOf_list_item (F6.extBut e1.extBut D.i1z) (t1.extBut e1.extBut D.l1z) hx λg2 j1 e2=>Jd ?_);have to2:IsPair g2 to a b:=e2.extBut _ _ D.TOi1 (e1.extBut _ _ D.TOz hto);refine Ja (wpAny_seqItems to2 rfl (Ja (wpAny_updateSeq_pair to2 λg3 to3 e3=>?_)));replace to3:IsPair g3 to x b:=to3;refine Ja (wpAny_letGo (Jd (Ja (Ja (wpAny_onRaise ?_)))));show wpAny _ _ (Builtin.SmallTypes.nextOf (.ref i2)>>=_) _ _ _;refine Ja (QK (((Hh.extBut e1.extBut D.i2z).extBut e2.extBut D.i12.symm).extBut e3.extBut D.TOi2.symm) (((t2.extBut e1.extBut D.l2z).extBut e2.extBut D.l2i1).extBut e3.extBut D.l2TO) hy λg4 j2 e4=>Jd ?_);have Qj:IsPair g4 to x b:=e4.extBut _ _ D.TOi2 to3;refine Ja (wpAny_seqItems Qj rfl (Ja (wpAny_updateSeq_pair Qj λg5 IW e5=>?_)));replace IW:IsPair g5 to x y:=IW;refine Ja (wpAny_letGo (Jd (Jd (Ja (wpAny_seqItems IW rfl (Ja (wpAny_newTuple ?_)))))));have sz:g5.objs.size=⇑s:=by rw[e5.1,e4.1,e3.1,e2.1,e1.1]
 have z5:IsZip g5 z ti to .ellipsis:=e5.extBut _ _ D.TOz.symm (e4.extBut _ _ D.i2z.symm (e3.extBut _ _ D.TOz.symm (e2.extBut _ _ D.i1z.symm z1)));have k5:∀ c o,c≠z->c≠to->c≠i1->c≠i2->s.heap.get? c≈o->g5.get? c≈o:=λc o c1 c2 c3 c4 e=>e5.extBut _ _ c2 (e4.extBut _ _ c4 (e3.extBut _ _ c2 (e2.extBut _ _ c3 (e1.extBut _ _ c1 e))));have YE:g5.IsListIter i1 l1 (k + 1):=((j1.extBut e3.extBut D.TOi1.symm).extBut e4.extBut D.i12).extBut e5.extBut D.TOi1.symm;have YD:g5.IsTupleIter i2 l2 (k + 1):=j2.extBut e5.extBut D.TOi2.symm;have zlt:z<g5.objs.size:=Yc z5;show wpAny _ _ (Builtin.SmallTypes.ownedTupleHandOut (.ref z) (.ref g5.objs.size)>>=_) _ _ _;refine Ja ?_;unfold Builtin.SmallTypes.ownedTupleHandOut;have z6:IsZip (g5.push {cls:=.type "tuple",data:=.seq #[x,y] }) z ti to .ellipsis:=Yb _ z5;refine Ja (wpAny_setField_rec z6 (by simp) λg7 z7 e7=>?_);replace z7:IsZip g7 z ti to (rawInt g5.objs.size):=z7;refine wpAny_setField_rec z7 (by simp) λg8 z8 e8=>?_;replace z8:IsZip g8 z ti to (rawInt g5.objs.size):=z8;have up:∀ c o,c≠z->g5.get? c≈o->g8.get? c≈o:=λc o c1 e=>e8.extBut _ _ c1 (e7.extBut _ _ c1 (Yb _ e));have p8:IsPair g8 g5.objs.size x y:=e8.extBut _ _ (Yt zlt) (e7.extBut _ _ (Yt zlt) (Ye _ rfl));rw[sz]at z8 p8;refine Jd ⟨Z,?_⟩;show Q (.ref g5.objs.size) _;rw[sz];exact q g8 ⟨z8,up _ _ D.TIz (k5 _ _ D.TIz D.TITO D.TIi1 D.TIi2 hti),⟨x,y,up _ _ D.TOz IW⟩,YE.at λo e=>up _ o D.i1z e,YD.at λo e=>up _ o D.i2z e⟩ p8 λc o c1 c2 c3 c4 e=>up c o c1 (k5 c o c1 c2 c3 c4 e)
def vE{z ti to i1 i2 l1 l2:χ}{k:Nat}{xs ys:δ}{Q:Fin->Γ->Prop}(hh:A.handled=none)(D:ZipApart z ti to i1 i2 l1 l2)(st:Fn s.heap z ti to i1 i2 l1 l2 k .none)
  (t1:s.heap.IsList l1 xs) (t2:s.heap.IsTuple l2 ys) (Au:xs[k]?=none\/ys[k]?=none)
  (q:∀ g e,(∀ c o,c≠z->c≠to->c≠i1->c≠i2->s.heap.get? c≈o->g.get? c≈o)->(∃ o,g.get? e≈o/\o.cls=.type "StopIteration")->E (.ref e) {s with heap:=g}):
  wpAny (model prog w) A (Builtin.«zip.__next__» ⟨[.ref z],[]⟩) Q E s:=by
 obtain⟨hz,hti,⟨a,b,hto⟩,F6,Hh⟩:=st;show wpAny _ _ (field (.ref z) 2>>=_) _ _ _;refine Ja (Jg hz rfl (x:=.bool false) rfl ?_);show wpAny _ _ (field (.ref z) 3>>=_) _ _ _;refine Ja (Jg hz rfl (x:=.ref ti) rfl (Ja (wpAny_seqItems hti rfl ?_)));show wpAny _ _ (Builtin.SmallTypes.ownedTupleIsFree (.ref z)>>=_) _ _ _;refine Ja ?_;unfold Builtin.SmallTypes.ownedTupleIsFree;refine Ja (Jg hz rfl (x:=.none) rfl (Jd ?_));simp only[if_true];refine Ja (wpAny_rule (Ja (Jg hz rfl (x:=.ref to) rfl (Ja (wpAny_setField_rec hz (by simp) λg1 z1 e1=>?_)))));replace z1:IsZip g1 z ti to .ellipsis:=z1;refine Ja ?_;simp only[Qd,List.zipIdx_nil,JO,Lc];refine Ja (Ja (wpAny_onRaise ?_));show wpAny _ _ (Builtin.SmallTypes.nextOf (.ref i1)>>=_) _ _ _;cases hx:xs[k]? with
 | none =>
  refine Ja (wpAny_nextOf_list_end hh (F6.extBut e1.extBut D.i1z) (t1.extBut e1.extBut D.l1z) hx λg2 e e2 he=>?_);obtain⟨oe,ho,hc⟩:=he;have z2:IsZip g2 z ti to .ellipsis:=e2 _ _ D.i1z.symm z1;have ez:e≠z:=λx=>by subst x;rw[z2]at ho;cases ho;simp at hc
  exact wpAny_setField_rec z2 (by simp) λg3 _ e3=>q g3 e (λc o c1 _ c3 _ x=>e3.extBut _ _ c1 (e2 _ _ c3 (e1.extBut _ _ c1 x))) ⟨oe,e3.extBut _ _ ez ho,hc⟩
 | some x =>
  have hy:ys[k]?=none:=by rcases Au with h | h;rw[hx]at h;cases h;exact h
  refine Ja (wpAny_nextOf_list_item (F6.extBut e1.extBut D.i1z) (t1.extBut e1.extBut D.l1z) hx λg2 j1 e2=>Jd ?_);have to2:IsPair g2 to a b:=e2.extBut _ _ D.TOi1 (e1.extBut _ _ D.TOz hto);refine Ja (wpAny_seqItems to2 rfl (Ja (wpAny_updateSeq_pair to2 λg3 to3 e3=>?_)));refine Ja (wpAny_letGo (Jd (Ja (Ja (wpAny_onRaise ?_)))));show wpAny _ _ (Builtin.SmallTypes.nextOf (.ref i2)>>=_) _ _ _;refine Ja (QJ hh (((Hh.extBut e1.extBut D.i2z).extBut e2.extBut D.i12.symm).extBut e3.extBut D.TOi2.symm) (((t2.extBut e1.extBut D.l2z).extBut e2.extBut D.l2i1).extBut e3.extBut D.l2TO) hy λg4 e e4 he=>?_);obtain⟨oe,ho,hc⟩:=he;have z4:IsZip g4 z ti to .ellipsis:=e4 _ _ D.i2z.symm (e3.extBut _ _ D.TOz.symm (e2.extBut _ _ D.i1z.symm z1));have ez:e≠z:=λx=>by subst x;rw[z4]at ho;cases ho;simp at hc
  exact wpAny_setField_rec z4 (by simp) λg5 _ e5=>q g5 e (λc o c1 c2 c3 c4 x=>e5.extBut _ _ c1 (e4 _ _ c4 (e3.extBut _ _ c2 (e2.extBut _ _ c3 (e1.extBut _ _ c1 x))))) ⟨oe,e5.extBut _ _ ez ho,hc⟩
def kq{z ti to i1 i2 l1 l2:χ}{k:Nat}{xs ys:δ}{x y:ω}{Q:OU->Γ->Prop}(D:ZipApart z ti to i1 i2 l1 l2)(st:Fn s.heap z ti to i1 i2 l1 l2 k .none)
  (t1:s.heap.IsList l1 xs) (t2:s.heap.IsTuple l2 ys) (hx:xs[k]?≈x) (hy:ys[k]?≈y)
  (q:∀ g,Fn g z ti to i1 i2 l1 l2 (k + 1) (rawInt ⇑s)->IsPair g ⇑s x y->(∀ c o,c≠z->c≠to->c≠i1->c≠i2->s.heap.get? c≈o->g.get? c≈o)->Q (↥(.ref ⇑s)) {s with heap:=g}):
  wpAny (model prog w) A (pyNext (.ref z)) Q E s:=by
 have hT:s.TypeIs (.ref z) "zip":=⟨_,st.z,Y⟩;unfold pyNext;exact Ja (wpAny_attempt (wpAny_callSpecial?_slot (name:=Str.ofString "__next__") hT EC (wpAny_call_entry EC hT LX (vF D st t1 t2 hx hy λg a1 a2 a3=>Jd (q g a1 a2 a3)) (Lb _))))
def ko{z ti to i1 i2 l1 l2:χ}{k:Nat}{xs ys:δ}{Q:OU->Γ->Prop}(hh:A.handled=none)(D:ZipApart z ti to i1 i2 l1 l2)(st:Fn s.heap z ti to i1 i2 l1 l2 k .none)
  (t1:s.heap.IsList l1 xs) (t2:s.heap.IsTuple l2 ys) (Au:xs[k]?=none\/ys[k]?=none)
  (q:∀ g,(∀ c o,c≠z->c≠to->c≠i1->c≠i2->s.heap.get? c≈o->g.get? c≈o)->Q none {s with heap:=g}):wpAny (model prog w) A (pyNext (.ref z)) Q E s:=by
 have hT:s.TypeIs (.ref z) "zip":=⟨_,st.z,Y⟩;unfold pyNext;refine Ja (wpAny_attempt (wpAny_callSpecial?_slot (name:=Str.ofString "__next__") hT EC (wpAny_call_entry EC hT LX (vE hh D st t1 t2 Au λg e hk he=>?_) (Lb _))));obtain⟨o,ho,hc⟩:=he;refine Ja (wpAny_isInstance (T:="StopIteration") (b:=true) ⟨o,ho,hc⟩ isSubtype_stop ?_);exact Jd (q _ hk)
abbrev VA(h:Heap)(l1:χ):Heap:=h.push {cls:=.type "list_iterator",data:=.fields #[.ref l1,.int 0 0] }
abbrev U_(h:Heap)(l1 l2:χ):Heap:=(VA h l1).push {cls:=.type "tuple_iterator",data:=.fields #[.ref l2,.int 0 0] }
abbrev U9(h:Heap)(l1 l2:χ):Heap:=(U_ h l1 l2).push {cls:=.type "tuple",data:=.seq #[.ref h.objs.size,.ref (VA h l1).objs.size] }
abbrev U8(h:Heap)(l1 l2:χ):Heap:=(U9 h l1 l2).push {cls:=.type "tuple",data:=.seq #[.none,.none] }
abbrev PY(h:Heap)(l1 l2:χ):Heap:=(U8 h l1 l2).push {cls:=.type "zip",data:=.fields #[.none,.bool false,.bool false,.ref (U_ h l1 l2).objs.size,.ref (U9 h l1 l2).objs.size] }
def vU(l1 l2:χ)(xs ys:δ):Meets (Builtin.«zip.__new__» ⟨[.type "zip",.ref l1,.ref l2],[]⟩) (λ_ R s=>s.heap.IsList l1 xs/\s.heap.IsTuple l2 ys /\
   R (.ok (.ret (.ref (U8 s.heap l1 l2).objs.size))) {s with heap:=PY s.heap l1 l2}):=
 .of_wp λprog w A R s h=>by
  obtain⟨hp,g,d,tk,os⟩:=s;obtain⟨t1,t2,h⟩:=h;have hsub:=sub_zip;have T1:Heap.IsList (Shared.heap ⟨hp,g,d,tk,os⟩) l1 xs:=t1;have T2:Heap.IsTuple (Shared.heap ⟨hp.push {cls:=.type "list_iterator",data:=.fields #[.ref l1,.int 0 0] },g,d,tk,os⟩) l2 ys:=t2.at λo e=>Yb _ e
  wp_walk using wpAny_pyIter_list T1,wpAny_pyIter_tuple T2
  exact⟨Z,h⟩
def jG{l1 l2:χ}{xs ys:δ}{Q:EV}(t1:s.heap.IsList l1 xs)(t2:s.heap.IsTuple l2 ys)
  (q:∀ g,Fn g (⇑s + 4) (⇑s + 2) (⇑s + 3) ⇑s (⇑s + 1) l1 l2 0 .none->(∀ c o,s.heap.get? c≈o->g.get? c≈o)->Q (.ref (⇑s + 4)) {s with heap:=g}):
  wpAny (model prog w) A (call (.type "zip") [.ref l1,.ref l2]) Q E s:=by
 refine callType_new PySem.F.called_zip (by decide) (PySem.F.typeCall_zip_2 _ _) (PySem.F.newCall_zip_2 _ _) (λobj=>PySem.F.args_object_init_3 obj _ _) PySem.F.entry_zip_new (vU l1 l2 xs ys) ⟨t1,t2,?_⟩;have n1:(VA s.heap l1).objs.size=⇑s + 1:=C6 ..;have n2:(U_ s.heap l1 l2).objs.size=⇑s + 2:=by rw[C6,n1]
 have n3:(U9 s.heap l1 l2).objs.size=⇑s + 3:=by rw[C6,n2]
 have n4:(U8 s.heap l1 l2).objs.size=⇑s + 4:=by rw[C6,n3]
 have up:∀ {h:Heap} {a:χ} {o:Obj} (x:Obj),h.get? a≈o->(h.push x).get? a≈o:=λx e=>Yb _ e;have f5:(PY s.heap l1 l2).get? (U8 s.heap l1 l2).objs.size≈_:=Ye _ rfl;have f4:(PY s.heap l1 l2).get? (U9 s.heap l1 l2).objs.size≈_:=up _ (Ye _ rfl);have f3:(PY s.heap l1 l2).get? (U_ s.heap l1 l2).objs.size≈_:=up _ (up _ (Ye _ rfl));have f2:(PY s.heap l1 l2).get? (VA s.heap l1).objs.size≈_:=up _ (up _ (up _ (Ye _ rfl)));have f1:(PY s.heap l1 l2).get? ⇑s≈_:=up _ (up _ (up _ (up _ (Ye _ rfl))));show _/\_;rw[n2,n3,n4]at f5;rw[n1,n2]at f3;rw[n3]at f4;rw[n1]at f2;rw[n4];exact⟨⟨_,f5,Y⟩,q _ ⟨f5,f3,⟨_,_,f4⟩,⟨_,f1,Y,Y⟩,⟨_,f2,Y,Y⟩⟩ λc o x=>up _ (up _ (up _ (up _ (up _ x))))⟩
end
def vB{P:Δ}{w:World}{K:Fg}{elts:ε}{x1}{pos:Pos}{xs ys:LV}(a b z ti to i1 i2:χ)(D:ZipApart z ti to i1 i2 a b):
  Dq P w K (.Tuple elts x1 pos) (Fu (xs.zip ys) λH=>AD K H a xs/\AJ K H b ys) [z,ti,to,i1,i2] z (λi h=>Fn h z ti to i1 i2 a b i .none) where
 mem:=by simp
 obj:=λi h st c hc=>by
  have Bo:c=z\/c=ti\/c=to\/c=i1\/c=i2:=by simpa using hc
  obtain⟨x,y,h3⟩:=st.to;obtain⟨o1,e1,_,d1⟩:=st.i1;obtain⟨o2,e2,_,d2⟩:=st.i2
  rcases Bo with rfl | rfl | rfl | rfl | rfl
  ·exact⟨_,st.z,λv q=>by cases q⟩
  ·exact⟨_,st.ti,λv q=>by cases q⟩
  ·exact⟨_,h3,λv q=>by cases q⟩
  ·exact⟨_,e1,λv q=>by rw[d1]at q;cases q⟩
  ·exact⟨_,e2,λv q=>by rw[d2]at q;cases q⟩
 keep:=λi h h' st k=>st.at k
 item:=by
  intro X hP hw hK hc i π s σ H E I hf st hg;subst hP hw hK;obtain⟨hi,ha,hb⟩:=hg;obtain⟨p,hp⟩:∃ p,(xs.zip ys)[i]?≈p:=⟨(xs.zip ys)[i]'hi,Yg hi⟩;obtain⟨hx,hy⟩:=Ru hp;obtain⟨η,rv,pa,_⟩:=I.list ha;obtain⟨jts,BQ,pb,_⟩:=I.tuple hb;obtain⟨u,hu,ru⟩:=rv.get hx;obtain⟨v,hv,X6⟩:=BQ.get hy;refine kq D st pa.isList (show s.heap.IsTuple b jts.toArray from pb) (by simpa using hu) (by simpa using hv) λg Ay hpr hk=>?_;refine⟨Z,?_⟩;refine wpAny_letOwnedTupleGo_zip (s:={s with heap:=g}) Ay.z λg' z' sb=>?_;have zlt:z<⇑s:=Yc st.z;have nz:⇑s≠z:=Yt zlt;have DZ:Heap.ExtBut z g g':=sb.extBut;have hT:IsPair g' ⇑s u v:=DZ _ _ nz hpr;have I1:Inv X π σ (upd H ⇑s (.tup [p.1,p.2])) {s with heap:=g' }:=I.turnedNewL (t':=s.toks) (η:=[z,ti,to,i1,i2]) (λc o hc e=>DZ c o (λq=>hc (by simp[q])) (hk c o (λq=>hc (by simp[q])) (λq=>hc (by simp[q])) (λq=>hc (by simp[q])) (λq=>hc (by simp[q])) e)) hf (Yd _)
   ⟨J,[u,v],.cons ru (.cons X6 .nil),⟨_,hT,Y,Z⟩⟩
  have FT:Fn g' z ti to i1 i2 a b (i + 1) .none:=by
   obtain⟨a1,a2,a3⟩:=Ay.to;exact⟨z',DZ _ _ D.TIz Ay.ti,⟨a1,a2,DZ _ _ D.TOz a3⟩,Ay.i1.extBut DZ D.i1z,Ay.i2.extBut DZ D.i2z⟩
  refine⟨.ref ⇑s,_,I1,Y,⟨⇑s,p,hp,I.hok.fresh (Yd _),Y,Y⟩,FT,λc hc=>?_⟩;have lt:∀ c∈[z,ti,to,i1,i2],c<⇑s:=λc hc=>by
   have Bo:c=z\/c=ti\/c=to\/c=i1\/c=i2:=by simpa using hc
   obtain⟨a1,a2,a3⟩:=st.to;obtain⟨o1,e1,_⟩:=st.i1;obtain⟨o2,e2,_⟩:=st.i2
   rcases Bo with rfl | rfl | rfl | rfl | rfl
   ·exact zlt
   ·exact Yc st.ti
   ·exact Yc a3
   ·exact Yc e1
   ·exact Yc e2
  rw[AE (Yl (lt c hc))];exact(hf c hc).1
 done:=by
  intro X hP hw hK hc i π s σ H E I hf st hg;subst hP hw hK;obtain⟨hi,ha,hb⟩:=hg;obtain⟨η,rv,pa,_⟩:=I.list ha;obtain⟨jts,BQ,pb,_⟩:=I.tuple hb;have l1:=↑rv;have l2:=↑BQ;have Au:η.toArray[i]?=none\/jts.toArray[i]?=none:=by
   rw[JN]at hi
   rcases Nat.le_total ↑xs ↑ys with h | h
   ·rw[IL h]at hi;exact .inl (by simp;omega)
   ·rw[Nat.min_eq_right h]at hi;exact .inr (by simp;omega)
  exact ko (I.ok.hd hc) D st pa.isList (show s.heap.IsTuple b jts.toArray from pb) Au λg hk=>⟨Y,I.turnedL (t':=s.toks) (η:=[z,ti,to,i1,i2]) (λc o hc e=>hk c o (λq=>hc (by simp[q])) (λq=>hc (by simp[q])) (λq=>hc (by simp[q])) (λq=>hc (by simp[q])) e) hf⟩
 self:=λA i s Q E st h=>wpAny_pyIter_zip st.z h
section
variable {X:Cx}
def xr(K:Fg)(ta:TA):TI:=λσ H R=>ta σ H λvs H1=>∃(a b:χ) (xs ys:LV),vs=[.ref a,.ref b]/\AD K H1 a xs/\AJ K H1 b ys/\R (Fu (xs.zip ys) λH=>AD K H a xs/\AJ K H b ys) H1
def Z2h{elts:ε}{x1}{C_:Pos}{a b:Expr}{ta:TA}{p pos:Pos}(hg:Gl X "zip")(hm:X.mg "zip"=none)(ha:PA X [a,b] ta)(hs:starEach [a,b] X.env=[(false,eval a X.env),(false,eval b X.env)]:=by rfl)(DK:starEach [b] X.env=[(false,eval b X.env)]:=by rfl):
  PI X (.Tuple elts x1 C_) (.Call (.Name "zip" p) [a,b] [] pos) (xr X.K ta):=by
 intro π s σ H R I h;refine Call_ (Fj I hg hm boot_zip (IH (AH (ha pos π s σ H _ I h) λus s1 ⟨vs,H1,I1,r1,q1⟩=>?_) (by rw[hs,DK]) (by rw[DK];rfl)));obtain⟨l1,l2,xs,ys,e,t1,t2,q⟩:=q1;subst e;cases r1 with
 | cons r rr =>
  cases rr with
  | cons r' rr =>
   cases rr;obtain rfl:_=Value.ref l1:=r;obtain rfl:_=Value.ref l2:=r';obtain⟨η,rv,pa,_⟩:=I1.list t1;obtain⟨jts,BQ,pb,_⟩:=I1.tuple t2;have b1:s1.heap.IsList l1 η.toArray:=pa.isList;have b2:s1.heap.IsTuple l2 jts.toArray:=pb;have F3:l1<⇑s1:=let⟨_,e,_⟩:=b1;Yc e;have Ie:l2<⇑s1:=let⟨_,e,_⟩:=b2;Yc e;refine jG b1 b2 λg st hk=>wpAny_pyIter_zip (s:={s1 with heap:=g}) st.z ?_;have D:ZipApart (⇑s1 + 4) (⇑s1 + 2) (⇑s1 + 3) ⇑s1 (⇑s1 + 1) l1 l2:=W.ktu_apart _ _ _ F3 Ie;refine⟨_,[⇑s1 + 4,⇑s1 + 2,⇑s1 + 3,⇑s1,⇑s1 + 1],_,_,H1,Y,I1.kept (t':=s1.toks) λb o e=>hk b o e,vB l1 l2 _ _ _ _ _ D,st,λc hc=>?_,q⟩;have Bo:c=⇑s1 + 4\/c=⇑s1 + 2\/c=⇑s1 + 3\/c=⇑s1\/c=⇑s1 + 1:=by simpa using hc
   have ge:⇑s1<=c:=by
    rcases Bo with rfl | rfl | rfl | rfl | rfl
    ·exact EY _ _
    ·exact EY _ _
    ·exact EY _ _
    ·exact Yd _
    ·exact EY _ _
   exact I1.fpOk ge (I1.hok.fresh ge)
end
abbrev FZ(h:Heap)(z TI TO:χ)(f0:ω)(f:Bool):Prop:=h.get? z=some {cls:=.type "zip",dict:=none,data:=.fields #[f0,.bool f,.bool false,.ref TI,.ref TO],slots:=#[] }
section
variable {prog:Δ}{w:World}{A:Around}{E:EV}{s:Γ}
def Wl{z TI TO a:χ}{f:Bool}{oa:Obj}{Q:Bool->Γ->Prop}(hz:FZ s.heap z TI TO (rawInt a) f)(ha:s.heap.get? a≈oa)
  (hQ:∀ h',FZ h' z TI TO (rawInt a) true->Heap.SameBut z s.heap h'->Q false {s with heap:=h' }):wpAny (model prog w) A (Builtin.SmallTypes.ownedTupleIsFree (.ref z)) Q E s:=by
 unfold Builtin.SmallTypes.ownedTupleIsFree;refine Ja (Jg hz rfl (x:=rawInt a) rfl ?_);show wpAny _ _ (loadIfAlive ((a:Int).toNat)>>=_) _ _ _;rw[B0];refine Ja (W.kdx_alive ha ?_);simp only[Option.isNone_some,Co,if_false];refine Ja (Jg hz rfl (x:=.bool f) rfl ?_);cases f with
 | true =>
  rw[if_neg (show ¬ ((Value.bool true != Value.bool true)=true)from Yh)];exact Jd (hQ _ hz (Heap.SameBut.refl _ _))
 | false =>
  rw[if_pos (show(Value.bool false != Value.bool true)=true from rfl)];exact Ja (wpAny_setField_rec hz (by simp) λh₃ he₃ hs₃=>Jd (hQ _ he₃ hs₃))
def xR{z TI TO i1 i2 l1 l2 a:χ}{f:Bool}{oa:Obj}{k1 k2:Nat}{xs ys:δ}{x y:ω}{Q:EV}(D:ZipApart z TI TO i1 i2 l1 l2)(hz:FZ s.heap z TI TO (rawInt a) f)(ha:s.heap.get? a≈oa)(hTI:IsPair s.heap TI (.ref i1) (.ref i2))
  (h1:s.heap.IsListIter i1 l1 k1) (h2:s.heap.IsListIter i2 l2 k2) (Aa:s.heap.IsList l1 xs) (Ap:s.heap.IsList l2 ys) (hx:xs[k1]?≈x) (hy:ys[k2]?≈y)
  (hQ:∀ h',FZ h' z TI TO (rawInt a) true->h'.IsListIter i1 l1 (k1 + 1)->h'.IsListIter i2 l2 (k2 + 1)->IsPair h' ⇑s x y->h'.objs.size=⇑s + 1 ->
   (∀ c o,c≠z->c≠i1->c≠i2->s.heap.get? c≈o->h'.get? c≈o)->Q (.ref ⇑s) {s with heap:=h' }):
  wpAny (model prog w) A (Builtin.«zip.__next__» ⟨[.ref z],[]⟩) (λfin s'=>∃ v,fin=.done (.ret v)/\Q v s') E s:=by
 show wpAny _ _ (field (.ref z) 2>>=_) _ _ _;refine Ja (Jg hz rfl (x:=.bool false) rfl ?_);show wpAny _ _ (field (.ref z) 3>>=_) _ _ _;refine Ja (Jg hz rfl (x:=.ref TI) rfl ?_);refine Ja (wpAny_seqItems hTI rfl ?_);show wpAny _ _ (Builtin.SmallTypes.ownedTupleIsFree (.ref z)>>=_) _ _ _;refine Ja (Wl hz ha λh₁ hz₁ hs₁=>?_);simp only[Co,if_false,Xl,JO,Lc];refine Ja (Ja (Ja (Jj ?_)));show wpAny _ _ (Builtin.SmallTypes.nextOf (.ref i1)>>=_) _ _ _;refine Ja (wpAny_nextOf_list_item (h1.extBut hs₁.extBut D.i1z) (Aa.extBut hs₁.extBut D.l1z) hx λh₂ RH hs₂=>Jd ?_);refine Jd ?_;refine Ja (Ja (Jj ?_));show wpAny _ _ (Builtin.SmallTypes.nextOf (.ref i2)>>=_) _ _ _;refine Ja (wpAny_nextOf_list_item ((h2.extBut hs₁.extBut D.i2z).extBut hs₂.extBut D.i12.symm) ((Ap.extBut hs₁.extBut D.l2z).extBut hs₂.extBut D.l2i1) hy λh₃ Y1 hs₃=>Jd ?_);refine Jd (Jd ?_);refine Ja (wpAny_newTuple ?_ (by show 2<=sizeLine;rw[sizeLine_eq];decide));have hsz:h₃.objs.size=⇑s:=by rw[hs₃.1,hs₂.1,hs₁.1]
 have hz₃:FZ h₃ z TI TO (rawInt a) true:=hs₃.extBut _ _ D.i2z.symm (hs₂.extBut _ _ D.i1z.symm hz₁);have hk:∀ c o,c≠z->c≠i1->c≠i2->s.heap.get? c≈o->h₃.get? c≈o:=λc o c1 c3 c4 e=>hs₃.extBut _ _ c4 (hs₂.extBut _ _ c3 (hs₁.extBut _ _ c1 e));have Y2:h₃.IsListIter i1 l1 (k1 + 1):=RH.extBut hs₃.extBut D.i12;refine Jd ⟨Z,?_⟩;show Q (.ref h₃.objs.size) _;have fin:=hQ (h₃.push {cls:=.type "tuple",data:=.seq #[x,y] }) (Yb _ hz₃) (Y2.at λo e=>Yb _ e) (Y1.at λo e=>Yb _ e) (by rw[<- hsz];exact Ye _ rfl) (by rw[C6,hsz]) λc o c1 c2 c3 e=>Yb _ (hk c o c1 c2 c3 e);rw[hsz];exact fin
def xJ{z TI TO i1 i2 l1 l2 a:χ}{f:Bool}{oa:Obj}{k1 k2:Nat}{xs ys:δ}{Q:PySem.Fin->Γ->Prop}(hh:A.handled=none)(D:ZipApart z TI TO i1 i2 l1 l2)(hz:FZ s.heap z TI TO (rawInt a) f)(ha:s.heap.get? a≈oa)(hTI:IsPair s.heap TI (.ref i1) (.ref i2))
  (h1:s.heap.IsListIter i1 l1 k1) (h2:s.heap.IsListIter i2 l2 k2) (Aa:s.heap.IsList l1 xs) (Ap:s.heap.IsList l2 ys) (Au:xs[k1]?=none\/ys[k2]?=none)
  (hE:∀ h' e,(∀ c o,c≠z->c≠i1->c≠i2->s.heap.get? c≈o->h'.get? c≈o)->(∃ o,h'.get? e≈o/\o.cls=.type "StopIteration")->E (.ref e) {s with heap:=h' }):
  wpAny (model prog w) A (Builtin.«zip.__next__» ⟨[.ref z],[]⟩) Q E s:=by
 show wpAny _ _ (field (.ref z) 2>>=_) _ _ _;refine Ja (Jg hz rfl (x:=.bool false) rfl ?_);show wpAny _ _ (field (.ref z) 3>>=_) _ _ _;refine Ja (Jg hz rfl (x:=.ref TI) rfl ?_);refine Ja (wpAny_seqItems hTI rfl ?_);show wpAny _ _ (Builtin.SmallTypes.ownedTupleIsFree (.ref z)>>=_) _ _ _;refine Ja (Wl hz ha λh₁ hz₁ hs₁=>?_);simp only[Co,if_false,Xl,JO,Lc];refine Ja (Ja (Ja (Jj ?_)));show wpAny _ _ (Builtin.SmallTypes.nextOf (.ref i1)>>=_) _ _ _;cases hx:xs[k1]? with
 | none =>
  refine Ja (wpAny_nextOf_list_end hh (h1.extBut hs₁.extBut D.i1z) (Aa.extBut hs₁.extBut D.l1z) hx λh₂ e hs₂ he=>?_);exact hE h₂ e (λc o c1 c3 _ x=>hs₂ _ _ c3 (hs₁.extBut _ _ c1 x)) he
 | some x =>
  have hy:ys[k2]?=none:=by rcases Au with h | h;rw[hx]at h;cases h;exact h
  refine Ja (wpAny_nextOf_list_item (h1.extBut hs₁.extBut D.i1z) (Aa.extBut hs₁.extBut D.l1z) hx λh₂ RH hs₂=>Jd ?_);refine Jd ?_;refine Ja (Ja (Jj ?_));show wpAny _ _ (Builtin.SmallTypes.nextOf (.ref i2)>>=_) _ _ _;refine Ja (wpAny_nextOf_list_end hh ((h2.extBut hs₁.extBut D.i2z).extBut hs₂.extBut D.i12.symm) ((Ap.extBut hs₁.extBut D.l2z).extBut hs₂.extBut D.l2i1) hy λh₃ e hs₃ he=>?_);exact hE h₃ e (λc o c1 c3 c4 x=>hs₃ _ _ c4 (hs₂.extBut _ _ c3 (hs₁.extBut _ _ c1 x))) he
structure M_(h:Heap)(z TI TO i1 i2 l1 l2 S:χ)(i:Nat)(xs ys:δ):Prop where
 st:(IsZip h z TI TO .none)\/∃(a:χ) (f:Bool) (oa:Obj),FZ h z TI TO (rawInt a) f/\h.get? a≈oa/\a≠z/\a≠i1/\a≠i2/\a≠S
 ti:IsPair h TI (.ref i1) (.ref i2)
 to:∃ a b,IsPair h TO a b
 h1:h.IsListIter i1 l1 i
 h2:h.IsListIter i2 l2 i
 Aa:h.IsList l1 xs
 Ap:h.IsList l2 ys
def M_.keep{h h':Heap}{z TI TO i1 i2 l1 l2 S:χ}{i:Nat}{xs ys:δ}(x:M_ h z TI TO i1 i2 l1 l2 S i xs ys)(hk:∀ b o,b≠S->h.get? b≈o->h'.get? b≈o)(nz:z≠S)(nti:TI≠S)(nto:TO≠S)(n1:i1≠S)(n2:i2≠S)(m1:l1≠S)(m2:l2≠S):M_ h' z TI TO i1 i2 l1 l2 S i xs ys:=by
 obtain⟨st,ti,⟨a,b,to⟩,h1,h2,Aa,Ap⟩:=x;refine⟨?_,hk _ _ nti ti,⟨a,b,hk _ _ nto to⟩,h1.at λo e=>hk _ o n1 e,h2.at λo e=>hk _ o n2 e,Aa.at λo e=>hk _ o m1 e,Ap.at λo e=>hk _ o m2 e⟩
 rcases st with st | ⟨a,f,oa,st,ha,n⟩
 ·exact .inl (hk _ _ nz st)
 ·exact .inr ⟨a,f,oa,hk _ _ nz st,hk _ _ n.2.2.2 ha,n⟩
def tL{z TI TO i1 i2 l1 l2 S:χ}{i:Nat}{xs ys:δ}{x y:ω}{Q:OU->Γ->Prop}(D:ZipApart z TI TO i1 i2 l1 l2)(hst:M_ s.heap z TI TO i1 i2 l1 l2 S i xs ys)(hS:S<⇑s)(hx:xs[i]?≈x)(hy:ys[i]?≈y)
  (hQ:∀ h',M_ h' z TI TO i1 i2 l1 l2 S (i + 1) xs ys->IsPair h' ⇑s x y->h'.objs.size=⇑s + 1->(∀ b o,b≠z->b≠TO->b≠i1->b≠i2->s.heap.get? b≈o->h'.get? b≈o)->Q (↥(.ref ⇑s)) {s with heap:=h' }):
  wpAny (model prog w) A (pyNext (.ref z)) Q E s:=by
 obtain⟨st,ti,⟨a,b,to⟩,h1,h2,Aa,Ap⟩:=hst;have YG:i1<⇑s:=by obtain⟨_,e,_⟩:=h1;exact Yc e
 have YF:i2<⇑s:=by obtain⟨_,e,_⟩:=h2;exact Yc e
 rcases st with hz | ⟨c,f,oc,hz,hc,nz,n1,n2,nS⟩
 ·have zl:z<⇑s:=Yc hz;refine wpAny_pyNext_zip_item D hz ti to h1 h2 Aa Ap hx hy λh' a1 a2 a3 a4 a5 a6 hk=>hQ h' ⟨.inr ⟨_,false,_,a1,a5,Yt zl,Yt YG,Yt YF,Yt hS⟩,hk _ _ D.TIz D.TITO D.TIi1 D.TIi2 ti,⟨_,_,a2⟩,a3,a4,Aa.at λo e=>hk _ o D.l1z D.l1TO D.l1i1 D.l1i2 e,Ap.at λo e=>hk _ o D.l2z D.l2TO D.l2i1 D.l2i2 e⟩ a5 a6 hk
 ·have hT:s.TypeIs (.ref z) "zip":=⟨_,hz,Y⟩;unfold pyNext;exact Ja (wpAny_attempt (wpAny_callSpecial?_slot (name:=Str.ofString "__next__") hT EC
   (wpAny_call_entry EC hT LX
    (xR D hz hc ti h1 h2 Aa Ap hx hy λh' a1 a3 a4 a5 a6 hk=>Jd (hQ h' ⟨.inr ⟨c,true,_,a1,hk _ _ nz n1 n2 hc,nz,n1,n2,nS⟩,hk _ _ D.TIz D.TIi1 D.TIi2 ti,⟨_,_,hk _ _ D.TOz D.TOi1 D.TOi2 to⟩,a3,a4,Aa.at λo e=>hk _ o D.l1z D.l1i1 D.l1i2 e,Ap.at λo e=>hk _ o D.l2z D.l2i1 D.l2i2 e⟩ a5 a6 λb o b1 _ b3 b4 e=>hk b o b1 b3 b4 e)) (Lb _))))
def tK{z TI TO i1 i2 l1 l2 S:χ}{i:Nat}{xs ys:δ}{Q:OU->Γ->Prop}(hh:A.handled=none)(D:ZipApart z TI TO i1 i2 l1 l2)(hst:M_ s.heap z TI TO i1 i2 l1 l2 S i xs ys)(Au:xs[i]?=none\/ys[i]?=none)
  (hQ:∀ h',(∀ b o,b≠z->b≠TO->b≠i1->b≠i2->s.heap.get? b≈o->h'.get? b≈o)->Q none {s with heap:=h' }):wpAny (model prog w) A (pyNext (.ref z)) Q E s:=by
 obtain⟨st,ti,⟨a,b,to⟩,h1,h2,Aa,Ap⟩:=hst
 rcases st with hz | ⟨c,f,oc,hz,hc,nz,n1,n2,nS⟩
 ·exact wpAny_pyNext_zip_end hh D hz ti to h1 h2 Aa Ap Au hQ
 ·have hT:s.TypeIs (.ref z) "zip":=⟨_,hz,Y⟩;unfold pyNext;refine Ja (wpAny_attempt (wpAny_callSpecial?_slot (name:=Str.ofString "__next__") hT EC
   (wpAny_call_entry EC hT LX (xJ hh D hz hc ti h1 h2 Aa Ap Au λh' e hk he=>?_) (Lb _))))
  obtain⟨o,ho,hc⟩:=he;refine Ja (wpAny_isInstance (T:="StopIteration") (b:=true) ⟨o,ho,hc⟩ isSubtype_stop ?_);exact Jd (hQ _ λb o b1 _ b3 b4 e=>hk b o b1 b3 b4 e)
structure Yck(xs ys:δ)(lo:χ)(h:Heap)(as:μ):Prop where
 rise:as.Pairwise (·<·)
 above:∀ a∈as,lo<a
 pairs:∀(j:Nat) (a:χ),as[j]?≈a->∃ x y,xs[j]?≈x/\ys[j]?≈y/\IsPair h a x y
structure XD(z TI TO i1 i2 l1 l2 S:χ):Prop where
 z:z<S
 ti:TI<S
 to:TO<S
 i1:i1<S
 i2:i2<S
 l1:l1<S
 l2:l2<S
end
end L2
namespace L2
open PySem PySem.Spec
section
variable {prog:Δ}{w:World}{A:Around}{E:EV}{s:Γ}
end
end L2
namespace L2
open PySem PySem.Spec PyProof.Rows
section
variable {X:Cx}
end
end L2
namespace L2
open PySem PySem.Spec
def v9:typeLookup (.type "zip") "keys"=pure none:=by rw[typeLookup_type,builtinLookup_eq_fast];kernel_rfl
def v7:typeLookup (.type "zip") "__getattr__"=pure none:=by rw[typeLookup_type,builtinLookup_eq_fast];kernel_rfl
def wU:entryFor table "zip.__getattribute__"≈Builtin.«object.__getattribute__»:=entryFor_alias (id':="object.__getattribute__") (by kernel_rfl) (by rfl') (by rfl') (by kernel_rfl)
section
variable {prog:Δ}{w:World}{A:Around}{E:EV}{s:Γ}
def tH{z TI TO:χ}{f:ω}{tk:Tok}{Q:PySem.Fin->Γ->Prop}(hh:A.handled=none)(hz:IsZip s.heap z TI TO f)(hE:∀ h' tk e,Heap.NewAttrErr s.heap h' e (.ref z) "keys"->E (.ref e) {s with heap:=h',toks:=tk}):
  wpAny (model prog w) A (Builtin.«object.__getattribute__» ⟨[.ref z,.str "keys" tk],[]⟩) Q E s:=by
 have hT:s.TypeIs (.ref z) "zip":=⟨_,hz,Y⟩;have f3:=v9
 repeat (any_goals (first | assumption | wp_step))
 exact wpAny_raiseAttrError hh (λh' tk e hn=>hE h' tk e hn) (attrMsg_fits (by rfl') (by size_fits))
def i4{z TI TO:χ}{f:ω}{Q:OU->Γ->Prop}(hh:A.handled=none)(hz:IsZip s.heap z TI TO f)(hQ:∀ h' tk,(∀ b o,s.heap.get? b≈o->h'.get? b≈o)->Q none {s with heap:=h',toks:=tk}):
  wpAny (model prog w) A (getAttr? (.ref z) "keys") Q E s:=by
 have hT:∀ MA,Shared.TypeIs {s with toks:=MA } (.ref z) "zip":=λ_=>⟨_,hz,Y⟩;have f1:=sub_AttributeError;have f3:=PySem.F.slot_zip_getattribute.lookup;have f4:=PySem.F.slot_zip_getattribute.bind (.ref z);have f5:=v7;unfold getAttr? getAttrBy? getAttrBy
 repeat (any_goals (first | assumption | exact hT _ | wp_step))
 refine codeAny_call_builtin PySem.F.slot_zip_getattribute.plain wU (PySem.F.slot_zip_getattribute.check _ _ _ _ _ _ _ _ (hT _) (PySem.F.args_zip_getattribute_2 _ _) (tH (s:={s with toks:=_}) (by simp[hh]) hz λh' tk e hn=>?_));obtain⟨t',u',he⟩:=hn.there;show wpAny _ _ (getattributeRaised _ _ _ _ _ _ _) _ _ _;unfold getattributeRaised
 repeat (any_goals (first | assumption | wp_step))
 exact hQ h' tk hn.keeps
end
def WY:entryFor table "dict.update.loop"≈Builtin.«dict.update.loop»:=entryFor_of_tree (by kernel_rfl)
def K_:plainId "dict.update.loop"=true:=by rfl'
section
variable {prog:Δ}{w:World}{A:Around}{E:EV}{s:Γ}{K:Type}[DecidableEq K]{knd:KeyKind prog w K}
def j_{ν:List (K×ω)}{k:K}{v:ω}(h:k∉ν.map (·.1)):stored ν k v=ν++[(k,v)]:=by
 unfold stored;rw[if_neg];intro z;obtain⟨p,hp,e⟩:=Ft.mp z;exact h (Yo.mpr ⟨p,hp,Je e⟩)
def vI{R:Result->Γ->Prop}{z TI TO i1 i2 l1 l2 S:χ}{xs ys:δ}{ks:List K}(hks:∀(i:Nat) x,xs[i]?≈x->∃ k,ks[i]?≈k/\knd.is k x=true)(nd:ks.Nodup)(hh:A.handled=none)(D:ZipApart z TI TO i1 i2 l1 l2)(L:XD z TI TO i1 i2 l1 l2 S)(hn:min xs.size ys.size<=sizeLine){h₁:Heap}
  (hR:∀ h' tk,(∀ b o,b≠S->b≠z->b≠TO->b≠i1->b≠i2->h₁.get? b≈o->h'.get? b≈o)->h'.DictOf knd S ((ks.zip ys.toList).take (min xs.size ys.size))->R (.ok (.ret .none)) {s with heap:=h',toks:=tk}):
  ∀(k i:Nat) (h:Heap) (tk:Nat),min xs.size ys.size - i=k->i<=min xs.size ys.size->M_ h z TI TO i1 i2 l1 l2 S i xs ys->(∀ b o,b≠S->b≠z->b≠TO->b≠i1->b≠i2->h₁.get? b≈o->h.get? b≈o) ->
   h.DictOf knd S ((ks.zip ys.toList).take i)->codeAny (model prog w) A (.builtin "dict.update.loop" ⟨[.ref S,.ref z,rawInt i,.none],[]⟩) R {s with heap:=h,toks:=tk}:=by
 have Ic:S≠z:=Yt L.z;have nSo:S≠TO:=Yt L.to;have MJ:S≠i1:=Yt L.i1;have MI:S≠i2:=Yt L.i2;intro k
 induction k with
 | zero =>
  intro i h tk hk hi hst hkeep hS;have hin:i=min xs.size ys.size:=by omega
  refine codeAny_builtin WY ?_;rw[Qb K_ _];show wpAny _ A.in1 (pyNext (.ref z)>>=_) _ _ _;have Au:xs[i]?=none\/ys[i]?=none:=by
   rcases Nat.le_total xs.size ys.size with h | h
   ·exact .inl (LW (by omega))
   ·exact .inr (LW (by omega))
  refine Ja (tK (s:={s with heap:=h,toks:=tk}) (A:=A.in1) hh D hst Au λh' he=>?_);show wpAny _ A.in1 (Builtin.Dict.addKeywords S []>>=_) _ _ _;refine Ja (Jd (Jd (hR h' tk (λb o h0 h1 h2 h3 h4 e=>he b o h1 h2 h3 h4 (hkeep b o h0 h1 h2 h3 h4 e)) ?_)));obtain⟨o,es,ep,e1,e2⟩:=hS;rw[<- hin];exact⟨o,es,ep,he S _ Ic nSo MJ MI e1,e2⟩
 | succ k ih =>
  intro i h tk hk hi hst hkeep hS;have A_:i<min xs.size ys.size:=by omega
  obtain⟨x,hx⟩:∃ x,xs[i]?≈x:=⟨xs[i],Le (by omega)⟩;obtain⟨y,hy⟩:∃ y,ys[i]?≈y:=⟨ys[i],Le (by omega)⟩;obtain⟨kk,hkk,his⟩:=hks i x hx;refine codeAny_builtin WY ?_;rw[Qb K_ _];show wpAny _ A.in1 (pyNext (.ref z)>>=_) _ _ _;have hSl:S<h.objs.size:=by obtain⟨o,es,ep,e1,_⟩:=hS;exact Yc e1
  refine Ja (tL (s:={s with heap:=h,toks:=tk}) D hst hSl hx hy λh' Gw ht hz hkp=>?_);dsimp only at ht hz hkp ⊢;have FC:h'.DictOf knd S ((ks.zip ys.toList).take i):=by
   obtain⟨o,es,ep,e1,e2⟩:=hS;exact⟨o,es,ep,hkp S _ Ic nSo MJ MI e1,e2⟩
  have yt:ys.toList[i]?≈y:=by rw[JQ];exact hy
  have hzi:(ks.zip ys.toList)[i]?≈(kk,y):=by rw[Lf];exact⟨hkk,yt⟩
  have fresh:kk∉((ks.zip ys.toList).take i).map (·.1):=λm=>by
   obtain⟨p,hp,e⟩:=Yo.mp m;obtain⟨j,hj⟩:=IK hp;have jl:=(Yf.mp hj).1;rw[Yv]at jl;rw[ba (by omega),Lf]at hj;obtain⟨a1,a2⟩:=Yf.mp hj.1;obtain⟨b1,b2⟩:=Yf.mp hkk;have:=(List.getElem_inj nd).mp (a2.trans (e.trans b2.symm));omega
  have hT:Shared.TypeIs {s with heap:=h',toks:=tk} (.ref h.objs.size) "tuple":=⟨_,ht,Y⟩;show wpAny _ A.in1 (holding [Value.ref h.objs.size] _>>=_) _ _ _;refine Ja (Jj (Ja (wpAny_tryCatch ?_)));unfold Builtin.Dict.pairItems;refine Ja (wpAny_typeOf hT ?_);rw[if_pos (by decide)];refine Ja (wpAny_seqItems ht rfl (Jd ?_));show wpAny _ A.in1 (holding [x,y] (dictSet S x y)) _ _ _;refine Jj (wpAny_dictSet_pairs (s:={s with heap:=h',toks:=tk}) his FC (λFX hd sb=>?_) (by rw[Yv];omega));rw[j_ fresh]at hd;have up:∀ b o,b≠S->h'.get? b≈o->FX.get? b≈o:=λb o hb e=>(sb.2 b hb).trans e;refine Jd ⟨plainId_quiet K_ _,ih (i + 1) FX (tk + 1) (by omega) A_ (Gw.keep up (Ae Ic) (Yl L.ti) (Ae nSo) (Ae MJ) (Ae MI) (Yl L.l1) (Yl L.l2)) (λb o h0 h1 h2 h3 h4 e=>up b o h0 (hkp b o h1 h2 h3 h4 (hkeep b o h0 h1 h2 h3 h4 e))) ?_⟩;rw[Bz,hzi];exact hd
end
section
variable {prog:Δ}{w:World}{A:Around}{E:EV}{s:Γ}{K:Type}[DecidableEq K]{knd:KeyKind prog w K}
def xH{z TI TO i1 i2 l1 l2:χ}{xs ys:δ}{ks:List K}{Q:EV}(hks:∀(i:Nat) x,xs[i]?≈x->∃ k,ks[i]?≈k/\knd.is k x=true)(nd:ks.Nodup)(hh:A.handled=none)(D:ZipApart z TI TO i1 i2 l1 l2)(L:XD z TI TO i1 i2 l1 l2 ⇑s)(hz:IsZip s.heap z TI TO .none)(hti:IsPair s.heap TI (.ref i1) (.ref i2))(hto:∃ a b,IsPair s.heap TO a b)
  (h1:s.heap.IsListIter i1 l1 0) (h2:s.heap.IsListIter i2 l2 0) (Aa:s.heap.IsList l1 xs) (Ap:s.heap.IsList l2 ys) (hn:min xs.size ys.size<=sizeLine)
  (hQ:∀ h' tk,(∀ b o,b≠z->b≠TO->b≠i1->b≠i2->s.heap.get? b≈o->h'.get? b≈o)->h'.DictOf knd ⇑s ((ks.zip ys.toList).take (min xs.size ys.size))->Q (.ref ⇑s) {s with heap:=h',toks:=tk}):
  wpAny (model prog w) A (call (.type "dict") [.ref z]) Q E s:=by
 refine callType_codes (Q₁:=λobj s₁=>obj=.ref ⇑s/\s₁={s with heap:=s.heap.push {cls:=.type "dict",data:=.dict #[] } }) F.kt_called_dict (F.kt_typeCall_dict_1 _) F.entry_dict_init (kt_code_dict_new _ ⟨Y,Y⟩) ?_;rintro obj s₁ ⟨rfl,rfl⟩;have Av:(s.heap.push {cls:=.type "dict",data:=.dict #[] }).DictOf knd ⇑s []:=Heap.DictOf.new s.heap;have push:∀ b o,s.heap.get? b≈o->(s.heap.push {cls:=.type "dict",data:=.dict #[] }).get? b≈o:=λb o e=>Yb _ e;have hz₁:=push _ _ hz;have hT:Shared.TypeIs {s with heap:=s.heap.push {cls:=.type "dict",data:=.dict #[] } } (.ref z) "zip":=⟨_,hz₁,Y⟩;refine⟨Av.typeIs,F.args_dict_init_2 _ _,?_⟩;unfold Builtin.«dict.__init__»;refine Ja ?_;unfold Builtin.Dict.selfAndRest;refine Ja (wpAny_notOrdered_dict Av.typeIs ?_);show wpAny _ _ (pure (⇑s,[Value.ref z])) _ _ _;refine Jd ?_;show wpAny _ _ (Builtin.Dict.updateFrom "dict.__init__" ⇑s (.ref z) [] .none) _ _ _;unfold Builtin.Dict.updateFrom;refine Ja (wpAny_typeOf hT ?_);rw[if_pos (by decide)];refine Ja (i4 (s:={s with heap:=s.heap.push {cls:=.type "dict",data:=.dict #[] } }) (by simp[hh]) hz₁ λh' tk hk=>?_);dsimp only at hk;rw[if_pos (by rfl:(none:OU).isNone=true)];refine Ja (wpAny_rule ?_);have all:∀ b o,s.heap.get? b≈o->h'.get? b≈o:=λb o e=>hk b o (push b o e);refine Ja (wpAny_pyIter_zip (s:={s with heap:=h',toks:=tk}) (hk _ _ hz₁) ?_);obtain⟨a,b,hto⟩:=hto;refine Jd ⟨plainId_quiet K_ _,vI (s:=s) (h₁:=h') hks nd (by simp[hh]) D L hn (λFX MA CA hd=>?_) _ 0 h' tk rfl (Bm _) ⟨.inl (all _ _ hz),all _ _ hti,⟨a,b,all _ _ hto⟩,h1.at λo e=>all _ o e,h2.at λo e=>all _ o e,Aa.at λo e=>all _ o e,Ap.at λo e=>all _ o e⟩ (λb o _ _ _ _ _ e=>e) ?_⟩
 ·exact⟨Y,hQ FX MA (λb o n1 n2 n3 n4 e=>CA b o (Yl (Yc e)) n1 n2 n3 n4 (all b o e)) hd⟩
 ·obtain⟨o,es,ep,e1,e2⟩:=Av;rw[EX];exact⟨o,es,ep,hk _ _ e1,e2⟩
end
end L2
namespace L2
open PySem PySem.Spec PyProof.Rows
theorem ZH:∀ {ks:List Key}{ys:LV}{us:LU},AR ys us->KV (ks.zip ys) (ks.zip us)
 | [],_,_,_=>.nil
 | k :: ks,[],_,.nil=>.nil
 | k :: ks,y :: ys,u :: us,.cons r t=>.cons ⟨Y,r⟩ (ZH t)
section
variable {X:Cx}
end
section
variable {prog:Δ}{w:World}{A:Around}{E:EV}{s:Γ}
def xT{z TI TO i1 i2 l1 l2 a:χ}{f:Bool}{oa:Obj}{k1 k2:Nat}{xs ys:δ}{x y:ω}{Q:EV}(D:ZipApart z TI TO i1 i2 l1 l2)(hz:FZ s.heap z TI TO (rawInt a) f)(ha:s.heap.get? a≈oa)(hTI:IsPair s.heap TI (.ref i1) (.ref i2))
  (h1:s.heap.IsListIter i1 l1 k1) (h2:s.heap.IsTupleIter i2 l2 k2) (Aa:s.heap.IsList l1 xs) (Ap:s.heap.IsTuple l2 ys) (hx:xs[k1]?≈x) (hy:ys[k2]?≈y)
  (hQ:∀ h',FZ h' z TI TO (rawInt a) true->h'.IsListIter i1 l1 (k1 + 1)->h'.IsTupleIter i2 l2 (k2 + 1)->IsPair h' ⇑s x y->h'.objs.size=⇑s + 1 ->
   (∀ c o,c≠z->c≠i1->c≠i2->s.heap.get? c≈o->h'.get? c≈o)->Q (.ref ⇑s) {s with heap:=h' }):
  wpAny (model prog w) A (Builtin.«zip.__next__» ⟨[.ref z],[]⟩) (λfin s'=>∃ v,fin=.done (.ret v)/\Q v s') E s:=by
 show wpAny _ _ (field (.ref z) 2>>=_) _ _ _;refine Ja (Jg hz rfl (x:=.bool false) rfl ?_);show wpAny _ _ (field (.ref z) 3>>=_) _ _ _;refine Ja (Jg hz rfl (x:=.ref TI) rfl ?_);refine Ja (wpAny_seqItems hTI rfl ?_);show wpAny _ _ (Builtin.SmallTypes.ownedTupleIsFree (.ref z)>>=_) _ _ _;refine Ja (Wl hz ha λh₁ hz₁ hs₁=>?_);simp only[Co,if_false,Xl,JO,Lc];refine Ja (Ja (Ja (Jj ?_)));show wpAny _ _ (Builtin.SmallTypes.nextOf (.ref i1)>>=_) _ _ _;refine Ja (wpAny_nextOf_list_item (h1.extBut hs₁.extBut D.i1z) (Aa.extBut hs₁.extBut D.l1z) hx λh₂ RH hs₂=>Jd ?_);refine Jd ?_;refine Ja (Ja (Jj ?_));show wpAny _ _ (Builtin.SmallTypes.nextOf (.ref i2)>>=_) _ _ _;refine Ja (QK ((h2.extBut hs₁.extBut D.i2z).extBut hs₂.extBut D.i12.symm) ((Ap.extBut hs₁.extBut D.l2z).extBut hs₂.extBut D.l2i1) hy λh₃ Y1 hs₃=>Jd ?_);refine Jd (Jd ?_);refine Ja (wpAny_newTuple ?_ (by show 2<=sizeLine;rw[sizeLine_eq];decide));have hsz:h₃.objs.size=⇑s:=by rw[hs₃.1,hs₂.1,hs₁.1]
 have hz₃:FZ h₃ z TI TO (rawInt a) true:=hs₃.extBut _ _ D.i2z.symm (hs₂.extBut _ _ D.i1z.symm hz₁);have hk:∀ c o,c≠z->c≠i1->c≠i2->s.heap.get? c≈o->h₃.get? c≈o:=λc o c1 c3 c4 e=>hs₃.extBut _ _ c4 (hs₂.extBut _ _ c3 (hs₁.extBut _ _ c1 e));have Y2:h₃.IsListIter i1 l1 (k1 + 1):=RH.extBut hs₃.extBut D.i12;refine Jd ⟨Z,?_⟩;show Q (.ref h₃.objs.size) _;have fin:=hQ (h₃.push {cls:=.type "tuple",data:=.seq #[x,y] }) (Yb _ hz₃) (Y2.at λo e=>Yb _ e) (Y1.at λo e=>Yb _ e) (by rw[<- hsz];exact Ye _ rfl) (by rw[C6,hsz]) λc o c1 c2 c3 e=>Yb _ (hk c o c1 c2 c3 e);rw[hsz];exact fin
def xQ{z TI TO i1 i2 l1 l2 a:χ}{f:Bool}{oa:Obj}{k1 k2:Nat}{xs ys:δ}{Q:PySem.Fin->Γ->Prop}(hh:A.handled=none)(D:ZipApart z TI TO i1 i2 l1 l2)(hz:FZ s.heap z TI TO (rawInt a) f)(ha:s.heap.get? a≈oa)(hTI:IsPair s.heap TI (.ref i1) (.ref i2))
  (h1:s.heap.IsListIter i1 l1 k1) (h2:s.heap.IsTupleIter i2 l2 k2) (Aa:s.heap.IsList l1 xs) (Ap:s.heap.IsTuple l2 ys) (Au:xs[k1]?=none\/ys[k2]?=none)
  (hE:∀ h' e,(∀ c o,c≠z->c≠i1->c≠i2->s.heap.get? c≈o->h'.get? c≈o)->(∃ o,h'.get? e≈o/\o.cls=.type "StopIteration")->E (.ref e) {s with heap:=h' }):
  wpAny (model prog w) A (Builtin.«zip.__next__» ⟨[.ref z],[]⟩) Q E s:=by
 show wpAny _ _ (field (.ref z) 2>>=_) _ _ _;refine Ja (Jg hz rfl (x:=.bool false) rfl ?_);show wpAny _ _ (field (.ref z) 3>>=_) _ _ _;refine Ja (Jg hz rfl (x:=.ref TI) rfl ?_);refine Ja (wpAny_seqItems hTI rfl ?_);show wpAny _ _ (Builtin.SmallTypes.ownedTupleIsFree (.ref z)>>=_) _ _ _;refine Ja (Wl hz ha λh₁ hz₁ hs₁=>?_);simp only[Co,if_false,Xl,JO,Lc];refine Ja (Ja (Ja (Jj ?_)));show wpAny _ _ (Builtin.SmallTypes.nextOf (.ref i1)>>=_) _ _ _;cases hx:xs[k1]? with
 | none =>
  refine Ja (wpAny_nextOf_list_end hh (h1.extBut hs₁.extBut D.i1z) (Aa.extBut hs₁.extBut D.l1z) hx λh₂ e hs₂ he=>?_);exact hE h₂ e (λc o c1 c3 _ x=>hs₂ _ _ c3 (hs₁.extBut _ _ c1 x)) he
 | some x =>
  have hy:ys[k2]?=none:=by rcases Au with h | h;rw[hx]at h;cases h;exact h
  refine Ja (wpAny_nextOf_list_item (h1.extBut hs₁.extBut D.i1z) (Aa.extBut hs₁.extBut D.l1z) hx λh₂ RH hs₂=>Jd ?_);refine Jd ?_;refine Ja (Ja (Jj ?_));show wpAny _ _ (Builtin.SmallTypes.nextOf (.ref i2)>>=_) _ _ _;refine Ja (QJ hh ((h2.extBut hs₁.extBut D.i2z).extBut hs₂.extBut D.i12.symm) ((Ap.extBut hs₁.extBut D.l2z).extBut hs₂.extBut D.l2i1) hy λh₃ e hs₃ he=>?_);exact hE h₃ e (λc o c1 c3 c4 x=>hs₃ _ _ c4 (hs₂.extBut _ _ c3 (hs₁.extBut _ _ c1 x))) he
structure NA(h:Heap)(z TI TO i1 i2 l1 l2 S:χ)(i:Nat)(xs ys:δ):Prop where
 st:(IsZip h z TI TO .none)\/∃(a:χ) (f:Bool) (oa:Obj),FZ h z TI TO (rawInt a) f/\h.get? a≈oa/\a≠z/\a≠i1/\a≠i2/\a≠S
 ti:IsPair h TI (.ref i1) (.ref i2)
 to:∃ a b,IsPair h TO a b
 h1:h.IsListIter i1 l1 i
 h2:h.IsTupleIter i2 l2 i
 Aa:h.IsList l1 xs
 Ap:h.IsTuple l2 ys
def NA.keep{h h':Heap}{z TI TO i1 i2 l1 l2 S:χ}{i:Nat}{xs ys:δ}(x:NA h z TI TO i1 i2 l1 l2 S i xs ys)(hk:∀ b o,b≠S->h.get? b≈o->h'.get? b≈o)(nz:z≠S)(nti:TI≠S)(nto:TO≠S)(n1:i1≠S)(n2:i2≠S)(m1:l1≠S)(m2:l2≠S):NA h' z TI TO i1 i2 l1 l2 S i xs ys:=by
 obtain⟨st,ti,⟨a,b,to⟩,h1,h2,Aa,Ap⟩:=x;refine⟨?_,hk _ _ nti ti,⟨a,b,hk _ _ nto to⟩,h1.at λo e=>hk _ o n1 e,h2.at λo e=>hk _ o n2 e,Aa.at λo e=>hk _ o m1 e,Ap.at λo e=>hk _ o m2 e⟩
 rcases st with st | ⟨a,f,oa,st,ha,n⟩
 ·exact .inl (hk _ _ nz st)
 ·exact .inr ⟨a,f,oa,hk _ _ nz st,hk _ _ n.2.2.2 ha,n⟩
def tJ{z TI TO i1 i2 l1 l2 S:χ}{i:Nat}{xs ys:δ}{x y:ω}{Q:OU->Γ->Prop}(D:ZipApart z TI TO i1 i2 l1 l2)(hst:NA s.heap z TI TO i1 i2 l1 l2 S i xs ys)(hS:S<⇑s)(hx:xs[i]?≈x)(hy:ys[i]?≈y)
  (hQ:∀ h',NA h' z TI TO i1 i2 l1 l2 S (i + 1) xs ys->IsPair h' ⇑s x y->(∀ b o,b≠z->b≠TO->b≠i1->b≠i2->s.heap.get? b≈o->h'.get? b≈o)->Q (↥(.ref ⇑s)) {s with heap:=h' }):
  wpAny (model prog w) A (pyNext (.ref z)) Q E s:=by
 obtain⟨st,ti,⟨a,b,to⟩,h1,h2,Aa,Ap⟩:=hst;have YG:i1<⇑s:=by obtain⟨_,e,_⟩:=h1;exact Yc e
 have YF:i2<⇑s:=by obtain⟨_,e,_⟩:=h2;exact Yc e
 rcases st with hz | ⟨c,f,oc,hz,hc,nz,n1,n2,nS⟩
 ·have zl:z<⇑s:=Yc hz;refine kq D ⟨hz,ti,⟨a,b,to⟩,h1,h2⟩ Aa Ap hx hy λh' a0 a5 hk=>hQ h' ⟨.inr ⟨_,false,_,a0.z,a5,Yt zl,Yt YG,Yt YF,Yt hS⟩,hk _ _ D.TIz D.TITO D.TIi1 D.TIi2 ti,a0.to,a0.i1,a0.i2,Aa.at λo e=>hk _ o D.l1z D.l1TO D.l1i1 D.l1i2 e,Ap.at λo e=>hk _ o D.l2z D.l2TO D.l2i1 D.l2i2 e⟩ a5 hk
 ·have hT:s.TypeIs (.ref z) "zip":=⟨_,hz,Y⟩;unfold pyNext;exact Ja (wpAny_attempt (wpAny_callSpecial?_slot (name:=Str.ofString "__next__") hT EC
   (wpAny_call_entry EC hT LX
    (xT D hz hc ti h1 h2 Aa Ap hx hy λh' a1 a3 a4 a5 a6 hk=>Jd (hQ h' ⟨.inr ⟨c,true,_,a1,hk _ _ nz n1 n2 hc,nz,n1,n2,nS⟩,hk _ _ D.TIz D.TIi1 D.TIi2 ti,⟨_,_,hk _ _ D.TOz D.TOi1 D.TOi2 to⟩,a3,a4,Aa.at λo e=>hk _ o D.l1z D.l1i1 D.l1i2 e,Ap.at λo e=>hk _ o D.l2z D.l2i1 D.l2i2 e⟩ a5 λb o b1 _ b3 b4 e=>hk b o b1 b3 b4 e)) (Lb _))))
def tI{z TI TO i1 i2 l1 l2 S:χ}{i:Nat}{xs ys:δ}{Q:OU->Γ->Prop}(hh:A.handled=none)(D:ZipApart z TI TO i1 i2 l1 l2)(hst:NA s.heap z TI TO i1 i2 l1 l2 S i xs ys)(Au:xs[i]?=none\/ys[i]?=none)
  (hQ:∀ h',(∀ b o,b≠z->b≠TO->b≠i1->b≠i2->s.heap.get? b≈o->h'.get? b≈o)->Q none {s with heap:=h' }):wpAny (model prog w) A (pyNext (.ref z)) Q E s:=by
 obtain⟨st,ti,⟨a,b,to⟩,h1,h2,Aa,Ap⟩:=hst
 rcases st with hz | ⟨c,f,oc,hz,hc,nz,n1,n2,nS⟩
 ·exact ko hh D ⟨hz,ti,⟨a,b,to⟩,h1,h2⟩ Aa Ap Au hQ
 ·have hT:s.TypeIs (.ref z) "zip":=⟨_,hz,Y⟩;unfold pyNext;refine Ja (wpAny_attempt (wpAny_callSpecial?_slot (name:=Str.ofString "__next__") hT EC
   (wpAny_call_entry EC hT LX (xQ hh D hz hc ti h1 h2 Aa Ap Au λh' e hk he=>?_) (Lb _))))
  obtain⟨o,ho,hc⟩:=he;refine Ja (wpAny_isInstance (T:="StopIteration") (b:=true) ⟨o,ho,hc⟩ isSubtype_stop ?_);exact Jd (hQ _ λb o b1 _ b3 b4 e=>hk b o b1 b3 b4 e)
end
section
variable {prog:Δ}{w:World}{A:Around}{E:EV}{s:Γ}{K:Type}[DecidableEq K]{knd:KeyKind prog w K}
def vo{R:Result->Γ->Prop}{z TI TO i1 i2 l1 l2 S:χ}{xs ys:δ}{ks:List K}(hks:∀(i:Nat) x,xs[i]?≈x->∃ k,ks[i]?≈k/\knd.is k x=true)(nd:ks.Nodup)(hh:A.handled=none)(D:ZipApart z TI TO i1 i2 l1 l2)(L:XD z TI TO i1 i2 l1 l2 S)(hn:min xs.size ys.size<=sizeLine){h₁:Heap}
  (hR:∀ h' tk,(∀ b o,b≠S->b≠z->b≠TO->b≠i1->b≠i2->h₁.get? b≈o->h'.get? b≈o)->h'.DictOf knd S ((ks.zip ys.toList).take (min xs.size ys.size))->R (.ok (.ret .none)) {s with heap:=h',toks:=tk}):
  ∀(k i:Nat) (h:Heap) (tk:Nat),min xs.size ys.size - i=k->i<=min xs.size ys.size->NA h z TI TO i1 i2 l1 l2 S i xs ys->(∀ b o,b≠S->b≠z->b≠TO->b≠i1->b≠i2->h₁.get? b≈o->h.get? b≈o) ->
   h.DictOf knd S ((ks.zip ys.toList).take i)->codeAny (model prog w) A (.builtin "dict.update.loop" ⟨[.ref S,.ref z,rawInt i,.none],[]⟩) R {s with heap:=h,toks:=tk}:=by
 have Ic:S≠z:=Yt L.z;have nSo:S≠TO:=Yt L.to;have MJ:S≠i1:=Yt L.i1;have MI:S≠i2:=Yt L.i2;intro k
 induction k with
 | zero =>
  intro i h tk hk hi hst hkeep hS;have hin:i=min xs.size ys.size:=by omega
  refine codeAny_builtin WY ?_;rw[Qb K_ _];show wpAny _ A.in1 (pyNext (.ref z)>>=_) _ _ _;have Au:xs[i]?=none\/ys[i]?=none:=by
   rcases Nat.le_total xs.size ys.size with h | h
   ·exact .inl (LW (by omega))
   ·exact .inr (LW (by omega))
  refine Ja (tI (s:={s with heap:=h,toks:=tk}) (A:=A.in1) hh D hst Au λh' he=>?_);show wpAny _ A.in1 (Builtin.Dict.addKeywords S []>>=_) _ _ _;refine Ja (Jd (Jd (hR h' tk (λb o h0 h1 h2 h3 h4 e=>he b o h1 h2 h3 h4 (hkeep b o h0 h1 h2 h3 h4 e)) ?_)));obtain⟨o,es,ep,e1,e2⟩:=hS;rw[<- hin];exact⟨o,es,ep,he S _ Ic nSo MJ MI e1,e2⟩
 | succ k ih =>
  intro i h tk hk hi hst hkeep hS;have A_:i<min xs.size ys.size:=by omega
  obtain⟨x,hx⟩:∃ x,xs[i]?≈x:=⟨xs[i],Le (by omega)⟩;obtain⟨y,hy⟩:∃ y,ys[i]?≈y:=⟨ys[i],Le (by omega)⟩;obtain⟨kk,hkk,his⟩:=hks i x hx;refine codeAny_builtin WY ?_;rw[Qb K_ _];show wpAny _ A.in1 (pyNext (.ref z)>>=_) _ _ _;have hSl:S<h.objs.size:=by obtain⟨o,es,ep,e1,_⟩:=hS;exact Yc e1
  refine Ja (tJ (s:={s with heap:=h,toks:=tk}) D hst hSl hx hy λh' Gw ht hkp=>?_);dsimp only at ht hkp ⊢;have FC:h'.DictOf knd S ((ks.zip ys.toList).take i):=by
   obtain⟨o,es,ep,e1,e2⟩:=hS;exact⟨o,es,ep,hkp S _ Ic nSo MJ MI e1,e2⟩
  have yt:ys.toList[i]?≈y:=by rw[JQ];exact hy
  have hzi:(ks.zip ys.toList)[i]?≈(kk,y):=by rw[Lf];exact⟨hkk,yt⟩
  have fresh:kk∉((ks.zip ys.toList).take i).map (·.1):=λm=>by
   obtain⟨p,hp,e⟩:=Yo.mp m;obtain⟨j,hj⟩:=IK hp;have jl:=(Yf.mp hj).1;rw[Yv]at jl;rw[ba (by omega),Lf]at hj;obtain⟨a1,a2⟩:=Yf.mp hj.1;obtain⟨b1,b2⟩:=Yf.mp hkk;have:=(List.getElem_inj nd).mp (a2.trans (e.trans b2.symm));omega
  have hT:Shared.TypeIs {s with heap:=h',toks:=tk} (.ref h.objs.size) "tuple":=⟨_,ht,Y⟩;show wpAny _ A.in1 (holding [Value.ref h.objs.size] _>>=_) _ _ _;refine Ja (Jj (Ja (wpAny_tryCatch ?_)));unfold Builtin.Dict.pairItems;refine Ja (wpAny_typeOf hT ?_);rw[if_pos (by decide)];refine Ja (wpAny_seqItems ht rfl (Jd ?_));show wpAny _ A.in1 (holding [x,y] (dictSet S x y)) _ _ _;refine Jj (wpAny_dictSet_pairs (s:={s with heap:=h',toks:=tk}) his FC (λFX hd sb=>?_) (by rw[Yv];omega));rw[j_ fresh]at hd;have up:∀ b o,b≠S->h'.get? b≈o->FX.get? b≈o:=λb o hb e=>(sb.2 b hb).trans e;refine Jd ⟨plainId_quiet K_ _,ih (i + 1) FX (tk + 1) (by omega) A_ (Gw.keep up (Ae Ic) (Yl L.ti) (Ae nSo) (Ae MJ) (Ae MI) (Yl L.l1) (Yl L.l2)) (λb o h0 h1 h2 h3 h4 e=>up b o h0 (hkp b o h1 h2 h3 h4 (hkeep b o h0 h1 h2 h3 h4 e))) ?_⟩;rw[Bz,hzi];exact hd
def xM{z TI TO i1 i2 l1 l2:χ}{xs ys:δ}{ks:List K}{Q:EV}(hks:∀(i:Nat) x,xs[i]?≈x->∃ k,ks[i]?≈k/\knd.is k x=true)(nd:ks.Nodup)(hh:A.handled=none)(D:ZipApart z TI TO i1 i2 l1 l2)(L:XD z TI TO i1 i2 l1 l2 ⇑s)(hz:IsZip s.heap z TI TO .none)(hti:IsPair s.heap TI (.ref i1) (.ref i2))(hto:∃ a b,IsPair s.heap TO a b)
  (h1:s.heap.IsListIter i1 l1 0) (h2:s.heap.IsTupleIter i2 l2 0) (Aa:s.heap.IsList l1 xs) (Ap:s.heap.IsTuple l2 ys) (hn:min xs.size ys.size<=sizeLine)
  (hQ:∀ h' tk,(∀ b o,b≠z->b≠TO->b≠i1->b≠i2->s.heap.get? b≈o->h'.get? b≈o)->h'.DictOf knd ⇑s ((ks.zip ys.toList).take (min xs.size ys.size))->Q (.ref ⇑s) {s with heap:=h',toks:=tk}):
  wpAny (model prog w) A (call (.type "dict") [.ref z]) Q E s:=by
 refine callType_codes (Q₁:=λobj s₁=>obj=.ref ⇑s/\s₁={s with heap:=s.heap.push {cls:=.type "dict",data:=.dict #[] } }) F.kt_called_dict (F.kt_typeCall_dict_1 _) F.entry_dict_init (kt_code_dict_new _ ⟨Y,Y⟩) ?_;rintro obj s₁ ⟨rfl,rfl⟩;have Av:(s.heap.push {cls:=.type "dict",data:=.dict #[] }).DictOf knd ⇑s []:=Heap.DictOf.new s.heap;have push:∀ b o,s.heap.get? b≈o->(s.heap.push {cls:=.type "dict",data:=.dict #[] }).get? b≈o:=λb o e=>Yb _ e;have hz₁:=push _ _ hz;have hT:Shared.TypeIs {s with heap:=s.heap.push {cls:=.type "dict",data:=.dict #[] } } (.ref z) "zip":=⟨_,hz₁,Y⟩;refine⟨Av.typeIs,F.args_dict_init_2 _ _,?_⟩;unfold Builtin.«dict.__init__»;refine Ja ?_;unfold Builtin.Dict.selfAndRest;refine Ja (wpAny_notOrdered_dict Av.typeIs ?_);show wpAny _ _ (pure (⇑s,[Value.ref z])) _ _ _;refine Jd ?_;show wpAny _ _ (Builtin.Dict.updateFrom "dict.__init__" ⇑s (.ref z) [] .none) _ _ _;unfold Builtin.Dict.updateFrom;refine Ja (wpAny_typeOf hT ?_);rw[if_pos (by decide)];refine Ja (i4 (s:={s with heap:=s.heap.push {cls:=.type "dict",data:=.dict #[] } }) (by simp[hh]) hz₁ λh' tk hk=>?_);dsimp only at hk;rw[if_pos (by rfl:(none:OU).isNone=true)];refine Ja (wpAny_rule ?_);have all:∀ b o,s.heap.get? b≈o->h'.get? b≈o:=λb o e=>hk b o (push b o e);refine Ja (wpAny_pyIter_zip (s:={s with heap:=h',toks:=tk}) (hk _ _ hz₁) ?_);obtain⟨a,b,hto⟩:=hto;refine Jd ⟨plainId_quiet K_ _,vo (s:=s) (h₁:=h') hks nd (by simp[hh]) D L hn (λFX MA CA hd=>?_) _ 0 h' tk rfl (Bm _) ⟨.inl (all _ _ hz),all _ _ hti,⟨a,b,all _ _ hto⟩,h1.at λo e=>all _ o e,h2.at λo e=>all _ o e,Aa.at λo e=>all _ o e,Ap.at λo e=>all _ o e⟩ (λb o _ _ _ _ _ e=>e) ?_⟩
 ·exact⟨Y,hQ FX MA (λb o n1 n2 n3 n4 e=>CA b o (Yl (Yc e)) n1 n2 n3 n4 (all b o e)) hd⟩
 ·obtain⟨o,es,ep,e1,e2⟩:=Av;rw[EX];exact⟨o,es,ep,hk _ _ e1,e2⟩
end
section
variable {X:Cx}
def u4(K:Fg)(ta:TA):TE:=λσ H Q=>ta σ H λvs H1=>∃(l1 l2:χ) (ks:List Key) (ys:LV),vs=[.ref l1,.ref l2]/\AD K H1 l1 (ks.map kV)/\(AD K H1 l2 ys\/AJ K H1 l2 ys)/\ks.Nodup /\
 ∀ p,H1 p=none->Q (.ref p) (upd H1 p (.dK (ks.zip ys)))
def kN{a b:Expr}{ta:TA}{p1 p2 Gu JU:Pos}(hc:X.calm=true)(RC:Gl X "dict")(MO:X.mg "dict"=none)(hg:Gl X "zip")(hm:X.mg "zip"=none)(ha:PA X [a,b] ta)
  (hs:starEach [a,b] X.env=[(false,eval a X.env),(false,eval b X.env)]:=by rfl) (DK:starEach [b] X.env=[(false,eval b X.env)]:=by rfl)
  (qP:starEach [.Call (.Name "zip" p2) [a,b] [] JU] X.env=[(false,eval (.Call (.Name "zip" p2) [a,b] [] JU) X.env)]:=by rfl):
  PE X (.Call (.Name "dict" p1) [.Call (.Name "zip" p2) [a,b] [] JU] [] Gu) (u4 X.K ta):=by
 ac_rfl;refine wpAny_Call_Name_kw (Fj I RC MO PyProof.Rows.boot_dict ?_ (by decide) (by decide));refine IH ?_ qP rfl;refine QX ?_;refine Call_ (Fj I hg hm boot_zip (IH (AH (ha JU π s σ H _ I h) λus s1 ⟨vs,H1,I1,r1,q1⟩=>?_) (by rw[hs,DK]) (by rw[DK];rfl)));obtain⟨l1,l2,ks,ys,e,t1,t2,nd,q⟩:=q1;subst e;cases r1 with
 | cons r rr =>
  cases rr with
  | cons r' rr =>
   cases rr;obtain rfl:_=Value.ref l1:=r;obtain rfl:_=Value.ref l2:=r';obtain⟨η,rv,pa,eT⟩:=I1.list t1;have b1:s1.heap.IsList l1 η.toArray:=pa.isList;have F3:l1<⇑s1:=let⟨_,e,_⟩:=b1;Yc e
   rcases t2 with t2 | t2
   ·obtain⟨jts,BQ,pb,qJ⟩:=I1.list t2;have b2:s1.heap.IsList l2 jts.toArray:=pb.isList;have Ie:l2<⇑s1:=let⟨_,e,_⟩:=b2;Yc e;refine tR b1 b2 λg st hk=>?_;have D:ZipApart (⇑s1 + 4) (⇑s1 + 2) (⇑s1 + 3) ⇑s1 (⇑s1 + 1) l1 l2:=W.ktu_apart _ _ _ F3 Ie;refine QU ?_;have zl:⇑s1 + 4<g.objs.size:=Yc st.z;have gl:⇑s1<=g.objs.size:=by omega
    have n1:↑(ks.map kV)=↑η:=↑rv;have n2:↑ys=↑jts:=↑BQ;rw[Ya]at n1 eT;have hn:min η.toArray.size jts.toArray.size<=sizeLine:=by rw[Yk,Yk];omega
    have hks:∀(i:Nat) x,η.toArray[i]?≈x->∃ k,ks[i]?≈k/\(BV X.prog X.w).is k x=true:=λi x hx=>by
     have Ih:η[i]?≈x:=by simpa using hx
     have il:=(Yf.mp Ih).1;have hi:i<↑ks:=by omega
     obtain⟨u,hu,ru⟩:=rv.get (by rw[Yj,Yg hi];rfl:(ks.map kV)[i]?≈(kV ks[i]));rw[Ih]at hu;cases hu;exact⟨_,Yg hi,Iu ru⟩
    refine xH (s:={s1 with heap:=g}) (knd:=BV X.prog X.w) hks nd (I1.ok.hd hc) D ⟨zl,by show _<g.objs.size;omega,by show _<g.objs.size;omega,by show _<g.objs.size;omega,by show _<g.objs.size;omega,Yn F3 gl,Yn Ie gl⟩ st.z st.ti st.to st.i1 st.i2 (b1.at λo e=>hk _ o e) (b2.at λo e=>hk _ o e) hn λh' tk CA hd=>?_;have keep:∀ b o,s1.heap.get? b≈o->h'.get? b≈o:=λb o e=>by
     have lt:b<⇑s1:=Yc e;exact CA b o (Yl (Yn lt (EY _ _))) (Yl (Yn lt (EY _ _))) (Yl lt) (Yl (Yn lt (EY _ _))) (hk b o e)
    have ze:(ks.zip jts.toArray.toList).take (min η.toArray.size jts.toArray.size)=ks.zip jts:=by
     rw[SR (by rw[JN,Yk,Yk,List.toList_toArray,n1];exact Yd _)]
    rw[ze]at hd;refine⟨.ref g.objs.size,_,I1.laid (t':=tk) (o:=.dK (ks.zip ys)) keep gl ⟨by rw[JN];omega,?_,ks.zip jts,ZH BQ,hd⟩,Y,q _ (I1.hok.fresh gl)⟩;have:=I1.big;rw[beq_eq_false_iff_ne];exact Yt (Yn this gl)
   ·obtain⟨jts,BQ,pb,qJ⟩:=I1.tuple t2;have b2:s1.heap.IsTuple l2 jts.toArray:=pb;have Ie:l2<⇑s1:=let⟨_,e,_⟩:=b2;Yc e;refine jG b1 b2 λg st hk=>?_;have D:ZipApart (⇑s1 + 4) (⇑s1 + 2) (⇑s1 + 3) ⇑s1 (⇑s1 + 1) l1 l2:=W.ktu_apart _ _ _ F3 Ie;refine QU ?_;have zl:⇑s1 + 4<g.objs.size:=Yc st.z;have gl:⇑s1<=g.objs.size:=by omega
    have n1:↑(ks.map kV)=↑η:=↑rv;have n2:↑ys=↑jts:=↑BQ;rw[Ya]at n1 eT;have hn:min η.toArray.size jts.toArray.size<=sizeLine:=by rw[Yk,Yk];omega
    have hks:∀(i:Nat) x,η.toArray[i]?≈x->∃ k,ks[i]?≈k/\(BV X.prog X.w).is k x=true:=λi x hx=>by
     have Ih:η[i]?≈x:=by simpa using hx
     have il:=(Yf.mp Ih).1;have hi:i<↑ks:=by omega
     obtain⟨u,hu,ru⟩:=rv.get (by rw[Yj,Yg hi];rfl:(ks.map kV)[i]?≈(kV ks[i]));rw[Ih]at hu;cases hu;exact⟨_,Yg hi,Iu ru⟩
    refine xM (s:={s1 with heap:=g}) (knd:=BV X.prog X.w) hks nd (I1.ok.hd hc) D ⟨zl,by show _<g.objs.size;omega,by show _<g.objs.size;omega,by show _<g.objs.size;omega,by show _<g.objs.size;omega,Yn F3 gl,Yn Ie gl⟩ st.z st.ti st.to st.i1 st.i2 (b1.at λo e=>hk _ o e) (b2.at λo e=>hk _ o e) hn λh' tk CA hd=>?_;have keep:∀ b o,s1.heap.get? b≈o->h'.get? b≈o:=λb o e=>by
     have lt:b<⇑s1:=Yc e;exact CA b o (Yl (Yn lt (EY _ _))) (Yl (Yn lt (EY _ _))) (Yl lt) (Yl (Yn lt (EY _ _))) (hk b o e)
    have ze:(ks.zip jts.toArray.toList).take (min η.toArray.size jts.toArray.size)=ks.zip jts:=by
     rw[SR (by rw[JN,Yk,Yk,List.toList_toArray,n1];exact Yd _)]
    rw[ze]at hd;refine⟨.ref g.objs.size,_,I1.laid (t':=tk) (o:=.dK (ks.zip ys)) keep gl ⟨by rw[JN];omega,?_,ks.zip jts,ZH BQ,hd⟩,Y,q _ (I1.hok.fresh gl)⟩;have:=I1.big;rw[beq_eq_false_iff_ne];exact Yt (Yn this gl)
end
section
variable {prog:Δ}{w:World}{A:Around}{E:EV}{s:Γ}{d it:χ}{es:Array DictEntry}{ep i:Nat}
def wu{ok ov:ω}{a:χ}{f:Bool}{oa:Obj}{Q:OU->Γ->Prop}{en:DictEntry}(hit:W.KdxIt s.heap it d i es.size ep ok ov a f)(ha:s.heap.get? a≈oa)(hai:a≠it)(x:BC s.heap d es ep)(hx:es[i]?≈en)
  (q:∀ g,W.KdxIt g it d (i + 1) es.size ep ok ov a true->g.get? ⇑s=some {cls:=.type "tuple",data:=.seq #[en.key,en.val] } ->
   (∀ b o,b≠it->s.heap.get? b≈o->g.get? b≈o)->Q (↥(.ref ⇑s)) {s with heap:=g}):wpAny (model prog w) A (pyNext (.ref it)) Q E s:=by
 obtain⟨hp,g,dr,tk,os⟩:=s;obtain⟨o,e,c,da⟩:=id x;have T:Shared.TypeIs ⟨hp,g,dr,tk,os⟩ (.ref it) "dict_itemiterator":=⟨_,hit,Y⟩;have own:Builtin.Dict_items.ownsTuple "dict_itemiterator"=true:=by decide
 unfold pyNext;refine Ja (wpAny_attempt (wpAny_callSpecial?_slot (name:=Str.ofString "__next__") T JR (wpAny_call_entry JR T Xk ?_ (Xn _))));refine Ja (Jd (Ja (Ja ?_)));first | refine Ja (wpAny_typeNameOfWhole_itemiter T (Jd ?_)) | refine Ja (wpAny_typeNameOf_itemiter T (Jd ?_))
 refine Ja (wpAny_fieldsOf hit rfl ?_);simp only[own,if_true];show wpAny _ _ (if(Value.ref d == Value.none)=true then _ else _) _ _ _;rw[if_neg (show ¬ ((Value.ref d == Value.none)=true)from by intro z;cases z)];refine Ja (Jd (Ja (wpAny_dictEntries e da ?_)));rw[if_neg (by simp)];refine Ja (Jd (Ja (wpAny_dictEpoch e da ?_)));rw[if_neg (by simp)];refine Jd ?_;simp only[show ¬ ((i:Int)<0)from by omega,if_false,B0,hx];refine Ja ?_;first | refine Ja (wpAny_typeNameOfWhole_itemiter T (Jd ?_)) | refine Ja (wpAny_typeNameOf_itemiter T (Jd ?_))
 refine Ja (wpAny_isOneOf_itemiter T ?_);show wpAny _ _ (setField (.ref it) 3 (rawInt ((i:Int) + 1))>>=_) _ _ ⟨hp,g,dr,tk,os⟩;refine Ja (wpAny_setField_rec hit (by simp) λg1 z1 e1=>?_);replace e1:Heap.SameBut it hp g1:=e1;replace z1:W.KdxIt g1 it d (i + 1) es.size ep ok ov a f:=by
  have q1:((i + 1:Nat):Int)=(i:Int) + 1:=by omega
  unfold W.KdxIt;rw[q1];simpa[rawInt]using z1
 have T1:Shared.TypeIs ⟨g1,g,dr,tk,os⟩ (.ref it) "dict_itemiterator":=⟨_,z1,Y⟩;refine Ja (Jj (Ja (wpAny_isOneOf_itemiter T1 (Ja (wpAny_isOneOf_itemiter T1 ?_)))));show wpAny _ _ (Builtin.Dict_items.pairFromOwner (.ref it) 6 en.key en.val) _ _ ⟨g1,g,dr,tk,os⟩;unfold Builtin.Dict_items.pairFromOwner;refine Ja (wpAny_newTuple ?_);have z2:W.KdxIt (g1.push {cls:=.type "tuple",data:=.seq #[en.key,en.val] }) it d (i + 1) es.size ep ok ov a f:=Yb _ z1;generalize MT:g1.push {cls:=.type "tuple",data:=.seq #[en.key,en.val] }=g2 at z2;have n1:g1.objs.size=hp.objs.size:=e1.1;have il:it<hp.objs.size:=Yc hit;have t2:g2.get? hp.objs.size=some {cls:=.type "tuple",data:=.seq #[en.key,en.val] }:=by rw[<- MT,<- n1];exact Ye _ rfl
 have k2:∀ b o,b≠it->hp.get? b≈o->g2.get? b≈o:=λb o hb e=>by rw[<- MT];exact Yb _ (e1.extBut b o hb e)
 have a2:g2.get? a≈oa:=k2 a oa hai ha;show wpAny _ _ (Builtin.Dict_items.ownedTupleIsFree (.ref it)>>=_) _ _ ⟨g2,g,dr,tk,os⟩;rw[n1];clear MT z1 e1 T1 n1 g1;have fin:∀ g3,W.KdxIt g3 it d (i + 1) es.size ep ok ov a true->Heap.SameBut it g2 g3->Q (↥(.ref hp.objs.size)) {heap:=g3,gens:=g,drawn:=dr,toks:=tk,os:=os}:=λg3 z3 e3=>q g3 z3 (e3.extBut _ _ (Yt il) t2) λb o hb e=>e3.extBut b o hb (k2 b o hb e);refine Ja ?_;unfold Builtin.Dict_items.ownedTupleIsFree;refine Ja (Jg z2 rfl (x:=rawInt a) rfl ?_);show wpAny _ _ (loadIfAlive ((a:Int).toNat)>>=_) _ _ _;rw[B0];refine Ja (W.kdx_alive a2 ?_);simp only[Option.isNone_some,Co,if_false];refine Ja (Jg z2 rfl (x:=.bool f) rfl ?_);cases f with
 | true =>
  rw[if_neg (show ¬ ((Value.bool true != Value.bool true)=true)from Yh)];exact Jd (Jd (Jd ⟨Z,Jd (fin g2 z2 (Heap.SameBut.refl _ _))⟩))
 | false =>
  rw[if_pos (show(Value.bool false != Value.bool true)=true from rfl)];refine Ja (wpAny_setField_rec z2 (by simp) λg3 z3 e3=>?_);exact Jd (Jd (Jd ⟨Z,Jd (fin g3 z3 e3)⟩))
def wO{ok ov:ω}{a:χ}{f:Bool}{Q:OU->Γ->Prop}(hh:A.handled=none)(hit:W.KdxIt s.heap it d i es.size ep ok ov a f)(x:BC s.heap d es ep)(hx:es.size<=i)
  (q:∀ g,Heap.ExtBut it s.heap g->Q none {s with heap:=g}):wpAny (model prog w) A (pyNext (.ref it)) Q E s:=by
 obtain⟨o,e,c,da⟩:=id x;have T:s.TypeIs (.ref it) "dict_itemiterator":=⟨_,hit,Y⟩;have own:Builtin.Dict_items.ownsTuple "dict_itemiterator"=true:=by decide
 unfold pyNext;refine Ja (wpAny_attempt (wpAny_callSpecial?_slot (name:=Str.ofString "__next__") T JR (wpAny_call_entry JR T Xk ?_ (Xn _))));refine Ja (Jd (Ja (Ja ?_)));first | refine Ja (wpAny_typeNameOfWhole_itemiter T (Jd ?_)) | refine Ja (wpAny_typeNameOf_itemiter T (Jd ?_))
 refine Ja (wpAny_fieldsOf hit rfl ?_);simp only[own,if_true];show wpAny _ _ (if(Value.ref d == Value.none)=true then _ else _) _ _ s;rw[if_neg (show ¬ ((Value.ref d == Value.none)=true)from by intro z;cases z)];refine Ja (Jd (Ja (wpAny_dictEntries e da ?_)));rw[if_neg (by simp)];refine Ja (Jd (Ja (wpAny_dictEpoch e da ?_)));rw[if_neg (by simp)];refine Jd ?_;simp only[show ¬ ((i:Int)<0)from by omega,if_false,B0,LW hx];refine Ja ?_;first | refine Ja (wpAny_typeNameOfWhole_itemiter T (Jd ?_)) | refine Ja (wpAny_typeNameOf_itemiter T (Jd ?_))
 show wpAny _ _ (setField (.ref it) 2 .none>>=_) _ _ s;refine Ja (wpAny_setField hit rfl (by simp) ?_);show wpAny _ _ (newExc (.type "StopIteration") []>>=_) _ _ _;refine Ja ?_;simp only[newExc,newTuple];refine Ja (wpAny_newObj_type (Ja (m:=firstArgMember _ _) (wpAny_of_eq (a:=Value.none) (by first | rfl | (simp only[firstArgMember];rfl)) (wpAny_newObj_type ?_ (by size_fits)))) (by size_fits));simp only[raiseNew];refine Ja (wpAny_handled ?_);rw[show A.in1.handled=none from hh];refine Ja (Jd (wpAny_throw ?_));refine Ja (wpAny_isInstance (T:="StopIteration") (b:=true) ⟨_,Ye _ rfl,Y⟩ isSubtype_stop ?_);exact Jd (q _ (((Lg ..).extBut.push _).push _))
end
section
variable {prog:Δ}{w:World}{A:Around}{E:EV}{s:Γ}{d it S:χ}{es:Array DictEntry}{ep i:Nat}
def Z12{Q:OU->Γ->Prop}{en:DictEntry}(st:W.KdxSt s.heap it d S i es.size ep)(hS:S<⇑s)(x:BC s.heap d es ep)(hx:es[i]?≈en)
  (q:∀ g,W.KdxSt g it d S (i + 1) es.size ep->IsPair g ⇑s en.key en.val->(∀ b o,b≠it->s.heap.get? b≈o->g.get? b≈o)->Q (↥(.ref ⇑s)) {s with heap:=g}):wpAny (model prog w) A (pyNext (.ref it)) Q E s:=by
 rcases st with⟨rfl,ok,ov,hit⟩ | ⟨ok,ov,a,f,oa,hit,ha,hai,haS⟩
 ·exact km hit x hx λg z t k=>q g (.inr ⟨_,_,_,false,_,z,t,Yt (Yc hit),Yt hS⟩) t k
 ·exact wu hit ha hai x hx λg z t k=>q g (.inr ⟨ok,ov,a,true,oa,z,k a oa hai ha,hai,haS⟩) t k
def Z13{Q:OU->Γ->Prop}(hh:A.handled=none)(st:W.KdxSt s.heap it d S i es.size ep)(x:BC s.heap d es ep)(hx:es.size<=i)
  (q:∀ g,Heap.ExtBut it s.heap g->Q none {s with heap:=g}):wpAny (model prog w) A (pyNext (.ref it)) Q E s:=by
 rcases st with⟨rfl,ok,ov,hit⟩ | ⟨ok,ov,a,f,oa,hit,_,_,_⟩
 ·exact kh hh hit x hx q
 ·exact wO hh hit x hx q
structure SD(es:Array DictEntry)(lo:χ)(h:Heap)(as:μ):Prop where
 rise:as.Pairwise (·<·)
 above:∀ a∈as,lo<a
 pairs:∀(j:Nat) (a:χ),as[j]?≈a->∃ en,es[j]?≈en/\IsPair h a en.key en.val
def SD.there{lo:χ}{h:Heap}{as:μ}(g:SD es lo h as){a:χ}(ha:a∈as):a<h.objs.size:=by
 obtain⟨j,hj⟩:=List.mem_iff_getElem?.mp ha;obtain⟨_,_,e⟩:=g.pairs j a hj;exact Yc e
def Z11{R:Result->Γ->Prop}(hh:A.handled=none)(hSI:S<it)(hSd:d≠S)(hId:d≠it)(hn:es.size<=sizeLine)(res:ω){h₁:Heap}
  (hR:∀ h' tk acc c as,(∀ b o,b≠S->b≠it->h₁.get? b≈o->h'.get? b≈o)->h'.get? S=some {cls:=.type "list",dict:=none,data:=.seq acc c,slots:=#[] }->↑as=es.size->SD es it h' as ->
   acc.toList=as.map Value.ref->R (.ok (.ret res)) {s with heap:=h',toks:=tk}):
  ∀(k i:Nat) (h:Heap) (tk c:Nat) (acc:δ) (as:μ),es.size - i=k->i<=es.size->W.KdxSt h it d S i es.size ep->BC h d es ep->(∀ b o,b≠S->b≠it->h₁.get? b≈o->h.get? b≈o)->it<h.objs.size ->
   h.get? S=some {cls:=.type "list",dict:=none,data:=.seq acc c,slots:=#[] }->acc.toList=as.map Value.ref->↑as=i->SD es it h as ->
   codeAny (model prog w) A (.builtin "list.extend.loop" ⟨[.ref S,.ref it,res],[]⟩) R {s with heap:=h,toks:=tk}:=by
 have nSI:S≠it:=Yl hSI;intro k
 induction k with
 | zero =>
  intro i h tk c acc as hk hi hst hx hkeep hil hS BH hal hG;have hin:i=es.size:=by omega
  refine codeAny_builtin PySem.F.entry_extend_loop ?_;rw[Qb Sf _];show wpAny _ A.in1 (pyNext (.ref it)>>=_) _ _ _;refine Ja (Z13 (s:={s with heap:=h,toks:=tk}) (A:=A.in1) hh hst hx (by omega) λh' he=>?_);refine Jd (hR h' tk acc c as (λb o h0 h1 e=>he b o h1 (hkeep b o h0 h1 e)) (he S _ nSI hS) (by omega) ⟨hG.rise,hG.above,λj a hj=>?_⟩ BH);obtain⟨en,e1,e2⟩:=hG.pairs j a hj;exact⟨en,e1,he a _ (Yt (hG.above a (Yi hj))) e2⟩
 | succ k ih =>
  intro i h tk c acc as hk hi hst hx hkeep hil hS BH hal hG;have A_:i<es.size:=by omega
  obtain⟨en,hen⟩:∃ x,es[i]?≈x:=⟨es[i],Le (by omega)⟩;have hsz:acc.size=i:=by rw[<- JM,BH,Ya,hal]
  refine codeAny_builtin PySem.F.entry_extend_loop ?_;rw[Qb Sf _];show wpAny _ A.in1 (pyNext (.ref it)>>=_) _ _ _;refine Ja (Z12 (s:={s with heap:=h,toks:=tk}) hst (Yc hS) hx hen λh' Gw ht hkp=>?_);dsimp only at ht hkp ⊢;have FC:=hkp S _ nSI hS;have up:∀ b o,b≠S->h'.get? b≈o->(h'.update S (Obj.mapSeq (·.push (Value.ref h.objs.size)))).get? b≈o:=λb o hb e=>(Fq _ _ (Ae hb)).trans e;have hSl:S<h.objs.size:=Yc hS;have tn:=up _ _ (Yt hSl) ht;show wpAny _ A.in1 (updateSeq S (·.push (Value.ref h.objs.size))>>=_) _ _ _;refine Ja ?_;refine wpAny_updateSeq FC rfl (Jd ⟨plainId_quiet Sf _,ih (i + 1) _ tk _ (acc.push (Value.ref h.objs.size)) (as++[h.objs.size]) (by omega) A_ (Gw.keep up (Ae nSI)) (hx.at λo e=>up d o hSd (hkp d o hId e))
   (λb o h0 h1 e=>up b o h0 (hkp b o h1 (hkeep b o h0 h1 e))) (IP hil (Yc tn)) (ED _ FC rfl) (by rw[Array.toList_push,BH,Yy];rfl) (by rw[Yu,hal];rfl) ⟨?_,?_,?_⟩⟩) (by rw[hsz];omega) (by show(acc.push (Value.ref h.objs.size)).size<=sizeLine + 1;rw[Array.size_push,hsz];omega)
  ·refine List.pairwise_append.mpr ⟨hG.rise,List.pairwise_singleton _ _,λa ha b hb=>?_⟩;rw[Ym.mp hb];exact hG.there ha
  ·intro a ha
   rcases Yr.mp ha with ha | ha
   ·exact hG.above a ha
   ·rw[Ym.mp ha];exact hil
  ·intro j b hj
   rcases Nat.lt_trichotomy j ↑as with h1 | h1 | h1
   ·rw[bf h1]at hj;obtain⟨ql,e1,e2⟩:=hG.pairs j b hj;have hb:=hG.above b (Yi hj);exact⟨ql,e1,up b _ (Yt (IP hSI hb)) (hkp b _ (Yt hb) e2)⟩
   ·subst h1;have hb:h.objs.size=b:=by simpa using hj
    subst hb;exact⟨en,by rw[hal];exact hen,tn⟩
   ·have hnone:(as++[h.objs.size])[j]?=none:=LR (by rw[Yu,Xg];omega);rw[hnone]at hj;cases hj
def wz{v:χ}{Q:EV}(hh:A.handled=none)(hv:s.heap.IsItemsView v d)(x:BC s.heap d es ep)(hn:es.size<=sizeLine)
  (hQ:∀ h' tk acc c as,(∀ b o,s.heap.get? b≈o->h'.get? b≈o)->h'.get? ⇑s=some {cls:=.type "list",dict:=none,data:=.seq acc c,slots:=#[] }->↑as=es.size->SD es ⇑s h' as ->
   acc.toList=as.map Value.ref->Q (.ref ⇑s) {s with heap:=h',toks:=tk}):
  wpAny (model prog w) A (call (.type "list") [.ref v]) Q E s:=by
 refine callType_codes (Q₁:=λobj s₁=>obj=.ref ⇑s/\s₁={s with heap:=s.heap.push {cls:=.type "list",data:=.seq #[] } }) PySem.F.called_list (PySem.F.typeCall_list_1 _) PySem.F.entry_list_init (code_list_new _ ⟨Y,Y⟩) λobj s₁ h₁=>?_;obtain⟨rfl,rfl⟩:=h₁;have hS:(s.heap.push {cls:=.type "list",data:=.seq #[] }).get? ⇑s=some {cls:=.type "list",data:=.seq #[] }:=Ye _ rfl;have hr:v<⇑s:=let⟨_,ho,_⟩:=hv;Yc ho;have hd:d<⇑s:=let⟨_,ho,_⟩:=x;Yc ho;refine⟨⟨_,hS,Y⟩,PySem.F.args_list_init_2 _ _,?_⟩;show wpAny _ _ (do let old <- Builtin.List.listItems (.ref ⇑s);Builtin.List.listUpdate (.ref ⇑s) (λ_=>#[]);letGo old.toList.reverse;Builtin.List.listExtendWith (.ref ⇑s) (.ref v) .none) _ _ _;refine Ja ?_;unfold Builtin.List.listItems;refine Ja (wpAny_seqItems hS rfl (Jd ?_));show wpAny _ _ (updateSeq ⇑s (λ_=>#[])>>=λ_=>letGo (#[]:δ).toList.reverse>>=λ_=>Builtin.List.listExtendWith (.ref ⇑s) (.ref v) .none) _ _ _;refine Ja (wpAny_updateSeq hS rfl ?_);have hS₂:=ED (Obj.mapSeq (λ_=>(#[]:δ))) hS rfl;have oth:∀ b o,s.heap.get? b≈o->((s.heap.push {cls:=.type "list",data:=.seq #[] }).update ⇑s (Obj.mapSeq (λ_=>(#[]:δ)))).get? b≈o :=
  λb o e=>(Fq _ _ (Yt (Yc e))).trans (Yb _ e)
 refine Ja (wpAny_letGo ?_);generalize(s.heap.push {cls:=.type "list",data:=.seq #[] }).update ⇑s (Obj.mapSeq (λ_=>(#[]:δ)))=g at hS₂ oth;have hv₂:g.IsItemsView v d:=let⟨o,ho,y⟩:=hv;⟨o,oth _ _ ho,y⟩;have x₂:BC g d es ep:=x.at λo e=>oth d o e;have hSg:⇑s<g.objs.size:=Yc hS₂;unfold Builtin.List.listExtendWith;refine Ja (wpAny_typeOf (T:="dict_items") (s:={s with heap:=g}) hv₂.typeIs ?_);have h1:Builtin.List.listSameRef (.ref ⇑s) (.ref v)=false:=by simp[Builtin.List.listSameRef,Yt hr]
 have h2:(Value.type "dict_items" == Value.type "list")=false:=by decide
 have h3:(Value.type "dict_items" == Value.type "tuple")=false:=by decide
 simp only[h1,h2,h3,Bool.or_false,Co,if_false];refine Ja (ke (s:={s with heap:=g}) hv₂ x₂ ?_);have key:∀(h:Heap) (c₁:Nat),(∀ b o,b≠⇑s->(g.push {cls:=.type "dict_itemiterator",data:=.fields #[.none,.bool false,.ref d,.int 0 0,.int es.size 0,.int ep 0,.none,.none] }).get? b≈o->h.get? b≈o) ->
   h.get? ⇑s=some {cls:=.type "list",data:=.seq #[] c₁}->codeAny (model prog w) A.in1 (.builtin "list.extend.loop" ⟨[.ref ⇑s,.ref g.objs.size,.none],[]⟩) (wants (λr s₂=>r=Value.none/\Q (Value.ref ⇑s) s₂) E) {s with heap:=h}:=by
  intro h c₁ hk hS₁;have hI:=hk g.objs.size _ (Yt hSg) (Ye _ rfl);refine Z11 (s:=s) (h₁:=g) (A:=A.in1) (by simp[hh]) hSg (Yl hd) (Yl (IP hd hSg)) hn .none (λh' MA acc c as CA FC hl hG BH=>?_) es.size 0 h s.toks c₁ #[] [] (Nat.sub_zero _) (Bm _) (.inl ⟨Y,.none,.none,hI⟩) (x₂.at λo e=>hk d o (Yl hd) (Yb _ e)) (λb o hb _ e=>hk b o hb (Yb _ e)) (Yc hI) hS₁ rfl rfl ⟨List.Pairwise.nil,(λ_ ha=>nomatch ha),(λj a hj=>by simp at hj)⟩;exact⟨Y,hQ h' MA acc c as (λb o e=>CA b o (Yl (Yc e)) (Yl (Yc (oth b o e))) (oth b o e)) FC hl ⟨hG.rise,λa ha=>IP hSg (hG.above a ha),hG.pairs⟩ BH⟩
 have hS₁:=Yb {cls:=.type "dict_itemiterator",data:=.fields #[.none,.bool false,.ref d,.int 0 0,.int es.size 0,.int ep 0,.none,.none] } hS₂;refine Ja (Jj (W.kdx_hint (let⟨o,ho,hc,_⟩:=hv₂;⟨o,Yb _ ho,hc⟩) ?_));refine wpAny_ite_split (λ_=>?_) (λ_=>Jd ⟨plainId_quiet Sf _,key _ _ (λb o _ e=>e) hS₁⟩);refine Ja (wpAny_rule ?_);refine Ja ?_;show wpAny _ _ (updateSeq ⇑s (·.push .none)>>=λ_=>updateSeq ⇑s (·.pop)) _ _ _;refine Ja (wpAny_updateSeq hS₁ rfl ?_);have hS₃:=ED (Obj.mapSeq (·.push Value.none)) hS₁ rfl;refine wpAny_updateSeq (hz:=by seq_fits) hS₃ rfl ?_;have hS₄:=ED (Obj.mapSeq (·.pop)) hS₃ rfl;refine Jd ⟨plainId_quiet Sf _,key _ _ (λb o hb e=>?_) hS₄⟩;exact(Fq _ _ (Ae hb)).trans ((Fq _ _ (Ae hb)).trans e)
end
section
variable {X:Cx}
def Z2a(H1:Hp)(Q:VK)(x:V):Prop:=∃ a ν,x=.ref a/\H1 a≈(.dT ν) /\
 ∀ l H' vs,H1 l=none->AA H1 H'->H' l≈(.lst vs)->Paired (λ(kv:List Key×V) v=>∃ t b,v=.ref t/\H1 b≈(.tup (kv.1.map kV))/\H' t≈(.tup [.ref b,kv.2])) ν vs->Q (.ref l) H'
def xK{o:Expr}{to:TE}{p1 apos AK Gu:Pos}(hc:X.calm=true)(ho:PE X o to)(RC:Gl X "list")(MO:X.mg "list"=none)
  (BJ:attributeBase o "items" X.env (eval o X.env)=eval o X.env:=by rfl) (BI:(apos.endLine == AK.line)=true:=by rfl)
  (DK:starEach [.Call (.Attribute o "items" apos) [] [] AK] X.env=[(false,eval (.Call (.Attribute o "items" apos) [] [] AK) X.env)]:=by rfl):
  PE X (.Call (.Name "list" p1) [.Call (.Attribute o "items" apos) [] [] AK] [] Gu) (λσ H Q=>to σ H λx H1=>Z2a H1 Q x):=by
 ac_rfl;refine wpAny_Call_Name_kw (Fj I RC MO NO ?_ (by decide) (by decide));refine IH ?_ DK rfl;refine QX ?_;refine wpAny_Call_method0_late BJ BI (AH (ho π s σ H _ I h) λv s1 ⟨x,H1,I1,r1,q1⟩=>?_);obtain⟨a,ν,e,ha,q⟩:=q1;subst e;obtain rfl:v=Value.ref a:=r1;obtain⟨t1,t2,t3⟩:=V4 I1 (.inr ⟨ν,.inl ha⟩);obtain⟨hz,hs,xs,pr,ob,es,ep,e1,ex,da,et,nd⟩:=I1.hok a _ ha;have raw:BC s1.heap a es ep:=⟨ob,e1,ex,da⟩;have hl:↑ν=↑xs:=BO pr;have hes:es.size=↑ν:=by rw[<- JM,et,Ya,hl]
 refine⟨"dict","dict.items",SV,Xj,PySem.F.type_dict_items,t1,t2,NQ rfl (Se ?_)⟩;refine call_meetsIn Xj t1 PySem.F.entry_dict_items (PySem.F.args_dict_items_1 _) (ku t3) ⟨t1,QU ?_⟩;have I2:Inv X π σ H1 {s1 with heap:=s1.heap.push {cls:=.type "dict_items",data:=.fields #[.ref a] } }:=I1.kept (t':=s1.toks) λb o e=>Yb _ e;refine wz (es:=es) (ep:=ep) (d:=a) (I1.ok.hd hc) ⟨_,Ye _ rfl,Y,Y⟩ (raw.at λo e=>Yb _ e) (by rw[hes];exact hz) λh' tk acc c as hk FC hal hG BH=>?_;generalize hsz:(s1.heap.push {cls:=.type "dict_items",data:=.fields #[.ref a] }).objs.size=L at FC hG;have ndas:as.Nodup:=SM.mpr (hG.rise.imp λh=>Yl h);obtain⟨ps,hps⟩:∃ ps:List (V×V),ps=(xs.zip ν).map λp=>(V.ref p.1.2.1,p.2.2):=⟨Z⟩;have pl:↑ps=↑ν:=by rw[hps,Ya,JN,hl,Nat.min_self]
 have psg:∀(i:Nat) (kv:V×V),ps[i]?≈kv->∃ p x,ν[i]?≈p/\xs[i]?≈x/\kv=(V.ref x.2.1,p.2):=λi kv e=>by
  rw[hps,Yj]at e;obtain⟨⟨x,p⟩,e2,e3⟩:=Fp.mp e;obtain⟨e4,e5⟩:=Lf.mp e2;exact⟨p,x,e5,e4,e3.symm⟩
 clear hps;have fc:∀ b,b<L->(λb=>if b=L then ↥(HO.lst (as.map V.ref))else match (as.zip ps).lookup b with | some kv=>↥(HO.tup [kv.1,kv.2]) | none=>H1 b:Hp) b=H1 b:=λb hb=>by
  show(if b=L then _ else _)=_;rw[if_neg (Yl hb)];cases e:(as.zip ps).lookup b with
  | none=>rfl
  | some kv =>
   obtain⟨i,h1,_⟩:=aY e;have:=hG.above b (Yi h1);exact absurd (IP hb this) (Gp _)
 have at_:∀(i:Nat) (b:χ),as[i]?≈b->∃ kv:V×V,ps[i]?≈kv/\(λb=>if b=L then ↥(HO.lst (as.map V.ref))else match (as.zip ps).lookup b with | some kv=>↥(HO.tup [kv.1,kv.2]) | none=>H1 b:Hp) b≈(.tup [kv.1,kv.2]):=λi b hi=>by
  have A_:i<↑ps:=by
   have:=(Yf.mp hi).1;omega
  refine⟨ps[i],by simp[A_],?_⟩;show(if b=L then _ else _)=_;rw[if_neg (Yt (hG.above b (Yi hi))),j8 ndas hi (show ps[i]?≈ps[i] by simp[A_])]
 have I3:Inv X π σ (λb=>if b=L then ↥(HO.lst (as.map V.ref))else match (as.zip ps).lookup b with | some kv=>↥(HO.tup [kv.1,kv.2]) | none=>H1 b:Hp) {s1 with heap:=h',toks:=tk}:=by
  refine I2.laidMany (t':=tk) hk (λb hb=>fc b (by rw[<- hsz];exact hb)) λb o hb e=>?_;have e:(if b=L then ↥(HO.lst (as.map V.ref))else match (as.zip ps).lookup b with | some kv=>↥(HO.tup [kv.1,kv.2]) | none=>H1 b)≈o:=e;by_cases hbL:b=L
  ·rw[if_pos hbL]at e;cases e;refine⟨by rw[Ya,hal,hes];exact hz,acc.toList,c,?_,by rw[hbL];simpa using FC⟩;rw[BH];exact Rg (by simp) λi v u hv hu=>by
    rw[Yj]at hv hu;obtain⟨y,hy,ey⟩:=Fp.mp hv;rw[hy]at hu;rw[<- ey];exact(Yp hu).symm
  ·rw[if_neg hbL]at e;cases el:(as.zip ps).lookup b with
   | none =>
    rw[el]at e;have:=I2.hok.lt e;exact absurd (Yn this hb) (Gp _)
   | some kv =>
    rw[el]at e;cases e;obtain⟨i,F6,Hh⟩:=aY el;obtain⟨en,hen,hget⟩:=hG.pairs i b F6;obtain⟨p,x,g1,g2,g3⟩:=psg i kv Hh;have S_:es.toList[i]?≈en:=by rw[JQ];exact hen
    rw[et,Yj,g2]at S_;cases S_;obtain⟨x',gx,p1,p2,p3⟩:=Paired.get pr g1;rw[g2]at gx;cases gx;rw[g3];exact⟨J,[.ref x.2.1,x.2.2],.cons rfl (.cons p3 .nil),⟨_,hget,Y,Z⟩⟩
 refine⟨.ref L,_,I3,Y,q L _ (as.map V.ref) ?_ (λb o e=>?_) ?_ ?_⟩
 ·rw[<- hsz];exact I2.hok.fresh (Yd _)
 ·exact(fc b (by rw[<- hsz];exact I2.hok.lt e)).trans e
 ·show(if L=L then _ else _)=_;rw[if_pos rfl]
 ·refine LB (by rw[Ya,hal,hes]) λi p v h1 h2=>?_;rw[Yj]at h2;obtain⟨b,hb,eb⟩:=Fp.mp h2;obtain⟨kv,A2,Pj⟩:=at_ i b hb;obtain⟨p',x,g1,g2,g3⟩:=psg i kv A2;rw[h1]at g1;cases g1;obtain⟨x',gx,y1,y2,y3⟩:=Paired.get pr h1;rw[g2]at gx;cases gx;rw[g3]at Pj;exact⟨b,x.2.1,eb.symm,y2,Pj⟩
end
theorem j4:∀ {ns:τ}{us:LU},AR (ns.map V.int) us->∃ xs:List (Int×Tok),us=xs.map (λp=>Value.int p.1 p.2)/\xs.map (·.1)=ns
 | [],_,.nil=>⟨[],Y,Y⟩
 | n :: ns,_,.cons r t=>by
  obtain⟨xs,e1,e2⟩:=j4 t;obtain⟨tk,rfl⟩:=r;exact⟨(n,tk):: xs,by rw[e1];rfl,by rw[Ys,e2]⟩
section
variable {X:Cx}
end
section
variable {X:Cx}
def xX(i j:Int):Prop:=0<j/\j<10000000000000000000000000000000000000000000000000000000000000
def rq:BP X (binaryOp .FloorDiv) (rI xX λi j=>.int (i / j)):=Pe λi j _ _ _ _ _ hc q=>by
 have h1:(0:Int)<j:=hc.1;have h2:j<10000000000000000000000000000000000000000000000000000000000000:=hc.2;refine floordiv_int (by omega) (by rw[Int.fdiv_eq_ediv_of_nonneg i (by omega)];exact q) (.inl (PyProof.noPylong_of_log2 ?_));have e203:(2:Nat) ^ 203=12855504354071922204335696738729300820177623950262342682411008:=by rfl'
 have h3:j.natAbs.log2<203:=(Nat.log2_lt (by omega)).mpr (by omega);omega
end
end L2
namespace L2
open PySem PySem.Spec
section
variable {prog:Δ}{w:World}{α:Type}[DecidableEq α]{kd:KeyKind prog w α}
inductive Dp(kd:KeyKind prog w α)(h:Heap):List (List α)->LU->Prop
 | nil:Dp kd h [] []
 | cons {k:List α} {b:χ} {ks:List (List α)} {vs:LU} (e:IsTupleKey kd h k b) (t:Dp kd h ks vs):Dp kd h (k :: ks) (.ref b :: vs)
def DU(kd:KeyKind prog w α)(h:Heap)(ks:List (List α))(a:χ):Prop:=∃(q:Obj) (η:δ) (n:Nat),(h.get? a≈q/\q.cls=.type "tuple")/\q.data=.seq η n/\Dp kd h ks η.toList
theorem Dp.inj{h:Heap}:∀ {x y:List (List α)}{vs:LU},Dp kd h x vs->Dp kd h y vs->x=y
 | _,_,_,.nil,.nil=>rfl
 | _,_,_,.cons e t,.cons e' t'=>by rw[e.inj e',t.inj t']
def DU.ty{s:Γ}{ks:List (List α)}{a:χ}(k:DU kd s.heap ks a):s.TypeIs (.ref a) "tuple":=by
 obtain⟨q,_,_,e,_⟩:=k;exact⟨q,e.1,e.2⟩
theorem DU.inj{h:Heap}{a:χ}{x y:List (List α)}(hx:DU kd h x a)(hy:DU kd h y a):x=y:=by
 obtain⟨q,η,n,⟨e1,_⟩,e2,e3⟩:=hx;obtain⟨q',its',n',⟨Vn,_⟩,Vm,qm⟩:=hy;rw[e1]at Vn;cases Vn;rw[e2]at Vm;cases Vm;exact e3.inj qm
theorem Dp.keeps{h h':Heap}{d:χ}{q:Obj}{es ep}(e1:h.get? d≈q)(e2:q.data=.dict es ep)(sb:Heap.SameBut d h h'):∀ {ks:List (List α)}{vs:LU},Dp kd h ks vs->Dp kd h' ks vs
 | _,_,.nil=>.nil
 | _,_,.cons e t=>.cons (e.keeps e1 e2 sb) (t.keeps e1 e2 sb)
theorem DU.keeps{h h':Heap}{ks:List (List α)}{a d:χ}{q:Obj}{es ep}(k:DU kd h ks a)(e1:h.get? d≈q)(e2:q.data=.dict es ep)(sb:Heap.SameBut d h h'):DU kd h' ks a:=by
 obtain⟨q',η,n,⟨a1,a2⟩,a3,a4⟩:=k;have ne:a≠d:=λz=>by
  rw[z,e1]at a1;cases a1;rw[e2]at a3;cases a3
 exact⟨q',η,n,⟨(sb.2 a ne).trans a1,a2⟩,a3,a4.keeps e1 e2 sb⟩
def Zt(kd:KeyKind prog w α)(ks:List (List α)):Int:=reduceHash (Builtin.Tuple.tupleHashOf (ks.map (tupleKeyHash kd)))
def Pz(ks:List (List α)):Nat:=(ks.map λk=>↑k + 1).sum
variable {A:Around}{E:EV}{s:Γ}
def uF{ks:List (List α)}{a:χ}{Q:Int->Γ->Prop}(hu:A.units + 1<cLine)(k:DU kd s.heap ks a)(h:Q (Zt kd ks) {s with toks:=s.toks + (Pz ks + 1) }):wpAny (model prog w) A (pyHash (.ref a)) Q E s:=by
 have ty:=k.ty;obtain⟨q,η,n,⟨e1,_⟩,e2,sub⟩:=k;have YJ:A.units<cLine:=by omega
 unfold pyHash;unfold pyHashByItsType;refine Ja (wpAny_cRoomFor_or (.inr YJ) (Ja (wpAny_specialOf ty F.slot_tuple_hash.lookup ?_)));show wpAny _ _ (if(↥(Value.builtin "tuple.__hash__") == ↥Value.none)=true then _ else _) Q E s;rw[if_neg (show ¬ (↥(Value.builtin "tuple.__hash__") == ↥Value.none)=true by rw[beq_builtin_none];decide)];refine Ja (wpAny_specialOf ty F.slot_tuple_hash.lookup (?_:wpAny _ _ (callSpecialIfBoundUnlessNone? (.ref a) "__hash__" _>>=_) Q E s));refine Ja (wpAny_callSpecialIfBoundUnlessNone?_slot ty F.slot_tuple_hash (wpAny_call_entry F.slot_tuple_hash ty F.entry_tuple_hash (?_:wpAny _ _ (Builtin.Tuple.tupleItemsOf (.ref a)>>=_) _ _ s) (F.args_tuple_hash_1 _)));refine Ja (wpAny_tupleItemsOf e1 e2 (Ja ?_));rw[<- Array.forIn_toList];refine wpAny_forIn_list _ (λAQ (b:Array Int) s'=>∃ ds ls:List (List α),ks=ds++ls/\Dp kd s.heap ls AQ/\b.toList=ds.map (tupleKeyHash kd)/\s'={s with toks:=s.toks + Pz ds}) _ ?_ ?_ _ _ ⟨[],ks,Y,sub,Y,Y⟩
 ·rintro x AQ b s' ⟨ds,ls,rfl,sl,hb,rfl⟩;cases sl with
  | @cons k c Ee _ e t =>
   have fin:∃ d2 l2:List (List α),ds++k :: Ee=d2++l2/\Dp kd s.heap l2 AQ/\(b.push (tupleKeyHash kd k)).toList=d2.map (tupleKeyHash kd)/\({s with toks:=s.toks + Pz ds + (↑k + 1) }:Γ)={s with toks:=s.toks + Pz d2}:=by
    refine⟨ds++[k],Ee,by rw[LY];rfl,t,by rw[Array.toList_push,hb,Yy];rfl,?_⟩;unfold Pz;rw[Yy,List.sum_append,Nat.add_assoc];rfl
   refine Ja (wpAny_pyHash_tuple (by show A.units + 1<cLine;exact hu) e ?_)
   first
    | exact Jd fin
    | exact Ja (Jd (Jd fin))
 ·rintro b s' ⟨ds,ls,rfl,sl,hb,rfl⟩;cases sl;rw[EE]at h;show wpAny _ _ (retInt (Builtin.Tuple.tupleHashOf b.toList)) _ _ _;rw[hb];refine wpAny_ret_mkInt (?_:wpAny _ _ (if(decide (-(2:Int) ^ 63<=Builtin.Tuple.tupleHashOf (ds.map (tupleKeyHash kd)))&&decide (Builtin.Tuple.tupleHashOf (ds.map (tupleKeyHash kd))<2 ^ 63))=true then _ else _) Q E _);unfold Zt reduceHash at h;generalize Builtin.Tuple.tupleHashOf (ds.map (tupleKeyHash kd))=hh at h;by_cases c:(decide (-(2:Int) ^ 63<=hh)&&decide (hh<2 ^ 63))=true
  ·rw[if_pos c]at h ⊢;exact Jd (by simpa[Nat.add_assoc]using h)
  ·rw[if_neg c]at h ⊢;exact Ja (wpAny_rule (Jd (by simpa[Nat.add_assoc]using h)))
def rH{x y:List (List α)}{a b:χ}{R:Fin->Γ->Prop}(hu:A.units<cLine)(hx:DU kd s.heap x a)(hy:DU kd s.heap y b)(h:R (.done (.ret (.bool (decide (x=y))))) s):
  wpAny (model prog w) A (Builtin.«tuple.__eq__» ⟨[.ref a,.ref b],[]⟩) R E s:=by
 have ty:=hy.ty;obtain⟨q,xs,n,⟨e1,_⟩,e2,sx⟩:=hx;obtain⟨q',ys,n',⟨Vn,_⟩,Vm,sy⟩:=hy;refine(?_:wpAny _ _ (isInstance (.ref b) (.type "tuple")>>=_) _ _ s);refine Ja (wpAny_isInstance ty isSubtype_tuple_tuple ?_);simp only[NM,Co,if_false];refine Ja (wpAny_tupleItemsOf e1 e2 (Ja (wpAny_tupleItemsOf Vn Vm (Ja ?_))));refine wpAny_forIn_list _ (λAQ r s'=>r.1=none/\s'=s/\∃(x1 y1:List (List α)) (vx vy:LU),(AQ=List.zip vx vy/\Dp kd s.heap x1 vx)/\Dp kd s.heap y1 vy/\(decide (x1=y1)=decide (x=y)/\(↑vx == ↑vy)=(xs.size == ys.size)))
  _ ?_ ?_ _ _ ⟨rfl,rfl,x,y,xs.toList,ys.toList,⟨rfl,sx⟩,sy,rfl,by simp⟩
 ·rintro⟨u,v⟩ AQ r s' ⟨hr,rfl,x1,y1,vx,vy,⟨hz,h1⟩,h2,hd,hl⟩;cases h1 with
  | nil=>simp at hz
  | @cons k c x2 oj ek tk =>
   cases h2 with
   | nil=>simp at hz
   | @cons j d y2 oh ej tj =>
    simp only[List.zip_cons_cons,List.cons.injEq,Prod.mk.injEq]at hz;obtain⟨⟨rfl,rfl⟩,rfl⟩:=hz;refine Ja (wpAny_eqBool_tuple hu ek ej ?_);by_cases kj:k=j
    ·subst kj;rw[Jb rfl];simp only[NM,Co,if_false];refine Jd ⟨Y,Y,x2,y2,oj,oh,⟨Y,tk⟩,tj,?_,by simpa using hl⟩;rw[<- hd];by_cases z:x2=y2 <;> simp[z]
    ·rw[Jc kj];simp only[Bool.not_false,if_true];have no:decide (x=y)=false:=by rw[<- hd];simp[kj]
     rw[no]at h;exact Ja (Jd (Jd (Jd h)))
 ·rintro⟨r1,r2⟩ s' ⟨hr,rfl,x1,y1,vx,vy,⟨hz,h1⟩,h2,hd,hl⟩;simp only at hr;subst hr;have fin:(xs.size == ys.size)=decide (x=y):=by
   rw[<- hd,<- hl];cases h1 with
   | nil =>
    cases h2 with
    | nil=>simp
    | cons _ _=>simp
   | cons _ _ =>
    cases h2 with
    | nil=>simp
    | cons _ _=>simp at hz
  refine Jd (?_:R (.done (.ret (.bool (xs.size == ys.size)))) s');rw[fin];exact h
def Z27{x y:List (List α)}{a b:χ}{Q:Bool->Γ->Prop}(hu:A.units + 1<cLine)(hx:DU kd s.heap x a)(hy:DU kd s.heap y b)(h:Q (decide (x=y)) s):wpAny (model prog w) A (eqBool (.ref a) (.ref b)) Q E s:=by
 unfold eqBool
 try with_reducible refine Jj ?_
 refine(?_:wpAny _ _ (if(Value.ref a == Value.ref b)=true then _ else _) Q E s);by_cases ab:(Value.ref a == Value.ref b)=true
 ·rw[if_pos ab];have e:a=b:=by have:=eq_of_beq ab;injection this
  subst e;obtain rfl:=hx.inj hy;exact Ja (wpAny_rule (Jd (by simpa using h)))
 ·rw[if_neg ab];have YJ:A.units<cLine:=by omega
  exact Ja (wpAny_richCompare_same_room (op:=.Eq) hx.ty hy.ty F.slot_tuple_eq (wpAny_call_entry F.slot_tuple_eq hx.ty F.entry_tuple_eq (rH (by show A.units + 1<cLine;exact hu) hx hy ⟨Z,(λe=>nomatch e),Jh h⟩) (F.args_tuple_eq_2 _ _)) YJ)
def zL{ks:List α}{a:χ}{Q:Bool->Γ->Prop}(k:IsTupleKey kd s.heap ks a)(h:Q true s):wpAny (model prog w) A (eqIsQuiet 7 (.ref a)) Q E s:=by
 have ty:=k.typeIs;obtain⟨q,η,n,e1,_,e2,hi⟩:=k;unfold eqIsQuiet;refine Ja (wpAny_specialOf ty F.slot_tuple_eq.lookup (?_:wpAny _ _ (isInstance (.ref a) (.type "tuple")>>=_) _ _ s));refine Ja (wpAny_isInstance ty isSubtype_tuple_tuple ?_);simp only[NM,Co,if_false];refine Ja (wpAny_seqItems e1 e2 (Ja (?_:wpAny _ _ (forIn η _ _) _ _ s)));rw[<- Array.forIn_toList];refine wpAny_forIn_list _ (λAQ r s'=>(r.1=none/\s'=s)/\∀ v∈AQ,carriedByValue v=true) _ ?_ ?_ _ _ ⟨⟨Y,Y⟩,hi.byValue⟩
 ·rintro v AQ r s' ⟨⟨hr,rfl⟩,hall⟩;rw[eqIsQuiet_byValue _ (hall v (Di ..))];refine Ja (Jd ?_);simp only[NM,Co,if_false];exact Jd ⟨⟨Y,Y⟩,λu hu=>hall u (DX _ hu)⟩
 ·rintro⟨r1,r2⟩ s' ⟨⟨hr,rfl⟩,_⟩;simp only at hr;subst hr;exact Jd h
def vW{ks:List (List α)}{a:χ}{Q:Bool->Γ->Prop}(k:DU kd s.heap ks a)(h:Q true s):wpAny (model prog w) A (eqIsQuiet 8 (.ref a)) Q E s:=by
 have ty:=k.ty;obtain⟨q,η,n,⟨e1,_⟩,e2,sub⟩:=k;unfold eqIsQuiet;refine Ja (wpAny_specialOf ty F.slot_tuple_eq.lookup (?_:wpAny _ _ (isInstance (.ref a) (.type "tuple")>>=_) _ _ s));refine Ja (wpAny_isInstance ty isSubtype_tuple_tuple ?_);simp only[NM,Co,if_false];refine Ja (wpAny_seqItems e1 e2 (Ja (?_:wpAny _ _ (forIn η _ _) _ _ s)));rw[<- Array.forIn_toList];refine wpAny_forIn_list _ (λAQ r s'=>(r.1=none/\s'=s)/\∃ ls:List (List α),Dp kd s.heap ls AQ) _ ?_ ?_ _ _ ⟨⟨Y,Y⟩,ks,sub⟩
 ·rintro v AQ r s' ⟨⟨hr,rfl⟩,ls,sl⟩;cases sl with
  | cons e t =>
   refine Ja (zL e ?_);simp only[NM,Co,if_false];exact Jd ⟨⟨Y,Y⟩,_,t⟩
 ·rintro⟨r1,r2⟩ s' ⟨⟨hr,rfl⟩,_⟩;simp only at hr;subst hr;exact Jd h
end
def iZ{prog:Δ}{w:World}{α:Type}[DecidableEq α](kd:KeyKind prog w α):HeapKind prog w (List (List α)) where
 is:=DU kd
 hash:=Zt kd
 draws:=λks=>Pz ks + 1
 room:=λA=>A.units + 1<cLine
 inj:=λa b=>DU.inj a b
 keeps:=λk a b c=>DU.keeps k a b c
 pyHash:=λu k q=>uF u k q
 eqBool:=λu a b q=>Z27 u a b q
 quiet:=λk q=>vW k q
end L2
namespace L2
open PySem PySem.Spec PyProof.Rows
abbrev NK:=List (List Key)
abbrev SA:List (NK×χ×V)->List (NK×χ×ω)->Prop:=Paired λx y=>x.1=y.1/\x.2.1=y.2.1/\AW x.2.2 y.2.2
def nq(P:Δ)(w:World)(h:Heap)(a:χ)(ys:List (NK×χ×ω)):Prop:=∃(q:Obj) (es:Array DictEntry) (ep:Nat),(h.get? a≈q/\q.ExactDict)/\q.data=.dict es ep/\es.toList=ys.map (entryOfKey (iZ (BV P w)))
def Gs(P:Δ)(w:World)(a:χ)(xs:List (NK×χ×V)):HO:=.ext λh=>(a == sysModules)=false/\↑xs<=sizeLine/\∃ ys,SA xs ys/\nq P w h a ys/\(ys.map (·.1)).Nodup
def Ek(H:Hp)(ks:NK)(b:χ):Prop:=∃ ts:μ,H b≈(.tup (ts.map V.ref))/\Paired (λk t=>H t≈(.tup (k.map kV))) ks ts
def JI(P:Δ)(w:World)(H:Hp)(a:χ)(xs:List (NK×χ×V)):Prop:=H a≈(Gs P w a xs)/\∀ x∈xs,Ek H x.1 x.2.1
def Hs(xs:List (NK×χ×V))(k:NK):OV:=(xs.find? λx=>decide (x.1=k)).map (·.2.2)
def Ek.keep{H H':Hp}{ks:NK}{b:χ}(h:Ek H ks b)(k:∀ c xs,H c≈(.tup xs)->H' c≈(.tup xs)):Ek H' ks b:=by
 obtain⟨ts,h1,h2⟩:=h;exact⟨ts,k _ _ h1,Paired.mapP h2 λ_ _ e=>k _ _ e⟩
def JI.mono{P:Δ}{w:World}{H H':Hp}{a:χ}{xs:List (NK×χ×V)}(h:JI P w H a xs)(s:AA H H'):JI P w H' a xs:=⟨s _ _ h.1,λx hx=>(h.2 x hx).keep λc xs e=>s _ _ e⟩
def sV{xs:List (NK×χ×V)}{ys:List (NK×χ×ω)}(r:SA xs ys):∀ y∈ys,∃ x∈xs,x.1=y.1/\x.2.1=y.2.1/\AW x.2.2 y.2.2:=by
 induction r with
 | nil=>exact λy h=>nomatch h
 | cons h t ih =>
  intro y hy
  rcases Bj.mp hy with e | hy
  ·exact⟨_,Di,by rw[e];exact h⟩
  ·obtain⟨x,hx,z⟩:=ih y hy;exact⟨x,DX _ hx,z⟩
def Z1{xs:List (NK×χ×V)}{ys:List (NK×χ×ω)}(r:SA xs ys)(k:NK):CZ (Hs xs k) ((atKey ys k).map (·.2)):=by
 induction r with
 | nil=>exact True.intro
 | @cons p q ps qs h t ih =>
  unfold Hs atKey at ih ⊢;rw[IM,IM,<- h.1];by_cases e:p.1=k
  ·rw[Jb e];exact h.2.2
  ·rw[Jc e];exact ih
section
variable {X:Cx}{π:PL}{σ:St}{H:Hp}{s:Γ}{a b:χ}{xs:List (NK×χ×V)}{k:NK}{A:Around}{E:EV}
def WD{P:Δ}{w:World}{h:Heap}(ok:BF P w H h)(n:Ek H k b):DU (BV P w) h k b:=by
 obtain⟨ts,h1,h2⟩:=n;obtain⟨_,η,r,o,e1,e2,n,e3⟩:=(show A1 P w H h b (.tup (ts.map V.ref))from ok b _ h1);refine⟨o,η.toArray,n,⟨e1,e2⟩,e3,?_⟩;have go:∀ {ks:NK} {ts:μ} {vs:LU},Paired (λk t=>H t≈(.tup (k.map kV))) ks ts->AR (ts.map V.ref) vs->Dp (BV P w) h ks vs:=by
  intro ks ts vs p
  induction p generalizing vs with
  | nil=>intro q;cases q;exact .nil
  | cons e _ ih =>
   intro q;rw[Ys]at q;cases q with
   | cons rv AQ =>
    cases rv;exact .cons (Mo ok e) (ih AQ)
 simpa using go h2 r
def bO(I:Inv X π σ H s)(d:JI X.prog X.w H a xs):(a == sysModules)=false/\↑xs<=sizeLine/\∃ ys,SA xs ys/\s.heap.DictOfH (iZ (BV X.prog X.w)) a ys:=by
 obtain⟨⟨h1,h2,ys,r,⟨q,es,ep,⟨e1,e2⟩,e3,e4⟩,nd⟩,_⟩:=(show A1 X.prog X.w H s.heap a (Gs X.prog X.w a xs)from I.hok a _ d.1);refine⟨h1,h2,ys,r,q,es,ep,e1,e2,e3,e4,λy hy=>?_,nd⟩;obtain⟨x,hx,f1,f2,_⟩:=sV r y hy;have:=WD I.hok (d.2 x hx);rw[f1,f2]at this;exact this
def mY{P:Δ}{w:World}{H':Hp}{h:Heap}{ys:List (NK×χ×ω)}(h1:(a == sysModules)=false)(h2:↑xs<=sizeLine)(r:SA xs ys)(o:nq P w h a ys)(nd:(ys.map (·.1)).Nodup):A1 P w H' h a (Gs P w a xs):=by
 refine⟨⟨h1,h2,ys,r,o,nd⟩,?_,λg1 g2 p keep=>?_⟩
 ·obtain⟨q,_,_,e,_⟩:=o;exact⟨q,e.1⟩
 ·obtain⟨p1,p2,ys,r,⟨q,es,ep,⟨e1,e2⟩,e3,e4⟩,nd⟩:=p;exact⟨p1,p2,ys,r,⟨q,es,ep,⟨keep _ e1,e2⟩,e3,e4⟩,nd⟩
end
def zZ(P:Δ)(w:World):TE:=λ_ H Q=>∀ p,H p=none->Q (.ref p) (upd H p (Gs P w p []))
def Z1p(P:Δ)(w:World)(ty td:TE):TE:=λσ H Q=>ty σ H λy H1=>td σ H1 λx H2=>∃ a b xs k,x=.ref a/\y=.ref b/\JI P w H2 a xs/\Ek H2 k b/\Q (.bl (!(Hs xs k).isSome)) H2
def mJ(P:Δ)(w:World)(td ty:TE):TE:=λσ H Q=>td σ H λx H1=>ty σ H1 λy H2=>∃ a b xs k v,x=.ref a/\y=.ref b/\JI P w H2 a xs/\Ek H2 k b/\Hs xs k≈v/\Q v H2
def yg(P:Δ)(w:World)(td ty tv:TE):TS:=λD σ H=>tv σ H λv H1=>td σ H1 λx H2=>ty σ H2 λy H3=>∃ a b xs k,x=.ref a/\y=.ref b/\JI P w H3 a xs/\Ek H3 k b/\Hs xs k=none/\↑xs<sizeLine/\D.nx σ (upd H3 a (Gs P w a (xs++[(k,b,v)])))
section
variable {X:Cx}{o i value:Expr}{pos pos':Pos}{td ty tv:TE}
def r_:PE X (.Dict [] [] pos) (zZ X.prog X.w):=λπ s σ H Q I h =>
 wpAny_Dict_empty ⟨.ref ⇑s,_,I.laid (a:=⇑s) (o:=Gs X.prog X.w ⇑s []) (t':=s.toks) (λ_ _ q=>Yb _ q) (Yd _) (mY (Lj.mpr (Ae (Yl I.big))) (Bm _) .nil ⟨_,#[],0,⟨Ye _ rfl,⟨Y,Y,Y⟩⟩,Y,Y⟩ List.nodup_nil),Y,h _ (I.hok.fresh (Yd _))⟩
def u3(hu:X.A.units + 2<cLine)(hi:PE X i ty)(ho:PE X o td):PC X .NotIn i o (Z1p X.prog X.w ty td):=by
 ac_rfl;refine AH (hi π s σ H _ I h) λiv s1 ⟨y,H1,I1,ry,q1⟩=>AH (ho π s1 σ H1 _ I1 q1) λu s2 ⟨x,H2,I2,rx,a,b,xs,k,ex,ey,d,nk,q2⟩=>?_;subst ex ey;cases(show u=Value.ref a from rx);cases(show iv=Value.ref b from ry);obtain⟨h1,h2,ys,r,dd⟩:=bO I2 d;refine wpAny_notIn_heap (by show X.A.units + 1 + 1<cLine;omega) (WD I2.hok nk) h1 dd ?_;have e:=(Z1 r k).isSome_eq;rw[SS]at e;rw[<- e];exact⟨.bl (!(Hs xs k).isSome),H2,I2.tok _,Y,q2⟩
def Z2m(hu:X.A.units + 2<cLine)(ho:PE X o td)(hi:PE X i ty)(hs:XB i):PE X (.Subscript o i pos) (mJ X.prog X.w td ty):=by
 ac_rfl;refine hV PySem.F.slot_dict_getitem.lookup hs (AH (ho π s σ H _ I h) λu s1 ⟨x,H1,I1,rx,q1⟩=>AH (hi π s1 σ H1 _ I1 q1) λiv s2 ⟨y,H2,I2,ry,a,b,xs,k,v,ex,ey,d,nk,l,q2⟩=>?_);subst ex ey;cases(show u=Value.ref a from rx);cases(show iv=Value.ref b from ry);obtain⟨h1,h2,ys,r,dd⟩:=bO I2 d;obtain⟨w',hw,BQ⟩:=CZ.some_of (v:=v) (o:=(atKey ys k).map (·.2)) (by rw[<- l];exact Z1 r k);obtain⟨p,hp,FA⟩:=Fp.mp hw;refine⟨dd.typeIs,wpAny_getItem_heap (by show X.A.units + 1 + 1<cLine;omega) (WD I2.hok nk) dd hp ?_⟩;rw[FA];exact⟨v,H2,I2.tok _,BQ,q2⟩
def sG{P:Δ}{w:World}(e1:X.prog=P)(e2:X.w=w)(hu:X.A.units + 2<cLine)(ho:PE X o td)(hi:PE X i ty)(hs:XB i):PE X (.Subscript o i pos) (mJ P w td ty):=by
 subst e1 e2;exact Z2m hu ho hi hs
def Z2f(hu:X.A.units + 2<cLine)(ho:PE X o td)(hi:PE X i ty)(hv:PE X value tv)(hs:swapsWith value (↥(.Subscript o i pos')) pos.line X.env=pure false):PS X (.Assign [.Subscript o i pos'] value pos) (yg X.prog X.w td ty tv):=by
 intro π s σ H D I h;refine wpAny_Assign_Subscript (AH (hv π s σ H _ I h) λr s1 ⟨v,H1,I1,rv,q1⟩=>AH (ho π s1 σ H1 _ I1 q1) λu s2 ⟨x,H2,I2,rx,q2⟩=>AH (hi π s2 σ H2 _ I2 q2) λiv s3 ⟨y,H3,I3,ry,a,b,xs,k,ex,ey,d,nk,l,few,q3⟩=>?_) hs;subst ex ey;cases(show u=Value.ref a from rx);cases(show iv=Value.ref b from ry);obtain⟨h1,h2,ys,rel,dd⟩:=bO I3 d;have len:=BO rel;have none:atKey ys k=none:=by
  have e:=(Z1 rel k).isSome_eq;rw[l,SS]at e;cases z:atKey ys k with
  | none=>rfl
  | some p=>rw[z]at e;cases e
 refine wpAny_setItem_heap (hsz:=by omega) (by show X.A.units + 1 + 1<cLine;omega) (WD I3.hok nk) dd λh' F8 sb=>?_;rw[storedH_new none]at F8;obtain⟨q,es,ep,e1,e2,e3,e4,_,nd⟩:=F8;refine⟨σ,_,WB I3 (by rw[d.1];exact True.intro) sb ⟨q,e1⟩ (mY h1 ?_ (IJ rel ⟨Y,Y,rv⟩) ⟨q,es,ep,⟨e1,e2⟩,e3,e4⟩ nd),q3⟩;rw[Yu];show ↑xs + 1<=sizeLine;omega
def t9:Em X (.builtin "len") (λxs H Q=>∃ a ys,xs=[V.ref a]/\H a≈(Gs X.prog X.w a ys)/\Q (.int ↑ys) H):=by
 intro π s σ H xs us Q I r h;obtain⟨a,ys,rfl,ha,q⟩:=h;obtain⟨u,rfl,ru⟩:=Ga r;cases ru;obtain⟨⟨lo,hz,zs,rel,⟨o,es,ep,⟨e1,e2⟩,e3,e4⟩,nd⟩,_⟩:=(show A1 X.prog X.w H s.heap a (Gs X.prog X.w a ys)from I.hok a _ ha);have hr:BC s.heap a es ep:=⟨o,e1,e2,e3⟩;have hn:es.size=↑ys:=by
  have:=congrArg List.length e4;rw[Ya,<- BO rel]at this;simpa using this
 refine Calls.call_function_entry kind_len plain_len entry_len (args_len1 _) ?_;unfold Builtin.«len»;refine Ja (m:=oneArg "len" _) (Jd ?_);refine Ja (m:=callSpecial? (.ref a) (Str.ofString "__len__")) (wpAny_callSpecial?_slot (name:=Str.ofString "__len__") hr.ty Xf
  (call_meetsIn Xf hr.ty PySem.F.entry_dict_len (PySem.F.args_dict_len_1 _) (Zip lo) ⟨es,ep,hr,?_⟩))
 show wpAny _ _ _ _ _ {s with toks:=s.toks + 1};refine Ja (Jj (Jd ?_));refine Ja (wpAny_letGo ?_);have qK:es.size<2 ^ 62:=by rw[hn];rw[sizeLine_eq]at hz;omega
 show wpAny _ _ (if((es.size:Nat):Int)<0 then _ else _) _ _ _;rw[if_neg (by omega)];show wpAny _ _ (if((es.size:Nat):Int) ≥ 2 ^ 63 then _ else _) _ _ _;rw[if_neg (by omega)];refine Ja (wpAny_mkInt (Jd ⟨Z,?_⟩));exact⟨.int ↑ys,H,I.tok _,⟨_,by rw[hn]⟩,q⟩
end
def Z2n{X:Cx}{e:Expr}{te:TE}(h:PE X e te):PE X e (λσ H Q=>te σ H λv H1=>∃ a ν,v=.ref a/\H1 a≈(.dT ν)/\∀ o,Q v (upd H1 a (.frz o (.dT ν)))):=by
 intro π s σ H Q I q;refine AH (h π s σ H _ I q) λu s1 ⟨v,H1,I1,r,a,ν,ev,ha,q1⟩=>?_;subst ev;obtain⟨o,ho⟩:∃ o,s1.heap.get? a≈o:=by
  obtain⟨_,_,xs,_,o,_,_,e,_⟩:=I1.hok a _ ha;exact⟨o,e⟩
 exact⟨.ref a,_,I1.freezeT ha ho,r,q1 o⟩
section
variable {prog:Δ}{w:World}{α:Type}[DecidableEq α]{kd:HeapKind prog w α}{A:Around}{E:EV}{s:Γ}{a b:χ}{xa xb:List (α×χ×ω)}
end
section
variable {prog:Δ}{w:World}{A:Around}{E:EV}{s:Γ}
end
section
variable {X:Cx}
end
section
variable {M:Model}{A:Around}{E:EV}{s:Γ}
end
section
variable {X:Cx}{π:PL}{σ:St}{H:Hp}{s:Γ}{E:XK}{e T:χ}{cls:ω}{dx:Option χ}
end
section
variable {X:Cx}{π:PL}{σ:St}{scope:Scope}{own θ:LS}{js:LN}
end
section
variable {prog:Δ}{w:World}{A:Around}{E:EV}{R:Result->Γ->Prop}{s:Γ}
end
section
variable {X:Cx}{π:PL}{σ:St}{scope:Scope}{own θ:LS}{js:LN}
end
section
variable {X:Cx}{scope:Scope}{own θ:LS}{js:LN}{tg iter elt:Expr}{ifs:ε}{wi:TI}{g:TG}{tt:TT}{te:TE}{pos:Pos}
end
end L2
namespace L2
open PySem PySem.Spec
theorem gv(a:Array Nat):∀(k:Nat) (b:Array Nat),((List.replicate k a).foldl (·++·) b).toList=b.toList++(List.replicate k a.toList).flatten
 | 0,b=>by simp
 | k + 1,b=>by
  rw[C7,NH,gv a k,Array.toList_append,C7,La,LY]
def LK(i:Str)(k:Nat):Str:=⟨(List.replicate k i.cps).foldl (·++·) #[]⟩
def ij(i:Str)(k:Nat):(LK i k).cps.toList=(List.replicate k i.cps.toList).flatten:=by
 unfold LK;rw[gv];rfl
def ik(i:Str)(k:Nat):↑(LK i k)=k * ↑i:=by
 have:=congrArg List.length (ij i k);rw[List.length_flatten,List.map_replicate,List.sum_replicate_nat]at this;simpa[Str.length]using this
section
variable {X:Cx}
def Z2s:BP X (binaryOp .Mult) (λx y H Q=>∃(i:Str) (k:Nat),x=.str i/\y=.int (k:Int)/\2<=k/\k<=100/\1<=↑i/\↑i<=100/\Q (.str (LK i k)) H):=by
 exfalso;obtain⟨i,k,rfl,rfl,k2,cM,i1,cO,q⟩:=h;obtain⟨t,rfl⟩:=rx;obtain⟨t',rfl⟩:=ry;have Dn:((k:Int) == 1 || ↑i == 0)=false:=by
  rw[Bool.or_eq_false_iff];exact⟨by simp;omega,by simp;omega⟩
 have hbig:↑i * k<=10000:=Yq (Nat.mul_le_mul cO cM) (by decide);refine P.mul_str (by rw[Jc (by omega),Jc (by omega)];rfl) (λ_ _=>?_) (λ_ _=>?_) ?_
 ·have h1:(92233720368547758:Int)<=(2 ^ 63 - 1) / (k:Int):=by
   rw[Int.le_ediv_iff_mul_le (by omega)];omega
  omega
 ·rw[B0];unfold Builtin.Str.tooLong;have:¬ (↑i * k > sizeLine):=by rw[sizeLine_eq];omega
  simpa using this
 ·rw[if_neg (by omega),Dn];show Made.post (Made.str _) _ _;refine⟨?_,⟨.str (LK i k),H,I.tok _,⟨Z⟩,q⟩⟩;have hl:↑(LK i k)<=sizeLine:=by
   rw[ik,Nat.mul_comm,sizeLine_eq];omega
  exact hl
end
def Vt:ε->Option (τ)
 | []=>↥[]
 | e :: es=>match oG e,Vt es with
  | some i,↥l=>↥(i :: l)
  | _,_=>none
def bA:Expr->Option (τ)
 | .Tuple es _ _=>Vt es
 | _=>none
def mH(l:τ):TE:=λ_ H Q=>∀ p,H p=none->Q (.ref p) (upd H p (.tup (l.map V.int)))
section
variable {X:Cx}
theorem jB:∀ {es:ε}{l:τ},Vt es≈l->PA X es (λ_ H Q=>Q (l.map V.int) H)
 | [],l,h=>by
  cases h;exact AB
 | e :: es,l,h=>by
  unfold Vt at h;split at h
  ·rename_i i l' h1 h2
   cases h;obtain⟨k,pos,rfl⟩:∃ k pos,e=.Constant (.int i) k pos:=by
    unfold oG at h1;split at h1
    ·cases h1;exact⟨_,Z⟩
    ·cases h1
   exact pC AI (jB h2)
  ·cases h
def sF{e:Expr}(l:τ)(h:bA e≈l)(hl:↑l<=100000):PE X e (mH l):=by
 unfold bA at h;split at h
 ·intro π s σ H Q I q;exact C2 (jB h) π s σ H Q I ⟨sL (by rw[Ya];exact hl),q⟩
 ·cases h
def ig{i:Nat}{x:Str}{e b:Expr}{tb:TE}{p0 p1 p2:Pos}(l:τ)(h:bA e≈l)(hl:↑l<=100000)(hN:X.N.Nodup)(hi:X.N[i]?≈x)(hx:Loc X.env.scope x)(hb:PE X b tb)(hp:gZ b)
  (hf:X.fn x=true\/X.env.scope.names.lookup x≈.local:=by first | exact .inl rfl | exact .inr rfl | assumption):PS X (.Assign [.Name x p0] (.Subscript e b p1) p2) (W9 (IX (LJ X.K) (mH l) tb) (EI i)):=
 Cc hN hi hx (A9 Mn (sF l h hl) hb hp) rfl hf
end
end L2
namespace L2
open PySem PySem.Spec PyProof.Rows
section
variable {X:Cx}
def uA(hc:X.calm=true):Em X (.builtin "min") (λxs H Q=>∃(a:χ) (ns:τ),xs=[.ref a]/\AD X.K H a (ns.map V.int)/\0<↑ns/\∀ m:Int,m∈ns->(∀ x∈ns,m<=x)->Q (.int m) H):=by
 intro π s σ H xs us Q I r h;obtain⟨a,ns,rfl,ha,hn,q⟩:=h;obtain⟨u,rfl,ru⟩:=Ga r;cases ru;obtain⟨η,rv,pa,hz⟩:=I.list ha;obtain⟨ys,e1,e2⟩:=j4 rv;have hl:s.heap.IsList a (intItems ys.toArray):=by
  have:intItems ys.toArray=η.toArray:=by rw[e1];simp[intItems]
  rw[this];exact pa.isList
 have yl:↑ys=↑ns:=by rw[<- e2,Ya]
 refine min_intList (I.ok.hd hc) hl (by simp;omega) λv h' tk hv hk=>?_;have hns:ns=ys.toArray.toList.map (·.1):=by rw[<- e2]
 have hsz:0<ys.toArray.size:=by simp;omega
 obtain⟨t,rfl⟩:=intItems_at hv;obtain⟨h1,h2⟩:=argBest_lt (numAt ys.toArray) (ys.toArray.size - 1);refine⟨.int _,H,I.kept (t':=tk) hk,⟨t,Y⟩,q _ ?_ λb hb=>?_⟩
 ·rw[hns,numAt_eq];exact getD_mem (by rw[Ya,JM];omega)
 ·rw[hns]at hb;obtain⟨j,hj,rfl⟩:=mem_getD hb;rw[Ya,JM]at hj;rw[<- numAt_eq];exact h2 j (by omega)
end
end L2
namespace JT
open PySem L2
variable {P:Δ}{w:World}{K:Fg}{mg:Str->OU}{base:Heap}
def top(i:Nat):Stmt:=PySem.Challenge.pw_manydeeds_k49_tables_refused.main.body.getD i (.Pass ⟨0,0,0,0⟩)
abbrev af:Stmt:=Fl (top 3) 0
abbrev IC:Stmt:=top 22
abbrev M8:Stmt:=top 23
abbrev Wz:Stmt:=top 24
abbrev aZ:Stmt:=Fl (top 25) 0
abbrev W5:Stmt:=Fl (top 25) 1
abbrev W0:Stmt:=Fl (top 25) 2
abbrev W4:Stmt:=Fl (top 25) 3
abbrev R6:Stmt:=Fl (top 25) 4
abbrev R8:Stmt:=Fl (top 25) 5
abbrev Ws:Stmt:=top 27
abbrev P9:Stmt:=top 28
abbrev Ry:Stmt:=top 29
abbrev QI:Stmt:=top 30
abbrev W8:Stmt:=top 31
abbrev Wd:Stmt:=top 32
abbrev We:Stmt:=top 33
abbrev Py:Stmt:=top 34
abbrev D_:Stmt:=top 35
abbrev M9:Stmt:=top 37
abbrev RL:Stmt:=top 39
abbrev K7:Stmt:=top 40
abbrev R3:Stmt:=top 42
abbrev QL:Stmt:=top 43
abbrev R5:Stmt:=top 44
abbrev P_:Stmt:=top 50
abbrev Wt:Stmt:=top 51
abbrev Wv:Stmt:=top 52
abbrev QH:Stmt:=top 53
abbrev QC:Stmt:=top 54
abbrev Ww:Stmt:=top 55
abbrev Wu:Stmt:=top 56
abbrev ae:Stmt:=Fl (top 57) 0
abbrev Wm:Stmt:=Fl (top 57) 1
abbrev QG:Stmt:=Fl (top 57) 2
abbrev W7:Stmt:=Fl (top 57) 3
abbrev W6:Stmt:=Fl (top 57) 6
abbrev LD:Stmt:=top 59
abbrev Wx:Stmt:=top 60
abbrev Rq:Stmt:=top 61
abbrev LC:Stmt:=top 63
abbrev LF:Stmt:=top 64
abbrev Rx:Stmt:=top 65
abbrev R4:Stmt:=top 66
abbrev Rw:Stmt:=top 67
abbrev P1:Stmt:=top 68
abbrev R7:Stmt:=top 69
abbrev Rz:Stmt:=top 70
abbrev Wo:Stmt:=top 72
abbrev QE:Stmt:=top 73
abbrev W2:Stmt:=top 74
abbrev Wq:Stmt:=top 75
abbrev M7:Stmt:=top 76
abbrev Wr:Stmt:=top 77
abbrev M3:Stmt:=top 78
abbrev R0:Stmt:=top 79
abbrev Wn:Stmt:=top 80
abbrev R1:Stmt:=top 81
abbrev bQ:Stmt:=top 82
end JT
namespace JT
open PySem L2 Md
variable {P:Δ}{w:World}{K:Fg}{mg:Str->OU}{base:Heap}
structure ah(K:Fg)(mg:Str->OU)(D:χ):Prop where
 m:mg "DeedError"≈(.ref D)
 ex:ExC K D
 cl:W.isClsIn K D=true
 ty:W.typeIn K (.ref D)≈(.type "type")
structure gN(K:Fg)(mg:Str->OU)(Ds:Nat->χ):Prop where
 m0:mg "NoKind"≈(.ref (Ds 0))
 m1:mg "Twice"≈(.ref (Ds 1))
 m2:mg "NoName"≈(.ref (Ds 2))
 m3:mg "Ring"≈(.ref (Ds 3))
 m4:mg "NoDeed"≈(.ref (Ds 4))
 m5:mg "Same"≈(.ref (Ds 5))
 m6:mg "NoText"≈(.ref (Ds 6))
 m7:mg "TooMany"≈(.ref (Ds 7))
 m8:mg "NoBoard"≈(.ref (Ds 8))
 m9:mg "NoCall"≈(.ref (Ds 9))
 m10:mg "NoLine"≈(.ref (Ds 10))
 m11:mg "NoPlace"≈(.ref (Ds 11))
 m12:mg "NoWeights"≈(.ref (Ds 12))
 m13:mg "NoTerm"≈(.ref (Ds 13))
 m14:mg "NoRow"≈(.ref (Ds 14))
 cl:∀ k,k<15->W.isClsIn K (Ds k)=true
 ty:∀ k,k<15->W.typeIn K (.ref (Ds k))≈(.type "type")
structure Fh(K:Fg)(D:χ)(Ds:Nat->χ)(i:Nat):Prop where
 ex:ExA K (Ds i)
 sub:W.subIn K (.ref (Ds i)) (.ref D)≈true
 one:∀ k,k<15->W.subIn K (.ref (Ds i)) (.ref (Ds k))≈(decide (k=i))
def MZ{P:Nat->Prop}(h0:P 0)(h1:P 1)(h2:P 2)(h3:P 3)(h4:P 4)(h5:P 5)(h6:P 6)(h7:P 7)(h8:P 8)(h9:P 9)(Pm:P 10)(qh:P 11)(qg:P 12)(qf:P 13)(qe:P 14):∀ k,k<15->P k:=λk h=>by
 rcases k with _ | _ | _ | _ | _ | _ | _ | _ | _ | _ | _ | _ | _ | _ | _ | k
 ·exact h0
 ·exact h1
 ·exact h2
 ·exact h3
 ·exact h4
 ·exact h5
 ·exact h6
 ·exact h7
 ·exact h8
 ·exact h9
 ·exact Pm
 ·exact qh
 ·exact qg
 ·exact qf
 ·exact qe
 ·omega
def Ei(a0 a1 a2 a3 a4 a5 a6 a7 a8 a9 Y_ Y9 Y8 Y7 Y6:χ):Nat->χ
 | 0=>a0 | 1=>a1 | 2=>a2 | 3=>a3 | 4=>a4 | 5=>a5 | 6=>a6 | 7=>a7 | 8=>a8 | 9=>a9 | 10=>Y_ | 11=>Y9 | 12=>Y8 | 13=>Y7 | _=>Y6
abbrev Vs(i:Nat):List Bool:=(List.range 15).map λk=>decide (k=i)
def t4:∀ i,i<15->(Vs i).countP (· == true)=1:=by rfl'
def qw{i p:Nat}(hp:p<15):((Vs i).map V.bl)[p]?≈(.bl (decide (p=i))):=by
 rw[Yj,Yj,NJ hp];rfl
def gz(K:Fg)(D:χ)(Ds:Nat->χ):Sp:=λvs H Q _=>∃(e:χ) (i p:Nat) (dx:Option χ),vs=[.ref e,.int p]/\H e≈(XO e (Ds i) dx)/\Pq H dx/\Fh K D Ds i/\i<15/\p<15/\∀ H',AA H H'->Q (.bl (decide (p=i))) H'
abbrev qA:LS:=["e","place","some"]
def lU:Ad qA ["e","place"] (AL Wq):=by nofun
def sY{Ds:Nat->χ}(F:Def K mg "_law_alone" Wq ["e","place"] f fd)(TD:ah K mg D)(TF:gN K mg Ds)(isi:mg "isinstance"=none)(vr:mg "ValueError"=none):⋯ 1 f fd ["e","place"] (gz K D Ds):=by
 nomatch F.fn.ok lU
 ·obtain⟨e,i,p,dx,rfl,_⟩:=h;rfl
 ·obtain⟨e,i,p,dx,rfl,hx,hd,O,VY,pU,q⟩:=h;have nd:=lU.nd;have one:∀ k,k<15->W.kitOne K (.ref (Ds i)) (.ref (Ds k))≈(decide (k=i)):=λk hk=>iW (TF.cl k hk) (TF.ty k hk) O.ex.toExC (O.one k hk)
  ac_nf
  refine'⟨_,pS (sE 2 nd (C1 (pC ?a0 (pC ?a1 (pC ?a2 (pC ?a3 (pC ?a4 (pC ?a5 (pC ?a6 (pC ?a7 (pC ?a8 (pC ?a9 (pC ?Y_ (pC ?Y9 (pC ?Y8 (pC ?Y7 (pC ?Y6 AB)))))))))))))))))
   (pS (Ac (PW.pt (Fe (Bx (CF ?b1)) (Hy (Bx (CF ?b2))))) (AG (Ab Dw)) Aj) (AG (Ab (V9 ?c1 (RW ?c2))))),?_⟩
  case a0=>exact Ai Df (by rfl) isi Yw (pC (pv 0) (pC (By (v:=.ref (Ds 0)) (by rfl) TF.m0 rfl) AB))
  case a1=>exact Ai Df (by rfl) isi Yw (pC (pv 0) (pC (By (v:=.ref (Ds 1)) (by rfl) TF.m1 rfl) AB))
  case a2=>exact Ai Df (by rfl) isi Yw (pC (pv 0) (pC (By (v:=.ref (Ds 2)) (by rfl) TF.m2 rfl) AB))
  case a3=>exact Ai Df (by rfl) isi Yw (pC (pv 0) (pC (By (v:=.ref (Ds 3)) (by rfl) TF.m3 rfl) AB))
  case a4=>exact Ai Df (by rfl) isi Yw (pC (pv 0) (pC (By (v:=.ref (Ds 4)) (by rfl) TF.m4 rfl) AB))
  case a5=>exact Ai Df (by rfl) isi Yw (pC (pv 0) (pC (By (v:=.ref (Ds 5)) (by rfl) TF.m5 rfl) AB))
  case a6=>exact Ai Df (by rfl) isi Yw (pC (pv 0) (pC (By (v:=.ref (Ds 6)) (by rfl) TF.m6 rfl) AB))
  case a7=>exact Ai Df (by rfl) isi Yw (pC (pv 0) (pC (By (v:=.ref (Ds 7)) (by rfl) TF.m7 rfl) AB))
  case a8=>exact Ai Df (by rfl) isi Yw (pC (pv 0) (pC (By (v:=.ref (Ds 8)) (by rfl) TF.m8 rfl) AB))
  case a9=>exact Ai Df (by rfl) isi Yw (pC (pv 0) (pC (By (v:=.ref (Ds 9)) (by rfl) TF.m9 rfl) AB))
  case Y_=>exact Ai Df (by rfl) isi Yw (pC (pv 0) (pC (By (v:=.ref (Ds 10)) (by rfl) TF.m10 rfl) AB))
  case Y9=>exact Ai Df (by rfl) isi Yw (pC (pv 0) (pC (By (v:=.ref (Ds 11)) (by rfl) TF.m11 rfl) AB))
  case Y8=>exact Ai Df (by rfl) isi Yw (pC (pv 0) (pC (By (v:=.ref (Ds 12)) (by rfl) TF.m12 rfl) AB))
  case Y7=>exact Ai Df (by rfl) isi Yw (pC (pv 0) (pC (By (v:=.ref (Ds 13)) (by rfl) TF.m13 rfl) AB))
  case Y6=>exact Ai Df (by rfl) isi Yw (pC (pv 0) (pC (By (v:=.ref (Ds 14)) (by rfl) TF.m14 rfl) AB))
  case b1=>exact Ai Df (by rfl) isi Yw (pC (pv 0) (pC (By (v:=.ref D) (by rfl) TD.m rfl) AB))
  case b2=>exact Ai Df (by rfl) isi Yw (pC (pv 0) (pC (Z2p (v:=.ty "ValueError") (by rfl) vr (by rfl') rfl) AB))
  case c1=>exact FH Bw (Iw Gq PySem.F.slot_list_count PySem.F.type_list_count ub (pv 2) (pC Dw AB)) AI (Ao _)
  case c2=>exact A9 Bi (pv 2) (pv 1) (λ_ _=>rfl)
  exists let b:=AF _ a;AF _ b _ _ _
  refine⟨Z,e,Ds i,dx,_,_,Z,Y,λu z=>z,hx,hd,O.ex,one 0 (by decide),?_⟩;refine⟨Z,e,Ds i,dx,_,_,Z,Y,λu z=>z,hx,hd,O.ex,one 1 (by decide),?_⟩;refine⟨Z,e,Ds i,dx,_,_,Z,Y,λu z=>z,hx,hd,O.ex,one 2 (by decide),?_⟩;refine⟨Z,e,Ds i,dx,_,_,Z,Y,λu z=>z,hx,hd,O.ex,one 3 (by decide),?_⟩;refine⟨Z,e,Ds i,dx,_,_,Z,Y,λu z=>z,hx,hd,O.ex,one 4 (by decide),?_⟩;refine⟨Z,e,Ds i,dx,_,_,Z,Y,λu z=>z,hx,hd,O.ex,one 5 (by decide),?_⟩;refine⟨Z,e,Ds i,dx,_,_,Z,Y,λu z=>z,hx,hd,O.ex,one 6 (by decide),?_⟩;refine⟨Z,e,Ds i,dx,_,_,Z,Y,λu z=>z,hx,hd,O.ex,one 7 (by decide),?_⟩;refine⟨Z,e,Ds i,dx,_,_,Z,Y,λu z=>z,hx,hd,O.ex,one 8 (by decide),?_⟩;refine⟨Z,e,Ds i,dx,_,_,Z,Y,λu z=>z,hx,hd,O.ex,one 9 (by decide),?_⟩;refine⟨Z,e,Ds i,dx,_,_,Z,Y,λu z=>z,hx,hd,O.ex,one 10 (by decide),?_⟩;refine⟨Z,e,Ds i,dx,_,_,Z,Y,λu z=>z,hx,hd,O.ex,one 11 (by decide),?_⟩;refine⟨Z,e,Ds i,dx,_,_,Z,Y,λu z=>z,hx,hd,O.ex,one 12 (by decide),?_⟩;refine⟨Z,e,Ds i,dx,_,_,Z,Y,λu z=>z,hx,hd,O.ex,one 13 (by decide),?_⟩;refine⟨Z,e,Ds i,dx,_,_,Z,Y,λu z=>z,hx,hd,O.ex,one 14 (by decide),?_⟩;refine⟨sL (by show 15<=100000;decide),λl hl=>?_⟩;have s1:AA H (upd H l (.lst ((Vs i).map V.bl))):=AO hl;have eV:=s1 _ _ hx;have CW:=AA.xdict hd s1;refine⟨Z,e,Ds i,dx,_,_,Z,Y,λu z=>z,eV,CW,O.ex,iW TD.cl TD.ty O.ex.toExC O.sub,Z,?_⟩;refine Af ⟨Z,e,Ds i,dx,_,_,Z,Y,λu z=>z,eV,CW,O.ex,ua O.ex.toExC,Z,Af ?_⟩;refine⟨Z,.inl ⟨Y,_,AD.of uS⟩,l,Vs i,true,Y,Y,uS,Y,Z,?_⟩;rw[t4 i VY];exact Az ⟨Z,Z,l,_,p,.bl (decide (p=i)),Y,Y,AD.of uS,Es (qw pU),q _ s1⟩
def mU(K:Fg):Sp:=λvs H Q _=>∃(a:χ) (k:Int) (ns:τ),vs=[.ref a,.int k]/\AD K H a (ns.map V.int)/\↑ns<=100/\0<=k/\k<=1000/\∀ p o,H p=none->EH o->Q (.ref p) (upd H p o)
def V7:Sp:=λvs H Q _=>∃(p:χ) (m:Int) (o:HO),vs=[.ref p,.int m]/\H p≈o/\EH o/\0<m/\m<10000000000000000000000000000000000000000000000000000000000000/\∀(v:Int) o',0<=v->v<m->EH o'->Q (.int v) (upd H p o')
def jc:Sp:=λvs H Q _=>∃ n:Nat,vs=[.int n]/\n<26 ^ 8/\Q (.str (Dg n)) H
def RM:Ad ["script","k","cell","rest"] ["script","k"] (AL Wo):=by nofun
def ZC:(10:Int) ^ (64:Int).toNat * 10 ^ (64:Int).toNat * 10 ^ (64:Int).toNat * 10 ^ (64:Int).toNat=10 ^ 256:=by rfl'
def zD(F:Def K mg "_law_pot" Wo ["script","k"] f fd)(len:mg "len"=none):⋯ 1 f fd ["script","k"] (mU K):=by
 nomatch F.fn.ok RM
 ·obtain⟨a,k,ns,rfl,_⟩:=h;rfl
 ·obtain⟨a,k,ns,rfl,hS,hl,Dc,A2,q⟩:=h
  ac_nf
  refine⟨_,pS (Cc (i:=2) RM.nd rfl (Or.inl rfl) AI)
   (IA (Ac (Ax Hv (pv 1) (Ai Ms (by rfl) len Yx (pC (pv 0) AB)) (Ao _))
    (AG (Cc (i:=2) RM.nd rfl (Or.inl rfl) (Al Ku (A9 Bi (pv 0) (pv 1) (λ_ _=>rfl))
     (Al WJ (Al WJ (Al WJ (Al Mi AI AI) (Al Mi AI AI)) (Al Mi AI AI)) (Al Mi AI AI))))) Aj)
   (pS (Cc (i:=3) RM.nd rfl (Or.inl rfl) AI)
   (IA (Ac (Ax ya (pv 2) (Al Mi AI AI) (Ao _)) (AG (Cc (i:=3) RM.nd rfl (Or.inl rfl) (pv 2))) Aj)
   (AG (Ab (C1 (pC (pv 3) (pC (Al Ku (Al Mh (Al Iy (Al Iy (Al Ku (pv 2) AI) (Al Mh AI (pv 1))) AI) AI) AI) AB)))))))),?_⟩
  exists let b:=GQ _ a;let c:=AF _ b;let e:=_;let f:=GQ (Bp _ e _) c;AF _ f _ _ _
  let FL:SW:=λσ' H'=>H'=H/\∃ c:Int,0<=c/\c<10 ^ 256/\σ'=[↥(.ref a),↥(.int k),↥(.int c),none];refine⟨FL,?_,?_⟩
  ·refine⟨Z,Z,_,Z,.inl ⟨_,hS,Y⟩,_,Z,Y,Z,?_⟩;refine BY (λh1=>?_) (λh1=>?_)
   ·have h1:k<(↑(ns.map V.int):Int):=Je h1;rw[Ya]at h1;have hi:k.toNat<↑ns:=by omega
    have hat:Ej (ns.map V.int) k≈(V.int ns[k.toNat]):=by
     have e:(ns.map V.int)[k.toNat]?≈(V.int ns[k.toNat]):=by rw[Yj,Yg hi];rfl
     have:=Es e
     rwa [Int.toNat_of_nonneg Dc]at this
    refine⟨Z,Z,_,_,_,Z,Y,hS,hat,_,Z,Y,⟨W,W,by rfl'⟩,_,Z,Y,⟨W,W,by rfl'⟩,_,Z,Y,⟨by rfl',by rfl'⟩,
     _,Z,Y,⟨W,W,by rfl'⟩,_,Z,Y,⟨by rfl',by rfl'⟩,_,Z,Y,⟨W,W,by rfl'⟩,_,Z,Y,⟨by rfl',by rfl'⟩,_,Z,Y,?_,Y,_,?_,?_,Y⟩
    ·show(0:Int)<_;rw[ZC];rfl'
    ·rw[ZC];exact Qa _ (by rfl')
    ·rw[ZC];exact QW _ (by rfl')
   ·exact⟨Y,0,W,by rfl',Y⟩
  ·rintro σ' H' ⟨rfl,c,qY,qX,rfl⟩;let Sq:SW:=λσ2 H2=>H2=H'/\∃ r:Int,0<=r/\r<10 ^ 256/\σ2=[↥(.ref a),↥(.int k),↥(.int c),↥(.int r)];refine⟨Sq,?_,?_⟩
   ·refine⟨Z,_,Z,Y,⟨W,W,by rfl'⟩,_,Z,Y,Z,?_⟩;refine BY (λh1=>?_) (λh1=>?_)
    ·exact⟨Z,Y,c,qY,qX,Y⟩
    ·exact⟨Y,0,W,by rfl',Y⟩
   ·rintro σ2 H2 ⟨rfl,r,Q_,AM,rfl⟩;have m0:=Qa c (b:=2147483629) (by decide);have m1:=QW c (b:=2147483629) (by decide);refine⟨Z,Z,_,Z,Y,(by show(0:Int)<2147483629;decide),Z,_,Z,Y,.inl ⟨W,W⟩,_,Z,Y,_,Z,Y,_,Z,Y,.inr ⟨W,W⟩,_,Z,Y,(by show(0:Int)<2147483647;decide),J,λp hp=>?_⟩;refine q p _ hp ⟨r,Z,Q_,AM,Qa _ (by decide),QW _ (by decide)⟩
def nE:Ad ["pot","many","found"] ["pot","many"] (AL QE):=by nofun
def Z2v(F:Def K mg "_law_take" QE ["pot","many"] f fd):⋯ 1 f fd ["pot","many"] V7:=by
 nomatch F.fn.ok nE
 ·obtain⟨p,m,o,rfl,_⟩:=h;rfl
 ·obtain⟨p,m,o,rfl,hp,⟨r,b,rfl,Q_,AM,RF,Kg⟩,MQ,MO,q⟩:=h
  ac_nf
  refine⟨_,pS (Ac (Ax GZ (A9 Bi (pv 0) AI (λ_ _=>rfl)) AI (Ao _))
    (pS (Cc (i:=2) nE.nd rfl (Or.inl rfl) (Al Ku (A9 Bi (pv 0) AI (λ_ _=>rfl)) (pv 1)))
    (pS (Px (Al rq (A9 Bi (pv 0) AI (λ_ _=>rfl)) (pv 1)) (ZI (pv 0) AI Z4)) (AG (Ab (pv 2))))) Aj)
   (pS (Px (Al Ku (Al Iy (Al Mh (A9 Bi (pv 0) AI (λ_ _=>rfl)) AI) AI) AI) (ZI (pv 0) AI Z4))
   (AG (Ab (Al Ku (Al g9 (Al Ku (Al Mh (A9 Bi (pv 0) AI (λ_ _=>rfl)) (A9 Bi (pv 0) AI (λ_ _=>rfl))) AI) AI) (pv 1))))),?_⟩
  exists let b:=AF _ a;let c:=_;let e:=AF _ c;let f:=AF _ e;AF (Bp _ f _) b _ _ _
  refine⟨Z,p,_,_,Z,Y,AD.of hp,Y,_,Z,Y,Z,?_⟩;refine BY (λh1=>?_) (λh1=>?_)
  ·refine⟨Z,p,_,_,Z,Y,AD.of hp,Y,Z,_,Z,Y,MQ,?_⟩;refine⟨Z,p,_,_,Z,Y,AD.of hp,Y,Z,_,Z,Y,⟨MQ,MO⟩,?_⟩;refine⟨Z,p,_,_,0,Y,Y,hp,Y,Z,?_⟩;have h1:0<r:=Je h1;exact q _ _ (Qa _ (by omega)) (QW _ MQ) ⟨r / m,b,Y,Int.ediv_nonneg Q_ (by omega),Int.lt_of_le_of_lt (Int.ediv_le_self _ Q_) AM,RF,Kg⟩
  ·refine⟨Z,p,_,_,Z,Y,AD.of hp,Y,_,Z,Y,.inr ⟨W,W⟩,_,Z,Y,_,Z,Y,(by show(0:Int)<2147483647;decide),?_⟩;refine⟨Z,p,_,_,1,Y,Y,hp,Y,?_⟩;have m0:=Qa (b * 69621 + 12345) (b:=2147483647) (by decide);have m1:=QW (b * 69621 + 12345) (b:=2147483647) (by decide);refine⟨Z,p,_,_,Z,Y,AD.of uS,Y,Z,p,_,_,Z,Y,AD.of uS,Y,_,Z,Y,.inl ⟨O,O⟩,_,Z,Y,(by show(0:Int)<2147483629;decide),_,Z,Y,⟨W,W⟩,Z,_,Z,Y,MQ,?_⟩;exact q _ _ (Qa _ (by omega)) (QW _ MQ) ⟨r,Z,Q_,AM,m0,m1⟩
def mO:Ad ["number","word"] ["number"] (AL W2):=by nofun
def vb(F:Def K mg "_law_letters" W2 ["number"] f fd):⋯ 1 f fd ["number"] jc:=by
 nomatch F.fn.ok mO
 ·obtain⟨n,rfl,_⟩:=h;rfl
 ·obtain⟨n,rfl,hn,q⟩:=h;have nd:=mO.nd
  ac_nf
  refine⟨_,pS (sE 1 nd Gb)
   (pS (Z2 Yz (Fe (Ax Bw (pv 1) Gb (Ao _)) (Hy (Ax GZ (pv 0) AI (Ao _)))).pt
    (pS (sE 1 nd (Al vg (pv 1) (A9 zP Gb (Al Ku (pv 0) AI) (λ_ _=>rfl))))
    (AG (sE 0 nd (Al g9 (pv 0) AI)))))
   (AG (Ab (pv 1)))),?_⟩
  exists let b:=AF _ a;AF _ b _ _ _
  have e0:("":Str).cps.toList=[]:=by rfl'
  have hlen:↑(C3 n)<=8:=aV 7 n hn;let So:NW:=λm σ H2=>H2=H/\∃(x:Str) (k:Nat),σ=[↥(.int k),↥(.str x)]/\m=k + (if x.cps.toList=[]then 1 else 0)/\((x.cps.toList=[]/\k=n)\/(x.cps.toList≠[]/\k=0/\x.cps.toList=C3 n)\/(x.cps.toList≠[]/\0<k/\x.cps.toList++C3 k=C3 n));refine⟨So,⟨Z,_,n,Y,Y,.inl ⟨e0,Y⟩⟩,?_⟩;rintro m σ H2 ⟨rfl,x,k,rfl,rfl,inv⟩;have more:(x.cps.toList=[]\/0<k)->∃ N:SW,(∀ σ' H',N σ' H'->∃ m',m'<k + (if x.cps.toList=[]then 1 else 0)/\(H'=H2/\∃(y:Str) (j:Nat),σ'=[↥(.int j),↥(.str y)]/\m'=j + (if y.cps.toList=[]then 1 else 0) /\
    ((y.cps.toList=[]/\j=n)\/(y.cps.toList≠[]/\j=0/\y.cps.toList=C3 n)\/(y.cps.toList≠[]/\0<j/\y.cps.toList++C3 j=C3 n)))) /\
    N [↥(.int ((k:Int) / 26)),↥(.str (x++⟨#[97 + k % 26]⟩))] H2:=λhk=>by
   let bw:SW:=λσ' H'=>σ'=[↥(.int ((k:Int) / 26)),↥(.str (x++⟨#[97 + k % 26]⟩))]/\H'=H2;refine⟨bw,?_,Y,Y⟩;rintro σ' H' ⟨rfl,rfl⟩;have el:(x++⟨#[97 + k % 26]⟩:Str).cps.toList=x.cps.toList++[97 + k % 26]:=rO _ _;have ne:(x++⟨#[97 + k % 26]⟩:Str).cps.toList≠[]:=by rw[el];simp
   have kd:((k:Int) / 26)=((k / 26:Nat):Int):=by omega
   have whole:(x.cps.toList++[97 + k % 26])++(if k / 26=0 then[]else C3 (k / 26))=C3 n:=by
    rw[LY,List.singleton_append,<- M0]
    rcases inv with⟨h1,h2⟩ | ⟨h1,h2,_⟩ | ⟨_,_,h3⟩
    ·rw[h1,h2];rfl
    ·rcases hk with z | z
     ·exact absurd z h1
     ·omega
    ·exact h3
   refine⟨k / 26,?_,Y,_,k / 26,by rw[kd],by rw[if_neg ne];rfl,?_⟩
   ·rcases hk with z | z
    ·rw[if_pos z];omega
    ·have:k / 26<k:=by omega
     omega
   ·right;rw[el];by_cases z:k / 26=0
    ·rw[if_pos z,EE]at whole;exact .inl ⟨by simp,z,whole⟩
    ·rw[if_neg z]at whole;exact .inr ⟨by simp,O,whole⟩
  have xlen:↑x<=8:=by
   rw[<- Ky]
   rcases inv with⟨h1,_⟩ | ⟨_,_,h3⟩ | ⟨_,_,h3⟩
   ·rw[h1];simp
   ·rw[h3];exact hlen
   ·have:=congrArg List.length h3;rw[Yu]at this;omega
  have gM:Ej letters.cps.toList ((k:Int) % 26)≈(97 + k % 26):=by
   have:=Es (vP (i:=k % 26) (by omega));have e:((k % 26:Nat):Int)=(k:Int) % 26:=by omega
   rwa [e]at this
  refine⟨Z,Y,Z,?_⟩;refine BY (λh1=>?_) (λh1=>?_)
  ·have hx:x.cps.toList=[]:=by
    have:=Je h1;injection this with this;rw[this];exact e0
   obtain⟨N,hN,n0⟩:=more (.inl hx);refine Az ⟨N,hN,?_⟩;exact⟨Z,Z,_,Z,Y,(by show(0:Int)<26;decide),_,_,Z,Y,sL (by rw[<- Ky,Wg];decide),gM,_,Z,Y,sL (by rw[gn];omega),Z,_,Z,Y,⟨W,W⟩,n0⟩
  ·have hx:x.cps.toList≠[]:=λz=>h1 (Jb (by rw[iG (z.trans e0.symm)]));refine⟨Z,_,Z,Y,Z,?_⟩;refine BY (λh2=>?_) (λh2=>?_)
   ·have hk:0<k:=by have:(0:Int)<(k:Int):=Je h2;omega
    obtain⟨N,hN,n0⟩:=more (.inr hk);refine⟨N,hN,?_⟩;exact⟨Z,Z,_,Z,Y,(by show(0:Int)<26;decide),_,_,Z,Y,sL (by rw[<- Ky,Wg];decide),gM,_,Z,Y,sL (by rw[gn];omega),Z,_,Z,Y,⟨W,W⟩,n0⟩
   ·have hk:k=0:=by
     have:¬ (0:Int)<(k:Int):=λz=>h2 (Jb z);omega
    have hf:x=Dg n:=by
     refine iG ?_;rw[W3]
     rcases inv with⟨h1,_⟩ | ⟨_,_,h3⟩ | ⟨_,h2,_⟩
     ·exact absurd h1 hx
     ·exact h3
     ·omega
    rw[hf];exact⟨Z,q⟩
structure Z8z(ws:LS):Prop where
 word:∀ x∈ws,Bf x=true
 nd:ws.Nodup
def zA{ws:LS}(h:∀ x∈ws,Bf x=true):W.kqdOk 9 (.list (ws.map W.Dat.str))=true:=by
 show(ws.map W.Dat.str).all (W.kqdOk 8)=true;rw[Cd];intro d hd;obtain⟨x,hx,e⟩:=Yo.mp hd;rw[<- e];exact Rh (h x hx)
def xt(js:LN):LV:=js.map λ(j:Nat)=>V.int (j:Int)
structure yJ(k:Nat)(js:LN):Prop where
 below:∀ j∈js,j<k
 nd:js.Nodup
 few:↑js<=8
structure Ycm(mg:Str->OU):Prop where
 range:mg "range"=none
 int:mg "int"=none
def UpV(ws:LS)(H:Hp)(js:LN)(v:V):Prop:=∃ t,v=.ref t/\H t≈(.tup ((js.map λi=>ws.getD i "").map V.str))
structure Ych(p lw lo lu:χ)(ws:LS)(H H':Hp)(i:Nat)(os:LN)(uf:List (LN))(us:LV):Prop where
 d:Drawn p H H'
 w:H' lw≈(.lst (ws.map V.str))
 o:H' lo≈(.lst (xt os))
 u:H' lu≈(.lst us)
 pu:Paired (UpV ws H') uf us
 ul:↑uf=i
 uok:∀(k:Nat) (js:LN),uf[k]?≈js->yJ k js
 on:os.Nodup
 om:∀ j,j∈os↔j<i
 ol:↑os=i
structure Ycn(mg:Str->OU):Prop where
 range:mg "range"=none
 int:mg "int"=none
 len:mg "len"=none
 tuple:mg "tuple"=none
 list:mg "list"=none
def iu:Sp:=λvs H Q _=>∃ x:Str,vs=[.str x]/\↑x<=1000/\∀ H',AA H H'->Q (.bl (Bf x)) H'
def kR(K:Fg):Sp:=λvs H Q _=>∃(l:χ) (ρ:RS),vs=[.ref l]/\bM K H l ρ/\Ah ρ/\∀ H',AA H H'->Q .non H'
structure Ht(H:Hp)(d:χ)(o:Obj)(ρ:RS)(ν:KL):Prop where
 at_:H d≈(.frz o (.dK ν))
 ups:El H ρ ν
theorem Ht.mono{H H':Hp}{d:χ}{o:Obj}{ρ:RS}{ν:KL}(b:Ht H d o ρ ν)(s:AA H H'):Ht H' d o ρ ν:=⟨s _ _ b.at_,b.ups.mono λ_ _ e=>s _ _ e⟩
def kL:Sp:=λvs H Q _=>∃(d:χ) (o:Obj) (ρ:RS) (ν:KL),vs=[.ref d]/\Ht H d o ρ ν/\Ah ρ/\∀ H',AA H H'->Q .non H'
def Kt(us left:LS):V:=match us.find? (λx=>decide (x∈left))with | some x=>.str x | none=>.non
def iC(K:Fg):Sp:=λvs H Q _=>∃(a b:χ) (us left:LS),vs=[.ref a,.ref b]/\AJ K H a (us.map V.str)/\AD K H b (left.map V.str)/\Q (Kt us left) H
def ja:Sp:=λvs H Q _=>∃(d:χ) (o:Obj) (ρ:RS) (ν:KL),vs=[.ref d]/\Ht H d o ρ ν/\Ah ρ/\∀ l H',AA H H'->H' l≈(.lst [])->Q (.ref l) H'
def nM:Sp:=λvs H Q _=>∃(d:χ) (o:Obj) (ρ:RS) (ν:KL),vs=[.ref d]/\Ht H d o ρ ν/\Ah ρ/\∀ H',AA H H'->Q .non H'
structure QN(mg:Str->OU):Prop where
 letters:∃ t,mg "LETTERS"≈(.str letters t)
 most:∃ t,mg "MOST_LETTERS"≈(.int 8 t)
 kinds:∃ t,mg "MOST_KINDS"≈(.int 24 t)
 ups:∃ t,mg "MOST_UPS"≈(.int 8 t)
 len:mg "len"=none
 all:mg "all"=none
 list:mg "list"=none
 tuple:mg "tuple"=none
def pJ:Ad ["text"] ["text"] (AL P_):=by nofun
def Z29:(["sign"]:LS).Nodup:=by rfl'
def uQ(F:Def K mg "is_word" P_ ["text"] f fd)(T:QN mg):⋯ 1 f fd ["text"] iu:=by
 nomatch F.fn.ok pJ
 ·obtain⟨x,rfl,_⟩:=h;rfl
 ·obtain⟨x,rfl,hx,k⟩:=h;obtain⟨t1,hl⟩:=T.letters;obtain⟨t2,hm⟩:=T.most
  ac_nf
  refine⟨_,pS (Ac (Bx (P8 Iv Iv AI (Ai Ms (by rfl) T.len Yx (pC (pv 0) AB)) (By (v:=.int 8) (by rfl) hm ⟨Z⟩))) (AG (Ab Dw)) Aj)
   (AG (Ab (Ai (WM rfl) (by rfl) T.all Xe (pC
    (Cm ["sign"] [] [] (λ_=>Bs (osc:=AL P_) (on:=["text"]) (by rfl') rfl rfl rfl) (zI (pv 0)) (λC s H fp=>Bl (i:=0) Z29 rfl (Or.inl rfl) (Or.inr rfl)) (λC s H fp=>CU)
     (λC s H fp=>FH uz (pv 0) (By (v:=.str letters) (by rfl) hl ⟨Z⟩) (by with_unfolding_all rfl))) AB)))),?_⟩
  exists AF _ a _ _ _
  refine⟨Z,_,Z,⟨sL (by omega),Y⟩,_,Z,Y,Z,?_⟩;have no:¬ (1<=↑x/\↑x<=8)->Bf x=false:=λh=>by unfold Bf;rw[Jc h];rfl
  have same:AA H H:=AA.refl H;refine BY (λh1=>?_) (λh1=>?_)
  ·have h1:(1:Int)<=(↑x:Int):=Je h1;refine⟨_,Z,Y,Z,?_⟩;refine BY (λh2=>?_) (λh2=>?_)
   ·have h2:¬ ((↑x:Int)<=8):=by simpa using h2
    have q:=k H same;rw[no (by omega)]at q;exact q
   ·have h2:((↑x:Int)<=8):=by simpa using h2
    refine⟨Z,Z,Z6 tO (by unfold I_;rw[Ya,Ky];exact sL (by omega)) (λ_=>true) bK (λ_ _ _=>trivial) ?_ ?_ ?_⟩
    ·intro D ys v R _ _ hR;exact hR
    ·intro D ys v R _ hv _ hR;obtain⟨c,_,e⟩:=Yo.mp hv;subst e;exact⟨Z,_,Z,Y,hR⟩
    ·intro D hD;refine⟨D,x.cps.toList.map Ir,Y,AD.of (by rw[<- ux];exact uS),?_⟩;have e:(x.cps.toList.map Ir).all id=Bf x:=by
      unfold Bf;rw[Jb (by omega),Bool.true_and,List.all_map];rfl
     have q:=k (upd H D (.lst (((I_ x).filter λ_=>true).map bK))) λb o hb=>by rw[AE (AS hb hD)];exact hb
     rw[<- e]at q;exact q
  ·have h1:¬ ((1:Int)<=(↑x:Int)):=λz=>h1 (Jb z);refine⟨Z,?_⟩;refine Az ?_;have q:=k H same;rw[no (by omega)]at q;exact q
def ZY{b:Bool}{H:Hp}{a:χ}{xs:LV}(h:C8 K b H a xs):nj K (.ref a) H ↑xs:=by
 cases b with
 | true=>exact .inl ⟨xs,h,Y⟩
 | false=>exact .inr ⟨xs,h,Y⟩
def k9:Ad ["rows","seen","word","ups"] ["rows"] (AL Wt):=by nofun
def xE(F:Def K mg "check_rows" Wt ["rows"] f fd)(DW:Def K mg "is_word" P_ ["text"] fW fdW)(T:QN mg):⋯ 2 f fd ["rows"] (kR K):=by
 have GW:⋯ 1 fW fdW ["text"] iu:=uQ DW T
 nomatch F.fn.ok k9
 ·obtain⟨l,ρ,rfl,_⟩:=h;rfl
 ·obtain⟨l,ρ,rfl,⟨b,vs,hl,hp⟩,g,q⟩:=h;obtain⟨t1,hK⟩:=T.kinds;obtain⟨t2,hU⟩:=T.ups;have nd:=k9.nd;have hu:=EK hr
  ac_nf
  refine⟨_,pS (Ac (Bx (P8 Iv Iv AI (Ai Ms (by rfl) T.len Yx (pC (pv 0) AB)) (By (v:=.int 24) (by rfl) hK ⟨Z⟩))) Bb Aj)
   (pS (sE 1 nd Ro)
   (AG (Ba Yz rfl (V5 (pv 0)) (Hw rfl (gC (gE 2 nd) (gC (gE 3 nd) H_)))
    (pS (Ac (Bx (CF (AY DW GW hr (pC (pv 2) AB)))) Bb Aj)
    (pS (Ac (Iz (RV hu (pv 2) (pv 1))) Bb Aj)
    (pS (Ac (Ax GZ (Ai Ms (by rfl) T.len Yx (pC (pv 3) AB)) (By (v:=.int 8) (by rfl) hU ⟨Z⟩) (Ao _)) Bb Aj)
    (AG (Gi hu (pv 1) (pv 2) Dw rfl)))))))),?_⟩
  exists let b:=AF _ a;let c:=AF _ b;let e:=AF _ c;let f:=B5 _ _ e;let g:=AF _ f;AF _ g _ _ _
  have hvl:=↑hp;have g1:=g.ne;have g2:=g.le;refine⟨Z,_,Z,ZY hl,_,Z,Y,Z,?_⟩;rw[show decide ((1:Int)<=(↑vs:Int))=true from Jb (by omega)];refine Az ⟨_,Z,Y,Z,?_⟩;rw[show(decide ((↑vs:Int)<=24))=true from Jb (by omega)];refine Af ?_;intro d hd;have s0:AA H (upd H d (.dK [])):=λb o e=>by rw[AE (AS e hd)];exact e
  let A8:NW:=λi σ H'=>∃(ν:KL) (a c:OV),σ=[↥(.ref l),↥(.ref d),a,c]/\AA H H'/\H' d≈(.dK ν)/\ν.map (·.1)=(ρ.take i).map λr=>(Sum.inr r.1:Key);refine⟨Z,b,l,vs,Y,hl.mono s0,CH WT A8
   ⟨[],none,none,Y,s0,uS,by simp⟩ (λi σ H' _ h0=>by obtain⟨_,_,_,_,s,_⟩:=h0;exact hl.mono s) ?_ ?_⟩
  ·rintro i v σ H' hi ⟨ν,a,c,rfl,s,hdk,hk⟩;obtain⟨r,Bd,t,u,rfl,ht,hug⟩:=Bk hp hi;obtain⟨b',E9⟩:=hug.sq;have B1:r∈ρ:=Yi Bd;have hw:=g.word r B1;have hwl:=tG hw;refine⟨t,Z,s.tup ht,Y,_,Z,_,Z,Y,?_⟩;refine⟨Z,r.1,Y,O,λH2 s2=>⟨Z,?_⟩⟩;rw[hw];refine Af ?_;have hd2:H2 d≈(.dK ν):=s2 _ _ hdk;refine⟨Z,Z,d,Z,BB.k (k:=Sum.inr r.1) hd2,Z,?_⟩;have Av:(Sum.inr r.1:Key)∉ν.map (·.1):=by rw[hk];exact aD g.nd Bd
   rw[LA Av];refine Af ?_;refine⟨Z,_,Z,ZY (E9.mono (s.trans s2)),_,Z,Y,Z,?_⟩;rw[show decide ((8:Int)<(↑(r.2.map V.str):Int))=false from Jc (by rw[Ya];have:=g.few r B1;omega)];refine Af ?_;have hkl:↑ν=↑(ρ.take i):=by have:=congrArg List.length hk;simpa using this
   have hil:↑(ρ.take i)<=24:=by rw[Yv];omega
   refine⟨Z,Z,d,Z,DS.k (k:=Sum.inr r.1) hd2 (C4 (by omega)),?_⟩;refine⟨_,_,Z,λb o e=>?_,uS,?_⟩
   ·rw[AE (AS e hd)];exact s2 _ _ (s _ _ e)
   ·rw[aA Av,hk,Bz,Bd,Yy];rfl
  ·rintro σ H' ⟨ν,a,c,rfl,s,hdk,hk⟩;exact q H' s
def k_:Ad ["ups_of","ups","seen","up"] ["ups_of"] (AL Wv):=by nofun
def P2{us:LS}{i:Nat}{v:V}(h:(us.map V.str)[i]?≈v):∃ x,us[i]?≈x/\v=.str x:=by
 rw[Yj]at h;obtain⟨x,hx,e⟩:=Fp.mp h;exact⟨x,hx,e.symm⟩
def u5{us:LS}{i:Nat}{x:Str}(nd:us.Nodup)(h:us[i]?≈x):(Sum.inr x:Key)∉(us.take i).map λy=>(Sum.inr y:Key):=by
 intro m;obtain⟨y,hy,e⟩:=Yo.mp m;have e:y=x:=by injection e
 subst e;obtain⟨j,hj,ej⟩:=Xc.mp hy;rw[Yv]at hj;rw[List.getElem_take]at ej;have a:us[j]?≈y:=by rw[Yg (by omega),ej]
 have:=Rm nd a h;omega
def wg(F:Def K mg "check_ups" Wv ["ups_of"] f fd):⋯ 1 f fd ["ups_of"] kL:=by
 nomatch F.fn.ok k_
 ·obtain⟨d,o,ρ,ν,rfl,_⟩:=h;rfl
 ·obtain⟨d,o,ρ,ν,rfl,bk,g,q⟩:=h;have nd:=k_.nd;have hu:=EK hr
  ac_nf
  refine⟨_,AG (Ba Yz rfl (Z2i (pv 0)) (gE 1 nd)
    (pS (sE 2 nd Ro)
    (AG (Ba Yz rfl (Ml (pv 1)) (gE 3 nd)
     (pS (Ac (Iz (Z_ hu (pv 3) (pv 0))) Bb Aj)
     (pS (Ac (Iz (RV hu (pv 3) (pv 2))) Bb Aj)
     (AG (Gi hu (pv 2) (pv 3) Dw rfl)))))))),?_⟩
  exists let b:=AF _ a;let c:=AF _ b;let e:=B5 _ _ c;let f:=AF _ e;B5 _ _ f _ _ _
  let NS:NW:=λi σ H'=>∃(a b c:OV),σ=[↥(.ref d),a,b,c]/\AA H H';refine⟨Z,d,o,ν,Y,bk.at_,CH uv NS ⟨none,none,none,Y,AA.refl H⟩ (λi σ H' _ h0=>by obtain⟨_,_,_,_,s⟩:=h0;exact s _ _ bk.at_) ?_ ?_⟩
  ·rintro i v σ H' hi ⟨a,b,c,rfl,s⟩;rw[Yj]at hi;obtain⟨p,hp,e⟩:=Fp.mp hi;obtain⟨r,Bd,hk,t,ht,htup⟩:=Bk bk.ups hp;have B1:r∈ρ:=Yi Bd;subst e;show EI 1 p.2 _ _ _;rw[ht];intro sd hsd;have s1:AA H (upd H' sd (.dK [])):=λb o e=>by rw[AE (AS (s _ _ e) hsd)];exact s _ _ e
   have t1:(upd H' sd (.dK [])) t≈(.tup (r.2.map V.str)):=s1 _ _ htup;let Iv3:NW:=λj σ H2=>∃(CM:KL) (c:OV),σ=[↥(.ref d),↥(.ref t),↥(.ref sd),c]/\AA H H2/\H2 sd≈(.dK CM)/\CM.map (·.1)=(r.2.take j).map λy=>(Sum.inr y:Key);refine⟨Z,t,Y,⟨_,AJ.of t1⟩,CH (Mv (xs:=r.2.map V.str)) Iv3
    ⟨[],Z,s1,uS,by simp⟩ (λj σ H2 _ h0=>by obtain⟨_,_,_,s,_⟩:=h0;exact AJ.of (s _ _ htup)) ?_ ?_⟩
   ·rintro j v σ H2 hj ⟨CM,c,rfl,s2,Nb,CA⟩;obtain⟨x,hx,rfl⟩:=P2 hj;have xm:x∈r.2:=Yi hx;have known:=g.known r B1 x xm;refine⟨Z,Z,d,Z,BB.f (k:=Sum.inr x) (s2 _ _ bk.at_),Z,?_⟩;obtain⟨r2,Bn,gB⟩:=Yo.mp known;obtain⟨t2,qM,_⟩:=bk.ups.val g.nd Bn;rw[<- gB,qM,gB];refine Af ?_;have Av:(Sum.inr x:Key)∉CM.map (·.1):=by rw[CA];exact u5 (g.upnd r B1) hx
    refine⟨Z,Z,sd,Z,BB.k (k:=Sum.inr x) Nb,Z,?_⟩;rw[LA Av];refine Af ?_;have hkl:↑CM=↑(r.2.take j):=by have:=congrArg List.length CA;simpa using this
    have hjl:↑(r.2.take j)<=8:=by rw[Yv];have:=g.few r B1;omega
    have hsH:H sd=none:=s.free hsd;refine⟨Z,Z,sd,Z,DS.k (k:=Sum.inr x) Nb (C4 (by omega)),_,Z,λb o e=>?_,uS,?_⟩
    ·rw[AE (AS e hsH)];exact s2 _ _ e
    ·rw[aA Av,CA,Bz,hx,Yy];rfl
   ·rintro σ H2 ⟨CM,c,rfl,s2,Nb,CA⟩;exact⟨_,_,Z,s2⟩
  ·rintro σ H' ⟨a,b,c,rfl,s⟩;exact q H' s
def lE:Ad ["words","others","word"] ["words","others"] (AL QH):=by nofun
def so(F:Def K mg "first_among" QH ["words","others"] f fd):⋯ 1 f fd ["words","others"] (iC K):=by
 nomatch F.fn.ok lE
 ·obtain⟨a,b,us,left,rfl,_⟩:=h;rfl
 ·obtain⟨a,b,us,left,rfl,ha,hb,q⟩:=h;have nd:=lE.nd
  ac_nf
  refine⟨_,pS (Ba Yz rfl (Ml (pv 0)) (gE 2 nd) (AG (Ac (Ax uy (pv 2) (pv 1) (by with_unfolding_all rfl)) (AG (Ab (pv 2))) Aj)))
   (AG (Ab Mj)),?_⟩
  exists let b:=_;AF (B5 _ _ b) a _ _ _
  let Iv4:NW:=λi σ H'=>H'=H/\(∃ c:OV,σ=[↥(.ref a),↥(.ref b),c])/\(us.take i).find? (λx=>decide (x∈left))=none;refine⟨Z,a,Y,⟨_,ha⟩,CH (Mv (xs:=us.map V.str)) Iv4 ⟨Y,⟨none,Y⟩,by simp⟩ (λi σ H' _ ⟨e,_⟩=>by rw[e];exact ha) ?_ ?_⟩
  ·rintro i v σ H' hi ⟨rfl,⟨c,rfl⟩,hf⟩;obtain⟨x,hx,rfl⟩:=P2 hi;refine⟨Z,Z,b,Z,.inl hb,Y,t5 left,Z,?_⟩;show if Qx (.str x) (left.map V.str)=true then _ else _
   rw[gX];have split:us=us.take i++x :: us.drop (i + 1):=by
    have A_:=(Yf.mp hx).1;have e:us[i]=x:=(Yf.mp hx).2;rw[<- e,List.getElem_cons_drop A_,List.take_append_drop]
   refine BY (λh=>?_) (λh=>?_)
   ·have fv:Kt us left=.str x:=by
     unfold Kt;rw[split,List.find?_append,hf,IM];simp only[h];rfl
    rw[fv]at q;exact⟨Z,q⟩
   ·refine⟨Y,⟨Z⟩,?_⟩;rw[Bz,hx,List.find?_append,hf];have h':decide (x∈left)=false:=by simpa using h
    simp[h']
  ·rintro σ H' ⟨rfl,⟨c,rfl⟩,hf⟩;rw[Ya,CI]at hf;have fv:Kt us left=.non:=by unfold Kt;rw[hf]
   rw[fv]at q;exact q
def bL(ρ:RS)(ls:LS):V->Bool
 | .str x=>(BU ρ x).any λu=>decide (u∈ls)
 | _=>false
def rA(ρ:RS)(ls:LS):((ls.map V.str).filter (bL ρ ls)).map (λv=>v)=(Graph.kept (BU ρ) ls).map V.str:=by
 rw[Gn,List.filter_map];rfl
def qy(us ls:LS):(!decide (Kt us ls=V.non))=us.any λu=>decide (u∈ls):=by
 unfold Kt;cases e:us.find? λx=>decide (x∈ls)with
 | none =>
  have:∀ x∈us,¬ decide (x∈ls)=true:=List.find?_eq_none.mp e;rw[Gm];constructor
  ·intro h;simp at h
  ·intro h;obtain⟨x,hx,h1⟩:=Ft.mp h;exact absurd h1 (this x hx)
 | some x =>
  have h1:=List.find?_some e;have h2:=List.mem_of_find?_eq_some e;rw[Gm];constructor
  ·intro _;exact Ft.mpr ⟨x,h2,h1⟩
  ·intro _;rfl
abbrev oH:LS:=["ups_of","left","kept"]
def dh:Ad oH ["ups_of"] (AL QC):=by nofun
def y7:(["word","ups_of","left"]:LS).Nodup:=by rfl'
def WV{ρ:RS}{x:Str}(h:x∈ρ.map (·.1)):∃ r∈ρ,r.1=x:=by
 obtain⟨r,hr,e⟩:=Yo.mp h;exact⟨r,hr,e⟩
def vY(F:Def K mg "endless" QC ["ups_of"] f fd)(DF:Def K mg "first_among" QH ["words","others"] fF fdF)(T:QN mg):⋯ 2 f fd ["ups_of"] ja:=by
 have GF:⋯ 1 fF fdF ["words","others"] (iC K):=so DF
 nomatch F.fn.ok dh
 ·obtain⟨d,o,ρ,ν,rfl,_⟩:=h;rfl
 ·obtain⟨d,o,ρ,ν,rfl,bk,g,q⟩:=h;have nd:=dh.nd;have hu:=EK hr
  ac_nf
  refine⟨_,pS (Cc (i:=1) nd rfl (Or.inr rfl) (FI (kr rfl) (by rfl) T.list NO (pC (pv 0) AB)))
   (AG (Z2 Yz (CF Dw)
    (pS (QF (k:=2) ["word"] ["ups_of","left"] [0,1] nd rfl rfl (λ_=>Bs (osc:=AL QC) (on:=oH) (by rfl') rfl rfl rfl) (CT (pv 1)) (λC s H fp=>Bl (i:=0) y7 rfl (Or.inl rfl) (Or.inr rfl))
     (λC s H fp=>WK (Iz (g_ (AY DF GF hr (pC (Kx hu (pv 1) (pv 0) (λ_ _=>rfl)) (pC (pv 2) AB)))))) (λC s H fp=>pv 0))
    (pS (Ac (Ax Bw (Ai Ms (by rfl) T.len Yx (pC (pv 2) AB)) (Ai Ms (by rfl) T.len Yx (pC (pv 1) AB)) (Ao _)) (AG (Ab (pv 2))) Aj)
    (AG (Cc (i:=1) nd rfl (Or.inr rfl) (pv 2))))))),?_⟩
  exists let b:=AF _ a;let c:=AF _ b;let e:=ZN _ c;AF _ e _ _ _
  have wl:↑(ρ.map (·.1))<=24:=by rw[Ya];exact g.le
  refine⟨Z,d,ν,Y,.inr ⟨o,bk.at_⟩,λl0 B3=>?_⟩;let FL:NW:=λm σ H'=>∃(ll:χ) (ls:LS) (c:OV),σ=[↥(.ref d),↥(.ref ll),c]/\AA H H'/\H' ll≈(.lst (ls.map V.str))/\(∀ x∈ls,x∈ρ.map (·.1))/\↑ls<=24/\m=↑ls;refine⟨FL,
   ⟨_,l0,ρ.map (·.1),none,Y,λb o e=>by rw[AE (AS e B3)];exact e,by rw[uS,mF bk.ups],λx h=>h,wl,Y⟩,?_⟩
  rintro m σ H' ⟨ll,ls,c,rfl,s1,hll,hsub,Pl,rfl⟩;refine⟨true,Y,?_⟩;let Sq:SW:=λσ' H2=>∃ m',m'<↑ls/\∃(ll:χ) (ls:LS) (c:OV),σ'=[↥(.ref d),↥(.ref ll),c]/\AA H H2/\H2 ll≈(.lst (ls.map V.str))/\(∀ x∈ls,x∈ρ.map (·.1))/\↑ls<=24/\m'=↑ls;refine Az ⟨Sq,λ_ _ h=>h,?_⟩;refine⟨Z,ll,Y,⟨_,AD.of hll⟩,Z6 (DV (xs:=ls.map V.str)) (sL (by rw[Ya];omega)) (bL ρ ls) (λv=>v) (λD ys hD=>AD.of (by rw[AE (AS hll hD)];exact hll)) ?_ ?_ ?_⟩
  ·intro D ys v R hD hv hR;obtain⟨x,hx,rfl⟩:=Yo.mp hv;obtain⟨r,Bd,rfl⟩:=WV (hsub x hx);obtain⟨t,hvt,ht⟩:=bk.ups.val g.nd Bd;have kp:∀ b o,H b≈o->(upd H' D (.lst ys)) b≈o:=λb o e=>by rw[AE (AS (s1 _ _ e) hD)];exact s1 _ _ e
   refine⟨Z,Z,d,Z,(by rw[<- hvt];exact BB.f (k:=Sum.inr r.1) (kp _ _ bk.at_)),Z,t,ll,r.2,ls,Y,AJ.of (kp _ _ ht),AD.of (by rw[AE (AS hll hD)];exact hll),Z,?_⟩;have e:(!decide (Kt r.2 ls=V.non))=bL ρ ls (V.str r.1):=by
    rw[qy];show _=(BU ρ r.1).any _;rw[Z0 g.nd Bd]
   rw[e];exact hR
  ·intro D ys v R hD hv _ hR;exact⟨Z,hR⟩
  ·intro D hD;rw[rA];have hDl:(upd H' D (.lst ((Graph.kept (BU ρ) ls).map V.str))) ll≈(.lst (ls.map V.str)):=by rw[AE (AS hll hD)];exact hll
   have s2:AA H (upd H' D (.lst ((Graph.kept (BU ρ) ls).map V.str))):=λb o e=>by rw[AE (AS (s1 _ _ e) hD)];exact s1 _ _ e
   refine⟨Z,_,Z,.inl ⟨_,AD.of uS,Y⟩,Z,_,Z,.inl ⟨_,AD.of hDl,Y⟩,Y,Z,?_⟩;have kle:=Graph.kept_le (BU ρ) ls;refine BY (λh=>?_) (λh=>?_)
   ·have h:↑(Graph.kept (BU ρ) ls)=↑ls:=by
     have:=Je h;injection this with this;rw[Ya,Ya]at this;omega
    obtain⟨rk,hrk⟩:=g.rank;have nil:ls=[]:=Graph.kept_nil (rk:=rk) (λa ha b hb=>by
     obtain⟨r,Bd,rfl⟩:=WV (hsub a ha);rw[Z0 g.nd Bd]at hb;exact hrk r Bd b hb) h
    have kn:Graph.kept (BU ρ) ls=[]:=by rw[nil];rfl
    refine⟨Z,q D _ s2 ?_⟩;rw[uS,kn];rfl
   ·have h:↑(Graph.kept (BU ρ) ls)≠↑ls:=λz=>h (Jb (by rw[Ya,Ya,z]));exact⟨Z,_,O,D,_,Z,s2,uS,λx hx=>hsub x (Graph.kept_sub hx),O,Y⟩
def dZ:Ad ["ups_of","left","way","here"] ["ups_of"] (AL Ww):=by nofun
def Z2w(F:Def K mg "find_ring" Ww ["ups_of"] f fd)(DE:Def K mg "endless" QC ["ups_of"] fE fdE)(DF:Def K mg "first_among" QH ["words","others"] fF fdF)(T:QN mg):⋯ 3 f fd ["ups_of"] nM:=by
 have GE:⋯ 2 fE fdE ["ups_of"] ja:=vY DE DF T
 nomatch F.fn.ok dZ
 ·obtain⟨d,o,ρ,ν,rfl,_⟩:=h;rfl
 ·obtain⟨d,o,ρ,ν,rfl,bk,g,q⟩:=h;have nd:=dZ.nd
  ac_nf
  refine⟨_,pS (sE 1 nd (AY DE GE hr (pC (pv 0) AB)))
   (pS (Ac (Bx (Z3 (pv 1) (λ_=>rfl))) (AG (Ab Mj)) Aj) Bb),?_⟩
  exists let b:=AF _ a;AF _ b _ _ _
  refine⟨Z,d,o,ρ,ν,Y,bk,g,λl H' s1 hl=>?_⟩;exact⟨Z,false,.inl ⟨[],AD.of hl,Y⟩,Az (q H' s1)⟩
def Qy(x:Str):Key:=Sum.inr x
def gy:Sp:=λvs H Q _=>∃(d:χ) (o:Obj) (ρ:RS) (ν:KL) (x:Str),vs=[.ref d,.str x]/\Ht H d o ρ ν/\Ah ρ/\x∈ρ.map (·.1) /\
 ∀ a o' fk H',H a=none->AA H H'->H' a≈(.frz o' (.dK fk))->(∀ y,(Sum.inr y:Key)∈fk.map (·.1)↔Graph.Reach (BU ρ) x y)->Q (.ref a) H'
structure bE(ρ:RS)(x:Str)(fs ws:LS):Prop where
 start:x∈fs
 sub:∀ y∈ws,y∈fs
 known:∀ y∈fs,y∈ρ.map (·.1)
 nd:fs.Nodup
 reach:∀ y∈fs,Graph.Reach (BU ρ) x y
 closed:∀ y∈fs,y∉ws->∀ u∈BU ρ y,u∈fs
 few:↑ws<=↑fs
def dj:Ad ["ups_of","word","found","waiting","here","up"] ["ups_of","word"] (AL Wu):=by nofun
def aF{fk:KL}{fs:LS}(h:fk.map (·.1)=fs.map Qy)(y:Str):(Sum.inr y:Key)∈fk.map (·.1)↔y∈fs:=by
 rw[h];constructor
 ·intro m;obtain⟨z,hz,e⟩:=Yo.mp m;have e:z=y:=by
   unfold Qy at e;injection e
  rw[<- e];exact hz
 ·intro m;exact Yo.mpr ⟨y,m,Y⟩
def aU{fk:KL}{k:Key}(h:k∈fk.map (·.1)):(A0 fk k).isSome=true:=by
 cases e:A0 fk k with
 | none=>exact absurd h (tD e)
 | some v=>rfl
def sX(F:Def K mg "all_above" Wu ["ups_of","word"] f fd):⋯ 1 f fd ["ups_of","word"] gy:=by
 nomatch F.fn.ok dj
 ·obtain⟨d,o,ρ,ν,x,rfl,_⟩:=h;rfl
 ·obtain⟨d,o,ρ,ν,x,rfl,bk,g,hx,q⟩:=h;have nd:=dj.nd;have hu:=EK hr
  ac_nf
  refine⟨_,pS (sE 2 nd (Z2o (sM (pv 1) Dw Z2g) rfl rfl (by simp) (by show 1<=15;decide)))
   (pS (sE 3 nd (C1 (pC (pv 1) AB)))
   (pS (Z2 Yz (Z3 (pv 3) (λ_=>rfl))
    (pS (sE 4 nd (mw Gq PySem.F.slot_list_pop PySem.F.type_list_pop nQ (pv 3)))
    (AG (Ba Yz rfl (Ml (Kx hu (pv 0) (pv 4) (λ_ _=>rfl))) (gE 5 nd)
     (AG (Ac (Iz (Z_ hu (pv 5) (pv 2))) (pS (Gi hu (pv 2) (pv 5) Dw rfl)
      (AG (A7 (Iw Gq Sb Sa QB (pv 3) (pC (pv 5) AB))))) Aj))))))
   (Zb (AG (Ab (pv 2)))))),?_⟩
  exists let b:=_;let c:=AF _ b;let e:=Bp _ c _;let f:=B5 _ _ e;let g:=AF _ f;let h:=AF (ZN _ g) a;let i:=AF _ h;AF _ i _ _ _
  intro fa hfa;refine⟨Z,uS,[(Sum.inr x,.bl true)],Y,(by show 1<=15;decide),?_⟩;rw[WI];refine⟨Z,Q,λwa hwa=>?_⟩;have fw:fa≠wa:=AS uS hwa;have hwaH:H wa=none:=by
   cases e:H wa with
   | none=>rfl
   | some u=>rw[AE (Ae fw),e]at hwa;cases hwa
  have bound:∀ {fs ws:LS},bE ρ x fs ws->↑fs<=↑ρ:=λ{fs ws} h=>by
   have:=Graph.nodup_le h.nd h.known
   rwa [Ya]at this
  have gle:=g.le;let So:NW:=λm σ H'=>∃(fs ws:LS) (fk:KL) (a b:OV),σ=[↥(.ref d),↥(.str x),↥(.ref fa),↥(.ref wa),a,b]/\AA H H'/\H' fa≈(.dK fk)/\fk.map (·.1)=fs.map Qy/\H' wa≈(.lst (ws.map V.str))/\bE ρ x fs ws/\m + 2 * ↑fs=2 * ↑ρ + ↑ws;refine⟨So,
   ⟨2 * ↑ρ - 1,[x],[x],[(Sum.inr x,.bl true)],none,none,Y,λb o e=>by rw[AE (AS e hwaH),AE (AS e hfa)];exact e,by rw[AE fw];exact uS,Y,uS,
    ⟨by simp,λy h=>h,λy h=>by rw[Ym.mp h];exact hx,by simp,λy h=>by rw[Ym.mp h];exact .refl x,λy h n=>absurd h n,Yd _⟩,by have:=g.ne;simp;omega⟩,?_⟩
  rintro m σ H' ⟨fs,ws,fk,a,b,rfl,s1,hf,hk,hw,go,hm⟩;have flen:=bound go;refine⟨Z,_,.inl ⟨_,AD.of hw,Y⟩,?_⟩;refine BY (λDn=>?_) (λDn=>?_)
  ·-- here=waiting.pop()
   have wne:ws≠[]:=by
    intro z;rw[z]at Dn;cases Dn
   have hpos:0<↑ws:=List.length_pos_iff.mpr wne;have split:ws=ws.dropLast++[ws.getLast wne]:=(List.dropLast_concat_getLast wne).symm;generalize hhere:ws.getLast wne=here at split;have B1:here∈ws:=by rw[split];simp
   have hfs:here∈fs:=go.sub here B1;obtain⟨r,Bd,er⟩:=WV (go.known here hfs);obtain⟨t,hvt,ht⟩:=bk.ups.val g.nd Bd;have last:(ws.map V.str)[↑(ws.map V.str) - 1]?≈(V.str here):=by
    rw[Yj,Ya];have:ws[↑ws - 1]?≈here:=by
     rw[<- hhere,List.getLast_eq_getElem,Yg (by omega)]
    rw[this];rfl
   let bw:SW:=λσ' H2=>∃ m',m'<m/\∃(fs ws:LS) (fk:KL) (a b:OV),σ'=[↥(.ref d),↥(.str x),↥(.ref fa),↥(.ref wa),a,b]/\AA H H2/\H2 fa≈(.dK fk)/\fk.map (·.1)=fs.map Qy/\H2 wa≈(.lst (ws.map V.str))/\bE ρ x fs ws/\m' + 2 * ↑fs=2 * ↑ρ + ↑ws;refine⟨bw,λ_ _ h=>h,?_⟩;refine⟨Z,.inl ⟨Y,_,AD.of hw⟩,wa,_,Z,Y,hw,last,?_⟩;have s2:AA H (upd H' wa (.lst (ws.map V.str).dropLast)):=λb o e=>by rw[AE (AS e hwaH)];exact s1 _ _ e
   refine⟨Z,Z,d,Z,(by rw[<- hvt,er];exact BB.f (k:=Sum.inr here) (s2 _ _ bk.at_)),t,Y,⟨_,AJ.of (s2 _ _ ht)⟩,?_⟩;have uo:BU ρ here=r.2:=by rw[<- er];exact Z0 g.nd Bd
   refine CH (Mv (xs:=r.2.map V.str)) (λj σ H2=>∃(B4 EG:LS) (DQ:KL) (b:OV),σ=[↥(.ref d),↥(.str x),↥(.ref fa),↥(.ref wa),↥(.str here),b]/\AA H H2/\H2 fa≈(.dK DQ)/\DQ.map (·.1)=B4.map Qy/\H2 wa≈(.lst (EG.map V.str)) /\
    (∀ y∈fs,y∈B4)/\(∀ y∈ws.dropLast,y∈EG)/\(∀ y∈EG,y∈B4)/\(∀ y∈B4,y∈ρ.map (·.1))/\B4.Nodup/\(∀ y∈B4,Graph.Reach (BU ρ) x y)/\(∀ y∈B4,y∈fs\/y∈EG)/\(∀ u∈r.2.take j,u∈B4)/\↑EG + 2 * ↑fs + ↑B4<=↑ws.dropLast + 2 * ↑B4 + ↑fs)
    ⟨fs,ws.dropLast,fk,Z,s2,by rw[AE fw];exact hf,hk,by rw[uS,List.map_dropLast],λy h=>h,λy h=>h,λy h=>go.sub y ((List.dropLast_sublist ws).subset h),go.known,go.nd,go.reach,λy h=>.inl h,λu h=>by simp at h,O⟩ (λj σ H2 _ h0=>by obtain⟨_,_,_,_,_,s,_⟩:=h0;exact AJ.of (s _ _ ht)) ?_ ?_
   ·rintro j v σ H2 hj ⟨B4,EG,DQ,b,rfl,s3,RD,MR,Cs,c1,c2,c3,c4,c5,c6,c7,c8,c9⟩;obtain⟨u,E9,rfl⟩:=P2 hj;have um:u∈r.2:=Yi E9;have qj:↑B4<=↑ρ:=by
     have:=Graph.nodup_le c5 c4
     rwa [Ya]at this
    have kl:↑DQ=↑B4:=by have:=congrArg List.length MR;simpa using this
    refine⟨Z,Z,fa,Z,BB.k (k:=Sum.inr u) RD,Z,?_⟩;have dl:↑ws.dropLast=↑ws - 1:=Xd;have gf:=go.few;by_cases nin:u∉B4
    ·have nk:(Sum.inr u:Key)∉DQ.map (·.1):=λz=>nin ((aF MR u).mp z);have wl3:↑EG<=↑ρ * 3:=by omega
     rw[LA nk];refine Az ?_;refine⟨Z,Z,fa,Z,DS.k (k:=Sum.inr u) RD (C4 (by omega)),?_⟩;have FU:(upd H2 fa (.dK (BD DQ (Sum.inr u) (.bl true)))) wa≈(.lst (EG.map V.str)):=by rw[AE (Ae fw)];exact Cs
     refine⟨Z,.inl ⟨Y,_,AD.of FU⟩,Z,wa,_,Z,Y,FU,C4 (by rw[Ya];omega),?_⟩;refine⟨B4++[u],EG++[u],BD DQ (Sum.inr u) (.bl true),Z,λb o e=>by rw[AE (AS e hwaH),AE (AS e hfa)];exact s3 _ _ e,by rw[AE fw];exact uS,?_,by rw[uS,Yy];rfl,λy h=>LQ _ (c1 y h),λy h=>LQ _ (c2 y h),λy h=>?_,λy h=>?_,?_,λy h=>?_,λy h=>?_,λy h=>?_,?_⟩
     ·rw[aA nk,MR,Yy];rfl
     ·rcases Yr.mp h with h | h
      ·exact LQ _ (c3 y h)
      ·exact FJ _ h
     ·rcases Yr.mp h with h | h
      ·exact c4 y h
      ·rw[Ym.mp h];exact g.known r Bd u um
     ·rw[List.nodup_append];exact⟨c5,by simp,λa ha b hb e=>nin (by rw[<- Ym.mp hb,<- e];exact ha)⟩
     ·rcases Yr.mp h with h | h
      ·exact c6 y h
      ·rw[Ym.mp h];exact(go.reach here hfs).snoc (by rw[uo];exact um)
     ·rcases Yr.mp h with h | h
      ·rcases c7 y h with h | h
       ·exact .inl h
       ·exact .inr (LQ _ h)
      ·exact .inr (FJ _ h)
     ·rw[Bz,E9]at h
      rcases Yr.mp h with h | h
      ·exact LQ _ (c8 y h)
      ·have:y=u:=by simpa using h
       rw[this];exact FJ _ (by simp)
     ·rw[Yu,Yu];simp only[Xg];omega
    ·have yin:u∈B4:=bc nin;rw[aU ((aF MR u).mpr yin)];refine Af ?_;refine⟨B4,EG,DQ,Z,s3,RD,MR,Cs,c1,c2,c3,c4,c5,c6,c7,λy h=>?_,c9⟩;rw[Bz,E9]at h
     rcases Yr.mp h with h | h
     ·exact c8 y h
     ·have:y=u:=by simpa using h
      rw[this];exact yin
   ·rintro σ H2 ⟨B4,EG,DQ,b,rfl,s3,RD,MR,Cs,c1,c2,c3,c4,c5,c6,c7,c8,c9⟩;rw[Ya,CI]at c8;have qj:↑B4<=↑ρ:=by
     have:=Graph.nodup_le c5 c4
     rwa [Ya]at this
    have dl:↑ws.dropLast=↑ws - 1:=Xd;have fle:↑fs<=↑B4:=Graph.nodup_le go.nd c1;have gf:=go.few;refine⟨2 * ↑ρ + ↑EG - 2 * ↑B4,O,B4,EG,DQ,_,Z,s3,RD,MR,Cs,⟨c1 x go.start,c3,c4,c5,c6,λy hy hn u E9=>?_,O⟩,O⟩
    rcases c7 y hy with Hg | Hg
    ·by_cases yh:y=here
     ·rw[yh,uo]at E9;exact c8 u E9
     ·have nw:y∉ws:=λz=>by
       rw[split]at z
       rcases Yr.mp z with z | z
       ·exact hn (c2 y z)
       ·exact yh (Ym.mp z)
      exact c1 u (go.closed y Hg nw u E9)
    ·exact absurd Hg hn
  ·have wnil:ws=[]:=by
    cases ws with
    | nil=>rfl
    | cons y r=>exact absurd rfl Dn
   refine⟨fa,fk,hf,λo'=>⟨Z,q fa o' fk _ hfa (λb o e=>by rw[AE (AS e hfa)];exact s1 _ _ e) uS λy=>?_⟩⟩;rw[aF hk y];constructor
   ·exact λh=>go.reach y h
   ·intro h;refine Graph.closed_reach (S:=λy=>y∈fs) (λy hy u E9=>go.closed y hy (by rw[wnil];simp) u E9) h go.start
def qi:¬ (("ups_of":Str)="above_of"):=by rfl'
def Fb(d a:χ):List (Str×V):=BZ "above_of" (.ref a) (BZ "ups_of" (.ref d) [])
def nO(d a:χ):(Fb d a).lookup ("ups_of":Str)≈(.ref d):=by
 unfold Fb;rw[EA,if_neg qi,EA,if_pos rfl]
def yu(d a:χ):(Fb d a).lookup ("above_of":Str)≈(.ref a):=by
 unfold Fb;rw[EA,if_pos rfl]
def WC(d a:χ){m:Str}(h1:¬ m="above_of")(h2:¬ m="ups_of"):(Fb d a).lookup m=none:=by
 unfold Fb;rw[EA,if_neg h1,EA,if_neg h2];rfl
def Gf(H:Hp)(all ρ:RS)(A4:KL):Prop :=
 Paired (λr (p:Key×V)=>p.1=Sum.inr r.1/\∃ t o' fk,p.2=.ref t/\H t≈(.frz o' (.dK fk))/\∀ y,(Sum.inr y:Key)∈fk.map (·.1)↔Graph.Reach (BU all) r.1 y) ρ A4
def Gf.mono{H H':Hp}{all ρ:RS}{A4:KL}(h:Gf H all ρ A4)(s:∀ b o' fk,H b≈(.frz o' (.dK fk))->H' b≈(.frz o' (.dK fk))):Gf H' all ρ A4 :=
 Paired.mapP h λ_ _ z=>⟨z.1,let⟨t,o',fk,e,x,y⟩:=z.2;⟨t,o',fk,e,s _ _ _ x,y⟩⟩
theorem Gf.keys:∀ {H:Hp}{all ρ:RS}{ν:KL},Gf H all ρ ν->ν.map (·.1)=ρ.map λr=>(Sum.inr r.1:Key)
 | _,_,_,_,.nil=>rfl
 | _,_,_,_,.cons r t=>by rw[Ys,Ys,r.1,Gf.keys t]
theorem Gf.val:∀ {H:Hp}{all ρ:RS}{ν:KL},Gf H all ρ ν->(ρ.map (·.1)).Nodup->∀ {r:Str×LS},r∈ρ->∃ t o' fk,A0 ν (Sum.inr r.1)≈(.ref t)/\H t≈(.frz o' (.dK fk))/\∀ y,(Sum.inr y:Key)∈fk.map (·.1)↔Graph.Reach (BU all) r.1 y
 | _,_,_,_,.nil,_,r,h=>nomatch h
 | _,_,q :: rs,p :: ps,.cons z t,nd,r,h=>by
  have Ib:(q.1 :: rs.map (·.1)).Nodup:=nd;obtain⟨n1,n2⟩:=Fs.mp Ib;obtain⟨z1,u,o',fk,z2,z3,z4⟩:=z
  rcases Bj.mp h with e | h
  ·subst e;exact⟨u,o',fk,by rw[JE z1,z2],z3,z4⟩
  ·have ne:¬ p.1=(Sum.inr r.1:Key):=λe=>n1 (by
    rw[z1]at e;have e':q.1=r.1:=by injection e
    rw[e'];exact Yo.mpr ⟨r,h,Y⟩)
   obtain⟨u',MG,DQ,h1,h2⟩:=Gf.val t n2 h;exact⟨u',MG,DQ,by rw[JD ne];exact h1,h2⟩
structure CS(C:χ)(H:Hp)(p:χ)(ρ:RS):Prop where
 ex:∃(dx d a:χ) (o oa:Obj) (ν A4:KL),H p≈(.ins C dx (Fb d a))/\Ht H d o ρ ν/\H a≈(.frz oa (.dK A4))/\Gf H ρ ρ A4
theorem CS.mono{C:χ}{H H':Hp}{p:χ}{ρ:RS}(h:CS C H p ρ)(s:AA H H'):CS C H' p ρ:=by
 obtain⟨dx,d,a,o,oa,ν,A4,h1,h2,h3,h4⟩:=h.ex;exact⟨dx,d,a,o,oa,ν,A4,s _ _ h1,h2.mono s,s _ _ h3,h4.mono λ_ _ _ e=>s _ _ e⟩
structure Be(K:Fg)(C:χ):Prop where
 cl:Fw K C
 nU:Gh K C "ups_of"
 nA:Gh K C "above_of"
structure F_(K:Fg)(C:χ)(m qual:Str)(st:Stmt)(ps:LS)(f:χ)(fd:FuncData):Prop where
 fn:BW K m qual st f fd
 b:CC K fd ps []
 me:XA K C m f
def ZO(K:Fg)(C:χ):Sp:=λvs H Q _=>∃(p dx l:χ) (ρ:RS),vs=[.ref p,.ref l]/\H p≈(.ins C dx [])/\bM K H l ρ/\Ah ρ /\
 ∀ H',CS C H' p ρ->(∀ b o,b≠p->H b≈o->H' b≈o)->Q .non H'
def Ze(C:χ):Sp:=λvs H Q _=>∃(p:χ) (ρ:RS) (x:Str),vs=[.ref p,.str x]/\CS C H p ρ/\Ah ρ/\x∈ρ.map (·.1)/\Q .non H
def V0(C:χ):Sp:=λvs H Q _=>∃(p:χ) (ρ:RS) (x:Str),vs=[.ref p,.str x]/\CS C H p ρ/\Ah ρ/\Q (.bl (decide (x∈ρ.map (·.1)))) H
def D8(C:χ):Sp:=λvs H Q _=>∃(p:χ) (ρ:RS),vs=[.ref p]/\CS C H p ρ/\Ah ρ/\∀ l,H l=none->Q (.ref l) (upd H l (.lst ((ρ.map (·.1)).map V.str)))
def Mm(ρ:RS)(x y:Str):Bool:=@decide (Graph.Reach (BU ρ) x y) (Classical.propDecidable _)
def iF(C:χ):Sp:=λvs H Q _=>∃(p:χ) (ρ:RS) (x y:Str),vs=[.ref p,.str x,.str y]/\CS C H p ρ/\Ah ρ/\x∈ρ.map (·.1)/\y∈ρ.map (·.1)/\Q (.bl (Mm ρ x y)) H
def de:Ad ["self","rows","ups_of","word","ups","ring","above_of"] ["self","rows"] (AL ae):=by nofun
def Z2z(F:BW K "__init__" "Kinds.__init__" ae f fd)(T:QN mg)(TC:Be K C)(D1:Def K mg "check_rows" Wt ["rows"] f1 d1)(D2:Def K mg "is_word" P_ ["text"] f2 d2)
  (D3:Def K mg "check_ups" Wv ["ups_of"] f3 d3) (D4:Def K mg "find_ring" Ww ["ups_of"] f4 d4) (D5:Def K mg "endless" QC ["ups_of"] f5 d5) (D6:Def K mg "first_among" QH ["words","others"] f6 d6) (D7:Def K mg "all_above" Wu ["ups_of","word"] f7 d7):
  ⋯ 4 f fd ["self","rows"] (ZO K C):=by
 have G1:⋯ 2 f1 d1 ["rows"] (kR K):=xE D1 D2 T;have G3:⋯ 1 f3 d3 ["ups_of"] kL:=wg D3;have G4:⋯ 3 f4 d4 ["ups_of"] nM:=Z2w D4 D5 D6 T;have G7:⋯ 1 f7 d7 ["ups_of","word"] gy:=sX D7
 nomatch F.ok de
 ·obtain⟨p,dx,l,ρ,rfl,_⟩:=h;rfl
 ·obtain⟨p,dx,l,ρ,rfl,hp,hR,g,q⟩:=h;have nd:=de.nd;have hu:=EK hr;have AM:AX 1 _:=hr.mono (by decide);have Bn:AX 2 _:=hr.mono (by decide)
  ac_nf
  refine⟨_,pS (A7 (AY D1 G1 Bn (pC (pv 1) AB)))
   (pS (sE 2 nd Ro)
   (pS (Ba Yz rfl (V5 (pv 1)) (Hw rfl (gC (gE 3 nd) (gC (gE 4 nd) H_)))
    (AG (Gi hu (pv 2) (pv 3) (FI LG (by rfl) T.tuple LZ (pC (pv 4) AB)) rfl)))
   (Zb (pS (A7 (AY D3 G3 AM (pC (pv 2) AB)))
   (pS (sE 5 nd (AY D4 G4 hr (pC (pv 2) AB)))
   (pS (Ac (Iz (g_ (pv 5))) Bb Aj)
   (pS (sE 6 nd Ro)
   (pS (Ba Yz rfl (Z2j (pv 2)) (gE 3 nd) (AG (Gi hu (pv 6) (pv 3) (AY D7 G7 AM (pC (pv 2) (pC (pv 3) AB))) rfl)))
   (Zb (pS (RY (pv 0) (pv 2) rfl) (AG (RY (pv 0) (pv 6) rfl)))))))))))),?_⟩
  exists let b:=_;let c:=AF (B5 _ _ b) a;let e:=AF _ c;AF _ e _ _ _
  refine⟨Z,l,ρ,Y,hR,g,λH1 s1=>?_⟩;intro d hd;have s2:AA H (upd H1 d (.dK [])):=λb o e=>by rw[AE (AS (s1 _ _ e) hd)];exact s1 _ _ e
  obtain⟨b,vs,hl,hpr⟩:=hR;let A8:NW:=λi σ H'=>∃(ν:KL) (a c:OV),σ=[↥(.ref p),↥(.ref l),↥(.ref d),a,c,none,none]/\AA H H'/\H' d≈(.dK ν)/\El H' (ρ.take i) ν;refine⟨Z,b,l,vs,Y,hl.mono s2,CH WT A8
   ⟨[],none,none,Y,s2,uS,by rw[EX];exact .nil⟩ (λi σ H' _ h0=>by obtain⟨_,_,_,_,s,_⟩:=h0;exact hl.mono s) ?_ ?_⟩
  ·rintro i v σ H' hi ⟨ν,a,c,rfl,s3,hdk,hU⟩;obtain⟨r,Bd,t,u,rfl,ht,hug⟩:=Bk hpr hi;have dH:H d=none:=s1.free hd;refine⟨t,Z,s3.tup ht,Y,_,Z,_,Z,Y,?_⟩;have Av:(Sum.inr r.1:Key)∉ν.map (·.1):=by rw[hU.keys];exact aD g.nd Bd
   have hil:↑(ρ.take i)<=24:=by rw[Yv];have:=g.le;omega
   have hkl:↑ν=↑(ρ.take i):=(BO hU).symm;have fin:∀(t2:χ) (H2:Hp),AA H' H2->H2 t2≈(.tup (r.2.map V.str))->∃(CM:KL) (a c:OV),[↥(V.ref p),↥(V.ref l),↥(V.ref d),↥(V.str r.1),↥(V.ref u),none,none]=[↥(V.ref p),↥(V.ref l),↥(V.ref d),a,c,none,none]/\AA H (upd H2 d (.dK (BD ν (Sum.inr r.1) (.ref t2)))) /\
     (upd H2 d (.dK (BD ν (Sum.inr r.1) (.ref t2)))) d≈(.dK CM)/\El (upd H2 d (.dK (BD ν (Sum.inr r.1) (.ref t2)))) (ρ.take (i + 1)) CM:=λt2 H2 s4 BL=>by
    have d2:=s4 _ _ hdk;have tk:∀ b xs,H2 b≈(.tup xs)->(upd H2 d (.dK (BD ν (Sum.inr r.1) (.ref t2)))) b≈(.tup xs):=λb xs e=>by
     rw[AE (λz=>by rw[z,d2]at e;cases e)];exact e
    refine⟨_,_,Z,λb o e=>by rw[AE (AS e dH)];exact s4 _ _ (s3 _ _ e),uS,?_⟩;have sn:El (upd H2 d (.dK (BD ν (Sum.inr r.1) (.ref t2)))) (ρ.take i++[r]) (ν++[(Sum.inr r.1,V.ref t2)]):=IJ ((hU.mono λb xs e=>s4 _ _ e).mono tk) ⟨Y,t2,Y,tk t2 _ BL⟩;rw[<- Mu _ (LA Av)]at sn;rw[Bz,Bd];exact sn
   rcases hug with hug | hug
   ·refine⟨Z,u,Z,.inr ⟨AJ.of (s3 _ _ hug),Z,Z,d,Z,DS.k (k:=Sum.inr r.1) hdk (C4 (by omega)),fin u H' (AA.refl _) (s3 _ _ hug)⟩⟩
   ·refine⟨Z,u,Z,.inl ⟨s3.seq hug,λt2 BL=>?_⟩⟩;have s4:AA H' (upd H' t2 (.tup (r.2.map V.str))):=λb o e=>by rw[AE (AS e BL)];exact e
    exact⟨Z,Z,d,Z,DS.k (k:=Sum.inr r.1) (s4 _ _ hdk) (C4 (by omega)),fin t2 _ s4 uS⟩
  ·rintro σ H2 ⟨ν,a,c,rfl,s3,hdk,hU⟩;have hvl:=↑hpr;rw[<- hvl,CI]at hU;refine⟨d,ν,hdk,λo=>?_⟩;have dH:H d=none:=s1.free hd;have s4:AA H (upd H2 d (.frz o (.dK ν))):=λb u e=>by rw[AE (AS e dH)];exact s3 _ _ e
   have bk:Ht (upd H2 d (.frz o (.dK ν))) d o ρ ν:=⟨uS,hU.mono λb xs e=>by rw[AE (λz=>by rw[z,hdk]at e;cases e)];exact e⟩;refine⟨Z,d,o,ρ,ν,Y,bk,g,λH5 s5=>?_⟩;refine⟨Z,d,o,ρ,ν,Y,bk.mono s5,g,λH6 s6=>?_⟩;refine⟨Z,Z,Af ?_⟩;have E8:=s5.trans s6;have gK:=bk.mono E8;have s7:AA H H6:=s4.trans E8;intro aa Vj;have s8:AA H (upd H6 aa (.dK [])):=λb u e=>by rw[AE (AS (s7 _ _ e) Vj)];exact s7 _ _ e
   have Pa:AA H6 (upd H6 aa (.dK [])):=λb u e=>by rw[AE (AS e Vj)];exact e
   let NS:NW:=λi σ H'=>∃(A4:KL) (a b c:OV),σ=[↥(.ref p),↥(.ref l),↥(.ref d),a,b,c,↥(.ref aa)]/\AA H H'/\Ht H' d o ρ ν/\H' aa≈(.dK A4)/\Gf H' ρ (ρ.take i) A4;refine⟨Z,d,o,ν,Y,(gK.mono Pa).at_,CH uq NS
    ⟨[],_,_,Z,s8,gK.mono Pa,uS,by rw[EX];exact .nil⟩ (λi σ H' _ h0=>by obtain⟨_,_,_,_,_,_,b,_⟩:=h0;exact b.at_) ?_ ?_⟩
   ·rintro i v σ H' hi ⟨A4,a,b,c,rfl,s9,Hl,Eb,hA⟩;rw[Yj]at hi;obtain⟨pr,cT,e⟩:=Fp.mp hi;obtain⟨r,Bd,hk,_⟩:=Bk Hl.ups cT;have B1:r∈ρ:=Yi Bd;have ev:v=.str r.1:=by rw[<- e,hk];rfl
    subst ev;have aaH:H aa=none:=s7.free Vj;refine⟨Z,Z,d,o,ρ,ν,r.1,Y,Hl,g,Yo.mpr ⟨r,B1,Y⟩,λx o' fk Ce hx Dl hxk hreach=>?_⟩;have Av:(Sum.inr r.1:Key)∉A4.map (·.1):=by rw[hA.keys];exact aD g.nd Bd
    have hil:↑(ρ.take i)<=24:=by rw[Yv];have:=g.le;omega
    have hkl:↑A4=↑(ρ.take i):=(BO hA).symm;have Nq:=Dl _ _ Eb;refine⟨Z,Z,aa,Z,DS.k (k:=Sum.inr r.1) Nq (C4 (by omega)),?_⟩;have kp:∀ b u,b≠aa->Ce b≈u->(upd Ce aa (.dK (BD A4 (Sum.inr r.1) (.ref x)))) b≈u:=λb u hb e=>by rw[AE hb];exact e
    refine⟨_,_,_,Z,λb u e=>kp b u (AS e aaH) (Dl _ _ (s9 _ _ e)),⟨kp _ _ (λz=>?_) (Dl _ _ Hl.at_),(Hl.ups.mono λb xs e=>Dl _ _ e).mono λb xs e=>kp _ _ (λz=>by rw[z,Nq]at e;cases e) e⟩,uS,?_⟩
    ·have:=Hl.at_;rw[z,Eb]at this;cases this
    ·rw[Mu _ (LA Av),Bz,Bd];have fz:∀ b MG DQ,Ce b≈(.frz MG (.dK DQ))->(upd Ce aa (.dK (A4++[(Sum.inr r.1,V.ref x)]))) b≈(.frz MG (.dK DQ)):=λb MG DQ e=>by rw[AE (λz=>by rw[z,Nq]at e;cases e)];exact e
     exact IJ ((hA.mono λb MG DQ e=>Dl _ _ e).mono fz) ⟨Y,x,o',fk,Y,fz _ _ _ hxk,hreach⟩
   ·rintro σ H' ⟨A4,a,b,c,rfl,s9,Hl,Eb,hA⟩;have hkv:↑ν=↑ρ:=(BO Hl.ups).symm;rw[Ya,hkv,CI]at hA;have aaH:H aa=none:=s7.free Vj;refine⟨aa,A4,Eb,λoa=>?_⟩;have MM:H' p≈(.ins C dx []):=s9 _ _ hp;have pa:p≠aa:=AS hp aaH;have pd:p≠d:=AS hp dH;have da:d≠aa:=λz=>by have:=Hl.at_;rw[z,Eb]at this;cases this
    refine⟨Z,Z,p,C,dx,[],Y,(by rw[AE pa];exact MM),TC.cl,TC.nU,(by show 0<1000;decide),Z,Z,p,C,dx,Z,uS,TC.cl,TC.nA,(by show 1<1000;decide),?_⟩;rw[WI];have kp:∀ b u,b≠p->b≠aa->H' b≈u->(upd (upd H' aa (.frz oa (.dK A4))) p (.ins C dx (Fb d aa))) b≈u:=λb u h1 h2 e=>by rw[AE h1,AE h2];exact e
    refine q _ ⟨dx,d,aa,o,oa,ν,A4,uS,⟨kp _ _ (Ae pd) da Hl.at_,Hl.ups.mono λb xs e=>kp _ _ (λz=>by rw[z,MM]at e;cases e) (λz=>by rw[z,Eb]at e;cases e) e⟩,by rw[AE (Ae pa)];exact uS,hA.mono λb MG DQ e=>kp _ _ (λz=>by rw[z,MM]at e;cases e) (λz=>by rw[z,Eb]at e;cases e) e⟩ λb u hb e=>kp _ _ hb (AS e aaH) (s9 _ _ e)
def Ybg:Ad ["self","word"] ["self","word"] (AL Wm):=by nofun
def ZE(F:BW K "has" "Kinds.has" Wm f fd)(TC:Be K C):⋯ 1 f fd ["self","word"] (V0 C):=by
 nomatch F.ok Ybg
 ·obtain⟨p,ρ,x,rfl,_⟩:=h;rfl
 ·obtain⟨p,ρ,x,rfl,⟨dx,d,a,o,oa,ν,A4,h1,h2,h3,h4⟩,g,q⟩:=h;have hu:=EK hr
  ac_nf
  refine⟨_,AG (Ab (mz (RV hu (pv 1) (Er (pv 0) rfl)))),?_⟩;refine⟨Z,Z,p,C,dx,_,Z,h1,TC.cl,TC.nU,nO _ _,d,Z,BB.f (k:=Sum.inr x) h2.at_,?_⟩;have e:(A0 ν (Sum.inr x:Key)).isSome=decide (x∈ρ.map (·.1)):=by
   have hk:(Sum.inr x:Key)∈ν.map (·.1)↔x∈ρ.map (·.1):=by
    rw[h2.ups.keys];constructor
    ·intro m;obtain⟨r,Bd,e⟩:=Yo.mp m;exact Yo.mpr ⟨r,Bd,by injection e⟩
    ·intro m;obtain⟨r,Bd,e⟩:=Yo.mp m;exact Yo.mpr ⟨r,Bd,by rw[e]⟩
   by_cases z:x∈ρ.map (·.1)
   ·rw[aU (hk.mpr z),Jb z]
   ·rw[LA λk=>z (hk.mp k),Jc z];rfl
  rw[e];exact q
abbrev JK(K:Fg)(C fH:χ)(fdH:FuncData):Prop:=F_ K C "has" "Kinds.has" Wm ["self","word"] fH fdH
def lA:Ad ["self","word"] ["self","word"] (AL QG):=by nofun
def ZD(d a:χ):(Fb d a).lookup ("has":Str)=none:=WC d a (by rfl') (by rfl')
def i9(F:BW K "check" "Kinds.check" QG f fd)(TC:Be K C)(MH:JK K C fH fdH):⋯ 2 f fd ["self","word"] (Ze C):=by
 have GH:⋯ 1 fH fdH ["self","word"] (V0 C):=ZE MH.fn TC
 nomatch F.ok lA
 ·obtain⟨p,ρ,x,rfl,_⟩:=h;rfl
 ·obtain⟨p,ρ,x,rfl,kd,g,hx,q⟩:=h;obtain⟨dx,d,a,o,oa,ν,A4,h1,h2,h3,h4⟩:=kd.ex
  ac_nf
  refine⟨_,AG (Ac (Bx (CF (Hz (pv 0) TC.cl MH.me GH hr MH.b .nil Aw (pC (pv 1) AB)))) Bb Aj),?_⟩;refine⟨Z,p,dx,Z,h1,ZD _ _,Z,p,ρ,x,Y,kd,g,Z,?_⟩;rw[Jb hx];exact Af q
def Yba:Ad ["self"] ["self"] (AL W7):=by nofun
def EU(F:BW K "words" "Kinds.words" W7 f fd)(TC:Be K C)(list:mg "list"=none):⋯ 1 f fd ["self"] (D8 C):=by
 nomatch F.ok Yba
 ·obtain⟨p,ρ,rfl,_⟩:=h;rfl
 ·obtain⟨p,ρ,rfl,⟨dx,d,a,o,oa,ν,A4,h1,h2,h3,h4⟩,g,q⟩:=h
  ac_nf
  refine⟨_,AG (Ab (FI (kr rfl) (by rfl) list NO (pC (Er (pv 0) rfl) AB))),?_⟩;refine⟨Z,p,C,dx,_,Z,h1,TC.cl,TC.nU,nO _ _,d,ν,Y,.inr ⟨o,h2.at_⟩,λl hl=>?_⟩;rw[mF h2.ups];exact q l hl
def P6(d a:χ):(Fb d a).lookup ("check":Str)=none:=WC d a (by rfl') (by rfl')
def Ybb:Ad ["self","one","other"] ["self","one","other"] (AL W6):=by nofun
def rn(F:BW K "under" "Kinds.under" W6 f fd)(TC:Be K C)(MC:F_ K C "check" "Kinds.check" QG ["self","word"] fC fdC)(MH:JK K C fH fdH):⋯ 3 f fd ["self","one","other"] (iF C):=by
 have GC:⋯ 2 fC fdC ["self","word"] (Ze C):=i9 MC.fn TC MH
 nomatch F.ok Ybb
 ·obtain⟨p,ρ,x,y,rfl,_⟩:=h;rfl
 ·obtain⟨p,ρ,x,y,rfl,kd,g,hx,hy,q⟩:=h;obtain⟨dx,d,a,o,oa,ν,A4,h1,h2,h3,h4⟩:=kd.ex;have hu:=EK hr
  ac_nf
  refine⟨_,pS (A7 (Hz (pv 0) TC.cl MC.me GC hr MC.b .nil Aw (pC (pv 1) AB)))
   (pS (A7 (Hz (pv 0) TC.cl MC.me GC hr MC.b .nil Aw (pC (pv 2) AB)))
   (AG (Ab (mz (RV hu (pv 2) (Kx hu (Er (pv 0) rfl) (pv 1) (λ_ _=>rfl))))))),?_⟩
  exists let b:=AF _ a;AF _ b _ _ _
  obtain⟨r,Bd,er⟩:=WV hx;obtain⟨t,o',fk,hv,ht,hreach⟩:=h4.val g.nd Bd;refine⟨Z,p,dx,Z,h1,P6 _ _,Z,p,ρ,x,Y,kd,g,hx,?_⟩;refine⟨Z,p,dx,Z,h1,P6 _ _,Z,p,ρ,y,Y,kd,g,hy,?_⟩;refine⟨Z,Z,p,C,dx,_,Z,h1,TC.cl,TC.nA,yu _ _,Z,a,Z,(by rw[<- hv,er];exact BB.f (k:=Sum.inr x) h3),t,Z,BB.f (k:=Sum.inr y) ht,?_⟩;have e:(A0 fk (Sum.inr y:Key)).isSome=Mm ρ x y:=by
   have hh:=hreach y;rw[er]at hh;unfold Mm;by_cases z:Graph.Reach (BU ρ) x y
   ·rw[aU (hh.mpr z)];exact(@Jb _ (Classical.propDecidable _) z).symm
   ·rw[LA λk=>z (hh.mp k)];exact(@Jc _ (Classical.propDecidable _) z).symm
  rw[e];exact q
def rK(d a:χ):(Fb d a).lookup ("under":Str)=none:=WC d a (by rfl') (by rfl')
abbrev V2(K:Fg)(C fC:χ)(fdC:FuncData):Prop:=F_ K C "check" "Kinds.check" QG ["self","word"] fC fdC
abbrev mV(K:Fg)(C fU:χ)(fdU:FuncData):Prop:=F_ K C "under" "Kinds.under" W6 ["self","one","other"] fU fdU
structure JJ(K:Fg)(mg:Str->OU)(x:Str)(C:χ):Prop where
 m:mg x≈(.ref C)
 ex:ExC K C
 ini:W.findIn K (.ref C) "__init__"≈(↥(.builtin "ValueError.__init__"))
structure ni(P:Δ)(w:World)(K:Fg)(mg:Str->OU)(base:Heap)(x:Str)(C:χ)(a:Str)(sp:Sp)(f:χ)(fd:FuncData):Prop where
 m:mg x≈(.ref C)
 ex:ExC K C
 ini:W.findIn K (.ref C) "__init__"≈(↥(.ref f))
 ty:W.typeIn K (.ref f)≈(.type "function")
 b:CC K fd ["self",a] []
 go:⋯ 1 f fd ["self",a] sp
def X9:V->Hp->Prop:=λv _=>∃ x:Str,v=.str x/\GX x
def wW{x:Str}(h:Bf x=true):GX x:=by
 unfold Bf at h;rw[EF,Cd]at h;have l:=Je h.1;refine⟨O,λc hc=>?_⟩;have:=h.2 c hc;unfold Ir at this;simp only[EF,decide_eq_true_eq]at this;have e:(16:Nat) ^ 8=4294967296:=by decide
 omega
inductive Ho
 | many
 | noK (w:Str)
 | twice (w:Str)
 | ring
def yi(ρ:RS)(ys:LS):Prop:=ys≠[]/\ys.Nodup/\(∀ y∈ys,y∈ρ.map (·.1))/\(∀(i:Nat) (a b:Str),ys[i]?≈a->ys[i + 1]?≈b->b∈BU ρ a)/\∀ a b,ys.getLast?≈a->ys.head?≈b->b∈BU ρ a
def Cyc(ρ:RS):Prop:=∃ x∈ρ.map (·.1),∃ u∈BU ρ x,Graph.Reach (BU ρ) u x
structure bF(ρ:RS):Prop where
 ne:1<=↑ρ
 le:↑ρ<=24
 word:∀ r∈ρ,Bf r.1=true
 nd:(ρ.map (·.1)).Nodup
 few:∀ r∈ρ,↑r.2<=8
structure l7(ρ:RS):Prop where
 known:∀ r∈ρ,∀ u∈r.2,u∈ρ.map (·.1)
 upnd:∀ r∈ρ,r.2.Nodup
structure Yce(ρ:RS)(k:Nat)(e:Ho):Prop where
 ex:∃ r,ρ[k]?≈r/\((Bf r.1=false/\e=.noK r.1)\/(Bf r.1=true/\r.1∈(ρ.take k).map (·.1)/\e=.twice r.1)\/(Bf r.1=true/\r.1∉(ρ.take k).map (·.1)/\8<↑r.2/\e=.many))
 ahead:∀ r∈ρ.take k,Bf r.1=true/\↑r.2<=8
 nd:((ρ.take k).map (·.1)).Nodup
inductive XC(ρ:RS):Option Ho->Prop
 | size (h:¬ (1<=↑ρ/\↑ρ<=24)):XC ρ (↥.many)
 | bad {e:Ho} (k:Nat) (h1:1<=↑ρ) (h2:↑ρ<=24) (h:Yce ρ k e):XC ρ (↥e)
 | fine (f:bF ρ):XC ρ none
structure Yb9(ρ:RS)(k j:Nat)(e:Ho):Prop where
 ex:∃ r u,ρ[k]?≈r/\r.2[j]?≈u/\(∀ v∈r.2.take j,v∈ρ.map (·.1))/\(r.2.take j).Nodup/\((u∉ρ.map (·.1)/\e=.noK u)\/(u∈ρ.map (·.1)/\u∈r.2.take j/\e=.twice u))
 ahead:∀ r∈ρ.take k,(∀ v∈r.2,v∈ρ.map (·.1))/\r.2.Nodup
inductive ax(ρ:RS):Option Ho->Prop
 | bad {e:Ho} (k j:Nat) (h:Yb9 ρ k j e):ax ρ (↥e)
 | fine (f:l7 ρ):ax ρ none
inductive W_(ρ:RS):Option Ho->Prop
 | ρ {e:Ho} (h:XC ρ (↥e)):W_ ρ (↥e)
 | ups {e:Ho} (f:bF ρ) (h:ax ρ (↥e)):W_ ρ (↥e)
 | ring (f:bF ρ) (u:l7 ρ) (c:Cyc ρ):W_ ρ (↥.ring)
 | good (g:Ah ρ):W_ ρ none
structure Ycs(Ds:Nat->χ)(ρ:RS)(E:XK)(H:Hp)(e:Ho):Prop where
 many:e=.many->∀ H',AA H H'->E (.ref (Ds 7)) none H'
 noK:∀ w,e=.noK w->∀ dx H',AA H H'->H' dx≈(.xd [("word",.str w)])->E (.ref (Ds 0)) (↥dx) H'
 twice:∀ w,e=.twice w->∀ dx H',AA H H'->H' dx≈(.xd [("word",.str w)])->E (.ref (Ds 1)) (↥dx) H'
 ring:e=.ring->∀ dx l ys H',AA H H'->H' dx≈(.xd [("ring",.ref l)])->H l=none->H' l≈(.lst (ys.map V.str))->yi ρ ys->E (.ref (Ds 3)) (↥dx) H'
def mQ{H:Hp}{l:χ}{o:HO}(hl:H l=none):AA H (upd H l o):=λb o' e=>by rw[AE (AS e hl)];exact e
def Ya8:Ad ["self","word"] ["self","word"] (AL af):=by nofun
def zG(F:BW K "__init__" "NoKind.__init__" af f fd)(I:Lm K C D "word")(dd:bx K D)(mD:mg "DeedError"≈(.ref D)):⋯ 1 f fd ["self","word"] (SI C "word" X9):=by
 nomatch F.ok Ya8
 ·obtain⟨x,y,rfl,_⟩:=h;rfl
 ·obtain⟨x,y,rfl,⟨z,rfl,hz⟩,hx,q⟩:=h
  ac_nf
  refine⟨_,pS (A7 (r9 dd (by rfl) mD (pC (pv 0) (pC (Rb (ER (Z2k (pv 1)) (ER Kv Rc))) AB)))) (AG (Z2e (D:=D) (pv 0) (pv 1))),?_⟩
  exists AF _ a _ _ _
  refine⟨Z,Z,z,Y,by have:=hz.1;omega,hz.2,by rfl',λt=>⟨x,C,[.str t],Y,by show 1<=100;decide,I.toExA.toExC,hx,?_⟩⟩;exact⟨Z,Z,x,C,Y,hx,I,λdx hdx=>q dx hdx⟩
def Sk(Ds:Nat->χ)(E:XK)(H:Hp)(x:Str):Prop:=∀ dx H',AA H H'->H' dx≈(.xd [("word",.str x)])->E (.ref (Ds 0)) (↥dx) H'
def ir(C:χ)(Ds:Nat->χ):Sp:=λvs H Q E=>∃(p:χ) (ρ:RS) (x:Str),vs=[.ref p,.str x]/\CS C H p ρ/\Ah ρ/\GX x/\(x∈ρ.map (·.1)->Q .non H)/\(x∉ρ.map (·.1)->Sk Ds E H x)
def R_(ρ:RS)(x y w:Str):Prop:=(x∉ρ.map (·.1)/\w=x)\/(x∈ρ.map (·.1)/\y∉ρ.map (·.1)/\w=y)
def uM{Ds:Nat->χ}(F:BW K "check" "Kinds.check" QG f fd)(TC:Be K C)(MH:JK K C fH fdH)(E0:ni P w K mg base "NoKind" (Ds 0) "word" (SI (Ds 0) "word" X9) f0 fd0):AN P w K mg base (AZ P w) 3 f fd ["self","word"] (ir C Ds):=by
 have GH:AN P w K mg base (AZ P w) 1 fH fdH ["self","word"] (V0 C):=(ZE MH.fn TC).any
 nomatch F.ok1 lA
 ·obtain⟨p,ρ,x,rfl,_⟩:=h;rfl
 ·obtain⟨p,ρ,x,rfl,kd,g,sx,q,re⟩:=h;obtain⟨dx,d,a,o,oa,ν,A4,h1,h2,h3,h4⟩:=kd.ex;have AM:AX 1 _:=hr.mono (by decide)
  ac_nf
  refine⟨_,AG (Ac (Bx (CF (Hz (pv 0) TC.cl MH.me GH AM MH.b .nil (CQ Ag.of) (pC (pv 1) AB)))) (AG (ue (C:=Ds 0) Ag.of hr.hd E0.ex E0.ini E0.ty E0.go hr E0.b (by rfl) E0.m (pC (pv 1) AB))) Aj),?_⟩
  exists Bp _ a _ _ _ _
  refine⟨Z,p,dx,Z,h1,ZD _ _,Z,p,ρ,x,Y,kd,g,Z,?_⟩;by_cases hx:x∈ρ.map (·.1)
  ·rw[Jb hx];exact Af (q hx)
  ·rw[Jc hx];exact Az ⟨Z,Z,(λy _=>⟨x,Y,sx⟩),λdx hdx=>re hx dx _ (mQ hdx) uS⟩
structure GoL(ρ:RS)(x:Str)(fs:LS)(k:Nat):Prop where
 start:x∈fs
 known:∀ y∈fs,y∈ρ.map (·.1)
 nd:fs.Nodup
 reach:∀ y∈fs,Graph.Reach (BU ρ) x y
 closed:∀ y∈fs.take k,∀ u∈BU ρ y,u∈fs
def FG(ρ:RS)(n:Nat)(xs:LS):Bool:=decide (↑xs=n)&&xs.all λx=>decide (x∈ρ.map (·.1))
structure Bq(ρ:RS)(n:Nat)(xs:LS):Prop where
 len:↑xs=n
 known:∀ x∈xs,x∈ρ.map (·.1)
def Bq.is{ρ:RS}{n:Nat}{xs:LS}(h:Bq ρ n xs):FG ρ n xs=true:=by
 unfold FG;rw[Jb h.len,Bool.true_and,Cd];exact λx hx=>Jb (h.known x hx)
def Rr(C:χ):Sp:=λvs H Q _=>∃(p t:χ) (n:Nat) (ρ:RS) (xs:LS),vs=[.ref p,.int n,.ref t]/\CS C H p ρ/\Ah ρ/\H t≈(.tup (xs.map V.str))/\↑xs<=1000/\∀ H',AA H H'->Q (.bl (FG ρ n xs)) H'
def ZG(ρ:RS):V->V
 | .str x=>.bl (decide (x∈ρ.map (·.1)))
 | _=>.non
def vO(ρ:RS)(xs:LS):(((xs.map V.str).filter λ_=>true).map (ZG ρ))=(xs.map λx=>decide (x∈ρ.map (·.1))).map V.bl:=by
 rw[EB.mpr (λ_ _=>rfl),BN,BN];rfl
def x_:(["word","kinds"]:LS).Nodup:=by rfl'
abbrev CV:LS:=["kinds","places","call"]
def Ybf:Ad CV CV (AL IC):=by nofun
def aM(F:Def K mg "is_call" IC CV f fd)(len:mg "len"=none)(all:mg "all"=none)(TC:Be K C)(MH:JK K C fH fdH):⋯ 2 f fd CV (Rr C):=by
 have GH:⋯ 1 fH fdH ["self","word"] (V0 C):=ZE MH.fn TC
 nomatch F.fn.ok Ybf
 ·obtain⟨p,t,n,ρ,xs,rfl,_⟩:=h;rfl
 ·obtain⟨p,t,n,ρ,xs,rfl,kd,g,ht,hz,q⟩:=h;obtain⟨dx,d,a,o,oa,ν,A4,h1,_⟩:=kd.ex;have AM:AX 1 _:=hr.mono (by decide)
  ac_nf
  refine'⟨_,AG (Ab (V9 ?ea (RW ?eb))),?_⟩
  case ea=>exact FH Bw (Ai B_ (by rfl) len Yx (pC (pv 2) AB)) (pv 1) (Ao _)
  case eb=>exact Ai (WM rfl) (by rfl) all Xe (pC
    (Cm ["word"] ["kinds"] [0] (λ_=>Bs (osc:=AL IC) (on:=CV) (by rfl') rfl rfl rfl) (Ml (pv 2)) (λC s H fp=>Bl (i:=0) x_ rfl (Or.inl rfl) (Or.inr rfl)) (λC s H fp=>CU)
     (λC s H fp=>Hz (pv 1) TC.cl MH.me GH AM MH.b .nil Aw (pC (pv 0) AB))) AB)
  refine⟨Z,t,Z,.inr (AJ.of ht),Z,Y,Z,?_⟩;have e:decide (V.int (↑(xs.map V.str):Nat)=V.int n)=decide (↑xs=n):=by
   rw[Ya];exact Qc.mpr ⟨λz=>by injection z with z;omega,λz=>by rw[z]⟩
  rw[e];refine BY (λh=>?_) (λh=>?_)
  ·refine⟨Z,t,Y,⟨_,AJ.of ht⟩,Z6 (Mv (xs:=xs.map V.str)) (sL (by rw[Ya];omega)) (λ_=>true) (ZG ρ) (λD ys hD=>AJ.of (by rw[AE (AS ht hD)];exact ht)) ?_ ?_ ?_⟩
   ·intro D ys v R _ _ hR;exact hR
   ·intro D ys v R hD hv _ hR;obtain⟨x,hx,rfl⟩:=Yo.mp hv;have s2:AA H (upd H D (.lst ys)):=AO hD;exact⟨Z,p,dx,Z,s2 _ _ h1,ZD _ _,Z,p,ρ,x,Y,kd.mono s2,g,hR⟩
   ·intro D hD;refine⟨D,Z,AD.of (by rw[uS,vO]),?_⟩;have q':=q _ (AO (o:=.lst (((xs.map V.str).filter λ_=>true).map (ZG ρ))) hD);unfold FG at q';rw[h,Bool.true_and]at q';show Q (.bl ((xs.map λx=>decide (x∈ρ.map (·.1))).all id)) _;rw[List.all_map];exact q'
  ·have q':=q H (AA.refl H);unfold FG at q';rw[show decide (↑xs=n)=false by simpa using h,Bool.false_and]at q';exact q'
def BR(H:Hp)(ds:ζ)(vs:LV):Prop:=Paired (λ(d:LS) v=>∃ t,v=V.ref t/\H t≈(.tup (d.map V.str))) ds vs
def BR.mono{H H':Hp}{ds:ζ}{vs:LV}(h:BR H ds vs)(s:AA H H'):BR H' ds vs:=Paired.mapP h λ_ _ ⟨t,e,x⟩=>⟨t,e,s _ _ x⟩
structure CG(ρ:RS)(n:Nat)(ds:ζ):Prop where
 call:∀ d∈ds,Bq ρ n d
 nd:ds.Nodup
 few:↑ds<=64
def Ca(d:LS):List Key:=d.map Sum.inr
def Rl(d:LS):(Ca d).map kV=d.map V.str:=by
 unfold Ca;rw[BN];rfl
def rB{d e:LS}(h:Ca d=Ca e):d=e:=by
 unfold Ca at h;exact NN (λa b z=>by injection z) |>.mp h
def kA{ds:ζ}(nd:ds.Nodup){i:Nat}{d:LS}(h:ds[i]?≈d):Ca d∉(ds.take i).map Ca:=by
 intro m;obtain⟨e,he,q⟩:=Yo.mp m;rw[rB q]at he;exact uG nd h he
def kZ(K:Fg)(C:χ):Sp:=λvs H Q _=>∃(p l:χ) (n:Nat) (b:Bool) (ρ:RS) (ds:ζ) (us:LV),vs=[.ref p,.int n,.ref l]/\CS C H p ρ/\Ah ρ/\C8 K b H l us/\BR H ds us/\CG ρ n ds/\n<=4/\∀ H',AA H H'->Q .non H'
abbrev p9:LS:=["kinds","places","deeds","seen","number","call"]
def lZ:Ad p9 ["kinds","places","deeds"] (AL Wz):=by nofun
def xO(F:Def K mg "check_deeds" Wz ["kinds","places","deeds"] f fd)(DI:Def K mg "is_call" IC CV fI fdI)(enum:mg "enumerate"=none)(len:mg "len"=none)(all:mg "all"=none)(TC:Be K C)(MH:JK K C fH fdH):
  ⋯ 3 f fd ["kinds","places","deeds"] (kZ K C):=by
 have GI:⋯ 2 fI fdI CV (Rr C):=aM DI len all TC MH
 nomatch F.fn.ok lZ
 ·obtain⟨p,l,n,b,ρ,ds,us,rfl,_⟩:=h;rfl
 ·obtain⟨p,l,n,b,ρ,ds,us,rfl,kd,g,hl,hD,gd,hn,q⟩:=h;have nd:=lZ.nd;have hu:=EK hr
  ac_nf
  refine⟨_,pS (sE 3 nd K6)
   (AG (Ba Yz rfl (gs (by rfl) enum (pC (pv 2) AB)) (Hw rfl (gC (gE 4 nd) (gC (gE 5 nd) H_)))
    (pS (Ac (Bx (CF (AY DI GI hr (pC (pv 0) (pC (pv 1) (pC (pv 5) AB)))))) Bb Aj)
    (pS (Ac (Iz (RV hu (pv 5) (pv 3))) Bb Aj)
    (AG (Gi hu (pv 3) (pv 5) Dw rfl)))))),?_⟩
  exists let b:=AF _ a;let c:=AF _ b;let e:=B5 _ _ c;AF _ e _ _ _
  intro d hd;have s0:AA H (upd H d (.dT [])):=AO hd;have hvl:=↑hD;have few:=gd.few;let A8:NW:=λi σ H'=>∃(ν:List (List Key×V)) (a c:OV),σ=[↥(.ref p),↥(.int n),↥(.ref l),↥(.ref d),a,c]/\AA H H'/\H' d≈(.dT ν)/\ν.map (·.1)=(ds.take i).map Ca;refine⟨Z,b,l,us,Y,hl.mono s0,jL A8
   ⟨[],none,none,Y,s0,uS,by simp⟩ (λi σ H' _ h0=>by obtain⟨_,_,_,_,s,_⟩:=h0;exact hl.mono s) ?_ ?_⟩
  ·rintro i pr t σ H' hi ⟨ν,a,c,rfl,s1,hdk,hk⟩ FV;obtain⟨e1,hx⟩:=WZ hi;obtain⟨dd,hdd,t2,e2,BL⟩:=Bk hD hx;refine V3 ?_;have s2:AA H' (upd H' t (.tup [pr.1,pr.2])):=AO FV;have B1:dd∈ds:=Yi hdd;have gc:=gd.call dd B1;rw[e2];show AF _ _ _ [↥(.ref p),↥(.int n),↥(.ref l),↥(.ref d),↥pr.1,↥(.ref t2)] _;have Bc:=s1.trans s2;refine⟨Z,Z,Z,p,t2,n,ρ,dd,Y,kd.mono ?_,g,?_,by have:=gc.len;omega,λH3 s3=>⟨Z,?_⟩⟩
   ·rw[<- e2];exact Bc
   ·rw[<- e2];exact Bc _ _ BL
   rw[gc.is];refine Af ?_;rw[<- e2]at s3;have KY:=Bc.trans s3;have Hj:H3 d≈(.dT ν):=s3 _ _ (s2 _ _ hdk);have eZ:H3 t2≈(.tup ((Ca dd).map kV)):=by rw[Rl];exact KY _ _ BL
   refine⟨Z,Z,d,Z,BB.t (k:=Ca dd) Hj eZ,Z,?_⟩;have Av:Ca dd∉ν.map (·.1):=by rw[hk];exact kA gd.nd hdd
   rw[My Av];refine Af ?_;have hkl:↑ν=↑(ds.take i):=by have:=congrArg List.length hk;simpa using this
   have hil:↑(ds.take i)<=64:=by rw[Yv];omega
   refine⟨Z,Z,d,Z,DS.t (k:=Ca dd) Hj eZ (C4 (by omega)),?_⟩;refine⟨_,_,Z,λb o e=>?_,uS,?_⟩
   ·rw[AE (AS e hd)];exact KY _ _ e
   ·rw[vi Av,hk,Bz,hdd,Yy];rfl
  ·rintro σ H' ⟨ν,a,c,rfl,s1,hdk,hk⟩;exact q H' s1
def Yb7:¬ (("book":Str)="stands"):=by rfl'
def Yb6:¬ (("book":Str)="width"):=by rfl'
def Yb5:¬ (("width":Str)="stands"):=by rfl'
def Dv(k t:χ)(n:Nat):List (Str×V):=BZ "stands" (.ref t) (BZ "width" (.int n) (BZ "book" (.ref k) []))
def Ri(k t:χ)(n:Nat):(Dv k t n).lookup ("book":Str)≈(.ref k):=by
 unfold Dv;rw[EA,if_neg Yb7,EA,if_neg Yb6,EA,if_pos rfl]
def Rj(k t:χ)(n:Nat):(Dv k t n).lookup ("width":Str)≈(.int n):=by
 unfold Dv;rw[EA,if_neg Yb5,EA,if_pos rfl]
def zp(k t:χ)(n:Nat):(Dv k t n).lookup ("stands":Str)≈(.ref t):=by
 unfold Dv;rw[EA,if_pos rfl]
def Rk(k t:χ)(n:Nat){m:Str}(h1:¬ m="stands")(h2:¬ m="width")(h3:¬ m="book"):(Dv k t n).lookup m=none:=by
 unfold Dv;rw[EA,if_neg h1,EA,if_neg h2,EA,if_neg h3];rfl
def C5(k t:χ)(n:Nat):(Dv k t n).lookup ("kinds":Str)=none:=Rk k t n (by rfl') (by rfl') (by rfl')
def ID(k t:χ)(n:Nat):(Dv k t n).lookup ("places":Str)=none:=Rk k t n (by rfl') (by rfl') (by rfl')
def jn(k t:χ)(n:Nat):(Dv k t n).lookup ("deeds":Str)=none:=Rk k t n (by rfl') (by rfl') (by rfl')
structure A5(C B:χ)(H:Hp)(p k:χ)(ρ:RS)(n:Nat)(ds:ζ):Prop where
 ex:∃(dx t:χ) (us:LV),H p≈(.ins B dx (Dv k t n))/\CS C H k ρ/\H t≈(.tup us)/\BR H ds us
theorem A5.mono{C B:χ}{H H':Hp}{p k:χ}{ρ:RS}{n:Nat}{ds:ζ}(h:A5 C B H p k ρ n ds)(s:AA H H'):A5 C B H' p k ρ n ds:=by
 obtain⟨dx,t,us,h1,h2,h3,h4⟩:=h.ex;exact⟨dx,t,us,s _ _ h1,h2.mono s,s _ _ h3,h4.mono s⟩
structure Bh(K:Fg)(B:χ):Prop where
 cl:Fw K B
 nB:Gh K B "book"
 nW:Gh K B "width"
 nS:Gh K B "stands"
structure bN(mg:Str->OU):Prop where
 places:∃ t,mg "MOST_PLACES"≈(.int 4 t)
 deeds:∃ t,mg "MOST_DEEDS"≈(.int 64 t)
 len:mg "len"=none
 all:mg "all"=none
 tuple:mg "tuple"=none
 list:mg "list"=none
 enum:mg "enumerate"=none
def Zc(K:Fg)(C B:χ):Sp:=λvs H Q _=>∃(p dx k l:χ) (n:Nat) (ρ:RS) (ds:ζ) (us:LV),vs=[.ref p,.ref k,.int n,.ref l]/\H p≈(.ins B dx [])/\CS C H k ρ/\Ah ρ/\(AD K H l us\/H l≈(.tup us))/\BR H ds us/\CG ρ n ds/\1<=n/\n<=4 /\
 ∀ H',A5 C B H' p k ρ n ds->(∀ b o,b≠p->H b≈o->H' b≈o)->Q .non H'
def j6{C p:χ}{H H':Hp}{k:χ}{ρ:RS}{o:HO}(h:CS C H k ρ)(hp:H p≈o)(s:∀ b o,b≠p->H b≈o->H' b≈o)(nk:k≠p)(no:∀ o' u,o≠.frz o' u)(nt:∀ xs,o≠.tup xs):CS C H' k ρ:=by
 obtain⟨dx,d,a,o1,oa,ν,A4,h1,h2,h3,h4⟩:=h.ex;have ne:∀ {b o' u},H b≈(.frz o' u)->b≠p:=λ{b o' u} e z=>by rw[z,hp]at e;exact no _ _ (Yp e)
 have net:∀ {b xs},H b≈(.tup xs)->b≠p:=λ{b xs} e z=>by rw[z,hp]at e;exact nt _ (Yp e)
 exact⟨dx,d,a,o1,oa,ν,A4,s _ _ nk h1,⟨s _ _ (ne h2.at_) h2.at_,h2.ups.mono λb xs e=>s _ _ (net e) e⟩,s _ _ (ne h3) h3,h4.mono λb o' fk e=>s _ _ (ne e) e⟩
abbrev Qu:LS:=["self","kinds","places","deeds"]
def Ybn:Ad Qu Qu (AL aZ):=by nofun
def sZ(F:BW K "__init__" "Board.__init__" aZ f fd)(T:bN mg)(TB:Bh K B)(TC:Be K C)(DD:Def K mg "check_deeds" Wz ["kinds","places","deeds"] fD fdD)(DI:Def K mg "is_call" IC CV fI fdI)(MH:JK K C fH fdH)(hBC:B≠C):
  ⋯ 4 f fd Qu (Zc K C B):=by
 have GD:⋯ 3 fD fdD ["kinds","places","deeds"] (kZ K C):=xO DD DI T.enum T.len T.all TC MH
 nomatch F.ok Ybn
 ·obtain⟨p,dx,k,l,n,ρ,ds,us,rfl,_⟩:=h;rfl
 ·obtain⟨p,dx,k,l,n,ρ,ds,us,rfl,hp,kd,g,hl,hD,gd,n1,n4,q⟩:=h;obtain⟨b,hl,RF⟩:∃ b,C8 K b H l us/\(b=false->H l≈(.tup us)):=by
   rcases hl with hl | hl
   ·exact⟨true,hl,λz=>by cases z⟩
   ·exact⟨false,AJ.of hl,λ_=>hl⟩
  obtain⟨t1,hP⟩:=T.places;obtain⟨t2,hM⟩:=T.deeds;have F5:AX 3 _:=hr.mono (by decide)
  ac_nf
  refine⟨_,pS (Ac (Bx (P8 Iv Iv AI (pv 2) (By (v:=.int 4) (by rfl) hP ⟨Z⟩))) Bb Aj)
   (pS (Ac (Ax GZ (Ai Ms (by rfl) T.len Yx (pC (pv 3) AB)) (By (v:=.int 64) (by rfl) hM ⟨Z⟩) (Ao _)) Bb Aj)
   (pS (A7 (AY DD GD F5 (pC (pv 1) (pC (pv 2) (pC (pv 3) AB)))))
   (pS (RY (pv 0) (pv 1) rfl) (pS (RY (pv 0) (pv 2) rfl)
   (AG (RY (pv 0) (FI LG (by rfl) T.tuple LZ (pC (pv 3) AB)) rfl)))))),?_⟩
  exists let b:=AF _ a;let c:=AF _ b;let e:=AF _ c;let f:=AF _ e;AF _ f _ _ _
  refine⟨Z,_,Z,Y,Z,?_⟩;rw[show decide ((1:Int)<=(n:Int))=true from Jb (by omega)];refine Az ⟨_,Z,Y,Z,?_⟩;rw[show(decide ((n:Int)<=4))=true from Jb (by omega)];refine Af ?_;have hul:=↑hD;have few:=gd.few;refine⟨Z,_,Z,ZY hl,_,Z,Y,Z,?_⟩;rw[show decide ((64:Int)<(↑us:Int))=false from Jc (by omega)];refine Af ?_;refine⟨Z,Z,Z,p |> λ_=>k,l,n,b,ρ,ds,us,Y,kd,g,hl,hD,gd,n4,λH1 s1=>?_⟩;have Dm:=s1 _ _ hp;have kd1:=kd.mono s1;have nkp:k≠p:=by
   intro z;obtain⟨dx',d,a,o,oa,ν,A4,h1,_⟩:=kd.ex;rw[z,hp]at h1;injection h1 with h1;injection h1 with h1;exact hBC h1
  refine⟨Z,Z,p,B,dx,[],Y,Dm,TB.cl,TB.nB,(by show 0<1000;decide),?_⟩;refine⟨Z,Z,p,B,dx,Z,uS,TB.cl,TB.nW,(by show 1<1000;decide),?_⟩;rw[WI];have kp:∀ {fs:List (Str×V)} (b:χ) (o:HO),b≠p->H b≈o->(upd H1 p (.ins B dx fs)) b≈o:=λb o hb e=>by rw[AE hb];exact s1 _ _ e
  have hlp:∀ {fs:List (Str×V)},C8 K b (upd H1 p (.ins B dx fs)) l us:=λ{fs}=>by
   have Aa:=hl.mono s1;cases b with
   | true =>
    rcases(show AD K H1 l us from Aa)with(e | ⟨o,e⟩) | e
    ·exact .inl (.inl (by rw[AE (λz=>by rw[z,Dm]at e;cases e)];exact e))
    ·exact .inl (.inr ⟨o,by rw[AE (λz=>by rw[z,Dm]at e;cases e)];exact e⟩)
    ·exact .inr e
   | false =>
    rcases(show AJ K H1 l us from Aa)with(e | ⟨o,e⟩) | e
    ·exact .inl (.inl (by rw[AE (λz=>by rw[z,Dm]at e;cases e)];exact e))
    ·exact .inl (.inr ⟨o,by rw[AE (λz=>by rw[z,Dm]at e;cases e)];exact e⟩)
    ·exact .inr e
  have fin:∀(t:χ) (H2:Hp),AA (upd H1 p (.ins B dx (BZ "width" (.int n) (BZ "book" (.ref k) [])))) H2->H2 t≈(.tup us)->Q .non (upd H2 p (.ins B dx (Dv k t n))):=λt H2 s2 ht=>by
   have FA:H2 p≈(.ins B dx (BZ "width" (.int n) (BZ "book" (.ref k) []))):=s2 _ _ uS;have k2:∀ b o,b≠p->H b≈o->(upd H2 p (.ins B dx (Dv k t n))) b≈o:=λb o hb e=>by rw[AE hb];exact s2 _ _ (kp b o hb e)
   refine q _ ⟨dx,t,us,uS,j6 kd hp k2 nkp (λ_ _ z=>by cases z) (λ_ z=>by cases z),by rw[AE (λz=>by rw[z,FA]at ht;cases ht)];exact ht,Paired.mapP hD λd v ⟨t',e,x⟩=>⟨t',e,k2 _ _ (λz=>by rw[z,hp]at x;cases x) x⟩⟩ k2
  refine⟨Z,l,us,Y,?_⟩;have no:=hlp (fs:=BZ "width" (.int n) (BZ "book" (.ref k) []));have wd:(BZ "width" (V.int n) (BZ "book" (V.ref k) [])).length<1000:=by show 2<1000;decide
  cases b with
  | true =>
   refine .inl ⟨no,λt ht=>⟨Z,p,B,dx,Z,(AO ht) _ _ uS,TB.cl,TB.nS,wd,fin t _ (AO ht) uS⟩⟩
  | false =>
   have e:(upd H1 p (.ins B dx (BZ "width" (.int n) (BZ "book" (.ref k) [])))) l≈(.tup us):=by
    have e0:=s1 _ _ (RF rfl);rw[AE (λz=>by rw[z,Dm]at e0;cases e0)];exact e0
   exact .inr ⟨no,Z,p,B,dx,Z,uS,TB.cl,TB.nS,wd,fin l _ (AA.refl _) e⟩
def D9(C B:χ):Sp:=λvs H Q _=>∃(p k:χ) (ρ:RS) (n:Nat) (ds:ζ),vs=[.ref p]/\A5 C B H p k ρ n ds/\Q (.ref k) H
def Gk(C B:χ):Sp:=λvs H Q _=>∃(p k:χ) (ρ:RS) (n:Nat) (ds:ζ),vs=[.ref p]/\A5 C B H p k ρ n ds/\Q (.int n) H
def Zw(C B:χ):Sp:=λvs H Q _=>∃(p k:χ) (ρ:RS) (n:Nat) (ds:ζ),vs=[.ref p]/\A5 C B H p k ρ n ds/\∀ l us,H l=none->BR H ds us->Q (.ref l) (upd H l (.lst us))
def Ybm:Ad ["self"] ["self"] (AL W5):=by nofun
def ES(F:BW K "kinds" "Board.kinds" W5 f fd)(TB:Bh K B):⋯ 1 f fd ["self"] (D9 C B):=by
 nomatch F.ok Ybm
 ·obtain⟨p,k,ρ,n,ds,rfl,_⟩:=h;rfl
 ·obtain⟨p,k,ρ,n,ds,rfl,⟨dx,t,us,h1,h2,h3,h4⟩,q⟩:=h;exact⟨_,AG (Ab (Er (pv 0) rfl)),Z,p,B,dx,_,Z,h1,TB.cl,TB.nB,Ri _ _ _,q⟩
def Ybl:Ad ["self"] ["self"] (AL W0):=by nofun
def IE(F:BW K "places" "Board.places" W0 f fd)(TB:Bh K B):⋯ 1 f fd ["self"] (Gk C B):=by
 nomatch F.ok Ybl
 ·obtain⟨p,k,ρ,n,ds,rfl,_⟩:=h;rfl
 ·obtain⟨p,k,ρ,n,ds,rfl,⟨dx,t,us,h1,h2,h3,h4⟩,q⟩:=h;exact⟨_,AG (Ab (Er (pv 0) rfl)),Z,p,B,dx,_,Z,h1,TB.cl,TB.nW,Rj _ _ _,q⟩
def Ybo:Ad ["self"] ["self"] (AL W4):=by nofun
def jU(F:BW K "deeds" "Board.deeds" W4 f fd)(TB:Bh K B)(list:mg "list"=none):⋯ 1 f fd ["self"] (Zw C B):=by
 nomatch F.ok Ybo
 ·obtain⟨p,k,ρ,n,ds,rfl,_⟩:=h;rfl
 ·obtain⟨p,k,ρ,n,ds,rfl,⟨dx,t,us,h1,h2,h3,h4⟩,q⟩:=h;exact⟨_,AG (Ab (FI kW (by rfl) list NO (pC (Er (pv 0) rfl) AB))),Z,p,B,dx,_,Z,h1,TB.cl,TB.nS,zp _ _ _,t,us,Y,.inr (AJ.of h3),λl hl=>q l us hl h4⟩
abbrev EO(K:Fg)(B f:χ)(fd:FuncData):Prop:=F_ K B "kinds" "Board.kinds" W5 ["self"] f fd
abbrev IB(K:Fg)(B f:χ)(fd:FuncData):Prop:=F_ K B "places" "Board.places" W0 ["self"] f fd
abbrev gO(K:Fg)(B f:χ)(fd:FuncData):Prop:=F_ K B "deeds" "Board.deeds" W4 ["self"] f fd
def Cn(ρ:RS)(xs ys:LS):Bool:=(xs.zip ys).all λp=>Mm ρ p.1 p.2
def a_(p:Str×Str):V×V:=(V.str p.1,V.str p.2)
def iA(xs ys:LS):(xs.map V.str).zip (ys.map V.str)=(xs.zip ys).map a_:=by rw[List.zip_map];rfl
def jk{α β:Type}{f:α->β}{l:List α}{i:Nat}{y:β}(h:(l.map f)[i]?≈y):∃ x,l[i]?≈x/\f x=y:=by
 rw[Yj]at h;exact Fp.mp h
def WU(C:χ):Sp:=λvs H Q _=>∃(p a b:χ) (ρ:RS) (xs ys:LS),vs=[.ref p,.ref a,.ref b]/\CS C H p ρ/\Ah ρ/\H a≈(.tup (xs.map V.str))/\H b≈(.tup (ys.map V.str))/\(∀ x∈xs,x∈ρ.map (·.1))/\(∀ y∈ys,y∈ρ.map (·.1)) /\
 ∀ H',AA H H'->Q (.bl (Cn ρ xs ys)) H'
def kQ(C:χ):Sp:=λvs H Q _=>∃(p t:χ) (n:Nat) (ρ:RS) (xs:LS),vs=[.ref p,.int n,.ref t]/\CS C H p ρ/\Ah ρ/\H t≈(.tup (xs.map V.str))/\Bq ρ n xs/\n<=4/\∀ H',AA H H'->Q .non H'
def Im(ρ:RS)(ds:ζ)(xs:LS):LN:=(List.range ↑ds).filter λi=>Cn ρ xs (ds.getD i [])
def jb(C B:χ):Sp:=λvs H Q _=>∃(p k t:χ) (ρ:RS) (n:Nat) (ds:ζ) (xs:LS),vs=[.ref p,.ref t]/\A5 C B H p k ρ n ds/\Ah ρ/\CG ρ n ds/\n<=4/\H t≈(.tup (xs.map V.str))/\Bq ρ n xs /\
 ∀ l H',H l=none->AA H H'->H' l≈(.lst ((Im ρ ds xs).map λi=>V.int (i:Nat)))->Q (.ref l) H'
abbrev ph:LS:=["kinds","one","other","low","high"]
def lL:Ad ph ["kinds","one","other"] (AL P9):=by nofun
def jV(F:Def K mg "within" P9 ["kinds","one","other"] f fd)(zip:mg "zip"=none)(TC:Be K C)(MU:mV K C fU fdU)(MC:V2 K C fC fdC)(MH:JK K C fH fdH):
  ⋯ 4 f fd ["kinds","one","other"] (WU C):=by
 have GU:⋯ 3 fU fdU ["self","one","other"] (iF C):=rn MU.fn TC MC MH
 nomatch F.fn.ok lL
 ·obtain⟨p,a,b,ρ,xs,ys,rfl,_⟩:=h;rfl
 ·obtain⟨p,a,b,ρ,xs,ys,rfl,kd,g,ha,hb,hx,hy,q⟩:=h;obtain⟨dx,d,a1,o,oa,ν,A4,h1,_⟩:=kd.ex;have nd:=lL.nd
  ac_nf
  refine⟨_,pS (Ba Yz rfl (zJ (by rfl) zip (pC (pv 1) (pC (pv 2) AB))) (Hw rfl (gC (gE 3 nd) (gC (gE 4 nd) H_)))
    (AG (Ac (Bx (CF (Hz (pv 0) TC.cl MU.me GU hr MU.b .nil Aw (pC (pv 3) (pC (pv 4) AB))))) (AG (Ab Dw)) Aj)))
   (AG (Ab Dw)),?_⟩
  exists let b:=_;AF (B5 _ _ b) a _ _ _
  let A8:NW:=λi σ H'=>∃(u v:OV),σ=[↥(.ref p),↥(.ref a),↥(.ref b),u,v]/\AA H H'/\∀ z∈(xs.zip ys).take i,Mm ρ z.1 z.2=true;refine⟨Z,Z,a,b,_,Z,AJ.of ha,AJ.of hb,jL A8
   ⟨none,none,Y,AA.refl H,by simp⟩ (λi σ H' _ h0=>by obtain⟨_,_,_,s,_⟩:=h0;exact⟨AJ.of (s _ _ ha),AJ.of (s _ _ hb)⟩) ?_ ?_⟩
  ·rintro i pr t σ H' hi ⟨u,v,rfl,s1,hall⟩ FV;rw[iA]at hi;obtain⟨z,hz,rfl⟩:=jk hi;refine V3 ?_;have s2:=s1.trans (AO (o:=.tup [(a_ z).1,(a_ z).2]) FV);have zm:=Yi hz;have hzx:=hx _ (SK zm).1;have hzy:=hy _ (SK zm).2;refine⟨Z,p,dx,Z,s2 _ _ h1,rK _ _,Z,Z,p,ρ,z.1,z.2,Y,kd.mono s2,g,hzx,hzy,Z,?_⟩;refine BY (λh=>?_) (λh=>?_)
   ·have e:Cn ρ xs ys=false:=by
     unfold Cn;rw[List.all_eq_false];exact⟨z,zm,by simpa using h⟩
    have q':=q _ s2;rw[e]at q';exact q'
   ·refine⟨_,Z,s2,λy Hg=>?_⟩;rw[Bz,hz]at Hg
    rcases Yr.mp Hg with m | m
    ·exact hall y m
    ·have:y=z:=by simpa using m
     rw[this];simpa using h
  ·rintro σ H' ⟨u,v,rfl,s1,hall⟩;rw[iA,Ya,CI]at hall;have e:Cn ρ xs ys=true:=by
    unfold Cn;rw[Cd];exact hall
   have q':=q _ s1;rw[e]at q';exact q'
def Ybk:Ad CV CV (AL Ws):=by nofun
def xD(F:Def K mg "check_call" Ws CV f fd)(DI:Def K mg "is_call" IC CV fI fdI)(len:mg "len"=none)(all:mg "all"=none)(TC:Be K C)(MH:JK K C fH fdH):⋯ 3 f fd CV (kQ C):=by
 have GI:⋯ 2 fI fdI CV (Rr C):=aM DI len all TC MH
 nomatch F.fn.ok Ybk
 ·obtain⟨p,t,n,ρ,xs,rfl,_⟩:=h;rfl
 ·obtain⟨p,t,n,ρ,xs,rfl,kd,g,ht,gc,hn,q⟩:=h
  ac_nf
  refine⟨_,AG (Ac (Bx (CF (AY DI GI hr (pC (pv 0) (pC (pv 1) (pC (pv 2) AB)))))) Bb Aj),?_⟩;refine⟨Z,Z,Z,p,t,n,ρ,xs,Y,kd,g,ht,by have:=gc.len;omega,λH' s'=>⟨Z,?_⟩⟩;rw[gc.is];exact Af (q H' s')
abbrev eG:LS:=["board","call","kinds"]
def lF:Ad eG ["board","call"] (AL Ry):=by nofun
def Z3b:(["number","deed","kinds","call"]:LS).Nodup:=by rfl'
def lQ(p:V×V):V:=p.1
def qv{ρ:RS}{ds:ζ}{xs:LS}{us:LV}{p:V×V->Bool}(hl:↑ds=↑us)(h:∀ i (d:LS) v,ds[i]?≈d->us[i]?≈v->p (.int (i:Nat),v)=Cn ρ xs d):
  ((GY us).filter p).map lQ=(Im ρ ds xs).map λi=>V.int (i:Nat):=by
 have e1:GY us=(List.range ↑us).map λ(i:Nat)=>(V.int (i:Nat),us.getD i .non):=by
  refine List.ext_getElem? λi=>?_;by_cases hi:i<↑us
  ·have h1:(GY us)[i]?≈((GY us)[i]'(by rw[QA];exact hi)):=Yg (by rw[QA];exact hi);obtain⟨a,b⟩:=WZ h1;rw[h1,Yj,NJ hi];refine congrArg some (Prod.ext a ?_);show _=us.getD i .non;rw[Ew,b];rfl
  ·rw[LR (by rw[QA];omega),LR (by simp;omega)]
 rw[e1,List.filter_map,BN];unfold Im;rw[hl];have e2:(List.range ↑us).filter (p ∘ λ(i:Nat)=>(V.int (i:Nat),us.getD i .non))=(List.range ↑us).filter λi=>Cn ρ xs (ds.getD i []):=by
  refine List.filter_congr λi hi=>?_;have hi:i<↑us:=List.mem_range.mp hi;have d1:ds[i]?≈(ds.getD i []):=by rw[Ew,Yg (by omega)];rfl
  have u1:us[i]?≈(us.getD i .non):=by rw[Ew,Yg hi];rfl
  exact h i _ _ d1 u1
 rw[e2];rfl
def oB(ρ:RS)(ds:ζ)(xs:LS):V×V->Bool
 | (.int i,_)=>Cn ρ xs (ds.getD i.toNat [])
 | _=>false
def va(F:Def K mg "fitting" Ry ["board","call"] f fd)(T:bN mg)(zip:mg "zip"=none)(TC:Be K C)(TB:Bh K B)(MK:EO K B fK fdK)(MP:IB K B fPl fdPl)(MD:gO K B fDe fdDe)
  (DCk:Def K mg "check_call" Ws CV fCk fdCk) (DW:Def K mg "within" P9 ["kinds","one","other"] fW fdW) (DI:Def K mg "is_call" IC CV fI fdI) (MU:mV K C fU fdU) (MC:V2 K C fC fdC) (MH:JK K C fH fdH):
  ⋯ 5 f fd ["board","call"] (jb C B):=by
 have GK:⋯ 1 fK fdK ["self"] (D9 C B):=ES MK.fn TB;have GP:⋯ 1 fPl fdPl ["self"] (Gk C B):=IE MP.fn TB;have GD:⋯ 1 fDe fdDe ["self"] (Zw C B):=jU MD.fn TB T.list;have GC:⋯ 3 fCk fdCk CV (kQ C):=xD DCk DI T.len T.all TC MH;have GW:⋯ 4 fW fdW ["kinds","one","other"] (WU C):=jV DW zip TC MU MC MH
 nomatch F.fn.ok lF
 ·obtain⟨p,k,t,ρ,n,ds,xs,rfl,_⟩:=h;rfl
 ·obtain⟨p,k,t,ρ,n,ds,xs,rfl,bd,g,gd,hn,ht,gc,q⟩:=h;obtain⟨dx,ts,us,h1,h2,h3,h4⟩:=bd.ex;have nd:=lF.nd;have AM:AX 1 _:=hr.mono (by decide);have F5:AX 3 _:=hr.mono (by decide)
  ac_nf
  refine'⟨_,pS (Cc (i:=2) nd rfl (Or.inr rfl) (Am (pv 0) TB.cl MK.me GK AM MK.b .nil Aw))
   (pS (A7 (AY DCk GC F5 (pC (pv 2) (pC (Am (pv 0) TB.cl MP.me GP AM MP.b .nil Aw) (pC (pv 1) AB)))))
   (AG (Ab ?ea))),?_⟩
  case ea=>exact(Cm ["number","deed"] ["kinds","call"] [2,1] (λ_=>Bs (osc:=AL Ry) (on:=eG) (by rfl') rfl rfl rfl) (gs (by rfl) T.enum (pC (Am (pv 0) TB.cl MD.me GD AM MD.b .nil Aw) AB))
    (λC s H fp=>V_ (K:=K) (i:=0) (j:=1) rfl rfl Z3b rfl rfl (Or.inl rfl) (Or.inl rfl) (Or.inr rfl) (Or.inr rfl))
    (λC s H fp=>WK (CF (AY DW GW hr (pC (pv 2) (pC (pv 3) (pC (pv 1) AB)))))) (λC s H fp=>pv 0))
  exists let b:=AF _ a;AF _ b _ _ _
  refine⟨Z,p,dx,Z,h1,C5 _ _ _,p,k,U,Y,bd,?_⟩;refine⟨Z,Z,p,dx,Z,h1,ID _ _ _,p,k,U,Y,bd,Z,k,t,n,ρ,xs,Y,h2,g,ht,gc,hn,λH1 s1=>?_⟩;refine⟨Z,p,dx,Z,s1 _ _ h1,jn _ _ _,p,k,U,Y,bd.mono s1,λl KW hl hD=>?_⟩;have s2:AA H1 (upd H1 l (.lst KW)):=AO hl;have hul:=↑hD;have few:=gd.few;refine⟨true,l,KW,Y,AD.of uS,tV (sL (by rw[QA];omega)) (oB ρ ds xs) lQ (λH' s'=>AD.of (s' _ _ uS)) ?_ ?_ ?_⟩
  ·intro x H' R s' hx hR;obtain⟨i,hi⟩:=IK hx;obtain⟨e1,hu⟩:=WZ hi;obtain⟨dd,hdd,t2,e2,BL⟩:=Bk hD hu;have Bc:=s1.trans (s2.trans s');have gcd:=gd.call dd (Yi hdd);rw[e2];refine⟨Z,Z,Z,k,t,t2,ρ,xs,dd,Y,h2.mono Bc,g,Bc _ _ ht,s' _ _ (s2 _ _ BL),gc.known,gcd.known,λH3 s3=>⟨Z,?_⟩⟩;have e:oB ρ ds xs x=Cn ρ xs dd:=by
    obtain⟨x1,x2⟩:=x;have e1:x1=.int (i:Nat):=e1;rw[e1];show Cn ρ xs (ds.getD ((i:Nat):Int).toNat [])=_;rw[B0,Ew,hdd];rfl
   rw[<- e];exact hR H3 s3
  ·intro x H' R s' hx _ hR;exact⟨Z,hR H' (AA.refl _)⟩
  ·intro D H' YX s' Bv;have Bc:=s1.trans (s2.trans s');refine q D H' ?_ Bc ?_
   ·cases e:H D with
    | none=>rfl
    | some u=>have:=s2 _ _ (s1 _ _ e);rw[this]at YX;cases YX
   ·rw[Bv,qv hul λi d v hd hv=>?_];show Cn ρ xs (ds.getD ((i:Nat):Int).toNat [])=_;rw[B0,Ew,hd];rfl
theorem Drawn.tup{p:χ}{H H':Hp}(d:Drawn p H H'){o:HO}(h:H p≈o)(ho:EH o){t:χ}{xs:LV}(e:H t≈(.tup xs)):H' t≈(.tup xs):=
 d.keep _ _ (λz=>by rw[z,h]at e;obtain⟨_,_,q,_⟩:=ho;rw[q]at e;cases e) e
def wL{H H':Hp}{l:χ}{ρ:RS}(h:Mf H l ρ)(s:AA H H'):Mf H' l ρ:=by
 obtain⟨vs,a,p⟩:=h;exact⟨vs,s _ _ a,Paired.mapP p λr v ⟨t,u,e,h1,h2⟩=>⟨t,u,e,s _ _ h1,s _ _ h2⟩⟩
abbrev Dt:=W.Dat
def Dr(d:LS):Dt:=.tuple (d.map W.Dat.str)
def rS{d e:LS}(h:Dr d=Dr e):d=e:=by
 unfold Dr at h;injection h with h;exact NN (λa b z=>by injection z) |>.mp h
def ip{K:Fg}{H:Hp}{t:χ}{d:LS}(h:H t≈(.tup (d.map V.str))):Rep K H (.ref t) (Dr d):=.tuple (AJ.of h) (Mw d)
theorem kI{K:Fg}{H:Hp}:∀ {ds:ζ}{vs:LV},BR H ds vs->A6 K H vs (ds.map Dr)
 | _,_,.nil=>.nil
 | _,_,.cons ⟨t,e,h⟩ r=>by rw[e];exact .cons (ip h) (kI r)
def Wf{ρ:RS}(g:Ah ρ):∀ x∈ρ.map (·.1),Bf x=true:=λx hx=>by
 obtain⟨r,hr,e⟩:=Yo.mp hx;rw[<- e];exact g.word r hr
def zE(n:Nat){x:Str}(h:Bf x=true):W.kqdOk n (.str x)=true:=by
 have q:=zA (ws:=[x]) (λy hy=>by rw[Ym.mp hy];exact h);rw[W.kqdOk]at q;have q2:W.kqdOk 8 (.str x)=true:=by simpa using q
 rw[W.kqdOk]at q2;rw[W.kqdOk];exact q2
def gj(n:Nat){d:LS}(h:∀ x∈d,Bf x=true):W.kqdOk (n + 1) (Dr d)=true:=by
 unfold Dr;rw[W.kqdOk,Cd];intro z hz;obtain⟨x,hx,rfl⟩:=Yo.mp hz;exact zE n (h x hx)
def sk(n:Nat){ds:ζ}(h:∀ d∈ds,∀ x∈d,Bf x=true):(ds.map Dr).all (W.kqdOk (n + 1))=true:=by
 rw[Cd];intro z hz;obtain⟨d,hd,rfl⟩:=Yo.mp hz;exact gj n (h d hd)
def rN(ds:ζ)(d:LS):((ds.map Dr).any λe=>Cu e (Dr d))=decide (d∈ds):=by
 by_cases h:d∈ds
 ·rw[Jb h,Ft];exact⟨Dr d,Yo.mpr ⟨d,h,Y⟩,WN _⟩
 ·rw[Jc h,SU];intro z hz;obtain⟨e,he,rfl⟩:=Yo.mp hz;rw[WA λq=>h (by rw[<- rS q];exact he)];exact Yh
structure Ycr(mg:Str->OU):Prop where
 len:mg "len"=none
 range:mg "range"=none
 tuple:mg "tuple"=none
def Z3a:(["row"]:LS).Nodup:=by rfl'
structure Ycl(mg:Str->OU):Prop where
 all:mg "all"=none
 zip:mg "zip"=none
def wB(ρ:RS)(ds:ζ)(j k:Nat):Bool:=Cn ρ (ds.getD j []) (ds.getD k [])
def Pr(W:Nat->Nat->Bool)(ξ:LN)(x:Nat):LN:=if ξ.any (λk=>W k x)=true then ξ else ξ.filter (λk=>!W x k)++[x]
def XG(W:Nat->Nat->Bool)(l:LN):LN:=l.filter λk=>!(l.any λj=>!decide (j=k)&&W j k)
structure Gg(W:Nat->Nat->Bool)(l ξ:LN):Prop where
 sub:ξ.Sublist l
 min:∀ k∈ξ,∀ j∈l,W j k=true->j=k
 dom:∀ j∈l,∃ k∈ξ,k=j\/W k j=true
def Gg.nil(W:Nat->Nat->Bool):Gg W [] []:=⟨.slnil,(λk h=>nomatch h),(λk h=>nomatch h)⟩
def Gg.step{W:Nat->Nat->Bool}{l ξ:LN}{x:Nat}{S:Nat->Prop}(tr:∀ a b c,S a->S b->S c->W a b=true->W b c=true->W a c=true)(an:∀ a b,S a->S b->W a b=true->W b a=true->a=b)(hl:∀ k∈l,S k)(hx:S x)(h:Gg W l ξ):Gg W (l++[x]) (Pr W ξ x):=by
 have ns:∀ k∈ξ,S k:=λk hk=>hl k (h.sub.subset hk);unfold Pr;by_cases c:ξ.any (λk=>W k x)=true
 ·rw[if_pos c];obtain⟨k0,Dc,w0⟩:=Ft.mp c;refine⟨h.sub.trans (List.sublist_append_left _ _),λk hk j hj w=>?_,λj hj=>?_⟩
  ·rcases Yr.mp hj with z | z
   ·exact h.min k hk j z w
   ·have e:j=x:=Ym.mp z;subst e;have e1:=h.min k hk k0 (h.sub.subset Dc) (tr k0 j k (ns _ Dc) hx (ns _ hk) w0 w);rw[e1]at w0;exact an j k hx (ns _ hk) w w0
  ·rcases Yr.mp hj with z | z
   ·exact h.dom j z
   ·rw[Ym.mp z];exact⟨k0,Dc,.inr w0⟩
 ·rw[if_neg c];have nc:∀ k∈ξ,¬ W k x=true:=λk hk w=>c (Ft.mpr ⟨k,hk,w⟩);refine⟨List.Sublist.append (List.filter_sublist.trans h.sub) (List.Sublist.refl _),λk hk j hj w=>?_,λj hj=>?_⟩
  ·rcases Yr.mp hk with y | y
   ·obtain⟨y1,y2⟩:=NI.mp y
    rcases Yr.mp hj with z | z
    ·exact h.min k y1 j z w
    ·rw[Ym.mp z]at w;rw[w]at y2;cases y2
   ·have e:k=x:=Ym.mp y;subst e
    rcases Yr.mp hj with z | z
    ·obtain⟨k0,Dc,d⟩:=h.dom j z
     rcases d with d | d
     ·rw[d]at Dc;exact absurd w (nc j Dc)
     ·exact absurd (tr k0 j k (ns _ Dc) (hl _ z) hx d w) (nc k0 Dc)
    ·exact Ym.mp z
  ·rcases Yr.mp hj with z | z
   ·obtain⟨k0,Dc,d⟩:=h.dom j z;by_cases wx:W x k0=true
    ·refine⟨x,by simp,.inr ?_⟩
     rcases d with d | d
     ·rw[<- d];exact wx
     ·exact tr x k0 j hx (ns _ Dc) (hl _ z) wx d
    ·exact⟨k0,LQ _ (NI.mpr ⟨Dc,by simpa using wx⟩),d⟩
   ·rw[Ym.mp z];exact⟨x,by simp,.inl rfl⟩
theorem aN{α:Type}[DecidableEq α]:∀ {ξ l:List α},ξ.Sublist l->l.Nodup->ξ=l.filter λk=>decide (k∈ξ)
 | _,_,.slnil,_=>rfl
 | _,_,.cons a h,nd=>by
  obtain⟨n1,n2⟩:=Fs.mp nd;rw[IQ,if_neg (by simpa using λm=>n1 (h.subset m))];exact aN h n2
 | _,_,.cons₂ (l₁:=n) (l₂:=l) a h,nd=>by
  obtain⟨n1,n2⟩:=Fs.mp nd;rw[IQ,if_pos (by simp)]
  congr 1
  have e:(l.filter λk=>decide (k∈a :: n))=l.filter λk=>decide (k∈n):=List.filter_congr λk hk=>by
   have:k≠a:=λz=>n1 (by rw[<- z];exact hk);simp[this]
  rw[e];exact aN h n2
def Gg.is{W:Nat->Nat->Bool}{l ξ:LN}(nd:l.Nodup)(h:Gg W l ξ):ξ=XG W l:=by
 refine(aN h.sub nd).trans ?_;unfold XG;refine List.filter_congr λk hk=>?_;rw[Gm,decide_eq_true_iff,Bool.not_eq_true',SU];constructor
 ·intro hm j hj z;rw[EF]at z;have:=h.min k hm j hj z.2;simp[this]at z
 ·intro hm;obtain⟨k0,Dc,d⟩:=h.dom k hk
  rcases d with d | d
  ·rw[<- d];exact Dc
  ·by_cases e:k0=k
   ·rw[<- e];exact Dc
   ·exact absurd (by rw[EF];exact⟨by simp[e],d⟩) (hm k0 (h.sub.subset Dc))
def kP{ρ:RS}{x y:Str}:Mm ρ x y=true↔Graph.Reach (BU ρ) x y:=by
 unfold Mm;exact @decide_eq_true_iff _ (Classical.propDecidable _)
def Z17{ρ:RS}(g:Ah ρ):∃ rk:Str->Nat,∀ a b,b∈BU ρ a->rk b<rk a:=by
 obtain⟨rk,hrk⟩:=g.rank;refine⟨rk,λa b hb=>?_⟩;unfold BU at hb;cases e:ρ.lookup a with
 | none=>rw[e]at hb;simp at hb
 | some us =>
  rw[e]at hb;have hm:(a,us)∈ρ:=JL e;exact hrk (a,us) hm b hb
def vq{ρ:RS}(g:Ah ρ){x y:Str}(h1:Graph.Reach (BU ρ) x y)(h2:Graph.Reach (BU ρ) y x):x=y:=by
 obtain⟨rk,hrk⟩:=Z17 g;refine bc λne=>?_;have a:=Graph.Reach.rank_lt hrk h1 ne;have b:=Graph.Reach.rank hrk h2;omega
def wK{ups:Str->LS}{x y z:Str}(h1:Graph.Reach ups x y)(h2:Graph.Reach ups y z):Graph.Reach ups x z:=h1.trans h2
def kC{ρ:RS}{xs ys:LS}:Cn ρ xs ys=true↔∀(i:Nat) (x y:Str),xs[i]?≈x->ys[i]?≈y->Graph.Reach (BU ρ) x y:=by
 unfold Cn;rw[Cd];constructor
 ·intro h i x y hx hy;have hz:(xs.zip ys)[i]?≈(x,y):=by rw[Lf];exact⟨hx,hy⟩
  exact kP.mp (h _ (Yi hz))
 ·intro h p hp;obtain⟨i,hi⟩:=IK hp;rw[Lf]at hi;exact kP.mpr (h i _ _ hi.1 hi.2)
def xG{ρ:RS}{n:Nat}{xs ys zs:LS}(h1:↑xs=n)(h2:↑ys=n)(h3:↑zs=n)(a:Cn ρ xs ys=true)(b:Cn ρ ys zs=true):Cn ρ xs zs=true:=by
 rw[kC]at a b ⊢;intro i x z hx hz;have hi:i<↑ys:=by have:=(Yf.mp hx).1;omega
 exact wK (a i x _ hx (Yg hi)) (b i _ z (Yg hi) hz)
def wc{ρ:RS}(g:Ah ρ){n:Nat}{xs ys:LS}(h1:↑xs=n)(h2:↑ys=n)(a:Cn ρ xs ys=true)(b:Cn ρ ys xs=true):xs=ys:=by
 rw[kC]at a b;refine List.ext_getElem (h1.trans h2.symm) λi i1 i2=>?_;exact vq g (a i _ _ (Yg i1) (Yg i2)) (b i _ _ (Yg i2) (Yg i1))
def K0{ds:ζ}{j:Nat}(h:j<↑ds):ds[j]?≈(ds.getD j []):=by
 rw[Ew,Yg h];rfl
section
variable {ρ:RS}{n:Nat}{ds:ζ}(g:Ah ρ)(gd:CG ρ n ds)
include gd in
def tE(a b c:Nat)(ha:a<↑ds)(hb:b<↑ds)(hc:c<↑ds)(h1:wB ρ ds a b=true)(h2:wB ρ ds b c=true):wB ρ ds a c=true :=
 xG (gd.call _ (Yi (K0 ha))).len (gd.call _ (Yi (K0 hb))).len (gd.call _ (Yi (K0 hc))).len h1 h2
include g gd in
def Z1n(a b:Nat)(ha:a<↑ds)(hb:b<↑ds)(h1:wB ρ ds a b=true)(h2:wB ρ ds b a=true):a=b:=by
 have e:=wc g (gd.call _ (Yi (K0 ha))).len (gd.call _ (Yi (K0 hb))).len h1 h2;have h3:=K0 ha;have h4:=K0 hb;rw[e]at h3;exact(List.getElem?_inj ha gd.nd).mp (h3.trans h4.symm)
include g gd in
def uE{l ξ:LN}{x:Nat}(hl:∀ k∈l,k<↑ds)(hx:x<↑ds)(h:Gg (wB ρ ds) l ξ):Gg (wB ρ ds) (l++[x]) (Pr (wB ρ ds) ξ x):=
 h.step (S:=λk=>k<↑ds) (tE gd) (Z1n g gd) hl hx
end
def kM(C:χ):Sp:=λvs H Q _=>∃(p ld ln:χ) (x n:Nat) (ρ:RS) (ds:ζ) (us:LV) (ξ:LN),vs=[.ref p,.ref ld,.ref ln,.int x]/\CS C H p ρ/\Ah ρ/\H ld≈(.lst us)/\BR H ds us/\CG ρ n ds/\H ln≈(.lst (ξ.map An))/\(∀ k∈ξ,k<↑ds)/\x<↑ds/\↑ξ<=64 /\
 ∀ l H',AA H H'->(l=ln\/H l=none)->H' l≈(.lst ((Pr (wB ρ ds) ξ x).map An))->Q (.ref l) H'
def wV(ρ:RS)(ds:ζ)(x:Nat):V->V
 | .int j=>.bl (wB ρ ds j.toNat x)
 | _=>.non
def eB(ρ:RS)(ds:ζ)(x:Nat):V->Bool
 | .int j=>!wB ρ ds x j.toNat
 | _=>false
def zd(ρ:RS)(ds:ζ)(x:Nat)(ξ:LN):((ξ.map An).filter λ_=>true).map (wV ρ ds x)=(ξ.map λk=>wB ρ ds k x).map V.bl:=by
 rw[EB.mpr (λ_ _=>rfl),BN,BN];rfl
def Z26(ρ:RS)(ds:ζ)(x:Nat)(ξ:LN):((ξ.map An).filter (eB ρ ds x)).map (λv=>v)=(ξ.filter λk=>!wB ρ ds x k).map An:=by
 rw[Gn,List.filter_map];rfl
def gi:(["kept","kinds","deeds","number"]:LS).Nodup:=by rfl'
abbrev KZ:LS:=["kinds","deeds","near","number"]
def Ybe:Ad KZ KZ (AL QI):=by nofun
def wj(F:Def K mg "nearest_with" QI KZ f fd)(any:mg "any"=none)(DW:Def K mg "within" P9 ["kinds","one","other"] fW fdW)(GW:⋯ 4 fW fdW ["kinds","one","other"] (WU C)):
  ⋯ 5 f fd KZ (kM C):=by
 nomatch F.fn.ok Ybe
 ·obtain⟨p,ld,ln,x,n,ρ,ds,us,ξ,rfl,_⟩:=h;rfl
 ·obtain⟨p,ld,ln,x,n,ρ,ds,us,ξ,rfl,kd,g,Ph,hD,gd,DM,hk,hx,hn,q⟩:=h
  ac_nf
  refine'⟨_,pS (Ac (CF (Ai (Zv rfl) (by rfl) any PyProof.Rows.boot_any (pC ?ea AB))) (AG (Ab (pv 2))) Aj) (AG (Ab (Al ZF ?eb (C1 (pC (pv 3) AB))))),?_⟩
  case ea=>exact(Cm ["kept"] ["kinds","deeds","number"] [0,1,3] (λ_=>Bs (osc:=AL QI) (on:=KZ) (by rfl') rfl rfl rfl) (CT (pv 2)) (λC s H fp=>Bl (i:=0) gi rfl (Or.inl rfl) (Or.inr rfl)) (λC s H fp=>CU)
    (λC s H fp=>AY DW GW hr (pC (pv 1) (pC (A9 (r:=Cz K) Bi (pv 2) (pv 0) (λ_ _=>rfl)) (pC (A9 (r:=Cz K) Bi (pv 2) (pv 3) (λ_ _=>rfl)) AB)))))
  case eb=>exact(Cm ["kept"] ["kinds","deeds","number"] [0,1,3] (λ_=>Bs (osc:=AL QI) (on:=KZ) (by rfl') rfl rfl rfl) (CT (pv 2)) (λC s H fp=>Bl (i:=0) gi rfl (Or.inl rfl) (Or.inr rfl))
    (λC s H fp=>WK (Bx (CF (AY DW GW hr (pC (pv 1) (pC (A9 (r:=Cz K) Bi (pv 2) (pv 3) (λ_ _=>rfl)) (pC (A9 (r:=Cz K) Bi (pv 2) (pv 0) (λ_ _=>rfl)) AB))))))) (λC s H fp=>pv 0))
  exists AF _ a _ _ _
  have hul:=↑hD;have at_:∀(H':Hp) (k:Nat),AA H H'->k<↑ds->∃ t,Ej us ((k:Nat):Int)≈(.ref t)/\H' t≈(.tup ((ds.getD k []).map V.str)):=λH' k s' hk=>by
   have CA:k<↑us:=by omega
   obtain⟨dd,hdd,t,e,ht⟩:=Bk hD (Yg CA);refine⟨t,Es ((Yg CA).trans (congrArg some e)),?_⟩;have e2:ds.getD k []=dd:=by rw[Ew,hdd];rfl
   rw[e2];exact s' _ _ ht
  have kn:∀ k,k<↑ds->∀ y∈ds.getD k [],y∈ρ.map (·.1):=λk hk=>(gd.call _ (Yi (K0 hk))).known;refine⟨Z,ln,Y,⟨_,AD.of DM⟩,Mt (DV (xs:=ξ.map An)) (sL (by rw[Ya];omega)) (λ_=>true) (wV ρ ds x) (λH' s'=>s'.seq (AD.of DM)) ?_ ?_ ?_⟩
  ·intro v H' R s' _ hR;exact hR H' (AA.refl _)
  ·intro v H' R s' hv _ hR;obtain⟨k,CA,rfl⟩:=Yo.mp hv;obtain⟨t1,a1,h1⟩:=at_ H' k s' (hk k CA);obtain⟨t2,a2,h2⟩:=at_ H' x s' hx;exact⟨Z,Z,Z,ld,_,_,Z,Y,AD.of (s' _ _ Ph),a1,Z,Z,ld,_,_,Z,Y,AD.of (s' _ _ Ph),a2,p,t1,t2,ρ,_,Z,kd.mono s',g,h1,h2,kn k (hk k CA),kn x hx,λDY DJ=>hR DY DJ⟩
  ·intro D H1 YX s1 Aa;rw[zd]at Aa;have eA:(ξ.map λk=>wB ρ ds k x).any id=ξ.any λk=>wB ρ ds k x:=by rw[List.any_map];rfl
   refine⟨D,Z,AD.of Aa,_,congrArg V.bl eA,?_⟩;refine BY (λh=>?_) (λh=>?_)
   ·refine⟨Z,q ln H1 s1 (.inl rfl) ?_⟩;unfold Pr;rw[if_pos h];exact s1 _ _ DM
   ·refine⟨Z,ln,Y,⟨_,AD.of (s1 _ _ DM)⟩,Mt (DV (xs:=ξ.map An)) (sL (by rw[Ya];omega)) (eB ρ ds x) (λv=>v) (λH' s'=>s'.seq (AD.of (s1 _ _ DM))) ?_ ?_ ?_⟩
    ·intro v H' R s' hv hR;obtain⟨k,CA,rfl⟩:=Yo.mp hv;have s2:=s1.trans s';obtain⟨t1,a1,h1⟩:=at_ H' k s2 (hk k CA);obtain⟨t2,a2,h2⟩:=at_ H' x s2 hx;exact⟨Z,Z,Z,ld,_,_,Z,Y,AD.of (s2 _ _ Ph),a2,Z,Z,ld,_,_,Z,Y,AD.of (s2 _ _ Ph),a1,p,t2,t1,ρ,_,Z,kd.mono s2,g,h2,h1,kn x hx,kn k (hk k CA),λDY DJ=>⟨Z,hR DY DJ⟩⟩
    ·intro v H' R s' hv _ hR;exact⟨Z,hR H' (AA.refl _)⟩
    ·intro D2 H2 fh s2 Ap;rw[Z26]at Ap;have fl:↑(ξ.filter λk=>!wB ρ ds x k)<=64:=Yq (JP _ _) hn;refine⟨Z,Q,λl3 Vg=>⟨D2,l3,_,Z,Y,(AO Vg) _ _ Ap,uS,sL (by rw[Ya];show _ + 1<=100000;omega),λl4 RB=>?_⟩⟩;have Cr:=s1.trans s2;have s3:=Cr.trans (AO (o:=.lst [.int x]) Vg);refine q l4 _ (s3.trans (AO RB)) (.inr (s3.free RB)) ?_;rw[uS];unfold Pr;rw[if_neg h,Yy];rfl
def kS(C B:χ):Sp:=λvs H Q _=>∃(p k l:χ) (ρ:RS) (n:Nat) (ds:ζ) (ms:LN),vs=[.ref p,.ref l]/\A5 C B H p k ρ n ds/\Ah ρ/\CG ρ n ds/\H l≈(.lst (ms.map An))/\(∀ j∈ms,j<↑ds)/\ms.Nodup/\↑ms<=64 /\
 ∀ l' H',AA H H'->H l'=none->H' l'≈(.lst ((XG (wB ρ ds) ms).map An))->Q (.ref l') H'
abbrev pz:LS:=["board","numbers","kinds","deeds","near","number"]
def lG:Ad pz ["board","numbers"] (AL W8):=by nofun
def Z3c{ms:LN}{i:Nat}{v:V}(h:(ms.map An)[i]?≈v):∃ x,ms[i]?≈x/\v=.int (x:Nat):=by
 obtain⟨x,h1,h2⟩:=jk h;exact⟨x,h1,h2.symm⟩
def xF(F:Def K mg "nearest_among" W8 ["board","numbers"] f fd)(list:mg "list"=none)(any:mg "any"=none)(TB:Bh K B)(MK:EO K B fK fdK)(MD:gO K B fDe fdDe)(DN:Def K mg "nearest_with" QI KZ fN fdN)
  (DW:Def K mg "within" P9 ["kinds","one","other"] fW fdW) (GW:⋯ 4 fW fdW ["kinds","one","other"] (WU C)):⋯ 6 f fd ["board","numbers"] (kS C B):=by
 have GK:⋯ 1 fK fdK ["self"] (D9 C B):=ES MK.fn TB;have GD:⋯ 1 fDe fdDe ["self"] (Zw C B):=jU MD.fn TB list;have GN:⋯ 5 fN fdN KZ (kM C):=wj DN any DW GW
 nomatch F.fn.ok lG
 ·obtain⟨p,k,l,ρ,n,ds,ms,rfl,_⟩:=h;rfl
 ·obtain⟨p,k,l,ρ,n,ds,ms,rfl,bd,g,gd,hl,hms,Ib,hml,q⟩:=h;obtain⟨dx,ts,oo,h1,h2,h3,h4⟩:=bd.ex;have nd:=lG.nd;have AM:AX 1 _:=hr.mono (by decide)
  ac_nf
  refine⟨_,(pS (sE 2 nd (Am (pv 0) TB.cl MK.me GK AM MK.b .nil Aw))
   (pS (sE 3 nd (Am (pv 0) TB.cl MD.me GD AM MD.b .nil Aw))
   (pS (sE 4 nd (C1 AB))
   (pS (Ba Yz rfl (CT (pv 1)) (gE 5 nd) (AG (sE 4 nd (AY DN GN hr (pC (pv 2) (pC (pv 3) (pC (pv 4) (pC (pv 5) AB))))))))
   (AG (Ab (pv 4))))))),?_⟩
  exists let b:=_;let c:=AF (B5 _ _ b) a;let e:=AF _ c;let f:=AF _ e;AF _ f _ _ _
  refine⟨Z,p,dx,Z,h1,C5 _ _ _,p,k,U,Y,bd,?_⟩;refine⟨Z,p,dx,Z,h1,jn _ _ _,p,k,U,Y,bd,λld us Ph hD=>?_⟩;have s1:AA H (upd H ld (.lst us)):=AO Ph;refine⟨Bm _,λl0 B3=>?_⟩;have s2:AA H (upd (upd H ld (.lst us)) l0 (.lst [])):=s1.trans (AO B3);have cZ:(upd (upd H ld (.lst us)) l0 (.lst [])) ld≈(.lst us):=(AO B3) _ _ uS;have cc:H l0=none:=s1.free B3;let A8:NW:=λi σ H'=>∃(ln:χ) (ξ:LN) (x:OV),σ=[↥(.ref p),↥(.ref l),↥(.ref k),↥(.ref ld),↥(.ref ln),x]/\AA H H'/\H' ld≈(.lst us)/\H ln=none/\H' ln≈(.lst (ξ.map An))/\Gg (wB ρ ds) (ms.take i) ξ;refine⟨Z,l,Y,⟨_,AD.of (s2 _ _ hl)⟩,CH (DV (xs:=ms.map An)) A8
   ⟨l0,[],none,Y,s2,cZ,cc,uS,Gg.nil _⟩ (λi σ H' _ h0=>by obtain⟨_,_,_,_,s',_⟩:=h0;exact AD.of (s' _ _ hl)) ?_ ?_⟩
  ·rintro i v σ H' hi ⟨ln,ξ,x0,rfl,s',Nh,hlnH,DM,ok⟩;obtain⟨x,hx,rfl⟩:=Z3c hi;have nl:↑ξ<=↑ms:=Yq ok.sub.length_le (by rw[Yv];omega);refine⟨Z,Z,Z,Z,k,ld,ln,x,n,ρ,ds,us,ξ,Y,h2.mono s',g,Nh,hD.mono s',gd,DM,λj hj=>hms j (List.mem_of_mem_take (ok.sub.subset hj)),hms x (Yi hx),O,λl' H2 DJ hor Bv=>?_⟩;refine⟨l',_,Z,s'.trans DJ,DJ _ _ Nh,?_,Bv,?_⟩
   ·rcases hor with z | z
    ·rw[z];exact hlnH
    ·exact s'.free z
   ·rw[Bz,hx];exact uE g gd (λj hj=>hms j (List.mem_of_mem_take hj)) (hms x (Yi hx)) ok
  ·rintro σ H' ⟨ln,ξ,x0,rfl,s',Nh,hlnH,DM,ok⟩;rw[Ya,CI]at ok;refine⟨Z,q ln H' s' hlnH ?_⟩;rw[DM,ok.is Ib]
def De(ρ:RS)(ds:ζ)(xs:LS):LN:=XG (wB ρ ds) (Im ρ ds xs)
def jd(C B:χ):Sp:=λvs H Q _=>∃(p k t:χ) (ρ:RS) (n:Nat) (ds:ζ) (xs:LS),vs=[.ref p,.ref t]/\A5 C B H p k ρ n ds/\Ah ρ/\CG ρ n ds/\n<=4/\H t≈(.tup (xs.map V.str))/\Bq ρ n xs /\
 ∀ l H',H l=none->AA H H'->H' l≈(.lst ((De ρ ds xs).map An))->Q (.ref l) H'
def zk{ρ:RS}{ds:ζ}{xs:LS}:∀ k∈Im ρ ds xs,k<↑ds:=λk hk=>List.mem_range.mp (NI.mp hk).1
def zo(ρ:RS)(ds:ζ)(xs:LS):(Im ρ ds xs).Nodup:=List.nodup_range.filter _
def qu(ρ:RS)(ds:ζ)(xs:LS):↑(Im ρ ds xs)<=↑ds:=by
 unfold Im;refine Yq (JP _ _) ?_;rw[QT];exact Yd _
def Ybd:Ad ["board","call"] ["board","call"] (AL Wd):=by nofun
def vc(F:Def K mg "nearest" Wd ["board","call"] f fd)(DA:Def K mg "nearest_among" W8 ["board","numbers"] fA fdA)(GA:⋯ 6 fA fdA ["board","numbers"] (kS C B))(DF:Def K mg "fitting" Ry ["board","call"] fF fdF)(GF:⋯ 5 fF fdF ["board","call"] (jb C B)):
  ⋯ 7 f fd ["board","call"] (jd C B):=by
 nomatch F.fn.ok Ybd
 ·obtain⟨p,k,t,ρ,n,ds,xs,rfl,_⟩:=h;rfl
 ·obtain⟨p,k,t,ρ,n,ds,xs,rfl,bd,g,gd,hn,ht,gc,q⟩:=h;have VZ:AX 5 _:=hr.mono (by decide);have few:=gd.few;have fl:=qu ρ ds xs
  ac_nf
  refine⟨_,AG (Ab (AY DA GA hr (pC (pv 0) (pC (AY DF GF VZ (pC (pv 0) (pC (pv 1) AB))) AB)))),?_⟩;refine⟨Z,Z,Z,p,k,t,U,xs,Y,bd,g,gd,hn,ht,gc,λl H1 hl s1 Aa=>?_⟩;exact⟨p,k,l,U,Im ρ ds xs,Y,bd.mono s1,g,gd,Aa,zk,zo _ _ _,O,λl' H2 s2 Bv h2=>q l' H2 (s1.free Bv) (s1.trans s2) h2⟩
def Mb:LN->LV
 | []=>[.str "none"]
 | [k]=>[.str "deed",An k]
 | k :: j :: _=>[.str "clash",An k,An j]
def iy:Sp:=λvs H Q _=>∃(l:χ) (ξ:LN),vs=[.ref l]/\H l≈(.lst (ξ.map An))/\∀ t H',H t=none->AA H H'->H' t≈(.tup (Mb ξ))->Q (.ref t) H'
def yL:Ad ["near"] ["near"] (AL We):=by nofun
def ve(F:Def K mg "told_of" We ["near"] f fd)(len:mg "len"=none):⋯ 1 f fd ["near"] iy:=by
 nomatch F.fn.ok yL
 ·obtain⟨l,ξ,rfl,_⟩:=h;rfl
 ·obtain⟨l,ξ,rfl,hl,q⟩:=h
  ac_nf
  refine⟨_,pS (Ac (Bx (Z3 (pv 0) (λ_=>rfl))) (AG (Ab (C2 (pC Gb AB)))) Aj)
   (pS (Ac (Ax Bw (Ai B_ (by rfl) len Yx (pC (pv 0) AB)) AI (Ao _)) (AG (Ab (C2 (pC Gb (pC (A9 Bi (pv 0) AI (λ_ _=>rfl)) AB))))) Aj)
   (AG (Ab (C2 (pC Gb (pC (A9 Bi (pv 0) AI (λ_ _=>rfl)) (pC (A9 Bi (pv 0) AI (λ_ _=>rfl)) AB))))))),?_⟩
  exists let b:=_;let c:=AF (Bp _ b _) a;AF _ c _ _ _
  cases ξ with
  | nil=>exact⟨Z,false,.inl ⟨[],AD.of hl,Y⟩,Az ⟨Q,λt ht=>q t _ ht (AO ht) uS⟩⟩
  | cons k r =>
   refine⟨Z,true,.inl ⟨_,AD.of hl,Y⟩,Af ?_⟩;refine⟨Z,l,Z,.inl (AD.of hl),Y,Z,?_⟩;cases r with
   | nil =>
    refine BY (λ_=>?_) (λh=>absurd (by rfl) h);exact⟨Z,l,_,_,Z,Y,AD.of hl,Y,J,λt ht=>q t _ ht (AO ht) uS⟩
   | cons j r =>
    refine BY (λh=>?_) (λ_=>?_)
    ·have h:=Je h;injection h with h;simp at h;omega
    ·exact⟨Z,l,_,_,Z,Y,AD.of hl,Es (j:=0) rfl,Z,l,_,_,Z,Y,AD.of hl,Es (j:=1) rfl,sL (by show 3<=100000;decide),λt ht=>q t _ ht (AO ht) uS⟩
def V8(C B:χ):Sp:=λvs H Q _=>∃(p k t:χ) (ρ:RS) (n:Nat) (ds:ζ) (xs:LS),vs=[.ref p,.ref t]/\A5 C B H p k ρ n ds/\Ah ρ/\CG ρ n ds/\n<=4/\H t≈(.tup (xs.map V.str))/\Bq ρ n xs /\
 ∀ l H',H l=none->AA H H'->H' l≈(.tup (Mb (De ρ ds xs)))->Q (.ref l) H'
def Ybc:Ad ["board","call"] ["board","call"] (AL Py):=by nofun
def Z2u(F:Def K mg "told" Py ["board","call"] f fd)(DN:Def K mg "nearest" Wd ["board","call"] fN fdN)(GN:⋯ 7 fN fdN ["board","call"] (jd C B))(DO:Def K mg "told_of" We ["near"] fO fdO)(len:mg "len"=none):
  ⋯ 8 f fd ["board","call"] (V8 C B):=by
 have GO:⋯ 1 fO fdO ["near"] iy:=ve DO len
 nomatch F.fn.ok Ybc
 ·obtain⟨p,k,t,ρ,n,ds,xs,rfl,_⟩:=h;rfl
 ·obtain⟨p,k,t,ρ,n,ds,xs,rfl,bd,g,gd,hn,ht,gc,q⟩:=h;have AM:AX 1 _:=hr.mono (by decide)
  ac_nf
  refine⟨_,AG (Ab (AY DO GO AM (pC (AY DN GN hr (pC (pv 0) (pC (pv 1) AB))) AB))),?_⟩;refine⟨Z,Z,p,k,t,U,xs,Y,bd,g,gd,hn,ht,gc,λl H1 hl s1 Aa=>?_⟩;exact⟨l,Z,Aa,λt' H2 Eh s2 h2=>q t' H2 (s1.free Eh) (s1.trans s2) h2⟩
def V1(K:Fg):Sp:=λvs H Q _=>∃(a:χ) (ns:τ),vs=[.ref a]/\AD K H a (ns.map V.int)/\↑ns<=63/\∀ H',Q (.bl true) H'
def Dx:LN->List Dt
 | []=>[.str "none"]
 | [k]=>[.str "deed",SH k]
 | k :: j :: _=>[.str "clash",SH k,SH j]
def uj{K:Fg}{H:Hp}:∀ ξ:LN,A6 K H (Mb ξ) (Dx ξ)
 | []=>.cons (.str _) .nil
 | [k]=>.cons (.str _) (.cons (.int _) .nil)
 | k :: j :: _=>.cons (.str _) (.cons (.int _) (.cons (.int _) .nil))
def WS{K:Fg}{H:Hp}{t:χ}{ξ:LN}(h:H t≈(.tup (Mb ξ))):Rep K H (.ref t) (.tuple (Dx ξ)):=.tuple (AJ.of h) (uj ξ)
def yZ(n:Nat):W.kqdOk n (.str "none")=true:=by rw[W.kqdOk];rfl'
def yY(n:Nat):W.kqdOk n (.str "deed")=true:=by rw[W.kqdOk];rfl'
def yE(n:Nat):W.kqdOk n (.str "clash")=true:=by rw[W.kqdOk];rfl'
def nY(n k:Nat):W.kqdOk n (SH k)=true:=by unfold SH;rw[W.kqdOk]
def WQ(n:Nat):∀ ξ:LN,W.kqdOk (n + 1) (.tuple (Dx ξ))=true
 | []=>by rw[W.kqdOk];simp[Dx,yZ]
 | [k]=>by rw[W.kqdOk];simp[Dx,yY,nY]
 | k :: j :: _=>by rw[W.kqdOk];simp[Dx,yE,nY]
def Ck(cs:ζ)(ws:LS):ζ:=cs.flatMap λc=>ws.map λx=>c++[x]
def EL(wss:ζ):ζ:=wss.foldl Ck [[]]
def Mx(wss:ζ)(ws:LS):EL (wss++[ws])=Ck (EL wss) ws:=by
 unfold EL;rw[SQ];rfl
def j7(cs:ζ)(ws:LS):↑(Ck cs ws)=↑cs * ↑ws:=by
 unfold Ck
 induction cs with
 | nil=>simp
 | cons c r ih =>
  rw[QS,Yu,ih,Ya,Bt,Nat.add_mul,Nat.one_mul,Nat.add_comm]
def wD(cs:ζ)(ws:LS){i:Nat}{c:LS}(h:cs[i]?≈c):Ck (cs.take (i + 1)) ws=Ck (cs.take i) ws++ws.map λx=>c++[x]:=by
 unfold Ck;rw[Bz,h,List.flatMap_append];simp
theorem iP:∀(wss cs:ζ) (acc:ζ) (m:Nat),(∀ c∈acc,↑c=m)->∀ c∈wss.foldl Ck acc,↑c=m + ↑wss
 | [],_,acc,m,h,c,hc=>h c hc
 | ws :: r,cs,acc,m,h,c,hc=>by
  have:=iP r cs (Ck acc ws) (m + 1) (λd hd=>by
   obtain⟨e,he,hd⟩:=List.mem_flatMap.mp hd;obtain⟨x,_,rfl⟩:=Yo.mp hd;rw[Yu,h e he];rfl) c hc
  rw[this,Bt];omega
def ic{wss:ζ}{c:LS}(h:c∈EL wss):↑c=↑wss:=by
 have:=iP wss [] [[]] 0 (λd hd=>by rw[Ym.mp hd];rfl) c h;omega
theorem iQ:∀(wss:ζ) (acc:ζ) (S:Str->Prop),(∀ ws∈wss,∀ x∈ws,S x)->(∀ c∈acc,∀ x∈c,S x)->∀ c∈wss.foldl Ck acc,∀ x∈c,S x
 | [],acc,S,_,h,c,hc=>h c hc
 | ws :: r,acc,S,hw,h,c,hc=>iQ r (Ck acc ws) S (λEG cP=>hw EG (by simp[cP])) (λd hd=>by
   obtain⟨e,he,hd⟩:=List.mem_flatMap.mp hd;obtain⟨y,hy,rfl⟩:=Yo.mp hd;intro x hx
   rcases Yr.mp hx with z | z
   ·exact h e he x z
   ·rw[Ym.mp z];exact hw ws (by simp) y hy) c hc
def BR.append{H:Hp}{ds es:ζ}{us vs:LV}(h:BR H ds us)(k:BR H es vs):BR H (ds++es) (us++vs):=by
 unfold BR at *
 induction h with
 | nil=>exact k
 | cons r t ih=>exact .cons r ih
def BR.len{H:Hp}{ds:ζ}{us:LV}(h:BR H ds us):↑ds=↑us:=BO h
def lg(c:LS)(x v:V)(H:Hp):Prop:=∃(t:χ) (z:Str),x=.str z/\v=.ref t/\H t≈(.tup ((c++[z]).map V.str))
theorem iH{H:Hp}{c:LS}:∀ {ws:LS}{ys:LV},Paired (λx v=>lg c x v H) (ws.map V.str) ys->BR H (ws.map λx=>c++[x]) ys
 | [],_,h=>by cases h;exact .nil
 | x :: r,_,h=>by
  cases h with
  | cons a b =>
   obtain⟨t,z,e1,e2,e3⟩:=a;injection e1 with e1;subst e1;exact .cons ⟨t,e2,e3⟩ (iH b)
def xy:(["thing","start"]:LS).Nodup:=by rfl'
def Xa(H:Hp)(wss:ζ)(vs:LV):Prop:=Paired (λ(ws:LS) v=>∃ r,v=V.ref r/\H r≈(.lst (ws.map V.str))) wss vs
def Wi:Sp:=λvs H Q _=>∃(l:χ) (wss:ζ) (us:LV),vs=[.ref l]/\H l≈(.lst us)/\Xa H wss us/\(∀ i,↑(EL (wss.take i))<=10000)/\(∀ ws∈wss,↑ws<=1000)/\↑wss<=100 /\
 ∀(lf:χ) (ys:LV) (H':Hp),H lf=none->AA H H'->H' lf≈(.lst ys)->BR H' (EL wss) ys->Q (.ref lf) H'
abbrev eF:LS:=["rows","found","row","longer","start"]
def lI:Ad eF ["rows"] (AL M8):=by nofun
def aS(F:Def K mg "one_of_each" M8 ["rows"] f fd):⋯ 1 f fd ["rows"] Wi:=by
 nomatch F.fn.ok lI
 ·obtain⟨l,wss,us,rfl,_⟩:=h;rfl
 ·obtain⟨l,wss,us,rfl,hl,hR,hb,hw,hn,q⟩:=h;have nd:=lI.nd;have hul:↑wss=↑us:=BO hR
  ac_nf
  refine'⟨_,(pS (sE 1 nd (C1 (pC (C2 AB) AB)))
   (pS (Ba Yz rfl (CT (pv 0)) (gE 2 nd)
    (pS (sE 3 nd (C1 AB))
   (pS (Ba Yz rfl (CT (pv 1)) (Bl (i:=4) nd rfl (Or.inr rfl)) (AG (A7 (Iw Gq PySem.F.slot_list_extend PySem.F.type_list_extend uB (pv 3) (pC ?ea AB)))))
   (AG (sE 1 nd (pv 3))))))
   (AG (Ab (pv 1))))),?_⟩
  case ea=>exact(Cm ["thing"] ["start"] [4] (λ_=>Bs (osc:=AL M8) (on:=eF) (by rfl') rfl rfl rfl) (CT (pv 2)) (λC s H fp=>Bl (i:=0) xy rfl (Or.inl rfl) (Or.inr rfl)) (λC s H fp=>CU)
    (λC s H fp=>Al (r:=Ff K) P0 (pv 1) (C2 (pC (pv 0) AB))))
  exists let b:=_;let c:=_;let e:=AF (B5 _ _ c) b;let f:=AF _ e;let g:=AF (B5 _ _ f) a;AF _ g _ _ _
  refine⟨Bm _,λt0 FV=>⟨Q,λl0 B3=>?_⟩⟩;have s0:AA H (upd (upd H t0 (.tup [])) l0 (.lst [.ref t0])):=(AO FV).trans (AO B3);have YB:H l0=none:=(AO (o:=.tup []) FV).free B3;let A8:NW:=λi σ H'=>∃(lf:χ) (ys:LV) (x1 x2 x3:OV),σ=[↥(.ref l),↥(.ref lf),x1,x2,x3]/\AA H H'/\H lf=none/\H' lf≈(.lst ys)/\BR H' (EL (wss.take i)) ys;refine⟨Z,l,Y,⟨_,AD.of (s0 _ _ hl)⟩,CH (DV (xs:=us)) A8
   ⟨l0,[.ref t0],none,none,none,Y,s0,YB,uS,.cons ⟨t0,Y,(AO B3) _ _ uS⟩ .nil⟩ (λi σ H' _ h0=>by obtain⟨_,_,_,_,_,_,s',_⟩:=h0;exact AD.of (s' _ _ hl)) ?_ ?_⟩
  ·rintro i v σ H' hi ⟨lf,ys,x1,x2,x3,rfl,s',hlfH,hlf,hD⟩;obtain⟨ws,hws,BQ,rfl,hrw⟩:=Bk hR hi;have Kg:=hb (i + 1);rw[Bz,hws]at Kg;have Kg:↑(EL (wss.take i++[ws]))<=10000:=Kg;rw[Mx]at Kg;have hwl:=hw ws (Yi hws);have hyl:=hD.len;refine⟨Bm _,λln DM=>?_⟩;have s1:AA H' (upd H' ln (.lst [])):=AO DM;have lnH:H ln=none:=s'.free DM;have lfn:lf≠ln:=AS hlf DM;have rwn:BQ≠ln:=AS (s' _ _ hrw) DM;let NS:NW:=λj σ H2=>∃(zs:LV) (x3:OV),σ=[↥(.ref l),↥(.ref lf),↥(.ref BQ),↥(.ref ln),x3]/\AA H' H2/\H2 ln≈(.lst zs)/\BR H2 (Ck ((EL (wss.take i)).take j) ws) zs;refine⟨Z,lf,Y,⟨_,AD.of (s1 _ _ hlf)⟩,CH (DV (xs:=ys)) NS
    ⟨[],x3,Y,s1,uS,by rw[EX];exact .nil⟩ (λj σ H2 _ h0=>by obtain⟨_,_,_,s2,_⟩:=h0;exact AD.of (s2 _ _ hlf)) ?_ ?_⟩
   ·rintro j v σ H2 hj ⟨zs,oX,rfl,s2,hlnz,hZ⟩;obtain⟨c,hc,tc,rfl,htc⟩:=Bk hD hj;have Bc:=s'.trans s2;have Sx:=Bc _ _ hrw;refine⟨Z,.inl ⟨Y,_,AD.of hlnz⟩,Z,BQ,Y,⟨_,AD.of Sx⟩,K5 (DV (xs:=ws.map V.str)) (sL (by rw[Ya];omega)) (λ_=>true) (λD x v H=>lg c x v H/\∀ t,v=.ref t->t≠D) (λD x v Ha Hb k h=>?_) (λH' s'=>s'.seq (AD.of Sx)) ?_ ?_ ?_⟩
    ·obtain⟨⟨t,z,e1,e2,e3⟩,ne⟩:=h;exact⟨⟨t,z,e1,e2,k _ _ (ne t e2) e3⟩,ne⟩
    ·intro x H3 R _ _ BA;exact BA H3 (AA.refl _)
    ·intro D x H3 R s3 hDx hDn hx _ BA;obtain⟨z,hz,rfl⟩:=Yo.mp hx;obtain⟨Qi,Gv⟩:=hDx;have cQ:=s3 _ _ (s2 _ _ htc);refine⟨Z,Z,Q,λt1 Ct=>?_⟩;have s4:AA H3 (upd H3 t1 (.tup [.str z])):=AO Ct;have pF:t1≠D:=Ae (AS Gv Ct);have cl:↑c<=1000:=by
      have:=ic (Yi hc);rw[Yv]at this;omega
     refine⟨tc,t1,_,Z,Y,AJ.of (s4 _ _ cQ),AJ.of uS,sL (by rw[Ya];show ↑c + 1<=100000;omega),λe=>?_,(λ_ e=>nomatch e),λ_ _ t2 BL=>?_⟩
     ·have e0:c=[]:=by cases c with | nil=>rfl | cons a r=>cases e
      subst e0;exact BA _ _ s4 ⟨⟨t1,z,Y,Y,uS⟩,λt e=>by injection e with e;rw[<- e];exact pF⟩
     ·have pE:t2≠D:=Ae (AS (s4 _ _ Gv) BL);exact BA _ _ (s4.trans (AO BL)) ⟨⟨t2,z,Y,Y,by rw[uS,Yy];rfl⟩,λt e=>by injection e with e;rw[<- e];exact pE⟩
    ·intro D H3 VF fg s3 Vg RA;rw[EB.mpr (λ_ _=>rfl)]at RA;have hC:=iH (Paired.mapP RA λ_ _ z=>z.1);have Lz:=s3 _ _ hlnz;have zl:=hZ.len;have vl:=hC.len;rw[Ya]at vl;have YO:j<↑(EL (wss.take i)):=(Yf.mp hc).1;have lz:↑(Ck ((EL (wss.take i)).take j) ws) + ↑ws<=10000:=by
      rw[j7]at Kg ⊢;rw[Yv,IL (by omega)];refine Yq ?_ Kg;rw[<- Nat.succ_mul];exact Nat.mul_le_mul_right _ YO
     refine⟨ln,D,_,Z,Y,Lz,Vg,sL (by omega),zs++VF,Z,λb o e=>by rw[AE (AS e DM)];exact s3 _ _ (s2 _ _ e),uS,?_⟩;rw[wD _ _ hc];have kp:∀ b o,b≠ln->H3 b≈o->(upd H3 ln (.lst (zs++VF))) b≈o:=λb o hb e=>by rw[AE hb];exact e
     have dk:∀ {ds:ζ} {us:LV},BR H3 ds us->BR (upd H3 ln (.lst (zs++VF))) ds us:=λh=>Paired.mapP h λ_ _ ⟨t,e,x⟩=>⟨t,e,kp _ _ (λz=>by rw[z,Lz]at x;cases x) x⟩;exact(dk (hZ.mono s3)).append (dk hC)
   ·rintro σ H2 ⟨zs,oX,rfl,s2,hlnz,hZ⟩;have el:(EL (wss.take i)).take ↑ys=EL (wss.take i):=by rw[<- hyl,CI]
    rw[el]at hZ;refine⟨Z,ln,zs,_,_,Z,s'.trans s2,lnH,hlnz,?_⟩;rw[Bz,hws];show BR H2 (EL (wss.take i++[ws])) zs;rw[Mx];exact hZ
  ·rintro σ H' ⟨lf,ys,x1,x2,x3,rfl,s',hlfH,hlf,hD⟩;rw[<- hul,CI]at hD;exact⟨Z,q lf ys H' hlfH s' hlf hD⟩
abbrev BS(ρ:RS):LS:=ρ.map (·.1)
def AV(ρ:RS)(n:Nat):ζ:=EL (List.replicate n (BS ρ))
theorem JB(ρ:RS):∀ n,↑(AV ρ n)=↑ρ ^ n
 | 0=>rfl
 | n + 1=>by
  unfold AV;rw[Sh,Mx,j7];have:=JB ρ n;unfold AV at this;rw[this,Ya,Nat.pow_succ]
def P4{ρ:RS}{n:Nat}:∀ c∈AV ρ n,Bq ρ n c:=λc hc=>by
 refine⟨?_,?_⟩
 ·have:=ic hc;rw[SO]at this;exact this
 ·exact iQ (List.replicate n (BS ρ)) [[]] (λx=>x∈BS ρ) (λws hws x hx=>by rw[SY hws]at hx;exact hx) (λd hd x hx=>by rw[Ym.mp hd]at hx;cases hx) c hc
def P7{b i n:Nat}(hb:1<=b)(h:i<=n):b ^ i<=b ^ n:=Nat.pow_le_pow_right hb h
def Eu(d a:χ):(Fb d a).lookup ("words":Str)=none:=WC d a (by rfl') (by rfl')
def WO(k t:χ)(n:Nat):(Dv k t n).lookup ("check_size":Str)=none:=Rk k t n (by rfl') (by rfl') (by rfl')
abbrev EM(K:Fg)(C f:χ)(fd:FuncData):Prop:=F_ K C "words" "Kinds.words" W7 ["self"] f fd
abbrev XZ(K:Fg)(B f:χ)(fd:FuncData):Prop:=F_ K B "check_size" "Board.check_size" R8 ["self"] f fd
def ZQ(C B:χ):Sp:=λvs H Q _=>∃(p k:χ) (ρ:RS) (n:Nat) (ds:ζ),vs=[.ref p]/\A5 C B H p k ρ n ds/\Ah ρ/\n<=4/\↑ρ ^ n<=512/\∀ H',AA H H'->Q .non H'
structure SG(mg:Str->OU):Prop where
 calls:∃ t,mg "MOST_CALLS"≈(.int 512 t)
 len:mg "len"=none
 range:mg "range"=none
 list:mg "list"=none
abbrev Ic:LS:=["self","number","place"]
def XU:Ad Ic ["self"] (AL R8):=by nofun
def gk(F:BW K "check_size" "Board.check_size" R8 f fd)(T:SG mg)(TB:Bh K B)(TC:Be K C)(MW:EM K C fWo fdWo):⋯ 2 f fd ["self"] (ZQ C B):=by
 have GW:⋯ 1 fWo fdWo ["self"] (D8 C):=EU MW.fn TC T.list
 nomatch F.ok XU
 ·obtain⟨p,k,ρ,n,ds,rfl,_⟩:=h;rfl
 ·obtain⟨p,k,ρ,n,ds,rfl,bd,g,n4,hc,q⟩:=h;obtain⟨dx,ts,us,h1,h2,h3,h4⟩:=bd.ex;obtain⟨dxk,dk,ak,ok,oak,ν,A4,A2,_⟩:=h2.ex;obtain⟨t1,hM⟩:=T.calls;have nd:=XU.nd;have gle:=g.le;have gne:1<=↑ρ:=by have:=g.ne;omega
  ac_nf
  refine⟨_,(pS (sE 1 nd AI)
   (pS (Ba Yz rfl (Gj (by rfl) T.range (pC (Er (pv 0) rfl) AB)) (gE 2 nd) (AG (sE 1 nd (Al Mh (pv 1) (Ai B_ (by rfl) T.len Yx (pC (Am (Er (pv 0) rfl) TC.cl MW.me GW hr MW.b .nil Aw) AB))))))
   (AG (Ac (Ax GZ (pv 1) (By (v:=.int 512) (by rfl) hM ⟨Z⟩) (Ao _)) Bb Aj)))),?_⟩
  exists let b:=_;let c:=AF (B5 _ _ b) a;AF _ c _ _ _
  let A8:NW:=λi σ H'=>∃ x:OV,σ=[↥(.ref p),↥(.int ((↑ρ ^ i:Nat):Int)),x]/\AA H H';refine⟨Z,p,B,dx,_,Z,h1,TB.cl,TB.nW,Rj _ _ _,n,Y,O,O,CH JG A8
   ⟨none,Y,AA.refl _⟩ (λ_ _ _ _ _=>trivial) ?_ ?_⟩
  ·rintro i v σ H' hi ⟨x,rfl,s'⟩;obtain⟨hi,rfl⟩:=Fm hi;have hpw:↑ρ ^ i<=512:=Yq (P7 gne (by omega)) hc;refine⟨Z,Z,p,B,dx,_,Z,s' _ _ h1,TB.cl,TB.nB,Ri _ _ _,k,dxk,Z,s' _ _ A2,Eu _ _,k,ρ,Y,h2.mono s',g,λl hl=>?_⟩;refine⟨l,Z,.inl (AD.of uS),_,Z,Y,.inl ⟨O,O⟩,?_⟩;refine⟨↥(V.int (0 + (i:Nat))),?_,s'.trans (AO hl)⟩;show[↥(V.ref p),↥(V.int (((↑ρ ^ i:Nat):Int) * ((↑((ρ.map (·.1)).map V.str):Nat):Int))),_]=_;rw[Ya,Ya,<- NG,<- Nat.pow_succ]
  ·rintro σ H' ⟨x,rfl,s'⟩;rw[EW];refine⟨Z,_,Z,Y,Z,?_⟩;have e:((n:Nat):Int).toNat=n:=rfl;rw[e,show decide ((512:Int)<((↑ρ ^ n:Nat):Int))=false from Jc (by omega)];exact Af (q H' s')
def Zd(C B:χ):Sp:=λvs H Q _=>∃(p k:χ) (ρ:RS) (n:Nat) (ds:ζ),vs=[.ref p]/\A5 C B H p k ρ n ds/\Ah ρ/\n<=4/\↑ρ ^ n<=512 /\
 ∀(lf:χ) (ys:LV) (H':Hp),H lf=none->AA H H'->H' lf≈(.lst ys)->BR H' (AV ρ n) ys->Q (.ref lf) H'
def lC:Ad ["self"] ["self"] (AL R6):=by nofun
def sg(F:BW K "calls" "Board.calls" R6 f fd)(T:SG mg)(TB:Bh K B)(TC:Be K C)(MW:EM K C fWo fdWo)(MS:XZ K B fSz fdSz)(DO:Def K mg "one_of_each" M8 ["rows"] fO fdO):⋯ 3 f fd ["self"] (Zd C B):=by
 have GW:⋯ 1 fWo fdWo ["self"] (D8 C):=EU MW.fn TC T.list;have GS:⋯ 2 fSz fdSz ["self"] (ZQ C B):=gk MS.fn T TB TC MW;have GO:⋯ 1 fO fdO ["rows"] Wi:=aS DO
 nomatch F.ok lC
 ·obtain⟨p,k,ρ,n,ds,rfl,_⟩:=h;rfl
 ·obtain⟨p,k,ρ,n,ds,rfl,bd,g,n4,hc,q⟩:=h;obtain⟨dx,ts,us,h1,h2,h3,h4⟩:=bd.ex;obtain⟨dxk,dk,ak,ok,oak,ν,A4,A2,_⟩:=h2.ex;have AM:AX 1 _:=hr.mono (by decide);have gle:=g.le;have gne:1<=↑ρ:=by have:=g.ne;omega
  ac_nf
  refine⟨_,pS (A7 (Am (pv 0) TB.cl MS.me GS hr MS.b .nil Aw)) (AG (Ab (AY DO GO AM (pC (Al ZL (C1 (pC (Am (Er (pv 0) rfl) TC.cl MW.me GW AM MW.b .nil Aw) AB)) (Er (pv 0) rfl)) AB)))),?_⟩
  exists AF _ a _ _ _
  refine⟨Z,p,dx,Z,h1,WO _ _ _,p,k,U,Y,bd,g,n4,hc,λH1 s1=>?_⟩;refine⟨Z,p,B,dx,_,Z,s1 _ _ h1,TB.cl,TB.nB,Ri _ _ _,k,dxk,Z,s1 _ _ A2,Eu _ _,k,ρ,Y,h2.mono s1,g,λl hl=>⟨Q,λl1 Aa=>?_⟩⟩;have s2:=s1.trans (AO (o:=.lst ((ρ.map (·.1)).map V.str)) hl);have s3:=s2.trans (AO (o:=.lst [.ref l]) Aa);refine⟨Z,p,B,dx,_,Z,s3 _ _ h1,TB.cl,TB.nW,Rj _ _ _,l1,n,Z,Y,uS,O,O,sL (by show 1 * _<=100000;omega),λl2 Ap=>?_⟩;have Ni:=(AO (o:=.lst (List.replicate ((n:Nat):Int).toNat [V.ref l]).flatten) Ap) _ _ ((AO (o:=.lst [.ref l]) Aa) _ _ (uS (H:=H1) (a:=l) (o:=.lst ((ρ.map (·.1)).map V.str))));have s4:=s3.trans (AO (o:=.lst (List.replicate ((n:Nat):Int).toNat [V.ref l]).flatten) Ap);have fe:∀ m,(List.replicate m [V.ref l]).flatten=List.replicate m (V.ref l):=λm=>by
   induction m with
   | zero=>rfl
   | succ m ih=>rw[C7,La,ih,C7];rfl
  have rw_:∀ {H':Hp},H' l≈(.lst ((ρ.map (·.1)).map V.str))->∀ m,Xa H' (List.replicate m (BS ρ)) (List.replicate m (V.ref l)):=λ{H'} e m=>by
   induction m with
   | zero=>exact .nil
   | succ m ih=>rw[C7,C7];exact .cons ⟨l,Y,e⟩ ih
  refine⟨l2,List.replicate n (BS ρ),Z,uS,?_,λi=>?_,λws hws=>?_,by rw[SO];omega,λlf ys H' hlf s' FO hD=>q lf ys H' (s4.free hlf) (s4.trans s') FO hD⟩
  ·have r:=rw_ Ni n;rw[<- fe n]at r;exact r
  ·rw[List.take_replicate];have:=JB ρ (min i n);unfold AV at this;rw[this];exact Yq (Yq (P7 gne (Nat.min_le_right _ _)) hc) (by decide)
  ·rw[SY hws,Ya];omega
def Zg(C B M:χ):Sp:=λvs H Q E=>∃(p k:χ) (ρ:RS) (n:Nat) (ds:ζ),vs=[.ref p]/\A5 C B H p k ρ n ds/\Ah ρ/\n<=4/\(↑ρ ^ n<=512->∀ H',AA H H'->Q .non H')/\(512<↑ρ ^ n->∀ H',AA H H'->E (.ref M) none H')
def i_(F:BW K "check_size" "Board.check_size" R8 f fd)(T:SG mg)(TB:Bh K B)(TC:Be K C)(TM:JJ K mg "TooMany" M)(MW:EM K C fWo fdWo):AN P w K mg base (AZ P w) 2 f fd ["self"] (Zg C B M):=by
 have GW:AN P w K mg base (AZ P w) 1 fWo fdWo ["self"] (D8 C):=(EU MW.fn TC T.list).any
 nomatch F.ok1 XU
 ·obtain⟨p,k,ρ,n,ds,rfl,_⟩:=h;rfl
 ·obtain⟨p,k,ρ,n,ds,rfl,bd,g,n4,q1,q2⟩:=h;obtain⟨dx,ts,us,h1,h2,h3,h4⟩:=bd.ex;obtain⟨dxk,dk,ak,ok,oak,ν,A4,A2,_⟩:=h2.ex;obtain⟨t1,hM⟩:=T.calls;have nd:=XU.nd;have gle:=g.le;have gne:1<=↑ρ:=by have:=g.ne;omega
  ac_nf
  refine'⟨_,(pS (sE 1 nd AI)
   (pS (Ba PassesOwn.leaving rfl (Gj (by rfl) T.range (pC (Er (pv 0) rfl) AB)) (gE 2 nd) (AG (sE 1 nd (Al Mh (pv 1) (Ai B_ (by rfl) T.len Yx (pC (Am (Er (pv 0) rfl) TC.cl MW.me GW hr MW.b .nil (CQ Ag.of)) AB))))))
   (AG (Ac (Ax GZ (pv 1) (By (v:=.int 512) (by rfl) hM ⟨Z⟩) (Ao _)) (AG (WR (C:=M) Ag.of hr.hd TM.ex TM.ini (by rfl) TM.m (pC (Rb ?fs) AB))) Aj)))),?_⟩
  case fs=>exact ER Kv (ER (nC (By (v:=.int 512) (by rfl) hM ⟨Z⟩)) (ER Kv Rc))
  exists let b:=Bp _ a _;let c:=_;let e:=AF (B5 _ _ c) b;AF _ e _ _ _
  have oq:↑ρ ^ n<=24 ^ 4:=Yq (Nat.pow_le_pow_left gle n) (Nat.pow_le_pow_right (by decide) n4);let A8:NW:=λi σ H'=>∃ x:OV,σ=[↥(.ref p),↥(.int ((↑ρ ^ i:Nat):Int)),x]/\AA H H';refine⟨Z,p,B,dx,_,Z,h1,TB.cl,TB.nW,Rj _ _ _,n,Y,O,O,CH JG A8
   ⟨none,Y,AA.refl _⟩ (λ_ _ _ _ _=>trivial) ?_ ?_⟩
  ·rintro i v σ H' hi ⟨x,rfl,s'⟩;obtain⟨hi,rfl⟩:=Fm hi;have hpw:↑ρ ^ i<=24 ^ 4:=Yq (P7 gne (by omega)) oq;have Pl:(24 ^ 4:Nat)=331776:=by decide
   refine⟨Z,Z,p,B,dx,_,Z,s' _ _ h1,TB.cl,TB.nB,Ri _ _ _,k,dxk,Z,s' _ _ A2,Eu _ _,k,ρ,Y,h2.mono s',g,λl hl=>?_⟩;refine⟨l,Z,.inl (AD.of uS),_,Z,Y,.inl ⟨O,O⟩,?_⟩;refine⟨↥(V.int (0 + (i:Nat))),?_,s'.trans (AO hl)⟩;show[↥(V.ref p),↥(V.int (((↑ρ ^ i:Nat):Int) * ((↑((ρ.map (·.1)).map V.str):Nat):Int))),_]=_;rw[Ya,Ya,<- NG,<- Nat.pow_succ]
  ·rintro σ H' ⟨x,rfl,s'⟩;rw[EW];refine⟨Z,_,Z,Y,Z,?_⟩;have e:((n:Nat):Int).toNat=n:=rfl;rw[e];by_cases hc:512<↑ρ ^ n
   ·rw[show decide ((512:Int)<((↑ρ ^ n:Nat):Int))=true from Jb (by omega)];exact Az ⟨by rfl',512,Y,W,by rfl',λx=>⟨Q,q2 hc H' s'⟩⟩
   ·rw[show decide ((512:Int)<((↑ρ ^ n:Nat):Int))=false from Jc (by omega)];exact Af (q1 (by omega) H' s')
def Zx(C B M:χ):Sp:=λvs H Q E=>∃(p k:χ) (ρ:RS) (n:Nat) (ds:ζ),vs=[.ref p]/\A5 C B H p k ρ n ds/\Ah ρ/\n<=4 /\
 (↑ρ ^ n<=512->∀(lf:χ) (ys:LV) (H':Hp),H lf=none->AA H H'->H' lf≈(.lst ys)->BR H' (AV ρ n) ys->Q (.ref lf) H')/\(512<↑ρ ^ n->∀ H',AA H H'->E (.ref M) none H')
def uL(F:BW K "calls" "Board.calls" R6 f fd)(T:SG mg)(TB:Bh K B)(TC:Be K C)(TM:JJ K mg "TooMany" M)(MW:EM K C fWo fdWo)(MS:XZ K B fSz fdSz)(DO:Def K mg "one_of_each" M8 ["rows"] fO fdO):AN P w K mg base (AZ P w) 3 f fd ["self"] (Zx C B M):=by
 have GW:AN P w K mg base (AZ P w) 1 fWo fdWo ["self"] (D8 C):=(EU MW.fn TC T.list).any;have GS:AN P w K mg base (AZ P w) 2 fSz fdSz ["self"] (Zg C B M):=i_ MS.fn T TB TC TM MW;have GO:AN P w K mg base (AZ P w) 1 fO fdO ["rows"] Wi:=(aS DO).any
 nomatch F.ok1 lC
 ·obtain⟨p,k,ρ,n,ds,rfl,_⟩:=h;rfl
 ·obtain⟨p,k,ρ,n,ds,rfl,bd,g,n4,q,qx⟩:=h;obtain⟨dx,ts,us,h1,h2,h3,h4⟩:=bd.ex;obtain⟨dxk,dk,ak,ok,oak,ν,A4,A2,_⟩:=h2.ex;have AM:AX 1 _:=hr.mono (by decide);have gle:=g.le;have gne:1<=↑ρ:=by have:=g.ne;omega
  ac_nf
  refine⟨_,pS (A7 (Am (pv 0) TB.cl MS.me GS hr MS.b .nil (CQ Ag.of))) (AG (Ab (ZZ GO AM (by rfl) DO.m DO.fn.kp DO.b .nil (CQ Ag.of) (pC (Al ZL (C1 (pC (Am (Er (pv 0) rfl) TC.cl MW.me GW AM MW.b .nil (CQ Ag.of)) AB)) (Er (pv 0) rfl)) AB)))),?_⟩
  exists AF _ a _ _ _
  refine⟨Z,p,dx,Z,h1,WO _ _ _,p,k,U,Y,bd,g,n4,λhc H1 s1=>?_,qx⟩;refine⟨Z,p,B,dx,_,Z,s1 _ _ h1,TB.cl,TB.nB,Ri _ _ _,k,dxk,Z,s1 _ _ A2,Eu _ _,k,ρ,Y,h2.mono s1,g,λl hl=>⟨Q,λl1 Aa=>?_⟩⟩;have s2:=s1.trans (AO (o:=.lst ((ρ.map (·.1)).map V.str)) hl);have s3:=s2.trans (AO (o:=.lst [.ref l]) Aa);refine⟨Z,p,B,dx,_,Z,s3 _ _ h1,TB.cl,TB.nW,Rj _ _ _,l1,n,Z,Y,uS,O,O,sL (by show 1 * _<=100000;omega),λl2 Ap=>?_⟩;have Ni:=(AO (o:=.lst (List.replicate ((n:Nat):Int).toNat [V.ref l]).flatten) Ap) _ _ ((AO (o:=.lst [.ref l]) Aa) _ _ (uS (H:=H1) (a:=l) (o:=.lst ((ρ.map (·.1)).map V.str))));have s4:=s3.trans (AO (o:=.lst (List.replicate ((n:Nat):Int).toNat [V.ref l]).flatten) Ap);have fe:∀ m,(List.replicate m [V.ref l]).flatten=List.replicate m (V.ref l):=λm=>by
   induction m with
   | zero=>rfl
   | succ m ih=>rw[C7,La,ih,C7];rfl
  have rw_:∀ {H':Hp},H' l≈(.lst ((ρ.map (·.1)).map V.str))->∀ m,Xa H' (List.replicate m (BS ρ)) (List.replicate m (V.ref l)):=λ{H'} e m=>by
   induction m with
   | zero=>exact .nil
   | succ m ih=>rw[C7,C7];exact .cons ⟨l,Y,e⟩ ih
  refine⟨l2,List.replicate n (BS ρ),Z,uS,?_,λi=>?_,λws hws=>?_,by rw[SO];omega,λlf ys H' hlf s' FO hD=>q hc lf ys H' (s4.free hlf) (s4.trans s') FO hD⟩
  ·have r:=rw_ Ni n;rw[<- fe n]at r;exact r
  ·rw[List.take_replicate];have:=JB ρ (min i n);unfold AV at this;rw[this];exact Yq (Yq (P7 gne (Nat.min_le_right _ _)) hc) (by decide)
  ·rw[SY hws,Ya];omega
structure Yco(mg:Str->OU):Prop where
 len:mg "len"=none
 range:mg "range"=none
 any:mg "any"=none
def ui{K:Fg}{H:Hp}{l:χ}{ds:ζ}{us:LV}(h:H l≈(.lst us))(d:BR H ds us):Rep K H (.ref l) (.list (ds.map Dr)):=.list (AD.of h) (kI d)
def vm{ρ:RS}{n:Nat}(g:Ah ρ){ds:ζ}(h:∀ d∈ds,Bq ρ n d):∀ d∈ds,∀ x∈d,Bf x=true:=λd hd x hx=>Wf g x ((h d hd).known x hx)
def BR.keep{H H':Hp}{p:χ}{zs:LV}{ds:ζ}{us:LV}(h:BR H ds us)(hp:H p≈(.lst zs))(s:∀ b o,b≠p->H b≈o->H' b≈o):BR H' ds us :=
 Paired.mapP h λ_ _ ⟨t,e,x⟩=>⟨t,e,s _ _ (λz=>by rw[z,hp]at x;cases x) x⟩
theorem A5.keep{C B:χ}{H H':Hp}{p k q:χ}{zs:LV}{ρ:RS}{n:Nat}{ds:ζ}(h:A5 C B H p k ρ n ds)(hq:H q≈(.lst zs))(s:∀ b o,b≠q->H b≈o->H' b≈o):A5 C B H' p k ρ n ds:=by
 obtain⟨dx,t,us,h1,h2,h3,h4⟩:=h.ex;have nk:k≠q:=by
  intro z;obtain⟨_,_,_,_,_,_,_,e,_⟩:=h2.ex;rw[z,hq]at e;cases e
 exact⟨dx,t,us,s _ _ (λz=>by rw[z,hq]at h1;cases h1) h1,j6 h2 hq s nk (λ_ _ z=>by cases z) (λ_ z=>by cases z),s _ _ (λz=>by rw[z,hq]at h3;cases h3) h3,h4.keep hq s⟩
def rG{K:Fg}{C:χ}{Hx:Hp}{xb dx l:χ}{ρ:RS}{R:Hp->Prop}{E:XK}(nx:Hx xb=none)(ndx:Hx dx=none)(hR:Mf Hx l ρ)(g:Ah ρ)(h:∀ H',AA Hx H'->CS C H' xb ρ->R H'):
  ZO K C [.ref xb,.ref l] (upd (upd Hx dx (.own xb)) xb (.ins C dx [])) (λv H3=>v=.non/\R H3) E:=by
 have BK:AA Hx (upd (upd Hx dx (.own xb)) xb (.ins C dx [])):=λb o e=>by
  have e1:(upd Hx dx (.own xb)) b≈o:=by rw[AE (AS e ndx)];exact e
  rw[AE (AS e nx)];exact e1
 exact⟨xb,dx,l,ρ,Y,uS,(Mf.g (wL hR BK)),g,λH4 kd keep=>⟨Y,h H4 (λb o e=>keep b o (AS e nx) (BK _ _ e)) kd⟩⟩
def rF{K:Fg}{C B:χ}{Hx:Hp}{xb yb dy lz:χ}{n:Nat}{ρ:RS}{ds:ζ}{us:LV}{R:Hp->Prop}{E:XK}(ny:Hx yb=none)(ndy:Hx dy=none)(kd:CS C Hx xb ρ)(g:Ah ρ)(hz:Hx lz≈(.lst us)\/Hx lz≈(.tup us))(hD:BR Hx ds us)(gd:CG ρ n ds)(n1:1<=n)(n4:n<=4)(h:∀ H',AA Hx H'->A5 C B H' yb xb ρ n ds->R H'):
  Zc K C B [.ref yb,.ref xb,.int n,.ref lz] (upd (upd Hx dy (.own yb)) yb (.ins B dy [])) (λv H3=>v=.non/\R H3) E:=by
 have BK:AA Hx (upd (upd Hx dy (.own yb)) yb (.ins B dy [])):=λb o e=>by
  have e1:(upd Hx dy (.own yb)) b≈o:=by rw[AE (AS e ndy)];exact e
  rw[AE (AS e ny)];exact e1
 exact⟨yb,dy,xb,lz,n,ρ,ds,us,Y,uS,kd.mono BK,g,hz.elim (λe=>.inl (AD.of (BK _ _ e))) (λe=>.inr (BK _ _ e)),hD.mono BK,gd,n1,n4,λH5 bd T7=>⟨Y,h H5 (λb o e=>T7 b o (AS e ny) (BK _ _ e)) bd⟩⟩
def wq{cs:ζ}{ws:LS}(h1:cs.Nodup)(h2:ws.Nodup):(Ck cs ws).Nodup:=by
 unfold Ck;refine List.pairwise_flatMap.mpr ⟨λc _=>?_,?_⟩
 ·refine Xi.mpr (h2.imp λne z=>ne ?_);have:=List.append_cancel_left z;injection this
 ·refine h1.imp λ{c d} ne x hx y hy z=>ne ?_;obtain⟨x1,_,rfl⟩:=Yo.mp hx;obtain⟨y1,_,rfl⟩:=Yo.mp hy;have:=congrArg List.dropLast z
  rwa [List.dropLast_concat,List.dropLast_concat]at this
theorem jR{ρ:RS}(g:(BS ρ).Nodup):∀ n,(AV ρ n).Nodup
 | 0=>by show([[]]:ζ).Nodup;simp
 | n + 1=>by
  unfold AV;rw[Sh,Mx];exact wq (jR g n) g
abbrev En(H:Hp)(ρ:RS)(ds:ζ)(cs:ζ)(ν:List (List Key×V)):Prop :=
 Paired (λc (p:List Key×V)=>p.1=Ca c/\∃ t,p.2=.ref t/\H t≈(.tup (Mb (De ρ ds c)))) cs ν
def En.keep{H H':Hp}{ρ:RS}{ds cs:ζ}{ν:List (List Key×V)}(h:En H ρ ds cs ν)(k:∀ b xs,H b≈(.tup xs)->H' b≈(.tup xs)):En H' ρ ds cs ν :=
 Paired.mapP h λ_ _ ⟨e,t,e2,x⟩=>⟨e,t,e2,k _ _ x⟩
theorem En.keys{H:Hp}{ρ:RS}{ds:ζ}:∀ {cs:ζ}{ν:List (List Key×V)},En H ρ ds cs ν->ν.map (·.1)=cs.map Ca
 | _,_,.nil=>rfl
 | _,_,.cons r t=>by rw[Ys,Ys,r.1,En.keys t]
def Wa(k t:χ)(n:Nat):(Dv k t n).lookup ("calls":Str)=none:=Rk k t n (by rfl') (by rfl') (by rfl')
abbrev WE(K:Fg)(B f:χ)(fd:FuncData):Prop:=F_ K B "calls" "Board.calls" R6 ["self"] f fd
def Mz(C B:χ):Sp:=λvs H Q _=>∃(p k:χ) (ρ:RS) (n:Nat) (ds:ζ),vs=[.ref p]/\A5 C B H p k ρ n ds/\Ah ρ/\CG ρ n ds/\n<=4/\↑ρ ^ n<=512 /\
 ∀ d ν H',H d=none->AA H H'->H' d≈(.dT ν)->En H' ρ ds (AV ρ n) ν->Q (.ref d) H'
abbrev qB:LS:=["board","answers","call"]
def XJ:Ad qB ["board"] (AL D_):=by nofun
def wI(F:Def K mg "all_told" D_ ["board"] f fd)(TB:Bh K B)(MCa:WE K B fCa fdCa)(GCa:⋯ 3 fCa fdCa ["self"] (Zd C B))
  (DTd:Def K mg "told" Py ["board","call"] fTd fdTd) (GTd:⋯ 8 fTd fdTd ["board","call"] (V8 C B)):⋯ 9 f fd ["board"] (Mz C B):=by
 nomatch F.fn.ok XJ
 ·obtain⟨p,k,ρ,n,ds,rfl,_⟩:=h;rfl
 ·obtain⟨p,k,ρ,n,ds,rfl,bd,g,gd,n4,hc,q⟩:=h;obtain⟨dx,ts,us,h1,h2,h3,h4⟩:=bd.ex;have nd:=XJ.nd;have hu:=EK hr;have F5:AX 3 _:=hr.mono (by decide);have nda:(AV ρ n).Nodup:=jR g.nd n;have al:=JB ρ n
  ac_nf
  refine⟨_,pS (sE 1 nd K6)
   (pS (Ba Yz rfl (CT (Am (pv 0) TB.cl MCa.me GCa F5 MCa.b .nil Aw)) (gE 2 nd) (AG (Gi hu (pv 1) (pv 2) (AY DTd GTd hr (pC (pv 0) (pC (pv 2) AB))) rfl)))
   (AG (Ab (pv 1)))),?_⟩
  exists let b:=_;let c:=AF (B5 _ _ b) a;AF _ c _ _ _
  intro d hd;have s0:AA H (upd H d (.dT [])):=AO hd;refine⟨Z,p,dx,Z,s0 _ _ h1,Wa _ _ _,p,k,U,Y,bd.mono s0,g,n4,hc,λlf ys H1 hlf s1 hys hD=>?_⟩;have MF:=s0.trans s1;have CW:H1 d≈(.dT []):=s1 _ _ uS;let A8:NW:=λi σ H'=>∃(ν:List (List Key×V)) (x:OV),σ=[↥(.ref p),↥(.ref d),x]/\AA H H'/\(∀ b o,b≠d->H1 b≈o->H' b≈o)/\H' d≈(.dT ν)/\En H' ρ ds ((AV ρ n).take i) ν;refine⟨lf,Y,⟨_,AD.of hys⟩,CH (DV (xs:=ys)) A8
   ⟨[],none,Y,MF,λ_ _ _ e=>e,CW,by rw[EX];exact .nil⟩ (λi σ H' _ h0=>by obtain⟨_,_,_,_,k1,_⟩:=h0;exact AD.of (k1 _ _ (Ae (AS (uS (H:=H) (a:=d) (o:=.dT [])) hlf)) hys)) ?_ ?_⟩
  ·rintro i v σ H' hi ⟨ν,x,rfl,s',k1,BX,hT⟩;obtain⟨c,hcc,t,rfl,ht⟩:=Bk hD hi;have gc:Bq ρ n c:=P4 c (Yi hcc);have Eh:H' t≈(.tup (c.map V.str)):=k1 _ _ (λz=>by rw[z,CW]at ht;cases ht) ht;refine⟨Z,Z,p,k,t,U,c,Y,bd.mono s',g,gd,n4,Eh,gc,λtt H2 htt s2 h2=>?_⟩;have hd2:=s2 _ _ BX;have BL:H2 t≈(.tup ((Ca c).map kV)):=by rw[Rl];exact s2 _ _ Eh
   have Av:Ca c∉ν.map (·.1):=by rw[hT.keys];exact kA nda hcc
   have kl:↑ν<=512:=by
    have:=congrArg List.length hT.keys;rw[Ya,Ya,Yv]at this;omega
   refine⟨Z,Z,d,Z,DS.t (k:=Ca c) hd2 BL (C4 (by omega)),?_⟩;refine⟨_,Z,λb o e=>?_,λb o hb e=>?_,uS,?_⟩
   ·rw[AE (AS e hd)];exact s2 _ _ (s' _ _ e)
   ·rw[AE hb];exact s2 _ _ (k1 b o hb e)
   ·rw[Mu _ (My Av),Bz,hcc];have kp:∀ b xs,H2 b≈(.tup xs)->(upd H2 d (.dT (ν++[(Ca c,.ref tt)]))) b≈(.tup xs):=λb xs e=>by
     rw[AE]
     ·exact e
     ·rintro rfl;rw[hd2]at e;cases e
    exact IJ ((En.keep hT λb xs e=>s2 _ _ e).keep kp) ⟨Y,tt,Y,kp _ _ h2⟩
  ·rintro σ H' ⟨ν,x,rfl,s',k1,BX,hT⟩;have yl:↑ys=↑(AV ρ n):=hD.length.symm;rw[yl,CI]at hT;exact⟨Z,q d ν H' hd s' BX hT⟩
section
variable {H H':Hp}{p:χ}{o:HO}(hp:H p≈o)(ho:EH o)(k:∀ b o,b≠p->H b≈o->H' b≈o)
include hp ho k
end
section
variable {α β γ:Type}[DecidableEq β][DecidableEq γ]
def CD(f:α->β)(acc:List α)(a:α):List α:=if f a∈acc.map f then acc else acc++[a]
def A3(f:α->β)(l:List α):List α:=l.foldl (CD f) []
def BM(l:List β)(x:β):Nat:=l.idxOf x
def Zm{x k:β}(r:List β)(e:x=k):BM (x :: r) k=0:=by
 unfold BM;rw[Sg,show(x == k)=true from by simpa using e];rfl
def ZV{x k:β}(r:List β)(e:¬ x=k):BM (x :: r) k=BM r k + 1:=by
 unfold BM;rw[Sg,show(x == k)=false from by simpa using e];rfl
def B2(f:α->β)(l:List α)(a:α):Nat:=BM ((A3 f l).map f) (f a)
def Zp(f:α->β)(l:List α)(a:α):A3 f (l++[a])=CD f (A3 f l) a:=by
 unfold A3;rw[SQ];rfl
def iN(f:α->β){l:List α}{i:Nat}{a:α}(h:l[i]?≈a):A3 f (l.take (i + 1))=CD f (A3 f (l.take i)) a:=by
 rw[Bz,h];exact Zp f _ a
theorem mi(f:α->β)(l:List α):∀ r:List α,∃ m,A3 f (l++r)=A3 f l++m
 | []=>⟨[],by simp⟩
 | a :: r=>by
  obtain⟨m,hm⟩:=mi f (l++[a]) r;rw[LY]at hm;rw[Zp]at hm;unfold CD at hm;split at hm
  ·exact⟨m,hm⟩
  ·exact⟨[a]++m,by rw[<- LY];exact hm⟩
def RU(f:α->β):∀(l:List α) (a:α),a∈l->f a∈(A3 f l).map f:=by
 intro l a h;obtain⟨p,q,rfl⟩:=List.append_of_mem h;have e:p++a :: q=(p++[a])++q:=by simp
 rw[e];obtain⟨m,hm⟩:=mi f (p++[a]) q;rw[hm,Zp,Yy,Yr];refine .inl ?_;unfold CD;split
 ·assumption
 ·rw[Yy,Yr];exact .inr (by simp)
def yr(f:α->β)(l:List α):∀ a∈A3 f l,a∈l:=by
 have:∀(l:List α) (acc:List α) (S:α->Prop),(∀ a∈acc,S a)->(∀ a∈l,S a)->∀ a∈l.foldl (CD f) acc,S a:=by
  intro l
  induction l with
  | nil=>intro acc S h _ a ha;exact h a ha
  | cons x r ih =>
   intro acc S h hl a ha;refine ih (CD f acc x) S (λb hb=>?_) (λb hb=>hl b (DX _ hb)) a ha;unfold CD at hb;split at hb
   ·exact h b hb
   ·rcases Yr.mp hb with z | z
    ·exact h b z
    ·rw[Ym.mp z];exact hl x Di
 exact this l [] (λa=>a∈l) (λa h=>nomatch h) λa h=>h
def ZA(f:α->β)(l:List α):↑(A3 f l)<=↑l:=by
 have:∀(l acc:List α),↑(l.foldl (CD f) acc)<=↑acc + ↑l:=by
  intro l
  induction l with
  | nil=>intro acc;simp
  | cons x r ih =>
   intro acc;have:=ih (CD f acc x);have h2:↑(CD f acc x)<=↑acc + 1:=by
    unfold CD;split
    ·omega
    ·simp
   rw[NH,Bt];omega
 have h0:=this l [];have h1:↑(A3 f l)<=↑([]:List α) + ↑l:=h0;simpa using h1
def nR(f:α->β){l:List α}{a b:α}(ha:a∈l)(hb:b∈l):B2 f l a=B2 f l b↔f a=f b:=by
 constructor
 ·intro h;have h1:=List.idxOf_lt_length_of_mem (RU f l a ha);have h2:=List.idxOf_lt_length_of_mem (RU f l b hb);have e1:((A3 f l).map f)[((A3 f l).map f).idxOf (f a)]=f a:=List.getElem_idxOf h1;have e2:((A3 f l).map f)[((A3 f l).map f).idxOf (f b)]=f b:=List.getElem_idxOf h2;unfold B2 BM at h;rw[<- e1,<- e2]
  congr 1
 ·intro h;unfold B2;rw[h]
theorem ZW(f:α->β)(g:α->γ):∀(m:List α) (a:α),(∀ x∈m,(f x=f a↔g x=g a))->(m.map f).idxOf (f a)=(m.map g).idxOf (g a)
 | [],_,_=>rfl
 | x :: m,a,h=>by
  rw[Ys,Ys,Sg,Sg,ZW f g m a λy hy=>h y (DX _ hy)];have hx:=h x Di;by_cases e:f x=f a
  ·rw[show(f x == f a)=true from by simpa using e,show(g x == g a)=true from by simpa using hx.mp e]
  ·rw[show(f x == f a)=false from by simpa using e,show(g x == g a)=false from by simpa using(λz=>e (hx.mpr z))]
def Vr(f:α->β)(g:α->γ){l:List α}(h:∀ a∈l,∀ b∈l,(f a=f b↔g a=g b)):A3 f l=A3 g l:=by
 have:∀(r acc:List α),(∀ a∈acc,a∈l)->(∀ a∈r,a∈l)->r.foldl (CD f) acc=r.foldl (CD g) acc:=by
  intro r
  induction r with
  | nil=>intro acc _ _;rfl
  | cons x r ih =>
   intro acc BH hr;have hx:=hr x Di;have e:CD f acc x=CD g acc x:=by
    unfold CD;have:f x∈acc.map f↔g x∈acc.map g:=by
     constructor
     ·intro z;obtain⟨y,hy,e⟩:=Yo.mp z;exact Yo.mpr ⟨y,hy,(h y (BH y hy) x hx).mp e⟩
     ·intro z;obtain⟨y,hy,e⟩:=Yo.mp z;exact Yo.mpr ⟨y,hy,(h y (BH y hy) x hx).mpr e⟩
    by_cases hz:f x∈acc.map f
    ·rw[if_pos hz,if_pos (this.mp hz)]
    ·rw[if_neg hz,if_neg (λz=>hz (this.mpr z))]
   rw[NH,NH,e];refine ih _ (λa ha=>?_) λa ha=>hr a (DX _ ha);unfold CD at ha;split at ha
   ·exact BH a ha
   ·rcases Yr.mp ha with z | z
    ·exact BH a z
    ·rw[Ym.mp z];exact hx
 exact this l [] (λa z=>nomatch z) λa z=>z
def mC(f:α->β)(g:α->γ){l:List α}(h:∀ a∈l,∀ b∈l,(f a=f b↔g a=g b)){a:α}(ha:a∈l):B2 f l a=B2 g l a:=by
 unfold B2 BM;rw[Vr f g h];exact ZW f g _ a λx hx=>h x (yr g l x hx) a ha
def RT(f:α->β)(l:List α):A3 (λx:β=>x) (l.map f)=(A3 f l).map f:=by
 have:∀(r:List α) (acc:List α),(r.map f).foldl (CD λx:β=>x) (acc.map f)=(r.foldl (CD f) acc).map f:=by
  intro r
  induction r with
  | nil=>intro acc;rfl
  | cons x r ih =>
   intro acc;rw[Ys,NH,NH,<- ih]
   congr 1
   unfold CD;rw[Gn];split
   ·rfl
   ·rw[Yy];rfl
 exact this l []
def yv(f:α->β)(l:List α)(a:α):B2 (λx:β=>x) (l.map f) (f a)=B2 f l a:=by
 unfold B2;rw[RT,Gn]
end
theorem ju(ρ:RS):∀ k,AV ρ (k + 1)=(BS ρ).flatMap λw=>(AV ρ k).map λc=>w :: c
 | 0=>by
  unfold AV;rw[Sh,Mx];show([[]]:ζ).flatMap _=_;simp only[QS,List.flatMap_nil,EE,List.nil_append]
  induction BS ρ with
  | nil=>rfl
  | cons x r ih=>rw[Ys,QS,ih];rfl
 | k + 1=>by
  have ih:=ju ρ k;have e:∀ j,AV ρ (j + 1)=Ck (AV ρ j) (BS ρ):=λj=>by
   unfold AV;rw[Sh,Mx]
  have e2:∀ w,(AV ρ (k + 1)).map (λc=>w :: c)=Ck ((AV ρ k).map λc=>w :: c) (BS ρ):=λw=>by
   rw[e k];unfold Ck;rw[List.map_flatMap,List.flatMap_map]
   congr 1
   funext c
   rw[BN];rfl
  rw[show(λw=>(AV ρ (k + 1)).map λc=>w :: c)=λw=>Ck ((AV ρ k).map λc=>w :: c) (BS ρ)from funext e2,e (k + 1),ih];unfold Ck;rw[List.flatMap_assoc]
def jv(ρ:RS)(j:Nat):AV ρ (j + 1)=(AV ρ j).flatMap λc=>(BS ρ).map λx=>c++[x]:=by
 unfold AV;rw[Sh,Mx];rfl
def Cw{γ:Type}(ρ:RS)(h:LS->γ)(k:Nat)(b:LS):List γ:=(AV ρ k).map λr=>h (b++r)
def iS{γ:Type}(ρ:RS)(h:LS->γ)(k:Nat)(b:LS):Cw ρ h (k + 1) b=(BS ρ).flatMap λw=>Cw ρ h k (b++[w]):=by
 unfold Cw;rw[ju,List.map_flatMap]
 congr 1
 funext w
 rw[BN];refine Lh λr _=>?_;show h (b++w :: r)=h (b++[w]++r);rw[LY];rfl
theorem iO{α γ:Type}{f g:α->List γ}{n:Nat}:∀ {l:List α},(∀ a∈l,↑(f a)=n/\↑(g a)=n)->(l.flatMap f=l.flatMap g↔∀ a∈l,f a=g a)
 | [],_=>⟨(λ_ a h=>nomatch h),(λ_=>rfl)⟩
 | x :: l,h=>by
  have ih:=iO (l:=l) λa ha=>h a (DX _ ha);obtain⟨h1,h2⟩:=h x Di;rw[QS,QS];constructor
  ·intro z;obtain⟨z1,z2⟩:=List.append_inj z (by omega);intro a ha
   rcases Bj.mp ha with e | ha
   ·rw[e];exact z1
   ·exact ih.mp z2 a ha
  ·intro z;rw[z x Di,ih.mpr λa ha=>z a (DX _ ha)]
def Du{γ:Type}[DecidableEq γ](ρ:RS)(h:LS->γ)(k m:Nat)(b:LS):LN:=(BS ρ).map λw=>B2 (Cw ρ h k) (AV ρ (m + 1)) (b++[w])
def Z1z{γ:Type}[DecidableEq γ](ρ:RS)(h:LS->γ)(k m:Nat):∀ a∈AV ρ m,∀ b∈AV ρ m,(Du ρ h k m a=Du ρ h k m b↔Cw ρ h (k + 1) a=Cw ρ h (k + 1) b):=by
 intro a ha b hb;have mem:∀ c∈AV ρ m,∀ w∈BS ρ,c++[w]∈AV ρ (m + 1):=λc hc w hw=>by
  rw[jv];exact List.mem_flatMap.mpr ⟨c,hc,Yo.mpr ⟨w,hw,Y⟩⟩
 have hl:∀ c:LS,↑(Cw ρ h k c)=↑(AV ρ k):=λc=>Ya ..;rw[iS,iS,iO (n:=↑(AV ρ k)) λw _=>⟨hl _,hl _⟩];unfold Du;rw[List.map_inj_left];constructor
 ·intro z w hw;exact(nR _ (mem a ha w hw) (mem b hb w hw)).mp (z w hw)
 ·intro z w hw;exact(nR _ (mem a ha w hw) (mem b hb w hw)).mpr (z w hw)
def Ep{γ:Type}[DecidableEq γ](ρ:RS)(h:LS->γ)(n m:Nat):List (LN):=(A3 (Cw ρ h (n - m)) (AV ρ m)).map (Du ρ h (n - m - 1) m)
def vJ{γ:Type}[DecidableEq γ](ρ:RS)(h:LS->γ){n m:Nat}(hm:m<n):
  A3 (λx:LN=>x) ((AV ρ m).map (Du ρ h (n - m - 1) m))=Ep ρ h n m/\((AV ρ m).map (Du ρ h (n - m - 1) m)).map (B2 (λx:LN=>x) ((AV ρ m).map (Du ρ h (n - m - 1) m)))=(AV ρ m).map (B2 (Cw ρ h (n - m)) (AV ρ m)):=by
 have e:n - m=n - m - 1 + 1:=by omega
 have rf:=Z1z ρ h (n - m - 1) m;rw[<- e]at rf;refine⟨?_,?_⟩
 ·rw[RT,Vr _ _ rf];rfl
 ·rw[BN];refine Lh λb hb=>?_;show B2 _ _ (Du ρ h (n - m - 1) m b)=_;rw[yv,mC _ _ rf hb]
def rW{γ:Type}[DecidableEq γ](ρ:RS)(h:LS->γ)(n:Nat):A3 (Cw ρ h 0) (AV ρ n)=A3 h (AV ρ n)/\∀ b∈AV ρ n,B2 (Cw ρ h 0) (AV ρ n) b=B2 h (AV ρ n) b:=by
 have e:∀ a∈AV ρ n,∀ b∈AV ρ n,(Cw ρ h 0 a=Cw ρ h 0 b↔h a=h b):=λa _ b _=>by
  have z:∀ c,Cw ρ h 0 c=[h c]:=λc=>by
   show[h (c++[])]=_;rw[EE]
  rw[z,z];constructor
  ·intro z;injection z
  ·intro z;rw[z]
 exact⟨Vr _ _ e,λb hb=>mC _ _ e hb⟩
def QO{α:Type}(n:Nat)(l:List α)(k:Nat):List (List α):=(List.range k).map λi=>(l.drop (i * n)).take n
theorem iK{α β:Type}(n:Nat)(f:α->List β):∀ l:List α,(∀ a∈l,↑(f a)=n)->QO n (l.flatMap f) ↑l=l.map f
 | [],_=>rfl
 | x :: l,h=>by
  have ih:=iK n f l λa ha=>h a (DX _ ha);have hx:=h x Di;unfold QO at ih ⊢;rw[Bt,List.range_succ_eq_map,Ys,Ys,QS,<- ih,BN]
  congr 1
  ·rw[Nat.zero_mul,List.drop_zero,List.take_left' hx]
  ·refine Lh λi _=>?_;show List.take n (List.drop ((i + 1) * n) (f x++l.flatMap f))=_;rw[Nat.succ_mul,Nat.add_comm,<- List.drop_drop,List.drop_left' hx]
def rR{γ:Type}[DecidableEq γ](ρ:RS)(h:LS->γ)(k m:Nat):
  QO ↑ρ ((AV ρ (m + 1)).map (B2 (Cw ρ h k) (AV ρ (m + 1)))) ↑(AV ρ m)=(AV ρ m).map (Du ρ h k m):=by
 have e:(AV ρ (m + 1)).map (B2 (Cw ρ h k) (AV ρ (m + 1)))=(AV ρ m).flatMap (Du ρ h k m):=by
  conv=>lhs;arg 2;rw[jv]
  rw[List.map_flatMap]
  congr 1
  funext c
  rw[BN];rfl
 rw[e];exact iK _ _ _ λc _=>by unfold Du BS;rw[Ya,Ya]
def EJ(H:Hp)(ks:List (List Key))(vs:LV):Prop:=Paired (λk v=>∃ t,v=.ref t/\H t≈(.tup (k.map kV))) ks vs
def EJ.keep{H H':Hp}{ks:List (List Key)}{vs:LV}(h:EJ H ks vs)(k:∀ b xs,H b≈(.tup xs)->H' b≈(.tup xs)):EJ H' ks vs:=Paired.mapP h λ_ _ ⟨t,e,x⟩=>⟨t,e,k _ _ x⟩
def EJ.mono{H H':Hp}{ks:List (List Key)}{vs:LV}(h:EJ H ks vs)(s:AA H H'):EJ H' ks vs:=h.keep λb xs e=>s _ _ e
def Cj(fs:List (List Key)):List (List Key×V):=fs.zipIdx.map λp=>(p.1,An p.2)
def Z8(fs:List (List Key)):(Cj fs).map (·.1)=fs:=by
 unfold Cj;rw[BN];exact List.zipIdx_map_fst 0 fs
def Rn(fs:List (List Key)):↑(Cj fs)=↑fs:=by unfold Cj;rw[Ya,List.length_zipIdx]
def uJ(fs:List (List Key))(k:List Key):Cj (fs++[k])=Cj fs++[(k,An ↑fs)]:=by
 unfold Cj;rw[List.zipIdx_append,Yy];simp
def i8{fs:List (List Key)}{k:List Key}(h:k∈fs):A0 (Cj fs) k≈(An (BM fs k)):=by
 have:∀(fs:List (List Key)) (j:Nat),k∈fs->A0 ((fs.zipIdx j).map λp=>(p.1,An p.2)) k≈(An (BM fs k + j)):=by
  intro fs
  induction fs with
  | nil=>intro j h;cases h
  | cons x r ih =>
   intro j h;rw[Qd,Ys];by_cases e:x=k
   ·rw[JE e,Zm r e,Nat.zero_add]
   ·rw[JD e,ZV r e,ih (j + 1) (by
     rcases Bj.mp h with z | z
     ·exact absurd z.symm e
     ·exact z)]
    congr 2
    omega
 have:=this fs 0 h
 rwa [Nat.add_zero]at this
abbrev Kb:List Key->List Key:=λx=>x
def lO:Sp:=λvs H Q _=>∃(l:χ) (ks:List (List Key)) (us:LV),vs=[.ref l]/\H l≈(.lst us)/\EJ H ks us/\↑ks<=600/\∀ d H',H d=none->AA H H'->H' d≈(.dT (Cj (A3 Kb ks)))->Q (.ref d) H'
def Br(r:LN):List Key:=r.map λ(n:Nat)=>(Sum.inl (n:Int):Key)
def Zq(r:LN):(Br r).map kV=r.map An:=by unfold Br;rw[BN];rfl
def iV{a b:LN}(h:Br a=Br b):a=b:=by
 unfold Br at h;exact NN (λx y z=>by injection z with z;omega) |>.mp h
def mS:Sp:=λvs H Q _=>∃(l:χ) (ns:LN) (n k:Nat),vs=[.ref l,.int n]/\H l≈(.lst (ns.map An))/\0<n/\n<=100/\↑ns=k * n/\↑ns<=600/\∀ D us H',H D=none->AA H H'->H' D≈(.lst us)->EJ H' ((QO n ns k).map Br) us->Q (.ref D) H'
abbrev px:LS:=["things","number_of","thing"]
def lH:Ad px ["things"] (AL M9):=by nofun
def Ybi:Ad ["numbers","length"] ["numbers","length"] (AL RL):=by nofun
def y6:(["start","numbers","length"]:LS).Nodup:=by rfl'
abbrev zM(K:Fg):LV->Hp->VK->Prop:=λxs H Q=>∃ p ys,xs=[.ref p]/\(AD K H p ys\/AJ K H p ys)/\∀ l,H l=none->Q (.ref l) (upd H l (.lst ys))
abbrev bS(K:Fg):LV->Hp->VK->Prop:=λxs H Q=>∃ p ys,xs=[.ref p]/\((AD K H p ys/\∀ t,H t=none->Q (.ref t) (upd H t (.tup ys)))\/(AJ K H p ys/\Q (.ref p) H))
def Z35(xs:LV)(s n:Nat)(h:s + n<=↑xs):Cv xs (↥(s:Int)) (↥((s:Int) + (n:Int)))=(xs.drop s).take n:=by
 unfold Cv;have e:((s:Int) + (n:Int))=((s + n:Nat):Int):=by omega
 rw[e,HT.sIx_nat,HT.sIx_nat,IL (by omega),IL (by omega)]
 congr 1
 omega
def nv(H1:Hp)(fs:List (List Key))(_:χ)(x v:V)(_:Hp):Prop:=∀ k:List Key,(∃ t:χ,x=.ref t/\H1 t≈(.tup (k.map kV)))->v=An (BM fs k)
def jo{K:Fg}{l d:χ}{H1:Hp}{ks:List (List Key)}{us:LV}{fs:List (List Key)}{js:LN}{te:TE}{σ:St}{Q:VK}(hl:H1 l≈(.lst us))(hk:EJ H1 ks us)(few:↑ks<=600)(hd:Rd H1 d (.dT (Cj fs)))(sub:∀ k∈ks,k∈fs)
  (he:∀(t:χ) (v:V) H' (R:VK),BB H' d (.ref t) (↥v)->R v H'->te (↥(.ref t):: js.map λj=>(σ[j]?).join) H' R)
  (hq:∀ D H',H1 D=none->AA H1 H'->H' D≈(.lst ((ks.map λk=>BM fs k).map An))->Q (.ref D) H'):AU 1 js (EI 0) RQ te σ Q (Sn K l) H1:=by
 have ul:=BO hk;refine K5 (DV (xs:=us)) (sL (by omega)) (λ_=>true) (nv H1 fs) (λ_ _ _ _ _ _ h=>h) (λH' s'=>s'.seq (AD.of hl)) ?_ ?_ ?_
 ·intro x H' R s' _ BA;exact BA H' (AA.refl _)
 ·intro D x H' R s' _ _ hx _ BA;obtain⟨i,hi⟩:=IK hx;obtain⟨k,hki,t,rfl,ht⟩:=Bk hk hi;have kf:=sub k (Yi hki);have BX:Rd H' d (.dT (Cj fs)):=by
   rcases hd with h | ⟨o,h⟩
   ·exact .inl (s' _ _ h)
   ·exact .inr ⟨o,s' _ _ h⟩
  refine he t (An (BM fs k)) H' R (by rw[<- i8 kf];exact BB.tr BX (s' _ _ ht)) (BA _ H' (AA.refl _) λk' ⟨t',e,Eh⟩=>?_);cases e;rw[ht]at Eh;have:=Yp Eh;injection this with this;have ek:k=k':=NN (λa b z=>by cases a <;> cases b <;> first | (injection z with z;rw[z]) | cases z) |>.mp this
  rw[ek]
 ·intro D H' ys hD s' Bv pr;rw[EB.mpr (λ_ _=>rfl)]at pr;have e:ys=(ks.map λk=>BM fs k).map An:=by
   have:∀ {ks:List (List Key)} {us ys:LV},EJ H1 ks us->Paired (λx v=>nv H1 fs l x v H1) us ys->ys=(ks.map λk=>BM fs k).map An:=by
    intro ks us ys a
    induction a generalizing ys with
    | nil=>intro b;cases b;rfl
    | cons h t ih =>
     intro b;cases b with
     | cons h' t'=>rw[Ys,Ys,h' _ h,ih t']
   exact this hk pr
  rw[e]at Bv;exact hq D H' hD s' Bv
def uN(F:Def K mg "number_firsts" M9 ["things"] f fd)(len:mg "len"=none):⋯ 1 f fd ["things"] lO:=by
 nomatch F.fn.ok lH
 ·obtain⟨l,ks,us,rfl,_⟩:=h;rfl
 ·obtain⟨l,ks,us,rfl,hl,hk,few,q⟩:=h;have nd:=lH.nd;have hu:=EK hr
  ac_nf
  refine⟨_,(pS (sE 1 nd K6)
   (pS (Ba Yz rfl (CT (pv 0)) (gE 2 nd) (AG (Ac (Iz (Z_ hu (pv 2) (pv 1))) (AG (Gi hu (pv 1) (pv 2) (Ai t_ (by rfl) len Yx (pC (pv 1) AB)) rfl)) Aj)))
   (AG (Ab (pv 1))))),?_⟩
  exists let b:=_;let c:=Bp _ b _;let e:=AF (B5 _ _ c) a;AF _ e _ _ _
  intro d hd;have ul:=BO hk;have s0:AA H (upd H d (.dT [])):=AO hd;let A8:NW:=λi σ H'=>∃ x:OV,σ=[↥(.ref l),↥(.ref d),x]/\AA H H'/\H' d≈(.dT (Cj (A3 Kb (ks.take i))));refine⟨Z,l,Y,⟨_,AD.of (s0 _ _ hl)⟩,CH (DV (xs:=us)) A8
   ⟨none,Y,s0,by rw[EX];exact uS⟩ (λi σ H' _ h0=>by obtain⟨_,_,s',_⟩:=h0;exact AD.of (s' _ _ hl)) ?_ ?_⟩
  ·rintro i v σ H' hi ⟨x,rfl,s',BX⟩;obtain⟨k,hki,t,rfl,ht⟩:=Bk hk hi;refine⟨Z,Z,d,Z,BB.t (k:=k) BX (s' _ _ ht),Z,?_⟩;have ft:=iN Kb hki;unfold CD at ft;rw[Gn]at ft;by_cases hm:k∈A3 Kb (ks.take i)
   ·rw[i8 hm];rw[if_pos hm]at ft;exact Af ⟨Z,s',by rw[ft];exact BX⟩
   ·have hn:k∉(Cj (A3 Kb (ks.take i))).map (·.1):=by rw[Z8];exact hm
    rw[My hn];rw[if_neg hm]at ft;have fl:=ZA Kb (ks.take i);rw[Yv]at fl;refine Az ⟨Z,d,Z,.inl BX,Z,Z,d,Z,DS.t (k:=k) BX (s' _ _ ht) (C4 (by rw[Rn];omega)),?_⟩;refine⟨Z,λb o e=>by rw[AE (AS e hd)];exact s' _ _ e,?_⟩;rw[uS,Mu _ (My hn),ft,uJ,Rn];rfl
  ·rintro σ H' ⟨x,rfl,s',BX⟩;rw[<- ul,CI]at BX;exact⟨Z,q d H' hd s' BX⟩
def y_(F:Def K mg "cut" RL ["numbers","length"] f fd)(len:mg "len"=none)(range:mg "range"=none)(tuple:mg "tuple"=none):⋯ 1 f fd ["numbers","length"] mS:=by
 nomatch F.fn.ok Ybi
 ·obtain⟨l,ns,n,k,rfl,_⟩:=h;rfl
 ·obtain⟨l,ns,n,k,rfl,hl,n0,n1,nk,few,q⟩:=h
  ac_nf
  refine'⟨_,AG (Ab ?e1),?_⟩
  case e1=>exact(Cm ["start"] ["numbers","length"] [0,1] (λ_=>Bs (osc:=AL RL) (on:=["numbers","length"]) (by rfl') rfl rfl rfl) (uc (by rfl) range (pC AI (pC (Ai B_ (by rfl) len Yx (pC (pv 0) AB)) (pC (pv 1) AB)))) (λC s H fp=>Bl (i:=0) y6 rfl (Or.inl rfl) (Or.inr rfl)) (λC s H fp=>CU)
   (λC s H fp=>FI (r:=bS K) LG (by rfl) tuple LZ (pC (Rp (r:=bD K) gw (pv 1) (Mr (pv 0)) (Mr (Al Iy (pv 0) (pv 2)))) AB)))
  have kn:k<=k * n:=Nat.le_mul_of_pos_right k n0;refine⟨Z,l,Z,.inl (AD.of hl),Z,n,k,by rw[Ya,nk],n0,O,O,K5 (uu (st:=n) (n:=k)) (by rw[Wk];exact sL (by omega)) (λ_=>true) (λD x v H'=>∀ i:Nat,x=.int ((i:Int) * (n:Int))->i<k->∃ t,v=.ref t/\t≠D/\H' t≈(.tup ((Br ((ns.drop (i * n)).take n)).map kV))) (λD x v Ha Hb kp h i e hi=>let⟨t,e1,z,h1⟩:=h i e hi;⟨t,e1,z,kp _ _ z h1⟩) (λ_ _=>trivial) ?_ ?_ ?_⟩
  ·intro x H' R s' _ BA;exact BA H' (AA.refl _)
  ·intro D x H' R s' ⟨ys,hys⟩ hD hx _ BA;obtain⟨i,hi⟩:=IK hx;obtain⟨hik,rfl⟩:=Wj hi;have ie:((i:Int) * (n:Int))=((i * n:Nat):Int):=by rw[NG]
   have bd:i * n + n<=↑ns:=by
    rw[nk,<- Nat.succ_mul];exact Nat.mul_le_mul_right n hik
   refine⟨Z,Z,Z,Z,Z,_,Z,Y,Z,l,Z,AD.of (s' _ _ hl),λp hp=>?_⟩;rw[ie,Z35 _ _ _ (by rw[Ya];exact bd),<- List.map_drop,<- List.map_take];have s1:AA H' (upd H' p (.lst (((ns.drop (i * n)).take n).map An))):=AO hp;refine⟨p,Z,.inl ⟨AD.of uS,λt ht=>?_⟩⟩;refine BA (.ref t) _ (s1.trans (AO ht)) λj e hj=>⟨t,Y,λz=>?_,?_⟩
   ·rw[z]at ht;rw[s1 _ _ hys]at ht;cases ht
   ·have ej:i=j:=by
     injection e with e;have:i * n=j * n:=by
      have e':((i * n:Nat):Int)=((j * n:Nat):Int):=by rw[NG,NG];first | exact e | (rw[<- ie]at e;exact e)
      omega
     exact Nat.eq_of_mul_eq_mul_right n0 this
    rw[uS,Zq,ej]
  ·intro D H' ys hD s' Bv pr;rw[EB.mpr (λ_ _=>rfl)]at pr;have yl:=BO pr;rw[Wk]at yl;refine q D ys H' hD s' Bv (LB (by unfold QO;rw[Ya,Ya,QT];exact yl) λi kk v hkk hv=>?_);unfold QO at hkk;rw[Yj,Yj]at hkk;have hik:i<k:=by
    have:=(Yf.mp hv).1;omega
   rw[NJ hik]at hkk;have hkk:=Yp hkk;obtain⟨x,hx,h⟩:=Bk pr hv;obtain⟨_,ex⟩:=Wj hx;obtain⟨t,e1,_,h1⟩:=h i ex hik;rw[<- hkk];exact⟨t,e1,h1⟩
def n_:LN->List Key
 | []=>[.inr "none"]
 | [k]=>[.inr "deed",.inl (k:Int)]
 | k :: j :: _=>[.inr "clash",.inl (k:Int),.inl (j:Int)]
def Zu(l:LN):(n_ l).map kV=Mb l:=by
 cases l with
 | nil=>rfl
 | cons k r =>
  cases r with
  | nil=>rfl
  | cons j r=>rfl
def BE(ρ:RS)(ds:ζ)(c:LS):List Key:=n_ (De ρ ds c)
def Kq(H0 H:Hp)(ls:List (LN))(vs:LV):Prop:=Paired (λl v=>∃ b,v=.ref b/\H0 b=none/\H b≈(.lst (l.map An))) ls vs
def Kz(H0 H:Hp)(ss:List (List (LN)))(vs:LV):Prop:=Paired (λs v=>∃ a ws,v=.ref a/\H0 a=none/\H a≈(.lst ws)/\Kq H0 H s ws) ss vs
def yK(H0 H:Hp)(t:χ)(ss:List (List (LN)))(es:List (List Key)):Prop:=∃ ls le vs us,H t≈(.tup [.ref ls,.ref le])/\H0 ls=none/\H0 le=none/\H ls≈(.lst vs)/\H le≈(.lst us)/\Kz H0 H ss vs/\EJ H es us
def Kq.keep{H0 H H':Hp}{ls:List (LN)}{vs:LV}(h:Kq H0 H ls vs)(k:∀ b o,H0 b=none->H b≈o->H' b≈o):Kq H0 H' ls vs:=Paired.mapP h λ_ _ ⟨b,e,f,h⟩=>⟨b,e,f,k _ _ f h⟩
theorem Kz.keep{H0 H H':Hp}{ss:List (List (LN))}{vs:LV}(h:Kz H0 H ss vs)(k:∀ b o,H0 b=none->H b≈o->H' b≈o):Kz H0 H' ss vs:=Paired.mapP h λ_ _ ⟨a,ws,e,f,h,L⟩=>⟨a,ws,e,f,k _ _ f h,L.keep k⟩
def Kq.old{H0 H1 H:Hp}{ls:List (LN)}{vs:LV}(h:Kq H1 H ls vs)(k:∀ b,H1 b=none->H0 b=none):Kq H0 H ls vs:=Paired.mapP h λ_ _ ⟨b,e,f,h⟩=>⟨b,e,k _ f,h⟩
theorem Kz.old{H0 H1 H:Hp}{ss:List (List (LN))}{vs:LV}(h:Kz H1 H ss vs)(k:∀ b,H1 b=none->H0 b=none):Kz H0 H ss vs:=Paired.mapP h λ_ _ ⟨a,ws,e,f,h,L⟩=>⟨a,ws,e,k _ f,h,L.old k⟩
def zV(ρ:RS)(ds:ζ)(n:Nat):List (List (LN)):=(List.range n).map (Ep ρ (BE ρ ds) n)
def l_(ρ:RS)(ds:ζ)(n:Nat):List (List Key):=(A3 (BE ρ ds) (AV ρ n)).map (BE ρ ds)
def iz(C B:χ):Sp:=λvs H Q _=>∃(p k:χ) (ρ:RS) (n:Nat) (ds:ζ),vs=[.ref p]/\A5 C B H p k ρ n ds/\Ah ρ/\CG ρ n ds/\n<=4/\↑ρ ^ n<=512 /\
 ∀ t H',AA H H'->yK H H' t (zV ρ ds n) (l_ ρ ds n)->Q (.ref t) H'
abbrev VT:LS:=["board","answers","number_of","ends","numbers","steps","place","rows"]
def XX:Ad VT ["board"] (AL K7):=by nofun
def xu:(["answer","number_of"]:LS).Nodup:=by rfl'
def xx:(["row","number_of"]:LS).Nodup:=by rfl'
theorem ji{H:Hp}{ρ:RS}{ds:ζ}:∀ {cs:ζ}{ν:List (List Key×V)},En H ρ ds cs ν->EJ H (cs.map (BE ρ ds)) (ν.map (·.2))
 | _,_,.nil=>.nil
 | _,_,.cons ⟨_,t,e,h⟩ r=>.cons ⟨t,e,by unfold BE;rw[Zu];exact h⟩ (ji r)
def vp(f:Nat->List (LN))(n i:Nat)(h:i<n):f (n - (i + 1)):: (List.range' (n - i) i).map f=(List.range' (n - (i + 1)) (i + 1)).map f:=by
 rw[List.range'_succ,Ys,show n - (i + 1) + 1=n - i from by omega]
set_option maxHeartbeats 8000000 in
def uV(F:Def K mg "walker" K7 ["board"] f fd)(len:mg "len"=none)(range:mg "range"=none)(list:mg "list"=none)(TB:Bh K B)(TC:Be K C)(MK:EO K B fK fdK)(MP:IB K B fPl fdPl)(MW:EM K C fWo fdWo)
  (DAT:Def K mg "all_told" D_ ["board"] fAT fdAT) (GAT:⋯ 9 fAT fdAT ["board"] (Mz C B)) (DNF:Def K mg "number_firsts" M9 ["things"] fNF fdNF) (GNF:⋯ 1 fNF fdNF ["things"] lO)
  (DCu:Def K mg "cut" RL ["numbers","length"] fCu fdCu) (GCu:⋯ 1 fCu fdCu ["numbers","length"] mS):⋯ 10 f fd ["board"] (iz C B):=by
 have GK:⋯ 1 fK fdK ["self"] (D9 C B):=ES MK.fn TB;have GP:⋯ 1 fPl fdPl ["self"] (Gk C B):=IE MP.fn TB;have GW:⋯ 1 fWo fdWo ["self"] (D8 C):=EU MW.fn TC list
 nomatch F.fn.ok XX
 ·obtain⟨p,k,ρ,n,ds,rfl,_⟩:=h;rfl
 ·obtain⟨p,k,ρ,n,ds,rfl,bd,g,gd,n4,hc,q⟩:=h;have nd:=XX.nd;have hu:=EK hr;have AM:AX 1 _:=hr.mono (by decide)
  ac_nf
  refine'⟨_,(pS (sE 1 nd (kO rfl (AY DAT GAT hr (pC (pv 0) AB)) (by rfl) list))
   (pS (Cc (i:=2) nd rfl (Or.inr rfl) (AY DNF GNF AM (pC (pv 1) AB)))
   (pS (sE 3 nd (FI (vk rfl) (by rfl) list NO (pC (pv 2) AB)))
   (pS ?e1
   (pS (sE 5 nd (C1 AB))
   (pS (Ba Yz rfl (Gj (by rfl) range (pC (Am (pv 0) TB.cl MP.me GP AM MP.b .nil Aw) AB)) (gE 6 nd)
    (pS (sE 7 nd (AY DCu GCu AM (pC (pv 4) (pC (Ai B_ (by rfl) len Yx (pC (Am (Am (pv 0) TB.cl MK.me GK AM MK.b .nil Aw) TC.cl MW.me GW AM MW.b .nil Aw) AB)) AB))))
   (pS (Cc (i:=2) nd rfl (Or.inr rfl) (AY DNF GNF AM (pC (pv 7) AB)))
   (pS (A7 (Iw Gq PySem.F.slot_list_insert PySem.F.type_list_insert uD (pv 5) (pC AI (pC ?e2 AB))))
   (AG ?e3)))))
   (AG (Ab (C2 (pC (pv 5) (pC (pv 3) AB))))))))))),?_⟩
  case e1=>exact(QF (k:=4) ["answer"] ["number_of"] [2] nd rfl rfl (λ_=>Bs (osc:=AL K7) (on:=VT) (by rfl') rfl rfl rfl) (CT (pv 1)) (λC s H fp=>Bl (i:=0) xu rfl (Or.inl rfl) (Or.inr rfl)) (λC s H fp=>CU) (λC s H fp=>Kx hu (pv 1) (pv 0) (λ_ _=>rfl)))
  case e2=>exact(Cm ["row"] [] [] (λ_=>Bs (osc:=AL K7) (on:=VT) (by rfl') rfl rfl rfl) (sI (pv 2)) (λC s H fp=>Bl (i:=0) Z3a rfl (Or.inl rfl) (Or.inr rfl)) (λC s H fp=>CU) (λC s H fp=>FI (r:=zM K) kW (by rfl) list NO (pC (pv 0) AB)))
  case e3=>exact(QF (k:=4) ["row"] ["number_of"] [2] nd rfl rfl (λ_=>Bs (osc:=AL K7) (on:=VT) (by rfl') rfl rfl rfl) (CT (pv 7)) (λC s H fp=>Bl (i:=0) xx rfl (Or.inl rfl) (Or.inr rfl)) (λC s H fp=>CU) (λC s H fp=>Kx hu (pv 1) (pv 0) (λ_ _=>rfl)))
  exists let b:=_;let c:=AF _ b;let e:=AF _ c;let f:=AF _ e;let g:=AF (B5 _ _ f) a;let h:=AF _ g;let i:=AF _ h;let j:=AF _ i;let k:=AF _ j;AF _ k _ _ _
  have al:=JB ρ;have gle:=g.le;have gne:1<=↑ρ:=by have:=g.ne;omega
  have small:∀ m,m<=n->↑(AV ρ m)<=512:=λm hm=>by rw[al];exact Yq (P7 gne hm) hc
  refine⟨Z,p,k,U,Y,bd,g,gd,n4,hc,λd ν H1 hd s1 CW hT=>⟨d,ν,Y,.inl CW,λla hla=>?_⟩⟩;have Cr:AA H1 (upd H1 la (.lst (ν.map (·.2)))):=AO hla;have h2:(upd H1 la (.lst (ν.map (·.2)))) la≈(.lst (ν.map (·.2))):=uS;generalize upd H1 la (.lst (ν.map (·.2)))=H2 at Cr h2;have K2:=(ji hT).mono Cr;refine⟨Z,la,_,Z,h2,K2,by rw[Ya];have:=small n (Yd _);omega,λd3 H3 Hj DG h3=>?_⟩;rw[RT]at h3;have K3:=K2.mono DG;refine⟨Z,d3,Z,.inl h3,λle us hle pe=>?_⟩;have BK:AA H3 (upd H3 le (.lst us)):=AO hle;have Ng:(upd H3 le (.lst us)) le≈(.lst us):=uS;generalize upd H3 le (.lst us)=H4 at BK Ng;have E4:EJ H4 (l_ ρ ds n) us:=by
   have:∀ {fs:List (List Key)} {us:LV},Paired (λ(kv:List Key×V) v=>∃ t,v=.ref t/\H3 t≈(.tup (kv.1.map kV))) (Cj fs) us->EJ H3 fs us:=λ{fs us} h=>by
    have hl:=BO h;rw[Rn]at hl;refine LB hl λi kk v hk hv=>?_;obtain⟨kv,hkv,t,e,ht⟩:=Bk h hv;have:((Cj fs).map (·.1))[i]?≈kv.1:=by rw[Yj,hkv];rfl
    rw[Z8,hk]at this;cases this;exact⟨t,e,ht⟩
   exact(this pe).mono BK
  have K4:=K3.mono BK;refine⟨Z,la,Y,⟨_,AD.of (BK _ _ (DG _ _ h2))⟩,jo (BK _ _ (DG _ _ h2)) K4 (by rw[Ya];have:=small n (Yd _);omega) (.inl (BK _ _ h3)) (λkk hk=>?_) (λt v H' R hg hR=>⟨Z,Z,d3,Z,hg,hR⟩) λln H5 DM Bu S1=>?_⟩
  ·obtain⟨c,Bo,rfl⟩:=Yo.mp hk;exact RU _ _ c Bo
  have en:((AV ρ n).map (BE ρ ds)).map (λkk=>BM ((A3 (BE ρ ds) (AV ρ n)).map (BE ρ ds)) kk)=(AV ρ n).map (B2 (Cw ρ (BE ρ ds) 0) (AV ρ n)):=by
   rw[BN];refine Lh λb hb=>?_;rw[(rW ρ (BE ρ ds) n).2 b hb];rfl
  rw[en]at S1;refine⟨Bm _,λls hls=>?_⟩;have E8:AA H5 (upd H5 ls (.lst [])):=AO hls;have Nd:(upd H5 ls (.lst [])) ls≈(.lst []):=uS;generalize upd H5 ls (.lst [])=H6 at E8 Nd;have Pd:=Cr.trans (DG.trans BK);have Qo:AA H H6:=s1.trans (Pd.trans (Bu.trans E8));obtain⟨dx,ts,usB,MY,Kh,fu,fq⟩:=bd.ex;have hlsH:H ls=none:=(s1.trans (Pd.trans Bu)).free hls;let A8:NW:=λi σ H'=>∃(dd Qv:χ) (x6 x7:OV) (vs:LV),σ=[↥(.ref p),↥(.ref la),↥(.ref dd),↥(.ref le),↥(.ref Qv),↥(.ref ls),x6,x7]/\(∀ b o,b≠ls->H6 b≈o->H' b≈o)/\H' ls≈(.lst vs)/\H' Qv≈(.lst (((AV ρ (n - i)).map (B2 (Cw ρ (BE ρ ds) i) (AV ρ (n - i)))).map An))/\↑vs=i/\Kz H6 H' ((List.range' (n - i) i).map (Ep ρ (BE ρ ds) n)) vs;refine⟨Z,p,dx,Z,Qo _ _ MY,ID _ _ _,p,k,U,Y,bd.mono Qo,n,Y,O,O,CH JG A8
   ⟨d3,ln,none,none,[],Y,λ_ _ _ e=>e,Nd,E8 _ _ S1,Y,.nil⟩ (λ_ _ _ _ _=>trivial) ?_ ?_⟩
  ·rintro i v σ H7 hi ⟨dd,Qv,x6,x7,vs,rfl,Ka,DB,Nf,dS,S7⟩;obtain⟨hi,rfl⟩:=Fm hi;have hi:i<n:=by omega
   have VQ:AA H H7:=λb o e=>Ka b o (AS e hlsH) (Qo _ _ e);obtain⟨m,em⟩:∃ m,n - i=m + 1:=⟨n - i - 1,O⟩;have gD:m=n - (i + 1):=by omega
   rw[em]at Nf;refine⟨Z,Z,p,dx,Z,VQ _ _ MY,C5 _ _ _,p,k,U,Y,bd.mono VQ,?_⟩;obtain⟨dxk,dk,ak,ok,oak,kvk,avk,A2,_⟩:=Kh.ex;refine⟨k,dxk,Z,VQ _ _ A2,Eu _ _,k,ρ,Y,Kh.mono VQ,g,λlw hlw=>?_⟩;have IZ:AA H7 (upd H7 lw (.lst ((ρ.map (·.1)).map V.str))):=AO hlw;have Sz:(upd H7 lw (.lst ((ρ.map (·.1)).map V.str))) lw≈(.lst ((ρ.map (·.1)).map V.str)):=uS;generalize upd H7 lw (.lst ((ρ.map (·.1)).map V.str))=H8 at IZ Sz;refine⟨lw,Z,.inl (AD.of Sz),Qv,_,↑ρ,↑(AV ρ m),by rw[Ya,Ya];rfl,IZ _ _ Nf,O,O,by rw[Ya,al,al,Nat.pow_succ],by rw[Ya];have:=small (m + 1) (by omega);omega,λlr ur H9 hlr VN S0 K9=>?_⟩;rw[rR]at K9;refine⟨Z,lr,_,Z,S0,K9,by rw[Ya,Ya];have:=small m (by omega);omega,λd2 Ce hd2 NV TL=>?_⟩;obtain⟨X3,FT⟩:=vJ ρ (BE ρ ds) (n:=n) (m:=m) (by omega);rw[show n - m - 1=i from by omega]at X3 FT;have ef:A3 Kb (((AV ρ m).map (Du ρ (BE ρ ds) i m)).map Br)=(Ep ρ (BE ρ ds) n m).map Br:=by
    rw[RT,<- X3]
    congr 1
    exact Vr _ _ λa _ b _=>⟨iV,λe=>by rw[e]⟩
   rw[ef]at TL;have cG:=IZ.trans (VN.trans NV);have K10:=K9.mono NV;have UW:=cG _ _ DB;refine⟨Z,.inl ⟨Y,_,AD.of UW⟩,Z,d2,Z,.inl ⟨TL,λob=>?_⟩⟩;have eP:∀ b o,b≠d2->Ce b≈o->(upd Ce d2 (.frz ob (.dT (Cj ((Ep ρ (BE ρ ds) n m).map Br))))) b≈o:=λb o hb e=>by rw[AE hb];exact e
   have Nl:(upd Ce d2 (.frz ob (.dT (Cj ((Ep ρ (BE ρ ds) n m).map Br))))) d2≈(.frz ob (.dT (Cj ((Ep ρ (BE ρ ds) n m).map Br)))):=uS;generalize upd Ce d2 (.frz ob (.dT (Cj ((Ep ρ (BE ρ ds) n m).map Br))))=Ll at eP Nl;have cm:∀ b o,H9 b≈o->b≠d2:=λb o e=>AS e hd2;have NU:AA H9 Ll:=λb o e=>eP b o (cm b o e) (NV _ _ e);have Ea:AA H7 Ll:=(IZ.trans VN).trans NU;have sl:↑(Ep ρ (BE ρ ds) n m)<=512:=by
    unfold Ep;rw[Ya];exact Yq (ZA _ _) (small m (by omega))
   refine vn (by rw[Rn,Ya];exact sL (by omega)) Nl (λ_=>true) (λD x v H'=>∃ b,v=.ref b/\b≠D/\Ll b=none/\H' b≈(.lst (x.1.map kV))) (λD x v Ha Hb kk h0=>by obtain⟨b,e,z,f,h⟩:=h0;exact⟨b,e,z,f,kk _ _ z h⟩) ?_ ?_ ?_
   ·intro x b H' R s' _ _ BA;exact BA H' (AA.refl _)
   ·intro D x b H' R s' ⟨ys,hys⟩ hD _ hb _ BA;refine⟨Z,b,Z,.inr (AJ.of hb),λl hl=>BA (.ref l) _ (AO hl) ⟨l,Y,λz=>?_,s'.free hl,uS⟩⟩;rw[z,hys]at hl;cases hl
   intro lst FN ys hlst Cq Ov pr;rw[EB.mpr (λ_ _=>rfl)]at pr;have UU:=Cq _ _ (Ea _ _ DB);have L12:Kq H6 FN (Ep ρ (BE ρ ds) n m) ys:=by
    have hl:=BO pr;rw[Rn,Ya]at hl;refine LB hl λj ln v DM hv=>?_;obtain⟨kv,hkv,b,e,_,fb,hb⟩:=Bk pr hv;have:((Cj ((Ep ρ (BE ρ ds) n m).map Br)).map (·.1))[j]?≈kv.1:=by rw[Yj,hkv];rfl
    rw[Z8,Yj,DM]at this;have this:=Yp this;rw[<- this,Zq]at hb;refine⟨b,e,?_,hb⟩;cases z:H6 b with
    | none=>rfl
    | some o =>
     by_cases hbl:b=ls
     ·rw[hbl,Ea _ _ DB]at fb;cases fb
     ·rw[Ea _ _ (Ka _ _ hbl z)]at fb;cases fb
   have vl:↑vs<=4:=by omega
   refine⟨ls,_,_,Z,Y,UU,W,O,C4 (by omega),?_⟩;have Dj:∀ b o,b≠ls->FN b≈o->(upd FN ls (.lst (vs.take (0:Int).toNat++.ref lst :: vs.drop (0:Int).toNat))) b≈o:=λb o hb e=>by rw[AE hb];exact e
   have Lx:(upd FN ls (.lst (vs.take (0:Int).toNat++.ref lst :: vs.drop (0:Int).toNat))) ls≈(.lst (.ref lst :: vs)):=uS;generalize upd FN ls (.lst (vs.take (0:Int).toNat++.ref lst :: vs.drop (0:Int).toNat))=Qh at Dj Lx;have lrls:lr≠ls:=λz=>by rw[z,IZ _ _ DB]at hlr;cases hlr
   have cx:d2≠ls:=λz=>by rw[z,(IZ.trans VN) _ _ DB]at hd2;cases hd2
   have Ly:=Dj _ _ lrls (Cq _ _ (NU _ _ S0));have K13:EJ Qh (((AV ρ m).map (Du ρ (BE ρ ds) i m)).map Br) ur:=K9.keep λb xs e=>Dj _ _ (λz=>by rw[z,(IZ.trans VN) _ _ DB]at e;cases e) (Cq _ _ (NU _ _ e));have cn:=Dj _ _ cx (Cq _ _ Nl);refine⟨Z,lr,Y,⟨_,AD.of Ly⟩,jo Ly K13 (by rw[Ya,Ya];have:=small m (by omega);omega) (.inr ⟨_,cn⟩) (λkk hk=>?_) (λt v H' R hg hR=>⟨Z,Z,d2,Z,hg,hR⟩) λln2 oU hln2 Dk L3=>?_⟩
   ·obtain⟨r,Bd,rfl⟩:=Yo.mp hk;rw[<- ef];have:=RU Kb _ (Br r) (Yo.mpr ⟨r,Bd,Y⟩)
    rwa [Gn]at this
   have lstls:H6 lst=none:=by
    cases z:H6 lst with
    | none=>rfl
    | some o =>
     by_cases hbl:lst=ls
     ·rw[hbl,Ea _ _ DB]at hlst;cases hlst
     ·rw[Ea _ _ (Ka _ _ hbl z)]at hlst;cases hlst
   have fr:∀ b,H6 b=none->b≠ls:=λb f z=>by rw[z,Nd]at f;cases f
   have qk:(((AV ρ m).map (Du ρ (BE ρ ds) i m)).map Br).map (λkk=>BM ((Ep ρ (BE ρ ds) n m).map Br) kk)=(AV ρ m).map (B2 (Cw ρ (BE ρ ds) (i + 1)) (AV ρ m)):=by
    rw[show i + 1=n - m from by omega,<- FT,BN,BN,BN];refine Lh λb hb=>?_;show BM ((Ep ρ (BE ρ ds) n m).map Br) (Br (Du ρ (BE ρ ds) i m b))=B2 (λx=>x) _ (Du ρ (BE ρ ds) i m b);unfold B2;rw[X3,Gn];exact ZW Br (λx:LN=>x) _ _ (λx _=>⟨iV,λe=>by rw[e]⟩) |>.trans (by rw[Gn];rfl)
   rw[qk]at L3;refine⟨d2,ln2,_,_,.ref lst :: vs,Y,λb o hb e=>Dk _ _ (Dj _ _ hb (Cq _ _ (Ea _ _ (Ka _ _ hb e)))),Dk _ _ Lx,by rw[<- gD];exact L3,by rw[Bt,dS],?_⟩;rw[<- vp _ _ _ hi,<- gD];refine .cons ⟨lst,ys,Y,lstls,Dk _ _ (Dj _ _ (fr _ lstls) Ov),L12.keep λb o f e=>Dk _ _ (Dj _ _ (fr _ f) e)⟩ (S7.keep λb o f e=>Dk _ _ (Dj _ _ (fr _ f) (Cq _ _ (Ea _ _ e))))
  ·rintro σ H7 ⟨dd,Qv,x6,x7,vs,rfl,Ka,DB,Nf,dS,S7⟩;rw[EW]at S7;have en:((n:Nat):Int).toNat=n:=by simp
   rw[en,Nat.sub_self,<- List.range_eq_range']at S7;refine⟨Z,Z,J,λt ht=>?_⟩;have s8:AA H7 (upd H7 t (.tup [.ref ls,.ref le])):=AO ht;have lels:le≠ls:=AS (Bu _ _ Ng) hls;have hleH:H le=none:=(s1.trans (Cr.trans DG)).free hle;refine q t _ (λb o e=>s8 _ _ (Ka b o (AS e hlsH) (Qo _ _ e))) ⟨ls,le,vs,us,uS,hlsH,hleH,s8 _ _ DB,s8 _ _ (Ka _ _ lels ((Bu.trans E8) _ _ Ng)),?_,?_⟩
   ·refine(S7.old λb f=>Qo.free f).keep λb o _ e=>s8 _ _ e
   ·exact E4.keep λb xs e=>s8 _ _ (Ka _ _ (λz=>by rw[z]at e;rw[Bu _ _ e]at hls;cases hls) ((Bu.trans E8) _ _ e))
def GV(c:LS)(k:Nat)(x:Str):LS:=c.take k++x :: c.drop (k + 1)
def sv{c:LS}{k:Nat}{x:Str}(h:k<↑c):↑(GV c k x)=↑c:=by
 unfold GV;rw[Yu,Yv,Bt,LP];omega
def vC{ρ:RS}{n k:Nat}{c:LS}{x:Str}(h:Bq ρ n c)(hk:k<n)(hx:x∈ρ.map (·.1)):Bq ρ n (GV c k x):=by
 refine⟨by rw[sv (by have:=h.len;omega)];exact h.len,λy hy=>?_⟩;unfold GV at hy
 rcases Yr.mp hy with hy | hy
 ·exact h.known y (List.mem_of_mem_take hy)
 ·rcases Bj.mp hy with e | hy
  ·rw[e];exact hx
  ·exact h.known y (List.mem_of_mem_drop hy)
abbrev o_(K:Fg)(e p o:Nat):TE :=
 IX (Ff K) (IX (Ff K) (VH (QR K) (Cy e) Rf (Vv (Cy p))) (lP (Kp (Cy o) LL))) (VH (QR K) (Cy e) (Vv (IX (He λi j=>.int (i + j)) (Cy p) (tC (.int 1)))) Rf)
def yn(c:LS)(k:Nat)(h:k<=↑c):Cv (c.map V.str) none (↥(k:Nat))=(c.take k).map V.str:=by
 unfold Cv;rw[HT.sIx_none,List.drop_zero,HT.sIx_nat,Nat.sub_zero,List.map_take,Ya,IL h]
def ym(c:LS)(k:Nat)(h:k<=↑c):Cv (c.map V.str) (↥(k:Nat)) none=(c.drop k).map V.str:=by
 unfold Cv;rw[HT.sIx_none,HT.sIx_nat,Ya,IL h,List.map_drop,SR (by rw[LP,Ya];exact Yd _)]
def Z1o{K:Fg}{σ:St}{H:Hp}{Q:VK}{e p o:Nat}{t:χ}{c:LS}{k:Nat}{x:Str}(he:σ[e]?≈(↥(.ref t)))(hp:σ[p]?≈(↥(.int (k:Nat))))(ho:σ[o]?≈(↥(.str x)))(ht:H t≈(.tup (c.map V.str)))(hk:k<↑c)(hl:↑c<=100)
  (q:∀ T H',AA H H'->H' T≈(.tup ((GV c k x).map V.str))->Q (.ref T) H'):o_ K e p o σ H Q:=by
 have pf:¬ (HT.sIx ↑(c.map V.str) 0 none=0/\HT.sIx ↑(c.map V.str) ↑(c.map V.str) (↥(k:Nat))=↑(c.map V.str)):=λz=>by
  have:=z.2;rw[HT.sIx_nat,Ya,IL (by omega)]at this;omega
 have e1:((k:Nat):Int) + 1=((k + 1:Nat):Int):=by omega
 have pZ:¬ (HT.sIx ↑(c.map V.str) 0 (↥((k + 1:Nat):Int))=0/\HT.sIx ↑(c.map V.str) ↑(c.map V.str) none=↑(c.map V.str)):=λz=>by
  have:=z.1;rw[HT.sIx_nat,Ya,IL (by omega)]at this;omega
 refine⟨_,he,_,hp,Z,t,Z,AJ.of ht,pf,λa ha=>?_⟩;rw[yn c k (by omega)];have s1:AA H (upd H a (.tup ((c.take k).map V.str))):=AO ha;have h1:(upd H a (.tup ((c.take k).map V.str))) a≈(.tup ((c.take k).map V.str)):=uS;generalize upd H a (.tup ((c.take k).map V.str))=H1 at s1 h1;refine⟨_,ho,Q,λb hb=>?_⟩;have s2:AA H1 (upd H1 b (.tup [.str x])):=AO hb;have h2:(upd H1 b (.tup [.str x])) b≈(.tup [.str x]):=uS;generalize upd H1 b (.tup [.str x])=H2 at s2 h2;have Cr:=s1.trans s2;have go:∀(d:χ) (H3:Hp),AA H H3->H3 d≈(.tup ((c.take k++[x]).map V.str))->(VH (QR K) (Cy e) (Vv (IX (He λi j=>.int (i + j)) (Cy p) (tC (.int 1)))) Rf) σ H3 λy H4=>Ff K (.ref d) y H4 Q:=λd H3 s3 h3=>by
  refine⟨_,he,_,hp,_,Z,Y,Z,t,Z,AJ.of (s3 _ _ ht),(by rw[e1];exact pZ),λf hf=>?_⟩;rw[e1,ym c (k + 1) (by omega)];have s4:AA H3 (upd H3 f (.tup ((c.drop (k + 1)).map V.str))):=AO hf;have h4:(upd H3 f (.tup ((c.drop (k + 1)).map V.str))) f≈(.tup ((c.drop (k + 1)).map V.str)):=uS;generalize upd H3 f (.tup ((c.drop (k + 1)).map V.str))=H4 at s4 h4;refine⟨d,f,_,Z,Y,AJ.of (s4 _ _ h3),AJ.of h4,sL (by rw[Ya,Ya,Yu,Yv,LP];show _ + 1 + _<=100000;omega),λz=>?_,λ_ z=>?_,λ_ _ T hT=>?_⟩
  ·simp at z
  ·refine q d H4 (s3.trans s4) ?_;have z:c.drop (k + 1)=[]:=Xb.mp z;rw[s4 _ _ h3];unfold GV;rw[z]
  ·refine q T _ ((s3.trans s4).trans (AO hT)) ?_;rw[uS,<- Yy];unfold GV;rw[LY];rfl
 refine⟨a,b,_,Z,Y,AJ.of (s2 _ _ h1),AJ.of h2,sL (by rw[Ya,Yv];show _ + 1<=100000;omega),λz=>?_,(λ_ z=>nomatch z),λ_ _ d hd=>?_⟩
 ·have z:c.take k=[]:=Xb.mp z;exact go b H2 Cr (by rw[h2,z];rfl)
 ·exact go d _ (Cr.trans (AO hd)) (by rw[uS,Yy];rfl)
def RO(ρ:RS)(ds:ζ)(k:Nat)(x y:Str)(c:LS):Bool:=decide (c[k]?≈x)&&!Cu (.tuple (Dx (De ρ ds c))) (.tuple (Dx (De ρ ds (GV c k y))))
def bP(ρ:RS)(n:Nat)(ds:ζ)(k:Nat)(x y:Str):Option (LS):=(AV ρ n).find? (RO ρ ds k x y)
def nZ(H:Hp)(v:V):Option (LS)->Prop
 | some c=>∃ t,v=.ref t/\H t≈(.tup (c.map V.str))
 | none=>v=.non
def aX{α:Type}(p:α->Bool)(l:List α)(i:Nat)(x:α)(h:(l.take i).find? p=none)(hx:l[i]?≈x)(hp:p x=false):(l.take (i + 1)).find? p=none:=by
 rw[Bz,hx,List.find?_append,h];show(none:Option α).or (List.find? p [x])=none;rw[Option.none_or,List.find?_singleton,hp];rfl
def gW{α:Type}(p:α->Bool)(l:List α)(i:Nat)(x:α)(h:(l.take i).find? p=none)(hx:l[i]?≈x)(hp:p x=true):l.find? p≈x:=by
 have hi:=(Yf.mp hx).1;have e:=(Yf.mp hx).2;rw[<- List.take_append_drop i l,List.find?_append,h,Option.none_or,List.drop_eq_getElem_cons hi,IM,e,hp]
def iI{ρ:RS}{n m:Nat}{xs r:LS}(h1:Bq ρ m xs)(h2:Bq ρ (n - m) r)(h:m<=n):Bq ρ n (xs++r):=
 ⟨by rw[Yu,h1.len,h2.len];omega,λy hy=>(Yr.mp hy).elim (h1.known y) (h2.known y)⟩
def jH{K:Fg}{H:Hp}{Q:VK}{a b:χ}{xs r:LS}(ha:H a≈(.tup (xs.map V.str)))(hb:H b≈(.tup (r.map V.str)))(hl:↑xs + ↑r<=1000)
  (q:∀ T H',AA H H'->H' T≈(.tup ((xs++r).map V.str))->Q (.ref T) H'):Ff K (.ref a) (.ref b) H Q:=by
 refine⟨a,b,_,Z,Y,AJ.of ha,AJ.of hb,sL (by rw[Ya,Ya];omega),λz=>?_,λ_ z=>?_,λ_ _ T hT=>?_⟩
 ·have z:xs=[]:=Xb.mp z;exact q b H (AA.refl _) (by rw[z];exact hb)
 ·have z:r=[]:=Xb.mp z;exact q a H (AA.refl _) (by rw[z,EE];exact ha)
 ·exact q T _ (AO hT) (by rw[uS,Yy])
theorem Zl{β:Type}[DecidableEq β]{x:β}:∀ {L:List β},x∈L->L[BM L x]?≈x/\∀ m e,m<BM L x->L[m]?≈e->e≠x
 | y :: r,h=>by
  by_cases e:y=x
  ·rw[Zm r e];exact⟨by rw[e];rfl,λm e h=>absurd h (Nat.not_lt_zero _)⟩
  ·rw[ZV r e];obtain⟨h1,h2⟩:=Zl (L:=r) ((Bj.mp h).resolve_left λz=>e z.symm);refine⟨by simpa using h1,λm e' hm Kf=>?_⟩;cases m with
   | zero =>
    have:y=e':=by simpa using Kf
    rw[<- this];exact e
   | succ m=>exact h2 m e' (by omega) (by simpa using Kf)
def Me(j:Nat)(x:Str)(c:LS):Bool:=decide (c[j]?≈x)
def Fc(ρ:RS)(ds:ζ)(n j:Nat)(x:Str):List (List Key):=((AV ρ n).filter (Me j x)).map (BE ρ ds)
def LH(ρ:RS)(ds:ζ)(n j:Nat):LN:=(BS ρ).map (B2 (Fc ρ ds n j) (BS ρ))
def Hr{β:Type}(fs:List β):List (β×V):=fs.zipIdx.map λp=>(p.1,An p.2)
def uI{β:Type}(fs:List β)(k:β):Hr (fs++[k])=Hr fs++[(k,An ↑fs)]:=by
 unfold Hr;rw[List.zipIdx_append,Yy];simp
def sW{β:Type}(fs:List β):↑(Hr fs)=↑fs:=by
 unfold Hr;rw[Ya,List.length_zipIdx]
def i7{β:Type}[DecidableEq β]{k:β}:∀ {fs:List β},k∈fs->A0 (Hr fs) k≈(An (BM fs k)):=by
 intro fs;have:∀(fs:List β) (j:Nat),k∈fs->A0 ((fs.zipIdx j).map λp=>(p.1,An p.2)) k≈(An (BM fs k + j)):=by
  intro fs
  induction fs with
  | nil=>intro j h;cases h
  | cons x r ih =>
   intro j h;rw[Qd,Ys];by_cases e:x=k
   ·rw[JE (by exact e),Zm r e,Nat.zero_add]
   ·rw[JD (by exact e),ih (j + 1) ((Bj.mp h).resolve_left λz=>e z.symm),ZV r e]
    congr 2
    omega
 intro h;have:=this fs 0 h
 rwa [Nat.add_zero]at this
def uH{β:Type}[DecidableEq β]{k:β}{fs:List β}(h:k∉fs):A0 (Hr fs) k=none:=by
 refine My ?_;unfold Hr;rw[BN];intro z;obtain⟨p,hp,e⟩:=Yo.mp z;exact h (by rw[<- show p.1=k from e];exact List.fst_mem_of_mem_zipIdx hp)
def Pw(xs:List (NK×χ×V)):List (NK×V):=xs.map λx=>(x.1,x.2.2)
def aO(xs:List (NK×χ×V))(k:NK):Hs xs k=A0 (Pw xs) k:=by
 unfold Hs A0 Pw;rw[List.find?_map];cases h:xs.find? ((λx=>decide (x.1=k)) ∘ λx=>(x.1,x.2.2))with
 | none =>
  have:(xs.find? λx=>decide (x.1=k))=none:=h;rw[this];rfl
 | some z =>
  have:(xs.find? λx=>decide (x.1=k))≈z:=h;rw[this];rfl
def QM(H:Hp)(ks:List NK)(us:LV):Prop:=Paired (λk v=>∃ b,v=.ref b/\Ek H k b) ks us
def QM.mono{H H':Hp}{ks:List NK}{us:LV}(h:QM H ks us)(s:AA H H'):QM H' ks us:=Paired.mapP h λ_ _ ⟨b,e,x⟩=>⟨b,e,x.keep λc xs e=>s _ _ e⟩
abbrev Ef:NK->NK:=λx=>x
def mT(P:Δ)(w:World):Sp:=λvs H Q _=>∃(l:χ) (ks:List NK) (us:LV),vs=[.ref l]/\H l≈(.lst us)/\QM H ks us/\↑ks<=600/\∀ d xs H',H d=none->AA H H'->JI P w H' d xs->Pw xs=Hr (A3 Ef ks)->Q (.ref d) H'
abbrev Ybu:LS:=["things","number_of","thing"]
def mP:Ad Ybu ["things"] (AL M9):=by nofun
def vZ(F:Def K mg "number_firsts" M9 ["things"] f fd)(len:mg "len"=none):⋯ 1 f fd ["things"] (mT P w):=by
 nomatch F.fn.ok mP
 ·obtain⟨l,ks,us,rfl,_⟩:=h;rfl
 ·obtain⟨l,ks,us,rfl,hl,hk,few,q⟩:=h;have nd:=mP.nd;have Qz:_ + 2<cLine:=NP (Nat.add_le_add_left (by decide) _) (LM hr)
  ac_nf
  refine⟨_,(pS (sE 1 nd r_)
   (pS (Ba Yz rfl (CT (pv 0)) (gE 2 nd) (AG (Ac (Iz (u3 Qz (pv 2) (pv 1))) (AG (Z2f Qz (pv 1) (pv 2) (Ai t9 (by rfl) len Yx (pC (pv 1) AB)) rfl)) Aj)))
   (AG (Ab (pv 1))))),?_⟩
  exists let b:=_;let c:=Bp _ b _;let e:=AF (B5 _ _ c) a;AF _ e _ _ _
  intro d hd;have ul:=BO hk;have s0:AA H (upd H d (Gs P w d [])):=AO hd;let A8:NW:=λi σ H'=>∃(x:OV) (xs:List (NK×χ×V)),σ=[↥(.ref l),↥(.ref d),x]/\AA H H'/\JI P w H' d xs/\Pw xs=Hr (A3 Ef (ks.take i));refine⟨Z,l,Y,⟨_,AD.of (s0 _ _ hl)⟩,CH (DV (xs:=us)) A8
   ⟨none,[],Y,s0,⟨uS,λx hx=>nomatch hx⟩,by rw[EX];rfl⟩ (λi σ H' _ h0=>by obtain⟨_,_,_,s',_⟩:=h0;exact AD.of (s' _ _ hl)) ?_ ?_⟩
  ·rintro i v σ H' hi ⟨x,xs,rfl,s',BX,hp⟩;obtain⟨k,hki,t,rfl,ht⟩:=Bk hk hi;have Eh:Ek H' k t:=ht.keep λc xs e=>s' _ _ e;refine⟨Z,Z,d,t,xs,k,Y,Y,BX,Eh,Z,?_⟩;have ft:=iN Ef hki;unfold CD at ft;rw[Gn]at ft;have xl:↑xs=↑(A3 Ef (ks.take i)):=by
    have:=congrArg List.length hp;unfold Pw at this;rw[Ya,sW]at this;exact this
   by_cases hm:k∈A3 Ef (ks.take i)
   ·rw[aO,hp,i7 hm];rw[if_pos hm]at ft;exact Af ⟨_,xs,Y,s',BX,by rw[ft];exact hp⟩
   ·have hn:Hs xs k=none:=by rw[aO,hp];exact uH hm
    rw[hn];rw[if_neg hm]at ft;have fl:=ZA Ef (ks.take i);rw[Yv]at fl;refine Az ⟨Z,d,xs,Y,BX.1,Z,Z,d,t,xs,k,Y,Y,BX,Eh,hn,C4 (by omega),?_⟩;have tk:∀ c zs,H' c≈(.tup zs)->(upd H' d (Gs P w d (xs++[(k,t,V.int ↑xs)]))) c≈(.tup zs):=λc zs e=>by
     rw[AE (λz=>by rw[z,BX.1]at e;unfold Gs at e;cases e)];exact e
    refine⟨_,Z,λb o e=>by rw[AE (AS e hd)];exact s' _ _ e,⟨uS,λx hx=>?_⟩,?_⟩
    ·rcases Yr.mp hx with c | c
     ·exact(BX.2 x c).keep tk
     ·rw[Ym.mp c];exact Eh.keep tk
    ·rw[ft,uI,<- hp,<- xl];unfold Pw;rw[Yy];rfl
  ·rintro σ H' ⟨x,xs,rfl,s',BX,hp⟩;rw[<- ul,CI]at hp;exact⟨Z,q d xs H' hd s' BX hp⟩
def Kj(j:Nat)(x:Str)(p:List Key×V):Bool:=decide (p.1[j]?≈(Sum.inr x))
def NF(ν:List (List Key×V))(j:Nat)(x:Str):LV:=(ν.filter (Kj j x)).map (·.2)
def gb{c:LS}{j:Nat}{x:Str}{v:V}:Kj j x (Ca c,v)=Me j x c:=by
 unfold Kj Me;rw[Gm,decide_eq_true_iff,decide_eq_true_iff];show(c.map Sum.inr)[j]?≈(Sum.inr x)↔_;rw[Yj];cases c[j]? with
 | none=>simp
 | some z =>
  constructor
  ·intro h;have:=Yp h;injection this with this;rw[this]
  ·intro h;rw[Yp h];rfl
theorem jW{H:Hp}{ρ:RS}{ds:ζ}{j:Nat}{x:Str}:∀ {cs:ζ}{ν:List (List Key×V)},En H ρ ds cs ν->∃ ts:μ,NF ν j x=ts.map V.ref/\Paired (λk t=>H t≈(.tup (k.map kV))) ((cs.filter (Me j x)).map (BE ρ ds)) ts
 | _,_,.nil=>⟨[],Y,.nil⟩
 | c :: cs,(k,v):: ν,.cons ⟨e,t,e2,h⟩ r=>by
  obtain⟨ts,e3,p⟩:=jW r (j:=j) (x:=x);have e:k=Ca c:=e;have e2:v=.ref t:=e2;have ea:Kj j x (k,v)=Me j x c:=by rw[e];exact gb
  unfold NF at e3 ⊢;rw[IQ,IQ,ea];cases Me j x c with
  | true =>
   rw[if_pos rfl,if_pos rfl];exact⟨t :: ts,by rw[Ys,Ys,e3,e2],.cons (by unfold BE;rw[Zu];exact h) p⟩
  | false =>
   rw[if_neg Yh,if_neg Yh];exact⟨ts,e3,p⟩
def rJ{H:Hp}{k k':NK}{b:χ}(h:Ek H k b)(h':Ek H k' b):k=k':=by
 obtain⟨ts,h1,h2⟩:=h;obtain⟨ow,Hk,Vl⟩:=h';rw[h1]at Hk;have e:=Yp Hk;injection e with e;have e:ts=ow:=NN (λa b z=>by injection z) |>.mp e
 subst e;clear h1 Hk;have:∀ {k k':NK} {ts:μ},Paired (λk t=>H t≈(.tup (k.map kV))) k ts->Paired (λk t=>H t≈(.tup (k.map kV))) k' ts->k=k':=by
  intro k k' ts a
  induction a generalizing k' with
  | nil=>intro c;cases c;rfl
  | cons h t ih =>
   intro c;cases c with
   | cons h' t' =>
    rw[h]at h';have e:=Yp h';injection e with e;have e:=NN (λa b z=>by cases a <;> cases b <;> first | (injection z with z;rw[z]) | cases z) |>.mp e
    rw[e,ih t']
 exact this h2 Vl
theorem j9{α β:Type}{R:β->V->Prop}(f:α->β):∀ {l:List α}{vs:LV},Paired (λa v=>R (f a) v) l vs->Paired R (l.map f) vs
 | _,_,.nil=>.nil
 | _,_,.cons h t=>.cons h (j9 f t)
def JA(g:Str->χ)(ws:LS):KL:=ws.map λx=>(Sum.inr x,.ref (g x))
theorem aL{g:Str->χ}{x:Str}:∀ {ws:LS},x∈ws->A0 (JA g ws) (Sum.inr x)≈(.ref (g x))
 | y :: r,h=>by
  unfold JA;rw[Ys];by_cases e:y=x
  ·rw[JE (by rw[e]),e]
  ·rw[JD (λz=>e (by injection z))];exact aL (ws:=r) ((Bj.mp h).resolve_left λz=>e z.symm)
def wC{g:Str->χ}{x:Str}{ws:LS}(h:x∉ws):A0 (JA g ws) (Sum.inr x)=none:=by
 refine My λz=>?_;unfold JA at z;rw[BN]at z;obtain⟨y,hy,e⟩:=Yo.mp z;have e:(Sum.inr y:Key)=Sum.inr x:=e;injection e with e;exact h (by rw[<- e];exact hy)
def WG:Sp:=λvs H Q _=>∃(a lw:χ) (ob:Obj) (ν:List (List Key×V)) (ρ:RS) (n j:Nat) (ds:ζ),vs=[.ref a,.ref lw,.int j]/\H a≈(.frz ob (.dT ν))/\En H ρ ds (AV ρ n) ν/\H lw≈(.lst ((ρ.map (·.1)).map V.str))/\Ah ρ/\j<n/\n<=4/\↑ρ ^ n<=512 /\
 ∀ D H',H D=none->AA H H'->H' D≈(.lst ((LH ρ ds n j).map An))->Q (.ref D) H'
def mR(C B:χ):Sp:=λvs H Q _=>∃(p k:χ) (ρ:RS) (n j:Nat) (ds:ζ),vs=[.ref p,.int j]/\A5 C B H p k ρ n ds/\Ah ρ/\CG ρ n ds/\n<=4/\↑ρ ^ n<=512/\j<n /\
 ∀ D H',H D=none->AA H H'->H' D≈(.lst ((LH ρ ds n j).map An))->Q (.ref D) H'
abbrev YA:LS:=["answers","words","place","rows","word","call","answer","kept","number_of"]
abbrev Ip:LS:=["answers","words","place"]
def lY:Ad YA Ip (AL LF):=by nofun
def yB:(["word","rows"]:LS).Nodup:=by rfl'
def y4:(["row","number_of"]:LS).Nodup:=by rfl'
def yF(rv:Str->LV)(D:χ)(x v:V)(H:Hp):Prop:=∀ y:Str,x=.str y->∃ t,v=.ref t/\t≠D/\H t≈(.tup (rv y))
def lj(H1:Hp)(fs:List NK)(_:χ)(x v:V)(_:Hp):Prop:=∀ k:NK,(∃ b:χ,x=.ref b/\Ek H1 k b)->v=An (BM fs k)
set_option maxHeartbeats 8000000 in
def sj(F:Def K mg "classes_by" LF Ip f fd)(tuple:mg "tuple"=none)(DNF:Def K mg "number_firsts" M9 ["things"] fNF fdNF)(GNF:⋯ 1 fNF fdNF ["things"] (mT P w)):⋯ 2 f fd Ip WG:=by
 nomatch F.fn.ok lY
 ·obtain⟨a,lw,ob,ν,ρ,n,j,ds,rfl,_⟩:=h;rfl
 ·obtain⟨a,lw,ob,ν,ρ,n,j,ds,rfl,ha,hT,hw,g,hj,n4,rc,q⟩:=h;have nd:=lY.nd;have hu:=EK hr;have Qz:_ + 2<cLine:=NP (Nat.add_le_add_left (by decide) _) (LM hr)
  ac_nf
  refine'⟨_,(pS (Cc (i:=3) nd rfl (Or.inr rfl) Ro)
   (pS (Ba Yz rfl (CT (pv 1)) (gE 4 nd) (AG (Gi hu (pv 3) (pv 4) (C1 AB) rfl)))
   (pS (Ba Yz rfl (Wc (pv 0)) (Hw rfl (gC (gE 5 nd) (gC (gE 6 nd) H_)))
    (AG (A7 (Iw Gq Sb Sa QB (Kx hu (pv 3) (A9 (r:=LJ K) Mn (pv 5) (pv 2) (λ_ _=>rfl)) (λ_ _=>rfl)) (pC (pv 6) AB)))))
   (pS ?e1
   (pS (Cc (i:=8) nd rfl (Or.inr rfl) (AY DNF GNF hr (pC (pv 7) AB)))
   (AG (Ab ?e2))))))),?_⟩
  case e1=>exact(QF (k:=7) ["word"] ["rows"] [3] nd rfl rfl (λ_=>Bs (osc:=AL LF) (on:=YA) (by rfl') rfl rfl rfl) (CT (pv 1)) (λC s H fp=>Bl (i:=0) yB rfl (Or.inl rfl) (Or.inr rfl)) (λC s H fp=>CU) (λC s H fp=>FI (r:=bS K) LG (by rfl) tuple LZ (pC (Kx hu (pv 1) (pv 0) (λ_ _=>rfl)) AB)))
  case e2=>exact(Cm ["row"] ["number_of"] [8] (λ_=>Bs (osc:=AL LF) (on:=YA) (by rfl') rfl rfl rfl) (CT (pv 7)) (λC s H fp=>Bl (i:=0) y4 rfl (Or.inl rfl) (Or.inr rfl)) (λC s H fp=>CU) (λC s H fp=>sG (P:=P) (w:=w) rfl rfl Qz (pv 1) (pv 0) (λ_ _=>rfl)))
  exists let b:=AF _ a;let c:=AF _ b;let e:=_;let f:=AF (B5 _ _ e) c;let g:=AF _ f;AF _ g _ _ _
  have gle:=g.le;have al:=JB ρ n;have kl:=BO hT;obtain⟨ws,ews⟩:∃ ws:LS,ws=ρ.map (·.1):=⟨Z⟩;have wnd:ws.Nodup:=by rw[ews];exact g.nd
  have wl:↑ws=↑ρ:=by rw[ews];exact Ya ..
  rw[<- ews]at hw;intro d hd;have MF:AA H (upd H d (.dK [])):=AO hd;have CW:(upd H d (.dK [])) d≈(.dK []):=uS;generalize upd H d (.dK [])=H1 at MF CW;let A8:NW:=λi σ H'=>∃(x4:OV) (gg:Str->χ),σ=[↥(.ref a),↥(.ref lw),↥(.int j),↥(.ref d),x4,none,none,none,none]/\AA H H'/\H' d≈(.dK (JA gg (ws.take i)))/\(∀ x∈ws.take i,H' (gg x)≈(.lst [])/\H (gg x)=none/\gg x≠d)/\(∀ x∈ws.take i,∀ y∈ws.take i,gg x=gg y->x=y);refine⟨Z,lw,Y,⟨_,AD.of (MF _ _ hw)⟩,CH (DV (xs:=ws.map V.str)) A8
   ⟨none,(λ_=>0),Y,MF,by rw[EX];exact CW,(λx h=>by rw[EX]at h;cases h),(λx h=>by rw[EX]at h;cases h)⟩ (λi σ H' _ h0=>by obtain⟨_,_,_,s',_⟩:=h0;exact AD.of (s' _ _ hw)) ?_ ?_⟩
  ·rintro i v σ H2 hi ⟨x4,gg,rfl,s2,hd2,hg,inj⟩;obtain⟨x,hx,rfl⟩:=P2 hi;have xn:x∉ws.take i:=λh=>by
    obtain⟨m,hm⟩:=IK h;rw[List.getElem?_take]at hm;split at hm
    ·have:=(List.getElem?_inj (Yf.mp hm).1 wnd).mp (hm.trans hx.symm);omega
    ·cases hm
   have ilt:=(Yf.mp hx).1;refine⟨Bm _,λl0 B3=>?_⟩;have DG:AA H2 (upd H2 l0 (.lst [])):=AO B3;have f_:(upd H2 l0 (.lst [])) l0≈(.lst []):=uS;generalize upd H2 l0 (.lst [])=H3 at DG f_;have Hj:=DG _ _ hd2;have eO:l0≠d:=Ae (AS hd2 B3);refine⟨Z,Z,d,Z,DS.k (k:=Sum.inr x) Hj (C4 (by unfold JA;rw[Ya,Yv];omega)),?_⟩;have tks:ws.take (i + 1)=ws.take i++[x]:=by rw[Bz,hx];rfl
   have old:∀ y∈ws.take i,(if y=x then l0 else gg y)=gg y:=λy hy=>if_neg λz=>xn (by rw[<- z];exact hy);have gA:∀ y∈ws.take i,gg y≠l0:=λy hy=>AS (hg y hy).1 B3;refine⟨_,λy=>if y=x then l0 else gg y,Y,λb o e=>by rw[AE (AS e hd)];exact DG _ _ (s2 _ _ e),?_,λy hy=>?_,λy hy z hz e=>?_⟩
   ·rw[uS,Mu _ (wC xn),tks];unfold JA;rw[Yy]
    congr 3
    ·exact Lh λy hy=>by
      show((Sum.inr y:Key),V.ref (gg y))=((Sum.inr y:Key),V.ref (if y=x then l0 else gg y));rw[old y hy]
    ·show[((Sum.inr x:Key),V.ref l0)]=[((Sum.inr x:Key),V.ref (if x=x then l0 else gg x))];rw[if_pos rfl]
   ·rw[tks]at hy
    rcases Yr.mp hy with c | c
    ·have:=hg y c;show upd H3 d _ (if y=x then l0 else gg y)=_/\H (if y=x then l0 else gg y)=none/\(if y=x then l0 else gg y)≠d;rw[old y c];exact⟨by rw[AE this.2.2];exact DG _ _ this.1,this.2⟩
    ·have c:y=x:=Ym.mp c;show upd H3 d _ (if y=x then l0 else gg y)=_/\H (if y=x then l0 else gg y)=none/\(if y=x then l0 else gg y)≠d;rw[if_pos c];exact⟨by rw[AE eO];exact f_,s2.free B3,eO⟩
   ·have e:(if y=x then l0 else gg y)=(if z=x then l0 else gg z):=e;rw[tks]at hy hz
    rcases Yr.mp hy with c | c <;> rcases Yr.mp hz with c' | c'
    ·rw[old y c,old z c']at e;exact inj y c z c' e
    ·rw[old y c,if_pos (Ym.mp c')]at e;exact absurd e (gA y c)
    ·rw[old z c',if_pos (Ym.mp c)]at e;exact absurd e.symm (gA z c')
    ·rw[Ym.mp c,Ym.mp c']
  rintro σ H2 ⟨x4,gg,rfl,s2,hd2,hg,inj⟩;rw[Ya,CI]at hd2 hg inj;refine⟨Z,a,ν,Y,.inr ⟨ob,s2 _ _ ha,?_⟩⟩;have YS:=s2 _ _ ha;have k3:∀ b o,b≠a->H2 b≈o->H2 b≈o:=λb o _ e=>e;have da:d≠a:=Ae (AS ha hd);have ga:∀ x∈ws,gg x≠a:=λx hx=>Ae (AS ha (hg x hx).2.1);have lwa:lw≠a:=λz=>by rw[z,ha]at hw;cases hw
  let FL:NW:=λi σ H'=>∃ x4 x5 x6:OV,σ=[↥(.ref a),↥(.ref lw),↥(.int j),↥(.ref d),x4,x5,x6,none,none]/\(∀ b o,(∀ x∈ws,b≠gg x)->H2 b≈o->H' b≈o)/\∀ x∈ws,H' (gg x)≈(.lst (NF (ν.take i) j x));refine aI FL
   ⟨_,_,Z,(λ_ _ _ e=>e),λx hx=>by rw[EX];exact k3 _ _ (ga x hx) (hg x hx).1⟩ (λi σ H' _ h0=>by obtain⟨_,_,_,_,kp,_⟩:=h0;exact kp _ _ (λx hx=>Ae (ga x hx)) YS) ?_ ?_
  ·rintro i p t b σ H4 hi ⟨x4,x5,x6,rfl,kp,hL⟩ ht hb;obtain⟨c,hcc,ek,tt,ev,htt⟩:=Bk hT hi;have gc:Bq ρ n c:=P4 c (Yi hcc);have cl:=gc.len;have Bu:AA H4 (upd H4 t (.tup [.ref b,p.2])):=AO ht;have fo:(upd H4 t (.tup [.ref b,p.2])) t≈(.tup [.ref b,p.2]):=uS;generalize upd H4 t (.tup [.ref b,p.2])=H5 at Bu fo;have hjc:j<↑c:=by omega
   have hxj:=Yg hjc;obtain⟨x,ex⟩:∃ x,x=c[j]:=⟨Z⟩;rw[<- ex]at hxj;have hxw:x∈ws:=by rw[ews];exact gc.known x (by rw[ex];exact List.getElem_mem hjc)
   rw[ek,Rl]at hb;have YR:H5 d≈(.dK (JA gg ws)):=Bu _ _ (kp _ _ (λy hy=>Ae (hg y hy).2.2) (k3 _ _ da hd2));have hgx:=Bu _ _ (hL x hxw);have rl:∀ y,↑(NF (ν.take i) j y)<=512:=λy=>by
    unfold NF;rw[Ya];have:=JP (Kj j y) (ν.take i);rw[Yv]at this;omega
   have dg:=BB.k (k:=Sum.inr x) YR;rw[aL hxw]at dg;refine⟨t,Z,AJ.of fo,Y,_,Z,_,Z,Y,?_⟩;refine⟨Z,Z,Z,b,_,_,Z,Y,AJ.of (Bu _ _ hb),Es (by rw[Yj,hxj];rfl),d,Z,dg,.inl ⟨Y,_,AD.of hgx⟩,Z,gg x,_,Z,Y,hgx,C4 (by have:=rl x;omega),?_⟩;refine⟨_,_,Z,λb' o MX e=>?_,λy hy=>?_⟩
   ·rw[AE (MX x hxw)];exact Bu _ _ (kp _ _ MX e)
   ·have hpe:ν.take (i + 1)=ν.take i++[p]:=by rw[Bz,hi];rfl
    have pe:p=(Ca c,p.2):=by rw[<- ek]
    have ap:Kj j y p=Me j y c:=by rw[pe];exact gb
    unfold NF;rw[hpe,List.filter_append,Yy];by_cases e:y=x
    ·rw[e,uS];have:Kj j x p=true:=by rw[<- e,ap,e];exact Jb hxj
     rw[IQ,this,if_pos rfl];rfl
    ·rw[AE (λz=>e (inj y hy x hxw z)),Bu _ _ (hL y hy)];have:Kj j y p=false:=by rw[ap];exact Jc λz=>e (by rw[hxj]at z;exact(Yp z).symm)
     rw[IQ,this,if_neg Yh];show _≈(HO.lst (_++[]));rw[EE];rfl
  rintro σ H4 ⟨x4',x5,x6,rfl,kp,hL⟩;rw[CI]at hL;have FU:H4 lw≈(.lst (ws.map V.str)):=kp _ _ (λx hx=>AS hw (hg x hx).2.1) (k3 _ _ lwa (s2 _ _ hw));have Hi:H4 d≈(.dK (JA gg ws)):=kp _ _ (λy hy=>Ae (hg y hy).2.2) (k3 _ _ da hd2);have YC:∀ b o,b≠a->H b≈o->H4 b≈o:=λb o hb e=>kp _ _ (λx hx=>AS e (hg x hx).2.1) (k3 _ _ hb (s2 _ _ e));have YU:En H4 ρ ds (AV ρ n) ν:=hT.keep λb xs e=>YC _ _ (λz=>by rw[z,ha]at e;cases e) e;refine⟨Z,lw,Y,⟨_,AD.of FU⟩,K5 (DV (xs:=ws.map V.str)) (by rw[Ya];exact sL (by omega)) (λ_=>true) (yF (NF ν j)) (λD x v Ha Hb k h y e=>?_) (λH' s'=>s'.seq (AD.of FU)) ?_ ?_ ?_⟩
  ·obtain⟨t,e1,ne,ht⟩:=h y e;exact⟨t,e1,ne,k _ _ ne ht⟩
  ·intro x H' R s' _ BA;exact BA H' (AA.refl _)
  ·rintro D x H' R s' ⟨yD,YY⟩ hD hx _ BA;obtain⟨y,hy,rfl⟩:=Yo.mp hx;have dg:=BB.k (k:=Sum.inr y) (s' _ _ Hi);rw[aL hy]at dg;refine⟨Z,Z,d,Z,dg,gg y,Z,.inl ⟨AD.of (s' _ _ (hL y hy)),λt ht=>BA _ _ (AO ht) λy' e=>?_⟩⟩;cases e;exact⟨t,Y,Ae (AS YY ht),uS⟩
  intro lk H5 us hlk Bu S4 pr;rw[EB.mpr (λ_ _=>rfl)]at pr;have ul:=BO pr;rw[Ya]at ul;have qa:En H5 ρ ds (AV ρ n) ν:=YU.keep λb xs e=>Bu _ _ e;have oO:QM H5 (ws.map (Fc ρ ds n j)) us:=by
   refine j9 (R:=λk v=>∃ b,v=.ref b/\Ek H5 k b) (Fc ρ ds n j) (LB (by omega) λi y v hy hv=>?_);obtain⟨x,hx,h⟩:=Bk pr hv;rw[Yj,hy]at hx;have hx:=Yp hx;obtain⟨t,e1,_,ht⟩:=h y hx.symm;obtain⟨ts,e2,p⟩:=jW qa (j:=j) (x:=y);exact⟨t,e1,ts,by rw[ht,e2],p⟩
  refine⟨Z,lk,_,us,Y,S4,oO,by rw[Ya];omega,λdn xs H6 hdn E8 DN6 hp=>?_⟩;have oN:=oO.mono E8;have S3:=E8 _ _ S4;refine⟨Z,lk,Y,⟨_,AD.of S3⟩,K5 (DV (xs:=us)) (sL (by omega)) (λ_=>true) (lj H6 (A3 Ef (ws.map (Fc ρ ds n j)))) (λ_ _ _ _ _ _ h=>h) (λH' s'=>s'.seq (AD.of S3)) ?_ ?_ ?_⟩
  ·intro x H' R s' _ BA;exact BA H' (AA.refl _)
  ·intro D x H' R s' _ _ hx _ BA;obtain⟨i,hi⟩:=IK hx;obtain⟨k,hki,b,rfl,hb⟩:=Bk oN hi;have kf:k∈A3 Ef (ws.map (Fc ρ ds n j)):=by
    have:=RU Ef _ k (Yi hki)
    rwa [Gn]at this
   have hv:Hs xs k≈(An (BM (A3 Ef (ws.map (Fc ρ ds n j))) k)):=by rw[aO,hp,i7 kf]
   refine⟨Z,Z,dn,b,xs,k,Z,Y,DN6.mono s',hb.keep (λc zs e=>s' _ _ e),hv,BA _ H' (AA.refl _) λk' ⟨b',e,MX⟩=>?_⟩;cases e;rw[rJ hb MX]
  intro D H7 ys hD Hd ff dv;rw[EB.mpr (λ_ _=>rfl)]at dv;have Ed:=Bu.trans (E8.trans Hd);have Pc:=Bu.trans E8;have ey:ys=(LH ρ ds n j).map An:=by
   have:∀ {ks:List NK} {us ys:LV},QM H6 ks us->Paired (λx v=>lj H6 (A3 Ef (ws.map (Fc ρ ds n j))) D x v H7) us ys->ys=(ks.map λk=>BM (A3 Ef (ws.map (Fc ρ ds n j))) k).map An:=by
    intro ks us ys a
    induction a generalizing ys with
    | nil=>intro c;cases c;rfl
    | cons h t ih =>
     intro c;cases c with
     | cons h' t'=>rw[Ys,Ys,h' _ h,ih t']
   rw[this oN dv];have e:(ws.map (Fc ρ ds n j)).map (λk=>BM (A3 Ef (ws.map (Fc ρ ds n j))) k)=LH ρ ds n j:=by
    unfold LH BS;rw[<- ews,BN];refine Lh λy _=>?_;show BM (A3 Ef (ws.map (Fc ρ ds n j))) (Fc ρ ds n j y)=_;rw[RT];rfl
   rw[e]
  rw[ey]at ff;refine q D H7 ?_ (λb o e=>if hb:b=a then(by subst hb;rw[ha]at e;cases e;exact Ed _ _ (kp _ _ (λx hx=>Ae (ga x hx)) YS))else Ed _ _ (YC _ _ hb e)) ff;cases z:H D with
  | none=>rfl
  | some o =>
   have Vk:=Pc.free hD;by_cases e:D=a
   ·rw[e,kp _ _ (λx hx=>Ae (ga x hx)) YS]at Vk;cases Vk
   ·rw[YC _ _ e z]at Vk;cases Vk
def lB:Ad ["board","place"] ["board","place"] (AL Rx):=by nofun
abbrev p7:LS:=["board","place","places"]
def XQ:Ad p7 ["board","place"] (AL LC):=by nofun
def aW(C B:χ):Sp:=λvs H Q _=>∃(p k:χ) (ρ:RS) (n j:Nat) (ds:ζ),vs=[.ref p,.int j]/\A5 C B H p k ρ n ds/\j<n/\Q .non H
def xP(F:Def K mg "check_place" LC ["board","place"] f fd)(TB:Bh K B)(MP:IB K B fPl fdPl):⋯ 2 f fd ["board","place"] (aW C B):=by
 have GP:⋯ 1 fPl fdPl ["self"] (Gk C B):=IE MP.fn TB
 nomatch F.fn.ok XQ
 ·obtain⟨p,k,ρ,n,j,ds,rfl,_⟩:=h;rfl
 ·obtain⟨p,k,ρ,n,j,ds,rfl,bd,hj,q⟩:=h;obtain⟨dx,ts,us,h1,h2,h3,h4⟩:=bd.ex;have nd:=XQ.nd
  ac_nf
  refine⟨_,pS (sE 2 nd (Am (pv 0) TB.cl MP.me GP hr MP.b .nil Aw)) (AG (Ac (Bx (P8 Iv Hv AI (pv 1) (pv 2))) Bb Aj)),?_⟩
  exists AF _ a _ _ _
  refine⟨Z,p,dx,Z,h1,ID _ _ _,p,k,U,Y,bd,?_⟩;refine⟨Z,_,Z,Y,Z,?_⟩;rw[show decide ((0:Int)<=(j:Int))=true from Jb (by omega)];refine Az ⟨Z,_,Z,Y,Z,?_⟩;rw[show decide ((j:Int)<(n:Int))=true from Jb (by omega)];exact Af q
def vX(F:Def K mg "classes" Rx ["board","place"] f fd)(list:mg "list"=none)(TB:Bh K B)(TC:Be K C)(MK:EO K B fK fdK)(MW:EM K C fWo fdWo)(DCP:Def K mg "check_place" LC ["board","place"] fCP fdCP)(GCP:⋯ 2 fCP fdCP ["board","place"] (aW C B))
  (DAT:Def K mg "all_told" D_ ["board"] fAT fdAT) (GAT:⋯ 9 fAT fdAT ["board"] (Mz C B)) (DCB:Def K mg "classes_by" LF Ip fCB fdCB) (GCB:⋯ 2 fCB fdCB Ip WG):⋯ 10 f fd ["board","place"] (mR C B):=by
 have GK:⋯ 1 fK fdK ["self"] (D9 C B):=ES MK.fn TB;have GW:⋯ 1 fWo fdWo ["self"] (D8 C):=EU MW.fn TC list
 nomatch F.fn.ok lB
 ·obtain⟨p,k,ρ,n,j,ds,rfl,_⟩:=h;rfl
 ·obtain⟨p,k,ρ,n,j,ds,rfl,bd,g,gd,n4,rc,hj,q⟩:=h;have AM:AX 1 _:=hr.mono (by decide);have Bn:AX 2 _:=hr.mono (by decide)
  ac_nf
  refine⟨_,(pS (A7 (AY DCP GCP Bn (pC (pv 0) (pC (pv 1) AB))))
   (AG (Ab (AY DCB GCB Bn (pC (Z2n (AY DAT GAT hr (pC (pv 0) AB))) (pC (Am (Am (pv 0) TB.cl MK.me GK AM MK.b .nil Aw) TC.cl MW.me GW AM MW.b .nil Aw) (pC (pv 1) AB))))))),?_⟩
  exists AF _ a _ _ _
  obtain⟨dx,ts,usB,MY,Kh,fu,fq⟩:=bd.ex;obtain⟨dxk,dk,ak,pW,oak,kvk,avk,A2,_⟩:=Kh.ex;refine⟨Z,Z,p,k,ρ,n,j,ds,Y,bd,hj,?_⟩;refine⟨Z,p,k,U,Y,bd,g,gd,n4,rc,λd ν H1 hd s1 CW hT=>⟨d,ν,Y,CW,λob=>?_⟩⟩;have hT:=hT.keep (H':=upd H1 d (.frz ob (.dT ν))) (λb xs e=>by rw[AE (λz=>by rw[z,CW]at e;cases e)];exact e);have s1:AA H (upd H1 d (.frz ob (.dT ν))):=λb o e=>by rw[AE (AS e hd)];exact s1 _ _ e
  have CW:(upd H1 d (.frz ob (.dT ν))) d≈(.frz ob (.dT ν)):=uS;generalize upd H1 d (.frz ob (.dT ν))=H1 at s1 CW hT;refine⟨Z,p,dx,Z,s1 _ _ MY,C5 _ _ _,p,k,U,Y,bd.mono s1,k,dxk,Z,s1 _ _ A2,Eu _ _,k,ρ,Y,Kh.mono s1,g,λlw hlw=>?_⟩;have Cr:AA H1 (upd H1 lw (.lst ((ρ.map (·.1)).map V.str))):=AO hlw;have Eg:(upd H1 lw (.lst ((ρ.map (·.1)).map V.str))) lw≈(.lst ((ρ.map (·.1)).map V.str)):=uS;generalize upd H1 lw (.lst ((ρ.map (·.1)).map V.str))=H2 at Cr Eg;have Bc:=s1.trans Cr;refine⟨Z,d,lw,ob,ν,ρ,n,j,ds,Y,Cr _ _ CW,hT.keep (λb xs e=>Cr _ _ e),Eg,g,hj,n4,rc,λD H3 hD s3 fg=>?_⟩;exact q D H3 (Bc.free hD) (Bc.trans s3) fg
structure Yak(mg:Str->OU):Prop where
 isi:mg "isinstance"=none
 list:mg "list"=none
 all:mg "all"=none
def Pp(H:Hp)(ml:List (LN))(ms:LV):Prop:=Paired (λl v=>∃ b,v=.ref b/\H b≈(.lst (l.map An))) ml ms
def Pp.mono{H H':Hp}{ml:List (LN)}{ms:LV}(h:Pp H ml ms)(s:AA H H'):Pp H' ml ms:=Paired.mapP h λ_ _ ⟨b,e,x⟩=>⟨b,e,s _ _ x⟩
def Hu(ws:LS)(ml:List (LN))(c:LS):LN:=List.zipWith (λl x=>l.getD (BM ws x) 0) ml c
def rj{ws:LS}(h:∀ x∈ws,PyData.strOk x=true):(ws.map W.Dat.str).all (W.kqdOk 8)=true:=by
 rw[Cd];intro d hd;obtain⟨x,hx,rfl⟩:=Yo.mp hd;exact h x hx
def kT{ws:LS}{x:Str}(hx:x∈ws):(ws.map W.Dat.str)[BM ws x]?≈(.str x)/\∀ m e,m<BM ws x->(ws.map W.Dat.str)[m]?≈e->Cu e (.str x)=false:=by
 obtain⟨i1,i2⟩:=Zl hx;refine⟨by rw[Yj,i1];rfl,λm e hm he=>?_⟩;rw[Yj]at he;cases hz:ws[m]? with
 | none=>rw[hz]at he;cases he
 | some z =>
  rw[hz]at he;have he:=Yp he;rw[<- he];exact WA λzz=>i2 m z hm hz (by injection zz)
def xZ(ws:LS)(H1:Hp)(_:χ)(p:V×V)(v:V)(_:Hp):Prop:=∀(b:χ) (l:LN) (x:Str),p=(.ref b,.str x)->H1 b≈(.lst (l.map An))->v=An (l.getD (BM ws x) 0)
def tT{K:Fg}{lm t:χ}{H1:Hp}{ws:LS}{ml:List (LN)}{ms:LV}{c:LS}{js:LN}{te:TE}{σ:St}{Q:VK}(hm:H1 lm≈(.lst ms))(MV:Pp H1 ml ms)(hl:∀ l∈ml,↑l=↑ws)(ht:H1 t≈(.tup (c.map V.str)))(kn:∀ x∈c,x∈ws)(few:↑ml<=100)
  (he:∀(b:χ) (l:LN) (x:Str) H' (R:VK),x∈ws->↑l=↑ws->AA H1 H'->H' b≈(.lst (l.map An))->R (An (l.getD (BM ws x) 0)) H'->te (↥(.ref b):: some (.str x):: js.map λj=>(σ[j]?).join) H' R)
  (hq:∀ D H',H1 D=none->AA H1 H'->H' D≈(.lst ((Hu ws ml c).map An))->Q (.ref D) H'):AU 2 js (g2 K 0 1) RQ te σ Q (Fu (ms.zip (c.map V.str)) λH=>AD K H lm ms/\AJ K H t (c.map V.str)) H1:=by
 have qC:=BO MV;have zl:↑(ms.zip (c.map V.str))=min ↑ml ↑c:=by rw[JN,Ya,qC]
 refine jI (sL (by omega)) (λ_=>true) (xZ ws H1) (λ_ _ _ _ _ _ h=>h) (λH' s'=>⟨AD.of (s' _ _ hm),AJ.of (s' _ _ ht)⟩) ?_ ?_ ?_
 ·intro x H' R s' _ BA;exact BA H' (AA.refl _)
 ·intro D pr H' R s' _ _ hx _ BA;obtain⟨i,hi⟩:=IK hx;obtain⟨g1,g2⟩:=Ru hi;obtain⟨l,hli,b,e1,hb⟩:=Bk MV g1;obtain⟨x,hxi,e2⟩:=P2 g2;rw[e1,e2];refine he b l x H' R (kn x (Yi hxi)) (hl l (Yi hli)) s' (s' _ _ hb) (BA _ H' (AA.refl _) λb' l' x' e MX=>?_);have ep:pr=(.ref b,.str x):=by rw[<- e1,<- e2]
  rw[ep]at e;cases e;rw[hb]at MX;have hh:=Yp MX;injection hh with hh;have:l=l':=NN (λa b z=>by injection z with z;exact Int.ofNat.inj z) |>.mp hh
  rw[this]
 ·intro D H' ys hD s' Bv pr;rw[EB.mpr (λ_ _=>rfl)]at pr;have yl:=BO pr;have ey:ys=(Hu ws ml c).map An:=by
   refine List.ext_getElem? λi=>?_;have cl:↑((Hu ws ml c).map An)=min ↑ml ↑c:=by unfold Hu;rw[Ya,List.length_zipWith]
   by_cases hi:i<↑ys
   ·have hy:=Yg hi;obtain⟨q,E_,hF⟩:=Bk pr hy;obtain⟨g1,g2⟩:=Ru E_;obtain⟨l,hli,b,e1,hb⟩:=Bk MV g1;obtain⟨x,hxi,e2⟩:=P2 g2;have v:=hF b l x (by rw[<- e1,<- e2]) hb;rw[hy,v,Yj];unfold Hu;rw[List.getElem?_zipWith,hli,hxi];rfl
   ·rw[LR (by omega),LR (by omega)]
  rw[ey]at Bv;exact hq D H' hD s' Bv
def QQ(L:List (List Key×List Key))(k z:List Key):List (List Key×List Key):=if(L.any λp=>decide (p.1=k))=true then L.map (λp=>if p.1=k then(p.1,z)else p)else L++[(k,z)]
def Ks(f h:LS->List Key)(cs:ζ):List (List Key×List Key):=cs.foldl (λL c=>QQ L (f c) (h c)) []
def sS(L:List (List Key×List Key))(k z:List Key):↑(QQ L k z)<=↑L + 1:=by
 unfold QQ;split
 ·rw[Ya];omega
 ·rw[Yu];exact Yd _
def kF(f h:LS->List Key){cs:ζ}{i:Nat}{c:LS}(e:cs[i]?≈c):Ks f h (cs.take (i + 1))=QQ (Ks f h (cs.take i)) (f c) (h c):=by
 unfold Ks;rw[Bz,e];show(cs.take i++[c]).foldl _ _=_;rw[SQ];rfl
theorem jx(f h:LS->List Key)(cs:ζ):∀ i,↑(Ks f h (cs.take i))<=i
 | 0=>by rw[EX];exact Yd _
 | i + 1=>by
  have ih:=jx f h cs i;cases e:cs[i]? with
  | none =>
   rw[Bz,e];show↑(Ks f h (cs.take i++[]))<=_;rw[EE];omega
  | some c =>
   rw[kF f h e];have:=sS (Ks f h (cs.take i)) (f c) (h c);omega
def Km(H:Hp)(L:List (List Key×List Key))(cs:List (List Key×V)):Prop:=Paired (λp q=>q.1=p.1/\∃ t,q.2=.ref t/\H t≈(.tup (p.2.map kV))) L cs
def Km.keep{H H':Hp}{L:List (List Key×List Key)}{cs:List (List Key×V)}(h:Km H L cs)(k:∀ b xs,H b≈(.tup xs)->H' b≈(.tup xs)):Km H' L cs:=Paired.mapP h λ_ _ ⟨e,t,e2,x⟩=>⟨e,t,e2,k _ _ x⟩
def Km.put{H:Hp}{L:List (List Key×List Key)}{cs:List (List Key×V)}(h:Km H L cs){k z:List Key}{t:χ}(ht:H t≈(.tup (z.map kV))):Km H (QQ L k z) (BD cs k (.ref t)):=by
 have e:(cs.any λkv=>decide (kv.1=k))=(L.any λp=>decide (p.1=k)):=by
  induction h with
  | nil=>rfl
  | cons a _ ih=>rw[IG,IG,ih,a.1]
 unfold QQ BD;rw[e];split
 ·rename_i hh
  clear e hh
  induction h with
  | nil=>exact .nil
  | @cons p q ps qs a _ ih =>
   refine .cons ?_ ih;show(if q.1=k then(q.1,V.ref t)else q).1=(if p.1=k then(p.1,z)else p).1/\∃ t1,(if q.1=k then(q.1,V.ref t)else q).2=.ref t1/\H t1≈(.tup ((if p.1=k then(p.1,z)else p).2.map kV));by_cases c:p.1=k
   ·rw[if_pos (a.1.trans c),if_pos c];exact⟨a.1,t,Y,ht⟩
   ·rw[if_neg (λz=>c (a.1.symm.trans z)),if_neg c];exact a
 ·exact IJ h ⟨Y,t,Y,ht⟩
def Fd(ρ:RS)(ds:ζ)(n:Nat):List (LN):=(List.range n).map (LH ρ ds n)
def yk(ρ:RS)(ds:ζ)(n:Nat):List (List Key×List Key):=Ks (λc=>Br (Hu (ρ.map (·.1)) (Fd ρ ds n) c)) (BE ρ ds) (AV ρ n)
def jm(ρ:RS)(ds:ζ)(n:Nat):↑(Fd ρ ds n)=n:=by unfold Fd;rw[Ya,QT]
def vT{ρ:RS}{ds:ζ}{n:Nat}:∀ l∈Fd ρ ds n,↑l=↑(ρ.map (·.1)):=λl hl=>by
 obtain⟨j,_,rfl⟩:=Yo.mp hl;unfold LH BS;rw[Ya]
def nH:Sp:=λvs H Q _=>∃(lw lm t:χ) (ws:LS) (ml:List (LN)) (ms:LV) (c:LS),vs=[.ref lw,.ref lm,.ref t]/\H lw≈(.lst (ws.map V.str))/\H lm≈(.lst ms)/\Pp H ml ms/\(∀ l∈ml,↑l=↑ws)/\H t≈(.tup (c.map V.str))/\(∀ x∈c,x∈ws)/\(∀ x∈ws,PyData.strOk x=true)/\↑ws<=1000/\↑ml<=100 /\
 ∀ T H',AA H H'->H' T≈(.tup ((Br (Hu ws ml c)).map kV))->Q (.ref T) H'
abbrev ML:LS:=["words","maps","call"]
def Ybj:Ad ML ML (AL Rw):=by nofun
def yx:(["numbers","word","words"]:LS).Nodup:=by rfl'
def Z22(F:Def K mg "cell_of" Rw ML f fd)(tuple:mg "tuple"=none)(zip:mg "zip"=none):⋯ 1 f fd ML nH:=by
 nomatch F.fn.ok Ybj
 ·obtain⟨lw,lm,t,ws,ml,ms,c,rfl,_⟩:=h;rfl
 ·obtain⟨lw,lm,t,ws,ml,ms,c,rfl,hw,hm,MV,hl,ht,kn,wok,few,mf,q⟩:=h
  ac_nf
  refine'⟨_,AG (Ab (FI (r:=bS K) LG (by rfl) tuple LZ (pC ?e1 AB))),?_⟩
  case e1=>exact(Cm ["numbers","word"] ["words"] [0] (λ_=>Bs (osc:=AL Rw) (on:=ML) (by rfl') rfl rfl rfl) (Z2h (by rfl) zip (pC (pv 1) (pC (pv 2) AB))) (λC s H fp=>V_ (K:=K) (i:=0) (j:=1) rfl rfl yx rfl rfl (Or.inl rfl) (Or.inl rfl) (Or.inr rfl) (Or.inr rfl)) (λC s H fp=>CU) (λC s H fp=>by
     refine' A9 (r:=Cz K) (ta:=Cy 0) (tb:=dW K "list" (gu K) (Cy 2) (Kp (Cy 1) LL)) Bi ?ea ?eb (λ_ _=>rfl)
     case ea=>exact pv 0
     case eb=>exact Iw Gq PySem.F.slot_list_index PySem.F.type_list_index (uC (LM hr)) (pv 2) (pC (pv 1) AB)))
  refine⟨Z,Z,lm,t,ms,c.map V.str,Y,AD.of hm,AJ.of ht,tT hm MV hl ht kn mf (λb l x H' R hx ll s' hb hR=>?_) λD H1 hD s1 YW=>?_⟩
  ·have hi:BM ws x<↑l:=by rw[ll];exact(Yf.mp (Zl hx).1).1
   refine⟨Z,Z,.inl ⟨Y,_,AD.of (s' _ _ hw)⟩,Z,_,.str x,ws.map W.Dat.str,BM ws x,.str x,Y,.list (AD.of (s' _ _ hw)) (Mw _),.str x,rj wok,wok x hx,by rw[Ya];omega,(kT hx).1,WN _,(kT hx).2,b,_,_,Z,Y,AD.of hb,Es (by rw[Yj,Yg hi];rfl),?_⟩;rw[Ew,Yg hi]at hR;exact hR
  ·exact⟨D,Z,.inl ⟨AD.of YW,λT hT=>q T _ (s1.trans (AO hT)) (by rw[uS,Zq])⟩⟩
def RK(H0 H:Hp)(ml:List (LN))(ms:LV):Prop:=Paired (λl v=>∃ b,v=.ref b/\H0 b=none/\H b≈(.lst (l.map An))) ml ms
def RK.v{H0 H:Hp}{ml:List (LN)}{ms:LV}(h:RK H0 H ml ms):Pp H ml ms:=Paired.mapP h λ_ _ ⟨b,e,_,x⟩=>⟨b,e,x⟩
structure Ycb(H0 H:Hp)(T lm dc:χ)(ρ:RS)(ds:ζ)(n:Nat)(ms:LV)(cs:List (List Key×V)):Prop where
 tup:H T≈(.tup [.ref lm,.ref dc])
 fm:H0 lm=none
 fd:H0 dc=none
 ml:H lm≈(.lst ms)
 mv:RK H0 H (Fd ρ ds n) ms
 cp:Km H (yk ρ ds n) cs
def nh(H1:Hp)(ρ:RS)(ds:ζ)(n:Nat)(D:χ)(x v:V)(H:Hp):Prop:=∀ j:Nat,x=V.int (0 + (j:Int))->∃ b,v=.ref b/\b≠D/\H1 b=none/\H b≈(.lst ((LH ρ ds n j).map An))
def z_{H1 H:Hp}{ρ:RS}{ds:ζ}{n:Nat}{D:χ}{ys:LV}(pr:Paired (λx v=>nh H1 ρ ds n D x v H) (Gd 0 n) ys):RK H1 H (Fd ρ ds n) ys:=by
 have yl:=BO pr;rw[EW]at yl;refine LB (by rw[jm];exact yl) λi l v hl hv=>?_;obtain⟨x,hx,h⟩:=Bk pr hv;obtain⟨hi,e⟩:=Fm hx;obtain⟨b,e1,_,f,hb⟩:=h i e;unfold Fd at hl;rw[Yj,NJ hi]at hl;rw[<- Yp hl];exact⟨b,e1,f,hb⟩
def iE(C B:χ):Sp:=λvs H Q _=>∃(p k:χ) (ρ:RS) (n:Nat) (ds:ζ),vs=[.ref p]/\A5 C B H p k ρ n ds/\Ah ρ/\CG ρ n ds/\n<=4/\↑ρ ^ n<=512 /\
 ∀ T lm dc ms cs H',AA H H'->Ycb H H' T lm dc ρ ds n ms cs->H' dc≈(.dT cs)->Q (.ref T) H'
abbrev eD:LS:=["board","answers","words","maps","cells","call","answer"]
def XW:Ad eD ["board"] (AL P1):=by nofun
def yy:(["place","answers","words"]:LS).Nodup:=by rfl'
structure Ycq(mg:Str->OU):Prop where
 isi:mg "isinstance"=none
 tuple:mg "tuple"=none
 list:mg "list"=none
 dict:mg "dict"=none
 len:mg "len"=none
 all:mg "all"=none
set_option maxHeartbeats 8000000 in
def rm(F:Def K mg "table" P1 ["board"] f fd)(range:mg "range"=none)(list:mg "list"=none)(TB:Bh K B)(TC:Be K C)(MK:EO K B fK fdK)(MP:IB K B fPl fdPl)(MW:EM K C fWo fdWo)
  (DAT:Def K mg "all_told" D_ ["board"] fAT fdAT) (GAT:⋯ 9 fAT fdAT ["board"] (Mz C B)) (DCB:Def K mg "classes_by" LF Ip fCB fdCB) (GCB:⋯ 2 fCB fdCB Ip WG) (DCe:Def K mg "cell_of" Rw ML fCe fdCe) (GCe:⋯ 1 fCe fdCe ML nH):⋯ 10 f fd ["board"] (iE C B):=by
 have GK:⋯ 1 fK fdK ["self"] (D9 C B):=ES MK.fn TB;have GP:⋯ 1 fPl fdPl ["self"] (Gk C B):=IE MP.fn TB;have GW:⋯ 1 fWo fdWo ["self"] (D8 C):=EU MW.fn TC list
 nomatch F.fn.ok XW
 ·obtain⟨p,k,ρ,n,ds,rfl,_⟩:=h;rfl
 ·obtain⟨p,k,ρ,n,ds,rfl,bd,g,gd,n4,rc,q⟩:=h;have nd:=XW.nd;have hu:=EK hr;have AM:AX 1 _:=hr.mono (by decide);have Bn:AX 2 _:=hr.mono (by decide)
  ac_nf
  refine'⟨_,pS (Cc (i:=1) nd rfl (Or.inr rfl) (AY DAT GAT hr (pC (pv 0) AB)))
   (sN (pS (Cc (i:=2) nd rfl (Or.inr rfl) (Am (Am (pv 0) TB.cl MK.me GK AM MK.b .nil Aw) TC.cl MW.me GW AM MW.b .nil Aw))
   (pS ?eM
   (pS (sE 4 nd K6)
   (pS (Ba Yz rfl (Wc (pv 1)) (Hw rfl (gC (gE 5 nd) (gC (gE 6 nd) H_))) (AG (Gi hu (pv 4) (AY DCe GCe AM (pC (pv 2) (pC (pv 3) (pC (pv 5) AB)))) (pv 6) rfl)))
   (AG (Ab (C2 (pC (pv 3) (pC (pv 4) AB)))))))))),?_⟩
  case eM=>exact(QF (k:=3) ["place"] ["answers","words"] [1,2] nd rfl rfl (λ_=>Bs (osc:=AL P1) (on:=eD) (by rfl') rfl rfl rfl) (Gj (by rfl) range (pC (Am (pv 0) TB.cl MP.me GP AM MP.b .nil Aw) AB)) (λC s H fp=>Bl (i:=0) yy rfl (Or.inl rfl) (Or.inr rfl)) (λC s H fp=>CU) (λC s H fp=>AY DCB GCB Bn (pC (pv 1) (pC (pv 2) (pC (pv 0) AB)))))
  exists AF _ a _ _ _
  obtain⟨dx,ts,usB,MY,Kh,fu,fq⟩:=bd.ex;obtain⟨dxk,dk,ak,pW,oak,kvk,avk,A2,_⟩:=Kh.ex;have gle:=g.le;have wl:↑(ρ.map (·.1))=↑ρ:=Ya ..;have al:=JB ρ n;have wok:∀ x∈ρ.map (·.1),PyData.strOk x=true:=λx hx=>Rh (Wf g x hx);refine⟨Z,p,k,U,Y,bd,g,gd,n4,rc,λd ν H1 hd s1 CW hT=>⟨d,ν,CW,λob=>?_⟩⟩;have oy:∀ b xs,H1 b≈(.tup xs)->(upd H1 d (.frz ob (.dT ν))) b≈(.tup xs):=λb xs e=>by rw[AE (λz=>by rw[z,CW]at e;cases e)];exact e
  have RG:=hT.keep oy;have s2:AA H (upd H1 d (.frz ob (.dT ν))):=λb o e=>by rw[AE (AS e hd)];exact s1 _ _ e
  have hd2:(upd H1 d (.frz ob (.dT ν))) d≈(.frz ob (.dT ν)):=uS;generalize upd H1 d (.frz ob (.dT ν))=H2 at RG s2 hd2;have kl:=BO RG;refine⟨Z,p,dx,Z,s2 _ _ MY,C5 _ _ _,p,k,U,Y,bd.mono s2,k,dxk,Z,s2 _ _ A2,Eu _ _,k,ρ,Y,Kh.mono s2,g,λlw hlw=>?_⟩;have DG:AA H2 (upd H2 lw (.lst ((ρ.map (·.1)).map V.str))):=AO hlw;have Cs:(upd H2 lw (.lst ((ρ.map (·.1)).map V.str))) lw≈(.lst ((ρ.map (·.1)).map V.str)):=uS;generalize upd H2 lw (.lst ((ρ.map (·.1)).map V.str))=H3 at DG Cs;have KY:=s2.trans DG;have Hj:=DG _ _ hd2;have fZ:=RG.keep λb xs e=>DG _ _ e;refine⟨Z,p,dx,Z,KY _ _ MY,ID _ _ _,p,k,U,Y,bd.mono KY,n,Y,O,O,K5 JG (by rw[EW];exact sL (by omega)) (λ_=>true) (nh H3 ρ ds n) (λD xv vv Ha Hb k h j e=>?_) (λ_ _=>trivial) ?_ ?_ ?_⟩
  ·obtain⟨b,e1,ne,f,hb⟩:=h j e;exact⟨b,e1,ne,f,k _ _ ne hb⟩
  ·intro xv H' R s' _ BA;exact BA H' (AA.refl _)
  ·rintro D xv H' R s' ⟨yD,YY⟩ hD hx _ BA;obtain⟨j,hj⟩:=IK hx;obtain⟨hj,rfl⟩:=Fm hj;refine⟨Z,Z,Z,d,lw,ob,ν,ρ,n,j,ds,by rw[Li];rfl,s' _ _ Hj,fZ.keep (λb xs e=>s' _ _ e),s' _ _ Cs,g,O,n4,rc,λb DY hb DJ cq=>BA _ DY DJ λj' e=>?_⟩;have ej:j=j':=by injection e with e;omega
   rw[<- ej];exact⟨b,Y,Ae (AS YY hb),s'.free hb,cq⟩
  intro lm H4 ms hlm BK S2 pr;rw[EB.mpr (λ_ _=>rfl)]at pr;have oQ:RK H3 H4 (Fd ρ ds n) ms:=z_ pr;have DH:=KY.trans BK;intro dc hdc;have Bu:AA H4 (upd H4 dc (.dT [])):=AO hdc;have TJ:(upd H4 dc (.dT [])) dc≈(.dT []):=uS;generalize upd H4 dc (.dT [])=H5 at Bu TJ;have s05:=DH.trans Bu;have Hi:=BK _ _ Hj;have YR:=Bu _ _ Hi;have YU:=fZ.keep λb xs e=>BK _ _ e;let FL:NW:=λi σ H'=>∃(x5 x6:OV) (cs:List (List Key×V)),σ=[↥(.ref p),↥(.ref d),↥(.ref lw),↥(.ref lm),↥(.ref dc),x5,x6]/\AA H4 H'/\H' dc≈(.dT cs)/\Km H' (Ks (λc=>Br (Hu (ρ.map (·.1)) (Fd ρ ds n) c)) (BE ρ ds) ((AV ρ n).take i)) cs;refine⟨Z,d,ν,Y,.inr ⟨ob,YR,aI FL
   ⟨none,none,[],Y,Bu,TJ,by rw[EX];exact .nil⟩ (λi σ H' _ h0=>by obtain⟨_,_,_,_,s',_⟩:=h0;exact s' _ _ Hi) ?_ ?_⟩⟩
  ·rintro i VR t b σ H6 hi ⟨x5,x6,cs,rfl,Pc,Nk,CP⟩ ht hb;obtain⟨c,hcc,ek,tt,ev,htt⟩:=Bk YU hi;have gc:Bq ρ n c:=P4 c (Yi hcc);have ilt:=(Yf.mp hcc).1;rw[ek,Rl]at hb;have Hd:AA H6 (upd H6 t (.tup [.ref b,VR.2])):=AO ht;have fj:(upd H6 t (.tup [.ref b,VR.2])) t≈(.tup [.ref b,VR.2]):=uS;generalize upd H6 t (.tup [.ref b,VR.2])=H7 at Hd fj;have Ed:=Pc.trans Hd;have cl:=BO CP;have cb:=jx (λc=>Br (Hu (ρ.map (·.1)) (Fd ρ ds n) c)) (BE ρ ds) (AV ρ n) i;refine⟨t,Z,AJ.of fj,Y,_,Z,_,Z,Y,?_⟩;refine⟨Z,Z,Z,Z,Z,lw,lm,b,ρ.map (·.1),Fd ρ ds n,ms,c,Y,Ed _ _ (BK _ _ Cs),Ed _ _ S2,oQ.v.mono Ed,vT,Hd _ _ hb,gc.known,wok,O,by rw[jm];omega,λT H8 IZ qZ=>?_⟩;have Pa:=Hd.trans IZ;have Pb:=Pc.trans Pa;have TH:=Pa _ _ Nk;refine⟨dc,Z,DS.t TH qZ (C4 (by omega)),?_⟩;rw[ev];have tk:∀ b xs,H8 b≈(.tup xs)->(upd H8 dc (.dT (BD cs (Br (Hu (ρ.map (·.1)) (Fd ρ ds n) c)) (.ref tt)))) b≈(.tup xs):=λb xs e=>by rw[AE (λz=>by rw[z,TH]at e;cases e)];exact e
   refine⟨_,_,Z,λb o e=>by rw[AE (AS e hdc)];exact Pb _ _ e,uS,?_⟩;rw[kF _ _ hcc];exact((CP.keep λb xs e=>Pa _ _ e).put (by unfold BE;rw[Zu];exact Pb _ _ htt)).keep tk
  ·rintro σ H6 ⟨x5,x6,cs,rfl,Pc,Nk,CP⟩;rw[<- kl,CI]at CP;refine⟨Z,Z,J,λT F7=>?_⟩;have Hd:AA H6 (upd H6 T (.tup [.ref lm,.ref dc])):=AO F7;have Ed:=Pc.trans Hd;refine q T lm dc ms cs _ (DH.trans Ed) ⟨uS,KY.free hlm,DH.free hdc,Ed _ _ S2,?_,CP.keep λb xs e=>Hd _ _ e⟩ (Hd _ _ Nk);exact Paired.mapP oQ λ_ _ ⟨b,e,f,x⟩=>⟨b,e,KY.free f,Ed _ _ x⟩
def nL(C B:χ):Sp:=λvs H Q _=>∃(p k:χ) (ρ:RS) (n j:Nat) (ds:ζ) (x y:Str),vs=[.ref p,.int j,.str x,.str y]/\A5 C B H p k ρ n ds/\Ah ρ/\CG ρ n ds/\n<=4/\↑ρ ^ n<=512/\j<n/\x∈ρ.map (·.1)/\y∈ρ.map (·.1) /\
 ∀ v H',AA H H'->nZ H' v (bP ρ n ds j x y)->Q v H'
abbrev pq:LS:=["board","place","one","other","call","turned"]
def XS:Ad pq ["board","place","one","other"] (AL R4):=by nofun
def Z2y(F:Def K mg "parting_call" R4 ["board","place","one","other"] f fd)(TB:Bh K B)(TC:Be K C)(DCP:Def K mg "check_place" LC ["board","place"] fCP fdCP)(GCP:⋯ 2 fCP fdCP ["board","place"] (aW C B))
  (MK:EO K B fK fdK) (MC:V2 K C fCk fdCk) (GC:⋯ 2 fCk fdCk ["self","word"] (Ze C)) (MCa:WE K B fCa fdCa) (GCa:⋯ 3 fCa fdCa ["self"] (Zd C B))
  (DTd:Def K mg "told" Py ["board","call"] fTd fdTd) (GTd:⋯ 8 fTd fdTd ["board","call"] (V8 C B)):⋯ 9 f fd ["board","place","one","other"] (nL C B):=by
 have GK:⋯ 1 fK fdK ["self"] (D9 C B):=ES MK.fn TB
 nomatch F.fn.ok XS
 ·obtain⟨p,k,ρ,n,j,ds,x,y,rfl,_⟩:=h;rfl
 ·obtain⟨p,k,ρ,n,j,ds,x,y,rfl,bd,g,gd,n4,hc,hj,hx,hy,q⟩:=h;obtain⟨dx,ts,us,h1,h2,h3,h4⟩:=bd.ex;obtain⟨dxk,dk,ak,ok,oak,ν,A4,A2,_⟩:=h2.ex;have nd:=XS.nd;have hu:=hr.units;have AM:AX 1 _:=hr.mono (by decide);have Bn:AX 2 _:=hr.mono (by decide);have F5:AX 3 _:=hr.mono (by decide)
  ac_nf
  refine'⟨_,(pS (A7 (AY DCP GCP Bn (pC (pv 0) (pC (pv 1) AB))))
   (pS (A7 (Hz (Am (pv 0) TB.cl MK.me GK AM MK.b .nil Aw) TC.cl MC.me GC Bn MC.b .nil Aw (pC (pv 2) AB)))
   (pS (A7 (Hz (Am (pv 0) TB.cl MK.me GK AM MK.b .nil Aw) TC.cl MC.me GC Bn MC.b .nil Aw (pC (pv 3) AB)))
   (pS (Ba Yz rfl (CT (Am (pv 0) TB.cl MCa.me GCa F5 MCa.b .nil Aw)) (gE 4 nd)
    (pS (sE 5 nd (Al (r:=Ff K) P0 (Al (r:=Ff K) P0 (Rp (r:=QR K) ZK (pv 4) Za (Mr (pv 1))) (C2 (pC (pv 3) AB))) (Rp (r:=QR K) ZK (pv 4) (Mr (Al Iy (pv 1) AI)) Za)))
    (AG (Ac (PW.pt (V6 (Ax Bw (A9 (r:=LJ K) Mn (pv 4) (pv 1) (λ_ _=>rfl)) (pv 2) (Ao _)) (WL (Ax (mq hu) (AY DTd GTd hr (pC (pv 0) (pC (pv 4) AB))) (AY DTd GTd hr (pC (pv 0) (pC (pv 5) AB))) (Ao _))))) (AG (Ab (pv 4))) Aj))))
   (AG (Ab Mj)))))),?_⟩
  exists let b:=_;let c:=AF _ b;let e:=AF (B5 _ _ c) a;let f:=AF _ e;let g:=AF _ f;AF _ g _ _ _
  refine⟨Z,Z,p,k,ρ,n,j,ds,Y,bd,hj,?_⟩;refine⟨Z,p,dx,Z,h1,C5 _ _ _,p,k,U,Y,bd,k,dxk,Z,A2,P6 _ _,Z,k,ρ,x,Y,h2,g,hx,?_⟩;refine⟨Z,p,dx,Z,h1,C5 _ _ _,p,k,U,Y,bd,k,dxk,Z,A2,P6 _ _,Z,k,ρ,y,Y,h2,g,hy,?_⟩;refine⟨Z,p,dx,Z,h1,Wa _ _ _,p,k,U,Y,bd,g,n4,hc,λlf ys H1 hlf s1 hys hD=>?_⟩;let A8:NW:=λi σ H'=>∃(a b:OV),σ=[↥(.ref p),↥(.int (j:Nat)),↥(.str x),↥(.str y),a,b]/\AA H1 H'/\((AV ρ n).take i).find? (RO ρ ds j x y)=none;refine⟨lf,Y,⟨_,AD.of hys⟩,CH (DV (xs:=ys)) A8
   ⟨none,none,Y,AA.refl _,Y⟩ (λi σ H' _ h0=>by obtain⟨_,_,_,s',_⟩:=h0;exact AD.of (s' _ _ hys)) ?_ ?_⟩
  ·rintro i v σ H' hi ⟨a,b,rfl,s',hf⟩;obtain⟨c,hcc,t,rfl,ht⟩:=Bk hD hi;have gc:Bq ρ n c:=P4 c (Yi hcc);have gl:=gc.len;have Eh:=s' _ _ ht;refine Z1o (K:=K) (e:=4) (p:=1) (o:=3) (t:=t) (c:=c) (k:=j) (x:=y) rfl rfl rfl Eh (by omega) (by omega) λT H2 s2 hT=>?_;have BL:=s2 _ _ Eh;have hjl:j<↑c:=by omega
   refine⟨Z,Z,t,_,_,Z,Y,AJ.of BL,Es (j:=j) (by rw[Yj,Yg hjl];rfl),Z,Y,Z,?_⟩;have ed:decide (V.str c[j]=V.str x)=decide (c[j]?≈x):=Qc.mpr (by rw[Yg hjl];exact⟨λz=>by injection z with z;rw[z],λz=>by rw[Yp z]⟩);rw[ed];refine BY (λh=>?_) (λh=>?_)
   ·have Bc:=s'.trans s2;refine⟨Z,Z,p,k,t,U,c,Y,bd.mono (s1.trans Bc),g,gd,n4,BL,gc,λt1 H3 Ct s3 h3=>?_⟩;refine⟨Z,Z,p,k,T,U,GV c j y,Y,bd.mono ((s1.trans Bc).trans s3),g,gd,n4,s3 _ _ hT,vC gc hj hy,λt2 H4 ht2' s4 h4=>?_⟩;have X5:=s3.trans s4;refine⟨.tuple (Dx (De ρ ds c)),.tuple (Dx (De ρ ds (GV c j y))),WS (s4 _ _ h3),WS h4,WQ 8 _,WQ 8 _,Z,?_⟩;have pb:RO ρ ds j x y c=!Cu (.tuple (Dx (De ρ ds c))) (.tuple (Dx (De ρ ds (GV c j y)))):=by unfold RO;rw[h,Bool.true_and]
    rw[<- pb];refine BY (λh2=>?_) (λh2=>?_)
    ·refine⟨Z,q (.ref t) H4 ((s1.trans Bc).trans X5) ?_⟩;unfold bP;rw[gW _ _ i c hf hcc h2];exact⟨t,Y,X5 _ _ BL⟩
    ·exact⟨_,Z,Bc.trans X5,aX _ _ i c hf hcc (by simpa using h2)⟩
   ·refine Af ?_;exact⟨_,Z,s'.trans s2,aX _ _ i c hf hcc (by unfold RO;rw[show decide (c[j]?≈x)=false by simpa using h];rfl)⟩
  ·rintro σ H' ⟨a,b,rfl,s',hf⟩;rw[<- ↑hD,CI]at hf;refine q .non H' (s1.trans s') ?_;unfold bP;rw[hf];rfl
structure Ycp(mg:Str->OU):Prop where
 len:mg "len"=none
 range:mg "range"=none
 isi:mg "isinstance"=none
 tuple:mg "tuple"=none
def bU(ρ:RS)(ds:ζ)(xs ys r:LS):Bool:=!Cu (.tuple (Dx (De ρ ds (xs++r)))) (.tuple (Dx (De ρ ds (ys++r))))
def bV(ρ:RS)(n:Nat)(ds:ζ)(xs ys:LS):Option (LS):=(AV ρ (n - ↑xs)).find? (bU ρ ds xs ys)
def kK(C B:χ):Sp:=λvs H Q _=>∃(p k t1 t2:χ) (ρ:RS) (n m:Nat) (ds:ζ) (xs ys:LS),vs=[.ref p,.ref t1,.ref t2]/\A5 C B H p k ρ n ds/\Ah ρ/\H t1≈(.tup (xs.map V.str))/\H t2≈(.tup (ys.map V.str))/\Bq ρ m xs/\Bq ρ m ys/\m<=n/\n<=4/\∀ H',AA H H'->Q .non H'
def ZP(C B:χ):Sp:=λvs H Q _=>∃(p k t1 t2:χ) (ρ:RS) (n m:Nat) (ds:ζ) (xs ys:LS),vs=[.ref p,.ref t1,.ref t2]/\A5 C B H p k ρ n ds/\Ah ρ/\CG ρ n ds/\H t1≈(.tup (xs.map V.str))/\H t2≈(.tup (ys.map V.str))/\Bq ρ m xs/\Bq ρ m ys/\m<=n/\n<=4/\↑ρ ^ n<=512 /\
 ∀ v H',AA H H'->nZ H' v (bV ρ n ds xs ys)->Q v H'
abbrev Ybx:LS:=["board","one","other","kinds","length"]
def Vx:Ad Ybx ["board","one","other"] (AL QL):=by nofun
def we(F:Def K mg "check_beginnings" QL ["board","one","other"] f fd)(len:mg "len"=none)(TB:Bh K B)(MK:EO K B fK fdK)(MP:IB K B fPl fdPl)(DI:Def K mg "is_call" IC CV fI fdI)(GI:⋯ 2 fI fdI CV (Rr C)):⋯ 3 f fd ["board","one","other"] (kK C B):=by
 have GK:⋯ 1 fK fdK ["self"] (D9 C B):=ES MK.fn TB;have GP:⋯ 1 fPl fdPl ["self"] (Gk C B):=IE MP.fn TB
 nomatch F.fn.ok Vx
 ·obtain⟨p,k,t1,t2,ρ,n,m,ds,xs,ys,rfl,_⟩:=h;rfl
 ·obtain⟨p,k,t1,t2,ρ,n,m,ds,xs,ys,rfl,bd,g,Ct,BL,g1,g2,mn,n4,q⟩:=h;obtain⟨dx,ts,us,h1,h2,h3,h4⟩:=bd.ex;have nd:=Vx.nd;have AM:AX 1 _:=hr.mono (by decide);have e1:=g1.len;have e2:=g2.len
  ac_nf
  refine'⟨_,(pS (sE 3 nd (Am (pv 0) TB.cl MK.me GK AM MK.b .nil Aw))
   (pS (sE 4 nd (Ai B_ (by rfl) len Yx (pC (pv 1) AB)))
   (AG (Ac (PW.pt (Fe (Ax GZ (pv 4) (Am (pv 0) TB.cl MP.me GP AM MP.b .nil Aw) (Ao _)) (Fe (Bx (CF (AY DI GI hr (pC (pv 3) (pC (pv 4) (pC (pv 1) AB)))))) (Hy (Bx (CF (AY DI GI hr (pC (pv 3) (pC (pv 4) (pC (pv 2) AB)))))))))) Bb Aj)))),?_⟩
  exists let b:=AF _ a;AF _ b _ _ _
  refine⟨Z,p,dx,Z,h1,C5 _ _ _,p,k,U,Y,bd,?_⟩;refine⟨Z,t1,Z,.inr (AJ.of Ct),?_⟩;refine⟨Z,Z,p,dx,Z,h1,ID _ _ _,p,k,U,Y,bd,_,Z,Y,Z,?_⟩;have el:↑(xs.map V.str)=m:=by rw[Ya];exact e1
  rw[show decide (((n:Nat):Int)<((↑(xs.map V.str):Nat):Int))=false from Jc (by omega)];refine Af ?_;refine⟨Z,Z,Z,k,t1,m,ρ,xs,by rw[el];rfl,h2,g,Ct,O,λH1 s1=>⟨Z,?_⟩⟩;rw[g1.is];refine Af ?_;refine⟨Z,Z,Z,k,t2,m,ρ,ys,by rw[el];rfl,h2.mono s1,g,s1 _ _ BL,O,λH2 s2=>⟨Z,?_⟩⟩;rw[g2.is];exact Af (q H2 (s1.trans s2))
abbrev pw:LS:=["board","one","other","rest"]
def az:Ad pw ["board","one","other"] (AL R5):=by nofun
def Z2x(F:Def K mg "parting_rest" R5 ["board","one","other"] f fd)(len:mg "len"=none)(list:mg "list"=none)(TB:Bh K B)(TC:Be K C)(DCB:Def K mg "check_beginnings" QL ["board","one","other"] fCB fdCB)(GCB:⋯ 3 fCB fdCB ["board","one","other"] (kK C B))
  (MK:EO K B fK fdK) (MP:IB K B fPl fdPl) (MW:EM K C fW fdW) (MS:XZ K B fS fdS) (GS:⋯ 2 fS fdS ["self"] (ZQ C B)) (DO:Def K mg "one_of_each" M8 ["rows"] fO fdO)
  (DTd:Def K mg "told" Py ["board","call"] fTd fdTd) (GTd:⋯ 8 fTd fdTd ["board","call"] (V8 C B)):⋯ 9 f fd ["board","one","other"] (ZP C B):=by
 have GK:⋯ 1 fK fdK ["self"] (D9 C B):=ES MK.fn TB;have GP:⋯ 1 fPl fdPl ["self"] (Gk C B):=IE MP.fn TB;have GW:⋯ 1 fW fdW ["self"] (D8 C):=EU MW.fn TC list;have GO:⋯ 1 fO fdO ["rows"] Wi:=aS DO
 nomatch F.fn.ok az
 ·obtain⟨p,k,t1,t2,ρ,n,m,ds,xs,ys,rfl,_⟩:=h;rfl
 ·obtain⟨p,k,t1,t2,ρ,n,m,ds,xs,ys,rfl,bd,g,gd,Ct,BL,g1,g2,mn,n4,rc,q⟩:=h;obtain⟨dx,ts,us,h1,h2,h3,h4⟩:=bd.ex;obtain⟨dxk,dk,ak,ok,oak,ν,A4,A2,_⟩:=h2.ex;have nd:=az.nd;have hu:=hr.units;have AM:AX 1 _:=hr.mono (by decide);have Bn:AX 2 _:=hr.mono (by decide);have F5:AX 3 _:=hr.mono (by decide);have e1:=g1.len;have e2:=g2.len;have gle:=g.le;have gne:1<=↑ρ:=by have:=g.ne;omega
  ac_nf
  refine'⟨_,(pS (A7 (AY DCB GCB F5 (pC (pv 0) (pC (pv 1) (pC (pv 2) AB)))))
   (pS (A7 (Am (pv 0) TB.cl MS.me GS Bn MS.b .nil Aw))
   (pS (Ba Yz rfl (CT (AY DO GO AM (pC (Al ZL (C1 (pC (Am (Am (pv 0) TB.cl MK.me GK AM MK.b .nil Aw) TC.cl MW.me GW AM MW.b .nil Aw) AB)) (Al mr (Am (pv 0) TB.cl MP.me GP AM MP.b .nil Aw) (Ai B_ (by rfl) len Yx (pC (pv 1) AB)))) AB))) (gE 3 nd)
    (AG (Ac (Ax (mq hu) (AY DTd GTd hr (pC (pv 0) (pC (Al (r:=Ff K) P0 (pv 1) (pv 3)) AB))) (AY DTd GTd hr (pC (pv 0) (pC (Al (r:=Ff K) P0 (pv 2) (pv 3)) AB))) (Ao _)) (AG (Ab (pv 3))) Aj)))
   (AG (Ab Mj))))),?_⟩
  exists let b:=_;let c:=AF (B5 _ _ b) a;let e:=AF _ c;AF _ e _ _ _
  refine⟨Z,Z,Z,p,k,t1,t2,ρ,n,m,ds,xs,ys,Y,bd,g,Ct,BL,g1,g2,mn,n4,λH0 s0=>?_⟩;refine⟨Z,p,dx,Z,s0 _ _ h1,WO _ _ _,p,k,U,Y,bd.mono s0,g,n4,rc,λH1 MF=>?_⟩;have s1:=s0.trans MF;refine⟨Z,p,dx,Z,s1 _ _ h1,C5 _ _ _,p,k,U,Y,bd.mono s1,k,dxk,Z,s1 _ _ A2,Eu _ _,k,ρ,Y,h2.mono s1,g,λl hl=>⟨Q,λl1 Aa=>?_⟩⟩;have sA:AA H1 (upd H1 l (.lst ((ρ.map (·.1)).map V.str))):=AO hl;have hlA:(upd H1 l (.lst ((ρ.map (·.1)).map V.str))) l≈(.lst ((ρ.map (·.1)).map V.str)):=uS;generalize upd H1 l (.lst ((ρ.map (·.1)).map V.str))=HA at sA hlA Aa;have sB:AA HA (upd HA l1 (.lst [.ref l])):=AO Aa;have S6:(upd HA l1 (.lst [.ref l])) l1≈(.lst [.ref l]):=uS;generalize upd HA l1 (.lst [.ref l])=HB at sB S6;have VP:=s1.trans (sA.trans sB);have el:↑(xs.map V.str)=m:=by rw[Ya];exact e1
  have en:((n:Nat):Int) - ((↑(xs.map V.str):Nat):Int)=((n - m:Nat):Int):=by omega
  refine⟨Z,p,dx,Z,VP _ _ h1,ID _ _ _,p,k,U,Y,bd.mono VP,Z,t1,Z,.inr (AJ.of (VP _ _ Ct)),_,Z,Y,?_⟩;show lT (V.ref l1) (V.int (((n:Nat):Int) - ((↑(xs.map V.str):Nat):Int))) HB _;rw[en];refine⟨l1,_,Z,Y,S6,O,O,sL (by show 1 * _<=100000;omega),λl2 Ap=>?_⟩;have sC:AA HB (upd HB l2 (.lst (List.replicate ((n - m:Nat):Int).toNat [V.ref l]).flatten)):=AO Ap;have S5:(upd HB l2 (.lst (List.replicate ((n - m:Nat):Int).toNat [V.ref l]).flatten)) l2≈(.lst (List.replicate (n - m) (V.ref l))):=by
   have fe:∀ m,(List.replicate m [V.ref l]).flatten=List.replicate m (V.ref l):=λm=>by
    induction m with
    | zero=>rfl
    | succ m ih=>rw[C7,La,ih,C7];rfl
   rw[uS,B0,fe]
  generalize upd HB l2 (.lst (List.replicate ((n - m:Nat):Int).toNat [V.ref l]).flatten)=HC at sC S5;have hlC:=(sB.trans sC) _ _ hlA;have rw_:∀ m,Xa HC (List.replicate m (BS ρ)) (List.replicate m (V.ref l)):=λm=>by
   induction m with
   | zero=>exact .nil
   | succ m ih=>rw[C7,C7];exact .cons ⟨l,Y,hlC⟩ ih
  have pN:=VP.trans sC;refine⟨l2,List.replicate (n - m) (BS ρ),Z,S5,rw_ _,λi=>?_,λws hws=>?_,by rw[SO];omega,λlf zs HD hlf sD FO hD=>?_⟩
  ·rw[List.take_replicate];have:=JB ρ (min i (n - m));unfold AV at this;rw[this];exact Yq (Yq (P7 gne (show min i (n - m)<=n by omega)) rc) (by decide)
  ·rw[SY hws,Ya];omega
  have hD:BR HD (AV ρ (n - m)) zs:=hD;have du:=pN.trans sD;let A8:NW:=λi σ H'=>∃(a:OV),σ=[↥(.ref p),↥(.ref t1),↥(.ref t2),a]/\AA HD H'/\((AV ρ (n - m)).take i).find? (bU ρ ds xs ys)=none;refine⟨lf,Y,⟨_,AD.of FO⟩,CH (DV (xs:=zs)) A8
   ⟨none,Y,AA.refl _,Y⟩ (λi σ H' _ h0=>by obtain⟨_,_,s',_⟩:=h0;exact AD.of (s' _ _ FO)) ?_ ?_⟩
  ·rintro i v σ H' hi ⟨a,rfl,s',hf⟩;obtain⟨r,hrr,t,rfl,ht⟩:=Bk hD hi;have gr:Bq ρ (n - m) r:=P4 r (Yi hrr);have gl:=gr.len;have Qn:=du.trans s';refine⟨Z,Z,Z,jH (Qn _ _ Ct) (s' _ _ ht) (by omega) λT1 K1 dq Pk=>?_⟩;refine⟨p,k,T1,U,xs++r,Y,bd.mono (Qn.trans dq),g,gd,n4,Pk,iI g1 gr mn,λu1 K2 hu1 pM Pj=>?_⟩;have Cr:=dq.trans pM;refine⟨Z,Z,Z,jH ((Qn.trans Cr) _ _ BL) ((s'.trans Cr) _ _ ht) (by omega) λT2 K3 dm RG=>?_⟩;refine⟨p,k,T2,U,ys++r,Y,bd.mono ((Qn.trans Cr).trans dm),g,gd,n4,RG,iI g2 gr mn,λu2 K4 Qz pL qT=>?_⟩;have BK:=dm.trans pL;have Pd:=Cr.trans BK;refine⟨.tuple (Dx (De ρ ds (xs++r))),.tuple (Dx (De ρ ds (ys++r))),WS (BK _ _ Pj),WS qT,WQ 8 _,WQ 8 _,Z,?_⟩;refine BY (λh2=>?_) (λh2=>?_)
   ·refine⟨Z,q (.ref t) K4 (Qn.trans Pd) ?_⟩;unfold bV;rw[e1,gW _ _ i r hf hrr h2];exact⟨t,Y,(s'.trans Pd) _ _ ht⟩
   ·exact⟨Z,s'.trans Pd,aX _ _ i r hf hrr (by unfold bU;simpa using h2)⟩
  ·rintro σ H' ⟨a,rfl,s',hf⟩;rw[<- ↑hD,CI]at hf;refine q .non H' (du.trans s') ?_;unfold bV;rw[e1,hf];rfl
def wt(ws:LS)(vs:τ)(x:Str):Int:=vs.getD (ws.idxOf x) 0
def Kn(ws:LS)(vs:τ)(c:LS):Int:=c.foldl (λp x=>p * wt ws vs x) 1
def F1(ws:LS)(vs:τ):KL:=(ws.map Sum.inr).zip (vs.map V.int)
theorem hX:∀ {ws:LS}{vs:τ}{x:Str},x∈ws->↑ws=↑vs->A0 (F1 ws vs) (Sum.inr x)≈(.int (wt ws vs x))
 | [],_,_,h,_=>nomatch h
 | _ :: _,[],_,_,h=>by simp at h
 | y :: ws,v :: vs,x,h,hl=>by
  have Bv:↑ws=↑vs:=by simpa using hl
  by_cases e:y=x
  ·subst e;show A0 ((Sum.inr y,V.int v):: F1 ws vs) _=_;rw[JE rfl];unfold wt;rw[List.idxOf_cons_self];rfl
  ·have hx:x∈ws:=by
    cases h with
    | head=>exact absurd rfl e
    | tail _ h=>exact h
   show A0 ((Sum.inr y,V.int v):: F1 ws vs) _=_;rw[JD (by intro z;injection z with z;exact e z),hX hx Bv];unfold wt;rw[Sg,show(y == x)=false from by rw[beq_eq_false_iff_ne];exact e];rfl
def Qe(vs:τ):Prop:=∀ v∈vs,0<=v/\Builtin.Int.intBits v<=200
def yV{ws:LS}{vs:τ}(h:Qe vs)(x:Str):0<=wt ws vs x/\Builtin.Int.intBits (wt ws vs x)<=200:=by
 unfold wt;rw[Ew];cases e:vs[ws.idxOf x]? with
 | none=>exact⟨by simp,by rfl'⟩
 | some v=>exact h v (Yi e)
def mG:Sp:=λvs H Q _=>∃(a t:χ) (ws:LS) (ks:τ) (c:LS),vs=[.ref a,.ref t]/\Rd H a (.dK (F1 ws ks))/\↑ws=↑ks/\Qe ks/\H t≈(.tup (c.map V.str))/\↑c<=4/\(∀ x∈c,x∈ws)/\Q (.int (Kn ws ks c)) H
abbrev pj:LS:=["weight_of","call","product","word"]
def lK:Ad pj ["weight_of","call"] (AL Wx):=by nofun
def zF(F:Def K mg "weight_by" Wx ["weight_of","call"] f fd):⋯ 1 f fd ["weight_of","call"] mG:=by
 nomatch F.fn.ok lK
 ·obtain⟨a,t,ws,ks,c,rfl,_⟩:=h;rfl
 ·obtain⟨a,t,ws,ks,c,rfl,ha,hl,wo,ht,c4,hc,q⟩:=h;have nd:=lK.nd;have hu:=EK hr
  ac_nf
  refine⟨_,pS (sE 2 nd AI)
   (pS (Ba Yz rfl (Ml (pv 1)) (gE 3 nd) (AG (sE 2 nd (Al WJ (pv 2) (Kx hu (pv 0) (pv 3) (λ_ _=>rfl))))))
   (AG (Ab (pv 2)))),?_⟩
  exists let b:=_;let c:=AF (B5 _ _ b) a;AF _ c _ _ _
  let A8:NW:=λi σ H'=>∃ x:OV,σ=[↥(.ref a),↥(.ref t),↥(.int (Kn ws ks (c.take i))),x]/\H'=H/\Builtin.Int.intBits (Kn ws ks (c.take i))<=200 * i + 1;refine⟨Z,t,Y,⟨_,AJ.of ht⟩,CH (Mv (xs:=c.map V.str)) A8
   ⟨none,Y,Y,(by show Builtin.Int.intBits 1<=_;rfl')⟩ (λi σ H' _ h0=>by obtain⟨_,_,e,_⟩:=h0;exact by rw[e];exact AJ.of ht) ?_ ?_⟩
  ·rintro i v σ H' hi ⟨x,rfl,rfl,hb⟩;rw[Yj]at hi;obtain⟨y,hy,rfl⟩:=Fp.mp hi;have il:=(Yf.mp hy).1;have w1:=yV (ws:=ws) wo y;refine⟨Z,Z,Z,a,Z,(by rw[<- hX (hc y (Yi hy)) hl];exact BB.r (k:=Sum.inr y) ha),_,Z,Y,⟨O,O⟩,?_⟩;have e:Kn ws ks (c.take (i + 1))=Kn ws ks (c.take i) * wt ws ks y:=by
    unfold Kn;rw[Bz,hy,SQ];rfl
   refine⟨_,by rw[e];rfl,Y,?_⟩;rw[e];have:=intBits_mul_le hb w1.2;omega
  ·rintro σ H' ⟨x,rfl,rfl,_⟩;rw[Ya,CI];exact⟨Z,q⟩
structure lq(mg:Str->OU):Prop where
 len:mg "len"=none
 any:mg "any"=none
 list:mg "list"=none
def bR(K:Fg)(C:χ):Sp:=λvs H Q _=>∃(k l:χ) (b:Bool) (ρ:RS) (ks:τ),vs=[.ref k,.ref l]/\CS C H k ρ/\Ah ρ/\C8 K b H l (ks.map V.int)/\↑ks=↑ρ/\Qe ks/\∀ H',AA H H'->Q .non H'
abbrev au:LS:=["kinds","weights","number"]
def Vy:Ad au ["kinds","weights"] (AL LD):=by nofun
def nV:(["weight"]:LS).Nodup:=by rfl'
def y9(F:Def K mg "check_weights" LD ["kinds","weights"] f fd)(T:lq mg)(TC:Be K C)(MW:EM K C fWo fdWo):⋯ 2 f fd ["kinds","weights"] (bR K C):=by
 have GW:⋯ 1 fWo fdWo ["self"] (D8 C):=EU MW.fn TC T.list
 nomatch F.fn.ok Vy
 ·obtain⟨k,l,b,ρ,ks,rfl,_⟩:=h;rfl
 ·obtain⟨k,l,b,ρ,ks,rfl,hk,g,hl,len,wo,q⟩:=h;obtain⟨dxk,dk,ak,ok,oak,ν,A4,A2,_⟩:=hk.ex;have nd:=Vy.nd;have gle:=g.le
  ac_nf
  refine'⟨_,pS (sE 2 nd (Ai B_ (by rfl) T.len Yx (pC (Am (pv 0) TC.cl MW.me GW hr MW.b .nil Aw) AB)))
   (AG (Ac (PW.pt (Fe (Ax RN (Ai B_ (by rfl) T.len Yx (pC (pv 1) AB)) (pv 2) (Ao _)) (Hy (CF (Ai (Zv rfl) (by rfl) T.any PyProof.Rows.boot_any (pC ?eC AB)))))) Bb Aj)),?_⟩
  case eC=>exact Cm ["weight"] [] [] (λ_=>Bs (osc:=AL LD) (on:=au) (by rfl') rfl rfl rfl) (V5 (pv 1)) (λC s H fp=>Bl (i:=0) nV rfl (Or.inl rfl) (Or.inr rfl)) (λC s H fp=>CU) (λC s H fp=>FH Hv (pv 0) AI (Ao _))
  exists AF _ a _ _ _
  refine⟨Z,k,dxk,Z,A2,Eu _ _,k,ρ,Y,hk,g,λlw hlw=>?_⟩;have s1:AA H (upd H lw (.lst ((ρ.map (·.1)).map V.str))):=AO hlw;refine⟨lw,Z,.inl (AD.of uS),?_⟩;generalize upd H lw (.lst ((ρ.map (·.1)).map V.str))=H1 at s1;have Aa:=hl.mono s1;have Ap:AD K H1 l (ks.map V.int)\/AJ K H1 l (ks.map V.int):=by
   cases b with
   | true=>exact .inl Aa
   | false=>exact .inr Aa
  refine⟨Z,l,Z,Ap,Z,Y,Z,?_⟩;have e0:(!decide (V.int ((↑(ks.map V.int):Nat):Int)=V.int ((↑((ρ.map (·.1)).map V.str):Nat):Int)))=false:=by
   rw[Ya,Ya,Ya,len];simp
  rw[e0];refine Af ?_;refine⟨Z,b,l,Z,Aa,Mt (WT (K:=K) (b:=b)) (sL (by rw[Ya];omega)) (λ_=>true) (λ_=>V.bl false) (λH' s'=>Aa.mono s') ?_ ?_ ?_⟩
  ·intro x H' R _ _ hR;exact hR H' (AA.refl _)
  ·intro x H' R _ hx _ hR;obtain⟨v,hv,rfl⟩:=Yo.mp hx;have:=(wo v hv).1;refine⟨Z,_,Z,Y,?_⟩;show R (V.bl (decide (v<0))) H';rw[show decide (v<0)=false from Jc (by omega)];exact hR H' (AA.refl _)
  ·intro D H' hD s' Bv;refine⟨D,(ks.map λ_=>false),Y,AD.of (by rw[Bv,EB.mpr λ_ _=>rfl,BN,BN];rfl),Z,?_⟩;have ea:((ks.map λ_=>false).any id)=false:=by rw[List.any_map,SU];intro x _;simp
   refine BY (λh=>?_) (λ_=>q H' (s1.trans s'));have h:((ks.map λ_=>false).any id)=true:=h;rw[ea]at h;cases h
def Vw:LN->List Key
 | []=>[.inr "none"]
 | [k]=>[.inr "deed",.inl (k:Nat)]
 | k :: j :: _=>[.inr "clash",.inl (k:Nat),.inl (j:Nat)]
def u6:∀ l:LN,(Vw l).map kV=Mb l
 | []=>rfl
 | [_]=>rfl
 | _ :: _ :: _=>rfl
def aq:OV->Int
 | some (.int i)=>i
 | _=>0
def n9(ν:List (List Key×V))(k:List Key)(x:Int):List (List Key×V):=BD ν k (.int (aq (A0 ν k) + x))
def ND(ρ:RS)(ds:ζ)(ks:τ)(cs:ζ):List (List Key×V):=
 cs.foldl (λacc c=>n9 acc (Vw (De ρ ds c)) (Kn (ρ.map (·.1)) ks c)) []
def jh{ρ:RS}{ds:ζ}{ks:τ}{cs:ζ}{c:LS}{i:Nat}(h:cs[i]?≈c):
  ND ρ ds ks (cs.take (i + 1))=n9 (ND ρ ds ks (cs.take i)) (Vw (De ρ ds c)) (Kn (ρ.map (·.1)) ks c):=by
 unfold ND;rw[Bz,h,SQ];rfl
def lh(ν:List (List Key×V)):Prop:=∀ p∈ν,∃ i,p.2=V.int i
def sR{ν:List (List Key×V)}{k:List Key}{v:V}{p:List Key×V}(h:p∈BD ν k v):p∈ν\/p.2=v:=by
 unfold BD at h;split at h
 ·obtain⟨q,hq,e⟩:=Yo.mp h;split at e
  ·rw[<- e];exact .inr rfl
  ·rw[<- e];exact .inl hq
 ·rcases Yr.mp h with h | h
  ·exact .inl h
  ·rw[Ym.mp h];exact .inr rfl
def sQ{ν:List (List Key×V)}{k:List Key}{v:V}:↑(BD ν k v)<=↑ν + 1:=by
 unfold BD;split
 ·rw[Ya];omega
 ·rw[Yu,Xg];omega
theorem jg{ρ:RS}{ds:ζ}{ks:τ}(cs:ζ):∀ i,i<=↑cs->lh (ND ρ ds ks (cs.take i))/\↑(ND ρ ds ks (cs.take i))<=i
 | 0,_=>⟨λ_ h=>(nomatch h),Yd _⟩
 | i + 1,h=>by
  obtain⟨h1,h2⟩:=jg cs i (by omega);obtain⟨c,hc⟩:∃ c,cs[i]?≈c:=⟨_,Yg (by omega)⟩;rw[jh hc];refine⟨λp hp=>?_,Yq sQ (Nat.succ_le_succ h2)⟩
  rcases sR hp with hp | hp
  ·exact h1 p hp
  ·exact⟨_,hp⟩
def s_{ν:List (List Key×V)}(h:lh ν)(k:List Key):(A0 ν k).getD (.int 0)=.int (aq (A0 ν k)):=by
 unfold A0;cases e:ν.find? λkv=>decide (kv.1=k)with
 | none=>rfl
 | some p =>
  obtain⟨i,hi⟩:=h p (List.mem_of_find?_eq_some e);simp[hi,aq]
def yj(H:Hp):List (List Key×V)->LV->Prop:=Paired λkv v=>∃ t b:χ,v=.ref t/\H b≈(.tup (kv.1.map kV))/\H t≈(.tup [.ref b,kv.2])
def ix(K:Fg)(C B:χ):Sp:=λvs H Q _=>∃(p k l:χ) (b:Bool) (ρ:RS) (n:Nat) (ds:ζ) (ks:τ),vs=[.ref p,.ref l]/\A5 C B H p k ρ n ds/\Ah ρ/\CG ρ n ds/\n<=4/\↑ρ ^ n<=512 /\
 C8 K b H l (ks.map V.int)/\↑ks=↑ρ/\Qe ks /\
 ∀ lr vs H',H lr=none->AA H H'->H' lr≈(.lst vs)->yj H' (ND ρ ds ks (AV ρ n)) vs->Q (.ref lr) H'
structure l6(mg:Str->OU):Prop where
 dict:mg "dict"=none
 zip:mg "zip"=none
 list:mg "list"=none
abbrev pk:LS:=["board","weights","weight_of","sums","call","answer"]
def XT:Ad pk ["board","weights"] (AL Rq):=by nofun
def uT(F:Def K mg "shares" Rq ["board","weights"] f fd)(T:l6 mg)(TB:Bh K B)(TC:Be K C)
  (MK:EO K B fK fdK) (MW:EM K C fWo fdWo) (DA:Def K mg "all_told" D_ ["board"] fA fdA) (GA:⋯ 9 fA fdA ["board"] (Mz C B))
  (DC:Def K mg "check_weights" LD ["kinds","weights"] fC fdC) (GC:⋯ 2 fC fdC ["kinds","weights"] (bR K C))
  (DW:Def K mg "weight_by" Wx ["weight_of","call"] fW fdW) (GWB:⋯ 1 fW fdW ["weight_of","call"] mG):⋯ 10 f fd ["board","weights"] (ix K C B):=by
 have GK:⋯ 1 fK fdK ["self"] (D9 C B):=ES MK.fn TB;have GW:⋯ 1 fWo fdWo ["self"] (D8 C):=EU MW.fn TC T.list
 nomatch F.fn.ok XT
 ·obtain⟨p,k,l,b,ρ,n,ds,ks,rfl,_⟩:=h;rfl
 ·obtain⟨p,k,l,b,ρ,n,ds,ks,rfl,bd,g,gd,n4,hc,hl,len,wo,q⟩:=h;have nd:=XT.nd;have hu:=EK hr;have AM:AX 1 _:=hr.mono (by decide);have Bn:AX 2 _:=hr.mono (by decide);have al:=JB ρ n;obtain⟨dx,ts,us,h1,h2,h3,h4⟩:=bd.ex
  ac_nf
  refine'⟨_,pS (A7 (AY DC GC Bn (pC (Am (pv 0) TB.cl MK.me GK AM MK.b .nil Aw) (pC (pv 1) AB))))
   (pS (sE 2 nd (kN rfl (by rfl) T.dict (by rfl) T.zip (pC (Am (Am (pv 0) TB.cl MK.me GK AM MK.b .nil Aw) TC.cl MW.me GW AM MW.b .nil Aw) (pC (pv 1) AB))))
   (pS (sE 3 nd K6)
   (pS (Ba Yz rfl (Wc (AY DA GA hr (pC (pv 0) AB))) (V_ (K:=K) (i:=4) (j:=5) rfl rfl nd rfl rfl (Or.inl rfl) (Or.inl rfl) (Or.inl rfl) (Or.inl rfl))
    (AG (Gi hu (pv 3) (pv 5) (Al Iy (r6 hu (pv 3) (pv 5) AI ⟨Y,Y,Y,Y⟩) (AY DW GWB AM (pC (pv 2) (pC (pv 4) AB)))) rfl)))
   (AG (Ab (xK rfl (pv 3) (by rfl) T.list)))))),?_⟩
  exists let b:=_;let c:=AF (B5 _ _ b) a;let e:=AF _ c;let f:=AF _ e;AF _ f _ _ _
  obtain⟨dxk,dk,ak,ok,oak,kvk,avk,A2,_⟩:=h2.ex;refine⟨Z,p,dx,Z,h1,C5 _ _ _,p,k,U,Y,bd,Z,k,l,b,ρ,ks,Y,h2,g,hl,len,wo,λH1 s1=>?_⟩;refine⟨Z,p,dx,Z,s1 _ _ h1,C5 _ _ _,p,k,U,Y,bd.mono s1,k,dxk,Z,s1 _ _ A2,Eu _ _,k,ρ,Y,h2.mono s1,g,λlw hlw=>?_⟩;have s2:AA H (upd H1 lw (.lst ((ρ.map (·.1)).map V.str))):=s1.trans (AO hlw);have Eg:(upd H1 lw (.lst ((ρ.map (·.1)).map V.str))) lw≈(.lst ((ρ.map (·.1)).map V.str)):=uS;generalize upd H1 lw (.lst ((ρ.map (·.1)).map V.str))=H2 at s2 Eg;have Ap:AD K H2 l (ks.map V.int)\/AJ K H2 l (ks.map V.int):=by
   have Bv:=hl.mono s2;cases b with
   | true=>exact .inl Bv
   | false=>exact .inr Bv
  have em:((ρ.map (·.1)).map (Sum.inr:Str->Key)).map kV=(ρ.map (·.1)).map V.str:=by rw[BN];rfl
  have ndi:((ρ.map (·.1)).map (Sum.inr:Str->Key)).Nodup:=SM.mpr (Xi.mpr (List.Pairwise.imp (λh z=>h (by injection z)) (SM.mp g.nd)));refine⟨Z,lw,l,(ρ.map (·.1)).map Sum.inr,Z,AD.of (by rw[em];exact Eg),Ap,ndi,λwd hwd=>?_⟩;have ez:((ρ.map (·.1)).map (Sum.inr:Str->Key)).zip (ks.map V.int)=F1 (ρ.map (·.1)) ks:=rfl;rw[ez];have s3:AA H (upd H2 wd (.dK (F1 (ρ.map (·.1)) ks))):=s2.trans (AO hwd);have Cs:(upd H2 wd (.dK (F1 (ρ.map (·.1)) ks))) wd≈(.dK (F1 (ρ.map (·.1)) ks)):=uS;generalize upd H2 wd (.dK (F1 (ρ.map (·.1)) ks))=H3 at s3 Cs;intro d hd;have s4:AA H (upd H3 d (.dT [])):=s3.trans (AO hd);have FU:(upd H3 d (.dT [])) wd≈(.dK (F1 (ρ.map (·.1)) ks)):=by rw[AE (AS Cs hd)];exact Cs
  have Hi:(upd H3 d (.dT [])) d≈(.dT []):=uS;have hdH:H d=none:=s3.free hd;generalize upd H3 d (.dT [])=H4 at s4 FU Hi;refine⟨Z,p,k,U,Y,bd.mono s4,g,gd,n4,hc,λe ν H5 he s5 fQ hT=>⟨e,ν,Y,.inl ⟨fQ,λob=>?_⟩⟩⟩;have tk:∀ b xs,H5 b≈(.tup xs)->(upd H5 e (.frz ob (.dT ν))) b≈(.tup xs):=λb xs z=>by
   rw[AE]
   ·exact z
   ·rintro rfl;rw[fQ]at z;cases z
  have YT:=hT.keep tk;have k6:∀ b o,H4 b≈o->(upd H5 e (.frz ob (.dT ν))) b≈o:=λb o z=>by rw[AE (AS z he)];exact s5 _ _ z
  have fM:(upd H5 e (.frz ob (.dT ν))) e≈(.frz ob (.dT ν)):=uS;generalize upd H5 e (.frz ob (.dT ν))=H6 at YT k6 fM;have ed:e≠d:=Ae (AS Hi he);refine aI (λi σ H'=>∃(x4 x5:OV),σ=[↥(.ref p),↥(.ref l),↥(.ref wd),↥(.ref d),x4,x5]/\(∀ b o,b≠d->H6 b≈o->H' b≈o)/\H' d≈(.dT (ND ρ ds ks ((AV ρ n).take i))))
   ⟨none,none,Y,λ_ _ _ z=>z,by rw[EX];exact k6 _ _ Hi⟩ (λi σ H' _ h0=>by obtain⟨_,_,_,k',_⟩:=h0;exact k' _ _ ed fM) ?_ ?_
  ·rintro i x tt bb σ H' hi ⟨x4,x5,rfl,k',BX⟩ htt hbb;obtain⟨c,hcc,e1,t,e2,ht⟩:=Bk YT hi;rw[e1,Rl]at hbb;have gc:Bq ρ n c:=P4 c (Yi hcc);refine V3 ?_;rw[e2];have s7:AA H' (upd H' tt (.tup [.ref bb,.ref t])):=AO htt;show mM _ _ _ _ [↥(.ref p),↥(.ref l),↥(.ref wd),↥(.ref d),↥(.ref bb),↥(.ref t)] (upd H' tt (.tup [.ref bb,.ref t]));generalize upd H' tt (.tup [.ref bb,.ref t])=H7 at s7;have Ib:∀ {b:χ} {xs:LV},H6 b≈(.tup xs)->b≠d:=λ{b} {xs} z y=>by rw[y,k6 _ _ Hi]at z;cases z
   have eX:H7 t≈(.tup ((Vw (De ρ ds c)).map kV)):=by rw[u6];exact s7 _ _ (k' _ _ (Ib ht) ht)
   have YQ:=s7 _ _ BX;have og:H7 wd≈(.dK (F1 (ρ.map (·.1)) ks)):=s7 _ _ (k' _ _ (λz=>by rw[z,Hi]at FU;cases FU) (k6 _ _ FU));have il:i<=↑(AV ρ n):=Nat.le_of_lt (Yf.mp hcc).1;obtain⟨iv,sl⟩:=jg (ρ:=ρ) (ds:=ds) (ks:=ks) (AV ρ n) i il;refine⟨Z,d,Y,.inr ⟨_,.inl YQ⟩,Z,_,BB.t YQ eX,?_⟩;rw[s_ iv];refine⟨Z,Z,wd,bb,ρ.map (·.1),ks,c,Y,.inl og,by rw[Ya,len],wo,s7 _ _ hbb,by rw[gc.len];exact n4,gc.known,_,Z,Y,?_⟩;refine⟨Z,Z,d,Z,DS.t YQ eX (C4 (by omega)),?_⟩;exact⟨_,Z,λb o nb z=>by rw[AE nb];exact s7 _ _ (k' b o nb z),by rw[jh hcc];exact uS⟩
  ·rintro σ H' ⟨x4,x5,rfl,k',BX⟩;have kl:↑ν=↑(AV ρ n):=YT.length.symm;rw[kl,CI]at BX;refine⟨Z,d,Z,BX,λlr H8 vs hlr s8 Vf hp=>q lr vs H8 ?_ (λb o z=>?_) Vf ?_⟩
   ·cases z:H lr with
    | none=>rfl
    | some o =>
     have:=k' lr o (AS z hdH) (k6 _ _ (s4 _ _ z));rw[hlr]at this;cases this
   ·exact s8 _ _ (k' b o (AS z hdH) (k6 _ _ (s4 _ _ z)))
   ·exact Paired.mapP hp λkv v ⟨t,b,y1,y2,y3⟩=>⟨t,b,y1,s8 _ _ y2,y3⟩
end JT
namespace L2
open PySem PySem.Spec PyProof.Rows
def bG(te:TE):TF:=λσ H Q=>te σ H λv H1=>∃ i:Int,v=.int i/\i.natAbs<2 ^ 200/\Q H1
def iT{i:Int}(h:i.natAbs<2 ^ 200):i.natAbs.log2<1920:=by
 by_cases z:i.natAbs=0
 ·rw[z];decide
 ·exact IP ((Nat.log2_lt z).mpr h) (by decide)
def q9{i:Int}(h:i.natAbs<2 ^ 200):↑(Str.ofString (toString i))<=100000:=by
 have e:=PySem.int_text_length_le (k:=1920) (by decide) (iT h);rw[PySem.ofString_length];omega
def gp{X:Cx}{e:Expr}{te:TE}{pos:Pos}(he:PE X e te):PF X (.FormattedValue e (-1) none pos) (bG te):=by
 ac_rfl;refine wpAny_FormattedValue_plain (AH (he π s σ H _ I h) λv s1 ⟨x,H1,I1,r1,i,ex,hi,q⟩=>?_);subst ex;obtain⟨t,rfl⟩:=r1;exact wpAny_formatField_int (iT hi) ⟨_,_,H1,Y,q9 hi,I1.tok _,q⟩
end L2
namespace JT
open PySem L2 Md
variable {P:Δ}{w:World}{K:Fg}{mg:Str->OU}{base:Heap}
def Cb{X:Cx}{E:XK}{k:Nat}{ps:LS}{sp:Sp}{x:Str}{st:Stmt}{p pos:Pos}{e:Expr}{es:ε}{t:TA}(FF:Ag X E)(d:Def X.K X.mg x st ps f fd)(G:AN X.prog X.w X.K X.mg X.base (AZ X.prog X.w) k f fd ps sp)(hr:AX k X.A)
  (ha:PA X (e :: es) t) (hg:Gl X x:=by rfl) (hdb:(x == ("__debug__":Str))=false:=by decide) (he:starEach (e :: es) X.env=(false,eval e X.env):: starEach es X.env:=by rfl) (hpl:(backTo pos (starEach es X.env)).any (·.1)=false:=by rfl):
  PE X (.Call (.Name x p) (e :: es) [] pos) (Vu sp [] E t):=ZZ G hr hg d.m d.fn.kp d.b .nil (CQ FF) ha hdb he hpl
def C9(j:Int)(n:Nat):Prop:=0<=j/\j<(n:Int)
def ET(Ds:Nat->χ)(E:XK)(H:Hp)(i:Nat):Prop:=∀ H',AA H H'->E (.ref (Ds i)) none H'
def ET.up{Ds:Nat->χ}{E:XK}{H H':Hp}{i:Nat}(h:ET Ds E H i)(s:AA H H'):ET Ds E H' i:=λDY s'=>h DY (s.trans s')
def Ge(C B:χ)(Ds:Nat->χ):Sp:=λvs H _ E=>∃(p k:χ) (ρ:RS) (n:Nat) (ds:ζ),vs=[.ref p]/\A5 C B H p k ρ n ds/\Ah ρ/\n<=4/\512<↑ρ ^ n/\ET Ds E H 7
def WH(C B:χ)(Ds:Nat->χ):Sp:=λvs H _ E=>∃(p k:χ) (ρ:RS) (n:Nat) (ds:ζ) (v:V),vs=[.ref p,v]/\A5 C B H p k ρ n ds/\Ah ρ/\n<=4/\512<↑ρ ^ n/\ET Ds E H 7
def Zy(C B:χ)(Ds:Nat->χ):Sp:=λvs H Q E=>∃(p k:χ) (ρ:RS) (n:Nat) (ds:ζ) (j:Int),vs=[.ref p,.int j]/\A5 C B H p k ρ n ds/\j.natAbs<2 ^ 200/\n<=4/\(C9 j n->Q .non H)/\(¬ C9 j n->ET Ds E H 11)
def nJ(C B:χ)(Ds:Nat->χ):Sp:=λvs H _ E=>∃(p k:χ) (ρ:RS) (n:Nat) (ds:ζ) (j:Int),vs=[.ref p,.int j]/\A5 C B H p k ρ n ds/\Ah ρ/\j.natAbs<2 ^ 200/\n<=4/\((¬ C9 j n/\ET Ds E H 11)\/(C9 j n/\512<↑ρ ^ n/\ET Ds E H 7))
def iD(C B:χ)(Ds:Nat->χ):Sp:=λvs H _ E=>∃(p k:χ) (ρ:RS) (n:Nat) (ds:ζ) (j:Int) (x y:Str),vs=[.ref p,.int j,.str x,.str y]/\A5 C B H p k ρ n ds/\Ah ρ/\j.natAbs<2 ^ 200/\n<=4/\GX x/\GX y /\
 ((¬ C9 j n/\ET Ds E H 11)\/(C9 j n/\∃ z,R_ ρ x y z/\Sk Ds E H z)\/(C9 j n/\x∈ρ.map (·.1)/\y∈ρ.map (·.1)/\512<↑ρ ^ n/\ET Ds E H 7))
def FD(ρ:RS)(n:Nat)(xs ys:LS):Prop:=↑xs<=n/\FG ρ ↑xs xs=true/\FG ρ ↑xs ys=true
def nG(C B:χ)(Ds:Nat->χ):Sp:=λvs H Q E=>∃(p k t1 t2:χ) (ρ:RS) (n:Nat) (ds:ζ) (xs ys:LS),vs=[.ref p,.ref t1,.ref t2]/\A5 C B H p k ρ n ds/\Ah ρ/\H t1≈(.tup (xs.map V.str))/\H t2≈(.tup (ys.map V.str))/\↑xs<=100/\↑ys<=100/\(∀ x∈xs,GX x)/\(∀ x∈ys,GX x)/\n<=4 /\
 (FD ρ n xs ys->∀ H',AA H H'->Q .non H')/\(¬ FD ρ n xs ys->ET Ds E H 9)
def Zf(C B:χ)(Ds:Nat->χ):Sp:=λvs H _ E=>∃(p k t1 t2:χ) (ρ:RS) (n:Nat) (ds:ζ) (xs ys:LS),vs=[.ref p,.ref t1,.ref t2]/\A5 C B H p k ρ n ds/\Ah ρ/\H t1≈(.tup (xs.map V.str))/\H t2≈(.tup (ys.map V.str))/\↑xs<=100/\↑ys<=100/\(∀ x∈xs,GX x)/\(∀ x∈ys,GX x)/\n<=4 /\
 ((¬ FD ρ n xs ys/\ET Ds E H 9)\/(FD ρ n xs ys/\512<↑ρ ^ n/\ET Ds E H 7))
def Gr(ρ:RS)(ks:τ):Prop:=↑ks=↑ρ/\∀ x∈ks,0<=x
def nI(C:χ)(Ds:Nat->χ):Sp:=λvs H _ E=>∃(k l:χ) (ρ:RS) (ks:τ),vs=[.ref k,.ref l]/\CS C H k ρ/\Ah ρ/\H l≈(.lst (ks.map V.int))/\↑ks<=100/\¬ Gr ρ ks/\ET Ds E H 12
def je(C B:χ)(Ds:Nat->χ):Sp:=λvs H _ E=>∃(p k l:χ) (ρ:RS) (n:Nat) (ds:ζ) (ks:τ),vs=[.ref p,.ref l]/\A5 C B H p k ρ n ds/\Ah ρ/\n<=4/\H l≈(.lst (ks.map V.int))/\↑ks<=100/\((¬ Gr ρ ks/\ET Ds E H 12)\/(Gr ρ ks/\Qe ks/\512<↑ρ ^ n/\ET Ds E H 7))
def wy{Ds:Nat->χ}(F:Def K mg "all_told" D_ ["board"] f fd)(TB:Bh K B)(MC:WE K B fCa fdCa)(GC:AN P w K mg base (AZ P w) 3 fCa fdCa ["self"] (Zx C B (Ds 7))):AN P w K mg base (AZ P w) 4 f fd ["board"] (Ge C B Ds):=by
 nomatch F.fn.ok1 XJ
 ·obtain⟨p,k,ρ,n,ds,rfl,_⟩:=h;rfl
 ·obtain⟨p,k,ρ,n,ds,rfl,bd,g,n4,hc,q⟩:=h;obtain⟨dx,ts,oo,h1,h2,h3,h4⟩:=bd.ex;have nd:=XJ.nd
  ac_nf
  refine⟨_,pS (sE 1 nd K6) (pS (Ba PassesOwn.leaving rfl (CT (Am (pv 0) TB.cl MC.me GC hr MC.b .nil (CQ Ag.of))) (gE 2 nd) Bb) Bb),?_⟩
  exists let b:=AF _ a;AF _ b _ _ _
  intro d hd;have s1:AA H (upd H d (.dT [])):=AO hd;exact⟨Z,p,dx,Z,s1 _ _ h1,Wa _ _ _,p,k,U,Y,bd.mono s1,g,n4,λz=>absurd z (by omega),λ_ H' s'=>q H' (s1.trans s')⟩
def uR{Ds:Nat->χ}(F:Def K mg "check_place" LC ["board","place"] f fd)(TB:Bh K B)(MP:IB K B fPl fdPl)(TN:JJ K mg "NoPlace" (Ds 11)):AN P w K mg base (AZ P w) 2 f fd ["board","place"] (Zy C B Ds):=by
 have GP:AN P w K mg base (AZ P w) 1 fPl fdPl ["self"] (Gk C B):=(IE MP.fn TB).any
 nomatch F.fn.ok1 XQ
 ·obtain⟨p,k,ρ,n,ds,j,rfl,_⟩:=h;rfl
 ·obtain⟨p,k,ρ,n,ds,j,rfl,bd,hj,n4,q,re⟩:=h;obtain⟨dx,ts,us,h1,h2,h3,h4⟩:=bd.ex;have nd:=XQ.nd
  ac_nf
  refine'⟨_,pS (sE 2 nd (Am (pv 0) TB.cl MP.me GP hr MP.b .nil (CQ Ag.of))) (AG (Ac (Bx (P8 Iv Hv AI (pv 1) (pv 2))) (AG (WR (C:=Ds 11) Ag.of hr.hd TN.ex TN.ini (by rfl) TN.m (pC (Rb ?fs) AB))) Aj)),?_⟩
  case fs=>exact ER (gp (pv 1)) (ER Kv (ER (gp (pv 2)) Rc))
  exists let b:=Bp _ a _;AF _ b _ _ _
  refine⟨Z,p,dx,Z,h1,ID _ _ _,p,k,U,Y,bd,?_⟩;have bad:¬ C9 j n->VI E (Ds 11) (Kp (VJ (GG (bG (Cy 1)) (GG (QP " is no place of ") (GG (bG (Cy 2)) XF)))) LL) {nx:=λ_ H'=>Q .non H',rt:=Q} [↥(.ref p),↥(.int j),↥(.int (n:Nat))] H:=λz =>
   ⟨Z,j,Y,hj,by rfl',Z,Z,NP (show((n:Nat):Int).natAbs<=4 by omega) (by decide),λt=>⟨Q,re z H (AA.refl _)⟩⟩
  refine⟨Z,_,Z,Y,Z,BY (λz=>?_) (λz=>?_)⟩
  ·have z:(0:Int)<=j:=Je z;refine⟨Z,_,Z,Y,Z,?_⟩;by_cases z2:j<(n:Int)
   ·rw[Jb z2];exact Af (q ⟨z,z2⟩)
   ·rw[Jc z2];exact Az (bad λy=>z2 y.2)
  ·have z:¬ (0:Int)<=j:=λy=>z (Jb y);exact⟨Z,Az (bad λy=>z y.1)⟩
def wJ{Ds:Nat->χ}(F:Def K mg "classes" Rx ["board","place"] f fd)(list:mg "list"=none)(TB:Bh K B)(TC:Be K C)(MK:EO K B fK fdK)(MW:EM K C fWo fdWo)(DCP:Def K mg "check_place" LC ["board","place"] fCP fdCP)(GCP:AN P w K mg base (AZ P w) 2 fCP fdCP ["board","place"] (Zy C B Ds))
  (DAT:Def K mg "all_told" D_ ["board"] fAT fdAT) (GAT:AN P w K mg base (AZ P w) 4 fAT fdAT ["board"] (Ge C B Ds)) (DCB:Def K mg "classes_by" LF Ip fCB fdCB) (GCB:⋯ 2 fCB fdCB Ip WG):AN P w K mg base (AZ P w) 5 f fd ["board","place"] (nJ C B Ds):=by
 have GK:AN P w K mg base (AZ P w) 1 fK fdK ["self"] (D9 C B):=(ES MK.fn TB).any;have GW:AN P w K mg base (AZ P w) 1 fWo fdWo ["self"] (D8 C):=(EU MW.fn TC list).any;have GCB:=AN.any (CX:=AZ P w) GCB
 nomatch F.fn.ok1 lB
 ·obtain⟨p,k,ρ,n,ds,j,rfl,_⟩:=h;rfl
 ·obtain⟨p,k,ρ,n,ds,j,rfl,bd,g,hj,n4,h⟩:=h;have AM:AX 1 _:=hr.mono (by decide);have Bn:AX 2 _:=hr.mono (by decide)
  ac_nf
  refine⟨_,(pS (A7 (Cb Ag.of DCP GCP Bn (pC (pv 0) (pC (pv 1) AB))))
   (AG (Ab (Cb Ag.of DCB GCB Bn (pC (Cb Ag.of DAT GAT hr (pC (pv 0) AB)) (pC (Am (Am (pv 0) TB.cl MK.me GK AM MK.b .nil (CQ Ag.of)) TC.cl MW.me GW AM MW.b .nil (CQ Ag.of)) (pC (pv 1) AB))))))),?_⟩
  exists AF _ a _ _ _
  rcases h with⟨h1,h2⟩ | ⟨h1,h2,h3⟩
  ·exact⟨Z,Z,p,k,U,j,Y,bd,hj,n4,λz=>absurd z h1,λ_=>h2⟩
  ·exact⟨Z,Z,p,k,U,j,Y,bd,hj,n4,λ_=>⟨Z,p,k,U,Y,bd,g,n4,h2,h3⟩,λz=>absurd h1 z⟩
def rZ{Ds:Nat->χ}(F:Def K mg "parting_call" R4 ["board","place","one","other"] f fd)(TB:Bh K B)(TC:Be K C)(DCP:Def K mg "check_place" LC ["board","place"] fCP fdCP)(GCP:AN P w K mg base (AZ P w) 2 fCP fdCP ["board","place"] (Zy C B Ds))
  (MK:EO K B fK fdK) (MC:V2 K C fCk fdCk) (GC:AN P w K mg base (AZ P w) 3 fCk fdCk ["self","word"] (ir C Ds)) (MCa:WE K B fCa fdCa) (GCa:AN P w K mg base (AZ P w) 3 fCa fdCa ["self"] (Zx C B (Ds 7))):AN P w K mg base (AZ P w) 4 f fd ["board","place","one","other"] (iD C B Ds):=by
 have GK:AN P w K mg base (AZ P w) 1 fK fdK ["self"] (D9 C B):=(ES MK.fn TB).any
 nomatch F.fn.ok1 XS
 ·obtain⟨p,k,ρ,n,ds,j,x,y,rfl,_⟩:=h;rfl
 ·obtain⟨p,k,ρ,n,ds,j,x,y,rfl,bd,g,hj,n4,sx,sy,h⟩:=h;obtain⟨dx,ts,us,h1,h2,h3,h4⟩:=bd.ex;obtain⟨dxk,dk,ak,ok,oak,ν,A4,A2,_⟩:=h2.ex;have nd:=XS.nd;have AM:AX 1 _:=hr.mono (by decide);have Bn:AX 2 _:=hr.mono (by decide)
  ac_nf
  refine'⟨_,(pS (A7 (Cb Ag.of DCP GCP Bn (pC (pv 0) (pC (pv 1) AB))))
   (pS (A7 (Hz (Am (pv 0) TB.cl MK.me GK AM MK.b .nil (CQ Ag.of)) TC.cl MC.me GC hr MC.b .nil (CQ Ag.of) (pC (pv 2) AB)))
   (pS (A7 (Hz (Am (pv 0) TB.cl MK.me GK AM MK.b .nil (CQ Ag.of)) TC.cl MC.me GC hr MC.b .nil (CQ Ag.of) (pC (pv 3) AB)))
   (pS (Ba PassesOwn.leaving rfl (CT (Am (pv 0) TB.cl MCa.me GCa hr MCa.b .nil (CQ Ag.of))) (gE 4 nd) Bb) Bb)))),?_⟩
  exists let b:=AF _ a;let c:=AF _ b;let e:=AF _ c;AF _ e _ _ _
  have nrm:(¬ C9 j n/\ET Ds E H 11)\/(C9 j n/\(x∈ρ.map (·.1)->y∈ρ.map (·.1)->512<↑ρ ^ n/\ET Ds E H 7)/\(x∉ρ.map (·.1)->Sk Ds E H x)/\(x∈ρ.map (·.1)->y∉ρ.map (·.1)->Sk Ds E H y)):=by
   rcases h with a1 | ⟨pl,z,hz,a2⟩ | ⟨pl,mx,my,a1,a2⟩
   ·exact .inl a1
   ·rcases hz with⟨nx,rfl⟩ | ⟨mx,ny,rfl⟩
    ·exact .inr ⟨pl,λm _=>absurd m nx,λ_=>a2,λm _=>absurd m nx⟩
    ·exact .inr ⟨pl,λ_ m=>absurd m ny,λm=>absurd mx m,λ_ _=>a2⟩
   ·exact .inr ⟨pl,λ_ _=>⟨a1,a2⟩,λm=>absurd mx m,λ_ m=>absurd my m⟩
  rcases nrm with⟨a1,a2⟩ | ⟨pl,k1,k2,k3⟩
  ·exact⟨Z,Z,p,k,U,j,Y,bd,hj,n4,λz=>absurd z a1,λ_=>a2⟩
  ·exact⟨Z,Z,p,k,U,j,Y,bd,hj,n4,λ_=>⟨Z,p,dx,Z,h1,C5 _ _ _,p,k,U,Y,bd,k,dxk,Z,A2,P6 _ _,Z,k,ρ,x,Y,h2,g,sx,λmx=>⟨Z,p,dx,Z,h1,C5 _ _ _,p,k,U,Y,bd,k,dxk,Z,A2,P6 _ _,Z,k,ρ,y,Y,h2,g,sy,λmy =>
    ⟨Z,p,dx,Z,h1,Wa _ _ _,p,k,U,Y,bd,g,n4,λz=>absurd z (by have:=(k1 mx my).1;omega),λ_=>(k1 mx my).2⟩,λmy=>k3 mx my⟩,λmx=>k2 mx⟩,λz=>absurd pl z⟩
def uU{Ds:Nat->χ}(F:Def K mg "table" P1 ["board"] f fd)(DAT:Def K mg "all_told" D_ ["board"] fAT fdAT)(GAT:AN P w K mg base (AZ P w) 4 fAT fdAT ["board"] (Ge C B Ds)):AN P w K mg base (AZ P w) 5 f fd ["board"] (Ge C B Ds):=by
 nomatch F.fn.ok1 XW
 ·obtain⟨p,k,ρ,n,ds,rfl,_⟩:=h;rfl
 ·obtain⟨p,k,ρ,n,ds,rfl,r⟩:=h;have nd:=XW.nd
  ac_nf
  refine⟨_,pS (Cc (i:=1) nd rfl (Or.inr rfl) (Cb Ag.of DAT GAT hr (pC (pv 0) AB))) Bb,?_⟩
  exists AF _ a _ _ _
  exact⟨Z,p,k,U,Y,r⟩
def vf{Ds:Nat->χ}(F:Def K mg "walker" K7 ["board"] f fd)(list:mg "list"=none)(DAT:Def K mg "all_told" D_ ["board"] fAT fdAT)(GAT:AN P w K mg base (AZ P w) 4 fAT fdAT ["board"] (Ge C B Ds)):AN P w K mg base (AZ P w) 5 f fd ["board"] (Ge C B Ds):=by
 nomatch F.fn.ok1 XX
 ·obtain⟨p,k,ρ,n,ds,rfl,_⟩:=h;rfl
 ·obtain⟨p,k,ρ,n,ds,rfl,r⟩:=h;have nd:=XX.nd
  ac_nf
  refine⟨_,pS (sE 1 nd (kO rfl (Cb Ag.of DAT GAT hr (pC (pv 0) AB)) (by rfl) list)) Bb,?_⟩
  exists AF _ a _ _ _
  exact⟨Z,p,k,U,Y,r⟩
abbrev p6:LS:=["board","table","answers","words"]
def XR:Ad p6 ["board","table"] (AL Rz):=by nofun
def uO{Ds:Nat->χ}(F:Def K mg "is_table" Rz ["board","table"] f fd)(DAT:Def K mg "all_told" D_ ["board"] fAT fdAT)(GAT:AN P w K mg base (AZ P w) 4 fAT fdAT ["board"] (Ge C B Ds)):AN P w K mg base (AZ P w) 5 f fd ["board","table"] (WH C B Ds):=by
 nomatch F.fn.ok1 XR
 ·obtain⟨p,k,ρ,n,ds,v,rfl,_⟩:=h;rfl
 ·obtain⟨p,k,ρ,n,ds,v,rfl,r⟩:=h;have nd:=XR.nd
  ac_nf
  refine⟨_,pS (sE 2 nd (Cb Ag.of DAT GAT hr (pC (pv 0) AB))) Bb,?_⟩
  exists AF _ a _ _ _
  exact⟨Z,p,k,U,Y,r⟩
abbrev Ybw:LS:=["board","walker","answers","words"]
def Vz:Ad Ybw ["board","walker"] (AL R3):=by nofun
def uP{Ds:Nat->χ}(F:Def K mg "is_walker" R3 ["board","walker"] f fd)(DAT:Def K mg "all_told" D_ ["board"] fAT fdAT)(GAT:AN P w K mg base (AZ P w) 4 fAT fdAT ["board"] (Ge C B Ds)):AN P w K mg base (AZ P w) 5 f fd ["board","walker"] (WH C B Ds):=by
 nomatch F.fn.ok1 Vz
 ·obtain⟨p,k,ρ,n,ds,v,rfl,_⟩:=h;rfl
 ·obtain⟨p,k,ρ,n,ds,v,rfl,r⟩:=h;have nd:=Vz.nd
  ac_nf
  refine⟨_,pS (sE 2 nd (Cb Ag.of DAT GAT hr (pC (pv 0) AB))) Bb,?_⟩
  exists AF _ a _ _ _
  exact⟨Z,p,k,U,Y,r⟩
def Z23{Ds:Nat->χ}(F:Def K mg "check_beginnings" QL ["board","one","other"] f fd)(len:mg "len"=none)(TB:Bh K B)(TN:JJ K mg "NoCall" (Ds 9))(MK:EO K B fK fdK)(MP:IB K B fPl fdPl)(DI:Def K mg "is_call" IC CV fI fdI)(GI:⋯ 2 fI fdI CV (Rr C)):AN P w K mg base (AZ P w) 3 f fd ["board","one","other"] (nG C B Ds):=by
 have GK:AN P w K mg base (AZ P w) 1 fK fdK ["self"] (D9 C B):=(ES MK.fn TB).any;have GP:AN P w K mg base (AZ P w) 1 fPl fdPl ["self"] (Gk C B):=(IE MP.fn TB).any;have GI:=AN.any (CX:=AZ P w) GI
 nomatch F.fn.ok1 Vx
 ·obtain⟨p,k,t1,t2,ρ,n,ds,xs,ys,rfl,_⟩:=h;rfl
 ·obtain⟨p,k,t1,t2,ρ,n,ds,xs,ys,rfl,bd,g,Ct,BL,lx,ly,sx,sy,n4,q,re⟩:=h;obtain⟨dx,ts,us,h1,h2,h3,h4⟩:=bd.ex;have nd:=Vx.nd;have AM:AX 1 _:=hr.mono (by decide)
  ac_nf
  refine'⟨_,(pS (sE 3 nd (Am (pv 0) TB.cl MK.me GK AM MK.b .nil (CQ Ag.of)))
   (pS (sE 4 nd (Ai B_ (by rfl) len Yx (pC (pv 1) AB)))
   (AG (Ac (PW.pt (Fe (Ax GZ (pv 4) (Am (pv 0) TB.cl MP.me GP AM MP.b .nil (CQ Ag.of)) (Ao _)) (Fe (Bx (CF (Cb Ag.of DI GI hr (pC (pv 3) (pC (pv 4) (pC (pv 1) AB)))))) (Hy (Bx (CF (Cb Ag.of DI GI hr (pC (pv 3) (pC (pv 4) (pC (pv 2) AB)))))))))) (AG (WR (C:=Ds 9) Ag.of hr.hd TN.ex TN.ini (by rfl) TN.m (pC (Rb ?fs) AB))) Aj)))),?_⟩
  case fs=>exact ER (gq hr (pv 1)) (ER Kv (ER (gq hr (pv 2)) (ER Kv Rc)))
  exists let b:=Bp _ a _;let c:=AF _ b;AF _ c _ _ _
  refine⟨Z,p,dx,Z,h1,C5 _ _ _,p,k,U,Y,bd,?_⟩;refine⟨Z,t1,Z,.inr (AJ.of Ct),?_⟩;refine⟨Z,Z,p,dx,Z,h1,ID _ _ _,p,k,U,Y,bd,_,Z,Y,Z,?_⟩;have bad:∀ {H':Hp},AA H H'->¬ FD ρ n xs ys->VI E (Ds 9) (Kp (VJ (GG (bH K (Cy 1)) (GG (QP " and ") (GG (bH K (Cy 2)) (GG (QP " are no two beginnings of one length") XF))))) LL) {nx:=λ_ H'=>Q .non H',rt:=Q} [↥(.ref p),↥(.ref t1),↥(.ref t2),↥(.ref k),↥(.int (↑(xs.map V.str):Nat))] H':=λ{H'} s' z =>
   ⟨Z,t1,xs,Y,.inl (AJ.of (s' _ _ Ct)),lx,sx,by rfl',Z,t2,ys,Y,.inl (AJ.of (s' _ _ BL)),ly,sy,by rfl',λt=>⟨Q,re z H' s'⟩⟩
  have el:↑(xs.map V.str)=↑xs:=Ya ..;by_cases c1:n<↑xs
  ·rw[show decide (((n:Nat):Int)<((↑(xs.map V.str):Nat):Int))=true from Jb (by omega)];exact Az (bad (AA.refl _) λz=>by have:=z.1;omega)
  rw[show decide (((n:Nat):Int)<((↑(xs.map V.str):Nat):Int))=false from Jc (by omega)];refine Af ?_;refine⟨Z,Z,Z,k,t1,↑xs,ρ,xs,by rw[el];rfl,h2,g,Ct,O,λH1 s1=>⟨Z,?_⟩⟩;cases b1:FG ρ ↑xs xs with
  | false=>exact Az (bad s1 λz=>by rw[z.2.1]at b1;cases b1)
  | true =>
   refine Af ?_;refine⟨Z,Z,Z,k,t2,↑xs,ρ,ys,by rw[el];rfl,h2.mono s1,g,s1 _ _ BL,O,λH2 s2=>⟨Z,?_⟩⟩;cases b2:FG ρ ↑xs ys with
   | false=>exact Az (bad (s1.trans s2) λz=>by rw[z.2.2]at b2;cases b2)
   | true=>exact Af (q ⟨O,b1,b2⟩ H2 (s1.trans s2))
def rg{Ds:Nat->χ}(F:Def K mg "parting_rest" R5 ["board","one","other"] f fd)(TB:Bh K B)(DCB:Def K mg "check_beginnings" QL ["board","one","other"] fCB fdCB)(GCB:AN P w K mg base (AZ P w) 3 fCB fdCB ["board","one","other"] (nG C B Ds))(MS:XZ K B fS fdS)(GS:AN P w K mg base (AZ P w) 2 fS fdS ["self"] (Zg C B (Ds 7))):AN P w K mg base (AZ P w) 4 f fd ["board","one","other"] (Zf C B Ds):=by
 nomatch F.fn.ok1 az
 ·obtain⟨p,k,t1,t2,ρ,n,ds,xs,ys,rfl,_⟩:=h;rfl
 ·obtain⟨p,k,t1,t2,ρ,n,ds,xs,ys,rfl,bd,g,Ct,BL,lx,ly,sx,sy,n4,h⟩:=h;obtain⟨dx,ts,us,h1,h2,h3,h4⟩:=bd.ex;have Bn:AX 2 _:=hr.mono (by decide)
  ac_nf
  refine⟨_,pS (A7 (Cb Ag.of DCB GCB hr (pC (pv 0) (pC (pv 1) (pC (pv 2) AB))))) (pS (A7 (Am (pv 0) TB.cl MS.me GS Bn MS.b .nil (CQ Ag.of))) Bb),?_⟩
  exists let b:=AF _ a;AF _ b _ _ _
  rcases h with⟨a1,a2⟩ | ⟨a1,a2,a3⟩
  ·exact⟨Z,Z,Z,p,k,t1,t2,U,xs,ys,Y,bd,g,Ct,BL,lx,ly,sx,sy,n4,λz=>absurd z a1,λ_=>a2⟩
  ·exact⟨Z,Z,Z,p,k,t1,t2,U,xs,ys,Y,bd,g,Ct,BL,lx,ly,sx,sy,n4,λ_ H1 s1=>⟨Z,p,dx,Z,s1 _ _ h1,WO _ _ _,p,k,U,Y,bd.mono s1,g,n4,λz=>absurd z (by omega),λ_=>a3.up s1⟩,λz=>absurd a1 z⟩
def oI:V->V
 | .int i=>.bl (decide (i<0))
 | _=>.non
def Z28(ks:τ):((ks.map V.int).filter λ_=>true).map oI=(ks.map λi=>decide (i<0)).map V.bl:=by
 rw[EB.mpr λ_ _=>rfl,BN,BN];rfl
def yw:(["numbers","number"]:LS).Nodup:=by rfl'
def lN:Sp:=λvs H Q _=>∃(l:χ) (n:Nat) (m:V),vs=[.ref l,.int n,m]/\H l≈(.lst [])/\1<=n/\Q (.bl false) H
def XY(C B:χ):Sp:=λvs H Q _=>∃(p k t l e:χ) (ρ:RS) (n:Nat) (ds:ζ),vs=[.ref p,.ref t]/\A5 C B H p k ρ n ds/\Ah ρ/\CG ρ n ds/\n<=4/\1<=n/\↑ρ ^ n<=512/\H t≈(.tup [.ref l,.ref e])/\H l≈(.lst [])/\∀ H',AA H H'->Q (.bl false) H'
def Z21{Ds:Nat->χ}(F:Def K mg "check_weights" LD ["kinds","weights"] f fd)(T:lq mg)(TC:Be K C)(TN:JJ K mg "NoWeights" (Ds 12))(MW:EM K C fWo fdWo):AN P w K mg base (AZ P w) 2 f fd ["kinds","weights"] (nI C Ds):=by
 have GW:AN P w K mg base (AZ P w) 1 fWo fdWo ["self"] (D8 C):=(EU MW.fn TC T.list).any
 nomatch F.fn.ok1 Vy
 ·obtain⟨k,l,ρ,ks,rfl,_⟩:=h;rfl
 ·obtain⟨k,l,ρ,ks,rfl,hk,g,hl,kl,bad,re⟩:=h;obtain⟨dxk,dk,ak,ok,oak,ν,A4,A2,_⟩:=hk.ex;have nd:=Vy.nd;have gle:=g.le
  ac_nf
  refine'⟨_,pS (sE 2 nd (Ai B_ (by rfl) T.len Yx (pC (Am (pv 0) TC.cl MW.me GW hr MW.b .nil (CQ Ag.of)) AB)))
   (AG (Ac (PW.pt (Fe (Ax RN (Ai B_ (by rfl) T.len Yx (pC (pv 1) AB)) (pv 2) (Ao _)) (Hy (CF (Ai (Zv rfl) (by rfl) T.any PyProof.Rows.boot_any (pC ?eC AB)))))) (AG (WR (C:=Ds 12) Ag.of hr.hd TN.ex TN.ini (by rfl) TN.m (pC (Rb ?fs) AB))) Aj)),?_⟩
  case eC=>exact Cm ["weight"] [] [] (λ_=>Bs (osc:=AL LD) (on:=au) (by rfl') rfl rfl rfl) (V5 (pv 1)) (λC s H fp=>Bl (i:=0) nV rfl (Or.inl rfl) (Or.inr rfl)) (λC s H fp=>CU) (λC s H fp=>FH Hv (pv 0) AI (Ao _))
  case fs=>exact ER Kv (ER (nC (pv 2)) (ER Kv Rc))
  exists let b:=Bp _ a _;AF _ b _ _ _
  refine⟨Z,k,dxk,Z,A2,Eu _ _,k,ρ,Y,hk,g,λlw hlw=>?_⟩;have s1:AA H (upd H lw (.lst ((ρ.map (·.1)).map V.str))):=AO hlw;refine⟨lw,Z,.inl (AD.of uS),?_⟩;generalize upd H lw (.lst ((ρ.map (·.1)).map V.str))=H1 at s1;have Aa:=s1 _ _ hl;have el:(↑((ρ.map (·.1)).map V.str))=↑ρ:=by rw[Ya,Ya]
  have rz:∀ {H':Hp},AA H H'->VI E (Ds 12) (Kp (VJ (GG (QP "weights are ") (GG (oA (Cy 2)) (GG (QP " whole numbers from 0 on") XF)))) LL) {nx:=λ_ H'=>Q .non H',rt:=Q} [↥(.ref k),↥(.ref l),↥(.int (↑((ρ.map (·.1)).map V.str):Nat))] H':=λ{H'} s' =>
   ⟨by rfl',Z,Z,NP (show(((↑((ρ.map (·.1)).map V.str):Nat):Int)).natAbs<=24 by omega) (by decide),by rfl',λt=>⟨Q,re H' s'⟩⟩
  refine⟨Z,l,Z,.inl (AD.of Aa),Z,Y,Z,?_⟩;by_cases c:↑ks=↑ρ
  ·have e0:(!decide (V.int ((↑(ks.map V.int):Nat):Int)=V.int ((↑((ρ.map (·.1)).map V.str):Nat):Int)))=false:=by
    rw[Ya,Ya,Ya,c];simp
   rw[e0];refine Af ?_;refine⟨Z,true,l,Z,AD.of Aa,Mt (WT (K:=K) (b:=true)) (sL (by rw[Ya];omega)) (λ_=>true) oI (λH' s'=>AD.of (s' _ _ Aa)) ?_ ?_ ?_⟩
   ·intro x H' R _ _ hR;exact hR H' (AA.refl _)
   ·intro x H' R _ hx _ hR;obtain⟨v,hv,rfl⟩:=Yo.mp hx;exact⟨Z,_,Z,Y,hR H' (AA.refl _)⟩
   ·intro D H' hD s' Bv;refine⟨D,(ks.map λi=>decide (i<0)),Y,AD.of (by rw[Bv,Z28]),Z,?_⟩;have ea:((ks.map λi=>decide (i<0)).any id)=true:=by
     rw[List.any_map,Ft];have:¬ ∀ x∈ks,0<=x:=λz=>bad ⟨c,z⟩;obtain⟨x,hx⟩:=Classical.not_forall.mp this;obtain⟨hx,h0⟩:=Classical.not_imp.mp hx;exact⟨x,hx,Jb (by omega)⟩
    refine BY (λ_=>rz (s1.trans s')) (λz=>absurd ea z)
  ·have e0:(!decide (V.int ((↑(ks.map V.int):Nat):Int)=V.int ((↑((ρ.map (·.1)).map V.str):Nat):Int)))=true:=by
    rw[Ya,Ya,Ya,Jc (λz=>c (by injection z with z;omega))];rfl
   rw[e0];exact Az (rz s1)
def vd{Ds:Nat->χ}(F:Def K mg "shares" Rq ["board","weights"] f fd)(T:l6 mg)(TB:Bh K B)(TC:Be K C)
  (MK:EO K B fK fdK) (MW:EM K C fWo fdWo) (DA:Def K mg "all_told" D_ ["board"] fA fdA) (GA:AN P w K mg base (AZ P w) 4 fA fdA ["board"] (Ge C B Ds))
  (DC:Def K mg "check_weights" LD ["kinds","weights"] fC fdC) (GC:⋯ 2 fC fdC ["kinds","weights"] (bR K C)) (GCX:AN P w K mg base (AZ P w) 2 fC fdC ["kinds","weights"] (nI C Ds)):AN P w K mg base (AZ P w) 5 f fd ["board","weights"] (je C B Ds):=by
 have GK:AN P w K mg base (AZ P w) 1 fK fdK ["self"] (D9 C B):=(ES MK.fn TB).any;have GW:AN P w K mg base (AZ P w) 1 fWo fdWo ["self"] (D8 C):=(EU MW.fn TC T.list).any;have GC2:=AN.or (AN.any (CX:=AZ P w) GC) GCX
 nomatch F.fn.ok1 XT
 ·obtain⟨p,k,l,ρ,n,ds,ks,rfl,_⟩:=h;rfl
 ·obtain⟨p,k,l,ρ,n,ds,ks,rfl,bd,g,n4,hl,kl,h⟩:=h;have nd:=XT.nd;have AM:AX 1 _:=hr.mono (by decide);have Bn:AX 2 _:=hr.mono (by decide);obtain⟨dx,ts,us,h1,h2,h3,h4⟩:=bd.ex;obtain⟨dxk,dk,ak,ok,oak,kvk,avk,A2,_⟩:=h2.ex
  ac_nf
  refine'⟨_,pS (A7 (Cb Ag.of DC GC2 Bn (pC (Am (pv 0) TB.cl MK.me GK AM MK.b .nil (CQ Ag.of)) (pC (pv 1) AB))))
   (pS (sE 2 nd (kN rfl (by rfl) T.dict (by rfl) T.zip (pC (Am (Am (pv 0) TB.cl MK.me GK AM MK.b .nil (CQ Ag.of)) TC.cl MW.me GW AM MW.b .nil (CQ Ag.of)) (pC (pv 1) AB))))
   (pS (sE 3 nd K6)
   (pS (Ba PassesOwn.leaving rfl (Wc (Cb Ag.of DA GA hr (pC (pv 0) AB))) (V_ (K:=K) (i:=4) (j:=5) rfl rfl nd rfl rfl (Or.inl rfl) (Or.inl rfl) (Or.inl rfl) (Or.inl rfl)) Bb) Bb))),?_⟩
  exists let b:=AF _ a;let c:=AF _ b;let e:=AF _ c;AF _ e _ _ _
  rcases h with⟨a1,a2⟩ | ⟨a1,wo,a2,a3⟩
  ·exact⟨Z,p,dx,Z,h1,C5 _ _ _,p,k,U,Y,bd,Z,.inr ⟨k,l,ρ,ks,Y,h2,g,hl,kl,a1,a2⟩⟩
  refine⟨Z,p,dx,Z,h1,C5 _ _ _,p,k,U,Y,bd,Z,.inl ⟨k,l,true,ρ,ks,Y,h2,g,AD.of hl,a1.1,wo,λH1 s1=>?_⟩⟩;refine⟨Z,p,dx,Z,s1 _ _ h1,C5 _ _ _,p,k,U,Y,bd.mono s1,k,dxk,Z,s1 _ _ A2,Eu _ _,k,ρ,Y,h2.mono s1,g,λlw hlw=>?_⟩;have s2:AA H (upd H1 lw (.lst ((ρ.map (·.1)).map V.str))):=s1.trans (AO hlw);have Eg:(upd H1 lw (.lst ((ρ.map (·.1)).map V.str))) lw≈(.lst ((ρ.map (·.1)).map V.str)):=uS;generalize upd H1 lw (.lst ((ρ.map (·.1)).map V.str))=H2 at s2 Eg;have em:((ρ.map (·.1)).map (Sum.inr:Str->Key)).map kV=(ρ.map (·.1)).map V.str:=by rw[BN];rfl
  have ndi:((ρ.map (·.1)).map (Sum.inr:Str->Key)).Nodup:=SM.mpr (Xi.mpr (List.Pairwise.imp (λh z=>h (by injection z)) (SM.mp g.nd)));refine⟨Z,lw,l,(ρ.map (·.1)).map Sum.inr,Z,AD.of (by rw[em];exact Eg),.inl (AD.of (s2 _ _ hl)),ndi,λwd hwd=>?_⟩;have s3:=s2.trans (AO (o:=.dK (((ρ.map (·.1)).map (Sum.inr:Str->Key)).zip (ks.map V.int))) hwd);generalize upd H2 wd (.dK (((ρ.map (·.1)).map (Sum.inr:Str->Key)).zip (ks.map V.int)))=H3 at s3;intro d hd;have s4:AA H (upd H3 d (.dT [])):=s3.trans (AO hd);exact⟨Z,p,k,U,Y,bd.mono s4,g,n4,a2,a3.up s4⟩
def Ybh:Ad ["maps","places","number"] ["maps","places","number"] (AL R7):=by nofun
def Z20(F:Def K mg "has_lengths" R7 ["maps","places","number"] f fd)(len:mg "len"=none)(all:mg "all"=none):⋯ 1 f fd ["maps","places","number"] lN:=by
 nomatch F.fn.ok Ybh
 ·obtain⟨l,n,m,rfl,_⟩:=h;rfl
 ·obtain⟨l,n,m,rfl,hl,n1,q⟩:=h
  ac_nf
  refine'⟨_,AG (Ab (V9 (FH Bw (Ai B_ (by rfl) len Yx (pC (pv 0) AB)) (pv 1) (Ao _)) (RW (Ai (WM rfl) (by rfl) all Xe (pC ?eC AB))))),?_⟩
  case eC=>exact Cm ["numbers"] ["number"] [2] (λ_=>Bs (osc:=AL R7) (on:=["maps","places","number"]) (by rfl') rfl rfl rfl) (CT (pv 0)) (λC s H fp=>Bl (i:=0) yw rfl (Or.inl rfl) (Or.inr rfl)) (λC s H fp=>CU) (λC s H fp=>FH Bw (Ai (r:=λxs H Q=>∃ p ys,xs=[V.ref p]/\(AD K H p ys\/AJ K H p ys)/\Q (V.int (↑ys:Nat)) H) B_ (by rfl) len Yx (pC (pv 0) AB)) (pv 1) (Ao _))
  refine⟨Z,l,Z,.inl (AD.of hl),Z,Y,Z,?_⟩;rw[show decide (V.int ((↑([]:LV):Nat):Int)=V.int (n:Int))=false from Jc (λz=>by injection z with z;have z:(0:Int)=(n:Int):=z;omega)];exact Af q
def rX(F:Def K mg "is_table" Rz ["board","table"] f fd)(len:mg "len"=none)(list:mg "list"=none)(TB:Bh K B)(TC:Be K C)(MK:EO K B fK fdK)(MP:IB K B fPl fdPl)(MW:EM K C fWo fdWo)(DAT:Def K mg "all_told" D_ ["board"] fAT fdAT)(GAT:⋯ 9 fAT fdAT ["board"] (Mz C B))
  (DHL:Def K mg "has_lengths" R7 ["maps","places","number"] fHL fdHL) (GHL:⋯ 1 fHL fdHL ["maps","places","number"] lN):⋯ 10 f fd ["board","table"] (XY C B):=by
 have GK:⋯ 1 fK fdK ["self"] (D9 C B):=ES MK.fn TB;have GP:⋯ 1 fPl fdPl ["self"] (Gk C B):=IE MP.fn TB;have GW:⋯ 1 fWo fdWo ["self"] (D8 C):=EU MW.fn TC list
 nomatch F.fn.ok XR
 ·obtain⟨p,k,t,l,e,ρ,n,ds,rfl,_⟩:=h;rfl
 ·obtain⟨p,k,t,l,e,ρ,n,ds,rfl,bd,g,gd,n4,n1,rc,ht,hl,q⟩:=h;obtain⟨dx,ts,us,h1,h2,h3,h4⟩:=bd.ex;obtain⟨dxk,dk,ak,ok,oak,ν,A4,A2,_⟩:=h2.ex;have nd:=XR.nd;have AM:AX 1 _:=hr.mono (by decide)
  ac_nf
  refine⟨_,(pS (sE 2 nd (AY DAT GAT hr (pC (pv 0) AB)))
   (pS (Cc (i:=3) nd rfl (Or.inr rfl) (Am (Am (pv 0) TB.cl MK.me GK AM MK.b .nil Aw) TC.cl MW.me GW AM MW.b .nil Aw))
   (pS (Ac (Bx (CF (AY DHL GHL AM (pC (A9 (r:=LJ K) Mn (pv 1) AI (λ_ _=>rfl)) (pC (Am (pv 0) TB.cl MP.me GP AM MP.b .nil Aw) (pC (Ai B_ (by rfl) len Yx (pC (pv 3) AB)) AB)))))) (AG (Ab Dw)) Aj)
   Bb))),?_⟩
  exists let b:=AF _ a;let c:=AF _ b;AF _ c _ _ _
  refine⟨Z,p,k,U,Y,bd,g,gd,n4,rc,λd CM H1 hd s1 CW hT=>?_⟩;refine⟨Z,p,dx,Z,s1 _ _ h1,C5 _ _ _,p,k,U,Y,bd.mono s1,k,dxk,Z,s1 _ _ A2,Eu _ _,k,ρ,Y,h2.mono s1,g,λlw hlw=>?_⟩;have s2:AA H1 (upd H1 lw (.lst ((ρ.map (·.1)).map V.str))):=AO hlw;have Eg:(upd H1 lw (.lst ((ρ.map (·.1)).map V.str))) lw≈(.lst ((ρ.map (·.1)).map V.str)):=uS;generalize upd H1 lw (.lst ((ρ.map (·.1)).map V.str))=H2 at s2 Eg;have Bc:=s1.trans s2;refine⟨Z,t,_,_,Z,Y,AJ.of (Bc _ _ ht),Y,Z,p,dx,Z,Bc _ _ h1,ID _ _ _,p,k,U,Y,bd.mono Bc,Z,lw,Z,.inl (AD.of Eg),l,n,Z,Bc _ _ hl,n1,Z,?_⟩;exact Az (q H2 Bc)
def rY(F:Def K mg "is_walker" R3 ["board","walker"] f fd)(len:mg "len"=none)(list:mg "list"=none)(TB:Bh K B)(TC:Be K C)(MK:EO K B fK fdK)(MP:IB K B fPl fdPl)(MW:EM K C fWo fdWo)(DAT:Def K mg "all_told" D_ ["board"] fAT fdAT)(GAT:⋯ 9 fAT fdAT ["board"] (Mz C B)):⋯ 10 f fd ["board","walker"] (XY C B):=by
 have GK:⋯ 1 fK fdK ["self"] (D9 C B):=ES MK.fn TB;have GP:⋯ 1 fPl fdPl ["self"] (Gk C B):=IE MP.fn TB;have GW:⋯ 1 fWo fdWo ["self"] (D8 C):=EU MW.fn TC list
 nomatch F.fn.ok Vz
 ·obtain⟨p,k,t,l,e,ρ,n,ds,rfl,_⟩:=h;rfl
 ·obtain⟨p,k,t,l,e,ρ,n,ds,rfl,bd,g,gd,n4,n1,rc,ht,hl,q⟩:=h;obtain⟨dx,ts,us,h1,h2,h3,h4⟩:=bd.ex;obtain⟨dxk,dk,ak,ok,oak,ν,A4,A2,_⟩:=h2.ex;have nd:=Vz.nd;have AM:AX 1 _:=hr.mono (by decide)
  ac_nf
  refine⟨_,(pS (sE 2 nd (AY DAT GAT hr (pC (pv 0) AB)))
   (pS (Cc (i:=3) nd rfl (Or.inr rfl) (Am (Am (pv 0) TB.cl MK.me GK AM MK.b .nil Aw) TC.cl MW.me GW AM MW.b .nil Aw))
   (pS (Ac (Ax RN (Ai B_ (by rfl) len Yx (pC (A9 (r:=LJ K) Mn (pv 1) AI (λ_ _=>rfl)) AB)) (Am (pv 0) TB.cl MP.me GP AM MP.b .nil Aw) (Ao _)) (AG (Ab Dw)) Aj)
   Bb))),?_⟩
  exists let b:=AF _ a;let c:=AF _ b;AF _ c _ _ _
  refine⟨Z,p,k,U,Y,bd,g,gd,n4,rc,λd CM H1 hd s1 CW hT=>?_⟩;refine⟨Z,p,dx,Z,s1 _ _ h1,C5 _ _ _,p,k,U,Y,bd.mono s1,k,dxk,Z,s1 _ _ A2,Eu _ _,k,ρ,Y,h2.mono s1,g,λlw hlw=>?_⟩;have s2:AA H1 (upd H1 lw (.lst ((ρ.map (·.1)).map V.str))):=AO hlw;generalize upd H1 lw (.lst ((ρ.map (·.1)).map V.str))=H2 at s2;have Bc:=s1.trans s2;refine⟨Z,t,_,_,Z,Y,AJ.of (Bc _ _ ht),Y,l,Z,.inl (AD.of (Bc _ _ hl)),Z,p,dx,Z,Bc _ _ h1,ID _ _ _,p,k,U,Y,bd.mono Bc,Y,Z,?_⟩;rw[show decide (V.int ((↑([]:LV):Nat):Int)=V.int (n:Int))=false from Jc (λz=>by injection z with z;have z:(0:Int)=(n:Int):=z;omega)];exact Az (q H2 Bc)
structure FK(x:Str):Prop where
 sh:GX x
 ok:PyData.strOk x=true
def tF{x:Str}(h:Bf x=true):FK x:=⟨wW h,Rh h⟩
def h_{x:Str}(h:(decide (↑x<=50)&&x.cps.toList.all λc=>decide (c<50000))=true):FK x:=by
 rw[EF,Cd]at h;refine⟨⟨Je h.1,λc hc=>?_⟩,?_⟩
 ·have:=Je (h.2 c hc);have e:(16:Nat) ^ 8=4294967296:=by decide
  omega
 ·unfold PyData.strOk;rw[Array.all_eq_true'];intro c hc;have:=Je (h.2 c (by simpa using hc));simp;omega
def Yaw(x:Str):Bool:=decide (↑x<=50)&&x.cps.toList.all λc=>decide (c<50000)
def Z1m{l:LS}(h:l.all Yaw=true){x:Str}(hx:x∈l):FK x:=h_ (Cd.mp h x hx)
def jA{l:LS}(h:∀ z∈l,PyData.strOk z=true)(n:Nat):(l.map W.Dat.str).all (W.kqdOk n)=true:=by
 rw[Cd];intro d hd;obtain⟨x,hx,rfl⟩:=Yo.mp hd;cases n <;> exact h x hx
def Eo{H:Hp}{l:χ}{o:HO}(hl:H l=none):AA H (upd H l o):=mQ hl
def CG.snoc{ρ:RS}{n:Nat}{ds:ζ}{xs:LS}(gd:CG ρ n ds)(gc:Bq ρ n xs)(hn:xs∉ds)(hl:↑ds<64):CG ρ n (ds++[xs]):=by
 refine⟨λd hd=>?_,?_,by rw[Yu];show ↑ds + 1<=64;omega⟩
 ·rcases Yr.mp hd with z | z
  ·exact gd.call d z
  ·rw[Ym.mp z];exact gc
 ·rw[List.nodup_append];exact⟨gd.nd,by simp,λa ha b hb e=>hn (by rw[<- Ym.mp hb,<- e];exact ha)⟩
def ZU{ρ:RS}{n:Nat}{xs:LS}(h1:↑xs=n)(h2:∀ x∈xs,x∈ρ.map (·.1)):Bq ρ n xs:=⟨h1,h2⟩
def rL{ρ:RS}{n:Nat}{xs:LS}(h:¬ (↑xs=n/\∀ x∈xs,x∈ρ.map (·.1))):FG ρ n xs=false:=by
 cases e:FG ρ n xs with
 | false=>rfl
 | true =>
  unfold FG at e;rw[EF,Cd]at e;exact absurd ⟨Je e.1,λx hx=>Je (e.2 x hx)⟩ h
def Z7{ws:LS}{v:Int}(h0:0<=v)(h1:v<↑(ws.map V.str)):∃ x∈ws,Ej (ws.map V.str) v≈(.str x):=by
 have hl:v.toNat<↑ws:=by rw[Ya]at h1;omega
 refine⟨ws[v.toNat],List.getElem_mem hl,?_⟩;have e:((v.toNat:Nat):Int)=v:=by omega
 have:=Es (xs:=ws.map V.str) (j:=v.toNat) (v:=.str ws[v.toNat]) (by rw[Yj,Yg hl];rfl);rw[e]at this;exact this
def Zi{p:χ}{n:Nat}{js:LN}{te:TE}{σ:St}{Q:VK}{H1:Hp}{tl:St}{B:Str->Prop}(hp:∃ o,H1 p≈o/\EH o)(hn:n<=1000)(hσ:IY 1 js σ=none :: tl)
  (he:∀(v:V) (H':Hp) (R:VK),Drawn p H1 H'->(∀ x DY,Drawn p H' DY->B x->R (.str x) DY)->te (↥v :: tl) H' R)
  (hd:∀(D:χ) (xs:LS) (H':Hp),H1 D=none->Drawn p H1 H'->H' D≈(.lst (xs.map V.str))->↑xs=n->(∀ x∈xs,B x)->Q (.ref D) H'):AU 1 js (EI 0) RQ te σ Q (Sm 0 n) H1:=by
 obtain⟨o0,Kc,YN⟩:=hp;let A8:χ->Nat->LV->St->Hp->Prop:=λD i ys σ' H'=>Drawn p H1 H'/\H' D≈(.lst ys)/\∃(xs:LS) (o:OV),ys=xs.map V.str/\↑xs=i/\(∀ x∈xs,B x)/\σ'=o :: tl;refine WX JG (by rw[EW];exact sL (by omega)) A8
  (λD hD=>⟨(Drawn.refl ⟨o0,Kc,YN⟩).new hD,uS,[],none,Y,Y,(λx h=>nomatch h),hσ⟩) (λD i ys σ' H' _ h0=>by obtain⟨_,_,xs,_,e,el,_⟩:=h0;exact⟨trivial,by rw[e,Ya];omega⟩) ?_ ?_
 ·rintro D i v ys σ' H' hD hi ⟨d,hl,xs,o,rfl,rfl,hb,rfl⟩;have pD:p≠D:=AS Kc hD;refine he v H' _ d λx DY d2 wx=>⟨d2.keep _ _ (Ae pD) hl,(d.trans d2).sub (o':=.lst []) (q:=D) (λb o hb e=>by rw[AE hb];exact e) hD pD,uS,xs++[x],↥v,by rw[Yy];rfl,by simp,λy hy=>?_,Y⟩
  rcases Yr.mp hy with z | z
  ·exact hb y z
  ·rw[Ym.mp z];exact wx
 ·rintro D ys σ' H' hD ⟨d,hl,xs,o,rfl,hx,hb,rfl⟩;rw[EW]at hx;exact hd D xs H' hD d hl hx hb
def NC(w0:Str):LS:=["","zz","A","a b",LK w0 9,"none"]
def Xq(ws:LS):Prop:=(∃ w0 AQ,ws=w0 :: AQ/\1<=↑w0/\↑w0<=5/\∀ c∈w0.cps.toList,c<50000)/\(∀ x∈ws,FK x)/\↑ws<=30
def Zh:Sp:=λvs H Q _=>∃(p lw:χ) (ws:LS),vs=[.ref p,.ref lw]/\(∃ o,H p≈o/\EH o)/\H lw≈(.lst (ws.map V.str))/\Xq ws/\lw≠p/\∀ x H',Drawn p H H'->FK x->Q (.str x) H'
def nT:(["k","pot","words"]:LS).Nodup:=by rfl'
def Ya9:Ad ["pot","words"] ["pot","words"] (AL Wr):=by nofun
def rp(F:Def K mg "_law_wrong" Wr ["pot","words"] f fd)(len:mg "len"=none)(DT:Def K mg "_law_take" QE ["pot","many"] fT fdT)(GT:⋯ 1 fT fdT ["pot","many"] V7):⋯ 2 f fd ["pot","words"] Zh:=by
 nomatch F.fn.ok Ya9
 ·obtain⟨p,lw,ws,rfl,_⟩:=h;rfl
 ·obtain⟨p,lw,ws,rfl,⟨o,hp,ho⟩,hw,⟨⟨w0,AQ,rfl,l1,l5,cs⟩,wok,wl⟩,lp,q⟩:=h;have AM:AX 1 _:=hr.mono (by decide)
  ac_nf
  refine⟨_,(pS (Ac (Ax Bw (AY DT GT AM (pC (pv 0) (pC AI AB))) AI (Ao _)) (AG (Ab (A9 (r:=LJ K) Mn (C2 (pC Gb (pC Gb (pC Gb (pC Gb (pC (Al Z2s (A9 (r:=Cz K) Bi (pv 1) AI (λ_ _=>rfl)) AI) (pC Gb AB))))))) (AY DT GT AM (pC (pv 0) (pC AI AB))) (λ_ _=>rfl)))) Aj)
   (AG (Ab (A9 (r:=Cz K) Bi (pv 1) (AY DT GT AM (pC (pv 0) (pC (Ai B_ (by rfl) len Yx (pC (pv 1) AB)) AB))) (λ_ _=>rfl))))),?_⟩
  exists let b:=_;AF (Bp _ b _) a _ _ _
  refine⟨Z,p,3,o,Y,hp,ho,W,W,λv1 o1 v10 v11 Kd=>?_⟩;have d1:Drawn p H (upd H p o1):=Drawn.upd Kd;have Dm:(upd H p o1) p≈o1:=uS;generalize upd H p o1=H1 at d1 Dm;have Pg:=d1.keep _ _ lp hw;refine⟨Y,Z,BY (λ_=>?_) (λ_=>?_)⟩
  ·refine⟨Z,lw,_,_,Z,Y,AD.of Pg,Es (j:=0) rfl,w0,9,Y,Y,W,W,l1,O,sL (by show 6<=100000;decide),λt2 BL=>?_⟩;have s2:AA H1 (upd H1 t2 (.tup ((NC w0).map V.str))):=Eo BL;have h2:(upd H1 t2 (.tup ((NC w0).map V.str))) t2≈(.tup ((NC w0).map V.str)):=uS;have FA:=s2 _ _ Dm;refine⟨Z,p,6,o1,Y,FA,Kd,W,W,λv3 o3 v30 X0 MN=>?_⟩;have d3:Drawn p (upd H1 t2 (.tup ((NC w0).map V.str))) (upd (upd H1 t2 (.tup ((NC w0).map V.str))) p o3):=Drawn.upd MN;obtain⟨x,hx,hat⟩:=Z7 (ws:=(NC w0)) v30 X0;refine⟨t2,_,_,Z,Y,AJ.of (Drawn.tup d3 FA Kd h2),hat,q x _ ((d1.same s2).trans d3) ?_⟩;by_cases e:x=LK w0 9
   ·rw[e];refine h_ ?_;rw[EF,Cd,ik];refine⟨Jb (by omega),λc hc=>Jb ?_⟩;rw[ij]at hc;obtain⟨l,hl,hcl⟩:=List.mem_flatten.mp hc;rw[SY hl]at hcl;exact cs c hcl
   ·have:x∈(["","zz","A","a b","none"]:LS):=by
     unfold NC at hx;simp only[Bj,List.not_mem_nil,or_false]at hx ⊢
     rcases hx with h | h | h | h | h | h
     ·exact .inl h
     ·exact .inr (.inl h)
     ·exact .inr (.inr (.inl h))
     ·exact .inr (.inr (.inr (.inl h)))
     ·exact absurd h e
     ·exact .inr (.inr (.inr (.inr h)))
    exact Z1m (l:=["","zz","A","a b","none"]) (by rfl') this
  ·have wp:0<↑((w0 :: AQ).map V.str):=by rw[Ya,Bt];omega
   have wl':↑((w0 :: AQ).map V.str)<=30:=by rw[Ya];exact wl
   refine⟨Z,Z,Z,lw,Z,.inl (AD.of Pg),p,_,o1,Y,Dm,Kd,O,O,λv3 o3 v30 X0 MN=>?_⟩;have d3:Drawn p H1 (upd H1 p o3):=Drawn.upd MN;obtain⟨x,hx,hat⟩:=Z7 v30 X0;exact⟨lw,_,_,Z,Y,AD.of (d3.keep _ _ lp Pg),hat,q x _ (d1.trans d3) (wok x hx)⟩
def Hq(m:Nat):LS:=(List.range m).map Dg
def Zr(m:Nat):↑(Hq m)=m:=by unfold Hq;rw[Ya,QT]
def z0{m i:Nat}(h:i<m):(Hq m)[i]?≈(Dg i):=by unfold Hq;rw[Yj,NJ h];rfl
def z9(m:Nat):(Hq m).Nodup:=Xi.mpr (List.nodup_range.imp λh z=>h (wm z))
def jZ{k:Nat}(h:k<26):k<26 ^ 8:=Yn h (by decide)
def jP{m:Nat}(hm:m<=26):∀ x∈Hq m,Bf x=true:=λx hx=>by
 obtain⟨k,hk,rfl⟩:=Yo.mp hx;have:=List.mem_range.mp hk;exact w9 (jZ (by omega))
def rD{m:Nat}(h1:1<=m)(hm:m<=26):Xq (Hq m):=by
 refine⟨?_,λx hx=>tF (jP hm x hx),by rw[Zr];omega⟩;obtain⟨k,rfl⟩:∃ k,m=k + 1:=⟨m - 1,O⟩;have e0:(Dg 0).cps.toList=[97]:=by rw[W3,M0];rfl
 refine⟨Dg 0,((List.range k).map Nat.succ).map Dg,?_,?_,?_,λc hc=>?_⟩
 ·unfold Hq;rw[List.range_succ_eq_map];rfl
 ·rw[<- Ky,e0];decide
 ·rw[<- Ky,e0];decide
 ·rw[e0]at hc;rw[Ym.mp hc];decide
def Ko(ws:LS):RS:=match ws with
 | []=>[]
 | w0 :: r=>(w0,[]):: r.map λw=>(w,[w0])
def aT:∀ ws:LS,(Ko ws).map (·.1)=ws
 | []=>rfl
 | w0 :: r=>by
  show w0 :: ((r.map λw=>(w,[w0])).map (·.1))=w0 :: r;rw[BN]
  congr 1
  exact Gn r
def zr{ρ:RS}{ws:LS}(e:ρ.map (·.1)=ws)(h1:1<=↑ws)(Pl:↑ws<=24)(hw:∀ x∈ws,Bf x=true)(nd:ws.Nodup)(hu:∀ r∈ρ,↑r.2<=8/\r.2.Nodup/\∀ u∈r.2,u∈ws)(rk:Str->Nat)(hr:∀ r∈ρ,∀ u∈r.2,rk u<rk r.1):Ah ρ:=by
 have el:↑ρ=↑ws:=by rw[<- e,Ya]
 exact⟨O,O,λr h=>hw _ (by rw[<- e];exact Yo.mpr ⟨r,h,Y⟩),by rw[e];exact nd,λr h=>(hu r h).1,λr h u E9=>by rw[e];exact(hu r h).2.2 u E9,λr h=>(hu r h).2.1,⟨rk,hr⟩⟩
def jX{w0:Str}{AQ:LS}{r:Str×LS}(h:r∈Ko (w0 :: AQ)):r=(w0,[])\/(r.1∈AQ/\r.2=[w0]):=by
 rcases Bj.mp h with z | z
 ·exact .inl z
 ·obtain⟨w,hw,rfl⟩:=Yo.mp z;exact .inr ⟨hw,Y⟩
def zN{ws:LS}(h1:1<=↑ws)(Pl:↑ws<=24)(hw:∀ x∈ws,Bf x=true)(nd:ws.Nodup):Ah (Ko ws):=by
 match ws,h1,Pl,hw,nd with
 | w0 :: AQ,h1,Pl,hw,nd =>
  have hn:=(Fs.mp nd).1;refine zr (aT _) h1 Pl hw nd (λr h=>?_) (λz=>if z=w0 then 0 else 1) (λr h u hu=>?_)
  ·rcases jX h with rfl | ⟨_,e⟩
   ·exact⟨Bm _,.nil,(λ_ z=>nomatch z)⟩
   ·rw[e];exact⟨by show 1<=8;decide,by simp,λu hu=>by rw[Ym.mp hu];exact Di⟩
  ·rcases jX h with rfl | ⟨hr,e⟩
   ·cases hu
   ·rw[e]at hu;rw[Ym.mp hu];show(if w0=w0 then 0 else 1)<(if r.1=w0 then 0 else 1);rw[if_pos rfl,if_neg (λz=>hn (by rw[<- z];exact hr))];decide
def uk(ws:LS):↑(Ko ws)=↑ws:=by
 have:=congrArg List.length (aT ws)
 rwa [Ya]at this
def ar:V->V
 | .int i=>.str (Dg i.toNat)
 | _=>.non
def zy(m:Nat):((Gd 0 m).filter λ_=>true).map ar=(Hq m).map V.str:=by
 rw[EB.mpr (λ_ _=>rfl)];refine List.ext_getElem? λi=>?_;rw[Yj,Yj];by_cases h:i<m
 ·obtain⟨x,e⟩:∃ x,(Gd 0 m)[i]?≈x:=⟨_,Yg (by rw[EW];exact h)⟩;obtain⟨_,e2⟩:=Fm e;rw[e,e2,z0 h];show some (V.str (Dg ((0:Int) + (i:Int)).toNat))≈(V.str (Dg i));rw[Li,B0]
 ·rw[LR (by rw[EW];omega),LR (by rw[Zr];omega)];rfl
structure Ln(p lw lr ld:χ)(H H':Hp)(ρ:RS)(vs:LV)(n:Nat)(ds:ζ)(us:LV):Prop where
 d:Drawn p H H'
 hw:H' lw≈(.lst ((ρ.map (·.1)).map V.str))
 lwp:lw≠p
 hr:H' lr≈(.lst vs)
 lrp:lr≠p
 pr:Paired (SE H') ρ vs
 hd:H' ld≈(.lst us)
 dd:BR H' ds us
 gd:CG ρ n ds
 ldH:H ld=none
 ldp:ld≠p
 ldw:ld≠lw
 ldr:ld≠lr
def Ln.draw{p lw lr ld:χ}{H H' H2:Hp}{ρ:RS}{vs:LV}{n:Nat}{ds:ζ}{us:LV}(b:Ln p lw lr ld H H' ρ vs n ds us)(k:Drawn p H' H2):Ln p lw lr ld H H2 ρ vs n ds us:=by
 obtain⟨o,ho,po⟩:=b.d.pot;have kt:∀ {t:χ} {xs:LV},H' t≈(.tup xs)->H2 t≈(.tup xs):=λ{t xs} e=>Drawn.tup k ho po e;exact⟨b.d.trans k,k.keep _ _ b.lwp b.hw,b.lwp,k.keep _ _ b.lrp b.hr,b.lrp,Paired.mapP b.pr λr v ⟨t,u,e,z1,z2⟩=>⟨t,u,e,kt z1,kt z2⟩,k.keep _ _ b.ldp b.hd,Paired.mapP b.dd λ_ _ ⟨t,e,x⟩=>⟨t,e,kt x⟩,b.gd,b.ldH,b.ldp,b.ldw,b.ldr⟩
def Ln.put{p lw lr ld t:χ}{H H':Hp}{ρ:RS}{vs:LV}{n:Nat}{ds:ζ}{us:LV}{bs:LS}(b:Ln p lw lr ld H H' ρ vs n ds us)(ht:H' t≈(.tup (bs.map V.str)))(gc:Bq ρ n bs)(hn:bs∉ds)(hl:↑ds<64):Ln p lw lr ld H (upd H' ld (.lst (us++[.ref t]))) ρ vs n (ds++[bs]) (us++[.ref t]):=by
 have kt:∀ {u:χ} {xs:LV},H' u≈(.tup xs)->(upd H' ld (.lst (us++[.ref t]))) u≈(.tup xs):=λ{u xs} e=>by
  rw[AE (λz=>by rw[z,b.hd]at e;cases e)];exact e
 exact⟨b.d.sub (o':=.lst []) (q:=ld) (λc o hc e=>by rw[AE hc];exact e) b.ldH (Ae b.ldp),by rw[AE (Ae b.ldw)];exact b.hw,b.lwp,by rw[AE (Ae b.ldr)];exact b.hr,b.lrp,Paired.mapP b.pr λr v ⟨t,u,e,z1,z2⟩=>⟨t,u,e,kt z1,kt z2⟩,uS,BR.append (Paired.mapP b.dd λ_ _ ⟨t,e,x⟩=>⟨t,e,kt x⟩) (.cons ⟨t,Y,kt ht⟩ .nil),b.gd.snoc gc hn hl,b.ldH,b.ldp,b.ldw,b.ldr⟩
def xw:(["k"]:LS).Nodup:=by rfl'
def x9:(["word","words"]:LS).Nodup:=by rfl'
def yz:(["place","words","pot","many"]:LS).Nodup:=by rfl'
structure yH(mg:Str->OU):Prop where
 len:mg "len"=none
 range:mg "range"=none
 tuple:mg "tuple"=none
def rQ(xs:LV)(k:Nat)(h:k<=↑xs):Cv xs (↥(k:Int)) none=xs.drop k:=by
 unfold Cv;rw[HT.sIx_none,HT.sIx_nat,IL h];refine SR ?_;rw[LP];exact Yd _
def Pn:τ:=[1,2,5,24,22,23,8,9,4,5,3,2]
def Pu:τ:=[1,2,3,1,2,2,3,3,4,4,2,4]
def tP{v:Int}(h0:0<=v)(h1:v<12):∃ m n:Nat,Ej (Pn.map V.int) v≈(.int m)/\Ej (Pu.map V.int) v≈(.int n)/\1<=m/\m<=24/\1<=n/\n<=4:=by
 obtain⟨k,rfl⟩:∃ k:Nat,v=(k:Int):=⟨v.toNat,O⟩
 match k,h1 with
 | 0,_=>exact⟨1,1,Y,Y,W,W,W,W⟩
 | 1,_=>exact⟨2,2,Y,Y,W,W,W,W⟩
 | 2,_=>exact⟨5,3,Y,Y,W,W,W,W⟩
 | 3,_=>exact⟨24,1,Y,Y,W,W,W,W⟩
 | 4,_=>exact⟨22,2,Y,Y,W,W,W,W⟩
 | 5,_=>exact⟨23,2,Y,Y,W,W,W,W⟩
 | 6,_=>exact⟨8,3,Y,Y,W,W,W,W⟩
 | 7,_=>exact⟨9,3,Y,Y,W,W,W,W⟩
 | 8,_=>exact⟨4,4,Y,Y,W,W,W,W⟩
 | 9,_=>exact⟨5,4,Y,Y,W,W,W,W⟩
 | 10,_=>exact⟨3,2,Y,Y,W,W,W,W⟩
 | 11,_=>exact⟨2,4,Y,Y,W,W,W,W⟩
 | k + 12,h=>omega
def iq(C B:χ):Sp:=λvs H Q _=>∃ p:χ,vs=[.ref p]/\(∃ o,H p≈o/\EH o)/\∀(t lw yb xb:χ) (ρ:RS) (n:Nat) (ds:ζ) (H':Hp),Drawn p H H'->H' t≈(.tup [.ref lw,.int (n:Int),.bl (decide (512<↑ρ ^ n)),.ref yb])->H' lw≈(.lst ((ρ.map (·.1)).map V.str))->lw≠p->Xq (ρ.map (·.1))->A5 C B H' yb xb ρ n ds->Ah ρ->CG ρ n ds->1<=n->n<=4->Q (.ref t) H'
abbrev VU:LS:=["pot","size","many","places","words","rows","deeds","k","deed","count","place"]
def lX:Ad VU ["pot"] (AL M7):=by nofun
set_option maxHeartbeats 8000000 in
def sf(F:Def K mg "_law_board" M7 ["pot"] f fd)(T:yH mg)(DT:Def K mg "_law_take" QE ["pot","many"] fT fdT)(GT:⋯ 1 fT fdT ["pot","many"] V7)(DL:Def K mg "_law_letters" W2 ["number"] fL fdL)(GL:⋯ 1 fL fdL ["number"] jc)
  (M:Mk K C fI) (mgC:mg "Kinds"≈(.ref C)) (bI:CC K fdI ["self","rows"] []) (GI:⋯ 4 fI fdI ["self","rows"] (ZO K C))
  (MB:Mk K B fBI) (mgB:mg "Board"≈(.ref B)) (bB:CC K fdBI Qu []) (GB:⋯ 4 fBI fdBI Qu (Zc K C B)):⋯ 6 f fd ["pot"] (iq C B):=by
 nomatch F.fn.ok lX
 ·obtain⟨p,rfl,_⟩:=h;rfl
 ·obtain⟨p,rfl,⟨o,hp,ho⟩,q⟩:=h;have nd:=lX.nd;have AM:AX 1 _:=hr.mono (by decide);have VZ:AX 5 _:=hr.mono (by decide)
  ac_nf
  refine'⟨_,pS (sE 1 nd (AY DT GT AM (pC (pv 0) (pC AI AB))))
   (@pS _ _ _ _ _ (@ig _ 2 _ _ _ _ _ _ _ Pn (by rfl') (by decide) nd rfl (Or.inr rfl) (pv 1) (λ_ _=>rfl) (Or.inl rfl))
   (@pS _ _ _ _ _ (@ig _ 3 _ _ _ _ _ _ _ Pu (by rfl') (by decide) nd rfl (Or.inl rfl) (pv 1) (λ_ _=>rfl) (Or.inl rfl))
   (pS (Cc (i:=4) nd rfl (Or.inr rfl) ?e1)
   (pS (sE 5 nd (Al ZF (C1 (pC (C2 (pC (A9 (r:=Cz K) Bi (pv 4) AI (λ_ _=>rfl)) (pC (C2 AB) AB))) AB)) ?e2))
   (pS (sE 6 nd (C1 AB))
   (pS (Ba Yz rfl (Gj (by rfl) T.range (pC (AY DT GT AM (pC (pv 0) (pC AI AB))) AB)) (gE 7 nd)
    (pS (sE 8 nd (FI LG (by rfl) T.tuple LZ (pC ?e3 AB)))
   (AG (Ac (Ax (Wb (LM hr)) (pv 8) (pv 6) (by with_unfolding_all rfl)) (AG (A7 (Iw Gq Sb Sa QB (pv 6) (pC (pv 8) AB)))) Aj))))
   (pS (sE 9 nd AI)
   (pS (Ba Yz rfl (Gj (by rfl) T.range (pC (pv 3) AB)) (gE 10 nd) (AG (sE 9 nd (Al Mh (pv 9) (pv 2)))))
   (AG (Ab (C2 (pC (pv 4) (pC (pv 3) (pC (FH GZ (pv 9) AI (Ao _)) (pC (hJ MB GB VZ rfl mgB bB .nil Aw (pC (hJ M GI VZ rfl mgC bI .nil Aw (pC (pv 5) AB)) (pC (pv 3) (pC (pv 6) AB)))) AB))))))))))))))),?_⟩
  case e1=>exact(Cm ["k"] [] [] (λ_=>Bs (osc:=AL M7) (on:=VU) (by rfl') rfl rfl rfl) (Gj (by rfl) T.range (pC (pv 2) AB)) (λC s H fp=>Bl (i:=0) xw rfl (Or.inl rfl) (Or.inr rfl)) (λC s H fp=>CU) (λC s H fp=>AY DL GL AM (pC (pv 0) AB)))
  case e2=>exact(Cm ["word"] ["words"] [4] (λ_=>Bs (osc:=AL M7) (on:=VU) (by rfl') rfl rfl rfl) (CT (Rp (r:=bD K) gw (pv 4) (Mr AI) Za)) (λC s H fp=>Bl (i:=0) x9 rfl (Or.inl rfl) (Or.inr rfl)) (λC s H fp=>CU) (λC s H fp=>C2 (pC (pv 0) (pC (C2 (pC (A9 (r:=Cz K) Bi (pv 1) AI (λ_ _=>rfl)) AB)) AB))))
  case e3=>exact(Cm ["place"] ["words","pot","many"] [4,0,2] (λ_=>Bs (osc:=AL M7) (on:=VU) (by rfl') rfl rfl rfl) (Gj (by rfl) T.range (pC (pv 3) AB)) (λC s H fp=>Bl (i:=0) yz rfl (Or.inl rfl) (Or.inr rfl)) (λC s H fp=>CU) (λC s H fp=>A9 (r:=Cz K) Bi (pv 1) (AY DT GT AM (pC (pv 2) (pC (pv 3) AB))) (λ_ _=>rfl)))
  exists AF _ a _ _ _
  refine⟨Z,p,12,o,Y,hp,ho,W,W,λsz o1 pI pH Kd=>?_⟩;have d1:Drawn p H (upd H p o1):=Drawn.upd Kd;have Dm:(upd H p o1) p≈o1:=uS;generalize upd H p o1=H1 at d1 Dm;obtain⟨m,n,am,an,m2,m24,n1,n4⟩:=tP pI pH;intro ta hta;have s2:AA H1 (upd H1 ta (.tup (Pn.map V.int))):=Eo hta;have h2:(upd H1 ta (.tup (Pn.map V.int))) ta≈(.tup (Pn.map V.int)):=uS;generalize upd H1 ta (.tup (Pn.map V.int))=H2 at s2 h2;refine⟨Z,ta,_,_,Z,Y,AJ.of h2,am,?_⟩;intro tb htb;have s3:AA H2 (upd H2 tb (.tup (Pu.map V.int))):=Eo htb;have h3:(upd H2 tb (.tup (Pu.map V.int))) tb≈(.tup (Pu.map V.int)):=uS;generalize upd H2 tb (.tup (Pu.map V.int))=H3 at s3 h3;refine⟨Z,tb,_,_,Z,Y,AJ.of h3,an,?_⟩;have d3:=d1.same (s2.trans s3);have RA:=(s2.trans s3) _ _ Dm;clear d1 Dm s2 h2 s3 h3 am an hta htb;refine⟨Z,(m:Int),Y,O,O,?_⟩;rw[B0];refine Mt JG (by rw[EW];exact sL (by omega)) (λ_=>true) ar (λ_ _=>trivial) ?_ ?_ ?_
  ·intro v H' R s' _ hR;exact hR H' (AA.refl _)
  ·intro v H' R s' hv _ hR;obtain⟨i,hi⟩:=List.mem_iff_getElem?.mp hv;obtain⟨Hh,rfl⟩:=Fm hi;refine⟨Z,i,by rw[Li];rfl,jZ (by omega),?_⟩;have:=hR H' (AA.refl _);rw[show ar (V.int (0 + (i:Int)))=V.str (Dg i)from by show V.str (Dg ((0:Int) + (i:Int)).toNat)=_;rw[Li,B0]]at this;exact this
  intro lw H4 hlw s4 hw;rw[zy]at hw;have d4:=d3.same s4;have Vb:=s4 _ _ RA;have fr:∀ {H':Hp} {D:χ},Drawn p H H'->H' D=none->H D=none/\D≠p:=λ{H' D} d hD=>by
   have z:D≠p:=λz=>by obtain⟨o',h',_⟩:=d.pot;rw[z,h']at hD;cases hD
   refine⟨?_,z⟩;cases e:H D with
   | none=>rfl
   | some u=>rw[d.keep _ _ z e]at hD;cases hD
  obtain⟨lwH,lwp⟩:=fr d3 hlw;clear d3 RA s4;have wl:=Zr m;have wnd:=z9 m;have www:=jP (m:=m) (by omega);have wwd:=rD (m:=m) (by omega) (by omega);generalize Hq m=ws at hw wl wnd www wwd;obtain⟨w0,AQ,rfl⟩:∃ w0 AQ,ws=w0 :: AQ:=by
   cases ws with
   | nil=>simp at wl;omega
   | cons a b=>exact⟨a,b,Y⟩
  have rl:AQ.length + 1=m:=wl;refine⟨Z,lw,_,_,Z,Y,AD.of hw,Es (j:=0) rfl,Bm _,λte hte=>⟨J,λt0 FV=>⟨Q,λl0 B3=>?_⟩⟩⟩;have s5:AA H4 (upd H4 te (.tup [])):=Eo hte;have h5:(upd H4 te (.tup [])) te≈(.tup []):=uS;generalize upd H4 te (.tup [])=H5 at s5 h5 FV B3;have s6:AA H5 (upd H5 t0 (.tup [.str w0,.ref te])):=Eo FV;have h6:(upd H5 t0 (.tup [.str w0,.ref te])) t0≈(.tup [.str w0,.ref te]):=uS;generalize upd H5 t0 (.tup [.str w0,.ref te])=H6 at s6 h6 B3;have s7:AA H6 (upd H6 l0 (.lst [.ref t0])):=Eo B3;have h7:(upd H6 l0 (.lst [.ref t0])) l0≈(.lst [.ref t0]):=uS;generalize upd H6 l0 (.lst [.ref t0])=H7 at s7 h7;have Ed:=s5.trans (s6.trans s7);refine⟨Z,Z,lw,Z,AD.of (Ed _ _ hw),λls hls=>?_⟩;dsimp only[Rf]at *;rw[show Cv ((w0 :: AQ).map V.str) (↥1) none=AQ.map V.str from rQ ((w0 :: AQ).map V.str) 1 (by simp)];have s8:AA H7 (upd H7 ls (.lst (AQ.map V.str))):=Eo hls;have h8:(upd H7 ls (.lst (AQ.map V.str))) ls≈(.lst (AQ.map V.str)):=uS;generalize upd H7 ls (.lst (AQ.map V.str))=H8 at s8 h8;have Pb:=Ed.trans s8;have eW:=Pb _ _ hw;refine⟨ls,Y,⟨_,AD.of h8⟩,K5 (DV (xs:=AQ.map V.str)) (sL (by rw[Ya];omega)) (λ_=>true) (λD x v H'=>∃ y t u,x=.str y/\v=.ref t/\t≠D/\u≠D/\H' t≈(.tup [.str y,.ref u])/\H' u≈(.tup [.str w0])) (λD x v Ha Hb k h=>?_) (λH' s'=>s'.seq (AD.of h8)) ?_ ?_ ?_⟩
  ·obtain⟨y,t,u,e0,e,nt,nu,h1,h2⟩:=h;exact⟨y,t,u,e0,e,nt,nu,k _ _ nt h1,k _ _ nu h2⟩
  ·intro x H3 R _ _ BA;exact BA H3 (AA.refl _)
  ·intro D x H3 R s3 hDx hDn hx _ BA;obtain⟨y,hy,rfl⟩:=Yo.mp hx;obtain⟨Qi,Gv⟩:=hDx;refine⟨Z,Z,lw,_,_,Z,Y,AD.of (s3 _ _ eW),Es (j:=0) rfl,Q,λtu htu=>?_⟩;have s4:AA H3 (upd H3 tu (.tup [.str w0])):=Eo htu;have nu:tu≠D:=Ae (AS Gv htu);refine⟨J,λtt htt=>?_⟩;have nt:tt≠D:=Ae (AS (s4 _ _ Gv) htt);exact BA _ _ (s4.trans (Eo htt)) ⟨y,tt,tu,Y,Y,nt,nu,uS,(Eo htt) _ _ uS⟩
  intro D H9 KU hD s9 fG MM;rw[EB.mpr (λ_ _=>rfl)]at MM;have X7:Paired (SE H9) (AQ.map λw=>(w,[w0])) KU:=by
   have:∀ {l:LS} {vs:LV},Paired (λx v=>∃ y t u,x=V.str y/\v=.ref t/\t≠D/\u≠D/\H9 t≈(.tup [.str y,.ref u])/\H9 u≈(.tup [.str w0])) (l.map V.str) vs->Paired (SE H9) (l.map λw=>(w,[w0])) vs:=by
    intro l
    induction l with
    | nil=>intro vs h;cases h;exact .nil
    | cons a r ih =>
     intro vs h;cases h with
     | cons h t =>
      obtain⟨y,t',u,e0,e,_,_,h1,h2⟩:=h;injection e0 with e0;subst e0;exact .cons ⟨t',u,e,h1,h2⟩ (ih t)
   exact this MM
  have vl9:AQ.length=↑KU:=by have:=BO X7;rwa [Ya]at this
  have VO:=Pb.trans s9;refine⟨l0,D,_,Z,Y,(s8.trans s9) _ _ h7,fG,sL (by show 1 + _<=100000;omega),λlr hlr=>?_⟩;have Dl:AA H9 (upd H9 lr (.lst ([.ref t0]++KU))):=Eo hlr;have Pm:(upd H9 lr (.lst ([.ref t0]++KU))) lr≈(.lst (.ref t0 :: KU)):=uS;generalize upd H9 lr (.lst ([.ref t0]++KU))=Ce at Dl Pm;have NX:=VO.trans Dl;have Vq:=d4.same NX;have hp10:=NX _ _ Vb;have Sv:=NX _ _ hw;obtain⟨lrH,lrp⟩:=fr (d4.same VO) hlr;have NY:Paired (SE Ce) (Ko (w0 :: AQ)) (.ref t0 :: KU):=.cons ⟨t0,te,Y,(s7.trans (s8.trans (s9.trans Dl))) _ _ h6,(s6.trans (s7.trans (s8.trans (s9.trans Dl)))) _ _ h5⟩ (Paired.mapP X7 λr v ⟨t,u,e,z1,z2⟩=>⟨t,u,e,Dl _ _ z1,Dl _ _ z2⟩);have g0:=zN (ws:=w0 :: AQ) (by simp) (by omega) www wnd;have lwr:lw≠lr:=AS (VO _ _ hw) hlr;clear h5 h6 h7 h8 s5 s6 s7 s8 s9 Ed Pb VO Dl X7 MM fG hD hls hte FV B3 eW;refine⟨Bm _,λl0 B3=>?_⟩;have s6:AA Ce (upd Ce l0 (.lst [])):=Eo B3;have h6:(upd Ce l0 (.lst [])) l0≈(.lst []):=uS;generalize upd Ce l0 (.lst [])=H6 at s6 h6;obtain⟨YB,qF⟩:=fr Vq B3;have ew:(Ko (w0 :: AQ)).map (·.1)=w0 :: AQ:=aT _;have rlen:↑(Ko (w0 :: AQ))=m:=by rw[uk];exact wl
  have g:=g0;generalize Ko (w0 :: AQ)=ρ at NY ew g rlen;generalize hvs:V.ref t0 :: KU=vs at NY Pm;have b7:Ln p lw lr l0 H H6 ρ vs n [] []:=⟨Vq.same s6,by rw[ew];exact s6 _ _ Sv,lwp,s6 _ _ Pm,lrp,Paired.mapP NY λr v ⟨t,u,e,z1,z2⟩=>⟨t,u,e,s6 _ _ z1,s6 _ _ z2⟩,h6,.nil,⟨(λd h=>nomatch h),List.nodup_nil,Bm _⟩,YB,qF,Ae (AS Sv B3),Ae (AS Pm B3)⟩;obtain⟨o7,Va,YM⟩:=b7.d.pot;refine⟨Z,p,3,o7,Y,Va,YM,W,W,λv8 o8 v80 v81 YL=>⟨v8,Y,O,O,?_⟩⟩;have b8:=b7.draw (Drawn.upd (p:=p) (H:=H6) YL);generalize upd H6 p o8=H8 at b8;let A8:NW:=λi σ H'=>i<=60->∃(ds:ζ) (us:LV) (x7 x8:OV),σ=[↥(.ref p),↥(.int sz),↥(.int (m:Int)),↥(.int (n:Int)),↥(.ref lw),↥(.ref lr),↥(.ref l0),x7,x8,none,none]/\Ln p lw lr l0 H H' ρ vs n ds us/\↑ds<=i;refine CH JG A8
   (λ_=>⟨[],[],none,none,Y,b8,Yd _⟩) (λ_ _ _ _ _=>trivial) ?_ ?_
  ·rintro i v σ H9 hi inv;obtain⟨hi3,_⟩:=Fm hi;have hi60:i + 1<=60:=by omega
   obtain⟨ds,us,x7,x8,rfl,b9,dl⟩:=inv (by omega);have cK:=b9.d.pot;refine⟨Z,n,Y,O,O,Zi (B:=λx=>x∈w0 :: AQ) cK (by omega) rfl (λv H' R d hR=>?_) λlb bs Ce hlb Vq UX hbl hb=>?_⟩
   ·obtain⟨oa,hpp,hoo⟩:=d.pot;refine⟨Z,Z,Z,p,m,oa,Y,hpp,hoo,O,O,λv4 ob YI YH hob=>?_⟩;obtain⟨x,hxm,hat⟩:=Z7 (ws:=w0 :: AQ) YI (by rw[Ya,wl];omega);have db:Drawn p H' (upd H' p ob):=Drawn.upd hob;exact⟨lw,_,_,Z,Y,AD.of (db.keep _ _ lwp (d.keep _ _ lwp (by rw[<- ew];exact b9.hw))),hat,hR x _ db hxm⟩
   rw[B0]at hbl;refine⟨lb,Z,.inl ⟨AD.of UX,λt ht=>?_⟩⟩;have Dl:AA Ce (upd Ce t (.tup (bs.map V.str))):=Eo ht;have Na:(upd Ce t (.tup (bs.map V.str))) t≈(.tup (bs.map V.str)):=uS;generalize upd Ce t (.tup (bs.map V.str))=Ll at Dl Na;have Hm:=b9.draw (Vq.same Dl);have okx:∀ y∈bs,Bf y=true:=λy hy=>www y (hb y hy);refine⟨Z,Z,Dr bs,ds.map Dr,ip Na,ui Hm.hd Hm.dd,gj 8 okx,sk 7 (vm g Hm.gd.call),Z,?_⟩;show if(Bool.not ((ds.map Dr).any λe=>Cu e (Dr bs)))=true then _ else _
   rw[rN];refine BY (λhn=>?_) (λ_ _=>⟨ds,us,_,Z,Hm,O⟩);have hn:bs∉ds:=by simpa using hn
   have ul:=Hm.dd.len;exact⟨Z,.inl ⟨Y,_,AD.of Hm.hd⟩,Z,l0,_,Z,Y,Hm.hd,C4 (by omega),λ_=>⟨ds++[bs],us++[.ref t],_,Z,Hm.put Na ⟨hbl,by rw[ew];exact hb⟩ hn (by omega),by rw[Yu];show ↑ds + 1<=i + 1;omega⟩⟩
  ·rintro σ H9 inv;obtain⟨ds,us,x7,x8,rfl,b9,_⟩:=inv (by rw[EW];omega);let NS:NW:=λi σ H'=>∃ dR:OV,σ=[↥(.ref p),↥(.int sz),↥(.int (m:Int)),↥(.int (n:Int)),↥(.ref lw),↥(.ref lr),↥(.ref l0),x7,x8,↥(.int ((m ^ i:Nat):Int)),dR]/\H'=H9;refine⟨Z,(n:Int),Y,O,O,CH JG NS ⟨none,Y,Y⟩ (λ_ _ _ _ _=>trivial) ?_ ?_⟩
   ·rintro i v σ H' hi ⟨x3,rfl,rfl⟩;have e:((m ^ i:Nat):Int) * (m:Int)=((m ^ (i + 1):Nat):Int):=by rw[Nat.pow_succ,NG]
    refine⟨Z,Z,_,Z,Y,.inr ⟨O,O⟩,↥v,?_,Y⟩;show[_,_,_,_,_,_,_,_,_,↥(V.int (((m ^ i:Nat):Int) * (m:Int))),↥v]=_;rw[e]
   ·rintro σ H' ⟨dR,rfl,rfl⟩;have e:↑(Gd 0 ((n:Int)).toNat)=n:=by rw[EW,B0]
    rw[e];refine⟨Z,Z,Z,_,Z,Y,Z,?_⟩;intro xb dx nx ndx nex;have hR:Mf H' lr ρ:=⟨vs,b9.hr,b9.pr⟩;refine rG nx ndx hR g λH3 s3 qH=>⟨Z,Z,?_⟩;intro yb dy ny ndy ney;refine rF ny ndy qH g (.inl (s3 _ _ b9.hd)) (b9.dd.mono s3) b9.gd n1 n4 λH4 s4 Y5=>?_;refine⟨sL (by show 4<=100000;decide),λt ht=>?_⟩;have BK:=s3.trans s4;have e5:decide ((512:Int)<((m ^ n:Nat):Int))=decide (512<↑ρ ^ n):=by rw[rlen];exact Qc.mpr (by omega)
    have s5:AA H4 (upd H4 t (.tup [.ref lw,.int (n:Int),.bl (decide ((512:Int)<((m ^ n:Nat):Int))),.ref yb])):=Eo ht;have h5:(upd H4 t (.tup [.ref lw,.int (n:Int),.bl (decide ((512:Int)<((m ^ n:Nat):Int))),.ref yb])) t≈(.tup [.ref lw,.int (n:Int),.bl (decide (512<↑ρ ^ n)),.ref yb]):=by rw[uS,e5]
    exact q t lw yb xb ρ n ds _ (b9.d.same (BK.trans s5)) h5 ((BK.trans s5) _ _ b9.hw) lwp (by rw[ew];exact wwd) (Y5.mono s5) g b9.gd n1 n4
structure Fy where
 pl:Int
 one:Str
 oth:Str
 b1:LS
 b2:LS
 ks:τ
structure cE(A:Fy):Prop where
 pl:A.pl.natAbs<2 ^ 200
 one:FK A.one
 oth:FK A.oth
 l1:↑A.b1<=10
 l2:↑A.b2<=10
 b1:∀ x∈A.b1,FK x
 b2:∀ x∈A.b2,FK x
 kl:↑A.ks<=40
 ks:∀ x∈A.ks,-100<=x/\x<=100
structure Po(H:Hp)(t lb lk t1 t2:χ)(A:Fy):Prop where
 ht:H t≈(.tup [.int A.pl,.str A.one,.str A.oth,.ref lb,.ref lk])
 hb:H lb≈(.lst [.ref t1,.ref t2])
 h1:H t1≈(.tup (A.b1.map V.str))
 h2:H t2≈(.tup (A.b2.map V.str))
 hk:H lk≈(.lst (A.ks.map V.int))
def Po.up{H H':Hp}{t lb lk t1 t2:χ}{A:Fy}(h:Po H t lb lk t1 t2 A)(s:AA H H'):Po H' t lb lk t1 t2 A:=⟨s _ _ h.ht,s _ _ h.hb,s _ _ h.h1,s _ _ h.h2,s _ _ h.hk⟩
inductive Hn(ρ:RS)(n:Nat)(A:Fy):Nat->Int->Prop
 | place {wh}:wh<2->¬ C9 A.pl n->Hn ρ n A wh 11
 | kind:C9 A.pl n->(A.one∉ρ.map (·.1)\/A.oth∉ρ.map (·.1))->Hn ρ n A 1 0
 | beg:¬ FD ρ n A.b1 A.b2->Hn ρ n A 6 9
 | wgt:¬ Gr ρ A.ks->Hn ρ n A 7 12
 | many {wh}:wh<8->(wh<2->C9 A.pl n)->(wh=1->A.one∈ρ.map (·.1)/\A.oth∈ρ.map (·.1))->(wh=6->FD ρ n A.b1 A.b2)->(wh=7->Gr ρ A.ks)->512<↑ρ ^ n->Hn ρ n A wh 7
 | fine {wh}:wh<8->(wh<2->C9 A.pl n)->(wh=1->A.one∈ρ.map (·.1)/\A.oth∈ρ.map (·.1))->(wh=6->FD ρ n A.b1 A.b2)->(wh=7->Gr ρ A.ks)->↑ρ ^ n<=512->Hn ρ n A wh (-1)
def nK:Sp:=λvs H Q _=>∃(wh:Nat) (lw t lb lk t1 t2:χ) (ρ:RS) (n:Nat) (A:Fy),vs=[.int (wh:Int),.ref lw,.int (n:Int),.bl (decide (512<↑ρ ^ n)),.ref t]/\wh<8/\H lw≈(.lst ((ρ.map (·.1)).map V.str))/\Ah ρ/\Po H t lb lk t1 t2 A/\cE A/\1<=n/\n<=4/\∀(d:Int) H',AA H H'->Hn ρ n A wh d->Q (.int d) H'
def nX:(["word","words"]:LS).Nodup:=by rfl'
def K8{ρ:RS}{n:Nat}{xs:LS}:FG ρ n xs=true↔(↑xs=n/\∀ x∈xs,x∈ρ.map (·.1)):=by
 constructor
 ·intro h;by_cases c:↑xs=n/\∀ x∈xs,x∈ρ.map (·.1)
  ·exact c
  ·rw[rL c]at h;cases h
 ·intro h;exact(ZU h.1 h.2).is
def XE(ws:LS)(x:Str):((ws.map W.Dat.str).any λe=>Cu e (.str x))=decide (x∈ws):=by
 by_cases h:x∈ws
 ·rw[Jb h,Ft];exact⟨.str x,Yo.mpr ⟨x,h,Y⟩,WN _⟩
 ·rw[Jc h,SU];intro e he;obtain⟨y,hy,rfl⟩:=Yo.mp he;rw[WA (λz=>by injection z with z;rw[z]at hy;exact h hy)];exact Yh
def oF(ws:LS):V->V
 | .str x=>.bl (decide (x∈ws))
 | _=>.non
def zu(ws:LS)(l:LS):((l.map V.str).filter λ_=>true).map (oF ws)=(l.map λz=>decide (z∈ws)).map V.bl:=by
 rw[EB.mpr λ_ _=>rfl,BN,BN];rfl
structure yI(mg:Str->OU):Prop where
 len:mg "len"=none
 all:mg "all"=none
 min:mg "min"=none
abbrev Qr:LS:=["which","words","places","large","asks"]
abbrev eI:LS:=["which","words","places","large","asks","place","one","other","begins","weights"]
def lD:Ad eI Qr (AL R0):=by nofun
set_option maxHeartbeats 8000000 in
def zB(F:Def K mg "_law_due" R0 Qr f fd)(T:yI mg):⋯ 1 f fd Qr nK:=by
 nomatch F.fn.ok lD
 ·obtain⟨wh,lw,t,lb,lk,t1,t2,ρ,n,A,rfl,_⟩:=h;rfl
 ·obtain⟨wh,lw,t,lb,lk,t1,t2,ρ,n,Ak,rfl,VE,hw,g,at_,ok,n1,n4,q⟩:=h;have nd:=lD.nd;have hu:=hr.units
  ac_nf
  refine'⟨_,(pS (Px (pv 4) (Hw rfl (gC (gE 5 nd) (gC (gE 6 nd) (gC (gE 7 nd) (gC (gE 8 nd) (gC (gE 9 nd) H_)))))))
   (IA (Ac (PW.pt (V6 (Ax Hv (pv 0) AI (Ao _)) (WL (Bx (P8 Iv Hv AI (pv 5) (pv 2)))))) (AG (Ab AI)) Aj)
   (IA (Ac (PW.pt (V6 (Ax Bw (pv 0) AI (Ao _)) (WL (PW.pt (Fe (Ax (Wb (LM hr)) (pv 6) (pv 1) (by with_unfolding_all rfl)) (Hy (Ax (Wb (LM hr)) (pv 7) (pv 1) (by with_unfolding_all rfl)))))))) (AG (Ab AI)) Aj)
   (IA (Ac (Ax Bw (pv 0) AI (Ao _))
    (pS (Ac (PW.pt (Fe (Ax RN (Ai B_ (by rfl) T.len Yx (pC (A9 (r:=Cz K) Bi (pv 8) AI (λ_ _=>rfl)) AB)) (Ai B_ (by rfl) T.len Yx (pC (A9 (r:=Cz K) Bi (pv 8) AI (λ_ _=>rfl)) AB)) (Ao _)) (Hy (Ax GZ (Ai B_ (by rfl) T.len Yx (pC (A9 (r:=Cz K) Bi (pv 8) AI (λ_ _=>rfl)) AB)) (pv 2) (Ao _))))) (AG (Ab AI)) Aj)
   (AG (Ac (Bx (CF (Ai (WM rfl) (by rfl) T.all Xe (pC ?eC AB)))) (AG (Ab AI)) Aj))) Aj)
   (IA (Ac (PW.pt (V6 (Ax Bw (pv 0) AI (Ao _)) (WL (PW.pt (Fe (Ax RN (Ai B_ (by rfl) T.len Yx (pC (pv 9) AB)) (Ai B_ (by rfl) T.len Yx (pC (pv 1) AB)) (Ao _)) (Hy (Ax Hv (Ai (uA rfl) (by rfl) T.min PyProof.Rows.boot_min (pC (Al ZF (pv 9) (C1 (pC AI AB))) AB)) AI (Ao _)))))))) (AG (Ab AI)) Aj)
   (pS (Ac (CF (pv 3)) (AG (Ab AI)) Aj)
   (AG (Ab (RP Ra AI))))))))),?_⟩
  case eC=>exact(Cm ["word"] ["words"] [1] (λ_=>Bs (osc:=AL R0) (on:=eI) (by rfl') rfl rfl rfl) (Ml (Al (r:=Ff K) P0 (A9 (r:=Cz K) Bi (pv 8) AI (λ_ _=>rfl)) (A9 (r:=Cz K) Bi (pv 8) AI (λ_ _=>rfl)))) (λC s H fp=>Bl (i:=0) nX rfl (Or.inl rfl) (Or.inr rfl)) (λC s H fp=>CU) (λC s H fp=>FH (r:=XI K id) (zH (LM hr)) (pv 0) (pv 1) (by with_unfolding_all rfl)))
  exists let b:=AF _ a;let c:=GQ _ b;let e:=_;let f:=AF _ e;let g:=GQ (Bp _ f _) c;let h:=GQ _ g;let i:=GQ _ h;AF _ i _ _ _
  have gle:=g.le;have wok:((ρ.map (·.1)).map W.Dat.str).all (W.kqdOk 8)=true:=jA (λz hz=>Rh (Wf g z hz)) 8;have wi:∀ k:Int,decide (V.int (wh:Int)=V.int k)=decide ((wh:Int)=k):=λk=>Qc.mpr ⟨λz=>by injection z,λz=>by rw[z]⟩;refine⟨Z,t,Z,AJ.of at_.ht,Y,_,Z,_,Z,_,Z,_,Z,_,Z,Y,?_⟩;let σ0:St:=[↥(.int (wh:Int)),↥(.ref lw),↥(.int (n:Int)),↥(.bl (decide (512<↑ρ ^ n))),↥(.ref t),↥(.int Ak.pl),↥(.str Ak.one),↥(.str Ak.oth),↥(.ref lb),↥(.ref lk)];refine⟨λσ' H'=>σ'=σ0/\AA H H'/\(wh<2->C9 Ak.pl n),?_,?_⟩
  ·refine⟨Z,_,Z,Y,Z,BY (λh1=>?_) (λh1=>⟨Y,AA.refl _,λz=>absurd (Jb (show(wh:Int)<2 by omega)) h1⟩)⟩;have h1:wh<2:=by have:=Je h1;omega
   refine⟨Z,_,Z,Y,Z,BY (λz=>?_) (λz=>?_)⟩
   ·have z:(0:Int)<=Ak.pl:=Je z;refine⟨Z,_,Z,Y,Z,?_⟩;by_cases z2:Ak.pl<(n:Int)
    ·rw[Jb z2];exact Af ⟨Y,AA.refl _,λ_=>⟨z,z2⟩⟩
    ·rw[Jc z2];exact Az (q 11 H (AA.refl _) (.place h1 λy=>z2 y.2))
   ·have z:¬ (0:Int)<=Ak.pl:=λy=>z (Jb y);exact⟨Z,Az (q 11 H (AA.refl _) (.place h1 λy=>z y.1))⟩
  rintro σ' H1 ⟨rfl,s1,c1⟩;let FL:SW:=λσ' H'=>σ'=σ0/\AA H H'/\(wh=1->Ak.one∈ρ.map (·.1)/\Ak.oth∈ρ.map (·.1));refine⟨FL,?_,?_⟩
  ·refine⟨Z,Y,Z,?_⟩;rw[wi];by_cases h1:(wh:Int)=1
   ·have w1:wh=1:=by omega
    rw[Jb h1];have Pg:=s1 _ _ hw;refine Az ⟨Z,Z,.str Ak.one,_,.str _,.list (AD.of Pg) (Mw _),ok.one.ok,wok,Z,?_⟩;rw[XE];by_cases m1:Ak.one∈ρ.map (·.1)
    ·rw[Jb m1];refine Af ⟨Z,Z,.str Ak.oth,_,.str _,.list (AD.of Pg) (Mw _),ok.oth.ok,wok,Z,?_⟩;rw[XE];by_cases m2:Ak.oth∈ρ.map (·.1)
     ·rw[Jb m2];exact Af ⟨Y,s1,λ_=>⟨m1,m2⟩⟩
     ·rw[Jc m2];exact Az (q 0 H1 s1 (by rw[w1];exact .kind (c1 (by omega)) (.inr m2)))
    ·rw[Jc m1];exact Az (q 0 H1 s1 (by rw[w1];exact .kind (c1 (by omega)) (.inl m1)))
   ·rw[Jc h1];exact Af ⟨Y,s1,λz=>absurd (by omega) h1⟩
  rintro σ' H2 ⟨rfl,s2,c2⟩;refine⟨λσ' H'=>σ'=σ0/\AA H H'/\(wh=6->FD ρ n Ak.b1 Ak.b2),?_,?_⟩
  ·refine⟨Z,Y,Z,?_⟩;rw[wi];by_cases h1:(wh:Int)=6
   ·have w6:wh=6:=by omega
    rw[Jb h1];have a2:=at_.up s2;have gG:↑(Ak.b1.map V.str)=↑Ak.b1:=Ya ..;have gF:↑(Ak.b2.map V.str)=↑Ak.b2:=Ya ..;have bad:∀ {H':Hp},AA H H'->¬ FD ρ n Ak.b1 Ak.b2->Q (.int 9) H':=λ{H'} s z=>q 9 H' s (by rw[w6];exact .beg z);refine Az ⟨Z,lb,_,_,Z,Y,AD.of a2.hb,Y,t1,Z,.inr (AJ.of a2.h1),Z,lb,_,_,Z,Y,AD.of a2.hb,Y,t2,Z,.inr (AJ.of a2.h2),Y,Z,?_⟩;by_cases le:↑Ak.b1=↑Ak.b2
    ·have e0:(!decide (V.int ((↑(Ak.b1.map V.str):Nat):Int)=V.int ((↑(Ak.b2.map V.str):Nat):Int)))=false:=by rw[gG,gF,le];simp
     rw[e0];refine Af ⟨Z,lb,_,_,Z,Y,AD.of a2.hb,Y,t1,Z,.inr (AJ.of a2.h1),Z,_,Z,Y,Z,BY (λz=>?_) (λz=>?_)⟩
     ·have z:((n:Nat):Int)<((↑(Ak.b1.map V.str):Nat):Int):=Je z;exact bad s2 λy=>by have:=y.1;omega
     ·have z:¬ ((n:Nat):Int)<((↑(Ak.b1.map V.str):Nat):Int):=λy=>z (Jb y);refine⟨Z,lb,_,_,Z,Y,AD.of a2.hb,Y,Z,lb,_,_,Z,Y,AD.of a2.hb,Y,?_⟩;refine sU (K:=K) a2.h1 a2.h2 (sL (by have:=ok.l1;have:=ok.l2;omega)) λpR H3 DG hR=>?_;have Cs:=DG _ _ (s2 _ _ hw);have eR:Ak.b1.map V.str++Ak.b2.map V.str=(Ak.b1++Ak.b2).map V.str:=by rw[Yy]
      rw[eR]at hR;have okb:∀ x∈Ak.b1++Ak.b2,FK x:=λx hx=>(Yr.mp hx).elim (ok.b1 x) (ok.b2 x);refine⟨pR,Y,⟨_,AJ.of hR⟩,Mt (Mv (K:=K)) (sL (by have:=ok.l1;have:=ok.l2;rw[Ya,Yu];omega)) (λ_=>true) (oF (ρ.map (·.1))) (λH' s'=>AJ.of (s' _ _ hR)) ?_ ?_ ?_⟩
      ·intro x H' R _ _ hR;exact hR H' (AA.refl _)
      ·intro x H' R s' hx _ hR;obtain⟨v,hv,rfl⟩:=Yo.mp hx;refine⟨Z,Z,.str v,_,.str _,.list (AD.of (s' _ _ Cs)) (Mw _),(okb v hv).ok,wok,?_⟩;rw[XE];exact hR H' (AA.refl _)
      ·intro D H' hD s' Bv;rw[zu]at Bv;refine⟨D,Z,AD.of Bv,Z,?_⟩;have s4:=s2.trans (DG.trans s');by_cases ca:∀ x∈Ak.b1++Ak.b2,x∈ρ.map (·.1)
       ·have ea:(((Ak.b1++Ak.b2).map λz=>decide (z∈ρ.map (·.1))).all id)=true:=by
         rw[List.all_map,Cd];exact λx hx=>Jb (ca x hx)
        refine BY (λzz=>?_) (λ_=>?_)
        ·have zz:(!(((Ak.b1++Ak.b2).map λz=>decide (z∈ρ.map (·.1))).all id))=true:=zz;rw[ea]at zz;cases zz
        ·exact⟨Y,s4,λ_=>⟨O,K8.mpr ⟨Y,λx hx=>ca x (Yr.mpr (.inl hx))⟩,K8.mpr ⟨le.symm,λx hx=>ca x (Yr.mpr (.inr hx))⟩⟩⟩
       ·have ea:(((Ak.b1++Ak.b2).map λz=>decide (z∈ρ.map (·.1))).all id)=false:=by
         cases hh:(((Ak.b1++Ak.b2).map λz=>decide (z∈ρ.map (·.1))).all id)with
         | false=>rfl
         | true =>
          rw[List.all_map,Cd]at hh;exact absurd (λx hx=>Je (hh x hx)) ca
        refine BY (λ_=>bad s4 λy=>ca λx hx=>(Yr.mp hx).elim ((K8.mp y.2.1).2 x) ((K8.mp y.2.2).2 x)) (λzz=>?_);exact absurd (show(!(((Ak.b1++Ak.b2).map λz=>decide (z∈ρ.map (·.1))).all id))=true by rw[ea];rfl) zz
    ·have e0:(!decide (V.int ((↑(Ak.b1.map V.str):Nat):Int)=V.int ((↑(Ak.b2.map V.str):Nat):Int)))=true:=by
      rw[gG,gF,Jc (λz=>le (by injection z with z;omega))];rfl
     rw[e0];exact Az (bad s2 λy=>le (K8.mp y.2.2).1.symm)
   ·rw[Jc h1];exact Af ⟨Y,s2,λz=>absurd (by omega) h1⟩
  rintro σ' H3 ⟨rfl,s3,c3⟩;refine⟨λσ' H'=>σ'=σ0/\AA H H'/\(wh=7->Gr ρ Ak.ks),?_,?_⟩
  ·refine⟨Z,Y,Z,?_⟩;rw[wi];by_cases h1:(wh:Int)=7
   ·have w7:wh=7:=by omega
    rw[Jb h1];have a3:=at_.up s3;have Cs:=s3 _ _ hw;have bad:∀ {H':Hp},AA H H'->¬ Gr ρ Ak.ks->Q (.int 12) H':=λ{H'} s z=>q 12 H' s (by rw[w7];exact .wgt z);refine Az ⟨Z,lk,Z,.inl (AD.of a3.hk),Z,lw,Z,.inl (AD.of Cs),Y,Z,?_⟩;by_cases c:↑Ak.ks=↑ρ
    ·have e0:(!decide (V.int ((↑(Ak.ks.map V.int):Nat):Int)=V.int ((↑((ρ.map (·.1)).map V.str):Nat):Int)))=false:=by rw[Ya,Ya,Ya,c];simp
     rw[e0];refine Af ⟨Z,Q,λl1 Aa=>?_⟩;have BK:AA H3 (upd H3 l1 (.lst [.int 0])):=AO Aa;have h4:(upd H3 l1 (.lst [.int 0])) l1≈(.lst [.int 0]):=uS;generalize upd H3 l1 (.lst [.int 0])=H4 at BK h4;refine⟨lk,l1,_,Z,Y,BK _ _ a3.hk,h4,sL (by have:=ok.kl;rw[Ya];show _ + 1<=100000;omega),λl2 Ap=>?_⟩;have Bu:AA H4 (upd H4 l2 (.lst (Ak.ks.map V.int++[.int 0]))):=AO Ap;have h5:(upd H4 l2 (.lst (Ak.ks.map V.int++[.int 0]))) l2≈(.lst ((Ak.ks++[0]).map V.int)):=by rw[uS,Yy];rfl
     generalize upd H4 l2 (.lst (Ak.ks.map V.int++[.int 0]))=H5 at Bu h5;have s5:=s3.trans (BK.trans Bu);refine⟨l2,Z,AD.of h5,by rw[Yu];show 0<_ + 1;omega,λmm hm hle=>⟨_,Z,Y,Z,BY (λz=>?_) (λz=>?_)⟩⟩
     ·have z:mm<0:=Je z;refine bad s5 λy=>?_
      rcases Yr.mp hm with hm | hm
      ·have:=y.2 mm hm;omega
      ·rw[Ym.mp hm]at z;omega
     ·have z:¬ mm<0:=λy=>z (Jb y);exact⟨Y,s5,λ_=>⟨c,λx hx=>by have:=hle x (Yr.mpr (.inl hx));omega⟩⟩
    ·have e0:(!decide (V.int ((↑(Ak.ks.map V.int):Nat):Int)=V.int ((↑((ρ.map (·.1)).map V.str):Nat):Int)))=true:=by
      rw[Ya,Ya,Ya,Jc (λz=>c (by injection z with z;omega))];rfl
     rw[e0];exact Az (bad s3 λy=>c y.1)
   ·rw[Jc h1];exact Af ⟨Y,s3,λz=>absurd (by omega) h1⟩
  rintro σ' H4 ⟨rfl,s4,c4⟩;refine⟨Z,Z,?_⟩;by_cases z:512<↑ρ ^ n
  ·rw[Jb z];exact Az (q 7 H4 s4 (.many VE c1 c2 c3 c4 z))
  ·rw[Jc z];exact Af ⟨Z,q (-1) H4 s4 (.fine VE c1 c2 c3 c4 (by omega))⟩
abbrev JS(a b:Sp):Sp:=λvs H Q E=>a vs H Q E\/b vs H Q E
structure Ycd(Ds:Nat->χ)(E:XK)(H:Hp)(ρ:RS)(A:Fy)(d:Int):Prop where
 kind:d=0->∀ z,R_ ρ A.one A.oth z->Sk Ds E H z
 plain:∀ i:Nat,0<i->d=(i:Int)->ET Ds E H i
structure ng(C B:χ)(H:Hp)(b k t lb lk t1 t2:χ)(ρ:RS)(n:Nat)(ds:ζ)(A:Fy)(wh:Nat)(d:Int):Prop where
 VE:wh<8
 bd:A5 C B H b k ρ n ds
 g:Ah ρ
 gd:CG ρ n ds
 n1:1<=n
 n4:n<=4
 at_:Po H t lb lk t1 t2 A
 ok:cE A
 due:Hn ρ n A wh d
def nF(C B:χ)(Ds:Nat->χ):Sp:=λvs H Q E=>∃(wh:Nat) (b k t lb lk t1 t2:χ) (ρ:RS) (n:Nat) (ds:ζ) (A:Fy) (d:Int),vs=[.int (wh:Int),.ref b,.ref t]/\ng C B H b k t lb lk t1 t2 ρ n ds A wh d/\(d=-1->∀ H',AA H H'->Q .non H')/\Ycd Ds E H ρ A d
def tf{ρ:RS}{n:Nat}{A:Fy}{wh:Nat}{d:Int}(h:Hn ρ n A wh d):(d=-1/\↑ρ ^ n<=512/\(wh<2->C9 A.pl n)/\(wh=1->A.one∈ρ.map (·.1)/\A.oth∈ρ.map (·.1))/\(wh=6->FD ρ n A.b1 A.b2)/\(wh=7->Gr ρ A.ks)) \/
  (d=7/\512<↑ρ ^ n/\(wh<2->C9 A.pl n)/\(wh=1->A.one∈ρ.map (·.1)/\A.oth∈ρ.map (·.1))/\(wh=6->FD ρ n A.b1 A.b2)/\(wh=7->Gr ρ A.ks)) \/
  (d=11/\wh<2/\¬ C9 A.pl n)\/(d=0/\wh=1/\C9 A.pl n/\∃ z,R_ ρ A.one A.oth z)\/(d=9/\wh=6/\¬ FD ρ n A.b1 A.b2)\/(d=12/\wh=7/\¬ Gr ρ A.ks):=by
 cases h with
 | place a b=>exact .inr (.inr (.inl ⟨Y,a,b⟩))
 | kind a b =>
  refine .inr (.inr (.inr (.inl ⟨Y,Y,a,?_⟩)));by_cases m:A.one∈ρ.map (·.1)
  ·exact⟨A.oth,.inr ⟨m,b.elim (λz=>absurd m z) id,Y⟩⟩
  ·exact⟨A.one,.inl ⟨m,Y⟩⟩
 | beg a=>exact .inr (.inr (.inr (.inr (.inl ⟨Y,Y,a⟩))))
 | wgt a=>exact .inr (.inr (.inr (.inr (.inr ⟨Y,Y,a⟩))))
 | many a b c d e z=>exact .inr (.inl ⟨Y,z,b,c,d,e⟩)
 | fine a b c d e z=>exact .inl ⟨Y,z,b,c,d,e⟩
def jt{ks:τ}(h:∀ x∈ks,-100<=x/\x<=100)(h0:∀ x∈ks,0<=x):Qe ks:=λv hv=>by
 refine⟨h0 v hv,?_⟩;obtain⟨k,rfl⟩:=QY (h0 v hv);have hk:=(h _ hv).2;have:∀ k:_root_.Fin 101,Builtin.Int.intBits ((k.val:Nat):Int)<=200:=by rfl'
 exact this ⟨k,O⟩
abbrev Qs:LS:=["which","board","asks"]
abbrev p_:LS:=["which","board","asks","place","one","other","begins","weights"]
def lW:Ad p_ Qs (AL Wn):=by nofun
set_option maxHeartbeats 8000000 in
def y8{Ds:Nat->χ}(F:Def K mg "_law_ask" Wn Qs f fd)
  (D0:Def K mg "classes" Rx ["board","place"] f0 d0) (G0:AN P w K mg base (AZ P w) 10 f0 d0 ["board","place"] (JS (mR C B) (nJ C B Ds)))
  (D1:Def K mg "parting_call" R4 ["board","place","one","other"] f1 d1) (G1:AN P w K mg base (AZ P w) 10 f1 d1 ["board","place","one","other"] (JS (nL C B) (iD C B Ds)))
  (D2:Def K mg "table" P1 ["board"] f2 d2) (G2:AN P w K mg base (AZ P w) 10 f2 d2 ["board"] (JS (iE C B) (Ge C B Ds)))
  (D3:Def K mg "is_table" Rz ["board","table"] f3 d3) (G3:AN P w K mg base (AZ P w) 10 f3 d3 ["board","table"] (JS (XY C B) (WH C B Ds)))
  (D4:Def K mg "walker" K7 ["board"] f4 d4) (G4:AN P w K mg base (AZ P w) 10 f4 d4 ["board"] (JS (iz C B) (Ge C B Ds)))
  (D5:Def K mg "is_walker" R3 ["board","walker"] f5 d5) (G5:AN P w K mg base (AZ P w) 10 f5 d5 ["board","walker"] (JS (XY C B) (WH C B Ds)))
  (D6:Def K mg "parting_rest" R5 ["board","one","other"] f6 d6) (G6:AN P w K mg base (AZ P w) 10 f6 d6 ["board","one","other"] (JS (ZP C B) (Zf C B Ds)))
  (D7:Def K mg "shares" Rq ["board","weights"] f7 d7) (G7:AN P w K mg base (AZ P w) 10 f7 d7 ["board","weights"] (JS (ix K C B) (je C B Ds))):AN P w K mg base (AZ P w) 11 f fd Qs (nF C B Ds):=by
 nomatch F.fn.ok1 lW
 ·obtain⟨wh,b,k,t,lb,lk,t1,t2,ρ,n,ds,Ak,d,rfl,_⟩:=h;rfl
 ·obtain⟨wh,b,k,t,lb,lk,t1,t2,ρ,n,ds,Ak,d,rfl,ap,q,re⟩:=h;obtain⟨VE,bd,g,gd,n1,n4,at_,ok,due⟩:=ap;have nd:=lW.nd
  ac_nf
  refine'⟨_,pS (Px (pv 2) (Hw rfl (gC (gE 3 nd) (gC (gE 4 nd) (gC (gE 5 nd) (gC (gE 6 nd) (gC (gE 7 nd) H_)))))))
   (AG (Ac (Ax Bw (pv 0) AI (Ao _)) (AG (A7 (Cb Ag.of D0 G0 hr (pC (pv 1) (pC (pv 3) AB)))))
   (AG (Ac (Ax Bw (pv 0) AI (Ao _)) (AG (A7 (Cb Ag.of D1 G1 hr (pC (pv 1) (pC (pv 3) (pC (pv 4) (pC (pv 5) AB)))))))
   (AG (Ac (Ax Bw (pv 0) AI (Ao _)) (AG (A7 (Cb Ag.of D2 G2 hr (pC (pv 1) AB))))
   (AG (Ac (Ax Bw (pv 0) AI (Ao _)) (AG (A7 (Cb Ag.of D3 G3 hr (pC (pv 1) (pC (C2 (pC (C1 AB) (pC K6 AB))) AB)))))
   (AG (Ac (Ax Bw (pv 0) AI (Ao _)) (AG (A7 (Cb Ag.of D4 G4 hr (pC (pv 1) AB))))
   (AG (Ac (Ax Bw (pv 0) AI (Ao _)) (AG (A7 (Cb Ag.of D5 G5 hr (pC (pv 1) (pC (C2 (pC (C1 AB) (pC (C1 AB) AB))) AB)))))
   (AG (Ac (Ax Bw (pv 0) AI (Ao _)) (AG (A7 (Cb Ag.of D6 G6 hr (pC (pv 1) (pC (A9 (r:=Cz K) Bi (pv 6) AI (λ_ _=>rfl)) (pC (A9 (r:=Cz K) Bi (pv 6) AI (λ_ _=>rfl)) AB))))))
   (AG (A7 (Cb Ag.of D7 G7 hr (pC (pv 1) (pC (pv 7) AB))))))))))))))))))),?_⟩
  exists let b:=_;let c:=_;let e:=_;let f:=_;let g:=_;let h:=Bp _ f g;let i:=Bp _ e h;let j:=Bp _ _ i;let k:=Bp _ c j;let l:=Bp _ _ k;let m:=Bp _ b l;let n:=Bp _ a m;AF _ n _ _ _
  have wi:∀ k:Int,decide (V.int (wh:Int)=V.int k)=decide ((wh:Int)=k):=λk=>Qc.mpr ⟨λz=>by injection z,λz=>by rw[z]⟩;have wt:∀ {k:Int},(wh:Int)=k->decide (V.int (wh:Int)=V.int k)=true:=λ{k} h=>by rw[wi];exact Jb h
  have wf:∀ {k:Int},(wh:Int)≠k->decide (V.int (wh:Int)=V.int k)=false:=λ{k} h=>by rw[wi];exact Jc h
  refine⟨Z,t,Z,AJ.of at_.ht,Y,_,Z,_,Z,_,Z,_,Z,_,Z,Y,?_⟩;have dc:=tf due;have fin:d=-1->∀ H',AA H H'->Q .non H':=q;have e7:d=7->ET Ds E H 7:=λz=>re.plain 7 (by decide) z;refine⟨Z,Y,Z,?_⟩;by_cases w0:(wh:Int)=0
  ·rw[wt w0];refine Az ⟨Z,Z,?_⟩
   rcases dc with⟨a,b1,c,_⟩ | ⟨a,b1,c,_⟩ | ⟨a,b1,c⟩ | ⟨a,b1,_⟩ | ⟨a,b1,_⟩ | ⟨a,b1,_⟩
   ·have c:=c (by omega);obtain⟨j,hj⟩:=QY c.1;have c2:=c.2;exact .inl ⟨b,k,ρ,n,j,ds,by rw[<- hj];rfl,bd,g,gd,n4,b1,O,λD H' _ s' _=>fin a H' s'⟩
   ·exact .inr ⟨b,k,U,Ak.pl,Y,bd,g,ok.pl,n4,.inr ⟨c (by omega),b1,e7 a⟩⟩
   ·exact .inr ⟨b,k,U,Ak.pl,Y,bd,g,ok.pl,n4,.inl ⟨c,re.plain 11 (by decide) a⟩⟩
   ·omega
   ·omega
   ·omega
  rw[wf w0];refine Af ⟨Z,Y,Z,?_⟩;by_cases w1:(wh:Int)=1
  ·rw[wt w1];refine Az ⟨Z,Z,Z,Z,?_⟩
   rcases dc with⟨a,b1,c,c2,_⟩ | ⟨a,b1,c,c2,_⟩ | ⟨a,b1,c⟩ | ⟨a,b1,c,z,hz⟩ | ⟨a,b1,_⟩ | ⟨a,b1,_⟩
   ·have c:=c (by omega);obtain⟨j,hj⟩:=QY c.1;have c3:=c.2;have c2:=c2 (by omega);exact .inl ⟨b,k,ρ,n,j,ds,Ak.one,Ak.oth,by rw[<- hj];rfl,bd,g,gd,n4,b1,O,c2.1,c2.2,λv H' s' _=>fin a H' s'⟩
   ·have c2:=c2 (by omega);exact .inr ⟨b,k,U,Ak.pl,Ak.one,Ak.oth,Y,bd,g,ok.pl,n4,ok.one.sh,ok.oth.sh,.inr (.inr ⟨c (by omega),c2.1,c2.2,b1,e7 a⟩)⟩
   ·exact .inr ⟨b,k,U,Ak.pl,Ak.one,Ak.oth,Y,bd,g,ok.pl,n4,ok.one.sh,ok.oth.sh,.inl ⟨c,re.plain 11 (by decide) a⟩⟩
   ·exact .inr ⟨b,k,U,Ak.pl,Ak.one,Ak.oth,Y,bd,g,ok.pl,n4,ok.one.sh,ok.oth.sh,.inr (.inl ⟨c,z,hz,re.kind a z hz⟩)⟩
   ·omega
   ·omega
  rw[wf w1];refine Af ⟨Z,Y,Z,?_⟩;have big:(d=-1/\↑ρ ^ n<=512)\/(d=7/\512<↑ρ ^ n)\/wh=6\/wh=7:=by
   rcases dc with⟨a,b1,_⟩ | ⟨a,b1,_⟩ | ⟨a,b1,c⟩ | ⟨a,b1,_⟩ | ⟨a,b1,_⟩ | ⟨a,b1,_⟩
   ·exact .inl ⟨a,b1⟩
   ·exact .inr (.inl ⟨a,b1⟩)
   ·omega
   ·omega
   ·exact .inr (.inr (.inl b1))
   ·exact .inr (.inr (.inr b1))
  by_cases w2:(wh:Int)=2
  ·rw[wt w2];refine Az ⟨Z,?_⟩
   rcases big with⟨a,b1⟩ | ⟨a,b1⟩ | z | z
   ·exact .inl ⟨b,k,U,Y,bd,g,gd,n4,b1,λT lm dc ms cs H' s' _ _=>fin a H' s'⟩
   ·exact .inr ⟨b,k,U,Y,bd,g,n4,b1,e7 a⟩
   ·omega
   ·omega
  rw[wf w2];refine Af ⟨Z,Y,Z,?_⟩;by_cases w3:(wh:Int)=3
  ·rw[wt w3];refine Az ⟨Z,Bm _,λl1 Aa=>?_⟩;have s1:AA H (upd H l1 (.lst [])):=AO Aa;have h1:(upd H l1 (.lst [])) l1≈(.lst []):=uS;generalize upd H l1 (.lst [])=H1 at s1 h1;intro dd hdd;have s2:AA H1 (upd H1 dd (.dT [])):=AO hdd;generalize upd H1 dd (.dT [])=H2 at s2;refine⟨J,λtt htt=>?_⟩;have s3:AA H2 (upd H2 tt (.tup [.ref l1,.ref dd])):=AO htt;have h3:(upd H2 tt (.tup [.ref l1,.ref dd])) tt≈(.tup [.ref l1,.ref dd]):=uS;generalize upd H2 tt (.tup [.ref l1,.ref dd])=H3 at s3 h3;have Ia:=s1.trans (s2.trans s3)
   rcases big with⟨a,b1⟩ | ⟨a,b1⟩ | z | z
   ·exact .inl ⟨b,k,tt,l1,dd,U,Y,bd.mono Ia,g,gd,n4,n1,b1,h3,(s2.trans s3) _ _ h1,λH' s'=>fin a H' (Ia.trans s')⟩
   ·exact .inr ⟨b,k,U,Z,bd.mono Ia,g,n4,b1,(e7 a).up Ia⟩
   ·omega
   ·omega
  rw[wf w3];refine Af ⟨Z,Y,Z,?_⟩;by_cases w4:(wh:Int)=4
  ·rw[wt w4];refine Az ⟨Z,?_⟩
   rcases big with⟨a,b1⟩ | ⟨a,b1⟩ | z | z
   ·refine .inl ⟨b,k,U,Y,bd,g,gd,n4,b1,?_⟩
    intros
    exact fin a _ (by assumption)
   ·exact .inr ⟨b,k,U,Y,bd,g,n4,b1,e7 a⟩
   ·omega
   ·omega
  rw[wf w4];refine Af ⟨Z,Y,Z,?_⟩;by_cases w5:(wh:Int)=5
  ·rw[wt w5];refine Az ⟨Z,Bm _,λl1 Aa=>?_⟩;have s1:AA H (upd H l1 (.lst [])):=AO Aa;have h1:(upd H l1 (.lst [])) l1≈(.lst []):=uS;generalize upd H l1 (.lst [])=H1 at s1 h1;refine⟨Bm _,λdd hdd=>?_⟩;have s2:AA H1 (upd H1 dd (.lst [])):=AO hdd;generalize upd H1 dd (.lst [])=H2 at s2;refine⟨J,λtt htt=>?_⟩;have s3:AA H2 (upd H2 tt (.tup [.ref l1,.ref dd])):=AO htt;have h3:(upd H2 tt (.tup [.ref l1,.ref dd])) tt≈(.tup [.ref l1,.ref dd]):=uS;generalize upd H2 tt (.tup [.ref l1,.ref dd])=H3 at s3 h3;have Ia:=s1.trans (s2.trans s3)
   rcases big with⟨a,b1⟩ | ⟨a,b1⟩ | z | z
   ·exact .inl ⟨b,k,tt,l1,dd,U,Y,bd.mono Ia,g,gd,n4,n1,b1,h3,(s2.trans s3) _ _ h1,λH' s'=>fin a H' (Ia.trans s')⟩
   ·exact .inr ⟨b,k,U,Z,bd.mono Ia,g,n4,b1,(e7 a).up Ia⟩
   ·omega
   ·omega
  rw[wf w5];refine Af ⟨Z,Y,Z,?_⟩;by_cases w6:(wh:Int)=6
  ·rw[wt w6];refine Az ⟨Z,Z,lb,_,_,Z,Y,AD.of at_.hb,Y,Z,lb,_,_,Z,Y,AD.of at_.hb,Y,?_⟩;have rx:=λh=>(Or.inr ⟨b,k,t1,t2,U,Ak.b1,Ak.b2,Y,bd,g,at_.h1,at_.h2,Yq ok.l1 (by decide),Yq ok.l2 (by decide),λx hx=>(ok.b1 x hx).sh,λx hx=>(ok.b2 x hx).sh,n4,h⟩:JS (ZP C B) (Zf C B Ds) [.ref b,.ref t1,.ref t2] H (λ_ H'=>Q .non H') E)
   rcases dc with⟨a,b1,_,_,c,_⟩ | ⟨a,b1,_,_,c,_⟩ | ⟨a,b1,c⟩ | ⟨a,b1,_⟩ | ⟨a,b1,c⟩ | ⟨a,b1,_⟩
   ·have c:=c (by omega);exact .inl ⟨b,k,t1,t2,ρ,n,↑Ak.b1,ds,Ak.b1,Ak.b2,Y,bd,g,gd,at_.h1,at_.h2,ZU rfl (K8.mp c.2.1).2,ZU (K8.mp c.2.2).1 (K8.mp c.2.2).2,c.1,n4,b1,λv H' s' _=>fin a H' s'⟩
   ·exact rx (.inr ⟨c (by omega),b1,e7 a⟩)
   ·omega
   ·omega
   ·exact rx (.inl ⟨c,re.plain 9 (by decide) a⟩)
   ·omega
  rw[wf w6];have w7:wh=7:=by omega
  refine Af ⟨Z,Z,?_⟩
  rcases dc with⟨a,b1,_,_,_,c⟩ | ⟨a,b1,_,_,_,c⟩ | ⟨a,b1,c⟩ | ⟨a,b1,_⟩ | ⟨a,b1,c⟩ | ⟨a,b1,c⟩
  ·have c:=c w7;exact .inl ⟨b,k,lk,true,U,Ak.ks,Y,bd,g,gd,n4,b1,AD.of at_.hk,c.1,jt ok.ks c.2,λlr vs H' _ s' _ _=>fin a H' s'⟩
  ·have c:=c w7;exact .inr ⟨b,k,lk,U,Ak.ks,Y,bd,g,n4,at_.hk,Yq ok.kl (by decide),.inr ⟨c,jt ok.ks c.2,b1,e7 a⟩⟩
  ·omega
  ·omega
  ·omega
  ·exact .inr ⟨b,k,lk,U,Ak.ks,Y,bd,g,n4,at_.hk,Yq ok.kl (by decide),.inl ⟨c,re.plain 12 (by decide) a⟩⟩
def iB:Sp:=λvs H Q _=>∃(p lw:χ) (ws:LS) (n:Nat),vs=[.ref p,.ref lw,.int (n:Int)]/\(∃ o,H p≈o/\EH o)/\H lw≈(.lst (ws.map V.str))/\Xq ws/\lw≠p/\1<=n/\n<=4/\∀(t lb lk t1 t2:χ) (A:Fy) (H':Hp),Drawn p H H'->Po H' t lb lk t1 t2 A->cE A->Q (.ref t) H'
def yA:(["word","pot"]:LS).Nodup:=by rfl'
structure yG(mg:Str->OU):Prop where
 len:mg "len"=none
 range:mg "range"=none
 tuple:mg "tuple"=none
def Dy{p:χ}{H H':Hp}(d:Drawn p H H')(hp:∃ o,H p≈o/\EH o){t:χ}{xs:LV}(e:H t≈(.tup xs)):H' t≈(.tup xs):=by
 obtain⟨o,h,po⟩:=hp;exact Drawn.tup d h po e
def gT{p:χ}{H H':Hp}(d:Drawn p H H'){D:χ}(h:H' D=none):H D=none/\D≠p:=by
 have z:D≠p:=λz=>by obtain⟨o',h',_⟩:=d.pot;rw[z,h']at h;cases h
 refine⟨?_,z⟩;cases e:H D with
 | none=>rfl
 | some u=>rw[d.keep _ _ z e]at h;cases h
def mZ{p q:χ}{H H':Hp}{o:HO}(d:Drawn p H H')(hq:H q=none)(hqp:q≠p):Drawn p H (upd H' q o):=d.sub (o':=o) (q:=q) (λb u hb e=>by rw[AE hb];exact e) hq (Ae hqp)
def tU{p:χ}{ws:LS}{js:LN}{te:TE}{σ:St}{Q:VK}{H1:Hp}{tl:St}{K:Fg}{lw:χ}(hp:∃ o,H1 p≈o/\EH o)(hw:H1 lw≈(.lst (ws.map V.str)))(lwp:lw≠p)(hn:↑ws<=1000)(hσ:IY 1 js σ=none :: tl)
  (he:∀(v:V) (H':Hp) (R:VK),Drawn p H1 H'->(∀(x:Int) DY,Drawn p H' DY->0<=x->x<5->R (.int x) DY)->te (↥v :: tl) H' R)
  (hd:∀(D:χ) (xs:τ) (H':Hp),H1 D=none->Drawn p H1 H'->H' D≈(.lst (xs.map V.int))->↑xs=↑ws->(∀ x∈xs,0<=x/\x<5)->Q (.ref D) H'):AU 1 js (EI 0) RQ te σ Q (Sn K lw) H1:=by
 obtain⟨o0,Kc,YN⟩:=hp;let A8:χ->Nat->LV->St->Hp->Prop:=λD i ys σ' H'=>Drawn p H1 H'/\H' D≈(.lst ys)/\∃(xs:τ) (o:OV),ys=xs.map V.int/\↑xs=i/\(∀ x∈xs,0<=x/\x<5)/\σ'=o :: tl;refine WX (DV (xs:=ws.map V.str)) (sL (by rw[Ya];omega)) A8
  (λD hD=>⟨(Drawn.refl ⟨o0,Kc,YN⟩).new hD,uS,[],none,Y,Y,(λx h=>nomatch h),hσ⟩) (λD i ys σ' H' _ h0=>by obtain⟨d,_,xs,_,e,el,_⟩:=h0;exact⟨AD.of (d.keep _ _ lwp hw),by rw[e,Ya];omega⟩) ?_ ?_
 ·rintro D i v ys σ' H' hD hi ⟨d,hl,xs,o,rfl,rfl,hb,rfl⟩;have pD:p≠D:=AS Kc hD;refine he v H' _ d λx DY d2 x0 x5=>⟨d2.keep _ _ (Ae pD) hl,(d.trans d2).sub (o':=.lst []) (q:=D) (λb o hb e=>by rw[AE hb];exact e) hD pD,uS,xs++[x],↥v,by rw[Yy];rfl,by simp,λy hy=>?_,Y⟩
  rcases Yr.mp hy with z | z
  ·exact hb y z
  ·rw[Ym.mp z];exact⟨x0,x5⟩
 ·rintro D ys σ' H' hD ⟨d,hl,xs,o,rfl,hx,hb,rfl⟩;rw[Ya]at hx;exact hd D xs H' hD d hl hx hb
structure IS(p lb:χ)(H H':Hp)(us:LV):Prop where
 d:Drawn p H H'
 hb:H' lb≈(.lst us)
 lbp:lb≠p
 lbH:H lb=none
def IS.draw{p lb:χ}{H H' H2:Hp}{us:LV}(b:IS p lb H H' us)(k:Drawn p H' H2):IS p lb H H2 us:=⟨b.d.trans k,k.keep _ _ b.lbp b.hb,b.lbp,b.lbH⟩
def yq{n:Nat}{fr:Int}{j:Int}(h0:0<=j)(h6:j<6)(n4:n<=4)(f1:0<=fr)(f2:fr<100):∃ v:Int,Ej [V.int (-1),V.int (n:Int),V.int fr,V.int (10 ^ (59:Int).toNat),V.int (-(10 ^ (59:Int).toNat)),V.int (-(n:Int))] j≈(.int v)/\v.natAbs<2 ^ 200:=by
 have big:∀ m:Nat,m<1000->m<2 ^ 200:=λm hm=>IP hm (by decide);have:j=0\/j=1\/j=2\/j=3\/j=4\/j=5:=by omega
 rcases this with rfl | rfl | rfl | rfl | rfl | rfl
 ·exact⟨Z,big _ (by decide)⟩
 ·exact⟨Z,big _ (by omega)⟩
 ·exact⟨Z,big _ (by omega)⟩
 ·exact⟨Z,by rfl'⟩
 ·exact⟨Z,by rfl'⟩
 ·exact⟨Z,big _ (by omega)⟩
def q_{n j:Nat}(h:j<n):Ig n (j:Int)≈j:=by
 unfold Ig;rw[if_pos (Int.natCast_nonneg j),if_pos (Int.ofNat_lt.mpr h),B0]
abbrev Qt:LS:=["pot","words","places"]
abbrev VW:LS:=["pot","words","places","place","far","many","begins","weights","way"]
def lV:Ad VW Qt (AL M3):=by nofun
set_option maxHeartbeats 16000000 in
def Z24(F:Def K mg "_law_asks" M3 Qt f fd)(T:yG mg)(DT:Def K mg "_law_take" QE ["pot","many"] fT fdT)(GT:⋯ 1 fT fdT ["pot","many"] V7)(DW:Def K mg "_law_wrong" Wr ["pot","words"] fW fdW)(GW:⋯ 2 fW fdW ["pot","words"] Zh):⋯ 3 f fd Qt iB:=by
 nomatch F.fn.ok lV
 ·obtain⟨p,lw,ws,n,rfl,_⟩:=h;rfl
 ·obtain⟨p,lw,ws,n,rfl,⟨o,hp,ho⟩,hw,BS,lwp,n1,n4,q⟩:=h;have nd:=lV.nd;have AM:AX 1 _:=hr.mono (by decide);have wl:=BS.2.2;have wpos:0<↑ws:=by obtain⟨⟨w0,AQ,rfl,_⟩,_⟩:=BS;simp
  ac_nf
  refine'⟨_,(pS (sE 3 nd (AY DT GT AM (pC (pv 0) (pC (pv 2) AB))))
   (IA (Ac (Ax Bw (AY DT GT AM (pC (pv 0) (pC AI AB))) AI (Ao _))
    (pS (sE 4 nd (Al Iy (pv 2) (AY DT GT AM (pC (pv 0) (pC AI AB)))))
   (AG (sE 3 nd (A9 (r:=LJ K) Mn (C2 (pC (RP Ra AI) (pC (pv 2) (pC (pv 4) (pC (Al Mi AI AI) (pC (RP Ra (Al Mi AI AI)) (pC (RP Ra (pv 2)) AB))))))) (AY DT GT AM (pC (pv 0) (pC AI AB))) (λ_ _=>rfl))))) Aj)
   (pS (sE 5 nd (AY DT GT AM (pC (pv 0) (pC (Al Iy (pv 2) AI) AB))))
   (pS (sE 6 nd (C1 (pC (FI LG (by rfl) T.tuple LZ (pC ?e1 AB)) AB)))
   (IA (Ac (Ax Bw (AY DT GT AM (pC (pv 0) (pC AI AB))) AI (Ao _)) (AG (sE 5 nd (AY DT GT AM (pC (pv 0) (pC (Al Iy (pv 2) AI) AB))))) Aj)
   (pS (A7 (Iw Gq Sb Sa QB (pv 6) (pC (FI LG (by rfl) T.tuple LZ (pC ?e2 AB)) AB)))
   (pS ?e3
   (pS (sE 8 nd (AY DT GT AM (pC (pv 0) (pC AI AB))))
   (IA (Ac (Ax Bw (pv 8) AI (Ao _)) (AG (A7 (mw Gq PySem.F.slot_list_pop PySem.F.type_list_pop nQ (pv 7))))
    (AG (Ac (Ax Bw (pv 8) AI (Ao _)) (AG (A7 (Iw Gq Sb Sa QB (pv 7) (pC AI AB))))
    (AG (Ac (Ax Bw (pv 8) AI (Ao _)) (AG (Px (Al mr (RP Ra AI) (AY DT GT AM (pC (pv 0) (pC AI AB)))) (ZI (pv 7) (AY DT GT AM (pC (pv 0) (pC (Ai B_ (by rfl) T.len Yx (pC (pv 1) AB)) AB))) Z4))) Aj)))))
   (AG (Ab (C2 (pC (pv 3) (pC (AY DW GW hr (pC (pv 0) (pC (pv 1) AB))) (pC (AY DW GW hr (pC (pv 0) (pC (pv 1) AB))) (pC (pv 6) (pC (pv 7) AB))))))))))))))))),?_⟩
  case e1=>exact(Cm ["k"] ["pot","words"] [0,1] (λ_=>Bs (osc:=AL M3) (on:=VW) (by rfl') rfl rfl rfl) (Gj (by rfl) T.range (pC (pv 5) AB)) (λC s H fp=>Bl (i:=0) nT rfl (Or.inl rfl) (Or.inr rfl)) (λC s H fp=>CU) (λC s H fp=>AY DW GW hr (pC (pv 1) (pC (pv 2) AB))))
  case e2=>exact(Cm ["k"] ["pot","words"] [0,1] (λ_=>Bs (osc:=AL M3) (on:=VW) (by rfl') rfl rfl rfl) (Gj (by rfl) T.range (pC (pv 5) AB)) (λC s H fp=>Bl (i:=0) nT rfl (Or.inl rfl) (Or.inr rfl)) (λC s H fp=>CU) (λC s H fp=>AY DW GW hr (pC (pv 1) (pC (pv 2) AB))))
  case e3=>exact(QF (k:=7) ["word"] ["pot"] [0] nd rfl rfl (λ_=>Bs (osc:=AL M3) (on:=VW) (by rfl') rfl rfl rfl) (CT (pv 1)) (λC s H fp=>Bl (i:=0) yA rfl (Or.inl rfl) (Or.inr rfl)) (λC s H fp=>CU) (λC s H fp=>AY DT GT AM (pC (pv 1) (pC AI AB))))
  exists let b:=_;let c:=_;let e:=_;let f:=Bp _ e _;let g:=Bp _ c f;let h:=GQ (Bp _ b g) a;let i:=AF _ h;let j:=AF _ i;let k:=AF _ j;let l:=_;let m:=GQ (Bp _ l _) k;let n:=AF _ m;let o:=AF _ n;let p:=_;let q:=AF _ p;let r:=GQ (Bp _ q _) o;AF _ r _ _ _
  have bigT:∀ m:Int,m<1000->m<10000000000000000000000000000000000000000000000000000000000000:=λm hm=>Int.lt_trans hm (by decide);refine⟨Z,Z,p,n,o,Y,hp,ho,O,bigT _ (by omega),λa0 o1 a1 a2 Kd=>?_⟩;have d1:Drawn p H (upd H p o1):=Drawn.upd Kd;generalize upd H p o1=H1 at d1;let FL:SW:=λσ' H'=>∃(pl:Int) (x4:OV),σ'=[↥(.ref p),↥(.ref lw),↥(.int (n:Int)),↥(.int pl),x4,none,none,none,none]/\Drawn p H H'/\pl.natAbs<2 ^ 200;refine⟨FL,?_,?_⟩
  ·obtain⟨pY,Dm,cY⟩:=d1.pot;refine⟨Z,p,3,pY,Y,Dm,cY,W,W,λb0 o2 b1 b2 FW=>⟨Y,Z,BY (λ_=>?_) (λ_=>⟨a0,none,Y,d1.trans (Drawn.upd FW),IP (show a0.natAbs<5 by omega) (by decide)⟩)⟩⟩;have d2:=d1.trans (Drawn.upd (p:=p) (H:=H1) FW);generalize upd H1 p o2=H2 at d2;obtain⟨pX,FA,cW⟩:=d2.pot;refine⟨Z,Z,p,9,pX,Y,FA,cW,W,W,λc0 o3 c1 c2 MN=>⟨_,Z,Y,?_⟩⟩;have d3:=d2.trans (Drawn.upd (p:=p) (H:=H2) MN);generalize upd H2 p o3=H3 at d3;refine⟨Z,Z,Z,_,Z,Y,⟨W,W,W⟩,_,Z,Y,⟨W,W,W⟩,Z,Z,Z,sL (by show 6<=100000;decide),λtt htt=>?_⟩;have eY:(upd H3 tt (.tup [.int (-1),.int (n:Int),.int ((n:Int) + c0),.int (10 ^ (59:Int).toNat),.int (-(10 ^ (59:Int).toNat)),.int (-(n:Int))])) tt≈(.tup [.int (-1),.int (n:Int),.int ((n:Int) + c0),.int (10 ^ (59:Int).toNat),.int (-(10 ^ (59:Int).toNat)),.int (-(n:Int))]):=uS;have d4:Drawn p H (upd H3 tt (.tup [.int (-1),.int (n:Int),.int ((n:Int) + c0),.int (10 ^ (59:Int).toNat),.int (-(10 ^ (59:Int).toNat)),.int (-(n:Int))])):=d3.new htt;generalize upd H3 tt (.tup [.int (-1),.int (n:Int),.int ((n:Int) + c0),.int (10 ^ (59:Int).toNat),.int (-(10 ^ (59:Int).toNat)),.int (-(n:Int))])=H4 at d4 eY;obtain⟨o4,Vb,e_⟩:=d4.pot;refine⟨Z,p,6,o4,Y,Vb,e_,W,W,λj0 o5 j1 j2 qR=>?_⟩;have k5:Drawn p H4 (upd H4 p o5):=Drawn.upd qR;obtain⟨v,hv,hvb⟩:=yq (n:=n) (fr:=(n:Int) + c0) j1 j2 n4 (by omega) (by omega);exact⟨tt,_,_,Z,Y,AJ.of (Dy k5 ⟨o4,Vb,e_⟩ eY),hv,v,Z,d4.trans k5,hvb⟩
  rintro σ' H2 ⟨pl,x4,rfl,d2,plb⟩;obtain⟨o2,FA,FW⟩:=d2.pot;refine⟨Z,Z,_,Z,Y,p,_,o2,Y,FA,FW,by show(0:Int)<(n:Int) + 1;omega,bigT _ (by show(n:Int) + 1<1000;omega),λm0 o3 m1 m2 MN=>?_⟩;have m2:m0<(n:Int) + 1:=m2;obtain⟨m,rfl⟩:=QY m1;have d3:=d2.trans (Drawn.upd (p:=p) (H:=H2) MN);generalize upd H2 p o3=H3 at d3;have wr:∀ {H0:Hp},Drawn p H H0->∀(v:V) (H':Hp) (R:VK),Drawn p H0 H'->(∀ x DY,Drawn p H' DY->FK x->R (.str x) DY)->(Vu Zh [] E0 (Kp (Cy 1) (Kp (Cy 2) LL))) [↥v,↥(.ref p),↥(.ref lw)] H' R:=λ{H0} dd v H' R d hR =>
   ⟨Z,Z,p,lw,ws,Y,d.pot,d.keep _ _ lwp (dd.keep _ _ lwp hw),BS,lwp,hR⟩
  refine⟨Z,(m:Int),Y,O,O,?_⟩;rw[B0];refine Zi (B:=FK) d3.pot (by omega) rfl (wr d3) λD1 FR H4 YW d4 RB len1 b1=>?_;refine⟨D1,Z,.inl ⟨AD.of RB,λt1 Ct=>⟨Q,λlb hlb=>?_⟩⟩⟩;have gH:=d3.trans d4;have s5:AA H4 (upd H4 t1 (.tup (FR.map V.str))):=AO Ct;have h5:(upd H4 t1 (.tup (FR.map V.str))) t1≈(.tup (FR.map V.str)):=uS;generalize upd H4 t1 (.tup (FR.map V.str))=H5 at s5 h5 hlb;have d5:=gH.same s5;obtain⟨lbH,lbp⟩:=gT d5 hlb;have B6:IS p lb H (upd H5 lb (.lst [.ref t1])) [.ref t1]:=⟨d5.new hlb,uS,lbp,lbH⟩;have h6:(upd H5 lb (.lst [.ref t1])) t1≈(.tup (FR.map V.str)):=(AO hlb) _ _ h5;generalize upd H5 lb (.lst [.ref t1])=H6 at B6 h6;clear d5 gH s5 h5 d4 RB YW d3 FA d2 d1;let Sq:SW:=λσ' H'=>∃(m:Nat),σ'=[↥(.ref p),↥(.ref lw),↥(.int (n:Int)),↥(.int pl),x4,↥(.int (m:Int)),↥(.ref lb),none,none]/\IS p lb H H' [.ref t1]/\H' t1≈(.tup (FR.map V.str))/\m<=6;refine⟨Sq,?_,?_⟩
  ·obtain⟨o6,ee,eo⟩:=B6.d.pot;refine⟨Z,p,3,o6,Y,ee,eo,W,W,λb0 o7 b1' b2 YM=>?_⟩;have k7:Drawn p H6 (upd H6 p o7):=Drawn.upd YM;have B7:=B6.draw k7;have h7:=Dy k7 ⟨o6,ee,eo⟩ h6;generalize upd H6 p o7=H7 at k7 B7 h7;refine⟨Y,Z,BY (λ_=>?_) (λ_=>⟨m,Y,B7,h7,O⟩)⟩;obtain⟨dz,Va,Sy⟩:=B7.d.pot;refine⟨Z,Z,_,Z,Y,p,_,dz,Y,Va,Sy,by show(0:Int)<(n:Int) + 2;omega,bigT _ (by show(n:Int) + 2<1000;omega),λc0 o8 c1 c2 YL=>?_⟩;have c2:c0<(n:Int) + 2:=c2;obtain⟨c,rfl⟩:=QY c1;have k8:Drawn p H7 (upd H7 p o8):=Drawn.upd YL;exact⟨c,Y,B7.draw k8,Dy k8 ⟨dz,Va,Sy⟩ h7,O⟩
  rintro σ' H7 ⟨mm,rfl,B7,h7,mm6⟩;refine⟨Z,.inl ⟨Y,_,AD.of B7.hb⟩,Z,(mm:Int),Y,O,O,?_⟩;rw[B0];refine Zi (B:=FK) B7.d.pot (by omega) rfl (wr B7.d) λD2 Hc H8 fh d8 Vf len2 b2=>?_;refine⟨D2,Z,.inl ⟨AD.of Vf,λt2 BL=>?_⟩⟩;have B8:=B7.draw d8;have h8:=Dy d8 B7.d.pot h7;have s9:AA H8 (upd H8 t2 (.tup (Hc.map V.str))):=AO BL;have YZ:(upd H8 t2 (.tup (Hc.map V.str))) t2≈(.tup (Hc.map V.str)):=uS;have Y0:=s9 _ _ h8;have d9:=B8.d.same s9;have Vi:=s9 _ _ B8.hb;generalize upd H8 t2 (.tup (Hc.map V.str))=H9 at s9 YZ Y0 d9 Vi;refine⟨lb,_,Z,Y,Vi,C4 (by show 1<=100000;decide),?_⟩;have kt:∀ {u:χ} {xs:LV},H9 u≈(.tup xs)->(upd H9 lb (.lst ([.ref t1]++[.ref t2]))) u≈(.tup xs):=λ{u xs} e=>by rw[AE (λz=>by rw[z,Vi]at e;cases e)];exact e
  have Nn:=kt Y0;have Nm:=kt YZ;have IV:IS p lb H (upd H9 lb (.lst ([.ref t1]++[.ref t2]))) [.ref t1,.ref t2]:=⟨mZ d9 lbH lbp,uS,lbp,lbH⟩;generalize upd H9 lb (.lst ([.ref t1]++[.ref t2]))=Ce at Nn Nm IV;clear Y0 YZ d9 Vi s9 h8 B8 d8 Vf fh B7 h7 kt;refine⟨Z,lw,Y,⟨_,AD.of (IV.d.keep _ _ lwp hw)⟩,tU IV.d.pot (IV.d.keep _ _ lwp hw) lwp (by omega) rfl (λv H' R d hR=>?_) λlk ks Ll hlk Vp S8 kl kb=>?_⟩
  ·obtain⟨oa,hpp,hoo⟩:=d.pot;exact⟨Z,p,5,oa,Y,hpp,hoo,W,W,λv4 ob YI YH hob=>hR v4 _ (Drawn.upd hob) YI YH⟩
  have bz:=IV.draw Vp;have TR:=Dy Vp IV.d.pot Nn;have TQ:=Dy Vp IV.d.pot Nm;obtain⟨lkH,lkp⟩:=gT IV.d hlk;have lkb:lk≠lb:=λz=>by rw[z,IV.hb]at hlk;cases hlk
  obtain⟨X_,JV,Nc⟩:=bz.d.pot;refine⟨Z,p,5,X_,Y,JV,Nc,W,W,λw0 d_ w1 w2 cX=>?_⟩;have Pf:Drawn p Ll (upd Ll p d_):=Drawn.upd cX;have NT:=bz.draw Pf;have FQ:=Dy Pf ⟨X_,JV,Nc⟩ TR;have FP:=Dy Pf ⟨X_,JV,Nc⟩ TQ;have Cg:=Pf.keep _ _ lkp S8;generalize upd Ll p d_=FN at Pf NT FQ FP Cg;let So:SW:=λσ' H'=>∃(ks:τ) (x8:OV),σ'=[↥(.ref p),↥(.ref lw),↥(.int (n:Int)),↥(.int pl),x4,↥(.int (mm:Int)),↥(.ref lb),↥(.ref lk),x8]/\IS p lb H H' [.ref t1,.ref t2]/\H' t1≈(.tup (FR.map V.str))/\H' t2≈(.tup (Hc.map V.str))/\H' lk≈(.lst (ks.map V.int))/\↑ks<=40/\∀ x∈ks,-100<=x/\x<=100;refine⟨So,?_,?_⟩
  ·have wi:∀ k:Int,decide (V.int w0=V.int k)=decide (w0=k):=λk=>Qc.mpr ⟨λz=>by injection z,λz=>by rw[z]⟩;have small:∀ x∈ks,-100<=x/\x<=100:=λx hx=>by have:=kb x hx;omega
   have put:∀ {HX:Hp} {us:LV} (Ee:τ),IS p lb H HX [.ref t1,.ref t2]->HX t1≈(.tup (FR.map V.str))->HX t2≈(.tup (Hc.map V.str))->HX lk≈(.lst us)->↑Ee<=40->(∀ x∈Ee,-100<=x/\x<=100)->∃(ks:τ) (x8:OV),[↥(.ref p),↥(.ref lw),↥(.int (n:Int)),↥(.int pl),x4,↥(.int (mm:Int)),↥(.ref lb),↥(.ref lk),↥(.int w0)]=[↥(.ref p),↥(.ref lw),↥(.int (n:Int)),↥(.int pl),x4,↥(.int (mm:Int)),↥(.ref lb),↥(.ref lk),x8]/\IS p lb H (upd HX lk (.lst (Ee.map V.int))) [.ref t1,.ref t2]/\(upd HX lk (.lst (Ee.map V.int))) t1≈(.tup (FR.map V.str))/\(upd HX lk (.lst (Ee.map V.int))) t2≈(.tup (Hc.map V.str))/\(upd HX lk (.lst (Ee.map V.int))) lk≈(.lst (ks.map V.int))/\↑ks<=40/\∀ x∈ks,-100<=x/\x<=100:=λ{HX us} Ee b a1 a2 hk qE sm=>by
    have kt:∀ {u:χ} {xs:LV},HX u≈(.tup xs)->(upd HX lk (.lst (Ee.map V.int))) u≈(.tup xs):=λ{u xs} e=>by rw[AE (λz=>by rw[z,hk]at e;cases e)];exact e
    exact⟨Ee,Z,⟨mZ b.d lkH lkp,by rw[AE (Ae lkb)];exact b.hb,b.lbp,b.lbH⟩,kt a1,kt a2,uS,qE,sm⟩
   have stay:∃(ks:τ) (x8:OV),[↥(.ref p),↥(.ref lw),↥(.int (n:Int)),↥(.int pl),x4,↥(.int (mm:Int)),↥(.ref lb),↥(.ref lk),↥(.int w0)]=[↥(.ref p),↥(.ref lw),↥(.int (n:Int)),↥(.int pl),x4,↥(.int (mm:Int)),↥(.ref lb),↥(.ref lk),x8]/\IS p lb H FN [.ref t1,.ref t2]/\FN t1≈(.tup (FR.map V.str))/\FN t2≈(.tup (Hc.map V.str))/\FN lk≈(.lst (ks.map V.int))/\↑ks<=40/\∀ x∈ks,-100<=x/\x<=100:=⟨ks,Z,NT,FQ,FP,Cg,O,small⟩;refine⟨Z,Y,Z,?_⟩;rw[wi];by_cases e0:w0=0
   ·rw[Jb e0];obtain⟨kz,hkz⟩:∃ y,(ks.map V.int)[↑(ks.map V.int) - 1]?≈y:=⟨_,Yg (by rw[Ya];omega)⟩;refine Az ⟨Z,.inl ⟨Y,_,AD.of Cg⟩,lk,_,kz,Y,Y,Cg,hkz,?_⟩;rw[<- List.map_dropLast];exact put ks.dropLast NT FQ FP Cg (by rw[Xd];omega) λx hx=>small x (List.dropLast_subset _ hx)
   rw[Jc e0];refine Af ⟨Z,Y,Z,?_⟩;rw[wi];by_cases e1:w0=1
   ·rw[Jb e1];refine Az ⟨Z,.inl ⟨Y,_,AD.of Cg⟩,lk,_,Z,Y,Cg,C4 (by rw[Ya];omega),?_⟩;rw[show ks.map V.int++[.int 0]=(ks++[0]).map V.int by rw[Yy];rfl];refine put (ks++[0]) NT FQ FP Cg (by rw[Yu];show _ + 1<=40;omega) λx hx=>?_
    rcases Yr.mp hx with z | z
    ·exact small x z
    ·rw[Ym.mp z];decide
   rw[Jc e1];refine Af ⟨Z,Y,Z,?_⟩;rw[wi];by_cases e2:w0=2
   ·rw[Jb e2];obtain⟨oa,hpa,hoa⟩:=NT.d.pot;refine Az ⟨Z,Z,p,3,oa,Y,hpa,hoa,W,W,λu0 ob u1 u2 hob=>⟨_,Z,Y,?_⟩⟩;have Qw:Drawn p FN (upd FN p ob):=Drawn.upd hob;have IU:=NT.draw Qw;have Jk:=Dy Qw ⟨oa,hpa,hoa⟩ FQ;have JZ:=Dy Qw ⟨oa,hpa,hoa⟩ FP;have JW:=Qw.keep _ _ lkp Cg;generalize upd FN p ob=Qh at Qw IU Jk JZ JW;obtain⟨oc,hpc,hoc⟩:=IU.d.pot;have wls:↑(ws.map V.str)=↑ws:=Ya ..;refine⟨Z,Z,Z,lw,Z,.inl (AD.of (IU.d.keep _ _ lwp hw)),p,_,oc,Y,hpc,hoc,O,bigT _ (by omega),λy0 od y1 y2 hod=>?_⟩;obtain⟨y,rfl⟩:=QY y1;have Hf:Drawn p Qh (upd Qh p od):=Drawn.upd hod;have Lo:=IU.draw Hf;have JY:=Dy Hf ⟨oc,hpc,hoc⟩ Jk;have JX:=Dy Hf ⟨oc,hpc,hoc⟩ JZ;have Gx:=Hf.keep _ _ lkp JW;generalize upd Qh p od=oU at Hf Lo JY JX Gx;refine⟨lk,_,_,y,Y,Y,Gx,q_ (by rw[Ya];omega),?_⟩;have es:(ks.map V.int).set y (.int (-1 - u0))=(ks.set y (-1 - u0)).map V.int:=by rw[List.map_set]
    have:=put (ks.set y (-1 - u0)) Lo JY JX Gx (by rw[List.length_set];omega) λx hx=>(by
     rcases List.mem_or_eq_of_mem_set hx with z | z
     ·exact small x z
     ·rw[z];omega)
    rw[<- es]at this;exact this
   ·rw[Jc e2];exact Af stay
  rintro σ' Qh ⟨Ee,x8,rfl,IU,Jk,JZ,JW,qG,small⟩;clear NT FQ FP Cg Pf bz TR TQ JV S8 Vp hlk IV Nn Nm;refine⟨Z,Z,Z,p,lw,ws,Y,IU.d.pot,IU.d.keep _ _ lwp hw,BS,lwp,λx1 oU Hf oZ=>?_⟩;have Lo:=IU.draw Hf;have JY:=Dy Hf IU.d.pot Jk;have JX:=Dy Hf IU.d.pot JZ;have Gx:=Hf.keep _ _ lkp JW;refine⟨Z,Z,p,lw,ws,Y,Lo.d.pot,Lo.d.keep _ _ lwp hw,BS,lwp,λx2 oS VX oY=>?_⟩;have oV:=Lo.draw VX;have cw:=Dy VX Lo.d.pot JY;have cu:=Dy VX Lo.d.pot JX;have cf:=VX.keep _ _ lkp Gx;refine⟨Z,Z,sL (by show 5<=100000;decide),λt ht=>?_⟩;have Qm:AA oS (upd oS t (.tup [.int pl,.str x1,.str x2,.ref lb,.ref lk])):=AO ht;exact q t lb lk t1 t2 ⟨pl,x1,x2,FR,Hc,Ee⟩ _ (oV.d.same Qm) ⟨uS,Qm _ _ oV.hb,Qm _ _ cw,Qm _ _ cu,Qm _ _ cf⟩ ⟨plb,oZ,oY,(show ↑FR<=10 by omega),(show ↑Hc<=10 by omega),b1,b2,qG,small⟩
def iw(C B:χ):Sp:=λvs H Q _=>∃(wh:Nat) (b k lw t lb lk t1 t2:χ) (ρ:RS) (n:Nat) (ds:ζ) (A:Fy) (d:Int),vs=[.int (wh:Int),.ref b,.ref lw,.int d,.ref t]/\ng C B H b k t lb lk t1 t2 ρ n ds A wh d/\H lw≈(.lst ((ρ.map (·.1)).map V.str))/\∀ H',AA H H'->Q (.bl true) H'
def LO(ws:LS):V->Bool
 | .str x=>!decide (x∈ws)
 | _=>false
def rV{ρ:RS}{n:Nat}{A:Fy}{wh:Nat}{d:Int}(h:Hn ρ n A wh d):d=-1\/d=0\/d=7\/d=9\/d=11\/d=12:=by
 cases h with
 | place=>exact .inr (.inr (.inr (.inr (.inl rfl))))
 | kind=>exact .inr (.inl rfl)
 | beg=>exact .inr (.inr (.inr (.inl rfl)))
 | wgt=>exact .inr (.inr (.inr (.inr (.inr rfl))))
 | many=>exact .inr (.inr (.inl rfl))
 | fine=>exact .inl rfl
def zw{ρ:RS}{x y z:Str}(h:R_ ρ x y z):∃ r,(([x,y].map V.str).filter (LO (ρ.map (·.1)))).map (λv=>v)=V.str z :: r:=by
 rcases h with⟨h,rfl⟩ | ⟨h1,h2,rfl⟩
 ·refine⟨(List.filter (LO (ρ.map (·.1))) [V.str y]).map (λv=>v),?_⟩;show(List.filter (LO (ρ.map (·.1))) [V.str z,V.str y]).map (λv=>v)=_;rw[IQ,show LO (ρ.map (·.1)) (V.str z)=true by show(!decide (z∈ρ.map (·.1)))=true;rw[Jc h];rfl,if_pos rfl];rfl
 ·refine⟨[],?_⟩;show(List.filter (LO (ρ.map (·.1))) [V.str x,V.str z]).map (λv=>v)=_;rw[IQ,show LO (ρ.map (·.1)) (V.str x)=false by show(!decide (x∈ρ.map (·.1)))=false;rw[Jb h1];rfl,if_neg Yh,IQ,show LO (ρ.map (·.1)) (V.str z)=true by show(!decide (z∈ρ.map (·.1)))=true;rw[Jc h2];rfl,if_pos rfl];rfl
abbrev Qq:LS:=["which","board","words","due","asks"]
abbrev eE:LS:=["which","board","words","due","asks","found","e"]
def lJ:Ad eE Qq (AL R1):=by nofun
set_option maxHeartbeats 8000000 in
def rh{Ds:Nat->χ}(F:Def K mg "_law_right" R1 Qq f fd)(TD:ah K mg D)(O0:Fh K D Ds 0)(O7:Fh K D Ds 7)(O9:Fh K D Ds 9)(bp:Fh K D Ds 11)(bo:Fh K D Ds 12)(I0:Lm K (Ds 0) D "word")
  (DA:Def K mg "_law_ask" Wn Qs fA fdA) (GA:AN P w K mg base (AZ P w) 11 fA fdA Qs (nF C B Ds)) (DAl:Def K mg "_law_alone" Wq ["e","place"] fAl fdAl) (GAl:⋯ 1 fAl fdAl ["e","place"] (gz K D Ds)):⋯ 12 f fd Qq (iw C B):=by
 nomatch F.fn.ok lJ
 ·obtain⟨wh,b,k,lw,t,lb,lk,t1,t2,ρ,n,ds,Ak,d,rfl,_⟩:=h;rfl
 ·obtain⟨wh,b,k,lw,t,lb,lk,t1,t2,ρ,n,ds,Ak,d,rfl,ap,hw,q⟩:=h;have nd:=lJ.nd;have AM:AX 1 _:=hr.mono (by decide);have cR:AX 11 _:=hr.mono (by decide)
  ac_nf
  refine'⟨_,(pS (sE 5 nd Mj)
   (IA (zK (i:=5) (j:=6) rfl rfl TD.ex nd (by rfl) TD.m rfl (Or.inl rfl) rfl rfl (sO (sP (sH DA GA cR (by rfl) (pC (pv 0) (pC (pv 1) (pC (pv 4) AB)))))))
   (pS (Ac (PW.pt (Fe (Ax Hv (pv 3) AI (Ao _)) (Hy (Ax mj (pv 5) Mj (Ao _))))) (AG (Ab (V9 (FH Hv (pv 3) AI (Ao _)) (RW (FH mj (pv 5) Mj (Ao _)))))) Aj)
   (pS (Ac (Bx (CF (AY DAl GAl AM (pC (pv 5) (pC (pv 3) AB))))) (AG (Ab Dw)) Aj)
   (AG (Ab (yc (FH GZ (pv 3) AI (Ao _)) (RW (FH Bw (Z2l (D:=D) (pv 5)) (A9 (r:=Cz K) Bi ?eC AI (λ_ _=>rfl)) (Ao _)))))))))),?_⟩
  case eC=>exact(Cm ["word"] ["words"] [2] (λ_=>Bs (osc:=AL R1) (on:=eE) (by rfl') rfl rfl rfl) (Ml (Rp (r:=bC K) Z1u (pv 4) (Mr AI) (Mr AI))) (λC s H fp=>Bl (i:=0) nX rfl (Or.inl rfl) (Or.inr rfl)) (λC s H fp=>WK (Ax (r:=XI K Bool.not) (Wb (LM hr)) (pv 0) (pv 1) (by with_unfolding_all rfl))) (λC s H fp=>pv 0))
  exists let b:=AF _ a;let c:=_;let e:=AF (Bp _ c _) b;let f:=GQ _ e;AF _ f _ _ _
  have dn:=rV ap.due;have ones:∀ i:Nat,0<i->d=(i:Int)->Fh K D Ds i:=λi hi hd=>by
   have:i=7\/i=9\/i=11\/i=12:=by omega
   rcases this with rfl | rfl | rfl | rfl
   ·exact O7
   ·exact O9
   ·exact bp
   ·exact bo
  have VY:∀ i:Nat,d=(i:Int)->i<15:=λi hd=>by omega
  let FL:SW:=λσ' H'=>∃(fv:V) (x6:OV),σ'=[↥(.int (wh:Int)),↥(.ref b),↥(.ref lw),↥(.int d),↥(.ref t),↥fv,x6]/\AA H H'/\((d=-1/\fv=.non)\/(∃(e:χ) (i:Nat),0<i/\d=(i:Int)/\fv=.ref e/\H' e≈(XO e (Ds i) none))\/(d=0/\∃(e dx:χ) (z:Str),fv=.ref e/\H' e≈(XO e (Ds 0) (↥dx))/\H' dx≈(.xd [("word",.str z)])/\R_ ρ Ak.one Ak.oth z));refine⟨FL,?_,?_⟩
  ·refine⟨Z,Z,Z,wh,b,k,t,lb,lk,t1,t2,U,Ak,d,Y,ap,λe H1 s1=>⟨.non,none,Y,s1,.inl ⟨e,Y⟩⟩,λe z hz dx H1 s1 hx=>?_,λi hi e H1 s1=>?_⟩
   ·refine⟨Ds 0,Y,O0.ex.toExC,O0.sub,λea hea=>⟨.ref ea,Z,s1.trans (AO hea),.inr (.inr ⟨e,ea,dx,z,Y,uS,?_,hz⟩)⟩⟩;exact(AO hea) _ _ hx
   ·have O:=ones i hi e;exact⟨Ds i,Y,O.ex.toExC,O.sub,λea hea=>⟨.ref ea,Z,s1.trans (AO hea),.inr (.inl ⟨ea,i,hi,e,Y,uS⟩)⟩⟩
  rintro σ' H1 ⟨fv,x6,rfl,s1,h⟩
  rcases h with⟨e,rfl⟩ | ⟨ea,i,hi,e,rfl,hea⟩ | ⟨e,ea,dx,z,rfl,hea,hdx,hz⟩
  ·have ed:decide (d<0)=true:=Jb (by omega);refine⟨Z,_,Z,Y,Z,?_⟩;rw[ed];refine Az ⟨Z,_,Z,Y,Z,?_⟩;rw[ed];exact Az ⟨Z,Y,q H1 s1⟩
  ·have ed:decide (d<0)=false:=Jc (by omega);have eg:decide (0<d)=true:=Jb (by omega);refine⟨Z,_,Z,Y,Z,?_⟩;rw[ed];refine Af ⟨Z,Y,Z,Af ?_⟩;refine⟨Z,Z,ea,i,i,none,by rw[e];rfl,hea,.inl rfl,ones i hi e,VY i e,VY i e,λH3 s3=>⟨Z,?_⟩⟩;rw[Jb rfl];refine Af ⟨Z,_,Z,Y,Z,?_⟩;show if(decide (0<d))=true then _ else _
   rw[eg];exact Az (q H3 (s1.trans s3))
  ·have ed:decide (d<0)=false:=Jc (by omega);have eg:decide (0<d)=false:=Jc (by omega);refine⟨Z,_,Z,Y,Z,?_⟩;rw[ed];refine Af ⟨Z,Y,Z,Af ?_⟩;refine⟨Z,Z,ea,0,0,↥dx,by rw[e];rfl,hea,.inr ⟨dx,Z,hdx⟩,O0,W,W,λH3 s3=>⟨Z,?_⟩⟩;rw[Jb rfl];refine Af ⟨Z,_,Z,Y,Z,?_⟩;show if(decide (0<d))=true then _ else _
   rw[eg];have a3:=ap.at_.up (s1.trans s3);refine Af ⟨Z,ea,Ds 0,dx,_,Z,s3 _ _ hea,s3 _ _ hdx,I0,Y,?_⟩;refine⟨Z,Z,Z,?_⟩;refine Z19 (K:=K) (lo:=↥1) (hi:=↥3) a3.ht λpR H4 BK hR=>?_;have hR:H4 pR≈(.tup ([Ak.one,Ak.oth].map V.str)):=hR;have FU:=(s1.trans (s3.trans BK)) _ _ hw;have wok:((ρ.map (·.1)).map W.Dat.str).all (W.kqdOk 8)=true:=jA (λz hz=>Rh (Wf ap.g z hz)) 8;have okw:∀ x∈[Ak.one,Ak.oth],PyData.strOk x=true:=λx hx=>by
    rcases Bj.mp hx with y | y
    ·rw[y];exact ap.ok.one.ok
    ·rw[Ym.mp y];exact ap.ok.oth.ok
   refine⟨pR,Y,⟨_,AJ.of hR⟩,Mt (Mv (K:=K)) (sL (by show 2<=100000;decide)) (LO (ρ.map (·.1))) (λv=>v) (λH' s'=>AJ.of (s' _ _ hR)) ?_ ?_ ?_⟩
   ·intro x H' R s' hx hR;obtain⟨v,hv,rfl⟩:=Yo.mp hx;refine⟨Z,Z,.str v,_,.str _,.list (AD.of (s' _ _ FU)) (Mw _),okw v hv,wok,Z,?_⟩;rw[XE];exact hR H' (AA.refl _)
   ·intro x H' R s' hx _ hR;exact⟨Z,hR H' (AA.refl _)⟩
   ·intro D5 H5 hD5 s5 fJ;obtain⟨r,er⟩:=zw hz;rw[er]at fJ;refine⟨D5,_,_,Z,Y,AD.of fJ,Es (j:=0) rfl,Y,?_⟩;rw[Jb (show V.str z=V.str z from rfl)];exact q H5 (s1.trans (s3.trans (BK.trans s5)))
def rP{C B:χ}{H H':Hp}{b k p:χ}{ρ:RS}{n:Nat}{ds:ζ}(h:A5 C B H b k ρ n ds)(hp:∃ o,H p≈o/\EH o)(d:Drawn p H H'):A5 C B H' b k ρ n ds:=by
 obtain⟨o,hp,r,c,rfl,_⟩:=hp;exact h.keep hp d.keep
abbrev Ybv:LS:=["script","pot","words","places","large","board","which","asks","due"]
def mN:Ad Ybv ["script"] (AL bQ):=by nofun
set_option maxHeartbeats 8000000 in
def zC(F:Def K mg "law" bQ ["script"] f fd)(range:mg "range"=none)
  (DP:Def K mg "_law_pot" Wo ["script","k"] fP fdP) (GP:⋯ 1 fP fdP ["script","k"] (mU K)) (DBo:Def K mg "_law_board" M7 ["pot"] fBo fdBo) (GBo:⋯ 6 fBo fdBo ["pot"] (iq C B))
  (DA:Def K mg "_law_asks" M3 Qt fA fdA) (GA:⋯ 3 fA fdA Qt iB) (DD:Def K mg "_law_due" R0 Qr fD fdD) (GD:⋯ 1 fD fdD Qr nK) (DR:Def K mg "_law_right" R1 Qq fR fdR) (GR:⋯ 12 fR fdR Qq (iw C B)):⋯ 13 f fd ["script"] (V1 K):=by
 nomatch F.fn.ok mN
 ·obtain⟨a,ns,rfl,_⟩:=h;rfl
 ·obtain⟨a,ns,rfl,hS,hlen,q⟩:=h;have nd:=mN.nd;have AM:AX 1 _:=hr.mono (by decide);have F5:AX 3 _:=hr.mono (by decide);have qQ:AX 6 _:=hr.mono (by decide)
  ac_nf
  refine'⟨_,(pS (sE 1 nd (AY DP GP AM (pC (pv 0) (pC AI AB))))
   (pS (Px (AY DBo GBo qQ (pC (pv 1) AB)) (Hw rfl (gC (gE 2 nd) (gC (gE 3 nd) (gC (gE 4 nd) (gC (gE 5 nd) H_))))))
   (pS (Ba Yz rfl (Gj (by rfl) range (pC AI AB)) (gE 6 nd)
    (pS (sE 7 nd (AY DA GA F5 (pC (pv 1) (pC (pv 2) (pC (pv 3) AB)))))
   (pS (sE 8 nd (AY DD GD AM (pC (pv 6) (pC (pv 2) (pC (pv 3) (pC (pv 4) (pC (pv 7) AB)))))))
   (AG (Ac (Bx (CF (AY DR GR hr (pC (pv 6) (pC (pv 5) (pC (pv 2) (pC (pv 8) (pC (pv 7) AB)))))))) (AG (Ab Dw)) Aj)))))
   (AG (Ab Dw))))),?_⟩
  exists let b:=_;let c:=AF _ b;let e:=AF _ c;let f:=AF (B5 _ _ e) a;let g:=AF _ f;AF _ g _ _ _
  refine⟨Z,a,0,ns,Y,hS,O,W,W,λp o hp ho=>?_⟩;have Kc:(upd H p o) p≈o:=uS;generalize upd H p o=H0 at Kc;refine⟨Z,p,Y,⟨o,Kc,ho⟩,λt lw yb xb ρ n ds H1 d1 ht hw lwp BS bd g gd n1 n4=>⟨t,Z,AJ.of ht,Y,_,Z,_,Z,_,Z,_,Z,Y,?_⟩⟩;have Sr:=d1.pot;let A8:NW:=λi σ H'=>∃ x6 x7 x8:OV,σ=[↥(.ref a),↥(.ref p),↥(.ref lw),↥(.int (n:Int)),↥(.bl (decide (512<↑ρ ^ n))),↥(.ref yb),x6,x7,x8]/\Drawn p H1 H';refine⟨8,Y,W,W,CH JG A8
   ⟨none,none,none,Y,Drawn.refl Sr⟩ (λ_ _ _ _ _=>trivial) ?_ ?_⟩
  ·rintro i v' σ H2 hi ⟨x6,x7,x8,rfl,d2⟩;obtain⟨Vh,rfl⟩:=Fm hi;have Vh:i<8:=Vh;rw[Li];have Eg:=d2.keep _ _ lwp hw;refine⟨Z,Z,Z,p,lw,_,n,Y,d2.pot,Eg,BS,lwp,n1,n4,λta lb lk t1 t2 Ak H3 d3 gL VS=>?_⟩;have Cs:=d3.keep _ _ lwp Eg;have gI:=d2.trans d3;refine⟨Z,Z,Z,Z,Z,i,lw,ta,lb,lk,t1,t2,ρ,n,Ak,Y,Vh,Cs,g,gL,VS,n1,n4,λd H4 s4 due=>?_⟩;have Y5:=(rP bd Sr gI).mono s4;refine⟨Z,Z,Z,Z,Z,i,yb,xb,lw,ta,lb,lk,t1,t2,U,Ak,d,Y,⟨Vh,Y5,g,gd,n1,n4,gL.up s4,VS,due⟩,s4 _ _ Cs,λH5 s5=>⟨Z,Af ⟨_,_,Z,gI.same (s4.trans s5)⟩⟩⟩
  ·rintro σ H2 ⟨x6,x7,x8,rfl,d2⟩;exact q H2
end JT
namespace JT
open PySem L2
variable {P:Δ}{w:World}{K:Fg}{mg:Str->OU}{base:Heap}
def md{K:Fg}{m q:Str}{st:Stmt}{ps:LS}(T:Mp K C m q st f fd)(b:CC K fd ps []):F_ K C m q st ps f fd:=⟨T.fn,b,T.a,T.i,T.fn.kp⟩
set_option maxHeartbeats 4000000 in
def all_mk{l:W.OpenLaw}{w:World}{K:Fg}{h:Heap}{mg:Str->OU}(X:K.In h)(G:h.Ns mainGlobals mg)(hfa:mg "law"≈(.ref fa))
  {T_LETTERS T_MOST_LETTERS T_MOST_KINDS T_MOST_UPS T_MOST_PLACES T_MOST_DEEDS T_MOST_CALLS:Tok}
  (a_QD:W.nsIn K mainGlobals "DeedError"≈(↥(.ref QD)))
  (cl_QD:W.isClsIn K QD=true)
  (ty_QD:W.typeIn K (.ref QD)≈(.type "type"))
  {nm_QD q_QD:Str} {N_QD:χ} {bs_QD sub_QD:LU} {ab_QD:Bool} {sn_QD:LS} {col_QD:Option Bool} {dd_QD:Option χ} {UO UK UG UB T8:OU}
  {bm_QD:LU} {hd_QD:Bool}
  (l_QD:K.lookup QD≈(excClassObj nm_QD q_QD QD N_QD bs_QD bm_QD hd_QD sn_QD sub_QD ab_QD col_QD dd_QD UO UK UG UB T8 "ValueError.__new__"))
  (val_QD:W.subIn K (.ref QD) (.type "ValueError")≈true)
  (bas_QD:W.subIn K (.ref QD) (.type "BaseException")≈true)
  (att_QD:W.subIn K (.ref QD) (.type "AttributeError")≈false)
  (nam_QD:W.subIn K (.ref QD) (.type "NameError")≈false)
  (kp_QD:W.keepIn K (.ref QD)=true)
  (TY:W.nsIn K mainGlobals "NoKind"≈(↥(.ref Q0)))
  (Us:W.isClsIn K Q0=true)
  (Ti:W.typeIn K (.ref Q0)≈(.type "type"))
  {T5 cJ:Str} {dP:χ} {Ux N0:LU} {U2:Bool} {Tq:LS} {O8:Option Bool} {Uh:Option χ} {UR UN UJ UE UA:OU}
  (NZ:K.lookup Q0≈(excClassObj T5 cJ Q0 dP Ux [.ref QD,.type "ValueError",.type "Exception",.type "BaseException",.type "object"] true Tq N0 U2 O8 Uh UR UN UJ UE UA "ValueError.__new__"))
  (G8:W.subIn K (.ref Q0) (.type "ValueError")≈true)
  (HJ:W.subIn K (.ref Q0) (.type "BaseException")≈true)
  (HM:W.subIn K (.ref Q0) (.type "AttributeError")≈false)
  (HE:W.subIn K (.ref Q0) (.type "NameError")≈false)
  (Lw:W.keepIn K (.ref Q0)=true)
  (dI:W.nsIn K mainGlobals "Twice"≈(↥(.ref Q1)))
  (Ur:W.isClsIn K Q1=true)
  (Th:W.typeIn K (.ref Q1)≈(.type "type"))
  (dG:W.nsIn K mainGlobals "NoName"≈(↥(.ref Q2)))
  (Uq:W.isClsIn K Q2=true)
  (Tg:W.typeIn K (.ref Q2)≈(.type "type"))
  (dF:W.nsIn K mainGlobals "Ring"≈(↥(.ref Q3)))
  (Up:W.isClsIn K Q3=true)
  (Tf:W.typeIn K (.ref Q3)≈(.type "type"))
  (dE:W.nsIn K mainGlobals "NoDeed"≈(↥(.ref Q4)))
  (Uo:W.isClsIn K Q4=true)
  (Te:W.typeIn K (.ref Q4)≈(.type "type"))
  (dD:W.nsIn K mainGlobals "Same"≈(↥(.ref Q5)))
  (Um:W.isClsIn K Q5=true)
  (Td:W.typeIn K (.ref Q5)≈(.type "type"))
  (dC:W.nsIn K mainGlobals "NoText"≈(↥(.ref Q6)))
  (Ul:W.isClsIn K Q6=true)
  (Tc:W.typeIn K (.ref Q6)≈(.type "type"))
  (TX:W.nsIn K mainGlobals "TooMany"≈(↥(.ref Q7)))
  (Uk:W.isClsIn K Q7=true)
  (Tb:W.typeIn K (.ref Q7)≈(.type "type"))
  {T4 cI:Str} {dO:χ} {Uw Nz:LU} {U1:Bool} {To:LS} {O6:Option Bool} {Ug:Option χ} {UQ UM UI UD T_:OU}
  {Uz:LU} {UZ:Bool}
  (Su:K.lookup Q7≈(excClassObj T4 cI Q7 dO Uw Uz UZ To Nz U1 O6 Ug UQ UM UI UD T_ "ValueError.__new__"))
  (Gz:W.subIn K (.ref Q7) (.type "ValueError")≈true)
  (HI:W.subIn K (.ref Q7) (.type "BaseException")≈true)
  (HL:W.subIn K (.ref Q7) (.type "AttributeError")≈false)
  (G_:W.subIn K (.ref Q7) (.type "NameError")≈false)
  (Lv:W.keepIn K (.ref Q7)=true)
  (dB:W.nsIn K mainGlobals "NoBoard"≈(↥(.ref Q8)))
  (Uj:W.isClsIn K Q8=true)
  (Ta:W.typeIn K (.ref Q8)≈(.type "type"))
  (TV:W.nsIn K mainGlobals "NoCall"≈(↥(.ref Q9)))
  (Ui:W.isClsIn K Q9=true)
  (TZ:W.typeIn K (.ref Q9)≈(.type "type"))
  {T3 cH:Str} {dN:χ} {Uv Ny:LU} {U0:Bool} {Tn:LS} {O5:Option Bool} {Ue:Option χ} {UP UL UH UC T9:OU}
  {Uy:LU} {UY:Bool}
  (Ss:K.lookup Q9≈(excClassObj T3 cH Q9 dN Uv Uy UY Tn Ny U0 O5 Ue UP UL UH UC T9 "ValueError.__new__"))
  (Gy:W.subIn K (.ref Q9) (.type "ValueError")≈true)
  (HH:W.subIn K (.ref Q9) (.type "BaseException")≈true)
  (HK:W.subIn K (.ref Q9) (.type "AttributeError")≈false)
  (G9:W.subIn K (.ref Q9) (.type "NameError")≈false)
  (Lu:W.keepIn K (.ref Q9)=true)
  (U5:W.nsIn K mainGlobals "NoLine"≈(↥(.ref CL)))
  (PJ:W.isClsIn K CL=true)
  (Nx:W.typeIn K (.ref CL)≈(.type "type"))
  (L9:W.nsIn K mainGlobals "NoPlace"≈(↥(.ref Ar)))
  (PH:W.isClsIn K Ar=true)
  (Nw:W.typeIn K (.ref Ar)≈(.type "type"))
  {Od Tw:Str} {U7:χ} {PQ Jm:LU} {PX:Bool} {N2:LS} {KS:Option Bool} {O4:Option χ} {Oq Om Oj Oh Of:OU}
  {PU:LU} {Ox:Bool}
  (Ls:K.lookup Ar≈(excClassObj Od Tw Ar U7 PQ PU Ox N2 Jm PX KS O4 Oq Om Oj Oh Of "ValueError.__new__"))
  (Ez:W.subIn K (.ref Ar) (.type "ValueError")≈true)
  (E5:W.subIn K (.ref Ar) (.type "BaseException")≈true)
  (E7:W.subIn K (.ref Ar) (.type "AttributeError")≈false)
  (E2:W.subIn K (.ref Ar) (.type "NameError")≈false)
  (HG:W.keepIn K (.ref Ar)=true)
  (L8:W.nsIn K mainGlobals "NoWeights"≈(↥(.ref Aq)))
  (PD:W.isClsIn K Aq=true)
  (Nv:W.typeIn K (.ref Aq)≈(.type "type"))
  {Oc Tv:Str} {U6:χ} {PN Jl:LU} {PV:Bool} {N1:LS} {KR:Option Bool} {O3:Option χ} {Oo Ol Oi Og Oe:OU}
  {PR:LU} {Ow:Bool}
  (Lr:K.lookup Aq≈(excClassObj Oc Tv Aq U6 PN PR Ow N1 Jl PV KR O3 Oo Ol Oi Og Oe "ValueError.__new__"))
  (Ey:W.subIn K (.ref Aq) (.type "ValueError")≈true)
  (E3:W.subIn K (.ref Aq) (.type "BaseException")≈true)
  (E6:W.subIn K (.ref Aq) (.type "AttributeError")≈false)
  (E1:W.subIn K (.ref Aq) (.type "NameError")≈false)
  (HF:W.keepIn K (.ref Aq)=true)
  (U4:W.nsIn K mainGlobals "NoTerm"≈(↥(.ref CK)))
  (PB:W.isClsIn K CK=true)
  (Nu:W.typeIn K (.ref CK)≈(.type "type"))
  (U3:W.nsIn K mainGlobals "NoRow"≈(↥(.ref CJ)))
  (O_:W.isClsIn K CJ=true)
  (Nt:W.typeIn K (.ref CJ)≈(.type "type"))
  (cg_Q:W.specialIn K (.builtin "object.__class__") "__get__"≈(↥(.builtin "getset_descriptor.__get__")))
  (ct_Q:W.takesIn K (.builtin "object.__class__")≈true)
  (L6:W.findIn K (.ref Q0) "__getattribute__"≈(↥(.builtin "BaseException.__getattribute__")))
  (L4:W.findIn K (.ref Q0) "__getattr__"≈none)
  (L7:W.findIn K (.ref Q0) "__class__"≈(↥(.builtin "object.__class__")))
  (Lq:W.mroIn K Q0 (.type "object")≈true)
  (Tt:W.subIn K (.ref Q0) (.ref QD)≈true)
  (OZ:W.subIn K (.ref Q0) (.ref Q0)≈true)
  (OY:W.subIn K (.ref Q0) (.ref Q1)≈false)
  (OX:W.subIn K (.ref Q0) (.ref Q2)≈false)
  (OW:W.subIn K (.ref Q0) (.ref Q3)≈false)
  (OT:W.subIn K (.ref Q0) (.ref Q4)≈false)
  (OS:W.subIn K (.ref Q0) (.ref Q5)≈false)
  (OR:W.subIn K (.ref Q0) (.ref Q6)≈false)
  (OQ:W.subIn K (.ref Q0) (.ref Q7)≈false)
  (OP:W.subIn K (.ref Q0) (.ref Q8)≈false)
  (OO:W.subIn K (.ref Q0) (.ref Q9)≈false)
  (KQ:W.subIn K (.ref Q0) (.ref CL)≈false)
  (KP:W.subIn K (.ref Q0) (.ref Ar)≈false)
  (KO:W.subIn K (.ref Q0) (.ref Aq)≈false)
  (KN:W.subIn K (.ref Q0) (.ref CK)≈false)
  (KJ:W.subIn K (.ref Q0) (.ref CJ)≈false)
  (Ud:W.findIn K (.ref Q7) "__getattribute__"≈(↥(.builtin "BaseException.__getattribute__")))
  (Ub:W.findIn K (.ref Q7) "__getattr__"≈none)
  (Uu:W.findIn K (.ref Q7) "__class__"≈(↥(.builtin "object.__class__")))
  (Tz:W.mroIn K Q7 (.type "object")≈true)
  (Ts:W.subIn K (.ref Q7) (.ref QD)≈true)
  (ON:W.subIn K (.ref Q7) (.ref Q0)≈false)
  (OM:W.subIn K (.ref Q7) (.ref Q1)≈false)
  (OL:W.subIn K (.ref Q7) (.ref Q2)≈false)
  (OK:W.subIn K (.ref Q7) (.ref Q3)≈false)
  (OJ:W.subIn K (.ref Q7) (.ref Q4)≈false)
  (OI:W.subIn K (.ref Q7) (.ref Q5)≈false)
  (OH:W.subIn K (.ref Q7) (.ref Q6)≈false)
  (OG:W.subIn K (.ref Q7) (.ref Q7)≈true)
  (OF:W.subIn K (.ref Q7) (.ref Q8)≈false)
  (OE:W.subIn K (.ref Q7) (.ref Q9)≈false)
  (Jw:W.subIn K (.ref Q7) (.ref CL)≈false)
  (Jv:W.subIn K (.ref Q7) (.ref Ar)≈false)
  (Ju:W.subIn K (.ref Q7) (.ref Aq)≈false)
  (Jt:W.subIn K (.ref Q7) (.ref CK)≈false)
  (Js:W.subIn K (.ref Q7) (.ref CJ)≈false)
  (UT:W.findIn K (.ref Q7) "__init__"≈(↥(.builtin "ValueError.__init__")))
  (Uc:W.findIn K (.ref Q9) "__getattribute__"≈(↥(.builtin "BaseException.__getattribute__")))
  (Ua:W.findIn K (.ref Q9) "__getattr__"≈none)
  (Ut:W.findIn K (.ref Q9) "__class__"≈(↥(.builtin "object.__class__")))
  (Tx:W.mroIn K Q9 (.type "object")≈true)
  (Tr:W.subIn K (.ref Q9) (.ref QD)≈true)
  (OD:W.subIn K (.ref Q9) (.ref Q0)≈false)
  (OC:W.subIn K (.ref Q9) (.ref Q1)≈false)
  (OB:W.subIn K (.ref Q9) (.ref Q2)≈false)
  (OA:W.subIn K (.ref Q9) (.ref Q3)≈false)
  (N_:W.subIn K (.ref Q9) (.ref Q4)≈false)
  (N9:W.subIn K (.ref Q9) (.ref Q5)≈false)
  (N8:W.subIn K (.ref Q9) (.ref Q6)≈false)
  (N7:W.subIn K (.ref Q9) (.ref Q7)≈false)
  (N6:W.subIn K (.ref Q9) (.ref Q8)≈false)
  (N5:W.subIn K (.ref Q9) (.ref Q9)≈true)
  (Jr:W.subIn K (.ref Q9) (.ref CL)≈false)
  (Jq:W.subIn K (.ref Q9) (.ref Ar)≈false)
  (Jp:W.subIn K (.ref Q9) (.ref Aq)≈false)
  (Jo:W.subIn K (.ref Q9) (.ref CK)≈false)
  (Jn:W.subIn K (.ref Q9) (.ref CJ)≈false)
  (US:W.findIn K (.ref Q9) "__init__"≈(↥(.builtin "ValueError.__init__")))
  (O2:W.findIn K (.ref Ar) "__getattribute__"≈(↥(.builtin "BaseException.__getattribute__")))
  (Oz:W.findIn K (.ref Ar) "__getattr__"≈none)
  (PM:W.findIn K (.ref Ar) "__class__"≈(↥(.builtin "object.__class__")))
  (Ob:W.mroIn K Ar (.type "object")≈true)
  (N4:W.subIn K (.ref Ar) (.ref QD)≈true)
  (KI:W.subIn K (.ref Ar) (.ref Q0)≈false)
  (KH:W.subIn K (.ref Ar) (.ref Q1)≈false)
  (KG:W.subIn K (.ref Ar) (.ref Q2)≈false)
  (KD:W.subIn K (.ref Ar) (.ref Q3)≈false)
  (KC:W.subIn K (.ref Ar) (.ref Q4)≈false)
  (KA:W.subIn K (.ref Ar) (.ref Q5)≈false)
  (J_:W.subIn K (.ref Ar) (.ref Q6)≈false)
  (J9:W.subIn K (.ref Ar) (.ref Q7)≈false)
  (J8:W.subIn K (.ref Ar) (.ref Q8)≈false)
  (J7:W.subIn K (.ref Ar) (.ref Q9)≈false)
  (HZ:W.subIn K (.ref Ar) (.ref CL)≈false)
  (HY:W.subIn K (.ref Ar) (.ref Ar)≈true)
  (HW:W.subIn K (.ref Ar) (.ref Aq)≈false)
  (HV:W.subIn K (.ref Ar) (.ref CK)≈false)
  (HU:W.subIn K (.ref Ar) (.ref CJ)≈false)
  (Ou:W.findIn K (.ref Ar) "__init__"≈(↥(.builtin "ValueError.__init__")))
  (O1:W.findIn K (.ref Aq) "__getattribute__"≈(↥(.builtin "BaseException.__getattribute__")))
  (Oy:W.findIn K (.ref Aq) "__getattr__"≈none)
  (PK:W.findIn K (.ref Aq) "__class__"≈(↥(.builtin "object.__class__")))
  (Oa:W.mroIn K Aq (.type "object")≈true)
  (N3:W.subIn K (.ref Aq) (.ref QD)≈true)
  (J6:W.subIn K (.ref Aq) (.ref Q0)≈false)
  (J5:W.subIn K (.ref Aq) (.ref Q1)≈false)
  (J4:W.subIn K (.ref Aq) (.ref Q2)≈false)
  (J3:W.subIn K (.ref Aq) (.ref Q3)≈false)
  (J2:W.subIn K (.ref Aq) (.ref Q4)≈false)
  (J1:W.subIn K (.ref Aq) (.ref Q5)≈false)
  (J0:W.subIn K (.ref Aq) (.ref Q6)≈false)
  (Jz:W.subIn K (.ref Aq) (.ref Q7)≈false)
  (Jy:W.subIn K (.ref Aq) (.ref Q8)≈false)
  (Jx:W.subIn K (.ref Aq) (.ref Q9)≈false)
  (HS:W.subIn K (.ref Aq) (.ref CL)≈false)
  (HR:W.subIn K (.ref Aq) (.ref Ar)≈false)
  (HQ:W.subIn K (.ref Aq) (.ref Aq)≈true)
  (HP:W.subIn K (.ref Aq) (.ref CK)≈false)
  (HN:W.subIn K (.ref Aq) (.ref CJ)≈false)
  (Ot:W.findIn K (.ref Aq) "__init__"≈(↥(.builtin "ValueError.__init__")))
  (Tu:W.findIn K (.ref Q0) "__setattr__"≈(↥(.builtin "object.__setattr__")))
  (T6:W.findIn K (.ref Q0) "word"≈none)
  (ga_QD:W.specialIn K (.ref QD) "__getattribute__"≈(↥(.builtin "type.__getattribute__")))
  (rd_QD:W.readsIn K QD (.type "type")=true)
  (fi_QD:W.findCls K (.ref QD) (.type "type") "__init__"≈(.val (.builtin "ValueError.__init__")))
  (TC:Cp K "Kinds" C)
  (TB:Cp K "Board" B)
  (T_mI:Mp K C "__init__" "Kinds.__init__" ae f_mI d_mI)
  (T_mH:Mp K C "has" "Kinds.has" Wm f_mH d_mH)
  (T_mC:Mp K C "check" "Kinds.check" QG f_mC d_mC)
  (T_mUn:Mp K C "under" "Kinds.under" W6 f_mUn d_mUn)
  (T_mW:Mp K C "words" "Kinds.words" W7 f_mW d_mW)
  (T_bI:Mp K B "__init__" "Board.__init__" aZ f_bI d_bI)
  (T_bK:Mp K B "kinds" "Board.kinds" W5 f_bK d_bK)
  (T_bP:Mp K B "places" "Board.places" W0 f_bP d_bP)
  (T_bD:Mp K B "deeds" "Board.deeds" W4 f_bD d_bD)
  (T_bC:Mp K B "calls" "Board.calls" R6 f_bC d_bC)
  (T_bS:Mp K B "check_size" "Board.check_size" R8 f_bS d_bS)
  (Nr:Mp K Q0 "__init__" "NoKind.__init__" af TU d_x0)
  (Tj:W.typeIn K (.ref TU)≈(.type "function"))
  (T_w:Tp K "is_word" P_ f_w d_w)
  (T_cr:Tp K "check_rows" Wt f_cr d_cr)
  (T_cu:Tp K "check_ups" Wv f_cu d_cu)
  (T_fa:Tp K "first_among" QH f_fa d_fa)
  (T_en:Tp K "endless" QC f_en d_en)
  (T_fr:Tp K "find_ring" Ww f_fr d_fr)
  (T_aa:Tp K "all_above" Wu f_aa d_aa)
  (T_P:Tp K "_law_pot" Wo f_P d_P)
  (T_T:Tp K "_law_take" QE f_T d_T)
  (T_Le:Tp K "_law_letters" W2 f_Le d_Le)
  (T_ic:Tp K "is_call" IC f_ic d_ic)
  (T_cd:Tp K "check_deeds" Wz f_cd d_cd)
  (T_cc:Tp K "check_call" Ws f_cc d_cc)
  (T_wi:Tp K "within" P9 f_wi d_wi)
  (T_fi:Tp K "fitting" Ry f_fi d_fi)
  (T_nw:Tp K "nearest_with" QI f_nw d_nw)
  (T_na:Tp K "nearest_among" W8 f_na d_na)
  (T_ne:Tp K "nearest" Wd f_ne d_ne)
  (T_to:Tp K "told_of" We f_to d_to)
  (T_td:Tp K "told" Py f_td d_td)
  (T_oe:Tp K "one_of_each" M8 f_oe d_oe)
  (T_at:Tp K "all_told" D_ f_at d_at)
  (T_al:Tp K "_law_alone" Wq f_al d_al)
  (T_nf:Tp K "number_firsts" M9 f_nf d_nf)
  (T_cp:Tp K "check_place" LC f_cp d_cp)
  (T_cb:Tp K "classes_by" LF f_cb d_cb)
  (T_cl:Tp K "classes" Rx f_cl d_cl)
  (T_pa:Tp K "parting_call" R4 f_pa d_pa)
  (T_ce:Tp K "cell_of" Rw f_ce d_ce)
  (T_tb:Tp K "table" P1 f_tb d_tb)
  (T_hl:Tp K "has_lengths" R7 f_hl d_hl)
  (T_ist:Tp K "is_table" Rz f_ist d_ist)
  (T_ct:Tp K "cut" RL f_ct d_ct)
  (T_wk:Tp K "walker" K7 f_wk d_wk)
  (T_isw:Tp K "is_walker" R3 f_isw d_isw)
  (T_cg:Tp K "check_beginnings" QL f_cg d_cg)
  (T_pr:Tp K "parting_rest" R5 f_pr d_pr)
  (T_wby:Tp K "weight_by" Wx f_wby d_wby)
  (T_ckw:Tp K "check_weights" LD f_ckw d_ckw)
  (T_sh:Tp K "shares" Rq f_sh d_sh)
  (T_bo:Tp K "_law_board" M7 f_bo d_bo)
  (T_wr:Tp K "_law_wrong" Wr f_wr d_wr)
  (T_asq:Tp K "_law_asks" M3 f_asq d_asq)
  (T_du:Tp K "_law_due" R0 f_du d_du)
  (T_ask:Tp K "_law_ask" Wn f_ask d_ask)
  (T_ri:Tp K "_law_right" R1 f_ri d_ri)
  (T_L:Tp K "law" bQ f_L d_L)
  (n_ups_of:W.findIn K (.ref C) "ups_of"≈none)
  (n_above_of:W.findIn K (.ref C) "above_of"≈none)
  (n_book_B:W.findIn K (.ref B) "book"≈none)
  (n_width_B:W.findIn K (.ref B) "width"≈none)
  (n_stands_B:W.findIn K (.ref B) "stands"≈none)
  (n_has_B:W.findIn K (.ref B) "has"≈none)
  (g_LETTERS:W.nsIn K mainGlobals "LETTERS"≈(↥(.str Md.letters T_LETTERS)))
  (g_MOST_LETTERS:W.nsIn K mainGlobals "MOST_LETTERS"≈(↥(.int 8 T_MOST_LETTERS)))
  (g_MOST_KINDS:W.nsIn K mainGlobals "MOST_KINDS"≈(↥(.int 24 T_MOST_KINDS)))
  (g_MOST_UPS:W.nsIn K mainGlobals "MOST_UPS"≈(↥(.int 8 T_MOST_UPS)))
  (g_MOST_PLACES:W.nsIn K mainGlobals "MOST_PLACES"≈(↥(.int 4 T_MOST_PLACES)))
  (g_MOST_DEEDS:W.nsIn K mainGlobals "MOST_DEEDS"≈(↥(.int 64 T_MOST_DEEDS)))
  (g_MOST_CALLS:W.nsIn K mainGlobals "MOST_CALLS"≈(↥(.int 512 T_MOST_CALLS)))
  (z_len:W.nsIn K mainGlobals "len"≈none)
  (z_all:W.nsIn K mainGlobals "all"≈none)
  (z_any:W.nsIn K mainGlobals "any"≈none)
  (z_list:W.nsIn K mainGlobals "list"≈none)
  (z_tuple:W.nsIn K mainGlobals "tuple"≈none)
  (z_range:W.nsIn K mainGlobals "range"≈none)
  (z_int:W.nsIn K mainGlobals "int"≈none)
  (z_isinstance:W.nsIn K mainGlobals "isinstance"≈none)
  (z_zip:W.nsIn K mainGlobals "zip"≈none)
  (z_enumerate:W.nsIn K mainGlobals "enumerate"≈none)
  (z_bool:W.nsIn K mainGlobals "bool"≈none)
  (z_dict:W.nsIn K mainGlobals "dict"≈none)
  (z_min:W.nsIn K mainGlobals "min"≈none)
  (z_ValueError:W.nsIn K mainGlobals "ValueError"≈none)
  : ∃ fd:FuncData,(∀(s:Γ) (v:ω),BindsTo s fd ⟨[v],[]⟩ [("script",v)])/\∀ base:Heap,K.In base->base.Ns mainGlobals mg->AN l.prog w K mg base IT 13 fa fd ["script"] (V1 K):=by
 have e:=hfa.symm.trans (W.mg_of X G T_L.a);cases e;obtain⟨_,_,_,_,_,_,rfl⟩:=Tp.ex T_L.fn;have mgC_LETTERS:=W.mg_of X G g_LETTERS;have mgC_MOST_LETTERS:=W.mg_of X G g_MOST_LETTERS;have mgC_MOST_KINDS:=W.mg_of X G g_MOST_KINDS;have mgC_MOST_UPS:=W.mg_of X G g_MOST_UPS;have mgC_MOST_PLACES:=W.mg_of X G g_MOST_PLACES;have mgC_MOST_DEEDS:=W.mg_of X G g_MOST_DEEDS;have mgC_MOST_CALLS:=W.mg_of X G g_MOST_CALLS;have mgN_len:=W.mg_none_of X G z_len;have mgN_all:=W.mg_none_of X G z_all;have mgN_any:=W.mg_none_of X G z_any;have mgN_list:=W.mg_none_of X G z_list;have mgN_tuple:=W.mg_none_of X G z_tuple;have mgN_range:=W.mg_none_of X G z_range;have mgN_int:=W.mg_none_of X G z_int;have mgN_isinstance:=W.mg_none_of X G z_isinstance;have mgN_zip:=W.mg_none_of X G z_zip;have mgN_enumerate:=W.mg_none_of X G z_enumerate;have mgN_bool:=W.mg_none_of X G z_bool;have mgN_dict:=W.mg_none_of X G z_dict;have mgN_min:=W.mg_none_of X G z_min;have mgN_ValueError:=W.mg_none_of X G z_ValueError;obtain⟨aC,pg,hd,po,sa,mk,kc⟩:=TC;have mgC:=W.mg_of X G aC;have M:Mk K C f_mI:=⟨mk,T_mI.a,T_mI.i,kc⟩;obtain⟨aB,pg_B,hd_B,po_B,sa_B,mk_B,kc_B⟩:=TB;have mgB:=W.mg_of X G aB;have M_B:Mk K B f_bI:=⟨mk_B,T_bI.a,T_bI.i,kc_B⟩;have F_mI:=T_mI.fn;have b_mI:=CO "self" "rows" T_mI.fn;have a_mH:=T_mH.a;have M_mH:=md T_mH (CO "self" "word" T_mH.fn);have M_mC:=md T_mC (CO "self" "word" T_mC.fn);have M_mUn:=md T_mUn (FY "self" "one" "other" T_mUn.fn);have M_mW:=md T_mW (Ci "self" T_mW.fn);have F_bI:=T_bI.fn;have b_bI:=Y4 "self" "kinds" "places" "deeds" T_bI.fn;have M_bK:=md T_bK (Ci "self" T_bK.fn);have M_bP:=md T_bP (Ci "self" T_bP.fn);have M_bD:=md T_bD (Ci "self" T_bD.fn);have M_bC:=md T_bC (Ci "self" T_bC.fn);have M_bS:=md T_bS (Ci "self" T_bS.fn);have dQ:=Nr.fn;have dA:=Nr.a;have cz:=CO "self" "word" Nr.fn;have D_w:=df X G T_w (Ci "text" T_w.fn);have D_cr:=df X G T_cr (Ci "rows" T_cr.fn);have D_cu:=df X G T_cu (Ci "ups_of" T_cu.fn);have D_fa:=df X G T_fa (CO "words" "others" T_fa.fn);have D_en:=df X G T_en (Ci "ups_of" T_en.fn);have D_fr:=df X G T_fr (Ci "ups_of" T_fr.fn);have D_aa:=df X G T_aa (CO "ups_of" "word" T_aa.fn);have D_P:=df X G T_P (CO "script" "k" T_P.fn);have D_T:=df X G T_T (CO "pot" "many" T_T.fn);have D_Le:=df X G T_Le (Ci "number" T_Le.fn);have D_ic:=df X G T_ic (FY "kinds" "places" "call" T_ic.fn);have D_cd:=df X G T_cd (FY "kinds" "places" "deeds" T_cd.fn);have D_cc:=df X G T_cc (FY "kinds" "places" "call" T_cc.fn);have D_wi:=df X G T_wi (FY "kinds" "one" "other" T_wi.fn);have D_fi:=df X G T_fi (CO "board" "call" T_fi.fn);have D_nw:=df X G T_nw (Y4 "kinds" "deeds" "near" "number" T_nw.fn);have D_na:=df X G T_na (CO "board" "numbers" T_na.fn);have D_ne:=df X G T_ne (CO "board" "call" T_ne.fn);have D_to:=df X G T_to (Ci "near" T_to.fn);have D_td:=df X G T_td (CO "board" "call" T_td.fn);have D_oe:=df X G T_oe (Ci "rows" T_oe.fn);have D_at:=df X G T_at (Ci "board" T_at.fn);have D_al:=df X G T_al (CO "e" "place" T_al.fn);have D_nf:=df X G T_nf (Ci "things" T_nf.fn);have D_cp:=df X G T_cp (CO "board" "place" T_cp.fn);have D_cb:=df X G T_cb (FY "answers" "words" "place" T_cb.fn);have D_cl:=df X G T_cl (CO "board" "place" T_cl.fn);have D_pa:=df X G T_pa (Y4 "board" "place" "one" "other" T_pa.fn);have D_ce:=df X G T_ce (FY "words" "maps" "call" T_ce.fn);have D_tb:=df X G T_tb (Ci "board" T_tb.fn);have D_hl:=df X G T_hl (FY "maps" "places" "number" T_hl.fn);have D_ist:=df X G T_ist (CO "board" "table" T_ist.fn);have D_ct:=df X G T_ct (CO "numbers" "length" T_ct.fn);have D_wk:=df X G T_wk (Ci "board" T_wk.fn);have D_isw:=df X G T_isw (CO "board" "walker" T_isw.fn);have D_cg:=df X G T_cg (FY "board" "one" "other" T_cg.fn);have D_pr:=df X G T_pr (FY "board" "one" "other" T_pr.fn);have D_wby:=df X G T_wby (CO "weight_of" "call" T_wby.fn);have D_ckw:=df X G T_ckw (CO "kinds" "weights" T_ckw.fn);have D_sh:=df X G T_sh (CO "board" "weights" T_sh.fn);have D_bo:=df X G T_bo (Ci "pot" T_bo.fn);have D_wr:=df X G T_wr (CO "pot" "words" T_wr.fn);have D_asq:=df X G T_asq (FY "pot" "words" "places" T_asq.fn);have D_du:=df X G T_du (gJ "which" "words" "places" "large" "asks" T_du.fn);have D_ask:=df X G T_ask (FY "which" "board" "asks" T_ask.fn);have D_ri:=df X G T_ri (gJ "which" "board" "words" "due" "asks" T_ri.fn);have D_L:=df X G T_L (Ci "script" T_L.fn);have DD:bx K QD:=⟨ga_QD,rd_QD,fi_QD⟩;have TD:ah K mg QD:=⟨W.mg_of X G a_QD,⟨⟨V,V,_,_,_,_,l_QD⟩,val_QD,bas_QD,att_QD,nam_QD,kp_QD⟩,cl_QD,ty_QD⟩;have TF:gN K mg (Ei Q0 Q1 Q2 Q3 Q4 Q5 Q6 Q7 Q8 Q9 CL Ar Aq CK CJ):=⟨W.mg_of X G TY,W.mg_of X G dI,W.mg_of X G dG,W.mg_of X G dF,W.mg_of X G dE,W.mg_of X G dD,W.mg_of X G dC,W.mg_of X G TX,W.mg_of X G dB,W.mg_of X G TV,W.mg_of X G U5,W.mg_of X G L9,W.mg_of X G L8,W.mg_of X G U4,W.mg_of X G U3,MZ Us Ur Uq Up Uo Um Ul Uk Uj Ui PJ PH PD PB O_,MZ Ti Th Tg Tf Te Td Tc Tb Ta TZ Nx Nw Nv Nu Nt⟩;have O0:Fh K QD (Ei Q0 Q1 Q2 Q3 Q4 Q5 Q6 Q7 Q8 Q9 CL Ar Aq CK CJ) 0:=⟨⟨⟨⟨V,V,_,_,_,_,NZ⟩,G8,HJ,HM,HE,Lw⟩,L6,L4,L7,cg_Q,ct_Q,Lq⟩,Tt,MZ OZ OY OX OW OT OS OR OQ OP OO KQ KP KO KN KJ⟩;have I0:Lm K Q0 QD "word":=⟨⟨⟨⟨V,V,_,_,_,_,NZ⟩,G8,HJ,HM,HE,Lw⟩,L6,L4,L7,cg_Q,ct_Q,Lq⟩,⟨V,V,_,_,NZ⟩,Tu,T6⟩;have cL:=W.mg_of X G TY;have O7:Fh K QD (Ei Q0 Q1 Q2 Q3 Q4 Q5 Q6 Q7 Q8 Q9 CL Ar Aq CK CJ) 7:=⟨⟨⟨⟨V,V,_,_,_,_,Su⟩,Gz,HI,HL,G_,Lv⟩,Ud,Ub,Uu,cg_Q,ct_Q,Tz⟩,Ts,MZ ON OM OL OK OJ OI OH OG OF OE Jw Jv Ju Jt Js⟩;have oJ:JJ K mg "TooMany" Q7:=⟨W.mg_of X G TX,⟨⟨V,V,_,_,_,_,Su⟩,Gz,HI,HL,G_,Lv⟩,UT⟩;have O9:Fh K QD (Ei Q0 Q1 Q2 Q3 Q4 Q5 Q6 Q7 Q8 Q9 CL Ar Aq CK CJ) 9:=⟨⟨⟨⟨V,V,_,_,_,_,Ss⟩,Gy,HH,HK,G9,Lu⟩,Uc,Ua,Ut,cg_Q,ct_Q,Tx⟩,Tr,MZ OD OC OB OA N_ N9 N8 N7 N6 N5 Jr Jq Jp Jo Jn⟩;have TP9:JJ K mg "NoCall" Q9:=⟨W.mg_of X G TV,⟨⟨V,V,_,_,_,_,Ss⟩,Gy,HH,HK,G9,Lu⟩,US⟩;have bp:Fh K QD (Ei Q0 Q1 Q2 Q3 Q4 Q5 Q6 Q7 Q8 Q9 CL Ar Aq CK CJ) 11:=⟨⟨⟨⟨V,V,_,_,_,_,Ls⟩,Ez,E5,E7,E2,HG⟩,O2,Oz,PM,cg_Q,ct_Q,Ob⟩,N4,MZ KI KH KG KD KC KA J_ J9 J8 J7 HZ HY HW HV HU⟩;have dM:JJ K mg "NoPlace" Ar:=⟨W.mg_of X G L9,⟨⟨V,V,_,_,_,_,Ls⟩,Ez,E5,E7,E2,HG⟩,Ou⟩;have bo:Fh K QD (Ei Q0 Q1 Q2 Q3 Q4 Q5 Q6 Q7 Q8 Q9 CL Ar Aq CK CJ) 12:=⟨⟨⟨⟨V,V,_,_,_,_,Lr⟩,Ey,E3,E6,E1,HF⟩,O1,Oy,PK,cg_Q,ct_Q,Oa⟩,N3,MZ J6 J5 J4 J3 J2 J1 J0 Jz Jy Jx HS HR HQ HP HN⟩;have dJ:JJ K mg "NoWeights" Aq:=⟨W.mg_of X G L8,⟨⟨V,V,_,_,_,_,Lr⟩,Ey,E3,E6,E1,HF⟩,Ot⟩;have TK:QN mg:=⟨⟨_,mgC_LETTERS⟩,⟨_,mgC_MOST_LETTERS⟩,⟨_,mgC_MOST_KINDS⟩,⟨_,mgC_MOST_UPS⟩,mgN_len,mgN_all,mgN_list,mgN_tuple⟩;have TC:Be K C:=⟨⟨pg,hd,po,sa⟩,n_ups_of,n_above_of⟩;have TBd:Bh K B:=⟨⟨pg_B,hd_B,po_B,sa_B⟩,n_book_B,n_width_B,n_stands_B⟩;have TBm:bN mg:=⟨⟨_,mgC_MOST_PLACES⟩,⟨_,mgC_MOST_DEEDS⟩,mgN_len,mgN_all,mgN_tuple,mgN_list,mgN_enumerate⟩;have hBC:B≠C:=λz=>by rw[z,a_mH]at n_has_B;cases n_has_B
 have TS:SG mg:=⟨⟨_,mgC_MOST_CALLS⟩,mgN_len,mgN_range,mgN_list⟩;exact⟨_,λs v=>.of_eq rfl,λbase _ _=>have GI:=Z2z (P:=l.prog) (w:=w) (base:=base) F_mI TK TC D_cr D_w D_cu D_fr D_en D_fa D_aa;have GB:=sZ (P:=l.prog) (w:=w) (base:=base) F_bI TBm TBd TC D_cd D_ic M_mH hBC;have GP:=zD (P:=l.prog) (w:=w) (base:=base) D_P mgN_len;have GT:=Z2v (P:=l.prog) (w:=w) (base:=base) D_T;have E0:ni l.prog w K mg base "NoKind" ((Ei Q0 Q1 Q2 Q3 Q4 Q5 Q6 Q7 Q8 Q9 CL Ar Aq CK CJ) 0) "word" (SI ((Ei Q0 Q1 Q2 Q3 Q4 Q5 Q6 Q7 Q8 Q9 CL Ar Aq CK CJ) 0) "word" X9) TU _:=⟨cL,I0.toExA.toExC,dA,Tj,cz,zG dQ I0 DD TD.m⟩;have GC:=uM (Ds:=(Ei Q0 Q1 Q2 Q3 Q4 Q5 Q6 Q7 Q8 Q9 CL Ar Aq CK CJ)) M_mC.fn TC M_mH E0;have GCg:=i9 (P:=l.prog) (w:=w) (base:=base) M_mC.fn TC M_mH;have GCa:=sg (P:=l.prog) (w:=w) (base:=base) M_bC.fn TS TBd TC M_mW M_bS D_oe;have GCaX:=uL (P:=l.prog) (w:=w) (base:=base) M_bC.fn TS TBd TC oJ M_mW M_bS D_oe;have GS:=gk (P:=l.prog) (w:=w) (base:=base) M_bS.fn TS TBd TC M_mW;have GSX:=i_ (P:=l.prog) (w:=w) (base:=base) M_bS.fn TS TBd TC oJ M_mW;have GW:=jV (P:=l.prog) (w:=w) (base:=base) D_wi mgN_zip TC M_mUn M_mC M_mH;have GF:=va (P:=l.prog) (w:=w) (base:=base) D_fi TBm mgN_zip TC TBd M_bK M_bP M_bD D_cc D_wi D_ic M_mUn M_mC M_mH;have GA:=xF D_na mgN_list mgN_any TBd M_bK M_bD D_nw D_wi GW;have GN:=vc D_ne D_na GA D_fi GF;have GTd:=Z2u D_td D_ne GN D_to mgN_len;have GAT:=wI D_at TBd M_bC GCa D_td GTd;have GATX:=wy (Ds:=(Ei Q0 Q1 Q2 Q3 Q4 Q5 Q6 Q7 Q8 Q9 CL Ar Aq CK CJ)) D_at TBd M_bC GCaX;have GCP:=xP (P:=l.prog) (w:=w) (base:=base) (C:=C) D_cp TBd M_bP;have GCPX:=uR (P:=l.prog) (w:=w) (base:=base) (C:=C) (Ds:=(Ei Q0 Q1 Q2 Q3 Q4 Q5 Q6 Q7 Q8 Q9 CL Ar Aq CK CJ)) D_cp TBd M_bP dM;have GNF:=vZ (P:=l.prog) (w:=w) (base:=base) D_nf mgN_len;have GNK:=uN (P:=l.prog) (w:=w) (base:=base) D_nf mgN_len;have GCB:=sj (P:=l.prog) (w:=w) (base:=base) D_cb mgN_tuple D_nf GNF;have GCl:=vX (P:=l.prog) (w:=w) (base:=base) D_cl mgN_list TBd TC M_bK M_mW D_cp GCP D_at GAT D_cb GCB;have GClX:=wJ D_cl mgN_list TBd TC M_bK M_mW D_cp GCPX D_at GATX D_cb GCB;have GPa:=Z2y D_pa TBd TC D_cp GCP M_bK M_mC GCg M_bC GCa D_td GTd;have GPaX:=rZ D_pa TBd TC D_cp GCPX M_bK M_mC GC M_bC GCaX;have GCe:=Z22 (P:=l.prog) (w:=w) (base:=base) D_ce mgN_tuple mgN_zip;have GTb:=rm (P:=l.prog) (w:=w) (base:=base) D_tb mgN_range mgN_list TBd TC M_bK M_bP M_mW D_at GAT D_cb GCB D_ce GCe;have GTbX:=uU D_tb D_at GATX;have GHL:=Z20 (P:=l.prog) (w:=w) (base:=base) D_hl mgN_len mgN_all;have GIt:=rX D_ist mgN_len mgN_list TBd TC M_bK M_bP M_mW D_at GAT D_hl GHL;have GItX:=uO D_ist D_at GATX;have GCu:=y_ (P:=l.prog) (w:=w) (base:=base) D_ct mgN_len mgN_range mgN_tuple;have GWk:=uV (P:=l.prog) (w:=w) (base:=base) D_wk mgN_len mgN_range mgN_list TBd TC M_bK M_bP M_mW D_at GAT D_nf GNK D_ct GCu;have GWkX:=vf D_wk mgN_list D_at GATX;have GIw:=rY D_isw mgN_len mgN_list TBd TC M_bK M_bP M_mW D_at GAT;have GIwX:=uP D_isw D_at GATX;have GIc:=aM (P:=l.prog) (w:=w) (base:=base) D_ic mgN_len mgN_all TC M_mH;have GBg:=we D_cg mgN_len TBd M_bK M_bP D_ic GIc;have GBgX:=Z23 (Ds:=(Ei Q0 Q1 Q2 Q3 Q4 Q5 Q6 Q7 Q8 Q9 CL Ar Aq CK CJ)) D_cg mgN_len TBd TP9 M_bK M_bP D_ic GIc;have GPr:=Z2x D_pr mgN_len mgN_list TBd TC D_cg GBg M_bK M_bP M_mW M_bS GS D_oe D_td GTd;have GPrX:=rg D_pr TBd D_cg GBgX M_bS GSX;have GWB:=zF (P:=l.prog) (w:=w) (base:=base) D_wby;have GCk:=y9 (P:=l.prog) (w:=w) (base:=base) D_ckw ⟨mgN_len,mgN_any,mgN_list⟩ TC M_mW;have GCkX:=Z21 (P:=l.prog) (w:=w) (base:=base) (Ds:=(Ei Q0 Q1 Q2 Q3 Q4 Q5 Q6 Q7 Q8 Q9 CL Ar Aq CK CJ)) D_ckw ⟨mgN_len,mgN_any,mgN_list⟩ TC dJ M_mW;have GSh:=uT (P:=l.prog) (w:=w) (base:=base) D_sh ⟨mgN_dict,mgN_zip,mgN_list⟩ TBd TC M_bK M_mW D_at GAT D_ckw GCk D_wby GWB;have GShX:=vd D_sh ⟨mgN_dict,mgN_zip,mgN_list⟩ TBd TC M_bK M_mW D_at GATX D_ckw GCk GCkX;have GAs:=y8 (Ds:=(Ei Q0 Q1 Q2 Q3 Q4 Q5 Q6 Q7 Q8 Q9 CL Ar Aq CK CJ)) D_ask D_cl (AN.or (AN.any (CX:=AZ l.prog w) GCl) (GClX.mono (by decide))) D_pa (AN.or ((AN.any (CX:=AZ l.prog w) GPa).mono (by decide)) (GPaX.mono (by decide))) D_tb (AN.or (AN.any (CX:=AZ l.prog w) GTb) (GTbX.mono (by decide))) D_ist (AN.or (AN.any (CX:=AZ l.prog w) GIt) (GItX.mono (by decide))) D_wk (AN.or (AN.any (CX:=AZ l.prog w) GWk) (GWkX.mono (by decide))) D_isw (AN.or (AN.any (CX:=AZ l.prog w) GIw) (GIwX.mono (by decide))) D_pr (AN.or ((AN.any (CX:=AZ l.prog w) GPr).mono (by decide)) (GPrX.mono (by decide))) D_sh (AN.or (AN.any (CX:=AZ l.prog w) GSh) (GShX.mono (by decide)));have GAl:=sY D_al TD TF mgN_isinstance mgN_ValueError;have GRi:=rh D_ri TD O0 O7 O9 bp bo I0 D_ask GAs D_al GAl;have GWr:=rp D_wr mgN_len D_T GT;zC D_L mgN_range D_P GP D_bo (sf D_bo ⟨mgN_len,mgN_range,mgN_tuple⟩ D_T GT D_Le (vb D_Le) M mgC b_mI GI M_B mgB b_bI GB) D_asq (Z24 D_asq ⟨mgN_len,mgN_range,mgN_tuple⟩ D_T GT D_wr GWr) D_du (zB D_du ⟨mgN_len,mgN_all,mgN_min⟩) D_ri GRi⟩
def walk{l:W.OpenLaw}{q:Δ}{loose:LS}{XP:(Str->OU)->Heap->Prop}{YP:World->Heap->Prop}{d:DefRec}{K:Params->Fg}(hn:l.most≈63)(hdf:d.params.defaults=[])
  (hY:∀(w:World) (h:Heap),YP w h->(K w.params).In h)
  (F:∀(w:World) (mg:Str->OU) (fa:χ) (h:Heap),(K w.params).In h->h.Ns mainGlobals mg->mg d.name≈(.ref fa) ->
   ∃ fd:FuncData,(∀(s:Γ) (u:ω),BindsTo s fd ⟨[u],[]⟩ [("script",u)])/\∀ base:Heap,(K w.params).In base->base.Ns mainGlobals mg->AN l.prog w (K w.params) mg base IT 13 fa fd ["script"] (V1 (K w.params))):
  W.WalkO q loose XP YP l.row.toRowW d [] (λf vs=>PySem.call f vs):=
 L2.walk_of (n:=63) (k:=13) (x:="script") (CX:=λ_=>IT) (sp:=λw=>V1 (K w.params)) hn (by decide) hdf ⟨Y,W,W,Y⟩ hY F (λ_ _ a ns hl _ hS=>⟨a,ns,Y,hS,hl,λ_=>rfl⟩) λ_ _ _ _ _ z=>z
end JT
namespace PySem.W.Fast
set_option hygiene false
local macro_rules|`(command|#check $s:str)=>do
 let mut r:=#[]
 let mut n:=0
 let mut k:=0
 for c in s.getString.toList do
  n:=n*62+(c.toNat-(if c.toNat<58 then 48 else if c.toNat<91 then 55 else 61))
  k:=k+1
  if k%11==0 then
   let i:=Lean.mkIdent (.mkSimple s!"tw{n}")
   r:=r.push (←`(command|def $i:ident:=0))
   n:=0
 return Lean.mkNullNode (r.map (·.raw))
#check "Lfex0XpZEhW2AEylJvcDQU46bqwHq9HjuK9sBoGrxFoQCk4Xw7kQmr45CGDgkCcPoL3ZN3N1DZiTH9BiyGEh5o8BBsw2aOgsYLmGw8DZKxYLFI6syc8JjvhETKGMTbJPXhk3G5hK3EVBNxB2Mw10YDkEWeBnJN5NzPiFU3CaaprJXPWrD4P4r6G9u6TJXSiCoqsZZoDal9NzPbRxbDOTUnkCsmBN7klTBEQdk5NCdbGR08KNNJ44LnoKevDwaDx7XJoh3ucm0YEpWUSydNtAzYVitSB5ycFnGfu6j6xX2BFGIybAiaNf32EJR0WoxelIdRyEGWMgVS46xbAAcnFkCIzT914dKw9UAQHh1izjX6B5dlnmrWUbMW5PXjaaZfHQ44ZfZYHmn5Qf2nmiMC3e1v14ykieFK9mRyJiOgPVc5L0TABtjsTBiBQK5ntn8gHSL9lLjTafNQZ1YiCqfOMBECrcx3x1A7qnVsRq9gv4lqyPX3RHYX8D0ju2uO8vhaR3ucgeY6wtMZJs250dDDCxANZD9VmF5HC7OPBU8KJPnSPCB2qmA0b48VV116985HWIcsbOKJZ3uEdZ1CEqYoLpWuKmumvHi0pNeD7nuYVxGVNasOfrXEzHwZbp9MA3BLGIWIJbxDJA51EejHkLbBlxLSInvQW1WGMKOnGLt5kkqO2GW0raOLlrM0vsF6X4QtzbL7cs7SiXR2U2zSsaldqzseEBQNb3CywXw7yW5kqklOJjJ7PieVIvTnKD0gchrBc3K5A0WSh5BaPe46IywSLl5uibIWjbqpO9MOOFLqP8Lcwa4s9U0by5QVe87FFZPbVChPiyFkyugLvMVXVGyqvL0PNttfB5sW6du0ZUP0dOSAhUAP0ZJkjhl49XJrUCz8bUAbAQZI1ycrhyrom4U4yyGhQMPULUKhlpIC3zapTBW8P1sFwqNxKOWbhhNlve991E5L4lOm240sauK4X4Odb2YAI64QDN1dEBHM2Ds1qw42kY6CFrcE8CE00gwdptpTdK3fJAftzPfPDOkP7p17EZR7a8dWYfNCUqJwbQrmM65EGB1D9Ky8POoOH5ZmI1fkiRX9CMYzPeeRGXEJ1fJPjG5McAIyDfJPXviU1dTkHWzr5ESKchnqbcv2bHG5hByHR4DRtCYFbDx2N1M73uhvhMhM2d8KRKt1jhm2o03W3HSx8rGeR8nfg7iKmzVk5cG1GiPRcgm9xnvkddM8b81HfuF0z7rTT8CvQnjaMZL26YRkeX6F3LNJMhl8tefOrrDv3Kj6JPFEoAp75CIZ0r9O29eYDcBmZZmCOhJE1qdtfM1gWxJWnnw4x7pweJTfoFWGGjRfOtSCjpt3yirSImPDUCDPR1rKb55va8Yp02dWhny6B0yiLW8iqhQ0mIp3yUm7Lm4vIM5XpW3QH65zKz4zBz8pFvBzSF69edUH3lskT6bcjQ7vgabDzwqPlKaS4oDgMyV3FbYHiIFF0KqBjxcAvoyRpJIuH6IcGC4nf9IaFDjjxKmsLc99iSlDWAt619SdFSZ48YA52n1zKmeyj5VJde75PGsM4Dfs79ZboDeJPiF4pE2OvPIUNMb3C7fwX14wsACtY8o2AM9Qa6raGULJDuXxut3UA1DaDyzXEcqcbDgfHZpDkPsELL2gPjH3q1mDBVxXjcuCRqDJrUvTRhOih6Ezn4NYIODK17afP2mGWFd3OzRsOzgOQZBnDhzClElEE6K2jOvoNWgSLbqdX0012me4796RDdUmNVGyrjyA1cio28I2uA1i7YfVF1ipQ7IPDXTAJ0JB1VNa02CCvXIcpahCH2aO7mpwtCf77qEz8fMqrk2Dd4tnk8zlFd4doEcr4BAi7FlQXr008mEBKsfu5Ji6PGT46njmlRfmgjJHaPvTZMGPvEAdKpOGkC2a4qs6WNeYwVTLbY52OsmJkh6Ha5yjSFWBi4VDzSMSw4HT2zj6ULKtXe7DRShHg7m0Cm0hkV2iGTagUDwWJzJJNZf23JemYUBUcMQ14QltCXwJfP9F8StS4DYZADp6zfEX4DMcJI8hcxlPZjQ45dQFJS0GsU4ybDLKtr1fk83dzPWGRrMQEqQcoJQjL4lBlK1FA06LME1T25xdM9rD9KUklpBEABuY75h3CbihXWl7NTzRJBLmwv8l06MnHmydu5EIS5CGJlJC7f5cBki43UiDVvaGpNtWmWLuhfYYzoeVf1RHFP6Lo3CCKgPmgeqphnzBc3K36G0llz2RkxNJMaI1rA5zUtniD2KfEbNjr5btCIFCKLExJVDbbPHuErr2tlAaMFknTriIXFtGHyJAmWRCil0GBlCk3JSYeeD10LEmh28OfFuCrgHBS8Dh8kHUwFtoWw8I6v83xCc1dzGSJthBrTxb8F36QIqzqeoJGPsZbuNXteWKPSFA6nawDq6djfiWpwshNBx0dxeTOFNnGSZiWCo2Iwu9xFH9pR3Apl7AueRnsKAee5Pt9vCj0TWV031i4hvjikO2MIvvf9Gjbm2B8vGjpE2SQ1t5FUH8Yc9GHEz2tMnp420Gh5EKMDvoEOEGlL8k5Q89qEkDvNOaVYQ8A3bhVKYNwJiHJfBwmX0AWs8aqQNdeJk8qIMkqO0oB7QHHlcTN2UEWqd0ymjqTvPU8l3MBTnFdaeRo1z44my9Z4iT99YetesT62kDC8bvKcsNvmGeRuKlsRlcBCWFeTACSNP6HnxvpCYo3ONA0Teu1mQQan5d55kKfNtI50O6KAZwiLDiLJO4AUr6KxCGUhVwiAlkRFGLWEVtDjDpRFh7FeiviOYOEYVsMDpSsn4E5kqEQLtlZG71AYBlmOpzB0PdSAnP7RHAHrOeo2h6mu53FfbHp34OIO1yqWz7MD6xvLnT0GaLBuVSKeN0ijqGM4eH7hkjACFWz30i4QKyWe7w42vPBe0S3hMkL1tWVgm7xf7CcxVMgoXCqeBfp4hLk3aRw2d27YL7oX6RDKPIaeaU8MqBB9p0hpSX7z1tx8vA2j11yHlYSEE8FzaKELyUK5PZ7BvBcntWg3S0BgFtEwflhuTjpFWUcKjlDn7PAlivzkr6QpCKKISyfc1Cld3ujSMyyBzX7JXO7Q7QlwgrGdNBAUOiYtZ9Udn7ZO22f1JeJTqMjNhKd9t34bIkre3dHrKwevpzNrSLOqIlCh4uzSHiiiwDRAjvVFgPzwRqXArHElAcrtlfH8eBfuU3S7WkxjLn3oxQ7UysHEWuj2OLaqEz9Nv3YWFgQauJxFh3ev7AiYDroRXAOmKEQ0W1C9NIu51n0nSo42gWI2M7pe7BFCpXwN"
end PySem.W.Fast
open PySem PySem.W PyProof.Rows
set_option maxRecDepth 100000 in
set_option maxHeartbeats 0 in
theorem PySem.Challenge.cw_manydeeds_k49_tables_refused_holds : PySem.Challenge.rw_manydeeds_k49_tables_refused.Holds := by
 w_on;o_law;k_head;(case hw=>w_witness2)
 k_fill
 refine JT.walk (l:=PySem.Challenge.rw_manydeeds_k49_tables_refused) rfl rfl (λw h Y=>W.kIn_of Y) ?F
 case F =>
  intro w mg fa h KX G hmg;refine' JT.all_mk KX G hmg ..
  skip
  any_goals first | exact L2.tp (by k_is) (by k_is) (by k_is) (by k_is) | exact L2.mp (by k_is) (by k_is) (by k_is) (by k_is) (by k_is) | exact⟨by k_is,by k_is,by k_is,by k_is,by k_is,by k_is,by k_is⟩ | k_is
