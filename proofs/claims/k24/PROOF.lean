import PyProof.Rows.All
import Wide.All
import OpenK.AllK
import Wide.FinOn
import Lean
import PyProof.EqAt
import PyProof.EqKinds
import PyProof.TupleCall
import PySem.Challenge.RW_manydeeds_k24_ranked_by_lineups
set_option Elab.async false
set_option linter.all false
set_option maxRecDepth 100000
abbrev EV:=PySem.Value->PySem.Shared->Prop
abbrev PL:=List (PySem.Addr×PySem.Obj)
abbrev LU:=List PySem.Value
abbrev OU:=Option PySem.Value
abbrev LN:=List Nat
def Ja:=@PySem.wpAny_bind
def Jb:=@decide_eq_true
def Jc:=@decide_eq_false
def Jd:=@PySem.wpAny_pure
def Je:=@of_decide_eq_true
def Jf:=@PySem.wpAny_mono
def Jg:=@PySem.wpAny_field
def Jh:=@PySem.wpAny_truthy_bool
def Ji:=@PySem.wpAny_loadPart_at
def Jj:=@PySem.wpAny_holding
set_option hygiene false
local macro_rules|`(tactic|rfl')=>`(tactic|decide +kernel)
local macro_rules|`(tactic|ac_rfl)=>`(tactic|intro pins s σ H Q I h)
local macro_rules|`(tactic|exfalso)=>`(tactic|intro pins s σ H x y v u Q I rx ry h)
abbrev RS:=List (PySem.Str×List PySem.Str)
abbrev LS:=List PySem.Str
abbrev Fg:=PySem.W.Frag
def Ya:=@List.length_map
def Yb:=@List.getElem?_eq_getElem
def Yc:=@PySem.Heap.get?_push_of_some
def Yd:=@Nat.le_refl
def Ye:=@PySem.Heap.lt_size
def Yf:=@List.getElem?_map
def Yg:=@List.mem_map
def Yh:=@List.mem_of_getElem?
def Yi:=@List.mem_singleton
def Yj:=@Ne.symm
def Yk:=@List.getD_eq_getElem?_getD
def Yl:=@PySem.Heap.get?_push_size
def Ym:=@List.map_cons
def Yn:=@List.getElem?_eq_some_iff
def Yo:=@List.size_toArray
def Yp:=@Nat.lt_of_lt_of_le
def Yq:=@Bool.false_ne_true
def Yr:=@List.mem_cons
def Ys:=@Nat.ne_of_lt
def Yt:=@List.mem_append
def Yu:=@PyProof.Rows.boot_isinstance
def Yv:=@Option.some.inj
def Yw:=@PySem.F.plainAttrs_list
def Yx:=@List.length_append
def Yy:=@PySem.boot_len
def Yz:=@List.length_take
def Bk:=@Int.toNat_natCast
def Bc:=@List.all_eq_true
def A6:=@Nat.le_trans
def Bj:=@List.length_cons
def Cq:=@List.mem_append_right
def Bb:=@PySem.PassesOwn.never
def A7:=@Nat.zero_le
def Bw:=@List.map_append
def Ba:=@PySem.Paired.length
def Dp:=@PySem.mem_of_lookup
def Dn:=@List.pairwise_cons
def C7:=@List.lookup_cons
def Co:=@PySem.Heap.size_push
def Dm:=@List.take_add_one
def FI:=@PyProof.Rows.boot_list
def Cz:=@List.mem_range
def Dl:=@Bool.and_eq_true
def CV:=@List.map_map
def FG:=@List.mem_cons_of_mem
def Ii:=@PyProof.Rows.callWith_type1
def Cy:=@Nat.ne_of_gt
def Ih:=@List.getElem?_append_right
def Gu:=@List.getElem?_eq_none
def Fq:=@List.filter_eq_self
def Fp:=@Int.toNat_of_nonneg
def He:=@Option.map_eq_some_iff
def FJ:=@List.take_length
def J3:=@List.nodup_iff_pairwise_ne
def Fx:=@List.any_eq_true
def J1:=@PySem.F.slot_list_append
def J0:=@PySem.F.type_list_append
def Hh:=@Array.length_toList
def Nn:=@PyProof.Rows.slot_tuple_getitem
def Fu:=@List.append_nil
def Ft:=@List.nodup_cons
def Ip:=@List.getElem?_of_mem
def Hg:=@Int.natCast_nonneg
def Jz:=@PySem.Heap.get?_update_other
def Gv:=@Nat.le_add_right
def LL:=@List.getElem?_append_left
def Ik:=@List.length_pos_iff
def Hf:=@List.length_range
def FH:=@Nat.lt_irrefl
def Jv:=@List.length_filter_le
def Ju:=@PySem.F.slot_zip_next
def Ep:=@Int.zero_add
def Jt:=@List.take_append_drop
def LI:=@PySem.F.slot_list_insert
def LH:=@PySem.F.type_list_insert
def Gs:=@List.mem_filter
def Ie:=@List.mem_cons_self
def Ic:=@Bool.false_eq_true
def Lb:=@PyProof.Rows.boot_tuple
def Hi:=@List.length_drop
def J2:=@List.mem_of_mem_take
def LZ:=@List.take_of_length_le
def LY:=@PySem.Heap.get?_update_self
def LW:=@Array.getElem?_toList
def Fw:=@List.map_nil
def Nl:=@PyProof.Rows.boot_sorted
def LQ:=@List.mem_append_left
def Io:=@Bool.eq_iff_iff
def Im:=@List.length_set
def Il:=@PyProof.Rows.KeyOrd.kle_refl
def LM:=@beq_eq_false_iff_ne
def LK:=@List.getElem?_range
def Fs:=@Nat.le_succ
def Pn:=@Array.getElem?_eq_some_iff
def Jw:=@List.getElem_mem
def Ta:=@PySem.F.slot_tuple_iterator_next
def Ij:=@List.Perm.refl
def LJ:=@Int.emod_lt_of_pos
def Nj:=@PyProof.Rows.boot_all
def Pl:=@List.drop_eq_getElem_cons
def Pk:=@List.mem_or_eq_of_mem_set
def Gr:=@PySem.Paired.snoc
def Pj:=@Option.isSome_iff_exists
def Nh:=@List.mem_iff_getElem
def La:=@List.append_assoc
def Iq:=@List.map_take
def Nr:=@List.map_congr_left
def Nq:=@PySem.Heap.SameBut.update
def LX:=@List.filter_cons
def Pw:=@List.drop_of_length_le
def Nm:=@PySem.Obj.data_mapFields
def LR:=@List.find?_cons
def LP:=@List.forIn_cons
def Pu:=@PySem.Obj.isFreed_of_fields
def LO:=@Int.emod_nonneg
def Jy:=@List.any_cons
def Nk:=@List.pairwise_map
def Pp:=@List.length_dropLast
def Te:=@Classical.byContradiction
def Jx:=@Nat.le_of_lt
def Tc:=@PySem.AutoSeq1.wpAny_loadPart'
def Pm:=@List.length_reverse
def Wy:=@List.eraseIdxIfInBounds_toArray
def TZ:=@List.eraseIdx_cons_succ
def TY:=@PySem.F.args_zip_next_1
def TX:=@PySem.F.slot_list_index
def LG:=@Bool.true_and
def LF:=@List.map_drop
def Ni:=@List.of_mem_zip
def Ng:=@List.length_zip
def To:=@List.getElem?_set_self
def Tn:=@PySem.F.entry_zip_next
def Tj:=@PySem.SeqAt.canLay_of_shaped
def Px:=@Nat.lt_succ_of_lt
def Np:=@List.nodup_nil
def Ti:=@PySem.F.slot_list_pop
def Th:=@PySem.F.type_list_pop
def Tg:=@PyProof.Rows.boot_any
def Tf:=@List.mem_of_mem_drop
def Pt:=@List.perm_middle
def W3:=@PySem.F.excBase_ValueError
def Pq:=@List.length_nil
def W2:=@List.getElem?_zip_eq_some
def Po:=@List.filter_map
def W0:=@PySem.F.args_tuple_add_2
def Td:=@Nat.lt_of_le_of_lt
def Tb:=@List.lookup_append
def Wz:=@List.mem_of_mem_eraseIdx
def Wx:=@List.getElem?_replicate
def Ww:=@PySem.F.entry_tuple_add
def Wv:=@PySem.PyData.showableAll_strs
def Wu:=@PySem.F.type_list_index
def Wt:=@List.length_eraseIdx_le
def TV:=@decide_eq_decide
local macro_rules|`(tactic|nofun)=>`(tactic|exact ⟨rfl,rfl,rfl,by decide +kernel,rfl,by decide +kernel,by decide +kernel⟩)
set_option hygiene false
local macro_rules|`(tactic|nomatch $t)=>`(tactic|refine $t (fun vs H Q E h=>?_) (fun Ai A outer s H vs Q E hr h=>?_))
local macro_rules|`(⋯)=>`(Ax P w K mg base Hk)
noncomputable section
local macro_rules | `(tactic| ac_nf)=>`(tactic| (with_reducible show let X:=_;let d:=_;∃ t,Bo X _ t∧t d _ _);intros)
local macro_rules | `(tactic|exists $t)=>`(tactic|(with_reducible show let a:=_;$t);intros)
local macro_rules|`(⟨$a,*⟩)=>do
 let b:=a.getElems
 if b.any fun x=>[`Z,`Y,`W,`V,`U,`O,`Q,`J].contains x.raw.getId then
  let c←b.mapM fun x=>(match x.raw.getId with|`Z=>return #[←`(_),←`(rfl)]|`Y=>return #[←`(rfl)]|`W=>return #[←`(by omega)]|`V=>return #[←`(by decide)]|`U=>return #[←`(by rw[Ya];omega)]|`O=>return #[←`(sL (by show 2<=100000;decide))]|`Q=>return #[←`(ne),←`(hlo),←`(hll),←`(L),←`(ok),←`(λz=>im (by have:=nei nn;omega))]|`J=>return #[←`(by k_is),←`(by k_is),←`(by k_is),←`(by k_is),←`(by k_is),←`(by k_is)]|_=>return #[x]:Lean.MacroM (Array Lean.Term))
  let d:Array Lean.Term:=c.flatten
  `(⟨$d,*⟩)
 else Lean.Macro.throwUnsupported
namespace L2
open PySem PySem.Spec PyProof.Rows
abbrev Key:=Sum Int Str
def Kl:Key->Value->Bool
 | .inl k,v=>Value.isInt k v
 | .inr x,v=>Value.isStrOf x v
def qm(w:World):Key->Int
 | .inl k=>hashInt k
 | .inr x=>hashStr w x
def Hd:∀ {k:Key}{v:Value},Kl k v=true->(∃ i t,k=Sum.inl i/\v=Value.int i t)\/(∃ x t,k=Sum.inr x/\v=Value.str x t)
 | .inl i,v,h=>by
  obtain⟨t,e⟩:=Value.isInt_shape (k:=i) (v:=v) h;exact .inl ⟨i,t,Y,e⟩
 | .inr x,v,h=>by
  obtain⟨t,e⟩:=Value.isStrOf_shape (x:=x) (v:=v) h;exact .inr ⟨x,t,Y,e⟩
def mQ(i:Int)(t:Tok):Kl (.inl i) (.int i t)=true:=by simp[Kl,Value.isInt]
def mR(x:Str)(t:Tok):Kl (.inr x) (.str x t)=true:=by simp[Kl,Value.isStrOf]
def tP(a b:Int):decide ((Sum.inl a:Key)=Sum.inl b)=(a == b):=by
 by_cases e:a=b
 ·subst e;simp
 ·have h:¬ (Sum.inl a:Key)=Sum.inl b:=λq=>e (Sum.inl.inj q);rw[Jc h];exact(LM.mpr e).symm
def tS(a b:Str):decide ((Sum.inr a:Key)=Sum.inr b)=decide (a=b):=by
 by_cases e:a=b
 ·subst e;simp
 ·have h:¬ (Sum.inr a:Key)=Sum.inr b:=λq=>e (Sum.inr.inj q);rw[Jc h,Jc e]
def tQ(a:Int)(b:Str):decide ((Sum.inl a:Key)=Sum.inr b)=false:=Jc (λq=>nomatch q)
def tR(a:Str)(b:Int):decide ((Sum.inr a:Key)=Sum.inl b)=false:=Jc (λq=>nomatch q)
def CT(prog:Program)(w:World):PySem.KeyKind prog w Key where
 is:=Kl
 hash:=qm w
 inj:=λv a b ha hb=>by
  rcases Hd ha with⟨i,t,rfl,rfl⟩ | ⟨x,t,rfl,rfl⟩
  ·rcases Hd hb with⟨j,u,rfl,e⟩ | ⟨y,u,rfl,e⟩
   ·injection e with e1 _;rw[e1]
   ·exact nomatch e
  ·rcases Hd hb with⟨j,u,rfl,e⟩ | ⟨y,u,rfl,e⟩
   ·exact nomatch e
   ·injection e with e1 _;rw[e1]
 byValue:=λk v h=>by
  rcases Hd h with⟨i,t,rfl,rfl⟩ | ⟨x,t,rfl,rfl⟩ <;> rfl
 pyHash:=λhv h=>by
  rcases Hd hv with⟨i,t,rfl,rfl⟩ | ⟨x,t,rfl,rfl⟩
  ·exact wpAny_pyHash_int h
  ·exact wpAny_pyHash_str h
 eqBool:=λhu hv h=>by
  rcases Hd hu with⟨i,t,rfl,rfl⟩ | ⟨x,t,rfl,rfl⟩
  ·rcases Hd hv with⟨j,u,rfl,rfl⟩ | ⟨y,u,rfl,rfl⟩
   ·rw[tP]at h;exact wpAny_eqBool_int h
   ·rw[tQ]at h;exact SeqAt.EqAt.int_str i t y u _ _ _ _ h
  ·rcases Hd hv with⟨j,u,rfl,rfl⟩ | ⟨y,u,rfl,rfl⟩
   ·rw[tR]at h;exact SeqAt.EqAt.str_int x t j u _ _ _ _ h
   ·rw[tS]at h;exact wpAny_eqBool_str h
 «strs»:=λk x t v h=>by
  rcases Hd h with⟨i,u,rfl,e⟩ | ⟨y,u,rfl,e⟩
  ·exact nomatch e
  ·injection e with e1 _;subst e1;cases v <;> rfl
def ph(prog:Program)(w:World)(i:Int)(t:Tok):(CT prog w).is (.inl i) (.int i t)=true:=mQ i t
def p6(prog:Program)(w:World)(x:Str)(t:Tok):(CT prog w).is (.inr x) (.str x t)=true:=mR x t
inductive V where
 | non | bl (b:Bool) | int (i:Int) | str (x:Str) | byt (b:Array UInt8) | flt (b:UInt64) | ref (a:Addr) | ty (n:String)
 deriving DecidableEq
abbrev _root_.LV:=List V
abbrev _root_.OV:=Option V
abbrev _root_.KL:=List (Key×V)
def AS:V->Value->Prop
 | .non,u=>u=Value.none
 | .bl b,u=>u=Value.bool b
 | .int i,u=>∃ t,u=Value.int i t
 | .str x,u=>∃ t,u=Value.str x t
 | .byt b,u=>∃ t,u=Value.bytes b t
 | .flt b,u=>∃ t,u=Value.float b t
 | .ref a,u=>u=Value.ref a
 | .ty n,u=>u=Value.type n
abbrev AO:LV->LU->Prop:=Paired AS
theorem AO.length{xs:LV}{us:LU}(r:AO xs us):xs.length=us.length:=Ba r
theorem AO.get:∀ {xs:LV}{us:LU}{i:Nat}{x:V},AO xs us->xs[i]?=some x->∃ u,us[i]?=some u/\AS x u
 | _,_,_,_,.nil,e=>by simp at e
 | _,_,0,_,.cons r _,e=>by simp at e;subst e;exact⟨Z,r⟩
 | _,_,i + 1,x,.cons _ t,e=>by
  obtain⟨u,h1,h2⟩:=AO.get (i:=i) (x:=x) t (by simpa using e);exact⟨u,by simpa using h1,h2⟩
theorem AO.set{x:V}{u:Value}(r:AS x u):∀ {xs:LV}{us:LU}(i:Nat),AO xs us->AO (xs.set i x) (us.set i u)
 | _,_,_,.nil=>.nil
 | _,_,0,.cons _ t=>.cons r t
 | _,_,i + 1,.cons q t=>.cons q (AO.set r i t)
theorem AO.append:∀ {xs ys:LV}{us ws:LU},AO xs us->AO ys ws->AO (xs++ys) (us++ws)
 | _,_,_,_,.nil,s=>s
 | _,_,_,_,.cons r t,s=>.cons r (AO.append t s)
theorem AO.take:∀ {xs:LV}{us:LU}(n:Nat),AO xs us->AO (xs.take n) (us.take n)
 | _,_,0,_=>.nil
 | _,_,_ + 1,.nil=>.nil
 | _,_,n + 1,.cons r t=>.cons r (AO.take n t)
theorem AO.drop:∀ {xs:LV}{us:LU}(n:Nat),AO xs us->AO (xs.drop n) (us.drop n)
 | _,_,0,r=>r
 | _,_,_ + 1,.nil=>.nil
 | _,_,n + 1,.cons _ t=>AO.drop n t
def D9:OV->OU->Prop
 | some v,some u=>AS v u
 | none,none=>True
 | _,_=>False
def KV{κ:Type}:List (κ×V)->List (κ×Value)->Prop:=Paired λ(p:κ×V) (q:κ×Value)=>p.1=q.1/\AS p.2 q.2
def kV:Key->V
 | .inl i=>.int i
 | .inr x=>.str x
inductive HO where
 | lst (xs:LV)
 | tup (xs:LV)
 | dK (kvs:KL) | dT (kvs:List (List Key×V))
 | set (S:Int->Bool) (n:Nat)
 | ins (C dx:Addr) (fs:List (Str×V))
 | own (x:Addr)
 | xd (fs:List (Str×V))
 | met (f x:Addr)
 | rng (lo hi:Int)
 | frz (o:Obj) (u:HO)
 | tbl (ps:Array Value)
 | ext (φ:Heap->Prop)
abbrev Hp:=Addr->Option HO
def upd(H:Hp)(a:Addr)(o:HO):Hp:=λb=>if b=a then some o else H b
def uS{H:Hp}{a:Addr}{o:HO}:upd H a o a=some o:=by unfold upd;rw[if_pos rfl]
def AD{H:Hp}{a b:Addr}{o:HO}(h:b≠a):upd H a o b=H b:=by unfold upd;rw[if_neg h]
def M7{H:Hp}{a:Addr}{o u:HO}:upd (upd H a o) a u=upd H a u:=by
 funext b;unfold upd;split <;> rfl
def Ws{H:Hp}{a b:Addr}{o u:HO}(h:H a=some o)(h':H b=some u)(d:o≠u):a≠b:=by
 intro e;subst e;rw[h]at h';exact d (Yv h')
def AF{H:Hp}{a b:Addr}{o:HO}(h:H a=some o)(h':H b=none):a≠b:=by
 intro e;subst e;rw[h]at h';cases h'
section
variable (P:Program)(w:World)
def A2(H:Hp)(h:Heap)(a:Addr):HO->Prop
 | .lst xs=>xs.length<=sizeLine/\∃(its:LU) (n:Nat),AO xs its/\h.get? a=some {cls:=.type "list",data:=.seq its.toArray n}
 | .tup xs=>xs.length<=sizeLine/\∃ its:LU,AO xs its/\IsTup h a its.toArray
 | .dK kvs=>kvs.length<=sizeLine/\(a == sysModules)=false/\∃ vs,KV kvs vs/\h.DictOf (CT P w) a vs
 | .dT kvs=>kvs.length<=sizeLine/\(a == sysModules)=false/\∃ xs:List (List Key×Addr×Value),
   Paired (λ(p:List Key×V) (q:List Key×Addr×Value)=>p.1=q.1/\H q.2.1=some (.tup (p.1.map kV))/\AS p.2 q.2.2) kvs xs /\
   ∃ o es ep,h.get? a=some o/\o.ExactDict/\o.data=.dict es ep/\es.toList=xs.map (entryOfKey (tupleKind (CT P w)))/\(xs.map (·.1)).Nodup
 | .set S n=>h.SetOf (intKind P w) a S n
 | .ins C dx fs=>H dx=some (.own a)/\fs.length<=1000/\dx≠a/\h.get? a=some (W.instObj C dx) /\
   ∃ mA,h.Ns1 dx mA/\(∀ f,D9 (fs.lookup f) (mA f))/\PySem.Within mA (fs.map (·.1))
 | .own _=>∃ o,h.get? a=some o
 | .xd fs=>∃ mA,h.Ns1 a mA/\∀ f,D9 (fs.lookup f) (mA f)
 | .rng lo hi=>∃ t u v,h.get? a=some {cls:=.type "range",data:=.fields #[.int lo t,.int hi u,.int 1 v] }
 | .frz o u=>h.get? a=some o/\A2 H h a u
 | .tbl ps=>h.get? a=some {cls:=.none,data:=.fields ps}
 | .met f x=>h.get? a=some (W.methodObj (.ref f) (.ref x))
 | .ext φ=>φ h/\(∃ o,h.get? a=some o)/\∀ h1 h2:Heap,φ h1->(∀ o,h1.get? a=some o->h2.get? a=some o)->φ h2
def BE(H:Hp)(h:Heap):Prop:=∀ a o,H a=some o->A2 P w H h a o
end
section
variable {P:Program}{w:World}{H H':Hp}{h h':Heap}{a:Addr}{o:HO}
theorem A2.lt(x:A2 P w H h a o):a<h.objs.size:=by
 cases o with
 | lst xs=>obtain⟨_,_,_,_,e⟩:=x;exact Ye e
 | tup xs=>obtain⟨_,_,_,p⟩:=x;exact p.lt
 | dK kvs=>obtain⟨_,_,_,_,o,_,_,e,_⟩:=x;exact Ye e
 | dT kvs=>obtain⟨_,_,_,_,o,_,_,e,_⟩:=x;exact Ye e
 | set S n=>obtain⟨o,_,_,_,e,_⟩:=x;exact Ye e
 | ins C dx fs=>obtain⟨_,_,_,e,_⟩:=x;exact Ye e
 | own y=>obtain⟨_,e⟩:=x;exact Ye e
 | xd fs=>obtain⟨_,⟨_,_,_,e,_⟩,_⟩:=x;exact Ye e
 | rng lo hi=>obtain⟨_,_,_,e⟩:=x;exact Ye e
 | frz ob u=>obtain⟨e,_⟩:=x;exact Ye e
 | tbl ps=>exact Ye (show h.get? a=some _ from x)
 | met f y=>exact Ye (show h.get? a=some _ from x)
 | ext φ=>obtain⟨_,⟨_,e⟩,_⟩:=x;exact Ye e
theorem Paired.mapP{α β:Type}{F G:α->β->Prop}:∀ {l₁:List α}{l₂:List β},Paired F l₁ l₂->(∀ a b,F a b->G a b)->Paired G l₁ l₂
 | _,_,.nil,_=>.nil
 | _,_,.cons r t,f=>.cons (f _ _ r) (Paired.mapP t f)
def A2.stay(x:A2 P w H h a o)(k:∀ b u,(b=a\/H b=some (.own a))->h.get? b=some u->h'.get? b=some u)
  (ho:∀ b,H b=some (.own a)->H' b=some (.own a)) (ht:∀ b xs,H b=some (.tup xs)->H' b=some (.tup xs)):A2 P w H' h' a o:=by
 induction o with
 | lst xs=>obtain⟨z,its,n,r,e⟩:=x;exact⟨z,its,n,r,k _ _ (.inl rfl) e⟩
 | tup xs=>obtain⟨z,its,r,ob,e,c⟩:=x;exact⟨z,its,r,ob,k _ _ (.inl rfl) e,c⟩
 | dK kvs=>obtain⟨z,y,vs,r,ob,es,ep,e,c⟩:=x;exact⟨z,y,vs,r,ob,es,ep,k _ _ (.inl rfl) e,c⟩
 | dT kvs =>
  obtain⟨z,y,xs,r,ob,es,ep,e,c⟩:=x;exact⟨z,y,xs,Paired.mapP r λp q z=>⟨z.1,ht _ _ z.2.1,z.2.2⟩,ob,es,ep,k _ _ (.inl rfl) e,c⟩
 | set S n=>obtain⟨ob,es,ep,t,e,c⟩:=x;exact⟨ob,es,ep,t,k _ _ (.inl rfl) e,c⟩
 | ins C dx fs =>
  obtain⟨d,z,ne,e,mA,⟨od,es,ep,e2,c⟩,r⟩:=x;exact⟨ho _ d,z,ne,k _ _ (.inl rfl) e,mA,⟨od,es,ep,k _ _ (.inr d) e2,c⟩,r⟩
 | own y=>obtain⟨ob,e⟩:=x;exact⟨ob,k _ _ (.inl rfl) e⟩
 | xd fs=>obtain⟨mA,⟨od,es,ep,e,c⟩,r⟩:=x;exact⟨mA,⟨od,es,ep,k _ _ (.inl rfl) e,c⟩,r⟩
 | rng lo hi=>obtain⟨t,u,v,e⟩:=x;exact⟨t,u,v,k _ _ (.inl rfl) e⟩
 | frz ob u ih=>obtain⟨e,q⟩:=x;exact⟨k _ _ (.inl rfl) e,ih q⟩
 | tbl ps =>
  have e:h.get? a=some {cls:=.none,data:=.fields ps}:=x;show h'.get? a=some {cls:=.none,data:=.fields ps};exact k a _ (.inl rfl) e
 | met f y =>
  have e:h.get? a=some (W.methodObj (.ref f) (.ref y)):=x;show h'.get? a=some (W.methodObj (.ref f) (.ref y));exact k a _ (.inl rfl) e
 | ext φ=>obtain⟨p,⟨o,e⟩,st⟩:=x;exact⟨st _ _ p λo q=>k _ _ (.inl rfl) q,⟨o,k _ _ (.inl rfl) e⟩,st⟩
theorem BE.lt(x:BE P w H h)(e:H a=some o):a<h.objs.size:=(x a o e).lt
def BE.fresh(x:BE P w H h)(e:h.objs.size<=a):H a=none:=by
 cases q:H a with
 | none=>rfl
 | some u=>exact absurd (Yp (x.lt q) e) (FH _)
def BE.kept(x:BE P w H h)(k:∀ b u,h.get? b=some u->h'.get? b=some u):BE P w H h':=λa o e =>
 (x a o e).stay (λb u _ q=>k b u q) (λ_ q=>q) λ_ _ q=>q
def BE.laid(x:BE P w H h)(k:∀ b u,h.get? b=some u->h'.get? b=some u)(hp:h.objs.size<=a)(new:A2 P w (upd H a o) h' a o):BE P w (upd H a o) h':=λb u e=>by
 have hn:=x.fresh hp;by_cases hb:b=a
 ·subst hb;rw[uS]at e;cases e;exact new
 ·rw[AD hb]at e;exact(x b u e).stay (λc v _ q=>k c v q) (λc q=>by rw[AD (AF q hn)];exact q) λc xs q=>by rw[AD (AF q hn)];exact q
end
def Rd(H:Hp)(a:Addr)(u:HO):Prop:=H a=some u\/∃ o,H a=some (.frz o u)
def Rd.ok{P:Program}{w:World}{H:Hp}{h:Heap}{a:Addr}{u:HO}(r:Rd H a u)(x:BE P w H h):A2 P w H h a u:=by
 rcases r with r | ⟨o,r⟩
 ·exact x a u r
 ·obtain⟨_,q⟩:=x a _ r;exact q
def P5:Option HO->Prop
 | some (.lst _)=>True
 | some (.dK _)=>True
 | some (.dT _)=>True
 | some (.set _ _)=>True
 | some (.ins _ _ _)=>True
 | some (.ext _)=>True
 | _=>False
section
variable {P:Program}{w:World}{H:Hp}{h h':Heap}{x e:Addr}{o':HO}
def BE.write(ok:BE P w H h)(mu:P5 (H x))(he:e=x\/H e=some (.own x))(k:∀ b u,b≠e->h.get? b=some u->h'.get? b=some u)(heo:∃ u,h'.get? e=some u)
  (new:A2 P w (upd H x o') h' x o'):BE P w (upd H x o') h':=λb u q=>by
 have nown:∀ c y,H c=some (.own y)->c≠x:=λc y r z=>by subst z;rw[r]at mu;exact mu
 have ntup:∀ c xs,H c=some (.tup xs)->c≠x:=λc xs r z=>by subst z;rw[r]at mu;exact mu
 by_cases hb:b=x
 ·subst hb;rw[uS]at q;cases q;exact new
 ·rw[AD hb]at q;by_cases hbe:b=e
  ·have q':H b=some (.own x):=by
    rcases he with z | z
    ·exact absurd (hbe.trans z) hb
    ·rw[hbe];exact z
   rw[q]at q';cases q';obtain⟨v,hv⟩:=heo;exact⟨v,by rw[hbe];exact hv⟩
  ·refine(ok b u q).stay (λc v hc r=>k c v ?_ r) (λc r=>by rw[AD (nown c b r)];exact r) λc xs r=>by rw[AD (ntup c xs r)];exact r
   rcases hc with rfl | hc
   ·exact hbe
   ·rintro rfl
    rcases he with z | z
    ·exact nown c b hc z
    ·rw[hc]at z;cases z;exact hb rfl
end
structure Un(fs ex:List Addr)(H H':Hp)(h h':Heap):Prop where
 keep:∀ b o,h.get? b=some o->H b=none->b∉fs->b∉ex->h'.get? b=some o
 slot:∀ b o,h.get? b=some o->H b=none->b∈fs->b∉ex->∃ sl,h'.get? b=some {o with slots:=sl}
 free:∀ b o,h.get? b=some o->H b=none->b∉ex->H' b=none
 there:∀ b o,h.get? b=some o->b∉ex->∃ o',h'.get? b=some o'
 tups:∀ b xs,H b=some (.tup xs)->H' b=some (.tup xs)
 frzs:∀ b o u,H b=some (.frz o u)->H' b=some (.frz o u)
 tbls:∀ b ps,H b=some (.tbl ps)->∃ more,H' b=some (.tbl (ps++more))
section
variable {fs Bs ex xh:List Addr}{H H1 H2:Hp}{h h1 h2 h':Heap}{a x e:Addr}{o:HO}
def Un.any(u:Un fs ex H H1 h h1){b:Addr}{ob:Obj}(q:h.get? b=some ob)(n:H b=none)(hx:b∉ex):∃ sl,h1.get? b=some {ob with slots:=sl}:=by
 by_cases hb:b∈fs
 ·exact u.slot b ob q n hb hx
 ·exact⟨ob.slots,u.keep b ob q n hb hx⟩
def Un.kept(k:∀ b u,h.get? b=some u->h'.get? b=some u):Un fs ex H H h h' :=
 ⟨λb ob q _ _ _=>k b ob q,λb ob q _ _ _=>⟨ob.slots,k b ob q⟩,λ_ _ _ n _=>n,λb ob q _=>⟨ob,k b ob q⟩,λ_ _ q=>q,λ_ _ _ q=>q,λ_ ps q=>⟨#[],by rw[q];simp⟩⟩
def Un.refl:Un fs ex H H h h:=Un.kept λ_ _ q=>q
def Un.laid(k:∀ b u,h.get? b=some u->h'.get? b=some u)(hp:h.objs.size<=a)(hn:H a=none):Un fs ex H (upd H a o) h h' where
 keep:=λb u q _ _ _=>k b u q
 slot:=λb u q _ _ _=>⟨u.slots,k b u q⟩
 free:=λb u q n _=>by rw[AD (Ys (Yp (Ye q) hp))];exact n
 there:=λb u q _=>⟨u,k b u q⟩
 tups:=λb xs q=>by rw[AD (AF q hn)];exact q
 frzs:=λb u xs q=>by rw[AD (AF q hn)];exact q
 tbls:=λb ps q=>⟨#[],by rw[AD (AF q hn),q];simp⟩
def Un.write(mu:P5 (H x))(he:e=x\/H e=some (.own x))(k:∀ b u,b≠e->h.get? b=some u->h'.get? b=some u)(heo:∃ u,h'.get? e=some u):Un fs ex H (upd H x o) h h':=by
 have hx:∀ b,H b=none->b≠x:=λb n z=>by subst z;rw[n]at mu;exact mu
 have hb:∀ b,H b=none->b≠e:=λb n z=>by
  subst z
  rcases he with r | r
  ·exact hx b n r
  ·rw[n]at r;cases r
 have hm:∀ b u,H b=some u->¬ P5 (some u)->b≠x:=λb u q nm z=>by subst z;rw[q]at mu;exact nm mu
 refine⟨λb u q n _ _=>k b u (hb b n) q,λb u q n _ _=>⟨u.slots,k b u (hb b n) q⟩,λb u q n _=>by rw[AD (hx b n)];exact n,λb u q _=>?_,
  λb xs q=>by rw[AD (hm b _ q λz=>z)];exact q,λb u xs q=>by rw[AD (hm b _ q λz=>z)];exact q,λb ps q=>⟨#[],by rw[AD (hm b _ q λz=>z),q];simp⟩⟩
 by_cases hbe:b=e
 ·subst hbe;exact heo
 ·exact⟨u,k b u hbe q⟩
end
def Qq(h:Heap)(H:Hp):List Addr:=(List.range h.objs.size).filter λa=>(H a).isSome
def HQ(h:Heap)(H:Hp):Heap:=W.hideAll h (Qq h H)
def mL(h:Heap)(H:Hp):(HQ h H).objs.size=h.objs.size:=W.hideAll_size _ _
def kQ{h:Heap}{H:Hp}{b:Addr}{o:Obj}(e:h.get? b=some o)(n:H b=none):(HQ h H).get? b=some o :=
 W.hideAll_get _ e λhm=>by
  have q:(H b).isSome=true:=(Gs.mp hm).2;rw[n]at q;simp at q
def vv{h:Heap}{H:Hp}{b:Addr}{o:Obj}(e:(HQ h H).get? b=some o):h.get? b=some o/\H b=none:=by
 have e':h.get? b=some o:=W.of_hideAll (Qq h H) e;refine⟨e',?_⟩;cases q:H b with
 | none=>rfl
 | some x =>
  have hm:b∈Qq h H:=Gs.mpr ⟨Cz.mpr (Ye e'),by simp[q]⟩;have z:(HQ h H).get? b=none:=W.hideAll_none (Qq h H) hm;rw[z]at e;cases e
def uu(g h:Heap)(L:Addr):PL:=(List.range h.objs.size).filterMap λa=>if a=L\/(g.get? a).isSome=true then none else(h.get? a).map λo=>(a,o)
def Au(g h:Heap)(L d:Addr):PL:=(uu g h L).filter λp=>decide (p.1≠d)
structure Mod(K:Fg)(mg:Str->OU)(base:Heap):Prop where
 kin:K.In base
 glob:base.Ns mainGlobals mg
 blt:∃ mb,base.Ns builtinsNs mb/\∀ x:Str,x≠"__name__"->mb x=bootBuiltins x
 nolimit:base.NoLimit
structure Cx where
 prog:Program
 w:World
 K:Fg
 mg:Str->OU
 base:Heap
 A:Around
 N:LS
 s₀:Shared
 H₀:Hp
 env:Env
 outer:List Env
 stack:List Env
 ex:List Addr
 fn:Str->Bool
 calm:Bool
 pn:PL
 xe:EV
def CD(l:List Env):List Addr:=l.filterMap (·.frame)
abbrev Cx.fs(X:Cx):List Addr:=CD X.outer
def Pz(sc:Scope)(x:Str):Prop:=sc.names.lookup x=some .local\/sc.names.lookup x=some .cell\/sc.names.lookup x=some .free
def Loc(sc:Scope)(x:Str):Prop:=sc.names.lookup x=some .local\/sc.names.lookup x=some .cell
def rD(env:Env)(h:Heap)(m:Str->OU)(x:Str)(u:Value):Prop :=
 (env.kindOf x=some .local/\m x=some u)\/((env.kindOf x=some .cell\/env.kindOf x=some .free)/\∃ c,env.cells.lookup x=some c/\h.IsCell c (some u))
structure Cx.Ok(X:Cx):Prop where
 mod:Mod X.K X.mg X.base
 kind:X.env.scope.kind=.function
 glob:X.env.globals=mainGlobals
 blt:X.env.builtins=builtinsNs
 above:X.s₀.heap.objs.size<=X.env.locals
 inj:∀ x y c,X.env.cells.lookup x=some c->X.env.cells.lookup y=some c->x=y
 has:∀ x,(X.env.kindOf x=some .cell\/X.env.kindOf x=some .free)->∃ c,X.env.cells.lookup x=some c
 cab:∀ x c,X.fn x=true->X.env.cells.lookup x=some c->X.s₀.heap.objs.size<=c
 hd:X.calm=true->X.A.handled=none
 frames:X.A.frames=some X.stack
 stk:X.stack=X.outer\/(X.stack=X.env :: X.outer/\X.env.frame=some X.env.locals)
 exf:∀ b∈X.ex,b≠X.env.locals/\∀ x c,X.env.cells.lookup x=some c->c≠b
 bs:∀ b o,X.base.get? b=some o->X.s₀.heap.get? b=some o/\X.H₀ b=none
 bsz:X.base.objs.size<=X.s₀.heap.objs.size
 noex:∀ b o,X.base.get? b=some o->b∉X.ex
 exfs:∀ b∈X.ex,b∉X.fs
 funs:X.s₀.heap.FunFrames X.base X.outer
 frf:∀ b∈X.fs,X.H₀ b=none
structure Inv(X:Cx)(pins:PL)(σ:List (OV))(H:Hp)(s:Shared):Prop where
 ok:X.Ok
 os:s.os=X.s₀.os
 bare:AllBare s.gens
 base:Un X.fs X.ex X.H₀ H X.s₀.heap s.heap
 loc:∃ m,s.heap.Ns X.env.locals m/\∀(i:Nat) (x:Str) (v:V),X.N[i]?=some x->σ[i]?=some (some v)->Pz X.env.scope x->∃ u,AS v u/\rD X.env s.heap m x u
 cell:∀ x c,X.env.cells.lookup x=some c->∃ v,s.heap.IsCell c v
 free:H X.env.locals=none
 freeC:∀ x c,X.env.cells.lookup x=some c->H c=none
 pin:∀ p∈X.pn++pins,s.heap.get? p.1=some p.2/\H p.1=none/\p.1≠X.env.locals/\p.1∉X.fs/\∀ v,p.2.data≠.cell v
 hok:BE X.prog X.w H s.heap
 len:σ.length=X.N.length
section
variable {X:Cx}{pins:PL}{σ:List (OV)}{H H':Hp}{s:Shared}{h':Heap}
def Cx.Ok.nofr(ok:X.Ok){b:Addr}{o:Obj}(e:X.base.get? b=some o):b∉X.fs:=λhb=>by
 have:=(ok.funs.mem hb).1;rw[e]at this;cases this
theorem Inv.bs(I:Inv X pins σ H s):∀ b o,X.base.get? b=some o->s.heap.get? b=some o/\H b=none:=λb o e =>
 ⟨I.base.keep b o (I.ok.bs b o e).1 (I.ok.bs b o e).2 (I.ok.nofr e) (I.ok.noex b o e),I.base.free b o (I.ok.bs b o e).1 (I.ok.bs b o e).2 (I.ok.noex b o e)⟩
def Inv.bk(I:Inv X pins σ H s):∀ b o,X.base.get? b=some o->s.heap.get? b=some o:=λb o e=>(I.bs b o e).1
theorem Inv.mod(I:Inv X pins σ H s):Mod X.K X.mg X.base:=I.ok.mod
def Inv.kIn(I:Inv X pins σ H s):X.K.In s.heap:=I.ok.mod.kin.keeps I.bk
theorem Inv.nolimit(I:Inv X pins σ H s):s.heap.NoLimit:=I.ok.mod.nolimit.keeps I.bk
theorem Inv.lt(I:Inv X pins σ H s):X.env.locals<s.heap.objs.size:=let⟨_,hn,_⟩:=I.loc;hn.lt
def Inv.sz(I:Inv X pins σ H s):X.s₀.heap.objs.size<=s.heap.objs.size:=A6 I.ok.above (Jx I.lt)
def Inv.nofs(I:Inv X pins σ H s){a:Addr}(h:s.heap.objs.size<=a):a∉X.fs:=λhb=>by
 obtain⟨_,o,ho,_⟩:=I.ok.funs.mem hb;exact absurd (Yp (Ye ho) (A6 I.sz h)) (FH _)
def Inv.cne(I:Inv X pins σ H s):∀ x c,X.env.cells.lookup x=some c->c≠X.env.locals:=λx c e z=>by
 obtain⟨v,o,ho,hd⟩:=I.cell x c e;obtain⟨m,⟨o',es,ep,Hw,OF,_⟩,_⟩:=I.loc;rw[z,Hw]at ho;cases ho;rw[OF]at hd;cases hd
theorem Inv.funs(I:Inv X pins σ H s):s.heap.FunFrames X.base X.outer:=by
 have all:∀(l:List Env),(∀ b∈CD l,b∈X.fs)->X.s₀.heap.FunFrames X.base l->s.heap.FunFrames X.base l:=by
  intro l
  induction l with
  | nil=>intro _ _;trivial
  | cons env r ih =>
   intro hs hl;obtain⟨hk,⟨L,o,hf,hn,ho,hd⟩,hr⟩:=hl;have hL:L∈X.fs:=hs L (by unfold CD;rw[List.filterMap_cons,hf];exact Ie);obtain⟨sl,e⟩:=I.base.slot L o ho (I.ok.frf L hL) hL λz=>I.ok.exfs L z hL;exact⟨hk,⟨L,_,hf,hn,e,hd⟩,ih (λb hb=>hs b (by unfold CD;rw[List.filterMap_cons,hf];exact FG _ hb)) hr⟩
 exact all X.outer (λ_ hb=>hb) I.ok.funs
theorem Inv.stack(I:Inv X pins σ H s):s.heap.FunFrames X.base X.stack:=by
 rcases I.ok.stk with e | ⟨e,hf⟩
 ·rw[e];exact I.funs
 ·rw[e];obtain⟨m,hn,_⟩:=I.loc;refine .cons (by rw[I.ok.kind];decide) hf hn ?_ I.funs;exact Heap.get?_none_of_le (A6 I.ok.bsz I.ok.above)
def Inv.stkSub(I:Inv X pins σ H s):∀ b∈CD X.stack,b∈X.env.locals :: X.fs:=λb hb=>by
 rcases I.ok.stk with e | ⟨e,hf⟩
 ·rw[e]at hb;exact FG _ hb
 ·rw[e]at hb;unfold CD at hb;rw[List.filterMap_cons,hf]at hb;exact hb
def Inv.stkFree(I:Inv X pins σ H s):∀ b∈CD X.stack,H b=none:=λb hb=>by
 rcases Yr.mp (I.stkSub b hb)with e | hb
 ·rw[e];exact I.free
 ·obtain⟨_,o,ho,_⟩:=I.ok.funs.mem hb;exact I.base.free b o ho (I.ok.frf b hb) λz=>I.ok.exfs b z hb
def Inv.step{g':Array GenState}{t':Nat}{d':Drawn}{ch:List Addr}(I:Inv X pins σ H s)
  (hch:∀ b∈ch,(b∈X.ex\/X.s₀.heap.objs.size<=b)/\b≠X.env.locals/\(∀ x c,X.env.cells.lookup x=some c->c≠b)/\∀ p∈X.pn++pins,p.1≠b)
  (keep:∀ b o,b≠X.env.locals->b∉X.fs->b∉ch->s.heap.get? b=some o->H b=none->h'.get? b=some o)
  (slot:∀ b o,b≠X.env.locals->b∈X.fs->b∉ch->s.heap.get? b=some o->H b=none->∃ sl,h'.get? b=some {o with slots:=sl}) (free:∀ b o,b∉ch->s.heap.get? b=some o->H b=none->H' b=none)
  (there:∀ b o,b∉ch->s.heap.get? b=some o->∃ o',h'.get? b=some o')
  (tups:∀ b xs,H b=some (.tup xs)->H' b=some (.tup xs)) (frzs:∀ b o u,H b=some (.frz o u)->H' b=some (.frz o u)) (tbls:∀ b ps,H b=some (.tbl ps)->∃ more,H' b=some (.tbl (ps++more)))
  (ns:∀ m,s.heap.Ns X.env.locals m->h'.Ns X.env.locals m) (hok:BE X.prog X.w H' h') (hg:AllBare g'):
  Inv X pins σ H' {s with heap:=h',gens:=g',drawn:=d',toks:=t' }:=by
 have neL:∀ b o,X.s₀.heap.get? b=some o->b≠X.env.locals:=λb o e=>Ys (Yp (Ye e) I.ok.above);have neC:∀ b o,X.s₀.heap.get? b=some o->b∉X.ex->b∉ch:=λb o e hx hb=>by
  rcases(hch b hb).1 with z | z
  ·exact hx z
  ·exact absurd (Yp (Ye e) z) (FH _)
 have cellK:∀ x c,X.env.cells.lookup x=some c->∀ v,s.heap.IsCell c v->h'.IsCell c v:=λx c e v ⟨o,ho,hd⟩=>by
  have nch:c∉ch:=λz=>(hch c z).2.2.1 x c e rfl;by_cases hc:c∈X.fs
  ·obtain⟨sl,q⟩:=slot c o (I.cne x c e) hc nch ho (I.freeC x c e);exact⟨_,q,hd⟩
  ·exact⟨o,keep c o (I.cne x c e) hc nch ho (I.freeC x c e),hd⟩
 refine⟨I.ok,I.os,hg,⟨λb o e n hb hx=>?_,λb o e n hb hx=>?_,λb o e n hx=>?_,λb o e hx=>?_,λb xs e=>tups b xs (I.base.tups b xs e),λb o xs e=>frzs b o xs (I.base.frzs b o xs e),λb ps e=>?_⟩,?_,λx c e=>?_,?_,λx c e=>?_,λp hp=>?_,hok,I.len⟩
 ·exact keep b o (neL b o e) hb (neC b o e hx) (I.base.keep b o e n hb hx) (I.base.free b o e n hx)
 ·obtain⟨sl,e1⟩:=I.base.slot b o e n hb hx;obtain⟨Ny,e2⟩:=slot b _ (neL b o e) hb (neC b o e hx) e1 (I.base.free b o e n hx);exact⟨Ny,e2⟩
 ·obtain⟨o',e1⟩:=I.base.there b o e hx;exact free b o' (neC b o e hx) e1 (I.base.free b o e n hx)
 ·obtain⟨o',e1⟩:=I.base.there b o e hx;exact there b o' (neC b o e hx) e1
 ·obtain⟨m1,e1⟩:=I.base.tbls b ps e;obtain⟨m2,e2⟩:=tbls b _ e1;exact⟨m1++m2,by rw[e2,Array.append_assoc]⟩
 ·obtain⟨m,hn,hl⟩:=I.loc;refine⟨m,ns m hn,λi x v e1 e2 e3=>?_⟩;obtain⟨u,r,l⟩:=hl i x v e1 e2 e3;refine⟨u,r,?_⟩
  rcases l with l | ⟨k,c,e,z⟩
  ·exact .inl l
  ·exact .inr ⟨k,c,e,cellK x c e _ z⟩
 ·obtain⟨v,z⟩:=I.cell x c e;exact⟨v,cellK x c e v z⟩
 ·obtain⟨m,⟨o,_,_,ho,_⟩,_⟩:=I.loc;exact free _ o (λz=>(hch _ z).2.1 rfl) ho I.free
 ·obtain⟨v,o,ho,hd⟩:=I.cell x c e;exact free c o (λz=>(hch c z).2.2.1 x c e rfl) ho (I.freeC x c e)
 ·obtain⟨e,n,ne,nf,d⟩:=I.pin p hp;have nch:p.1∉ch:=λz=>(hch p.1 z).2.2.2 p hp rfl;exact⟨keep p.1 p.2 ne nf nch e n,free p.1 p.2 nch e n,ne,nf,d⟩
def Inv.un{t':Nat}(I:Inv X pins σ H s)(u:Un X.fs [] H H' s.heap h')(hok:BE X.prog X.w H' h'):Inv X pins σ H' {s with heap:=h',toks:=t' }:=by
 obtain⟨m,⟨o,es,ep,ho,r⟩,_⟩:=id I.loc;obtain⟨sl,hL⟩:=u.any ho I.free (by simp);exact I.step (g':=s.gens) (d':=s.drawn) (ch:=[]) (λ_ z=>nomatch z) (λb o _ hb _ e n=>u.keep b o e n hb (by simp)) (λb o _ hb _ e n=>u.slot b o e n hb (by simp)) (λb o _ e n=>u.free b o e n (by simp)) (λb o _ e=>u.there b o e (by simp)) u.tups u.frzs u.tbls (λm' hm=>by
  obtain⟨o',Mc,Mf,Hw,r'⟩:=hm;rw[ho]at Hw;cases Hw;exact⟨_,Mc,Mf,hL,r'⟩) hok I.bare
def Inv.call{g':Array GenState}{t':Nat}{d':Drawn}{ch:List Addr}(I:Inv X pins σ H s)(u:Un (CD X.stack) ch H H' s.heap h')(hok:BE X.prog X.w H' h')(hg:AllBare g')
  (hch:∀ b∈ch,(b∈X.ex\/X.s₀.heap.objs.size<=b)/\b≠X.env.locals/\(∀ x c,X.env.cells.lookup x=some c->c≠b)/\∀ p∈X.pn++pins,p.1≠b):
  Inv X pins σ H' {s with heap:=h',gens:=g',drawn:=d',toks:=t' }:=by
 obtain⟨m,⟨o,es,ep,ho,r⟩,_⟩:=id I.loc;obtain⟨sl,hL⟩:=u.any ho I.free λz=>(hch _ z).2.1 rfl;exact I.step (ch:=ch) hch (λb o hL hb hc e n=>u.keep b o e n (λz=>(Yr.mp (I.stkSub b z)).elim hL hb) hc) (λb o _ _ hc e n=>u.any e n hc) (λb o hc e n=>u.free b o e n hc) (λb o hc e=>u.there b o e hc) u.tups u.frzs u.tbls (λm' hm=>by
  obtain⟨o',Mc,Mf,Hw,r'⟩:=hm;rw[ho]at Hw;cases Hw;exact⟨_,Mc,Mf,hL,r'⟩) hok hg
def Inv.turned{t':Nat}{it:Addr}(I:Inv X pins σ H s)(k:∀ b o,b≠it->s.heap.get? b=some o->h'.get? b=some o)(hn:H it=none)(hL:it≠X.env.locals)
  (h1:it∈X.ex\/X.s₀.heap.objs.size<=it) (h2:∀ x c,X.env.cells.lookup x=some c->c≠it) (h3:∀ p∈X.pn++pins,p.1≠it):Inv X pins σ H {s with heap:=h',toks:=t' }:=by
 have nit:∀ b u,H b=some u->b≠it:=λb u e z=>by rw[z,hn]at e;cases e
 refine I.step (g':=s.gens) (d':=s.drawn) (ch:=[it]) (λb hb=>?_) (λb o _ _ hc e _=>k b o (λz=>hc (by simp[z])) e) (λb o _ _ hc e _=>⟨o.slots,k b o (λz=>hc (by simp[z])) e⟩) (λ_ _ _ _ n=>n)
  (λb o hc e=>⟨o,k b o (λz=>hc (by simp[z])) e⟩) (λ_ _ e=>e) (λ_ _ _ e=>e) (λb ps e=>⟨#[],by rw[e];simp⟩) (λm hm=>?_) (λb u e=>?_) I.bare
 ·have e:b=it:=by simpa using hb
  subst e;exact⟨h1,hL,h2,h3⟩
 ·obtain⟨o,es,ep,ho,r⟩:=hm;exact⟨o,es,ep,k _ o (Yj hL) ho,r⟩
 ·refine(I.hok b u e).stay (λc v hc q=>k c v ?_ q) (λ_ q=>q) λ_ _ q=>q
  rcases hc with z | z
  ·rw[z];exact nit b u e
  ·exact nit c _ z
def Inv.tok(I:Inv X pins σ H s)(t:Nat):Inv X pins σ H {s with toks:=t}:=I.un (h':=s.heap) (t':=t) Un.refl I.hok
theorem Inv.kept{t':Nat}(I:Inv X pins σ H s)(k:∀ b u,s.heap.get? b=some u->h'.get? b=some u):Inv X pins σ H {s with heap:=h',toks:=t' }:=I.un (Un.kept k) (I.hok.kept k)
theorem Inv.laid{a:Addr}{o:HO}{t':Nat}(I:Inv X pins σ H s)(k:∀ b u,s.heap.get? b=some u->h'.get? b=some u)(hp:s.heap.objs.size<=a)(new:A2 X.prog X.w (upd H a o) h' a o):
  Inv X pins σ (upd H a o) {s with heap:=h',toks:=t' }:=I.un (Un.laid k hp (I.hok.fresh hp)) (I.hok.laid k hp new)
theorem Inv.write{x e:Addr}{o:HO}{t':Nat}(I:Inv X pins σ H s)(mu:P5 (H x))(he:e=x\/H e=some (.own x))(k:∀ b u,b≠e->s.heap.get? b=some u->h'.get? b=some u)(heo:∃ u,h'.get? e=some u)
  (new:A2 X.prog X.w (upd H x o) h' x o):Inv X pins σ (upd H x o) {s with heap:=h',toks:=t' }:=I.un (Un.write mu he k heo) (I.hok.write mu he k heo new)
def Inv.pins_of{Be:PL}(I:Inv X pins σ H s)(h:∀ p∈Be,s.heap.get? p.1=some p.2/\H p.1=none/\p.1≠X.env.locals/\p.1∉X.fs/\∀ v,p.2.data≠.cell v):Inv X Be σ H s :=
 ⟨I.ok,I.os,I.bare,I.base,I.loc,I.cell,I.free,I.freeC,λp hp=>(Yt.mp hp).elim (λz=>I.pin p (LQ _ z)) (h p),I.hok,I.len⟩
def Ky{N:LS}(hN:N.Nodup){i j:Nat}{x:Str}(a:N[i]?=some x)(b:N[j]?=some x):i=j:=by
 obtain⟨h1,e1⟩:=Yn.mp a;obtain⟨h2,e2⟩:=Yn.mp b;exact(List.getElem_inj hN).mp (e1.trans e2.symm)
def Vx{M:Model}{A:Around}{E:EV}{i:Nat}{x:Str}{v:V}{u:Value}{Q:Unit->Shared->Prop}(I:Inv X pins σ H s)(hN:X.N.Nodup)(hi:X.N[i]?=some x)(hx:Loc X.env.scope x)(r:AS v u)
  (h:∀ s',Inv X pins (σ.set i (some v)) H s'->(∃ a,Heap.SameBut a s.heap s'.heap/\(a=X.env.locals\/X.env.cells.lookup x=some a))->Q () s') (hf:X.fn x=true\/X.env.scope.names.lookup x=some .local:=by first | exact .inl rfl | exact .inr rfl | assumption):wpAny M A (storeName X.env x u) Q E s:=by
 obtain⟨m,hn,hl⟩:=id I.loc;have hcls:(X.env.scope.kind == .class || (X.env.scope.kind == .module&&X.env.locals != X.env.globals))=false:=by rw[I.ok.kind];rfl
 have hiσ:i<σ.length:=by rw[I.len];exact(Yn.mp hi).1
 have cne:=I.cne;have tracked:∀ {a:Addr} {h':Heap},(∃ o,s.heap.get? a=some o/\H a=none)->Heap.SameBut a s.heap h'->BE X.prog X.w H h':=λ{a h'} ha hs b ob e=>by
  obtain⟨_,_,Ar⟩:=ha;refine(I.hok b ob e).stay (λc w' hc q=>(hs.2 c ?_).trans q) (λ_ q=>q) λ_ _ q=>q;rintro rfl
  rcases hc with rfl | hc
  ·rw[Ar]at e;cases e
  ·rw[Ar]at hc;cases hc
 rcases hx with hk | hk
 ·refine wpAny_storeName_local hk hn (λh' jR hs=>?_) hcls;obtain⟨oL,_,_,hoL,_⟩:=id hn;refine h _ ⟨I.ok,I.os,I.bare,⟨λb o e n hb hx=>?_,λb o e n hb hx=>?_,I.base.free,λb o e hx=>?_,I.base.tups,I.base.frzs,I.base.tbls⟩,⟨_,jR,λj y v' e1 e2 e3=>?_⟩,λy c e=>?_,I.free,I.freeC,λp hp=>?_,tracked ⟨oL,hoL,I.free⟩ hs,by simpa using I.len⟩ ⟨_,hs,.inl rfl⟩
  ·exact(hs.2 b (Ys (Yp (Ye e) I.ok.above))).trans (I.base.keep b o e n hb hx)
  ·obtain⟨sl,e1⟩:=I.base.slot b o e n hb hx;exact⟨sl,(hs.2 b (Ys (Yp (Ye e) I.ok.above))).trans e1⟩
  ·obtain⟨o',e1⟩:=I.base.there b o e hx;exact⟨o',(hs.2 b (Ys (Yp (Ye e) I.ok.above))).trans e1⟩
  ·by_cases hj:j=i
   ·subst hj;rw[hi]at e1;cases e1;rw[To hiσ]at e2;cases e2;exact⟨u,r,.inl ⟨hk,by simp⟩⟩
   ·rw[List.getElem?_set_ne (Yj hj)]at e2;obtain⟨u',r',q⟩:=hl j y v' e1 e2 e3;refine⟨u',r',?_⟩
    rcases q with⟨k,e⟩ | ⟨k,c,e,z⟩
    ·refine .inl ⟨k,?_⟩;have:y≠x:=λe=>hj (Ky hN e1 (e ▸ hi));simp[this,e]
    ·exact .inr ⟨k,c,e,z.sameBut hs (cne y c e)⟩
  ·obtain⟨w',z⟩:=I.cell y c e;exact⟨w',z.sameBut hs (cne y c e)⟩
  ·obtain⟨e,n,ne,nf,d⟩:=I.pin p hp;exact⟨(hs.2 p.1 ne).trans e,n,ne,nf,d⟩
 ·have hfn:X.fn x=true:=by
   rcases hf with z | z
   ·exact z
   ·rw[z]at hk;cases hk
  obtain⟨c,hc⟩:=I.ok.has x (.inl hk);obtain⟨w',z⟩:=I.cell x c hc;refine wpAny_storeName_cell I.ok.kind hk hc z (λh' Ap hs=>?_);obtain⟨oc,hoc,hocd⟩:=id z;refine h {s with heap:=h' } ⟨I.ok,I.os,I.bare,⟨λb o e n hb hx=>?_,λb o e n hb hx=>?_,I.base.free,λb o e hx=>?_,I.base.tups,I.base.frzs,I.base.tbls⟩,⟨m,hn.sameBut hs (Yj (cne x c hc)),λj y v' e1 e2 e3=>?_⟩,λy c' e=>?_,I.free,I.freeC,λp hp=>?_,tracked ⟨oc,hoc,I.freeC x c hc⟩ hs,by simpa using I.len⟩ ⟨c,hs,.inr hc⟩
  ·exact(hs.2 b (Ys (Yp (Ye e) (I.ok.cab x c hfn hc)))).trans (I.base.keep b o e n hb hx)
  ·obtain⟨sl,e1⟩:=I.base.slot b o e n hb hx;exact⟨sl,(hs.2 b (Ys (Yp (Ye e) (I.ok.cab x c hfn hc)))).trans e1⟩
  ·obtain⟨o',e1⟩:=I.base.there b o e hx;exact⟨o',(hs.2 b (Ys (Yp (Ye e) (I.ok.cab x c hfn hc)))).trans e1⟩
  ·by_cases hj:j=i
   ·subst hj;rw[hi]at e1;cases e1;rw[To hiσ]at e2;cases e2;exact⟨u,r,.inr ⟨.inl hk,c,hc,Ap⟩⟩
   ·rw[List.getElem?_set_ne (Yj hj)]at e2;obtain⟨u',r',q⟩:=hl j y v' e1 e2 e3;refine⟨u',r',?_⟩
    rcases q with q | ⟨k,c',e,z'⟩
    ·exact .inl q
    ·refine .inr ⟨k,c',e,z'.sameBut hs ?_⟩;rintro rfl;exact hj (Ky hN e1 (I.ok.inj _ _ _ e hc ▸ hi))
  ·by_cases hcc:c'=c
   ·subst hcc;exact⟨_,Ap⟩
   ·obtain⟨w2,z2⟩:=I.cell y c' e;exact⟨w2,z2.sameBut hs hcc⟩
  ·obtain⟨e,n,ne,nf,d⟩:=I.pin p hp;refine⟨(hs.2 p.1 ?_).trans e,n,ne,nf,d⟩;intro q;rw[q,hoc]at e;have q':oc=p.2:=Yv e;exact d w' (by rw[<- q'];exact hocd)
def SM{M:Model}{A:Around}{E:EV}{i:Nat}{x:Str}{v:V}{u:Value}{Q:Unit->Shared->Prop}(I:Inv X pins σ H s)(hN:X.N.Nodup)(hi:X.N[i]?=some x)(hx:Loc X.env.scope x)(r:AS v u)
  (h:∀ s',Inv X pins (σ.set i (some v)) H s'->Q () s') (hf:X.fn x=true\/X.env.scope.names.lookup x=some .local:=by first | exact .inl rfl | exact .inr rfl | assumption):wpAny M A (storeName X.env x u) Q E s :=
 Vx I hN hi hx r (λs' I' _=>h s' I') hf
def Inv.call'{s':Shared}{ch:List Addr}(I:Inv X pins σ H s)(ho:s'.os=s.os)(u:Un (CD X.stack) ch H H' s.heap s'.heap)(hok:BE X.prog X.w H' s'.heap)(hg:AllBare s'.gens)
  (hch:∀ b∈ch,(b∈X.ex\/X.s₀.heap.objs.size<=b)/\b≠X.env.locals/\(∀ x c,X.env.cells.lookup x=some c->c≠b)/\∀ p∈X.pn++pins,p.1≠b):Inv X pins σ H' s':=by
 obtain⟨h',g',d',t',o'⟩:=s';have e:o'=s.os:=ho;subst e;exact I.call (g':=g') (t':=t') (d':=d') u hok hg hch
end
abbrev XK:=Value->Option Addr->Hp->Prop
abbrev St:=List (OV)
abbrev VK:=V->Hp->Prop
abbrev _root_.SW:=St->Hp->Prop
abbrev _root_.NW:=Nat->St->Hp->Prop
abbrev TE:=St->Hp->VK->Prop
abbrev TT:=St->Hp->(Bool->Hp->Prop)->Prop
abbrev TA:=St->Hp->(LV->Hp->Prop)->Prop
structure GV where
 nx:SW
 rt:VK
 bk:SW:=λ_ _=>False
 ct:SW:=λ_ _=>False
abbrev TS:=GV->St->Hp->Prop
def EP(X:Cx)(pins:PL)(σ:St)(Q:VK)(u:Value)(s':Shared):Prop:=∃ v H',Inv X pins σ H' s'/\AS v u/\Q v H'
def TP(X:Cx)(pins:PL)(σ:St)(Q:Bool->Hp->Prop)(b:Bool)(s':Shared):Prop:=∃ H',Inv X pins σ H' s'/\Q b H'
def AP(X:Cx)(pins:PL)(σ:St)(Q:LV->Hp->Prop)(us:LU)(s':Shared):Prop:=∃ vs H',Inv X pins σ H' s'/\AO vs us/\Q vs H'
def SP(X:Cx)(pins:PL)(D:GV)(f:Flow)(s':Shared):Prop :=
 match f with
 | .next=>∃ σ' H',Inv X pins σ' H' s'/\D.nx σ' H'
 | .brk=>∃ σ' H',Inv X pins σ' H' s'/\D.bk σ' H'
 | .cont=>∃ σ' H',Inv X pins σ' H' s'/\D.ct σ' H'
 | .ret u=>∃ v σ' H',Inv X pins σ' H' s'/\AS v u/\D.rt v H'
def PE(X:Cx)(e:Expr)(t:TE):Prop :=
 ∀(pins:PL) (s:Shared) (σ:St) (H:Hp) (Q:VK),Inv X pins σ H s->t σ H Q->wpAny (model X.prog X.w) X.A (eval e X.env) (EP X pins σ Q) X.xe s
def PT(X:Cx)(e:Expr)(t:TT):Prop :=
 ∀(pins:PL) (s:Shared) (σ:St) (H:Hp) (Q:Bool->Hp->Prop),Inv X pins σ H s->t σ H Q->wpAny (model X.prog X.w) X.A (isTrue e X.env (eval e X.env)) (TP X pins σ Q) X.xe s
def PW(X:Cx)(e:Expr)(t:TT):Prop :=
 ∀(whole:Sem Value) (pins:PL) (s:Shared) (σ:St) (H:Hp) (Q:Bool->Hp->Prop),Inv X pins σ H s->t σ H Q->wpAny (model X.prog X.w) X.A (isTrue e X.env whole) (TP X pins σ Q) X.xe s
def PW.pt{X:Cx}{e:Expr}{t:TT}(h:PW X e t):PT X e t:=h _
def PA(X:Cx)(es:List Expr)(t:TA):Prop :=
 ∀(pos:Pos) (pins:PL) (s:Shared) (σ:St) (H:Hp) (Q:LV->Hp->Prop),Inv X pins σ H s->t σ H Q->wpAny (model X.prog X.w) X.A (spliced (backTo pos (starEach es X.env))) (AP X pins σ Q) X.xe s
def PS(X:Cx)(st:Stmt)(t:TS):Prop :=
 ∀(pins:PL) (s:Shared) (σ:St) (H:Hp) (D:GV),Inv X pins σ H s->t D σ H->wpAny (model X.prog X.w) X.A (exec st X.env) (SP X pins D) X.xe s
def Bo(X:Cx)(st:List Stmt)(t:TS):Prop :=
 ∀(pins:PL) (s:Shared) (σ:St) (H:Hp) (D:GV),Inv X pins σ H s->t D σ H->wpAny (model X.prog X.w) X.A (execs st X.env) (SP X pins D) X.xe s
def AK{α:Type}{t:Sem α}{Q Q':α->Shared->Prop}{M:Model}{A:Around}{E:EV}{s:Shared}(h:wpAny M A t Q E s)(hQ:∀ a s,Q a s->Q' a s):wpAny M A t Q' E s:=Jf h hQ λ_ _ x=>x
section
variable {X:Cx}
def Wa(i:Nat):TE:=λσ H Q=>∃ v,σ[i]?=some (some v)/\Q v H
def tC(v:V):TE:=λ_ H Q=>Q v H
def Zf{i:Nat}{x:Str}{pos:Pos}(hN:X.N[i]?=some x)(hv:Pz X.env.scope x)(hd:(x == ("__debug__":Str))=false:=by decide)(hcd:(x == ("__classdict__":Str))=false:=by decide):PE X (.Name x pos) (Wa i):=by
 ac_rfl;obtain⟨v,e,h⟩:=h;obtain⟨m,hn,hl⟩:=I.loc;obtain⟨u,r,l⟩:=hl i x v hN e hv;have fin:EP X pins σ Q u s:=⟨v,H,I,r,h⟩
 rcases l with⟨hk,hm⟩ | ⟨hk,c,hc,hcell⟩
 ·exact wpAny_Name (wpAny_loadName_local I.ok.kind hk hn hm fin) hd
 ·rcases hk with hk | hk
  ·exact wpAny_Name (wpAny_loadName_cell I.ok.kind hk hc hcell fin) hd
  ·exact wpAny_Name (wpAny_loadName_free I.ok.kind hk hc hcell fin hcd) hd
def AG{i j pos}:PE X (.Constant (.int i) j pos) (tC (.int i)):=λ_ _ _ H _ I h=>wpAny_Constant_int ⟨.int i,H,I.tok _,⟨Z⟩,h⟩
def B1{b j pos}:PE X (.Constant (.bool b) j pos) (tC (.bl b)):=λ_ _ _ H _ I h=>Constant_bool ⟨.bl b,H,I,Y,h⟩
def Mw{j pos}:PE X (.Constant .none j pos) (tC .non):=λ_ _ _ H _ I h=>Constant_none ⟨.non,H,I,Y,h⟩
def Jk{x j pos}:PE X (.Constant (.str x) j pos) (tC (.str x)):=λ_ _ _ H _ I h=>Calls.Constant_str ⟨.str x,H,I.tok _,⟨Z⟩,h⟩
def Gl(X:Cx)(x:Str):Prop:=X.env.kindOf x=some .globalImplicit
def M3{E:EV}{pins:PL}{s:Shared}{σ:St}{H:Hp}{x:Str}{u:Value}{pos:Pos}{Q:EV}(I:Inv X pins σ H s)(hg:Gl X x)(hm:X.mg x=some u)(h:Q u s)
  (hd:(x == ("__debug__":Str))=false:=by decide):wpAny (model X.prog X.w) X.A (eval (.Name x pos) X.env) Q E s :=
 Calls.Name_function_global I.ok.kind hg (Calls.loadGlobal_global (by rw[I.ok.glob];exact I.mod.glob.keeps I.bk) hm h) hd
def Fh{E:EV}{pins:PL}{s:Shared}{σ:St}{H:Hp}{x:Str}{u:Value}{pos:Pos}{Q:EV}(I:Inv X pins σ H s)(hg:Gl X x)(hm:X.mg x=none)(hv:bootBuiltins x=some u)(h:Q u s)
  (hn:x≠"__name__":=by decide) (hd:(x == ("__debug__":Str))=false:=by decide):wpAny (model X.prog X.w) X.A (eval (.Name x pos) X.env) Q E s:=by
 obtain⟨mb,h1,h2⟩:=I.mod.blt;exact Calls.Name_function_global I.ok.kind hg (Calls.loadGlobal_builtin (by rw[I.ok.glob];exact I.mod.glob.keeps I.bk) hm (by rw[I.ok.blt];exact h1.keeps I.bk) ((h2 x hn).trans hv) h) hd
def CU{x:Str}{v:V}{u:Value}{pos:Pos}(hg:Gl X x)(hm:X.mg x=some u)(r:AS v u)(hd:(x == ("__debug__":Str))=false:=by decide):PE X (.Name x pos) (tC v):=
 λ_ _ _ H _ I h=>M3 I hg hm ⟨v,H,I,r,h⟩ hd
def R9{x:Str}{v:V}{u:Value}{pos:Pos}(hg:Gl X x)(hm:X.mg x=none)(hv:bootBuiltins x=some u)(r:AS v u)(hn:x≠"__name__":=by decide)(hd:(x == ("__debug__":Str))=false:=by decide):PE X (.Name x pos) (tC v):=
 λ_ _ _ H _ I h=>Fh I hg hm hv ⟨v,H,I,r,h⟩ hn hd
variable {a b:Expr}{ta tb:TE}{pos:Pos}
def PC(X:Cx)(op:CmpOp)(a b:Expr)(t:TE):Prop :=
 ∀(pins:PL) (s:Shared) (σ:St) (H:Hp) (Q:VK),Inv X pins σ H s->t σ H Q ->
  wpAny (model X.prog X.w) X.A (eval a X.env) (λv s₁=>wpAny (model X.prog X.w) X.A (eval b X.env) (λu s₂=>wpAny (model X.prog X.w) X.A (compareOp op v u) (EP X pins σ Q) X.xe s₂) X.xe s₁) X.xe s
def bK(b:Expr){op:CmpOp}(h:op≠.In)(h2:op≠.NotIn):behindInMarks op b=false:=by
 have e1:(op == CmpOp.In)=false:=by cases op <;> first | rfl | exact absurd rfl h
 have e2:(op == CmpOp.NotIn)=false:=by cases op <;> first | rfl | exact absurd rfl h2
 cases b <;> simp[behindInMarks,e1,e2]
def sX(ta:TE):TE:=λσ H Q=>ta σ H λx H1=>Q (.bl (!decide (x=.non))) H1
def AS.none_iff{x:V}{v:Value}(r:AS x v):(v == Value.none)=decide (x=.non):=by
 cases x with
 | non=>cases r;rfl
 | bl _=>cases r;rfl
 | int _=>obtain⟨t,rfl⟩:=r;rfl
 | str _=>obtain⟨t,rfl⟩:=r;rfl
 | byt _=>obtain⟨t,rfl⟩:=r;rfl
 | flt _=>obtain⟨t,rfl⟩:=r;rfl
 | ref _=>cases r;rfl
 | ty _=>cases r;rfl
def aN{j pos'}(ha:PE X a ta):PC X .IsNot a (.Constant .none j pos') (sX ta):=by
 ac_rfl;refine AK (ha pins s σ H _ I h) λv s1 ⟨x,H1,I1,r1,q1⟩=>?_;exact Constant_none (isnot_none_gen ⟨.bl _,H1,I1,by rw[r1.none_iff];rfl,q1⟩)
def tB(t:TE):TT:=λσ H Q=>t σ H λx H1=>∃ c,x=.bl c/\Q c H1
def Zd{op:CmpOp}{t:TE}(h:PC X op a b t)(h1:behindInMarks op b=false:=by first | exact bK _ (by decide) (by decide) | rfl):PE X (.Compare a [op] [b] pos) t:=λpins s σ H Q I hw=>wpAny_Compare1 (h pins s σ H Q I hw) h1
def JU{op:CmpOp}{t:TE}(h:PC X op a b t)(h1:behindInMarks op b=false:=by first | exact bK _ (by decide) (by decide) | rfl):PT X (.Compare a [op] [b] pos) (tB t):=by
 intro pins s σ H Q I hw;refine wpAny_isTrue_Compare1 (AK (h pins s σ H _ I hw) λv s1 h1=>AK h1 λu s2 h2=>AK h2 λc s3 ⟨x,H1,I1,r1,q1⟩=>?_) h1;obtain⟨d,rfl,q⟩:=q1;cases r1;exact Jh ⟨H1,I1,q⟩
def Bu{e:Expr}{t:TE}(h:PE X e t)(he:∀ whole,isTrue e X.env whole=(do let v <- whole;standAt e.pos;holding [v] (truthy v)):=by intro _;rfl):PT X e (tB t):=by
 intro pins s σ H Q I hw;refine isTrue_plain (AK (h pins s σ H _ I hw) λv s1 ⟨x,H1,I1,r1,q1⟩=>?_) (he _);obtain⟨d,rfl,q⟩:=q1;cases r1;exact Jh ⟨H1,I1,q⟩
variable {tA Qs:TT}{Au:List Expr}
def rh(t u:TT):TT:=λσ H Q=>t σ H λc H1=>if c=true then u σ H1 Q else Q false H1
def iG(t u:TT):TT:=λσ H Q=>t σ H λc H1=>if c=true then Q true H1 else u σ H1 Q
def rQ(t:TT):TT:=λσ H Q=>t σ H λc H1=>Q (!c) H1
def Ol(ha:PT X a tA):PW X (.BoolOp .And [a] pos) tA:=by
 intro wh pins s σ H Q I h;refine isTrue_and (AK (ha pins s σ H Q I h) λc s1 e=>?_);cases c with
 | true=>exact isTrue_and_nil e
 | false=>exact e
def Ro(ha:PT X a tA):PW X (.BoolOp .Or [a] pos) tA:=by
 intro wh pins s σ H Q I h;refine isTrue_or (AK (ha pins s σ H Q I h) λc s1 e=>?_);cases c with
 | false=>exact isTrue_or_nil e
 | true=>exact e
def Ob(ha:PT X a tA)(hb:PW X (.BoolOp .And (b :: Au) pos) Qs):PW X (.BoolOp .And (a :: b :: Au) pos) (rh tA Qs):=by
 intro wh pins s σ H Q I h;refine isTrue_and (AK (ha pins s σ H _ I h) λc s1 ⟨H1,I1,q1⟩=>?_);cases c with
 | true=>exact hb wh pins s1 σ H1 Q I1 q1
 | false=>exact⟨H1,I1,q1⟩
def Rf(ha:PT X a tA)(hb:PW X (.BoolOp .Or (b :: Au) pos) Qs):PW X (.BoolOp .Or (a :: b :: Au) pos) (iG tA Qs):=by
 intro wh pins s σ H Q I h;refine isTrue_or (AK (ha pins s σ H _ I h) λc s1 ⟨H1,I1,q1⟩=>?_);cases c with
 | true=>exact⟨H1,I1,q1⟩
 | false=>exact hb wh pins s1 σ H1 Q I1 q1
def CS(ha:PT X a tA):PT X (.UnaryOp .Not a pos) (rQ tA):=by
 ac_rfl;exact isTrue_not (ha pins s σ H (λc H1=>Q (!c) H1) I h)
def sP(ta tb:TE):TE:=λσ H Q=>ta σ H λx H1=>∃ c,x=.bl c/\if c=true then tb σ H1 Q else Q (.bl false) H1
def sY(ta:TE):TE:=λσ H Q=>ta σ H λx H1=>∃ c,x=.bl c/\Q (.bl (!c)) H1
def JZ{op}{t:TE}(h:PE X a t):PE X (.BoolOp op [a] pos) t:=λpins s σ H Q I hw=>BoolOp_one (h pins s σ H Q I hw)
def HU(ha:PE X a ta)(hb:PE X (.BoolOp .And (b :: Au) pos) tb):PE X (.BoolOp .And (a :: b :: Au) pos) (sP ta tb):=by
 ac_rfl;refine BoolOp_and (AK (ha pins s σ H _ I h) λv s1 ⟨x,H1,I1,r1,q1⟩=>?_);obtain⟨c,rfl,q1⟩:=q1;cases r1;refine Jh ?_;cases c with
 | true=>exact hb pins s1 σ H1 Q I1 q1
 | false=>exact⟨.bl false,H1,I1,Y,q1⟩
def Ze(ha:PE X a ta):PE X (.UnaryOp .Not a pos) (sY ta):=by
 ac_rfl;refine UnaryOp_ (AK (ha pins s σ H _ I h) λv s1 ⟨x,H1,I1,r1,q1⟩=>?_);obtain⟨c,rfl,q1⟩:=q1;cases r1;exact not_of (Jh ⟨.bl (!c),H1,I1,Y,q1⟩)
def iH(t:TT)(ta tb:TE):TE:=λσ H Q=>t σ H λc H1=>if c=true then ta σ H1 Q else tb σ H1 Q
def lA{c:Expr}(hc:PT X c tA)(ha:PE X a ta)(hb:PE X b tb):PE X (.IfExp c a b pos) (iH tA ta tb):=by
 ac_rfl;refine wpAny_IfExp (AK (hc pins s σ H _ I h) λd s1 ⟨H1,I1,q1⟩=>?_);cases d with
 | true=>exact ha pins s1 σ H1 Q I1 q1
 | false=>exact hb pins s1 σ H1 Q I1 q1
end
def SqL(K:Fg)(H:Hp)(a:Addr)(xs:LV):Prop :=
 Rd H a (.lst xs) \/
  ∃(o:Obj) (its:Array Value) (n:Nat),K.lookup a=some o/\o.cls=.type "list"/\o.dict=none/\o.data=.seq its n/\its.size<=sizeLine/\AO xs its.toList
def AJ(K:Fg)(H:Hp)(a:Addr)(xs:LV):Prop :=
 Rd H a (.tup xs) \/
  ∃(o:Obj) (its:Array Value) (n:Nat),K.lookup a=some o/\o.cls=.type "tuple"/\o.data=.seq its n/\its.size<=sizeLine/\AO xs its.toList
def rJ:Value->OV
 | .none=>some .non
 | .bool b=>some (.bl b)
 | .int i _=>some (.int i)
 | .str x _=>some (.str x)
 | .bytes b _=>some (.byt b)
 | .float b _=>some (.flt b)
 | .ref a=>some (.ref a)
 | .type n=>some (.ty n)
 | _=>none
def AS.abs{x:V}{u:Value}(r:AS x u):rJ u=some x:=by
 cases x with
 | non=>cases r;rfl
 | bl _=>cases r;rfl
 | int _=>obtain⟨t,rfl⟩:=r;rfl
 | str _=>obtain⟨t,rfl⟩:=r;rfl
 | byt _=>obtain⟨t,rfl⟩:=r;rfl
 | flt _=>obtain⟨t,rfl⟩:=r;rfl
 | ref _=>cases r;rfl
 | ty _=>cases r;rfl
theorem AS.inj{x y:V}{u:Value}(r:AS x u)(q:AS y u):x=y:=Yv (r.abs.symm.trans q.abs)
theorem AO.inj:∀ {xs ys:LV}{us:LU},AO xs us->AO ys us->xs=ys
 | _,_,_,.nil,.nil=>rfl
 | _,_,_,.cons r t,.cons r' t'=>by rw[r.inj r',AO.inj t t']
section
variable {X:Cx}{pins:PL}{σ:St}{H:Hp}{s:Shared}{a:Addr}{xs ys:LV}
def SqL.of{K:Fg}(h:H a=some (.lst xs)):SqL K H a xs:=.inl (.inl h)
def AJ.of{K:Fg}(h:H a=some (.tup xs)):AJ K H a xs:=.inl (.inl h)
def Inv.list(I:Inv X pins σ H s)(h:SqL X.K H a xs):∃ its:LU,AO xs its/\PlainL s.heap a its.toArray/\xs.length<=sizeLine:=by
 rcases h with h | ⟨o,its,n,hk,hc,hd,hs,hz,r⟩
 ·obtain⟨z,its,n,r,e⟩:=h.ok I.hok;exact⟨its,r,⟨_,n,e,Y,Y,Y⟩,z⟩
 ·refine⟨its.toList,r,⟨o,n,I.kIn a o hk,hc,hd,by simpa using hs⟩,?_⟩;have e:=r.length;simp only[Hh]at e;omega
def Inv.tuple(I:Inv X pins σ H s)(h:AJ X.K H a xs):∃ its:LU,AO xs its/\IsTup s.heap a its.toArray/\xs.length<=sizeLine:=by
 rcases h with h | ⟨o,its,n,hk,hc,hs,hz,r⟩
 ·obtain⟨z,its,r,p⟩:=h.ok I.hok;exact⟨its,r,p,z⟩
 ·refine⟨its.toList,r,⟨o,I.kIn a o hk,hc,n,by simpa using hs⟩,?_⟩;have e:=r.length;simp only[Hh]at e;omega
def Inv.list_inj(I:Inv X pins σ H s)(h:SqL X.K H a xs)(h':SqL X.K H a ys):xs=ys:=by
 obtain⟨its,r,⟨o,n,e,_,_,d⟩,_⟩:=I.list h;obtain⟨its',r',⟨o',n',e',_,_,d'⟩,_⟩:=I.list h';rw[e]at e';cases e';rw[d]at d';injection d' with d1 _;have:its=its':=by simpa using congrArg Array.toList d1
 subst this;exact r.inj r'
def Inv.tuple_inj(I:Inv X pins σ H s)(h:AJ X.K H a xs)(h':AJ X.K H a ys):xs=ys:=by
 obtain⟨its,r,⟨o,e,_,n,d⟩,_⟩:=I.tuple h;obtain⟨its',r',⟨o',e',_,n',d'⟩,_⟩:=I.tuple h';rw[e]at e';cases e';rw[d]at d';injection d' with d1 _;have:its=its':=by simpa using congrArg Array.toList d1
 subst this;exact r.inj r'
end
abbrev Cx.wish(X:Cx)(E:EV):Cx:={X with xe:=E}
abbrev Cx.nox(X:Cx):Cx:=X.wish λ_ _=>False
theorem Cx.Ok.wish{X:Cx}(ok:X.Ok)(E:EV):(X.wish E).Ok :=
 ⟨ok.mod,ok.kind,ok.glob,ok.blt,ok.above,ok.inj,ok.has,ok.cab,ok.hd,ok.frames,ok.stk,ok.exf,ok.bs,ok.bsz,ok.noex,ok.exfs,ok.funs,ok.frf⟩
def Cx.Ok.unwish{X:Cx}{E:EV}(ok:(X.wish E).Ok):X.Ok :=
 ⟨ok.mod,ok.kind,ok.glob,ok.blt,ok.above,ok.inj,ok.has,ok.cab,ok.hd,ok.frames,ok.stk,ok.exf,ok.bs,ok.bsz,ok.noex,ok.exfs,ok.funs,ok.frf⟩
section
variable {X:Cx}{pins:PL}{σ:St}{H:Hp}{s:Shared}{E:EV}
theorem Inv.wish(I:Inv X pins σ H s)(E:EV):Inv (X.wish E) pins σ H s:=⟨I.ok.wish E,I.os,I.bare,I.base,I.loc,I.cell,I.free,I.freeC,I.pin,I.hok,I.len⟩
theorem Inv.unwish(I:Inv (X.wish E) pins σ H s):Inv X pins σ H s:=⟨I.ok.unwish,I.os,I.bare,I.base,I.loc,I.cell,I.free,I.freeC,I.pin,I.hok,I.len⟩
theorem SP.unwish{D:GV}{f:Flow}{s':Shared}(h:SP (X.wish E) pins D f s'):SP X pins D f s':=by
 cases f with
 | next=>obtain⟨σ',H',I,q⟩:=h;exact⟨σ',H',I.unwish,q⟩
 | brk=>obtain⟨σ',H',I,q⟩:=h;exact⟨σ',H',I.unwish,q⟩
 | cont=>obtain⟨σ',H',I,q⟩:=h;exact⟨σ',H',I.unwish,q⟩
 | ret u=>obtain⟨v,σ',H',I,r,q⟩:=h;exact⟨v,σ',H',I.unwish,r,q⟩
theorem Bo.nox{st:List Stmt}{t:TS}(h:Bo X.nox st t):Bo X st t:=λpins s σ H D I hw =>
 Jf (h pins s σ H D (I.wish _) hw) (λ_ _ q=>q.unwish) λ_ _ z=>False.elim z
end
section
variable {X:Cx}{st:Stmt}{Au:List Stmt}{t u:TS}{e:Expr}{te:TE}{pos:Pos}
def sW:TS:=λD σ H=>D.nx σ H
def AE(t u:TS):TS:=λD σ H=>t {D with nx:=u D} σ H
def AZ:Bo X [] sW:=λ_ _ σ H _ I h=>wpAny_execs_nil ⟨σ,H,I,h⟩
def pS(h1:PS X st t)(h2:Bo X Au u):Bo X (st :: Au) (AE t u):=by
 intro pins s σ H D I h;refine wpAny_execs_cons (AK (h1 pins s σ H {D with nx:=u D} I h) λf s1 q=>?_);cases f with
 | next =>
  obtain⟨σ',H',I',q⟩:=q;exact h2 pins s1 σ' H' D I' q
 | ret v=>exact q
 | brk=>exact q
 | cont=>exact q
def AH(h1:PS X st t):Bo X [st] t:=by
 intro pins s σ H D I h;refine wpAny_execs_cons (AK (h1 pins s σ H D I h) λf s1 q=>?_);cases f with
 | next=>exact wpAny_execs_nil q
 | ret v=>exact q
 | brk=>exact q
 | cont=>exact q
def Inv.quiet{pins:PL}{σ:St}{H:Hp}{s:Shared}(I:Inv X pins σ H s):interactive X.env=false:=by simp[interactive,I.ok.kind]
def sU(te:TE):TS:=λD σ H=>te σ H λ_ H1=>D.nx σ H1
def Bi(he:PE X e te)(hs:swapsWith e none pos.line X.env=pure false:=by rfl):PS X (.Expr e pos) (sU te):=by
 intro pins s σ H D I h;exact wpAny_Expr_any (AK (he pins s σ H _ I h) λv s1 ⟨x,H1,I1,r1,q1⟩=>⟨σ,H1,I1,q1⟩) I.quiet hs
def rR(te:TE):TS:=λD σ H=>te σ H D.rt
def AW(he:PE X e te):PS X (.Return (some e) pos) (rR te):=by
 intro pins s σ H D I h;exact wpAny_Return_some (AK (he pins s σ H _ I h) λv s1 ⟨x,H1,I1,r1,q1⟩=>⟨x,σ,H1,I1,r1,q1⟩)
def BH(c:TT)(t u:TS):TS:=λD σ H=>c σ H λb H1=>if b=true then t D σ H1 else u D σ H1
def AY{c:Expr}{a b:List Stmt}{tc:TT}(hc:PT X c tc)(ha:Bo X a t)(hb:Bo X b u):PS X (.If c a b pos) (BH tc t u):=by
 intro pins s σ H D I h;refine wpAny_If (AK (hc pins s σ H _ I h) λd s1 ⟨H1,I1,q1⟩=>?_);cases d with
 | true=>exact ha pins s1 σ H1 D I1 q1
 | false=>exact hb pins s1 σ H1 D I1 q1
def ug:TS:=λ_ _ _=>False
def Cn{sts:List Stmt}:Bo X sts ug:=λ_ _ _ _ _ _ h=>h.elim
end
abbrev TG:=V->St->Hp->(St->Hp->Prop)->Prop
abbrev Lc:=LV->St->Hp->(St->Hp->Prop)->Prop
def PG(X:Cx)(target:Expr)(t:TG):Prop :=
 ∀(pins:PL) (s:Shared) (σ:St) (H:Hp) (v:V) (u:Value) (Q:SW),Inv X pins σ H s->AS v u->t v σ H Q ->
  wpAny (model X.prog X.w) X.A (assign target X.env u) (λ_ s'=>∃ σ' H',Inv X pins σ' H' s'/\Q σ' H') X.xe s
def Tt(X:Cx)(ts:List Expr)(t:Lc):Prop :=
 ∀(pins:PL) (s:Shared) (σ:St) (H:Hp) (vs:LV) (us:LU) (Q:SW),Inv X pins σ H s->AO vs us->t vs σ H Q ->
  wpAny (model X.prog X.w) X.A (assignInOrder ((assignEach ts X.env).map (·.2)) us) (λ_ s'=>∃ σ' H',Inv X pins σ' H' s'/\Q σ' H') X.xe s
abbrev WT:=V->V->V->Hp->(Hp->Prop)->Prop
def eU(X:Cx)(t:WT):Prop :=
 ∀(pins:PL) (s:Shared) (σ:St) (H:Hp) (o i v:V) (ov iv u:Value) (Q:Hp->Prop),Inv X pins σ H s->AS o ov->AS i iv->AS v u->t o i v H Q ->
  wpAny (model X.prog X.w) X.A (setItem ov iv u) (λ_ s'=>∃ H',Inv X pins σ H' s'/\Q H') X.xe s
section
variable {X:Cx}{pos:Pos}
def C2(i:Nat):TG:=λv σ H Q=>Q (σ.set i (some v)) H
def BQ{i:Nat}{x:Str}(hN:X.N.Nodup)(hi:X.N[i]?=some x)(hx:Loc X.env.scope x)(hf:X.fn x=true\/X.env.scope.names.lookup x=some .local:=by first | exact .inl rfl | exact .inr rfl | assumption):PG X (.Name x pos) (C2 i):=by
 intro pins s σ H v u Q I r h;exact wpAny_assign_Name (SM I hN hi hx r (λs' I'=>⟨_,H,I',h⟩) hf)
def gE(i:Nat){x:Str}(hN:X.N.Nodup)(hi:X.N[i]?=some x:=by rfl)(hx:Loc X.env.scope x:=by exact Or.inl rfl)(hf:X.fn x=true\/X.env.scope.names.lookup x=some .local:=by first | exact .inl rfl | exact .inr rfl | assumption):PG X (.Name x pos) (C2 i):=BQ hN hi hx hf
def ee:Lc:=λvs σ H Q=>vs=[]/\Q σ H
def Wi(t:TG)(u:Lc):Lc:=λvs σ H Q=>∃ v r,vs=v :: r/\t v σ H λσ' H'=>u r σ' H' Q
def Jm:Tt X [] ee:=by
 intro pins s σ H vs us Q I r h;obtain⟨e,h⟩:=h;subst e;cases r;exact assignInOrder_nil ⟨σ,H,I,h⟩
def gC{e:Expr}{es:List Expr}{t:TG}{u:Lc}(h1:PG X e t)(h2:Tt X es u)
  (hs:(assignEach (e :: es) X.env).map (·.2)=assign e X.env :: (assignEach es X.env).map (·.2):=by rfl):Tt X (e :: es) (Wi t u):=by
 intro pins s σ H vs us Q I r h;obtain⟨v,vr,e1,h⟩:=h;subst e1;cases r with
 | cons r rr =>
  rw[hs];refine assignInOrder_cons (AK (h1 pins s σ H _ _ _ I r h) λ_ s1 ⟨σ1,H1,I1,q1⟩=>?_);exact h2 pins s1 σ1 H1 _ _ Q I1 rr q1
def ef(K:Fg)(n:Nat)(t:Lc):TG:=λv σ H Q=>∃ a xs,v=.ref a/\AJ K H a xs/\xs.length=n/\t xs σ H Q
def Jl{es:List Expr}{k:Nat}{t:Lc}{n:Nat}(hc:X.calm=true)(h:Tt X es t)
  (hn:(assignEach es X.env).length=n:=by rfl) (hst:(assignEach es X.env).findIdx? (·.1)=none:=by rfl):PG X (.Tuple es k pos) (ef X.K n t):=by
 intro pins s σ H v u Q I r hw;obtain⟨a,xs,e1,hq,hl,hw⟩:=hw;subst e1;cases r;obtain⟨its,rv,ht,hz⟩:=I.tuple hq;refine assign_Tuple_tuple (I.ok.hd hc) ht (by simp[hn,<- hl,rv.length]) hst λh' hx=>?_;have I1:Inv X pins σ H {s with heap:=h' }:=I.kept (t':=s.toks) λb o e=>hx b o (Ys (Ye e)) e;exact h pins _ σ H xs _ Q I1 (by simpa using rv) hw
def qf(to ti:TE)(t:WT):TG:=λv σ H Q=>to σ H λo H1=>ti σ H1 λi H2=>t o i v H2 λH3=>Q σ H3
def IK{o i:Expr}{to ti:TE}{t:WT}(ho:PE X o to)(hi:PE X i ti)(hs:eU X t)
  (ha:∀ v,assign (.Subscript o i pos) X.env v=(do
   let ov <- holding [v] (eval o X.env);let iv <- holding [v,ov] (eval i X.env)
   standAt pos
   holding [v,ov,iv] (setItem ov iv v)
   release [v,ov,iv] []):=by intro _;rfl):PG X (.Subscript o i pos) (qf to ti t):=by
 intro pins s σ H v u Q I r h;rw[ha];refine Ja (Jj (AK (ho pins s σ H _ I h) λov s1 ⟨x,H1,I1,r1,q1⟩=>?_));refine Ja (Jj (AK (hi pins s1 σ H1 _ I1 q1) λiv s2 ⟨y,H2,I2,r2,q2⟩=>?_));refine Ja (wpAny_standAt (Ja (Jj (AK (hs pins s2 σ H2 x y v ov iv u _ I2 r1 r2 r q2) λ_ s3 ⟨H3,I3,q3⟩=>?_))));exact wpAny_release ⟨σ,H3,I3,q3⟩
def IF(te:TE)(g:TG):TS:=λD σ H=>te σ H λx H1=>g x σ H1 D.nx
def HW{tg e:Expr}{te:TE}{g:TG}(he:PE X e te)(hg:PG X tg g)(hs:swapsWithSole [tg] e pos.line X.env=pure false:=by rfl)(hw:swappedStores [tg] e X.env=pure none:=by rfl)
  (h1:(assignEach [tg] X.env).map (·.2)=[assign tg X.env]:=by rfl):PS X (.Assign [tg] e pos) (IF te g):=by
 intro pins s σ H D I h;refine wpAny_Assign_stores (AK (he pins s σ H _ I h) λv s1 ⟨x,H1,I1,r1,q1⟩=>?_) hs hw;rw[h1];exact AK (hg pins s1 σ H1 x v _ I1 r1 q1) λ_ s2 q=>q
def CB{i:Nat}{x:Str}{e:Expr}{te:TE}{pos':Pos}(hN:X.N.Nodup)(hi:X.N[i]?=some x)(hx:Loc X.env.scope x)(he:PE X e te)(hs:swapsWith e (some (.Name x pos')) pos.line X.env=pure false:=by rfl)(hf:X.fn x=true\/X.env.scope.names.lookup x=some .local:=by first | exact .inl rfl | exact .inr rfl | assumption):
  PS X (.Assign [.Name x pos'] e pos) (IF te (C2 i)):=by
 intro pins s σ H D I h;refine wpAny_Assign_Name (AK (he pins s σ H _ I h) λv s1 ⟨y,H1,I1,r1,q1⟩=>?_) hs;exact SM I1 hN hi hx r1 (λs2 I2=>⟨_,H1,I2,q1⟩) hf
def sE(i:Nat){x:Str}{e:Expr}{te:TE}{pos':Pos}(hN:X.N.Nodup)(he:PE X e te)(hi:X.N[i]?=some x:=by rfl)(hx:Loc X.env.scope x:=by exact Or.inl rfl)(hs:swapsWith e (some (.Name x pos')) pos.line X.env=pure false:=by rfl)(hf:X.fn x=true\/X.env.scope.names.lookup x=some .local:=by first | exact .inl rfl | exact .inr rfl | assumption):PS X (.Assign [.Name x pos'] e pos) (IF te (C2 i)):=CB hN hi hx he hs hf
end
section
variable {X:Cx}{pos:Pos}
def My(c:TT)(tb:TS):TS:=λD σ H=>∃ W:NW,(∃ m,W m σ H)/\∀ m σ H,W m σ H ->
 c σ H λb H1=>if b=true then ∃ N:SW,(∀ σ' H',N σ' H'->∃ m',m'<m/\W m' σ' H')/\tb {D with nx:=N,ct:=N,bk:=D.nx} σ H1 else D.nx σ H1
def K0{c:Expr}{body:List Stmt}{tc:TT}{tb:TS}(hp:PassesOwn (model X.prog X.w) X.A X.env X.xe)(hc:PT X c tc)(hb:Bo X body tb):PS X (.While c body [] pos) (My tc tb):=by
 intro pins s σ H D I h;obtain⟨W,⟨m0,w0⟩,turn⟩:=h;refine wpAny_While (codeAny_whileLoop (λn s'=>∃ σ' H',Inv X pins σ' H' s'/\W n σ' H') ?_ m0 ⟨σ,H,I,w0⟩);rintro n s1 ⟨σ1,H1,I1,w1⟩;refine wpAny_passesOwn hp (AK (hc pins s1 σ1 H1 _ I1 (turn n σ1 H1 w1)) λb s2 ⟨H2,I2,q2⟩=>?_);cases b with
 | true =>
  obtain⟨N,hN,q2⟩:=q2;rw[if_pos rfl];refine wpAny_passesOwn hp (AK (hb pins s2 σ1 H2 _ I2 q2) λf s3 q3=>?_);cases f with
  | next =>
   obtain⟨σ3,H3,I3,n3⟩:=q3;obtain⟨m',hm,w3⟩:=hN σ3 H3 n3;exact⟨m',hm,σ3,H3,I3,w3⟩
  | cont =>
   obtain⟨σ3,H3,I3,n3⟩:=q3;obtain⟨m',hm,w3⟩:=hN σ3 H3 n3;exact⟨m',hm,σ3,H3,I3,w3⟩
  | brk=>exact q3
  | ret v=>exact q3
 | false =>
  rw[if_neg Yq];exact wpAny_execs_nil ⟨σ1,H2,I2,q2⟩
end
structure It where
 go:Nat->Hp->Prop
 yld:Nat->Hp->V->Hp->Prop
 stop:Nat->Hp->Prop
def BA(X:Cx)(pins:PL)(H:Hp)(b:Addr):Prop :=
 H b=none/\b≠X.env.locals/\b∉X.fs/\(b∈X.ex\/X.s₀.heap.objs.size<=b)/\(∀ x c,X.env.cells.lookup x=some c->c≠b)/\∀ p∈X.pn++pins,p.1≠b
def Inv.fpOk{X:Cx}{pins:PL}{σ:St}{H H':Hp}{s:Shared}{b:Addr}(I:Inv X pins σ H s)(hb:s.heap.objs.size<=b)(hn:H' b=none):BA X pins H' b:=by
 refine⟨hn,Cy (Yp I.lt hb),I.nofs hb,.inr (A6 I.sz hb),λx c e z=>?_,λp hp z=>?_⟩
 ·obtain⟨v,q⟩:=I.cell x c e;exact absurd (Yp q.lt (by rw[z];exact hb)) (FH _)
 ·exact absurd (Yp (Ye (I.pin p hp).1) (by rw[z];exact hb)) (FH _)
structure E3(P:Program)(w:World)(K:Fg)(tg:Expr)(J:It)(fp:List Addr)(it:Addr)(tn:Nat->Heap->Prop):Prop where
 mem:it∈fp
 obj:∀ i h,tn i h->∀ b∈fp,∃ o,h.get? b=some o/\∀ v,o.data≠.cell v
 keep:∀ i h h',tn i h->(∀ b∈fp,∀ o,h.get? b=some o->h'.get? b=some o)->tn i h'
 item:∀(X:Cx),X.prog=P->X.w=w->X.K=K->X.calm=true->∀(i:Nat) (pins:PL) (s:Shared) (σ:St) (H:Hp) (E:EV),Inv X pins σ H s->(∀ b∈fp,BA X pins H b)->tn i s.heap->J.go i H ->
  wpAny (model P w) X.A (pyNext (.ref it)) (λr s1=>∃ u,r=some u /\
   wpAny (model P w) X.A (letOwnedTupleGo tg (.ref it) u) (λ_ s2=>∃ x H',Inv X pins σ H' s2/\AS x u/\J.yld i H x H'/\tn (i + 1) s2.heap/\∀ b∈fp,H' b=none) E s1) E s
 done:∀(X:Cx),X.prog=P->X.w=w->X.K=K->X.calm=true->∀(i:Nat) (pins:PL) (s:Shared) (σ:St) (H:Hp) (E:EV),Inv X pins σ H s->(∀ b∈fp,BA X pins H b)->tn i s.heap->J.stop i H ->
  wpAny (model P w) X.A (pyNext (.ref it)) (λr s1=>r=none/\Inv X pins σ H s1) E s
 self:∀(A:Around) (i:Nat) (s:Shared) (Q:EV) (E:EV),tn i s.heap->Q (.ref it) s->wpAny (model P w) A (pyIter (.ref it)) Q E s
abbrev TI:=St->Hp->(It->Hp->Prop)->Prop
def Ts(X:Cx)(pins:PL)(σ:St)(tg:Expr)(R:It->Hp->Prop)(itv:Value)(s2:Shared):Prop :=
 ∃(it:Addr) (fp:List Addr) (tn:Nat->Heap->Prop) (J:It) (H':Hp),itv=.ref it/\Inv X pins σ H' s2/\E3 X.prog X.w X.K tg J fp it tn/\tn 0 s2.heap/\(∀ b∈fp,BA X pins H' b)/\R J H'
def PI(X:Cx)(tg iter:Expr)(wi:TI):Prop :=
 ∀(pins:PL) (s:Shared) (σ:St) (H:Hp) (R:It->Hp->Prop),Inv X pins σ H s->wi σ H R ->
  wpAny (model X.prog X.w) X.A (eval iter X.env) (λv s1=>wpAny (model X.prog X.w) X.A (pyIter v) (Ts X pins σ tg R) X.xe s1) X.xe s
def Mn{M:Model}{A:Around}{E:EV}{s:Shared}{tg:Expr}{it:Addr}{u:Value}{o:Obj}{n:String}{vs:Array Value}{Q:Unit->Shared->Prop}(ho:s.heap.get? it=some o)(hc:o.cls=.type n)(hd:o.data=.fields vs)
  (hn:["enumerate","zip","dict_itemiterator","dict_reverseitemiterator","odict_iterator","itertools.zip_longest","itertools.pairwise"].contains n=false) (hQ:Q () s):wpAny M A (letOwnedTupleGo tg (.ref it) u) Q E s:=by
 unfold letOwnedTupleGo;cases tg <;> first
  | exact Jd hQ
  | (cases u <;> first
    | exact Jd hQ
    | (refine Ja (wpAny_load ho ?_)
       rw[hc,hd];show wpAny M A (if(["enumerate","zip","dict_itemiterator","dict_reverseitemiterator","odict_iterator","itertools.zip_longest","itertools.pairwise"].contains n&&vs[0]? == some (rawInt _))=true then _ else _) Q E s;rw[if_neg (by intro h;rw[hn,Bool.false_and]at h;cases h)];exact Jd hQ))
def Nt(K:Fg)(a:Addr):It :=
 ⟨λi H=>∃ xs x,SqL K H a xs/\xs[i]?=some x,λi H x H'=>H'=H/\∀ xs,SqL K H a xs->xs[i]?=some x,λi H=>∃ xs,SqL K H a xs/\xs.length<=i⟩
def W_(K:Fg)(a:Addr):It :=
 ⟨λi H=>∃ xs x,AJ K H a xs/\xs[i]?=some x,λi H x H'=>H'=H/\∀ xs,AJ K H a xs->xs[i]?=some x,λi H=>∃ xs,AJ K H a xs/\xs.length<=i⟩
def Tz(lo:Int)(n:Nat):It:=⟨λi _=>i<n,λi H x H'=>H'=H/\x=.int (lo + i),λi _=>n<=i⟩
def dC{P:Program}{w:World}{K:Fg}{tg:Expr}(a it:Addr):E3 P w K tg (Nt K a) [it] it (λi h=>h.IsListIter it a i) where
 mem:=by simp
 obj:=λi h st b hb=>by
  have e:b=it:=by simpa using hb
  subst e;obtain⟨o,e,c,d⟩:=st;exact⟨o,e,λv z=>by rw[d]at z;cases z⟩
 keep:=λi h h' st k=>st.at λo e=>k it (by simp) o e
 item:=by
  intro X hP hw hK hc i pins s σ H E I hf st hg;subst hP hw hK;obtain⟨xs,x,hq,hx⟩:=hg;obtain⟨its,rv,p,hz⟩:=I.list hq;obtain⟨u,hu,ru⟩:=rv.get hx;obtain⟨f0,f1,f2,f3,f4,f5⟩:=hf it (by simp);refine wpAny_pyNext_list_item st p.isList (x:=u) (by simpa using hu) λh' Ay sb=>?_;have I1:Inv X pins σ H {s with heap:=h' }:=I.turned (t':=s.toks) (λb o hb e=>(sb.2 b hb).trans e) f0 f1 f3 f4 f5;obtain⟨o,e,c,d⟩:=id Ay;exact⟨u,Y,Mn (s:={s with heap:=h' }) e c d (by decide) ⟨x,H,I1,ru,⟨Y,λys hy=>by rw[I.list_inj hy hq];exact hx⟩,Ay,λb hb=>(hf b hb).1⟩⟩
 done:=by
  intro X hP hw hK hc i pins s σ H E I hf st hg;subst hP hw hK;obtain⟨xs,hq,hx⟩:=hg;obtain⟨its,rv,p,hz⟩:=I.list hq;obtain⟨f0,f1,f2,f3,f4,f5⟩:=hf it (by simp);have hl:=rv.length;exact wpAny_pyNext_list_end (I.ok.hd hc) st p.isList (by simp;omega) λh' eb=>⟨Y,I.turned (t':=s.toks) (λb o hb e=>eb b o hb e) f0 f1 f3 f4 f5⟩
 self:=λ_ _ _ _ _ st h=>wpAny_pyIter_listiter st h
def dv{P:Program}{w:World}{K:Fg}{tg:Expr}(a it:Addr):E3 P w K tg (W_ K a) [it] it (λi h=>h.IsTupleIter it a i) where
 mem:=by simp
 obj:=λi h st b hb=>by
  have e:b=it:=by simpa using hb
  subst e;obtain⟨o,e,c,d⟩:=st;exact⟨o,e,λv z=>by rw[d]at z;cases z⟩
 keep:=λi h h' st k=>st.at λo e=>k it (by simp) o e
 item:=by
  intro X hP hw hK hc i pins s σ H E I hf st hg;subst hP hw hK;obtain⟨xs,x,hq,hx⟩:=hg;obtain⟨its,rv,p,hz⟩:=I.tuple hq;obtain⟨u,hu,ru⟩:=rv.get hx;obtain⟨f0,f1,f2,f3,f4,f5⟩:=hf it (by simp);refine wpAny_pyNext_tuple_item st (show s.heap.IsTuple a its.toArray from p) (x:=u) (by simpa using hu) λh' Ay sb=>?_;have I1:Inv X pins σ H {s with heap:=h' }:=I.turned (t':=s.toks) (λb o hb e=>(sb.2 b hb).trans e) f0 f1 f3 f4 f5;obtain⟨o,e,c,d⟩:=id Ay;exact⟨u,Y,Mn (s:={s with heap:=h' }) e c d (by decide) ⟨x,H,I1,ru,⟨Y,λys hy=>by rw[I.tuple_inj hy hq];exact hx⟩,Ay,λb hb=>(hf b hb).1⟩⟩
 done:=by
  intro X hP hw hK hc i pins s σ H E I hf st hg;subst hP hw hK;obtain⟨xs,hq,hx⟩:=hg;obtain⟨its,rv,p,hz⟩:=I.tuple hq;obtain⟨f0,f1,f2,f3,f4,f5⟩:=hf it (by simp);have hl:=rv.length;exact wpAny_pyNext_tuple_end (I.ok.hd hc) st (show s.heap.IsTuple a its.toArray from p) (by simp;omega) λh' eb=>⟨Y,I.turned (t':=s.toks) (λb o hb e=>eb b o hb e) f0 f1 f3 f4 f5⟩
 self:=λ_ _ _ _ _ st h=>wpAny_pyIter_tupleiter st h
def pB{P:Program}{w:World}{K:Fg}{tg:Expr}(it:Addr)(lo:Int)(n:Nat):E3 P w K tg (Tz lo n) [it] it (λi h=>IsRangeIter h it (lo + (i:Nat) * 1) ((n:Int) - (i:Nat)) 1) where
 mem:=by simp
 obj:=λi h st b hb=>by
  have e:b=it:=by simpa using hb
  subst e;exact⟨_,st,λv z=>by
   have z':Data.fields _=Data.cell v:=z;cases z'⟩
 keep:=λi h h' st k=>k it (by simp) _ st
 item:=by
  intro X hP hw hK hc i pins s σ H E I hf st hg;subst hP hw hK;obtain⟨f0,f1,f2,f3,f4,f5⟩:=hf it (by simp);have W:=Walks.range (prog:=X.prog) (w:=X.w) (I.ok.hd hc) it lo 1 n;refine W.item i s _ _ hg st λv h' tk hv Ay kk=>?_;obtain⟨t,rfl⟩:=hv;have I1:Inv X pins σ H {s with heap:=h',toks:=tk}:=I.turned (λb o hb e=>kk b o (by simpa using hb) e) f0 f1 f3 f4 f5;refine⟨Z,Mn (s:={s with heap:=h',toks:=tk}) (n:="range_iterator") Ay rfl rfl (by decide) ⟨.int (lo + i),H,I1,⟨t,?_⟩,⟨Y,Y⟩,Ay,λb hb=>(hf b hb).1⟩⟩;rw[Int.mul_one]
 done:=by
  intro X hP hw hK hc i pins s σ H E I hf st hg;subst hP hw hK;obtain⟨f0,f1,f2,f3,f4,f5⟩:=hf it (by simp);exact wpAny_pyNext_range_end (I.ok.hd hc) st (by have:n<=i:=hg;omega) λh' eb=>⟨Y,I.turned (t':=s.toks) (λb o hb e=>eb b o hb e) f0 f1 f3 f4 f5⟩
 self:=λ_ _ _ _ _ st h=>wpAny_pyIter_rangeiter st h
section
variable {X:Cx}{tg:Expr}
def gT(K:Fg)(tl:TE):TI:=λσ H R=>tl σ H λx H1=>∃ a,x=.ref a/\(∃ xs,SqL K H1 a xs)/\R (Nt K a) H1
def qj(K:Fg)(tl:TE):TI:=λσ H R=>tl σ H λx H1=>∃ a,x=.ref a/\(∃ xs,AJ K H1 a xs)/\R (W_ K a) H1
def C5{l:Expr}{tl:TE}(hl:PE X l tl):PI X tg l (gT X.K tl):=by
 intro pins s σ H R I h;refine AK (hl pins s σ H _ I h) λv s1 ⟨x,H1,I1,r1,q1⟩=>?_;obtain⟨a,e,⟨xs,hq⟩,q⟩:=q1;subst e;cases r1;obtain⟨its,rv,p,hz⟩:=I1.list hq;refine wpAny_pyIter_list p.isList ?_;refine⟨s1.heap.objs.size,[s1.heap.objs.size],_,_,H1,Y,I1.kept (t':=s1.toks) λb o e=>Yc _ e,dC a _,⟨_,Yl _ rfl,Y,Y⟩,λb hb=>?_,q⟩;have e:b=s1.heap.objs.size:=by simpa using hb
 subst e;exact I1.fpOk (Yd _) (I1.hok.fresh (Yd _))
def HV{l:Expr}{tl:TE}(hl:PE X l tl):PI X tg l (qj X.K tl):=by
 intro pins s σ H R I h;refine AK (hl pins s σ H _ I h) λv s1 ⟨x,H1,I1,r1,q1⟩=>?_;obtain⟨a,e,⟨xs,hq⟩,q⟩:=q1;subst e;cases r1;obtain⟨its,rv,p,hz⟩:=I1.tuple hq;refine wpAny_pyIter_tuple (show s1.heap.IsTuple a its.toArray from p) ?_;refine⟨s1.heap.objs.size,[s1.heap.objs.size],_,_,H1,Y,I1.kept (t':=s1.toks) λb o e=>Yc _ e,dv a _,⟨_,Yl _ rfl,Y,Y⟩,λb hb=>?_,q⟩;have e:b=s1.heap.objs.size:=by simpa using hb
 subst e;exact I1.fpOk (Yd _) (I1.hok.fresh (Yd _))
def lG{pins:PL}{σ:St}{H:Hp}{s:Shared}{R:It->Hp->Prop}{E:EV}{lo hi:Int}{t u v:Tok}{tk:Nat}(I:Inv X pins σ H s)(h1:-(2 ^ 62)<=lo)(h2:lo<2 ^ 62)(h3:-(2 ^ 62)<=hi)(h4:hi<2 ^ 62)
  (q:R (Tz lo (hi - lo).toNat) H):wpAny (model X.prog X.w) X.A (pyIter (.ref s.heap.objs.size)) (Ts X pins σ tg R) E {s with heap:=s.heap.push {cls:=.type "range",data:=.fields #[.int lo t,.int hi u,.int 1 v] },toks:=tk}:=by
 refine wpAny_pyIter_range (IsRange.new ..) (small_one h1 h2 h3 h4) ?_;have I1:Inv X pins σ H {s with heap:=s.heap.push {cls:=.type "range",data:=.fields #[.int lo t,.int hi u,.int 1 v] },toks:=tk}:=I.kept λb o e=>Yc _ e;refine⟨(s.heap.push {cls:=.type "range",data:=.fields #[.int lo t,.int hi u,.int 1 v] }).objs.size,[(s.heap.push {cls:=.type "range",data:=.fields #[.int lo t,.int hi u,.int 1 v] }).objs.size],_,_,H,Y,
  I1.kept (t':=tk) λb o e=>Yc _ e,pB _ lo (hi - lo).toNat,?_,λb hb=>?_,q⟩
 ·have e1:lo + ((0:Nat):Int) * 1=lo:=by simp
  have e2:(((hi - lo).toNat:Nat):Int) - ((0:Nat):Int)=Builtin.Range.rangeSize lo hi 1:=by rw[rangeSize_one];split <;> omega
  show IsRangeIter _ _ (lo + ((0:Nat):Int) * 1) ((((hi - lo).toNat:Nat):Int) - ((0:Nat):Int)) 1;rw[e1,e2];exact Yl _ rfl
 ·have e:b=(s.heap.push {cls:=.type "range",data:=.fields #[.int lo t,.int hi u,.int 1 v] }).objs.size:=by simpa using hb
  subst e;exact I1.fpOk (Yd _) (I1.hok.fresh (Yd _))
def s_(ta:TA):TI:=λσ H R=>ta σ H λvs H1=>∃ j:Int,vs=[.int j]/\-(2 ^ 62)<=j/\j<2 ^ 62/\R (Tz 0 j.toNat) H1
def Fm{a:Expr}{ta:TA}{p pos:Pos}(hg:Gl X "range")(hm:X.mg "range"=none)(ha:PA X [a] ta)(hs:starEach [a] X.env=[(false,eval a X.env)]:=by rfl):PI X tg (.Call (.Name "range" p) [a] [] pos) (s_ ta):=by
 intro pins s σ H R I h;refine Call_ (Fh I hg hm boot_range (Ii (AK (ha pos pins s σ H _ I h) λus s1 ⟨vs,H1,I1,r1,q1⟩=>?_) hs rfl));obtain⟨j,e,q1,q2,q⟩:=q1;subst e;cases r1 with
 | cons r rr =>
  cases rr;obtain⟨t,rfl⟩:=r;exact call_range_1 (lG I1 (by omega) (by omega) q1 q2 (by simpa using q))
def Cg(wi:TI)(g:TG)(tb:TS):TS:=λD σ H=>wi σ H λJ H1=>∃ W:Nat->Nat->St->Hp->Prop,(∃ m,W 0 m σ H1)/\∀ i m σ H,W i m σ H ->
 (J.stop i H/\D.nx σ H)\/(J.go i H/\∃ N:SW,(∀ σ' H',N σ' H'->∃ m',m'<m/\W (i + 1) m' σ' H')/\∀ x H',J.yld i H x H'->g x σ H' λσ2 H2=>tb {D with nx:=N,ct:=N,bk:=D.nx} σ2 H2)
def Mx(fp:List Addr)(h:Heap):PL:=fp.filterMap λb=>(h.get? b).map λo=>(b,o)
def NV{fp:List Addr}{h:Heap}{b:Addr}{o:Obj}(hb:b∈fp)(e:h.get? b=some o):(b,o)∈Mx fp h:=List.mem_filterMap.mpr ⟨b,hb,by rw[e];rfl⟩
def nI{fp:List Addr}{h:Heap}{p:Addr×Obj}(hp:p∈Mx fp h):p.1∈fp/\h.get? p.1=some p.2:=by
 obtain⟨b,hb,e⟩:=List.mem_filterMap.mp hp;cases q:h.get? b with
 | none=>rw[q]at e;cases e
 | some o =>
  rw[q]at e;have e':(b,o)=p:=Yv e;subst e';exact⟨hb,q⟩
def Inv.pinned{pins:PL}{σ:St}{H:Hp}{s:Shared}{fp:List Addr}(I:Inv X pins σ H s)(hf:∀ b∈fp,BA X pins H b)(ho:∀ b∈fp,∃ o,s.heap.get? b=some o/\∀ v,o.data≠.cell v):Inv X (pins++Mx fp s.heap) σ H s :=
 I.pins_of λp hp=>(Yt.mp hp).elim (λz=>I.pin p (Cq _ z)) λz=>by
  obtain⟨hb,e⟩:=nI z;obtain⟨f0,f1,f2,_⟩:=hf p.1 hb;obtain⟨o,e',d⟩:=ho p.1 hb;rw[e]at e';cases e';exact⟨e,f0,f1,f2,d⟩
def Inv.unpinned{pins pl:PL}{σ:St}{H:Hp}{s:Shared}(I:Inv X (pins++pl) σ H s):Inv X pins σ H s:=I.pins_of λp hp=>I.pin p (Cq _ (LQ _ hp))
def CQ{iter:Expr}{body:List Stmt}{wi:TI}{g:TG}{tb:TS}{pos:Pos}(hp:PassesOwn (model X.prog X.w) X.A X.env X.xe)(hc:X.calm=true)(hi:PI X tg iter wi)(hg:PG X tg g)(hb:Bo X body tb)
  (hs:∀ x,foldedSetIterable iter X.env x=pure x:=by intro _;rfl):PS X (.For tg iter body [] pos) (Cg wi g tb):=by
 intro pins s σ H D I h;refine wpAny_For (AK (hi pins s σ H _ I h) λv s1 h1=>AK h1 λitv s2 h2=>?_) hs;obtain⟨it,fp,tn,J,H2,e,I2,T,Eu,f2,W,⟨m0,w0⟩,turn⟩:=h2;subst e;have stat:∀ {H':Hp},(∀ b∈fp,H' b=none)->∀ b∈fp,BA X pins H' b:=λhn b hb=>⟨hn b hb,(f2 b hb).2⟩;refine codeAny_forLoop_any (λn s'=>∃ i σ' H',Inv X pins σ' H' s'/\tn i s'.heap/\(∀ b∈fp,H' b=none)/\W i n σ' H') ?_ m0 ⟨0,σ,H2,I2,Eu,λb hb=>(f2 b hb).1,w0⟩;rintro n s3 ⟨i,σ3,H3,I3,JD,JP,w3⟩
 rcases turn i n σ3 H3 w3 with⟨stop,qn⟩ | ⟨go,N,hN,step⟩
 ·refine wpAny_passesOwn hp (AK (T.done X rfl rfl rfl hc i pins s3 σ3 H3 X.xe I3 (stat JP) JD stop) λr s4 ⟨hr,I4⟩=>?_);subst hr;exact wpAny_execs_nil ⟨σ3,H3,I4,qn⟩
 ·refine wpAny_passesOwn hp (AK (T.item X rfl rfl rfl hc i pins s3 σ3 H3 X.xe I3 (stat JP) JD go) λr s4 ⟨u,hr,h4⟩=>?_);subst hr;refine wpAny_passesOwn hp (AK h4 λ_ s5 ⟨x,H5,I5,r5,y5,F3,OK⟩=>?_);have P6:=I5.pinned (stat OK) (T.obj _ _ F3);refine wpAny_passesOwn hp (AK (hg _ s5 σ3 H5 x u _ P6 r5 (step x H5 y5)) λ_ s6 ⟨σ6,H6,I6,q6⟩=>?_);refine wpAny_passesOwn hp (AK (hb _ s6 σ6 H6 _ I6 q6) λf s7 q7=>?_);have again:∀ {σ7:St} {H7:Hp},Inv X (pins++Mx fp s5.heap) σ7 H7 s7->N σ7 H7->∃ m,m<n/\∃ i σ' H',Inv X pins σ' H' s7/\tn i s7.heap/\(∀ b∈fp,H' b=none)/\W i m σ' H':=λ{σ7 H7} I7 n7=>by
   obtain⟨m',hm,w7⟩:=hN σ7 H7 n7;refine⟨m',hm,i + 1,σ7,H7,I7.unpinned,T.keep _ _ _ F3 λb hb o e=>(I7.pin (b,o) (Cq _ (Cq _ (NV hb e)))).1,λb hb=>?_,w7⟩;obtain⟨o,e,d⟩:=T.obj _ _ F3 b hb;exact(I7.pin (b,o) (Cq _ (Cq _ (NV hb e)))).2.1
  cases f with
  | next=>obtain⟨σ7,H7,I7,n7⟩:=q7;exact again I7 n7
  | cont=>obtain⟨σ7,H7,I7,n7⟩:=q7;exact again I7 n7
  | brk=>obtain⟨σ7,H7,I7,q7⟩:=q7;exact⟨σ7,H7,I7.unpinned,q7⟩
  | ret v=>obtain⟨x7,σ7,H7,I7,r7,q7⟩:=q7;exact⟨x7,σ7,H7,I7.unpinned,r7,q7⟩
end
abbrev R2:=V->V->Hp->VK->Prop
def BO(X:Cx)(f:Value->Value->Sem Value)(r:R2):Prop :=
 ∀(pins:PL) (s:Shared) (σ:St) (H:Hp) (x y:V) (v u:Value) (Q:VK),Inv X pins σ H s->AS x v->AS y u->r x y H Q ->
  wpAny (model X.prog X.w) X.A (f v u) (EP X pins σ Q) X.xe s
def W4(X:Cx)(f:Value->Sem Value)(r:V->Hp->VK->Prop):Prop :=
 ∀(pins:PL) (s:Shared) (σ:St) (H:Hp) (x:V) (v:Value) (Q:VK),Inv X pins σ H s->AS x v->r x H Q ->
  wpAny (model X.prog X.w) X.A (f v) (EP X pins σ Q) X.xe s
def Eg(X:Cx)(f:Value)(r:LV->Hp->VK->Prop):Prop :=
 ∀(pins:PL) (s:Shared) (σ:St) (H:Hp) (xs:LV) (us:LU) (Q:VK),Inv X pins σ H s->AO xs us->r xs H Q ->
  wpAny (model X.prog X.w) X.A (call f us) (EP X pins σ Q) X.xe s
def rF(X:Cx)(r:V->Hp->(Bool->Hp->Prop)->Prop):Prop :=
 ∀(pins:PL) (s:Shared) (σ:St) (H:Hp) (x:V) (v:Value) (Q:Bool->Hp->Prop),Inv X pins σ H s->AS x v->r x H Q ->
  wpAny (model X.prog X.w) X.A (truthy v) (TP X pins σ Q) X.xe s
def Qr(r:R2)(ta tb:TE):TE:=λσ H Q=>ta σ H λx H1=>tb σ H1 λy H2=>r x y H2 Q
def iD(r:V->Hp->VK->Prop)(ta:TE):TE:=λσ H Q=>ta σ H λx H1=>r x H1 Q
def rI(C:Int->Int->Prop)(g:Int->Int->V):R2:=λx y H Q=>∃ i j,x=.int i/\y=.int j/\C i j/\Q (g i j) H
def JG(g:Int->Int->V):R2:=λx y H Q=>∃ i j,x=.int i/\y=.int j/\Q (g i j) H
def rU(g:Int->V):V->Hp->VK->Prop:=λx H Q=>∃ i,x=.int i/\Q (g i) H
section
variable {X:Cx}{a b c:Expr}{ta tb tc:TE}{pos:Pos}
def WW(ha:PE X a ta)(hb:PE X b tb){pins:PL}{s:Shared}{σ:St}{H:Hp}{R:V->V->Hp->Prop}(I:Inv X pins σ H s)
  (h:ta σ H λx H1=>tb σ H1 λy H2=>R x y H2) {Q:EV} {f:Value->Value->Sem Value}
  (hf:∀ v u s2 x y H2,Inv X pins σ H2 s2->AS x v->AS y u->R x y H2->wpAny (model X.prog X.w) X.A (f v u) Q X.xe s2):
  wpAny (model X.prog X.w) X.A (eval a X.env) (λv s₁=>wpAny (model X.prog X.w) X.A (eval b X.env) (λu s₂=>wpAny (model X.prog X.w) X.A (f v u) Q X.xe s₂) X.xe s₁) X.xe s:=by
 refine AK (ha pins s σ H _ I h) λv s1 ⟨x,H1,I1,r1,q1⟩=>?_;refine AK (hb pins s1 σ H1 _ I1 q1) λu s2 ⟨y,H2,I2,r2,q2⟩=>?_;exact hf v u s2 x y H2 I2 r1 r2 q2
def Ag{op:Operator}{r:R2}(ho:BO X (binaryOp op) r)(ha:PE X a ta)(hb:PE X b tb):PE X (.BinOp a op b pos) (Qr r ta tb):=by
 ac_rfl;exact wpAny_BinOp (WW ha hb I h λv u s2 x y H2 I2 rx ry q=>ho pins s2 σ H2 x y v u Q I2 rx ry q)
def gW{op:UnaryOp}{r:V->Hp->VK->Prop}(ho:W4 X (unaryOp op) r)(ha:PE X a ta):PE X (.UnaryOp op a pos) (iD r ta):=by
 ac_rfl;exact UnaryOp_ (AK (ha pins s σ H _ I h) λv s1 ⟨x,H1,I1,r1,q1⟩=>ho pins s1 σ H1 x v Q I1 r1 q1)
def MO{f:Value->Value->Sem Value}{C:Int->Int->Prop}{g:Int->Int->Int}
  (rule:∀(i j:Int) (t u:Tok) (s:Shared) (Q:EV) (E:EV),C i j->Q (.int (g i j) s.toks) {s with toks:=s.toks + 1}->wpAny (model X.prog X.w) X.A (f (.int i t) (.int j u)) Q E s):
  BO X f (rI C λi j=>.int (g i j)):=by
 exfalso;obtain⟨i,j,rfl,rfl,hc,q⟩:=h;obtain⟨t,rfl⟩:=rx;obtain⟨t',rfl⟩:=ry;exact rule i j t t' s _ _ hc ⟨.int (g i j),H,I.tok _,⟨Z⟩,q⟩
def fM{f:Value->Value->Sem Value}{g:Int->Int->Int}
  (rule:∀(i j:Int) (t u:Tok) (s:Shared) (Q:EV) (E:EV),Q (.int (g i j) s.toks) {s with toks:=s.toks + 1}->wpAny (model X.prog X.w) X.A (f (.int i t) (.int j u)) Q E s):
  BO X f (JG λi j=>.int (g i j)):=by
 exfalso;obtain⟨i,j,rfl,rfl,q⟩:=h;obtain⟨t,rfl⟩:=rx;obtain⟨t',rfl⟩:=ry;exact rule i j t t' s _ _ ⟨.int (g i j),H,I.tok _,⟨Z⟩,q⟩
def TL{f:Value->Value->Sem Value}{g:Int->Int->Bool}
  (rule:∀(i j:Int) (t u:Tok) (s:Shared) (Q:EV) (E:EV),Q (.bool (g i j)) s->wpAny (model X.prog X.w) X.A (f (.int i t) (.int j u)) Q E s):
  BO X f (JG λi j=>.bl (g i j)):=by
 exfalso;obtain⟨i,j,rfl,rfl,q⟩:=h;obtain⟨t,rfl⟩:=rx;obtain⟨t',rfl⟩:=ry;exact rule i j t t' s _ _ ⟨.bl (g i j),H,I,Y,q⟩
def qX(i j:Int):Prop:=0<j/\j<1073741824
def qY(i j:Int):Prop:=0<=j/\j<=1000000/\i.natAbs<2 ^ 64
def WS(i j:Int):Prop:=(-(2 ^ 64)<i/\i<2 ^ 64)\/(-(2 ^ 64)<j/\j<2 ^ 64)
def WS.ok{i j:Int}(h:WS i j):IntMulOk i j:=by
 rcases h with⟨h1,h2⟩ | ⟨h1,h2⟩
 ·exact .of_left (intBits_le_64 h1 h2)
 ·exact .of_right (intBits_le_64 h1 h2)
def El:BO X (binaryOp .Add) (JG λi j=>.int (i + j)):=fM λ_ _ _ _ _ _ _ q=>add_int q
def JY:BO X (binaryOp .Sub) (JG λi j=>.int (i - j)):=fM λ_ _ _ _ _ _ _ q=>sub_int q
def Rm:BO X (binaryOp .Mult) (rI WS λi j=>.int (i * j)):=MO λ_ _ _ _ _ _ _ hc q=>mul_int q hc.ok
def VU:BO X (binaryOp .FloorDiv) (rI qX λi j=>.int (i / j)):=MO λi j _ _ _ _ _ hc q=>by
 have h1:(0:Int)<j:=hc.1;have h2:j<1073741824:=hc.2;exact floordiv_int (by omega) (by rw[Int.fdiv_eq_ediv_of_nonneg i (by omega)];exact q) (.inl (PyProof.noPylong_small (by omega)))
def Gj:BO X (binaryOp .Mod) (rI (λ_ j=>0<j) λi j=>.int (i % j)):=MO λi j _ _ _ _ _ hc q=>by
 have h1:(0:Int)<j:=hc;exact mod_int' (by omega) (by rw[Int.fmod_eq_emod_of_nonneg i (by omega)];exact q)
def Mu:BO X (binaryOp .Pow) (rI qY λi j=>.int (i ^ j.toNat)):=MO λ_ _ _ _ _ _ _ hc q=>pow_int_small hc.1 hc.2.1 hc.2.2 q
def iB{f:Value->Sem Value}{g:Int->Int}
  (rule:∀(i:Int) (t:Tok) (s:Shared) (Q:EV) (E:EV),Q (.int (g i) s.toks) {s with toks:=s.toks + 1}->wpAny (model X.prog X.w) X.A (f (.int i t)) Q E s):
  W4 X f (rU λi=>.int (g i)):=by
 intro pins s σ H x v Q I rx h;obtain⟨i,rfl,q⟩:=h;obtain⟨t,rfl⟩:=rx;exact rule i t s _ _ ⟨.int (g i),H,I.tok _,⟨Z⟩,q⟩
def Z3:W4 X (unaryOp .USub) (rU λi=>.int (-i)):=iB λ_ _ _ _ _ q=>neg_int q
end
def gB:V->V->Bool
 | .non,.non=>true | .non,.int _=>true | .int _,.non=>true | .non,.bl _=>true | .bl _,.non=>true | .non,.str _=>true | .str _,.non=>true
 | .int _,.int _=>true | .bl _,.bl _=>true | .str _,.str _=>true | .byt _,.byt _=>true
 | .int _,.str _=>true | .str _,.int _=>true | .bl _,.str _=>true | .str _,.bl _=>true
 | _,_=>false
def iS:R2:=λx y H Q=>gB x y=true/\Q (.bl (decide (x=y))) H
def iR:R2:=λx y H Q=>gB x y=true/\Q (.bl (!decide (x=y))) H
def aI{i j:Int}:decide (V.int i=V.int j)=(i == j):=by
 rw[Io];simp
def Zt{i j:Bool}:decide (V.bl i=V.bl j)=(i == j):=by
 rw[Io];simp
def aJ{i j:Str}:decide (V.str i=V.str j)=(i == j):=by
 rw[Io];simp
def aH{i j:Array UInt8}:decide (V.byt i=V.byt j)=(i.toList == j.toList):=by
 rw[Io];cases i;cases j;simp
section
variable {X:Cx}{a b c:Expr}{ta tb tc:TE}{pos:Pos}
def BD{pins:PL}{σ:St}{H:Hp}{s:Shared}{Q:VK}{k k':Bool}(I:Inv X pins σ H s)(q:Q (.bl k) H)(e:k=k'):EP X pins σ Q (.bool k') s:=by
 subst e;exact⟨.bl k,H,I,Y,q⟩
def BC:BO X (compareOp .Eq) iS:=by
 exfalso;obtain⟨hs,q⟩:=h;cases x with
 | non =>
  cases rx;cases y with
  | non=>cases ry;exact PySem.EqNone.eq_none_none (BD I q (by simp))
  | bl j=>cases ry;exact PySem.EqNone.eq_none_bool (BD I q (by simp))
  | int j=>obtain⟨t',rfl⟩:=ry;exact PySem.EqNone.eq_none_int (BD I q (by simp))
  | str j=>obtain⟨t',rfl⟩:=ry;exact PySem.EqNone.eq_none_str (BD I q (by simp))
  | _=>exact absurd (show false=true from hs) Yq
 | bl i =>
  cases rx;cases y with
  | non=>cases ry;exact PySem.EqNone.eq_bool_none (BD I q (by simp))
  | bl j=>cases ry;exact eq_bool (BD I q Zt)
  | str j=>obtain⟨t',rfl⟩:=ry;exact PySem.EqMixed.eq_bool_str (BD I q (by simp))
  | _=>exact absurd (show false=true from hs) Yq
 | int i =>
  obtain⟨t,rfl⟩:=rx;cases y with
  | non=>cases ry;exact PySem.EqNone.eq_int_none (BD I q (by simp))
  | int j=>obtain⟨t',rfl⟩:=ry;exact eq_int (BD I q aI)
  | str j=>obtain⟨t',rfl⟩:=ry;exact PySem.EqMixed.eq_int_str (BD I q (by simp))
  | _=>exact absurd (show false=true from hs) Yq
 | str i =>
  obtain⟨t,rfl⟩:=rx;cases y with
  | non=>cases ry;exact PySem.EqNone.eq_str_none (BD I q (by simp))
  | bl j=>cases ry;exact PySem.EqMixed.eq_str_bool (BD I q (by simp))
  | int j=>obtain⟨t',rfl⟩:=ry;exact PySem.EqMixed.eq_str_int (BD I q (by simp))
  | str j=>obtain⟨t',rfl⟩:=ry;exact eq_str (BD I q aJ)
  | _=>exact absurd (show false=true from hs) Yq
 | byt i =>
  obtain⟨t,rfl⟩:=rx;cases y with
  | byt j=>obtain⟨t',rfl⟩:=ry;exact W.eq_bytes (BD I q aH)
  | _=>exact absurd (show false=true from hs) Yq
 | _=>cases y <;> exact absurd (show false=true from hs) Yq
def Mr:BO X (compareOp .NotEq) iR:=by
 exfalso;obtain⟨hs,q⟩:=h;cases x with
 | non =>
  cases rx;cases y with
  | non=>cases ry;exact PySem.EqNone.ne_none_none (BD I q (by simp))
  | bl j=>cases ry;exact PySem.EqNone.ne_none_bool (BD I q (by simp))
  | int j=>obtain⟨t',rfl⟩:=ry;exact PySem.EqNone.ne_none_int (BD I q (by simp))
  | str j=>obtain⟨t',rfl⟩:=ry;exact PySem.EqNone.ne_none_str (BD I q (by simp))
  | _=>exact absurd (show false=true from hs) Yq
 | bl i =>
  cases rx;cases y with
  | non=>cases ry;exact PySem.EqNone.ne_bool_none (BD I q (by simp))
  | bl j=>cases ry;exact ne_bool (BD I q (congrArg not Zt))
  | str j=>obtain⟨t',rfl⟩:=ry;exact PySem.EqMixed.ne_bool_str (BD I q (by simp))
  | _=>exact absurd (show false=true from hs) Yq
 | int i =>
  obtain⟨t,rfl⟩:=rx;cases y with
  | non=>cases ry;exact PySem.EqNone.ne_int_none (BD I q (by simp))
  | int j=>obtain⟨t',rfl⟩:=ry;exact ne_int (BD I q (congrArg not aI))
  | str j=>obtain⟨t',rfl⟩:=ry;exact PySem.EqMixed.ne_int_str (BD I q (by simp))
  | _=>exact absurd (show false=true from hs) Yq
 | str i =>
  obtain⟨t,rfl⟩:=rx;cases y with
  | non=>cases ry;exact PySem.EqNone.ne_str_none (BD I q (by simp))
  | bl j=>cases ry;exact PySem.EqMixed.ne_str_bool (BD I q (by simp))
  | int j=>obtain⟨t',rfl⟩:=ry;exact PySem.EqMixed.ne_str_int (BD I q (by simp))
  | str j=>obtain⟨t',rfl⟩:=ry;exact ne_str (BD I q (congrArg not aJ))
  | _=>exact absurd (show false=true from hs) Yq
 | byt i =>
  obtain⟨t,rfl⟩:=rx;cases y with
  | byt j=>obtain⟨t',rfl⟩:=ry;exact W.ne_bytes (BD I q (congrArg not aH))
  | _=>exact absurd (show false=true from hs) Yq
 | _=>cases y <;> exact absurd (show false=true from hs) Yq
def OS:BO X (compareOp .Lt) (JG λi j=>.bl (decide (i<j))):=TL λ_ _ _ _ _ _ _ q=>lt_int q
def Mq:BO X (compareOp .LtE) (JG λi j=>.bl (decide (i<=j))):=TL λ_ _ _ _ _ _ _ q=>le_int q
def OR:BO X (compareOp .Gt) (JG λi j=>.bl (decide (j<i))):=TL λ_ _ _ _ _ _ _ q=>gt_int q
def gU:BO X (compareOp .GtE) (JG λi j=>.bl (decide (j<=i))):=TL λ_ _ _ _ _ _ _ q=>ge_int q
def nC:BO X (compareOp .In) (λx y H Q=>∃ i j,x=.str i/\y=.str j/\Q (.bl (!(Builtin.Str.occurrences j i 0 j.length 1).isEmpty)) H):=by
 exfalso;obtain⟨i,j,rfl,rfl,q⟩:=h;obtain⟨t,rfl⟩:=rx;obtain⟨t',rfl⟩:=ry;exact in_str (BD I q rfl)
def uG:BO X (compareOp .Is) (λx y H Q=>y=.non/\Q (.bl (decide (x=.non))) H):=by
 exfalso;obtain⟨rfl,q⟩:=h;cases ry;refine is_none_gen (BD I q ?_);cases x <;> first
  | (cases rx;rfl)
  | (obtain⟨t,rfl⟩:=rx;rfl)
def Ad(b:Expr){op:CmpOp}(h:op≠.In:=by decide)(h2:op≠.NotIn:=by decide):behindInMarks op b=false:=by
 have e1:(op == CmpOp.In)=false:=by cases op <;> first | rfl | exact absurd rfl h
 have e2:(op == CmpOp.NotIn)=false:=by cases op <;> first | rfl | exact absurd rfl h2
 cases b <;> simp[behindInMarks,e1,e2]
def EL{op:CmpOp}{r:R2}(ho:BO X (compareOp op) r)(ha:PE X a ta)(hb:PE X b tb)(hm:behindInMarks op b=false):PE X (.Compare a [op] [b] pos) (Qr r ta tb):=by
 ac_rfl;exact wpAny_Compare1 (WW ha hb I h λv u s2 x y H2 I2 rx ry q=>ho pins s2 σ H2 x y v u Q I2 rx ry q) hm
def gi(t:TE):TT:=λσ H Q=>t σ H λx H'=>∃ k,x=.bl k/\Q k H'
def Af{op:CmpOp}{r:R2}(ho:BO X (compareOp op) r)(ha:PE X a ta)(hb:PE X b tb)(hm:behindInMarks op b=false):PT X (.Compare a [op] [b] pos) (gi (Qr r ta tb)):=by
 ac_rfl;refine wpAny_isTrue_Compare1 (AK (ha pins s σ H _ I h) λv s1 ⟨x,H1,I1,r1,q1⟩=>AK (hb pins s1 σ H1 _ I1 q1) λu s2 ⟨y,H2,I2,r2,q2⟩ =>
  AK (ho pins s2 σ H2 x y v u _ I2 r1 r2 q2) λc s3 ⟨z,H3,I3,r3,k,e,q3⟩=>?_) hm
 subst e;cases r3;exact Jh ⟨H3,I3,q3⟩
def uc(r r':R2)(ta tb tc:TE):TE:=λσ H Q=>ta σ H λx H1=>tb σ H1 λy H2=>r x y H2 λz H3=>∃ k,z=.bl k /\
 (if k=true then tc σ H3 λw' H4=>r' y w' H4 Q else Q (.bl false) H3)
def Vl{op UI:CmpOp}{r r':R2}(ho:BO X (compareOp op) r)(Hw:BO X (compareOp UI) r')(ha:PE X a ta)(hb:PE X b tb)(hc:PE X c tc)
  (hm:lastMarks [op,UI] [b,c]=false:=by with_unfolding_all rfl):PT X (.Compare a [op,UI] [b,c] pos) (gi (uc r r' ta tb tc)):=by
 ac_rfl;refine isTrue_chain (AK (ha pins s σ H _ I h) λv s1 ⟨x,H1,I1,r1,q1⟩=>test_link (AK (hb pins s1 σ H1 _ I1 q1) λu s2 ⟨y,H2,I2,r2,q2⟩ =>
  AK (ho pins s2 σ H2 x y v u _ I2 r1 r2 q2) λd s3 ⟨z,H3,I3,r3,k,e,q3⟩=>?_)) hm
 subst e;cases r3;refine Jh ?_;cases k with
 | false =>
  obtain⟨k',e',q'⟩:=q3;cases e';exact ite_ff ⟨H3,I3,q'⟩
 | true =>
  refine ite_tt (test_last (AK (hc pins s3 σ H3 _ I3 q3) λw' s4 ⟨z',H4,I4,r4,q4⟩=>AK (Hw pins s4 σ H4 y z' u w' _ I4 r2 r4 q4) λd' s5 ⟨z2,H5,I5,r5,k2,e2,q5⟩=>?_));subst e2;cases r5;exact Jh ⟨H5,I5,q5⟩
def eV(K:Fg)(x:V)(H:Hp)(k:Bool):Prop :=
 match x with
 | .non=>k=false
 | .bl b=>k=b
 | .int i=>k=(i != 0)
 | .str y=>y.length<=sizeLine/\k=((y.length:Int) != 0)
 | .byt y=>y.size<=sizeLine/\k=((y.size:Int) != 0)
 | .ref p=>(∃ xs,SqL K H p xs/\k=!xs.isEmpty)\/(∃ xs,AJ K H p xs/\k=!xs.isEmpty)\/∃ kvs,H p=some (.dK kvs)/\k=!kvs.isEmpty
 | _=>False
def n9{κ:Type}{kvs:List (κ×V)}{vs:List (κ×Value)}(r:KV kvs vs):(!vs.isEmpty)=!kvs.isEmpty:=by
 cases r <;> rfl
def dR{xs:LV}{its:LU}(r:AO xs its):(!its.toArray.isEmpty)=!xs.isEmpty:=by
 cases r <;> simp
def Kp:(sizeLine:Nat)<2 ^ 63:=by rw[sizeLine_eq];decide
def uk:rF X (λx H Q=>∃ k,eV X.K x H k/\Q k H):=by
 intro pins s σ H x v Q I rx h;obtain⟨k,e,q⟩:=h;have hl:=Kp;have hs:sizeLine=16777216:=sizeLine_eq;cases x with
 | non =>
  cases rx;have e':k=false:=e;subst e';exact truthy_none ⟨H,I,q⟩
 | bl b =>
  cases rx;have e':k=b:=e;subst e';exact Jh ⟨H,I,q⟩
 | int i =>
  obtain⟨t,rfl⟩:=rx;have e':k=(i != 0):=e;subst e';exact PySem.P.truthy_int ⟨H,I,q⟩
 | str y =>
  obtain⟨t,rfl⟩:=rx;obtain⟨hy,e'⟩:y.length<=sizeLine/\k=((y.length:Int) != 0):=e;subst e';exact PySem.P.truthy_str (by omega) ⟨H,I.tok _,q⟩
 | byt y =>
  obtain⟨t,rfl⟩:=rx;obtain⟨hy,e'⟩:y.size<=sizeLine/\k=((y.size:Int) != 0):=e;subst e';exact W.truthy_bytes (by omega) ⟨H,I.tok _,q⟩
 | ref p =>
  cases rx;have e':(∃ xs,SqL X.K H p xs/\k=!xs.isEmpty)\/(∃ xs,AJ X.K H p xs/\k=!xs.isEmpty)\/∃ kvs,H p=some (.dK kvs)/\k=!kvs.isEmpty:=e
  rcases e' with⟨xs,hx,e'⟩ | ⟨xs,hx,e'⟩ | ⟨kvs,hx,e'⟩
  ·subst e';obtain⟨its,r,pl,hz⟩:=I.list hx;have hlen:=r.length;exact wpAny_truthy_list pl.isList (by simp only[Yo];omega) ⟨H,I.tok _,by rw[dR r];exact q⟩
  ·subst e';obtain⟨its,r,pl,hz⟩:=I.tuple hx;have hlen:=r.length;exact truthy_tuple pl (by simp only[Yo];omega) ⟨H,I.tok _,by rw[dR r];exact q⟩
  ·subst e';obtain⟨hz,hS,vs,r,m⟩:kvs.length<=sizeLine/\(p == sysModules)=false/\∃ vs,KV kvs vs/\s.heap.DictOf (CT X.prog X.w) p vs:=I.hok p _ hx;have hlen:kvs.length=vs.length:=Ba r;exact wpAny_truthy_dict hS m (by omega) ⟨H,I.tok _,by rw[n9 r];exact q⟩
 | _=>exact(show False from e).elim
def Vm(ha:PE X a ta)(he:∀ whole,isTrue a X.env whole=(do let v <- whole;standAt a.pos;holding [v] (truthy v))):
  PT X a (λσ H Q=>ta σ H λx H'=>∃ k,eV X.K x H' k/\Q k H'):=by
 ac_rfl;exact isTrue_plain (AK (ha pins s σ H _ I h) λv s1 ⟨x,H1,I1,r1,q1⟩=>uk pins s1 σ H1 x v Q I1 r1 q1) (he _)
def Sa:BO X (binaryOp .Add) (λx y H Q=>∃ i j,x=.str i/\y=.str j/\i.length + j.length<=sizeLine/\Q (.str (i++j)) H):=by
 exfalso;obtain⟨i,j,rfl,rfl,hz,q⟩:=h;obtain⟨t,rfl⟩:=rx;obtain⟨t',rfl⟩:=ry;exact add_str (λt' tk=>⟨.str (i++j),H,I.tok _,⟨Z⟩,q⟩) hz
def FA{x:V}{us:LU}(r:AO [x] us):∃ u,us=[u]/\AS x u:=by
 cases r with
 | cons r1 r2=>cases r2;exact⟨Z,r1⟩
def Uw{x y:V}{us:LU}(r:AO [x,y] us):∃ u w',us=[u,w']/\AS x u/\AS y w':=by
 cases r with
 | cons r1 r2 =>
  cases r2 with
  | cons r3 r4=>cases r4;exact⟨_,Z,r1,r3⟩
def lY:Eg X (.type "int") (λxs H Q=>(∃ i,xs=[.int i]/\Q (.int i) H)\/∃ k,xs=[.bl k]/\Q (.int (if k then 1 else 0)) H):=by
 intro pins s σ H xs us Q I r h
 rcases h with⟨i,rfl,q⟩ | ⟨k,rfl,q⟩
 ·obtain⟨u,rfl,t,rfl⟩:=FA r;exact call_int_int ⟨.int i,H,I,⟨Z⟩,q⟩
 ·obtain⟨u,rfl,r1⟩:=FA r;cases r1;exact call_int_bool ⟨.int (if k then 1 else 0),H,I.tok _,⟨Z⟩,q⟩
def eR(K:Fg)(x:V)(H:Hp)(n:Nat):Prop :=
 match x with
 | .str y=>y.length<=sizeLine/\n=y.length
 | .byt y=>y.size<=sizeLine/\n=y.size
 | .ref p=>(∃ xs,SqL K H p xs/\n=xs.length)\/∃ xs,AJ K H p xs/\n=xs.length
 | _=>False
def Gp:Eg X (.builtin "len") (λxs H Q=>∃ x n,xs=[x]/\eR X.K x H n/\Q (.int n) H):=by
 intro pins s σ H xs us Q I r h;obtain⟨x,n,rfl,e,q⟩:=h;obtain⟨u,rfl,rx⟩:=FA r;have hl:=Kp;have hs:sizeLine=16777216:=sizeLine_eq;cases x with
 | str y =>
  obtain⟨t,rfl⟩:=rx;obtain⟨hy,e'⟩:y.length<=sizeLine/\n=y.length:=e;subst e';exact len_str (by omega) ⟨.int _,H,I.tok _,⟨Z⟩,q⟩
 | byt y =>
  obtain⟨t,rfl⟩:=rx;obtain⟨hy,e'⟩:y.size<=sizeLine/\n=y.size:=e;subst e';exact W.len_bytes (by omega) ⟨.int _,H,I.tok _,⟨Z⟩,q⟩
 | ref p =>
  cases rx;have e':(∃ xs,SqL X.K H p xs/\n=xs.length)\/∃ xs,AJ X.K H p xs/\n=xs.length:=e
  rcases e' with⟨xs,hx,e'⟩ | ⟨xs,hx,e'⟩
  ·subst e';obtain⟨its,r',pl,hz⟩:=I.list hx;have hlen:=r'.length;exact Calls.call_len_list pl.isList (by simp only[Yo];omega) ⟨.int xs.length,H,I.tok _,⟨_,by simp only[Yo];rw[hlen]⟩,q⟩
  ·subst e';obtain⟨its,r',pl,hz⟩:=I.tuple hx;have hlen:=r'.length;exact len_tuple pl (by simp only[Yo];omega) ⟨.int xs.length,H,I.tok _,⟨_,by simp only[Yo];rw[hlen]⟩,q⟩
 | _=>exact(show False from e).elim
end
structure K8(h:Heap)(x dx C:Addr)(mA:Str->OU):Prop where
 obj:h.get? x=some (W.instObj C dx)
 ns:h.Ns1 dx mA
 ne:dx≠x
def mW{h:Heap}{dx:Addr}{mA:Str->OU}(n:h.Ns1 dx mA):∃ od,h.get? dx=some od/\∀ name,W.lookIn name od=some (mA name):=by
 obtain⟨o,es,ep,ho,hd,hk,_,hm⟩:=n;refine⟨o,ho,λname=>?_⟩;have e:=hm name;unfold nsFind findBy at e;rw[<- Array.find?_toList]at e;unfold W.lookIn;rw[hd];dsimp only;split
 ·rename_i y q
  rw[q]at e;exact congrArg some e
 ·rename_i q
  rw[q]at e;have a:es.toList.any (·.refKey)=false:=by
   rw[List.any_eq_false];intro y hy;obtain⟨z,t,hkey⟩:=hk y (Array.mem_toList_iff.mp hy);simp[DictEntry.refKey,hkey]
  have a':¬ es.toList.any (·.refKey)=true:=by rw[a];exact Yq
  rw[if_neg a'];exact congrArg some e
def K8.look{h:Heap}{x dx C:Addr}{mA:Str->OU}(I:K8 h x dx C mA):∃ od,W.InstAt h x (W.instObj C dx) C (some od)/\∀ name,W.lookIn name od=some (mA name):=
 let⟨od,ho,hl⟩:=mW I.ns
 ⟨od,⟨I.obj,Y,Y,ho⟩,hl⟩
section
variable {prog:Program}{w:World}{A:Around}{E:EV}{s:Shared}{K:Fg}{x dx C f:Addr}{mA:Str->OU}{name:Str}{v:Value}
def u7{expr:Bool}{Q:EV}(X:K.In s.heap)(I:K8 s.heap x dx C mA)(hg:W.plainGet K C name=true)(hh:W.hasDictIn K C=true)
  (ha:W.findIn K (.ref C) name=some none) (hv:mA name=some v) (KY:W.handedIn v=true) (h:Q v {s with toks:=s.toks + 1}):
  wpAny (model prog w) A (getAttr (.ref x) name expr) Q E s:=by
 obtain⟨od,J,hl⟩:=I.look;exact W.get_value X J (W.plainGet_of hg).1 (W.findObj_own hh ha rfl (by rw[hl,hv])) KY h
def kP{pl:Sem Bool}{Q:Value×LU->Shared->Prop}(X:K.In s.heap)(I:K8 s.heap x dx C mA)(hg:W.plainGet K C name=true)
  (hf:W.findIn K (.ref C) name=some (some (.ref f))) (ht:W.isFn K (.ref f)=true) (hv:mA name=none) (h:Q (.ref f,[.ref x]) s):
  wpAny (model prog w) A (getMethod (.ref x) name pl) Q E s:=by
 obtain⟨od,J,hl⟩:=I.look;exact W.method_fn X J (W.plainGet_of hg).1 (W.plainGet_of hg).2 hf (beq_iff_eq.mp ht) (by show(W.lookIn name od).map (·.isSome)=some false;rw[hl,hv];rfl) h
def vk{ns:LS}{Q:Unit->Shared->Prop}(X:K.In s.heap)(I:K8 s.heap x dx C mA)
  (hs:W.findIn K (.ref C) "__setattr__"=some (some (.builtin "object.__setattr__"))) (hp:W.plainOver K C=true) (ht:W.takerIn K C name=some none) (hh:W.hasDictIn K C=true)
  (hw:PySem.Within mA ns) (hsz:ns.length<=sizeLine)
  (h:∀ h',K8 h' x dx C (λy=>if y=name then some v else mA y)->Heap.SameBut dx s.heap h'->Q () {s with heap:=h',toks:=s.toks + 2}):
  wpAny (model prog w) A (setAttr (.ref x) name v) Q E s:=by
 obtain⟨od,J,hl⟩:=I.look;refine W.set_plain X J hs (W.osa_open (s:={s with toks:=s.toks + 1}) (r:=none) X J hp ht λb=>?_);obtain⟨cd,hc,OF⟩:=W.any_some hh;have hx:s.heap.get? x=some ⟨.ref C,some dx,.plain,#[]⟩:=I.obj;refine Ja (Jd (Ja (Ja (wpAny_loadPart hx (Ja (W.Looks.here (s:={s with toks:=s.toks + 1}) (W.looks_clsIn X hc) ?_))))));rw[OF];refine Jd (a:=some dx) (Ja (Jd (Ja ?_)));refine wpAny_nsSet1 (s:={s with toks:=s.toks + 1}) I.ns λh' RD FQ=>?_;obtain⟨oD,esD,epD,hoD,hdD,hcD⟩:=RD.count (PySem.Within.cons name v hw);refine Ja (wpAny_lookBehind hoD (by rw[hdD];exact pastItsLine_dict (A6 hcD (by rw[Bj];omega))) ?_);exact Jd (h _ ⟨(FQ.2 _ (Yj I.ne)).trans I.obj,RD,I.ne⟩ FQ)
def lP{R:Result->Shared->Prop}{vs:LU}{kw:List (Str×Value)}(X:K.In s.heap)(hm:W.makesIn K C=true)
  (hi:W.findIn K (.ref C) "__init__"=some (some (.ref f))) (hf:W.typeIn K (.ref f)=some (.type "function"))
  (h:codeAny (model prog w) (A.under (.builtin "type.__call__" ⟨.ref C :: vs,kw⟩)) (.call (.ref f) ⟨.ref (s.heap.objs.size + 1):: vs,kw⟩) (W.InitBack (s.heap.objs.size + 1) R)
   {s with heap:=(s.heap.push W.emptyDict).push (W.instObj C s.heap.objs.size) }):
  codeAny (model prog w) A (.call (.ref C) ⟨vs,kw⟩) R s:=by
 obtain⟨hh,g,d,t,os⟩:=s;exact W.make_core (W.makes_of X hm) (W.looks_findIn X hi) (λself=>W.bind_fn X self hf) (.inl rfl) h
end
def BP(f:Str)(v:V):List (Str×V)->List (Str×V)
 | []=>[(f,v)]
 | (g,x):: r=>if g=f then(g,v):: r else(g,x):: BP f v r
theorem EC(f g:Str)(v:V):∀ fs:List (Str×V),(BP f v fs).lookup g=if g=f then some v else fs.lookup g
 | []=>by
  show List.lookup g [(f,v)]=_;by_cases h:g=f
  ·have hb:(g == f)=true:=beq_iff_eq.mpr h;simp only[List.lookup,hb,if_pos h]
  ·have hb:(g == f)=false:=LM.mpr h;simp only[List.lookup,hb,if_neg h]
 | (k,x):: r=>by
  have ih:=EC f g v r;rw[show BP f v ((k,x):: r)=(if k=f then(k,v):: r else(k,x):: BP f v r)from rfl];by_cases hk:k=f
  ·rw[if_pos hk];by_cases h:g=k
   ·have hb:(g == k)=true:=beq_iff_eq.mpr h;simp only[List.lookup,hb,if_pos (h.trans hk)]
   ·have hb:(g == k)=false:=LM.mpr h;simp only[List.lookup,hb,if_neg (λe:g=f=>h (e.trans hk.symm))]
  ·rw[if_neg hk];by_cases h:g=k
   ·have hb:(g == k)=true:=beq_iff_eq.mpr h;simp only[List.lookup,hb,if_neg (λe:g=f=>hk (h.symm.trans e))]
   ·have hb:(g == k)=false:=LM.mpr h;simp only[List.lookup,hb];exact ih
theorem Vt(f:Str)(v:V):∀ fs:List (Str×V),f∈(BP f v fs).map (·.1)/\∀ g,g∈fs.map (·.1)->g∈(BP f v fs).map (·.1)
 | []=>⟨by simp[BP],λg h=>by simp at h⟩
 | (k,x):: r=>by
  obtain⟨i1,i2⟩:=Vt f v r;rw[show BP f v ((k,x):: r)=(if k=f then(k,v):: r else(k,x):: BP f v r)from rfl];by_cases hk:k=f
  ·rw[if_pos hk];subst hk;exact⟨by simp,λg h=>by simpa using h⟩
  ·rw[if_neg hk];refine⟨?_,λg h=>?_⟩
   ·rw[Ym];exact FG _ i1
   ·rw[Ym]at h ⊢
    rcases Yr.mp h with e | e
    ·exact Yr.mpr (.inl e)
    ·exact FG _ (i2 g e)
theorem dk(f:Str)(v:V):∀ fs:List (Str×V),(BP f v fs).length<=fs.length + 1
 | []=>by simp[BP]
 | (k,x):: r=>by
  have ih:=dk f v r;rw[show BP f v ((k,x):: r)=(if k=f then(k,v):: r else(k,x):: BP f v r)from rfl];by_cases hk:k=f
  ·rw[if_pos hk,Bj,Bj];omega
  ·rw[if_neg hk,Bj,Bj];omega
def D9.some_of{v:V}{o:OU}(r:D9 (some v) o):∃ u,o=some u/\AS v u:=by
 cases o with
 | none=>exact(show False from r).elim
 | some u=>exact⟨u,Y,r⟩
def D9.none_of{o:OU}(r:D9 none o):o=none:=by
 cases o with
 | none=>rfl
 | some u=>exact(show False from r).elim
def mK{v:V}{u:Value}(r:AS v u):W.handedIn u=true:=by
 cases v with
 | non=>cases(show u=Value.none from r);rfl
 | bl b=>cases(show u=Value.bool b from r);rfl
 | int i=>obtain⟨t,e⟩:=(show ∃ t,u=Value.int i t from r);cases e;rfl
 | str x=>obtain⟨t,e⟩:=(show ∃ t,u=Value.str x t from r);cases e;rfl
 | byt b=>obtain⟨t,e⟩:=(show ∃ t,u=Value.bytes b t from r);cases e;rfl
 | flt b=>obtain⟨t,e⟩:=(show ∃ t,u=Value.float b t from r);cases e;rfl
 | ref a=>cases(show u=Value.ref a from r);rfl
 | ty n=>cases(show u=Value.type n from r);rfl
section
variable {P:Program}{w:World}{H H':Hp}{h h':Heap}{a C dx:Addr}{fs Bs:List (Str×V)}
def Rx(hok:BE P w H h)(e:H a=some (.ins C dx fs)):∃ mA,K8 h a dx C mA/\(∀ f,D9 (fs.lookup f) (mA f))/\PySem.Within mA (fs.map (·.1))/\fs.length<=1000/\H dx=some (.own a):=by
 obtain⟨d,z,ne,ob,mA,n,r,q⟩:=(show A2 P w H h a (.ins C dx fs)from hok a _ e);exact⟨mA,⟨ob,n,ne⟩,r,q,z,d⟩
end
structure F1(K:Fg)(C:Addr):Prop where
 pg:W.plainGet K C Str.empty=true
 hd:W.hasDictIn K C=true
 po:W.plainOver K C=true
 sa:W.findIn K (.ref C) "__setattr__"=some (some (.builtin "object.__setattr__"))
def F1.get{K:Fg}{C:Addr}(c:F1 K C)(f:Str):W.plainGet K C f=true:=c.pg
def Gh(K:Fg)(C:Addr)(f:Str):Prop:=W.findIn K (.ref C) f=some none
def Gh.taker{K:Fg}{C:Addr}{f:Str}(n:Gh K C f):W.takerIn K C f=some none:=by
 unfold W.takerIn;rw[show W.findIn K (.ref C) f=some none from n];rfl
structure yA(K:Fg)(C:Addr)(f:Str)(v:V)(u:Value):Prop where
 at_:W.findIn K (.ref C) f=some (some u)
 rel:AS v u
 get:W.specialIn K u "__get__"=some none
 cp:W.copiedNames.contains f=false
structure S9(K:Fg)(C:Addr)(m:Str)(f:Addr):Prop where
 at_:W.findIn K (.ref C) m=some (some (.ref f))
 fn:W.isFn K (.ref f)=true
 kp:W.keepIn K (.ref f)=true
section
variable {X:Cx}{pins:PL}{σ:St}{H:Hp}{s:Shared}{a C dx:Addr}{fs:List (Str×V)}{f:Str}{v:V}{A:Around}{E:EV}
def n8{b:Bool}{Q:EV}(I:Inv X pins σ H s)(e:H a=some (.ins C dx fs))(c:F1 X.K C)(n:Gh X.K C f)(l:fs.lookup f=some v)
  (h:∀ u s',Inv X pins σ H s'->AS v u->Q u s'):wpAny (model X.prog X.w) A (getAttr (.ref a) f b) Q E s:=by
 obtain⟨mA,O,r,_,_,_⟩:=Rx I.hok e;obtain⟨u,hu,ru⟩:=D9.some_of (v:=v) (o:=mA f) (by rw[<- l];exact r f);exact u7 I.kIn O (c.get f) c.hd n hu (mK ru) (h u _ (I.tok _) ru)
def dO{m:Str}{g:Addr}{pl:Sem Bool}{Q:Value×LU->Shared->Prop}(I:Inv X pins σ H s)(e:H a=some (.ins C dx fs))(c:F1 X.K C)(k:S9 X.K C m g)(l:fs.lookup m=none)
  (h:Q (.ref g,[.ref a]) s):wpAny (model X.prog X.w) A (getMethod (.ref a) m pl) Q E s:=by
 obtain⟨mA,O,r,_,_,_⟩:=Rx I.hok e;have hn:mA m=none:=D9.none_of (by rw[<- l];exact r m);exact kP I.kIn O (c.get m) k.at_ k.fn hn h
def oy{y:V}{u:Value}{Q:Unit->Shared->Prop}(I:Inv X pins σ H s)(e:H a=some (.ins C dx fs))(c:F1 X.K C)(n:Gh X.K C f)(hl:fs.length<1000)(ry:AS y u)
  (h:∀ s',Inv X pins σ (upd H a (.ins C dx (BP f y fs))) s'->Q () s'):wpAny (model X.prog X.w) A (setAttr (.ref a) f u) Q E s:=by
 obtain⟨mA,O,r,wi,_,ho⟩:=Rx I.hok e;have hz:(fs.map (·.1)).length<=sizeLine:=by rw[Ya,sizeLine_eq];omega
 refine vk I.kIn O c.sa c.po n.taker c.hd wi hz λh' O' sb=>h _ ?_;have hd:∃ o,h'.get? dx=some o:=let⟨o,_,_,e',_⟩:=O'.ns;⟨o,e'⟩;refine I.write (x:=a) (e:=dx) (by rw[e];exact True.intro) (.inr ho) (λb q hb z=>(sb.2 b hb).trans z) hd ?_;refine⟨by rw[AD O.ne];exact ho,?_,O.ne,O'.obj,_,O'.ns,λg=>?_,λg hg=>?_⟩
 ·have:=dk f y fs;omega
 ·show D9 ((BP f y fs).lookup g) (if g=f then some u else mA g);rw[EC];by_cases q:g=f
  ·rw[if_pos q,if_pos q];exact ry
  ·rw[if_neg q,if_neg q];exact r g
 ·by_cases q:g=f
  ·rw[q];exact(Vt f y fs).1
  ·refine(Vt f y fs).2 g (wi g λz=>hg ?_);show(if g=f then some u else mA g)=none;rw[if_neg q];exact z
def Inv.made(I:Inv X pins σ H s):Inv X pins σ (upd (upd H s.heap.objs.size (.own (s.heap.objs.size + 1))) (s.heap.objs.size + 1) (.ins C s.heap.objs.size []))
  {s with heap:=(s.heap.push W.emptyDict).push (W.instObj C s.heap.objs.size) }:=by
 have e1:(s.heap.push W.emptyDict).get? s.heap.objs.size=some W.emptyDict:=Yl s.heap rfl;have e2:((s.heap.push W.emptyDict).push (W.instObj C s.heap.objs.size)).get? (s.heap.objs.size + 1)=some (W.instObj C s.heap.objs.size):=by
  have:=Yl (s.heap.push W.emptyDict) (o:=W.instObj C s.heap.objs.size) rfl
  rwa [Co]at this
 have e3:(s.heap.push W.emptyDict).Ns s.heap.objs.size (λ_=>none):=⟨W.emptyDict,#[],_,e1,Y,(λe he=>absurd he (by simp)),λ_=>rfl⟩;have I1:=I.laid (a:=s.heap.objs.size) (o:=.own (s.heap.objs.size + 1)) (h':=s.heap.push W.emptyDict) (t':=s.toks) (λb u q=>Yc _ q) (Yd _) ⟨_,e1⟩;refine I1.laid (a:=s.heap.objs.size + 1) (o:=.ins C s.heap.objs.size []) (t':=s.toks) (λb u q=>Yc _ q) (Nat.le_of_eq (Co _ _)) ?_;have ne:s.heap.objs.size≠s.heap.objs.size + 1:=Ys (Nat.lt_succ_self _);refine⟨by rw[AD ne,uS],A7 _,ne,e2,λ_=>none,(Heap.Ns1.of_empty e3).at λo q=>Yc _ q,λ_=>True.intro,λy hy=>absurd rfl hy⟩
def uw{prog:Program}{w:World}{env:Env}{e:Expr}{f:Str}{pos:Pos}{s:Shared}{Q:EV}(hb:attributeBase e f env (eval e env)=eval e env)
  (h:wpAny (model prog w) A (eval e env) (λo s₁=>wpAny (model prog w) A (getAttr o f true) Q E s₁) E s):wpAny (model prog w) A (eval (.Attribute e f pos) env) Q E s :=
 Attribute_any_ h (by rw[arm_eval_Attribute,hb])
end
def gF(K:Fg)(ta:TE)(f:Str):TE:=λσ H Q=>ta σ H λx H1=>∃ a C dx fs v,x=.ref a/\H1 a=some (.ins C dx fs)/\F1 K C/\Gh K C f/\fs.lookup f=some v/\Q v H1
def qw(K:Fg)(ta tv:TE)(f:Str):TS:=λD σ H=>tv σ H λy H1=>ta σ H1 λx H2=>∃ a C dx fs,x=.ref a/\H2 a=some (.ins C dx fs)/\F1 K C/\Gh K C f/\fs.length<1000 /\
 D.nx σ (upd H2 a (.ins C dx (BP f y fs)))
section
variable {X:Cx}{o e value:Expr}{f:Str}{pos pos' ES:Pos}{ta tv:TE}
def Ko(he:PE X e ta)(hb:attributeBase e f X.env (eval e X.env)=eval e X.env):PE X (.Attribute e f pos) (gF X.K ta f):=by
 ac_rfl;refine uw hb (AK (he pins s σ H _ I h) λu s1 ⟨x,H1,I1,rx,a,C,dx,fs,v,ex,ea,c,n,l,q⟩=>?_);subst ex;obtain rfl:u=Value.ref a:=rx;exact n8 I1 ea c n l λu' s2 I2 ru=>⟨v,H1,I2,ru,q⟩
def Oa(ha:PE X o ta)(hv:PE X value tv)(hs:swapsWith value (some (.Attribute o f pos')) pos.line X.env=pure false):PS X (.Assign [.Attribute o f pos'] value pos) (qw X.K ta tv f):=by
 intro pins s σ H D I h;refine plainObj_wpAny_Assign_Attribute (AK (hv pins s σ H _ I h) λu s1 ⟨y,H1,I1,ry,q⟩=>AK (ha pins s1 σ H1 _ I1 q) λov s2 ⟨x,H2,I2,rx,a,C,dx,fs,ex,ea,c,n,l,q2⟩=>?_) hs;subst ex;obtain rfl:ov=Value.ref a:=rx;exact oy I2 ea c n l ry λs3 I3=>⟨σ,_,I3,q2⟩
end
section
variable {X:Cx}{pins:PL}{σ:St}{H:Hp}{s:Shared}{A:Around}{E:EV}{Q:EV}{c:Value}{b:Bool}
inductive E4(K:Fg)(H:Hp):V->Value->Prop where
 | non:E4 K H .non (.type "NoneType")
 | bl (x:Bool):E4 K H (.bl x) (.type "bool")
 | int (i:Int):E4 K H (.int i) (.type "int")
 | str (x:Str):E4 K H (.str x) (.type "str")
 | flt (x:UInt64):E4 K H (.flt x) (.type "float")
 | lst {a:Addr} {xs:LV} (e:H a=some (.lst xs)):E4 K H (.ref a) (.type "list")
 | frz {a:Addr} {o:Obj} {xs:LV} (e:H a=some (.frz o (.lst xs))):E4 K H (.ref a) (.type "list")
 | tup {a:Addr} {xs:LV} (e:H a=some (.tup xs)):E4 K H (.ref a) (.type "tuple")
 | dK {a:Addr} {kvs:KL} (e:H a=some (.dK kvs)):E4 K H (.ref a) (.type "dict")
 | dT {a:Addr} {kvs:List (List Key×V)} (e:H a=some (.dT kvs)):E4 K H (.ref a) (.type "dict")
 | ins {a C dx:Addr} {fs:List (Str×V)} (e:H a=some (.ins C dx fs)) (cl:F1 K C) (ha:W.findIn K (.ref C) "__class__"=some (some (.builtin "object.__class__")))
   (hn:W.specialIn K (.builtin "object.__class__") "__get__"=some (some (.builtin "getset_descriptor.__get__"))) (htk:W.takesIn K (.builtin "object.__class__")=some true)
   (hm:W.mroIn K C (.type "object")=some true):E4 K H (.ref a) (.ref C)
def mO{x:V}{u t:Value}(I:Inv X pins σ H s)(rx:AS x u)(ty:E4 X.K H x t)(e:W.kitOne X.K t c=some b)(h:∀ tk,Q (.bool b) {s with toks:=tk}):
  wpAny (model X.prog X.w) A (call (.builtin "isinstance") [u,c]) Q E s:=by
 cases ty with
 | non=>cases(show u=Value.none from rx);exact W.kia_one W.kitx_none I.kIn True.intro e (λz=>nomatch z) h
 | bl y=>cases(show u=Value.bool y from rx);exact W.kia_one W.kitx_bool I.kIn True.intro e (λz=>nomatch z) h
 | int i=>obtain⟨t,q⟩:=(show ∃ t,u=Value.int i t from rx);cases q;exact W.kia_one W.kitx_int I.kIn True.intro e (λz=>nomatch z) h
 | str y=>obtain⟨t,q⟩:=(show ∃ t,u=Value.str y t from rx);cases q;exact W.kia_one W.kitx_str I.kIn True.intro e (λz=>nomatch z) h
 | flt y=>obtain⟨t,q⟩:=(show ∃ t,u=Value.float y t from rx);cases q;exact W.kia_one W.kitx_float I.kIn True.intro e (λz=>nomatch z) h
 | @lst a xs ea =>
  cases(show u=Value.ref a from rx);obtain⟨_,_,n,_,h1⟩:=(show A2 X.prog X.w H s.heap a (.lst xs)from I.hok a _ ea);exact W.kia_one W.kitx_list I.kIn ⟨_,h1,Y⟩ e (λz=>nomatch z) h
 | @frz a ob xs ea =>
  cases(show u=Value.ref a from rx);obtain⟨_,_,_,n,_,h1⟩:=(show A2 X.prog X.w H s.heap a (.frz ob (.lst xs))from I.hok a _ ea);exact W.kia_one W.kitx_list I.kIn ⟨_,h1,Y⟩ e (λz=>nomatch z) h
 | @tup a xs ea =>
  cases(show u=Value.ref a from rx);obtain⟨_,_,_,p⟩:=(show A2 X.prog X.w H s.heap a (.tup xs)from I.hok a _ ea);obtain⟨o,h1,h2,_⟩:=p;exact W.kia_one W.kitx_tuple I.kIn ⟨o,h1,h2⟩ e (λz=>nomatch z) h
 | @dK a kvs ea =>
  cases(show u=Value.ref a from rx);obtain⟨_,_,vs,_,p⟩:=(show A2 X.prog X.w H s.heap a (.dK kvs)from I.hok a _ ea);obtain⟨o,es,ep,h1,h2,_⟩:=p;exact W.kia_one W.kitx_dict I.kIn ⟨o,h1,h2.1⟩ e (λz=>nomatch z) h
 | @dT a kvs ea =>
  cases(show u=Value.ref a from rx);obtain⟨_,_,xs,_,o,es,ep,h1,h2,_⟩:=(show A2 X.prog X.w H s.heap a (.dT kvs)from I.hok a _ ea);exact W.kia_one W.kitx_dict I.kIn ⟨o,h1,h2.1⟩ e (λz=>nomatch z) h
 | @ins a C dx fs ea cl ha hn htk hm =>
  cases(show u=Value.ref a from rx);obtain⟨mA,O,_⟩:=Rx I.hok ea;obtain⟨od,J,_⟩:=O.look;exact W.kia_one (W.kitx_own (cl.get _) cl.hd ha hn htk hm) I.kIn J e (λz=>nomatch z) h
end
structure AV(k:Nat)(A:Around):Prop where
 hd:A.handled=none
 dp:A.depth + 3 * k + 5<recursionLimit
 un:A.units + 16 * k + 200<cLine
 gd:A.guards=some []
def AV.mono{j k:Nat}{A:Around}(r:AV k A)(h:j<=k):AV j A:=⟨r.hd,by have:=r.dp;omega,by have:=r.un;omega,r.gd⟩
theorem AV.deeper{k:Nat}{A:Around}(r:AV (k + 1) A)(env:Env):AV k (A.deeper env):=
 ⟨r.hd,by have:=r.dp;show A.depth + 1 + 3 * k + 5<_;omega,by have:=r.un;show A.units + 3 + 16 * k + 200<_;omega,r.gd⟩
theorem AV.in1{k:Nat}{A:Around}(r:AV (k + 1) A):AV k A.in1 :=
 ⟨r.hd,by have:=r.dp;show A.depth + 3 * k + 5<_;omega,by have:=r.un;show A.units + 1 + 16 * k + 200<_;omega,r.gd⟩
def oF{A:Around}{C:Addr}{us:LU}{kw:List (Str×Value)}:(A.under (.builtin "type.__call__" ⟨.ref C :: us,kw⟩)).depth=A.depth + 1:=by
 first | rfl | simp[Around.under,Code.weight,Code.isCreation,Code.isGuard,Code.isCaller,Code.frames,Code.isFrame,guardIds]
def pG{A:Around}{C:Addr}{us:LU}{kw:List (Str×Value)}:(A.under (.builtin "type.__call__" ⟨.ref C :: us,kw⟩)).units=A.units + 1:=by
 first | rfl | simp[Around.under,Code.cUnits,Code.frames,Code.isFrame]
def AV.make{k:Nat}{A:Around}(r:AV (k + 1) A)(C:Addr)(us:LU)(kw:List (Str×Value)):AV k (A.under (.builtin "type.__call__" ⟨.ref C :: us,kw⟩)):=
 ⟨r.hd,by have:=r.dp;rw[oF];omega,by have:=r.un;rw[pG];omega,by first | exact r.gd | simpa[Around.under,Code.guards,Code.isGuard,guardIds,pushGuards]using r.gd⟩
theorem AV.depth{k:Nat}{A:Around}(r:AV k A):A.depth<recursionLimit:=by have:=r.dp;omega
theorem AV.units{k:Nat}{A:Around}(r:AV k A):A.units + 64<cLine:=by have:=r.un;omega
def AV.units0{k:Nat}{A:Around}(r:AV k A):A.units<cLine:=by have:=r.un;omega
def Nf:TA:=λ_ H Q=>Q [] H
def OT(ta:TE)(tr:TA):TA:=λσ H Q=>ta σ H λx H1=>tr σ H1 λxs H2=>Q (x :: xs) H2
section
variable {X:Cx}{e:Expr}{es:List Expr}{te:TE}{t:TA}{pos:Pos}
def AA:PA X [] Nf:=λ_ _ _ _ H Q I h=>Calls.spliced_nil ⟨[],H,I,.nil,h⟩
def pC(ha:PE X e te)(hr:PA X es t)(hs:starEach (e :: es) X.env=(false,eval e X.env):: starEach es X.env:=by rfl):PA X (e :: es) (OT te t):=by
 intro pos pins s σ H Q I h;rw[hs];show wpAny _ _ (spliced ((false,eval e X.env):: backTo pos (starEach es X.env))) _ _ s;refine Calls.spliced_cons (AK (ha pins s σ H _ I h) λu s1 ⟨x,H1,I1,r1,q1⟩=>?_);exact AK (hr pos pins s1 σ H1 _ I1 q1) λus s2 ⟨xs,H2,I2,r2,q2⟩=>⟨x :: xs,H2,I2,.cons r1 r2,q2⟩
def WZ(t:TA):TE:=λσ H Q=>t σ H λxs H1=>xs.length<=sizeLine/\∀ p,H1 p=none->Q (.ref p) (upd H1 p (.tup xs))
def rP(t:TA):TE:=λσ H Q=>t σ H λxs H1=>xs.length<=sizeLine/\∀ p,H1 p=none->Q (.ref p) (upd H1 p (.lst xs))
def EJ{x1}(h:PA X es t):PE X (.Tuple es x1 pos) (WZ t):=by
 intro pins s σ H Q I hq;refine wpAny_Tuple_spliced (AK (h pos pins s σ H _ I hq) λus s1 ⟨xs,H1,I1,r,z,q⟩=>⟨by rw[<- r.length];exact z,?_⟩);have hf:H1 s1.heap.objs.size=none:=I1.hok.fresh (Yd _);refine⟨.ref s1.heap.objs.size,upd H1 s1.heap.objs.size (.tup xs),I1.laid (t':=s1.toks) (λb u e=>Yc _ e) (Yd _) ?_,Y,q _ hf⟩;exact⟨z,us,r,⟨_,Yl _ rfl,Y,Z⟩⟩
def B2(h:PA X es t):PE X (.List es pos) (rP t):=by
 intro pins s σ H Q I hq;refine wpAny_List_spliced (AK (h pos pins s σ H _ I hq) λus s1 ⟨xs,H1,I1,r,z,q⟩=>⟨by rw[<- r.length];exact z,?_⟩);have hf:H1 s1.heap.objs.size=none:=I1.hok.fresh (Yd _);refine⟨.ref s1.heap.objs.size,upd H1 s1.heap.objs.size (.lst xs),I1.laid (t':=s1.toks) (λb u e=>Yc _ e) (Yd _) ?_,Y,q _ hf⟩;exact⟨z,us,0,r,Yl _ rfl⟩
end
abbrev Sp:=LV->Hp->VK->XK->Prop
abbrev Es:=List Env->Hp->Shared->XK->Value->Shared->Prop
structure EZ(P:Program)(w:World)(K:Fg)(mg:Str->OU)(base:Heap)(A:Around)(outer:List Env)(s:Shared)(H:Hp):Prop where
 frames:A.frames=some outer
 mod:Mod K mg base
 bs:∀ b o,base.get? b=some o->s.heap.get? b=some o/\H b=none
 bsz:base.objs.size<=s.heap.objs.size
 funs:s.heap.FunFrames base outer
 frf:∀ b∈CD outer,H b=none
 hok:BE P w H s.heap
 bare:AllBare s.gens
def CE(outer:List Env)(P:Program)(w:World)(H:Hp)(s:Shared)(Q:VK)(u:Value)(s':Shared):Prop :=
 ∃ v H',s'.os=s.os/\AllBare s'.gens/\Un (CD outer) [] H H' s.heap s'.heap/\BE P w H' s'.heap/\AS v u/\Q v H'
def CR(CX:Es)(outer:List Env)(P:Program)(w:World)(H:Hp)(s:Shared)(Q:VK)(E:XK)(r:Result)(s':Shared):Prop :=
 match r with
 | .ok (.ret u)=>CE outer P w H s Q u s'
 | .ok _=>False
 | .error e=>CX outer H s E e s'
structure Ax(P:Program)(w:World)(K:Fg)(mg:Str->OU)(base:Heap)(CX:Es)(k:Nat)(f:Addr)(fd:FuncData)(ps:LS)(sp:Sp):Prop where
 len:∀ vs H Q E,sp vs H Q E->vs.length=ps.length
 run:∀(A:Around) (outer:List Env) (s:Shared) (H:Hp) (args:Args) (us:LU) (vs:LV) (Q:VK) (E:XK),AV k A->EZ P w K mg base A outer s H->BindsTo s fd args (ps.zip us)->AO vs us->sp vs H Q E ->
  codeAny (model P w) A (.call (.ref f) args) (CR CX outer P w H s Q E) s
def EZ.make{P:Program}{w:World}{K:Fg}{mg:Str->OU}{base:Heap}{A:Around}{outer:List Env}{s:Shared}{H:Hp}(e:EZ P w K mg base A outer s H)(C:Addr)(us:LU)(kw:List (Str×Value)):
  EZ P w K mg base (A.under (.builtin "type.__call__" ⟨.ref C :: us,kw⟩)) outer s H:=⟨by first | exact e.frames | (simpa[Around.under,Code.envs,Code.isFrame,pushEnvs]using e.frames),e.mod,e.bs,e.bsz,e.funs,e.frf,e.hok,e.bare⟩
section
variable {X:Cx}{pins:PL}{σ:St}{H:Hp}{s s':Shared}
def Inv.env0(I:Inv X pins σ H s):EZ X.prog X.w X.K X.mg X.base X.A X.stack s H :=
 ⟨I.ok.frames,I.ok.mod,I.bs,A6 I.ok.bsz I.sz,I.stack,I.stkFree,I.hok,I.bare⟩
def Inv.after{Q:VK}{u:Value}(I:Inv X pins σ H s)(h:CE X.stack X.prog X.w H s Q u s'):EP X pins σ Q u s':=by
 obtain⟨v,H',os,bare,un,hok,r,q⟩:=h;obtain⟨hh,g,d,t,Ho⟩:=s';obtain rfl:Ho=s.os:=os;exact⟨v,H',I.call (h':=hh) (g':=g) (d':=d) (t':=t) (ch:=[]) un hok bare (λb z=>absurd z (by simp)),r,q⟩
end
def gg(sp:Sp)(CP:LV)(E:XK)(t:TA):TE:=λσ H Q=>t σ H λvs H1=>sp (vs++CP) H1 Q E
def gh(C:Addr)(m:Str)(sp:Sp)(CP:LV)(E:XK)(ta:TE)(t:TA):TE:=λσ H Q=>ta σ H λx H1=>∃ a dx fs,x=.ref a/\H1 a=some (.ins C dx fs)/\fs.lookup m=none /\
 t σ H1 λvs H2=>sp (x :: (vs++CP)) H2 Q E
def sV(C:Addr)(sp:Sp)(CP:LV)(E:XK)(t:TA):TE:=λσ H Q=>t σ H λvs H1=>∀ x dx,H1 x=none->H1 dx=none->dx≠x ->
 sp (.ref x :: (vs++CP)) (upd (upd H1 dx (.own x)) x (.ins C dx [])) (λv H2=>v=.non/\Q (.ref x) H2) E
def Cj(K:Fg)(fd:FuncData)(ps:LS)(ds:LU):Prop :=
 ∀(s:Shared) (us:LU),K.In s.heap->(us++ds).length=ps.length->BindsTo s fd ⟨us,[]⟩ (ps.zip (us++ds))
def Cj.all{K:Fg}{ps:LS}(h:∀ us:LU,us.length=ps.length->bindArgs fd ⟨us,[]⟩=pure (ps.zip us)):Cj K fd ps []:=λs us _ hl=>by
 rw[Fu]at hl ⊢;exact .of_eq (h us hl)
def JW(CX:Es)(X:Cx)(E:XK):Prop:=∀(pins:PL) (σ:St) (H:Hp) (s:Shared) (e:Value) (s':Shared),Inv X pins σ H s->CX X.stack H s E e s'->X.xe e s'
section
variable {X:Cx}{CX:Es}{k:Nat}{f C:Addr}{fd:FuncData}{ps:LS}{sp:Sp}{CP:LV}{ds:LU}{E:XK}{x m:Str}{p pos apos:Pos}{e o:Expr}{es:List Expr}{ta:TE}{t:TA}
def VB{pins:PL}{σ:St}{H:Hp}{s:Shared}{Q:VK}{us:LU}{vs:LV}(F:Ax X.prog X.w X.K X.mg X.base CX k f fd ps sp)(hr:AV k X.A)(hb:Cj X.K fd ps ds)(hd:AO CP ds)(hx:JW CX X E)
  (I:Inv X pins σ H s) (r:AO vs us) (h:sp (vs++CP) H Q E):wpAny (model X.prog X.w) X.A (call (.ref f) us) (EP X pins σ Q) X.xe s:=by
 have r2:AO (vs++CP) (us++ds):=r.append hd;have hl:(us++ds).length=ps.length:=by rw[<- r2.length];exact F.len _ _ _ _ h
 refine wpAny_call (codeAny_mono (F.run X.A X.stack s H ⟨us,[]⟩ (us++ds) (vs++CP) Q E hr I.env0 (hb s us I.kIn hl) r2 h) λr s' hq=>?_);cases r with
 | error e=>exact hx pins σ H s e s' I hq
 | ok fl =>
  cases fl with
  | ret u=>exact I.after hq
  | next=>exact False.elim hq
  | brk=>exact False.elim hq
  | cont=>exact False.elim hq
def Ku(F:Ax X.prog X.w X.K X.mg X.base CX k f fd ps sp)(hr:AV k X.A)(hg:Gl X x)(hm:X.mg x=some (.ref f))(hk:W.keepIn X.K (.ref f)=true)(hb:Cj X.K fd ps ds)(hd:AO CP ds)(hx:JW CX X E)
  (ha:PA X (e :: es) t) (hdb:(x == ("__debug__":Str))=false:=by decide) (he:starEach (e :: es) X.env=(false,eval e X.env):: starEach es X.env:=by rfl) (hpl:(backTo pos (starEach es X.env)).any (·.1)=false:=by rfl):
  PE X (.Call (.Name x p) (e :: es) [] pos) (gg sp CP E t):=by
 ac_rfl;refine wpAny_Call_Name_kw (M3 I hg hm ?_ hdb);refine W.callWith_K (h₀:=X.base) I.ok.mod.kin hk (AK (ha pos pins s σ H _ I h) λus s1 ⟨vs,H1,I1,r,q⟩=>⟨I1.kIn,?_⟩) he hpl;exact VB F hr hb hd hx I1 r q
def IQ{pl:Sem Bool}(he:PE X o ta)(c:F1 X.K C)(hm:S9 X.K C m f)(F:Ax X.prog X.w X.K X.mg X.base CX k f fd ps sp)(hr:AV k X.A)(hb:Cj X.K fd ps ds)(hd:AO CP ds)(hx:JW CX X E)(ha:PA X (e :: es) t)
  (hst:starEach (e :: es) X.env=(false,eval e X.env):: starEach es X.env:=by rfl) (hpl:(backTo pos (starEach es X.env)).any (·.1)=false:=by rfl)
  (ht:eval (.Call (.Attribute o m apos) (e :: es) [] pos) X.env=(do
   let ov <- eval o X.env
   standAt apos.atName
   let(f,first) <- holding [ov] (getMethod ov m pl)
   callWith pos f first (backTo pos (starEach (e :: es) X.env)) (backToKw pos (keywordEach [] X.env))):=by rfl):
  PE X (.Call (.Attribute o m apos) (e :: es) [] pos) (gh C m sp CP E ta t):=by
 ac_rfl;refine W.methodCall_KW (pl:=pl) (AK (he pins s σ H _ I h) λu s1 ⟨x,H1,I1,rx,a,dx,fs,ex,ea,l,q⟩=>?_) ht;subst ex;obtain rfl:u=Value.ref a:=rx;refine dO I1 ea c hm l ?_;refine W.callWith_K (first:=[.ref a]) (h₀:=X.base) I.ok.mod.kin hm.kp (AK (ha pos pins s1 σ H1 _ I1 q) λus s2 ⟨vs,H2,I2,r,q2⟩=>⟨I2.kIn,?_⟩) hst hpl;exact VB (us:=.ref a :: us) (vs:=.ref a :: vs) F hr hb hd hx I2 (.cons rfl r) q2
def Jq{pl:Sem Bool}(he:PE X o ta)(c:F1 X.K C)(hm:S9 X.K C m f)(F:Ax X.prog X.w X.K X.mg X.base CX k f fd ps sp)(hr:AV k X.A)(hb:Cj X.K fd ps ds)(hd:AO CP ds)(hx:JW CX X E)
  (ht:eval (.Call (.Attribute o m apos) [] [] pos) X.env=(do
   let ov <- eval o X.env
   standAt apos.atName
   let(f,first) <- holding [ov] (getMethod ov m pl)
   callWith pos f first (backTo pos (starEach [] X.env)) (backToKw pos (keywordEach [] X.env))):=by rfl):
  PE X (.Call (.Attribute o m apos) [] [] pos) (gh C m sp CP E ta Nf):=by
 ac_rfl;refine W.methodCall_KW (pl:=pl) (AK (he pins s σ H _ I h) λu s1 ⟨x,H1,I1,rx,a,dx,fs,ex,ea,l,q⟩=>?_) ht;subst ex;obtain rfl:u=Value.ref a:=rx;refine dO I1 ea c hm l ?_;exact W.callWith_K0 (first:=[.ref a]) I1.kIn hm.kp (VB (us:=[.ref a]) (vs:=[.ref a]) F hr hb hd hx I1 (.cons rfl .nil) q)
structure Mk(K:Fg)(C f:Addr):Prop where
 makes:W.makesIn K C=true
 init:W.findIn K (.ref C) "__init__"=some (some (.ref f))
 fn:W.isFn K (.ref f)=true
 kp:W.keepIn K (.ref C)=true
def l4{pins:PL}{σ:St}{H:Hp}{s:Shared}{Q:VK}{us:LU}{vs:LV}(M:Mk X.K C f)(F:Ax X.prog X.w X.K X.mg X.base CX k f fd ps sp)(hr:AV (k + 1) X.A)(hb:Cj X.K fd ps ds)(hd:AO CP ds)
  (hx:JW CX X E) (I:Inv X pins σ H s) (r:AO vs us)
  (h:∀ x dx,H x=none->H dx=none->dx≠x->sp (.ref x :: (vs++CP)) (upd (upd H dx (.own x)) x (.ins C dx [])) (λv H2=>v=.non/\Q (.ref x) H2) E):
  wpAny (model X.prog X.w) X.A (call (.ref C) us) (EP X pins σ Q) X.xe s:=by
 have hq:=h (s.heap.objs.size + 1) s.heap.objs.size (I.hok.fresh (Fs _)) (I.hok.fresh (Yd _)) (Ys (Nat.lt_succ_self _));have I2:=Inv.made (C:=C) I;have r2:AO (V.ref (s.heap.objs.size + 1):: (vs++CP)) (Value.ref (s.heap.objs.size + 1):: (us++ds)):=.cons rfl (r.append hd);have hl:(Value.ref (s.heap.objs.size + 1):: us++ds).length=ps.length:=by
  have e:=r2.length;rw[F.len _ _ _ _ hq]at e;exact e.symm
 refine wpAny_call (lP (f:=f) I.kIn M.makes M.init (beq_iff_eq.mp M.fn) (codeAny_mono (F.run _ X.stack _ _ ⟨Value.ref (s.heap.objs.size + 1):: us,[]⟩ (Value.ref (s.heap.objs.size + 1):: (us++ds)) _ _ E (hr.make C us [])
  (I2.env0.make C us []) (hb _ (Value.ref (s.heap.objs.size + 1):: us) I2.kIn hl) r2 hq) λr s' F7=>?_))
 cases r with
 | error e=>exact hx pins σ _ _ e s' I2 F7
 | ok fl =>
  cases fl with
  | ret u =>
   obtain⟨v,H',I3,rv,ev,q3⟩:=I2.after F7;subst ev;exact⟨rv,⟨V.ref (s.heap.objs.size + 1),H',I3,Y,q3⟩⟩
  | next=>exact False.elim F7
  | brk=>exact False.elim F7
  | cont=>exact False.elim F7
def aP(M:Mk X.K C f)(F:Ax X.prog X.w X.K X.mg X.base CX k f fd ps sp)(hr:AV (k + 1) X.A)(hg:Gl X x)(hm:X.mg x=some (.ref C))(hb:Cj X.K fd ps ds)(hd:AO CP ds)(hx:JW CX X E)
  (ha:PA X (e :: es) t) (hdb:(x == ("__debug__":Str))=false:=by decide) (he:starEach (e :: es) X.env=(false,eval e X.env):: starEach es X.env:=by rfl) (hpl:(backTo pos (starEach es X.env)).any (·.1)=false:=by rfl):
  PE X (.Call (.Name x p) (e :: es) [] pos) (sV C sp CP E t):=by
 ac_rfl;refine wpAny_Call_Name_kw (M3 I hg hm ?_ hdb);refine W.callWith_K (h₀:=X.base) I.ok.mod.kin M.kp (AK (ha pos pins s σ H _ I h) λus s1 ⟨vs,H1,I1,r,q⟩=>⟨I1.kIn,?_⟩) he hpl;exact l4 M F hr hb hd hx I1 r q
end
section
variable {X:Cx}{CX:Es}{k:Nat}{f C:Addr}{fd:FuncData}{ps ks:LS}{sp:Sp}{E:XK}{x m:Str}{p pos apos kpos:Pos}{e o:Expr}{es:List Expr}{kws:List Keyword}{te ta:TE}{t tk:TA}{nm:Option Str}
structure xx(K:Fg)(fd:FuncData)(ps ks:LS)(g:LU->LU->LU)(gV:LV->LV->LV):Prop where
 to:∀(s:Shared) (us ws:LU),K.In s.heap->(g us ws).length=ps.length->BindsTo s fd ⟨us,ks.zip ws⟩ (ps.zip (g us ws))
 rel:∀ {vs:LV} {us:LU} {zs:LV} {ws:LU},AO vs us->AO zs ws->AO (gV vs zs) (g us ws)
variable {g:LU->LU->LU}{gV:LV->LV->LV}
end
structure Ae(N P:LS)(sc:Scope):Prop where
 kind:sc.kind=.function
 co:sc.isCoroutine=false
 gen:sc.isGenerator=false
 nd:N.Nodup
 pre:N.take P.length=P
 par:∀ x∈P,sc.names.lookup x=some .local\/sc.names.lookup x=some .cell
 nofree:∀ y∈sc.names,y.2≠.free
theorem cL{kindOf:Str->Option NameKind}{x:Str}:∀ {binds:List (Str×Value)}{m:Str->OU},(∀ v,(x,v)∉binds)->bindL kindOf binds m x=m x
 | [],_,_=>rfl
 | (n,v):: r,m,h=>by
  unfold bindL;rw[cL λw hw=>h w (FG _ hw)];split
  ·have:x≠n:=by rintro rfl;exact h v Ie
   simp[this]
  ·rfl
theorem cJ{kindOf:Str->Option NameKind}{x:Str}:∀ {binds:List (Str×Value)}{m:Str->OU},(∀ v,(x,v)∉binds)->bindC kindOf binds m x=m x
 | [],_,_=>rfl
 | (n,v):: r,m,h=>by
  unfold bindC;rw[cJ λw hw=>h w (FG _ hw)];split
  ·rfl
  ·have:x≠n:=by rintro rfl;exact h v Ie
   simp[this]
theorem cK{kindOf:Str->Option NameKind}{x:Str}{v:Value}:∀ {P:LS}{vs:LU}{i:Nat}{m:Str->OU},P.Nodup->P[i]?=some x->vs[i]?=some v->kindOf x=some .local ->
  bindL kindOf (P.zip vs) m x=some v
 | [],_,_,_,_,h,_,_=>by simp at h
 | _ :: _,[],_,_,_,_,h,_=>by simp at h
 | p :: P,w :: vs,0,m,nd,h1,h2,hk=>by
  simp at h1 h2;subst h1;subst h2;show bindL kindOf ((p,w):: P.zip vs) m p=_;unfold bindL;rw[cL λv hv=>(Ft.mp nd).1 (Ni hv).1,if_pos hk];simp
 | p :: P,w :: vs,i + 1,m,nd,h1,h2,hk=>by
  show bindL kindOf ((p,w):: P.zip vs) m x=_;unfold bindL;exact cK (i:=i) (Ft.mp nd).2 (by simpa using h1) (by simpa using h2) hk
theorem cI{kindOf:Str->Option NameKind}{x:Str}{v:Value}:∀ {P:LS}{vs:LU}{i:Nat}{m:Str->OU},P.Nodup->P[i]?=some x->vs[i]?=some v->kindOf x≠some .local ->
  bindC kindOf (P.zip vs) m x=some v
 | [],_,_,_,_,h,_,_=>by simp at h
 | _ :: _,[],_,_,_,_,h,_=>by simp at h
 | p :: P,w :: vs,0,m,nd,h1,h2,hk=>by
  simp at h1 h2;subst h1;subst h2;show bindC kindOf ((p,w):: P.zip vs) m p=_;unfold bindC;rw[cJ λv hv=>(Ft.mp nd).1 (Ni hv).1,if_neg hk];simp
 | p :: P,w :: vs,i + 1,m,nd,h1,h2,hk=>by
  show bindC kindOf ((p,w):: P.zip vs) m x=_;unfold bindC;exact cI (i:=i) (Ft.mp nd).2 (by simpa using h1) (by simpa using h2) hk
def start(N:LS)(vs:LV):St:=vs.map some++List.replicate (N.length - vs.length) none
def IE(CX:Es)(P:Program)(w:World)(K:Fg)(mg:Str->OU)(base:Heap)(N:LS)(qual:Str)(scope:Scope)(f:Addr)(cd:Value)(A:Around)(outer:List Env)(s:Shared)(H:Hp)(E:XK):Cx where
 prog:=P
 w:=w
 K:=K
 mg:=mg
 base:=base
 A:=A.deeper (envOfC qual scope s.heap.objs.size f cd)
 N:=N
 s₀:=s
 H₀:=H
 env:=envOfC qual scope s.heap.objs.size f cd
 outer:=outer
 stack:=envOfC qual scope s.heap.objs.size f cd :: outer
 ex:=[]
 calm:=true
 fn:=λ_=>true
 pn:=[]
 xe:=λe s'=>wpAny (model P w) (A.deeper (envOfC qual scope s.heap.objs.size f cd)) (leaving (envOfC qual scope s.heap.objs.size f cd) e) (λ_ Br=>CX outer H s E e Br) (λe' Br=>CX outer H s E e' Br) s'
def bX{sc:Scope}{n:Nat}{x:Str}(h:sc.names.lookup x=some .cell):∃ c,(cellsFrom n sc.names []).lookup x=some c:=by
 have q:=W.cellsFrom_some sc.names n [] (.inl h);exact Pj.mp q
def mN{CX:Es}{P:Program}{w:World}{K:Fg}{mg:Str->OU}{base:Heap}{N ps:LS}{qual:Str}{scope:Scope}{f:Addr}{cd:Value}{A:Around}{outer:List Env}{s s1:Shared}{H:Hp}{E:XK}{us:LU}{vs:LV}
  (S:Ae N ps scope) (hd:A.handled=none) (e0:EZ P w K mg base A outer s H) (hl:vs.length=ps.length) (r:AO vs us)
  (x:InCallC s s.heap.objs.size (bindL (envOfC qual scope s.heap.objs.size f cd).kindOf (ps.zip us) λ_=>none) (cellsFrom (s.heap.objs.size + 1) scope.names []) (bindC (envOfC qual scope s.heap.objs.size f cd).kindOf (ps.zip us) λ_=>none) s1):
  Inv (IE CX P w K mg base N qual scope f cd A outer s H E) [] (start N vs) H s1:=by
 have hpl:ps.length<=N.length:=by have:=congrArg List.length S.pre;rw[Yz]at this;omega
 obtain⟨h1,tk,rfl,hk⟩:=x.done;have noA:∀ b:Addr,b∉(IE CX P w K mg base N qual scope f cd A outer s H E).ex:=λb z=>absurd (show b∈([]:List Addr)from z) (by simp);refine⟨⟨e0.mod,S.kind,Y,Y,Yd _,λy z c h1 h2=>?_,λy hy=>?_,λy c _ h=>?_,λ_=>hd,Around.frames_deeper e0.frames,.inr ⟨Y,Y⟩,λb z=>absurd z (noA b),e0.bs,e0.bsz,λb _ _=>noA b,λb z=>absurd z (noA b),e0.funs,e0.frf⟩,
  Y,e0.bare,Un.kept hk,⟨_,x.toInCall.ns,λi y v h1 h2 h3=>?_⟩,λy c h=>⟨_,x.cell y c h⟩,e0.hok.fresh (Yd _),λy c h=>?_,λp hp=>absurd (show p∈([]:PL)from hp) (by simp),e0.hok.kept hk,?_⟩
 ·exact name_of_addr x.apart (Dp h1) (Dp h2)
 ·have hy:scope.names.lookup y=some .cell\/scope.names.lookup y=some .free:=hy
  rcases hy with hy | hy
  ·exact bX hy
  ·exact absurd rfl (S.nofree _ (Dp hy))
 ·exact Jx (x.above y c (Dp h))
 ·have hi:i<vs.length:=by
   unfold start at h2;by_cases hi:i<vs.length
   ·exact hi
   ·rw[Ih (by simpa using hi)]at h2;rw[Wx]at h2;split at h2 <;> cases h2
  have ha:vs[i]?=some v:=by
   unfold start at h2;rw[LL (by simpa using hi),Yf]at h2;cases e:vs[i]? with
   | none=>rw[e]at h2;cases h2
   | some a=>rw[e]at h2;cases h2;rfl
  obtain⟨u,hu,rv⟩:=r.get ha;have hp:ps[i]?=some y:=by
   rw[<- S.pre,List.getElem?_take_of_lt (by omega)];exact h1
  have ndP:ps.Nodup:=by rw[<- S.pre];exact S.nd.sublist (List.take_sublist _ _)
  refine⟨u,rv,?_⟩
  rcases S.par y (Yh hp)with k | k
  ·exact .inl ⟨k,cK ndP hp hu k⟩
  ·obtain⟨c,e⟩:=bX (n:=s.heap.objs.size + 1) k;refine .inr ⟨.inl k,c,e,?_⟩;have q:=x.cell y c e;rw[cI ndP hp hu (by show scope.names.lookup y≠_;rw[k];decide)]at q;exact q
 ·exact e0.hok.fresh (Jx (x.above y c (Dp h)))
 ·unfold start;show _=N.length;rw[Yx,Ya,List.length_replicate];omega
def Wh{CX:Es}{P:Program}{w:World}{K:Fg}{mg:Str->OU}{base:Heap}{k:Nat}{f:Addr}{name qual:Str}{params:Arguments}{body:List Stmt}{scope:Scope}{dV kV doc pm Ai ct oc:Value}{an od:Option Addr}
  {osl:Array (OU)} {N ps:LS} {sp:Sp} (lk:K.lookup f=some ⟨oc,od,.func (W.fnOf name qual params body scope dV kV doc pm an Ai ct),osl⟩) (hcd:W.codeIn K Ai qual=true) (S:Ae N ps scope)
  (len:∀ vs H Q E,sp vs H Q E->vs.length=ps.length)
  (hbody:∀(A:Around) (outer:List Env) (s:Shared) (H:Hp) (vs:LV) (Q:VK) (E:XK),AV k (A.deeper (envOfC qual scope s.heap.objs.size f Ai))->sp vs H Q E ->
   ∃ t,Bo (IE CX P w K mg base N qual scope f Ai A outer s H E) body t/\t {nx:=λ_ H'=>Q .non H',rt:=Q} (start N vs) H):
  Ax P w K mg base CX (k + 1) f (W.fnOf name qual params body scope dV kV doc pm an Ai ct) ps sp:=by
 refine⟨len,λA outer s H args us vs Q E hr e0 hb r hsp=>?_⟩;have hl:=len _ _ _ _ hsp;have KX:K.In s.heap:=e0.mod.kin.keeps λb o e=>(e0.bs b o e).1;have lim:s.heap.NoLimit:=e0.mod.nolimit.keeps λb o e=>(e0.bs b o e).1;have hkind:∀ y∈ps.zip us,scope.names.lookup y.1=some .local\/(scope.names.lookup y.1=some .cell/\((cellsFrom (s.heap.objs.size + 1) scope.names []).lookup y.1).isSome=true):=λ⟨n,v⟩ hy=>by
  rcases S.par n (Ni hy).1 with q | q
  ·exact .inl q
  ·exact .inr ⟨q,W.cellsFrom_some _ _ _ (.inl q)⟩
 refine codeAny_call_function hr.depth (KX _ _ lk) rfl S.co S.gen rfl (W.codeRec_of KX hcd) (hb _ _ _ _ ?_);refine wpAny_newFunctionEnv_cells S.kind hkind λenv he s1 x=>?_;subst he;refine⟨lim.keeps x.toInCall.keep,codeAny_func ?_⟩;obtain⟨t,ht,hq⟩:=hbody A outer s H vs Q E (hr.deeper _) hsp;have I:Inv (IE CX P w K mg base N qual scope f Ai A outer s H E) [] (start N vs) H s1:=mN S hr.hd e0 hl r x;refine Jf (ht [] s1 (start N vs) H _ I hq) (λfl s' hs=>?_) λe s' hs=>hs;have fin:∀ {σ':St} {H':Hp} {v:V} {u:Value},Inv (IE CX P w K mg base N qual scope f Ai A outer s H E) [] σ' H' s'->AS v u->Q v H'->CE outer P w H s Q u s' :=
  λ{σ' H' v u} J rv q=>⟨v,H',J.os,J.bare,J.base,J.hok,rv,q⟩
 cases fl with
 | ret u =>
  obtain⟨v,σ',H',J,rv,q⟩:=hs;exact fin J rv q
 | next =>
  obtain⟨σ',H',J,q⟩:=hs;exact fin (v:=V.non) (u:=Value.none) J rfl q
 | brk =>
  obtain⟨_,_,_,q⟩:=hs;exact False.elim q
 | cont =>
  obtain⟨_,_,_,q⟩:=hs;exact False.elim q
section
variable {X:Cx}{x:Str}{p pos:Pos}{e:Expr}{es:List Expr}{t:TA}{id T:String}{r:LV->Hp->VK->Prop}
def Xv(r:LV->Hp->VK->Prop)(t:TA):TE:=λσ H Q=>t σ H λvs H1=>r vs H1 Q
def Aa(hc:Eg X (.builtin id) r)(hg:Gl X x)(hm:X.mg x=none)(hv:bootBuiltins x=some (.builtin id))(ha:PA X (e :: es) t)(hn:x≠"__name__":=by decide)(hdb:(x == ("__debug__":Str))=false:=by decide)
  (he:starEach (e :: es) X.env=(false,eval e X.env):: starEach es X.env:=by rfl) (hpl:(backTo pos (starEach es X.env)).any (·.1)=false:=by rfl):PE X (.Call (.Name x p) (e :: es) [] pos) (Xv r t):=by
 ac_rfl;refine wpAny_Call_Name_kw (Fh I hg hm hv ?_ hn hdb);exact PyProof.Rows.callWith_builtin1 (AK (ha pos pins s σ H _ I h) λus s1 ⟨vs,H1,I1,r1,q1⟩=>hc pins s1 σ H1 vs us Q I1 r1 q1) he hpl
def DZ(hc:Eg X (.type T) r)(hg:Gl X x)(hm:X.mg x=none)(hv:bootBuiltins x=some (.type T))(ha:PA X (e :: es) t)(hn:x≠"__name__":=by decide)(hdb:(x == ("__debug__":Str))=false:=by decide)
  (he:starEach (e :: es) X.env=(false,eval e X.env):: starEach es X.env:=by rfl) (hpl:(backTo pos (starEach es X.env)).any (·.1)=false:=by rfl):PE X (.Call (.Name x p) (e :: es) [] pos) (Xv r t):=by
 ac_rfl;refine wpAny_Call_Name_kw (Fh I hg hm hv ?_ hn hdb);exact Ii (AK (ha pos pins s σ H _ I h) λus s1 ⟨vs,H1,I1,r1,q1⟩=>hc pins s1 σ H1 vs us Q I1 r1 q1) he hpl
end
end L2
namespace HT
open PySem PyProof.Rows
def lexLt:List Int->List Int->Bool
 | [],[]=>false
 | [],_ :: _=>true
 | _ :: _,[]=>false
 | x :: xs,y :: ys=>if x=y then lexLt xs ys else decide (x<y)
def lexLt_cons(x y:Int)(xs ys:List Int):lexLt (x :: xs) (y :: ys)=if x=y then lexLt xs ys else decide (x<y):=rfl
def kJ(A:Around)(s:Shared)(a:Int)(t:Tok)(c:Int)(u:Tok):∃ e,SeqAt.EqAt A s (.int a t) (.int c u) e/\(e=true↔a=c):=
 ⟨(a == c),SeqAt.EqAt.int_int a t c u,by simp⟩
def lI(A:Around)(s:Shared)(a:Int)(t:Tok)(c:Int)(u:Tok)(prog:Program)(w:World)(E:EV)(Q:EV)(h:Q (.bool (decide (a<c))) s):
  wpAny (model prog w) A (richCompare .Lt (.int a t) (.int c u)) Q E s :=
 (PyProof.Rows.lt_int h:wpAny (model prog w) A (compareOp .Lt (.int a t) (.int c u)) Q E s)
section
open PySem.SeqAt
open PySem.AutoSeq1 (wpAny_loadPart')
open PySem.MeetsSeq PySem.MeetsSeq2 PySem.MeetsSeq3
end
section
variable {prog:Program}{w:World}{A:Around}{E:EV}{s:Shared}
def cat_tup{t b:Addr}{vs ws:LU}{Q:EV}(ht:IsTup s.heap t vs.toArray)(hb:IsTup s.heap b ws.toArray)(hv:vs≠[])
  (h1:ws=[]->Q (.ref t) s) (h2:ws≠[]->Q (.ref s.heap.objs.size) {s with heap:=s.heap.push {cls:=.type "tuple",data:=.seq (vs++ws).toArray} })
  (hsz:vs.length + ws.length<=sizeLine):wpAny (model prog w) A (binaryOp .Add (.ref t) (.ref b)) Q E s:=by
 obtain⟨⟨cls,dd,data,sl⟩,ho,hc,n,hd⟩:=id ht;obtain⟨⟨QU,GQ,data2,F4⟩,BF,Ct,n2,hd2⟩:=id hb;simp only at hc hd Ct hd2;subst hc hd Ct hd2;have e:vs.toArray++ws.toArray=(vs++ws).toArray:=by simp
 by_cases hw:ws=[]
 ·exact concat_meets ⟨_,ho,Y⟩ ⟨_,BF,Y⟩ noFill_tuple_add seq_tuple_add PySem.F.slot_tuple_add Ww (W0 _ _)
   (tuple_addW1 t b vs.toArray ws.toArray n n2 dd GQ sl F4 (by simpa using hv) (by simp[hw])) ⟨ho,BF,h1 hw⟩
 ·refine concat_meets ⟨_,ho,Y⟩ ⟨_,BF,Y⟩ noFill_tuple_add seq_tuple_add PySem.F.slot_tuple_add Ww (W0 _ _)
   (tuple_addW2 t b vs.toArray ws.toArray n n2 dd GQ sl F4 (by simpa using hv) (by simpa using hw) (by rw[Yo,Yo];exact hsz)) ⟨ho,BF,?_⟩
  rw[e];exact h2 hw
def sIx(n d:Nat):Option Int->Nat
 | none=>d
 | some v=>if v<0 then(v + (n:Int)).toNat else min v.toNat n
def sIx_none(n d:Nat):sIx n d none=d:=rfl
def sIx_nat(n d k:Nat):sIx n d (some (k:Int))=min k n:=by
 show(if(k:Int)<0 then((k:Int) + (n:Int)).toNat else min (k:Int).toNat n)=min k n;rw[if_neg (by omega),Bk]
def uP(n d:Nat)(hd:d<=n)(o:Option Int):sIx n d o<=n:=by
 cases o with
 | none=>exact hd
 | some v =>
  show(if v<0 then(v + (n:Int)).toNat else min v.toNat n)<=n;by_cases hv:v<0
  ·rw[if_pos hv];omega
  ·rw[if_neg hv];exact Nat.min_le_right _ _
def Z9(v:Int)(n d:Nat):(if v<0 then max (v + (n:Int)) 0 else min v (n:Int))=((sIx n d (some v):Nat):Int):=by
 show(if v<0 then max (v + (n:Int)) 0 else min v (n:Int))=(((if v<0 then(v + (n:Int)).toNat else min v.toNat n):Nat):Int);by_cases hv:v<0
 ·simp only[if_pos hv];omega
 ·simp only[if_neg hv];omega
def nj(lo hi:Option Int)(n:Nat):Builtin.Slice.sliceAdjust lo hi 1 (n:Int)=(((sIx n 0 lo:Nat):Int),((sIx n n hi:Nat):Int)):=by
 have h1:¬ ((1:Int)<0):=by omega
 unfold Builtin.Slice.sliceAdjust;simp only[h1,if_false];refine Prod.ext ?_ ?_
 ·cases lo with
  | none=>rfl
  | some v=>exact Z9 v n 0
 ·cases hi with
  | none=>rfl
  | some v=>exact Z9 v n n
def oh(i j:Nat):Builtin.Slice.slicePlaces (i:Int) (j:Int) 1=j - i:=by
 unfold Builtin.Slice.slicePlaces;have h1:(1:Int) > 0:=by omega
 simp only[h1,if_true,Int.ediv_one];split <;> omega
def dm{v:Value}{o:Option Int}{Q:Option Int->Shared->Prop}(p:IsPart v o)(h:Q o s):wpAny (model prog w) A (Builtin.Slice.slicePartIndex v) Q E s:=by
 cases p with
 | none=>exact slicePart_none h
 | int i t=>exact slicePart_int h
def eQ{sl:Addr}{vl vu:Value}{lo hi:Option Int}{n:Nat}{Q:Int×Int×Nat->Shared->Prop}(hs:s.heap.IsSliceOf sl vl vu .none)(pl:IsPart vl lo)(pu:IsPart vu hi)
  (h:Q (((sIx n 0 lo:Nat):Int),1,sIx n n hi - sIx n 0 lo) s):wpAny (model prog w) A (Builtin.Slice.sliceApplied (.ref sl) (pure (n:Int))) Q E s:=by
 obtain⟨os,hos,hcs,hds⟩:=id hs;unfold Builtin.Slice.sliceApplied Builtin.Slice.sliceFields;refine Ja (Ja (Jg hos hds (x:=vl) rfl (Ja (Jg hos hds (x:=vu) rfl (Ja (Jg hos hds (x:=.none) rfl (Jd ?_)))))));refine Ja (slicePart_none ?_);show wpAny _ _ (if((1:Int) == 0)=true then _ else _) _ _ s;rw[if_neg (by decide)];refine Ja (dm pl (Ja (dm pu (Ja (Jd ?_)))));show wpAny _ _ (match Builtin.Slice.sliceAdjust lo hi 1 (n:Int)with | (lo,hi)=>pure (lo,(1:Int),Builtin.Slice.slicePlaces lo hi 1)) _ _ s;rw[nj lo hi n];show wpAny _ _ (pure (((sIx n 0 lo:Nat):Int),(1:Int),Builtin.Slice.slicePlaces ((sIx n 0 lo:Nat):Int) ((sIx n n hi:Nat):Int) 1)) _ _ s;rw[oh];exact Jd h
def lC(xs:Array Value)(i k:Nat):((List.range k).filterMap λ(m:Nat)=>xs[((i:Int) + (m:Int) * 1).toNat]?).toArray=((xs.toList.drop i).take k).toArray:=by
 have e:(λ(m:Nat)=>xs[((i:Int) + (m:Int) * 1).toNat]?)=λm=>xs[i + m]?:=by
  funext m
  have:((i:Int) + (m:Int) * 1).toNat=i + m:=by omega
  rw[this]
 rw[e];have:=pick_run xs i k;rw[List.filterMap_map]at this;have e2:((λx=>xs[x]?) ∘ λx=>i + x)=λm=>xs[i + m]?:=rfl;rw[e2]at this;rw[this]
def getItem_tuple_cut{t sl:Addr}{items:Array Value}{vl vu:Value}{lo hi:Option Int}{Q:EV}(ht:IsTup s.heap t items)(hs:s.heap.IsSliceOf sl vl vu .none)(pl:IsPart vl lo)(pu:IsPart vu hi)
  (hw:¬ (sIx items.size 0 lo=0/\sIx items.size items.size hi=items.size))
  (h:Q (.ref s.heap.objs.size) {s with heap:=s.heap.push {cls:=.type "tuple",data:=.seq ((items.toList.drop (sIx items.size 0 lo)).take (sIx items.size items.size hi - sIx items.size 0 lo)).toArray} })
  (hsz:items.size<=sizeLine):wpAny (model prog w) A (getItem (.ref t) (.ref sl)) Q E s:=by
 have htake:sizeOk (.seq ((items.toList.drop (sIx items.size 0 lo)).take (sIx items.size items.size hi - sIx items.size 0 lo)).toArray):=by
  show((items.toList.drop (sIx items.size 0 lo)).take (sIx items.size items.size hi - sIx items.size 0 lo)).toArray.size<=sizeLine;rw[Yo,Yz,Hi,Hh];omega
 have hj:sIx items.size items.size hi<=items.size:=uP _ _ (Yd _) hi;obtain⟨os,hos,hcs,hds⟩:=id hs;have hTs:s.TypeIs (.ref sl) "slice":=⟨os,hos,hcs⟩;unfold getItem
 try with_reducible refine Jj ?_
 first | refine Ja (Jd ?_) | skip
 refine Ja (wpAny_sequenceKey ht.typeIs (by decide) ?_);refine Ja (wpAny_callSpecial?_slot (name:=Str.ofString "__getitem__") ht.typeIs Nn
  (wpAny_call_entry Nn ht.typeIs entry_tuple_getitem ?_ (args_tuple_getitem _ _)))
 show wpAny _ _ (Builtin.Tuple.tupleItemsOf (.ref t)>>=_) _ _ s;refine Ja (tupleItemsOf_ ht ?_);refine Ja (wpAny_typeOf hTs ?_);rw[if_pos (by decide)];refine Ja (eQ hs pl pu ?_);have hno:¬ ((((sIx items.size 0 lo:Nat):Int) == 0&&(1:Int) == 1&&(sIx items.size items.size hi - sIx items.size 0 lo) == items.size)=true):=by
  intro q;rw[Dl,Dl]at q;have q1:((sIx items.size 0 lo:Nat):Int)=0:=eq_of_beq q.1.1;have q2:sIx items.size items.size hi - sIx items.size 0 lo=items.size:=eq_of_beq q.2;exact hw ⟨W,W⟩
 show wpAny _ _ (if(((sIx items.size 0 lo:Nat):Int) == 0&&(1:Int) == 1&&(sIx items.size items.size hi - sIx items.size 0 lo) == items.size)=true then _ else _) _ _ s;rw[if_neg hno,lC]
 first
  | exact Ja (m:=Builtin.Tuple.tupleExact _) (wpAny_newObj_type (Jd ⟨_,rfl,Jd h⟩) htake)
  | exact Ja (m:=Builtin.Tuple.tupleExact _) (wpAny_newObj_type (Ja (Jd (Jd ⟨_,rfl,Jd h⟩))) htake)
  | exact Ja (Ja (m:=Builtin.Tuple.tupleExact _) (wpAny_newObj_type (Jd (Jd ⟨_,rfl,Jd h⟩)) htake))
  | exact Ja (Ja (m:=Builtin.Tuple.tupleExact _) (wpAny_newObj_type (Jd ⟨_,rfl,Jd h⟩) htake))
end
end HT
namespace L2
open PySem PySem.Spec PyProof.Rows
abbrev TO:=St->Hp->(Option Int->Hp->Prop)->Prop
def PO(X:Cx)(e:Option Expr)(t:TO):Prop :=
 ∀(pins:PL) (s:Shared) (σ:St) (H:Hp) (Q:Option Int->Hp->Prop),Inv X pins σ H s->t σ H Q ->
  wpAny (model X.prog X.w) X.A (evalPart e X.env) (λu s'=>∃ o H',Inv X pins σ H' s'/\IsPart u o/\Q o H') X.xe s
def R5:TO:=λ_ H Q=>Q none H
def sZ(t:TE):TO:=λσ H Q=>t σ H λx H1=>∃ i,x=.int i/\Q (some i) H1
def V5{ns:List Int}:∀ {us:LU},AO (ns.map V.int) us->IntsAre us ns:=by
 induction ns with
 | nil=>intro us r;rw[Fw]at r;cases r;exact .nil
 | cons n ns ih =>
  intro us r;rw[Ym]at r;cases r with
  | cons r1 r2 =>
   obtain⟨t,e⟩:=r1;subst e;exact .cons n t (ih r2)
section
variable {X:Cx}{e:Expr}{te:TE}{lo hi:Option Expr}{tl th:TO}{pos p2:Pos}
def IS:PO X none R5:=by
 ac_rfl;rw[evalPart_none];exact Jd ⟨none,H,I,.none,h⟩
def IT(h:PE X e te):PO X (some e) (sZ te):=by
 intro pins s σ H Q I hw;rw[evalPart_some];refine AK (h pins s σ H _ I hw) λu s1 ⟨x,H1,I1,r1,q1⟩=>?_;obtain⟨i,rfl,q⟩:=q1;obtain⟨t,rfl⟩:=r1;exact⟨some i,H1,I1,.int i t,q⟩
def P1(X:Cx)(r:V->Option Int->Option Int->Hp->VK->Prop):Prop :=
 ∀(pins:PL) (s:Shared) (σ:St) (H:Hp) (x:V) (v vl vu:Value) (lo hi:Option Int) (sl:Addr) (Q:VK),Inv X pins σ H s->AS x v->s.heap.IsSliceOf sl vl vu .none->IsPart vl lo->IsPart vu hi->r x lo hi H Q ->
  ∃ T id,typeLookup (.type T) "__getitem__"=pure (some (.builtin id))/\s.TypeIs v T/\wpAny (model X.prog X.w) X.A (getItem v (.ref sl)) (EP X pins σ Q) X.xe s
def iE(r:V->Option Int->Option Int->Hp->VK->Prop)(te:TE)(tl th:TO):TE:=λσ H Q=>te σ H λx H1=>tl σ H1 λl H2=>th σ H2 λu H3=>r x l u H3 Q
def IV{r:V->Option Int->Option Int->Hp->VK->Prop}(hr:P1 X r)(he:PE X e te)(hl:PO X lo tl)(hu:PO X hi th):PE X (.Subscript e (.Slice lo hi none p2) pos) (iE r te tl th):=by
 ac_rfl;refine Subscript_ (AK (he pins s σ H _ I h) λv s1 ⟨x,H1,I1,r1,q1⟩=>?_);refine wpAny_Slice (AK (hl pins s1 σ H1 _ I1 q1) λvl s2 ⟨l,H2,I2,pl,q2⟩=>AK (hu pins s2 σ H2 _ I2 q2) λvu s3 ⟨u,H3,I3,pu,q3⟩=>?_);rw[evalPart_none];refine Jd ?_;have I4:Inv X pins σ H3 {s3 with heap:=s3.heap.push {cls:=.type "slice",data:=.fields #[vl,vu,.none] } }:=I3.kept (t':=s3.toks) λb ob q=>Yc _ q;obtain⟨T,id,hT,ht,hg⟩:=hr pins {s3 with heap:=s3.heap.push {cls:=.type "slice",data:=.fields #[vl,vu,.none] } } σ H3 x v vl vu l u s3.heap.objs.size Q I4 r1 (Heap.IsSliceOf.new ..) pl pu q3;show wpAny (model X.prog X.w) X.A (subscriptTail e (.Slice lo hi none p2) v (.ref s3.heap.objs.size)) (EP X pins σ Q) X.xe {s3 with heap:=s3.heap.push {cls:=.type "slice",data:=.fields #[vl,vu,.none] } };exact tail_any (ops:=[.ref s3.heap.objs.size,v]) ht hT hg (by with_unfolding_all rfl)
def DM(xs:LV)(lo hi:Option Int):LV:=(xs.drop (HT.sIx xs.length 0 lo)).take (HT.sIx xs.length xs.length hi - HT.sIx xs.length 0 lo)
def dh(xs:LV)(lo hi:Option Int):(DM xs lo hi).length<=xs.length:=by
 unfold DM;rw[Yz,Hi];omega
def qv(K:Fg):V->Option Int->Option Int->Hp->VK->Prop:=λx lo hi H Q=>∃ a xs,x=.ref a/\AJ K H a xs /\
 ¬ (HT.sIx xs.length 0 lo=0/\HT.sIx xs.length xs.length hi=xs.length)/\∀ p,H p=none->Q (.ref p) (upd H p (.tup (DM xs lo hi)))
def uz:P1 X (qv X.K):=by
 intro pins s σ H x v vl vu lo hi sl Q I rx hs pl pu h;obtain⟨a,xs,rfl,hx,hw,q⟩:=h;cases rx;obtain⟨its,r,ht,hz⟩:=I.tuple hx;have hlen:its.toArray.size=xs.length:=by rw[Yo];exact r.length.symm
 refine⟨"tuple",_,Nn.lookup,ht.typeIs,?_⟩;refine HT.getItem_tuple_cut ht hs pl pu (by rw[hlen];exact hw) ?_ (by rw[hlen];exact hz);rw[hlen];refine⟨.ref s.heap.objs.size,_,I.laid (t':=s.toks) (o:=.tup (DM xs lo hi)) (λb ob q=>Yc _ q) (Yd _) ?_,Y,q _ (I.hok.fresh (Yd _))⟩;exact⟨A6 (dh xs lo hi) hz,_,(r.drop (HT.sIx xs.length 0 lo)).take (HT.sIx xs.length xs.length hi - HT.sIx xs.length 0 lo),IsTup.new _ _⟩
def sG(K:Fg):R2:=λx y H Q=>∃ a b xs ys,x=.ref a/\y=.ref b/\AJ K H a xs/\AJ K H b ys/\xs≠[]/\xs.length + ys.length<=sizeLine /\
 (ys=[]->Q (.ref a) H)/\(ys≠[]->∀ p,H p=none->Q (.ref p) (upd H p (.tup (xs++ys))))
def AO.nil_iff{xs:LV}{us:LU}(r:AO xs us):us=[]↔xs=[]:=by
 cases r with
 | nil=>simp
 | cons _ _=>simp
def vU:BO X (binaryOp .Add) (sG X.K):=by
 exfalso;obtain⟨a,b,xs,ys,rfl,rfl,ha,hb,hx,hz,q1,q2⟩:=h;cases rx;cases ry;obtain⟨its,r1,p1,_⟩:=I.tuple ha;obtain⟨QF,r2,p2,_⟩:=I.tuple hb;refine HT.cat_tup p1 p2 (λz=>hx (r1.nil_iff.mp z)) (λz=>⟨.ref a,H,I,Y,q1 (r2.nil_iff.mp z)⟩) (λz=>?_) (by rw[<- r1.length,<- r2.length];exact hz);refine⟨.ref s.heap.objs.size,_,I.laid (t':=s.toks) (o:=.tup (xs++ys)) (λb ob q=>Yc _ q) (Yd _) ?_,Y,q2 (λw=>z (r2.nil_iff.mpr w)) _ (I.hok.fresh (Yd _))⟩;exact⟨by rw[Yx];exact hz,_,r1.append r2,IsTup.new _ _⟩
end
def Ex(n:Nat)(i:Int):Option Nat:=if 0<=i then(if i<n then some i.toNat else none)else if -(n:Int)<=i then some (i + n).toNat else none
def A_{α:Type}(xs:List α)(i:Int):Option α:=(Ex xs.length i).bind λj=>xs[j]?
def Oj{n:Nat}{i:Int}{j:Nat}(h:Ex n i=some j):seqIndex? i n=some j/\j<n/\-(n:Int)<=i/\i<n:=by
 unfold Ex at h;by_cases h0:0<=i
 ·rw[if_pos h0]at h;by_cases h1:i<n
  ·rw[if_pos h1]at h;have e:i.toNat=j:=Yv h;exact⟨by rw[seqIndex_of h0 h1,e],W,W,h1⟩
  ·rw[if_neg h1]at h;cases h
 ·rw[if_neg h0]at h;by_cases h1:-(n:Int)<=i
  ·rw[if_pos h1]at h;have e:(i + n).toNat=j:=Yv h;exact⟨by rw[seqIndex_neg (by omega) h1,e],W,h1,W⟩
  ·rw[if_neg h1]at h;cases h
def VD{α:Type}{xs:List α}{i:Int}{v:α}(h:A_ xs i=some v):∃ j,seqIndex? i xs.length=some j/\xs[j]?=some v/\j<xs.length/\-(xs.length:Int)<=i/\i<xs.length:=by
 unfold A_ at h;cases e:Ex xs.length i with
 | none=>rw[e]at h;cases h
 | some j =>
  rw[e]at h;obtain⟨h1,h2,h3,h4⟩:=Oj e;exact⟨j,h1,h,h2,h3,h4⟩
def EK{α:Type}{xs:List α}{j:Nat}{v:α}(h:xs[j]?=some v):A_ xs (j:Int)=some v:=by
 have hj:j<xs.length:=(Yn.mp h).1;have e:Ex xs.length (j:Int)=some j:=by
  unfold Ex;rw[if_pos (by omega),if_pos (by omega)];simp
 unfold A_;rw[e];exact h
def kF{α:Type}(xs:List α)(v:α):A_ (xs++[v]) (-1)=some v:=by
 have hl:(xs++[v]).length=xs.length + 1:=by simp
 have e:Ex (xs++[v]).length (-1)=some xs.length:=by
  unfold Ex;rw[hl,if_neg (by decide),if_pos (by omega)]
  congr 1
  omega
 unfold A_;rw[e];show(xs++[v])[xs.length]?=some v;simp
def ur(b:Expr):Prop:=∀ o i,subscripted b false o i=operate [o,i] (getItem o i)
def Tw(X:Cx)(r:R2):Prop :=
 ∀(value slice:Expr) (pins:PL) (s:Shared) (σ:St) (H:Hp) (x y:V) (v u:Value) (Q:VK),Inv X pins σ H s->AS x v->AS y u->r x y H Q ->
  subscripted slice false v u=operate [v,u] (getItem v u)->wpAny (model X.prog X.w) X.A (subscriptTail value slice v u) (EP X pins σ Q) X.xe s
def W7(X:Cx)(id:String)(r:V->LV->Hp->VK->Prop):Prop :=
 ∀(pins:PL) (s:Shared) (σ:St) (H:Hp) (x:V) (xs:LV) (v:Value) (us:LU) (Q:VK),Inv X pins σ H s->AS x v->AO xs us->r x xs H Q ->
  wpAny (model X.prog X.w) X.A (call (.builtin id) (v :: us)) (EP X pins σ Q) X.xe s
section
variable {X:Cx}{a b:Expr}{ta tb:TE}{pos:Pos}
def AX{r:R2}(hr:Tw X r)(ha:PE X a ta)(hb:PE X b tb)(hs:ur b):PE X (.Subscript a b pos) (Qr r ta tb):=by
 ac_rfl;exact Subscript_ (WW ha hb I h λv u s2 x y H2 I2 rx ry q=>hr a b pins s2 σ H2 x y v u Q I2 rx ry q (hs _ _))
def BB(K:Fg):R2:=λx y H Q=>∃ p xs i v,x=.ref p/\y=.int i/\SqL K H p xs/\A_ xs i=some v/\Q v H
def CF(K:Fg):R2:=λx y H Q=>∃ p xs i v,x=.ref p/\y=.int i/\AJ K H p xs/\A_ xs i=some v/\Q v H
def qq:R2:=λx y H Q=>∃ z i c,x=.str z/\y=.int i/\z.length<=sizeLine/\A_ z.cps.toList i=some c/\Q (.str ⟨#[c]⟩) H
def Al:Tw X (BB X.K):=by
 intro value slice pins s σ H x y v u Q I rx ry h hs;obtain⟨p,xs,i,z,rfl,rfl,hq,he,q⟩:=h;cases rx;obtain⟨t,rfl⟩:=ry;obtain⟨its,r,pl,hz⟩:=I.list hq;obtain⟨j,h1,h2,h3,h4,h5⟩:=VD he;obtain⟨w,ew,CZ⟩:=r.get h2;have hl:=r.length;have hn:=Kp;have fin:EP X pins σ Q w s:=⟨z,H,I,CZ,q⟩;by_cases h0:0<=i
 ·have hj:i.toNat=j:=by
   rw[seqIndex_of h0 h5]at h1;exact Yv h1
  exact item_listR pl.isList h0 (by omega) (by rw[hj];simpa using ew) fin hs
 ·have hj:(i + (its.toArray.size:Int)).toNat=j:=by
   rw[seqIndex_neg (by omega) h4]at h1;rw[Yo,<- hl];exact Yv h1
  exact subscriptTail_builtinR (x:=w) pl.isList.typeIs slot_list_getitem.lookup
   (wpAny_getItem_list_neg (Q:=λr s'=>r=w/\EP X pins σ Q r s') pl.isList (by omega) (by rw[Yo] <;> omega) (by omega) (by rw[hj];simpa using ew) ⟨Y,fin⟩) hs
def CI:Tw X (CF X.K):=by
 intro value slice pins s σ H x y v u Q I rx ry h hs;obtain⟨p,xs,i,z,rfl,rfl,hq,he,q⟩:=h;cases rx;obtain⟨t,rfl⟩:=ry;obtain⟨its,r,pl,hz⟩:=I.tuple hq;obtain⟨j,h1,h2,h3,h4,h5⟩:=VD he;obtain⟨w,ew,CZ⟩:=r.get h2;have hl:=r.length;have hn:=Kp;have fin:EP X pins σ Q w s:=⟨z,H,I,CZ,q⟩;exact subscriptTail_builtinR (x:=w) pl.typeIs slot_tuple_getitem.lookup
  (getItem_tuple (j:=j) (Q:=λr s'=>r=w/\EP X pins σ Q r s') pl (by omega) (by omega) (by rw[Yo,<- hl];exact h1) (by simpa using ew) ⟨Y,fin⟩) hs
def tN:Tw X qq:=by
 intro value slice pins s σ H x y v u Q I rx ry h hs;obtain⟨z,i,c,rfl,rfl,hz,he,q⟩:=h;obtain⟨t,rfl⟩:=rx;obtain⟨t',rfl⟩:=ry;obtain⟨j,h1,h2,h3,h4,h5⟩:=VD he;have hl:z.cps.toList.length=z.length:=by simp[Str.length]
 rw[hl]at h1 h4 h5;have hn:=Kp;exact tail_any (typeIs_str s z t) slot_str_getitem.lookup (getItem_str (c:=c) (by
  have e1:decide (i < -(2 ^ 63:Int))=false:=Jc (by omega);have e2:decide (i ≥ 2 ^ 63)=false:=Jc (by omega);rw[e1,e2,Bool.or_false]) (by rw[h1];simpa using h2) ⟨.str ⟨#[c]⟩,H,I.tok _,⟨Z⟩,q⟩) hs
def pH(its:LU)(n j:Nat)(u:Value):Obj.mapSeq (·.setIfInBounds j u) {cls:=.type "list",data:=.seq its.toArray n}={cls:=.type "list",data:=.seq (its.set j u).toArray n}:=by
 simp[Obj.mapSeq]
theorem Inv.lst{pins:PL}{σ:St}{H:Hp}{s:Shared}{p:Addr}{xs:LV}(I:Inv X pins σ H s)(h:H p=some (.lst xs)):
  ∃(its:LU) (n:Nat),AO xs its/\s.heap.get? p=some {cls:=.type "list",data:=.seq its.toArray n}/\xs.length<=sizeLine:=by
 obtain⟨z,its,n,r,e⟩:=I.hok p _ h;exact⟨its,n,r,e,z⟩
def Inv.lstUpd{pins:PL}{σ:St}{H:Hp}{s:Shared}{p:Addr}{xs ys:LV}{its its':LU}{n n':Nat}{f:Obj->Obj}(I:Inv X pins σ H s)(h:H p=some (.lst xs))
  (ho:s.heap.get? p=some {cls:=.type "list",data:=.seq its.toArray n}) (hf:f {cls:=.type "list",data:=.seq its.toArray n}={cls:=.type "list",data:=.seq its'.toArray n' }) (r:AO ys its') (hz:ys.length<=sizeLine) (t:Nat):
  Inv X pins σ (upd H p (.lst ys)) {s with heap:=s.heap.update p f,toks:=t}:=by
 have e:(s.heap.update p f).get? p=some {cls:=.type "list",data:=.seq its'.toArray n' }:=by
  rw[LY f ho (by rw[hf] <;> rfl),hf]
 refine I.write (x:=p) (e:=p) (by rw[h];trivial) (.inl rfl) (λb u hb q=>(Jz _ _ (Yj hb)).trans q) ⟨_,e⟩ ?_;exact⟨hz,its',n',r,e⟩
def sI:V->V->V->Hp->(Hp->Prop)->Prop:=λo i v H Q=>∃ p xs k j,o=.ref p/\i=.int k/\H p=some (.lst xs)/\Ex xs.length k=some j/\Q (upd H p (.lst (xs.set j v)))
def IW:eU X sI:=by
 intro pins s σ H o i v ov iv u Q I ro ri rv h;obtain⟨p,xs,k,j,rfl,rfl,hp,hj,q⟩:=h;cases ro;obtain⟨t,rfl⟩:=ri;obtain⟨its,n,r,ho,hz⟩:=I.lst hp;obtain⟨h1,h2,h3,h4⟩:=Oj hj;have hl:=r.length;have hn:=Kp;have I':Inv X pins σ (upd H p (.lst (xs.set j v))) {s with heap:=s.heap.update p (Obj.mapSeq (·.setIfInBounds j u)) } :=
  I.lstUpd hp ho (pH its n j u) (r.set rv j) (by rw[Im];exact hz) s.toks
 by_cases h0:0<=k
 ·have hk:k.toNat=j:=by
   rw[seqIndex_of h0 h4]at h1;exact Yv h1
  exact W.ki_setAt ho h0 (by omega) (by rw[Yo,<- hl];exact h4) (by rw[hk];exact⟨_,I',q⟩)
 ·have hk:(k + (its.toArray.size:Int)).toNat=j:=by
   rw[seqIndex_neg (by omega) h3]at h1;rw[Yo,<- hl];exact Yv h1
  exact W.ki_setBack ho (by omega) (by rw[Yo,<- hl];exact h3) (by omega) (by rw[hk];exact⟨_,I',q⟩)
def qC(lo hi:Option Int)(n:Nat):(sliceBounds lo hi none n).1=((HT.sIx n 0 lo:Nat):Int)/\(sliceBounds lo hi none n).2.1=((HT.sIx n n hi:Nat):Int)/\(sliceBounds lo hi none n).2.2=1:=by
 refine⟨?_,?_,Y⟩
 ·cases lo with
  | none=>simp[sliceBounds,HT.sIx]
  | some i =>
   simp only[sliceBounds,HT.sIx,Option.getD_none,show(1:Int) > 0 by decide,if_true];by_cases h:i<0
   ·simp only[h,if_true] <;> omega
   ·simp only[h,if_false] <;> omega
 ·cases hi with
  | none=>simp[sliceBounds,HT.sIx]
  | some i =>
   simp only[sliceBounds,HT.sIx,Option.getD_none,show(1:Int) > 0 by decide,if_true];by_cases h:i<0
   ·simp only[h,if_true] <;> omega
   ·simp only[h,if_false] <;> omega
def qP(its:LU)(lo hi:Option Int):slicePick its.toArray lo hi none=((its.drop (HT.sIx its.length 0 lo)).take (HT.sIx its.length its.length hi - HT.sIx its.length 0 lo)).toArray:=by
 obtain⟨h1,h2,h3⟩:=qC lo hi its.toArray.size;unfold slicePick;rw[h1,h2,h3];simp only[sliceRange_one,pick_run,Yo] <;> rfl
def WY(K:Fg):V->Option Int->Option Int->Hp->VK->Prop:=λx lo hi H Q=>∃ a xs,x=.ref a/\SqL K H a xs/\∀ p,H p=none->Q (.ref p) (upd H p (.lst (DM xs lo hi)))
def VM:P1 X (WY X.K):=by
 intro pins s σ H x v vl vu lo hi sl Q I rx hs pl pu h;obtain⟨a,xs,rfl,hx,q⟩:=h;cases rx;obtain⟨its,r,ht,hz⟩:=I.list hx;have hlen:=r.length;refine⟨"list",_,slot_list_getitem.lookup,ht.isList.typeIs,?_⟩;refine wpAny_getItem_list_slice ht.isList hs pl pu .none (by simp) ?_ (by rw[Yo] <;> omega);rw[qP,<- hlen];refine⟨.ref s.heap.objs.size,_,I.laid (t':=s.toks) (o:=.lst (DM xs lo hi)) (λb ob q=>Yc _ q) (Yd _) ?_,Y,q _ (I.hok.fresh (Yd _))⟩;exact⟨A6 (dh xs lo hi) hz,_,0,(r.drop (HT.sIx xs.length 0 lo)).take (HT.sIx xs.length xs.length hi - HT.sIx xs.length 0 lo),Yl _ rfl⟩
def IJ:V->Bool
 | .non=>true
 | .bl _=>true
 | .int _=>true
 | .str _=>true
 | _=>false
def JQ:V->V->Bool
 | .non,.non=>true
 | .bl a,.bl b=>a == b
 | .bl a,.int b=>(if a then 1 else 0) == b
 | .int a,.bl b=>a == (if b then 1 else 0)
 | .int a,.int b=>a == b
 | .str a,.str b=>a == b
 | _,_=>false
def tH{A:Around}{s:Shared}{y x:V}{u v:Value}(ry:AS y u)(rx:AS x v)(fy:IJ y=true)(fx:IJ x=true):SeqAt.EqAt A s u v (JQ y x):=by
 cases y with
 | non =>
  cases ry;cases x with
  | non=>cases rx;exact SeqAt.EqAt.same _
  | bl b=>cases rx;exact SeqAt.EqAt.none_bool b
  | int b=>obtain⟨t,rfl⟩:=rx;exact SeqAt.EqAt.none_int b t
  | str b=>obtain⟨t,rfl⟩:=rx;exact SeqAt.EqAt.none_str b t
  | _=>exact absurd (show false=true from fx) Yq
 | bl a =>
  cases ry;cases x with
  | non=>cases rx;exact SeqAt.EqAt.bool_none a
  | bl b=>cases rx;exact SeqAt.EqAt.bool_bool a b
  | int b=>obtain⟨t,rfl⟩:=rx;exact SeqAt.EqAt.bool_int a b t
  | str b=>obtain⟨t,rfl⟩:=rx;exact SeqAt.EqAt.bool_str a b t
  | _=>exact absurd (show false=true from fx) Yq
 | int a =>
  obtain⟨t',rfl⟩:=ry;cases x with
  | non=>cases rx;exact SeqAt.EqAt.int_none a t'
  | bl b=>cases rx;exact SeqAt.EqAt.int_bool a t' b
  | int b=>obtain⟨t,rfl⟩:=rx;exact SeqAt.EqAt.int_int a t' b t
  | str b=>obtain⟨t,rfl⟩:=rx;exact SeqAt.EqAt.int_str a t' b t
  | _=>exact absurd (show false=true from fx) Yq
 | str a =>
  obtain⟨t',rfl⟩:=ry;cases x with
  | non=>cases rx;exact SeqAt.EqAt.str_none a t'
  | bl b=>cases rx;exact SeqAt.EqAt.str_bool a t' b
  | int b=>obtain⟨t,rfl⟩:=rx;exact SeqAt.EqAt.str_int a t' b t
  | str b=>obtain⟨t,rfl⟩:=rx;exact SeqAt.EqAt.str_str a t' b t
  | _=>exact absurd (show false=true from fx) Yq
 | _=>exact absurd (show false=true from fy) Yq
def EF(x:V)(u:Value):Bool:=match u with
 | .none=>JQ .non x
 | .bool b=>JQ (.bl b) x
 | .int i _=>JQ (.int i) x
 | .str z _=>JQ (.str z) x
 | _=>false
def ZR{x y:V}{u:Value}(r:AS y u)(f:IJ y=true):EF x u=JQ y x:=by
 cases y with
 | non=>cases r;rfl
 | bl b=>cases r;rfl
 | int i=>obtain⟨t,rfl⟩:=r;rfl
 | str z=>obtain⟨t,rfl⟩:=r;rfl
 | _=>exact absurd (show false=true from f) Yq
theorem Of{x:V}:∀ {xs:LV}{us:LU},AO xs us->xs.all IJ=true->us.any (EF x)=xs.any λy=>JQ y x
 | _,_,.nil,_=>rfl
 | y :: xs,u :: us,.cons r t,f=>by
  rw[List.all_cons,Dl]at f;rw[Jy,Jy,ZR r f.1,Of t f.2]
theorem Ox{A:Around}{s:Shared}{x:V}{v:Value}(rx:AS x v)(fx:IJ x=true):∀ {xs:LV}{us:LU},AO xs us->xs.all IJ=true->∀ u∈us,SeqAt.EqAt A s u v (EF x u)
 | _,_,.nil,_=>λu hu=>by cases hu
 | y :: xs,u :: us,.cons r t,f=>λu' hu=>by
  rw[List.all_cons,Dl]at f
  rcases Yr.mp hu with rfl | hu
  ·rw[ZR r f.1];exact tH r rx f.1 fx
  ·exact Ox rx fx t f.2 u' hu
def Ec(x:V)(xs:LV):Bool:=xs.any λy=>JQ y x
def N1(K:Fg)(neg:Bool):R2:=λx y H Q=>∃ p xs,y=.ref p/\(SqL K H p xs\/AJ K H p xs)/\IJ x=true/\xs.all IJ=true/\Q (.bl (if neg then !Ec x xs else Ec x xs)) H
def O0:BO X (compareOp .In) (N1 X.K false):=by
 exfalso;obtain⟨p,xs,rfl,hq,fx,fs,q⟩:=h;cases ry
 rcases hq with hq | hq
 ·obtain⟨its,r,pl,hz⟩:=I.list hq;refine SeqAt.in_listAt (EF x) pl.isList (λw hw=>Ox rx fx r fs w (by simpa using hw)) ⟨.bl _,H,I,Y,?_⟩;rw[show its.toArray.any (EF x)=its.any (EF x) by simp,Of r fs];exact q
 ·obtain⟨its,r,pl,hz⟩:=I.tuple hq;refine SeqAt.in_tupleAt (EF x) pl (λw hw=>Ox rx fx r fs w (by simpa using hw)) ⟨.bl _,H,I,Y,?_⟩;rw[show its.toArray.any (EF x)=its.any (EF x) by simp,Of r fs];exact q
def qJ:BO X (compareOp .NotIn) (N1 X.K true):=by
 exfalso;obtain⟨p,xs,rfl,hq,fx,fs,q⟩:=h;cases ry
 rcases hq with hq | hq
 ·obtain⟨its,r,pl,hz⟩:=I.list hq;refine SeqAt.notIn_listAt (EF x) pl.isList (λw hw=>Ox rx fx r fs w (by simpa using hw)) ⟨.bl _,H,I,Y,?_⟩;rw[show its.toArray.any (EF x)=its.any (EF x) by simp,Of r fs];exact q
 ·obtain⟨its,r,pl,hz⟩:=I.tuple hq;refine SeqAt.notIn_tupleAt (EF x) pl (λw hw=>Ox rx fx r fs w (by simpa using hw)) ⟨.bl _,H,I,Y,?_⟩;rw[show its.toArray.any (EF x)=its.any (EF x) by simp,Of r fs];exact q
def B8:Eg X (.builtin "len") (λxs H Q=>∃ p ys,xs=[.ref p]/\(SqL X.K H p ys\/AJ X.K H p ys)/\Q (.int ys.length) H):=by
 intro pins s σ H xs us Q I r h;obtain⟨p,ys,rfl,hq,q⟩:=h;obtain⟨u,rfl,rx⟩:=FA r;cases rx;have hn:=Kp
 rcases hq with hq | hq
 ·obtain⟨its,r',pl,hz⟩:=I.list hq;have hlen:=r'.length;exact Calls.call_len_list pl.isList (by simp only[Yo] <;> omega) ⟨.int ys.length,H,I.tok _,⟨s.toks + 1,by rw[Yo,hlen]⟩,q⟩
 ·obtain⟨its,r',pl,hz⟩:=I.tuple hq;have hlen:=r'.length;exact len_tuple pl (by simp only[Yo] <;> omega) ⟨.int ys.length,H,I.tok _,⟨s.toks + 1,by rw[Yo,hlen]⟩,q⟩
def Ia:Eg X (.type "list") (λxs H Q=>∃ p ys,xs=[.ref p]/\(SqL X.K H p ys\/AJ X.K H p ys)/\∀ l,H l=none->Q (.ref l) (upd H l (.lst ys))):=by
 intro pins s σ H xs us Q I r h;obtain⟨p,ys,rfl,hq,q⟩:=h;obtain⟨u,rfl,rx⟩:=FA r;cases rx;have fin:∀(its:LU),AO ys its->ys.length<=sizeLine->∀(h':Heap) (c':Nat),(∀ b o',s.heap.get? b=some o'->h'.get? b=some o') ->
   h'.get? s.heap.objs.size=some {cls:=.type "list",dict:=none,data:=.seq its.toArray c',slots:=#[] }->EP X pins σ Q (.ref s.heap.objs.size) {s with heap:=h' }:=λits r' hz h' c' kp e =>
  ⟨.ref s.heap.objs.size,_,I.laid (t':=s.toks) kp (Yd _) (show A2 X.prog X.w _ h' _ (.lst ys)from⟨hz,its,c',r',e⟩),Y,q _ (I.hok.fresh (Yd _))⟩
 rcases hq with hq | hq
 ·obtain⟨its,r',pl,hz⟩:=I.list hq;have hlen:=r'.length;obtain⟨o,ho,hc,n,hd⟩:=pl.isList;exact call_list_seq p (.inl rfl) ho hc hd (λh' c' kp e=>fin its r' hz h' c' kp e) (by simp only[Yo] <;> omega)
 ·obtain⟨its,r',pl,hz⟩:=I.tuple hq;have hlen:=r'.length;obtain⟨o,ho,hc,n,hd⟩:=pl;exact call_list_seq p (.inr rfl) ho hc hd (λh' c' kp e=>fin its r' hz h' c' kp e) (by simp only[Yo] <;> omega)
def K7:Eg X (.type "tuple") (λxs H Q=>∃ p ys,xs=[.ref p]/\((SqL X.K H p ys/\∀ l,H l=none->Q (.ref l) (upd H l (.tup ys)))\/(AJ X.K H p ys/\Q (.ref p) H))):=by
 intro pins s σ H xs us Q I r h;obtain⟨p,ys,rfl,h⟩:=h;obtain⟨u,rfl,rx⟩:=FA r;cases rx
 rcases h with⟨hq,q⟩ | ⟨hq,q⟩
 ·obtain⟨its,r',pl,hz⟩:=I.list hq;have hlen:=r'.length;refine call_tuple_list pl.isList (λh' kp=>?_) (by simp only[Yo] <;> omega);have I1:Inv X pins σ H {s with heap:=h' }:=I.kept (t':=s.toks) kp;have I2:Inv X pins σ (upd H h'.objs.size (.tup ys)) {s with heap:=h'.push {cls:=.type "tuple",data:=.seq its.toArray} } :=
   I1.laid (t':=s.toks) (λb o e=>Yc _ e) (Yd _) (show A2 X.prog X.w _ _ _ (.tup ys)from⟨hz,its,r',IsTup.new _ _⟩)
  exact⟨.ref h'.objs.size,_,I2,Y,q _ (I1.hok.fresh (Yd _))⟩
 ·obtain⟨its,r',pl,hz⟩:=I.tuple hq;exact call_tuple_same pl ⟨.ref p,H,I,Y,q⟩
def T_(K:Fg)(T:String)(x:V)(H:Hp):Prop:=match x with
 | .str _=>T="str"
 | .int _=>T="int"
 | .ref p=>(T="list"/\∃ xs,SqL K H p xs)\/(T="tuple"/\∃ o,K.lookup p=some o/\o.cls=.type "tuple"/\o.dict=none) \/
   (T="dict"/\((∃ kvs,H p=some (.dK kvs))\/∃ kvs,H p=some (.dT kvs)))\/(T="set"/\∃ S n,H p=some (.set S n))
 | _=>False
def Z1{pins:PL}{σ:St}{H:Hp}{s:Shared}{T:String}{x:V}{v:Value}(I:Inv X pins σ H s)(r:AS x v)(ty:T_ X.K T x H):
  s.TypeIs v T/\∀ a,v=.ref a->∃ ob,s.heap.get? a=some ob/\ob.dict=none:=by
 cases x with
 | str z =>
  obtain⟨t,rfl⟩:=r;cases(show T="str" from ty);exact⟨typeIs_str s z t,λ_ e=>nomatch e⟩
 | int i =>
  obtain⟨t,rfl⟩:=r;cases(show T="int" from ty);exact⟨typeIs_int s i t,λ_ e=>nomatch e⟩
 | ref p =>
  cases r
  rcases ty with⟨rfl,xs,hq⟩ | ⟨rfl,o,hk,hc,hd⟩ | ⟨rfl,hk⟩ | ⟨rfl,S,n,hk⟩
  ·obtain⟨its,_,pl,_⟩:=I.list hq;refine⟨pl.isList.typeIs,λa e=>?_⟩;cases e;obtain⟨o,n,e,c,hd,_⟩:=pl;exact⟨o,e,hd⟩
  ·refine⟨⟨o,I.kIn p o hk,hc⟩,λa e=>?_⟩;cases e;exact⟨o,I.kIn _ o hk,hd⟩
  ·have z:∃ o,s.heap.get? p=some o/\o.ExactDict:=by
    rcases hk with⟨kvs,hk⟩ | ⟨kvs,hk⟩
    ·obtain⟨_,_,_,_,o,_,_,e,ex,_⟩:=I.hok p _ hk;exact⟨o,e,ex⟩
    ·obtain⟨_,_,_,_,o,_,_,e,ex,_⟩:=I.hok p _ hk;exact⟨o,e,ex⟩
   obtain⟨o,e,ex⟩:=z;refine⟨⟨o,e,ex.1⟩,λa e2=>?_⟩;cases e2;exact⟨o,e,ex.2.1⟩
  ·obtain⟨o,_,_,_,e,ex,_⟩:=I.hok p _ hk;refine⟨⟨o,e,ex.1⟩,λa e2=>?_⟩;cases e2;exact⟨o,e,ex.2.1⟩
 | _=>exact False.elim ty
def rj(K:Fg)(T:String)(r:V->LV->Hp->VK->Prop)(to:TE):TE:=λσ H Q=>to σ H λx H1=>T_ K T x H1/\r x [] H1 Q
def Xw(K:Fg)(T:String)(r:V->LV->Hp->VK->Prop)(to:TE)(t:TA):TE:=λσ H Q=>to σ H λx H1=>T_ K T x H1/\t σ H1 λxs H2=>r x xs H2 Q
variable {o e:Expr}{es:List Expr}{to:TE}{t:TA}{name:Str}{apos AU:Pos}{T id:String}{r:V->LV->Hp->VK->Prop}
def uI(pa:PlainAttrs T)(slot:Slot T name id)(hty:typeOf (.builtin id)=pure (.type "method_descriptor"))(hm:W7 X id r)(ho:PE X o to)
  (CN:attributeBase o name X.env (eval o X.env)=eval o X.env:=by rfl) (CM:(apos.endLine == AU.line)=true:=by rfl):PE X (.Call (.Attribute o name apos) [] [] AU) (rj X.K T r to):=by
 ac_rfl;refine wpAny_Call_method0_late CN CM (AK (ho pins s σ H _ I h) λv s1 ⟨x,H1,I1,r1,ty,q1⟩=>?_);obtain⟨h1,h2⟩:=Z1 I1 r1 ty;exact⟨T,id,pa,slot,hty,h1,h2,Calls.callWith_builtin rfl (PySem.evalArgs_none (hm pins s1 σ H1 x [] v [] Q I1 r1 .nil q1))⟩
def CH(pa:PlainAttrs T)(slot:Slot T name id)(hty:typeOf (.builtin id)=pure (.type "method_descriptor"))(hm:W7 X id r)(ho:PE X o to)(ha:PA X (e :: es) t)
  (CN:attributeBase o name X.env (eval o X.env)=eval o X.env:=by rfl)
  (hfew:((backTo AU (starEach (e :: es) X.env)).all (λx=>!x.1)&&(backToKw AU (keywordEach [] X.env)).all (λx=>x.1.isSome)
   && decide ((e :: es).length + ([]:List Keyword).length + (if([]:List Keyword).isEmpty then 0 else 1)<30))=true:=by rfl)
  (CM:(apos.endLine == AU.line)=true:=by rfl) (hs:starEach (e :: es) X.env=(false,eval e X.env):: starEach es X.env:=by rfl) (hplain:(backTo AU (starEach es X.env)).any (·.1)=false:=by rfl):
  PE X (.Call (.Attribute o name apos) (e :: es) [] AU) (Xw X.K T r to t):=by
 ac_rfl;refine wpAny_Call_method_late CN hfew CM rfl (AK (ho pins s σ H _ I h) λv s1 ⟨x,H1,I1,r1,ty,q1⟩=>?_);obtain⟨h1,h2⟩:=Z1 I1 r1 ty;refine⟨T,id,pa,slot,hty,h1,h2,?_⟩;have hA:=ha AU pins s1 σ H1 _ I1 q1;rw[hs]at hA ⊢;refine Calls.callWith_builtin (by show(false || (backTo AU (starEach es X.env)).any (·.1))=false;rw[hplain] <;> rfl) (Calls.evalArgs_plain ?_);exact AK hA λus s2 ⟨vs,H2,I2,r2,q2⟩=>hm pins s2 σ H2 x vs v us Q I2 r1 r2 q2
end
def Li(X:Cx)(id:String)(r:V->LV->Hp->VK->Prop):Prop :=
 ∀(pins:PL) (s:Shared) (σ:St) (H:Hp) (x:V) (xs:LV) (v:Value) (us:LU) (Q:VK),Inv X pins σ H s->AS x v->AO xs us->r x xs H Q ->
  wpAny (model X.prog X.w) X.A (call (.builtin id) (v :: us)) (EP X pins σ Q) X.xe s
def AO.one:∀ {x:V}{us:LU},AO [x] us->∃ u,us=[u]/\AS x u
 | _,_,.cons r .nil=>⟨Z,r⟩
def AO.zero:∀ {us:LU},AO [] us->us=[]
 | _,.nil=>rfl
theorem AO.dropLast{xs:LV}{us:LU}(h:AO xs us):AO xs.dropLast us.dropLast:=by
 induction h with
 | nil=>exact .nil
 | cons r t ih =>
  cases t with
  | nil=>exact .nil
  | cons q t'=>exact .cons r ih
theorem AO.eraseIdx:∀ {xs:LV}{us:LU}(i:Nat),AO xs us->AO (xs.eraseIdx i) (us.eraseIdx i)
 | _,_,_,.nil=>.nil
 | _,_,0,.cons _ t=>t
 | _,_,i + 1,.cons r t=>.cons r (AO.eraseIdx i t)
def nv{α:Type}(l:List α):l.eraseIdx (l.length - 1)=l.dropLast:=by
 induction l with
 | nil=>rfl
 | cons a r ih =>
  cases r with
  | nil=>rfl
  | cons b r =>
   have e:(a :: b :: r).length - 1=((b :: r).length - 1) + 1:=by
    have h1:(a :: b :: r).length=r.length + 2:=rfl;have h2:(b :: r).length=r.length + 1:=rfl;omega
   rw[e,TZ,ih]
   all_goals rfl
theorem Vv{α:Type}:∀(l:List α) (i:Nat),(l.eraseIdx i).length<=l.length
 | [],_=>Yd _
 | _ :: _,0=>Fs _
 | _ :: r,i + 1=>Nat.succ_le_succ (Vv r i)
section
variable {X:Cx}{pins:PL}{σ:St}{H:Hp}{s:Shared}{l b:Addr}{xs ys zs:LV}
def Inv.lset{its its':LU}{n:Nat}{f:Array Value->Array Value}{t':Nat}(I:Inv X pins σ H s)(hH:H l=some (.lst xs))
  (e:s.heap.get? l=some {cls:=.type "list",data:=.seq its.toArray n}) (hf:f its.toArray=its'.toArray) (hv:AO ys its') (hz:ys.length<=sizeLine):
  Inv X pins σ (upd H l (.lst ys)) {s with heap:=s.heap.update l (Obj.mapSeq f),toks:=t' }:=by
 have q:=PySem.IsL.update e f;rw[hf]at q;refine I.write (x:=l) (e:=l) (by rw[hH];exact trivial) (.inl rfl) (λb' u hb hu=>(Jz s.heap (Obj.mapSeq f) (Yj hb)).trans hu) ⟨_,q⟩ ?_;exact⟨hz,its',_,hv,q⟩
def Inv.lstM(I:Inv X pins σ H s)(hH:H l=some (.lst xs)):xs.length<=sizeLine/\∃(its:LU) (n:Nat),AO xs its/\xs.length=its.length/\s.heap.get? l=some {cls:=.type "list",data:=.seq its.toArray n}:=by
 obtain⟨z,its,n,r,e⟩:=I.hok l _ hH;exact⟨z,its,n,r,r.length,e⟩
end
section
variable {X:Cx}
def vd:V->LV->Hp->VK->Prop:=λx vs H Q=>∃ l xs y,x=.ref l/\vs=[y]/\H l=some (.lst xs)/\xs.length<sizeLine/\Q .non (upd H l (.lst (xs++[y])))
def Hc:Li X "list.append" vd:=by
 intro pins s σ H x vs v us Q I rx rv h;obtain⟨l,xs,y,rfl,rfl,hH,hz,q⟩:=h;cases rx;obtain⟨u,rfl,ru⟩:=rv.one;obtain⟨z,its,n,r,hl,e⟩:=I.lstM hH;refine call_meets F.slot_list_append ⟨_,e,Y⟩ F.entry_list_append (F.args_list_append_2 _ _) (PySem.list_append l its.toArray n u (by rw[Yo];omega)) ⟨e,?_⟩;refine⟨.non,_,I.lset (its':=its++[u]) hH e (by simp) (r.append (.cons ru .nil)) ?_,Y,q⟩;rw[Yx,List.length_singleton];omega
def qt:V->LV->Hp->VK->Prop:=λx vs H Q=>∃ l xs y,x=.ref l/\vs=[]/\H l=some (.lst xs)/\xs[xs.length - 1]?=some y/\Q y (upd H l (.lst xs.dropLast))
def tV:Li X "list.pop" qt:=by
 intro pins s σ H x vs v us Q I rx rv h;obtain⟨l,xs,y,rfl,rfl,hH,hy,q⟩:=h;cases rx;have hus:=rv.zero;subst hus;obtain⟨z,its,n,r,hl,e⟩:=I.lstM hH;obtain⟨u,hu,ru⟩:=r.get hy;have Ey:its.toArray[its.toArray.size - 1]?=some u:=by
  show its.toArray[its.length - 1]?=some u;rw[<- LW,<- hl];exact hu
 refine call_meets F.slot_list_pop ⟨_,e,Y⟩ F.entry_list_pop (F.args_list_pop_1 _) (MeetsSeq.list_pop_last l its.toArray n u Ey (by rw[Yo];omega)) ⟨e,?_⟩;refine⟨y,_,I.lset (its':=its.dropLast) hH e ?_ r.dropLast ?_,ru,q⟩
 ·show its.toArray.eraseIdxIfInBounds (its.toArray.size - 1)=its.dropLast.toArray;rw[Yo,Wy,nv]
 ·rw[Pp];omega
def uO:V->LV->Hp->VK->Prop:=λx vs H Q=>∃ l xs i k y,x=.ref l/\vs=[.int i]/\H l=some (.lst xs)/\-(2 ^ 63)<=i/\i<2 ^ 63/\seqIndex? i xs.length=some k/\xs[k]?=some y/\Q y (upd H l (.lst (xs.eraseIdx k)))
def Vi:Li X "list.pop" uO:=by
 intro pins s σ H x vs v us Q I rx rv h;obtain⟨l,xs,i,k,y,rfl,rfl,hH,h1,h2,hk,hy,q⟩:=h;cases rx;obtain⟨u,rfl,ru⟩:=rv.one;obtain⟨t,rfl⟩:=ru;obtain⟨z,its,n,r,hl,e⟩:=I.lstM hH;obtain⟨w,hw,CZ⟩:=r.get hy;refine call_meets F.slot_list_pop ⟨_,e,Y⟩ F.entry_list_pop (F.args_list_pop_2 _ _)
  (MeetsSeq.list_pop_at l its.toArray n i t k w (fitsIndex_both h1 h2) (by rw[Yo,<- hl];exact hk) (by rw[<- LW];exact hw) (by rw[Yo];omega)) ⟨e,?_⟩
 refine⟨y,_,I.lset (its':=its.eraseIdx k) hH e ?_ (r.eraseIdx k) ?_,CZ,q⟩
 ·show its.toArray.eraseIdxIfInBounds k=(its.eraseIdx k).toArray;rw[Wy]
 ·have:=Vv xs k;omega
end
section
variable {prog:Program}{w:World}{A:Around}{E:EV}{s:Shared}
end
section
variable {X:Cx}
end
section
variable {κ:Type}[DecidableEq κ]
def BS(kvs:List (κ×V))(k:κ):OV:=(kvs.find? λkv=>decide (kv.1=k)).map (·.2)
def BN(kvs:List (κ×V))(k:κ)(v:V):List (κ×V):=
 if(kvs.any λkv=>decide (kv.1=k))=true then kvs.map (λkv=>if kv.1=k then(kv.1,v)else kv)else kvs++[(k,v)]
def ND{p:κ×V}{r:List (κ×V)}{k:κ}(e:p.1=k):BS (p :: r) k=some p.2:=by simp[BS,LR,e]
def NC{p:κ×V}{r:List (κ×V)}{k:κ}(e:¬ p.1=k):BS (p :: r) k=BS r k:=by simp[BS,LR,e]
theorem Ou(k:κ):∀ kvs:List (κ×V),(kvs.any λkv=>decide (kv.1=k))=(BS kvs k).isSome
 | []=>rfl
 | p :: r=>by
  rw[Jy];by_cases e:p.1=k
  ·simp only[ND e,Jb e,Bool.true_or,Option.isSome_some]
  ·rw[NC e,Jc e,Bool.false_or];exact Ou k r
def WD(kvs:List (κ×V))(k:κ)(v:V):(BN kvs k v).length<=kvs.length + 1:=by
 unfold BN;split
 ·rw[Ya];omega
 ·rw[Yx,Bj,Pq];omega
def NA{kvs:List (κ×V)}{k:κ}(v:V)(h:BS kvs k=none):BN kvs k v=kvs++[(k,v)]:=by
 unfold BN;rw[Ou,h];exact if_neg (by decide)
def D9.isSome_eq{o:OV}{u:OU}(r:D9 o u):o.isSome=u.isSome:=by
 cases o with
 | none=>cases u with
  | none=>rfl
  | some _=>exact(show False from r).elim
 | some _=>cases u with
  | none=>exact(show False from r).elim
  | some _=>rfl
def KV.val{kvs:List (κ×V)}{vs:List (κ×Value)}(r:KV kvs vs)(k:κ):D9 (BS kvs k) (valueAt vs k):=by
 unfold KV at r
 induction r with
 | nil=>exact True.intro
 | @cons p q ps qs h t ih =>
  obtain⟨h1,h2⟩:=h;by_cases e:p.1=k
  ·have e':q.1=k:=h1.symm.trans e;have b:valueAt (q :: qs) k=some q.2:=by simp[valueAt,LR,e']
   rw[ND e,b];exact h2
  ·have e':¬ q.1=k:=λz=>e (h1.trans z);have b:valueAt (q :: qs) k=valueAt qs k:=by simp[valueAt,LR,e']
   rw[NC e,b];exact ih
theorem KV.any{kvs:List (κ×V)}{vs:List (κ×Value)}(r:KV kvs vs)(k:κ):(kvs.any λkv=>decide (kv.1=k))=vs.any λkv=>decide (kv.1=k):=by
 unfold KV at r
 induction r with
 | nil=>rfl
 | cons h t ih=>rw[Jy,Jy,ih,h.1]
def KV.repl{kvs:List (κ×V)}{vs:List (κ×Value)}(r:KV kvs vs)(k:κ){y:V}{u:Value}(ry:AS y u):
  KV (kvs.map λkv=>if kv.1=k then(kv.1,y)else kv) (vs.map λkv=>if kv.1=k then(kv.1,u)else kv):=by
 unfold KV at r ⊢
 induction r with
 | nil=>exact .nil
 | @cons p q ps qs h t ih =>
  rw[Ym,Ym];refine .cons ?_ ih;obtain⟨h1,h2⟩:=h;by_cases e:p.1=k
  ·rw[if_pos e,if_pos (h1.symm.trans e)];exact⟨h1,ry⟩
  ·rw[if_neg e,if_neg (λz=>e (h1.trans z))];exact⟨h1,h2⟩
def KV.put{kvs:List (κ×V)}{vs:List (κ×Value)}(r:KV kvs vs)(k:κ){y:V}{u:Value}(ry:AS y u):KV (BN kvs k y) (stored vs k u):=by
 unfold BN stored;rw[r.any k];by_cases e:(vs.any λkv=>decide (kv.1=k))=true
 ·rw[if_pos e,if_pos e];exact r.repl k ry
 ·rw[if_neg e,if_neg e];exact Gr r ⟨Y,ry⟩
theorem KV.length{kvs:List (κ×V)}{vs:List (κ×Value)}(r:KV kvs vs):kvs.length=vs.length:=Ba r
end
def Mo{P:Program}{w:World}{k:Key}{u:Value}(r:AS (kV k) u):(CT P w).is k u=true:=by
 cases k with
 | inl i=>obtain⟨t,e⟩:=(show ∃ t,u=Value.int i t from r);subst e;exact ph P w i t
 | inr x=>obtain⟨t,e⟩:=(show ∃ t,u=Value.str x t from r);subst e;exact p6 P w x t
theorem cR{P:Program}{w:World}:∀ {ks:List Key}{us:LU},AO (ks.map kV) us->ItemsAre (CT P w) ks us
 | [],_,r=>by rw[Fw]at r;cases r;exact .nil
 | k :: ks,_,r=>by
  rw[Ym]at r;cases r with
  | cons h t=>exact .cons (Mo h) (cR t)
abbrev KT(H:Hp):List (List Key×V)->List (List Key×Addr×Value)->Prop:=Paired λp q=>p.1=q.1/\H q.2.1=some (.tup (p.1.map kV))/\AS p.2 q.2.2
def KT.val{H:Hp}{kvs:List (List Key×V)}{xs:List (List Key×Addr×Value)}(r:KT H kvs xs)(k:List Key):D9 (BS kvs k) ((atKey xs k).map (·.2)):=by
 induction r with
 | nil=>exact True.intro
 | @cons p q ps qs h t ih =>
  obtain⟨h1,_,h2⟩:=h;by_cases e:p.1=k
  ·have e':q.1=k:=h1.symm.trans e;have b:atKey (q :: qs) k=some q.2:=by simp[atKey,LR,e']
   rw[ND e,b];exact h2
  ·have e':¬ q.1=k:=λz=>e (h1.trans z);have b:atKey (q :: qs) k=atKey qs k:=by simp[atKey,LR,e']
   rw[NC e,b];exact ih
def KT.repl{H:Hp}{kvs:List (List Key×V)}{xs:List (List Key×Addr×Value)}(r:KT H kvs xs)(k:List Key){y:V}{u:Value}(ry:AS y u):
  KT H (kvs.map λkv=>if kv.1=k then(kv.1,y)else kv) (xs.map (putAt k u)):=by
 induction r with
 | nil=>exact .nil
 | @cons p q ps qs h t ih =>
  rw[Ym,Ym];refine .cons ?_ ih;obtain⟨h1,h2,h3⟩:=h;unfold putAt;by_cases e:p.1=k
  ·rw[if_pos e,if_pos (h1.symm.trans e)];exact⟨h1,h2,ry⟩
  ·rw[if_neg e,if_neg (λz=>e (h1.trans z))];exact⟨h1,h2,h3⟩
def KT.put{H:Hp}{kvs:List (List Key×V)}{xs:List (List Key×Addr×Value)}(r:KT H kvs xs)(k:List Key){b:Addr}{y:V}{u:Value}(hb:H b=some (.tup (k.map kV)))(ry:AS y u):
  KT H (BN kvs k y) (storedH xs k b u):=by
 have e:(kvs.any λkv=>decide (kv.1=k))=(atKey xs k).isSome:=by
  rw[Ou,(r.val k).isSome_eq,Option.isSome_map]
 unfold BN storedH;rw[e];by_cases q:(atKey xs k).isSome=true
 ·rw[if_pos q,if_pos q];exact r.repl k ry
 ·rw[if_neg q,if_neg q];exact Gr r ⟨Y,hb,ry⟩
def KT.keeps{H H':Hp}{kvs:List (List Key×V)}{xs:List (List Key×Addr×Value)}(r:KT H kvs xs)(ht:∀ b ys,H b=some (.tup ys)->H' b=some (.tup ys)):KT H' kvs xs :=
 Paired.mapP r λ_ _ z=>⟨z.1,ht _ _ z.2.1,z.2.2⟩
section
variable {P:Program}{w:World}{H:Hp}{h:Heap}{a:Addr}
def gY{u:HO}(ok:BE P w H h)(e:Rd H a u):A2 P w H h a u:=e.ok ok
def Kk{kvs:KL}(ok:BE P w H h)(e:Rd H a (.dK kvs)):kvs.length<=sizeLine/\(a == sysModules)=false/\∃ vs,KV kvs vs/\h.DictOf (CT P w) a vs :=
 show A2 P w H h a (.dK kvs)from gY ok e
def gS{kvs:KL}(ok:BE P w H h)(e:H a=some (.dK kvs)):kvs.length<=sizeLine/\(a == sysModules)=false/\∃ vs,KV kvs vs/\h.DictOf (CT P w) a vs:=Kk ok (.inl e)
def OZ{ks:List Key}(ok:BE P w H h)(e:H a=some (.tup (ks.map kV))):(tupleKind (CT P w)).is h ks a:=by
 obtain⟨_,its,r,o,h1,h2,n,h3⟩:=(show A2 P w H h a (.tup (ks.map kV))from ok a _ e);exact⟨o,its.toArray,n,h1,h2,h3,by simpa using cR r⟩
def Ml{kvs:List (List Key×V)}(ok:BE P w H h)(e:Rd H a (.dT kvs)):kvs.length<=sizeLine/\(a == sysModules)=false /\
  ∃ xs,KT H kvs xs/\h.DictOfH (tupleKind (CT P w)) a xs:=by
 obtain⟨z,y,xs,r,o,es,ep,h1,h2,h3,h4,h5⟩:=(show A2 P w H h a (.dT kvs)from gY ok e);refine⟨z,y,xs,r,o,es,ep,h1,h2,h3,h4,λx hx=>?_,h5⟩;have all:∀ {l:List (List Key×V)} {m:List (List Key×Addr×Value)},KT H l m->∀ x∈m,(tupleKind (CT P w)).is h x.1 x.2.1:=by
  intro l m q
  induction q with
  | nil=>intro x hx;exact nomatch hx
  | @cons p q ps qs hq t ih =>
   intro x hx
   rcases Yr.mp hx with e | hx
   ·subst e;exact OZ ok (by rw[<- hq.1];exact hq.2.1)
   ·exact ih x hx
 exact all r x hx
def rz{kvs:List (List Key×V)}(ok:BE P w H h)(e:H a=some (.dT kvs)):kvs.length<=sizeLine/\(a == sysModules)=false /\
  ∃ xs,KT H kvs xs/\h.DictOfH (tupleKind (CT P w)) a xs:=Ml ok (.inl e)
end
def BL(H:Hp)(a:Addr)(y:V)(r:OV):Prop :=
 (∃ kvs k,Rd H a (.dK kvs)/\y=kV k/\r=BS kvs k)\/∃ kvs k b,Rd H a (.dT kvs)/\y=.ref b/\H b=some (.tup (k.map kV))/\r=BS kvs k
def EH(H:Hp)(a:Addr)(y v:V)(H':Hp):Prop :=
 (∃ kvs k,H a=some (.dK kvs)/\y=kV k/\kvs.length<sizeLine/\H'=upd H a (.dK (BN kvs k v))) \/
 ∃ kvs k b,H a=some (.dT kvs)/\y=.ref b/\H b=some (.tup (k.map kV))/\kvs.length<sizeLine/\H'=upd H a (.dT (BN kvs k v))
def BL.k{H:Hp}{a:Addr}{kvs:KL}{k:Key}(e:H a=some (.dK kvs)):BL H a (kV k) (BS kvs k):=.inl ⟨kvs,k,.inl e,Y,Y⟩
def BL.t{H:Hp}{a b:Addr}{kvs:List (List Key×V)}{k:List Key}(e:H a=some (.dT kvs))(eb:H b=some (.tup (k.map kV))):BL H a (.ref b) (BS kvs k):=.inr ⟨kvs,k,b,.inl e,Y,eb,Y⟩
def EH.k{H:Hp}{a:Addr}{kvs:KL}{k:Key}{v:V}(e:H a=some (.dK kvs))(hl:kvs.length<sizeLine):EH H a (kV k) v (upd H a (.dK (BN kvs k v))):=.inl ⟨kvs,k,e,Y,hl,Y⟩
def EH.t{H:Hp}{a b:Addr}{kvs:List (List Key×V)}{k:List Key}{v:V}(e:H a=some (.dT kvs))(eb:H b=some (.tup (k.map kV)))(hl:kvs.length<sizeLine):
  EH H a (.ref b) v (upd H a (.dT (BN kvs k v))):=.inr ⟨kvs,k,b,e,Y,eb,hl,Y⟩
section
variable {X:Cx}{pins:PL}{σ:St}{H:Hp}{s:Shared}{a:Addr}{y v:V}{u r:Value}{o:OV}{A:Around}{E:EV}
def Inv.big(I:Inv X pins σ H s):sysModules<s.heap.objs.size:=by
 have h:mainGlobals<s.heap.objs.size:=(I.mod.glob.keeps I.bk).lt;exact Nat.lt_trans (by decide) h
def mY{Q:EV}(hu:A.units + 1<cLine)(I:Inv X pins σ H s)(g:BL H a y (some v))(ry:AS y u)(h:∀ w' s',Inv X pins σ H s'->AS v w'->Q w' s'):
  wpAny (model X.prog X.w) A (getItem (.ref a) u) Q E s:=by
 rcases g with⟨kvs,k,e,ey,l⟩ | ⟨kvs,k,b,e,ey,eb,l⟩
 ·subst ey;obtain⟨z,hd,vs,rel,dd⟩:=Kk I.hok e;obtain⟨w',hw,CZ⟩:=D9.some_of (v:=v) (o:=valueAt vs k) (by rw[l];exact rel.val k);exact wpAny_getItem_of (Mo ry) dd.mapOf hw (h w' _ (I.tok _) CZ)
 ·subst ey;cases(show u=Value.ref b from ry);obtain⟨z,hd,xs,rel,dd⟩:=Ml I.hok e;obtain⟨w',hw,CZ⟩:=D9.some_of (v:=v) (o:=(atKey xs k).map (·.2)) (by rw[l];exact rel.val k);obtain⟨p,hp,BJ⟩:=He.mp hw;refine wpAny_getItem_heap (tupleKind_room_in1 hu) (OZ I.hok eb) dd hp ?_;rw[BJ];exact h w' _ (I.tok _) CZ
def rN{Q:EV}(hu:A.units + 1<cLine)(I:Inv X pins σ H s)(g:BL H a y o)(ry:AS y u)(h:∀ s',Inv X pins σ H s'->Q (.bool o.isSome) s'):
  wpAny (model X.prog X.w) A (compareOp .In u (.ref a)) Q E s:=by
 rcases g with⟨kvs,k,e,ey,l⟩ | ⟨kvs,k,b,e,ey,eb,l⟩
 ·subst ey;obtain⟨z,hd,vs,rel,dd⟩:=Kk I.hok e;refine wpAny_in_of (Mo ry) hd dd.mapOf ?_;rw[<- (rel.val k).isSome_eq,<- l];exact h _ (I.tok _)
 ·subst ey;cases(show u=Value.ref b from ry);obtain⟨z,hd,xs,rel,dd⟩:=Ml I.hok e;refine wpAny_in_heap (tupleKind_room_in1 hu) (OZ I.hok eb) hd dd ?_;have q:=(rel.val k).isSome_eq;rw[Option.isSome_map]at q;rw[<- q,<- l];exact h _ (I.tok _)
def vN{Q:EV}(hu:A.units + 1<cLine)(I:Inv X pins σ H s)(g:BL H a y o)(ry:AS y u)(h:∀ s',Inv X pins σ H s'->Q (.bool (!o.isSome)) s'):
  wpAny (model X.prog X.w) A (compareOp .NotIn u (.ref a)) Q E s:=by
 rcases g with⟨kvs,k,e,ey,l⟩ | ⟨kvs,k,b,e,ey,eb,l⟩
 ·subst ey;obtain⟨z,hd,vs,rel,dd⟩:=Kk I.hok e;refine wpAny_notIn_of (Mo ry) hd dd.mapOf ?_;rw[<- (rel.val k).isSome_eq,<- l];exact h _ (I.tok _)
 ·subst ey;cases(show u=Value.ref b from ry);obtain⟨z,hd,xs,rel,dd⟩:=Ml I.hok e;refine wpAny_notIn_heap (tupleKind_room_in1 hu) (OZ I.hok eb) hd dd ?_;have q:=(rel.val k).isSome_eq;rw[Option.isSome_map]at q;rw[<- q,<- l];exact h _ (I.tok _)
def VG{h':Heap}{t':Nat}{ob:HO}(I:Inv X pins σ H s)(mu:P5 (H a))(hs:Heap.SameBut a s.heap h')(he:∃ q,h'.get? a=some q)(new:A2 X.prog X.w (upd H a ob) h' a ob):
  Inv X pins σ (upd H a ob) {s with heap:=h',toks:=t' } :=
 I.write (x:=a) (e:=a) mu (.inl rfl) (λb q hb z=>(hs.2 b hb).trans z) he new
def Zu{P:Program}{w:World}{H':Hp}{h':Heap}{kvs:KL}{vs:List (Key×Value)}(z:kvs.length<=sizeLine)(hd:(a == sysModules)=false)(rel:KV kvs vs)(dd:h'.DictOf (CT P w) a vs):
  A2 P w H' h' a (.dK kvs):=⟨z,hd,vs,rel,dd⟩
def mZ{H':Hp}{Q:Unit->Shared->Prop}(hu:A.units + 1<cLine)(I:Inv X pins σ H s)(g:EH H a y v H')(ry:AS y u)(rv:AS v r)(h:∀ s',Inv X pins σ H' s'->Q () s'):
  wpAny (model X.prog X.w) A (setItem (.ref a) u r) Q E s:=by
 rcases g with⟨kvs,k,e,ey,l,eH⟩ | ⟨kvs,k,b,e,ey,eb,l,eH⟩
 ·subst ey eH;obtain⟨z,hd,vs,rel,dd⟩:=gS I.hok e;have hz:vs.length<=sizeLine:=by rw[<- rel.length];exact z
  have hl:(BN kvs k v).length<=sizeLine:=by have:=WD kvs k v;omega
  refine wpAny_setItem_pairs (hsz:=hz) (Mo ry) dd λh' JR hs=>h _ ?_;have he:∃ q,h'.get? a=some q:=let⟨q,_,_,hq,_⟩:=JR;⟨q,hq⟩;exact VG I (by rw[e];exact True.intro) hs he (Zu hl hd (rel.put k rv) JR)
 ·subst ey eH;cases(show u=Value.ref b from ry);obtain⟨z,hd,xs,rel,dd⟩:=rz I.hok e;have hz:xs.length<=sizeLine:=by rw[<- Ba rel];exact z
  have hl:(BN kvs k v).length<=sizeLine:=by have:=WD kvs k v;omega
  refine wpAny_setItem_heap (hsz:=hz) (tupleKind_room_in1 hu) (OZ I.hok eb) dd λh' JR hs=>h _ ?_;obtain⟨q,es,ep,hq,h2,h3,h4,_,h5⟩:=JR;refine VG I (by rw[e];exact True.intro) hs ⟨q,hq⟩ ⟨hl,hd,_,(rel.put k eb rv).keeps λc ys ec=>?_,q,es,ep,hq,h2,h3,h4,h5⟩;rw[AD (Ws ec e (λz=>nomatch z))];exact ec
end
section
variable {X:Cx}{pins:PL}{σ:St}{H:Hp}{s:Shared}{a:Addr}{kvs:KL}{k:Key}{u:Value}{A:Around}{E:EV}
end
def eT(i:Expr):Prop:=∀ ov iv,subscripted i false ov iv=operate [ov,iv] (getItem ov iv)
def j9{prog:Program}{w:World}{A:Around}{E:EV}{s:Shared}{env:Env}{value slice:Expr}{pos:Pos}{T id:String}{Q:EV}
  (hl:typeLookup (.type T) "__getitem__"=pure (some (.builtin id))) (hs:eT slice)
  (h:wpAny (model prog w) A (eval value env) (λo s₁=>wpAny (model prog w) A (eval slice env) (λi s₂=>s₂.TypeIs o T/\wpAny (model prog w) A (getItem o i) Q E s₂) E s₁) E s):
  wpAny (model prog w) A (eval (.Subscript value slice pos) env) Q E s:=by
 refine Subscript_ (Jf h (λo s₁ h₁=>Jf h₁ (λi s₂ h₂=>?_) λ_ _ x=>x) λ_ _ x=>x);obtain⟨hT,h₂⟩:=h₂;unfold subscriptTail;refine Ja ?_;rw[getitemInPython_of_ne hT.not_modules];refine Ja (wpAny_specialOf hT hl ?_);have fin:wpAny (model prog w) A (subscripted slice false o i) (λr s₃=>wpAny (model prog w) A (letTemporaryGo value o r>>=λ_=>pure r) Q E s₃) E s₂:=by
  rw[hs o i];exact wpAny_operating (Jf h₂ (λr s₃ h₃=>Ja (wpAny_letTemporaryGo (Jd h₃))) λ_ _ x=>x)
 first
  | exact Jd (Ja fin)
  | exact Ja (Jd (Ja fin))
  | exact Ja fin
def pW{X:Cx}{pins:PL}{σ:St}{H:Hp}{s:Shared}{a:Addr}{y:V}{o:OV}(I:Inv X pins σ H s)(g:BL H a y o):s.TypeIs (.ref a) "dict":=by
 rcases g with⟨kvs,k,e,_,_⟩ | ⟨kvs,k,b,e,_,_,_⟩
 ·obtain⟨_,_,vs,_,dd⟩:=Kk I.hok e;exact dd.typeIs
 ·obtain⟨_,_,xs,_,dd⟩:=Ml I.hok e;exact dd.typeIs
def sR(td ty:TE):TE:=λσ H Q=>td σ H λx H1=>ty σ H1 λy H2=>∃ a v,x=.ref a/\BL H2 a y (some v)/\Q v H2
def rm(ty td:TE):TE:=λσ H Q=>ty σ H λy H1=>td σ H1 λx H2=>∃ a o,x=.ref a/\BL H2 a y o/\Q (.bl o.isSome) H2
def j_(ty td:TE):TE:=λσ H Q=>ty σ H λy H1=>td σ H1 λx H2=>∃ a o,x=.ref a/\BL H2 a y o/\Q (.bl (!o.isSome)) H2
def sM(td ty tv:TE):TS:=λD σ H=>tv σ H λv H1=>td σ H1 λx H2=>ty σ H2 λy H3=>∃ a H4,x=.ref a/\EH H3 a y v H4/\D.nx σ H4
section
variable {X:Cx}{o i e value:Expr}{pos pos' ES:Pos}{td ty tv:TE}
def Gn(hu:X.A.units + 1<cLine)(ho:PE X o td)(hi:PE X i ty)(hs:eT i):PE X (.Subscript o i pos) (sR td ty):=by
 ac_rfl;refine j9 PySem.F.slot_dict_getitem.lookup hs (AK (ho pins s σ H _ I h) λu s1 ⟨x,H1,I1,rx,q1⟩=>AK (hi pins s1 σ H1 _ I1 q1) λiv s2 ⟨y,H2,I2,ry,a,v,ex,g,q2⟩=>?_);subst ex;obtain rfl:u=Value.ref a:=rx;exact⟨pW I2 g,mY hu I2 g ry λw' s3 I3 CZ=>⟨v,H2,I3,CZ,q2⟩⟩
def Mv(hu:X.A.units + 1<cLine)(hi:PE X i ty)(ho:PE X o td):PC X .In i o (rm ty td):=by
 ac_rfl;refine AK (hi pins s σ H _ I h) λiv s1 ⟨y,H1,I1,ry,q1⟩=>AK (ho pins s1 σ H1 _ I1 q1) λu s2 ⟨x,H2,I2,rx,a,ov,ex,g,q2⟩=>?_;subst ex;obtain rfl:u=Value.ref a:=rx;exact rN hu I2 g ry λs3 I3=>⟨.bl ov.isSome,H2,I3,Y,q2⟩
def cX(hu:X.A.units + 1<cLine)(hi:PE X i ty)(ho:PE X o td):PC X .NotIn i o (j_ ty td):=by
 ac_rfl;refine AK (hi pins s σ H _ I h) λiv s1 ⟨y,H1,I1,ry,q1⟩=>AK (ho pins s1 σ H1 _ I1 q1) λu s2 ⟨x,H2,I2,rx,a,ov,ex,g,q2⟩=>?_;subst ex;obtain rfl:u=Value.ref a:=rx;exact vN hu I2 g ry λs3 I3=>⟨.bl (!ov.isSome),H2,I3,Y,q2⟩
def Jn(hu:X.A.units + 1<cLine)(ho:PE X o td)(hi:PE X i ty)(hv:PE X value tv)(hs:swapsWith value (some (.Subscript o i pos')) pos.line X.env=pure false):
  PS X (.Assign [.Subscript o i pos'] value pos) (sM td ty tv):=by
 intro pins s σ H D I h;refine wpAny_Assign_Subscript (AK (hv pins s σ H _ I h) λr s1 ⟨v,H1,I1,rv,q1⟩=>AK (ho pins s1 σ H1 _ I1 q1) λu s2 ⟨x,H2,I2,rx,q2⟩=>AK (hi pins s2 σ H2 _ I2 q2) λiv s3 ⟨y,H3,I3,ry,a,H4,ex,g,q3⟩=>?_) hs;subst ex;obtain rfl:u=Value.ref a:=rx;exact mZ hu I3 g ry rv λs4 I4=>⟨σ,H4,I4,q3⟩
end
def ba{P:Program}{w:World}{H:Hp}(h:Heap)(hb:sysModules<h.objs.size):A2 P w H (h.push {cls:=.type "dict",data:=.dict #[] }) h.objs.size (.dK []):=
 ⟨A7 _,LM.mpr (Yj (Ys hb)),[],.nil,Heap.DictOf.new h⟩
def kH{P:Program}{w:World}{H:Hp}(h:Heap)(hb:sysModules<h.objs.size):A2 P w H (h.push {cls:=.type "dict",data:=.dict #[] }) h.objs.size (.dT []):=
 ⟨A7 _,LM.mpr (Yj (Ys hb)),[],.nil,_,#[],0,Yl _ rfl,⟨Y,Y,Y⟩,Y,Y,Np⟩
def ud:TE:=λ_ H Q=>∀ p,H p=none->Q (.ref p) (upd H p (.dK []))
def ue:TE:=λ_ H Q=>∀ p,H p=none->Q (.ref p) (upd H p (.dT []))
section
variable {X:Cx}{pos:Pos}
def M9:PE X (.Dict [] [] pos) ud:=λpins s σ H Q I h =>
 wpAny_Dict_empty ⟨.ref s.heap.objs.size,_,I.laid (a:=s.heap.objs.size) (o:=.dK []) (t':=s.toks) (λ_ _ q=>Yc _ q) (Yd _) (ba s.heap I.big),Y,h _ (I.hok.fresh (Yd _))⟩
def k_:PE X (.Dict [] [] pos) ue:=λpins s σ H Q I h =>
 wpAny_Dict_empty ⟨.ref s.heap.objs.size,_,I.laid (a:=s.heap.objs.size) (o:=.dT []) (t':=s.toks) (λ_ _ q=>Yc _ q) (Yd _) (kH s.heap I.big),Y,h _ (I.hok.fresh (Yd _))⟩
end
def U_:List (TE×TE)->St->Hp->(List (V×V)->Hp->Prop)->Prop
 | [],_,H,Q=>Q [] H
 | (tk,tv):: r,σ,H,Q=>tk σ H λx H1=>tv σ H1 λy H2=>U_ r σ H2 λps H3=>Q ((x,y):: ps) H3
abbrev VV:List (V×V)->List (Value×Value)->Prop:=Paired λp q=>AS p.1 q.1/\AS p.2 q.2
def Tr(X:Cx)(pos:Pos)(keys:List (Option Expr))(values:List Expr)(trs:List (TE×TE)):Prop :=
 ∀(pins:PL) (s:Shared) (σ:St) (H:Hp) (Q:List (V×V)->Hp->Prop),Inv X pins σ H s->U_ trs σ H Q ->
  wpAny (model X.prog X.w) X.A (evalPairs (pairTrees keys values X.env pos)) (λvs s'=>∃ ps H',Inv X pins σ H' s'/\VV ps vs/\Q ps H') X.xe s
def vb{X:Cx}{pos:Pos}:Tr X pos [] [] []:=λpins s σ H Q I h=>pairTrees_nil_walk ⟨[],H,I,.nil,h⟩
def lE{X:Cx}{pos:Pos}{k v:Expr}{ks:List (Option Expr)}{vs:List Expr}{tk tv:TE}{trs:List (TE×TE)}(hk:PE X k tk)(hv:PE X v tv)(hr:Tr X pos ks vs trs):
  Tr X pos (some k :: ks) (v :: vs) ((tk,tv):: trs):=λpins s σ H Q I h =>
 pairTrees_cons_walk (AK (hk pins s σ H _ I h) λu s1 ⟨x,H1,I1,rx,q1⟩=>AK (hv pins s1 σ H1 _ I1 q1) λw2 s2 ⟨y,H2,I2,ry,q2⟩ =>
  AK (hr pins s2 σ H2 _ I2 q2) λws s3 ⟨ps,H3,I3,rel,q3⟩=>⟨(x,y):: ps,H3,I3,.cons ⟨rx,ry⟩ rel,q3⟩)
def Oc(kvs more:KL):KL:=more.foldl (λacc kv=>BN acc kv.1 kv.2) kvs
def KV.merge:∀ {more:KL}{rs:List (Key×Value)}{kvs:KL}{vs:List (Key×Value)},KV more rs->KV kvs vs->KV (Oc kvs more) (merged vs rs):=by
 intro more rs kvs vs r;unfold KV at r
 induction r generalizing kvs vs with
 | nil=>intro q;exact q
 | @cons p q ps qs h t ih =>
  intro r0;have e:KV (BN kvs p.1 p.2) (stored vs q.1 q.2):=by
   have:=r0.put p.1 h.2;rw[<- h.1];exact this
  exact ih e
theorem eM:∀(more kvs:KL),(Oc kvs more).length<=kvs.length + more.length
 | [],kvs=>by show kvs.length<=kvs.length + 0;omega
 | p :: r,kvs=>by
  have h1:=eM r (BN kvs p.1 p.2);have h2:=WD kvs p.1 p.2;show(Oc (BN kvs p.1 p.2) r).length<=_;rw[Bj];omega
theorem dI{P:Program}{w:World}:∀ {kvs:KL}{ws:List (Value×Value)},VV (kvs.map λkv=>(kV kv.1,kv.2)) ws->∃ rs,Carries (CT P w) ws rs/\KV kvs rs
 | [],_,r=>by rw[Fw]at r;cases r;exact⟨[],True.intro,.nil⟩
 | p :: kvs,_,r=>by
  rw[Ym]at r;cases r with
  | @cons a b as bs h t =>
   obtain⟨rs,c,q⟩:=dI (P:=P) (w:=w) t;obtain⟨b1,b2⟩:=b;exact⟨(p.1,b2):: rs,⟨Mo h.1,Y,c⟩,.cons ⟨Y,h.2⟩ q⟩
def sS(trs:List (TE×TE)):TE:=λσ H Q=>∀ p,H p=none->U_ trs σ (upd H p (.dK [])) λps H2=>H2 p=some (.dK [])/\∃ kvs:KL,ps=kvs.map (λkv=>(kV kv.1,kv.2))/\kvs.length<=15/\Q (.ref p) (upd H2 p (.dK (Oc [] kvs)))
def vX{X:Cx}{pos:Pos}{keys:List (Option Expr)}{values:List Expr}{trs:List (TE×TE)}(h:Tr X pos keys values trs)(hall:keys.all (·.isSome)=true)(hl:keys.length=values.length)(h0:keys≠[])
  (jo:keys.length<=15):PE X (.Dict keys values pos) (sS trs):=by
 intro pins s σ H Q I q;have hn:=I.hok.fresh (Yd s.heap.objs.size);have I1:=I.laid (a:=s.heap.objs.size) (o:=.dK []) (h':=s.heap.push {cls:=.type "dict",data:=.dict #[] }) (t':=s.toks) (λ_ _ q=>Yc _ q) (Yd _) (ba s.heap I.big);refine wpAny_Dict_walk (knd:=CT X.prog X.w) hall hl h0 jo (AK (h pins _ σ _ _ I1 (q _ hn)) λws s2 ⟨ps,H2,I2,rel,e,kvs,ep,lk,q2⟩=>?_);subst ep;obtain⟨rs,c,rk⟩:=dI (P:=X.prog) (w:=X.w) rel;obtain⟨z,hd,T5,r0,dd⟩:=gS I2.hok e;cases r0;refine⟨rs,c,dd,λh' JR hs=>⟨.ref s.heap.objs.size,_,?_,Y,q2⟩⟩;have hz:(Oc [] kvs).length<=sizeLine:=by
  have h1:=eM kvs [];rw[Pq]at h1;rw[sizeLine_eq];omega
 have he:∃ q,h'.get? s.heap.objs.size=some q:=let⟨q,_,_,hq,_⟩:=JR;⟨q,hq⟩;exact VG I2 (by rw[e];exact True.intro) hs he (Zu hz hd (rk.merge .nil) JR)
structure M1(X:Cx)(o:Expr)(m:Str)(apos:Pos)(e:Expr)(AU:Pos):Prop where
 base:attributeBase o m X.env (eval o X.env)=eval o X.env
 few:((backTo AU (starEach [e] X.env)).all (λx=>!x.1)&&(backToKw AU (keywordEach [] X.env)).all (λx=>x.1.isSome)
  && decide (([e]:List Expr).length + ([]:List Keyword).length + (if([]:List Keyword).isEmpty then 0 else 1)<30))=true
 line:(apos.endLine == AU.line)=true
 trees:backTo AU (starEach [e] X.env)=[(false,eval e X.env)]
structure M2(X:Cx)(o:Expr)(m:Str)(apos:Pos)(e f:Expr)(AU:Pos):Prop where
 base:attributeBase o m X.env (eval o X.env)=eval o X.env
 few:((backTo AU (starEach [e,f] X.env)).all (λx=>!x.1)&&(backToKw AU (keywordEach [] X.env)).all (λx=>x.1.isSome)
  && decide (([e,f]:List Expr).length + ([]:List Keyword).length + (if([]:List Keyword).isEmpty then 0 else 1)<30))=true
 line:(apos.endLine == AU.line)=true
 trees:backTo AU (starEach [e,f] X.env)=[(false,eval e X.env),(false,eval f X.env)]
def wG(H:Hp)(a:Addr):Prop:=(∃ kvs,Rd H a (.dK kvs))\/∃ kvs,Rd H a (.dT kvs)
def tM{X:Cx}{pins:PL}{σ:St}{H:Hp}{s:Shared}{a:Addr}(I:Inv X pins σ H s)(d:wG H a):
  s.TypeIs (.ref a) "dict"/\(∀ b,Value.ref a=.ref b->∃ ob,s.heap.get? b=some ob/\ob.dict=none)/\(a == sysModules)=false:=by
 rcases d with⟨kvs,e⟩ | ⟨kvs,e⟩
 ·obtain⟨_,hd,vs,_,dd⟩:=Kk I.hok e;refine⟨dd.typeIs,λb q=>?_,hd⟩;cases q;obtain⟨ob,_,_,h1,h2,_⟩:=dd;exact⟨ob,h1,h2.2.1⟩
 ·obtain⟨_,hd,xs,_,dd⟩:=Ml I.hok e;refine⟨dd.typeIs,λb q=>?_,hd⟩;cases q;obtain⟨ob,_,_,h1,h2,_⟩:=dd;exact⟨ob,h1,h2.2.1⟩
section
variable {X:Cx}{pins:PL}{σ:St}{H:Hp}{s:Shared}{a:Addr}{y d:V}{u r:Value}{o:OV}{A:Around}{E:EV}
end
section
variable {X:Cx}{o e f:Expr}{apos AU:Pos}{td ty tx:TE}
end
section
variable {X:Cx}{pins:PL}{σ:St}{H:Hp}{s:Shared}{a:Addr}{kvs:KL}{A:Around}{E:EV}
end
section
variable {X:Cx}{pins:PL}{σ:St}{H:Hp}{s:Shared}{a:Addr}{y:V}{u:Value}{A:Around}{E:EV}
end
end L2
namespace Att
open PySem PySem.W PySem.Calls PyProof.Rows
def qS{P:Params}{h:Heap}:∀(ns:List Int) (vs:LU),WellAll P h vs (ns.map WData.int)->IntsAre vs ns:=by
 intro ns
 induction ns with
 | nil =>
  intro vs w;rw[Fw]at w;cases w;exact .nil
 | cons n ns ih =>
  intro vs w;rw[Ym]at w;cases w with
  | cons a b =>
   cases a;exact .cons _ _ (ih _ b)
def nN{l:OpenLaw}{n:Nat}(hn:l.most=some n){P:Params}{h:Heap}{args:List WData}{vals:LU}
  (hpre:l.row.toRowW.claim.pre args=true) (hwl:WellAll P h vals args):
  ∃ a vs ns,vals=[Value.ref a]/\args=[WData.list (ns.map WData.int)]/\h.get? a=some {cls:=.type "list",data:=.seq vs.toArray}/\IntsAre vs ns/\ns.length<=n:=by
 have hsh:WShape.hasAll [] args [.list .int]=true:=(pre_splitW hpre).1;have hc:l.pre.holds [] {args:=args}=true:=(pre_splitW hpre).2;obtain⟨d,r,rfl,h1,h2⟩:=hasAllW_cons hsh;obtain rfl:=hasAllW_nil h2;obtain⟨xs,rfl,h3⟩:=hasW_list h1;obtain⟨ns,rfl⟩:=items_int h3;have hlen:ns.length<=n:=by
  unfold OpenLaw.pre at hc;have h4:(WTm.not (.lt (.lit (.int (n:Int))) (.len (.arg 0)))).holds [] {args:=[.list (ns.map .int)] }=true:=by
   have h4:=(holds_andW hc).1;rw[hn]at h4;exact h4
  have h5:=condW_of h4 (w_not (w_lt w_lit (w_len_list (w_arg rfl))));rw[Ya]at h5;refine Nat.le_of_not_lt λq=>?_;have q':(n:Int)<((ns.length:Nat):Int):=by omega
  first
   | (rw[Jb q']at h5;exact absurd h5 (by decide))
   | (simp at h5;omega)
 cases hwl with
 | cons w1 w2 =>
  cases w2;cases w1 with
  | list ho hall=>exact⟨_,_,ns,Y,Y,ho,qS ns _ hall,hlen⟩
def nF(l:OpenLaw)(args:List WData):l.row.toRowW.claim.post args (.bool true) args=true :=
 postW_of (r:=l.row.toRowW) (X:=(true == true))
  (show WShape.has [] (.bool true) .bool=true by first | rfl | decide | simp[WShape.has,WShape.arms,WShape.armsAll])
  (show(WTm.eq .res (.lit (.bool true))).value [] {args:=args,res:=some (.bool true),after:=args}=some (.bool (true == true))from w_eq_bool (w_res rfl) w_lit) rfl
def attach_call{l:OpenLaw}{n:Nat}{q:Program}{loose:LS}{XP:(Str->OU)->Heap->Prop}{YP:World->Heap->Prop}{d:DefRec}
  (hn:l.most=some n) (hdf:d.params.defaults=[])
  (call:∀(w:World) (s₀ s₁:Shared) (mg mb:Str->OU) (fa:Addr) (o:Obj) (pm cd doc:Value) (a:Addr) (vs:LU) (ns:List Int),
   Ground q loose [] XP w s₀ mg mb s₁.heap->YP w s₁.heap ->
   s₁.heap.get? fa=some o->o.data=.func (docDef d.name d.params d.body d.scope pm cd doc)->s₁.heap.CodeRec cd d.name->mg d.name=some (.ref fa) ->
   s₁.heap.get? a=some {cls:=.type "list",data:=.seq vs.toArray}->IntsAre vs ns->ns.length<=n->s₁.gens=#[] ->
   codeAny (model l.prog w) callerA (.call (.ref fa) ⟨[.ref a],[]⟩) (λr s'=>r=.ok (.ret (.bool true))/\OldK s₁.heap s'.heap/\s'.os=s₁.os/\AllBare s'.gens) s₁):
  WalkO q loose XP YP l.row.toRowW d [] (λf vs=>PySem.call f vs):=by
 intro w s₀ s₁ mg mb G Y fa o pm cd doc dV kV ho hd hcd hD hmg hg args vals as hpre hlay hrd hwl hlo;obtain rfl:dV=.none:=Dflts.none hD hdf;obtain rfl:kV=.none:=Dflts.noKw hD;obtain⟨a,vs,ns,rfl,rfl,hobj,hints,hlen⟩:=nN hn hpre hwl;refine enter_call (codeAny_mono (call w s₀ s₁ mg mb fa o pm cd doc a vs ns G Y ho (fd_plain hd) hcd hmg hobj hints hlen hg) λr s' hq=>?_);obtain⟨rfl,h2,h3,h4⟩:=hq;exact⟨.inl ⟨.bool true,.bool true,[],Y,λ_=>rfl,.bool true,nF l _,λ_=>⟨List.Pairwise.nil,λ_ hm=>(nomatch hm)⟩⟩,h2,h3,h4⟩
section
variable {prog:Program}{w:World}{A:Around}{E:EV}{s:Shared}{K:Frag}
end
end Att
namespace L2
open PySem PySem.Spec PyProof.Rows
theorem dD:∀ {vs:LU}{ns:List Int},IntsAre vs ns->AO (ns.map V.int) vs
 | _,_,.nil=>.nil
 | _,_,.cons n t h=>.cons ⟨t,Y⟩ (dD h)
def HX(s:Stmt)(j:Nat):Stmt:=match s with
 | .ClassDef _ _ _ body _ _ _ _ _ _ _=>body.getD j (.Pass ⟨0,0,0,0⟩)
 | _=>.Pass ⟨0,0,0,0⟩
def Em(s:Stmt):Arguments:=match s with
 | .FunctionDef _ a _ _ _ _ _ _ _ _=>a
 | _=>{posonlyargs:=[],args:=[],vararg:=none,kwonlyargs:=[],kw_defaults:=[],kwarg:=none,defaults:=[] }
def B4(s:Stmt):List Stmt:=match s with
 | .FunctionDef _ _ b _ _ _ _ _ _ _=>b
 | _=>[]
def AL(s:Stmt):Scope:=match s with
 | .FunctionDef _ _ _ _ _ _ sc _ _ _=>sc
 | _=>{kind:=.function,names:=[],isGenerator:=false,isCoroutine:=false}
abbrev Hk:Es:=λ_ _ _ _ _ _=>False
abbrev E0:XK:=λ_ _ _=>False
def DX{X:Cx}:JW Hk X E0:=λ_ _ _ _ _ _ _ h=>h.elim
structure BV(K:Fg)(x qual:Str)(st:Stmt)(f:Addr)(fd:FuncData):Prop where
 ex:∃(oc:Value) (od:Option Addr) (kV doc pm:Value) (an:Option Addr) (Ai ct:Value) (osl:Array (OU)),
  fd=W.fnOf x qual (Em st) (B4 st) (AL st) .none kV doc pm an Ai ct/\K.lookup f=some ⟨oc,od,.func fd,osl⟩/\W.codeIn K Ai qual=true
 kp:W.keepIn K (.ref f)=true
section
variable {P:Program}{w:World}{K:Fg}{mg:Str->OU}{base:Heap}
def BV.ok{x qual:Str}{st:Stmt}{N ps:LS}{k:Nat}{sp:Sp}(F:BV K x qual st f fd)(S:Ae N ps (AL st))(len:∀ vs H Q E,sp vs H Q E->vs.length=ps.length)
  (hbody:∀(Ai:Value) (A:Around) (outer:List Env) (s:Shared) (H:Hp) (vs:LV) (Q:VK) (E:XK),AV k (A.deeper (envOfC qual (AL st) s.heap.objs.size f Ai))->sp vs H Q E ->
   ∃ t,Bo (IE Hk P w K mg base N qual (AL st) f Ai A outer s H E).nox (B4 st) t/\t {nx:=λ_ H'=>Q .non H',rt:=Q} (start N vs) H):Ax P w K mg base Hk (k + 1) f fd ps sp:=by
 obtain⟨oc,od,kV,doc,pm,an,Ai,ct,osl,rfl,lk,hcd⟩:=F.ex;refine Wh lk hcd S len λA outer s H vs Q E hr hsp=>?_;obtain⟨t,h,q⟩:=hbody Ai A outer s H vs Q E hr hsp;exact⟨t,h.nox,q⟩
def BV.binds{x qual:Str}{st:Stmt}{ps:LS}(F:BV K x qual st f fd)
  (h:∀(kV doc pm:Value) (an:Option Addr) (Ai ct:Value) (us:LU),us.length=ps.length->bindArgs (W.fnOf x qual (Em st) (B4 st) (AL st) .none kV doc pm an Ai ct) ⟨us,[]⟩=pure (ps.zip us)):Cj K fd ps []:=by
 obtain⟨oc,od,kV,doc,pm,an,Ai,ct,osl,rfl,lk,hcd⟩:=F.ex;exact .all (h kV doc pm an Ai ct)
def ZU{x qual:Str}{st:Stmt}{f:Addr}{oc:Value}{od an:Option Addr}{osl:Array (OU)}{kV doc pm Ai ct:Value}(l:K.lookup f=some ⟨oc,od,.func (W.fnOf x qual (Em st) (B4 st) (AL st) .none kV doc pm an Ai ct),osl⟩)
  (c:W.codeIn K Ai qual=true) (k:W.keepIn K (.ref f)=true):BV K x qual st f (W.fnOf x qual (Em st) (B4 st) (AL st) .none kV doc pm an Ai ct):=⟨⟨oc,od,kV,doc,pm,an,Ai,ct,osl,Y,l,c⟩,k⟩
end
def Ei{A:Around}{k:Nat}(hr:AV k A):A.units + 1<cLine:=Td (Nat.add_le_add_left (by decide:1<=64) _) hr.units
section
variable {X:Cx}
def pv(i:Nat){x:Str}{pos:Pos}(hN:X.N[i]?=some x:=by rfl)(hv:Pz X.env.scope x:=by first | exact Or.inl rfl | exact Or.inr (Or.inl rfl) | exact Or.inr (Or.inr rfl))(hd:(x == ("__debug__":Str))=false:=by decide)
  (hcd:(x == ("__classdict__":Str))=false:=by decide):PE X (.Name x pos) (Wa i):=Zf hN hv hd hcd
end
def Av{A B:Prop}(h:B):if false=true then A else B:=by
 rw[if_neg Yq];exact h
def BM{A B:Prop}(h:A):if true=true then A else B:=by
 rw[if_pos rfl];exact h
def Ak{c A B:Prop}[Decidable c](h1:c->A)(h2:¬ c->B):if c then A else B:=by
 by_cases h:c
 ·rw[if_pos h];exact h1 h
 ·rw[if_neg h];exact h2 h
def AB(H H':Hp):Prop:=∀ b o,H b=some o->H' b=some o
def AB.refl(H:Hp):AB H H:=λ_ _ h=>h
def AB.trans{H H1 H2:Hp}(a:AB H H1)(b:AB H1 H2):AB H H2:=λc o h=>b c o (a c o h)
def AB.free{H H':Hp}(e:AB H H'){l:Addr}(h:H' l=Option.none):H l=Option.none:=by
 cases q:H l with
 | none=>rfl
 | some o =>
  rw[e l o q]at h;cases h
def AB.seq{K:Fg}{H H':Hp}{a:Addr}{xs:LV}(e:AB H H')(h:SqL K H a xs):SqL K H' a xs:=by
 rcases h with(h | ⟨o,h⟩) | h
 ·exact .inl (.inl (e _ _ h))
 ·exact .inl (.inr ⟨o,e _ _ h⟩)
 ·exact .inr h
section
variable {X:Cx}
end
section
variable {κ:Type}[DecidableEq κ]
def mF{kvs:List (κ×V)}{k:κ}(h:BS kvs k=none):¬ k∈kvs.map (·.1):=by
 intro m;obtain⟨p,hp,e⟩:=Yg.mp m;have q:(kvs.any λkv=>decide (kv.1=k))=true:=Fx.mpr ⟨p,hp,Jb e⟩;rw[Ou,h]at q;exact absurd q (by simp)
def az{kvs:List (κ×V)}{k:κ}{v:V}(h:BS kvs k=some v):k∈kvs.map (·.1):=by
 have q:(kvs.any λkv=>decide (kv.1=k))=true:=by
  rw[Ou,h]
  all_goals rfl
 obtain⟨p,hp,e⟩:=Fx.mp q;exact Yg.mpr ⟨p,hp,Je e⟩
end
end L2
set_option maxHeartbeats 4000000
namespace HT
open PySem PyProof.Rows
open PySem.SeqAt
open PySem.AutoSeq1 (wpAny_loadPart')
open PySem.MeetsSeq PySem.MeetsSeq2 PySem.MeetsSeq3
section
variable {prog:Program}{w:World}{A:Around}{E:EV}{s:Shared}
end
end HT
namespace L2
open PySem PySem.Spec PyProof.Rows
structure Fc(J:It)(xs:LV)(Ok:Hp->Prop):Prop where
 go:∀(i:Nat) (x:V) (H:Hp),Ok H->xs[i]?=some x->J.go i H
 yld:∀(i:Nat) (x:V) (H:Hp) (y:V) (H':Hp),Ok H->xs[i]?=some x->J.yld i H y H'->y=x/\H'=H
 stop:∀(H:Hp),Ok H->J.stop xs.length H
def EB{K:Fg}{a:Addr}{xs:LV}:Fc (Nt K a) xs (λH=>SqL K H a xs) where
 go:=λi x H ok hx=>⟨xs,x,ok,hx⟩
 yld:=λi x H y H' ok hx h=>by
  obtain⟨e,h⟩:=h;have q:=h xs ok;rw[hx]at q;exact⟨(Yv q).symm,e⟩
 stop:=λH ok=>⟨xs,ok,Yd _⟩
def HZ{K:Fg}{a:Addr}{xs:LV}:Fc (W_ K a) xs (λH=>AJ K H a xs) where
 go:=λi x H ok hx=>⟨xs,x,ok,hx⟩
 yld:=λi x H y H' ok hx h=>by
  obtain⟨e,h⟩:=h;have q:=h xs ok;rw[hx]at q;exact⟨(Yv q).symm,e⟩
 stop:=λH ok=>⟨xs,ok,Yd _⟩
def Ck(lo:Int)(n:Nat):LV:=(List.range n).map λ(k:Nat)=>V.int (lo + (k:Int))
def CJ(lo:Int)(n:Nat):(Ck lo n).length=n:=by unfold Ck;rw[Ya,Hf]
def Dk{lo:Int}{n i:Nat}{x:V}(h:(Ck lo n)[i]?=some x):i<n/\x=V.int (lo + (i:Int)):=by
 have hi:i<n:=by
  have:=(Yn.mp h).1
  rwa [CJ]at this
 refine⟨hi,?_⟩;unfold Ck at h;rw[Yf,LK hi]at h;exact(Yv h).symm
def Fl{lo:Int}{n:Nat}:Fc (Tz lo n) (Ck lo n) (λ_=>True) where
 go:=λi x H _ hx=>(Dk hx).1
 yld:=λi x H y H' _ hx h=>by
  obtain⟨e,h⟩:=h;exact⟨h.trans (Dk hx).2.symm,e⟩
 stop:=λH _=>by
  show n<=(Ck lo n).length;rw[CJ];exact Yd _
def Cw{J:It}{xs:LV}{Ok:Hp->Prop}(R:Fc J xs Ok){g:TG}{tb:TS}{D:GV}{σ:St}{H:Hp}(Pv:NW)(h0:Pv 0 σ H)(hl:∀ i σ H,i<=xs.length->Pv i σ H->Ok H)
  (hs:∀ i x σ H,xs[i]?=some x->Pv i σ H->g x σ H λσ2 H2=>tb {D with nx:=Pv (i + 1),ct:=Pv (i + 1),bk:=D.nx} σ2 H2) (hd:∀ σ H,Pv xs.length σ H->D.nx σ H):
  ∃ W:Nat->Nat->St->Hp->Prop,(∃ m,W 0 m σ H)/\∀ i m σ H,W i m σ H ->
   (J.stop i H/\D.nx σ H)\/(J.go i H/\∃ N:SW,(∀ σ' H',N σ' H'->∃ m',m'<m/\W (i + 1) m' σ' H')/\∀ x H',J.yld i H x H'->g x σ H' λσ2 H2=>tb {D with nx:=N,ct:=N,bk:=D.nx} σ2 H2):=by
 refine⟨λi m σ H=>m=xs.length - i/\i<=xs.length/\Pv i σ H,⟨xs.length,by simp,A7 _,h0⟩,?_⟩;rintro i m σ H ⟨rfl,hi,p⟩;have q:=hl i σ H hi p;by_cases Ab:i<xs.length
 ·have hx:xs[i]?=some xs[i]:=by simp[Ab]
  refine .inr ⟨R.go i _ H q hx,Pv (i + 1),λσ' H' p'=>⟨xs.length - (i + 1),W,Y,Ab,p'⟩,λx H' y=>?_⟩;obtain⟨e1,e2⟩:=R.yld i _ H x H' q hx y;rw[e2];exact hs i x σ H (by rw[e1];exact hx) p
 ·have e:i=xs.length:=by omega
  subst e;exact .inl ⟨R.stop H q,hd σ H p⟩
def Tx(x:Str):It:=⟨λi _=>i<x.cps.size,λi H v H'=>H'=H/\∃ c,x.cps[i]?=some c/\v=.str ⟨#[c]⟩,λi _=>x.cps.size<=i⟩
def IP(x:Str):LV:=x.cps.toList.map λc=>V.str ⟨#[c]⟩
def l_{x:Str}:Fc (Tx x) (IP x) (λ_=>True) where
 go:=λi y H _ hx=>by
  have:=(Yn.mp hx).1;unfold IP at this;rw[Ya]at this;show i<x.cps.size;simpa using this
 yld:=λi y H z H' _ hx h=>by
  obtain⟨e,c,hc,hz⟩:=h;refine⟨?_,e⟩;unfold IP at hx;rw[Yf,LW,hc]at hx;rw[hz];exact Yv hx
 stop:=λH _=>by
  show x.cps.size<=(IP x).length;unfold IP;simp
def bq{P:Program}{w:World}{K:Fg}{tg:Expr}(x:Str)(t:Tok)(it:Addr)(ty:String)(hty:ty="str_ascii_iterator"\/ty="str_iterator"):
  E3 P w K tg (Tx x) [it] it (λi h=>h.IsStrIter it ty x t i) where
 mem:=by simp
 obj:=λi h st b hb=>by
  have e:b=it:=by simpa using hb
  subst e;obtain⟨o,e,c,d⟩:=st;exact⟨o,e,λv z=>by rw[d]at z;cases z⟩
 keep:=λi h h' st k=>by
  obtain⟨o,ho,r⟩:=st;exact⟨o,k it (by simp) o ho,r⟩
 item:=by
  intro X hP hw hK hc i pins s σ H E I hf st hg;subst hP hw hK;obtain⟨f0,f1,f2,f3,f4,f5⟩:=hf it (by simp);have hi:i<x.cps.size:=hg;have hx:x.cps[i]?=some x.cps[i]:=by simp[hi]
  have fin:∀ h':Heap,h'.IsStrIter it ty x t (i + 1)->Heap.SameBut it s.heap h'->∃ u,some (Value.str ⟨#[x.cps[i]]⟩ s.toks)=some u /\
    wpAny (model X.prog X.w) X.A (letOwnedTupleGo tg (.ref it) u) (λ_ s2=>∃ y H',Inv X pins σ H' s2/\AS y u/\(Tx x).yld i H y H'/\s2.heap.IsStrIter it ty x t (i + 1)/\∀ b∈[it],H' b=none) E {s with heap:=h',toks:=s.toks + 1}:=λh' Ay sb=>by
   have I1:Inv X pins σ H {s with heap:=h',toks:=s.toks + 1}:=I.turned (λb o hb e=>(sb.2 b hb).trans e) f0 f1 f3 f4 f5;obtain⟨o,e,c,d⟩:=id Ay;refine⟨Z,Mn (s:={s with heap:=h',toks:=s.toks + 1}) e c d ?_ ⟨.str ⟨#[x.cps[i]]⟩,H,I1,⟨Z⟩,⟨Y,_,hx,Y⟩,Ay,λb hb=>(hf b hb).1⟩⟩
   rcases hty with rfl | rfl <;> decide
  rcases hty with rfl | rfl
  ·exact wpAny_pyNext_ascii_item st hx λh' Ay sb=>fin h' Ay sb
  ·exact wpAny_pyNext_wide_item st hx λh' Ay sb=>fin h' Ay sb
 done:=by
  intro X hP hw hK hc i pins s σ H E I hf st hg;subst hP hw hK;obtain⟨f0,f1,f2,f3,f4,f5⟩:=hf it (by simp);have hi:x.cps.size<=i:=hg;have hx:x.cps[i]?=none:=by simp[hi]
  rcases hty with rfl | rfl
  ·exact wpAny_pyNext_ascii_end (I.ok.hd hc) st hx λh' eb=>⟨Y,I.turned (t':=s.toks) (λb o hb e=>eb b o hb e) f0 f1 f3 f4 f5⟩
  ·exact wpAny_pyNext_wide_end (I.ok.hd hc) st hx λh' eb=>⟨Y,I.turned (t':=s.toks) (λb o hb e=>eb b o hb e) f0 f1 f3 f4 f5⟩
 self:=λ_ _ _ _ _ st h=>by
  rcases hty with rfl | rfl
  ·exact wpAny_pyIter_striter_ascii st h
  ·exact wpAny_pyIter_striter_wide st h
section
variable {X:Cx}{tg:Expr}
def qh(tl:TE):TI:=λσ H R=>tl σ H λx H1=>∃ z,x=.str z/\R (Tx z) H1
def uL{l:Expr}{tl:TE}(hl:PE X l tl):PI X tg l (qh tl):=by
 intro pins s σ H R I h;refine AK (hl pins s σ H _ I h) λv s1 ⟨x,H1,I1,r1,q1⟩=>?_;obtain⟨z,e,q⟩:=q1;subst e;obtain⟨t,rfl⟩:=r1;have fp:∀ b∈[s1.heap.objs.size],BA X pins H1 b:=λb hb=>by
  have e:b=s1.heap.objs.size:=by simpa using hb
  subst e;exact I1.fpOk (Yd _) (I1.hok.fresh (Yd _))
 cases ha:z.cps.all (·<128)with
 | false =>
  refine wpAny_pyIter_wide ha ?_;exact⟨s1.heap.objs.size,[s1.heap.objs.size],_,_,H1,Y,I1.kept (t':=s1.toks) λb o e=>Yc _ e,bq z t _ "str_iterator" (.inr rfl),⟨_,Yl _ rfl,Y,Y⟩,fp,q⟩
 | true =>
  refine wpAny_pyIter_ascii ha ?_;exact⟨s1.heap.objs.size,[s1.heap.objs.size],_,_,H1,Y,I1.kept (t':=s1.toks) λb o e=>Yc _ e,bq z t _ "str_ascii_iterator" (.inl rfl),⟨_,Yl _ rfl,Y,Y⟩,fp,q⟩
end
def B0(env:Env):List (Str×NameKind)->List (Str×Addr)->List (Str×Addr)
 | [],acc=>acc
 | (n,k):: r,acc=>if(k == NameKind.free)=true then B0 env r ((n,(env.cells.lookup n).getD 0):: acc)else B0 env r acc
def pT{env:Env}{n:Str}{c:Addr}(h:env.cells.lookup n=some c):cellOf env n=pure c:=by
 unfold cellOf;rw[h]
def WJ{scope:Scope}{env:Env}(h:∀ y∈scope.names,y.2=.free->∃ c,env.cells.lookup y.1=some c):closureFor scope env=pure (B0 env scope.names []):=by
 have key:∀(l:List (Str×NameKind)) (acc:List (Str×Addr)),(∀ y∈l,y.2=.free->∃ c,env.cells.lookup y.1=some c) ->
   (forIn l acc λ(x:Str×NameKind) (r:List (Str×Addr))=>(match x with
    | (name,kind)=>if(kind == NameKind.free)=true then(do let a <- cellOf env name;pure (ForInStep.yield ((name,a):: r)))else pure (ForInStep.yield r):Sem (ForInStep (List (Str×Addr)))))=pure (B0 env l acc):=by
  intro l
  induction l with
  | nil=>intro acc _;rfl
  | cons y r ih =>
   intro acc hy;obtain⟨n,k⟩:=y;have YW:=λacc=>ih acc λz hz=>hy z (FG _ hz);rw[LP];by_cases hk:(k == NameKind.free)=true
   ·obtain⟨c,hc⟩:=hy (n,k) Ie (by simpa using hk);have hc:env.cells.lookup n=some c:=hc;simp only[hk,if_true,pT hc];unfold B0;rw[if_pos hk,hc];exact YW _
   ·simp only[hk];unfold B0;rw[if_neg hk];exact YW _
 unfold closureFor;have q:=key scope.names [] h;show((forIn scope.names [] _:Sem (List (Str×Addr)))>>=λr=>pure r)=_
 first
  | (rw[show(forIn scope.names [] _:Sem (List (Str×Addr)))=_ from q];rfl)
  | (refine(congrArg (λm=>m>>=λr=>pure r) q).trans ?_;rfl)
theorem O5{env:Env}:∀(l:List (Str×NameKind)) (acc:List (Str×Addr)) (x:Str) (c:Addr),(∀ y∈l,y.2=.free->∃ c,env.cells.lookup y.1=some c) ->
  (∀ x c,acc.lookup x=some c->env.cells.lookup x=some c)->(B0 env l acc).lookup x=some c->env.cells.lookup x=some c
 | [],acc,x,c,_,ha,h=>ha x c h
 | (n,k):: r,acc,x,c,hy,ha,h=>by
  have hr:∀ y∈r,y.2=.free->∃ c,env.cells.lookup y.1=some c:=λy Ey=>hy y (FG _ Ey);unfold B0 at h;by_cases hk:(k == NameKind.free)=true
  ·rw[if_pos hk]at h;refine O5 r _ x c hr (λz d hz=>?_) h;obtain⟨c',Ap⟩:=hy (n,k) Ie (by simpa using hk);have Ap:env.cells.lookup n=some c':=Ap;rw[C7]at hz;by_cases e:(z == n)=true
   ·simp only[e]at hz;have e':z=n:=by simpa using e
    rw[e',Ap];rw[Ap]at hz;exact hz
   ·have e':(z == n)=false:=by simpa using e
    simp only[e']at hz;exact ha z d hz
  ·rw[if_neg hk]at h;exact O5 r acc x c hr ha h
theorem V3{env:Env}:∀(l:List (Str×NameKind)) (acc:List (Str×Addr)) (x:Str),(acc.lookup x).isSome=true->((B0 env l acc).lookup x).isSome=true
 | [],acc,x,h=>h
 | (n,k):: r,acc,x,h=>by
  unfold B0;by_cases hk:(k == NameKind.free)=true
  ·rw[if_pos hk];refine V3 r _ x ?_;rw[C7];cases e:(x == n)with
   | true=>rfl
   | false=>exact h
  ·rw[if_neg hk];exact V3 r acc x h
theorem SE{env:Env}:∀(l:List (Str×NameKind)) (acc:List (Str×Addr)) (x:Str),(x,NameKind.free)∈l->((B0 env l acc).lookup x).isSome=true
 | [],acc,x,h=>nomatch h
 | (n,k):: r,acc,x,h=>by
  unfold B0
  rcases Yr.mp h with e | h
  ·injection e with e1 e2;subst e1;subst e2;rw[if_pos (by decide)];refine V3 r _ x ?_;rw[C7];simp
  ·by_cases hk:(k == NameKind.free)=true
   ·rw[if_pos hk];exact SE r _ x h
   ·rw[if_neg hk];exact SE r _ x h
theorem WR{env:Env}:∀ {names:List (Str×NameKind)}{x:Str},names.lookup x=some .free ->
  (names.map λ(n,k)=>if(k == NameKind.free&&env.scope.kind == .function&&env.kindOf n == some .cell)then(n,NameKind.cell)else(n,k)).lookup x=some .cell \/
  (names.map λ(n,k)=>if(k == NameKind.free&&env.scope.kind == .function&&env.kindOf n == some .cell)then(n,NameKind.cell)else(n,k)).lookup x=some .free
 | [],_,h=>by simp at h
 | (n,k):: r,x,h=>by
  have ih:=@WR env r x;rw[Ym];show List.lookup x ((if(k == NameKind.free&&env.scope.kind == .function&&env.kindOf n == some .cell)=true then(n,NameKind.cell)else(n,k)):: _)=_\/List.lookup x ((if(k == NameKind.free&&env.scope.kind == .function&&env.kindOf n == some .cell)=true then(n,NameKind.cell)else(n,k)):: _)=_;cases hx:x == n with
  | true =>
   simp only[C7,hx]at h;cases h;by_cases hc:(NameKind.free == NameKind.free&&env.scope.kind == .function&&env.kindOf n == some .cell)=true
   ·rw[if_pos hc];simp only[C7,hx];exact .inl trivial
   ·rw[if_neg hc];simp only[C7,hx];exact .inr trivial
  | false =>
   simp only[C7,hx]at h;by_cases hc:(k == NameKind.free&&env.scope.kind == .function&&env.kindOf n == some .cell)=true
   ·rw[if_pos hc];simp only[C7,hx];exact ih h
   ·rw[if_neg hc];simp only[C7,hx];exact ih h
theorem WQ{env:Env}:∀ {names:List (Str×NameKind)}{x:Str},
  ((names.map λ(n,k)=>if(k == NameKind.free&&env.scope.kind == .function&&env.kindOf n == some .cell)then(n,NameKind.cell)else(n,k)).lookup x=some .cell \/
  (names.map λ(n,k)=>if(k == NameKind.free&&env.scope.kind == .function&&env.kindOf n == some .cell)then(n,NameKind.cell)else(n,k)).lookup x=some .free) ->
  names.lookup x=some .free\/names.lookup x=some .cell
 | [],_,h=>by simp at h
 | (n,k):: r,x,h=>by
  have ih:=@WQ env r x;rw[Ym]at h
  change List.lookup x ((if(k == NameKind.free&&env.scope.kind == .function&&env.kindOf n == some .cell)=true then(n,NameKind.cell)else(n,k)):: _)=_\/List.lookup x ((if(k == NameKind.free&&env.scope.kind == .function&&env.kindOf n == some .cell)=true then(n,NameKind.cell)else(n,k)):: _)=_ at h
  cases hx:x == n with
  | true =>
   simp only[C7,hx];by_cases hc:(k == NameKind.free&&env.scope.kind == .function&&env.kindOf n == some .cell)=true
   ·left;have:(k == NameKind.free)=true:=by
     cases hk:(k == NameKind.free)with
     | true=>rfl
     | false=>rw[hk]at hc;simp at hc
    have:k=NameKind.free:=by simpa using this
    rw[this]
   ·rw[if_neg hc]at h;simp only[C7,hx]at h
    rcases h with h | h
    ·exact .inr h
    ·exact .inl h
  | false =>
   simp only[C7,hx];apply ih;by_cases hc:(k == NameKind.free&&env.scope.kind == .function&&env.kindOf n == some .cell)=true
   ·rw[if_pos hc]at h;simp only[C7,hx]at h;exact h
   ·rw[if_neg hc]at h;simp only[C7,hx]at h;exact h
abbrev C3(X:Cx)(scope:Scope)(N:LS)(C:Addr)(s:Shared)(H:Hp)(fp:List Addr):Cx :=
 {X with N:=N,s₀:=s,H₀:=H,env:=compEnvC scope (B0 X.env scope.names []) C X.env,outer:=X.stack,ex:=fp,fn:=λ_=>false,pn:=[],xe:=λ_ _=>False}
def HC(n:Nat)(js:LN)(σ:St):St:=List.replicate n none++js.map λj=>(σ[j]?).join
def aZ(n:Nat)(js:LN)(σ:St):(HC n js σ).length=n + js.length:=by unfold HC;simp
structure Fe(X:Cx)(scope:Scope)(own frees:LS)(js:LN):Prop where
 calm:X.calm=true
 kind:scope.kind=.function
 nocell:∀ y∈scope.names,y.2≠.cell
 locals:∀ y∈scope.names,y.2=.local->scope.names.lookup y.1=some .local
 fr:∀ y∈scope.names,y.2=.free->X.env.scope.names.lookup y.1=some .cell\/X.env.scope.names.lookup y.1=some .free
 fre:∀ x∈frees,scope.names.lookup x=some .free
 slots:js.map (λj=>X.N[j]?)=frees.map some
def Lh(X:Cx)(ifs:List Expr)(t:TT):Prop :=
 ∀(pins:PL) (s:Shared) (σ:St) (H:Hp) (Q:Bool->Hp->Prop),Inv X pins σ H s->t σ H Q ->
  wpAny (model X.prog X.w) X.A (forIn ifs true λc r=>if r=true then do let ok <- isTrue c X.env (eval c X.env);pure (ForInStep.yield ok)else pure (ForInStep.yield r)) (TP X pins σ Q) X.xe s
def Ri:TT:=λ_ H Q=>Q true H
def CA{X:Cx}:Lh X [] Ri:=λ_ _ _ H _ I h=>wpAny_tests_nil ⟨H,I,h⟩
def Kv{X:Cx}{c:Expr}{t:TT}(h:PT X c t):Lh X [c] t:=λpins s σ H Q I q=>wpAny_tests_one (h pins s σ H Q I q)
def AR(n:Nat)(js:LN)(g:TG)(tt:TT)(te:TE)(σ:St)(Q:VK)(J:It)(H1:Hp):Prop:=∀ D,H1 D=none ->
 ∃ W:Nat->Nat->LV->St->Hp->Prop,(∃ m,W 0 m [] (HC n js σ) (upd H1 D (.lst [])))/\∀ i m ys σ' H',W i m ys σ' H' ->
  (J.stop i H'/\Q (.ref D) H') \/
  (J.go i H'/\ys.length<sizeLine/\∃ N:LV->St->Hp->Prop,(∀ KA σ3 H3,N KA σ3 H3->∃ m',m'<m/\W (i + 1) m' KA σ3 H3)/\∀ x H2,J.yld i H' x H2->g x σ' H2 λσ3 H3=>tt σ3 H3 λb H4 =>
   if b=true then te σ3 H4 λv H5=>H5 D=some (.lst ys)/\N (ys++[v]) σ3 (upd H5 D (.lst (ys++[v])))
   else N ys σ3 H4)
section
variable {prog:Program}{w:World}{A:Around}{E:EV}{R:Result->Shared->Prop}{s:Shared}
def eJ{elt target iter:Expr}{ifs:List Expr}{scope:Scope}{pos:Pos}{it acc:Value}{env:Env}(I:Nat->Shared->Prop)
  (turn:∀ n s,I n s->∀ E:EV,wpAny (model prog w) A (pyNext it) (λr s₁=>match r with
   | none=>R (.ok .next) s₁
   | some v=>wpAny (model prog w) A (letOwnedTupleGo target it v) (λ_ Xx=>wpAny (model prog w) A (assign target env v) (λ_ s₂ =>
     wpAny (model prog w) A (forIn ifs true λc r=>if r=true then do let ok <- isTrue c env (eval c env);pure (ForInStep.yield ok)else pure (ForInStep.yield r)) (λok s₃ =>
      if ok=true then wpAny (model prog w) A (eval elt env) (λx s₄ =>
       wpAny (model prog w) A (call (.builtin "list.append") [acc,x]) (λ_ s₅=>∃ m,m<n/\I m s₅) E s₄) E s₃
      else ∃ m,m<n/\I m s₃) E s₂) E Xx) E s₁) E s)
  (n:Nat) (h:I n s):
  codeAny (model prog w) A (.compLoop (.ListComp elt [⟨target,iter,ifs,0⟩] scope pos) 0 it acc env) R s:=by
 refine codeAny_loop rfl I (λn s hI=>?_) n h;show wpAny _ A ((compTurn (.ListComp elt [⟨target,iter,ifs,0⟩] scope pos) 0 it acc env).onRaise (λx=>do noteFrame x env;theTreesLotGoes x)) _ _ s;refine wpAny_noted ?_;rw[compTurn_list];refine Ja (wpAny_standAt (Ja (Jf (turn n s hI _) (λr s₁ h₁=>?_) λ_ _ h'=>h')));cases r with
 | none=>exact Jd h₁
 | some v =>
  refine Ja (Jf h₁ (λ_ Xx jA=>?_) λ_ _ h'=>h');refine Ja (Jf jA (λ_ s₂ h₂=>Ja (Jf h₂ (λok s₃ h₃=>?_) λ_ _ h'=>h')) λ_ _ h'=>h');cases ok with
  | false=>exact Jd ⟨Y,h₃⟩
  | true =>
   exact Ja (Ja (Jf h₃ (λx s₄ h₄=>Ja (Jf h₄ (λ_ s₅ h₅=>Jd (Jd ⟨Y,h₅⟩)) λ_ _ h'=>h')) λ_ _ h'=>h'))
end
section
variable {X:Cx}{pins:PL}{σ:St}{scope:Scope}{own frees:LS}{js:LN}
theorem Fe.cells(c:Fe X scope own frees js)(ok:X.Ok):∀ y∈scope.names,y.2=.free->∃ a,X.env.cells.lookup y.1=some a:=λy hy e=>by
 rcases c.fr y hy e with h | h
 ·exact ok.has y.1 (.inl h)
 ·exact ok.has y.1 (.inr h)
def Fe.cl(c:Fe X scope own frees js)(ok:X.Ok){x:Str}{a:Addr}(h:(B0 X.env scope.names []).lookup x=some a):X.env.cells.lookup x=some a :=
 O5 scope.names [] x a (c.cells ok) (λ_ _ z=>by simp at z) h
def Fe.has(c:Fe X scope own frees js){x:Str}(h:scope.names.lookup x=some .free):∃ a,(B0 X.env scope.names []).lookup x=some a :=
 Pj.mp (SE scope.names [] x (Dp h))
theorem Fe.ok{s2:Shared}{H2:Hp}{fp:List Addr}{C:Addr}(c:Fe X scope own frees js)(I:Inv X pins σ H2 s2)(f2:∀ b∈fp,BA X pins H2 b)(Ab:∀ b∈fp,b<s2.heap.objs.size)(hC:s2.heap.objs.size<=C)(N:LS):
  (C3 X scope N C s2 H2 fp).Ok where
 mod:=I.ok.mod
 kind:=c.kind
 glob:=I.ok.glob
 blt:=I.ok.blt
 above:=hC
 inj:=λx y a h1 h2=>I.ok.inj x y a (c.cl I.ok h1) (c.cl I.ok h2)
 has:=λx h=>by
  have h':scope.names.lookup x=some .free\/scope.names.lookup x=some .cell:=WQ (env:=X.env) h
  rcases h' with h' | h'
  ·exact c.has h'
  ·exact absurd rfl (c.nocell _ (Dp h'))
 cab:=λx a h=>absurd (show false=true from h) Yq
 hd:=λh=>I.ok.hd h
 frames:=I.ok.frames
 stk:=.inl rfl
 exf:=λb hb=>⟨Ys (Yp (Ab b hb) hC),λx a h=>(f2 b hb).2.2.2.2.1 x a (c.cl I.ok h)⟩
 bs:=I.bs
 bsz:=A6 I.ok.bsz I.sz
 noex:=λb o e hb=>by
  rcases(f2 b hb).2.2.2.1 with z | z
  ·exact I.ok.noex b o e z
  ·exact absurd (Yp (Ye e) (A6 I.ok.bsz z)) (FH _)
 exfs:=λb hb z=>by
  rcases Yr.mp (I.stkSub b z)with e | e
  ·exact(f2 b hb).2.1 e
  ·exact(f2 b hb).2.2.1 e
 funs:=I.stack
 frf:=I.stkFree
def dJ{s2:Shared}{tg iter elt:Expr}{ifs:List Expr}{pos:Pos}{g:TG}{tt:TT}{te:TE}{Q:VK}{RR:Value->Addr->Result->Shared->Prop}{itv:Value}{E:EV}
  (c:Fe X scope own frees js)
  (hg:∀ C s H fp,PG (C3 X scope (own++frees) C s H fp) tg g) (ht:∀ C s H fp,Lh (C3 X scope (own++frees) C s H fp) ifs tt) (he:∀ C s H fp,PE (C3 X scope (own++frees) C s H fp) elt te)
  (h:Ts X pins σ tg (AR own.length js g tt te σ Q) itv s2)
  (hR:∀ D C H' s',Inv X pins σ H' s'->BA X pins H' C->(∃ m,s'.heap.Ns C m)->Q (.ref D) H'->RR (.ref D) C (.ok .next) s'):
  wpAny (model X.prog X.w) X.A (newList []) (λacc s₃=>wpAny (model X.prog X.w) X.A (newFunctionEnv scope X.env.globals (B0 X.env scope.names []) [] X.env.qual none .none (some X.env)) (λcenv s₄ =>
   codeAny (model X.prog X.w) X.A (.compStart (.ListComp elt [⟨tg,iter,ifs,0⟩] scope pos) 0 itv acc {cenv with scope:=relabel scope X.env}) (RR acc cenv.locals) s₄) E s₃) E s2:=by
 obtain⟨it,fp,tn,J,H2,e,I2,T,Eu,f2,hq⟩:=h;subst e;refine wpAny_newObj_type (wpAny_newFunctionEnv c.nocell (by intro y hy;simp at hy) (λh₁ hns₁ hsb₁=>?_) c.kind);dsimp only at hns₁ hsb₁ ⊢;generalize Ki:s2.heap.push {cls:=.type "list",dict:=none,data:=.seq ([]:LU).toArray}=G2 at hns₁ hsb₁ ⊢;have hC:G2.objs.size=s2.heap.objs.size + 1:=by rw[<- Ki,Co]
 have hDC:s2.heap.objs.size≠G2.objs.size:=by rw[hC];exact Ys (Nat.lt_succ_self _)
 have hCle:s2.heap.objs.size<=G2.objs.size:=by rw[hC];exact Fs _
 have old:∀ b o,s2.heap.get? b=some o->h₁.get? b=some o:=λb o e=>by
  have hb:=Ye e;exact hsb₁.extBut b o (by rw[hC];exact Ys (Px hb)) (Yc _ (Ki ▸ Yc _ e))
 have hD:H2 s2.heap.objs.size=none:=I2.hok.fresh (Yd _);have Ab:∀ b∈fp,b<s2.heap.objs.size:=λb hb=>by
  obtain⟨o,e,_⟩:=T.obj _ _ Eu b hb;exact Ye e
 have EW:h₁.get? s2.heap.objs.size=some {cls:=.type "list",data:=.seq ([]:LU).toArray}:=hsb₁.extBut _ _ hDC (Yc _ (Ki ▸ Yl _ rfl));obtain⟨W,⟨m0,w0⟩,turn⟩:=hq _ hD;have I0:∀ tk,Inv (C3 X scope (own++frees) G2.objs.size s2 H2 fp) [] (HC own.length js σ) (upd H2 s2.heap.objs.size (.lst [])) {s2 with heap:=h₁,toks:=tk}:=λtk=>by
  refine⟨c.ok I2 f2 Ab hCle _,Y,I2.bare,Un.laid old (Yd _) hD,⟨_,hns₁,λi x v h1 h2 h3=>?_⟩,λx a h=>?_,?_,λx a h=>?_,λp hp=>absurd (show p∈([]:PL)from hp) (by simp),I2.hok.laid old (Yd _) ⟨A7 _,[],0,.nil,EW⟩,?_⟩
  ·have hi:own.length<=i:=by
    by_cases hi:i<own.length
    ·unfold HC at h2;rw[LL (by simpa using hi),Wx]at h2;rw[if_pos hi]at h2;cases h2
    ·omega
   have hx:frees[i - own.length]?=some x:=by
    have OJ:(own++frees)[i]?=some x:=h1
    rwa [Ih hi]at OJ
   have OI:(js.map λj=>(σ[j]?).join)[i - own.length]?=some (some v):=by
    unfold HC at h2;rw[Ih (by simpa using hi)]at h2;simpa using h2
   rw[Yf]at OI;obtain⟨j,hj,hjv⟩:=He.mp OI;have hs:=congrArg (λl=>l[i - own.length]?) c.slots;rw[Yf,Yf,hj,hx]at hs;have hNj:X.N[j]?=some x:=Yv hs;have hσ:σ[j]?=some (some v):=by
    cases q:σ[j]? with
    | none=>rw[q]at hjv;cases hjv
    | some o =>
     rw[q]at hjv;have:o=some v:=hjv;rw[this]
   have Ar:=c.fre x (Yh hx);have hXk:=c.fr (x,.free) (Dp Ar) rfl;obtain⟨m,hn,hl⟩:=I2.loc;have vis:Pz X.env.scope x:=by rcases hXk with k | k;exact .inr (.inl k);exact .inr (.inr k)
   obtain⟨u,r,l⟩:=hl j x v hNj hσ vis;refine⟨u,r,.inr ⟨WR (env:=X.env) Ar,?_⟩⟩
   rcases l with⟨hk,_⟩ | ⟨_,a,ha,hcell⟩
   ·rcases hXk with k | k
    ·have hk:X.env.scope.names.lookup x=some .local:=hk;rw[show X.env.scope.names.lookup x=some .cell from k]at hk;cases hk
    ·have hk:X.env.scope.names.lookup x=some .local:=hk;rw[show X.env.scope.names.lookup x=some .free from k]at hk;cases hk
   ·obtain⟨a',RL⟩:=c.has Ar;have e:=c.cl I2.ok RL;rw[ha]at e;cases e;obtain⟨o,ho,hd⟩:=hcell;exact⟨a,RL,o,old a o ho,hd⟩
  ·obtain⟨v,o,ho,hd⟩:=I2.cell x a (c.cl I2.ok h);exact⟨v,o,old a o ho,hd⟩
  ·show upd H2 s2.heap.objs.size (.lst []) G2.objs.size=none;rw[AD (Yj hDC)];exact I2.hok.fresh hCle
  ·obtain⟨v,o,ho,hd⟩:=I2.cell x a (c.cl I2.ok h);rw[AD (Ys (Ye ho))];exact I2.freeC x a (c.cl I2.ok h)
  ·rw[aZ,Yx];have:=congrArg List.length c.slots;rw[Ya,Ya]at this;omega
 have stat:∀ {H':Hp},(∀ b∈fp,H' b=none)->∀ b∈fp,BA (C3 X scope (own++frees) G2.objs.size s2 H2 fp) [] H' b:=λ{H'} hn b hb=>by
  obtain⟨f0,f1,f3,f4,f5,f6⟩:=f2 b hb;refine⟨hn b hb,Ys (Yp (Ab b hb) hCle),λz=>?_,.inl hb,λx a h=>f5 x a (c.cl I2.ok h),λp hp=>absurd (show p∈([]:PL)from hp) (by simp)⟩
  rcases Yr.mp (I2.stkSub b z)with e | e
  ·exact f1 e
  ·exact f3 e
 have loop:∀ s₃:Shared,s₃={s2 with heap:=h₁,toks:=s2.toks + ([]:List (Str×Value)).length} ->
   codeAny (model X.prog X.w) X.A (.compLoop (.ListComp elt [⟨tg,iter,ifs,0⟩] scope pos) 0 (.ref it) (.ref s2.heap.objs.size) (compEnvC scope (B0 X.env scope.names []) G2.objs.size X.env))
    (RR (.ref s2.heap.objs.size) G2.objs.size) s₃:=by
  rintro s₃ rfl;refine eJ (λn s'=>∃ i ys σ' H',Inv (C3 X scope (own++frees) G2.objs.size s2 H2 fp) [] σ' H' s'/\tn i s'.heap/\(∀ b∈fp,H' b=none)/\W i n ys σ' H') ?_ m0
   ⟨0,[],_,_,I0 _,T.keep _ _ _ Eu λb _ o e=>old b o e,λb hb=>by rw[AD (Ys (Ab b hb))];exact(f2 b hb).1,w0⟩
  rintro n s3 ⟨i,ys,σ3,H3,I3,JD,JP,w3⟩ E'
  rcases turn i n ys σ3 H3 w3 with⟨stop,qn⟩ | ⟨go,hz,N,hN,step⟩
  ·refine AK (T.done (C3 X scope (own++frees) G2.objs.size s2 H2 fp) rfl rfl rfl c.calm i [] s3 σ3 H3 E' I3 (stat JP) JD stop) λr s4 ⟨hr,I4⟩=>?_;subst hr;have back:Inv X pins σ H3 s4:=I2.call' (ch:=fp) I4.os I4.base I4.hok I4.bare λb hb=>⟨(f2 b hb).2.2.2.1,(f2 b hb).2.1,(f2 b hb).2.2.2.2.1,(f2 b hb).2.2.2.2.2⟩;exact hR _ _ H3 s4 back (I2.fpOk hCle I4.free) ⟨_,I4.loc.choose_spec.1⟩ qn
  ·refine AK (T.item (C3 X scope (own++frees) G2.objs.size s2 H2 fp) rfl rfl rfl c.calm i [] s3 σ3 H3 E' I3 (stat JP) JD go) λr s4 ⟨u,hr,h4⟩=>?_;subst hr;refine AK h4 λ_ s5 ⟨x,H5,I5,r5,y5,F3,OK⟩=>?_;have P6:=I5.pinned (stat OK) (T.obj _ _ F3);have nof:∀(e:Value) (s':Shared),(C3 X scope (own++frees) G2.objs.size s2 H2 fp).xe e s'->E' e s':=λ_ _ z=>False.elim z;refine Jf (hg _ _ _ _ _ s5 σ3 H5 x u _ P6 r5 (step x H5 y5)) (λ_ s6 ⟨σ6,H6,I6,q6⟩=>?_) nof;refine Jf (ht _ _ _ _ _ s6 σ6 H6 _ I6 q6) (λb s7 ⟨H7,I7,q7⟩=>?_) nof;have again:∀ {σ7:St} {H7:Hp} {s7:Shared} {KC:LV},Inv (C3 X scope (own++frees) G2.objs.size s2 H2 fp) ([]++Mx fp s5.heap) σ7 H7 s7->N KC σ7 H7 ->
     ∃ m,m<n/\∃ i ys σ' H',Inv (C3 X scope (own++frees) G2.objs.size s2 H2 fp) [] σ' H' s7/\tn i s7.heap/\(∀ b∈fp,H' b=none)/\W i m ys σ' H':=λ{σ7 H7 s7 KC} I7 n7=>by
    obtain⟨m',hm,w7⟩:=hN _ _ _ n7;refine⟨m',hm,i + 1,KC,σ7,H7,I7.unpinned,T.keep _ _ _ F3 λb hb o e=>(I7.pin (b,o) (Cq _ (Cq _ (NV hb e)))).1,λb hb=>?_,w7⟩;obtain⟨o,e,d⟩:=T.obj _ _ F3 b hb;exact(I7.pin (b,o) (Cq _ (Cq _ (NV hb e)))).2.1
   cases b with
   | false =>
    rw[if_neg Yq]at q7 ⊢;exact again I7 q7
   | true =>
    rw[if_pos rfl]at q7 ⊢;refine Jf (he _ _ _ _ _ s7 σ6 H7 _ I7 q7) (λv s8 ⟨y,H8,I8,r8,JO,w8⟩=>?_) nof;refine Jf (Hc (X:=C3 X scope (own++frees) G2.objs.size s2 H2 fp) _ s8 σ6 H8 (.ref s2.heap.objs.size) [y] (.ref s2.heap.objs.size) [v] (λ_ H9=>H9=upd H8 s2.heap.objs.size (.lst (ys++[y]))) I8 rfl (.cons r8 .nil) ⟨_,ys,y,Y,Y,JO,hz,Y⟩) (λz s9 ⟨_,H9,I9,_,e9⟩=>?_) nof;subst e9;exact again I9 w8
 exact codeAny_compStart_list (loop _ rfl) (T.self X.A 0 _ _ _ (T.keep _ _ _ Eu λb _ o e=>old b o e) (loop _ rfl))
end
section
variable {X:Cx}{scope:Scope}{own frees:LS}{js:LN}{tg iter elt:Expr}{ifs:List Expr}{wi:TI}{g:TG}{tt:TT}{te:TE}{pos:Pos}
def sQ(n:Nat)(js:LN)(wi:TI)(g:TG)(tt:TT)(te:TE):TE:=λσ H Q=>wi σ H (AR n js g tt te σ Q)
def B5(own frees:LS)(js:LN)(hc:X.Ok->Fe X scope own frees js)(hi:PI X tg iter wi)
  (hg:∀ C s H fp,PG (C3 X scope (own++frees) C s H fp) tg g) (ht:∀ C s H fp,Lh (C3 X scope (own++frees) C s H fp) ifs tt) (he:∀ C s H fp,PE (C3 X scope (own++frees) C s H fp) elt te)
  (hs:∀ x,foldedSetIterable iter X.env x=pure x:=by intro _;rfl):
  PE X (.ListComp elt [⟨tg,iter,ifs,0⟩] scope pos) (sQ own.length js wi g tt te):=by
 ac_rfl;have c:=hc I.ok;rw[eval_ListComp];refine wpAny_comprehension_free (use:=none) rfl hs (WJ (c.cells I.ok)) c.kind c.locals (AK (hi pins s σ H _ I h) λxv s₁ h₁=>AK h₁ λit s₂ h₂=>?_);refine dJ (RR:=λacc C=>compPost (model X.prog X.w) X.A X.xe none (EP X pins σ Q) acc C) c hg ht he h₂ λD C H' s' J F n q=>?_;obtain⟨m,hn⟩:=n;obtain⟨f0,f1,f2,f3,f4,f5⟩:=F;exact⟨m,hn,λh' JI=>⟨.ref D,H',J.turned (t':=s'.toks) (λb o hb e=>JI.extBut b o hb e) f0 f1 f3 f4 f5,Y,q⟩⟩
def bj(k n:Nat)(js:LN)(wi:TI)(g:TG)(tt:TT)(te:TE):TS:=λD σ H=>wi σ H (AR n js g tt te σ λv H1=>D.nx (σ.set k (some v)) H1)
def O7{k:Nat}{y:Str}{py spos:Pos}(own frees:LS)(js:LN)(hN:X.N.Nodup)(hk:X.N[k]?=some y)(hy:X.env.scope.names.lookup y=some .local)(hc:X.Ok->Fe X scope own frees js)(hi:PI X tg iter wi)
  (hg:∀ C s H fp,PG (C3 X scope (own++frees) C s H fp) tg g) (ht:∀ C s H fp,Lh (C3 X scope (own++frees) C s H fp) ifs tt) (he:∀ C s H fp,PE (C3 X scope (own++frees) C s H fp) elt te)
  (hsw:swapsWith (.ListComp elt [⟨tg,iter,ifs,0⟩] scope pos) (some (.Name y py)) spos.line X.env=pure true:=by rfl)
  (hs:∀ x,foldedSetIterable iter X.env x=pure x:=by intro _;rfl):
  PS X (.Assign [.Name y py] (.ListComp elt [⟨tg,iter,ifs,0⟩] scope pos) spos) (bj k own.length js wi g tt te):=by
 intro pins s σ H D I h;have c:=hc I.ok;rw[exec_Assign_Name_used _ _ _ _ hsw];refine Ja (wpAny_standAt (Ja ?_));show wpAny _ X.A (do let _ <- comprehension (.ListComp elt [⟨tg,iter,ifs,0⟩] scope pos) scope X.env _ (newList []) false (eval iter X.env) (some (assign (.Name y py) X.env))) _ _ s;refine Ja (Jf (wpAny_comprehension_free (use:=some (assign (.Name y py) X.env)) (Q:=λ_ s'=>SP X pins D .next s') rfl hs (WJ (c.cells I.ok)) c.kind c.locals
  (AK (hi pins s σ H _ I h) λxv s₁ h₁=>AK h₁ λit s₂ h₂=>?_)) (λ_ s' hq=>Jd (Jd hq)) λ_ _ e=>e)
 refine dJ (RR:=λacc C=>compPost (model X.prog X.w) X.A X.xe (some (assign (.Name y py) X.env)) (λ_ s'=>SP X pins D .next s') acc C) c hg ht he h₂ λA' C H' s' J F n q=>?_;obtain⟨m,hn⟩:=n;obtain⟨f0,f1,f2,f3,f4,f5⟩:=F;show wpAny _ X.A (assign (.Name y py) X.env (.ref A')) _ _ _;refine wpAny_assign_Name (Vx J hN hk (.inl hy) (v:=.ref A') rfl (λBr J' ⟨a,sb,ha⟩=>?_) (.inr hy));have B9:a≠C:=by
  rcases ha with e | e
  ·rw[e];exact Yj f1
  ·exact f4 y a e
 refine⟨m,hn.sameBut sb (Yj B9),λh' JI=>⟨_,H',J'.turned (t':=Br.toks) (λb o hb e=>JI.extBut b o hb e) f0 f1 f3 f4 f5,q⟩⟩
end
def NH{J:It}{xs:LV}{Ok:Hp->Prop}(R:Fc J xs Ok){n:Nat}{js:LN}{g:TG}{tt:TT}{te:TE}{σ:St}{Q:VK}{H1:Hp}(hz:xs.length<=sizeLine)
  (Pv:Addr->Nat->LV->St->Hp->Prop) (h0:∀ D,H1 D=none->Pv D 0 [] (HC n js σ) (upd H1 D (.lst [])))
  (hok:∀ D i ys σ' H,i<=xs.length->Pv D i ys σ' H->Ok H/\ys.length<=i)
  (hs:∀ D i x ys σ' H,H1 D=none->xs[i]?=some x->Pv D i ys σ' H->g x σ' H λσ3 H3=>tt σ3 H3 λb H4 =>
   if b=true then te σ3 H4 λv H5=>H5 D=some (.lst ys)/\Pv D (i + 1) (ys++[v]) σ3 (upd H5 D (.lst (ys++[v])))else Pv D (i + 1) ys σ3 H4)
  (hd:∀ D ys σ' H,H1 D=none->Pv D xs.length ys σ' H->Q (.ref D) H):
  AR n js g tt te σ Q J H1:=by
 intro D hD;refine⟨λi m ys σ' H=>m=xs.length - i/\i<=xs.length/\Pv D i ys σ' H,⟨xs.length,by simp,A7 _,h0 D hD⟩,?_⟩;rintro i m ys σ' H ⟨rfl,hi,p⟩;obtain⟨q,hy⟩:=hok D i ys σ' H hi p;by_cases Ab:i<xs.length
 ·have hx:xs[i]?=some xs[i]:=by simp[Ab]
  refine .inr ⟨R.go i _ H q hx,W,Pv D (i + 1),λKA σ3 H3 p3=>⟨xs.length - (i + 1),W,Y,Ab,p3⟩,λx H' y=>?_⟩;obtain⟨e1,e2⟩:=R.yld i _ H x H' q hx y;rw[e2];exact hs D i x ys σ' H hD (by rw[e1];exact hx) p
 ·have e:i=xs.length:=by omega
  subst e;exact .inl ⟨R.stop H q,hd D ys σ' H hD p⟩
def K1{J:It}{xs:LV}{Ok:Hp->Prop}(R:Fc J xs Ok){js:LN}{tt:TT}{te:TE}{σ:St}{Q:VK}{H1:Hp}(hz:xs.length<=sizeLine)(p:V->Bool)(f:V->V)
  (hok:∀ D ys,H1 D=none->Ok (upd H1 D (.lst ys)))
  (ht:∀ D ys x (R:Bool->Hp->Prop),H1 D=none->x∈xs->R (p x) (upd H1 D (.lst ys))->tt (some x :: js.map λj=>(σ[j]?).join) (upd H1 D (.lst ys)) R)
  (he:∀ D ys x (R:V->Hp->Prop),H1 D=none->x∈xs->p x=true->R (f x) (upd H1 D (.lst ys))->te (some x :: js.map λj=>(σ[j]?).join) (upd H1 D (.lst ys)) R)
  (hd:∀ D,H1 D=none->Q (.ref D) (upd H1 D (.lst ((xs.filter p).map f)))):
  AR 1 js (C2 0) tt te σ Q J H1:=by
 refine NH R hz (λD i ys σ' H=>H1 D=none/\ys=((xs.take i).filter p).map f/\(∃ o,σ'=o :: js.map λj=>(σ[j]?).join)/\H=upd H1 D (.lst ys)) ?_ ?_ ?_ ?_
 ·intro D hD;exact⟨hD,by simp,⟨none,Y⟩,Y⟩
 ·rintro D i ys σ' H hi ⟨hD,e,_,rfl⟩;refine⟨hok D ys hD,?_⟩;rw[e,Ya];exact A6 (Jv _ _) (by rw[Yz];omega)
 ·rintro D i x ys σ' H hD hx ⟨_,e,⟨o,rfl⟩,rfl⟩;show tt (some x :: js.map λj=>(σ[j]?).join) (upd H1 D (.lst ys)) _;have hm:x∈xs:=Yh hx;refine ht D ys x _ hD hm ?_;cases hp:p x with
  | true =>
   rw[if_pos rfl];refine he D ys x _ hD hm hp ⟨uS,hD,?_,⟨Z⟩,M7⟩;rw[take_succ_filter p xs i x hx,hp,Bw,e];rfl
  | false =>
   rw[if_neg Yq];refine⟨hD,?_,⟨Z⟩,Y⟩;rw[take_succ_filter p xs i x hx,hp,Bw,e];simp
 ·rintro D ys σ' H hD ⟨_,e,_,rfl⟩;rw[FJ]at e;rw[e];exact hd D hD
section
variable {X:Cx}
def cM{bs:List Bool}{its:LU}(r:AO (bs.map V.bl) its):∀(i:Nat) (v:Value),its[i]?=some v->v=Value.bool (bs.getD i false):=λi v h=>by
 have hl:=r.length;rw[Ya]at hl;have hi:i<its.length:=(Yn.mp h).1;have hb:(bs.map V.bl)[i]?=some (V.bl (bs.getD i false)):=by
  rw[Yf,Yk];have:i<bs.length:=by omega
  simp[this]
 obtain⟨u,hu,ru⟩:=r.get hb;rw[h]at hu;cases hu;exact ru
def nZ{bs:List Bool}:(List.range bs.length).all (λi=>bs.getD i false)=bs.all id:=by
 rw[Io];simp only[Bc,Cz,id];constructor
 ·intro h b hb;obtain⟨i,hi,e⟩:=Nh.mp hb;have:=h i hi;rw[Yk]at this;simpa[hi,e]using this
 ·intro h i hi;rw[Yk];simp only[Yb hi,Option.getD_some];exact h _ (Jw hi)
def ng{bs:List Bool}:(List.range bs.length).any (λi=>bs.getD i false)=bs.any id:=by
 rw[Io];simp only[Fx,Cz,id];constructor
 ·rintro⟨i,hi,e⟩;rw[Yk]at e;simp only[Yb hi,Option.getD_some]at e;exact⟨_,Jw hi,e⟩
 ·rintro⟨b,hb,e⟩;obtain⟨i,hi,e'⟩:=Nh.mp hb;refine⟨i,hi,?_⟩;rw[Yk];simp only[Yb hi,Option.getD_some];rw[e',e]
def IG(K:Fg)(f:List Bool->Bool):LV->Hp->VK->Prop:=λxs H Q=>∃ a bs,xs=[.ref a]/\SqL K H a (bs.map V.bl)/\Q (.bl (f bs)) H
def NF(hc:X.calm=true):Eg X (.builtin "all") (IG X.K λbs=>bs.all id):=by
 intro pins s σ H xs us Q I r h;obtain⟨a,bs,rfl,ha,q⟩:=h;obtain⟨u,rfl,ru⟩:=FA r;cases ru;obtain⟨its,rv,p,hz⟩:=I.list ha;have hl:=rv.length;rw[Ya]at hl;refine call_all_walk (wpAny_pyIter_list p.isList ?_);have B9:a≠s.heap.objs.size:=by
  obtain⟨o,ho,_⟩:=p.isList;exact Ys (Ye ho)
 refine⟨s.heap.objs.size,_,_,_,_,_,λi=>bs.getD i false,Y,Walks.list (A:=X.A.in1) (I.ok.hd hc) s.heap.objs.size a B9 its.toArray,⟨⟨_,Yl _ rfl,Y,Y⟩,?_⟩,?_,?_⟩
 ·obtain⟨o,ho,r'⟩:=p.isList;exact⟨o,Yc _ ho,r'⟩
 ·intro i v s' Q' E' hv hq;have e:=cM rv i v (by simpa using hv);subst e;exact Jh hq
 ·intro h' tk hk;refine⟨.bl (bs.all id),H,I.kept λb o e=>hk b o ?_ (Yc _ e),?_,q⟩
  ·have hb:=Ye e;intro z;have z':b=s.heap.objs.size:=by simpa using z
   exact Ys hb z'
  ·have:its.toArray.size=bs.length:=by simp[hl]
   rw[this,nZ];rfl
def SD(hc:X.calm=true):Eg X (.builtin "any") (IG X.K λbs=>bs.any id):=by
 intro pins s σ H xs us Q I r h;obtain⟨a,bs,rfl,ha,q⟩:=h;obtain⟨u,rfl,ru⟩:=FA r;cases ru;obtain⟨its,rv,p,hz⟩:=I.list ha;have hl:=rv.length;rw[Ya]at hl;refine call_any_walk (wpAny_pyIter_list p.isList ?_);have B9:a≠s.heap.objs.size:=by
  obtain⟨o,ho,_⟩:=p.isList;exact Ys (Ye ho)
 refine⟨s.heap.objs.size,_,_,_,_,_,λi=>bs.getD i false,Y,Walks.list (A:=X.A.in1) (I.ok.hd hc) s.heap.objs.size a B9 its.toArray,⟨⟨_,Yl _ rfl,Y,Y⟩,?_⟩,?_,?_⟩
 ·obtain⟨o,ho,r'⟩:=p.isList;exact⟨o,Yc _ ho,r'⟩
 ·intro i v s' Q' E' hv hq;have e:=cM rv i v (by simpa using hv);subst e;exact Jh hq
 ·intro h' tk hk;refine⟨.bl (bs.any id),H,I.kept λb o e=>hk b o ?_ (Yc _ e),?_,q⟩
  ·have hb:=Ye e;intro z;have z':b=s.heap.objs.size:=by simpa using z
   exact Ys hb z'
  ·have:its.toArray.size=bs.length:=by simp[hl]
   rw[this,ng];rfl
def rp(i j:Int):Prop:=Builtin.Int.intBits i<=2 ^ 20/\Builtin.Int.intBits j<=2 ^ 20
def VW:BO X (binaryOp .Mult) (rI rp λi j=>.int (i * j)):=MO λ_ _ _ _ _ _ _ hc q=>mul_int q (IntMulOk.of_bits hc.1 hc.2)
def rn(i j:Int):Prop:=0<j/\j<4611686018427387904
def k8:BO X (binaryOp .FloorDiv) (rI rn λi j=>.int (i / j)):=MO λi j _ _ _ _ _ hc q=>by
 have h1:(0:Int)<j:=hc.1;have h2:j<4611686018427387904:=hc.2;refine floordiv_int (by omega) (by rw[Int.fdiv_eq_ediv_of_nonneg i (by omega)];exact q) (.inl (PyProof.noPylong_of_log2 ?_));have h3:j.natAbs.log2<62:=(Nat.log2_lt (by omega)).mpr (by omega);omega
def qu:V->Option Int->Option Int->Hp->VK->Prop:=λx lo hi H Q=>∃ z,x=.str z/\z.length<=sizeLine/\Q (.str (Txt.slice z lo hi)) H
def U7:P1 X qu:=by
 intro pins s σ H x v vl vu lo hi sl Q I rx hs pl pu h;obtain⟨z,rfl,hz,q⟩:=h;obtain⟨t,rfl⟩:=rx;refine⟨"str",_,F.slot_str_getitem.lookup,typeIs_str _ _ _,?_⟩;have fin:∀ t' k,EP X pins σ Q (.str (Txt.slice z lo hi) t') {s with toks:=k}:=λt' k=>⟨.str _,H,I.tok _,⟨Z⟩,q⟩;have hsz:=A6 (Txt.slice_le z lo hi) hz;obtain⟨o,h1,h2,h3⟩:=hs;cases pl with
 | none =>
  cases pu with
  | none=>exact wpAny_getItem_str_slice (l:=none) (u:=none) (st:=none) ⟨o,h1,h2,h3⟩ rfl (post_val_or_str ⟨hsz,fin⟩)
  | int j uj=>exact wpAny_getItem_str_slice (l:=none) (u:=some (j,uj)) (st:=none) ⟨o,h1,h2,h3⟩ rfl (post_val_or_str ⟨hsz,fin⟩)
 | int i ui =>
  cases pu with
  | none=>exact wpAny_getItem_str_slice (l:=some (i,ui)) (u:=none) (st:=none) ⟨o,h1,h2,h3⟩ rfl (post_val_or_str ⟨hsz,fin⟩)
  | int j uj=>exact wpAny_getItem_str_slice (l:=some (i,ui)) (u:=some (j,uj)) (st:=none) ⟨o,h1,h2,h3⟩ rfl (post_val_or_str ⟨hsz,fin⟩)
def qp(K:Fg):LV->Hp->VK->Prop:=λxs H Q=>∃ x n t b,xs=[x,.ty n]/\E4 K H x t/\W.kitOne K t (.type n)=some b/\Q (.bl b) H
def Vc:Eg X (.builtin "isinstance") (qp X.K):=by
 intro pins s σ H xs us Q I r h;obtain⟨x,n,t,b,rfl,ty,e,q⟩:=h;obtain⟨u,w',rfl,r1,r2⟩:=Uw r;cases r2;exact mO I r1 ty e λtk=>⟨.bl b,H,I.tok _,Y,q⟩
end
def gR(osc:Scope)(on:LS)(scope:Scope)(frees:LS)(js:LN):Bool :=
 (scope.kind == .function)&&scope.names.all (λy=>y.2 != .cell)&&scope.names.all (λy=>y.2 != .local || scope.names.lookup y.1 == some .local) &&
 scope.names.all (λy=>y.2 != .free || (osc.names.lookup y.1 == some .cell || osc.names.lookup y.1 == some .free))&&frees.all (λx=>scope.names.lookup x == some .free)&&decide (js.map (λj=>on[j]?)=frees.map some)
def BU{X:Cx}{osc scope:Scope}{on own frees:LS}{js:LN}(h:gR osc on scope frees js=true)(h1:X.env.scope=osc)(h2:X.N=on)(h3:X.calm=true):Fe X scope own frees js:=by
 subst h1;subst h2;unfold gR at h;simp only[Dl,Bc,decide_eq_true_eq,Bool.or_eq_true,bne_iff_ne,beq_iff_eq,ne_eq]at h;obtain⟨⟨⟨⟨⟨a,b⟩,c⟩,d⟩,e⟩,f⟩:=h;exact⟨h3,a,b,λy hy z=>(c y hy).resolve_left (λq=>q z),λy hy z=>(d y hy).resolve_left (λq=>q z),e,f⟩
def CG(t u:TS):TS:=λD σ H=>∃ M:SW,t {D with nx:=M} σ H/\∀ σ' H',M σ' H'->u D σ' H'
def B6{X:Cx}{st:Stmt}{Au:List Stmt}{t u:TS}(h1:PS X st t)(h2:Bo X Au u):Bo X (st :: Au) (CG t u):=by
 intro pins s σ H D I h;obtain⟨M,h,hM⟩:=h;refine wpAny_execs_cons (AK (h1 pins s σ H {D with nx:=M} I h) λf s1 q=>?_);cases f with
 | next =>
  obtain⟨σ',H',I',q⟩:=q;exact h2 pins s1 σ' H' D I' (hM _ _ q)
 | ret v=>exact q
 | brk=>exact q
 | cont=>exact q
structure Def(K:Fg)(mg:Str->OU)(x:Str)(st:Stmt)(ps:LS)(f:Addr)(fd:FuncData):Prop where
 fn:BV K x x st f fd
 b:Cj K fd ps []
 m:mg x=some (.ref f)
def AN{X:Cx}{k:Nat}{ps:LS}{sp:Sp}{x:Str}{st:Stmt}{p pos:Pos}{e:Expr}{es:List Expr}{t:TA}(d:Def X.K X.mg x st ps f fd)(F:Ax X.prog X.w X.K X.mg X.base Hk k f fd ps sp)(hr:AV k X.A)
  (ha:PA X (e :: es) t) (hg:Gl X x:=by rfl) (hdb:(x == ("__debug__":Str))=false:=by decide) (he:starEach (e :: es) X.env=(false,eval e X.env):: starEach es X.env:=by rfl) (hpl:(backTo pos (starEach es X.env)).any (·.1)=false:=by rfl):
  PE X (.Call (.Name x p) (e :: es) [] pos) (gg sp [] E0 t):=Ku F hr hg d.m d.fn.kp d.b .nil DX ha hdb he hpl
def sL{n:Nat}(h:n<=100000):n<=sizeLine:=by rw[sizeLine_eq];omega
end L2
namespace L2
open PySem PySem.Spec PyProof.Rows PySem.W
mutual
inductive Rep(K:Fg)(H:Hp):V->Dat->Prop
 | none:Rep K H .non .none
 | bool (b:Bool):Rep K H (.bl b) (.bool b)
 | int (i:Int):Rep K H (.int i) (.int i)
 | str (x:Str):Rep K H (.str x) (.str x)
 | tuple {a:Addr} {xs:LV} {ds:List Dat}:AJ K H a xs->Am K H xs ds->Rep K H (.ref a) (.tuple ds)
 | list {a:Addr} {xs:LV} {ds:List Dat}:SqL K H a xs->Am K H xs ds->Rep K H (.ref a) (.list ds)
inductive Am(K:Fg)(H:Hp):LV->List Dat->Prop
 | nil:Am K H [] []
 | cons {v:V} {vs:LV} {d:Dat} {ds:List Dat}:Rep K H v d->Am K H vs ds->Am K H (v :: vs) (d :: ds)
end
def AB.tup{K:Fg}{H H':Hp}{a:Addr}{xs:LV}(e:AB H H')(h:AJ K H a xs):AJ K H' a xs:=by
 rcases h with(h | ⟨o,h⟩) | h
 ·exact .inl (.inl (e _ _ h))
 ·exact .inl (.inr ⟨o,e _ _ h⟩)
 ·exact .inr h
mutual
theorem Rep.mono{K:Fg}{H H':Hp}(e:AB H H'):∀ {v:V}{d:Dat},Rep K H v d->Rep K H' v d
 | _,_,.none=>.none
 | _,_,.bool b=>.bool b
 | _,_,.int i=>.int i
 | _,_,.str x=>.str x
 | _,_,.tuple h r=>.tuple (e.tup h) (Am.mono e r)
 | _,_,.list h r=>.list (e.seq h) (Am.mono e r)
theorem Am.mono{K:Fg}{H H':Hp}(e:AB H H'):∀ {vs:LV}{ds:List Dat},Am K H vs ds->Am K H' vs ds
 | _,_,.nil=>.nil
 | _,_,.cons h r=>.cons (Rep.mono e h) (Am.mono e r)
end
section
variable {X:Cx}{pins:PL}{σ:St}{H:Hp}{s:Shared}
mutual
theorem Rep.reads(I:Inv X pins σ H s):∀ {v:V}{d:Dat}{u:Value},Rep X.K H v d->AS v u->∃ as,Reads s.heap u (kqdP d) as
 | _,_,_,.none,r=>by cases(show _=Value.none from r);rw[kqdP];exact⟨_,Reads.none⟩
 | _,_,_,.bool b,r=>by cases(show _=Value.bool b from r);rw[kqdP];exact⟨_,Reads.bool b⟩
 | _,_,_,.int i,r=>by obtain⟨t,e⟩:=(show ∃ t,_=Value.int i t from r);cases e;rw[kqdP];exact⟨_,Reads.int i t⟩
 | _,_,_,.str x,r=>by obtain⟨t,e⟩:=(show ∃ t,_=Value.str x t from r);cases e;rw[kqdP];exact⟨_,Reads.str x t⟩
 | _,_,_,.tuple (a:=a) h q,r=>by
  cases(show _=Value.ref a from r);obtain⟨its,rv,⟨o,e,c,n,d⟩,_⟩:=I.tuple h;obtain⟨as,p⟩:=Am.reads I q rv;rw[kqdP];exact⟨as,reads_tuple_at e c d (by simpa using p)⟩
 | _,_,_,.list (a:=a) h q,r=>by
  cases(show _=Value.ref a from r);obtain⟨its,rv,⟨o,n,e,c,_,d⟩,_⟩:=I.list h;obtain⟨as,p⟩:=Am.reads I q rv;rw[kqdP];exact⟨_,reads_list_at e c d (by simpa using p)⟩
theorem Am.reads(I:Inv X pins σ H s):∀ {vs:LV}{ds:List Dat}{us:LU},Am X.K H vs ds->AO vs us->∃ as,ReadsAll s.heap us (kqdPs ds) as
 | _,_,_,.nil,r=>by cases r;rw[kqdPs];exact⟨_,ReadsAll.nil⟩
 | _,_,_,.cons h q,r=>by
  cases r with
  | cons r1 r2 =>
   obtain⟨as,p⟩:=Rep.reads I h r1;obtain⟨bs,t⟩:=Am.reads I q r2;rw[kqdPs];exact⟨_,ReadsAll.cons p t⟩
end
end
def Bt(d e:Dat):Bool:=@decide (d=e) (Classical.propDecidable _)
def EM(d:Dat):Bt d d=true:=by unfold Bt;exact @Jb _ (Classical.propDecidable _) rfl
def vM{d e:Dat}(h:d=e):Bt d e=true:=by rw[h];exact EM e
def Gm{d e:Dat}(h:d≠e):Bt d e=false:=by unfold Bt;exact @Jc _ (Classical.propDecidable _) h
def Rw{d e:Dat}{n k:Nat}(h1:kqdOk n d=true)(h2:kqdOk k e=true):PyData.eqv (kqdP d) (kqdP e)=Bt d e:=by
 have q:=kqd_eqv n d e k h1 h2;by_cases h:d=e
 ·rw[vM h];exact q.mpr h
 ·rw[Gm h];exact Bool.eq_false_iff.mpr λx=>h (q.mp x)
def IZ{d:Dat}(h:kqdOk 9 d=true):SeqAt.shaped (kqdP d)=true:=by
 have l:=kqd_lay 9 d h;unfold SeqAt.shaped;rw[l.1,LG];exact Jb (A6 l.2 (by decide))
section
variable {X:Cx}
def fX(K:Fg)(f:Bool->Bool):R2:=λx y H Q=>∃ d e,Rep K H x d/\Rep K H y e/\kqdOk 9 d=true/\kqdOk 9 e=true/\Q (.bl (f (Bt d e))) H
def Rk(hu:X.A.units + 64<cLine):BO X (compareOp .Eq) (fX X.K id):=by
 exfalso;obtain⟨d,e,h1,h2,k1,k2,q⟩:=h;obtain⟨as,ra⟩:=h1.reads I rx;obtain⟨bs,rb⟩:=h2.reads I ry;exact eq_dataH ra rb (IZ k1) (IZ k2) hu (BD I q (by rw[Rw k1 k2];rfl))
def Kq(hu:X.A.units + 64<cLine):BO X (compareOp .NotEq) (fX X.K Bool.not):=by
 exfalso;obtain⟨d,e,h1,h2,k1,k2,q⟩:=h;obtain⟨as,ra⟩:=h1.reads I rx;obtain⟨bs,rb⟩:=h2.reads I ry;exact ne_dataH ra rb (IZ k1) (IZ k2) hu (BD I q (by rw[Rw k1 k2]))
end
end L2
namespace L2
open PySem PySem.Spec PyProof.Rows
section
variable {X:Cx}{pins:PL}{σ:St}{H H':Hp}{s:Shared}{a:Addr}{kvs:KL}{o:Obj}
def Inv.reH(I:Inv X pins σ H s)(base:Un X.fs X.ex X.H₀ H' X.s₀.heap s.heap)(hn:∀ b,H b=none->H' b=none)(hok:BE X.prog X.w H' s.heap):Inv X pins σ H' s :=
 ⟨I.ok,I.os,I.bare,base,I.loc,I.cell,hn _ I.free,λx c e=>hn _ (I.freeC x c e),λp hp=>by
  obtain⟨e,n,r⟩:=I.pin p hp;exact⟨e,hn _ n,r⟩,hok,I.len⟩
def Inv.reAt{u u':HO}(I:Inv X pins σ H s)(h:H a=some u)(nt:∀ xs,u≠.tup xs)(no:∀ y,u≠.own y)(nb:∀ ps,u≠.tbl ps)(nf:∀ o v,X.H₀ a≠some (.frz o v))
  (ok:A2 X.prog X.w H s.heap a u->A2 X.prog X.w (upd H a u') s.heap a u'):Inv X pins σ (upd H a u') s:=by
 have hn:∀ b,H b=none->upd H a u' b=none:=λb e=>by
  rw[AD]
  ·exact e
  ·rintro rfl;rw[h]at e;cases e
 refine I.reH ⟨I.base.keep,I.base.slot,λb ob e n hx=>hn b (I.base.free b ob e n hx),I.base.there,λb xs e=>?_,λb ob v e=>?_,λb ps e=>?_⟩ hn ?_
 ·have q:=I.base.tups b xs e;rw[AD]
  ·exact q
  ·rintro rfl;rw[h]at q;exact nt xs (Yv q)
 ·have q:=I.base.frzs b ob v e;rw[AD]
  ·exact q
  ·rintro rfl;exact nf ob v e
 ·obtain⟨m,q⟩:=I.base.tbls b ps e;refine⟨m,?_⟩;rw[AD]
  ·exact q
  ·rintro rfl;rw[h]at q;exact nb _ (Yv q)
 ·intro b v e;by_cases hb:b=a
  ·subst hb;rw[uS]at e;cases e;exact ok (I.hok b u h)
  ·rw[AD hb]at e;refine(I.hok b v e).stay (λ_ _ _ q=>q) (λc q=>?_) λc xs q=>?_
   ·rw[AD]
    ·exact q
    ·rintro rfl;rw[h]at q;exact no _ (Yv q)
   ·rw[AD]
    ·exact q
    ·rintro rfl;rw[h]at q;exact nt _ (Yv q)
def Inv.freeze(I:Inv X pins σ H s)(h:H a=some (.dK kvs))(ho:s.heap.get? a=some o):Inv X pins σ (upd H a (.frz o (.dK kvs))) s/\∀ o' v,X.H₀ a≠some (.frz o' v):=by
 have nf:∀ o' v,X.H₀ a≠some (.frz o' v):=λo' v e=>by
  have q:=I.base.frzs a o' v e;rw[h]at q;cases q
 refine⟨I.reAt h (λ_ z=>nomatch z) (λ_ z=>nomatch z) (λ_ z=>nomatch z) nf λk=>⟨ho,k.stay (λ_ _ _ q=>q) (λc q=>?_) λc xs q=>?_⟩,nf⟩
 ·rw[AD]
  ·exact q
  ·rintro rfl;rw[h]at q;cases q
 ·rw[AD]
  ·exact q
  ·rintro rfl;rw[h]at q;cases q
def Zm{P:Program}{w:World}{k:Key}{u:Value}(h:(CT P w).is k u=true):AS (kV k) u:=by
 rcases Hd (show Kl k u=true from h)with⟨i,t,rfl,rfl⟩ | ⟨x,t,rfl,rfl⟩
 ·exact⟨t,Y⟩
 ·exact⟨t,Y⟩
end
def XA(a:Addr)(o:Obj)(kvs:KL):It :=
 ⟨λi H=>i<kvs.length/\H a=some (.frz o (.dK kvs)),λi H v H'=>H'=H/\∃ p,kvs[i]?=some p/\v=kV p.1,λi H=>kvs.length<=i/\H a=some (.frz o (.dK kvs))⟩
def W9(a:Addr)(o:Obj)(kvs:KL):It :=
 ⟨λi H=>i<kvs.length/\H a=some (.frz o (.dK kvs)),λi H v H'=>H'=H/\∃ p,kvs[i]?=some p/\v=p.2,λi H=>kvs.length<=i/\H a=some (.frz o (.dK kvs))⟩
theorem KV.get{κ:Type}:∀ {kvs:List (κ×V)}{vs:List (κ×Value)},KV kvs vs->∀ {i:Nat}{p:κ×V},kvs[i]?=some p->∃ u,vs[i]?=some (p.1,u)/\AS p.2 u
 | _,_,.nil,i,p,h=>by simp at h
 | _,_,.cons r t,0,p,h=>by
  simp at h;subst h;exact⟨_,by simp[r.1],r.2⟩
 | _,_,.cons r t,i + 1,p,h=>by
  obtain⟨u,h1,h2⟩:=KV.get t (i:=i) (p:=p) (by simpa using h);exact⟨u,by simpa using h1,h2⟩
def M8{P:Program}{w:World}{H:Hp}{h:Heap}{a:Addr}{o:Obj}{kvs:KL}{es:Array DictEntry}{ep:Nat}(ok:A2 P w H h a (.frz o (.dK kvs)))(hd:o.data=.dict es ep):
  (a == sysModules)=false/\∃ vs,KV kvs vs/\h.DictAt (CT P w) a vs ep:=by
 obtain⟨ho,z,hs,vs,r,o',Mc,Mf,h1,h2,h3,h4,h5,h6⟩:=ok;rw[ho]at h1;cases h1;rw[hd]at h3;cases h3;exact⟨hs,vs,r,o,es,ho,h2,hd,h4,h5,h6⟩
def nX{P:Program}{w:World}{K:Fg}{tg:Expr}(a it:Addr)(o:Obj)(kvs:KL)(es:Array DictEntry)(ep:Nat)(hd:o.data=.dict es ep):
  E3 P w K tg (XA a o kvs) [it] it (λi h=>h.IsKeyIter it a i kvs.length ep) where
 mem:=by simp
 obj:=λi h st b hb=>by
  have e:b=it:=by simpa using hb
  subst e;obtain⟨o,e,c,d⟩:=st;exact⟨o,e,λv z=>by rw[d]at z;cases z⟩
 keep:=λi h h' st k=>by
  obtain⟨o,ho,r⟩:=st;exact⟨o,k it (by simp) o ho,r⟩
 item:=by
  intro X hP hw hK hc i pins s σ H E I hf st hg;subst hP hw hK;obtain⟨f0,f1,f2,f3,f4,f5⟩:=hf it (by simp);obtain⟨hi,ha⟩:=hg;obtain⟨_,vs,r,dd⟩:=M8 (I.hok a _ ha) hd;obtain⟨p,hp⟩:∃ p,kvs[i]?=some p:=⟨kvs[i],by simp[hi]⟩;obtain⟨u,hu,ru⟩:=r.get hp;have hl:kvs.length=vs.length:=Ba r;rw[hl]at st;refine wpAny_pyNext_dict_item st dd hu λkey h' hk Ay sb=>?_;have I1:Inv X pins σ H {s with heap:=h' }:=I.turned (t':=s.toks) (λb o hb e=>(sb.2 b hb).trans e) f0 f1 f3 f4 f5;obtain⟨o',e,c,d⟩:=id Ay;rw[<- hl]at Ay;exact⟨key,Y,Mn (s:={s with heap:=h' }) e c d (by decide) ⟨kV p.1,H,I1,Zm hk,⟨Y,p,hp,Y⟩,Ay,λb hb=>(hf b hb).1⟩⟩
 done:=by
  intro X hP hw hK hc i pins s σ H E I hf st hg;subst hP hw hK;obtain⟨f0,f1,f2,f3,f4,f5⟩:=hf it (by simp);obtain⟨hi,ha⟩:=hg;obtain⟨_,vs,r,dd⟩:=M8 (I.hok a _ ha) hd;have hl:kvs.length=vs.length:=Ba r;rw[hl]at st;exact wpAny_pyNext_dict_end (I.ok.hd hc) st dd (by simp;omega) λh' eb=>⟨Y,I.turned (t':=s.toks) (λb o hb e=>eb b o hb e) f0 f1 f3 f4 f5⟩
 self:=λ_ _ _ _ _ st h=>wpAny_pyIter_keyiter st h
def nY{P:Program}{w:World}{K:Fg}{tg:Expr}(a it:Addr)(o:Obj)(kvs:KL)(es:Array DictEntry)(ep:Nat)(hd:o.data=.dict es ep):
  E3 P w K tg (W9 a o kvs) [it] it (λi h=>h.IsValIter it a i kvs.length ep) where
 mem:=by simp
 obj:=λi h st b hb=>by
  have e:b=it:=by simpa using hb
  subst e;obtain⟨o,e,c,d⟩:=st;exact⟨o,e,λv z=>by rw[d]at z;cases z⟩
 keep:=λi h h' st k=>by
  obtain⟨o,ho,r⟩:=st;exact⟨o,k it (by simp) o ho,r⟩
 item:=by
  intro X hP hw hK hc i pins s σ H E I hf st hg;subst hP hw hK;obtain⟨f0,f1,f2,f3,f4,f5⟩:=hf it (by simp);obtain⟨hi,ha⟩:=hg;obtain⟨_,vs,r,dd⟩:=M8 (I.hok a _ ha) hd;obtain⟨p,hp⟩:∃ p,kvs[i]?=some p:=⟨kvs[i],by simp[hi]⟩;obtain⟨u,hu,ru⟩:=r.get hp;have hl:kvs.length=vs.length:=Ba r;rw[hl]at st;refine wpAny_pyNext_values_item st dd hu λh' Ay sb=>?_;have I1:Inv X pins σ H {s with heap:=h' }:=I.turned (t':=s.toks) (λb o hb e=>(sb.2 b hb).trans e) f0 f1 f3 f4 f5;obtain⟨o',e,c,d⟩:=id Ay;rw[<- hl]at Ay;exact⟨u,Y,Mn (s:={s with heap:=h' }) e c d (by decide) ⟨p.2,H,I1,ru,⟨Y,p,hp,Y⟩,Ay,λb hb=>(hf b hb).1⟩⟩
 done:=by
  intro X hP hw hK hc i pins s σ H E I hf st hg;subst hP hw hK;obtain⟨f0,f1,f2,f3,f4,f5⟩:=hf it (by simp);obtain⟨hi,ha⟩:=hg;obtain⟨_,vs,r,dd⟩:=M8 (I.hok a _ ha) hd;have hl:kvs.length=vs.length:=Ba r;rw[hl]at st;exact wpAny_pyNext_values_end (I.ok.hd hc) st dd (by simp;omega) λh' eb=>⟨Y,I.turned (t':=s.toks) (λb o hb e=>eb b o hb e) f0 f1 f3 f4 f5⟩
 self:=λ_ _ _ _ _ st h=>wpAny_pyIter_valiter st h
def rO(t:TS):TS:=λD σ H=>∃ a kvs,H a=some (.dK kvs)/\∀ o,t D σ (upd H a (.frz o (.dK kvs)))
def VX{X:Cx}{sts:List Stmt}{t:TS}(h:Bo X sts t):Bo X sts (rO t):=by
 intro pins s σ H D I q;obtain⟨a,kvs,ha,q⟩:=q;obtain⟨o,ho⟩:∃ o,s.heap.get? a=some o:=by
  obtain⟨_,_,vs,_,o,_,_,e,_⟩:=I.hok a _ ha;exact⟨o,e⟩
 exact h pins s σ _ D (I.freeze ha ho).1 (q o)
def bb{P:Program}{w:World}{H:Hp}{h:Heap}{a:Addr}{o:Obj}{kvs:KL}(ok:A2 P w H h a (.frz o (.dK kvs))):∃ es ep,o.data=.dict es ep:=by
 obtain⟨ho,z,hs,vs,r,o',Mc,Mf,h1,h2,h3,_⟩:=ok;rw[ho]at h1;cases h1;exact⟨Mc,Mf,h3⟩
def ck{a:Addr}{o:Obj}{kvs:KL}:Fc (XA a o kvs) (kvs.map λp=>kV p.1) (λH=>H a=some (.frz o (.dK kvs))) where
 go:=λi x H ok hx=>by
  have:=(Yn.mp hx).1;rw[Ya]at this;exact⟨this,ok⟩
 yld:=λi x H y H' ok hx h=>by
  obtain⟨e,p,hp,hy⟩:=h;rw[Yf,hp]at hx;exact⟨hy.trans (Yv hx),e⟩
 stop:=λH ok=>⟨by rw[Ya];exact Yd _,ok⟩
def nh{a:Addr}{o:Obj}{kvs:KL}:Fc (W9 a o kvs) (kvs.map λp=>p.2) (λH=>H a=some (.frz o (.dK kvs))) where
 go:=λi x H ok hx=>by
  have:=(Yn.mp hx).1;rw[Ya]at this;exact⟨this,ok⟩
 yld:=λi x H y H' ok hx h=>by
  obtain⟨e,p,hp,hy⟩:=h;rw[Yf,hp]at hx;exact⟨hy.trans (Yv hx),e⟩
 stop:=λH ok=>⟨by rw[Ya];exact Yd _,ok⟩
section
variable {X:Cx}{tg:Expr}
def sv(tl:TE):TI:=λσ H R=>tl σ H λx H1=>∃ a o kvs,x=.ref a/\H1 a=some (.frz o (.dK kvs))/\R (XA a o kvs) H1
def aT{l:Expr}{tl:TE}(hl:PE X l tl):PI X tg l (sv tl):=by
 intro pins s σ H R I h;refine AK (hl pins s σ H _ I h) λv s1 ⟨x,H1,I1,r1,q1⟩=>?_;obtain⟨a,o,kvs,e,ha,q⟩:=q1;subst e;cases r1;obtain⟨es,ep,hd⟩:=bb (I1.hok a _ ha);obtain⟨hs,vs,r,dd⟩:=M8 (I1.hok a _ ha) hd;have hl:kvs.length=vs.length:=Ba r;refine wpAny_pyIter_dict hs dd ?_;refine⟨s1.heap.objs.size,[s1.heap.objs.size],_,_,H1,Y,I1.kept (t':=s1.toks) λb o e=>Yc _ e,nX a _ o kvs es ep hd,⟨_,Yl _ rfl,Y,by rw[hl];rfl⟩,λb hb=>?_,q⟩;have e:b=s1.heap.objs.size:=by simpa using hb
 subst e;exact I1.fpOk (Yd _) (I1.hok.fresh (Yd _))
end
def pj{n:Nat}(h:n<=10000000):n<=sizeLine:=by rw[sizeLine_eq];omega
theorem R6:∀ {xs:LV}{us:LU},xs.length=us.length->(∀(i:Nat) (v:V) (u:Value),xs[i]?=some v->us[i]?=some u->AS v u)->AO xs us
 | [],[],_,_=>.nil
 | [],_ :: _,h,_=>by simp at h
 | _ :: _,[],h,_=>by simp at h
 | x :: xs,u :: us,h,k=>.cons (k 0 x u rfl rfl) (R6 (by simpa using h) λi v w hv hw=>k (i + 1) v w (by simpa using hv) (by simpa using hw))
def NG{J:It}{xs:LV}{Ok:Hp->Prop}(R:Fc J xs Ok){js:LN}{tt:TT}{te:TE}{σ:St}{Q:VK}{H1:Hp}(hz:xs.length<=sizeLine)(p:V->Bool)(F:Addr->V->V->Hp->Prop)
  (hF:∀ D x v H H',(∀ b o,b≠D->H b=some o->H' b=some o)->F D x v H->F D x v H')
  (hok:∀ H,AB H1 H->Ok H)
  (ht:∀ x H (R:Bool->Hp->Prop),AB H1 H->x∈xs->(∀ H',AB H H'->R (p x) H')->tt (some x :: js.map λj=>(σ[j]?).join) H R)
  (he:∀ D x H (R:V->Hp->Prop),AB H1 H->(∃ ys,H D=some (.lst ys))->H1 D=none->x∈xs->p x=true->(∀ v H',AB H H'->F D x v H'->R v H')->te (some x :: js.map λj=>(σ[j]?).join) H R)
  (hd:∀ D H' ys,H1 D=none->AB H1 H'->H' D=some (.lst ys)->Paired (λx v=>F D x v H') (xs.filter p) ys->Q (.ref D) H'):
  AR 1 js (C2 0) tt te σ Q J H1:=by
 refine NH R hz (λD i ys σ' H=>H1 D=none/\AB H1 H/\H D=some (.lst ys)/\Paired (λx v=>F D x v H) ((xs.take i).filter p) ys/\∃ o,σ'=o :: js.map λj=>(σ[j]?).join) ?_ ?_ ?_ ?_
 ·intro D hD;exact⟨hD,λb o e=>by rw[AD (AF e hD)];exact e,uS,by simpa using Paired.nil,none,Y⟩
 ·rintro D i ys σ' H hi ⟨hD,hs,hl,hp,_⟩;refine⟨hok H hs,?_⟩;rw[<- hp.length];exact A6 (Jv _ _) (by rw[Yz];omega)
 ·rintro D i x ys σ' H hD hx ⟨_,hs,hl,hp,o,rfl⟩;show tt (some x :: js.map λj=>(σ[j]?).join) H _;have hm:x∈xs:=Yh hx;refine ht x H _ hs hm λH4 s4=>?_;have KZ:AB H1 H4:=hs.trans s4;have mono:∀ {H H':Hp},(∀ b o,b≠D->H b=some o->H' b=some o)->Paired (λx v=>F D x v H) ((xs.take i).filter p) ys->Paired (λx v=>F D x v H') ((xs.take i).filter p) ys:=λh q=>Paired.mapP q λa b z=>hF D a b _ _ h z;cases hpx:p x with
  | true =>
   rw[if_pos rfl];refine he D x H4 _ KZ ⟨_,s4 _ _ hl⟩ hD hm hpx λv H5 s5 f5=>⟨s5 _ _ (s4 _ _ hl),hD,λb o e=>?_,uS,?_,Z⟩
   ·rw[AD (AF e hD)];exact s5 _ _ (KZ _ _ e)
   ·rw[take_succ_filter p xs i x hx,hpx,if_pos rfl];refine Gr (mono (λb o hb e=>by rw[AD hb];exact s5 _ _ (s4 _ _ e)) hp) (hF D _ _ _ _ (λb o hb e=>by rw[AD hb];exact e) f5)
  | false =>
   rw[if_neg Yq];refine⟨hD,KZ,s4 _ _ hl,?_,Z⟩;rw[take_succ_filter p xs i x hx,hpx,if_neg Yq,Fu];exact mono (λb o _ e=>s4 _ _ e) hp
 ·rintro D ys σ' H hD ⟨_,hs,hl,hp,_⟩;rw[FJ]at hp;exact hd D H ys hD hs hl hp
section
variable {X:Cx}
def ve:V->LV->Hp->VK->Prop:=λx vs H Q=>∃ l xs i y,x=.ref l/\vs=[.int i,y]/\H l=some (.lst xs)/\0<=i/\i<=xs.length/\xs.length<sizeLine/\Q .non (upd H l (.lst (xs.take i.toNat++y :: xs.drop i.toNat)))
def K2:Li X "list.insert" ve:=by
 intro pins s σ H x vs v us Q I rx rv h;obtain⟨l,xs,i,y,rfl,rfl,hH,h0,h1,hz,q⟩:=h;cases rx;obtain⟨u,w',rfl,⟨t,rfl⟩,ru⟩:=Uw rv;obtain⟨z,its,n,r,hl,e⟩:=I.lstM hH;have hs:sizeLine=16777216:=sizeLine_eq;have hc:¬ (!Builtin.List.listFitsIndex i)=true:=by
  have:Builtin.List.listFitsIndex i=true:=by
   unfold Builtin.List.listFitsIndex;simp;omega
  rw[this];decide
 refine call_meets F.slot_list_insert ⟨_,e,Y⟩ F.entry_list_insert (F.args_list_insert_3 _ _ _) (PySem.AutoSeq1.list_insert_list_int_val_1 l its.toArray n i t w' hc (by rw[Yo];omega)) ⟨e,?_⟩;have hk:(if i<0 then(i + (its.toArray.size:Int)).toNat else min i.toNat its.toArray.size)=i.toNat:=by
  rw[if_neg (by omega),Yo];omega
 refine⟨.non,_,I.lset (its':=its.take i.toNat++w' :: its.drop i.toNat) hH e ?_ ?_ ?_,Y,q⟩
 ·show(its.toArray.extract 0 (if i<0 then(i + (its.toArray.size:Int)).toNat else min i.toNat its.toArray.size)).push w'++its.toArray.extract (if i<0 then(i + (its.toArray.size:Int)).toNat else min i.toNat its.toArray.size)=_;rw[hk];apply Array.ext';simp;exact LZ (by rw[Hi];exact Yd _)
 ·exact(r.take _).append (.cons ru (r.drop _))
 ·rw[Yx,Bj,Yz,Hi];omega
def WI{a:Expr}{ta:TE}{p1 p2 Lo C8:Pos}(hc:X.calm=true)(ha:PE X a ta)(UX:Gl X "list")(Kc:X.mg "list"=none)(UW:Gl X "range")(UT:X.mg "range"=none)
  (hs:starEach [a] X.env=[(false,eval a X.env)]:=by rfl)
  (FQ:starEach [.Call (.Name "range" p2) [a] [] C8] X.env=[(false,eval (.Call (.Name "range" p2) [a] [] C8) X.env)]:=by rfl):
  PE X (.Call (.Name "list" p1) [.Call (.Name "range" p2) [a] [] C8] [] Lo) (λσ H Q=>OT ta Nf σ H λvs H1=>∃ j:Int,vs=[.int j]/\0<=j/\j<=1000000/\∀ l,H1 l=none->Q (.ref l) (upd H1 l (.lst (Ck 0 j.toNat)))):=by
 ac_rfl;refine wpAny_Call_Name_kw (Fh I UX Kc FI ?_ (by decide) (by decide));refine Ii ?_ FQ rfl;refine Calls.spliced_cons ?_;refine wpAny_Call_Name_kw (Fh I UW UT boot_range ?_ (by decide) (by decide));refine Ii ?_ hs rfl;have pa:PA X [a] (OT ta Nf):=pC ha AA hs;refine AK (pa C8 pins s σ H (λvs H1=>∃ j:Int,vs=[.int j]/\0<=j/\j<=1000000/\∀ l,H1 l=none->Q (.ref l) (upd H1 l (.lst (Ck 0 j.toNat)))) I h) λus s1 ⟨vs,H1,I1,r1,q1⟩=>?_;obtain⟨j,e,h0,h1,q⟩:=q1;subst e;obtain⟨u,rfl,t,rfl⟩:=FA r1;refine call_range_1 (Calls.spliced_nil ?_);have I2:Inv X pins σ H1 {s1 with heap:=s1.heap.push {cls:=.type "range",data:=.fields #[.int 0 s1.toks,.int j t,.int 1 (s1.toks + 1)] },toks:=s1.toks + 1 + 1}:=I1.kept λb o e=>Yc _ e;refine call_list_range (n:=j.toNat) (I1.ok.hd hc) (IsRange.new ..) (small_one (by decide) (by decide) (by omega) (by omega)) (by rw[rangeSize_one];split <;> omega) (by omega) λh' tk FP c' hk Ub EW=>?_;obtain⟨a1,a2⟩:=EW;have A8:H1 (s1.heap.push {cls:=.type "range",data:=.fields #[.int 0 s1.toks,.int j t,.int 1 (s1.toks + 1)] }).objs.size=none:=I2.hok.fresh (Yd _);refine⟨.ref _,_,I2.laid (o:=.lst (Ck 0 j.toNat)) hk (Yd _) ⟨?_,FP.toList,c',?_,by simpa using Ub⟩,Y,q _ A8⟩
 ·rw[CJ];exact pj (by omega)
 ·have len:(Ck 0 j.toNat).length=FP.toList.length:=by rw[CJ,Hh,a1]
  exact R6 len λi v u hv hu=>by
   obtain⟨hi,e⟩:=Dk hv;obtain⟨t',e'⟩:=a2 i u (by rw[<- LW];exact hu);rw[e,e'];exact⟨t',by rw[Int.mul_one]⟩
end
end L2
namespace Graph
variable {α:Type}[DecidableEq α]
inductive Reach(ups:α->List α):α->α->Prop
 | refl (a:α):Reach ups a a
 | step {a b c:α}:b∈ups a->Reach ups b c->Reach ups a c
def Reach.trans{ups:α->List α}{a b c:α}(h:Reach ups a b)(k:Reach ups b c):Reach ups a c:=by
 induction h with
 | refl=>exact k
 | step m _ ih=>exact .step m (ih k)
def Reach.one{ups:α->List α}{a b:α}(h:b∈ups a):Reach ups a b:=.step h (.refl b)
def Reach.snoc{ups:α->List α}{a b c:α}(h:Reach ups a b)(k:c∈ups b):Reach ups a c:=h.trans (.one k)
def kept(ups:α->List α)(left:List α):List α:=left.filter λw=>(ups w).any λu=>decide (u∈left)
def kept_sub{ups:α->List α}{left:List α}{w:α}(h:w∈kept ups left):w∈left:=(Gs.mp h).1
def kept_le(ups:α->List α)(left:List α):(kept ups left).length<=left.length:=Jv _ _
theorem dN{p:α->Bool}:∀ {l:List α},(l.filter p).length=l.length->l.filter p=l
 | [],_=>rfl
 | a :: r,h=>by
  have hle:=Jv p r;rw[LX]at h ⊢;cases hp:p a with
  | true =>
   rw[hp,if_pos rfl,Bj,Bj]at h;rw[if_pos rfl,dN (by omega)]
  | false =>
   rw[hp,if_neg Yq,Bj]at h;omega
theorem bG(rk:α->Nat):∀(l:List α),l≠[]->∃ m,m∈l/\∀ x∈l,rk m<=rk x
 | [],h=>absurd rfl h
 | a :: r,_=>by
  by_cases hr:r=[]
  ·subst hr;exact⟨a,by simp,λx hx=>by simp at hx;subst hx;exact Yd _⟩
  ·obtain⟨m,hm,hx⟩:=bG rk r hr;by_cases hc:rk a<=rk m
   ·refine⟨a,by simp,λx US=>?_⟩
    rcases Yr.mp US with e | e
    ·subst e;exact Yd _
    ·exact A6 hc (hx x e)
   ·refine⟨m,FG _ hm,λx US=>?_⟩
    rcases Yr.mp US with e | e
    ·subst e;omega
    ·exact hx x e
def kept_nil{ups:α->List α}{left:List α}{rk:α->Nat}(hr:∀ a∈left,∀ b∈ups a,rk b<rk a)(h:(kept ups left).length=left.length):left=[]:=by
 refine Te λB9=>?_;obtain⟨m,hm,hx⟩:=bG rk left B9;have e:kept ups left=left:=dN h;rw[<- e]at hm;obtain⟨h1,h2⟩:=Gs.mp hm;obtain⟨u,hu,hd⟩:=Fx.mp h2;have hl:u∈left:=Je hd;have a:=hr m h1 u hu;have b:=hx u hl;omega
theorem nodup_le:∀ {l k:List α},l.Nodup->(∀ x∈l,x∈k)->l.length<=k.length
 | [],k,_,_=>A7 _
 | a :: r,k,hn,hs=>by
  obtain⟨h1,h2⟩:=Ft.mp hn;have ha:a∈k:=hs a (by simp);have:=nodup_le (k:=k.erase a) h2 λx hx=>(List.mem_erase_of_ne (λ(e:x=a)=>h1 (by rw[<- e];exact hx))).mpr (hs x (FG _ hx));rw[List.length_erase_of_mem ha]at this;have hpos:0<k.length:=List.length_pos_of_mem ha;rw[Bj];omega
def closed_reach{ups:α->List α}{S:α->Prop}(hc:∀ x,S x->∀ y∈ups x,S y){a b:α}(h:Reach ups a b)(ha:S a):S b:=by
 induction h with
 | refl=>exact ha
 | step m _ ih=>exact ih (hc _ ha _ m)
end Graph
namespace Md
open PySem L2
abbrev letters:Str:="abcdefghijklmnopqrstuvwxyz"
def Ge(c:Nat):Bool:=decide (97<=c/\c<=122)
def A4(x:Str):Bool:=decide (1<=x.length/\x.length<=8)&&x.cps.toList.all Ge
def SY:letters.cps.toList=[97,98,99,100,101,102,103,104,105,106,107,108,109,110,111,112,113,114,115,116,117,118,119,120,121,122]:=by rfl'
def oB{i:Nat}(h:i<26):letters.cps.toList[i]?=some (97 + i):=by
 rw[SY];have:∀ i:_root_.Fin 26,([97,98,99,100,101,102,103,104,105,106,107,108,109,110,111,112,113,114,115,116,117,118,119,120,121,122]:LN)[i.1]?=some (97 + i.1):=by decide
 exact this ⟨i,h⟩
def pZ:letters.cps.toList=(List.range 26).map (97 + ·):=by rw[SY];rfl
def tT(c:Nat):(!(Builtin.Str.occurrences letters ⟨#[c]⟩ 0 letters.length 1).isEmpty)=Ge c:=by
 rw[StrLaws.found_one,pZ];unfold Ge;rw[decide_eq_decide,Yg];constructor
 ·rintro⟨a,ha,rfl⟩;have:=Cz.mp ha;omega
 ·intro h;exact⟨c - 97,Cz.mpr (by omega),W⟩
def HY(x:Str):x.cps.toList.length=x.length:=by simp[Str.length]
def aF(c:Nat):(⟨#[c]⟩:Str).length=1:=rfl
def aE(x y:Str):(x++y).length=x.length + y.length:=by
 show(x.cps++y.cps).size=_;rw[Array.size_append];rfl
def bV(x y:Str):(x++y).cps.toList=x.cps.toList++y.cps.toList:=by
 show(x.cps++y.cps).toList=_;rw[Array.toList_append]
def ax{x y:Str}(h:x.cps.toList=y.cps.toList):x=y:=by
 cases x;cases y
 congr 1
 exact Array.ext' h
def Wj:V->V
 | .str y=>.bl (!(Builtin.Str.occurrences letters y 0 letters.length 1).isEmpty)
 | _=>.non
def nO(x:Str):((IP x).filter λ_=>true).map Wj=(x.cps.toList.map Ge).map V.bl:=by
 rw[Fq.mpr λ_ _=>rfl];unfold IP;rw[CV,CV];refine Nr λc _=>?_;show V.bl _=V.bl _;rw[tT]
def Js(x:Str):A4 x=true↔(1<=x.cps.toList.length/\x.cps.toList.length<=8)/\∀ c∈x.cps.toList,Ge c=true:=by
 unfold A4;rw[Dl,decide_eq_true_eq,Bc,HY]
def Ov{x:Str}(h:A4 x=true):1<=x.length/\x.length<=8:=by
 have:=((Js x).mp h).1
 rwa [HY]at this
def Oo{x:Str}(h:A4 x=true):PyData.strOk x=true:=by
 unfold PyData.strOk;rw[Array.all_eq_true'];intro c hc;have:=((Js x).mp h).2 c (by simpa using hc);have:=Je this;exact Jb (by omega)
def C4(n:Nat):LN:=(97 + n % 26):: (if h:n / 26=0 then[]else C4 (n / 26))
termination_by n
decreasing_by omega
def NQ(n:Nat):C4 n=(97 + n % 26):: (if n / 26=0 then[]else C4 (n / 26)):=by
 rw[C4];by_cases h:n / 26=0
 ·rw[dif_pos h,if_pos h]
 ·rw[dif_neg h,if_neg h]
theorem WH:∀(k n:Nat),n<26 ^ (k + 1)->(C4 n).length<=k + 1
 | 0,n,h=>by
  rw[NQ,if_pos (by have:n<26:=h;omega)];exact Yd _
 | k + 1,n,h=>by
  rw[NQ];by_cases h0:n / 26=0
  ·rw[if_pos h0];simp
  ·rw[if_neg h0,Bj];have:=WH k (n / 26) (Nat.div_lt_of_lt_mul (by rw[Nat.pow_succ]at h;omega));omega
def qD(n:Nat):∀ c∈C4 n,Ge c=true:=by
 induction n using Nat.strongRecOn with
 | ind n ih =>
  rw[NQ];intro c hc
  rcases Yr.mp hc with e | hc
  ·rw[e];exact Jb (by omega)
  ·by_cases h0:n / 26=0
   ·rw[if_pos h0]at hc;cases hc
   ·rw[if_neg h0]at hc;exact ih (n / 26) (by omega) c hc
def Ph:LN->Nat
 | []=>0
 | c :: r=>(c - 97) + 26 * Ph r
def qF(n:Nat):Ph (C4 n)=n:=by
 induction n using Nat.strongRecOn with
 | ind n ih =>
  rw[NQ];unfold Ph;by_cases h0:n / 26=0
  ·rw[if_pos h0];unfold Ph;omega
  ·rw[if_neg h0,ih (n / 26) (by omega)];omega
def EN(n:Nat):Str:=⟨(C4 n).toArray⟩
def WK(n:Nat):(EN n).cps.toList=C4 n:=by simp[EN]
def qG{a b:Nat}(h:EN a=EN b):a=b:=by
 have:=congrArg (λs:Str=>Ph s.cps.toList) h;simpa[WK,qF]using this
def qE(n:Nat):1<=(C4 n).length:=by rw[NQ];simp
def WL{n:Nat}(h:n<26 ^ 8):A4 (EN n)=true:=by
 rw[Js,WK];exact⟨⟨qE n,WH 7 n h⟩,qD n⟩
def kU(j:Int)(n:Nat)(h:0<=j):Builtin.Str.strSliceIndices none (some j) 1 n=List.range (min j.toNat n):=by
 unfold Builtin.Str.strSliceIndices sliceRange;have h1:¬ j<0:=by omega
 simp only[show(1:Int) > 0 by decide,if_true,if_neg h1];have e:(max (0:Int) (min j (n:Int)))=((min j.toNat n:Nat):Int):=by omega
 rw[e];have e2:(if(0:Int)<((min j.toNat n:Nat):Int)then(((min j.toNat n:Nat):Int) - 0 + 1 - 1) / 1 else 0)=((min j.toNat n:Nat):Int):=by
  split
  ·rw[Int.ediv_one];omega
  ·omega
 rw[e2,Bk];have:∀ l:LN,l.map (λ(k:Nat)=>((0:Int) + 1 * (k:Int)).toNat)=l:=λl=>by
  conv=>rhs;rw[<- List.map_id l]
  refine Nr λk _=>?_;show _=k;omega
 exact this _
theorem eK(l:LN):∀ m,m<=l.length->(List.range m).filterMap (λi=>l.toArray[i]?)=l.take m
 | 0,_=>by simp
 | m + 1,h=>by
  rw[List.range_succ,List.filterMap_append,eK l m (by omega),Dm];have:m<l.length:=h;simp[this]
def Sd(x:Str)(j:Int)(h:0<=j):(Txt.slice x none (some j)).cps.toList=x.cps.toList.take j.toNat:=by
 unfold Txt.slice;rw[kU j x.length h];have hl:=HY x;split
 ·rename_i hc
  have:min j.toNat x.length=x.length:=by simpa using hc
  rw[LZ (by omega)]
 ·have q:=eK x.cps.toList (min j.toNat x.length) (by omega);have e:x.cps.toList.toArray=x.cps:=by simp
  rw[e]at q;show((List.range (min j.toNat x.length)).filterMap (x.cps[·]?)).toArray.toList=_;rw[List.toList_toArray,q];by_cases hj:j.toNat<=x.length
  ·rw[Nat.min_eq_left hj]
  ·rw[Nat.min_eq_right (by omega),LZ (by omega),LZ (by omega)]
def Bh(o:HO):Prop:=∃ r b:Int,o=.lst [.int r,.int b]/\0<=r/\r<10 ^ 256/\0<=b/\b<2147483647
structure Drawn(p:Addr)(H H':Hp):Prop where
 keep:∀ b o,b≠p->H b=some o->H' b=some o
 pot:∃ o,H' p=some o/\Bh o
def Drawn.refl{p:Addr}{H:Hp}(h:∃ o,H p=some o/\Bh o):Drawn p H H:=⟨λ_ _ _ e=>e,h⟩
def Drawn.trans{p:Addr}{H H1 H2:Hp}(a:Drawn p H H1)(b:Drawn p H1 H2):Drawn p H H2:=⟨λc o hc e=>b.keep c o hc (a.keep c o hc e),b.pot⟩
theorem Drawn.upd{p:Addr}{H:Hp}{o:HO}(h:Bh o):Drawn p H (L2.upd H p o):=⟨λb u hb e=>by rw[AD hb];exact e,_,uS,h⟩
def Drawn.new{p q:Addr}{H H':Hp}{o:HO}(d:Drawn p H H')(hq:H' q=none):Drawn p H (L2.upd H' q o):=
 ⟨λb u hb e=>by rw[AD (AF (d.keep b u hb e) hq)];exact d.keep b u hb e,by
  obtain⟨u,h1,h2⟩:=d.pot;exact⟨u,by rw[AD (AF h1 hq)];exact h1,h2⟩⟩
def Drawn.same{p:Addr}{H H1 H2:Hp}(d:Drawn p H H1)(s:AB H1 H2):Drawn p H H2 :=
 ⟨λb u hb e=>s _ _ (d.keep b u hb e),by obtain⟨u,h1,h2⟩:=d.pot;exact⟨u,s _ _ h1,h2⟩⟩
def Drawn.sub{p q:Addr}{H H1 H2:Hp}{o':HO}(d:Drawn p H H1)(k:∀ b o,b≠q->H1 b=some o->H2 b=some o)(hq:H q=none)(hp:p≠q):Drawn p H H2 :=
 ⟨λb u hb e=>k _ _ (AF e hq) (d.keep b u hb e),by obtain⟨u,h1,h2⟩:=d.pot;exact⟨u,k _ _ hp h1,h2⟩⟩
def _root_.L2.SqL.mono_new{K:Fg}{H:Hp}{a q:Addr}{xs:LV}{o:HO}(h:SqL K H a xs)(hq:H q=none):SqL K (L2.upd H q o) a xs :=
 AB.seq (λb u e=>by rw[AD (AF e hq)];exact e) h
def B7{n:Nat}(h:n<=100000):n<sizeLine:=by rw[sizeLine_eq];omega
def Oe:List Expr->Option (LS)
 | []=>some []
 | .Constant (.str x) _ _ :: r=>(Oe r).map (x :: ·)
 | _=>none
def nE{X:Cx}:∀ {es:List Expr}{ws:LS},Oe es=some ws->PA X es (λ_ H Q=>Q (ws.map V.str) H):=by
 intro es
 induction es with
 | nil =>
  intro ws h;have e:ws=[]:=(Yv h).symm;subst e;exact AA
 | cons e r ih =>
  intro ws h;cases e with
  | Constant c j p =>
   cases c with
   | str x =>
    have h':(Oe r).map (x :: ·)=some ws:=h;obtain⟨vs,h1,h2⟩:=He.mp h';subst h2;exact pC Jk (ih h1) rfl
   | _=>exact nomatch (show(none:Option (LS))=some ws from h)
  | _=>exact nomatch (show(none:Option (LS))=some ws from h)
theorem Kt(x:Str):∀ ws:LS,Ec (.str x) (ws.map V.str)=decide (x∈ws)
 | []=>rfl
 | w :: r=>by
  have ih:=Kt x r;unfold Ec at ih ⊢;rw[Ym,Jy,ih];show((w == x) || decide (x∈r))=decide (x∈w :: r);rw[Io];simp only[Bool.or_eq_true,beq_iff_eq,decide_eq_true_eq,Yr];constructor
  ·rintro(h | h)
   ·exact .inl h.symm
   ·exact .inr h
  ·rintro(h | h)
   ·exact .inl h.symm
   ·exact .inr h
def NK(ws:LS):(ws.map V.str).all IJ=true:=by
 rw[Bc];intro v hv;obtain⟨w,_,e⟩:=Yg.mp hv;rw[<- e];rfl
theorem FF{K:Fg}{H:Hp}:∀ ws:LS,Am K H (ws.map V.str) (ws.map W.Dat.str)
 | []=>.nil
 | w :: r=>.cons (.str w) (FF r)
def Pa(H:Hp)(r:Str×LS)(v:V):Prop:=∃ t u,v=.ref t/\H t=some (.tup [.str r.1,.ref u])/\H u=some (.tup (r.2.map V.str))
def Gi(H:Hp)(l:Addr)(rows:RS):Prop:=∃ vs,H l=some (.lst vs)/\Paired (Pa H) rows vs
structure Ah(rows:RS):Prop where
 ne:1<=rows.length
 le:rows.length<=24
 word:∀ r∈rows,A4 r.1=true
 nd:(rows.map (·.1)).Nodup
 few:∀ r∈rows,r.2.length<=8
 known:∀ r∈rows,∀ u∈r.2,u∈rows.map (·.1)
 upnd:∀ r∈rows,r.2.Nodup
 rank:∃ rk:Str->Nat,∀ r∈rows,∀ u∈r.2,rk u<rk r.1
def IM(ws:LS)(uf:List (LN))(os:LN):RS:=os.map λj=>(ws.getD j "",(uf.getD j []).map λi=>ws.getD i "")
def u9{ws:LS}{uf:List (LN)}{os:LN}{m:Nat}(Hy:1<=m)(hm:m<=24)(hw:∀ x∈ws,A4 x=true)(hn:ws.Nodup)(hl:ws.length=m)(hu:∀(k:Nat) (js:LN),uf[k]?=some js->(∀ j∈js,j<k)/\js.Nodup/\js.length<=8)(hul:uf.length=m)
  (on:os.Nodup) (om:∀ j,j∈os↔j<m) (ol:os.length=m):Ah (IM ws uf os):=by
 have at_:∀ {j:Nat},j<m->ws.getD j ""∈ws/\ws[j]?=some (ws.getD j ""):=λ{j} h=>by
  have hj:j<ws.length:=by omega
  rw[Yk,Yb hj];exact⟨Jw hj,Y⟩
 have inj:∀ {i j:Nat},i<m->j<m->ws.getD i ""=ws.getD j ""->i=j:=λ{i j} hi hj e=>by
  have a:=(at_ hi).2;have b:=(at_ hj).2;rw[e]at a;exact Ky hn a b
 have ups:∀ {j:Nat},j<m->∃ js,uf.getD j []=js/\(∀ i∈js,i<j)/\js.Nodup/\js.length<=8:=λ{j} h=>by
  have hj:j<uf.length:=by omega
  have e:uf[j]?=some (uf.getD j []):=by rw[Yk,Yb hj];rfl
  exact⟨Z,hu j _ e⟩
 have mem:∀ {r:Str×LS},r∈IM ws uf os->∃ j,j<m/\r=(ws.getD j "",(uf.getD j []).map λi=>ws.getD i ""):=λ{r} h=>by
  obtain⟨j,hj,e⟩:=Yg.mp h;exact⟨j,(om j).mp hj,e.symm⟩
 have words:(IM ws uf os).map (·.1)=os.map λj=>ws.getD j "":=by
  unfold IM;rw[CV];rfl
 refine⟨by unfold IM;rw[Ya];omega,by unfold IM;rw[Ya];omega,λr hr=>?_,?_,λr hr=>?_,λr hr u A1=>?_,λr hr=>?_,λx=>ws.idxOf x,λr hr u A1=>?_⟩
 ·obtain⟨j,hj,rfl⟩:=mem hr;exact hw _ (at_ hj).1
 ·rw[words,J3,Nk];refine(J3.mp on).imp_of_mem λ{a b} ha hb h e=>h (inj ((om a).mp ha) ((om b).mp hb) e)
 ·obtain⟨j,hj,rfl⟩:=mem hr;obtain⟨js,e,_,_,h8⟩:=ups hj;show((uf.getD j []).map λi=>ws.getD i "").length<=8;rw[Ya,e];exact h8
 ·obtain⟨j,hj,rfl⟩:=mem hr;obtain⟨i,hi,e⟩:=Yg.mp A1;obtain⟨js,e',hb,_⟩:=ups hj;rw[e']at hi;have hij:=hb i hi;rw[words];exact Yg.mpr ⟨i,(om i).mpr (by omega),e⟩
 ·obtain⟨j,hj,rfl⟩:=mem hr;obtain⟨js,e',hb,hnd,_⟩:=ups hj;show((uf.getD j []).map λi=>ws.getD i "").Nodup;rw[e',J3,Nk];refine(J3.mp hnd).imp_of_mem λ{a b} ha UZ h e=>h (inj (by have:=hb a ha;omega) (by have:=hb b UZ;omega) e)
 ·obtain⟨j,hj,rfl⟩:=mem hr;obtain⟨i,hi,e⟩:=Yg.mp A1;obtain⟨js,e',hb,_⟩:=ups hj;rw[e']at hi;have hij:=hb i hi;have ix:∀ {j:Nat},j<m->ws.idxOf (ws.getD j "")=j:=λ{j} h=>by
   have a:=(at_ h).1;have lt:ws.idxOf (ws.getD j "")<ws.length:=List.idxOf_lt_length_iff.mpr a;have g:ws[ws.idxOf (ws.getD j "")]?=some (ws.getD j ""):=by rw[Yb lt,List.getElem_idxOf lt]
   exact Ky hn g (at_ h).2
  show ws.idxOf u<ws.idxOf (ws.getD j "");rw[<- e,ix hj,ix (by omega)];exact hij
end Md
namespace L2
open PySem PySem.Spec PyProof.Rows
section
variable {X:Cx}{tg:Expr}
def Dq(K:Fg)(b:Bool)(H:Hp)(a:Addr)(xs:LV):Prop:=if b=true then SqL K H a xs else AJ K H a xs
def Dq.mono{K:Fg}{b:Bool}{H H':Hp}{a:Addr}{xs:LV}(h:Dq K b H a xs)(s:AB H H'):Dq K b H' a xs:=by
 cases b with
 | true=>exact s.seq (show SqL K H a xs from h)
 | false=>exact s.tup (show AJ K H a xs from h)
def T3(K:Fg)(b:Bool)(a:Addr)(xs:LV):It:=⟨λi H=>i<xs.length/\Dq K b H a xs,λi H x H'=>H'=H/\xs[i]?=some x,λi H=>xs.length<=i/\Dq K b H a xs⟩
def bR{K:Fg}{b:Bool}{a:Addr}{xs:LV}:Fc (T3 K b a xs) xs (λH=>Dq K b H a xs) where
 go:=λi x H ok hx=>⟨(Yn.mp hx).1,ok⟩
 yld:=λi x H y H' ok hx h=>by
  obtain⟨e,h⟩:=h;rw[hx]at h;exact⟨(Yv h).symm,e⟩
 stop:=λH ok=>⟨Yd _,ok⟩
def E3.imp{P:Program}{w:World}{K:Fg}{tg:Expr}{J J':It}{fp:List Addr}{it:Addr}{tn:Nat->Heap->Prop}(T:E3 P w K tg J fp it tn)(hgo:∀ i H,J'.go i H->J.go i H)
  (hy:∀ i H x H',J'.go i H->J.yld i H x H'->J'.yld i H x H') (hs:∀ i H,J'.stop i H->J.stop i H):E3 P w K tg J' fp it tn where
 mem:=T.mem
 obj:=T.obj
 keep:=T.keep
 item:=λX h1 h2 h3 h4 i pins s σ H E I hf st g=>AK (T.item X h1 h2 h3 h4 i pins s σ H E I hf st (hgo i H g)) λr s1 ⟨u,e,h⟩=>⟨u,e,AK h λ_ s2 ⟨x,H',I',r',y,t,f⟩=>⟨x,H',I',r',hy i H x H' g y,t,f⟩⟩
 done:=λX h1 h2 h3 h4 i pins s σ H E I hf st g=>T.done X h1 h2 h3 h4 i pins s σ H E I hf st (hs i H g)
 self:=T.self
def qg(K:Fg)(tl:TE):TI:=λσ H R=>tl σ H λx H1=>∃ b a xs,x=.ref a/\Dq K b H1 a xs/\R (T3 K b a xs) H1
def Zg{l:Expr}{tl:TE}(hl:PE X l tl):PI X tg l (qg X.K tl):=by
 intro pins s σ H R I h;refine AK (hl pins s σ H _ I h) λv s1 ⟨x,H1,I1,r1,q1⟩=>?_;obtain⟨b,a,xs,e,hq,q⟩:=q1;subst e;cases r1;have fp:∀ b∈[s1.heap.objs.size],BA X pins H1 b:=λb hb=>by
  have e:b=s1.heap.objs.size:=by simpa using hb
  subst e;exact I1.fpOk (Yd _) (I1.hok.fresh (Yd _))
 have get:∀ {i:Nat} {ys:LV},i<ys.length->∃ y,ys[i]?=some y:=λ{i ys} h=>⟨ys[i],by simp[h]⟩;cases b with
 | true =>
  have hq:SqL X.K H1 a xs:=hq;obtain⟨its,rv,p,hz⟩:=I1.list hq;refine wpAny_pyIter_list p.isList ?_;refine⟨s1.heap.objs.size,[s1.heap.objs.size],_,T3 X.K true a xs,H1,Y,I1.kept (t':=s1.toks) λb o e=>Yc _ e,(dC a _).imp (λi H g=>?_) (λi H x H' g y=>⟨y.1,y.2 xs g.2⟩) (λi H g=>⟨xs,g.2,g.1⟩),⟨_,Yl _ rfl,Y,Y⟩,fp,q⟩;obtain⟨y,hy⟩:=get g.1;exact⟨xs,y,g.2,hy⟩
 | false =>
  have hq:AJ X.K H1 a xs:=hq;obtain⟨its,rv,p,hz⟩:=I1.tuple hq;refine wpAny_pyIter_tuple (show s1.heap.IsTuple a its.toArray from p) ?_;refine⟨s1.heap.objs.size,[s1.heap.objs.size],_,T3 X.K false a xs,H1,Y,I1.kept (t':=s1.toks) λb o e=>Yc _ e,(dv a _).imp (λi H g=>?_) (λi H x H' g y=>⟨y.1,y.2 xs g.2⟩) (λi H g=>⟨xs,g.2,g.1⟩),⟨_,Yl _ rfl,Y,Y⟩,fp,q⟩;obtain⟨y,hy⟩:=get g.1;exact⟨xs,y,g.2,hy⟩
def tE(to:TE):TI:=λσ H R=>to σ H λx H1=>∃ a ob kvs,x=.ref a/\H1 a=some (.frz ob (.dK kvs))/\R (W9 a ob kvs) H1
def va{o:Expr}{to:TE}{apos AU:Pos}(ho:PE X o to)(CN:attributeBase o "values" X.env (eval o X.env)=eval o X.env:=by rfl)(CM:(apos.endLine == AU.line)=true:=by rfl):
  PI X tg (.Call (.Attribute o "values" apos) [] [] AU) (tE to):=by
 intro pins s σ H R I h;refine wpAny_Call_method0_late CN CM (AK (ho pins s σ H _ I h) λv s1 ⟨x,H1,I1,r1,q1⟩=>?_);obtain⟨a,ob,kvs,e,ha,q⟩:=q1;subst e;obtain rfl:v=Value.ref a:=r1;obtain⟨t1,t2,t3⟩:=tM I1 (.inl ⟨kvs,.inr ⟨ob,ha⟩⟩);obtain⟨es,ep,hd⟩:=bb (I1.hok a _ ha);obtain⟨hs,vs,r,dd⟩:=M8 (I1.hok a _ ha) hd;have hl:kvs.length=vs.length:=Ba r;refine⟨"dict","dict.values",PySem.F.plainAttrs_dict,PySem.F.slot_dict_values,PySem.F.type_dict_values,t1,t2,Calls.callWith_builtin rfl (PySem.evalArgs_none ?_)⟩;refine call_meetsIn PySem.F.slot_dict_values t1 PySem.F.entry_dict_values (PySem.F.args_dict_values_1 _) (meets_dict_values (CT X.prog X.w) a t3) ⟨⟨vs,dd.dictOf⟩,?_⟩;have I2:Inv X pins σ H1 {s1 with heap:=s1.heap.push {cls:=.type "dict_values",data:=.fields #[.ref a] } }:=I1.kept (t':=s1.toks) λb o e=>Yc _ e;refine wpAny_pyIter_values (kvs:=vs) (ep:=ep) (knd:=CT X.prog X.w) ⟨_,Yl _ rfl,Y,Y⟩ (dd.at' λo e=>Yc _ e) ?_;refine⟨_,[_],_,_,H1,Y,I2.kept (t':=s1.toks) λb o e=>Yc _ e,nY a _ ob kvs es ep hd,⟨_,Yl _ rfl,Y,by rw[hl];rfl⟩,λb hb=>?_,q⟩;have e:b=_:=Yi.mp hb;subst e;exact I2.fpOk (Yd _) (I2.hok.fresh (Yd _))
def qT(hc:X.calm=true):Eg X (.type "list") (λxs H Q=>∃ a kvs,xs=[.ref a]/\Rd H a (.dK kvs)/\∀ l,H l=none->Q (.ref l) (upd H l (.lst (kvs.map λp=>kV p.1)))):=by
 intro pins s σ H xs us Q I r h;obtain⟨a,kvs,rfl,ha,q⟩:=h;obtain⟨u,rfl,ru⟩:=FA r;cases ru;obtain⟨hz,hs,vs,rv,o,es,ep,h1,h2,h3,h4,h5,h6⟩:=Kk I.hok ha;have hl:kvs.length=vs.length:=Ba rv;have dd:s.heap.DictAt (CT X.prog X.w) a vs ep:=⟨o,es,h1,h2,h3,h4,h5,h6⟩;refine W.kdl_call (W.kdl_dict (knd:=CT X.prog X.w) (kvs:=vs) (ep:=ep) hs) (I.ok.hd hc) dd (by rw[<- hl];exact hz) λh' tk FP c' hk Ub EW=>?_;obtain⟨a1,a2⟩:=EW;refine⟨.ref _,_,I.laid (o:=.lst (kvs.map λp=>kV p.1)) hk (Yd _) ⟨by rw[Ya];exact hz,FP.toList,c',?_,by simpa using Ub⟩,Y,q _ (I.hok.fresh (Yd _))⟩;refine R6 (by have z:FP.toList.length=FP.size:=Hh;rw[Ya];omega) λi v u hv hu=>?_;rw[Yf]at hv;obtain⟨p,hp,e⟩:=He.mp hv;obtain⟨w',hw,_⟩:=rv.get hp;obtain⟨k,x,Ke,jT⟩:=a2 i u (by rw[<- LW];exact hu);rw[hw]at Ke;injection Ke with Ke;injection Ke with Ke _;rw[<- e,Ke];exact Zm jT
def BL.f{H:Hp}{a:Addr}{o:Obj}{kvs:KL}{k:Key}(e:H a=some (.frz o (.dK kvs))):BL H a (kV k) (BS kvs k):=.inl ⟨kvs,k,.inr ⟨o,e⟩,Y,Y⟩
end
end L2
namespace Md
open PySem L2
def WV(K:Fg)(H:Hp)(u:Addr)(us:LS):Prop:=H u=some (.tup (us.map V.str))\/SqL K H u (us.map V.str)
def WV.sq{K:Fg}{H:Hp}{u:Addr}{us:LS}(h:WV K H u us):∃ b,Dq K b H u (us.map V.str):=by
 rcases h with h | h
 ·exact⟨false,AJ.of h⟩
 ·exact⟨true,h⟩
def rE(K:Fg)(H:Hp)(r:Str×LS)(v:V):Prop:=∃ t u,v=.ref t/\AJ K H t [.str r.1,.ref u]/\WV K H u r.2
def We(K:Fg)(H:Hp)(l:Addr)(rows:RS):Prop:=∃ b vs,Dq K b H l vs/\Paired (rE K H) rows vs
def Gi.g{K:Fg}{H:Hp}{l:Addr}{rows:RS}(h:Gi H l rows):We K H l rows:=by
 obtain⟨vs,a,p⟩:=h;refine⟨true,vs,SqL.of a,Paired.mapP p λr v z=>?_⟩;obtain⟨t,u,e,h1,h2⟩:=z;exact⟨t,u,e,AJ.of h1,.inl h2⟩
theorem C6{α β:Type}{F:α->β->Prop}:∀ {l:List α}{k:List β},Paired F l k->∀ {i:Nat}{b:β},k[i]?=some b->∃ a,l[i]?=some a/\F a b
 | _,_,.nil,i,b,h=>by simp at h
 | _,_,.cons r t,0,b,h=>by simp at h;subst h;exact⟨Z,r⟩
 | _,_,.cons r t,i + 1,b,h=>by
  obtain⟨a,h1,h2⟩:=C6 t (i:=i) (b:=b) (by simpa using h);exact⟨a,by simpa using h1,h2⟩
def Gq{kvs:KL}{k:Key}(h:k∉kvs.map (·.1)):BS kvs k=none:=by
 cases e:BS kvs k with
 | none=>rfl
 | some v=>exact absurd (az e) h
def Vw{kvs:KL}{k:Key}{v:V}(h:k∉kvs.map (·.1)):(BN kvs k v).map (·.1)=kvs.map (·.1)++[k]:=by
 rw[NA v (Gq h),Bw];rfl
def O4{rows:RS}{i:Nat}{r:Str×LS}(nd:(rows.map (·.1)).Nodup)(h:rows[i]?=some r):(Sum.inr r.1:Key)∉(rows.take i).map λr=>(Sum.inr r.1:Key):=by
 intro m;obtain⟨q,hq,e⟩:=Yg.mp m;have e:q.1=r.1:=by injection e
 obtain⟨j,hj,ej⟩:=Nh.mp hq;rw[Yz]at hj;have Y3:rows[j]?=some q:=by
  rw[List.getElem_take]at ej;rw[Yb (by omega),ej]
 have a:(rows.map (·.1))[j]?=some r.1:=by rw[Yf,Y3,<- e];rfl
 have b:(rows.map (·.1))[i]?=some r.1:=by rw[Yf,h];rfl
 have:=Ky nd a b;omega
def DK(H:Hp)(rows:RS)(kvs:KL):Prop:=Paired (λr (p:Key×V)=>p.1=Sum.inr r.1/\∃ t,p.2=.ref t/\H t=some (.tup (r.2.map V.str))) rows kvs
def DK.mono{H H':Hp}{rows:RS}{kvs:KL}(h:DK H rows kvs)(s:∀ b xs,H b=some (.tup xs)->H' b=some (.tup xs)):DK H' rows kvs :=
 Paired.mapP h λ_ _ z=>⟨z.1,let⟨t,e,x⟩:=z.2;⟨t,e,s _ _ x⟩⟩
theorem DK.keys:∀ {H:Hp}{rows:RS}{kvs:KL},DK H rows kvs->kvs.map (·.1)=rows.map λr=>(Sum.inr r.1:Key)
 | _,_,_,.nil=>rfl
 | _,_,_,.cons r t=>by rw[Ym,Ym,r.1,DK.keys t]
def Ao(rows:RS)(x:Str):LS:=(rows.lookup x).getD []
def NB{rows:RS}(nd:(rows.map (·.1)).Nodup){r:Str×LS}(h:r∈rows):Ao rows r.1=r.2:=by
 unfold Ao
 induction rows with
 | nil=>cases h
 | cons q rs ih =>
  have KO:(q.1 :: rs.map (·.1)).Nodup:=nd;obtain⟨n1,n2⟩:=Ft.mp KO;obtain⟨a,b⟩:=q;rw[C7]
  rcases Yr.mp h with e | h
  ·subst e;simp
  ·have ne:(r.1 == a)=false:=by
    rw[beq_eq_false_iff_ne];intro e;exact n1 (Yg.mpr ⟨r,h,e⟩)
   rw[ne];exact ih n2 h
theorem DK.val:∀ {H:Hp}{rows:RS}{kvs:KL},DK H rows kvs->(rows.map (·.1)).Nodup->∀ {r:Str×LS},r∈rows->∃ t,BS kvs (Sum.inr r.1)=some (.ref t)/\H t=some (.tup (r.2.map V.str))
 | _,_,_,.nil,_,r,h=>nomatch h
 | _,q :: rs,p :: ps,.cons z t,nd,r,h=>by
  have KO:(q.1 :: rs.map (·.1)).Nodup:=nd;obtain⟨n1,n2⟩:=Ft.mp KO;obtain⟨z1,u,z2,z3⟩:=z
  rcases Yr.mp h with e | h
  ·subst e;exact⟨u,by rw[ND z1,z2],z3⟩
  ·have ne:¬ p.1=(Sum.inr r.1:Key):=λe=>n1 (by
    rw[z1]at e;have e':q.1=r.1:=by injection e
    rw[e'];exact Yg.mpr ⟨r,h,Y⟩)
   obtain⟨u',h1,h2⟩:=DK.val t n2 h;exact⟨u',by rw[NC ne];exact h1,h2⟩
def Wl{H:Hp}{rows:RS}{kvs:KL}(h:DK H rows kvs):(kvs.map λp=>kV p.1)=(rows.map (·.1)).map V.str:=by
 have e:(kvs.map λp=>kV p.1)=(kvs.map (·.1)).map kV:=by rw[CV];rfl
 rw[e,h.keys,CV,CV];rfl
end Md
namespace L2
open PySem PySem.Spec PyProof.Rows
section
variable {X:Cx}{pins:PL}{σ:St}{H H':Hp}{s:Shared}{h':Heap}
theorem dY{α β:Type}{F:α->β->Prop}:∀ {l:List α}{k:List β},l.length=k.length->(∀(i:Nat) (a:α) (b:β),l[i]?=some a->k[i]?=some b->F a b)->Paired F l k
 | [],[],_,_=>.nil
 | [],_ :: _,h,_=>by simp at h
 | _ :: _,[],h,_=>by simp at h
 | a :: l,b :: k,h,f=>.cons (f 0 a b rfl rfl) (dY (by simpa using h) λi x y hx hy=>f (i + 1) x y (by simpa using hx) (by simpa using hy))
end
section
variable {X:Cx}
def gX(K:Fg):R2:=λx y H Q=>∃ a b xs ys,x=.ref a/\y=.ref b/\AJ K H a xs/\AJ K H b ys/\xs.length + ys.length<=sizeLine /\
 (xs=[]->Q (.ref b) H)/\(xs≠[]->ys=[]->Q (.ref a) H)/\(xs≠[]->ys≠[]->∀ p,H p=none->Q (.ref p) (upd H p (.tup (xs++ys))))
def VT:BO X (binaryOp .Add) (gX X.K):=by
 exfalso;obtain⟨a,b,xs,ys,rfl,rfl,ha,hb,hz,q0,q1,q2⟩:=h;by_cases hx:xs=[]
 ·cases rx;cases ry;obtain⟨its,r1,p1,_⟩:=I.tuple ha;obtain⟨QF,r2,p2,_⟩:=I.tuple hb;have e:its=[]:=r1.nil_iff.mpr hx;obtain⟨⟨cls,dd,data,sl⟩,ho,hc,n,hd⟩:=id p1;obtain⟨⟨QU,GQ,data2,F4⟩,BF,Ct,n2,hd2⟩:=id p2;simp only at hc hd Ct hd2;subst hc hd Ct hd2;exact concat_meets ⟨_,ho,Y⟩ ⟨_,BF,Y⟩ noFill_tuple_add seq_tuple_add PySem.F.slot_tuple_add Ww (W0 _ _)
   (tuple_addW0 a b its.toArray QF.toArray n n2 dd GQ sl F4 (by simp[e])) ⟨ho,BF,⟨.ref b,H,I,Y,q0 hx⟩⟩
 ·exact vU pins s σ H _ _ v u Q I rx ry ⟨a,b,xs,ys,Y,Y,ha,hb,hx,hz,q1 hx,q2 hx⟩
end
section
variable {X:Cx}{pins:PL}{σ:St}{H:Hp}{s:Shared}{h':Heap}
end
section
variable {X:Cx}
end
section
variable {X:Cx}
end
section
variable {prog:Program}{w:World}{A:Around}{E:EV}{s:Shared}
def NX{p t:Addr}{k:Nat}{us:Array Value}{u:Value}{Q:EV}(hp:s.heap.IsTupleIter p t k)(ht:s.heap.IsTuple t us)(hu:us[k]?=some u)
  (q:∀ g,g.IsTupleIter p t (k + 1)->Heap.SameBut p s.heap g->Q u {s with heap:=g}):wpAny (model prog w) A (Builtin.SmallTypes.nextOf (.ref p)) Q E s:=by
 obtain⟨ob,h1,h2,h3⟩:=id hp;obtain⟨ot,h4,_,nt,h5⟩:=ht;unfold Builtin.SmallTypes.nextOf;refine Ja (wpAny_callSpecial?_slot (name:=Str.ofString "__next__") hp.typeIs Ta (wpAny_call_entry Ta hp.typeIs PySem.F.entry_tuple_iterator_next ?_ (PySem.F.args_tuple_iterator_next_1 _)));show wpAny _ _ (field (.ref p) 0>>=_) _ _ s;refine Ja (Jg h1 h3 (x:=.ref t) rfl ?_);show wpAny _ _ (if(Value.ref t == Value.none)=true then _ else _) _ _ s;rw[if_neg (show ¬ ((Value.ref t == Value.none)=true)from Yq)];show wpAny _ _ (field (.ref p) 1>>=_) _ _ s;refine Ja (Jg h1 h3 (x:=.int k 0) rfl ?_);show wpAny _ _ (seqItems? (.ref t)>>=_) _ _ s;refine Ja (wpAny_seqItems h4 h5 ?_);simp only[Bk,hu];refine Ja (wpAny_setField h1 h3 (by simp) (Jd ⟨u,Y,Jd (q _ ?_ (Nq ..))⟩));exact⟨_,LY _ h1 (Pu (Nm h3 _)),(Obj.cls_mapFields ..).trans h2,by rw[Nm h3];simp[rawInt]⟩
def O_{p t:Addr}{k:Nat}{us:Array Value}{Q:EV}(hh:A.handled=none)(hp:s.heap.IsTupleIter p t k)(ht:s.heap.IsTuple t us)(hu:us[k]?=none)
  (q:∀ g e,Heap.ExtBut p s.heap g->(∃ o,g.get? e=some o/\o.cls=.type "StopIteration")->E (.ref e) {s with heap:=g}):wpAny (model prog w) A (Builtin.SmallTypes.nextOf (.ref p)) Q E s:=by
 obtain⟨ob,h1,h2,h3⟩:=id hp;obtain⟨ot,h4,_,nt,h5⟩:=ht;unfold Builtin.SmallTypes.nextOf;refine Ja (wpAny_callSpecial?_slot (name:=Str.ofString "__next__") hp.typeIs Ta (wpAny_call_entry Ta hp.typeIs PySem.F.entry_tuple_iterator_next ?_ (PySem.F.args_tuple_iterator_next_1 _)));show wpAny _ _ (field (.ref p) 0>>=_) _ _ s;refine Ja (Jg h1 h3 (x:=.ref t) rfl ?_);show wpAny _ _ (if(Value.ref t == Value.none)=true then _ else _) _ _ s;rw[if_neg (show ¬ ((Value.ref t == Value.none)=true)from Yq)];show wpAny _ _ (field (.ref p) 1>>=_) _ _ s;refine Ja (Jg h1 h3 (x:=.int k 0) rfl ?_);show wpAny _ _ (seqItems? (.ref t)>>=_) _ _ s;refine Ja (wpAny_seqItems h4 h5 ?_);simp only[Bk,hu];refine Ja (wpAny_rule (Ja (wpAny_setField h1 h3 (by simp) ?_)));show wpAny _ _ (newExc (.type "StopIteration") []>>=_) _ _ _;refine Ja ?_;simp only[newExc,newTuple];refine Ja (wpAny_newObj_type ?_ (by size_fits));refine Ja (m:=firstArgMember _ _) (wpAny_of_eq (a:=Value.none) (by first | rfl | (simp only[firstArgMember];rfl)) ?_);refine wpAny_newObj_type ?_ (by size_fits);simp only[raiseNew];refine Ja (wpAny_handled ?_)
 first | rw[show A.in1.handled=none from hh] | rw[hh]
 refine Ja (Jd (wpAny_throw ?_));exact q _ _ (((Nq ..).extBut.push _).push _) ⟨_,Yl _ rfl,Y⟩
structure Fo(h:Heap)(z ti to i1 i2 l1 l2:Addr)(k:Nat)(f:Value):Prop where
 z:IsZip h z ti to f
 ti:IsPair h ti (.ref i1) (.ref i2)
 to:∃ a b,IsPair h to a b
 i1:h.IsTupleIter i1 l1 k
 i2:h.IsTupleIter i2 l2 k
theorem Fo.at{h h':Heap}{z ti to i1 i2 l1 l2:Addr}{k:Nat}{f:Value}(x:Fo h z ti to i1 i2 l1 l2 k f)(e:∀ b∈[z,ti,to,i1,i2],∀ o,h.get? b=some o->h'.get? b=some o):Fo h' z ti to i1 i2 l1 l2 k f :=
 ⟨e z (by simp) _ x.z,e ti (by simp) _ x.ti,let⟨a,b,y⟩:=x.to;⟨a,b,e to (by simp) _ y⟩,x.i1.at λo q=>e i1 (by simp) o q,x.i2.at λo q=>e i2 (by simp) o q⟩
def oM{z ti to i1 i2 l1 l2:Addr}{k:Nat}{xs ys:Array Value}{x y:Value}{Q:EV}(D:ZipApart z ti to i1 i2 l1 l2)(st:Fo s.heap z ti to i1 i2 l1 l2 k .none)
  (t1:s.heap.IsTuple l1 xs) (t2:s.heap.IsTuple l2 ys) (hx:xs[k]?=some x) (hy:ys[k]?=some y)
  (q:∀ g,Fo g z ti to i1 i2 l1 l2 (k + 1) (rawInt s.heap.objs.size)->IsPair g s.heap.objs.size x y->(∀ c o,c≠z->c≠to->c≠i1->c≠i2->s.heap.get? c=some o->g.get? c=some o)->Q (.ref s.heap.objs.size) {s with heap:=g}):
  wpAny (model prog w) A (Builtin.«zip.__next__» ⟨[.ref z],[]⟩) (λfin s'=>∃ v,fin=.done (.ret v)/\Q v s') E s:=by
 obtain⟨hz,hti,⟨a,b,hto⟩,Ef,Cd⟩:=st;show wpAny _ _ (field (.ref z) 2>>=_) _ _ _;refine Ja (Jg hz rfl (x:=.bool false) rfl ?_);show wpAny _ _ (field (.ref z) 3>>=_) _ _ _;refine Ja (Jg hz rfl (x:=.ref ti) rfl (Ja (wpAny_seqItems hti rfl ?_)));show wpAny _ _ (Builtin.SmallTypes.ownedTupleIsFree (.ref z)>>=_) _ _ _;refine Ja ?_;unfold Builtin.SmallTypes.ownedTupleIsFree;refine Ja (Jg hz rfl (x:=.none) rfl (Jd ?_));simp only[if_true];refine Ja (wpAny_rule (Ja (Jg hz rfl (x:=.ref to) rfl (Ja (wpAny_setField_rec hz (by simp) λg1 z1 e1=>?_)))));replace z1:IsZip g1 z ti to .ellipsis:=z1;refine Ja ?_;simp only[List.zipIdx_cons,List.zipIdx_nil,LP,List.forIn_nil];refine Ja (Ja (wpAny_onRaise ?_));show wpAny _ _ (Builtin.SmallTypes.nextOf (.ref i1)>>=_) _ _ _;refine Ja (NX (Ef.extBut e1.extBut D.i1z) (t1.extBut e1.extBut D.l1z) hx λg2 j1 e2=>Jd ?_);have to2:IsPair g2 to a b:=e2.extBut _ _ D.TOi1 (e1.extBut _ _ D.TOz hto);refine Ja (wpAny_seqItems to2 rfl (Ja (wpAny_updateSeq_pair to2 λg3 to3 e3=>?_)));replace to3:IsPair g3 to x b:=to3;refine Ja (wpAny_letGo (Jd (Ja (Ja (wpAny_onRaise ?_)))));show wpAny _ _ (Builtin.SmallTypes.nextOf (.ref i2)>>=_) _ _ _;refine Ja (NX (((Cd.extBut e1.extBut D.i2z).extBut e2.extBut D.i12.symm).extBut e3.extBut D.TOi2.symm) (((t2.extBut e1.extBut D.l2z).extBut e2.extBut D.l2i1).extBut e3.extBut D.l2TO) hy λg4 j2 e4=>Jd ?_);have Nw:IsPair g4 to x b:=e4.extBut _ _ D.TOi2 to3;refine Ja (wpAny_seqItems Nw rfl (Ja (wpAny_updateSeq_pair Nw λg5 Hl e5=>?_)));replace Hl:IsPair g5 to x y:=Hl;refine Ja (wpAny_letGo (Jd (Jd (Ja (wpAny_seqItems Hl rfl (Ja (wpAny_newTuple ?_)))))));have sz:g5.objs.size=s.heap.objs.size:=by rw[e5.1,e4.1,e3.1,e2.1,e1.1]
 have z5:IsZip g5 z ti to .ellipsis:=e5.extBut _ _ D.TOz.symm (e4.extBut _ _ D.i2z.symm (e3.extBut _ _ D.TOz.symm (e2.extBut _ _ D.i1z.symm z1)));have k5:∀ c o,c≠z->c≠to->c≠i1->c≠i2->s.heap.get? c=some o->g5.get? c=some o:=λc o c1 c2 c3 c4 e=>e5.extBut _ _ c2 (e4.extBut _ _ c4 (e3.extBut _ _ c2 (e2.extBut _ _ c3 (e1.extBut _ _ c1 e))));have UR:g5.IsTupleIter i1 l1 (k + 1):=((j1.extBut e3.extBut D.TOi1.symm).extBut e4.extBut D.i12).extBut e5.extBut D.TOi1.symm;have UQ:g5.IsTupleIter i2 l2 (k + 1):=j2.extBut e5.extBut D.TOi2.symm;have zlt:z<g5.objs.size:=Ye z5;show wpAny _ _ (Builtin.SmallTypes.ownedTupleHandOut (.ref z) (.ref g5.objs.size)>>=_) _ _ _;refine Ja ?_;unfold Builtin.SmallTypes.ownedTupleHandOut;have z6:IsZip (g5.push {cls:=.type "tuple",data:=.seq #[x,y] }) z ti to .ellipsis:=Yc _ z5;refine Ja (wpAny_setField_rec z6 (by simp) λg7 z7 e7=>?_);replace z7:IsZip g7 z ti to (rawInt g5.objs.size):=z7;refine wpAny_setField_rec z7 (by simp) λg8 z8 e8=>?_;replace z8:IsZip g8 z ti to (rawInt g5.objs.size):=z8;have up:∀ c o,c≠z->g5.get? c=some o->g8.get? c=some o:=λc o c1 e=>e8.extBut _ _ c1 (e7.extBut _ _ c1 (Yc _ e));have p8:IsPair g8 g5.objs.size x y:=e8.extBut _ _ (Cy zlt) (e7.extBut _ _ (Cy zlt) (Yl _ rfl));rw[sz]at z8 p8;refine Jd ⟨Z,?_⟩;show Q (.ref g5.objs.size) _;rw[sz];exact q g8 ⟨z8,up _ _ D.TIz (k5 _ _ D.TIz D.TITO D.TIi1 D.TIi2 hti),⟨x,y,up _ _ D.TOz Hl⟩,UR.at λo e=>up _ o D.i1z e,UQ.at λo e=>up _ o D.i2z e⟩ p8 λc o c1 c2 c3 c4 e=>up c o c1 (k5 c o c1 c2 c3 c4 e)
def oK{z ti to i1 i2 l1 l2:Addr}{k:Nat}{xs ys:Array Value}{Q:Fin->Shared->Prop}(hh:A.handled=none)(D:ZipApart z ti to i1 i2 l1 l2)(st:Fo s.heap z ti to i1 i2 l1 l2 k .none)
  (t1:s.heap.IsTuple l1 xs) (t2:s.heap.IsTuple l2 ys) (CK:xs[k]?=none\/ys[k]?=none)
  (q:∀ g e,(∀ c o,c≠z->c≠to->c≠i1->c≠i2->s.heap.get? c=some o->g.get? c=some o)->(∃ o,g.get? e=some o/\o.cls=.type "StopIteration")->E (.ref e) {s with heap:=g}):
  wpAny (model prog w) A (Builtin.«zip.__next__» ⟨[.ref z],[]⟩) Q E s:=by
 obtain⟨hz,hti,⟨a,b,hto⟩,Ef,Cd⟩:=st;show wpAny _ _ (field (.ref z) 2>>=_) _ _ _;refine Ja (Jg hz rfl (x:=.bool false) rfl ?_);show wpAny _ _ (field (.ref z) 3>>=_) _ _ _;refine Ja (Jg hz rfl (x:=.ref ti) rfl (Ja (wpAny_seqItems hti rfl ?_)));show wpAny _ _ (Builtin.SmallTypes.ownedTupleIsFree (.ref z)>>=_) _ _ _;refine Ja ?_;unfold Builtin.SmallTypes.ownedTupleIsFree;refine Ja (Jg hz rfl (x:=.none) rfl (Jd ?_));simp only[if_true];refine Ja (wpAny_rule (Ja (Jg hz rfl (x:=.ref to) rfl (Ja (wpAny_setField_rec hz (by simp) λg1 z1 e1=>?_)))));replace z1:IsZip g1 z ti to .ellipsis:=z1;refine Ja ?_;simp only[List.zipIdx_cons,List.zipIdx_nil,LP,List.forIn_nil];refine Ja (Ja (wpAny_onRaise ?_));show wpAny _ _ (Builtin.SmallTypes.nextOf (.ref i1)>>=_) _ _ _;cases hx:xs[k]? with
 | none =>
  refine Ja (O_ hh (Ef.extBut e1.extBut D.i1z) (t1.extBut e1.extBut D.l1z) hx λg2 e e2 he=>?_);obtain⟨oe,ho,hc⟩:=he;have z2:IsZip g2 z ti to .ellipsis:=e2 _ _ D.i1z.symm z1;have ez:e≠z:=λx=>by subst x;rw[z2]at ho;cases ho;simp at hc
  exact wpAny_setField_rec z2 (by simp) λg3 _ e3=>q g3 e (λc o c1 _ c3 _ x=>e3.extBut _ _ c1 (e2 _ _ c3 (e1.extBut _ _ c1 x))) ⟨oe,e3.extBut _ _ ez ho,hc⟩
 | some x =>
  have hy:ys[k]?=none:=by rcases CK with h | h;rw[hx]at h;cases h;exact h
  refine Ja (NX (Ef.extBut e1.extBut D.i1z) (t1.extBut e1.extBut D.l1z) hx λg2 j1 e2=>Jd ?_);have to2:IsPair g2 to a b:=e2.extBut _ _ D.TOi1 (e1.extBut _ _ D.TOz hto);refine Ja (wpAny_seqItems to2 rfl (Ja (wpAny_updateSeq_pair to2 λg3 to3 e3=>?_)));refine Ja (wpAny_letGo (Jd (Ja (Ja (wpAny_onRaise ?_)))));show wpAny _ _ (Builtin.SmallTypes.nextOf (.ref i2)>>=_) _ _ _;refine Ja (O_ hh (((Cd.extBut e1.extBut D.i2z).extBut e2.extBut D.i12.symm).extBut e3.extBut D.TOi2.symm) (((t2.extBut e1.extBut D.l2z).extBut e2.extBut D.l2i1).extBut e3.extBut D.l2TO) hy λg4 e e4 he=>?_);obtain⟨oe,ho,hc⟩:=he;have z4:IsZip g4 z ti to .ellipsis:=e4 _ _ D.i2z.symm (e3.extBut _ _ D.TOz.symm (e2.extBut _ _ D.i1z.symm z1));have ez:e≠z:=λx=>by subst x;rw[z4]at ho;cases ho;simp at hc
  exact wpAny_setField_rec z4 (by simp) λg5 _ e5=>q g5 e (λc o c1 c2 c3 c4 x=>e5.extBut _ _ c1 (e4 _ _ c4 (e3.extBut _ _ c2 (e2.extBut _ _ c3 (e1.extBut _ _ c1 x))))) ⟨oe,e5.extBut _ _ ez ho,hc⟩
def qN{z ti to i1 i2 l1 l2:Addr}{k:Nat}{xs ys:Array Value}{x y:Value}{Q:OU->Shared->Prop}(D:ZipApart z ti to i1 i2 l1 l2)(st:Fo s.heap z ti to i1 i2 l1 l2 k .none)
  (t1:s.heap.IsTuple l1 xs) (t2:s.heap.IsTuple l2 ys) (hx:xs[k]?=some x) (hy:ys[k]?=some y)
  (q:∀ g,Fo g z ti to i1 i2 l1 l2 (k + 1) (rawInt s.heap.objs.size)->IsPair g s.heap.objs.size x y->(∀ c o,c≠z->c≠to->c≠i1->c≠i2->s.heap.get? c=some o->g.get? c=some o)->Q (some (.ref s.heap.objs.size)) {s with heap:=g}):
  wpAny (model prog w) A (pyNext (.ref z)) Q E s:=by
 have hT:s.TypeIs (.ref z) "zip":=⟨_,st.z,Y⟩;unfold pyNext;exact Ja (wpAny_attempt (wpAny_callSpecial?_slot (name:=Str.ofString "__next__") hT Ju (wpAny_call_entry Ju hT Tn (oM D st t1 t2 hx hy λg a1 a2 a3=>Jd (q g a1 a2 a3)) (TY _))))
def qM{z ti to i1 i2 l1 l2:Addr}{k:Nat}{xs ys:Array Value}{Q:OU->Shared->Prop}(hh:A.handled=none)(D:ZipApart z ti to i1 i2 l1 l2)(st:Fo s.heap z ti to i1 i2 l1 l2 k .none)
  (t1:s.heap.IsTuple l1 xs) (t2:s.heap.IsTuple l2 ys) (CK:xs[k]?=none\/ys[k]?=none)
  (q:∀ g,(∀ c o,c≠z->c≠to->c≠i1->c≠i2->s.heap.get? c=some o->g.get? c=some o)->Q none {s with heap:=g}):wpAny (model prog w) A (pyNext (.ref z)) Q E s:=by
 have hT:s.TypeIs (.ref z) "zip":=⟨_,st.z,Y⟩;unfold pyNext;refine Ja (wpAny_attempt (wpAny_callSpecial?_slot (name:=Str.ofString "__next__") hT Ju (wpAny_call_entry Ju hT Tn (oK hh D st t1 t2 CK λg e hk he=>?_) (TY _))));obtain⟨o,ho,hc⟩:=he;refine Ja (wpAny_isInstance (T:="StopIteration") (b:=true) ⟨o,ho,hc⟩ isSubtype_stop ?_);exact Jd (q _ hk)
end
def Gy(ps:List (V×V))(Ok:Hp->Prop):It :=
 ⟨λi H=>i<ps.length/\Ok H,λi H v H'=>∃ t p,ps[i]?=some p/\H t=none/\v=.ref t/\H'=upd H t (.tup [p.1,p.2]),λi H=>ps.length<=i/\Ok H⟩
section
variable {prog:Program}{w:World}{A:Around}{E:EV}{s:Shared}
abbrev J_(h:Heap)(l1:Addr):Heap:=h.push {cls:=.type "tuple_iterator",data:=.fields #[.ref l1,.int 0 0] }
abbrev Qm(h:Heap)(l1 l2:Addr):Heap:=(J_ h l1).push {cls:=.type "tuple_iterator",data:=.fields #[.ref l2,.int 0 0] }
abbrev Ql(h:Heap)(l1 l2:Addr):Heap:=(Qm h l1 l2).push {cls:=.type "tuple",data:=.seq #[.ref h.objs.size,.ref (J_ h l1).objs.size] }
abbrev Qk(h:Heap)(l1 l2:Addr):Heap:=(Ql h l1 l2).push {cls:=.type "tuple",data:=.seq #[.none,.none] }
abbrev MM(h:Heap)(l1 l2:Addr):Heap:=(Qk h l1 l2).push {cls:=.type "zip",data:=.fields #[.none,.bool false,.bool false,.ref (Qm h l1 l2).objs.size,.ref (Ql h l1 l2).objs.size] }
def pJ(l1 l2:Addr)(xs ys:Array Value):Meets (Builtin.«zip.__new__» ⟨[.type "zip",.ref l1,.ref l2],[]⟩) (λ_ R s=>s.heap.IsTuple l1 xs/\s.heap.IsTuple l2 ys /\
   R (.ok (.ret (.ref (Qk s.heap l1 l2).objs.size))) {s with heap:=MM s.heap l1 l2}):=
 .of_wp λprog w A R s h=>by
  obtain⟨hp,g,d,tk,os⟩:=s;obtain⟨t1,t2,h⟩:=h;have hsub:=sub_zip;have T1:Heap.IsTuple (Shared.heap ⟨hp,g,d,tk,os⟩) l1 xs:=t1;have T2:Heap.IsTuple (Shared.heap ⟨hp.push {cls:=.type "tuple_iterator",data:=.fields #[.ref l1,.int 0 0] },g,d,tk,os⟩) l2 ys:=Heap.IsTuple.push t2 _
  wp_walk using wpAny_pyIter_tuple T1,wpAny_pyIter_tuple T2
  exact⟨Z,h⟩
def lj{l1 l2:Addr}{xs ys:Array Value}{Q:EV}(t1:s.heap.IsTuple l1 xs)(t2:s.heap.IsTuple l2 ys)
  (q:∀ g,Fo g (s.heap.objs.size + 4) (s.heap.objs.size + 2) (s.heap.objs.size + 3) s.heap.objs.size (s.heap.objs.size + 1) l1 l2 0 .none->(∀ c o,s.heap.get? c=some o->g.get? c=some o)->Q (.ref (s.heap.objs.size + 4)) {s with heap:=g}):
  wpAny (model prog w) A (call (.type "zip") [.ref l1,.ref l2]) Q E s:=by
 refine callType_new PySem.F.called_zip (by decide) (PySem.F.typeCall_zip_2 _ _) (PySem.F.newCall_zip_2 _ _) (λobj=>PySem.F.args_object_init_3 obj _ _) PySem.F.entry_zip_new (pJ l1 l2 xs ys) ⟨t1,t2,?_⟩;have n1:(J_ s.heap l1).objs.size=s.heap.objs.size + 1:=Co ..;have n2:(Qm s.heap l1 l2).objs.size=s.heap.objs.size + 2:=by rw[Co,n1]
 have n3:(Ql s.heap l1 l2).objs.size=s.heap.objs.size + 3:=by rw[Co,n2]
 have n4:(Qk s.heap l1 l2).objs.size=s.heap.objs.size + 4:=by rw[Co,n3]
 have up:∀ {h:Heap} {a:Addr} {o:Obj} (x:Obj),h.get? a=some o->(h.push x).get? a=some o:=λx e=>Yc _ e;have f5:(MM s.heap l1 l2).get? (Qk s.heap l1 l2).objs.size=some _:=Yl _ rfl;have f4:(MM s.heap l1 l2).get? (Ql s.heap l1 l2).objs.size=some _:=up _ (Yl _ rfl);have f3:(MM s.heap l1 l2).get? (Qm s.heap l1 l2).objs.size=some _:=up _ (up _ (Yl _ rfl));have f2:(MM s.heap l1 l2).get? (J_ s.heap l1).objs.size=some _:=up _ (up _ (up _ (Yl _ rfl)));have f1:(MM s.heap l1 l2).get? s.heap.objs.size=some _:=up _ (up _ (up _ (up _ (Yl _ rfl))));show _/\_;rw[n2,n3,n4]at f5;rw[n1,n2]at f3;rw[n3]at f4;rw[n1]at f2;rw[n4];exact⟨⟨_,f5,Y⟩,q _ ⟨f5,f3,⟨_,_,f4⟩,⟨_,f1,Y,Y⟩,⟨_,f2,Y,Y⟩⟩ λc o x=>up _ (up _ (up _ (up _ (up _ x))))⟩
end
def Ow{xs ys:LV}{i:Nat}{p:V×V}(h:(xs.zip ys)[i]?=some p):xs[i]?=some p.1/\ys[i]?=some p.2:=by
 rw[W2]at h;exact h
def Inv.turnedNewL{X:Cx}{pins:PL}{σ:St}{H:Hp}{s:Shared}{h':Heap}{t':Nat}{its:List Addr}{a:Addr}{o:HO}(I:Inv X pins σ H s)(k:∀ b u,b∉its->s.heap.get? b=some u->h'.get? b=some u)
  (f:∀ b∈its,BA X pins H b) (ha:s.heap.objs.size<=a) (new:A2 X.prog X.w (upd H a o) h' a o):Inv X pins σ (upd H a o) {s with heap:=h',toks:=t' }:=by
 have nit:∀ b u,H b=some u->b∉its:=λb u e z=>by have:=(f b z).1;rw[this]at e;cases e
 have na:∀ b u,H b=some u->b≠a:=λb u e=>Ys (Yp (I.hok.lt e) ha);have low:∀ {b u},H b=some u->(upd H a o) b=some u:=λ{b u} e=>by rw[AD (na b u e)];exact e
 refine I.step (g':=s.gens) (d':=s.drawn) (ch:=its) (λb hb=>?_) (λb u _ _ hc e _=>k b u hc e) (λb u _ _ hc e _=>⟨u.slots,k b u hc e⟩)
  (λb u _ e n=>by rw[AD (Ys (Yp (Ye e) ha))];exact n)
  (λb u hc e=>⟨u,k b u hc e⟩) (λ_ _ e=>low e) (λ_ _ _ e=>low e) (λb ps e=>⟨#[],by rw[low e];simp⟩) (λm hm=>?_) (λb u e=>?_) I.bare
 ·obtain⟨f0,f1,f2,f3,f4,f5⟩:=f b hb;exact⟨f3,f1,f4,f5⟩
 ·obtain⟨o',es,ep,ho,r⟩:=hm;exact⟨o',es,ep,k _ o' (λz=>(f _ z).2.1 rfl) ho,r⟩
 ·by_cases hb:b=a
  ·subst hb;rw[uS]at e;cases e;exact new
  ·rw[AD hb]at e;refine(I.hok b u e).stay (λc v hc q=>k c v ?_ q) (λ_ q=>low q) λ_ _ q=>low q
   rcases hc with z | z
   ·rw[z];exact nit b u e
   ·exact nit c _ z
def Inv.turnedL{X:Cx}{pins:PL}{σ:St}{H:Hp}{s:Shared}{h':Heap}{t':Nat}{its:List Addr}(I:Inv X pins σ H s)(k:∀ b u,b∉its->s.heap.get? b=some u->h'.get? b=some u)
  (f:∀ b∈its,BA X pins H b):Inv X pins σ H {s with heap:=h',toks:=t' }:=by
 have nit:∀ b u,H b=some u->b∉its:=λb u e z=>by have:=(f b z).1;rw[this]at e;cases e
 refine I.step (g':=s.gens) (d':=s.drawn) (ch:=its) (λb hb=>?_) (λb u _ _ hc e _=>k b u hc e) (λb u _ _ hc e _=>⟨u.slots,k b u hc e⟩)
  (λb u _ e n=>n) (λb u hc e=>⟨u,k b u hc e⟩) (λ_ _ e=>e) (λ_ _ _ e=>e) (λb ps e=>⟨#[],by rw[e];simp⟩) (λm hm=>?_) (λb u e=>?_) I.bare
 ·obtain⟨f0,f1,f2,f3,f4,f5⟩:=f b hb;exact⟨f3,f1,f4,f5⟩
 ·obtain⟨o',es,ep,ho,r⟩:=hm;exact⟨o',es,ep,k _ o' (λz=>(f _ z).2.1 rfl) ho,r⟩
 ·refine(I.hok b u e).stay (λc v hc q=>k c v ?_ q) (λ_ q=>q) λ_ _ q=>q
  rcases hc with z | z
  ·rw[z];exact nit b u e
  ·exact nit c _ z
def mE{P:Program}{w:World}{K:Fg}{elts:List Expr}{x1}{pos:Pos}{xs ys:LV}(a b z ti to i1 i2:Addr)(D:ZipApart z ti to i1 i2 a b):
  E3 P w K (.Tuple elts x1 pos) (Gy (xs.zip ys) λH=>AJ K H a xs/\AJ K H b ys) [z,ti,to,i1,i2] z (λi h=>Fo h z ti to i1 i2 a b i .none) where
 mem:=by simp
 obj:=λi h st c hc=>by
  have Ap:c=z\/c=ti\/c=to\/c=i1\/c=i2:=by simpa using hc
  obtain⟨x,y,h3⟩:=st.to;obtain⟨o1,e1,_,d1⟩:=st.i1;obtain⟨o2,e2,_,d2⟩:=st.i2
  rcases Ap with rfl | rfl | rfl | rfl | rfl
  ·exact⟨_,st.z,λv q=>by cases q⟩
  ·exact⟨_,st.ti,λv q=>by cases q⟩
  ·exact⟨_,h3,λv q=>by cases q⟩
  ·exact⟨_,e1,λv q=>by rw[d1]at q;cases q⟩
  ·exact⟨_,e2,λv q=>by rw[d2]at q;cases q⟩
 keep:=λi h h' st k=>st.at k
 item:=by
  intro X hP hw hK hc i pins s σ H E I hf st hg;subst hP hw hK;obtain⟨hi,ha,hb⟩:=hg;obtain⟨p,hp⟩:∃ p,(xs.zip ys)[i]?=some p:=⟨(xs.zip ys)[i]'hi,Yb hi⟩;obtain⟨hx,hy⟩:=Ow hp;obtain⟨its,rv,pa,_⟩:=I.tuple ha;obtain⟨jts,CZ,pb,_⟩:=I.tuple hb;obtain⟨u,hu,ru⟩:=rv.get hx;obtain⟨v,hv,UH⟩:=CZ.get hy;refine qN D st (show s.heap.IsTuple a its.toArray from pa) (show s.heap.IsTuple b jts.toArray from pb) (by simpa using hu) (by simpa using hv) λg Ay hpr hk=>?_;refine⟨Z,?_⟩;refine wpAny_letOwnedTupleGo_zip (s:={s with heap:=g}) Ay.z λg' z' sb=>?_;have zlt:z<s.heap.objs.size:=Ye st.z;have nz:s.heap.objs.size≠z:=Cy zlt;have Dc:Heap.ExtBut z g g':=sb.extBut;have hT:IsPair g' s.heap.objs.size u v:=Dc _ _ nz hpr;have I1:Inv X pins σ (upd H s.heap.objs.size (.tup [p.1,p.2])) {s with heap:=g' }:=I.turnedNewL (t':=s.toks) (its:=[z,ti,to,i1,i2]) (λc o hc e=>Dc c o (λq=>hc (by simp[q])) (hk c o (λq=>hc (by simp[q])) (λq=>hc (by simp[q])) (λq=>hc (by simp[q])) (λq=>hc (by simp[q])) e)) hf (Yd _)
   ⟨O,[u,v],.cons ru (.cons UH .nil),⟨_,hT,Y,Z⟩⟩
  have Eu:Fo g' z ti to i1 i2 a b (i + 1) .none:=by
   obtain⟨a1,a2,a3⟩:=Ay.to;exact⟨z',Dc _ _ D.TIz Ay.ti,⟨a1,a2,Dc _ _ D.TOz a3⟩,Ay.i1.extBut Dc D.i1z,Ay.i2.extBut Dc D.i2z⟩
  refine⟨.ref s.heap.objs.size,_,I1,Y,⟨s.heap.objs.size,p,hp,I.hok.fresh (Yd _),Y,Y⟩,Eu,λc hc=>?_⟩;have lt:∀ c∈[z,ti,to,i1,i2],c<s.heap.objs.size:=λc hc=>by
   have Ap:c=z\/c=ti\/c=to\/c=i1\/c=i2:=by simpa using hc
   obtain⟨a1,a2,a3⟩:=st.to;obtain⟨o1,e1,_⟩:=st.i1;obtain⟨o2,e2,_⟩:=st.i2
   rcases Ap with rfl | rfl | rfl | rfl | rfl
   ·exact zlt
   ·exact Ye st.ti
   ·exact Ye a3
   ·exact Ye e1
   ·exact Ye e2
  rw[AD (Ys (lt c hc))];exact(hf c hc).1
 done:=by
  intro X hP hw hK hc i pins s σ H E I hf st hg;subst hP hw hK;obtain⟨hi,ha,hb⟩:=hg;obtain⟨its,rv,pa,_⟩:=I.tuple ha;obtain⟨jts,CZ,pb,_⟩:=I.tuple hb;have l1:=rv.length;have l2:=CZ.length;have CK:its.toArray[i]?=none\/jts.toArray[i]?=none:=by
   rw[Ng]at hi
   rcases Nat.le_total xs.length ys.length with h | h
   ·rw[Nat.min_eq_left h]at hi;exact .inl (by simp;omega)
   ·rw[Nat.min_eq_right h]at hi;exact .inr (by simp;omega)
  exact qM (I.ok.hd hc) D st (show s.heap.IsTuple a its.toArray from pa) (show s.heap.IsTuple b jts.toArray from pb) CK λg hk=>⟨Y,I.turnedL (t':=s.toks) (its:=[z,ti,to,i1,i2]) (λc o hc e=>hk c o (λq=>hc (by simp[q])) (λq=>hc (by simp[q])) (λq=>hc (by simp[q])) (λq=>hc (by simp[q])) e) hf⟩
 self:=λA i s Q E st h=>wpAny_pyIter_zip st.z h
section
variable {X:Cx}
def ql(K:Fg)(ta:TA):TI:=λσ H R=>ta σ H λvs H1=>∃(a b:Addr) (xs ys:LV),vs=[.ref a,.ref b]/\AJ K H1 a xs/\AJ K H1 b ys/\R (Gy (xs.zip ys) λH=>AJ K H a xs/\AJ K H b ys) H1
def Zh{elts:List Expr}{x1}{ES:Pos}{a b:Expr}{ta:TA}{p pos:Pos}(hg:Gl X "zip")(hm:X.mg "zip"=none)(ha:PA X [a,b] ta)(hs:starEach [a,b] X.env=[(false,eval a X.env),(false,eval b X.env)]:=by rfl)(FQ:starEach [b] X.env=[(false,eval b X.env)]:=by rfl):
  PI X (.Tuple elts x1 ES) (.Call (.Name "zip" p) [a,b] [] pos) (ql X.K ta):=by
 intro pins s σ H R I h;refine Call_ (Fh I hg hm boot_zip (Ii (AK (ha pos pins s σ H _ I h) λus s1 ⟨vs,H1,I1,r1,q1⟩=>?_) (by rw[hs,FQ]) (by rw[FQ];rfl)));obtain⟨l1,l2,xs,ys,e,t1,t2,q⟩:=q1;subst e;cases r1 with
 | cons r rr =>
  cases rr with
  | cons r' rr =>
   cases rr;obtain rfl:_=Value.ref l1:=r;obtain rfl:_=Value.ref l2:=r';obtain⟨its,rv,pa,_⟩:=I1.tuple t1;obtain⟨jts,CZ,pb,_⟩:=I1.tuple t2;have b1:s1.heap.IsTuple l1 its.toArray:=pa;have b2:s1.heap.IsTuple l2 jts.toArray:=pb;have MR:l1<s1.heap.objs.size:=let⟨_,e,_⟩:=b1;Ye e;have UM:l2<s1.heap.objs.size:=let⟨_,e,_⟩:=b2;Ye e;refine lj b1 b2 λg st hk=>wpAny_pyIter_zip (s:={s1 with heap:=g}) st.z ?_;have D:ZipApart (s1.heap.objs.size + 4) (s1.heap.objs.size + 2) (s1.heap.objs.size + 3) s1.heap.objs.size (s1.heap.objs.size + 1) l1 l2:=W.ktu_apart _ _ _ MR UM;refine⟨_,[s1.heap.objs.size + 4,s1.heap.objs.size + 2,s1.heap.objs.size + 3,s1.heap.objs.size,s1.heap.objs.size + 1],_,_,H1,Y,I1.kept (t':=s1.toks) λb o e=>hk b o e,mE l1 l2 _ _ _ _ _ D,st,λc hc=>?_,q⟩;have Ap:c=s1.heap.objs.size + 4\/c=s1.heap.objs.size + 2\/c=s1.heap.objs.size + 3\/c=s1.heap.objs.size\/c=s1.heap.objs.size + 1:=by simpa using hc
   have ge:s1.heap.objs.size<=c:=by
    rcases Ap with rfl | rfl | rfl | rfl | rfl
    ·exact Gv _ _
    ·exact Gv _ _
    ·exact Gv _ _
    ·exact Yd _
    ·exact Gv _ _
   exact I1.fpOk ge (I1.hok.fresh ge)
end
def mh{prog:Program}{w:World}{A:Around}(hh:A.handled=none)(p t:Addr)(ne:t≠p)(us:Array Value):Draws prog w A p [p,t] us.size (λi v=>us[i]?=some v) (λi h=>h.IsTupleIter p t i/\h.IsTuple t us) where
 live:=λ_ _ st=>let⟨o,ho,_⟩:=st.1;⟨o,ho⟩
 frame:=λ_ _ _ st hk=>⟨st.1.at λo e=>hk p (by simp) o e,let⟨o,ho,r⟩:=st.2;⟨o,hk t (by simp) o ho,r⟩⟩
 item:=λi s Q E hi st q=>NX st.1 st.2 (u:=us[i]) (by simp[hi]) λg Ay sb=>q _ g s.toks (by simp[hi]) ⟨Ay,st.2.extBut sb.extBut ne⟩ sb
 done:=λs Q E st q=>O_ hh st.1 st.2 (by simp) q
def J5(b:Bool)(h:Heap)(p a:Addr)(i:Nat):Prop:=if b=true then h.IsListIter p a i else h.IsTupleIter p a i
def W5(b:Bool)(h:Heap)(a:Addr)(us:Array Value):Prop:=if b=true then h.IsList a us else h.IsTuple a us
theorem J5.at{b:Bool}{h h':Heap}{p a:Addr}{i:Nat}(x:J5 b h p a i)(e:∀ o,h.get? p=some o->h'.get? p=some o):J5 b h' p a i:=by
 cases b with
 | true=>exact Heap.IsListIter.at (show h.IsListIter p a i from x) e
 | false=>exact Heap.IsTupleIter.at (show h.IsTupleIter p a i from x) e
def J5.obj{b:Bool}{h:Heap}{p a:Addr}{i:Nat}(x:J5 b h p a i):∃ o,h.get? p=some o/\∀ v,o.data≠.cell v:=by
 cases b with
 | true =>
  obtain⟨o,e,_,d⟩:=(show h.IsListIter p a i from x);exact⟨o,e,λv z=>by rw[d]at z;cases z⟩
 | false =>
  obtain⟨o,e,_,d⟩:=(show h.IsTupleIter p a i from x);exact⟨o,e,λv z=>by rw[d]at z;cases z⟩
def mf{prog:Program}{w:World}{A:Around}(b:Bool)(hh:A.handled=none)(p t:Addr)(ne:t≠p)(us:Array Value):Draws prog w A p [p,t] us.size (λi v=>us[i]?=some v) (λi h=>J5 b h p t i/\W5 b h t us):=by
 cases b with
 | true=>exact Draws.list hh p t ne us
 | false=>exact mh hh p t ne us
def Inv.sseq{X:Cx}{pins:PL}{σ:St}{H:Hp}{s:Shared}{b:Bool}{a:Addr}{xs:LV}(I:Inv X pins σ H s)(h:Dq X.K b H a xs):∃ its:LU,AO xs its/\W5 b s.heap a its.toArray:=by
 cases b with
 | true =>
  obtain⟨its,rv,p,_⟩:=I.list (show SqL X.K H a xs from h);exact⟨its,rv,p.isList⟩
 | false =>
  obtain⟨its,rv,p,_⟩:=I.tuple (show AJ X.K H a xs from h);exact⟨its,rv,p⟩
def Gd(xs:LV):List (V×V):=(Ck 0 xs.length).zip xs
def NJ(xs:LV):(Gd xs).length=xs.length:=by
 unfold Gd;rw[Ng,CJ,Nat.min_self]
def SR{xs:LV}{i:Nat}{p:V×V}(h:(Gd xs)[i]?=some p):p.1=.int i/\xs[i]?=some p.2:=by
 obtain⟨h1,h2⟩:=Ow h;obtain⟨_,e⟩:=Dk h1;exact⟨by rw[e,Ep],h2⟩
section
variable {prog:Program}{w:World}{A:Around}{E:EV}{s:Shared}
def pf(l:Addr)(us:Array Value):Meets (Builtin.«enumerate.__new__» ⟨[.type "enumerate",.ref l],[]⟩) (λ_ R s=>s.heap.IsTuple l us /\
   R (.ok (.ret (.ref (s.heap.push {cls:=.type "tuple_iterator",data:=.fields #[.ref l,.int 0 0] }).objs.size)))
    {s with heap:=(s.heap.push {cls:=.type "tuple_iterator",data:=.fields #[.ref l,.int 0 0] }).push {cls:=.type "enumerate",data:=.fields #[.none,.bool false,.ref s.heap.objs.size,rawInt 0,.none,.none] } }):=
 .of_wp λprog w A R s h=>by
  obtain⟨hp,g,d,tk,os⟩:=s;obtain⟨ht,h⟩:=h;have hsub:=sub_enumerate;obtain⟨⟨c,dct,dt,sl⟩,hl,hc,n,hd⟩:=id ht;replace hc:c=.type "tuple":=hc;replace hd:dt=.seq us n:=hd;subst hc hd;have hT:Heap.IsTuple (Shared.heap ⟨hp,g,d,tk,os⟩) l us:=ht
  wp_walk using Tc hl
  refine wpAny_stack_any λst=>Jd ?_;split
  ·rename_i c _ _ _ _ _
   cases(c == Value.type "enumerate")
   ·wp_walk using Tc hl,wpAny_pyIter_tuple hT
    exact⟨Z,h⟩
   ·wp_walk using Tc hl,wpAny_pyIter_tuple hT
    exact⟨Z,h⟩
  ·wp_walk using Tc hl,wpAny_pyIter_tuple hT
   exact⟨Z,h⟩
def lX(b:Bool){l:Addr}{us:Array Value}{Q:EV}(hl:W5 b s.heap l us)
  (q:∀ g,IsEnum g (s.heap.objs.size + 1) s.heap.objs.size 0 .none->J5 b g s.heap.objs.size l 0->(∀ c o,s.heap.get? c=some o->g.get? c=some o)->Q (.ref (s.heap.objs.size + 1)) {s with heap:=g}):
  wpAny (model prog w) A (call (.type "enumerate") [.ref l]) Q E s:=by
 cases b with
 | true=>exact call_enumerate_list (show s.heap.IsList l us from hl) λg h1 h2 _ h4=>q g h1 h2 h4
 | false =>
  refine callType_new PySem.F.called_enumerate (by decide) (PySem.F.typeCall_enumerate_1 _) (PySem.F.newCall_enumerate_1 _) (λobj=>PySem.F.args_object_init_2 obj _) PySem.F.entry_enumerate_new (pf l us) ⟨hl,?_⟩;have n1:(J_ s.heap l).objs.size=s.heap.objs.size + 1:=Co ..;show _/\_;rw[n1];have he:IsEnum ((J_ s.heap l).push {cls:=.type "enumerate",data:=.fields #[.none,.bool false,.ref s.heap.objs.size,rawInt 0,.none,.none] }) (s.heap.objs.size + 1) s.heap.objs.size 0 .none:=by
   have:=Yl (J_ s.heap l) (o:={cls:=.type "enumerate",data:=.fields #[.none,.bool false,.ref s.heap.objs.size,rawInt 0,.none,.none] }) rfl;rw[n1]at this;exact this
  exact⟨⟨_,he,Y⟩,q _ he ⟨_,Yc _ (Yl _ rfl),Y,Y⟩ λc o x=>Yc _ (Yc _ x)⟩
end
def aK{prog:Program}{w:World}{A:Around}{E:EV}{s:Shared}{e p:Addr}{i:Int}{old:Value}{Q:OU->Shared->Prop}(hh:A.handled=none)(he:IsEnum s.heap e p i old)
  (nx:∀(Q:EV) (E:EV),(∀ g e,Heap.ExtBut p s.heap g->(∃ o,g.get? e=some o/\o.cls=.type "StopIteration")->E (.ref e) {s with heap:=g})->wpAny (model prog w) A.in1 (Builtin.SmallTypes.nextOf (.ref p)) Q E s)
  (q:∀ g,Heap.ExtBut p s.heap g->Q none {s with heap:=g}):wpAny (model prog w) A (pyNext (.ref e)) Q E s:=by
 have hT:s.TypeIs (.ref e) "enumerate":=⟨_,he,Y⟩;unfold pyNext;refine Ja (wpAny_attempt (wpAny_callSpecial?_slot (name:=Str.ofString "__next__") hT PySem.F.slot_enumerate_next (wpAny_call_entry PySem.F.slot_enumerate_next hT PySem.F.entry_enumerate_next ?_ (PySem.F.args_enumerate_next_1 _))));show wpAny _ _ (field (.ref e) 2>>=_) _ _ _;refine Ja (Jg he rfl (x:=.ref p) rfl (Ja (nx _ _ λg x eb hx=>?_)));obtain⟨o,ho,hc⟩:=hx;refine Ja (wpAny_isInstance (T:="StopIteration") (b:=true) ⟨o,ho,hc⟩ isSubtype_stop ?_);exact Jd (q _ eb)
def nV{P:Program}{w:World}{K:Fg}{elts:List Expr}{x1}{pos:Pos}{xs:LV}(b:Bool)(a e p:Addr)(ep:e≠p)(ea:e≠a)(ap:a≠p):
  E3 P w K (.Tuple elts x1 pos) (Gy (Gd xs) λH=>Dq K b H a xs) [e,p] e (λi h=>(∃ old,IsEnum h e p i old)/\J5 b h p a i) where
 mem:=by simp
 obj:=λi h st c hc=>by
  have Ap:c=e\/c=p:=by simpa using hc
  obtain⟨⟨old,he⟩,si⟩:=st
  rcases Ap with rfl | rfl
  ·exact⟨_,he,λv q=>by cases q⟩
  ·exact si.obj
 keep:=λi h h' st k=>by
  obtain⟨⟨old,he⟩,si⟩:=st;exact⟨⟨old,k e (by simp) _ he⟩,si.at λo q=>k p (by simp) o q⟩
 item:=by
  intro X hP hw hK hc i pins s σ H E I hf st hg;subst hP hw hK;obtain⟨hi,ha⟩:=hg;obtain⟨⟨old,he⟩,si⟩:=st;obtain⟨pr,hp⟩:∃ p,(Gd xs)[i]?=some p:=⟨(Gd xs)[i]'hi,Yb hi⟩;obtain⟨e1,hx⟩:=SR hp;obtain⟨its,rv,sq⟩:=I.sseq ha;obtain⟨u,hu,ru⟩:=rv.get hx;have hil:i<its.toArray.size:=by rw[NJ]at hi;have:=rv.length;simp;omega
  have D:=mf (prog:=X.prog) (w:=X.w) (A:=X.A.in1) b (I.ok.hd hc) p a ap its.toArray;refine wpAny_pyNext_enum_itemD D he ⟨si,sq⟩ hil ep (by simp;exact⟨ep,ea⟩) λx g tk hPx ho hst hT _ hk=>?_;have exu:x=u:=by
   have h1:its.toArray[i]?=some x:=hPx;have h2:its.toArray[i]?=some u:=by simpa using hu
   rw[h1]at h2;exact Yv h2
  subst exu;refine⟨Z,?_⟩;refine wpAny_letOwnedTupleGo_enum (s:={s with heap:=g,toks:=tk + 1}) ho λg' jX sb=>?_;have elt:e<s.heap.objs.size:=Ye he;have plt:p<s.heap.objs.size:=let⟨o,q,_⟩:=si.obj;Ye q;have Dc:Heap.ExtBut e g g':=sb.extBut;have H_:IsPair g' s.heap.objs.size (.int i tk) x:=Dc _ _ (Cy elt) hT;have I1:Inv X pins σ (upd H s.heap.objs.size (.tup [pr.1,pr.2])) {s with heap:=g',toks:=tk + 1}:=I.turnedNewL (t':=tk + 1) (its:=[e,p]) (λc o hc q=>Dc c o (λz=>hc (by simp[z])) (hk c o (λz=>hc (by simp[z])) (λz=>hc (by simp[z])) q)) hf (Yd _)
   ⟨O,[.int i tk,x],.cons (by rw[e1];exact⟨tk,Y⟩) (.cons ru .nil),⟨_,H_,Y,Z⟩⟩
  refine⟨.ref s.heap.objs.size,_,I1,Y,⟨s.heap.objs.size,pr,hp,I.hok.fresh (Yd _),Y,Y⟩,⟨⟨x,by simpa using jX⟩,hst.1.at λo q=>Dc _ o (Yj ep) q⟩,λc hc=>?_⟩;have Ap:c=e\/c=p:=by simpa using hc
  have ne:c≠s.heap.objs.size:=by
   rcases Ap with rfl | rfl
   ·exact Ys elt
   ·exact Ys plt
  rw[AD ne];exact(hf c hc).1
 done:=by
  intro X hP hw hK hc i pins s σ H E I hf st hg;subst hP hw hK;obtain⟨hi,ha⟩:=hg;obtain⟨⟨old,he⟩,si⟩:=st;obtain⟨its,rv,sq⟩:=I.sseq ha;have hl:=rv.length;rw[NJ]at hi;cases b with
  | true =>
   have si:s.heap.IsListIter p a i:=si;have sq:s.heap.IsList a its.toArray:=sq;refine aK (I.ok.hd hc) he (λQ E hE=>wpAny_nextOf_list_end (I.ok.hd hc) si sq (by simp;omega) hE) λg eb=>⟨Y,I.turnedL (t':=s.toks) (its:=[e,p]) (λc o hc q=>eb c o (λz=>hc (by simp[z])) q) hf⟩
  | false =>
   have si:s.heap.IsTupleIter p a i:=si;have sq:s.heap.IsTuple a its.toArray:=sq;refine aK (I.ok.hd hc) he (λQ E hE=>O_ (I.ok.hd hc) si sq (by simp;omega) hE) λg eb=>⟨Y,I.turnedL (t':=s.toks) (its:=[e,p]) (λc o hc q=>eb c o (λz=>hc (by simp[z])) q) hf⟩
 self:=λA i s Q E st h=>let⟨⟨_,he⟩,_⟩:=st;wpAny_pyIter_enum he h
section
variable {X:Cx}
def su(K:Fg)(ta:TA):TI:=λσ H R=>ta σ H λvs H1=>∃(b:Bool) (a:Addr) (xs:LV),vs=[.ref a]/\Dq K b H1 a xs/\R (Gy (Gd xs) λH=>Dq K b H a xs) H1
def aS{elts:List Expr}{x1}{ES:Pos}{a:Expr}{ta:TA}{p pos:Pos}(hg:Gl X "enumerate")(hm:X.mg "enumerate"=none)(ha:PA X [a] ta)(hs:starEach [a] X.env=[(false,eval a X.env)]:=by rfl):
  PI X (.Tuple elts x1 ES) (.Call (.Name "enumerate" p) [a] [] pos) (su X.K ta):=by
 intro pins s σ H R I h;refine Call_ (Fh I hg hm boot_enumerate (Ii (AK (ha pos pins s σ H _ I h) λus s1 ⟨vs,H1,I1,r1,q1⟩=>?_) hs rfl));obtain⟨b,l,xs,e,t1,q⟩:=q1;subst e;cases r1 with
 | cons r rr =>
  cases rr;obtain rfl:_=Value.ref l:=r;obtain⟨its,rv,sq⟩:=I1.sseq t1;have MR:l<s1.heap.objs.size:=by
   cases b with
   | true=>obtain⟨_,e,_⟩:=(show s1.heap.IsList l its.toArray from sq);exact Ye e
   | false=>obtain⟨_,e,_⟩:=(show s1.heap.IsTuple l its.toArray from sq);exact Ye e
  refine lX b sq λg he si hk=>wpAny_pyIter_enum (s:={s1 with heap:=g}) he ?_;refine⟨_,[s1.heap.objs.size + 1,s1.heap.objs.size],_,_,H1,Y,I1.kept (t':=s1.toks) λb o e=>hk b o e,nV b l _ _ (Nat.succ_ne_self _) (Cy (Px MR)) (Ys MR),⟨⟨_,he⟩,si⟩,λc hc=>?_,q⟩;have Ap:c=s1.heap.objs.size + 1\/c=s1.heap.objs.size:=by simpa using hc
  have ge:s1.heap.objs.size<=c:=by
   rcases Ap with rfl | rfl
   ·exact Gv _ _
   ·exact Yd _
  exact I1.fpOk ge (I1.hok.fresh ge)
end
end L2
namespace L2
open PySem PySem.Spec PyProof.Rows PySem.W
def TJ{A:Around}{k:Nat}(hr:AV k A):A.units + 65<cLine:=by have:=hr.un;omega
def dw{κ:Type}[DecidableEq κ]{kvs:List (κ×V)}{k:κ}(h:k∉kvs.map (·.1)):BS kvs k=none:=by
 cases e:BS kvs k with
 | none=>rfl
 | some v=>exact absurd (az e) h
def oj{κ:Type}[DecidableEq κ]{kvs:List (κ×V)}{k:κ}{v:V}(h:k∉kvs.map (·.1)):(BN kvs k v).map (·.1)=kvs.map (·.1)++[k]:=by
 rw[NA v (dw h),Bw];rfl
def nH{α:Type}{l:List α}(nd:l.Nodup){i:Nat}{x:α}(h:l[i]?=some x):x∉l.take i:=by
 intro m;have hi:=(Yn.mp h).1;have e:=(Yn.mp h).2;have sp:l=l.take i++l.drop i:=(Jt i l).symm;rw[sp]at nd;have q:=(List.nodup_append.mp nd).2.2 x m;refine q x ?_ rfl;rw[Pl hi,e];exact Ie
def cQ{ps:List (V×V)}{Ok:Hp->Prop}{g:TG}{tb:TS}{D:GV}{σ:St}{H:Hp}(Pv:NW)(h0:Pv 0 σ H)(hl:∀ i σ H,i<=ps.length->Pv i σ H->Ok H)
  (hs:∀ i p t σ H,ps[i]?=some p->Pv i σ H->H t=none->g (.ref t) σ (upd H t (.tup [p.1,p.2])) λσ2 H2=>tb {D with nx:=Pv (i + 1),ct:=Pv (i + 1),bk:=D.nx} σ2 H2) (hd:∀ σ H,Pv ps.length σ H->D.nx σ H):
  ∃ W:Nat->Nat->St->Hp->Prop,(∃ m,W 0 m σ H)/\∀ i m σ H,W i m σ H ->
   ((Gy ps Ok).stop i H/\D.nx σ H)\/((Gy ps Ok).go i H/\∃ N:SW,(∀ σ' H',N σ' H'->∃ m',m'<m/\W (i + 1) m' σ' H')/\∀ x H',(Gy ps Ok).yld i H x H'->g x σ H' λσ2 H2=>tb {D with nx:=N,ct:=N,bk:=D.nx} σ2 H2):=by
 refine⟨λi m σ H=>m=ps.length - i/\i<=ps.length/\Pv i σ H,⟨ps.length,by simp,A7 _,h0⟩,?_⟩;rintro i m σ H ⟨rfl,hi,p⟩;have q:=hl i σ H hi p;by_cases Ab:i<ps.length
 ·refine .inr ⟨⟨Ab,q⟩,Pv (i + 1),λσ' H' p'=>⟨ps.length - (i + 1),W,Y,Ab,p'⟩,λx H' y=>?_⟩;obtain⟨t,pr,hp,ht,rfl,rfl⟩:=y;exact hs i pr t σ H hp p ht
 ·have e:i=ps.length:=by omega
  subst e;exact .inl ⟨⟨Yd _,q⟩,hd σ H p⟩
abbrev g2(K:Fg)(i j:Nat):TG:=ef K 2 (Wi (C2 i) (Wi (C2 j) ee))
def sr{K:Fg}{i j:Nat}{t:Addr}{x y:V}{σ:St}{H:Hp}{R:SW}(h:AJ K H t [x,y])(q:R ((σ.set i (some x)).set j (some y)) H):g2 K i j (.ref t) σ H R :=
 ⟨t,[x,y],Y,h,Y,x,[y],Y,y,[],Y,Y,q⟩
def U1{K:Fg}{i j:Nat}{t:Addr}{x y:V}{σ:St}{H:Hp}{R:SW}(q:R ((σ.set i (some x)).set j (some y)) (upd H t (.tup [x,y]))):g2 K i j (.ref t) σ (upd H t (.tup [x,y])) R :=
 sr (AJ.of uS) q
def Rn{X:Cx}{K:Fg}{i j:Nat}{x y:Str}{p q pos:Pos}{c:Nat}(hK:X.K=K)(hc:X.calm=true)(hN:X.N.Nodup)(hi:X.N[i]?=some x)(hj:X.N[j]?=some y)(hx:Loc X.env.scope x)(hy:Loc X.env.scope y)
  (fx:X.fn x=true\/X.env.scope.names.lookup x=some .local) (fy:X.fn y=true\/X.env.scope.names.lookup y=some .local):PG X (.Tuple [.Name x p,.Name y q] c pos) (g2 K i j):=by
 subst hK;exact Jl hc (gC (BQ (i:=i) hN hi hx fx) (gC (BQ (i:=j) hN hj hy fy) Jm))
def Dh{H:Hp}{t:Addr}{o:HO}(h:H t=none):AB H (upd H t o):=λb u e=>by rw[AD (AF e h)];exact e
def eD{α:Type}(p:α->Bool):∀(xs:List α) (i:Nat) (x:α),xs[i]?=some x->(xs.take (i + 1)).filter p=(xs.take i).filter p++if p x=true then[x]else[]:=by
 intro xs i x h;rw[Dm,h,List.filter_append]
 congr 1
 cases e:p x <;> simp[List.filter,e]
def Vs{K:Fg}{ps:List (V×V)}{Ok:Hp->Prop}{js:LN}{tt:TT}{te:TE}{σ:St}{Q:VK}{H1:Hp}(hz:ps.length<=sizeLine)(p:V×V->Bool)(F:Addr->V×V->V->Hp->Prop)
  (hF:∀ D x v H H',(∀ b o,b≠D->H b=some o->H' b=some o)->F D x v H->F D x v H')
  (hok:∀ H,AB H1 H->Ok H)
  (ht:∀ x H (R:Bool->Hp->Prop),AB H1 H->x∈ps->(∀ H',AB H H'->R (p x) H')->tt (some x.1 :: some x.2 :: js.map λj=>(σ[j]?).join) H R)
  (he:∀ D x H (R:V->Hp->Prop),AB H1 H->(∃ ys,H D=some (.lst ys))->H1 D=none->x∈ps->p x=true->(∀ v H',AB H H'->F D x v H'->R v H')->te (some x.1 :: some x.2 :: js.map λj=>(σ[j]?).join) H R)
  (hd:∀ D H' ys,H1 D=none->AB H1 H'->H' D=some (.lst ys)->Paired (λx v=>F D x v H') (ps.filter p) ys->Q (.ref D) H'):
  AR 2 js (g2 K 0 1) tt te σ Q (Gy ps Ok) H1:=by
 intro D hD;refine⟨λi m ys σ' H=>m=ps.length - i/\i<=ps.length/\AB H1 H/\H D=some (.lst ys)/\Paired (λx v=>F D x v H) ((ps.take i).filter p) ys/\∃ o u,σ'=o :: u :: js.map λj=>(σ[j]?).join,
  ⟨ps.length,by simp,A7 _,Dh hD,uS,by simpa using Paired.nil,none,none,Y⟩,?_⟩
 rintro i m ys σ' H ⟨rfl,hi,hs,hl,hp,o,u,rfl⟩;have mono:∀ {H H':Hp},(∀ b o,b≠D->H b=some o->H' b=some o)->Paired (λx v=>F D x v H) ((ps.take i).filter p) ys->Paired (λx v=>F D x v H') ((ps.take i).filter p) ys:=λh q=>Paired.mapP q λa b z=>hF D a b _ _ h z;by_cases Ab:i<ps.length
 ·have yl:ys.length<sizeLine:=by
   rw[<- hp.length];refine Td (Jv _ _) ?_;rw[Yz];omega
  refine .inr ⟨⟨Ab,hok H hs⟩,yl,λKA σ3 H3=>AB H1 H3/\H3 D=some (.lst KA)/\Paired (λx v=>F D x v H3) ((ps.take (i + 1)).filter p) KA/\∃ o u,σ3=o :: u :: js.map λj=>(σ[j]?).join,
   λKA σ3 H3 z=>⟨ps.length - (i + 1),W,Y,Ab,z⟩,λx H2 y=>?_⟩
  obtain⟨t,x,hx,Ht,rfl,rfl⟩:=y;refine U1 ?_;show tt (some x.1 :: some x.2 :: js.map λj=>(σ[j]?).join) (upd H t (.tup [x.1,x.2])) _;have hm:x∈ps:=Yh hx;have st:AB H (upd H t (.tup [x.1,x.2])):=Dh Ht;refine ht x _ _ (hs.trans st) hm λH4 s4=>?_;have JF:AB H H4:=st.trans s4;have KZ:AB H1 H4:=hs.trans JF;cases hpx:p x with
  | true =>
   rw[if_pos rfl];refine he D x H4 _ KZ ⟨_,JF _ _ hl⟩ hD hm hpx λv H5 s5 f5=>⟨s5 _ _ (JF _ _ hl),λb o e=>?_,uS,?_,_,Z⟩
   ·rw[AD (AF e hD)];exact s5 _ _ (KZ _ _ e)
   ·rw[eD p ps i x hx,hpx,if_pos rfl];refine Gr (mono (λb o hb e=>by rw[AD hb];exact s5 _ _ (JF _ _ e)) hp) (hF D _ _ _ _ (λb o hb e=>by rw[AD hb];exact e) f5)
  | false =>
   rw[if_neg Yq];refine⟨KZ,JF _ _ hl,?_,_,Z⟩;rw[eD p ps i x hx,hpx,if_neg Yq,Fu];exact mono (λb o _ e=>JF _ _ e) hp
 ·have e:i=ps.length:=by omega
  subst e;rw[FJ]at hp;exact .inl ⟨⟨Yd _,hok H hs⟩,hd D H ys hD hs hl hp⟩
theorem V2{α:Type}{f:α->V}:∀ {xs:List α}{ys:LV},Paired (λx v=>v=f x) xs ys->ys=xs.map f
 | _,_,.nil=>rfl
 | _,_,.cons r t=>by rw[Ym,r,V2 t]
def cP{K:Fg}{ps:List (V×V)}{Ok:Hp->Prop}{js:LN}{tt:TT}{te:TE}{σ:St}{Q:VK}{H1:Hp}(hz:ps.length<=sizeLine)(p:V×V->Bool)(f:V×V->V)
  (hok:∀ H,AB H1 H->Ok H)
  (ht:∀ x H (R:Bool->Hp->Prop),AB H1 H->x∈ps->(∀ H',AB H H'->R (p x) H')->tt (some x.1 :: some x.2 :: js.map λj=>(σ[j]?).join) H R)
  (he:∀ x H (R:V->Hp->Prop),AB H1 H->x∈ps->p x=true->(∀ H',AB H H'->R (f x) H')->te (some x.1 :: some x.2 :: js.map λj=>(σ[j]?).join) H R)
  (hd:∀ D H',H1 D=none->AB H1 H'->H' D=some (.lst ((ps.filter p).map f))->Q (.ref D) H'):
  AR 2 js (g2 K 0 1) tt te σ Q (Gy ps Ok) H1 :=
 Vs hz p (λ_ x v _=>v=f x) (λ_ _ _ _ _ _ z=>z) hok ht (λD x H R hs _ _ hx hp k=>he x H R hs hx hp λH' s'=>k _ _ s' rfl)
  λD H' ys hD hs hl hp=>hd D H' hD hs (by rw[hl,V2 hp])
def Jp{J:It}{xs:LV}{Ok:Hp->Prop}(R:Fc J xs Ok){js:LN}{tt:TT}{te:TE}{σ:St}{Q:VK}{H1:Hp}(hz:xs.length<=sizeLine)(p:V->Bool)(f:V->V)
  (hok:∀ H,AB H1 H->Ok H)
  (ht:∀ x H (R:Bool->Hp->Prop),AB H1 H->x∈xs->(∀ H',AB H H'->R (p x) H')->tt (some x :: js.map λj=>(σ[j]?).join) H R)
  (he:∀ x H (R:V->Hp->Prop),AB H1 H->x∈xs->p x=true->(∀ H',AB H H'->R (f x) H')->te (some x :: js.map λj=>(σ[j]?).join) H R)
  (hd:∀ D H',H1 D=none->AB H1 H'->H' D=some (.lst ((xs.filter p).map f))->Q (.ref D) H'):
  AR 1 js (C2 0) tt te σ Q J H1 :=
 NG R hz p (λ_ x v _=>v=f x) (λ_ _ _ _ _ _ z=>z) hok ht (λD x H R hs _ _ hx hp k=>he x H R hs hx hp λH' s'=>k _ _ s' rfl)
  λD H' ys hD hs hl hp=>hd D H' hD hs (by rw[hl,V2 hp])
section
variable {X:Cx}
theorem Z6{d:Dat}{n:Nat}(h2:kqdOk n d=true):∀ {ds:List Dat},ds.all (kqdOk 8)=true->((kqdPs ds).any λy=>PyData.eqv y (kqdP d))=ds.any λe=>Bt e d
 | [],_=>by rw[kqdPs];rfl
 | e :: ds,h=>by
  rw[List.all_cons,Dl]at h;rw[kqdPs,Jy,Jy,Rw h.1 h2,Z6 h2 h.2]
def qo(K:Fg)(f:Bool->Bool):R2:=λx y H Q=>∃ d ds,Rep K H x d/\Rep K H y (.list ds)/\kqdOk 9 d=true/\ds.all (kqdOk 8)=true/\Q (.bl (f (ds.any λe=>Bt e d))) H
def bS{ds:List Dat}(h:ds.all (kqdOk 8)=true):SeqAt.shaped (PyData.list (kqdPs ds))=true:=by
 have:=IZ (d:=.list ds) (by rw[kqdOk];exact h);rw[kqdP]at this;exact this
def nD(hu:X.A.units + 65<cLine):BO X (compareOp .NotIn) (qo X.K Bool.not):=by
 exfalso;obtain⟨d,ds,h1,h2,k1,k2,q⟩:=h;obtain⟨as,ra⟩:=h1.reads I rx;obtain⟨bs,rb⟩:=h2.reads I ry;rw[kqdP]at rb;exact SeqAt.notIn_list_reads rb ra (Tj (bS k2)) (Tj (IZ k1)) (room_in_shaped (IZ k1) hu) (BD I q (by rw[Z6 k1 k2]))
end
def Az(i:Nat):V:=.int (i:Nat)
def Fb(i:Nat):Dat:=.int (i:Nat)
theorem O1{K:Fg}{H:Hp}:∀ ns:LN,Am K H (ns.map Az) (ns.map Fb)
 | []=>.nil
 | n :: r=>.cons (.int _) (O1 r)
def R8(n:Nat)(ns:LN):kqdOk (n + 1) (.list (ns.map Fb))=true:=by
 rw[kqdOk,Bc];intro z hz;obtain⟨x,_,rfl⟩:=Yg.mp hz;unfold Fb;rw[kqdOk]
def V_(n:Nat):Ck 0 n=(List.range n).map Az:=by
 refine List.ext_getElem? λi=>?_;by_cases hi:i<n
 ·have h1:(Ck 0 n)[i]?=some ((Ck 0 n)[i]'(by rw[CJ];exact hi)):=Yb _;obtain⟨_,e⟩:=Dk h1;rw[h1,e,Yf,LK hi];show some (V.int (0 + (i:Nat)))=some (V.int (i:Nat));rw[Ep]
 ·rw[Gu (by rw[CJ];omega),Gu (by simp;omega)]
end L2
namespace L2
open PySem PySem.Spec PyProof.Rows
theorem SS{α β:Type}(f:α->β):∀(l:List α) (j:Nat),(l.map f).eraseIdx j=(l.eraseIdx j).map f
 | [],_=>rfl
 | _ :: _,0=>rfl
 | a :: r,j + 1=>by
  rw[Ym,TZ,TZ,Ym,SS f r j]
section
variable {X:Cx}
end
end L2
namespace L2
open PySem PySem.W PySem.Spec PyProof.Rows
theorem bF:∀ {ds:List Dat}{m:Nat}{e:Dat},ds[m]?=some e->(kqdPs ds)[m]?=some (kqdP e)
 | [],_,_,h=>by simp at h
 | a :: r,0,e,h=>by
  rw[kqdPs];have:a=e:=by simpa using h
  rw[this];rfl
 | a :: r,m + 1,e,h=>by
  rw[kqdPs,List.getElem?_cons_succ];exact bF (by simpa using h)
theorem cW:∀ ds:List Dat,(kqdPs ds).length=ds.length
 | []=>by rw[kqdPs];rfl
 | a :: r=>by rw[kqdPs,Bj,Bj,cW r]
section
variable {X:Cx}
def ay(K:Fg):V->LV->Hp->VK->Prop:=λx vs H Q=>∃ y d ds j e,vs=[y]/\Rep K H x (.list ds)/\Rep K H y d/\ds.all (kqdOk 8)=true/\kqdOk 9 d=true/\ds.length<=100000/\ds[j]?=some e/\Bt e d=true/\(∀ m e,m<j->ds[m]?=some e->Bt e d=false)/\Q (.int (j:Nat)) H
def Vz(hu:X.A.units + 65<cLine):Li X "list.index" (ay X.K):=by
 intro pins s σ H x vs v us Q I rx rv h;obtain⟨y,d,ds,j,e,rfl,h1,h2,k1,k2,hz,he,hd,hno,q⟩:=h;obtain⟨u,rfl,ru⟩:=rv.one;obtain⟨as,ra⟩:=h1.reads I rx;obtain⟨bs,rb⟩:=h2.reads I ru;rw[kqdP]at ra;have YX:=Tj (bS k1);have hdl:=Tj (IZ k2);cases ra with
 | @list l ob its n _ _ a1 a2 a3 a4 =>
  obtain⟨cls,dd,data,sl⟩:=ob;simp only at a2 a3;subst a2 a3;have hm:=SeqAt.readsAll_map _ _ _ YX a4;have hml:its.size=ds.length:=by
   have:=congrArg List.length hm;rw[Ya,cW]at this;simpa using this
  have Xq:∀ m (e:Dat),ds[m]?=some e->kqdOk 8 e=true:=λm e h=>Bc.mp k1 e (Yh h);have val:∀ m (e:Dat) (JJ:m<its.size),ds[m]?=some e->PyData.eqv (SeqAt.readOf s.heap its[m]) (kqdP d)=Bt e d:=λm e JJ h=>by
   have e1:=bF h;rw[<- hm,Yf]at e1;have e2:its.toList[m]?=some its[m]:=by simp[JJ]
   rw[e2]at e1;have e1:SeqAt.readOf s.heap its[m]=kqdP e:=Yv e1;rw[e1];exact Rw (Xq m e h) k2
  have hj:j<its.size:=by have:=(Yn.mp he).1;omega
  refine call_meets TX ⟨_,a1,Y⟩ PySem.F.entry_list_index (PySem.F.args_list_index_2 _ _)
   (SeqAt.list_indexAt l its n dd sl u (λy=>PyData.eqv (SeqAt.readOf s.heap y) (kqdP d)) j hj (by omega) ?_ ?_) ⟨a1,SeqAt.items_eqAt a4 rb YX hdl (room_in_shaped (IZ k2) hu),?_⟩
  ·show PyData.eqv (SeqAt.readOf s.heap its[j]) (kqdP d)=true;rw[val j e hj he];exact hd
  ·intro m JJ Ab;show PyData.eqv (SeqAt.readOf s.heap its[m]) (kqdP d)=false;have h0:ds[m]?=some (ds[m]'(by omega)):=Yb (by omega);rw[val m _ JJ h0];exact hno m _ Ab h0
  ·exact⟨.int j,H,I.tok _,⟨Z⟩,q⟩
end
end L2
namespace L2
open PySem PySem.Spec PyProof.Rows
section
variable {prog:Program}{w:World}{A:Around}{E:EV}{s:Shared}{d it:Addr}{es:Array DictEntry}{ep i:Nat}
end
section
variable {X:Cx}{pins:PL}{σ:St}{H H':Hp}{s:Shared}{a:Addr}{kvs:List (List Key×V)}{o:Obj}
end
section
variable {X:Cx}{tg:Expr}
end
structure F2(h:Heap)(e T:Addr)(cls:Value)(dx:Option Addr)(fl:Value):Prop where
 ne:T≠e
 obj:∃ oe vs,h.get? e=some oe/\oe.cls=cls/\oe.dict=dx/\oe.data=.fields vs/\vs[1]?=some (.ref T)
 tb:∃ oT ts,h.get? T=some oT/\oT.data=.fields ts/\ts[3]?=some fl
structure BW(S R:List Addr)(h h':Heap):Prop where
 sz:h.objs.size<=h'.objs.size
 keep:∀ b o,h.get? b=some o->b∉S->b∉R->h'.get? b=some o
 slot:∀ b o,h.get? b=some o->b∉R->∃ sl,h'.get? b=some {o with slots:=sl}
 there:∀ b o,h.get? b=some o->∃ o',h'.get? b=some o'
def BW.mono{S S' R R':List Addr}{h h':Heap}(c:BW S R h h')(hs:∀ b∈S,b∈S')(hr:∀ b∈R,b∈R'):BW S' R' h h' :=
 ⟨c.sz,λb o e n1 n2=>c.keep b o e (λz=>n1 (hs b z)) λz=>n2 (hr b z),λb o e n=>c.slot b o e λz=>n (hr b z),c.there⟩
def BW.trans{S R:List Addr}{h h1 h2:Heap}(a:BW S R h h1)(b:BW S R h1 h2):BW S R h h2 :=
 ⟨A6 a.sz b.sz,λc o e n1 n2=>b.keep c o (a.keep c o e n1 n2) n1 n2,λc o e n=>by
  obtain⟨sl,e1⟩:=a.slot c o e n;obtain⟨Ny,e2⟩:=b.slot c _ e1 n;exact⟨Ny,e2⟩,λc o e=>by
  obtain⟨o1,e1⟩:=a.there c o e;exact b.there c o1 e1⟩
def BW.drop{S R:List Addr}{h h':Heap}{t:Addr}(c:BW S (t :: R) h h')(ht:h.objs.size<=t):BW S R h h' :=
 ⟨c.sz,λb o e n1 n2=>c.keep b o e n1 λz=>(Yr.mp z).elim (λq=>absurd (Ye e) (by rw[q];exact Nat.not_lt.mpr ht)) n2,
  λb o e n=>c.slot b o e λz=>(Yr.mp z).elim (λq=>absurd (Ye e) (by rw[q];exact Nat.not_lt.mpr ht)) n,c.there⟩
def qU(f:Array Value->Array Value)(o:Obj):(Obj.mapFields f o).dict=o.dict:=by
 obtain⟨c,d,dt,sl⟩:=o;cases dt <;> rfl
def BW.setF{h:Heap}{T:Addr}{oT:Obj}{ts:Array Value}{f:Array Value->Array Value}(hT:h.get? T=some oT)(hd:oT.data=.fields ts):BW [] [T] h (h.update T (Obj.mapFields f)):=by
 have other:∀ b,b≠T->(h.update T (Obj.mapFields f)).get? b=h.get? b:=λb hb=>Jz _ _ (Yj hb);refine⟨Nat.le_of_eq (Heap.size_after_update ..).symm,λb o e _ n=>(other b λz=>n (by simp[z])).trans e,λb o e n=>⟨o.slots,(other b λz=>n (by simp[z])).trans e⟩,λb o e=>?_⟩;by_cases hb:b=T
 ·subst hb;exact⟨_,LY _ hT (Pu (Nm hd _))⟩
 ·exact⟨o,(other b hb).trans e⟩
def BW.entry{S:List Addr}{h g:Heap}{e:Addr}{oe nb:Obj}{vs ts:Array Value}{fl:Value}(sl:Heap.SlotsOnly S h g)(ns:e∉S)(he:h.get? e=some oe)(hd:oe.data=.fields vs)(hsz:1<vs.size)(hnb:nb.data=.fields ts)(h3:ts[3]?=some fl):
  F2 ((g.push nb).update e (Obj.mapFields λr=>r.setIfInBounds 1 (.ref g.objs.size))) e g.objs.size oe.cls oe.dict fl/\BW S [e] h ((g.push nb).update e (Obj.mapFields λr=>r.setIfInBounds 1 (.ref g.objs.size))):=by
 have ge:g.get? e=some oe:=(sl.2.1 e ns).trans he;have apart:g.objs.size≠e:=Cy (Ye ge);have pe:(g.push nb).get? e=some oe:=Yc nb ge;have data:=Nm hd λr=>r.setIfInBounds 1 (Value.ref g.objs.size);have self:=LY (Obj.mapFields λr=>r.setIfInBounds 1 (Value.ref g.objs.size)) pe (Pu data);have Au:∀ b o,b≠e->g.get? b=some o->((g.push nb).update e (Obj.mapFields λr=>r.setIfInBounds 1 (.ref g.objs.size))).get? b=some o:=λb o n q =>
  (Jz _ _ λz=>n z.symm).trans (Yc nb q)
 have tnew:(g.push nb).get? g.objs.size=some nb:=Yl g (Pu hnb);refine⟨⟨apart,⟨_,_,self,Obj.cls_mapFields _ _,qU _ _,data,by simp[hsz]⟩,⟨nb,ts,(Jz _ _ λz=>apart z.symm).trans tnew,hnb,h3⟩⟩,⟨?_,λb o q n1 n2=>?_,λb o q n=>?_,λb o q=>?_⟩⟩
 ·rw[Heap.size_after_update,Co,sl.1];omega
 ·exact Au b o (λz=>n2 (z ▸ Ie)) ((sl.2.1 b n1).trans q)
 ·obtain⟨k,r⟩:=sl.2.2 b o q;exact⟨k,Au b _ (λz=>n (z ▸ Ie)) r⟩
 ·obtain⟨k,r⟩:=sl.2.2 b o q;by_cases z:b=e
  ·subst z;exact⟨_,self⟩
  ·exact⟨_,Au b _ z r⟩
section
variable {M:Model}{A:Around}{E:EV}{s:Shared}
def bL{base:Heap}{env:Env}{outer:List Env}{L e:Addr}{oe:Obj}{vs:Array Value}{head:Value}{hadNext:Bool}{Q:Unit->Shared->Prop}
  (hfr:A.frames=some (env :: outer)) (hl:s.heap.FunFrames base (env :: outer)) (hf:env.frame=some L) (he:s.heap.get? e=some oe) (hd:oe.data=.fields vs) (hsz:1<vs.size)
  (h:∀ h' T,s.heap.objs.size<=T->F2 h' e T oe.cls oe.dict (rawInt L)->BW (CD (env :: outer)) [e] s.heap h'->Q () {s with heap:=h' }):
  wpAny M A (frameOf env>>=λa=>entryPlaceOf L hadNext>>=λpl=>EntryCells.newEntry head a .none (rawInt L) .none pl>>=λb=>setField (.ref e) 1 b) Q E s:=by
 have nf:e∉CD (env :: outer):=λm=>by
  have q:=(hl.mem m).2;rw[he]at q;obtain⟨_,r1,r2⟩:=q;cases r1;exact r2 vs hd
 apply Ja;refine wpAny_frameOf_fun hfr hl hf λg1 UC=>Ja (wpAny_entryPlaceOf λpl place=>Ja ?_);have three:∀ xs:LU,IsPlace xs->([head,Value.ref L,.none,rawInt L,.none]++(if xs.isEmpty then List.replicate 6 Value.none else xs)).toArray[3]?=some (rawInt L):=λxs _=>by simp
 have laid:=BW.entry (nb:={cls:=.type "traceback",data:=.fields ([head,.ref L,.none,rawInt L,.none]++(if pl.isEmpty then List.replicate 6 Value.none else pl)).toArray}) UC nf he hd hsz rfl (three pl place);refine wpAny_newObj_type (wpAny_setField (Yc _ ((UC.2.1 e nf).trans he)) hd hsz ?_) (place.sizeOk5 _ _ _ _ _);exact h _ _ (Nat.le_of_eq UC.1.symm) laid.1 laid.2
def SN{e T:Addr}{cls fl:Value}{dx:Option Addr}{Q:Unit->Shared->Prop}(a:F2 s.heap e T cls dx fl)
  (h:∀ h',F2 h' e T cls dx .none->BW [] [T] s.heap h'->Q () {s with heap:=h' }):wpAny M A (setFlight (.ref e) none) Q E s:=by
 obtain⟨ne,⟨oe,vs,he,hc,hdx,hd,h1⟩,⟨oT,ts,hT,hdT,h3⟩⟩:=a;obtain⟨QJ,_⟩:=Pn.mp h3;have some_:(Value.ref T != Value.none)=true:=by simp
 unfold setFlight;apply Ja;apply Jg he hd h1;rw[if_pos some_];refine wpAny_setField hT hdT QJ (h _ ⟨ne,⟨oe,vs,(Jz _ _ ne).trans he,hc,hdx,hd,h1⟩,⟨_,_,LY _ hT (Pu (Nm hdT _)),Nm hdT _,by simp[QJ]⟩⟩ (BW.setF hT hdT))
def cG{base:Heap}{env:Env}{outer:List Env}{L e T:Addr}{cls:Value}{dx:Option Addr}{Q:Unit->Shared->Prop}
  (hfr:A.frames=some (env :: outer)) (hl:s.heap.FunFrames base (env :: outer)) (hf:env.frame=some L) (a:F2 s.heap e T cls dx .none)
  (h:∀ h' T',s.heap.objs.size<=T'->F2 h' e T' cls dx (rawInt L)->BW (CD (env :: outer)) [e,T] s.heap h'->Q () {s with heap:=h' }):wpAny M A (noteFrame (.ref e) env) Q E s:=by
 obtain⟨ne,⟨oe,vs,he,hc,hdx,hd,h1⟩,⟨oT,ts,hT,hdT,h3⟩⟩:=a;subst hc hdx;have some_:(Value.ref T != Value.none)=true:=by simp
 have apart:¬ (Value.none == rawInt L)=true:=by simp[rawInt]
 have c1:BW [] [T] s.heap (s.heap.update T (Obj.mapFields λr=>r.setIfInBounds 3 Value.none)):=BW.setF hT hdT;have kept:∀ b o,s.heap.get? b=some o->b≠T->(s.heap.update T (Obj.mapFields λr=>r.setIfInBounds 3 Value.none)).get? b=some o:=λb o q n=>c1.keep b o q (λz=>nomatch z) λz=>n (Yi.mp z);unfold noteFrame;simp only[hf];apply Ja;apply Jg he hd h1;rw[if_pos some_];apply Ja;apply Jg hT hdT h3;rw[if_neg apart];apply Ja;refine wpAny_setField hT hdT (Pn.mp h3).1 ?_;refine bL hfr (hl.of_keeps λb o q nf=>⟨o,kept b o q λz=>by subst z;rw[hT]at q;cases q;exact nf ts hdT,Y⟩) hf (kept e oe he λz=>ne z.symm) hd (Pn.mp h1).1 λh' T' H_ a' c'=>?_;exact h h' T' (A6 c1.sz H_) a' ((c1.mono (λb z=>nomatch z) λb z=>by simp at z;simp[z]).trans (c'.mono (λb z=>z) λb z=>by simp at z;simp[z]))
def lV{base:Heap}{env:Env}{outer:List Env}{L e:Addr}{oe:Obj}{vs:Array Value}{Q:Unit->Shared->Prop}
  (hfr:A.frames=some (env :: outer)) (hl:s.heap.FunFrames base (env :: outer)) (hf:env.frame=some L) (he:s.heap.get? e=some oe) (hd:oe.data=.fields vs) (h1:vs[1]?=some .none)
  (h:∀ h' T,s.heap.objs.size<=T->F2 h' e T oe.cls oe.dict .none->BW (CD (env :: outer)) [e] s.heap h'->Q () {s with heap:=h' }):wpAny M A (leaving env (.ref e)) Q E s:=by
 unfold leaving noteFrame;simp only[hf];apply Ja;apply Ja;apply Jg he hd h1;rw[if_neg (by decide)];refine bL hfr hl hf he hd (Pn.mp h1).1 λh' T hT a c=>?_;refine SN a λh2 a2 c2=>h h2 T hT a2 ?_;have c3:BW (CD (env :: outer)) [T,e] s.heap h2:=(c.mono (λb z=>z) λb z=>by simp at z;simp[z]).trans (c2.mono (λb z=>nomatch z) λb z=>by simp at z;simp[z]);exact c3.drop hT
def kD{base:Heap}{env:Env}{outer:List Env}{L e T:Addr}{cls:Value}{dx:Option Addr}{Q:Unit->Shared->Prop}
  (hfr:A.frames=some (env :: outer)) (hl:s.heap.FunFrames base (env :: outer)) (hf:env.frame=some L) (a:F2 s.heap e T cls dx .none)
  (h:∀ h' T',s.heap.objs.size<=T'->F2 h' e T' cls dx .none->BW (CD (env :: outer)) [e,T] s.heap h'->Q () {s with heap:=h' }):wpAny M A (leaving env (.ref e)) Q E s:=by
 unfold leaving;refine Ja (cG hfr hl hf a λh' T' hT a' c=>?_);refine SN a' λh2 a2 c2=>h h2 T' hT a2 ?_;have c3:BW (CD (env :: outer)) [T',e,T] s.heap h2:=(c.mono (λb z=>z) λb z=>by simp at z;rcases z with z | z <;> simp[z]).trans (c2.mono (λb z=>nomatch z) λb z=>by simp at z;simp[z]);exact c3.drop hT
end
def BE.chg{P:Program}{w:World}{H:Hp}{h h':Heap}{S R:List Addr}(x:BE P w H h)(c:BW S R h h')(hS:∀ b∈S,H b=none)(hR:∀ b∈R,H b=none):BE P w H h':=λa o e =>
 (x a o e).stay (λb u hb q=>by
  have hn:H b≠none:=by
   rcases hb with z | z
   ·rw[z,e];simp
   ·rw[z];simp
  exact c.keep b u q (λz=>hn (hS b z)) λz=>hn (hR b z)) (λ_ q=>q) λ_ _ q=>q
def Un.chg{fs ex S R:List Addr}{H:Hp}{h h':Heap}(c:BW S R h h')(hS:∀ b∈S,b∈fs)(hR:∀ b∈R,b∈ex):Un fs ex H H h h' :=
 ⟨λb o e n hb hx=>c.keep b o e (λz=>hb (hS b z)) λz=>hx (hR b z),λb o e n hb hx=>c.slot b o e λz=>hx (hR b z),λ_ _ _ n _=>n,λb o e _=>c.there b o e,λ_ _ q=>q,λ_ _ _ q=>q,λ_ ps q=>⟨#[],by rw[q];simp⟩⟩
def Bx(P:Program)(w:World):Es:=λouter H s E ev s'=>∃(e T:Addr) (cls:Value) (dx:Option Addr) (H':Hp),ev=.ref e/\s'.os=s.os/\AllBare s'.gens/\Un (CD outer) [] H H' s.heap s'.heap/\BE P w H' s'.heap /\
 H' e=none/\H' T=none/\s.heap.objs.size<=e/\s.heap.objs.size<=T/\F2 s'.heap e T cls dx .none/\E cls dx H'
structure CW(X:Cx)(E:XK):Prop where
 xe:X.xe=λe s'=>wpAny (model X.prog X.w) X.A (leaving X.env e) (λ_ Br=>Bx X.prog X.w X.outer X.H₀ X.s₀ E e Br) (λe' Br=>Bx X.prog X.w X.outer X.H₀ X.s₀ E e' Br) s'
 stk:X.stack=X.env :: X.outer
 fr:X.env.frame=some X.env.locals
 ex:X.ex=[]
def CW.of{P:Program}{w:World}{K:Fg}{mg:Str->OU}{base:Heap}{N:LS}{qual:Str}{scope:Scope}{f:Addr}{cd:Value}{A:Around}{outer:List Env}{s:Shared}{H:Hp}{E:XK} :
  CW (IE (Bx P w) P w K mg base N qual scope f cd A outer s H E) E:=⟨Y,Y,Y,Y⟩
section
variable {X:Cx}{pins:PL}{σ:St}{H:Hp}{s:Shared}{E:XK}{e T:Addr}{cls:Value}{dx:Option Addr}
def CW.old(F:CW X E)(f:BA X pins H e):X.s₀.heap.objs.size<=e:=by
 rcases f.2.2.2.1 with z | z
 ·rw[F.ex]at z;cases z
 ·exact z
def CW.un{h':Heap}{R:List Addr}(F:CW X E)(I:Inv X pins σ H s)(c:BW (CD X.stack) R s.heap h')(hR:∀ b∈R,X.s₀.heap.objs.size<=b):Un X.fs [] X.H₀ H X.s₀.heap h':=by
 have B:=I.base;have hx:∀ b,b∉X.ex:=λb z=>by rw[F.ex]at z;cases z
 have ns:∀ b o,X.s₀.heap.get? b=some o->b∉X.fs->b∉CD X.stack:=λb o q n z=>by
  rcases Yr.mp (I.stkSub b z)with r | r
  ·exact absurd (Yp (Ye q) (by rw[r];exact I.ok.above)) (FH _)
  ·exact n r
 have nr:∀ b o,X.s₀.heap.get? b=some o->b∉R:=λb o q z=>absurd (Yp (Ye q) (hR b z)) (FH _);refine⟨λb o q n hb _=>c.keep b o (B.keep b o q n hb (hx b)) (ns b o q hb) (nr b o q),λb o q n hb _=>?_,λb o q n _=>B.free b o q n (hx b),λb o q _=>?_,B.tups,B.frzs,B.tbls⟩
 ·obtain⟨sl,e1⟩:=B.slot b o q n hb (hx b);obtain⟨Ny,e2⟩:=c.slot b _ e1 (nr b o q);exact⟨Ny,e2⟩
 ·obtain⟨o1,e1⟩:=B.there b o q (hx b);exact c.there b o1 e1
def CW.leave(F:CW X E)(I:Inv X pins σ H s)(fe:BA X pins H e)(fT:BA X pins H T)(a:F2 s.heap e T cls dx .none)(h:E cls dx H):X.xe (.ref e) s:=by
 rw[F.xe];have hfr:X.A.frames=some (X.env :: X.outer):=by rw[<- F.stk];exact I.ok.frames
 have hl:s.heap.FunFrames X.base (X.env :: X.outer):=by rw[<- F.stk];exact I.stack
 refine kD hfr hl F.fr a λh' T' H_ a' c=>?_;rw[<- F.stk]at c;exact⟨e,T',cls,dx,H,Y,I.os,I.bare,F.un I c λb z=>by simp at z;rcases z with z | z <;> rw[z];exact F.old fe;exact F.old fT,
  I.hok.chg c I.stkFree (λb z=>by simp at z;rcases z with z | z <;> rw[z];exact fe.1;exact fT.1),fe.1,I.hok.fresh H_,F.old fe,A6 I.sz H_,a',h⟩
def CW.raised{oe:Obj}{vs:Array Value}(F:CW X E)(I:Inv X pins σ H s)(fe:BA X pins H e)(he:s.heap.get? e=some oe)(hd:oe.data=.fields vs)(h1:vs[1]?=some .none)(h:E oe.cls oe.dict H):X.xe (.ref e) s:=by
 rw[F.xe];have hfr:X.A.frames=some (X.env :: X.outer):=by rw[<- F.stk];exact I.ok.frames
 have hl:s.heap.FunFrames X.base (X.env :: X.outer):=by rw[<- F.stk];exact I.stack
 refine lV hfr hl F.fr he hd h1 λh' T' H_ a' c=>?_;rw[<- F.stk]at c;exact⟨e,T',oe.cls,oe.dict,H,Y,I.os,I.bare,F.un I c λb z=>by simp at z;rw[z];exact F.old fe,
  I.hok.chg c I.stkFree (λb z=>by simp at z;rw[z];exact fe.1),fe.1,I.hok.fresh H_,F.old fe,A6 I.sz H_,a',h⟩
def JS(F:CW X E):JW (Bx X.prog X.w) X E:=by
 rintro pins σ H s ev s' I ⟨e,T,cls,dx,H',rfl,os,bare,un,hok,he,hT,se,sT,a,h⟩;have I':Inv X pins σ H' s':=I.call' (ch:=[]) os un hok bare λb z=>nomatch z;exact F.leave I' (I.fpOk se he) (I.fpOk sT hT) a h
end
def Ax.any{P:Program}{w:World}{K:Fg}{mg:Str->OU}{base:Heap}{CX:Es}{k:Nat}{ps:LS}{sp:Sp}(F:Ax P w K mg base Hk k f fd ps sp):Ax P w K mg base CX k f fd ps sp :=
 ⟨F.len,λA outer s H args us vs Q E hr he hb hv hs=>codeAny_mono (F.run A outer s H args us vs Q E hr he hb hv hs) λr s' hq=>by
  cases r with
  | error e=>exact False.elim hq
  | ok fl=>cases fl <;> exact hq⟩
def BV.ok1{P:Program}{w:World}{K:Fg}{mg:Str->OU}{base:Heap}{x qual:Str}{st:Stmt}{N ps:LS}{k:Nat}{sp:Sp}(F:BV K x qual st f fd)(S:Ae N ps (AL st))(len:∀ vs H Q E,sp vs H Q E->vs.length=ps.length)
  (hbody:∀(Ai:Value) (A:Around) (outer:List Env) (s:Shared) (H:Hp) (vs:LV) (Q:VK) (E:XK),AV k (A.deeper (envOfC qual (AL st) s.heap.objs.size f Ai))->sp vs H Q E ->
   ∃ t,Bo (IE (Bx P w) P w K mg base N qual (AL st) f Ai A outer s H E) (B4 st) t/\t {nx:=λ_ H'=>Q .non H',rt:=Q} (start N vs) H):Ax P w K mg base (Bx P w) (k + 1) f fd ps sp:=by
 obtain⟨oc,od,kV,doc,pm,an,Ai,ct,osl,rfl,lk,hcd⟩:=F.ex;refine Wh lk hcd S len λA outer s H vs Q E hr hsp=>?_;exact hbody Ai A outer s H vs Q E hr hsp
end L2
namespace L2
open PySem PySem.Spec
structure ExC(K:Fg)(C:Addr):Prop where
 obj:∃ nm q N bs bm hdct sn sub ab col dd k0 k1 k2 k3 k5,K.lookup C=some (excClassObj nm q C N bs bm hdct sn sub ab col dd k0 k1 k2 k3 k5 "ValueError.__new__")
 val:W.subIn K (.ref C) (.type "ValueError")=some true
 bas:W.subIn K (.ref C) (.type "BaseException")=some true
 att:W.subIn K (.ref C) (.type "AttributeError")=some false
 nam:W.subIn K (.ref C) (.type "NameError")=some false
 kp:W.keepIn K (.ref C)=true
abbrev Ek(C t:Addr):Obj:={cls:=.ref C,data:=.fields #[.ref t,.none,.none,.none,.bool false,.none] }
abbrev Gk(us:LU):Obj:={cls:=.type "tuple",data:=.seq us.toArray}
section
variable {K:Fg}{prog:Program}{w:World}{A:Around}{E:EV}{h:Heap}{g:Array GenState}{d:Drawn}{t:Nat}{os:OsState}{C:Addr}
def IU{nm q:Str}{N:Addr}{bs bm:LU}{hdct:Bool}{sn:LS}{sub:LU}{ab:Bool}{col:Option Bool}{dd:Option Addr}{k0 k1 k2 k3 k5:OU}{nid:String}{x:Value}{b:Bool}
  (l:K.lookup C=some (excClassObj nm q C N bs bm hdct sn sub ab col dd k0 k1 k2 k3 k5 nid)) (e:W.subIn K (.ref C) x=some b):(Value.ref C :: bm).contains x=b:=by
 have e2:((W.clsIn K C).bind λcd=>if cd.mro.isEmpty=true then none else some (cd.mro.contains x))=some b:=e;have e3:W.clsIn K C=some {name:=nm,bases:=bs,mro:=.ref C :: bm,ns:=N,qualname:=q,hasDict:=hdct,slotNames:=sn,subclasses:=sub,abstract:=ab,collection:=col,hasDel:=false}:=by
  unfold W.clsIn;rw[l]
 rw[e3]at e2;exact Yv e2
def vQ{Au:LU}{R:Result->Shared->Prop}(X:K.In h)(c:ExC K C)(hrest:Au.length<=sizeLine)
  (hq:R (.ok (.ret (.ref (h.objs.size + 1)))) ⟨(h.push (Gk Au)).push (Ek C h.objs.size),g,d,t,os⟩):
  codeAny (model prog w) A (.builtin "ValueError.__new__" ⟨.ref C :: Au,[]⟩) R ⟨h,g,d,t,os⟩:=by
 obtain⟨nm,q,N,bs,bm,hdct,sn,sub,ab,col,dd,k0,k1,k2,k3,k5,lk⟩:=c.obj;have Fv:=W3;have cV:=IU lk c.val;have cA:=IU lk c.att;have cN:=IU lk c.nam;have hC:=X _ _ lk;have hends:=Fv.ends;refine codeAny_builtinAt Fv.entry ?_;unfold Builtin.«BaseException.__new__»;apply PySem.wpAt_bind;show PySem.wpAt _ _ _ (stack>>=_) _ _ _;apply PySem.wpAt_bind;refine PySem.wpAt_stack λp below=>PySem.wpAt_of_wpAny ?_
 wp_walk
 apply PySem.wpAt_of_wpAny;rw[Fv.owner]
 repeat (first | with_reducible refine wpAny_madeHere_exc Fv.canon hC ?_ | with_reducible refine Ji hC ?_ | (with_reducible refine wpAny_isSubtype_exc hC ?_;first | rw[cV] | rw[cA] | rw[cN]) | wp_step)
 show R _ _;rw[Co];exact hq
def kK{Au:LU}{i:Value}{Q:EV}(X:K.In h)(c:ExC K C)(hi:W.findIn K (.ref C) "__init__"=some (some i))
  (hb:∀ self,W.Looks (model prog w) ((h.push (Gk Au)).push (Ek C h.objs.size)) (bindSpecial i self) (i,[self])) (hrest:Au.length<=sizeLine)
  (hq:codeAny (model prog w) (A.under (.builtin "type.__call__" ⟨.ref C :: Au,[]⟩)) (.call i ⟨.ref (h.objs.size + 1):: Au,[]⟩)
   (λr s'=>match r with | .ok (.ret v)=>v=.none/\Q (.ref (h.objs.size + 1)) s' | .ok _=>False | .error e=>E e s') ⟨(h.push (Gk Au)).push (Ek C h.objs.size),g,d,t,os⟩):
  wpAny (model prog w) A (call (.ref C) Au) Q E ⟨h,g,d,t,os⟩:=by
 obtain⟨nm,q,N,bs,bm,hdct,sn,sub,ab,col,dd,k0,k1,k2,k3,k5,lk⟩:=c.obj;have Fv:=W3;have cV:=IU lk c.val;have cS:(Value.ref C :: bm).contains (.ref C)=true:=by simp
 have hC:=X _ _ lk;have up:∀ b o,h.get? b=some o->((h.push (Gk Au)).push (Ek C h.objs.size)).get? b=some o:=λb o e=>Yc _ (Yc _ e);have X1:K.In ((h.push (Gk Au)).push (Ek C h.objs.size)):=X.keeps up;have jh:=X1 _ _ lk;have got:((h.push (Gk Au)).push (Ek C h.objs.size)).get? (h.objs.size + 1)=some (Ek C h.objs.size):=Heap.get?_push_at (by rw[Co]) rfl;have f1:=tc_lookup;have f2:=tc_bind (.ref C);have hT:(⟨h,g,d,t,os⟩:Shared).TypeIs (.ref C) "type":=⟨_,hC,Y⟩;have hstar:=Fv.noStar;apply wpAny_call;apply codeAny_of_tree;show wpAny _ _ (callAny (.ref C) _) _ _ _
 repeat (any_goals (first | assumption | with_reducible refine Ji hC ?_ | wp_step))
 constructor
 ·rfl
 apply codeAny_call_builtin_at (Code.quiet_builtin _ (by rfl')) entry_typeCall;apply wpAny_check_type_call_sub hC
 repeat (first | with_reducible refine Ji hC ?_ | with_reducible refine wpAny_madeBy_exc hC ?_ | wp_step)
 apply codeAny_call_builtin_code (Code.quiet_builtin _ Fv.quiet);simp only[checkBuiltinCall,Fv.newKind,Fv.newSplit,Fv.newRow]
 repeat (first | refine Ji hC ?_ | (refine wpAny_isSubtype_exc hC ?_;rw[cV]) | refine wpAny_staticBase_exc hC ?_ | refine wpAny_madeBy_exc hC ?_ | simp only[bne_self_eq_false,Ic,if_false] | wp_step)
 apply vQ X c hrest;show wpAny _ _ _ _ _ _;apply Ja;unfold isInstance
 repeat (first | with_reducible refine Ji got ?_ | (with_reducible refine wpAny_isSubtype_exc jh ?_;rw[cS]) | wp_step)
 refine(W.looks_findIn (M:=model prog w) X1 hi).here ?_;apply Jj;apply Ja;refine(hb (.ref (h.objs.size + 1))).here ?_;apply Ja;apply wpAny_call;refine codeAny_mono hq λr s' q=>?_;cases r with
 | error e=>exact q
 | ok f =>
  cases f with
  | ret v =>
   obtain⟨rfl,q⟩:=q;apply Jd;show wpAny _ _ (ret (.ref (h.objs.size + 1))) _ _ _;exact Jd q
  | next=>exact q.elim
  | brk=>exact q.elim
  | cont=>exact q.elim
def mI{Au:LU}{R:Result->Shared->Prop}{e t0:Addr}(X:K.In h)(c:ExC K C)(he:h.get? e=some (Ek C t0))(hrest:Au.length<=sizeLine)
  (hq:R (.ok (.ret .none)) ⟨(h.push (Gk Au)).update e (Obj.mapFields (·.setIfInBounds 0 (.ref h.objs.size))),g,d,t,os⟩):
  codeAny (model prog w) A (.call (.builtin "ValueError.__init__") ⟨.ref e :: Au,[]⟩) R ⟨h,g,d,t,os⟩:=by
 obtain⟨nm,q,N,bs,bm,hdct,sn,sub,ab,col,dd,k0,k1,k2,k3,k5,lk⟩:=c.obj;have Fv:=W3;have cV:=IU lk c.val;have hC:=X _ _ lk;have hshort:=Fv.noStar;have chk:∀(a b:String) (n:Nat),Bind.check ⟨.positional,"*","ValueError",.self,[⟨"args",.varPos,false⟩]⟩ a b n (List.map (λx=>x.fst) ({pos:=Value.ref e :: Au}:Args).kw)=pure ():=λa b n=>check_star_args _ _ _ _ _ _;have jV:(h.push (Gk Au)).get? e=some (Ek C t0):=Yc _ he;apply codeAny_call_builtin Fv.init.plain Fv.initEntry;simp only[checkBuiltinCall,Fv.initKind,Fv.initSplit,Fv.initRow]
 repeat (first | with_reducible refine Ji he ?_ | with_reducible refine Ji hC ?_ | (with_reducible refine wpAny_isSubtype_exc hC ?_;rw[cV]) | wp_step)
 apply wpAny_onRaise;rw[chk];apply Jd
 wp_walk
 exact hq
def oo{env:Env}{x:Str}{np AU pos:Pos}{args:List Expr}{s:Shared}{Q:Flow->Shared->Prop}(c:ExC K C)(hh:A.handled=none)
  (h1:wpAny (model prog w) A (eval (.Call (.Name x np) args [] AU) env) (λv s₁=>∃ e t0 dx sl,v=.ref e/\K.In s₁.heap /\
   s₁.heap.get? e=some ⟨.ref C,dx,.fields #[.ref t0,.none,.none,.none,.bool false,.none],sl⟩/\E (.ref e) s₁) E s):
  wpAny (model prog w) A (exec (.Raise (some (.Call (.Name x np) args [] AU)) none pos) env) Q E s:=by
 obtain⟨nm,q,N,bs,bm,hdct,sn,sub,ab,col,dd,k0,k1,k2,k3,k5,lk⟩:=c.obj;have cB:=IU lk c.bas;rw[arm_exec_Raise];apply Ja;apply wpAny_standAt;unfold raiseStmt;apply Ja;show wpAny _ _ (do let v <- eval (.Call (.Name x np) args [] AU) env;standAt pos;pure v) _ _ _;apply Ja;refine Jf h1 (λv s₁ h₁=>?_) λ_ _ z=>z;apply Ja;apply wpAny_standAt;apply Jd;obtain⟨e,t0,dx,sl,rfl,X,he,hE⟩:=h₁;obtain⟨hp,g,d,tk,os⟩:=s₁;have hC:=X _ _ lk
 repeat (first | with_reducible refine Ji he ?_ | with_reducible refine Ji hC ?_ | (with_reducible refine wpAny_isSubtype_exc hC ?_;rw[cB]) | wp_step)
 exact wpAny_raiseNew_none hh hE
end
end L2
namespace L2
open PySem PySem.Spec PySem.Builtin PySem.Builtin.ObjectAttr PySem.W
structure Iu(K:Fg)(C:Addr):Prop extends ExC K C where
 ga:W.findIn K (.ref C) "__getattribute__"=some (some (.builtin "BaseException.__getattribute__"))
 gt:W.findIn K (.ref C) "__getattr__"=some none
 ca:W.findIn K (.ref C) "__class__"=some (some (.builtin "object.__class__"))
 cg:W.specialIn K (.builtin "object.__class__") "__get__"=some (some (.builtin "getset_descriptor.__get__"))
 ct:W.takesIn K (.builtin "object.__class__")=some true
 ob:W.mroIn K C (.type "object")=some true
section
variable {K:Fg}{prog:Program}{w:World}{A:Around}{E:EV}{h:Heap}{g:Array GenState}{d:Drawn}{t:Nat}{os:OsState}{x C:Addr}{ox:Obj}{od:Option Obj}{name:Str}
def mG{nameV:Value}{M:Model}{Q:Unit->Shared->Prop}(X:K.In h)(c:ExC K C)(I:W.InstAt h x ox C od)(hq:Q () ⟨h,g,d,t,os⟩):
  wpAny M A (checkBuiltinCall "BaseException.__getattribute__" ⟨[.ref x,nameV],[]⟩) Q E ⟨h,g,d,t,os⟩:=by
 have hk:builtinKind "BaseException.__getattribute__"=some .slot:=by rfl'
 have hs:splitId "BaseException.__getattribute__"=some ("BaseException","__getattribute__"):=by rfl'
 have ha:=PySem.F.args_bexc_ga (.ref x) nameV;have hi:W.Looks M h (isInstance (.ref x) (.type "BaseException")) true:=I.type.andThen (W.looks_subIn X c.bas);simp only[checkBuiltinCall,hk,hs];apply Ja;apply hi.at;simp only[Bool.not_true,Ic,if_false];exact wpAny_of_eq ha hq
def mH{tk:Tok}{Q:Fin->Shared->Prop}{f:Found}(X:K.In h)(I:W.InstAt h x ox C od)(hf:W.Looks (model prog w) h (find (.ref x) (.ref C) name) f)
  (hq:wpAny (model prog w) A (match f with | .value v=>ret v | .bind g a=>bindTo g a (.ref x) (.ref C) | .missing=>unsupported "") Q E ⟨h,g,d,t,os⟩) (hm:f≠.missing):
  wpAny (model prog w) A (Builtin.«object.__getattribute__» ⟨[.ref x,.str name tk],[]⟩) Q E ⟨h,g,d,t,os⟩:=by
 have L0:=I.type (M:=model prog w);unfold Builtin.«object.__getattribute__»;apply Ja;apply Jd;apply Ja;apply Jd;apply Ja;apply L0.at;apply Ja;apply hf.at;cases f with
 | value v=>exact hq
 | bind a b=>exact hq
 | missing=>exact absurd rfl hm
def tI{tk:Tok}{fill expr:Bool}{Q:EV}{f:Found}{v:Value}(X:K.In h)(c:Iu K C)(I:W.InstAt h x ox C od)(hf:W.Looks (model prog w) h (find (.ref x) (.ref C) name) f)(hm:f≠.missing)
  (hq:∀ {A:Around} {E:EV} {Q:Fin->Shared->Prop},Q (.done (.ret v)) ⟨h,g,d,t,os⟩->wpAny (model prog w) A (match f with | .value v=>ret v | .bind g a=>bindTo g a (.ref x) (.ref C) | .missing=>unsupported "") Q E ⟨h,g,d,t,os⟩)
  (hh:handedIn v=true) (hv:Q v ⟨h,g,d,t,os⟩):wpAny (model prog w) A (getAttrBy (.ref x) (.str name tk) fill expr) Q E ⟨h,g,d,t,os⟩:=by
 have L0:=I.type (M:=model prog w);have L1:=looks_findIn (M:=model prog w) X c.ga;have L2:=looks_findIn (M:=model prog w) X c.gt;have N6:(expr&&onTheHeap (Value.builtin "BaseException.__getattribute__"))=false:=by cases expr <;> rfl
 have apart:(onTheHeap (Value.ref C)&&Value.builtin "BaseException.__getattribute__" == Value.builtin "object.__getattribute__")=false:=by
  rw[show(Value.builtin "BaseException.__getattribute__" == Value.builtin "object.__getattribute__")=false from by rfl'];rfl
 have f3:=PySem.F.attrBase_ValueError.ga.bind (.ref x);have body:∀ {A:Around} {R:Result->Shared->Prop},R (.ok (.ret v)) ⟨h,g,d,t,os⟩->codeAny (model prog w) A (.call (.builtin "BaseException.__getattribute__") ⟨[.ref x,.str name tk],[]⟩) R ⟨h,g,d,t,os⟩:=λ{A R} r =>
  codeAny_call_builtin PySem.F.attrBase_ValueError.ga.plain PySem.F.entry_bexc_ga (mG X c.toExC I (mH X I hf (hq r) hm))
 unfold getAttrBy;apply Jj;apply Ja;apply L0.at;apply Ja;apply L1.at;show wpAny _ _ (if(onTheHeap (Value.ref C)&&Value.builtin "BaseException.__getattribute__" == Value.builtin "object.__getattribute__")=true then _ else getAttrByItsOwn (.ref x) (.str name tk) (.ref C) (.builtin "BaseException.__getattribute__") fill expr) _ _ _;rw[if_neg (by rw[apart];exact Yq)];unfold getAttrByItsOwn;apply Ja;show wpAny _ _ (typeLookup (.ref C) "__getattr__") _ _ _;apply L2.at;apply Ja;apply wpAny_attempt;apply Jj;unfold callGetattribute;rw[if_neg (by rw[N6];exact Yq)];unfold boundAndCalled;apply Ja;refine wpAny_of_eq f3 ?_;refine wpAny_call (body ?_);show wpAny _ _ (handedOut v) _ _ _;rw[handedOut_of hh];exact Jd hv
def vP(c:Iu K C):KitX K (.ref x) (.ref C) (λh=>InstAt h x ox C od) where
 ty:=λ_ _ _ I=>I.type
 it:=λ_ _ X _=>by
  obtain⟨nm,q,N,bs,bm,hdct,sn,sub,ab,col,dd,k0,k1,k2,k3,k5,lk⟩:=c.obj;intro A' Q' E' s' k q;unfold isType loadHead;apply Ja;apply wpAny_loadPart (k _ _ (X _ _ lk));exact Jd q
 ne:=λh tp dd its n sl X e=>by
  obtain⟨nm,q,N,bs,bm,hdct,sn,sub,ab,col,dd,k0,k1,k2,k3,k5,lk⟩:=c.obj;have hC:=X _ _ lk;refine Bool.eq_false_iff.mpr λz=>?_;have z:C=tp:=Value.ref.inj (beq_iff_eq.mp z);rw[z,e]at hC;have q1:Value.type "tuple"=Value.type "type":=congrArg (λo=>Option.elim o Value.none Obj.cls) hC;exact absurd q1 (by decide)
 ca:=λ{prog w A E Q s} X I q=>by
  obtain⟨hh,g,d,t,os⟩:=s;have hcls:∃ cd,clsIn K C=some cd:=by
   obtain⟨nm,q,N,bs,bm,hdct,sn,sub,ab,col,dd,k0,k1,k2,k3,k5,lk⟩:=c.obj;unfold clsIn;rw[lk];exact⟨Z⟩
  obtain⟨cd,hcd⟩:=hcls;have hf:findObj K C od "__class__"=some (.bind (.builtin "getset_descriptor.__get__") (.builtin "object.__class__")):=by
   unfold findObj;rw[hcd,c.ca];dsimp only[Option.bind];rw[c.cg];dsimp only;rw[c.ct]
  unfold getAttr? getAttrBy?;apply Ja;apply wpAny_mkText;apply Ja;apply wpAny_attempt;refine tI X c I (looks_find X I hf) (λz=>nomatch z) (λ{A E Q} r=>?_) rfl (Jd q);show wpAny _ _ (bindTo (.builtin "getset_descriptor.__get__") (.builtin "object.__class__") (.ref x) (.ref C)) _ _ _;unfold bindTo;show wpAny _ _ (holding [.builtin "object.__class__"] (call (.builtin "getset_descriptor.__get__") [.builtin "object.__class__",.ref x,.ref C])>>=ret) _ _ _;apply Ja;apply Jj;exact wpAny_call (class_get (ox:=ox) (od:=od) X I c.ob (Jd r))
end
end L2
namespace L2
open PySem PySem.Spec PyProof.Rows
def XO(e C:Addr)(dx:Option Addr):HO:=.ext λh=>∃ o,h.get? e=some o/\o.cls=.ref C/\o.dict=dx/\W.notCls o=true
abbrev TF:=St->Hp->(Hp->Prop)->Prop
def PF(X:Cx)(e:Expr)(t:TF):Prop:=∀(pins:PL) (s:Shared) (σ:St) (H:Hp) (Q:Hp->Prop),Inv X pins σ H s->t σ H Q ->
 wpAny (model X.prog X.w) X.A (eval e X.env) (λu s'=>∃ y tk H',u=.str y tk/\y.length<=100000/\Inv X pins σ H' s'/\Q H') X.xe s
def Tu(X:Cx)(es:List Expr)(t:TF):Prop:=∀(pins:PL) (s:Shared) (σ:St) (H:Hp) (Q:Hp->Prop) (acc:Str) (j:Nat),Inv X pins σ H s->acc.length<=100000 * j->j + es.length<=100->t σ H Q ->
 Joins (model X.prog X.w) X.A X.xe (evalEach es X.env) acc (λout s'=>∃ H',out.length<=10000000/\Inv X pins σ H' s'/\Q H') s
section
variable {X:Cx}{e:Expr}{es:List Expr}{te:TE}{t u:TF}{pos:Pos}
def qZ(x:Str):TF:=λ_ H Q=>x.length<=100000/\Q H
def U5{x j}:PF X (.Constant (.str x) j pos) (qZ x):=λ_ _ _ H _ I h=>Calls.Constant_str ⟨x,_,H,Y,h.1,I.tok _,h.2⟩
def qb(te:TE):TF:=λσ H Q=>te σ H λv H1=>∃ i:Int,v=.int i/\i.natAbs<2 ^ 64/\Q H1
def VI{i:Int}(h:i.natAbs<2 ^ 64):i.natAbs.log2<1920:=by
 by_cases z:i.natAbs=0
 ·rw[z];decide
 ·exact Nat.lt_trans ((Nat.log2_lt z).mpr h) (by decide)
def u_{i:Int}(h:i.natAbs<2 ^ 64):(Str.ofString (toString i)).length<=100000:=by
 have e:=PySem.int_text_length_le (k:=1920) (by decide) (VI h);rw[PySem.ofString_length];omega
def uK(he:PE X e te):PF X (.FormattedValue e (-1) none pos) (qb te):=by
 ac_rfl;refine wpAny_FormattedValue_plain (AK (he pins s σ H _ I h) λv s1 ⟨x,H1,I1,r1,i,ex,hi,q⟩=>?_);subst ex;obtain⟨t,rfl⟩:=r1;exact wpAny_formatField_int (VI hi) ⟨_,_,H1,Y,u_ hi,I1.tok _,q⟩
def qd:TF:=λ_ H Q=>Q H
def qe(t u:TF):TF:=λσ H Q=>t σ H λH1=>u σ H1 Q
def aR:Tu X [] qd:=λpins s σ H Q acc j I ha hj h=>⟨H,by simp at hj;exact A6 ha (A6 (Nat.mul_le_mul_left _ hj) (by decide)),I,h⟩
def Kz(h1:PF X e t)(h2:Tu X es u):Tu X (e :: es) (qe t u):=by
 intro pins s σ H Q acc j I ha hj h;show wpAny _ _ (eval e X.env) _ _ s;refine AK (h1 pins s σ H _ I h) λv s1 ⟨y,tk,H1,ev,hy,I1,q⟩=>?_;have hl:(acc++y).length<=100000 * (j + 1):=by rw[strLen_append];omega
 have HH:j + 1 + es.length<=100:=by simp at hj;omega
 refine⟨y,tk,ev,A6 hl (A6 (Nat.mul_le_mul_left _ (show j + 1<=100 by omega)) (by decide)),?_⟩;exact h2 pins s1 σ H1 Q _ (j + 1) I1 hl HH q
def iI(t:TF):TE:=λσ H Q=>t σ H λH1=>∀ x:Str,Q (.str x) H1
def aO{v1 v2:Expr}{Au:List Expr}(h:Tu X (v1 :: v2 :: Au) t)(hl:(v1 :: v2 :: Au).length<=100:=by decide):PE X (.JoinedStr (v1 :: v2 :: Au) pos) (iI t):=by
 intro pins s σ H Q I hq;apply wpAny_JoinedStr;have z:=h pins s σ H _ Str.empty 0 I (A7 _) (by simpa using hl) hq;have mono:∀(l:List (Sem Value)) (acc:Str) (P P':Str->Shared->Prop) (s:Shared),(∀ o s',P o s'->P' o s')->Joins (model X.prog X.w) X.A X.xe l acc P s->Joins (model X.prog X.w) X.A X.xe l acc P' s:=by
  intro l
  induction l with
  | nil=>intro acc P P' s f q;exact f _ _ q
  | cons a r ih =>
   intro acc P P' s f q;exact AK (show wpAny _ _ a _ _ s from q) λv s1 ⟨y,tk,e1,e2,e3⟩=>⟨y,tk,e1,e2,ih _ P P' s1 f e3⟩
 exact mono _ _ _ _ _ (λo s' ⟨H',l,I',q'⟩=>⟨A6 l (by decide),⟨.str o,H',I'.tok _,⟨Z⟩,q' o⟩⟩) z
end
section
variable {X:Cx}{E:XK}{C:Addr}{x:Str}{np AU pos:Pos}{e:Expr}{es:List Expr}{t:TA}
def iF(E:XK)(C:Addr)(t:TA):TS:=λ_ σ H=>t σ H λvs H1=>vs.length<=sizeLine/\E (.ref C) none H1
def kL{K:Fg}{prog:Program}{w:World}{A:Around}{E:EV}{s:Shared}{us:LU}{Q:EV}(X:K.In s.heap)(c:ExC K C)(hi:W.findIn K (.ref C) "__init__"=some (some (.builtin "ValueError.__init__")))(hl:us.length<=sizeLine)
  (h:∀ h' t0,(∀ b o,s.heap.get? b=some o->h'.get? b=some o)->h'.get? (s.heap.objs.size + 1)=some (Ek C t0)->Q (.ref (s.heap.objs.size + 1)) {s with heap:=h' }):
  wpAny (model prog w) A (call (.ref C) us) Q E s:=by
 obtain⟨hp,g,d,tk,os⟩:=s;dsimp only at X h ⊢;refine kK X c hi (λself=>W.Looks.of_pure (PySem.F.excBase_ValueError.init.bind self)) hl ?_;have up:∀ b o,hp.get? b=some o->((hp.push (Gk us)).push (Ek C hp.objs.size)).get? b=some o:=λb o q=>Yc _ (Yc _ q);have got:((hp.push (Gk us)).push (Ek C hp.objs.size)).get? (hp.objs.size + 1)=some (Ek C hp.objs.size):=Heap.get?_push_at (by rw[Co]) rfl;refine mI (t0:=hp.objs.size) (X.keeps up) c got hl ⟨Y,h _ ((hp.push (Gk us)).push (Ek C hp.objs.size)).objs.size (λb o q=>?_) ?_⟩
 ·have nb:b≠hp.objs.size + 1:=Ys (Px (Ye q));rw[Jz _ _ (Yj nb)];exact Yc _ (up b o q)
 ·rw[LY _ (Yc _ got) rfl];rfl
def bO(F:CW X E)(hh:X.A.handled=none)(c:ExC X.K C)(hi:W.findIn X.K (.ref C) "__init__"=some (some (.builtin "ValueError.__init__")))(hg:Gl X x)(hm:X.mg x=some (.ref C))(ha:PA X (e :: es) t)
  (hdb:(x == ("__debug__":Str))=false:=by decide) (he:starEach (e :: es) X.env=(false,eval e X.env):: starEach es X.env:=by rfl) (hpl:(backTo AU (starEach es X.env)).any (·.1)=false:=by rfl):
  PS X (.Raise (some (.Call (.Name x np) (e :: es) [] AU)) none pos) (iF E C t):=by
 intro pins s σ H D I h;refine oo c hh (wpAny_Call_Name_kw (M3 I hg hm ?_ hdb));refine W.callWith_K (h₀:=X.base) I.ok.mod.kin c.kp (AK (ha AU pins s σ H _ I h) λus s1 ⟨vs,H1,I1,r,hl,q⟩=>⟨I1.kIn,?_⟩) he hpl;refine kL I1.kIn c hi (by rw[List.nil_append,<- r.length];exact hl) λh' t0 k got=>?_;have I2:Inv X pins σ H1 {s1 with heap:=h' }:=I1.kept (t':=s1.toks) k;refine⟨_,t0,none,#[],Y,I2.kIn,got,?_⟩;exact F.raised I2 (I1.fpOk (Fs _) (I1.hok.fresh (Fs _))) got rfl rfl q
end
section
variable {X:Cx}{pins:PL}{σ:St}{H:Hp}{s:Shared}{A:Around}{E:EV}{Q:EV}{e C:Addr}{dx:Option Addr}{cv:Value}{b:Bool}
def Mj(H:Hp)(dx:Option Addr):Prop:=dx=none\/∃ a fs,dx=some a/\H a=some (.xd fs)
def kB(I:Inv X pins σ H s)(hx:H e=some (XO e C dx))(hd:Mj H dx):∃ ox od,W.InstAt s.heap e ox C od:=by
 have q:A2 X.prog X.w H s.heap e (XO e C dx):=I.hok e _ hx;obtain⟨⟨o,h1,h2,h3,h4⟩,_⟩:=q
 rcases hd with hd | ⟨a,fs,hd,ha⟩
 ·exact⟨o,none,⟨h1,h2,h4,by rw[h3,hd];trivial⟩⟩
 ·have q:A2 X.prog X.w H s.heap a (.xd fs):=I.hok a _ ha;obtain⟨mA,⟨oa,es,ep,e1,_⟩,_⟩:=q;exact⟨o,some oa,⟨h1,h2,h4,by rw[h3,hd];exact e1⟩⟩
def n_(I:Inv X pins σ H s)(hx:H e=some (XO e C dx))(hd:Mj H dx)(c:Iu X.K C)(k:W.kitOne X.K (.ref C) cv=some b)(h:∀ tk,Q (.bool b) {s with toks:=tk}):
  wpAny (model X.prog X.w) A (call (.builtin "isinstance") [.ref e,cv]) Q E s:=by
 obtain⟨ox,od,J⟩:=kB I hx hd;exact W.kia_one (vP (ox:=ox) (od:=od) c) I.kIn J k (λz=>nomatch z) h
end
abbrev Py:=Value->Option Addr->St->Hp->Prop
abbrev J4:=GV->Py->St->Hp->Prop
abbrev Tq:=St->Hp->VK->XK->Prop
def XP(X:Cx)(pins:PL)(E:Py)(ev:Value)(s':Shared):Prop:=∃(e T:Addr) (cls:Value) (dx:Option Addr) (σ':St) (H':Hp),ev=.ref e/\Inv X pins σ' H' s'/\BA X pins H' e/\BA X pins H' T/\F2 s'.heap e T cls dx .none/\E cls dx σ' H'
def gx(X:Cx)(e:Expr)(t:Tq):Prop:=∀(pins:PL) (s:Shared) (σ:St) (H:Hp) (Q:VK) (E:XK),Inv X pins σ H s->t σ H Q E ->
 wpAny (model X.prog X.w) X.A (eval e X.env) (EP X pins σ Q) (XP X pins λc d σ' H'=>σ'=σ/\E c d H') s
def W6(X:Cx)(st:Stmt)(t:J4):Prop:=∀(pins:PL) (s:Shared) (σ:St) (H:Hp) (D:GV) (E:Py),Inv X pins σ H s->t D E σ H->wpAny (model X.prog X.w) X.A (exec st X.env) (SP X pins D) (XP X pins E) s
def S_(X:Cx)(st:List Stmt)(t:J4):Prop:=∀(pins:PL) (s:Shared) (σ:St) (H:Hp) (D:GV) (E:Py),Inv X pins σ H s->t D E σ H->wpAny (model X.prog X.w) X.A (execs st X.env) (SP X pins D) (XP X pins E) s
section
variable {X:Cx}{st:Stmt}{Au:List Stmt}{t u:J4}{e:Expr}{te:Tq}{pos:Pos}
def M_(h1:W6 X st t):S_ X [st] t:=by
 intro pins s σ H D E I h;refine wpAny_execs_cons (AK (h1 pins s σ H D E I h) λf s1 q=>?_);cases f with
 | next=>exact wpAny_execs_nil q
 | ret v=>exact q
 | brk=>exact q
 | cont=>exact q
def kC{pins:PL}{E E':Py}(f:∀ c d σ H,E c d σ H->E' c d σ H){ev:Value}{s':Shared}(h:XP X pins E ev s'):XP X pins E' ev s':=by
 obtain⟨e,T,cls,dx,σ',H',r,I,fe,fT,a,q⟩:=h;exact⟨e,T,cls,dx,σ',H',r,I,fe,fT,a,f _ _ _ _ q⟩
def rT(i:Nat)(te:Tq):J4:=λD E σ H=>te σ H (λv H1=>D.nx (σ.set i (some v)) H1) λc d H1=>E c d σ H1
def R_{i:Nat}{x:Str}{pos':Pos}(hN:X.N.Nodup)(hi:X.N[i]?=some x)(hx:Loc X.env.scope x)(he:gx X e te)(hs:swapsWith e (some (.Name x pos')) pos.line X.env=pure false:=by rfl)
  (hf:X.fn x=true\/X.env.scope.names.lookup x=some .local:=by first | exact .inl rfl | exact .inr rfl | assumption):W6 X (.Assign [.Name x pos'] e pos) (rT i te):=by
 intro pins s σ H D E I h;refine wpAny_Assign_Name (Jf (he pins s σ H _ _ I h) (λv s1 ⟨y,H1,I1,r1,q1⟩=>?_) λev s1 z=>kC (λc d σ' H' q=>?_) z) hs
 ·exact SM I1 hN hi hx r1 (λs2 I2=>⟨_,H1,I2,q1⟩) hf
 ·obtain⟨rfl,q⟩:=q;exact q
def hO(c:TT)(t u:J4):J4:=λD E σ H=>c σ H λb H1=>if b=true then t D E σ H1 else u D E σ H1
def Zj{c:Expr}{a b:List Stmt}{tc:TT}(hc:PT X.nox c tc)(ha:S_ X a t)(hb:S_ X b u):W6 X (.If c a b pos) (hO tc t u):=by
 intro pins s σ H D E I h;refine wpAny_If (Jf (hc pins s σ H _ (I.wish _) h) (λd s1 ⟨H1,I1,q1⟩=>?_) λ_ _ z=>False.elim z);cases d with
 | true=>exact ha pins s1 σ H1 D E I1.unwish q1
 | false=>exact hb pins s1 σ H1 D E I1.unwish q1
end
section
variable {X:Cx}{k:Nat}{f C:Addr}{fd:FuncData}{ps:LS}{sp:Sp}{CP:LV}{ds:LU}{x m:Str}{p pos apos:Pos}{e o:Expr}{es:List Expr}{ta:TE}{t:TA}
def vh{pins:PL}{σ:St}{H:Hp}{s:Shared}{Q:VK}{E:XK}{us:LU}{vs:LV}(F:Ax X.prog X.w X.K X.mg X.base (Bx X.prog X.w) k f fd ps sp)(hr:AV k X.A)(hb:Cj X.K fd ps [])
  (I:Inv X pins σ H s) (r:AO vs us) (h:sp vs H Q E):wpAny (model X.prog X.w) X.A (call (.ref f) us) (EP X pins σ Q) (XP X pins λc d σ' H'=>σ'=σ/\E c d H') s:=by
 have hl:(us++[]).length=ps.length:=by rw[Fu,<- r.length];exact F.len _ _ _ _ h
 have b:=hb s us I.kIn hl;rw[Fu]at b;refine wpAny_call (codeAny_mono (F.run X.A X.stack s H ⟨us,[]⟩ us vs Q E hr I.env0 b r h) λr s' hq=>?_);cases r with
 | error e =>
  obtain⟨e,T,cls,dx,H',rfl,os,bare,un,hok,he,hT,se,sT,a,q⟩:=hq;exact⟨e,T,cls,dx,σ,H',Y,I.call' (ch:=[]) os un hok bare (λb z=>nomatch z),I.fpOk se he,I.fpOk sT hT,a,Y,q⟩
 | ok fl =>
  cases fl with
  | ret u=>exact I.after hq
  | next=>exact False.elim hq
  | brk=>exact False.elim hq
  | cont=>exact False.elim hq
def sf(sp:Sp)(t:TA):Tq:=λσ H Q E=>t σ H λvs H1=>sp vs H1 Q E
def vW{pins:PL}{s:Shared}{σ:St}{H:Hp}{Q:LV->Hp->Prop}{E:EV}(ha:PA X.nox es t)(I:Inv X pins σ H s)(h:t σ H Q):
  wpAny (model X.prog X.w) X.A (spliced (backTo pos (starEach es X.env))) (AP X pins σ Q) E s :=
 Jf (ha pos pins s σ H Q (I.wish _) h) (λ_ _ ⟨vs,H',I',r,q⟩=>⟨vs,H',I'.unwish,r,q⟩) λ_ _ z=>False.elim z
def SH{st:Stmt}(d:Def X.K X.mg x st ps f fd)(F:Ax X.prog X.w X.K X.mg X.base (Bx X.prog X.w) k f fd ps sp)(hr:AV k X.A)(hg:Gl X x)(ha:PA X.nox (e :: es) t)(hdb:(x == ("__debug__":Str))=false:=by decide)
  (he:starEach (e :: es) X.env=(false,eval e X.env):: starEach es X.env:=by rfl) (hpl:(backTo pos (starEach es X.env)).any (·.1)=false:=by rfl):gx X (.Call (.Name x p) (e :: es) [] pos) (sf sp t):=by
 intro pins s σ H Q E I h;refine wpAny_Call_Name_kw (M3 I hg d.m ?_ hdb);refine W.callWith_K (h₀:=X.base) I.ok.mod.kin d.fn.kp (AK (vW ha I h) λus s1 ⟨vs,H1,I1,r,q⟩=>⟨I1.kIn,?_⟩) he hpl;exact vh F hr d.b I1 r q
end
section
variable {K:Fg}{M:Model}{A:Around}{E:EV}{h:Heap}{g:Array GenState}{d:Drawn}{t:Nat}{os:OsState}{e C D:Addr}
def pX{oe:Obj}{Q:Bool->Shared->Prop}(X:K.In h)(cD:ExC K D)(he:h.get? e=some oe)(hcls:oe.cls=.ref C)(cC:ExC K C)(hs:W.subIn K (.ref C) (.ref D)=some true)(hq:Q true ⟨h,g,d,t,os⟩):
  wpAny M A (excMatches (.ref e) (.ref D)) Q E ⟨h,g,d,t,os⟩:=by
 obtain⟨nm,q,N,bs,bm,hdct,sn,sub,ab,col,dd,k0,k1,k2,k3,k5,lk⟩:=cD.obj;obtain⟨xH,q',N',xq,xr,g_,xF,wV,xt,wy,JR,xT,xS,xR,xQ,xP,YR⟩:=cC.obj;have cB:=IU lk cD.bas;have cS:=IU YR hs;have hD:=X _ _ lk;have hC:=X _ _ YR;have f:=tc_notTuple;unfold excMatches
 repeat (first | (with_reducible refine Ji he ?_;rw[hcls]) | with_reducible refine Ji hD ?_ | (with_reducible refine wpAny_isSubtype_exc hD ?_;rw[cB]) | (with_reducible refine wpAny_isSubtype_exc hC ?_;rw[cS]) | wp_step)
 exact hq
end
section
variable {X:Cx}{pins:PL}{σ:St}{H:Hp}{s:Shared}
def Inv.track{a:Addr}{o:HO}(I:Inv X pins σ H s)(f:BA X pins H a)(ok:A2 X.prog X.w (upd H a o) s.heap a o):Inv X pins σ (upd H a o) s:=by
 obtain⟨f0,f1,f2,f3,f4,f5⟩:=f;have ne:∀ b u,H b=some u->b≠a:=λb u q z=>by rw[z,f0]at q;cases q
 have old:∀ b u,X.s₀.heap.get? b=some u->b∉X.ex->b≠a:=λb u q n z=>by
  rcases f3 with r | r
  ·rw[z]at n;exact n r
  ·exact absurd (Yp (Ye q) (by rw[z];exact r)) (FH _)
 refine⟨I.ok,I.os,I.bare,⟨I.base.keep,I.base.slot,λb u q n hx=>by rw[AD (old b u q hx)];exact I.base.free b u q n hx,I.base.there,λb xs q=>by have z:=I.base.tups b xs q;rw[AD (ne b _ z)];exact z,
  λb u xs q=>by have z:=I.base.frzs b u xs q;rw[AD (ne b _ z)];exact z,λb ps q=>by obtain⟨m,z⟩:=I.base.tbls b ps q;exact⟨m,by rw[AD (ne b _ z)];exact z⟩⟩,
  I.loc,I.cell,by rw[AD (Yj f1)];exact I.free,λx c q=>by rw[AD (f4 x c q)];exact I.freeC x c q,λp hp=>?_,λb u q=>?_,I.len⟩
 ·obtain⟨p1,p2,p3,p4,p5⟩:=I.pin p hp;exact⟨p1,by rw[AD (f5 p hp)];exact p2,p3,p4,p5⟩
 ·by_cases hb:b=a
  ·subst hb;rw[uS]at q;cases q;exact ok
  ·rw[AD hb]at q;exact(I.hok b u q).stay (λ_ _ _ z=>z) (λc z=>by rw[AD (ne c _ z)];exact z) λc xs z=>by rw[AD (ne c _ z)];exact z
def Inv.gone{i:Nat}{x:Str}{m:Str->OU}{v:OU}{h':Heap}{tk:Nat}(I:Inv X pins σ H s)(hN:X.N.Nodup)(hi:X.N[i]?=some x)(hx:X.env.scope.names.lookup x=some .local)
  (hm:s.heap.Ns X.env.locals m) (hn:h'.Ns X.env.locals λy=>if y=x then v else m y) (hs:Heap.SameBut X.env.locals s.heap h'):Inv X pins (σ.set i none) H {s with heap:=h',toks:=tk}:=by
 obtain⟨m0,Hy,hl⟩:=id I.loc;have hmm:m0=m:=by
  obtain⟨o1,xj,xn,a1,a2,_,a3⟩:=Hy;obtain⟨o2,xi,xk,b1,b2,_,b3⟩:=hm;rw[a1]at b1;cases b1;rw[a2]at b2;cases b2
  funext y
  rw[<- a3,<- b3]
 subst hmm;have cne:=I.cne;obtain⟨oL,_,_,hoL,_⟩:=id hm;refine⟨I.ok,I.os,I.bare,⟨λb o e n hb hx=>?_,λb o e n hb hx=>?_,I.base.free,λb o e hx=>?_,I.base.tups,I.base.frzs,I.base.tbls⟩,⟨_,hn,λj y v' e1 e2 e3=>?_⟩,λy c e=>?_,I.free,I.freeC,λp hp=>?_,λb ob e=>?_,by simpa using I.len⟩
 ·exact(hs.2 b (Ys (Yp (Ye e) I.ok.above))).trans (I.base.keep b o e n hb hx)
 ·obtain⟨sl,e1⟩:=I.base.slot b o e n hb hx;exact⟨sl,(hs.2 b (Ys (Yp (Ye e) I.ok.above))).trans e1⟩
 ·obtain⟨o',e1⟩:=I.base.there b o e hx;exact⟨o',(hs.2 b (Ys (Yp (Ye e) I.ok.above))).trans e1⟩
 ·have hj:j≠i:=λz=>by
   subst z;by_cases hb:j<σ.length
   ·rw[To hb]at e2;cases e2
   ·rw[Gu (by simpa using hb)]at e2;cases e2
  rw[List.getElem?_set_ne (Yj hj)]at e2;obtain⟨u',r',q⟩:=hl j y v' e1 e2 e3;refine⟨u',r',?_⟩
  rcases q with⟨k,e⟩ | ⟨k,c,e,z⟩
  ·refine .inl ⟨k,?_⟩;have:y≠x:=λe=>hj (Ky hN e1 (e ▸ hi));simp[this,e]
  ·exact .inr ⟨k,c,e,z.sameBut hs (cne y c e)⟩
 ·obtain⟨w',z⟩:=I.cell y c e;exact⟨w',z.sameBut hs (cne y c e)⟩
 ·obtain⟨e,n,ne,nf,d⟩:=I.pin p hp;exact⟨(hs.2 p.1 ne).trans e,n,ne,nf,d⟩
 ·refine(I.hok b ob e).stay (λc w' hc q=>(hs.2 c ?_).trans q) (λ_ q=>q) λ_ _ q=>q;rintro rfl
  rcases hc with rfl | hc
  ·rw[I.free]at e;cases e
  ·rw[I.free]at hc;cases hc
abbrev Cx.marked(X:Cx)(v:Value):Cx:={X with A:=X.A.mark (some v),calm:=false,xe:=λ_ _=>False}
def Inv.mark(I:Inv X pins σ H s)(v:Value):Inv (X.marked v) pins σ H s :=
 ⟨⟨I.ok.mod,I.ok.kind,I.ok.glob,I.ok.blt,I.ok.above,I.ok.inj,I.ok.has,I.ok.cab,λz=>absurd z Yq,I.ok.frames,I.ok.stk,I.ok.exf,I.ok.bs,I.ok.bsz,I.ok.noex,I.ok.exfs,I.ok.funs,I.ok.frf⟩,
  I.os,I.bare,I.base,I.loc,I.cell,I.free,I.freeC,I.pin,I.hok,I.len⟩
def Inv.unmark{v:Value}(J:Inv (X.marked v) pins σ H s)(ok:X.Ok):Inv X pins σ H s :=
 ⟨ok,J.os,J.bare,J.base,J.loc,J.cell,J.free,J.freeC,J.pin,J.hok,J.len⟩
end
section
variable {X:Cx}{D:Addr}{body:List Stmt}{t:J4}{x n dn:Str}{np xp ep ap hp pos:Pos}{i j:Nat}
def rS(K:Fg)(D:Addr)(i j:Nat)(t:J4):TS:=λB σ H=>t B (λcls dx σ' H'=>∃ C,cls=.ref C/\ExC K C/\W.subIn K (.ref C) (.ref D)=some true /\
 ∀ e,H' e=none->B.nx (((σ'.set j (some (.ref e))).set i (some (.ref e))).set j none) (upd H' e (XO e C dx))) σ H
def Zi(hst:X.stack=X.env :: X.outer)(hf:X.env.frame=some X.env.locals)(cD:ExC X.K D)(hN:X.N.Nodup)(hg:Gl X dn)(hm:X.mg dn=some (.ref D))(hi:X.N[i]?=some x)(hx:Loc X.env.scope x)(hj:X.N[j]?=some n)
  (hn:X.env.scope.names.lookup n=some .local) (hb:S_ X body t) (hfx:X.fn x=true\/X.env.scope.names.lookup x=some .local:=by first | exact .inl rfl | exact .inr rfl | assumption) (hdb:(dn == ("__debug__":Str))=false:=by decide)
  (hd2:(n == ("__debug__":Str))=false:=by decide) (RG:(n == ("__classdict__":Str))=false:=by decide) (hs:∀ v,swapsWith (.Name n ep) (some (.Name x xp)) ap.line (X.marked v).env=pure false:=by intro;rfl):
  PS X (.Try body [.ExceptHandler (some (.Name dn np)) (some n) [.Assign [.Name x xp] (.Name n ep) ap] hp] [] [] pos) (rS X.K D i j t):=by
 intro pins s σ H B I h;refine wpAny_Try_except (Jf (hb pins s σ H B _ I h) (λf s1 q=>?_) λev s1 z=>?_)
 ·cases f with
  | next=>exact wpAny_execs_nil q
  | ret v=>exact q
  | brk=>exact q
  | cont=>exact q
 ·obtain⟨e,T,cls,dx,σ',H',rfl,I1,fe,fT,a,C,rfl,cC,csub,q⟩:=z;have hfr:X.A.frames=some (X.env :: X.outer):=by rw[<- hst];exact I1.ok.frames
  have hl:s1.heap.FunFrames X.base (X.env :: X.outer):=by rw[<- hst];exact I1.stack
  refine cG hfr hl hf a λh1 T1 D0 a1 c1=>?_;refine SN a1 λh2 a2 c2=>?_;rw[<- hst]at c1;have c3:BW (CD X.stack) [T1,e,T] s1.heap h2:=(c1.mono (λb z=>z) λb z=>by simp at z;rcases z with z | z <;> simp[z]).trans (c2.mono (λb z=>nomatch z) λb z=>by simp at z;simp[z]);have I2:Inv X pins σ' H' {s1 with heap:=h2}:=I1.call (ch:=[e,T]) (t':=s1.toks) (d':=s1.drawn) (g':=s1.gens) (Un.chg (c3.drop D0) (λb z=>z) λb z=>z) (I1.hok.chg (c3.drop D0) I1.stkFree λb z=>by
   simp at z;rcases z with z | z <;> rw[z];exact fe.1;exact fT.1) I1.bare λb z=>by
   simp at z;rcases z with z | z <;> rw[z];exact⟨fe.2.2.2.1,fe.2.1,fe.2.2.2.2.1,fe.2.2.2.2.2⟩;exact⟨fT.2.2.2.1,fT.2.1,fT.2.2.2.2.1,fT.2.2.2.2.2⟩
  have OL:BA X pins H' T1:=I1.fpOk D0 (I1.hok.fresh D0);have M2:=I2.mark (.ref e);refine wpAny_handleBy_cons (codeAny_handlers_test (M3 (X:=X.marked (.ref e)) M2 hg hm ?_ hdb)) (by intro q;cases q);obtain⟨oe,vs,he,hc,hdx,hd,Bf⟩:=a2.obj;refine pX I2.kIn cD he hc cC csub (codeAny_handlers_suite_as ?_);refine SN a2 λh3 a3 c4=>?_;have c5:BW (CD X.stack) [T1] h2 h3:=c4.mono (λb z=>nomatch z) λb z=>z;have I3:Inv X pins σ' H' {s1 with heap:=h3}:=I2.call (s:={s1 with heap:=h2}) (h':=h3) (ch:=[T1]) (t':=s1.toks) (d':=s1.drawn) (g':=s1.gens) (Un.chg c5 (λb z=>z) λb z=>z) (I2.hok.chg c4 (λb z=>(nomatch z:H' b=none)) λb z=>by simp at z;rw[z];exact OL.1) I2.bare λb z=>by
   simp at z;rw[z];exact⟨OL.2.2.2.1,OL.2.1,OL.2.2.2.2.1,OL.2.2.2.2.2⟩
  obtain⟨YC,w_,Y8,RH,Xg,Xj,xW⟩:=a3.obj;have I4:Inv X pins σ' (upd H' e (XO e C dx)) {s1 with heap:=h3}:=I3.track fe ⟨⟨YC,Y8,RH,Xg,by unfold W.notCls;rw[Xj]⟩,⟨YC,Y8⟩,λh1 h2 ⟨o,q1,q2⟩ k=>⟨o,k o q1,q2⟩⟩;have M4:=I4.mark (.ref e);refine SM (X:=X.marked (.ref e)) (i:=j) M4 hN hj (.inl hn) (v:=.ref e) rfl (λs5 M5=>?_) (.inr hn);have L5:(σ'.set j (some (.ref e)))[j]?=some (some (.ref e)):=by
   have:j<σ'.length:=by rw[I3.len];exact(Yn.mp hj).1
   rw[To this]
  have R:=(AH (CB (X:=X.marked (.ref e)) (i:=i) (pos:=ap) (pos':=xp) hN hi hx (Zf (X:=X.marked (.ref e)) (pos:=ep) hj (.inl hn) hd2 RG) (hs _) hfx)) pins s5 _ _
   {nx:=λσ6 H6=>σ6=(σ'.set j (some (.ref e))).set i (some (.ref e))/\H6=upd H' e (XO e C dx),rt:=λ_ _=>False} M5 ⟨_,L5,Y,Y⟩
  refine Jf R (λf s6 q6=>?_) λ_ _ z=>False.elim z;cases f with
  | ret v=>obtain⟨_,_,_,_,_,z⟩:=q6;exact z.elim
  | brk=>obtain⟨_,_,_,z⟩:=q6;exact z.elim
  | cont=>obtain⟨_,_,_,z⟩:=q6;exact z.elim
  | next =>
   obtain⟨σ6,H6,M6,rfl,rfl⟩:=q6;have I6:=M6.unmark I.ok;obtain⟨m,Y2,_⟩:=id I6.loc;refine wpAny_nameGoes_keeps hn Y2 (by rw[I.ok.kind];rfl) λh7 v OC jM=>?_;exact⟨_,_,I6.gone hN hj hn Y2 OC jM,q e fe.1⟩
end
section
variable {X:Cx}{k:Nat}{f C:Addr}{fd:FuncData}{ps:LS}{sp:Sp}{x m:Str}{p pos apos:Pos}{e o:Expr}{es:List Expr}{ta:TE}{t:TA}
end
theorem cO:∀ {bs:List Bool}{us:LU},AO (bs.map V.bl) us->us=bs.map Value.bool
 | [],_,h=>by cases h;rfl
 | b :: r,_,h=>by
  cases h with
  | cons a t=>rw[cO t];cases a;rfl
theorem dg(h:Heap):∀ bs:List Bool,ReadsAll h (bs.map Value.bool) (bs.map PyData.bool) []
 | []=>.nil
 | b :: r=>by have:=ReadsAll.cons (Reads.bool (h:=h) b) (dg h r);exact this
theorem de(k:Bool):∀ bs:List Bool,countIn (.bool k) (bs.map PyData.bool)=((bs.countP (· == k):Nat):Int)
 | []=>rfl
 | b :: r=>by
  rw[Ym,countIn,de k r,List.countP_cons];cases b <;> cases k <;> simp[same] <;> omega
def nG{X:Cx}:Li X "list.count" (λx vs H Q=>∃(l:Addr) (bs:List Bool) (k:Bool),x=.ref l/\vs=[.bl k]/\H l=some (.lst (bs.map V.bl))/\Q (.int ((bs.countP (· == k):Nat):Int)) H):=by
 intro pins s σ H x vs v us Q I rx rv h;obtain⟨l,bs,k,rfl,rfl,hH,q⟩:=h;cases rx;obtain⟨u,rfl,ru⟩:=rv.one;cases ru;obtain⟨z,its,n,r,hl,e⟩:=I.lstM hH;have hb:=cO r;subst hb;refine count_list_bools (xs:=bs.map PyData.bool) (hp:=s.heap) ⟨_,e,Y,Z⟩ (dg _ _) ?_ ?_
 ·rw[List.all_map,Bc];intro b _;rfl
 ·rw[de];exact⟨.int _,H,I.tok _,⟨Z⟩,q⟩
def bC{K:Fg}{C D:Addr}{b:Bool}(h1:W.isClsIn K D=true)(h2:W.typeIn K (.ref D)=some (.type "type"))(c:ExC K C)(h:W.subIn K (.ref C) (.ref D)=some b):W.kitOne K (.ref C) (.ref D)=some b:=by
 unfold W.kitOne;by_cases z:C=D
 ·subst z;obtain⟨nm,q,N,bs,bm,hdct,sn,sub,ab,col,dd,k0,k1,k2,k3,k5,lk⟩:=c.obj;have:=IU lk h;rw[if_pos (by simp)];rw[<- this];simp
 ·rw[if_neg (by simpa using z)];unfold W.kitCls;have OJ:(W.clsIn K D).isSome=true:=h1;show(if((W.clsIn K D).isSome&&W.typeIn K (.ref D) == some (.type "type"))=true then W.subIn K (.ref C) (.ref D)else none)=some b;rw[if_pos (by rw[OJ,h2];rfl)];exact h
def mT{K:Fg}{C:Addr}(c:ExC K C):W.kitOne K (.ref C) (.type "ValueError")=some true:=by
 unfold W.kitOne;rw[if_neg (by simp)];unfold W.kitCls;show(if W.kitMeta "ValueError"=true then W.subIn K (.ref C) (.type "ValueError")else none)=some true;rw[if_pos (by rfl')];exact c.val
def sH(K:Fg):LV->Hp->VK->Prop:=λxs H Q=>∃(e C:Addr) (dx:Option Addr) (y:V) (cv:Value) (b:Bool),xs=[.ref e,y]/\AS y cv/\(∀ u,AS y u->u=cv)/\H e=some (XO e C dx)/\Mj H dx/\Iu K C/\W.kitOne K (.ref C) cv=some b/\Q (.bl b) H
def Dj{X:Cx}:Eg X (.builtin "isinstance") (sH X.K):=by
 intro pins s σ H xs us Q I r h;obtain⟨e,C,dx,y,cv,b,rfl,ry,hy,hx,hd,c,k,q⟩:=h;obtain⟨u,w',rfl,r1,r2⟩:=Uw r;cases r1;rw[hy w' r2];exact n_ I hx hd c k λtk=>⟨.bl b,H,I.tok _,Y,q⟩
def AB.xdict{H H':Hp}{dx:Option Addr}(h:Mj H dx)(s:AB H H'):Mj H' dx:=h.elim .inl λ⟨a,fs,e,x⟩=>.inr ⟨a,fs,e,s _ _ x⟩
section
variable {X:Cx}
end
end L2
namespace L2
open PySem PySem.W PySem.Spec PyProof.Rows
theorem Wo{K:Fg}{H:Hp}:∀ xs:LS,Am K H (xs.map V.str) (xs.map Dat.str)
 | []=>.nil
 | x :: r=>.cons (.str x) (Wo r)
theorem SX:∀ xs:LS,kqdPs (xs.map Dat.str)=xs.map PyData.str
 | []=>by rw[Fw,kqdPs];rfl
 | x :: r=>by rw[Ym,kqdPs,SX r,kqdP];rfl
theorem Sf:∀ xs:LS,PyData.depthAll (xs.map PyData.str)=0
 | []=>by rw[Fw,PyData.depthAll]
 | x :: r=>by rw[Ym,PyData.depthAll,Sf r,PyData.depth];rfl
theorem Sg:∀ xs:LS,PyData.hasDictAll (xs.map PyData.str)=false
 | []=>by rw[Fw,PyData.hasDictAll]
 | x :: r=>by rw[Ym,PyData.hasDictAll,Sg r,PyData.hasDict];rfl
theorem bh:∀ {xs:LS},(∀ x∈xs,x.length<=50/\∀ c∈x.cps.toList,c<16 ^ 8)->((xs.map reprText).map (·.length)).sum<=502 * xs.length
 | [],_=>by simp
 | x :: r,h=>by
  have ih:=bh (xs:=r) λy hy=>h y (by simp[hy]);obtain⟨h1,h2⟩:=h x (by simp);have b:=StrLaws.reprText_len x h2;rw[Ym,Ym,List.sum_cons,Bj];omega
def mP{xs:LS}(h:∀ x∈xs,x.length<=50/\∀ c∈x.cps.toList,c<16 ^ 8)(hl:xs.length<=100):(Str.join ", " (xs.map reprText)).length<=60000:=by
 cases xs with
 | nil=>decide
 | cons a r =>
  have s:=bh h;rw[Ym,len_join_cons ", " (reprText a) (r.map reprText),<- Ym,Ya];have e:(Str.ofString ", ").length=2:=by decide
  rw[e];simp only[Bj]at hl s;omega
section
variable {X:Cx}{e:Expr}{te:TE}{pos:Pos}{k:Nat}
def EI(x:Str):Prop:=x.length<=50/\∀ c∈x.cps.toList,c<16 ^ 8
def sk(K:Fg)(te:TE):TF:=λσ H Q=>te σ H λv H1=>∃(t:Addr) (xs:LS),v=.ref t/\(AJ K H1 t (xs.map V.str)\/SqL K H1 t (xs.map V.str))/\xs.length<=100/\(∀ x∈xs,EI x)/\Q H1
def aQ(hr:AV k X.A)(he:PE X e te):PF X (.FormattedValue e 114 none pos) (sk X.K te):=by
 ac_rfl;refine wpAny_FormattedValue_repr (AK (he pins s σ H _ I h) λv s1 ⟨y,H1,I1,r1,t,xs,ey,ht,hl,hx,q⟩=>?_);subst ey;obtain rfl:v=Value.ref t:=r1;have hu:=hr.units;have hj:=mP hx hl;have fin:∀ z:Str,z.length<=100000->∀ h' u tk,(∀ b o,s1.heap.get? b=some o->h'.get? b=some o)->wpAny (model X.prog X.w) X.A (formatField (.str z u) Str.empty) (λu s'=>∃ y tk H',u=.str y tk/\y.length<=100000/\Inv X pins σ H' s'/\Q H') X.xe {s1 with heap:=h',toks:=tk}:=λz hz h' u tk kp=>by
  have I2:Inv X pins σ H1 {s1 with heap:=h',toks:=tk}:=I1.kept kp;exact wpAny_formatField_str ⟨_,_,H1,Y,hz,I2,q⟩ ⟨_,_,H1,Y,hz,I2.tok _,q⟩ (A6 hz (by decide))
 rcases ht with ht | ht
 ·obtain⟨as,ra⟩:=(Rep.tuple ht (Wo xs)).reads I1 rfl;rw[kqdP,SX]at ra;have sh:(PyData.tuple (xs.map PyData.str)).shown.length<=100000:=by
   rw[PyData.shown_tuple,PyData.shownAll_strs,strLen_append,strLen_append];have e1:(Str.ofString "(").length=1:=by decide
   have e2:(Str.ofString (if(xs.map PyData.str).length == 1 then ",)" else ")")).length<=2:=by split <;> decide
   omega
  refine pyReprObj_of_reads ra ?_ ?_ hr.gd ?_ (λ_ _ z=>z) (λh' u tk kp=>fin _ sh h' u tk kp) (A6 sh (by decide))
  ·rw[PyData.showable,Wv]
  ·rw[PyData.hasDict,Sg];intro z;cases z
  ·rw[PyData.depth,Sf];omega
 ·obtain⟨as,ra⟩:=(Rep.list ht (Wo xs)).reads I1 rfl;rw[kqdP,SX]at ra;have sh:(PyData.list (xs.map PyData.str)).shown.length<=100000:=by
   rw[PyData.shown_list,PyData.shownAll_strs,strLen_append,strLen_append];have e1:(Str.ofString "[").length=1:=by decide
   have e2:(Str.ofString "]").length=1:=by decide
   omega
  refine pyReprObj_of_reads ra ?_ ?_ hr.gd ?_ (λ_ _ z=>z) (λh' u tk kp=>fin _ sh h' u tk kp) (A6 sh (by decide))
  ·rw[PyData.showable,Wv]
  ·rw[PyData.hasDict,Sg];intro z;cases z
  ·rw[PyData.depth,Sf];omega
end
def Ax.or{P:Program}{w:World}{K:Fg}{mg:Str->OU}{base:Heap}{CX:Es}{k:Nat}{ps:LS}{sp Xy:Sp}(F:Ax P w K mg base CX k f fd ps sp)(G:Ax P w K mg base CX k f fd ps Xy):
  Ax P w K mg base CX k f fd ps (λvs H Q E=>sp vs H Q E\/Xy vs H Q E):=
 ⟨λvs H Q E h=>h.elim (F.len vs H Q E) (G.len vs H Q E),λA outer s H args us vs Q E hr he hb hv hs=>hs.elim (F.run A outer s H args us vs Q E hr he hb hv) (G.run A outer s H args us vs Q E hr he hb hv)⟩
end L2
namespace L2
open PySem PySem.Spec PyProof.Rows HT
section
variable {prog:Program}{w:World}{A:Around}{E:EV}{s:Shared}
def qW{t sl:Addr}{items:Array Value}{vl vu:Value}{lo hi:Option Int}{Q:EV}(ht:IsTup s.heap t items)(hs:s.heap.IsSliceOf sl vl vu .none)(pl:IsPart vl lo)(pu:IsPart vu hi)
  (hw:sIx items.size 0 lo=0/\sIx items.size items.size hi=items.size) (h:Q (.ref t) s):wpAny (model prog w) A (getItem (.ref t) (.ref sl)) Q E s:=by
 obtain⟨os,hos,hcs,hds⟩:=id hs;have hTs:s.TypeIs (.ref sl) "slice":=⟨os,hos,hcs⟩;unfold getItem
 try with_reducible refine Jj ?_
 first | refine Ja (Jd ?_) | skip
 refine Ja (wpAny_sequenceKey ht.typeIs (by decide) ?_);refine Ja (wpAny_callSpecial?_slot (name:=Str.ofString "__getitem__") ht.typeIs Nn
  (wpAny_call_entry Nn ht.typeIs entry_tuple_getitem ?_ (args_tuple_getitem _ _)))
 show wpAny _ _ (Builtin.Tuple.tupleItemsOf (.ref t)>>=_) _ _ s;refine Ja (tupleItemsOf_ ht ?_);refine Ja (wpAny_typeOf hTs ?_);rw[if_pos (by decide)];refine Ja (eQ hs pl pu ?_);have yes:(((sIx items.size 0 lo:Nat):Int) == 0&&(1:Int) == 1&&(sIx items.size items.size hi - sIx items.size 0 lo) == items.size)=true:=by
  rw[hw.1,hw.2];simp
 show wpAny _ _ (if(((sIx items.size 0 lo:Nat):Int) == 0&&(1:Int) == 1&&(sIx items.size items.size hi - sIx items.size 0 lo) == items.size)=true then _ else _) _ _ s;rw[if_pos yes];apply Ja;unfold Builtin.Tuple.tupleIsExact;refine Ja (wpAny_typeOf ht.typeIs ?_);apply Jd;rw[if_pos (by decide)];refine Ja (wpAny_rule ?_);refine Jd ?_;exact⟨Z,Jd h⟩
end
def Pf(K:Fg):V->Option Int->Option Int->Hp->VK->Prop:=λx lo hi H Q=>∃ a xs,x=.ref a/\AJ K H a xs /\
 ((sIx xs.length 0 lo=0/\sIx xs.length xs.length hi=xs.length)->Q (.ref a) H)/\(¬ (sIx xs.length 0 lo=0/\sIx xs.length xs.length hi=xs.length)->∀ p,H p=none->Q (.ref p) (upd H p (.tup (DM xs lo hi))))
def VN{X:Cx}:P1 X (Pf X.K):=by
 intro pins s σ H x v vl vu lo hi sl Q I rx hs pl pu h;obtain⟨a,xs,ex,hx,q1,q2⟩:=h;by_cases hw:sIx xs.length 0 lo=0/\sIx xs.length xs.length hi=xs.length
 ·subst ex;cases rx;obtain⟨its,r,ht,hz⟩:=I.tuple hx;have hlen:its.toArray.size=xs.length:=by rw[Yo];exact r.length.symm
  refine⟨"tuple",_,Nn.lookup,ht.typeIs,?_⟩;exact qW ht hs pl pu (by rw[hlen];exact hw) ⟨.ref a,H,I,Y,q1 hw⟩
 ·exact uz pins s σ H x v vl vu lo hi sl Q I rx hs pl pu ⟨a,xs,ex,hx,hw,q2 hw⟩
def vK{xs:LV}{lo hi:Option Int}(h:sIx xs.length 0 lo=0/\sIx xs.length xs.length hi=xs.length):DM xs lo hi=xs:=by
 unfold DM;rw[h.1,h.2,List.drop_zero,Nat.sub_zero,FJ]
def VY{K:Fg}{H:Hp}{a:Addr}{xs:LV}{lo hi:Option Int}{Q:VK}(hx:H a=some (.tup xs))(q:∀ p H',AB H H'->H' p=some (.tup (DM xs lo hi))->Q (.ref p) H'):Pf K (.ref a) lo hi H Q :=
 ⟨a,xs,Y,AJ.of hx,λh=>q a H (AB.refl _) (by rw[vK h];exact hx),λ_ p hp=>q p _ (λb o e=>by rw[AD (AF e hp)];exact e) uS⟩
def Vn{K:Fg}{H:Hp}{a b:Addr}{xs ys:LV}{Q:VK}(hx:H a=some (.tup xs))(hy:H b=some (.tup ys))(hz:xs.length + ys.length<=sizeLine)(q:∀ p H',AB H H'->H' p=some (.tup (xs++ys))->Q (.ref p) H'):gX K (.ref a) (.ref b) H Q :=
 ⟨a,b,xs,ys,Y,Y,AJ.of hx,AJ.of hy,hz,λe=>q b H (AB.refl _) (by rw[e];exact hy),λ_ e=>q a H (AB.refl _) (by rw[e,Fu];exact hx),λ_ _ p hp=>q p _ (λc o e=>by rw[AD (AF e hp)];exact e) uS⟩
def bY(xs:LS)(lo hi:Option Int):∃ ys:LS,DM (xs.map V.str) lo hi=ys.map V.str/\(∀ y∈ys,y∈xs)/\ys.length<=xs.length:=by
 refine⟨((xs.drop (HT.sIx xs.length 0 lo)).take (HT.sIx xs.length xs.length hi - HT.sIx xs.length 0 lo)),?_,λy hy=>Tf (J2 hy),?_⟩
 ·unfold DM;rw[Ya,<- LF,<- Iq]
 ·rw[Yz,Hi];omega
end L2
namespace L2
open PySem PySem.Spec PyProof.Rows
section
variable {X:Cx}
end
end L2
namespace L2
open PySem PySem.Spec PySem.Builtin PySem.Builtin.ObjectAttr PySem.W
structure wQ(K:Fg)(C D:Addr)(a:Str):Prop extends Iu K C where
 lk:∃ nm q N bs sn sub ab col dd k0 k1 k2 k3 k5,K.lookup C=some (excClassObj nm q C N bs [.ref D,.type "ValueError",.type "Exception",.type "BaseException",.type "object"] true sn sub ab col dd k0 k1 k2 k3 k5 "ValueError.__new__")
 sa:W.findIn K (.ref C) "__setattr__"=some (some (.builtin "object.__setattr__"))
 na:W.findIn K (.ref C) a=some none
section
variable {K:Fg}{prog:Program}{w:World}{A:Around}{E:EV}{s:Shared}{C D e t0:Addr}{a:Str}{v:Value}
end
end L2
namespace L2
open PySem PySem.Spec PyProof.Rows
structure x_(K:Fg)(D:Addr):Prop where
 ga:W.specialIn K (.ref D) "__getattribute__"=some (some (.builtin "type.__getattribute__"))
 rd:W.readsIn K D (.type "type")=true
 fi:W.findCls K (.ref D) (.type "type") "__init__"=some (.val (.builtin "ValueError.__init__"))
section
variable {X:Cx}{pins:PL}{σ:St}{H:Hp}{s:Shared}{a:Addr}{φ:Heap->Prop}
end
section
variable {X:Cx}{C D f:Addr}{fd:FuncData}{k:Nat}{x dn a:Str}{np AU pos apos pos':Pos}{e o value:Expr}{es:List Expr}{t:TA}{ta tv:TE}{ps:LS}
end
theorem OY:∀(names:List (Str×NameKind)) (n:Nat) (acc:List (Str×Addr)),cellsFrom n names acc=cellsFrom n names []++acc
 | [],_,_=>rfl
 | (x,k):: r,n,acc=>by
  unfold cellsFrom;split
  ·rw[OY r (n + 1) ((x,n):: acc),OY r (n + 1) [(x,n)],La];rfl
  ·exact OY r n acc
theorem Rv:∀(names:List (Str×NameKind)) (n:Nat) (y:Str×Addr),y∈cellsFrom n names []->(y.1,NameKind.cell)∈names
 | [],_,_,h=>by cases h
 | (x,k):: r,n,y,h=>by
  unfold cellsFrom at h;split at h
  ·rename_i hk
   have FU:k=.cell:=by simpa using hk
   rw[OY]at h
   rcases Yt.mp h with z | z
   ·exact FG _ (Rv r (n + 1) y z)
   ·rw[Yi.mp z,FU];exact Ie
  ·exact FG _ (Rv r n y h)
def mi{M:Model}{A:Around}{E:EV}{s:Shared}{scope:Scope}{globals:Addr}{closure:List (Str×Addr)}{qual:Str}{outer:Env}{builtins:Addr}{Q:Env->Shared->Prop}
  (hQ:∀ h',h'.Ns s.heap.objs.size (λ_=>none)->(∀ b o,s.heap.get? b=some o->h'.get? b=some o)->CellsOk h' (s.heap.objs.size + 1) (cellsFrom (s.heap.objs.size + 1) scope.names []) ->
   Q (newEnv scope s.heap.objs.size globals (cellsFrom (s.heap.objs.size + 1) scope.names []++closure) qual none .none (some outer) builtins) {s with heap:=h' }):
  wpAny M A (newFunctionEnv scope globals closure [] qual none .none (some outer) builtins) Q E s:=by
 simp only[newFunctionEnv,Option.isSome_some,if_true];refine Ja (wpAny_alloc ?_);refine Ja (wpAny_layCells _ (λname kind cells=>by cases hkc:kind == NameKind.cell <;> simp[hkc]) _ _ _ _ ?_);have ok:=cellsFrom_ok scope.names (s.heap.push {cls:=.type "dict",data:=.dict #[] }) (s.heap.objs.size + 1) [] ⟨λ_ _ hm=>(nomatch hm),List.Pairwise.nil⟩ (by rw[Co];exact Yd _);rw[Co]at ok;rw[show({s with heap:=s.heap.push {cls:=.type "dict",data:=.dict #[] } }:Shared).heap.objs.size=s.heap.objs.size + 1 from Co ..];rw[List.forIn_nil];refine Ja (Jd (Jd ?_));have q:=hQ _ ((Heap.Ns.new s.heap (.type "dict")).keeps (pushCells_keeps scope.names _)) (λb o e=>pushCells_keeps _ _ b o (Yc _ e)) ok;rw[OY];exact q
abbrev EA(X:Cx)(scope:Scope)(N:LS)(C:Addr)(s:Shared)(H:Hp)(fp:List Addr):Cx :=
 {X with N:=N,s₀:=s,H₀:=H,env:=compEnvC scope (cellsFrom (C + 1) scope.names []++B0 X.env scope.names []) C X.env,outer:=X.stack,ex:=fp,fn:=λx=>scope.names.lookup x == some .cell,pn:=[],xe:=λ_ _=>False}
structure FD(X:Cx)(scope:Scope)(own frees:LS)(js:LN):Prop where
 calm:X.calm=true
 kind:scope.kind=.function
 cells:∀ y∈scope.names,y.2=.cell->scope.names.lookup y.1=some .cell
 locals:∀ y∈scope.names,y.2=.local->scope.names.lookup y.1=some .local
 fr:∀ y∈scope.names,y.2=.free->X.env.scope.names.lookup y.1=some .cell\/X.env.scope.names.lookup y.1=some .free
 fre:∀ x∈frees,scope.names.lookup x=some .free
 slots:js.map (λj=>X.N[j]?)=frees.map some
section
variable {X:Cx}{pins:PL}{σ:St}{scope:Scope}{own frees:LS}{js:LN}
def FD.clo(c:FD X scope own frees js)(ok:X.Ok):∀ y∈scope.names,y.2=.free->∃ a,X.env.cells.lookup y.1=some a:=λy hy e=>by
 rcases c.fr y hy e with h | h
 ·exact ok.has y.1 (.inl h)
 ·exact ok.has y.1 (.inr h)
def FD.cl(c:FD X scope own frees js)(ok:X.Ok){n:Nat}{x:Str}{a:Addr}(h:(cellsFrom n scope.names []++B0 X.env scope.names []).lookup x=some a):
  ((x,a)∈cellsFrom n scope.names []/\scope.names.lookup x=some .cell)\/X.env.cells.lookup x=some a:=by
 rw[Tb]at h;cases q:(cellsFrom n scope.names []).lookup x with
 | some b =>
  rw[q]at h;cases h;have m:=Dp q;exact .inl ⟨m,c.cells _ (Rv _ _ _ m) rfl⟩
 | none =>
  rw[q]at h;exact .inr (O5 scope.names [] x a (c.clo ok) (λ_ _ z=>by simp at z) h)
def FD.has(c:FD X scope own frees js){n:Nat}{x:Str}(h:scope.names.lookup x=some .free):∃ a,(cellsFrom n scope.names []++B0 X.env scope.names []).lookup x=some a/\(B0 X.env scope.names []).lookup x=some a:=by
 have q:(cellsFrom n scope.names []).lookup x=none:=by
  cases q:(cellsFrom n scope.names []).lookup x with
  | none=>rfl
  | some b =>
   have z:=c.cells _ (Rv _ _ _ (Dp q)) rfl;rw[show scope.names.lookup x=some .cell from z]at h;cases h
 obtain⟨a,ha⟩:=Pj.mp (SE (env:=X.env) scope.names [] x (Dp h));exact⟨a,by rw[Tb,q];exact ha,ha⟩
def FD.hasC{n:Nat}{x:Str}(h:scope.names.lookup x=some .cell):∃ a,(cellsFrom n scope.names []++B0 X.env scope.names []).lookup x=some a:=by
 obtain⟨a,ha⟩:=Pj.mp (W.cellsFrom_some scope.names n [] (.inl h));exact⟨a,by rw[Tb,ha];rfl⟩
theorem FD.ok{s2:Shared}{H2:Hp}{fp:List Addr}{C:Addr}{h':Heap}(c:FD X scope own frees js)(I:Inv X pins σ H2 s2)(f2:∀ b∈fp,BA X pins H2 b)(Ab:∀ b∈fp,b<s2.heap.objs.size)(hC:s2.heap.objs.size<=C)(N:LS)
  (co:CellsOk h' (C + 1) (cellsFrom (C + 1) scope.names [])):(EA X scope N C s2 H2 fp).Ok where
 mod:=I.ok.mod
 kind:=c.kind
 glob:=I.ok.glob
 blt:=I.ok.blt
 above:=hC
 inj:=λx y a h1 h2=>by
  have old:∀ z,X.env.cells.lookup z=some a->a<s2.heap.objs.size:=λz q=>by
   obtain⟨v,r⟩:=I.cell z a q;exact r.lt
  have new:∀ z,(z,a)∈cellsFrom (C + 1) scope.names []->C + 1<=a:=λz q=>(co.empty z a q).2
  rcases c.cl I.ok h1 with⟨z1,_⟩ | z1 <;> rcases c.cl I.ok h2 with⟨z2,_⟩ | z2
  ·exact name_of_addr co.apart z1 z2
  ·exact absurd (Yp (Yp (old _ z2) hC) (Nat.le_of_succ_le (new _ z1))) (FH _)
  ·exact absurd (Yp (Yp (old _ z1) hC) (Nat.le_of_succ_le (new _ z2))) (FH _)
  ·exact I.ok.inj x y a z1 z2
 has:=λx h=>by
  have h':scope.names.lookup x=some .free\/scope.names.lookup x=some .cell:=WQ (env:=X.env) h
  rcases h' with h' | h'
  ·obtain⟨a,z,_⟩:=c.has (n:=C + 1) h';exact⟨a,z⟩
  ·exact FD.hasC h'
 cab:=λx a h h1=>by
  have hx:scope.names.lookup x=some .cell:=by simpa using h
  rcases c.cl I.ok h1 with⟨z,_⟩ | z
  ·have:=(co.empty x a z).2;show s2.heap.objs.size<=a;omega
  ·have q:(cellsFrom (C + 1) scope.names []++B0 X.env scope.names []).lookup x=some a:=h1;obtain⟨b,hb⟩:=Pj.mp (W.cellsFrom_some scope.names (C + 1) [] (.inl hx));rw[Tb,hb]at q;cases q;have:=(co.empty x a (Dp hb)).2;show s2.heap.objs.size<=a;omega
 hd:=λh=>I.ok.hd h
 frames:=I.ok.frames
 stk:=.inl rfl
 exf:=λb hb=>⟨Ys (Yp (Ab b hb) hC),λx a h=>by
  rcases c.cl I.ok h with⟨z,_⟩ | z
  ·exact Cy (Yp (Yp (Ab b hb) hC) (Nat.le_of_succ_le (co.empty x a z).2))
  ·exact(f2 b hb).2.2.2.2.1 x a z⟩
 bs:=I.bs
 bsz:=A6 I.ok.bsz I.sz
 noex:=λb o e hb=>by
  rcases(f2 b hb).2.2.2.1 with z | z
  ·exact I.ok.noex b o e z
  ·exact absurd (Yp (Ye e) (A6 I.ok.bsz z)) (FH _)
 exfs:=λb hb z=>by
  rcases Yr.mp (I.stkSub b z)with e | e
  ·exact(f2 b hb).2.1 e
  ·exact(f2 b hb).2.2.1 e
 funs:=I.stack
 frf:=I.stkFree
def pU{s2:Shared}{tg iter elt:Expr}{ifs:List Expr}{pos:Pos}{g:TG}{tt:TT}{te:TE}{Q:VK}{RR:Value->Addr->Result->Shared->Prop}{itv:Value}{E:EV}
  (c:FD X scope own frees js)
  (hg:∀ C s H fp,PG (EA X scope (own++frees) C s H fp) tg g) (ht:∀ C s H fp,Lh (EA X scope (own++frees) C s H fp) ifs tt) (he:∀ C s H fp,PE (EA X scope (own++frees) C s H fp) elt te)
  (h:Ts X pins σ tg (AR own.length js g tt te σ Q) itv s2)
  (hR:∀ D C H' s',Inv X pins σ H' s'->BA X pins H' C->(∃ m,s'.heap.Ns C m)->Q (.ref D) H'->RR (.ref D) C (.ok .next) s'):
  wpAny (model X.prog X.w) X.A (newList []) (λacc s₃=>wpAny (model X.prog X.w) X.A (newFunctionEnv scope X.env.globals (B0 X.env scope.names []) [] X.env.qual none .none (some X.env)) (λcenv s₄ =>
   codeAny (model X.prog X.w) X.A (.compStart (.ListComp elt [⟨tg,iter,ifs,0⟩] scope pos) 0 itv acc {cenv with scope:=relabel scope X.env}) (RR acc cenv.locals) s₄) E s₃) E s2:=by
 obtain⟨it,fp,tn,J,H2,e,I2,T,Eu,f2,hq⟩:=h;subst e;refine wpAny_newObj_type (mi λh₁ hns₁ kp₁ co₁=>?_);dsimp only at hns₁ kp₁ co₁ ⊢;generalize Ki:s2.heap.push {cls:=.type "list",dict:=none,data:=.seq ([]:LU).toArray}=G2 at hns₁ kp₁ co₁ ⊢;have hC:G2.objs.size=s2.heap.objs.size + 1:=by rw[<- Ki,Co]
 have hDC:s2.heap.objs.size≠G2.objs.size:=by rw[hC];exact Ys (Nat.lt_succ_self _)
 have hCle:s2.heap.objs.size<=G2.objs.size:=by rw[hC];exact Fs _
 have old:∀ b o,s2.heap.get? b=some o->h₁.get? b=some o:=λb o e=>kp₁ b o (Ki ▸ Yc _ e);have hD:H2 s2.heap.objs.size=none:=I2.hok.fresh (Yd _);have Ab:∀ b∈fp,b<s2.heap.objs.size:=λb hb=>by
  obtain⟨o,e,_⟩:=T.obj _ _ Eu b hb;exact Ye e
 have EW:h₁.get? s2.heap.objs.size=some {cls:=.type "list",data:=.seq ([]:LU).toArray}:=kp₁ _ _ (Ki ▸ Yl _ rfl);obtain⟨W,⟨m0,w0⟩,turn⟩:=hq _ hD;have I0:∀ tk,Inv (EA X scope (own++frees) G2.objs.size s2 H2 fp) [] (HC own.length js σ) (upd H2 s2.heap.objs.size (.lst [])) {s2 with heap:=h₁,toks:=tk}:=λtk=>by
  refine⟨c.ok I2 f2 Ab hCle _ co₁,Y,I2.bare,Un.laid old (Yd _) hD,⟨_,hns₁,λi x v h1 h2 h3=>?_⟩,λx a h=>?_,?_,λx a h=>?_,λp hp=>absurd (show p∈([]:PL)from hp) (by simp),I2.hok.laid old (Yd _) ⟨A7 _,[],0,.nil,EW⟩,?_⟩
  ·have hi:own.length<=i:=by
    by_cases hi:i<own.length
    ·unfold HC at h2;rw[LL (by simpa using hi),Wx]at h2;rw[if_pos hi]at h2;cases h2
    ·omega
   have hx:frees[i - own.length]?=some x:=by
    have OJ:(own++frees)[i]?=some x:=h1
    rwa [Ih hi]at OJ
   have OI:(js.map λj=>(σ[j]?).join)[i - own.length]?=some (some v):=by
    unfold HC at h2;rw[Ih (by simpa using hi)]at h2;simpa using h2
   rw[Yf]at OI;obtain⟨j,hj,hjv⟩:=He.mp OI;have hs:=congrArg (λl=>l[i - own.length]?) c.slots;rw[Yf,Yf,hj,hx]at hs;have hNj:X.N[j]?=some x:=Yv hs;have hσ:σ[j]?=some (some v):=by
    cases q:σ[j]? with
    | none=>rw[q]at hjv;cases hjv
    | some o =>
     rw[q]at hjv;have:o=some v:=hjv;rw[this]
   have Ar:=c.fre x (Yh hx);have hXk:=c.fr (x,.free) (Dp Ar) rfl;obtain⟨m,hn,hl⟩:=I2.loc;have vis:Pz X.env.scope x:=by rcases hXk with k | k;exact .inr (.inl k);exact .inr (.inr k)
   obtain⟨u,r,l⟩:=hl j x v hNj hσ vis;refine⟨u,r,.inr ⟨WR (env:=X.env) Ar,?_⟩⟩
   rcases l with⟨hk,_⟩ | ⟨_,a,ha,hcell⟩
   ·rcases hXk with k | k
    ·have hk:X.env.scope.names.lookup x=some .local:=hk;rw[show X.env.scope.names.lookup x=some .cell from k]at hk;cases hk
    ·have hk:X.env.scope.names.lookup x=some .local:=hk;rw[show X.env.scope.names.lookup x=some .free from k]at hk;cases hk
   ·obtain⟨a',RL,jB⟩:=c.has (n:=G2.objs.size + 1) Ar;have e:=O5 scope.names [] x a' (c.clo I2.ok) (λ_ _ z=>by simp at z) jB;rw[ha]at e;cases e;obtain⟨o,ho,hd⟩:=hcell;exact⟨a,RL,o,old a o ho,hd⟩
  ·rcases c.cl I2.ok h with⟨z,_⟩ | z
   ·exact⟨none,(co₁.empty x a z).1⟩
   ·obtain⟨v,o,ho,hd⟩:=I2.cell x a z;exact⟨v,o,old a o ho,hd⟩
  ·show upd H2 s2.heap.objs.size (.lst []) G2.objs.size=none;rw[AD (Yj hDC)];exact I2.hok.fresh hCle
  ·rcases c.cl I2.ok h with⟨z,_⟩ | z
   ·have la:=(co₁.empty x a z).2;have lb:s2.heap.objs.size<a:=Td hCle (Nat.lt_of_succ_le la);rw[AD (Cy lb)];exact I2.hok.fresh (Jx lb)
   ·obtain⟨v,o,ho,hd⟩:=I2.cell x a z;rw[AD (Ys (Ye ho))];exact I2.freeC x a z
  ·rw[aZ,Yx];have:=congrArg List.length c.slots;rw[Ya,Ya]at this;omega
 have stat:∀ {H':Hp},(∀ b∈fp,H' b=none)->∀ b∈fp,BA (EA X scope (own++frees) G2.objs.size s2 H2 fp) [] H' b:=λ{H'} hn b hb=>by
  obtain⟨f0,f1,f3,f4,f5,f6⟩:=f2 b hb;refine⟨hn b hb,Ys (Yp (Ab b hb) hCle),λz=>?_,.inl hb,λx a h=>by
   rcases c.cl I2.ok h with⟨z,_⟩ | z
   ·exact Cy (Yp (Yp (Ab b hb) hCle) (Nat.le_of_succ_le (co₁.empty x a z).2))
   ·exact f5 x a z,λp hp=>absurd (show p∈([]:PL)from hp) (by simp)⟩
  rcases Yr.mp (I2.stkSub b z)with e | e
  ·exact f1 e
  ·exact f3 e
 have loop:∀ s₃:Shared,s₃={s2 with heap:=h₁,toks:=s2.toks} ->
   codeAny (model X.prog X.w) X.A (.compLoop (.ListComp elt [⟨tg,iter,ifs,0⟩] scope pos) 0 (.ref it) (.ref s2.heap.objs.size) (compEnvC scope (cellsFrom (G2.objs.size + 1) scope.names []++B0 X.env scope.names []) G2.objs.size X.env))
    (RR (.ref s2.heap.objs.size) G2.objs.size) s₃:=by
  rintro s₃ rfl;refine eJ (λn s'=>∃ i ys σ' H',Inv (EA X scope (own++frees) G2.objs.size s2 H2 fp) [] σ' H' s'/\tn i s'.heap/\(∀ b∈fp,H' b=none)/\W i n ys σ' H') ?_ m0
   ⟨0,[],_,_,I0 _,T.keep _ _ _ Eu λb _ o e=>old b o e,λb hb=>by rw[AD (Ys (Ab b hb))];exact(f2 b hb).1,w0⟩
  rintro n s3 ⟨i,ys,σ3,H3,I3,JD,JP,w3⟩ E'
  rcases turn i n ys σ3 H3 w3 with⟨stop,qn⟩ | ⟨go,hz,N,hN,step⟩
  ·refine AK (T.done (EA X scope (own++frees) G2.objs.size s2 H2 fp) rfl rfl rfl c.calm i [] s3 σ3 H3 E' I3 (stat JP) JD stop) λr s4 ⟨hr,I4⟩=>?_;subst hr;have back:Inv X pins σ H3 s4:=I2.call' (ch:=fp) I4.os I4.base I4.hok I4.bare λb hb=>⟨(f2 b hb).2.2.2.1,(f2 b hb).2.1,(f2 b hb).2.2.2.2.1,(f2 b hb).2.2.2.2.2⟩;exact hR _ _ H3 s4 back (I2.fpOk hCle I4.free) ⟨_,I4.loc.choose_spec.1⟩ qn
  ·refine AK (T.item (EA X scope (own++frees) G2.objs.size s2 H2 fp) rfl rfl rfl c.calm i [] s3 σ3 H3 E' I3 (stat JP) JD go) λr s4 ⟨u,hr,h4⟩=>?_;subst hr;refine AK h4 λ_ s5 ⟨x,H5,I5,r5,y5,F3,OK⟩=>?_;have P6:=I5.pinned (stat OK) (T.obj _ _ F3);have nof:∀(e:Value) (s':Shared),(EA X scope (own++frees) G2.objs.size s2 H2 fp).xe e s'->E' e s':=λ_ _ z=>False.elim z;refine Jf (hg _ _ _ _ _ s5 σ3 H5 x u _ P6 r5 (step x H5 y5)) (λ_ s6 ⟨σ6,H6,I6,q6⟩=>?_) nof;refine Jf (ht _ _ _ _ _ s6 σ6 H6 _ I6 q6) (λb s7 ⟨H7,I7,q7⟩=>?_) nof;have again:∀ {σ7:St} {H7:Hp} {s7:Shared} {KC:LV},Inv (EA X scope (own++frees) G2.objs.size s2 H2 fp) ([]++Mx fp s5.heap) σ7 H7 s7->N KC σ7 H7 ->
     ∃ m,m<n/\∃ i ys σ' H',Inv (EA X scope (own++frees) G2.objs.size s2 H2 fp) [] σ' H' s7/\tn i s7.heap/\(∀ b∈fp,H' b=none)/\W i m ys σ' H':=λ{σ7 H7 s7 KC} I7 n7=>by
    obtain⟨m',hm,w7⟩:=hN _ _ _ n7;refine⟨m',hm,i + 1,KC,σ7,H7,I7.unpinned,T.keep _ _ _ F3 λb hb o e=>(I7.pin (b,o) (Cq _ (Cq _ (NV hb e)))).1,λb hb=>?_,w7⟩;obtain⟨o,e,d⟩:=T.obj _ _ F3 b hb;exact(I7.pin (b,o) (Cq _ (Cq _ (NV hb e)))).2.1
   cases b with
   | false =>
    rw[if_neg Yq]at q7 ⊢;exact again I7 q7
   | true =>
    rw[if_pos rfl]at q7 ⊢;refine Jf (he _ _ _ _ _ s7 σ6 H7 _ I7 q7) (λv s8 ⟨y,H8,I8,r8,JO,w8⟩=>?_) nof;refine Jf (Hc (X:=EA X scope (own++frees) G2.objs.size s2 H2 fp) _ s8 σ6 H8 (.ref s2.heap.objs.size) [y] (.ref s2.heap.objs.size) [v] (λ_ H9=>H9=upd H8 s2.heap.objs.size (.lst (ys++[y]))) I8 rfl (.cons r8 .nil) ⟨_,ys,y,Y,Y,JO,hz,Y⟩) (λz s9 ⟨_,H9,I9,_,e9⟩=>?_) nof;subst e9;exact again I9 w8
 exact codeAny_compStart_list (loop _ rfl) (T.self X.A 0 _ _ _ (T.keep _ _ _ Eu λb _ o e=>old b o e) (loop _ rfl))
end
section
variable {X:Cx}{scope:Scope}{own frees:LS}{js:LN}{tg iter elt:Expr}{ifs:List Expr}{wi:TI}{g:TG}{tt:TT}{te:TE}{pos:Pos}
def p7{k:Nat}{y:Str}{py spos:Pos}(own frees:LS)(js:LN)(hN:X.N.Nodup)(hk:X.N[k]?=some y)(hy:X.env.scope.names.lookup y=some .local)(hc:X.Ok->FD X scope own frees js)(hi:PI X tg iter wi)
  (hg:∀ C s H fp,PG (EA X scope (own++frees) C s H fp) tg g) (ht:∀ C s H fp,Lh (EA X scope (own++frees) C s H fp) ifs tt) (he:∀ C s H fp,PE (EA X scope (own++frees) C s H fp) elt te)
  (hsw:swapsWith (.ListComp elt [⟨tg,iter,ifs,0⟩] scope pos) (some (.Name y py)) spos.line X.env=pure true:=by rfl)
  (hs:∀ x,foldedSetIterable iter X.env x=pure x:=by intro _;rfl):
  PS X (.Assign [.Name y py] (.ListComp elt [⟨tg,iter,ifs,0⟩] scope pos) spos) (bj k own.length js wi g tt te):=by
 intro pins s σ H D I h;have c:=hc I.ok;rw[exec_Assign_Name_used _ _ _ _ hsw];refine Ja (wpAny_standAt (Ja ?_));show wpAny _ X.A (do let _ <- comprehension (.ListComp elt [⟨tg,iter,ifs,0⟩] scope pos) scope X.env _ (newList []) false (eval iter X.env) (some (assign (.Name y py) X.env))) _ _ s;refine Ja (Jf (wpAny_comprehension_free (use:=some (assign (.Name y py) X.env)) (Q:=λ_ s'=>SP X pins D .next s') rfl hs (WJ (c.clo I.ok)) c.kind c.locals
  (AK (hi pins s σ H _ I h) λxv s₁ h₁=>AK h₁ λit s₂ h₂=>?_)) (λ_ s' hq=>Jd (Jd hq)) λ_ _ e=>e)
 refine pU (RR:=λacc C=>compPost (model X.prog X.w) X.A X.xe (some (assign (.Name y py) X.env)) (λ_ s'=>SP X pins D .next s') acc C) c hg ht he h₂ λA' C H' s' J F n q=>?_;obtain⟨m,hn⟩:=n;obtain⟨f0,f1,f2,f3,f4,f5⟩:=F;show wpAny _ X.A (assign (.Name y py) X.env (.ref A')) _ _ _;refine wpAny_assign_Name (Vx J hN hk (.inl hy) (v:=.ref A') rfl (λBr J' ⟨a,sb,ha⟩=>?_) (.inr hy));have B9:a≠C:=by
  rcases ha with e | e
  ·rw[e];exact Yj f1
  ·exact f4 y a e
 refine⟨m,hn.sameBut sb (Yj B9),λh' JI=>⟨_,H',J'.turned (t':=Br.toks) (λb o hb e=>JI.extBut b o hb e) f0 f1 f3 f4 f5,q⟩⟩
end
def Zs(osc:Scope)(on:LS)(scope:Scope)(frees:LS)(js:LN):Bool :=
 (scope.kind == .function)&&scope.names.all (λy=>y.2 != .cell || scope.names.lookup y.1 == some .cell)&&scope.names.all (λy=>y.2 != .local || scope.names.lookup y.1 == some .local) &&
 scope.names.all (λy=>y.2 != .free || (osc.names.lookup y.1 == some .cell || osc.names.lookup y.1 == some .free))&&frees.all (λx=>scope.names.lookup x == some .free)&&decide (js.map (λj=>on[j]?)=frees.map some)
def ly{X:Cx}{osc scope:Scope}{on own frees:LS}{js:LN}(h:Zs osc on scope frees js=true)(h1:X.env.scope=osc)(h2:X.N=on)(h3:X.calm=true):FD X scope own frees js:=by
 subst h1;subst h2;unfold Zs at h;simp only[Dl,Bc,decide_eq_true_eq,Bool.or_eq_true,bne_iff_ne,beq_iff_eq,ne_eq]at h;obtain⟨⟨⟨⟨⟨a,b⟩,c⟩,d⟩,e⟩,f⟩:=h;exact⟨h3,a,λy hy z=>(b y hy).resolve_left (λq=>q z),λy hy z=>(c y hy).resolve_left (λq=>q z),λy hy z=>(d y hy).resolve_left (λq=>q z),e,f⟩
def sJ(sc osc:Scope):Scope:={sc with names:=sc.names.map λ(n,k)=>if(k == NameKind.free&&osc.kind == .function&&osc.names.lookup n == some .cell)then(n,NameKind.cell)else(n,k) }
def ow:typeLookup (.type "list_reverseiterator") "__len__"=pure none:=by rw[typeLookup_type,builtinLookup_eq_fast];kernel_rfl
def p9:typeLookup (.type "list_reverseiterator") "__length_hint__"=pure (some (.builtin "list_reverseiterator.__length_hint__")):=by rw[typeLookup_type,builtinLookup_eq_fast];kernel_rfl
section
variable {prog:Program}{w:World}{A:Around}{E:EV}{s:Shared}{r:Addr}
def vj{Q:Bool->Shared->Prop}(tr:s.TypeIs (.ref r) "list_reverseiterator")(q:Q false s):wpAny (model prog w) A (Builtin.List.listLengthHint (.ref r)) Q E s:=by
 unfold Builtin.List.listLengthHint;refine Ja (wpAny_specialOf tr ow ?_)
 wp_delta
 refine Ja (wpAny_specialOf tr p9 ?_);generalize hq:("list_reverseiterator.__length_hint__":String)=nm
 wp_delta
 rw[show splitId nm=some ("list_reverseiterator","__length_hint__")from by subst hq;rfl'];subst hq;refine Ja (wpAny_isInstance (T:="list_reverseiterator") (b:=true) tr (by rw[isSubtype_type];kernel_rfl) ?_);refine wpAny_ite_split (λc=>absurd c (by decide)) (λ_=>?_);refine wpAny_ite_split (λ_=>?_) (λc=>absurd (by rfl') c);refine wpAny_ite_split (λc=>absurd c (by rfl')) (λ_=>?_);exact Jd q
def ni{R:Result->Shared->Prop}{l:Addr}{items:Array Value}{c0:Nat}(hh:A.handled=none)(hi:s.heap.IsRevIter r l ((items.size:Int) - 1))(hl:s.heap.IsList l items)(lr:l≠r)(S:Addr)(Sr:S≠r)(Sl:S≠l)(res:Value)(hn:items.size<=sizeLine)
  (eS:s.heap.get? S=some {cls:=.type "list",data:=.seq #[] c0})
  (q:∀ g tk acc c,(∀ b o,b≠S->b≠r->s.heap.get? b=some o->g.get? b=some o)->g.get? S=some {cls:=.type "list",dict:=none,data:=.seq acc c,slots:=#[] }->ItemsOf (λi v=>items[items.size - 1 - i]?=some v) acc items.size->R (.ok (.ret res)) {s with heap:=g,toks:=tk}):
  wpAny (model prog w) A.in1 (Builtin.List.listExtendWith (.ref S) (.ref r) res)
   (λfin s'=>match fin with | .done f=>R (.ok f) s' | .again c'=>c'.quiet=true/\codeAny (model prog w) A c' R s') (λe s'=>R (.error e) s') s:=by
 have W:=Walks.listRev (prog:=prog) (w:=w) (A:=A.in1) hh r l lr items;have nS:S∉[r,l]:=λz=>by
  rcases Yr.mp z with e | e
  ·exact Sr e
  ·exact Sl (Yi.mp e)
 unfold Builtin.List.listExtendWith;refine Ja (wpAny_typeOf hi.typeIs ?_);have n1:Builtin.List.listSameRef (.ref S) (.ref r)=false:=by simp[Builtin.List.listSameRef,Sr]
 have n2:(Value.type "list_reverseiterator" == Value.type "list")=false:=by rfl'
 have n3:(Value.type "list_reverseiterator" == Value.type "tuple")=false:=by rfl'
 simp only[n1,n2,n3,Bool.or_false,Ic,if_false];refine Ja (wpAny_pyIter_revIter hi ?_);refine Ja (Jj (vj hi.typeIs ?_));refine wpAny_ite_split (λc=>absurd c (by rfl')) (λ_=>Jd ⟨plainId_quiet PySem.F.plain_extend_loop _,?_⟩);refine codeAny_extend_loopS W.toS hn S nS res items.size 0 _ #[] c0 rfl (A7 _) ⟨A7 _,?_,hl⟩ eS (ItemsOf.nil _) λs' acc c mv jx ia=>?_
 ·have e0:(items.size:Int) - 1 - ((0:Nat):Int)=(items.size:Int) - 1:=by omega
  rw[e0];exact hi
 ·rw[Moved.eq_with mv];exact q s'.heap s'.toks acc c (λb o b1 b2 e=>mv.heap b o (λz=>by
   rcases Yr.mp z with e' | e'
   ·exact b1 e'
   ·exact b2 (Yi.mp e')) e) jx ia
def vi{Q:EV}{l:Addr}{items:Array Value}(hh:A.handled=none)(hi:s.heap.IsRevIter r l ((items.size:Int) - 1))(hl:s.heap.IsList l items)(lr:l≠r)(hn:items.size<=sizeLine)
  (q:∀ g tk acc c,(∀ b o,b≠r->s.heap.get? b=some o->g.get? b=some o)->g.get? s.heap.objs.size=some {cls:=.type "list",dict:=none,data:=.seq acc c,slots:=#[] }->ItemsOf (λi v=>items[items.size - 1 - i]?=some v) acc items.size->Q (.ref s.heap.objs.size) {s with heap:=g,toks:=tk}):
  wpAny (model prog w) A (call (.type "list") [.ref r]) Q E s:=by
 have rlt:r<s.heap.objs.size:=let⟨_,e,_⟩:=hi;Ye e;have llt:l<s.heap.objs.size:=let⟨_,e,_⟩:=hl;Ye e;refine callType_codes (Q₁:=λx s1=>x=.ref s.heap.objs.size/\s1={s with heap:=s.heap.push {cls:=.type "list",data:=.seq #[] } }) PySem.F.called_list (PySem.F.typeCall_list_1 _) PySem.F.entry_list_init
  (code_list_new _ ⟨Y,Y⟩) λx s1 e1=>?_
 obtain⟨rfl,rfl⟩:=e1;have eS:(s.heap.push {cls:=.type "list",data:=.seq #[] }).get? s.heap.objs.size=some {cls:=.type "list",data:=.seq #[] }:=Yl _ rfl;refine⟨⟨_,eS,Y⟩,PySem.F.args_list_init_2 _ _,?_⟩;show wpAny _ A.in1.in1 (do let old <- Builtin.List.listItems (.ref s.heap.objs.size);Builtin.List.listUpdate (.ref s.heap.objs.size) (λ_=>#[]);letGo old.toList.reverse;Builtin.List.listExtendWith (.ref s.heap.objs.size) (.ref r) .none) _ _ _;refine Ja ?_;unfold Builtin.List.listItems;refine Ja (wpAny_seqItems eS rfl (Jd ?_));show wpAny _ _ (updateSeq s.heap.objs.size (λ_=>#[])>>=λ_=>letGo (#[]:Array Value).toList.reverse>>=λ_=>Builtin.List.listExtendWith (.ref s.heap.objs.size) (.ref r) .none) _ _ _;refine Ja (wpAny_updateSeq eS rfl ?_);have jw:=LY (Obj.mapSeq (λ_=>(#[]:Array Value))) eS rfl;have oth:∀ b o,b<s.heap.objs.size->s.heap.get? b=some o->((s.heap.push {cls:=.type "list",data:=.seq #[] }).update s.heap.objs.size (Obj.mapSeq (λ_=>(#[]:Array Value)))).get? b=some o :=
  λb o hb e=>(Jz _ _ (Cy hb)).trans (Yc _ e)
 refine Ja (wpAny_letGo ?_);refine ni (A:=A.in1) hh (hi.at λo e=>oth r o rlt e) (hl.at λo e=>oth l o llt e) lr _ (Cy rlt) (Cy llt) .none hn jw λg tk acc c k e2 ia=>?_;exact⟨Y,q g tk acc c (λb o hb e=>k b o (Ys (Ye e)) hb (oth b o (Ye e) e)) e2 ia⟩
end
section
variable {X:Cx}
def og{a:Expr}{ta:TE}{p1 p2 Lo C8:Pos}(hc:X.calm=true)(ha:PE X a ta)(UX:Gl X "list")(Kc:X.mg "list"=none)(UW:Gl X "reversed")(UT:X.mg "reversed"=none)
  (hs:starEach [a] X.env=[(false,eval a X.env)]:=by rfl)
  (FQ:starEach [.Call (.Name "reversed" p2) [a] [] C8] X.env=[(false,eval (.Call (.Name "reversed" p2) [a] [] C8) X.env)]:=by rfl):
  PE X (.Call (.Name "list" p1) [.Call (.Name "reversed" p2) [a] [] C8] [] Lo) (λσ H Q=>OT ta Nf σ H λvs H1=>∃ l xs,vs=[.ref l]/\SqL X.K H1 l xs/\∀ p,H1 p=none->Q (.ref p) (upd H1 p (.lst xs.reverse))):=by
 ac_rfl;refine wpAny_Call_Name_kw (Fh I UX Kc FI ?_ (by decide) (by decide));refine Ii ?_ FQ rfl;refine Calls.spliced_cons ?_;refine wpAny_Call_Name_kw (Fh I UW UT PyProof.Rows.boot_reversed ?_ (by decide) (by decide));refine Ii ?_ hs rfl;have pa:PA X [a] (OT ta Nf):=pC ha AA hs;refine AK (pa C8 pins s σ H (λvs H1=>∃ l xs,vs=[.ref l]/\SqL X.K H1 l xs/\∀ p,H1 p=none->Q (.ref p) (upd H1 p (.lst xs.reverse))) I h) λus s1 ⟨vs,H1,I1,r1,q1⟩=>?_;obtain⟨l,xs,e,hS,q⟩:=q1;subst e;obtain⟨u,rfl,ru⟩:=FA r1;cases ru;obtain⟨its,rv,⟨ol,nl,el,cl,dl,dt⟩,hz⟩:=I1.list hS;have il:s1.heap.IsList l its.toArray:=⟨ol,el,cl,nl,dt⟩;have lt:=Ye el;refine call_reversed_list il (Calls.spliced_nil ?_);have nsz:(s1.heap.push (revObj l ((its.toArray.size:Int) - 1))).objs.size=s1.heap.objs.size + 1:=Co ..;have hl:=rv.length;refine vi (I1.ok.hd hc) ⟨_,Yl _ rfl,Y,Y⟩ (il.at λo e=>Yc _ e) (Ys lt) (by rw[Yo,<- hl];exact hz) λg tk acc c k eS ia=>?_;obtain⟨a1,a2⟩:=ia;have fr:H1 (s1.heap.push (revObj l ((its.toArray.size:Int) - 1))).objs.size=none:=I1.hok.fresh (by rw[nsz];omega);refine⟨.ref _,_,I1.laid (o:=.lst xs.reverse) (λb o e=>k b o (Ys (Ye e)) (Yc _ e)) (by rw[nsz];omega) ⟨by rw[Pm];exact hz,acc.toList,c,?_,by simpa using eS⟩,Y,q _ fr⟩;have len:xs.reverse.length=acc.toList.length:=by
  rw[Pm];have e:acc.toList.length=acc.size:=rfl;rw[e,a1,Yo,hl]
 refine R6 len λi v u hv hu=>?_;have A1:=a2 i u (by rw[<- LW];exact hu);have hi:i<xs.length:=by
  have:=(Yn.mp hv).1
  rwa [Pm]at this
 rw[List.getElem?_reverse hi]at hv;obtain⟨u',e1,e2⟩:=rv.get hv;have e3:its.toArray[its.toArray.size - 1 - i]?=some u':=by
  rw[List.getElem?_toArray,Yo,<- hl];exact e1
 rw[e3]at A1;cases A1;exact e2
end
structure xw(K:Fg)(D:Addr):Prop where
 ha:W.findIn K (.ref D) "__class__"=some (some (.builtin "object.__class__"))
 hn:W.specialIn K (.builtin "object.__class__") "__get__"=some (some (.builtin "getset_descriptor.__get__"))
 ht:W.takesIn K (.builtin "object.__class__")=some true
 hm:W.mroIn K D (.type "object")=some true
 ki:W.kitOne K (.ref D) (.ref D)=some true
section
variable {prog:Program}{w:World}{A:Around}
end
section
variable {X:Cx}
end
section
variable {X:Cx}{pins:PL}{σ:St}{H:Hp}{s:Shared}{a:Addr}{o:Obj}{kvs:List (List Key×V)}
end
end L2
namespace L2
open PySem PySem.Spec PySem.Builtin
section
variable {X:Cx}
end
end L2
namespace L2
open PySem PySem.Spec PyProof.Rows
section
variable {X:Cx}{C D f:Addr}{fd:FuncData}{k:Nat}{x dn a:Str}{np AU pos apos pos':Pos}{e o value:Expr}{es:List Expr}{t:TA}{ta tv:TE}{ps:LS}
end
end L2
namespace L2
open PySem PySem.Spec PySem.Builtin
def o_{ss:LS}:∀ {us:LU},AO (ss.map V.str) us->PyProof.Rows.StrsAre us ss:=by
 induction ss with
 | nil=>intro us r;rw[Fw]at r;cases r;exact .nil
 | cons x xs ih =>
  intro us r;rw[Ym]at r;cases r with
  | cons h t =>
   obtain⟨tk,rfl⟩:=h;exact .cons _ _ (ih t)
def oH{ss:LS}{us:LU}(h:PyProof.Rows.StrsAre us ss):AO (ss.map V.str) us:=by
 induction h with
 | nil=>exact .nil
 | cons y t h ih=>exact .cons ⟨t,Y⟩ ih
section
variable {X:Cx}
def Se:Eg X (.builtin "sorted") (λxs H Q=>∃ p ss,xs=[.ref p]/\SqL X.K H p (ss.map V.str)/\ss.length<64/\∀(KG:LS) l,KG.Perm ss->PyProof.Rows.sortedS KG=true->H l=none->Q (.ref l) (upd H l (.lst (KG.map V.str)))):=by
 intro pins s σ H xs us Q I r h;obtain⟨p,ss,rfl,hq,D8,q⟩:=h;obtain⟨u,rfl,rx⟩:=FA r;cases rx;obtain⟨its,r',pl,hz⟩:=I.list hq;have hlen:=r'.length;rw[Ya]at hlen;refine PyProof.Rows.sorted_strs pl.isList (o_ r') (by omega) λout KG a1 a2 a3=>?_;obtain⟨e,he⟩:=PyProof.Rows.sortedAll_at s.heap its out;have DC:(KG.map V.str).length<=sizeLine:=by
  rw[Ya,a2.length_eq];rw[Ya]at hz;exact hz
 exact⟨.ref (s.heap.objs.size + 1),_,I.laid (t':=s.toks) (λb o eb=>PyProof.Rows.sortedAll_old eb) (Fs _) (show A2 X.prog X.w _ _ _ (.lst (KG.map V.str))from⟨DC,out.toList,e,oH a1,he⟩),Y,q KG _ a2 a3 (I.hok.fresh (Fs _))⟩
end
theorem Vd:∀ {a b:LN},¬ a<b->¬ b<a->a=b
 | [],[],_,_=>rfl
 | [],y :: b,h,_=>absurd (List.Lex.nil:List.Lex (·<·) [] (y :: b)) h
 | x :: a,[],_,h=>absurd (List.Lex.nil:List.Lex (·<·) [] (x :: a)) h
 | x :: a,y :: b,h,k=>by
  rcases Nat.lt_trichotomy x y with z | z | z
  ·exact absurd (List.Lex.rel z:List.Lex (·<·) (x :: a) (y :: b)) h
  ·subst z;rw[Vd (a:=a) (b:=b) (λz=>h (List.Lex.cons z)) (λz=>k (List.Lex.cons z))]
  ·exact absurd (List.Lex.rel z:List.Lex (·<·) (y :: b) (x :: a)) k
def F6(a b:Str):Prop:=¬ b.cps.toList<a.cps.toList
def mV{a b c:Str}(h:F6 a b)(k:F6 b c):F6 a c:=λz=>by
 by_cases e:a.cps.toList<b.cps.toList
 ·exact k (List.lt_trans z e)
 ·have:=Vd e h;unfold F6 at k;rw[<- this]at k;exact k z
def lN{a b:Str}(h:F6 a b)(k:F6 b a):a=b:=by
 have:=Vd k h;cases a with
 | mk a=>cases b with
  | mk b =>
   congr 1
   exact Array.toList_inj.mp this
theorem cj:∀ {p:Str}{l:LS},PyProof.Rows.risingS p l=true->(p :: l).Pairwise F6
 | p,[],_=>Dn.mpr ⟨(λ_ h=>nomatch h),List.Pairwise.nil⟩
 | p,x :: r,h=>by
  have h':(!ltCps x.cps.toList p.cps.toList&&PyProof.Rows.risingS x r)=true:=h;rw[Dl]at h';have ih:=cj h'.2;have px:F6 p x:=λz=>by
   have e:=h'.1;rw[PyProof.Rows.ltCps_eq,Jb z]at e;cases e
  refine Dn.mpr ⟨λy hy=>?_,ih⟩
  rcases Yr.mp hy with rfl | hy
  ·exact px
  ·exact mV px ((Dn.mp ih).1 y hy)
def cq:∀ {l:LS},PyProof.Rows.sortedS l=true->l.Pairwise F6
 | [],_=>.nil
 | _ :: _,h=>cj h
theorem cZ:∀ {a b:LS},a.Pairwise F6->b.Pairwise F6->a.Perm b->a=b
 | [],b,_,_,p=>(List.Perm.nil_eq p)
 | x :: a,[],_,_,p=>absurd p.length_eq (by simp)
 | x :: a,y :: b,h,k,p=>by
  have e:x=y:=by
   have hx:x∈y :: b:=p.mem_iff.mp (by simp);have hy:y∈x :: a:=p.mem_iff.mpr (by simp)
   rcases Yr.mp hx with e | hx
   ·exact e
   rcases Yr.mp hy with e | hy
   ·exact e.symm
   exact lN ((Dn.mp h).1 y hy) ((Dn.mp k).1 x hx)
  subst e;rw[cZ (Dn.mp h).2 (Dn.mp k).2 ((List.perm_cons x).mp p)]
def eB{a b:LS}(h:PyProof.Rows.sortedS a=true)(k:PyProof.Rows.sortedS b=true)(p:a.Perm b):a=b:=cZ (cq h) (cq k) p
def i9(k:Str)(v:Value):Bool:=match v with
 | .str i _=>i.cps.toList == k.cps.toList
 | _=>false
def ub{ms:LS}{its:LU}(r:AO (ms.map V.str) its){m:Nat}{u:Value}(h:its[m]?=some u):∃ i t,ms[m]?=some i/\u=.str i t:=by
 have hl:=r.length;rw[Ya]at hl;have hm:m<ms.length:=by have:=(Yn.mp h).1;omega
 have hx:(ms.map V.str)[m]?=some (V.str ms[m]):=by rw[Yf,Yb hm];rfl
 obtain⟨u',A1,ru⟩:=r.get hx;rw[h]at A1;cases A1;obtain⟨t,e⟩:=(show ∃ t,u=Value.str ms[m] t from ru);exact⟨ms[m],t,Yb hm,e⟩
theorem dQ:∀ {ms:LS}{k:Str}{m:Nat},m<ms.idxOf k->ms[m]?≠some k
 | [],k,m,h=>by simp
 | a :: r,k,m,h=>by
  rw[List.idxOf_cons]at h;by_cases e:a=k
  ·simp[e]at h
  ·have e':(a == k)=false:=by simpa using e
   rw[e']at h;cases m with
   | zero=>simp[e]
   | succ m =>
    rw[List.getElem?_cons_succ];exact dQ (by simpa using h)
theorem dM:∀(ms:LS) (k:Str),ms.eraseIdx (ms.idxOf k)=ms.erase k
 | [],k=>by simp
 | a :: r,k=>by
  rw[List.idxOf_cons,List.erase_cons];by_cases e:a=k
  ·simp[e]
  ·have e':(a == k)=false:=by simpa using e
   rw[e',if_neg (by decide)];simp only[cond_false,TZ];rw[dM r k]
def mB{a b:Str}(h:a.cps.toList=b.cps.toList):a=b:=by
 cases a with
 | mk a=>cases b with
  | mk b =>
   congr 1
   exact Array.toList_inj.mp h
section
variable {X:Cx}
def lF:V->LV->Hp->VK->Prop:=λx vs H Q=>∃(l:Addr) (ms:LS) (k:Str),x=.ref l/\vs=[.str k]/\H l=some (.lst (ms.map V.str))/\k∈ms/\Q .non (upd H l (.lst ((ms.erase k).map V.str)))
def pK:Li X "list.remove" lF:=by
 intro pins s σ H x vs v us Q I rx rv h;obtain⟨l,ms,k,rfl,rfl,hH,hk,q⟩:=h;cases rx;obtain⟨u,rfl,ru⟩:=rv.one;obtain⟨t,rfl⟩:=ru;obtain⟨z,its,n,r,hl,e⟩:=I.lstM hH;have JK:its.length=ms.length:=by rw[<- hl,Ya]
 have hj:ms.idxOf k<ms.length:=List.idxOf_lt_length_of_mem hk;have get:∀ m (hm:m<its.toArray.size),∃ t,its.toArray[m]=.str (ms[m]'(by simp at hm;omega)) t:=λm hm=>by
  have JJ:m<its.length:=by simpa using hm
  obtain⟨i,t,h1,h2⟩:=ub r (Yb JJ);have e1:ms[m]'(by omega)=i:=Yv ((Yb (by omega)).symm.trans h1);refine⟨t,?_⟩;rw[e1];simpa using h2
 refine call_meets PySem.F.slot_list_remove ⟨_,e,Y⟩ PySem.F.entry_list_remove (PySem.F.args_list_remove_2 _ _)
  (MeetsSeq.list_remove l its.toArray n (.str k t) (i9 k) (λy hy=>?_) (ms.idxOf k) (by simp;omega) ?_ (λm hm Ab=>?_) (by simp;omega)) ⟨e,?_⟩
 ·obtain⟨m,hm,e'⟩:=Array.getElem_of_mem hy;obtain⟨t',e2⟩:=get m hm;rw[<- e',e2];exact SeqRoads2.EqGives.str _ _ _ _
 ·obtain⟨t',e2⟩:=get (ms.idxOf k) (by simp;omega);rw[e2];show(ms[ms.idxOf k].cps.toList == k.cps.toList)=true;rw[List.getElem_idxOf hj];simp
 ·obtain⟨t',e2⟩:=get m hm;rw[e2];have JJ:m<ms.length:=by simp at hm;omega
  show(ms[m].cps.toList == k.cps.toList)=false;have:ms[m]≠k:=λz=>dQ Ab (by rw[Yb JJ,z]);rw[beq_eq_false_iff_ne];intro z;exact this (mB z)
 ·refine⟨.non,_,I.lset (its':=its.eraseIdx (ms.idxOf k)) (ys:=(ms.map V.str).eraseIdx (ms.idxOf k)) hH e ?_ (r.eraseIdx _) ?_,Y,?_⟩
  ·show its.toArray.eraseIdxIfInBounds _=(its.eraseIdx _).toArray;rw[Wy]
  ·have:=Vv (ms.map V.str) (ms.idxOf k);omega
  ·rw[SS,dM];exact q
end
end L2
namespace L2
open PySem PySem.Spec PyProof.Rows
structure xu(h:Heap)(z ti to i1 i2 l1 l2:Addr)(k:Nat)(f:Value):Prop where
 z:IsZip h z ti to f
 ti:IsPair h ti (.ref i1) (.ref i2)
 to:∃ a b,IsPair h to a b
 i1:h.IsListIter i1 l1 k
 i2:h.IsListIter i2 l2 k
section
variable {prog:Program}{w:World}{A:Around}{E:EV}{s:Shared}
end
section
variable {X:Cx}
end
def pz{ns:List Int}{us:LU}(h:IntsAre us ns):AO (ns.map V.int) us:=by
 induction h with
 | nil=>exact .nil
 | cons y t h ih=>exact .cons ⟨t,Y⟩ ih
section
variable {X:Cx}
def dG:Eg X (.builtin "sorted") (λxs H Q=>∃ p ns,xs=[.ref p]/\SqL X.K H p (ns.map V.int)/\ns.length<64/\∀(KJ:List Int) l,KJ.Perm ns->KJ.Pairwise (·<=·)->H l=none->Q (.ref l) (upd H l (.lst (KJ.map V.int)))):=by
 intro pins s σ H xs us Q I r h;obtain⟨p,ns,rfl,hq,D8,q⟩:=h;obtain⟨u,rfl,rx⟩:=FA r;cases rx;obtain⟨its,r',pl,hz⟩:=I.list hq;have hlen:=r'.length;rw[Ya]at hlen;refine sorted_ints pl.isList (V5 r') (by omega) λout KJ a1 a2 a3=>?_;obtain⟨e,he⟩:=sortedAll_at s.heap its out;have DC:(KJ.map V.int).length<=sizeLine:=by
  rw[Ya,a2.length_eq];rw[Ya]at hz;exact hz
 exact⟨.ref (s.heap.objs.size + 1),_,I.laid (t':=s.toks) (λb o eb=>sortedAll_old eb) (Fs _) (show A2 X.prog X.w _ _ _ (.lst (KJ.map V.int))from⟨DC,out.toList,e,pz a1,he⟩),Y,q KJ _ a2 a3 (I.hok.fresh (Fs _))⟩
end
theorem WC:∀ {a b:List Int},a.Pairwise (·<=·)->b.Pairwise (·<=·)->a.Perm b->a=b
 | [],b,_,_,p=>(List.Perm.nil_eq p)
 | x :: a,[],_,_,p=>absurd p.length_eq (by simp)
 | x :: a,y :: b,h,k,p=>by
  have e:x=y:=by
   have hx:x∈y :: b:=p.mem_iff.mp (by simp);have hy:y∈x :: a:=p.mem_iff.mpr (by simp)
   rcases Yr.mp hx with e | hx
   ·exact e
   rcases Yr.mp hy with e | hy
   ·exact e.symm
   have:=(Dn.mp h).1 y hy;have:=(Dn.mp k).1 x hx;omega
  subst e;rw[WC (Dn.mp h).2 (Dn.mp k).2 ((List.perm_cons x).mp p)]
section
variable {prog:Program}{w:World}{A:Around}{E:EV}{s:Shared}
structure Fn(h:Heap)(z ti to i1 i2 l1 l2:Addr)(k:Nat)(f:Value):Prop where
 z:IsZip h z ti to f
 ti:IsPair h ti (.ref i1) (.ref i2)
 to:∃ a b,IsPair h to a b
 i1:h.IsTupleIter i1 l1 k
 i2:h.IsListIter i2 l2 k
theorem Fn.at{h h':Heap}{z ti to i1 i2 l1 l2:Addr}{k:Nat}{f:Value}(x:Fn h z ti to i1 i2 l1 l2 k f)(e:∀ b∈[z,ti,to,i1,i2],∀ o,h.get? b=some o->h'.get? b=some o):Fn h' z ti to i1 i2 l1 l2 k f :=
 ⟨e z (by simp) _ x.z,e ti (by simp) _ x.ti,let⟨a,b,y⟩:=x.to;⟨a,b,e to (by simp) _ y⟩,x.i1.at λo q=>e i1 (by simp) o q,x.i2.at λo q=>e i2 (by simp) o q⟩
def oJ{z ti to i1 i2 l1 l2:Addr}{k:Nat}{xs ys:Array Value}{x y:Value}{Q:EV}(D:ZipApart z ti to i1 i2 l1 l2)(st:Fn s.heap z ti to i1 i2 l1 l2 k .none)
  (t1:s.heap.IsTuple l1 xs) (t2:s.heap.IsList l2 ys) (hx:xs[k]?=some x) (hy:ys[k]?=some y)
  (q:∀ g,Fn g z ti to i1 i2 l1 l2 (k + 1) (rawInt s.heap.objs.size)->IsPair g s.heap.objs.size x y->(∀ c o,c≠z->c≠to->c≠i1->c≠i2->s.heap.get? c=some o->g.get? c=some o)->Q (.ref s.heap.objs.size) {s with heap:=g}):
  wpAny (model prog w) A (Builtin.«zip.__next__» ⟨[.ref z],[]⟩) (λfin s'=>∃ v,fin=.done (.ret v)/\Q v s') E s:=by
 obtain⟨hz,hti,⟨a,b,hto⟩,Ef,Cd⟩:=st;show wpAny _ _ (field (.ref z) 2>>=_) _ _ _;refine Ja (Jg hz rfl (x:=.bool false) rfl ?_);show wpAny _ _ (field (.ref z) 3>>=_) _ _ _;refine Ja (Jg hz rfl (x:=.ref ti) rfl (Ja (wpAny_seqItems hti rfl ?_)));show wpAny _ _ (Builtin.SmallTypes.ownedTupleIsFree (.ref z)>>=_) _ _ _;refine Ja ?_;unfold Builtin.SmallTypes.ownedTupleIsFree;refine Ja (Jg hz rfl (x:=.none) rfl (Jd ?_));simp only[if_true];refine Ja (wpAny_rule (Ja (Jg hz rfl (x:=.ref to) rfl (Ja (wpAny_setField_rec hz (by simp) λg1 z1 e1=>?_)))));replace z1:IsZip g1 z ti to .ellipsis:=z1;refine Ja ?_;simp only[List.zipIdx_cons,List.zipIdx_nil,LP,List.forIn_nil];refine Ja (Ja (wpAny_onRaise ?_));show wpAny _ _ (Builtin.SmallTypes.nextOf (.ref i1)>>=_) _ _ _;refine Ja (NX (Ef.extBut e1.extBut D.i1z) (t1.extBut e1.extBut D.l1z) hx λg2 j1 e2=>Jd ?_);have to2:IsPair g2 to a b:=e2.extBut _ _ D.TOi1 (e1.extBut _ _ D.TOz hto);refine Ja (wpAny_seqItems to2 rfl (Ja (wpAny_updateSeq_pair to2 λg3 to3 e3=>?_)));replace to3:IsPair g3 to x b:=to3;refine Ja (wpAny_letGo (Jd (Ja (Ja (wpAny_onRaise ?_)))));show wpAny _ _ (Builtin.SmallTypes.nextOf (.ref i2)>>=_) _ _ _;refine Ja (wpAny_nextOf_list_item (((Cd.extBut e1.extBut D.i2z).extBut e2.extBut D.i12.symm).extBut e3.extBut D.TOi2.symm) (((t2.extBut e1.extBut D.l2z).extBut e2.extBut D.l2i1).extBut e3.extBut D.l2TO) hy λg4 j2 e4=>Jd ?_);have Nw:IsPair g4 to x b:=e4.extBut _ _ D.TOi2 to3;refine Ja (wpAny_seqItems Nw rfl (Ja (wpAny_updateSeq_pair Nw λg5 Hl e5=>?_)));replace Hl:IsPair g5 to x y:=Hl;refine Ja (wpAny_letGo (Jd (Jd (Ja (wpAny_seqItems Hl rfl (Ja (wpAny_newTuple ?_)))))));have sz:g5.objs.size=s.heap.objs.size:=by rw[e5.1,e4.1,e3.1,e2.1,e1.1]
 have z5:IsZip g5 z ti to .ellipsis:=e5.extBut _ _ D.TOz.symm (e4.extBut _ _ D.i2z.symm (e3.extBut _ _ D.TOz.symm (e2.extBut _ _ D.i1z.symm z1)));have k5:∀ c o,c≠z->c≠to->c≠i1->c≠i2->s.heap.get? c=some o->g5.get? c=some o:=λc o c1 c2 c3 c4 e=>e5.extBut _ _ c2 (e4.extBut _ _ c4 (e3.extBut _ _ c2 (e2.extBut _ _ c3 (e1.extBut _ _ c1 e))));have UR:g5.IsTupleIter i1 l1 (k + 1):=((j1.extBut e3.extBut D.TOi1.symm).extBut e4.extBut D.i12).extBut e5.extBut D.TOi1.symm;have UQ:g5.IsListIter i2 l2 (k + 1):=j2.extBut e5.extBut D.TOi2.symm;have zlt:z<g5.objs.size:=Ye z5;show wpAny _ _ (Builtin.SmallTypes.ownedTupleHandOut (.ref z) (.ref g5.objs.size)>>=_) _ _ _;refine Ja ?_;unfold Builtin.SmallTypes.ownedTupleHandOut;have z6:IsZip (g5.push {cls:=.type "tuple",data:=.seq #[x,y] }) z ti to .ellipsis:=Yc _ z5;refine Ja (wpAny_setField_rec z6 (by simp) λg7 z7 e7=>?_);replace z7:IsZip g7 z ti to (rawInt g5.objs.size):=z7;refine wpAny_setField_rec z7 (by simp) λg8 z8 e8=>?_;replace z8:IsZip g8 z ti to (rawInt g5.objs.size):=z8;have up:∀ c o,c≠z->g5.get? c=some o->g8.get? c=some o:=λc o c1 e=>e8.extBut _ _ c1 (e7.extBut _ _ c1 (Yc _ e));have p8:IsPair g8 g5.objs.size x y:=e8.extBut _ _ (Cy zlt) (e7.extBut _ _ (Cy zlt) (Yl _ rfl));rw[sz]at z8 p8;refine Jd ⟨Z,?_⟩;show Q (.ref g5.objs.size) _;rw[sz];exact q g8 ⟨z8,up _ _ D.TIz (k5 _ _ D.TIz D.TITO D.TIi1 D.TIi2 hti),⟨x,y,up _ _ D.TOz Hl⟩,UR.at λo e=>up _ o D.i1z e,UQ.at λo e=>up _ o D.i2z e⟩ p8 λc o c1 c2 c3 c4 e=>up c o c1 (k5 c o c1 c2 c3 c4 e)
def oI{z ti to i1 i2 l1 l2:Addr}{k:Nat}{xs ys:Array Value}{Q:Fin->Shared->Prop}(hh:A.handled=none)(D:ZipApart z ti to i1 i2 l1 l2)(st:Fn s.heap z ti to i1 i2 l1 l2 k .none)
  (t1:s.heap.IsTuple l1 xs) (t2:s.heap.IsList l2 ys) (CK:xs[k]?=none\/ys[k]?=none)
  (q:∀ g e,(∀ c o,c≠z->c≠to->c≠i1->c≠i2->s.heap.get? c=some o->g.get? c=some o)->(∃ o,g.get? e=some o/\o.cls=.type "StopIteration")->E (.ref e) {s with heap:=g}):
  wpAny (model prog w) A (Builtin.«zip.__next__» ⟨[.ref z],[]⟩) Q E s:=by
 obtain⟨hz,hti,⟨a,b,hto⟩,Ef,Cd⟩:=st;show wpAny _ _ (field (.ref z) 2>>=_) _ _ _;refine Ja (Jg hz rfl (x:=.bool false) rfl ?_);show wpAny _ _ (field (.ref z) 3>>=_) _ _ _;refine Ja (Jg hz rfl (x:=.ref ti) rfl (Ja (wpAny_seqItems hti rfl ?_)));show wpAny _ _ (Builtin.SmallTypes.ownedTupleIsFree (.ref z)>>=_) _ _ _;refine Ja ?_;unfold Builtin.SmallTypes.ownedTupleIsFree;refine Ja (Jg hz rfl (x:=.none) rfl (Jd ?_));simp only[if_true];refine Ja (wpAny_rule (Ja (Jg hz rfl (x:=.ref to) rfl (Ja (wpAny_setField_rec hz (by simp) λg1 z1 e1=>?_)))));replace z1:IsZip g1 z ti to .ellipsis:=z1;refine Ja ?_;simp only[List.zipIdx_cons,List.zipIdx_nil,LP,List.forIn_nil];refine Ja (Ja (wpAny_onRaise ?_));show wpAny _ _ (Builtin.SmallTypes.nextOf (.ref i1)>>=_) _ _ _;cases hx:xs[k]? with
 | none =>
  refine Ja (O_ hh (Ef.extBut e1.extBut D.i1z) (t1.extBut e1.extBut D.l1z) hx λg2 e e2 he=>?_);obtain⟨oe,ho,hc⟩:=he;have z2:IsZip g2 z ti to .ellipsis:=e2 _ _ D.i1z.symm z1;have ez:e≠z:=λx=>by subst x;rw[z2]at ho;cases ho;simp at hc
  exact wpAny_setField_rec z2 (by simp) λg3 _ e3=>q g3 e (λc o c1 _ c3 _ x=>e3.extBut _ _ c1 (e2 _ _ c3 (e1.extBut _ _ c1 x))) ⟨oe,e3.extBut _ _ ez ho,hc⟩
 | some x =>
  have hy:ys[k]?=none:=by rcases CK with h | h;rw[hx]at h;cases h;exact h
  refine Ja (NX (Ef.extBut e1.extBut D.i1z) (t1.extBut e1.extBut D.l1z) hx λg2 j1 e2=>Jd ?_);have to2:IsPair g2 to a b:=e2.extBut _ _ D.TOi1 (e1.extBut _ _ D.TOz hto);refine Ja (wpAny_seqItems to2 rfl (Ja (wpAny_updateSeq_pair to2 λg3 to3 e3=>?_)));refine Ja (wpAny_letGo (Jd (Ja (Ja (wpAny_onRaise ?_)))));show wpAny _ _ (Builtin.SmallTypes.nextOf (.ref i2)>>=_) _ _ _;refine Ja (wpAny_nextOf_list_end hh (((Cd.extBut e1.extBut D.i2z).extBut e2.extBut D.i12.symm).extBut e3.extBut D.TOi2.symm) (((t2.extBut e1.extBut D.l2z).extBut e2.extBut D.l2i1).extBut e3.extBut D.l2TO) hy λg4 e e4 he=>?_);obtain⟨oe,ho,hc⟩:=he;have z4:IsZip g4 z ti to .ellipsis:=e4 _ _ D.i2z.symm (e3.extBut _ _ D.TOz.symm (e2.extBut _ _ D.i1z.symm z1));have ez:e≠z:=λx=>by subst x;rw[z4]at ho;cases ho;simp at hc
  exact wpAny_setField_rec z4 (by simp) λg5 _ e5=>q g5 e (λc o c1 c2 c3 c4 x=>e5.extBut _ _ c1 (e4 _ _ c4 (e3.extBut _ _ c2 (e2.extBut _ _ c3 (e1.extBut _ _ c1 x))))) ⟨oe,e5.extBut _ _ ez ho,hc⟩
def qL{z ti to i1 i2 l1 l2:Addr}{k:Nat}{xs ys:Array Value}{x y:Value}{Q:OU->Shared->Prop}(D:ZipApart z ti to i1 i2 l1 l2)(st:Fn s.heap z ti to i1 i2 l1 l2 k .none)
  (t1:s.heap.IsTuple l1 xs) (t2:s.heap.IsList l2 ys) (hx:xs[k]?=some x) (hy:ys[k]?=some y)
  (q:∀ g,Fn g z ti to i1 i2 l1 l2 (k + 1) (rawInt s.heap.objs.size)->IsPair g s.heap.objs.size x y->(∀ c o,c≠z->c≠to->c≠i1->c≠i2->s.heap.get? c=some o->g.get? c=some o)->Q (some (.ref s.heap.objs.size)) {s with heap:=g}):
  wpAny (model prog w) A (pyNext (.ref z)) Q E s:=by
 have hT:s.TypeIs (.ref z) "zip":=⟨_,st.z,Y⟩;unfold pyNext;exact Ja (wpAny_attempt (wpAny_callSpecial?_slot (name:=Str.ofString "__next__") hT Ju (wpAny_call_entry Ju hT Tn (oJ D st t1 t2 hx hy λg a1 a2 a3=>Jd (q g a1 a2 a3)) (TY _))))
def qK{z ti to i1 i2 l1 l2:Addr}{k:Nat}{xs ys:Array Value}{Q:OU->Shared->Prop}(hh:A.handled=none)(D:ZipApart z ti to i1 i2 l1 l2)(st:Fn s.heap z ti to i1 i2 l1 l2 k .none)
  (t1:s.heap.IsTuple l1 xs) (t2:s.heap.IsList l2 ys) (CK:xs[k]?=none\/ys[k]?=none)
  (q:∀ g,(∀ c o,c≠z->c≠to->c≠i1->c≠i2->s.heap.get? c=some o->g.get? c=some o)->Q none {s with heap:=g}):wpAny (model prog w) A (pyNext (.ref z)) Q E s:=by
 have hT:s.TypeIs (.ref z) "zip":=⟨_,st.z,Y⟩;unfold pyNext;refine Ja (wpAny_attempt (wpAny_callSpecial?_slot (name:=Str.ofString "__next__") hT Ju (wpAny_call_entry Ju hT Tn (oI hh D st t1 t2 CK λg e hk he=>?_) (TY _))));obtain⟨o,ho,hc⟩:=he;refine Ja (wpAny_isInstance (T:="StopIteration") (b:=true) ⟨o,ho,hc⟩ isSubtype_stop ?_);exact Jd (q _ hk)
abbrev Qj(h:Heap)(l1:Addr):Heap:=h.push {cls:=.type "tuple_iterator",data:=.fields #[.ref l1,.int 0 0] }
abbrev Qi(h:Heap)(l1 l2:Addr):Heap:=(Qj h l1).push {cls:=.type "list_iterator",data:=.fields #[.ref l2,.int 0 0] }
abbrev Qh(h:Heap)(l1 l2:Addr):Heap:=(Qi h l1 l2).push {cls:=.type "tuple",data:=.seq #[.ref h.objs.size,.ref (Qj h l1).objs.size] }
abbrev Qg(h:Heap)(l1 l2:Addr):Heap:=(Qh h l1 l2).push {cls:=.type "tuple",data:=.seq #[.none,.none] }
abbrev ML(h:Heap)(l1 l2:Addr):Heap:=(Qg h l1 l2).push {cls:=.type "zip",data:=.fields #[.none,.bool false,.bool false,.ref (Qi h l1 l2).objs.size,.ref (Qh h l1 l2).objs.size] }
def pI(l1 l2:Addr)(xs ys:Array Value):Meets (Builtin.«zip.__new__» ⟨[.type "zip",.ref l1,.ref l2],[]⟩) (λ_ R s=>s.heap.IsTuple l1 xs/\s.heap.IsList l2 ys /\
   R (.ok (.ret (.ref (Qg s.heap l1 l2).objs.size))) {s with heap:=ML s.heap l1 l2}):=
 .of_wp λprog w A R s h=>by
  obtain⟨hp,g,d,tk,os⟩:=s;obtain⟨t1,t2,h⟩:=h;have hsub:=sub_zip;have T1:Heap.IsTuple (Shared.heap ⟨hp,g,d,tk,os⟩) l1 xs:=t1;have T2:Heap.IsList (Shared.heap ⟨hp.push {cls:=.type "tuple_iterator",data:=.fields #[.ref l1,.int 0 0] },g,d,tk,os⟩) l2 ys:=Heap.IsList.push t2 _
  wp_walk using wpAny_pyIter_tuple T1,wpAny_pyIter_list T2
  exact⟨Z,h⟩
def lZ{l1 l2:Addr}{xs ys:Array Value}{Q:EV}(t1:s.heap.IsTuple l1 xs)(t2:s.heap.IsList l2 ys)
  (q:∀ g,Fn g (s.heap.objs.size + 4) (s.heap.objs.size + 2) (s.heap.objs.size + 3) s.heap.objs.size (s.heap.objs.size + 1) l1 l2 0 .none->(∀ c o,s.heap.get? c=some o->g.get? c=some o)->Q (.ref (s.heap.objs.size + 4)) {s with heap:=g}):
  wpAny (model prog w) A (call (.type "zip") [.ref l1,.ref l2]) Q E s:=by
 refine callType_new PySem.F.called_zip (by decide) (PySem.F.typeCall_zip_2 _ _) (PySem.F.newCall_zip_2 _ _) (λobj=>PySem.F.args_object_init_3 obj _ _) PySem.F.entry_zip_new (pI l1 l2 xs ys) ⟨t1,t2,?_⟩;have n1:(Qj s.heap l1).objs.size=s.heap.objs.size + 1:=Co ..;have n2:(Qi s.heap l1 l2).objs.size=s.heap.objs.size + 2:=by rw[Co,n1]
 have n3:(Qh s.heap l1 l2).objs.size=s.heap.objs.size + 3:=by rw[Co,n2]
 have n4:(Qg s.heap l1 l2).objs.size=s.heap.objs.size + 4:=by rw[Co,n3]
 have up:∀ {h:Heap} {a:Addr} {o:Obj} (x:Obj),h.get? a=some o->(h.push x).get? a=some o:=λx e=>Yc _ e;have f5:(ML s.heap l1 l2).get? (Qg s.heap l1 l2).objs.size=some _:=Yl _ rfl;have f4:(ML s.heap l1 l2).get? (Qh s.heap l1 l2).objs.size=some _:=up _ (Yl _ rfl);have f3:(ML s.heap l1 l2).get? (Qi s.heap l1 l2).objs.size=some _:=up _ (up _ (Yl _ rfl));have f2:(ML s.heap l1 l2).get? (Qj s.heap l1).objs.size=some _:=up _ (up _ (up _ (Yl _ rfl)));have f1:(ML s.heap l1 l2).get? s.heap.objs.size=some _:=up _ (up _ (up _ (up _ (Yl _ rfl))));show _/\_;rw[n2,n3,n4]at f5;rw[n1,n2]at f3;rw[n3]at f4;rw[n1]at f2;rw[n4];exact⟨⟨_,f5,Y⟩,q _ ⟨f5,f3,⟨_,_,f4⟩,⟨_,f1,Y,Y⟩,⟨_,f2,Y,Y⟩⟩ λc o x=>up _ (up _ (up _ (up _ (up _ x))))⟩
end
def oG{P:Program}{w:World}{K:Fg}{elts:List Expr}{x1}{pos:Pos}{xs ys:LV}(a b z ti to i1 i2:Addr)(D:ZipApart z ti to i1 i2 a b):
  E3 P w K (.Tuple elts x1 pos) (Gy (xs.zip ys) λH=>AJ K H a xs/\SqL K H b ys) [z,ti,to,i1,i2] z (λi h=>Fn h z ti to i1 i2 a b i .none) where
 mem:=by simp
 obj:=λi h st c hc=>by
  have Ap:c=z\/c=ti\/c=to\/c=i1\/c=i2:=by simpa using hc
  obtain⟨x,y,h3⟩:=st.to;obtain⟨o1,e1,_,d1⟩:=st.i1;obtain⟨o2,e2,_,d2⟩:=st.i2
  rcases Ap with rfl | rfl | rfl | rfl | rfl
  ·exact⟨_,st.z,λv q=>by cases q⟩
  ·exact⟨_,st.ti,λv q=>by cases q⟩
  ·exact⟨_,h3,λv q=>by cases q⟩
  ·exact⟨_,e1,λv q=>by rw[d1]at q;cases q⟩
  ·exact⟨_,e2,λv q=>by rw[d2]at q;cases q⟩
 keep:=λi h h' st k=>st.at k
 item:=by
  intro X hP hw hK hc i pins s σ H E I hf st hg;subst hP hw hK;obtain⟨hi,ha,hb⟩:=hg;obtain⟨p,hp⟩:∃ p,(xs.zip ys)[i]?=some p:=⟨(xs.zip ys)[i]'hi,Yb hi⟩;obtain⟨hx,hy⟩:=Ow hp;obtain⟨its,rv,pa,_⟩:=I.tuple ha;obtain⟨jts,CZ,pb,_⟩:=I.list hb;obtain⟨u,hu,ru⟩:=rv.get hx;obtain⟨v,hv,UH⟩:=CZ.get hy;refine qL D st (show s.heap.IsTuple a its.toArray from pa) pb.isList (by simpa using hu) (by simpa using hv) λg Ay hpr hk=>?_;refine⟨Z,?_⟩;refine wpAny_letOwnedTupleGo_zip (s:={s with heap:=g}) Ay.z λg' z' sb=>?_;have zlt:z<s.heap.objs.size:=Ye st.z;have nz:s.heap.objs.size≠z:=Cy zlt;have Dc:Heap.ExtBut z g g':=sb.extBut;have hT:IsPair g' s.heap.objs.size u v:=Dc _ _ nz hpr;have I1:Inv X pins σ (upd H s.heap.objs.size (.tup [p.1,p.2])) {s with heap:=g' }:=I.turnedNewL (t':=s.toks) (its:=[z,ti,to,i1,i2]) (λc o hc e=>Dc c o (λq=>hc (by simp[q])) (hk c o (λq=>hc (by simp[q])) (λq=>hc (by simp[q])) (λq=>hc (by simp[q])) (λq=>hc (by simp[q])) e)) hf (Yd _)
   ⟨O,[u,v],.cons ru (.cons UH .nil),⟨_,hT,Y,Z⟩⟩
  have Eu:Fn g' z ti to i1 i2 a b (i + 1) .none:=by
   obtain⟨a1,a2,a3⟩:=Ay.to;exact⟨z',Dc _ _ D.TIz Ay.ti,⟨a1,a2,Dc _ _ D.TOz a3⟩,Ay.i1.extBut Dc D.i1z,Ay.i2.extBut Dc D.i2z⟩
  refine⟨.ref s.heap.objs.size,_,I1,Y,⟨s.heap.objs.size,p,hp,I.hok.fresh (Yd _),Y,Y⟩,Eu,λc hc=>?_⟩;have lt:∀ c∈[z,ti,to,i1,i2],c<s.heap.objs.size:=λc hc=>by
   have Ap:c=z\/c=ti\/c=to\/c=i1\/c=i2:=by simpa using hc
   obtain⟨a1,a2,a3⟩:=st.to;obtain⟨o1,e1,_⟩:=st.i1;obtain⟨o2,e2,_⟩:=st.i2
   rcases Ap with rfl | rfl | rfl | rfl | rfl
   ·exact zlt
   ·exact Ye st.ti
   ·exact Ye a3
   ·exact Ye e1
   ·exact Ye e2
  rw[AD (Ys (lt c hc))];exact(hf c hc).1
 done:=by
  intro X hP hw hK hc i pins s σ H E I hf st hg;subst hP hw hK;obtain⟨hi,ha,hb⟩:=hg;obtain⟨its,rv,pa,_⟩:=I.tuple ha;obtain⟨jts,CZ,pb,_⟩:=I.list hb;have l1:=rv.length;have l2:=CZ.length;have CK:its.toArray[i]?=none\/jts.toArray[i]?=none:=by
   rw[Ng]at hi
   rcases Nat.le_total xs.length ys.length with h | h
   ·rw[Nat.min_eq_left h]at hi;exact .inl (by simp;omega)
   ·rw[Nat.min_eq_right h]at hi;exact .inr (by simp;omega)
  exact qK (I.ok.hd hc) D st (show s.heap.IsTuple a its.toArray from pa) pb.isList CK λg hk=>⟨Y,I.turnedL (t':=s.toks) (its:=[z,ti,to,i1,i2]) (λc o hc e=>hk c o (λq=>hc (by simp[q])) (λq=>hc (by simp[q])) (λq=>hc (by simp[q])) (λq=>hc (by simp[q])) e) hf⟩
 self:=λA i s Q E st h=>wpAny_pyIter_zip st.z h
section
variable {X:Cx}
def tF(K:Fg)(ta:TA):TI:=λσ H R=>ta σ H λvs H1=>∃(a b:Addr) (xs ys:LV),vs=[.ref a,.ref b]/\AJ K H1 a xs/\SqL K H1 b ys/\R (Gy (xs.zip ys) λH=>AJ K H a xs/\SqL K H b ys) H1
def aU{elts:List Expr}{x1}{ES:Pos}{a b:Expr}{ta:TA}{p pos:Pos}(hg:Gl X "zip")(hm:X.mg "zip"=none)(ha:PA X [a,b] ta)(hs:starEach [a,b] X.env=[(false,eval a X.env),(false,eval b X.env)]:=by rfl)(FQ:starEach [b] X.env=[(false,eval b X.env)]:=by rfl):
  PI X (.Tuple elts x1 ES) (.Call (.Name "zip" p) [a,b] [] pos) (tF X.K ta):=by
 intro pins s σ H R I h;refine Call_ (Fh I hg hm boot_zip (Ii (AK (ha pos pins s σ H _ I h) λus s1 ⟨vs,H1,I1,r1,q1⟩=>?_) (by rw[hs,FQ]) (by rw[FQ];rfl)));obtain⟨l1,l2,xs,ys,e,t1,t2,q⟩:=q1;subst e;cases r1 with
 | cons r rr =>
  cases rr with
  | cons r' rr =>
   cases rr;obtain rfl:_=Value.ref l1:=r;obtain rfl:_=Value.ref l2:=r';obtain⟨its,rv,pa,_⟩:=I1.tuple t1;obtain⟨jts,CZ,pb,_⟩:=I1.list t2;have b1:s1.heap.IsTuple l1 its.toArray:=pa;have b2:s1.heap.IsList l2 jts.toArray:=pb.isList;have MR:l1<s1.heap.objs.size:=let⟨_,e,_⟩:=b1;Ye e;have UM:l2<s1.heap.objs.size:=let⟨_,e,_⟩:=b2;Ye e;refine lZ b1 b2 λg st hk=>wpAny_pyIter_zip (s:={s1 with heap:=g}) st.z ?_;have D:ZipApart (s1.heap.objs.size + 4) (s1.heap.objs.size + 2) (s1.heap.objs.size + 3) s1.heap.objs.size (s1.heap.objs.size + 1) l1 l2:=W.ktu_apart _ _ _ MR UM;refine⟨_,[s1.heap.objs.size + 4,s1.heap.objs.size + 2,s1.heap.objs.size + 3,s1.heap.objs.size,s1.heap.objs.size + 1],_,_,H1,Y,I1.kept (t':=s1.toks) λb o e=>hk b o e,oG l1 l2 _ _ _ _ _ D,st,λc hc=>?_,q⟩;have Ap:c=s1.heap.objs.size + 4\/c=s1.heap.objs.size + 2\/c=s1.heap.objs.size + 3\/c=s1.heap.objs.size\/c=s1.heap.objs.size + 1:=by simpa using hc
   have ge:s1.heap.objs.size<=c:=by
    rcases Ap with rfl | rfl | rfl | rfl | rfl
    ·exact Gv _ _
    ·exact Gv _ _
    ·exact Gv _ _
    ·exact Yd _
    ·exact Gv _ _
   exact I1.fpOk ge (I1.hok.fresh ge)
end
end L2
namespace L2
open PySem PySem.Spec PyProof.Rows
open PySem.W (KasT kas_rev kas_asc kas_desc kas_tail3 kas_descPart kas_count kas_place kas_bin kas_sort)
def BY{α:Type}(lt:Nat->Nat->Bool)(N:Nat):KasT α->(α->Prop)->Prop
 | .ret a,R=>R a
 | .ask i j k,R=>i<N/\j<N/\BY lt N (k (lt i j)) R
theorem NI{α β:Type}{lt:Nat->Nat->Bool}{N:Nat}{f:α->KasT β}{R:β->Prop}:∀ {t:KasT α},BY lt N t (λa=>BY lt N (f a) R)->BY lt N (t.bind f) R
 | .ret _,h=>h
 | .ask _ _ k,⟨h1,h2,h⟩=>⟨h1,h2,NI (t:=k _) h⟩
theorem bE{α:Type}{lt:Nat->Nat->Bool}{N:Nat}{cmp:Nat->Nat->(Bool->Shared->Prop)->Shared->Prop}{I:Shared->Prop}{R:α->Prop}{Q:α->Shared->Prop}
  (hc:∀ i j C s,i<N->j<N->I s->(∀ s',I s'->C (lt i j) s')->cmp i j C s) (hq:∀ a s',R a->I s'->Q a s'):∀(t:KasT α) (s:Shared),BY lt N t R->I s->t.kasWp cmp Q s
 | .ret a,s,h,hI=>hq a s h hI
 | .ask i j k,s,⟨h1,h2,h⟩,hI=>hc i j _ s h1 h2 hI λs' je=>bE hc hq (k _) s' h je
section
variable {O:KeyOrd}{key:Nat->O.α}{N:Nat}
abbrev Aq(key:Nat->O.α)(i j:Nat):Bool:=O.blt (key i) (key j)
def KN(key:Nat->O.α)(p:Array Nat)(i:Nat):O.α:=key (p.getD i 0)
def PB(N:Nat)(p:Array Nat):Prop:=p.toList.Perm (List.range N)
def Gb(key:Nat->O.α)(p:Array Nat)(k:Nat):Prop:=∀ i j,i<=j->j<k->O.kle (KN key p i) (KN key p j)
def PZ(key:Nat->O.α)(p:Array Nat)(k:Nat):Prop:=∀ i j,i<=j->j<k->O.kle (KN key p j) (KN key p i)
theorem PB.size{p:Array Nat}(h:PB N p):p.size=N:=by
 have:=h.length_eq;rw[Hh,Hf]at this;exact this
def PB.lt{p:Array Nat}(h:PB N p)(hN:0<N)(i:Nat):p.getD i 0<N:=by
 by_cases hi:i<p.size
 ·have e:p.getD i 0=p[i]:=by simp[Array.getD,hi]
  rw[e];have:p[i]∈p.toList:=by simp
  exact Cz.mp (h.mem_iff.mp this)
 ·have e:p.getD i 0=0:=by simp[Array.getD,hi]
  rw[e];exact hN
def Ks{p:Array Nat}(i:Nat):p.getD i 0=(p[i]?).getD 0:=by
 simp
def PB.rev{p:Array Nat}(h:PB N p)(i j:Nat):PB N (kas_rev p i j):=(Array.perm_iff_toList_perm.mp (mirror_perm p i j _)).trans h
def PB.bub{p:Array Nat}(h:PB N p)(i j:Nat):PB N (bubble p i j):=(Array.perm_iff_toList_perm.mp (bubble_perm p i j)).trans h
def Ux{p:Array Nat}{i j:Nat}(hj:j<=p.size)(k:Nat):KN key (kas_rev p i j) k=if i<=k/\k<j then KN key p (i + j - 1 - k)else KN key p k:=by
 have e:=getElem?_mirror_all (xs:=p) (i:=i) hj k;have e1:(mirror p i j ((j - i) / 2)).getD k 0=((mirror p i j ((j - i) / 2))[k]?).getD 0:=Ks k;show key ((mirror p i j ((j - i) / 2)).getD k 0)=_;rw[e1,e];by_cases h1:i<=k/\k<j
 ·rw[if_pos h1,if_pos h1];exact congrArg key (Ks _).symm
 ·rw[if_neg h1,if_neg h1];exact congrArg key (Ks k).symm
def Oz{p:Array Nat}{i j:Nat}(hj:j<=p.size)(heq:∀ k,i<=k->k<j->KN key p k=KN key p (j - 1))(k:Nat):KN key (kas_rev p i j) k=KN key p k:=by
 rw[Ux hj];split
 ·rw[heq _ (by omega) (by omega),heq k (by omega) (by omega)]
 ·rfl
def Zr{p:Array Nat}{src d:Nat}(hs:src<p.size)(hd:d<=src)(k:Nat):KN key (bubble p src d) k=if k=src - d then KN key p src else if src - d<k/\k<=src then KN key p (k - 1)else KN key p k:=by
 have e:=getElem?_bubble hs d hd k;have e1:(bubble p src d).getD k 0=((bubble p src d)[k]?).getD 0:=Ks k;show key ((bubble p src d).getD k 0)=_;rw[e1,e];by_cases h1:k=src - d
 ·rw[if_pos h1,if_pos h1];exact congrArg key (Ks src).symm
 ·rw[if_neg h1,if_neg h1];by_cases h2:src - d<k/\k<=src
  ·rw[if_pos h2,if_pos h2];exact congrArg key (Ks (k - 1)).symm
  ·rw[if_neg h2,if_neg h2];exact congrArg key (Ks k).symm
theorem U3{p:Array Nat}{R:Nat->Prop}(hB:PB N p)(hN:0<N):∀(f n:Nat),1<=n->Gb key p n ->
  (∀ m,n<=m->m<=n + f->Gb key p m->(m=n + f\/O.klt (KN key p m) (KN key p (m - 1)))->R m)->BY (Aq key) N (kas_asc p f n) R
 | 0,n,_,hs,h=>h n (Yd _) (Yd _) hs (.inl rfl)
 | f + 1,n,h1,hs,h=>by
  refine⟨hB.lt hN _,hB.lt hN _,?_⟩;cases hless:O.blt (key (p.getD n 0)) (key (p.getD (n - 1) 0))with
  | true =>
   show BY _ _ (if Aq key _ _=true then _ else _) _;rw[show Aq key (p.getD n 0) (p.getD (n - 1) 0)=true from hless,if_pos rfl];exact h n (Yd _) (by omega) hs (.inr hless)
  | false =>
   show BY _ _ (if Aq key _ _=true then _ else _) _;rw[show Aq key (p.getD n 0) (p.getD (n - 1) 0)=false from hless,if_neg (by simp)];refine U3 hB hN f (n + 1) (by omega) (λi j hij hj=>?_) λm m1 m2 ms mo=>h m (by omega) (by omega) ms (by rcases mo with e | e;exact .inl (by omega);exact .inr e);by_cases hjx:j<n
   ·exact hs i j hij hjx
   ·have HH:j=n:=by omega
    subst HH;by_cases DG:i=j
    ·subst DG;exact Il _
    ·exact KeyOrd.kle_trans (hs i (j - 1) (by omega) (by omega)) hless
def bD{p:Array Nat}{n nrem:Nat}{R:Nat×Array Nat->Prop}(hB:PB N p)(hN:0<N)(h1:1<=n)(hnn:n<=nrem)(hr:nrem<=N)(hs:PZ key p n)
  (h:∀ m p',PB N p'->1<=m->m<=nrem->Gb key p' m->R (m,p')):BY (Aq key) N (kas_tail3 n nrem p) R:=by
 unfold kas_tail3;have hz:n<=p.size:=by rw[hB.size];omega
 refine NI (U3 (hB.rev 0 n) hN _ n h1 (λi j hij hj=>?_) λm m1 m2 ms _=>h m _ (hB.rev 0 n) (by omega) (by omega) ms);rw[Ux hz,Ux hz,if_pos (by omega),if_pos (by omega)];exact hs _ _ (by omega) (by omega)
theorem Rz{R:Array Nat×Nat×Nat->Prop}(hN:0<N):∀(f:Nat) (p:Array Nat) (n q:Nat),PB N p->1<=n->n + f<=N->PZ key p n->q + 1<=n->(∀ i,n - (q + 1)<=i->i<n->KN key p i=KN key p (n - 1)) ->
  (∀ p' m q',PB N p'->n<=m->m<=n + f->PZ key p' m->q' + 1<=m->(∀ i,m - (q' + 1)<=i->i<m->KN key p' i=KN key p' (m - 1))->R (p',m,q'))->BY (Aq key) N (kas_desc f p n q) R
 | 0,p,n,q,hB,h1,hz,hs,hq,he,h=>h p n q hB (Yd _) (Yd _) hs hq he
 | f + 1,p,n,q,hB,h1,hz,hs,hq,he,h=>by
  have hsz:n<=p.size:=by rw[hB.size];omega
  refine⟨hB.lt hN _,hB.lt hN _,?_⟩;cases hless:O.blt (key (p.getD n 0)) (key (p.getD (n - 1) 0))with
  | true =>
   show BY _ _ (if Aq key _ _=true then _ else _) _;rw[show Aq key (p.getD n 0) (p.getD (n - 1) 0)=true from hless,if_pos rfl];have J6:∀ xs:Array Nat,(∀ k,KN key xs k=KN key p k)->PZ key xs (n + 1):=by
    intro xs hk i j hij hj;rw[hk,hk];by_cases hjx:j<n
    ·exact hs i j hij hjx
    ·have HH:j=n:=by omega
     subst HH;by_cases DG:i=j
     ·subst DG;exact Il _
     ·exact KeyOrd.kle_trans (KeyOrd.kle_of_klt hless) (hs i (j - 1) (by omega) (by omega))
   by_cases hneq:q > 0
   ·rw[if_pos hneq];exact Rz hN f _ (n + 1) 0 (hB.rev _ _) (by omega) (by omega) (J6 _ (Oz hsz he)) (by omega) (λi h1 h2=>by congr 1;omega) λp' m q' a1 a2 a3 a4 a5 a6=>h p' m q' a1 (by omega) (by omega) a4 a5 a6
   ·rw[if_neg hneq];exact Rz hN f _ (n + 1) 0 hB (by omega) (by omega) (J6 _ λ_=>rfl) (by omega) (λi h1 h2=>by congr 1;omega) λp' m q' a1 a2 a3 a4 a5 a6=>h p' m q' a1 (by omega) (by omega) a4 a5 a6
  | false =>
   show BY _ _ (if Aq key _ _=true then _ else _) _;rw[show Aq key (p.getD n 0) (p.getD (n - 1) 0)=false from hless,if_neg (by simp)];refine⟨hB.lt hN _,hB.lt hN _,?_⟩;cases hl:O.blt (key (p.getD (n - 1) 0)) (key (p.getD n 0))with
   | true =>
    show BY _ _ (if Aq key _ _=true then _ else _) _;rw[show Aq key (p.getD (n - 1) 0) (p.getD n 0)=true from hl,if_pos rfl];exact h p n q hB (Yd _) (by omega) hs hq he
   | false =>
    show BY _ _ (if Aq key _ _=true then _ else _) _;rw[show Aq key (p.getD (n - 1) 0) (p.getD n 0)=false from hl,if_neg (by simp)];have heqx:KN key p n=KN key p (n - 1):=KeyOrd.kle_antisymm hl hless;refine Rz hN f p (n + 1) (q + 1) hB (by omega) (by omega) (λi j hij hj=>?_) (by omega) (λi h1 h2=>?_) λp' m q' a1 a2 a3 a4 a5 a6=>h p' m q' a1 (by omega) (by omega) a4 a5 a6
    ·by_cases hjx:j<n
     ·exact hs i j hij hjx
     ·have HH:j=n:=by omega
      subst HH;by_cases DG:i=j
      ·subst DG;exact Il _
      ·rw[heqx];exact hs i (j - 1) (by omega) (by omega)
    ·rw[show n + 1 - 1=n by omega];by_cases hix:i=n
     ·subst hix;rfl
     ·rw[heqx];exact he i (by omega) (by omega)
def di{p:Array Nat}{n nrem:Nat}{R:Nat×Array Nat->Prop}(hB:PB N p)(hN:0<N)(hnn:n + 1<=nrem)(hr:nrem<=N)(hs:PZ key p (n + 1))
  (h:∀ m p',PB N p'->1<=m->m<=nrem->Gb key p' m->R (m,p')):BY (Aq key) N (kas_descPart n nrem p) R:=by
 unfold kas_descPart;refine NI (Rz hN _ p (n + 1) 0 hB (by omega) (by omega) hs (by omega) (λi h1 h2=>by congr 1;omega) λp' m q Uh m1 m2 JI hq he=>?_);have hsz:m<=p'.size:=by rw[Uh.size];omega
 show BY _ _ (if q > 0 then kas_tail3 m nrem (kas_rev p' (m - (q + 1)) m)else kas_tail3 m nrem p') R;by_cases hneq:q > 0
 ·rw[if_pos hneq];refine bD (Uh.rev _ _) hN (by omega) (by omega) hr (λi j hij hj=>?_) h;rw[Oz hsz he,Oz hsz he];exact JI i j hij hj
 ·rw[if_neg hneq];exact bD Uh hN (by omega) (by omega) hr JI h
def lK{p:Array Nat}{nrem:Nat}{R:Nat×Array Nat->Prop}(hB:PB N p)(hN:0<N)(h1:1<=nrem)(hr:nrem<=N)
  (h:∀ m p',PB N p'->1<=m->m<=nrem->Gb key p' m->R (m,p')):BY (Aq key) N (kas_count nrem p) R:=by
 unfold kas_count;refine NI (U3 hB hN _ 1 (Yd _) (λi j hij hj=>by have:i=j:=(by omega);subst this;exact Il _) λn n1 n2 hsn hor=>?_);by_cases hnn:n=nrem
 ·rw[if_pos (by simpa using hnn)];exact h n p hB n1 (by omega) hsn
 ·rw[if_neg (by simpa using hnn)];have Ab:O.klt (KN key p n) (KN key p (n - 1)):=hor.resolve_left (by omega);have hsz:n<=p.size:=by rw[hB.size];omega
  by_cases hgt:n > 1
  ·rw[if_pos hgt];refine⟨hB.lt hN _,hB.lt hN _,?_⟩;cases hl:O.blt (key (p.getD 0 0)) (key (p.getD (n - 1) 0))with
   | true =>
    show BY _ _ (if Aq key _ _=true then _ else _) _;rw[show Aq key (p.getD 0 0) (p.getD (n - 1) 0)=true from hl,if_pos rfl];exact h n p hB n1 (by omega) hsn
   | false =>
    show BY _ _ (if Aq key _ _=true then _ else _) _;rw[show Aq key (p.getD 0 0) (p.getD (n - 1) 0)=false from hl,if_neg (by simp)];have heq:∀ k,k<n->KN key p k=KN key p (n - 1):=λk hk=>KeyOrd.kle_antisymm (hsn k (n - 1) (by omega) (by omega)) (KeyOrd.kle_trans (show O.kle (KN key p (n - 1)) (KN key p 0)from hl) (hsn 0 k (by omega) hk));refine di (hB.rev 0 n) hN (by omega) hr (λi j hij hj=>?_) h;rw[Oz hsz (λk _ h2=>heq k h2),Oz hsz (λk _ h2=>heq k h2)];by_cases hjn:j<n
    ·rw[heq j hjn,heq i (by omega)];exact Il _
    ·have:j=n:=by omega
     subst this;by_cases hi:i=j
     ·subst hi;exact Il _
     ·rw[heq i (by omega)];exact KeyOrd.kle_of_klt Ab
  ·rw[if_neg hgt];have e1:n=1:=by omega
   subst e1;refine di hB hN (by omega) hr (λi j hij hj=>?_) h;by_cases hi:i=j
   ·subst hi;exact Il _
   ·have e0:i=0:=by omega
    have e2:j=1:=by omega
    subst e0 e2;exact KeyOrd.kle_of_klt Ab
theorem Vh{p:Array Nat}{k:Nat}{R:Nat->Prop}(hB:PB N p)(hN:0<N)(hs:Gb key p k):∀(f l r:Nat),l<=r->r<=k->r - l<=f ->
  (∀ i,i<l->O.kle (KN key p i) (KN key p k))->(∀ i,r<=i->i<k->O.klt (KN key p k) (KN key p i)) ->
  (∀ l,l<=k->(∀ i,i<l->O.kle (KN key p i) (KN key p k))->(∀ i,l<=i->i<k->O.klt (KN key p k) (KN key p i))->R l)->BY (Aq key) N (kas_place p k f l r) R
 | 0,l,r,hlr,hrk,hm,hlo,hhi,h=>h l (by omega) hlo λi h1 h2=>hhi i (by omega) h2
 | f + 1,l,r,hlr,hrk,hm,hlo,hhi,h=>by
  show BY _ _ (if l ≥ r then _ else _) _;by_cases hge:l ≥ r
  ·rw[if_pos hge];exact h l (by omega) hlo λi h1 h2=>hhi i (by omega) h2
  ·rw[if_neg hge];refine⟨hB.lt hN _,hB.lt hN _,?_⟩;cases hless:O.blt (key (p.getD k 0)) (key (p.getD ((l + r) / 2) 0))with
   | true =>
    show BY _ _ (if Aq key _ _=true then _ else _) _;rw[show Aq key (p.getD k 0) (p.getD ((l + r) / 2) 0)=true from hless,if_pos rfl];exact Vh hB hN hs f l ((l + r) / 2) (by omega) (by omega) (by omega) hlo (λi h1 h2=>KeyOrd.klt_of_klt_of_kle hless (hs _ _ h1 h2)) h
   | false =>
    show BY _ _ (if Aq key _ _=true then _ else _) _;rw[show Aq key (p.getD k 0) (p.getD ((l + r) / 2) 0)=false from hless,if_neg (by simp)];exact Vh hB hN hs f ((l + r) / 2 + 1) r (by omega) (by omega) (by omega) (λi h1=>KeyOrd.kle_trans (hs i ((l + r) / 2) (by omega) (by omega)) (show O.kle (KN key p ((l + r) / 2)) (KN key p k)from hless)) hhi h
theorem ZW{R:Array Nat->Prop}(hN:0<N):∀(f:Nat) (p:Array Nat) (k:Nat),PB N p->k + f=N->Gb key p k->(∀ p',PB N p'->Gb key p' N->R p')->BY (Aq key) N (kas_bin f p k) R
 | 0, p, k, hB, hk, hs, h => h p hB (by have : k = N := by omega
                                        rw[<- this];exact hs)
 | f + 1,p,k,hB,hk,hs,h=>by
  refine NI (Vh hB hN hs k 0 k (by omega) (by omega) (by omega) (λi hi=>by omega) (λi h1 h2=>by omega) λl hlk hlo hhi=>?_);refine ZW hN f _ (k + 1) (hB.bub _ _) (by omega) (λi j hij hj=>?_) h;have hks:k<p.size:=by rw[hB.size];omega
  rw[Zr hks (by omega),Zr hks (by omega),show k - (k - l)=l by omega]
  repeat' split
  all_goals first
   | (refine False.elim ?_;omega)
   | exact Il _
   | exact hlo _ (by omega)
   | exact KeyOrd.kle_of_klt (hhi _ (by omega) (by omega))
   | exact hs _ _ (by omega) (by omega)
def aD{R:Array Nat->Prop}(hN:0<N)(h:∀ p,PB N p->Gb key p N->R p):BY (Aq key) N (kas_sort N) R:=by
 unfold kas_sort;refine NI (lK (p:=(List.range N).toArray) (Ij _) hN hN (Yd _) λm p' hB m1 m2 hs=>?_);show BY _ _ (if m<N then kas_bin (N - max m 1) p' (max m 1)else .ret p') R;by_cases Ab:m<N
 ·rw[if_pos Ab,show max m 1=m by omega];exact ZW hN _ p' m hB (by omega) hs h
 ·rw[if_neg Ab];have:m=N:=by omega
  exact h p' hB (this ▸ hs)
end
end L2
namespace L2
open PySem PySem.Spec PyProof.Rows
structure Tp(K:Fg)(x:Str)(st:Stmt)(f:Addr)(fd:FuncData):Prop where
 a:W.nsIn K mainGlobals x=some (some (.ref f))
 fn:BV K x x st f fd
structure Mp(K:Fg)(C:Addr)(x q:Str)(st:Stmt)(f:Addr)(fd:FuncData):Prop where
 a:W.findIn K (.ref C) x=some (some (.ref f))
 i:W.isFn K (.ref f)=true
 fn:BV K x q st f fd
structure Cp(K:Fg)(x:Str)(C:Addr):Prop where
 a:W.nsIn K mainGlobals x=some (some (.ref C))
 pg:W.plainGet K C Str.empty=true
 hd:W.hasDictIn K C=true
 po:W.plainOver K C=true
 sa:W.findIn K (.ref C) "__setattr__"=some (some (.builtin "object.__setattr__"))
 mx:W.makesIn K C=true
 kc:W.keepIn K (.ref C)=true
section
variable {K:Fg}{x q:Str}{st:Stmt}{f C:Addr}{oc:Value}{od an:Option Addr}{osl:Array (OU)}{kV doc pm Ai ct:Value}
def tp(a:W.nsIn K mainGlobals x=some (some (.ref f)))(l:K.lookup f=some ⟨oc,od,.func (W.fnOf x x (Em st) (B4 st) (AL st) .none kV doc pm an Ai ct),osl⟩)(c:W.codeIn K Ai x=true)(k:W.keepIn K (.ref f)=true):
  Tp K x st f (W.fnOf x x (Em st) (B4 st) (AL st) .none kV doc pm an Ai ct):=⟨a,ZU l c k⟩
def mp(a:W.findIn K (.ref C) x=some (some (.ref f)))(i:W.isFn K (.ref f)=true)(l:K.lookup f=some ⟨oc,od,.func (W.fnOf x q (Em st) (B4 st) (AL st) .none kV doc pm an Ai ct),osl⟩)(c:W.codeIn K Ai q=true)(k:W.keepIn K (.ref f)=true):
  Mp K C x q st f (W.fnOf x q (Em st) (B4 st) (AL st) .none kV doc pm an Ai ct):=⟨a,i,ZU l c k⟩
end
section
variable {K:Fg}{mg:Str->OU}{x q:Str}{st:Stmt}{f:Addr}{fd:FuncData}{h:Heap}
def YQ{us:LU}(h:us.length=1):∃ a,us=[a]:=List.length_eq_one_iff.mp h
def ln2{us:LU}(h:us.length=2):∃ a b,us=[a,b]:=by
 cases us with
 | nil=>cases h
 | cons a r=>obtain⟨_,rfl⟩:=YQ (Nat.succ.inj h);exact⟨_,Z⟩
def YO{us:LU}(h:us.length=3):∃ a b c,us=[a,b,c]:=by
 cases us with
 | nil=>cases h
 | cons a r=>obtain⟨_,_,rfl⟩:=ln2 (Nat.succ.inj h);exact⟨_,_,Z⟩
def YN{us:LU}(h:us.length=4):∃ a b c d,us=[a,b,c,d]:=by
 cases us with
 | nil=>cases h
 | cons a r=>obtain⟨_,_,_,rfl⟩:=YO (Nat.succ.inj h);exact⟨_,_,_,Z⟩
def iz{us:LU}(h:us.length=5):∃ a b c d e,us=[a,b,c,d,e]:=by
 cases us with
 | nil=>cases h
 | cons a r=>obtain⟨_,_,_,_,rfl⟩:=YN (Nat.succ.inj h);exact⟨_,_,_,_,Z⟩
def E2(a:Str)(F:BV K x q st f fd)(e:∀(kV doc pm:Value) (an:Option Addr) (Ai ct u:Value),bindArgs (W.fnOf x q (Em st) (B4 st) (AL st) .none kV doc pm an Ai ct) ⟨[u],[]⟩=pure ([a].zip [u]):=by intros;rfl):Cj K fd [a] [] :=
 F.binds λ_ _ _ _ _ _ us hl=>by
 obtain⟨_,rfl⟩:=YQ hl;exact e ..
def Dg(a b:Str)(F:BV K x q st f fd)(e:∀(kV doc pm:Value) (an:Option Addr) (Ai ct u v:Value),bindArgs (W.fnOf x q (Em st) (B4 st) (AL st) .none kV doc pm an Ai ct) ⟨[u,v],[]⟩=pure ([a,b].zip [u,v]):=by intros;rfl):Cj K fd [a,b] [] :=
 F.binds λ_ _ _ _ _ _ us hl=>by
 obtain⟨_,_,rfl⟩:=ln2 hl;exact e ..
def Cf(a b c:Str)(F:BV K x q st f fd)(e:∀(kV doc pm:Value) (an:Option Addr) (Ai ct u v w:Value),bindArgs (W.fnOf x q (Em st) (B4 st) (AL st) .none kV doc pm an Ai ct) ⟨[u,v,w],[]⟩=pure ([a,b,c].zip [u,v,w]):=by intros;rfl):Cj K fd [a,b,c] [] :=
 F.binds λ_ _ _ _ _ _ us hl=>by
 obtain⟨_,_,_,rfl⟩:=YO hl;exact e ..
def OP(a b c d:Str)(F:BV K x q st f fd)(e:∀(kV doc pm:Value) (an:Option Addr) (Ai ct u v w y:Value),bindArgs (W.fnOf x q (Em st) (B4 st) (AL st) .none kV doc pm an Ai ct) ⟨[u,v,w,y],[]⟩=pure ([a,b,c,d].zip [u,v,w,y]):=by intros;rfl):Cj K fd [a,b,c,d] [] :=
 F.binds λ_ _ _ _ _ _ us hl=>by
 obtain⟨_,_,_,_,rfl⟩:=YN hl;exact e ..
def j3(a b c d g:Str)(F:BV K x q st f fd)(e:∀(kV doc pm:Value) (an:Option Addr) (Ai ct u v w y z:Value),bindArgs (W.fnOf x q (Em st) (B4 st) (AL st) .none kV doc pm an Ai ct) ⟨[u,v,w,y,z],[]⟩=pure ([a,b,c,d,g].zip [u,v,w,y,z]):=by intros;rfl):Cj K fd [a,b,c,d,g] [] :=
 F.binds λ_ _ _ _ _ _ us hl=>by
 obtain⟨_,_,_,_,_,rfl⟩:=iz hl;exact e ..
def df{ps:LS}(X:K.In h)(G:h.Ns mainGlobals mg)(T:Tp K x st f fd)(b:Cj K fd ps []):Def K mg x st ps f fd:=⟨T.fn,b,W.mg_of X G T.a⟩
theorem Tp.ex{x q:Str}(F:BV K x q st f fd):∃(kV doc pm:Value) (an:Option Addr) (Ai ct:Value),fd=W.fnOf x q (Em st) (B4 st) (AL st) .none kV doc pm an Ai ct:=by
 obtain⟨oc,od,kV,doc,pm,an,Ai,ct,osl,e,_⟩:=F.ex;exact⟨kV,doc,pm,an,Ai,ct,e⟩
end
abbrev wB:=St->Hp->(Str->Hp->Prop)->Prop
abbrev wA:=St->Hp->Str->(Str->Hp->Prop)->Prop
section
variable {X:Cx}{e:Expr}{es:List Expr}{te:TE}{t:wB}{u:wA}{pos:Pos}
end
section
variable {X:Cx}
end
section
variable {X:Cx}
end
section
variable {X:Cx}
end
end L2
namespace Md
open PySem L2
end Md
namespace L2
open PySem PySem.Spec PyProof.Rows
structure Qp(K:Fg)(x:Str)(C:Addr):Prop where
 a:W.nsIn K mainGlobals x=some (some (.ref C))
 cl:W.isClsIn K C=true
 ty:W.typeIn K (.ref C)=some (.type "type")
structure gw(K:Fg)(q Q0 Q1 Q2 Q3 Q4 Q5 Q6 Q7 Q8 Q9 Fy Lg Lf Le Ld:Addr)(b0 b1 b2 b3 b4 b5 b6 b7 b8 b9 j8 j7 j6 j5 j4:Bool):Prop where
 f0:W.subIn K (.ref q) (.ref Q0)=some b0
 f1:W.subIn K (.ref q) (.ref Q1)=some b1
 f2:W.subIn K (.ref q) (.ref Q2)=some b2
 f3:W.subIn K (.ref q) (.ref Q3)=some b3
 f4:W.subIn K (.ref q) (.ref Q4)=some b4
 f5:W.subIn K (.ref q) (.ref Q5)=some b5
 f6:W.subIn K (.ref q) (.ref Q6)=some b6
 f7:W.subIn K (.ref q) (.ref Q7)=some b7
 f8:W.subIn K (.ref q) (.ref Q8)=some b8
 f9:W.subIn K (.ref q) (.ref Q9)=some b9
 RW:W.subIn K (.ref q) (.ref Fy)=some j8
 RV:W.subIn K (.ref q) (.ref Lg)=some j7
 RU:W.subIn K (.ref q) (.ref Lf)=some j6
 RT:W.subIn K (.ref q) (.ref Le)=some j5
 RQ:W.subIn K (.ref q) (.ref Ld)=some j4
section
variable {K:Fg}{C D N:Addr}{nm q a:Str}{bs sub bm:LU}{hd ab:Bool}{sn:LS}{col:Option Bool}{dd:Option Addr}{k0 k1 k2 k3 k5:OU}
def qc(l:K.lookup C=some (excClassObj nm q C N bs bm hd sn sub ab col dd k0 k1 k2 k3 k5 "ValueError.__new__"))(v:W.subIn K (.ref C) (.type "ValueError")=some true)(b:W.subIn K (.ref C) (.type "BaseException")=some true)(t:W.subIn K (.ref C) (.type "AttributeError")=some false)(n:W.subIn K (.ref C) (.type "NameError")=some false)(k:W.keepIn K (.ref C)=true):ExC K C :=
 ⟨⟨_,_,_,_,_,_,_,_,_,_,_,_,_,_,_,_,l⟩,v,b,t,n,k⟩
def qa(l:K.lookup C=some (excClassObj nm q C N bs bm hd sn sub ab col dd k0 k1 k2 k3 k5 "ValueError.__new__"))(v:W.subIn K (.ref C) (.type "ValueError")=some true)(b:W.subIn K (.ref C) (.type "BaseException")=some true)(t:W.subIn K (.ref C) (.type "AttributeError")=some false)(n:W.subIn K (.ref C) (.type "NameError")=some false)(k:W.keepIn K (.ref C)=true)
  (ga:W.findIn K (.ref C) "__getattribute__"=some (some (.builtin "BaseException.__getattribute__"))) (gt:W.findIn K (.ref C) "__getattr__"=some none) (ca:W.findIn K (.ref C) "__class__"=some (some (.builtin "object.__class__"))) (cg:W.specialIn K (.builtin "object.__class__") "__get__"=some (some (.builtin "getset_descriptor.__get__"))) (ct:W.takesIn K (.builtin "object.__class__")=some true) (ob:W.mroIn K C (.type "object")=some true):Iu K C:=⟨qc l v b t n k,ga,gt,ca,cg,ct,ob⟩
def qi(l:K.lookup C=some (excClassObj nm q C N bs [.ref D,.type "ValueError",.type "Exception",.type "BaseException",.type "object"] true sn sub ab col dd k0 k1 k2 k3 k5 "ValueError.__new__"))(v:W.subIn K (.ref C) (.type "ValueError")=some true)(b:W.subIn K (.ref C) (.type "BaseException")=some true)(t:W.subIn K (.ref C) (.type "AttributeError")=some false)(n:W.subIn K (.ref C) (.type "NameError")=some false)(k:W.keepIn K (.ref C)=true)
  (ga:W.findIn K (.ref C) "__getattribute__"=some (some (.builtin "BaseException.__getattribute__"))) (gt:W.findIn K (.ref C) "__getattr__"=some none) (ca:W.findIn K (.ref C) "__class__"=some (some (.builtin "object.__class__"))) (cg:W.specialIn K (.builtin "object.__class__") "__get__"=some (some (.builtin "getset_descriptor.__get__"))) (ct:W.takesIn K (.builtin "object.__class__")=some true) (ob:W.mroIn K C (.type "object")=some true) (sa:W.findIn K (.ref C) "__setattr__"=some (some (.builtin "object.__setattr__"))) (na:W.findIn K (.ref C) a=some none):wQ K C D a:=⟨qa l v b t n k ga gt ca cg ct ob,⟨_,_,_,_,_,_,_,_,_,_,_,_,_,_,l⟩,sa,na⟩
end
section
variable {prog:Program}{w:World}{A:Around}{E:EV}{s:Shared}{x y:Str}{t u:Tok}
end
section
variable {X:Cx}
end
end L2
namespace Md
open PySem L2
end Md
namespace L2
open PySem PySem.Spec PyProof.Rows
section
variable {prog:Program}{w:World}{A:Around}{E:EV}{s:Shared}
end
section
variable {M:Model}{A:Around}{E:EV}{s:Shared}{env:Env}
end
section
variable {X:Cx}
end
abbrev GZ(o:Obj):HO:=.frz o (.ext λ_=>True)
def VA{P:Program}{w:World}{H:Hp}{h:Heap}{a:Addr}{o:Obj}(e:h.get? a=some o):A2 P w H h a (GZ o):=⟨e,trivial,⟨o,e⟩,λ_ _ _ _=>trivial⟩
def E9(H:Hp)(P:Addr)(pos:Pos)(qual:Str):Prop:=H P=some (.tbl #[])\/∃(c:Addr) (oc:Obj) (vs:Array Value) (t:Tok),H P=some (.tbl #[rawInt pos.line,rawInt pos.col,.ref c])/\H c=some (GZ oc)/\oc.data=.fields vs/\vs[1]?=some (.str qual t)
structure RZ(mg:Str->OU)(base:Heap)(c P:Addr):Prop where
 code:W.CodeHd base c P
 ne:mainGlobals≠P
 blt:base.BuiltinsAt mg P
def Bm(P:Addr)(H H':Hp):Prop:=∀ b o,b≠P->H b=some o->H' b=some o
theorem V4{env:Env}:∀(names:List (Str×NameKind)) (acc:List (Str×Addr)),(∀ y∈names,y.2=.free->∃ c,env.cells.lookup y.1=some c)->(∀ x c,acc.lookup x=some c->env.cells.lookup x=some c) ->
  ∃ cl:List (Str×Addr),(forIn names acc λx (cs:List (Str×Addr))=>(do
   if x.2 == NameKind.free then let c <- cellOf env x.1;pure (ForInStep.yield ((x.1,c):: cs))else pure (ForInStep.yield cs):Sem _))=pure cl/\(∀ x c,cl.lookup x=some c->env.cells.lookup x=some c) /\
   (∀ y∈names,y.2=.free->∃ c,cl.lookup y.1=some c)/\∀ x c,acc.lookup x=some c->∃ c',cl.lookup x=some c'
 | [],acc,_,ha=>⟨acc,Y,ha,(λ_ h=>nomatch h),λx c h=>⟨c,h⟩⟩
 | (n,k):: r,acc,h,ha=>by
  by_cases hk:k=NameKind.free
  ·obtain⟨c,hc⟩:=h (n,k) (.head _) hk;obtain⟨cl,e,h1,h2,h3⟩:=V4 r ((n,c):: acc) (λy hy=>h y (.tail _ hy)) (λx d hx=>by
    rw[C7]at hx;cases hb:x == n with
    | true=>rw[hb]at hx;cases hx;rw[eq_of_beq hb];exact hc
    | false=>rw[hb]at hx;exact ha x d hx)
   refine⟨cl,?_,h1,λy hy hf=>?_,λx d hx=>?_⟩
   ·rw[LP];have e1:(k == NameKind.free)=true:=by rw[hk];rfl
    have e2:cellOf env n=pure c:=by unfold cellOf;rw[hc]
    simp only[e1,e2,if_true,pure_bind];exact e
   ·rcases Yr.mp hy with rfl | hy
    ·exact h3 n c (by rw[C7];simp)
    ·exact h2 y hy hf
   ·by_cases hb:(x == n)=true
    ·exact h3 x c (by rw[C7,hb])
    ·exact h3 x d (by rw[C7];simp only[Bool.not_eq_true]at hb;rw[hb];exact hx)
  ·obtain⟨cl,e,h1,h2,h3⟩:=V4 r acc (λy hy=>h y (.tail _ hy)) ha;refine⟨cl,?_,h1,λy hy hf=>?_,h3⟩
   ·rw[LP];have e1:(k == NameKind.free)=false:=by cases k <;> first | rfl | exact absurd rfl hk
    simp only[e1,Ic,if_false,pure_bind];exact e
   ·rcases Yr.mp hy with rfl | hy
    ·exact absurd hf hk
    ·exact h2 y hy hf
def nu{scope:Scope}{env:Env}(h:∀ y∈scope.names,y.2=.free->∃ c,env.cells.lookup y.1=some c):
  ∃ cl:List (Str×Addr),closureFor scope env=pure cl/\(∀ x c,cl.lookup x=some c->env.cells.lookup x=some c)/\∀ y∈scope.names,y.2=.free->∃ c,cl.lookup y.1=some c:=by
 obtain⟨cl,e,h1,h2,_⟩:=V4 scope.names [] h (λ_ _ h=>by cases h);refine⟨cl,?_,h1,h2⟩;unfold closureFor;exact(congrArg (λm:Sem _=>m>>=λr=>pure r) e).trans (pure_bind _ _)
section
variable {X:Cx}{pins:PL}{σ:St}{H:Hp}{s:Shared}
def lM{params:Arguments}{body:Expr}{scope:Scope}{pos:Pos}{c P:Addr}{E:EV}{Q:EV}{qual:Str}(I:Inv X pins σ H s)(L:RZ X.mg X.base c P)(hcode:X.env.code=.ref c)(hq:X.env.qual++"<lambda>"=qual)
  (hT:E9 H P pos qual) (hdef:defaultsOf params X.env=([],[])) (Ar:∀ y∈scope.names,y.2=.free->∃ c,X.env.cells.lookup y.1=some c)
  (h:∀(f c':Addr) (oc:Obj) (vs:Array Value) (t:Tok) (ctv:Value) (cl:List (Str×Addr)) (H':Hp) (s':Shared),(∀ x c,cl.lookup x=some c->X.env.cells.lookup x=some c)->(∀ y∈scope.names,y.2=.free->∃ c,cl.lookup y.1=some c) ->
   Inv X pins σ H' s'->Bm P H H'->E9 H' P pos qual->H f=none->H' f=some (GZ (W.kla_obj "<lambda>" qual params body scope cl ((X.mg "__name__").getD .none) c' ctv))->H' c'=some (GZ oc)->oc.data=.fields vs->vs[1]?=some (.str qual t)->Q (.ref f) s'):
  wpAny (model X.prog X.w) X.A (eval (.Lambda params body scope pos) X.env) Q E s:=by
 refine W.kla_eval hdef ?_;obtain⟨cl,ecl,FV,Ct⟩:=nu Ar;have hg:s.heap.Ns mainGlobals X.mg:=I.mod.glob.keeps I.bk;have C:W.CodeHd s.heap c P:=L.code.keeps I.bk;have hb:s.heap.BuiltinsAt X.mg P:=L.blt.keeps I.bk;rw[hq]
 rcases hT with hT | ⟨c',oc,vs,t,hT,hc,hd,hv⟩
 ·have hP:s.heap.get? P=some (W.tabObj #[]):=I.hok P _ hT;have hPl:P<s.heap.objs.size:=Ye hP;refine W.kla_makeFunction ecl I.ok.glob hg hcode C hP trivial rfl L.ne hb λc' ctv h' tk hx hge Ab hrec htb=>?_;obtain⟨c₂,oc,vs,t,e2,hoc,hd,hv⟩:=hrec;cases e2;have hcP:c'≠P:=Cy (Yp hPl hge);have hfc:h'.objs.size≠c':=Cy Ab;have hfP:h'.objs.size≠P:=Cy (Nat.lt_trans (Yp hPl hge) Ab);have hfs:s.heap.objs.size<=h'.objs.size:=A6 hge (Jx Ab);have QI:h'.get? P=some (W.tabObj #[rawInt pos.line,rawInt pos.col,.ref c']):=by simpa using htb
  obtain⟨fo,efo⟩:∃ fo,fo=W.kla_obj "<lambda>" qual params body scope cl ((X.mg "__name__").getD .none) c' ctv:=⟨Z⟩;obtain⟨H',eH⟩:∃ H':Hp,H'=upd (upd (upd H P (.tbl #[rawInt pos.line,rawInt pos.col,.ref c'])) c' (GZ oc)) h'.objs.size (GZ fo):=⟨Z⟩;have OE:H' h'.objs.size=some (GZ fo):=by rw[eH];exact uS
  have Ap:H' c'=some (GZ oc):=by rw[eH,AD (Yj hfc)];exact uS
  have Uc:H' P=some (.tbl #[rawInt pos.line,rawInt pos.col,.ref c']):=by rw[eH,AD (Yj hfP),AD (Yj hcP)];exact uS
  have low:∀ b,b<s.heap.objs.size->b≠P->H' b=H b:=λb hb hbP=>by
   rw[eH,AD (Ys (Yp hb hfs)),AD (Ys (Yp hb hge)),AD hbP]
  have lowS:∀ b u,b≠P->H b=some u->H' b=some u:=λb u hbP e=>by rw[low b (I.hok.lt e) hbP];exact e
  have nP:∀ b,H b=none->b≠P:=λb n z=>by rw[z,hT]at n;cases n
  have kp:∀ b o,b≠P->s.heap.get? b=some o->(h'.push fo).get? b=some o:=λb o hbP e=>Yc _ (hx b o hbP e);have I':Inv X pins σ H' {s with heap:=h'.push fo,toks:=tk}:=by
   refine I.un ⟨λb o e n _ _=>kp b o (nP b n) e,λb o e n _ _=>⟨o.slots,kp b o (nP b n) e⟩,λb o e n _=>by rw[low b (Ye e) (nP b n)];exact n,λb o e _=>?_,λb xs e=>lowS b _ (λz=>by rw[z,hT]at e;cases e) e,λb o u e=>lowS b _ (λz=>by rw[z,hT]at e;cases e) e,λb ps e=>?_⟩ λb u e=>?_
   ·by_cases hbP:b=P
    ·exact⟨_,by rw[hbP];exact Yc _ QI⟩
    ·exact⟨o,kp b o hbP e⟩
   ·by_cases hbP:b=P
    ·rw[hbP,hT]at e;cases e;exact⟨#[rawInt pos.line,rawInt pos.col,.ref c'],by rw[hbP,Uc];simp⟩
    ·exact⟨#[],by rw[lowS b _ hbP e];simp⟩
   ·by_cases h1:b=h'.objs.size
    ·rw[h1,OE]at e;cases e;rw[h1];exact VA (by rw[efo];exact Yl _ rfl)
    by_cases h2:b=c'
    ·rw[h2,Ap]at e;cases e;rw[h2];exact VA (Yc _ hoc)
    by_cases h3:b=P
    ·rw[h3,Uc]at e;cases e;rw[h3];exact Yc _ QI
    have e':H b=some u:=by rw[eH,AD h1,AD h2,AD h3]at e;exact e
    refine(I.hok b u e').stay (λd v hd q=>kp d v (λz=>?_) q) (λd q=>lowS d _ (λz=>by rw[z,hT]at q;cases q) q) λd xs q=>lowS d _ (λz=>by rw[z,hT]at q;cases q) q
    rcases hd with z' | z'
    ·exact h3 (z'.symm.trans z)
    ·rw[z,hT]at z';cases z'
  have:=h h'.objs.size c' oc vs t ctv cl H' _ FV Ct I' (λb o hb e=>lowS b o hb e) (.inr ⟨c',oc,vs,t,Uc,Ap,hd,hv⟩) (I.hok.fresh hfs) (by rw[OE,efo]) Ap hd hv;rw[efo]at this;exact this
 ·have hP:s.heap.get? P=some (W.tabObj #[rawInt pos.line,rawInt pos.col,.ref c']):=I.hok P _ hT;have hPl:P<s.heap.objs.size:=Ye hP;refine W.kla_makeFunctionHit (cv:=.ref c') ecl I.ok.glob hg hcode C hP trivial (by simp[codeAmong,rawInt]) hb λctv h' tk hk hsz=>?_;have hfr:H h'.objs.size=none:=I.hok.fresh hsz;have lowS:∀ b u,H b=some u->(upd H h'.objs.size (GZ (W.kla_obj "<lambda>" qual params body scope cl ((X.mg "__name__").getD .none) c' ctv))) b=some u:=λb u e=>by rw[AD (AF e hfr)];exact e
  exact h h'.objs.size c' oc vs t ctv cl _ _ FV Ct (I.laid (t':=tk) (λb u e=>Yc _ (hk b u e)) hsz (VA (Yl _ rfl))) (λb o _ e=>lowS b o e) (.inr ⟨c',oc,vs,t,lowS _ _ hT,lowS _ _ hc,hd,hv⟩) hfr uS (lowS _ _ hc) hd hv
end
def Rb(X:Cx)(A:Around)(N:LS)(qual:Str)(scope:Scope)(f:Addr)(cd:Value)(cl:List (Str×Addr))(s:Shared)(H:Hp):Cx where
 prog:=X.prog
 w:=X.w
 K:=X.K
 mg:=X.mg
 base:=X.base
 A:=A.deeper (W.envX qual scope s.heap.objs.size f cd cl)
 N:=N
 s₀:=s
 H₀:=H
 env:=W.envX qual scope s.heap.objs.size f cd cl
 outer:=X.stack
 stack:=W.envX qual scope s.heap.objs.size f cd cl :: X.stack
 ex:=[]
 calm:=true
 fn:=λ_=>false
 pn:=[]
 xe:=λ_ _=>False
structure Wd(osc:Scope)(on:LS)(scope:Scope)(x:Str)(frees:LS)(js:LN):Prop where
 kind:scope.kind=.function
 co:scope.isCoroutine=false
 gen:scope.isGenerator=false
 nocell:∀ y∈scope.names,y.2≠.cell
 par:scope.names.lookup x=some .local
 fre:∀ y∈frees,scope.names.lookup y=some .free
 pl:js.map (λj=>on[j]?)=frees.map some
 fr:∀ y∈scope.names,y.2=.free->osc.names.lookup y.1=some .cell\/osc.names.lookup y.1=some .free
def lL{osc:Scope}{on:LS}{scope:Scope}{x:Str}{frees:LS}{js:LN}
  (h:((scope.kind == .function)&&!scope.isCoroutine&&!scope.isGenerator&&scope.names.all (λy=>y.2 != .cell)&&(scope.names.lookup x == some .local)&&frees.all (λy=>scope.names.lookup y == some .free)&&decide (js.map (λj=>on[j]?)=frees.map some) &&
   scope.names.all (λy=>y.2 != .free || (osc.names.lookup y.1 == some .cell || osc.names.lookup y.1 == some .free)))=true):Wd osc on scope x frees js:=by
 simp only[Dl,Bc,decide_eq_true_eq,Bool.or_eq_true,bne_iff_ne,beq_iff_eq,ne_eq,Bool.not_eq_true']at h;obtain⟨⟨⟨⟨⟨⟨⟨a,b⟩,c⟩,d⟩,e⟩,f⟩,g⟩,i⟩:=h;exact⟨a,b,c,d,e,f,g,λy hy z=>(i y hy).resolve_left (λq=>q z)⟩
section
variable {X:Cx}{pins:PL}{σ:St}{H:Hp}{s:Shared}
def vC{A:Around}{params:Arguments}{body:Expr}{scope:Scope}{qual x:Str}{frees:LS}{js:LN}{f c':Addr}{oc:Obj}{vs:Array Value}{t:Tok}{ctv pm:Value}{cl:List (Str×Addr)}{v:V}{u:Value}{tb:TE}{Q:VK}
  (I:Inv X pins σ H s) (hA:A.frames=some X.stack) (hh:A.handled=none) (hdp:A.depth<recursionLimit) (Lm:Wd X.env.scope X.N scope x frees js) (hf:H f=some (GZ (W.kla_obj "<lambda>" qual params body scope cl pm c' ctv)))
  (hc:H c'=some (GZ oc)) (hd:oc.data=.fields vs) (hv:vs[1]?=some (.str qual t)) (FV:∀ x c,cl.lookup x=some c->X.env.cells.lookup x=some c) (Ct:∀ y∈scope.names,y.2=.free->∃ c,cl.lookup y.1=some c)
  (hbind:bindArgs (W.kla_fn "<lambda>" qual params body scope cl pm (.ref c') ctv) ⟨[u],[]⟩=pure [(x,u)]) (ru:AS v u)
  (hb:PE (Rb X A (x :: frees) qual scope f (.ref c') cl s H) body tb) (h:tb (some v :: js.map λj=>(σ[j]?).join) H Q):
  wpAny (model X.prog X.w) A (call (.ref f) [u]) (EP X pins σ Q) (λ_ _=>False) s:=by
 have ho:s.heap.get? f=some (W.kla_obj "<lambda>" qual params body scope cl pm c' ctv):=(I.hok f _ hf).1;have hco:s.heap.get? c'=some oc:=(I.hok c' _ hc).1;have run:codeAny (model X.prog X.w) A (.call (.ref f) ⟨[u],[]⟩) (λr s'=>match r with | .ok (.ret u)=>EP X pins σ Q u s' | _=>False) s:=by
  refine W.kla_callFunE hdp ho rfl Lm.co Lm.gen rfl ⟨c',oc,vs,t,Y,hco,hd,hv⟩ ?_;rw[hbind];refine Jd (wpAny_newFunctionEnv Lm.nocell (λy hy=>by rw[Yi.mp hy];exact Lm.par) (λh' hns hsb=>?_) Lm.kind);have keep:∀ b o,s.heap.get? b=some o->h'.get? b=some o:=λb o e=>hsb.extBut b o (Ys (Ye e)) (Yc _ e);refine⟨I.nolimit.keeps keep,W.kla_codeExpr ?_⟩;have Xc:(Rb X A (x :: frees) qual scope f (.ref c') cl s H).Ok:=by
   refine⟨I.ok.mod,Lm.kind,Y,Y,Yd _,λy z c a b=>I.ok.inj y z c (FV y c a) (FV z c b),λy hy=>?_,(λy c z _=>by cases z),λ_=>hh,Around.frames_deeper hA,.inr ⟨Y,Y⟩,(λb z=>nomatch (show b∈([]:List Addr)from z)),I.bs,A6 I.ok.bsz I.sz,
    (λb _ _ z=>nomatch (show b∈([]:List Addr)from z)),(λb z=>nomatch (show b∈([]:List Addr)from z)),I.stack,I.stkFree⟩
   have hy:scope.names.lookup y=some .cell\/scope.names.lookup y=some .free:=hy
   rcases hy with hy | hy
   ·exact absurd rfl (Lm.nocell _ (Dp hy))
   ·exact Ct _ (Dp hy) rfl
  have I1:Inv (Rb X A (x :: frees) qual scope f (.ref c') cl s H) [] (some v :: js.map λj=>(σ[j]?).join) H {s with heap:=h',toks:=s.toks + 1}:=by
   refine⟨Xc,Y,I.bare,Un.kept keep,⟨_,hns,λi y v' h1 h2 h3=>?_⟩,λy c e=>?_,I.hok.fresh (Yd _),λy c e=>I.freeC y c (FV y c e),(λp hp=>nomatch (show p∈([]:PL)from hp)),I.hok.kept keep,?_⟩
   ·cases i with
    | zero =>
     have h1:some x=some y:=h1;have h2:some (some v)=some (some v'):=h2;cases h1;cases h2;exact⟨u,ru,.inl ⟨Lm.par,by show List.lookup x [(x,u)]=some u;simp⟩⟩
    | succ i =>
     have h1:frees[i]?=some y:=h1;have h2:(js.map λj=>(σ[j]?).join)[i]?=some (some v'):=h2;rw[Yf]at h2;obtain⟨j,hj,ej⟩:=He.mp h2;have e3:X.N[j]?=some y:=by
      have e4:=congrArg (·[i]?) Lm.pl;simp only[Yf,hj,h1,Option.map_some]at e4;exact Yv e4
     have e5:σ[j]?=some (some v'):=by
      cases q:σ[j]? with
      | none=>rw[q]at ej;cases ej
      | some z=>rw[q]at ej;rw[show z=some v' from ej]
     have fy:=Lm.fre y (Yh h1);have ky:=Lm.fr _ (Dp fy) rfl;obtain⟨m,_,lk⟩:=I.loc;obtain⟨u',iQ,L'⟩:=lk j y v' e3 e5 (.inr ky);obtain⟨c2,QS⟩:=Ct _ (Dp fy) rfl;refine⟨u',iQ,.inr ⟨.inr fy,c2,QS,?_⟩⟩
     rcases L' with⟨kl,_⟩ | ⟨_,c3,RH,cell⟩
     ·have kl:X.env.scope.names.lookup y=some .local:=kl
      rcases ky with ky | ky
      ·have ky:X.env.scope.names.lookup y=some .cell:=ky;rw[kl]at ky;cases ky
      ·have ky:X.env.scope.names.lookup y=some .free:=ky;rw[kl]at ky;cases ky
     ·rw[FV _ _ QS]at RH;cases RH;obtain⟨o,e,r⟩:=cell;exact⟨o,keep _ _ e,r⟩
   ·obtain⟨w',o,e',r⟩:=I.cell y c (FV y c e);exact⟨w',o,keep _ _ e',r⟩
   ·show(some v :: js.map λj=>(σ[j]?).join).length=(x :: frees).length;have:=congrArg List.length Lm.pl;rw[Ya,Ya]at this;rw[Bj,Bj,Ya,this]
  refine Jf (hb [] _ _ H Q I1 h) (λw' s' hq=>?_) λe s' z=>False.elim z;obtain⟨v',H',J,rv,q⟩:=hq;exact I.after ⟨v',H',J.os,J.bare,J.base,J.hok,rv,q⟩
 refine wpAny_call (codeAny_mono run λr s' hq=>?_);cases r with
 | error e=>exact hq
 | ok fl =>
  cases fl with
  | ret w'=>exact hq
  | next=>exact False.elim hq
  | brk=>exact False.elim hq
  | cont=>exact False.elim hq
end
end L2
namespace L2
open PySem PySem.Spec PyProof.Rows
open PySem.W (KasT kas_sort kas_cmp kas_item kas_st kas_runs kas_range)
def Nc{α:Type}(lt:Nat->Nat->Bool):KasT α->α
 | .ret a=>a
 | .ask i j k=>Nc lt (k (lt i j))
theorem cU{α:Type}{lt:Nat->Nat->Bool}{N:Nat}{R:α->Prop}:∀ {t:KasT α},BY lt N t R->BY lt N t (λa=>R a/\a=Nc lt t)
 | .ret _,h=>⟨h,Y⟩
 | .ask _ _ k,⟨h1,h2,h⟩=>⟨h1,h2,cU (t:=k _) h⟩
theorem cT{α:Type}{lt:Nat->Nat->Bool}{N:Nat}{R:α->Prop}:∀ {t:KasT α},BY lt N t R->R (Nc lt t)
 | .ret _,h=>h
 | .ask _ _ k,⟨_,_,h⟩=>cT (t:=k _) h
def sIx(n:Nat)(lt:Nat->Nat->Bool):Array Nat:=if n<2 then(List.range n).toArray else Nc lt (kas_sort n)
def Rp{O:KeyOrd}(key:Nat->O.α)(n:Nat):PB n (sIx n (Aq key))/\Gb key (sIx n (Aq key)) n:=by
 unfold sIx;by_cases h:n<2
 ·rw[if_pos h];refine⟨Ij _,λi j hij hj=>?_⟩;have:i=j:=by omega
  subst this;exact Il _
 ·rw[if_neg h];exact cT (aD (key:=key) (N:=n) (R:=λp=>PB n p/\Gb key p n) (by omega) λp a b=>⟨a,b⟩)
def ri(b:Bool)(n i:Nat):Nat:=if b then n - 1 - i else i
def YB{α:Type}(b:Bool)(l:List α):List α:=if b then l.reverse else l
def Km{O:KeyOrd}(b:Bool)(kf:Nat->O.α)(n:Nat):LN:=YB b ((sIx n (Aq λi=>kf (ri b n i))).toList.map (ri b n))
def HR{O:KeyOrd}(b:Bool)(kf:Nat->O.α)(xs:LV):LV:=(Km b kf xs.length).map λi=>xs.getD i .non
def vg(b:Bool)(n:Nat){l:LN}(h:l.Perm (List.range n)):(YB b (l.map (ri b n))).Perm (List.range n):=by
 cases b with
 | false =>
  show(l.map λi=>i).Perm _;rw[List.map_id'];exact h
 | true =>
  show((l.map λi=>n - 1 - i).reverse).Perm _;refine(List.reverse_perm _).trans ((h.map _).trans ?_);have e:(List.range n).map (λi=>n - 1 - i)=(List.range n).reverse:=by
   apply List.ext_getElem?;intro i;by_cases hi:i<n
   ·rw[Yf,LK hi,List.getElem?_reverse (by rw[Hf];exact hi),Hf,LK (by omega)];rfl
   ·rw[Gu (by rw[Ya,Hf];omega),Gu (by rw[Pm,Hf];omega)]
  rw[e];exact List.reverse_perm _
def Sb{O:KeyOrd}(b:Bool)(kf:Nat->O.α)(n:Nat):(Km b kf n).Perm (List.range n):=vg b n (Rp _ n).1
def p_{O:KeyOrd}(b:Bool)(kf:Nat->O.α)(n:Nat):(Km b kf n).Pairwise λi j=>if b then O.kle (kf j) (kf i)else O.kle (kf i) (kf j):=by
 obtain⟨pb,so⟩:=Rp (λi=>kf (ri b n i)) n;have pw:((sIx n (Aq λi=>kf (ri b n i))).toList.map (ri b n)).Pairwise λi j=>O.kle (kf i) (kf j):=by
  rw[Nk,List.pairwise_iff_getElem];intro i j hi hj hij;rw[Hh]at hi hj;have hs:=pb.size;have:=so i j (Jx hij) (by omega);unfold KN at this;simp only[Array.getD,hi,hj,dite_true]at this;simpa using this
 unfold Km;cases b with
 | false=>exact pw
 | true=>exact List.pairwise_reverse.mpr pw
def oZ{O:KeyOrd}(b:Bool)(kf:Nat->O.α)(xs:LV):(HR b kf xs).Perm xs:=by
 refine((Sb b kf xs.length).map _).trans ?_;have e:(List.range xs.length).map (λi=>xs.getD i V.non)=xs:=by
  apply List.ext_getElem?;intro i;by_cases hi:i<xs.length
  ·rw[Yf,LK hi,Yb hi];show some (xs.getD i V.non)=_;rw[Yk,Yb hi];rfl
  ·rw[Gu (by rw[Ya,Hf];omega),Gu (by omega)]
 rw[e]
section
variable {prog:Program}{w:World}{A:Around}{E:EV}{s:Shared}{a kS:Addr}{b:Bool}{vs:LU}{keys:Array Value}{e e1:Nat}{P:PySem.Fin->Shared->Prop}
def ae{st:SortSt}{res:Array Keyed}(nk:s.heap.get? kS=some (seqObj "list" keys e))(na:s.heap.get? a=some (seqObj "list" #[] e1))(hka:kS≠a)
  (D8:keys.size<64) (hr:arrOf st=res) (hz:res.size<64) (hfl:failedOf st=none)
  (h:∀ h' tk c,(∀ x o,x≠kS->x≠a->s.heap.get? x=some o->h'.get? x=some o)->(∃ o,h'.get? kS=some o)->h'.get? a=some (seqObj "list" (if b then(res.map (·.2)).reverse else res.map (·.2)) c)->P (.done (.ret .none)) {s with heap:=h',toks:=tk}):
  wpAny (model prog w) A (ksk_tail a b e1 (.ref kS) st) P E s:=by
 have hout:(if b then(res.map (·.2)).reverse else res.map (·.2)).size<64:=by
  cases b with
  | false=>simp only[Ic,if_false,Array.size_map];exact hz
  | true=>simp only[if_true,Array.size_reverse,Array.size_map];exact hz
 have s1:=Nq s.heap kS (Obj.mapSeq λ_=>(#[]:Array Value));have UK:(s.heap.update kS (Obj.mapSeq λ_=>(#[]:Array Value))).get? a=some (seqObj "list" #[] e1):=(s1.2 a hka.symm).trans na;have iW:∃ o,(s.heap.update kS (Obj.mapSeq λ_=>(#[]:Array Value))).get? kS=some o:=⟨_,get?_update_seq nk λ_=>#[]⟩;have s2:=Nq (s.heap.update kS (Obj.mapSeq λ_=>(#[]:Array Value))) a (Obj.mapSeq λ_=>if b then(res.map (·.2)).reverse else res.map (·.2));have Ct:=get?_update_seq UK λ_=>if b then(res.map (·.2)).reverse else res.map (·.2)
 unfold ksk_tail;rw[hr,hfl]
 try dsimp only
 refine Ja (listUpdate_at nk rfl ?_ (by rw[sizeLine_eq];omega) (A7 _));refine Ja (wpAny_letGo ?_);refine Ja (seqEpoch_at UK rfl ?_);refine Ja (listUpdate_at UK rfl ?_ (A7 _) (A6 (Jx hout) (by rw[sizeLine_eq];omega)));simp only[bne_self_eq_false,Ic,if_false];exact Jd (h _ _ _ (λx o x1 x2 q=>(s2.2 x x2).trans ((s1.2 x x1).trans q)) (let⟨o,q⟩:=iW;⟨o,(s2.2 kS hka).trans q⟩) Ct)
def uy{κ:SortKind}{it:Array Keyed}{O:KeyOrd}(key:Nat->O.α){Q:Unit×SortSt->Shared->Prop}(h2:2<=it.size)(D8:it.size<64)
  (cmp:∀ i j C,i<it.size->j<it.size->C (O.blt (key i) (key j)) s->wpAny (model prog w) A (keyLt' κ (kas_item it i).1 (kas_item it j).1) C (λ_ _=>False) s)
  (h:∀ st,arrOf st=(sIx it.size (Aq key)).map (kas_item it)->failedOf st=none->Q ((),st) s):wpAny (model prog w) A (sortRuns'.run (SortSt.mk' κ it #[] 7 none)) Q E s:=by
 have kp:=cU (aD (key:=key) (N:=it.size) (R:=λ_=>True) (by omega) λ_ _ _=>trivial);have ask:(kas_sort it.size).kasWp (kas_cmp prog w A κ it) (λp s'=>s'=s/\p=Nc (Aq key) (kas_sort it.size)) s :=
  bE (I:=λs'=>s'=s) (λi j C s' hi hj hI hC=>by subst hI;exact cmp i j C hi hj (hC _ rfl)) (λa s' hR hI=>⟨hI,hR.2⟩) _ _ kp rfl
 have run:=kas_runs (E:=E) (Q:=λ_ Ay s'=>s'=s/\arrOf Ay=(Nc (Aq key) (kas_sort it.size)).map (kas_item it)/\failedOf Ay=none) h2 D8 (λp' Ay s' a1 a2 a3 a4=>⟨a4.1,by rw[a2,a4.2],a3⟩) ask;have est:kas_st κ it (List.toArray (List.range it.size))=SortSt.mk' κ it #[] 7 none:=by
  show SortSt.mk' κ ((List.toArray (List.range it.size)).map (kas_item it)) #[] 7 none=_;rw[kas_range]
 rw[est]at run;refine Jf run (λr s' hq=>?_) λ_ _ z=>z;obtain⟨⟨⟩,st⟩:=r;obtain⟨e1,e2,e3⟩:=hq;subst e1;refine h st ?_ e3;unfold sIx;rw[if_neg (by omega)];exact e2
abbrev DQ(b:Bool)(keys:Array Value)(vs:LU):Array Keyed:=if b then(keys.zip vs.toArray).reverse else keys.zip vs.toArray
def ux{O:KeyOrd}(key:Nat->O.α){κ:SortKind}(nk:s.heap.get? kS=some (seqObj "list" keys e))(na:s.heap.get? a=some (seqObj "list" #[] e1))(hka:kS≠a)(hkl:keys.size=vs.length)(D8:vs.length<64)
  (hkind:2<=keys.size->∀ Q:SortKind->Shared->Prop,Q κ s->wpAny (model prog w) A (keyKind' keys) Q E s)
  (cmp:∀ i j C,i<vs.length->j<vs.length->C (O.blt (key i) (key j)) s->wpAny (model prog w) A (keyLt' κ (kas_item (DQ b keys vs) i).1 (kas_item (DQ b keys vs) j).1) C (λ_ _=>False) s)
  (h:∀ h' tk c,(∀ x o,x≠kS->x≠a->s.heap.get? x=some o->h'.get? x=some o)->(∃ o,h'.get? kS=some o) ->
   h'.get? a=some (seqObj "list" (if b then(((sIx vs.length (Aq key)).map (kas_item (DQ b keys vs))).map (·.2)).reverse else((sIx vs.length (Aq key)).map (kas_item (DQ b keys vs))).map (·.2)) c)->P (.done (.ret .none)) {s with heap:=h',toks:=tk}):
  wpAny (model prog w) A (ksk_end a b vs.toArray e1 (.ref kS) keys) P E s:=by
 have hzs:(DQ b keys vs).size=vs.length:=by
  unfold DQ;cases b with
  | false=>simp only[Ic,if_false];rw[Array.size_zip,hkl,Yo,Nat.min_self]
  | true=>simp only[if_true,Array.size_reverse];rw[Array.size_zip,hkl,Yo,Nat.min_self]
 have hps:=(Rp key vs.length).1.size;have step:∀ t:Sem PySem.Fin,wpAny (model prog w) A t P E s->wpAny (model prog w) A (if b=true then(do let _ <- rule "list.sort.reverse";t)else t) P E s:=by
  intro t ht;split
  ·exact Ja (wpAny_rule ht)
  ·exact ht
 unfold ksk_end
 try dsimp only
 refine step _ ?_;by_cases h2:vs.toArray.size<2
 ·rw[if_pos h2,if_pos h2];refine Ja (Jd ?_);rw[StateT.run_pure];refine Ja (Jd ?_)
  try dsimp only
  rw[Yo]at h2;refine ae (res:=(sIx vs.length (Aq key)).map (kas_item (DQ b keys vs))) nk na hka (by omega) ?_ (by rw[Array.size_map,hps];omega) rfl h;show DQ b keys vs=_;unfold sIx;rw[if_pos h2,<- hzs];exact(kas_range _).symm
 ·rw[if_neg h2,if_neg h2];rw[Yo]at h2;refine Ja (hkind (by omega) _ ?_);refine Ja (uy (it:=DQ b keys vs) key (by omega) (by omega) (λi j C hi hj hC=>cmp i j C (by omega) (by omega) hC) λst hst hf=>?_)
  try dsimp only
  refine ae (res:=(sIx vs.length (Aq key)).map (kas_item (DQ b keys vs))) nk na hka (by omega) (by rw[hst,hzs]) (by rw[Array.size_map,hps];omega) hf h
end
end L2
namespace L2
open PySem PySem.Spec PyProof.Rows
section
variable {X:Cx}{pins:PL}{σ:St}{H:Hp}{s:Shared}
def BA.same{b:Addr}{H':Hp}(f:BA X pins H b)(n:H' b=none):BA X pins H' b:=⟨n,f.2⟩
def vo{A:Around}{f:Value}{a kS:Addr}{b:Bool}{xs:LV}{vs:LU}{e1:Nat}{P:PySem.Fin->Shared->Prop}{E:EV}(F:Nat->V->Hp->Prop)(hF:∀ i v H1 H2,AB H1 H2->F i v H1->F i v H2)
  (I:Inv X pins σ H s) (nk:s.heap.get? kS=some (seqObj "list" #[] 0)) (na:s.heap.get? a=some (seqObj "list" #[] e1)) (hka:kS≠a) (fk:BA X pins H kS) (fa:BA X pins H a) (rv:AO xs vs) (D8:vs.length<64)
  (turn:∀ i x u H' s' Be,xs[i]?=some x->AS x u->AB H H'->Inv X Be σ H' s'->wpAny (model X.prog X.w) A (call f [u]) (EP X Be σ λv Bq=>AB H' Bq/\F i v Bq) (λ_ _=>False) s')
  (h:∀ H' s' kA e ks,Inv X pins σ H' s'->AB H H'->s'.heap.get? kS=some (seqObj "list" kA e)->s'.heap.get? a=some (seqObj "list" #[] e1)->BA X pins H' kS->BA X pins H' a->AO ks kA.toList->ks.length=xs.length->(∀ i k,ks[i]?=some k->F i k H') ->
   wpAny (model X.prog X.w) A (ksk_end a b vs.toArray e1 (.ref kS) kA) P E s'):
  wpAny (model X.prog X.w) A (ksk_rest a f b vs.toArray e1 (.ref kS)) P E s:=by
 have hxl:xs.length=vs.length:=rv.length;unfold ksk_rest;refine Ja (wpAny_rule ?_)
 first
  | rw[List.forIn_toArray]
  | (rw[<- Array.forIn_toList];simp only[List.toList_toArray])
  | rw[<- Array.forIn_toList]
 refine Ja (ksk_fold (λi s'=>∃ H' kA e ks,Inv X pins σ H' s'/\AB H H'/\s'.heap.get? kS=some (seqObj "list" kA e)/\s'.heap.get? a=some (seqObj "list" #[] e1)/\BA X pins H' kS/\BA X pins H' a/\AO ks kA.toList/\ks.length=i/\(∀ j k,ks[j]?=some k->F j k H')) vs 0 s
  ⟨H,#[],0,[],I,AB.refl _,nk,na,fk,fa,.nil,rfl,λj k z=>by simp at z⟩ ?step ?done)
 case step =>
  rintro j u s' hu ⟨H',kA,e,ks,I',sm,Hq,Hr,BK,Ez,rk,hkl,hks⟩;simp only[Nat.zero_add]at hkl ⊢;have hj:j<vs.length:=(Yn.mp hu).1;obtain⟨x,hx,rx⟩:∃ x,xs[j]?=some x/\AS x u:=by
   have HH:j<xs.length:=by omega
   obtain⟨u',A1,r⟩:=rv.get (Yb HH);rw[hu]at A1;cases A1;exact⟨_,Yb HH,r⟩
  have I2:Inv X ((kS,seqObj "list" kA e):: (a,seqObj "list" #[] e1):: pins) σ H' s':=I'.pins_of λp hp=>by
   rcases Yr.mp hp with rfl | hp
   ·exact⟨Hq,BK.1,BK.2.1,BK.2.2.1,λv z=>by cases z⟩
   ·rcases Yr.mp hp with rfl | hp
    ·exact⟨Hr,Ez.1,Ez.2.1,Ez.2.2.1,λv z=>by cases z⟩
    ·exact I'.pin p (Cq _ hp)
  refine Ja (wpAny_attempt (Jf (turn j x u H' s' _ hx rx sm I2) (λw' s2 he=>?_) λ_ _ z=>z.elim));obtain⟨v,H2,I3,UG,CY,fv⟩:=he;have p1:=I3.pin (kS,seqObj "list" kA e) (Cq _ (.head _));have p2:=I3.pin (a,seqObj "list" #[] e1) (Cq _ (.tail _ (.head _)));have I4:Inv X pins σ H2 s2:=I3.pins_of λp hp=>I3.pin p (Cq _ (.tail _ (.tail _ hp)));have ZJ:=BK.same p1.2.1;have jv:=Ez.same p2.2.1;have hz:kA.size=j:=by
   have h1:ks.length=kA.toList.length:=rk.length;rw[Hh]at h1;exact h1.symm.trans hkl
  have s1:=Nq s2.heap kS (Obj.mapSeq (·.push w'));obtain⟨c2,Ct⟩:∃ c2,(s2.heap.update kS (Obj.mapSeq (·.push w'))).get? kS=some (seqObj "list" (kA.push w') c2):=⟨_,get?_update_seq p1.1 (·.push w')⟩
  try dsimp only
  refine Ja (listUpdate_at p1.1 rfl ?_ (by rw[hz,sizeLine_eq];omega) (A6 (Nat.le_of_eq (Array.size_push ..)) (by rw[hz,sizeLine_eq];omega)));refine Jd ⟨Y,H2,kA.push w',c2,ks++[v],I4.turnedL (t':=s2.toks) (its:=[kS]) (λc o hc q=>(s1.2 c (λz=>hc (by simp[z]))).trans q) (λc hc=>by rw[Yi.mp hc];exact ZJ),sm.trans CY,Ct,(s1.2 a hka.symm).trans p2.1,ZJ,jv,?_,by rw[Yx,hkl];rfl,λi k hk=>?_⟩
  ·rw[Array.toList_push];exact rk.append (.cons UG .nil)
  ·rcases Nat.lt_trichotomy i ks.length with q | q | q
   ·rw[LL q]at hk;exact hF i k _ _ CY (hks i k hk)
   ·rw[q,Ih (Yd _),Nat.sub_self]at hk;cases hk;rw[q,hkl];exact fv
   ·rw[Gu (by rw[Yx];show ks.length + 1<=i;omega)]at hk;cases hk
 case done =>
  rintro s' ⟨H',kA,e,ks,I',sm,Hq,Hr,BK,Ez,rk,hkl,hks⟩
  try dsimp only
  refine Ja (listItems_at Hq rfl ?_);exact h H' s' kA e ks I' sm Hq Hr BK Ez rk (by rw[hkl,hxl,Nat.zero_add]) hks
end
def VJ{b:Bool}{keys:Array Value}{vs:LU}(hkl:keys.size=vs.length){i:Nat}(hi:i<vs.length):W.kas_item (DQ b keys vs) i=(keys.getD (ri b vs.length i) .none,vs.getD (ri b vs.length i) .none):=by
 have hz:(keys.zip vs.toArray).size=vs.length:=by rw[Array.size_zip,hkl,Yo,Nat.min_self]
 have at_:∀ {j:Nat},j<vs.length->(keys.zip vs.toArray)[j]?=some (keys.getD j .none,vs.getD j .none):=λ{j} hj=>by
  rw[Array.getElem?_eq_getElem (by omega)];have h1:j<keys.size:=by omega
  simp[Array.getD,h1,Yk,Yb hj]
 have g:∀ {xs:Array Keyed} {j:Nat} {x:Keyed},xs[j]?=some x->xs.getD j (Value.none,Value.none)=x:=λ{xs j x} h=>by
  obtain⟨hj,e⟩:=Pn.mp h;simp[Array.getD,hj,e]
 unfold W.kas_item DQ ri;cases b with
 | false=>simp only[Ic,if_false];exact g (at_ hi)
 | true =>
  simp only[if_true];refine g ?_;rw[Array.getElem?_reverse (by rw[hz];exact hi),hz];exact at_ (by omega)
theorem a_{xs:LV}{vs:LU}(r:AO xs vs):∀(l:LN),(∀ i∈l,i<xs.length)->AO (l.map λi=>xs.getD i .non) (l.map λi=>vs.getD i .none)
 | [],_=>.nil
 | i :: l,h=>by
  have hi:i<xs.length:=h i (.head _);obtain⟨u,hu,ru⟩:=r.get (Yb hi);refine .cons ?_ (a_ r l λj hj=>h j (.tail _ hj));show AS (xs.getD i V.non) (vs.getD i Value.none);rw[Yk,Yb hi,Yk,hu];exact ru
def uH{O:KeyOrd}{b:Bool}{keys:Array Value}{vs:LU}(kf:Nat->O.α)(hkl:keys.size=vs.length):
  (if b then(((sIx vs.length (Aq λi=>kf (ri b vs.length i))).map (W.kas_item (DQ b keys vs))).map (·.2)).reverse else((sIx vs.length (Aq λi=>kf (ri b vs.length i))).map (W.kas_item (DQ b keys vs))).map (·.2)).toList=(Km b kf vs.length).map λi=>vs.getD i .none:=by
 have hp:=(Rp (λi=>kf (ri b vs.length i)) vs.length).1;unfold Km;generalize sIx vs.length (Aq λi=>kf (ri b vs.length i))=p at hp;have e:(((p.map (W.kas_item (DQ b keys vs))).map (·.2)).toList)=(p.toList.map (ri b vs.length)).map λi=>vs.getD i .none:=by
  rw[Array.toList_map,Array.toList_map,CV,CV];refine Nr λi hi=>?_;show(W.kas_item (DQ b keys vs) i).2=_;rw[VJ hkl (Cz.mp (hp.mem_iff.mp hi))];rfl
 cases b with
 | false =>
  simp only[Ic,if_false];exact e
 | true =>
  simp only[if_true,Array.toList_reverse];rw[e];show _=((p.toList.map (ri true vs.length)).reverse).map _;rw[List.map_reverse]
section
variable {X:Cx}{pins:PL}{σ:St}{H:Hp}{s:Shared}
def nR{O:KeyOrd}{κ:SortKind}{f:Value}{b:Bool}{l:Addr}{xs:LV}{kw:List (Str×Value)}{Q:VK}{E:EV}(kf:Nat->O.α)(F:Nat->V->Hp->Prop)(hF:∀ i v H1 H2,AB H1 H2->F i v H1->F i v H2)(I:Inv X pins σ H s)(hl:SqL X.K H l xs)(D8:xs.length<64)
  (ZD:argsOk "sorted" ⟨[.ref l],kw⟩) (ja:∀ x,argsOk "list.sort" ⟨[.ref x],kw⟩) (ht:∀ x,Builtin.«list.sort» ⟨[.ref x],kw⟩=ksk_tree x f b)
  (turn:∀ i x u H' s' Be,xs[i]?=some x->AS x u->AB H H'->Inv X Be σ H' s'->wpAny (model X.prog X.w) X.A.in1.in1 (call f [u]) (EP X Be σ λv Bq=>AB H' Bq/\F i v Bq) (λ_ _=>False) s')
  (hkind:∀ ks kA H' s',Inv X pins σ H' s'->AO ks kA.toList->ks.length=xs.length->(∀ i k,ks[i]?=some k->F i k H')->2<=kA.size->∀(E:EV) (C:SortKind->Shared->Prop),C κ s'->wpAny (model X.prog X.w) X.A.in1.in1 (keyKind' kA) C E s')
  (cmp:∀ u1 u2 k1 k2 i j H' s',Inv X pins σ H' s'->AS k1 u1->AS k2 u2->F i k1 H'->F j k2 H'->∀ C:Bool->Shared->Prop,C (O.blt (kf i) (kf j)) s'->wpAny (model X.prog X.w) X.A.in1.in1 (keyLt' κ u1 u2) C (λ_ _=>False) s')
  (q:∀ D H',H D=none->AB H H'->H' D=some (.lst (HR b kf xs))->Q (.ref D) H'):
  wpAny (model X.prog X.w) X.A (call (.builtin "sorted") [.ref l] kw) (EP X pins σ Q) E s:=by
 obtain⟨vs,rv,pl,hz⟩:=I.list hl;have hxl:xs.length=vs.length:=rv.length;have hLs:s.heap.IsList l vs.toArray:=pl.isList;refine call_function_entry_kw kind_sorted plain_sorted entry_sorted ZD ?_;unfold Builtin.«sorted»;refine Ja (m:=checkCount "sorted" 1 1 _) (Jd ?_);refine Ja (collect_list hLs ?_ (by rw[sizeLine_eq];omega));refine Ja (wpAny_newList ?_ (by rw[sizeLine_eq];omega));have hsz:((s.heap.push (seqObj "list" #[] 0)).update s.heap.objs.size (Obj.mapSeq (·++vs.toArray))).objs.size=s.heap.objs.size + 1:=by
  rw[Heap.size_update,size_push']
 have hoL:(((s.heap.push (seqObj "list" #[] 0)).update s.heap.objs.size (Obj.mapSeq (·++vs.toArray))).push (seqObj "list" vs.toArray 0)).get? (s.heap.objs.size + 1)=some (seqObj "list" vs.toArray 0):=by
  rw[<- hsz];exact Yl _ rfl
 have keep:∀ b o,s.heap.get? b=some o->(((s.heap.push (seqObj "list" #[] 0)).update s.heap.objs.size (Obj.mapSeq (·++vs.toArray))).push (seqObj "list" vs.toArray 0)).get? b=some o:=λb o q=>by
  have Ab:b<s.heap.objs.size:=Ye q;rw[Heap.get?_push_ne _ _ _ (by rw[hsz];exact Ys (Px Ab)),Heap.get?_update_ne _ _ _ _ (Ys Ab),Heap.get?_push_ne _ _ _ (Ys Ab)];exact q
 show wpAny _ _ _ _ _ {s with heap:=((s.heap.push (seqObj "list" #[] 0)).update s.heap.objs.size (Obj.mapSeq (·++vs.toArray))).push (seqObj "list" vs.toArray 0) };rw[hsz];generalize((s.heap.push (seqObj "list" #[] 0)).update s.heap.objs.size (Obj.mapSeq (·++vs.toArray))).push (seqObj "list" vs.toArray 0)=g at hoL keep;have Ig:Inv X pins σ H {s with heap:=g}:=I.kept (t':=s.toks) keep;obtain⟨a,ea⟩:∃ a,a=s.heap.objs.size + 1:=⟨Z⟩;have hage:s.heap.objs.size<=a:=by rw[ea];exact Fs _
 rw[<- ea]at hoL ⊢;have hag:a<g.objs.size:=Ye hoL;refine Ja (Jj (wpAny_call_entry_kw slot_list_sort ⟨_,hoL,Y⟩ entry_list_sort ?body (ja _)))
 case body =>
  show wpAny (model X.prog X.w) X.A.in1.in1 (Builtin.«list.sort» ⟨[.ref a],kw⟩) _ _ _;rw[ht a];have s1:=Nq g a (Obj.mapSeq λ_=>(#[]:Array Value));have CO:=get?_update_seq hoL λ_=>(#[]:Array Value);generalize(if((λ_:Array Value=>(#[]:Array Value)) vs.toArray).size == vs.toArray.size then 0 else 0 + 1)=e1 at CO;replace CO:(g.update a (Obj.mapSeq λ_=>(#[]:Array Value))).get? a=some (seqObj "list" #[] e1):=CO;unfold ksk_tree;refine Ja (listItems_at hoL rfl ?_);refine Ja (listUpdate_at hoL rfl ?_ (by rw[Yo,sizeLine_eq];omega) (A7 _));refine Ja (seqEpoch_at CO rfl ?_);have RK:H a=none:=I.hok.fresh hage;have ZK:BA X pins H a:=I.fpOk hage RK;have I1:Inv X pins σ H {s with heap:=g.update a (Obj.mapSeq λ_=>(#[]:Array Value)) }:=Inv.turnedL (s:={s with heap:=g}) (t':=s.toks) (its:=[a]) Ig (λc o hc q=>(s1.2 c (λz=>hc (by simp[z]))).trans q) (λc hc=>by rw[Yi.mp hc];exact ZK);have z1:(g.update a (Obj.mapSeq λ_=>(#[]:Array Value))).objs.size=g.objs.size:=Heap.size_update ..;generalize g.update a (Obj.mapSeq λ_=>(#[]:Array Value))=g1 at CO I1 z1;refine Ja (wpAny_newTuple ?_ (by show vs.length<=_;rw[sizeLine_eq];omega));refine Ja (wpAny_newList ?_ (A7 _));refine Jj ?_;have z2:(g1.push (seqObj "tuple" vs.toArray 0)).objs.size=g1.objs.size + 1:=size_push' ..;have I2:Inv X pins σ H {s with heap:=(g1.push (seqObj "tuple" vs.toArray 0)).push (seqObj "list" #[] 0) }:=I1.kept (t':=s.toks) λb o e=>Yc _ (Yc _ e);have nk:((g1.push (seqObj "tuple" vs.toArray 0)).push (seqObj "list" #[] 0)).get? (g1.push (seqObj "tuple" vs.toArray 0)).objs.size=some (seqObj "list" #[] 0):=Yl _ rfl;have na:((g1.push (seqObj "tuple" vs.toArray 0)).push (seqObj "list" #[] 0)).get? a=some (seqObj "list" #[] e1):=Yc _ (Yc _ CO);have hkge:g1.objs.size<=(g1.push (seqObj "tuple" vs.toArray 0)).objs.size:=by rw[z2];exact Fs _
  have fk:BA X pins H (g1.push (seqObj "tuple" vs.toArray 0)).objs.size:=I1.fpOk hkge (I1.hok.fresh hkge);have hka:(g1.push (seqObj "tuple" vs.toArray 0)).objs.size≠a:=by
   rw[z2,z1];exact Cy (Px hag)
  show wpAny _ _ (ksk_rest a f b vs.toArray e1 (.ref (g1.push (seqObj "tuple" vs.toArray 0)).objs.size)) _ _ _;generalize(g1.push (seqObj "tuple" vs.toArray 0)).objs.size=kS at nk hka fk;generalize(g1.push (seqObj "tuple" vs.toArray 0)).push (seqObj "list" #[] 0)=g2 at nk na I2;refine vo F hF I2 nk na hka fk ZK rv (by omega) turn λH' s' kA e ks I' sm Hq Hr BK Ez rk hkl hks=>?_;have hkz:kA.size=vs.length:=by
   have h1:ks.length=kA.toList.length:=rk.length;rw[Hh]at h1;exact(h1.symm.trans hkl).trans hxl
  have kat:∀ {i:Nat},i<vs.length->∃ k,AS k (kA.getD i .none)/\F i k H':=λ{i} hi=>by
   have DG:i<ks.length:=by omega
   obtain⟨u,hu,ru⟩:=rk.get (Yb DG);refine⟨_,?_,hks i _ (Yb DG)⟩;have Cd:i<kA.size:=by omega
   have:kA.getD i .none=u:=by
    rw[LW,Array.getElem?_eq_getElem Cd]at hu;simp[Array.getD,Cd];exact Yv hu
   rw[this];exact ru
  have hri:∀ {i:Nat},i<vs.length->ri b vs.length i<vs.length:=λ{i} hi=>by
   unfold ri;cases b with
   | false=>exact hi
   | true=>show vs.length - 1 - i<vs.length;omega
  refine ux (λi=>kf (ri b vs.length i)) Hq Hr hka hkz (by omega) (λh2 C hC=>hkind ks kA H' s' I' rk hkl hks h2 _ C hC) (λi j C hi hj hC=>?_) λh' tk c kp ek YE=>⟨Z,?_⟩
  ·rw[VJ hkz hi,VJ hkz hj];obtain⟨k1,r1,f1⟩:=kat (hri hi);obtain⟨k2,r2,f2⟩:=kat (hri hj);exact cmp _ _ k1 k2 _ _ H' s' I' r1 r2 f1 f2 C hC
  refine Jd ⟨Z,?_⟩;have ev:=uH (b:=b) kf hkz;generalize(if b then(((sIx vs.length (Aq λi=>kf (ri b vs.length i))).map (W.kas_item (DQ b kA vs))).map (·.2)).reverse else((sIx vs.length (Aq λi=>kf (ri b vs.length i))).map (W.kas_item (DQ b kA vs))).map (·.2))=out at ev YE;have vy:AO (HR b kf xs) out.toList:=by
   rw[ev];unfold HR;rw[hxl];exact a_ rv _ λi hi=>by rw[hxl];exact Cz.mp ((Sb b kf vs.length).mem_iff.mp hi)
  have yl:(HR b kf xs).length<=sizeLine:=by
   rw[(oZ b kf xs).length_eq];exact sL (by omega)
  have Hr:∀ b u,H' b=some u->b≠a:=λb u e z=>by rw[z,Ez.1]at e;cases e
  have Hq:∀ b u,H' b=some u->b≠kS:=λb u e z=>by rw[z,BK.1]at e;cases e
  have low:∀ d u,H' d=some u->(upd H' a (.lst (HR b kf xs))) d=some u:=λd u e=>by rw[AD (Hr d u e)];exact e
  have ET:∀ {b:Addr},b∉[kS,a]->b≠kS/\b≠a:=λ{b} hb=>⟨λz=>hb (by simp[z]),λz=>hb (by simp[z])⟩;have I3:Inv X pins σ (upd H' a (.lst (HR b kf xs))) {s' with heap:=h',toks:=tk}:=by
   refine I'.step (g':=s'.gens) (d':=s'.drawn) (ch:=[kS,a]) (λb hb=>?_) (λb o _ _ hc e _=>kp b o (ET hc).1 (ET hc).2 e) (λb o _ _ hc e _=>⟨o.slots,kp b o (ET hc).1 (ET hc).2 e⟩)
    (λb o hc e n=>by rw[AD (ET hc).2];exact n) (λb o hc e=>⟨o,kp b o (ET hc).1 (ET hc).2 e⟩) (λb xs e=>low b _ e) (λb o u e=>low b _ e) (λb ps e=>⟨#[],by rw[low b _ e];simp⟩) (λm hm=>?_) (λb u e=>?_) I'.bare
   ·have:b=kS\/b=a:=by simpa using hb
    rcases this with rfl | rfl
    ·exact⟨BK.2.2.2.1,BK.2.1,BK.2.2.2.2.1,BK.2.2.2.2.2⟩
    ·exact⟨Ez.2.2.2.1,Ez.2.1,Ez.2.2.2.2.1,Ez.2.2.2.2.2⟩
   ·obtain⟨o,es,ep,ho,r⟩:=hm;exact⟨o,es,ep,kp _ o (Yj BK.2.1) (Yj Ez.2.1) ho,r⟩
   ·by_cases hb:b=a
    ·rw[hb,uS]at e;cases e;rw[hb];exact⟨yl,out.toList,c,vy,by rw[YE]⟩
    ·rw[AD hb]at e;refine(I'.hok b u e).stay (λd v hd q=>kp d v ?_ ?_ q) (λd q=>low d _ q) λd xs q=>low d _ q
     ·rcases hd with rfl | hd
      ·exact Hq _ _ e
      ·exact Hq _ _ hd
     ·rcases hd with rfl | hd
      ·exact Hr _ _ e
      ·exact Hr _ _ hd
  exact⟨.ref a,_,I3,Y,q a _ RK (λb o e=>low b o (sm b o e)) uS⟩
end
end L2
namespace L2
open PySem PySem.Spec PySem.Calls PyProof.Rows
section
variable {M:Model}{A:Around}{E:EV}{s:Shared}{env:Env}
def vL{pos:Pos}{id:String}{e:Expr}{kws:List Keyword}{Q:EV}
  (h:wpAny M A (spliced (backTo pos (starEach [e] env))) (λvs s1=>wpAny M A (evalAll ((backToKw pos (keywordEach kws env)).map (·.2))) (λks s2=>wpAny M A (call (.builtin id) vs (((backToKw pos (keywordEach kws env)).filterMap (·.1)).zip ks)) Q E s2) E s1) E s)
  (he:backTo pos (starEach [e] env)=[(false,eval e env)]:=by rfl) (ha:(backToKw pos (keywordEach kws env)).all (·.1.isSome)=true:=by rfl) (hk:(backToKw pos (keywordEach kws env)).any (·.1.isNone)=false:=by rfl):
  wpAny M A (callWith pos (.builtin id) [] (backTo pos (starEach [e] env)) (backToKw pos (keywordEach kws env))) Q E s:=by
 unfold callWith;rw[he]at h ⊢;refine Ja (Jj (Jf (evalArgs_kwB (Q:=λa s1=>wpAny M A (call (.builtin id) ([]++a.pos) a.kw) Q E s1) ha h) (λa s1 h1=>Ja (wpAny_standAt ?_)) λ_ _ x=>x));simp only[hk,Bool.or_false];refine Ja (Jd ?_);exact Ja (Jf h1 (λr s2 hr=>Ja (Jj (wpAny_point (Jd hr)))) λ_ _ z=>z)
end
def SqL.sameT{K:Fg}{H H':Hp}{P l:Addr}{ps:Array Value}{xs:LV}(h:SqL K H l xs)(hP:H P=some (.tbl ps))(sm:Bm P H H'):SqL K H' l xs:=by
 rcases h with h | h
 ·rcases h with h | ⟨o,h⟩
  ·exact .inl (.inl (sm _ _ (λz=>by rw[z,hP]at h;cases h) h))
  ·exact .inl (.inr ⟨o,sm _ _ (λz=>by rw[z,hP]at h;cases h) h⟩)
 ·exact .inr h
theorem E9.tbl{H:Hp}{P:Addr}{pos:Pos}{qual:Str}(h:E9 H P pos qual):∃ ps,H P=some (.tbl ps):=by
 rcases h with h | ⟨_,_,_,_,h,_⟩
 ·exact⟨_,h⟩
 ·exact⟨_,h⟩
def E9.keep{H H':Hp}{P:Addr}{pos:Pos}{qual:Str}(h:E9 H P pos qual)(k:∀ b o,(∃ ps,o=.tbl ps)\/(∃ ob u,o=.frz ob u)->H b=some o->H' b=some o):E9 H' P pos qual:=by
 rcases h with h | ⟨c,oc,vs,t,h1,h2,r⟩
 ·exact .inl (k _ _ (.inl ⟨Z⟩) h)
 ·exact .inr ⟨c,oc,vs,t,k _ _ (.inl ⟨Z⟩) h1,k _ _ (.inr ⟨_,Z⟩) h2,r⟩
def E9.mono{H H':Hp}{P:Addr}{pos:Pos}{qual:Str}(h:E9 H P pos qual)(s:AB H H'):E9 H' P pos qual:=h.keep λb o _ e=>s b o e
def Bm.trans{P:Addr}{H H1 H2:Hp}(a:Bm P H H1)(b:Bm P H1 H2):Bm P H H2:=λc o hc e=>b c o hc (a c o hc e)
def AB.t{P:Addr}{H H':Hp}(s:AB H H'):Bm P H H':=λb o _ e=>s b o e
def pk:bootBuiltins "sorted"=some (.builtin "sorted"):=by rfl'
section
variable {X:Cx}
end
end L2
namespace HT
open PySem
section
open PySem.SeqAt
open PySem.AutoSeq1 (wpAny_loadPart')
open PySem.MeetsSeq PySem.MeetsSeq2 PySem.MeetsSeq3
open PyProof.Rows (IntsAre)
def bf{vs:LU}{ns:List Int}(h:IntsAre vs ns):∀ {i:Nat}{v:Value},vs[i]?=some v->∃ a t,v=.int a t/\ns[i]?=some a:=by
 induction h with
 | nil=>intro i v e;cases i <;> cases e
 | cons n t h ih =>
  intro i v e;cases i with
  | zero=>cases e;exact⟨_,Z,Y⟩
  | succ i=>exact ih e
def lex_drop{ns ms:List Int}{i:Nat}{a c:Int}(h1:ns[i]?=some a)(h2:ms[i]?=some c):lexLt (ns.drop i) (ms.drop i)=if a=c then lexLt (ns.drop (i + 1)) (ms.drop (i + 1))else decide (a<c):=by
 obtain⟨l1,e1⟩:=Yn.mp h1;obtain⟨l2,e2⟩:=Yn.mp h2;rw[Pl l1,Pl l2,lexLt_cons,e1,e2]
def vF(l b:Addr)(items AQ:Array Value)(n n2:Nat)(dd GQ:Option Addr)(sl F4:Array (OU))(hsz:items.size=AQ.size)(ns ms:List Int)(hi:IntsAre items.toList ns)(hj:IntsAre AQ.toList ms)(k:Nat):
  ∀ i:Nat,items.size - i=k->Meets (Builtin.«list.__eq__.loop» ⟨[.ref l,.ref b,rawInt i,rawInt 0],[]⟩)
   (λA R s=>s.heap.get? l=some {cls:=.type "list",dict:=dd,data:=.seq items n,slots:=sl}/\s.heap.get? b=some {cls:=.type "list",dict:=GQ,data:=.seq AQ n2,slots:=F4} /\
    R (.ok (.ret (.bool (lexLt (ns.drop i) (ms.drop i))))) s):=by
 have z1:items.size=ns.length:=by rw[<- hi.length];simp
 have z2:AQ.size=ms.length:=by rw[<- hj.length];simp
 induction k with
 | zero =>
  intro i hk prog w A R s h;obtain⟨hp,g,d,tk,os⟩:=s;obtain⟨hl,hb,h⟩:=h
  wp_walk using wpAny_loadPart' hl,wpAny_loadPart' hb
  have Ef:items[((i:Nat):Int).toNat]?=none:=by simp;omega
  have Cd:AQ[((i:Nat):Int).toNat]?=none:=by simp;omega
  rw[Pw (by omega),Pw (by omega)]at h;rw[Ef,Cd]
  wp_walk using wpAny_loadPart' hl,wpAny_loadPart' hb
  show R (.ok (.ret (.bool (decide (items.size<AQ.size))))) _;rw[hsz,Jc (FH _)];exact h
 | succ k ih =>
  intro i hk prog w A R s h;obtain⟨hp,g,d,tk,os⟩:=s;obtain⟨hl,hb,h⟩:=h
  wp_walk using wpAny_loadPart' hl,wpAny_loadPart' hb
  have Ab:i<items.size:=by omega
  have QN:i<AQ.size:=by omega
  have Ef:items[((i:Nat):Int).toNat]?=some items[i]:=by simp[Ab]
  have Cd:AQ[((i:Nat):Int).toNat]?=some AQ[i]:=by simp[QN]
  have hc:((i:Int) + 1)=((i + 1:Nat):Int):=by push_cast;rfl
  obtain⟨a,t,ea,na⟩:=bf hi (i:=i) (v:=items[i]) (by simp[Ab]);obtain⟨c,u,ec,nc⟩:=bf hj (i:=i) (v:=AQ[i]) (by simp[QN]);rw[lex_drop na nc]at h;rw[Ef,Cd,ea,ec];obtain⟨e,he,hiff⟩:=kJ A.in1 ⟨hp,g,d,tk,os⟩ a t c u;refine Ja (he prog w _ _ ?_);cases e with
  | true =>
   rw[if_pos (hiff.mp rfl)]at h
   wp_walk
   rw[hc];exact⟨plainId_quiet plain_eq_loop _,codeAny_builtin entry_eq_loop (by
    rw[Around.under_plainId plain_eq_loop _];exact ih (i + 1) (by omega) prog w A R _ ⟨hl,hb,h⟩)⟩
  | false =>
   rw[if_neg (λq=>absurd (hiff.mpr q) Yq)]at h;have hri:=lI A.in1 ⟨hp,g,d,tk,os⟩ a t c u prog w
   wp_walk using wpAny_loadPart' hl,wpAny_loadPart' hb
   rw[Ef,Cd,ea,ec]
   wp_walk using hri
   exact h
def list_lt_ints(l b:Addr)(items AQ:Array Value)(n n2:Nat)(dd GQ:Option Addr)(sl F4:Array (OU))(hsz:items.size=AQ.size)(ns ms:List Int)(hi:IntsAre items.toList ns)(hj:IntsAre AQ.toList ms):
  Meets (Builtin.«list.__lt__» ⟨[.ref l,.ref b],[]⟩)
   (λA R s=>s.heap.get? l=some {cls:=.type "list",dict:=dd,data:=.seq items n,slots:=sl}/\s.heap.get? b=some {cls:=.type "list",dict:=GQ,data:=.seq AQ n2,slots:=F4} /\
    R (.ok (.ret (.bool (lexLt ns ms)))) s):=by
 intro prog w A R s h;obtain⟨hp,g,d,tk,os⟩:=s;obtain⟨hl,hb,h⟩:=h;have f3:=AutoSeq1.sub_list_list
 wp_walk using wpAny_loadPart' hl,wpAny_loadPart' hb
 exact⟨plainId_quiet plain_eq_loop _,codeAny_builtin entry_eq_loop (by
  rw[Around.under_plainId plain_eq_loop _];exact vF l b items AQ n n2 dd GQ sl F4 hsz ns ms hi hj _ 0 rfl prog w A R _ ⟨hl,hb,h⟩)⟩
end
end HT
namespace L2
open PySem PySem.Spec PySem.Calls PyProof.Rows
theorem aG:∀ a:List Int,HT.lexLt a a=false
 | []=>rfl
 | x :: a=>by rw[HT.lexLt_cons,if_pos rfl];exact aG a
theorem Rj:∀ a b c:List Int,HT.lexLt a b=true->HT.lexLt b c=true->HT.lexLt a c=true
 | [],[],_,h,_=>by cases h
 | [],_ :: _,[],_,h=>by cases h
 | [],_ :: _,_ :: _,_,_=>rfl
 | _ :: _,[],_,h,_=>by cases h
 | _ :: _,_ :: _,[],_,h=>by cases h
 | x :: a,y :: b,z :: c,h1,h2=>by
  rw[HT.lexLt_cons]at h1 h2 ⊢;by_cases e1:x=y
  ·rw[if_pos e1]at h1;by_cases e2:y=z
   ·rw[if_pos e2]at h2;rw[if_pos (e1.trans e2)];exact Rj a b c h1 h2
   ·rw[if_neg e2]at h2;rw[if_neg (by rw[e1];exact e2),e1];exact h2
  ·rw[if_neg e1]at h1;have h1:=Je h1;by_cases e2:y=z
   ·rw[if_neg (by rw[<- e2];exact e1),<- e2];exact Jb h1
   ·rw[if_neg e2]at h2;have h2:=Je h2;rw[if_neg (by omega)];exact Jb (by omega)
theorem R1:∀ a b:List Int,HT.lexLt a b=false->HT.lexLt b a=false->a=b
 | [],[],_,_=>rfl
 | [],_ :: _,h,_=>by cases h
 | _ :: _,[],_,h=>by cases h
 | x :: a,y :: b,h1,h2=>by
  rw[HT.lexLt_cons]at h1 h2;by_cases e1:x=y
  ·rw[if_pos e1]at h1;rw[if_pos e1.symm]at h2;rw[e1,R1 a b h1 h2]
  ·rw[if_neg e1]at h1;rw[if_neg (λz=>e1 z.symm)]at h2;have h1:=of_decide_eq_false h1;have h2:=of_decide_eq_false h2;exact absurd (by omega) e1
def vD(a b c:List Int)(h:HT.lexLt a c=true):HT.lexLt a b=true\/HT.lexLt b c=true:=by
 cases h1:HT.lexLt a b with
 | true=>exact .inl rfl
 | false =>
  cases h2:HT.lexLt b a with
  | true=>exact .inr (Rj b a c h2 h)
  | false=>rw[<- R1 a b h1 h2];exact .inr h
def Kn:KeyOrd where
 α:=List Int
 blt:=HT.lexLt
 irrefl:=aG
 trans:=Rj
 negTrans:=vD
 total:=R1
section
variable {prog:Program}{w:World}{A:Around}{E:EV}{s:Shared}
def lO{l b:Addr}{items AQ:Array Value}{ns ms:List Int}{Q:Bool->Shared->Prop}(hl:s.heap.IsList l items)(hb:s.heap.IsList b AQ)(hi:IntsAre items.toList ns)(hj:IntsAre AQ.toList ms)(hz:ns.length=ms.length)
  (hu:A.units<cLine) (h:Q (HT.lexLt ns ms) s):wpAny (model prog w) A (keyLt' oneType' (.ref l) (.ref b)) Q E s:=by
 obtain⟨⟨cls,dd,data,sl⟩,ho,hc,n,hd⟩:=id hl;obtain⟨⟨QU,GQ,data2,F4⟩,BF,Ct,n2,hd2⟩:=id hb;simp only at hc hd Ct hd2;subst hc hd Ct hd2;have z1:items.size=ns.length:=by rw[<- hi.length];simp
 have z2:AQ.size=ms.length:=by rw[<- hj.length];simp
 rw[keyLt'_oneType,oneLt'_eq];simp only[if_true];refine Ja (wpAny_cRoomFor hu ?_);refine Ja (wpAny_callSpecialIfBound?_slot (T:="list") ⟨_,ho,Y⟩ PySem.F.slot_list_lt (call_meets PySem.F.slot_list_lt ⟨_,ho,Y⟩ PySem.F.entry_list_lt (PySem.F.args_list_lt_2 _ _) (HT.list_lt_ints l b items AQ n n2 dd GQ sl F4 (by omega) ns ms hi hj) ⟨ho,BF,?_⟩));exact Jh h
end
def uh(K:Fg)(P:Addr)(lpos:Pos)(qual:Str)(te tb:TE)(js:LN):TE:=λσ H Q=>te σ H λv H1=>∃(l:Addr) (xs:LV) (kf:Nat->List Int) (m:Nat),v=.ref l/\SqL K H1 l xs/\xs.length<64/\E9 H1 P lpos qual /\
 ∀ H2,Bm P H1 H2->E9 H2 P lpos qual ->
  (∀ i x H3,xs[i]?=some x->AB H2 H3->tb (some x :: js.map λj=>(σ[j]?).join) H3 λk H4=>AB H3 H4/\(kf i).length=m/\∃ d,k=.ref d/\H4 d=some (.lst ((kf i).map V.int))) /\
  ∀ D H3,H2 D=none->AB H2 H3->H3 D=some (.lst (HR (O:=Kn) false kf xs))->Q (.ref D) H3
section
variable {X:Cx}
def lB{e body:Expr}{params:Arguments}{scope:Scope}{lpos i8 p pos:Pos}{te tb:TE}{x:Str}{c P:Addr}{qual:Str}(frees:LS)(js:LN)(hc:X.calm=true)(hg:Gl X "sorted")(hm:X.mg "sorted"=none)(he:PE X e te)
  (L:RZ X.mg X.base c P) (hcode:X.env.code=.ref c) (hq:X.env.qual++"<lambda>"=qual) (Lm:Wd X.env.scope X.N scope x frees js) (hdp:X.A.depth<recursionLimit) (hu:X.A.in1.in1.units<cLine)
  (hb:∀(f c':Addr) (cl:List (Str×Addr)) (s:Shared) (H:Hp),PE (Rb X X.A.in1.in1 (x :: frees) qual scope f (.ref c') cl s H) body tb)
  (hbind:∀(cl:List (Str×Addr)) (pm:Value) (c':Addr) (ctv u:Value),bindArgs (W.kla_fn "<lambda>" qual params body scope cl pm (.ref c') ctv) ⟨[u],[]⟩=pure [(x,u)]:=by intros;rfl)
  (hdef:defaultsOf params X.env=([],[]):=by rfl)
  (hs:backTo pos (starEach [e] X.env)=[(false,eval e X.env)]:=by rfl):
  PE X (.Call (.Name "sorted" p) [e] [⟨some "key",.Lambda params body scope lpos,i8⟩] pos) (uh X.K P lpos qual te tb js):=by
 ac_rfl;refine wpAny_Call_Name_kw (Fh I hg hm pk ?_);refine vL ?_ hs rfl rfl;rw[hs];refine spliced_cons (AK (he pins s σ H _ I h) λu s1 ⟨v,H1,I1,r1,l,xs,kf,m,ev,hl,D8,hT,q⟩=>spliced_nil ?_);subst ev;obtain rfl:u=Value.ref l:=r1;show wpAny _ _ (evalAll ((do let v <- eval (.Lambda params body scope lpos) X.env;standAt pos;pure v):: [])) _ _ s1;refine wpAny_evalAll_cons (Ja ?_);have Ar:∀ y∈scope.names,y.2=.free->∃ c,X.env.cells.lookup y.1=some c:=λy hy z=>I1.ok.has y.1 (Lm.fr y hy z);refine lM I1 L hcode hq hT hdef Ar λf c' oc vs t ctv cl H2 s2 FV Ct I2 sm RN hfr hf hcc hd hv=>?_;refine Ja (wpAny_standAt (Jd (wpAny_evalAll_nil ?_)));obtain⟨ps,hP⟩:=hT.tbl;obtain⟨qk,qr⟩:=q H2 sm RN;show wpAny _ _ (call (.builtin "sorted") [.ref l] [(Str.ofString "key",.ref f)]) _ _ _;refine nR (O:=Kn) (κ:=oneType') kf (λi v H'=>(kf i).length=m/\∃ d,v=.ref d/\H' d=some (.lst ((kf i).map V.int))) (λ_ _ _ _ iJ z=>⟨z.1,z.2.elim λd z=>⟨d,z.1,iJ _ _ z.2⟩⟩) I2 (hl.sameT hP sm) D8 (ksk_s1 _ _) (λx=>ksk_l1 _ _) (λx=>ksk_t1 f x) (λi x' u H' s' Be hx ru smH I'=>?_) (λks kA H' s' I' rk hkl hks h2 E C hC=>?_) (λu1 u2 k1 k2 i j H' s' I' r1 r2 e1 e2 C hC=>?_) qr
 ·exact vC (A:=X.A.in1.in1) I' I'.ok.frames (I'.ok.hd hc) hdp Lm (smH _ _ hf) (smH _ _ hcc) hd hv FV Ct (hbind cl _ c' ctv u) ru (hb f c' cl s' H') (qk i x' H' hx smH)
 ·refine Eq.mp (congrArg (λz=>wpAny (model X.prog X.w) X.A.in1.in1 (keyKind' z) C E s') (Array.toArray_toList (xs:=kA))) (W.kas_kind (T:=.type "list") (by rw[Hh];exact h2) (λv hv=>?_) rfl rfl hC);obtain⟨i,hi⟩:=Ip hv;have DG:i<ks.length:=by rw[rk.length];exact(Yn.mp hi).1
  obtain⟨u,A1,ru⟩:=rk.get (Yb DG);obtain⟨_,d,ed,OF⟩:=hks i _ (Yb DG);rw[hi]at A1;injection A1 with A1;subst A1;rw[ed]at ru;obtain rfl:v=Value.ref d:=ru;obtain⟨xA,_,pl,_⟩:=I'.list (a:=d) (xs:=(kf i).map V.int) (.inl (.inl OF));obtain⟨o,ho,hcl,_⟩:=pl.isList;rw[<- hcl];exact(W.Looks.ld ho).andThen .now
 ·obtain⟨m1,d1,rfl,q1⟩:=e1;obtain⟨m2,d2,rfl,q2⟩:=e2;obtain rfl:u1=Value.ref d1:=r1;obtain rfl:u2=Value.ref d2:=r2;obtain⟨v1,iP,p1,_⟩:=I'.list (a:=d1) (xs:=(kf i).map V.int) (.inl (.inl q1));obtain⟨v2,UG,p2,_⟩:=I'.list (a:=d2) (xs:=(kf j).map V.int) (.inl (.inl q2));exact lO p1.isList p2.isList (by simpa using V5 iP) (by simpa using V5 UG) (m1.trans m2.symm) hu hC
end
end L2
namespace L2
open PySem PySem.Spec PyProof.Rows
def mU{P:Program}{w:World}{K:Fg}{mg mb:Str->OU}{CX:Es}{k:Nat}{x:Str}{sp:Sp}{s₁:Shared}{vs:LU}{ns:List Int}(ts:List Addr)
  (hts:∀ T∈ts,s₁.heap.get? T=some (W.tabObj #[])) (hcd:∀ T∈ts,∃ c,W.CodeHd s₁.heap c T) (hKt:∀ T∈ts,K.lookup T=none)
  (hbm:∃ bm ob,mg "__builtins__"=some (.ref bm)/\bm≠builtinsNs/\s₁.heap.get? bm=some ob/\ob.cls=.type "module"/\ob.dict=some builtinsNs/\ob.data=.plain)
  (KX:K.In s₁.heap) (hns:s₁.heap.Ns mainGlobals mg) (hb:s₁.heap.Ns builtinsNs mb) (hbb:∀ x:Str,x≠"__name__"->mb x=bootBuiltins x) (hlim:s₁.heap.NoLimit) (hg:s₁.gens=#[])
  (ha:s₁.heap.get? a=some {cls:=.type "list",data:=.seq vs.toArray}) (hi:IntsAre vs ns) (hl:ns.length<=sizeLine) (hr:AV k callerA)
  (F:∀ base:Heap,K.In base->base.Ns mainGlobals mg->(∀ T∈ts,mainGlobals≠T/\base.BuiltinsAt mg T)->Ax P w K mg base CX k fa fd [x] sp) (hbind:∀(s:Shared) (u:Value),BindsTo s fd ⟨[u],[]⟩ [(x,u)])
  (hsp:∀ H:Hp,SqL K H a (ns.map V.int)->(∀ T∈ts,H T=some (.tbl #[]))->sp [.ref a] H (λv _=>v=.bl true) λ_ _ _=>False)
  (hCX:∀ H e s',CX [] H s₁ (λ_ _ _=>False) e s'->False):
  codeAny (model P w) callerA (.call (.ref fa) ⟨[.ref a],[]⟩) (λr s'=>r=.ok (.ret (.bool true))/\OldK s₁.heap s'.heap/\s'.os=s₁.os/\AllBare s'.gens) s₁:=by
 have rv:=dD hi;have lenV:=hi.length;have hat:a∉ts:=λz=>by have e:=hts a z;rw[ha]at e;cases e
 have core:∀ H:Hp,SqL K H a (ns.map V.int)->BE P w H s₁.heap->(∀ b,H b≠none->b=a\/b∈ts)->(∀ T∈ts,H T=some (.tbl #[]))->(H a≠none->K.lookup a=none/\∃ o xs,H a=some (.frz o (.lst xs))) ->
   codeAny (model P w) callerA (.call (.ref fa) ⟨[.ref a],[]⟩) (λr s'=>r=.ok (.ret (.bool true))/\OldK s₁.heap s'.heap/\s'.os=s₁.os/\AllBare s'.gens) s₁:=by
  intro H hS hok hA hT hK;have base_of:∀ {b:Addr} {o:Obj},s₁.heap.get? b=some o->H b=none->(HQ s₁.heap H).get? b=some o:=λe n=>kQ e n;have noA:∀ {b:Addr} {o:Obj},s₁.heap.get? b=some o->(∀ its n,o.data≠.seq its n)->(∀ fs,o.data≠.fields fs)->H b=none:=λ{b o} e d1 d2=>by
   cases q:H b with
   | none=>rfl
   | some u =>
    rcases hA b (by rw[q];simp)with e' | e'
    ·subst e';rw[ha]at e;cases e;exact absurd rfl (d1 _ _)
    ·rw[hts b e']at e;cases e;exact absurd rfl (d2 _)
  have nsK:∀ {b:Addr} {m:Str->OU},s₁.heap.Ns b m->(HQ s₁.heap H).Ns b m:=λ{b m} ⟨o,es,ep,e,d,r⟩=>⟨o,es,ep,base_of e (noA e (λ_ _ z=>by rw[d]at z;cases z) (λ_ z=>by rw[d]at z;cases z)),d,r⟩;have hKb:K.In (HQ s₁.heap H):=λb o e=>base_of (KX b o e) (by
   cases q:H b with
   | none=>rfl
   | some u =>
    rcases hA b (by rw[q];simp)with e' | e'
    ·subst e';rw[(hK (by rw[q];simp)).1]at e;cases e
    ·rw[hKt b e']at e;cases e)
  have hM:Mod K mg (HQ s₁.heap H):=⟨hKb,nsK hns,⟨mb,nsK hb,hbb⟩,let⟨mc,h1,h2⟩:=hlim;⟨mc,nsK h1,h2⟩⟩;have hbt:∀ T∈ts,mainGlobals≠T/\(HQ s₁.heap H).BuiltinsAt mg T:=λT hTm=>by
   obtain⟨bm,ob,b1,b2,b3,b4,b5,b6⟩:=hbm;have hgT:mainGlobals≠T:=λq=>by
    obtain⟨o,es,ep,e,hd,_⟩:=hns;rw[q,hts T hTm]at e;cases e;cases hd
   refine⟨hgT,bm,ob,b1,b2,λq=>?_,λq=>?_,base_of b3 (noA b3 (λ_ _ z=>by rw[b6]at z;cases z) (λ_ z=>by rw[b6]at z;cases z)),b4,b5,b6⟩
   ·obtain⟨o,es,ep,e,hd,_⟩:=hns;rw[q,e]at b3;cases b3;rw[hd]at b6;cases b6
   ·rw[q,hts T hTm]at b3;cases b3;cases b4
  have e0:EZ P w K mg (HQ s₁.heap H) callerA [] s₁ H:=⟨Y,hM,λb o e=>vv e,Nat.le_of_eq (mL _ _),trivial,λb hb=>absurd (show b∈([]:List Addr)from hb) (by simp),hok,.of_eq hg⟩;refine codeAny_mono ((F _ hKb (nsK hns) hbt).run callerA [] s₁ H ⟨[.ref a],[]⟩ [.ref a] [.ref a] _ _ hr e0 (hbind s₁ (.ref a)) (.cons rfl .nil) (hsp H hS hT)) λr s' h=>?_;cases r with
  | error e=>exact(hCX H e s' h).elim
  | ok fl =>
   cases fl with
   | next=>exact False.elim h
   | brk=>exact False.elim h
   | cont=>exact False.elim h
   | ret u =>
    obtain⟨v,H',os,bare,un,QK,r',q⟩:=h;have q':v=.bl true:=q;subst q';obtain rfl:u=Value.bool true:=r';have keep:∀ b o,b∉ts->s₁.heap.get? b=some o->s'.heap.get? b=some o:=λb o Xk e=>by
     cases q:H b with
     | none=>exact un.keep b o e q (by intro z;exact absurd (show b∈([]:List Addr)from z) (by simp)) (by simp)
     | some u =>
      rcases hA b (by rw[q];simp)with z | z
      ·subst z;obtain⟨_,ob,xs,z⟩:=hK (by rw[q];simp);have z2:=un.frzs b ob _ z;obtain⟨e1,_⟩:=hok b _ z;obtain⟨e2,_⟩:=QK b _ z2;rw[e]at e1;cases e1;exact e2
      ·exact absurd z Xk
    have grown:∀ b o,b∈ts->s₁.heap.get? b=some o->isCodeTable s₁.heap b/\o=W.tabObj #[]/\∃ ps,s'.heap.get? b=some (W.tabObj ps):=λb o hb e=>by
     have e2:=hts b hb;obtain⟨c,hc⟩:=hcd b hb;obtain⟨more,hm⟩:=un.tbls b _ (hT b hb);have e3:s'.heap.get? b=some (W.tabObj (#[]++more)):=QK b _ hm;rw[e]at e2;exact⟨(hc.tab (hts b hb)).isCodeTable,Yv e2,_,e3⟩
    refine⟨Y,⟨λb o e=>?_,λb o e=>?_⟩,os,bare⟩
    ·by_cases hb:b∈ts
     ·obtain⟨ht,rfl,ps,hP⟩:=grown b o hb e;exact .inr (.inl ⟨ht,Y,#[],ps,Y,by rw[Array.empty_append];exact hP⟩)
     ·exact .inl (keep b o hb e)
    ·by_cases hb:b∈ts
     ·obtain⟨_,_,ps,hP⟩:=grown b o hb e;exact⟨_,hP⟩
     ·exact⟨o,keep b o hb e⟩
 cases hk:K.lookup a with
 | some o =>
  have e:=KX a o hk;rw[ha]at e;cases e;refine core (λb=>if b∈ts then some (.tbl #[])else none) (.inr ⟨_,vs.toArray,_,hk,Y,Y,Y,by rw[Yo,lenV];exact hl,by simpa using rv⟩) (λb u z=>?_) (λb z=>?_) (λT hT=>if_pos hT) λz=>absurd (if_neg hat) z
  ·by_cases hb:b∈ts
   ·have z':=(if_pos hb).symm.trans z;cases z';exact hts b hb
   ·have z':=(if_neg hb).symm.trans z;cases z'
  ·by_cases hb:b∈ts
   ·exact .inr hb
   ·exact absurd (if_neg hb) z
 | none =>
  refine core (λb=>if b=a then some (.frz {cls:=.type "list",data:=.seq vs.toArray} (.lst (ns.map V.int)))else if b∈ts then some (.tbl #[])else none) (.inl (.inr ⟨{cls:=.type "list",data:=.seq vs.toArray},if_pos rfl⟩)) (λb u z=>?_) (λb z=>?_) (λT hT=>?_) λ_=>⟨hk,_,_,if_pos rfl⟩
  ·by_cases hb:b=a
   ·have z':=(if_pos hb).symm.trans z;cases z';subst hb;exact⟨ha,by rw[Ya];exact hl,vs,_,rv,ha⟩
   ·have z':=(if_neg hb).symm.trans z;by_cases MZ:b∈ts
    ·have z2:=(if_pos MZ).symm.trans z';cases z2;exact hts b MZ
    ·have z2:=(if_neg MZ).symm.trans z';cases z2
  ·by_cases hb:b=a
   ·exact .inl hb
   ·by_cases MZ:b∈ts
    ·exact .inr MZ
    ·exact absurd ((if_neg hb).trans (if_neg MZ)) z
  ·show(if T=a then _ else _)=_;rw[if_neg (λz=>hat (by rw[<- z];exact hT)),if_pos hT]
def oC{K:Fg}{h:Heap}{T:Addr}(X:K.In h)(hP:h.get? T=some (W.tabObj #[]))(hK:W.noTabs K=true):K.lookup T=none:=by
 cases q:K.lookup T with
 | none=>rfl
 | some o =>
  have e:=X T o q;rw[hP]at e;cases e;have h2:=Bc.mp hK (T,W.tabObj #[]) (W.mem_of_lookupK q);exact absurd (show false=true from h2) Yq
def walk_ofT{l:W.OpenLaw}{n k:Nat}{q:Program}{loose:LS}{XP:(Str->OU)->Heap->Prop}{d:DefRec}{K:Params->Fg}{as:List Addr}{e:∀ P,as=(K P).map (·.1)}{ts:List Addr}{CX:World->Es}{sp:World->Sp}{x:Str}
  (hn:l.most=some n) (RD:n<=sizeLine) (hdf:d.params.defaults=[]) (hr:AV k callerA) (hNT:∀ w:World,W.noTabs (K w.params)=true)
  (F:∀(w:World) (mg:Str->OU) (fa:Addr) (h:Heap),(K w.params).In h->h.Ns mainGlobals mg->mg d.name=some (.ref fa) ->
   (∀ T∈ts,∃ c,W.codeHdIn (K w.params) c T=true)/\∃ fd:FuncData,(∀(s:Shared) (u:Value),BindsTo s fd ⟨[u],[]⟩ [(x,u)]) /\
    ∀ base:Heap,(K w.params).In base->base.Ns mainGlobals mg->(∀ T∈ts,mainGlobals≠T/\base.BuiltinsAt mg T)->Ax l.prog w (K w.params) mg base (CX w) k fa fd [x] (sp w))
  (hsp:∀(w:World) (H:Hp) (a:Addr) (ns:List Int),ns.length<=n->SqL (K w.params) H a (ns.map V.int)->(∀ T∈ts,H T=some (.tbl #[]))->sp w [.ref a] H (λv _=>v=.bl true) λ_ _ _=>False)
  (hCX:∀(w:World) (H:Hp) (s:Shared) (e:Value) (s':Shared),CX w [] H s (λ_ _ _=>False) e s'->False):
  W.WalkO q loose XP (W.kmHook K as e ts).says l.row.toRowW d [] (λf vs=>PySem.call f vs):=by
 refine Att.attach_call hn hdf λw s₀ s₁ mg mb fa o pm cd doc a vs ns G Y ho hd hcd hmg hobj hints hlen hg=>?_;have KX:=W.km_in_of Y;obtain⟨hc,fd,hb,hF⟩:=F w mg fa _ KX G.T.g hmg;exact mU ts (W.km_tabs_of Y) (λT hT=>let⟨c,z⟩:=hc T hT;⟨c,W.codeHd_of_K KX z⟩) (λT hT=>oC KX (W.km_tabs_of Y T hT) (hNT w)) G.T.bmain KX G.T.g G.T.b G.T.builtins G.T.nolimit hg hobj hints (A6 hlen RD) hr hF hb (λH hS hT=>hsp w H a ns hlen hS hT) λH e s'=>hCX w H s₁ e s'
end L2
namespace L2
open PySem PySem.W PySem.Spec PyProof.Rows
section
variable {X:Cx}{e:Expr}{te:TE}{pos:Pos}{k:Nat}
def sg(K:Fg)(te:TE):TF:=λσ H Q=>te σ H λv H1=>∃(t:Addr) (d:Dat),v=.ref t/\Rep K H1 (.ref t) d/\(kqdP d).showable=true/\(kqdP d).hasDict=false/\(kqdP d).depth<=8/\(kqdP d).shown.length<=100000/\Q H1
def vZ(hr:AV k X.A)(he:PE X e te):PF X (.FormattedValue e 114 none pos) (sg X.K te):=by
 ac_rfl;refine wpAny_FormattedValue_repr (AK (he pins s σ H _ I h) λv s1 ⟨y,H1,I1,r1,t,d,ey,rd,sw,nd,dp,sh,q⟩=>?_);subst ey;obtain rfl:v=Value.ref t:=r1;have hu:=hr.units;have fin:∀ z:Str,z.length<=100000->∀ h' u tk,(∀ b o,s1.heap.get? b=some o->h'.get? b=some o)->wpAny (model X.prog X.w) X.A (formatField (.str z u) Str.empty) (λu s'=>∃ y tk H',u=.str y tk/\y.length<=100000/\Inv X pins σ H' s'/\Q H') X.xe {s1 with heap:=h',toks:=tk}:=λz hz h' u tk kp=>by
  have I2:Inv X pins σ H1 {s1 with heap:=h',toks:=tk}:=I1.kept kp;exact wpAny_formatField_str ⟨_,_,H1,Y,hz,I2,q⟩ ⟨_,_,H1,Y,hz,I2.tok _,q⟩ (A6 hz (by decide))
 obtain⟨as,ra⟩:=rd.reads I1 rfl;refine pyReprObj_of_reads ra sw ?_ hr.gd ?_ (λ_ _ z=>z) (λh' u tk kp=>fin _ sh h' u tk kp) (A6 sh (by decide))
 ·rw[nd];intro z;cases z
 ·omega
end
theorem Zz{m:Nat}:∀ {xs:LS},(∀ x∈xs,x.length<=m)->(xs.map (·.length)).sum<=m * xs.length
 | [],_=>by simp
 | x :: r,h=>by
  have ih:=Zz (xs:=r) λy hy=>h y (.tail _ hy);have h1:=h x (.head _);rw[Ym,List.sum_cons,Bj,Nat.mul_succ];omega
def vA{xs:LS}{m:Nat}(h:∀ x∈xs,x.length<=m):(Str.join ", " xs).length<=(m + 2) * xs.length:=by
 cases xs with
 | nil=>exact A7 _
 | cons a r =>
  have s:=Zz h;rw[len_join_cons ", " a r];have e:(Str.ofString ", ").length=2:=by decide
  rw[e,Nat.add_mul];rw[Bj]at *;omega
def WM{ds:List PyData}{m:Nat}(h:∀ d∈ds,d.shown.length<=m):(PyData.list ds).shown.length<=(m + 2) * ds.length + 2:=by
 rw[PyData.shown_list,shownAll_eq_map,strLen_append,strLen_append];have e1:(Str.ofString "[").length=1:=by decide
 have e2:(Str.ofString "]").length=1:=by decide
 have:=vA (xs:=ds.map PyData.shown) (m:=m) λx hx=>by
  obtain⟨d,hd,rfl⟩:=Yg.mp hx;exact h d hd
 rw[Ya]at this;omega
def vn:∀ i:_root_.Fin 102,(PyData.int ((i.val:Int) - 1)).shown.length<=4:=by rfl'
def qA{i:Int}(h0:-1<=i)(h1:i<=100):(PyData.int i).shown.length<=4:=by
 have:=vn ⟨(i + 1).toNat,W⟩
 rwa [show(((i + 1).toNat:Nat):Int) - 1=i by omega]at this
def qB{x:Str}(ok:PyData.strOk x=true)(hl:x.length<=9):(PyData.str x).shown.length<=92:=by
 have hx:∀ c∈x.cps.toList,c<16 ^ 8:=λc hc=>by
  have ok:x.cps.all (λc=>decide (c<0x110000))=true:=ok;rw[<- Array.all_toList,Bc]at ok;have:=Je (ok c hc);omega
 have:=StrLaws.reprText_len x hx;rw[PyData.shown_str];omega
end L2
namespace Gw
open PySem L2
variable {P:Program}{w:World}{K:Fg}{mg:Str->OU}{base:Heap}
def top(i:Nat):Stmt:=PySem.Challenge.pw_manydeeds_k24_ranked_by_lineups.main.body.getD i (.Pass ⟨0,0,0,0⟩)
abbrev IY:Stmt:=top 21
abbrev S5:Stmt:=top 22
abbrev WN:Stmt:=HX (top 23) 0
abbrev S1:Stmt:=HX (top 23) 1
abbrev Sx:Stmt:=HX (top 23) 2
abbrev S0:Stmt:=HX (top 23) 3
abbrev K6:Stmt:=top 25
abbrev SI:Stmt:=top 26
abbrev O2:Stmt:=top 27
abbrev O3:Stmt:=top 29
abbrev PX:Stmt:=top 30
abbrev Jr:Stmt:=top 32
abbrev Om:Stmt:=top 33
abbrev FE:Stmt:=top 34
abbrev Jo:Stmt:=top 35
abbrev NO:Stmt:=top 41
abbrev Sw:Stmt:=top 42
abbrev Sk:Stmt:=top 43
abbrev NZ:Stmt:=top 44
abbrev NN:Stmt:=top 45
abbrev Sm:Stmt:=top 46
abbrev Sj:Stmt:=top 47
abbrev WO:Stmt:=HX (top 48) 0
abbrev Sh:Stmt:=HX (top 48) 1
abbrev PN:Stmt:=HX (top 48) 2
abbrev S2:Stmt:=HX (top 48) 6
abbrev S6:Stmt:=HX (top 48) 7
abbrev PM:Stmt:=HX (top 48) 8
abbrev O8:Stmt:=top 50
abbrev EO:Stmt:=top 51
abbrev Na:Stmt:=top 52
abbrev Eo:Stmt:=top 53
abbrev Sv:Stmt:=top 54
abbrev K4:Stmt:=top 55
abbrev NU:Stmt:=top 56
abbrev Sq:Stmt:=top 57
abbrev NY:Stmt:=top 58
abbrev PV:Stmt:=top 59
abbrev Su:Stmt:=top 60
abbrev PD:Stmt:=top 61
abbrev Ib:Stmt:=top 62
abbrev PH:Stmt:=top 63
abbrev S4:Stmt:=top 64
abbrev Sz:Stmt:=top 65
abbrev PR:Stmt:=top 66
abbrev PQ:Stmt:=top 67
abbrev PY:Stmt:=top 68
abbrev K5:Stmt:=top 69
abbrev Sy:Stmt:=top 70
abbrev PU:Stmt:=top 71
abbrev O6:Stmt:=top 72
abbrev Ss:Stmt:=top 73
abbrev S3:Stmt:=top 74
abbrev PJ:Stmt:=top 75
abbrev PK:Stmt:=top 76
abbrev Si:Stmt:=top 77
abbrev OW:Stmt:=top 78
end Gw
namespace Gw
open PySem L2 Md
variable {P:Program}{w:World}{K:Fg}{mg:Str->OU}{base:Heap}
structure S7(K:Fg)(mg:Str->OU)(D:Addr):Prop where
 m:mg "DeedError"=some (.ref D)
 ex:ExC K D
 cl:W.isClsIn K D=true
 ty:W.typeIn K (.ref D)=some (.type "type")
structure Z4(K:Fg)(mg:Str->OU)(Ds:Nat->Addr):Prop where
 m0:mg "NoKind"=some (.ref (Ds 0))
 m1:mg "Twice"=some (.ref (Ds 1))
 m2:mg "NoName"=some (.ref (Ds 2))
 m3:mg "Ring"=some (.ref (Ds 3))
 m4:mg "NoDeed"=some (.ref (Ds 4))
 m5:mg "Same"=some (.ref (Ds 5))
 m6:mg "NoText"=some (.ref (Ds 6))
 m7:mg "TooMany"=some (.ref (Ds 7))
 m8:mg "NoBoard"=some (.ref (Ds 8))
 m9:mg "NoCall"=some (.ref (Ds 9))
 m10:mg "NoLine"=some (.ref (Ds 10))
 m11:mg "NoPlace"=some (.ref (Ds 11))
 m12:mg "NoWeights"=some (.ref (Ds 12))
 m13:mg "NoTerm"=some (.ref (Ds 13))
 m14:mg "NoRow"=some (.ref (Ds 14))
 cl:∀ k,k<15->W.isClsIn K (Ds k)=true
 ty:∀ k,k<15->W.typeIn K (.ref (Ds k))=some (.type "type")
structure Mi(K:Fg)(D:Addr)(Ds:Nat->Addr)(i:Nat):Prop where
 ex:Iu K (Ds i)
 sub:W.subIn K (.ref (Ds i)) (.ref D)=some true
 one:∀ k,k<15->W.subIn K (.ref (Ds i)) (.ref (Ds k))=some (decide (k=i))
def Ra{P:Nat->Prop}(h0:P 0)(h1:P 1)(h2:P 2)(h3:P 3)(h4:P 4)(h5:P 5)(h6:P 6)(h7:P 7)(h8:P 8)(h9:P 9)(FW:P 10)(BG:P 11)(Uj:P 12)(jq:P 13)(Mb:P 14):∀ k,k<15->P k:=λk h=>by
 rcases k with _ | _ | _ | _ | _ | _ | _ | _ | _ | _ | _ | _ | _ | _ | _ | k
 ·exact h0
 ·exact h1
 ·exact h2
 ·exact h3
 ·exact h4
 ·exact h5
 ·exact h6
 ·exact h7
 ·exact h8
 ·exact h9
 ·exact FW
 ·exact BG
 ·exact Uj
 ·exact jq
 ·exact Mb
 ·omega
def Um(a0 a1 a2 a3 a4 a5 a6 a7 a8 a9 Uu Ut Us OQ Ur:Addr):Nat->Addr
 | 0=>a0 | 1=>a1 | 2=>a2 | 3=>a3 | 4=>a4 | 5=>a5 | 6=>a6 | 7=>a7 | 8=>a8 | 9=>a9 | 10=>Uu | 11=>Ut | 12=>Us | 13=>OQ | _=>Ur
abbrev Rc(i:Nat):List Bool:=(List.range 15).map λk=>decide (k=i)
def mJ:∀ i,i<15->(Rc i).countP (· == true)=1:=by rfl'
def kN{i p:Nat}(hp:p<15):((Rc i).map V.bl)[p]?=some (.bl (decide (p=i))):=by
 rw[Yf,Yf,LK hp];rfl
def ag(K:Fg)(D:Addr)(Ds:Nat->Addr):Sp:=λvs H Q _=>∃(e:Addr) (i p:Nat) (dx:Option Addr),vs=[.ref e,.int p]/\H e=some (XO e (Ds i) dx)/\Mj H dx/\Mi K D Ds i/\i<15/\p<15/\∀ H',AB H H'->Q (.bl (decide (p=i))) H'
abbrev iq:LS:=["e","place","some"]
def gH:Ae iq ["e","place"] (AL Su):=by nofun
def ke{Ds:Nat->Addr}(F:Def K mg "_law_alone" Su ["e","place"] f fd)(TD:S7 K mg D)(TF:Z4 K mg Ds)(isi:mg "isinstance"=none)(vr:mg "ValueError"=none):⋯ 1 f fd ["e","place"] (ag K D Ds):=by
 nomatch F.fn.ok gH
 ·obtain⟨e,i,p,dx,rfl,_⟩:=h;rfl
 ·obtain⟨e,i,p,dx,rfl,hx,hd,O,i_,iU,q⟩:=h;have nd:=gH.nd;have one:∀ k,k<15->W.kitOne K (.ref (Ds i)) (.ref (Ds k))=some (decide (k=i)):=λk hk=>bC (TF.cl k hk) (TF.ty k hk) O.ex.toExC (O.one k hk)
  ac_nf
  refine'⟨_,pS (sE 2 nd (B2 (pC ?a0 (pC ?a1 (pC ?a2 (pC ?a3 (pC ?a4 (pC ?a5 (pC ?a6 (pC ?a7 (pC ?a8 (pC ?a9 (pC ?Uu (pC ?Ut (pC ?Us (pC ?OQ (pC ?Ur AA)))))))))))))))))
   (pS (AY (PW.pt (Rf (CS (Bu ?b1)) (Ro (CS (Bu ?b2))))) (AH (AW B1)) AZ) (AH (AW (HU ?c1 (JZ ?c2))))),?_⟩
  case a0=>exact Aa Dj (by rfl) isi Yu (pC (pv 0) (pC (CU (v:=.ref (Ds 0)) (by rfl) TF.m0 rfl) AA))
  case a1=>exact Aa Dj (by rfl) isi Yu (pC (pv 0) (pC (CU (v:=.ref (Ds 1)) (by rfl) TF.m1 rfl) AA))
  case a2=>exact Aa Dj (by rfl) isi Yu (pC (pv 0) (pC (CU (v:=.ref (Ds 2)) (by rfl) TF.m2 rfl) AA))
  case a3=>exact Aa Dj (by rfl) isi Yu (pC (pv 0) (pC (CU (v:=.ref (Ds 3)) (by rfl) TF.m3 rfl) AA))
  case a4=>exact Aa Dj (by rfl) isi Yu (pC (pv 0) (pC (CU (v:=.ref (Ds 4)) (by rfl) TF.m4 rfl) AA))
  case a5=>exact Aa Dj (by rfl) isi Yu (pC (pv 0) (pC (CU (v:=.ref (Ds 5)) (by rfl) TF.m5 rfl) AA))
  case a6=>exact Aa Dj (by rfl) isi Yu (pC (pv 0) (pC (CU (v:=.ref (Ds 6)) (by rfl) TF.m6 rfl) AA))
  case a7=>exact Aa Dj (by rfl) isi Yu (pC (pv 0) (pC (CU (v:=.ref (Ds 7)) (by rfl) TF.m7 rfl) AA))
  case a8=>exact Aa Dj (by rfl) isi Yu (pC (pv 0) (pC (CU (v:=.ref (Ds 8)) (by rfl) TF.m8 rfl) AA))
  case a9=>exact Aa Dj (by rfl) isi Yu (pC (pv 0) (pC (CU (v:=.ref (Ds 9)) (by rfl) TF.m9 rfl) AA))
  case Uu=>exact Aa Dj (by rfl) isi Yu (pC (pv 0) (pC (CU (v:=.ref (Ds 10)) (by rfl) TF.m10 rfl) AA))
  case Ut=>exact Aa Dj (by rfl) isi Yu (pC (pv 0) (pC (CU (v:=.ref (Ds 11)) (by rfl) TF.m11 rfl) AA))
  case Us=>exact Aa Dj (by rfl) isi Yu (pC (pv 0) (pC (CU (v:=.ref (Ds 12)) (by rfl) TF.m12 rfl) AA))
  case OQ=>exact Aa Dj (by rfl) isi Yu (pC (pv 0) (pC (CU (v:=.ref (Ds 13)) (by rfl) TF.m13 rfl) AA))
  case Ur=>exact Aa Dj (by rfl) isi Yu (pC (pv 0) (pC (CU (v:=.ref (Ds 14)) (by rfl) TF.m14 rfl) AA))
  case b1=>exact Aa Dj (by rfl) isi Yu (pC (pv 0) (pC (CU (v:=.ref D) (by rfl) TD.m rfl) AA))
  case b2=>exact Aa Dj (by rfl) isi Yu (pC (pv 0) (pC (R9 (v:=.ty "ValueError") (by rfl) vr (by rfl') rfl) AA))
  case c1=>exact EL BC (CH Yw PySem.F.slot_list_count PySem.F.type_list_count nG (pv 2) (pC B1 AA)) AG (Ad _)
  case c2=>exact AX Al (pv 2) (pv 1) (λ_ _=>rfl)
  exists let b:=AE _ a;AE _ b _ _ _
  refine⟨Z,e,Ds i,dx,_,_,Z,Y,λu z=>z,hx,hd,O.ex,one 0 (by decide),?_⟩;refine⟨Z,e,Ds i,dx,_,_,Z,Y,λu z=>z,hx,hd,O.ex,one 1 (by decide),?_⟩;refine⟨Z,e,Ds i,dx,_,_,Z,Y,λu z=>z,hx,hd,O.ex,one 2 (by decide),?_⟩;refine⟨Z,e,Ds i,dx,_,_,Z,Y,λu z=>z,hx,hd,O.ex,one 3 (by decide),?_⟩;refine⟨Z,e,Ds i,dx,_,_,Z,Y,λu z=>z,hx,hd,O.ex,one 4 (by decide),?_⟩;refine⟨Z,e,Ds i,dx,_,_,Z,Y,λu z=>z,hx,hd,O.ex,one 5 (by decide),?_⟩;refine⟨Z,e,Ds i,dx,_,_,Z,Y,λu z=>z,hx,hd,O.ex,one 6 (by decide),?_⟩;refine⟨Z,e,Ds i,dx,_,_,Z,Y,λu z=>z,hx,hd,O.ex,one 7 (by decide),?_⟩;refine⟨Z,e,Ds i,dx,_,_,Z,Y,λu z=>z,hx,hd,O.ex,one 8 (by decide),?_⟩;refine⟨Z,e,Ds i,dx,_,_,Z,Y,λu z=>z,hx,hd,O.ex,one 9 (by decide),?_⟩;refine⟨Z,e,Ds i,dx,_,_,Z,Y,λu z=>z,hx,hd,O.ex,one 10 (by decide),?_⟩;refine⟨Z,e,Ds i,dx,_,_,Z,Y,λu z=>z,hx,hd,O.ex,one 11 (by decide),?_⟩;refine⟨Z,e,Ds i,dx,_,_,Z,Y,λu z=>z,hx,hd,O.ex,one 12 (by decide),?_⟩;refine⟨Z,e,Ds i,dx,_,_,Z,Y,λu z=>z,hx,hd,O.ex,one 13 (by decide),?_⟩;refine⟨Z,e,Ds i,dx,_,_,Z,Y,λu z=>z,hx,hd,O.ex,one 14 (by decide),?_⟩;refine⟨sL (by show 15<=100000;decide),λl hl=>?_⟩;have s1:AB H (upd H l (.lst ((Rc i).map V.bl))):=Dh hl;have MV:=s1 _ _ hx;have ZA:=AB.xdict hd s1;refine⟨Z,e,Ds i,dx,_,_,Z,Y,λu z=>z,MV,ZA,O.ex,bC TD.cl TD.ty O.ex.toExC O.sub,Z,?_⟩;refine Av ⟨Z,e,Ds i,dx,_,_,Z,Y,λu z=>z,MV,ZA,O.ex,mT O.ex.toExC,Z,Av ?_⟩;refine⟨Z,.inl ⟨Y,_,SqL.of uS⟩,l,Rc i,true,Y,Y,uS,Y,Z,?_⟩;rw[mJ i i_];exact BM ⟨Z,Z,l,_,p,.bl (decide (p=i)),Y,Y,SqL.of uS,EK (kN iU),q _ s1⟩
def Wr(K:Fg):Sp:=λvs H Q _=>∃(a:Addr) (k:Int) (ns:List Int),vs=[.ref a,.int k]/\SqL K H a (ns.map V.int)/\ns.length<=100/\0<=k/\k<=1000/\∀ p o,H p=none->Bh o->Q (.ref p) (upd H p o)
def Fi:Sp:=λvs H Q _=>∃(p:Addr) (m:Int) (o:HO),vs=[.ref p,.int m]/\H p=some o/\Bh o/\0<m/\m<4611686018427387904/\∀(v:Int) o',0<=v->v<m->Bh o'->Q (.int v) (upd H p o')
def c_:Sp:=λvs H Q _=>∃ n:Nat,vs=[.int n]/\n<26 ^ 8/\Q (.str (EN n)) H
def OX:Ae ["script","k","cell","rest"] ["script","k"] (AL O8):=by nofun
def U0:(10:Int) ^ (64:Int).toNat * 10 ^ (64:Int).toNat * 10 ^ (64:Int).toNat * 10 ^ (64:Int).toNat=10 ^ 256:=by rfl'
def uB(F:Def K mg "_law_pot" O8 ["script","k"] f fd)(len:mg "len"=none):⋯ 1 f fd ["script","k"] (Wr K):=by
 nomatch F.fn.ok OX
 ·obtain⟨a,k,ns,rfl,_⟩:=h;rfl
 ·obtain⟨a,k,ns,rfl,hS,hl,RE,Ke,q⟩:=h
  ac_nf
  refine⟨_,pS (CB (i:=2) OX.nd rfl (Or.inl rfl) AG)
   (B6 (AY (Af OS (pv 1) (Aa Gp (by rfl) len Yy (pC (pv 0) AA)) (Ad _))
    (AH (CB (i:=2) OX.nd rfl (Or.inl rfl) (Ag Gj (AX Al (pv 0) (pv 1) (λ_ _=>rfl))
     (Ag VW (Ag VW (Ag VW (Ag Mu AG AG) (Ag Mu AG AG)) (Ag Mu AG AG)) (Ag Mu AG AG))))) AZ)
   (pS (CB (i:=3) OX.nd rfl (Or.inl rfl) AG)
   (B6 (AY (Af gU (pv 2) (Ag Mu AG AG) (Ad _)) (AH (CB (i:=3) OX.nd rfl (Or.inl rfl) (pv 2))) AZ)
   (AH (AW (B2 (pC (pv 3) (pC (Ag Gj (Ag Rm (Ag El (Ag El (Ag Gj (pv 2) AG) (Ag Rm AG (pv 1))) AG) AG) AG) AA)))))))),?_⟩
  exists let b:=CG _ a;let c:=AE _ b;let e:=_;let f:=CG (BH _ e _) c;AE _ f _ _ _
  let Cr:SW:=λσ' H'=>H'=H/\∃ c:Int,0<=c/\c<10 ^ 256/\σ'=[some (.ref a),some (.int k),some (.int c),none];refine⟨Cr,?_,?_⟩
  ·refine⟨Z,Z,_,Z,.inl ⟨_,hS,Y⟩,_,Z,Y,Z,?_⟩;refine Ak (λh1=>?_) (λh1=>?_)
   ·have h1:k<((ns.map V.int).length:Int):=Je h1;rw[Ya]at h1;have hi:k.toNat<ns.length:=by omega
    have hat:A_ (ns.map V.int) k=some (V.int ns[k.toNat]):=by
     have e:(ns.map V.int)[k.toNat]?=some (V.int ns[k.toNat]):=by rw[Yf,Yb hi];rfl
     have:=EK e
     rwa [Fp RE]at this
    refine⟨Z,Z,_,_,_,Z,Y,hS,hat,_,Z,Y,⟨V,V,by rfl'⟩,_,Z,Y,⟨V,V,by rfl'⟩,_,Z,Y,⟨by rfl',by rfl'⟩,
     _,Z,Y,⟨V,V,by rfl'⟩,_,Z,Y,⟨by rfl',by rfl'⟩,_,Z,Y,⟨V,V,by rfl'⟩,_,Z,Y,⟨by rfl',by rfl'⟩,_,Z,Y,?_,Y,_,?_,?_,Y⟩
    ·show(0:Int)<_;rw[U0];rfl'
    ·rw[U0];exact LO _ (by rfl')
    ·rw[U0];exact LJ _ (by rfl')
   ·exact⟨Y,0,V,by rfl',Y⟩
  ·rintro σ' H' ⟨rfl,c,jZ,FV,rfl⟩;let FL:SW:=λσ2 H2=>H2=H'/\∃ r:Int,0<=r/\r<10 ^ 256/\σ2=[some (.ref a),some (.int k),some (.int c),some (.int r)];refine⟨FL,?_,?_⟩
   ·refine⟨Z,_,Z,Y,⟨V,V,by rfl'⟩,_,Z,Y,Z,?_⟩;refine Ak (λh1=>?_) (λh1=>?_)
    ·exact⟨Z,Y,c,jZ,FV,Y⟩
    ·exact⟨Y,0,V,by rfl',Y⟩
   ·rintro σ2 H2 ⟨rfl,r,Hv,Ac,rfl⟩;have m0:=LO c (b:=2147483629) (by decide);have m1:=LJ c (b:=2147483629) (by decide);refine⟨Z,Z,_,Z,Y,(by show(0:Int)<2147483629;decide),Z,_,Z,Y,.inl ⟨V,V⟩,_,Z,Y,_,Z,Y,_,Z,Y,.inr ⟨V,V⟩,_,Z,Y,(by show(0:Int)<2147483647;decide),O,λp hp=>?_⟩;refine q p _ hp ⟨r,Z,Hv,Ac,LO _ (by decide),LJ _ (by decide)⟩
def Zp:Ae ["pot","many","found"] ["pot","many"] (AL EO):=by nofun
def Oq(F:Def K mg "_law_take" EO ["pot","many"] f fd):⋯ 1 f fd ["pot","many"] Fi:=by
 nomatch F.fn.ok Zp
 ·obtain⟨p,m,o,rfl,_⟩:=h;rfl
 ·obtain⟨p,m,o,rfl,hp,⟨r,b,rfl,Hv,Ac,RJ,ZC⟩,Hy,Kc,q⟩:=h
  ac_nf
  refine⟨_,pS (AY (Af OR (AX Al (pv 0) AG (λ_ _=>rfl)) AG (Ad _))
    (pS (CB (i:=2) Zp.nd rfl (Or.inl rfl) (Ag Gj (AX Al (pv 0) AG (λ_ _=>rfl)) (pv 1)))
    (pS (HW (Ag k8 (AX Al (pv 0) AG (λ_ _=>rfl)) (pv 1)) (IK (pv 0) AG IW)) (AH (AW (pv 2))))) AZ)
   (pS (HW (Ag Gj (Ag El (Ag Rm (AX Al (pv 0) AG (λ_ _=>rfl)) AG) AG) AG) (IK (pv 0) AG IW))
   (AH (AW (Ag Gj (Ag VU (Ag Gj (Ag Rm (AX Al (pv 0) AG (λ_ _=>rfl)) (AX Al (pv 0) AG (λ_ _=>rfl))) AG) AG) (pv 1))))),?_⟩
  exists let b:=AE _ a;let c:=_;let e:=AE _ c;let f:=AE _ e;AE (BH _ f _) b _ _ _
  refine⟨Z,p,_,_,Z,Y,SqL.of hp,Y,_,Z,Y,Z,?_⟩;refine Ak (λh1=>?_) (λh1=>?_)
  ·refine⟨Z,p,_,_,Z,Y,SqL.of hp,Y,Z,_,Z,Y,Hy,?_⟩;refine⟨Z,p,_,_,Z,Y,SqL.of hp,Y,Z,_,Z,Y,⟨Hy,Kc⟩,?_⟩;refine⟨Z,p,_,_,0,Y,Y,hp,Y,Z,?_⟩;have h1:0<r:=Je h1;exact q _ _ (LO _ (by omega)) (LJ _ Hy) ⟨r / m,b,Y,Int.ediv_nonneg Hv (by omega),Int.lt_of_le_of_lt (Int.ediv_le_self _ Hv) Ac,RJ,ZC⟩
  ·refine⟨Z,p,_,_,Z,Y,SqL.of hp,Y,_,Z,Y,.inr ⟨V,V⟩,_,Z,Y,_,Z,Y,(by show(0:Int)<2147483647;decide),?_⟩;refine⟨Z,p,_,_,1,Y,Y,hp,Y,?_⟩;have m0:=LO (b * 69621 + 12345) (b:=2147483647) (by decide);have m1:=LJ (b * 69621 + 12345) (b:=2147483647) (by decide);refine⟨Z,p,_,_,Z,Y,SqL.of uS,Y,Z,p,_,_,Z,Y,SqL.of uS,Y,_,Z,Y,.inl ⟨W,W⟩,_,Z,Y,(by show(0:Int)<2147483629;decide),_,Z,Y,⟨V,V⟩,Z,_,Z,Y,Hy,?_⟩;exact q _ _ (LO _ (by omega)) (LJ _ Hy) ⟨r,Z,Hv,Ac,m0,m1⟩
def gZ:Ae ["number","word"] ["number"] (AL Na):=by nofun
def oO(F:Def K mg "_law_letters" Na ["number"] f fd):⋯ 1 f fd ["number"] c_:=by
 nomatch F.fn.ok gZ
 ·obtain⟨n,rfl,_⟩:=h;rfl
 ·obtain⟨n,rfl,hn,q⟩:=h;have nd:=gZ.nd
  ac_nf
  refine⟨_,pS (sE 1 nd Jk)
   (pS (K0 Bb (Rf (Af BC (pv 1) Jk (Ad _)) (Ro (Af OR (pv 0) AG (Ad _)))).pt
    (pS (sE 1 nd (Ag Sa (pv 1) (AX tN Jk (Ag Gj (pv 0) AG) (λ_ _=>rfl))))
    (AH (sE 0 nd (Ag VU (pv 0) AG)))))
   (AH (AW (pv 1)))),?_⟩
  exists let b:=AE _ a;AE _ b _ _ _
  have e0:("":Str).cps.toList=[]:=by rfl'
  have hlen:(C4 n).length<=8:=WH 7 n hn;let P8:NW:=λm σ H2=>H2=H/\∃(x:Str) (k:Nat),σ=[some (.int k),some (.str x)]/\m=k + (if x.cps.toList=[]then 1 else 0)/\((x.cps.toList=[]/\k=n)\/(x.cps.toList≠[]/\k=0/\x.cps.toList=C4 n)\/(x.cps.toList≠[]/\0<k/\x.cps.toList++C4 k=C4 n));refine⟨P8,⟨Z,_,n,Y,Y,.inl ⟨e0,Y⟩⟩,?_⟩;rintro m σ H2 ⟨rfl,x,k,rfl,rfl,inv⟩;have more:(x.cps.toList=[]\/0<k)->∃ N:SW,(∀ σ' H',N σ' H'->∃ m',m'<k + (if x.cps.toList=[]then 1 else 0)/\(H'=H2/\∃(y:Str) (j:Nat),σ'=[some (.int j),some (.str y)]/\m'=j + (if y.cps.toList=[]then 1 else 0) /\
    ((y.cps.toList=[]/\j=n)\/(y.cps.toList≠[]/\j=0/\y.cps.toList=C4 n)\/(y.cps.toList≠[]/\0<j/\y.cps.toList++C4 j=C4 n)))) /\
    N [some (.int ((k:Int) / 26)),some (.str (x++⟨#[97 + k % 26]⟩))] H2:=λhk=>by
   let P7:SW:=λσ' H'=>σ'=[some (.int ((k:Int) / 26)),some (.str (x++⟨#[97 + k % 26]⟩))]/\H'=H2;refine⟨P7,?_,Y,Y⟩;rintro σ' H' ⟨rfl,rfl⟩;have el:(x++⟨#[97 + k % 26]⟩:Str).cps.toList=x.cps.toList++[97 + k % 26]:=bV _ _;have ne:(x++⟨#[97 + k % 26]⟩:Str).cps.toList≠[]:=by rw[el];simp
   have kd:((k:Int) / 26)=((k / 26:Nat):Int):=by omega
   have whole:(x.cps.toList++[97 + k % 26])++(if k / 26=0 then[]else C4 (k / 26))=C4 n:=by
    rw[La,List.singleton_append,<- NQ]
    rcases inv with⟨h1,h2⟩ | ⟨h1,h2,_⟩ | ⟨_,_,h3⟩
    ·rw[h1,h2];rfl
    ·rcases hk with z | z
     ·exact absurd z h1
     ·omega
    ·exact h3
   refine⟨k / 26,?_,Y,_,k / 26,by rw[kd],by rw[if_neg ne];rfl,?_⟩
   ·rcases hk with z | z
    ·rw[if_pos z];omega
    ·have:k / 26<k:=by omega
     omega
   ·right;rw[el];by_cases z:k / 26=0
    ·rw[if_pos z,Fu]at whole;exact .inl ⟨by simp,z,whole⟩
    ·rw[if_neg z]at whole;exact .inr ⟨by simp,W,whole⟩
  have xlen:x.length<=8:=by
   rw[<- HY]
   rcases inv with⟨h1,_⟩ | ⟨_,_,h3⟩ | ⟨_,_,h3⟩
   ·rw[h1];simp
   ·rw[h3];exact hlen
   ·have:=congrArg List.length h3;rw[Yx]at this;omega
  have Mh:A_ letters.cps.toList ((k:Int) % 26)=some (97 + k % 26):=by
   have:=EK (oB (i:=k % 26) (by omega));have e:((k % 26:Nat):Int)=(k:Int) % 26:=by omega
   rwa [e]at this
  refine⟨Z,Y,Z,?_⟩;refine Ak (λh1=>?_) (λh1=>?_)
  ·have hx:x.cps.toList=[]:=by
    have:=Je h1;injection this with this;rw[this];exact e0
   obtain⟨N,hN,n0⟩:=more (.inl hx);refine BM ⟨N,hN,?_⟩;exact⟨Z,Z,_,Z,Y,(by show(0:Int)<26;decide),_,_,Z,Y,sL (by rw[<- HY,SY];decide),Mh,_,Z,Y,sL (by rw[aF];omega),Z,_,Z,Y,⟨V,V⟩,n0⟩
  ·have hx:x.cps.toList≠[]:=λz=>h1 (Jb (by rw[ax (z.trans e0.symm)]));refine⟨Z,_,Z,Y,Z,?_⟩;refine Ak (λh2=>?_) (λh2=>?_)
   ·have hk:0<k:=by have:(0:Int)<(k:Int):=Je h2;omega
    obtain⟨N,hN,n0⟩:=more (.inr hk);refine⟨N,hN,?_⟩;exact⟨Z,Z,_,Z,Y,(by show(0:Int)<26;decide),_,_,Z,Y,sL (by rw[<- HY,SY];decide),Mh,_,Z,Y,sL (by rw[aF];omega),Z,_,Z,Y,⟨V,V⟩,n0⟩
   ·have hk:k=0:=by
     have:¬ (0:Int)<(k:Int):=λz=>h2 (Jb z);omega
    have hf:x=EN n:=by
     refine ax ?_;rw[WK]
     rcases inv with⟨h1,_⟩ | ⟨_,_,h3⟩ | ⟨_,h2,_⟩
     ·exact absurd h1 hx
     ·exact h3
     ·omega
    rw[hf];exact⟨Z,q⟩
structure Kr(ws:LS):Prop where
 word:∀ x∈ws,A4 x=true
 nd:ws.Nodup
def Ru:Sp:=λvs H Q _=>∃(p a:Addr) (ws:LS),vs=[.ref p,.ref a]/\p≠a/\(∃ o,H p=some o/\Bh o)/\H a=some (.lst (ws.map V.str))/\Kr ws/\ws.length<=24 /\
 ∀ x H',Drawn p H H'->A4 x=true->x∉ws->Q (.str x) H'
def aw:Sp:=λvs H Q _=>∃(p:Addr) (m:Nat),vs=[.ref p,.int m]/\(∃ o,H p=some o/\Bh o)/\m<=24 /\
 ∀ l (ws:LS) H',Drawn p H H'->H l=none->H' l=some (.lst (ws.map V.str))->Kr ws->ws.length=m->Q (.ref l) H'
def JV:LS:=["kind","under","name","deed","gives","with","none","clash","a","ab","abc","abcdefgh","even"]
def nQ:JV.all A4=true:=by rfl'
def VE{ws:LS}{v:Int}(h0:0<=v)(h1:v<ws.length):∃ x,x∈ws/\A_ (ws.map V.str) v=some (.str x):=by
 have hi:v.toNat<ws.length:=by omega
 have e:(ws.map V.str)[v.toNat]?=some (V.str ws[v.toNat]):=by rw[Yf,Yb hi];rfl
 have:=EK e;rw[Fp h0]at this;exact⟨_,Jw hi,this⟩
def dX(ws:LS):(!Bt (.list (ws.map W.Dat.str)) (.list []))=true↔ws≠[]:=by
 cases ws with
 | nil=>simp[EM]
 | cons w r =>
  rw[Gm (by simp)];simp
def U6{ws:LS}(h:∀ x∈ws,A4 x=true):W.kqdOk 9 (.list (ws.map W.Dat.str))=true:=by
 show(ws.map W.Dat.str).all (W.kqdOk 8)=true;rw[Bc];intro d hd;obtain⟨x,hx,e⟩:=Yg.mp hd;rw[<- e];exact Oo (h x hx)
def Zq:Ae ["pot","words","some","way","word","number"] ["pot","words"] (AL Eo):=by nofun
def d0{x y:Str}{n:Nat}(hn:1<=n)(h:y.cps.toList=x.cps.toList.take n)(h1:1<=x.length)(h8:x.length<=8\/n<=8)(hl:∀ c∈x.cps.toList,Ge c=true):A4 y=true:=by
 rw[Js,h,Yz,HY];refine⟨⟨W,W⟩,λc hc=>hl c (J2 hc)⟩
def Y9:List Stmt->Stmt
 | s :: _=>s
 | []=>.Pass ⟨0,0,0,0⟩
def Nx:TE:=WZ (λ_ H Q=>Q (JV.map V.str) H)
def F5:Stmt:=Y9 (B4 Eo)
def OQ:∃ es c p0 p1 p2,F5=.Assign [.Name ("some":Str) p0] (.Tuple es c p1) p2/\Oe es=some JV:=⟨_,_,_,_,Z,by rfl'⟩
def vc{X:Cx}{st:Stmt}{i:Nat}{x:Str}{ws:LS}(h:∃ es c p0 p1 p2,st=.Assign [.Name x p0] (.Tuple es c p1) p2/\Oe es=some ws)(hN:X.N.Nodup)(hi:X.N[i]?=some x)(hx:Loc X.env.scope x)(hf:X.fn x=true\/X.env.scope.names.lookup x=some .local):PS X st (IF (WZ (λ_ H Q=>Q (ws.map V.str) H)) (C2 i)):=by
 obtain⟨es,c,p0,p1,p2,rfl,h⟩:=h;exact CB hN hi hx (EJ (nE h)) rfl hf
def sD{X:Cx}(hN:X.N.Nodup)(hi:X.N[2]?=some ("some":Str))(hx:Loc X.env.scope ("some":Str))(hf:X.fn ("some":Str)=true\/X.env.scope.names.lookup ("some":Str)=some NameKind.local):PS X F5 (IF Nx (C2 2)):=
 @vc X F5 2 ("some":Str) JV OQ hN hi hx hf
def UA:List Stmt->List Stmt
 | _ :: r=>r
 | []=>[]
def uN{X:Cx}{l:List Stmt}{t u:TS}(h0:l.isEmpty=false)(h1:PS X (Y9 l) t)(h2:Bo X (UA l) u):Bo X l (AE t u):=by
 cases l with
 | nil=>cases h0
 | cons a r=>exact pS h1 h2
def iu:(B4 Eo).isEmpty=false:=by rfl'
def uM{X:Cx}{u:TS}(hN:X.N.Nodup)(hi:X.N[2]?=some ("some":Str))(hx:Loc X.env.scope ("some":Str))(hf:X.fn ("some":Str)=true\/X.env.scope.names.lookup ("some":Str)=some NameKind.local)(h2:Bo X (UA (B4 Eo)) u):Bo X (B4 Eo) (AE (IF Nx (C2 2)) u):=
 @uN X (B4 Eo) (IF Nx (C2 2)) u iu (@sD X hN hi hx hf) h2
def r6{X:Cx}{D:GV}{σ:St}{H:Hp}(hN:X.N.Nodup)(hi:X.N[2]?=some ("some":Str))(hx:Loc X.env.scope ("some":Str))(hf:X.fn ("some":Str)=true\/X.env.scope.names.lookup ("some":Str)=some NameKind.local)
  (h:∃ u,Bo X (UA (B4 Eo)) u/\AE (IF Nx (C2 2)) u D σ H):∃ t,Bo X (B4 Eo) t/\t D σ H:=by
 obtain⟨u,h1,h2⟩:=h;exact⟨AE (IF Nx (C2 2)) u,@uM X u hN hi hx hf h1,h2⟩
def aM(F:Def K mg "_law_word" Eo ["pot","words"] f fd)(DT:Def K mg "_law_take" EO ["pot","many"] fT fdT)(DL:Def K mg "_law_letters" Na ["number"] fL fdL)(len:mg "len"=none):
  ⋯ 2 f fd ["pot","words"] Ru:=by
 have GT:⋯ 1 fT fdT ["pot","many"] Fi:=Oq DT;have GL:⋯ 1 fL fdL ["number"] c_:=oO DL
 nomatch F.fn.ok Zq
 ·obtain⟨p,a,ws,rfl,_⟩:=h;rfl
 ·obtain⟨p,a,ws,rfl,hpa,hpot,ha,hw,wo,q⟩:=h;have nd:=Zq.nd;have hu:=hr.units;refine @r6 _ _ _ _ nd rfl (Or.inl rfl) (Or.inl rfl) ?_
  ac_nf
  refine⟨_,(pS (sE 3 nd (AN DT GT hr (pC (pv 0) (pC AG AA))))
   (pS (sE 4 nd (AX CI (pv 2) (AN DT GT hr (pC (pv 0) (pC AG AA))) (λ_ _=>rfl)))
   (B6 (AY (Af BC (pv 3) AG (Ad _)) (AH (sE 4 nd (AN DL GL hr (pC (AN DT GT hr (pC (pv 0) (pC (Ag JY (Ag Mu AG AG) AG) AA))) AA)))) AZ)
   (B6 (AY (Ob (Af BC (pv 3) AG (Ad _)) (Ol (Af (Kq hu) (pv 1) (B2 AA) (Ad _)))).pt
    (pS (sE 4 nd (AX Al (pv 1) (AN DT GT hr (pC (pv 0) (pC (Aa Gp (by rfl) len Yy (pC (pv 1) AA)) AA))) (λ_ _=>rfl)))
    (AH (sE 4 nd (IV U7 (Ag Sa (pv 4) (AN DL GL hr (pC (AN DT GT hr (pC (pv 0) (pC AG AA))) AA))) IS (IT AG))))) AZ)
   (B6 (AY (Ob (Af BC (pv 3) AG (Ad _)) (Ol (Af (Kq hu) (pv 1) (B2 AA) (Ad _)))).pt
    (pS (sE 4 nd (AX Al (pv 1) (AN DT GT hr (pC (pv 0) (pC (Aa Gp (by rfl) len Yy (pC (pv 1) AA)) AA))) (λ_ _=>rfl)))
    (AH (sE 4 nd (IV U7 (pv 4) IS (IT (Ag El AG (AN DT GT hr (pC (pv 0) (pC (Aa Gp (by rfl) len Yy (pC (pv 4) AA)) AA))))))))) AZ)
   (pS (sE 5 nd AG)
   (pS (K0 Bb (Af O0 (pv 4) (pv 1) (by with_unfolding_all rfl))
    (pS (sE 4 nd (AN DL GL hr (pC (pv 5) AA)))
    (AH (sE 5 nd (Ag El (pv 5) AG)))))
   (AH (AW (pv 4)))))))))),?_⟩
  have hap:a≠p:=Yj hpa;obtain⟨o0,Df,Ee⟩:=hpot;have wl:∀ {H':Hp},Drawn p H H'->SqL K H' a (ws.map V.str):=λd=>SqL.of (d.keep _ _ hap ha);refine⟨sL (by show 13<=100000;decide),λt ht=>?_⟩;have d1:Drawn p H (upd H t (.tup (JV.map V.str))):=(Drawn.refl ⟨o0,Df,Ee⟩).new ht;have tp:t≠p:=λe=>by rw[e,Df]at ht;cases ht
  refine⟨Z,p,4,o0,Y,(by rw[AD (Yj tp)];exact Df),Ee,V,V,λway o1 xV Hs CO=>?_⟩;refine⟨Z,Z,p,13,o1,Y,uS,CO,V,V,λv o2 BR Bf BF=>?_⟩;obtain⟨x0,N6,hat⟩:=VE (ws:=JV) BR (by show v<13;exact Bf);refine⟨t,JV.map V.str,_,Z,Y,AJ.of (by rw[AD tp,AD tp];exact uS),hat,?_⟩;have w0:A4 x0=true:=Bc.mp nQ x0 N6;have d3:Drawn p H (upd (upd (upd H t (.tup (JV.map V.str))) p o1) p o2):=(d1.trans (Drawn.upd CO)).trans (Drawn.upd BF);let Cr:SW:=λσ' H'=>∃ x:Str,σ'=[some (.ref p),some (.ref a),some (.ref t),some (.int way),some (.str x),none]/\A4 x=true/\Drawn p H H';refine⟨Cr,?_,?_⟩
  ·refine⟨Z,Y,Z,?_⟩;refine Ak (λ_=>?_) (λ_=>?_)
   ·obtain⟨o3,Dz,Bz⟩:=d3.pot;refine⟨Z,_,Z,Y,⟨V,V,by rfl'⟩,_,Z,Y,p,_,o3,Y,Dz,Bz,V,V,λv o4 BR Bf F9=>?_⟩;have Bf:v<208827064550:=Bf;refine⟨v.toNat,by rw[Fp BR];rfl,W,Z,WL (by omega),d3.trans (Drawn.upd F9)⟩
   ·exact⟨x0,Y,w0,d3⟩
  ·rintro σ' H1 ⟨x1,rfl,w1,d4⟩;let FL:SW:=λσ' H'=>∃ x:Str,σ'=[some (.ref p),some (.ref a),some (.ref t),some (.int way),some (.str x),none]/\A4 x=true/\Drawn p H H';refine⟨FL,?_,?_⟩
   ·refine⟨Z,Y,Z,?_⟩;refine Ak (λ_=>?_) (λ_=>Av ⟨x1,Y,w1,d4⟩);refine⟨Z,A7 _,λt2 Bg=>⟨.list (ws.map W.Dat.str),.list [],.list ((wl d4).mono_new Bg) (FF ws),.list (SqL.of uS) .nil,U6 hw.word,Y,Z,?_⟩⟩;have d5:Drawn p H (upd H1 t2 (.lst [])):=d4.new Bg;refine Ak (λB9=>?_) (λ_=>⟨x1,Y,w1,d5⟩);have B9:ws≠[]:=(dX ws).mp B9;have hpos:0<ws.length:=Ik.mpr B9;obtain⟨o5,CC,F8⟩:=d5.pot;refine⟨Z,Z,Z,_,Z,.inl ⟨_,wl d5,Y⟩,p,_,o5,Y,CC,F8,U,U,λv o6 BR Bf Ed=>?_⟩;rw[Ya]at Bf;obtain⟨x2,jH,L_⟩:=VE (ws:=ws) BR Bf;have d6:Drawn p H (upd (upd H1 t2 (.lst [])) p o6):=d5.trans (Drawn.upd Ed);have w2:A4 x2=true:=hw.word x2 jH;refine⟨a,ws.map V.str,_,Z,Y,wl d6,L_,?_⟩;refine⟨Z,Z,p,26,o6,Y,uS,Ed,V,V,λv o7 BR Bf BX=>?_⟩;refine⟨v.toNat,by rw[Fp BR];rfl,W,?_⟩;have T4:A4 (EN v.toNat)=true:=WL (by omega);have l2:=Ov w2;have l3:=Ov T4;refine⟨_,Z,Y,sL (by omega),Z,Z,sL (by rw[aE];omega),?_⟩;refine⟨Z,?_,d6.trans (Drawn.upd BX)⟩;refine d0 (x:=x2++EN v.toNat) (n:=8) (by decide) (Sd _ 8 (by decide)) (by rw[aE];omega) (.inr (Yd _)) λc hc=>?_;rw[bV]at hc
    rcases Yt.mp hc with hc | hc
    ·exact((Js x2).mp w2).2 c hc
    ·exact((Js _).mp T4).2 c hc
   ·rintro σ' H2 ⟨x2,rfl,w2,d5⟩;let P8:SW:=λσ' H'=>∃ x:Str,σ'=[some (.ref p),some (.ref a),some (.ref t),some (.int way),some (.str x),none]/\A4 x=true/\Drawn p H H';refine⟨P8,?_,?_⟩
    ·refine⟨Z,Y,Z,?_⟩;refine Ak (λ_=>?_) (λ_=>Av ⟨x2,Y,w2,d5⟩);refine⟨Z,A7 _,λt2 Bg=>⟨.list (ws.map W.Dat.str),.list [],.list ((wl d5).mono_new Bg) (FF ws),.list (SqL.of uS) .nil,U6 hw.word,Y,Z,?_⟩⟩;have d6:Drawn p H (upd H2 t2 (.lst [])):=d5.new Bg;refine Ak (λB9=>?_) (λ_=>⟨x2,Y,w2,d6⟩);have B9:ws≠[]:=(dX ws).mp B9;have hpos:0<ws.length:=Ik.mpr B9;obtain⟨o6,HG,Ed⟩:=d6.pot;refine⟨Z,Z,Z,_,Z,.inl ⟨_,wl d6,Y⟩,p,_,o6,Y,HG,Ed,U,U,λv o7 BR Bf BX=>?_⟩;rw[Ya]at Bf;obtain⟨x3,jG,Xl⟩:=VE (ws:=ws) BR Bf;have d7:Drawn p H (upd (upd H2 t2 (.lst [])) p o7):=d6.trans (Drawn.upd BX);have w3:A4 x3=true:=hw.word x3 jG;have l3:=Ov w3;refine⟨a,ws.map V.str,_,Z,Y,wl d7,Xl,?_⟩;refine⟨Z,Z,Z,_,Z,⟨sL (by omega),Y⟩,p,_,o7,Y,uS,BX,W,W,λv o8 BR Bf FR=>?_⟩;refine⟨_,Z,Y,Z,Z,sL (by omega),?_⟩;refine⟨Z,?_,d7.trans (Drawn.upd FR)⟩;exact d0 (x:=x3) (n:=(1 + v).toNat) (by omega) (Sd _ (1 + v) (by omega)) (by omega) (.inl (by omega)) ((Js x3).mp w3).2
    ·rintro σ' H3 ⟨x3,rfl,w3,d6⟩;let P7:NW:=λm σ H'=>∃(x:Str) (n:Nat),σ=[some (.ref p),some (.ref a),some (.ref t),some (.int way),some (.str x),some (.int n)]/\A4 x=true/\Drawn p H H'/\m=ws.length + 1 - n/\n<=ws.length + 1/\(n=0\/x=EN (n - 1))/\∀ j,j + 1<n->EN j∈ws;refine⟨P7,⟨_,x3,0,Y,w3,d6,Y,W,.inl rfl,λj hj=>by omega⟩,?_⟩;rintro m σ H4 ⟨x,n,rfl,wx,dx,rfl,hn,hxn,hall⟩;refine⟨Z,Z,a,Z,.inl (wl dx),Y,NK ws,Z,?_⟩;show if Ec (.str x) (ws.map V.str)=true then _ else _
     rw[Kt];refine Ak (λhin=>?_) (λhin=>?_)
     ·have hin:x∈ws:=Je hin;have all:∀ j,j<n->EN j∈ws:=λj hj=>by
       by_cases z:j + 1<n
       ·exact hall j z
       ·rcases hxn with e | e
        ·omega
        ·have:j=n - 1:=by omega
         rw[this,<- e];exact hin
      have hle:n<=ws.length:=by
       have:=Graph.nodup_le (l:=(List.range n).map EN) (k:=ws) ?_ ?_
       ·simpa using this
       ·rw[J3,Nk];exact(J3.mp List.nodup_range).imp λh e=>h (qG e)
       ·intro y hy;obtain⟨j,hj,e⟩:=Yg.mp hy;rw[<- e];exact all j (Cz.mp hj)
      let wH:SW:=λσ' H'=>σ'=[some (.ref p),some (.ref a),some (.ref t),some (.int way),some (.str (EN n)),some (.int ((n:Int) + 1))]/\H'=H4;refine⟨wH,?_,?_⟩
      ·rintro σ' H' ⟨rfl,rfl⟩;exact⟨ws.length + 1 - (n + 1),W,EN n,n + 1,Y,WL (by omega),dx,Y,W,.inr rfl,λj hj=>all j (by omega)⟩
      ·exact⟨Z,n,Y,W,Z,_,Z,Y,Y,Y⟩
     ·have hin:x∉ws:=λz=>hin (Jb z);exact⟨Z,q x H4 dx wx hin⟩
def aY:Ae ["pot","many","words","k"] ["pot","many"] (AL Sv):=by nofun
def k4(F:Def K mg "_law_words" Sv ["pot","many"] f fd)(DW:Def K mg "_law_word" Eo ["pot","words"] fW fdW)(DT:Def K mg "_law_take" EO ["pot","many"] fT fdT)(DL:Def K mg "_law_letters" Na ["number"] fL fdL)(len:mg "len"=none)(range:mg "range"=none):
  ⋯ 3 f fd ["pot","many"] aw:=by
 have GW:⋯ 2 fW fdW ["pot","words"] Ru:=aM DW DT DL len
 nomatch F.fn.ok aY
 ·obtain⟨p,m,rfl,_⟩:=h;rfl
 ·obtain⟨p,m,rfl,⟨o0,Df,Ee⟩,hm,q⟩:=h;have nd:=aY.nd
  ac_nf
  refine⟨_,pS (sE 2 nd (B2 AA))
   (pS (CQ Bb rfl (Fm rfl range (pC (pv 1) AA)) (gE 3 nd)
    (AH (Bi (CH Yw J1 J0 Hc (pv 2) (pC (AN DW GW hr (pC (pv 0) (pC (pv 2) AA))) AA)))))
   (AH (AW (pv 2)))),?_⟩
  exists let b:=_;let c:=AE (Cg _ _ b) a;AE _ c _ _ _
  refine⟨A7 _,λl hl=>?_⟩;have lp:p≠l:=AF Df hl;let Bp:NW:=λi σ H'=>∃(ws:LS) (kv:OV),σ=[some (.ref p),some (.int m),some (.ref l),kv]/\Drawn p H H'/\H' l=some (.lst (ws.map V.str))/\Kr ws/\ws.length=i;refine⟨Z,m,Y,W,W,Cw Fl Bp
   ⟨[],none,Y,(Drawn.refl ⟨o0,Df,Ee⟩).new hl,uS,⟨(λ_ h=>nomatch h),Np⟩,Y⟩ (λ_ _ _ _ _=>trivial) ?_ ?_⟩
  ·rintro i v σ H' hi ⟨ws,kv,rfl,d,hw,ok,rfl⟩;obtain⟨hi,rfl⟩:=Dk hi;refine⟨Z,.inl ⟨Y,_,SqL.of hw⟩,Z,Z,p,l,ws,Y,lp,d.pot,hw,ok,W,λx H2 d2 wx nx=>?_⟩;have JH:H2 l=some (.lst (ws.map V.str)):=d2.keep _ _ (Yj lp) hw;refine⟨l,_,Z,Y,JH,B7 (by rw[Ya];omega),?_⟩;refine⟨ws++[x],Z,?_,by rw[uS,Bw];rfl,⟨λy hy=>?_,?_⟩,by simp⟩
   ·refine(d.trans d2).sub (q:=l) (o':=.lst []) (λb o hb e=>by rw[AD hb];exact e) hl lp
   ·rcases Yt.mp hy with hy | hy
    ·exact ok.word y hy
    ·rw[Yi.mp hy];exact wx
   ·rw[List.nodup_append];exact⟨ok.nd,by simp,λa ha b hb e=>nx (by rw[<- Yi.mp hb,<- e];exact ha)⟩
  ·rintro σ H' ⟨ws,kv,rfl,d,hw,ok,hlen⟩;rw[CJ]at hlen;exact⟨Z,q l ws H' d hl hw ok (by simpa using hlen)⟩
def Bn(js:LN):LV:=js.map λ(j:Nat)=>V.int (j:Int)
structure gQ(k:Nat)(js:LN):Prop where
 below:∀ j∈js,j<k
 nd:js.Nodup
 few:js.length<=8
def gv:Sp:=λvs H Q _=>∃(p:Addr) (k sh:Nat),vs=[.ref p,.int k,.int sh]/\(∃ o,H p=some o/\Bh o)/\k<=24 /\
 ∀ l (js:LN) H',Drawn p H H'->H' l=some (.lst (Bn js))->gQ k js->Q (.ref l) H'
structure rH(mg:Str->OU):Prop where
 range:mg "range"=none
 int:mg "int"=none
def gn:Ae ["pot","k","shape","one","other","bits"] ["pot","k","shape"] (AL K4):=by nofun
abbrev Wb:LS:=["pot","k","shape","one","other","bits"]
def fG:(["j"]:LS).Nodup:=by rfl'
def tG:(["j","bits"]:LS).Nodup:=by rfl'
def MQ(v:V):Bool:=match v with | .int i=>decide (0<=i) | _=>false
def Mm:LV:=[.int 1,.int 2,.int 4,.int 8,.int 16,.int 32,.int 64,.int 128]
def TH(bits:Int)(v:V):Bool:=match v with
 | .int j=>decide (j<8)&&(match A_ Mm j with | some (.int e)=>decide (bits / e % 2=1) | _=>false)
 | _=>false
def kI{j:Int}(h0:0<=j)(h1:j<8):∃ e:Int,A_ Mm j=some (.int e)/\0<e/\e<1000:=by
 have:∀ i:_root_.Fin 8,∃ e:Int,A_ Mm (i.1:Int)=some (.int e)/\0<e/\e<1000:=by
  intro i
  match i with
  | ⟨0,_⟩=>exact⟨1,Y,V,V⟩
  | ⟨1,_⟩=>exact⟨2,Y,V,V⟩
  | ⟨2,_⟩=>exact⟨4,Y,V,V⟩
  | ⟨3,_⟩=>exact⟨8,Y,V,V⟩
  | ⟨4,_⟩=>exact⟨16,Y,V,V⟩
  | ⟨5,_⟩=>exact⟨32,Y,V,V⟩
  | ⟨6,_⟩=>exact⟨64,Y,V,V⟩
  | ⟨7,_⟩=>exact⟨128,Y,V,V⟩
 have q:=this ⟨j.toNat,W⟩
 rwa [Fp h0]at q
def n5(k:Nat)(p:V->Bool):∃ js:LN,(Ck 0 k).filter p=Bn js/\(∀ j∈js,j<k/\p (.int (j:Int))=true)/\js.Nodup:=by
 refine⟨(List.range k).filter λj=>p (.int (j:Int)),?_,λj hj=>?_,List.nodup_range.filter _⟩
 ·unfold Ck Bn;rw[Po];have e:((λ(j:Nat)=>V.int (0 + (j:Int))))=λ(j:Nat)=>V.int (j:Int):=by
   funext j
   rw[Ep]
  rw[e];rfl
 ·obtain⟨h1,h2⟩:=Gs.mp hj;exact⟨Cz.mp h1,h2⟩
theorem dz:∀ {xs ys:LV},Paired (λx v=>v=x) xs ys->ys=xs
 | _,_,.nil=>rfl
 | _,_,.cons h t=>by rw[h,dz t]
def uF(F:Def K mg "_law_ups" K4 ["pot","k","shape"] f fd)(DT:Def K mg "_law_take" EO ["pot","many"] fT fdT)(T:rH mg):⋯ 2 f fd ["pot","k","shape"] gv:=by
 have GT:⋯ 1 fT fdT ["pot","many"] Fi:=Oq DT
 nomatch F.fn.ok gn
 ·obtain⟨p,k,sh,rfl,_⟩:=h;rfl
 ·obtain⟨p,k,sh,rfl,⟨o0,Df,Ee⟩,hk,q⟩:=h;have nd:=gn.nd
  ac_nf
  refine⟨_,pS (AY (Af BC (pv 1) AG (Ad _)) (AH (AW (B2 AA))) AZ)
   (pS (sE 3 nd (AN DT GT hr (pC (pv 0) (pC (pv 1) AA))))
   (pS (sE 4 nd (AN DT GT hr (pC (pv 0) (pC (pv 1) AA))))
   (pS (AY (Af BC (pv 2) AG (Ad _)) (AH (AW (B2 (pC (pv 3) AA)))) AZ)
   (pS (AY (Af BC (pv 2) AG (Ad _)) (AH (AW (IV VM
     (B5 ["j"] [] [] (λ_=>BU (osc:=AL K4) (on:=Wb) (by rfl') rfl rfl rfl) (HV (EJ (pC (pv 3) (pC (pv 4) AA)))) (λC s H fp=>BQ (i:=0) fG rfl (Or.inl rfl) (Or.inr rfl)) (λC s H fp=>CA) (λC s H fp=>pv 0))
     IS (IT (Ag El AG (DZ lY (by rfl) T.int PyProof.Rows.boot_int (pC (EL Mr (pv 3) (pv 4) (Ad _)) AA))))))) AZ)
   (pS (AY (Af BC (pv 2) AG (Ad _)) (AH (AW
     (B5 ["j"] [] [] (λ_=>BU (osc:=AL K4) (on:=Wb) (by rfl') rfl rfl rfl) (HV (EJ (pC (Ag JY (Ag JY (pv 1) AG) (Ag Gj (pv 1) AG)) (pC (Ag JY (Ag JY (pv 1) AG) (Ag Gj (pv 1) AG)) AA)))) (λC s H fp=>BQ (i:=0) fG rfl (Or.inl rfl) (Or.inr rfl))
      (λC s H fp=>Kv (Af gU (pv 0) AG (Ad _))) (λC s H fp=>pv 0)))) AZ)
   (pS (AY (Af BC (pv 2) AG (Ad _)) (AH (AW (B2 (pC (Ag JY (pv 1) AG) AA)))) AZ)
   (pS (CB (i:=5) nd rfl (Or.inr rfl) (AN DT GT hr (pC (pv 0) (pC AG AA))))
   (AH (AW (B5 ["j"] ["bits"] [5] (λ_=>BU (osc:=AL K4) (on:=Wb) (by rfl') rfl rfl rfl) (Fm rfl T.range (pC (pv 1) AA)) (λC s H fp=>BQ (i:=0) tG rfl (Or.inl rfl) (Or.inr rfl))
    (λC s H fp=>Kv (PW.pt (Ob (Af OS (pv 0) AG (Ad _)) (Ol (Af BC (Ag Gj (Ag VU (pv 1) (AX (r:=CF K) CI (EJ (pC AG (pC AG (pC AG (pC AG (pC AG (pC AG (pC AG (pC AG AA))))))))) (pv 0) (λ_ _=>rfl))) AG) AG (Ad _)))))) (λC s H fp=>pv 0))))))))))),?_⟩
  exists let b:=AE _ a;let c:=_;let e:=AE (BH _ c _) b;let f:=_;let g:=AE (BH _ f _) e;let h:=_;let i:=AE (BH _ h _) g;let j:=AE _ i;let k:=AE _ j;let l:=AE _ k;AE _ l _ _ _
  have dr:Drawn p H H:=Drawn.refl ⟨o0,Df,Ee⟩;refine⟨Z,Y,Z,?_⟩;refine Ak (λh0=>?_) (λh0=>?_)
  ·exact⟨A7 _,λl hl=>q l [] _ (dr.new hl) uS ⟨(λ_ h=>nomatch h),Np,A7 _⟩⟩
  have RE:0<k:=by
   refine Nat.pos_of_ne_zero λz=>h0 (Jb ?_);rw[z];rfl
  refine⟨Z,Z,p,k,o0,Y,Df,Ee,W,W,λone o1 FW BG CO=>?_⟩;refine⟨Z,Z,p,k,o1,Y,uS,CO,W,W,λoth o2 jm xg BF=>?_⟩;rw[M7];have d2:Drawn p H (upd H p o2):=Drawn.upd BF;refine⟨Z,Y,Z,?_⟩;refine Ak (λ_=>?_) (λ_=>?_)
  ·refine⟨Z,sL (by show 1<=100000;decide),λl hl=>q l [one.toNat] _ (d2.new hl) ?_ ⟨λj hj=>?_,by simp,by simp⟩⟩
   ·rw[uS];show some (HO.lst [V.int one])=some (HO.lst [V.int ((one.toNat:Nat):Int)]);rw[Fp FW]
   ·rw[Yi.mp hj];omega
  refine⟨Z,Y,Z,?_⟩;refine Ak (λ_=>?_) (λ_=>?_)
  ·-- [j for j in(one,other)][:1 + int(one != other)]
   refine⟨Z,Z,O,λt ht=>⟨t,Y,⟨_,AJ.of uS⟩,K1 (HZ (xs:=[V.int one,V.int oth])) (sL (by show 2<=100000;decide)) (λ_=>true) (λv=>v) (λD ys hD=>AJ.of (by rw[AD (AF uS hD)];exact uS)) ?_ ?_ ?_⟩⟩
   ·intro D ys x R _ _ hR;exact hR
   ·intro D ys x R _ _ _ hR;exact⟨Z,hR⟩
   ·intro D hD;have e2:([V.int one,V.int oth].filter λ_=>true).map (λv=>v)=[V.int one,V.int oth]:=rfl;rw[e2];have d4:Drawn p H (upd (upd (upd H p o2) t (.tup [V.int one,V.int oth])) D (.lst [V.int one,V.int oth])):=(d2.new ht).new hD;refine⟨Z,Z,Y,.inr ⟨Z,_,Z,Y,Z,D,Z,SqL.of uS,λl hl=>?_⟩⟩;by_cases he:one=oth
    ·have e3:(!decide (V.int one=V.int oth))=false:=by rw[he];simp
     rw[e3];refine q l [one.toNat] _ (d4.new hl) ?_ ⟨λj hj=>by rw[Yi.mp hj];omega,by simp,by simp⟩;rw[uS];show some (HO.lst [V.int one])=some (HO.lst [V.int ((one.toNat:Nat):Int)]);rw[Fp FW]
    ·have e3:(!decide (V.int one=V.int oth))=true:=by
      rw[Jc (λz=>he (by injection z))];rfl
     rw[e3];refine q l [one.toNat,oth.toNat] _ (d4.new hl) ?_ ⟨λj hj=>?_,?_,by simp⟩
     ·rw[uS];show some (HO.lst [V.int one,V.int oth])=some (HO.lst [V.int ((one.toNat:Nat):Int),V.int ((oth.toNat:Nat):Int)]);rw[Fp FW,Fp jm]
     ·rcases Yr.mp hj with e | e
      ·rw[e];omega
      ·rw[Yi.mp e];omega
     ·refine Ft.mpr ⟨λz=>he ?_,by simp⟩;have:=Yi.mp z;omega
  refine⟨Z,Y,Z,?_⟩;refine Ak (λ_=>?_) (λ_=>?_)
  ·-- diamonds
   have Hy:=LO (k:Int) (b:=2) (by decide);have Kc:=LJ (k:Int) (b:=2) (by decide);refine⟨Z,_,Z,Y,Z,_,Z,Y,(by show(0:Int)<2;decide),_,Z,Y,Z,_,Z,Y,Z,_,Z,Y,(by show(0:Int)<2;decide),_,Z,Y,O,λt ht=>⟨t,Y,⟨_,AJ.of uS⟩,
    K1 (HZ (xs:=[V.int ((k:Int) - 2 - (k:Int) % 2),V.int ((k:Int) - 1 - (k:Int) % 2)])) (sL (by show 2<=100000;decide)) MQ (λv=>v) (λD ys hD=>AJ.of (by rw[AD (AF uS hD)];exact uS)) ?_ ?_ ?_⟩⟩
   ·intro D ys x R _ hx hR;obtain⟨i,rfl⟩:∃ i,x=V.int i:=by
     rcases Yr.mp hx with e | e
     ·exact⟨_,e⟩
     ·exact⟨_,Yi.mp e⟩
    exact⟨Z,_,Z,Y,Z,hR⟩
   ·intro D ys x R _ _ _ hR;exact⟨Z,hR⟩
   ·intro D hD;have d4:=(d2.new (o:=.tup [V.int ((k:Int) - 2 - (k:Int) % 2),V.int ((k:Int) - 1 - (k:Int) % 2)]) ht).new (o:=.lst (([V.int ((k:Int) - 2 - (k:Int) % 2),V.int ((k:Int) - 1 - (k:Int) % 2)].filter MQ).map λv=>v)) hD;by_cases h2:2<=(k:Int) - (k:Int) % 2
    ·refine q D [((k:Int) - 2 - (k:Int) % 2).toNat,((k:Int) - 1 - (k:Int) % 2).toNat] _ d4 ?_ ⟨λj hj=>?_,?_,by simp⟩
     ·rw[uS];have a1:MQ (V.int ((k:Int) - 2 - (k:Int) % 2))=true:=Jb (by omega);have a2:MQ (V.int ((k:Int) - 1 - (k:Int) % 2))=true:=Jb (by omega);rw[LX,a1,if_pos rfl,LX,a2,if_pos rfl];show some (HO.lst [V.int _,V.int _])=some (HO.lst [V.int ((Int.toNat _:Nat):Int),V.int ((Int.toNat _:Nat):Int)]);rw[Fp (by omega),Fp (by omega)]
     ·rcases Yr.mp hj with e | e
      ·rw[e];omega
      ·rw[Yi.mp e];omega
     ·refine Ft.mpr ⟨λz=>?_,by simp⟩;have:=Yi.mp z;omega
    ·refine q D [] _ d4 ?_ ⟨(λ_ h=>nomatch h),Np,A7 _⟩;rw[uS];have a1:MQ (V.int ((k:Int) - 2 - (k:Int) % 2))=false:=Jc (by omega);have a2:MQ (V.int ((k:Int) - 1 - (k:Int) % 2))=false:=Jc (by omega);rw[LX,a1,if_neg Yq,LX,a2,if_neg Yq];rfl
  refine⟨Z,Y,Z,?_⟩;refine Ak (λ_=>?_) (λ_=>?_)
  ·refine⟨Z,_,Z,Y,sL (by show 1<=100000;decide),λl hl=>q l [k - 1] _ (d2.new hl) ?_ ⟨λj hj=>?_,by simp,by simp⟩⟩
   ·rw[uS];show some (HO.lst [V.int ((k:Int) - 1)])=some (HO.lst [V.int ((k - 1:Nat):Int)]);have:((k - 1:Nat):Int)=(k:Int) - 1:=by omega
    rw[this]
   ·rw[Yi.mp hj];omega
  refine⟨Z,p,256,o2,Y,uS,BF,V,V,λbits o3 RJ ZC Bz=>?_⟩;rw[M7];have d3:Drawn p H (upd H p o3):=Drawn.upd Bz;refine⟨Z,(k:Int),Y,W,W,?_⟩;rw[show((k:Int)).toNat=k from rfl];refine NG Fl (sL (by rw[CJ];omega)) (TH bits) (λ_ x v _=>v=x) (λ_ _ _ _ _ _ h=>h) (λ_ _=>trivial) ?_ ?_ ?_
  ·intro x H2 R hs hx hR;obtain⟨i,hi⟩:=List.mem_iff_getElem?.mp hx;obtain⟨hik,rfl⟩:=Dk hi;refine⟨Z,_,Z,Y,Z,?_⟩;refine Ak (λh8=>?_) (λh8=>?_)
   ·have h8:(0:Int) + (i:Int)<8:=Je h8;obtain⟨e,he,jW,jV⟩:=kI (j:=(0:Int) + (i:Int)) (by omega) h8;refine⟨Z,sL (by show 8<=100000;decide),λt ht=>⟨Z,t,Mm,_,Z,Y,AJ.of uS,he,_,Z,Y,⟨jW,W⟩,_,Z,Y,(by show(0:Int)<2;decide),Y,Z,?_⟩⟩;have e1:TH bits (V.int (0 + (i:Int)))=decide (V.int (bits / e % 2)=V.int 1):=by
     show(decide ((0:Int) + (i:Int)<8)&&(match A_ Mm (0 + (i:Int))with | some (.int e)=>decide (bits / e % 2=1) | _=>false))=_;rw[he,Jb h8,LG];show decide (bits / e % 2=1)=_;rw[decide_eq_decide];constructor
     ·intro z;rw[z]
     ·intro z;injection z
    have:=hR (upd H2 t (.tup Mm)) λb o e=>by rw[AD (AF e ht)];exact e
    rw[e1]at this;exact this
   ·have h8:¬ ((0:Int) + (i:Int)<8):=λz=>h8 (Jb z);have e1:TH bits (V.int (0 + (i:Int)))=false:=by
     show(decide ((0:Int) + (i:Int)<8)&&_)=false;rw[Jc h8,Bool.false_and]
    have:=hR H2 (AB.refl _);rw[e1]at this;exact this
  ·intro D x H2 R hs _ _ hx _ hR;exact⟨Z,hR x H2 (AB.refl _) rfl⟩
  ·intro D H2 ys hD hs hl hp;have e:=dz hp;subst e;obtain⟨js,e,hj,hnd⟩:=n5 k (TH bits);refine q D js H2 (d3.same hs) (by rw[hl,e]) ⟨λj h=>(hj j h).1,hnd,?_⟩;have:=Graph.nodup_le (l:=js) (k:=List.range 8) hnd λj h=>by
    have h2:(decide ((j:Int)<8)&&_)=true:=(hj j h).2;have h3:=(Dl _ _ ▸ h2:_/\_).1;have h4:(j:Int)<8:=Je h3;exact Cz.mpr (by omega)
   simpa using this
def au:Sp:=λvs H Q _=>∃(p:Addr) (m:Nat),vs=[.ref p,.int m]/\(∃ o,H p=some o/\Bh o)/\1<=m/\m<=24 /\
 ∀ l (rows:RS) H',Drawn p H H'->H l=none->Gi H' l rows->Ah rows->rows.length<=m->Q (.ref l) H'
def Xt(ws:LS):V->V
 | .int j=>.str (ws.getD j.toNat "")
 | _=>.non
def lS(ws:LS)(js:LN):(Bn js).map (Xt ws)=(js.map λi=>ws.getD i "").map V.str:=by
 unfold Bn;rw[CV,CV];rfl
def Z7{ws:LS}{j:Nat}(h:j<ws.length):A_ (ws.map V.str) (j:Int)=some (.str (ws.getD j "")):=by
 have e:(ws.map V.str)[j]?=some (V.str (ws.getD j "")):=by
  rw[Yf,Yk,Yb h];rfl
 exact EK e
def pY(m:Nat):Ck 0 m=Bn (List.range m):=by
 unfold Ck Bn;refine Nr λj _=>?_;rw[Ep]
def SA{α:Type}(l:List α):l.filter (λ_=>true)=l:=Fq.mpr λ_ _=>rfl
def P0(ws:LS)(H:Hp)(js:LN)(v:V):Prop:=∃ t,v=.ref t/\H t=some (.tup ((js.map λi=>ws.getD i "").map V.str))
def P0.mono{ws:LS}{H H':Hp}{js:LN}{v:V}(h:P0 ws H js v)(k:∀ b xs,H b=some (.tup xs)->H' b=some (.tup xs)):P0 ws H' js v:=by
 obtain⟨t,e,h⟩:=h;exact⟨t,e,k _ _ h⟩
theorem K3{α β:Type}{F:α->β->Prop}:∀ {l:List α}{k:List β},Paired F l k->∀ {i:Nat}{a:α},l[i]?=some a->∃ b,k[i]?=some b/\F a b
 | _,_,.nil,i,a,h=>by simp at h
 | _,_,.cons r t,0,a,h=>by simp at h;subst h;exact⟨Z,r⟩
 | _,_,.cons r t,i + 1,a,h=>by
  obtain⟨b,h1,h2⟩:=K3 t (i:=i) (a:=a) (by simpa using h);exact⟨b,by simpa using h1,h2⟩
def Vg{H:Hp}{D b:Addr}{o u:HO}(hD:H D=none)(e:H b=some o):(upd H D u) b=some o:=by rw[AD (AF e hD)];exact e
theorem eF{ws:LS}{uf:List (LN)}{D:Addr}{H:Hp}:∀ {os:LN}{ys:LV},
  Paired (λx v=>∃(j:Nat) (t u:Addr),x=V.int (j:Int)/\v=.ref t/\t≠D/\u≠D/\H t=some (.tup [.str (ws.getD j ""),.ref u])/\H u=some (.tup (((uf.getD j []).map λi=>ws.getD i "").map V.str))) (Bn os) ys->Paired (Pa H) (IM ws uf os) ys
 | [],_,h=>by cases h;exact .nil
 | j :: os,_,h=>by
  cases h with
  | cons r t =>
   obtain⟨i,a,u,e,rfl,_,_,h3,h4⟩:=r;have e':(j:Int)=(i:Int):=by injection e
   have jz:j=i:=by omega
   subst jz;exact .cons ⟨a,u,Y,h3,h4⟩ (eF t)
structure rq(p lw lo lu:Addr)(ws:LS)(H H':Hp)(i:Nat)(os:LN)(uf:List (LN))(us:LV):Prop where
 d:Drawn p H H'
 w:H' lw=some (.lst (ws.map V.str))
 o:H' lo=some (.lst (Bn os))
 u:H' lu=some (.lst us)
 pu:Paired (P0 ws H') uf us
 ul:uf.length=i
 uok:∀(k:Nat) (js:LN),uf[k]?=some js->gQ k js
 on:os.Nodup
 om:∀ j,j∈os↔j<i
 ol:os.length=i
def r9:(["j","words"]:LS).Nodup:=by rfl'
def uR:(["k","words","ups"]:LS).Nodup:=by rfl'
structure eX(mg:Str->OU):Prop where
 range:mg "range"=none
 int:mg "int"=none
 len:mg "len"=none
 tuple:mg "tuple"=none
 list:mg "list"=none
abbrev Wm:LS:=["pot","most","many","words","shape","order","ups","k"]
def Zo:Ae Wm ["pot","most"] (AL NU):=by nofun
def kr(F:Def K mg "_law_rows" NU ["pot","most"] f fd)(DT:Def K mg "_law_take" EO ["pot","many"] fT fdT)(DU:Def K mg "_law_ups" K4 ["pot","k","shape"] fU fdU)
  (DWs:Def K mg "_law_words" Sv ["pot","many"] fWs fdWs) (DW:Def K mg "_law_word" Eo ["pot","words"] fW fdW) (DL:Def K mg "_law_letters" Na ["number"] fL fdL) (T:eX mg):⋯ 4 f fd ["pot","most"] au:=by
 have GT:⋯ 1 fT fdT ["pot","many"] Fi:=Oq DT;have GU:⋯ 2 fU fdU ["pot","k","shape"] gv:=uF DU DT ⟨T.range,T.int⟩;have GW:⋯ 3 fWs fdWs ["pot","many"] aw:=k4 DWs DW DT DL T.len T.range
 nomatch F.fn.ok Zo
 ·obtain⟨p,m,rfl,_⟩:=h;rfl
 ·obtain⟨p,most,rfl,⟨o0,Df,Ee⟩,Kc,wj,q⟩:=h;have nd:=Zo.nd;have Ac:AV 1 _:=hr.mono (by decide);have Ca:AV 2 _:=hr.mono (by decide)
  ac_nf
  refine⟨_,pS (sE 2 nd (Ag El AG (AN DT GT Ac (pC (pv 0) (pC (pv 1) AA)))))
   (pS (CB (i:=3) nd rfl (Or.inr rfl) (AN DWs GW hr (pC (pv 0) (pC (pv 2) AA))))
   (pS (sE 4 nd (AN DT GT Ac (pC (pv 0) (pC AG AA))))
   (pS (sE 5 nd (B2 AA))
   (pS (CB (i:=6) nd rfl (Or.inr rfl) (B2 AA))
   (pS (CQ Bb rfl (Fm (by rfl) T.range (pC (pv 2) AA)) (gE 7 nd)
    (pS (Bi (CH Yw J1 J0 Hc (pv 6) (pC (DZ K7 (by rfl) T.tuple Lb (pC
     (B5 ["j"] ["words"] [3] (λ_=>BU (osc:=AL NU) (on:=Wm) (by rfl') rfl rfl rfl) (C5 (AN DU GU Ca (pC (pv 0) (pC (pv 7) (pC (pv 4) AA))))) (λC s H fp=>BQ (i:=0) r9 rfl (Or.inl rfl) (Or.inr rfl)) (λC s H fp=>CA)
      (λC s H fp=>AX (r:=BB K) Al (pv 1) (pv 0) (λ_ _=>rfl))) AA)) AA)))
    (AH (Bi (CH Yw LI LH K2 (pv 5) (pC (AN DT GT Ac (pC (pv 0) (pC (Ag El (pv 7) AG) AA))) (pC (pv 7) AA)))))))
   (B6 (AY (Af BC (AN DT GT Ac (pC (pv 0) (pC AG AA))) AG (Ad _)) (AH (sE 5 nd (WI rfl (pv 2) (by rfl) T.list (by rfl) T.range))) AZ)
   (AH (AW (B5 ["k"] ["words","ups"] [3,6] (λ_=>BU (osc:=AL NU) (on:=Wm) (by rfl') rfl rfl rfl) (C5 (pv 5)) (λC s H fp=>BQ (i:=0) uR rfl (Or.inl rfl) (Or.inr rfl)) (λC s H fp=>CA)
    (λC s H fp=>EJ (pC (AX (r:=BB K) Al (pv 1) (pv 0) (λ_ _=>rfl)) (pC (AX (r:=BB K) Al (pv 2) (pv 0) (λ_ _=>rfl)) AA)))))))))))),?_⟩
  exists let b:=_;let c:=CG (BH _ b _) a;let e:=_;let f:=AE _ e;let g:=AE (Cg _ _ f) c;let h:=AE _ g;let i:=AE _ h;let j:=AE _ i;let k:=AE _ j;AE _ k _ _ _
  refine⟨Z,Z,p,most,o0,Y,Df,Ee,W,W,λv o1 BR Bf CO=>⟨_,Z,Y,?_⟩⟩;have hv:(1:Int) + v=((1 + v.toNat:Nat):Int):=by omega
  have d1:Drawn p H (upd H p o1):=Drawn.upd CO;refine⟨Z,Z,p,1 + v.toNat,(by show[V.ref p,V.int (1 + v)]=[V.ref p,V.int ((1 + v.toNat:Nat):Int)];rw[<- hv]),d1.pot,W,λlw ws H2 d2 hlw hw ok hwl=>?_⟩;have wk:H lw=none:=by
   cases e:H lw with
   | none=>rfl
   | some o =>
    by_cases z:lw=p
    ·rw[z]at hlw;rw[uS]at hlw;cases hlw
    ·rw[d1.keep lw o z e]at hlw;cases hlw
  have FX:=d1.trans d2;obtain⟨o2,BJ,BF⟩:=d2.pot;have pw:p≠lw:=Ws BJ hw (by
   obtain⟨r,b,e,_⟩:=BF;rw[e];intro z;injection z with z;have z2:=congrArg (λl=>l[0]?) z;cases ws with
   | nil=>simp at z2
   | cons x r=>simp at z2)
  refine⟨Z,p,5,o2,Y,BJ,BF,V,V,λsh o3 jN xX Bz=>?_⟩;have d3:Drawn p H (upd H2 p o3):=FX.trans (Drawn.upd Bz);refine⟨A7 _,λlo hlo=>⟨A7 _,λlu hlu=>?_⟩⟩;have d5:Drawn p H (upd (upd (upd H2 p o3) lo (.lst [])) lu (.lst [])):=(d3.new hlo).new hlu;have w5:(upd (upd (upd H2 p o3) lo (.lst [])) lu (.lst [])) lw=some (.lst (ws.map V.str)):=by
   have a1:(upd H2 p o3) lw=some (.lst (ws.map V.str)):=by rw[AD (Yj pw)];exact hw
   have a2:(upd (upd H2 p o3) lo (.lst [])) lw=some (.lst (ws.map V.str)):=by rw[AD (AF a1 hlo)];exact a1
   rw[AD (AF a2 hlu)];exact a2
  have o5:(upd (upd (upd H2 p o3) lo (.lst [])) lu (.lst [])) lo=some (.lst (Bn [])):=by
   rw[AD (AF uS hlu)];exact uS
  have plo:p≠lo:=AF (show(upd H2 p o3) p=some o3 from uS) hlo;have plu:p≠lu:=AF (show(upd (upd H2 p o3) lo (.lst [])) p=some o3 by rw[AD plo];exact uS) hlu;have lou:lo≠lu:=AF uS hlu;have lwo:lw≠lo:=λz=>by
   have a1:(upd H2 p o3) lw=some (.lst (ws.map V.str)):=by rw[AD (Yj pw)];exact hw
   rw[z,hlo]at a1;cases a1
  have lwu:lw≠lu:=λz=>by
   have a1:(upd H2 p o3) lw=some (.lst (ws.map V.str)):=by rw[AD (Yj pw)];exact hw
   have a2:(upd (upd H2 p o3) lo (.lst [])) lw=some (.lst (ws.map V.str)):=by rw[AD lwo];exact a1
   rw[z,hlu]at a2;cases a2
  have hloH:H lo=none:=by
   cases e:H lo with
   | none=>rfl
   | some o=>rw[d3.keep lo o (Yj plo) e]at hlo;cases hlo
  have hluH:H lu=none:=by
   cases e:H lu with
   | none=>rfl
   | some o=>rw[(d3.new (o:=.lst []) hlo).keep lu o (Yj plu) e]at hlu;cases hlu
  refine⟨Z,(1:Int) + v,Y,W,W,?_⟩;have hmn:((1:Int) + v).toNat=ws.length:=by omega
  rw[hmn];let Bp:NW:=λi σ H'=>∃(os:LN) (uf:List (LN)) (us:LV) (kv:OV),σ=[some (.ref p),some (.int most),some (.int (1 + v)),some (.ref lw),some (.int sh),some (.ref lo),some (.ref lu),kv]/\rq p lw lo lu ws H H' i os uf us;refine Cw Fl Bp
   ⟨[],[],[],none,Y,d5,w5,o5,uS,.nil,Y,λk js h=>by simp at h,Np,λj=>by simp,Y⟩ (λ_ _ _ _ _=>trivial) ?_ ?_
  ·rintro i x σ H' hi ⟨os,uf,us,kv,rfl,g⟩;obtain⟨hi,rfl⟩:=Dk hi;have hul:us.length=i:=by rw[<- g.pu.length];exact g.ul
   refine⟨Z,.inl ⟨Y,_,SqL.of g.u⟩,Z,Z,Z,p,i,sh.toNat,by rw[Ep,Fp jN];rfl,g.d.pot,W,λl js H6 d6 hl uok=>⟨l,Y,⟨_,SqL.of hl⟩,?_⟩⟩;have w6:H6 lw=some (.lst (ws.map V.str)):=d6.keep _ _ (Yj pw) g.w;refine K1 (EB (xs:=Bn js)) (sL (by unfold Bn;rw[Ya];have:=uok.few;omega)) (λ_=>true) (Xt ws) (λD ys hD=>SqL.of (by rw[AD (AF hl hD)];exact hl)) ?_ ?_ ?_
   ·intro D ys y R _ _ hR;exact hR
   ·intro D ys y R hD hy _ hR;obtain⟨j,hj,rfl⟩:=Yg.mp hy;have hjl:j<ws.length:=by have:=uok.below j hj;omega
    exact⟨Z,Z,lw,_,_,Z,Y,SqL.of (by rw[AD (AF w6 hD)];exact w6),Z7 hjl,hR⟩
   ·intro D hD;rw[SA,lS];refine⟨D,Z,.inl ⟨SqL.of uS,λt ht=>?_⟩⟩;have keepDt:∀ b o,H6 b=some o->(upd (upd H6 D (.lst ((js.map λi=>ws.getD i "").map V.str))) t (.tup ((js.map λi=>ws.getD i "").map V.str))) b=some o:=λb o e=>by
     have e1:(upd H6 D (.lst ((js.map λi=>ws.getD i "").map V.str))) b=some o:=by rw[AD (AF e hD)];exact e
     rw[AD (AF e1 ht)];exact e1
    have u6:H6 lu=some (.lst us):=d6.keep _ _ (Yj plu) g.u;have o6:H6 lo=some (.lst (Bn os)):=d6.keep _ _ (Yj plo) g.o;refine⟨lu,us,Z,Y,keepDt _ _ u6,B7 (by omega),?_⟩;obtain⟨o7,Cs,BX⟩:=d6.pot;refine⟨Z,.inl ⟨Y,_,SqL.of (by rw[AD lou];exact keepDt _ _ o6)⟩,Z,Z,_,Z,Y,p,_,o7,Y,(by rw[AD plu];exact keepDt _ _ Cs),BX,W,W,λat_ o8 RK ZD FR=>?_⟩;refine⟨Z,lo,Bn os,at_,Z,Y,(by rw[AD (Yj plo),AD lou];exact keepDt _ _ o6),RK,(by unfold Bn;rw[Ya,g.ol];omega),B7 (by unfold Bn;rw[Ya,g.ol];omega),?_⟩;have tlu:t≠lu:=λz=>by rw[z]at ht;rw[Vg hD u6]at ht;cases ht
    have tlo:t≠lo:=λz=>by rw[z]at ht;rw[Vg hD o6]at ht;cases ht
    have tp:t≠p:=λz=>by rw[z]at ht;rw[Vg hD Cs]at ht;cases ht
    have all:∀ b o,b≠p->b≠lu->b≠lo->H6 b=some o->(upd (upd (upd (upd (upd H6 D (.lst ((js.map λi=>ws.getD i "").map V.str))) t (.tup ((js.map λi=>ws.getD i "").map V.str))) lu (.lst (us++[.ref t]))) p o8) lo (.lst ((Bn os).take at_.toNat++V.int (0 + (i:Int)):: (Bn os).drop at_.toNat))) b=some o:=λb o h1 h2 h3 e=>by
     rw[AD h3,AD h1,AD h2];exact keepDt _ _ e
    have tt:(upd (upd (upd (upd (upd H6 D (.lst ((js.map λi=>ws.getD i "").map V.str))) t (.tup ((js.map λi=>ws.getD i "").map V.str))) lu (.lst (us++[.ref t]))) p o8) lo (.lst ((Bn os).take at_.toNat++V.int (0 + (i:Int)):: (Bn os).drop at_.toNat))) t=some (.tup ((js.map λi=>ws.getD i "").map V.str)):=by
     rw[AD tlo,AD tp,AD tlu];exact uS
    have tups:∀ b xs,H' b=some (.tup xs)->(upd (upd (upd (upd (upd H6 D (.lst ((js.map λi=>ws.getD i "").map V.str))) t (.tup ((js.map λi=>ws.getD i "").map V.str))) lu (.lst (us++[.ref t]))) p o8) lo (.lst ((Bn os).take at_.toNat++V.int (0 + (i:Int)):: (Bn os).drop at_.toNat))) b=some (.tup xs):=λb xs e=>by
     obtain⟨oP,hP,r,b',eP,_⟩:=g.d.pot;have bp:b≠p:=λz=>by rw[z,hP,eP]at e;cases e
     have bu:b≠lu:=λz=>by rw[z,g.u]at e;cases e
     have bo:b≠lo:=λz=>by rw[z,g.o]at e;cases e
     exact all b _ bp bu bo (d6.keep b _ bp e)
    refine⟨os.take at_.toNat++i :: os.drop at_.toNat,uf++[js],us++[.ref t],Z,?_⟩;refine⟨⟨λb o hb e=>?_,?_⟩,?_,?_,?_,?_,by rw[Yx,g.ul];rfl,?_,?_,?_,?_⟩
    ·have e6:=(g.d.trans d6).keep b o hb e;exact all b o hb (λz=>by rw[z,hluH]at e;cases e) (λz=>by rw[z,hloH]at e;cases e) e6
    ·exact⟨o8,by rw[AD plo];exact uS,FR⟩
    ·exact all lw _ (Yj pw) lwu lwo w6
    ·rw[uS];unfold Bn;rw[Bw,Ym,Iq,LF,Ep]
    ·rw[AD (Yj lou),AD (Yj plu)];exact uS
    ·exact Gr (Paired.mapP g.pu λa b z=>z.mono tups) ⟨t,Y,tt⟩
    ·intro k YV hk;by_cases hki:k<uf.length
     ·rw[LL hki]at hk;exact g.uok k YV hk
     ·rw[Ih (by omega)]at hk;have RE:k - uf.length=0:=by
       have:=(Yn.mp hk).1;simp at this;omega
      rw[RE]at hk;have e:js=YV:=by simpa using hk
      have e2:k=i:=by have:=g.ul;omega
      rw[<- e,e2];exact uok
    ·have hperm:(os.take at_.toNat++i :: os.drop at_.toNat).Perm (i :: os):=by
      refine Pt.trans ?_;rw[Jt]
     exact hperm.nodup_iff.mpr (Ft.mpr ⟨λz=>by have:=(g.om i).mp z;omega,g.on⟩)
    ·intro j;have hperm:(os.take at_.toNat++i :: os.drop at_.toNat).Perm (i :: os):=by
      refine Pt.trans ?_;rw[Jt]
     rw[hperm.mem_iff,Yr,g.om];omega
    ·have hperm:(os.take at_.toNat++i :: os.drop at_.toNat).Perm (i :: os):=by
      refine Pt.trans ?_;rw[Jt]
     rw[hperm.length_eq,Bj,g.ol]
  ·rintro σ H' ⟨os,uf,us,kv,rfl,g⟩;rw[CJ]at g;let Cr:SW:=λσ' H2=>∃(N4:Addr) (Ho:LN) (kv:OV),σ'=[some (.ref p),some (.int most),some (.int (1 + v)),some (.ref lw),some (.int sh),some (.ref N4),some (.ref lu),kv]/\Drawn p H H2/\H2 lw=some (.lst (ws.map V.str))/\H2 N4=some (.lst (Bn Ho))/\H2 lu=some (.lst us)/\Paired (P0 ws H2) uf us/\Ho.Nodup/\(∀ j,j∈Ho↔j<ws.length)/\Ho.length=ws.length;refine⟨Cr,?_,?_⟩
   ·obtain⟨oP,hP,hoP⟩:=g.d.pot;refine⟨Z,p,3,oP,Y,hP,hoP,V,V,λv3 o9 _ _ Kb=>⟨Y,Z,?_⟩⟩;have d9:Drawn p H (upd H' p o9):=g.d.trans (Drawn.upd Kb);have t9:∀ b xs,H' b=some (.tup xs)->(upd H' p o9) b=some (.tup xs):=λb xs e=>by
     obtain⟨r,b',eP,_⟩:=hoP;rw[AD (λz=>by rw[z,hP,eP]at e;cases e)];exact e
    refine Ak (λ_=>?_) (λ_=>?_)
    ·refine⟨Z,(1:Int) + v,Y,W,W,λl hl=>?_⟩;rw[hmn,pY];have nn:∀ {b:Addr} {o:HO},(upd H' p o9) b=some o->(upd (upd H' p o9) l (.lst (Bn (List.range ws.length)))) b=some o:=λ{b o} e=>by rw[AD (AF e hl)];exact e
     exact⟨l,List.range ws.length,Z,d9.new hl,nn (by rw[AD (Yj pw)];exact g.w),uS,nn (by rw[AD (Yj plu)];exact g.u),Paired.mapP g.pu λa b z=>(z.mono t9).mono λb xs e=>nn e,List.nodup_range,λj=>Cz,by simp⟩
    ·exact⟨lo,os,Z,d9,by rw[AD (Yj pw)];exact g.w,by rw[AD (Yj plo)];exact g.o,by rw[AD (Yj plu)];exact g.u,Paired.mapP g.pu λa b z=>z.mono t9,g.on,g.om,g.ol⟩
   ·rintro σ' H2 ⟨N4,Ho,xN,rfl,dE,wE,oE,uE,pE,on,om,ol⟩;refine⟨Z,N4,Y,⟨_,SqL.of oE⟩,?_⟩;refine NG (EB (xs:=Bn Ho)) (sL (by unfold Bn;rw[Ya];omega)) (λ_=>true)
     (λD x v H=>∃(j:Nat) (t u:Addr),x=.int (j:Int)/\v=.ref t/\t≠D/\u≠D/\H t=some (.tup [.str (ws.getD j ""),.ref u])/\H u=some (.tup (((uf.getD j []).map λi=>ws.getD i "").map V.str))) ?_ ?_ ?_ ?_ ?_
    ·rintro D x v H Bq hk ⟨j,t,u,e1,e2,h1,h2,h3,h4⟩;exact⟨j,t,u,e1,e2,h1,h2,hk _ _ h1 h3,hk _ _ h2 h4⟩
    ·intro H3 hs;exact hs.seq (SqL.of oE)
    ·intro x H3 R hs hx hR;exact hR H3 (AB.refl _)
    ·intro D x H3 R hs ⟨ys,hD⟩ Ug hx _ hR;obtain⟨j,hj,rfl⟩:=Yg.mp hx;have hjl:j<ws.length:=(om j).mp hj;have huj:uf[j]?=some (uf.getD j []):=by
      have:j<uf.length:=by rw[g.ul];exact hjl
      rw[Yk,Yb this];rfl
     obtain⟨uv,RB,t,rfl,jJ⟩:=K3 pE huj;have RA:=hs _ _ jJ;refine⟨Z,Z,lw,_,_,Z,Y,SqL.of (hs _ _ wE),Z7 hjl,Z,Z,lu,_,_,Z,Y,SqL.of (hs _ _ uE),EK RB,O,λtn htn=>?_⟩;have tD:tn≠D:=λz=>by rw[z,hD]at htn;cases htn
     have uD:t≠D:=λz=>by rw[z,hD]at RA;cases RA
     exact hR _ _ (λb o e=>by rw[AD (AF e htn)];exact e) ⟨j,tn,t,Y,Y,tD,uD,uS,by rw[AD (AF RA htn)];exact RA⟩
    ·intro D H3 ys hD hs hl hp;rw[SA]at hp;have hDH:H D=none:=by
      cases e:H D with
      | none=>rfl
      | some o =>
       by_cases z:D=p
       ·obtain⟨oP,hP,_⟩:=dE.pot;rw[z,hP]at hD;cases hD
       ·rw[dE.keep D o z e]at hD;cases hD
     refine q D (IM ws uf Ho) H3 (dE.same hs) hDH ⟨ys,hl,?_⟩ (u9 (m:=ws.length) (by omega) (by omega) ok.word ok.nd rfl (λk js h=>⟨(g.uok k js h).below,(g.uok k js h).nd,(g.uok k js h).few⟩) g.ul on om ol) (by unfold IM;rw[Ya];omega);exact eF hp
def br:Sp:=λvs H Q _=>∃ x:Str,vs=[.str x]/\x.length<=1000/\∀ H',AB H H'->Q (.bl (A4 x)) H'
def eC(K:Fg):Sp:=λvs H Q _=>∃(l:Addr) (rows:RS),vs=[.ref l]/\We K H l rows/\Ah rows/\∀ H',AB H H'->Q .non H'
structure HS(H:Hp)(d:Addr)(o:Obj)(rows:RS)(kvs:KL):Prop where
 at_:H d=some (.frz o (.dK kvs))
 ups:DK H rows kvs
theorem HS.mono{H H':Hp}{d:Addr}{o:Obj}{rows:RS}{kvs:KL}(b:HS H d o rows kvs)(s:AB H H'):HS H' d o rows kvs:=⟨s _ _ b.at_,b.ups.mono λ_ _ e=>s _ _ e⟩
def dq:Sp:=λvs H Q _=>∃(d:Addr) (o:Obj) (rows:RS) (kvs:KL),vs=[.ref d]/\HS H d o rows kvs/\Ah rows/\∀ H',AB H H'->Q .non H'
def JX(us left:LS):V:=match us.find? (λx=>decide (x∈left))with | some x=>.str x | none=>.non
def ao(K:Fg):Sp:=λvs H Q _=>∃(a b:Addr) (us left:LS),vs=[.ref a,.ref b]/\AJ K H a (us.map V.str)/\SqL K H b (left.map V.str)/\Q (JX us left) H
def cx:Sp:=λvs H Q _=>∃(d:Addr) (o:Obj) (rows:RS) (kvs:KL),vs=[.ref d]/\HS H d o rows kvs/\Ah rows/\∀ l H',AB H H'->H' l=some (.lst [])->Q (.ref l) H'
def Zy:Sp:=λvs H Q _=>∃(d:Addr) (o:Obj) (rows:RS) (kvs:KL),vs=[.ref d]/\HS H d o rows kvs/\Ah rows/\∀ H',AB H H'->Q .non H'
structure Nb(mg:Str->OU):Prop where
 letters:∃ t,mg "LETTERS"=some (.str letters t)
 most:∃ t,mg "MOST_LETTERS"=some (.int 8 t)
 kinds:∃ t,mg "MOST_KINDS"=some (.int 24 t)
 ups:∃ t,mg "MOST_UPS"=some (.int 8 t)
 len:mg "len"=none
 all:mg "all"=none
 list:mg "list"=none
 tuple:mg "tuple"=none
def iK:Ae ["text"] ["text"] (AL NO):=by nofun
def vt:(["sign"]:LS).Nodup:=by rfl'
def nM(F:Def K mg "is_word" NO ["text"] f fd)(T:Nb mg):⋯ 1 f fd ["text"] br:=by
 nomatch F.fn.ok iK
 ·obtain⟨x,rfl,_⟩:=h;rfl
 ·obtain⟨x,rfl,hx,k⟩:=h;obtain⟨t1,hl⟩:=T.letters;obtain⟨t2,hm⟩:=T.most
  ac_nf
  refine⟨_,pS (AY (CS (Vl Mq Mq AG (Aa Gp (by rfl) T.len Yy (pC (pv 0) AA)) (CU (v:=.int 8) (by rfl) hm ⟨Z⟩))) (AH (AW B1)) AZ)
   (AH (AW (Aa (NF rfl) (by rfl) T.all Nj (pC
    (B5 ["sign"] [] [] (λ_=>BU (osc:=AL NO) (on:=["text"]) (by rfl') rfl rfl rfl) (uL (pv 0)) (λC s H fp=>BQ (i:=0) vt rfl (Or.inl rfl) (Or.inr rfl)) (λC s H fp=>CA)
     (λC s H fp=>EL nC (pv 0) (CU (v:=.str letters) (by rfl) hl ⟨Z⟩) (by with_unfolding_all rfl))) AA)))),?_⟩
  exists AE _ a _ _ _
  refine⟨Z,_,Z,⟨sL (by omega),Y⟩,_,Z,Y,Z,?_⟩;have no:¬ (1<=x.length/\x.length<=8)->A4 x=false:=λh=>by unfold A4;rw[Jc h];rfl
  have same:AB H H:=AB.refl H;refine Ak (λh1=>?_) (λh1=>?_)
  ·have h1:(1:Int)<=(x.length:Int):=Je h1;refine⟨_,Z,Y,Z,?_⟩;refine Ak (λh2=>?_) (λh2=>?_)
   ·have h2:¬ ((x.length:Int)<=8):=by simpa using h2
    have q:=k H same;rw[no (by omega)]at q;exact q
   ·have h2:((x.length:Int)<=8):=by simpa using h2
    refine⟨Z,Z,K1 l_ (by unfold IP;rw[Ya,HY];exact sL (by omega)) (λ_=>true) Wj (λ_ _ _=>trivial) ?_ ?_ ?_⟩
    ·intro D ys v R _ _ hR;exact hR
    ·intro D ys v R _ hv _ hR;obtain⟨c,_,e⟩:=Yg.mp hv;subst e;exact⟨Z,_,Z,Y,hR⟩
    ·intro D hD;refine⟨D,x.cps.toList.map Ge,Y,SqL.of (by rw[<- nO];exact uS),?_⟩;have e:(x.cps.toList.map Ge).all id=A4 x:=by
      unfold A4;rw[Jb (by omega),LG,List.all_map];rfl
     have q:=k (upd H D (.lst (((IP x).filter λ_=>true).map Wj))) λb o hb=>by rw[AD (AF hb hD)];exact hb
     rw[<- e]at q;exact q
  ·have h1:¬ ((1:Int)<=(x.length:Int)):=λz=>h1 (Jb z);refine⟨Z,?_⟩;refine BM ?_;have q:=k H same;rw[no (by omega)]at q;exact q
def VL{b:Bool}{H:Hp}{a:Addr}{xs:LV}(h:Dq K b H a xs):eR K (.ref a) H xs.length:=by
 cases b with
 | true=>exact .inl ⟨xs,h,Y⟩
 | false=>exact .inr ⟨xs,h,Y⟩
def gK:Ae ["rows","seen","word","ups"] ["rows"] (AL Sw):=by nofun
def qO(F:Def K mg "check_rows" Sw ["rows"] f fd)(DW:Def K mg "is_word" NO ["text"] fW fdW)(T:Nb mg):⋯ 2 f fd ["rows"] (eC K):=by
 have GW:⋯ 1 fW fdW ["text"] br:=nM DW T
 nomatch F.fn.ok gK
 ·obtain⟨l,rows,rfl,_⟩:=h;rfl
 ·obtain⟨l,rows,rfl,⟨b,vs,hl,hp⟩,g,q⟩:=h;obtain⟨t1,hK⟩:=T.kinds;obtain⟨t2,hU⟩:=T.ups;have nd:=gK.nd;have hu:=Ei hr
  ac_nf
  refine⟨_,pS (AY (CS (Vl Mq Mq AG (Aa Gp (by rfl) T.len Yy (pC (pv 0) AA)) (CU (v:=.int 24) (by rfl) hK ⟨Z⟩))) Cn AZ)
   (pS (sE 1 nd M9)
   (AH (CQ Bb rfl (Zg (pv 0)) (Jl rfl (gC (gE 2 nd) (gC (gE 3 nd) Jm)))
    (pS (AY (CS (Bu (AN DW GW hr (pC (pv 2) AA)))) Cn AZ)
    (pS (AY (JU (Mv hu (pv 2) (pv 1))) Cn AZ)
    (pS (AY (Af OR (Aa Gp (by rfl) T.len Yy (pC (pv 3) AA)) (CU (v:=.int 8) (by rfl) hU ⟨Z⟩) (Ad _)) Cn AZ)
    (AH (Jn hu (pv 1) (pv 2) B1 rfl)))))))),?_⟩
  exists let b:=AE _ a;let c:=AE _ b;let e:=AE _ c;let f:=Cg _ _ e;let g:=AE _ f;AE _ g _ _ _
  have hvl:=hp.length;have g1:=g.ne;have g2:=g.le;refine⟨Z,_,Z,VL hl,_,Z,Y,Z,?_⟩;rw[show decide ((1:Int)<=(vs.length:Int))=true from Jb (by omega)];refine BM ⟨_,Z,Y,Z,?_⟩;rw[show(decide ((vs.length:Int)<=24))=true from Jb (by omega)];refine Av ?_;intro d hd;have s0:AB H (upd H d (.dK [])):=λb o e=>by rw[AD (AF e hd)];exact e
  let Bp:NW:=λi σ H'=>∃(kvs:KL) (a c:OV),σ=[some (.ref l),some (.ref d),a,c]/\AB H H'/\H' d=some (.dK kvs)/\kvs.map (·.1)=(rows.take i).map λr=>(Sum.inr r.1:Key);refine⟨Z,b,l,vs,Y,hl.mono s0,Cw bR Bp
   ⟨[],none,none,Y,s0,uS,by simp⟩ (λi σ H' _ h0=>by obtain⟨_,_,_,_,s,_⟩:=h0;exact hl.mono s) ?_ ?_⟩
  ·rintro i v σ H' hi ⟨kvs,a,c,rfl,s,hdk,hk⟩;obtain⟨r,Aj,t,u,rfl,ht,hug⟩:=C6 hp hi;obtain⟨b',A1⟩:=hug.sq;have Bd:r∈rows:=Yh Aj;have hw:=g.word r Bd;have hwl:=Ov hw;refine⟨t,Z,s.tup ht,Y,_,Z,_,Z,Y,?_⟩;refine⟨Z,r.1,Y,W,λH2 s2=>⟨Z,?_⟩⟩;rw[hw];refine Av ?_;have hd2:H2 d=some (.dK kvs):=s2 _ _ hdk;refine⟨Z,Z,d,Z,BL.k (k:=Sum.inr r.1) hd2,Z,?_⟩;have A8:(Sum.inr r.1:Key)∉kvs.map (·.1):=by rw[hk];exact O4 g.nd Aj
   rw[Gq A8];refine Av ?_;refine⟨Z,_,Z,VL (A1.mono (s.trans s2)),_,Z,Y,Z,?_⟩;rw[show decide ((8:Int)<((r.2.map V.str).length:Int))=false from Jc (by rw[Ya];have:=g.few r Bd;omega)];refine Av ?_;have hkl:kvs.length=(rows.take i).length:=by have:=congrArg List.length hk;simpa using this
   have hil:(rows.take i).length<=24:=by rw[Yz];omega
   refine⟨Z,Z,d,Z,EH.k (k:=Sum.inr r.1) hd2 (B7 (by omega)),?_⟩;refine⟨_,_,Z,λb o e=>?_,uS,?_⟩
   ·rw[AD (AF e hd)];exact s2 _ _ (s _ _ e)
   ·rw[Vw A8,hk,Dm,Aj,Bw];rfl
  ·rintro σ H' ⟨kvs,a,c,rfl,s,hdk,hk⟩;exact q H' s
def gL:Ae ["ups_of","ups","seen","up"] ["ups_of"] (AL Sk):=by nofun
def Kx{us:LS}{i:Nat}{v:V}(h:(us.map V.str)[i]?=some v):∃ x,us[i]?=some x/\v=.str x:=by
 rw[Yf]at h;obtain⟨x,hx,e⟩:=He.mp h;exact⟨x,hx,e.symm⟩
def nT{us:LS}{i:Nat}{x:Str}(nd:us.Nodup)(h:us[i]?=some x):(Sum.inr x:Key)∉(us.take i).map λy=>(Sum.inr y:Key):=by
 intro m;obtain⟨y,hy,e⟩:=Yg.mp m;have e:y=x:=by injection e
 subst e;obtain⟨j,hj,ej⟩:=Nh.mp hy;rw[Yz]at hj;rw[List.getElem_take]at ej;have a:us[j]?=some y:=by rw[Yb (by omega),ej]
 have:=Ky nd a h;omega
def qH(F:Def K mg "check_ups" Sk ["ups_of"] f fd):⋯ 1 f fd ["ups_of"] dq:=by
 nomatch F.fn.ok gL
 ·obtain⟨d,o,rows,kvs,rfl,_⟩:=h;rfl
 ·obtain⟨d,o,rows,kvs,rfl,bk,g,q⟩:=h;have nd:=gL.nd;have hu:=Ei hr
  ac_nf
  refine⟨_,AH (CQ Bb rfl (va (pv 0)) (gE 1 nd)
    (pS (sE 2 nd M9)
    (AH (CQ Bb rfl (HV (pv 1)) (gE 3 nd)
     (pS (AY (JU (cX hu (pv 3) (pv 0))) Cn AZ)
     (pS (AY (JU (Mv hu (pv 3) (pv 2))) Cn AZ)
     (AH (Jn hu (pv 2) (pv 3) B1 rfl)))))))),?_⟩
  exists let b:=AE _ a;let c:=AE _ b;let e:=Cg _ _ c;let f:=AE _ e;Cg _ _ f _ _ _
  let Gx:NW:=λi σ H'=>∃(a b c:OV),σ=[some (.ref d),a,b,c]/\AB H H';refine⟨Z,d,o,kvs,Y,bk.at_,Cw nh Gx ⟨none,none,none,Y,AB.refl H⟩ (λi σ H' _ h0=>by obtain⟨_,_,_,_,s⟩:=h0;exact s _ _ bk.at_) ?_ ?_⟩
  ·rintro i v σ H' hi ⟨a,b,c,rfl,s⟩;rw[Yf]at hi;obtain⟨p,hp,e⟩:=He.mp hi;obtain⟨r,Aj,hk,t,ht,htup⟩:=C6 bk.ups hp;have Bd:r∈rows:=Yh Aj;subst e;show C2 1 p.2 _ _ _;rw[ht];intro sd hsd;have s1:AB H (upd H' sd (.dK [])):=λb o e=>by rw[AD (AF (s _ _ e) hsd)];exact s _ _ e
   have t1:(upd H' sd (.dK [])) t=some (.tup (r.2.map V.str)):=s1 _ _ htup;let wF:NW:=λj σ H2=>∃(C_:KL) (c:OV),σ=[some (.ref d),some (.ref t),some (.ref sd),c]/\AB H H2/\H2 sd=some (.dK C_)/\C_.map (·.1)=(r.2.take j).map λy=>(Sum.inr y:Key);refine⟨Z,t,Y,⟨_,AJ.of t1⟩,Cw (HZ (xs:=r.2.map V.str)) wF
    ⟨[],Z,s1,uS,by simp⟩ (λj σ H2 _ h0=>by obtain⟨_,_,_,s,_⟩:=h0;exact AJ.of (s _ _ htup)) ?_ ?_⟩
   ·rintro j v σ H2 hj ⟨C_,c,rfl,s2,Lz,FU⟩;obtain⟨x,hx,rfl⟩:=Kx hj;have xm:x∈r.2:=Yh hx;have known:=g.known r Bd x xm;refine⟨Z,Z,d,Z,BL.f (k:=Sum.inr x) (s2 _ _ bk.at_),Z,?_⟩;obtain⟨r2,Ca,Me⟩:=Yg.mp known;obtain⟨t2,KW,_⟩:=bk.ups.val g.nd Ca;rw[<- Me,KW,Me];refine Av ?_;have A8:(Sum.inr x:Key)∉C_.map (·.1):=by rw[FU];exact nT (g.upnd r Bd) hx
    refine⟨Z,Z,sd,Z,BL.k (k:=Sum.inr x) Lz,Z,?_⟩;rw[Gq A8];refine Av ?_;have hkl:C_.length=(r.2.take j).length:=by have:=congrArg List.length FU;simpa using this
    have hjl:(r.2.take j).length<=8:=by rw[Yz];have:=g.few r Bd;omega
    have hsH:H sd=none:=s.free hsd;refine⟨Z,Z,sd,Z,EH.k (k:=Sum.inr x) Lz (B7 (by omega)),_,Z,λb o e=>?_,uS,?_⟩
    ·rw[AD (AF e hsH)];exact s2 _ _ e
    ·rw[Vw A8,FU,Dm,hx,Bw];rfl
   ·rintro σ H2 ⟨C_,c,rfl,s2,Lz,FU⟩;exact⟨_,_,Z,s2⟩
  ·rintro σ H' ⟨a,b,c,rfl,s⟩;exact q H' s
def gO:Ae ["words","others","word"] ["words","others"] (AL NZ):=by nofun
def kj(F:Def K mg "first_among" NZ ["words","others"] f fd):⋯ 1 f fd ["words","others"] (ao K):=by
 nomatch F.fn.ok gO
 ·obtain⟨a,b,us,left,rfl,_⟩:=h;rfl
 ·obtain⟨a,b,us,left,rfl,ha,hb,q⟩:=h;have nd:=gO.nd
  ac_nf
  refine⟨_,pS (CQ Bb rfl (HV (pv 0)) (gE 2 nd) (AH (AY (Af O0 (pv 2) (pv 1) (by with_unfolding_all rfl)) (AH (AW (pv 2))) AZ)))
   (AH (AW Mw)),?_⟩
  exists let b:=_;AE (Cg _ _ b) a _ _ _
  let wD:NW:=λi σ H'=>H'=H/\(∃ c:OV,σ=[some (.ref a),some (.ref b),c])/\(us.take i).find? (λx=>decide (x∈left))=none;refine⟨Z,a,Y,⟨_,ha⟩,Cw (HZ (xs:=us.map V.str)) wD ⟨Y,⟨none,Y⟩,by simp⟩ (λi σ H' _ ⟨e,_⟩=>by rw[e];exact ha) ?_ ?_⟩
  ·rintro i v σ H' hi ⟨rfl,⟨c,rfl⟩,hf⟩;obtain⟨x,hx,rfl⟩:=Kx hi;refine⟨Z,Z,b,Z,.inl hb,Y,NK left,Z,?_⟩;show if Ec (.str x) (left.map V.str)=true then _ else _
   rw[Kt];have split:us=us.take i++x :: us.drop (i + 1):=by
    have Ab:=(Yn.mp hx).1;have e:us[i]=x:=(Yn.mp hx).2;rw[<- e,List.getElem_cons_drop Ab,Jt]
   refine Ak (λh=>?_) (λh=>?_)
   ·have fv:JX us left=.str x:=by
     unfold JX;rw[split,List.find?_append,hf,LR];simp only[h];rfl
    rw[fv]at q;exact⟨Z,q⟩
   ·refine⟨Y,⟨Z⟩,?_⟩;rw[Dm,hx,List.find?_append,hf];have h':decide (x∈left)=false:=by simpa using h
    simp[h']
  ·rintro σ H' ⟨rfl,⟨c,rfl⟩,hf⟩;rw[Ya,FJ]at hf;have fv:JX us left=.non:=by unfold JX;rw[hf]
   rw[fv]at q;exact q
def Wk(rows:RS)(ls:LS):V->Bool
 | .str x=>(Ao rows x).any λu=>decide (u∈ls)
 | _=>false
def kX(rows:RS)(ls:LS):((ls.map V.str).filter (Wk rows ls)).map (λv=>v)=(Graph.kept (Ao rows) ls).map V.str:=by
 rw[List.map_id',Po];rfl
def kO(us ls:LS):(!decide (JX us ls=V.non))=us.any λu=>decide (u∈ls):=by
 unfold JX;cases e:us.find? λx=>decide (x∈ls)with
 | none =>
  have:∀ x∈us,¬ decide (x∈ls)=true:=List.find?_eq_none.mp e;rw[Io];constructor
  ·intro h;simp at h
  ·intro h;obtain⟨x,hx,h1⟩:=Fx.mp h;exact absurd h1 (this x hx)
 | some x =>
  have h1:=List.find?_some e;have h2:=List.mem_of_find?_eq_some e;rw[Io];constructor
  ·intro _;exact Fx.mpr ⟨x,h2,h1⟩
  ·intro _;rfl
abbrev e_:LS:=["ups_of","left","kept"]
def X4:Ae e_ ["ups_of"] (AL NN):=by nofun
def tY:(["word","ups_of","left"]:LS).Nodup:=by rfl'
def En{rows:RS}{x:Str}(h:x∈rows.map (·.1)):∃ r∈rows,r.1=x:=by
 obtain⟨r,hr,e⟩:=Yg.mp h;exact⟨r,hr,e⟩
def pO(F:Def K mg "endless" NN ["ups_of"] f fd)(DF:Def K mg "first_among" NZ ["words","others"] fF fdF)(T:Nb mg):⋯ 2 f fd ["ups_of"] cx:=by
 have GF:⋯ 1 fF fdF ["words","others"] (ao K):=kj DF
 nomatch F.fn.ok X4
 ·obtain⟨d,o,rows,kvs,rfl,_⟩:=h;rfl
 ·obtain⟨d,o,rows,kvs,rfl,bk,g,q⟩:=h;have nd:=X4.nd;have hu:=Ei hr
  ac_nf
  refine⟨_,pS (CB (i:=1) nd rfl (Or.inr rfl) (DZ (qT rfl) (by rfl) T.list FI (pC (pv 0) AA)))
   (AH (K0 Bb (Bu B1)
    (pS (O7 (k:=2) ["word"] ["ups_of","left"] [0,1] nd rfl rfl (λ_=>BU (osc:=AL NN) (on:=e_) (by rfl') rfl rfl rfl) (C5 (pv 1)) (λC s H fp=>BQ (i:=0) tY rfl (Or.inl rfl) (Or.inr rfl))
     (λC s H fp=>Kv (JU (aN (AN DF GF hr (pC (Gn hu (pv 1) (pv 0) (λ_ _=>rfl)) (pC (pv 2) AA)))))) (λC s H fp=>pv 0))
    (pS (AY (Af BC (Aa Gp (by rfl) T.len Yy (pC (pv 2) AA)) (Aa Gp (by rfl) T.len Yy (pC (pv 1) AA)) (Ad _)) (AH (AW (pv 2))) AZ)
    (AH (CB (i:=1) nd rfl (Or.inr rfl) (pv 2))))))),?_⟩
  exists let b:=AE _ a;let c:=AE _ b;let e:=My _ c;AE _ e _ _ _
  have wl:(rows.map (·.1)).length<=24:=by rw[Ya];exact g.le
  refine⟨Z,d,kvs,Y,.inr ⟨o,bk.at_⟩,λl0 OD=>?_⟩;let Cr:NW:=λm σ H'=>∃(ll:Addr) (ls:LS) (c:OV),σ=[some (.ref d),some (.ref ll),c]/\AB H H'/\H' ll=some (.lst (ls.map V.str))/\(∀ x∈ls,x∈rows.map (·.1))/\ls.length<=24/\m=ls.length;refine⟨Cr,
   ⟨_,l0,rows.map (·.1),none,Y,λb o e=>by rw[AD (AF e OD)];exact e,by rw[uS,Wl bk.ups],λx h=>h,wl,Y⟩,?_⟩
  rintro m σ H' ⟨ll,ls,c,rfl,s1,hll,hsub,jk,rfl⟩;refine⟨true,Y,?_⟩;let FL:SW:=λσ' H2=>∃ m',m'<ls.length/\∃(ll:Addr) (ls:LS) (c:OV),σ'=[some (.ref d),some (.ref ll),c]/\AB H H2/\H2 ll=some (.lst (ls.map V.str))/\(∀ x∈ls,x∈rows.map (·.1))/\ls.length<=24/\m'=ls.length;refine BM ⟨FL,λ_ _ h=>h,?_⟩;refine⟨Z,ll,Y,⟨_,SqL.of hll⟩,K1 (EB (xs:=ls.map V.str)) (sL (by rw[Ya];omega)) (Wk rows ls) (λv=>v) (λD ys hD=>SqL.of (by rw[AD (AF hll hD)];exact hll)) ?_ ?_ ?_⟩
  ·intro D ys v R hD hv hR;obtain⟨x,hx,rfl⟩:=Yg.mp hv;obtain⟨r,Aj,rfl⟩:=En (hsub x hx);obtain⟨t,hvt,ht⟩:=bk.ups.val g.nd Aj;have kp:∀ b o,H b=some o->(upd H' D (.lst ys)) b=some o:=λb o e=>by rw[AD (AF (s1 _ _ e) hD)];exact s1 _ _ e
   refine⟨Z,Z,d,Z,(by rw[<- hvt];exact BL.f (k:=Sum.inr r.1) (kp _ _ bk.at_)),Z,t,ll,r.2,ls,Y,AJ.of (kp _ _ ht),SqL.of (by rw[AD (AF hll hD)];exact hll),Z,?_⟩;have e:(!decide (JX r.2 ls=V.non))=Wk rows ls (V.str r.1):=by
    rw[kO];show _=(Ao rows r.1).any _;rw[NB g.nd Aj]
   rw[e];exact hR
  ·intro D ys v R hD hv _ hR;exact⟨Z,hR⟩
  ·intro D hD;rw[kX];have hDl:(upd H' D (.lst ((Graph.kept (Ao rows) ls).map V.str))) ll=some (.lst (ls.map V.str)):=by rw[AD (AF hll hD)];exact hll
   have s2:AB H (upd H' D (.lst ((Graph.kept (Ao rows) ls).map V.str))):=λb o e=>by rw[AD (AF (s1 _ _ e) hD)];exact s1 _ _ e
   refine⟨Z,_,Z,.inl ⟨_,SqL.of uS,Y⟩,Z,_,Z,.inl ⟨_,SqL.of hDl,Y⟩,Y,Z,?_⟩;have kle:=Graph.kept_le (Ao rows) ls;refine Ak (λh=>?_) (λh=>?_)
   ·have h:(Graph.kept (Ao rows) ls).length=ls.length:=by
     have:=Je h;injection this with this;rw[Ya,Ya]at this;omega
    obtain⟨rk,hrk⟩:=g.rank;have nil:ls=[]:=Graph.kept_nil (rk:=rk) (λa ha b hb=>by
     obtain⟨r,Aj,rfl⟩:=En (hsub a ha);rw[NB g.nd Aj]at hb;exact hrk r Aj b hb) h
    have kn:Graph.kept (Ao rows) ls=[]:=by rw[nil];rfl
    refine⟨Z,q D _ s2 ?_⟩;rw[uS,kn];rfl
   ·have h:(Graph.kept (Ao rows) ls).length≠ls.length:=λz=>h (Jb (by rw[Ya,Ya,z]));exact⟨Z,_,W,D,_,Z,s2,uS,λx hx=>hsub x (Graph.kept_sub hx),W,Y⟩
def X0:Ae ["ups_of","left","way","here"] ["ups_of"] (AL Sm):=by nofun
def vT(F:Def K mg "find_ring" Sm ["ups_of"] f fd)(DE:Def K mg "endless" NN ["ups_of"] fE fdE)(DF:Def K mg "first_among" NZ ["words","others"] fF fdF)(T:Nb mg):⋯ 3 f fd ["ups_of"] Zy:=by
 have GE:⋯ 2 fE fdE ["ups_of"] cx:=pO DE DF T
 nomatch F.fn.ok X0
 ·obtain⟨d,o,rows,kvs,rfl,_⟩:=h;rfl
 ·obtain⟨d,o,rows,kvs,rfl,bk,g,q⟩:=h;have nd:=X0.nd
  ac_nf
  refine⟨_,pS (sE 1 nd (AN DE GE hr (pC (pv 0) AA)))
   (pS (AY (CS (Vm (pv 1) (λ_=>rfl))) (AH (AW Mw)) AZ) Cn),?_⟩
  exists let b:=AE _ a;AE _ b _ _ _
  refine⟨Z,d,o,rows,kvs,Y,bk,g,λl H' s1 hl=>?_⟩;exact⟨Z,false,.inl ⟨[],SqL.of hl,Y⟩,BM (q H' s1)⟩
def N5(x:Str):Key:=Sum.inr x
def af:Sp:=λvs H Q _=>∃(d:Addr) (o:Obj) (rows:RS) (kvs:KL) (x:Str),vs=[.ref d,.str x]/\HS H d o rows kvs/\Ah rows/\x∈rows.map (·.1) /\
 ∀ a o' fk H',H a=none->AB H H'->H' a=some (.frz o' (.dK fk))->(∀ y,(Sum.inr y:Key)∈fk.map (·.1)↔Graph.Reach (Ao rows) x y)->Q (.ref a) H'
structure Wc(rows:RS)(x:Str)(fs ws:LS):Prop where
 start:x∈fs
 sub:∀ y∈ws,y∈fs
 known:∀ y∈fs,y∈rows.map (·.1)
 nd:fs.Nodup
 reach:∀ y∈fs,Graph.Reach (Ao rows) x y
 closed:∀ y∈fs,y∉ws->∀ u∈Ao rows y,u∈fs
 few:ws.length<=fs.length
def X5:Ae ["ups_of","word","found","waiting","here","up"] ["ups_of","word"] (AL Sj):=by nofun
def Vu{fk:KL}{fs:LS}(h:fk.map (·.1)=fs.map N5)(y:Str):(Sum.inr y:Key)∈fk.map (·.1)↔y∈fs:=by
 rw[h];constructor
 ·intro m;obtain⟨z,hz,e⟩:=Yg.mp m;have e:z=y:=by
   unfold N5 at e;injection e
  rw[<- e];exact hz
 ·intro m;exact Yg.mpr ⟨y,m,Y⟩
def Sn{fk:KL}{k:Key}(h:k∈fk.map (·.1)):(BS fk k).isSome=true:=by
 cases e:BS fk k with
 | none=>exact absurd h (mF e)
 | some v=>rfl
def ka(F:Def K mg "all_above" Sj ["ups_of","word"] f fd):⋯ 1 f fd ["ups_of","word"] af:=by
 nomatch F.fn.ok X5
 ·obtain⟨d,o,rows,kvs,x,rfl,_⟩:=h;rfl
 ·obtain⟨d,o,rows,kvs,x,rfl,bk,g,hx,q⟩:=h;have nd:=X5.nd;have hu:=Ei hr
  ac_nf
  refine⟨_,pS (sE 2 nd (vX (lE (pv 1) B1 vb) rfl rfl (by simp) (by show 1<=15;decide)))
   (pS (sE 3 nd (B2 (pC (pv 1) AA)))
   (pS (K0 Bb (Vm (pv 3) (λ_=>rfl))
    (pS (sE 4 nd (uI Yw Ti Th tV (pv 3)))
    (AH (CQ Bb rfl (HV (Gn hu (pv 0) (pv 4) (λ_ _=>rfl))) (gE 5 nd)
     (AH (AY (JU (cX hu (pv 5) (pv 2))) (pS (Jn hu (pv 2) (pv 5) B1 rfl)
      (AH (Bi (CH Yw J1 J0 Hc (pv 3) (pC (pv 5) AA))))) AZ))))))
   (VX (AH (AW (pv 2)))))),?_⟩
  exists let b:=_;let c:=AE _ b;let e:=BH _ c _;let f:=Cg _ _ e;let g:=AE _ f;let h:=AE (My _ g) a;let i:=AE _ h;AE _ i _ _ _
  intro fa hfa;refine⟨Z,uS,[(Sum.inr x,.bl true)],Y,(by show 1<=15;decide),?_⟩;rw[M7];refine⟨Z,sL (by show 1<=100000;decide),λwa hwa=>?_⟩;have fw:fa≠wa:=AF uS hwa;have hwaH:H wa=none:=by
   cases e:H wa with
   | none=>rfl
   | some u=>rw[AD (Yj fw),e]at hwa;cases hwa
  have bound:∀ {fs ws:LS},Wc rows x fs ws->fs.length<=rows.length:=λ{fs ws} h=>by
   have:=Graph.nodup_le h.nd h.known
   rwa [Ya]at this
  have gle:=g.le;let P8:NW:=λm σ H'=>∃(fs ws:LS) (fk:KL) (a b:OV),σ=[some (.ref d),some (.str x),some (.ref fa),some (.ref wa),a,b]/\AB H H'/\H' fa=some (.dK fk)/\fk.map (·.1)=fs.map N5/\H' wa=some (.lst (ws.map V.str))/\Wc rows x fs ws/\m + 2 * fs.length=2 * rows.length + ws.length;refine⟨P8,
   ⟨2 * rows.length - 1,[x],[x],[(Sum.inr x,.bl true)],none,none,Y,λb o e=>by rw[AD (AF e hwaH),AD (AF e hfa)];exact e,by rw[AD fw];exact uS,Y,uS,
    ⟨by simp,λy h=>h,λy h=>by rw[Yi.mp h];exact hx,by simp,λy h=>by rw[Yi.mp h];exact .refl x,λy h n=>absurd h n,Yd _⟩,by have:=g.ne;simp;omega⟩,?_⟩
  rintro m σ H' ⟨fs,ws,fk,a,b,rfl,s1,hf,hk,hw,go,hm⟩;have flen:=bound go;refine⟨Z,_,.inl ⟨_,SqL.of hw,Y⟩,?_⟩;refine Ak (λB9=>?_) (λB9=>?_)
  ·-- here=waiting.pop()
   have wne:ws≠[]:=by
    intro z;rw[z]at B9;cases B9
   have hpos:0<ws.length:=Ik.mpr wne;have split:ws=ws.dropLast++[ws.getLast wne]:=(List.dropLast_concat_getLast wne).symm;generalize hhere:ws.getLast wne=here at split;have Bd:here∈ws:=by rw[split];simp
   have hfs:here∈fs:=go.sub here Bd;obtain⟨r,Aj,er⟩:=En (go.known here hfs);obtain⟨t,hvt,ht⟩:=bk.ups.val g.nd Aj;have last:(ws.map V.str)[(ws.map V.str).length - 1]?=some (V.str here):=by
    rw[Yf,Ya];have:ws[ws.length - 1]?=some here:=by
     rw[<- hhere,List.getLast_eq_getElem,Yb (by omega)]
    rw[this];rfl
   let P7:SW:=λσ' H2=>∃ m',m'<m/\∃(fs ws:LS) (fk:KL) (a b:OV),σ'=[some (.ref d),some (.str x),some (.ref fa),some (.ref wa),a,b]/\AB H H2/\H2 fa=some (.dK fk)/\fk.map (·.1)=fs.map N5/\H2 wa=some (.lst (ws.map V.str))/\Wc rows x fs ws/\m' + 2 * fs.length=2 * rows.length + ws.length;refine⟨P7,λ_ _ h=>h,?_⟩;refine⟨Z,.inl ⟨Y,_,SqL.of hw⟩,wa,_,Z,Y,hw,last,?_⟩;have s2:AB H (upd H' wa (.lst (ws.map V.str).dropLast)):=λb o e=>by rw[AD (AF e hwaH)];exact s1 _ _ e
   refine⟨Z,Z,d,Z,(by rw[<- hvt,er];exact BL.f (k:=Sum.inr here) (s2 _ _ bk.at_)),t,Y,⟨_,AJ.of (s2 _ _ ht)⟩,?_⟩;have uo:Ao rows here=r.2:=by rw[<- er];exact NB g.nd Aj
   refine Cw (HZ (xs:=r.2.map V.str)) (λj σ H2=>∃(Bs Ea:LS) (BK:KL) (b:OV),σ=[some (.ref d),some (.str x),some (.ref fa),some (.ref wa),some (.str here),b]/\AB H H2/\H2 fa=some (.dK BK)/\BK.map (·.1)=Bs.map N5/\H2 wa=some (.lst (Ea.map V.str)) /\
    (∀ y∈fs,y∈Bs)/\(∀ y∈ws.dropLast,y∈Ea)/\(∀ y∈Ea,y∈Bs)/\(∀ y∈Bs,y∈rows.map (·.1))/\Bs.Nodup/\(∀ y∈Bs,Graph.Reach (Ao rows) x y)/\(∀ y∈Bs,y∈fs\/y∈Ea)/\(∀ u∈r.2.take j,u∈Bs)/\Ea.length + 2 * fs.length + Bs.length<=ws.dropLast.length + 2 * Bs.length + fs.length)
    ⟨fs,ws.dropLast,fk,Z,s2,by rw[AD fw];exact hf,hk,by rw[uS,List.map_dropLast],λy h=>h,λy h=>h,λy h=>go.sub y ((List.dropLast_sublist ws).subset h),go.known,go.nd,go.reach,λy h=>.inl h,λu h=>by simp at h,W⟩ (λj σ H2 _ h0=>by obtain⟨_,_,_,_,_,s,_⟩:=h0;exact AJ.of (s _ _ ht)) ?_ ?_
   ·rintro j v σ H2 hj ⟨Bs,Ea,BK,b,rfl,s3,Kf,Kd,KU,c1,c2,c3,c4,c5,c6,c7,c8,c9⟩;obtain⟨u,A1,rfl⟩:=Kx hj;have um:u∈r.2:=Yh A1;have ju:Bs.length<=rows.length:=by
     have:=Graph.nodup_le c5 c4
     rwa [Ya]at this
    have kl:BK.length=Bs.length:=by have:=congrArg List.length Kd;simpa using this
    refine⟨Z,Z,fa,Z,BL.k (k:=Sum.inr u) Kf,Z,?_⟩;have dl:ws.dropLast.length=ws.length - 1:=Pp;have gf:=go.few;by_cases nin:u∉Bs
    ·have nk:(Sum.inr u:Key)∉BK.map (·.1):=λz=>nin ((Vu Kd u).mp z);have T4:Ea.length<=rows.length * 3:=by omega
     rw[Gq nk];refine BM ?_;refine⟨Z,Z,fa,Z,EH.k (k:=Sum.inr u) Kf (B7 (by omega)),?_⟩;have YY:(upd H2 fa (.dK (BN BK (Sum.inr u) (.bl true)))) wa=some (.lst (Ea.map V.str)):=by rw[AD (Yj fw)];exact KU
     refine⟨Z,.inl ⟨Y,_,SqL.of YY⟩,Z,wa,_,Z,Y,YY,B7 (by rw[Ya];omega),?_⟩;refine⟨Bs++[u],Ea++[u],BN BK (Sum.inr u) (.bl true),Z,λb o e=>by rw[AD (AF e hwaH),AD (AF e hfa)];exact s3 _ _ e,by rw[AD fw];exact uS,?_,by rw[uS,Bw];rfl,λy h=>LQ _ (c1 y h),λy h=>LQ _ (c2 y h),λy h=>?_,λy h=>?_,?_,λy h=>?_,λy h=>?_,λy h=>?_,?_⟩
     ·rw[Vw nk,Kd,Bw];rfl
     ·rcases Yt.mp h with h | h
      ·exact LQ _ (c3 y h)
      ·exact Cq _ h
     ·rcases Yt.mp h with h | h
      ·exact c4 y h
      ·rw[Yi.mp h];exact g.known r Aj u um
     ·rw[List.nodup_append];exact⟨c5,by simp,λa ha b hb e=>nin (by rw[<- Yi.mp hb,<- e];exact ha)⟩
     ·rcases Yt.mp h with h | h
      ·exact c6 y h
      ·rw[Yi.mp h];exact(go.reach here hfs).snoc (by rw[uo];exact um)
     ·rcases Yt.mp h with h | h
      ·rcases c7 y h with h | h
       ·exact .inl h
       ·exact .inr (LQ _ h)
      ·exact .inr (Cq _ h)
     ·rw[Dm,A1]at h
      rcases Yt.mp h with h | h
      ·exact LQ _ (c8 y h)
      ·have:y=u:=by simpa using h
       rw[this];exact Cq _ (by simp)
     ·rw[Yx,Yx];simp only[List.length_singleton];omega
    ·have yin:u∈Bs:=Te nin;rw[Sn ((Vu Kd u).mpr yin)];refine Av ?_;refine⟨Bs,Ea,BK,Z,s3,Kf,Kd,KU,c1,c2,c3,c4,c5,c6,c7,λy h=>?_,c9⟩;rw[Dm,A1]at h
     rcases Yt.mp h with h | h
     ·exact c8 y h
     ·have:y=u:=by simpa using h
      rw[this];exact yin
   ·rintro σ H2 ⟨Bs,Ea,BK,b,rfl,s3,Kf,Kd,KU,c1,c2,c3,c4,c5,c6,c7,c8,c9⟩;rw[Ya,FJ]at c8;have ju:Bs.length<=rows.length:=by
     have:=Graph.nodup_le c5 c4
     rwa [Ya]at this
    have dl:ws.dropLast.length=ws.length - 1:=Pp;have fle:fs.length<=Bs.length:=Graph.nodup_le go.nd c1;have gf:=go.few;refine⟨2 * rows.length + Ea.length - 2 * Bs.length,W,Bs,Ea,BK,_,Z,s3,Kf,Kd,KU,⟨c1 x go.start,c3,c4,c5,c6,λy hy hn u A1=>?_,W⟩,W⟩
    rcases c7 y hy with Ey | Ey
    ·by_cases yh:y=here
     ·rw[yh,uo]at A1;exact c8 u A1
     ·have nw:y∉ws:=λz=>by
       rw[split]at z
       rcases Yt.mp z with z | z
       ·exact hn (c2 y z)
       ·exact yh (Yi.mp z)
      exact c1 u (go.closed y Ey nw u A1)
    ·exact absurd Ey hn
  ·have wnil:ws=[]:=by
    cases ws with
    | nil=>rfl
    | cons y r=>exact absurd rfl B9
   refine⟨fa,fk,hf,λo'=>⟨Z,q fa o' fk _ hfa (λb o e=>by rw[AD (AF e hfa)];exact s1 _ _ e) uS λy=>?_⟩⟩;rw[Vu hk y];constructor
   ·exact λh=>go.reach y h
   ·intro h;refine Graph.closed_reach (S:=λy=>y∈fs) (λy hy u A1=>go.closed y hy (by rw[wnil];simp) u A1) h go.start
def Ul:¬ (("ups_of":Str)="above_of"):=by rfl'
def E6(d a:Addr):List (Str×V):=BP "above_of" (.ref a) (BP "ups_of" (.ref d) [])
def ZT(d a:Addr):(E6 d a).lookup ("ups_of":Str)=some (.ref d):=by
 unfold E6;rw[EC,if_neg Ul,EC,if_pos rfl]
def ZS(d a:Addr):(E6 d a).lookup ("above_of":Str)=some (.ref a):=by
 unfold E6;rw[EC,if_pos rfl]
def Oh(d a:Addr){m:Str}(h1:¬ m="above_of")(h2:¬ m="ups_of"):(E6 d a).lookup m=none:=by
 unfold E6;rw[EC,if_neg h1,EC,if_neg h2];rfl
def Gg(H:Hp)(all rows:RS)(AI:KL):Prop :=
 Paired (λr (p:Key×V)=>p.1=Sum.inr r.1/\∃ t o' fk,p.2=.ref t/\H t=some (.frz o' (.dK fk))/\∀ y,(Sum.inr y:Key)∈fk.map (·.1)↔Graph.Reach (Ao all) r.1 y) rows AI
def Gg.mono{H H':Hp}{all rows:RS}{AI:KL}(h:Gg H all rows AI)(s:∀ b o' fk,H b=some (.frz o' (.dK fk))->H' b=some (.frz o' (.dK fk))):Gg H' all rows AI :=
 Paired.mapP h λ_ _ z=>⟨z.1,let⟨t,o',fk,e,x,y⟩:=z.2;⟨t,o',fk,e,s _ _ _ x,y⟩⟩
theorem Gg.keys:∀ {H:Hp}{all rows:RS}{kvs:KL},Gg H all rows kvs->kvs.map (·.1)=rows.map λr=>(Sum.inr r.1:Key)
 | _,_,_,_,.nil=>rfl
 | _,_,_,_,.cons r t=>by rw[Ym,Ym,r.1,Gg.keys t]
theorem Gg.val:∀ {H:Hp}{all rows:RS}{kvs:KL},Gg H all rows kvs->(rows.map (·.1)).Nodup->∀ {r:Str×LS},r∈rows->∃ t o' fk,BS kvs (Sum.inr r.1)=some (.ref t)/\H t=some (.frz o' (.dK fk))/\∀ y,(Sum.inr y:Key)∈fk.map (·.1)↔Graph.Reach (Ao all) r.1 y
 | _,_,_,_,.nil,_,r,h=>nomatch h
 | _,_,q :: rs,p :: ps,.cons z t,nd,r,h=>by
  have KO:(q.1 :: rs.map (·.1)).Nodup:=nd;obtain⟨n1,n2⟩:=Ft.mp KO;obtain⟨z1,u,o',fk,z2,z3,z4⟩:=z
  rcases Yr.mp h with e | h
  ·subst e;exact⟨u,o',fk,by rw[ND z1,z2],z3,z4⟩
  ·have ne:¬ p.1=(Sum.inr r.1:Key):=λe=>n1 (by
    rw[z1]at e;have e':q.1=r.1:=by injection e
    rw[e'];exact Yg.mpr ⟨r,h,Y⟩)
   obtain⟨u',KI,BK,h1,h2⟩:=Gg.val t n2 h;exact⟨u',KI,BK,by rw[NC ne];exact h1,h2⟩
structure B3(C:Addr)(H:Hp)(p:Addr)(rows:RS):Prop where
 ex:∃(dx d a:Addr) (o oa:Obj) (kvs AI:KL),H p=some (.ins C dx (E6 d a))/\HS H d o rows kvs/\H a=some (.frz oa (.dK AI))/\Gg H rows rows AI
theorem B3.mono{C:Addr}{H H':Hp}{p:Addr}{rows:RS}(h:B3 C H p rows)(s:AB H H'):B3 C H' p rows:=by
 obtain⟨dx,d,a,o,oa,kvs,AI,h1,h2,h3,h4⟩:=h.ex;exact⟨dx,d,a,o,oa,kvs,AI,s _ _ h1,h2.mono s,s _ _ h3,h4.mono λ_ _ _ e=>s _ _ e⟩
structure DJ(K:Fg)(C:Addr):Prop where
 cl:F1 K C
 nU:Gh K C "ups_of"
 nA:Gh K C "above_of"
structure HP(K:Fg)(C:Addr)(m qual:Str)(st:Stmt)(ps:LS)(f:Addr)(fd:FuncData):Prop where
 fn:BV K m qual st f fd
 b:Cj K fd ps []
 me:S9 K C m f
def U8(K:Fg)(C:Addr):Sp:=λvs H Q _=>∃(p dx l:Addr) (rows:RS),vs=[.ref p,.ref l]/\H p=some (.ins C dx [])/\We K H l rows/\Ah rows /\
 ∀ H',B3 C H' p rows->(∀ b o,b≠p->H b=some o->H' b=some o)->Q .non H'
def VP(C:Addr):Sp:=λvs H Q _=>∃(p:Addr) (rows:RS) (x:Str),vs=[.ref p,.str x]/\B3 C H p rows/\Ah rows/\x∈rows.map (·.1)/\Q .non H
def Wq(C:Addr):Sp:=λvs H Q _=>∃(p:Addr) (rows:RS) (x:Str),vs=[.ref p,.str x]/\B3 C H p rows/\Ah rows/\Q (.bl (decide (x∈rows.map (·.1)))) H
def A5(rows:RS)(x y:Str):Bool:=@decide (Graph.Reach (Ao rows) x y) (Classical.propDecidable _)
def VQ(C:Addr):Sp:=λvs H Q _=>∃(p:Addr) (rows:RS) (x y:Str),vs=[.ref p,.str x,.str y]/\B3 C H p rows/\Ah rows/\x∈rows.map (·.1)/\y∈rows.map (·.1)/\Q (.bl (A5 rows x y)) H
def X3:Ae ["self","rows","ups_of","word","ups","ring","above_of"] ["self","rows"] (AL WO):=by nofun
def v7(F:BV K "__init__" "Kinds.__init__" WO f fd)(T:Nb mg)(TC:DJ K C)(D1:Def K mg "check_rows" Sw ["rows"] f1 d1)(D2:Def K mg "is_word" NO ["text"] f2 d2)
  (D3:Def K mg "check_ups" Sk ["ups_of"] f3 d3) (D4:Def K mg "find_ring" Sm ["ups_of"] f4 d4) (D5:Def K mg "endless" NN ["ups_of"] f5 d5) (D6:Def K mg "first_among" NZ ["words","others"] f6 d6) (D7:Def K mg "all_above" Sj ["ups_of","word"] f7 d7):
  ⋯ 4 f fd ["self","rows"] (U8 K C):=by
 have G1:⋯ 2 f1 d1 ["rows"] (eC K):=qO D1 D2 T;have G3:⋯ 1 f3 d3 ["ups_of"] dq:=qH D3;have G4:⋯ 3 f4 d4 ["ups_of"] Zy:=vT D4 D5 D6 T;have G7:⋯ 1 f7 d7 ["ups_of","word"] af:=ka D7
 nomatch F.ok X3
 ·obtain⟨p,dx,l,rows,rfl,_⟩:=h;rfl
 ·obtain⟨p,dx,l,rows,rfl,hp,hR,g,q⟩:=h;have nd:=X3.nd;have hu:=Ei hr;have Ac:AV 1 _:=hr.mono (by decide);have Ca:AV 2 _:=hr.mono (by decide)
  ac_nf
  refine⟨_,pS (Bi (AN D1 G1 Ca (pC (pv 1) AA)))
   (pS (sE 2 nd M9)
   (pS (CQ Bb rfl (Zg (pv 1)) (Jl rfl (gC (gE 3 nd) (gC (gE 4 nd) Jm)))
    (AH (Jn hu (pv 2) (pv 3) (DZ K7 (by rfl) T.tuple Lb (pC (pv 4) AA)) rfl)))
   (VX (pS (Bi (AN D3 G3 Ac (pC (pv 2) AA)))
   (pS (sE 5 nd (AN D4 G4 hr (pC (pv 2) AA)))
   (pS (AY (JU (aN (pv 5))) Cn AZ)
   (pS (sE 6 nd M9)
   (pS (CQ Bb rfl (aT (pv 2)) (gE 3 nd) (AH (Jn hu (pv 6) (pv 3) (AN D7 G7 Ac (pC (pv 2) (pC (pv 3) AA))) rfl)))
   (VX (pS (Oa (pv 0) (pv 2) rfl) (AH (Oa (pv 0) (pv 6) rfl)))))))))))),?_⟩
  exists let b:=_;let c:=AE (Cg _ _ b) a;let e:=AE _ c;AE _ e _ _ _
  refine⟨Z,l,rows,Y,hR,g,λH1 s1=>?_⟩;intro d hd;have s2:AB H (upd H1 d (.dK [])):=λb o e=>by rw[AD (AF (s1 _ _ e) hd)];exact s1 _ _ e
  obtain⟨b,vs,hl,hpr⟩:=hR;let Bp:NW:=λi σ H'=>∃(kvs:KL) (a c:OV),σ=[some (.ref p),some (.ref l),some (.ref d),a,c,none,none]/\AB H H'/\H' d=some (.dK kvs)/\DK H' (rows.take i) kvs;refine⟨Z,b,l,vs,Y,hl.mono s2,Cw bR Bp
   ⟨[],none,none,Y,s2,uS,by rw[List.take_zero];exact .nil⟩ (λi σ H' _ h0=>by obtain⟨_,_,_,_,s,_⟩:=h0;exact hl.mono s) ?_ ?_⟩
  ·rintro i v σ H' hi ⟨kvs,a,c,rfl,s3,hdk,hU⟩;obtain⟨r,Aj,t,u,rfl,ht,hug⟩:=C6 hpr hi;have dH:H d=none:=s1.free hd;refine⟨t,Z,s3.tup ht,Y,_,Z,_,Z,Y,?_⟩;have A8:(Sum.inr r.1:Key)∉kvs.map (·.1):=by rw[hU.keys];exact O4 g.nd Aj
   have hil:(rows.take i).length<=24:=by rw[Yz];have:=g.le;omega
   have hkl:kvs.length=(rows.take i).length:=(Ba hU).symm;have fin:∀(t2:Addr) (H2:Hp),AB H' H2->H2 t2=some (.tup (r.2.map V.str))->∃(C_:KL) (a c:OV),[some (V.ref p),some (V.ref l),some (V.ref d),some (V.str r.1),some (V.ref u),none,none]=[some (V.ref p),some (V.ref l),some (V.ref d),a,c,none,none]/\AB H (upd H2 d (.dK (BN kvs (Sum.inr r.1) (.ref t2)))) /\
     (upd H2 d (.dK (BN kvs (Sum.inr r.1) (.ref t2)))) d=some (.dK C_)/\DK (upd H2 d (.dK (BN kvs (Sum.inr r.1) (.ref t2)))) (rows.take (i + 1)) C_:=λt2 H2 s4 Bg=>by
    have d2:=s4 _ _ hdk;have tk:∀ b xs,H2 b=some (.tup xs)->(upd H2 d (.dK (BN kvs (Sum.inr r.1) (.ref t2)))) b=some (.tup xs):=λb xs e=>by
     rw[AD (λz=>by rw[z,d2]at e;cases e)];exact e
    refine⟨_,_,Z,λb o e=>by rw[AD (AF e dH)];exact s4 _ _ (s3 _ _ e),uS,?_⟩;have sn:DK (upd H2 d (.dK (BN kvs (Sum.inr r.1) (.ref t2)))) (rows.take i++[r]) (kvs++[(Sum.inr r.1,V.ref t2)]):=Gr ((hU.mono λb xs e=>s4 _ _ e).mono tk) ⟨Y,t2,Y,tk t2 _ Bg⟩;rw[<- NA _ (Gq A8)]at sn;rw[Dm,Aj];exact sn
   rcases hug with hug | hug
   ·refine⟨Z,u,Z,.inr ⟨AJ.of (s3 _ _ hug),Z,Z,d,Z,EH.k (k:=Sum.inr r.1) hdk (B7 (by omega)),fin u H' (AB.refl _) (s3 _ _ hug)⟩⟩
   ·refine⟨Z,u,Z,.inl ⟨s3.seq hug,λt2 Bg=>?_⟩⟩;have s4:AB H' (upd H' t2 (.tup (r.2.map V.str))):=λb o e=>by rw[AD (AF e Bg)];exact e
    exact⟨Z,Z,d,Z,EH.k (k:=Sum.inr r.1) (s4 _ _ hdk) (B7 (by omega)),fin t2 _ s4 uS⟩
  ·rintro σ H2 ⟨kvs,a,c,rfl,s3,hdk,hU⟩;have hvl:=hpr.length;rw[<- hvl,FJ]at hU;refine⟨d,kvs,hdk,λo=>?_⟩;have dH:H d=none:=s1.free hd;have s4:AB H (upd H2 d (.frz o (.dK kvs))):=λb u e=>by rw[AD (AF e dH)];exact s3 _ _ e
   have bk:HS (upd H2 d (.frz o (.dK kvs))) d o rows kvs:=⟨uS,hU.mono λb xs e=>by rw[AD (λz=>by rw[z,hdk]at e;cases e)];exact e⟩;refine⟨Z,d,o,rows,kvs,Y,bk,g,λH5 s5=>?_⟩;refine⟨Z,d,o,rows,kvs,Y,bk.mono s5,g,λH6 s6=>?_⟩;refine⟨Z,Z,Av ?_⟩;have Nz:=s5.trans s6;have ZO:=bk.mono Nz;have s7:AB H H6:=s4.trans Nz;intro aa Ce;have s8:AB H (upd H6 aa (.dK [])):=λb u e=>by rw[AD (AF (s7 _ _ e) Ce)];exact s7 _ _ e
   have X9:AB H6 (upd H6 aa (.dK [])):=λb u e=>by rw[AD (AF e Ce)];exact e
   let Gx:NW:=λi σ H'=>∃(AI:KL) (a b c:OV),σ=[some (.ref p),some (.ref l),some (.ref d),a,b,c,some (.ref aa)]/\AB H H'/\HS H' d o rows kvs/\H' aa=some (.dK AI)/\Gg H' rows (rows.take i) AI;refine⟨Z,d,o,kvs,Y,(ZO.mono X9).at_,Cw ck Gx
    ⟨[],_,_,Z,s8,ZO.mono X9,uS,by rw[List.take_zero];exact .nil⟩ (λi σ H' _ h0=>by obtain⟨_,_,_,_,_,_,b,_⟩:=h0;exact b.at_) ?_ ?_⟩
   ·rintro i v σ H' hi ⟨AI,a,b,c,rfl,s9,HL,EX,hA⟩;rw[Yf]at hi;obtain⟨pr,Xa,e⟩:=He.mp hi;obtain⟨r,Aj,hk,_⟩:=C6 HL.ups Xa;have Bd:r∈rows:=Yh Aj;have ev:v=.str r.1:=by rw[<- e,hk];rfl
    subst ev;have aaH:H aa=none:=s7.free Ce;refine⟨Z,Z,d,o,rows,kvs,r.1,Y,HL,g,Yg.mpr ⟨r,Bd,Y⟩,λx o' fk Er hx ED hxk hreach=>?_⟩;have A8:(Sum.inr r.1:Key)∉AI.map (·.1):=by rw[hA.keys];exact O4 g.nd Aj
    have hil:(rows.take i).length<=24:=by rw[Yz];have:=g.le;omega
    have hkl:AI.length=(rows.take i).length:=(Ba hA).symm;have MG:=ED _ _ EX;refine⟨Z,Z,aa,Z,EH.k (k:=Sum.inr r.1) MG (B7 (by omega)),?_⟩;have kp:∀ b u,b≠aa->Er b=some u->(upd Er aa (.dK (BN AI (Sum.inr r.1) (.ref x)))) b=some u:=λb u hb e=>by rw[AD hb];exact e
    refine⟨_,_,_,Z,λb u e=>kp b u (AF e aaH) (ED _ _ (s9 _ _ e)),⟨kp _ _ (λz=>?_) (ED _ _ HL.at_),(HL.ups.mono λb xs e=>ED _ _ e).mono λb xs e=>kp _ _ (λz=>by rw[z,MG]at e;cases e) e⟩,uS,?_⟩
    ·have:=HL.at_;rw[z,EX]at this;cases this
    ·rw[NA _ (Gq A8),Dm,Aj];have fz:∀ b KI BK,Er b=some (.frz KI (.dK BK))->(upd Er aa (.dK (AI++[(Sum.inr r.1,V.ref x)]))) b=some (.frz KI (.dK BK)):=λb KI BK e=>by rw[AD (λz=>by rw[z,MG]at e;cases e)];exact e
     exact Gr ((hA.mono λb KI BK e=>ED _ _ e).mono fz) ⟨Y,x,o',fk,Y,fz _ _ _ hxk,hreach⟩
   ·rintro σ H' ⟨AI,a,b,c,rfl,s9,HL,EX,hA⟩;have hkv:kvs.length=rows.length:=(Ba HL.ups).symm;rw[Ya,hkv,FJ]at hA;have aaH:H aa=none:=s7.free Ce;refine⟨aa,AI,EX,λoa=>?_⟩;have Ka:H' p=some (.ins C dx []):=s9 _ _ hp;have pa:p≠aa:=AF hp aaH;have pd:p≠d:=AF hp dH;have da:d≠aa:=λz=>by have:=HL.at_;rw[z,EX]at this;cases this
    refine⟨Z,Z,p,C,dx,[],Y,(by rw[AD pa];exact Ka),TC.cl,TC.nU,(by show 0<1000;decide),Z,Z,p,C,dx,Z,uS,TC.cl,TC.nA,(by show 1<1000;decide),?_⟩;rw[M7];have kp:∀ b u,b≠p->b≠aa->H' b=some u->(upd (upd H' aa (.frz oa (.dK AI))) p (.ins C dx (E6 d aa))) b=some u:=λb u h1 h2 e=>by rw[AD h1,AD h2];exact e
    refine q _ ⟨dx,d,aa,o,oa,kvs,AI,uS,⟨kp _ _ (Yj pd) da HL.at_,HL.ups.mono λb xs e=>kp _ _ (λz=>by rw[z,Ka]at e;cases e) (λz=>by rw[z,EX]at e;cases e) e⟩,by rw[AD (Yj pa)];exact uS,hA.mono λb KI BK e=>kp _ _ (λz=>by rw[z,Ka]at e;cases e) (λz=>by rw[z,EX]at e;cases e) e⟩ λb u hb e=>kp _ _ hb (AF e aaH) (s9 _ _ e)
def rV:Ae ["self","word"] ["self","word"] (AL Sh):=by nofun
def Zb(F:BV K "has" "Kinds.has" Sh f fd)(TC:DJ K C):⋯ 1 f fd ["self","word"] (Wq C):=by
 nomatch F.ok rV
 ·obtain⟨p,rows,x,rfl,_⟩:=h;rfl
 ·obtain⟨p,rows,x,rfl,⟨dx,d,a,o,oa,kvs,AI,h1,h2,h3,h4⟩,g,q⟩:=h;have hu:=Ei hr
  ac_nf
  refine⟨_,AH (AW (Zd (Mv hu (pv 1) (Ko (pv 0) rfl)))),?_⟩;refine⟨Z,Z,p,C,dx,_,Z,h1,TC.cl,TC.nU,ZT _ _,d,Z,BL.f (k:=Sum.inr x) h2.at_,?_⟩;have e:(BS kvs (Sum.inr x:Key)).isSome=decide (x∈rows.map (·.1)):=by
   have hk:(Sum.inr x:Key)∈kvs.map (·.1)↔x∈rows.map (·.1):=by
    rw[h2.ups.keys];constructor
    ·intro m;obtain⟨r,Aj,e⟩:=Yg.mp m;exact Yg.mpr ⟨r,Aj,by injection e⟩
    ·intro m;obtain⟨r,Aj,e⟩:=Yg.mp m;exact Yg.mpr ⟨r,Aj,by rw[e]⟩
   by_cases z:x∈rows.map (·.1)
   ·rw[Sn (hk.mpr z),Jb z]
   ·rw[Gq λk=>z (hk.mp k),Jc z];rfl
  rw[e];exact q
abbrev GX(K:Fg)(C fH:Addr)(fdH:FuncData):Prop:=HP K C "has" "Kinds.has" Sh ["self","word"] fH fdH
def rB:Ae ["self","word"] ["self","word"] (AL PN):=by nofun
def ZZ(d a:Addr):(E6 d a).lookup ("has":Str)=none:=Oh d a (by rfl') (by rfl')
def bM(F:BV K "check" "Kinds.check" PN f fd)(TC:DJ K C)(MH:GX K C fH fdH):⋯ 2 f fd ["self","word"] (VP C):=by
 have GH:⋯ 1 fH fdH ["self","word"] (Wq C):=Zb MH.fn TC
 nomatch F.ok rB
 ·obtain⟨p,rows,x,rfl,_⟩:=h;rfl
 ·obtain⟨p,rows,x,rfl,kd,g,hx,q⟩:=h;obtain⟨dx,d,a,o,oa,kvs,AI,h1,h2,h3,h4⟩:=kd.ex
  ac_nf
  refine⟨_,AH (AY (CS (Bu (IQ (pv 0) TC.cl MH.me GH hr MH.b .nil DX (pC (pv 1) AA)))) Cn AZ),?_⟩;refine⟨Z,p,dx,Z,h1,ZZ _ _,Z,p,rows,x,Y,kd,g,Z,?_⟩;rw[Jb hx];exact Av q
def Vj(d a:Addr):(E6 d a).lookup ("check":Str)=none:=Oh d a (by rfl') (by rfl')
def rf:Ae ["self","one","other"] ["self","one","other"] (AL S2):=by nofun
def bN(F:BV K "under" "Kinds.under" S2 f fd)(TC:DJ K C)(MC:HP K C "check" "Kinds.check" PN ["self","word"] fC fdC)(MH:GX K C fH fdH):⋯ 3 f fd ["self","one","other"] (VQ C):=by
 have GC:⋯ 2 fC fdC ["self","word"] (VP C):=bM MC.fn TC MH
 nomatch F.ok rf
 ·obtain⟨p,rows,x,y,rfl,_⟩:=h;rfl
 ·obtain⟨p,rows,x,y,rfl,kd,g,hx,hy,q⟩:=h;obtain⟨dx,d,a,o,oa,kvs,AI,h1,h2,h3,h4⟩:=kd.ex;have hu:=Ei hr
  ac_nf
  refine⟨_,pS (Bi (IQ (pv 0) TC.cl MC.me GC hr MC.b .nil DX (pC (pv 1) AA)))
   (pS (Bi (IQ (pv 0) TC.cl MC.me GC hr MC.b .nil DX (pC (pv 2) AA)))
   (AH (AW (Zd (Mv hu (pv 2) (Gn hu (Ko (pv 0) rfl) (pv 1) (λ_ _=>rfl))))))),?_⟩
  exists let b:=AE _ a;AE _ b _ _ _
  obtain⟨r,Aj,er⟩:=En hx;obtain⟨t,o',fk,hv,ht,hreach⟩:=h4.val g.nd Aj;refine⟨Z,p,dx,Z,h1,Vj _ _,Z,p,rows,x,Y,kd,g,hx,?_⟩;refine⟨Z,p,dx,Z,h1,Vj _ _,Z,p,rows,y,Y,kd,g,hy,?_⟩;refine⟨Z,Z,p,C,dx,_,Z,h1,TC.cl,TC.nA,ZS _ _,Z,a,Z,(by rw[<- hv,er];exact BL.f (k:=Sum.inr x) h3),t,Z,BL.f (k:=Sum.inr y) ht,?_⟩;have e:(BS fk (Sum.inr y:Key)).isSome=A5 rows x y:=by
   have hh:=hreach y;rw[er]at hh;unfold A5;by_cases z:Graph.Reach (Ao rows) x y
   ·rw[Sn (hh.mpr z)];exact(@Jb _ (Classical.propDecidable _) z).symm
   ·rw[Gq λk=>z (hh.mp k)];exact(@Jc _ (Classical.propDecidable _) z).symm
  rw[e];exact q
def cw(C:Addr):Sp:=λvs H Q _=>∃(p:Addr) (rows:RS) (x y:Str),vs=[.ref p,.str x,.str y]/\B3 C H p rows/\Ah rows/\x∈rows.map (·.1)/\y∈rows.map (·.1)/\Q (.bl (A5 rows x y&&!decide (x=y))) H
def DV(rows:RS)(x:Str):LS:=(rows.map (·.1)).filter λy=>A5 rows x y
def cu(C:Addr):Sp:=λvs H Q _=>∃(p:Addr) (rows:RS) (x:Str),vs=[.ref p,.str x]/\B3 C H p rows/\Ah rows/\x∈rows.map (·.1)/\∀ l,H l=none->Q (.ref l) (upd H l (.lst ((DV rows x).map V.str)))
def Xu(rows:RS)(x:Str):V->Bool
 | .str y=>A5 rows x y
 | _=>false
def mM(rows:RS)(x:Str):(((rows.map (·.1)).map V.str).filter (Xu rows x)).map (λv=>v)=(DV rows x).map V.str:=by
 rw[List.map_id',Po];rfl
def mS{fk:KL}{rows:RS}{x:Str}(h:∀ y,(Sum.inr y:Key)∈fk.map (·.1)↔Graph.Reach (Ao rows) x y)(y:Str):(BS fk (Sum.inr y:Key)).isSome=A5 rows x y:=by
 unfold A5;by_cases z:Graph.Reach (Ao rows) x y
 ·rw[Sn ((h y).mpr z)];exact(@Jb _ (Classical.propDecidable _) z).symm
 ·rw[Gq λk=>z ((h y).mp k)];exact(@Jc _ (Classical.propDecidable _) z).symm
def bJ(d a:Addr):(E6 d a).lookup ("under":Str)=none:=Oh d a (by rfl') (by rfl')
def pL(d a:Addr):(E6 d a).lookup ("beneath":Str)=none:=Oh d a (by rfl') (by rfl')
def kZ(d a:Addr):(E6 d a).lookup ("above":Str)=none:=Oh d a (by rfl') (by rfl')
def tW:(["high","self","word"]:LS).Nodup:=by rfl'
abbrev Rr(K:Fg)(C fC:Addr)(fdC:FuncData):Prop:=HP K C "check" "Kinds.check" PN ["self","word"] fC fdC
abbrev Uy(K:Fg)(C fU:Addr)(fdU:FuncData):Prop:=HP K C "under" "Kinds.under" S2 ["self","one","other"] fU fdU
def vY{X:Cx}{e:Expr}{ta:TE}{f:Str}{pos:Pos}{K:Fg}(hK:X.K=K)(he:PE X e ta)(hb:attributeBase e f X.env (eval e X.env)=eval e X.env):PE X (.Attribute e f pos) (gF K ta f):=by
 subst hK;exact Ko he hb
def q_:Ae ["self","one","other"] ["self","one","other"] (AL S6):=by nofun
def pN(F:BV K "beneath" "Kinds.beneath" S6 f fd)(TC:DJ K C)(MU:Uy K C fU fdU)(MC:Rr K C fC fdC)(MH:GX K C fH fdH):⋯ 4 f fd ["self","one","other"] (cw C):=by
 have GU:⋯ 3 fU fdU ["self","one","other"] (VQ C):=bN MU.fn TC MC MH
 nomatch F.ok q_
 ·obtain⟨p,rows,x,y,rfl,_⟩:=h;rfl
 ·obtain⟨p,rows,x,y,rfl,kd,g,hx,hy,q⟩:=h;obtain⟨dx,d,a,o,oa,kvs,AI,h1,_⟩:=kd.ex;refine'⟨_,AH (AW (HU ?ea (JZ ?eb))),?_⟩
  case ea=>exact IQ (pv 0) TC.cl MU.me GU hr MU.b .nil DX (pC (pv 1) (pC (pv 2) AA))
  case eb=>exact EL Mr (pv 1) (pv 2) (Ad _)
  refine⟨Z,p,dx,Z,h1,bJ _ _,Z,Z,p,rows,x,y,Y,kd,g,hx,hy,Z,?_⟩;have e:decide (V.str x=V.str y)=decide (x=y):=TV.mpr ⟨λz=>by injection z,λz=>by rw[z]⟩;refine Ak (λh=>?_) (λh=>?_)
  ·refine⟨Z,Z,Y,?_⟩;rw[h,LG]at q;rw[e];exact q
  ·have h':A5 rows x y=false:=by simpa using h
   rw[h',Bool.false_and]at q;exact q
def qx:Ae ["self","word"] ["self","word"] (AL PM):=by nofun
def pM(F:BV K "above" "Kinds.above" PM f fd)(TC:DJ K C)(MC:Rr K C fC fdC)(MH:GX K C fH fdH):⋯ 3 f fd ["self","word"] (cu C):=by
 have GC:⋯ 2 fC fdC ["self","word"] (VP C):=bM MC.fn TC MH
 nomatch F.ok qx
 ·obtain⟨p,rows,x,rfl,_⟩:=h;rfl
 ·obtain⟨p,rows,x,rfl,kd,g,hx,q⟩:=h;obtain⟨dx,d,a,o,oa,kvs,AI,h1,h2,h3,h4⟩:=kd.ex;have hu:=Ei hr
  ac_nf
  refine⟨_,pS (Bi (IQ (pv 0) TC.cl MC.me GC hr MC.b .nil DX (pC (pv 1) AA)))
   (AH (AW (B5 ["high"] ["self","word"] [0,1] (λ_=>BU (osc:=AL PM) (on:=["self","word"]) (by rfl') rfl rfl rfl) (aT (Ko (pv 0) rfl)) (λC s H fp=>BQ (i:=0) tW rfl (Or.inl rfl) (Or.inr rfl))
    (λC s H fp=>Kv (JU (Mv hu (pv 0) (Gn hu (vY (K:=K) rfl (pv 1) rfl) (pv 2) (λ_ _=>rfl))))) (λC s H fp=>pv 0)))),?_⟩
  exists AE _ a _ _ _
  obtain⟨r,Aj,er⟩:=En hx;obtain⟨t,o',fk,hv,ht,hreach⟩:=h4.val g.nd Aj;rw[er]at hv hreach;have hkv:kvs.length<=24:=by rw[<- Ba h2.ups];exact g.le
  refine⟨Z,p,dx,Z,h1,Vj _ _,Z,p,rows,x,Y,kd,g,hx,?_⟩;refine⟨Z,p,C,dx,_,Z,h1,TC.cl,TC.nU,ZT _ _,d,o,kvs,Y,h2.at_,K1 ck (sL (by rw[Ya];omega)) (Xu rows x) (λv=>v) (λD ys hD=>by rw[AD (AF h2.at_ hD)];exact h2.at_) ?_ ?_ ?_⟩
  ·intro D ys v R hD KY hR;rw[Wl h2.ups]at KY;obtain⟨y,hy,rfl⟩:=Yg.mp KY;have kp:∀ b o,H b=some o->(upd H D (.lst ys)) b=some o:=λb o e=>by rw[AD (AF e hD)];exact e
   refine⟨Z,Z,p,C,dx,_,Z,kp _ _ h1,TC.cl,TC.nA,ZS _ _,Z,a,Z,(by rw[<- hv];exact BL.f (k:=Sum.inr x) (kp _ _ h3)),t,Z,BL.f (k:=Sum.inr y) (kp _ _ ht),Z,?_⟩;rw[mS hreach y];exact hR
  ·intro D ys v R hD KY _ hR;exact⟨Z,hR⟩
  ·intro D hD;rw[Wl h2.ups,mM];exact q D hD
def BZ(H:Hp)(all rows:RS)(AI:KL):Prop :=
 Paired (λr (p:Key×V)=>p.1=Sum.inr r.1/\∃(t:Addr) (fs:LS),p.2=.ref t/\H t=some (.lst (fs.map V.str))/\(∀ y,y∈fs↔Graph.Reach (Ao all) r.1 y)/\fs.length<=all.length/\fs.Nodup) rows AI
def BZ.mono{H H':Hp}{all rows:RS}{AI:KL}(h:BZ H all rows AI)(s:∀ b xs,H b=some (.lst xs)->H' b=some (.lst xs)):BZ H' all rows AI :=
 Paired.mapP h λ_ _ z=>⟨z.1,let⟨t,fs,e,x,y⟩:=z.2;⟨t,fs,e,s _ _ x,y⟩⟩
theorem BZ.keys:∀ {H:Hp}{all rows:RS}{kvs:KL},BZ H all rows kvs->kvs.map (·.1)=rows.map λr=>(Sum.inr r.1:Key)
 | _,_,_,_,.nil=>rfl
 | _,_,_,_,.cons r t=>by rw[Ym,Ym,r.1,BZ.keys t]
theorem BZ.val':∀ {H:Hp}{all rows:RS}{kvs:KL},BZ H all rows kvs->(rows.map (·.1)).Nodup->∀ {r:Str×LS},r∈rows->∃(t:Addr) (fs:LS),BS kvs (Sum.inr r.1)=some (.ref t)/\H t=some (.lst (fs.map V.str))/\(∀ y,y∈fs↔Graph.Reach (Ao all) r.1 y)/\fs.length<=all.length/\fs.Nodup
 | _,_,_,_,.nil,_,r,h=>nomatch h
 | _,_,q :: rs,p :: ps,.cons z t,nd,r,h=>by
  have KO:(q.1 :: rs.map (·.1)).Nodup:=nd;obtain⟨n1,n2⟩:=Ft.mp KO;obtain⟨z1,u,fs,z2,z3,z4⟩:=z
  rcases Yr.mp h with e | h
  ·subst e;exact⟨u,fs,by rw[ND z1,z2],z3,z4⟩
  ·have ne:¬ p.1=(Sum.inr r.1:Key):=λe=>n1 (by
    rw[z1]at e;have e':q.1=r.1:=by injection e
    rw[e'];exact Yg.mpr ⟨r,h,Y⟩)
   obtain⟨u',Bs,h1,h2⟩:=BZ.val' t n2 h;exact⟨u',Bs,by rw[NC ne];exact h1,h2⟩
def BZ.val{H:Hp}{all rows:RS}{kvs:KL}(h:BZ H all rows kvs)(nd:(rows.map (·.1)).Nodup){r:Str×LS}(hr:r∈rows):∃(t:Addr) (fs:LS),BS kvs (Sum.inr r.1)=some (.ref t)/\H t=some (.lst (fs.map V.str))/\∀ y,y∈fs↔Graph.Reach (Ao all) r.1 y :=
 let⟨u,fs,h1,h2,h3,_⟩:=h.val' nd hr;⟨u,fs,h1,h2,h3⟩
def Vy{rows:RS}{x:Str}{fs:LS}(h:∀ y,y∈fs↔Graph.Reach (Ao rows) x y)(y:Str):decide (y∈fs)=A5 rows x y:=by
 unfold A5;by_cases z:Graph.Reach (Ao rows) x y
 ·rw[Jb ((h y).mpr z)];exact(@Jb _ (Classical.propDecidable _) z).symm
 ·rw[Jc λk=>z ((h y).mp k)];exact(@Jc _ (Classical.propDecidable _) z).symm
def bt:Sp:=λvs H Q _=>∃(l:Addr) (rows:RS),vs=[.ref l]/\Gi H l rows/\Ah rows/\∀ a AI H',AB H H'->H' a=some (.dK AI)->BZ H' rows rows AI->Q (.ref a) H'
structure Nu(rows:RS)(x:Str)(fs:LS)(k:Nat):Prop where
 start:x∈fs
 known:∀ y∈fs,y∈rows.map (·.1)
 nd:fs.Nodup
 reach:∀ y∈fs,Graph.Reach (Ao rows) x y
 closed:∀ y∈fs.take k,∀ u∈Ao rows y,u∈fs
def Nu.le{rows:RS}{x:Str}{fs:LS}{k:Nat}(h:Nu rows x fs k):fs.length<=rows.length:=by
 have:=Graph.nodup_le h.nd h.known
 rwa [Ya]at this
def Nu.all{rows:RS}{x:Str}{fs:LS}{k:Nat}(h:Nu rows x fs k)(hk:fs.length<=k)(y:Str):y∈fs↔Graph.Reach (Ao rows) x y :=
 ⟨h.reach y,λr=>Graph.closed_reach (S:=λy=>y∈fs) (λz hz u hu=>h.closed z (by rw[LZ hk];exact hz) u hu) r h.start⟩
def eA{rows:RS}(g:Ah rows){y u:Str}(hy:y∈rows.map (·.1))(hu:u∈Ao rows y):u∈rows.map (·.1):=by
 obtain⟨r,hr,e⟩:=En hy;rw[<- e,NB g.nd hr]at hu;exact g.known r hr u hu
abbrev ij:LS:=["rows","ups","word","some","above","found","at","up"]
def fZ:Ae ij ["rows"] (AL Sq):=by nofun
def mj(F:Def K mg "_law_above" Sq ["rows"] f fd)(len:mg "len"=none):⋯ 1 f fd ["rows"] bt:=by
 nomatch F.fn.ok fZ
 ·obtain⟨l,rows,rfl,_⟩:=h;rfl
 ·obtain⟨l,rows,rfl,hR,g,q⟩:=h;have nd:=fZ.nd;have hu:=Ei hr
  ac_nf
  refine⟨_,pS (sE 1 nd M9)
   (pS (CQ Bb rfl (C5 (pv 0)) (Jl rfl (gC (gE 2 nd) (gC (gE 3 nd) Jm)))
    (AH (Jn hu (pv 1) (pv 2) (pv 3) rfl)))
   (pS (sE 4 nd M9)
   (pS (CQ Bb rfl (C5 (pv 0)) (Jl rfl (gC (gE 2 nd) (gC (gE 3 nd) Jm)))
    (pS (sE 5 nd (B2 (pC (pv 2) AA)))
    (pS (sE 6 nd AG)
    (pS (K0 Bb (Af OS (pv 6) (Aa Gp (by rfl) len Yy (pC (pv 5) AA)) (Ad _))
     (pS (CQ Bb rfl (HV (Gn hu (pv 1) (AX Al (pv 5) (pv 6) (λ_ _=>rfl)) (λ_ _=>rfl))) (gE 7 nd)
      (AH (AY (Af qJ (pv 7) (pv 5) (by with_unfolding_all rfl)) (AH (Bi (CH Yw J1 J0 Hc (pv 5) (pC (pv 7) AA)))) AZ)))
     (AH (sE 6 nd (Ag El (pv 6) AG)))))
    (AH (Jn hu (pv 4) (pv 2) (pv 5) rfl))))))
   (AH (AW (pv 4)))))),?_⟩
  exists let b:=_;let c:=_;let e:=_;let f:=BH _ e _;let g:=AE (Cg _ _ f) c;let h:=AE (My _ g) b;let i:=AE _ h;let j:=AE _ i;let k:=AE (Cg _ _ j) a;let l:=AE _ k;let m:=AE _ l;AE _ m _ _ _
  have gle:=g.le;obtain⟨vs,hvs,hpr⟩:=hR;intro d hd;have s1:AB H (upd H d (.dK [])):=λb o e=>by rw[AD (AF e hd)];exact e
  let Bp:NW:=λi σ H'=>∃(kvs:KL) (a c:OV),σ=[some (.ref l),some (.ref d),a,c,none,none,none,none]/\AB H H'/\H' d=some (.dK kvs)/\DK H' (rows.take i) kvs;refine⟨Z,l,Y,⟨_,SqL.of (s1 _ _ hvs)⟩,Cw (EB (xs:=vs)) Bp
   ⟨[],none,none,Y,s1,uS,by rw[List.take_zero];exact .nil⟩ (λi σ H' _ h0=>by obtain⟨_,_,_,_,s,_⟩:=h0;exact SqL.of (s _ _ hvs)) ?_ ?_⟩
  ·rintro i v σ H' hi ⟨kvs,a,c,rfl,s3,hdk,hU⟩;obtain⟨r,Aj,t,u,rfl,ht,hug⟩:=C6 hpr hi;refine⟨t,Z,AJ.of (s3 _ _ ht),Y,_,Z,_,Z,Y,?_⟩;have A8:(Sum.inr r.1:Key)∉kvs.map (·.1):=by rw[hU.keys];exact O4 g.nd Aj
   have hil:(rows.take i).length<=24:=by rw[Yz];omega
   have hkl:kvs.length=(rows.take i).length:=(Ba hU).symm;refine⟨Z,Z,Z,d,Z,EH.k (k:=Sum.inr r.1) hdk (B7 (by omega)),?_⟩;have tk:∀ b xs,H' b=some (.tup xs)->(upd H' d (.dK (BN kvs (Sum.inr r.1) (.ref u)))) b=some (.tup xs):=λb xs e=>by
    rw[AD (λz=>by rw[z,hdk]at e;cases e)];exact e
   refine⟨_,_,Z,λb o e=>by rw[AD (AF e hd)];exact s3 _ _ e,uS,?_⟩;have sn:DK (upd H' d (.dK (BN kvs (Sum.inr r.1) (.ref u)))) (rows.take i++[r]) (kvs++[(Sum.inr r.1,V.ref u)]):=Gr (hU.mono tk) ⟨Y,u,Y,tk u _ (s3 _ _ hug)⟩;rw[<- NA _ (Gq A8)]at sn;rw[Dm,Aj];exact sn
  ·rintro σ H2 ⟨kvs,a,c,rfl,s3,hdk,hU⟩;have hvl:=hpr.length;rw[<- hvl,FJ]at hU;intro aa Ce;have s4:AB H2 (upd H2 aa (.dK [])):=λb o e=>by rw[AD (AF e Ce)];exact e
   have aaH:H aa=none:=s3.free Ce;have daa:d≠aa:=AF hdk Ce;have xf:DK (upd H2 aa (.dK [])) rows kvs:=hU.mono λb xs e=>s4 _ _ e;have xa:=s4 _ _ hdk;have JF:=s3.trans s4;let Gx:NW:=λi σ H'=>∃(AI:KL) (a b c e f:OV),σ=[some (.ref l),some (.ref d),a,b,some (.ref aa),c,e,f]/\(∀ b o,b≠aa->H2 b=some o->H' b=some o)/\H' aa=some (.dK AI)/\BZ H' rows (rows.take i) AI;refine⟨Z,l,Y,⟨_,SqL.of (JF _ _ hvs)⟩,Cw (EB (xs:=vs)) Gx
    ⟨[],_,_,_,_,Z,λb o hb e=>by rw[AD hb];exact e,uS,by rw[List.take_zero];exact .nil⟩ (λi σ H' _ h0=>by obtain⟨_,_,_,_,_,_,_,k,_⟩:=h0;exact SqL.of (k _ _ (AF hvs aaH) (s3 _ _ hvs))) ?_ ?_⟩
   ·rintro i v σ H' hi ⟨AI,a,b,c,e,f',rfl,k1,CL,hA⟩;obtain⟨r,Aj,t,u,rfl,ht,hug⟩:=C6 hpr hi;have Bd:r∈rows:=Yh Aj;have Qb:∀ b o,H b=some o->H' b=some o:=λb o e=>k1 b o (AF e aaH) (s3 _ _ e);refine⟨t,Z,AJ.of (Qb _ _ ht),Y,_,Z,_,Z,Y,?_⟩;refine⟨Z,sL (by show 1<=100000;decide),λfa hfa=>?_⟩;have sF:∀ {H5:Hp},AB H' H5->DK H5 rows kvs:=λ{H5} s=>hU.mono λb xs e=>s _ _ (k1 b _ (λz=>by rw[z,Ce]at e;cases e) e);have dF:∀ {H5:Hp},AB H' H5->H5 d=some (.dK kvs):=λ{H5} s=>s _ _ (k1 _ _ daa hdk);let Cr:NW:=λm σ H5=>∃(fs:LS) (k:Nat) (f:OV),σ=[some (.ref l),some (.ref d),some (.str r.1),some (.ref u),some (.ref aa),some (.ref fa),some (.int (k:Int)),f]/\AB H' H5/\H5 fa=some (.lst (fs.map V.str))/\Nu rows r.1 fs k/\k<=fs.length/\m + k=rows.length;refine⟨Cr,
     ⟨rows.length,[r.1],0,Z,λb o e=>by rw[AD (AF e hfa)];exact e,uS,⟨by simp,λy h=>by rw[Yi.mp h];exact Yg.mpr ⟨r,Bd,Y⟩,by simp,λy h=>by rw[Yi.mp h];exact .refl _,λy h=>by simp at h⟩,by simp,Y⟩,?_⟩
    rintro m σ H5 ⟨fs,k,f2,rfl,s5,JN,go,hk,hm⟩;have flen:=go.le;refine⟨Z,Z,_,Z,.inl ⟨_,SqL.of JN,Y⟩,_,Z,Y,Z,?_⟩;rw[Ya];refine Ak (λAb=>?_) (λAb=>?_)
    ·have Ab:k<fs.length:=by have:=Je Ab;omega
     let FL:SW:=λσ' H6=>∃ m',m'<m/\∃(fs:LS) (k:Nat) (f:OV),σ'=[some (.ref l),some (.ref d),some (.str r.1),some (.ref u),some (.ref aa),some (.ref fa),some (.int (k:Int)),f]/\AB H' H6/\H6 fa=some (.lst (fs.map V.str))/\Nu rows r.1 fs k/\k<=fs.length/\m' + k=rows.length;refine⟨FL,λ_ _ h=>h,?_⟩;have hat:fs[k]?=some fs[k]:=Yb Ab;generalize hhere:fs[k]=here at hat;have hin:here∈fs:=Yh hat;obtain⟨r2,Ca,er⟩:=En (go.known here hin);obtain⟨t2,hvt,Bg⟩:=(sF s5).val g.nd Ca;rw[er]at hvt;have uo:Ao rows here=r2.2:=by rw[<- er];exact NB g.nd Ca
     have hix:A_ (fs.map V.str) (k:Int)=some (V.str here):=EK (by rw[Yf,hat];rfl);refine⟨Z,Z,Z,fa,_,_,Z,Y,SqL.of JN,hix,d,Z,(by rw[<- hvt];exact BL.k (k:=Sum.inr here) (dF s5)),t2,Y,⟨_,AJ.of Bg⟩,?_⟩;have XZ:t2≠fa:=λz=>by rw[z,JN]at Bg;cases Bg
     refine Cw (HZ (xs:=r2.2.map V.str)) (λj σ H6=>∃(ex:LS) (f:OV),σ=[some (.ref l),some (.ref d),some (.str r.1),some (.ref u),some (.ref aa),some (.ref fa),some (.int (k:Int)),f]/\(∀ b o,b≠fa->H5 b=some o->H6 b=some o)/\H6 fa=some (.lst ((fs++ex).map V.str)) /\
      (∀ y∈fs++ex,y∈rows.map (·.1))/\(fs++ex).Nodup/\(∀ y∈fs++ex,Graph.Reach (Ao rows) r.1 y)/\∀ z∈r2.2.take j,z∈fs++ex)
      ⟨[],Z,λb o _ e=>e,by rw[Fu];exact JN,by rw[Fu];exact go.known,by rw[Fu];exact go.nd,by rw[Fu];exact go.reach,λz h=>by simp at h⟩ (λj σ H6 _ h0=>by obtain⟨_,_,_,k6,_⟩:=h0;exact AJ.of (k6 _ _ XZ Bg)) ?_ ?_
     ·rintro j v σ H6 hj ⟨ex,f3,rfl,k6,JM,kn,ndx,rch,seen⟩;obtain⟨z,hz,rfl⟩:=Kx hj;have hzu:z∈Ao rows here:=by rw[uo];exact Yh hz
      have hle:(fs++ex).length<=24:=by
       have:=Graph.nodup_le ndx kn;rw[Ya]at this;omega
      refine⟨Z,Z,fa,Z,.inl (SqL.of JM),Y,NK _,Z,?_⟩;show if(!Ec (.str z) ((fs++ex).map V.str))=true then _ else _
      rw[Kt];have sj:∀ y∈r2.2.take (j + 1),y∈r2.2.take j\/y=z:=λy h=>by
       rw[Dm,hz]at h
       rcases Yt.mp h with h | h
       ·exact .inl h
       ·simp at h;exact .inr h
      refine Ak (λhn=>?_) (λhn=>?_)
      ·have hn:z∉fs++ex:=λc=>by rw[Jb c]at hn;cases hn
       refine⟨Z,.inl ⟨Y,_,SqL.of JM⟩,Z,fa,_,Z,Y,JM,B7 (by rw[Ya];omega),?_⟩;refine⟨ex++[z],Z,λb o hb e=>by rw[AD hb];exact k6 b o hb e,?_,?_,?_,?_,?_⟩
       ·have e:(fs++(ex++[z])).map V.str=(fs++ex).map V.str++[V.str z]:=by simp
        rw[uS,e]
       ·intro y hy;rw[<- La]at hy
        rcases Yt.mp hy with h | h
        ·exact kn y h
        ·rw[Yi.mp h];exact eA g (go.known here hin) hzu
       ·rw[<- La];refine List.nodup_append.mpr ⟨ndx,by simp,λa ha b hb e=>?_⟩;rw[Yi.mp hb]at e;rw[e]at ha;exact hn ha
       ·intro y hy;rw[<- La]at hy
        rcases Yt.mp hy with h | h
        ·exact rch y h
        ·rw[Yi.mp h];exact(go.reach here hin).snoc hzu
       ·intro y hy;rw[<- La]
        rcases sj y hy with h | h
        ·exact Yt.mpr (.inl (seen y h))
        ·rw[h];simp
      ·have hn:z∈fs++ex:=Te λc=>hn (by rw[Jc c];rfl);refine⟨ex,Z,k6,JM,kn,ndx,rch,λy hy=>?_⟩
       rcases sj y hy with h | h
       ·exact seen y h
       ·rw[h];exact hn
     ·rintro σ H6 ⟨ex,f3,rfl,k6,JM,kn,ndx,rch,seen⟩;rw[Ya,FJ]at seen;refine⟨Z,_,Z,Y,m - 1,W,fs++ex,k + 1,Z,λb o e=>k6 b o (AF e hfa) (s5 _ _ e),JM,⟨Yt.mpr (.inl go.start),kn,ndx,rch,?_⟩,by rw[Yx];omega,W⟩;intro y hy z hz;have htk:(fs++ex).take (k + 1)=fs.take k++[here]:=by
       rw[List.take_append_of_le_length (by omega),Dm,hat];rfl
      rw[htk]at hy
      rcases Yt.mp hy with h | h
      ·exact Yt.mpr (.inl (go.closed y h z hz))
      ·rw[Yi.mp h,uo]at hz;exact seen z hz
    ·have hge:fs.length<=k:=by
      have:¬ ((k:Int)<(fs.length:Int)):=λz=>Ab (Jb z);omega
     have ZQ:=s5 _ _ CL;have A8:(Sum.inr r.1:Key)∉AI.map (·.1):=by rw[hA.keys];exact O4 g.nd Aj
     have hil:(rows.take i).length<=24:=by rw[Yz];omega
     have hkl:AI.length=(rows.take i).length:=(Ba hA).symm;refine⟨Z,Z,Z,aa,Z,EH.k (k:=Sum.inr r.1) ZQ (B7 (by omega)),?_⟩;have lk:∀ b xs,H5 b=some (.lst xs)->(upd H5 aa (.dK (BN AI (Sum.inr r.1) (.ref fa)))) b=some (.lst xs):=λb xs e=>by
      rw[AD (λz=>by rw[z,ZQ]at e;cases e)];exact e
     refine⟨_,_,_,_,_,Z,λb o hb e=>by rw[AD hb];exact s5 _ _ (k1 b o hb e),uS,?_⟩;have sn:BZ (upd H5 aa (.dK (BN AI (Sum.inr r.1) (.ref fa)))) rows (rows.take i++[r]) (AI++[(Sum.inr r.1,V.ref fa)]):=Gr ((hA.mono λb xs e=>s5 _ _ e).mono lk) ⟨Y,fa,fs,Y,lk _ _ JN,go.all hge,go.le,go.nd⟩;rw[<- NA _ (Gq A8)]at sn;rw[Dm,Aj];exact sn
   ·rintro σ H' ⟨AI,a,b,c,e,f',rfl,k1,CL,hA⟩;rw[<- hvl,FJ]at hA;exact⟨Z,q aa AI H' (λb o e=>k1 b o (AF e aaH) (s3 _ _ e)) CL hA⟩
def E_(rows:RS)(n:Nat)(xs:LS):Bool:=decide (xs.length=n)&&xs.all λx=>decide (x∈rows.map (·.1))
structure Cv(rows:RS)(n:Nat)(xs:LS):Prop where
 len:xs.length=n
 known:∀ x∈xs,x∈rows.map (·.1)
def Cv.is{rows:RS}{n:Nat}{xs:LS}(h:Cv rows n xs):E_ rows n xs=true:=by
 unfold E_;rw[Jb h.len,LG,Bc];exact λx hx=>Jb (h.known x hx)
def SK(C:Addr):Sp:=λvs H Q _=>∃(p t:Addr) (n:Nat) (rows:RS) (xs:LS),vs=[.ref p,.int n,.ref t]/\B3 C H p rows/\Ah rows/\H t=some (.tup (xs.map V.str))/\xs.length<=1000/\∀ H',AB H H'->Q (.bl (E_ rows n xs)) H'
def U2(rows:RS):V->V
 | .str x=>.bl (decide (x∈rows.map (·.1)))
 | _=>.non
def oA(rows:RS)(xs:LS):(((xs.map V.str).filter λ_=>true).map (U2 rows))=(xs.map λx=>decide (x∈rows.map (·.1))).map V.bl:=by
 rw[Fq.mpr (λ_ _=>rfl),CV,CV];rfl
def r_:(["word","kinds"]:LS).Nodup:=by rfl'
abbrev By:LS:=["kinds","places","call"]
def rW:Ae By By (AL IY):=by nofun
def V9(F:Def K mg "is_call" IY By f fd)(len:mg "len"=none)(all:mg "all"=none)(TC:DJ K C)(MH:GX K C fH fdH):⋯ 2 f fd By (SK C):=by
 have GH:⋯ 1 fH fdH ["self","word"] (Wq C):=Zb MH.fn TC
 nomatch F.fn.ok rW
 ·obtain⟨p,t,n,rows,xs,rfl,_⟩:=h;rfl
 ·obtain⟨p,t,n,rows,xs,rfl,kd,g,ht,hz,q⟩:=h;obtain⟨dx,d,a,o,oa,kvs,AI,h1,_⟩:=kd.ex;have Ac:AV 1 _:=hr.mono (by decide)
  ac_nf
  refine'⟨_,AH (AW (HU ?ea (JZ ?eb))),?_⟩
  case ea=>exact EL BC (Aa B8 (by rfl) len Yy (pC (pv 2) AA)) (pv 1) (Ad _)
  case eb=>exact Aa (NF rfl) (by rfl) all Nj (pC
    (B5 ["word"] ["kinds"] [0] (λ_=>BU (osc:=AL IY) (on:=By) (by rfl') rfl rfl rfl) (HV (pv 2)) (λC s H fp=>BQ (i:=0) r_ rfl (Or.inl rfl) (Or.inr rfl)) (λC s H fp=>CA)
     (λC s H fp=>IQ (pv 1) TC.cl MH.me GH Ac MH.b .nil DX (pC (pv 0) AA))) AA)
  refine⟨Z,t,Z,.inr (AJ.of ht),Z,Y,Z,?_⟩;have e:decide (V.int ((xs.map V.str).length:Nat)=V.int n)=decide (xs.length=n):=by
   rw[Ya];exact TV.mpr ⟨λz=>by injection z with z;omega,λz=>by rw[z]⟩
  rw[e];refine Ak (λh=>?_) (λh=>?_)
  ·refine⟨Z,t,Y,⟨_,AJ.of ht⟩,K1 (HZ (xs:=xs.map V.str)) (sL (by rw[Ya];omega)) (λ_=>true) (U2 rows) (λD ys hD=>AJ.of (by rw[AD (AF ht hD)];exact ht)) ?_ ?_ ?_⟩
   ·intro D ys v R _ _ hR;exact hR
   ·intro D ys v R hD hv _ hR;obtain⟨x,hx,rfl⟩:=Yg.mp hv;have s2:AB H (upd H D (.lst ys)):=Dh hD;exact⟨Z,p,dx,Z,s2 _ _ h1,ZZ _ _,Z,p,rows,x,Y,kd.mono s2,g,hR⟩
   ·intro D hD;refine⟨D,Z,SqL.of (by rw[uS,oA]),?_⟩;have q':=q _ (Dh (o:=.lst (((xs.map V.str).filter λ_=>true).map (U2 rows))) hD);unfold E_ at q';rw[h,LG]at q';show Q (.bl ((xs.map λx=>decide (x∈rows.map (·.1))).all id)) _;rw[List.all_map];exact q'
  ·have q':=q H (AB.refl H);unfold E_ at q';rw[show decide (xs.length=n)=false by simpa using h,Bool.false_and]at q';exact q'
def Bv(H:Hp)(ds:List (LS))(vs:LV):Prop:=Paired (λ(d:LS) v=>∃ t,v=V.ref t/\H t=some (.tup (d.map V.str))) ds vs
def Bv.mono{H H':Hp}{ds:List (LS)}{vs:LV}(h:Bv H ds vs)(s:AB H H'):Bv H' ds vs:=Paired.mapP h λ_ _ ⟨t,e,x⟩=>⟨t,e,s _ _ x⟩
structure Fj(rows:RS)(n:Nat)(ds:List (LS)):Prop where
 call:∀ d∈ds,Cv rows n d
 nd:ds.Nodup
 few:ds.length<=64
def FY(d:LS):List Key:=d.map Sum.inr
def lJ(d:LS):(FY d).map kV=d.map V.str:=by
 unfold FY;rw[CV];rfl
def kY{d e:LS}(h:FY d=FY e):d=e:=by
 unfold FY at h;exact List.map_inj_right (λa b z=>by injection z) |>.mp h
def pA{ds:List (LS)}(nd:ds.Nodup){i:Nat}{d:LS}(h:ds[i]?=some d):FY d∉(ds.take i).map FY:=by
 intro m;obtain⟨e,he,q⟩:=Yg.mp m;rw[kY q]at he;exact nH nd h he
def eI(K:Fg)(C:Addr):Sp:=λvs H Q _=>∃(p l:Addr) (n:Nat) (b:Bool) (rows:RS) (ds:List (LS)) (us:LV),vs=[.ref p,.int n,.ref l]/\B3 C H p rows/\Ah rows/\Dq K b H l us/\Bv H ds us/\Fj rows n ds/\n<=4/\∀ H',AB H H'->Q .non H'
abbrev ip:LS:=["kinds","places","deeds","seen","number","call"]
def gJ:Ae ip ["kinds","places","deeds"] (AL S5):=by nofun
def qR(F:Def K mg "check_deeds" S5 ["kinds","places","deeds"] f fd)(DI:Def K mg "is_call" IY By fI fdI)(enum:mg "enumerate"=none)(len:mg "len"=none)(all:mg "all"=none)(TC:DJ K C)(MH:GX K C fH fdH):
  ⋯ 3 f fd ["kinds","places","deeds"] (eI K C):=by
 have GI:⋯ 2 fI fdI By (SK C):=V9 DI len all TC MH
 nomatch F.fn.ok gJ
 ·obtain⟨p,l,n,b,rows,ds,us,rfl,_⟩:=h;rfl
 ·obtain⟨p,l,n,b,rows,ds,us,rfl,kd,g,hl,hD,gd,hn,q⟩:=h;have nd:=gJ.nd;have hu:=Ei hr
  ac_nf
  refine⟨_,pS (sE 3 nd k_)
   (AH (CQ Bb rfl (aS (by rfl) enum (pC (pv 2) AA)) (Jl rfl (gC (gE 4 nd) (gC (gE 5 nd) Jm)))
    (pS (AY (CS (Bu (AN DI GI hr (pC (pv 0) (pC (pv 1) (pC (pv 5) AA)))))) Cn AZ)
    (pS (AY (JU (Mv hu (pv 5) (pv 3))) Cn AZ)
    (AH (Jn hu (pv 3) (pv 5) B1 rfl)))))),?_⟩
  exists let b:=AE _ a;let c:=AE _ b;let e:=Cg _ _ c;AE _ e _ _ _
  intro d hd;have s0:AB H (upd H d (.dT [])):=Dh hd;have hvl:=hD.length;have few:=gd.few;let Bp:NW:=λi σ H'=>∃(kvs:List (List Key×V)) (a c:OV),σ=[some (.ref p),some (.int n),some (.ref l),some (.ref d),a,c]/\AB H H'/\H' d=some (.dT kvs)/\kvs.map (·.1)=(ds.take i).map FY;refine⟨Z,b,l,us,Y,hl.mono s0,cQ Bp
   ⟨[],none,none,Y,s0,uS,by simp⟩ (λi σ H' _ h0=>by obtain⟨_,_,_,_,s,_⟩:=h0;exact hl.mono s) ?_ ?_⟩
  ·rintro i pr t σ H' hi ⟨kvs,a,c,rfl,s1,hdk,hk⟩ Ht;obtain⟨e1,hx⟩:=SR hi;obtain⟨dd,hdd,t2,e2,Bg⟩:=C6 hD hx;refine U1 ?_;have s2:AB H' (upd H' t (.tup [pr.1,pr.2])):=Dh Ht;have Bd:dd∈ds:=Yh hdd;have gc:=gd.call dd Bd;rw[e2];show AE _ _ _ [some (.ref p),some (.int n),some (.ref l),some (.ref d),some pr.1,some (.ref t2)] _;have De:=s1.trans s2;refine⟨Z,Z,Z,p,t2,n,rows,dd,Y,kd.mono ?_,g,?_,by have:=gc.len;omega,λH3 s3=>⟨Z,?_⟩⟩
   ·rw[<- e2];exact De
   ·rw[<- e2];exact De _ _ Bg
   rw[gc.is];refine Av ?_;rw[<- e2]at s3;have A9:=De.trans s3;have RG:H3 d=some (.dT kvs):=s3 _ _ (s2 _ _ hdk);have HE:H3 t2=some (.tup ((FY dd).map kV)):=by rw[lJ];exact A9 _ _ Bg
   refine⟨Z,Z,d,Z,BL.t (k:=FY dd) RG HE,Z,?_⟩;have A8:FY dd∉kvs.map (·.1):=by rw[hk];exact pA gd.nd hdd
   rw[dw A8];refine Av ?_;have hkl:kvs.length=(ds.take i).length:=by have:=congrArg List.length hk;simpa using this
   have hil:(ds.take i).length<=64:=by rw[Yz];omega
   refine⟨Z,Z,d,Z,EH.t (k:=FY dd) RG HE (B7 (by omega)),?_⟩;refine⟨_,_,Z,λb o e=>?_,uS,?_⟩
   ·rw[AD (AF e hd)];exact A9 _ _ e
   ·rw[oj A8,hk,Dm,hdd,Bw];rfl
  ·rintro σ H' ⟨kvs,a,c,rfl,s1,hdk,hk⟩;exact q H' s1
def rK:¬ (("book":Str)="stands"):=by rfl'
def rL:¬ (("book":Str)="width"):=by rfl'
def rM:¬ (("width":Str)="stands"):=by rfl'
def Eh(k t:Addr)(n:Nat):List (Str×V):=BP "stands" (.ref t) (BP "width" (.int n) (BP "book" (.ref k) []))
def u3(k t:Addr)(n:Nat):(Eh k t n).lookup ("book":Str)=some (.ref k):=by
 unfold Eh;rw[EC,if_neg rK,EC,if_neg rL,EC,if_pos rfl]
def u5(k t:Addr)(n:Nat):(Eh k t n).lookup ("width":Str)=some (.int n):=by
 unfold Eh;rw[EC,if_neg rM,EC,if_pos rfl]
def u4(k t:Addr)(n:Nat):(Eh k t n).lookup ("stands":Str)=some (.ref t):=by
 unfold Eh;rw[EC,if_pos rfl]
def Ve(k t:Addr)(n:Nat){m:Str}(h1:¬ m="stands")(h2:¬ m="width")(h3:¬ m="book"):(Eh k t n).lookup m=none:=by
 unfold Eh;rw[EC,if_neg h1,EC,if_neg h2,EC,if_neg h3];rfl
def V0(k t:Addr)(n:Nat):(Eh k t n).lookup ("kinds":Str)=none:=Ve k t n (by rfl') (by rfl') (by rfl')
def V7(k t:Addr)(n:Nat):(Eh k t n).lookup ("places":Str)=none:=Ve k t n (by rfl') (by rfl') (by rfl')
def dA(k t:Addr)(n:Nat):(Eh k t n).lookup ("deeds":Str)=none:=Ve k t n (by rfl') (by rfl') (by rfl')
structure Cm(C B:Addr)(H:Hp)(p k:Addr)(rows:RS)(n:Nat)(ds:List (LS)):Prop where
 ex:∃(dx t:Addr) (us:LV),H p=some (.ins B dx (Eh k t n))/\B3 C H k rows/\H t=some (.tup us)/\Bv H ds us
theorem Cm.mono{C B:Addr}{H H':Hp}{p k:Addr}{rows:RS}{n:Nat}{ds:List (LS)}(h:Cm C B H p k rows n ds)(s:AB H H'):Cm C B H' p k rows n ds:=by
 obtain⟨dx,t,us,h1,h2,h3,h4⟩:=h.ex;exact⟨dx,t,us,s _ _ h1,h2.mono s,s _ _ h3,h4.mono s⟩
structure II(K:Fg)(B:Addr):Prop where
 cl:F1 K B
 nB:Gh K B "book"
 nW:Gh K B "width"
 nS:Gh K B "stands"
structure Wg(mg:Str->OU):Prop where
 places:∃ t,mg "MOST_PLACES"=some (.int 4 t)
 deeds:∃ t,mg "MOST_DEEDS"=some (.int 64 t)
 len:mg "len"=none
 all:mg "all"=none
 tuple:mg "tuple"=none
 list:mg "list"=none
 enum:mg "enumerate"=none
def VO(K:Fg)(C B:Addr):Sp:=λvs H Q _=>∃(p dx k l:Addr) (n:Nat) (rows:RS) (ds:List (LS)) (us:LV),vs=[.ref p,.ref k,.int n,.ref l]/\H p=some (.ins B dx [])/\B3 C H k rows/\Ah rows/\(SqL K H l us\/H l=some (.tup us))/\Bv H ds us/\Fj rows n ds/\1<=n/\n<=4 /\
 ∀ H',Cm C B H' p k rows n ds->(∀ b o,b≠p->H b=some o->H' b=some o)->Q .non H'
def dS{C p:Addr}{H H':Hp}{k:Addr}{rows:RS}{o:HO}(h:B3 C H k rows)(hp:H p=some o)(s:∀ b o,b≠p->H b=some o->H' b=some o)(nk:k≠p)(no:∀ o' u,o≠.frz o' u)(nt:∀ xs,o≠.tup xs):B3 C H' k rows:=by
 obtain⟨dx,d,a,o1,oa,kvs,AI,h1,h2,h3,h4⟩:=h.ex;have ne:∀ {b o' u},H b=some (.frz o' u)->b≠p:=λ{b o' u} e z=>by rw[z,hp]at e;exact no _ _ (Yv e)
 have net:∀ {b xs},H b=some (.tup xs)->b≠p:=λ{b xs} e z=>by rw[z,hp]at e;exact nt _ (Yv e)
 exact⟨dx,d,a,o1,oa,kvs,AI,s _ _ nk h1,⟨s _ _ (ne h2.at_) h2.at_,h2.ups.mono λb xs e=>s _ _ (net e) e⟩,s _ _ (ne h3) h3,h4.mono λb o' fk e=>s _ _ (ne e) e⟩
abbrev N3:LS:=["self","kinds","places","deeds"]
def qz:Ae N3 N3 (AL WN):=by nofun
def kg(F:BV K "__init__" "Board.__init__" WN f fd)(T:Wg mg)(TB:II K B)(TC:DJ K C)(DD:Def K mg "check_deeds" S5 ["kinds","places","deeds"] fD fdD)(DI:Def K mg "is_call" IY By fI fdI)(MH:GX K C fH fdH)(hBC:B≠C):
  ⋯ 4 f fd N3 (VO K C B):=by
 have GD:⋯ 3 fD fdD ["kinds","places","deeds"] (eI K C):=qR DD DI T.enum T.len T.all TC MH
 nomatch F.ok qz
 ·obtain⟨p,dx,k,l,n,rows,ds,us,rfl,_⟩:=h;rfl
 ·obtain⟨p,dx,k,l,n,rows,ds,us,rfl,hp,kd,g,hl,hD,gd,n1,n4,q⟩:=h;obtain⟨b,hl,RJ⟩:∃ b,Dq K b H l us/\(b=false->H l=some (.tup us)):=by
   rcases hl with hl | hl
   ·exact⟨true,hl,λz=>by cases z⟩
   ·exact⟨false,AJ.of hl,λ_=>hl⟩
  obtain⟨t1,hP⟩:=T.places;obtain⟨t2,hM⟩:=T.deeds;have HF:AV 3 _:=hr.mono (by decide)
  ac_nf
  refine⟨_,pS (AY (CS (Vl Mq Mq AG (pv 2) (CU (v:=.int 4) (by rfl) hP ⟨Z⟩))) Cn AZ)
   (pS (AY (Af OR (Aa Gp (by rfl) T.len Yy (pC (pv 3) AA)) (CU (v:=.int 64) (by rfl) hM ⟨Z⟩) (Ad _)) Cn AZ)
   (pS (Bi (AN DD GD HF (pC (pv 1) (pC (pv 2) (pC (pv 3) AA)))))
   (pS (Oa (pv 0) (pv 1) rfl) (pS (Oa (pv 0) (pv 2) rfl)
   (AH (Oa (pv 0) (DZ K7 (by rfl) T.tuple Lb (pC (pv 3) AA)) rfl)))))),?_⟩
  exists let b:=AE _ a;let c:=AE _ b;let e:=AE _ c;let f:=AE _ e;AE _ f _ _ _
  refine⟨Z,_,Z,Y,Z,?_⟩;rw[show decide ((1:Int)<=(n:Int))=true from Jb (by omega)];refine BM ⟨_,Z,Y,Z,?_⟩;rw[show(decide ((n:Int)<=4))=true from Jb (by omega)];refine Av ?_;have hul:=hD.length;have few:=gd.few;refine⟨Z,_,Z,VL hl,_,Z,Y,Z,?_⟩;rw[show decide ((64:Int)<(us.length:Int))=false from Jc (by omega)];refine Av ?_;refine⟨Z,Z,Z,p |> λ_=>k,l,n,b,rows,ds,us,Y,kd,g,hl,hD,gd,n4,λH1 s1=>?_⟩;have DB:=s1 _ _ hp;have xO:=kd.mono s1;have nkp:k≠p:=by
   intro z;obtain⟨xo,d,a,o,oa,kvs,AI,h1,_⟩:=kd.ex;rw[z,hp]at h1;injection h1 with h1;injection h1 with h1;exact hBC h1
  refine⟨Z,Z,p,B,dx,[],Y,DB,TB.cl,TB.nB,(by show 0<1000;decide),?_⟩;refine⟨Z,Z,p,B,dx,Z,uS,TB.cl,TB.nW,(by show 1<1000;decide),?_⟩;rw[M7];have kp:∀ {fs:List (Str×V)} (b:Addr) (o:HO),b≠p->H b=some o->(upd H1 p (.ins B dx fs)) b=some o:=λb o hb e=>by rw[AD hb];exact s1 _ _ e
  have hlp:∀ {fs:List (Str×V)},Dq K b (upd H1 p (.ins B dx fs)) l us:=λ{fs}=>by
   have Cc:=hl.mono s1;cases b with
   | true =>
    rcases(show SqL K H1 l us from Cc)with(e | ⟨o,e⟩) | e
    ·exact .inl (.inl (by rw[AD (λz=>by rw[z,DB]at e;cases e)];exact e))
    ·exact .inl (.inr ⟨o,by rw[AD (λz=>by rw[z,DB]at e;cases e)];exact e⟩)
    ·exact .inr e
   | false =>
    rcases(show AJ K H1 l us from Cc)with(e | ⟨o,e⟩) | e
    ·exact .inl (.inl (by rw[AD (λz=>by rw[z,DB]at e;cases e)];exact e))
    ·exact .inl (.inr ⟨o,by rw[AD (λz=>by rw[z,DB]at e;cases e)];exact e⟩)
    ·exact .inr e
  have fin:∀(t:Addr) (H2:Hp),AB (upd H1 p (.ins B dx (BP "width" (.int n) (BP "book" (.ref k) [])))) H2->H2 t=some (.tup us)->Q .non (upd H2 p (.ins B dx (Eh k t n))):=λt H2 s2 ht=>by
   have BJ:H2 p=some (.ins B dx (BP "width" (.int n) (BP "book" (.ref k) []))):=s2 _ _ uS;have k2:∀ b o,b≠p->H b=some o->(upd H2 p (.ins B dx (Eh k t n))) b=some o:=λb o hb e=>by rw[AD hb];exact s2 _ _ (kp b o hb e)
   refine q _ ⟨dx,t,us,uS,dS kd hp k2 nkp (λ_ _ z=>by cases z) (λ_ z=>by cases z),by rw[AD (λz=>by rw[z,BJ]at ht;cases ht)];exact ht,Paired.mapP hD λd v ⟨t',e,x⟩=>⟨t',e,k2 _ _ (λz=>by rw[z,hp]at x;cases x) x⟩⟩ k2
  refine⟨Z,l,us,Y,?_⟩;have no:=hlp (fs:=BP "width" (.int n) (BP "book" (.ref k) []));have wd:(BP "width" (V.int n) (BP "book" (V.ref k) [])).length<1000:=by show 2<1000;decide
  cases b with
  | true =>
   refine .inl ⟨no,λt ht=>⟨Z,p,B,dx,Z,(Dh ht) _ _ uS,TB.cl,TB.nS,wd,fin t _ (Dh ht) uS⟩⟩
  | false =>
   have e:(upd H1 p (.ins B dx (BP "width" (.int n) (BP "book" (.ref k) [])))) l=some (.tup us):=by
    have e0:=s1 _ _ (RJ rfl);rw[AD (λz=>by rw[z,DB]at e0;cases e0)];exact e0
   exact .inr ⟨no,Z,p,B,dx,Z,uS,TB.cl,TB.nS,wd,fin l _ (AB.refl _) e⟩
def SJ(C B:Addr):Sp:=λvs H Q _=>∃(p k:Addr) (rows:RS) (n:Nat) (ds:List (LS)),vs=[.ref p]/\Cm C B H p k rows n ds/\Q (.ref k) H
def SO(C B:Addr):Sp:=λvs H Q _=>∃(p k:Addr) (rows:RS) (n:Nat) (ds:List (LS)),vs=[.ref p]/\Cm C B H p k rows n ds/\Q (.int n) H
def Vk(C B:Addr):Sp:=λvs H Q _=>∃(p k:Addr) (rows:RS) (n:Nat) (ds:List (LS)),vs=[.ref p]/\Cm C B H p k rows n ds/\∀ l us,H l=none->Bv H ds us->Q (.ref l) (upd H l (.lst us))
def q8:Ae ["self"] ["self"] (AL S1):=by nofun
def V1(F:BV K "kinds" "Board.kinds" S1 f fd)(TB:II K B):⋯ 1 f fd ["self"] (SJ C B):=by
 nomatch F.ok q8
 ·obtain⟨p,k,rows,n,ds,rfl,_⟩:=h;rfl
 ·obtain⟨p,k,rows,n,ds,rfl,⟨dx,t,us,h1,h2,h3,h4⟩,q⟩:=h;exact⟨_,AH (AW (Ko (pv 0) rfl)),Z,p,B,dx,_,Z,h1,TB.cl,TB.nB,u3 _ _ _,q⟩
def q9:Ae ["self"] ["self"] (AL Sx):=by nofun
def V8(F:BV K "places" "Board.places" Sx f fd)(TB:II K B):⋯ 1 f fd ["self"] (SO C B):=by
 nomatch F.ok q9
 ·obtain⟨p,k,rows,n,ds,rfl,_⟩:=h;rfl
 ·obtain⟨p,k,rows,n,ds,rfl,⟨dx,t,us,h1,h2,h3,h4⟩,q⟩:=h;exact⟨_,AH (AW (Ko (pv 0) rfl)),Z,p,B,dx,_,Z,h1,TB.cl,TB.nW,u5 _ _ _,q⟩
def qy:Ae ["self"] ["self"] (AL S0):=by nofun
def dB(F:BV K "deeds" "Board.deeds" S0 f fd)(TB:II K B)(list:mg "list"=none):⋯ 1 f fd ["self"] (Vk C B):=by
 nomatch F.ok qy
 ·obtain⟨p,k,rows,n,ds,rfl,_⟩:=h;rfl
 ·obtain⟨p,k,rows,n,ds,rfl,⟨dx,t,us,h1,h2,h3,h4⟩,q⟩:=h;exact⟨_,AH (AW (DZ Ia (by rfl) list FI (pC (Ko (pv 0) rfl) AA))),Z,p,B,dx,_,Z,h1,TB.cl,TB.nS,u4 _ _ _,t,us,Y,.inr (AJ.of h3),λl hl=>q l us hl h4⟩
abbrev VC(K:Fg)(B f:Addr)(fd:FuncData):Prop:=HP K B "kinds" "Board.kinds" S1 ["self"] f fd
abbrev VZ(K:Fg)(B f:Addr)(fd:FuncData):Prop:=HP K B "places" "Board.places" Sx ["self"] f fd
abbrev Z5(K:Fg)(B f:Addr)(fd:FuncData):Prop:=HP K B "deeds" "Board.deeds" S0 ["self"] f fd
def Cu(rows:RS)(xs ys:LS):Bool:=(xs.zip ys).all λp=>A5 rows p.1 p.2
def Pg(p:Str×Str):V×V:=(V.str p.1,V.str p.2)
def R7(xs ys:LS):(xs.map V.str).zip (ys.map V.str)=(xs.zip ys).map Pg:=by rw[List.zip_map];rfl
def NL{α β:Type}{f:α->β}{l:List α}{i:Nat}{y:β}(h:(l.map f)[i]?=some y):∃ x,l[i]?=some x/\f x=y:=by
 rw[Yf]at h;exact He.mp h
def cE(C:Addr):Sp:=λvs H Q _=>∃(p a b:Addr) (rows:RS) (xs ys:LS),vs=[.ref p,.ref a,.ref b]/\B3 C H p rows/\Ah rows/\H a=some (.tup (xs.map V.str))/\H b=some (.tup (ys.map V.str))/\(∀ x∈xs,x∈rows.map (·.1))/\(∀ y∈ys,y∈rows.map (·.1)) /\
 ∀ H',AB H H'->Q (.bl (Cu rows xs ys)) H'
def WG(C:Addr):Sp:=λvs H Q _=>∃(p t:Addr) (n:Nat) (rows:RS) (xs:LS),vs=[.ref p,.int n,.ref t]/\B3 C H p rows/\Ah rows/\H t=some (.tup (xs.map V.str))/\Cv rows n xs/\n<=4/\∀ H',AB H H'->Q .non H'
def A0(rows:RS)(ds:List (LS))(xs:LS):LN:=(List.range ds.length).filter λi=>Cu rows xs (ds.getD i [])
def cy(C B:Addr):Sp:=λvs H Q _=>∃(p k t:Addr) (rows:RS) (n:Nat) (ds:List (LS)) (xs:LS),vs=[.ref p,.ref t]/\Cm C B H p k rows n ds/\Ah rows/\Fj rows n ds/\n<=4/\H t=some (.tup (xs.map V.str))/\Cv rows n xs /\
 ∀ l H',H l=none->AB H H'->H' l=some (.lst ((A0 rows ds xs).map λi=>V.int (i:Nat)))->Q (.ref l) H'
abbrev iY:LS:=["kinds","one","other","low","high"]
def gA:Ae iY ["kinds","one","other"] (AL SI):=by nofun
def m_(F:Def K mg "within" SI ["kinds","one","other"] f fd)(zip:mg "zip"=none)(TC:DJ K C)(MU:Uy K C fU fdU)(MC:Rr K C fC fdC)(MH:GX K C fH fdH):
  ⋯ 4 f fd ["kinds","one","other"] (cE C):=by
 have GU:⋯ 3 fU fdU ["self","one","other"] (VQ C):=bN MU.fn TC MC MH
 nomatch F.fn.ok gA
 ·obtain⟨p,a,b,rows,xs,ys,rfl,_⟩:=h;rfl
 ·obtain⟨p,a,b,rows,xs,ys,rfl,kd,g,ha,hb,hx,hy,q⟩:=h;obtain⟨dx,d,a1,o,oa,kvs,AI,h1,_⟩:=kd.ex;have nd:=gA.nd
  ac_nf
  refine⟨_,pS (CQ Bb rfl (Zh (by rfl) zip (pC (pv 1) (pC (pv 2) AA))) (Jl rfl (gC (gE 3 nd) (gC (gE 4 nd) Jm)))
    (AH (AY (CS (Bu (IQ (pv 0) TC.cl MU.me GU hr MU.b .nil DX (pC (pv 3) (pC (pv 4) AA))))) (AH (AW B1)) AZ)))
   (AH (AW B1)),?_⟩
  exists let b:=_;AE (Cg _ _ b) a _ _ _
  let Bp:NW:=λi σ H'=>∃(u v:OV),σ=[some (.ref p),some (.ref a),some (.ref b),u,v]/\AB H H'/\∀ z∈(xs.zip ys).take i,A5 rows z.1 z.2=true;refine⟨Z,Z,a,b,_,Z,AJ.of ha,AJ.of hb,cQ Bp
   ⟨none,none,Y,AB.refl H,by simp⟩ (λi σ H' _ h0=>by obtain⟨_,_,_,s,_⟩:=h0;exact⟨AJ.of (s _ _ ha),AJ.of (s _ _ hb)⟩) ?_ ?_⟩
  ·rintro i pr t σ H' hi ⟨u,v,rfl,s1,hall⟩ Ht;rw[R7]at hi;obtain⟨z,hz,rfl⟩:=NL hi;refine U1 ?_;have s2:=s1.trans (Dh (o:=.tup [(Pg z).1,(Pg z).2]) Ht);have zm:=Yh hz;have hzx:=hx _ (Ni zm).1;have hzy:=hy _ (Ni zm).2;refine⟨Z,p,dx,Z,s2 _ _ h1,bJ _ _,Z,Z,p,rows,z.1,z.2,Y,kd.mono s2,g,hzx,hzy,Z,?_⟩;refine Ak (λh=>?_) (λh=>?_)
   ·have e:Cu rows xs ys=false:=by
     unfold Cu;rw[List.all_eq_false];exact⟨z,zm,by simpa using h⟩
    have q':=q _ s2;rw[e]at q';exact q'
   ·refine⟨_,Z,s2,λy Ey=>?_⟩;rw[Dm,hz]at Ey
    rcases Yt.mp Ey with m | m
    ·exact hall y m
    ·have:y=z:=by simpa using m
     rw[this];simpa using h
  ·rintro σ H' ⟨u,v,rfl,s1,hall⟩;rw[R7,Ya,FJ]at hall;have e:Cu rows xs ys=true:=by
    unfold Cu;rw[Bc];exact hall
   have q':=q _ s1;rw[e]at q';exact q'
def gI:Ae By By (AL K6):=by nofun
def eN(F:Def K mg "check_call" K6 By f fd)(DI:Def K mg "is_call" IY By fI fdI)(len:mg "len"=none)(all:mg "all"=none)(TC:DJ K C)(MH:GX K C fH fdH):⋯ 3 f fd By (WG C):=by
 have GI:⋯ 2 fI fdI By (SK C):=V9 DI len all TC MH
 nomatch F.fn.ok gI
 ·obtain⟨p,t,n,rows,xs,rfl,_⟩:=h;rfl
 ·obtain⟨p,t,n,rows,xs,rfl,kd,g,ht,gc,hn,q⟩:=h
  ac_nf
  refine⟨_,AH (AY (CS (Bu (AN DI GI hr (pC (pv 0) (pC (pv 1) (pC (pv 2) AA)))))) Cn AZ),?_⟩;refine⟨Z,Z,Z,p,t,n,rows,xs,Y,kd,g,ht,by have:=gc.len;omega,λH' s'=>⟨Z,?_⟩⟩;rw[gc.is];exact Av (q H' s')
abbrev YL:LS:=["board","call","kinds"]
def gP:Ae YL ["board","call"] (AL O2):=by nofun
def vp:(["number","deed","kinds","call"]:LS).Nodup:=by rfl'
def fJ(p:V×V):V:=p.1
def kM{rows:RS}{ds:List (LS)}{xs:LS}{us:LV}{p:V×V->Bool}(hl:ds.length=us.length)(h:∀ i (d:LS) v,ds[i]?=some d->us[i]?=some v->p (.int (i:Nat),v)=Cu rows xs d):
  ((Gd us).filter p).map fJ=(A0 rows ds xs).map λi=>V.int (i:Nat):=by
 have e1:Gd us=(List.range us.length).map λ(i:Nat)=>(V.int (i:Nat),us.getD i .non):=by
  refine List.ext_getElem? λi=>?_;by_cases hi:i<us.length
  ·have h1:(Gd us)[i]?=some ((Gd us)[i]'(by rw[NJ];exact hi)):=Yb (by rw[NJ];exact hi);obtain⟨a,b⟩:=SR h1;rw[h1,Yf,LK hi];refine congrArg some (Prod.ext a ?_);show _=us.getD i .non;rw[Yk,b];rfl
  ·rw[Gu (by rw[NJ];omega),Gu (by simp;omega)]
 rw[e1,Po,CV];unfold A0;rw[hl];have e2:(List.range us.length).filter (p ∘ λ(i:Nat)=>(V.int (i:Nat),us.getD i .non))=(List.range us.length).filter λi=>Cu rows xs (ds.getD i []):=by
  refine List.filter_congr λi hi=>?_;have hi:i<us.length:=Cz.mp hi;have d1:ds[i]?=some (ds.getD i []):=by rw[Yk,Yb (by omega)];rfl
  have u1:us[i]?=some (us.getD i .non):=by rw[Yk,Yb hi];rfl
  exact h i _ _ d1 u1
 rw[e2];rfl
def eZ(rows:RS)(ds:List (LS))(xs:LS):V×V->Bool
 | (.int i,_)=>Cu rows xs (ds.getD i.toNat [])
 | _=>false
def pP(F:Def K mg "fitting" O2 ["board","call"] f fd)(T:Wg mg)(zip:mg "zip"=none)(TC:DJ K C)(TB:II K B)(MK:VC K B fK fdK)(MP:VZ K B fPl fdPl)(MD:Z5 K B fDe fdDe)
  (DCk:Def K mg "check_call" K6 By fCk fdCk) (DW:Def K mg "within" SI ["kinds","one","other"] fW fdW) (DI:Def K mg "is_call" IY By fI fdI) (MU:Uy K C fU fdU) (MC:Rr K C fC fdC) (MH:GX K C fH fdH):
  ⋯ 5 f fd ["board","call"] (cy C B):=by
 have GK:⋯ 1 fK fdK ["self"] (SJ C B):=V1 MK.fn TB;have GP:⋯ 1 fPl fdPl ["self"] (SO C B):=V8 MP.fn TB;have GD:⋯ 1 fDe fdDe ["self"] (Vk C B):=dB MD.fn TB T.list;have GC:⋯ 3 fCk fdCk By (WG C):=eN DCk DI T.len T.all TC MH;have GW:⋯ 4 fW fdW ["kinds","one","other"] (cE C):=m_ DW zip TC MU MC MH
 nomatch F.fn.ok gP
 ·obtain⟨p,k,t,rows,n,ds,xs,rfl,_⟩:=h;rfl
 ·obtain⟨p,k,t,rows,n,ds,xs,rfl,bd,g,gd,hn,ht,gc,q⟩:=h;obtain⟨dx,ts,us,h1,h2,h3,h4⟩:=bd.ex;have nd:=gP.nd;have Ac:AV 1 _:=hr.mono (by decide);have HF:AV 3 _:=hr.mono (by decide)
  ac_nf
  refine'⟨_,pS (CB (i:=2) nd rfl (Or.inr rfl) (Jq (pv 0) TB.cl MK.me GK Ac MK.b .nil DX))
   (pS (Bi (AN DCk GC HF (pC (pv 2) (pC (Jq (pv 0) TB.cl MP.me GP Ac MP.b .nil DX) (pC (pv 1) AA)))))
   (AH (AW ?ea))),?_⟩
  case ea=>exact(B5 ["number","deed"] ["kinds","call"] [2,1] (λ_=>BU (osc:=AL O2) (on:=YL) (by rfl') rfl rfl rfl) (aS (by rfl) T.enum (pC (Jq (pv 0) TB.cl MD.me GD Ac MD.b .nil DX) AA))
    (λC s H fp=>Rn (K:=K) (i:=0) (j:=1) rfl rfl vp rfl rfl (Or.inl rfl) (Or.inl rfl) (Or.inr rfl) (Or.inr rfl))
    (λC s H fp=>Kv (Bu (AN DW GW hr (pC (pv 2) (pC (pv 3) (pC (pv 1) AA)))))) (λC s H fp=>pv 0))
  exists let b:=AE _ a;AE _ b _ _ _
  refine⟨Z,p,dx,Z,h1,V0 _ _ _,p,k,rows,n,ds,Y,bd,?_⟩;refine⟨Z,Z,p,dx,Z,h1,V7 _ _ _,p,k,rows,n,ds,Y,bd,Z,k,t,n,rows,xs,Y,h2,g,ht,gc,hn,λH1 s1=>?_⟩;refine⟨Z,p,dx,Z,s1 _ _ h1,dA _ _ _,p,k,rows,n,ds,Y,bd.mono s1,λl KD hl hD=>?_⟩;have s2:AB H1 (upd H1 l (.lst KD)):=Dh hl;have hul:=hD.length;have few:=gd.few;refine⟨true,l,KD,Y,SqL.of uS,cP (sL (by rw[NJ];omega)) (eZ rows ds xs) fJ (λH' s'=>SqL.of (s' _ _ uS)) ?_ ?_ ?_⟩
  ·intro x H' R s' hx hR;obtain⟨i,hi⟩:=Ip hx;obtain⟨e1,hu⟩:=SR hi;obtain⟨dd,hdd,t2,e2,Bg⟩:=C6 hD hu;have De:=s1.trans (s2.trans s');have gcd:=gd.call dd (Yh hdd);rw[e2];refine⟨Z,Z,Z,k,t,t2,rows,xs,dd,Y,h2.mono De,g,De _ _ ht,s' _ _ (s2 _ _ Bg),gc.known,gcd.known,λH3 s3=>⟨Z,?_⟩⟩;have e:eZ rows ds xs x=Cu rows xs dd:=by
    obtain⟨x1,x2⟩:=x;have e1:x1=.int (i:Nat):=e1;rw[e1];show Cu rows xs (ds.getD ((i:Nat):Int).toNat [])=_;rw[Bk,Yk,hdd];rfl
   rw[<- e];exact hR H3 s3
  ·intro x H' R s' hx _ hR;exact⟨Z,hR H' (AB.refl _)⟩
  ·intro D H' Ug s' JK;have De:=s1.trans (s2.trans s');refine q D H' ?_ De ?_
   ·cases e:H D with
    | none=>rfl
    | some u=>have:=s2 _ _ (s1 _ _ e);rw[this]at Ug;cases Ug
   ·rw[JK,kM hul λi d v hd hv=>?_];show Cu rows xs (ds.getD ((i:Nat):Int).toNat [])=_;rw[Bk,Yk,hd];rfl
def D_{H:Hp}{p a:Addr}{o:HO}{ws:LS}(h:H p=some o)(ho:Bh o)(ha:H a=some (.lst (ws.map V.str))):p≠a:=Ws h ha (by
 obtain⟨r,b,e,_⟩:=ho;rw[e];intro z;injection z with z;have z2:=congrArg (λl=>l[0]?) z;cases ws with
 | nil=>simp at z2
 | cons x r=>simp at z2)
theorem Drawn.tup{p:Addr}{H H':Hp}(d:Drawn p H H'){o:HO}(h:H p=some o)(ho:Bh o){t:Addr}{xs:LV}(e:H t=some (.tup xs)):H' t=some (.tup xs):=
 d.keep _ _ (λz=>by rw[z,h]at e;obtain⟨_,_,q,_⟩:=ho;rw[q]at e;cases e) e
def NS{H H':Hp}{l:Addr}{rows:RS}(h:Gi H l rows)(s:AB H H'):Gi H' l rows:=by
 obtain⟨vs,a,p⟩:=h;exact⟨vs,s _ _ a,Paired.mapP p λr v ⟨t,u,e,h1,h2⟩=>⟨t,u,e,s _ _ h1,s _ _ h2⟩⟩
def WA{K:Fg}{l:Addr}{H2:Hp}{rows:RS}{σ:St}{te:TE}{Q:VK}(hR:Gi H2 l rows)(few:rows.length<=100)
  (he:∀(t u:Addr) (x:Str) H' (R:VK),H' t=some (.tup [.str x,.ref u])->R (.str x) H'->te [some (.ref t)] H' R)
  (hd:∀ D H3,H2 D=none->AB H2 H3->H3 D=some (.lst ((rows.map (·.1)).map V.str))->Q (.ref D) H3):AR 1 [] (C2 0) Ri te σ Q (Nt K l) H2:=by
 obtain⟨vs,hvs,hpr⟩:=hR;refine NG (EB (xs:=vs)) (sL (by rw[<- hpr.length];omega)) (λ_=>true) (λ_ x v _=>∀ r,Pa H2 r x->v=.str r.1) (λ_ _ _ _ _ _ h=>h) (λH' s=>s.seq (SqL.of hvs)) ?_ ?_ ?_
 ·intro x H3 R _ _ An;exact An H3 (AB.refl _)
 ·intro D x H3 R s3 _ _ hx _ An;obtain⟨i,hi⟩:=List.mem_iff_getElem?.mp hx;obtain⟨r,Aj,t,u,rfl,ht,A1⟩:=C6 hpr hi;refine he t u r.1 H3 R (s3 _ _ ht) (An _ _ (AB.refl _) λr' h'=>?_);obtain⟨t',u',e1,e2,_⟩:=h';cases e1;rw[ht]at e2;have e2:=Yv e2;injection e2 with e2;injection e2 with e2 _
 ·intro D H3 ys hD Qw hlD hpD;rw[SA]at hpD;have eys:ys=(rows.map (·.1)).map V.str:=by
   have:∀ {rows:RS} {vs ys:LV},Paired (Pa H2) rows vs->Paired (λx v=>∀ r,Pa H2 r x->v=.str r.1) vs ys->ys=(rows.map (·.1)).map V.str:=by
    intro rows vs ys a
    induction a generalizing ys with
    | nil=>intro b;cases b;rfl
    | cons h t ih =>
     intro b;cases b with
     | cons h' t'=>rw[Ym,Ym,h' _ h,ih t']
   exact this hpr hpD
  subst eys;exact hd D H3 hD Qw hlD
def IX{ws:LS}{v:Int}(h0:0<=v)(h1:v<(ws.map V.str).length):∃ x∈ws,A_ (ws.map V.str) v=some (.str x):=by
 have hl:v.toNat<ws.length:=by rw[Ya]at h1;omega
 refine⟨ws[v.toNat],Jw hl,?_⟩;have e:((v.toNat:Nat):Int)=v:=by omega
 have q:A_ (ws.map V.str) ((v.toNat:Nat):Int)=some (.str ws[v.toNat]):=by
  refine EK ?_;rw[Yf,Yb (by omega)];rfl
 rw[e]at q;exact q
abbrev Dt:=W.Dat
def E5(d:LS):Dt:=.tuple (d.map W.Dat.str)
def kG{d e:LS}(h:E5 d=E5 e):d=e:=by
 unfold E5 at h;injection h with h;exact List.map_inj_right (λa b z=>by injection z) |>.mp h
def bQ{K:Fg}{H:Hp}{t:Addr}{d:LS}(h:H t=some (.tup (d.map V.str))):Rep K H (.ref t) (E5 d):=.tuple (AJ.of h) (FF d)
theorem dZ{K:Fg}{H:Hp}:∀ {ds:List (LS)}{vs:LV},Bv H ds vs->Am K H vs (ds.map E5)
 | _,_,.nil=>.nil
 | _,_,.cons ⟨t,e,h⟩ r=>by rw[e];exact .cons (bQ h) (dZ r)
def SV{rows:RS}(g:Ah rows):∀ x∈rows.map (·.1),A4 x=true:=λx hx=>by
 obtain⟨r,hr,e⟩:=Yg.mp hx;rw[<- e];exact g.word r hr
def Vo{rows:RS}(g:Ah rows){x y:Str}(hx:x∈rows.map (·.1))(h:Graph.Reach (Ao rows) x y):y∈rows.map (·.1):=
 Graph.closed_reach (S:=λy=>y∈rows.map (·.1)) (λz hz u hu=>eA g hz hu) h hx
def uC(n:Nat){x:Str}(h:A4 x=true):W.kqdOk n (.str x)=true:=by
 have q:=U6 (ws:=[x]) (λy hy=>by rw[Yi.mp hy];exact h);rw[W.kqdOk]at q;have q2:W.kqdOk 8 (.str x)=true:=by simpa using q
 rw[W.kqdOk]at q2;rw[W.kqdOk];exact q2
def aX(n:Nat){d:LS}(h:∀ x∈d,A4 x=true):W.kqdOk (n + 1) (E5 d)=true:=by
 unfold E5;rw[W.kqdOk,Bc];intro z hz;obtain⟨x,hx,rfl⟩:=Yg.mp hz;exact uC n (h x hx)
def kh(n:Nat){ds:List (LS)}(h:∀ d∈ds,∀ x∈d,A4 x=true):(ds.map E5).all (W.kqdOk (n + 1))=true:=by
 rw[Bc];intro z hz;obtain⟨d,hd,rfl⟩:=Yg.mp hz;exact aX n (h d hd)
def kE(ds:List (LS))(d:LS):((ds.map E5).any λe=>Bt e (E5 d))=decide (d∈ds):=by
 by_cases h:d∈ds
 ·rw[Jb h,Fx];exact⟨E5 d,Yg.mpr ⟨d,h,Y⟩,EM _⟩
 ·rw[Jc h,List.any_eq_false];intro z hz;obtain⟨e,he,rfl⟩:=Yg.mp hz;rw[Gm λq=>h (by rw[<- kG q];exact he)];exact Yq
def ai:Sp:=λvs H Q _=>∃(p l aa:Addr) (n m:Nat) (rows:RS) (AI:KL),vs=[.ref p,.ref l,.ref aa,.int n,.int m]/\(∃ o,H p=some o/\Bh o)/\Gi H l rows/\Ah rows/\H aa=some (.dK AI)/\BZ H rows rows AI/\1<=n/\n<=4/\m<=63 /\
 ∀(ld:Addr) (ds:List (LS)) (us:LV) (H':Hp),Drawn p H H'->H ld=none->H' ld=some (.lst us)->Bv H' ds us->Fj rows n ds->ds.length<=m->Q (.ref ld) H'
abbrev Wn(K:Fg):LV->Hp->VK->Prop:=λxs H Q=>∃ p ys,xs=[.ref p]/\(SqL K H p ys\/AJ K H p ys)/\Q (.int ys.length) H
structure rG(mg:Str->OU):Prop where
 len:mg "len"=none
 range:mg "range"=none
 tuple:mg "tuple"=none
abbrev UL:LS:=["pot","rows","above","places","most","words","base","deeds","k","deed","near","place","some"]
def gN:Ae UL ["pot","rows","above","places","most"] (AL NY):=by nofun
def VS:(["row"]:LS).Nodup:=by rfl'
def ZY:(["k","words","pot"]:LS).Nodup:=by rfl'
def Bv.drawn{p:Addr}{H H':Hp}{o:HO}{ds:List (LS)}{us:LV}(h:Bv H ds us)(k:∀ b xs,H b=some (.tup xs)->H' b=some (.tup xs)):Bv H' ds us:=Paired.mapP h λ_ _ ⟨t,e,x⟩=>⟨t,e,k _ _ x⟩
set_option maxHeartbeats 8000000 in
def nK(F:Def K mg "_law_deeds" NY ["pot","rows","above","places","most"] f fd)(DT:Def K mg "_law_take" EO ["pot","many"] fT fdT)(T:rG mg):
  ⋯ 2 f fd ["pot","rows","above","places","most"] ai:=by
 have GT:⋯ 1 fT fdT ["pot","many"] Fi:=Oq DT
 nomatch F.fn.ok gN
 ·obtain⟨p,l,aa,n,m,rows,AI,rfl,_⟩:=h;rfl
 ·obtain⟨p,l,aa,n,m,rows,AI,rfl,⟨o0,Df,Ee⟩,hR,g,Ce,hA,n1,n4,hm,q⟩:=h;have nd:=gN.nd;have hu:=Ei hr;have Ac:AV 1 _:=hr.mono (by decide);have gle:=g.le
  ac_nf
  refine'⟨_,pS (CB (i:=5) nd rfl (Or.inr rfl) ?e1)
   (pS ?e2
   (pS (sE 7 nd (B2 AA))
   (pS (CQ Bb rfl (Fm (by rfl) T.range (pC (AN DT GT Ac (pC (pv 0) (pC (Ag El (pv 4) AG) AA))) AA)) (gE 8 nd)
    (pS (sE 9 nd (B2 AA))
    (pS (sE 10 nd (AN DT GT Ac (pC (pv 0) (pC AG AA))))
    (pS (CQ Bb rfl (Fm (by rfl) T.range (pC (pv 3) AA)) (gE 11 nd)
     (pS (sE 12 nd (pv 5))
     (B6 (AY (Af OR (pv 10) AG (Ad _)) (AH (sE 12 nd (Gn hu (pv 2) (AX Al (pv 6) (pv 11) (λ_ _=>rfl)) (λ_ _=>rfl)))) AZ)
     (AH (Bi (CH Yw J1 J0 Hc (pv 9) (pC (AX Al (pv 12) (AN DT GT Ac (pC (pv 0) (pC (Aa B8 (by rfl) T.len Yy (pC (pv 12) AA)) AA))) (λ_ _=>rfl)) AA)))))))
    (AH (AY (Af (nD (TJ hr)) (DZ K7 (by rfl) T.tuple Lb (pC (pv 9) AA)) (pv 7) (by with_unfolding_all rfl))
     (AH (Bi (CH Yw J1 J0 Hc (pv 7) (pC (DZ K7 (by rfl) T.tuple Lb (pC (pv 9) AA)) AA)))) AZ))))))
   (AH (AW (pv 7)))))),?_⟩
  case e1=>exact(B5 ["row"] [] [] (λ_=>BU (osc:=AL NY) (on:=UL) (by rfl') rfl rfl rfl) (C5 (pv 1)) (λC s H fp=>BQ (i:=0) VS rfl (Or.inl rfl) (Or.inr rfl)) (λC s H fp=>CA) (λC s H fp=>AX (r:=CF K) CI (pv 0) AG (λ_ _=>rfl)))
  case e2=>exact(O7 (k:=6) ["k"] ["words","pot"] [5,0] nd rfl rfl (λ_=>BU (osc:=AL NY) (on:=UL) (by rfl') rfl rfl rfl) (Fm (by rfl) T.range (pC (pv 3) AA)) (λC s H fp=>BQ (i:=0) ZY rfl (Or.inl rfl) (Or.inr rfl)) (λC s H fp=>CA)
    (λC s H fp=>AX (r:=BB K) Al (pv 1) (AN DT GT Ac (pC (pv 2) (pC (Aa (r:=Wn K) B8 (by rfl) T.len Yy (pC (pv 1) AA)) AA))) (λ_ _=>rfl)))
  exists let b:=_;let c:=BH _ b _;let e:=_;let f:=_;let g:=CG (BH _ f _) e;let h:=AE _ g;let i:=AE (Cg _ _ h) c;let j:=AE _ i;let k:=AE _ j;let l:=AE (Cg _ _ k) a;let m:=AE _ l;let n:=AE _ m;AE _ n _ _ _
  obtain⟨T5,XU,we⟩:=id hR;refine⟨Z,l,Y,⟨_,SqL.of XU⟩,WA hR (by omega) (λt u x H' R ht hRx=>⟨Z,t,_,_,Z,Y,AJ.of ht,Y,hRx⟩) λlw H1 hlw s1 hw=>?_⟩;have DB:=s1 _ _ Df;have lwp:lw≠p:=Yj (D_ DB Ee hw);have lwH:H lw=none:=hlw;have wne:rows.map (·.1)≠[]:=by
   have:=g.ne;intro z;have z2:=congrArg List.length z;rw[Ya]at z2;simp at z2;rw[z2]at this;simp at this
  have wpos:0<(rows.map (·.1)).length:=Ik.mpr wne;have wl:(rows.map (·.1)).length<=24:=by rw[Ya];exact gle
  let Bp:Addr->Nat->LV->St->Hp->Prop:=λD i ys σ' H'=>Drawn p H1 H'/\H' D=some (.lst ys)/\∃(bs:LS) (o:OV),ys=bs.map V.str/\bs.length=i/\(∀ x∈bs,x∈rows.map (·.1))/\σ'=[o,some (.ref lw),some (.ref p)];refine⟨Z,n,Y,W,W,NH Fl (by rw[CJ];exact sL (by omega)) Bp
   (λD hD=>⟨(Drawn.refl ⟨o0,DB,Ee⟩).new hD,uS,[],none,Y,Y,(λx h=>nomatch h),Y⟩) (λD i ys σ' H' _ h0=>by obtain⟨_,_,bs,_,e,el,_⟩:=h0;exact⟨trivial,by rw[e,Ya];omega⟩) ?_ ?_⟩
  ·rintro D i v ys σ' H' hD hi ⟨d,hl,bs,o,rfl,rfl,hb,rfl⟩;obtain⟨hi,rfl⟩:=Dk hi;obtain⟨o1,hpp,hoo⟩:=d.pot;have Hs:=d.keep _ _ lwp hw;have pD:p≠D:=AF DB hD;refine⟨Z,Z,Z,lw,Z,.inl (SqL.of Hs),p,_,o1,Y,hpp,hoo,U,U,λv o2 BR Bf BF=>?_⟩;obtain⟨x,hxm,hat⟩:=IX BR Bf;have d2:Drawn p H' (upd H' p o2):=Drawn.upd BF;refine⟨lw,_,_,Z,Y,SqL.of (d2.keep _ _ lwp Hs),hat,d2.keep _ _ (Yj pD) hl,(d.trans d2).sub (o':=.lst []) (q:=D) (λb o hb e=>by rw[AD hb];exact e) hD pD,uS,bs++[x],_,by rw[Bw];rfl,by simp,λy hy=>?_,Y⟩
   rcases Yt.mp hy with z | z
   ·exact hb y z
   ·rw[Yi.mp z];exact hxm
  rintro lb ys σ' H2 hlb ⟨d2,QQ,bs,o,rfl,hbl,hb,rfl⟩;rw[CJ]at hbl;have hbl:bs.length=n:=by simpa using hbl
  have ZL:Drawn p H H2:=⟨λb o hb e=>d2.keep b o hb (s1 _ _ e),d2.pot⟩;have JH:=d2.keep _ _ lwp hw;have lbH:H lb=none:=s1.free hlb;have pb:p≠lb:=AF Df lbH;have wb:lw≠lb:=AF hw hlb;refine⟨A7 _,λld hld=>?_⟩;have d3:=ZL.new (o:=.lst []) hld;have J8:∀ b o,H2 b=some o->(upd H2 ld (.lst [])) b=some o:=Dh hld;have ldH:H ld=none:=by
   cases e:H ld with
   | none=>rfl
   | some u =>
    by_cases z:ld=p
    ·obtain⟨o1,h1,_⟩:=d2.pot;rw[z,h1]at hld;cases hld
    ·rw[ZL.keep _ _ z e]at hld;cases hld
  have pd:p≠ld:=AF Df ldH;have wd:lw≠ld:=AF JH hld;have bd:lb≠ld:=AF QQ hld;obtain⟨o3,Dz,Bz⟩:=d3.pot;refine⟨Z,Z,_,Z,Y,p,_,o3,Y,Dz,Bz,W,W,λv o4 BR Bf F9=>⟨v,Y,W,W,?_⟩⟩;have d4:Drawn p H (upd (upd H2 ld (.lst [])) p o4):=d3.trans (Drawn.upd F9);let Cr:NW:=λi σ H'=>∃(ds:List (LS)) (us:LV) (a b c d e:OV),σ=[some (.ref p),some (.ref l),some (.ref aa),some (.int n),some (.int m),some (.ref lw),some (.ref lb),some (.ref ld),a,b,c,d,e]/\Drawn p H H'/\H' lw=some (.lst ((rows.map (·.1)).map V.str))/\H' lb=some (.lst (bs.map V.str))/\H' ld=some (.lst us)/\Bv H' ds us/\(∀ d∈ds,Cv rows n d)/\ds.Nodup/\ds.length<=i;refine Cw Fl Cr
   ⟨[],[],none,none,none,none,none,Y,d4,by rw[AD lwp];exact J8 _ _ JH,by rw[AD (Yj pb)];exact J8 _ _ QQ,by rw[AD (Yj pd)];exact uS,.nil,(λd h=>nomatch h),Np,Yd _⟩ (λ_ _ _ _ _=>trivial) ?_ ?_
  ·rintro i v' σ H5 hi ⟨ds,us,a5,b5,c5,e5,f5,rfl,d5,KS,RI,Y_,Ud,Uk,YD,wW⟩;obtain⟨hi,rfl⟩:=Dk hi;obtain⟨o5,CC,F8⟩:=d5.pot;refine⟨A7 _,λlq hlq=>?_⟩;have d6:=(Drawn.refl (p:=p) ⟨o5,CC,F8⟩).new (o:=.lst []) hlq;obtain⟨o6,HG,Ed⟩:=d6.pot;refine⟨Z,p,3,o6,Y,HG,Ed,V,V,λnr o7 xZ xY BX=>?_⟩;have pq:p≠lq:=AF CC hlq;have d7:Drawn p H5 (upd (upd H5 lq (.lst [])) p o7):=d6.trans (Drawn.upd BX);let Gx:NW:=λj σ H'=>∃(xs:LS) (d e:OV),σ=[some (.ref p),some (.ref l),some (.ref aa),some (.int n),some (.int m),some (.ref lw),some (.ref lb),some (.ref ld),some (.int (0 + (i:Nat))),some (.ref lq),some (.int nr),d,e]/\Drawn p H5 H'/\H' lq=some (.lst (xs.map V.str))/\xs.length=j/\∀ x∈xs,x∈rows.map (·.1);refine⟨Z,n,Y,W,W,Cw Fl Gx
    ⟨[],_,Z,d7,by rw[AD (Yj pq)];exact uS,Y,(λx h=>nomatch h)⟩ (λ_ _ _ _ _=>trivial) ?_ ?_⟩
   ·rintro j v2 σ H8 hj ⟨xs,d8,e8,rfl,E1,OB,rfl,Q_⟩;obtain⟨hj,rfl⟩:=Dk hj;have hj:xs.length<n:=by omega
    obtain⟨o8,Dx,FR⟩:=E1.pot;have G6:=d5.trans E1;have N7:=E1.keep _ _ lwp KS;have MY:=E1.keep _ _ (Yj pb) RI;refine⟨Z,?_⟩;let FL:SW:=λσ' H'=>∃(as:Addr) (fs:LS),σ'=[some (.ref p),some (.ref l),some (.ref aa),some (.int n),some (.int m),some (.ref lw),some (.ref lb),some (.ref ld),some (.int (0 + (i:Nat))),some (.ref lq),some (.int nr),some (.int (0 + (xs.length:Nat))),some (.ref as)]/\H'=H8/\H8 as=some (.lst (fs.map V.str))/\fs≠[]/\fs.length<=24/\∀ x∈fs,x∈rows.map (·.1);refine⟨FL,?_,?_⟩
    ·refine⟨Z,_,Z,Y,Z,Ak (λh=>?_) (λh=>?_)⟩
     ·have hbx:bs[xs.length]?=some (bs[xs.length]'(by omega)):=Yb (by omega);generalize bs[xs.length]'(by omega)=x at hbx;have hxm:=hb x (Yh hbx);obtain⟨r,Aj,er⟩:=En hxm;obtain⟨t,fs,hv,ht,hfs,fl⟩:=hA.val' g.nd Aj;have xfs:x∈fs:=(hfs x).mpr (by rw[er];exact .refl x);have tp:t≠p:=Yj (D_ Df Ee ht);have aap:aa≠p:=λz=>by rw[z,Df]at Ce;obtain⟨_,_,q',_⟩:=Ee;rw[q']at Ce;cases Ce
      have hat:A_ (bs.map V.str) (0 + (xs.length:Nat):Int)=some (.str x):=by
       rw[Ep];refine EK ?_;rw[Yf,hbx];rfl
      have kn:∀ y∈fs,y∈rows.map (·.1):=λy hy=>Vo g hxm (by rw[<- er];exact(hfs y).mp hy);exact⟨Z,Z,Z,lb,_,_,Z,Y,SqL.of MY,hat,aa,Z,(by rw[<- hv,er];exact BL.k (k:=Sum.inr x) (G6.keep _ _ aap Ce)),t,fs,Y,Y,G6.keep _ _ tp ht,(λz=>by rw[z]at xfs;cases xfs),W,kn⟩
     ·exact⟨lw,Z,Y,N7,wne,wl,λx h=>h⟩
    ·rintro σ' H' ⟨as,fs,rfl,jy,has,Ul,fl,fk⟩;have e9:=jy.symm;subst e9;have fpos:0<fs.length:=Ik.mpr Ul;have ap:as≠p:=Yj (D_ Dx FR has);refine⟨Z,.inl ⟨Y,_,SqL.of OB⟩,Z,Z,Z,as,Z,.inl (SqL.of has),p,_,o8,Y,Dx,FR,U,U,λv o9 BR Bf Kb=>?_⟩;obtain⟨x,hxm,hat⟩:=IX BR Bf;have d9:Drawn p H8 (upd H8 p o9):=Drawn.upd Kb;have jO:=d9.keep _ _ (Yj pq) OB;refine⟨as,_,_,Z,Y,SqL.of (d9.keep _ _ ap has),hat,lq,_,Z,Y,jO,B7 (by rw[Ya];omega),xs++[x],_,Z,(E1.trans d9).sub (o':=.lst []) (q:=lq) (λb o hb e=>by rw[AD hb];exact e) hlq pq,by rw[uS,Bw];rfl,by simp,λy hy=>?_⟩
     rcases Yt.mp hy with z | z
     ·exact Q_ y z
     ·rw[Yi.mp z];exact fk x hxm
   ·rintro σ H8 ⟨xs,d8,e8,rfl,E1,OB,hxl,Q_⟩;rw[CJ]at hxl;have hxl:xs.length=n:=by simpa using hxl
    have ldp:ld≠p:=Yj pd;have RF:=E1.keep _ _ ldp Y_;have JO:Bv H8 ds us:=Ud.drawn (p:=p) (o:=.lst []) λb zs e=>Drawn.tup E1 CC F8 e;have okx:∀ y∈xs,A4 y=true:=λy hy=>SV g y (Q_ y hy);have okd:∀ d∈ds,∀ y∈d,A4 y=true:=λd hd y hy=>SV g y ((Uk d hd).known y hy);have G6:=d5.trans E1;have ldq:ld≠lq:=AF Y_ hlq;have lwq:lw≠lq:=AF KS hlq;have lbq:lb≠lq:=AF RI hlq;have DG:i<m + 1:=by omega
    refine⟨Z,lq,Z,.inl ⟨SqL.of OB,λt ht=>?_⟩⟩;have s9:AB H8 (upd H8 t (.tup (xs.map V.str))):=Dh ht;refine⟨Z,E5 xs,ds.map E5,bQ uS,.list (SqL.of (s9 _ _ RF)) (dZ (JO.mono s9)),aX 8 okx,kh 7 okd,Z,?_⟩;rw[kE];refine Ak (λh=>?_) (λh=>?_)
    ·have hn:xs∉ds:=by simpa using h
     refine⟨Z,.inl ⟨Y,_,SqL.of (s9 _ _ RF)⟩,Z,lq,Z,.inl ⟨SqL.of (s9 _ _ OB),λt2 Bg=>?_⟩⟩;have ED:=s9.trans (Dh (o:=.tup (xs.map V.str)) Bg);have QR:=ED _ _ RF;have hul:=JO.length;refine⟨ld,_,Z,Y,QR,B7 (by omega),ds++[xs],us++[.ref t2],_,_,_,_,Z,?_,?_,?_,uS,?_,?_,?_,?_⟩
     ·exact(G6.same ED).sub (o':=.lst []) (q:=ld) (λb o hb e=>by rw[AD hb];exact e) ldH pd
     ·rw[AD wd];exact ED _ _ (E1.keep _ _ lwp KS)
     ·rw[AD bd];exact ED _ _ (E1.keep _ _ (Yj pb) RI)
     ·have tk:∀ b zs,(upd (upd H8 t (.tup (xs.map V.str))) t2 (.tup (xs.map V.str))) b=some (.tup zs)->(upd (upd (upd H8 t (.tup (xs.map V.str))) t2 (.tup (xs.map V.str))) ld (.lst (us++[V.ref t2]))) b=some (.tup zs):=λb zs e=>by
       rw[AD (λz=>by rw[z,QR]at e;cases e)];exact e
      exact Gr ((JO.mono ED).drawn (p:=p) (o:=.lst []) tk) ⟨t2,Y,tk _ _ uS⟩
     ·intro d hd
      rcases Yt.mp hd with z | z
      ·exact Uk d z
      ·rw[Yi.mp z];exact⟨hxl,Q_⟩
     ·rw[List.nodup_append];exact⟨YD,by simp,λa ha b hb e=>hn (by rw[<- Yi.mp hb,<- e];exact ha)⟩
     ·rw[Yx];show ds.length + 1<=i + 1;omega
    ·exact⟨ds,us,_,_,_,_,Z,G6.same s9,s9 _ _ (E1.keep _ _ lwp KS),s9 _ _ (E1.keep _ _ (Yj pb) RI),s9 _ _ RF,JO.mono s9,Uk,YD,W⟩
  ·rintro σ H6 ⟨ds,us,a5,b5,c5,e5,f5,rfl,d6,xU,xc,jY,jf,jr,iX,XH⟩;rw[CJ]at XH;exact⟨Z,q ld ds us H6 d6 ldH jY jf ⟨jr,iX,W⟩ (by omega)⟩
def uq{H H':Hp}{rows:RS}{AI:KL}(g:Ah rows)(hA:BZ H rows rows AI)(s:AB H H'){x:Str}(hx:x∈rows.map (·.1)):∃(t:Addr) (fs:LS),BS AI (Sum.inr x)=some (.ref t)/\H' t=some (.lst (fs.map V.str))/\∀ y,Ec (V.str y) (fs.map V.str)=A5 rows x y:=by
 obtain⟨r,Aj,er⟩:=En hx;obtain⟨t,fs,hv,ht,hfs⟩:=hA.val g.nd Aj;refine⟨t,fs,by rw[<- er];exact hv,s _ _ ht,λy=>?_⟩;rw[Kt];exact Vy (by rw[er]at hfs;exact hfs) y
def cz:Sp:=λvs H Q _=>∃(aa a b:Addr) (rows:RS) (AI:KL) (xs ys:LS),vs=[.ref aa,.ref a,.ref b]/\Ah rows/\H aa=some (.dK AI)/\BZ H rows rows AI/\H a=some (.tup (xs.map V.str))/\H b=some (.tup (ys.map V.str))/\(∀ x∈xs,x∈rows.map (·.1))/\xs.length<=1000 /\
 ∀ H',AB H H'->Q (.bl (Cu rows xs ys)) H'
def Zl(rows:RS):V×V->V
 | (.str x,.str y)=>.bl (A5 rows x y)
 | _=>.non
def oq(rows:RS)(xs ys:LS):(((xs.map V.str).zip (ys.map V.str)).filter λ_=>true).map (Zl rows)=((xs.zip ys).map λp=>A5 rows p.1 p.2).map V.bl:=by
 rw[SA,R7,CV,CV];rfl
def uY:(["under","word","above"]:LS).Nodup:=by rfl'
structure WU(mg:Str->OU):Prop where
 all:mg "all"=none
 zip:mg "zip"=none
 isi:mg "isinstance"=none
 int:mg "int"=none
 bool:mg "bool"=none
abbrev KP:LS:=["above","one","other"]
def rY:Ae KP KP (AL PV):=by nofun
def oS(F:Def K mg "_law_within" PV KP f fd)(T:WU mg):⋯ 1 f fd KP cz:=by
 nomatch F.fn.ok rY
 ·obtain⟨aa,a,b,rows,AI,xs,ys,rfl,_⟩:=h;rfl
 ·obtain⟨aa,a,b,rows,AI,xs,ys,rfl,g,Ce,hA,ha,hb,hx,hl,q⟩:=h;have hu:=Ei hr
  ac_nf
  refine'⟨_,AH (AW (Aa (NF rfl) (by rfl) T.all Nj (pC ?ea AA))),?_⟩
  case ea=>exact(B5 ["under","word"] ["above"] [0] (λ_=>BU (osc:=AL PV) (on:=KP) (by rfl') rfl rfl rfl) (Zh (by rfl) T.zip (pC (pv 1) (pC (pv 2) AA)))
    (λC s H fp=>Rn (K:=K) (i:=0) (j:=1) rfl rfl uY rfl rfl (Or.inl rfl) (Or.inl rfl) (Or.inr rfl) (Or.inr rfl)) (λC s H fp=>CA)
    (λC s H fp=>EL (r:=N1 K false) O0 (pv 1) (Gn hu (pv 2) (pv 0) (λ_ _=>rfl)) (by with_unfolding_all rfl)))
  refine⟨Z,Z,a,b,_,Z,AJ.of ha,AJ.of hb,cP (sL (by rw[Ng,Ya];omega)) (λ_=>true) (Zl rows) (λH' s'=>⟨AJ.of (s' _ _ ha),AJ.of (s' _ _ hb)⟩) ?_ ?_ ?_⟩
  ·intro x H' R s' _ hR;exact hR H' (AB.refl _)
  ·intro x H' R s' hxm _ hR;rw[R7]at hxm;obtain⟨z,hz,rfl⟩:=Yg.mp hxm;obtain⟨t,fs,hv,ht,hin⟩:=uq g hA s' (hx _ (Ni hz).1);refine⟨Z,Z,Z,aa,Z,(by rw[<- hv];exact BL.k (k:=Sum.inr z.1) (s' _ _ Ce)),t,Z,.inl (SqL.of ht),Y,NK fs,?_⟩;have e1:(if false=true then !Ec (Pg z).2 (fs.map V.str)else Ec (Pg z).2 (fs.map V.str))=A5 rows z.1 z.2:=by rw[if_neg (by decide)];exact hin z.2
   rw[e1];exact hR H' (AB.refl _)
  ·intro D H' hD s' JK;refine⟨D,Z,SqL.of (by rw[JK,oq]),?_⟩;have q':=q H' s';unfold Cu at q';show Q (.bl (((xs.zip ys).map λp=>A5 rows p.1 p.2).all id)) _;rw[List.all_map];exact q'
def VR:Sp:=λvs H Q _=>∃ i:Int,vs=[.int i]/\Q (.bl true) H
def rg:Ae ["found"] ["found"] (AL PD):=by nofun
def kz(F:Def K mg "_law_whole" PD ["found"] f fd)(T:WU mg):⋯ 1 f fd ["found"] VR:=by
 nomatch F.fn.ok rg
 ·obtain⟨i,rfl,_⟩:=h;rfl
 ·obtain⟨i,rfl,q⟩:=h
  ac_nf
  refine'⟨_,AH (AW (HU ?ea (JZ (Ze ?eb)))),?_⟩
  case ea=>exact Aa Vc (by rfl) T.isi Yu (pC (pv 0) (pC (R9 (v:=.ty "int") (by rfl) T.int PyProof.Rows.boot_int rfl) AA))
  case eb=>exact Aa Vc (by rfl) T.isi Yu (pC (pv 0) (pC (R9 (v:=.ty "bool") (by rfl) T.bool PyProof.Rows.boot_bool rfl) AA))
  refine⟨Z,_,_,_,Z,.int i,Y,Z,BM ⟨Z,_,_,_,Z,.int i,Y,Z,q⟩⟩
def d_{rows:RS}{x y:Str}:A5 rows x y=true↔Graph.Reach (Ao rows) x y:=by
 unfold A5;exact @decide_eq_true_iff _ (Classical.propDecidable _)
def pF{rows:RS}{xs ys:LS}:Cu rows xs ys=true↔∀(i:Nat) (x y:Str),xs[i]?=some x->ys[i]?=some y->Graph.Reach (Ao rows) x y:=by
 unfold Cu;rw[Bc];constructor
 ·intro h i x y hx hy;have hz:(xs.zip ys)[i]?=some (x,y):=by rw[W2];exact⟨hx,hy⟩
  exact d_.mp (h _ (Yh hz))
 ·intro h p hp;obtain⟨i,hi⟩:=Ip hp;rw[W2]at hi;exact d_.mpr (h i _ _ hi.1 hi.2)
def Og{ds:List (LS)}{j:Nat}(h:j<ds.length):ds[j]?=some (ds.getD j []):=by
 rw[Yk,Yb h];rfl
def vG{ms:LN}{i:Nat}{v:V}(h:(ms.map Az)[i]?=some v):∃ x,ms[i]?=some x/\v=.int (x:Nat):=by
 obtain⟨x,h1,h2⟩:=NL h;exact⟨x,h1,h2.symm⟩
def vR(rows:RS)(ds:List (LS))(xs:LS):(A0 rows ds xs).Nodup:=List.nodup_range.filter _
def SG(rows:RS)(ds:List (LS))(xs:LS):(A0 rows ds xs).length<=ds.length:=by
 unfold A0;refine A6 (Jv _ _) ?_;rw[Hf];exact Yd _
def WX(rows:RS)(ds:List (LS))(xs:LS):V->Bool
 | .int i=>Cu rows xs (ds.getD i.toNat [])
 | _=>false
def vO(rows:RS)(ds:List (LS))(xs:LS):((Ck 0 ds.length).filter (WX rows ds xs)).map (λv=>v)=(A0 rows ds xs).map Az:=by
 rw[List.map_id',V_,Po];rfl
def SF{H H':Hp}{ds:List (LS)}{us:LV}(hD:Bv H ds us)(s:AB H H'){k:Nat}(hk:k<ds.length):∃ t,A_ us ((k:Nat):Int)=some (.ref t)/\H' t=some (.tup ((ds.getD k []).map V.str)):=by
 have hul:=hD.length;have FU:k<us.length:=by omega
 obtain⟨dd,hdd,t,e,ht⟩:=C6 hD (Yb FU);refine⟨t,EK ((Yb FU).trans (congrArg some e)),?_⟩;have e2:ds.getD k []=dd:=by rw[Yk,hdd];rfl
 rw[e2];exact s _ _ ht
def vJ:(["k","above","call","deeds"]:LS).Nodup:=by rfl'
structure eW(mg:Str->OU):Prop where
 len:mg "len"=none
 range:mg "range"=none
 any:mg "any"=none
def Aw{H:Hp}{l:Addr}{o:HO}(hl:H l=none):AB H (upd H l o):=λb o' e=>by rw[AD (AF e hl)];exact e
def IL{rows:RS}{x y:Str}:A5 rows x y=true↔Graph.Reach (Ao rows) x y:=by
 unfold A5;exact @decide_eq_true_iff _ (Classical.propDecidable _)
def E7(rows:RS)(x:Str)(ls:LS):Prop:=ls.Perm (DV rows x)/\∀(k:Nat) (a b:Str),ls[k]?=some a->b∈ls.take k->¬ Graph.Reach (Ao rows) a b
def SU{rows:RS}{x y:Str}(h:y∈DV rows x):y∈rows.map (·.1):=by
 unfold DV at h;exact(Gs.mp h).1
def bc{rows:RS}(g:Ah rows)(x:Str):(DV rows x).Nodup:=by
 unfold DV;exact g.nd.sublist List.filter_sublist
def Vf{rows:RS}(g:Ah rows)(x:Str):(DV rows x).length<=24:=by
 have:=Jv (λy=>A5 rows x y) (rows.map (·.1));rw[Ya]at this;have:=g.le;unfold DV;omega
def Oy{l:LS}(h:∀ z∈l,PyData.strOk z=true):W.kqdOk 9 (.list (l.map W.Dat.str))=true:=by
 show(l.map W.Dat.str).all (W.kqdOk 8)=true;rw[Bc];intro d hd;obtain⟨x,hx,rfl⟩:=Yg.mp hd;exact h x hx
def bg{a b:LS}(h:a.map W.Dat.str=b.map W.Dat.str):a=b:=by
 induction a generalizing b with
 | nil =>
  cases b with
  | nil=>rfl
  | cons y b=>cases h
 | cons x a ih =>
  cases b with
  | nil=>cases h
  | cons y b =>
   rw[Ym,Ym]at h;injection h with h1 h2;injection h1 with h1;rw[h1,ih h2]
def bZ(xs:LV)(k:Nat):DM xs none (some (k:Int))=xs.take k:=by
 unfold DM;rw[HT.sIx_none,HT.sIx_nat,List.drop_zero,Nat.sub_zero]
 rcases Nat.le_total k xs.length with h | h
 ·rw[Nat.min_eq_left h]
 ·rw[Nat.min_eq_right h,LZ (Yd _),LZ h]
def mD{ys:LS}{i:Nat}{y:Str}(nd:ys.Nodup)(hi:ys[i]?=some y):y∉ys.take i:=λh=>by
 obtain⟨j,hj,e⟩:=Nh.mp h;rw[Yz]at hj;rw[List.getElem_take]at e;obtain⟨DG,ei⟩:=Yn.mp hi;have:=(J3.mp nd);have:=List.pairwise_iff_getElem.mp this j i (by omega) DG (by omega);exact this (e.trans ei.symm)
def LC(rows:RS)(a b:Str):Bool:=A5 rows a b&&!decide (a=b)
def Ff(rows:RS)(ls:LS)(k:Nat):Bool:=((ls.take k).map λb=>LC rows (ls.getD k "") b).any id
def eY(rows:RS)(a:Str):V->V
 | .str b=>.bl (LC rows a b)
 | _=>.non
def Uz(rows:RS)(ls:LS):V->V
 | .int k=>.bl (Ff rows ls k.toNat)
 | _=>.non
theorem Z8(rows:RS)(a:Str):∀ l:LS,((l.map V.str).filter λ_=>true).map (eY rows a)=(l.map λb=>LC rows a b).map V.bl
 | []=>rfl
 | u :: r=>by
  have:=Z8 rows a r;rw[Fq.mpr (λ_ _=>rfl)]at this ⊢;rw[Ym,Ym,this];rfl
def lU(rows:RS)(ls:LS)(n:Nat):((Ck 0 n).filter λ_=>true).map (Uz rows ls)=((List.range n).map (Ff rows ls)).map V.bl:=by
 rw[Fq.mpr (λ_ _=>rfl),V_,CV,CV];refine Nr λk _=>?_;show V.bl (Ff rows ls ((k:Nat):Int).toNat)=_;rw[Bk];rfl
def nq{rows:RS}(g:Ah rows){x:Str}{ls:LS}(p:ls.Perm (DV rows x)):(!((List.range ls.length).map (Ff rows ls)).any id)=true↔E7 rows x ls:=by
 have nd:ls.Nodup:=p.nodup_iff.mpr (bc g x);rw[Bool.not_eq_true',List.any_eq_false];constructor
 ·refine λh=>⟨p,λk a b hk hb re=>?_⟩;have Ab:=(Yn.mp hk).1;refine h _ (Yg.mpr ⟨k,Cz.mpr Ab,Y⟩) ?_;show Ff rows ls k=true;unfold Ff;rw[Fx];refine⟨true,Yg.mpr ⟨b,hb,?_⟩,Y⟩;rw[Yk,hk];show LC rows a b=true;unfold LC;rw[IL.mpr re,Jc (λe:a=b=>mD nd hk (by rw[e];exact hb))];rfl
 ·rintro⟨_,h⟩ b hb e;obtain⟨k,hk,rfl⟩:=Yg.mp hb;have Ab:=Cz.mp hk;have e:Ff rows ls k=true:=e;unfold Ff at e;rw[Fx]at e;obtain⟨c,hc,e⟩:=e;obtain⟨y,hy,rfl⟩:=Yg.mp hc;have FU:ls[k]?=some ls[k]:=Yb Ab;rw[Yk,FU]at e;have e:LC rows ls[k] y=true:=e;unfold LC at e;rw[Dl]at e;exact h k _ y FU hy (IL.mp e.1)
def gq(C:Addr):Sp:=λvs H Q _=>∃(p l:Addr) (rows:RS) (ls:LS) (k:Nat),vs=[.ref p,.ref l,.int k]/\B3 C H p rows/\Ah rows/\H l=some (.lst (ls.map V.str))/\(∀ z∈ls,z∈rows.map (·.1))/\k<ls.length/\ls.length<64/\∀ H',AB H H'->Q (.bl (Ff rows ls k)) H'
def bU(C:Addr):Sp:=λvs H Q _=>∃(p l:Addr) (rows:RS) (x:Str) (ls:LS),vs=[.ref p,.str x,.ref l]/\B3 C H p rows/\Ah rows/\x∈rows.map (·.1)/\H l=some (.lst (ls.map V.str))/\(∀ z∈ls,PyData.strOk z=true)/\ls.length<64/\∀ v H',AB H H'->(v=true↔E7 rows x ls)->Q (.bl v) H'
abbrev KR:LS:=["kinds","line","spot"]
abbrev KQ:LS:=["kinds","word","line"]
def rA:Ae KR KR (AL PX):=by nofun
def rX:Ae KQ KQ (AL O3):=by nofun
def vH:(["ahead","kinds","line","spot"]:LS).Nodup:=by rfl'
def uW:(["spot","kinds","line"]:LS).Nodup:=by rfl'
def tf(F:Def K mg "beneath_one_ahead" PX KR f fd)(any:mg "any"=none)(TC:DJ K C)(MB:HP K C "beneath" "Kinds.beneath" S6 ["self","one","other"] fB fdB)(GB:⋯ 4 fB fdB ["self","one","other"] (cw C)):⋯ 5 f fd KR (gq C):=by
 nomatch F.fn.ok rA
 ·obtain⟨p,l,rows,ls,k,rfl,_⟩:=h;rfl
 ·obtain⟨p,l,rows,ls,k,rfl,kd,g,hl,kn,hk,D8,q⟩:=h
  ac_nf
  refine'⟨_,AH (AW (Aa (r:=IG K λbs=>bs.any id) (SD rfl) (by rfl) any Tg (pC ?e1 AA))),?_⟩
  case e1=>exact(B5 ["ahead"] ["kinds","line","spot"] [0,1,2] (λ_=>BU (osc:=AL PX) (on:=KR) (by rfl') rfl rfl rfl) (C5 (IV (r:=WY K) VM (pv 1) IS (IT (pv 2)))) (λC s H fp=>BQ (i:=0) vH rfl (Or.inl rfl) (Or.inr rfl)) (λC s H fp=>CA)
    (λC s H fp=>IQ (pv 1) TC.cl MB.me GB hr MB.b .nil DX (pC (AX (r:=BB K) Al (pv 2) (pv 3) (λ_ _=>rfl)) (pC (pv 0) AA))))
  have hy:ls[k]?=some ls[k]:=Yb hk;have eg:ls.getD k ""=ls[k]:=by rw[Yk,hy];rfl
  generalize ls[k]=y at hy eg;refine⟨Z,Z,Z,l,Z,SqL.of hl,λl1 Cc=>?_⟩;dsimp only[R5]at *;rw[show DM (ls.map V.str) none (some (k:Int))=(ls.take k).map V.str from by rw[bZ,Iq]];have s1:AB H (upd H l1 (.lst ((ls.take k).map V.str))):=Aw Cc;have BG:(upd H l1 (.lst ((ls.take k).map V.str))) l1=some (.lst ((ls.take k).map V.str)):=uS;generalize upd H l1 (.lst ((ls.take k).map V.str))=H1 at s1 BG;refine⟨l1,Y,⟨_,SqL.of BG⟩,Jp (EB (xs:=(ls.take k).map V.str)) (sL (by rw[Ya,Yz];omega)) (λ_=>true) (eY rows y) (λH' s'=>s'.seq (SqL.of BG)) ?_ ?_ ?_⟩
  ·intro v H' R s' _ An;exact An H' (AB.refl _)
  ·intro v H' R s' hv _ An;obtain⟨z,hz,rfl⟩:=Yg.mp hv;have Dw:=s1.trans s';have YU:=kd.mono Dw;obtain⟨dx,d,a,o,oa,kvs,AI,h1,_⟩:=YU.ex;refine⟨Z,p,dx,Z,h1,pL _ _,Z,Z,l,_,_,Z,Y,SqL.of (Dw _ _ hl),EK (by rw[Yf,hy];rfl),Z,p,rows,y,z,Y,YU,g,kn y (Yh hy),kn z (J2 hz),?_⟩;exact An H' (AB.refl _)
  ·intro D3 H2 Ue s2 Cb;rw[Z8]at Cb;refine⟨D3,Z,SqL.of Cb,?_⟩;have:=q H2 (s1.trans s2);unfold Ff at this;rw[eg]at this;exact this
def oN(F:Def K mg "is_line" O3 KQ f fd)(srt:mg "sorted"=none)(any:mg "any"=none)(range:mg "range"=none)(len:mg "len"=none)(TC:DJ K C)(MA:HP K C "above" "Kinds.above" PM ["self","word"] fA fdA)(GA:⋯ 3 fA fdA ["self","word"] (cu C))
  (DO:Def K mg "beneath_one_ahead" PX KR fO fdO) (GO:⋯ 5 fO fdO KR (gq C)):⋯ 6 f fd KQ (bU C):=by
 nomatch F.fn.ok rX
 ·obtain⟨p,l,rows,x,ls,rfl,_⟩:=h;rfl
 ·obtain⟨p,l,rows,x,ls,rfl,kd,g,hx,hl,lok,D8,q⟩:=h;have hu:=hr.units;have HF:AV 3 _:=hr.mono (by decide);obtain⟨dx,d,a,o,oa,kvs,AI,h1,_⟩:=kd.ex
  ac_nf
  refine'⟨_,(pS (AY (Af (Kq hu) (Aa Se (by rfl) srt Nl (pC (pv 2) AA)) (Aa Se (by rfl) srt Nl (pC (IQ (pv 0) TC.cl MA.me GA HF MA.b .nil DX (pC (pv 1) AA)) AA)) (Ad _)) (AH (AW B1)) AZ)
   (AH (AW (Ze (Aa (r:=IG K λbs=>bs.any id) (SD rfl) (by rfl) any Tg (pC ?e1 AA)))))),?_⟩
  case e1=>exact(B5 ["spot"] ["kinds","line"] [0,2] (λ_=>BU (osc:=AL O3) (on:=KQ) (by rfl') rfl rfl rfl) (Fm (by rfl) range (pC (Aa B8 (by rfl) len Yy (pC (pv 2) AA)) AA)) (λC s H fp=>BQ (i:=0) uW rfl (Or.inl rfl) (Or.inr rfl)) (λC s H fp=>CA) (λC s H fp=>AN DO GO hr (pC (pv 1) (pC (pv 2) (pC (pv 0) AA)))))
  exists AE _ a _ _ _
  refine⟨Z,l,ls,Y,SqL.of hl,D8,λs1 l1 p1 o1 Cc=>?_⟩;have Hm:AB H (upd H l1 (.lst (s1.map V.str))):=Aw Cc;have BG:(upd H l1 (.lst (s1.map V.str))) l1=some (.lst (s1.map V.str)):=uS;generalize upd H l1 (.lst (s1.map V.str))=H1 at Hm BG;have hle:=Vf g x;refine⟨Z,p,dx,Z,Hm _ _ h1,kZ _ _,Z,p,rows,x,Y,kd.mono Hm,g,hx,λl2 DC=>⟨l2,Z,SqL.of uS,W,λs2 l3 p3 o3 Cb=>?_⟩⟩;have Xz:AB H1 (upd H1 l2 (.lst ((DV rows x).map V.str))):=Aw DC;generalize upd H1 l2 (.lst ((DV rows x).map V.str))=H2 at Xz Cb;have MN:AB H2 (upd H2 l3 (.lst (s2.map V.str))):=Aw Cb;have GJ:(upd H2 l3 (.lst (s2.map V.str))) l3=some (.lst (s2.map V.str)):=uS;generalize upd H2 l3 (.lst (s2.map V.str))=H3 at MN GJ;have QB:=Xz.trans MN;have A9:=Hm.trans QB;have ok1:∀ z∈s1,PyData.strOk z=true:=λz hz=>lok z (p1.mem_iff.mp hz);have UJ:∀ z∈s2,PyData.strOk z=true:=λz hz=>by
   obtain⟨r,Aj,e⟩:=Yg.mp (SU (p3.mem_iff.mp hz));rw[<- e];exact Oo (g.word r Aj)
  refine⟨.list (s1.map W.Dat.str),.list (s2.map W.Dat.str),.list (SqL.of (QB _ _ BG)) (FF _),.list (SqL.of GJ) (FF _),Oy ok1,Oy UJ,Z,?_⟩;by_cases hp:ls.Perm (DV rows x)
  ·have EG:s1=s2:=eB o1 o3 (p1.trans (hp.trans p3.symm));rw[EG,EM];have kn:∀ z∈ls,z∈rows.map (·.1):=λz hz=>SU (hp.mem_iff.mp hz);refine Av ⟨Z,l,Z,.inl (SqL.of (A9 _ _ hl)),Z,W,U,Jp Fl (by rw[CJ,Ya];exact sL (by omega)) (λ_=>true) (Uz rows ls) (λ_ _=>trivial) ?_ ?_ ?_⟩
   ·intro v H' R s' _ An;exact An H' (AB.refl _)
   ·intro v H' R s' hv _ An;obtain⟨i,hi⟩:=Ip hv;obtain⟨Cd,rfl⟩:=Dk hi;rw[Ya]at Cd;have Dw:=A9.trans s';refine⟨Z,Z,Z,p,l,rows,ls,i,by rw[Ep];rfl,kd.mono Dw,g,Dw _ _ hl,kn,W,D8,λBq Br=>?_⟩;have:=An Bq Br;have e:Uz rows ls (V.int (0 + (i:Int)))=.bl (Ff rows ls i):=by
     rw[Ep];show V.bl (Ff rows ls ((i:Nat):Int).toNat)=_;rw[Bk]
    rw[e]at this;exact this
   ·intro D3 H4 Ue s4 FT;rw[Ya,Bk,lU]at FT;refine⟨D3,Z,SqL.of FT,Z,?_⟩;exact q _ H4 (A9.trans s4) (nq g hp)
  ·have EG:s1≠s2:=λe=>hp ((p1.symm.trans (e ▸ Ij _)).trans p3);rw[show(!Bt (.list (s1.map W.Dat.str)) (.list (s2.map W.Dat.str)))=true from by
    rw[Gm (λz=>by injection z with z;exact EG (bg z))];rfl]
   exact BM (q false H3 A9 ⟨(λz=>by cases z),λz=>absurd z.1 hp⟩)
def NP{p:Addr}{H H':Hp}{o:HO}{all rows:RS}{AI:KL}(h:BZ H all rows AI)(hp:H p=some o)(ho:Bh o)(d:Drawn p H H'):BZ H' all rows AI :=
 Paired.mapP h λ_ _ z=>⟨z.1,let⟨t,fs,e,x,y⟩:=z.2;⟨t,fs,e,d.keep _ _ (Yj (D_ hp ho x)) x,y⟩⟩
def Z_{rows:RS}(g:Ah rows){x:Str}(hx:x∈rows.map (·.1)){fs:LS}(hf:∀ y,y∈fs↔Graph.Reach (Ao rows) x y)(nd:fs.Nodup):fs.Perm (DV rows x):=by
 refine(List.perm_ext_iff_of_nodup nd (bc g x)).mpr λy=>?_;rw[hf];unfold DV;rw[Gs];exact⟨λr=>⟨Vo g hx r,IL.mpr r⟩,λh=>IL.mp h.2⟩
def Y4(rows:RS)(a:Str):V->V
 | .str b=>.bl (A5 rows a b)
 | _=>.non
theorem ZV(rows:RS)(a:Str):∀ l:LS,((l.map V.str).filter λ_=>true).map (Y4 rows a)=(l.map λb=>A5 rows a b).map V.bl
 | []=>rfl
 | u :: r=>by
  have:=ZV rows a r;rw[Fq.mpr (λ_ _=>rfl)]at this ⊢;rw[Ym,Ym,this];rfl
def U9:Sp:=λvs H Q _=>∃(p a:Addr) (rows:RS) (AI:KL) (x:Str),vs=[.ref p,.ref a,.str x]/\(∃ o,H p=some o/\Bh o)/\Ah rows/\H a=some (.dK AI)/\BZ H rows rows AI/\x∈rows.map (·.1)/\∀ l (ls:LS) H',Drawn p H H'->H l=none->H' l=some (.lst (ls.map V.str))->(∀ z∈ls,z∈rows.map (·.1))->1<=ls.length->ls.length<=24->E7 rows x ls->Q (.ref l) H'
def FZ(rows:RS)(left:LS)(x:Str):Bool:=!((left.map λy=>!decide (y=x)&&A5 rows y x).any id)
def eu(rows:RS)(left:LS):V->Bool
 | .str x=>FZ rows left x
 | _=>false
def T9(rows:RS)(x:Str):V->V
 | .str y=>.bl (!decide (y=x)&&A5 rows y x)
 | _=>.non
theorem Z2(rows:RS)(x:Str):∀ l:LS,((l.map V.str).filter λ_=>true).map (T9 rows x)=(l.map λy=>!decide (y=x)&&A5 rows y x).map V.bl
 | []=>rfl
 | u :: r=>by
  have:=Z2 rows x r;rw[Fq.mpr (λ_ _=>rfl)]at this ⊢;rw[Ym,Ym,this];rfl
theorem aV(rows:RS)(left:LS):∀ l:LS,(l.map V.str).filter (eu rows left)=(l.filter (FZ rows left)).map V.str
 | []=>rfl
 | z :: r=>by
  rw[Ym,LX,LX,aV rows left r];show(if FZ rows left z=true then _ else _)=_;split <;> rfl
def ou{rows:RS}{rk:Str->Nat}(hrk:∀ r∈rows,∀ u∈r.2,rk u<rk r.1)(nd:(rows.map (·.1)).Nodup)(kn:∀ r∈rows,∀ u∈r.2,u∈rows.map (·.1)){x y:Str}(hx:x∈rows.map (·.1))(r:Graph.Reach (Ao rows) x y):x=y\/rk y<rk x:=by
 induction r with
 | refl=>exact .inl rfl
 | step h t ih =>
  rename_i a b c
  obtain⟨q,hq,e⟩:=En hx;have hu:b∈q.2:=by rw[<- e,NB nd hq]at h;exact h
  have lt:rk b<rk a:=by rw[<- e];exact hrk q hq b hu
  rcases ih (kn q hq b hu)with z | z
  ·rw[<- z];exact .inr lt
  ·exact .inr (by omega)
theorem ZX{α:Type}(f:α->Nat):∀ l:List α,l≠[]->∃ x∈l,∀ y∈l,f y<=f x
 | [],h=>absurd rfl h
 | [a],_=>⟨a,by simp,λy hy=>by rw[Yi.mp hy];exact Yd _⟩
 | a :: b :: r,_=>by
  obtain⟨x,hx,hm⟩:=ZX f (b :: r) (by simp);by_cases h:f a<=f x
  ·refine⟨x,FG _ hx,λy hy=>?_⟩
   rcases Yr.mp hy with e | e
   ·rw[e];exact h
   ·exact hm y e
  ·refine⟨a,by simp,λy hy=>?_⟩
   rcases Yr.mp hy with e | e
   ·rw[e];exact Yd _
   ·have:=hm y e;omega
def tU{rows:RS}(g:Ah rows){left:LS}(hl:∀ z∈left,z∈rows.map (·.1))(ne:left≠[]):left.filter (FZ rows left)≠[]:=by
 obtain⟨rk,hrk⟩:=g.rank;obtain⟨x,hx,hm⟩:=ZX rk left ne;intro z;have:x∈left.filter (FZ rows left):=by
  refine Gs.mpr ⟨hx,?_⟩;unfold FZ;rw[Bool.not_eq_true',List.any_eq_false];intro b hb e;obtain⟨y,hy,rfl⟩:=Yg.mp hb;have e:(!decide (y=x)&&A5 rows y x)=true:=e;rw[Dl]at e;have ne:y≠x:=by simpa using e.1
  rcases ou hrk g.nd g.known (hl y hy) (IL.mp e.2)with z | z
  ·exact ne z
  ·have:=hm y hy;omega
 rw[z]at this;cases this
structure HN(rows:RS)(fs line left:LS):Prop where
 perm:(line++left).Perm fs
 ok:∀(k:Nat) (a b:Str),line[k]?=some a->b∈line.take k->¬ Graph.Reach (Ao rows) a b
 ahead:∀ b∈line,∀ z∈left,¬ Graph.Reach (Ao rows) z b
def HN.start{rows:RS}{fs:LS}:HN rows fs [] fs:=⟨Ij _,λk a b h=>(by cases k <;> cases h),λb h=>nomatch h⟩
def HN.fin{rows:RS}{fs line:LS}{x:Str}(h:HN rows fs line [])(p:fs.Perm (DV rows x)):E7 rows x line:=⟨by have:=h.perm.trans p;rwa [Fu]at this,h.ok⟩
def HN.step{rows:RS}{fs line left:LS}{z:Str}(h:HN rows fs line left)(nd:fs.Nodup)(hz:z∈left)(low:FZ rows left z=true):HN rows fs (line++[z]) (left.erase z):=by
 have nl:left.Nodup:=((h.perm.nodup_iff).mpr nd).sublist (List.sublist_append_right _ _);have lw:∀ y∈left,y≠z->¬ Graph.Reach (Ao rows) y z:=λy hy B9 r=>by
  unfold FZ at low;have:((left.map λy=>!decide (y=z)&&A5 rows y z).any id)=true:=by
   rw[List.any_map,Fx];refine⟨y,hy,?_⟩;show(!decide (y=z)&&A5 rows y z)=true;rw[Jc B9,IL.mpr r];rfl
  rw[this]at low;cases low
 refine⟨?_,λk a b ha hb=>?_,λb hb y hy=>?_⟩
 ·rw[La];refine List.Perm.trans (List.Perm.append_left _ ?_) h.perm;exact(List.perm_cons_erase hz).symm
 ·rcases Nat.lt_or_ge k line.length with hk | hk
  ·rw[LL hk]at ha;rw[List.take_append_of_le_length (Jx hk)]at hb;exact h.ok k a b ha hb
  ·have hl:=(Yn.mp ha).1;rw[Yx]at hl;have hl:k<line.length + 1:=hl;have ek:k=line.length:=by omega
   subst ek;rw[Ih (Yd _),Nat.sub_self]at ha;injection ha with ha;rw[List.take_left]at hb;rw[<- ha];exact h.ahead b hb z hz
 ·have hyl:=List.mem_of_mem_erase hy
  rcases Yt.mp hb with c | c
  ·exact h.ahead b c y hyl
  ·rw[Yi.mp c];exact lw y hyl λe=>(List.Nodup.mem_erase_iff nl).mp hy |>.1 e
abbrev YH:LS:=["pot","above","word","left","line","low"]
def fj:Ae YH ["pot","above","word"] (AL Ib):=by nofun
def rZ:Scope:=match B4 Ib with
 | [_,_,.While _ (.Assign _ (.ListComp _ _ sc _) _ :: _) _ _,_]=>sc
 | _=>AL Ib
def uU:(["one","above","left"]:LS).Nodup:=by rfl'
def uX:(["two","one","above"]:LS).Nodup:=by rfl'
def kq(F:Def K mg "_law_line" Ib ["pot","above","word"] f fd)(list:mg "list"=none)(any:mg "any"=none)(len:mg "len"=none)(DT:Def K mg "_law_take" EO ["pot","many"] fT fdT)(GT:⋯ 1 fT fdT ["pot","many"] Fi):⋯ 2 f fd ["pot","above","word"] U9:=by
 nomatch F.fn.ok fj
 ·obtain⟨p,a,rows,AI,x,rfl,_⟩:=h;rfl
 ·obtain⟨p,a,rows,AI,x,rfl,⟨o,hp,ho⟩,g,ha,hA,hx,q⟩:=h;have nd:=fj.nd;have hu:=hr.units;have A1:=Ei hr
  ac_nf
  refine'⟨_,(pS (CB (i:=3) nd rfl (Or.inr rfl) (DZ Ia (by rfl) list FI (pC (Gn A1 (pv 1) (pv 2) (λ_ _=>rfl)) AA)))
   (pS (sE 4 nd (B2 AA))
   (pS (K0 Bb (Af (Kq hu) (pv 3) (B2 AA) (Ad _))
    (pS ?e1
   (pS (Bi (CH Yw J1 J0 Hc (pv 4) (pC (AX (r:=BB K) Al (pv 5) (AN DT GT hr (pC (pv 0) (pC (Aa B8 (by rfl) len Yy (pC (pv 5) AA)) AA))) (λ_ _=>rfl)) AA)))
   (AH (Bi (CH Yw PySem.F.slot_list_remove PySem.F.type_list_remove pK (pv 3) (pC (AX (r:=BB K) Al (pv 4) (gW Z3 AG) (λ_ _=>rfl)) AA)))))))
   (AH (AW (pv 4)))))),?_⟩
  case e1=>exact(p7 (k:=5) ["one"] ["above","left"] [1,3] nd rfl rfl (λ_=>ly (osc:=AL Ib) (on:=YH) (by rfl') rfl rfl rfl) (C5 (pv 3)) (λC s H fp=>BQ (i:=0) uU rfl (Or.inr rfl) (Or.inl rfl))
    (λC s H fp=>by
     refine' Kv (CS (Bu (Aa (r:=IG K λbs=>bs.any id) (SD rfl) (by rfl) any Tg (pC ?ei AA))))
     case ei =>
      refine' B5 (wi:=gT K (Wa 2)) ["two"] ["one","above"] [0,1] (λ_=>BU (osc:=sJ rZ (AL Ib)) (on:=["one","above","left"]) (by rfl') rfl rfl rfl) ?ej ?ek ?el ?em
      case ej=>exact C5 (pv 2)
      case ek=>exact(λC s H fp=>BQ (i:=0) uX rfl (Or.inl rfl) (Or.inr rfl))
      case el=>exact(λC s H fp=>CA)
      case em=>exact(λC s H fp=>HU (EL Mr (pv 0) (pv 1) (Ad _)) (JZ (EL (r:=N1 K false) O0 (pv 1) (Gn A1 (pv 2) (pv 0) (λ_ _=>rfl)) (by with_unfolding_all rfl))))) (λC s H fp=>pv 0))
  exists let b:=_;let c:=AE _ b;let e:=AE _ c;let f:=AE (My _ e) a;let g:=AE _ f;AE _ g _ _ _
  obtain⟨r0,Hv,Uo⟩:=En hx;obtain⟨t0,fs,BR,Ht,Kg,_,fnd⟩:=hA.val' g.nd Hv;rw[Uo]at BR Kg;have fp:=Z_ g hx Kg fnd;have fle:fs.length<=24:=by rw[fp.length_eq];exact Vf g x
  have fpos:1<=fs.length:=Ik.mpr (λz=>by
   have:=(Kg x).mpr (.refl _);rw[z]at this;cases this)
  have ap:a≠p:=λz=>by
   obtain⟨_,_,e,_⟩:=id ho;rw[z,hp,e]at ha;cases ha
  refine⟨Z,Z,a,Z,(by rw[<- BR];exact BL.k (k:=Sum.inr x) ha),t0,Z,.inl (SqL.of Ht),λlf hlf=>?_⟩;have s1:AB H (upd H lf (.lst (fs.map V.str))):=Aw hlf;have BG:(upd H lf (.lst (fs.map V.str))) lf=some (.lst (fs.map V.str)):=uS;generalize upd H lf (.lst (fs.map V.str))=H1 at s1 BG;refine⟨A7 _,λln UU=>?_⟩;have s2:AB H1 (upd H1 ln (.lst [])):=Aw UU;have EE:(upd H1 ln (.lst [])) ln=some (.lst []):=uS;generalize upd H1 ln (.lst [])=H2 at s2 EE;have De:=s1.trans s2;have lfn:lf≠ln:=AF BG UU;have lfp:lf≠p:=Yj (AF hp hlf);have lnH:H ln=none:=s1.free UU;have lnp:ln≠p:=Yj (AF hp lnH);let Cr:NW:=λm σ H'=>∃(left line:LS) (x5:OV),σ=[some (.ref p),some (.ref a),some (.str x),some (.ref lf),some (.ref ln),x5]/\Drawn p H H'/\H' lf=some (.lst (left.map V.str))/\H' ln=some (.lst (line.map V.str))/\(∀ z∈left,z∈rows.map (·.1))/\(∀ z∈line,z∈rows.map (·.1))/\line.length + left.length=fs.length/\HN rows fs line left/\m=left.length;refine⟨Cr,
   ⟨_,fs,[],none,Y,(Drawn.refl ⟨o,hp,ho⟩).same De,s2 _ _ BG,EE,(λz hz=>Vo g hx ((Kg z).mp hz)),(λz hz=>nomatch hz),by show 0 + _=_;omega,HN.start,Y⟩,?_⟩
  rintro m σ H3 ⟨left,line,x5,rfl,d3,Kf,jQ,lk,nk,cnt,go,rfl⟩;obtain⟨o3,Dz,Bz⟩:=id d3.pot;refine⟨Z,A7 _,λl0 OD=>?_⟩;have s4:AB H3 (upd H3 l0 (.lst [])):=Aw OD;have ZI:(upd H3 l0 (.lst [])) l0=some (.lst []):=uS;generalize upd H3 l0 (.lst [])=H4 at s4 ZI;have wok:∀ z∈left,PyData.strOk z=true:=λz hz=>by
   obtain⟨r,Aj,e⟩:=Yg.mp (lk z hz);rw[<- e];exact Oo (g.word r Aj)
  have MX:=s4 _ _ Kf;have RC:=s4 _ _ jQ;have d4:=d3.same s4;have Dy:=s4 _ _ Dz;refine⟨.list (left.map W.Dat.str),.list [],.list (SqL.of MX) (FF _),.list (SqL.of ZI) .nil,Oy wok,Y,Z,?_⟩;by_cases hle:left=[]
  ·subst hle;rw[show(!Bt (.list (([]:LS).map W.Dat.str)) (.list []))=false from by rw[show Bt (.list (([]:LS).map W.Dat.str)) (.list [])=true from EM _];rfl];refine Av ⟨Z,q ln line H4 d4 lnH RC nk ?_ ?_ (go.fin fp)⟩
   ·simp only[Pq]at cnt;omega
   ·simp only[Pq]at cnt;omega
  ·rw[show(!Bt (.list (left.map W.Dat.str)) (.list []))=true from by rw[Gm (λz=>by injection z with z;exact hle (List.map_eq_nil_iff.mp z))];rfl];let FL:SW:=λσ' H'=>∃ m',m'<left.length/\∃(left line:LS) (x5:OV),σ'=[some (.ref p),some (.ref a),some (.str x),some (.ref lf),some (.ref ln),x5]/\Drawn p H H'/\H' lf=some (.lst (left.map V.str))/\H' ln=some (.lst (line.map V.str))/\(∀ z∈left,z∈rows.map (·.1))/\(∀ z∈line,z∈rows.map (·.1))/\line.length + left.length=fs.length/\HN rows fs line left/\m'=left.length;refine BM ⟨FL,λ_ _ h=>h,?_⟩;have ll:left.length<=24:=by omega
   refine⟨Z,lf,Y,⟨_,SqL.of MX⟩,Jp (EB (xs:=left.map V.str)) (sL (by rw[Ya];omega)) (eu rows left) (λv=>v) (λH' s'=>s'.seq (SqL.of MX)) ?_ ?_ ?_⟩
   ·intro v H' R s' hv An;obtain⟨z,hz,rfl⟩:=Yg.mp hv;have OE:=s' _ _ MX;refine⟨Z,lf,Y,⟨_,SqL.of OE⟩,Jp (EB (xs:=left.map V.str)) (sL (by rw[Ya];omega)) (λ_=>true) (T9 rows z) (λBq Br=>Br.seq (SqL.of OE)) ?_ ?_ ?_⟩
    ·intro v Bq R' Br _ EY;exact EY Bq (AB.refl _)
    ·intro v Bq R' Br XW _ EY;obtain⟨y,hy,rfl⟩:=Yg.mp XW;have QC:=s'.trans Br;obtain⟨r2,L3,Me⟩:=En (lk y hy);have ji:=NP hA hp ho d4;obtain⟨t2,f2,KW,Bg,hin⟩:=(ji.mono λb xs e=>QC b _ e).val g.nd L3;rw[Me]at KW hin;have e:decide (V.str y=V.str z)=decide (y=z):=TV.mpr ⟨λq=>by injection q,λq=>by rw[q]⟩;have eo:T9 rows z (V.str y)=.bl (!decide (y=z)&&A5 rows y z):=rfl;rw[eo]at EY;refine⟨Z,Z,Y,Z,?_⟩;rw[e];refine Ak (λq1=>?_) (λq1=>?_)
     ·rw[q1,LG]at EY;refine⟨Z,Z,Z,a,Z,(by rw[<- KW];exact BL.k (k:=Sum.inr y) (QC _ _ (d4.keep _ _ ap ha))),t2,Z,.inl (SqL.of Bg),Y,NK f2,?_⟩;rw[show(if false=true then !Ec (V.str z) (f2.map V.str)else Ec (V.str z) (f2.map V.str))=A5 rows y z from by rw[if_neg (by decide),Kt,Vy hin]];exact EY Bq (AB.refl _)
     ·rw[show(!decide (y=z))=false by simpa using q1,Bool.false_and]at EY;exact EY Bq (AB.refl _)
    ·intro D3 Bq Ue Br Cb;rw[Z2]at Cb;refine⟨D3,Z,SqL.of Cb,Z,?_⟩;show R (!((left.map λy=>!decide (y=z)&&A5 rows y z).any id)) Bq;exact An Bq Br
   ·intro v H' R s' _ _ An;exact⟨Z,An H' (AB.refl _)⟩
   intro lo H5 hlo s5 Hz;rw[List.map_id',aV]at Hz;have lne:=tU g lk hle;have lsub:∀ z∈left.filter (FZ rows left),z∈left/\FZ rows left z=true:=λz hz=>Gs.mp hz;have llen:=Jv (FZ rows left) left;generalize left.filter (FZ rows left)=low at Hz lne lsub llen;have lpos:0<low.length:=Ik.mpr lne;have CC:=s5 _ _ Dy;have lop:lo≠p:=Yj (AF Dy hlo);have lon:ln≠lo:=AF RC hlo;have lof:lf≠lo:=AF MX hlo;refine⟨Z,.inl ⟨Y,_,SqL.of (s5 _ _ RC)⟩,Z,Z,Z,lo,Z,.inl (SqL.of Hz),p,_,o3,Y,CC,Bz,U,U,λv6 o6 h_ hZ Ed=>?_⟩;have ON:Drawn p H5 (upd H5 p o6):=Drawn.upd Ed;generalize upd H5 p o6=H6 at ON;obtain⟨z,hz,hat⟩:=IX h_ hZ;have jP:=ON.keep _ _ lnp (s5 _ _ RC);have JM:=ON.keep _ _ lfp (s5 _ _ MX);refine⟨lo,_,_,Z,Y,SqL.of (ON.keep _ _ lop Hz),hat,ln,_,Z,Y,jP,B7 (by rw[Ya];omega),?_⟩;have d6:Drawn p H H6:=(d4.same s5).trans ON;have en:(line.map V.str++[V.str z])=(line++[z]).map V.str:=by rw[Bw];rfl
   rw[en];have k7:∀ b u,b≠ln->H6 b=some u->(upd H6 ln (.lst ((line++[z]).map V.str))) b=some u:=λb u hb e=>by rw[AD hb];exact e
   have OC:(upd H6 ln (.lst ((line++[z]).map V.str))) ln=some (.lst ((line++[z]).map V.str)):=uS;generalize upd H6 ln (.lst ((line++[z]).map V.str))=H7 at k7 OC;have Y6:=k7 _ _ lfn JM;obtain⟨oz,hpz,hoz⟩:=d6.pot;have d7:Drawn p H H7:=⟨λb u hb e=>k7 b u (AF e lnH) (d6.keep b u hb e),oz,k7 _ _ (Yj lnp) hpz,hoz⟩;obtain⟨hzl,hzw⟩:=lsub z hz;have hatz:A_ ((line++[z]).map V.str) (-1)=some (V.str z):=by rw[Bw];exact kF _ _
   refine⟨Z,.inl ⟨Y,_,SqL.of Y6⟩,Z,Z,ln,_,_,Z,Y,SqL.of OC,hatz,lf,left,z,Y,Y,Y6,hzl,?_⟩;have el:(left.erase z).length=left.length - 1:=List.length_erase_of_mem hzl;have xK:0<left.length:=Ik.mpr hle;refine⟨(left.erase z).length,W,left.erase z,line++[z],Z,⟨λb u hb e=>by rw[AD (AF e hlf)];exact d7.keep b u hb e,oz,by rw[AD (Yj lfp)];exact k7 _ _ (Yj lnp) hpz,hoz⟩,uS,by rw[AD (Yj lfn)];exact OC,λy hy=>lk y (List.mem_of_mem_erase hy),λy hy=>?_,by rw[Yx];show _ + 1 + _=_;omega,go.step fnd hzl hzw,Y⟩
   rcases Yt.mp hy with c | c
   ·exact nk y c
   ·rw[Yi.mp c];exact lk z hzl
def C1(H:Hp)(cs:List (LS))(vs:LV):Prop:=Paired (λc v=>∃ t,v=.ref t/\H t=some (.lst (c.map V.str))) cs vs
def C1.mono{H H':Hp}{cs:List (LS)}{vs:LV}(h:C1 H cs vs)(s:AB H H'):C1 H' cs vs:=Paired.mapP h λ_ _ ⟨t,e,h⟩=>⟨t,e,s _ _ h⟩
def DH(H:Hp)(t:Addr)(ord:List Int)(cs:List (LS)):Prop:=∃(lo ll:Addr) (vs:LV),H t=some (.tup [.ref lo,.ref ll])/\H lo=some (.lst (ord.map V.int))/\H ll=some (.lst vs)/\C1 H cs vs
theorem DH.mono{H H':Hp}{t:Addr}{ord:List Int}{cs:List (LS)}(h:DH H t ord cs)(s:AB H H'):DH H' t ord cs:=by
 obtain⟨lo,ll,vs,h1,h2,h3,h4⟩:=h;exact⟨lo,ll,vs,s _ _ h1,s _ _ h2,s _ _ h3,h4.mono s⟩
def P2(z:Str):Prop:=PyData.strOk z=true/\z.length<=9
def Ot{z:Str}(h:A4 z=true):P2 z:=⟨Oo h,by
 unfold A4 at h;rw[Dl]at h;have l:=Je h.1;omega⟩
def Ej(ls:LS):Prop:=∀ z∈ls,P2 z
structure Ci(ord:List Int)(cs:List (LS)):Prop where
 few:ord.length<=10
 fewL:cs.length<=10
 oint:∀ p∈ord,-1<=p/\p<=100
 txt:∀ c∈cs,Ej c/\c.length<64
def SQ{a b:LS}(h:a.map V.str=b.map V.str):a=b:=by
 induction a generalizing b with
 | nil =>
  cases b with
  | nil=>rfl
  | cons y b=>cases h
 | cons x a ih =>
  cases b with
  | nil=>cases h
  | cons y b =>
   rw[Ym,Ym]at h;injection h with h1 h2;injection h1 with h1;rw[h1,ih h2]
def BI(n:Nat):List Int:=(List.range n).map λi=>((i:Nat):Int)
def bP(n:Nat):Ck 0 n=(BI n).map V.int:=by
 rw[V_];unfold BI;rw[CV];rfl
def cb(n:Nat):(BI n).Pairwise (·<=·):=by
 unfold BI;rw[Nk];exact List.pairwise_lt_range.imp λh=>by omega
structure FK(rows:RS)(xs:LS)(ord:List Int)(cs:List (LS)):Prop where
 ord:ord.Perm (BI xs.length)
 len:cs.length=xs.length
 line:∀(i:Nat) (x:Str) (c:LS),xs[i]?=some x->cs[i]?=some c->E7 rows x c
def bA{a b:List Int}(h:a.map W.Dat.int=b.map W.Dat.int):a=b:=by
 induction a generalizing b with
 | nil =>
  cases b with
  | nil=>rfl
  | cons y b=>cases h
 | cons x a ih =>
  cases b with
  | nil=>cases h
  | cons y b =>
   rw[Ym,Ym]at h;injection h with h1 h2;injection h1 with h1;rw[h1,ih h2]
theorem NM{K:Fg}{H:Hp}:∀ ns:List Int,Am K H (ns.map V.int) (ns.map W.Dat.int)
 | []=>.nil
 | n :: r=>.cons (.int _) (NM r)
def R3(ns:List Int):W.kqdOk 9 (.list (ns.map W.Dat.int))=true:=by
 show(ns.map W.Dat.int).all (W.kqdOk 8)=true;rw[Bc];intro d hd;obtain⟨x,hx,rfl⟩:=Yg.mp hd;rw[W.kqdOk]
theorem Vb{α:Type}{F:α->Bool->Prop}:∀ {ps:List α}{vs:LV},Paired (λp v=>∃ b,v=.bl b/\F p b) ps vs->∃ bs:List Bool,vs=bs.map V.bl/\Paired F ps bs
 | _,_,.nil=>⟨[],Y,.nil⟩
 | _,_,.cons ⟨b,e,h⟩ t=>by
  obtain⟨bs,e2,h2⟩:=Vb t;exact⟨b :: bs,by rw[e,e2];rfl,.cons h h2⟩
def Rq(C B:Addr):Sp:=λvs H Q _=>∃(p k t lu:Addr) (rows:RS) (n:Nat) (ds:List (LS)) (xs:LS) (ord:List Int) (cs:List (LS)),vs=[.ref p,.ref t,.ref lu]/\Cm C B H p k rows n ds/\Ah rows/\n<=4/\H t=some (.tup (xs.map V.str))/\Cv rows n xs/\DH H lu ord cs/\Ci ord cs/\∀ v H',AB H H'->(v=true↔FK rows xs ord cs)->Q (.bl v) H'
abbrev YJ:LS:=["board","call","lineup","kinds","places","order","lines"]
def TM:Ae YJ ["board","call","lineup"] (AL Jr):=by nofun
def ua:(["word","line","kinds"]:LS).Nodup:=by rfl'
theorem V6{rows:RS}{H:Hp}:∀ {xs:LS}{cs:List (LS)}{vs:LV}{bs:List Bool},C1 H cs vs->cs.length=xs.length->Paired (λ(pr:V×V) b=>(b=true↔∀(x:Str) (c:LS),pr.1=.str x->(∃ t,pr.2=.ref t/\H t=some (.lst (c.map V.str)))->E7 rows x c)) ((xs.map V.str).zip vs) bs ->
  (bs.all id=true↔∀(i:Nat) (x:Str) (c:LS),xs[i]?=some x->cs[i]?=some c->E7 rows x c)
 | [],_,_,_,.nil,_,h=>by
  cases h;exact⟨λ_ i x c h=>by simp at h,λ_=>rfl⟩
 | x :: xs,c :: cs,v :: vs,bs,.cons ⟨t,e,ht⟩ r,hl,h=>by
  cases h with
  | cons hb hr =>
   rename_i b bs
   have ih:=V6 (rows:=rows) r (by simpa using hl) hr;rw[List.all_cons,Dl,ih];have UZ:b=true↔E7 rows x c:=by
    rw[hb];constructor
    ·intro z;exact z x c rfl ⟨t,e,ht⟩
    ·intro z x' c' ex ⟨t',et,Hu⟩;cases ex;rw[e]at et;cases et;rw[ht]at Hu;have:c.map V.str=c'.map V.str:=by
      injection Hu with Hu;injection Hu
     have ec:c=c':=SQ this;rw[<- ec];exact z
   show(b=true/\_)↔_;rw[UZ];constructor
   ·rintro⟨h1,h2⟩ i x' c' hx hc;cases i with
    | zero =>
     simp at hx hc;rw[<- hx,<- hc];exact h1
    | succ i=>exact h2 i x' c' (by simpa using hx) (by simpa using hc)
   ·intro z;exact⟨z 0 x c rfl rfl,λi x' c' hx hc=>z (i + 1) x' c' (by simpa using hx) (by simpa using hc)⟩
def qI(F:Def K mg "is_lineup" Jr ["board","call","lineup"] f fd)(srt:mg "sorted"=none)(list:mg "list"=none)(range:mg "range"=none)(len:mg "len"=none)(all:mg "all"=none)(zip:mg "zip"=none)(TC:DJ K C)(TB:II K B)(MK:VC K B fK fdK)(MP:VZ K B fPl fdPl)
  (DCk:Def K mg "check_call" K6 By fCk fdCk) (GC:⋯ 3 fCk fdCk By (WG C)) (DIL:Def K mg "is_line" O3 KQ fIL fdIL) (GIL:⋯ 6 fIL fdIL KQ (bU C)):⋯ 7 f fd ["board","call","lineup"] (Rq C B):=by
 have GK:⋯ 1 fK fdK ["self"] (SJ C B):=V1 MK.fn TB;have GP:⋯ 1 fPl fdPl ["self"] (SO C B):=V8 MP.fn TB
 nomatch F.fn.ok TM
 ·obtain⟨p,k,t,lu,rows,n,ds,xs,ord,cs,rfl,_⟩:=h;rfl
 ·obtain⟨p,k,t,lu,rows,n,ds,xs,ord,cs,rfl,bd,g,n4,ht,gc,hlu,lok,q⟩:=h;obtain⟨dx,ts,us,h1,h2,h3,h4⟩:=bd.ex;have nd:=TM.nd;have hu:=hr.units;have Ac:AV 1 _:=hr.mono (by decide);have HF:AV 3 _:=hr.mono (by decide)
  ac_nf
  refine'⟨_,(pS (CB (i:=3) nd rfl (Or.inr rfl) (Jq (pv 0) TB.cl MK.me GK Ac MK.b .nil DX))
   (pS (sE 4 nd (Jq (pv 0) TB.cl MP.me GP Ac MP.b .nil DX))
   (pS (Bi (AN DCk GC HF (pC (pv 3) (pC (pv 4) (pC (pv 1) AA)))))
   (pS (sE 5 nd (AX (r:=CF K) CI (pv 2) AG (λ_ _=>rfl)))
   (pS (sE 6 nd (AX (r:=CF K) CI (pv 2) AG (λ_ _=>rfl)))
   (pS (AY (PW.pt (Rf (Af (Kq hu) (Aa dG (by rfl) srt Nl (pC (pv 5) AA)) (WI rfl (pv 4) (by rfl) list (by rfl) range) (Ad _)) (Ro (Af Mr (Aa B8 (by rfl) len Yy (pC (pv 6) AA)) (pv 4) (Ad _))))) (AH (AW B1)) AZ)
   (AH (AW (Aa (r:=IG K λbs=>bs.all id) (NF rfl) (by rfl) all Nj (pC ?e1 AA)))))))))),?_⟩
  case e1=>exact(B5 ["word","line"] ["kinds"] [3] (λ_=>BU (osc:=AL Jr) (on:=YJ) (by rfl') rfl rfl rfl) (aU (by rfl) zip (pC (pv 1) (pC (pv 6) AA))) (λC s H fp=>Rn (K:=K) (i:=0) (j:=1) rfl rfl ua rfl rfl (Or.inl rfl) (Or.inl rfl) (Or.inr rfl) (Or.inr rfl)) (λC s H fp=>CA) (λC s H fp=>AN DIL GIL hr (pC (pv 2) (pC (pv 0) (pC (pv 1) AA)))))
  exists let b:=AE _ a;let c:=AE _ b;let e:=AE _ c;let f:=AE _ e;let g:=AE _ f;AE _ g _ _ _
  obtain⟨lo,ll,vs,Ab,hlo,hll,hL⟩:=hlu;have xl:=gc.len;refine⟨Z,p,dx,Z,h1,V0 _ _ _,p,k,rows,n,ds,Y,bd,?_⟩;refine⟨Z,p,dx,Z,h1,V7 _ _ _,p,k,rows,n,ds,Y,bd,?_⟩;refine⟨Z,Z,Z,k,t,n,rows,xs,Y,h2,g,ht,gc,n4,λH1 s1=>?_⟩;refine⟨Z,lu,_,_,Z,Y,AJ.of (s1 _ _ Ab),Y,Z,lu,_,_,Z,Y,AJ.of (s1 _ _ Ab),Y,?_⟩;have few:=lok.few;have fewL:=lok.fewL;refine⟨Z,lo,ord,Y,SqL.of (s1 _ _ hlo),W,λns l2 pn on DC=>?_⟩;have s2:AB H1 (upd H1 l2 (.lst (ns.map V.int))):=Aw DC;have EE:(upd H1 l2 (.lst (ns.map V.int))) l2=some (.lst (ns.map V.int)):=uS;generalize upd H1 l2 (.lst (ns.map V.int))=H2 at s2 EE;refine⟨Z,Z,W,W,λl3 Cb=>?_⟩;rw[Bk,bP];have s3:AB H2 (upd H2 l3 (.lst ((BI n).map V.int))):=Aw Cb;have GJ:(upd H2 l3 (.lst ((BI n).map V.int))) l3=some (.lst ((BI n).map V.int)):=uS;generalize upd H2 l3 (.lst ((BI n).map V.int))=H3 at s3 GJ;have A9:=s1.trans (s2.trans s3);refine⟨.list (ns.map W.Dat.int),.list ((BI n).map W.Dat.int),.list (SqL.of (s3 _ _ EE)) (NM _),.list (SqL.of GJ) (NM _),R3 _,R3 _,Z,?_⟩;by_cases hp:ord.Perm (BI n)
  ·have EG:ns=BI n:=WC on (cb n) (pn.trans hp);rw[EG,EM];have EU:=A9 _ _ hll;have vl:=Ba hL;refine Av ⟨Z,ll,Z,.inl (SqL.of EU),Z,Y,Z,?_⟩;by_cases hc:cs.length=n
   ·rw[show(!decide (V.int ((vs.length:Nat):Int)=V.int ((n:Nat):Int)))=false from by rw[<- vl,hc,Jb rfl];rfl];refine Av ⟨Z,Z,t,ll,_,Z,AJ.of (A9 _ _ ht),SqL.of EU,Vs (by rw[Ng,Ya];exact sL (by omega)) (λ_=>true) (λ_ pr v _=>∃ b,v=.bl b/\(b=true↔∀(x:Str) (c:LS),pr.1=.str x->(∃ t,pr.2=.ref t/\H t=some (.lst (c.map V.str)))->E7 rows x c)) (λ_ _ _ _ _ _ h=>h) (λH' s'=>⟨AJ.of (s' _ _ (A9 _ _ ht)),SqL.of (s' _ _ EU)⟩) ?_ ?_ ?_⟩
    ·intro pr H' R s' _ An;exact An H' (AB.refl _)
    ·intro D pr H' R s' _ _ hpr _ An;obtain⟨i,hi⟩:=Ip hpr;obtain⟨MV,Bf⟩:=Ow hi;obtain⟨x,hx,ex⟩:=Kx MV;obtain⟨c,hcc,tc,ec,htc⟩:=C6 hL Bf;obtain⟨cok,clen⟩:=lok.txt c (Yh hcc);have Dw:=A9.trans s';rw[ex,ec];refine⟨Z,Z,Z,k,tc,rows,x,c,Y,h2.mono Dw,g,gc.known x (Yh hx),Dw _ _ htc,(λz hz=>(cok z hz).1),clen,λv Bq Br hv=>An _ Bq Br ⟨v,Y,?_⟩⟩;rw[hv];constructor
     ·intro z x' c' e1 ⟨t',e2,e3⟩;rw[ex]at e1;cases e1;rw[ec]at e2;cases e2;rw[htc]at e3;have:c.map V.str=c'.map V.str:=by
       injection e3 with e3;injection e3
      have ecc:c=c':=SQ this;rw[<- ecc];exact z
     ·intro z;exact z x c ex ⟨tc,ec,htc⟩
    ·intro D H4 ys hD s4 FT pr;rw[Fq.mpr (λ_ _=>rfl)]at pr;obtain⟨bs,eb,pb⟩:=Vb pr;rw[eb]at FT;refine⟨D,bs,Y,SqL.of FT,?_⟩;refine q _ H4 (A9.trans s4) ?_;have lp:=V6 (rows:=rows) hL (by omega) pb;show bs.all id=true↔_;rw[lp];exact⟨λz=>⟨by rw[xl];exact hp,W,z⟩,λz=>z.line⟩
   ·rw[show(!decide (V.int ((vs.length:Nat):Int)=V.int ((n:Nat):Int)))=true from by rw[Jc (λz=>by injection z with z;omega)];rfl];exact BM (q false H3 A9 ⟨(λz=>by cases z),λz=>absurd (z.len.trans xl) hc⟩)
  ·have EG:ns≠BI n:=λe=>hp (pn.symm.trans (e ▸ Ij _));rw[show(!Bt (.list (ns.map W.Dat.int)) (.list ((BI n).map W.Dat.int)))=true from by
    rw[Gm (λz=>by injection z with z;exact EG (bA z))];rfl]
   exact BM (q false H3 A9 ⟨(λz=>by cases z),λz=>absurd (xl ▸ z.ord) hp⟩)
structure W8(ws:LS)(n:Nat)(ord:List Int)(cs:List (LS)):Prop where
 olen:ord.length=n
 clen:cs.length=n
 oi:∀ p∈ord,-1<=p/\p<=100
 line:∀ c∈cs,1<=c.length/\c.length<=24/\∀ z∈c,z∈ws
def Di(p:Addr)(H:Hp)(t:Addr)(ord:List Int)(cs:List (LS)):Prop:=∃(lo ll:Addr) (vs:LV),lo≠p/\H t=some (.tup [.ref lo,.ref ll])/\H lo=some (.lst (ord.map V.int))/\H ll=some (.lst vs)/\C1 H cs vs
def Di.at_{p:Addr}{H:Hp}{t:Addr}{ord:List Int}{cs:List (LS)}(h:Di p H t ord cs):DH H t ord cs:=by
 obtain⟨lo,ll,vs,_,h⟩:=h;exact⟨lo,ll,vs,h⟩
theorem Di.mono{p:Addr}{H H':Hp}{t:Addr}{ord:List Int}{cs:List (LS)}(h:Di p H t ord cs)(s:AB H H'):Di p H' t ord cs:=by
 obtain⟨lo,ll,vs,n,h1,h2,h3,h4⟩:=h;exact⟨lo,ll,vs,n,s _ _ h1,s _ _ h2,s _ _ h3,h4.mono s⟩
def vE{p ll:Addr}{H:Hp}{o:HO}{cs:List (LS)}{vs:LV}(hp:H p=some o)(ho:Bh o)(hl:H ll=some (.lst vs))(h:C1 H cs vs):ll≠p:=λz=>by
 obtain⟨r,b,e,_⟩:=ho;rw[z,hp,e]at hl;have hl:=Yv hl;injection hl with hl;rw[<- hl]at h;cases h with
 | cons h _ =>
  obtain⟨t,e,_⟩:=h;cases e
def C1.drawn{p:Addr}{H H':Hp}{o:HO}{cs:List (LS)}{vs:LV}(h:C1 H cs vs)(hp:H p=some o)(ho:Bh o)(d:Drawn p H H'):C1 H' cs vs:=Paired.mapP h λ_ _ ⟨t,e,h⟩=>⟨t,e,d.keep _ _ (Yj (D_ hp ho h)) h⟩
theorem Di.drawn{p:Addr}{H H':Hp}{o:HO}{t:Addr}{ord:List Int}{cs:List (LS)}(h:Di p H t ord cs)(hp:H p=some o)(ho:Bh o)(d:Drawn p H H'):Di p H' t ord cs:=by
 obtain⟨lo,ll,vs,n,h1,h2,h3,h4⟩:=h;exact⟨lo,ll,vs,n,Drawn.tup d hp ho h1,d.keep _ _ n h2,d.keep _ _ (vE hp ho h3 h4) h3,h4.drawn hp ho d⟩
def gD:Sp:=λvs H Q _=>∃(p a t:Addr) (rows:RS) (AI:KL) (xs:LS),vs=[.ref p,.ref a,.ref t]/\(∃ o,H p=some o/\Bh o)/\Ah rows/\H a=some (.dK AI)/\BZ H rows rows AI/\H t=some (.tup (xs.map V.str))/\(∀ x∈xs,x∈rows.map (·.1))/\xs.length<=4 /\
 ∀ lu ord cs H',Drawn p H H'->Di p H' lu ord cs->W8 (rows.map (·.1)) xs.length ord cs->FK rows xs ord cs->Q (.ref lu) H'
def vV{ord:List Int}{i:Nat}(h:ord.Perm (BI i))(k:Nat):(ord.take k++(0 + (i:Int)):: ord.drop k).Perm (BI (i + 1)):=by
 have e:BI (i + 1)=BI i++[0 + (i:Int)]:=by
  unfold BI;rw[List.range_succ,Bw,Ep];rfl
 rw[e];refine Pt.trans ?_;rw[Jt];exact(List.Perm.cons _ h).trans (List.perm_append_singleton _ _).symm
abbrev YI:LS:=["pot","above","call","order","place"]
def fh:Ae YI ["pot","above","call"] (AL PR):=by nofun
def tX:(["word","pot","above"]:LS).Nodup:=by rfl'
def oQ(F:Def K mg "_law_lineup" PR ["pot","above","call"] f fd)(range:mg "range"=none)(len:mg "len"=none)(DT:Def K mg "_law_take" EO ["pot","many"] fT fdT)(GT:⋯ 1 fT fdT ["pot","many"] Fi)
  (DL:Def K mg "_law_line" Ib ["pot","above","word"] fL fdL) (GL:⋯ 2 fL fdL ["pot","above","word"] U9):⋯ 3 f fd ["pot","above","call"] gD:=by
 nomatch F.fn.ok fh
 ·obtain⟨p,a,t,rows,AI,xs,rfl,_⟩:=h;rfl
 ·obtain⟨p,a,t,rows,AI,xs,rfl,⟨o,hp,ho⟩,g,ha,hA,ht,kn,x4,q⟩:=h;have nd:=fh.nd;have Ac:AV 1 _:=hr.mono (by decide)
  ac_nf
  refine'⟨_,(pS (sE 3 nd (B2 AA))
   (pS (CQ Bb rfl (Fm (by rfl) range (pC (Aa B8 (by rfl) len Yy (pC (pv 2) AA)) AA)) (gE 4 nd)
    (AH (Bi (CH Yw LI LH K2 (pv 3) (pC (AN DT GT Ac (pC (pv 0) (pC (Ag El (pv 4) AG) AA))) (pC (pv 4) AA))))))
   (AH (AW (EJ (pC (pv 3) (pC ?e1 AA))))))),?_⟩
  case e1=>exact(B5 ["word"] ["pot","above"] [0,1] (λ_=>BU (osc:=AL PR) (on:=YI) (by rfl') rfl rfl rfl) (HV (pv 2)) (λC s H fp=>BQ (i:=0) tX rfl (Or.inl rfl) (Or.inr rfl)) (λC s H fp=>CA) (λC s H fp=>AN DL GL hr (pC (pv 1) (pC (pv 2) (pC (pv 0) AA)))))
  exists let b:=_;let c:=AE (Cg _ _ b) a;AE _ c _ _ _
  have ap:a≠p:=λz=>by
   obtain⟨_,_,e,_⟩:=id ho;rw[z,hp,e]at ha;cases ha
  refine⟨A7 _,λlo hlo=>?_⟩;have s1:AB H (upd H lo (.lst [])):=Aw hlo;have BG:(upd H lo (.lst [])) lo=some (.lst []):=uS;generalize upd H lo (.lst [])=H1 at s1 BG;have lop:lo≠p:=Yj (AF hp hlo);let Bp:NW:=λi σ H'=>∃(ord:List Int) (x4:OV),σ=[some (.ref p),some (.ref a),some (.ref t),some (.ref lo),x4]/\Drawn p H H'/\H' lo=some (.lst (ord.map V.int))/\ord.length=i/\ord.Perm (BI i);refine⟨Z,t,Z,.inr (AJ.of (s1 _ _ ht)),Z,W,U,Cw Fl Bp
   ⟨[],none,Y,(Drawn.refl ⟨o,hp,ho⟩).same s1,BG,Y,Ij _⟩ (λ_ _ _ _ _=>trivial) ?_ ?_⟩
  ·rintro i v σ H2 hi ⟨ord,x4,rfl,d2,DC,ol,op⟩;obtain⟨Cd,rfl⟩:=Dk hi;rw[Ya]at Cd;obtain⟨o2,BJ,BF⟩:=id d2.pot;refine⟨Z,.inl ⟨Y,_,SqL.of DC⟩,Z,Z,_,Z,Y,p,_,o2,Y,BJ,BF,W,W,λv3 o3 v30 xD Bz=>?_⟩;have d3:Drawn p H2 (upd H2 p o3):=Drawn.upd Bz;generalize upd H2 p o3=H3 at d3;have Cb:=d3.keep _ _ lop DC;have OO:=d2.trans d3;obtain⟨oz,hpz,hoz⟩:=OO.pot;refine⟨Z,lo,_,_,Z,Y,Cb,v30,U,B7 (by rw[Ya];omega),?_⟩;refine⟨ord.take v3.toNat++(0 + (i:Int)):: ord.drop v3.toNat,Z,⟨λb u hb e=>by rw[AD (AF e hlo)];exact OO.keep b u hb e,oz,by rw[AD (Yj lop)];exact hpz,hoz⟩,?_,?_,vV op _⟩
   ·rw[uS,Bw,Ym,Iq,LF]
   ·rw[Yx,Bj,Yz,Hi];omega
  rintro σ H2 ⟨ord,x4,rfl,d2,DC,ol,op⟩;have op:ord.Perm (BI xs.length):=by
   rw[CJ,Ya,Bk]at op;exact op
  have ol:ord.length=xs.length:=by
   rw[CJ,Ya,Bk]at ol;exact ol
  obtain⟨o2,BJ,BF⟩:=id d2.pot;have Bg:=Drawn.tup d2 hp ho ht;refine⟨Z,Z,t,Y,⟨_,AJ.of Bg⟩,NH HZ (xs:=xs.map V.str) (by rw[Ya];exact sL (by omega)) (λD i ys σ' H'=>Drawn p H2 H'/\H' D=some (.lst ys)/\∃(cs:List (LS)) (o:OV),Paired (λc v=>∃ b,v=.ref b/\b≠D/\H' b=some (.lst (c.map V.str))) cs ys/\cs.length=i/\(∀ c∈cs,1<=c.length/\c.length<=24/\∀ z∈c,z∈rows.map (·.1))/\(∀(j:Nat) (x:Str) (c:LS),xs[j]?=some x->cs[j]?=some c->E7 rows x c)/\σ'=[o,some (.ref p),some (.ref a)])
   (λD hD=>⟨(Drawn.refl ⟨o2,BJ,BF⟩).new hD,uS,[],none,.nil,Y,(λx h=>nomatch h),(λj x c _ h=>by cases j <;> cases h),Y⟩) (λD i ys σ' H' hi h0=>by obtain⟨d,_,cs,_,pr,el,_⟩:=h0;exact⟨AJ.of (Drawn.tup d BJ BF Bg),by rw[<- Ba pr,el];exact Yd _⟩) ?_ ?_⟩
  ·rintro D i v ys σ' H3 hD hi ⟨d,hl,cs,o',pr,el,hc,hlp,rfl⟩;obtain⟨x,hx,rfl⟩:=Kx hi;have OO:=d2.trans d;have pD:p≠D:=AF BJ hD;obtain⟨o3,Dz,Bz⟩:=id d.pot;refine⟨Z,Z,Z,p,a,rows,AI,x,Y,d.pot,g,OO.keep _ _ ap ha,NP hA hp ho OO,kn x (Yh hx),λl ls H4 d4 fl FT k l1 YS hlin=>?_⟩;have dd:=d.trans d4;obtain⟨oz,hpz,hoz⟩:=dd.pot;have lD:l≠D:=λz=>by rw[z,hl]at fl;cases fl
   refine⟨d4.keep _ _ (Yj pD) hl,⟨λb u hb e=>by rw[AD (AF e hD)];exact dd.keep b u hb e,oz,by rw[AD pD];exact hpz,hoz⟩,uS,cs++[ls],_,Gr (Paired.mapP pr λc v ⟨b,e,nb,hb⟩=>⟨b,e,nb,by rw[AD nb];exact d4.keep _ _ (Yj (D_ Dz Bz hb)) hb⟩) ⟨l,Y,lD,by rw[AD lD];exact FT⟩,by rw[Yx,el];rfl,λc Ap=>?_,λj y c hy hj=>?_,Y⟩
   ·rcases Yt.mp Ap with z | z
    ·exact hc c z
    ·rw[Yi.mp z];exact⟨l1,YS,k⟩
   ·rcases Nat.lt_or_ge j cs.length with hjl | hjl
    ·rw[LL hjl]at hj;exact hlp j y c hy hj
    ·have JK:=(Yn.mp hj).1;rw[Yx]at JK;have JK:j<cs.length + 1:=JK;have ej:j=i:=by omega
     subst ej;rw[Ih hjl,show j - cs.length=0 by omega]at hj;injection hj with hj;rw[hx]at hy;injection hy with hy;rw[<- hj,<- hy];exact hlin
  ·rintro lb ys σ' H3 hlb ⟨d,hl,cs,o',pr,el,hc,hlp,rfl⟩;rw[Ya]at el;refine⟨O,λlu hlu=>?_⟩;have s4:AB H3 (upd H3 lu (.tup [.ref lo,.ref lb])):=Aw hlu;exact q lu ord cs _ ((d2.trans d).same s4) ⟨lo,lb,ys,lop,uS,s4 _ _ (d.keep _ _ lop DC),s4 _ _ hl,Paired.mapP pr λc v ⟨b,e,_,hb⟩=>⟨b,e,s4 _ _ hb⟩⟩ ⟨ol,el,(λp hp=>by
    have hm:=op.mem_iff.mp hp;unfold BI at hm;obtain⟨i,hi,rfl⟩:=Yg.mp hm;have:=Cz.mp hi;omega),hc⟩ ⟨op,el,hlp⟩
theorem eL{α β γ:Type}{F:α->β->Prop}{G:β->γ->Prop}:∀ {cs:List α}{lv:List β}{hs:List γ},Paired F cs lv->Paired G lv hs->Paired (λa c=>∃ b,F a b/\G b c) cs hs
 | _,_,_,.nil,.nil=>.nil
 | _,_,_,.cons h t,.cons h' t'=>.cons ⟨_,h,h'⟩ (eL t t')
abbrev Zk(K:Fg):LV->Hp->VK->Prop:=λxs H Q=>∃ p ys,xs=[.ref p]/\(SqL K H p ys\/AJ K H p ys)/\∀ l,H l=none->Q (.ref l) (upd H l (.lst ys))
def dW{K:Fg}{ll:Addr}{H1:Hp}{cs:List (LS)}{vs:LV}{σ:St}{te:TE}{Q:VK}(hll:H1 ll=some (.lst vs))(hL:C1 H1 cs vs)(few:cs.length<=100)
  (he:∀(t:Addr) (ys:LV) H' (R:VK),H' t=some (.lst ys)->(∀ b,H' b=none->R (.ref b) (upd H' b (.lst ys)))->te [some (.ref t)] H' R)
  (hd:∀ D H2 hs,H1 D=none->AB H1 H2->H2 D=some (.lst hs)->Paired (λc v=>∃ b,v=.ref b/\b≠D/\H1 b=none/\H2 b=some (.lst (c.map V.str))) cs hs->Q (.ref D) H2):AR 1 [] (C2 0) Ri te σ Q (Nt K ll) H1:=by
 have vl:=Ba hL;refine NG (EB (xs:=vs)) (sL (by omega)) (λ_=>true) (λD v w' H'=>∀ c:LS,(∃ t,v=.ref t/\H1 t=some (.lst (c.map V.str)))->∃ b,w'=.ref b/\b≠D/\H1 b=none/\H' b=some (.lst (c.map V.str))) (λD v w' Ha Hb k h c hc=>let⟨b,e,n,f,h1⟩:=h c hc;⟨b,e,n,f,k _ _ n h1⟩) (λH' s'=>s'.seq (SqL.of hll)) ?_ ?_ ?_
 ·intro v H' R s' _ An;exact An H' (AB.refl _)
 ·intro D v H' R s' ⟨ys,hys⟩ hD hv _ An;obtain⟨i,hi⟩:=Ip hv;obtain⟨c,hc,t,rfl,ht⟩:=C6 hL hi;refine he t _ H' R (s' _ _ ht) λb hb=>?_;refine An (.ref b) _ (Aw hb) λc' ⟨t',e,Hu⟩=>⟨b,Y,λz=>?_,s'.free hb,?_⟩
  ·rw[z]at hb;rw[hys]at hb;cases hb
  ·cases e;rw[ht]at Hu;rw[uS];exact Hu
 intro lh H2 hs hlh s2 JL pp;rw[Fq.mpr (λ_ _=>rfl)]at pp;exact hd lh H2 hs hlh s2 JL (Paired.mapP (eL hL pp) λc w' ⟨v,hv,h⟩=>h c hv)
def Ga(H0 H:Hp)(t:Addr)(ord:List Int)(cs:List (LS)):Prop:=∃(lo ll:Addr) (vs:LV),H0 t=none/\H0 lo=none/\H0 ll=none/\H t=some (.tup [.ref lo,.ref ll])/\H lo=some (.lst (ord.map V.int))/\H ll=some (.lst vs)/\Paired (λc v=>∃ b,v=.ref b/\H0 b=none/\H b=some (.lst (c.map V.str))) cs vs
def Ga.atN{H0 H:Hp}{t p:Addr}{o:HO}{ord:List Int}{cs:List (LS)}(h:Ga H0 H t ord cs)(hp:H0 p=some o):Di p H t ord cs:=by
 obtain⟨lo,ll,vs,f1,f2,f3,h1,h2,h3,h4⟩:=h;exact⟨lo,ll,vs,Yj (AF hp f2),h1,h2,h3,Paired.mapP h4 λc v ⟨b,e,_,hb⟩=>⟨b,e,hb⟩⟩
def Ga.keep{H0 H H':Hp}{t D:Addr}{o:HO}{ord:List Int}{cs:List (LS)}(h:Ga H0 H t ord cs)(hD:H0 D=some o)(k:∀ b u,b≠D->H b=some u->H' b=some u):Ga H0 H' t ord cs:=by
 obtain⟨lo,ll,vs,f1,f2,f3,h1,h2,h3,h4⟩:=h;exact⟨lo,ll,vs,f1,f2,f3,k _ _ (Yj (AF hD f1)) h1,k _ _ (Yj (AF hD f2)) h2,k _ _ (Yj (AF hD f3)) h3,Paired.mapP h4 λc v ⟨b,e,f,hb⟩=>⟨b,e,f,k _ _ (Yj (AF hD f)) hb⟩⟩
def Ga.sub{H0 H1 H:Hp}{t:Addr}{ord:List Int}{cs:List (LS)}(h:Ga H1 H t ord cs)(s:∀ b,H1 b=none->H0 b=none):Ga H0 H t ord cs:=by
 obtain⟨lo,ll,vs,f1,f2,f3,h1,h2,h3,h4⟩:=h;exact⟨lo,ll,vs,s _ f1,s _ f2,s _ f3,h1,h2,h3,Paired.mapP h4 λc v ⟨b,e,f,hb⟩=>⟨b,e,s _ f,hb⟩⟩
def bT:Sp:=λvs H Q _=>∃(lu:Addr) (ord:List Int) (cs:List (LS)),vs=[.ref lu]/\DH H lu ord cs/\Ci ord cs/\∀ l2 H',AB H H'->Ga H H' l2 ord cs->Q (.ref l2) H'
def rC:Ae ["lineup"] ["lineup"] (AL PQ):=by nofun
def bH:(["line"]:LS).Nodup:=by rfl'
def nJ(F:Def K mg "_law_copied" PQ ["lineup"] f fd)(list:mg "list"=none):⋯ 1 f fd ["lineup"] bT:=by
 nomatch F.fn.ok rC
 ·obtain⟨lu,ord,cs,rfl,_⟩:=h;rfl
 ·obtain⟨lu,ord,cs,rfl,⟨lo,ll,vs,Ab,hlo,hll,hL⟩,lok,q⟩:=h
  ac_nf
  refine'⟨_,AH (AW (EJ (pC (DZ Ia (by rfl) list FI (pC (AX (r:=CF K) CI (pv 0) AG (λ_ _=>rfl)) AA)) (pC ?e1 AA)))),?_⟩
  case e1=>exact(B5 ["line"] [] [] (λ_=>BU (osc:=AL PQ) (on:=["lineup"]) (by rfl') rfl rfl rfl) (C5 (AX (r:=CF K) CI (pv 0) AG (λ_ _=>rfl))) (λC s H fp=>BQ (i:=0) bH rfl (Or.inl rfl) (Or.inr rfl)) (λC s H fp=>CA) (λC s H fp=>DZ (r:=Zk K) Ia (by rfl) list FI (pC (pv 0) AA)))
  have fewL:=lok.fewL;have vl:=Ba hL;refine⟨Z,lu,_,_,Z,Y,AJ.of Ab,Y,lo,Z,.inl (SqL.of hlo),λl1 Cc=>?_⟩;have s1:AB H (upd H l1 (.lst (ord.map V.int))):=Aw Cc;have BG:(upd H l1 (.lst (ord.map V.int))) l1=some (.lst (ord.map V.int)):=uS;generalize upd H l1 (.lst (ord.map V.int))=H1 at s1 BG;have QO:=s1 _ _ hll;have jc:=hL.mono s1;refine⟨Z,lu,_,_,Z,Y,AJ.of (s1 _ _ Ab),Y,ll,Y,⟨_,SqL.of QO⟩,dW QO jc (by omega) (λt ys H' R ht hR=>⟨Z,t,Z,.inl (SqL.of ht),hR⟩) λlh H2 hs hlh s2 JL pr=>?_⟩;refine⟨O,λl3 Cb=>?_⟩;have CY:=s1.trans s2;have s3:AB H2 (upd H2 l3 (.tup [.ref l1,.ref lh])):=Aw Cb;exact q l3 _ (CY.trans s3) ⟨l1,lh,hs,CY.free Cb,Cc,s1.free hlh,uS,s3 _ _ (s2 _ _ BG),s3 _ _ JL,Paired.mapP pr λc v ⟨b,e,_,f,hb⟩=>⟨b,e,s1.free f,s3 _ _ hb⟩⟩
def Zv(K:Fg):Sp:=λvs H Q _=>∃(a:Addr) (ns:List Int) (m:Nat),vs=[.ref a,.int m]/\SqL K H a (ns.map V.int)/\ns.length<=100/\1<=m/\m<=24 /\
 ∀(t l aa ld tc:Addr) (n:Nat) (rows:RS) (AI:KL) (ds:List (LS)) (us:LV) (xs:LS) (H':Hp),AB H H'->H' t=some (.tup [.ref l,.ref aa,.int n,.ref ld,.ref tc])->Gi H' l rows->Ah rows->H' aa=some (.dK AI)->BZ H' rows rows AI ->
  1<=n->n<=4->H' ld=some (.lst us)->Bv H' ds us->Fj rows n ds->ds.length<=24->H' tc=some (.tup (xs.map V.str))->Cv rows n xs->Q (.ref t) H'
abbrev Qz:LS:=["script","most","rows","above","pot","places","many","words","beside","deeds","call"]
def gM:Ae Qz ["script","most"] (AL K5):=by nofun
def uQ:(["k","words","beside"]:LS).Nodup:=by rfl'
def vw(F:Def K mg "_law_case" K5 ["script","most"] f fd)(len:mg "len"=none)(range:mg "range"=none)(list:mg "list"=none)(tuple:mg "tuple"=none)
  (DR:Def K mg "_law_rows" NU ["pot","most"] fR fdR) (GR:⋯ 4 fR fdR ["pot","most"] au) (DP:Def K mg "_law_pot" O8 ["script","k"] fP fdP) (GP:⋯ 1 fP fdP ["script","k"] (Wr K))
  (DT:Def K mg "_law_take" EO ["pot","many"] fT fdT) (GT:⋯ 1 fT fdT ["pot","many"] Fi) (DA:Def K mg "_law_above" Sq ["rows"] fA fdA) (GA:⋯ 1 fA fdA ["rows"] bt)
  (DDe:Def K mg "_law_deeds" NY ["pot","rows","above","places","most"] fDe fdDe) (GDe:⋯ 2 fDe fdDe ["pot","rows","above","places","most"] ai):
  ⋯ 5 f fd ["script","most"] (Zv K):=by
 nomatch F.fn.ok gM
 ·obtain⟨a,ns,m,rfl,_⟩:=h;rfl
 ·obtain⟨a,ns,m,rfl,hS,hlen,m1,iw,q⟩:=h;have nd:=gM.nd;have Ac:AV 1 _:=hr.mono (by decide);have Ca:AV 2 _:=hr.mono (by decide)
  ac_nf
  refine'⟨_,(pS (sE 2 nd (AN DR GR hr (pC (AN DP GP Ac (pC (pv 0) (pC AG AA))) (pC (pv 1) AA))))
   (pS (sE 3 nd (AN DA GA Ac (pC (pv 2) AA)))
   (pS (CB (i:=4) nd rfl (Or.inr rfl) (AN DP GP Ac (pC (pv 0) (pC AG AA))))
   (pS (sE 5 nd (Ag El AG (AN DT GT Ac (pC (pv 4) (pC AG AA)))))
   (pS (sE 6 nd (AX (r:=CF K) CI (EJ (pC AG (pC AG (pC AG (pC AG AA))))) (AN DT GT Ac (pC (pv 4) (pC AG AA))) (λ_ _=>rfl)))
   (pS (CB (i:=7) nd rfl (Or.inr rfl) ?e1)
   (pS (CB (i:=8) nd rfl (Or.inr rfl) (DZ Ia (by rfl) list FI (pC (pv 4) AA)))
   (pS (sE 9 nd (AN DDe GDe Ca (pC (pv 4) (pC (pv 2) (pC (pv 3) (pC (pv 5) (pC (pv 6) AA)))))))
   (pS (sE 10 nd (DZ K7 (by rfl) tuple Lb (pC ?e2 AA)))
   (B6 (AY (Af BC (AN DT GT Ac (pC (pv 4) (pC AG AA))) AG (Ad _)) (AH (sE 10 nd (DZ K7 (by rfl) tuple Lb (pC ?e3 AA)))) AZ)
   (AH (AW (EJ (pC (pv 2) (pC (pv 3) (pC (pv 5) (pC (pv 9) (pC (pv 10) AA)))))))))))))))))),?_⟩
  case e1=>exact(B5 ["row"] [] [] (λ_=>BU (osc:=AL K5) (on:=Qz) (by rfl') rfl rfl rfl) (C5 (pv 2)) (λC s H fp=>BQ (i:=0) VS rfl (Or.inl rfl) (Or.inr rfl)) (λC s H fp=>CA) (λC s H fp=>AX (r:=CF K) CI (pv 0) AG (λ_ _=>rfl)))
  case e2=>exact(B5 ["k"] ["words","beside"] [7,8] (λ_=>BU (osc:=AL K5) (on:=Qz) (by rfl') rfl rfl rfl) (Fm (by rfl) range (pC (pv 5) AA)) (λC s H fp=>BQ (i:=0) uQ rfl (Or.inl rfl) (Or.inr rfl)) (λC s H fp=>CA)
    (λC s H fp=>AX (r:=BB K) Al (pv 1) (AN DT GT Ac (pC (pv 2) (pC (Aa (r:=Wn K) B8 (by rfl) len Yy (pC (pv 1) AA)) AA))) (λ_ _=>rfl)))
  case e3=>exact(B5 ["k"] ["words","pot"] [7,4] (λ_=>BU (osc:=AL K5) (on:=Qz) (by rfl') rfl rfl rfl) (Fm (by rfl) range (pC (pv 5) AA)) (λC s H fp=>BQ (i:=0) ZY rfl (Or.inl rfl) (Or.inr rfl)) (λC s H fp=>CA)
    (λC s H fp=>AX (r:=BB K) Al (pv 1) (AN DT GT Ac (pC (pv 2) (pC (Aa (r:=Wn K) B8 (by rfl) len Yy (pC (pv 1) AA)) AA))) (λ_ _=>rfl)))
  exists let b:=_;let c:=CG (BH _ b _) a;let e:=AE _ c;let f:=AE _ e;let g:=AE _ f;let h:=AE _ g;let i:=AE _ h;let j:=AE _ i;let k:=AE _ j;let l:=AE _ k;AE _ l _ _ _
  refine⟨Z,a,0,ns,Y,hS,hlen,V,V,λp2 o3 BJ Bz=>⟨Z,p2,m,Y,⟨o3,uS,Bz⟩,m1,iw,λl rows H1 d1 hl Kh g rl=>?_⟩⟩;have s1:AB H H1:=λb o e=>d1.keep b o (AF e BJ) ((Dh BJ) _ _ e);have gle:=g.le;have gne:1<=rows.length:=by have:=g.ne;omega
  refine⟨Z,l,rows,Y,Kh,g,λaa AI H2 CY Ce hA=>?_⟩;have s2:=s1.trans CY;have HI:=NS Kh CY;refine⟨Z,a,1,ns,Y,s2.seq hS,hlen,V,V,λp o5 hp F8=>?_⟩;refine⟨Z,p,4,o5,Y,uS,F8,V,V,λv o6 BR Bf Ed=>⟨_,Z,Y,?_⟩⟩;have Qw:AB H2 (upd (upd H2 p o5) p o6):=λb o e=>by rw[AD (AF e hp),AD (AF e hp)];exact e
  have HG:(upd (upd H2 p o5) p o6) p=some o6:=uS;generalize upd (upd H2 p o5) p o6=H3 at Qw HG;obtain⟨n,en⟩:∃ n:Nat,(1 + v)=(n:Int):=⟨(1 + v).toNat,W⟩;have n1:1<=n:=by omega
  have n4:n<=4:=by omega
  refine⟨sL (by show 4<=100000;decide),λt4 N9=>?_⟩;have Dd:AB H3 (upd H3 t4 (.tup [.int 8,.int 8,.int 8,.int 24])):=Aw N9;have OH:(upd H3 t4 (.tup [.int 8,.int 8,.int 8,.int 24])) t4=some (.tup ([(8:Int),8,8,24].map V.int)):=uS;generalize upd H3 t4 (.tup [.int 8,.int 8,.int 8,.int 24])=H4 at Dd OH;have Cs:=Dd _ _ HG;refine⟨Z,p,4,o6,Y,Cs,Ed,V,V,λv5 o7 xC xB BX=>?_⟩;have HJ:Drawn p H4 (upd H4 p o7):=Drawn.upd BX;have Dx:(upd H4 p o7) p=some o7:=uS;generalize upd H4 p o7=H5 at HJ Dx;obtain⟨mo,hmo,hat⟩:∃ mo:Nat,mo<=24/\A_ ([(8:Int),8,8,24].map V.int) v5=some (.int mo):=by
   have:v5=0\/v5=1\/v5=2\/v5=3:=by omega
   rcases this with e | e | e | e
   ·exact⟨8,V,by rw[e];rfl⟩
   ·exact⟨8,V,by rw[e];rfl⟩
   ·exact⟨8,V,by rw[e];rfl⟩
   ·exact⟨24,V,by rw[e];rfl⟩
  refine⟨t4,_,_,Z,Y,AJ.of (Drawn.tup HJ Cs Ed OH),hat,?_⟩;have YA:AB H2 H5:=λb u e=>HJ.keep b u (AF e hp) (Dd _ _ (Qw _ _ e));have ZF:=NS HI YA;obtain⟨wz,XS,wc⟩:=id ZF;refine⟨Z,l,Y,⟨_,SqL.of XS⟩,WA ZF (by omega) (λt u x H' R ht hRx=>⟨Z,t,_,_,Z,Y,AJ.of ht,Y,hRx⟩) λlw H6 hlw Nz hw=>?_⟩;have X_:=YA.trans Nz;have Ka:=Nz _ _ Dx;have wl:(rows.map (·.1)).length=rows.length:=Ya ..;obtain⟨r7,b7,e7,wg⟩:=id BX;refine⟨Z,p,Z,.inl (SqL.of (by rw[Ka,e7])),λbs hbs=>?_⟩;have Qt:AB H6 (upd H6 bs (.lst [.int r7,.int b7])):=Aw hbs;have UY:(upd H6 bs (.lst [.int r7,.int b7])) bs=some o7:=by rw[uS,e7]
  generalize upd H6 bs (.lst [.int r7,.int b7])=H7 at Qt UY;have L6:=Qt _ _ Ka;have Qv:=X_.trans Qt;have bp:bs≠p:=Yj (AF Ka hbs);have N8:=Qt _ _ hw;show AE _ _ _ [some (.ref a),some (.int m),some (.ref l),some (.ref aa),some (.ref p),some (.int (1 + v)),some (.int mo),some (.ref lw),some (.ref bs),none,none] H7;rw[en];refine⟨Z,Z,Z,Z,Z,p,l,aa,n,mo,rows,AI,Y,⟨o7,L6,BX⟩,NS HI Qv,g,Qv _ _ Ce,hA.mono λb xs e=>Qv _ _ e,n1,n4,W,λld ds us H8 d8 hld hus hD gd dl=>?_⟩;have MY:=d8.keep _ _ bp UY;have wp:lw≠p:=Yj (D_ L6 BX N8);have N7:=d8.keep _ _ wp N8;have iN:AB H2 H8:=λb u e=>d8.keep b u (AF e hp) (Qv _ _ e);have wb:lw≠bs:=Yj (D_ MY BX N7);have wpos:1<=(rows.map (·.1)).length:=by omega
  let Bp:Addr->Nat->LV->St->Hp->Prop:=λD i ys σ' H'=>Drawn bs H8 H'/\H' D=some (.lst ys)/\∃(xs:LS) (o:OV),ys=xs.map V.str/\xs.length=i/\(∀ x∈xs,x∈rows.map (·.1))/\σ'=[o,some (.ref lw),some (.ref bs)];refine⟨Z,n,Y,W,W,NH Fl (by rw[CJ];exact sL (by omega)) Bp
   (λD hD=>⟨(Drawn.refl ⟨o7,MY,BX⟩).new hD,uS,[],none,Y,Y,(λx h=>nomatch h),Y⟩) (λD i ys σ' H' _ h0=>by obtain⟨_,_,bs,_,e,el,_⟩:=h0;exact⟨trivial,by rw[e,Ya];omega⟩) ?_ ?_⟩
  ·rintro D i v ys σ' H' hD hi ⟨d,hl,xs,o,rfl,rfl,hb,rfl⟩;obtain⟨hi,rfl⟩:=Dk hi;obtain⟨o1,hpp,hoo⟩:=d.pot;have Hs:=d.keep _ _ wb N7;have pD:bs≠D:=AF MY hD;refine⟨Z,Z,Z,lw,Z,.inl (SqL.of Hs),bs,_,o1,Y,hpp,hoo,U,U,λv o2 BR Bf BF=>?_⟩;obtain⟨x,hxm,hat⟩:=IX BR Bf;have d2:Drawn bs H' (upd H' bs o2):=Drawn.upd BF;refine⟨lw,_,_,Z,Y,SqL.of (d2.keep _ _ wb Hs),hat,d2.keep _ _ (Yj pD) hl,(d.trans d2).sub (o':=.lst []) (q:=D) (λb o hb e=>by rw[AD hb];exact e) hD pD,uS,xs++[x],_,by rw[Bw];rfl,by simp,λy hy=>?_,Y⟩
   rcases Yt.mp hy with z | z
   ·exact hb y z
   ·rw[Yi.mp z];exact hxm
  rintro lc ys σ' H9 hlc ⟨d9,Xf,xs,o,rfl,hxl,jF,rfl⟩;rw[CJ]at hxl;have hxl:xs.length=n:=by simpa using hxl
  refine⟨lc,Z,.inl ⟨SqL.of Xf,λtc htc=>?_⟩⟩;have s9:AB H9 (upd H9 tc (.tup (xs.map V.str))):=Dh htc;have QH:(upd H9 tc (.tup (xs.map V.str))) tc=some (.tup (xs.map V.str)):=uS;generalize upd H9 tc (.tup (xs.map V.str))=Er at s9 QH;have j0:H2 bs=none:=X_.free hbs;have iM:AB H2 Er:=λb u e=>s9 _ _ (d9.keep b u (AF e j0) (iN _ _ e));obtain⟨o8,Xb,FR⟩:=id d8.pot;have L4:Er p=some o8:=s9 _ _ (d9.keep _ _ (Yj bp) Xb);have XQ:=s9 _ _ (d9.keep _ _ wb N7);have ldb:ld≠bs:=λz=>by rw[z,UY]at hld;cases hld
  have Qd:=s9 _ _ (d9.keep _ _ ldb hus);have Xo:Bv Er ds us:=(hD.drawn (p:=bs) (o:=o7) λb zs e=>Drawn.tup d9 MY BX e).mono s9;have gc:Cv rows n xs:=⟨hxl,jF⟩;let Cr:SW:=λσ' H'=>∃(tc:Addr) (xs:LS),σ'=[some (.ref a),some (.int m),some (.ref l),some (.ref aa),some (.ref p),some (.int n),some (.int mo),some (.ref lw),some (.ref bs),some (.ref ld),some (.ref tc)]/\Drawn p Er H'/\H' tc=some (.tup (xs.map V.str))/\Cv rows n xs;refine⟨Cr,?_,?_⟩
  ·refine⟨Z,p,4,o8,Y,L4,FR,V,V,λv11 N2 wU wR QL=>?_⟩;have IA:Drawn p Er (upd Er p N2):=Drawn.upd QL;have G5:(upd Er p N2) p=some N2:=uS;generalize upd Er p N2=Lk at IA G5;have XN:=IA.keep _ _ wp XQ;refine⟨Y,Z,Ak (λ_=>?_) (λ_=>⟨tc,xs,Y,IA,Drawn.tup IA L4 FR QH,gc⟩)⟩;let Gx:Addr->Nat->LV->St->Hp->Prop:=λD i ys σ' H'=>Drawn p Lk H'/\H' D=some (.lst ys)/\∃(xs:LS) (o:OV),ys=xs.map V.str/\xs.length=i/\(∀ x∈xs,x∈rows.map (·.1))/\σ'=[o,some (.ref lw),some (.ref p)];refine⟨Z,n,Y,W,W,NH Fl (by rw[CJ];exact sL (by omega)) Gx
    (λD hD=>⟨(Drawn.refl ⟨N2,G5,QL⟩).new hD,uS,[],none,Y,Y,(λx h=>nomatch h),Y⟩) (λD i ys σ' H' _ h0=>by obtain⟨_,_,bs,_,e,el,_⟩:=h0;exact⟨trivial,by rw[e,Ya];omega⟩) ?_ ?_⟩
   ·rintro D i v ys σ' H' hD hi ⟨d,hl,xs,o,rfl,rfl,hb,rfl⟩;obtain⟨hi,rfl⟩:=Dk hi;obtain⟨o1,hpp,hoo⟩:=d.pot;have Hs:=d.keep _ _ wp XN;have pD:p≠D:=AF G5 hD;refine⟨Z,Z,Z,lw,Z,.inl (SqL.of Hs),p,_,o1,Y,hpp,hoo,U,U,λv o2 BR Bf BF=>?_⟩;obtain⟨x,hxm,hat⟩:=IX BR Bf;have d2:Drawn p H' (upd H' p o2):=Drawn.upd BF;refine⟨lw,_,_,Z,Y,SqL.of (d2.keep _ _ wp Hs),hat,d2.keep _ _ (Yj pD) hl,(d.trans d2).sub (o':=.lst []) (q:=D) (λb o hb e=>by rw[AD hb];exact e) hD pD,uS,xs++[x],_,by rw[Bw];rfl,by simp,λy hy=>?_,Y⟩
    rcases Yt.mp hy with z | z
    ·exact hb y z
    ·rw[Yi.mp z];exact hxm
   rintro i3 ys σ' g9 wm ⟨FX,Qf,Xs,o,rfl,I_,XM,rfl⟩;rw[CJ]at I_;have I_:Xs.length=n:=by simpa using I_
   refine⟨i3,Z,.inl ⟨SqL.of Qf,λUB XY=>?_⟩⟩;exact⟨UB,Xs,Y,(IA.trans FX).same (Dh XY),uS,⟨I_,XM⟩⟩
  rintro σ' Lk ⟨tc,xs,rfl,IA,Qe,gc⟩;have XG:AB H2 Lk:=λb u e=>IA.keep b u (AF e hp) (iM _ _ e);have ldp:ld≠p:=λz=>by rw[z,L6]at hld;cases hld
  refine⟨Z,Z,Z,Z,Z,sL (by show 5<=100000;decide),λt ht=>?_⟩;have st:AB Lk (upd Lk t (.tup [.ref l,.ref aa,.int n,.ref ld,.ref tc])):=Aw ht;have Qu:=XG.trans st;exact q t l aa ld tc n rows AI ds us xs _ (s2.trans Qu) uS (NS HI Qu) g (Qu _ _ Ce) (hA.mono λb xs e=>Qu _ _ e) n1 n4 (st _ _ (IA.keep _ _ ldp Qd)) ((Xo.drawn (p:=p) (o:=o7) λb zs e=>Drawn.tup IA L4 FR e).mono st) gd (by omega) (st _ _ Qe) gc
def WB{p:Addr}{H H':Hp}{o:HO}{ds:List (LS)}{us:LV}(h:Bv H ds us)(hp:H p=some o)(ho:Bh o)(d:Drawn p H H'):Bv H' ds us:=Paired.mapP h λ_ _ ⟨t,e,x⟩=>⟨t,e,Drawn.tup d hp ho x⟩
def dc{C B:Addr}{H H':Hp}{p k q:Addr}{o:HO}{rows:RS}{n:Nat}{ds:List (LS)}(h:Cm C B H p k rows n ds)(hq:H q=some o)(ho:Bh o)(d:Drawn q H H'):Cm C B H' p k rows n ds:=by
 obtain⟨dx,t,us,h1,h2,h3,h4⟩:=h.ex;obtain⟨r,b,eo,_⟩:=id ho;have F7:=hq;rw[eo]at F7;have nk:k≠q:=by
  intro z;obtain⟨_,_,_,_,_,_,_,e,_⟩:=h2.ex;rw[z,F7]at e;cases e
 exact⟨dx,t,us,d.keep _ _ (λz=>by rw[z,F7]at h1;cases h1) h1,dS h2 F7 d.keep nk (λ_ _ z=>by cases z) (λ_ z=>by cases z),d.keep _ _ (λz=>by rw[z,F7]at h3;cases h3) h3,WB h4 hq ho d⟩
def lR{K:Fg}{C:Addr}{Hx:Hp}{xb dx l:Addr}{rows:RS}{R:Hp->Prop}{E:XK}(nx:Hx xb=none)(ndx:Hx dx=none)(hR:Gi Hx l rows)(g:Ah rows)(h:∀ H',AB Hx H'->B3 C H' xb rows->R H'):
  U8 K C [.ref xb,.ref l] (upd (upd Hx dx (.own xb)) xb (.ins C dx [])) (λv H3=>v=.non/\R H3) E:=by
 have Dd:AB Hx (upd (upd Hx dx (.own xb)) xb (.ins C dx [])):=λb o e=>by
  have e1:(upd Hx dx (.own xb)) b=some o:=by rw[AD (AF e ndx)];exact e
  rw[AD (AF e nx)];exact e1
 exact⟨xb,dx,l,rows,Y,uS,(Gi.g (NS hR Dd)),g,λH4 kd keep=>⟨Y,h H4 (λb o e=>keep b o (AF e nx) (Dd _ _ e)) kd⟩⟩
def lQ{K:Fg}{C B:Addr}{Hx:Hp}{xb yb dy lz:Addr}{n:Nat}{rows:RS}{ds:List (LS)}{us:LV}{R:Hp->Prop}{E:XK}(ny:Hx yb=none)(ndy:Hx dy=none)(kd:B3 C Hx xb rows)(g:Ah rows)(hz:Hx lz=some (.lst us)\/Hx lz=some (.tup us))(hD:Bv Hx ds us)(gd:Fj rows n ds)(n1:1<=n)(n4:n<=4)(h:∀ H',AB Hx H'->Cm C B H' yb xb rows n ds->R H'):
  VO K C B [.ref yb,.ref xb,.int n,.ref lz] (upd (upd Hx dy (.own yb)) yb (.ins B dy [])) (λv H3=>v=.non/\R H3) E:=by
 have Dd:AB Hx (upd (upd Hx dy (.own yb)) yb (.ins B dy [])):=λb o e=>by
  have e1:(upd Hx dy (.own yb)) b=some o:=by rw[AD (AF e ndy)];exact e
  rw[AD (AF e ny)];exact e1
 exact⟨yb,dy,xb,lz,n,rows,ds,us,Y,uS,kd.mono Dd,g,hz.elim (λe=>.inl (SqL.of (Dd _ _ e))) (λe=>.inr (Dd _ _ e)),hD.mono Dd,gd,n1,n4,λH5 bd Qa=>⟨Y,h H5 (λb o e=>Qa b o (AF e ny) (Dd _ _ e)) bd⟩⟩
def ER(p:Addr)(H:Hp)(cs:List (List Int×List (LS)))(vs:LV):Prop:=Paired (λc v=>∃ t,v=.ref t/\Di p H t c.1 c.2) cs vs
theorem ER.mono{p:Addr}{H H':Hp}{cs:List (List Int×List (LS))}{vs:LV}(h:ER p H cs vs)(s:AB H H'):ER p H' cs vs:=Paired.mapP h λ_ _ ⟨t,e,h⟩=>⟨t,e,h.mono s⟩
theorem ER.drawn{p:Addr}{H H':Hp}{o:HO}{cs:List (List Int×List (LS))}{vs:LV}(h:ER p H cs vs)(hp:H p=some o)(ho:Bh o)(d:Drawn p H H'):ER p H' cs vs:=Paired.mapP h λ_ _ ⟨t,e,h⟩=>⟨t,e,h.drawn hp ho d⟩
def LD(c:LS):W.Dat:=.list (c.map W.Dat.str)
def Fd(c:List Int×List (LS)):W.Dat:=.tuple [.list (c.1.map W.Dat.int),.list (c.2.map LD)]
theorem cf{K:Fg}{H:Hp}:∀ {cs:List (LS)}{vs:LV},C1 H cs vs->Am K H vs (cs.map LD)
 | _,_,.nil=>.nil
 | _,_,.cons ⟨t,e,h⟩ r=>by
  subst e;exact .cons (.list (SqL.of h) (FF _)) (cf r)
def Zn{K:Fg}{H:Hp}{t:Addr}{c:List Int×List (LS)}(h:DH H t c.1 c.2):Rep K H (.ref t) (Fd c):=by
 obtain⟨lo,ll,vs,h1,h2,h3,h4⟩:=h;exact .tuple (AJ.of h1) (.cons (.list (SqL.of h2) (NM _)) (.cons (.list (SqL.of h3) (cf h4)) .nil))
theorem Vp{K:Fg}{p:Addr}{H:Hp}:∀ {cs:List (List Int×List (LS))}{vs:LV},ER p H cs vs->Am K H vs (cs.map Fd)
 | _,_,.nil=>.nil
 | _,_,.cons ⟨t,e,h⟩ r=>by
  subst e;exact .cons (Zn h.at_) (Vp r)
def vx{m:Nat}{c:LS}(h:Ej c):W.kqdOk (m + 2) (LD c)=true:=by
 show(c.map W.Dat.str).all (W.kqdOk (m + 1))=true;rw[Bc];intro d hd;obtain⟨x,hx,rfl⟩:=Yg.mp hd;exact(h x hx).1
def vz{m:Nat}{c:List Int×List (LS)}(h:Ci c.1 c.2):W.kqdOk (m + 4) (Fd c)=true:=by
 show([W.Dat.list (c.1.map W.Dat.int),.list (c.2.map LD)]).all (W.kqdOk (m + 3))=true;rw[Bc];intro d hd
 rcases Yr.mp hd with e | hd
 ·rw[e];show(c.1.map W.Dat.int).all (W.kqdOk (m + 2))=true;rw[Bc];intro d hd;obtain⟨x,hx,rfl⟩:=Yg.mp hd;rw[W.kqdOk]
 ·rw[Yi.mp hd];show(c.2.map LD).all (W.kqdOk (m + 2))=true;rw[Bc];intro d hd;obtain⟨x,hx,rfl⟩:=Yg.mp hd;exact vx (h.txt x hx).1
def Zc{cs:List (List Int×List (LS))}(h:∀ c∈cs,Ci c.1 c.2):W.kqdOk 9 (.list (cs.map Fd))=true:=by
 show(cs.map Fd).all (W.kqdOk 8)=true;rw[Bc];intro d hd;obtain⟨c,hc,rfl⟩:=Yg.mp hd;exact vz (h c hc)
def RY(H1:Hp)(cs:List (List Int×List (LS)))(vs:LV)(D:Addr)(v w':V)(H':Hp):Prop:=∃(c:List Int×List (LS)) (b:Addr),(∃ j:Nat,cs[j]?=some c/\vs[j]?=some v)/\w'=.ref b/\Ga (upd H1 D (.lst [])) H' b c.1 c.2
theorem RY.keep{H1 Ha Hb:Hp}{cs:List (List Int×List (LS))}{vs:LV}{D:Addr}{v w':V}(h:RY H1 cs vs D v w' Ha)(k:∀ b u,b≠D->Ha b=some u->Hb b=some u):RY H1 cs vs D v w' Hb:=by
 obtain⟨c,b,hc,e,h1⟩:=h;exact⟨c,b,hc,e,h1.keep (o:=.lst []) uS k⟩
def pV{K:Fg}{ll p:Addr}{H1:Hp}{o:HO}{cs:List (List Int×List (LS))}{vs:LV}{σ:St}{te:TE}{Q:VK}(hp:H1 p=some o)(hll:H1 ll=some (.lst vs))(hL:ER p H1 cs vs)(few:cs.length<=100)(ok:∀ c∈cs,Ci c.1 c.2)
  (he:∀(t:Addr) (c:List Int×List (LS)) H' (R:VK),DH H' t c.1 c.2->Ci c.1 c.2->(∀ l2 Bq,AB H' Bq->Ga H' Bq l2 c.1 c.2->R (.ref l2) Bq)->te [some (.ref t)] H' R)
  (hd:∀ D H2 hs,H1 D=none->AB H1 H2->H2 D=some (.lst hs)->ER p H2 cs hs->Q (.ref D) H2):AR 1 [] (C2 0) Ri te σ Q (Nt K ll) H1:=by
 have vl:=Ba hL;refine NG (EB (xs:=vs)) (sL (by omega)) (λ_=>true) (RY H1 cs vs) (λD v w' Ha Hb k h=>h.keep k) (λH' s'=>s'.seq (SqL.of hll)) ?_ ?_ ?_
 ·intro v H' R s' _ An;exact An H' (AB.refl _)
 ·intro D v H' R s' ⟨ys,hys⟩ hD hv _ An;obtain⟨i,hi⟩:=Ip hv;obtain⟨c,hc,t,rfl,ht⟩:=C6 hL hi;refine he t c H' R (ht.at_.mono s') (ok c (Yh hc)) λl2 H2 s2 n2=>?_;refine An (.ref l2) H2 s2 ⟨c,l2,⟨i,hc,hi⟩,Y,n2.sub λb hb=>?_⟩;by_cases z:b=D
  ·rw[z,hys]at hb;cases hb
  ·rw[AD z];exact s'.free hb
 intro lh H2 hs hlh s2 JL pp;rw[Fq.mpr (λ_ _=>rfl)]at pp;have hlv:vs.length=hs.length:=Ba pp;have same:∀ {i j:Nat} {c c':List Int×List (LS)} {v:V},cs[i]?=some c->vs[i]?=some v->cs[j]?=some c'->vs[j]?=some v->c=c':=λ{i j c c' v} h1 h2 h3 h4=>by
  obtain⟨y,hy,t,e,ht⟩:=K3 hL h1;obtain⟨y',Ey,t',e',Hu⟩:=K3 hL h3;rw[h2]at hy;rw[h4]at Ey;cases hy;cases Ey;rw[e]at e';cases e';obtain⟨lo,lx,ws,_,a1,a2,a3,a4⟩:=ht;obtain⟨N4,xI,Ea,_,b1,b2,b3,b4⟩:=Hu;rw[a1]at b1;cases b1;rw[a2]at b2;rw[a3]at b3;cases b3;have e1:c.1=c'.1:=by
   have:=Yv b2;injection this with this;exact List.map_inj_right (λa b z=>by injection z) |>.mp this
  have e2:c.2=c'.2:=by
   have:∀ {x y:List (LS)} {ws:LV},C1 H1 x ws->C1 H1 y ws->x=y:=by
    intro x y ws a
    induction a generalizing y with
    | nil=>intro b;cases b;rfl
    | cons h t ih =>
     intro b;cases b with
     | cons h' t' =>
      obtain⟨u,e,hu⟩:=h;obtain⟨u',e',A1⟩:=h';rw[e]at e';cases e';rw[hu]at A1;have:=Yv A1;injection this with this;rw[SQ this,ih t']
   exact this a4 b4
  exact Prod.ext e1 e2
 refine hd lh H2 hs hlh s2 JL (dY (by omega) λi c w' hc jI=>?_);obtain⟨v,hv,h⟩:=C6 pp jI;obtain⟨c',b,⟨j,Ap,KY⟩,e,n2⟩:=h;rw[same hc hv Ap KY];exact⟨b,e,n2.atN (by rw[AD (AF hp hlh)];exact hp)⟩
def Gf(d:LS)(cs:List (LS))(p:Int):Int:=(((cs.getD p.toNat []).idxOf (d.getD p.toNat ""):Nat):Int)
def Kw(d:LS)(ord:List Int)(cs:List (LS)):List Int:=ord.map (Gf d cs)
def Oi{c:LS}{a:Str}(h:a∈c):c[c.idxOf a]?=some a:=by
 have hl:=List.idxOf_lt_length_of_mem h;rw[Yb hl,List.getElem_idxOf hl]
def Mz{rows:RS}{ds:List (LS)}{xs:LS}{k:Nat}(h:k∈A0 rows ds xs):k<ds.length/\Cu rows xs (ds.getD k [])=true:=by
 unfold A0 at h;have:=Gs.mp h;exact⟨Cz.mp this.1,this.2⟩
section
variable {rows:RS}{n:Nat}{ds:List (LS)}{xs:LS}{ord:List Int}{cs:List (LS)}
def VH(g:Ah rows)(gd:Fj rows n ds)(gc:Cv rows n xs)(L:FK rows xs ord cs){k i:Nat}(hk:k∈A0 rows ds xs)(hi:i<n):∃ d x c,(ds.getD k [])[i]?=some d/\xs[i]?=some x/\cs[i]?=some c/\E7 rows x c/\d∈c/\(ds.getD k []).getD i ""=d/\cs.getD i []=c:=by
 obtain⟨kl,wi⟩:=Mz hk;have gk:=gd.call _ (Yh (Og kl));have h1:i<(ds.getD k []).length:=by rw[gk.len];exact hi
 have h2:i<xs.length:=by rw[gc.len];exact hi
 have h3:i<cs.length:=by rw[L.len];exact h2
 have e1:=Yb h1;have e2:=Yb h2;have e3:=Yb h3;have ln:=L.line i _ _ e2 e3;refine⟨_,_,_,e1,e2,e3,ln,?_,by rw[Yk,e1];rfl,by rw[Yk,e3];rfl⟩;rw[pF]at wi;refine ln.1.mem_iff.mpr ?_;unfold DV;exact Gs.mpr ⟨gk.known _ (Jw h1),IL.mpr (wi i _ _ e2 e1)⟩
def U4(gc:Cv rows n xs)(L:FK rows xs ord cs){p:Int}:p∈ord↔∃ i:Nat,i<n/\p=(i:Nat):=by
 rw[L.ord.mem_iff,gc.len];unfold BI;rw[Yg];constructor
 ·rintro⟨i,hi,rfl⟩;exact⟨i,Cz.mp hi,Y⟩
 ·rintro⟨i,hi,rfl⟩;exact⟨i,Cz.mpr hi,Y⟩
end
def JT(rows:RS)(ds:List (LS))(xs:LS)(ord:List Int)(cs:List (LS))(i:Nat):List Int:=Kw (ds.getD ((A0 rows ds xs).getD i 0) []) ord cs
def DY(rows:RS)(ds:List (LS))(xs:LS)(ord:List Int)(cs:List (LS)):LN:=(Km (O:=Kn) false (JT rows ds xs ord cs) (A0 rows ds xs).length).map λi=>(A0 rows ds xs).getD i 0
def n6(l:LN):((List.range l.length).map λi=>l.getD i 0)=l:=by
 refine List.ext_getElem (by rw[Ya,Hf]) λi i1 i2=>?_;rw[List.getElem_map,List.getElem_range,Yk,Yb i2];rfl
def cc(rows:RS)(ds:List (LS))(xs:LS)(ord:List Int)(cs:List (LS)):(DY rows ds xs ord cs).Perm (A0 rows ds xs):=by
 have:=(Sb (O:=Kn) false (JT rows ds xs ord cs) (A0 rows ds xs).length).map λi=>(A0 rows ds xs).getD i 0
 rwa [n6]at this
def vf(rows:RS)(ds:List (LS))(xs:LS)(ord:List Int)(cs:List (LS)):(DY rows ds xs ord cs).Pairwise (λa b=>HT.lexLt (Kw (ds.getD b []) ord cs) (Kw (ds.getD a []) ord cs)=false):=by
 unfold DY;rw[Nk];exact(p_ (O:=Kn) false (JT rows ds xs ord cs) (A0 rows ds xs).length).imp λh=>h
def lH(rows:RS)(ds:List (LS))(xs:LS)(ord:List Int)(cs:List (LS)):HR (O:=Kn) false (JT rows ds xs ord cs) ((A0 rows ds xs).map Az)=(DY rows ds xs ord cs).map Az:=by
 unfold HR DY;rw[Ya,CV];refine Nr λi hi=>?_;have hi:=Cz.mp ((Sb (O:=Kn) false (JT rows ds xs ord cs) _).mem_iff.mp hi);show((A0 rows ds xs).map Az).getD i V.non=Az ((A0 rows ds xs).getD i 0);rw[Yk,Yf,Yb hi,Yk,Yb hi];rfl
def av:Sp:=λvs H Q _=>∃(t lu:Addr) (d:LS) (ord:List Int) (cs:List (LS)),vs=[.ref t,.ref lu]/\H t=some (.tup (d.map V.str))/\DH H lu ord cs/\Ci ord cs/\(∀ p∈ord,∃(i:Nat) (z:Str) (c:LS),p=(i:Nat)/\d[i]?=some z/\cs[i]?=some c/\z∈c) /\
 ∀ l H',AB H H'->H' l=some (.lst ((Kw d ord cs).map V.int))->Q (.ref l) H'
def Rh(d:LS)(cs:List (LS)):V->V
 | .int p=>.int (Gf d cs p)
 | v=>v
theorem cF(d:LS)(cs:List (LS)):∀ ord:List Int,((ord.map V.int).filter λ_=>true).map (Rh d cs)=(Kw d ord cs).map V.int
 | []=>rfl
 | p :: r=>by
  show V.int (Gf d cs p):: ((r.map V.int).filter λ_=>true).map (Rh d cs)=_;rw[cF d cs r];rfl
def uV:(["place","lineup","deed"]:LS).Nodup:=by rfl'
def aW{H:Hp}{cs:List (LS)}{vs:LV}(h:C1 H cs vs){i:Nat}{c:LS}(hc:cs[i]?=some c):∃ t,vs[i]?=some (.ref t)/\H t=some (.lst (c.map V.str)):=by
 have hl:=Ba h;have hi:i<vs.length:=by have:=(Yn.mp hc).1;omega
 obtain⟨c',Ap,t,e,ht⟩:=C6 h (Yb hi);rw[hc]at Ap;injection Ap with Ap;exact⟨t,by rw[Yb hi,e],by rw[Ap];exact ht⟩
def dP{c:LS}{z:Str}:∀ {m:Nat}{y:Str},m<c.idxOf z->c[m]?=some y->y≠z:=λ{m y} hm hy e=>by
 induction c generalizing m with
 | nil=>cases hy
 | cons x c ih =>
  rw[List.idxOf_cons]at hm;by_cases hx:x=z
  ·rw[show(x == z)=true from by rw[hx];exact beq_self_eq_true _]at hm;exact absurd hm (Nat.not_lt_zero _)
  ·rw[show(x == z)=false from LM.mpr hx]at hm;cases m with
   | zero=>injection hy with hy;exact hx (hy.trans e)
   | succ m=>exact ih (m:=m) (by have:m + 1<c.idxOf z + 1:=hm;omega) hy
def FC{xs:LV}{v:Int}{x:V}(h0:0<=v)(h:xs[v.toNat]?=some x):A_ xs v=some x:=by
 have e:((v.toNat:Nat):Int)=v:=by omega
 have:=EK h;rw[e]at this;exact this
def uJ{X:Cx}{K:Fg}{T id:String}{name:Str}{r:V->LV->Hp->VK->Prop}{o e:Expr}{es:List Expr}{to:TE}{t:TA}{apos AU:Pos}(hK:X.K=K)(pa:PySem.PlainAttrs T)(slot:Slot T name id)(hty:typeOf (.builtin id)=pure (.type "method_descriptor"))(hm:W7 X id r)(ho:PE X o to)(ha:PA X (e :: es) t)
  (CN:attributeBase o name X.env (eval o X.env)=eval o X.env:=by rfl)
  (hfew:((backTo AU (starEach (e :: es) X.env)).all (λx=>!x.1)&&(backToKw AU (keywordEach [] X.env)).all (λx=>x.1.isSome)
   && decide ((e :: es).length + ([]:List Keyword).length + (if([]:List Keyword).isEmpty then 0 else 1)<30))=true:=by rfl)
  (CM:(apos.endLine == AU.line)=true:=by rfl) (hs:starEach (e :: es) X.env=(false,eval e X.env):: starEach es X.env:=by rfl) (hplain:(backTo AU (starEach es X.env)).any (·.1)=false:=by rfl):
  PE X (.Call (.Attribute o name apos) (e :: es) [] AU) (Xw K T r to t):=by
 subst hK;exact CH pa slot hty hm ho ha CN hfew CM hs hplain
abbrev LB:LS:=["deed","lineup"]
def gb:Ae LB LB (AL Om):=by nofun
def ku(F:Def K mg "spots" Om LB f fd):⋯ 1 f fd LB av:=by
 nomatch F.fn.ok gb
 ·obtain⟨t,lu,d,ord,cs,rfl,_⟩:=h;rfl
 ·obtain⟨t,lu,d,ord,cs,rfl,ht,⟨lo,ll,us,hlu,hlo,hll,hL⟩,ok,pl,q⟩:=h;have nd:=gb.nd
  ac_nf
  refine'⟨_,AH (AW ?e1),?_⟩
  case e1 =>
   refine' B5 ["place"] ["lineup","deed"] [1,0] (λ_=>BU (osc:=AL Om) (on:=LB) (by rfl') rfl rfl rfl) (C5 (AX (r:=CF K) CI (pv 1) AG (λ_ _=>rfl))) (λC s H fp=>BQ (i:=0) uV rfl (Or.inl rfl) (Or.inr rfl)) (λC s H fp=>CA) ?em
   case em=>exact(λC s H fp=>uJ (r:=ay K) rfl Yw TX Wu (Vz (TJ hr)) (AX (r:=BB K) Al (AX (r:=CF K) CI (pv 1) AG (λ_ _=>rfl)) (pv 0) (λ_ _=>rfl)) (pC (AX (r:=CF K) CI (pv 2) (pv 0) (λ_ _=>rfl)) AA))
  have few:=ok.few;refine⟨Z,lu,_,_,Z,Y,AJ.of hlu,Y,lo,Y,⟨_,SqL.of hlo⟩,Jp (EB (xs:=ord.map V.int)) (sL (by rw[Ya];omega)) (λ_=>true) (Rh d cs) (λH' s'=>s'.seq (SqL.of hlo)) ?_ ?_ ?_⟩
  ·intro v H' R s' _ An;exact An H' (AB.refl _)
  ·intro v H' R s' hv _ An;obtain⟨p,hp,rfl⟩:=Yg.mp hv;obtain⟨i,z,c,rfl,hz,hc,hzc⟩:=pl p hp;obtain⟨tc,htc,hcc⟩:=aW (hL.mono s') hc;obtain⟨cok,clen⟩:=ok.txt c (Yh hc);have JB:A_ us ((i:Nat):Int)=some (.ref tc):=FC (Hg _) (by rw[Bk];exact htc);have L_:A_ (d.map V.str) ((i:Nat):Int)=some (.str z):=FC (Hg _) (by rw[Bk,Yf,hz];rfl);have el:(c.map W.Dat.str).all (W.kqdOk 8)=true:=by
    rw[Bc];intro e he;obtain⟨y,hy,rfl⟩:=Yg.mp he;exact(cok y hy).1
   refine⟨Z,lu,_,_,Z,Y,AJ.of (s' _ _ hlu),Y,Z,ll,_,_,Z,Y,SqL.of (s' _ _ hll),JB,.inl ⟨Y,_,SqL.of hcc⟩,Z,Z,t,_,_,Z,Y,AJ.of (s' _ _ ht),L_,_,.str z,_,c.idxOf z,.str z,Y,.list (SqL.of hcc) (FF _),.str _,el,(cok z hzc).1,U,by rw[Yf,Oi hzc];rfl,EM _,λm e hm he=>?_,?_⟩
   ·obtain⟨y,hy,rfl⟩:=NL he;exact Gm λq=>dP hm hy (by injection q)
   ·have es:Rh d cs (.int ((i:Nat):Int))=.int ((c.idxOf z:Nat):Int):=by
     show V.int (Gf d cs (i:Nat))=_;unfold Gf;have e1:cs.getD i []=c:=by rw[Yk,hc];rfl
     have e2:d.getD i ""=z:=by rw[Yk,hz];rfl
     rw[Bk,e1,e2]
    rw[es]at An;exact An H' (AB.refl _)
  ·intro D H' hD s' hl;rw[cF]at hl;exact q D H' s' hl
def B3.monoT{C T:Addr}{H H':Hp}{p:Addr}{rows:RS}(h:B3 C H p rows)(hT:∃ ps,H T=some (.tbl ps))(s:Bm T H H'):B3 C H' p rows:=by
 obtain⟨ps,hT⟩:=hT;obtain⟨dx,d,a,o,oa,kvs,AI,h1,h2,h3,h4⟩:=h.ex;have k:∀ b u,(∀ ps,u≠.tbl ps)->H b=some u->H' b=some u:=λb u hn e=>s b u (λz=>by rw[z,hT]at e;cases e;exact hn _ rfl) e;exact⟨dx,d,a,o,oa,kvs,AI,k _ _ (λ_ z=>nomatch z) h1,⟨k _ _ (λ_ z=>nomatch z) h2.at_,h2.ups.mono λ_ _ e=>k _ _ (λ_ z=>nomatch z) e⟩,k _ _ (λ_ z=>nomatch z) h3,h4.mono λ_ _ _ e=>k _ _ (λ_ z=>nomatch z) e⟩
def pQ{T:Addr}{H H':Hp}{all rows:RS}{AI:KL}(h:BZ H all rows AI)(hT:∃ ps,H T=some (.tbl ps))(s:Bm T H H'):BZ H' all rows AI:=by
 obtain⟨ps,hT⟩:=hT;exact h.mono λb xs e=>s b _ (λz=>by rw[z,hT]at e;cases e) e
def tZ{T b:Addr}{H:Hp}{o:HO}(hT:∃ ps,H T=some (.tbl ps))(e:H b=some o)(n:∀ ps,o≠.tbl ps):b≠T:=λz=>by
 obtain⟨ps,hT⟩:=hT;rw[z,hT]at e;cases e;exact n _ rfl
def BV.okL{P:Program}{w:World}{K:Fg}{mg:Str->OU}{base:Heap}{x qual:Str}{st:Stmt}{N ps:LS}{k:Nat}{sp:Sp}(F:BV K x qual st f fd)(hc:fd.code=.ref c)(S:Ae N ps (AL st))(len:∀ vs H Q E,sp vs H Q E->vs.length=ps.length)
  (hbody:∀(A:Around) (outer:List Env) (s:Shared) (H:Hp) (vs:LV) (Q:VK) (E:XK),AV k (A.deeper (PyProof.Rows.envOfC qual (AL st) s.heap.objs.size f (.ref c)))->sp vs H Q E ->
   ∃ t,Bo (IE Hk P w K mg base N qual (AL st) f (.ref c) A outer s H E).nox (B4 st) t/\t {nx:=λ_ H'=>Q .non H',rt:=Q} (start N vs) H):⋯ (k + 1) f fd ps sp:=by
 obtain⟨oc,od,kV,doc,pm,an,Ai,ct,osl,rfl,lk,hcd⟩:=F.ex;have hc:Ai=.ref c:=hc;subst hc;refine Wh lk hcd S len λA outer s H vs Q E hr hsp=>?_;obtain⟨t,h,q⟩:=hbody A outer s H vs Q E hr hsp;exact⟨t,h.nox,q⟩
def B_{T:Addr}{H H':Hp}(hT:∃ ps,H T=some (.tbl ps))(s:Bm T H H'){b:Addr}{u:HO}(e:H b=some u)(n:∀ ps,u≠.tbl ps):H' b=some u:=s b u (tZ hT e n) e
def Bv.monoT{T:Addr}{H H':Hp}{ds:List (LS)}{us:LV}(h:Bv H ds us)(hT:∃ ps,H T=some (.tbl ps))(s:Bm T H H'):Bv H' ds us:=Paired.mapP h λ_ _ ⟨t,e,x⟩=>⟨t,e,B_ hT s x λ_ z=>nomatch z⟩
def C1.monoT{T:Addr}{H H':Hp}{cs:List (LS)}{vs:LV}(h:C1 H cs vs)(hT:∃ ps,H T=some (.tbl ps))(s:Bm T H H'):C1 H' cs vs:=Paired.mapP h λ_ _ ⟨t,e,x⟩=>⟨t,e,B_ hT s x λ_ z=>nomatch z⟩
theorem DH.monoT{T:Addr}{H H':Hp}{t:Addr}{ord:List Int}{cs:List (LS)}(h:DH H t ord cs)(hT:∃ ps,H T=some (.tbl ps))(s:Bm T H H'):DH H' t ord cs:=by
 obtain⟨lo,ll,vs,h1,h2,h3,h4⟩:=h;exact⟨lo,ll,vs,B_ hT s h1 (λ_ z=>nomatch z),B_ hT s h2 (λ_ z=>nomatch z),B_ hT s h3 (λ_ z=>nomatch z),h4.monoT hT s⟩
theorem Cm.monoT{C B T:Addr}{H H':Hp}{p k:Addr}{rows:RS}{n:Nat}{ds:List (LS)}(h:Cm C B H p k rows n ds)(hT:∃ ps,H T=some (.tbl ps))(s:Bm T H H'):Cm C B H' p k rows n ds:=by
 obtain⟨dx,t,us,h1,h2,h3,h4⟩:=h.ex;exact⟨dx,t,us,B_ hT s h1 (λ_ z=>nomatch z),h2.monoT hT s,B_ hT s h3 (λ_ z=>nomatch z),h4.monoT hT s⟩
abbrev eh:Str:="ranked.<locals>.<lambda>"
def vB:("ranked":Str)++(".<locals>.":Str)++("<lambda>":Str)=eh:=by rfl'
abbrev ID(T:Addr)(lp:Pos)(H:Hp):Prop:=E9 H T lp eh
structure HM(C B T:Addr)(lp:Pos)(H:Hp)(p t lu:Addr)(rows:RS)(n:Nat)(ds:List (LS))(xs:LS)(ord:List Int)(cs:List (LS)):Prop where
 bd:∃ k,Cm C B H p k rows n ds
 g:Ah rows
 gd:Fj rows n ds
 n4:n<=4
 d24:ds.length<=24
 ht:H t=some (.tup (xs.map V.str))
 gc:Cv rows n xs
 lu:DH H lu ord cs
 ok:Ci ord cs
 is:FK rows xs ord cs
 tab:ID T lp H
def Od(C B T:Addr)(lp:Pos):Sp:=λvs H Q _=>∃(p t lu:Addr) (rows:RS) (n:Nat) (ds:List (LS)) (xs:LS) (ord:List Int) (cs:List (LS)),vs=[.ref p,.ref t,.ref lu]/\HM C B T lp H p t lu rows n ds xs ord cs /\
 ∀ l H',H l=none->Bm T H H'->ID T lp H'->H' l=some (.lst ((DY rows ds xs ord cs).map Az))->Q (.ref l) H'
def R4(C B T:Addr)(lp:Pos):Sp:=λvs H Q _=>∃(p t lu:Addr) (rows:RS) (n:Nat) (ds:List (LS)) (xs:LS) (ord:List Int) (cs:List (LS)),vs=[.ref p,.ref t,.ref lu]/\HM C B T lp H p t lu rows n ds xs ord cs /\
 ∀ H',Bm T H H'->ID T lp H'->Q (match (DY rows ds xs ord cs)with | []=>.non | k :: _=>Az k) H'
def tJ{T D:Addr}{H H1:Hp}(hT:∃ ps,H T=some (.tbl ps))(h1:Bm T H H1)(D0:∃ ps,H1 T=some (.tbl ps))(hD:H1 D=none):H D=none:=by
 cases e:H D with
 | none=>rfl
 | some u =>
  obtain⟨ps,D0⟩:=D0;by_cases z:D=T
  ·rw[z,D0]at hD;cases hD
  ·rw[h1 D u z e]at hD;cases hD
abbrev As:LS:=["board","call","lineup"]
abbrev YG:LS:=["board","call","lineup","deeds"]
def TQ:Ae YG As (AL FE):=by nofun
def mn:∃ lp:Pos,∀ {f C B T c fI fF fD fS:Addr}{fd fdI fdF fdD fdS:FuncData}(F:Def K mg "ranked" FE As f fd) (hc:fd.code=.ref c) (LT:RZ mg base c T) (srt:mg "sorted"=none) (list:mg "list"=none) (TB:II K B) (MD:Z5 K B fD fdD)
  (DI:Def K mg "is_lineup" Jr As fI fdI) (GI:⋯ 7 fI fdI As (Rq C B)) (DF:Def K mg "fitting" O2 ["board","call"] fF fdF) (GF:⋯ 5 fF fdF ["board","call"] (cy C B)) (DS:Def K mg "spots" Om LB fS fdS),⋯ 8 f fd As (Od C B T lp):=by
 apply Exists.intro
 ·intro f C B T c fI fF fD fS fd fdI fdF fdD fdS F hc LT srt list TB MD DI GI DF GF DS;have GD:⋯ 1 fD fdD ["self"] (Vk C B):=dB MD.fn TB list;have GS:⋯ 1 fS fdS LB av:=ku DS;refine BV.okL F.fn hc TQ (λvs H Q E h=>?_) (λA outer s H vs Q E hr h=>?_)
  ·obtain⟨p,t,lu,rows,n,ds,xs,ord,cs,rfl,_⟩:=h;rfl
  ·obtain⟨p,t,lu,rows,n,ds,xs,ord,cs,rfl,ask,q⟩:=h;have nd:=TQ.nd;have Ac:AV 1 _:=hr.mono (by decide);have OA:AV 5 _:=hr.mono (by decide);have hrL:∀ env:Env,AV 1 ((A.deeper (PyProof.Rows.envOfC "ranked" (AL FE) s.heap.objs.size f (.ref c))).in1.in1.deeper env):=λenv=>(AV.deeper (AV.in1 (AV.in1 hr)) env).mono (by decide)
   ac_nf
   refine'⟨_,(pS (AY (CS (Bu (AN DI GI hr (pC (pv 0) (pC (pv 1) (pC (pv 2) AA)))))) Cn AZ)
   (pS (CB (i:=3) nd rfl (Or.inr rfl) (Jq (pv 0) TB.cl MD.me GD Ac MD.b .nil DX))
   (AH (AW (lB ["deeds","lineup"] [3,2] rfl (by rfl) srt (AN DF GF OA (pC (pv 0) (pC (pv 1) AA))) LT rfl vB (lL (osc:=AL FE) (on:=YG) (x:="number") (by rfl')) (Td (A6 (Gv _ _) (Gv _ _)) hr.dp) (AV.in1 (AV.in1 hr)).units0
     (λf' c' cl s' H'=>AN DS GS (hrL _) (pC (AX (r:=BB K) Al (pv 1) (pv 0) (λ_ _=>rfl)) (pC (pv 2) AA)))))))),?_⟩
   exists let b:=AE _ a;AE _ b _ _ _
   obtain⟨⟨k,bd⟩,g,gd,n4,d24,ht,gc,hlu,lok,lup,hT⟩:=ask;have fl:=SG rows ds xs;refine⟨Z,Z,Z,p,k,t,lu,rows,n,ds,xs,ord,cs,Y,bd,g,n4,ht,gc,hlu,lok,λv H1 s1 hv=>?_⟩;rw[hv.mpr lup];obtain⟨dx,ts,us,h1,h2,h3,h4⟩:=bd.ex;refine⟨Z,Av ⟨Z,p,dx,Z,s1 _ _ h1,dA _ _ _,p,k,rows,n,ds,Y,bd.mono s1,λld KD hld hD=>?_⟩⟩;have s2:AB H1 (upd H1 ld (.lst KD)):=Aw hld;have EE:(upd H1 ld (.lst KD)) ld=some (.lst KD):=uS;generalize upd H1 ld (.lst KD)=H2 at s2 EE;have De:=s1.trans s2;have jg:=hD.mono s2;refine⟨Z,Z,p,k,t,rows,n,ds,xs,Y,bd.mono De,g,gd,n4,De _ _ ht,gc,λl H3 hl s3 Cb=>?_⟩;have A9:=De.trans s3;refine⟨l,_,JT rows ds xs ord cs,n,Y,SqL.of Cb,U,hT.mono A9,λH4 sm RM=>⟨λi v H5 hi s5=>?_,λD H5 Ud s5 QT=>?_⟩⟩
   ·have tb:=(hT.mono A9).tbl;obtain⟨m,hm,rfl⟩:=NL hi;have hmf:=Yh hm;obtain⟨ml,mw⟩:=Mz hmf;obtain⟨tm,hat,htm⟩:=SF (jg.mono s3) (AB.refl _) ml;have XX:=s5 _ _ (B_ tb sm htm (λ_ z=>nomatch z));refine⟨Z,Z,ld,_,_,Z,Y,SqL.of (s5 _ _ (B_ tb sm (s3 _ _ EE) (λ_ z=>nomatch z))),hat,Z,tm,lu,_,ord,cs,Y,XX,((hlu.mono A9).monoT tb sm).mono s5,lok,λpl hpl=>?_,λl6 H6 s6 MW=>⟨s6,?_,l6,Y,?_⟩⟩
    ·obtain⟨i',DG,rfl⟩:=(U4 gc lup).mp hpl;obtain⟨d,x,c,a1,a2,a3,a4,a5,a6,a7⟩:=VH g gd gc lup hmf DG;exact⟨i',d,c,Y,a1,a3,a5⟩
    ·unfold JT Kw;rw[Ya,lup.ord.length_eq];unfold BI;rw[Ya,Hf,gc.len]
    ·unfold JT;have e:(A0 rows ds xs).getD i 0=m:=by rw[Yk,hm];rfl
     rw[e];exact MW
   ·rw[show(A0 rows ds xs).map (λi=>V.int (i:Nat))=(A0 rows ds xs).map Az from rfl,lH]at QT;have sT:=(A9.t (P:=T)).trans sm;exact q D H5 (tJ hT.tbl sT RM.tbl Ud) (sT.trans s5.t) (RM.mono s5) QT
def Nd:Ae ["board","call","lineup","ranks"] As (AL Jo):=by nofun
def kx{lp:Pos}(F:Def K mg "taken" Jo As f fd)(DR:Def K mg "ranked" FE As fR fdR)(GR:⋯ 8 fR fdR As (Od C B T lp)):⋯ 9 f fd As (R4 C B T lp):=by
 nomatch F.fn.ok Nd
 ·obtain⟨p,t,lu,rows,n,ds,xs,ord,cs,rfl,_⟩:=h;rfl
 ·obtain⟨p,t,lu,rows,n,ds,xs,ord,cs,rfl,ask,q⟩:=h;have nd:=Nd.nd
  ac_nf
  refine'⟨_,(pS (sE 3 nd (AN DR GR hr (pC (pv 0) (pC (pv 1) (pC (pv 2) AA)))))
   (AH (AW (lA (Vm (pv 3) (λ_=>rfl)) (AX (r:=BB K) Al (pv 3) AG (λ_ _=>rfl)) Mw)))),?_⟩
  exists AE _ a _ _ _
  refine⟨Z,Z,Z,p,t,lu,rows,n,ds,xs,ord,cs,Y,ask,λl H1 hl s1 D0 Cc=>?_⟩;have q1:=q H1 s1 D0;cases e:DY rows ds xs ord cs with
  | nil =>
   rw[e]at Cc q1;exact⟨Z,false,.inl ⟨_,SqL.of Cc,Y⟩,Av q1⟩
  | cons m r =>
   rw[e]at Cc q1;exact⟨Z,true,.inl ⟨_,SqL.of Cc,Y⟩,BM ⟨Z,l,_,_,Az m,Y,Y,SqL.of Cc,FC (Int.le_refl _) rfl,q1⟩⟩
def HM.copy{C B T:Addr}{lp:Pos}{H H':Hp}{p t lu l2:Addr}{rows:RS}{n:Nat}{ds:List (LS)}{xs:LS}{ord:List Int}{cs:List (LS)}(h:HM C B T lp H p t lu rows n ds xs ord cs)(s:AB H H')(c:DH H' l2 ord cs):HM C B T lp H' p t l2 rows n ds xs ord cs :=
 ⟨h.bd.elim λk b=>⟨k,b.mono s⟩,h.g,h.gd,h.n4,h.d24,s _ _ h.ht,h.gc,c,h.ok,h.is,h.tab.mono s⟩
theorem HM.monoT{C B T:Addr}{lp:Pos}{H H':Hp}{p t lu:Addr}{rows:RS}{n:Nat}{ds:List (LS)}{xs:LS}{ord:List Int}{cs:List (LS)}(h:HM C B T lp H p t lu rows n ds xs ord cs)(s:Bm T H H')(ht:ID T lp H'):HM C B T lp H' p t lu rows n ds xs ord cs :=
 ⟨h.bd.elim λk b=>⟨k,b.monoT h.tab.tbl s⟩,h.g,h.gd,h.n4,h.d24,B_ h.tab.tbl s h.ht (λ_ z=>nomatch z),h.gc,h.lu.monoT h.tab.tbl s,h.ok,h.is,ht⟩
def ar:Sp:=λvs H Q _=>∃(aa ld t:Addr) (n:Nat) (rows:RS) (AI:KL) (ds:List (LS)) (us:LV) (xs:LS),vs=[.ref aa,.ref ld,.ref t]/\Ah rows/\H aa=some (.dK AI)/\BZ H rows rows AI/\H ld=some (.lst us)/\Bv H ds us/\Fj rows n ds/\H t=some (.tup (xs.map V.str))/\Cv rows n xs/\n<=4 /\
 ∀ l H',H l=none->AB H H'->H' l=some (.lst ((A0 rows ds xs).map Az))->Q (.ref l) H'
def Zx:Sp:=λvs H Q _=>∃(l m:Addr) (ks:LN),vs=[.ref l,.ref m]/\H l=some (.lst (ks.map Az))/\H m=some (.lst (ks.map Az))/\ks.length<=64/\∀ H',AB H H'->Q (.bl true) H'
def vq:(["number"]:LS).Nodup:=by rfl'
abbrev K9:LS:=["above","deeds","call"]
def fc:Ae K9 K9 (AL O6):=by nofun
def km(F:Def K mg "_law_fits" O6 K9 f fd)(T:eW mg)(DLW:Def K mg "_law_within" PV KP fLW fdLW)(GLW:⋯ 1 fLW fdLW KP cz):⋯ 2 f fd K9 ar:=by
 nomatch F.fn.ok fc
 ·obtain⟨aa,ld,t,n,rows,AI,ds,us,xs,rfl,_⟩:=h;rfl
 ·obtain⟨aa,ld,t,n,rows,AI,ds,us,xs,rfl,g,Ce,hA,hld,hD,gd,ht,gc,hn,q⟩:=h;have nd:=fc.nd;have hul:=hD.length;have few:=gd.few
  ac_nf
  refine'⟨_,AH (AW ?e1),?_⟩
  case e1=>exact(B5 ["k"] ["above","call","deeds"] [0,2,1] (λ_=>BU (osc:=AL O6) (on:=K9) (by rfl') rfl rfl rfl) (Fm (by rfl) T.range (pC (Aa B8 (by rfl) T.len Yy (pC (pv 1) AA)) AA)) (λC s H fp=>BQ (i:=0) vJ rfl (Or.inl rfl) (Or.inr rfl))
    (λC s H fp=>Kv (Bu (AN DLW GLW hr (pC (pv 1) (pC (pv 2) (pC (AX (r:=BB K) Al (pv 3) (pv 0) (λ_ _=>rfl)) AA)))))) (λC s H fp=>pv 0))
  refine⟨Z,ld,Z,.inl (SqL.of hld),Z,W,W,Jp Fl (by rw[CJ];exact sL (by omega)) (WX rows ds xs) (λv=>v) (λ_ _=>trivial) ?_ ?_ ?_⟩
  ·intro x H' R s' hx hR;obtain⟨j,hj⟩:=Ip hx;obtain⟨hj,rfl⟩:=Dk hj;have hj:j<ds.length:=by omega
   obtain⟨tq,a1,htq⟩:=SF hD s' hj;refine⟨Z,Z,Z,Z,ld,_,_,Z,Y,SqL.of (s' _ _ hld),(by rw[Ep];exact a1),aa,t,tq,rows,AI,xs,Z,g,s' _ _ Ce,hA.mono λb xs e=>s' _ _ e,s' _ _ ht,htq,gc.known,by have:=gc.len;omega,λBq Br=>⟨Z,?_⟩⟩;have e:WX rows ds xs (V.int (0 + (j:Nat)))=Cu rows xs (ds.getD j []):=by
    show Cu rows xs (ds.getD ((0:Int) + (j:Nat)).toNat [])=_;rw[Ep,Bk]
   rw[<- e];exact hR Bq Br
  ·intro x H' R s' hx _ hR;exact⟨Z,hR H' (AB.refl _)⟩
  ·intro lf H1 hlf s1 Y7;rw[show((us.length:Nat):Int).toNat=ds.length by omega,vO]at Y7;exact q lf H1 hlf s1 Y7
abbrev K_:LS:=["found","due"]
def sO:Ae K_ K_ (AL PJ):=by nofun
def oW(F:Def K mg "_law_numbers" PJ K_ f fd)(isi:mg "isinstance"=none)(list:mg "list"=none)(all:mg "all"=none)(DW:Def K mg "_law_whole" PD ["found"] fW fdW)(GW:⋯ 1 fW fdW ["found"] VR):⋯ 2 f fd K_ Zx:=by
 nomatch F.fn.ok sO
 ·obtain⟨l,m,ks,rfl,_⟩:=h;rfl
 ·obtain⟨l,m,ks,rfl,hl,hm,D8,q⟩:=h;have hu:=hr.units
  ac_nf
  refine'⟨_,AH (AW (HU (Aa Vc (by rfl) isi Yu (pC (pv 0) (pC (R9 (v:=.ty "list") (by rfl) list FI rfl) AA))) (HU (Aa (r:=IG K λbs=>bs.all id) (NF rfl) (by rfl) all Nj (pC ?e1 AA)) (JZ (EL (Rk hu) (pv 0) (pv 1) (Ad _)))))),?_⟩
  case e1=>exact(B5 ["number"] [] [] (λ_=>BU (osc:=AL PJ) (on:=K_) (by rfl') rfl rfl rfl) (C5 (pv 0)) (λC s H fp=>BQ (i:=0) vq rfl (Or.inl rfl) (Or.inr rfl)) (λC s H fp=>CA) (λC s H fp=>AN DW GW hr (pC (pv 0) AA)))
  refine⟨Z,_,_,_,Z,.lst hl,Y,Z,BM ⟨Z,l,Y,⟨_,SqL.of hl⟩,Jp (EB (xs:=ks.map Az)) (sL (by rw[Ya];omega)) (λ_=>true) (λ_=>.bl true) (λH' s'=>s'.seq (SqL.of hl)) ?_ ?_ ?_⟩⟩
  ·intro v H' R s' _ An;exact An H' (AB.refl _)
  ·intro v H' R s' hv _ An;obtain⟨z,hz,rfl⟩:=Yg.mp hv;exact⟨Z,Z,An H' (AB.refl _)⟩
  ·intro D H1 hD s1 Cc;rw[Fq.mpr (λ_ _=>rfl),CV]at Cc;have e:ks.map ((λ_=>V.bl true) ∘ Az)=(ks.map λ_=>true).map V.bl:=by rw[CV];rfl
   rw[e]at Cc;have et:((ks.map λ_=>true).all id)=true:=Bc.mpr λb hb=>by obtain⟨_,_,rfl⟩:=Yg.mp hb;rfl
   refine⟨D,Z,SqL.of Cc,_,congrArg V.bl et,BM ⟨Z,Z,.list (ks.map Fb),.list (ks.map Fb),.list (SqL.of (s1 _ _ hl)) (O1 _),.list (SqL.of (s1 _ _ hm)) (O1 _),R8 _ _,R8 _ _,?_⟩⟩;rw[show(id (Bt (.list (ks.map Fb)) (.list (ks.map Fb))))=true from EM _];exact q H1 s1
abbrev Bl(ds:List (LS))(ord:List Int)(cs:List (LS))(k:Nat):List Int:=Kw (ds.getD k []) ord cs
theorem cY{κ:Nat->List Int}:∀ {A B:LN},A.Perm B->A.Pairwise (λa b=>HT.lexLt (κ a) (κ b)=true)->B.Pairwise (λa b=>HT.lexLt (κ b) (κ a)=false)->A=B
 | [],B,p,_,_=>(List.nil_perm.mp p).symm
 | a :: A,[],p,_,_=>nomatch p.mem_iff.mp (.head _)
 | a :: A,b :: B,p,pa,pb=>by
  have e:a=b:=Te λne=>by
   have h1:a∈B:=(Yr.mp (p.mem_iff.mp (.head _))).resolve_left ne;have h2:b∈A:=(Yr.mp (p.mem_iff.mpr (.head _))).resolve_left λz=>ne z.symm;have q1:=(Dn.mp pa).1 b h2;rw[(Dn.mp pb).1 a h1]at q1;cases q1
  subst e;rw[cY p.cons_inv (Dn.mp pa).2 (Dn.mp pb).2]
def aA{c:LS}{a b:Str}(ha:a∈c)(hb:b∈c)(h:c.idxOf a=c.idxOf b):a=b:=by
 have ga:=Oi ha;rw[h,Oi hb]at ga;injection ga with ga;exact ga.symm
section
variable {rows:RS}{n:Nat}{ds:List (LS)}{xs:LS}{ord:List Int}{cs:List (LS)}
def Z0(g:Ah rows)(gd:Fj rows n ds)(gc:Cv rows n xs)(L:FK rows xs ord cs){j k:Nat}(hj:j∈A0 rows ds xs)(hk:k∈A0 rows ds xs){p:Int}(hp:p∈ord):
  ∃(i:Nat) (z1 z2:Str) (c:LS),p=(i:Nat)/\i<n/\(ds.getD j [])[i]?=some z1/\(ds.getD k [])[i]?=some z2/\cs[i]?=some c/\z1∈c/\z2∈c/\Gf (ds.getD j []) cs p=(c.idxOf z1:Nat)/\Gf (ds.getD k []) cs p=(c.idxOf z2:Nat):=by
 obtain⟨i,hi,rfl⟩:=(U4 gc L).mp hp;obtain⟨d1,x1,c1,a1,a2,a3,a4,a5,a6,a7⟩:=VH g gd gc L hj hi;obtain⟨d2,x2,c2,b1,b2,b3,b4,b5,b6,b7⟩:=VH g gd gc L hk hi;rw[a3]at b3;injection b3 with b3;subst b3;refine⟨i,d1,d2,c1,Y,hi,a1,b1,a3,a5,b5,?_,?_⟩
 ·unfold Gf;rw[Bk,a6,a7]
 ·unfold Gf;rw[Bk,b6,a7]
def tO(g:Ah rows)(gd:Fj rows n ds)(gc:Cv rows n xs)(L:FK rows xs ord cs){j k:Nat}(hj:j∈A0 rows ds xs)(hk:k∈A0 rows ds xs)(e:Bl ds ord cs j=Bl ds ord cs k):j=k:=by
 obtain⟨jl,_⟩:=Mz hj;obtain⟨kl,_⟩:=Mz hk;have gj:=gd.call _ (Yh (Og jl));have gk:=gd.call _ (Yh (Og kl));have e:ord.map (Gf (ds.getD j []) cs)=ord.map (Gf (ds.getD k []) cs):=e;have ed:ds.getD j []=ds.getD k []:=List.ext_getElem (gj.len.trans gk.len.symm) λi i1 i2=>by
  have hp:((i:Nat):Int)∈ord:=(U4 gc L).mpr ⟨i,by rw[<- gj.len];exact i1,Y⟩;obtain⟨i',z1,z2,c,ei,_,h1,h2,_,m1,m2,s1,s2⟩:=Z0 g gd gc L hj hk hp;have ei:i=i':=by omega
  subst ei;have es:=List.map_inj_left.mp e _ hp;rw[s1,s2]at es;have ez:=aA m1 m2 (by omega);rw[Yb i1]at h1;rw[Yb i2]at h2;injection h1 with h1;injection h2 with h2;rw[h1,h2,ez]
 have e1:=Og jl;have e2:=Og kl;rw[ed]at e1;exact(List.getElem?_inj jl gd.nd).mp (e1.trans e2.symm)
end
structure P4(H:Hp)(ld lu:Addr)(rows:RS)(n:Nat)(ds:List (LS))(us:LV)(xs:LS)(ord:List Int)(cs:List (LS)):Prop where
 g:Ah rows
 gd:Fj rows n ds
 d24:ds.length<=24
 gc:Cv rows n xs
 hld:H ld=some (.lst us)
 hD:Bv H ds us
 lu:DH H lu ord cs
 ok:Ci ord cs
 is:FK rows xs ord cs
theorem P4.mono{H H':Hp}{ld lu:Addr}{rows:RS}{n:Nat}{ds:List (LS)}{us:LV}{xs:LS}{ord:List Int}{cs:List (LS)}(h:P4 H ld lu rows n ds us xs ord cs)(s:AB H H'):P4 H' ld lu rows n ds us xs ord cs :=
 ⟨h.g,h.gd,h.d24,h.gc,s _ _ h.hld,h.hD.mono s,h.lu.mono s,h.ok,h.is⟩
def gp:Sp:=λvs H Q _=>∃(ld lu:Addr) (j k:Nat) (rows:RS) (n:Nat) (ds:List (LS)) (us:LV) (xs:LS) (ord:List Int) (cs:List (LS)),vs=[.ref ld,.int j,.int k,.ref lu]/\P4 H ld lu rows n ds us xs ord cs/\j∈A0 rows ds xs/\k∈A0 rows ds xs /\
 ∀ H',AB H H'->Q (.bl (HT.lexLt (Bl ds ord cs j) (Bl ds ord cs k))) H'
def gs:Sp:=λvs H Q _=>∃(ld lf lu:Addr) (rows:RS) (n:Nat) (ds:List (LS)) (us:LV) (xs:LS) (ord:List Int) (cs:List (LS)),vs=[.ref ld,.ref lf,.ref lu]/\P4 H ld lu rows n ds us xs ord cs/\H lf=some (.lst ((A0 rows ds xs).map Az)) /\
 ∀ l H',H l=none->AB H H'->H' l=some (.lst ((DY rows ds xs ord cs).map Az))->Q (.ref l) H'
abbrev ir:LS:=["deeds","one","other","lineup","place","low","high"]
abbrev Pb:LS:=["deeds","one","other","lineup"]
def gG:Ae ir Pb (AL Ss):=by nofun
def mm(F:Def K mg "_law_ahead" Ss Pb f fd):⋯ 1 f fd Pb gp:=by
 nomatch F.fn.ok gG
 ·obtain⟨ld,lu,j,k,rows,n,ds,us,xs,ord,cs,rfl,_⟩:=h;rfl
 ·obtain⟨ld,lu,j,k,rows,n,ds,us,xs,ord,cs,rfl,⟨g,gd,d24,gc,hld,hD,⟨lo,ll,vs,hlu,hlo,hll,hL⟩,ok,lup⟩,hj,hk,q⟩:=h;have nd:=gG.nd;have ix:∀(i:Nat) (hi:i=5\/i=6),True:=λ_ _=>trivial
  ac_nf
  refine'⟨_,(pS (CQ Bb rfl (C5 (AX (r:=CF K) CI (pv 3) AG (λ_ _=>rfl))) (gE 4 nd)
    (pS (sE 5 nd (AX (r:=CF K) CI (AX (r:=BB K) Al (pv 0) (pv 1) (λ_ _=>rfl)) (pv 4) (λ_ _=>rfl)))
   (pS (sE 6 nd (AX (r:=CF K) CI (AX (r:=BB K) Al (pv 0) (pv 2) (λ_ _=>rfl)) (pv 4) (λ_ _=>rfl)))
   (AH (AY (Af Mr (pv 5) (pv 6) (Ad _)) (AH (AW (EL OS (CH Yw TX Wu (Vz (TJ hr)) (AX (r:=BB K) Al (AX (r:=CF K) CI (pv 3) AG (λ_ _=>rfl)) (pv 4) (λ_ _=>rfl)) (pC (pv 5) AA)) (CH Yw TX Wu (Vz (TJ hr)) (AX (r:=BB K) Al (AX (r:=CF K) CI (pv 3) AG (λ_ _=>rfl)) (pv 4) (λ_ _=>rfl)) (pC (pv 6) AA)) (Ad _)))) AZ)))))
   (AH (AW B1))),?_⟩
  exists let b:=_;let c:=BH _ b _;let e:=AE _ c;let f:=AE _ e;AE (Cg _ _ f) a _ _ _
  have few:=ok.few;obtain⟨jl,_⟩:=Mz hj;obtain⟨kl,_⟩:=Mz hk;obtain⟨tj,aj,htj⟩:=SF hD (AB.refl _) jl;obtain⟨tk,ak,htk⟩:=SF hD (AB.refl _) kl;let Bp:NW:=λi σ H'=>∃(x4 x5 x6:OV),σ=[some (.ref ld),some (.int j),some (.int k),some (.ref lu),x4,x5,x6]/\AB H H'/\HT.lexLt (Bl ds ord cs j) (Bl ds ord cs k)=HT.lexLt ((Bl ds ord cs j).drop i) ((Bl ds ord cs k).drop i);refine⟨Z,lu,_,_,Z,Y,AJ.of hlu,Y,lo,Y,⟨_,SqL.of hlo⟩,Cw (EB (xs:=ord.map V.int)) Bp
   ⟨none,none,none,Y,AB.refl _,Y⟩ (λi σ H' _ h0=>by obtain⟨_,_,_,_,s',_⟩:=h0;exact SqL.of (s' _ _ hlo)) ?_ ?_⟩
  ·rintro i v σ H' hi ⟨x4,x5,x6,rfl,s',he⟩;obtain⟨p,hp,rfl⟩:=NL hi;obtain⟨i',z1,z2,c,rfl,_,h1,h2,hc,m1,m2,e1,e2⟩:=Z0 g gd gc lup hj hk (Yh hp);have k1:(Bl ds ord cs j)[i]?=some ((c.idxOf z1:Nat):Int):=by rw[<- e1];show(ord.map _)[i]?=_;rw[Yf,hp];rfl
   have k2:(Bl ds ord cs k)[i]?=some ((c.idxOf z2:Nat):Int):=by rw[<- e2];show(ord.map _)[i]?=_;rw[Yf,hp];rfl
   rw[HT.lex_drop k1 k2]at he;have Mh:A_ ((ds.getD j []).map V.str) ((i':Nat):Int)=some (.str z1):=FC (Hg _) (by rw[Bk,Yf,h1];rfl);have at2:A_ ((ds.getD k []).map V.str) ((i':Nat):Int)=some (.str z2):=FC (Hg _) (by rw[Bk,Yf,h2];rfl);refine⟨Z,Z,ld,_,_,Z,Y,SqL.of (s' _ _ hld),aj,Z,tj,_,_,Z,Y,AJ.of (s' _ _ htj),Mh,?_⟩;refine⟨Z,Z,ld,_,_,Z,Y,SqL.of (s' _ _ hld),ak,Z,tk,_,_,Z,Y,AJ.of (s' _ _ htk),at2,?_⟩;refine⟨Z,Z,Y,Z,?_⟩;have ez:decide (V.str z1=V.str z2)=decide (z1=z2):=TV.mpr ⟨λq=>by injection q,λq=>by rw[q]⟩;rw[ez];by_cases z:z1=z2
   ·rw[Jb z];rw[if_pos (by rw[z])]at he;exact Av ⟨_,_,Z,s',he⟩
   ·rw[Jc z];rw[if_neg (λq=>z (aA m1 m2 (by omega)))]at he;obtain⟨tc,htc,hcc⟩:=aW (hL.mono s') hc;obtain⟨cok,clen⟩:=ok.txt c (Yh hc);have JB:A_ vs ((i':Nat):Int)=some (.ref tc):=FC (Hg _) (by rw[Bk];exact htc);have el:(c.map W.Dat.str).all (W.kqdOk 8)=true:=by
     rw[Bc];intro e he;obtain⟨y,hy,rfl⟩:=Yg.mp he;exact(cok y hy).1
    have bef:∀ {z:Str},∀ m e,m<c.idxOf z->(c.map W.Dat.str)[m]?=some e->Bt e (.str z)=false:=λm e hm he=>by
     obtain⟨y,hy,rfl⟩:=NL he;exact Gm λq=>dP hm hy (by injection q)
    refine BM ⟨Z,lu,_,_,Z,Y,AJ.of (s' _ _ hlu),Y,Z,ll,_,_,Z,Y,SqL.of (s' _ _ hll),JB,.inl ⟨Y,_,SqL.of hcc⟩,Z,_,.str z1,_,c.idxOf z1,.str z1,Y,.list (SqL.of hcc) (FF _),.str _,el,(cok z1 m1).1,U,by rw[Yf,Oi m1];rfl,EM _,bef,?_⟩;refine⟨Z,lu,_,_,Z,Y,AJ.of (s' _ _ hlu),Y,Z,ll,_,_,Z,Y,SqL.of (s' _ _ hll),JB,.inl ⟨Y,_,SqL.of hcc⟩,Z,_,.str z2,_,c.idxOf z2,.str z2,Y,.list (SqL.of hcc) (FF _),.str _,el,(cok z2 m2).1,U,by rw[Yf,Oi m2];rfl,EM _,bef,_,Z,Y,?_⟩;have:=q H' s';rw[he]at this;exact this
  ·rintro σ H' ⟨x4,x5,x6,rfl,s',he⟩;have:=q H' s';rw[he,Ya]at this;rw[Pw (by show(ord.map _).length<=_;rw[Ya];exact Yd _),Pw (by show(ord.map _).length<=_;rw[Ya];exact Yd _)]at this;exact this
def tL{κ:Nat->List Int}{R:LN}{m k:Nat}(pw:R.Pairwise λa b=>HT.lexLt (κ a) (κ b)=true)(lo:∀ a∈R.take m,HT.lexLt (κ a) (κ k)=true)(hi:∀ b∈R.drop m,HT.lexLt (κ k) (κ b)=true):(R.take m++k :: R.drop m).Pairwise λa b=>HT.lexLt (κ a) (κ b)=true:=by
 have p2:(R.take m++R.drop m).Pairwise λa b=>HT.lexLt (κ a) (κ b)=true:=by rw[Jt];exact pw
 obtain⟨pa,pb,pab⟩:=List.pairwise_append.mp p2;refine List.pairwise_append.mpr ⟨pa,Dn.mpr ⟨hi,pb⟩,λa ha b hb=>?_⟩
 rcases Yr.mp hb with rfl | hb
 ·exact lo a ha
 ·exact pab a ha b hb
def tK{κ:Nat->List Int}{R:LN}{m k:Nat}(pw:R.Pairwise λa b=>HT.lexLt (κ a) (κ b)=true)(h:∀ b,R[m]?=some b->HT.lexLt (κ k) (κ b)=true):∀ b∈R.drop m,HT.lexLt (κ k) (κ b)=true:=by
 intro b hb;by_cases hm:m<R.length
 ·rw[Pl hm]at hb;have h0:=h _ (Yb hm)
  rcases Yr.mp hb with rfl | hb
  ·exact h0
  ·have p2:(R.drop m).Pairwise λa b=>HT.lexLt (κ a) (κ b)=true:=pw.sublist (List.drop_sublist _ _);rw[Pl hm]at p2;exact Rj _ _ _ h0 ((Dn.mp p2).1 b hb)
 ·rw[Pw (by omega)]at hb;cases hb
def kW{R L:LN}{m k:Nat}(p:R.Perm L):(R.take m++k :: R.drop m).Perm (L++[k]):=by
 refine Pt.trans ?_;rw[Jt];exact(List.Perm.cons _ p).trans (List.perm_append_singleton _ _).symm
def mC{R:LN}{m:Nat}{b:Nat}{Pr:Nat->Prop}(h:∀ a∈R.take m,Pr a)(hb:R[m]?=some b)(pb:Pr b):∀ a∈R.take (m + 1),Pr a:=by
 intro a ha;rw[Dm,hb]at ha
 rcases Yt.mp ha with z | z
 ·exact h a z
 ·cases z with
  | head=>exact pb
  | tail _ z=>cases z
abbrev ig:LS:=["deeds","fits","lineup","row","number","at"]
abbrev Pd:LS:=["deeds","fits","lineup"]
def fg:Ae ig Pd (AL S3):=by nofun
def oR(F:Def K mg "_law_ranked" S3 Pd f fd)(len:mg "len"=none)(DA:Def K mg "_law_ahead" Ss Pb fA fdA)(GA:⋯ 1 fA fdA Pb gp):⋯ 2 f fd Pd gs:=by
 nomatch F.fn.ok fg
 ·obtain⟨ld,lf,lu,rows,n,ds,us,xs,ord,cs,rfl,_⟩:=h;rfl
 ·obtain⟨ld,lf,lu,rows,n,ds,us,xs,ord,cs,rfl,rk,hlf,q⟩:=h;have nd:=fg.nd;have fl:=SG rows ds xs;have d24:=rk.d24
  ac_nf
  refine'⟨_,(pS (sE 3 nd (B2 AA))
   (pS (CQ Bb rfl (C5 (pv 1)) (gE 4 nd)
    (pS (sE 5 nd AG)
   (pS (K0 Bb (PW.pt (Ob (Af OS (pv 5) (Aa B8 (by rfl) len Yy (pC (pv 3) AA)) (Ad _)) (Ol (Bu (AN DA GA hr (pC (pv 0) (pC (AX (r:=BB K) Al (pv 3) (pv 5) (λ_ _=>rfl)) (pC (pv 4) (pC (pv 2) AA)))))))))
     (AH (sE 5 nd (Ag El (pv 5) AG))))
   (AH (Bi (CH Yw LI LH K2 (pv 3) (pC (pv 5) (pC (pv 4) AA))))))))
   (AH (AW (pv 3))))),?_⟩
  exists let b:=_;let c:=_;let e:=AE (My _ c) b;let f:=AE _ e;let g:=AE (Cg _ _ f) a;AE _ g _ _ _
  refine⟨A7 _,λlr hlr=>?_⟩;have s1:AB H (upd H lr (.lst [])):=Aw hlr;have BG:(upd H lr (.lst [])) lr=some (.lst []):=uS;generalize upd H lr (.lst [])=H1 at s1 BG;have lfr:lf≠lr:=AF hlf hlr;let Bp:NW:=λi σ H'=>∃(R:LN) (x4 x5:OV),σ=[some (.ref ld),some (.ref lf),some (.ref lu),some (.ref lr),x4,x5]/\AB H H'/\H' lr=some (.lst (R.map Az))/\R.Perm ((A0 rows ds xs).take i)/\R.Pairwise (λa b=>HT.lexLt (Bl ds ord cs a) (Bl ds ord cs b)=true);refine⟨Z,lf,Y,⟨_,SqL.of (s1 _ _ hlf)⟩,Cw (EB (xs:=(A0 rows ds xs).map Az)) Bp
   ⟨[],none,none,Y,s1,BG,Ij _,.nil⟩ (λi σ H' _ h0=>by obtain⟨_,_,_,_,s',_⟩:=h0;exact SqL.of (s' _ _ hlf)) ?_ ?_⟩
  ·rintro i v σ H' hi ⟨R,x4,x5,rfl,s',hR,pR,pw⟩;obtain⟨k,hk,rfl⟩:=vG hi;have hkf:=Yh hk;have inR:∀ a∈R,a∈A0 rows ds xs:=λa ha=>J2 (pR.mem_iff.mp ha);have knR:k∉R:=λh=>by
    have ht:=pR.mem_iff.mp h;obtain⟨j,hj,e⟩:=Nh.mp ht;rw[Yz]at hj;rw[List.getElem_take]at e;obtain⟨DG,ei⟩:=Yn.mp hk;exact List.pairwise_iff_getElem.mp (J3.mp (vR rows ds xs)) j i (by omega) DG (by omega) (e.trans ei.symm)
   have Rl:R.length<=24:=by rw[pR.length_eq,Yz];omega
   let Cr:NW:=λm σ H'=>∃(at':Nat),σ=[some (.ref ld),some (.ref lf),some (.ref lu),some (.ref lr),some (.int (k:Nat)),some (.int (at':Nat))]/\AB H H'/\H' lr=some (.lst (R.map Az))/\at'<=R.length/\(∀ a∈R.take at',HT.lexLt (Bl ds ord cs a) (Bl ds ord cs k)=true)/\m=R.length - at';refine⟨Cr,
    ⟨_,0,Y,s',hR,A7 _,(λa h=>by rw[List.take_zero]at h;cases h),Y⟩,?_⟩
   rintro m σ H2 ⟨at',rfl,s2,HI,le,lo,rfl⟩;refine⟨Z,Z,lr,Z,.inl (SqL.of HI),_,Z,Y,Z,?_⟩;have fin:∀ H3,AB H H3->H3 lr=some (.lst (R.map Az))->(∀ b,R[at']?=some b->HT.lexLt (Bl ds ord cs k) (Bl ds ord cs b)=true)->∃(R':LN),(R.map Az).take at'++Az k :: (R.map Az).drop at'=R'.map Az/\R'.Perm ((A0 rows ds xs).take (i + 1))/\R'.Pairwise (λa b=>HT.lexLt (Bl ds ord cs a) (Bl ds ord cs b)=true):=λH3 s3 h3 hb=>by
    refine⟨R.take at'++k :: R.drop at',by rw[Bw,Ym,Iq,LF],?_,tL pw lo (tK pw hb)⟩;rw[Dm,hk];exact kW pR
   by_cases hm:at'<R.length
   ·rw[show decide (((at':Nat):Int)<(((R.map Az).length:Nat):Int))=true from Jb (by rw[Ya];omega)];have gm:=Yb hm;generalize R[at']=b at gm;have hbR:=Yh gm;have hat:A_ (R.map Az) ((at':Nat):Int)=some (Az b):=FC (Hg _) (by rw[Bk,Yf,gm];rfl);refine BM ⟨Z,Z,Z,lr,_,_,Z,Y,SqL.of HI,hat,Z,Z,ld,lu,b,k,rows,n,ds,us,xs,ord,cs,Y,rk.mono s2,inR b hbR,hkf,λH3 s3=>⟨Z,?_⟩⟩;have RO:=s3 _ _ HI;have A9:=s2.trans s3;cases hx:HT.lexLt (Bl ds ord cs b) (Bl ds ord cs k)with
    | true =>
     let FL:SW:=λσ' H'=>∃ m',m'<R.length - at'/\∃(at':Nat),σ'=[some (.ref ld),some (.ref lf),some (.ref lu),some (.ref lr),some (.int (k:Nat)),some (.int (at':Nat))]/\AB H H'/\H' lr=some (.lst (R.map Az))/\at'<=R.length/\(∀ a∈R.take at',HT.lexLt (Bl ds ord cs a) (Bl ds ord cs k)=true)/\m'=R.length - at';refine BM ⟨FL,λ_ _ h=>h,?_⟩;exact⟨Z,_,Z,Y,_,W,at' + 1,Y,A9,RO,hm,mC lo gm hx,Y⟩
    | false =>
     refine Av ?_;have hb:∀ b',R[at']?=some b'->HT.lexLt (Bl ds ord cs k) (Bl ds ord cs b')=true:=λb' h'=>by
      rw[gm]at h';injection h' with h';subst h';cases hy:HT.lexLt (Bl ds ord cs k) (Bl ds ord cs b)with
      | true=>rfl
      | false=>exact absurd (tO rk.g rk.gd rk.gc rk.is (inR b hbR) hkf (R1 _ _ hx hy)) λz=>knR (z ▸ hbR)
     obtain⟨R',e',p',w'⟩:=fin H3 A9 RO hb;refine⟨Z,.inl ⟨Y,_,SqL.of RO⟩,Z,Z,lr,_,_,Z,Y,RO,Hg _,U,B7 (by rw[Ya];omega),?_⟩;refine⟨R',_,Z,λc u e=>by rw[AD (AF e hlr)];exact A9 _ _ e,?_,p',w'⟩;rw[uS,Bk];exact congrArg (λz=>some (HO.lst z)) e'
   ·rw[show decide (((at':Nat):Int)<(((R.map Az).length:Nat):Int))=false from Jc (by rw[Ya];omega)];obtain⟨R',e',p',w'⟩:=fin H2 s2 HI (λb h=>by rw[Gu (by omega)]at h;cases h);refine Av (Av ?_);refine⟨Z,.inl ⟨Y,_,SqL.of HI⟩,Z,Z,lr,_,_,Z,Y,HI,Hg _,U,B7 (by rw[Ya];omega),?_⟩;refine⟨R',_,Z,λc u e=>by rw[AD (AF e hlr)];exact s2 _ _ e,?_,p',w'⟩;rw[uS,Bk];exact congrArg (λz=>some (HO.lst z)) e'
  ·rintro σ H' ⟨R,x4,x5,rfl,s',hR,pR,pw⟩;rw[Ya,FJ]at pR;have e:R=DY rows ds xs ord cs:=cY (κ:=Bl ds ord cs) (pR.trans (cc rows ds xs ord cs).symm) pw (vf rows ds xs ord cs);rw[e]at hR;exact⟨Z,q lr H' hlr s' hR⟩
def gr:Sp:=λvs H Q _=>∃(a l:Addr) (rows:RS) (AI:KL) (x:Str) (ls:LS),vs=[.ref a,.str x,.ref l]/\Ah rows/\H a=some (.dK AI)/\BZ H rows rows AI/\x∈rows.map (·.1)/\H l=some (.lst (ls.map V.str))/\(∀ z∈ls,PyData.strOk z=true)/\ls.length<64/\∀ v H',AB H H'->(v=true↔E7 rows x ls)->Q (.bl v) H'
abbrev YK:LS:=["above","word","line","k"]
def ff:Ae YK ["above","word","line"] (AL PH):=by nofun
def vI:(["high","above","line","k"]:LS).Nodup:=by rfl'
def uA(F:Def K mg "_law_is_line" PH ["above","word","line"] f fd)(srt:mg "sorted"=none)(any:mg "any"=none)(range:mg "range"=none)(len:mg "len"=none):⋯ 1 f fd ["above","word","line"] gr:=by
 nomatch F.fn.ok ff
 ·obtain⟨a,l,rows,AI,x,ls,rfl,_⟩:=h;rfl
 ·obtain⟨a,l,rows,AI,x,ls,rfl,g,ha,hA,hx,hl,lok,D8,q⟩:=h;have nd:=ff.nd;have hu:=hr.units;have A1:=Ei hr
  ac_nf
  refine'⟨_,(pS (AY (Af (Kq hu) (Aa Se (by rfl) srt Nl (pC (pv 2) AA)) (Aa Se (by rfl) srt Nl (pC (Gn A1 (pv 0) (pv 1) (λ_ _=>rfl)) AA)) (Ad _)) (AH (AW B1)) AZ)
   (pS (CQ Bb rfl (Fm (by rfl) range (pC (Aa B8 (by rfl) len Yy (pC (pv 2) AA)) AA)) (BQ (i:=3) nd rfl (Or.inr rfl))
    (AH (AY (Bu (Aa (r:=IG K λbs=>bs.any id) (SD rfl) (by rfl) any Tg (pC ?e1 AA))) (AH (AW B1)) AZ)))
   (AH (AW B1)))),?_⟩
  case e1=>exact(B5 ["high"] ["above","line","k"] [0,2,3] (λ_=>BU (osc:=AL PH) (on:=YK) (by rfl') rfl rfl rfl) (C5 (IV (r:=WY K) VM (pv 2) IS (IT (pv 3)))) (λC s H fp=>BQ (i:=0) vI rfl (Or.inl rfl) (Or.inr rfl)) (λC s H fp=>CA)
    (λC s H fp=>EL (r:=N1 K false) O0 (pv 0) (Gn A1 (pv 1) (AX (r:=BB K) Al (pv 2) (pv 3) (λ_ _=>rfl)) (λ_ _=>rfl)) (by with_unfolding_all rfl)))
  exists let b:=_;let c:=AE (Cg _ _ b) a;AE _ c _ _ _
  obtain⟨r0,Hv,Uo⟩:=En hx;obtain⟨t0,fs,BR,Ht,Kg,_,fnd⟩:=hA.val' g.nd Hv;rw[Uo]at BR Kg;have fp:=Z_ g hx Kg fnd;have fle:fs.length<=24:=by rw[fp.length_eq];exact Vf g x
  refine⟨Z,l,ls,Y,SqL.of hl,D8,λs1 l1 p1 o1 Cc=>?_⟩;have Hm:AB H (upd H l1 (.lst (s1.map V.str))):=Aw Cc;have BG:(upd H l1 (.lst (s1.map V.str))) l1=some (.lst (s1.map V.str)):=uS;generalize upd H l1 (.lst (s1.map V.str))=H1 at Hm BG;refine⟨Z,Z,a,Z,(by rw[<- BR];exact BL.k (k:=Sum.inr x) (Hm _ _ ha)),t0,fs,Y,SqL.of (Hm _ _ Ht),W,λs2 l3 p3 o3 Cb=>?_⟩;have MN:AB H1 (upd H1 l3 (.lst (s2.map V.str))):=Aw Cb;have GJ:(upd H1 l3 (.lst (s2.map V.str))) l3=some (.lst (s2.map V.str)):=uS;generalize upd H1 l3 (.lst (s2.map V.str))=H3 at MN GJ;have A9:=Hm.trans MN;have ok1:∀ z∈s1,PyData.strOk z=true:=λz hz=>lok z (p1.mem_iff.mp hz);have UJ:∀ z∈s2,PyData.strOk z=true:=λz hz=>by
   obtain⟨r,Aj,e⟩:=Yg.mp (SU (fp.mem_iff.mp (p3.mem_iff.mp hz)));rw[<- e];exact Oo (g.word r Aj)
  refine⟨.list (s1.map W.Dat.str),.list (s2.map W.Dat.str),.list (SqL.of (MN _ _ BG)) (FF _),.list (SqL.of GJ) (FF _),Oy ok1,Oy UJ,Z,?_⟩;by_cases hp:ls.Perm (DV rows x)
  ·have EG:s1=s2:=eB o1 o3 (p1.trans (hp.trans (fp.symm.trans p3.symm)));rw[EG,EM];have kn:∀ z∈ls,z∈rows.map (·.1):=λz hz=>SU (hp.mem_iff.mp hz);let Bp:NW:=λi σ H'=>∃ x3:OV,σ=[some (.ref a),some (.str x),some (.ref l),x3]/\AB H H'/\∀ k c b,k<i->ls[k]?=some c->b∈ls.take k->¬ Graph.Reach (Ao rows) c b;refine Av ⟨Z,l,Z,.inl (SqL.of (A9 _ _ hl)),Z,W,U,Cw Fl Bp
    ⟨none,Y,A9,λk _ _ h=>absurd h (Nat.not_lt_zero _)⟩ (λ_ _ _ _ _=>trivial) ?_ ?_⟩
   ·rintro i v σ H4 hi ⟨x3,rfl,s4,ah⟩;obtain⟨Cd,rfl⟩:=Dk hi;rw[Ya]at Cd;have jU:i<ls.length:=by omega
    have hy:ls[i]?=some ls[i]:=Yb jU;generalize ls[i]=y at hy;have hyw:=kn y (Yh hy);have FT:=s4 _ _ hl;refine⟨Z,Z,Z,l,Z,SqL.of FT,λl5 Hz=>?_⟩;dsimp only[R5]at *;rw[show DM (ls.map V.str) none (some (0 + (i:Int)))=(ls.take i).map V.str from by rw[Ep,bZ,Iq]];have s5:AB H4 (upd H4 l5 (.lst ((ls.take i).map V.str))):=Aw Hz;have Ui:(upd H4 l5 (.lst ((ls.take i).map V.str))) l5=some (.lst ((ls.take i).map V.str)):=uS;generalize upd H4 l5 (.lst ((ls.take i).map V.str))=H5 at s5 Ui;refine⟨l5,Y,⟨_,SqL.of Ui⟩,Jp (EB (xs:=(ls.take i).map V.str)) (sL (by rw[Ya,Yz];omega)) (λ_=>true) (Y4 rows y) (λH' s'=>s'.seq (SqL.of Ui)) ?_ ?_ ?_⟩
    ·intro v H' R s' _ An;exact An H' (AB.refl _)
    ·intro v H' R s' hv _ An;obtain⟨z,hz,rfl⟩:=Yg.mp hv;have Dw:=s4.trans (s5.trans s');obtain⟨r2,L3,Me⟩:=En hyw;obtain⟨t2,f2,KW,Bg,hin⟩:=(hA.mono λb xs e=>Dw b _ e).val g.nd L3;rw[Me]at KW hin;refine⟨Z,Z,Z,Z,l,_,_,Z,Y,SqL.of (Dw _ _ hl),(by rw[Ep];exact EK (by rw[Yf,hy];rfl)),a,Z,(by rw[<- KW];exact BL.k (k:=Sum.inr y) (Dw _ _ ha)),t2,Z,.inl (SqL.of Bg),Y,NK f2,?_⟩;rw[show(if false=true then !Ec (V.str z) (f2.map V.str)else Ec (V.str z) (f2.map V.str))=A5 rows y z from by rw[if_neg (by decide),Kt,Vy hin]];exact An H' (AB.refl _)
    ·intro D3 H6 Ue s6 MW;rw[ZV]at MW;refine⟨D3,Z,SqL.of MW,Z,Ak (λh=>?_) (λh=>?_)⟩
     ·have h:(((ls.take i).map λb=>A5 rows y b).any id)=true:=h;rw[Fx]at h;obtain⟨c,hc,ec⟩:=h;obtain⟨z,hz,rfl⟩:=Yg.mp hc;exact q false H6 (s4.trans (s5.trans s6)) ⟨(λz=>by cases z),λlp=>absurd (IL.mp ec) (lp.2 i y z hy hz)⟩
     ·have h:¬ (((ls.take i).map λb=>A5 rows y b).any id)=true:=h;refine⟨Z,s4.trans (s5.trans s6),λk c b hk hc hb re=>?_⟩
      rcases Nat.lt_succ_iff_lt_or_eq.mp hk with z | z
      ·exact ah k c b z hc hb re
      ·subst z;rw[hy]at hc;cases hc;exact h (Fx.mpr ⟨true,Yg.mpr ⟨b,hb,IL.mpr re⟩,Y⟩)
   ·rintro σ H4 ⟨x3,rfl,s4,ah⟩;refine q true H4 s4 ⟨λ_=>⟨hp,λk c b hc hb=>ah k c b ?_ hc hb⟩,λ_=>rfl⟩;rw[CJ,Ya,Bk];exact(Yn.mp hc).1
  ·have EG:s1≠s2:=λe=>hp ((p1.symm.trans (e ▸ Ij _)).trans (p3.trans fp));rw[show(!Bt (.list (s1.map W.Dat.str)) (.list (s2.map W.Dat.str)))=true from by
    rw[Gm (λz=>by injection z with z;exact EG (bg z))];rfl]
   exact BM (q false H3 A9 ⟨(λz=>by cases z),λz=>absurd z.1 hp⟩)
def Zw:Sp:=λvs H Q _=>∃(a t lu:Addr) (rows:RS) (AI:KL) (xs:LS) (ord:List Int) (cs:List (LS)),vs=[.ref a,.ref t,.ref lu]/\Ah rows/\H a=some (.dK AI)/\BZ H rows rows AI/\H t=some (.tup (xs.map V.str))/\(∀ x∈xs,x∈rows.map (·.1))/\xs.length<=4/\DH H lu ord cs/\Ci ord cs/\∀ v H',AB H H'->(v=true↔FK rows xs ord cs)->Q (.bl v) H'
abbrev LA:LS:=["above","call","lineup"]
def sN:Ae LA LA (AL PY):=by nofun
def uZ:(["word","line","above"]:LS).Nodup:=by rfl'
def v_(F:Def K mg "_law_is_lineup" PY LA f fd)(srt:mg "sorted"=none)(list:mg "list"=none)(range:mg "range"=none)(len:mg "len"=none)(all:mg "all"=none)(zip:mg "zip"=none)
  (DL:Def K mg "_law_is_line" PH ["above","word","line"] fL fdL) (GL:⋯ 1 fL fdL ["above","word","line"] gr):⋯ 2 f fd LA Zw:=by
 nomatch F.fn.ok sN
 ·obtain⟨a,t,lu,rows,AI,xs,ord,cs,rfl,_⟩:=h;rfl
 ·obtain⟨a,t,lu,rows,AI,xs,ord,cs,rfl,g,ha,hA,ht,kn,x4,hlu,lok,q⟩:=h;have hu:=hr.units
  ac_nf
  refine'⟨_,(pS (AY (PW.pt (Rf (Af (Kq hu) (Aa dG (by rfl) srt Nl (pC (AX (r:=CF K) CI (pv 2) AG (λ_ _=>rfl)) AA)) (WI rfl (Aa B8 (by rfl) len Yy (pC (pv 1) AA)) (by rfl) list (by rfl) range) (Ad _)) (Ro (Af Mr (Aa B8 (by rfl) len Yy (pC (AX (r:=CF K) CI (pv 2) AG (λ_ _=>rfl)) AA)) (Aa B8 (by rfl) len Yy (pC (pv 1) AA)) (Ad _))))) (AH (AW B1)) AZ)
   (AH (AW (Aa (r:=IG K λbs=>bs.all id) (NF rfl) (by rfl) all Nj (pC ?e1 AA))))),?_⟩
  case e1=>exact(B5 ["word","line"] ["above"] [0] (λ_=>BU (osc:=AL PY) (on:=LA) (by rfl') rfl rfl rfl) (aU (by rfl) zip (pC (pv 1) (pC (AX (r:=CF K) CI (pv 2) AG (λ_ _=>rfl)) AA))) (λC s H fp=>Rn (K:=K) (i:=0) (j:=1) rfl rfl uZ rfl rfl (Or.inl rfl) (Or.inl rfl) (Or.inr rfl) (Or.inr rfl)) (λC s H fp=>CA) (λC s H fp=>AN DL GL hr (pC (pv 2) (pC (pv 0) (pC (pv 1) AA)))))
  exists AE _ a _ _ _
  obtain⟨lo,ll,vs,Ab,hlo,hll,hL⟩:=hlu;have few:=lok.few;have fewL:=lok.fewL;refine⟨Z,lu,_,_,Z,Y,AJ.of Ab,Y,lo,ord,Y,SqL.of hlo,W,λns l2 pn on DC=>?_⟩;have s2:AB H (upd H l2 (.lst (ns.map V.int))):=Aw DC;have EE:(upd H l2 (.lst (ns.map V.int))) l2=some (.lst (ns.map V.int)):=uS;generalize upd H l2 (.lst (ns.map V.int))=H2 at s2 EE;refine⟨Z,t,Z,.inr (AJ.of (s2 _ _ ht)),Z,W,U,λl3 Cb=>?_⟩;rw[Ya,Bk,bP];have s3:AB H2 (upd H2 l3 (.lst ((BI xs.length).map V.int))):=Aw Cb;have GJ:(upd H2 l3 (.lst ((BI xs.length).map V.int))) l3=some (.lst ((BI xs.length).map V.int)):=uS;generalize upd H2 l3 (.lst ((BI xs.length).map V.int))=H3 at s3 GJ;have A9:=s2.trans s3;refine⟨.list (ns.map W.Dat.int),.list ((BI xs.length).map W.Dat.int),.list (SqL.of (s3 _ _ EE)) (NM _),.list (SqL.of GJ) (NM _),R3 _,R3 _,Z,?_⟩;by_cases hp:ord.Perm (BI xs.length)
  ·have EG:ns=BI xs.length:=WC on (cb _) (pn.trans hp);rw[EG,EM];have EU:=A9 _ _ hll;have QM:=A9 _ _ Ab;have HE:=A9 _ _ ht;have vl:=Ba hL;refine Av ⟨Z,lu,_,_,Z,Y,AJ.of QM,Y,ll,Z,.inl (SqL.of EU),Z,t,Z,.inr (AJ.of HE),Y,Z,?_⟩;rw[Ya];by_cases hc:cs.length=xs.length
   ·rw[show(!decide (V.int ((vs.length:Nat):Int)=V.int ((xs.length:Nat):Int)))=false from by rw[<- vl,hc,Jb rfl];rfl];refine Av ⟨Z,Z,lu,_,_,Z,Y,AJ.of QM,Y,t,ll,_,Z,AJ.of HE,SqL.of EU,Vs (by rw[Ng,Ya];exact sL (by omega)) (λ_=>true) (λ_ pr v _=>∃ b,v=.bl b/\(b=true↔∀(x:Str) (c:LS),pr.1=.str x->(∃ t,pr.2=.ref t/\H t=some (.lst (c.map V.str)))->E7 rows x c)) (λ_ _ _ _ _ _ h=>h) (λH' s'=>⟨AJ.of (s' _ _ HE),SqL.of (s' _ _ EU)⟩) ?_ ?_ ?_⟩
    ·intro pr H' R s' _ An;exact An H' (AB.refl _)
    ·intro D pr H' R s' _ _ hpr _ An;obtain⟨i,hi⟩:=Ip hpr;obtain⟨MV,Bf⟩:=Ow hi;obtain⟨x,hx,ex⟩:=Kx MV;obtain⟨c,hcc,tc,ec,htc⟩:=C6 hL Bf;obtain⟨cok,clen⟩:=lok.txt c (Yh hcc);have Dw:=A9.trans s';rw[ex,ec];refine⟨Z,Z,Z,a,tc,rows,AI,x,c,Y,g,Dw _ _ ha,hA.mono λb xs e=>Dw _ _ e,kn x (Yh hx),Dw _ _ htc,(λz hz=>(cok z hz).1),clen,λv Bq Br hv=>An _ Bq Br ⟨v,Y,?_⟩⟩;rw[hv];constructor
     ·intro z x' c' e1 ⟨t',e2,e3⟩;rw[ex]at e1;cases e1;rw[ec]at e2;cases e2;rw[htc]at e3;have:c.map V.str=c'.map V.str:=by
       injection e3 with e3;injection e3
      rw[<- SQ this];exact z
     ·intro z;exact z x c ex ⟨tc,ec,htc⟩
    ·intro D H4 ys hD s4 FT pr;rw[Fq.mpr (λ_ _=>rfl)]at pr;obtain⟨bs,eb,pb⟩:=Vb pr;rw[eb]at FT;refine⟨D,bs,Y,SqL.of FT,?_⟩;refine q _ H4 (A9.trans s4) ?_;have lp:=V6 (rows:=rows) hL (by omega) pb;show bs.all id=true↔_;rw[lp];exact⟨λz=>⟨hp,hc,z⟩,λz=>z.line⟩
   ·rw[show(!decide (V.int ((vs.length:Nat):Int)=V.int ((xs.length:Nat):Int)))=true from by rw[Jc (λz=>by injection z with z;omega)];rfl];exact BM (q false H3 A9 ⟨(λz=>by cases z),λz=>absurd z.len hc⟩)
  ·have EG:ns≠BI xs.length:=λe=>hp (pn.symm.trans (e ▸ Ij _));rw[show(!Bt (.list (ns.map W.Dat.int)) (.list ((BI xs.length).map W.Dat.int)))=true from by
    rw[Gm (λz=>by injection z with z;exact EG (bA z))];rfl]
   exact BM (q false H3 A9 ⟨(λz=>by cases z),λz=>absurd z.ord hp⟩)
def So{x:Str}(h:A4 x=true):EI x:=by
 unfold A4 at h;rw[Dl,Bc]at h;have l:=Je h.1;refine⟨W,λc hc=>?_⟩;have:=h.2 c hc;unfold Ge at this;simp only[Dl,decide_eq_true_eq]at this;have e:(16:Nat) ^ 8=4294967296:=by decide
 omega
def bz:Sp:=λvs H Q _=>∃(p lw ln:Addr) (ws ls:LS),vs=[.ref p,.ref lw,.ref ln]/\(∃ o,H p=some o/\Bh o)/\H lw=some (.lst (ws.map V.str))/\Kr ws/\1<=ws.length/\ws.length<=24/\H ln=some (.lst (ls.map V.str))/\Ej ls/\1<=ls.length/\ls.length<=24 /\
 ∀ lm (A3:LS) H',Drawn p H H'->H lm=none->H' lm=some (.lst (A3.map V.str))->Ej A3->A3.length<=26->Q (.ref lm) H'
def bx:Sp:=λvs H Q _=>∃(p lw:Addr) (ws:LS),vs=[.ref p,.ref lw]/\(∃ o,H p=some o/\Bh o)/\H lw=some (.lst (ws.map V.str))/\Kr ws/\ws.length<=24/\∀ x H',Drawn p H H'->EI x->x∉ws->Q (.str x) H'
def IC(H:Hp)(p lw ln:Addr)(ls:LS)(way at_ oth:Int)(x:Str)(i:Int)(σ:St)(H':Hp):Prop :=
 ∃(lm:Addr) (A3:LS),σ=[some (.ref p),some (.ref lw),some (.ref ln),some (.int way),some (.int at_),some (.int oth),some (.str x),some (.ref lm)]/\Drawn p H H'/\H lm=none/\H' lm=some (.lst (A3.map V.str))/\Ej A3/\A3.length<=26/\(i<way->A3=ls)
def bW{ls:LS}{v:Int}(h0:0<=v)(h1:v<ls.length):∃ z,ls[v.toNat]?=some z/\z∈ls/\A_ (ls.map V.str) v=some (.str z):=by
 have hl:v.toNat<ls.length:=by omega
 refine⟨ls[v.toNat],Yb hl,Jw hl,?_⟩;have e:((v.toNat:Nat):Int)=v:=by omega
 have:=EK (xs:=ls.map V.str) (j:=v.toNat) (v:=.str ls[v.toNat]) (by rw[Yf,Yb hl];rfl);rw[e]at this;exact this
def Ry{ls:LS}{v:Int}(h0:0<=v)(h1:v<ls.length):Ex (ls.map V.str).length v=some v.toNat:=by
 unfold Ex;rw[if_pos h0,Ya,if_pos h1]
def Vq(ls:LS)(j:Nat)(z:Str):(ls.map V.str).set j (.str z)=(ls.set j z).map V.str:=by rw[List.map_set]
theorem Ej.set{ls:LS}(h:Ej ls){z:Str}(hz:P2 z)(j:Nat):Ej (ls.set j z):=λy hy=>by
 rcases Pk hy with c | c
 ·exact h y c
 ·rw[c];exact hz
def Ej.ins{ls:LS}(h:Ej ls){z:Str}(hz:P2 z)(j:Nat):Ej (ls.take j++z :: ls.drop j):=λy hy=>by
 rcases Yt.mp hy with c | c
 ·exact h y (J2 c)
 ·rcases Yr.mp c with c | c
  ·rw[c];exact hz
  ·exact h y (Tf c)
def Za{x:Str}{c:Nat}(hc:c∈x.cps.toList)(h:Ge c=false):A4 x=false:=by
 cases z:A4 x with
 | false=>rfl
 | true =>
  have:=((Js x).mp z).2 c hc;rw[h]at this;cases this
def VF(a b:Str):(a++b).cps.toList=a.cps.toList++b.cps.toList:=Array.toList_append
def cH{a b:Str}(ha:EI a)(la:a.length<=8)(hb:EI b)(lb:b.length<=1):EI (a++b):=by
 have e:(a++b).length=a.length + b.length:=by
  show(a.cps++b.cps).size=_;rw[Array.size_append];rfl
 refine⟨W,λc hc=>?_⟩;rw[VF]at hc
 rcases Yt.mp hc with z | z
 ·exact ha.2 c z
 ·exact hb.2 c z
instance (x:Str):Decidable (EI x):=by unfold EI;infer_instance
def Zip{p b:Addr}{H H':Hp}(d:Drawn p H H')(h:H' b=none):H b=none:=by
 cases z:H b with
 | none=>rfl
 | some u =>
  by_cases e:b=p
  ·obtain⟨op,hpp,_⟩:=d.pot;rw[e,hpp]at h;cases h
  ·rw[d.keep _ _ e z]at h;cases h
abbrev iZ:LS:=["pot","words","line","way","at","other","word","made"]
def fu:Ae iZ ["pot","words","line"] (AL S4):=by nofun
abbrev ic:LS:=["pot","words","word"]
def ft:Ae ic ["pot","words"] (AL Sz):=by nofun
def oV(F:Def K mg "_law_no_word" Sz ["pot","words"] f fd)(DT:Def K mg "_law_take" EO ["pot","many"] fT fdT)(GT:⋯ 1 fT fdT ["pot","many"] Fi)(DW:Def K mg "_law_word" Eo ["pot","words"] fW fdW)(GW:⋯ 2 fW fdW ["pot","words"] Ru):⋯ 3 f fd ["pot","words"] bx:=by
 nomatch F.fn.ok ft
 ·obtain⟨p,lw,ws,rfl,_⟩:=h;rfl
 ·obtain⟨p,lw,ws,rfl,⟨o,hp,ho⟩,hw,wok,wle,q⟩:=h;have nd:=ft.nd;have Ac:AV 1 _:=hr.mono (by decide)
  ac_nf
  refine⟨_,(pS (sE 2 nd (AN DW GW hr (pC (pv 0) (pC (pv 1) AA))))
   (AH (AW (AX (r:=BB K) Al (B2 (pC (pv 2) (pC Jk (pC (Ag Sa (pv 2) Jk) (pC Jk (pC (Ag Sa (IV U7 (pv 2) IS (IT AG)) Jk) AA)))))) (AN DT GT Ac (pC (pv 0) (pC AG AA))) (λ_ _=>rfl))))),?_⟩
  exists AE _ a _ _ _
  have pw:p≠lw:=D_ hp ho hw;refine⟨Z,Z,p,lw,ws,Y,pw,⟨o,hp,ho⟩,hw,wok,wle,λx H1 d1 wx nx=>?_⟩;obtain⟨o1,DB,CO⟩:=id d1.pot;have sx:=So wx;have xl:=(Ov wx).2;have s7:EI (Txt.slice x none (some 7)):=by
   have e:=Sd x 7 (by decide);refine⟨?_,λc hc=>?_⟩
   ·have:(Txt.slice x none (some 7)).cps.toList.length<=7:=by rw[e,Yz];exact Nat.min_le_left _ _
    rw[HY]at this;omega
   ·rw[e]at hc;exact sx.2 c (J2 hc)
  have l7:(Txt.slice x none (some 7)).length<=7:=by
   have e:=Sd x 7 (by decide);have:(Txt.slice x none (some 7)).cps.toList.length<=7:=by rw[e,Yz];exact Nat.min_le_left _ _
   rwa [HY]at this
  refine⟨Z,Z,_,Z,Y,sL (by show _ + 1<=100000;omega),Z,Z,x,Y,sL (by omega),_,Z,Y,sL (by show _ + 1<=100000;omega),sL (by show 5<=100000;decide),λl2 DC=>?_⟩;obtain⟨opts,eo⟩:∃ opts:LS,opts=[x,"",x++" ","A",Txt.slice x none (some 7)++"-"]:=⟨Z⟩;have s2:=Aw (o:=.lst [.str x,.str "",.str (x++" "),.str "A",.str (Txt.slice x none (some 7)++"-")]) DC;have EE:(upd H1 l2 (.lst [.str x,.str "",.str (x++" "),.str "A",.str (Txt.slice x none (some 7)++"-")])) l2=some (.lst (opts.map V.str)):=by rw[uS,eo];rfl
  generalize upd H1 l2 (.lst [.str x,.str "",.str (x++" "),.str "A",.str (Txt.slice x none (some 7)++"-")])=H2 at s2 EE;have BJ:=s2 _ _ DB;refine⟨Z,p,5,o1,Y,BJ,CO,V,V,λv o3 v0 v1 Bz=>?_⟩;have d3:Drawn p H2 (upd H2 p o3):=Drawn.upd Bz;obtain⟨z,hz,hat⟩:=IX (ws:=opts) v0 (by rw[eo];show v<5;exact v1);have i5:l2≠p:=Yj (D_ BJ CO EE);have nw:∀ {y:Str},A4 y=false->y∉ws:=λ{y} h hm=>by
   rw[wok.word y hm]at h;cases h
  have key:EI z/\z∉ws:=by
   rw[eo]at hz
   rcases Yr.mp hz with c | hz
   ·rw[c];exact⟨sx,nx⟩
   rcases Yr.mp hz with c | hz
   ·rw[c];exact⟨by rfl',nw (by rfl')⟩
   rcases Yr.mp hz with c | hz
   ·rw[c];exact⟨cH sx xl (by rfl') (by rfl'),nw (Za (c:=32) (by rw[VF];exact Yt.mpr (.inr (by rfl'))) (by decide))⟩
   rcases Yr.mp hz with c | hz
   ·rw[c];exact⟨by rfl',nw (by rfl')⟩
   ·rw[Yi.mp hz];exact⟨cH s7 (by omega) (by rfl') (by rfl'),nw (Za (c:=45) (by rw[VF];exact Yt.mpr (.inr (by rfl'))) (by decide))⟩
  exact⟨l2,_,_,Z,Y,SqL.of (d3.keep _ _ i5 EE),hat,q z _ ((d1.same s2).trans d3) key.1 key.2⟩
def mq(F:Def K mg "_law_spoilt" S4 ["pot","words","line"] f fd)(list:mg "list"=none)(rev:mg "reversed"=none)(len:mg "len"=none)(DT:Def K mg "_law_take" EO ["pot","many"] fT fdT)(GT:⋯ 1 fT fdT ["pot","many"] Fi)(DW:Def K mg "_law_word" Eo ["pot","words"] fW fdW)(GW:⋯ 2 fW fdW ["pot","words"] Ru):⋯ 3 f fd ["pot","words","line"] bz:=by
 nomatch F.fn.ok fu
 ·obtain⟨p,lw,ln,ws,ls,rfl,_⟩:=h;rfl
 ·obtain⟨p,lw,ln,ws,ls,rfl,⟨o,hp,ho⟩,hw,wok,w1,hV,hl,lok,l1,YS,q⟩:=h;have nd:=fu.nd;have Ac:AV 1 _:=hr.mono (by decide)
  ac_nf
  refine⟨_,(pS (sE 3 nd (AN DT GT Ac (pC (pv 0) (pC AG AA))))
   (pS (sE 4 nd (AN DT GT Ac (pC (pv 0) (pC (Aa B8 (by rfl) len Yy (pC (pv 2) AA)) AA))))
   (pS (sE 5 nd (AN DT GT Ac (pC (pv 0) (pC (Aa B8 (by rfl) len Yy (pC (pv 2) AA)) AA))))
   (pS (sE 6 nd (AX (r:=BB K) Al (pv 1) (AN DT GT Ac (pC (pv 0) (pC (Aa B8 (by rfl) len Yy (pC (pv 1) AA)) AA))) (λ_ _=>rfl)))
   (B6 (AY (Af BC (AN DT GT Ac (pC (pv 0) (pC AG AA))) AG (Ad _)) (AH (sE 6 nd (AN DW GW hr (pC (pv 0) (pC (pv 1) AA))))) AZ)
   (pS (sE 7 nd (DZ Ia (by rfl) list FI (pC (pv 2) AA)))
   (B6 (AY (Af BC (pv 3) AG (Ad _)) (pS (HW (AX (r:=BB K) Al (pv 2) (pv 5) (λ_ _=>rfl)) (IK (pv 7) (pv 4) IW))
   (AH (HW (AX (r:=BB K) Al (pv 2) (pv 4) (λ_ _=>rfl)) (IK (pv 7) (pv 5) IW)))) AZ)
   (B6 (AY (Af BC (pv 3) AG (Ad _)) (AH (Bi (CH Yw Ti Th Vi (pv 7) (pC (pv 4) AA)))) AZ)
   (B6 (AY (Af BC (pv 3) AG (Ad _)) (AH (Bi (CH Yw LI LH K2 (pv 7) (pC (pv 5) (pC (AX (r:=BB K) Al (pv 2) (pv 4) (λ_ _=>rfl)) AA))))) AZ)
   (B6 (AY (Af BC (pv 3) AG (Ad _)) (AH (Bi (CH Yw LI LH K2 (pv 7) (pC (pv 4) (pC (pv 6) AA))))) AZ)
   (B6 (AY (Af BC (pv 3) AG (Ad _)) (AH (HW (pv 6) (IK (pv 7) (pv 4) IW))) AZ)
   (B6 (AY (Af BC (pv 3) AG (Ad _)) (AH (sE 7 nd (og rfl (pv 2) (by rfl) list (by rfl) rev))) AZ)
   (B6 (AY (Af BC (pv 3) AG (Ad _)) (AH (sE 7 nd (B2 AA))) AZ)
   (AH (AW (pv 7)))))))))))))))),?_⟩
  exists let b:=CG _ a;let c:=_;let e:=CG (BH _ c _) b;let f:=CG _ e;let g:=_;let h:=CG (BH _ g _) f;let i:=_;let j:=CG (BH _ i _) h;let k:=_;let l:=CG (BH _ k _) j;let m:=_;let n:=AE _ m;let o:=CG (BH _ n _) l;let p:=AE _ o;let q:=_;let r:=CG (BH _ q _) p;let s:=AE _ r;let t:=AE _ s;let u:=AE _ t;AE _ u _ _ _
  have lp:ln≠p:=Yj (D_ hp ho hl);have wp:lw≠p:=Yj (D_ hp ho hw);refine⟨Z,p,9,o,Y,hp,ho,V,V,λway o1 w0 w9 CO=>?_⟩;have d1:Drawn p H (upd H p o1):=Drawn.upd CO;have DB:(upd H p o1) p=some o1:=uS;generalize upd H p o1=H1 at d1 DB;refine⟨Z,Z,ln,Z,.inl (SqL.of (d1.keep _ _ lp hl)),p,_,o1,Y,DB,CO,U,U,λat_ o2 a0 a1 BF=>?_⟩;have FX:Drawn p H1 (upd H1 p o2):=Drawn.upd BF;have BJ:(upd H1 p o2) p=some o2:=uS;generalize upd H1 p o2=H2 at FX BJ;have d2:=d1.trans FX;refine⟨Z,Z,ln,Z,.inl (SqL.of (d2.keep _ _ lp hl)),p,_,o2,Y,BJ,BF,U,U,λoth o3 b0 b1 Bz=>?_⟩;have HK:Drawn p H2 (upd H2 p o3):=Drawn.upd Bz;have Dz:(upd H2 p o3) p=some o3:=uS;generalize upd H2 p o3=H3 at HK Dz;have d3:=d2.trans HK;refine⟨Z,Z,Z,lw,Z,.inl (SqL.of (d3.keep _ _ wp hw)),p,_,o3,Y,Dz,Bz,U,U,λv4 o4 c0 c1 F9=>?_⟩;have Kj:Drawn p H3 (upd H3 p o4):=Drawn.upd F9;have Dy:(upd H3 p o4) p=some o4:=uS;generalize upd H3 p o4=H4 at Kj Dy;have d4:=d3.trans Kj;obtain⟨x0,N6,Xm⟩:=IX c0 c1;refine⟨lw,_,_,Z,Y,SqL.of (d4.keep _ _ wp hw),Xm,?_⟩;rw[Ya]at a1 b1;let Cr:SW:=λσ' H'=>∃ x:Str,σ'=[some (.ref p),some (.ref lw),some (.ref ln),some (.int way),some (.int at_),some (.int oth),some (.str x),none]/\Drawn p H H'/\P2 x;refine⟨Cr,?_,?_⟩
  ·refine⟨Z,p,3,o4,Y,Dy,F9,V,V,λv5 o5 e0 e1 F8=>?_⟩;have HJ:Drawn p H4 (upd H4 p o5):=Drawn.upd F8;have CC:(upd H4 p o5) p=some o5:=uS;generalize upd H4 p o5=H5 at HJ CC;have d5:=d4.trans HJ;refine⟨Y,Z,Ak (λ_=>?_) (λ_=>⟨x0,Y,d5,Ot (wok.word x0 N6)⟩)⟩;refine⟨Z,Z,p,lw,ws,Y,Yj wp,⟨o5,CC,F8⟩,d5.keep _ _ wp hw,wok,hV,λx H6 d6 wx _=>?_⟩;exact⟨x,Y,d5.trans d6,Ot wx⟩
  rintro σ' H5 ⟨x,rfl,d5,xok⟩;have Hz:=d5.keep _ _ lp hl;refine⟨Z,ln,Z,.inl (SqL.of Hz),λlm hlm=>?_⟩;have s6:AB H5 (upd H5 lm (.lst (ls.map V.str))):=Aw hlm;have Ma:(upd H5 lm (.lst (ls.map V.str))) lm=some (.lst (ls.map V.str)):=uS;generalize upd H5 lm (.lst (ls.map V.str))=H6 at s6 Ma;have fm:H lm=none:=by
   cases z:H lm with
   | none=>rfl
   | some u =>
    by_cases e:lm=p
    ·obtain⟨op,hpp,_⟩:=d5.pot;rw[e,hpp]at hlm;cases hlm
    ·rw[d5.keep _ _ e z]at hlm;cases hlm
  have M0:IC H p lw ln ls way at_ oth x 0 [some (.ref p),some (.ref lw),some (.ref ln),some (.int way),some (.int at_),some (.int oth),some (.str x),some (.ref lm)] H6:=⟨lm,ls,Y,d5.same s6,fm,Ma,lok,W,λ_=>rfl⟩;clear Ma s6 hlm Hz d5 fm;have put:∀ {MS:Addr} {H':Hp} {zs:LS} {i:Int},Drawn p H H'->H MS=none->Ej zs->zs.length<=26->¬ (i<way)->IC H p lw ln ls way at_ oth x i [some (.ref p),some (.ref lw),some (.ref ln),some (.int way),some (.int at_),some (.int oth),some (.str x),some (.ref MS)] (upd H' MS (.lst (zs.map V.str))):=λ{MS H' zs i} d f ok le im=>by
   obtain⟨oz,hpz,hoz⟩:=d.pot;have ne:p≠MS:=AF hp f;exact⟨MS,zs,Y,⟨λb u hb e=>by rw[AD (AF e f)];exact d.keep b u hb e,oz,by rw[AD ne];exact hpz,hoz⟩,f,uS,ok,le,λz=>absurd z im⟩
  have eqi:∀ {n:Int},decide (V.int way=V.int n)=true->way=n:=λh=>by
   have:=Je h;injection this
  have nei:∀ {n:Int},¬ decide (V.int way=V.int n)=true->way≠n:=λh z=>h (Jb (by rw[z]));obtain⟨za,ea,ma,hata⟩:=bW (ls:=ls) a0 a1;obtain⟨zb,eb,mb,hatb⟩:=bW (ls:=ls) b0 b1;obtain⟨lm,A3,e0,d,f,hm,ok,le,im⟩:=M0;cases e0;refine⟨IC H p lw ln ls way at_ oth x 1,?_,?_⟩
  ·refine⟨Z,Y,Z,Ak (λe=>?_) (λne=>⟨lm,A3,Y,d,f,hm,ok,le,λz=>im (by have:=nei ne;omega)⟩)⟩;have e:=eqi e;have el:=im (by omega);subst el;have F_:=d.keep _ _ lp hl;have lnm:ln≠lm:=AF hl f;refine⟨Z,Z,ln,_,_,Z,Y,SqL.of F_,hatb,Z,Z,lm,_,_,Z,Y,hm,Ry a0 a1,?_⟩;rw[Vq];obtain⟨oz,hpz,hoz⟩:=d.pot;have nel:p≠lm:=AF hp f;have d8:Drawn p H (upd H6 lm (.lst ((A3.set at_.toNat zb).map V.str))):=⟨λb u hb e=>by rw[AD (AF e f)];exact d.keep b u hb e,oz,by rw[AD nel];exact hpz,hoz⟩;have GG:(upd H6 lm (.lst ((A3.set at_.toNat zb).map V.str))) lm=some (.lst ((A3.set at_.toNat zb).map V.str)):=uS;generalize upd H6 lm (.lst ((A3.set at_.toNat zb).map V.str))=H8 at d8 GG;refine⟨Z,Z,ln,_,_,Z,Y,SqL.of (d8.keep _ _ lp hl),hata,Z,Z,lm,_,_,Z,Y,GG,Ry b0 (by rw[Im];exact b1),?_⟩;rw[Vq];exact put d8 f ((ok.set (lok zb mb) _).set (lok za ma) _) (by rw[Im,Im];omega) (by omega)
  clear hm d f ok le im;rintro σ' H7 ⟨lm,A3,rfl,d,f,hm,ok,le,im⟩;refine⟨IC H p lw ln ls way at_ oth x 2,?_,?_⟩
  ·refine⟨Z,Y,Z,Ak (λe=>?_) (λne=>⟨lm,A3,Y,d,f,hm,ok,le,λz=>im (by have:=nei ne;omega)⟩)⟩;have e:=eqi e;have el:=im (by omega);subst el;have F_:=d.keep _ _ lp hl;have lnm:ln≠lm:=AF hl f;refine⟨Z,.inl ⟨Y,_,SqL.of hm⟩,Z,lm,_,_,at_.toNat,.str za,Y,Y,hm,W,W,(Oj (Ry a0 a1)).1,by rw[Yf,ea];rfl,?_⟩;rw[SS];exact put d f (λy hy=>ok y (Wz hy)) (by have:=Wt A3 at_.toNat;omega) (by omega)
  rintro σ' H7 ⟨lm,A3,rfl,d,f,hm,ok,le,im⟩;refine⟨IC H p lw ln ls way at_ oth x 3,?_,?_⟩
  ·refine⟨Z,Y,Z,Ak (λe=>?_) (λne=>⟨lm,A3,Y,d,f,hm,ok,le,λz=>im (by have:=nei ne;omega)⟩)⟩;have e:=eqi e;have el:=im (by omega);subst el;have F_:=d.keep _ _ lp hl;have lnm:ln≠lm:=AF hl f;refine⟨Z,.inl ⟨Y,_,SqL.of hm⟩,Z,Z,Z,ln,_,_,Z,Y,SqL.of F_,hata,lm,_,_,Z,Y,hm,b0,U,B7 (by rw[Ya];omega),?_⟩;rw[show(A3.map V.str).take oth.toNat++V.str za :: (A3.map V.str).drop oth.toNat=(A3.take oth.toNat++za :: A3.drop oth.toNat).map V.str from by rw[Bw,Ym,Iq,LF]];exact put d f (ok.ins (lok za ma) _) (by rw[Yx,Bj,Yz,Hi];omega) (by omega)
  rintro σ' H7 ⟨lm,A3,rfl,d,f,hm,ok,le,im⟩;refine⟨IC H p lw ln ls way at_ oth x 4,?_,?_⟩
  ·refine⟨Z,Y,Z,Ak (λe=>?_) (λne=>⟨lm,A3,Y,d,f,hm,ok,le,λz=>im (by have:=nei ne;omega)⟩)⟩;have e:=eqi e;have el:=im (by omega);subst el;have F_:=d.keep _ _ lp hl;have lnm:ln≠lm:=AF hl f;refine⟨Z,.inl ⟨Y,_,SqL.of hm⟩,Z,Z,lm,_,_,Z,Y,hm,a0,U,B7 (by rw[Ya];omega),?_⟩;rw[show(A3.map V.str).take at_.toNat++V.str x :: (A3.map V.str).drop at_.toNat=(A3.take at_.toNat++x :: A3.drop at_.toNat).map V.str from by rw[Bw,Ym,Iq,LF]];exact put d f (ok.ins xok _) (by rw[Yx,Bj,Yz,Hi];omega) (by omega)
  rintro σ' H7 ⟨lm,A3,rfl,d,f,hm,ok,le,im⟩;refine⟨IC H p lw ln ls way at_ oth x 5,?_,?_⟩
  ·refine⟨Z,Y,Z,Ak (λe=>?_) (λne=>⟨lm,A3,Y,d,f,hm,ok,le,λz=>im (by have:=nei ne;omega)⟩)⟩;have e:=eqi e;have el:=im (by omega);subst el;have F_:=d.keep _ _ lp hl;have lnm:ln≠lm:=AF hl f;refine⟨Z,Z,Z,lm,_,_,Z,Y,hm,Ry a0 a1,?_⟩;rw[Vq];exact put d f (ok.set xok _) (by rw[Im];omega) (by omega)
  rintro σ' H7 ⟨lm,A3,rfl,d,f,hm,ok,le,im⟩;refine⟨IC H p lw ln ls way at_ oth x 6,?_,?_⟩
  ·refine⟨Z,Y,Z,Ak (λe=>?_) (λne=>⟨lm,A3,Y,d,f,hm,ok,le,λz=>im (by have:=nei ne;omega)⟩)⟩;have e:=eqi e;have el:=im (by omega);subst el;have F_:=d.keep _ _ lp hl;have lnm:ln≠lm:=AF hl f;refine⟨Z,ln,Z,SqL.of F_,λl8 C0=>?_⟩;rw[<- List.map_reverse];exact put d (Zip d C0) (λy hy=>ok y (List.mem_reverse.mp hy)) (by rw[Pm];omega) (by omega)
  rintro σ' H7 ⟨lm,A3,rfl,d,f,hm,ok,le,im⟩;refine⟨IC H p lw ln ls way at_ oth x 7,?_,?_⟩
  ·refine⟨Z,Y,Z,Ak (λe=>?_) (λne=>⟨lm,A3,Y,d,f,hm,ok,le,λz=>im (by have:=nei ne;omega)⟩)⟩;have e:=eqi e;have el:=im (by omega);subst el;have F_:=d.keep _ _ lp hl;have lnm:ln≠lm:=AF hl f;refine⟨A7 _,λl8 C0=>?_⟩;exact put (zs:=[]) d (Zip d C0) (λy hy=>nomatch hy) (by show 0<=26;omega) (by omega)
  rintro σ' H7 ⟨lm,A3,rfl,d,f,hm,ok,le,im⟩;exact⟨Z,q lm A3 H7 d f hm ok le⟩
structure S8(K:Fg)(mg:Str->OU)(x:Str)(C:Addr):Prop where
 m:mg x=some (.ref C)
 ex:ExC K C
 ini:W.findIn K (.ref C) "__init__"=some (some (.builtin "ValueError.__init__"))
def eG(C N:Addr):Sp:=λvs H _ E=>∃(p t:Addr) (n:Nat) (rows:RS) (xs:LS),vs=[.ref p,.int n,.ref t]/\B3 C H p rows/\Ah rows/\H t=some (.tup (xs.map V.str))/\E_ rows n xs=false/\n<=4/\xs.length<=100/\(∀ x∈xs,EI x)/\∀ H',AB H H'->E (.ref N) none H'
def Ms(C B N:Addr):Sp:=λvs H _ E=>∃(p k t:Addr) (rows:RS) (n:Nat) (ds:List (LS)) (xs:LS) (v:V),vs=[.ref p,.ref t,v]/\Cm C B H p k rows n ds/\Ah rows/\n<=4/\H t=some (.tup (xs.map V.str))/\E_ rows n xs=false/\xs.length<=100/\(∀ x∈xs,EI x)/\∀ H',AB H H'->E (.ref N) none H'
def qV(F:Def K mg "check_call" K6 By f fd)(TN:S8 K mg "NoCall" N)(DI:Def K mg "is_call" IY By fI fdI)(len:mg "len"=none)(all:mg "all"=none)(TC:DJ K C)(MH:GX K C fH fdH):Ax P w K mg base (Bx P w) 3 f fd By (eG C N):=by
 have GI:Ax P w K mg base (Bx P w) 2 fI fdI By (SK C):=(V9 DI len all TC MH).any
 nomatch F.fn.ok1 gI
 ·obtain⟨p,t,n,rows,xs,rfl,_⟩:=h;rfl
 ·obtain⟨p,t,n,rows,xs,rfl,kd,g,ht,hb,n4,hl,hx,q⟩:=h
  ac_nf
  refine⟨_,(AH (AY (CS (Bu (Ku GI hr (by rfl) DI.m DI.fn.kp DI.b .nil (JS CW.of) (pC (pv 0) (pC (pv 1) (pC (pv 2) AA)))))) (AH (bO (C:=N) CW.of hr.hd TN.ex TN.ini (by rfl) TN.m (pC (aO (Kz (aQ hr (pv 2)) (Kz U5 (Kz (uK (pv 1)) (Kz U5 aR))))) AA))) AZ)),?_⟩
  exists BH _ a _ _ _ _
  refine⟨Z,Z,Z,p,t,n,rows,xs,Y,kd,g,ht,W,λH' s'=>⟨Z,?_⟩⟩;rw[hb];refine BM ⟨Z,t,xs,Y,.inl (AJ.of (s' _ _ ht)),hl,hx,by rfl',Z,n,Y,W,by rfl',λx=>⟨sL (by show 1<=100000;decide),q H' s'⟩⟩
def qQ(F:Def K mg "is_lineup" Jr As f fd)(TC:DJ K C)(TB:II K B)(MK:VC K B fK fdK)(MP:VZ K B fPl fdPl)
  (DCk:Def K mg "check_call" K6 By fCk fdCk) (GC:Ax P w K mg base (Bx P w) 3 fCk fdCk By (eG C N)):Ax P w K mg base (Bx P w) 4 f fd As (Ms C B N):=by
 have GK:Ax P w K mg base (Bx P w) 1 fK fdK ["self"] (SJ C B):=(V1 MK.fn TB).any;have GP:Ax P w K mg base (Bx P w) 1 fPl fdPl ["self"] (SO C B):=(V8 MP.fn TB).any
 nomatch F.fn.ok1 TM
 ·obtain⟨p,k,t,rows,n,ds,xs,v,rfl,_⟩:=h;rfl
 ·obtain⟨p,k,t,rows,n,ds,xs,v,rfl,bd,g,n4,ht,hb,hl,hx,q⟩:=h;obtain⟨dx,ts,us,h1,h2,h3,h4⟩:=bd.ex;have nd:=TM.nd;have Ac:AV 1 _:=hr.mono (by decide)
  ac_nf
  refine⟨_,pS (CB (i:=3) nd rfl (Or.inr rfl) (Jq (pv 0) TB.cl MK.me GK Ac MK.b .nil (JS CW.of)))
   (pS (sE 4 nd (Jq (pv 0) TB.cl MP.me GP Ac MP.b .nil (JS CW.of)))
   (pS (Bi (Ku GC hr (by rfl) DCk.m DCk.fn.kp DCk.b .nil (JS CW.of) (pC (pv 3) (pC (pv 4) (pC (pv 1) AA))))) Cn)),?_⟩
  exists let b:=AE _ a;let c:=AE _ b;AE _ c _ _ _
  refine⟨Z,p,dx,Z,h1,V0 _ _ _,p,k,rows,n,ds,Y,bd,?_⟩;refine⟨Z,p,dx,Z,h1,V7 _ _ _,p,k,rows,n,ds,Y,bd,?_⟩;exact⟨Z,Z,Z,k,t,n,rows,xs,Y,h2,g,ht,hb,n4,hl,hx,q⟩
def mX(xs:LV)(h:xs≠[]):DM xs none (some (-1))=xs.dropLast:=by
 have hl:0<xs.length:=Ik.mpr h;unfold DM;rw[HT.sIx_none,List.drop_zero,Nat.sub_zero];have e:HT.sIx xs.length xs.length (some (-1))=xs.length - 1:=by
  show(if(-1:Int)<0 then((-1:Int) + (xs.length:Int)).toNat else min (-1:Int).toNat xs.length)=_;rw[if_pos (by decide)];omega
 rw[e,List.dropLast_eq_take]
def Vr{rows:RS}{n:Nat}{xs:LS}(h:xs.length≠n):E_ rows n xs=false:=by
 unfold E_;rw[Jc h];rfl
def lW{rows:RS}{n:Nat}{xs:LS}{y:Str}(hy:y∈xs)(ny:y∉rows.map (·.1)):E_ rows n xs=false:=by
 unfold E_;rw[Bool.and_eq_false_iff];refine .inr (List.all_eq_false.mpr ⟨y,hy,?_⟩);rw[Jc ny];decide
def bw:Sp:=λvs H Q _=>∃(p lw t:Addr) (rows:RS) (n:Nat) (xs:LS),vs=[.ref p,.ref lw,.ref t]/\(∃ o,H p=some o/\Bh o)/\Ah rows/\H lw=some (.lst ((rows.map (·.1)).map V.str))/\H t=some (.tup (xs.map V.str))/\Cv rows n xs/\1<=n/\n<=4 /\
 ∀ t' (ys:LS) H',Drawn p H H'->H' t'=some (.tup (ys.map V.str))->E_ rows n ys=false->ys.length<=100->(∀ y∈ys,EI y)->Q (.ref t') H'
abbrev ie:LS:=["pot","words","call","way","at","word"]
def fq:Ae ie ["pot","words","call"] (AL Sy):=by nofun
def oU(F:Def K mg "_law_no_call" Sy ["pot","words","call"] f fd)(len:mg "len"=none)(DT:Def K mg "_law_take" EO ["pot","many"] fT fdT)(GT:⋯ 1 fT fdT ["pot","many"] Fi)
  (DN:Def K mg "_law_no_word" Sz ["pot","words"] fN fdN) (GN:⋯ 3 fN fdN ["pot","words"] bx):⋯ 4 f fd ["pot","words","call"] bw:=by
 nomatch F.fn.ok fq
 ·obtain⟨p,lw,t,rows,n,xs,rfl,_⟩:=h;rfl
 ·obtain⟨p,lw,t,rows,n,xs,rfl,⟨o,hp,ho⟩,g,hw,ht,gc,n1,n4,q⟩:=h;have nd:=fq.nd;have Ac:AV 1 _:=hr.mono (by decide)
  ac_nf
  refine'⟨_,(pS (sE 3 nd (AN DT GT Ac (pC (pv 0) (pC AG AA))))
   (pS (sE 4 nd (AN DT GT Ac (pC (pv 0) (pC (Aa B8 (by rfl) len Yy (pC (pv 2) AA)) AA))))
   (pS (sE 5 nd (AX (r:=BB K) Al (pv 1) (AN DT GT Ac (pC (pv 0) (pC (Aa B8 (by rfl) len Yy (pC (pv 1) AA)) AA))) (λ_ _=>rfl)))
   (pS (AY (Af BC (pv 3) AG (Ad _)) (AH (AW (IV (r:=Pf K) VN (pv 2) IS (IT (gW Z3 AG))))) AZ)
   (pS (AY (Af BC (pv 3) AG (Ad _)) (AH (AW (Ag VT (pv 2) (EJ (pC (pv 5) AA))))) AZ)
   (pS (AY (Af BC (pv 3) AG (Ad _)) (AH (AW (EJ AA))) AZ)
   (AH (AW (Ag VT (Ag VT (IV (r:=Pf K) VN (pv 2) IS (IT (pv 4))) (EJ (pC (AN DN GN hr (pC (pv 0) (pC (pv 1) AA))) AA))) (IV (r:=Pf K) VN (pv 2) (IT (Ag El (pv 4) AG)) IS)))))))))),?_⟩
  exists let b:=AE _ a;let c:=_;let e:=AE (BH _ c _) b;let f:=_;let g:=AE (BH _ f _) e;let h:=AE _ g;let i:=AE _ h;AE _ i _ _ _
  have xl:=gc.len;have gle:=g.le;have gne:=g.ne;have wl:(rows.map (·.1)).length=rows.length:=Ya ..;have wp:lw≠p:=Yj (D_ hp ho hw);have tp:t≠p:=λz=>by
   obtain⟨_,_,e,_⟩:=id ho;rw[z,hp,e]at ht;cases ht
  have wok:Kr (rows.map (·.1)):=⟨λx hx=>by
   obtain⟨r,Aj,rfl⟩:=Yg.mp hx;exact g.word r Aj,g.nd⟩
  have xsh:∀ x∈xs,EI x:=λx hx=>So (wok.word x (gc.known x hx));refine⟨Z,p,4,o,Y,hp,ho,V,V,λway o1 w0 w4 CO=>?_⟩;have d1:Drawn p H (upd H p o1):=Drawn.upd CO;have DB:(upd H p o1) p=some o1:=uS;generalize upd H p o1=H1 at d1 DB;refine⟨Z,Z,t,Z,.inr (AJ.of (d1.keep _ _ tp ht)),p,_,o1,Y,DB,CO,U,U,λat_ o2 a0 a1 BF=>?_⟩;have FX:Drawn p H1 (upd H1 p o2):=Drawn.upd BF;have BJ:(upd H1 p o2) p=some o2:=uS;generalize upd H1 p o2=H2 at FX BJ;have d2:=d1.trans FX;rw[Ya]at a1;refine⟨Z,Z,Z,lw,Z,.inl (SqL.of (d2.keep _ _ wp hw)),p,_,o2,Y,BJ,BF,U,U,λv3 o3 b0 b1 Bz=>?_⟩;have HK:Drawn p H2 (upd H2 p o3):=Drawn.upd Bz;have Dz:(upd H2 p o3) p=some o3:=uS;generalize upd H2 p o3=H3 at HK Dz;have d3:=d2.trans HK;obtain⟨x,hx,hat⟩:=IX b0 b1;have HE:=d3.keep _ _ tp ht;have KU:=d3.keep _ _ wp hw;refine⟨lw,_,_,Z,Y,SqL.of KU,hat,?_⟩;refine⟨Z,Y,Z,Ak (λ_=>?_) (λ_=>?_)⟩
  ·refine⟨Z,Z,Z,VY HE λt4 H4 s4 h4=>?_⟩;have xne:xs.map V.str≠[]:=λz=>by rw[List.map_eq_nil_iff]at z;rw[z]at xl;simp at xl;omega
   rw[mX _ xne,<- List.map_dropLast]at h4;exact q t4 xs.dropLast H4 (d3.same s4) h4 (Vr (by rw[Pp];omega)) (by rw[Pp];omega) λy hy=>xsh y (List.dropLast_subset _ hy)
  refine⟨Z,Y,Z,Ak (λ_=>?_) (λ_=>?_)⟩
  ·refine⟨Z,Z,sL (by show 1<=100000;decide),λt4 N9=>?_⟩;have s4:AB H3 (upd H3 t4 (.tup [.str x])):=Aw N9;have OH:(upd H3 t4 (.tup [.str x])) t4=some (.tup [.str x]):=uS;generalize upd H3 t4 (.tup [.str x])=H4 at s4 OH;refine Vn (s4 _ _ HE) OH (sL (by rw[Ya];show _ + 1<=100000;omega)) λt5 H5 s5 h5=>?_;refine q t5 (xs++[x]) H5 (d3.same (s4.trans s5)) (by rw[h5,Bw];rfl) (Vr (by rw[Yx];show _ + 1≠_;omega)) (by rw[Yx];show _ + 1<=_;omega) λy hy=>?_
   rcases Yt.mp hy with z | z
   ·exact xsh y z
   ·rw[Yi.mp z];exact So (wok.word x hx)
  refine⟨Z,Y,Z,Ak (λ_=>?_) (λ_=>?_)⟩
  ·refine⟨A7 _,λt4 N9=>?_⟩;exact q t4 [] _ (d3.same (Aw N9)) uS (Vr (by show 0≠n;omega)) (by show 0<=100;omega) λy hy=>nomatch hy
  ·refine⟨Z,Z,Z,VY HE λt4 H4 s4 h4=>?_⟩;obtain⟨hJ,e1,XE,wY⟩:=bY xs none (some at_);rw[e1]at h4;have d4:=d3.same s4;refine⟨Z,Z,p,lw,Z,d4.pot,s4 _ _ KU,wok,W,λy H5 d5 sy ny=>?_⟩;have ZN:=d4.trans d5;obtain⟨o4,Dy,F9⟩:=id d4.pot;have jj:=Drawn.tup d5 Dy F9 h4;have jL:=ZN.keep _ _ tp ht;refine⟨sL (by show 1<=100000;decide),λt6 jK=>?_⟩;have s6:AB H5 (upd H5 t6 (.tup [.str y])):=Aw jK;have Ma:(upd H5 t6 (.tup [.str y])) t6=some (.tup [.str y]):=uS;generalize upd H5 t6 (.tup [.str y])=H6 at s6 Ma;refine Vn (s6 _ _ jj) Ma (sL (by rw[Ya];show _ + 1<=100000;omega)) λt7 H7 s7 h7=>?_;have JE:=s6.trans s7;refine⟨Z,Z,_,Z,Y,Z,?_⟩;dsimp only[R5];refine VY (JE _ _ jL) λt8 H8 s8 h8=>?_;obtain⟨hG,e2,XD,wX⟩:=bY xs (some (at_ + 1)) none;rw[e2]at h8;refine Vn (s8 _ _ h7) h8 (sL (by rw[Yx,Ya,Ya];show _ + 1 + _<=100000;omega)) λt9 H9 s9 h9=>?_;refine q t9 (hJ++[y]++hG) H9 (ZN.same (JE.trans (s8.trans s9))) (by rw[h9,Bw,Bw];rfl) (lW (y:=y) (by simp) ny) (by rw[Yx,Yx];show _ + 1 + _<=100;omega) λz hz=>?_
   rcases Yt.mp hz with c | c
   ·rcases Yt.mp c with c | c
    ·exact xsh z (XE z c)
    ·rw[Yi.mp c];exact sy
   ·exact xsh z (XD z c)
theorem WE{α β:Type}{R:α->β->Prop}{a:α}{b:β}(h:R a b):∀ {l:List α}{m:List β}(k:Nat),Paired R l m->Paired R (l.set k a) (m.set k b)
 | _,_,_,.nil=>.nil
 | _,_,0,.cons _ r=>.cons h r
 | _,_,k + 1,.cons x r=>.cons x (WE h k r)
theorem eO{α β:Type}{R:α->β->Prop}:∀ {l:List α}{m:List β}(k:Nat),Paired R l m->Paired R (l.eraseIdx k) (m.eraseIdx k)
 | _,_,_,.nil=>.nil
 | _,_,0,.cons _ r=>r
 | _,_,k + 1,.cons h r=>.cons h (eO k r)
theorem eE{α β:Type}{R:α->β->Prop}{a:α}{b:β}(h:R a b):∀ {l:List α}{m:List β}(k:Nat),Paired R l m->Paired R (l.take k++a :: l.drop k) (m.take k++b :: m.drop k)
 | _,_,0,r=>.cons h r
 | _,_,k + 1,.nil=>.cons h .nil
 | _,_,k + 1,.cons x r=>.cons x (eE h k r)
def E8(lo ll:Addr)(H:Hp)(cs:List (LS))(vs:LV):Prop:=Paired (λc v=>∃ t,v=.ref t/\t≠lo/\t≠ll/\H t=some (.lst (c.map V.str))) cs vs
def E8.drawn{lo ll p:Addr}{H H':Hp}{o:HO}{cs:List (LS)}{vs:LV}(h:E8 lo ll H cs vs)(hp:H p=some o)(ho:Bh o)(d:Drawn p H H'):E8 lo ll H' cs vs:=Paired.mapP h λ_ _ ⟨t,e,n1,n2,h⟩=>⟨t,e,n1,n2,d.keep _ _ (Yj (D_ hp ho h)) h⟩
def E8.mono{lo ll:Addr}{H H':Hp}{cs:List (LS)}{vs:LV}(h:E8 lo ll H cs vs)(s:AB H H'):E8 lo ll H' cs vs:=Paired.mapP h λ_ _ ⟨t,e,n1,n2,h⟩=>⟨t,e,n1,n2,s _ _ h⟩
def E8.of{lo ll:Addr}{H:Hp}{cs:List (LS)}{vs:LV}(h:E8 lo ll H cs vs):C1 H cs vs:=Paired.mapP h λ_ _ ⟨t,e,_,_,h⟩=>⟨t,e,h⟩
def b_:Sp:=λvs H Q _=>∃(p lw aa lu:Addr) (rows:RS) (AI:KL) (n:Nat) (ord:List Int) (cs:List (LS)),vs=[.ref p,.ref lw,.ref aa,.ref lu]/\(∃ o,H p=some o/\Bh o)/\Ah rows/\H lw=some (.lst ((rows.map (·.1)).map V.str))/\H aa=some (.dK AI)/\BZ H rows rows AI/\Di p H lu ord cs/\W8 (rows.map (·.1)) n ord cs/\1<=n/\n<=4 /\
 ∀ l2 AM cs' H',Drawn p H H'->Di p H' l2 AM cs'->Ci AM cs'->Q (.ref l2) H'
def GY(H:Hp)(p lw aa lu:Addr)(ord:List Int)(cs:List (LS))(way at_ oth:Int)(i:Int)(σ:St)(H':Hp):Prop :=
 ∃(lo ll:Addr) (AM:List Int) (cs':List (LS)) (vs:LV),σ=[some (.ref p),some (.ref lw),some (.ref aa),some (.ref lu),some (.ref lo),some (.ref ll),some (.int way),some (.int at_),some (.int oth)]/\Drawn p H H'/\H lo=none/\H ll=none/\lo≠ll/\H' lo=some (.lst (AM.map V.int))/\H' ll=some (.lst vs)/\E8 lo ll H' cs' vs/\Ci AM cs'/\(i<way->AM=ord/\cs'=cs)
def Va{ls:List Int}{v:Int}(h0:0<=v)(h1:v<ls.length):∃ z,z∈ls/\A_ (ls.map V.int) v=some (.int z):=by
 have hl:v.toNat<ls.length:=by omega
 refine⟨ls[v.toNat],Jw hl,?_⟩;have e:((v.toNat:Nat):Int)=v:=by omega
 have:=EK (xs:=ls.map V.int) (j:=v.toNat) (v:=.int ls[v.toNat]) (by rw[Yf,Yb hl];rfl);rw[e]at this;exact this
def Mt{xs:LV}{v:Int}{n:Nat}(hn:xs.length=n)(h0:0<=v)(h1:v<n):Ex xs.length v=some v.toNat:=by
 unfold Ex;rw[if_pos h0,hn,if_pos h1]
abbrev YF:LS:=["pot","words","above","lineup","order","lines","way","at","other"]
abbrev Pe:LS:=["pot","words","above","lineup"]
def f_:Ae YF Pe (AL PU):=by nofun
def mz(F:Def K mg "_law_turned" PU Pe f fd)(list:mg "list"=none)(len:mg "len"=none)(DT:Def K mg "_law_take" EO ["pot","many"] fT fdT)(GT:⋯ 1 fT fdT ["pot","many"] Fi)
  (DS:Def K mg "_law_spoilt" S4 ["pot","words","line"] fS fdS) (GS:⋯ 3 fS fdS ["pot","words","line"] bz) (DL:Def K mg "_law_line" Ib ["pot","above","word"] fL fdL) (GL:⋯ 2 fL fdL ["pot","above","word"] U9):⋯ 4 f fd Pe b_:=by
 nomatch F.fn.ok f_
 ·obtain⟨p,lw,aa,lu,rows,AI,n,ord,cs,rfl,_⟩:=h;rfl
 ·obtain⟨p,lw,aa,lu,rows,AI,n,ord,cs,rfl,⟨o,hp,ho⟩,g,hw,ha,hA,⟨iy,i0,T5,n0,Ab,Xe,QP,jd⟩,luw,n1,n4,q⟩:=h;have nd:=f_.nd;have Ac:AV 1 _:=hr.mono (by decide);have Ca:AV 2 _:=hr.mono (by decide)
  ac_nf
  refine'⟨_,(pS (sE 4 nd (DZ Ia (by rfl) list FI (pC (AX (r:=CF K) CI (pv 3) AG (λ_ _=>rfl)) AA)))
   (pS ?e1
   (pS (sE 6 nd (AN DT GT Ac (pC (pv 0) (pC AG AA))))
   (pS (sE 7 nd (AN DT GT Ac (pC (pv 0) (pC (Aa B8 (by rfl) len Yy (pC (pv 4) AA)) AA))))
   (pS (sE 8 nd (AN DT GT Ac (pC (pv 0) (pC (Aa B8 (by rfl) len Yy (pC (pv 4) AA)) AA))))
   (B6 (AY (Af BC (pv 6) AG (Ad _)) (AH (HW (AX (r:=BB K) Al (pv 4) (pv 8) (λ_ _=>rfl)) (IK (pv 4) (pv 7) IW))) AZ)
   (B6 (AY (Af BC (pv 6) AG (Ad _)) (AH (Bi (CH Yw Ti Th Vi (pv 4) (pC (pv 7) AA)))) AZ)
   (B6 (AY (Af BC (pv 6) AG (Ad _)) (AH (Bi (CH Yw LI LH K2 (pv 4) (pC (pv 7) (pC (AX (r:=BB K) Al (B2 (pC (Ag JY AG AG) (pC (Aa B8 (by rfl) len Yy (pC (pv 4) AA)) (pC (pv 8) AA)))) (AN DT GT Ac (pC (pv 0) (pC AG AA))) (λ_ _=>rfl)) AA))))) AZ)
   (B6 (AY (Af BC (pv 6) AG (Ad _)) (AH (Bi (CH Yw Ti Th Vi (pv 5) (pC (pv 7) AA)))) AZ)
   (B6 (AY (Af BC (pv 6) AG (Ad _)) (AH (Bi (CH Yw LI LH K2 (pv 5) (pC (pv 7) (pC (DZ Ia (by rfl) list FI (pC (AX (r:=BB K) Al (pv 5) (pv 8) (λ_ _=>rfl)) AA)) AA))))) AZ)
   (B6 (AY (Af BC (pv 6) AG (Ad _)) (AH (HW (AN DS GS hr (pC (pv 0) (pC (pv 1) (pC (AX (r:=BB K) Al (pv 5) (pv 7) (λ_ _=>rfl)) AA)))) (IK (pv 5) (pv 7) IW))) AZ)
   (B6 (AY (Af BC (pv 6) AG (Ad _)) (AH (HW (AN DL GL Ca (pC (pv 0) (pC (pv 2) (pC (AX (r:=BB K) Al (pv 1) (AN DT GT Ac (pC (pv 0) (pC (Aa B8 (by rfl) len Yy (pC (pv 1) AA)) AA))) (λ_ _=>rfl)) AA)))) (IK (pv 5) (pv 7) IW))) AZ)
   (B6 (AY (Af BC (pv 6) AG (Ad _)) (AH (HW (AX (r:=BB K) Al (B2 (pC (Ag JY AG AG) (pC (Aa B8 (by rfl) len Yy (pC (pv 4) AA)) AA))) (AN DT GT Ac (pC (pv 0) (pC AG AA))) (λ_ _=>rfl)) (IK (pv 4) (pv 7) IW))) AZ)
   (AH (AW (EJ (pC (pv 4) (pC (pv 5) AA)))))))))))))))))),?_⟩
  case e1=>exact(O7 (k:=5) ["line"] [] [] nd rfl rfl (λ_=>BU (osc:=AL PU) (on:=YF) (by rfl') rfl rfl rfl) (C5 (AX (r:=CF K) CI (pv 3) AG (λ_ _=>rfl))) (λC s H fp=>BQ (i:=0) bH rfl (Or.inl rfl) (Or.inr rfl)) (λC s H fp=>CA) (λC s H fp=>DZ (r:=Zk K) Ia (by rfl) list FI (pC (pv 0) AA)))
  exists let b:=_;let c:=CG (BH _ b _) a;let e:=_;let f:=CG (BH _ e _) c;let g:=_;let h:=CG (BH _ g _) f;let i:=_;let j:=CG (BH _ i _) h;let k:=_;let l:=CG (BH _ k _) j;let m:=_;let n:=CG (BH _ m _) l;let o:=_;let p:=CG (BH _ o _) n;let q:=_;let r:=CG (BH _ q _) p;let s:=AE _ r;let t:=AE _ s;let u:=AE _ t;let v:=AE _ u;AE _ v _ _ _
  have gle:=g.le;have gne:=g.ne;have wl:(rows.map (·.1)).length=rows.length:=Ya ..;have wp:lw≠p:=Yj (D_ hp ho hw);have ap:aa≠p:=λz=>by
   obtain⟨_,_,e,_⟩:=id ho;rw[z,hp,e]at ha;cases ha
  have wok:Kr (rows.map (·.1)):=⟨λx hx=>by
   obtain⟨r,Aj,rfl⟩:=Yg.mp hx;exact g.word r Aj,g.nd⟩
  have ol:=luw.olen;have cl:=luw.clen;have XC:∀ c∈cs,Ej c/\c.length<64:=λc hc=>by
   obtain⟨_,jk,hk⟩:=luw.line c hc;exact⟨λz hz=>Ot (wok.word z (hk z hz)),W⟩
  refine⟨Z,lu,_,_,Z,Y,AJ.of Ab,Y,iy,Z,.inl (SqL.of Xe),λlo hlo=>?_⟩;have s1:AB H (upd H lo (.lst (ord.map V.int))):=Aw hlo;have BG:(upd H lo (.lst (ord.map V.int))) lo=some (.lst (ord.map V.int)):=uS;generalize upd H lo (.lst (ord.map V.int))=H1 at s1 BG;have lop:lo≠p:=Yj (AF hp hlo);refine⟨Z,lu,_,_,Z,Y,AJ.of (s1 _ _ Ab),Y,i0,Y,⟨_,SqL.of (s1 _ _ QP)⟩,dW (s1 _ _ QP) (jd.mono s1) (by omega) (λt ys H' R ht hR=>⟨Z,t,Z,.inl (SqL.of ht),hR⟩) λll H2 hs hll s2 JL pr=>?_⟩;have fll:H ll=none:=s1.free hll;have nll:lo≠ll:=AF BG hll;have L2:E8 lo ll H2 cs hs:=Paired.mapP pr λc v ⟨b,e,nb,fb,hb⟩=>⟨b,e,Yj (AF BG fb),nb,hb⟩;have CY:=s1.trans s2;have BJ:=CY _ _ hp;have UO:=s2 _ _ BG;refine⟨Z,p,9,o,Y,BJ,ho,V,V,λway o3 w0 w9 Bz=>?_⟩;have HK:Drawn p H2 (upd H2 p o3):=Drawn.upd Bz;have Dz:(upd H2 p o3) p=some o3:=uS;generalize upd H2 p o3=H3 at HK Dz;have UN:=HK.keep _ _ lop UO;refine⟨Z,Z,lo,Z,.inl (SqL.of UN),p,_,o3,Y,Dz,Bz,U,U,λat_ o4 a0 a1 F9=>?_⟩;have Kj:Drawn p H3 (upd H3 p o4):=Drawn.upd F9;have Dy:(upd H3 p o4) p=some o4:=uS;generalize upd H3 p o4=H4 at Kj Dy;have YM:=Kj.keep _ _ lop UN;refine⟨Z,Z,lo,Z,.inl (SqL.of YM),p,_,o4,Y,Dy,F9,U,U,λoth o5 b0 b1 F8=>?_⟩;have HJ:Drawn p H4 (upd H4 p o5):=Drawn.upd F8;have CC:(upd H4 p o5) p=some o5:=uS;generalize upd H4 p o5=H5 at HJ CC;rw[Ya,ol]at a1 b1;have Mg:=(HK.trans Kj).trans HJ;have M0:GY H p lw aa lu ord cs way at_ oth 0 [some (.ref p),some (.ref lw),some (.ref aa),some (.ref lu),some (.ref lo),some (.ref ll),some (.int way),some (.int at_),some (.int oth)] H5 :=
   ⟨lo,ll,ord,cs,hs,Y,⟨λb u hb e=>Mg.keep b u hb (CY _ _ e),Mg.pot⟩,hlo,fll,nll,Mg.keep _ _ lop UO,Mg.keep _ _ (Yj (AF hp fll)) JL,L2.drawn BJ ho Mg,⟨W,W,luw.oi,XC⟩,λ_=>⟨Y,Y⟩⟩
  clear Mg HJ Kj HK CC Dy Dz YM UN UO BJ L2 nll fll JL s2 hll pr CY BG s1 lop hlo;have putO:∀ {lo ll:Addr} {H':Hp} {vs:LV} {AM Dv:List Int} {cs':List (LS)} {j:Int},Drawn p H H'->H lo=none->H ll=none->lo≠ll->H' ll=some (.lst vs)->E8 lo ll H' cs' vs->Ci AM cs'->Dv.length<=10->(∀ p∈Dv,-1<=p/\p<=100)->¬ (j<way)->GY H p lw aa lu ord cs way at_ oth j [some (.ref p),some (.ref lw),some (.ref aa),some (.ref lu),some (.ref lo),some (.ref ll),some (.int way),some (.int at_),some (.int oth)] (upd H' lo (.lst (Dv.map V.int))):=λ{lo ll H' vs AM Dv cs' j} d fo fl ne hl L ok le oi im=>by
   obtain⟨oz,hpz,hoz⟩:=d.pot;exact⟨lo,ll,Dv,cs',vs,Y,⟨λb u hb e=>by rw[AD (AF e fo)];exact d.keep b u hb e,oz,by rw[AD (AF hp fo)];exact hpz,hoz⟩,fo,fl,ne,uS,by rw[AD (Yj ne)];exact hl,Paired.mapP L λc v ⟨t,e,t1,t2,h⟩=>⟨t,e,t1,t2,by rw[AD t1];exact h⟩,⟨le,ok.fewL,oi,ok.txt⟩,λz=>absurd z im⟩
  have putL:∀ {lo ll:Addr} {H':Hp} {Iv:LV} {AM:List Int} {cs' JC:List (LS)} {j:Int},Drawn p H H'->H lo=none->H ll=none->lo≠ll->H' lo=some (.lst (AM.map V.int))->E8 lo ll H' JC Iv->Ci AM JC->¬ (j<way)->GY H p lw aa lu ord cs way at_ oth j [some (.ref p),some (.ref lw),some (.ref aa),some (.ref lu),some (.ref lo),some (.ref ll),some (.int way),some (.int at_),some (.int oth)] (upd H' ll (.lst Iv)):=λ{lo ll H' Iv AM cs' JC j} d fo fl ne hl L ok im=>by
   obtain⟨oz,hpz,hoz⟩:=d.pot;exact⟨lo,ll,AM,JC,Iv,Y,⟨λb u hb e=>by rw[AD (AF e fl)];exact d.keep b u hb e,oz,by rw[AD (AF hp fl)];exact hpz,hoz⟩,fo,fl,ne,by rw[AD ne];exact hl,uS,Paired.mapP L λc v ⟨t,e,t1,t2,h⟩=>⟨t,e,t1,t2,by rw[AD t2];exact h⟩,ok,λz=>absurd z im⟩
  have eqi:∀ {m:Int},decide (V.int way=V.int m)=true->way=m:=λh=>by
   have:=Je h;injection this
  have nei:∀ {m:Int},¬ decide (V.int way=V.int m)=true->way≠m:=λh z=>h (Jb (by rw[z]));obtain⟨lo,ll,AM,cs',vs,e0,d,fo,fl,ne,hlo,hll,L,ok,im⟩:=M0;cases e0;refine⟨GY H p lw aa lu ord cs way at_ oth 1,?_,?_⟩
  ·refine⟨Z,Y,Z,Ak (λe=>?_) (λnn=>⟨lo,ll,AM,cs',vs,Y,d,fo,fl,Q⟩)⟩;have e:=eqi e;obtain⟨e1,e2⟩:=im (by omega);subst e1 e2;obtain⟨zb,mb,hatb⟩:=Va (ls:=AM) b0 (by omega);refine⟨Z,Z,lo,_,_,Z,Y,SqL.of hlo,hatb,Z,Z,lo,_,_,Z,Y,hlo,Mt (n:=n) (by rw[Ya];exact ol) a0 a1,?_⟩;rw[show(AM.map V.int).set at_.toNat (.int zb)=(AM.set at_.toNat zb).map V.int from by rw[List.map_set]];exact putO (j:=1) d fo fl ne hll L ok (by rw[Im];omega) (λp hp=>by
    rcases Pk hp with c | c
    ·exact ok.oint p c
    ·rw[c];exact ok.oint zb mb) (by omega)
  clear hlo hll L ok im d fo fl ne;rintro σ' H7 ⟨lo,ll,AM,cs',vs,rfl,d,fo,fl,ne,hlo,hll,L,ok,im⟩;refine⟨GY H p lw aa lu ord cs way at_ oth 2,?_,?_⟩
  ·refine⟨Z,Y,Z,Ak (λe=>?_) (λnn=>⟨lo,ll,AM,cs',vs,Y,d,fo,fl,Q⟩)⟩;have e:=eqi e;obtain⟨e1,e2⟩:=im (by omega);subst e1 e2;have hi:at_.toNat<AM.length:=by omega
   refine⟨Z,.inl ⟨Y,_,SqL.of hlo⟩,Z,lo,_,_,at_.toNat,.int AM[at_.toNat],Y,Y,hlo,W,W,(Oj (Mt (n:=n) (by rw[Ya];exact ol) a0 a1)).1,by rw[Yf,Yb hi];rfl,?_⟩;rw[SS];exact putO (j:=2) d fo fl ne hll L ok (by have:=Wt AM at_.toNat;omega) (λp hp=>ok.oint p (Wz hp)) (by omega)
  rintro σ' H7 ⟨lo,ll,AM,cs',vs,rfl,d,fo,fl,ne,hlo,hll,L,ok,im⟩;refine⟨GY H p lw aa lu ord cs way at_ oth 3,?_,?_⟩
  ·refine⟨Z,Y,Z,Ak (λe=>?_) (λnn=>⟨lo,ll,AM,cs',vs,Y,d,fo,fl,Q⟩)⟩;have e:=eqi e;obtain⟨e1,e2⟩:=im (by omega);subst e1 e2;have lop:lo≠p:=Yj (AF hp fo);refine⟨Z,.inl ⟨Y,_,SqL.of hlo⟩,Z,_,Z,Y,Z,lo,Z,.inl (SqL.of hlo),Z,sL (by show 3<=100000;decide),λl8 C0=>?_⟩;have s8:=Aw (o:=.lst [.int (0 - 1),.int ((AM.map V.int).length:Nat),.int oth]) C0;have GG:(upd H7 l8 (.lst [.int (0 - 1),.int ((AM.map V.int).length:Nat),.int oth])) l8=some (.lst ([(0 - 1:Int),((AM.map V.int).length:Nat),oth].map V.int)):=uS;generalize upd H7 l8 (.lst [.int (0 - 1),.int ((AM.map V.int).length:Nat),.int oth])=H8 at s8 GG;obtain⟨o7,Cs,BX⟩:=id d.pot;have Dx:=s8 _ _ Cs;refine⟨Z,p,3,o7,Y,Dx,BX,V,V,λv9 o9 T7 T6 Kb=>?_⟩;have d9:Drawn p H8 (upd H8 p o9):=Drawn.upd Kb;generalize upd H8 p o9=H9 at d9;have UP:l8≠p:=Yj (AF Cs C0);obtain⟨zv,mv,hatv⟩:=Va (ls:=[(0 - 1:Int),((AM.map V.int).length:Nat),oth]) T7 (by show v9<3;exact T6);have L7:=d9.keep _ _ lop (s8 _ _ hlo);refine⟨l8,_,_,Z,Y,SqL.of (d9.keep _ _ UP GG),hatv,lo,_,_,Z,Y,L7,a0,U,B7 (by rw[Ya];omega),?_⟩;rw[show(AM.map V.int).take at_.toNat++V.int zv :: (AM.map V.int).drop at_.toNat=(AM.take at_.toNat++zv :: AM.drop at_.toNat).map V.int from by rw[Bw,Ym,Iq,LF]];have Uq:=(d.same s8).trans d9;exact putO (j:=3) Uq fo fl ne (d9.keep _ _ (Yj (AF hp fl)) (s8 _ _ hll)) ((L.mono s8).drawn Dx BX d9) ok (by rw[Yx,Bj,Yz,Hi];omega) (λp hp=>by
    rcases Yt.mp hp with c | c
    ·exact ok.oint p (J2 c)
    ·rcases Yr.mp c with c | c
     ·rw[c];have:=ok.few;simp only[Ya,Yr,List.not_mem_nil,or_false]at mv;omega
     ·exact ok.oint p (Tf c)) (by omega)
  rintro σ' H7 ⟨lo,ll,AM,cs',vs,rfl,d,fo,fl,ne,hlo,hll,L,ok,im⟩;refine⟨GY H p lw aa lu ord cs way at_ oth 4,?_,?_⟩
  ·refine⟨Z,Y,Z,Ak (λe=>?_) (λnn=>⟨lo,ll,AM,cs',vs,Y,d,fo,fl,Q⟩)⟩;have e:=eqi e;obtain⟨e1,e2⟩:=im (by omega);subst e1 e2;have vl:=Ba L;have hi:at_.toNat<vs.length:=by omega
   refine⟨Z,.inl ⟨Y,_,SqL.of hll⟩,Z,ll,_,_,at_.toNat,vs[at_.toNat],Y,Y,hll,W,W,(Oj (Mt (n:=n) (by omega) a0 a1)).1,Yb hi,?_⟩;exact putL (j:=4) (cs':=cs') d fo fl ne hlo (eO _ L) ⟨ok.few,by have:=Wt cs' at_.toNat;have:=ok.fewL;omega,ok.oint,λc hc=>ok.txt c (Wz hc)⟩ (by omega)
  rintro σ' H7 ⟨lo,ll,AM,cs',vs,rfl,d,fo,fl,ne,hlo,hll,L,ok,im⟩;refine⟨GY H p lw aa lu ord cs way at_ oth 5,?_,?_⟩
  ·refine⟨Z,Y,Z,Ak (λe=>?_) (λnn=>⟨lo,ll,AM,cs',vs,Y,d,fo,fl,Q⟩)⟩;have e:=eqi e;obtain⟨e1,e2⟩:=im (by omega);subst e1 e2;have vl:=Ba L;have hi:oth.toNat<vs.length:=by omega
   obtain⟨c,hc,tc,ec,iC,UB,htc⟩:=C6 L (Yb hi);have hat:=FC b0 (Yb hi);rw[ec]at hat;refine⟨Z,.inl ⟨Y,_,SqL.of hll⟩,Z,Z,Z,ll,_,_,Z,Y,SqL.of hll,hat,tc,Z,.inl (SqL.of htc),λl8 C0=>?_⟩;have s8:AB H7 (upd H7 l8 (.lst (c.map V.str))):=Aw C0;have GG:(upd H7 l8 (.lst (c.map V.str))) l8=some (.lst (c.map V.str)):=uS;generalize upd H7 l8 (.lst (c.map V.str))=H8 at s8 GG;refine⟨ll,_,_,Z,Y,s8 _ _ hll,a0,W,B7 (by omega),?_⟩;exact putL (j:=5) (cs':=cs') (d.same s8) fo fl ne (s8 _ _ hlo) (eE ⟨l8,Y,Yj (AF hlo C0),Yj (AF hll C0),GG⟩ _ (L.mono s8)) ⟨ok.few,by rw[Yx,Bj,Yz,Hi];omega,ok.oint,λc' Ap=>by
    rcases Yt.mp Ap with z | z
    ·exact ok.txt c' (J2 z)
    ·rcases Yr.mp z with z | z
     ·rw[z];exact ok.txt c (Yh hc)
     ·exact ok.txt c' (Tf z)⟩ (by omega)
  rintro σ' H7 ⟨lo,ll,AM,cs',vs,rfl,d,fo,fl,ne,hlo,hll,L,ok,im⟩;have setok:∀ {cs':List (LS)} {c:LS} (j:Nat),Ci AM cs'->Ej c->c.length<64->Ci AM (cs'.set j c):=λ{cs' c} j ok h1 h2=>⟨ok.few,by rw[Im];exact ok.fewL,ok.oint,λc' Ap=>by
   rcases Pk Ap with z | z
   ·exact ok.txt c' z
   ·rw[z];exact⟨h1,h2⟩⟩
  refine⟨GY H p lw aa lu ord cs way at_ oth 6,?_,?_⟩
  ·refine⟨Z,Y,Z,Ak (λe=>?_) (λnn=>⟨lo,ll,AM,cs',vs,Y,d,fo,fl,Q⟩)⟩;have e:=eqi e;obtain⟨e1,e2⟩:=im (by omega);subst e1 e2;have vl:=Ba L;have lop:lo≠p:=Yj (AF hp fo);have llp:ll≠p:=Yj (AF hp fl);have hi:at_.toNat<vs.length:=by omega
   obtain⟨c,hc,tc,ec,iC,UB,htc⟩:=C6 L (Yb hi);have hat:=FC a0 (Yb hi);rw[ec]at hat;obtain⟨i4,XJ,lck⟩:=luw.line c (Yh hc);obtain⟨o7,Cs,BX⟩:=id d.pot;refine⟨Z,Z,Z,Z,ll,_,_,Z,Y,SqL.of hll,hat,p,lw,tc,_,c,Y,d.pot,d.keep _ _ wp hw,wok,W,W,htc,(ok.txt c (Yh hc)).1,i4,XJ,λlm A3 H8 d8 flm hlm okm lem=>?_⟩;refine⟨Z,Z,ll,_,_,Z,Y,d8.keep _ _ llp hll,Mt (n:=n) (by omega) a0 a1,?_⟩;exact putL (j:=6) (cs':=cs') (d.trans d8) fo fl ne (d8.keep _ _ lop hlo) (WE ⟨lm,Y,Yj (AF hlo flm),Yj (AF hll flm),hlm⟩ _ (L.drawn Cs BX d8)) (setok _ ok okm (by omega)) (by omega)
  rintro σ' H7 ⟨lo,ll,AM,cs',vs,rfl,d,fo,fl,ne,hlo,hll,L,ok,im⟩;refine⟨GY H p lw aa lu ord cs way at_ oth 7,?_,?_⟩
  ·refine⟨Z,Y,Z,Ak (λe=>?_) (λnn=>⟨lo,ll,AM,cs',vs,Y,d,fo,fl,Q⟩)⟩;have e:=eqi e;obtain⟨e1,e2⟩:=im (by omega);subst e1 e2;have vl:=Ba L;have lop:lo≠p:=Yj (AF hp fo);have llp:ll≠p:=Yj (AF hp fl);obtain⟨o7,Cs,BX⟩:=id d.pot;have N8:=d.keep _ _ wp hw;refine⟨Z,Z,Z,Z,Z,lw,Z,.inl (SqL.of N8),p,_,o7,Y,Cs,BX,U,U,λv8 o8 hY hW FR=>?_⟩;have d8:Drawn p H7 (upd H7 p o8):=Drawn.upd FR;generalize upd H7 p o8=H8 at d8;obtain⟨x,hx,hat⟩:=IX hY hW;have ZM:=d.trans d8;refine⟨lw,_,_,Z,Y,SqL.of (d8.keep _ _ wp N8),hat,p,aa,rows,AI,x,Y,d8.pot,g,ZM.keep _ _ ap ha,NP hA hp ho ZM,hx,λl9 xJ H9 d9 jt jS k9 xM wZ _=>?_⟩;have RX:=d8.trans d9;refine⟨Z,Z,ll,_,_,Z,Y,RX.keep _ _ llp hll,Mt (n:=n) (by omega) a0 a1,?_⟩;have f9:H7 l9=none:=Zip d8 jt;exact putL (j:=7) (cs':=cs') (d.trans RX) fo fl ne (RX.keep _ _ lop hlo) (WE ⟨l9,Y,Yj (AF hlo f9),Yj (AF hll f9),jS⟩ _ (L.drawn Cs BX RX)) ⟨ok.few,by rw[Im];exact ok.fewL,ok.oint,λc' Ap=>by
    rcases Pk Ap with z | z
    ·exact ok.txt c' z
    ·rw[z];exact⟨λz hz=>Ot (wok.word z (k9 z hz)),W⟩⟩ (by omega)
  clear setok;rintro σ' H7 ⟨lo,ll,AM,cs',vs,rfl,d,fo,fl,ne,hlo,hll,L,ok,im⟩;refine⟨GY H p lw aa lu ord cs way at_ oth 8,?_,?_⟩
  ·refine⟨Z,Y,Z,Ak (λe=>?_) (λnn=>⟨lo,ll,AM,cs',vs,Y,d,fo,fl,Q⟩)⟩;have e:=eqi e;obtain⟨e1,e2⟩:=im (by omega);subst e1 e2;have lop:lo≠p:=Yj (AF hp fo);refine⟨_,Z,Y,Z,lo,Z,.inl (SqL.of hlo),O,λl8 C0=>?_⟩;have s8:=Aw (o:=.lst [.int (0 - 1),.int ((AM.map V.int).length:Nat)]) C0;have GG:(upd H7 l8 (.lst [.int (0 - 1),.int ((AM.map V.int).length:Nat)])) l8=some (.lst ([(0 - 1:Int),((AM.map V.int).length:Nat)].map V.int)):=uS;generalize upd H7 l8 (.lst [.int (0 - 1),.int ((AM.map V.int).length:Nat)])=H8 at s8 GG;obtain⟨o7,Cs,BX⟩:=id d.pot;have Dx:=s8 _ _ Cs;refine⟨Z,p,2,o7,Y,Dx,BX,V,V,λv9 o9 T7 T6 Kb=>?_⟩;have d9:Drawn p H8 (upd H8 p o9):=Drawn.upd Kb;generalize upd H8 p o9=H9 at d9;have UP:l8≠p:=Yj (AF Cs C0);obtain⟨zv,mv,hatv⟩:=Va (ls:=[(0 - 1:Int),((AM.map V.int).length:Nat)]) T7 (by show v9<2;exact T6);have L7:=d9.keep _ _ lop (s8 _ _ hlo);refine⟨l8,_,_,Z,Y,SqL.of (d9.keep _ _ UP GG),hatv,Z,Z,lo,_,_,Z,Y,L7,Mt (n:=n) (by rw[Ya];exact ol) a0 a1,?_⟩;rw[show(AM.map V.int).set at_.toNat (.int zv)=(AM.set at_.toNat zv).map V.int from by rw[List.map_set]];have Uq:=(d.same s8).trans d9;exact putO (j:=8) Uq fo fl ne (d9.keep _ _ (Yj (AF hp fl)) (s8 _ _ hll)) ((L.mono s8).drawn Dx BX d9) ok (by rw[Im];omega) (λp hp=>by
    rcases Pk hp with c | c
    ·exact ok.oint p c
    ·rw[c];have:=ok.few;simp only[Ya,Yr,List.not_mem_nil,or_false]at mv;omega) (by omega)
  rintro σ' H7 ⟨lo,ll,AM,cs',vs,rfl,d,fo,fl,ne,hlo,hll,L,ok,im⟩;refine⟨Z,Z,O,λl2 DC=>?_⟩;have s9:AB H7 (upd H7 l2 (.tup [.ref lo,.ref ll])):=Aw DC;exact q l2 AM cs' _ (d.same s9) ⟨lo,ll,vs,Yj (AF hp fo),uS,s9 _ _ hlo,s9 _ _ hll,(E8.of L).mono s9⟩ ok
structure Wf(ord:List Int)(cs:List (LS)):Prop where
 sw:(W.kqdP (Fd (ord,cs))).showable=true
 nd:(W.kqdP (Fd (ord,cs))).hasDict=false
 dp:(W.kqdP (Fd (ord,cs))).depth<=8
 sh:(W.kqdP (Fd (ord,cs))).shown.length<=100000
def Rg(C B N:Addr):Sp:=λvs H _ E=>∃(p k t lu:Addr) (rows:RS) (n:Nat) (ds:List (LS)) (xs:LS) (ord:List Int) (cs:List (LS)),vs=[.ref p,.ref t,.ref lu]/\Cm C B H p k rows n ds/\Ah rows/\n<=4/\H t=some (.tup (xs.map V.str))/\Cv rows n xs/\DH H lu ord cs/\Ci ord cs/\¬ FK rows xs ord cs/\Wf ord cs/\∀ H',AB H H'->E (.ref N) none H'
def oY(F:Def K mg "ranked" FE As f fd)(DI:Def K mg "is_lineup" Jr As fI fdI)(XI:Ax P w K mg base (Bx P w) 4 fI fdI As (Ms C B N)):Ax P w K mg base (Bx P w) 5 f fd As (Ms C B N):=by
 nomatch F.fn.ok1 TQ
 ·obtain⟨p,k,t,rows,n,ds,xs,v,rfl,_⟩:=h;rfl
 ·obtain⟨p,k,t,rows,n,ds,xs,v,rfl,bd,g,n4,ht,hb,hl,hx,q⟩:=h
  ac_nf
  refine⟨_,pS (AY (CS (Bu (Ku XI hr (by rfl) DI.m DI.fn.kp DI.b .nil (JS CW.of) (pC (pv 0) (pC (pv 1) (pC (pv 2) AA)))))) Cn AZ) Cn,?_⟩
  exists AE _ a _ _ _
  exact⟨Z,Z,Z,p,k,t,rows,n,ds,xs,v,Y,bd,g,n4,ht,hb,hl,hx,q⟩
def oX(F:Def K mg "ranked" FE As f fd)(TN:S8 K mg "NoLine" N)(DI:Def K mg "is_lineup" Jr As fI fdI)(GI:⋯ 7 fI fdI As (Rq C B)):Ax P w K mg base (Bx P w) 8 f fd As (Rg C B N):=by
 have wN:Ax P w K mg base (Bx P w) 7 fI fdI As (Rq C B):=GI.any
 nomatch F.fn.ok1 TQ
 ·obtain⟨p,k,t,lu,rows,n,ds,xs,ord,cs,rfl,_⟩:=h;rfl
 ·obtain⟨p,k,t,lu,rows,n,ds,xs,ord,cs,rfl,bd,g,n4,ht,gc,hlu,lok,no,sh,q⟩:=h
  ac_nf
  refine⟨_,pS (AY (CS (Bu (Ku wN hr (by rfl) DI.m DI.fn.kp DI.b .nil (JS CW.of) (pC (pv 0) (pC (pv 1) (pC (pv 2) AA)))))) (AH (bO (C:=N) CW.of hr.hd TN.ex TN.ini (by rfl) TN.m (pC (aO (Kz (vZ hr (pv 2)) (Kz U5 (Kz (aQ hr (pv 1)) aR)))) AA))) AZ) Cn,?_⟩
  exists let b:=_;AE (BH _ b _) a _ _ _
  refine⟨Z,Z,Z,p,k,t,lu,rows,n,ds,xs,ord,cs,Y,bd,g,n4,ht,gc,hlu,lok,λv H1 s1 hv=>⟨Z,?_⟩⟩;rw[show v=false from by
   cases v with
   | false=>rfl
   | true=>exact absurd (hv.mp rfl) no]
  have xl:=gc.len;refine BM ⟨Z,lu,Z,Zn (c:=(ord,cs)) (hlu.mono s1),sh.sw,sh.nd,sh.dp,sh.sh,by rfl',Z,t,xs,Y,.inl (AJ.of (s1 _ _ ht)),W,λx hx=>So (SV g x (gc.known x hx)),λtx=>⟨sL (by show 1<=100000;decide),q H1 s1⟩⟩
def my(F:Def K mg "taken" Jo As f fd)(DR:Def K mg "ranked" FE As fR fdR)(XR:Ax P w K mg base (Bx P w) 5 fR fdR As (Ms C B N)):Ax P w K mg base (Bx P w) 6 f fd As (Ms C B N):=by
 nomatch F.fn.ok1 Nd
 ·obtain⟨p,k,t,rows,n,ds,xs,v,rfl,_⟩:=h;rfl
 ·obtain⟨p,k,t,rows,n,ds,xs,v,rfl,bd,g,n4,ht,hb,hl,hx,q⟩:=h
  ac_nf
  refine⟨_,pS (CB (i:=3) Nd.nd rfl (Or.inl rfl) (Ku XR hr (by rfl) DR.m DR.fn.kp DR.b .nil (JS CW.of) (pC (pv 0) (pC (pv 1) (pC (pv 2) AA))))) Cn,?_⟩
  exists AE _ a _ _ _
  exact⟨Z,Z,Z,p,k,t,rows,n,ds,xs,v,Y,bd,g,n4,ht,hb,hl,hx,q⟩
def mr(F:Def K mg "taken" Jo As f fd)(DR:Def K mg "ranked" FE As fR fdR)(XR:Ax P w K mg base (Bx P w) 8 fR fdR As (Rg C B N)):Ax P w K mg base (Bx P w) 9 f fd As (Rg C B N):=by
 nomatch F.fn.ok1 Nd
 ·obtain⟨p,k,t,lu,rows,n,ds,xs,ord,cs,rfl,_⟩:=h;rfl
 ·obtain⟨p,k,t,lu,rows,n,ds,xs,ord,cs,rfl,h⟩:=h
  ac_nf
  refine⟨_,pS (CB (i:=3) Nd.nd rfl (Or.inl rfl) (Ku XR hr (by rfl) DR.m DR.fn.kp DR.b .nil (JS CW.of) (pC (pv 0) (pC (pv 1) (pC (pv 2) AA))))) Cn,?_⟩
  exists AE _ a _ _ _
  exact⟨Z,Z,Z,p,k,t,lu,rows,n,ds,xs,ord,cs,Y,h⟩
end Gw
namespace Gw
open PySem L2 Md PySem.W PySem.Spec PyProof.Rows
variable {P:Program}{w:World}{K:Fg}{mg:Str->OU}{base:Heap}
theorem dU:∀ xs:List Int,kqdPs (xs.map Dat.int)=xs.map PyData.int
 | []=>by rw[Fw,kqdPs];rfl
 | x :: r=>by rw[Ym,kqdPs,dU r,kqdP];rfl
theorem dj:∀ cs:List (LS),kqdPs (cs.map LD)=cs.map λc=>PyData.list (c.map PyData.str)
 | []=>by rw[Fw,kqdPs];rfl
 | c :: r=>by rw[Ym,kqdPs,dj r];show kqdP (.list (c.map Dat.str)):: _=_;rw[kqdP,SX];rfl
def R0(ord:List Int)(cs:List (LS)):kqdP (Fd (ord,cs))=.tuple [.list (ord.map PyData.int),.list (cs.map λc=>PyData.list (c.map PyData.str))]:=by
 show kqdP (.tuple [.list (ord.map Dat.int),.list (cs.map LD)])=_;rw[kqdP,kqdPs,kqdPs,kqdPs,kqdP,kqdP,dU,dj]
theorem cm:∀ {xs:List Int},(∀ x∈xs,-1<=x/\x<=100)->PyData.showableAll (xs.map PyData.int)=true/\PyData.hasDictAll (xs.map PyData.int)=false/\PyData.depthAll (xs.map PyData.int)=0
 | [],_=>by simp[PyData.showableAll,PyData.hasDictAll,PyData.depthAll]
 | x :: r,h=>by
  obtain⟨h1,h2,h3⟩:=cm (xs:=r) λy hy=>h y (.tail _ hy);obtain⟨g1,g2⟩:=h x (.head _);have lg := VI (i := x) (by have : (2 : Nat) ^ 64 = 18446744073709551616 := (by decide); omega);rw[Ym,PyData.showableAll,PyData.hasDictAll,PyData.depthAll,h1,h2,h3];simp[PyData.showable,PyData.hasDict,PyData.depth,lg]
theorem cn:∀ cs:List (LS),PyData.showableAll (cs.map λc=>PyData.list (c.map PyData.str))=true/\PyData.hasDictAll (cs.map λc=>PyData.list (c.map PyData.str))=false/\PyData.depthAll (cs.map λc=>PyData.list (c.map PyData.str))<=1
 | []=>by simp[PyData.showableAll,PyData.hasDictAll,PyData.depthAll]
 | c :: r=>by
  obtain⟨h1,h2,h3⟩:=cn r;rw[Ym,PyData.showableAll,PyData.hasDictAll,PyData.depthAll,h1,h2,PyData.showable,PyData.hasDict,PyData.depth,Wv,Sg,Sf];refine⟨Y,Y,?_⟩;omega
def vm{ord:List Int}{cs:List (LS)}(ok:Ci ord cs):Wf ord cs:=by
 obtain⟨a1,a2,a3⟩:=cm ok.oint;obtain⟨b1,b2,b3⟩:=cn cs;refine⟨?_,?_,?_,?_⟩
 ·rw[R0];simp[PyData.showable,PyData.showableAll,a1,b1]
 ·rw[R0];simp[PyData.hasDict,PyData.hasDictAll,a2,b2]
 ·rw[R0];simp only[PyData.depth,PyData.depthAll,a3];omega
 ·rw[R0];have l1:(PyData.list (ord.map PyData.int)).shown.length<=62:=by
   have:=WM (ds:=ord.map PyData.int) (m:=4) λd hd=>by
    obtain⟨p,hp,rfl⟩:=Yg.mp hd;exact qA (ok.oint p hp).1 (ok.oint p hp).2
   rw[Ya]at this;have:=ok.few;omega
  have l2:(PyData.list (cs.map λc=>PyData.list (c.map PyData.str))).shown.length<=62000:=by
   have:=WM (ds:=cs.map λc=>PyData.list (c.map PyData.str)) (m:=6000) λd hd=>by
    obtain⟨c,hc,rfl⟩:=Yg.mp hd;obtain⟨so,cl⟩:=ok.txt c hc;have:=WM (ds:=c.map PyData.str) (m:=92) λd hd=>by
     obtain⟨z,hz,rfl⟩:=Yg.mp hd;exact qB (so z hz).1 (so z hz).2
    rw[Ya]at this;omega
   rw[Ya]at this;have:=ok.fewL;omega
  rw[PyData.shown_tuple,shownAll_eq_map,strLen_append,strLen_append,Ym,Ym,Fw,len_join_cons ", "];have e1:(Str.ofString "(").length=1:=by decide
  have e2:(Str.ofString ")").length=1:=by decide
  have e3:(Str.ofString ", ").length=2:=by decide
  simp only[Ym,Fw,List.sum_cons,List.sum_nil,Bj,Pq,e1,e3];show 1 + _ + (Str.ofString ")").length<=_;omega
end Gw
namespace Gw
open PySem L2 Md
variable {P:Program}{w:World}{K:Fg}{mg:Str->OU}{base:Heap}
def Uv(Pre:LV->Hp->Prop)(N:Addr):Sp:=λvs H Q _=>∃(a b c:V) (wh:Bool),vs=[a,b,c,.bl wh]/\Pre [a,b,c] H/\∀ ea H',AB H H'->H' ea=some (XO ea N none)->Q (.ref ea) H'
def gu(C B T:Addr)(lp:Pos):Sp:=λvs H Q _=>∃(p t lu:Addr) (wh:Bool) (rows:RS) (n:Nat) (ds:List (LS)) (xs:LS) (ord:List Int) (cs:List (LS)),vs=[.ref p,.ref t,.ref lu,.bl wh]/\HM C B T lp H p t lu rows n ds xs ord cs /\
 ∀ v H',Bm T H H'->ID T lp H'->Q v H'
def aq(C B T:Addr)(lp:Pos):Sp:=λvs H Q _=>∃(p t lu du:Addr) (rows:RS) (n:Nat) (ds:List (LS)) (xs:LS) (ord:List Int) (cs:List (LS)),vs=[.ref p,.ref t,.ref lu,.ref du]/\HM C B T lp H p t lu rows n ds xs ord cs /\
 H du=some (.lst ((DY rows ds xs ord cs).map Az))/\∀ H',Bm T H H'->ID T lp H'->Q (.bl true) H'
abbrev ib:LS:=["board","call","lineup","whole","found","e"]
abbrev IH:LS:=["board","call","lineup","whole"]
def TU:Ae ib IH (AL PK):=by nofun
def aL{Ds:Nat->Addr}{i kR kT:Nat}{Pre:LV->Hp->Prop}{spX:Sp}(F:Def K mg "_law_refusal" PK IH f fd)(TD:S7 K mg D)(O:Mi K D Ds i)(DR:Def K mg "ranked" FE As fR fdR)(XR:Ax P w K mg base (Bx P w) kR fR fdR As spX)(hR:kR<=9)(DT:Def K mg "taken" Jo As fT fdT)(XT:Ax P w K mg base (Bx P w) kT fT fdT As spX)(hT:kT<=9)
  (hX:∀ vs H Q E,Pre vs H->(∀ H',AB H H'->E (.ref (Ds i)) none H')->spX vs H Q E):⋯ 10 f fd IH (Uv Pre (Ds i)):=by
 nomatch F.fn.ok TU
 ·obtain⟨a,b,c,wh,rfl,_⟩:=h;rfl
 ·obtain⟨a,b,c,wh,rfl,pre,q⟩:=h;have nd:=TU.nd;have hrR:AV kR _:=hr.mono hR;have hrT:AV kT _:=hr.mono hT
  ac_nf
  refine⟨_,(pS (sE 4 nd Mw)
   (pS (Zi (i:=4) (j:=5) rfl rfl TD.ex nd (by rfl) TD.m rfl (Or.inl rfl) rfl rfl (M_ (Zj (Bu (pv 3)) (M_ (R_ (i:=4) nd rfl (Or.inl rfl) (SH DR XR hrR (by rfl) (pC (pv 0) (pC (pv 1) (pC (pv 2) AA)))))) (M_ (R_ (i:=4) nd rfl (Or.inl rfl) (SH DT XT hrT (by rfl) (pC (pv 0) (pC (pv 1) (pC (pv 2) AA)))))))))
   (AH (AW (pv 4))))),?_⟩
  exists let b:=AE _ a;AE _ b _ _ _
  refine⟨Z,Z,?_⟩;cases wh with
  | true =>
   refine BM ⟨Z,Z,Z,hX _ _ _ _ pre λH1 s1=>?_⟩;refine⟨Z,O.ex.toExC,O.sub,λea hea=>?_⟩;exact⟨Z,q ea _ (s1.trans (Aw hea)) uS⟩
  | false =>
   refine Av ⟨Z,Z,Z,hX _ _ _ _ pre λH1 s1=>?_⟩;refine⟨Z,O.ex.toExC,O.sub,λea hea=>?_⟩;exact⟨Z,q ea _ (s1.trans (Aw hea)) uS⟩
def vS{lp:Pos}(F:Def K mg "_law_refusal" PK IH f fd)(TD:S7 K mg D)(DR:Def K mg "ranked" FE As fR fdR)(GR:⋯ 8 fR fdR As (Od C B T lp))(DT:Def K mg "taken" Jo As fT fdT)(GT:⋯ 9 fT fdT As (R4 C B T lp)):⋯ 10 f fd IH (gu C B T lp):=by
 have wM:Ax P w K mg base (Bx P w) 8 fR fdR As (Od C B T lp):=GR.any;have wL:Ax P w K mg base (Bx P w) 9 fT fdT As (R4 C B T lp):=GT.any
 nomatch F.fn.ok TU
 ·obtain⟨p,t,lu,wh,rows,n,ds,xs,ord,cs,rfl,_⟩:=h;rfl
 ·obtain⟨p,t,lu,wh,rows,n,ds,xs,ord,cs,rfl,ask,q⟩:=h;have nd:=TU.nd;have N_:AV 8 _:=hr.mono (by decide)
  ac_nf
  refine⟨_,(pS (sE 4 nd Mw)
   (pS (Zi (i:=4) (j:=5) rfl rfl TD.ex nd (by rfl) TD.m rfl (Or.inl rfl) rfl rfl (M_ (Zj (Bu (pv 3)) (M_ (R_ (i:=4) nd rfl (Or.inl rfl) (SH DR wM N_ (by rfl) (pC (pv 0) (pC (pv 1) (pC (pv 2) AA)))))) (M_ (R_ (i:=4) nd rfl (Or.inl rfl) (SH DT wL hr (by rfl) (pC (pv 0) (pC (pv 1) (pC (pv 2) AA)))))))))
   (AH (AW (pv 4))))),?_⟩
  exists let b:=AE _ a;AE _ b _ _ _
  refine⟨Z,Z,?_⟩;cases wh with
  | true=>exact BM ⟨Z,Z,Z,p,t,lu,rows,n,ds,xs,ord,cs,Y,ask,λl H1 _ s1 D0 _=>⟨Z,q _ H1 s1 D0⟩⟩
  | false=>exact Av ⟨Z,Z,Z,p,t,lu,rows,n,ds,xs,ord,cs,Y,ask,λH1 s1 D0=>⟨Z,q _ H1 s1 D0⟩⟩
abbrev ik:LS:=["board","call","lineup","due","found","first"]
abbrev Pc:LS:=["board","call","lineup","due"]
def fY:Ae ik Pc (AL Si):=by nofun
set_option maxHeartbeats 8000000 in
def ko{lp:Pos}(F:Def K mg "_law_good" Si Pc f fd)(DR:Def K mg "ranked" FE As fR fdR)(GR:⋯ 8 fR fdR As (Od C B T lp))(DT:Def K mg "taken" Jo As fTk fdTk)(GT:⋯ 9 fTk fdTk As (R4 C B T lp))
  (DN:Def K mg "_law_numbers" PJ K_ fN fdN) (GN:⋯ 2 fN fdN K_ Zx) (DW:Def K mg "_law_whole" PD ["found"] fW fdW) (GW:⋯ 1 fW fdW ["found"] VR):⋯ 10 f fd Pc (aq C B T lp):=by
 nomatch F.fn.ok fY
 ·obtain⟨p,t,lu,du,rows,n,ds,xs,ord,cs,rfl,_⟩:=h;rfl
 ·obtain⟨p,t,lu,du,rows,n,ds,xs,ord,cs,rfl,ask,hdu,q⟩:=h;have nd:=fY.nd;have hu:=hr.units;have Ac:AV 1 _:=hr.mono (by decide);have Ca:AV 2 _:=hr.mono (by decide);have N_:AV 8 _:=hr.mono (by decide);have fl:=SG rows ds xs;have d24:=ask.d24;have rl:(DY rows ds xs ord cs).length=(A0 rows ds xs).length:=(cc rows ds xs ord cs).length_eq
  ac_nf
  refine'⟨_,(pS (sE 4 nd (AN DR GR N_ (pC (pv 0) (pC (pv 1) (pC (pv 2) AA)))))
   (pS (AY (CS (Bu (AN DN GN Ca (pC (pv 4) (pC (pv 3) AA))))) (AH (AW B1)) AZ)
   (pS (Bi (CH Yw J1 J0 Hc (pv 4) (pC AG AA)))
   (pS (sE 5 nd (AN DT GT hr (pC (pv 0) (pC (pv 1) (pC (pv 2) AA)))))
   (pS (AY (Af (Rk hu) (pv 3) (B2 AA) (Ad _)) (AH (AW (HU (EL uG (pv 5) Mw (Ad _)) (JZ (EL (Rk hu) (AN DR GR N_ (pC (pv 0) (pC (pv 1) (pC (pv 2) AA)))) (B2 AA) (Ad _)))))) AZ)
   (AH (AW (HU (AN DW GW Ac (pC (pv 5) AA)) (HU (EL BC (pv 5) (AX Al (pv 3) AG (λ_ _=>rfl)) (Ad _)) (JZ (AN DN GN Ca (pC (AN DR GR N_ (pC (pv 0) (pC (pv 1) (pC (pv 2) AA)))) (pC (pv 3) AA))))))))))))),?_⟩
  exists let b:=_;let c:=AE (BH _ b _) a;let e:=AE _ c;let f:=AE _ e;let g:=AE _ f;AE _ g _ _ _
  have tb:=ask.tab.tbl;refine⟨Z,Z,Z,p,t,lu,rows,n,ds,xs,ord,cs,Y,ask,λl H1 hl s1 D0 h1=>?_⟩;have Xi:=B_ tb s1 hdu (λ_ z=>nomatch z);refine⟨Z,Z,l,du,DY rows ds xs ord cs,Y,h1,Xi,W,λH2 s2=>⟨Z,Av ?_⟩⟩;have h2:=s2 _ _ h1;have RN:=D0.mono s2;have iL:Bm T H H2:=s1.trans s2.t;have lT:l≠T:=λz=>by
   obtain⟨ps,e⟩:=RN.tbl;rw[<- z,h2]at e;cases e
  refine⟨Z,.inl ⟨Y,_,SqL.of h2⟩,l,_,Z,Y,h2,B7 (by rw[Ya];omega),?_⟩;have k3:∀ b o,b≠l->H2 b=some o->(upd H2 l (.lst ((DY rows ds xs ord cs).map Az++[V.int 0]))) b=some o:=λb o hb e=>by rw[AD hb];exact e
  have f3:∀ b,(upd H2 l (.lst ((DY rows ds xs ord cs).map Az++[V.int 0]))) b=none->H2 b=none:=λb e=>by
   by_cases z:b=l
   ·rw[z,uS]at e;cases e
   ·rw[AD z]at e;exact e
  generalize upd H2 l (.lst ((DY rows ds xs ord cs).map Az++[V.int 0]))=H3 at k3 f3;have UD:Bm T H H3:=λb o hb e=>k3 b o (AF e hl) (iL b o hb e);have jb:ID T lp H3:=RN.keep λb o ho e=>k3 b o (λz=>by rw[z,h2]at e;cases e;rcases ho with⟨_,ho⟩ | ⟨_,_,ho⟩ <;> cases ho) e;have QX:=ask.monoT UD jb;have wu:=B_ tb UD hdu (λ_ z=>nomatch z);refine⟨Z,Z,Z,p,t,lu,rows,n,ds,xs,ord,cs,Y,QX,λH4 s4 RM=>?_⟩;have X7:=UD.trans s4;have QW:=QX.monoT s4 RM;have Xh:=B_ tb X7 hdu (λ_ z=>nomatch z);refine⟨Z,A7 _,λl0 OD=>?_⟩;have s5:AB H4 (upd H4 l0 (.lst [])):=Aw OD;have ZH:(upd H4 l0 (.lst [])) l0=some (.lst []):=uS;generalize upd H4 l0 (.lst [])=H5 at s5 ZH;have MF:=QW.copy s5 (QW.lu.mono s5);have JA:=s5 _ _ Xh;have X6:Bm T H H5:=X7.trans s5.t;refine⟨.list ((DY rows ds xs ord cs).map Fb),.list [],.list (SqL.of JA) (O1 _),.list (SqL.of ZH) .nil,R8 _ _,Y,Z,?_⟩;cases er:DY rows ds xs ord cs with
  | nil =>
   rw[show Bt (.list (([]:LN).map Fb)) (.list [])=true from EM _];refine BM ⟨Z,Y,Z,?_⟩;rw[show decide ((match ([]:LN)with | []=>V.non | k :: _=>Az k)=V.non)=true from Jb rfl];refine BM ⟨Z,Z,Z,p,t,lu,rows,n,ds,xs,ord,cs,Y,MF,λl6 H6 MW s6 Ua h6=>⟨A7 _,λl7 F_=>?_⟩⟩;have s7:AB H6 (upd H6 l7 (.lst [])):=Aw F_;have ZG:(upd H6 l7 (.lst [])) l7=some (.lst []):=uS;generalize upd H6 l7 (.lst [])=H7 at s7 ZG;rw[er]at h6;refine⟨.list (([]:LN).map Fb),.list [],.list (SqL.of (s7 _ _ h6)) (O1 _),.list (SqL.of ZG) .nil,R8 _ _,Y,?_⟩;rw[show(id (Bt (.list (([]:LN).map Fb)) (.list [])))=true from EM _];exact q H7 ((X6.trans s6).trans s7.t) (Ua.mono s7)
  | cons m r =>
   rw[show Bt (.list ((m :: r).map Fb)) (.list [])=false from Gm (λz=>by injection z with z;cases z)];rw[er]at JA;refine Av ⟨Z,Z,Z,BM ⟨Z,Z,du,_,_,Az m,Y,Y,SqL.of JA,FC (Int.le_refl _) rfl,Y,Z,?_⟩⟩;rw[show decide ((match m :: r with | []=>V.non | k :: _=>Az k)=Az m)=true from Jb rfl];refine BM ⟨Z,Z,Z,p,t,lu,rows,n,ds,xs,ord,cs,Y,MF,λl6 H6 MW s6 Ua h6=>?_⟩;rw[er]at h6 rl;refine⟨Z,l6,du,m :: r,Y,h6,B_ MF.tab.tbl s6 JA (λ_ z=>nomatch z),W,λH7 s7=>?_⟩;exact q H7 ((X6.trans s6).trans s7.t) (Ua.mono s7)
theorem Di.monoT{T p:Addr}{H H':Hp}{t:Addr}{ord:List Int}{cs:List (LS)}(h:Di p H t ord cs)(hT:∃ ps,H T=some (.tbl ps))(s:Bm T H H'):Di p H' t ord cs:=by
 obtain⟨lo,ll,vs,n,h1,h2,h3,h4⟩:=h;exact⟨lo,ll,vs,n,B_ hT s h1 (λ_ z=>nomatch z),B_ hT s h2 (λ_ z=>nomatch z),B_ hT s h3 (λ_ z=>nomatch z),h4.monoT hT s⟩
theorem ER.monoT{T p:Addr}{H H':Hp}{cs:List (List Int×List (LS))}{vs:LV}(h:ER p H cs vs)(hT:∃ ps,H T=some (.tbl ps))(s:Bm T H H'):ER p H' cs vs:=Paired.mapP h λ_ _ ⟨t,e,h⟩=>⟨t,e,h.monoT hT s⟩
structure FN(C B T p yb aa ld tc lw lf ll lh:Addr)(lp:Pos)(rows:RS)(n:Nat)(AI:KL)(ds:List (LS))(us:LV)(xs:LS)(fs:LN)(cs:List (List Int×List (LS)))(vs hs:LV)(H:Hp):Prop where
 tab:ID T lp H
 pot:∃ o,H p=some o/\Bh o
 bd:∃ k,Cm C B H yb k rows n ds
 a1:H aa=some (.dK AI)
 b1:BZ H rows rows AI
 hld:H ld=some (.lst us)
 hD:Bv H ds us
 htc:H tc=some (.tup (xs.map V.str))
 hlw:H lw=some (.lst ((rows.map (·.1)).map V.str))
 hlf:H lf=some (.lst (fs.map Az))
 hll:H ll=some (.lst vs)
 hlh:H lh=some (.lst hs)
 L1:ER p H cs vs
 L2:ER p H cs hs
 n1:ld≠p
 n2:lf≠p
 n3:ll≠p
 n4:lh≠p
section
variable {C B T p yb aa ld tc lw lf ll lh:Addr}{lp:Pos}{rows:RS}{n:Nat}{AI:KL}{ds:List (LS)}{us:LV}{xs:LS}{fs:LN}{cs:List (List Int×List (LS))}{vs hs:LV}{H H':Hp}
def FN.sameT(h:FN C B T p yb aa ld tc lw lf ll lh lp rows n AI ds us xs fs cs vs hs H)(s:Bm T H H')(t:ID T lp H'):FN C B T p yb aa ld tc lw lf ll lh lp rows n AI ds us xs fs cs vs hs H':=by
 have tb:=h.tab.tbl;have k:∀ {b:Addr} {us:LV},H b=some (.lst us)->H' b=some (.lst us):=λe=>B_ tb s e (λ_ z=>nomatch z);obtain⟨o,hp,ho⟩:=h.pot;exact⟨t,⟨o,B_ tb s hp (by obtain⟨_,_,e,_⟩:=ho;rw[e];exact λ_ z=>nomatch z),ho⟩,h.bd.elim λk b=>⟨k,b.monoT tb s⟩,B_ tb s h.a1 (λ_ z=>nomatch z),pQ h.b1 tb s,k h.hld,h.hD.monoT tb s,B_ tb s h.htc (λ_ z=>nomatch z),k h.hlw,k h.hlf,k h.hll,k h.hlh,h.L1.monoT tb s,h.L2.monoT tb s,h.n1,h.n2,h.n3,h.n4⟩
def FN.same(h:FN C B T p yb aa ld tc lw lf ll lh lp rows n AI ds us xs fs cs vs hs H)(s:AB H H'):FN C B T p yb aa ld tc lw lf ll lh lp rows n AI ds us xs fs cs vs hs H':=h.sameT s.t (h.tab.mono s)
theorem FN.drawn(h:FN C B T p yb aa ld tc lw lf ll lh lp rows n AI ds us xs fs cs vs hs H)(d:Drawn p H H'):FN C B T p yb aa ld tc lw lf ll lh lp rows n AI ds us xs fs cs vs hs H':=by
 obtain⟨o,hp,ho⟩:=h.pot;have pl:∃ xs,H p=some (.lst xs):=by obtain⟨r1,b1,eo,_⟩:=id ho;exact⟨_,by rw[hp,eo]⟩
 have k:∀ {b:Addr} {u:HO},H b=some u->(∀ xs,u≠.lst xs)->H' b=some u:=λ{b u} e n=>d.keep b u (λz=>by obtain⟨xs,q⟩:=pl;rw[z,q]at e;cases e;exact n _ rfl) e;exact⟨h.tab.keep λb u hu e=>k e (λxs z=>by rcases hu with⟨_,rfl⟩ | ⟨_,_,rfl⟩ <;> cases z),d.pot,h.bd.elim λk b=>⟨k,dc b hp ho d⟩,k h.a1 (λ_ z=>nomatch z),NP h.b1 hp ho d,d.keep _ _ h.n1 h.hld,WB h.hD hp ho d,k h.htc (λ_ z=>nomatch z),d.keep _ _ (Yj (D_ hp ho h.hlw)) h.hlw,d.keep _ _ h.n2 h.hlf,d.keep _ _ h.n3 h.hll,d.keep _ _ h.n4 h.hlh,h.L1.drawn hp ho d,h.L2.drawn hp ho d,h.n1,h.n2,h.n3,h.n4⟩
end
def fV(C B:Addr):LV->Hp->Prop:=λvs H=>∃(p k t:Addr) (rows:RS) (n:Nat) (ds:List (LS)) (xs:LS) (v:V),vs=[.ref p,.ref t,v]/\Cm C B H p k rows n ds/\Ah rows/\n<=4/\H t=some (.tup (xs.map V.str))/\E_ rows n xs=false/\xs.length<=100/\(∀ x∈xs,EI x)
def sC{C B N:Addr}(vs:LV)(H:Hp)(Q:VK)(E:XK)(h:fV C B vs H)(q:∀ H',AB H H'->E (.ref N) none H'):Ms C B N vs H Q E:=by
 obtain⟨p,k,t,rows,n,ds,xs,v,h1,h2,h3,h4,h5,h6,h7,h8⟩:=h;exact⟨p,k,t,rows,n,ds,xs,v,h1,h2,h3,h4,h5,h6,h7,h8,q⟩
def fQ(C B:Addr):LV->Hp->Prop:=λvs H=>∃(p k t lu:Addr) (rows:RS) (n:Nat) (ds:List (LS)) (xs:LS) (ord:List Int) (cs:List (LS)),vs=[.ref p,.ref t,.ref lu]/\Cm C B H p k rows n ds/\Ah rows/\n<=4/\H t=some (.tup (xs.map V.str))/\Cv rows n xs/\DH H lu ord cs/\Ci ord cs/\¬ FK rows xs ord cs/\Wf ord cs
def sA{C B N:Addr}(vs:LV)(H:Hp)(Q:VK)(E:XK)(h:fQ C B vs H)(q:∀ H',AB H H'->E (.ref N) none H'):Rg C B N vs H Q E:=by
 obtain⟨p,k,t,lu,rows,n,ds,xs,ord,cs,h1,h2,h3,h4,h5,h6,h7,h8,h9,FW⟩:=h;exact⟨p,k,t,lu,rows,n,ds,xs,ord,cs,h1,h2,h3,h4,h5,h6,h7,h8,h9,FW,q⟩
def Rt(K:Fg)(T:Addr):Sp:=λvs H Q _=>∃(a:Addr) (ns:List Int),vs=[.ref a]/\SqL K H a (ns.map V.int)/\ns.length<=63/\H T=some (.tbl #[])/\∀ H',Q (.bl true) H'
abbrev nL:LS:=["script","rows","above","places","deeds","call","words","pot","board","fits","lineups","handed","k","turned","none","whole","found"]
def X2:Ae nL ["script"] (AL OW):=by nofun
def uT:(["lineup"]:LS).Nodup:=by rfl'
set_option maxHeartbeats 16000000 in
def t_{Ds:Nat->Addr}{lp:Pos}(F:Def K mg "law" OW ["script"] f fd)(M:Mk K C fI)(mgC:mg "Kinds"=some (.ref C))(bI:Cj K fdI ["self","rows"] [])(GI:⋯ 4 fI fdI ["self","rows"] (U8 K C))
  (MB:Mk K B fBI) (mgB:mg "Board"=some (.ref B)) (bB:Cj K fdBI N3 []) (GB:⋯ 4 fBI fdBI N3 (VO K C B))
  (DP:Def K mg "_law_pot" O8 ["script","k"] fP fdP) (GP:⋯ 1 fP fdP ["script","k"] (Wr K)) (DCa:Def K mg "_law_case" K5 ["script","most"] fCa fdCa) (GCa:⋯ 5 fCa fdCa ["script","most"] (Zv K))
  (DF:Def K mg "_law_fits" O6 K9 fF fdF) (GF:⋯ 2 fF fdF K9 ar) (DLl:Def K mg "_law_lineup" PR ["pot","above","call"] fLl fdLl) (GLl:⋯ 3 fLl fdLl ["pot","above","call"] gD) (DCp:Def K mg "_law_copied" PQ ["lineup"] fCp fdCp) (GCp:⋯ 1 fCp fdCp ["lineup"] bT)
  (DRk:Def K mg "_law_ranked" S3 Pd fRk fdRk) (GRk:⋯ 2 fRk fdRk Pd gs) (DGd:Def K mg "_law_good" Si Pc fGd fdGd) (GGd:⋯ 10 fGd fdGd Pc (aq C B T lp))
  (DTu:Def K mg "_law_turned" PU Pe fTu fdTu) (GTu:⋯ 4 fTu fdTu Pe b_) (DNc:Def K mg "_law_no_call" Sy ["pot","words","call"] fNc fdNc) (GNc:⋯ 4 fNc fdNc ["pot","words","call"] bw)
  (O9:Mi K D Ds 9) (Tv:Mi K D Ds 10) (DRf:Def K mg "_law_refusal" PK IH fRf fdRf) (G9:⋯ 10 fRf fdRf IH (Uv (fV C B) (Ds 9))) (wO:⋯ 10 fRf fdRf IH (Uv (fQ C B) (Ds 10))) (GO:⋯ 10 fRf fdRf IH (gu C B T lp))
  (DAl:Def K mg "_law_alone" Su ["e","place"] fAl fdAl) (GAl:⋯ 1 fAl fdAl ["e","place"] (ag K D Ds)) (DLI:Def K mg "_law_is_lineup" PY LA fLI fdLI) (GLI:⋯ 2 fLI fdLI LA Zw):⋯ 11 f fd ["script"] (Rt K T):=by
 have GOr:=wO.or GO
 nomatch F.fn.ok X2
 ·obtain⟨a,ns,rfl,_⟩:=h;rfl
 ·obtain⟨a,ns,rfl,hS,hlen,ZE,q⟩:=h;have nd:=X2.nd;have hu:=hr.units;have Ac:AV 1 _:=hr.mono (by decide);have Ca:AV 2 _:=hr.mono (by decide);have HF:AV 3 _:=hr.mono (by decide);have Y1:AV 4 _:=hr.mono (by decide);have OA:AV 5 _:=hr.mono (by decide)
  ac_nf
  refine'⟨_,(pS (HW (AN DCa GCa OA (pC (pv 0) (pC AG AA))) (Jl rfl (gC (gE 1 nd) (gC (gE 2 nd) (gC (gE 3 nd) (gC (gE 4 nd) (gC (gE 5 nd) Jm)))))))
   (pS ?e1
   (pS (sE 7 nd (AN DP GP Ac (pC (pv 0) (pC AG AA))))
   (pS (sE 8 nd (aP MB GB OA (by rfl) mgB bB .nil DX (pC (aP M GI OA (by rfl) mgC bI .nil DX (pC (pv 1) AA)) (pC (pv 3) (pC (pv 4) AA)))))
   (pS (sE 9 nd (AN DF GF Ca (pC (pv 2) (pC (pv 4) (pC (pv 5) AA)))))
   (pS (sE 10 nd (B2 (pC (AN DLl GLl HF (pC (pv 7) (pC (pv 2) (pC (pv 5) AA)))) (pC (AN DLl GLl HF (pC (pv 7) (pC (pv 2) (pC (pv 5) AA)))) AA))))
   (pS ?e2
   (pS (CQ Bb rfl (HV (EJ (pC AG (pC AG (pC AG AA))))) (gE 12 nd)
    (AH (AY (CS (Bu (AN DGd GGd hr (pC (pv 8) (pC (pv 5) (pC (AX (r:=BB K) Al (pv 11) (pv 12) (λ_ _=>rfl)) (pC (AN DRk GRk Ca (pC (pv 4) (pC (pv 9) (pC (AX (r:=BB K) Al (pv 10) (pv 12) (λ_ _=>rfl)) AA)))) AA))))))) (AH (AW B1)) AZ)))
   (pS (sE 13 nd (AN DTu GTu Y1 (pC (pv 7) (pC (pv 6) (pC (pv 2) (pC (AX (r:=BB K) Al (pv 10) AG (λ_ _=>rfl)) AA))))))
   (pS (sE 14 nd (AN DNc GNc Y1 (pC (pv 7) (pC (pv 6) (pC (pv 5) AA)))))
   (pS (CQ Bb rfl (HV (EJ (pC B1 (pC B1 AA)))) (gE 15 nd)
    (pS (AY (CS (Bu (AN DAl GAl Ac (pC (AN DRf G9 hr (pC (pv 8) (pC (pv 14) (pC (pv 13) (pC (pv 15) AA))))) (pC AG AA))))) (AH (AW B1)) AZ)
   (pS (sE 16 nd (AN DRf GOr hr (pC (pv 8) (pC (pv 5) (pC (pv 13) (pC (pv 15) AA))))))
   (AH (AY (PW.pt (Ob (CS (Bu (AN DLI GLI Ca (pC (pv 2) (pC (pv 5) (pC (pv 13) AA)))))) (Ol (CS (Bu (AN DAl GAl Ac (pC (pv 16) (pC AG AA)))))))) (AH (AW B1)) AZ)))))
   (B6 (AY (Bu (AN DLI GLI Ca (pC (pv 2) (pC (pv 5) (pC (pv 13) AA))))) (AH (AY (CS (Bu (AN DGd GGd hr (pC (pv 8) (pC (pv 5) (pC (pv 13) (pC (AN DRk GRk Ca (pC (pv 4) (pC (pv 9) (pC (pv 13) AA)))) AA))))))) (AH (AW B1)) AZ)) AZ)
   (AH (AW (EL (Rk hu) (pv 11) (pv 10) (Ad _)))))))))))))))),?_⟩
  case e1=>exact(O7 (k:=6) ["row"] [] [] nd rfl rfl (λ_=>BU (osc:=AL OW) (on:=nL) (by rfl') rfl rfl rfl) (C5 (pv 1)) (λC s H fp=>BQ (i:=0) VS rfl (Or.inl rfl) (Or.inr rfl)) (λC s H fp=>CA) (λC s H fp=>AX (r:=CF K) CI (pv 0) AG (λ_ _=>rfl)))
  case e2=>exact(O7 (k:=11) ["lineup"] [] [] nd rfl rfl (λ_=>BU (osc:=AL OW) (on:=nL) (by rfl') rfl rfl rfl) (C5 (pv 10)) (λC s H fp=>BQ (i:=0) uT rfl (Or.inl rfl) (Or.inr rfl)) (λC s H fp=>CA) (λC s H fp=>AN DCp GCp Ac (pC (pv 0) AA)))
  exists let b:=_;let c:=CG (BH _ b _) a;let e:=_;let f:=AE _ e;let g:=AE _ f;let h:=AE (Cg _ _ g) c;let i:=AE _ h;let j:=AE _ i;let k:=_;let l:=AE (Cg _ _ k) j;let m:=AE _ l;let n:=AE _ m;let o:=AE _ n;let p:=AE _ o;let q:=AE _ p;let r:=AE _ q;AE _ r _ _ _
  refine⟨Z,a,ns,24,Y,hS,W,V,V,λt0 l aa ld tc n rows AI ds us xs H1 s1 Y0 Kh g CL OG n1 n4 FO RP gd dl G0 gc=>⟨t0,Z,AJ.of Y0,Y,_,Z,_,Z,_,Z,_,Z,_,Z,Y,?_⟩⟩;have gle:=g.le;have fl:=SG rows ds xs;obtain⟨T5,BR,iT⟩:=id Kh;refine⟨Z,l,Y,⟨_,SqL.of BR⟩,WA Kh (by omega) (λt u x H' R ht An=>⟨Z,t,_,_,Z,Y,AJ.of ht,Y,An⟩) λlw H2 hlw CY JH=>?_⟩;clear BR iT;have De:=s1.trans CY;refine⟨Z,a,2,ns,Y,De.seq hS,W,V,V,λp o hp ho=>?_⟩;have s2:AB H2 (upd H2 p o):=Aw hp;have BJ:(upd H2 p o) p=some o:=uS;generalize upd H2 p o=x8 at s2 BJ;have Ln:=CY.trans s2;refine⟨Z,?_⟩;intro xb dxb iV ndx nex;refine lR iV ndx (NS Kh Ln) g λH3 s3 YT=>?_;have F5:=Ln.trans s3;refine⟨Z,Z,?_⟩;intro yb dyb ny ndy ney;refine lQ ny ndy YT g (.inl (F5 _ _ FO)) (RP.mono F5) gd n1 n4 λH4 Dd ZP=>?_;have Ew:=F5.trans Dd;have Dy:=Dd _ _ (s3 _ _ BJ);refine⟨Z,Z,Z,aa,ld,tc,n,rows,AI,ds,us,xs,Y,g,Ew _ _ CL,OG.mono (λb xs e=>Ew _ _ e),Ew _ _ FO,RP.mono Ew,gd,Ew _ _ G0,gc,n4,λlf H5 hlf N0 JN=>?_⟩;have Eb:=Ew.trans N0;have CC:=N0 _ _ Dy;have KS:H5 lw=some (.lst ((rows.map (·.1)).map V.str)):=N0 _ _ (Dd _ _ (s3 _ _ (s2 _ _ JH)));refine⟨Z,Z,Z,p,aa,tc,rows,AI,xs,Y,⟨o,CC,ho⟩,g,Eb _ _ CL,OG.mono (λb xs e=>Eb _ _ e),Eb _ _ G0,gc.known,by have:=gc.len;omega,λu0 o0 c0 H6 d6 YZ w0 p0=>?_⟩;obtain⟨o6,HG,Ed⟩:=id d6.pot;have aap:aa≠p:=λz=>by
   obtain⟨_,_,e,_⟩:=id ho;rw[z]at CL;have:=Eb _ _ CL;rw[CC,e]at this;cases this
  refine⟨Z,Z,Z,p,aa,tc,rows,AI,xs,Y,⟨o6,HG,Ed⟩,g,d6.keep _ _ aap (Eb _ _ CL),NP (OG.mono (λb xs e=>Eb _ _ e)) CC ho d6,Drawn.tup d6 CC ho (Eb _ _ G0),gc.known,by have:=gc.len;omega,λu1 o1 c1 H7 d7 RB w1 p1=>⟨O,λll hll=>?_⟩⟩;obtain⟨o7,Cs,BX⟩:=id d7.pot;have QG:=YZ.drawn HG Ed d7;have s8:AB H7 (upd H7 ll (.lst [.ref u0,.ref u1])):=Aw hll;have C0:(upd H7 ll (.lst [.ref u0,.ref u1])) ll=some (.lst [.ref u0,.ref u1]):=uS;generalize upd H7 ll (.lst [.ref u0,.ref u1])=H8 at s8 C0;have Dx:=s8 _ _ Cs;have xl:=gc.len;have lok:∀ {ord:List Int} {c:List (LS)},W8 (rows.map (·.1)) xs.length ord c->Ci ord c:=λw=>⟨by have:=w.olen;omega,by have:=w.clen;omega,w.oi,λc hc=>⟨λz hz=>Ot (SV g z ((w.line c hc).2.2 z hz)),by have:=(w.line c hc).2.1;omega⟩⟩;obtain⟨cs,ecs⟩:∃ cs:List (List Int×List (LS)),cs=[(o0,c0),(o1,c1)]:=⟨Z⟩;have all:∀ c∈cs,Ci c.1 c.2/\FK rows xs c.1 c.2:=λc hc=>by
   rw[ecs]at hc
   rcases Yr.mp hc with rfl | hc
   ·exact⟨lok w0,p0⟩
   ·rw[Yi.mp hc];exact⟨lok w1,p1⟩
  have L8:ER p H8 cs [.ref u0,.ref u1]:=by rw[ecs];exact .cons ⟨u0,Y,QG.mono s8⟩ (.cons ⟨u1,Y,RB.mono s8⟩ .nil)
  have cl:cs.length=2:=by rw[ecs];rfl
  refine⟨Z,ll,Y,⟨_,SqL.of C0⟩,pV Dx C0 L8 (by omega) (λc hc=>(all c hc).1) (λt c H' R ht hok hR=>⟨Z,t,c.1,c.2,Y,ht,hok,hR⟩) λlh H9 hs hlh Hn Y5 gy=>?_⟩;have MT:∀ {b:Addr} {u:HO},b≠p->H5 b=some u->H9 b=some u:=λhb e=>Hn _ _ (s8 _ _ (d7.keep _ _ hb (d6.keep _ _ hb e)));have Tp:T≠p:=AF (De _ _ ZE) hp;have OM:=d6.trans d7;have L9:FN C B T p yb aa ld tc lw lf ll lh lp rows n AI ds us xs (A0 rows ds xs) cs [.ref u0,.ref u1] hs H9 :=
   ⟨.inl (MT Tp (Eb _ _ (s1 _ _ ZE))),⟨o7,Hn _ _ Dx,BX⟩,⟨xb,(dc (ZP.mono N0) CC ho OM).mono (s8.trans Hn)⟩,MT aap (Eb _ _ CL),(NP (OG.mono (λb xs e=>Eb _ _ e)) CC ho OM).mono (λb xs e=>(s8.trans Hn) _ _ e),MT (AF (CY _ _ FO) hp) (Eb _ _ FO),(WB (RP.mono Eb) CC ho OM).mono (s8.trans Hn),(s8.trans Hn) _ _ (Drawn.tup OM CC ho (Eb _ _ G0)),MT (AF JH hp) KS,MT (Yj (AF Dy hlf)) JN,Hn _ _ C0,Y5,L8.mono Hn,gy,AF (CY _ _ FO) hp,Yj (AF Dy hlf),Yj (AF Cs hll),Yj (AF Dx hlh)⟩
  clear MT OM L8 C0 s8 QG YZ RB d7 d6 Cs Dx HG JN KS CC Dy Eb Ew F5 Dd s3 s2 Ln N0 ZP YT BJ JH G0 RP FO OG CL Kh Y0 Hn Y5 gy;refine⟨sL (by show 3<=100000;decide),λtk htk=>?_⟩;have ED:AB H9 (upd H9 tk (.tup [.int 0,.int 1,.int 0])):=Aw htk;have FW:(upd H9 tk (.tup [.int 0,.int 1,.int 0])) tk=some (.tup [.int 0,.int 1,.int 0]):=uS;generalize upd H9 tk (.tup [.int 0,.int 1,.int 0])=Er at ED FW;have g0:=L9.same ED;let Bp:NW:=λi σ H'=>∃(Nv:OV),σ=[some (.ref a),some (.ref l),some (.ref aa),some (.int n),some (.ref ld),some (.ref tc),some (.ref lw),some (.ref p),some (.ref yb),some (.ref lf),some (.ref ll),some (.ref lh),Nv,none,none,none,none]/\FN C B T p yb aa ld tc lw lf ll lh lp rows n AI ds us xs (A0 rows ds xs) cs [.ref u0,.ref u1] hs H'/\H' tk=some (.tup [.int 0,.int 1,.int 0]);refine⟨tk,Y,⟨_,AJ.of FW⟩,Cw (HZ (xs:=[.int 0,.int 1,.int 0])) Bp
   ⟨none,Y,g0,FW⟩ (λi σ H' _ h0=>by obtain⟨_,_,_,h'⟩:=h0;exact AJ.of h') ?_ ?_⟩
  ·rintro i v σ Lk hi ⟨Nv,rfl,Dr,BG⟩;obtain⟨j,Y3,rfl⟩:∃ j:Nat,j<2/\v=.int (j:Nat):=by
    match i,hi with
    | 0,hi=>cases hi;exact⟨0,V,Y⟩
    | 1,hi=>cases hi;exact⟨1,V,Y⟩
    | 2,hi=>cases hi;exact⟨0,V,Y⟩
    | i + 3,hi=>cases hi
   have hcj:=Yb (l:=cs) (i:=j) (by omega);obtain⟨aok,aup⟩:=all _ (Yh hcj);generalize cs[j]=c at hcj aok aup;obtain⟨y1,jD,q1,rfl,a1⟩:=K3 Dr.L1 hcj;obtain⟨y2,jC,q2,rfl,a2⟩:=K3 Dr.L2 hcj;have Mh:A_ [V.ref u0,V.ref u1] ((j:Nat):Int)=some (V.ref q1):=FC (Hg _) (by rw[Bk];exact jD);have at2:A_ hs ((j:Nat):Int)=some (V.ref q2):=FC (Hg _) (by rw[Bk];exact jC);refine⟨Z,Z,Z,Z,lh,_,_,Z,Y,SqL.of Dr.hlh,at2,Z,Z,Z,Z,ll,_,_,Z,Y,SqL.of Dr.hll,Mh,ld,lf,q1,rows,n,ds,us,xs,c.1,c.2,Y,⟨g,gd,dl,gc,Dr.hld,Dr.hD,a1.at_,aok,aup⟩,Dr.hlf,λi7 g9 wt CY Uj=>?_⟩;have F0:=Dr.same CY;refine⟨yb,tc,q2,i7,rows,n,ds,xs,c.1,c.2,Y,⟨F0.bd,g,gd,n4,dl,F0.htc,gc,(a2.mono CY).at_,aok,aup,F0.tab⟩,Uj,λP9 F5 Xn=>⟨Z,Av ⟨Z,F0.sameT F5 Xn,B_ F0.tab.tbl F5 (CY _ _ BG) (λ_ z=>nomatch z)⟩⟩⟩
  rintro σ11 Lk ⟨Nv,rfl,Dr,_⟩;clear L9 g0 FW ED;obtain⟨y0,jE,q0,rfl,a0⟩:=K3 Dr.L1 (show cs[0]?=some (o0,c0) by rw[ecs];rfl);cases jE;rw[xl]at w0;refine⟨Z,Z,Z,Z,ll,_,_,.ref u0,Y,Y,SqL.of Dr.hll,FC (Int.le_refl _) rfl,p,lw,aa,u0,rows,AI,n,o0,c0,Y,Dr.pot,g,Dr.hlw,Dr.a1,Dr.b1,a0,w0,n1,n4,λtu C9 IB g9 FX htu Du=>?_⟩;have F0:=Dr.drawn FX;obtain⟨xG,G5,Xd⟩:=F0.pot;refine⟨Z,Z,Z,p,lw,tc,rows,n,xs,Y,F0.pot,g,F0.hlw,F0.htc,gc,n1,n4,λtn ys P9 Up htn hb yl yx=>?_⟩;have gz:=F0.drawn Up;have J9:=htu.drawn G5 Xd Up;clear Dr F0 htu FX Up a0;refine⟨O,λtk htk=>?_⟩;have Ew:AB P9 (upd P9 tk (.tup [.bl true,.bl false])):=Aw htk;have Mb:(upd P9 tk (.tup [.bl true,.bl false])) tk=some (.tup [.bl true,.bl false]):=uS;generalize upd P9 tk (.tup [.bl true,.bl false])=x9 at Ew Mb;let Gx:NW:=λi σ H'=>∃(Qo Qn:OV),σ=[some (.ref a),some (.ref l),some (.ref aa),some (.int n),some (.ref ld),some (.ref tc),some (.ref lw),some (.ref p),some (.ref yb),some (.ref lf),some (.ref ll),some (.ref lh),Nv,some (.ref tu),some (.ref tn),Qo,Qn]/\FN C B T p yb aa ld tc lw lf ll lh lp rows n AI ds us xs (A0 rows ds xs) cs [.ref u0,.ref u1] hs H'/\Di p H' tu C9 IB/\H' tn=some (.tup (ys.map V.str))/\H' tk=some (.tup [.bl true,.bl false]);refine⟨tk,Y,⟨_,AJ.of Mb⟩,Cw (HZ (xs:=[.bl true,.bl false])) Gx
   ⟨none,none,Y,gz.same Ew,J9.mono Ew,Ew _ _ htn,Mb⟩ (λi σ H' _ h0=>by obtain⟨_,_,_,_,_,_,h'⟩:=h0;exact AJ.of h') ?_ ?_⟩
  ·rintro i v σ wK hi ⟨Qo,Qn,rfl,Lj,Iy,Ll,QA⟩;obtain⟨wh,rfl⟩:∃ wh:Bool,v=.bl wh:=by
    match i,hi with
    | 0,hi=>cases hi;exact⟨Z⟩
    | 1,hi=>cases hi;exact⟨Z⟩
    | i + 2,hi=>cases hi
   obtain⟨kb,Xp⟩:=Lj.bd;refine⟨Z,Z,Z,Z,.ref yb,.ref tn,.ref tu,wh,Y,⟨yb,kb,tn,rows,n,ds,ys,.ref tu,Y,Xp,g,n4,Ll,hb,yl,yx⟩,λea XB Qy hea=>?_⟩;refine⟨ea,9,9,none,Y,hea,.inl rfl,O9,V,V,λwJ Qx=>⟨Z,?_⟩⟩;rw[show decide (9=9)=true from rfl];have JE:=Qy.trans Qx;have Fz:=Lj.same JE;have Iw:=Iy.mono JE;obtain⟨kb,QV⟩:=Fz.bd;refine Av ⟨Z,Z,Z,Z,?_⟩;by_cases lup:FK rows xs C9 IB
   ·refine Or.inr ⟨yb,tc,tu,wh,rows,n,ds,xs,C9,IB,Y,⟨⟨kb,QV⟩,g,gd,n4,dl,Fz.htc,gc,Iw.at_,Du,lup,Fz.tab⟩,λxE g6 HD ME=>?_⟩;have tb:=Fz.tab.tbl;have Ir:=Fz.sameT HD ME;have Gz:=Iw.monoT tb HD;refine⟨Z,Z,Z,aa,tc,tu,rows,AI,xs,C9,IB,Y,g,Ir.a1,Ir.b1,Ir.htc,gc.known,W,Gz.at_,Du,λT8 wI KH hv=>⟨Z,?_⟩⟩;rw[hv.mpr lup];exact Av (Av ⟨_,Z,Ir.same KH,Gz.mono KH,KH _ _ (B_ tb HD (JE _ _ Ll) (λ_ z=>nomatch z)),KH _ _ (B_ tb HD (JE _ _ QA) (λ_ z=>nomatch z))⟩)
   ·refine Or.inl ⟨.ref yb,.ref tc,.ref tu,wh,Y,⟨yb,kb,tc,tu,rows,n,ds,xs,C9,IB,Y,QV,g,n4,Fz.htc,gc,Iw.at_,Du,lup,vm Du⟩,λeb g6 HD heb=>?_⟩;have Ir:=Fz.same HD;have Gz:=Iw.mono HD;refine⟨Z,Z,Z,aa,tc,tu,rows,AI,xs,C9,IB,Y,g,Ir.a1,Ir.b1,Ir.htc,gc.known,W,Gz.at_,Du,λT8 wI KH hv=>⟨Z,?_⟩⟩;rw[show T8=false from by
     cases T8 with
     | false=>rfl
     | true=>exact absurd (hv.mp rfl) lup]
    refine BM ⟨Z,eb,10,10,none,Y,KH _ _ heb,.inl rfl,Tv,V,V,λxy iO=>⟨Z,?_⟩⟩;rw[show decide (10=10)=true from rfl];have UE:=KH.trans iO;have X8:=JE.trans (HD.trans UE);exact Av ⟨_,Z,Ir.same UE,Gz.mono UE,X8 _ _ Ll,X8 _ _ QA⟩
  rintro σ15 wK ⟨Qo,Qn,rfl,Lj,Iy,_,_⟩;clear gz J9 Mb Ew;let Cr:SW:=λσ' H'=>σ'=[some (.ref a),some (.ref l),some (.ref aa),some (.int n),some (.ref ld),some (.ref tc),some (.ref lw),some (.ref p),some (.ref yb),some (.ref lf),some (.ref ll),some (.ref lh),Nv,some (.ref tu),some (.ref tn),Qo,Qn]/\FN C B T p yb aa ld tc lw lf ll lh lp rows n AI ds us xs (A0 rows ds xs) cs [.ref u0,.ref u1] hs H';refine⟨Cr,?_,?_⟩
  ·refine⟨Z,Z,Z,aa,tc,tu,rows,AI,xs,C9,IB,Y,g,Lj.a1,Lj.b1,Lj.htc,gc.known,W,Iy.at_,Du,λiA XB Qy hv=>⟨Z,?_⟩⟩;have Hj:=Lj.same Qy;have P_:=Iy.mono Qy;cases iA with
   | false=>exact Av ⟨Y,Hj⟩
   | true =>
    have lup:=hv.mp rfl;refine BM ⟨Z,Z,Z,Z,Z,Z,ld,lf,tu,rows,n,ds,us,xs,C9,IB,Y,⟨g,gd,dl,gc,Hj.hld,Hj.hD,P_.at_,Du,lup⟩,Hj.hlf,λi6 wJ wq Qx jn=>?_⟩;have Fz:=Hj.same Qx;exact⟨yb,tc,tu,i6,rows,n,ds,xs,C9,IB,Y,⟨Fz.bd,g,gd,n4,dl,Fz.htc,gc,(P_.mono Qx).at_,Du,lup,Fz.tab⟩,jn,λg6 HD ME=>⟨Z,Av ⟨Y,Fz.sameT HD ME⟩⟩⟩
  rintro σ16 XB ⟨rfl,Hj⟩;refine⟨Z,Z,.list (cs.map Fd),.list (cs.map Fd),.list (SqL.of Hj.hlh) (Vp Hj.L2),.list (SqL.of Hj.hll) (Vp Hj.L1),Zc (λc hc=>(all c hc).1),Zc (λc hc=>(all c hc).1),?_⟩;rw[EM];exact q XB
end Gw
namespace Gw
open PySem L2
variable {P:Program}{w:World}{K:Fg}{mg:Str->OU}{base:Heap}
def md{K:Fg}{m q:Str}{st:Stmt}{ps:LS}(T:Mp K C m q st f fd)(b:Cj K fd ps []):HP K C m q st ps f fd:=⟨T.fn,b,T.a,T.i,T.fn.kp⟩
def tq:=@tp
set_option maxHeartbeats 4000000 in
def all_mk{l:W.OpenLaw}{w:World}{K:Fg}{h:Heap}{mg:Str->OU}(X:K.In h)(G:h.Ns mainGlobals mg)(hfa:mg "law"=some (.ref fa))
  {T_LETTERS T_MOST_LETTERS T_MOST_KINDS T_MOST_UPS T_MOST_PLACES T_MOST_DEEDS:Tok}
  (p_QD:Qp K "DeedError" QD)
  (e_QD:ExC K QD)
  (Ly:Qp K "NoKind" Q0)
  (Lx:Qp K "Twice" Q1)
  (Lw:Qp K "NoName" Q2)
  (Lv:Qp K "Ring" Q3)
  (Lu:Qp K "NoDeed" Q4)
  (Ls:Qp K "Same" Q5)
  (Lr:Qp K "NoText" Q6)
  (Lq:Qp K "TooMany" Q7)
  (Lp:Qp K "NoBoard" Q8)
  (Iz:Qp K "NoCall" Q9)
  (Et:Qp K "NoLine" Fy)
  (HB:Qp K "NoPlace" Lg)
  (HA:Qp K "NoWeights" Lf)
  (G_:Qp K "NoTerm" Le)
  (G8:Qp K "NoRow" Ld)
  (QE:Iu K Q9)
  (QY:W.subIn K (.ref Q9) (.ref QD)=some true)
  (XF:gw K Q9 Q0 Q1 Q2 Q3 Q4 Q5 Q6 Q7 Q8 Q9 Fy Lg Lf Le Ld false false false false false false false false false true false false false false false)
  (Qc:W.findIn K (.ref Q9) "__init__"=some (some (.builtin "ValueError.__init__")))
  (J7:Iu K Fy)
  (MI:W.subIn K (.ref Fy) (.ref QD)=some true)
  (QZ:gw K Fy Q0 Q1 Q2 Q3 Q4 Q5 Q6 Q7 Q8 Q9 Fy Lg Lf Le Ld false false false false false false false false false false true false false false false)
  (MJ:W.findIn K (.ref Fy) "__init__"=some (some (.builtin "ValueError.__init__")))
  (TC:Cp K "Kinds" C)
  (TB:Cp K "Board" B)
  (T_mI:Mp K C "__init__" "Kinds.__init__" WO f_mI d_mI)
  (T_mH:Mp K C "has" "Kinds.has" Sh f_mH d_mH)
  (T_mC:Mp K C "check" "Kinds.check" PN f_mC d_mC)
  (T_mUn:Mp K C "under" "Kinds.under" S2 f_mUn d_mUn)
  (T_mB:Mp K C "beneath" "Kinds.beneath" S6 f_mB d_mB)
  (T_mA:Mp K C "above" "Kinds.above" PM f_mA d_mA)
  (T_bI:Mp K B "__init__" "Board.__init__" WN f_bI d_bI)
  (T_bK:Mp K B "kinds" "Board.kinds" S1 f_bK d_bK)
  (T_bP:Mp K B "places" "Board.places" Sx f_bP d_bP)
  (T_bD:Mp K B "deeds" "Board.deeds" S0 f_bD d_bD)
  (T_w:Tp K "is_word" NO f_w d_w)
  (T_cr:Tp K "check_rows" Sw f_cr d_cr)
  (T_cu:Tp K "check_ups" Sk f_cu d_cu)
  (T_fa:Tp K "first_among" NZ f_fa d_fa)
  (T_en:Tp K "endless" NN f_en d_en)
  (T_fr:Tp K "find_ring" Sm f_fr d_fr)
  (T_aa:Tp K "all_above" Sj f_aa d_aa)
  (T_P:Tp K "_law_pot" O8 f_P d_P)
  (T_T:Tp K "_law_take" EO f_T d_T)
  (T_Le:Tp K "_law_letters" Na f_Le d_Le)
  (T_W:Tp K "_law_word" Eo f_W d_W)
  (T_Ws:Tp K "_law_words" Sv f_Ws d_Ws)
  (T_U:Tp K "_law_ups" K4 f_U d_U)
  (T_R:Tp K "_law_rows" NU f_R d_R)
  (T_A:Tp K "_law_above" Sq f_A d_A)
  (T_ic:Tp K "is_call" IY f_ic d_ic)
  (T_cd:Tp K "check_deeds" S5 f_cd d_cd)
  (T_cc:Tp K "check_call" K6 f_cc d_cc)
  (T_wi:Tp K "within" SI f_wi d_wi)
  (T_fi:Tp K "fitting" O2 f_fi d_fi)
  (T_de:Tp K "_law_deeds" NY f_de d_de)
  (T_lw:Tp K "_law_within" PV f_lw d_lw)
  (T_al:Tp K "_law_alone" Su f_al d_al)
  (T_wh:Tp K "_law_whole" PD f_wh d_wh)
  (T_il:Tp K "is_line" O3 f_il d_il)
  (T_bo:Tp K "beneath_one_ahead" PX f_bo d_bo)
  (T_ln:Tp K "_law_line" Ib f_ln d_ln)
  (T_li:Tp K "_law_is_line" PH f_li d_li)
  (T_so:Tp K "_law_spoilt" S4 f_so d_so)
  (T_nw:Tp K "_law_no_word" Sz f_nw d_nw)
  (T_iu:Tp K "is_lineup" Jr f_iu d_iu)
  (T_lu:Tp K "_law_lineup" PR f_lu d_lu)
  (T_cp:Tp K "_law_copied" PQ f_cp d_cp)
  (T_lk:Tp K "_law_is_lineup" PY f_lk d_lk)
  (T_ca:Tp K "_law_case" K5 f_ca d_ca)
  (T_nc:Tp K "_law_no_call" Sy f_nc d_nc)
  (T_tu:Tp K "_law_turned" PU f_tu d_tu)
  (T_sp:Tp K "spots" Om f_sp d_sp)
  (T_rk:Tp K "ranked" FE f_rk d_rk)
  (T_tk:Tp K "taken" Jo f_tk d_tk)
  (T_lf:Tp K "_law_fits" O6 f_lf d_lf)
  (T_nu:Tp K "_law_numbers" PJ f_nu d_nu)
  (T_la:Tp K "_law_ahead" Ss f_la d_la)
  (T_lr:Tp K "_law_ranked" S3 f_lr d_lr)
  (T_rf:Tp K "_law_refusal" PK f_rf d_rf)
  (T_gd:Tp K "_law_good" Si f_gd d_gd)
  (T_L:Tp K "law" OW f_L d_L)
  (n_ups_of:W.findIn K (.ref C) "ups_of"=some none)
  (n_above_of:W.findIn K (.ref C) "above_of"=some none)
  (n_book_B:W.findIn K (.ref B) "book"=some none)
  (n_width_B:W.findIn K (.ref B) "width"=some none)
  (n_stands_B:W.findIn K (.ref B) "stands"=some none)
  (n_has_B:W.findIn K (.ref B) "has"=some none)
  {cb_rk Tb_rk:Addr}
  (hc_rk:d_rk.code=.ref cb_rk)
  (ht_rk:W.codeHdIn K cb_rk Tb_rk=true)
  (g_LETTERS:W.nsIn K mainGlobals "LETTERS"=some (some (.str Md.letters T_LETTERS)))
  (g_MOST_LETTERS:W.nsIn K mainGlobals "MOST_LETTERS"=some (some (.int 8 T_MOST_LETTERS)))
  (g_MOST_KINDS:W.nsIn K mainGlobals "MOST_KINDS"=some (some (.int 24 T_MOST_KINDS)))
  (g_MOST_UPS:W.nsIn K mainGlobals "MOST_UPS"=some (some (.int 8 T_MOST_UPS)))
  (g_MOST_PLACES:W.nsIn K mainGlobals "MOST_PLACES"=some (some (.int 4 T_MOST_PLACES)))
  (g_MOST_DEEDS:W.nsIn K mainGlobals "MOST_DEEDS"=some (some (.int 64 T_MOST_DEEDS)))
  (z_len:W.nsIn K mainGlobals "len"=some none)
  (z_all:W.nsIn K mainGlobals "all"=some none)
  (z_any:W.nsIn K mainGlobals "any"=some none)
  (z_list:W.nsIn K mainGlobals "list"=some none)
  (z_tuple:W.nsIn K mainGlobals "tuple"=some none)
  (z_range:W.nsIn K mainGlobals "range"=some none)
  (z_int:W.nsIn K mainGlobals "int"=some none)
  (z_isinstance:W.nsIn K mainGlobals "isinstance"=some none)
  (z_sorted:W.nsIn K mainGlobals "sorted"=some none)
  (z_reversed:W.nsIn K mainGlobals "reversed"=some none)
  (z_zip:W.nsIn K mainGlobals "zip"=some none)
  (z_bool:W.nsIn K mainGlobals "bool"=some none)
  (z_enumerate:W.nsIn K mainGlobals "enumerate"=some none)
  (z_ValueError:W.nsIn K mainGlobals "ValueError"=some none)
  : (∀ T∈[Tb_rk],∃ c,W.codeHdIn K c T=true)/\∃ fd:FuncData,(∀(s:Shared) (v:Value),BindsTo s fd ⟨[v],[]⟩ [("script",v)])/\∀ base:Heap,K.In base->base.Ns mainGlobals mg->(∀ T∈[Tb_rk],mainGlobals≠T/\base.BuiltinsAt mg T)->Ax l.prog w K mg base Hk 11 fa fd ["script"] (Rt K Tb_rk):=by
 have e:=hfa.symm.trans (W.mg_of X G T_L.a);cases e;obtain⟨_,_,_,_,_,_,rfl⟩:=Tp.ex T_L.fn;have mgC_LETTERS:=W.mg_of X G g_LETTERS;have mgC_MOST_LETTERS:=W.mg_of X G g_MOST_LETTERS;have mgC_MOST_KINDS:=W.mg_of X G g_MOST_KINDS;have mgC_MOST_UPS:=W.mg_of X G g_MOST_UPS;have mgC_MOST_PLACES:=W.mg_of X G g_MOST_PLACES;have mgC_MOST_DEEDS:=W.mg_of X G g_MOST_DEEDS;have mgN_len:=W.mg_none_of X G z_len;have mgN_all:=W.mg_none_of X G z_all;have mgN_any:=W.mg_none_of X G z_any;have mgN_list:=W.mg_none_of X G z_list;have mgN_tuple:=W.mg_none_of X G z_tuple;have mgN_range:=W.mg_none_of X G z_range;have mgN_int:=W.mg_none_of X G z_int;have mgN_isinstance:=W.mg_none_of X G z_isinstance;have mgN_sorted:=W.mg_none_of X G z_sorted;have mgN_reversed:=W.mg_none_of X G z_reversed;have mgN_zip:=W.mg_none_of X G z_zip;have mgN_bool:=W.mg_none_of X G z_bool;have mgN_enumerate:=W.mg_none_of X G z_enumerate;have mgN_ValueError:=W.mg_none_of X G z_ValueError;obtain⟨aC,pg,hd,po,sa,mk,kc⟩:=TC;have mgC:=W.mg_of X G aC;have M:Mk K C f_mI:=⟨mk,T_mI.a,T_mI.i,kc⟩;obtain⟨aB,pg_B,hd_B,po_B,sa_B,mk_B,kc_B⟩:=TB;have mgB:=W.mg_of X G aB;have M_B:Mk K B f_bI:=⟨mk_B,T_bI.a,T_bI.i,kc_B⟩;have F_mI:=T_mI.fn;have b_mI:=Dg "self" "rows" T_mI.fn;have a_mH:=T_mH.a;have M_mH:=md T_mH (Dg "self" "word" T_mH.fn);have M_mC:=md T_mC (Dg "self" "word" T_mC.fn);have M_mUn:=md T_mUn (Cf "self" "one" "other" T_mUn.fn);have M_mB:=md T_mB (Cf "self" "one" "other" T_mB.fn);have M_mA:=md T_mA (Dg "self" "word" T_mA.fn);have F_bI:=T_bI.fn;have b_bI:=OP "self" "kinds" "places" "deeds" T_bI.fn;have M_bK:=md T_bK (E2 "self" T_bK.fn);have M_bP:=md T_bP (E2 "self" T_bP.fn);have M_bD:=md T_bD (E2 "self" T_bD.fn);have D_w:=df X G T_w (E2 "text" T_w.fn);have D_cr:=df X G T_cr (E2 "rows" T_cr.fn);have D_cu:=df X G T_cu (E2 "ups_of" T_cu.fn);have D_fa:=df X G T_fa (Dg "words" "others" T_fa.fn);have D_en:=df X G T_en (E2 "ups_of" T_en.fn);have D_fr:=df X G T_fr (E2 "ups_of" T_fr.fn);have D_aa:=df X G T_aa (Dg "ups_of" "word" T_aa.fn);have D_P:=df X G T_P (Dg "script" "k" T_P.fn);have D_T:=df X G T_T (Dg "pot" "many" T_T.fn);have D_Le:=df X G T_Le (E2 "number" T_Le.fn);have D_W:=df X G T_W (Dg "pot" "words" T_W.fn);have D_Ws:=df X G T_Ws (Dg "pot" "many" T_Ws.fn);have D_U:=df X G T_U (Cf "pot" "k" "shape" T_U.fn);have D_R:=df X G T_R (Dg "pot" "most" T_R.fn);have D_A:=df X G T_A (E2 "rows" T_A.fn);have D_ic:=df X G T_ic (Cf "kinds" "places" "call" T_ic.fn);have D_cd:=df X G T_cd (Cf "kinds" "places" "deeds" T_cd.fn);have D_cc:=df X G T_cc (Cf "kinds" "places" "call" T_cc.fn);have D_wi:=df X G T_wi (Cf "kinds" "one" "other" T_wi.fn);have D_fi:=df X G T_fi (Dg "board" "call" T_fi.fn);have D_de:=df X G T_de (j3 "pot" "rows" "above" "places" "most" T_de.fn);have D_lw:=df X G T_lw (Cf "above" "one" "other" T_lw.fn);have D_al:=df X G T_al (Dg "e" "place" T_al.fn);have D_wh:=df X G T_wh (E2 "found" T_wh.fn);have D_il:=df X G T_il (Cf "kinds" "word" "line" T_il.fn);have D_bo:=df X G T_bo (Cf "kinds" "line" "spot" T_bo.fn);have D_ln:=df X G T_ln (Cf "pot" "above" "word" T_ln.fn);have D_li:=df X G T_li (Cf "above" "word" "line" T_li.fn);have D_so:=df X G T_so (Cf "pot" "words" "line" T_so.fn);have D_nw:=df X G T_nw (Dg "pot" "words" T_nw.fn);have D_iu:=df X G T_iu (Cf "board" "call" "lineup" T_iu.fn);have D_lu:=df X G T_lu (Cf "pot" "above" "call" T_lu.fn);have D_cp:=df X G T_cp (E2 "lineup" T_cp.fn);have D_lk:=df X G T_lk (Cf "above" "call" "lineup" T_lk.fn);have D_ca:=df X G T_ca (Dg "script" "most" T_ca.fn);have D_nc:=df X G T_nc (Cf "pot" "words" "call" T_nc.fn);have D_tu:=df X G T_tu (OP "pot" "words" "above" "lineup" T_tu.fn);have D_sp:=df X G T_sp (Dg "deed" "lineup" T_sp.fn);have D_rk:=df X G T_rk (Cf "board" "call" "lineup" T_rk.fn);have D_tk:=df X G T_tk (Cf "board" "call" "lineup" T_tk.fn);have D_lf:=df X G T_lf (Cf "above" "deeds" "call" T_lf.fn);have D_nu:=df X G T_nu (Dg "found" "due" T_nu.fn);have D_la:=df X G T_la (OP "deeds" "one" "other" "lineup" T_la.fn);have D_lr:=df X G T_lr (Cf "deeds" "fits" "lineup" T_lr.fn);have D_rf:=df X G T_rf (OP "board" "call" "lineup" "whole" T_rf.fn);have D_gd:=df X G T_gd (OP "board" "call" "lineup" "due" T_gd.fn);have D_L:=df X G T_L (E2 "script" T_L.fn);have TD:S7 K mg QD:=⟨W.mg_of X G p_QD.a,e_QD,p_QD.cl,p_QD.ty⟩;have TF:Z4 K mg (Um Q0 Q1 Q2 Q3 Q4 Q5 Q6 Q7 Q8 Q9 Fy Lg Lf Le Ld):=⟨W.mg_of X G Ly.a,W.mg_of X G Lx.a,W.mg_of X G Lw.a,W.mg_of X G Lv.a,W.mg_of X G Lu.a,W.mg_of X G Ls.a,W.mg_of X G Lr.a,W.mg_of X G Lq.a,W.mg_of X G Lp.a,W.mg_of X G Iz.a,W.mg_of X G Et.a,W.mg_of X G HB.a,W.mg_of X G HA.a,W.mg_of X G G_.a,W.mg_of X G G8.a,Ra Ly.cl Lx.cl Lw.cl Lv.cl Lu.cl Ls.cl Lr.cl Lq.cl Lp.cl Iz.cl Et.cl HB.cl HA.cl G_.cl G8.cl,Ra Ly.ty Lx.ty Lw.ty Lv.ty Lu.ty Ls.ty Lr.ty Lq.ty Lp.ty Iz.ty Et.ty HB.ty HA.ty G_.ty G8.ty⟩;obtain⟨f0,f1,f2,f3,f4,f5,f6,f7,f8,f9,RW,RV,RU,RT,RQ⟩:=XF;have O9:Mi K QD (Um Q0 Q1 Q2 Q3 Q4 Q5 Q6 Q7 Q8 Q9 Fy Lg Lf Le Ld) 9:=⟨QE,QY,Ra f0 f1 f2 f3 f4 f5 f6 f7 f8 f9 RW RV RU RT RQ⟩;have wC:S8 K mg "NoCall" Q9:=⟨W.mg_of X G Iz.a,QE.toExC,Qc⟩;obtain⟨f0,f1,f2,f3,f4,f5,f6,f7,f8,f9,RW,RV,RU,RT,RQ⟩:=QZ;have Tv:Mi K QD (Um Q0 Q1 Q2 Q3 Q4 Q5 Q6 Q7 Q8 Q9 Fy Lg Lf Le Ld) 10:=⟨J7,MI,Ra f0 f1 f2 f3 f4 f5 f6 f7 f8 f9 RW RV RU RT RQ⟩;have Xr:S8 K mg "NoLine" Fy:=⟨W.mg_of X G Et.a,J7.toExC,MJ⟩;have TK:Nb mg:=⟨⟨_,mgC_LETTERS⟩,⟨_,mgC_MOST_LETTERS⟩,⟨_,mgC_MOST_KINDS⟩,⟨_,mgC_MOST_UPS⟩,mgN_len,mgN_all,mgN_list,mgN_tuple⟩;have TR:eX mg:=⟨mgN_range,mgN_int,mgN_len,mgN_tuple,mgN_list⟩;have TC:DJ K C:=⟨⟨pg,hd,po,sa⟩,n_ups_of,n_above_of⟩;have TBd:II K B:=⟨⟨pg_B,hd_B,po_B,sa_B⟩,n_book_B,n_width_B,n_stands_B⟩;have TBm:Wg mg:=⟨⟨_,mgC_MOST_PLACES⟩,⟨_,mgC_MOST_DEEDS⟩,mgN_len,mgN_all,mgN_tuple,mgN_list,mgN_enumerate⟩;have hBC:B≠C:=λz=>by rw[z,a_mH]at n_has_B;cases n_has_B
 have hts:∀ T∈[Tb_rk],∃ c,W.codeHdIn K c T=true:=by
  intro T hT;simp only[Yr,List.not_mem_nil,or_false]at hT;subst hT;exact⟨_,ht_rk⟩
 exact⟨hts,_,λs v=>.of_eq rfl,λbase kb _ hb=>have LT_rk:RZ mg base cb_rk Tb_rk:=⟨W.codeHd_of_K kb ht_rk,(hb Tb_rk (by simp)).1,(hb Tb_rk (by simp)).2⟩;have GI:=v7 (P:=l.prog) (w:=w) (base:=base) F_mI TK TC D_cr D_w D_cu D_fr D_en D_fa D_aa;have GB:=kg (P:=l.prog) (w:=w) (base:=base) F_bI TBm TBd TC D_cd D_ic M_mH hBC;have GP:=uB (P:=l.prog) (w:=w) (base:=base) D_P mgN_len;have GT:=Oq (P:=l.prog) (w:=w) (base:=base) D_T;have GR:=kr (P:=l.prog) (w:=w) (base:=base) D_R D_T D_U D_Ws D_W D_Le TR;have GWd:=aM (P:=l.prog) (w:=w) (base:=base) D_W D_T D_Le mgN_len;have GLA:=mj (P:=l.prog) (w:=w) (base:=base) D_A mgN_len;have GDe:=nK (P:=l.prog) (w:=w) (base:=base) D_de D_T ⟨mgN_len,mgN_range,mgN_tuple⟩;have GIL:=oN D_il mgN_sorted mgN_any mgN_range mgN_len TC M_mA (pM M_mA.fn TC M_mC M_mH) D_bo (tf D_bo mgN_any TC M_mB (pN M_mB.fn TC M_mUn M_mC M_mH));have GIU:=qI (P:=l.prog) (w:=w) (base:=base) D_iu mgN_sorted mgN_list mgN_range mgN_len mgN_all mgN_zip TC TBd M_bK M_bP D_cc (eN D_cc D_ic mgN_len mgN_all TC M_mH) D_il GIL;have GLn:=kq (P:=l.prog) (w:=w) (base:=base) D_ln mgN_list mgN_any mgN_len D_T GT;have GLU:=oQ D_lu mgN_range mgN_len D_T GT D_ln GLn;have GCp:=nJ (P:=l.prog) (w:=w) (base:=base) D_cp mgN_list;have GCa:=vw D_ca mgN_len mgN_range mgN_list mgN_tuple D_R GR D_P GP D_T GT D_A GLA D_de GDe;have GF:=pP (P:=l.prog) (w:=w) (base:=base) D_fi TBm mgN_zip TC TBd M_bK M_bP M_bD D_cc D_wi D_ic M_mUn M_mC M_mH;have TW:WU mg:=⟨mgN_all,mgN_zip,mgN_isinstance,mgN_int,mgN_bool⟩;have TN:eW mg:=⟨mgN_len,mgN_range,mgN_any⟩;have GLW:=oS (P:=l.prog) (w:=w) (base:=base) D_lw TW;have GWh:=kz (P:=l.prog) (w:=w) (base:=base) D_wh TW;have GLi:=uA (P:=l.prog) (w:=w) (base:=base) D_li mgN_sorted mgN_any mgN_range mgN_len;have GLk:=v_ D_lk mgN_sorted mgN_list mgN_range mgN_len mgN_all mgN_zip D_li GLi;have GNw:=oV D_nw D_T GT D_W GWd;have GNc:=oU D_nc mgN_len D_T GT D_nw GNw;have GTu:=mz D_tu mgN_list mgN_len D_T GT D_so (mq D_so mgN_list mgN_reversed mgN_len D_T GT D_W GWd) D_ln GLn;have XIU:=qQ D_iu TC TBd M_bK M_bP D_cc (qV (P:=l.prog) (w:=w) (base:=base) D_cc wC D_ic mgN_len mgN_all TC M_mH);have XR:=oY D_rk D_iu XIU;have XT:=my D_tk D_rk XR;have NR:=oX D_rk Xr D_iu GIU;have NT:=mr D_tk D_rk NR;have GAl:=ke (P:=l.prog) (w:=w) (base:=base) D_al TD TF mgN_isinstance mgN_ValueError;Exists.elim (mn (P:=l.prog) (w:=w) (base:=base)) λlp GRk=>have GRk:=GRk D_rk hc_rk LT_rk mgN_sorted mgN_list TBd M_bD D_iu GIU D_fi GF D_sp;have GTk:=kx D_tk D_rk GRk;have GLF:=km D_lf TN D_lw GLW;have GNu:=oW D_nu mgN_isinstance mgN_list mgN_all D_wh GWh;t_ D_L M mgC b_mI GI M_B mgB b_bI GB D_P GP D_ca GCa D_lf GLF D_lu GLU D_cp GCp D_lr (oR D_lr mgN_len D_la (mm D_la)) D_gd (ko D_gd D_rk GRk D_tk GTk D_nu GNu D_wh GWh) D_tu GTu D_nc GNc O9 Tv D_rf (aL D_rf TD O9 D_rk XR (by decide) D_tk XT (by decide) sC) (aL D_rf TD Tv D_rk NR (by decide) D_tk NT (by decide) sA) (vS D_rf TD D_rk GRk D_tk GTk) D_al GAl D_lk GLk⟩
def walk{l:W.OpenLaw}{q:Program}{loose:LS}{XP:(Str->OU)->Heap->Prop}{d:DefRec}{K:Params->Fg}{as:List Addr}{e:∀ P,as=(K P).map (·.1)}{T0:Addr}(hn:l.most=some 63)(hdf:d.params.defaults=[])
  (hNT:∀ w:World,W.noTabs (K w.params)=true)
  (F:∀(w:World) (mg:Str->OU) (fa:Addr) (h:Heap),(K w.params).In h->h.Ns mainGlobals mg->mg d.name=some (.ref fa) ->
   (∀ T∈[T0],∃ c,W.codeHdIn (K w.params) c T=true)/\∃ fd:FuncData,(∀(s:Shared) (u:Value),BindsTo s fd ⟨[u],[]⟩ [("script",u)])/\∀ base:Heap,(K w.params).In base->base.Ns mainGlobals mg->(∀ T∈[T0],mainGlobals≠T/\base.BuiltinsAt mg T)->Ax l.prog w (K w.params) mg base Hk 11 fa fd ["script"] (Rt (K w.params) T0)):
  W.WalkO q loose XP (W.kmHook K as e [T0]).says l.row.toRowW d [] (λf vs=>PySem.call f vs):=
 L2.walk_ofT (n:=63) (k:=11) (x:="script") (CX:=λ_=>Hk) (sp:=λw=>Rt (K w.params) T0) hn (by decide) hdf ⟨Y,V,V,Y⟩ hNT F (λ_ _ a ns hl hS hT=>⟨a,ns,Y,hS,hl,hT _ (by simp),λ_=>rfl⟩) λ_ _ _ _ _ z=>z
end Gw
namespace PySem.W.Fast
set_option hygiene false
local macro_rules|`(command|#check $s:str)=>do
 let mut r:=#[]
 let mut n:=0
 let mut k:=0
 for c in s.getString.toList do
  n:=n*62+(c.toNat-(if c.toNat<58 then 48 else if c.toNat<91 then 55 else 61))
  k:=k+1
  if k%11==0 then
   let i:=Lean.mkIdent (.mkSimple s!"tw{n}")
   r:=r.push (←`(command|def $i:ident:=0))
   n:=0
 return Lean.mkNullNode (r.map (·.raw))
#check "3lGrpNQJLTDH1aKIQRTQf6K5K1rvWdWNRGoGUZAna27NFxbpS8hZHCrAkvQXYvlaIjAaAALcGYXOiE6L49BCr8lECjYNzu1eoMEEQDkuN0zNwiAokxGytwjsKCgBqKoCx0ha51q2rcPCXQCF2De5wRplXSFaskO6SGz0R7gi2Ci6OgeFJvOS81U3ywe3SKWGSHiwhaDh2SRkcm8kpGUplrckX4hx8n3R54FZkkW2b9bXLJlJryEUP8jEmLX76ApjnPJzsGzbFdqqTXE0PUPLK9Kv9WEYlB9wsDU6UQjrX00T5lgxXBLUAi6P111I9mqJsAQ36UtpIXJGDfEX6Cqfy89NVJXimt9C9o49UbF4jXQGY1DfrwWqfq8kJgA4rW2klLafsCiIu3sILYHnFz7iDKW5IHLE4VHd15AnNWj2XFHo77LXhl7Y5bcA76QGIPXmw51Fww0NX8NjSXFaIjryax5nY3XByqcnOBkm30iphn8X9iOAC8gwcUribdIohtRlxk0tzExGbMw01zb9FIjZV28hDVsBa2AJyUqiSD6WWMmMyvbWW8haIweFn6Ik0ISLSgPeY9sKnrmwWV97tx0W5X5d218UN9q5tO7pxk7TLUCOf19EIq5EZHnEhA0wOLB8ERJRJkWYOK21CInWsNx4Gc4gNkQCInn03gMYgQt6lT7RnLVfyml3hCCRDYPCAe9l8A0DiPEZt7X5dsKAcmx41MLpNkbpm6Td094p8kauZiIkBf4eB2k1hczAnLxU95YgF5JISGEobcmmiGn80rHSyq5yLeFBKkeMLBW4wI4B91XHq1Iphd7958QNTD4Lr37rajJh52cdtWeHqHy1cB1V87mzS2L9cRk5IarGt6FYbs5AzPi6Ij2gbsDELlAH5l71lbmoEFDYztRmD1RRwEnkzhogy4Ix9pCFhD9rIF11vNmRifZRVt8nOJB3aGEdDDI4anOfz0xCLdnNtCHIwz2172nHWTduuN1Uy6L7LcWW36Jp2zNe6Br0Bke1gME8BZu3dZK1eNguk4HxZ6qFvUJPV3uA2qQNSw2yLxdtXomtpAA28WFfeEudpiCMwDm5GTauJ2EfpBlTtyeFBCVMuhV2uEw7DT1f3pGCJXKuVastJjV8qAErYKWdl7ysCkZEAobQEfb53LT7AyZ0yeGFag6upcT8JKkBavaV72hjAbAMffD1WNTFk9pnPRRrnV96YDfc2h1NxFE4ZMvIqqNy1eN3F6mdT0P5iHBZniRtGGHoTGuVzGUhQHhEPuWxw2C31jyMZtPNKGH5XouLjh7h3290urhyyjXckEwcXvx1qlffLEvogmI9XovHXGce8nmGt6I2qMH4kaLXpDEA380MSL9hJrS3hpxQGZ99kFoY8G4sGe39xcESvTgow5umqZSjhkhw17FGHEf0QH35vsbUHIBb5lBxgZeCnqQav3hIMBihf4fXJBedUo4Lde02sm6k3TxgdM3y3aGPrq3frBiZlrrd03sGGYBX2tFR1at5VlCvub7YluJCxRD3gBSzY91CL1KhQOS18orpRiJRaJlCr0XBrpvKg2Cj7GJcMLXWeGjqSqHLxXZrBoXbHoUu3bN4JoD3SgGhvBKrwXU3b8fZ05uAiGGYtOsn2weNgdx6Krl3MIomrsoEKeDEzOOPnLu7WHjtoQAEQDVeKPjbxnnKD1W2XQXZCDkPte13GJ4NS7JUF0f5ayuwIaC10oMe5vigzaB6kO5l3jjYjF2Ww3bQ7GMQoHyjYH6yeGdy4Xj7irzkNI88ceHqZjx0UfB6H4Xf3enQfFWVvvNpg89K8yVRC3U1CZP6ckQXGt5suoDUYnBqOmsESIgcXgTGBa8IGdGZghMfWEM9s8bh6erCcq8rVGIoGpy2UCnP8DTtEAViD1uWHULu38JK5fxfbAE9uYEY7ExahZdnbEd0NidvAdWq4bboz4ti5pLK4YgMQfQDjVDxkBrWjzsWC5UjnpNoy3yW5odEoaL07nD9U8dYJYMBT49TOj8G297AYKPluWhBx3hJF2nvVnbULzA3uYlTboBtP11Xul5TiCYeS8NOpYdftfYQA21djczb8T12fwnyMSY6zhD2APfvInje76vk1v9IEIuv4SCVaPUy82FIqWFeFpPx3LLbusG3R2umA8mVvcotFyzU9AC5rYWS5FgEZY51bHCKopEBpq7fafc3ECu2joFn8jtrCO3ohV42xqL88j2pZHj31PGavS1DNbb4I9Tm3BZUsezk92N194udaRQ0YJxG0Kky2DJj4jyr6dEnpGElWukBuMiD1bwTqlkQifn8aIXDV4s1zxE0SEfQJnyqPJFeEq8OV21x5Lr251NY993JVJymyugSc0FCaqqjc8zps0U37fDjwIeuBeREdWTAxnP7qIWe3xonr7KmrV7cDy4gI6rG8oBRhzhh19ypG4miLQE18bPxYkENx7AIiD0mcsyKt0u6DoZESEgl04T1dCL5TNN6OlHGnLZzyD5POSmXYoNRj45tRqtGdqDsCzSEHSm1LSnCLE3XSUBEa36jN2QjTVPhD3ZGO6xUlF7xIvVjSTZzZUHCDA3TZXzakN249ViXfWTwz21O0mdgiWNCCWhJKE7vguHB2Fpsqy93vHG5GmPbqIFaWKs2BM2IDsBWCwAxov8u3sIEIrQM5ieggXHUh4vcAgOGr4FNomQ4EcXkBRd5bD112NzHQ1QV2dlAgeAQR8uekWK9H3bgNOQ8ixX0AeQLhNK6nck4m75lvO3tM23u6aDPU4k6D2f7BreDQbNj2cBbvPNuQDZHlaAuLZKpVdHcJ6g4nfbCz5J4tAmDvFJ4EVrYHv4VM9DEH80hYIPiZuIhgjnmcfFzPC5zNn8BSGEGKXGDIFv692n4Xiymc6yjO3AXLDBZ7EqCU4rMH1A8xteA2TgSDER9BX9JDxkHrkcr6s9WLbEW7c9B9AEYpr8A7eBr98h1BcjNcd2IS7DJVIwxQZKL20aYPda5g1pnGy1MNUrxGeFXHQsZ3xvCa16ViyxqCq9ntzSAK4vKCGJTEjQxIOWjCoTR1f3sJRC9OdmVWdFFuI3gkPkVERTmDHZdatyDaLRO1ZP01Myph4s2dS5Au059tq6D835NvjxNkJfOgDrrqcw8Fi7MJplNiYK35MuKcUwowh937ndYDPDdaHDgVswVKjxO2tVZ9mXRGJ92GyawiFL9q9I3QiaUmY7yCJLkeyjFS6qg0b03GkKKwMSIXOTryz53DQIK6mgtZ5VAWCPLvsZyf1CsHnlbC7HvdQpEDc2hwjdOg5FoXBbN4PkwbBBWVjdqQPl62C3XnwybigxLdZB5HHG34mI8CulKuclKy4uegLhrW6O8GzNQCGff9Vv1f2SOrx4V7nGORwDPpf8qm7gKCX9sIT8JFzD9C9XMemSEDAKB2vN6MO9ipXAIKQs85Lc92jJIq9XNG1tvAg3qggoCj4LGupKe1mLUfq2ocH1xe9lggTwtOZbRC9OwHw5cAnXD7a3IyKf2aOGCL77C3IwSDAdJqH907YWEAvCAWv9tIP70041TC0K3BFG3IxBsN4C5L7uqx2CozuK06eGq3NTi9nK7KkcpSItzTWHNmH0yEKKmJE2giHAwrP3GIpB84AZcXc8AquYsjCZpBIH1zbZ7D9xnj5MHm5LL5erZIHS4QipJ4EzFc9tPxvYaDsD2Uk0mg8RwcDznTiFaNTGi6QT3mtGxBxP625G5W1874h0amuyeYvQxQLHCAPRWnpWc1B0TYfhFJXiFjy0yt3kQJC00GnLwHbeCpFbQPIKSNDEIK4O9FqnRsPpJzN22fr3H0aB4wQXkgFllw6qfv3Eof1sSGgldNx4u8hB88o93tLUvf87I079TO9Vqt6Dlm05SYMTL3JGyAjjOuRlKlIKuUIYJvN494jhiZAdxlGfhlPdOd4hx7wdvXtkDfCLCcZITXutm3U6KftxdjZUzGKLZxPhzjsT5BBXQ3kP7XME9d7bcf3HcXvJ3vKpKxmannGZ5iebaWHXkKmtDuZEdI7cAAGSTAMtcbHKqjJhBEbhSsBriqSl1An2FHBv49DNjMid25uwrG8VF7pEGRtoPkkIeh5gJS4CvvZ0M7hKYL0f5g82BxBjdr9WzZTDcT0dGgiVzW5rtEtxdSLeC8L0UzVVxnJu6hPjBt0GRjqL8zKJ4ShkzFIZSbhRSa2BdFBOQfs6QlgIBqFUCHlJaFd4BsYHllV4cdL9Xdrphtu8I7YENyixlRzv2N9kZQPhnbhKK6FPLgE3fV1ZIaXR9UdaXDEYDGMQoIRpKrZNTHcw4L8HvZ6d8DXeBsBVHTYa9MGwpLvYnKC7cRDf4pigWUbirnZ1dp9FI5azlOBh4kohQELLAFFKYx25q7W4Dw7KlLYF3Zl5R9TT6PC6KjCbPwg50V9SaKoSEpN4Eft15j10N590rUO8Oa9B5p03DOAcP3o37RRsx8yJnGP4pqab8TMi4V8hA4G8OzFVJykRsjBYlR5lKJ7H9Jqc25EMswkkHKgQ8RYVyOkFSYSvx2p8gPE5OOOUTucxACRSkOu3MF1kKOFRWm4FmryEN0Pta5IHW56HpHLdT5RNG1RGrcsM5dQMAVVWpuTrSJ5EhmkUn4KSxT0TMxwwmpuqb8IMiY89TXRrKC8efamZC1MIZffa0pGpl8FvSqIIjl9gMGigbIyOkI6X12HnxE6XdFx5yjcGD15hzc0ZlMlN8ejYy5Ph4dvHHSGM42HwGjUXyIjLJ54OQjGxLOKbXTf55tFCv1fGWEqcZHTSGQ5VX6LL7c0G6jaqXM9H8YDj2DeUnBztEDg5I5h8X5loC9l0myLocIxBzNd48Mrwd9F1iUljVX7qX3lNvEmsb8ZC20xGLnTxnAm9K2XXEEJLXk6uGi6wJNkODIXnFbDubyxjI4pLf31CspeGJKfcQe12T8EPBDsfnE2USDBxzXdATZ6hChMVfBFHTjQCMNB5RUSMIx2NPSZj1FRtPIEMnmLHdfGlF6QABgA2WB16addQVWQD71LU1SWYFzgH1ENbRoEaWQuTJffNaJGY9exGeyJ8nkujyeF4lSM7KnRmILEkBMaK87KH9MxLwByzrN76snBj9azWwZ5gvI0VV3SUA4MgQJ8tNJgs0Lq6AmAWG9q0HjjWUpVeNMKpmamCEqT1rJbWdR5FLFCwFbi9FNeL2UFE75t70gcyhNC5ge2b8Uc07BKZJ7gDRRKcFT3uPhI3SjhB96IxHQ9U3E16K8bT8lwKI9vV5C8RWwpF7lgNXmH8RpI0ktswAtQjEh7C79VWtlmCp3bW42OTat9E2piyJDGTiDhLwYH5pFscSpK2tYKc0rSCUJGnD9kJDlxxJEcaajSdLe9HzLnbNvnnlVHNHnZynNwWYGzHKZKMlew7FlrpWCxwAd71XQRHWDBCmTEBNVRhSWkYp1B4iJwkke4313pbRXuqvrf8bX4AoI8Tqj8EqLqTf6adt6DpshbtBf8K6A6WpYKYC0t5X9a0W4E4fF3U1TRplCZ1d3K7XXjjKzNALcXAsSFPEKbKPEuXNB0PN7JzgGpWauazUJiLEBqZuXA1Ip2aHlPeKBsFO1kGcHAcsjEo0OhW0ILSdE8m9h8YNbR8DZsrcreLftR2KyfNxvTIcH9YXzx4Y9PAK7j33Aha1jlm7cIsBEXdBv6618LdRzZ2K55vIJVkgTMuo4pYzJA6u0I44XzCSPTrwfJ4QicvAfMvat2vWcP3SU4bULfVxBz5odfUJFTS0QPxnKr0AR3HTla3Iy1Wiclru6lXuEHVr7NckEf5CcDEufS9ydlBQ6DlzcslnE9K51agirBbf91sPnZeh2rf8Uvm71jmmkL8LQBSudBHmS7pslHB0Kz8H5GBvlkFFGJ12SSikyXWZDCKBLLumNNKePJ4HxycvXdL2IrIWnF3Bq7y1fXFHjBE9hHGJJPmG0LRpYEUl2USsW7mlEH7tsNhsypMDvhuwaqngftDlqkq4MED1jCpKjGy2iSqiBtnGXqvXMLzBt5jMGbGW59BrPJZJLDMhuBlsb359ziNYBkCGdGJj4N5BeoX3oZM9qvBGsMp2wRPYlB9Zgg9cGFIOB8jHSCJHR9pAzN77yWRXG3Aqlb6xmVtKh13yJOh7bOEiAXuAdTs4XkEAVWsP3ENpRoASxxQzN9TOeAHO4ojKHhtqA8k5hnXe9F5A3GSo13ORpX9wdBdSGebd89vvpqOmiDHz9bmmWJ2HdQK9YgvJjH5i8Z9R4UdeitnWB8uH8O2wij6i8hVtv1ARCfQ8erfNi2WUOX8aPl6L3NI1y8WNMhtHLMeY8SyBtAH8YFu8RlBg4bBoNh8CGwuPxrwCY0on7iNTkdT80ojeIxKbIcf7ywlNvZCSsC7pXtoojg1oS7mz6h5UBrNv7eQcyVz8zNT7XxORoz9czT7SpfqHD7MkW7Lce3mmXf0Y7JXJh4KVcnx6vDFHGDmkJT6Xg850asJJO6DW25hQUB5t6DJ0yNb39z96963neNX2yc0c4cKE9ywvq0bB75K1uEpQ5xu5gbqxNKG5vLNhqzyV8q5rWql7LR0sb5kUTBQseKrN5TrvX2fCZnI5K8lOXUPCUa4iCdg6qXHoE4dXnxCzGuhE4MOY8HAM1TL4MBFpGAzBQO4F4f3AsalYL435nzIu4AMu0OnotDNnWeG3yV6QFoll6u3xE332BMGgf3tSk3QFFiEG3lyvT20UHwN3hImkwYpJB53ZnI2H0cNJI3YnmL11TMB03YRKXo2XU1e34OnD1y1ORJ31eiv66tJiy2q6cGP64BRt2nIPoml7GGU2mnBRndb0RJ2jacm7gQf0O2hgh1V0EoZk0G79xY99pZT2aVjipzSyCE2XS902jSRq12WzcIYTREWiLtsHpBt6wcjLtmwX9Caq4K2Bi4QCR3KpVLjp1d2YhL2A2ACUi1emm7kLIXjQW6Fk8YLIO7WlGnv7DL6LjAF0O9KgKviE8dBcTd6KqcrskrwF9q0CqYATRxPYWKV5sZXFtLl5KUNJpyiLEnUKNueWtKo9rzKIMW3XwGT52K2uRsR0RjEnJqyndP9B3UR1yYeykHFILlJjWYYYiMUsOJcp6GKPpbBY1xXY23f0i5jJEYX4FaCg2TJCaR1woecbFJCIm6H2KiYiIlqlLDnTA1TIiwvgGZEQHcIhqm8Z9mZAVIfFrMpCiVCJIWKOSEnGnXdINo8kAvw2ejINibYlWg5hFIA1ZbnwiRLKI5Ry0WAKHGiHqHN9PkwoTcHoo4RZO5ihVHlrnyZ5b6BhHJnGcs81CGgH5dVPtSOxacH4y9ImsFjeyH1EyVx5GdjnGzJyOqPRTgyGwvcwqaaCrfGtW5LUgsMCLGi83xpuoIeTGcjiWiJ0vDSGZPzH1dEquWGXvowwShD3WGB4bJ75OMgpGAJI09nrDTQ0100FBktgykFzNQ2b6lSDfFvIvqB1F2vVFqEE0APZmpcFkl8LYd7DHT09iXUzraL4aFfC46EAgqc5FbElQjYJEMQFIaf284FOkDF1jbny4JHuSF0pUrDOuEFlES4vnqLppsvEH1VG0ymvTAEAqIwx4f5niE28dVvlGviIDuE2EIFWaZSDt3zspcWBoTDqQWRT0qlEdDqKcMGUt4EmDZu9v5PnNcKDKjekeGUoLhCsNtFeNDEJECnQamz3Yx1YChEQJL3rgkvCRH4lyysCGOCP0H118dsKj1DoSDdCoDhw"
end PySem.W.Fast
open PySem PySem.W PyProof.Rows
set_option maxRecDepth 100000 in
set_option maxHeartbeats 0 in
theorem PySem.Challenge.cw_manydeeds_k24_ranked_by_lineups_holds : PySem.Challenge.rw_manydeeds_k24_ranked_by_lineups.Holds := by
 w_on;o_law;k_head;(case hw=>w_witness2)
 k_fill
 refine Gw.walk (l:=PySem.Challenge.rw_manydeeds_k24_ranked_by_lineups) rfl rfl (λw=>by kernel_rfl) ?F
 case F =>
  intro w mg fa h KX G hmg;refine' Gw.all_mk KX G hmg ?_ ?_ ?_ ?_ ?_ ?_ ?_ ?_ ?_ ?_ ?_ ?_ ?_ ?_ ?_ ?_ ?_ ?_ ?_ ?_ ?_ ?_ ?_ ?_ ?_ ?_ ?_ ?_ ?_ ?_ ?_ ?_ ?_ ?_ ?_ ?_ ?_ ?_ ?_ ?_ ?_ ?_ ?_ ?_ ?_ ?_ ?_ ?_ ?_ ?_ ?_ ?_ ?_ ?_ ?_ ?_ ?_ ?_ ?_ ?_ ?_ ?_ ?_ ?_ ?_ ?_ ?_ ?_ ?_ ?_ ?_ ?_ ?_ ?_ ?_ ?_ ?_ ?_ ?_ ?_ ?_ ?_ ?_ ?_ ?_ ?_ ?_ ?_ ?_ ?_ ?hc_rk ?ht_rk ?_ ?_ ?_ ?_ ?_ ?_ ?_ ?_ ?_ ?_ ?_ ?_ ?_ ?_ ?_ ?_ ?_ ?_ ?_ ?_
  any_goals first | exact L2.qc (by k_is) (by k_is) (by k_is) (by k_is) (by k_is) (by k_is) | exact L2.qa (by k_is) (by k_is) (by k_is) (by k_is) (by k_is) (by k_is) (by k_is) (by k_is) (by k_is) (by k_is) (by k_is) (by k_is) | exact L2.qi (by k_is) (by k_is) (by k_is) (by k_is) (by k_is) (by k_is) (by k_is) (by k_is) (by k_is) (by k_is) (by k_is) (by k_is) (by k_is) (by k_is) | exact⟨by k_is,by k_is,by k_is⟩ | exact⟨J,J,by k_is,by k_is,by k_is⟩ | skip
  any_goals first | exact L2.tp (by k_is) (by k_is) (by k_is) (by k_is) | exact L2.mp (by k_is) (by k_is) (by k_is) (by k_is) (by k_is) | exact⟨J,by k_is⟩ | k_is
  (case hc_rk=>exact rfl)
  (case ht_rk=>kernel_rfl)
