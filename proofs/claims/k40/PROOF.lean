import PyProof.Rows.All
import Wide.All
import OpenK.AllK
import Wide.FinOn
import Lean
import PyProof.EqAt
import PyProof.EqKinds
import PyProof.TupleCall
import PySem.Challenge.RW_manydeeds_k40_whole_even_where_lineups_a
set_option Elab.async false
set_option linter.all false
set_option maxRecDepth 100000
abbrev EV:=PySem.Value->PySem.Shared->Prop
abbrev PL:=List (PySem.Addr×PySem.Obj)
abbrev LU:=List PySem.Value
abbrev OU:=Option PySem.Value
abbrev LN:=List Nat
def Ja:=@PySem.wpAny_bind
def Jb:=@decide_eq_true
def Jc:=@decide_eq_false
def Jd:=@PySem.wpAny_pure
def Je:=@of_decide_eq_true
def Jf:=@PySem.wpAny_mono
def Jg:=@PySem.wpAny_field
def Jh:=@PySem.wpAny_truthy_bool
def Jj:=@PySem.wpAny_holding
set_option hygiene false
local macro_rules|`(tactic|rfl')=>`(tactic|decide +kernel)
local macro_rules|`(tactic|ac_rfl)=>`(tactic|intro pins s σ H Q I h)
local macro_rules|`(tactic|exfalso)=>`(tactic|intro pins s σ H x y v u Q I rx ry h)
abbrev RS:=List (PySem.Str×List PySem.Str)
abbrev LS:=List PySem.Str
abbrev Fg:=PySem.W.Frag
def Ya:=@List.length_map
def Yb:=@List.getElem?_eq_getElem
def Yc:=@List.mem_of_getElem?
def Yd:=@PySem.Heap.get?_push_of_some
def Ye:=@List.getElem?_eq_some_iff
def Yf:=@Nat.le_refl
def Yg:=@List.mem_map
def Yh:=@List.getD_eq_getElem?_getD
def Yi:=@List.getElem?_map
def Yj:=@List.mem_singleton
def Yk:=@PySem.Heap.get?_push_size
def Yl:=@PySem.Heap.lt_size
def Ym:=@Bool.false_ne_true
def Yn:=@List.size_toArray
def Yo:=@List.map_cons
def Yp:=@Nat.lt_of_lt_of_le
def Yq:=@Int.toNat_natCast
def Yr:=@Ne.symm
def Ys:=@PySem.PassesOwn.never
def Yt:=@List.length_append
def Yu:=@List.mem_filter
def Yv:=@List.mem_append
def Yw:=@List.mem_cons
def Yx:=@List.length_take
def Yy:=@List.mem_append_right
def Yz:=@PySem.boot_len
def Ba:=@Option.some.inj
def A8:=@Nat.ne_of_lt
def A7:=@Nat.le_trans
def C1:=@PySem.F.plainAttrs_list
def Bv:=@List.length_cons
def B9:=@List.take_add_one
def Bp:=@List.mem_range
def BF:=@Nat.zero_le
def Bl:=@PySem.Paired.length
def CD:=@List.map_append
def Bo:=@List.map_map
def C_:=@List.pairwise_cons
def EE:=@List.length_filter_le
def Cr:=@List.all_eq_true
def Dv:=@PySem.mem_of_lookup
def Fo:=@List.nodup_iff_pairwise_ne
def Df:=@List.length_range
def C9:=@List.lookup_cons
def De:=@List.take_length
def FI:=@List.getElem?_eq_none
def Du:=@Bool.and_eq_true
def Et:=@List.filter_eq_self
def FH:=@List.mem_cons_of_mem
def ED:=@List.filter_cons
def IE:=@Classical.byContradiction
def Ed:=@List.nodup_cons
def Gj:=@List.getElem?_of_mem
def IM:=@PySem.F.slot_list_append
def IL:=@PySem.F.type_list_append
def JP:=@List.getElem?_append_right
def Gi:=@Int.toNat_of_nonneg
def Ec:=@PySem.Heap.size_push
def FK:=@List.any_eq_true
def Kj:=@PyProof.Rows.boot_isinstance
def IJ:=@Option.map_eq_some_iff
def Kh:=@PyProof.Rows.callWith_type1
def Fp:=@Nat.le_add_right
def FJ:=@List.take_zero
def Eb:=@Nat.ne_of_gt
def IH:=@List.length_pos_iff
def JM:=@List.take_append_drop
def Kg:=@PyProof.Rows.boot_tuple
def Gg:=@List.append_nil
def Kc:=@List.take_of_length_le
def Kb:=@PyProof.Rows.boot_list
def MN:=@List.getElem?_append_left
def MM:=@List.pairwise_iff_getElem
def JL:=@beq_eq_false_iff_ne
def JJ:=@Array.length_toList
def JI:=@List.getElem?_range
def Kp:=@PySem.F.slot_zip_next
def FL:=@Int.zero_add
def Ko:=@PyProof.Rows.boot_all
def HP:=@Bool.eq_iff_iff
def MY:=@List.getElem?_cons_succ
def Km:=@List.mem_append_left
def Kk:=@List.mem_iff_getElem
def JO:=@List.any_eq_false
def JN:=@List.append_assoc
def Ki:=@List.map_congr_left
def OK:=@List.drop_eq_getElem_cons
def II:=@List.filter_map
def MX:=@List.mem_of_mem_erase
def OI:=@Option.isSome_iff_exists
def Gh:=@List.map_id'
def OH:=@PyProof.Rows.boot_sorted
def Kf:=@Int.natCast_nonneg
def Fn:=@PySem.Paired.snoc
def IG:=@List.Perm.refl
def MO:=@List.mem_of_mem_take
def Ka:=@List.pairwise_map
def KY:=@Bool.not_eq_true'
def JK:=@PyProof.Rows.KeyOrd.kle_refl
def IF:=@Nat.lt_irrefl
def KU:=@List.getElem_mem
def Tu:=@PySem.F.slot_tuple_iterator_next
def Ma:=@List.mem_cons_self
def MZ:=@Int.emod_lt_of_pos
def OO:=@PyProof.Rows.boot_any
def Kn:=@List.of_mem_zip
def Kl:=@List.length_zip
def QQ:=@List.eraseIdx_cons_succ
def ON:=@PySem.Heap.SameBut.update
def IK:=@Nat.le_succ
def QO:=@List.drop_of_length_le
def OJ:=@Bool.false_eq_true
def QN:=@Array.getElem?_toList
def MV:=@List.find?_cons
def MT:=@List.forIn_cons
def MR:=@List.idxOf_cons
def MQ:=@Int.emod_nonneg
def Ke:=@List.any_cons
def Kd:=@Bool.true_and
def OG:=@List.getElem_take
def OF:=@List.ext_getElem?
def KZ:=@Nat.le_of_lt
def Ti:=@PySem.AutoSeq1.wpAny_loadPart'
def Th:=@PySem.F.slot_list_remove
def KW:=@Nat.succ.inj
def OE:=@decide_eq_decide
def W3:=@List.eraseIdxIfInBounds_toArray
def Tt:=@PySem.F.args_zip_next_1
def Ts:=@PySem.F.slot_list_index
def QR:=@Nat.lt_of_le_of_lt
def Tr:=@List.getElem?_set_self
def Tq:=@PySem.F.entry_zip_next
def To:=@PySem.SeqAt.canLay_of_shaped
def QP:=@List.filter_congr
def OM:=@Bool.false_and
def OL:=@List.nodup_nil
def Wy:=@List.idxOf_lt_length_of_mem
def QM:=@List.perm_middle
def QL:=@Option.map_some
def QK:=@List.length_nil
def QJ:=@Nat.min_eq_left
def Wx:=@List.getElem?_zip_eq_some
def Ww:=@List.getElem?_take_of_lt
def Wv:=@PySem.F.args_tuple_add_2
def Wu:=@List.length_erase_of_mem
def Tn:=@List.getElem_idxOf
def Tj:=@List.lookup_append
def Wt:=@PySem.F.slot_list_insert
def Ws:=@PySem.F.type_list_insert
def Wr:=@List.getElem?_replicate
def Wq:=@PySem.F.entry_tuple_add
def W0:=@PySem.F.type_list_index
def Wz:=@List.length_eq_zero_iff
local macro_rules|`(tactic|nofun)=>`(tactic|exact ⟨rfl,rfl,rfl,by decide +kernel,rfl,by decide +kernel,by decide +kernel⟩)
set_option hygiene false
local macro_rules|`(tactic|nomatch $t)=>`(tactic|refine $t (fun vs H Q E h=>?_) (fun Av A outer s H vs Q E hr h=>?_))
local macro_rules|`(⋯)=>`(FG P w K mg base JR)
noncomputable section
local macro_rules | `(tactic| ac_nf)=>`(tactic| (with_reducible show let X:=_;let d:=_;∃ t,CF X _ t∧t d _ _);intros)
local macro_rules | `(tactic|exists $t)=>`(tactic|(with_reducible show let a:=_;$t);intros)
local macro_rules|`(⟨$a,*⟩)=>do
 let b:=a.getElems
 if b.any fun x=>[`Z,`Y,`W,`V,`U,`O,`Q,`J,`G].contains x.raw.getId then
  let c←b.mapM fun x=>(match x.raw.getId with|`Z=>return #[←`(_),←`(rfl)]|`Y=>return #[←`(rfl)]|`W=>return #[←`(by omega)]|`V=>return #[←`(by decide)]|`U=>return #[←`(sL (by show 2<=100000;decide))]|`O=>return #[←`(rows),←`(n),←`(ds)]|`Q=>return #[←`(by rw[Ya];omega)]|`J=>return #[←`(sL (by show 1<=100000;decide))]|`G=>return #[←`(by simp)]|_=>return #[x]:Lean.MacroM (Array Lean.Term))
  let d:Array Lean.Term:=c.flatten
  `(⟨$d,*⟩)
 else Lean.Macro.throwUnsupported
namespace L2
open PySem PySem.Spec PyProof.Rows
abbrev Key:=Sum Int Str
def LQ:Key->Value->Bool
 | .inl k,v=>Value.isInt k v
 | .inr x,v=>Value.isStrOf x v
def vq(w:World):Key->Int
 | .inl k=>hashInt k
 | .inr x=>hashStr w x
def ID:∀ {k:Key}{v:Value},LQ k v=true->(∃ i t,k=Sum.inl i/\v=Value.int i t)\/(∃ x t,k=Sum.inr x/\v=Value.str x t)
 | .inl i,v,h=>by
  obtain⟨t,e⟩:=Value.isInt_shape (k:=i) (v:=v) h;exact .inl ⟨i,t,Y,e⟩
 | .inr x,v,h=>by
  obtain⟨t,e⟩:=Value.isStrOf_shape (x:=x) (v:=v) h;exact .inr ⟨x,t,Y,e⟩
def nT(i:Int)(t:Tok):LQ (.inl i) (.int i t)=true:=by simp[LQ,Value.isInt]
def nV(x:Str)(t:Tok):LQ (.inr x) (.str x t)=true:=by simp[LQ,Value.isStrOf]
def rm(a b:Int):decide ((Sum.inl a:Key)=Sum.inl b)=(a == b):=by
 by_cases e:a=b
 ·subst e;simp
 ·have h:¬ (Sum.inl a:Key)=Sum.inl b:=λq=>e (Sum.inl.inj q);rw[Jc h];exact(JL.mpr e).symm
def rz(a b:Str):decide ((Sum.inr a:Key)=Sum.inr b)=decide (a=b):=by
 by_cases e:a=b
 ·subst e;simp
 ·have h:¬ (Sum.inr a:Key)=Sum.inr b:=λq=>e (Sum.inr.inj q);rw[Jc h,Jc e]
def rp(a:Int)(b:Str):decide ((Sum.inl a:Key)=Sum.inr b)=false:=Jc (λq=>nomatch q)
def rq(a:Str)(b:Int):decide ((Sum.inr a:Key)=Sum.inl b)=false:=Jc (λq=>nomatch q)
def Cq(prog:Program)(w:World):PySem.KeyKind prog w Key where
 is:=LQ
 hash:=vq w
 inj:=λv a b ha hb=>by
  rcases ID ha with⟨i,t,rfl,rfl⟩ | ⟨x,t,rfl,rfl⟩
  ·rcases ID hb with⟨j,u,rfl,e⟩ | ⟨y,u,rfl,e⟩
   ·injection e with e1 _;rw[e1]
   ·exact nomatch e
  ·rcases ID hb with⟨j,u,rfl,e⟩ | ⟨y,u,rfl,e⟩
   ·exact nomatch e
   ·injection e with e1 _;rw[e1]
 byValue:=λk v h=>by
  rcases ID h with⟨i,t,rfl,rfl⟩ | ⟨x,t,rfl,rfl⟩ <;> rfl
 pyHash:=λhv h=>by
  rcases ID hv with⟨i,t,rfl,rfl⟩ | ⟨x,t,rfl,rfl⟩
  ·exact wpAny_pyHash_int h
  ·exact wpAny_pyHash_str h
 eqBool:=λhu hv h=>by
  rcases ID hu with⟨i,t,rfl,rfl⟩ | ⟨x,t,rfl,rfl⟩
  ·rcases ID hv with⟨j,u,rfl,rfl⟩ | ⟨y,u,rfl,rfl⟩
   ·rw[rm]at h;exact wpAny_eqBool_int h
   ·rw[rp]at h;exact SeqAt.EqAt.int_str i t y u _ _ _ _ h
  ·rcases ID hv with⟨j,u,rfl,rfl⟩ | ⟨y,u,rfl,rfl⟩
   ·rw[rq]at h;exact SeqAt.EqAt.str_int x t j u _ _ _ _ h
   ·rw[rz]at h;exact wpAny_eqBool_str h
 «strs»:=λk x t v h=>by
  rcases ID h with⟨i,u,rfl,e⟩ | ⟨y,u,rfl,e⟩
  ·exact nomatch e
  ·injection e with e1 _;subst e1;cases v <;> rfl
def p_(prog:Program)(w:World)(i:Int)(t:Tok):(Cq prog w).is (.inl i) (.int i t)=true:=nT i t
def qA(prog:Program)(w:World)(x:Str)(t:Tok):(Cq prog w).is (.inr x) (.str x t)=true:=nV x t
inductive V where
 | non | bl (b:Bool) | int (i:Int) | str (x:Str) | byt (b:Array UInt8) | flt (b:UInt64) | ref (a:Addr) | ty (n:String)
 deriving DecidableEq
abbrev _root_.LV:=List V
abbrev _root_.OV:=Option V
abbrev _root_.KL:=List (Key×V)
def AX:V->Value->Prop
 | .non,u=>u=Value.none
 | .bl b,u=>u=Value.bool b
 | .int i,u=>∃ t,u=Value.int i t
 | .str x,u=>∃ t,u=Value.str x t
 | .byt b,u=>∃ t,u=Value.bytes b t
 | .flt b,u=>∃ t,u=Value.float b t
 | .ref a,u=>u=Value.ref a
 | .ty n,u=>u=Value.type n
abbrev AQ:LV->LU->Prop:=Paired AX
theorem AQ.length{xs:LV}{us:LU}(r:AQ xs us):xs.length=us.length:=Bl r
theorem AQ.get:∀ {xs:LV}{us:LU}{i:Nat}{x:V},AQ xs us->xs[i]?=some x->∃ u,us[i]?=some u/\AX x u
 | _,_,_,_,.nil,e=>by simp at e
 | _,_,0,_,.cons r _,e=>by simp at e;subst e;exact⟨Z,r⟩
 | _,_,i + 1,x,.cons _ t,e=>by
  obtain⟨u,h1,h2⟩:=AQ.get (i:=i) (x:=x) t (by simpa using e);exact⟨u,by simpa using h1,h2⟩
theorem AQ.set{x:V}{u:Value}(r:AX x u):∀ {xs:LV}{us:LU}(i:Nat),AQ xs us->AQ (xs.set i x) (us.set i u)
 | _,_,_,.nil=>.nil
 | _,_,0,.cons _ t=>.cons r t
 | _,_,i + 1,.cons q t=>.cons q (AQ.set r i t)
theorem AQ.append:∀ {xs ys:LV}{us ws:LU},AQ xs us->AQ ys ws->AQ (xs++ys) (us++ws)
 | _,_,_,_,.nil,s=>s
 | _,_,_,_,.cons r t,s=>.cons r (AQ.append t s)
theorem AQ.take:∀ {xs:LV}{us:LU}(n:Nat),AQ xs us->AQ (xs.take n) (us.take n)
 | _,_,0,_=>.nil
 | _,_,_ + 1,.nil=>.nil
 | _,_,n + 1,.cons r t=>.cons r (AQ.take n t)
theorem AQ.drop:∀ {xs:LV}{us:LU}(n:Nat),AQ xs us->AQ (xs.drop n) (us.drop n)
 | _,_,0,r=>r
 | _,_,_ + 1,.nil=>.nil
 | _,_,n + 1,.cons _ t=>AQ.drop n t
def EL:OV->OU->Prop
 | some v,some u=>AX v u
 | none,none=>True
 | _,_=>False
def KV{κ:Type}:List (κ×V)->List (κ×Value)->Prop:=Paired λ(p:κ×V) (q:κ×Value)=>p.1=q.1/\AX p.2 q.2
def kV:Key->V
 | .inl i=>.int i
 | .inr x=>.str x
inductive HO where
 | lst (xs:LV)
 | tup (xs:LV)
 | dK (kvs:KL) | dT (kvs:List (List Key×V))
 | set (S:Int->Bool) (n:Nat)
 | ins (C dx:Addr) (fs:List (Str×V))
 | own (x:Addr)
 | xd (fs:List (Str×V))
 | met (f x:Addr)
 | rng (lo hi:Int)
 | frz (o:Obj) (u:HO)
 | tbl (ps:Array Value)
 | ext (φ:Heap->Prop)
abbrev Hp:=Addr->Option HO
def upd(H:Hp)(a:Addr)(o:HO):Hp:=λb=>if b=a then some o else H b
def uS{H:Hp}{a:Addr}{o:HO}:upd H a o a=some o:=by unfold upd;rw[if_pos rfl]
def AD{H:Hp}{a b:Addr}{o:HO}(h:b≠a):upd H a o b=H b:=by unfold upd;rw[if_neg h]
def Nh{H:Hp}{a:Addr}{o u:HO}:upd (upd H a o) a u=upd H a u:=by
 funext b;unfold upd;split <;> rfl
def Wj{H:Hp}{a b:Addr}{o u:HO}(h:H a=some o)(h':H b=some u)(d:o≠u):a≠b:=by
 intro e;subst e;rw[h]at h';exact d (Ba h')
def AH{H:Hp}{a b:Addr}{o:HO}(h:H a=some o)(h':H b=none):a≠b:=by
 intro e;subst e;rw[h]at h';cases h'
section
variable (P:Program)(w:World)
def BO(H:Hp)(h:Heap)(a:Addr):HO->Prop
 | .lst xs=>xs.length<=sizeLine/\∃(its:LU) (n:Nat),AQ xs its/\h.get? a=some {cls:=.type "list",data:=.seq its.toArray n}
 | .tup xs=>xs.length<=sizeLine/\∃ its:LU,AQ xs its/\IsTup h a its.toArray
 | .dK kvs=>kvs.length<=sizeLine/\(a == sysModules)=false/\∃ vs,KV kvs vs/\h.DictOf (Cq P w) a vs
 | .dT kvs=>kvs.length<=sizeLine/\(a == sysModules)=false/\∃ xs:List (List Key×Addr×Value),
   Paired (λ(p:List Key×V) (q:List Key×Addr×Value)=>p.1=q.1/\H q.2.1=some (.tup (p.1.map kV))/\AX p.2 q.2.2) kvs xs /\
   ∃ o es ep,h.get? a=some o/\o.ExactDict/\o.data=.dict es ep/\es.toList=xs.map (entryOfKey (tupleKind (Cq P w)))/\(xs.map (·.1)).Nodup
 | .set S n=>h.SetOf (intKind P w) a S n
 | .ins C dx fs=>H dx=some (.own a)/\fs.length<=1000/\dx≠a/\h.get? a=some (W.instObj C dx) /\
   ∃ mA,h.Ns1 dx mA/\(∀ f,EL (fs.lookup f) (mA f))/\PySem.Within mA (fs.map (·.1))
 | .own _=>∃ o,h.get? a=some o
 | .xd fs=>∃ mA,h.Ns1 a mA/\∀ f,EL (fs.lookup f) (mA f)
 | .rng lo hi=>∃ t u v,h.get? a=some {cls:=.type "range",data:=.fields #[.int lo t,.int hi u,.int 1 v] }
 | .frz o u=>h.get? a=some o/\BO H h a u
 | .tbl ps=>h.get? a=some {cls:=.none,data:=.fields ps}
 | .met f x=>h.get? a=some (W.methodObj (.ref f) (.ref x))
 | .ext φ=>φ h/\(∃ o,h.get? a=some o)/\∀ h1 h2:Heap,φ h1->(∀ o,h1.get? a=some o->h2.get? a=some o)->φ h2
def Bf(H:Hp)(h:Heap):Prop:=∀ a o,H a=some o->BO P w H h a o
end
section
variable {P:Program}{w:World}{H H':Hp}{h h':Heap}{a:Addr}{o:HO}
theorem BO.lt(x:BO P w H h a o):a<h.objs.size:=by
 cases o with
 | lst xs=>obtain⟨_,_,_,_,e⟩:=x;exact Yl e
 | tup xs=>obtain⟨_,_,_,p⟩:=x;exact p.lt
 | dK kvs=>obtain⟨_,_,_,_,o,_,_,e,_⟩:=x;exact Yl e
 | dT kvs=>obtain⟨_,_,_,_,o,_,_,e,_⟩:=x;exact Yl e
 | set S n=>obtain⟨o,_,_,_,e,_⟩:=x;exact Yl e
 | ins C dx fs=>obtain⟨_,_,_,e,_⟩:=x;exact Yl e
 | own y=>obtain⟨_,e⟩:=x;exact Yl e
 | xd fs=>obtain⟨_,⟨_,_,_,e,_⟩,_⟩:=x;exact Yl e
 | rng lo hi=>obtain⟨_,_,_,e⟩:=x;exact Yl e
 | frz ob u=>obtain⟨e,_⟩:=x;exact Yl e
 | tbl ps=>exact Yl (show h.get? a=some _ from x)
 | met f y=>exact Yl (show h.get? a=some _ from x)
 | ext φ=>obtain⟨_,⟨_,e⟩,_⟩:=x;exact Yl e
theorem Paired.mapP{α β:Type}{F G:α->β->Prop}:∀ {l₁:List α}{l₂:List β},Paired F l₁ l₂->(∀ a b,F a b->G a b)->Paired G l₁ l₂
 | _,_,.nil,_=>.nil
 | _,_,.cons r t,f=>.cons (f _ _ r) (Paired.mapP t f)
def BO.stay(x:BO P w H h a o)(k:∀ b u,(b=a\/H b=some (.own a))->h.get? b=some u->h'.get? b=some u)
  (ho:∀ b,H b=some (.own a)->H' b=some (.own a)) (ht:∀ b xs,H b=some (.tup xs)->H' b=some (.tup xs)):BO P w H' h' a o:=by
 induction o with
 | lst xs=>obtain⟨z,its,n,r,e⟩:=x;exact⟨z,its,n,r,k _ _ (.inl rfl) e⟩
 | tup xs=>obtain⟨z,its,r,ob,e,c⟩:=x;exact⟨z,its,r,ob,k _ _ (.inl rfl) e,c⟩
 | dK kvs=>obtain⟨z,y,vs,r,ob,es,ep,e,c⟩:=x;exact⟨z,y,vs,r,ob,es,ep,k _ _ (.inl rfl) e,c⟩
 | dT kvs =>
  obtain⟨z,y,xs,r,ob,es,ep,e,c⟩:=x;exact⟨z,y,xs,Paired.mapP r λp q z=>⟨z.1,ht _ _ z.2.1,z.2.2⟩,ob,es,ep,k _ _ (.inl rfl) e,c⟩
 | set S n=>obtain⟨ob,es,ep,t,e,c⟩:=x;exact⟨ob,es,ep,t,k _ _ (.inl rfl) e,c⟩
 | ins C dx fs =>
  obtain⟨d,z,ne,e,mA,⟨od,es,ep,e2,c⟩,r⟩:=x;exact⟨ho _ d,z,ne,k _ _ (.inl rfl) e,mA,⟨od,es,ep,k _ _ (.inr d) e2,c⟩,r⟩
 | own y=>obtain⟨ob,e⟩:=x;exact⟨ob,k _ _ (.inl rfl) e⟩
 | xd fs=>obtain⟨mA,⟨od,es,ep,e,c⟩,r⟩:=x;exact⟨mA,⟨od,es,ep,k _ _ (.inl rfl) e,c⟩,r⟩
 | rng lo hi=>obtain⟨t,u,v,e⟩:=x;exact⟨t,u,v,k _ _ (.inl rfl) e⟩
 | frz ob u ih=>obtain⟨e,q⟩:=x;exact⟨k _ _ (.inl rfl) e,ih q⟩
 | tbl ps =>
  have e:h.get? a=some {cls:=.none,data:=.fields ps}:=x;show h'.get? a=some {cls:=.none,data:=.fields ps};exact k a _ (.inl rfl) e
 | met f y =>
  have e:h.get? a=some (W.methodObj (.ref f) (.ref y)):=x;show h'.get? a=some (W.methodObj (.ref f) (.ref y));exact k a _ (.inl rfl) e
 | ext φ=>obtain⟨p,⟨o,e⟩,st⟩:=x;exact⟨st _ _ p λo q=>k _ _ (.inl rfl) q,⟨o,k _ _ (.inl rfl) e⟩,st⟩
theorem Bf.lt(x:Bf P w H h)(e:H a=some o):a<h.objs.size:=(x a o e).lt
def Bf.fresh(x:Bf P w H h)(e:h.objs.size<=a):H a=none:=by
 cases q:H a with
 | none=>rfl
 | some u=>exact absurd (Yp (x.lt q) e) (IF _)
def Bf.kept(x:Bf P w H h)(k:∀ b u,h.get? b=some u->h'.get? b=some u):Bf P w H h':=λa o e =>
 (x a o e).stay (λb u _ q=>k b u q) (λ_ q=>q) λ_ _ q=>q
def Bf.laid(x:Bf P w H h)(k:∀ b u,h.get? b=some u->h'.get? b=some u)(hp:h.objs.size<=a)(new:BO P w (upd H a o) h' a o):Bf P w (upd H a o) h':=λb u e=>by
 have hn:=x.fresh hp;by_cases hb:b=a
 ·subst hb;rw[uS]at e;cases e;exact new
 ·rw[AD hb]at e;exact(x b u e).stay (λc v _ q=>k c v q) (λc q=>by rw[AD (AH q hn)];exact q) λc xs q=>by rw[AD (AH q hn)];exact q
end
def Rd(H:Hp)(a:Addr)(u:HO):Prop:=H a=some u\/∃ o,H a=some (.frz o u)
def Rd.ok{P:Program}{w:World}{H:Hp}{h:Heap}{a:Addr}{u:HO}(r:Rd H a u)(x:Bf P w H h):BO P w H h a u:=by
 rcases r with r | ⟨o,r⟩
 ·exact x a u r
 ·obtain⟨_,q⟩:=x a _ r;exact q
def QV:Option HO->Prop
 | some (.lst _)=>True
 | some (.dK _)=>True
 | some (.dT _)=>True
 | some (.set _ _)=>True
 | some (.ins _ _ _)=>True
 | some (.ext _)=>True
 | _=>False
section
variable {P:Program}{w:World}{H:Hp}{h h':Heap}{x e:Addr}{o':HO}
def Bf.write(ok:Bf P w H h)(mu:QV (H x))(he:e=x\/H e=some (.own x))(k:∀ b u,b≠e->h.get? b=some u->h'.get? b=some u)(heo:∃ u,h'.get? e=some u)
  (new:BO P w (upd H x o') h' x o'):Bf P w (upd H x o') h':=λb u q=>by
 have nown:∀ c y,H c=some (.own y)->c≠x:=λc y r z=>by subst z;rw[r]at mu;exact mu
 have ntup:∀ c xs,H c=some (.tup xs)->c≠x:=λc xs r z=>by subst z;rw[r]at mu;exact mu
 by_cases hb:b=x
 ·subst hb;rw[uS]at q;cases q;exact new
 ·rw[AD hb]at q;by_cases hbe:b=e
  ·have q':H b=some (.own x):=by
    rcases he with z | z
    ·exact absurd (hbe.trans z) hb
    ·rw[hbe];exact z
   rw[q]at q';cases q';obtain⟨v,hv⟩:=heo;exact⟨v,by rw[hbe];exact hv⟩
  ·refine(ok b u q).stay (λc v hc r=>k c v ?_ r) (λc r=>by rw[AD (nown c b r)];exact r) λc xs r=>by rw[AD (ntup c xs r)];exact r
   rcases hc with rfl | hc
   ·exact hbe
   ·rintro rfl
    rcases he with z | z
    ·exact nown c b hc z
    ·rw[hc]at z;cases z;exact hb rfl
end
structure Un(fs ex:List Addr)(H H':Hp)(h h':Heap):Prop where
 keep:∀ b o,h.get? b=some o->H b=none->b∉fs->b∉ex->h'.get? b=some o
 slot:∀ b o,h.get? b=some o->H b=none->b∈fs->b∉ex->∃ sl,h'.get? b=some {o with slots:=sl}
 free:∀ b o,h.get? b=some o->H b=none->b∉ex->H' b=none
 there:∀ b o,h.get? b=some o->b∉ex->∃ o',h'.get? b=some o'
 tups:∀ b xs,H b=some (.tup xs)->H' b=some (.tup xs)
 frzs:∀ b o u,H b=some (.frz o u)->H' b=some (.frz o u)
 tbls:∀ b ps,H b=some (.tbl ps)->∃ more,H' b=some (.tbl (ps++more))
section
variable {fs Bx ex Ow:List Addr}{H H1 H2:Hp}{h h1 h2 h':Heap}{a x e:Addr}{o:HO}
def Un.any(u:Un fs ex H H1 h h1){b:Addr}{ob:Obj}(q:h.get? b=some ob)(n:H b=none)(hx:b∉ex):∃ sl,h1.get? b=some {ob with slots:=sl}:=by
 by_cases hb:b∈fs
 ·exact u.slot b ob q n hb hx
 ·exact⟨ob.slots,u.keep b ob q n hb hx⟩
def Un.kept(k:∀ b u,h.get? b=some u->h'.get? b=some u):Un fs ex H H h h' :=
 ⟨λb ob q _ _ _=>k b ob q,λb ob q _ _ _=>⟨ob.slots,k b ob q⟩,λ_ _ _ n _=>n,λb ob q _=>⟨ob,k b ob q⟩,λ_ _ q=>q,λ_ _ _ q=>q,λ_ ps q=>⟨#[],by rw[q];simp⟩⟩
def Un.refl:Un fs ex H H h h:=Un.kept λ_ _ q=>q
def Un.laid(k:∀ b u,h.get? b=some u->h'.get? b=some u)(hp:h.objs.size<=a)(hn:H a=none):Un fs ex H (upd H a o) h h' where
 keep:=λb u q _ _ _=>k b u q
 slot:=λb u q _ _ _=>⟨u.slots,k b u q⟩
 free:=λb u q n _=>by rw[AD (A8 (Yp (Yl q) hp))];exact n
 there:=λb u q _=>⟨u,k b u q⟩
 tups:=λb xs q=>by rw[AD (AH q hn)];exact q
 frzs:=λb u xs q=>by rw[AD (AH q hn)];exact q
 tbls:=λb ps q=>⟨#[],by rw[AD (AH q hn),q];simp⟩
def Un.write(mu:QV (H x))(he:e=x\/H e=some (.own x))(k:∀ b u,b≠e->h.get? b=some u->h'.get? b=some u)(heo:∃ u,h'.get? e=some u):Un fs ex H (upd H x o) h h':=by
 have hx:∀ b,H b=none->b≠x:=λb n z=>by subst z;rw[n]at mu;exact mu
 have hb:∀ b,H b=none->b≠e:=λb n z=>by
  subst z
  rcases he with r | r
  ·exact hx b n r
  ·rw[n]at r;cases r
 have hm:∀ b u,H b=some u->¬ QV (some u)->b≠x:=λb u q nm z=>by subst z;rw[q]at mu;exact nm mu
 refine⟨λb u q n _ _=>k b u (hb b n) q,λb u q n _ _=>⟨u.slots,k b u (hb b n) q⟩,λb u q n _=>by rw[AD (hx b n)];exact n,λb u q _=>?_,
  λb xs q=>by rw[AD (hm b _ q λz=>z)];exact q,λb u xs q=>by rw[AD (hm b _ q λz=>z)];exact q,λb ps q=>⟨#[],by rw[AD (hm b _ q λz=>z),q];simp⟩⟩
 by_cases hbe:b=e
 ·subst hbe;exact heo
 ·exact⟨u,k b u hbe q⟩
end
def RO(h:Heap)(H:Hp):List Addr:=(List.range h.objs.size).filter λa=>(H a).isSome
def Hr(h:Heap)(H:Hp):Heap:=W.hideAll h (RO h H)
def m5(h:Heap)(H:Hp):(Hr h H).objs.size=h.objs.size:=W.hideAll_size _ _
def ly{h:Heap}{H:Hp}{b:Addr}{o:Obj}(e:h.get? b=some o)(n:H b=none):(Hr h H).get? b=some o :=
 W.hideAll_get _ e λhm=>by
  have q:(H b).isSome=true:=(Yu.mp hm).2;rw[n]at q;simp at q
def uW{h:Heap}{H:Hp}{b:Addr}{o:Obj}(e:(Hr h H).get? b=some o):h.get? b=some o/\H b=none:=by
 have e':h.get? b=some o:=W.of_hideAll (RO h H) e;refine⟨e',?_⟩;cases q:H b with
 | none=>rfl
 | some x =>
  have hm:b∈RO h H:=Yu.mpr ⟨Bp.mpr (Yl e'),by simp[q]⟩;have z:(Hr h H).get? b=none:=W.hideAll_none (RO h H) hm;rw[z]at e;cases e
def t5(g h:Heap)(L:Addr):PL:=(List.range h.objs.size).filterMap λa=>if a=L\/(g.get? a).isSome=true then none else(h.get? a).map λo=>(a,o)
def E9(g h:Heap)(L d:Addr):PL:=(t5 g h L).filter λp=>decide (p.1≠d)
structure Mod(K:Fg)(mg:Str->OU)(base:Heap):Prop where
 kin:K.In base
 glob:base.Ns mainGlobals mg
 blt:∃ mb,base.Ns builtinsNs mb/\∀ x:Str,x≠"__name__"->mb x=bootBuiltins x
 nolimit:base.NoLimit
structure Cx where
 prog:Program
 w:World
 K:Fg
 mg:Str->OU
 base:Heap
 A:Around
 N:LS
 s₀:Shared
 H₀:Hp
 env:Env
 outer:List Env
 stack:List Env
 ex:List Addr
 fn:Str->Bool
 calm:Bool
 pn:PL
 xe:EV
def F3(l:List Env):List Addr:=l.filterMap (·.frame)
abbrev Cx.fs(X:Cx):List Addr:=F3 X.outer
def QS(sc:Scope)(x:Str):Prop:=sc.names.lookup x=some .local\/sc.names.lookup x=some .cell\/sc.names.lookup x=some .free
def Loc(sc:Scope)(x:Str):Prop:=sc.names.lookup x=some .local\/sc.names.lookup x=some .cell
def vY(env:Env)(h:Heap)(m:Str->OU)(x:Str)(u:Value):Prop :=
 (env.kindOf x=some .local/\m x=some u)\/((env.kindOf x=some .cell\/env.kindOf x=some .free)/\∃ c,env.cells.lookup x=some c/\h.IsCell c (some u))
structure Cx.Ok(X:Cx):Prop where
 mod:Mod X.K X.mg X.base
 kind:X.env.scope.kind=.function
 glob:X.env.globals=mainGlobals
 blt:X.env.builtins=builtinsNs
 above:X.s₀.heap.objs.size<=X.env.locals
 inj:∀ x y c,X.env.cells.lookup x=some c->X.env.cells.lookup y=some c->x=y
 has:∀ x,(X.env.kindOf x=some .cell\/X.env.kindOf x=some .free)->∃ c,X.env.cells.lookup x=some c
 cab:∀ x c,X.fn x=true->X.env.cells.lookup x=some c->X.s₀.heap.objs.size<=c
 hd:X.calm=true->X.A.handled=none
 frames:X.A.frames=some X.stack
 stk:X.stack=X.outer\/(X.stack=X.env :: X.outer/\X.env.frame=some X.env.locals)
 exf:∀ b∈X.ex,b≠X.env.locals/\∀ x c,X.env.cells.lookup x=some c->c≠b
 bs:∀ b o,X.base.get? b=some o->X.s₀.heap.get? b=some o/\X.H₀ b=none
 bsz:X.base.objs.size<=X.s₀.heap.objs.size
 noex:∀ b o,X.base.get? b=some o->b∉X.ex
 exfs:∀ b∈X.ex,b∉X.fs
 funs:X.s₀.heap.FunFrames X.base X.outer
 frf:∀ b∈X.fs,X.H₀ b=none
structure Inv(X:Cx)(pins:PL)(σ:List (OV))(H:Hp)(s:Shared):Prop where
 ok:X.Ok
 os:s.os=X.s₀.os
 bare:AllBare s.gens
 base:Un X.fs X.ex X.H₀ H X.s₀.heap s.heap
 loc:∃ m,s.heap.Ns X.env.locals m/\∀(i:Nat) (x:Str) (v:V),X.N[i]?=some x->σ[i]?=some (some v)->QS X.env.scope x->∃ u,AX v u/\vY X.env s.heap m x u
 cell:∀ x c,X.env.cells.lookup x=some c->∃ v,s.heap.IsCell c v
 free:H X.env.locals=none
 freeC:∀ x c,X.env.cells.lookup x=some c->H c=none
 pin:∀ p∈X.pn++pins,s.heap.get? p.1=some p.2/\H p.1=none/\p.1≠X.env.locals/\p.1∉X.fs/\∀ v,p.2.data≠.cell v
 hok:Bf X.prog X.w H s.heap
 len:σ.length=X.N.length
section
variable {X:Cx}{pins:PL}{σ:List (OV)}{H H':Hp}{s:Shared}{h':Heap}
def Cx.Ok.nofr(ok:X.Ok){b:Addr}{o:Obj}(e:X.base.get? b=some o):b∉X.fs:=λhb=>by
 have:=(ok.funs.mem hb).1;rw[e]at this;cases this
theorem Inv.bs(I:Inv X pins σ H s):∀ b o,X.base.get? b=some o->s.heap.get? b=some o/\H b=none:=λb o e =>
 ⟨I.base.keep b o (I.ok.bs b o e).1 (I.ok.bs b o e).2 (I.ok.nofr e) (I.ok.noex b o e),I.base.free b o (I.ok.bs b o e).1 (I.ok.bs b o e).2 (I.ok.noex b o e)⟩
def Inv.bk(I:Inv X pins σ H s):∀ b o,X.base.get? b=some o->s.heap.get? b=some o:=λb o e=>(I.bs b o e).1
theorem Inv.mod(I:Inv X pins σ H s):Mod X.K X.mg X.base:=I.ok.mod
def Inv.kIn(I:Inv X pins σ H s):X.K.In s.heap:=I.ok.mod.kin.keeps I.bk
theorem Inv.nolimit(I:Inv X pins σ H s):s.heap.NoLimit:=I.ok.mod.nolimit.keeps I.bk
theorem Inv.lt(I:Inv X pins σ H s):X.env.locals<s.heap.objs.size:=let⟨_,hn,_⟩:=I.loc;hn.lt
def Inv.sz(I:Inv X pins σ H s):X.s₀.heap.objs.size<=s.heap.objs.size:=A7 I.ok.above (KZ I.lt)
def Inv.nofs(I:Inv X pins σ H s){a:Addr}(h:s.heap.objs.size<=a):a∉X.fs:=λhb=>by
 obtain⟨_,o,ho,_⟩:=I.ok.funs.mem hb;exact absurd (Yp (Yl ho) (A7 I.sz h)) (IF _)
def Inv.cne(I:Inv X pins σ H s):∀ x c,X.env.cells.lookup x=some c->c≠X.env.locals:=λx c e z=>by
 obtain⟨v,o,ho,hd⟩:=I.cell x c e;obtain⟨m,⟨o',es,ep,Ib,Ik,_⟩,_⟩:=I.loc;rw[z,Ib]at ho;cases ho;rw[Ik]at hd;cases hd
theorem Inv.funs(I:Inv X pins σ H s):s.heap.FunFrames X.base X.outer:=by
 have all:∀(l:List Env),(∀ b∈F3 l,b∈X.fs)->X.s₀.heap.FunFrames X.base l->s.heap.FunFrames X.base l:=by
  intro l
  induction l with
  | nil=>intro _ _;trivial
  | cons env r ih =>
   intro hs hl;obtain⟨hk,⟨L,o,hf,hn,ho,hd⟩,hr⟩:=hl;have hL:L∈X.fs:=hs L (by unfold F3;rw[List.filterMap_cons,hf];exact Ma);obtain⟨sl,e⟩:=I.base.slot L o ho (I.ok.frf L hL) hL λz=>I.ok.exfs L z hL;exact⟨hk,⟨L,_,hf,hn,e,hd⟩,ih (λb hb=>hs b (by unfold F3;rw[List.filterMap_cons,hf];exact FH _ hb)) hr⟩
 exact all X.outer (λ_ hb=>hb) I.ok.funs
theorem Inv.stack(I:Inv X pins σ H s):s.heap.FunFrames X.base X.stack:=by
 rcases I.ok.stk with e | ⟨e,hf⟩
 ·rw[e];exact I.funs
 ·rw[e];obtain⟨m,hn,_⟩:=I.loc;refine .cons (by rw[I.ok.kind];decide) hf hn ?_ I.funs;exact Heap.get?_none_of_le (A7 I.ok.bsz I.ok.above)
def Inv.stkSub(I:Inv X pins σ H s):∀ b∈F3 X.stack,b∈X.env.locals :: X.fs:=λb hb=>by
 rcases I.ok.stk with e | ⟨e,hf⟩
 ·rw[e]at hb;exact FH _ hb
 ·rw[e]at hb;unfold F3 at hb;rw[List.filterMap_cons,hf]at hb;exact hb
def Inv.stkFree(I:Inv X pins σ H s):∀ b∈F3 X.stack,H b=none:=λb hb=>by
 rcases Yw.mp (I.stkSub b hb)with e | hb
 ·rw[e];exact I.free
 ·obtain⟨_,o,ho,_⟩:=I.ok.funs.mem hb;exact I.base.free b o ho (I.ok.frf b hb) λz=>I.ok.exfs b z hb
def Inv.step{g':Array GenState}{t':Nat}{d':Drawn}{ch:List Addr}(I:Inv X pins σ H s)
  (hch:∀ b∈ch,(b∈X.ex\/X.s₀.heap.objs.size<=b)/\b≠X.env.locals/\(∀ x c,X.env.cells.lookup x=some c->c≠b)/\∀ p∈X.pn++pins,p.1≠b)
  (keep:∀ b o,b≠X.env.locals->b∉X.fs->b∉ch->s.heap.get? b=some o->H b=none->h'.get? b=some o)
  (slot:∀ b o,b≠X.env.locals->b∈X.fs->b∉ch->s.heap.get? b=some o->H b=none->∃ sl,h'.get? b=some {o with slots:=sl}) (free:∀ b o,b∉ch->s.heap.get? b=some o->H b=none->H' b=none)
  (there:∀ b o,b∉ch->s.heap.get? b=some o->∃ o',h'.get? b=some o')
  (tups:∀ b xs,H b=some (.tup xs)->H' b=some (.tup xs)) (frzs:∀ b o u,H b=some (.frz o u)->H' b=some (.frz o u)) (tbls:∀ b ps,H b=some (.tbl ps)->∃ more,H' b=some (.tbl (ps++more)))
  (ns:∀ m,s.heap.Ns X.env.locals m->h'.Ns X.env.locals m) (hok:Bf X.prog X.w H' h') (hg:AllBare g'):
  Inv X pins σ H' {s with heap:=h',gens:=g',drawn:=d',toks:=t' }:=by
 have neL:∀ b o,X.s₀.heap.get? b=some o->b≠X.env.locals:=λb o e=>A8 (Yp (Yl e) I.ok.above);have neC:∀ b o,X.s₀.heap.get? b=some o->b∉X.ex->b∉ch:=λb o e hx hb=>by
  rcases(hch b hb).1 with z | z
  ·exact hx z
  ·exact absurd (Yp (Yl e) z) (IF _)
 have cellK:∀ x c,X.env.cells.lookup x=some c->∀ v,s.heap.IsCell c v->h'.IsCell c v:=λx c e v ⟨o,ho,hd⟩=>by
  have nch:c∉ch:=λz=>(hch c z).2.2.1 x c e rfl;by_cases hc:c∈X.fs
  ·obtain⟨sl,q⟩:=slot c o (I.cne x c e) hc nch ho (I.freeC x c e);exact⟨_,q,hd⟩
  ·exact⟨o,keep c o (I.cne x c e) hc nch ho (I.freeC x c e),hd⟩
 refine⟨I.ok,I.os,hg,⟨λb o e n hb hx=>?_,λb o e n hb hx=>?_,λb o e n hx=>?_,λb o e hx=>?_,λb xs e=>tups b xs (I.base.tups b xs e),λb o xs e=>frzs b o xs (I.base.frzs b o xs e),λb ps e=>?_⟩,?_,λx c e=>?_,?_,λx c e=>?_,λp hp=>?_,hok,I.len⟩
 ·exact keep b o (neL b o e) hb (neC b o e hx) (I.base.keep b o e n hb hx) (I.base.free b o e n hx)
 ·obtain⟨sl,e1⟩:=I.base.slot b o e n hb hx;obtain⟨jA,e2⟩:=slot b _ (neL b o e) hb (neC b o e hx) e1 (I.base.free b o e n hx);exact⟨jA,e2⟩
 ·obtain⟨o',e1⟩:=I.base.there b o e hx;exact free b o' (neC b o e hx) e1 (I.base.free b o e n hx)
 ·obtain⟨o',e1⟩:=I.base.there b o e hx;exact there b o' (neC b o e hx) e1
 ·obtain⟨m1,e1⟩:=I.base.tbls b ps e;obtain⟨m2,e2⟩:=tbls b _ e1;exact⟨m1++m2,by rw[e2,Array.append_assoc]⟩
 ·obtain⟨m,hn,hl⟩:=I.loc;refine⟨m,ns m hn,λi x v e1 e2 e3=>?_⟩;obtain⟨u,r,l⟩:=hl i x v e1 e2 e3;refine⟨u,r,?_⟩
  rcases l with l | ⟨k,c,e,z⟩
  ·exact .inl l
  ·exact .inr ⟨k,c,e,cellK x c e _ z⟩
 ·obtain⟨v,z⟩:=I.cell x c e;exact⟨v,cellK x c e v z⟩
 ·obtain⟨m,⟨o,_,_,ho,_⟩,_⟩:=I.loc;exact free _ o (λz=>(hch _ z).2.1 rfl) ho I.free
 ·obtain⟨v,o,ho,hd⟩:=I.cell x c e;exact free c o (λz=>(hch c z).2.2.1 x c e rfl) ho (I.freeC x c e)
 ·obtain⟨e,n,ne,nf,d⟩:=I.pin p hp;have nch:p.1∉ch:=λz=>(hch p.1 z).2.2.2 p hp rfl;exact⟨keep p.1 p.2 ne nf nch e n,free p.1 p.2 nch e n,ne,nf,d⟩
def Inv.un{t':Nat}(I:Inv X pins σ H s)(u:Un X.fs [] H H' s.heap h')(hok:Bf X.prog X.w H' h'):Inv X pins σ H' {s with heap:=h',toks:=t' }:=by
 obtain⟨m,⟨o,es,ep,ho,r⟩,_⟩:=id I.loc;obtain⟨sl,hL⟩:=u.any ho I.free (by simp);exact I.step (g':=s.gens) (d':=s.drawn) (ch:=[]) (λ_ z=>nomatch z) (λb o _ hb _ e n=>u.keep b o e n hb (by simp)) (λb o _ hb _ e n=>u.slot b o e n hb (by simp)) (λb o _ e n=>u.free b o e n (by simp)) (λb o _ e=>u.there b o e (by simp)) u.tups u.frzs u.tbls (λm' hm=>by
  obtain⟨o',NI,NK,Ib,r'⟩:=hm;rw[ho]at Ib;cases Ib;exact⟨_,NI,NK,hL,r'⟩) hok I.bare
def Inv.call{g':Array GenState}{t':Nat}{d':Drawn}{ch:List Addr}(I:Inv X pins σ H s)(u:Un (F3 X.stack) ch H H' s.heap h')(hok:Bf X.prog X.w H' h')(hg:AllBare g')
  (hch:∀ b∈ch,(b∈X.ex\/X.s₀.heap.objs.size<=b)/\b≠X.env.locals/\(∀ x c,X.env.cells.lookup x=some c->c≠b)/\∀ p∈X.pn++pins,p.1≠b):
  Inv X pins σ H' {s with heap:=h',gens:=g',drawn:=d',toks:=t' }:=by
 obtain⟨m,⟨o,es,ep,ho,r⟩,_⟩:=id I.loc;obtain⟨sl,hL⟩:=u.any ho I.free λz=>(hch _ z).2.1 rfl;exact I.step (ch:=ch) hch (λb o hL hb hc e n=>u.keep b o e n (λz=>(Yw.mp (I.stkSub b z)).elim hL hb) hc) (λb o _ _ hc e n=>u.any e n hc) (λb o hc e n=>u.free b o e n hc) (λb o hc e=>u.there b o e hc) u.tups u.frzs u.tbls (λm' hm=>by
  obtain⟨o',NI,NK,Ib,r'⟩:=hm;rw[ho]at Ib;cases Ib;exact⟨_,NI,NK,hL,r'⟩) hok hg
def Inv.turned{t':Nat}{it:Addr}(I:Inv X pins σ H s)(k:∀ b o,b≠it->s.heap.get? b=some o->h'.get? b=some o)(hn:H it=none)(hL:it≠X.env.locals)
  (h1:it∈X.ex\/X.s₀.heap.objs.size<=it) (h2:∀ x c,X.env.cells.lookup x=some c->c≠it) (h3:∀ p∈X.pn++pins,p.1≠it):Inv X pins σ H {s with heap:=h',toks:=t' }:=by
 have nit:∀ b u,H b=some u->b≠it:=λb u e z=>by rw[z,hn]at e;cases e
 refine I.step (g':=s.gens) (d':=s.drawn) (ch:=[it]) (λb hb=>?_) (λb o _ _ hc e _=>k b o (λz=>hc (by simp[z])) e) (λb o _ _ hc e _=>⟨o.slots,k b o (λz=>hc (by simp[z])) e⟩) (λ_ _ _ _ n=>n)
  (λb o hc e=>⟨o,k b o (λz=>hc (by simp[z])) e⟩) (λ_ _ e=>e) (λ_ _ _ e=>e) (λb ps e=>⟨#[],by rw[e];simp⟩) (λm hm=>?_) (λb u e=>?_) I.bare
 ·have e:b=it:=by simpa using hb
  subst e;exact⟨h1,hL,h2,h3⟩
 ·obtain⟨o,es,ep,ho,r⟩:=hm;exact⟨o,es,ep,k _ o (Yr hL) ho,r⟩
 ·refine(I.hok b u e).stay (λc v hc q=>k c v ?_ q) (λ_ q=>q) λ_ _ q=>q
  rcases hc with z | z
  ·rw[z];exact nit b u e
  ·exact nit c _ z
def Inv.tok(I:Inv X pins σ H s)(t:Nat):Inv X pins σ H {s with toks:=t}:=I.un (h':=s.heap) (t':=t) Un.refl I.hok
theorem Inv.kept{t':Nat}(I:Inv X pins σ H s)(k:∀ b u,s.heap.get? b=some u->h'.get? b=some u):Inv X pins σ H {s with heap:=h',toks:=t' }:=I.un (Un.kept k) (I.hok.kept k)
theorem Inv.laid{a:Addr}{o:HO}{t':Nat}(I:Inv X pins σ H s)(k:∀ b u,s.heap.get? b=some u->h'.get? b=some u)(hp:s.heap.objs.size<=a)(new:BO X.prog X.w (upd H a o) h' a o):
  Inv X pins σ (upd H a o) {s with heap:=h',toks:=t' }:=I.un (Un.laid k hp (I.hok.fresh hp)) (I.hok.laid k hp new)
theorem Inv.write{x e:Addr}{o:HO}{t':Nat}(I:Inv X pins σ H s)(mu:QV (H x))(he:e=x\/H e=some (.own x))(k:∀ b u,b≠e->s.heap.get? b=some u->h'.get? b=some u)(heo:∃ u,h'.get? e=some u)
  (new:BO X.prog X.w (upd H x o) h' x o):Inv X pins σ (upd H x o) {s with heap:=h',toks:=t' }:=I.un (Un.write mu he k heo) (I.hok.write mu he k heo new)
def Inv.pins_of{Bh:PL}(I:Inv X pins σ H s)(h:∀ p∈Bh,s.heap.get? p.1=some p.2/\H p.1=none/\p.1≠X.env.locals/\p.1∉X.fs/\∀ v,p.2.data≠.cell v):Inv X Bh σ H s :=
 ⟨I.ok,I.os,I.bare,I.base,I.loc,I.cell,I.free,I.freeC,λp hp=>(Yv.mp hp).elim (λz=>I.pin p (Km _ z)) (h p),I.hok,I.len⟩
def Nk{N:LS}(hN:N.Nodup){i j:Nat}{x:Str}(a:N[i]?=some x)(b:N[j]?=some x):i=j:=by
 obtain⟨h1,e1⟩:=Ye.mp a;obtain⟨h2,e2⟩:=Ye.mp b;exact(List.getElem_inj hN).mp (e1.trans e2.symm)
def Vy{M:Model}{A:Around}{E:EV}{i:Nat}{x:Str}{v:V}{u:Value}{Q:Unit->Shared->Prop}(I:Inv X pins σ H s)(hN:X.N.Nodup)(hi:X.N[i]?=some x)(hx:Loc X.env.scope x)(r:AX v u)
  (h:∀ s',Inv X pins (σ.set i (some v)) H s'->(∃ a,Heap.SameBut a s.heap s'.heap/\(a=X.env.locals\/X.env.cells.lookup x=some a))->Q () s') (hf:X.fn x=true\/X.env.scope.names.lookup x=some .local:=by first | exact .inl rfl | exact .inr rfl | assumption):wpAny M A (storeName X.env x u) Q E s:=by
 obtain⟨m,hn,hl⟩:=id I.loc;have hcls:(X.env.scope.kind == .class || (X.env.scope.kind == .module&&X.env.locals != X.env.globals))=false:=by rw[I.ok.kind];rfl
 have hiσ:i<σ.length:=by rw[I.len];exact(Ye.mp hi).1
 have cne:=I.cne;have tracked:∀ {a:Addr} {h':Heap},(∃ o,s.heap.get? a=some o/\H a=none)->Heap.SameBut a s.heap h'->Bf X.prog X.w H h':=λ{a h'} ha hs b ob e=>by
  obtain⟨_,_,As⟩:=ha;refine(I.hok b ob e).stay (λc w' hc q=>(hs.2 c ?_).trans q) (λ_ q=>q) λ_ _ q=>q;rintro rfl
  rcases hc with rfl | hc
  ·rw[As]at e;cases e
  ·rw[As]at hc;cases hc
 rcases hx with hk | hk
 ·refine wpAny_storeName_local hk hn (λh' j5 hs=>?_) hcls;obtain⟨oL,_,_,hoL,_⟩:=id hn;refine h _ ⟨I.ok,I.os,I.bare,⟨λb o e n hb hx=>?_,λb o e n hb hx=>?_,I.base.free,λb o e hx=>?_,I.base.tups,I.base.frzs,I.base.tbls⟩,⟨_,j5,λj y v' e1 e2 e3=>?_⟩,λy c e=>?_,I.free,I.freeC,λp hp=>?_,tracked ⟨oL,hoL,I.free⟩ hs,by simpa using I.len⟩ ⟨_,hs,.inl rfl⟩
  ·exact(hs.2 b (A8 (Yp (Yl e) I.ok.above))).trans (I.base.keep b o e n hb hx)
  ·obtain⟨sl,e1⟩:=I.base.slot b o e n hb hx;exact⟨sl,(hs.2 b (A8 (Yp (Yl e) I.ok.above))).trans e1⟩
  ·obtain⟨o',e1⟩:=I.base.there b o e hx;exact⟨o',(hs.2 b (A8 (Yp (Yl e) I.ok.above))).trans e1⟩
  ·by_cases hj:j=i
   ·subst hj;rw[hi]at e1;cases e1;rw[Tr hiσ]at e2;cases e2;exact⟨u,r,.inl ⟨hk,G⟩⟩
   ·rw[List.getElem?_set_ne (Yr hj)]at e2;obtain⟨u',r',q⟩:=hl j y v' e1 e2 e3;refine⟨u',r',?_⟩
    rcases q with⟨k,e⟩ | ⟨k,c,e,z⟩
    ·refine .inl ⟨k,?_⟩;have:y≠x:=λe=>hj (Nk hN e1 (e ▸ hi));simp[this,e]
    ·exact .inr ⟨k,c,e,z.sameBut hs (cne y c e)⟩
  ·obtain⟨w',z⟩:=I.cell y c e;exact⟨w',z.sameBut hs (cne y c e)⟩
  ·obtain⟨e,n,ne,nf,d⟩:=I.pin p hp;exact⟨(hs.2 p.1 ne).trans e,n,ne,nf,d⟩
 ·have hfn:X.fn x=true:=by
   rcases hf with z | z
   ·exact z
   ·rw[z]at hk;cases hk
  obtain⟨c,hc⟩:=I.ok.has x (.inl hk);obtain⟨w',z⟩:=I.cell x c hc;refine wpAny_storeName_cell I.ok.kind hk hc z (λh' BL hs=>?_);obtain⟨oc,hoc,hocd⟩:=id z;refine h {s with heap:=h' } ⟨I.ok,I.os,I.bare,⟨λb o e n hb hx=>?_,λb o e n hb hx=>?_,I.base.free,λb o e hx=>?_,I.base.tups,I.base.frzs,I.base.tbls⟩,⟨m,hn.sameBut hs (Yr (cne x c hc)),λj y v' e1 e2 e3=>?_⟩,λy c' e=>?_,I.free,I.freeC,λp hp=>?_,tracked ⟨oc,hoc,I.freeC x c hc⟩ hs,by simpa using I.len⟩ ⟨c,hs,.inr hc⟩
  ·exact(hs.2 b (A8 (Yp (Yl e) (I.ok.cab x c hfn hc)))).trans (I.base.keep b o e n hb hx)
  ·obtain⟨sl,e1⟩:=I.base.slot b o e n hb hx;exact⟨sl,(hs.2 b (A8 (Yp (Yl e) (I.ok.cab x c hfn hc)))).trans e1⟩
  ·obtain⟨o',e1⟩:=I.base.there b o e hx;exact⟨o',(hs.2 b (A8 (Yp (Yl e) (I.ok.cab x c hfn hc)))).trans e1⟩
  ·by_cases hj:j=i
   ·subst hj;rw[hi]at e1;cases e1;rw[Tr hiσ]at e2;cases e2;exact⟨u,r,.inr ⟨.inl hk,c,hc,BL⟩⟩
   ·rw[List.getElem?_set_ne (Yr hj)]at e2;obtain⟨u',r',q⟩:=hl j y v' e1 e2 e3;refine⟨u',r',?_⟩
    rcases q with q | ⟨k,c',e,z'⟩
    ·exact .inl q
    ·refine .inr ⟨k,c',e,z'.sameBut hs ?_⟩;rintro rfl;exact hj (Nk hN e1 (I.ok.inj _ _ _ e hc ▸ hi))
  ·by_cases hcc:c'=c
   ·subst hcc;exact⟨_,BL⟩
   ·obtain⟨w2,z2⟩:=I.cell y c' e;exact⟨w2,z2.sameBut hs hcc⟩
  ·obtain⟨e,n,ne,nf,d⟩:=I.pin p hp;refine⟨(hs.2 p.1 ?_).trans e,n,ne,nf,d⟩;intro q;rw[q,hoc]at e;have q':oc=p.2:=Ba e;exact d w' (by rw[<- q'];exact hocd)
def ai{M:Model}{A:Around}{E:EV}{i:Nat}{x:Str}{v:V}{u:Value}{Q:Unit->Shared->Prop}(I:Inv X pins σ H s)(hN:X.N.Nodup)(hi:X.N[i]?=some x)(hx:Loc X.env.scope x)(r:AX v u)
  (h:∀ s',Inv X pins (σ.set i (some v)) H s'->Q () s') (hf:X.fn x=true\/X.env.scope.names.lookup x=some .local:=by first | exact .inl rfl | exact .inr rfl | assumption):wpAny M A (storeName X.env x u) Q E s :=
 Vy I hN hi hx r (λs' I' _=>h s' I') hf
def Inv.call'{s':Shared}{ch:List Addr}(I:Inv X pins σ H s)(ho:s'.os=s.os)(u:Un (F3 X.stack) ch H H' s.heap s'.heap)(hok:Bf X.prog X.w H' s'.heap)(hg:AllBare s'.gens)
  (hch:∀ b∈ch,(b∈X.ex\/X.s₀.heap.objs.size<=b)/\b≠X.env.locals/\(∀ x c,X.env.cells.lookup x=some c->c≠b)/\∀ p∈X.pn++pins,p.1≠b):Inv X pins σ H' s':=by
 obtain⟨h',g',d',t',o'⟩:=s';have e:o'=s.os:=ho;subst e;exact I.call (g':=g') (t':=t') (d':=d') u hok hg hch
end
abbrev XK:=Value->Option Addr->Hp->Prop
abbrev St:=List (OV)
abbrev VK:=V->Hp->Prop
abbrev _root_.SW:=St->Hp->Prop
abbrev _root_.NW:=Nat->St->Hp->Prop
abbrev TE:=St->Hp->VK->Prop
abbrev TT:=St->Hp->(Bool->Hp->Prop)->Prop
abbrev TA:=St->Hp->(LV->Hp->Prop)->Prop
structure JH where
 nx:SW
 rt:VK
 bk:SW:=λ_ _=>False
 ct:SW:=λ_ _=>False
abbrev TS:=JH->St->Hp->Prop
def EP(X:Cx)(pins:PL)(σ:St)(Q:VK)(u:Value)(s':Shared):Prop:=∃ v H',Inv X pins σ H' s'/\AX v u/\Q v H'
def TP(X:Cx)(pins:PL)(σ:St)(Q:Bool->Hp->Prop)(b:Bool)(s':Shared):Prop:=∃ H',Inv X pins σ H' s'/\Q b H'
def AP(X:Cx)(pins:PL)(σ:St)(Q:LV->Hp->Prop)(us:LU)(s':Shared):Prop:=∃ vs H',Inv X pins σ H' s'/\AQ vs us/\Q vs H'
def SP(X:Cx)(pins:PL)(D:JH)(f:Flow)(s':Shared):Prop :=
 match f with
 | .next=>∃ σ' H',Inv X pins σ' H' s'/\D.nx σ' H'
 | .brk=>∃ σ' H',Inv X pins σ' H' s'/\D.bk σ' H'
 | .cont=>∃ σ' H',Inv X pins σ' H' s'/\D.ct σ' H'
 | .ret u=>∃ v σ' H',Inv X pins σ' H' s'/\AX v u/\D.rt v H'
def PE(X:Cx)(e:Expr)(t:TE):Prop :=
 ∀(pins:PL) (s:Shared) (σ:St) (H:Hp) (Q:VK),Inv X pins σ H s->t σ H Q->wpAny (model X.prog X.w) X.A (eval e X.env) (EP X pins σ Q) X.xe s
def PT(X:Cx)(e:Expr)(t:TT):Prop :=
 ∀(pins:PL) (s:Shared) (σ:St) (H:Hp) (Q:Bool->Hp->Prop),Inv X pins σ H s->t σ H Q->wpAny (model X.prog X.w) X.A (isTrue e X.env (eval e X.env)) (TP X pins σ Q) X.xe s
def PW(X:Cx)(e:Expr)(t:TT):Prop :=
 ∀(whole:Sem Value) (pins:PL) (s:Shared) (σ:St) (H:Hp) (Q:Bool->Hp->Prop),Inv X pins σ H s->t σ H Q->wpAny (model X.prog X.w) X.A (isTrue e X.env whole) (TP X pins σ Q) X.xe s
def PW.pt{X:Cx}{e:Expr}{t:TT}(h:PW X e t):PT X e t:=h _
def PA(X:Cx)(es:List Expr)(t:TA):Prop :=
 ∀(pos:Pos) (pins:PL) (s:Shared) (σ:St) (H:Hp) (Q:LV->Hp->Prop),Inv X pins σ H s->t σ H Q->wpAny (model X.prog X.w) X.A (spliced (backTo pos (starEach es X.env))) (AP X pins σ Q) X.xe s
def PS(X:Cx)(st:Stmt)(t:TS):Prop :=
 ∀(pins:PL) (s:Shared) (σ:St) (H:Hp) (D:JH),Inv X pins σ H s->t D σ H->wpAny (model X.prog X.w) X.A (exec st X.env) (SP X pins D) X.xe s
def CF(X:Cx)(st:List Stmt)(t:TS):Prop :=
 ∀(pins:PL) (s:Shared) (σ:St) (H:Hp) (D:JH),Inv X pins σ H s->t D σ H->wpAny (model X.prog X.w) X.A (execs st X.env) (SP X pins D) X.xe s
def AM{α:Type}{t:Sem α}{Q Q':α->Shared->Prop}{M:Model}{A:Around}{E:EV}{s:Shared}(h:wpAny M A t Q E s)(hQ:∀ a s,Q a s->Q' a s):wpAny M A t Q' E s:=Jf h hQ λ_ _ x=>x
section
variable {X:Cx}
def Wa(i:Nat):TE:=λσ H Q=>∃ v,σ[i]?=some (some v)/\Q v H
def tC(v:V):TE:=λ_ H Q=>Q v H
def tV{i:Nat}{x:Str}{pos:Pos}(hN:X.N[i]?=some x)(hv:QS X.env.scope x)(hd:(x == ("__debug__":Str))=false:=by decide)(hcd:(x == ("__classdict__":Str))=false:=by decide):PE X (.Name x pos) (Wa i):=by
 ac_rfl;obtain⟨v,e,h⟩:=h;obtain⟨m,hn,hl⟩:=I.loc;obtain⟨u,r,l⟩:=hl i x v hN e hv;have fin:EP X pins σ Q u s:=⟨v,H,I,r,h⟩
 rcases l with⟨hk,hm⟩ | ⟨hk,c,hc,hcell⟩
 ·exact wpAny_Name (wpAny_loadName_local I.ok.kind hk hn hm fin) hd
 ·rcases hk with hk | hk
  ·exact wpAny_Name (wpAny_loadName_cell I.ok.kind hk hc hcell fin) hd
  ·exact wpAny_Name (wpAny_loadName_free I.ok.kind hk hc hcell fin hcd) hd
def AI{i j pos}:PE X (.Constant (.int i) j pos) (tC (.int i)):=λ_ _ _ H _ I h=>wpAny_Constant_int ⟨.int i,H,I.tok _,⟨Z⟩,h⟩
def CU{b j pos}:PE X (.Constant (.bool b) j pos) (tC (.bl b)):=λ_ _ _ H _ I h=>Constant_bool ⟨.bl b,H,I,Y,h⟩
def Na{j pos}:PE X (.Constant .none j pos) (tC .non):=λ_ _ _ H _ I h=>Constant_none ⟨.non,H,I,Y,h⟩
def EU{x j pos}:PE X (.Constant (.str x) j pos) (tC (.str x)):=λ_ _ _ H _ I h=>Calls.Constant_str ⟨.str x,H,I.tok _,⟨Z⟩,h⟩
def Gl(X:Cx)(x:Str):Prop:=X.env.kindOf x=some .globalImplicit
def VH{E:EV}{pins:PL}{s:Shared}{σ:St}{H:Hp}{x:Str}{u:Value}{pos:Pos}{Q:EV}(I:Inv X pins σ H s)(hg:Gl X x)(hm:X.mg x=some u)(h:Q u s)
  (hd:(x == ("__debug__":Str))=false:=by decide):wpAny (model X.prog X.w) X.A (eval (.Name x pos) X.env) Q E s :=
 Calls.Name_function_global I.ok.kind hg (Calls.loadGlobal_global (by rw[I.ok.glob];exact I.mod.glob.keeps I.bk) hm h) hd
def GQ{E:EV}{pins:PL}{s:Shared}{σ:St}{H:Hp}{x:Str}{u:Value}{pos:Pos}{Q:EV}(I:Inv X pins σ H s)(hg:Gl X x)(hm:X.mg x=none)(hv:bootBuiltins x=some u)(h:Q u s)
  (hn:x≠"__name__":=by decide) (hd:(x == ("__debug__":Str))=false:=by decide):wpAny (model X.prog X.w) X.A (eval (.Name x pos) X.env) Q E s:=by
 obtain⟨mb,h1,h2⟩:=I.mod.blt;exact Calls.Name_function_global I.ok.kind hg (Calls.loadGlobal_builtin (by rw[I.ok.glob];exact I.mod.glob.keeps I.bk) hm (by rw[I.ok.blt];exact h1.keeps I.bk) ((h2 x hn).trans hv) h) hd
def Ll{x:Str}{v:V}{u:Value}{pos:Pos}(hg:Gl X x)(hm:X.mg x=some u)(r:AX v u)(hd:(x == ("__debug__":Str))=false:=by decide):PE X (.Name x pos) (tC v):=
 λ_ _ _ H _ I h=>VH I hg hm ⟨v,H,I,r,h⟩ hd
def J8{x:Str}{v:V}{u:Value}{pos:Pos}(hg:Gl X x)(hm:X.mg x=none)(hv:bootBuiltins x=some u)(r:AX v u)(hn:x≠"__name__":=by decide)(hd:(x == ("__debug__":Str))=false:=by decide):PE X (.Name x pos) (tC v):=
 λ_ _ _ H _ I h=>GQ I hg hm hv ⟨v,H,I,r,h⟩ hn hd
variable {a b:Expr}{ta tb:TE}{pos:Pos}
def PC(X:Cx)(op:CmpOp)(a b:Expr)(t:TE):Prop :=
 ∀(pins:PL) (s:Shared) (σ:St) (H:Hp) (Q:VK),Inv X pins σ H s->t σ H Q ->
  wpAny (model X.prog X.w) X.A (eval a X.env) (λv s₁=>wpAny (model X.prog X.w) X.A (eval b X.env) (λu s₂=>wpAny (model X.prog X.w) X.A (compareOp op v u) (EP X pins σ Q) X.xe s₂) X.xe s₁) X.xe s
def aw(b:Expr){op:CmpOp}(h:op≠.In)(h2:op≠.NotIn):behindInMarks op b=false:=by
 have e1:(op == CmpOp.In)=false:=by cases op <;> first | rfl | exact absurd rfl h
 have e2:(op == CmpOp.NotIn)=false:=by cases op <;> first | rfl | exact absurd rfl h2
 cases b <;> simp[behindInMarks,e1,e2]
def r9(ta:TE):TE:=λσ H Q=>ta σ H λx H1=>Q (.bl (!decide (x=.non))) H1
def AX.none_iff{x:V}{v:Value}(r:AX x v):(v == Value.none)=decide (x=.non):=by
 cases x with
 | non=>cases r;rfl
 | bl _=>cases r;rfl
 | int _=>obtain⟨t,rfl⟩:=r;rfl
 | str _=>obtain⟨t,rfl⟩:=r;rfl
 | byt _=>obtain⟨t,rfl⟩:=r;rfl
 | flt _=>obtain⟨t,rfl⟩:=r;rfl
 | ref _=>cases r;rfl
 | ty _=>cases r;rfl
def Zh{j pos'}(ha:PE X a ta):PC X .IsNot a (.Constant .none j pos') (r9 ta):=by
 ac_rfl;refine AM (ha pins s σ H _ I h) λv s1 ⟨x,H1,I1,r1,q1⟩=>?_;exact Constant_none (isnot_none_gen ⟨.bl _,H1,I1,by rw[r1.none_iff];rfl,q1⟩)
def tB(t:TE):TT:=λσ H Q=>t σ H λx H1=>∃ c,x=.bl c/\Q c H1
def iR{op:CmpOp}{t:TE}(h:PC X op a b t)(h1:behindInMarks op b=false:=by first | exact aw _ (by decide) (by decide) | rfl):PE X (.Compare a [op] [b] pos) t:=λpins s σ H Q I hw=>wpAny_Compare1 (h pins s σ H Q I hw) h1
def Hy{op:CmpOp}{t:TE}(h:PC X op a b t)(h1:behindInMarks op b=false:=by first | exact aw _ (by decide) (by decide) | rfl):PT X (.Compare a [op] [b] pos) (tB t):=by
 intro pins s σ H Q I hw;refine wpAny_isTrue_Compare1 (AM (h pins s σ H _ I hw) λv s1 h1=>AM h1 λu s2 h2=>AM h2 λc s3 ⟨x,H1,I1,r1,q1⟩=>?_) h1;obtain⟨d,rfl,q⟩:=q1;cases r1;exact Jh ⟨H1,I1,q⟩
def B7{e:Expr}{t:TE}(h:PE X e t)(he:∀ whole,isTrue e X.env whole=(do let v <- whole;standAt e.pos;holding [v] (truthy v)):=by intro _;rfl):PT X e (tB t):=by
 intro pins s σ H Q I hw;refine isTrue_plain (AM (h pins s σ H _ I hw) λv s1 ⟨x,H1,I1,r1,q1⟩=>?_) (he _);obtain⟨d,rfl,q⟩:=q1;cases r1;exact Jh ⟨H1,I1,q⟩
variable {tA RU:TT}{E9:List Expr}
def wR(t u:TT):TT:=λσ H Q=>t σ H λc H1=>if c=true then u σ H1 Q else Q false H1
def i5(t u:TT):TT:=λσ H Q=>t σ H λc H1=>if c=true then Q true H1 else u σ H1 Q
def wZ(t:TT):TT:=λσ H Q=>t σ H λc H1=>Q (!c) H1
def Ln(ha:PT X a tA):PW X (.BoolOp .And [a] pos) tA:=by
 intro wh pins s σ H Q I h;refine isTrue_and (AM (ha pins s σ H Q I h) λc s1 e=>?_);cases c with
 | true=>exact isTrue_and_nil e
 | false=>exact e
def J3(ha:PT X a tA):PW X (.BoolOp .Or [a] pos) tA:=by
 intro wh pins s σ H Q I h;refine isTrue_or (AM (ha pins s σ H Q I h) λc s1 e=>?_);cases c with
 | false=>exact isTrue_or_nil e
 | true=>exact e
def Ld(ha:PT X a tA)(hb:PW X (.BoolOp .And (b :: E9) pos) RU):PW X (.BoolOp .And (a :: b :: E9) pos) (wR tA RU):=by
 intro wh pins s σ H Q I h;refine isTrue_and (AM (ha pins s σ H _ I h) λc s1 ⟨H1,I1,q1⟩=>?_);cases c with
 | true=>exact hb wh pins s1 σ H1 Q I1 q1
 | false=>exact⟨H1,I1,q1⟩
def Iu(ha:PT X a tA)(hb:PW X (.BoolOp .Or (b :: E9) pos) RU):PW X (.BoolOp .Or (a :: b :: E9) pos) (i5 tA RU):=by
 intro wh pins s σ H Q I h;refine isTrue_or (AM (ha pins s σ H _ I h) λc s1 ⟨H1,I1,q1⟩=>?_);cases c with
 | true=>exact⟨H1,I1,q1⟩
 | false=>exact hb wh pins s1 σ H1 Q I1 q1
def CV(ha:PT X a tA):PT X (.UnaryOp .Not a pos) (wZ tA):=by
 ac_rfl;exact isTrue_not (ha pins s σ H (λc H1=>Q (!c) H1) I h)
def rD(ta tb:TE):TE:=λσ H Q=>ta σ H λx H1=>∃ c,x=.bl c/\if c=true then tb σ H1 Q else Q (.bl false) H1
def r_(ta:TE):TE:=λσ H Q=>ta σ H λx H1=>∃ c,x=.bl c/\Q (.bl (!c)) H1
def Nb{op}{t:TE}(h:PE X a t):PE X (.BoolOp op [a] pos) t:=λpins s σ H Q I hw=>BoolOp_one (h pins s σ H Q I hw)
def NZ(ha:PE X a ta)(hb:PE X (.BoolOp .And (b :: E9) pos) tb):PE X (.BoolOp .And (a :: b :: E9) pos) (rD ta tb):=by
 ac_rfl;refine BoolOp_and (AM (ha pins s σ H _ I h) λv s1 ⟨x,H1,I1,r1,q1⟩=>?_);obtain⟨c,rfl,q1⟩:=q1;cases r1;refine Jh ?_;cases c with
 | true=>exact hb pins s1 σ H1 Q I1 q1
 | false=>exact⟨.bl false,H1,I1,Y,q1⟩
def R8(ha:PE X a ta):PE X (.UnaryOp .Not a pos) (r_ ta):=by
 ac_rfl;refine UnaryOp_ (AM (ha pins s σ H _ I h) λv s1 ⟨x,H1,I1,r1,q1⟩=>?_);obtain⟨c,rfl,q1⟩:=q1;cases r1;exact not_of (Jh ⟨.bl (!c),H1,I1,Y,q1⟩)
def i6(t:TT)(ta tb:TE):TE:=λσ H Q=>t σ H λc H1=>if c=true then ta σ H1 Q else tb σ H1 Q
def a0{c:Expr}(hc:PT X c tA)(ha:PE X a ta)(hb:PE X b tb):PE X (.IfExp c a b pos) (i6 tA ta tb):=by
 ac_rfl;refine wpAny_IfExp (AM (hc pins s σ H _ I h) λd s1 ⟨H1,I1,q1⟩=>?_);cases d with
 | true=>exact ha pins s1 σ H1 Q I1 q1
 | false=>exact hb pins s1 σ H1 Q I1 q1
end
def SqL(K:Fg)(H:Hp)(a:Addr)(xs:LV):Prop :=
 Rd H a (.lst xs) \/
  ∃(o:Obj) (its:Array Value) (n:Nat),K.lookup a=some o/\o.cls=.type "list"/\o.dict=none/\o.data=.seq its n/\its.size<=sizeLine/\AQ xs its.toList
def AL(K:Fg)(H:Hp)(a:Addr)(xs:LV):Prop :=
 Rd H a (.tup xs) \/
  ∃(o:Obj) (its:Array Value) (n:Nat),K.lookup a=some o/\o.cls=.type "tuple"/\o.data=.seq its n/\its.size<=sizeLine/\AQ xs its.toList
def vf:Value->OV
 | .none=>some .non
 | .bool b=>some (.bl b)
 | .int i _=>some (.int i)
 | .str x _=>some (.str x)
 | .bytes b _=>some (.byt b)
 | .float b _=>some (.flt b)
 | .ref a=>some (.ref a)
 | .type n=>some (.ty n)
 | _=>none
def AX.abs{x:V}{u:Value}(r:AX x u):vf u=some x:=by
 cases x with
 | non=>cases r;rfl
 | bl _=>cases r;rfl
 | int _=>obtain⟨t,rfl⟩:=r;rfl
 | str _=>obtain⟨t,rfl⟩:=r;rfl
 | byt _=>obtain⟨t,rfl⟩:=r;rfl
 | flt _=>obtain⟨t,rfl⟩:=r;rfl
 | ref _=>cases r;rfl
 | ty _=>cases r;rfl
theorem AX.inj{x y:V}{u:Value}(r:AX x u)(q:AX y u):x=y:=Ba (r.abs.symm.trans q.abs)
theorem AQ.inj:∀ {xs ys:LV}{us:LU},AQ xs us->AQ ys us->xs=ys
 | _,_,_,.nil,.nil=>rfl
 | _,_,_,.cons r t,.cons r' t'=>by rw[r.inj r',AQ.inj t t']
section
variable {X:Cx}{pins:PL}{σ:St}{H:Hp}{s:Shared}{a:Addr}{xs ys:LV}
def SqL.of{K:Fg}(h:H a=some (.lst xs)):SqL K H a xs:=.inl (.inl h)
def AL.of{K:Fg}(h:H a=some (.tup xs)):AL K H a xs:=.inl (.inl h)
def Inv.list(I:Inv X pins σ H s)(h:SqL X.K H a xs):∃ its:LU,AQ xs its/\PlainL s.heap a its.toArray/\xs.length<=sizeLine:=by
 rcases h with h | ⟨o,its,n,hk,hc,hd,hs,hz,r⟩
 ·obtain⟨z,its,n,r,e⟩:=h.ok I.hok;exact⟨its,r,⟨_,n,e,Y,Y,Y⟩,z⟩
 ·refine⟨its.toList,r,⟨o,n,I.kIn a o hk,hc,hd,by simpa using hs⟩,?_⟩;have e:=r.length;simp only[JJ]at e;omega
def Inv.tuple(I:Inv X pins σ H s)(h:AL X.K H a xs):∃ its:LU,AQ xs its/\IsTup s.heap a its.toArray/\xs.length<=sizeLine:=by
 rcases h with h | ⟨o,its,n,hk,hc,hs,hz,r⟩
 ·obtain⟨z,its,r,p⟩:=h.ok I.hok;exact⟨its,r,p,z⟩
 ·refine⟨its.toList,r,⟨o,I.kIn a o hk,hc,n,by simpa using hs⟩,?_⟩;have e:=r.length;simp only[JJ]at e;omega
def Inv.list_inj(I:Inv X pins σ H s)(h:SqL X.K H a xs)(h':SqL X.K H a ys):xs=ys:=by
 obtain⟨its,r,⟨o,n,e,_,_,d⟩,_⟩:=I.list h;obtain⟨its',r',⟨o',n',e',_,_,d'⟩,_⟩:=I.list h';rw[e]at e';cases e';rw[d]at d';injection d' with d1 _;have:its=its':=by simpa using congrArg Array.toList d1
 subst this;exact r.inj r'
def Inv.tuple_inj(I:Inv X pins σ H s)(h:AL X.K H a xs)(h':AL X.K H a ys):xs=ys:=by
 obtain⟨its,r,⟨o,e,_,n,d⟩,_⟩:=I.tuple h;obtain⟨its',r',⟨o',e',_,n',d'⟩,_⟩:=I.tuple h';rw[e]at e';cases e';rw[d]at d';injection d' with d1 _;have:its=its':=by simpa using congrArg Array.toList d1
 subst this;exact r.inj r'
end
abbrev Cx.wish(X:Cx)(E:EV):Cx:={X with xe:=E}
abbrev Cx.nox(X:Cx):Cx:=X.wish λ_ _=>False
theorem Cx.Ok.wish{X:Cx}(ok:X.Ok)(E:EV):(X.wish E).Ok :=
 ⟨ok.mod,ok.kind,ok.glob,ok.blt,ok.above,ok.inj,ok.has,ok.cab,ok.hd,ok.frames,ok.stk,ok.exf,ok.bs,ok.bsz,ok.noex,ok.exfs,ok.funs,ok.frf⟩
def Cx.Ok.unwish{X:Cx}{E:EV}(ok:(X.wish E).Ok):X.Ok :=
 ⟨ok.mod,ok.kind,ok.glob,ok.blt,ok.above,ok.inj,ok.has,ok.cab,ok.hd,ok.frames,ok.stk,ok.exf,ok.bs,ok.bsz,ok.noex,ok.exfs,ok.funs,ok.frf⟩
section
variable {X:Cx}{pins:PL}{σ:St}{H:Hp}{s:Shared}{E:EV}
theorem Inv.wish(I:Inv X pins σ H s)(E:EV):Inv (X.wish E) pins σ H s:=⟨I.ok.wish E,I.os,I.bare,I.base,I.loc,I.cell,I.free,I.freeC,I.pin,I.hok,I.len⟩
theorem Inv.unwish(I:Inv (X.wish E) pins σ H s):Inv X pins σ H s:=⟨I.ok.unwish,I.os,I.bare,I.base,I.loc,I.cell,I.free,I.freeC,I.pin,I.hok,I.len⟩
theorem SP.unwish{D:JH}{f:Flow}{s':Shared}(h:SP (X.wish E) pins D f s'):SP X pins D f s':=by
 cases f with
 | next=>obtain⟨σ',H',I,q⟩:=h;exact⟨σ',H',I.unwish,q⟩
 | brk=>obtain⟨σ',H',I,q⟩:=h;exact⟨σ',H',I.unwish,q⟩
 | cont=>obtain⟨σ',H',I,q⟩:=h;exact⟨σ',H',I.unwish,q⟩
 | ret u=>obtain⟨v,σ',H',I,r,q⟩:=h;exact⟨v,σ',H',I.unwish,r,q⟩
theorem CF.nox{st:List Stmt}{t:TS}(h:CF X.nox st t):CF X st t:=λpins s σ H D I hw =>
 Jf (h pins s σ H D (I.wish _) hw) (λ_ _ q=>q.unwish) λ_ _ z=>False.elim z
end
section
variable {X:Cx}{st:Stmt}{E9:List Stmt}{t u:TS}{e:Expr}{te:TE}{pos:Pos}
def rK:TS:=λD σ H=>D.nx σ H
def AE(t u:TS):TS:=λD σ H=>t {D with nx:=u D} σ H
def Al:CF X [] rK:=λ_ _ σ H _ I h=>wpAny_execs_nil ⟨σ,H,I,h⟩
def pS(h1:PS X st t)(h2:CF X E9 u):CF X (st :: E9) (AE t u):=by
 intro pins s σ H D I h;refine wpAny_execs_cons (AM (h1 pins s σ H {D with nx:=u D} I h) λf s1 q=>?_);cases f with
 | next =>
  obtain⟨σ',H',I',q⟩:=q;exact h2 pins s1 σ' H' D I' q
 | ret v=>exact q
 | brk=>exact q
 | cont=>exact q
def AG(h1:PS X st t):CF X [st] t:=by
 intro pins s σ H D I h;refine wpAny_execs_cons (AM (h1 pins s σ H D I h) λf s1 q=>?_);cases f with
 | next=>exact wpAny_execs_nil q
 | ret v=>exact q
 | brk=>exact q
 | cont=>exact q
def Inv.quiet{pins:PL}{σ:St}{H:Hp}{s:Shared}(I:Inv X pins σ H s):interactive X.env=false:=by simp[interactive,I.ok.kind]
def rH(te:TE):TS:=λD σ H=>te σ H λ_ H1=>D.nx σ H1
def B5(he:PE X e te)(hs:swapsWith e none pos.line X.env=pure false:=by rfl):PS X (.Expr e pos) (rH te):=by
 intro pins s σ H D I h;exact wpAny_Expr_any (AM (he pins s σ H _ I h) λv s1 ⟨x,H1,I1,r1,q1⟩=>⟨σ,H1,I1,q1⟩) I.quiet hs
def wc(te:TE):TS:=λD σ H=>te σ H D.rt
def AS(he:PE X e te):PS X (.Return (some e) pos) (wc te):=by
 intro pins s σ H D I h;exact wpAny_Return_some (AM (he pins s σ H _ I h) λv s1 ⟨x,H1,I1,r1,q1⟩=>⟨x,σ,H1,I1,r1,q1⟩)
def D0(c:TT)(t u:TS):TS:=λD σ H=>c σ H λb H1=>if b=true then t D σ H1 else u D σ H1
def Aj{c:Expr}{a b:List Stmt}{tc:TT}(hc:PT X c tc)(ha:CF X a t)(hb:CF X b u):PS X (.If c a b pos) (D0 tc t u):=by
 intro pins s σ H D I h;refine wpAny_If (AM (hc pins s σ H _ I h) λd s1 ⟨H1,I1,q1⟩=>?_);cases d with
 | true=>exact ha pins s1 σ H1 D I1 q1
 | false=>exact hb pins s1 σ H1 D I1 q1
def tO:TS:=λ_ _ _=>False
def EC{sts:List Stmt}:CF X sts tO:=λ_ _ _ _ _ _ h=>h.elim
end
abbrev TG:=V->St->Hp->(St->Hp->Prop)->Prop
abbrev Mb:=LV->St->Hp->(St->Hp->Prop)->Prop
def PG(X:Cx)(target:Expr)(t:TG):Prop :=
 ∀(pins:PL) (s:Shared) (σ:St) (H:Hp) (v:V) (u:Value) (Q:SW),Inv X pins σ H s->AX v u->t v σ H Q ->
  wpAny (model X.prog X.w) X.A (assign target X.env u) (λ_ s'=>∃ σ' H',Inv X pins σ' H' s'/\Q σ' H') X.xe s
def Tx(X:Cx)(ts:List Expr)(t:Mb):Prop :=
 ∀(pins:PL) (s:Shared) (σ:St) (H:Hp) (vs:LV) (us:LU) (Q:SW),Inv X pins σ H s->AQ vs us->t vs σ H Q ->
  wpAny (model X.prog X.w) X.A (assignInOrder ((assignEach ts X.env).map (·.2)) us) (λ_ s'=>∃ σ' H',Inv X pins σ' H' s'/\Q σ' H') X.xe s
abbrev WO:=V->V->V->Hp->(Hp->Prop)->Prop
def eX(X:Cx)(t:WO):Prop :=
 ∀(pins:PL) (s:Shared) (σ:St) (H:Hp) (o i v:V) (ov iv u:Value) (Q:Hp->Prop),Inv X pins σ H s->AX o ov->AX i iv->AX v u->t o i v H Q ->
  wpAny (model X.prog X.w) X.A (setItem ov iv u) (λ_ s'=>∃ H',Inv X pins σ H' s'/\Q H') X.xe s
section
variable {X:Cx}{pos:Pos}
def Dp(i:Nat):TG:=λv σ H Q=>Q (σ.set i (some v)) H
def Ay{i:Nat}{x:Str}(hN:X.N.Nodup)(hi:X.N[i]?=some x)(hx:Loc X.env.scope x)(hf:X.fn x=true\/X.env.scope.names.lookup x=some .local:=by first | exact .inl rfl | exact .inr rfl | assumption):PG X (.Name x pos) (Dp i):=by
 intro pins s σ H v u Q I r h;exact wpAny_assign_Name (ai I hN hi hx r (λs' I'=>⟨_,H,I',h⟩) hf)
def gE(i:Nat){x:Str}(hN:X.N.Nodup)(hi:X.N[i]?=some x:=by rfl)(hx:Loc X.env.scope x:=by exact Or.inl rfl)(hf:X.fn x=true\/X.env.scope.names.lookup x=some .local:=by first | exact .inl rfl | exact .inr rfl | assumption):PG X (.Name x pos) (Dp i):=Ay hN hi hx hf
def dm:Mb:=λvs σ H Q=>vs=[]/\Q σ H
def We(t:TG)(u:Mb):Mb:=λvs σ H Q=>∃ v r,vs=v :: r/\t v σ H λσ' H'=>u r σ' H' Q
def I_:Tx X [] dm:=by
 intro pins s σ H vs us Q I r h;obtain⟨e,h⟩:=h;subst e;cases r;exact assignInOrder_nil ⟨σ,H,I,h⟩
def gC{e:Expr}{es:List Expr}{t:TG}{u:Mb}(h1:PG X e t)(h2:Tx X es u)
  (hs:(assignEach (e :: es) X.env).map (·.2)=assign e X.env :: (assignEach es X.env).map (·.2):=by rfl):Tx X (e :: es) (We t u):=by
 intro pins s σ H vs us Q I r h;obtain⟨v,vr,e1,h⟩:=h;subst e1;cases r with
 | cons r rr =>
  rw[hs];refine assignInOrder_cons (AM (h1 pins s σ H _ _ _ I r h) λ_ s1 ⟨σ1,H1,I1,q1⟩=>?_);exact h2 pins s1 σ1 H1 _ _ Q I1 rr q1
def dq(K:Fg)(n:Nat)(t:Mb):TG:=λv σ H Q=>∃ a xs,v=.ref a/\AL K H a xs/\xs.length=n/\t xs σ H Q
def Iv{es:List Expr}{k:Nat}{t:Mb}{n:Nat}(hc:X.calm=true)(h:Tx X es t)
  (hn:(assignEach es X.env).length=n:=by rfl) (hst:(assignEach es X.env).findIdx? (·.1)=none:=by rfl):PG X (.Tuple es k pos) (dq X.K n t):=by
 intro pins s σ H v u Q I r hw;obtain⟨a,xs,e1,hq,hl,hw⟩:=hw;subst e1;cases r;obtain⟨its,rv,ht,hz⟩:=I.tuple hq;refine assign_Tuple_tuple (I.ok.hd hc) ht (by simp[hn,<- hl,rv.length]) hst λh' hx=>?_;have I1:Inv X pins σ H {s with heap:=h' }:=I.kept (t':=s.toks) λb o e=>hx b o (A8 (Yl e)) e;exact h pins _ σ H xs _ Q I1 (by simpa using rv) hw
def vk(to ti:TE)(t:WO):TG:=λv σ H Q=>to σ H λo H1=>ti σ H1 λi H2=>t o i v H2 λH3=>Q σ H3
def U7{o i:Expr}{to ti:TE}{t:WO}(ho:PE X o to)(hi:PE X i ti)(hs:eX X t)
  (ha:∀ v,assign (.Subscript o i pos) X.env v=(do
   let ov <- holding [v] (eval o X.env);let iv <- holding [v,ov] (eval i X.env)
   standAt pos
   holding [v,ov,iv] (setItem ov iv v)
   release [v,ov,iv] []):=by intro _;rfl):PG X (.Subscript o i pos) (vk to ti t):=by
 intro pins s σ H v u Q I r h;rw[ha];refine Ja (Jj (AM (ho pins s σ H _ I h) λov s1 ⟨x,H1,I1,r1,q1⟩=>?_));refine Ja (Jj (AM (hi pins s1 σ H1 _ I1 q1) λiv s2 ⟨y,H2,I2,r2,q2⟩=>?_));refine Ja (wpAny_standAt (Ja (Jj (AM (hs pins s2 σ H2 x y v ov iv u _ I2 r1 r2 r q2) λ_ s3 ⟨H3,I3,q3⟩=>?_))));exact wpAny_release ⟨σ,H3,I3,q3⟩
def JG(te:TE)(g:TG):TS:=λD σ H=>te σ H λx H1=>g x σ H1 D.nx
def R0{tg e:Expr}{te:TE}{g:TG}(he:PE X e te)(hg:PG X tg g)(hs:swapsWithSole [tg] e pos.line X.env=pure false:=by rfl)(hw:swappedStores [tg] e X.env=pure none:=by rfl)
  (h1:(assignEach [tg] X.env).map (·.2)=[assign tg X.env]:=by rfl):PS X (.Assign [tg] e pos) (JG te g):=by
 intro pins s σ H D I h;refine wpAny_Assign_stores (AM (he pins s σ H _ I h) λv s1 ⟨x,H1,I1,r1,q1⟩=>?_) hs hw;rw[h1];exact AM (hg pins s1 σ H1 x v _ I1 r1 q1) λ_ s2 q=>q
def B1{i:Nat}{x:Str}{e:Expr}{te:TE}{pos':Pos}(hN:X.N.Nodup)(hi:X.N[i]?=some x)(hx:Loc X.env.scope x)(he:PE X e te)(hs:swapsWith e (some (.Name x pos')) pos.line X.env=pure false:=by rfl)(hf:X.fn x=true\/X.env.scope.names.lookup x=some .local:=by first | exact .inl rfl | exact .inr rfl | assumption):
  PS X (.Assign [.Name x pos'] e pos) (JG te (Dp i)):=by
 intro pins s σ H D I h;refine wpAny_Assign_Name (AM (he pins s σ H _ I h) λv s1 ⟨y,H1,I1,r1,q1⟩=>?_) hs;exact ai I1 hN hi hx r1 (λs2 I2=>⟨_,H1,I2,q1⟩) hf
def sE(i:Nat){x:Str}{e:Expr}{te:TE}{pos':Pos}(hN:X.N.Nodup)(he:PE X e te)(hi:X.N[i]?=some x:=by rfl)(hx:Loc X.env.scope x:=by exact Or.inl rfl)(hs:swapsWith e (some (.Name x pos')) pos.line X.env=pure false:=by rfl)(hf:X.fn x=true\/X.env.scope.names.lookup x=some .local:=by first | exact .inl rfl | exact .inr rfl | assumption):PS X (.Assign [.Name x pos'] e pos) (JG te (Dp i)):=B1 hN hi hx he hs hf
end
section
variable {X:Cx}{pos:Pos}
def J5(c:TT)(tb:TS):TS:=λD σ H=>∃ W:NW,(∃ m,W m σ H)/\∀ m σ H,W m σ H ->
 c σ H λb H1=>if b=true then ∃ N:SW,(∀ σ' H',N σ' H'->∃ m',m'<m/\W m' σ' H')/\tb {D with nx:=N,ct:=N,bk:=D.nx} σ H1 else D.nx σ H1
def JC{c:Expr}{body:List Stmt}{tc:TT}{tb:TS}(hp:PassesOwn (model X.prog X.w) X.A X.env X.xe)(hc:PT X c tc)(hb:CF X body tb):PS X (.While c body [] pos) (J5 tc tb):=by
 intro pins s σ H D I h;obtain⟨W,⟨m0,w0⟩,turn⟩:=h;refine wpAny_While (codeAny_whileLoop (λn s'=>∃ σ' H',Inv X pins σ' H' s'/\W n σ' H') ?_ m0 ⟨σ,H,I,w0⟩);rintro n s1 ⟨σ1,H1,I1,w1⟩;refine wpAny_passesOwn hp (AM (hc pins s1 σ1 H1 _ I1 (turn n σ1 H1 w1)) λb s2 ⟨H2,I2,q2⟩=>?_);cases b with
 | true =>
  obtain⟨N,hN,q2⟩:=q2;rw[if_pos rfl];refine wpAny_passesOwn hp (AM (hb pins s2 σ1 H2 _ I2 q2) λf s3 q3=>?_);cases f with
  | next =>
   obtain⟨σ3,H3,I3,n3⟩:=q3;obtain⟨m',hm,w3⟩:=hN σ3 H3 n3;exact⟨m',hm,σ3,H3,I3,w3⟩
  | cont =>
   obtain⟨σ3,H3,I3,n3⟩:=q3;obtain⟨m',hm,w3⟩:=hN σ3 H3 n3;exact⟨m',hm,σ3,H3,I3,w3⟩
  | brk=>exact q3
  | ret v=>exact q3
 | false =>
  rw[if_neg Ym];exact wpAny_execs_nil ⟨σ1,H2,I2,q2⟩
end
structure It where
 go:Nat->Hp->Prop
 yld:Nat->Hp->V->Hp->Prop
 stop:Nat->Hp->Prop
def Br(X:Cx)(pins:PL)(H:Hp)(b:Addr):Prop :=
 H b=none/\b≠X.env.locals/\b∉X.fs/\(b∈X.ex\/X.s₀.heap.objs.size<=b)/\(∀ x c,X.env.cells.lookup x=some c->c≠b)/\∀ p∈X.pn++pins,p.1≠b
def Inv.fpOk{X:Cx}{pins:PL}{σ:St}{H H':Hp}{s:Shared}{b:Addr}(I:Inv X pins σ H s)(hb:s.heap.objs.size<=b)(hn:H' b=none):Br X pins H' b:=by
 refine⟨hn,Eb (Yp I.lt hb),I.nofs hb,.inr (A7 I.sz hb),λx c e z=>?_,λp hp z=>?_⟩
 ·obtain⟨v,q⟩:=I.cell x c e;exact absurd (Yp q.lt (by rw[z];exact hb)) (IF _)
 ·exact absurd (Yp (Yl (I.pin p hp).1) (by rw[z];exact hb)) (IF _)
structure Fb(P:Program)(w:World)(K:Fg)(tg:Expr)(J:It)(fp:List Addr)(it:Addr)(tn:Nat->Heap->Prop):Prop where
 mem:it∈fp
 obj:∀ i h,tn i h->∀ b∈fp,∃ o,h.get? b=some o/\∀ v,o.data≠.cell v
 keep:∀ i h h',tn i h->(∀ b∈fp,∀ o,h.get? b=some o->h'.get? b=some o)->tn i h'
 item:∀(X:Cx),X.prog=P->X.w=w->X.K=K->X.calm=true->∀(i:Nat) (pins:PL) (s:Shared) (σ:St) (H:Hp) (E:EV),Inv X pins σ H s->(∀ b∈fp,Br X pins H b)->tn i s.heap->J.go i H ->
  wpAny (model P w) X.A (pyNext (.ref it)) (λr s1=>∃ u,r=some u /\
   wpAny (model P w) X.A (letOwnedTupleGo tg (.ref it) u) (λ_ s2=>∃ x H',Inv X pins σ H' s2/\AX x u/\J.yld i H x H'/\tn (i + 1) s2.heap/\∀ b∈fp,H' b=none) E s1) E s
 done:∀(X:Cx),X.prog=P->X.w=w->X.K=K->X.calm=true->∀(i:Nat) (pins:PL) (s:Shared) (σ:St) (H:Hp) (E:EV),Inv X pins σ H s->(∀ b∈fp,Br X pins H b)->tn i s.heap->J.stop i H ->
  wpAny (model P w) X.A (pyNext (.ref it)) (λr s1=>r=none/\Inv X pins σ H s1) E s
 self:∀(A:Around) (i:Nat) (s:Shared) (Q:EV) (E:EV),tn i s.heap->Q (.ref it) s->wpAny (model P w) A (pyIter (.ref it)) Q E s
abbrev TI:=St->Hp->(It->Hp->Prop)->Prop
def Tw(X:Cx)(pins:PL)(σ:St)(tg:Expr)(R:It->Hp->Prop)(itv:Value)(s2:Shared):Prop :=
 ∃(it:Addr) (fp:List Addr) (tn:Nat->Heap->Prop) (J:It) (H':Hp),itv=.ref it/\Inv X pins σ H' s2/\Fb X.prog X.w X.K tg J fp it tn/\tn 0 s2.heap/\(∀ b∈fp,Br X pins H' b)/\R J H'
def PI(X:Cx)(tg iter:Expr)(wi:TI):Prop :=
 ∀(pins:PL) (s:Shared) (σ:St) (H:Hp) (R:It->Hp->Prop),Inv X pins σ H s->wi σ H R ->
  wpAny (model X.prog X.w) X.A (eval iter X.env) (λv s1=>wpAny (model X.prog X.w) X.A (pyIter v) (Tw X pins σ tg R) X.xe s1) X.xe s
def NO{M:Model}{A:Around}{E:EV}{s:Shared}{tg:Expr}{it:Addr}{u:Value}{o:Obj}{n:String}{vs:Array Value}{Q:Unit->Shared->Prop}(ho:s.heap.get? it=some o)(hc:o.cls=.type n)(hd:o.data=.fields vs)
  (hn:["enumerate","zip","dict_itemiterator","dict_reverseitemiterator","odict_iterator","itertools.zip_longest","itertools.pairwise"].contains n=false) (hQ:Q () s):wpAny M A (letOwnedTupleGo tg (.ref it) u) Q E s:=by
 unfold letOwnedTupleGo;cases tg <;> first
  | exact Jd hQ
  | (cases u <;> first
    | exact Jd hQ
    | (refine Ja (wpAny_load ho ?_)
       rw[hc,hd];show wpAny M A (if(["enumerate","zip","dict_itemiterator","dict_reverseitemiterator","odict_iterator","itertools.zip_longest","itertools.pairwise"].contains n&&vs[0]? == some (rawInt _))=true then _ else _) Q E s;rw[if_neg (by intro h;rw[hn,OM]at h;cases h)];exact Jd hQ))
def T7(K:Fg)(a:Addr):It :=
 ⟨λi H=>∃ xs x,SqL K H a xs/\xs[i]?=some x,λi H x H'=>H'=H/\∀ xs,SqL K H a xs->xs[i]?=some x,λi H=>∃ xs,SqL K H a xs/\xs.length<=i⟩
def T4(K:Fg)(a:Addr):It :=
 ⟨λi H=>∃ xs x,AL K H a xs/\xs[i]?=some x,λi H x H'=>H'=H/\∀ xs,AL K H a xs->xs[i]?=some x,λi H=>∃ xs,AL K H a xs/\xs.length<=i⟩
def QX(lo:Int)(n:Nat):It:=⟨λi _=>i<n,λi H x H'=>H'=H/\x=.int (lo + i),λi _=>n<=i⟩
def bt{P:Program}{w:World}{K:Fg}{tg:Expr}(a it:Addr):Fb P w K tg (T7 K a) [it] it (λi h=>h.IsListIter it a i) where
 mem:=by simp
 obj:=λi h st b hb=>by
  have e:b=it:=by simpa using hb
  subst e;obtain⟨o,e,c,d⟩:=st;exact⟨o,e,λv z=>by rw[d]at z;cases z⟩
 keep:=λi h h' st k=>st.at λo e=>k it (by simp) o e
 item:=by
  intro X hP hw hK hc i pins s σ H E I hf st hg;subst hP hw hK;obtain⟨xs,x,hq,hx⟩:=hg;obtain⟨its,rv,p,hz⟩:=I.list hq;obtain⟨u,hu,ru⟩:=rv.get hx;obtain⟨f0,f1,f2,f3,f4,f5⟩:=hf it (by simp);refine wpAny_pyNext_list_item st p.isList (x:=u) (by simpa using hu) λh' A5 sb=>?_;have I1:Inv X pins σ H {s with heap:=h' }:=I.turned (t':=s.toks) (λb o hb e=>(sb.2 b hb).trans e) f0 f1 f3 f4 f5;obtain⟨o,e,c,d⟩:=id A5;exact⟨u,Y,NO (s:={s with heap:=h' }) e c d (by decide) ⟨x,H,I1,ru,⟨Y,λys hy=>by rw[I.list_inj hy hq];exact hx⟩,A5,λb hb=>(hf b hb).1⟩⟩
 done:=by
  intro X hP hw hK hc i pins s σ H E I hf st hg;subst hP hw hK;obtain⟨xs,hq,hx⟩:=hg;obtain⟨its,rv,p,hz⟩:=I.list hq;obtain⟨f0,f1,f2,f3,f4,f5⟩:=hf it (by simp);have hl:=rv.length;exact wpAny_pyNext_list_end (I.ok.hd hc) st p.isList (by simp;omega) λh' eb=>⟨Y,I.turned (t':=s.toks) (λb o hb e=>eb b o hb e) f0 f1 f3 f4 f5⟩
 self:=λ_ _ _ _ _ st h=>wpAny_pyIter_listiter st h
def c0{P:Program}{w:World}{K:Fg}{tg:Expr}(a it:Addr):Fb P w K tg (T4 K a) [it] it (λi h=>h.IsTupleIter it a i) where
 mem:=by simp
 obj:=λi h st b hb=>by
  have e:b=it:=by simpa using hb
  subst e;obtain⟨o,e,c,d⟩:=st;exact⟨o,e,λv z=>by rw[d]at z;cases z⟩
 keep:=λi h h' st k=>st.at λo e=>k it (by simp) o e
 item:=by
  intro X hP hw hK hc i pins s σ H E I hf st hg;subst hP hw hK;obtain⟨xs,x,hq,hx⟩:=hg;obtain⟨its,rv,p,hz⟩:=I.tuple hq;obtain⟨u,hu,ru⟩:=rv.get hx;obtain⟨f0,f1,f2,f3,f4,f5⟩:=hf it (by simp);refine wpAny_pyNext_tuple_item st (show s.heap.IsTuple a its.toArray from p) (x:=u) (by simpa using hu) λh' A5 sb=>?_;have I1:Inv X pins σ H {s with heap:=h' }:=I.turned (t':=s.toks) (λb o hb e=>(sb.2 b hb).trans e) f0 f1 f3 f4 f5;obtain⟨o,e,c,d⟩:=id A5;exact⟨u,Y,NO (s:={s with heap:=h' }) e c d (by decide) ⟨x,H,I1,ru,⟨Y,λys hy=>by rw[I.tuple_inj hy hq];exact hx⟩,A5,λb hb=>(hf b hb).1⟩⟩
 done:=by
  intro X hP hw hK hc i pins s σ H E I hf st hg;subst hP hw hK;obtain⟨xs,hq,hx⟩:=hg;obtain⟨its,rv,p,hz⟩:=I.tuple hq;obtain⟨f0,f1,f2,f3,f4,f5⟩:=hf it (by simp);have hl:=rv.length;exact wpAny_pyNext_tuple_end (I.ok.hd hc) st (show s.heap.IsTuple a its.toArray from p) (by simp;omega) λh' eb=>⟨Y,I.turned (t':=s.toks) (λb o hb e=>eb b o hb e) f0 f1 f3 f4 f5⟩
 self:=λ_ _ _ _ _ st h=>wpAny_pyIter_tupleiter st h
def pX{P:Program}{w:World}{K:Fg}{tg:Expr}(it:Addr)(lo:Int)(n:Nat):Fb P w K tg (QX lo n) [it] it (λi h=>IsRangeIter h it (lo + (i:Nat) * 1) ((n:Int) - (i:Nat)) 1) where
 mem:=by simp
 obj:=λi h st b hb=>by
  have e:b=it:=by simpa using hb
  subst e;exact⟨_,st,λv z=>by
   have z':Data.fields _=Data.cell v:=z;cases z'⟩
 keep:=λi h h' st k=>k it (by simp) _ st
 item:=by
  intro X hP hw hK hc i pins s σ H E I hf st hg;subst hP hw hK;obtain⟨f0,f1,f2,f3,f4,f5⟩:=hf it (by simp);have W:=Walks.range (prog:=X.prog) (w:=X.w) (I.ok.hd hc) it lo 1 n;refine W.item i s _ _ hg st λv h' tk hv A5 kk=>?_;obtain⟨t,rfl⟩:=hv;have I1:Inv X pins σ H {s with heap:=h',toks:=tk}:=I.turned (λb o hb e=>kk b o (by simpa using hb) e) f0 f1 f3 f4 f5;refine⟨Z,NO (s:={s with heap:=h',toks:=tk}) (n:="range_iterator") A5 rfl rfl (by decide) ⟨.int (lo + i),H,I1,⟨t,?_⟩,⟨Y,Y⟩,A5,λb hb=>(hf b hb).1⟩⟩;rw[Int.mul_one]
 done:=by
  intro X hP hw hK hc i pins s σ H E I hf st hg;subst hP hw hK;obtain⟨f0,f1,f2,f3,f4,f5⟩:=hf it (by simp);exact wpAny_pyNext_range_end (I.ok.hd hc) st (by have:n<=i:=hg;omega) λh' eb=>⟨Y,I.turned (t':=s.toks) (λb o hb e=>eb b o hb e) f0 f1 f3 f4 f5⟩
 self:=λ_ _ _ _ _ st h=>wpAny_pyIter_rangeiter st h
section
variable {X:Cx}{tg:Expr}
def gO(K:Fg)(tl:TE):TI:=λσ H R=>tl σ H λx H1=>∃ a,x=.ref a/\(∃ xs,SqL K H1 a xs)/\R (T7 K a) H1
def vo(K:Fg)(tl:TE):TI:=λσ H R=>tl σ H λx H1=>∃ a,x=.ref a/\(∃ xs,AL K H1 a xs)/\R (T4 K a) H1
def Be{l:Expr}{tl:TE}(hl:PE X l tl):PI X tg l (gO X.K tl):=by
 intro pins s σ H R I h;refine AM (hl pins s σ H _ I h) λv s1 ⟨x,H1,I1,r1,q1⟩=>?_;obtain⟨a,e,⟨xs,hq⟩,q⟩:=q1;subst e;cases r1;obtain⟨its,rv,p,hz⟩:=I1.list hq;refine wpAny_pyIter_list p.isList ?_;refine⟨s1.heap.objs.size,[s1.heap.objs.size],_,_,H1,Y,I1.kept (t':=s1.toks) λb o e=>Yd _ e,bt a _,⟨_,Yk _ rfl,Y,Y⟩,λb hb=>?_,q⟩;have e:b=s1.heap.objs.size:=by simpa using hb
 subst e;exact I1.fpOk (Yf _) (I1.hok.fresh (Yf _))
def HJ{l:Expr}{tl:TE}(hl:PE X l tl):PI X tg l (vo X.K tl):=by
 intro pins s σ H R I h;refine AM (hl pins s σ H _ I h) λv s1 ⟨x,H1,I1,r1,q1⟩=>?_;obtain⟨a,e,⟨xs,hq⟩,q⟩:=q1;subst e;cases r1;obtain⟨its,rv,p,hz⟩:=I1.tuple hq;refine wpAny_pyIter_tuple (show s1.heap.IsTuple a its.toArray from p) ?_;refine⟨s1.heap.objs.size,[s1.heap.objs.size],_,_,H1,Y,I1.kept (t':=s1.toks) λb o e=>Yd _ e,c0 a _,⟨_,Yk _ rfl,Y,Y⟩,λb hb=>?_,q⟩;have e:b=s1.heap.objs.size:=by simpa using hb
 subst e;exact I1.fpOk (Yf _) (I1.hok.fresh (Yf _))
def aR{pins:PL}{σ:St}{H:Hp}{s:Shared}{R:It->Hp->Prop}{E:EV}{lo hi:Int}{t u v:Tok}{tk:Nat}(I:Inv X pins σ H s)(h1:-(2 ^ 62)<=lo)(h2:lo<2 ^ 62)(h3:-(2 ^ 62)<=hi)(h4:hi<2 ^ 62)
  (q:R (QX lo (hi - lo).toNat) H):wpAny (model X.prog X.w) X.A (pyIter (.ref s.heap.objs.size)) (Tw X pins σ tg R) E {s with heap:=s.heap.push {cls:=.type "range",data:=.fields #[.int lo t,.int hi u,.int 1 v] },toks:=tk}:=by
 refine wpAny_pyIter_range (IsRange.new ..) (small_one h1 h2 h3 h4) ?_;have I1:Inv X pins σ H {s with heap:=s.heap.push {cls:=.type "range",data:=.fields #[.int lo t,.int hi u,.int 1 v] },toks:=tk}:=I.kept λb o e=>Yd _ e;refine⟨(s.heap.push {cls:=.type "range",data:=.fields #[.int lo t,.int hi u,.int 1 v] }).objs.size,[(s.heap.push {cls:=.type "range",data:=.fields #[.int lo t,.int hi u,.int 1 v] }).objs.size],_,_,H,Y,
  I1.kept (t':=tk) λb o e=>Yd _ e,pX _ lo (hi - lo).toNat,?_,λb hb=>?_,q⟩
 ·have e1:lo + ((0:Nat):Int) * 1=lo:=by simp
  have e2:(((hi - lo).toNat:Nat):Int) - ((0:Nat):Int)=Builtin.Range.rangeSize lo hi 1:=by rw[rangeSize_one];split <;> omega
  show IsRangeIter _ _ (lo + ((0:Nat):Int) * 1) ((((hi - lo).toNat:Nat):Int) - ((0:Nat):Int)) 1;rw[e1,e2];exact Yk _ rfl
 ·have e:b=(s.heap.push {cls:=.type "range",data:=.fields #[.int lo t,.int hi u,.int 1 v] }).objs.size:=by simpa using hb
  subst e;exact I1.fpOk (Yf _) (I1.hok.fresh (Yf _))
def rP(ta:TA):TI:=λσ H R=>ta σ H λvs H1=>∃ j:Int,vs=[.int j]/\-(2 ^ 62)<=j/\j<2 ^ 62/\R (QX 0 j.toNat) H1
def rQ(ta:TA):TI:=λσ H R=>ta σ H λvs H1=>∃ i j:Int,vs=[.int i,.int j]/\(-(2 ^ 62)<=i/\i<2 ^ 62/\-(2 ^ 62)<=j/\j<2 ^ 62)/\R (QX i (j - i).toNat) H1
def FF{a:Expr}{ta:TA}{p pos:Pos}(hg:Gl X "range")(hm:X.mg "range"=none)(ha:PA X [a] ta)(hs:starEach [a] X.env=[(false,eval a X.env)]:=by rfl):PI X tg (.Call (.Name "range" p) [a] [] pos) (rP ta):=by
 intro pins s σ H R I h;refine Call_ (GQ I hg hm boot_range (Kh (AM (ha pos pins s σ H _ I h) λus s1 ⟨vs,H1,I1,r1,q1⟩=>?_) hs rfl));obtain⟨j,e,q1,q2,q⟩:=q1;subst e;cases r1 with
 | cons r rr =>
  cases rr;obtain⟨t,rfl⟩:=r;exact call_range_1 (aR I1 (by omega) (by omega) q1 q2 (by simpa using q))
def nY{a b:Expr}{ta:TA}{p pos:Pos}(hg:Gl X "range")(hm:X.mg "range"=none)(ha:PA X [a,b] ta)(hs:starEach [a,b] X.env=[(false,eval a X.env),(false,eval b X.env)]:=by rfl)(FR:starEach [b] X.env=[(false,eval b X.env)]:=by rfl):
  PI X tg (.Call (.Name "range" p) [a,b] [] pos) (rQ ta):=by
 intro pins s σ H R I h;refine Call_ (GQ I hg hm boot_range (Kh (AM (ha pos pins s σ H _ I h) λus s1 ⟨vs,H1,I1,r1,q1⟩=>?_) (by rw[hs,FR]) (by rw[FR];rfl)));obtain⟨i,j,e,⟨q1,q2,q3,q4⟩,q⟩:=q1;subst e;cases r1 with
 | cons r rr =>
  cases rr with
  | cons r' rr =>
   cases rr;obtain⟨t,rfl⟩:=r;obtain⟨t',rfl⟩:=r';exact call_range_2 (aR I1 q1 q2 q3 q4 q)
def Bz(wi:TI)(g:TG)(tb:TS):TS:=λD σ H=>wi σ H λJ H1=>∃ W:Nat->Nat->St->Hp->Prop,(∃ m,W 0 m σ H1)/\∀ i m σ H,W i m σ H ->
 (J.stop i H/\D.nx σ H)\/(J.go i H/\∃ N:SW,(∀ σ' H',N σ' H'->∃ m',m'<m/\W (i + 1) m' σ' H')/\∀ x H',J.yld i H x H'->g x σ H' λσ2 H2=>tb {D with nx:=N,ct:=N,bk:=D.nx} σ2 H2)
def Nc(fp:List Addr)(h:Heap):PL:=fp.filterMap λb=>(h.get? b).map λo=>(b,o)
def Nz{fp:List Addr}{h:Heap}{b:Addr}{o:Obj}(hb:b∈fp)(e:h.get? b=some o):(b,o)∈Nc fp h:=List.mem_filterMap.mpr ⟨b,hb,by rw[e];rfl⟩
def nM{fp:List Addr}{h:Heap}{p:Addr×Obj}(hp:p∈Nc fp h):p.1∈fp/\h.get? p.1=some p.2:=by
 obtain⟨b,hb,e⟩:=List.mem_filterMap.mp hp;cases q:h.get? b with
 | none=>rw[q]at e;cases e
 | some o =>
  rw[q]at e;have e':(b,o)=p:=Ba e;subst e';exact⟨hb,q⟩
def Inv.pinned{pins:PL}{σ:St}{H:Hp}{s:Shared}{fp:List Addr}(I:Inv X pins σ H s)(hf:∀ b∈fp,Br X pins H b)(ho:∀ b∈fp,∃ o,s.heap.get? b=some o/\∀ v,o.data≠.cell v):Inv X (pins++Nc fp s.heap) σ H s :=
 I.pins_of λp hp=>(Yv.mp hp).elim (λz=>I.pin p (Yy _ z)) λz=>by
  obtain⟨hb,e⟩:=nM z;obtain⟨f0,f1,f2,_⟩:=hf p.1 hb;obtain⟨o,e',d⟩:=ho p.1 hb;rw[e]at e';cases e';exact⟨e,f0,f1,f2,d⟩
def Inv.unpinned{pins pl:PL}{σ:St}{H:Hp}{s:Shared}(I:Inv X (pins++pl) σ H s):Inv X pins σ H s:=I.pins_of λp hp=>I.pin p (Yy _ (Km _ hp))
def Bt{iter:Expr}{body:List Stmt}{wi:TI}{g:TG}{tb:TS}{pos:Pos}(hp:PassesOwn (model X.prog X.w) X.A X.env X.xe)(hc:X.calm=true)(hi:PI X tg iter wi)(hg:PG X tg g)(hb:CF X body tb)
  (hs:∀ x,foldedSetIterable iter X.env x=pure x:=by intro _;rfl):PS X (.For tg iter body [] pos) (Bz wi g tb):=by
 intro pins s σ H D I h;refine wpAny_For (AM (hi pins s σ H _ I h) λv s1 h1=>AM h1 λitv s2 h2=>?_) hs;obtain⟨it,fp,tn,J,H2,e,I2,T,EH,f2,W,⟨m0,w0⟩,turn⟩:=h2;subst e;have stat:∀ {H':Hp},(∀ b∈fp,H' b=none)->∀ b∈fp,Br X pins H' b:=λhn b hb=>⟨hn b hb,(f2 b hb).2⟩;refine codeAny_forLoop_any (λn s'=>∃ i σ' H',Inv X pins σ' H' s'/\tn i s'.heap/\(∀ b∈fp,H' b=none)/\W i n σ' H') ?_ m0 ⟨0,σ,H2,I2,EH,λb hb=>(f2 b hb).1,w0⟩;rintro n s3 ⟨i,σ3,H3,I3,JY,Jw,w3⟩
 rcases turn i n σ3 H3 w3 with⟨stop,qn⟩ | ⟨go,N,hN,step⟩
 ·refine wpAny_passesOwn hp (AM (T.done X rfl rfl rfl hc i pins s3 σ3 H3 X.xe I3 (stat Jw) JY stop) λr s4 ⟨hr,I4⟩=>?_);subst hr;exact wpAny_execs_nil ⟨σ3,H3,I4,qn⟩
 ·refine wpAny_passesOwn hp (AM (T.item X rfl rfl rfl hc i pins s3 σ3 H3 X.xe I3 (stat Jw) JY go) λr s4 ⟨u,hr,h4⟩=>?_);subst hr;refine wpAny_passesOwn hp (AM h4 λ_ s5 ⟨x,H5,I5,r5,y5,Gq,Ov⟩=>?_);have QY:=I5.pinned (stat Ov) (T.obj _ _ Gq);refine wpAny_passesOwn hp (AM (hg _ s5 σ3 H5 x u _ QY r5 (step x H5 y5)) λ_ s6 ⟨σ6,H6,I6,q6⟩=>?_);refine wpAny_passesOwn hp (AM (hb _ s6 σ6 H6 _ I6 q6) λf s7 q7=>?_);have again:∀ {σ7:St} {H7:Hp},Inv X (pins++Nc fp s5.heap) σ7 H7 s7->N σ7 H7->∃ m,m<n/\∃ i σ' H',Inv X pins σ' H' s7/\tn i s7.heap/\(∀ b∈fp,H' b=none)/\W i m σ' H':=λ{σ7 H7} I7 n7=>by
   obtain⟨m',hm,w7⟩:=hN σ7 H7 n7;refine⟨m',hm,i + 1,σ7,H7,I7.unpinned,T.keep _ _ _ Gq λb hb o e=>(I7.pin (b,o) (Yy _ (Yy _ (Nz hb e)))).1,λb hb=>?_,w7⟩;obtain⟨o,e,d⟩:=T.obj _ _ Gq b hb;exact(I7.pin (b,o) (Yy _ (Yy _ (Nz hb e)))).2.1
  cases f with
  | next=>obtain⟨σ7,H7,I7,n7⟩:=q7;exact again I7 n7
  | cont=>obtain⟨σ7,H7,I7,n7⟩:=q7;exact again I7 n7
  | brk=>obtain⟨σ7,H7,I7,q7⟩:=q7;exact⟨σ7,H7,I7.unpinned,q7⟩
  | ret v=>obtain⟨x7,σ7,H7,I7,r7,q7⟩:=q7;exact⟨x7,σ7,H7,I7.unpinned,r7,q7⟩
end
abbrev R2:=V->V->Hp->VK->Prop
def Bb(X:Cx)(f:Value->Value->Sem Value)(r:R2):Prop :=
 ∀(pins:PL) (s:Shared) (σ:St) (H:Hp) (x y:V) (v u:Value) (Q:VK),Inv X pins σ H s->AX x v->AX y u->r x y H Q ->
  wpAny (model X.prog X.w) X.A (f v u) (EP X pins σ Q) X.xe s
def W4(X:Cx)(f:Value->Sem Value)(r:V->Hp->VK->Prop):Prop :=
 ∀(pins:PL) (s:Shared) (σ:St) (H:Hp) (x:V) (v:Value) (Q:VK),Inv X pins σ H s->AX x v->r x H Q ->
  wpAny (model X.prog X.w) X.A (f v) (EP X pins σ Q) X.xe s
def Ff(X:Cx)(f:Value)(r:LV->Hp->VK->Prop):Prop :=
 ∀(pins:PL) (s:Shared) (σ:St) (H:Hp) (xs:LV) (us:LU) (Q:VK),Inv X pins σ H s->AQ xs us->r xs H Q ->
  wpAny (model X.prog X.w) X.A (call f us) (EP X pins σ Q) X.xe s
def vb(X:Cx)(r:V->Hp->(Bool->Hp->Prop)->Prop):Prop :=
 ∀(pins:PL) (s:Shared) (σ:St) (H:Hp) (x:V) (v:Value) (Q:Bool->Hp->Prop),Inv X pins σ H s->AX x v->r x H Q ->
  wpAny (model X.prog X.w) X.A (truthy v) (TP X pins σ Q) X.xe s
def RT(r:R2)(ta tb:TE):TE:=λσ H Q=>ta σ H λx H1=>tb σ H1 λy H2=>r x y H2 Q
def i3(r:V->Hp->VK->Prop)(ta:TE):TE:=λσ H Q=>ta σ H λx H1=>r x H1 Q
def rI(C:Int->Int->Prop)(g:Int->Int->V):R2:=λx y H Q=>∃ i j,x=.int i/\y=.int j/\C i j/\Q (g i j) H
def Jl(g:Int->Int->V):R2:=λx y H Q=>∃ i j,x=.int i/\y=.int j/\Q (g i j) H
def rU(g:Int->V):V->Hp->VK->Prop:=λx H Q=>∃ i,x=.int i/\Q (g i) H
section
variable {X:Cx}{a b c:Expr}{ta tb tc:TE}{pos:Pos}
def WT(ha:PE X a ta)(hb:PE X b tb){pins:PL}{s:Shared}{σ:St}{H:Hp}{R:V->V->Hp->Prop}(I:Inv X pins σ H s)
  (h:ta σ H λx H1=>tb σ H1 λy H2=>R x y H2) {Q:EV} {f:Value->Value->Sem Value}
  (hf:∀ v u s2 x y H2,Inv X pins σ H2 s2->AX x v->AX y u->R x y H2->wpAny (model X.prog X.w) X.A (f v u) Q X.xe s2):
  wpAny (model X.prog X.w) X.A (eval a X.env) (λv s₁=>wpAny (model X.prog X.w) X.A (eval b X.env) (λu s₂=>wpAny (model X.prog X.w) X.A (f v u) Q X.xe s₂) X.xe s₁) X.xe s:=by
 refine AM (ha pins s σ H _ I h) λv s1 ⟨x,H1,I1,r1,q1⟩=>?_;refine AM (hb pins s1 σ H1 _ I1 q1) λu s2 ⟨y,H2,I2,r2,q2⟩=>?_;exact hf v u s2 x y H2 I2 r1 r2 q2
def Ai{op:Operator}{r:R2}(ho:Bb X (binaryOp op) r)(ha:PE X a ta)(hb:PE X b tb):PE X (.BinOp a op b pos) (RT r ta tb):=by
 ac_rfl;exact wpAny_BinOp (WT ha hb I h λv u s2 x y H2 I2 rx ry q=>ho pins s2 σ H2 x y v u Q I2 rx ry q)
def gr{op:UnaryOp}{r:V->Hp->VK->Prop}(ho:W4 X (unaryOp op) r)(ha:PE X a ta):PE X (.UnaryOp op a pos) (i3 r ta):=by
 ac_rfl;exact UnaryOp_ (AM (ha pins s σ H _ I h) λv s1 ⟨x,H1,I1,r1,q1⟩=>ho pins s1 σ H1 x v Q I1 r1 q1)
def M3{f:Value->Value->Sem Value}{C:Int->Int->Prop}{g:Int->Int->Int}
  (rule:∀(i j:Int) (t u:Tok) (s:Shared) (Q:EV) (E:EV),C i j->Q (.int (g i j) s.toks) {s with toks:=s.toks + 1}->wpAny (model X.prog X.w) X.A (f (.int i t) (.int j u)) Q E s):
  Bb X f (rI C λi j=>.int (g i j)):=by
 exfalso;obtain⟨i,j,rfl,rfl,hc,q⟩:=h;obtain⟨t,rfl⟩:=rx;obtain⟨t',rfl⟩:=ry;exact rule i j t t' s _ _ hc ⟨.int (g i j),H,I.tok _,⟨Z⟩,q⟩
def eC{f:Value->Value->Sem Value}{g:Int->Int->Int}
  (rule:∀(i j:Int) (t u:Tok) (s:Shared) (Q:EV) (E:EV),Q (.int (g i j) s.toks) {s with toks:=s.toks + 1}->wpAny (model X.prog X.w) X.A (f (.int i t) (.int j u)) Q E s):
  Bb X f (Jl λi j=>.int (g i j)):=by
 exfalso;obtain⟨i,j,rfl,rfl,q⟩:=h;obtain⟨t,rfl⟩:=rx;obtain⟨t',rfl⟩:=ry;exact rule i j t t' s _ _ ⟨.int (g i j),H,I.tok _,⟨Z⟩,q⟩
def Tf{f:Value->Value->Sem Value}{g:Int->Int->Bool}
  (rule:∀(i j:Int) (t u:Tok) (s:Shared) (Q:EV) (E:EV),Q (.bool (g i j)) s->wpAny (model X.prog X.w) X.A (f (.int i t) (.int j u)) Q E s):
  Bb X f (Jl λi j=>.bl (g i j)):=by
 exfalso;obtain⟨i,j,rfl,rfl,q⟩:=h;obtain⟨t,rfl⟩:=rx;obtain⟨t',rfl⟩:=ry;exact rule i j t t' s _ _ ⟨.bl (g i j),H,I,Y,q⟩
def vW(i j:Int):Prop:=0<j/\j<1073741824
def vX(i j:Int):Prop:=0<=j/\j<=1000000/\i.natAbs<2 ^ 64
def WN(i j:Int):Prop:=(-(2 ^ 64)<i/\i<2 ^ 64)\/(-(2 ^ 64)<j/\j<2 ^ 64)
def WN.ok{i j:Int}(h:WN i j):IntMulOk i j:=by
 rcases h with⟨h1,h2⟩ | ⟨h1,h2⟩
 ·exact .of_left (intBits_le_64 h1 h2)
 ·exact .of_right (intBits_le_64 h1 h2)
def ET:Bb X (binaryOp .Add) (Jl λi j=>.int (i + j)):=eC λ_ _ _ _ _ _ _ q=>add_int q
def NY:Bb X (binaryOp .Sub) (Jl λi j=>.int (i - j)):=eC λ_ _ _ _ _ _ _ q=>sub_int q
def Le:Bb X (binaryOp .Mult) (rI WN λi j=>.int (i * j)):=M3 λ_ _ _ _ _ _ _ hc q=>mul_int q hc.ok
def VJ:Bb X (binaryOp .FloorDiv) (rI vW λi j=>.int (i / j)):=M3 λi j _ _ _ _ _ hc q=>by
 have h1:(0:Int)<j:=hc.1;have h2:j<1073741824:=hc.2;exact floordiv_int (by omega) (by rw[Int.fdiv_eq_ediv_of_nonneg i (by omega)];exact q) (.inl (PyProof.noPylong_small (by omega)))
def HG:Bb X (binaryOp .Mod) (rI (λ_ j=>0<j) λi j=>.int (i % j)):=M3 λi j _ _ _ _ _ hc q=>by
 have h1:(0:Int)<j:=hc;exact mod_int' (by omega) (by rw[Int.fmod_eq_emod_of_nonneg i (by omega)];exact q)
def NX:Bb X (binaryOp .Pow) (rI vX λi j=>.int (i ^ j.toNat)):=M3 λ_ _ _ _ _ _ _ hc q=>pow_int_small hc.1 hc.2.1 hc.2.2 q
def iz{f:Value->Sem Value}{g:Int->Int}
  (rule:∀(i:Int) (t:Tok) (s:Shared) (Q:EV) (E:EV),Q (.int (g i) s.toks) {s with toks:=s.toks + 1}->wpAny (model X.prog X.w) X.A (f (.int i t)) Q E s):
  W4 X f (rU λi=>.int (g i)):=by
 intro pins s σ H x v Q I rx h;obtain⟨i,rfl,q⟩:=h;obtain⟨t,rfl⟩:=rx;exact rule i t s _ _ ⟨.int (g i),H,I.tok _,⟨Z⟩,q⟩
def iP:W4 X (unaryOp .USub) (rU λi=>.int (-i)):=iz λ_ _ _ _ _ q=>neg_int q
end
def fZ:V->V->Bool
 | .non,.non=>true | .non,.int _=>true | .int _,.non=>true | .non,.bl _=>true | .bl _,.non=>true | .non,.str _=>true | .str _,.non=>true
 | .int _,.int _=>true | .bl _,.bl _=>true | .str _,.str _=>true | .byt _,.byt _=>true
 | .int _,.str _=>true | .str _,.int _=>true | .bl _,.str _=>true | .str _,.bl _=>true
 | _,_=>false
def jG:R2:=λx y H Q=>fZ x y=true/\Q (.bl (decide (x=y))) H
def jF:R2:=λx y H Q=>fZ x y=true/\Q (.bl (!decide (x=y))) H
def ZE{i j:Int}:decide (V.int i=V.int j)=(i == j):=by
 rw[HP];simp
def gx{i j:Bool}:decide (V.bl i=V.bl j)=(i == j):=by
 rw[HP];simp
def ZF{i j:Str}:decide (V.str i=V.str j)=(i == j):=by
 rw[HP];simp
def ZD{i j:Array UInt8}:decide (V.byt i=V.byt j)=(i.toList == j.toList):=by
 rw[HP];cases i;cases j;simp
section
variable {X:Cx}{a b c:Expr}{ta tb tc:TE}{pos:Pos}
def BP{pins:PL}{σ:St}{H:Hp}{s:Shared}{Q:VK}{k k':Bool}(I:Inv X pins σ H s)(q:Q (.bl k) H)(e:k=k'):EP X pins σ Q (.bool k') s:=by
 subst e;exact⟨.bl k,H,I,Y,q⟩
def D_:Bb X (compareOp .Eq) jG:=by
 exfalso;obtain⟨hs,q⟩:=h;cases x with
 | non =>
  cases rx;cases y with
  | non=>cases ry;exact PySem.EqNone.eq_none_none (BP I q (by simp))
  | bl j=>cases ry;exact PySem.EqNone.eq_none_bool (BP I q (by simp))
  | int j=>obtain⟨t',rfl⟩:=ry;exact PySem.EqNone.eq_none_int (BP I q (by simp))
  | str j=>obtain⟨t',rfl⟩:=ry;exact PySem.EqNone.eq_none_str (BP I q (by simp))
  | _=>exact absurd (show false=true from hs) Ym
 | bl i =>
  cases rx;cases y with
  | non=>cases ry;exact PySem.EqNone.eq_bool_none (BP I q (by simp))
  | bl j=>cases ry;exact eq_bool (BP I q gx)
  | str j=>obtain⟨t',rfl⟩:=ry;exact PySem.EqMixed.eq_bool_str (BP I q (by simp))
  | _=>exact absurd (show false=true from hs) Ym
 | int i =>
  obtain⟨t,rfl⟩:=rx;cases y with
  | non=>cases ry;exact PySem.EqNone.eq_int_none (BP I q (by simp))
  | int j=>obtain⟨t',rfl⟩:=ry;exact eq_int (BP I q ZE)
  | str j=>obtain⟨t',rfl⟩:=ry;exact PySem.EqMixed.eq_int_str (BP I q (by simp))
  | _=>exact absurd (show false=true from hs) Ym
 | str i =>
  obtain⟨t,rfl⟩:=rx;cases y with
  | non=>cases ry;exact PySem.EqNone.eq_str_none (BP I q (by simp))
  | bl j=>cases ry;exact PySem.EqMixed.eq_str_bool (BP I q (by simp))
  | int j=>obtain⟨t',rfl⟩:=ry;exact PySem.EqMixed.eq_str_int (BP I q (by simp))
  | str j=>obtain⟨t',rfl⟩:=ry;exact eq_str (BP I q ZF)
  | _=>exact absurd (show false=true from hs) Ym
 | byt i =>
  obtain⟨t,rfl⟩:=rx;cases y with
  | byt j=>obtain⟨t',rfl⟩:=ry;exact W.eq_bytes (BP I q ZD)
  | _=>exact absurd (show false=true from hs) Ym
 | _=>cases y <;> exact absurd (show false=true from hs) Ym
def F9:Bb X (compareOp .NotEq) jF:=by
 exfalso;obtain⟨hs,q⟩:=h;cases x with
 | non =>
  cases rx;cases y with
  | non=>cases ry;exact PySem.EqNone.ne_none_none (BP I q (by simp))
  | bl j=>cases ry;exact PySem.EqNone.ne_none_bool (BP I q (by simp))
  | int j=>obtain⟨t',rfl⟩:=ry;exact PySem.EqNone.ne_none_int (BP I q (by simp))
  | str j=>obtain⟨t',rfl⟩:=ry;exact PySem.EqNone.ne_none_str (BP I q (by simp))
  | _=>exact absurd (show false=true from hs) Ym
 | bl i =>
  cases rx;cases y with
  | non=>cases ry;exact PySem.EqNone.ne_bool_none (BP I q (by simp))
  | bl j=>cases ry;exact ne_bool (BP I q (congrArg not gx))
  | str j=>obtain⟨t',rfl⟩:=ry;exact PySem.EqMixed.ne_bool_str (BP I q (by simp))
  | _=>exact absurd (show false=true from hs) Ym
 | int i =>
  obtain⟨t,rfl⟩:=rx;cases y with
  | non=>cases ry;exact PySem.EqNone.ne_int_none (BP I q (by simp))
  | int j=>obtain⟨t',rfl⟩:=ry;exact ne_int (BP I q (congrArg not ZE))
  | str j=>obtain⟨t',rfl⟩:=ry;exact PySem.EqMixed.ne_int_str (BP I q (by simp))
  | _=>exact absurd (show false=true from hs) Ym
 | str i =>
  obtain⟨t,rfl⟩:=rx;cases y with
  | non=>cases ry;exact PySem.EqNone.ne_str_none (BP I q (by simp))
  | bl j=>cases ry;exact PySem.EqMixed.ne_str_bool (BP I q (by simp))
  | int j=>obtain⟨t',rfl⟩:=ry;exact PySem.EqMixed.ne_str_int (BP I q (by simp))
  | str j=>obtain⟨t',rfl⟩:=ry;exact ne_str (BP I q (congrArg not ZF))
  | _=>exact absurd (show false=true from hs) Ym
 | byt i =>
  obtain⟨t,rfl⟩:=rx;cases y with
  | byt j=>obtain⟨t',rfl⟩:=ry;exact W.ne_bytes (BP I q (congrArg not ZD))
  | _=>exact absurd (show false=true from hs) Ym
 | _=>cases y <;> exact absurd (show false=true from hs) Ym
def NV:Bb X (compareOp .Lt) (Jl λi j=>.bl (decide (i<j))):=Tf λ_ _ _ _ _ _ _ q=>lt_int q
def LR:Bb X (compareOp .LtE) (Jl λi j=>.bl (decide (i<=j))):=Tf λ_ _ _ _ _ _ _ q=>le_int q
def NU:Bb X (compareOp .Gt) (Jl λi j=>.bl (decide (j<i))):=Tf λ_ _ _ _ _ _ _ q=>gt_int q
def gP:Bb X (compareOp .GtE) (Jl λi j=>.bl (decide (j<=i))):=Tf λ_ _ _ _ _ _ _ q=>ge_int q
def oC:Bb X (compareOp .In) (λx y H Q=>∃ i j,x=.str i/\y=.str j/\Q (.bl (!(Builtin.Str.occurrences j i 0 j.length 1).isEmpty)) H):=by
 exfalso;obtain⟨i,j,rfl,rfl,q⟩:=h;obtain⟨t,rfl⟩:=rx;obtain⟨t',rfl⟩:=ry;exact in_str (BP I q rfl)
def sv:Bb X (compareOp .Is) (λx y H Q=>y=.non/\Q (.bl (decide (x=.non))) H):=by
 exfalso;obtain⟨rfl,q⟩:=h;cases ry;refine is_none_gen (BP I q ?_);cases x <;> first
  | (cases rx;rfl)
  | (obtain⟨t,rfl⟩:=rx;rfl)
def uw:Bb X (compareOp .IsNot) (λx y H Q=>y=.non/\Q (.bl (!decide (x=.non))) H):=by
 exfalso;obtain⟨rfl,q⟩:=h;cases ry;refine isnot_none_gen (BP I q ?_);cases x <;> first
  | (cases rx;rfl)
  | (obtain⟨t,rfl⟩:=rx;rfl)
def Ak(b:Expr){op:CmpOp}(h:op≠.In:=by decide)(h2:op≠.NotIn:=by decide):behindInMarks op b=false:=by
 have e1:(op == CmpOp.In)=false:=by cases op <;> first | rfl | exact absurd rfl h
 have e2:(op == CmpOp.NotIn)=false:=by cases op <;> first | rfl | exact absurd rfl h2
 cases b <;> simp[behindInMarks,e1,e2]
def Hz{op:CmpOp}{r:R2}(ho:Bb X (compareOp op) r)(ha:PE X a ta)(hb:PE X b tb)(hm:behindInMarks op b=false):PE X (.Compare a [op] [b] pos) (RT r ta tb):=by
 ac_rfl;exact wpAny_Compare1 (WT ha hb I h λv u s2 x y H2 I2 rx ry q=>ho pins s2 σ H2 x y v u Q I2 rx ry q) hm
def gq(t:TE):TT:=λσ H Q=>t σ H λx H'=>∃ k,x=.bl k/\Q k H'
def Am{op:CmpOp}{r:R2}(ho:Bb X (compareOp op) r)(ha:PE X a ta)(hb:PE X b tb)(hm:behindInMarks op b=false):PT X (.Compare a [op] [b] pos) (gq (RT r ta tb)):=by
 ac_rfl;refine wpAny_isTrue_Compare1 (AM (ha pins s σ H _ I h) λv s1 ⟨x,H1,I1,r1,q1⟩=>AM (hb pins s1 σ H1 _ I1 q1) λu s2 ⟨y,H2,I2,r2,q2⟩ =>
  AM (ho pins s2 σ H2 x y v u _ I2 r1 r2 q2) λc s3 ⟨z,H3,I3,r3,k,e,q3⟩=>?_) hm
 subst e;cases r3;exact Jh ⟨H3,I3,q3⟩
def tL(r r':R2)(ta tb tc:TE):TE:=λσ H Q=>ta σ H λx H1=>tb σ H1 λy H2=>r x y H2 λz H3=>∃ k,z=.bl k /\
 (if k=true then tc σ H3 λw' H4=>r' y w' H4 Q else Q (.bl false) H3)
def Vg{op UL:CmpOp}{r r':R2}(ho:Bb X (compareOp op) r)(Ib:Bb X (compareOp UL) r')(ha:PE X a ta)(hb:PE X b tb)(hc:PE X c tc)
  (hm:lastMarks [op,UL] [b,c]=false:=by with_unfolding_all rfl):PT X (.Compare a [op,UL] [b,c] pos) (gq (tL r r' ta tb tc)):=by
 ac_rfl;refine isTrue_chain (AM (ha pins s σ H _ I h) λv s1 ⟨x,H1,I1,r1,q1⟩=>test_link (AM (hb pins s1 σ H1 _ I1 q1) λu s2 ⟨y,H2,I2,r2,q2⟩ =>
  AM (ho pins s2 σ H2 x y v u _ I2 r1 r2 q2) λd s3 ⟨z,H3,I3,r3,k,e,q3⟩=>?_)) hm
 subst e;cases r3;refine Jh ?_;cases k with
 | false =>
  obtain⟨k',e',q'⟩:=q3;cases e';exact ite_ff ⟨H3,I3,q'⟩
 | true =>
  refine ite_tt (test_last (AM (hc pins s3 σ H3 _ I3 q3) λw' s4 ⟨z',H4,I4,r4,q4⟩=>AM (Ib pins s4 σ H4 y z' u w' _ I4 r2 r4 q4) λd' s5 ⟨z2,H5,I5,r5,k2,e2,q5⟩=>?_));subst e2;cases r5;exact Jh ⟨H5,I5,q5⟩
def eY(K:Fg)(x:V)(H:Hp)(k:Bool):Prop :=
 match x with
 | .non=>k=false
 | .bl b=>k=b
 | .int i=>k=(i != 0)
 | .str y=>y.length<=sizeLine/\k=((y.length:Int) != 0)
 | .byt y=>y.size<=sizeLine/\k=((y.size:Int) != 0)
 | .ref p=>(∃ xs,SqL K H p xs/\k=!xs.isEmpty)\/(∃ xs,AL K H p xs/\k=!xs.isEmpty)\/∃ kvs,H p=some (.dK kvs)/\k=!kvs.isEmpty
 | _=>False
def oX{κ:Type}{kvs:List (κ×V)}{vs:List (κ×Value)}(r:KV kvs vs):(!vs.isEmpty)=!kvs.isEmpty:=by
 cases r <;> rfl
def cI{xs:LV}{its:LU}(r:AQ xs its):(!its.toArray.isEmpty)=!xs.isEmpty:=by
 cases r <;> simp
def Lc:(sizeLine:Nat)<2 ^ 63:=by rw[sizeLine_eq];decide
def uO:vb X (λx H Q=>∃ k,eY X.K x H k/\Q k H):=by
 intro pins s σ H x v Q I rx h;obtain⟨k,e,q⟩:=h;have hl:=Lc;have hs:sizeLine=16777216:=sizeLine_eq;cases x with
 | non =>
  cases rx;have e':k=false:=e;subst e';exact truthy_none ⟨H,I,q⟩
 | bl b =>
  cases rx;have e':k=b:=e;subst e';exact Jh ⟨H,I,q⟩
 | int i =>
  obtain⟨t,rfl⟩:=rx;have e':k=(i != 0):=e;subst e';exact PySem.P.truthy_int ⟨H,I,q⟩
 | str y =>
  obtain⟨t,rfl⟩:=rx;obtain⟨hy,e'⟩:y.length<=sizeLine/\k=((y.length:Int) != 0):=e;subst e';exact PySem.P.truthy_str (by omega) ⟨H,I.tok _,q⟩
 | byt y =>
  obtain⟨t,rfl⟩:=rx;obtain⟨hy,e'⟩:y.size<=sizeLine/\k=((y.size:Int) != 0):=e;subst e';exact W.truthy_bytes (by omega) ⟨H,I.tok _,q⟩
 | ref p =>
  cases rx;have e':(∃ xs,SqL X.K H p xs/\k=!xs.isEmpty)\/(∃ xs,AL X.K H p xs/\k=!xs.isEmpty)\/∃ kvs,H p=some (.dK kvs)/\k=!kvs.isEmpty:=e
  rcases e' with⟨xs,hx,e'⟩ | ⟨xs,hx,e'⟩ | ⟨kvs,hx,e'⟩
  ·subst e';obtain⟨its,r,pl,hz⟩:=I.list hx;have hlen:=r.length;exact wpAny_truthy_list pl.isList (by simp only[Yn];omega) ⟨H,I.tok _,by rw[cI r];exact q⟩
  ·subst e';obtain⟨its,r,pl,hz⟩:=I.tuple hx;have hlen:=r.length;exact truthy_tuple pl (by simp only[Yn];omega) ⟨H,I.tok _,by rw[cI r];exact q⟩
  ·subst e';obtain⟨hz,hS,vs,r,m⟩:kvs.length<=sizeLine/\(p == sysModules)=false/\∃ vs,KV kvs vs/\s.heap.DictOf (Cq X.prog X.w) p vs:=I.hok p _ hx;have hlen:kvs.length=vs.length:=Bl r;exact wpAny_truthy_dict hS m (by omega) ⟨H,I.tok _,by rw[oX r];exact q⟩
 | _=>exact(show False from e).elim
def Sd(ha:PE X a ta)(he:∀ whole,isTrue a X.env whole=(do let v <- whole;standAt a.pos;holding [v] (truthy v))):
  PT X a (λσ H Q=>ta σ H λx H'=>∃ k,eY X.K x H' k/\Q k H'):=by
 ac_rfl;exact isTrue_plain (AM (ha pins s σ H _ I h) λv s1 ⟨x,H1,I1,r1,q1⟩=>uO pins s1 σ H1 x v Q I1 r1 q1) (he _)
def cS:Bb X (binaryOp .Add) (λx y H Q=>∃ i j,x=.str i/\y=.str j/\i.length + j.length<=sizeLine/\Q (.str (i++j)) H):=by
 exfalso;obtain⟨i,j,rfl,rfl,hz,q⟩:=h;obtain⟨t,rfl⟩:=rx;obtain⟨t',rfl⟩:=ry;exact add_str (λt' tk=>⟨.str (i++j),H,I.tok _,⟨Z⟩,q⟩) hz
def F7{x:V}{us:LU}(r:AQ [x] us):∃ u,us=[u]/\AX x u:=by
 cases r with
 | cons r1 r2=>cases r2;exact⟨Z,r1⟩
def gu{x y:V}{us:LU}(r:AQ [x,y] us):∃ u w',us=[u,w']/\AX x u/\AX y w':=by
 cases r with
 | cons r1 r2 =>
  cases r2 with
  | cons r3 r4=>cases r4;exact⟨_,Z,r1,r3⟩
def m9:Ff X (.type "int") (λxs H Q=>(∃ i,xs=[.int i]/\Q (.int i) H)\/∃ k,xs=[.bl k]/\Q (.int (if k then 1 else 0)) H):=by
 intro pins s σ H xs us Q I r h
 rcases h with⟨i,rfl,q⟩ | ⟨k,rfl,q⟩
 ·obtain⟨u,rfl,t,rfl⟩:=F7 r;exact call_int_int ⟨.int i,H,I,⟨Z⟩,q⟩
 ·obtain⟨u,rfl,r1⟩:=F7 r;cases r1;exact call_int_bool ⟨.int (if k then 1 else 0),H,I.tok _,⟨Z⟩,q⟩
def eT(K:Fg)(x:V)(H:Hp)(n:Nat):Prop :=
 match x with
 | .str y=>y.length<=sizeLine/\n=y.length
 | .byt y=>y.size<=sizeLine/\n=y.size
 | .ref p=>(∃ xs,SqL K H p xs/\n=xs.length)\/∃ xs,AL K H p xs/\n=xs.length
 | _=>False
def HL:Ff X (.builtin "len") (λxs H Q=>∃ x n,xs=[x]/\eT X.K x H n/\Q (.int n) H):=by
 intro pins s σ H xs us Q I r h;obtain⟨x,n,rfl,e,q⟩:=h;obtain⟨u,rfl,rx⟩:=F7 r;have hl:=Lc;have hs:sizeLine=16777216:=sizeLine_eq;cases x with
 | str y =>
  obtain⟨t,rfl⟩:=rx;obtain⟨hy,e'⟩:y.length<=sizeLine/\n=y.length:=e;subst e';exact len_str (by omega) ⟨.int _,H,I.tok _,⟨Z⟩,q⟩
 | byt y =>
  obtain⟨t,rfl⟩:=rx;obtain⟨hy,e'⟩:y.size<=sizeLine/\n=y.size:=e;subst e';exact W.len_bytes (by omega) ⟨.int _,H,I.tok _,⟨Z⟩,q⟩
 | ref p =>
  cases rx;have e':(∃ xs,SqL X.K H p xs/\n=xs.length)\/∃ xs,AL X.K H p xs/\n=xs.length:=e
  rcases e' with⟨xs,hx,e'⟩ | ⟨xs,hx,e'⟩
  ·subst e';obtain⟨its,r',pl,hz⟩:=I.list hx;have hlen:=r'.length;exact Calls.call_len_list pl.isList (by simp only[Yn];omega) ⟨.int xs.length,H,I.tok _,⟨_,by simp only[Yn];rw[hlen]⟩,q⟩
  ·subst e';obtain⟨its,r',pl,hz⟩:=I.tuple hx;have hlen:=r'.length;exact len_tuple pl (by simp only[Yn];omega) ⟨.int xs.length,H,I.tok _,⟨_,by simp only[Yn];rw[hlen]⟩,q⟩
 | _=>exact(show False from e).elim
end
structure L5(h:Heap)(x dx C:Addr)(mA:Str->OU):Prop where
 obj:h.get? x=some (W.instObj C dx)
 ns:h.Ns1 dx mA
 ne:dx≠x
def nF{h:Heap}{dx:Addr}{mA:Str->OU}(n:h.Ns1 dx mA):∃ od,h.get? dx=some od/\∀ name,W.lookIn name od=some (mA name):=by
 obtain⟨o,es,ep,ho,hd,hk,_,hm⟩:=n;refine⟨o,ho,λname=>?_⟩;have e:=hm name;unfold nsFind findBy at e;rw[<- Array.find?_toList]at e;unfold W.lookIn;rw[hd];dsimp only;split
 ·rename_i y q
  rw[q]at e;exact congrArg some e
 ·rename_i q
  rw[q]at e;have a:es.toList.any (·.refKey)=false:=by
   rw[JO];intro y hy;obtain⟨z,t,hkey⟩:=hk y (Array.mem_toList_iff.mp hy);simp[DictEntry.refKey,hkey]
  have a':¬ es.toList.any (·.refKey)=true:=by rw[a];exact Ym
  rw[if_neg a'];exact congrArg some e
def L5.look{h:Heap}{x dx C:Addr}{mA:Str->OU}(I:L5 h x dx C mA):∃ od,W.InstAt h x (W.instObj C dx) C (some od)/\∀ name,W.lookIn name od=some (mA name):=
 let⟨od,ho,hl⟩:=nF I.ns
 ⟨od,⟨I.obj,Y,Y,ho⟩,hl⟩
section
variable {prog:Program}{w:World}{A:Around}{E:EV}{s:Shared}{K:Fg}{x dx C f:Addr}{mA:Str->OU}{name:Str}{v:Value}
def uJ{expr:Bool}{Q:EV}(X:K.In s.heap)(I:L5 s.heap x dx C mA)(hg:W.plainGet K C name=true)(hh:W.hasDictIn K C=true)
  (ha:W.findIn K (.ref C) name=some none) (hv:mA name=some v) (IW:W.handedIn v=true) (h:Q v {s with toks:=s.toks + 1}):
  wpAny (model prog w) A (getAttr (.ref x) name expr) Q E s:=by
 obtain⟨od,J,hl⟩:=I.look;exact W.get_value X J (W.plainGet_of hg).1 (W.findObj_own hh ha rfl (by rw[hl,hv])) IW h
def lx{pl:Sem Bool}{Q:Value×LU->Shared->Prop}(X:K.In s.heap)(I:L5 s.heap x dx C mA)(hg:W.plainGet K C name=true)
  (hf:W.findIn K (.ref C) name=some (some (.ref f))) (ht:W.isFn K (.ref f)=true) (hv:mA name=none) (h:Q (.ref f,[.ref x]) s):
  wpAny (model prog w) A (getMethod (.ref x) name pl) Q E s:=by
 obtain⟨od,J,hl⟩:=I.look;exact W.method_fn X J (W.plainGet_of hg).1 (W.plainGet_of hg).2 hf (beq_iff_eq.mp ht) (by show(W.lookIn name od).map (·.isSome)=some false;rw[hl,hv];rfl) h
def vO{ns:LS}{Q:Unit->Shared->Prop}(X:K.In s.heap)(I:L5 s.heap x dx C mA)
  (hs:W.findIn K (.ref C) "__setattr__"=some (some (.builtin "object.__setattr__"))) (hp:W.plainOver K C=true) (ht:W.takerIn K C name=some none) (hh:W.hasDictIn K C=true)
  (hw:PySem.Within mA ns) (hsz:ns.length<=sizeLine)
  (h:∀ h',L5 h' x dx C (λy=>if y=name then some v else mA y)->Heap.SameBut dx s.heap h'->Q () {s with heap:=h',toks:=s.toks + 2}):
  wpAny (model prog w) A (setAttr (.ref x) name v) Q E s:=by
 obtain⟨od,J,hl⟩:=I.look;refine W.set_plain X J hs (W.osa_open (s:={s with toks:=s.toks + 1}) (r:=none) X J hp ht λb=>?_);obtain⟨cd,hc,Ik⟩:=W.any_some hh;have hx:s.heap.get? x=some ⟨.ref C,some dx,.plain,#[]⟩:=I.obj;refine Ja (Jd (Ja (Ja (wpAny_loadPart hx (Ja (W.Looks.here (s:={s with toks:=s.toks + 1}) (W.looks_clsIn X hc) ?_))))));rw[Ik];refine Jd (a:=some dx) (Ja (Jd (Ja ?_)));refine wpAny_nsSet1 (s:={s with toks:=s.toks + 1}) I.ns λh' Ri FR=>?_;obtain⟨oD,esD,epD,hoD,hdD,hcD⟩:=Ri.count (PySem.Within.cons name v hw);refine Ja (wpAny_lookBehind hoD (by rw[hdD];exact pastItsLine_dict (A7 hcD (by rw[Bv];omega))) ?_);exact Jd (h _ ⟨(FR.2 _ (Yr I.ne)).trans I.obj,Ri,I.ne⟩ FR)
def lE{R:Result->Shared->Prop}{vs:LU}{kw:List (Str×Value)}(X:K.In s.heap)(hm:W.makesIn K C=true)
  (hi:W.findIn K (.ref C) "__init__"=some (some (.ref f))) (hf:W.typeIn K (.ref f)=some (.type "function"))
  (h:codeAny (model prog w) (A.under (.builtin "type.__call__" ⟨.ref C :: vs,kw⟩)) (.call (.ref f) ⟨.ref (s.heap.objs.size + 1):: vs,kw⟩) (W.InitBack (s.heap.objs.size + 1) R)
   {s with heap:=(s.heap.push W.emptyDict).push (W.instObj C s.heap.objs.size) }):
  codeAny (model prog w) A (.call (.ref C) ⟨vs,kw⟩) R s:=by
 obtain⟨hh,g,d,t,os⟩:=s;exact W.make_core (W.makes_of X hm) (W.looks_findIn X hi) (λself=>W.bind_fn X self hf) (.inl rfl) h
end
def Bi(f:Str)(v:V):List (Str×V)->List (Str×V)
 | []=>[(f,v)]
 | (g,x):: r=>if g=f then(g,v):: r else(g,x):: Bi f v r
theorem Ea(f g:Str)(v:V):∀ fs:List (Str×V),(Bi f v fs).lookup g=if g=f then some v else fs.lookup g
 | []=>by
  show List.lookup g [(f,v)]=_;by_cases h:g=f
  ·have hb:(g == f)=true:=beq_iff_eq.mpr h;simp only[List.lookup,hb,if_pos h]
  ·have hb:(g == f)=false:=JL.mpr h;simp only[List.lookup,hb,if_neg h]
 | (k,x):: r=>by
  have ih:=Ea f g v r;rw[show Bi f v ((k,x):: r)=(if k=f then(k,v):: r else(k,x):: Bi f v r)from rfl];by_cases hk:k=f
  ·rw[if_pos hk];by_cases h:g=k
   ·have hb:(g == k)=true:=beq_iff_eq.mpr h;simp only[List.lookup,hb,if_pos (h.trans hk)]
   ·have hb:(g == k)=false:=JL.mpr h;simp only[List.lookup,hb,if_neg (λe:g=f=>h (e.trans hk.symm))]
  ·rw[if_neg hk];by_cases h:g=k
   ·have hb:(g == k)=true:=beq_iff_eq.mpr h;simp only[List.lookup,hb,if_neg (λe:g=f=>hk (h.symm.trans e))]
   ·have hb:(g == k)=false:=JL.mpr h;simp only[List.lookup,hb];exact ih
theorem Vo(f:Str)(v:V):∀ fs:List (Str×V),f∈(Bi f v fs).map (·.1)/\∀ g,g∈fs.map (·.1)->g∈(Bi f v fs).map (·.1)
 | []=>⟨by simp[Bi],λg h=>by simp at h⟩
 | (k,x):: r=>by
  obtain⟨i1,i2⟩:=Vo f v r;rw[show Bi f v ((k,x):: r)=(if k=f then(k,v):: r else(k,x):: Bi f v r)from rfl];by_cases hk:k=f
  ·rw[if_pos hk];subst hk;exact⟨G,λg h=>by simpa using h⟩
  ·rw[if_neg hk];refine⟨?_,λg h=>?_⟩
   ·rw[Yo];exact FH _ i1
   ·rw[Yo]at h ⊢
    rcases Yw.mp h with e | e
    ·exact Yw.mpr (.inl e)
    ·exact FH _ (i2 g e)
theorem cm(f:Str)(v:V):∀ fs:List (Str×V),(Bi f v fs).length<=fs.length + 1
 | []=>by simp[Bi]
 | (k,x):: r=>by
  have ih:=cm f v r;rw[show Bi f v ((k,x):: r)=(if k=f then(k,v):: r else(k,x):: Bi f v r)from rfl];by_cases hk:k=f
  ·rw[if_pos hk,Bv,Bv];omega
  ·rw[if_neg hk,Bv,Bv];omega
def EL.some_of{v:V}{o:OU}(r:EL (some v) o):∃ u,o=some u/\AX v u:=by
 cases o with
 | none=>exact(show False from r).elim
 | some u=>exact⟨u,Y,r⟩
def EL.none_of{o:OU}(r:EL none o):o=none:=by
 cases o with
 | none=>rfl
 | some u=>exact(show False from r).elim
def m4{v:V}{u:Value}(r:AX v u):W.handedIn u=true:=by
 cases v with
 | non=>cases(show u=Value.none from r);rfl
 | bl b=>cases(show u=Value.bool b from r);rfl
 | int i=>obtain⟨t,e⟩:=(show ∃ t,u=Value.int i t from r);cases e;rfl
 | str x=>obtain⟨t,e⟩:=(show ∃ t,u=Value.str x t from r);cases e;rfl
 | byt b=>obtain⟨t,e⟩:=(show ∃ t,u=Value.bytes b t from r);cases e;rfl
 | flt b=>obtain⟨t,e⟩:=(show ∃ t,u=Value.float b t from r);cases e;rfl
 | ref a=>cases(show u=Value.ref a from r);rfl
 | ty n=>cases(show u=Value.type n from r);rfl
section
variable {P:Program}{w:World}{H H':Hp}{h h':Heap}{a C dx:Addr}{fs Bx:List (Str×V)}
def R_(hok:Bf P w H h)(e:H a=some (.ins C dx fs)):∃ mA,L5 h a dx C mA/\(∀ f,EL (fs.lookup f) (mA f))/\PySem.Within mA (fs.map (·.1))/\fs.length<=1000/\H dx=some (.own a):=by
 obtain⟨d,z,ne,ob,mA,n,r,q⟩:=(show BO P w H h a (.ins C dx fs)from hok a _ e);exact⟨mA,⟨ob,n,ne⟩,r,q,z,d⟩
end
structure Gn(K:Fg)(C:Addr):Prop where
 pg:W.plainGet K C Str.empty=true
 hd:W.hasDictIn K C=true
 po:W.plainOver K C=true
 sa:W.findIn K (.ref C) "__setattr__"=some (some (.builtin "object.__setattr__"))
def Gn.get{K:Fg}{C:Addr}(c:Gn K C)(f:Str):W.plainGet K C f=true:=c.pg
def HE(K:Fg)(C:Addr)(f:Str):Prop:=W.findIn K (.ref C) f=some none
def HE.taker{K:Fg}{C:Addr}{f:Str}(n:HE K C f):W.takerIn K C f=some none:=by
 unfold W.takerIn;rw[show W.findIn K (.ref C) f=some none from n];rfl
structure yN(K:Fg)(C:Addr)(f:Str)(v:V)(u:Value):Prop where
 at_:W.findIn K (.ref C) f=some (some u)
 rel:AX v u
 get:W.specialIn K u "__get__"=some none
 cp:W.copiedNames.contains f=false
structure Tc(K:Fg)(C:Addr)(m:Str)(f:Addr):Prop where
 at_:W.findIn K (.ref C) m=some (some (.ref f))
 fn:W.isFn K (.ref f)=true
 kp:W.keepIn K (.ref f)=true
section
variable {X:Cx}{pins:PL}{σ:St}{H:Hp}{s:Shared}{a C dx:Addr}{fs:List (Str×V)}{f:Str}{v:V}{A:Around}{E:EV}
def pT{b:Bool}{Q:EV}(I:Inv X pins σ H s)(e:H a=some (.ins C dx fs))(c:Gn X.K C)(n:HE X.K C f)(l:fs.lookup f=some v)
  (h:∀ u s',Inv X pins σ H s'->AX v u->Q u s'):wpAny (model X.prog X.w) A (getAttr (.ref a) f b) Q E s:=by
 obtain⟨mA,O,r,_,_,_⟩:=R_ I.hok e;obtain⟨u,hu,ru⟩:=EL.some_of (v:=v) (o:=mA f) (by rw[<- l];exact r f);exact uJ I.kIn O (c.get f) c.hd n hu (m4 ru) (h u _ (I.tok _) ru)
def cF{m:Str}{g:Addr}{pl:Sem Bool}{Q:Value×LU->Shared->Prop}(I:Inv X pins σ H s)(e:H a=some (.ins C dx fs))(c:Gn X.K C)(k:Tc X.K C m g)(l:fs.lookup m=none)
  (h:Q (.ref g,[.ref a]) s):wpAny (model X.prog X.w) A (getMethod (.ref a) m pl) Q E s:=by
 obtain⟨mA,O,r,_,_,_⟩:=R_ I.hok e;have hn:mA m=none:=EL.none_of (by rw[<- l];exact r m);exact lx I.kIn O (c.get m) k.at_ k.fn hn h
def p4{y:V}{u:Value}{Q:Unit->Shared->Prop}(I:Inv X pins σ H s)(e:H a=some (.ins C dx fs))(c:Gn X.K C)(n:HE X.K C f)(hl:fs.length<1000)(ry:AX y u)
  (h:∀ s',Inv X pins σ (upd H a (.ins C dx (Bi f y fs))) s'->Q () s'):wpAny (model X.prog X.w) A (setAttr (.ref a) f u) Q E s:=by
 obtain⟨mA,O,r,wi,_,ho⟩:=R_ I.hok e;have hz:(fs.map (·.1)).length<=sizeLine:=by rw[Ya,sizeLine_eq];omega
 refine vO I.kIn O c.sa c.po n.taker c.hd wi hz λh' O' sb=>h _ ?_;have hd:∃ o,h'.get? dx=some o:=let⟨o,_,_,e',_⟩:=O'.ns;⟨o,e'⟩;refine I.write (x:=a) (e:=dx) (by rw[e];exact True.intro) (.inr ho) (λb q hb z=>(sb.2 b hb).trans z) hd ?_;refine⟨by rw[AD O.ne];exact ho,?_,O.ne,O'.obj,_,O'.ns,λg=>?_,λg hg=>?_⟩
 ·have:=cm f y fs;omega
 ·show EL ((Bi f y fs).lookup g) (if g=f then some u else mA g);rw[Ea];by_cases q:g=f
  ·rw[if_pos q,if_pos q];exact ry
  ·rw[if_neg q,if_neg q];exact r g
 ·by_cases q:g=f
  ·rw[q];exact(Vo f y fs).1
  ·refine(Vo f y fs).2 g (wi g λz=>hg ?_);show(if g=f then some u else mA g)=none;rw[if_neg q];exact z
def Inv.made(I:Inv X pins σ H s):Inv X pins σ (upd (upd H s.heap.objs.size (.own (s.heap.objs.size + 1))) (s.heap.objs.size + 1) (.ins C s.heap.objs.size []))
  {s with heap:=(s.heap.push W.emptyDict).push (W.instObj C s.heap.objs.size) }:=by
 have e1:(s.heap.push W.emptyDict).get? s.heap.objs.size=some W.emptyDict:=Yk s.heap rfl;have e2:((s.heap.push W.emptyDict).push (W.instObj C s.heap.objs.size)).get? (s.heap.objs.size + 1)=some (W.instObj C s.heap.objs.size):=by
  have:=Yk (s.heap.push W.emptyDict) (o:=W.instObj C s.heap.objs.size) rfl
  rwa [Ec]at this
 have e3:(s.heap.push W.emptyDict).Ns s.heap.objs.size (λ_=>none):=⟨W.emptyDict,#[],_,e1,Y,(λe he=>absurd he (by simp)),λ_=>rfl⟩;have I1:=I.laid (a:=s.heap.objs.size) (o:=.own (s.heap.objs.size + 1)) (h':=s.heap.push W.emptyDict) (t':=s.toks) (λb u q=>Yd _ q) (Yf _) ⟨_,e1⟩;refine I1.laid (a:=s.heap.objs.size + 1) (o:=.ins C s.heap.objs.size []) (t':=s.toks) (λb u q=>Yd _ q) (Nat.le_of_eq (Ec _ _)) ?_;have ne:s.heap.objs.size≠s.heap.objs.size + 1:=A8 (Nat.lt_succ_self _);refine⟨by rw[AD ne,uS],BF _,ne,e2,λ_=>none,(Heap.Ns1.of_empty e3).at λo q=>Yd _ q,λ_=>True.intro,λy hy=>absurd rfl hy⟩
def t6{prog:Program}{w:World}{env:Env}{e:Expr}{f:Str}{pos:Pos}{s:Shared}{Q:EV}(hb:attributeBase e f env (eval e env)=eval e env)
  (h:wpAny (model prog w) A (eval e env) (λo s₁=>wpAny (model prog w) A (getAttr o f true) Q E s₁) E s):wpAny (model prog w) A (eval (.Attribute e f pos) env) Q E s :=
 Attribute_any_ h (by rw[arm_eval_Attribute,hb])
end
def fg(K:Fg)(ta:TE)(f:Str):TE:=λσ H Q=>ta σ H λx H1=>∃ a C dx fs v,x=.ref a/\H1 a=some (.ins C dx fs)/\Gn K C/\HE K C f/\fs.lookup f=some v/\Q v H1
def wg(K:Fg)(ta tv:TE)(f:Str):TS:=λD σ H=>tv σ H λy H1=>ta σ H1 λx H2=>∃ a C dx fs,x=.ref a/\H2 a=some (.ins C dx fs)/\Gn K C/\HE K C f/\fs.length<1000 /\
 D.nx σ (upd H2 a (.ins C dx (Bi f y fs)))
section
variable {X:Cx}{o e value:Expr}{f:Str}{pos pos' Ew:Pos}{ta tv:TE}
def HI(he:PE X e ta)(hb:attributeBase e f X.env (eval e X.env)=eval e X.env):PE X (.Attribute e f pos) (fg X.K ta f):=by
 ac_rfl;refine t6 hb (AM (he pins s σ H _ I h) λu s1 ⟨x,H1,I1,rx,a,C,dx,fs,v,ex,ea,c,n,l,q⟩=>?_);subst ex;obtain rfl:u=Value.ref a:=rx;exact pT I1 ea c n l λu' s2 I2 ru=>⟨v,H1,I2,ru,q⟩
def O8(ha:PE X o ta)(hv:PE X value tv)(hs:swapsWith value (some (.Attribute o f pos')) pos.line X.env=pure false):PS X (.Assign [.Attribute o f pos'] value pos) (wg X.K ta tv f):=by
 intro pins s σ H D I h;refine plainObj_wpAny_Assign_Attribute (AM (hv pins s σ H _ I h) λu s1 ⟨y,H1,I1,ry,q⟩=>AM (ha pins s1 σ H1 _ I1 q) λov s2 ⟨x,H2,I2,rx,a,C,dx,fs,ex,ea,c,n,l,q2⟩=>?_) hs;subst ex;obtain rfl:ov=Value.ref a:=rx;exact p4 I2 ea c n l ry λs3 I3=>⟨σ,_,I3,q2⟩
end
section
variable {X:Cx}{pins:PL}{σ:St}{H:Hp}{s:Shared}{A:Around}{E:EV}{Q:EV}{c:Value}{b:Bool}
inductive Fd(K:Fg)(H:Hp):V->Value->Prop where
 | non:Fd K H .non (.type "NoneType")
 | bl (x:Bool):Fd K H (.bl x) (.type "bool")
 | int (i:Int):Fd K H (.int i) (.type "int")
 | str (x:Str):Fd K H (.str x) (.type "str")
 | flt (x:UInt64):Fd K H (.flt x) (.type "float")
 | lst {a:Addr} {xs:LV} (e:H a=some (.lst xs)):Fd K H (.ref a) (.type "list")
 | frz {a:Addr} {o:Obj} {xs:LV} (e:H a=some (.frz o (.lst xs))):Fd K H (.ref a) (.type "list")
 | tup {a:Addr} {xs:LV} (e:H a=some (.tup xs)):Fd K H (.ref a) (.type "tuple")
 | dK {a:Addr} {kvs:KL} (e:H a=some (.dK kvs)):Fd K H (.ref a) (.type "dict")
 | dT {a:Addr} {kvs:List (List Key×V)} (e:H a=some (.dT kvs)):Fd K H (.ref a) (.type "dict")
 | ins {a C dx:Addr} {fs:List (Str×V)} (e:H a=some (.ins C dx fs)) (cl:Gn K C) (ha:W.findIn K (.ref C) "__class__"=some (some (.builtin "object.__class__")))
   (hn:W.specialIn K (.builtin "object.__class__") "__get__"=some (some (.builtin "getset_descriptor.__get__"))) (htk:W.takesIn K (.builtin "object.__class__")=some true)
   (hm:W.mroIn K C (.type "object")=some true):Fd K H (.ref a) (.ref C)
def nR{x:V}{u t:Value}(I:Inv X pins σ H s)(rx:AX x u)(ty:Fd X.K H x t)(e:W.kitOne X.K t c=some b)(h:∀ tk,Q (.bool b) {s with toks:=tk}):
  wpAny (model X.prog X.w) A (call (.builtin "isinstance") [u,c]) Q E s:=by
 cases ty with
 | non=>cases(show u=Value.none from rx);exact W.kia_one W.kitx_none I.kIn True.intro e (λz=>nomatch z) h
 | bl y=>cases(show u=Value.bool y from rx);exact W.kia_one W.kitx_bool I.kIn True.intro e (λz=>nomatch z) h
 | int i=>obtain⟨t,q⟩:=(show ∃ t,u=Value.int i t from rx);cases q;exact W.kia_one W.kitx_int I.kIn True.intro e (λz=>nomatch z) h
 | str y=>obtain⟨t,q⟩:=(show ∃ t,u=Value.str y t from rx);cases q;exact W.kia_one W.kitx_str I.kIn True.intro e (λz=>nomatch z) h
 | flt y=>obtain⟨t,q⟩:=(show ∃ t,u=Value.float y t from rx);cases q;exact W.kia_one W.kitx_float I.kIn True.intro e (λz=>nomatch z) h
 | @lst a xs ea =>
  cases(show u=Value.ref a from rx);obtain⟨_,_,n,_,h1⟩:=(show BO X.prog X.w H s.heap a (.lst xs)from I.hok a _ ea);exact W.kia_one W.kitx_list I.kIn ⟨_,h1,Y⟩ e (λz=>nomatch z) h
 | @frz a ob xs ea =>
  cases(show u=Value.ref a from rx);obtain⟨_,_,_,n,_,h1⟩:=(show BO X.prog X.w H s.heap a (.frz ob (.lst xs))from I.hok a _ ea);exact W.kia_one W.kitx_list I.kIn ⟨_,h1,Y⟩ e (λz=>nomatch z) h
 | @tup a xs ea =>
  cases(show u=Value.ref a from rx);obtain⟨_,_,_,p⟩:=(show BO X.prog X.w H s.heap a (.tup xs)from I.hok a _ ea);obtain⟨o,h1,h2,_⟩:=p;exact W.kia_one W.kitx_tuple I.kIn ⟨o,h1,h2⟩ e (λz=>nomatch z) h
 | @dK a kvs ea =>
  cases(show u=Value.ref a from rx);obtain⟨_,_,vs,_,p⟩:=(show BO X.prog X.w H s.heap a (.dK kvs)from I.hok a _ ea);obtain⟨o,es,ep,h1,h2,_⟩:=p;exact W.kia_one W.kitx_dict I.kIn ⟨o,h1,h2.1⟩ e (λz=>nomatch z) h
 | @dT a kvs ea =>
  cases(show u=Value.ref a from rx);obtain⟨_,_,xs,_,o,es,ep,h1,h2,_⟩:=(show BO X.prog X.w H s.heap a (.dT kvs)from I.hok a _ ea);exact W.kia_one W.kitx_dict I.kIn ⟨o,h1,h2.1⟩ e (λz=>nomatch z) h
 | @ins a C dx fs ea cl ha hn htk hm =>
  cases(show u=Value.ref a from rx);obtain⟨mA,O,_⟩:=R_ I.hok ea;obtain⟨od,J,_⟩:=O.look;exact W.kia_one (W.kitx_own (cl.get _) cl.hd ha hn htk hm) I.kIn J e (λz=>nomatch z) h
end
structure AU(k:Nat)(A:Around):Prop where
 hd:A.handled=none
 dp:A.depth + 3 * k + 5<recursionLimit
 un:A.units + 16 * k + 200<cLine
 gd:A.guards=some []
def AU.mono{j k:Nat}{A:Around}(r:AU k A)(h:j<=k):AU j A:=⟨r.hd,by have:=r.dp;omega,by have:=r.un;omega,r.gd⟩
theorem AU.deeper{k:Nat}{A:Around}(r:AU (k + 1) A)(env:Env):AU k (A.deeper env):=
 ⟨r.hd,by have:=r.dp;show A.depth + 1 + 3 * k + 5<_;omega,by have:=r.un;show A.units + 3 + 16 * k + 200<_;omega,r.gd⟩
theorem AU.in1{k:Nat}{A:Around}(r:AU (k + 1) A):AU k A.in1 :=
 ⟨r.hd,by have:=r.dp;show A.depth + 3 * k + 5<_;omega,by have:=r.un;show A.units + 1 + 16 * k + 200<_;omega,r.gd⟩
def oh{A:Around}{C:Addr}{us:LU}{kw:List (Str×Value)}:(A.under (.builtin "type.__call__" ⟨.ref C :: us,kw⟩)).depth=A.depth + 1:=by
 first | rfl | simp[Around.under,Code.weight,Code.isCreation,Code.isGuard,Code.isCaller,Code.frames,Code.isFrame,guardIds]
def oi{A:Around}{C:Addr}{us:LU}{kw:List (Str×Value)}:(A.under (.builtin "type.__call__" ⟨.ref C :: us,kw⟩)).units=A.units + 1:=by
 first | rfl | simp[Around.under,Code.cUnits,Code.frames,Code.isFrame]
def AU.make{k:Nat}{A:Around}(r:AU (k + 1) A)(C:Addr)(us:LU)(kw:List (Str×Value)):AU k (A.under (.builtin "type.__call__" ⟨.ref C :: us,kw⟩)):=
 ⟨r.hd,by have:=r.dp;rw[oh];omega,by have:=r.un;rw[oi];omega,by first | exact r.gd | simpa[Around.under,Code.guards,Code.isGuard,guardIds,pushGuards]using r.gd⟩
theorem AU.depth{k:Nat}{A:Around}(r:AU k A):A.depth<recursionLimit:=by have:=r.dp;omega
theorem AU.units{k:Nat}{A:Around}(r:AU k A):A.units + 64<cLine:=by have:=r.un;omega
def AU.units0{k:Nat}{A:Around}(r:AU k A):A.units<cLine:=by have:=r.un;omega
def Ta:TA:=λ_ H Q=>Q [] H
def Wn(ta:TE)(tr:TA):TA:=λσ H Q=>ta σ H λx H1=>tr σ H1 λxs H2=>Q (x :: xs) H2
section
variable {X:Cx}{e:Expr}{es:List Expr}{te:TE}{t:TA}{pos:Pos}
def AB:PA X [] Ta:=λ_ _ _ _ H Q I h=>Calls.spliced_nil ⟨[],H,I,.nil,h⟩
def pC(ha:PE X e te)(hr:PA X es t)(hs:starEach (e :: es) X.env=(false,eval e X.env):: starEach es X.env:=by rfl):PA X (e :: es) (Wn te t):=by
 intro pos pins s σ H Q I h;rw[hs];show wpAny _ _ (spliced ((false,eval e X.env):: backTo pos (starEach es X.env))) _ _ s;refine Calls.spliced_cons (AM (ha pins s σ H _ I h) λu s1 ⟨x,H1,I1,r1,q1⟩=>?_);exact AM (hr pos pins s1 σ H1 _ I1 q1) λus s2 ⟨xs,H2,I2,r2,q2⟩=>⟨x :: xs,H2,I2,.cons r1 r2,q2⟩
def WZ(t:TA):TE:=λσ H Q=>t σ H λxs H1=>xs.length<=sizeLine/\∀ p,H1 p=none->Q (.ref p) (upd H1 p (.tup xs))
def wY(t:TA):TE:=λσ H Q=>t σ H λxs H1=>xs.length<=sizeLine/\∀ p,H1 p=none->Q (.ref p) (upd H1 p (.lst xs))
def CP{x1}(h:PA X es t):PE X (.Tuple es x1 pos) (WZ t):=by
 intro pins s σ H Q I hq;refine wpAny_Tuple_spliced (AM (h pos pins s σ H _ I hq) λus s1 ⟨xs,H1,I1,r,z,q⟩=>⟨by rw[<- r.length];exact z,?_⟩);have hf:H1 s1.heap.objs.size=none:=I1.hok.fresh (Yf _);refine⟨.ref s1.heap.objs.size,upd H1 s1.heap.objs.size (.tup xs),I1.laid (t':=s1.toks) (λb u e=>Yd _ e) (Yf _) ?_,Y,q _ hf⟩;exact⟨z,us,r,⟨_,Yk _ rfl,Y,Z⟩⟩
def B4(h:PA X es t):PE X (.List es pos) (wY t):=by
 intro pins s σ H Q I hq;refine wpAny_List_spliced (AM (h pos pins s σ H _ I hq) λus s1 ⟨xs,H1,I1,r,z,q⟩=>⟨by rw[<- r.length];exact z,?_⟩);have hf:H1 s1.heap.objs.size=none:=I1.hok.fresh (Yf _);refine⟨.ref s1.heap.objs.size,upd H1 s1.heap.objs.size (.lst xs),I1.laid (t':=s1.toks) (λb u e=>Yd _ e) (Yf _) ?_,Y,q _ hf⟩;exact⟨z,us,0,r,Yk _ rfl⟩
end
abbrev Sp:=LV->Hp->VK->XK->Prop
abbrev Gp:=List Env->Hp->Shared->XK->Value->Shared->Prop
structure E1(P:Program)(w:World)(K:Fg)(mg:Str->OU)(base:Heap)(A:Around)(outer:List Env)(s:Shared)(H:Hp):Prop where
 frames:A.frames=some outer
 mod:Mod K mg base
 bs:∀ b o,base.get? b=some o->s.heap.get? b=some o/\H b=none
 bsz:base.objs.size<=s.heap.objs.size
 funs:s.heap.FunFrames base outer
 frf:∀ b∈F3 outer,H b=none
 hok:Bf P w H s.heap
 bare:AllBare s.gens
def CE(outer:List Env)(P:Program)(w:World)(H:Hp)(s:Shared)(Q:VK)(u:Value)(s':Shared):Prop :=
 ∃ v H',s'.os=s.os/\AllBare s'.gens/\Un (F3 outer) [] H H' s.heap s'.heap/\Bf P w H' s'.heap/\AX v u/\Q v H'
def CR(CX:Gp)(outer:List Env)(P:Program)(w:World)(H:Hp)(s:Shared)(Q:VK)(E:XK)(r:Result)(s':Shared):Prop :=
 match r with
 | .ok (.ret u)=>CE outer P w H s Q u s'
 | .ok _=>False
 | .error e=>CX outer H s E e s'
structure FG(P:Program)(w:World)(K:Fg)(mg:Str->OU)(base:Heap)(CX:Gp)(k:Nat)(f:Addr)(fd:FuncData)(ps:LS)(sp:Sp):Prop where
 len:∀ vs H Q E,sp vs H Q E->vs.length=ps.length
 run:∀(A:Around) (outer:List Env) (s:Shared) (H:Hp) (args:Args) (us:LU) (vs:LV) (Q:VK) (E:XK),AU k A->E1 P w K mg base A outer s H->BindsTo s fd args (ps.zip us)->AQ vs us->sp vs H Q E ->
  codeAny (model P w) A (.call (.ref f) args) (CR CX outer P w H s Q E) s
def E1.make{P:Program}{w:World}{K:Fg}{mg:Str->OU}{base:Heap}{A:Around}{outer:List Env}{s:Shared}{H:Hp}(e:E1 P w K mg base A outer s H)(C:Addr)(us:LU)(kw:List (Str×Value)):
  E1 P w K mg base (A.under (.builtin "type.__call__" ⟨.ref C :: us,kw⟩)) outer s H:=⟨by first | exact e.frames | (simpa[Around.under,Code.envs,Code.isFrame,pushEnvs]using e.frames),e.mod,e.bs,e.bsz,e.funs,e.frf,e.hok,e.bare⟩
section
variable {X:Cx}{pins:PL}{σ:St}{H:Hp}{s s':Shared}
def Inv.env0(I:Inv X pins σ H s):E1 X.prog X.w X.K X.mg X.base X.A X.stack s H :=
 ⟨I.ok.frames,I.ok.mod,I.bs,A7 I.ok.bsz I.sz,I.stack,I.stkFree,I.hok,I.bare⟩
def Inv.after{Q:VK}{u:Value}(I:Inv X pins σ H s)(h:CE X.stack X.prog X.w H s Q u s'):EP X pins σ Q u s':=by
 obtain⟨v,H',os,bare,un,hok,r,q⟩:=h;obtain⟨hh,g,d,t,IT⟩:=s';obtain rfl:IT=s.os:=os;exact⟨v,H',I.call (h':=hh) (g':=g) (d':=d) (t':=t) (ch:=[]) un hok bare (λb z=>absurd z (by simp)),r,q⟩
end
def gn(sp:Sp)(Cn:LV)(E:XK)(t:TA):TE:=λσ H Q=>t σ H λvs H1=>sp (vs++Cn) H1 Q E
def gp(C:Addr)(m:Str)(sp:Sp)(Cn:LV)(E:XK)(ta:TE)(t:TA):TE:=λσ H Q=>ta σ H λx H1=>∃ a dx fs,x=.ref a/\H1 a=some (.ins C dx fs)/\fs.lookup m=none /\
 t σ H1 λvs H2=>sp (x :: (vs++Cn)) H2 Q E
def rJ(C:Addr)(sp:Sp)(Cn:LV)(E:XK)(t:TA):TE:=λσ H Q=>t σ H λvs H1=>∀ x dx,H1 x=none->H1 dx=none->dx≠x ->
 sp (.ref x :: (vs++Cn)) (upd (upd H1 dx (.own x)) x (.ins C dx [])) (λv H2=>v=.non/\Q (.ref x) H2) E
def C6(K:Fg)(fd:FuncData)(ps:LS)(ds:LU):Prop :=
 ∀(s:Shared) (us:LU),K.In s.heap->(us++ds).length=ps.length->BindsTo s fd ⟨us,[]⟩ (ps.zip (us++ds))
def C6.all{K:Fg}{ps:LS}(h:∀ us:LU,us.length=ps.length->bindArgs fd ⟨us,[]⟩=pure (ps.zip us)):C6 K fd ps []:=λs us _ hl=>by
 rw[Gg]at hl ⊢;exact .of_eq (h us hl)
def LZ(CX:Gp)(X:Cx)(E:XK):Prop:=∀(pins:PL) (σ:St) (H:Hp) (s:Shared) (e:Value) (s':Shared),Inv X pins σ H s->CX X.stack H s E e s'->X.xe e s'
section
variable {X:Cx}{CX:Gp}{k:Nat}{f C:Addr}{fd:FuncData}{ps:LS}{sp:Sp}{Cn:LV}{ds:LU}{E:XK}{x m:Str}{p pos apos:Pos}{e o:Expr}{es:List Expr}{ta:TE}{t:TA}
def U_{pins:PL}{σ:St}{H:Hp}{s:Shared}{Q:VK}{us:LU}{vs:LV}(F:FG X.prog X.w X.K X.mg X.base CX k f fd ps sp)(hr:AU k X.A)(hb:C6 X.K fd ps ds)(hd:AQ Cn ds)(hx:LZ CX X E)
  (I:Inv X pins σ H s) (r:AQ vs us) (h:sp (vs++Cn) H Q E):wpAny (model X.prog X.w) X.A (call (.ref f) us) (EP X pins σ Q) X.xe s:=by
 have r2:AQ (vs++Cn) (us++ds):=r.append hd;have hl:(us++ds).length=ps.length:=by rw[<- r2.length];exact F.len _ _ _ _ h
 refine wpAny_call (codeAny_mono (F.run X.A X.stack s H ⟨us,[]⟩ (us++ds) (vs++Cn) Q E hr I.env0 (hb s us I.kIn hl) r2 h) λr s' hq=>?_);cases r with
 | error e=>exact hx pins σ H s e s' I hq
 | ok fl =>
  cases fl with
  | ret u=>exact I.after hq
  | next=>exact False.elim hq
  | brk=>exact False.elim hq
  | cont=>exact False.elim hq
def uz(F:FG X.prog X.w X.K X.mg X.base CX k f fd ps sp)(hr:AU k X.A)(hg:Gl X x)(hm:X.mg x=some (.ref f))(hk:W.keepIn X.K (.ref f)=true)(hb:C6 X.K fd ps ds)(hd:AQ Cn ds)(hx:LZ CX X E)
  (ha:PA X (e :: es) t) (hdb:(x == ("__debug__":Str))=false:=by decide) (he:starEach (e :: es) X.env=(false,eval e X.env):: starEach es X.env:=by rfl) (hpl:(backTo pos (starEach es X.env)).any (·.1)=false:=by rfl):
  PE X (.Call (.Name x p) (e :: es) [] pos) (gn sp Cn E t):=by
 ac_rfl;refine wpAny_Call_Name_kw (VH I hg hm ?_ hdb);refine W.callWith_K (h₀:=X.base) I.ok.mod.kin hk (AM (ha pos pins s σ H _ I h) λus s1 ⟨vs,H1,I1,r,q⟩=>⟨I1.kIn,?_⟩) he hpl;exact U_ F hr hb hd hx I1 r q
def Dc{pl:Sem Bool}(he:PE X o ta)(c:Gn X.K C)(hm:Tc X.K C m f)(F:FG X.prog X.w X.K X.mg X.base CX k f fd ps sp)(hr:AU k X.A)(hb:C6 X.K fd ps ds)(hd:AQ Cn ds)(hx:LZ CX X E)(ha:PA X (e :: es) t)
  (hst:starEach (e :: es) X.env=(false,eval e X.env):: starEach es X.env:=by rfl) (hpl:(backTo pos (starEach es X.env)).any (·.1)=false:=by rfl)
  (ht:eval (.Call (.Attribute o m apos) (e :: es) [] pos) X.env=(do
   let ov <- eval o X.env
   standAt apos.atName
   let(f,first) <- holding [ov] (getMethod ov m pl)
   callWith pos f first (backTo pos (starEach (e :: es) X.env)) (backToKw pos (keywordEach [] X.env))):=by rfl):
  PE X (.Call (.Attribute o m apos) (e :: es) [] pos) (gp C m sp Cn E ta t):=by
 ac_rfl;refine W.methodCall_KW (pl:=pl) (AM (he pins s σ H _ I h) λu s1 ⟨x,H1,I1,rx,a,dx,fs,ex,ea,l,q⟩=>?_) ht;subst ex;obtain rfl:u=Value.ref a:=rx;refine cF I1 ea c hm l ?_;refine W.callWith_K (first:=[.ref a]) (h₀:=X.base) I.ok.mod.kin hm.kp (AM (ha pos pins s1 σ H1 _ I1 q) λus s2 ⟨vs,H2,I2,r,q2⟩=>⟨I2.kIn,?_⟩) hst hpl;exact U_ (us:=.ref a :: us) (vs:=.ref a :: vs) F hr hb hd hx I2 (.cons rfl r) q2
def C8{pl:Sem Bool}(he:PE X o ta)(c:Gn X.K C)(hm:Tc X.K C m f)(F:FG X.prog X.w X.K X.mg X.base CX k f fd ps sp)(hr:AU k X.A)(hb:C6 X.K fd ps ds)(hd:AQ Cn ds)(hx:LZ CX X E)
  (ht:eval (.Call (.Attribute o m apos) [] [] pos) X.env=(do
   let ov <- eval o X.env
   standAt apos.atName
   let(f,first) <- holding [ov] (getMethod ov m pl)
   callWith pos f first (backTo pos (starEach [] X.env)) (backToKw pos (keywordEach [] X.env))):=by rfl):
  PE X (.Call (.Attribute o m apos) [] [] pos) (gp C m sp Cn E ta Ta):=by
 ac_rfl;refine W.methodCall_KW (pl:=pl) (AM (he pins s σ H _ I h) λu s1 ⟨x,H1,I1,rx,a,dx,fs,ex,ea,l,q⟩=>?_) ht;subst ex;obtain rfl:u=Value.ref a:=rx;refine cF I1 ea c hm l ?_;exact W.callWith_K0 (first:=[.ref a]) I1.kIn hm.kp (U_ (us:=[.ref a]) (vs:=[.ref a]) F hr hb hd hx I1 (.cons rfl .nil) q)
structure Mk(K:Fg)(C f:Addr):Prop where
 makes:W.makesIn K C=true
 init:W.findIn K (.ref C) "__init__"=some (some (.ref f))
 fn:W.isFn K (.ref f)=true
 kp:W.keepIn K (.ref C)=true
def mG{pins:PL}{σ:St}{H:Hp}{s:Shared}{Q:VK}{us:LU}{vs:LV}(M:Mk X.K C f)(F:FG X.prog X.w X.K X.mg X.base CX k f fd ps sp)(hr:AU (k + 1) X.A)(hb:C6 X.K fd ps ds)(hd:AQ Cn ds)
  (hx:LZ CX X E) (I:Inv X pins σ H s) (r:AQ vs us)
  (h:∀ x dx,H x=none->H dx=none->dx≠x->sp (.ref x :: (vs++Cn)) (upd (upd H dx (.own x)) x (.ins C dx [])) (λv H2=>v=.non/\Q (.ref x) H2) E):
  wpAny (model X.prog X.w) X.A (call (.ref C) us) (EP X pins σ Q) X.xe s:=by
 have hq:=h (s.heap.objs.size + 1) s.heap.objs.size (I.hok.fresh (IK _)) (I.hok.fresh (Yf _)) (A8 (Nat.lt_succ_self _));have I2:=Inv.made (C:=C) I;have r2:AQ (V.ref (s.heap.objs.size + 1):: (vs++Cn)) (Value.ref (s.heap.objs.size + 1):: (us++ds)):=.cons rfl (r.append hd);have hl:(Value.ref (s.heap.objs.size + 1):: us++ds).length=ps.length:=by
  have e:=r2.length;rw[F.len _ _ _ _ hq]at e;exact e.symm
 refine wpAny_call (lE (f:=f) I.kIn M.makes M.init (beq_iff_eq.mp M.fn) (codeAny_mono (F.run _ X.stack _ _ ⟨Value.ref (s.heap.objs.size + 1):: us,[]⟩ (Value.ref (s.heap.objs.size + 1):: (us++ds)) _ _ E (hr.make C us [])
  (I2.env0.make C us []) (hb _ (Value.ref (s.heap.objs.size + 1):: us) I2.kIn hl) r2 hq) λr s' Gy=>?_))
 cases r with
 | error e=>exact hx pins σ _ _ e s' I2 Gy
 | ok fl =>
  cases fl with
  | ret u =>
   obtain⟨v,H',I3,rv,ev,q3⟩:=I2.after Gy;subst ev;exact⟨rv,⟨V.ref (s.heap.objs.size + 1),H',I3,Y,q3⟩⟩
  | next=>exact False.elim Gy
  | brk=>exact False.elim Gy
  | cont=>exact False.elim Gy
def Zj(M:Mk X.K C f)(F:FG X.prog X.w X.K X.mg X.base CX k f fd ps sp)(hr:AU (k + 1) X.A)(hg:Gl X x)(hm:X.mg x=some (.ref C))(hb:C6 X.K fd ps ds)(hd:AQ Cn ds)(hx:LZ CX X E)
  (ha:PA X (e :: es) t) (hdb:(x == ("__debug__":Str))=false:=by decide) (he:starEach (e :: es) X.env=(false,eval e X.env):: starEach es X.env:=by rfl) (hpl:(backTo pos (starEach es X.env)).any (·.1)=false:=by rfl):
  PE X (.Call (.Name x p) (e :: es) [] pos) (rJ C sp Cn E t):=by
 ac_rfl;refine wpAny_Call_Name_kw (VH I hg hm ?_ hdb);refine W.callWith_K (h₀:=X.base) I.ok.mod.kin M.kp (AM (ha pos pins s σ H _ I h) λus s1 ⟨vs,H1,I1,r,q⟩=>⟨I1.kIn,?_⟩) he hpl;exact mG M F hr hb hd hx I1 r q
end
section
variable {X:Cx}{CX:Gp}{k:Nat}{f C:Addr}{fd:FuncData}{ps ks:LS}{sp:Sp}{E:XK}{x m:Str}{p pos apos kpos:Pos}{e o:Expr}{es:List Expr}{kws:List Keyword}{te ta:TE}{t tk:TA}{nm:Option Str}
structure yG(K:Fg)(fd:FuncData)(ps ks:LS)(g:LU->LU->LU)(gV:LV->LV->LV):Prop where
 to:∀(s:Shared) (us ws:LU),K.In s.heap->(g us ws).length=ps.length->BindsTo s fd ⟨us,ks.zip ws⟩ (ps.zip (g us ws))
 rel:∀ {vs:LV} {us:LU} {zs:LV} {ws:LU},AQ vs us->AQ zs ws->AQ (gV vs zs) (g us ws)
variable {g:LU->LU->LU}{gV:LV->LV->LV}
end
structure Ab(N P:LS)(sc:Scope):Prop where
 kind:sc.kind=.function
 co:sc.isCoroutine=false
 gen:sc.isGenerator=false
 nd:N.Nodup
 pre:N.take P.length=P
 par:∀ x∈P,sc.names.lookup x=some .local\/sc.names.lookup x=some .cell
 nofree:∀ y∈sc.names,y.2≠.free
theorem bA{kindOf:Str->Option NameKind}{x:Str}:∀ {binds:List (Str×Value)}{m:Str->OU},(∀ v,(x,v)∉binds)->bindL kindOf binds m x=m x
 | [],_,_=>rfl
 | (n,v):: r,m,h=>by
  unfold bindL;rw[bA λw hw=>h w (FH _ hw)];split
  ·have:x≠n:=by rintro rfl;exact h v Ma
   simp[this]
  ·rfl
theorem a9{kindOf:Str->Option NameKind}{x:Str}:∀ {binds:List (Str×Value)}{m:Str->OU},(∀ v,(x,v)∉binds)->bindC kindOf binds m x=m x
 | [],_,_=>rfl
 | (n,v):: r,m,h=>by
  unfold bindC;rw[a9 λw hw=>h w (FH _ hw)];split
  ·rfl
  ·have:x≠n:=by rintro rfl;exact h v Ma
   simp[this]
theorem a_{kindOf:Str->Option NameKind}{x:Str}{v:Value}:∀ {P:LS}{vs:LU}{i:Nat}{m:Str->OU},P.Nodup->P[i]?=some x->vs[i]?=some v->kindOf x=some .local ->
  bindL kindOf (P.zip vs) m x=some v
 | [],_,_,_,_,h,_,_=>by simp at h
 | _ :: _,[],_,_,_,_,h,_=>by simp at h
 | p :: P,w :: vs,0,m,nd,h1,h2,hk=>by
  simp at h1 h2;subst h1;subst h2;show bindL kindOf ((p,w):: P.zip vs) m p=_;unfold bindL;rw[bA λv hv=>(Ed.mp nd).1 (Kn hv).1,if_pos hk];simp
 | p :: P,w :: vs,i + 1,m,nd,h1,h2,hk=>by
  show bindL kindOf ((p,w):: P.zip vs) m x=_;unfold bindL;exact a_ (i:=i) (Ed.mp nd).2 (by simpa using h1) (by simpa using h2) hk
theorem bT{kindOf:Str->Option NameKind}{x:Str}{v:Value}:∀ {P:LS}{vs:LU}{i:Nat}{m:Str->OU},P.Nodup->P[i]?=some x->vs[i]?=some v->kindOf x≠some .local ->
  bindC kindOf (P.zip vs) m x=some v
 | [],_,_,_,_,h,_,_=>by simp at h
 | _ :: _,[],_,_,_,_,h,_=>by simp at h
 | p :: P,w :: vs,0,m,nd,h1,h2,hk=>by
  simp at h1 h2;subst h1;subst h2;show bindC kindOf ((p,w):: P.zip vs) m p=_;unfold bindC;rw[a9 λv hv=>(Ed.mp nd).1 (Kn hv).1,if_neg hk];simp
 | p :: P,w :: vs,i + 1,m,nd,h1,h2,hk=>by
  show bindC kindOf ((p,w):: P.zip vs) m x=_;unfold bindC;exact bT (i:=i) (Ed.mp nd).2 (by simpa using h1) (by simpa using h2) hk
def start(N:LS)(vs:LV):St:=vs.map some++List.replicate (N.length - vs.length) none
def ME(CX:Gp)(P:Program)(w:World)(K:Fg)(mg:Str->OU)(base:Heap)(N:LS)(qual:Str)(scope:Scope)(f:Addr)(cd:Value)(A:Around)(outer:List Env)(s:Shared)(H:Hp)(E:XK):Cx where
 prog:=P
 w:=w
 K:=K
 mg:=mg
 base:=base
 A:=A.deeper (envOfC qual scope s.heap.objs.size f cd)
 N:=N
 s₀:=s
 H₀:=H
 env:=envOfC qual scope s.heap.objs.size f cd
 outer:=outer
 stack:=envOfC qual scope s.heap.objs.size f cd :: outer
 ex:=[]
 calm:=true
 fn:=λ_=>true
 pn:=[]
 xe:=λe s'=>wpAny (model P w) (A.deeper (envOfC qual scope s.heap.objs.size f cd)) (leaving (envOfC qual scope s.heap.objs.size f cd) e) (λ_ BR=>CX outer H s E e BR) (λe' BR=>CX outer H s E e' BR) s'
def aA{sc:Scope}{n:Nat}{x:Str}(h:sc.names.lookup x=some .cell):∃ c,(cellsFrom n sc.names []).lookup x=some c:=by
 have q:=W.cellsFrom_some sc.names n [] (.inl h);exact OI.mp q
def m7{CX:Gp}{P:Program}{w:World}{K:Fg}{mg:Str->OU}{base:Heap}{N ps:LS}{qual:Str}{scope:Scope}{f:Addr}{cd:Value}{A:Around}{outer:List Env}{s s1:Shared}{H:Hp}{E:XK}{us:LU}{vs:LV}
  (S:Ab N ps scope) (hd:A.handled=none) (e0:E1 P w K mg base A outer s H) (hl:vs.length=ps.length) (r:AQ vs us)
  (x:InCallC s s.heap.objs.size (bindL (envOfC qual scope s.heap.objs.size f cd).kindOf (ps.zip us) λ_=>none) (cellsFrom (s.heap.objs.size + 1) scope.names []) (bindC (envOfC qual scope s.heap.objs.size f cd).kindOf (ps.zip us) λ_=>none) s1):
  Inv (ME CX P w K mg base N qual scope f cd A outer s H E) [] (start N vs) H s1:=by
 have hpl:ps.length<=N.length:=by have:=congrArg List.length S.pre;rw[Yx]at this;omega
 obtain⟨h1,tk,rfl,hk⟩:=x.done;have noA:∀ b:Addr,b∉(ME CX P w K mg base N qual scope f cd A outer s H E).ex:=λb z=>absurd (show b∈([]:List Addr)from z) (by simp);refine⟨⟨e0.mod,S.kind,Y,Y,Yf _,λy z c h1 h2=>?_,λy hy=>?_,λy c _ h=>?_,λ_=>hd,Around.frames_deeper e0.frames,.inr ⟨Y,Y⟩,λb z=>absurd z (noA b),e0.bs,e0.bsz,λb _ _=>noA b,λb z=>absurd z (noA b),e0.funs,e0.frf⟩,
  Y,e0.bare,Un.kept hk,⟨_,x.toInCall.ns,λi y v h1 h2 h3=>?_⟩,λy c h=>⟨_,x.cell y c h⟩,e0.hok.fresh (Yf _),λy c h=>?_,λp hp=>absurd (show p∈([]:PL)from hp) (by simp),e0.hok.kept hk,?_⟩
 ·exact name_of_addr x.apart (Dv h1) (Dv h2)
 ·have hy:scope.names.lookup y=some .cell\/scope.names.lookup y=some .free:=hy
  rcases hy with hy | hy
  ·exact aA hy
  ·exact absurd rfl (S.nofree _ (Dv hy))
 ·exact KZ (x.above y c (Dv h))
 ·have hi:i<vs.length:=by
   unfold start at h2;by_cases hi:i<vs.length
   ·exact hi
   ·rw[JP (by simpa using hi)]at h2;rw[Wr]at h2;split at h2 <;> cases h2
  have ha:vs[i]?=some v:=by
   unfold start at h2;rw[MN (by simpa using hi),Yi]at h2;cases e:vs[i]? with
   | none=>rw[e]at h2;cases h2
   | some a=>rw[e]at h2;cases h2;rfl
  obtain⟨u,hu,rv⟩:=r.get ha;have hp:ps[i]?=some y:=by
   rw[<- S.pre,Ww (by omega)];exact h1
  have ndP:ps.Nodup:=by rw[<- S.pre];exact S.nd.sublist (List.take_sublist _ _)
  refine⟨u,rv,?_⟩
  rcases S.par y (Yc hp)with k | k
  ·exact .inl ⟨k,a_ ndP hp hu k⟩
  ·obtain⟨c,e⟩:=aA (n:=s.heap.objs.size + 1) k;refine .inr ⟨.inl k,c,e,?_⟩;have q:=x.cell y c e;rw[bT ndP hp hu (by show scope.names.lookup y≠_;rw[k];decide)]at q;exact q
 ·exact e0.hok.fresh (KZ (x.above y c (Dv h)))
 ·unfold start;show _=N.length;rw[Yt,Ya,List.length_replicate];omega
def gN{CX:Gp}{P:Program}{w:World}{K:Fg}{mg:Str->OU}{base:Heap}{k:Nat}{f:Addr}{name qual:Str}{params:Arguments}{body:List Stmt}{scope:Scope}{dV kV doc pm Av ct oc:Value}{an od:Option Addr}
  {osl:Array (OU)} {N ps:LS} {sp:Sp} (lk:K.lookup f=some ⟨oc,od,.func (W.fnOf name qual params body scope dV kV doc pm an Av ct),osl⟩) (hcd:W.codeIn K Av qual=true) (S:Ab N ps scope)
  (len:∀ vs H Q E,sp vs H Q E->vs.length=ps.length)
  (hbody:∀(A:Around) (outer:List Env) (s:Shared) (H:Hp) (vs:LV) (Q:VK) (E:XK),AU k (A.deeper (envOfC qual scope s.heap.objs.size f Av))->sp vs H Q E ->
   ∃ t,CF (ME CX P w K mg base N qual scope f Av A outer s H E) body t/\t {nx:=λ_ H'=>Q .non H',rt:=Q} (start N vs) H):
  FG P w K mg base CX (k + 1) f (W.fnOf name qual params body scope dV kV doc pm an Av ct) ps sp:=by
 refine⟨len,λA outer s H args us vs Q E hr e0 hb r hsp=>?_⟩;have hl:=len _ _ _ _ hsp;have KX:K.In s.heap:=e0.mod.kin.keeps λb o e=>(e0.bs b o e).1;have lim:s.heap.NoLimit:=e0.mod.nolimit.keeps λb o e=>(e0.bs b o e).1;have hkind:∀ y∈ps.zip us,scope.names.lookup y.1=some .local\/(scope.names.lookup y.1=some .cell/\((cellsFrom (s.heap.objs.size + 1) scope.names []).lookup y.1).isSome=true):=λ⟨n,v⟩ hy=>by
  rcases S.par n (Kn hy).1 with q | q
  ·exact .inl q
  ·exact .inr ⟨q,W.cellsFrom_some _ _ _ (.inl q)⟩
 refine codeAny_call_function hr.depth (KX _ _ lk) rfl S.co S.gen rfl (W.codeRec_of KX hcd) (hb _ _ _ _ ?_);refine wpAny_newFunctionEnv_cells S.kind hkind λenv he s1 x=>?_;subst he;refine⟨lim.keeps x.toInCall.keep,codeAny_func ?_⟩;obtain⟨t,ht,hq⟩:=hbody A outer s H vs Q E (hr.deeper _) hsp;have I:Inv (ME CX P w K mg base N qual scope f Av A outer s H E) [] (start N vs) H s1:=m7 S hr.hd e0 hl r x;refine Jf (ht [] s1 (start N vs) H _ I hq) (λfl s' hs=>?_) λe s' hs=>hs;have fin:∀ {σ':St} {H':Hp} {v:V} {u:Value},Inv (ME CX P w K mg base N qual scope f Av A outer s H E) [] σ' H' s'->AX v u->Q v H'->CE outer P w H s Q u s' :=
  λ{σ' H' v u} J rv q=>⟨v,H',J.os,J.bare,J.base,J.hok,rv,q⟩
 cases fl with
 | ret u =>
  obtain⟨v,σ',H',J,rv,q⟩:=hs;exact fin J rv q
 | next =>
  obtain⟨σ',H',J,q⟩:=hs;exact fin (v:=V.non) (u:=Value.none) J rfl q
 | brk =>
  obtain⟨_,_,_,q⟩:=hs;exact False.elim q
 | cont =>
  obtain⟨_,_,_,q⟩:=hs;exact False.elim q
section
variable {X:Cx}{x:Str}{p pos:Pos}{e:Expr}{es:List Expr}{t:TA}{id T:String}{r:LV->Hp->VK->Prop}
def Xn(r:LV->Hp->VK->Prop)(t:TA):TE:=λσ H Q=>t σ H λvs H1=>r vs H1 Q
def Af(hc:Ff X (.builtin id) r)(hg:Gl X x)(hm:X.mg x=none)(hv:bootBuiltins x=some (.builtin id))(ha:PA X (e :: es) t)(hn:x≠"__name__":=by decide)(hdb:(x == ("__debug__":Str))=false:=by decide)
  (he:starEach (e :: es) X.env=(false,eval e X.env):: starEach es X.env:=by rfl) (hpl:(backTo pos (starEach es X.env)).any (·.1)=false:=by rfl):PE X (.Call (.Name x p) (e :: es) [] pos) (Xn r t):=by
 ac_rfl;refine wpAny_Call_Name_kw (GQ I hg hm hv ?_ hn hdb);exact PyProof.Rows.callWith_builtin1 (AM (ha pos pins s σ H _ I h) λus s1 ⟨vs,H1,I1,r1,q1⟩=>hc pins s1 σ H1 vs us Q I1 r1 q1) he hpl
def HM(hc:Ff X (.type T) r)(hg:Gl X x)(hm:X.mg x=none)(hv:bootBuiltins x=some (.type T))(ha:PA X (e :: es) t)(hn:x≠"__name__":=by decide)(hdb:(x == ("__debug__":Str))=false:=by decide)
  (he:starEach (e :: es) X.env=(false,eval e X.env):: starEach es X.env:=by rfl) (hpl:(backTo pos (starEach es X.env)).any (·.1)=false:=by rfl):PE X (.Call (.Name x p) (e :: es) [] pos) (Xn r t):=by
 ac_rfl;refine wpAny_Call_Name_kw (GQ I hg hm hv ?_ hn hdb);exact Kh (AM (ha pos pins s σ H _ I h) λus s1 ⟨vs,H1,I1,r1,q1⟩=>hc pins s1 σ H1 vs us Q I1 r1 q1) he hpl
end
end L2
namespace HT
open PySem PyProof.Rows
def lexLt:List Int->List Int->Bool
 | [],[]=>false
 | [],_ :: _=>true
 | _ :: _,[]=>false
 | x :: xs,y :: ys=>if x=y then lexLt xs ys else decide (x<y)
def lexLt_cons(x y:Int)(xs ys:List Int):lexLt (x :: xs) (y :: ys)=if x=y then lexLt xs ys else decide (x<y):=rfl
def lY(A:Around)(s:Shared)(a:Int)(t:Tok)(c:Int)(u:Tok):∃ e,SeqAt.EqAt A s (.int a t) (.int c u) e/\(e=true↔a=c):=
 ⟨(a == c),SeqAt.EqAt.int_int a t c u,G⟩
def mF(A:Around)(s:Shared)(a:Int)(t:Tok)(c:Int)(u:Tok)(prog:Program)(w:World)(E:EV)(Q:EV)(h:Q (.bool (decide (a<c))) s):
  wpAny (model prog w) A (richCompare .Lt (.int a t) (.int c u)) Q E s :=
 (PyProof.Rows.lt_int h:wpAny (model prog w) A (compareOp .Lt (.int a t) (.int c u)) Q E s)
section
open PySem.SeqAt
open PySem.AutoSeq1 (wpAny_loadPart')
open PySem.MeetsSeq PySem.MeetsSeq2 PySem.MeetsSeq3
end
section
variable {prog:Program}{w:World}{A:Around}{E:EV}{s:Shared}
def cat_tup{t b:Addr}{vs ws:LU}{Q:EV}(ht:IsTup s.heap t vs.toArray)(hb:IsTup s.heap b ws.toArray)(hv:vs≠[])
  (h1:ws=[]->Q (.ref t) s) (h2:ws≠[]->Q (.ref s.heap.objs.size) {s with heap:=s.heap.push {cls:=.type "tuple",data:=.seq (vs++ws).toArray} })
  (hsz:vs.length + ws.length<=sizeLine):wpAny (model prog w) A (binaryOp .Add (.ref t) (.ref b)) Q E s:=by
 obtain⟨⟨cls,dd,data,sl⟩,ho,hc,n,hd⟩:=id ht;obtain⟨⟨Qx,G6,data2,Gr⟩,CA,Cm,n2,hd2⟩:=id hb;simp only at hc hd Cm hd2;subst hc hd Cm hd2;have e:vs.toArray++ws.toArray=(vs++ws).toArray:=by simp
 by_cases hw:ws=[]
 ·exact concat_meets ⟨_,ho,Y⟩ ⟨_,CA,Y⟩ noFill_tuple_add seq_tuple_add PySem.F.slot_tuple_add Wq (Wv _ _)
   (tuple_addW1 t b vs.toArray ws.toArray n n2 dd G6 sl Gr (by simpa using hv) (by simp[hw])) ⟨ho,CA,h1 hw⟩
 ·refine concat_meets ⟨_,ho,Y⟩ ⟨_,CA,Y⟩ noFill_tuple_add seq_tuple_add PySem.F.slot_tuple_add Wq (Wv _ _)
   (tuple_addW2 t b vs.toArray ws.toArray n n2 dd G6 sl Gr (by simpa using hv) (by simpa using hw) (by rw[Yn,Yn];exact hsz)) ⟨ho,CA,?_⟩
  rw[e];exact h2 hw
def sIx(n d:Nat):Option Int->Nat
 | none=>d
 | some v=>if v<0 then(v + (n:Int)).toNat else min v.toNat n
def sIx_none(n d:Nat):sIx n d none=d:=rfl
def sIx_nat(n d k:Nat):sIx n d (some (k:Int))=min k n:=by
 show(if(k:Int)<0 then((k:Int) + (n:Int)).toNat else min (k:Int).toNat n)=min k n;rw[if_neg (by omega),Yq]
end
end HT
namespace L2
open PySem PySem.Spec PyProof.Rows
abbrev TO:=St->Hp->(Option Int->Hp->Prop)->Prop
def PO(X:Cx)(e:Option Expr)(t:TO):Prop :=
 ∀(pins:PL) (s:Shared) (σ:St) (H:Hp) (Q:Option Int->Hp->Prop),Inv X pins σ H s->t σ H Q ->
  wpAny (model X.prog X.w) X.A (evalPart e X.env) (λu s'=>∃ o H',Inv X pins σ H' s'/\IsPart u o/\Q o H') X.xe s
def VY:TO:=λ_ H Q=>Q none H
def sA(t:TE):TO:=λσ H Q=>t σ H λx H1=>∃ i,x=.int i/\Q (some i) H1
def Sq{ns:List Int}:∀ {us:LU},AQ (ns.map V.int) us->IntsAre us ns:=by
 induction ns with
 | nil=>intro us r;rw[List.map_nil]at r;cases r;exact .nil
 | cons n ns ih =>
  intro us r;rw[Yo]at r;cases r with
  | cons r1 r2 =>
   obtain⟨t,e⟩:=r1;subst e;exact .cons n t (ih r2)
section
variable {X:Cx}{e:Expr}{te:TE}{lo hi:Option Expr}{tl th:TO}{pos p2:Pos}
def PR:PO X none VY:=by
 ac_rfl;rw[evalPart_none];exact Jd ⟨none,H,I,.none,h⟩
def PU(h:PE X e te):PO X (some e) (sA te):=by
 intro pins s σ H Q I hw;rw[evalPart_some];refine AM (h pins s σ H _ I hw) λu s1 ⟨x,H1,I1,r1,q1⟩=>?_;obtain⟨i,rfl,q⟩:=q1;obtain⟨t,rfl⟩:=r1;exact⟨some i,H1,I1,.int i t,q⟩
def W5(X:Cx)(r:V->Option Int->Option Int->Hp->VK->Prop):Prop :=
 ∀(pins:PL) (s:Shared) (σ:St) (H:Hp) (x:V) (v vl vu:Value) (lo hi:Option Int) (sl:Addr) (Q:VK),Inv X pins σ H s->AX x v->s.heap.IsSliceOf sl vl vu .none->IsPart vl lo->IsPart vu hi->r x lo hi H Q ->
  ∃ T id,typeLookup (.type T) "__getitem__"=pure (some (.builtin id))/\s.TypeIs v T/\wpAny (model X.prog X.w) X.A (getItem v (.ref sl)) (EP X pins σ Q) X.xe s
def i4(r:V->Option Int->Option Int->Hp->VK->Prop)(te:TE)(tl th:TO):TE:=λσ H Q=>te σ H λx H1=>tl σ H1 λl H2=>th σ H2 λu H3=>r x l u H3 Q
def PX{r:V->Option Int->Option Int->Hp->VK->Prop}(hr:W5 X r)(he:PE X e te)(hl:PO X lo tl)(hu:PO X hi th):PE X (.Subscript e (.Slice lo hi none p2) pos) (i4 r te tl th):=by
 ac_rfl;refine Subscript_ (AM (he pins s σ H _ I h) λv s1 ⟨x,H1,I1,r1,q1⟩=>?_);refine wpAny_Slice (AM (hl pins s1 σ H1 _ I1 q1) λvl s2 ⟨l,H2,I2,pl,q2⟩=>AM (hu pins s2 σ H2 _ I2 q2) λvu s3 ⟨u,H3,I3,pu,q3⟩=>?_);rw[evalPart_none];refine Jd ?_;have I4:Inv X pins σ H3 {s3 with heap:=s3.heap.push {cls:=.type "slice",data:=.fields #[vl,vu,.none] } }:=I3.kept (t':=s3.toks) λb ob q=>Yd _ q;obtain⟨T,id,hT,ht,hg⟩:=hr pins {s3 with heap:=s3.heap.push {cls:=.type "slice",data:=.fields #[vl,vu,.none] } } σ H3 x v vl vu l u s3.heap.objs.size Q I4 r1 (Heap.IsSliceOf.new ..) pl pu q3;show wpAny (model X.prog X.w) X.A (subscriptTail e (.Slice lo hi none p2) v (.ref s3.heap.objs.size)) (EP X pins σ Q) X.xe {s3 with heap:=s3.heap.push {cls:=.type "slice",data:=.fields #[vl,vu,.none] } };exact tail_any (ops:=[.ref s3.heap.objs.size,v]) ht hT hg (by with_unfolding_all rfl)
def KS(xs:LV)(lo hi:Option Int):LV:=(xs.drop (HT.sIx xs.length 0 lo)).take (HT.sIx xs.length xs.length hi - HT.sIx xs.length 0 lo)
def qJ(xs:LV)(lo hi:Option Int):(KS xs lo hi).length<=xs.length:=by
 unfold KS;rw[Yx,List.length_drop];omega
def qy(K:Fg):R2:=λx y H Q=>∃ a b xs ys,x=.ref a/\y=.ref b/\AL K H a xs/\AL K H b ys/\xs≠[]/\xs.length + ys.length<=sizeLine /\
 (ys=[]->Q (.ref a) H)/\(ys≠[]->∀ p,H p=none->Q (.ref p) (upd H p (.tup (xs++ys))))
def AQ.nil_iff{xs:LV}{us:LU}(r:AQ xs us):us=[]↔xs=[]:=by
 cases r with
 | nil=>simp
 | cons _ _=>simp
def uu:Bb X (binaryOp .Add) (qy X.K):=by
 exfalso;obtain⟨a,b,xs,ys,rfl,rfl,ha,hb,hx,hz,q1,q2⟩:=h;cases rx;cases ry;obtain⟨its,r1,p1,_⟩:=I.tuple ha;obtain⟨C2,r2,p2,_⟩:=I.tuple hb;refine HT.cat_tup p1 p2 (λz=>hx (r1.nil_iff.mp z)) (λz=>⟨.ref a,H,I,Y,q1 (r2.nil_iff.mp z)⟩) (λz=>?_) (by rw[<- r1.length,<- r2.length];exact hz);refine⟨.ref s.heap.objs.size,_,I.laid (t':=s.toks) (o:=.tup (xs++ys)) (λb ob q=>Yd _ q) (Yf _) ?_,Y,q2 (λw=>z (r2.nil_iff.mpr w)) _ (I.hok.fresh (Yf _))⟩;exact⟨by rw[Yt];exact hz,_,r1.append r2,IsTup.new _ _⟩
end
def Gx(n:Nat)(i:Int):Option Nat:=if 0<=i then(if i<n then some i.toNat else none)else if -(n:Int)<=i then some (i + n).toNat else none
def BS{α:Type}(xs:List α)(i:Int):Option α:=(Gx xs.length i).bind λj=>xs[j]?
def Ze{n:Nat}{i:Int}{j:Nat}(h:Gx n i=some j):seqIndex? i n=some j/\j<n/\-(n:Int)<=i/\i<n:=by
 unfold Gx at h;by_cases h0:0<=i
 ·rw[if_pos h0]at h;by_cases h1:i<n
  ·rw[if_pos h1]at h;have e:i.toNat=j:=Ba h;exact⟨by rw[seqIndex_of h0 h1,e],W,W,h1⟩
  ·rw[if_neg h1]at h;cases h
 ·rw[if_neg h0]at h;by_cases h1:-(n:Int)<=i
  ·rw[if_pos h1]at h;have e:(i + n).toNat=j:=Ba h;exact⟨by rw[seqIndex_neg (by omega) h1,e],W,h1,W⟩
  ·rw[if_neg h1]at h;cases h
def VT{α:Type}{xs:List α}{i:Int}{v:α}(h:BS xs i=some v):∃ j,seqIndex? i xs.length=some j/\xs[j]?=some v/\j<xs.length/\-(xs.length:Int)<=i/\i<xs.length:=by
 unfold BS at h;cases e:Gx xs.length i with
 | none=>rw[e]at h;cases h
 | some j =>
  rw[e]at h;obtain⟨h1,h2,h3,h4⟩:=Ze e;exact⟨j,h1,h,h2,h3,h4⟩
def EB{α:Type}{xs:List α}{j:Nat}{v:α}(h:xs[j]?=some v):BS xs (j:Int)=some v:=by
 have hj:j<xs.length:=(Ye.mp h).1;have e:Gx xs.length (j:Int)=some j:=by
  unfold Gx;rw[if_pos (by omega),if_pos (by omega)];simp
 unfold BS;rw[e];exact h
def Z8{α:Type}(xs:List α)(v:α):BS (xs++[v]) (-1)=some v:=by
 have hl:(xs++[v]).length=xs.length + 1:=by simp
 have e:Gx (xs++[v]).length (-1)=some xs.length:=by
  unfold Gx;rw[hl,if_neg (by decide),if_pos (by omega)]
  congr 1
  omega
 unfold BS;rw[e];show(xs++[v])[xs.length]?=some v;simp
def t4(b:Expr):Prop:=∀ o i,subscripted b false o i=operate [o,i] (getItem o i)
def T3(X:Cx)(r:R2):Prop :=
 ∀(value slice:Expr) (pins:PL) (s:Shared) (σ:St) (H:Hp) (x y:V) (v u:Value) (Q:VK),Inv X pins σ H s->AX x v->AX y u->r x y H Q ->
  subscripted slice false v u=operate [v,u] (getItem v u)->wpAny (model X.prog X.w) X.A (subscriptTail value slice v u) (EP X pins σ Q) X.xe s
def W7(X:Cx)(id:String)(r:V->LV->Hp->VK->Prop):Prop :=
 ∀(pins:PL) (s:Shared) (σ:St) (H:Hp) (x:V) (xs:LV) (v:Value) (us:LU) (Q:VK),Inv X pins σ H s->AX x v->AQ xs us->r x xs H Q ->
  wpAny (model X.prog X.w) X.A (call (.builtin id) (v :: us)) (EP X pins σ Q) X.xe s
section
variable {X:Cx}{a b:Expr}{ta tb:TE}{pos:Pos}
def AV{r:R2}(hr:T3 X r)(ha:PE X a ta)(hb:PE X b tb)(hs:t4 b):PE X (.Subscript a b pos) (RT r ta tb):=by
 ac_rfl;exact Subscript_ (WT ha hb I h λv u s2 x y H2 I2 rx ry q=>hr a b pins s2 σ H2 x y v u Q I2 rx ry q (hs _ _))
def BV(K:Fg):R2:=λx y H Q=>∃ p xs i v,x=.ref p/\y=.int i/\SqL K H p xs/\BS xs i=some v/\Q v H
def BN(K:Fg):R2:=λx y H Q=>∃ p xs i v,x=.ref p/\y=.int i/\AL K H p xs/\BS xs i=some v/\Q v H
def vx:R2:=λx y H Q=>∃ z i c,x=.str z/\y=.int i/\z.length<=sizeLine/\BS z.cps.toList i=some c/\Q (.str ⟨#[c]⟩) H
def Ar:T3 X (BV X.K):=by
 intro value slice pins s σ H x y v u Q I rx ry h hs;obtain⟨p,xs,i,z,rfl,rfl,hq,he,q⟩:=h;cases rx;obtain⟨t,rfl⟩:=ry;obtain⟨its,r,pl,hz⟩:=I.list hq;obtain⟨j,h1,h2,h3,h4,h5⟩:=VT he;obtain⟨w,ew,Cb⟩:=r.get h2;have hl:=r.length;have hn:=Lc;have fin:EP X pins σ Q w s:=⟨z,H,I,Cb,q⟩;by_cases h0:0<=i
 ·have hj:i.toNat=j:=by
   rw[seqIndex_of h0 h5]at h1;exact Ba h1
  exact item_listR pl.isList h0 (by omega) (by rw[hj];simpa using ew) fin hs
 ·have hj:(i + (its.toArray.size:Int)).toNat=j:=by
   rw[seqIndex_neg (by omega) h4]at h1;rw[Yn,<- hl];exact Ba h1
  exact subscriptTail_builtinR (x:=w) pl.isList.typeIs slot_list_getitem.lookup
   (wpAny_getItem_list_neg (Q:=λr s'=>r=w/\EP X pins σ Q r s') pl.isList (by omega) (by rw[Yn] <;> omega) (by omega) (by rw[hj];simpa using ew) ⟨Y,fin⟩) hs
def BQ:T3 X (BN X.K):=by
 intro value slice pins s σ H x y v u Q I rx ry h hs;obtain⟨p,xs,i,z,rfl,rfl,hq,he,q⟩:=h;cases rx;obtain⟨t,rfl⟩:=ry;obtain⟨its,r,pl,hz⟩:=I.tuple hq;obtain⟨j,h1,h2,h3,h4,h5⟩:=VT he;obtain⟨w,ew,Cb⟩:=r.get h2;have hl:=r.length;have hn:=Lc;have fin:EP X pins σ Q w s:=⟨z,H,I,Cb,q⟩;exact subscriptTail_builtinR (x:=w) pl.typeIs slot_tuple_getitem.lookup
  (getItem_tuple (j:=j) (Q:=λr s'=>r=w/\EP X pins σ Q r s') pl (by omega) (by omega) (by rw[Yn,<- hl];exact h1) (by simpa using ew) ⟨Y,fin⟩) hs
def rh:T3 X vx:=by
 intro value slice pins s σ H x y v u Q I rx ry h hs;obtain⟨z,i,c,rfl,rfl,hz,he,q⟩:=h;obtain⟨t,rfl⟩:=rx;obtain⟨t',rfl⟩:=ry;obtain⟨j,h1,h2,h3,h4,h5⟩:=VT he;have hl:z.cps.toList.length=z.length:=by simp[Str.length]
 rw[hl]at h1 h4 h5;have hn:=Lc;exact tail_any (typeIs_str s z t) slot_str_getitem.lookup (getItem_str (c:=c) (by
  have e1:decide (i < -(2 ^ 63:Int))=false:=Jc (by omega);have e2:decide (i ≥ 2 ^ 63)=false:=Jc (by omega);rw[e1,e2,Bool.or_false]) (by rw[h1];simpa using h2) ⟨.str ⟨#[c]⟩,H,I.tok _,⟨Z⟩,q⟩) hs
def oj(its:LU)(n j:Nat)(u:Value):Obj.mapSeq (·.setIfInBounds j u) {cls:=.type "list",data:=.seq its.toArray n}={cls:=.type "list",data:=.seq (its.set j u).toArray n}:=by
 simp[Obj.mapSeq]
theorem Inv.lst{pins:PL}{σ:St}{H:Hp}{s:Shared}{p:Addr}{xs:LV}(I:Inv X pins σ H s)(h:H p=some (.lst xs)):
  ∃(its:LU) (n:Nat),AQ xs its/\s.heap.get? p=some {cls:=.type "list",data:=.seq its.toArray n}/\xs.length<=sizeLine:=by
 obtain⟨z,its,n,r,e⟩:=I.hok p _ h;exact⟨its,n,r,e,z⟩
def Inv.lstUpd{pins:PL}{σ:St}{H:Hp}{s:Shared}{p:Addr}{xs ys:LV}{its its':LU}{n n':Nat}{f:Obj->Obj}(I:Inv X pins σ H s)(h:H p=some (.lst xs))
  (ho:s.heap.get? p=some {cls:=.type "list",data:=.seq its.toArray n}) (hf:f {cls:=.type "list",data:=.seq its.toArray n}={cls:=.type "list",data:=.seq its'.toArray n' }) (r:AQ ys its') (hz:ys.length<=sizeLine) (t:Nat):
  Inv X pins σ (upd H p (.lst ys)) {s with heap:=s.heap.update p f,toks:=t}:=by
 have e:(s.heap.update p f).get? p=some {cls:=.type "list",data:=.seq its'.toArray n' }:=by
  rw[Heap.get?_update_self f ho (by rw[hf] <;> rfl),hf]
 refine I.write (x:=p) (e:=p) (by rw[h];trivial) (.inl rfl) (λb u hb q=>(Heap.get?_update_other _ _ (Yr hb)).trans q) ⟨_,e⟩ ?_;exact⟨hz,its',n',r,e⟩
def q8:V->V->V->Hp->(Hp->Prop)->Prop:=λo i v H Q=>∃ p xs k j,o=.ref p/\i=.int k/\H p=some (.lst xs)/\Gx xs.length k=some j/\Q (upd H p (.lst (xs.set j v)))
def Vi:eX X q8:=by
 intro pins s σ H o i v ov iv u Q I ro ri rv h;obtain⟨p,xs,k,j,rfl,rfl,hp,hj,q⟩:=h;cases ro;obtain⟨t,rfl⟩:=ri;obtain⟨its,n,r,ho,hz⟩:=I.lst hp;obtain⟨h1,h2,h3,h4⟩:=Ze hj;have hl:=r.length;have hn:=Lc;have I':Inv X pins σ (upd H p (.lst (xs.set j v))) {s with heap:=s.heap.update p (Obj.mapSeq (·.setIfInBounds j u)) } :=
  I.lstUpd hp ho (oj its n j u) (r.set rv j) (by rw[List.length_set];exact hz) s.toks
 by_cases h0:0<=k
 ·have hk:k.toNat=j:=by
   rw[seqIndex_of h0 h4]at h1;exact Ba h1
  exact W.ki_setAt ho h0 (by omega) (by rw[Yn,<- hl];exact h4) (by rw[hk];exact⟨_,I',q⟩)
 ·have hk:(k + (its.toArray.size:Int)).toNat=j:=by
   rw[seqIndex_neg (by omega) h3]at h1;rw[Yn,<- hl];exact Ba h1
  exact W.ki_setBack ho (by omega) (by rw[Yn,<- hl];exact h3) (by omega) (by rw[hk];exact⟨_,I',q⟩)
def qR(lo hi:Option Int)(n:Nat):(sliceBounds lo hi none n).1=((HT.sIx n 0 lo:Nat):Int)/\(sliceBounds lo hi none n).2.1=((HT.sIx n n hi:Nat):Int)/\(sliceBounds lo hi none n).2.2=1:=by
 refine⟨?_,?_,Y⟩
 ·cases lo with
  | none=>simp[sliceBounds,HT.sIx]
  | some i =>
   simp only[sliceBounds,HT.sIx,Option.getD_none,show(1:Int) > 0 by decide,if_true];by_cases h:i<0
   ·simp only[h,if_true] <;> omega
   ·simp only[h,if_false] <;> omega
 ·cases hi with
  | none=>simp[sliceBounds,HT.sIx]
  | some i =>
   simp only[sliceBounds,HT.sIx,Option.getD_none,show(1:Int) > 0 by decide,if_true];by_cases h:i<0
   ·simp only[h,if_true] <;> omega
   ·simp only[h,if_false] <;> omega
def qd(its:LU)(lo hi:Option Int):slicePick its.toArray lo hi none=((its.drop (HT.sIx its.length 0 lo)).take (HT.sIx its.length its.length hi - HT.sIx its.length 0 lo)).toArray:=by
 obtain⟨h1,h2,h3⟩:=qR lo hi its.toArray.size;unfold slicePick;rw[h1,h2,h3];simp only[sliceRange_one,pick_run,Yn] <;> rfl
def WV(K:Fg):V->Option Int->Option Int->Hp->VK->Prop:=λx lo hi H Q=>∃ a xs,x=.ref a/\SqL K H a xs/\∀ p,H p=none->Q (.ref p) (upd H p (.lst (KS xs lo hi)))
def VP:W5 X (WV X.K):=by
 intro pins s σ H x v vl vu lo hi sl Q I rx hs pl pu h;obtain⟨a,xs,rfl,hx,q⟩:=h;cases rx;obtain⟨its,r,ht,hz⟩:=I.list hx;have hlen:=r.length;refine⟨"list",_,slot_list_getitem.lookup,ht.isList.typeIs,?_⟩;refine wpAny_getItem_list_slice ht.isList hs pl pu .none (by simp) ?_ (by rw[Yn] <;> omega);rw[qd,<- hlen];refine⟨.ref s.heap.objs.size,_,I.laid (t':=s.toks) (o:=.lst (KS xs lo hi)) (λb ob q=>Yd _ q) (Yf _) ?_,Y,q _ (I.hok.fresh (Yf _))⟩;exact⟨A7 (qJ xs lo hi) hz,_,0,(r.drop (HT.sIx xs.length 0 lo)).take (HT.sIx xs.length xs.length hi - HT.sIx xs.length 0 lo),Yk _ rfl⟩
def Iq:V->Bool
 | .non=>true
 | .bl _=>true
 | .int _=>true
 | .str _=>true
 | _=>false
def Jx:V->V->Bool
 | .non,.non=>true
 | .bl a,.bl b=>a == b
 | .bl a,.int b=>(if a then 1 else 0) == b
 | .int a,.bl b=>a == (if b then 1 else 0)
 | .int a,.int b=>a == b
 | .str a,.str b=>a == b
 | _,_=>false
def rW{A:Around}{s:Shared}{y x:V}{u v:Value}(ry:AX y u)(rx:AX x v)(fy:Iq y=true)(fx:Iq x=true):SeqAt.EqAt A s u v (Jx y x):=by
 cases y with
 | non =>
  cases ry;cases x with
  | non=>cases rx;exact SeqAt.EqAt.same _
  | bl b=>cases rx;exact SeqAt.EqAt.none_bool b
  | int b=>obtain⟨t,rfl⟩:=rx;exact SeqAt.EqAt.none_int b t
  | str b=>obtain⟨t,rfl⟩:=rx;exact SeqAt.EqAt.none_str b t
  | _=>exact absurd (show false=true from fx) Ym
 | bl a =>
  cases ry;cases x with
  | non=>cases rx;exact SeqAt.EqAt.bool_none a
  | bl b=>cases rx;exact SeqAt.EqAt.bool_bool a b
  | int b=>obtain⟨t,rfl⟩:=rx;exact SeqAt.EqAt.bool_int a b t
  | str b=>obtain⟨t,rfl⟩:=rx;exact SeqAt.EqAt.bool_str a b t
  | _=>exact absurd (show false=true from fx) Ym
 | int a =>
  obtain⟨t',rfl⟩:=ry;cases x with
  | non=>cases rx;exact SeqAt.EqAt.int_none a t'
  | bl b=>cases rx;exact SeqAt.EqAt.int_bool a t' b
  | int b=>obtain⟨t,rfl⟩:=rx;exact SeqAt.EqAt.int_int a t' b t
  | str b=>obtain⟨t,rfl⟩:=rx;exact SeqAt.EqAt.int_str a t' b t
  | _=>exact absurd (show false=true from fx) Ym
 | str a =>
  obtain⟨t',rfl⟩:=ry;cases x with
  | non=>cases rx;exact SeqAt.EqAt.str_none a t'
  | bl b=>cases rx;exact SeqAt.EqAt.str_bool a t' b
  | int b=>obtain⟨t,rfl⟩:=rx;exact SeqAt.EqAt.str_int a t' b t
  | str b=>obtain⟨t,rfl⟩:=rx;exact SeqAt.EqAt.str_str a t' b t
  | _=>exact absurd (show false=true from fx) Ym
 | _=>exact absurd (show false=true from fy) Ym
def Ej(x:V)(u:Value):Bool:=match u with
 | .none=>Jx .non x
 | .bool b=>Jx (.bl b) x
 | .int i _=>Jx (.int i) x
 | .str z _=>Jx (.str z) x
 | _=>false
def gz{x y:V}{u:Value}(r:AX y u)(f:Iq y=true):Ej x u=Jx y x:=by
 cases y with
 | non=>cases r;rfl
 | bl b=>cases r;rfl
 | int i=>obtain⟨t,rfl⟩:=r;rfl
 | str z=>obtain⟨t,rfl⟩:=r;rfl
 | _=>exact absurd (show false=true from f) Ym
theorem PH{x:V}:∀ {xs:LV}{us:LU},AQ xs us->xs.all Iq=true->us.any (Ej x)=xs.any λy=>Jx y x
 | _,_,.nil,_=>rfl
 | y :: xs,u :: us,.cons r t,f=>by
  rw[List.all_cons,Du]at f;rw[Ke,Ke,gz r f.1,PH t f.2]
theorem Pa{A:Around}{s:Shared}{x:V}{v:Value}(rx:AX x v)(fx:Iq x=true):∀ {xs:LV}{us:LU},AQ xs us->xs.all Iq=true->∀ u∈us,SeqAt.EqAt A s u v (Ej x u)
 | _,_,.nil,_=>λu hu=>by cases hu
 | y :: xs,u :: us,.cons r t,f=>λu' hu=>by
  rw[List.all_cons,Du]at f
  rcases Yw.mp hu with rfl | hu
  ·rw[gz r f.1];exact rW r rx f.1 fx
  ·exact Pa rx fx t f.2 u' hu
def EJ(x:V)(xs:LV):Bool:=xs.any λy=>Jx y x
def M0(K:Fg)(neg:Bool):R2:=λx y H Q=>∃ p xs,y=.ref p/\(SqL K H p xs\/AL K H p xs)/\Iq x=true/\xs.all Iq=true/\Q (.bl (if neg then !EJ x xs else EJ x xs)) H
def Nw:Bb X (compareOp .In) (M0 X.K false):=by
 exfalso;obtain⟨p,xs,rfl,hq,fx,fs,q⟩:=h;cases ry
 rcases hq with hq | hq
 ·obtain⟨its,r,pl,hz⟩:=I.list hq;refine SeqAt.in_listAt (Ej x) pl.isList (λw hw=>Pa rx fx r fs w (by simpa using hw)) ⟨.bl _,H,I,Y,?_⟩;rw[show its.toArray.any (Ej x)=its.any (Ej x) by simp,PH r fs];exact q
 ·obtain⟨its,r,pl,hz⟩:=I.tuple hq;refine SeqAt.in_tupleAt (Ej x) pl (λw hw=>Pa rx fx r fs w (by simpa using hw)) ⟨.bl _,H,I,Y,?_⟩;rw[show its.toArray.any (Ej x)=its.any (Ej x) by simp,PH r fs];exact q
def qW:Bb X (compareOp .NotIn) (M0 X.K true):=by
 exfalso;obtain⟨p,xs,rfl,hq,fx,fs,q⟩:=h;cases ry
 rcases hq with hq | hq
 ·obtain⟨its,r,pl,hz⟩:=I.list hq;refine SeqAt.notIn_listAt (Ej x) pl.isList (λw hw=>Pa rx fx r fs w (by simpa using hw)) ⟨.bl _,H,I,Y,?_⟩;rw[show its.toArray.any (Ej x)=its.any (Ej x) by simp,PH r fs];exact q
 ·obtain⟨its,r,pl,hz⟩:=I.tuple hq;refine SeqAt.notIn_tupleAt (Ej x) pl (λw hw=>Pa rx fx r fs w (by simpa using hw)) ⟨.bl _,H,I,Y,?_⟩;rw[show its.toArray.any (Ej x)=its.any (Ej x) by simp,PH r fs];exact q
def CC:Ff X (.builtin "len") (λxs H Q=>∃ p ys,xs=[.ref p]/\(SqL X.K H p ys\/AL X.K H p ys)/\Q (.int ys.length) H):=by
 intro pins s σ H xs us Q I r h;obtain⟨p,ys,rfl,hq,q⟩:=h;obtain⟨u,rfl,rx⟩:=F7 r;cases rx;have hn:=Lc
 rcases hq with hq | hq
 ·obtain⟨its,r',pl,hz⟩:=I.list hq;have hlen:=r'.length;exact Calls.call_len_list pl.isList (by simp only[Yn] <;> omega) ⟨.int ys.length,H,I.tok _,⟨s.toks + 1,by rw[Yn,hlen]⟩,q⟩
 ·obtain⟨its,r',pl,hz⟩:=I.tuple hq;have hlen:=r'.length;exact len_tuple pl (by simp only[Yn] <;> omega) ⟨.int ys.length,H,I.tok _,⟨s.toks + 1,by rw[Yn,hlen]⟩,q⟩
def dP:Ff X (.type "list") (λxs H Q=>∃ p ys,xs=[.ref p]/\(SqL X.K H p ys\/AL X.K H p ys)/\∀ l,H l=none->Q (.ref l) (upd H l (.lst ys))):=by
 intro pins s σ H xs us Q I r h;obtain⟨p,ys,rfl,hq,q⟩:=h;obtain⟨u,rfl,rx⟩:=F7 r;cases rx;have fin:∀(its:LU),AQ ys its->ys.length<=sizeLine->∀(h':Heap) (c':Nat),(∀ b o',s.heap.get? b=some o'->h'.get? b=some o') ->
   h'.get? s.heap.objs.size=some {cls:=.type "list",dict:=none,data:=.seq its.toArray c',slots:=#[] }->EP X pins σ Q (.ref s.heap.objs.size) {s with heap:=h' }:=λits r' hz h' c' kp e =>
  ⟨.ref s.heap.objs.size,_,I.laid (t':=s.toks) kp (Yf _) (show BO X.prog X.w _ h' _ (.lst ys)from⟨hz,its,c',r',e⟩),Y,q _ (I.hok.fresh (Yf _))⟩
 rcases hq with hq | hq
 ·obtain⟨its,r',pl,hz⟩:=I.list hq;have hlen:=r'.length;obtain⟨o,ho,hc,n,hd⟩:=pl.isList;exact call_list_seq p (.inl rfl) ho hc hd (λh' c' kp e=>fin its r' hz h' c' kp e) (by simp only[Yn] <;> omega)
 ·obtain⟨its,r',pl,hz⟩:=I.tuple hq;have hlen:=r'.length;obtain⟨o,ho,hc,n,hd⟩:=pl;exact call_list_seq p (.inr rfl) ho hc hd (λh' c' kp e=>fin its r' hz h' c' kp e) (by simp only[Yn] <;> omega)
def N_:Ff X (.type "tuple") (λxs H Q=>∃ p ys,xs=[.ref p]/\((SqL X.K H p ys/\∀ l,H l=none->Q (.ref l) (upd H l (.tup ys)))\/(AL X.K H p ys/\Q (.ref p) H))):=by
 intro pins s σ H xs us Q I r h;obtain⟨p,ys,rfl,h⟩:=h;obtain⟨u,rfl,rx⟩:=F7 r;cases rx
 rcases h with⟨hq,q⟩ | ⟨hq,q⟩
 ·obtain⟨its,r',pl,hz⟩:=I.list hq;have hlen:=r'.length;refine call_tuple_list pl.isList (λh' kp=>?_) (by simp only[Yn] <;> omega);have I1:Inv X pins σ H {s with heap:=h' }:=I.kept (t':=s.toks) kp;have I2:Inv X pins σ (upd H h'.objs.size (.tup ys)) {s with heap:=h'.push {cls:=.type "tuple",data:=.seq its.toArray} } :=
   I1.laid (t':=s.toks) (λb o e=>Yd _ e) (Yf _) (show BO X.prog X.w _ _ _ (.tup ys)from⟨hz,its,r',IsTup.new _ _⟩)
  exact⟨.ref h'.objs.size,_,I2,Y,q _ (I1.hok.fresh (Yf _))⟩
 ·obtain⟨its,r',pl,hz⟩:=I.tuple hq;exact call_tuple_same pl ⟨.ref p,H,I,Y,q⟩
def UB(K:Fg)(T:String)(x:V)(H:Hp):Prop:=match x with
 | .str _=>T="str"
 | .int _=>T="int"
 | .ref p=>(T="list"/\∃ xs,SqL K H p xs)\/(T="tuple"/\∃ o,K.lookup p=some o/\o.cls=.type "tuple"/\o.dict=none) \/
   (T="dict"/\((∃ kvs,H p=some (.dK kvs))\/∃ kvs,H p=some (.dT kvs)))\/(T="set"/\∃ S n,H p=some (.set S n))
 | _=>False
def iN{pins:PL}{σ:St}{H:Hp}{s:Shared}{T:String}{x:V}{v:Value}(I:Inv X pins σ H s)(r:AX x v)(ty:UB X.K T x H):
  s.TypeIs v T/\∀ a,v=.ref a->∃ ob,s.heap.get? a=some ob/\ob.dict=none:=by
 cases x with
 | str z =>
  obtain⟨t,rfl⟩:=r;cases(show T="str" from ty);exact⟨typeIs_str s z t,λ_ e=>nomatch e⟩
 | int i =>
  obtain⟨t,rfl⟩:=r;cases(show T="int" from ty);exact⟨typeIs_int s i t,λ_ e=>nomatch e⟩
 | ref p =>
  cases r
  rcases ty with⟨rfl,xs,hq⟩ | ⟨rfl,o,hk,hc,hd⟩ | ⟨rfl,hk⟩ | ⟨rfl,S,n,hk⟩
  ·obtain⟨its,_,pl,_⟩:=I.list hq;refine⟨pl.isList.typeIs,λa e=>?_⟩;cases e;obtain⟨o,n,e,c,hd,_⟩:=pl;exact⟨o,e,hd⟩
  ·refine⟨⟨o,I.kIn p o hk,hc⟩,λa e=>?_⟩;cases e;exact⟨o,I.kIn _ o hk,hd⟩
  ·have z:∃ o,s.heap.get? p=some o/\o.ExactDict:=by
    rcases hk with⟨kvs,hk⟩ | ⟨kvs,hk⟩
    ·obtain⟨_,_,_,_,o,_,_,e,ex,_⟩:=I.hok p _ hk;exact⟨o,e,ex⟩
    ·obtain⟨_,_,_,_,o,_,_,e,ex,_⟩:=I.hok p _ hk;exact⟨o,e,ex⟩
   obtain⟨o,e,ex⟩:=z;refine⟨⟨o,e,ex.1⟩,λa e2=>?_⟩;cases e2;exact⟨o,e,ex.2.1⟩
  ·obtain⟨o,_,_,_,e,ex,_⟩:=I.hok p _ hk;refine⟨⟨o,e,ex.1⟩,λa e2=>?_⟩;cases e2;exact⟨o,e,ex.2.1⟩
 | _=>exact False.elim ty
def wU(K:Fg)(T:String)(r:V->LV->Hp->VK->Prop)(to:TE):TE:=λσ H Q=>to σ H λx H1=>UB K T x H1/\r x [] H1 Q
def Xo(K:Fg)(T:String)(r:V->LV->Hp->VK->Prop)(to:TE)(t:TA):TE:=λσ H Q=>to σ H λx H1=>UB K T x H1/\t σ H1 λxs H2=>r x xs H2 Q
variable {o e:Expr}{es:List Expr}{to:TE}{t:TA}{name:Str}{apos Ac:Pos}{T id:String}{r:V->LV->Hp->VK->Prop}
def tS(pa:PlainAttrs T)(slot:Slot T name id)(hty:typeOf (.builtin id)=pure (.type "method_descriptor"))(hm:W7 X id r)(ho:PE X o to)
  (Ck:attributeBase o name X.env (eval o X.env)=eval o X.env:=by rfl) (Cj:(apos.endLine == Ac.line)=true:=by rfl):PE X (.Call (.Attribute o name apos) [] [] Ac) (wU X.K T r to):=by
 ac_rfl;refine wpAny_Call_method0_late Ck Cj (AM (ho pins s σ H _ I h) λv s1 ⟨x,H1,I1,r1,ty,q1⟩=>?_);obtain⟨h1,h2⟩:=iN I1 r1 ty;exact⟨T,id,pa,slot,hty,h1,h2,Calls.callWith_builtin rfl (PySem.evalArgs_none (hm pins s1 σ H1 x [] v [] Q I1 r1 .nil q1))⟩
def C7(pa:PlainAttrs T)(slot:Slot T name id)(hty:typeOf (.builtin id)=pure (.type "method_descriptor"))(hm:W7 X id r)(ho:PE X o to)(ha:PA X (e :: es) t)
  (Ck:attributeBase o name X.env (eval o X.env)=eval o X.env:=by rfl)
  (hfew:((backTo Ac (starEach (e :: es) X.env)).all (λx=>!x.1)&&(backToKw Ac (keywordEach [] X.env)).all (λx=>x.1.isSome)
   && decide ((e :: es).length + ([]:List Keyword).length + (if([]:List Keyword).isEmpty then 0 else 1)<30))=true:=by rfl)
  (Cj:(apos.endLine == Ac.line)=true:=by rfl) (hs:starEach (e :: es) X.env=(false,eval e X.env):: starEach es X.env:=by rfl) (hplain:(backTo Ac (starEach es X.env)).any (·.1)=false:=by rfl):
  PE X (.Call (.Attribute o name apos) (e :: es) [] Ac) (Xo X.K T r to t):=by
 ac_rfl;refine wpAny_Call_method_late Ck hfew Cj rfl (AM (ho pins s σ H _ I h) λv s1 ⟨x,H1,I1,r1,ty,q1⟩=>?_);obtain⟨h1,h2⟩:=iN I1 r1 ty;refine⟨T,id,pa,slot,hty,h1,h2,?_⟩;have hA:=ha Ac pins s1 σ H1 _ I1 q1;rw[hs]at hA ⊢;refine Calls.callWith_builtin (by show(false || (backTo Ac (starEach es X.env)).any (·.1))=false;rw[hplain] <;> rfl) (Calls.evalArgs_plain ?_);exact AM hA λus s2 ⟨vs,H2,I2,r2,q2⟩=>hm pins s2 σ H2 x vs v us Q I2 r1 r2 q2
end
def Me(X:Cx)(id:String)(r:V->LV->Hp->VK->Prop):Prop :=
 ∀(pins:PL) (s:Shared) (σ:St) (H:Hp) (x:V) (xs:LV) (v:Value) (us:LU) (Q:VK),Inv X pins σ H s->AX x v->AQ xs us->r x xs H Q ->
  wpAny (model X.prog X.w) X.A (call (.builtin id) (v :: us)) (EP X pins σ Q) X.xe s
def AQ.one:∀ {x:V}{us:LU},AQ [x] us->∃ u,us=[u]/\AX x u
 | _,_,.cons r .nil=>⟨Z,r⟩
def AQ.zero:∀ {us:LU},AQ [] us->us=[]
 | _,.nil=>rfl
theorem AQ.dropLast{xs:LV}{us:LU}(h:AQ xs us):AQ xs.dropLast us.dropLast:=by
 induction h with
 | nil=>exact .nil
 | cons r t ih =>
  cases t with
  | nil=>exact .nil
  | cons q t'=>exact .cons r ih
theorem AQ.eraseIdx:∀ {xs:LV}{us:LU}(i:Nat),AQ xs us->AQ (xs.eraseIdx i) (us.eraseIdx i)
 | _,_,_,.nil=>.nil
 | _,_,0,.cons _ t=>t
 | _,_,i + 1,.cons r t=>.cons r (AQ.eraseIdx i t)
def pO{α:Type}(l:List α):l.eraseIdx (l.length - 1)=l.dropLast:=by
 induction l with
 | nil=>rfl
 | cons a r ih =>
  cases r with
  | nil=>rfl
  | cons b r =>
   have e:(a :: b :: r).length - 1=((b :: r).length - 1) + 1:=by
    have h1:(a :: b :: r).length=r.length + 2:=rfl;have h2:(b :: r).length=r.length + 1:=rfl;omega
   rw[e,QQ,ih]
   all_goals rfl
theorem Vq{α:Type}:∀(l:List α) (i:Nat),(l.eraseIdx i).length<=l.length
 | [],_=>Yf _
 | _ :: _,0=>IK _
 | _ :: r,i + 1=>Nat.succ_le_succ (Vq r i)
section
variable {X:Cx}{pins:PL}{σ:St}{H:Hp}{s:Shared}{l b:Addr}{xs ys zs:LV}
def Inv.lset{its its':LU}{n:Nat}{f:Array Value->Array Value}{t':Nat}(I:Inv X pins σ H s)(hH:H l=some (.lst xs))
  (e:s.heap.get? l=some {cls:=.type "list",data:=.seq its.toArray n}) (hf:f its.toArray=its'.toArray) (hv:AQ ys its') (hz:ys.length<=sizeLine):
  Inv X pins σ (upd H l (.lst ys)) {s with heap:=s.heap.update l (Obj.mapSeq f),toks:=t' }:=by
 have q:=PySem.IsL.update e f;rw[hf]at q;refine I.write (x:=l) (e:=l) (by rw[hH];exact trivial) (.inl rfl) (λb' u hb hu=>(Heap.get?_update_other s.heap (Obj.mapSeq f) (Yr hb)).trans hu) ⟨_,q⟩ ?_;exact⟨hz,its',_,hv,q⟩
def Inv.lnew{its:LU}{t':Nat}(I:Inv X pins σ H s)(hv:AQ ys its)(hz:ys.length<=sizeLine):
  Inv X pins σ (upd H s.heap.objs.size (.lst ys)) {s with heap:=s.heap.push {cls:=.type "list",data:=.seq its.toArray},toks:=t' } :=
 I.laid (λ_ _ q=>Yd _ q) (Yf _) ⟨hz,its,0,hv,Yk _ rfl⟩
theorem Inv.fresh(I:Inv X pins σ H s):H s.heap.objs.size=none:=I.hok.fresh (Yf _)
def Inv.lstM(I:Inv X pins σ H s)(hH:H l=some (.lst xs)):xs.length<=sizeLine/\∃(its:LU) (n:Nat),AQ xs its/\xs.length=its.length/\s.heap.get? l=some {cls:=.type "list",data:=.seq its.toArray n}:=by
 obtain⟨z,its,n,r,e⟩:=I.hok l _ hH;exact⟨z,its,n,r,r.length,e⟩
def lL{n:Nat}(h:n<=sizeLine):Builtin.List.listTooLong n=false:=by
 unfold Builtin.List.listTooLong;exact Jc (by omega)
end
section
variable {X:Cx}
def vI:V->LV->Hp->VK->Prop:=λx vs H Q=>∃ l xs y,x=.ref l/\vs=[y]/\H l=some (.lst xs)/\xs.length<sizeLine/\Q .non (upd H l (.lst (xs++[y])))
def GZ:Me X "list.append" vI:=by
 intro pins s σ H x vs v us Q I rx rv h;obtain⟨l,xs,y,rfl,rfl,hH,hz,q⟩:=h;cases rx;obtain⟨u,rfl,ru⟩:=rv.one;obtain⟨z,its,n,r,hl,e⟩:=I.lstM hH;refine call_meets F.slot_list_append ⟨_,e,Y⟩ F.entry_list_append (F.args_list_append_2 _ _) (PySem.list_append l its.toArray n u (by rw[Yn];omega)) ⟨e,?_⟩;refine⟨.non,_,I.lset (its':=its++[u]) hH e (by simp) (r.append (.cons ru .nil)) ?_,Y,q⟩;rw[Yt,List.length_singleton];omega
def vJ:V->LV->Hp->VK->Prop:=λx vs H Q=>∃ l b xs zs,x=.ref l/\vs=[.ref b]/\H l=some (.lst xs)/\H b=some (.lst zs)/\xs.length + zs.length<=sizeLine/\Q .non (upd H l (.lst (xs++zs)))
def bQ:Me X "list.extend" vJ:=by
 intro pins s σ H x vs v us Q I rx rv h;obtain⟨l,b,xs,zs,rfl,rfl,hH,hB,hz,q⟩:=h;cases rx;obtain⟨u,rfl,ru⟩:=rv.one;cases ru;obtain⟨z,its,n,r,hl,e⟩:=I.lstM hH;obtain⟨z2,C2,n2,r2,BK,e2⟩:=I.lstM hB;have hsz:its.toArray.size + C2.toArray.size<=sizeLine:=by rw[Yn,Yn];omega
 have hlong:¬ (!its.toArray.isEmpty&&Builtin.List.listTooLong (its.toArray.size + C2.toArray.size))=true:=by
  rw[lL hsz,Bool.and_false];exact Ym
 refine call_meets F.slot_list_extend ⟨_,e,Y⟩ F.entry_list_extend (F.args_list_extend_2 _ _)
  (AutoSeq1.list_extend_list_list_0 l its.toArray n b C2.toArray n2 hlong (by rw[Yn];omega) (by omega)) ⟨e,e2,?_⟩
 refine⟨.non,_,I.lset (its':=its++C2) hH e (by simp) (r.append r2) ?_,Y,q⟩;rw[Yt];omega
def vz:V->LV->Hp->VK->Prop:=λx vs H Q=>∃ l xs y,x=.ref l/\vs=[]/\H l=some (.lst xs)/\xs[xs.length - 1]?=some y/\Q y (upd H l (.lst xs.dropLast))
def s_:Me X "list.pop" vz:=by
 intro pins s σ H x vs v us Q I rx rv h;obtain⟨l,xs,y,rfl,rfl,hH,hy,q⟩:=h;cases rx;have hus:=rv.zero;subst hus;obtain⟨z,its,n,r,hl,e⟩:=I.lstM hH;obtain⟨u,hu,ru⟩:=r.get hy;have Hg:its.toArray[its.toArray.size - 1]?=some u:=by
  show its.toArray[its.length - 1]?=some u;rw[<- QN,<- hl];exact hu
 refine call_meets F.slot_list_pop ⟨_,e,Y⟩ F.entry_list_pop (F.args_list_pop_1 _) (MeetsSeq.list_pop_last l its.toArray n u Hg (by rw[Yn];omega)) ⟨e,?_⟩;refine⟨y,_,I.lset (its':=its.dropLast) hH e ?_ r.dropLast ?_,ru,q⟩
 ·show its.toArray.eraseIdxIfInBounds (its.toArray.size - 1)=its.dropLast.toArray;rw[Yn,W3,pO]
 ·rw[List.length_dropLast];omega
def vv:R2:=λx y H Q=>∃ l b xs zs,x=.ref l/\y=.ref b/\H l=some (.lst xs)/\H b=some (.lst zs)/\xs.length + zs.length<=sizeLine/\∀ p,H p=none->Q (.ref p) (upd H p (.lst (xs++zs)))
def VA:Bb X (binaryOp .Add) vv:=by
 exfalso;obtain⟨l,b,xs,zs,rfl,rfl,hH,hB,hz,q⟩:=h;cases rx;cases ry;obtain⟨z,its,n,r,hl,e⟩:=I.lstM hH;obtain⟨z2,C2,n2,r2,BK,e2⟩:=I.lstM hB;refine PySem.P.add_list e e2 ?_ (by rw[Yn,Yn];omega);have ea:its.toArray++C2.toArray=(its++C2).toArray:=by simp
 rw[ea];exact⟨.ref _,_,I.lnew (t':=s.toks) (r.append r2) (by rw[Yt];omega),Y,q _ I.fresh⟩
end
section
variable {prog:Program}{w:World}{A:Around}{E:EV}{s:Shared}
end
section
variable {X:Cx}
end
section
variable {κ:Type}[DecidableEq κ]
def A2(kvs:List (κ×V))(k:κ):OV:=(kvs.find? λkv=>decide (kv.1=k)).map (·.2)
def BU(kvs:List (κ×V))(k:κ)(v:V):List (κ×V):=
 if(kvs.any λkv=>decide (kv.1=k))=true then kvs.map (λkv=>if kv.1=k then(kv.1,v)else kv)else kvs++[(k,v)]
def FE{p:κ×V}{r:List (κ×V)}{k:κ}(e:p.1=k):A2 (p :: r) k=some p.2:=by simp[A2,MV,e]
def FD{p:κ×V}{r:List (κ×V)}{k:κ}(e:¬ p.1=k):A2 (p :: r) k=A2 r k:=by simp[A2,MV,e]
theorem Ls(k:κ):∀ kvs:List (κ×V),(kvs.any λkv=>decide (kv.1=k))=(A2 kvs k).isSome
 | []=>rfl
 | p :: r=>by
  rw[Ke];by_cases e:p.1=k
  ·simp only[FE e,Jb e,Bool.true_or,Option.isSome_some]
  ·rw[FD e,Jc e,Bool.false_or];exact Ls k r
theorem au(k j:κ)(y:V):∀ kvs:List (κ×V),A2 (kvs.map λkv=>if kv.1=k then(kv.1,y)else kv) j=(A2 kvs j).map λx=>if j=k then y else x
 | []=>rfl
 | p :: r=>by
  have ih:=au k j y r;rw[Yo];by_cases h:p.1=k
  ·rw[if_pos h];by_cases e:p.1=j
   ·rw[FE (p:=(p.1,y)) e,FE e,QL,if_pos (e.symm.trans h)]
   ·rw[FD (p:=(p.1,y)) e,FD e,ih]
  ·rw[if_neg h];by_cases e:p.1=j
   ·rw[FE (p:=p) e,FE e,QL,if_neg (λz=>h (e.trans z))]
   ·rw[FD (p:=p) e,FD e,ih]
theorem cB(k j:κ)(y:V):∀ kvs:List (κ×V),A2 kvs k=none->A2 (kvs++[(k,y)]) j=if j=k then some y else A2 kvs j
 | [],_=>by
  by_cases e:k=j
  ·rw[if_pos e.symm];exact FE (p:=(k,y)) e
  ·rw[if_neg (λz=>e z.symm)];exact FD (p:=(k,y)) e
 | p :: r,hn=>by
  rw[List.cons_append];have hk:¬ p.1=k:=λz=>by rw[FE z]at hn;cases hn
  rw[FD hk]at hn;have ih:=cB k j y r hn;by_cases e:p.1=j
  ·rw[FE e,FE e,if_neg (λz=>hk (e.trans z))]
  ·rw[FD e,FD e,ih]
def av(kvs:List (κ×V))(k j:κ)(y:V):A2 (BU kvs k y) j=if j=k then some y else A2 kvs j:=by
 unfold BU;by_cases a:(kvs.any λkv=>decide (kv.1=k))=true
 ·rw[if_pos a,au];rw[Ls]at a;by_cases e:j=k
  ·obtain⟨x,hx⟩:=OI.mp a;rw[if_pos e,e,hx,QL,if_pos rfl]
  ·rw[if_neg e];cases A2 kvs j with
   | none=>rfl
   | some x=>rw[QL,if_neg e]
 ·rw[if_neg a];refine cB k j y kvs ?_;rw[Ls]at a;cases q:A2 kvs k with
  | none=>rfl
  | some x=>rw[q]at a;exact(a rfl).elim
def Sx(kvs:List (κ×V))(k:κ)(v:V):(BU kvs k v).length<=kvs.length + 1:=by
 unfold BU;split
 ·rw[Ya];omega
 ·rw[Yt,Bv,QK];omega
def Nm{kvs:List (κ×V)}{k:κ}(v:V)(h:A2 kvs k=none):BU kvs k v=kvs++[(k,v)]:=by
 unfold BU;rw[Ls,h];exact if_neg (by decide)
def EL.isSome_eq{o:OV}{u:OU}(r:EL o u):o.isSome=u.isSome:=by
 cases o with
 | none=>cases u with
  | none=>rfl
  | some _=>exact(show False from r).elim
 | some _=>cases u with
  | none=>exact(show False from r).elim
  | some _=>rfl
def KV.val{kvs:List (κ×V)}{vs:List (κ×Value)}(r:KV kvs vs)(k:κ):EL (A2 kvs k) (valueAt vs k):=by
 unfold KV at r
 induction r with
 | nil=>exact True.intro
 | @cons p q ps qs h t ih =>
  obtain⟨h1,h2⟩:=h;by_cases e:p.1=k
  ·have e':q.1=k:=h1.symm.trans e;have b:valueAt (q :: qs) k=some q.2:=by simp[valueAt,MV,e']
   rw[FE e,b];exact h2
  ·have e':¬ q.1=k:=λz=>e (h1.trans z);have b:valueAt (q :: qs) k=valueAt qs k:=by simp[valueAt,MV,e']
   rw[FD e,b];exact ih
theorem KV.any{kvs:List (κ×V)}{vs:List (κ×Value)}(r:KV kvs vs)(k:κ):(kvs.any λkv=>decide (kv.1=k))=vs.any λkv=>decide (kv.1=k):=by
 unfold KV at r
 induction r with
 | nil=>rfl
 | cons h t ih=>rw[Ke,Ke,ih,h.1]
def KV.repl{kvs:List (κ×V)}{vs:List (κ×Value)}(r:KV kvs vs)(k:κ){y:V}{u:Value}(ry:AX y u):
  KV (kvs.map λkv=>if kv.1=k then(kv.1,y)else kv) (vs.map λkv=>if kv.1=k then(kv.1,u)else kv):=by
 unfold KV at r ⊢
 induction r with
 | nil=>exact .nil
 | @cons p q ps qs h t ih =>
  rw[Yo,Yo];refine .cons ?_ ih;obtain⟨h1,h2⟩:=h;by_cases e:p.1=k
  ·rw[if_pos e,if_pos (h1.symm.trans e)];exact⟨h1,ry⟩
  ·rw[if_neg e,if_neg (λz=>e (h1.trans z))];exact⟨h1,h2⟩
def KV.put{kvs:List (κ×V)}{vs:List (κ×Value)}(r:KV kvs vs)(k:κ){y:V}{u:Value}(ry:AX y u):KV (BU kvs k y) (stored vs k u):=by
 unfold BU stored;rw[r.any k];by_cases e:(vs.any λkv=>decide (kv.1=k))=true
 ·rw[if_pos e,if_pos e];exact r.repl k ry
 ·rw[if_neg e,if_neg e];exact Fn r ⟨Y,ry⟩
theorem KV.length{kvs:List (κ×V)}{vs:List (κ×Value)}(r:KV kvs vs):kvs.length=vs.length:=Bl r
end
def NP{P:Program}{w:World}{k:Key}{u:Value}(r:AX (kV k) u):(Cq P w).is k u=true:=by
 cases k with
 | inl i=>obtain⟨t,e⟩:=(show ∃ t,u=Value.int i t from r);subst e;exact p_ P w i t
 | inr x=>obtain⟨t,e⟩:=(show ∃ t,u=Value.str x t from r);subst e;exact qA P w x t
theorem bK{P:Program}{w:World}:∀ {ks:List Key}{us:LU},AQ (ks.map kV) us->ItemsAre (Cq P w) ks us
 | [],_,r=>by rw[List.map_nil]at r;cases r;exact .nil
 | k :: ks,_,r=>by
  rw[Yo]at r;cases r with
  | cons h t=>exact .cons (NP h) (bK t)
abbrev KT(H:Hp):List (List Key×V)->List (List Key×Addr×Value)->Prop:=Paired λp q=>p.1=q.1/\H q.2.1=some (.tup (p.1.map kV))/\AX p.2 q.2.2
def KT.val{H:Hp}{kvs:List (List Key×V)}{xs:List (List Key×Addr×Value)}(r:KT H kvs xs)(k:List Key):EL (A2 kvs k) ((atKey xs k).map (·.2)):=by
 induction r with
 | nil=>exact True.intro
 | @cons p q ps qs h t ih =>
  obtain⟨h1,_,h2⟩:=h;by_cases e:p.1=k
  ·have e':q.1=k:=h1.symm.trans e;have b:atKey (q :: qs) k=some q.2:=by simp[atKey,MV,e']
   rw[FE e,b];exact h2
  ·have e':¬ q.1=k:=λz=>e (h1.trans z);have b:atKey (q :: qs) k=atKey qs k:=by simp[atKey,MV,e']
   rw[FD e,b];exact ih
def KT.repl{H:Hp}{kvs:List (List Key×V)}{xs:List (List Key×Addr×Value)}(r:KT H kvs xs)(k:List Key){y:V}{u:Value}(ry:AX y u):
  KT H (kvs.map λkv=>if kv.1=k then(kv.1,y)else kv) (xs.map (putAt k u)):=by
 induction r with
 | nil=>exact .nil
 | @cons p q ps qs h t ih =>
  rw[Yo,Yo];refine .cons ?_ ih;obtain⟨h1,h2,h3⟩:=h;unfold putAt;by_cases e:p.1=k
  ·rw[if_pos e,if_pos (h1.symm.trans e)];exact⟨h1,h2,ry⟩
  ·rw[if_neg e,if_neg (λz=>e (h1.trans z))];exact⟨h1,h2,h3⟩
def KT.put{H:Hp}{kvs:List (List Key×V)}{xs:List (List Key×Addr×Value)}(r:KT H kvs xs)(k:List Key){b:Addr}{y:V}{u:Value}(hb:H b=some (.tup (k.map kV)))(ry:AX y u):
  KT H (BU kvs k y) (storedH xs k b u):=by
 have e:(kvs.any λkv=>decide (kv.1=k))=(atKey xs k).isSome:=by
  rw[Ls,(r.val k).isSome_eq,Option.isSome_map]
 unfold BU storedH;rw[e];by_cases q:(atKey xs k).isSome=true
 ·rw[if_pos q,if_pos q];exact r.repl k ry
 ·rw[if_neg q,if_neg q];exact Fn r ⟨Y,hb,ry⟩
def KT.keeps{H H':Hp}{kvs:List (List Key×V)}{xs:List (List Key×Addr×Value)}(r:KT H kvs xs)(ht:∀ b ys,H b=some (.tup ys)->H' b=some (.tup ys)):KT H' kvs xs :=
 Paired.mapP r λ_ _ z=>⟨z.1,ht _ _ z.2.1,z.2.2⟩
section
variable {P:Program}{w:World}{H:Hp}{h:Heap}{a:Addr}
def gR{u:HO}(ok:Bf P w H h)(e:Rd H a u):BO P w H h a u:=e.ok ok
def LP{kvs:KL}(ok:Bf P w H h)(e:Rd H a (.dK kvs)):kvs.length<=sizeLine/\(a == sysModules)=false/\∃ vs,KV kvs vs/\h.DictOf (Cq P w) a vs :=
 show BO P w H h a (.dK kvs)from gR ok e
def gL{kvs:KL}(ok:Bf P w H h)(e:H a=some (.dK kvs)):kvs.length<=sizeLine/\(a == sysModules)=false/\∃ vs,KV kvs vs/\h.DictOf (Cq P w) a vs:=LP ok (.inl e)
def O5{ks:List Key}(ok:Bf P w H h)(e:H a=some (.tup (ks.map kV))):(tupleKind (Cq P w)).is h ks a:=by
 obtain⟨_,its,r,o,h1,h2,n,h3⟩:=(show BO P w H h a (.tup (ks.map kV))from ok a _ e);exact⟨o,its.toArray,n,h1,h2,h3,by simpa using bK r⟩
def NR{kvs:List (List Key×V)}(ok:Bf P w H h)(e:Rd H a (.dT kvs)):kvs.length<=sizeLine/\(a == sysModules)=false /\
  ∃ xs,KT H kvs xs/\h.DictOfH (tupleKind (Cq P w)) a xs:=by
 obtain⟨z,y,xs,r,o,es,ep,h1,h2,h3,h4,h5⟩:=(show BO P w H h a (.dT kvs)from gR ok e);refine⟨z,y,xs,r,o,es,ep,h1,h2,h3,h4,λx hx=>?_,h5⟩;have all:∀ {l:List (List Key×V)} {m:List (List Key×Addr×Value)},KT H l m->∀ x∈m,(tupleKind (Cq P w)).is h x.1 x.2.1:=by
  intro l m q
  induction q with
  | nil=>intro x hx;exact nomatch hx
  | @cons p q ps qs hq t ih =>
   intro x hx
   rcases Yw.mp hx with e | hx
   ·subst e;exact O5 ok (by rw[<- hq.1];exact hq.2.1)
   ·exact ih x hx
 exact all r x hx
def ql{kvs:List (List Key×V)}(ok:Bf P w H h)(e:H a=some (.dT kvs)):kvs.length<=sizeLine/\(a == sysModules)=false /\
  ∃ xs,KT H kvs xs/\h.DictOfH (tupleKind (Cq P w)) a xs:=NR ok (.inl e)
end
def BM(H:Hp)(a:Addr)(y:V)(r:OV):Prop :=
 (∃ kvs k,Rd H a (.dK kvs)/\y=kV k/\r=A2 kvs k)\/∃ kvs k b,Rd H a (.dT kvs)/\y=.ref b/\H b=some (.tup (k.map kV))/\r=A2 kvs k
def EK(H:Hp)(a:Addr)(y v:V)(H':Hp):Prop :=
 (∃ kvs k,H a=some (.dK kvs)/\y=kV k/\kvs.length<sizeLine/\H'=upd H a (.dK (BU kvs k v))) \/
 ∃ kvs k b,H a=some (.dT kvs)/\y=.ref b/\H b=some (.tup (k.map kV))/\kvs.length<sizeLine/\H'=upd H a (.dT (BU kvs k v))
def BM.k{H:Hp}{a:Addr}{kvs:KL}{k:Key}(e:H a=some (.dK kvs)):BM H a (kV k) (A2 kvs k):=.inl ⟨kvs,k,.inl e,Y,Y⟩
def BM.t{H:Hp}{a b:Addr}{kvs:List (List Key×V)}{k:List Key}(e:H a=some (.dT kvs))(eb:H b=some (.tup (k.map kV))):BM H a (.ref b) (A2 kvs k):=.inr ⟨kvs,k,b,.inl e,Y,eb,Y⟩
def EK.k{H:Hp}{a:Addr}{kvs:KL}{k:Key}{v:V}(e:H a=some (.dK kvs))(hl:kvs.length<sizeLine):EK H a (kV k) v (upd H a (.dK (BU kvs k v))):=.inl ⟨kvs,k,e,Y,hl,Y⟩
def EK.t{H:Hp}{a b:Addr}{kvs:List (List Key×V)}{k:List Key}{v:V}(e:H a=some (.dT kvs))(eb:H b=some (.tup (k.map kV)))(hl:kvs.length<sizeLine):
  EK H a (.ref b) v (upd H a (.dT (BU kvs k v))):=.inr ⟨kvs,k,b,e,Y,eb,hl,Y⟩
section
variable {X:Cx}{pins:PL}{σ:St}{H:Hp}{s:Shared}{a:Addr}{y v:V}{u r:Value}{o:OV}{A:Around}{E:EV}
def Inv.big(I:Inv X pins σ H s):sysModules<s.heap.objs.size:=by
 have h:mainGlobals<s.heap.objs.size:=(I.mod.glob.keeps I.bk).lt;exact Nat.lt_trans (by decide) h
def mr{Q:EV}(hu:A.units + 1<cLine)(I:Inv X pins σ H s)(g:BM H a y (some v))(ry:AX y u)(h:∀ w' s',Inv X pins σ H s'->AX v w'->Q w' s'):
  wpAny (model X.prog X.w) A (getItem (.ref a) u) Q E s:=by
 rcases g with⟨kvs,k,e,ey,l⟩ | ⟨kvs,k,b,e,ey,eb,l⟩
 ·subst ey;obtain⟨z,hd,vs,rel,dd⟩:=LP I.hok e;obtain⟨w',hw,Cb⟩:=EL.some_of (v:=v) (o:=valueAt vs k) (by rw[l];exact rel.val k);exact wpAny_getItem_of (NP ry) dd.mapOf hw (h w' _ (I.tok _) Cb)
 ·subst ey;cases(show u=Value.ref b from ry);obtain⟨z,hd,xs,rel,dd⟩:=NR I.hok e;obtain⟨w',hw,Cb⟩:=EL.some_of (v:=v) (o:=(atKey xs k).map (·.2)) (by rw[l];exact rel.val k);obtain⟨p,hp,DK⟩:=IJ.mp hw;refine wpAny_getItem_heap (tupleKind_room_in1 hu) (O5 I.hok eb) dd hp ?_;rw[DK];exact h w' _ (I.tok _) Cb
def vj{Q:EV}(hu:A.units + 1<cLine)(I:Inv X pins σ H s)(g:BM H a y o)(ry:AX y u)(h:∀ s',Inv X pins σ H s'->Q (.bool o.isSome) s'):
  wpAny (model X.prog X.w) A (compareOp .In u (.ref a)) Q E s:=by
 rcases g with⟨kvs,k,e,ey,l⟩ | ⟨kvs,k,b,e,ey,eb,l⟩
 ·subst ey;obtain⟨z,hd,vs,rel,dd⟩:=LP I.hok e;refine wpAny_in_of (NP ry) hd dd.mapOf ?_;rw[<- (rel.val k).isSome_eq,<- l];exact h _ (I.tok _)
 ·subst ey;cases(show u=Value.ref b from ry);obtain⟨z,hd,xs,rel,dd⟩:=NR I.hok e;refine wpAny_in_heap (tupleKind_room_in1 hu) (O5 I.hok eb) hd dd ?_;have q:=(rel.val k).isSome_eq;rw[Option.isSome_map]at q;rw[<- q,<- l];exact h _ (I.tok _)
def uC{Q:EV}(hu:A.units + 1<cLine)(I:Inv X pins σ H s)(g:BM H a y o)(ry:AX y u)(h:∀ s',Inv X pins σ H s'->Q (.bool (!o.isSome)) s'):
  wpAny (model X.prog X.w) A (compareOp .NotIn u (.ref a)) Q E s:=by
 rcases g with⟨kvs,k,e,ey,l⟩ | ⟨kvs,k,b,e,ey,eb,l⟩
 ·subst ey;obtain⟨z,hd,vs,rel,dd⟩:=LP I.hok e;refine wpAny_notIn_of (NP ry) hd dd.mapOf ?_;rw[<- (rel.val k).isSome_eq,<- l];exact h _ (I.tok _)
 ·subst ey;cases(show u=Value.ref b from ry);obtain⟨z,hd,xs,rel,dd⟩:=NR I.hok e;refine wpAny_notIn_heap (tupleKind_room_in1 hu) (O5 I.hok eb) hd dd ?_;have q:=(rel.val k).isSome_eq;rw[Option.isSome_map]at q;rw[<- q,<- l];exact h _ (I.tok _)
def VX{h':Heap}{t':Nat}{ob:HO}(I:Inv X pins σ H s)(mu:QV (H a))(hs:Heap.SameBut a s.heap h')(he:∃ q,h'.get? a=some q)(new:BO X.prog X.w (upd H a ob) h' a ob):
  Inv X pins σ (upd H a ob) {s with heap:=h',toks:=t' } :=
 I.write (x:=a) (e:=a) mu (.inl rfl) (λb q hb z=>(hs.2 b hb).trans z) he new
def gy{P:Program}{w:World}{H':Hp}{h':Heap}{kvs:KL}{vs:List (Key×Value)}(z:kvs.length<=sizeLine)(hd:(a == sysModules)=false)(rel:KV kvs vs)(dd:h'.DictOf (Cq P w) a vs):
  BO P w H' h' a (.dK kvs):=⟨z,hd,vs,rel,dd⟩
def mv{H':Hp}{Q:Unit->Shared->Prop}(hu:A.units + 1<cLine)(I:Inv X pins σ H s)(g:EK H a y v H')(ry:AX y u)(rv:AX v r)(h:∀ s',Inv X pins σ H' s'->Q () s'):
  wpAny (model X.prog X.w) A (setItem (.ref a) u r) Q E s:=by
 rcases g with⟨kvs,k,e,ey,l,eH⟩ | ⟨kvs,k,b,e,ey,eb,l,eH⟩
 ·subst ey eH;obtain⟨z,hd,vs,rel,dd⟩:=gL I.hok e;have hz:vs.length<=sizeLine:=by rw[<- rel.length];exact z
  have hl:(BU kvs k v).length<=sizeLine:=by have:=Sx kvs k v;omega
  refine wpAny_setItem_pairs (hsz:=hz) (NP ry) dd λh' LL hs=>h _ ?_;have he:∃ q,h'.get? a=some q:=let⟨q,_,_,hq,_⟩:=LL;⟨q,hq⟩;exact VX I (by rw[e];exact True.intro) hs he (gy hl hd (rel.put k rv) LL)
 ·subst ey eH;cases(show u=Value.ref b from ry);obtain⟨z,hd,xs,rel,dd⟩:=ql I.hok e;have hz:xs.length<=sizeLine:=by rw[<- Bl rel];exact z
  have hl:(BU kvs k v).length<=sizeLine:=by have:=Sx kvs k v;omega
  refine wpAny_setItem_heap (hsz:=hz) (tupleKind_room_in1 hu) (O5 I.hok eb) dd λh' LL hs=>h _ ?_;obtain⟨q,es,ep,hq,h2,h3,h4,_,h5⟩:=LL;refine VX I (by rw[e];exact True.intro) hs ⟨q,hq⟩ ⟨hl,hd,_,(rel.put k eb rv).keeps λc ys ec=>?_,q,es,ep,hq,h2,h3,h4,h5⟩;rw[AD (Wj ec e (λz=>nomatch z))];exact ec
end
section
variable {X:Cx}{pins:PL}{σ:St}{H:Hp}{s:Shared}{a:Addr}{kvs:KL}{k:Key}{u:Value}{A:Around}{E:EV}
end
def eV(i:Expr):Prop:=∀ ov iv,subscripted i false ov iv=operate [ov,iv] (getItem ov iv)
def vC{prog:Program}{w:World}{A:Around}{E:EV}{s:Shared}{env:Env}{value slice:Expr}{pos:Pos}{T id:String}{Q:EV}
  (hl:typeLookup (.type T) "__getitem__"=pure (some (.builtin id))) (hs:eV slice)
  (h:wpAny (model prog w) A (eval value env) (λo s₁=>wpAny (model prog w) A (eval slice env) (λi s₂=>s₂.TypeIs o T/\wpAny (model prog w) A (getItem o i) Q E s₂) E s₁) E s):
  wpAny (model prog w) A (eval (.Subscript value slice pos) env) Q E s:=by
 refine Subscript_ (Jf h (λo s₁ h₁=>Jf h₁ (λi s₂ h₂=>?_) λ_ _ x=>x) λ_ _ x=>x);obtain⟨hT,h₂⟩:=h₂;unfold subscriptTail;refine Ja ?_;rw[getitemInPython_of_ne hT.not_modules];refine Ja (wpAny_specialOf hT hl ?_);have fin:wpAny (model prog w) A (subscripted slice false o i) (λr s₃=>wpAny (model prog w) A (letTemporaryGo value o r>>=λ_=>pure r) Q E s₃) E s₂:=by
  rw[hs o i];exact wpAny_operating (Jf h₂ (λr s₃ h₃=>Ja (wpAny_letTemporaryGo (Jd h₃))) λ_ _ x=>x)
 first
  | exact Jd (Ja fin)
  | exact Ja (Jd (Ja fin))
  | exact Ja fin
def qK{X:Cx}{pins:PL}{σ:St}{H:Hp}{s:Shared}{a:Addr}{y:V}{o:OV}(I:Inv X pins σ H s)(g:BM H a y o):s.TypeIs (.ref a) "dict":=by
 rcases g with⟨kvs,k,e,_,_⟩ | ⟨kvs,k,b,e,_,_,_⟩
 ·obtain⟨_,_,vs,_,dd⟩:=LP I.hok e;exact dd.typeIs
 ·obtain⟨_,_,xs,_,dd⟩:=NR I.hok e;exact dd.typeIs
def rF(td ty:TE):TE:=λσ H Q=>td σ H λx H1=>ty σ H1 λy H2=>∃ a v,x=.ref a/\BM H2 a y (some v)/\Q v H2
def wW(ty td:TE):TE:=λσ H Q=>ty σ H λy H1=>td σ H1 λx H2=>∃ a o,x=.ref a/\BM H2 a y o/\Q (.bl o.isSome) H2
def vD(ty td:TE):TE:=λσ H Q=>ty σ H λy H1=>td σ H1 λx H2=>∃ a o,x=.ref a/\BM H2 a y o/\Q (.bl (!o.isSome)) H2
def q_(td ty tv:TE):TS:=λD σ H=>tv σ H λv H1=>td σ H1 λx H2=>ty σ H2 λy H3=>∃ a H4,x=.ref a/\EK H3 a y v H4/\D.nx σ H4
section
variable {X:Cx}{o i e value:Expr}{pos pos' Ew:Pos}{td ty tv:TE}
def Fm(hu:X.A.units + 1<cLine)(ho:PE X o td)(hi:PE X i ty)(hs:eV i):PE X (.Subscript o i pos) (rF td ty):=by
 ac_rfl;refine vC PySem.F.slot_dict_getitem.lookup hs (AM (ho pins s σ H _ I h) λu s1 ⟨x,H1,I1,rx,q1⟩=>AM (hi pins s1 σ H1 _ I1 q1) λiv s2 ⟨y,H2,I2,ry,a,v,ex,g,q2⟩=>?_);subst ex;obtain rfl:u=Value.ref a:=rx;exact⟨qK I2 g,mr hu I2 g ry λw' s3 I3 Cb=>⟨v,H2,I3,Cb,q2⟩⟩
def Lf(hu:X.A.units + 1<cLine)(hi:PE X i ty)(ho:PE X o td):PC X .In i o (wW ty td):=by
 ac_rfl;refine AM (hi pins s σ H _ I h) λiv s1 ⟨y,H1,I1,ry,q1⟩=>AM (ho pins s1 σ H1 _ I1 q1) λu s2 ⟨x,H2,I2,rx,a,ov,ex,g,q2⟩=>?_;subst ex;obtain rfl:u=Value.ref a:=rx;exact vj hu I2 g ry λs3 I3=>⟨.bl ov.isSome,H2,I3,Y,q2⟩
def V1(hu:X.A.units + 1<cLine)(hi:PE X i ty)(ho:PE X o td):PC X .NotIn i o (vD ty td):=by
 ac_rfl;refine AM (hi pins s σ H _ I h) λiv s1 ⟨y,H1,I1,ry,q1⟩=>AM (ho pins s1 σ H1 _ I1 q1) λu s2 ⟨x,H2,I2,rx,a,ov,ex,g,q2⟩=>?_;subst ex;obtain rfl:u=Value.ref a:=rx;exact uC hu I2 g ry λs3 I3=>⟨.bl (!ov.isSome),H2,I3,Y,q2⟩
def JA(hu:X.A.units + 1<cLine)(ho:PE X o td)(hi:PE X i ty)(hv:PE X value tv)(hs:swapsWith value (some (.Subscript o i pos')) pos.line X.env=pure false):
  PS X (.Assign [.Subscript o i pos'] value pos) (q_ td ty tv):=by
 intro pins s σ H D I h;refine wpAny_Assign_Subscript (AM (hv pins s σ H _ I h) λr s1 ⟨v,H1,I1,rv,q1⟩=>AM (ho pins s1 σ H1 _ I1 q1) λu s2 ⟨x,H2,I2,rx,q2⟩=>AM (hi pins s2 σ H2 _ I2 q2) λiv s3 ⟨y,H3,I3,ry,a,H4,ex,g,q3⟩=>?_) hs;subst ex;obtain rfl:u=Value.ref a:=rx;exact mv hu I3 g ry rv λs4 I4=>⟨σ,H4,I4,q3⟩
end
def aF{P:Program}{w:World}{H:Hp}(h:Heap)(hb:sysModules<h.objs.size):BO P w H (h.push {cls:=.type "dict",data:=.dict #[] }) h.objs.size (.dK []):=
 ⟨BF _,JL.mpr (Yr (A8 hb)),[],.nil,Heap.DictOf.new h⟩
def vU{P:Program}{w:World}{H:Hp}(h:Heap)(hb:sysModules<h.objs.size):BO P w H (h.push {cls:=.type "dict",data:=.dict #[] }) h.objs.size (.dT []):=
 ⟨BF _,JL.mpr (Yr (A8 hb)),[],.nil,_,#[],0,Yk _ rfl,⟨Y,Y,Y⟩,Y,Y,OL⟩
def tM:TE:=λ_ H Q=>∀ p,H p=none->Q (.ref p) (upd H p (.dK []))
def tN:TE:=λ_ H Q=>∀ p,H p=none->Q (.ref p) (upd H p (.dT []))
section
variable {X:Cx}{pos:Pos}
def Nl:PE X (.Dict [] [] pos) tM:=λpins s σ H Q I h =>
 wpAny_Dict_empty ⟨.ref s.heap.objs.size,_,I.laid (a:=s.heap.objs.size) (o:=.dK []) (t':=s.toks) (λ_ _ q=>Yd _ q) (Yf _) (aF s.heap I.big),Y,h _ (I.hok.fresh (Yf _))⟩
def az:PE X (.Dict [] [] pos) tN:=λpins s σ H Q I h =>
 wpAny_Dict_empty ⟨.ref s.heap.objs.size,_,I.laid (a:=s.heap.objs.size) (o:=.dT []) (t':=s.toks) (λ_ _ q=>Yd _ q) (Yf _) (vU s.heap I.big),Y,h _ (I.hok.fresh (Yf _))⟩
end
def VC:List (TE×TE)->St->Hp->(List (V×V)->Hp->Prop)->Prop
 | [],_,H,Q=>Q [] H
 | (tk,tv):: r,σ,H,Q=>tk σ H λx H1=>tv σ H1 λy H2=>VC r σ H2 λps H3=>Q ((x,y):: ps) H3
abbrev VV:List (V×V)->List (Value×Value)->Prop:=Paired λp q=>AX p.1 q.1/\AX p.2 q.2
def Tv(X:Cx)(pos:Pos)(keys:List (Option Expr))(values:List Expr)(trs:List (TE×TE)):Prop :=
 ∀(pins:PL) (s:Shared) (σ:St) (H:Hp) (Q:List (V×V)->Hp->Prop),Inv X pins σ H s->VC trs σ H Q ->
  wpAny (model X.prog X.w) X.A (evalPairs (pairTrees keys values X.env pos)) (λvs s'=>∃ ps H',Inv X pins σ H' s'/\VV ps vs/\Q ps H') X.xe s
def vG{X:Cx}{pos:Pos}:Tv X pos [] [] []:=λpins s σ H Q I h=>pairTrees_nil_walk ⟨[],H,I,.nil,h⟩
def mh{X:Cx}{pos:Pos}{k v:Expr}{ks:List (Option Expr)}{vs:List Expr}{tk tv:TE}{trs:List (TE×TE)}(hk:PE X k tk)(hv:PE X v tv)(hr:Tv X pos ks vs trs):
  Tv X pos (some k :: ks) (v :: vs) ((tk,tv):: trs):=λpins s σ H Q I h =>
 pairTrees_cons_walk (AM (hk pins s σ H _ I h) λu s1 ⟨x,H1,I1,rx,q1⟩=>AM (hv pins s1 σ H1 _ I1 q1) λw2 s2 ⟨y,H2,I2,ry,q2⟩ =>
  AM (hr pins s2 σ H2 _ I2 q2) λws s3 ⟨ps,H3,I3,rel,q3⟩=>⟨(x,y):: ps,H3,I3,.cons ⟨rx,ry⟩ rel,q3⟩)
def O6(kvs more:KL):KL:=more.foldl (λacc kv=>BU acc kv.1 kv.2) kvs
def KV.merge:∀ {more:KL}{rs:List (Key×Value)}{kvs:KL}{vs:List (Key×Value)},KV more rs->KV kvs vs->KV (O6 kvs more) (merged vs rs):=by
 intro more rs kvs vs r;unfold KV at r
 induction r generalizing kvs vs with
 | nil=>intro q;exact q
 | @cons p q ps qs h t ih =>
  intro r0;have e:KV (BU kvs p.1 p.2) (stored vs q.1 q.2):=by
   have:=r0.put p.1 h.2;rw[<- h.1];exact this
  exact ih e
theorem dY:∀(more kvs:KL),(O6 kvs more).length<=kvs.length + more.length
 | [],kvs=>by show kvs.length<=kvs.length + 0;omega
 | p :: r,kvs=>by
  have h1:=dY r (BU kvs p.1 p.2);have h2:=Sx kvs p.1 p.2;show(O6 (BU kvs p.1 p.2) r).length<=_;rw[Bv];omega
theorem cY{P:Program}{w:World}:∀ {kvs:KL}{ws:List (Value×Value)},VV (kvs.map λkv=>(kV kv.1,kv.2)) ws->∃ rs,Carries (Cq P w) ws rs/\KV kvs rs
 | [],_,r=>by rw[List.map_nil]at r;cases r;exact⟨[],True.intro,.nil⟩
 | p :: kvs,_,r=>by
  rw[Yo]at r;cases r with
  | @cons a b as bs h t =>
   obtain⟨rs,c,q⟩:=cY (P:=P) (w:=w) t;obtain⟨b1,b2⟩:=b;exact⟨(p.1,b2):: rs,⟨NP h.1,Y,c⟩,.cons ⟨Y,h.2⟩ q⟩
def rG(trs:List (TE×TE)):TE:=λσ H Q=>∀ p,H p=none->VC trs σ (upd H p (.dK [])) λps H2=>H2 p=some (.dK [])/\∃ kvs:KL,ps=kvs.map (λkv=>(kV kv.1,kv.2))/\kvs.length<=15/\Q (.ref p) (upd H2 p (.dK (O6 [] kvs)))
def u0{X:Cx}{pos:Pos}{keys:List (Option Expr)}{values:List Expr}{trs:List (TE×TE)}(h:Tv X pos keys values trs)(hall:keys.all (·.isSome)=true)(hl:keys.length=values.length)(h0:keys≠[])
  (kR:keys.length<=15):PE X (.Dict keys values pos) (rG trs):=by
 intro pins s σ H Q I q;have hn:=I.hok.fresh (Yf s.heap.objs.size);have I1:=I.laid (a:=s.heap.objs.size) (o:=.dK []) (h':=s.heap.push {cls:=.type "dict",data:=.dict #[] }) (t':=s.toks) (λ_ _ q=>Yd _ q) (Yf _) (aF s.heap I.big);refine wpAny_Dict_walk (knd:=Cq X.prog X.w) hall hl h0 kR (AM (h pins _ σ _ _ I1 (q _ hn)) λws s2 ⟨ps,H2,I2,rel,e,kvs,ep,lk,q2⟩=>?_);subst ep;obtain⟨rs,c,rk⟩:=cY (P:=X.prog) (w:=X.w) rel;obtain⟨z,hd,iq,r0,dd⟩:=gL I2.hok e;cases r0;refine⟨rs,c,dd,λh' LL hs=>⟨.ref s.heap.objs.size,_,?_,Y,q2⟩⟩;have hz:(O6 [] kvs).length<=sizeLine:=by
  have h1:=dY kvs [];rw[QK]at h1;rw[sizeLine_eq];omega
 have he:∃ q,h'.get? s.heap.objs.size=some q:=let⟨q,_,_,hq,_⟩:=LL;⟨q,hq⟩;exact VX I2 (by rw[e];exact True.intro) hs he (gy hz hd (rk.merge .nil) LL)
structure M1(X:Cx)(o:Expr)(m:Str)(apos:Pos)(e:Expr)(Ac:Pos):Prop where
 base:attributeBase o m X.env (eval o X.env)=eval o X.env
 few:((backTo Ac (starEach [e] X.env)).all (λx=>!x.1)&&(backToKw Ac (keywordEach [] X.env)).all (λx=>x.1.isSome)
  && decide (([e]:List Expr).length + ([]:List Keyword).length + (if([]:List Keyword).isEmpty then 0 else 1)<30))=true
 line:(apos.endLine == Ac.line)=true
 trees:backTo Ac (starEach [e] X.env)=[(false,eval e X.env)]
structure M2(X:Cx)(o:Expr)(m:Str)(apos:Pos)(e f:Expr)(Ac:Pos):Prop where
 base:attributeBase o m X.env (eval o X.env)=eval o X.env
 few:((backTo Ac (starEach [e,f] X.env)).all (λx=>!x.1)&&(backToKw Ac (keywordEach [] X.env)).all (λx=>x.1.isSome)
  && decide (([e,f]:List Expr).length + ([]:List Keyword).length + (if([]:List Keyword).isEmpty then 0 else 1)<30))=true
 line:(apos.endLine == Ac.line)=true
 trees:backTo Ac (starEach [e,f] X.env)=[(false,eval e X.env),(false,eval f X.env)]
def xK(H:Hp)(a:Addr):Prop:=(∃ kvs,Rd H a (.dK kvs))\/∃ kvs,Rd H a (.dT kvs)
def rf{X:Cx}{pins:PL}{σ:St}{H:Hp}{s:Shared}{a:Addr}(I:Inv X pins σ H s)(d:xK H a):
  s.TypeIs (.ref a) "dict"/\(∀ b,Value.ref a=.ref b->∃ ob,s.heap.get? b=some ob/\ob.dict=none)/\(a == sysModules)=false:=by
 rcases d with⟨kvs,e⟩ | ⟨kvs,e⟩
 ·obtain⟨_,hd,vs,_,dd⟩:=LP I.hok e;refine⟨dd.typeIs,λb q=>?_,hd⟩;cases q;obtain⟨ob,_,_,h1,h2,_⟩:=dd;exact⟨ob,h1,h2.2.1⟩
 ·obtain⟨_,hd,xs,_,dd⟩:=NR I.hok e;refine⟨dd.typeIs,λb q=>?_,hd⟩;cases q;obtain⟨ob,_,_,h1,h2,_⟩:=dd;exact⟨ob,h1,h2.2.1⟩
section
variable {X:Cx}{pins:PL}{σ:St}{H:Hp}{s:Shared}{a:Addr}{y d:V}{u r:Value}{o:OV}{A:Around}{E:EV}
end
section
variable {X:Cx}{o e f:Expr}{apos Ac:Pos}{td ty tx:TE}
end
section
variable {X:Cx}{pins:PL}{σ:St}{H:Hp}{s:Shared}{a:Addr}{kvs:KL}{A:Around}{E:EV}
end
section
variable {X:Cx}{pins:PL}{σ:St}{H:Hp}{s:Shared}{a:Addr}{y:V}{u:Value}{A:Around}{E:EV}
end
end L2
namespace Att
open PySem PySem.W PySem.Calls PyProof.Rows
def qf{P:Params}{h:Heap}:∀(ns:List Int) (vs:LU),WellAll P h vs (ns.map WData.int)->IntsAre vs ns:=by
 intro ns
 induction ns with
 | nil =>
  intro vs w;rw[List.map_nil]at w;cases w;exact .nil
 | cons n ns ih =>
  intro vs w;rw[Yo]at w;cases w with
  | cons a b =>
   cases a;exact .cons _ _ (ih _ b)
def n6{l:OpenLaw}{n:Nat}(hn:l.most=some n){P:Params}{h:Heap}{args:List WData}{vals:LU}
  (hpre:l.row.toRowW.claim.pre args=true) (hwl:WellAll P h vals args):
  ∃ a vs ns,vals=[Value.ref a]/\args=[WData.list (ns.map WData.int)]/\h.get? a=some {cls:=.type "list",data:=.seq vs.toArray}/\IntsAre vs ns/\ns.length<=n:=by
 have hsh:WShape.hasAll [] args [.list .int]=true:=(pre_splitW hpre).1;have hc:l.pre.holds [] {args:=args}=true:=(pre_splitW hpre).2;obtain⟨d,r,rfl,h1,h2⟩:=hasAllW_cons hsh;obtain rfl:=hasAllW_nil h2;obtain⟨xs,rfl,h3⟩:=hasW_list h1;obtain⟨ns,rfl⟩:=items_int h3;have hlen:ns.length<=n:=by
  unfold OpenLaw.pre at hc;have h4:(WTm.not (.lt (.lit (.int (n:Int))) (.len (.arg 0)))).holds [] {args:=[.list (ns.map .int)] }=true:=by
   have h4:=(holds_andW hc).1;rw[hn]at h4;exact h4
  have h5:=condW_of h4 (w_not (w_lt w_lit (w_len_list (w_arg rfl))));rw[Ya]at h5;refine Nat.le_of_not_lt λq=>?_;have q':(n:Int)<((ns.length:Nat):Int):=by omega
  first
   | (rw[Jb q']at h5;exact absurd h5 (by decide))
   | (simp at h5;omega)
 cases hwl with
 | cons w1 w2 =>
  cases w2;cases w1 with
  | list ho hall=>exact⟨_,_,ns,Y,Y,ho,qf ns _ hall,hlen⟩
def nZ(l:OpenLaw)(args:List WData):l.row.toRowW.claim.post args (.bool true) args=true :=
 postW_of (r:=l.row.toRowW) (X:=(true == true))
  (show WShape.has [] (.bool true) .bool=true by first | rfl | decide | simp[WShape.has,WShape.arms,WShape.armsAll])
  (show(WTm.eq .res (.lit (.bool true))).value [] {args:=args,res:=some (.bool true),after:=args}=some (.bool (true == true))from w_eq_bool (w_res rfl) w_lit) rfl
def attach_call{l:OpenLaw}{n:Nat}{q:Program}{loose:LS}{XP:(Str->OU)->Heap->Prop}{YP:World->Heap->Prop}{d:DefRec}
  (hn:l.most=some n) (hdf:d.params.defaults=[])
  (call:∀(w:World) (s₀ s₁:Shared) (mg mb:Str->OU) (fa:Addr) (o:Obj) (pm cd doc:Value) (a:Addr) (vs:LU) (ns:List Int),
   Ground q loose [] XP w s₀ mg mb s₁.heap->YP w s₁.heap ->
   s₁.heap.get? fa=some o->o.data=.func (docDef d.name d.params d.body d.scope pm cd doc)->s₁.heap.CodeRec cd d.name->mg d.name=some (.ref fa) ->
   s₁.heap.get? a=some {cls:=.type "list",data:=.seq vs.toArray}->IntsAre vs ns->ns.length<=n->s₁.gens=#[] ->
   codeAny (model l.prog w) callerA (.call (.ref fa) ⟨[.ref a],[]⟩) (λr s'=>r=.ok (.ret (.bool true))/\OldK s₁.heap s'.heap/\s'.os=s₁.os/\AllBare s'.gens) s₁):
  WalkO q loose XP YP l.row.toRowW d [] (λf vs=>PySem.call f vs):=by
 intro w s₀ s₁ mg mb G Y fa o pm cd doc dV kV ho hd hcd hD hmg hg args vals as hpre hlay hrd hwl hlo;obtain rfl:dV=.none:=Dflts.none hD hdf;obtain rfl:kV=.none:=Dflts.noKw hD;obtain⟨a,vs,ns,rfl,rfl,hobj,hints,hlen⟩:=n6 hn hpre hwl;refine enter_call (codeAny_mono (call w s₀ s₁ mg mb fa o pm cd doc a vs ns G Y ho (fd_plain hd) hcd hmg hobj hints hlen hg) λr s' hq=>?_);obtain⟨rfl,h2,h3,h4⟩:=hq;exact⟨.inl ⟨.bool true,.bool true,[],Y,λ_=>rfl,.bool true,nZ l _,λ_=>⟨List.Pairwise.nil,λ_ hm=>(nomatch hm)⟩⟩,h2,h3,h4⟩
section
variable {prog:Program}{w:World}{A:Around}{E:EV}{s:Shared}{K:Frag}
end
end Att
namespace L2
open PySem PySem.Spec PyProof.Rows
theorem cC:∀ {vs:LU}{ns:List Int},IntsAre vs ns->AQ (ns.map V.int) vs
 | _,_,.nil=>.nil
 | _,_,.cons n t h=>.cons ⟨t,Y⟩ (cC h)
def Fl(s:Stmt)(j:Nat):Stmt:=match s with
 | .ClassDef _ _ _ body _ _ _ _ _ _ _=>body.getD j (.Pass ⟨0,0,0,0⟩)
 | _=>.Pass ⟨0,0,0,0⟩
def FC(s:Stmt):Arguments:=match s with
 | .FunctionDef _ a _ _ _ _ _ _ _ _=>a
 | _=>{posonlyargs:=[],args:=[],vararg:=none,kwonlyargs:=[],kw_defaults:=[],kwarg:=none,defaults:=[] }
def CY(s:Stmt):List Stmt:=match s with
 | .FunctionDef _ _ b _ _ _ _ _ _ _=>b
 | _=>[]
def AK(s:Stmt):Scope:=match s with
 | .FunctionDef _ _ _ _ _ _ sc _ _ _=>sc
 | _=>{kind:=.function,names:=[],isGenerator:=false,isCoroutine:=false}
abbrev JR:Gp:=λ_ _ _ _ _ _=>False
abbrev E0:XK:=λ_ _ _=>False
def A3{X:Cx}:LZ JR X E0:=λ_ _ _ _ _ _ _ h=>h.elim
structure Bg(K:Fg)(x qual:Str)(st:Stmt)(f:Addr)(fd:FuncData):Prop where
 ex:∃(oc:Value) (od:Option Addr) (kV doc pm:Value) (an:Option Addr) (Av ct:Value) (osl:Array (OU)),
  fd=W.fnOf x qual (FC st) (CY st) (AK st) .none kV doc pm an Av ct/\K.lookup f=some ⟨oc,od,.func fd,osl⟩/\W.codeIn K Av qual=true
 kp:W.keepIn K (.ref f)=true
section
variable {P:Program}{w:World}{K:Fg}{mg:Str->OU}{base:Heap}
def Bg.ok{x qual:Str}{st:Stmt}{N ps:LS}{k:Nat}{sp:Sp}(F:Bg K x qual st f fd)(S:Ab N ps (AK st))(len:∀ vs H Q E,sp vs H Q E->vs.length=ps.length)
  (hbody:∀(Av:Value) (A:Around) (outer:List Env) (s:Shared) (H:Hp) (vs:LV) (Q:VK) (E:XK),AU k (A.deeper (envOfC qual (AK st) s.heap.objs.size f Av))->sp vs H Q E ->
   ∃ t,CF (ME JR P w K mg base N qual (AK st) f Av A outer s H E).nox (CY st) t/\t {nx:=λ_ H'=>Q .non H',rt:=Q} (start N vs) H):FG P w K mg base JR (k + 1) f fd ps sp:=by
 obtain⟨oc,od,kV,doc,pm,an,Av,ct,osl,rfl,lk,hcd⟩:=F.ex;refine gN lk hcd S len λA outer s H vs Q E hr hsp=>?_;obtain⟨t,h,q⟩:=hbody Av A outer s H vs Q E hr hsp;exact⟨t,h.nox,q⟩
def Bg.binds{x qual:Str}{st:Stmt}{ps:LS}(F:Bg K x qual st f fd)
  (h:∀(kV doc pm:Value) (an:Option Addr) (Av ct:Value) (us:LU),us.length=ps.length->bindArgs (W.fnOf x qual (FC st) (CY st) (AK st) .none kV doc pm an Av ct) ⟨us,[]⟩=pure (ps.zip us)):C6 K fd ps []:=by
 obtain⟨oc,od,kV,doc,pm,an,Av,ct,osl,rfl,lk,hcd⟩:=F.ex;exact .all (h kV doc pm an Av ct)
def g0{x qual:Str}{st:Stmt}{f:Addr}{oc:Value}{od an:Option Addr}{osl:Array (OU)}{kV doc pm Av ct:Value}(l:K.lookup f=some ⟨oc,od,.func (W.fnOf x qual (FC st) (CY st) (AK st) .none kV doc pm an Av ct),osl⟩)
  (c:W.codeIn K Av qual=true) (k:W.keepIn K (.ref f)=true):Bg K x qual st f (W.fnOf x qual (FC st) (CY st) (AK st) .none kV doc pm an Av ct):=⟨⟨oc,od,kV,doc,pm,an,Av,ct,osl,Y,l,c⟩,k⟩
end
def ER{A:Around}{k:Nat}(hr:AU k A):A.units + 1<cLine:=QR (Nat.add_le_add_left (by decide:1<=64) _) hr.units
section
variable {X:Cx}
def pv(i:Nat){x:Str}{pos:Pos}(hN:X.N[i]?=some x:=by rfl)(hv:QS X.env.scope x:=by first | exact Or.inl rfl | exact Or.inr (Or.inl rfl) | exact Or.inr (Or.inr rfl))(hd:(x == ("__debug__":Str))=false:=by decide)
  (hcd:(x == ("__classdict__":Str))=false:=by decide):PE X (.Name x pos) (Wa i):=tV hN hv hd hcd
end
def Ao{A B:Prop}(h:B):if false=true then A else B:=by
 rw[if_neg Ym];exact h
def By{A B:Prop}(h:A):if true=true then A else B:=by
 rw[if_pos rfl];exact h
def A9{c A B:Prop}[Decidable c](h1:c->A)(h2:¬ c->B):if c then A else B:=by
 by_cases h:c
 ·rw[if_pos h];exact h1 h
 ·rw[if_neg h];exact h2 h
def AA(H H':Hp):Prop:=∀ b o,H b=some o->H' b=some o
def AA.refl(H:Hp):AA H H:=λ_ _ h=>h
def AA.trans{H H1 H2:Hp}(a:AA H H1)(b:AA H1 H2):AA H H2:=λc o h=>b c o (a c o h)
def AA.free{H H':Hp}(e:AA H H'){l:Addr}(h:H' l=Option.none):H l=Option.none:=by
 cases q:H l with
 | none=>rfl
 | some o =>
  rw[e l o q]at h;cases h
def AA.seq{K:Fg}{H H':Hp}{a:Addr}{xs:LV}(e:AA H H')(h:SqL K H a xs):SqL K H' a xs:=by
 rcases h with(h | ⟨o,h⟩) | h
 ·exact .inl (.inl (e _ _ h))
 ·exact .inl (.inr ⟨o,e _ _ h⟩)
 ·exact .inr h
section
variable {X:Cx}
end
section
variable {κ:Type}[DecidableEq κ]
def mP{kvs:List (κ×V)}{k:κ}(h:A2 kvs k=none):¬ k∈kvs.map (·.1):=by
 intro m;obtain⟨p,hp,e⟩:=Yg.mp m;have q:(kvs.any λkv=>decide (kv.1=k))=true:=FK.mpr ⟨p,hp,Jb e⟩;rw[Ls,h]at q;exact absurd q (by simp)
def Zy{kvs:List (κ×V)}{k:κ}{v:V}(h:A2 kvs k=some v):k∈kvs.map (·.1):=by
 have q:(kvs.any λkv=>decide (kv.1=k))=true:=by
  rw[Ls,h]
  all_goals rfl
 obtain⟨p,hp,e⟩:=FK.mp q;exact Yg.mpr ⟨p,hp,Je e⟩
end
end L2
set_option maxHeartbeats 4000000
namespace HT
open PySem PyProof.Rows
open PySem.SeqAt
open PySem.AutoSeq1 (wpAny_loadPart')
open PySem.MeetsSeq PySem.MeetsSeq2 PySem.MeetsSeq3
section
variable {prog:Program}{w:World}{A:Around}{E:EV}{s:Shared}
end
end HT
namespace L2
open PySem PySem.Spec PyProof.Rows
structure F5(J:It)(xs:LV)(Ok:Hp->Prop):Prop where
 go:∀(i:Nat) (x:V) (H:Hp),Ok H->xs[i]?=some x->J.go i H
 yld:∀(i:Nat) (x:V) (H:Hp) (y:V) (H':Hp),Ok H->xs[i]?=some x->J.yld i H y H'->y=x/\H'=H
 stop:∀(H:Hp),Ok H->J.stop xs.length H
def Bk{K:Fg}{a:Addr}{xs:LV}:F5 (T7 K a) xs (λH=>SqL K H a xs) where
 go:=λi x H ok hx=>⟨xs,x,ok,hx⟩
 yld:=λi x H y H' ok hx h=>by
  obtain⟨e,h⟩:=h;have q:=h xs ok;rw[hx]at q;exact⟨(Ba q).symm,e⟩
 stop:=λH ok=>⟨xs,ok,Yf _⟩
def IB{K:Fg}{a:Addr}{xs:LV}:F5 (T4 K a) xs (λH=>AL K H a xs) where
 go:=λi x H ok hx=>⟨xs,x,ok,hx⟩
 yld:=λi x H y H' ok hx h=>by
  obtain⟨e,h⟩:=h;have q:=h xs ok;rw[hx]at q;exact⟨(Ba q).symm,e⟩
 stop:=λH ok=>⟨xs,ok,Yf _⟩
def CW(lo:Int)(n:Nat):LV:=(List.range n).map λ(k:Nat)=>V.int (lo + (k:Int))
def Ca(lo:Int)(n:Nat):(CW lo n).length=n:=by unfold CW;rw[Ya,Df]
def Ds{lo:Int}{n i:Nat}{x:V}(h:(CW lo n)[i]?=some x):i<n/\x=V.int (lo + (i:Int)):=by
 have hi:i<n:=by
  have:=(Ye.mp h).1
  rwa [Ca]at this
 refine⟨hi,?_⟩;unfold CW at h;rw[Yi,JI hi]at h;exact(Ba h).symm
def Es{lo:Int}{n:Nat}:F5 (QX lo n) (CW lo n) (λ_=>True) where
 go:=λi x H _ hx=>(Ds hx).1
 yld:=λi x H y H' _ hx h=>by
  obtain⟨e,h⟩:=h;exact⟨h.trans (Ds hx).2.symm,e⟩
 stop:=λH _=>by
  show n<=(CW lo n).length;rw[Ca];exact Yf _
def B8{J:It}{xs:LV}{Ok:Hp->Prop}(R:F5 J xs Ok){g:TG}{tb:TS}{D:JH}{σ:St}{H:Hp}(Pv:NW)(h0:Pv 0 σ H)(hl:∀ i σ H,i<=xs.length->Pv i σ H->Ok H)
  (hs:∀ i x σ H,xs[i]?=some x->Pv i σ H->g x σ H λσ2 H2=>tb {D with nx:=Pv (i + 1),ct:=Pv (i + 1),bk:=D.nx} σ2 H2) (hd:∀ σ H,Pv xs.length σ H->D.nx σ H):
  ∃ W:Nat->Nat->St->Hp->Prop,(∃ m,W 0 m σ H)/\∀ i m σ H,W i m σ H ->
   (J.stop i H/\D.nx σ H)\/(J.go i H/\∃ N:SW,(∀ σ' H',N σ' H'->∃ m',m'<m/\W (i + 1) m' σ' H')/\∀ x H',J.yld i H x H'->g x σ H' λσ2 H2=>tb {D with nx:=N,ct:=N,bk:=D.nx} σ2 H2):=by
 refine⟨λi m σ H=>m=xs.length - i/\i<=xs.length/\Pv i σ H,⟨xs.length,G,BF _,h0⟩,?_⟩;rintro i m σ H ⟨rfl,hi,p⟩;have q:=hl i σ H hi p;by_cases AZ:i<xs.length
 ·have hx:xs[i]?=some xs[i]:=by simp[AZ]
  refine .inr ⟨R.go i _ H q hx,Pv (i + 1),λσ' H' p'=>⟨xs.length - (i + 1),W,Y,AZ,p'⟩,λx H' y=>?_⟩;obtain⟨e1,e2⟩:=R.yld i _ H x H' q hx y;rw[e2];exact hs i x σ H (by rw[e1];exact hx) p
 ·have e:i=xs.length:=by omega
  subst e;exact .inl ⟨R.stop H q,hd σ H p⟩
def T5(x:Str):It:=⟨λi _=>i<x.cps.size,λi H v H'=>H'=H/\∃ c,x.cps[i]?=some c/\v=.str ⟨#[c]⟩,λi _=>x.cps.size<=i⟩
def Iy(x:Str):LV:=x.cps.toList.map λc=>V.str ⟨#[c]⟩
def mH{x:Str}:F5 (T5 x) (Iy x) (λ_=>True) where
 go:=λi y H _ hx=>by
  have:=(Ye.mp hx).1;unfold Iy at this;rw[Ya]at this;show i<x.cps.size;simpa using this
 yld:=λi y H z H' _ hx h=>by
  obtain⟨e,c,hc,hz⟩:=h;refine⟨?_,e⟩;unfold Iy at hx;rw[Yi,QN,hc]at hx;rw[hz];exact Ba hx
 stop:=λH _=>by
  show x.cps.size<=(Iy x).length;unfold Iy;simp
def ar{P:Program}{w:World}{K:Fg}{tg:Expr}(x:Str)(t:Tok)(it:Addr)(ty:String)(hty:ty="str_ascii_iterator"\/ty="str_iterator"):
  Fb P w K tg (T5 x) [it] it (λi h=>h.IsStrIter it ty x t i) where
 mem:=by simp
 obj:=λi h st b hb=>by
  have e:b=it:=by simpa using hb
  subst e;obtain⟨o,e,c,d⟩:=st;exact⟨o,e,λv z=>by rw[d]at z;cases z⟩
 keep:=λi h h' st k=>by
  obtain⟨o,ho,r⟩:=st;exact⟨o,k it (by simp) o ho,r⟩
 item:=by
  intro X hP hw hK hc i pins s σ H E I hf st hg;subst hP hw hK;obtain⟨f0,f1,f2,f3,f4,f5⟩:=hf it (by simp);have hi:i<x.cps.size:=hg;have hx:x.cps[i]?=some x.cps[i]:=by simp[hi]
  have fin:∀ h':Heap,h'.IsStrIter it ty x t (i + 1)->Heap.SameBut it s.heap h'->∃ u,some (Value.str ⟨#[x.cps[i]]⟩ s.toks)=some u /\
    wpAny (model X.prog X.w) X.A (letOwnedTupleGo tg (.ref it) u) (λ_ s2=>∃ y H',Inv X pins σ H' s2/\AX y u/\(T5 x).yld i H y H'/\s2.heap.IsStrIter it ty x t (i + 1)/\∀ b∈[it],H' b=none) E {s with heap:=h',toks:=s.toks + 1}:=λh' A5 sb=>by
   have I1:Inv X pins σ H {s with heap:=h',toks:=s.toks + 1}:=I.turned (λb o hb e=>(sb.2 b hb).trans e) f0 f1 f3 f4 f5;obtain⟨o,e,c,d⟩:=id A5;refine⟨Z,NO (s:={s with heap:=h',toks:=s.toks + 1}) e c d ?_ ⟨.str ⟨#[x.cps[i]]⟩,H,I1,⟨Z⟩,⟨Y,_,hx,Y⟩,A5,λb hb=>(hf b hb).1⟩⟩
   rcases hty with rfl | rfl <;> decide
  rcases hty with rfl | rfl
  ·exact wpAny_pyNext_ascii_item st hx λh' A5 sb=>fin h' A5 sb
  ·exact wpAny_pyNext_wide_item st hx λh' A5 sb=>fin h' A5 sb
 done:=by
  intro X hP hw hK hc i pins s σ H E I hf st hg;subst hP hw hK;obtain⟨f0,f1,f2,f3,f4,f5⟩:=hf it (by simp);have hi:x.cps.size<=i:=hg;have hx:x.cps[i]?=none:=by simp[hi]
  rcases hty with rfl | rfl
  ·exact wpAny_pyNext_ascii_end (I.ok.hd hc) st hx λh' eb=>⟨Y,I.turned (t':=s.toks) (λb o hb e=>eb b o hb e) f0 f1 f3 f4 f5⟩
  ·exact wpAny_pyNext_wide_end (I.ok.hd hc) st hx λh' eb=>⟨Y,I.turned (t':=s.toks) (λb o hb e=>eb b o hb e) f0 f1 f3 f4 f5⟩
 self:=λ_ _ _ _ _ st h=>by
  rcases hty with rfl | rfl
  ·exact wpAny_pyIter_striter_ascii st h
  ·exact wpAny_pyIter_striter_wide st h
section
variable {X:Cx}{tg:Expr}
def vn(tl:TE):TI:=λσ H R=>tl σ H λx H1=>∃ z,x=.str z/\R (T5 z) H1
def tW{l:Expr}{tl:TE}(hl:PE X l tl):PI X tg l (vn tl):=by
 intro pins s σ H R I h;refine AM (hl pins s σ H _ I h) λv s1 ⟨x,H1,I1,r1,q1⟩=>?_;obtain⟨z,e,q⟩:=q1;subst e;obtain⟨t,rfl⟩:=r1;have fp:∀ b∈[s1.heap.objs.size],Br X pins H1 b:=λb hb=>by
  have e:b=s1.heap.objs.size:=by simpa using hb
  subst e;exact I1.fpOk (Yf _) (I1.hok.fresh (Yf _))
 cases ha:z.cps.all (·<128)with
 | false =>
  refine wpAny_pyIter_wide ha ?_;exact⟨s1.heap.objs.size,[s1.heap.objs.size],_,_,H1,Y,I1.kept (t':=s1.toks) λb o e=>Yd _ e,ar z t _ "str_iterator" (.inr rfl),⟨_,Yk _ rfl,Y,Y⟩,fp,q⟩
 | true =>
  refine wpAny_pyIter_ascii ha ?_;exact⟨s1.heap.objs.size,[s1.heap.objs.size],_,_,H1,Y,I1.kept (t':=s1.toks) λb o e=>Yd _ e,ar z t _ "str_ascii_iterator" (.inl rfl),⟨_,Yk _ rfl,Y,Y⟩,fp,q⟩
end
def CN(env:Env):List (Str×NameKind)->List (Str×Addr)->List (Str×Addr)
 | [],acc=>acc
 | (n,k):: r,acc=>if(k == NameKind.free)=true then CN env r ((n,(env.cells.lookup n).getD 0):: acc)else CN env r acc
def qH{env:Env}{n:Str}{c:Addr}(h:env.cells.lookup n=some c):cellOf env n=pure c:=by
 unfold cellOf;rw[h]
def WG{scope:Scope}{env:Env}(h:∀ y∈scope.names,y.2=.free->∃ c,env.cells.lookup y.1=some c):closureFor scope env=pure (CN env scope.names []):=by
 have key:∀(l:List (Str×NameKind)) (acc:List (Str×Addr)),(∀ y∈l,y.2=.free->∃ c,env.cells.lookup y.1=some c) ->
   (forIn l acc λ(x:Str×NameKind) (r:List (Str×Addr))=>(match x with
    | (name,kind)=>if(kind == NameKind.free)=true then(do let a <- cellOf env name;pure (ForInStep.yield ((name,a):: r)))else pure (ForInStep.yield r):Sem (ForInStep (List (Str×Addr)))))=pure (CN env l acc):=by
  intro l
  induction l with
  | nil=>intro acc _;rfl
  | cons y r ih =>
   intro acc hy;obtain⟨n,k⟩:=y;have YM:=λacc=>ih acc λz hz=>hy z (FH _ hz);rw[MT];by_cases hk:(k == NameKind.free)=true
   ·obtain⟨c,hc⟩:=hy (n,k) Ma (by simpa using hk);have hc:env.cells.lookup n=some c:=hc;simp only[hk,if_true,qH hc];unfold CN;rw[if_pos hk,hc];exact YM _
   ·simp only[hk];unfold CN;rw[if_neg hk];exact YM _
 unfold closureFor;have q:=key scope.names [] h;show((forIn scope.names [] _:Sem (List (Str×Addr)))>>=λr=>pure r)=_
 first
  | (rw[show(forIn scope.names [] _:Sem (List (Str×Addr)))=_ from q];rfl)
  | (refine(congrArg (λm=>m>>=λr=>pure r) q).trans ?_;rfl)
theorem Pk{env:Env}:∀(l:List (Str×NameKind)) (acc:List (Str×Addr)) (x:Str) (c:Addr),(∀ y∈l,y.2=.free->∃ c,env.cells.lookup y.1=some c) ->
  (∀ x c,acc.lookup x=some c->env.cells.lookup x=some c)->(CN env l acc).lookup x=some c->env.cells.lookup x=some c
 | [],acc,x,c,_,ha,h=>ha x c h
 | (n,k):: r,acc,x,c,hy,ha,h=>by
  have hr:∀ y∈r,y.2=.free->∃ c,env.cells.lookup y.1=some c:=λy Hg=>hy y (FH _ Hg);unfold CN at h;by_cases hk:(k == NameKind.free)=true
  ·rw[if_pos hk]at h;refine Pk r _ x c hr (λz d hz=>?_) h;obtain⟨c',BL⟩:=hy (n,k) Ma (by simpa using hk);have BL:env.cells.lookup n=some c':=BL;rw[C9]at hz;by_cases e:(z == n)=true
   ·simp only[e]at hz;have e':z=n:=by simpa using e
    rw[e',BL];rw[BL]at hz;exact hz
   ·have e':(z == n)=false:=by simpa using e
    simp only[e']at hz;exact ha z d hz
  ·rw[if_neg hk]at h;exact Pk r acc x c hr ha h
theorem V3{env:Env}:∀(l:List (Str×NameKind)) (acc:List (Str×Addr)) (x:Str),(acc.lookup x).isSome=true->((CN env l acc).lookup x).isSome=true
 | [],acc,x,h=>h
 | (n,k):: r,acc,x,h=>by
  unfold CN;by_cases hk:(k == NameKind.free)=true
  ·rw[if_pos hk];refine V3 r _ x ?_;rw[C9];cases e:(x == n)with
   | true=>rfl
   | false=>exact h
  ·rw[if_neg hk];exact V3 r acc x h
theorem SR{env:Env}:∀(l:List (Str×NameKind)) (acc:List (Str×Addr)) (x:Str),(x,NameKind.free)∈l->((CN env l acc).lookup x).isSome=true
 | [],acc,x,h=>nomatch h
 | (n,k):: r,acc,x,h=>by
  unfold CN
  rcases Yw.mp h with e | h
  ·injection e with e1 e2;subst e1;subst e2;rw[if_pos (by decide)];refine V3 r _ x ?_;rw[C9];simp
  ·by_cases hk:(k == NameKind.free)=true
   ·rw[if_pos hk];exact SR r _ x h
   ·rw[if_neg hk];exact SR r _ x h
theorem WM{env:Env}:∀ {names:List (Str×NameKind)}{x:Str},names.lookup x=some .free ->
  (names.map λ(n,k)=>if(k == NameKind.free&&env.scope.kind == .function&&env.kindOf n == some .cell)then(n,NameKind.cell)else(n,k)).lookup x=some .cell \/
  (names.map λ(n,k)=>if(k == NameKind.free&&env.scope.kind == .function&&env.kindOf n == some .cell)then(n,NameKind.cell)else(n,k)).lookup x=some .free
 | [],_,h=>by simp at h
 | (n,k):: r,x,h=>by
  have ih:=@WM env r x;rw[Yo];show List.lookup x ((if(k == NameKind.free&&env.scope.kind == .function&&env.kindOf n == some .cell)=true then(n,NameKind.cell)else(n,k)):: _)=_\/List.lookup x ((if(k == NameKind.free&&env.scope.kind == .function&&env.kindOf n == some .cell)=true then(n,NameKind.cell)else(n,k)):: _)=_;cases hx:x == n with
  | true =>
   simp only[C9,hx]at h;cases h;by_cases hc:(NameKind.free == NameKind.free&&env.scope.kind == .function&&env.kindOf n == some .cell)=true
   ·rw[if_pos hc];simp only[C9,hx];exact .inl trivial
   ·rw[if_neg hc];simp only[C9,hx];exact .inr trivial
  | false =>
   simp only[C9,hx]at h;by_cases hc:(k == NameKind.free&&env.scope.kind == .function&&env.kindOf n == some .cell)=true
   ·rw[if_pos hc];simp only[C9,hx];exact ih h
   ·rw[if_neg hc];simp only[C9,hx];exact ih h
theorem WL{env:Env}:∀ {names:List (Str×NameKind)}{x:Str},
  ((names.map λ(n,k)=>if(k == NameKind.free&&env.scope.kind == .function&&env.kindOf n == some .cell)then(n,NameKind.cell)else(n,k)).lookup x=some .cell \/
  (names.map λ(n,k)=>if(k == NameKind.free&&env.scope.kind == .function&&env.kindOf n == some .cell)then(n,NameKind.cell)else(n,k)).lookup x=some .free) ->
  names.lookup x=some .free\/names.lookup x=some .cell
 | [],_,h=>by simp at h
 | (n,k):: r,x,h=>by
  have ih:=@WL env r x;rw[Yo]at h
  change List.lookup x ((if(k == NameKind.free&&env.scope.kind == .function&&env.kindOf n == some .cell)=true then(n,NameKind.cell)else(n,k)):: _)=_\/List.lookup x ((if(k == NameKind.free&&env.scope.kind == .function&&env.kindOf n == some .cell)=true then(n,NameKind.cell)else(n,k)):: _)=_ at h
  cases hx:x == n with
  | true =>
   simp only[C9,hx];by_cases hc:(k == NameKind.free&&env.scope.kind == .function&&env.kindOf n == some .cell)=true
   ·left;have:(k == NameKind.free)=true:=by
     cases hk:(k == NameKind.free)with
     | true=>rfl
     | false=>rw[hk]at hc;simp at hc
    have:k=NameKind.free:=by simpa using this
    rw[this]
   ·rw[if_neg hc]at h;simp only[C9,hx]at h
    rcases h with h | h
    ·exact .inr h
    ·exact .inl h
  | false =>
   simp only[C9,hx];apply ih;by_cases hc:(k == NameKind.free&&env.scope.kind == .function&&env.kindOf n == some .cell)=true
   ·rw[if_pos hc]at h;simp only[C9,hx]at h;exact h
   ·rw[if_neg hc]at h;simp only[C9,hx]at h;exact h
abbrev DV(X:Cx)(scope:Scope)(N:LS)(C:Addr)(s:Shared)(H:Hp)(fp:List Addr):Cx :=
 {X with N:=N,s₀:=s,H₀:=H,env:=compEnvC scope (CN X.env scope.names []) C X.env,outer:=X.stack,ex:=fp,fn:=λ_=>false,pn:=[],xe:=λ_ _=>False}
def Hd(n:Nat)(js:LN)(σ:St):St:=List.replicate n none++js.map λj=>(σ[j]?).join
def Zq(n:Nat)(js:LN)(σ:St):(Hd n js σ).length=n + js.length:=by unfold Hd;simp
structure F_(X:Cx)(scope:Scope)(own frees:LS)(js:LN):Prop where
 calm:X.calm=true
 kind:scope.kind=.function
 nocell:∀ y∈scope.names,y.2≠.cell
 locals:∀ y∈scope.names,y.2=.local->scope.names.lookup y.1=some .local
 fr:∀ y∈scope.names,y.2=.free->X.env.scope.names.lookup y.1=some .cell\/X.env.scope.names.lookup y.1=some .free
 fre:∀ x∈frees,scope.names.lookup x=some .free
 slots:js.map (λj=>X.N[j]?)=frees.map some
def Mc(X:Cx)(ifs:List Expr)(t:TT):Prop :=
 ∀(pins:PL) (s:Shared) (σ:St) (H:Hp) (Q:Bool->Hp->Prop),Inv X pins σ H s->t σ H Q ->
  wpAny (model X.prog X.w) X.A (forIn ifs true λc r=>if r=true then do let ok <- isTrue c X.env (eval c X.env);pure (ForInStep.yield ok)else pure (ForInStep.yield r)) (TP X pins σ Q) X.xe s
def Wo:TT:=λ_ H Q=>Q true H
def B6{X:Cx}:Mc X [] Wo:=λ_ _ _ H _ I h=>wpAny_tests_nil ⟨H,I,h⟩
def EX{X:Cx}{c:Expr}{t:TT}(h:PT X c t):Mc X [c] t:=λpins s σ H Q I q=>wpAny_tests_one (h pins s σ H Q I q)
def Aa(n:Nat)(js:LN)(g:TG)(tt:TT)(te:TE)(σ:St)(Q:VK)(J:It)(H1:Hp):Prop:=∀ D,H1 D=none ->
 ∃ W:Nat->Nat->LV->St->Hp->Prop,(∃ m,W 0 m [] (Hd n js σ) (upd H1 D (.lst [])))/\∀ i m ys σ' H',W i m ys σ' H' ->
  (J.stop i H'/\Q (.ref D) H') \/
  (J.go i H'/\ys.length<sizeLine/\∃ N:LV->St->Hp->Prop,(∀ K0 σ3 H3,N K0 σ3 H3->∃ m',m'<m/\W (i + 1) m' K0 σ3 H3)/\∀ x H2,J.yld i H' x H2->g x σ' H2 λσ3 H3=>tt σ3 H3 λb H4 =>
   if b=true then te σ3 H4 λv H5=>H5 D=some (.lst ys)/\N (ys++[v]) σ3 (upd H5 D (.lst (ys++[v])))
   else N ys σ3 H4)
section
variable {prog:Program}{w:World}{A:Around}{E:EV}{R:Result->Shared->Prop}{s:Shared}
def dQ{elt target iter:Expr}{ifs:List Expr}{scope:Scope}{pos:Pos}{it acc:Value}{env:Env}(I:Nat->Shared->Prop)
  (turn:∀ n s,I n s->∀ E:EV,wpAny (model prog w) A (pyNext it) (λr s₁=>match r with
   | none=>R (.ok .next) s₁
   | some v=>wpAny (model prog w) A (letOwnedTupleGo target it v) (λ_ Xp=>wpAny (model prog w) A (assign target env v) (λ_ s₂ =>
     wpAny (model prog w) A (forIn ifs true λc r=>if r=true then do let ok <- isTrue c env (eval c env);pure (ForInStep.yield ok)else pure (ForInStep.yield r)) (λok s₃ =>
      if ok=true then wpAny (model prog w) A (eval elt env) (λx s₄ =>
       wpAny (model prog w) A (call (.builtin "list.append") [acc,x]) (λ_ s₅=>∃ m,m<n/\I m s₅) E s₄) E s₃
      else ∃ m,m<n/\I m s₃) E s₂) E Xp) E s₁) E s)
  (n:Nat) (h:I n s):
  codeAny (model prog w) A (.compLoop (.ListComp elt [⟨target,iter,ifs,0⟩] scope pos) 0 it acc env) R s:=by
 refine codeAny_loop rfl I (λn s hI=>?_) n h;show wpAny _ A ((compTurn (.ListComp elt [⟨target,iter,ifs,0⟩] scope pos) 0 it acc env).onRaise (λx=>do noteFrame x env;theTreesLotGoes x)) _ _ s;refine wpAny_noted ?_;rw[compTurn_list];refine Ja (wpAny_standAt (Ja (Jf (turn n s hI _) (λr s₁ h₁=>?_) λ_ _ h'=>h')));cases r with
 | none=>exact Jd h₁
 | some v =>
  refine Ja (Jf h₁ (λ_ Xp jk=>?_) λ_ _ h'=>h');refine Ja (Jf jk (λ_ s₂ h₂=>Ja (Jf h₂ (λok s₃ h₃=>?_) λ_ _ h'=>h')) λ_ _ h'=>h');cases ok with
  | false=>exact Jd ⟨Y,h₃⟩
  | true =>
   exact Ja (Ja (Jf h₃ (λx s₄ h₄=>Ja (Jf h₄ (λ_ s₅ h₅=>Jd (Jd ⟨Y,h₅⟩)) λ_ _ h'=>h')) λ_ _ h'=>h'))
end
section
variable {X:Cx}{pins:PL}{σ:St}{scope:Scope}{own frees:LS}{js:LN}
theorem F_.cells(c:F_ X scope own frees js)(ok:X.Ok):∀ y∈scope.names,y.2=.free->∃ a,X.env.cells.lookup y.1=some a:=λy hy e=>by
 rcases c.fr y hy e with h | h
 ·exact ok.has y.1 (.inl h)
 ·exact ok.has y.1 (.inr h)
def F_.cl(c:F_ X scope own frees js)(ok:X.Ok){x:Str}{a:Addr}(h:(CN X.env scope.names []).lookup x=some a):X.env.cells.lookup x=some a :=
 Pk scope.names [] x a (c.cells ok) (λ_ _ z=>by simp at z) h
def F_.has(c:F_ X scope own frees js){x:Str}(h:scope.names.lookup x=some .free):∃ a,(CN X.env scope.names []).lookup x=some a :=
 OI.mp (SR scope.names [] x (Dv h))
theorem F_.ok{s2:Shared}{H2:Hp}{fp:List Addr}{C:Addr}(c:F_ X scope own frees js)(I:Inv X pins σ H2 s2)(f2:∀ b∈fp,Br X pins H2 b)(AZ:∀ b∈fp,b<s2.heap.objs.size)(hC:s2.heap.objs.size<=C)(N:LS):
  (DV X scope N C s2 H2 fp).Ok where
 mod:=I.ok.mod
 kind:=c.kind
 glob:=I.ok.glob
 blt:=I.ok.blt
 above:=hC
 inj:=λx y a h1 h2=>I.ok.inj x y a (c.cl I.ok h1) (c.cl I.ok h2)
 has:=λx h=>by
  have h':scope.names.lookup x=some .free\/scope.names.lookup x=some .cell:=WL (env:=X.env) h
  rcases h' with h' | h'
  ·exact c.has h'
  ·exact absurd rfl (c.nocell _ (Dv h'))
 cab:=λx a h=>absurd (show false=true from h) Ym
 hd:=λh=>I.ok.hd h
 frames:=I.ok.frames
 stk:=.inl rfl
 exf:=λb hb=>⟨A8 (Yp (AZ b hb) hC),λx a h=>(f2 b hb).2.2.2.2.1 x a (c.cl I.ok h)⟩
 bs:=I.bs
 bsz:=A7 I.ok.bsz I.sz
 noex:=λb o e hb=>by
  rcases(f2 b hb).2.2.2.1 with z | z
  ·exact I.ok.noex b o e z
  ·exact absurd (Yp (Yl e) (A7 I.ok.bsz z)) (IF _)
 exfs:=λb hb z=>by
  rcases Yw.mp (I.stkSub b z)with e | e
  ·exact(f2 b hb).2.1 e
  ·exact(f2 b hb).2.2.1 e
 funs:=I.stack
 frf:=I.stkFree
def cZ{s2:Shared}{tg iter elt:Expr}{ifs:List Expr}{pos:Pos}{g:TG}{tt:TT}{te:TE}{Q:VK}{RR:Value->Addr->Result->Shared->Prop}{itv:Value}{E:EV}
  (c:F_ X scope own frees js)
  (hg:∀ C s H fp,PG (DV X scope (own++frees) C s H fp) tg g) (ht:∀ C s H fp,Mc (DV X scope (own++frees) C s H fp) ifs tt) (he:∀ C s H fp,PE (DV X scope (own++frees) C s H fp) elt te)
  (h:Tw X pins σ tg (Aa own.length js g tt te σ Q) itv s2)
  (hR:∀ D C H' s',Inv X pins σ H' s'->Br X pins H' C->(∃ m,s'.heap.Ns C m)->Q (.ref D) H'->RR (.ref D) C (.ok .next) s'):
  wpAny (model X.prog X.w) X.A (newList []) (λacc s₃=>wpAny (model X.prog X.w) X.A (newFunctionEnv scope X.env.globals (CN X.env scope.names []) [] X.env.qual none .none (some X.env)) (λcenv s₄ =>
   codeAny (model X.prog X.w) X.A (.compStart (.ListComp elt [⟨tg,iter,ifs,0⟩] scope pos) 0 itv acc {cenv with scope:=relabel scope X.env}) (RR acc cenv.locals) s₄) E s₃) E s2:=by
 obtain⟨it,fp,tn,J,H2,e,I2,T,EH,f2,hq⟩:=h;subst e;refine wpAny_newObj_type (wpAny_newFunctionEnv c.nocell (by intro y hy;simp at hy) (λh₁ hns₁ hsb₁=>?_) c.kind);dsimp only at hns₁ hsb₁ ⊢;generalize LJ:s2.heap.push {cls:=.type "list",dict:=none,data:=.seq ([]:LU).toArray}=G2 at hns₁ hsb₁ ⊢;have hC:G2.objs.size=s2.heap.objs.size + 1:=by rw[<- LJ,Ec]
 have hDC:s2.heap.objs.size≠G2.objs.size:=by rw[hC];exact A8 (Nat.lt_succ_self _)
 have hCle:s2.heap.objs.size<=G2.objs.size:=by rw[hC];exact IK _
 have old:∀ b o,s2.heap.get? b=some o->h₁.get? b=some o:=λb o e=>by
  have hb:=Yl e;exact hsb₁.extBut b o (by rw[hC];exact A8 (Nat.lt_succ_of_lt hb)) (Yd _ (LJ ▸ Yd _ e))
 have hD:H2 s2.heap.objs.size=none:=I2.hok.fresh (Yf _);have AZ:∀ b∈fp,b<s2.heap.objs.size:=λb hb=>by
  obtain⟨o,e,_⟩:=T.obj _ _ EH b hb;exact Yl e
 have Ey:h₁.get? s2.heap.objs.size=some {cls:=.type "list",data:=.seq ([]:LU).toArray}:=hsb₁.extBut _ _ hDC (Yd _ (LJ ▸ Yk _ rfl));obtain⟨W,⟨m0,w0⟩,turn⟩:=hq _ hD;have I0:∀ tk,Inv (DV X scope (own++frees) G2.objs.size s2 H2 fp) [] (Hd own.length js σ) (upd H2 s2.heap.objs.size (.lst [])) {s2 with heap:=h₁,toks:=tk}:=λtk=>by
  refine⟨c.ok I2 f2 AZ hCle _,Y,I2.bare,Un.laid old (Yf _) hD,⟨_,hns₁,λi x v h1 h2 h3=>?_⟩,λx a h=>?_,?_,λx a h=>?_,λp hp=>absurd (show p∈([]:PL)from hp) (by simp),I2.hok.laid old (Yf _) ⟨BF _,[],0,.nil,Ey⟩,?_⟩
  ·have hi:own.length<=i:=by
    by_cases hi:i<own.length
    ·unfold Hd at h2;rw[MN (by simpa using hi),Wr]at h2;rw[if_pos hi]at h2;cases h2
    ·omega
   have hx:frees[i - own.length]?=some x:=by
    have Ei:(own++frees)[i]?=some x:=h1
    rwa [JP hi]at Ei
   have LK:(js.map λj=>(σ[j]?).join)[i - own.length]?=some (some v):=by
    unfold Hd at h2;rw[JP (by simpa using hi)]at h2;simpa using h2
   rw[Yi]at LK;obtain⟨j,hj,hjv⟩:=IJ.mp LK;have hs:=congrArg (λl=>l[i - own.length]?) c.slots;rw[Yi,Yi,hj,hx]at hs;have hNj:X.N[j]?=some x:=Ba hs;have hσ:σ[j]?=some (some v):=by
    cases q:σ[j]? with
    | none=>rw[q]at hjv;cases hjv
    | some o =>
     rw[q]at hjv;have:o=some v:=hjv;rw[this]
   have As:=c.fre x (Yc hx);have hXk:=c.fr (x,.free) (Dv As) rfl;obtain⟨m,hn,hl⟩:=I2.loc;have vis:QS X.env.scope x:=by rcases hXk with k | k;exact .inr (.inl k);exact .inr (.inr k)
   obtain⟨u,r,l⟩:=hl j x v hNj hσ vis;refine⟨u,r,.inr ⟨WM (env:=X.env) As,?_⟩⟩
   rcases l with⟨hk,_⟩ | ⟨_,a,ha,hcell⟩
   ·rcases hXk with k | k
    ·have hk:X.env.scope.names.lookup x=some .local:=hk;rw[show X.env.scope.names.lookup x=some .cell from k]at hk;cases hk
    ·have hk:X.env.scope.names.lookup x=some .local:=hk;rw[show X.env.scope.names.lookup x=some .free from k]at hk;cases hk
   ·obtain⟨a',Ro⟩:=c.has As;have e:=c.cl I2.ok Ro;rw[ha]at e;cases e;obtain⟨o,ho,hd⟩:=hcell;exact⟨a,Ro,o,old a o ho,hd⟩
  ·obtain⟨v,o,ho,hd⟩:=I2.cell x a (c.cl I2.ok h);exact⟨v,o,old a o ho,hd⟩
  ·show upd H2 s2.heap.objs.size (.lst []) G2.objs.size=none;rw[AD (Yr hDC)];exact I2.hok.fresh hCle
  ·obtain⟨v,o,ho,hd⟩:=I2.cell x a (c.cl I2.ok h);rw[AD (A8 (Yl ho))];exact I2.freeC x a (c.cl I2.ok h)
  ·rw[Zq,Yt];have:=congrArg List.length c.slots;rw[Ya,Ya]at this;omega
 have stat:∀ {H':Hp},(∀ b∈fp,H' b=none)->∀ b∈fp,Br (DV X scope (own++frees) G2.objs.size s2 H2 fp) [] H' b:=λ{H'} hn b hb=>by
  obtain⟨f0,f1,f3,f4,f5,f6⟩:=f2 b hb;refine⟨hn b hb,A8 (Yp (AZ b hb) hCle),λz=>?_,.inl hb,λx a h=>f5 x a (c.cl I2.ok h),λp hp=>absurd (show p∈([]:PL)from hp) (by simp)⟩
  rcases Yw.mp (I2.stkSub b z)with e | e
  ·exact f1 e
  ·exact f3 e
 have loop:∀ s₃:Shared,s₃={s2 with heap:=h₁,toks:=s2.toks + ([]:List (Str×Value)).length} ->
   codeAny (model X.prog X.w) X.A (.compLoop (.ListComp elt [⟨tg,iter,ifs,0⟩] scope pos) 0 (.ref it) (.ref s2.heap.objs.size) (compEnvC scope (CN X.env scope.names []) G2.objs.size X.env))
    (RR (.ref s2.heap.objs.size) G2.objs.size) s₃:=by
  rintro s₃ rfl;refine dQ (λn s'=>∃ i ys σ' H',Inv (DV X scope (own++frees) G2.objs.size s2 H2 fp) [] σ' H' s'/\tn i s'.heap/\(∀ b∈fp,H' b=none)/\W i n ys σ' H') ?_ m0
   ⟨0,[],_,_,I0 _,T.keep _ _ _ EH λb _ o e=>old b o e,λb hb=>by rw[AD (A8 (AZ b hb))];exact(f2 b hb).1,w0⟩
  rintro n s3 ⟨i,ys,σ3,H3,I3,JY,Jw,w3⟩ E'
  rcases turn i n ys σ3 H3 w3 with⟨stop,qn⟩ | ⟨go,hz,N,hN,step⟩
  ·refine AM (T.done (DV X scope (own++frees) G2.objs.size s2 H2 fp) rfl rfl rfl c.calm i [] s3 σ3 H3 E' I3 (stat Jw) JY stop) λr s4 ⟨hr,I4⟩=>?_;subst hr;have back:Inv X pins σ H3 s4:=I2.call' (ch:=fp) I4.os I4.base I4.hok I4.bare λb hb=>⟨(f2 b hb).2.2.2.1,(f2 b hb).2.1,(f2 b hb).2.2.2.2.1,(f2 b hb).2.2.2.2.2⟩;exact hR _ _ H3 s4 back (I2.fpOk hCle I4.free) ⟨_,I4.loc.choose_spec.1⟩ qn
  ·refine AM (T.item (DV X scope (own++frees) G2.objs.size s2 H2 fp) rfl rfl rfl c.calm i [] s3 σ3 H3 E' I3 (stat Jw) JY go) λr s4 ⟨u,hr,h4⟩=>?_;subst hr;refine AM h4 λ_ s5 ⟨x,H5,I5,r5,y5,Gq,Ov⟩=>?_;have QY:=I5.pinned (stat Ov) (T.obj _ _ Gq);have nof:∀(e:Value) (s':Shared),(DV X scope (own++frees) G2.objs.size s2 H2 fp).xe e s'->E' e s':=λ_ _ z=>False.elim z;refine Jf (hg _ _ _ _ _ s5 σ3 H5 x u _ QY r5 (step x H5 y5)) (λ_ s6 ⟨σ6,H6,I6,q6⟩=>?_) nof;refine Jf (ht _ _ _ _ _ s6 σ6 H6 _ I6 q6) (λb s7 ⟨H7,I7,q7⟩=>?_) nof;have again:∀ {σ7:St} {H7:Hp} {s7:Shared} {Hc:LV},Inv (DV X scope (own++frees) G2.objs.size s2 H2 fp) ([]++Nc fp s5.heap) σ7 H7 s7->N Hc σ7 H7 ->
     ∃ m,m<n/\∃ i ys σ' H',Inv (DV X scope (own++frees) G2.objs.size s2 H2 fp) [] σ' H' s7/\tn i s7.heap/\(∀ b∈fp,H' b=none)/\W i m ys σ' H':=λ{σ7 H7 s7 Hc} I7 n7=>by
    obtain⟨m',hm,w7⟩:=hN _ _ _ n7;refine⟨m',hm,i + 1,Hc,σ7,H7,I7.unpinned,T.keep _ _ _ Gq λb hb o e=>(I7.pin (b,o) (Yy _ (Yy _ (Nz hb e)))).1,λb hb=>?_,w7⟩;obtain⟨o,e,d⟩:=T.obj _ _ Gq b hb;exact(I7.pin (b,o) (Yy _ (Yy _ (Nz hb e)))).2.1
   cases b with
   | false =>
    rw[if_neg Ym]at q7 ⊢;exact again I7 q7
   | true =>
    rw[if_pos rfl]at q7 ⊢;refine Jf (he _ _ _ _ _ s7 σ6 H7 _ I7 q7) (λv s8 ⟨y,H8,I8,r8,G0,w8⟩=>?_) nof;refine Jf (GZ (X:=DV X scope (own++frees) G2.objs.size s2 H2 fp) _ s8 σ6 H8 (.ref s2.heap.objs.size) [y] (.ref s2.heap.objs.size) [v] (λ_ H9=>H9=upd H8 s2.heap.objs.size (.lst (ys++[y]))) I8 rfl (.cons r8 .nil) ⟨_,ys,y,Y,Y,G0,hz,Y⟩) (λz s9 ⟨_,H9,I9,_,e9⟩=>?_) nof;subst e9;exact again I9 w8
 exact codeAny_compStart_list (loop _ rfl) (T.self X.A 0 _ _ _ (T.keep _ _ _ EH λb _ o e=>old b o e) (loop _ rfl))
end
section
variable {X:Cx}{scope:Scope}{own frees:LS}{js:LN}{tg iter elt:Expr}{ifs:List Expr}{wi:TI}{g:TG}{tt:TT}{te:TE}{pos:Pos}
def rE(n:Nat)(js:LN)(wi:TI)(g:TG)(tt:TT)(te:TE):TE:=λσ H Q=>wi σ H (Aa n js g tt te σ Q)
def BC(own frees:LS)(js:LN)(hc:X.Ok->F_ X scope own frees js)(hi:PI X tg iter wi)
  (hg:∀ C s H fp,PG (DV X scope (own++frees) C s H fp) tg g) (ht:∀ C s H fp,Mc (DV X scope (own++frees) C s H fp) ifs tt) (he:∀ C s H fp,PE (DV X scope (own++frees) C s H fp) elt te)
  (hs:∀ x,foldedSetIterable iter X.env x=pure x:=by intro _;rfl):
  PE X (.ListComp elt [⟨tg,iter,ifs,0⟩] scope pos) (rE own.length js wi g tt te):=by
 ac_rfl;have c:=hc I.ok;rw[eval_ListComp];refine wpAny_comprehension_free (use:=none) rfl hs (WG (c.cells I.ok)) c.kind c.locals (AM (hi pins s σ H _ I h) λxv s₁ h₁=>AM h₁ λit s₂ h₂=>?_);refine cZ (RR:=λacc C=>compPost (model X.prog X.w) X.A X.xe none (EP X pins σ Q) acc C) c hg ht he h₂ λD C H' s' J F n q=>?_;obtain⟨m,hn⟩:=n;obtain⟨f0,f1,f2,f3,f4,f5⟩:=F;exact⟨m,hn,λh' Jr=>⟨.ref D,H',J.turned (t':=s'.toks) (λb o hb e=>Jr.extBut b o hb e) f0 f1 f3 f4 f5,Y,q⟩⟩
def aq(k n:Nat)(js:LN)(wi:TI)(g:TG)(tt:TT)(te:TE):TS:=λD σ H=>wi σ H (Aa n js g tt te σ λv H1=>D.nx (σ.set k (some v)) H1)
def Sw{k:Nat}{y:Str}{py spos:Pos}(own frees:LS)(js:LN)(hN:X.N.Nodup)(hk:X.N[k]?=some y)(hy:X.env.scope.names.lookup y=some .local)(hc:X.Ok->F_ X scope own frees js)(hi:PI X tg iter wi)
  (hg:∀ C s H fp,PG (DV X scope (own++frees) C s H fp) tg g) (ht:∀ C s H fp,Mc (DV X scope (own++frees) C s H fp) ifs tt) (he:∀ C s H fp,PE (DV X scope (own++frees) C s H fp) elt te)
  (hsw:swapsWith (.ListComp elt [⟨tg,iter,ifs,0⟩] scope pos) (some (.Name y py)) spos.line X.env=pure true:=by rfl)
  (hs:∀ x,foldedSetIterable iter X.env x=pure x:=by intro _;rfl):
  PS X (.Assign [.Name y py] (.ListComp elt [⟨tg,iter,ifs,0⟩] scope pos) spos) (aq k own.length js wi g tt te):=by
 intro pins s σ H D I h;have c:=hc I.ok;rw[exec_Assign_Name_used _ _ _ _ hsw];refine Ja (wpAny_standAt (Ja ?_));show wpAny _ X.A (do let _ <- comprehension (.ListComp elt [⟨tg,iter,ifs,0⟩] scope pos) scope X.env _ (newList []) false (eval iter X.env) (some (assign (.Name y py) X.env))) _ _ s;refine Ja (Jf (wpAny_comprehension_free (use:=some (assign (.Name y py) X.env)) (Q:=λ_ s'=>SP X pins D .next s') rfl hs (WG (c.cells I.ok)) c.kind c.locals
  (AM (hi pins s σ H _ I h) λxv s₁ h₁=>AM h₁ λit s₂ h₂=>?_)) (λ_ s' hq=>Jd (Jd hq)) λ_ _ e=>e)
 refine cZ (RR:=λacc C=>compPost (model X.prog X.w) X.A X.xe (some (assign (.Name y py) X.env)) (λ_ s'=>SP X pins D .next s') acc C) c hg ht he h₂ λA' C H' s' J F n q=>?_;obtain⟨m,hn⟩:=n;obtain⟨f0,f1,f2,f3,f4,f5⟩:=F;show wpAny _ X.A (assign (.Name y py) X.env (.ref A')) _ _ _;refine wpAny_assign_Name (Vy J hN hk (.inl hy) (v:=.ref A') rfl (λBR J' ⟨a,sb,ha⟩=>?_) (.inr hy));have BB:a≠C:=by
  rcases ha with e | e
  ·rw[e];exact Yr f1
  ·exact f4 y a e
 refine⟨m,hn.sameBut sb (Yr BB),λh' Jr=>⟨_,H',J'.turned (t':=BR.toks) (λb o hb e=>Jr.extBut b o hb e) f0 f1 f3 f4 f5,q⟩⟩
end
def Nt{J:It}{xs:LV}{Ok:Hp->Prop}(R:F5 J xs Ok){n:Nat}{js:LN}{g:TG}{tt:TT}{te:TE}{σ:St}{Q:VK}{H1:Hp}(hz:xs.length<=sizeLine)
  (Pv:Addr->Nat->LV->St->Hp->Prop) (h0:∀ D,H1 D=none->Pv D 0 [] (Hd n js σ) (upd H1 D (.lst [])))
  (hok:∀ D i ys σ' H,i<=xs.length->Pv D i ys σ' H->Ok H/\ys.length<=i)
  (hs:∀ D i x ys σ' H,H1 D=none->xs[i]?=some x->Pv D i ys σ' H->g x σ' H λσ3 H3=>tt σ3 H3 λb H4 =>
   if b=true then te σ3 H4 λv H5=>H5 D=some (.lst ys)/\Pv D (i + 1) (ys++[v]) σ3 (upd H5 D (.lst (ys++[v])))else Pv D (i + 1) ys σ3 H4)
  (hd:∀ D ys σ' H,H1 D=none->Pv D xs.length ys σ' H->Q (.ref D) H):
  Aa n js g tt te σ Q J H1:=by
 intro D hD;refine⟨λi m ys σ' H=>m=xs.length - i/\i<=xs.length/\Pv D i ys σ' H,⟨xs.length,G,BF _,h0 D hD⟩,?_⟩;rintro i m ys σ' H ⟨rfl,hi,p⟩;obtain⟨q,hy⟩:=hok D i ys σ' H hi p;by_cases AZ:i<xs.length
 ·have hx:xs[i]?=some xs[i]:=by simp[AZ]
  refine .inr ⟨R.go i _ H q hx,W,Pv D (i + 1),λK0 σ3 H3 p3=>⟨xs.length - (i + 1),W,Y,AZ,p3⟩,λx H' y=>?_⟩;obtain⟨e1,e2⟩:=R.yld i _ H x H' q hx y;rw[e2];exact hs D i x ys σ' H hD (by rw[e1];exact hx) p
 ·have e:i=xs.length:=by omega
  subst e;exact .inl ⟨R.stop H q,hd D ys σ' H hD p⟩
def IC{J:It}{xs:LV}{Ok:Hp->Prop}(R:F5 J xs Ok){js:LN}{tt:TT}{te:TE}{σ:St}{Q:VK}{H1:Hp}(hz:xs.length<=sizeLine)(p:V->Bool)(f:V->V)
  (hok:∀ D ys,H1 D=none->Ok (upd H1 D (.lst ys)))
  (ht:∀ D ys x (R:Bool->Hp->Prop),H1 D=none->x∈xs->R (p x) (upd H1 D (.lst ys))->tt (some x :: js.map λj=>(σ[j]?).join) (upd H1 D (.lst ys)) R)
  (he:∀ D ys x (R:V->Hp->Prop),H1 D=none->x∈xs->p x=true->R (f x) (upd H1 D (.lst ys))->te (some x :: js.map λj=>(σ[j]?).join) (upd H1 D (.lst ys)) R)
  (hd:∀ D,H1 D=none->Q (.ref D) (upd H1 D (.lst ((xs.filter p).map f)))):
  Aa 1 js (Dp 0) tt te σ Q J H1:=by
 refine Nt R hz (λD i ys σ' H=>H1 D=none/\ys=((xs.take i).filter p).map f/\(∃ o,σ'=o :: js.map λj=>(σ[j]?).join)/\H=upd H1 D (.lst ys)) ?_ ?_ ?_ ?_
 ·intro D hD;exact⟨hD,G,⟨none,Y⟩,Y⟩
 ·rintro D i ys σ' H hi ⟨hD,e,_,rfl⟩;refine⟨hok D ys hD,?_⟩;rw[e,Ya];exact A7 (EE _ _) (by rw[Yx];omega)
 ·rintro D i x ys σ' H hD hx ⟨_,e,⟨o,rfl⟩,rfl⟩;show tt (some x :: js.map λj=>(σ[j]?).join) (upd H1 D (.lst ys)) _;have hm:x∈xs:=Yc hx;refine ht D ys x _ hD hm ?_;cases hp:p x with
  | true =>
   rw[if_pos rfl];refine he D ys x _ hD hm hp ⟨uS,hD,?_,⟨Z⟩,Nh⟩;rw[take_succ_filter p xs i x hx,hp,CD,e];rfl
  | false =>
   rw[if_neg Ym];refine⟨hD,?_,⟨Z⟩,Y⟩;rw[take_succ_filter p xs i x hx,hp,CD,e];simp
 ·rintro D ys σ' H hD ⟨_,e,_,rfl⟩;rw[De]at e;rw[e];exact hd D hD
section
variable {X:Cx}
def bC{bs:List Bool}{its:LU}(r:AQ (bs.map V.bl) its):∀(i:Nat) (v:Value),its[i]?=some v->v=Value.bool (bs.getD i false):=λi v h=>by
 have hl:=r.length;rw[Ya]at hl;have hi:i<its.length:=(Ye.mp h).1;have hb:(bs.map V.bl)[i]?=some (V.bl (bs.getD i false)):=by
  rw[Yi,Yh];have:i<bs.length:=by omega
  simp[this]
 obtain⟨u,hu,ru⟩:=r.get hb;rw[h]at hu;cases hu;exact ru
def ng{bs:List Bool}:(List.range bs.length).all (λi=>bs.getD i false)=bs.all id:=by
 rw[HP];simp only[Cr,Bp,id];constructor
 ·intro h b hb;obtain⟨i,hi,e⟩:=Kk.mp hb;have:=h i hi;rw[Yh]at this;simpa[hi,e]using this
 ·intro h i hi;rw[Yh];simp only[Yb hi,Option.getD_some];exact h _ (KU hi)
def nh{bs:List Bool}:(List.range bs.length).any (λi=>bs.getD i false)=bs.any id:=by
 rw[HP];simp only[FK,Bp,id];constructor
 ·rintro⟨i,hi,e⟩;rw[Yh]at e;simp only[Yb hi,Option.getD_some]at e;exact⟨_,KU hi,e⟩
 ·rintro⟨b,hb,e⟩;obtain⟨i,hi,e'⟩:=Kk.mp hb;refine⟨i,hi,?_⟩;rw[Yh];simp only[Yb hi,Option.getD_some];rw[e',e]
def G_(K:Fg)(f:List Bool->Bool):LV->Hp->VK->Prop:=λxs H Q=>∃ a bs,xs=[.ref a]/\SqL K H a (bs.map V.bl)/\Q (.bl (f bs)) H
def J_(hc:X.calm=true):Ff X (.builtin "all") (G_ X.K λbs=>bs.all id):=by
 intro pins s σ H xs us Q I r h;obtain⟨a,bs,rfl,ha,q⟩:=h;obtain⟨u,rfl,ru⟩:=F7 r;cases ru;obtain⟨its,rv,p,hz⟩:=I.list ha;have hl:=rv.length;rw[Ya]at hl;refine call_all_walk (wpAny_pyIter_list p.isList ?_);have BB:a≠s.heap.objs.size:=by
  obtain⟨o,ho,_⟩:=p.isList;exact A8 (Yl ho)
 refine⟨s.heap.objs.size,_,_,_,_,_,λi=>bs.getD i false,Y,Walks.list (A:=X.A.in1) (I.ok.hd hc) s.heap.objs.size a BB its.toArray,⟨⟨_,Yk _ rfl,Y,Y⟩,?_⟩,?_,?_⟩
 ·obtain⟨o,ho,r'⟩:=p.isList;exact⟨o,Yd _ ho,r'⟩
 ·intro i v s' Q' E' hv hq;have e:=bC rv i v (by simpa using hv);subst e;exact Jh hq
 ·intro h' tk hk;refine⟨.bl (bs.all id),H,I.kept λb o e=>hk b o ?_ (Yd _ e),?_,q⟩
  ·have hb:=Yl e;intro z;have z':b=s.heap.objs.size:=by simpa using z
   exact A8 hb z'
  ·have:its.toArray.size=bs.length:=by simp[hl]
   rw[this,ng];rfl
def Np(hc:X.calm=true):Ff X (.builtin "any") (G_ X.K λbs=>bs.any id):=by
 intro pins s σ H xs us Q I r h;obtain⟨a,bs,rfl,ha,q⟩:=h;obtain⟨u,rfl,ru⟩:=F7 r;cases ru;obtain⟨its,rv,p,hz⟩:=I.list ha;have hl:=rv.length;rw[Ya]at hl;refine call_any_walk (wpAny_pyIter_list p.isList ?_);have BB:a≠s.heap.objs.size:=by
  obtain⟨o,ho,_⟩:=p.isList;exact A8 (Yl ho)
 refine⟨s.heap.objs.size,_,_,_,_,_,λi=>bs.getD i false,Y,Walks.list (A:=X.A.in1) (I.ok.hd hc) s.heap.objs.size a BB its.toArray,⟨⟨_,Yk _ rfl,Y,Y⟩,?_⟩,?_,?_⟩
 ·obtain⟨o,ho,r'⟩:=p.isList;exact⟨o,Yd _ ho,r'⟩
 ·intro i v s' Q' E' hv hq;have e:=bC rv i v (by simpa using hv);subst e;exact Jh hq
 ·intro h' tk hk;refine⟨.bl (bs.any id),H,I.kept λb o e=>hk b o ?_ (Yd _ e),?_,q⟩
  ·have hb:=Yl e;intro z;have z':b=s.heap.objs.size:=by simpa using z
   exact A8 hb z'
  ·have:its.toArray.size=bs.length:=by simp[hl]
   rw[this,nh];rfl
def qh(i j:Int):Prop:=Builtin.Int.intBits i<=2 ^ 20/\Builtin.Int.intBits j<=2 ^ 20
def VL:Bb X (binaryOp .Mult) (rI qh λi j=>.int (i * j)):=M3 λ_ _ _ _ _ _ _ hc q=>mul_int q (IntMulOk.of_bits hc.1 hc.2)
def qg(i j:Int):Prop:=0<j/\j<4611686018427387904
def mY:Bb X (binaryOp .FloorDiv) (rI qg λi j=>.int (i / j)):=M3 λi j _ _ _ _ _ hc q=>by
 have h1:(0:Int)<j:=hc.1;have h2:j<4611686018427387904:=hc.2;refine floordiv_int (by omega) (by rw[Int.fdiv_eq_ediv_of_nonneg i (by omega)];exact q) (.inl (PyProof.noPylong_of_log2 ?_));have h3:j.natAbs.log2<62:=(Nat.log2_lt (by omega)).mpr (by omega);omega
def we:V->Option Int->Option Int->Hp->VK->Prop:=λx lo hi H Q=>∃ z,x=.str z/\z.length<=sizeLine/\Q (.str (Txt.slice z lo hi)) H
def iZ:W5 X we:=by
 intro pins s σ H x v vl vu lo hi sl Q I rx hs pl pu h;obtain⟨z,rfl,hz,q⟩:=h;obtain⟨t,rfl⟩:=rx;refine⟨"str",_,F.slot_str_getitem.lookup,typeIs_str _ _ _,?_⟩;have fin:∀ t' k,EP X pins σ Q (.str (Txt.slice z lo hi) t') {s with toks:=k}:=λt' k=>⟨.str _,H,I.tok _,⟨Z⟩,q⟩;have hsz:=A7 (Txt.slice_le z lo hi) hz;obtain⟨o,h1,h2,h3⟩:=hs;cases pl with
 | none =>
  cases pu with
  | none=>exact wpAny_getItem_str_slice (l:=none) (u:=none) (st:=none) ⟨o,h1,h2,h3⟩ rfl (post_val_or_str ⟨hsz,fin⟩)
  | int j uj=>exact wpAny_getItem_str_slice (l:=none) (u:=some (j,uj)) (st:=none) ⟨o,h1,h2,h3⟩ rfl (post_val_or_str ⟨hsz,fin⟩)
 | int i ui =>
  cases pu with
  | none=>exact wpAny_getItem_str_slice (l:=some (i,ui)) (u:=none) (st:=none) ⟨o,h1,h2,h3⟩ rfl (post_val_or_str ⟨hsz,fin⟩)
  | int j uj=>exact wpAny_getItem_str_slice (l:=some (i,ui)) (u:=some (j,uj)) (st:=none) ⟨o,h1,h2,h3⟩ rfl (post_val_or_str ⟨hsz,fin⟩)
def eF(K:Fg):LV->Hp->VK->Prop:=λxs H Q=>∃ x n t b,xs=[x,.ty n]/\Fd K H x t/\W.kitOne K t (.type n)=some b/\Q (.bl b) H
def KA:Ff X (.builtin "isinstance") (eF X.K):=by
 intro pins s σ H xs us Q I r h;obtain⟨x,n,t,b,rfl,ty,e,q⟩:=h;obtain⟨u,w',rfl,r1,r2⟩:=gu r;cases r2;exact nR I r1 ty e λtk=>⟨.bl b,H,I.tok _,Y,q⟩
end
def gK(osc:Scope)(on:LS)(scope:Scope)(frees:LS)(js:LN):Bool :=
 (scope.kind == .function)&&scope.names.all (λy=>y.2 != .cell)&&scope.names.all (λy=>y.2 != .local || scope.names.lookup y.1 == some .local) &&
 scope.names.all (λy=>y.2 != .free || (osc.names.lookup y.1 == some .cell || osc.names.lookup y.1 == some .free))&&frees.all (λx=>scope.names.lookup x == some .free)&&decide (js.map (λj=>on[j]?)=frees.map some)
def A4{X:Cx}{osc scope:Scope}{on own frees:LS}{js:LN}(h:gK osc on scope frees js=true)(h1:X.env.scope=osc)(h2:X.N=on)(h3:X.calm=true):F_ X scope own frees js:=by
 subst h1;subst h2;unfold gK at h;simp only[Du,Cr,decide_eq_true_eq,Bool.or_eq_true,bne_iff_ne,beq_iff_eq,ne_eq]at h;obtain⟨⟨⟨⟨⟨a,b⟩,c⟩,d⟩,e⟩,f⟩:=h;exact⟨h3,a,b,λy hy z=>(c y hy).resolve_left (λq=>q z),λy hy z=>(d y hy).resolve_left (λq=>q z),e,f⟩
def MJ(t u:TS):TS:=λD σ H=>∃ M:SW,t {D with nx:=M} σ H/\∀ σ' H',M σ' H'->u D σ' H'
def JB{X:Cx}{st:Stmt}{E9:List Stmt}{t u:TS}(h1:PS X st t)(h2:CF X E9 u):CF X (st :: E9) (MJ t u):=by
 intro pins s σ H D I h;obtain⟨M,h,hM⟩:=h;refine wpAny_execs_cons (AM (h1 pins s σ H {D with nx:=M} I h) λf s1 q=>?_);cases f with
 | next =>
  obtain⟨σ',H',I',q⟩:=q;exact h2 pins s1 σ' H' D I' (hM _ _ q)
 | ret v=>exact q
 | brk=>exact q
 | cont=>exact q
structure Def(K:Fg)(mg:Str->OU)(x:Str)(st:Stmt)(ps:LS)(f:Addr)(fd:FuncData):Prop where
 fn:Bg K x x st f fd
 b:C6 K fd ps []
 m:mg x=some (.ref f)
def AN{X:Cx}{k:Nat}{ps:LS}{sp:Sp}{x:Str}{st:Stmt}{p pos:Pos}{e:Expr}{es:List Expr}{t:TA}(d:Def X.K X.mg x st ps f fd)(F:FG X.prog X.w X.K X.mg X.base JR k f fd ps sp)(hr:AU k X.A)
  (ha:PA X (e :: es) t) (hg:Gl X x:=by rfl) (hdb:(x == ("__debug__":Str))=false:=by decide) (he:starEach (e :: es) X.env=(false,eval e X.env):: starEach es X.env:=by rfl) (hpl:(backTo pos (starEach es X.env)).any (·.1)=false:=by rfl):
  PE X (.Call (.Name x p) (e :: es) [] pos) (gn sp [] E0 t):=uz F hr hg d.m d.fn.kp d.b .nil A3 ha hdb he hpl
def sL{n:Nat}(h:n<=100000):n<=sizeLine:=by rw[sizeLine_eq];omega
end L2
namespace L2
open PySem PySem.Spec PyProof.Rows PySem.W
mutual
inductive Rep(K:Fg)(H:Hp):V->Dat->Prop
 | none:Rep K H .non .none
 | bool (b:Bool):Rep K H (.bl b) (.bool b)
 | int (i:Int):Rep K H (.int i) (.int i)
 | str (x:Str):Rep K H (.str x) (.str x)
 | tuple {a:Addr} {xs:LV} {ds:List Dat}:AL K H a xs->A1 K H xs ds->Rep K H (.ref a) (.tuple ds)
 | list {a:Addr} {xs:LV} {ds:List Dat}:SqL K H a xs->A1 K H xs ds->Rep K H (.ref a) (.list ds)
inductive A1(K:Fg)(H:Hp):LV->List Dat->Prop
 | nil:A1 K H [] []
 | cons {v:V} {vs:LV} {d:Dat} {ds:List Dat}:Rep K H v d->A1 K H vs ds->A1 K H (v :: vs) (d :: ds)
end
def AA.tup{K:Fg}{H H':Hp}{a:Addr}{xs:LV}(e:AA H H')(h:AL K H a xs):AL K H' a xs:=by
 rcases h with(h | ⟨o,h⟩) | h
 ·exact .inl (.inl (e _ _ h))
 ·exact .inl (.inr ⟨o,e _ _ h⟩)
 ·exact .inr h
mutual
theorem Rep.mono{K:Fg}{H H':Hp}(e:AA H H'):∀ {v:V}{d:Dat},Rep K H v d->Rep K H' v d
 | _,_,.none=>.none
 | _,_,.bool b=>.bool b
 | _,_,.int i=>.int i
 | _,_,.str x=>.str x
 | _,_,.tuple h r=>.tuple (e.tup h) (A1.mono e r)
 | _,_,.list h r=>.list (e.seq h) (A1.mono e r)
theorem A1.mono{K:Fg}{H H':Hp}(e:AA H H'):∀ {vs:LV}{ds:List Dat},A1 K H vs ds->A1 K H' vs ds
 | _,_,.nil=>.nil
 | _,_,.cons h r=>.cons (Rep.mono e h) (A1.mono e r)
end
section
variable {X:Cx}{pins:PL}{σ:St}{H:Hp}{s:Shared}
mutual
theorem Rep.reads(I:Inv X pins σ H s):∀ {v:V}{d:Dat}{u:Value},Rep X.K H v d->AX v u->∃ as,Reads s.heap u (kqdP d) as
 | _,_,_,.none,r=>by cases(show _=Value.none from r);rw[kqdP];exact⟨_,Reads.none⟩
 | _,_,_,.bool b,r=>by cases(show _=Value.bool b from r);rw[kqdP];exact⟨_,Reads.bool b⟩
 | _,_,_,.int i,r=>by obtain⟨t,e⟩:=(show ∃ t,_=Value.int i t from r);cases e;rw[kqdP];exact⟨_,Reads.int i t⟩
 | _,_,_,.str x,r=>by obtain⟨t,e⟩:=(show ∃ t,_=Value.str x t from r);cases e;rw[kqdP];exact⟨_,Reads.str x t⟩
 | _,_,_,.tuple (a:=a) h q,r=>by
  cases(show _=Value.ref a from r);obtain⟨its,rv,⟨o,e,c,n,d⟩,_⟩:=I.tuple h;obtain⟨as,p⟩:=A1.reads I q rv;rw[kqdP];exact⟨as,reads_tuple_at e c d (by simpa using p)⟩
 | _,_,_,.list (a:=a) h q,r=>by
  cases(show _=Value.ref a from r);obtain⟨its,rv,⟨o,n,e,c,_,d⟩,_⟩:=I.list h;obtain⟨as,p⟩:=A1.reads I q rv;rw[kqdP];exact⟨_,reads_list_at e c d (by simpa using p)⟩
theorem A1.reads(I:Inv X pins σ H s):∀ {vs:LV}{ds:List Dat}{us:LU},A1 X.K H vs ds->AQ vs us->∃ as,ReadsAll s.heap us (kqdPs ds) as
 | _,_,_,.nil,r=>by cases r;rw[kqdPs];exact⟨_,ReadsAll.nil⟩
 | _,_,_,.cons h q,r=>by
  cases r with
  | cons r1 r2 =>
   obtain⟨as,p⟩:=Rep.reads I h r1;obtain⟨bs,t⟩:=A1.reads I q r2;rw[kqdPs];exact⟨_,ReadsAll.cons p t⟩
end
end
def CL(d e:Dat):Bool:=@decide (d=e) (Classical.propDecidable _)
def EZ(d:Dat):CL d d=true:=by unfold CL;exact @Jb _ (Classical.propDecidable _) rfl
def uB{d e:Dat}(h:d=e):CL d e=true:=by rw[h];exact EZ e
def GV{d e:Dat}(h:d≠e):CL d e=false:=by unfold CL;exact @Jc _ (Classical.propDecidable _) h
def SI{d e:Dat}{n k:Nat}(h1:kqdOk n d=true)(h2:kqdOk k e=true):PyData.eqv (kqdP d) (kqdP e)=CL d e:=by
 have q:=kqd_eqv n d e k h1 h2;by_cases h:d=e
 ·rw[uB h];exact q.mpr h
 ·rw[GV h];exact Bool.eq_false_iff.mpr λx=>h (q.mp x)
def JF{d:Dat}(h:kqdOk 9 d=true):SeqAt.shaped (kqdP d)=true:=by
 have l:=kqd_lay 9 d h;unfold SeqAt.shaped;rw[l.1,Kd];exact Jb (A7 l.2 (by decide))
section
variable {X:Cx}
def eE(K:Fg)(f:Bool->Bool):R2:=λx y H Q=>∃ d e,Rep K H x d/\Rep K H y e/\kqdOk 9 d=true/\kqdOk 9 e=true/\Q (.bl (f (CL d e))) H
def su(hu:X.A.units + 64<cLine):Bb X (compareOp .Eq) (eE X.K id):=by
 exfalso;obtain⟨d,e,h1,h2,k1,k2,q⟩:=h;obtain⟨as,ra⟩:=h1.reads I rx;obtain⟨bs,rb⟩:=h2.reads I ry;exact eq_dataH ra rb (JF k1) (JF k2) hu (BP I q (by rw[SI k1 k2];rfl))
def HH(hu:X.A.units + 64<cLine):Bb X (compareOp .NotEq) (eE X.K Bool.not):=by
 exfalso;obtain⟨d,e,h1,h2,k1,k2,q⟩:=h;obtain⟨as,ra⟩:=h1.reads I rx;obtain⟨bs,rb⟩:=h2.reads I ry;exact ne_dataH ra rb (JF k1) (JF k2) hu (BP I q (by rw[SI k1 k2]))
end
end L2
namespace L2
open PySem PySem.Spec PyProof.Rows
section
variable {X:Cx}{pins:PL}{σ:St}{H H':Hp}{s:Shared}{a:Addr}{kvs:KL}{o:Obj}
def Inv.reH(I:Inv X pins σ H s)(base:Un X.fs X.ex X.H₀ H' X.s₀.heap s.heap)(hn:∀ b,H b=none->H' b=none)(hok:Bf X.prog X.w H' s.heap):Inv X pins σ H' s :=
 ⟨I.ok,I.os,I.bare,base,I.loc,I.cell,hn _ I.free,λx c e=>hn _ (I.freeC x c e),λp hp=>by
  obtain⟨e,n,r⟩:=I.pin p hp;exact⟨e,hn _ n,r⟩,hok,I.len⟩
def Inv.reAt{u u':HO}(I:Inv X pins σ H s)(h:H a=some u)(nt:∀ xs,u≠.tup xs)(no:∀ y,u≠.own y)(nb:∀ ps,u≠.tbl ps)(nf:∀ o v,X.H₀ a≠some (.frz o v))
  (ok:BO X.prog X.w H s.heap a u->BO X.prog X.w (upd H a u') s.heap a u'):Inv X pins σ (upd H a u') s:=by
 have hn:∀ b,H b=none->upd H a u' b=none:=λb e=>by
  rw[AD]
  ·exact e
  ·rintro rfl;rw[h]at e;cases e
 refine I.reH ⟨I.base.keep,I.base.slot,λb ob e n hx=>hn b (I.base.free b ob e n hx),I.base.there,λb xs e=>?_,λb ob v e=>?_,λb ps e=>?_⟩ hn ?_
 ·have q:=I.base.tups b xs e;rw[AD]
  ·exact q
  ·rintro rfl;rw[h]at q;exact nt xs (Ba q)
 ·have q:=I.base.frzs b ob v e;rw[AD]
  ·exact q
  ·rintro rfl;exact nf ob v e
 ·obtain⟨m,q⟩:=I.base.tbls b ps e;refine⟨m,?_⟩;rw[AD]
  ·exact q
  ·rintro rfl;rw[h]at q;exact nb _ (Ba q)
 ·intro b v e;by_cases hb:b=a
  ·subst hb;rw[uS]at e;cases e;exact ok (I.hok b u h)
  ·rw[AD hb]at e;refine(I.hok b v e).stay (λ_ _ _ q=>q) (λc q=>?_) λc xs q=>?_
   ·rw[AD]
    ·exact q
    ·rintro rfl;rw[h]at q;exact no _ (Ba q)
   ·rw[AD]
    ·exact q
    ·rintro rfl;rw[h]at q;exact nt _ (Ba q)
def Inv.freeze(I:Inv X pins σ H s)(h:H a=some (.dK kvs))(ho:s.heap.get? a=some o):Inv X pins σ (upd H a (.frz o (.dK kvs))) s/\∀ o' v,X.H₀ a≠some (.frz o' v):=by
 have nf:∀ o' v,X.H₀ a≠some (.frz o' v):=λo' v e=>by
  have q:=I.base.frzs a o' v e;rw[h]at q;cases q
 refine⟨I.reAt h (λ_ z=>nomatch z) (λ_ z=>nomatch z) (λ_ z=>nomatch z) nf λk=>⟨ho,k.stay (λ_ _ _ q=>q) (λc q=>?_) λc xs q=>?_⟩,nf⟩
 ·rw[AD]
  ·exact q
  ·rintro rfl;rw[h]at q;cases q
 ·rw[AD]
  ·exact q
  ·rintro rfl;rw[h]at q;cases q
def iV{P:Program}{w:World}{k:Key}{u:Value}(h:(Cq P w).is k u=true):AX (kV k) u:=by
 rcases ID (show LQ k u=true from h)with⟨i,t,rfl,rfl⟩ | ⟨x,t,rfl,rfl⟩
 ·exact⟨t,Y⟩
 ·exact⟨t,Y⟩
end
def W9(a:Addr)(o:Obj)(kvs:KL):It :=
 ⟨λi H=>i<kvs.length/\H a=some (.frz o (.dK kvs)),λi H v H'=>H'=H/\∃ p,kvs[i]?=some p/\v=kV p.1,λi H=>kvs.length<=i/\H a=some (.frz o (.dK kvs))⟩
def W8(a:Addr)(o:Obj)(kvs:KL):It :=
 ⟨λi H=>i<kvs.length/\H a=some (.frz o (.dK kvs)),λi H v H'=>H'=H/\∃ p,kvs[i]?=some p/\v=p.2,λi H=>kvs.length<=i/\H a=some (.frz o (.dK kvs))⟩
theorem KV.get{κ:Type}:∀ {kvs:List (κ×V)}{vs:List (κ×Value)},KV kvs vs->∀ {i:Nat}{p:κ×V},kvs[i]?=some p->∃ u,vs[i]?=some (p.1,u)/\AX p.2 u
 | _,_,.nil,i,p,h=>by simp at h
 | _,_,.cons r t,0,p,h=>by
  simp at h;subst h;exact⟨_,by simp[r.1],r.2⟩
 | _,_,.cons r t,i + 1,p,h=>by
  obtain⟨u,h1,h2⟩:=KV.get t (i:=i) (p:=p) (by simpa using h);exact⟨u,by simpa using h1,h2⟩
def Ni{P:Program}{w:World}{H:Hp}{h:Heap}{a:Addr}{o:Obj}{kvs:KL}{es:Array DictEntry}{ep:Nat}(ok:BO P w H h a (.frz o (.dK kvs)))(hd:o.data=.dict es ep):
  (a == sysModules)=false/\∃ vs,KV kvs vs/\h.DictAt (Cq P w) a vs ep:=by
 obtain⟨ho,z,hs,vs,r,o',NI,NK,h1,h2,h3,h4,h5,h6⟩:=ok;rw[ho]at h1;cases h1;rw[hd]at h3;cases h3;exact⟨hs,vs,r,o,es,ho,h2,hd,h4,h5,h6⟩
def oK{P:Program}{w:World}{K:Fg}{tg:Expr}(a it:Addr)(o:Obj)(kvs:KL)(es:Array DictEntry)(ep:Nat)(hd:o.data=.dict es ep):
  Fb P w K tg (W9 a o kvs) [it] it (λi h=>h.IsKeyIter it a i kvs.length ep) where
 mem:=by simp
 obj:=λi h st b hb=>by
  have e:b=it:=by simpa using hb
  subst e;obtain⟨o,e,c,d⟩:=st;exact⟨o,e,λv z=>by rw[d]at z;cases z⟩
 keep:=λi h h' st k=>by
  obtain⟨o,ho,r⟩:=st;exact⟨o,k it (by simp) o ho,r⟩
 item:=by
  intro X hP hw hK hc i pins s σ H E I hf st hg;subst hP hw hK;obtain⟨f0,f1,f2,f3,f4,f5⟩:=hf it (by simp);obtain⟨hi,ha⟩:=hg;obtain⟨_,vs,r,dd⟩:=Ni (I.hok a _ ha) hd;obtain⟨p,hp⟩:∃ p,kvs[i]?=some p:=⟨kvs[i],by simp[hi]⟩;obtain⟨u,hu,ru⟩:=r.get hp;have hl:kvs.length=vs.length:=Bl r;rw[hl]at st;refine wpAny_pyNext_dict_item st dd hu λkey h' hk A5 sb=>?_;have I1:Inv X pins σ H {s with heap:=h' }:=I.turned (t':=s.toks) (λb o hb e=>(sb.2 b hb).trans e) f0 f1 f3 f4 f5;obtain⟨o',e,c,d⟩:=id A5;rw[<- hl]at A5;exact⟨key,Y,NO (s:={s with heap:=h' }) e c d (by decide) ⟨kV p.1,H,I1,iV hk,⟨Y,p,hp,Y⟩,A5,λb hb=>(hf b hb).1⟩⟩
 done:=by
  intro X hP hw hK hc i pins s σ H E I hf st hg;subst hP hw hK;obtain⟨f0,f1,f2,f3,f4,f5⟩:=hf it (by simp);obtain⟨hi,ha⟩:=hg;obtain⟨_,vs,r,dd⟩:=Ni (I.hok a _ ha) hd;have hl:kvs.length=vs.length:=Bl r;rw[hl]at st;exact wpAny_pyNext_dict_end (I.ok.hd hc) st dd (by simp;omega) λh' eb=>⟨Y,I.turned (t':=s.toks) (λb o hb e=>eb b o hb e) f0 f1 f3 f4 f5⟩
 self:=λ_ _ _ _ _ st h=>wpAny_pyIter_keyiter st h
def oM{P:Program}{w:World}{K:Fg}{tg:Expr}(a it:Addr)(o:Obj)(kvs:KL)(es:Array DictEntry)(ep:Nat)(hd:o.data=.dict es ep):
  Fb P w K tg (W8 a o kvs) [it] it (λi h=>h.IsValIter it a i kvs.length ep) where
 mem:=by simp
 obj:=λi h st b hb=>by
  have e:b=it:=by simpa using hb
  subst e;obtain⟨o,e,c,d⟩:=st;exact⟨o,e,λv z=>by rw[d]at z;cases z⟩
 keep:=λi h h' st k=>by
  obtain⟨o,ho,r⟩:=st;exact⟨o,k it (by simp) o ho,r⟩
 item:=by
  intro X hP hw hK hc i pins s σ H E I hf st hg;subst hP hw hK;obtain⟨f0,f1,f2,f3,f4,f5⟩:=hf it (by simp);obtain⟨hi,ha⟩:=hg;obtain⟨_,vs,r,dd⟩:=Ni (I.hok a _ ha) hd;obtain⟨p,hp⟩:∃ p,kvs[i]?=some p:=⟨kvs[i],by simp[hi]⟩;obtain⟨u,hu,ru⟩:=r.get hp;have hl:kvs.length=vs.length:=Bl r;rw[hl]at st;refine wpAny_pyNext_values_item st dd hu λh' A5 sb=>?_;have I1:Inv X pins σ H {s with heap:=h' }:=I.turned (t':=s.toks) (λb o hb e=>(sb.2 b hb).trans e) f0 f1 f3 f4 f5;obtain⟨o',e,c,d⟩:=id A5;rw[<- hl]at A5;exact⟨u,Y,NO (s:={s with heap:=h' }) e c d (by decide) ⟨p.2,H,I1,ru,⟨Y,p,hp,Y⟩,A5,λb hb=>(hf b hb).1⟩⟩
 done:=by
  intro X hP hw hK hc i pins s σ H E I hf st hg;subst hP hw hK;obtain⟨f0,f1,f2,f3,f4,f5⟩:=hf it (by simp);obtain⟨hi,ha⟩:=hg;obtain⟨_,vs,r,dd⟩:=Ni (I.hok a _ ha) hd;have hl:kvs.length=vs.length:=Bl r;rw[hl]at st;exact wpAny_pyNext_values_end (I.ok.hd hc) st dd (by simp;omega) λh' eb=>⟨Y,I.turned (t':=s.toks) (λb o hb e=>eb b o hb e) f0 f1 f3 f4 f5⟩
 self:=λ_ _ _ _ _ st h=>wpAny_pyIter_valiter st h
def wX(t:TS):TS:=λD σ H=>∃ a kvs,H a=some (.dK kvs)/\∀ o,t D σ (upd H a (.frz o (.dK kvs)))
def VN{X:Cx}{sts:List Stmt}{t:TS}(h:CF X sts t):CF X sts (wX t):=by
 intro pins s σ H D I q;obtain⟨a,kvs,ha,q⟩:=q;obtain⟨o,ho⟩:∃ o,s.heap.get? a=some o:=by
  obtain⟨_,_,vs,_,o,_,_,e,_⟩:=I.hok a _ ha;exact⟨o,e⟩
 exact h pins s σ _ D (I.freeze ha ho).1 (q o)
def aH{P:Program}{w:World}{H:Hp}{h:Heap}{a:Addr}{o:Obj}{kvs:KL}(ok:BO P w H h a (.frz o (.dK kvs))):∃ es ep,o.data=.dict es ep:=by
 obtain⟨ho,z,hs,vs,r,o',NI,NK,h1,h2,h3,_⟩:=ok;rw[ho]at h1;cases h1;exact⟨NI,NK,h3⟩
def Vv{a:Addr}{o:Obj}{kvs:KL}:F5 (W9 a o kvs) (kvs.map λp=>kV p.1) (λH=>H a=some (.frz o (.dK kvs))) where
 go:=λi x H ok hx=>by
  have:=(Ye.mp hx).1;rw[Ya]at this;exact⟨this,ok⟩
 yld:=λi x H y H' ok hx h=>by
  obtain⟨e,p,hp,hy⟩:=h;rw[Yi,hp]at hx;exact⟨hy.trans (Ba hx),e⟩
 stop:=λH ok=>⟨by rw[Ya];exact Yf _,ok⟩
def n5{a:Addr}{o:Obj}{kvs:KL}:F5 (W8 a o kvs) (kvs.map λp=>p.2) (λH=>H a=some (.frz o (.dK kvs))) where
 go:=λi x H ok hx=>by
  have:=(Ye.mp hx).1;rw[Ya]at this;exact⟨this,ok⟩
 yld:=λi x H y H' ok hx h=>by
  obtain⟨e,p,hp,hy⟩:=h;rw[Yi,hp]at hx;exact⟨hy.trans (Ba hx),e⟩
 stop:=λH ok=>⟨by rw[Ya];exact Yf _,ok⟩
section
variable {X:Cx}{tg:Expr}
def rO(tl:TE):TI:=λσ H R=>tl σ H λx H1=>∃ a o kvs,x=.ref a/\H1 a=some (.frz o (.dK kvs))/\R (W9 a o kvs) H1
def VM{l:Expr}{tl:TE}(hl:PE X l tl):PI X tg l (rO tl):=by
 intro pins s σ H R I h;refine AM (hl pins s σ H _ I h) λv s1 ⟨x,H1,I1,r1,q1⟩=>?_;obtain⟨a,o,kvs,e,ha,q⟩:=q1;subst e;cases r1;obtain⟨es,ep,hd⟩:=aH (I1.hok a _ ha);obtain⟨hs,vs,r,dd⟩:=Ni (I1.hok a _ ha) hd;have hl:kvs.length=vs.length:=Bl r;refine wpAny_pyIter_dict hs dd ?_;refine⟨s1.heap.objs.size,[s1.heap.objs.size],_,_,H1,Y,I1.kept (t':=s1.toks) λb o e=>Yd _ e,oK a _ o kvs es ep hd,⟨_,Yk _ rfl,Y,by rw[hl];rfl⟩,λb hb=>?_,q⟩;have e:b=s1.heap.objs.size:=by simpa using hb
 subst e;exact I1.fpOk (Yf _) (I1.hok.fresh (Yf _))
end
def qE{n:Nat}(h:n<=10000000):n<=sizeLine:=by rw[sizeLine_eq];omega
theorem VZ:∀ {xs:LV}{us:LU},xs.length=us.length->(∀(i:Nat) (v:V) (u:Value),xs[i]?=some v->us[i]?=some u->AX v u)->AQ xs us
 | [],[],_,_=>.nil
 | [],_ :: _,h,_=>by simp at h
 | _ :: _,[],h,_=>by simp at h
 | x :: xs,u :: us,h,k=>.cons (k 0 x u rfl rfl) (VZ (by simpa using h) λi v w hv hw=>k (i + 1) v w (by simpa using hv) (by simpa using hw))
def Lo{J:It}{xs:LV}{Ok:Hp->Prop}(R:F5 J xs Ok){js:LN}{tt:TT}{te:TE}{σ:St}{Q:VK}{H1:Hp}(hz:xs.length<=sizeLine)(p:V->Bool)(F:Addr->V->V->Hp->Prop)
  (hF:∀ D x v H H',(∀ b o,b≠D->H b=some o->H' b=some o)->F D x v H->F D x v H')
  (hok:∀ H,AA H1 H->Ok H)
  (ht:∀ x H (R:Bool->Hp->Prop),AA H1 H->x∈xs->(∀ H',AA H H'->R (p x) H')->tt (some x :: js.map λj=>(σ[j]?).join) H R)
  (he:∀ D x H (R:V->Hp->Prop),AA H1 H->(∃ ys,H D=some (.lst ys))->H1 D=none->x∈xs->p x=true->(∀ v H',AA H H'->F D x v H'->R v H')->te (some x :: js.map λj=>(σ[j]?).join) H R)
  (hd:∀ D H' ys,H1 D=none->AA H1 H'->H' D=some (.lst ys)->Paired (λx v=>F D x v H') (xs.filter p) ys->Q (.ref D) H'):
  Aa 1 js (Dp 0) tt te σ Q J H1:=by
 refine Nt R hz (λD i ys σ' H=>H1 D=none/\AA H1 H/\H D=some (.lst ys)/\Paired (λx v=>F D x v H) ((xs.take i).filter p) ys/\∃ o,σ'=o :: js.map λj=>(σ[j]?).join) ?_ ?_ ?_ ?_
 ·intro D hD;exact⟨hD,λb o e=>by rw[AD (AH e hD)];exact e,uS,by simpa using Paired.nil,none,Y⟩
 ·rintro D i ys σ' H hi ⟨hD,hs,hl,hp,_⟩;refine⟨hok H hs,?_⟩;rw[<- hp.length];exact A7 (EE _ _) (by rw[Yx];omega)
 ·rintro D i x ys σ' H hD hx ⟨_,hs,hl,hp,o,rfl⟩;show tt (some x :: js.map λj=>(σ[j]?).join) H _;have hm:x∈xs:=Yc hx;refine ht x H _ hs hm λH4 s4=>?_;have LC:AA H1 H4:=hs.trans s4;have mono:∀ {H H':Hp},(∀ b o,b≠D->H b=some o->H' b=some o)->Paired (λx v=>F D x v H) ((xs.take i).filter p) ys->Paired (λx v=>F D x v H') ((xs.take i).filter p) ys:=λh q=>Paired.mapP q λa b z=>hF D a b _ _ h z;cases hpx:p x with
  | true =>
   rw[if_pos rfl];refine he D x H4 _ LC ⟨_,s4 _ _ hl⟩ hD hm hpx λv H5 s5 f5=>⟨s5 _ _ (s4 _ _ hl),hD,λb o e=>?_,uS,?_,Z⟩
   ·rw[AD (AH e hD)];exact s5 _ _ (LC _ _ e)
   ·rw[take_succ_filter p xs i x hx,hpx,if_pos rfl];refine Fn (mono (λb o hb e=>by rw[AD hb];exact s5 _ _ (s4 _ _ e)) hp) (hF D _ _ _ _ (λb o hb e=>by rw[AD hb];exact e) f5)
  | false =>
   rw[if_neg Ym];refine⟨hD,LC,s4 _ _ hl,?_,Z⟩;rw[take_succ_filter p xs i x hx,hpx,if_neg Ym,Gg];exact mono (λb o _ e=>s4 _ _ e) hp
 ·rintro D ys σ' H hD ⟨_,hs,hl,hp,_⟩;rw[De]at hp;exact hd D H ys hD hs hl hp
section
variable {X:Cx}
def vK:V->LV->Hp->VK->Prop:=λx vs H Q=>∃ l xs i y,x=.ref l/\vs=[.int i,y]/\H l=some (.lst xs)/\0<=i/\i<=xs.length/\xs.length<sizeLine/\Q .non (upd H l (.lst (xs.take i.toNat++y :: xs.drop i.toNat)))
def Vt:Me X "list.insert" vK:=by
 intro pins s σ H x vs v us Q I rx rv h;obtain⟨l,xs,i,y,rfl,rfl,hH,h0,h1,hz,q⟩:=h;cases rx;obtain⟨u,w',rfl,⟨t,rfl⟩,ru⟩:=gu rv;obtain⟨z,its,n,r,hl,e⟩:=I.lstM hH;have hs:sizeLine=16777216:=sizeLine_eq;have hc:¬ (!Builtin.List.listFitsIndex i)=true:=by
  have:Builtin.List.listFitsIndex i=true:=by
   unfold Builtin.List.listFitsIndex;simp;omega
  rw[this];decide
 refine call_meets F.slot_list_insert ⟨_,e,Y⟩ F.entry_list_insert (F.args_list_insert_3 _ _ _) (PySem.AutoSeq1.list_insert_list_int_val_1 l its.toArray n i t w' hc (by rw[Yn];omega)) ⟨e,?_⟩;have hk:(if i<0 then(i + (its.toArray.size:Int)).toNat else min i.toNat its.toArray.size)=i.toNat:=by
  rw[if_neg (by omega),Yn];omega
 refine⟨.non,_,I.lset (its':=its.take i.toNat++w' :: its.drop i.toNat) hH e ?_ ?_ ?_,Y,q⟩
 ·show(its.toArray.extract 0 (if i<0 then(i + (its.toArray.size:Int)).toNat else min i.toNat its.toArray.size)).push w'++its.toArray.extract (if i<0 then(i + (its.toArray.size:Int)).toNat else min i.toNat its.toArray.size)=_;rw[hk];apply Array.ext';simp;exact Kc (by rw[List.length_drop];exact Yf _)
 ·exact(r.take _).append (.cons ru (r.drop _))
 ·rw[Yt,Bv,Yx,List.length_drop];omega
def Po{a:Expr}{ta:TE}{p1 p2 W_ JS:Pos}(hc:X.calm=true)(ha:PE X a ta)(kB:Gl X "list")(Oe:X.mg "list"=none)(j_:Gl X "range")(j6:X.mg "range"=none)
  (hs:starEach [a] X.env=[(false,eval a X.env)]:=by rfl)
  (FR:starEach [.Call (.Name "range" p2) [a] [] JS] X.env=[(false,eval (.Call (.Name "range" p2) [a] [] JS) X.env)]:=by rfl):
  PE X (.Call (.Name "list" p1) [.Call (.Name "range" p2) [a] [] JS] [] W_) (λσ H Q=>Wn ta Ta σ H λvs H1=>∃ j:Int,vs=[.int j]/\0<=j/\j<=1000000/\∀ l,H1 l=none->Q (.ref l) (upd H1 l (.lst (CW 0 j.toNat)))):=by
 ac_rfl;refine wpAny_Call_Name_kw (GQ I kB Oe Kb ?_ (by decide) (by decide));refine Kh ?_ FR rfl;refine Calls.spliced_cons ?_;refine wpAny_Call_Name_kw (GQ I j_ j6 boot_range ?_ (by decide) (by decide));refine Kh ?_ hs rfl;have pa:PA X [a] (Wn ta Ta):=pC ha AB hs;refine AM (pa JS pins s σ H (λvs H1=>∃ j:Int,vs=[.int j]/\0<=j/\j<=1000000/\∀ l,H1 l=none->Q (.ref l) (upd H1 l (.lst (CW 0 j.toNat)))) I h) λus s1 ⟨vs,H1,I1,r1,q1⟩=>?_;obtain⟨j,e,h0,h1,q⟩:=q1;subst e;obtain⟨u,rfl,t,rfl⟩:=F7 r1;refine call_range_1 (Calls.spliced_nil ?_);have I2:Inv X pins σ H1 {s1 with heap:=s1.heap.push {cls:=.type "range",data:=.fields #[.int 0 s1.toks,.int j t,.int 1 (s1.toks + 1)] },toks:=s1.toks + 1 + 1}:=I1.kept λb o e=>Yd _ e;refine call_list_range (n:=j.toNat) (I1.ok.hd hc) (IsRange.new ..) (small_one (by decide) (by decide) (by omega) (by omega)) (by rw[rangeSize_one];split <;> omega) (by omega) λh' tk Fx c' hk Up Ey=>?_;obtain⟨a1,a2⟩:=Ey;have BI:H1 (s1.heap.push {cls:=.type "range",data:=.fields #[.int 0 s1.toks,.int j t,.int 1 (s1.toks + 1)] }).objs.size=none:=I2.hok.fresh (Yf _);refine⟨.ref _,_,I2.laid (o:=.lst (CW 0 j.toNat)) hk (Yf _) ⟨?_,Fx.toList,c',?_,by simpa using Up⟩,Y,q _ BI⟩
 ·rw[Ca];exact qE (by omega)
 ·have len:(CW 0 j.toNat).length=Fx.toList.length:=by rw[Ca,JJ,a1]
  exact VZ len λi v u hv hu=>by
   obtain⟨hi,e⟩:=Ds hv;obtain⟨t',e'⟩:=a2 i u (by rw[<- QN];exact hu);rw[e,e'];exact⟨t',by rw[Int.mul_one]⟩
end
end L2
namespace Graph
variable {α:Type}[DecidableEq α]
inductive Reach(ups:α->List α):α->α->Prop
 | refl (a:α):Reach ups a a
 | step {a b c:α}:b∈ups a->Reach ups b c->Reach ups a c
def Reach.trans{ups:α->List α}{a b c:α}(h:Reach ups a b)(k:Reach ups b c):Reach ups a c:=by
 induction h with
 | refl=>exact k
 | step m _ ih=>exact .step m (ih k)
def Reach.one{ups:α->List α}{a b:α}(h:b∈ups a):Reach ups a b:=.step h (.refl b)
def Reach.snoc{ups:α->List α}{a b c:α}(h:Reach ups a b)(k:c∈ups b):Reach ups a c:=h.trans (.one k)
def Reach.rank{ups:α->List α}{rk:α->Nat}(hr:∀ a b,b∈ups a->rk b<rk a){a b:α}(h:Reach ups a b):rk b<=rk a:=by
 induction h with
 | refl=>exact Yf _
 | step m _ ih=>have:=hr _ _ m;omega
def Reach.rank_lt{ups:α->List α}{rk:α->Nat}(hr:∀ a b,b∈ups a->rk b<rk a){a b:α}(h:Reach ups a b)(BB:a≠b):rk b<rk a:=by
 cases h with
 | refl=>exact absurd rfl BB
 | step m k =>
  have h1:=hr _ _ m;have h2:=Reach.rank hr k;omega
def kept(ups:α->List α)(left:List α):List α:=left.filter λw=>(ups w).any λu=>decide (u∈left)
def kept_sub{ups:α->List α}{left:List α}{w:α}(h:w∈kept ups left):w∈left:=(Yu.mp h).1
def kept_le(ups:α->List α)(left:List α):(kept ups left).length<=left.length:=EE _ _
theorem cD{p:α->Bool}:∀ {l:List α},(l.filter p).length=l.length->l.filter p=l
 | [],_=>rfl
 | a :: r,h=>by
  have hle:=EE p r;rw[ED]at h ⊢;cases hp:p a with
  | true =>
   rw[hp,if_pos rfl,Bv,Bv]at h;rw[if_pos rfl,cD (by omega)]
  | false =>
   rw[hp,if_neg Ym,Bv]at h;omega
theorem min_rank(rk:α->Nat):∀(l:List α),l≠[]->∃ m,m∈l/\∀ x∈l,rk m<=rk x
 | [],h=>absurd rfl h
 | a :: r,_=>by
  by_cases hr:r=[]
  ·subst hr;exact⟨a,G,λx hx=>by simp at hx;subst hx;exact Yf _⟩
  ·obtain⟨m,hm,hx⟩:=min_rank rk r hr;by_cases hc:rk a<=rk m
   ·refine⟨a,G,λx Jo=>?_⟩
    rcases Yw.mp Jo with e | e
    ·subst e;exact Yf _
    ·exact A7 hc (hx x e)
   ·refine⟨m,FH _ hm,λx Jo=>?_⟩
    rcases Yw.mp Jo with e | e
    ·subst e;omega
    ·exact hx x e
def kept_nil{ups:α->List α}{left:List α}{rk:α->Nat}(hr:∀ a∈left,∀ b∈ups a,rk b<rk a)(h:(kept ups left).length=left.length):left=[]:=by
 refine IE λBB=>?_;obtain⟨m,hm,hx⟩:=min_rank rk left BB;have e:kept ups left=left:=cD h;rw[<- e]at hm;obtain⟨h1,h2⟩:=Yu.mp hm;obtain⟨u,hu,hd⟩:=FK.mp h2;have hl:u∈left:=Je hd;have a:=hr m h1 u hu;have b:=hx u hl;omega
theorem nodup_le:∀ {l k:List α},l.Nodup->(∀ x∈l,x∈k)->l.length<=k.length
 | [],k,_,_=>BF _
 | a :: r,k,hn,hs=>by
  obtain⟨h1,h2⟩:=Ed.mp hn;have ha:a∈k:=hs a (by simp);have:=nodup_le (k:=k.erase a) h2 λx hx=>(List.mem_erase_of_ne (λ(e:x=a)=>h1 (by rw[<- e];exact hx))).mpr (hs x (FH _ hx));rw[Wu ha]at this;have hpos:0<k.length:=List.length_pos_of_mem ha;rw[Bv];omega
def closed_reach{ups:α->List α}{S:α->Prop}(hc:∀ x,S x->∀ y∈ups x,S y){a b:α}(h:Reach ups a b)(ha:S a):S b:=by
 induction h with
 | refl=>exact ha
 | step m _ ih=>exact ih (hc _ ha _ m)
end Graph
namespace Md
open PySem L2
abbrev letters:Str:="abcdefghijklmnopqrstuvwxyz"
def Ir(c:Nat):Bool:=decide (97<=c/\c<=122)
def Bj(x:Str):Bool:=decide (1<=x.length/\x.length<=8)&&x.cps.toList.all Ir
def Sr:letters.cps.toList=[97,98,99,100,101,102,103,104,105,106,107,108,109,110,111,112,113,114,115,116,117,118,119,120,121,122]:=by rfl'
def oZ{i:Nat}(h:i<26):letters.cps.toList[i]?=some (97 + i):=by
 rw[Sr];have:∀ i:_root_.Fin 26,([97,98,99,100,101,102,103,104,105,106,107,108,109,110,111,112,113,114,115,116,117,118,119,120,121,122]:LN)[i.1]?=some (97 + i.1):=by decide
 exact this ⟨i,h⟩
def p6:letters.cps.toList=(List.range 26).map (97 + ·):=by rw[Sr];rfl
def r6(c:Nat):(!(Builtin.Str.occurrences letters ⟨#[c]⟩ 0 letters.length 1).isEmpty)=Ir c:=by
 rw[StrLaws.found_one,p6];unfold Ir;rw[decide_eq_decide,Yg];constructor
 ·rintro⟨a,ha,rfl⟩;have:=Bp.mp ha;omega
 ·intro h;exact⟨c - 97,Bp.mpr (by omega),W⟩
def H_(x:Str):x.cps.toList.length=x.length:=by simp[Str.length]
def ZT(c:Nat):(⟨#[c]⟩:Str).length=1:=rfl
def ZS(x y:Str):(x++y).length=x.length + y.length:=by
 show(x.cps++y.cps).size=_;rw[Array.size_append];rfl
def Z7(x y:Str):(x++y).cps.toList=x.cps.toList++y.cps.toList:=by
 show(x.cps++y.cps).toList=_;rw[Array.toList_append]
def Zx{x y:Str}(h:x.cps.toList=y.cps.toList):x=y:=by
 cases x;cases y
 congr 1
 exact Array.ext' h
def Wf:V->V
 | .str y=>.bl (!(Builtin.Str.occurrences letters y 0 letters.length 1).isEmpty)
 | _=>.non
def oV(x:Str):((Iy x).filter λ_=>true).map Wf=(x.cps.toList.map Ir).map V.bl:=by
 rw[Et.mpr λ_ _=>rfl];unfold Iy;rw[Bo,Bo];refine Ki λc _=>?_;show V.bl _=V.bl _;rw[r6]
def L1(x:Str):Bj x=true↔(1<=x.cps.toList.length/\x.cps.toList.length<=8)/\∀ c∈x.cps.toList,Ir c=true:=by
 unfold Bj;rw[Du,decide_eq_true_eq,Cr,H_]
def Sg{x:Str}(h:Bj x=true):1<=x.length/\x.length<=8:=by
 have:=((L1 x).mp h).1
 rwa [H_]at this
def PN{x:Str}(h:Bj x=true):PyData.strOk x=true:=by
 unfold PyData.strOk;rw[Array.all_eq_true'];intro c hc;have:=((L1 x).mp h).2 c (by simpa using hc);have:=Je this;exact Jb (by omega)
def Dd(n:Nat):LN:=(97 + n % 26):: (if h:n / 26=0 then[]else Dd (n / 26))
termination_by n
decreasing_by omega
def N4(n:Nat):Dd n=(97 + n % 26):: (if n / 26=0 then[]else Dd (n / 26)):=by
 rw[Dd];by_cases h:n / 26=0
 ·rw[dif_pos h,if_pos h]
 ·rw[dif_neg h,if_neg h]
theorem WD:∀(k n:Nat),n<26 ^ (k + 1)->(Dd n).length<=k + 1
 | 0,n,h=>by
  rw[N4,if_pos (by have:n<26:=h;omega)];exact Yf _
 | k + 1,n,h=>by
  rw[N4];by_cases h0:n / 26=0
  ·rw[if_pos h0];simp
  ·rw[if_neg h0,Bv];have:=WD k (n / 26) (Nat.div_lt_of_lt_mul (by rw[Nat.pow_succ]at h;omega));omega
def qM(n:Nat):∀ c∈Dd n,Ir c=true:=by
 induction n using Nat.strongRecOn with
 | ind n ih =>
  rw[N4];intro c hc
  rcases Yw.mp hc with e | hc
  ·rw[e];exact Jb (by omega)
  ·by_cases h0:n / 26=0
   ·rw[if_pos h0]at hc;cases hc
   ·rw[if_neg h0]at hc;exact ih (n / 26) (by omega) c hc
def QI:LN->Nat
 | []=>0
 | c :: r=>(c - 97) + 26 * QI r
def qO(n:Nat):QI (Dd n)=n:=by
 induction n using Nat.strongRecOn with
 | ind n ih =>
  rw[N4];unfold QI;by_cases h0:n / 26=0
  ·rw[if_pos h0];unfold QI;omega
  ·rw[if_neg h0,ih (n / 26) (by omega)];omega
def Ep(n:Nat):Str:=⟨(Dd n).toArray⟩
def WH(n:Nat):(Ep n).cps.toList=Dd n:=by simp[Ep]
def qP{a b:Nat}(h:Ep a=Ep b):a=b:=by
 have:=congrArg (λs:Str=>QI s.cps.toList) h;simpa[WH,qO]using this
def qN(n:Nat):1<=(Dd n).length:=by rw[N4];simp
def WI{n:Nat}(h:n<26 ^ 8):Bj (Ep n)=true:=by
 rw[L1,WH];exact⟨⟨qN n,WD 7 n h⟩,qM n⟩
def l_(j:Int)(n:Nat)(h:0<=j):Builtin.Str.strSliceIndices none (some j) 1 n=List.range (min j.toNat n):=by
 unfold Builtin.Str.strSliceIndices sliceRange;have h1:¬ j<0:=by omega
 simp only[show(1:Int) > 0 by decide,if_true,if_neg h1];have e:(max (0:Int) (min j (n:Int)))=((min j.toNat n:Nat):Int):=by omega
 rw[e];have e2:(if(0:Int)<((min j.toNat n:Nat):Int)then(((min j.toNat n:Nat):Int) - 0 + 1 - 1) / 1 else 0)=((min j.toNat n:Nat):Int):=by
  split
  ·rw[Int.ediv_one];omega
  ·omega
 rw[e2,Yq];have:∀ l:LN,l.map (λ(k:Nat)=>((0:Int) + 1 * (k:Int)).toNat)=l:=λl=>by
  conv=>rhs;rw[<- List.map_id l]
  refine Ki λk _=>?_;show _=k;omega
 exact this _
theorem dR(l:LN):∀ m,m<=l.length->(List.range m).filterMap (λi=>l.toArray[i]?)=l.take m
 | 0,_=>by simp
 | m + 1,h=>by
  rw[List.range_succ,List.filterMap_append,dR l m (by omega),B9];have:m<l.length:=h;simp[this]
def cu(x:Str)(j:Int)(h:0<=j):(Txt.slice x none (some j)).cps.toList=x.cps.toList.take j.toNat:=by
 unfold Txt.slice;rw[l_ j x.length h];have hl:=H_ x;split
 ·rename_i hc
  have:min j.toNat x.length=x.length:=by simpa using hc
  rw[Kc (by omega)]
 ·have q:=dR x.cps.toList (min j.toNat x.length) (by omega);have e:x.cps.toList.toArray=x.cps:=by simp
  rw[e]at q;show((List.range (min j.toNat x.length)).filterMap (x.cps[·]?)).toArray.toList=_;rw[List.toList_toArray,q];by_cases hj:j.toNat<=x.length
  ·rw[QJ hj]
  ·rw[Nat.min_eq_right (by omega),Kc (by omega),Kc (by omega)]
def DM(o:HO):Prop:=∃ r b:Int,o=.lst [.int r,.int b]/\0<=r/\r<10 ^ 256/\0<=b/\b<2147483647
structure Drawn(p:Addr)(H H':Hp):Prop where
 keep:∀ b o,b≠p->H b=some o->H' b=some o
 pot:∃ o,H' p=some o/\DM o
def Drawn.refl{p:Addr}{H:Hp}(h:∃ o,H p=some o/\DM o):Drawn p H H:=⟨λ_ _ _ e=>e,h⟩
def Drawn.trans{p:Addr}{H H1 H2:Hp}(a:Drawn p H H1)(b:Drawn p H1 H2):Drawn p H H2:=⟨λc o hc e=>b.keep c o hc (a.keep c o hc e),b.pot⟩
theorem Drawn.upd{p:Addr}{H:Hp}{o:HO}(h:DM o):Drawn p H (L2.upd H p o):=⟨λb u hb e=>by rw[AD hb];exact e,_,uS,h⟩
def Drawn.new{p q:Addr}{H H':Hp}{o:HO}(d:Drawn p H H')(hq:H' q=none):Drawn p H (L2.upd H' q o):=
 ⟨λb u hb e=>by rw[AD (AH (d.keep b u hb e) hq)];exact d.keep b u hb e,by
  obtain⟨u,h1,h2⟩:=d.pot;exact⟨u,by rw[AD (AH h1 hq)];exact h1,h2⟩⟩
def Drawn.same{p:Addr}{H H1 H2:Hp}(d:Drawn p H H1)(s:AA H1 H2):Drawn p H H2 :=
 ⟨λb u hb e=>s _ _ (d.keep b u hb e),by obtain⟨u,h1,h2⟩:=d.pot;exact⟨u,s _ _ h1,h2⟩⟩
def Drawn.sub{p q:Addr}{H H1 H2:Hp}{o':HO}(d:Drawn p H H1)(k:∀ b o,b≠q->H1 b=some o->H2 b=some o)(hq:H q=none)(hp:p≠q):Drawn p H H2 :=
 ⟨λb u hb e=>k _ _ (AH e hq) (d.keep b u hb e),by obtain⟨u,h1,h2⟩:=d.pot;exact⟨u,k _ _ hp h1,h2⟩⟩
def _root_.L2.SqL.mono_new{K:Fg}{H:Hp}{a q:Addr}{xs:LV}{o:HO}(h:SqL K H a xs)(hq:H q=none):SqL K (L2.upd H q o) a xs :=
 AA.seq (λb u e=>by rw[AD (AH e hq)];exact e) h
def CZ{n:Nat}(h:n<=100000):n<sizeLine:=by rw[sizeLine_eq];omega
def O_:List Expr->Option (LS)
 | []=>some []
 | .Constant (.str x) _ _ :: r=>(O_ r).map (x :: ·)
 | _=>none
def oH{X:Cx}:∀ {es:List Expr}{ws:LS},O_ es=some ws->PA X es (λ_ H Q=>Q (ws.map V.str) H):=by
 intro es
 induction es with
 | nil =>
  intro ws h;have e:ws=[]:=(Ba h).symm;subst e;exact AB
 | cons e r ih =>
  intro ws h;cases e with
  | Constant c j p =>
   cases c with
   | str x =>
    have h':(O_ r).map (x :: ·)=some ws:=h;obtain⟨vs,h1,h2⟩:=IJ.mp h';subst h2;exact pC EU (ih h1) rfl
   | _=>exact nomatch (show(none:Option (LS))=some ws from h)
  | _=>exact nomatch (show(none:Option (LS))=some ws from h)
theorem J7(x:Str):∀ ws:LS,EJ (.str x) (ws.map V.str)=decide (x∈ws)
 | []=>rfl
 | w :: r=>by
  have ih:=J7 x r;unfold EJ at ih ⊢;rw[Yo,Ke,ih];show((w == x) || decide (x∈r))=decide (x∈w :: r);rw[HP];simp only[Bool.or_eq_true,beq_iff_eq,decide_eq_true_eq,Yw];constructor
  ·rintro(h | h)
   ·exact .inl h.symm
   ·exact .inr h
  ·rintro(h | h)
   ·exact .inl h.symm
   ·exact .inr h
def Lu(ws:LS):(ws.map V.str).all Iq=true:=by
 rw[Cr];intro v hv;obtain⟨w,_,e⟩:=Yg.mp hv;rw[<- e];rfl
theorem Ga{K:Fg}{H:Hp}:∀ ws:LS,A1 K H (ws.map V.str) (ws.map W.Dat.str)
 | []=>.nil
 | w :: r=>.cons (.str w) (Ga r)
def QB(H:Hp)(r:Str×LS)(v:V):Prop:=∃ t u,v=.ref t/\H t=some (.tup [.str r.1,.ref u])/\H u=some (.tup (r.2.map V.str))
def HF(H:Hp)(l:Addr)(rows:RS):Prop:=∃ vs,H l=some (.lst vs)/\Paired (QB H) rows vs
structure AR(rows:RS):Prop where
 ne:1<=rows.length
 le:rows.length<=24
 word:∀ r∈rows,Bj r.1=true
 nd:(rows.map (·.1)).Nodup
 few:∀ r∈rows,r.2.length<=8
 known:∀ r∈rows,∀ u∈r.2,u∈rows.map (·.1)
 upnd:∀ r∈rows,r.2.Nodup
 rank:∃ rk:Str->Nat,∀ r∈rows,∀ u∈r.2,rk u<rk r.1
def Iw(ws:LS)(uf:List (LN))(os:LN):RS:=os.map λj=>(ws.getD j "",(uf.getD j []).map λi=>ws.getD i "")
def uK{ws:LS}{uf:List (LN)}{os:LN}{m:Nat}(LF:1<=m)(hm:m<=24)(hw:∀ x∈ws,Bj x=true)(hn:ws.Nodup)(hl:ws.length=m)(hu:∀(k:Nat) (js:LN),uf[k]?=some js->(∀ j∈js,j<k)/\js.Nodup/\js.length<=8)(hul:uf.length=m)
  (on:os.Nodup) (om:∀ j,j∈os↔j<m) (ol:os.length=m):AR (Iw ws uf os):=by
 have at_:∀ {j:Nat},j<m->ws.getD j ""∈ws/\ws[j]?=some (ws.getD j ""):=λ{j} h=>by
  have hj:j<ws.length:=by omega
  rw[Yh,Yb hj];exact⟨KU hj,Y⟩
 have inj:∀ {i j:Nat},i<m->j<m->ws.getD i ""=ws.getD j ""->i=j:=λ{i j} hi hj e=>by
  have a:=(at_ hi).2;have b:=(at_ hj).2;rw[e]at a;exact Nk hn a b
 have ups:∀ {j:Nat},j<m->∃ js,uf.getD j []=js/\(∀ i∈js,i<j)/\js.Nodup/\js.length<=8:=λ{j} h=>by
  have hj:j<uf.length:=by omega
  have e:uf[j]?=some (uf.getD j []):=by rw[Yh,Yb hj];rfl
  exact⟨Z,hu j _ e⟩
 have mem:∀ {r:Str×LS},r∈Iw ws uf os->∃ j,j<m/\r=(ws.getD j "",(uf.getD j []).map λi=>ws.getD i ""):=λ{r} h=>by
  obtain⟨j,hj,e⟩:=Yg.mp h;exact⟨j,(om j).mp hj,e.symm⟩
 have words:(Iw ws uf os).map (·.1)=os.map λj=>ws.getD j "":=by
  unfold Iw;rw[Bo];rfl
 refine⟨by unfold Iw;rw[Ya];omega,by unfold Iw;rw[Ya];omega,λr hr=>?_,?_,λr hr=>?_,λr hr u BJ=>?_,λr hr=>?_,λx=>ws.idxOf x,λr hr u BJ=>?_⟩
 ·obtain⟨j,hj,rfl⟩:=mem hr;exact hw _ (at_ hj).1
 ·rw[words,Fo,Ka];refine(Fo.mp on).imp_of_mem λ{a b} ha hb h e=>h (inj ((om a).mp ha) ((om b).mp hb) e)
 ·obtain⟨j,hj,rfl⟩:=mem hr;obtain⟨js,e,_,_,h8⟩:=ups hj;show((uf.getD j []).map λi=>ws.getD i "").length<=8;rw[Ya,e];exact h8
 ·obtain⟨j,hj,rfl⟩:=mem hr;obtain⟨i,hi,e⟩:=Yg.mp BJ;obtain⟨js,e',hb,_⟩:=ups hj;rw[e']at hi;have hij:=hb i hi;rw[words];exact Yg.mpr ⟨i,(om i).mpr (by omega),e⟩
 ·obtain⟨j,hj,rfl⟩:=mem hr;obtain⟨js,e',hb,hnd,_⟩:=ups hj;show((uf.getD j []).map λi=>ws.getD i "").Nodup;rw[e',Fo,Ka];refine(Fo.mp hnd).imp_of_mem λ{a b} ha Uo h e=>h (inj (by have:=hb a ha;omega) (by have:=hb b Uo;omega) e)
 ·obtain⟨j,hj,rfl⟩:=mem hr;obtain⟨i,hi,e⟩:=Yg.mp BJ;obtain⟨js,e',hb,_⟩:=ups hj;rw[e']at hi;have hij:=hb i hi;have ix:∀ {j:Nat},j<m->ws.idxOf (ws.getD j "")=j:=λ{j} h=>by
   have a:=(at_ h).1;have lt:ws.idxOf (ws.getD j "")<ws.length:=List.idxOf_lt_length_iff.mpr a;have g:ws[ws.idxOf (ws.getD j "")]?=some (ws.getD j ""):=by rw[Yb lt,Tn lt]
   exact Nk hn g (at_ h).2
  show ws.idxOf u<ws.idxOf (ws.getD j "");rw[<- e,ix hj,ix (by omega)];exact hij
end Md
namespace L2
open PySem PySem.Spec PyProof.Rows
section
variable {X:Cx}{tg:Expr}
def EF(K:Fg)(b:Bool)(H:Hp)(a:Addr)(xs:LV):Prop:=if b=true then SqL K H a xs else AL K H a xs
def EF.mono{K:Fg}{b:Bool}{H H':Hp}{a:Addr}{xs:LV}(h:EF K b H a xs)(s:AA H H'):EF K b H' a xs:=by
 cases b with
 | true=>exact s.seq (show SqL K H a xs from h)
 | false=>exact s.tup (show AL K H a xs from h)
def T6(K:Fg)(b:Bool)(a:Addr)(xs:LV):It:=⟨λi H=>i<xs.length/\EF K b H a xs,λi H x H'=>H'=H/\xs[i]?=some x,λi H=>xs.length<=i/\EF K b H a xs⟩
def aU{K:Fg}{b:Bool}{a:Addr}{xs:LV}:F5 (T6 K b a xs) xs (λH=>EF K b H a xs) where
 go:=λi x H ok hx=>⟨(Ye.mp hx).1,ok⟩
 yld:=λi x H y H' ok hx h=>by
  obtain⟨e,h⟩:=h;rw[hx]at h;exact⟨(Ba h).symm,e⟩
 stop:=λH ok=>⟨Yf _,ok⟩
def Fb.imp{P:Program}{w:World}{K:Fg}{tg:Expr}{J J':It}{fp:List Addr}{it:Addr}{tn:Nat->Heap->Prop}(T:Fb P w K tg J fp it tn)(hgo:∀ i H,J'.go i H->J.go i H)
  (hy:∀ i H x H',J'.go i H->J.yld i H x H'->J'.yld i H x H') (hs:∀ i H,J'.stop i H->J.stop i H):Fb P w K tg J' fp it tn where
 mem:=T.mem
 obj:=T.obj
 keep:=T.keep
 item:=λX h1 h2 h3 h4 i pins s σ H E I hf st g=>AM (T.item X h1 h2 h3 h4 i pins s σ H E I hf st (hgo i H g)) λr s1 ⟨u,e,h⟩=>⟨u,e,AM h λ_ s2 ⟨x,H',I',r',y,t,f⟩=>⟨x,H',I',r',hy i H x H' g y,t,f⟩⟩
 done:=λX h1 h2 h3 h4 i pins s σ H E I hf st g=>T.done X h1 h2 h3 h4 i pins s σ H E I hf st (hs i H g)
 self:=T.self
def vm(K:Fg)(tl:TE):TI:=λσ H R=>tl σ H λx H1=>∃ b a xs,x=.ref a/\EF K b H1 a xs/\R (T6 K b a xs) H1
def iS{l:Expr}{tl:TE}(hl:PE X l tl):PI X tg l (vm X.K tl):=by
 intro pins s σ H R I h;refine AM (hl pins s σ H _ I h) λv s1 ⟨x,H1,I1,r1,q1⟩=>?_;obtain⟨b,a,xs,e,hq,q⟩:=q1;subst e;cases r1;have fp:∀ b∈[s1.heap.objs.size],Br X pins H1 b:=λb hb=>by
  have e:b=s1.heap.objs.size:=by simpa using hb
  subst e;exact I1.fpOk (Yf _) (I1.hok.fresh (Yf _))
 have get:∀ {i:Nat} {ys:LV},i<ys.length->∃ y,ys[i]?=some y:=λ{i ys} h=>⟨ys[i],by simp[h]⟩;cases b with
 | true =>
  have hq:SqL X.K H1 a xs:=hq;obtain⟨its,rv,p,hz⟩:=I1.list hq;refine wpAny_pyIter_list p.isList ?_;refine⟨s1.heap.objs.size,[s1.heap.objs.size],_,T6 X.K true a xs,H1,Y,I1.kept (t':=s1.toks) λb o e=>Yd _ e,(bt a _).imp (λi H g=>?_) (λi H x H' g y=>⟨y.1,y.2 xs g.2⟩) (λi H g=>⟨xs,g.2,g.1⟩),⟨_,Yk _ rfl,Y,Y⟩,fp,q⟩;obtain⟨y,hy⟩:=get g.1;exact⟨xs,y,g.2,hy⟩
 | false =>
  have hq:AL X.K H1 a xs:=hq;obtain⟨its,rv,p,hz⟩:=I1.tuple hq;refine wpAny_pyIter_tuple (show s1.heap.IsTuple a its.toArray from p) ?_;refine⟨s1.heap.objs.size,[s1.heap.objs.size],_,T6 X.K false a xs,H1,Y,I1.kept (t':=s1.toks) λb o e=>Yd _ e,(c0 a _).imp (λi H g=>?_) (λi H x H' g y=>⟨y.1,y.2 xs g.2⟩) (λi H g=>⟨xs,g.2,g.1⟩),⟨_,Yk _ rfl,Y,Y⟩,fp,q⟩;obtain⟨y,hy⟩:=get g.1;exact⟨xs,y,g.2,hy⟩
def rR(to:TE):TI:=λσ H R=>to σ H λx H1=>∃ a ob kvs,x=.ref a/\H1 a=some (.frz ob (.dK kvs))/\R (W8 a ob kvs) H1
def u3{o:Expr}{to:TE}{apos Ac:Pos}(ho:PE X o to)(Ck:attributeBase o "values" X.env (eval o X.env)=eval o X.env:=by rfl)(Cj:(apos.endLine == Ac.line)=true:=by rfl):
  PI X tg (.Call (.Attribute o "values" apos) [] [] Ac) (rR to):=by
 intro pins s σ H R I h;refine wpAny_Call_method0_late Ck Cj (AM (ho pins s σ H _ I h) λv s1 ⟨x,H1,I1,r1,q1⟩=>?_);obtain⟨a,ob,kvs,e,ha,q⟩:=q1;subst e;obtain rfl:v=Value.ref a:=r1;obtain⟨t1,t2,t3⟩:=rf I1 (.inl ⟨kvs,.inr ⟨ob,ha⟩⟩);obtain⟨es,ep,hd⟩:=aH (I1.hok a _ ha);obtain⟨hs,vs,r,dd⟩:=Ni (I1.hok a _ ha) hd;have hl:kvs.length=vs.length:=Bl r;refine⟨"dict","dict.values",PySem.F.plainAttrs_dict,PySem.F.slot_dict_values,PySem.F.type_dict_values,t1,t2,Calls.callWith_builtin rfl (PySem.evalArgs_none ?_)⟩;refine call_meetsIn PySem.F.slot_dict_values t1 PySem.F.entry_dict_values (PySem.F.args_dict_values_1 _) (meets_dict_values (Cq X.prog X.w) a t3) ⟨⟨vs,dd.dictOf⟩,?_⟩;have I2:Inv X pins σ H1 {s1 with heap:=s1.heap.push {cls:=.type "dict_values",data:=.fields #[.ref a] } }:=I1.kept (t':=s1.toks) λb o e=>Yd _ e;refine wpAny_pyIter_values (kvs:=vs) (ep:=ep) (knd:=Cq X.prog X.w) ⟨_,Yk _ rfl,Y,Y⟩ (dd.at' λo e=>Yd _ e) ?_;refine⟨_,[_],_,_,H1,Y,I2.kept (t':=s1.toks) λb o e=>Yd _ e,oM a _ ob kvs es ep hd,⟨_,Yk _ rfl,Y,by rw[hl];rfl⟩,λb hb=>?_,q⟩;have e:b=_:=Yj.mp hb;subst e;exact I2.fpOk (Yf _) (I2.hok.fresh (Yf _))
def dZ(hc:X.calm=true):Ff X (.type "list") (λxs H Q=>∃ a kvs,xs=[.ref a]/\Rd H a (.dK kvs)/\∀ l,H l=none->Q (.ref l) (upd H l (.lst (kvs.map λp=>kV p.1)))):=by
 intro pins s σ H xs us Q I r h;obtain⟨a,kvs,rfl,ha,q⟩:=h;obtain⟨u,rfl,ru⟩:=F7 r;cases ru;obtain⟨hz,hs,vs,rv,o,es,ep,h1,h2,h3,h4,h5,h6⟩:=LP I.hok ha;have hl:kvs.length=vs.length:=Bl rv;have dd:s.heap.DictAt (Cq X.prog X.w) a vs ep:=⟨o,es,h1,h2,h3,h4,h5,h6⟩;refine W.kdl_call (W.kdl_dict (knd:=Cq X.prog X.w) (kvs:=vs) (ep:=ep) hs) (I.ok.hd hc) dd (by rw[<- hl];exact hz) λh' tk Fx c' hk Up Ey=>?_;obtain⟨a1,a2⟩:=Ey;refine⟨.ref _,_,I.laid (o:=.lst (kvs.map λp=>kV p.1)) hk (Yf _) ⟨by rw[Ya];exact hz,Fx.toList,c',?_,by simpa using Up⟩,Y,q _ (I.hok.fresh (Yf _))⟩;refine VZ (by have z:Fx.toList.length=Fx.size:=JJ;rw[Ya];omega) λi v u hv hu=>?_;rw[Yi]at hv;obtain⟨p,hp,e⟩:=IJ.mp hv;obtain⟨w',hw,_⟩:=rv.get hp;obtain⟨k,x,FW,j7⟩:=a2 i u (by rw[<- QN];exact hu);rw[hw]at FW;injection FW with FW;injection FW with FW _;rw[<- e,FW];exact iV j7
def BM.f{H:Hp}{a:Addr}{o:Obj}{kvs:KL}{k:Key}(e:H a=some (.frz o (.dK kvs))):BM H a (kV k) (A2 kvs k):=.inl ⟨kvs,k,.inr ⟨o,e⟩,Y,Y⟩
end
end L2
namespace Md
open PySem L2
def WS(K:Fg)(H:Hp)(u:Addr)(us:LS):Prop:=H u=some (.tup (us.map V.str))\/SqL K H u (us.map V.str)
def WS.sq{K:Fg}{H:Hp}{u:Addr}{us:LS}(h:WS K H u us):∃ b,EF K b H u (us.map V.str):=by
 rcases h with h | h
 ·exact⟨false,AL.of h⟩
 ·exact⟨true,h⟩
def va(K:Fg)(H:Hp)(r:Str×LS)(v:V):Prop:=∃ t u,v=.ref t/\AL K H t [.str r.1,.ref u]/\WS K H u r.2
def Wc(K:Fg)(H:Hp)(l:Addr)(rows:RS):Prop:=∃ b vs,EF K b H l vs/\Paired (va K H) rows vs
def HF.g{K:Fg}{H:Hp}{l:Addr}{rows:RS}(h:HF H l rows):Wc K H l rows:=by
 obtain⟨vs,a,p⟩:=h;refine⟨true,vs,SqL.of a,Paired.mapP p λr v z=>?_⟩;obtain⟨t,u,e,h1,h2⟩:=z;exact⟨t,u,e,AL.of h1,.inl h2⟩
theorem C0{α β:Type}{F:α->β->Prop}:∀ {l:List α}{k:List β},Paired F l k->∀ {i:Nat}{b:β},k[i]?=some b->∃ a,l[i]?=some a/\F a b
 | _,_,.nil,i,b,h=>by simp at h
 | _,_,.cons r t,0,b,h=>by simp at h;subst h;exact⟨Z,r⟩
 | _,_,.cons r t,i + 1,b,h=>by
  obtain⟨a,h1,h2⟩:=C0 t (i:=i) (b:=b) (by simpa using h);exact⟨a,by simpa using h1,h2⟩
def HN{kvs:KL}{k:Key}(h:k∉kvs.map (·.1)):A2 kvs k=none:=by
 cases e:A2 kvs k with
 | none=>rfl
 | some v=>exact absurd (Zy e) h
def Vu{kvs:KL}{k:Key}{v:V}(h:k∉kvs.map (·.1)):(BU kvs k v).map (·.1)=kvs.map (·.1)++[k]:=by
 rw[Nm v (HN h),CD];rfl
def Pe{rows:RS}{i:Nat}{r:Str×LS}(nd:(rows.map (·.1)).Nodup)(h:rows[i]?=some r):(Sum.inr r.1:Key)∉(rows.take i).map λr=>(Sum.inr r.1:Key):=by
 intro m;obtain⟨q,hq,e⟩:=Yg.mp m;have e:q.1=r.1:=by injection e
 obtain⟨j,hj,ej⟩:=Kk.mp hq;rw[Yx]at hj;have j8:rows[j]?=some q:=by
  rw[OG]at ej;rw[Yb (by omega),ej]
 have a:(rows.map (·.1))[j]?=some r.1:=by rw[Yi,j8,<- e];rfl
 have b:(rows.map (·.1))[i]?=some r.1:=by rw[Yi,h];rfl
 have:=Nk nd a b;omega
def Dm(H:Hp)(rows:RS)(kvs:KL):Prop:=Paired (λr (p:Key×V)=>p.1=Sum.inr r.1/\∃ t,p.2=.ref t/\H t=some (.tup (r.2.map V.str))) rows kvs
def Dm.mono{H H':Hp}{rows:RS}{kvs:KL}(h:Dm H rows kvs)(s:∀ b xs,H b=some (.tup xs)->H' b=some (.tup xs)):Dm H' rows kvs :=
 Paired.mapP h λ_ _ z=>⟨z.1,let⟨t,e,x⟩:=z.2;⟨t,e,s _ _ x⟩⟩
theorem Dm.keys:∀ {H:Hp}{rows:RS}{kvs:KL},Dm H rows kvs->kvs.map (·.1)=rows.map λr=>(Sum.inr r.1:Key)
 | _,_,_,.nil=>rfl
 | _,_,_,.cons r t=>by rw[Yo,Yo,r.1,Dm.keys t]
def Ag(rows:RS)(x:Str):LS:=(rows.lookup x).getD []
def Nn{rows:RS}(nd:(rows.map (·.1)).Nodup){r:Str×LS}(h:r∈rows):Ag rows r.1=r.2:=by
 unfold Ag
 induction rows with
 | nil=>cases h
 | cons q rs ih =>
  have FQ:(q.1 :: rs.map (·.1)).Nodup:=nd;obtain⟨n1,n2⟩:=Ed.mp FQ;obtain⟨a,b⟩:=q;rw[C9]
  rcases Yw.mp h with e | h
  ·subst e;simp
  ·have ne:(r.1 == a)=false:=by
    rw[beq_eq_false_iff_ne];intro e;exact n1 (Yg.mpr ⟨r,h,e⟩)
   rw[ne];exact ih n2 h
theorem Dm.val:∀ {H:Hp}{rows:RS}{kvs:KL},Dm H rows kvs->(rows.map (·.1)).Nodup->∀ {r:Str×LS},r∈rows->∃ t,A2 kvs (Sum.inr r.1)=some (.ref t)/\H t=some (.tup (r.2.map V.str))
 | _,_,_,.nil,_,r,h=>nomatch h
 | _,q :: rs,p :: ps,.cons z t,nd,r,h=>by
  have FQ:(q.1 :: rs.map (·.1)).Nodup:=nd;obtain⟨n1,n2⟩:=Ed.mp FQ;obtain⟨z1,u,z2,z3⟩:=z
  rcases Yw.mp h with e | h
  ·subst e;exact⟨u,by rw[FE z1,z2],z3⟩
  ·have ne:¬ p.1=(Sum.inr r.1:Key):=λe=>n1 (by
    rw[z1]at e;have e':q.1=r.1:=by injection e
    rw[e'];exact Yg.mpr ⟨r,h,Y⟩)
   obtain⟨u',h1,h2⟩:=Dm.val t n2 h;exact⟨u',by rw[FD ne];exact h1,h2⟩
def NQ{H:Hp}{rows:RS}{kvs:KL}(h:Dm H rows kvs):(kvs.map λp=>kV p.1)=(rows.map (·.1)).map V.str:=by
 have e:(kvs.map λp=>kV p.1)=(kvs.map (·.1)).map kV:=by rw[Bo];rfl
 rw[e,h.keys,Bo,Bo];rfl
end Md
namespace L2
open PySem PySem.Spec PyProof.Rows
section
variable {X:Cx}{pins:PL}{σ:St}{H H':Hp}{s:Shared}{h':Heap}
end
section
variable {X:Cx}
def gs(K:Fg):R2:=λx y H Q=>∃ a b xs ys,x=.ref a/\y=.ref b/\AL K H a xs/\AL K H b ys/\xs.length + ys.length<=sizeLine /\
 (xs=[]->Q (.ref b) H)/\(xs≠[]->ys=[]->Q (.ref a) H)/\(xs≠[]->ys≠[]->∀ p,H p=none->Q (.ref p) (upd H p (.tup (xs++ys))))
def ur:Bb X (binaryOp .Add) (gs X.K):=by
 exfalso;obtain⟨a,b,xs,ys,rfl,rfl,ha,hb,hz,q0,q1,q2⟩:=h;by_cases hx:xs=[]
 ·cases rx;cases ry;obtain⟨its,r1,p1,_⟩:=I.tuple ha;obtain⟨C2,r2,p2,_⟩:=I.tuple hb;have e:its=[]:=r1.nil_iff.mpr hx;obtain⟨⟨cls,dd,data,sl⟩,ho,hc,n,hd⟩:=id p1;obtain⟨⟨Qx,G6,data2,Gr⟩,CA,Cm,n2,hd2⟩:=id p2;simp only at hc hd Cm hd2;subst hc hd Cm hd2;exact concat_meets ⟨_,ho,Y⟩ ⟨_,CA,Y⟩ noFill_tuple_add seq_tuple_add PySem.F.slot_tuple_add Wq (Wv _ _)
   (tuple_addW0 a b its.toArray C2.toArray n n2 dd G6 sl Gr (by simp[e])) ⟨ho,CA,⟨.ref b,H,I,Y,q0 hx⟩⟩
 ·exact uu pins s σ H _ _ v u Q I rx ry ⟨a,b,xs,ys,Y,Y,ha,hb,hx,hz,q1 hx,q2 hx⟩
end
section
variable {X:Cx}{pins:PL}{σ:St}{H:Hp}{s:Shared}{h':Heap}
end
section
variable {X:Cx}
end
section
variable {X:Cx}
end
section
variable {prog:Program}{w:World}{A:Around}{E:EV}{s:Shared}
def N1{p t:Addr}{k:Nat}{us:Array Value}{u:Value}{Q:EV}(hp:s.heap.IsTupleIter p t k)(ht:s.heap.IsTuple t us)(hu:us[k]?=some u)
  (q:∀ g,g.IsTupleIter p t (k + 1)->Heap.SameBut p s.heap g->Q u {s with heap:=g}):wpAny (model prog w) A (Builtin.SmallTypes.nextOf (.ref p)) Q E s:=by
 obtain⟨ob,h1,h2,h3⟩:=id hp;obtain⟨ot,h4,_,nt,h5⟩:=ht;unfold Builtin.SmallTypes.nextOf;refine Ja (wpAny_callSpecial?_slot (name:=Str.ofString "__next__") hp.typeIs Tu (wpAny_call_entry Tu hp.typeIs PySem.F.entry_tuple_iterator_next ?_ (PySem.F.args_tuple_iterator_next_1 _)));show wpAny _ _ (field (.ref p) 0>>=_) _ _ s;refine Ja (Jg h1 h3 (x:=.ref t) rfl ?_);show wpAny _ _ (if(Value.ref t == Value.none)=true then _ else _) _ _ s;rw[if_neg (show ¬ ((Value.ref t == Value.none)=true)from Ym)];show wpAny _ _ (field (.ref p) 1>>=_) _ _ s;refine Ja (Jg h1 h3 (x:=.int k 0) rfl ?_);show wpAny _ _ (seqItems? (.ref t)>>=_) _ _ s;refine Ja (wpAny_seqItems h4 h5 ?_);simp only[Yq,hu];refine Ja (wpAny_setField h1 h3 (by simp) (Jd ⟨u,Y,Jd (q _ ?_ (ON ..))⟩));exact⟨_,Heap.get?_update_self _ h1 (Obj.isFreed_of_fields (Obj.data_mapFields h3 _)),(Obj.cls_mapFields ..).trans h2,by rw[Obj.data_mapFields h3];simp[rawInt]⟩
def Pn{p t:Addr}{k:Nat}{us:Array Value}{Q:EV}(hh:A.handled=none)(hp:s.heap.IsTupleIter p t k)(ht:s.heap.IsTuple t us)(hu:us[k]?=none)
  (q:∀ g e,Heap.ExtBut p s.heap g->(∃ o,g.get? e=some o/\o.cls=.type "StopIteration")->E (.ref e) {s with heap:=g}):wpAny (model prog w) A (Builtin.SmallTypes.nextOf (.ref p)) Q E s:=by
 obtain⟨ob,h1,h2,h3⟩:=id hp;obtain⟨ot,h4,_,nt,h5⟩:=ht;unfold Builtin.SmallTypes.nextOf;refine Ja (wpAny_callSpecial?_slot (name:=Str.ofString "__next__") hp.typeIs Tu (wpAny_call_entry Tu hp.typeIs PySem.F.entry_tuple_iterator_next ?_ (PySem.F.args_tuple_iterator_next_1 _)));show wpAny _ _ (field (.ref p) 0>>=_) _ _ s;refine Ja (Jg h1 h3 (x:=.ref t) rfl ?_);show wpAny _ _ (if(Value.ref t == Value.none)=true then _ else _) _ _ s;rw[if_neg (show ¬ ((Value.ref t == Value.none)=true)from Ym)];show wpAny _ _ (field (.ref p) 1>>=_) _ _ s;refine Ja (Jg h1 h3 (x:=.int k 0) rfl ?_);show wpAny _ _ (seqItems? (.ref t)>>=_) _ _ s;refine Ja (wpAny_seqItems h4 h5 ?_);simp only[Yq,hu];refine Ja (wpAny_rule (Ja (wpAny_setField h1 h3 (by simp) ?_)));show wpAny _ _ (newExc (.type "StopIteration") []>>=_) _ _ _;refine Ja ?_;simp only[newExc,newTuple];refine Ja (wpAny_newObj_type ?_ (by size_fits));refine Ja (m:=firstArgMember _ _) (wpAny_of_eq (a:=Value.none) (by first | rfl | (simp only[firstArgMember];rfl)) ?_);refine wpAny_newObj_type ?_ (by size_fits);simp only[raiseNew];refine Ja (wpAny_handled ?_)
 first | rw[show A.in1.handled=none from hh] | rw[hh]
 refine Ja (Jd (wpAny_throw ?_));exact q _ _ (((ON ..).extBut.push _).push _) ⟨_,Yk _ rfl,Y⟩
structure Gf(h:Heap)(z ti to i1 i2 l1 l2:Addr)(k:Nat)(f:Value):Prop where
 z:IsZip h z ti to f
 ti:IsPair h ti (.ref i1) (.ref i2)
 to:∃ a b,IsPair h to a b
 i1:h.IsTupleIter i1 l1 k
 i2:h.IsTupleIter i2 l2 k
theorem Gf.at{h h':Heap}{z ti to i1 i2 l1 l2:Addr}{k:Nat}{f:Value}(x:Gf h z ti to i1 i2 l1 l2 k f)(e:∀ b∈[z,ti,to,i1,i2],∀ o,h.get? b=some o->h'.get? b=some o):Gf h' z ti to i1 i2 l1 l2 k f :=
 ⟨e z (by simp) _ x.z,e ti (by simp) _ x.ti,let⟨a,b,y⟩:=x.to;⟨a,b,e to (by simp) _ y⟩,x.i1.at λo q=>e i1 (by simp) o q,x.i2.at λo q=>e i2 (by simp) o q⟩
def oU{z ti to i1 i2 l1 l2:Addr}{k:Nat}{xs ys:Array Value}{x y:Value}{Q:EV}(D:ZipApart z ti to i1 i2 l1 l2)(st:Gf s.heap z ti to i1 i2 l1 l2 k .none)
  (t1:s.heap.IsTuple l1 xs) (t2:s.heap.IsTuple l2 ys) (hx:xs[k]?=some x) (hy:ys[k]?=some y)
  (q:∀ g,Gf g z ti to i1 i2 l1 l2 (k + 1) (rawInt s.heap.objs.size)->IsPair g s.heap.objs.size x y->(∀ c o,c≠z->c≠to->c≠i1->c≠i2->s.heap.get? c=some o->g.get? c=some o)->Q (.ref s.heap.objs.size) {s with heap:=g}):
  wpAny (model prog w) A (Builtin.«zip.__next__» ⟨[.ref z],[]⟩) (λfin s'=>∃ v,fin=.done (.ret v)/\Q v s') E s:=by
 obtain⟨hz,hti,⟨a,b,hto⟩,E6,Ct⟩:=st;show wpAny _ _ (field (.ref z) 2>>=_) _ _ _;refine Ja (Jg hz rfl (x:=.bool false) rfl ?_);show wpAny _ _ (field (.ref z) 3>>=_) _ _ _;refine Ja (Jg hz rfl (x:=.ref ti) rfl (Ja (wpAny_seqItems hti rfl ?_)));show wpAny _ _ (Builtin.SmallTypes.ownedTupleIsFree (.ref z)>>=_) _ _ _;refine Ja ?_;unfold Builtin.SmallTypes.ownedTupleIsFree;refine Ja (Jg hz rfl (x:=.none) rfl (Jd ?_));simp only[if_true];refine Ja (wpAny_rule (Ja (Jg hz rfl (x:=.ref to) rfl (Ja (wpAny_setField_rec hz (by simp) λg1 z1 e1=>?_)))));replace z1:IsZip g1 z ti to .ellipsis:=z1;refine Ja ?_;simp only[List.zipIdx_cons,List.zipIdx_nil,MT,List.forIn_nil];refine Ja (Ja (wpAny_onRaise ?_));show wpAny _ _ (Builtin.SmallTypes.nextOf (.ref i1)>>=_) _ _ _;refine Ja (N1 (E6.extBut e1.extBut D.i1z) (t1.extBut e1.extBut D.l1z) hx λg2 j1 e2=>Jd ?_);have to2:IsPair g2 to a b:=e2.extBut _ _ D.TOi1 (e1.extBut _ _ D.TOz hto);refine Ja (wpAny_seqItems to2 rfl (Ja (wpAny_updateSeq_pair to2 λg3 to3 e3=>?_)));replace to3:IsPair g3 to x b:=to3;refine Ja (wpAny_letGo (Jd (Ja (Ja (wpAny_onRaise ?_)))));show wpAny _ _ (Builtin.SmallTypes.nextOf (.ref i2)>>=_) _ _ _;refine Ja (N1 (((Ct.extBut e1.extBut D.i2z).extBut e2.extBut D.i12.symm).extBut e3.extBut D.TOi2.symm) (((t2.extBut e1.extBut D.l2z).extBut e2.extBut D.l2i1).extBut e3.extBut D.l2TO) hy λg4 j2 e4=>Jd ?_);have OQ:IsPair g4 to x b:=e4.extBut _ _ D.TOi2 to3;refine Ja (wpAny_seqItems OQ rfl (Ja (wpAny_updateSeq_pair OQ λg5 IP e5=>?_)));replace IP:IsPair g5 to x y:=IP;refine Ja (wpAny_letGo (Jd (Jd (Ja (wpAny_seqItems IP rfl (Ja (wpAny_newTuple ?_)))))));have sz:g5.objs.size=s.heap.objs.size:=by rw[e5.1,e4.1,e3.1,e2.1,e1.1]
 have z5:IsZip g5 z ti to .ellipsis:=e5.extBut _ _ D.TOz.symm (e4.extBut _ _ D.i2z.symm (e3.extBut _ _ D.TOz.symm (e2.extBut _ _ D.i1z.symm z1)));have k5:∀ c o,c≠z->c≠to->c≠i1->c≠i2->s.heap.get? c=some o->g5.get? c=some o:=λc o c1 c2 c3 c4 e=>e5.extBut _ _ c2 (e4.extBut _ _ c4 (e3.extBut _ _ c2 (e2.extBut _ _ c3 (e1.extBut _ _ c1 e))));have Uc:g5.IsTupleIter i1 l1 (k + 1):=((j1.extBut e3.extBut D.TOi1.symm).extBut e4.extBut D.i12).extBut e5.extBut D.TOi1.symm;have Ub:g5.IsTupleIter i2 l2 (k + 1):=j2.extBut e5.extBut D.TOi2.symm;have zlt:z<g5.objs.size:=Yl z5;show wpAny _ _ (Builtin.SmallTypes.ownedTupleHandOut (.ref z) (.ref g5.objs.size)>>=_) _ _ _;refine Ja ?_;unfold Builtin.SmallTypes.ownedTupleHandOut;have z6:IsZip (g5.push {cls:=.type "tuple",data:=.seq #[x,y] }) z ti to .ellipsis:=Yd _ z5;refine Ja (wpAny_setField_rec z6 (by simp) λg7 z7 e7=>?_);replace z7:IsZip g7 z ti to (rawInt g5.objs.size):=z7;refine wpAny_setField_rec z7 (by simp) λg8 z8 e8=>?_;replace z8:IsZip g8 z ti to (rawInt g5.objs.size):=z8;have up:∀ c o,c≠z->g5.get? c=some o->g8.get? c=some o:=λc o c1 e=>e8.extBut _ _ c1 (e7.extBut _ _ c1 (Yd _ e));have p8:IsPair g8 g5.objs.size x y:=e8.extBut _ _ (Eb zlt) (e7.extBut _ _ (Eb zlt) (Yk _ rfl));rw[sz]at z8 p8;refine Jd ⟨Z,?_⟩;show Q (.ref g5.objs.size) _;rw[sz];exact q g8 ⟨z8,up _ _ D.TIz (k5 _ _ D.TIz D.TITO D.TIi1 D.TIi2 hti),⟨x,y,up _ _ D.TOz IP⟩,Uc.at λo e=>up _ o D.i1z e,Ub.at λo e=>up _ o D.i2z e⟩ p8 λc o c1 c2 c3 c4 e=>up c o c1 (k5 c o c1 c2 c3 c4 e)
def oS{z ti to i1 i2 l1 l2:Addr}{k:Nat}{xs ys:Array Value}{Q:Fin->Shared->Prop}(hh:A.handled=none)(D:ZipApart z ti to i1 i2 l1 l2)(st:Gf s.heap z ti to i1 i2 l1 l2 k .none)
  (t1:s.heap.IsTuple l1 xs) (t2:s.heap.IsTuple l2 ys) (Ci:xs[k]?=none\/ys[k]?=none)
  (q:∀ g e,(∀ c o,c≠z->c≠to->c≠i1->c≠i2->s.heap.get? c=some o->g.get? c=some o)->(∃ o,g.get? e=some o/\o.cls=.type "StopIteration")->E (.ref e) {s with heap:=g}):
  wpAny (model prog w) A (Builtin.«zip.__next__» ⟨[.ref z],[]⟩) Q E s:=by
 obtain⟨hz,hti,⟨a,b,hto⟩,E6,Ct⟩:=st;show wpAny _ _ (field (.ref z) 2>>=_) _ _ _;refine Ja (Jg hz rfl (x:=.bool false) rfl ?_);show wpAny _ _ (field (.ref z) 3>>=_) _ _ _;refine Ja (Jg hz rfl (x:=.ref ti) rfl (Ja (wpAny_seqItems hti rfl ?_)));show wpAny _ _ (Builtin.SmallTypes.ownedTupleIsFree (.ref z)>>=_) _ _ _;refine Ja ?_;unfold Builtin.SmallTypes.ownedTupleIsFree;refine Ja (Jg hz rfl (x:=.none) rfl (Jd ?_));simp only[if_true];refine Ja (wpAny_rule (Ja (Jg hz rfl (x:=.ref to) rfl (Ja (wpAny_setField_rec hz (by simp) λg1 z1 e1=>?_)))));replace z1:IsZip g1 z ti to .ellipsis:=z1;refine Ja ?_;simp only[List.zipIdx_cons,List.zipIdx_nil,MT,List.forIn_nil];refine Ja (Ja (wpAny_onRaise ?_));show wpAny _ _ (Builtin.SmallTypes.nextOf (.ref i1)>>=_) _ _ _;cases hx:xs[k]? with
 | none =>
  refine Ja (Pn hh (E6.extBut e1.extBut D.i1z) (t1.extBut e1.extBut D.l1z) hx λg2 e e2 he=>?_);obtain⟨oe,ho,hc⟩:=he;have z2:IsZip g2 z ti to .ellipsis:=e2 _ _ D.i1z.symm z1;have ez:e≠z:=λx=>by subst x;rw[z2]at ho;cases ho;simp at hc
  exact wpAny_setField_rec z2 (by simp) λg3 _ e3=>q g3 e (λc o c1 _ c3 _ x=>e3.extBut _ _ c1 (e2 _ _ c3 (e1.extBut _ _ c1 x))) ⟨oe,e3.extBut _ _ ez ho,hc⟩
 | some x =>
  have hy:ys[k]?=none:=by rcases Ci with h | h;rw[hx]at h;cases h;exact h
  refine Ja (N1 (E6.extBut e1.extBut D.i1z) (t1.extBut e1.extBut D.l1z) hx λg2 j1 e2=>Jd ?_);have to2:IsPair g2 to a b:=e2.extBut _ _ D.TOi1 (e1.extBut _ _ D.TOz hto);refine Ja (wpAny_seqItems to2 rfl (Ja (wpAny_updateSeq_pair to2 λg3 to3 e3=>?_)));refine Ja (wpAny_letGo (Jd (Ja (Ja (wpAny_onRaise ?_)))));show wpAny _ _ (Builtin.SmallTypes.nextOf (.ref i2)>>=_) _ _ _;refine Ja (Pn hh (((Ct.extBut e1.extBut D.i2z).extBut e2.extBut D.i12.symm).extBut e3.extBut D.TOi2.symm) (((t2.extBut e1.extBut D.l2z).extBut e2.extBut D.l2i1).extBut e3.extBut D.l2TO) hy λg4 e e4 he=>?_);obtain⟨oe,ho,hc⟩:=he;have z4:IsZip g4 z ti to .ellipsis:=e4 _ _ D.i2z.symm (e3.extBut _ _ D.TOz.symm (e2.extBut _ _ D.i1z.symm z1));have ez:e≠z:=λx=>by subst x;rw[z4]at ho;cases ho;simp at hc
  exact wpAny_setField_rec z4 (by simp) λg5 _ e5=>q g5 e (λc o c1 c2 c3 c4 x=>e5.extBut _ _ c1 (e4 _ _ c4 (e3.extBut _ _ c2 (e2.extBut _ _ c3 (e1.extBut _ _ c1 x))))) ⟨oe,e5.extBut _ _ ez ho,hc⟩
def qa{z ti to i1 i2 l1 l2:Addr}{k:Nat}{xs ys:Array Value}{x y:Value}{Q:OU->Shared->Prop}(D:ZipApart z ti to i1 i2 l1 l2)(st:Gf s.heap z ti to i1 i2 l1 l2 k .none)
  (t1:s.heap.IsTuple l1 xs) (t2:s.heap.IsTuple l2 ys) (hx:xs[k]?=some x) (hy:ys[k]?=some y)
  (q:∀ g,Gf g z ti to i1 i2 l1 l2 (k + 1) (rawInt s.heap.objs.size)->IsPair g s.heap.objs.size x y->(∀ c o,c≠z->c≠to->c≠i1->c≠i2->s.heap.get? c=some o->g.get? c=some o)->Q (some (.ref s.heap.objs.size)) {s with heap:=g}):
  wpAny (model prog w) A (pyNext (.ref z)) Q E s:=by
 have hT:s.TypeIs (.ref z) "zip":=⟨_,st.z,Y⟩;unfold pyNext;exact Ja (wpAny_attempt (wpAny_callSpecial?_slot (name:=Str.ofString "__next__") hT Kp (wpAny_call_entry Kp hT Tq (oU D st t1 t2 hx hy λg a1 a2 a3=>Jd (q g a1 a2 a3)) (Tt _))))
def qZ{z ti to i1 i2 l1 l2:Addr}{k:Nat}{xs ys:Array Value}{Q:OU->Shared->Prop}(hh:A.handled=none)(D:ZipApart z ti to i1 i2 l1 l2)(st:Gf s.heap z ti to i1 i2 l1 l2 k .none)
  (t1:s.heap.IsTuple l1 xs) (t2:s.heap.IsTuple l2 ys) (Ci:xs[k]?=none\/ys[k]?=none)
  (q:∀ g,(∀ c o,c≠z->c≠to->c≠i1->c≠i2->s.heap.get? c=some o->g.get? c=some o)->Q none {s with heap:=g}):wpAny (model prog w) A (pyNext (.ref z)) Q E s:=by
 have hT:s.TypeIs (.ref z) "zip":=⟨_,st.z,Y⟩;unfold pyNext;refine Ja (wpAny_attempt (wpAny_callSpecial?_slot (name:=Str.ofString "__next__") hT Kp (wpAny_call_entry Kp hT Tq (oS hh D st t1 t2 Ci λg e hk he=>?_) (Tt _))));obtain⟨o,ho,hc⟩:=he;refine Ja (wpAny_isInstance (T:="StopIteration") (b:=true) ⟨o,ho,hc⟩ isSubtype_stop ?_);exact Jd (q _ hk)
end
def HQ(ps:List (V×V))(Ok:Hp->Prop):It :=
 ⟨λi H=>i<ps.length/\Ok H,λi H v H'=>∃ t p,ps[i]?=some p/\H t=none/\v=.ref t/\H'=upd H t (.tup [p.1,p.2]),λi H=>ps.length<=i/\Ok H⟩
section
variable {prog:Program}{w:World}{A:Around}{E:EV}{s:Shared}
abbrev Kz(h:Heap)(l1:Addr):Heap:=h.push {cls:=.type "tuple_iterator",data:=.fields #[.ref l1,.int 0 0] }
abbrev RJ(h:Heap)(l1 l2:Addr):Heap:=(Kz h l1).push {cls:=.type "tuple_iterator",data:=.fields #[.ref l2,.int 0 0] }
abbrev RI(h:Heap)(l1 l2:Addr):Heap:=(RJ h l1 l2).push {cls:=.type "tuple",data:=.seq #[.ref h.objs.size,.ref (Kz h l1).objs.size] }
abbrev RH(h:Heap)(l1 l2:Addr):Heap:=(RI h l1 l2).push {cls:=.type "tuple",data:=.seq #[.none,.none] }
abbrev Mw(h:Heap)(l1 l2:Addr):Heap:=(RH h l1 l2).push {cls:=.type "zip",data:=.fields #[.none,.bool false,.bool false,.ref (RJ h l1 l2).objs.size,.ref (RI h l1 l2).objs.size] }
def oq(l1 l2:Addr)(xs ys:Array Value):Meets (Builtin.«zip.__new__» ⟨[.type "zip",.ref l1,.ref l2],[]⟩) (λ_ R s=>s.heap.IsTuple l1 xs/\s.heap.IsTuple l2 ys /\
   R (.ok (.ret (.ref (RH s.heap l1 l2).objs.size))) {s with heap:=Mw s.heap l1 l2}):=
 .of_wp λprog w A R s h=>by
  obtain⟨hp,g,d,tk,os⟩:=s;obtain⟨t1,t2,h⟩:=h;have hsub:=sub_zip;have T1:Heap.IsTuple (Shared.heap ⟨hp,g,d,tk,os⟩) l1 xs:=t1;have T2:Heap.IsTuple (Shared.heap ⟨hp.push {cls:=.type "tuple_iterator",data:=.fields #[.ref l1,.int 0 0] },g,d,tk,os⟩) l2 ys:=Heap.IsTuple.push t2 _
  wp_walk using wpAny_pyIter_tuple T1,wpAny_pyIter_tuple T2
  exact⟨Z,h⟩
def nC{l1 l2:Addr}{xs ys:Array Value}{Q:EV}(t1:s.heap.IsTuple l1 xs)(t2:s.heap.IsTuple l2 ys)
  (q:∀ g,Gf g (s.heap.objs.size + 4) (s.heap.objs.size + 2) (s.heap.objs.size + 3) s.heap.objs.size (s.heap.objs.size + 1) l1 l2 0 .none->(∀ c o,s.heap.get? c=some o->g.get? c=some o)->Q (.ref (s.heap.objs.size + 4)) {s with heap:=g}):
  wpAny (model prog w) A (call (.type "zip") [.ref l1,.ref l2]) Q E s:=by
 refine callType_new PySem.F.called_zip (by decide) (PySem.F.typeCall_zip_2 _ _) (PySem.F.newCall_zip_2 _ _) (λobj=>PySem.F.args_object_init_3 obj _ _) PySem.F.entry_zip_new (oq l1 l2 xs ys) ⟨t1,t2,?_⟩;have n1:(Kz s.heap l1).objs.size=s.heap.objs.size + 1:=Ec ..;have n2:(RJ s.heap l1 l2).objs.size=s.heap.objs.size + 2:=by rw[Ec,n1]
 have n3:(RI s.heap l1 l2).objs.size=s.heap.objs.size + 3:=by rw[Ec,n2]
 have n4:(RH s.heap l1 l2).objs.size=s.heap.objs.size + 4:=by rw[Ec,n3]
 have up:∀ {h:Heap} {a:Addr} {o:Obj} (x:Obj),h.get? a=some o->(h.push x).get? a=some o:=λx e=>Yd _ e;have f5:(Mw s.heap l1 l2).get? (RH s.heap l1 l2).objs.size=some _:=Yk _ rfl;have f4:(Mw s.heap l1 l2).get? (RI s.heap l1 l2).objs.size=some _:=up _ (Yk _ rfl);have f3:(Mw s.heap l1 l2).get? (RJ s.heap l1 l2).objs.size=some _:=up _ (up _ (Yk _ rfl));have f2:(Mw s.heap l1 l2).get? (Kz s.heap l1).objs.size=some _:=up _ (up _ (up _ (Yk _ rfl)));have f1:(Mw s.heap l1 l2).get? s.heap.objs.size=some _:=up _ (up _ (up _ (up _ (Yk _ rfl))));show _/\_;rw[n2,n3,n4]at f5;rw[n1,n2]at f3;rw[n3]at f4;rw[n1]at f2;rw[n4];exact⟨⟨_,f5,Y⟩,q _ ⟨f5,f3,⟨_,_,f4⟩,⟨_,f1,Y,Y⟩,⟨_,f2,Y,Y⟩⟩ λc o x=>up _ (up _ (up _ (up _ (up _ x))))⟩
end
def PY{xs ys:LV}{i:Nat}{p:V×V}(h:(xs.zip ys)[i]?=some p):xs[i]?=some p.1/\ys[i]?=some p.2:=by
 rw[Wx]at h;exact h
def Inv.turnedNewL{X:Cx}{pins:PL}{σ:St}{H:Hp}{s:Shared}{h':Heap}{t':Nat}{its:List Addr}{a:Addr}{o:HO}(I:Inv X pins σ H s)(k:∀ b u,b∉its->s.heap.get? b=some u->h'.get? b=some u)
  (f:∀ b∈its,Br X pins H b) (ha:s.heap.objs.size<=a) (new:BO X.prog X.w (upd H a o) h' a o):Inv X pins σ (upd H a o) {s with heap:=h',toks:=t' }:=by
 have nit:∀ b u,H b=some u->b∉its:=λb u e z=>by have:=(f b z).1;rw[this]at e;cases e
 have na:∀ b u,H b=some u->b≠a:=λb u e=>A8 (Yp (I.hok.lt e) ha);have low:∀ {b u},H b=some u->(upd H a o) b=some u:=λ{b u} e=>by rw[AD (na b u e)];exact e
 refine I.step (g':=s.gens) (d':=s.drawn) (ch:=its) (λb hb=>?_) (λb u _ _ hc e _=>k b u hc e) (λb u _ _ hc e _=>⟨u.slots,k b u hc e⟩)
  (λb u _ e n=>by rw[AD (A8 (Yp (Yl e) ha))];exact n)
  (λb u hc e=>⟨u,k b u hc e⟩) (λ_ _ e=>low e) (λ_ _ _ e=>low e) (λb ps e=>⟨#[],by rw[low e];simp⟩) (λm hm=>?_) (λb u e=>?_) I.bare
 ·obtain⟨f0,f1,f2,f3,f4,f5⟩:=f b hb;exact⟨f3,f1,f4,f5⟩
 ·obtain⟨o',es,ep,ho,r⟩:=hm;exact⟨o',es,ep,k _ o' (λz=>(f _ z).2.1 rfl) ho,r⟩
 ·by_cases hb:b=a
  ·subst hb;rw[uS]at e;cases e;exact new
  ·rw[AD hb]at e;refine(I.hok b u e).stay (λc v hc q=>k c v ?_ q) (λ_ q=>low q) λ_ _ q=>low q
   rcases hc with z | z
   ·rw[z];exact nit b u e
   ·exact nit c _ z
def Inv.turnedL{X:Cx}{pins:PL}{σ:St}{H:Hp}{s:Shared}{h':Heap}{t':Nat}{its:List Addr}(I:Inv X pins σ H s)(k:∀ b u,b∉its->s.heap.get? b=some u->h'.get? b=some u)
  (f:∀ b∈its,Br X pins H b):Inv X pins σ H {s with heap:=h',toks:=t' }:=by
 have nit:∀ b u,H b=some u->b∉its:=λb u e z=>by have:=(f b z).1;rw[this]at e;cases e
 refine I.step (g':=s.gens) (d':=s.drawn) (ch:=its) (λb hb=>?_) (λb u _ _ hc e _=>k b u hc e) (λb u _ _ hc e _=>⟨u.slots,k b u hc e⟩)
  (λb u _ e n=>n) (λb u hc e=>⟨u,k b u hc e⟩) (λ_ _ e=>e) (λ_ _ _ e=>e) (λb ps e=>⟨#[],by rw[e];simp⟩) (λm hm=>?_) (λb u e=>?_) I.bare
 ·obtain⟨f0,f1,f2,f3,f4,f5⟩:=f b hb;exact⟨f3,f1,f4,f5⟩
 ·obtain⟨o',es,ep,ho,r⟩:=hm;exact⟨o',es,ep,k _ o' (λz=>(f _ z).2.1 rfl) ho,r⟩
 ·refine(I.hok b u e).stay (λc v hc q=>k c v ?_ q) (λ_ q=>q) λ_ _ q=>q
  rcases hc with z | z
  ·rw[z];exact nit b u e
  ·exact nit c _ z
def mN{P:Program}{w:World}{K:Fg}{elts:List Expr}{x1}{pos:Pos}{xs ys:LV}(a b z ti to i1 i2:Addr)(D:ZipApart z ti to i1 i2 a b):
  Fb P w K (.Tuple elts x1 pos) (HQ (xs.zip ys) λH=>AL K H a xs/\AL K H b ys) [z,ti,to,i1,i2] z (λi h=>Gf h z ti to i1 i2 a b i .none) where
 mem:=by simp
 obj:=λi h st c hc=>by
  have BL:c=z\/c=ti\/c=to\/c=i1\/c=i2:=by simpa using hc
  obtain⟨x,y,h3⟩:=st.to;obtain⟨o1,e1,_,d1⟩:=st.i1;obtain⟨o2,e2,_,d2⟩:=st.i2
  rcases BL with rfl | rfl | rfl | rfl | rfl
  ·exact⟨_,st.z,λv q=>by cases q⟩
  ·exact⟨_,st.ti,λv q=>by cases q⟩
  ·exact⟨_,h3,λv q=>by cases q⟩
  ·exact⟨_,e1,λv q=>by rw[d1]at q;cases q⟩
  ·exact⟨_,e2,λv q=>by rw[d2]at q;cases q⟩
 keep:=λi h h' st k=>st.at k
 item:=by
  intro X hP hw hK hc i pins s σ H E I hf st hg;subst hP hw hK;obtain⟨hi,ha,hb⟩:=hg;obtain⟨p,hp⟩:∃ p,(xs.zip ys)[i]?=some p:=⟨(xs.zip ys)[i]'hi,Yb hi⟩;obtain⟨hx,hy⟩:=PY hp;obtain⟨its,rv,pa,_⟩:=I.tuple ha;obtain⟨jts,Cb,pb,_⟩:=I.tuple hb;obtain⟨u,hu,ru⟩:=rv.get hx;obtain⟨v,hv,UJ⟩:=Cb.get hy;refine qa D st (show s.heap.IsTuple a its.toArray from pa) (show s.heap.IsTuple b jts.toArray from pb) (by simpa using hu) (by simpa using hv) λg A5 hpr hk=>?_;refine⟨Z,?_⟩;refine wpAny_letOwnedTupleGo_zip (s:={s with heap:=g}) A5.z λg' z' sb=>?_;have zlt:z<s.heap.objs.size:=Yl st.z;have nz:s.heap.objs.size≠z:=Eb zlt;have Dw:Heap.ExtBut z g g':=sb.extBut;have hT:IsPair g' s.heap.objs.size u v:=Dw _ _ nz hpr;have I1:Inv X pins σ (upd H s.heap.objs.size (.tup [p.1,p.2])) {s with heap:=g' }:=I.turnedNewL (t':=s.toks) (its:=[z,ti,to,i1,i2]) (λc o hc e=>Dw c o (λq=>hc (by simp[q])) (hk c o (λq=>hc (by simp[q])) (λq=>hc (by simp[q])) (λq=>hc (by simp[q])) (λq=>hc (by simp[q])) e)) hf (Yf _)
   ⟨U,[u,v],.cons ru (.cons UJ .nil),⟨_,hT,Y,Z⟩⟩
  have EH:Gf g' z ti to i1 i2 a b (i + 1) .none:=by
   obtain⟨a1,a2,a3⟩:=A5.to;exact⟨z',Dw _ _ D.TIz A5.ti,⟨a1,a2,Dw _ _ D.TOz a3⟩,A5.i1.extBut Dw D.i1z,A5.i2.extBut Dw D.i2z⟩
  refine⟨.ref s.heap.objs.size,_,I1,Y,⟨s.heap.objs.size,p,hp,I.hok.fresh (Yf _),Y,Y⟩,EH,λc hc=>?_⟩;have lt:∀ c∈[z,ti,to,i1,i2],c<s.heap.objs.size:=λc hc=>by
   have BL:c=z\/c=ti\/c=to\/c=i1\/c=i2:=by simpa using hc
   obtain⟨a1,a2,a3⟩:=st.to;obtain⟨o1,e1,_⟩:=st.i1;obtain⟨o2,e2,_⟩:=st.i2
   rcases BL with rfl | rfl | rfl | rfl | rfl
   ·exact zlt
   ·exact Yl st.ti
   ·exact Yl a3
   ·exact Yl e1
   ·exact Yl e2
  rw[AD (A8 (lt c hc))];exact(hf c hc).1
 done:=by
  intro X hP hw hK hc i pins s σ H E I hf st hg;subst hP hw hK;obtain⟨hi,ha,hb⟩:=hg;obtain⟨its,rv,pa,_⟩:=I.tuple ha;obtain⟨jts,Cb,pb,_⟩:=I.tuple hb;have l1:=rv.length;have l2:=Cb.length;have Ci:its.toArray[i]?=none\/jts.toArray[i]?=none:=by
   rw[Kl]at hi
   rcases Nat.le_total xs.length ys.length with h | h
   ·rw[QJ h]at hi;exact .inl (by simp;omega)
   ·rw[Nat.min_eq_right h]at hi;exact .inr (by simp;omega)
  exact qZ (I.ok.hd hc) D st (show s.heap.IsTuple a its.toArray from pa) (show s.heap.IsTuple b jts.toArray from pb) Ci λg hk=>⟨Y,I.turnedL (t':=s.toks) (its:=[z,ti,to,i1,i2]) (λc o hc e=>hk c o (λq=>hc (by simp[q])) (λq=>hc (by simp[q])) (λq=>hc (by simp[q])) (λq=>hc (by simp[q])) e) hf⟩
 self:=λA i s Q E st h=>wpAny_pyIter_zip st.z h
section
variable {X:Cx}
def vp(K:Fg)(ta:TA):TI:=λσ H R=>ta σ H λvs H1=>∃(a b:Addr) (xs ys:LV),vs=[.ref a,.ref b]/\AL K H1 a xs/\AL K H1 b ys/\R (HQ (xs.zip ys) λH=>AL K H a xs/\AL K H b ys) H1
def U8{elts:List Expr}{x1}{Ew:Pos}{a b:Expr}{ta:TA}{p pos:Pos}(hg:Gl X "zip")(hm:X.mg "zip"=none)(ha:PA X [a,b] ta)(hs:starEach [a,b] X.env=[(false,eval a X.env),(false,eval b X.env)]:=by rfl)(FR:starEach [b] X.env=[(false,eval b X.env)]:=by rfl):
  PI X (.Tuple elts x1 Ew) (.Call (.Name "zip" p) [a,b] [] pos) (vp X.K ta):=by
 intro pins s σ H R I h;refine Call_ (GQ I hg hm boot_zip (Kh (AM (ha pos pins s σ H _ I h) λus s1 ⟨vs,H1,I1,r1,q1⟩=>?_) (by rw[hs,FR]) (by rw[FR];rfl)));obtain⟨l1,l2,xs,ys,e,t1,t2,q⟩:=q1;subst e;cases r1 with
 | cons r rr =>
  cases rr with
  | cons r' rr =>
   cases rr;obtain rfl:_=Value.ref l1:=r;obtain rfl:_=Value.ref l2:=r';obtain⟨its,rv,pa,_⟩:=I1.tuple t1;obtain⟨jts,Cb,pb,_⟩:=I1.tuple t2;have b1:s1.heap.IsTuple l1 its.toArray:=pa;have b2:s1.heap.IsTuple l2 jts.toArray:=pb;have M7:l1<s1.heap.objs.size:=let⟨_,e,_⟩:=b1;Yl e;have UZ:l2<s1.heap.objs.size:=let⟨_,e,_⟩:=b2;Yl e;refine nC b1 b2 λg st hk=>wpAny_pyIter_zip (s:={s1 with heap:=g}) st.z ?_;have D:ZipApart (s1.heap.objs.size + 4) (s1.heap.objs.size + 2) (s1.heap.objs.size + 3) s1.heap.objs.size (s1.heap.objs.size + 1) l1 l2:=W.ktu_apart _ _ _ M7 UZ;refine⟨_,[s1.heap.objs.size + 4,s1.heap.objs.size + 2,s1.heap.objs.size + 3,s1.heap.objs.size,s1.heap.objs.size + 1],_,_,H1,Y,I1.kept (t':=s1.toks) λb o e=>hk b o e,mN l1 l2 _ _ _ _ _ D,st,λc hc=>?_,q⟩;have BL:c=s1.heap.objs.size + 4\/c=s1.heap.objs.size + 2\/c=s1.heap.objs.size + 3\/c=s1.heap.objs.size\/c=s1.heap.objs.size + 1:=by simpa using hc
   have ge:s1.heap.objs.size<=c:=by
    rcases BL with rfl | rfl | rfl | rfl | rfl
    ·exact Fp _ _
    ·exact Fp _ _
    ·exact Fp _ _
    ·exact Yf _
    ·exact Fp _ _
   exact I1.fpOk ge (I1.hok.fresh ge)
end
def mz{prog:Program}{w:World}{A:Around}(hh:A.handled=none)(p t:Addr)(ne:t≠p)(us:Array Value):Draws prog w A p [p,t] us.size (λi v=>us[i]?=some v) (λi h=>h.IsTupleIter p t i/\h.IsTuple t us) where
 live:=λ_ _ st=>let⟨o,ho,_⟩:=st.1;⟨o,ho⟩
 frame:=λ_ _ _ st hk=>⟨st.1.at λo e=>hk p (by simp) o e,let⟨o,ho,r⟩:=st.2;⟨o,hk t (by simp) o ho,r⟩⟩
 item:=λi s Q E hi st q=>N1 st.1 st.2 (u:=us[i]) (by simp[hi]) λg A5 sb=>q _ g s.toks (by simp[hi]) ⟨A5,st.2.extBut sb.extBut ne⟩ sb
 done:=λs Q E st q=>Pn hh st.1 st.2 (by simp) q
def Kq(b:Bool)(h:Heap)(p a:Addr)(i:Nat):Prop:=if b=true then h.IsListIter p a i else h.IsTupleIter p a i
def W6(b:Bool)(h:Heap)(a:Addr)(us:Array Value):Prop:=if b=true then h.IsList a us else h.IsTuple a us
theorem Kq.at{b:Bool}{h h':Heap}{p a:Addr}{i:Nat}(x:Kq b h p a i)(e:∀ o,h.get? p=some o->h'.get? p=some o):Kq b h' p a i:=by
 cases b with
 | true=>exact Heap.IsListIter.at (show h.IsListIter p a i from x) e
 | false=>exact Heap.IsTupleIter.at (show h.IsTupleIter p a i from x) e
def Kq.obj{b:Bool}{h:Heap}{p a:Addr}{i:Nat}(x:Kq b h p a i):∃ o,h.get? p=some o/\∀ v,o.data≠.cell v:=by
 cases b with
 | true =>
  obtain⟨o,e,_,d⟩:=(show h.IsListIter p a i from x);exact⟨o,e,λv z=>by rw[d]at z;cases z⟩
 | false =>
  obtain⟨o,e,_,d⟩:=(show h.IsTupleIter p a i from x);exact⟨o,e,λv z=>by rw[d]at z;cases z⟩
def my{prog:Program}{w:World}{A:Around}(b:Bool)(hh:A.handled=none)(p t:Addr)(ne:t≠p)(us:Array Value):Draws prog w A p [p,t] us.size (λi v=>us[i]?=some v) (λi h=>Kq b h p t i/\W6 b h t us):=by
 cases b with
 | true=>exact Draws.list hh p t ne us
 | false=>exact mz hh p t ne us
def Inv.sseq{X:Cx}{pins:PL}{σ:St}{H:Hp}{s:Shared}{b:Bool}{a:Addr}{xs:LV}(I:Inv X pins σ H s)(h:EF X.K b H a xs):∃ its:LU,AQ xs its/\W6 b s.heap a its.toArray:=by
 cases b with
 | true =>
  obtain⟨its,rv,p,_⟩:=I.list (show SqL X.K H a xs from h);exact⟨its,rv,p.isList⟩
 | false =>
  obtain⟨its,rv,p,_⟩:=I.tuple (show AL X.K H a xs from h);exact⟨its,rv,p⟩
def HC(xs:LV):List (V×V):=(CW 0 xs.length).zip xs
def Nu(xs:LV):(HC xs).length=xs.length:=by
 unfold HC;rw[Kl,Ca,Nat.min_self]
def Sl{xs:LV}{i:Nat}{p:V×V}(h:(HC xs)[i]?=some p):p.1=.int i/\xs[i]?=some p.2:=by
 obtain⟨h1,h2⟩:=PY h;obtain⟨_,e⟩:=Ds h1;exact⟨by rw[e,FL],h2⟩
section
variable {prog:Program}{w:World}{A:Around}{E:EV}{s:Shared}
def p9(l:Addr)(us:Array Value):Meets (Builtin.«enumerate.__new__» ⟨[.type "enumerate",.ref l],[]⟩) (λ_ R s=>s.heap.IsTuple l us /\
   R (.ok (.ret (.ref (s.heap.push {cls:=.type "tuple_iterator",data:=.fields #[.ref l,.int 0 0] }).objs.size)))
    {s with heap:=(s.heap.push {cls:=.type "tuple_iterator",data:=.fields #[.ref l,.int 0 0] }).push {cls:=.type "enumerate",data:=.fields #[.none,.bool false,.ref s.heap.objs.size,rawInt 0,.none,.none] } }):=
 .of_wp λprog w A R s h=>by
  obtain⟨hp,g,d,tk,os⟩:=s;obtain⟨ht,h⟩:=h;have hsub:=sub_enumerate;obtain⟨⟨c,dct,dt,sl⟩,hl,hc,n,hd⟩:=id ht;replace hc:c=.type "tuple":=hc;replace hd:dt=.seq us n:=hd;subst hc hd;have hT:Heap.IsTuple (Shared.heap ⟨hp,g,d,tk,os⟩) l us:=ht
  wp_walk using Ti hl
  refine wpAny_stack_any λst=>Jd ?_;split
  ·rename_i c _ _ _ _ _
   cases(c == Value.type "enumerate")
   ·wp_walk using Ti hl,wpAny_pyIter_tuple hT
    exact⟨Z,h⟩
   ·wp_walk using Ti hl,wpAny_pyIter_tuple hT
    exact⟨Z,h⟩
  ·wp_walk using Ti hl,wpAny_pyIter_tuple hT
   exact⟨Z,h⟩
def m8(b:Bool){l:Addr}{us:Array Value}{Q:EV}(hl:W6 b s.heap l us)
  (q:∀ g,IsEnum g (s.heap.objs.size + 1) s.heap.objs.size 0 .none->Kq b g s.heap.objs.size l 0->(∀ c o,s.heap.get? c=some o->g.get? c=some o)->Q (.ref (s.heap.objs.size + 1)) {s with heap:=g}):
  wpAny (model prog w) A (call (.type "enumerate") [.ref l]) Q E s:=by
 cases b with
 | true=>exact call_enumerate_list (show s.heap.IsList l us from hl) λg h1 h2 _ h4=>q g h1 h2 h4
 | false =>
  refine callType_new PySem.F.called_enumerate (by decide) (PySem.F.typeCall_enumerate_1 _) (PySem.F.newCall_enumerate_1 _) (λobj=>PySem.F.args_object_init_2 obj _) PySem.F.entry_enumerate_new (p9 l us) ⟨hl,?_⟩;have n1:(Kz s.heap l).objs.size=s.heap.objs.size + 1:=Ec ..;show _/\_;rw[n1];have he:IsEnum ((Kz s.heap l).push {cls:=.type "enumerate",data:=.fields #[.none,.bool false,.ref s.heap.objs.size,rawInt 0,.none,.none] }) (s.heap.objs.size + 1) s.heap.objs.size 0 .none:=by
   have:=Yk (Kz s.heap l) (o:={cls:=.type "enumerate",data:=.fields #[.none,.bool false,.ref s.heap.objs.size,rawInt 0,.none,.none] }) rfl;rw[n1]at this;exact this
  exact⟨⟨_,he,Y⟩,q _ he ⟨_,Yd _ (Yk _ rfl),Y,Y⟩ λc o x=>Yd _ (Yd _ x)⟩
end
def ZG{prog:Program}{w:World}{A:Around}{E:EV}{s:Shared}{e p:Addr}{i:Int}{old:Value}{Q:OU->Shared->Prop}(hh:A.handled=none)(he:IsEnum s.heap e p i old)
  (nx:∀(Q:EV) (E:EV),(∀ g e,Heap.ExtBut p s.heap g->(∃ o,g.get? e=some o/\o.cls=.type "StopIteration")->E (.ref e) {s with heap:=g})->wpAny (model prog w) A.in1 (Builtin.SmallTypes.nextOf (.ref p)) Q E s)
  (q:∀ g,Heap.ExtBut p s.heap g->Q none {s with heap:=g}):wpAny (model prog w) A (pyNext (.ref e)) Q E s:=by
 have hT:s.TypeIs (.ref e) "enumerate":=⟨_,he,Y⟩;unfold pyNext;refine Ja (wpAny_attempt (wpAny_callSpecial?_slot (name:=Str.ofString "__next__") hT PySem.F.slot_enumerate_next (wpAny_call_entry PySem.F.slot_enumerate_next hT PySem.F.entry_enumerate_next ?_ (PySem.F.args_enumerate_next_1 _))));show wpAny _ _ (field (.ref e) 2>>=_) _ _ _;refine Ja (Jg he rfl (x:=.ref p) rfl (Ja (nx _ _ λg x eb hx=>?_)));obtain⟨o,ho,hc⟩:=hx;refine Ja (wpAny_isInstance (T:="StopIteration") (b:=true) ⟨o,ho,hc⟩ isSubtype_stop ?_);exact Jd (q _ eb)
def oJ{P:Program}{w:World}{K:Fg}{elts:List Expr}{x1}{pos:Pos}{xs:LV}(b:Bool)(a e p:Addr)(ep:e≠p)(ea:e≠a)(ap:a≠p):
  Fb P w K (.Tuple elts x1 pos) (HQ (HC xs) λH=>EF K b H a xs) [e,p] e (λi h=>(∃ old,IsEnum h e p i old)/\Kq b h p a i) where
 mem:=by simp
 obj:=λi h st c hc=>by
  have BL:c=e\/c=p:=by simpa using hc
  obtain⟨⟨old,he⟩,si⟩:=st
  rcases BL with rfl | rfl
  ·exact⟨_,he,λv q=>by cases q⟩
  ·exact si.obj
 keep:=λi h h' st k=>by
  obtain⟨⟨old,he⟩,si⟩:=st;exact⟨⟨old,k e (by simp) _ he⟩,si.at λo q=>k p (by simp) o q⟩
 item:=by
  intro X hP hw hK hc i pins s σ H E I hf st hg;subst hP hw hK;obtain⟨hi,ha⟩:=hg;obtain⟨⟨old,he⟩,si⟩:=st;obtain⟨pr,hp⟩:∃ p,(HC xs)[i]?=some p:=⟨(HC xs)[i]'hi,Yb hi⟩;obtain⟨e1,hx⟩:=Sl hp;obtain⟨its,rv,sq⟩:=I.sseq ha;obtain⟨u,hu,ru⟩:=rv.get hx;have hil:i<its.toArray.size:=by rw[Nu]at hi;have:=rv.length;simp;omega
  have D:=my (prog:=X.prog) (w:=X.w) (A:=X.A.in1) b (I.ok.hd hc) p a ap its.toArray;refine wpAny_pyNext_enum_itemD D he ⟨si,sq⟩ hil ep (by simp;exact⟨ep,ea⟩) λx g tk hPx ho hst hT _ hk=>?_;have exu:x=u:=by
   have h1:its.toArray[i]?=some x:=hPx;have h2:its.toArray[i]?=some u:=by simpa using hu
   rw[h1]at h2;exact Ba h2
  subst exu;refine⟨Z,?_⟩;refine wpAny_letOwnedTupleGo_enum (s:={s with heap:=g,toks:=tk + 1}) ho λg' kD sb=>?_;have elt:e<s.heap.objs.size:=Yl he;have plt:p<s.heap.objs.size:=let⟨o,q,_⟩:=si.obj;Yl q;have Dw:Heap.ExtBut e g g':=sb.extBut;have kM:IsPair g' s.heap.objs.size (.int i tk) x:=Dw _ _ (Eb elt) hT;have I1:Inv X pins σ (upd H s.heap.objs.size (.tup [pr.1,pr.2])) {s with heap:=g',toks:=tk + 1}:=I.turnedNewL (t':=tk + 1) (its:=[e,p]) (λc o hc q=>Dw c o (λz=>hc (by simp[z])) (hk c o (λz=>hc (by simp[z])) (λz=>hc (by simp[z])) q)) hf (Yf _)
   ⟨U,[.int i tk,x],.cons (by rw[e1];exact⟨tk,Y⟩) (.cons ru .nil),⟨_,kM,Y,Z⟩⟩
  refine⟨.ref s.heap.objs.size,_,I1,Y,⟨s.heap.objs.size,pr,hp,I.hok.fresh (Yf _),Y,Y⟩,⟨⟨x,by simpa using kD⟩,hst.1.at λo q=>Dw _ o (Yr ep) q⟩,λc hc=>?_⟩;have BL:c=e\/c=p:=by simpa using hc
  have ne:c≠s.heap.objs.size:=by
   rcases BL with rfl | rfl
   ·exact A8 elt
   ·exact A8 plt
  rw[AD ne];exact(hf c hc).1
 done:=by
  intro X hP hw hK hc i pins s σ H E I hf st hg;subst hP hw hK;obtain⟨hi,ha⟩:=hg;obtain⟨⟨old,he⟩,si⟩:=st;obtain⟨its,rv,sq⟩:=I.sseq ha;have hl:=rv.length;rw[Nu]at hi;cases b with
  | true =>
   have si:s.heap.IsListIter p a i:=si;have sq:s.heap.IsList a its.toArray:=sq;refine ZG (I.ok.hd hc) he (λQ E hE=>wpAny_nextOf_list_end (I.ok.hd hc) si sq (by simp;omega) hE) λg eb=>⟨Y,I.turnedL (t':=s.toks) (its:=[e,p]) (λc o hc q=>eb c o (λz=>hc (by simp[z])) q) hf⟩
  | false =>
   have si:s.heap.IsTupleIter p a i:=si;have sq:s.heap.IsTuple a its.toArray:=sq;refine ZG (I.ok.hd hc) he (λQ E hE=>Pn (I.ok.hd hc) si sq (by simp;omega) hE) λg eb=>⟨Y,I.turnedL (t':=s.toks) (its:=[e,p]) (λc o hc q=>eb c o (λz=>hc (by simp[z])) q) hf⟩
 self:=λA i s Q E st h=>let⟨⟨_,he⟩,_⟩:=st;wpAny_pyIter_enum he h
section
variable {X:Cx}
def rN(K:Fg)(ta:TA):TI:=λσ H R=>ta σ H λvs H1=>∃(b:Bool) (a:Addr) (xs:LV),vs=[.ref a]/\EF K b H1 a xs/\R (HQ (HC xs) λH=>EF K b H a xs) H1
def Zk{elts:List Expr}{x1}{Ew:Pos}{a:Expr}{ta:TA}{p pos:Pos}(hg:Gl X "enumerate")(hm:X.mg "enumerate"=none)(ha:PA X [a] ta)(hs:starEach [a] X.env=[(false,eval a X.env)]:=by rfl):
  PI X (.Tuple elts x1 Ew) (.Call (.Name "enumerate" p) [a] [] pos) (rN X.K ta):=by
 intro pins s σ H R I h;refine Call_ (GQ I hg hm boot_enumerate (Kh (AM (ha pos pins s σ H _ I h) λus s1 ⟨vs,H1,I1,r1,q1⟩=>?_) hs rfl));obtain⟨b,l,xs,e,t1,q⟩:=q1;subst e;cases r1 with
 | cons r rr =>
  cases rr;obtain rfl:_=Value.ref l:=r;obtain⟨its,rv,sq⟩:=I1.sseq t1;have M7:l<s1.heap.objs.size:=by
   cases b with
   | true=>obtain⟨_,e,_⟩:=(show s1.heap.IsList l its.toArray from sq);exact Yl e
   | false=>obtain⟨_,e,_⟩:=(show s1.heap.IsTuple l its.toArray from sq);exact Yl e
  refine m8 b sq λg he si hk=>wpAny_pyIter_enum (s:={s1 with heap:=g}) he ?_;refine⟨_,[s1.heap.objs.size + 1,s1.heap.objs.size],_,_,H1,Y,I1.kept (t':=s1.toks) λb o e=>hk b o e,oJ b l _ _ (Nat.succ_ne_self _) (Eb (Nat.lt_succ_of_lt M7)) (A8 M7),⟨⟨_,he⟩,si⟩,λc hc=>?_,q⟩;have BL:c=s1.heap.objs.size + 1\/c=s1.heap.objs.size:=by simpa using hc
  have ge:s1.heap.objs.size<=c:=by
   rcases BL with rfl | rfl
   ·exact Fp _ _
   ·exact Yf _
  exact I1.fpOk ge (I1.hok.fresh ge)
end
end L2
namespace L2
open PySem PySem.Spec PyProof.Rows PySem.W
def Te{A:Around}{k:Nat}(hr:AU k A):A.units + 65<cLine:=by have:=hr.un;omega
def c_{κ:Type}[DecidableEq κ]{kvs:List (κ×V)}{k:κ}(h:k∉kvs.map (·.1)):A2 kvs k=none:=by
 cases e:A2 kvs k with
 | none=>rfl
 | some v=>exact absurd (Zy e) h
def pf{κ:Type}[DecidableEq κ]{kvs:List (κ×V)}{k:κ}{v:V}(h:k∉kvs.map (·.1)):(BU kvs k v).map (·.1)=kvs.map (·.1)++[k]:=by
 rw[Nm v (c_ h),CD];rfl
def nK{α:Type}{l:List α}(nd:l.Nodup){i:Nat}{x:α}(h:l[i]?=some x):x∉l.take i:=by
 intro m;have hi:=(Ye.mp h).1;have e:=(Ye.mp h).2;have sp:l=l.take i++l.drop i:=(JM i l).symm;rw[sp]at nd;have q:=(List.nodup_append.mp nd).2.2 x m;refine q x ?_ rfl;rw[OK hi,e];exact Ma
def bH{ps:List (V×V)}{Ok:Hp->Prop}{g:TG}{tb:TS}{D:JH}{σ:St}{H:Hp}(Pv:NW)(h0:Pv 0 σ H)(hl:∀ i σ H,i<=ps.length->Pv i σ H->Ok H)
  (hs:∀ i p t σ H,ps[i]?=some p->Pv i σ H->H t=none->g (.ref t) σ (upd H t (.tup [p.1,p.2])) λσ2 H2=>tb {D with nx:=Pv (i + 1),ct:=Pv (i + 1),bk:=D.nx} σ2 H2) (hd:∀ σ H,Pv ps.length σ H->D.nx σ H):
  ∃ W:Nat->Nat->St->Hp->Prop,(∃ m,W 0 m σ H)/\∀ i m σ H,W i m σ H ->
   ((HQ ps Ok).stop i H/\D.nx σ H)\/((HQ ps Ok).go i H/\∃ N:SW,(∀ σ' H',N σ' H'->∃ m',m'<m/\W (i + 1) m' σ' H')/\∀ x H',(HQ ps Ok).yld i H x H'->g x σ H' λσ2 H2=>tb {D with nx:=N,ct:=N,bk:=D.nx} σ2 H2):=by
 refine⟨λi m σ H=>m=ps.length - i/\i<=ps.length/\Pv i σ H,⟨ps.length,G,BF _,h0⟩,?_⟩;rintro i m σ H ⟨rfl,hi,p⟩;have q:=hl i σ H hi p;by_cases AZ:i<ps.length
 ·refine .inr ⟨⟨AZ,q⟩,Pv (i + 1),λσ' H' p'=>⟨ps.length - (i + 1),W,Y,AZ,p'⟩,λx H' y=>?_⟩;obtain⟨t,pr,hp,ht,rfl,rfl⟩:=y;exact hs i pr t σ H hp p ht
 ·have e:i=ps.length:=by omega
  subst e;exact .inl ⟨⟨Yf _,q⟩,hd σ H p⟩
abbrev g2(K:Fg)(i j:Nat):TG:=dq K 2 (We (Dp i) (We (Dp j) dm))
def rM{K:Fg}{i j:Nat}{t:Addr}{x y:V}{σ:St}{H:Hp}{R:SW}(h:AL K H t [x,y])(q:R ((σ.set i (some x)).set j (some y)) H):g2 K i j (.ref t) σ H R :=
 ⟨t,[x,y],Y,h,Y,x,[y],Y,y,[],Y,Y,q⟩
def U1{K:Fg}{i j:Nat}{t:Addr}{x y:V}{σ:St}{H:Hp}{R:SW}(q:R ((σ.set i (some x)).set j (some y)) (upd H t (.tup [x,y]))):g2 K i j (.ref t) σ (upd H t (.tup [x,y])) R :=
 rM (AL.of uS) q
def PF{X:Cx}{K:Fg}{i j:Nat}{x y:Str}{p q pos:Pos}{c:Nat}(hK:X.K=K)(hc:X.calm=true)(hN:X.N.Nodup)(hi:X.N[i]?=some x)(hj:X.N[j]?=some y)(hx:Loc X.env.scope x)(hy:Loc X.env.scope y)
  (fx:X.fn x=true\/X.env.scope.names.lookup x=some .local) (fy:X.fn y=true\/X.env.scope.names.lookup y=some .local):PG X (.Tuple [.Name x p,.Name y q] c pos) (g2 K i j):=by
 subst hK;exact Iv hc (gC (Ay (i:=i) hN hi hx fx) (gC (Ay (i:=j) hN hj hy fy) I_))
def Ap{H:Hp}{t:Addr}{o:HO}(h:H t=none):AA H (upd H t o):=λb u e=>by rw[AD (AH e h)];exact e
def dI{α:Type}(p:α->Bool):∀(xs:List α) (i:Nat) (x:α),xs[i]?=some x->(xs.take (i + 1)).filter p=(xs.take i).filter p++if p x=true then[x]else[]:=by
 intro xs i x h;rw[B9,h,List.filter_append]
 congr 1
 cases e:p x <;> simp[List.filter,e]
def Sk{K:Fg}{ps:List (V×V)}{Ok:Hp->Prop}{js:LN}{tt:TT}{te:TE}{σ:St}{Q:VK}{H1:Hp}(hz:ps.length<=sizeLine)(p:V×V->Bool)(F:Addr->V×V->V->Hp->Prop)
  (hF:∀ D x v H H',(∀ b o,b≠D->H b=some o->H' b=some o)->F D x v H->F D x v H')
  (hok:∀ H,AA H1 H->Ok H)
  (ht:∀ x H (R:Bool->Hp->Prop),AA H1 H->x∈ps->(∀ H',AA H H'->R (p x) H')->tt (some x.1 :: some x.2 :: js.map λj=>(σ[j]?).join) H R)
  (he:∀ D x H (R:V->Hp->Prop),AA H1 H->(∃ ys,H D=some (.lst ys))->H1 D=none->x∈ps->p x=true->(∀ v H',AA H H'->F D x v H'->R v H')->te (some x.1 :: some x.2 :: js.map λj=>(σ[j]?).join) H R)
  (hd:∀ D H' ys,H1 D=none->AA H1 H'->H' D=some (.lst ys)->Paired (λx v=>F D x v H') (ps.filter p) ys->Q (.ref D) H'):
  Aa 2 js (g2 K 0 1) tt te σ Q (HQ ps Ok) H1:=by
 intro D hD;refine⟨λi m ys σ' H=>m=ps.length - i/\i<=ps.length/\AA H1 H/\H D=some (.lst ys)/\Paired (λx v=>F D x v H) ((ps.take i).filter p) ys/\∃ o u,σ'=o :: u :: js.map λj=>(σ[j]?).join,
  ⟨ps.length,G,BF _,Ap hD,uS,by simpa using Paired.nil,none,none,Y⟩,?_⟩
 rintro i m ys σ' H ⟨rfl,hi,hs,hl,hp,o,u,rfl⟩;have mono:∀ {H H':Hp},(∀ b o,b≠D->H b=some o->H' b=some o)->Paired (λx v=>F D x v H) ((ps.take i).filter p) ys->Paired (λx v=>F D x v H') ((ps.take i).filter p) ys:=λh q=>Paired.mapP q λa b z=>hF D a b _ _ h z;by_cases AZ:i<ps.length
 ·have yl:ys.length<sizeLine:=by
   rw[<- hp.length];refine QR (EE _ _) ?_;rw[Yx];omega
  refine .inr ⟨⟨AZ,hok H hs⟩,yl,λK0 σ3 H3=>AA H1 H3/\H3 D=some (.lst K0)/\Paired (λx v=>F D x v H3) ((ps.take (i + 1)).filter p) K0/\∃ o u,σ3=o :: u :: js.map λj=>(σ[j]?).join,
   λK0 σ3 H3 z=>⟨ps.length - (i + 1),W,Y,AZ,z⟩,λx H2 y=>?_⟩
  obtain⟨t,x,hx,Fy,rfl,rfl⟩:=y;refine U1 ?_;show tt (some x.1 :: some x.2 :: js.map λj=>(σ[j]?).join) (upd H t (.tup [x.1,x.2])) _;have hm:x∈ps:=Yc hx;have st:AA H (upd H t (.tup [x.1,x.2])):=Ap Fy;refine ht x _ _ (hs.trans st) hm λH4 s4=>?_;have Gu:AA H H4:=st.trans s4;have LC:AA H1 H4:=hs.trans Gu;cases hpx:p x with
  | true =>
   rw[if_pos rfl];refine he D x H4 _ LC ⟨_,Gu _ _ hl⟩ hD hm hpx λv H5 s5 f5=>⟨s5 _ _ (Gu _ _ hl),λb o e=>?_,uS,?_,_,Z⟩
   ·rw[AD (AH e hD)];exact s5 _ _ (LC _ _ e)
   ·rw[dI p ps i x hx,hpx,if_pos rfl];refine Fn (mono (λb o hb e=>by rw[AD hb];exact s5 _ _ (Gu _ _ e)) hp) (hF D _ _ _ _ (λb o hb e=>by rw[AD hb];exact e) f5)
  | false =>
   rw[if_neg Ym];refine⟨LC,Gu _ _ hl,?_,_,Z⟩;rw[dI p ps i x hx,hpx,if_neg Ym,Gg];exact mono (λb o _ e=>Gu _ _ e) hp
 ·have e:i=ps.length:=by omega
  subst e;rw[De]at hp;exact .inl ⟨⟨Yf _,hok H hs⟩,hd D H ys hD hs hl hp⟩
theorem Pd{α:Type}{f:α->V}:∀ {xs:List α}{ys:LV},Paired (λx v=>v=f x) xs ys->ys=xs.map f
 | _,_,.nil=>rfl
 | _,_,.cons r t=>by rw[Yo,r,Pd t]
def bE{K:Fg}{ps:List (V×V)}{Ok:Hp->Prop}{js:LN}{tt:TT}{te:TE}{σ:St}{Q:VK}{H1:Hp}(hz:ps.length<=sizeLine)(p:V×V->Bool)(f:V×V->V)
  (hok:∀ H,AA H1 H->Ok H)
  (ht:∀ x H (R:Bool->Hp->Prop),AA H1 H->x∈ps->(∀ H',AA H H'->R (p x) H')->tt (some x.1 :: some x.2 :: js.map λj=>(σ[j]?).join) H R)
  (he:∀ x H (R:V->Hp->Prop),AA H1 H->x∈ps->p x=true->(∀ H',AA H H'->R (f x) H')->te (some x.1 :: some x.2 :: js.map λj=>(σ[j]?).join) H R)
  (hd:∀ D H',H1 D=none->AA H1 H'->H' D=some (.lst ((ps.filter p).map f))->Q (.ref D) H'):
  Aa 2 js (g2 K 0 1) tt te σ Q (HQ ps Ok) H1 :=
 Sk hz p (λ_ x v _=>v=f x) (λ_ _ _ _ _ _ z=>z) hok ht (λD x H R hs _ _ hx hp k=>he x H R hs hx hp λH' s'=>k _ _ s' rfl)
  λD H' ys hD hs hl hp=>hd D H' hD hs (by rw[hl,Pd hp])
def EY{J:It}{xs:LV}{Ok:Hp->Prop}(R:F5 J xs Ok){js:LN}{tt:TT}{te:TE}{σ:St}{Q:VK}{H1:Hp}(hz:xs.length<=sizeLine)(p:V->Bool)(f:V->V)
  (hok:∀ H,AA H1 H->Ok H)
  (ht:∀ x H (R:Bool->Hp->Prop),AA H1 H->x∈xs->(∀ H',AA H H'->R (p x) H')->tt (some x :: js.map λj=>(σ[j]?).join) H R)
  (he:∀ x H (R:V->Hp->Prop),AA H1 H->x∈xs->p x=true->(∀ H',AA H H'->R (f x) H')->te (some x :: js.map λj=>(σ[j]?).join) H R)
  (hd:∀ D H',H1 D=none->AA H1 H'->H' D=some (.lst ((xs.filter p).map f))->Q (.ref D) H'):
  Aa 1 js (Dp 0) tt te σ Q J H1 :=
 Lo R hz p (λ_ x v _=>v=f x) (λ_ _ _ _ _ _ z=>z) hok ht (λD x H R hs _ _ hx hp k=>he x H R hs hx hp λH' s'=>k _ _ s' rfl)
  λD H' ys hD hs hl hp=>hd D H' hD hs (by rw[hl,Pd hp])
section
variable {X:Cx}
theorem ZP{d:Dat}{n:Nat}(h2:kqdOk n d=true):∀ {ds:List Dat},ds.all (kqdOk 8)=true->((kqdPs ds).any λy=>PyData.eqv y (kqdP d))=ds.any λe=>CL e d
 | [],_=>by rw[kqdPs];rfl
 | e :: ds,h=>by
  rw[List.all_cons,Du]at h;rw[kqdPs,Ke,Ke,SI h.1 h2,ZP h2 h.2]
def vw(K:Fg)(f:Bool->Bool):R2:=λx y H Q=>∃ d ds,Rep K H x d/\Rep K H y (.list ds)/\kqdOk 9 d=true/\ds.all (kqdOk 8)=true/\Q (.bl (f (ds.any λe=>CL e d))) H
def aV{ds:List Dat}(h:ds.all (kqdOk 8)=true):SeqAt.shaped (PyData.list (kqdPs ds))=true:=by
 have:=JF (d:=.list ds) (by rw[kqdOk];exact h);rw[kqdP]at this;exact this
def oF(hu:X.A.units + 65<cLine):Bb X (compareOp .NotIn) (vw X.K Bool.not):=by
 exfalso;obtain⟨d,ds,h1,h2,k1,k2,q⟩:=h;obtain⟨as,ra⟩:=h1.reads I rx;obtain⟨bs,rb⟩:=h2.reads I ry;rw[kqdP]at rb;exact SeqAt.notIn_list_reads rb ra (To (aV k2)) (To (JF k1)) (room_in_shaped (JF k1) hu) (BP I q (by rw[ZP k1 k2]))
end
def AF(i:Nat):V:=.int (i:Nat)
def G9(i:Nat):Dat:=.int (i:Nat)
theorem bW{K:Fg}{H:Hp}:∀ ns:LN,A1 K H (ns.map AF) (ns.map G9)
 | []=>.nil
 | n :: r=>.cons (.int _) (bW r)
def uc(n:Nat)(ns:LN):kqdOk (n + 1) (.list (ns.map G9))=true:=by
 rw[kqdOk,Cr];intro z hz;obtain⟨x,_,rfl⟩:=Yg.mp hz;unfold G9;rw[kqdOk]
def V7(n:Nat):CW 0 n=(List.range n).map AF:=by
 refine OF λi=>?_;by_cases hi:i<n
 ·have h1:(CW 0 n)[i]?=some ((CW 0 n)[i]'(by rw[Ca];exact hi)):=Yb _;obtain⟨_,e⟩:=Ds h1;rw[h1,e,Yi,JI hi];show some (V.int (0 + (i:Nat)))=some (V.int (i:Nat));rw[FL]
 ·rw[FI (by rw[Ca];omega),FI (by simp;omega)]
end L2
namespace L2
open PySem PySem.Spec PyProof.Rows
def jj(k:Nat)(v:Value):Bool:=match v with
 | .int i _=>i == (k:Nat)
 | _=>false
def tE{ms:LN}{its:LU}(r:AQ (ms.map AF) its){m:Nat}{u:Value}(h:its[m]?=some u):∃ i t,ms[m]?=some i/\u=.int (i:Nat) t:=by
 have hl:=r.length;rw[Ya]at hl;have hm:m<ms.length:=by have:=(Ye.mp h).1;omega
 have hx:(ms.map AF)[m]?=some (AF ms[m]):=by rw[Yi,Yb hm];rfl
 obtain⟨u',BJ,ru⟩:=r.get hx;rw[h]at BJ;cases BJ;obtain⟨t,e⟩:=(show ∃ t,u=Value.int (ms[m]:Nat) t from ru);exact⟨ms[m],t,Yb hm,e⟩
theorem bJ:∀ {ms:LN}{k m:Nat},m<ms.idxOf k->ms[m]?≠some k
 | [],k,m,h=>by simp
 | a :: r,k,m,h=>by
  rw[MR]at h;by_cases e:a=k
  ·simp[e]at h
  ·have e':(a == k)=false:=by simpa using e
   rw[e']at h;cases m with
   | zero=>simp[e]
   | succ m =>
    rw[MY];exact bJ (by simpa using h)
theorem bF:∀(ms:LN) (k:Nat),ms.eraseIdx (ms.idxOf k)=ms.erase k
 | [],k=>by simp
 | a :: r,k=>by
  rw[MR,List.erase_cons];by_cases e:a=k
  ·simp[e]
  ·have e':(a == k)=false:=by simpa using e
   rw[e',if_neg (by decide)];simp only[cond_false,QQ];rw[bF r k]
theorem Vn{α β:Type}(f:α->β):∀(l:List α) (j:Nat),(l.map f).eraseIdx j=(l.eraseIdx j).map f
 | [],_=>rfl
 | _ :: _,0=>rfl
 | a :: r,j + 1=>by
  rw[Yo,QQ,QQ,Yo,Vn f r j]
section
variable {X:Cx}
def vL:V->LV->Hp->VK->Prop:=λx vs H Q=>∃(l:Addr) (ms:LN) (k:Nat),x=.ref l/\vs=[.int (k:Nat)]/\H l=some (.lst (ms.map AF))/\k∈ms/\Q .non (upd H l (.lst ((ms.erase k).map AF)))
def nG:Me X "list.remove" vL:=by
 intro pins s σ H x vs v us Q I rx rv h;obtain⟨l,ms,k,rfl,rfl,hH,hk,q⟩:=h;cases rx;obtain⟨u,rfl,ru⟩:=rv.one;obtain⟨t,rfl⟩:=ru;obtain⟨z,its,n,r,hl,e⟩:=I.lstM hH;have CB:its.length=ms.length:=by rw[<- hl,Ya]
 have hj:ms.idxOf k<ms.length:=Wy hk;have get:∀ m (hm:m<its.toArray.size),∃ t,its.toArray[m]=.int ((ms[m]'(by simp at hm;omega):Nat):Int) t:=λm hm=>by
  have F0:m<its.length:=by simpa using hm
  obtain⟨i,t,h1,h2⟩:=tE r (Yb F0);have e1:ms[m]'(by omega)=i:=Ba ((Yb (by omega)).symm.trans h1);refine⟨t,?_⟩;rw[e1];simpa using h2
 refine call_meets Th ⟨_,e,Y⟩ PySem.F.entry_list_remove (PySem.F.args_list_remove_2 _ _)
  (MeetsSeq.list_remove l its.toArray n (.int (k:Nat) t) (jj k) (λy hy=>?_) (ms.idxOf k) (by simp;omega) ?_ (λm hm AZ=>?_) (by simp;omega)) ⟨e,?_⟩
 ·obtain⟨m,hm,e'⟩:=Array.getElem_of_mem hy;obtain⟨t',e2⟩:=get m hm;rw[<- e',e2];exact MeetsSeq.EqGives.int _ _ _ _
 ·obtain⟨t',e2⟩:=get (ms.idxOf k) (by simp;omega);rw[e2];show(((ms[ms.idxOf k]:Nat):Int) == (k:Nat))=true;rw[Tn hj];simp
 ·obtain⟨t',e2⟩:=get m hm;rw[e2];have F0:m<ms.length:=by simp at hm;omega
  show(((ms[m]:Nat):Int) == (k:Nat))=false;have:ms[m]≠k:=λz=>bJ AZ (by rw[Yb F0,z]);rw[beq_eq_false_iff_ne];intro z;exact this (by omega)
 ·refine⟨.non,_,I.lset (its':=its.eraseIdx (ms.idxOf k)) (ys:=(ms.map AF).eraseIdx (ms.idxOf k)) hH e ?_ (r.eraseIdx _) ?_,Y,?_⟩
  ·show its.toArray.eraseIdxIfInBounds _=(its.eraseIdx _).toArray;rw[W3]
  ·have:=Vq (ms.map AF) (ms.idxOf k);omega
  ·rw[Vn,bF];exact q
end
end L2
namespace L2
open PySem PySem.W PySem.Spec PyProof.Rows
theorem aN:∀ {ds:List Dat}{m:Nat}{e:Dat},ds[m]?=some e->(kqdPs ds)[m]?=some (kqdP e)
 | [],_,_,h=>by simp at h
 | a :: r,0,e,h=>by
  rw[kqdPs];have:a=e:=by simpa using h
  rw[this];rfl
 | a :: r,m + 1,e,h=>by
  rw[kqdPs,MY];exact aN (by simpa using h)
theorem bO:∀ ds:List Dat,(kqdPs ds).length=ds.length
 | []=>by rw[kqdPs];rfl
 | a :: r=>by rw[kqdPs,Bv,Bv,bO r]
section
variable {X:Cx}
def Zn(K:Fg):V->LV->Hp->VK->Prop:=λx vs H Q=>∃ y d ds j e,vs=[y]/\Rep K H x (.list ds)/\Rep K H y d/\ds.all (kqdOk 8)=true/\kqdOk 9 d=true/\ds.length<=100000/\ds[j]?=some e/\CL e d=true/\(∀ m e,m<j->ds[m]?=some e->CL e d=false)/\Q (.int (j:Nat)) H
def Vs(hu:X.A.units + 65<cLine):Me X "list.index" (Zn X.K):=by
 intro pins s σ H x vs v us Q I rx rv h;obtain⟨y,d,ds,j,e,rfl,h1,h2,k1,k2,hz,he,hd,hno,q⟩:=h;obtain⟨u,rfl,ru⟩:=rv.one;obtain⟨as,ra⟩:=h1.reads I rx;obtain⟨bs,rb⟩:=h2.reads I ru;rw[kqdP]at ra;have YN:=To (aV k1);have hdl:=To (JF k2);cases ra with
 | @list l ob its n _ _ a1 a2 a3 a4 =>
  obtain⟨cls,dd,data,sl⟩:=ob;simp only at a2 a3;subst a2 a3;have hm:=SeqAt.readsAll_map _ _ _ YN a4;have hml:its.size=ds.length:=by
   have:=congrArg List.length hm;rw[Ya,bO]at this;simpa using this
  have Xh:∀ m (e:Dat),ds[m]?=some e->kqdOk 8 e=true:=λm e h=>Cr.mp k1 e (Yc h);have val:∀ m (e:Dat) (F0:m<its.size),ds[m]?=some e->PyData.eqv (SeqAt.readOf s.heap its[m]) (kqdP d)=CL e d:=λm e F0 h=>by
   have e1:=aN h;rw[<- hm,Yi]at e1;have e2:its.toList[m]?=some its[m]:=by simp[F0]
   rw[e2]at e1;have e1:SeqAt.readOf s.heap its[m]=kqdP e:=Ba e1;rw[e1];exact SI (Xh m e h) k2
  have hj:j<its.size:=by have:=(Ye.mp he).1;omega
  refine call_meets Ts ⟨_,a1,Y⟩ PySem.F.entry_list_index (PySem.F.args_list_index_2 _ _)
   (SeqAt.list_indexAt l its n dd sl u (λy=>PyData.eqv (SeqAt.readOf s.heap y) (kqdP d)) j hj (by omega) ?_ ?_) ⟨a1,SeqAt.items_eqAt a4 rb YN hdl (room_in_shaped (JF k2) hu),?_⟩
  ·show PyData.eqv (SeqAt.readOf s.heap its[j]) (kqdP d)=true;rw[val j e hj he];exact hd
  ·intro m F0 AZ;show PyData.eqv (SeqAt.readOf s.heap its[m]) (kqdP d)=false;have h0:ds[m]?=some (ds[m]'(by omega)):=Yb (by omega);rw[val m _ F0 h0];exact hno m _ AZ h0
  ·exact⟨.int j,H,I.tok _,⟨Z⟩,q⟩
end
end L2
namespace L2
open PySem PySem.Spec PyProof.Rows
section
variable {prog:Program}{w:World}{A:Around}{E:EV}{s:Shared}{d it:Addr}{es:Array DictEntry}{ep i:Nat}
end
section
variable {X:Cx}{pins:PL}{σ:St}{H H':Hp}{s:Shared}{a:Addr}{kvs:List (List Key×V)}{o:Obj}
end
section
variable {X:Cx}{tg:Expr}
end
structure ij(h:Heap)(e T:Addr)(cls:Value)(dx:Option Addr)(fl:Value):Prop where
 ne:T≠e
 obj:∃ oe vs,h.get? e=some oe/\oe.cls=cls/\oe.dict=dx/\oe.data=.fields vs/\vs[1]?=some (.ref T)
 tb:∃ oT ts,h.get? T=some oT/\oT.data=.fields ts/\ts[3]?=some fl
structure yO(S R:List Addr)(h h':Heap):Prop where
 sz:h.objs.size<=h'.objs.size
 keep:∀ b o,h.get? b=some o->b∉S->b∉R->h'.get? b=some o
 slot:∀ b o,h.get? b=some o->b∉R->∃ sl,h'.get? b=some {o with slots:=sl}
 there:∀ b o,h.get? b=some o->∃ o',h'.get? b=some o'
section
variable {M:Model}{A:Around}{E:EV}{s:Shared}
end
def ig(P:Program)(w:World):Gp:=λouter H s E ev s'=>∃(e T:Addr) (cls:Value) (dx:Option Addr) (H':Hp),ev=.ref e/\s'.os=s.os/\AllBare s'.gens/\Un (F3 outer) [] H H' s.heap s'.heap/\Bf P w H' s'.heap /\
 H' e=none/\H' T=none/\s.heap.objs.size<=e/\s.heap.objs.size<=T/\ij s'.heap e T cls dx .none/\E cls dx H'
structure yK(X:Cx)(E:XK):Prop where
 xe:X.xe=λe s'=>wpAny (model X.prog X.w) X.A (leaving X.env e) (λ_ BR=>ig X.prog X.w X.outer X.H₀ X.s₀ E e BR) (λe' BR=>ig X.prog X.w X.outer X.H₀ X.s₀ E e' BR) s'
 stk:X.stack=X.env :: X.outer
 fr:X.env.frame=some X.env.locals
 ex:X.ex=[]
section
variable {X:Cx}{pins:PL}{σ:St}{H:Hp}{s:Shared}{E:XK}{e T:Addr}{cls:Value}{dx:Option Addr}
end
end L2
namespace L2
open PySem PySem.Spec
structure xQ(K:Fg)(C:Addr):Prop where
 obj:∃ nm q N bs bm hdct sn sub ab col dd k0 k1 k2 k3 k5,K.lookup C=some (excClassObj nm q C N bs bm hdct sn sub ab col dd k0 k1 k2 k3 k5 "ValueError.__new__")
 val:W.subIn K (.ref C) (.type "ValueError")=some true
 bas:W.subIn K (.ref C) (.type "BaseException")=some true
 att:W.subIn K (.ref C) (.type "AttributeError")=some false
 nam:W.subIn K (.ref C) (.type "NameError")=some false
 kp:W.keepIn K (.ref C)=true
section
variable {K:Fg}{prog:Program}{w:World}{A:Around}{E:EV}{h:Heap}{g:Array GenState}{d:Drawn}{t:Nat}{os:OsState}{C:Addr}
end
end L2
namespace L2
open PySem PySem.Spec PySem.Builtin PySem.Builtin.ObjectAttr PySem.W
structure xR(K:Fg)(C:Addr):Prop extends xQ K C where
 ga:W.findIn K (.ref C) "__getattribute__"=some (some (.builtin "BaseException.__getattribute__"))
 gt:W.findIn K (.ref C) "__getattr__"=some none
 ca:W.findIn K (.ref C) "__class__"=some (some (.builtin "object.__class__"))
 cg:W.specialIn K (.builtin "object.__class__") "__get__"=some (some (.builtin "getset_descriptor.__get__"))
 ct:W.takesIn K (.builtin "object.__class__")=some true
 ob:W.mroIn K C (.type "object")=some true
section
variable {K:Fg}{prog:Program}{w:World}{A:Around}{E:EV}{h:Heap}{g:Array GenState}{d:Drawn}{t:Nat}{os:OsState}{x C:Addr}{ox:Obj}{od:Option Obj}{name:Str}
end
end L2
namespace L2
open PySem PySem.Spec PyProof.Rows
abbrev TF:=St->Hp->(Hp->Prop)->Prop
section
variable {X:Cx}{e:Expr}{es:List Expr}{te:TE}{t u:TF}{pos:Pos}
end
section
variable {X:Cx}{E:XK}{C:Addr}{x:Str}{np Ac pos:Pos}{e:Expr}{es:List Expr}{t:TA}
end
section
variable {X:Cx}{pins:PL}{σ:St}{H:Hp}{s:Shared}{A:Around}{E:EV}{Q:EV}{e C:Addr}{dx:Option Addr}{cv:Value}{b:Bool}
end
abbrev ib:=Value->Option Addr->St->Hp->Prop
abbrev ic:=JH->ib->St->Hp->Prop
abbrev xA:=St->Hp->VK->XK->Prop
def XP(X:Cx)(pins:PL)(E:ib)(ev:Value)(s':Shared):Prop:=∃(e T:Addr) (cls:Value) (dx:Option Addr) (σ':St) (H':Hp),ev=.ref e/\Inv X pins σ' H' s'/\Br X pins H' e/\Br X pins H' T/\ij s'.heap e T cls dx .none/\E cls dx σ' H'
section
variable {X:Cx}{st:Stmt}{E9:List Stmt}{t u:ic}{e:Expr}{te:xA}{pos:Pos}
end
section
variable {X:Cx}{k:Nat}{f C:Addr}{fd:FuncData}{ps:LS}{sp:Sp}{Cn:LV}{ds:LU}{x m:Str}{p pos apos:Pos}{e o:Expr}{es:List Expr}{ta:TE}{t:TA}
end
section
variable {K:Fg}{M:Model}{A:Around}{E:EV}{h:Heap}{g:Array GenState}{d:Drawn}{t:Nat}{os:OsState}{e C D:Addr}
end
section
variable {X:Cx}{pins:PL}{σ:St}{H:Hp}{s:Shared}
end
section
variable {X:Cx}{D:Addr}{body:List Stmt}{t:ic}{x n dn:Str}{np xp ep ap hp pos:Pos}{i j:Nat}
end
section
variable {X:Cx}{k:Nat}{f C:Addr}{fd:FuncData}{ps:LS}{sp:Sp}{x m:Str}{p pos apos:Pos}{e o:Expr}{es:List Expr}{ta:TE}{t:TA}
end
def Wb(H:Hp)(p:Int×Int)(v:V):Prop:=∃ t,v=.ref t/\H t=some (.tup [.int p.1,.int p.2])
section
variable {X:Cx}
end
end L2
namespace L2
open PySem PySem.W PySem.Spec PyProof.Rows
section
variable {X:Cx}{e:Expr}{te:TE}{pos:Pos}{k:Nat}
end
end L2
namespace L2
open PySem PySem.Spec PyProof.Rows HT
section
variable {prog:Program}{w:World}{A:Around}{E:EV}{s:Shared}
end
end L2
namespace L2
open PySem PySem.Spec PyProof.Rows
section
variable {X:Cx}
end
end L2
namespace L2
open PySem PySem.Spec PySem.Builtin PySem.Builtin.ObjectAttr PySem.W
structure yL(K:Fg)(C D:Addr)(a:Str):Prop extends xR K C where
 lk:∃ nm q N bs sn sub ab col dd k0 k1 k2 k3 k5,K.lookup C=some (excClassObj nm q C N bs [.ref D,.type "ValueError",.type "Exception",.type "BaseException",.type "object"] true sn sub ab col dd k0 k1 k2 k3 k5 "ValueError.__new__")
 sa:W.findIn K (.ref C) "__setattr__"=some (some (.builtin "object.__setattr__"))
 na:W.findIn K (.ref C) a=some none
section
variable {K:Fg}{prog:Program}{w:World}{A:Around}{E:EV}{s:Shared}{C D e t0:Addr}{a:Str}{v:Value}
end
end L2
namespace L2
open PySem PySem.Spec PyProof.Rows
structure yM(K:Fg)(D:Addr):Prop where
 ga:W.specialIn K (.ref D) "__getattribute__"=some (some (.builtin "type.__getattribute__"))
 rd:W.readsIn K D (.type "type")=true
 fi:W.findCls K (.ref D) (.type "type") "__init__"=some (.val (.builtin "ValueError.__init__"))
section
variable {X:Cx}{pins:PL}{σ:St}{H:Hp}{s:Shared}{a:Addr}{φ:Heap->Prop}
end
section
variable {X:Cx}{C D f:Addr}{fd:FuncData}{k:Nat}{x dn a:Str}{np Ac pos apos pos':Pos}{e o value:Expr}{es:List Expr}{t:TA}{ta tv:TE}{ps:LS}
end
theorem O4:∀(names:List (Str×NameKind)) (n:Nat) (acc:List (Str×Addr)),cellsFrom n names acc=cellsFrom n names []++acc
 | [],_,_=>rfl
 | (x,k):: r,n,acc=>by
  unfold cellsFrom;split
  ·rw[O4 r (n + 1) ((x,n):: acc),O4 r (n + 1) [(x,n)],JN];rfl
  ·exact O4 r n acc
theorem SH:∀(names:List (Str×NameKind)) (n:Nat) (y:Str×Addr),y∈cellsFrom n names []->(y.1,NameKind.cell)∈names
 | [],_,_,h=>by cases h
 | (x,k):: r,n,y,h=>by
  unfold cellsFrom at h;split at h
  ·rename_i hk
   have Cd:k=.cell:=by simpa using hk
   rw[O4]at h
   rcases Yv.mp h with z | z
   ·exact FH _ (SH r (n + 1) y z)
   ·rw[Yj.mp z,Cd];exact Ma
  ·exact FH _ (SH r n y h)
def m3{M:Model}{A:Around}{E:EV}{s:Shared}{scope:Scope}{globals:Addr}{closure:List (Str×Addr)}{qual:Str}{outer:Env}{builtins:Addr}{Q:Env->Shared->Prop}
  (hQ:∀ h',h'.Ns s.heap.objs.size (λ_=>none)->(∀ b o,s.heap.get? b=some o->h'.get? b=some o)->CellsOk h' (s.heap.objs.size + 1) (cellsFrom (s.heap.objs.size + 1) scope.names []) ->
   Q (newEnv scope s.heap.objs.size globals (cellsFrom (s.heap.objs.size + 1) scope.names []++closure) qual none .none (some outer) builtins) {s with heap:=h' }):
  wpAny M A (newFunctionEnv scope globals closure [] qual none .none (some outer) builtins) Q E s:=by
 simp only[newFunctionEnv,Option.isSome_some,if_true];refine Ja (wpAny_alloc ?_);refine Ja (wpAny_layCells _ (λname kind cells=>by cases hkc:kind == NameKind.cell <;> simp[hkc]) _ _ _ _ ?_);have ok:=cellsFrom_ok scope.names (s.heap.push {cls:=.type "dict",data:=.dict #[] }) (s.heap.objs.size + 1) [] ⟨λ_ _ hm=>(nomatch hm),List.Pairwise.nil⟩ (by rw[Ec];exact Yf _);rw[Ec]at ok;rw[show({s with heap:=s.heap.push {cls:=.type "dict",data:=.dict #[] } }:Shared).heap.objs.size=s.heap.objs.size + 1 from Ec ..];rw[List.forIn_nil];refine Ja (Jd (Jd ?_));have q:=hQ _ ((Heap.Ns.new s.heap (.type "dict")).keeps (pushCells_keeps scope.names _)) (λb o e=>pushCells_keeps _ _ b o (Yd _ e)) ok;rw[O4];exact q
abbrev EW(X:Cx)(scope:Scope)(N:LS)(C:Addr)(s:Shared)(H:Hp)(fp:List Addr):Cx :=
 {X with N:=N,s₀:=s,H₀:=H,env:=compEnvC scope (cellsFrom (C + 1) scope.names []++CN X.env scope.names []) C X.env,outer:=X.stack,ex:=fp,fn:=λx=>scope.names.lookup x == some .cell,pn:=[],xe:=λ_ _=>False}
structure Fi(X:Cx)(scope:Scope)(own frees:LS)(js:LN):Prop where
 calm:X.calm=true
 kind:scope.kind=.function
 cells:∀ y∈scope.names,y.2=.cell->scope.names.lookup y.1=some .cell
 locals:∀ y∈scope.names,y.2=.local->scope.names.lookup y.1=some .local
 fr:∀ y∈scope.names,y.2=.free->X.env.scope.names.lookup y.1=some .cell\/X.env.scope.names.lookup y.1=some .free
 fre:∀ x∈frees,scope.names.lookup x=some .free
 slots:js.map (λj=>X.N[j]?)=frees.map some
section
variable {X:Cx}{pins:PL}{σ:St}{scope:Scope}{own frees:LS}{js:LN}
def Fi.clo(c:Fi X scope own frees js)(ok:X.Ok):∀ y∈scope.names,y.2=.free->∃ a,X.env.cells.lookup y.1=some a:=λy hy e=>by
 rcases c.fr y hy e with h | h
 ·exact ok.has y.1 (.inl h)
 ·exact ok.has y.1 (.inr h)
def Fi.cl(c:Fi X scope own frees js)(ok:X.Ok){n:Nat}{x:Str}{a:Addr}(h:(cellsFrom n scope.names []++CN X.env scope.names []).lookup x=some a):
  ((x,a)∈cellsFrom n scope.names []/\scope.names.lookup x=some .cell)\/X.env.cells.lookup x=some a:=by
 rw[Tj]at h;cases q:(cellsFrom n scope.names []).lookup x with
 | some b =>
  rw[q]at h;cases h;have m:=Dv q;exact .inl ⟨m,c.cells _ (SH _ _ _ m) rfl⟩
 | none =>
  rw[q]at h;exact .inr (Pk scope.names [] x a (c.clo ok) (λ_ _ z=>by simp at z) h)
def Fi.has(c:Fi X scope own frees js){n:Nat}{x:Str}(h:scope.names.lookup x=some .free):∃ a,(cellsFrom n scope.names []++CN X.env scope.names []).lookup x=some a/\(CN X.env scope.names []).lookup x=some a:=by
 have q:(cellsFrom n scope.names []).lookup x=none:=by
  cases q:(cellsFrom n scope.names []).lookup x with
  | none=>rfl
  | some b =>
   have z:=c.cells _ (SH _ _ _ (Dv q)) rfl;rw[show scope.names.lookup x=some .cell from z]at h;cases h
 obtain⟨a,ha⟩:=OI.mp (SR (env:=X.env) scope.names [] x (Dv h));exact⟨a,by rw[Tj,q];exact ha,ha⟩
def Fi.hasC{n:Nat}{x:Str}(h:scope.names.lookup x=some .cell):∃ a,(cellsFrom n scope.names []++CN X.env scope.names []).lookup x=some a:=by
 obtain⟨a,ha⟩:=OI.mp (W.cellsFrom_some scope.names n [] (.inl h));exact⟨a,by rw[Tj,ha];rfl⟩
theorem Fi.ok{s2:Shared}{H2:Hp}{fp:List Addr}{C:Addr}{h':Heap}(c:Fi X scope own frees js)(I:Inv X pins σ H2 s2)(f2:∀ b∈fp,Br X pins H2 b)(AZ:∀ b∈fp,b<s2.heap.objs.size)(hC:s2.heap.objs.size<=C)(N:LS)
  (co:CellsOk h' (C + 1) (cellsFrom (C + 1) scope.names [])):(EW X scope N C s2 H2 fp).Ok where
 mod:=I.ok.mod
 kind:=c.kind
 glob:=I.ok.glob
 blt:=I.ok.blt
 above:=hC
 inj:=λx y a h1 h2=>by
  have old:∀ z,X.env.cells.lookup z=some a->a<s2.heap.objs.size:=λz q=>by
   obtain⟨v,r⟩:=I.cell z a q;exact r.lt
  have new:∀ z,(z,a)∈cellsFrom (C + 1) scope.names []->C + 1<=a:=λz q=>(co.empty z a q).2
  rcases c.cl I.ok h1 with⟨z1,_⟩ | z1 <;> rcases c.cl I.ok h2 with⟨z2,_⟩ | z2
  ·exact name_of_addr co.apart z1 z2
  ·exact absurd (Yp (Yp (old _ z2) hC) (Nat.le_of_succ_le (new _ z1))) (IF _)
  ·exact absurd (Yp (Yp (old _ z1) hC) (Nat.le_of_succ_le (new _ z2))) (IF _)
  ·exact I.ok.inj x y a z1 z2
 has:=λx h=>by
  have h':scope.names.lookup x=some .free\/scope.names.lookup x=some .cell:=WL (env:=X.env) h
  rcases h' with h' | h'
  ·obtain⟨a,z,_⟩:=c.has (n:=C + 1) h';exact⟨a,z⟩
  ·exact Fi.hasC h'
 cab:=λx a h h1=>by
  have hx:scope.names.lookup x=some .cell:=by simpa using h
  rcases c.cl I.ok h1 with⟨z,_⟩ | z
  ·have:=(co.empty x a z).2;show s2.heap.objs.size<=a;omega
  ·have q:(cellsFrom (C + 1) scope.names []++CN X.env scope.names []).lookup x=some a:=h1;obtain⟨b,hb⟩:=OI.mp (W.cellsFrom_some scope.names (C + 1) [] (.inl hx));rw[Tj,hb]at q;cases q;have:=(co.empty x a (Dv hb)).2;show s2.heap.objs.size<=a;omega
 hd:=λh=>I.ok.hd h
 frames:=I.ok.frames
 stk:=.inl rfl
 exf:=λb hb=>⟨A8 (Yp (AZ b hb) hC),λx a h=>by
  rcases c.cl I.ok h with⟨z,_⟩ | z
  ·exact Eb (Yp (Yp (AZ b hb) hC) (Nat.le_of_succ_le (co.empty x a z).2))
  ·exact(f2 b hb).2.2.2.2.1 x a z⟩
 bs:=I.bs
 bsz:=A7 I.ok.bsz I.sz
 noex:=λb o e hb=>by
  rcases(f2 b hb).2.2.2.1 with z | z
  ·exact I.ok.noex b o e z
  ·exact absurd (Yp (Yl e) (A7 I.ok.bsz z)) (IF _)
 exfs:=λb hb z=>by
  rcases Yw.mp (I.stkSub b z)with e | e
  ·exact(f2 b hb).2.1 e
  ·exact(f2 b hb).2.2.1 e
 funs:=I.stack
 frf:=I.stkFree
def qI{s2:Shared}{tg iter elt:Expr}{ifs:List Expr}{pos:Pos}{g:TG}{tt:TT}{te:TE}{Q:VK}{RR:Value->Addr->Result->Shared->Prop}{itv:Value}{E:EV}
  (c:Fi X scope own frees js)
  (hg:∀ C s H fp,PG (EW X scope (own++frees) C s H fp) tg g) (ht:∀ C s H fp,Mc (EW X scope (own++frees) C s H fp) ifs tt) (he:∀ C s H fp,PE (EW X scope (own++frees) C s H fp) elt te)
  (h:Tw X pins σ tg (Aa own.length js g tt te σ Q) itv s2)
  (hR:∀ D C H' s',Inv X pins σ H' s'->Br X pins H' C->(∃ m,s'.heap.Ns C m)->Q (.ref D) H'->RR (.ref D) C (.ok .next) s'):
  wpAny (model X.prog X.w) X.A (newList []) (λacc s₃=>wpAny (model X.prog X.w) X.A (newFunctionEnv scope X.env.globals (CN X.env scope.names []) [] X.env.qual none .none (some X.env)) (λcenv s₄ =>
   codeAny (model X.prog X.w) X.A (.compStart (.ListComp elt [⟨tg,iter,ifs,0⟩] scope pos) 0 itv acc {cenv with scope:=relabel scope X.env}) (RR acc cenv.locals) s₄) E s₃) E s2:=by
 obtain⟨it,fp,tn,J,H2,e,I2,T,EH,f2,hq⟩:=h;subst e;refine wpAny_newObj_type (m3 λh₁ hns₁ kp₁ co₁=>?_);dsimp only at hns₁ kp₁ co₁ ⊢;generalize LJ:s2.heap.push {cls:=.type "list",dict:=none,data:=.seq ([]:LU).toArray}=G2 at hns₁ kp₁ co₁ ⊢;have hC:G2.objs.size=s2.heap.objs.size + 1:=by rw[<- LJ,Ec]
 have hDC:s2.heap.objs.size≠G2.objs.size:=by rw[hC];exact A8 (Nat.lt_succ_self _)
 have hCle:s2.heap.objs.size<=G2.objs.size:=by rw[hC];exact IK _
 have old:∀ b o,s2.heap.get? b=some o->h₁.get? b=some o:=λb o e=>kp₁ b o (LJ ▸ Yd _ e);have hD:H2 s2.heap.objs.size=none:=I2.hok.fresh (Yf _);have AZ:∀ b∈fp,b<s2.heap.objs.size:=λb hb=>by
  obtain⟨o,e,_⟩:=T.obj _ _ EH b hb;exact Yl e
 have Ey:h₁.get? s2.heap.objs.size=some {cls:=.type "list",data:=.seq ([]:LU).toArray}:=kp₁ _ _ (LJ ▸ Yk _ rfl);obtain⟨W,⟨m0,w0⟩,turn⟩:=hq _ hD;have I0:∀ tk,Inv (EW X scope (own++frees) G2.objs.size s2 H2 fp) [] (Hd own.length js σ) (upd H2 s2.heap.objs.size (.lst [])) {s2 with heap:=h₁,toks:=tk}:=λtk=>by
  refine⟨c.ok I2 f2 AZ hCle _ co₁,Y,I2.bare,Un.laid old (Yf _) hD,⟨_,hns₁,λi x v h1 h2 h3=>?_⟩,λx a h=>?_,?_,λx a h=>?_,λp hp=>absurd (show p∈([]:PL)from hp) (by simp),I2.hok.laid old (Yf _) ⟨BF _,[],0,.nil,Ey⟩,?_⟩
  ·have hi:own.length<=i:=by
    by_cases hi:i<own.length
    ·unfold Hd at h2;rw[MN (by simpa using hi),Wr]at h2;rw[if_pos hi]at h2;cases h2
    ·omega
   have hx:frees[i - own.length]?=some x:=by
    have Ei:(own++frees)[i]?=some x:=h1
    rwa [JP hi]at Ei
   have LK:(js.map λj=>(σ[j]?).join)[i - own.length]?=some (some v):=by
    unfold Hd at h2;rw[JP (by simpa using hi)]at h2;simpa using h2
   rw[Yi]at LK;obtain⟨j,hj,hjv⟩:=IJ.mp LK;have hs:=congrArg (λl=>l[i - own.length]?) c.slots;rw[Yi,Yi,hj,hx]at hs;have hNj:X.N[j]?=some x:=Ba hs;have hσ:σ[j]?=some (some v):=by
    cases q:σ[j]? with
    | none=>rw[q]at hjv;cases hjv
    | some o =>
     rw[q]at hjv;have:o=some v:=hjv;rw[this]
   have As:=c.fre x (Yc hx);have hXk:=c.fr (x,.free) (Dv As) rfl;obtain⟨m,hn,hl⟩:=I2.loc;have vis:QS X.env.scope x:=by rcases hXk with k | k;exact .inr (.inl k);exact .inr (.inr k)
   obtain⟨u,r,l⟩:=hl j x v hNj hσ vis;refine⟨u,r,.inr ⟨WM (env:=X.env) As,?_⟩⟩
   rcases l with⟨hk,_⟩ | ⟨_,a,ha,hcell⟩
   ·rcases hXk with k | k
    ·have hk:X.env.scope.names.lookup x=some .local:=hk;rw[show X.env.scope.names.lookup x=some .cell from k]at hk;cases hk
    ·have hk:X.env.scope.names.lookup x=some .local:=hk;rw[show X.env.scope.names.lookup x=some .free from k]at hk;cases hk
   ·obtain⟨a',Ro,jm⟩:=c.has (n:=G2.objs.size + 1) As;have e:=Pk scope.names [] x a' (c.clo I2.ok) (λ_ _ z=>by simp at z) jm;rw[ha]at e;cases e;obtain⟨o,ho,hd⟩:=hcell;exact⟨a,Ro,o,old a o ho,hd⟩
  ·rcases c.cl I2.ok h with⟨z,_⟩ | z
   ·exact⟨none,(co₁.empty x a z).1⟩
   ·obtain⟨v,o,ho,hd⟩:=I2.cell x a z;exact⟨v,o,old a o ho,hd⟩
  ·show upd H2 s2.heap.objs.size (.lst []) G2.objs.size=none;rw[AD (Yr hDC)];exact I2.hok.fresh hCle
  ·rcases c.cl I2.ok h with⟨z,_⟩ | z
   ·have la:=(co₁.empty x a z).2;have lb:s2.heap.objs.size<a:=QR hCle (Nat.lt_of_succ_le la);rw[AD (Eb lb)];exact I2.hok.fresh (KZ lb)
   ·obtain⟨v,o,ho,hd⟩:=I2.cell x a z;rw[AD (A8 (Yl ho))];exact I2.freeC x a z
  ·rw[Zq,Yt];have:=congrArg List.length c.slots;rw[Ya,Ya]at this;omega
 have stat:∀ {H':Hp},(∀ b∈fp,H' b=none)->∀ b∈fp,Br (EW X scope (own++frees) G2.objs.size s2 H2 fp) [] H' b:=λ{H'} hn b hb=>by
  obtain⟨f0,f1,f3,f4,f5,f6⟩:=f2 b hb;refine⟨hn b hb,A8 (Yp (AZ b hb) hCle),λz=>?_,.inl hb,λx a h=>by
   rcases c.cl I2.ok h with⟨z,_⟩ | z
   ·exact Eb (Yp (Yp (AZ b hb) hCle) (Nat.le_of_succ_le (co₁.empty x a z).2))
   ·exact f5 x a z,λp hp=>absurd (show p∈([]:PL)from hp) (by simp)⟩
  rcases Yw.mp (I2.stkSub b z)with e | e
  ·exact f1 e
  ·exact f3 e
 have loop:∀ s₃:Shared,s₃={s2 with heap:=h₁,toks:=s2.toks} ->
   codeAny (model X.prog X.w) X.A (.compLoop (.ListComp elt [⟨tg,iter,ifs,0⟩] scope pos) 0 (.ref it) (.ref s2.heap.objs.size) (compEnvC scope (cellsFrom (G2.objs.size + 1) scope.names []++CN X.env scope.names []) G2.objs.size X.env))
    (RR (.ref s2.heap.objs.size) G2.objs.size) s₃:=by
  rintro s₃ rfl;refine dQ (λn s'=>∃ i ys σ' H',Inv (EW X scope (own++frees) G2.objs.size s2 H2 fp) [] σ' H' s'/\tn i s'.heap/\(∀ b∈fp,H' b=none)/\W i n ys σ' H') ?_ m0
   ⟨0,[],_,_,I0 _,T.keep _ _ _ EH λb _ o e=>old b o e,λb hb=>by rw[AD (A8 (AZ b hb))];exact(f2 b hb).1,w0⟩
  rintro n s3 ⟨i,ys,σ3,H3,I3,JY,Jw,w3⟩ E'
  rcases turn i n ys σ3 H3 w3 with⟨stop,qn⟩ | ⟨go,hz,N,hN,step⟩
  ·refine AM (T.done (EW X scope (own++frees) G2.objs.size s2 H2 fp) rfl rfl rfl c.calm i [] s3 σ3 H3 E' I3 (stat Jw) JY stop) λr s4 ⟨hr,I4⟩=>?_;subst hr;have back:Inv X pins σ H3 s4:=I2.call' (ch:=fp) I4.os I4.base I4.hok I4.bare λb hb=>⟨(f2 b hb).2.2.2.1,(f2 b hb).2.1,(f2 b hb).2.2.2.2.1,(f2 b hb).2.2.2.2.2⟩;exact hR _ _ H3 s4 back (I2.fpOk hCle I4.free) ⟨_,I4.loc.choose_spec.1⟩ qn
  ·refine AM (T.item (EW X scope (own++frees) G2.objs.size s2 H2 fp) rfl rfl rfl c.calm i [] s3 σ3 H3 E' I3 (stat Jw) JY go) λr s4 ⟨u,hr,h4⟩=>?_;subst hr;refine AM h4 λ_ s5 ⟨x,H5,I5,r5,y5,Gq,Ov⟩=>?_;have QY:=I5.pinned (stat Ov) (T.obj _ _ Gq);have nof:∀(e:Value) (s':Shared),(EW X scope (own++frees) G2.objs.size s2 H2 fp).xe e s'->E' e s':=λ_ _ z=>False.elim z;refine Jf (hg _ _ _ _ _ s5 σ3 H5 x u _ QY r5 (step x H5 y5)) (λ_ s6 ⟨σ6,H6,I6,q6⟩=>?_) nof;refine Jf (ht _ _ _ _ _ s6 σ6 H6 _ I6 q6) (λb s7 ⟨H7,I7,q7⟩=>?_) nof;have again:∀ {σ7:St} {H7:Hp} {s7:Shared} {Hc:LV},Inv (EW X scope (own++frees) G2.objs.size s2 H2 fp) ([]++Nc fp s5.heap) σ7 H7 s7->N Hc σ7 H7 ->
     ∃ m,m<n/\∃ i ys σ' H',Inv (EW X scope (own++frees) G2.objs.size s2 H2 fp) [] σ' H' s7/\tn i s7.heap/\(∀ b∈fp,H' b=none)/\W i m ys σ' H':=λ{σ7 H7 s7 Hc} I7 n7=>by
    obtain⟨m',hm,w7⟩:=hN _ _ _ n7;refine⟨m',hm,i + 1,Hc,σ7,H7,I7.unpinned,T.keep _ _ _ Gq λb hb o e=>(I7.pin (b,o) (Yy _ (Yy _ (Nz hb e)))).1,λb hb=>?_,w7⟩;obtain⟨o,e,d⟩:=T.obj _ _ Gq b hb;exact(I7.pin (b,o) (Yy _ (Yy _ (Nz hb e)))).2.1
   cases b with
   | false =>
    rw[if_neg Ym]at q7 ⊢;exact again I7 q7
   | true =>
    rw[if_pos rfl]at q7 ⊢;refine Jf (he _ _ _ _ _ s7 σ6 H7 _ I7 q7) (λv s8 ⟨y,H8,I8,r8,G0,w8⟩=>?_) nof;refine Jf (GZ (X:=EW X scope (own++frees) G2.objs.size s2 H2 fp) _ s8 σ6 H8 (.ref s2.heap.objs.size) [y] (.ref s2.heap.objs.size) [v] (λ_ H9=>H9=upd H8 s2.heap.objs.size (.lst (ys++[y]))) I8 rfl (.cons r8 .nil) ⟨_,ys,y,Y,Y,G0,hz,Y⟩) (λz s9 ⟨_,H9,I9,_,e9⟩=>?_) nof;subst e9;exact again I9 w8
 exact codeAny_compStart_list (loop _ rfl) (T.self X.A 0 _ _ _ (T.keep _ _ _ EH λb _ o e=>old b o e) (loop _ rfl))
end
section
variable {X:Cx}{scope:Scope}{own frees:LS}{js:LN}{tg iter elt:Expr}{ifs:List Expr}{wi:TI}{g:TG}{tt:TT}{te:TE}{pos:Pos}
def qC{k:Nat}{y:Str}{py spos:Pos}(own frees:LS)(js:LN)(hN:X.N.Nodup)(hk:X.N[k]?=some y)(hy:X.env.scope.names.lookup y=some .local)(hc:X.Ok->Fi X scope own frees js)(hi:PI X tg iter wi)
  (hg:∀ C s H fp,PG (EW X scope (own++frees) C s H fp) tg g) (ht:∀ C s H fp,Mc (EW X scope (own++frees) C s H fp) ifs tt) (he:∀ C s H fp,PE (EW X scope (own++frees) C s H fp) elt te)
  (hsw:swapsWith (.ListComp elt [⟨tg,iter,ifs,0⟩] scope pos) (some (.Name y py)) spos.line X.env=pure true:=by rfl)
  (hs:∀ x,foldedSetIterable iter X.env x=pure x:=by intro _;rfl):
  PS X (.Assign [.Name y py] (.ListComp elt [⟨tg,iter,ifs,0⟩] scope pos) spos) (aq k own.length js wi g tt te):=by
 intro pins s σ H D I h;have c:=hc I.ok;rw[exec_Assign_Name_used _ _ _ _ hsw];refine Ja (wpAny_standAt (Ja ?_));show wpAny _ X.A (do let _ <- comprehension (.ListComp elt [⟨tg,iter,ifs,0⟩] scope pos) scope X.env _ (newList []) false (eval iter X.env) (some (assign (.Name y py) X.env))) _ _ s;refine Ja (Jf (wpAny_comprehension_free (use:=some (assign (.Name y py) X.env)) (Q:=λ_ s'=>SP X pins D .next s') rfl hs (WG (c.clo I.ok)) c.kind c.locals
  (AM (hi pins s σ H _ I h) λxv s₁ h₁=>AM h₁ λit s₂ h₂=>?_)) (λ_ s' hq=>Jd (Jd hq)) λ_ _ e=>e)
 refine qI (RR:=λacc C=>compPost (model X.prog X.w) X.A X.xe (some (assign (.Name y py) X.env)) (λ_ s'=>SP X pins D .next s') acc C) c hg ht he h₂ λA' C H' s' J F n q=>?_;obtain⟨m,hn⟩:=n;obtain⟨f0,f1,f2,f3,f4,f5⟩:=F;show wpAny _ X.A (assign (.Name y py) X.env (.ref A')) _ _ _;refine wpAny_assign_Name (Vy J hN hk (.inl hy) (v:=.ref A') rfl (λBR J' ⟨a,sb,ha⟩=>?_) (.inr hy));have BB:a≠C:=by
  rcases ha with e | e
  ·rw[e];exact Yr f1
  ·exact f4 y a e
 refine⟨m,hn.sameBut sb (Yr BB),λh' Jr=>⟨_,H',J'.turned (t':=BR.toks) (λb o hb e=>Jr.extBut b o hb e) f0 f1 f3 f4 f5,q⟩⟩
end
def gw(osc:Scope)(on:LS)(scope:Scope)(frees:LS)(js:LN):Bool :=
 (scope.kind == .function)&&scope.names.all (λy=>y.2 != .cell || scope.names.lookup y.1 == some .cell)&&scope.names.all (λy=>y.2 != .local || scope.names.lookup y.1 == some .local) &&
 scope.names.all (λy=>y.2 != .free || (osc.names.lookup y.1 == some .cell || osc.names.lookup y.1 == some .free))&&frees.all (λx=>scope.names.lookup x == some .free)&&decide (js.map (λj=>on[j]?)=frees.map some)
def mq{X:Cx}{osc scope:Scope}{on own frees:LS}{js:LN}(h:gw osc on scope frees js=true)(h1:X.env.scope=osc)(h2:X.N=on)(h3:X.calm=true):Fi X scope own frees js:=by
 subst h1;subst h2;unfold gw at h;simp only[Du,Cr,decide_eq_true_eq,Bool.or_eq_true,bne_iff_ne,beq_iff_eq,ne_eq]at h;obtain⟨⟨⟨⟨⟨a,b⟩,c⟩,d⟩,e⟩,f⟩:=h;exact⟨h3,a,λy hy z=>(b y hy).resolve_left (λq=>q z),λy hy z=>(c y hy).resolve_left (λq=>q z),λy hy z=>(d y hy).resolve_left (λq=>q z),e,f⟩
def q9(sc osc:Scope):Scope:={sc with names:=sc.names.map λ(n,k)=>if(k == NameKind.free&&osc.kind == .function&&osc.names.lookup n == some .cell)then(n,NameKind.cell)else(n,k) }
section
variable {prog:Program}{w:World}{A:Around}{E:EV}{s:Shared}{r:Addr}
end
section
variable {X:Cx}
end
structure yH(K:Fg)(D:Addr):Prop where
 ha:W.findIn K (.ref D) "__class__"=some (some (.builtin "object.__class__"))
 hn:W.specialIn K (.builtin "object.__class__") "__get__"=some (some (.builtin "getset_descriptor.__get__"))
 ht:W.takesIn K (.builtin "object.__class__")=some true
 hm:W.mroIn K D (.type "object")=some true
 ki:W.kitOne K (.ref D) (.ref D)=some true
section
variable {prog:Program}{w:World}{A:Around}
end
section
variable {X:Cx}
end
section
variable {X:Cx}{pins:PL}{σ:St}{H:Hp}{s:Shared}{a:Addr}{o:Obj}{kvs:List (List Key×V)}
end
end L2
namespace L2
open PySem PySem.Spec PySem.Builtin
section
variable {X:Cx}
end
end L2
namespace L2
open PySem PySem.Spec PyProof.Rows
section
variable {X:Cx}{C D f:Addr}{fd:FuncData}{k:Nat}{x dn a:Str}{np Ac pos apos pos':Pos}{e o value:Expr}{es:List Expr}{t:TA}{ta tv:TE}{ps:LS}
end
end L2
namespace L2
open PySem PySem.Spec PySem.Builtin
def pV{ss:LS}:∀ {us:LU},AQ (ss.map V.str) us->PyProof.Rows.StrsAre us ss:=by
 induction ss with
 | nil=>intro us r;rw[List.map_nil]at r;cases r;exact .nil
 | cons x xs ih =>
  intro us r;rw[Yo]at r;cases r with
  | cons h t =>
   obtain⟨tk,rfl⟩:=h;exact .cons _ _ (ih t)
def oO{ss:LS}{us:LU}(h:PyProof.Rows.StrsAre us ss):AQ (ss.map V.str) us:=by
 induction h with
 | nil=>exact .nil
 | cons y t h ih=>exact .cons ⟨t,Y⟩ ih
section
variable {X:Cx}
def Sn:Ff X (.builtin "sorted") (λxs H Q=>∃ p ss,xs=[.ref p]/\SqL X.K H p (ss.map V.str)/\ss.length<64/\∀(K2:LS) l,K2.Perm ss->PyProof.Rows.sortedS K2=true->H l=none->Q (.ref l) (upd H l (.lst (K2.map V.str)))):=by
 intro pins s σ H xs us Q I r h;obtain⟨p,ss,rfl,hq,Dj,q⟩:=h;obtain⟨u,rfl,rx⟩:=F7 r;cases rx;obtain⟨its,r',pl,hz⟩:=I.list hq;have hlen:=r'.length;rw[Ya]at hlen;refine PyProof.Rows.sorted_strs pl.isList (pV r') (by omega) λout K2 a1 a2 a3=>?_;obtain⟨e,he⟩:=PyProof.Rows.sortedAll_at s.heap its out;have BK:(K2.map V.str).length<=sizeLine:=by
  rw[Ya,a2.length_eq];rw[Ya]at hz;exact hz
 exact⟨.ref (s.heap.objs.size + 1),_,I.laid (t':=s.toks) (λb o eb=>PyProof.Rows.sortedAll_old eb) (IK _) (show BO X.prog X.w _ _ _ (.lst (K2.map V.str))from⟨BK,out.toList,e,oO a1,he⟩),Y,q K2 _ a2 a3 (I.hok.fresh (IK _))⟩
end
theorem Vk:∀ {a b:LN},¬ a<b->¬ b<a->a=b
 | [],[],_,_=>rfl
 | [],y :: b,h,_=>absurd (List.Lex.nil:List.Lex (·<·) [] (y :: b)) h
 | x :: a,[],_,h=>absurd (List.Lex.nil:List.Lex (·<·) [] (x :: a)) h
 | x :: a,y :: b,h,k=>by
  rcases Nat.lt_trichotomy x y with z | z | z
  ·exact absurd (List.Lex.rel z:List.Lex (·<·) (x :: a) (y :: b)) h
  ·subst z;rw[Vk (a:=a) (b:=b) (λz=>h (List.Lex.cons z)) (λz=>k (List.Lex.cons z))]
  ·exact absurd (List.Lex.rel z:List.Lex (·<·) (y :: b) (x :: a)) k
def Gw(a b:Str):Prop:=¬ b.cps.toList<a.cps.toList
def nE{a b c:Str}(h:Gw a b)(k:Gw b c):Gw a c:=λz=>by
 by_cases e:a.cps.toList<b.cps.toList
 ·exact k (List.lt_trans z e)
 ·have:=Vk e h;unfold Gw at k;rw[<- this]at k;exact k z
def k_{a b:Str}(h:Gw a b)(k:Gw b a):a=b:=by
 have:=Vk k h;cases a with
 | mk a=>cases b with
  | mk b =>
   congr 1
   exact Array.toList_inj.mp this
theorem bX:∀ {p:Str}{l:LS},PyProof.Rows.risingS p l=true->(p :: l).Pairwise Gw
 | p,[],_=>C_.mpr ⟨(λ_ h=>nomatch h),List.Pairwise.nil⟩
 | p,x :: r,h=>by
  have h':(!ltCps x.cps.toList p.cps.toList&&PyProof.Rows.risingS x r)=true:=h;rw[Du]at h';have ih:=bX h'.2;have px:Gw p x:=λz=>by
   have e:=h'.1;rw[PyProof.Rows.ltCps_eq,Jb z]at e;cases e
  refine C_.mpr ⟨λy hy=>?_,ih⟩
  rcases Yw.mp hy with rfl | hy
  ·exact px
  ·exact nE px ((C_.mp ih).1 y hy)
def bZ:∀ {l:LS},PyProof.Rows.sortedS l=true->l.Pairwise Gw
 | [],_=>.nil
 | _ :: _,h=>bX h
theorem bU:∀ {a b:LS},a.Pairwise Gw->b.Pairwise Gw->a.Perm b->a=b
 | [],b,_,_,p=>(List.Perm.nil_eq p)
 | x :: a,[],_,_,p=>absurd p.length_eq (by simp)
 | x :: a,y :: b,h,k,p=>by
  have e:x=y:=by
   have hx:x∈y :: b:=p.mem_iff.mp (by simp);have hy:y∈x :: a:=p.mem_iff.mpr (by simp)
   rcases Yw.mp hx with e | hx
   ·exact e
   rcases Yw.mp hy with e | hy
   ·exact e.symm
   exact k_ ((C_.mp h).1 y hy) ((C_.mp k).1 x hx)
  subst e;rw[bU (C_.mp h).2 (C_.mp k).2 ((List.perm_cons x).mp p)]
def dC{a b:LS}(h:PyProof.Rows.sortedS a=true)(k:PyProof.Rows.sortedS b=true)(p:a.Perm b):a=b:=bU (bZ h) (bZ k) p
def ji(k:Str)(v:Value):Bool:=match v with
 | .str i _=>i.cps.toList == k.cps.toList
 | _=>false
def tK{ms:LS}{its:LU}(r:AQ (ms.map V.str) its){m:Nat}{u:Value}(h:its[m]?=some u):∃ i t,ms[m]?=some i/\u=.str i t:=by
 have hl:=r.length;rw[Ya]at hl;have hm:m<ms.length:=by have:=(Ye.mp h).1;omega
 have hx:(ms.map V.str)[m]?=some (V.str ms[m]):=by rw[Yi,Yb hm];rfl
 obtain⟨u',BJ,ru⟩:=r.get hx;rw[h]at BJ;cases BJ;obtain⟨t,e⟩:=(show ∃ t,u=Value.str ms[m] t from ru);exact⟨ms[m],t,Yb hm,e⟩
theorem cH:∀ {ms:LS}{k:Str}{m:Nat},m<ms.idxOf k->ms[m]?≠some k
 | [],k,m,h=>by simp
 | a :: r,k,m,h=>by
  rw[MR]at h;by_cases e:a=k
  ·simp[e]at h
  ·have e':(a == k)=false:=by simpa using e
   rw[e']at h;cases m with
   | zero=>simp[e]
   | succ m =>
    rw[MY];exact cH (by simpa using h)
theorem cb:∀(ms:LS) (k:Str),ms.eraseIdx (ms.idxOf k)=ms.erase k
 | [],k=>by simp
 | a :: r,k=>by
  rw[MR,List.erase_cons];by_cases e:a=k
  ·simp[e]
  ·have e':(a == k)=false:=by simpa using e
   rw[e',if_neg (by decide)];simp only[cond_false,QQ];rw[cb r k]
def mJ{a b:Str}(h:a.cps.toList=b.cps.toList):a=b:=by
 cases a with
 | mk a=>cases b with
  | mk b =>
   congr 1
   exact Array.toList_inj.mp h
section
variable {X:Cx}
def mC:V->LV->Hp->VK->Prop:=λx vs H Q=>∃(l:Addr) (ms:LS) (k:Str),x=.ref l/\vs=[.str k]/\H l=some (.lst (ms.map V.str))/\k∈ms/\Q .non (upd H l (.lst ((ms.erase k).map V.str)))
def ow:Me X "list.remove" mC:=by
 intro pins s σ H x vs v us Q I rx rv h;obtain⟨l,ms,k,rfl,rfl,hH,hk,q⟩:=h;cases rx;obtain⟨u,rfl,ru⟩:=rv.one;obtain⟨t,rfl⟩:=ru;obtain⟨z,its,n,r,hl,e⟩:=I.lstM hH;have CB:its.length=ms.length:=by rw[<- hl,Ya]
 have hj:ms.idxOf k<ms.length:=Wy hk;have get:∀ m (hm:m<its.toArray.size),∃ t,its.toArray[m]=.str (ms[m]'(by simp at hm;omega)) t:=λm hm=>by
  have F0:m<its.length:=by simpa using hm
  obtain⟨i,t,h1,h2⟩:=tK r (Yb F0);have e1:ms[m]'(by omega)=i:=Ba ((Yb (by omega)).symm.trans h1);refine⟨t,?_⟩;rw[e1];simpa using h2
 refine call_meets Th ⟨_,e,Y⟩ PySem.F.entry_list_remove (PySem.F.args_list_remove_2 _ _)
  (MeetsSeq.list_remove l its.toArray n (.str k t) (ji k) (λy hy=>?_) (ms.idxOf k) (by simp;omega) ?_ (λm hm AZ=>?_) (by simp;omega)) ⟨e,?_⟩
 ·obtain⟨m,hm,e'⟩:=Array.getElem_of_mem hy;obtain⟨t',e2⟩:=get m hm;rw[<- e',e2];exact SeqRoads2.EqGives.str _ _ _ _
 ·obtain⟨t',e2⟩:=get (ms.idxOf k) (by simp;omega);rw[e2];show(ms[ms.idxOf k].cps.toList == k.cps.toList)=true;rw[Tn hj];simp
 ·obtain⟨t',e2⟩:=get m hm;rw[e2];have F0:m<ms.length:=by simp at hm;omega
  show(ms[m].cps.toList == k.cps.toList)=false;have:ms[m]≠k:=λz=>cH AZ (by rw[Yb F0,z]);rw[beq_eq_false_iff_ne];intro z;exact this (mJ z)
 ·refine⟨.non,_,I.lset (its':=its.eraseIdx (ms.idxOf k)) (ys:=(ms.map V.str).eraseIdx (ms.idxOf k)) hH e ?_ (r.eraseIdx _) ?_,Y,?_⟩
  ·show its.toArray.eraseIdxIfInBounds _=(its.eraseIdx _).toArray;rw[W3]
  ·have:=Vq (ms.map V.str) (ms.idxOf k);omega
  ·rw[Vn,cb];exact q
end
end L2
namespace L2
open PySem PySem.Spec PyProof.Rows
structure yF(h:Heap)(z ti to i1 i2 l1 l2:Addr)(k:Nat)(f:Value):Prop where
 z:IsZip h z ti to f
 ti:IsPair h ti (.ref i1) (.ref i2)
 to:∃ a b,IsPair h to a b
 i1:h.IsListIter i1 l1 k
 i2:h.IsListIter i2 l2 k
section
variable {prog:Program}{w:World}{A:Around}{E:EV}{s:Shared}
end
section
variable {X:Cx}
end
def qL{ns:List Int}{us:LU}(h:IntsAre us ns):AQ (ns.map V.int) us:=by
 induction h with
 | nil=>exact .nil
 | cons y t h ih=>exact .cons ⟨t,Y⟩ ih
section
variable {X:Cx}
def cX:Ff X (.builtin "sorted") (λxs H Q=>∃ p ns,xs=[.ref p]/\SqL X.K H p (ns.map V.int)/\ns.length<64/\∀(K5:List Int) l,K5.Perm ns->K5.Pairwise (·<=·)->H l=none->Q (.ref l) (upd H l (.lst (K5.map V.int)))):=by
 intro pins s σ H xs us Q I r h;obtain⟨p,ns,rfl,hq,Dj,q⟩:=h;obtain⟨u,rfl,rx⟩:=F7 r;cases rx;obtain⟨its,r',pl,hz⟩:=I.list hq;have hlen:=r'.length;rw[Ya]at hlen;refine sorted_ints pl.isList (Sq r') (by omega) λout K5 a1 a2 a3=>?_;obtain⟨e,he⟩:=sortedAll_at s.heap its out;have BK:(K5.map V.int).length<=sizeLine:=by
  rw[Ya,a2.length_eq];rw[Ya]at hz;exact hz
 exact⟨.ref (s.heap.objs.size + 1),_,I.laid (t':=s.toks) (λb o eb=>sortedAll_old eb) (IK _) (show BO X.prog X.w _ _ _ (.lst (K5.map V.int))from⟨BK,out.toList,e,qL a1,he⟩),Y,q K5 _ a2 a3 (I.hok.fresh (IK _))⟩
end
theorem WB:∀ {a b:List Int},a.Pairwise (·<=·)->b.Pairwise (·<=·)->a.Perm b->a=b
 | [],b,_,_,p=>(List.Perm.nil_eq p)
 | x :: a,[],_,_,p=>absurd p.length_eq (by simp)
 | x :: a,y :: b,h,k,p=>by
  have e:x=y:=by
   have hx:x∈y :: b:=p.mem_iff.mp (by simp);have hy:y∈x :: a:=p.mem_iff.mpr (by simp)
   rcases Yw.mp hx with e | hx
   ·exact e
   rcases Yw.mp hy with e | hy
   ·exact e.symm
   have:=(C_.mp h).1 y hy;have:=(C_.mp k).1 x hx;omega
  subst e;rw[WB (C_.mp h).2 (C_.mp k).2 ((List.perm_cons x).mp p)]
section
variable {prog:Program}{w:World}{A:Around}{E:EV}{s:Shared}
structure Ge(h:Heap)(z ti to i1 i2 l1 l2:Addr)(k:Nat)(f:Value):Prop where
 z:IsZip h z ti to f
 ti:IsPair h ti (.ref i1) (.ref i2)
 to:∃ a b,IsPair h to a b
 i1:h.IsTupleIter i1 l1 k
 i2:h.IsListIter i2 l2 k
theorem Ge.at{h h':Heap}{z ti to i1 i2 l1 l2:Addr}{k:Nat}{f:Value}(x:Ge h z ti to i1 i2 l1 l2 k f)(e:∀ b∈[z,ti,to,i1,i2],∀ o,h.get? b=some o->h'.get? b=some o):Ge h' z ti to i1 i2 l1 l2 k f :=
 ⟨e z (by simp) _ x.z,e ti (by simp) _ x.ti,let⟨a,b,y⟩:=x.to;⟨a,b,e to (by simp) _ y⟩,x.i1.at λo q=>e i1 (by simp) o q,x.i2.at λo q=>e i2 (by simp) o q⟩
def oR{z ti to i1 i2 l1 l2:Addr}{k:Nat}{xs ys:Array Value}{x y:Value}{Q:EV}(D:ZipApart z ti to i1 i2 l1 l2)(st:Ge s.heap z ti to i1 i2 l1 l2 k .none)
  (t1:s.heap.IsTuple l1 xs) (t2:s.heap.IsList l2 ys) (hx:xs[k]?=some x) (hy:ys[k]?=some y)
  (q:∀ g,Ge g z ti to i1 i2 l1 l2 (k + 1) (rawInt s.heap.objs.size)->IsPair g s.heap.objs.size x y->(∀ c o,c≠z->c≠to->c≠i1->c≠i2->s.heap.get? c=some o->g.get? c=some o)->Q (.ref s.heap.objs.size) {s with heap:=g}):
  wpAny (model prog w) A (Builtin.«zip.__next__» ⟨[.ref z],[]⟩) (λfin s'=>∃ v,fin=.done (.ret v)/\Q v s') E s:=by
 obtain⟨hz,hti,⟨a,b,hto⟩,E6,Ct⟩:=st;show wpAny _ _ (field (.ref z) 2>>=_) _ _ _;refine Ja (Jg hz rfl (x:=.bool false) rfl ?_);show wpAny _ _ (field (.ref z) 3>>=_) _ _ _;refine Ja (Jg hz rfl (x:=.ref ti) rfl (Ja (wpAny_seqItems hti rfl ?_)));show wpAny _ _ (Builtin.SmallTypes.ownedTupleIsFree (.ref z)>>=_) _ _ _;refine Ja ?_;unfold Builtin.SmallTypes.ownedTupleIsFree;refine Ja (Jg hz rfl (x:=.none) rfl (Jd ?_));simp only[if_true];refine Ja (wpAny_rule (Ja (Jg hz rfl (x:=.ref to) rfl (Ja (wpAny_setField_rec hz (by simp) λg1 z1 e1=>?_)))));replace z1:IsZip g1 z ti to .ellipsis:=z1;refine Ja ?_;simp only[List.zipIdx_cons,List.zipIdx_nil,MT,List.forIn_nil];refine Ja (Ja (wpAny_onRaise ?_));show wpAny _ _ (Builtin.SmallTypes.nextOf (.ref i1)>>=_) _ _ _;refine Ja (N1 (E6.extBut e1.extBut D.i1z) (t1.extBut e1.extBut D.l1z) hx λg2 j1 e2=>Jd ?_);have to2:IsPair g2 to a b:=e2.extBut _ _ D.TOi1 (e1.extBut _ _ D.TOz hto);refine Ja (wpAny_seqItems to2 rfl (Ja (wpAny_updateSeq_pair to2 λg3 to3 e3=>?_)));replace to3:IsPair g3 to x b:=to3;refine Ja (wpAny_letGo (Jd (Ja (Ja (wpAny_onRaise ?_)))));show wpAny _ _ (Builtin.SmallTypes.nextOf (.ref i2)>>=_) _ _ _;refine Ja (wpAny_nextOf_list_item (((Ct.extBut e1.extBut D.i2z).extBut e2.extBut D.i12.symm).extBut e3.extBut D.TOi2.symm) (((t2.extBut e1.extBut D.l2z).extBut e2.extBut D.l2i1).extBut e3.extBut D.l2TO) hy λg4 j2 e4=>Jd ?_);have OQ:IsPair g4 to x b:=e4.extBut _ _ D.TOi2 to3;refine Ja (wpAny_seqItems OQ rfl (Ja (wpAny_updateSeq_pair OQ λg5 IP e5=>?_)));replace IP:IsPair g5 to x y:=IP;refine Ja (wpAny_letGo (Jd (Jd (Ja (wpAny_seqItems IP rfl (Ja (wpAny_newTuple ?_)))))));have sz:g5.objs.size=s.heap.objs.size:=by rw[e5.1,e4.1,e3.1,e2.1,e1.1]
 have z5:IsZip g5 z ti to .ellipsis:=e5.extBut _ _ D.TOz.symm (e4.extBut _ _ D.i2z.symm (e3.extBut _ _ D.TOz.symm (e2.extBut _ _ D.i1z.symm z1)));have k5:∀ c o,c≠z->c≠to->c≠i1->c≠i2->s.heap.get? c=some o->g5.get? c=some o:=λc o c1 c2 c3 c4 e=>e5.extBut _ _ c2 (e4.extBut _ _ c4 (e3.extBut _ _ c2 (e2.extBut _ _ c3 (e1.extBut _ _ c1 e))));have Uc:g5.IsTupleIter i1 l1 (k + 1):=((j1.extBut e3.extBut D.TOi1.symm).extBut e4.extBut D.i12).extBut e5.extBut D.TOi1.symm;have Ub:g5.IsListIter i2 l2 (k + 1):=j2.extBut e5.extBut D.TOi2.symm;have zlt:z<g5.objs.size:=Yl z5;show wpAny _ _ (Builtin.SmallTypes.ownedTupleHandOut (.ref z) (.ref g5.objs.size)>>=_) _ _ _;refine Ja ?_;unfold Builtin.SmallTypes.ownedTupleHandOut;have z6:IsZip (g5.push {cls:=.type "tuple",data:=.seq #[x,y] }) z ti to .ellipsis:=Yd _ z5;refine Ja (wpAny_setField_rec z6 (by simp) λg7 z7 e7=>?_);replace z7:IsZip g7 z ti to (rawInt g5.objs.size):=z7;refine wpAny_setField_rec z7 (by simp) λg8 z8 e8=>?_;replace z8:IsZip g8 z ti to (rawInt g5.objs.size):=z8;have up:∀ c o,c≠z->g5.get? c=some o->g8.get? c=some o:=λc o c1 e=>e8.extBut _ _ c1 (e7.extBut _ _ c1 (Yd _ e));have p8:IsPair g8 g5.objs.size x y:=e8.extBut _ _ (Eb zlt) (e7.extBut _ _ (Eb zlt) (Yk _ rfl));rw[sz]at z8 p8;refine Jd ⟨Z,?_⟩;show Q (.ref g5.objs.size) _;rw[sz];exact q g8 ⟨z8,up _ _ D.TIz (k5 _ _ D.TIz D.TITO D.TIi1 D.TIi2 hti),⟨x,y,up _ _ D.TOz IP⟩,Uc.at λo e=>up _ o D.i1z e,Ub.at λo e=>up _ o D.i2z e⟩ p8 λc o c1 c2 c3 c4 e=>up c o c1 (k5 c o c1 c2 c3 c4 e)
def oQ{z ti to i1 i2 l1 l2:Addr}{k:Nat}{xs ys:Array Value}{Q:Fin->Shared->Prop}(hh:A.handled=none)(D:ZipApart z ti to i1 i2 l1 l2)(st:Ge s.heap z ti to i1 i2 l1 l2 k .none)
  (t1:s.heap.IsTuple l1 xs) (t2:s.heap.IsList l2 ys) (Ci:xs[k]?=none\/ys[k]?=none)
  (q:∀ g e,(∀ c o,c≠z->c≠to->c≠i1->c≠i2->s.heap.get? c=some o->g.get? c=some o)->(∃ o,g.get? e=some o/\o.cls=.type "StopIteration")->E (.ref e) {s with heap:=g}):
  wpAny (model prog w) A (Builtin.«zip.__next__» ⟨[.ref z],[]⟩) Q E s:=by
 obtain⟨hz,hti,⟨a,b,hto⟩,E6,Ct⟩:=st;show wpAny _ _ (field (.ref z) 2>>=_) _ _ _;refine Ja (Jg hz rfl (x:=.bool false) rfl ?_);show wpAny _ _ (field (.ref z) 3>>=_) _ _ _;refine Ja (Jg hz rfl (x:=.ref ti) rfl (Ja (wpAny_seqItems hti rfl ?_)));show wpAny _ _ (Builtin.SmallTypes.ownedTupleIsFree (.ref z)>>=_) _ _ _;refine Ja ?_;unfold Builtin.SmallTypes.ownedTupleIsFree;refine Ja (Jg hz rfl (x:=.none) rfl (Jd ?_));simp only[if_true];refine Ja (wpAny_rule (Ja (Jg hz rfl (x:=.ref to) rfl (Ja (wpAny_setField_rec hz (by simp) λg1 z1 e1=>?_)))));replace z1:IsZip g1 z ti to .ellipsis:=z1;refine Ja ?_;simp only[List.zipIdx_cons,List.zipIdx_nil,MT,List.forIn_nil];refine Ja (Ja (wpAny_onRaise ?_));show wpAny _ _ (Builtin.SmallTypes.nextOf (.ref i1)>>=_) _ _ _;cases hx:xs[k]? with
 | none =>
  refine Ja (Pn hh (E6.extBut e1.extBut D.i1z) (t1.extBut e1.extBut D.l1z) hx λg2 e e2 he=>?_);obtain⟨oe,ho,hc⟩:=he;have z2:IsZip g2 z ti to .ellipsis:=e2 _ _ D.i1z.symm z1;have ez:e≠z:=λx=>by subst x;rw[z2]at ho;cases ho;simp at hc
  exact wpAny_setField_rec z2 (by simp) λg3 _ e3=>q g3 e (λc o c1 _ c3 _ x=>e3.extBut _ _ c1 (e2 _ _ c3 (e1.extBut _ _ c1 x))) ⟨oe,e3.extBut _ _ ez ho,hc⟩
 | some x =>
  have hy:ys[k]?=none:=by rcases Ci with h | h;rw[hx]at h;cases h;exact h
  refine Ja (N1 (E6.extBut e1.extBut D.i1z) (t1.extBut e1.extBut D.l1z) hx λg2 j1 e2=>Jd ?_);have to2:IsPair g2 to a b:=e2.extBut _ _ D.TOi1 (e1.extBut _ _ D.TOz hto);refine Ja (wpAny_seqItems to2 rfl (Ja (wpAny_updateSeq_pair to2 λg3 to3 e3=>?_)));refine Ja (wpAny_letGo (Jd (Ja (Ja (wpAny_onRaise ?_)))));show wpAny _ _ (Builtin.SmallTypes.nextOf (.ref i2)>>=_) _ _ _;refine Ja (wpAny_nextOf_list_end hh (((Ct.extBut e1.extBut D.i2z).extBut e2.extBut D.i12.symm).extBut e3.extBut D.TOi2.symm) (((t2.extBut e1.extBut D.l2z).extBut e2.extBut D.l2i1).extBut e3.extBut D.l2TO) hy λg4 e e4 he=>?_);obtain⟨oe,ho,hc⟩:=he;have z4:IsZip g4 z ti to .ellipsis:=e4 _ _ D.i2z.symm (e3.extBut _ _ D.TOz.symm (e2.extBut _ _ D.i1z.symm z1));have ez:e≠z:=λx=>by subst x;rw[z4]at ho;cases ho;simp at hc
  exact wpAny_setField_rec z4 (by simp) λg5 _ e5=>q g5 e (λc o c1 c2 c3 c4 x=>e5.extBut _ _ c1 (e4 _ _ c4 (e3.extBut _ _ c2 (e2.extBut _ _ c3 (e1.extBut _ _ c1 x))))) ⟨oe,e5.extBut _ _ ez ho,hc⟩
def qY{z ti to i1 i2 l1 l2:Addr}{k:Nat}{xs ys:Array Value}{x y:Value}{Q:OU->Shared->Prop}(D:ZipApart z ti to i1 i2 l1 l2)(st:Ge s.heap z ti to i1 i2 l1 l2 k .none)
  (t1:s.heap.IsTuple l1 xs) (t2:s.heap.IsList l2 ys) (hx:xs[k]?=some x) (hy:ys[k]?=some y)
  (q:∀ g,Ge g z ti to i1 i2 l1 l2 (k + 1) (rawInt s.heap.objs.size)->IsPair g s.heap.objs.size x y->(∀ c o,c≠z->c≠to->c≠i1->c≠i2->s.heap.get? c=some o->g.get? c=some o)->Q (some (.ref s.heap.objs.size)) {s with heap:=g}):
  wpAny (model prog w) A (pyNext (.ref z)) Q E s:=by
 have hT:s.TypeIs (.ref z) "zip":=⟨_,st.z,Y⟩;unfold pyNext;exact Ja (wpAny_attempt (wpAny_callSpecial?_slot (name:=Str.ofString "__next__") hT Kp (wpAny_call_entry Kp hT Tq (oR D st t1 t2 hx hy λg a1 a2 a3=>Jd (q g a1 a2 a3)) (Tt _))))
def qX{z ti to i1 i2 l1 l2:Addr}{k:Nat}{xs ys:Array Value}{Q:OU->Shared->Prop}(hh:A.handled=none)(D:ZipApart z ti to i1 i2 l1 l2)(st:Ge s.heap z ti to i1 i2 l1 l2 k .none)
  (t1:s.heap.IsTuple l1 xs) (t2:s.heap.IsList l2 ys) (Ci:xs[k]?=none\/ys[k]?=none)
  (q:∀ g,(∀ c o,c≠z->c≠to->c≠i1->c≠i2->s.heap.get? c=some o->g.get? c=some o)->Q none {s with heap:=g}):wpAny (model prog w) A (pyNext (.ref z)) Q E s:=by
 have hT:s.TypeIs (.ref z) "zip":=⟨_,st.z,Y⟩;unfold pyNext;refine Ja (wpAny_attempt (wpAny_callSpecial?_slot (name:=Str.ofString "__next__") hT Kp (wpAny_call_entry Kp hT Tq (oQ hh D st t1 t2 Ci λg e hk he=>?_) (Tt _))));obtain⟨o,ho,hc⟩:=he;refine Ja (wpAny_isInstance (T:="StopIteration") (b:=true) ⟨o,ho,hc⟩ isSubtype_stop ?_);exact Jd (q _ hk)
abbrev RG(h:Heap)(l1:Addr):Heap:=h.push {cls:=.type "tuple_iterator",data:=.fields #[.ref l1,.int 0 0] }
abbrev RF(h:Heap)(l1 l2:Addr):Heap:=(RG h l1).push {cls:=.type "list_iterator",data:=.fields #[.ref l2,.int 0 0] }
abbrev RE(h:Heap)(l1 l2:Addr):Heap:=(RF h l1 l2).push {cls:=.type "tuple",data:=.seq #[.ref h.objs.size,.ref (RG h l1).objs.size] }
abbrev RD(h:Heap)(l1 l2:Addr):Heap:=(RE h l1 l2).push {cls:=.type "tuple",data:=.seq #[.none,.none] }
abbrev Mv(h:Heap)(l1 l2:Addr):Heap:=(RD h l1 l2).push {cls:=.type "zip",data:=.fields #[.none,.bool false,.bool false,.ref (RF h l1 l2).objs.size,.ref (RE h l1 l2).objs.size] }
def oo(l1 l2:Addr)(xs ys:Array Value):Meets (Builtin.«zip.__new__» ⟨[.type "zip",.ref l1,.ref l2],[]⟩) (λ_ R s=>s.heap.IsTuple l1 xs/\s.heap.IsList l2 ys /\
   R (.ok (.ret (.ref (RD s.heap l1 l2).objs.size))) {s with heap:=Mv s.heap l1 l2}):=
 .of_wp λprog w A R s h=>by
  obtain⟨hp,g,d,tk,os⟩:=s;obtain⟨t1,t2,h⟩:=h;have hsub:=sub_zip;have T1:Heap.IsTuple (Shared.heap ⟨hp,g,d,tk,os⟩) l1 xs:=t1;have T2:Heap.IsList (Shared.heap ⟨hp.push {cls:=.type "tuple_iterator",data:=.fields #[.ref l1,.int 0 0] },g,d,tk,os⟩) l2 ys:=Heap.IsList.push t2 _
  wp_walk using wpAny_pyIter_tuple T1,wpAny_pyIter_list T2
  exact⟨Z,h⟩
def m_{l1 l2:Addr}{xs ys:Array Value}{Q:EV}(t1:s.heap.IsTuple l1 xs)(t2:s.heap.IsList l2 ys)
  (q:∀ g,Ge g (s.heap.objs.size + 4) (s.heap.objs.size + 2) (s.heap.objs.size + 3) s.heap.objs.size (s.heap.objs.size + 1) l1 l2 0 .none->(∀ c o,s.heap.get? c=some o->g.get? c=some o)->Q (.ref (s.heap.objs.size + 4)) {s with heap:=g}):
  wpAny (model prog w) A (call (.type "zip") [.ref l1,.ref l2]) Q E s:=by
 refine callType_new PySem.F.called_zip (by decide) (PySem.F.typeCall_zip_2 _ _) (PySem.F.newCall_zip_2 _ _) (λobj=>PySem.F.args_object_init_3 obj _ _) PySem.F.entry_zip_new (oo l1 l2 xs ys) ⟨t1,t2,?_⟩;have n1:(RG s.heap l1).objs.size=s.heap.objs.size + 1:=Ec ..;have n2:(RF s.heap l1 l2).objs.size=s.heap.objs.size + 2:=by rw[Ec,n1]
 have n3:(RE s.heap l1 l2).objs.size=s.heap.objs.size + 3:=by rw[Ec,n2]
 have n4:(RD s.heap l1 l2).objs.size=s.heap.objs.size + 4:=by rw[Ec,n3]
 have up:∀ {h:Heap} {a:Addr} {o:Obj} (x:Obj),h.get? a=some o->(h.push x).get? a=some o:=λx e=>Yd _ e;have f5:(Mv s.heap l1 l2).get? (RD s.heap l1 l2).objs.size=some _:=Yk _ rfl;have f4:(Mv s.heap l1 l2).get? (RE s.heap l1 l2).objs.size=some _:=up _ (Yk _ rfl);have f3:(Mv s.heap l1 l2).get? (RF s.heap l1 l2).objs.size=some _:=up _ (up _ (Yk _ rfl));have f2:(Mv s.heap l1 l2).get? (RG s.heap l1).objs.size=some _:=up _ (up _ (up _ (Yk _ rfl)));have f1:(Mv s.heap l1 l2).get? s.heap.objs.size=some _:=up _ (up _ (up _ (up _ (Yk _ rfl))));show _/\_;rw[n2,n3,n4]at f5;rw[n1,n2]at f3;rw[n3]at f4;rw[n1]at f2;rw[n4];exact⟨⟨_,f5,Y⟩,q _ ⟨f5,f3,⟨_,_,f4⟩,⟨_,f1,Y,Y⟩,⟨_,f2,Y,Y⟩⟩ λc o x=>up _ (up _ (up _ (up _ (up _ x))))⟩
end
def oN{P:Program}{w:World}{K:Fg}{elts:List Expr}{x1}{pos:Pos}{xs ys:LV}(a b z ti to i1 i2:Addr)(D:ZipApart z ti to i1 i2 a b):
  Fb P w K (.Tuple elts x1 pos) (HQ (xs.zip ys) λH=>AL K H a xs/\SqL K H b ys) [z,ti,to,i1,i2] z (λi h=>Ge h z ti to i1 i2 a b i .none) where
 mem:=by simp
 obj:=λi h st c hc=>by
  have BL:c=z\/c=ti\/c=to\/c=i1\/c=i2:=by simpa using hc
  obtain⟨x,y,h3⟩:=st.to;obtain⟨o1,e1,_,d1⟩:=st.i1;obtain⟨o2,e2,_,d2⟩:=st.i2
  rcases BL with rfl | rfl | rfl | rfl | rfl
  ·exact⟨_,st.z,λv q=>by cases q⟩
  ·exact⟨_,st.ti,λv q=>by cases q⟩
  ·exact⟨_,h3,λv q=>by cases q⟩
  ·exact⟨_,e1,λv q=>by rw[d1]at q;cases q⟩
  ·exact⟨_,e2,λv q=>by rw[d2]at q;cases q⟩
 keep:=λi h h' st k=>st.at k
 item:=by
  intro X hP hw hK hc i pins s σ H E I hf st hg;subst hP hw hK;obtain⟨hi,ha,hb⟩:=hg;obtain⟨p,hp⟩:∃ p,(xs.zip ys)[i]?=some p:=⟨(xs.zip ys)[i]'hi,Yb hi⟩;obtain⟨hx,hy⟩:=PY hp;obtain⟨its,rv,pa,_⟩:=I.tuple ha;obtain⟨jts,Cb,pb,_⟩:=I.list hb;obtain⟨u,hu,ru⟩:=rv.get hx;obtain⟨v,hv,UJ⟩:=Cb.get hy;refine qY D st (show s.heap.IsTuple a its.toArray from pa) pb.isList (by simpa using hu) (by simpa using hv) λg A5 hpr hk=>?_;refine⟨Z,?_⟩;refine wpAny_letOwnedTupleGo_zip (s:={s with heap:=g}) A5.z λg' z' sb=>?_;have zlt:z<s.heap.objs.size:=Yl st.z;have nz:s.heap.objs.size≠z:=Eb zlt;have Dw:Heap.ExtBut z g g':=sb.extBut;have hT:IsPair g' s.heap.objs.size u v:=Dw _ _ nz hpr;have I1:Inv X pins σ (upd H s.heap.objs.size (.tup [p.1,p.2])) {s with heap:=g' }:=I.turnedNewL (t':=s.toks) (its:=[z,ti,to,i1,i2]) (λc o hc e=>Dw c o (λq=>hc (by simp[q])) (hk c o (λq=>hc (by simp[q])) (λq=>hc (by simp[q])) (λq=>hc (by simp[q])) (λq=>hc (by simp[q])) e)) hf (Yf _)
   ⟨U,[u,v],.cons ru (.cons UJ .nil),⟨_,hT,Y,Z⟩⟩
  have EH:Ge g' z ti to i1 i2 a b (i + 1) .none:=by
   obtain⟨a1,a2,a3⟩:=A5.to;exact⟨z',Dw _ _ D.TIz A5.ti,⟨a1,a2,Dw _ _ D.TOz a3⟩,A5.i1.extBut Dw D.i1z,A5.i2.extBut Dw D.i2z⟩
  refine⟨.ref s.heap.objs.size,_,I1,Y,⟨s.heap.objs.size,p,hp,I.hok.fresh (Yf _),Y,Y⟩,EH,λc hc=>?_⟩;have lt:∀ c∈[z,ti,to,i1,i2],c<s.heap.objs.size:=λc hc=>by
   have BL:c=z\/c=ti\/c=to\/c=i1\/c=i2:=by simpa using hc
   obtain⟨a1,a2,a3⟩:=st.to;obtain⟨o1,e1,_⟩:=st.i1;obtain⟨o2,e2,_⟩:=st.i2
   rcases BL with rfl | rfl | rfl | rfl | rfl
   ·exact zlt
   ·exact Yl st.ti
   ·exact Yl a3
   ·exact Yl e1
   ·exact Yl e2
  rw[AD (A8 (lt c hc))];exact(hf c hc).1
 done:=by
  intro X hP hw hK hc i pins s σ H E I hf st hg;subst hP hw hK;obtain⟨hi,ha,hb⟩:=hg;obtain⟨its,rv,pa,_⟩:=I.tuple ha;obtain⟨jts,Cb,pb,_⟩:=I.list hb;have l1:=rv.length;have l2:=Cb.length;have Ci:its.toArray[i]?=none\/jts.toArray[i]?=none:=by
   rw[Kl]at hi
   rcases Nat.le_total xs.length ys.length with h | h
   ·rw[QJ h]at hi;exact .inl (by simp;omega)
   ·rw[Nat.min_eq_right h]at hi;exact .inr (by simp;omega)
  exact qX (I.ok.hd hc) D st (show s.heap.IsTuple a its.toArray from pa) pb.isList Ci λg hk=>⟨Y,I.turnedL (t':=s.toks) (its:=[z,ti,to,i1,i2]) (λc o hc e=>hk c o (λq=>hc (by simp[q])) (λq=>hc (by simp[q])) (λq=>hc (by simp[q])) (λq=>hc (by simp[q])) e) hf⟩
 self:=λA i s Q E st h=>wpAny_pyIter_zip st.z h
section
variable {X:Cx}
def rS(K:Fg)(ta:TA):TI:=λσ H R=>ta σ H λvs H1=>∃(a b:Addr) (xs ys:LV),vs=[.ref a,.ref b]/\AL K H1 a xs/\SqL K H1 b ys/\R (HQ (xs.zip ys) λH=>AL K H a xs/\SqL K H b ys) H1
def Zl{elts:List Expr}{x1}{Ew:Pos}{a b:Expr}{ta:TA}{p pos:Pos}(hg:Gl X "zip")(hm:X.mg "zip"=none)(ha:PA X [a,b] ta)(hs:starEach [a,b] X.env=[(false,eval a X.env),(false,eval b X.env)]:=by rfl)(FR:starEach [b] X.env=[(false,eval b X.env)]:=by rfl):
  PI X (.Tuple elts x1 Ew) (.Call (.Name "zip" p) [a,b] [] pos) (rS X.K ta):=by
 intro pins s σ H R I h;refine Call_ (GQ I hg hm boot_zip (Kh (AM (ha pos pins s σ H _ I h) λus s1 ⟨vs,H1,I1,r1,q1⟩=>?_) (by rw[hs,FR]) (by rw[FR];rfl)));obtain⟨l1,l2,xs,ys,e,t1,t2,q⟩:=q1;subst e;cases r1 with
 | cons r rr =>
  cases rr with
  | cons r' rr =>
   cases rr;obtain rfl:_=Value.ref l1:=r;obtain rfl:_=Value.ref l2:=r';obtain⟨its,rv,pa,_⟩:=I1.tuple t1;obtain⟨jts,Cb,pb,_⟩:=I1.list t2;have b1:s1.heap.IsTuple l1 its.toArray:=pa;have b2:s1.heap.IsList l2 jts.toArray:=pb.isList;have M7:l1<s1.heap.objs.size:=let⟨_,e,_⟩:=b1;Yl e;have UZ:l2<s1.heap.objs.size:=let⟨_,e,_⟩:=b2;Yl e;refine m_ b1 b2 λg st hk=>wpAny_pyIter_zip (s:={s1 with heap:=g}) st.z ?_;have D:ZipApart (s1.heap.objs.size + 4) (s1.heap.objs.size + 2) (s1.heap.objs.size + 3) s1.heap.objs.size (s1.heap.objs.size + 1) l1 l2:=W.ktu_apart _ _ _ M7 UZ;refine⟨_,[s1.heap.objs.size + 4,s1.heap.objs.size + 2,s1.heap.objs.size + 3,s1.heap.objs.size,s1.heap.objs.size + 1],_,_,H1,Y,I1.kept (t':=s1.toks) λb o e=>hk b o e,oN l1 l2 _ _ _ _ _ D,st,λc hc=>?_,q⟩;have BL:c=s1.heap.objs.size + 4\/c=s1.heap.objs.size + 2\/c=s1.heap.objs.size + 3\/c=s1.heap.objs.size\/c=s1.heap.objs.size + 1:=by simpa using hc
   have ge:s1.heap.objs.size<=c:=by
    rcases BL with rfl | rfl | rfl | rfl | rfl
    ·exact Fp _ _
    ·exact Fp _ _
    ·exact Fp _ _
    ·exact Yf _
    ·exact Fp _ _
   exact I1.fpOk ge (I1.hok.fresh ge)
end
end L2
namespace L2
open PySem PySem.Spec PyProof.Rows
open PySem.W (KasT kas_rev kas_asc kas_desc kas_tail3 kas_descPart kas_count kas_place kas_bin kas_sort)
def Bs{α:Type}(lt:Nat->Nat->Bool)(N:Nat):KasT α->(α->Prop)->Prop
 | .ret a,R=>R a
 | .ask i j k,R=>i<N/\j<N/\Bs lt N (k (lt i j)) R
theorem Ny{α β:Type}{lt:Nat->Nat->Bool}{N:Nat}{f:α->KasT β}{R:β->Prop}:∀ {t:KasT α},Bs lt N t (λa=>Bs lt N (f a) R)->Bs lt N (t.bind f) R
 | .ret _,h=>h
 | .ask _ _ k,⟨h1,h2,h⟩=>⟨h1,h2,Ny (t:=k _) h⟩
theorem aM{α:Type}{lt:Nat->Nat->Bool}{N:Nat}{cmp:Nat->Nat->(Bool->Shared->Prop)->Shared->Prop}{I:Shared->Prop}{R:α->Prop}{Q:α->Shared->Prop}
  (hc:∀ i j C s,i<N->j<N->I s->(∀ s',I s'->C (lt i j) s')->cmp i j C s) (hq:∀ a s',R a->I s'->Q a s'):∀(t:KasT α) (s:Shared),Bs lt N t R->I s->t.kasWp cmp Q s
 | .ret a,s,h,hI=>hq a s h hI
 | .ask i j k,s,⟨h1,h2,h⟩,hI=>hc i j _ s h1 h2 hI λs' kN=>aM hc hq (k _) s' h kN
section
variable {O:KeyOrd}{key:Nat->O.α}{N:Nat}
abbrev Aw(key:Nat->O.α)(i j:Nat):Bool:=O.blt (key i) (key j)
def KN(key:Nat->O.α)(p:Array Nat)(i:Nat):O.α:=key (p.getD i 0)
def PB(N:Nat)(p:Array Nat):Prop:=p.toList.Perm (List.range N)
def HB(key:Nat->O.α)(p:Array Nat)(k:Nat):Prop:=∀ i j,i<=j->j<k->O.kle (KN key p i) (KN key p j)
def QA(key:Nat->O.α)(p:Array Nat)(k:Nat):Prop:=∀ i j,i<=j->j<k->O.kle (KN key p j) (KN key p i)
theorem PB.size{p:Array Nat}(h:PB N p):p.size=N:=by
 have:=h.length_eq;rw[JJ,Df]at this;exact this
def PB.lt{p:Array Nat}(h:PB N p)(hN:0<N)(i:Nat):p.getD i 0<N:=by
 by_cases hi:i<p.size
 ·have e:p.getD i 0=p[i]:=by simp[Array.getD,hi]
  rw[e];have:p[i]∈p.toList:=by simp
  exact Bp.mp (h.mem_iff.mp this)
 ·have e:p.getD i 0=0:=by simp[Array.getD,hi]
  rw[e];exact hN
def Lj{p:Array Nat}(i:Nat):p.getD i 0=(p[i]?).getD 0:=by
 simp
def PB.rev{p:Array Nat}(h:PB N p)(i j:Nat):PB N (kas_rev p i j):=(Array.perm_iff_toList_perm.mp (mirror_perm p i j _)).trans h
def PB.bub{p:Array Nat}(h:PB N p)(i j:Nat):PB N (bubble p i j):=(Array.perm_iff_toList_perm.mp (bubble_perm p i j)).trans h
def Uy{p:Array Nat}{i j:Nat}(hj:j<=p.size)(k:Nat):KN key (kas_rev p i j) k=if i<=k/\k<j then KN key p (i + j - 1 - k)else KN key p k:=by
 have e:=getElem?_mirror_all (xs:=p) (i:=i) hj k;have e1:(mirror p i j ((j - i) / 2)).getD k 0=((mirror p i j ((j - i) / 2))[k]?).getD 0:=Lj k;show key ((mirror p i j ((j - i) / 2)).getD k 0)=_;rw[e1,e];by_cases h1:i<=k/\k<j
 ·rw[if_pos h1,if_pos h1];exact congrArg key (Lj _).symm
 ·rw[if_neg h1,if_neg h1];exact congrArg key (Lj k).symm
def Pc{p:Array Nat}{i j:Nat}(hj:j<=p.size)(heq:∀ k,i<=k->k<j->KN key p k=KN key p (j - 1))(k:Nat):KN key (kas_rev p i j) k=KN key p k:=by
 rw[Uy hj];split
 ·rw[heq _ (by omega) (by omega),heq k (by omega) (by omega)]
 ·rfl
def gv{p:Array Nat}{src d:Nat}(hs:src<p.size)(hd:d<=src)(k:Nat):KN key (bubble p src d) k=if k=src - d then KN key p src else if src - d<k/\k<=src then KN key p (k - 1)else KN key p k:=by
 have e:=getElem?_bubble hs d hd k;have e1:(bubble p src d).getD k 0=((bubble p src d)[k]?).getD 0:=Lj k;show key ((bubble p src d).getD k 0)=_;rw[e1,e];by_cases h1:k=src - d
 ·rw[if_pos h1,if_pos h1];exact congrArg key (Lj src).symm
 ·rw[if_neg h1,if_neg h1];by_cases h2:src - d<k/\k<=src
  ·rw[if_pos h2,if_pos h2];exact congrArg key (Lj (k - 1)).symm
  ·rw[if_neg h2,if_neg h2];exact congrArg key (Lj k).symm
theorem U6{p:Array Nat}{R:Nat->Prop}(hB:PB N p)(hN:0<N):∀(f n:Nat),1<=n->HB key p n ->
  (∀ m,n<=m->m<=n + f->HB key p m->(m=n + f\/O.klt (KN key p m) (KN key p (m - 1)))->R m)->Bs (Aw key) N (kas_asc p f n) R
 | 0,n,_,hs,h=>h n (Yf _) (Yf _) hs (.inl rfl)
 | f + 1,n,h1,hs,h=>by
  refine⟨hB.lt hN _,hB.lt hN _,?_⟩;cases hless:O.blt (key (p.getD n 0)) (key (p.getD (n - 1) 0))with
  | true =>
   show Bs _ _ (if Aw key _ _=true then _ else _) _;rw[show Aw key (p.getD n 0) (p.getD (n - 1) 0)=true from hless,if_pos rfl];exact h n (Yf _) (by omega) hs (.inr hless)
  | false =>
   show Bs _ _ (if Aw key _ _=true then _ else _) _;rw[show Aw key (p.getD n 0) (p.getD (n - 1) 0)=false from hless,if_neg (by simp)];refine U6 hB hN f (n + 1) (by omega) (λi j hij hj=>?_) λm m1 m2 ms mo=>h m (by omega) (by omega) ms (by rcases mo with e | e;exact .inl (by omega);exact .inr e);by_cases hjx:j<n
   ·exact hs i j hij hjx
   ·have F1:j=n:=by omega
    subst F1;by_cases CK:i=j
    ·subst CK;exact JK _
    ·exact KeyOrd.kle_trans (hs i (j - 1) (by omega) (by omega)) hless
def aL{p:Array Nat}{n nrem:Nat}{R:Nat×Array Nat->Prop}(hB:PB N p)(hN:0<N)(h1:1<=n)(hnn:n<=nrem)(hr:nrem<=N)(hs:QA key p n)
  (h:∀ m p',PB N p'->1<=m->m<=nrem->HB key p' m->R (m,p')):Bs (Aw key) N (kas_tail3 n nrem p) R:=by
 unfold kas_tail3;have hz:n<=p.size:=by rw[hB.size];omega
 refine Ny (U6 (hB.rev 0 n) hN _ n h1 (λi j hij hj=>?_) λm m1 m2 ms _=>h m _ (hB.rev 0 n) (by omega) (by omega) ms);rw[Uy hz,Uy hz,if_pos (by omega),if_pos (by omega)];exact hs _ _ (by omega) (by omega)
theorem SA{R:Array Nat×Nat×Nat->Prop}(hN:0<N):∀(f:Nat) (p:Array Nat) (n q:Nat),PB N p->1<=n->n + f<=N->QA key p n->q + 1<=n->(∀ i,n - (q + 1)<=i->i<n->KN key p i=KN key p (n - 1)) ->
  (∀ p' m q',PB N p'->n<=m->m<=n + f->QA key p' m->q' + 1<=m->(∀ i,m - (q' + 1)<=i->i<m->KN key p' i=KN key p' (m - 1))->R (p',m,q'))->Bs (Aw key) N (kas_desc f p n q) R
 | 0,p,n,q,hB,h1,hz,hs,hq,he,h=>h p n q hB (Yf _) (Yf _) hs hq he
 | f + 1,p,n,q,hB,h1,hz,hs,hq,he,h=>by
  have hsz:n<=p.size:=by rw[hB.size];omega
  refine⟨hB.lt hN _,hB.lt hN _,?_⟩;cases hless:O.blt (key (p.getD n 0)) (key (p.getD (n - 1) 0))with
  | true =>
   show Bs _ _ (if Aw key _ _=true then _ else _) _;rw[show Aw key (p.getD n 0) (p.getD (n - 1) 0)=true from hless,if_pos rfl];have Kr:∀ xs:Array Nat,(∀ k,KN key xs k=KN key p k)->QA key xs (n + 1):=by
    intro xs hk i j hij hj;rw[hk,hk];by_cases hjx:j<n
    ·exact hs i j hij hjx
    ·have F1:j=n:=by omega
     subst F1;by_cases CK:i=j
     ·subst CK;exact JK _
     ·exact KeyOrd.kle_trans (KeyOrd.kle_of_klt hless) (hs i (j - 1) (by omega) (by omega))
   by_cases hneq:q > 0
   ·rw[if_pos hneq];exact SA hN f _ (n + 1) 0 (hB.rev _ _) (by omega) (by omega) (Kr _ (Pc hsz he)) (by omega) (λi h1 h2=>by congr 1;omega) λp' m q' a1 a2 a3 a4 a5 a6=>h p' m q' a1 (by omega) (by omega) a4 a5 a6
   ·rw[if_neg hneq];exact SA hN f _ (n + 1) 0 hB (by omega) (by omega) (Kr _ λ_=>rfl) (by omega) (λi h1 h2=>by congr 1;omega) λp' m q' a1 a2 a3 a4 a5 a6=>h p' m q' a1 (by omega) (by omega) a4 a5 a6
  | false =>
   show Bs _ _ (if Aw key _ _=true then _ else _) _;rw[show Aw key (p.getD n 0) (p.getD (n - 1) 0)=false from hless,if_neg (by simp)];refine⟨hB.lt hN _,hB.lt hN _,?_⟩;cases hl:O.blt (key (p.getD (n - 1) 0)) (key (p.getD n 0))with
   | true =>
    show Bs _ _ (if Aw key _ _=true then _ else _) _;rw[show Aw key (p.getD (n - 1) 0) (p.getD n 0)=true from hl,if_pos rfl];exact h p n q hB (Yf _) (by omega) hs hq he
   | false =>
    show Bs _ _ (if Aw key _ _=true then _ else _) _;rw[show Aw key (p.getD (n - 1) 0) (p.getD n 0)=false from hl,if_neg (by simp)];have heqx:KN key p n=KN key p (n - 1):=KeyOrd.kle_antisymm hl hless;refine SA hN f p (n + 1) (q + 1) hB (by omega) (by omega) (λi j hij hj=>?_) (by omega) (λi h1 h2=>?_) λp' m q' a1 a2 a3 a4 a5 a6=>h p' m q' a1 (by omega) (by omega) a4 a5 a6
    ·by_cases hjx:j<n
     ·exact hs i j hij hjx
     ·have F1:j=n:=by omega
      subst F1;by_cases CK:i=j
      ·subst CK;exact JK _
      ·rw[heqx];exact hs i (j - 1) (by omega) (by omega)
    ·rw[show n + 1 - 1=n by omega];by_cases hix:i=n
     ·subst hix;rfl
     ·rw[heqx];exact he i (by omega) (by omega)
def ck{p:Array Nat}{n nrem:Nat}{R:Nat×Array Nat->Prop}(hB:PB N p)(hN:0<N)(hnn:n + 1<=nrem)(hr:nrem<=N)(hs:QA key p (n + 1))
  (h:∀ m p',PB N p'->1<=m->m<=nrem->HB key p' m->R (m,p')):Bs (Aw key) N (kas_descPart n nrem p) R:=by
 unfold kas_descPart;refine Ny (SA hN _ p (n + 1) 0 hB (by omega) (by omega) hs (by omega) (λi h1 h2=>by congr 1;omega) λp' m q Ur m1 m2 Jr hq he=>?_);have hsz:m<=p'.size:=by rw[Ur.size];omega
 show Bs _ _ (if q > 0 then kas_tail3 m nrem (kas_rev p' (m - (q + 1)) m)else kas_tail3 m nrem p') R;by_cases hneq:q > 0
 ·rw[if_pos hneq];refine aL (Ur.rev _ _) hN (by omega) (by omega) hr (λi j hij hj=>?_) h;rw[Pc hsz he,Pc hsz he];exact Jr i j hij hj
 ·rw[if_neg hneq];exact aL Ur hN (by omega) (by omega) hr Jr h
def k9{p:Array Nat}{nrem:Nat}{R:Nat×Array Nat->Prop}(hB:PB N p)(hN:0<N)(h1:1<=nrem)(hr:nrem<=N)
  (h:∀ m p',PB N p'->1<=m->m<=nrem->HB key p' m->R (m,p')):Bs (Aw key) N (kas_count nrem p) R:=by
 unfold kas_count;refine Ny (U6 hB hN _ 1 (Yf _) (λi j hij hj=>by have:i=j:=(by omega);subst this;exact JK _) λn n1 n2 hsn hor=>?_);by_cases hnn:n=nrem
 ·rw[if_pos (by simpa using hnn)];exact h n p hB n1 (by omega) hsn
 ·rw[if_neg (by simpa using hnn)];have AZ:O.klt (KN key p n) (KN key p (n - 1)):=hor.resolve_left (by omega);have hsz:n<=p.size:=by rw[hB.size];omega
  by_cases hgt:n > 1
  ·rw[if_pos hgt];refine⟨hB.lt hN _,hB.lt hN _,?_⟩;cases hl:O.blt (key (p.getD 0 0)) (key (p.getD (n - 1) 0))with
   | true =>
    show Bs _ _ (if Aw key _ _=true then _ else _) _;rw[show Aw key (p.getD 0 0) (p.getD (n - 1) 0)=true from hl,if_pos rfl];exact h n p hB n1 (by omega) hsn
   | false =>
    show Bs _ _ (if Aw key _ _=true then _ else _) _;rw[show Aw key (p.getD 0 0) (p.getD (n - 1) 0)=false from hl,if_neg (by simp)];have heq:∀ k,k<n->KN key p k=KN key p (n - 1):=λk hk=>KeyOrd.kle_antisymm (hsn k (n - 1) (by omega) (by omega)) (KeyOrd.kle_trans (show O.kle (KN key p (n - 1)) (KN key p 0)from hl) (hsn 0 k (by omega) hk));refine ck (hB.rev 0 n) hN (by omega) hr (λi j hij hj=>?_) h;rw[Pc hsz (λk _ h2=>heq k h2),Pc hsz (λk _ h2=>heq k h2)];by_cases hjn:j<n
    ·rw[heq j hjn,heq i (by omega)];exact JK _
    ·have:j=n:=by omega
     subst this;by_cases hi:i=j
     ·subst hi;exact JK _
     ·rw[heq i (by omega)];exact KeyOrd.kle_of_klt AZ
  ·rw[if_neg hgt];have e1:n=1:=by omega
   subst e1;refine ck hB hN (by omega) hr (λi j hij hj=>?_) h;by_cases hi:i=j
   ·subst hi;exact JK _
   ·have e0:i=0:=by omega
    have e2:j=1:=by omega
    subst e0 e2;exact KeyOrd.kle_of_klt AZ
theorem Vc{p:Array Nat}{k:Nat}{R:Nat->Prop}(hB:PB N p)(hN:0<N)(hs:HB key p k):∀(f l r:Nat),l<=r->r<=k->r - l<=f ->
  (∀ i,i<l->O.kle (KN key p i) (KN key p k))->(∀ i,r<=i->i<k->O.klt (KN key p k) (KN key p i)) ->
  (∀ l,l<=k->(∀ i,i<l->O.kle (KN key p i) (KN key p k))->(∀ i,l<=i->i<k->O.klt (KN key p k) (KN key p i))->R l)->Bs (Aw key) N (kas_place p k f l r) R
 | 0,l,r,hlr,hrk,hm,hlo,hhi,h=>h l (by omega) hlo λi h1 h2=>hhi i (by omega) h2
 | f + 1,l,r,hlr,hrk,hm,hlo,hhi,h=>by
  show Bs _ _ (if l ≥ r then _ else _) _;by_cases hge:l ≥ r
  ·rw[if_pos hge];exact h l (by omega) hlo λi h1 h2=>hhi i (by omega) h2
  ·rw[if_neg hge];refine⟨hB.lt hN _,hB.lt hN _,?_⟩;cases hless:O.blt (key (p.getD k 0)) (key (p.getD ((l + r) / 2) 0))with
   | true =>
    show Bs _ _ (if Aw key _ _=true then _ else _) _;rw[show Aw key (p.getD k 0) (p.getD ((l + r) / 2) 0)=true from hless,if_pos rfl];exact Vc hB hN hs f l ((l + r) / 2) (by omega) (by omega) (by omega) hlo (λi h1 h2=>KeyOrd.klt_of_klt_of_kle hless (hs _ _ h1 h2)) h
   | false =>
    show Bs _ _ (if Aw key _ _=true then _ else _) _;rw[show Aw key (p.getD k 0) (p.getD ((l + r) / 2) 0)=false from hless,if_neg (by simp)];exact Vc hB hN hs f ((l + r) / 2 + 1) r (by omega) (by omega) (by omega) (λi h1=>KeyOrd.kle_trans (hs i ((l + r) / 2) (by omega) (by omega)) (show O.kle (KN key p ((l + r) / 2)) (KN key p k)from hless)) hhi h
theorem g9{R:Array Nat->Prop}(hN:0<N):∀(f:Nat) (p:Array Nat) (k:Nat),PB N p->k + f=N->HB key p k->(∀ p',PB N p'->HB key p' N->R p')->Bs (Aw key) N (kas_bin f p k) R
 | 0, p, k, hB, hk, hs, h => h p hB (by have : k = N := by omega
                                        rw[<- this];exact hs)
 | f + 1,p,k,hB,hk,hs,h=>by
  refine Ny (Vc hB hN hs k 0 k (by omega) (by omega) (by omega) (λi hi=>by omega) (λi h1 h2=>by omega) λl hlk hlo hhi=>?_);refine g9 hN f _ (k + 1) (hB.bub _ _) (by omega) (λi j hij hj=>?_) h;have hks:k<p.size:=by rw[hB.size];omega
  rw[gv hks (by omega),gv hks (by omega),show k - (k - l)=l by omega]
  repeat' split
  all_goals first
   | (refine False.elim ?_;omega)
   | exact JK _
   | exact hlo _ (by omega)
   | exact KeyOrd.kle_of_klt (hhi _ (by omega) (by omega))
   | exact hs _ _ (by omega) (by omega)
def Zf{R:Array Nat->Prop}(hN:0<N)(h:∀ p,PB N p->HB key p N->R p):Bs (Aw key) N (kas_sort N) R:=by
 unfold kas_sort;refine Ny (k9 (p:=(List.range N).toArray) (IG _) hN hN (Yf _) λm p' hB m1 m2 hs=>?_);show Bs _ _ (if m<N then kas_bin (N - max m 1) p' (max m 1)else .ret p') R;by_cases AZ:m<N
 ·rw[if_pos AZ,show max m 1=m by omega];exact g9 hN _ p' m hB (by omega) hs h
 ·rw[if_neg AZ];have:m=N:=by omega
  exact h p' hB (this ▸ hs)
end
end L2
namespace L2
open PySem PySem.Spec PyProof.Rows
structure Tp(K:Fg)(x:Str)(st:Stmt)(f:Addr)(fd:FuncData):Prop where
 a:W.nsIn K mainGlobals x=some (some (.ref f))
 fn:Bg K x x st f fd
structure Mp(K:Fg)(C:Addr)(x q:Str)(st:Stmt)(f:Addr)(fd:FuncData):Prop where
 a:W.findIn K (.ref C) x=some (some (.ref f))
 i:W.isFn K (.ref f)=true
 fn:Bg K x q st f fd
structure Cp(K:Fg)(x:Str)(C:Addr):Prop where
 a:W.nsIn K mainGlobals x=some (some (.ref C))
 pg:W.plainGet K C Str.empty=true
 hd:W.hasDictIn K C=true
 po:W.plainOver K C=true
 sa:W.findIn K (.ref C) "__setattr__"=some (some (.builtin "object.__setattr__"))
 mx:W.makesIn K C=true
 kc:W.keepIn K (.ref C)=true
section
variable {K:Fg}{x q:Str}{st:Stmt}{f C:Addr}{oc:Value}{od an:Option Addr}{osl:Array (OU)}{kV doc pm Av ct:Value}
def tp(a:W.nsIn K mainGlobals x=some (some (.ref f)))(l:K.lookup f=some ⟨oc,od,.func (W.fnOf x x (FC st) (CY st) (AK st) .none kV doc pm an Av ct),osl⟩)(c:W.codeIn K Av x=true)(k:W.keepIn K (.ref f)=true):
  Tp K x st f (W.fnOf x x (FC st) (CY st) (AK st) .none kV doc pm an Av ct):=⟨a,g0 l c k⟩
def mp(a:W.findIn K (.ref C) x=some (some (.ref f)))(i:W.isFn K (.ref f)=true)(l:K.lookup f=some ⟨oc,od,.func (W.fnOf x q (FC st) (CY st) (AK st) .none kV doc pm an Av ct),osl⟩)(c:W.codeIn K Av q=true)(k:W.keepIn K (.ref f)=true):
  Mp K C x q st f (W.fnOf x q (FC st) (CY st) (AK st) .none kV doc pm an Av ct):=⟨a,i,g0 l c k⟩
end
section
variable {K:Fg}{mg:Str->OU}{x q:Str}{st:Stmt}{f:Addr}{fd:FuncData}{h:Heap}
def YH{us:LU}(h:us.length=1):∃ a,us=[a]:=List.length_eq_one_iff.mp h
def ln2{us:LU}(h:us.length=2):∃ a b,us=[a,b]:=by
 cases us with
 | nil=>cases h
 | cons a r=>obtain⟨_,rfl⟩:=YH (KW h);exact⟨_,Z⟩
def YG{us:LU}(h:us.length=3):∃ a b c,us=[a,b,c]:=by
 cases us with
 | nil=>cases h
 | cons a r=>obtain⟨_,_,rfl⟩:=ln2 (KW h);exact⟨_,_,Z⟩
def YF{us:LU}(h:us.length=4):∃ a b c d,us=[a,b,c,d]:=by
 cases us with
 | nil=>cases h
 | cons a r=>obtain⟨_,_,_,rfl⟩:=YG (KW h);exact⟨_,_,_,Z⟩
def ja{us:LU}(h:us.length=5):∃ a b c d e,us=[a,b,c,d,e]:=by
 cases us with
 | nil=>cases h
 | cons a r=>obtain⟨_,_,_,_,rfl⟩:=YF (KW h);exact⟨_,_,_,_,Z⟩
def C5(a:Str)(F:Bg K x q st f fd)(e:∀(kV doc pm:Value) (an:Option Addr) (Av ct u:Value),bindArgs (W.fnOf x q (FC st) (CY st) (AK st) .none kV doc pm an Av ct) ⟨[u],[]⟩=pure ([a].zip [u]):=by intros;rfl):C6 K fd [a] [] :=
 F.binds λ_ _ _ _ _ _ us hl=>by
 obtain⟨_,rfl⟩:=YH hl;exact e ..
def Cu(a b:Str)(F:Bg K x q st f fd)(e:∀(kV doc pm:Value) (an:Option Addr) (Av ct u v:Value),bindArgs (W.fnOf x q (FC st) (CY st) (AK st) .none kV doc pm an Av ct) ⟨[u,v],[]⟩=pure ([a,b].zip [u,v]):=by intros;rfl):C6 K fd [a,b] [] :=
 F.binds λ_ _ _ _ _ _ us hl=>by
 obtain⟨_,_,rfl⟩:=ln2 hl;exact e ..
def CS(a b c:Str)(F:Bg K x q st f fd)(e:∀(kV doc pm:Value) (an:Option Addr) (Av ct u v w:Value),bindArgs (W.fnOf x q (FC st) (CY st) (AK st) .none kV doc pm an Av ct) ⟨[u,v,w],[]⟩=pure ([a,b,c].zip [u,v,w]):=by intros;rfl):C6 K fd [a,b,c] [] :=
 F.binds λ_ _ _ _ _ _ us hl=>by
 obtain⟨_,_,_,rfl⟩:=YG hl;exact e ..
def NM(a b c d:Str)(F:Bg K x q st f fd)(e:∀(kV doc pm:Value) (an:Option Addr) (Av ct u v w y:Value),bindArgs (W.fnOf x q (FC st) (CY st) (AK st) .none kV doc pm an Av ct) ⟨[u,v,w,y],[]⟩=pure ([a,b,c,d].zip [u,v,w,y]):=by intros;rfl):C6 K fd [a,b,c,d] [] :=
 F.binds λ_ _ _ _ _ _ us hl=>by
 obtain⟨_,_,_,_,rfl⟩:=YF hl;exact e ..
def kh(a b c d g:Str)(F:Bg K x q st f fd)(e:∀(kV doc pm:Value) (an:Option Addr) (Av ct u v w y z:Value),bindArgs (W.fnOf x q (FC st) (CY st) (AK st) .none kV doc pm an Av ct) ⟨[u,v,w,y,z],[]⟩=pure ([a,b,c,d,g].zip [u,v,w,y,z]):=by intros;rfl):C6 K fd [a,b,c,d,g] [] :=
 F.binds λ_ _ _ _ _ _ us hl=>by
 obtain⟨_,_,_,_,_,rfl⟩:=ja hl;exact e ..
def df{ps:LS}(X:K.In h)(G:h.Ns mainGlobals mg)(T:Tp K x st f fd)(b:C6 K fd ps []):Def K mg x st ps f fd:=⟨T.fn,b,W.mg_of X G T.a⟩
theorem Tp.ex{x q:Str}(F:Bg K x q st f fd):∃(kV doc pm:Value) (an:Option Addr) (Av ct:Value),fd=W.fnOf x q (FC st) (CY st) (AK st) .none kV doc pm an Av ct:=by
 obtain⟨oc,od,kV,doc,pm,an,Av,ct,osl,e,_⟩:=F.ex;exact⟨kV,doc,pm,an,Av,ct,e⟩
end
abbrev w_:=St->Hp->(Str->Hp->Prop)->Prop
abbrev w9:=St->Hp->Str->(Str->Hp->Prop)->Prop
section
variable {X:Cx}{e:Expr}{es:List Expr}{te:TE}{t:w_}{u:w9}{pos:Pos}
end
section
variable {X:Cx}
end
section
variable {X:Cx}
end
section
variable {X:Cx}
end
end L2
namespace Md
open PySem L2
end Md
namespace L2
open PySem PySem.Spec PyProof.Rows
structure Qp(K:Fg)(x:Str)(C:Addr):Prop where
 a:W.nsIn K mainGlobals x=some (some (.ref C))
 cl:W.isClsIn K C=true
 ty:W.typeIn K (.ref C)=some (.type "type")
structure yI(K:Fg)(q Q0 Q1 Q2 Q3 Q4 Q5 Q6 Q7 Q8 Q9 xF xE xD xC xB:Addr)(b0 b1 b2 b3 b4 b5 b6 b7 b8 b9 kx ku kr ko km:Bool):Prop where
 f0:W.subIn K (.ref q) (.ref Q0)=some b0
 f1:W.subIn K (.ref q) (.ref Q1)=some b1
 f2:W.subIn K (.ref q) (.ref Q2)=some b2
 f3:W.subIn K (.ref q) (.ref Q3)=some b3
 f4:W.subIn K (.ref q) (.ref Q4)=some b4
 f5:W.subIn K (.ref q) (.ref Q5)=some b5
 f6:W.subIn K (.ref q) (.ref Q6)=some b6
 f7:W.subIn K (.ref q) (.ref Q7)=some b7
 f8:W.subIn K (.ref q) (.ref Q8)=some b8
 f9:W.subIn K (.ref q) (.ref Q9)=some b9
 yD:W.subIn K (.ref q) (.ref xF)=some kx
 yC:W.subIn K (.ref q) (.ref xE)=some ku
 yB:W.subIn K (.ref q) (.ref xD)=some kr
 yA:W.subIn K (.ref q) (.ref xC)=some ko
 x_:W.subIn K (.ref q) (.ref xB)=some km
section
variable {K:Fg}{C D N:Addr}{nm q a:Str}{bs sub bm:LU}{hd ab:Bool}{sn:LS}{col:Option Bool}{dd:Option Addr}{k0 k1 k2 k3 k5:OU}
end
section
variable {prog:Program}{w:World}{A:Around}{E:EV}{s:Shared}{x y:Str}{t u:Tok}
end
section
variable {X:Cx}
end
end L2
namespace Md
open PySem L2
end Md
namespace L2
open PySem PySem.Spec PyProof.Rows
section
variable {prog:Program}{w:World}{A:Around}{E:EV}{s:Shared}
end
section
variable {M:Model}{A:Around}{E:EV}{s:Shared}{env:Env}
end
section
variable {X:Cx}
end
abbrev HA(o:Obj):HO:=.frz o (.ext λ_=>True)
def U9{P:Program}{w:World}{H:Hp}{h:Heap}{a:Addr}{o:Obj}(e:h.get? a=some o):BO P w H h a (HA o):=⟨e,trivial,⟨o,e⟩,λ_ _ _ _=>trivial⟩
def Dq(H:Hp)(P:Addr)(pos:Pos)(qual:Str):Prop:=H P=some (.tbl #[])\/∃(c:Addr) (oc:Obj) (vs:Array Value) (t:Tok),H P=some (.tbl #[rawInt pos.line,rawInt pos.col,.ref c])/\H c=some (HA oc)/\oc.data=.fields vs/\vs[1]?=some (.str qual t)
structure LM(mg:Str->OU)(base:Heap)(c P:Addr):Prop where
 code:W.CodeHd base c P
 ne:mainGlobals≠P
 blt:base.BuiltinsAt mg P
def BW(P:Addr)(H H':Hp):Prop:=∀ b o,b≠P->H b=some o->H' b=some o
theorem V4{env:Env}:∀(names:List (Str×NameKind)) (acc:List (Str×Addr)),(∀ y∈names,y.2=.free->∃ c,env.cells.lookup y.1=some c)->(∀ x c,acc.lookup x=some c->env.cells.lookup x=some c) ->
  ∃ cl:List (Str×Addr),(forIn names acc λx (cs:List (Str×Addr))=>(do
   if x.2 == NameKind.free then let c <- cellOf env x.1;pure (ForInStep.yield ((x.1,c):: cs))else pure (ForInStep.yield cs):Sem _))=pure cl/\(∀ x c,cl.lookup x=some c->env.cells.lookup x=some c) /\
   (∀ y∈names,y.2=.free->∃ c,cl.lookup y.1=some c)/\∀ x c,acc.lookup x=some c->∃ c',cl.lookup x=some c'
 | [],acc,_,ha=>⟨acc,Y,ha,(λ_ h=>nomatch h),λx c h=>⟨c,h⟩⟩
 | (n,k):: r,acc,h,ha=>by
  by_cases hk:k=NameKind.free
  ·obtain⟨c,hc⟩:=h (n,k) (.head _) hk;obtain⟨cl,e,h1,h2,h3⟩:=V4 r ((n,c):: acc) (λy hy=>h y (.tail _ hy)) (λx d hx=>by
    rw[C9]at hx;cases hb:x == n with
    | true=>rw[hb]at hx;cases hx;rw[eq_of_beq hb];exact hc
    | false=>rw[hb]at hx;exact ha x d hx)
   refine⟨cl,?_,h1,λy hy hf=>?_,λx d hx=>?_⟩
   ·rw[MT];have e1:(k == NameKind.free)=true:=by rw[hk];rfl
    have e2:cellOf env n=pure c:=by unfold cellOf;rw[hc]
    simp only[e1,e2,if_true,pure_bind];exact e
   ·rcases Yw.mp hy with rfl | hy
    ·exact h3 n c (by rw[C9];simp)
    ·exact h2 y hy hf
   ·by_cases hb:(x == n)=true
    ·exact h3 x c (by rw[C9,hb])
    ·exact h3 x d (by rw[C9];simp only[Bool.not_eq_true]at hb;rw[hb];exact hx)
  ·obtain⟨cl,e,h1,h2,h3⟩:=V4 r acc (λy hy=>h y (.tail _ hy)) ha;refine⟨cl,?_,h1,λy hy hf=>?_,h3⟩
   ·rw[MT];have e1:(k == NameKind.free)=false:=by cases k <;> first | rfl | exact absurd rfl hk
    simp only[e1,OJ,if_false,pure_bind];exact e
   ·rcases Yw.mp hy with rfl | hy
    ·exact absurd hf hk
    ·exact h2 y hy hf
def pN{scope:Scope}{env:Env}(h:∀ y∈scope.names,y.2=.free->∃ c,env.cells.lookup y.1=some c):
  ∃ cl:List (Str×Addr),closureFor scope env=pure cl/\(∀ x c,cl.lookup x=some c->env.cells.lookup x=some c)/\∀ y∈scope.names,y.2=.free->∃ c,cl.lookup y.1=some c:=by
 obtain⟨cl,e,h1,h2,_⟩:=V4 scope.names [] h (λ_ _ h=>by cases h);refine⟨cl,?_,h1,h2⟩;unfold closureFor;exact(congrArg (λm:Sem _=>m>>=λr=>pure r) e).trans (pure_bind _ _)
section
variable {X:Cx}{pins:PL}{σ:St}{H:Hp}{s:Shared}
def aP{params:Arguments}{body:Expr}{scope:Scope}{pos:Pos}{c P:Addr}{E:EV}{Q:EV}{qual:Str}(I:Inv X pins σ H s)(L:LM X.mg X.base c P)(hcode:X.env.code=.ref c)(hq:X.env.qual++"<lambda>"=qual)
  (hT:Dq H P pos qual) (hdef:defaultsOf params X.env=([],[])) (As:∀ y∈scope.names,y.2=.free->∃ c,X.env.cells.lookup y.1=some c)
  (h:∀(f c':Addr) (oc:Obj) (vs:Array Value) (t:Tok) (ctv:Value) (cl:List (Str×Addr)) (H':Hp) (s':Shared),(∀ x c,cl.lookup x=some c->X.env.cells.lookup x=some c)->(∀ y∈scope.names,y.2=.free->∃ c,cl.lookup y.1=some c) ->
   Inv X pins σ H' s'->BW P H H'->Dq H' P pos qual->H f=none->H' f=some (HA (W.kla_obj "<lambda>" qual params body scope cl ((X.mg "__name__").getD .none) c' ctv))->H' c'=some (HA oc)->oc.data=.fields vs->vs[1]?=some (.str qual t)->Q (.ref f) s'):
  wpAny (model X.prog X.w) X.A (eval (.Lambda params body scope pos) X.env) Q E s:=by
 refine W.kla_eval hdef ?_;obtain⟨cl,ecl,E7,Cm⟩:=pN As;have hg:s.heap.Ns mainGlobals X.mg:=I.mod.glob.keeps I.bk;have C:W.CodeHd s.heap c P:=L.code.keeps I.bk;have hb:s.heap.BuiltinsAt X.mg P:=L.blt.keeps I.bk;rw[hq]
 rcases hT with hT | ⟨c',oc,vs,t,hT,hc,hd,hv⟩
 ·have hP:s.heap.get? P=some (W.tabObj #[]):=I.hok P _ hT;have hPl:P<s.heap.objs.size:=Yl hP;refine W.kla_makeFunction ecl I.ok.glob hg hcode C hP trivial rfl L.ne hb λc' ctv h' tk hx hge AZ hrec htb=>?_;obtain⟨c₂,oc,vs,t,e2,hoc,hd,hv⟩:=hrec;cases e2;have hcP:c'≠P:=Eb (Yp hPl hge);have hfc:h'.objs.size≠c':=Eb AZ;have hfP:h'.objs.size≠P:=Eb (Nat.lt_trans (Yp hPl hge) AZ);have hfs:s.heap.objs.size<=h'.objs.size:=A7 hge (KZ AZ);have Qg:h'.get? P=some (W.tabObj #[rawInt pos.line,rawInt pos.col,.ref c']):=by simpa using htb
  obtain⟨fo,efo⟩:∃ fo,fo=W.kla_obj "<lambda>" qual params body scope cl ((X.mg "__name__").getD .none) c' ctv:=⟨Z⟩;obtain⟨H',eH⟩:∃ H':Hp,H'=upd (upd (upd H P (.tbl #[rawInt pos.line,rawInt pos.col,.ref c'])) c' (HA oc)) h'.objs.size (HA fo):=⟨Z⟩;have Oj:H' h'.objs.size=some (HA fo):=by rw[eH];exact uS
  have BL:H' c'=some (HA oc):=by rw[eH,AD (Yr hfc)];exact uS
  have Uq:H' P=some (.tbl #[rawInt pos.line,rawInt pos.col,.ref c']):=by rw[eH,AD (Yr hfP),AD (Yr hcP)];exact uS
  have low:∀ b,b<s.heap.objs.size->b≠P->H' b=H b:=λb hb hbP=>by
   rw[eH,AD (A8 (Yp hb hfs)),AD (A8 (Yp hb hge)),AD hbP]
  have lowS:∀ b u,b≠P->H b=some u->H' b=some u:=λb u hbP e=>by rw[low b (I.hok.lt e) hbP];exact e
  have nP:∀ b,H b=none->b≠P:=λb n z=>by rw[z,hT]at n;cases n
  have kp:∀ b o,b≠P->s.heap.get? b=some o->(h'.push fo).get? b=some o:=λb o hbP e=>Yd _ (hx b o hbP e);have I':Inv X pins σ H' {s with heap:=h'.push fo,toks:=tk}:=by
   refine I.un ⟨λb o e n _ _=>kp b o (nP b n) e,λb o e n _ _=>⟨o.slots,kp b o (nP b n) e⟩,λb o e n _=>by rw[low b (Yl e) (nP b n)];exact n,λb o e _=>?_,λb xs e=>lowS b _ (λz=>by rw[z,hT]at e;cases e) e,λb o u e=>lowS b _ (λz=>by rw[z,hT]at e;cases e) e,λb ps e=>?_⟩ λb u e=>?_
   ·by_cases hbP:b=P
    ·exact⟨_,by rw[hbP];exact Yd _ Qg⟩
    ·exact⟨o,kp b o hbP e⟩
   ·by_cases hbP:b=P
    ·rw[hbP,hT]at e;cases e;exact⟨#[rawInt pos.line,rawInt pos.col,.ref c'],by rw[hbP,Uq];simp⟩
    ·exact⟨#[],by rw[lowS b _ hbP e];simp⟩
   ·by_cases h1:b=h'.objs.size
    ·rw[h1,Oj]at e;cases e;rw[h1];exact U9 (by rw[efo];exact Yk _ rfl)
    by_cases h2:b=c'
    ·rw[h2,BL]at e;cases e;rw[h2];exact U9 (Yd _ hoc)
    by_cases h3:b=P
    ·rw[h3,Uq]at e;cases e;rw[h3];exact Yd _ Qg
    have e':H b=some u:=by rw[eH,AD h1,AD h2,AD h3]at e;exact e
    refine(I.hok b u e').stay (λd v hd q=>kp d v (λz=>?_) q) (λd q=>lowS d _ (λz=>by rw[z,hT]at q;cases q) q) λd xs q=>lowS d _ (λz=>by rw[z,hT]at q;cases q) q
    rcases hd with z' | z'
    ·exact h3 (z'.symm.trans z)
    ·rw[z,hT]at z';cases z'
  have:=h h'.objs.size c' oc vs t ctv cl H' _ E7 Cm I' (λb o hb e=>lowS b o hb e) (.inr ⟨c',oc,vs,t,Uq,BL,hd,hv⟩) (I.hok.fresh hfs) (by rw[Oj,efo]) BL hd hv;rw[efo]at this;exact this
 ·have hP:s.heap.get? P=some (W.tabObj #[rawInt pos.line,rawInt pos.col,.ref c']):=I.hok P _ hT;have hPl:P<s.heap.objs.size:=Yl hP;refine W.kla_makeFunctionHit (cv:=.ref c') ecl I.ok.glob hg hcode C hP trivial (by simp[codeAmong,rawInt]) hb λctv h' tk hk hsz=>?_;have hfr:H h'.objs.size=none:=I.hok.fresh hsz;have lowS:∀ b u,H b=some u->(upd H h'.objs.size (HA (W.kla_obj "<lambda>" qual params body scope cl ((X.mg "__name__").getD .none) c' ctv))) b=some u:=λb u e=>by rw[AD (AH e hfr)];exact e
  exact h h'.objs.size c' oc vs t ctv cl _ _ E7 Cm (I.laid (t':=tk) (λb u e=>Yd _ (hk b u e)) hsz (U9 (Yk _ rfl))) (λb o _ e=>lowS b o e) (.inr ⟨c',oc,vs,t,lowS _ _ hT,lowS _ _ hc,hd,hv⟩) hfr uS (lowS _ _ hc) hd hv
end
def Oz(X:Cx)(A:Around)(N:LS)(qual:Str)(scope:Scope)(f:Addr)(cd:Value)(cl:List (Str×Addr))(s:Shared)(H:Hp):Cx where
 prog:=X.prog
 w:=X.w
 K:=X.K
 mg:=X.mg
 base:=X.base
 A:=A.deeper (W.envX qual scope s.heap.objs.size f cd cl)
 N:=N
 s₀:=s
 H₀:=H
 env:=W.envX qual scope s.heap.objs.size f cd cl
 outer:=X.stack
 stack:=W.envX qual scope s.heap.objs.size f cd cl :: X.stack
 ex:=[]
 calm:=true
 fn:=λ_=>false
 pn:=[]
 xe:=λ_ _=>False
structure Tg(osc:Scope)(on:LS)(scope:Scope)(x:Str)(frees:LS)(js:LN):Prop where
 kind:scope.kind=.function
 co:scope.isCoroutine=false
 gen:scope.isGenerator=false
 nocell:∀ y∈scope.names,y.2≠.cell
 par:scope.names.lookup x=some .local
 fre:∀ y∈frees,scope.names.lookup y=some .free
 pl:js.map (λj=>on[j]?)=frees.map some
 fr:∀ y∈scope.names,y.2=.free->osc.names.lookup y.1=some .cell\/osc.names.lookup y.1=some .free
def aO{osc:Scope}{on:LS}{scope:Scope}{x:Str}{frees:LS}{js:LN}
  (h:((scope.kind == .function)&&!scope.isCoroutine&&!scope.isGenerator&&scope.names.all (λy=>y.2 != .cell)&&(scope.names.lookup x == some .local)&&frees.all (λy=>scope.names.lookup y == some .free)&&decide (js.map (λj=>on[j]?)=frees.map some) &&
   scope.names.all (λy=>y.2 != .free || (osc.names.lookup y.1 == some .cell || osc.names.lookup y.1 == some .free)))=true):Tg osc on scope x frees js:=by
 simp only[Du,Cr,decide_eq_true_eq,Bool.or_eq_true,bne_iff_ne,beq_iff_eq,ne_eq,KY]at h;obtain⟨⟨⟨⟨⟨⟨⟨a,b⟩,c⟩,d⟩,e⟩,f⟩,g⟩,i⟩:=h;exact⟨a,b,c,d,e,f,g,λy hy z=>(i y hy).resolve_left (λq=>q z)⟩
section
variable {X:Cx}{pins:PL}{σ:St}{H:Hp}{s:Shared}
def Zg{A:Around}{params:Arguments}{body:Expr}{scope:Scope}{qual x:Str}{frees:LS}{js:LN}{f c':Addr}{oc:Obj}{vs:Array Value}{t:Tok}{ctv pm:Value}{cl:List (Str×Addr)}{v:V}{u:Value}{tb:TE}{Q:VK}
  (I:Inv X pins σ H s) (hA:A.frames=some X.stack) (hh:A.handled=none) (hdp:A.depth<recursionLimit) (Lm:Tg X.env.scope X.N scope x frees js) (hf:H f=some (HA (W.kla_obj "<lambda>" qual params body scope cl pm c' ctv)))
  (hc:H c'=some (HA oc)) (hd:oc.data=.fields vs) (hv:vs[1]?=some (.str qual t)) (E7:∀ x c,cl.lookup x=some c->X.env.cells.lookup x=some c) (Cm:∀ y∈scope.names,y.2=.free->∃ c,cl.lookup y.1=some c)
  (hbind:bindArgs (W.kla_fn "<lambda>" qual params body scope cl pm (.ref c') ctv) ⟨[u],[]⟩=pure [(x,u)]) (ru:AX v u)
  (hb:PE (Oz X A (x :: frees) qual scope f (.ref c') cl s H) body tb) (h:tb (some v :: js.map λj=>(σ[j]?).join) H Q):
  wpAny (model X.prog X.w) A (call (.ref f) [u]) (EP X pins σ Q) (λ_ _=>False) s:=by
 have ho:s.heap.get? f=some (W.kla_obj "<lambda>" qual params body scope cl pm c' ctv):=(I.hok f _ hf).1;have hco:s.heap.get? c'=some oc:=(I.hok c' _ hc).1;have run:codeAny (model X.prog X.w) A (.call (.ref f) ⟨[u],[]⟩) (λr s'=>match r with | .ok (.ret u)=>EP X pins σ Q u s' | _=>False) s:=by
  refine W.kla_callFunE hdp ho rfl Lm.co Lm.gen rfl ⟨c',oc,vs,t,Y,hco,hd,hv⟩ ?_;rw[hbind];refine Jd (wpAny_newFunctionEnv Lm.nocell (λy hy=>by rw[Yj.mp hy];exact Lm.par) (λh' hns hsb=>?_) Lm.kind);have keep:∀ b o,s.heap.get? b=some o->h'.get? b=some o:=λb o e=>hsb.extBut b o (A8 (Yl e)) (Yd _ e);refine⟨I.nolimit.keeps keep,W.kla_codeExpr ?_⟩;have XR:(Oz X A (x :: frees) qual scope f (.ref c') cl s H).Ok:=by
   refine⟨I.ok.mod,Lm.kind,Y,Y,Yf _,λy z c a b=>I.ok.inj y z c (E7 y c a) (E7 z c b),λy hy=>?_,(λy c z _=>by cases z),λ_=>hh,Around.frames_deeper hA,.inr ⟨Y,Y⟩,(λb z=>nomatch (show b∈([]:List Addr)from z)),I.bs,A7 I.ok.bsz I.sz,
    (λb _ _ z=>nomatch (show b∈([]:List Addr)from z)),(λb z=>nomatch (show b∈([]:List Addr)from z)),I.stack,I.stkFree⟩
   have hy:scope.names.lookup y=some .cell\/scope.names.lookup y=some .free:=hy
   rcases hy with hy | hy
   ·exact absurd rfl (Lm.nocell _ (Dv hy))
   ·exact Cm _ (Dv hy) rfl
  have I1:Inv (Oz X A (x :: frees) qual scope f (.ref c') cl s H) [] (some v :: js.map λj=>(σ[j]?).join) H {s with heap:=h',toks:=s.toks + 1}:=by
   refine⟨XR,Y,I.bare,Un.kept keep,⟨_,hns,λi y v' h1 h2 h3=>?_⟩,λy c e=>?_,I.hok.fresh (Yf _),λy c e=>I.freeC y c (E7 y c e),(λp hp=>nomatch (show p∈([]:PL)from hp)),I.hok.kept keep,?_⟩
   ·cases i with
    | zero =>
     have h1:some x=some y:=h1;have h2:some (some v)=some (some v'):=h2;cases h1;cases h2;exact⟨u,ru,.inl ⟨Lm.par,by show List.lookup x [(x,u)]=some u;simp⟩⟩
    | succ i =>
     have h1:frees[i]?=some y:=h1;have h2:(js.map λj=>(σ[j]?).join)[i]?=some (some v'):=h2;rw[Yi]at h2;obtain⟨j,hj,ej⟩:=IJ.mp h2;have e3:X.N[j]?=some y:=by
      have e4:=congrArg (·[i]?) Lm.pl;simp only[Yi,hj,h1,QL]at e4;exact Ba e4
     have e5:σ[j]?=some (some v'):=by
      cases q:σ[j]? with
      | none=>rw[q]at ej;cases ej
      | some z=>rw[q]at ej;rw[show z=some v' from ej]
     have fy:=Lm.fre y (Yc h1);have ky:=Lm.fr _ (Dv fy) rfl;obtain⟨m,_,lk⟩:=I.loc;obtain⟨u',jD,L'⟩:=lk j y v' e3 e5 (.inr ky);obtain⟨c2,Qu⟩:=Cm _ (Dv fy) rfl;refine⟨u',jD,.inr ⟨.inr fy,c2,Qu,?_⟩⟩
     rcases L' with⟨kl,_⟩ | ⟨_,c3,YX,cell⟩
     ·have kl:X.env.scope.names.lookup y=some .local:=kl
      rcases ky with ky | ky
      ·have ky:X.env.scope.names.lookup y=some .cell:=ky;rw[kl]at ky;cases ky
      ·have ky:X.env.scope.names.lookup y=some .free:=ky;rw[kl]at ky;cases ky
     ·rw[E7 _ _ Qu]at YX;cases YX;obtain⟨o,e,r⟩:=cell;exact⟨o,keep _ _ e,r⟩
   ·obtain⟨w',o,e',r⟩:=I.cell y c (E7 y c e);exact⟨w',o,keep _ _ e',r⟩
   ·show(some v :: js.map λj=>(σ[j]?).join).length=(x :: frees).length;have:=congrArg List.length Lm.pl;rw[Ya,Ya]at this;rw[Bv,Bv,Ya,this]
  refine Jf (hb [] _ _ H Q I1 h) (λw' s' hq=>?_) λe s' z=>False.elim z;obtain⟨v',H',J,rv,q⟩:=hq;exact I.after ⟨v',H',J.os,J.bare,J.base,J.hok,rv,q⟩
 refine wpAny_call (codeAny_mono run λr s' hq=>?_);cases r with
 | error e=>exact hq
 | ok fl =>
  cases fl with
  | ret w'=>exact hq
  | next=>exact False.elim hq
  | brk=>exact False.elim hq
  | cont=>exact False.elim hq
end
end L2
namespace L2
open PySem PySem.Spec PyProof.Rows
open PySem.W (KasT kas_sort kas_cmp kas_item kas_st kas_runs kas_range)
def OD{α:Type}(lt:Nat->Nat->Bool):KasT α->α
 | .ret a=>a
 | .ask i j k=>OD lt (k (lt i j))
theorem bN{α:Type}{lt:Nat->Nat->Bool}{N:Nat}{R:α->Prop}:∀ {t:KasT α},Bs lt N t R->Bs lt N t (λa=>R a/\a=OD lt t)
 | .ret _,h=>⟨h,Y⟩
 | .ask _ _ k,⟨h1,h2,h⟩=>⟨h1,h2,bN (t:=k _) h⟩
theorem bM{α:Type}{lt:Nat->Nat->Bool}{N:Nat}{R:α->Prop}:∀ {t:KasT α},Bs lt N t R->R (OD lt t)
 | .ret _,h=>h
 | .ask _ _ k,⟨_,_,h⟩=>bM (t:=k _) h
def sIx(n:Nat)(lt:Nat->Nat->Bool):Array Nat:=if n<2 then(List.range n).toArray else OD lt (kas_sort n)
def R1{O:KeyOrd}(key:Nat->O.α)(n:Nat):PB n (sIx n (Aw key))/\HB key (sIx n (Aw key)) n:=by
 unfold sIx;by_cases h:n<2
 ·rw[if_pos h];refine⟨IG _,λi j hij hj=>?_⟩;have:i=j:=by omega
  subst this;exact JK _
 ·rw[if_neg h];exact bM (Zf (key:=key) (N:=n) (R:=λp=>PB n p/\HB key p n) (by omega) λp a b=>⟨a,b⟩)
def ri(b:Bool)(n i:Nat):Nat:=if b then n - 1 - i else i
def Xy{α:Type}(b:Bool)(l:List α):List α:=if b then l.reverse else l
def Ht{O:KeyOrd}(b:Bool)(kf:Nat->O.α)(n:Nat):LN:=Xy b ((sIx n (Aw λi=>kf (ri b n i))).toList.map (ri b n))
def Fh{O:KeyOrd}(b:Bool)(kf:Nat->O.α)(xs:LV):LV:=(Ht b kf xs.length).map λi=>xs.getD i .non
def vN(b:Bool)(n:Nat){l:LN}(h:l.Perm (List.range n)):(Xy b (l.map (ri b n))).Perm (List.range n):=by
 cases b with
 | false =>
  show(l.map λi=>i).Perm _;rw[Gh];exact h
 | true =>
  show((l.map λi=>n - 1 - i).reverse).Perm _;refine(List.reverse_perm _).trans ((h.map _).trans ?_);have e:(List.range n).map (λi=>n - 1 - i)=(List.range n).reverse:=by
   apply OF;intro i;by_cases hi:i<n
   ·rw[Yi,JI hi,List.getElem?_reverse (by rw[Df];exact hi),Df,JI (by omega)];rfl
   ·rw[FI (by rw[Ya,Df];omega),FI (by rw[List.length_reverse,Df];omega)]
  rw[e];exact List.reverse_perm _
def L3{O:KeyOrd}(b:Bool)(kf:Nat->O.α)(n:Nat):(Ht b kf n).Perm (List.range n):=vN b n (R1 _ n).1
def dS{O:KeyOrd}(b:Bool)(kf:Nat->O.α)(n:Nat):(Ht b kf n).Pairwise λi j=>if b then O.kle (kf j) (kf i)else O.kle (kf i) (kf j):=by
 obtain⟨pb,so⟩:=R1 (λi=>kf (ri b n i)) n;have pw:((sIx n (Aw λi=>kf (ri b n i))).toList.map (ri b n)).Pairwise λi j=>O.kle (kf i) (kf j):=by
  rw[Ka,MM];intro i j hi hj hij;rw[JJ]at hi hj;have hs:=pb.size;have:=so i j (KZ hij) (by omega);unfold KN at this;simp only[Array.getD,hi,hj,dite_true]at this;simpa using this
 unfold Ht;cases b with
 | false=>exact pw
 | true=>exact List.pairwise_reverse.mpr pw
def pe{O:KeyOrd}(b:Bool)(kf:Nat->O.α)(xs:LV):(Fh b kf xs).Perm xs:=by
 refine((L3 b kf xs.length).map _).trans ?_;have e:(List.range xs.length).map (λi=>xs.getD i V.non)=xs:=by
  apply OF;intro i;by_cases hi:i<xs.length
  ·rw[Yi,JI hi,Yb hi];show some (xs.getD i V.non)=_;rw[Yh,Yb hi];rfl
  ·rw[FI (by rw[Ya,Df];omega),FI (by omega)]
 rw[e]
def Hw:KeyOrd where
 α:=Int
 blt:=λa b=>decide (a<b)
 irrefl:=λa=>Jc (by omega)
 trans:=λa b c h1 h2=>Jb (by have:=Je h1;have:=Je h2;omega)
 negTrans:=λa b c h=>by
  have h:=Je h;by_cases hb:a<b
  ·exact .inl (Jb hb)
  ·exact .inr (Jb (by omega))
 total:=λa b h1 h2=>by
  have h1:=of_decide_eq_false h1;have h2:=of_decide_eq_false h2;omega
section
variable {prog:Program}{w:World}{A:Around}{E:EV}{s:Shared}{a kS:Addr}{b:Bool}{vs:LU}{keys:Array Value}{e e1:Nat}{P:PySem.Fin->Shared->Prop}
def Z1{st:SortSt}{res:Array Keyed}(nk:s.heap.get? kS=some (seqObj "list" keys e))(na:s.heap.get? a=some (seqObj "list" #[] e1))(hka:kS≠a)
  (Dj:keys.size<64) (hr:arrOf st=res) (hz:res.size<64) (hfl:failedOf st=none)
  (h:∀ h' tk c,(∀ x o,x≠kS->x≠a->s.heap.get? x=some o->h'.get? x=some o)->(∃ o,h'.get? kS=some o)->h'.get? a=some (seqObj "list" (if b then(res.map (·.2)).reverse else res.map (·.2)) c)->P (.done (.ret .none)) {s with heap:=h',toks:=tk}):
  wpAny (model prog w) A (ksk_tail a b e1 (.ref kS) st) P E s:=by
 have hout:(if b then(res.map (·.2)).reverse else res.map (·.2)).size<64:=by
  cases b with
  | false=>simp only[OJ,if_false,Array.size_map];exact hz
  | true=>simp only[if_true,Array.size_reverse,Array.size_map];exact hz
 have s1:=ON s.heap kS (Obj.mapSeq λ_=>(#[]:Array Value));have UP:(s.heap.update kS (Obj.mapSeq λ_=>(#[]:Array Value))).get? a=some (seqObj "list" #[] e1):=(s1.2 a hka.symm).trans na;have jJ:∃ o,(s.heap.update kS (Obj.mapSeq λ_=>(#[]:Array Value))).get? kS=some o:=⟨_,get?_update_seq nk λ_=>#[]⟩;have s2:=ON (s.heap.update kS (Obj.mapSeq λ_=>(#[]:Array Value))) a (Obj.mapSeq λ_=>if b then(res.map (·.2)).reverse else res.map (·.2));have Cm:=get?_update_seq UP λ_=>if b then(res.map (·.2)).reverse else res.map (·.2)
 unfold ksk_tail;rw[hr,hfl]
 try dsimp only
 refine Ja (listUpdate_at nk rfl ?_ (by rw[sizeLine_eq];omega) (BF _));refine Ja (wpAny_letGo ?_);refine Ja (seqEpoch_at UP rfl ?_);refine Ja (listUpdate_at UP rfl ?_ (BF _) (A7 (KZ hout) (by rw[sizeLine_eq];omega)));simp only[bne_self_eq_false,OJ,if_false];exact Jd (h _ _ _ (λx o x1 x2 q=>(s2.2 x x2).trans ((s1.2 x x1).trans q)) (let⟨o,q⟩:=jJ;⟨o,(s2.2 kS hka).trans q⟩) Cm)
def tJ{κ:SortKind}{it:Array Keyed}{O:KeyOrd}(key:Nat->O.α){Q:Unit×SortSt->Shared->Prop}(h2:2<=it.size)(Dj:it.size<64)
  (cmp:∀ i j C,i<it.size->j<it.size->C (O.blt (key i) (key j)) s->wpAny (model prog w) A (keyLt' κ (kas_item it i).1 (kas_item it j).1) C (λ_ _=>False) s)
  (h:∀ st,arrOf st=(sIx it.size (Aw key)).map (kas_item it)->failedOf st=none->Q ((),st) s):wpAny (model prog w) A (sortRuns'.run (SortSt.mk' κ it #[] 7 none)) Q E s:=by
 have kp:=bN (Zf (key:=key) (N:=it.size) (R:=λ_=>True) (by omega) λ_ _ _=>trivial);have ask:(kas_sort it.size).kasWp (kas_cmp prog w A κ it) (λp s'=>s'=s/\p=OD (Aw key) (kas_sort it.size)) s :=
  aM (I:=λs'=>s'=s) (λi j C s' hi hj hI hC=>by subst hI;exact cmp i j C hi hj (hC _ rfl)) (λa s' hR hI=>⟨hI,hR.2⟩) _ _ kp rfl
 have run:=kas_runs (E:=E) (Q:=λ_ A5 s'=>s'=s/\arrOf A5=(OD (Aw key) (kas_sort it.size)).map (kas_item it)/\failedOf A5=none) h2 Dj (λp' A5 s' a1 a2 a3 a4=>⟨a4.1,by rw[a2,a4.2],a3⟩) ask;have est:kas_st κ it (List.toArray (List.range it.size))=SortSt.mk' κ it #[] 7 none:=by
  show SortSt.mk' κ ((List.toArray (List.range it.size)).map (kas_item it)) #[] 7 none=_;rw[kas_range]
 rw[est]at run;refine Jf run (λr s' hq=>?_) λ_ _ z=>z;obtain⟨⟨⟩,st⟩:=r;obtain⟨e1,e2,e3⟩:=hq;subst e1;refine h st ?_ e3;unfold sIx;rw[if_neg (by omega)];exact e2
abbrev Dn(b:Bool)(keys:Array Value)(vs:LU):Array Keyed:=if b then(keys.zip vs.toArray).reverse else keys.zip vs.toArray
def tI{O:KeyOrd}(key:Nat->O.α){κ:SortKind}(nk:s.heap.get? kS=some (seqObj "list" keys e))(na:s.heap.get? a=some (seqObj "list" #[] e1))(hka:kS≠a)(hkl:keys.size=vs.length)(Dj:vs.length<64)
  (hkind:2<=keys.size->∀ Q:SortKind->Shared->Prop,Q κ s->wpAny (model prog w) A (keyKind' keys) Q E s)
  (cmp:∀ i j C,i<vs.length->j<vs.length->C (O.blt (key i) (key j)) s->wpAny (model prog w) A (keyLt' κ (kas_item (Dn b keys vs) i).1 (kas_item (Dn b keys vs) j).1) C (λ_ _=>False) s)
  (h:∀ h' tk c,(∀ x o,x≠kS->x≠a->s.heap.get? x=some o->h'.get? x=some o)->(∃ o,h'.get? kS=some o) ->
   h'.get? a=some (seqObj "list" (if b then(((sIx vs.length (Aw key)).map (kas_item (Dn b keys vs))).map (·.2)).reverse else((sIx vs.length (Aw key)).map (kas_item (Dn b keys vs))).map (·.2)) c)->P (.done (.ret .none)) {s with heap:=h',toks:=tk}):
  wpAny (model prog w) A (ksk_end a b vs.toArray e1 (.ref kS) keys) P E s:=by
 have hzs:(Dn b keys vs).size=vs.length:=by
  unfold Dn;cases b with
  | false=>simp only[OJ,if_false];rw[Array.size_zip,hkl,Yn,Nat.min_self]
  | true=>simp only[if_true,Array.size_reverse];rw[Array.size_zip,hkl,Yn,Nat.min_self]
 have hps:=(R1 key vs.length).1.size;have step:∀ t:Sem PySem.Fin,wpAny (model prog w) A t P E s->wpAny (model prog w) A (if b=true then(do let _ <- rule "list.sort.reverse";t)else t) P E s:=by
  intro t ht;split
  ·exact Ja (wpAny_rule ht)
  ·exact ht
 unfold ksk_end
 try dsimp only
 refine step _ ?_;by_cases h2:vs.toArray.size<2
 ·rw[if_pos h2,if_pos h2];refine Ja (Jd ?_);rw[StateT.run_pure];refine Ja (Jd ?_)
  try dsimp only
  rw[Yn]at h2;refine Z1 (res:=(sIx vs.length (Aw key)).map (kas_item (Dn b keys vs))) nk na hka (by omega) ?_ (by rw[Array.size_map,hps];omega) rfl h;show Dn b keys vs=_;unfold sIx;rw[if_pos h2,<- hzs];exact(kas_range _).symm
 ·rw[if_neg h2,if_neg h2];rw[Yn]at h2;refine Ja (hkind (by omega) _ ?_);refine Ja (tJ (it:=Dn b keys vs) key (by omega) (by omega) (λi j C hi hj hC=>cmp i j C (by omega) (by omega) hC) λst hst hf=>?_)
  try dsimp only
  refine Z1 (res:=(sIx vs.length (Aw key)).map (kas_item (Dn b keys vs))) nk na hka (by omega) (by rw[hst,hzs]) (by rw[Array.size_map,hps];omega) hf h
end
end L2
namespace L2
open PySem PySem.Spec PyProof.Rows
section
variable {X:Cx}{pins:PL}{σ:St}{H:Hp}{s:Shared}
def Br.same{b:Addr}{H':Hp}(f:Br X pins H b)(n:H' b=none):Br X pins H' b:=⟨n,f.2⟩
def vP{A:Around}{f:Value}{a kS:Addr}{b:Bool}{xs:LV}{vs:LU}{e1:Nat}{P:PySem.Fin->Shared->Prop}{E:EV}(F:Nat->V->Hp->Prop)(hF:∀ i v H1 H2,AA H1 H2->F i v H1->F i v H2)
  (I:Inv X pins σ H s) (nk:s.heap.get? kS=some (seqObj "list" #[] 0)) (na:s.heap.get? a=some (seqObj "list" #[] e1)) (hka:kS≠a) (fk:Br X pins H kS) (fa:Br X pins H a) (rv:AQ xs vs) (Dj:vs.length<64)
  (turn:∀ i x u H' s' Bh,xs[i]?=some x->AX x u->AA H H'->Inv X Bh σ H' s'->wpAny (model X.prog X.w) A (call f [u]) (EP X Bh σ λv BH=>AA H' BH/\F i v BH) (λ_ _=>False) s')
  (h:∀ H' s' kA e ks,Inv X pins σ H' s'->AA H H'->s'.heap.get? kS=some (seqObj "list" kA e)->s'.heap.get? a=some (seqObj "list" #[] e1)->Br X pins H' kS->Br X pins H' a->AQ ks kA.toList->ks.length=xs.length->(∀ i k,ks[i]?=some k->F i k H') ->
   wpAny (model X.prog X.w) A (ksk_end a b vs.toArray e1 (.ref kS) kA) P E s'):
  wpAny (model X.prog X.w) A (ksk_rest a f b vs.toArray e1 (.ref kS)) P E s:=by
 have hxl:xs.length=vs.length:=rv.length;unfold ksk_rest;refine Ja (wpAny_rule ?_)
 first
  | rw[List.forIn_toArray]
  | (rw[<- Array.forIn_toList];simp only[List.toList_toArray])
  | rw[<- Array.forIn_toList]
 refine Ja (ksk_fold (λi s'=>∃ H' kA e ks,Inv X pins σ H' s'/\AA H H'/\s'.heap.get? kS=some (seqObj "list" kA e)/\s'.heap.get? a=some (seqObj "list" #[] e1)/\Br X pins H' kS/\Br X pins H' a/\AQ ks kA.toList/\ks.length=i/\(∀ j k,ks[j]?=some k->F j k H')) vs 0 s
  ⟨H,#[],0,[],I,AA.refl _,nk,na,fk,fa,.nil,rfl,λj k z=>by simp at z⟩ ?step ?done)
 case step =>
  rintro j u s' hu ⟨H',kA,e,ks,I',sm,IU,IV,Bd,FX,rk,hkl,hks⟩;simp only[Nat.zero_add]at hkl ⊢;have hj:j<vs.length:=(Ye.mp hu).1;obtain⟨x,hx,rx⟩:∃ x,xs[j]?=some x/\AX x u:=by
   have F1:j<xs.length:=by omega
   obtain⟨u',BJ,r⟩:=rv.get (Yb F1);rw[hu]at BJ;cases BJ;exact⟨_,Yb F1,r⟩
  have I2:Inv X ((kS,seqObj "list" kA e):: (a,seqObj "list" #[] e1):: pins) σ H' s':=I'.pins_of λp hp=>by
   rcases Yw.mp hp with rfl | hp
   ·exact⟨IU,Bd.1,Bd.2.1,Bd.2.2.1,λv z=>by cases z⟩
   ·rcases Yw.mp hp with rfl | hp
    ·exact⟨IV,FX.1,FX.2.1,FX.2.2.1,λv z=>by cases z⟩
    ·exact I'.pin p (Yy _ hp)
  refine Ja (wpAny_attempt (Jf (turn j x u H' s' _ hx rx sm I2) (λw' s2 he=>?_) λ_ _ z=>z.elim));obtain⟨v,H2,I3,UI,C4,fv⟩:=he;have p1:=I3.pin (kS,seqObj "list" kA e) (Yy _ (.head _));have p2:=I3.pin (a,seqObj "list" #[] e1) (Yy _ (.tail _ (.head _)));have I4:Inv X pins σ H2 s2:=I3.pins_of λp hp=>I3.pin p (Yy _ (.tail _ (.tail _ hp)));have Y6:=Bd.same p1.2.1;have kW:=FX.same p2.2.1;have hz:kA.size=j:=by
   have h1:ks.length=kA.toList.length:=rk.length;rw[JJ]at h1;exact h1.symm.trans hkl
  have s1:=ON s2.heap kS (Obj.mapSeq (·.push w'));obtain⟨c2,Cm⟩:∃ c2,(s2.heap.update kS (Obj.mapSeq (·.push w'))).get? kS=some (seqObj "list" (kA.push w') c2):=⟨_,get?_update_seq p1.1 (·.push w')⟩
  try dsimp only
  refine Ja (listUpdate_at p1.1 rfl ?_ (by rw[hz,sizeLine_eq];omega) (A7 (Nat.le_of_eq (Array.size_push ..)) (by rw[hz,sizeLine_eq];omega)));refine Jd ⟨Y,H2,kA.push w',c2,ks++[v],I4.turnedL (t':=s2.toks) (its:=[kS]) (λc o hc q=>(s1.2 c (λz=>hc (by simp[z]))).trans q) (λc hc=>by rw[Yj.mp hc];exact Y6),sm.trans C4,Cm,(s1.2 a hka.symm).trans p2.1,Y6,kW,?_,by rw[Yt,hkl];rfl,λi k hk=>?_⟩
  ·rw[Array.toList_push];exact rk.append (.cons UI .nil)
  ·rcases Nat.lt_trichotomy i ks.length with q | q | q
   ·rw[MN q]at hk;exact hF i k _ _ C4 (hks i k hk)
   ·rw[q,JP (Yf _),Nat.sub_self]at hk;cases hk;rw[q,hkl];exact fv
   ·rw[FI (by rw[Yt];show ks.length + 1<=i;omega)]at hk;cases hk
 case done =>
  rintro s' ⟨H',kA,e,ks,I',sm,IU,IV,Bd,FX,rk,hkl,hks⟩
  try dsimp only
  refine Ja (listItems_at IU rfl ?_);exact h H' s' kA e ks I' sm IU IV Bd FX rk (by rw[hkl,hxl,Nat.zero_add]) hks
end
def VG{b:Bool}{keys:Array Value}{vs:LU}(hkl:keys.size=vs.length){i:Nat}(hi:i<vs.length):W.kas_item (Dn b keys vs) i=(keys.getD (ri b vs.length i) .none,vs.getD (ri b vs.length i) .none):=by
 have hz:(keys.zip vs.toArray).size=vs.length:=by rw[Array.size_zip,hkl,Yn,Nat.min_self]
 have at_:∀ {j:Nat},j<vs.length->(keys.zip vs.toArray)[j]?=some (keys.getD j .none,vs.getD j .none):=λ{j} hj=>by
  rw[Array.getElem?_eq_getElem (by omega)];have h1:j<keys.size:=by omega
  simp[Array.getD,h1,Yh,Yb hj]
 have g:∀ {xs:Array Keyed} {j:Nat} {x:Keyed},xs[j]?=some x->xs.getD j (Value.none,Value.none)=x:=λ{xs j x} h=>by
  obtain⟨hj,e⟩:=Array.getElem?_eq_some_iff.mp h;simp[Array.getD,hj,e]
 unfold W.kas_item Dn ri;cases b with
 | false=>simp only[OJ,if_false];exact g (at_ hi)
 | true =>
  simp only[if_true];refine g ?_;rw[Array.getElem?_reverse (by rw[hz];exact hi),hz];exact at_ (by omega)
theorem Zz{xs:LV}{vs:LU}(r:AQ xs vs):∀(l:LN),(∀ i∈l,i<xs.length)->AQ (l.map λi=>xs.getD i .non) (l.map λi=>vs.getD i .none)
 | [],_=>.nil
 | i :: l,h=>by
  have hi:i<xs.length:=h i (.head _);obtain⟨u,hu,ru⟩:=r.get (Yb hi);refine .cons ?_ (Zz r l λj hj=>h j (.tail _ hj));show AX (xs.getD i V.non) (vs.getD i Value.none);rw[Yh,Yb hi,Yh,hu];exact ru
def sx{O:KeyOrd}{b:Bool}{keys:Array Value}{vs:LU}(kf:Nat->O.α)(hkl:keys.size=vs.length):
  (if b then(((sIx vs.length (Aw λi=>kf (ri b vs.length i))).map (W.kas_item (Dn b keys vs))).map (·.2)).reverse else((sIx vs.length (Aw λi=>kf (ri b vs.length i))).map (W.kas_item (Dn b keys vs))).map (·.2)).toList=(Ht b kf vs.length).map λi=>vs.getD i .none:=by
 have hp:=(R1 (λi=>kf (ri b vs.length i)) vs.length).1;unfold Ht;generalize sIx vs.length (Aw λi=>kf (ri b vs.length i))=p at hp;have e:(((p.map (W.kas_item (Dn b keys vs))).map (·.2)).toList)=(p.toList.map (ri b vs.length)).map λi=>vs.getD i .none:=by
  rw[Array.toList_map,Array.toList_map,Bo,Bo];refine Ki λi hi=>?_;show(W.kas_item (Dn b keys vs) i).2=_;rw[VG hkl (Bp.mp (hp.mem_iff.mp hi))];rfl
 cases b with
 | false =>
  simp only[OJ,if_false];exact e
 | true =>
  simp only[if_true,Array.toList_reverse];rw[e];show _=((p.toList.map (ri true vs.length)).reverse).map _;rw[List.map_reverse]
section
variable {X:Cx}{pins:PL}{σ:St}{H:Hp}{s:Shared}
def bY{O:KeyOrd}{κ:SortKind}{f:Value}{b:Bool}{l:Addr}{xs:LV}{kw:List (Str×Value)}{Q:VK}{E:EV}(kf:Nat->O.α)(F:Nat->V->Hp->Prop)(hF:∀ i v H1 H2,AA H1 H2->F i v H1->F i v H2)(I:Inv X pins σ H s)(hl:SqL X.K H l xs)(Dj:xs.length<64)
  (YY:argsOk "sorted" ⟨[.ref l],kw⟩) (kG:∀ x,argsOk "list.sort" ⟨[.ref x],kw⟩) (ht:∀ x,Builtin.«list.sort» ⟨[.ref x],kw⟩=ksk_tree x f b)
  (turn:∀ i x u H' s' Bh,xs[i]?=some x->AX x u->AA H H'->Inv X Bh σ H' s'->wpAny (model X.prog X.w) X.A.in1.in1 (call f [u]) (EP X Bh σ λv BH=>AA H' BH/\F i v BH) (λ_ _=>False) s')
  (hkind:∀ ks kA H' s',Inv X pins σ H' s'->AQ ks kA.toList->ks.length=xs.length->(∀ i k,ks[i]?=some k->F i k H')->2<=kA.size->∀(E:EV) (C:SortKind->Shared->Prop),C κ s'->wpAny (model X.prog X.w) X.A.in1.in1 (keyKind' kA) C E s')
  (cmp:∀ u1 u2 k1 k2 i j H' s',Inv X pins σ H' s'->AX k1 u1->AX k2 u2->F i k1 H'->F j k2 H'->∀ C:Bool->Shared->Prop,C (O.blt (kf i) (kf j)) s'->wpAny (model X.prog X.w) X.A.in1.in1 (keyLt' κ u1 u2) C (λ_ _=>False) s')
  (q:∀ D H',H D=none->AA H H'->H' D=some (.lst (Fh b kf xs))->Q (.ref D) H'):
  wpAny (model X.prog X.w) X.A (call (.builtin "sorted") [.ref l] kw) (EP X pins σ Q) E s:=by
 obtain⟨vs,rv,pl,hz⟩:=I.list hl;have hxl:xs.length=vs.length:=rv.length;have hLs:s.heap.IsList l vs.toArray:=pl.isList;refine call_function_entry_kw kind_sorted plain_sorted entry_sorted YY ?_;unfold Builtin.«sorted»;refine Ja (m:=checkCount "sorted" 1 1 _) (Jd ?_);refine Ja (collect_list hLs ?_ (by rw[sizeLine_eq];omega));refine Ja (wpAny_newList ?_ (by rw[sizeLine_eq];omega));have hsz:((s.heap.push (seqObj "list" #[] 0)).update s.heap.objs.size (Obj.mapSeq (·++vs.toArray))).objs.size=s.heap.objs.size + 1:=by
  rw[Heap.size_update,size_push']
 have hoL:(((s.heap.push (seqObj "list" #[] 0)).update s.heap.objs.size (Obj.mapSeq (·++vs.toArray))).push (seqObj "list" vs.toArray 0)).get? (s.heap.objs.size + 1)=some (seqObj "list" vs.toArray 0):=by
  rw[<- hsz];exact Yk _ rfl
 have keep:∀ b o,s.heap.get? b=some o->(((s.heap.push (seqObj "list" #[] 0)).update s.heap.objs.size (Obj.mapSeq (·++vs.toArray))).push (seqObj "list" vs.toArray 0)).get? b=some o:=λb o q=>by
  have AZ:b<s.heap.objs.size:=Yl q;rw[Heap.get?_push_ne _ _ _ (by rw[hsz];exact A8 (Nat.lt_succ_of_lt AZ)),Heap.get?_update_ne _ _ _ _ (A8 AZ),Heap.get?_push_ne _ _ _ (A8 AZ)];exact q
 show wpAny _ _ _ _ _ {s with heap:=((s.heap.push (seqObj "list" #[] 0)).update s.heap.objs.size (Obj.mapSeq (·++vs.toArray))).push (seqObj "list" vs.toArray 0) };rw[hsz];generalize((s.heap.push (seqObj "list" #[] 0)).update s.heap.objs.size (Obj.mapSeq (·++vs.toArray))).push (seqObj "list" vs.toArray 0)=g at hoL keep;have Ig:Inv X pins σ H {s with heap:=g}:=I.kept (t':=s.toks) keep;obtain⟨a,ea⟩:∃ a,a=s.heap.objs.size + 1:=⟨Z⟩;have hage:s.heap.objs.size<=a:=by rw[ea];exact IK _
 rw[<- ea]at hoL ⊢;have hag:a<g.objs.size:=Yl hoL;refine Ja (Jj (wpAny_call_entry_kw slot_list_sort ⟨_,hoL,Y⟩ entry_list_sort ?body (kG _)))
 case body =>
  show wpAny (model X.prog X.w) X.A.in1.in1 (Builtin.«list.sort» ⟨[.ref a],kw⟩) _ _ _;rw[ht a];have s1:=ON g a (Obj.mapSeq λ_=>(#[]:Array Value));have FU:=get?_update_seq hoL λ_=>(#[]:Array Value);generalize(if((λ_:Array Value=>(#[]:Array Value)) vs.toArray).size == vs.toArray.size then 0 else 0 + 1)=e1 at FU;replace FU:(g.update a (Obj.mapSeq λ_=>(#[]:Array Value))).get? a=some (seqObj "list" #[] e1):=FU;unfold ksk_tree;refine Ja (listItems_at hoL rfl ?_);refine Ja (listUpdate_at hoL rfl ?_ (by rw[Yn,sizeLine_eq];omega) (BF _));refine Ja (seqEpoch_at FU rfl ?_);have Rn:H a=none:=I.hok.fresh hage;have Y7:Br X pins H a:=I.fpOk hage Rn;have I1:Inv X pins σ H {s with heap:=g.update a (Obj.mapSeq λ_=>(#[]:Array Value)) }:=Inv.turnedL (s:={s with heap:=g}) (t':=s.toks) (its:=[a]) Ig (λc o hc q=>(s1.2 c (λz=>hc (by simp[z]))).trans q) (λc hc=>by rw[Yj.mp hc];exact Y7);have z1:(g.update a (Obj.mapSeq λ_=>(#[]:Array Value))).objs.size=g.objs.size:=Heap.size_update ..;generalize g.update a (Obj.mapSeq λ_=>(#[]:Array Value))=g1 at FU I1 z1;refine Ja (wpAny_newTuple ?_ (by show vs.length<=_;rw[sizeLine_eq];omega));refine Ja (wpAny_newList ?_ (BF _));refine Jj ?_;have z2:(g1.push (seqObj "tuple" vs.toArray 0)).objs.size=g1.objs.size + 1:=size_push' ..;have I2:Inv X pins σ H {s with heap:=(g1.push (seqObj "tuple" vs.toArray 0)).push (seqObj "list" #[] 0) }:=I1.kept (t':=s.toks) λb o e=>Yd _ (Yd _ e);have nk:((g1.push (seqObj "tuple" vs.toArray 0)).push (seqObj "list" #[] 0)).get? (g1.push (seqObj "tuple" vs.toArray 0)).objs.size=some (seqObj "list" #[] 0):=Yk _ rfl;have na:((g1.push (seqObj "tuple" vs.toArray 0)).push (seqObj "list" #[] 0)).get? a=some (seqObj "list" #[] e1):=Yd _ (Yd _ FU);have hkge:g1.objs.size<=(g1.push (seqObj "tuple" vs.toArray 0)).objs.size:=by rw[z2];exact IK _
  have fk:Br X pins H (g1.push (seqObj "tuple" vs.toArray 0)).objs.size:=I1.fpOk hkge (I1.hok.fresh hkge);have hka:(g1.push (seqObj "tuple" vs.toArray 0)).objs.size≠a:=by
   rw[z2,z1];exact Eb (Nat.lt_succ_of_lt hag)
  show wpAny _ _ (ksk_rest a f b vs.toArray e1 (.ref (g1.push (seqObj "tuple" vs.toArray 0)).objs.size)) _ _ _;generalize(g1.push (seqObj "tuple" vs.toArray 0)).objs.size=kS at nk hka fk;generalize(g1.push (seqObj "tuple" vs.toArray 0)).push (seqObj "list" #[] 0)=g2 at nk na I2;refine vP F hF I2 nk na hka fk Y7 rv (by omega) turn λH' s' kA e ks I' sm IU IV Bd FX rk hkl hks=>?_;have hkz:kA.size=vs.length:=by
   have h1:ks.length=kA.toList.length:=rk.length;rw[JJ]at h1;exact(h1.symm.trans hkl).trans hxl
  have kat:∀ {i:Nat},i<vs.length->∃ k,AX k (kA.getD i .none)/\F i k H':=λ{i} hi=>by
   have CK:i<ks.length:=by omega
   obtain⟨u,hu,ru⟩:=rk.get (Yb CK);refine⟨_,?_,hks i _ (Yb CK)⟩;have Ct:i<kA.size:=by omega
   have:kA.getD i .none=u:=by
    rw[QN,Array.getElem?_eq_getElem Ct]at hu;simp[Array.getD,Ct];exact Ba hu
   rw[this];exact ru
  have hri:∀ {i:Nat},i<vs.length->ri b vs.length i<vs.length:=λ{i} hi=>by
   unfold ri;cases b with
   | false=>exact hi
   | true=>show vs.length - 1 - i<vs.length;omega
  refine tI (λi=>kf (ri b vs.length i)) IU IV hka hkz (by omega) (λh2 C hC=>hkind ks kA H' s' I' rk hkl hks h2 _ C hC) (λi j C hi hj hC=>?_) λh' tk c kp ek X2=>⟨Z,?_⟩
  ·rw[VG hkz hi,VG hkz hj];obtain⟨k1,r1,f1⟩:=kat (hri hi);obtain⟨k2,r2,f2⟩:=kat (hri hj);exact cmp _ _ k1 k2 _ _ H' s' I' r1 r2 f1 f2 C hC
  refine Jd ⟨Z,?_⟩;have ev:=sx (b:=b) kf hkz;generalize(if b then(((sIx vs.length (Aw λi=>kf (ri b vs.length i))).map (W.kas_item (Dn b kA vs))).map (·.2)).reverse else((sIx vs.length (Aw λi=>kf (ri b vs.length i))).map (W.kas_item (Dn b kA vs))).map (·.2))=out at ev X2;have vy:AQ (Fh b kf xs) out.toList:=by
   rw[ev];unfold Fh;rw[hxl];exact Zz rv _ λi hi=>by rw[hxl];exact Bp.mp ((L3 b kf vs.length).mem_iff.mp hi)
  have yl:(Fh b kf xs).length<=sizeLine:=by
   rw[(pe b kf xs).length_eq];exact sL (by omega)
  have IV:∀ b u,H' b=some u->b≠a:=λb u e z=>by rw[z,FX.1]at e;cases e
  have IU:∀ b u,H' b=some u->b≠kS:=λb u e z=>by rw[z,Bd.1]at e;cases e
  have low:∀ d u,H' d=some u->(upd H' a (.lst (Fh b kf xs))) d=some u:=λd u e=>by rw[AD (IV d u e)];exact e
  have Ex:∀ {b:Addr},b∉[kS,a]->b≠kS/\b≠a:=λ{b} hb=>⟨λz=>hb (by simp[z]),λz=>hb (by simp[z])⟩;have I3:Inv X pins σ (upd H' a (.lst (Fh b kf xs))) {s' with heap:=h',toks:=tk}:=by
   refine I'.step (g':=s'.gens) (d':=s'.drawn) (ch:=[kS,a]) (λb hb=>?_) (λb o _ _ hc e _=>kp b o (Ex hc).1 (Ex hc).2 e) (λb o _ _ hc e _=>⟨o.slots,kp b o (Ex hc).1 (Ex hc).2 e⟩)
    (λb o hc e n=>by rw[AD (Ex hc).2];exact n) (λb o hc e=>⟨o,kp b o (Ex hc).1 (Ex hc).2 e⟩) (λb xs e=>low b _ e) (λb o u e=>low b _ e) (λb ps e=>⟨#[],by rw[low b _ e];simp⟩) (λm hm=>?_) (λb u e=>?_) I'.bare
   ·have:b=kS\/b=a:=by simpa using hb
    rcases this with rfl | rfl
    ·exact⟨Bd.2.2.2.1,Bd.2.1,Bd.2.2.2.2.1,Bd.2.2.2.2.2⟩
    ·exact⟨FX.2.2.2.1,FX.2.1,FX.2.2.2.2.1,FX.2.2.2.2.2⟩
   ·obtain⟨o,es,ep,ho,r⟩:=hm;exact⟨o,es,ep,kp _ o (Yr Bd.2.1) (Yr FX.2.1) ho,r⟩
   ·by_cases hb:b=a
    ·rw[hb,uS]at e;cases e;rw[hb];exact⟨yl,out.toList,c,vy,by rw[X2]⟩
    ·rw[AD hb]at e;refine(I'.hok b u e).stay (λd v hd q=>kp d v ?_ ?_ q) (λd q=>low d _ q) λd xs q=>low d _ q
     ·rcases hd with rfl | hd
      ·exact IU _ _ e
      ·exact IU _ _ hd
     ·rcases hd with rfl | hd
      ·exact IV _ _ e
      ·exact IV _ _ hd
  exact⟨.ref a,_,I3,Y,q a _ Rn (λb o e=>low b o (sm b o e)) uS⟩
end
end L2
namespace L2
open PySem PySem.Spec PySem.Calls PyProof.Rows
section
variable {M:Model}{A:Around}{E:EV}{s:Shared}{env:Env}
def ZC{pos:Pos}{id:String}{e:Expr}{kws:List Keyword}{Q:EV}
  (h:wpAny M A (spliced (backTo pos (starEach [e] env))) (λvs s1=>wpAny M A (evalAll ((backToKw pos (keywordEach kws env)).map (·.2))) (λks s2=>wpAny M A (call (.builtin id) vs (((backToKw pos (keywordEach kws env)).filterMap (·.1)).zip ks)) Q E s2) E s1) E s)
  (he:backTo pos (starEach [e] env)=[(false,eval e env)]:=by rfl) (ha:(backToKw pos (keywordEach kws env)).all (·.1.isSome)=true:=by rfl) (hk:(backToKw pos (keywordEach kws env)).any (·.1.isNone)=false:=by rfl):
  wpAny M A (callWith pos (.builtin id) [] (backTo pos (starEach [e] env)) (backToKw pos (keywordEach kws env))) Q E s:=by
 unfold callWith;rw[he]at h ⊢;refine Ja (Jj (Jf (evalArgs_kwB (Q:=λa s1=>wpAny M A (call (.builtin id) ([]++a.pos) a.kw) Q E s1) ha h) (λa s1 h1=>Ja (wpAny_standAt ?_)) λ_ _ x=>x));simp only[hk,Bool.or_false];refine Ja (Jd ?_);exact Ja (Jf h1 (λr s2 hr=>Ja (Jj (wpAny_point (Jd hr)))) λ_ _ z=>z)
end
def SqL.sameT{K:Fg}{H H':Hp}{P l:Addr}{ps:Array Value}{xs:LV}(h:SqL K H l xs)(hP:H P=some (.tbl ps))(sm:BW P H H'):SqL K H' l xs:=by
 rcases h with h | h
 ·rcases h with h | ⟨o,h⟩
  ·exact .inl (.inl (sm _ _ (λz=>by rw[z,hP]at h;cases h) h))
  ·exact .inl (.inr ⟨o,sm _ _ (λz=>by rw[z,hP]at h;cases h) h⟩)
 ·exact .inr h
theorem Dq.tbl{H:Hp}{P:Addr}{pos:Pos}{qual:Str}(h:Dq H P pos qual):∃ ps,H P=some (.tbl ps):=by
 rcases h with h | ⟨_,_,_,_,h,_⟩
 ·exact⟨_,h⟩
 ·exact⟨_,h⟩
def Dq.keep{H H':Hp}{P:Addr}{pos:Pos}{qual:Str}(h:Dq H P pos qual)(k:∀ b o,(∃ ps,o=.tbl ps)\/(∃ ob u,o=.frz ob u)->H b=some o->H' b=some o):Dq H' P pos qual:=by
 rcases h with h | ⟨c,oc,vs,t,h1,h2,r⟩
 ·exact .inl (k _ _ (.inl ⟨Z⟩) h)
 ·exact .inr ⟨c,oc,vs,t,k _ _ (.inl ⟨Z⟩) h1,k _ _ (.inr ⟨_,Z⟩) h2,r⟩
def Dq.mono{H H':Hp}{P:Addr}{pos:Pos}{qual:Str}(h:Dq H P pos qual)(s:AA H H'):Dq H' P pos qual:=h.keep λb o _ e=>s b o e
def BW.trans{P:Addr}{H H1 H2:Hp}(a:BW P H H1)(b:BW P H1 H2):BW P H H2:=λc o hc e=>b c o hc (a c o hc e)
def AA.t{P:Addr}{H H':Hp}(s:AA H H'):BW P H H':=λb o _ e=>s b o e
def tP(K:Fg)(P:Addr)(lpos:Pos)(qual:Str)(b:Bool)(te tb:TE)(js:LN):TE:=λσ H Q=>te σ H λv H1=>∃(l:Addr) (xs:LV) (kf:Nat->Int),v=.ref l/\SqL K H1 l xs/\xs.length<64/\Dq H1 P lpos qual /\
 ∀ H2,BW P H1 H2->Dq H2 P lpos qual ->
  (∀ i x H3,xs[i]?=some x->AA H2 H3->tb (some x :: js.map λj=>(σ[j]?).join) H3 λk H4=>AA H3 H4/\k=.int (kf i)) /\
  ∀ D H3,H2 D=none->AA H2 H3->H3 D=some (.lst (Fh (O:=Hw) b kf xs))->Q (.ref D) H3
def dO:bootBuiltins "sorted"=some (.builtin "sorted"):=by rfl'
section
variable {X:Cx}
def mZ{e body:Expr}{params:Arguments}{scope:Scope}{lpos Ua jf p pos Ac:Pos}{j:Nat}{b:Bool}{te tb:TE}{x:Str}{c P:Addr}{qual:Str}(frees:LS)(js:LN)(hc:X.calm=true)(hg:Gl X "sorted")(hm:X.mg "sorted"=none)(he:PE X e te)
  (L:LM X.mg X.base c P) (hcode:X.env.code=.ref c) (hq:X.env.qual++"<lambda>"=qual) (Lm:Tg X.env.scope X.N scope x frees js) (hdp:X.A.depth<recursionLimit)
  (hb:∀(f c':Addr) (cl:List (Str×Addr)) (s:Shared) (H:Hp),PE (Oz X X.A.in1.in1 (x :: frees) qual scope f (.ref c') cl s H) body tb)
  (hbind:∀(cl:List (Str×Addr)) (pm:Value) (c':Addr) (ctv u:Value),bindArgs (W.kla_fn "<lambda>" qual params body scope cl pm (.ref c') ctv) ⟨[u],[]⟩=pure [(x,u)]:=by intros;rfl)
  (hdef:defaultsOf params X.env=([],[]):=by rfl)
  (hs:backTo pos (starEach [e] X.env)=[(false,eval e X.env)]:=by rfl):
  PE X (.Call (.Name "sorted" p) [e] [⟨some "key",.Lambda params body scope lpos,Ua⟩,⟨some "reverse",.Constant (.bool b) j Ac,jf⟩] pos) (tP X.K P lpos qual b te tb js):=by
 ac_rfl;refine wpAny_Call_Name_kw (GQ I hg hm dO ?_);refine ZC ?_ hs rfl rfl;rw[hs];refine spliced_cons (AM (he pins s σ H _ I h) λu s1 ⟨v,H1,I1,r1,l,xs,kf,ev,hl,Dj,hT,q⟩=>spliced_nil ?_);subst ev;obtain rfl:u=Value.ref l:=r1;show wpAny _ _ (evalAll ((do let v <- eval (.Lambda params body scope lpos) X.env;standAt pos;pure v):: (do let v <- eval (.Constant (.bool b) j Ac) X.env;standAt pos;pure v):: [])) _ _ s1;refine wpAny_evalAll_cons (Ja ?_);have As:∀ y∈scope.names,y.2=.free->∃ c,X.env.cells.lookup y.1=some c:=λy hy z=>I1.ok.has y.1 (Lm.fr y hy z);refine aP I1 L hcode hq hT hdef As λf c' oc vs t ctv cl H2 s2 E7 Cm I2 sm Im hfr hf hcc hd hv=>?_;refine Ja (wpAny_standAt (Jd ?_));refine wpAny_evalAll_cons (Ja (Constant_bool (Ja (wpAny_standAt (Jd (wpAny_evalAll_nil ?_))))));obtain⟨ps,hP⟩:=hT.tbl;obtain⟨qk,qr⟩:=q H2 sm Im;show wpAny _ _ (call (.builtin "sorted") [.ref l] [(Str.ofString "key",.ref f),(Str.ofString "reverse",.bool b)]) _ _ _;refine bY (O:=Hw) (κ:=oneType') kf (λi v _=>v=.int (kf i)) (λ_ _ _ _ _ z=>z) I2 (hl.sameT hP sm) Dj (ksk_s2 _ _ _) (λx=>ksk_l2 _ _ _) (λx=>ksk_t2 f x b) (λi x' u H' s' Bh hx ru smH I'=>?_) (λks kA H' s' I' rk hkl hks h2 E C hC=>?_) (λu1 u2 k1 k2 i j H' s' I' r1 r2 e1 e2 C hC=>?_) qr
 ·exact Zg (A:=X.A.in1.in1) I' I'.ok.frames (I'.ok.hd hc) hdp Lm (smH _ _ hf) (smH _ _ hcc) hd hv E7 Cm (hbind cl _ c' ctv u) ru (hb f c' cl s' H') (qk i x' H' hx smH)
 ·have eks:ks=((List.range xs.length).map kf).map V.int:=by
   apply OF;intro i;by_cases hi:i<xs.length
   ·have CK:i<ks.length:=by omega
    rw[Yb CK,hks i _ (Yb CK),Yi,Yi,JI hi];rfl
   ·rw[FI (by omega),FI (by rw[Ya,Ya,Df];omega)]
  rw[eks]at rk;rw[ksk_kind (Sq rk) h2];exact Jd hC
 ·subst e1 e2;obtain⟨t1,rfl⟩:=r1;obtain⟨t2,rfl⟩:=r2;rw[keyLt'_oneType];exact oneLt_int hC
end
end L2
namespace HT
open PySem
section
open PySem.SeqAt
open PySem.AutoSeq1 (wpAny_loadPart')
open PySem.MeetsSeq PySem.MeetsSeq2 PySem.MeetsSeq3
open PyProof.Rows (IntsAre)
def aI{vs:LU}{ns:List Int}(h:IntsAre vs ns):∀ {i:Nat}{v:Value},vs[i]?=some v->∃ a t,v=.int a t/\ns[i]?=some a:=by
 induction h with
 | nil=>intro i v e;cases i <;> cases e
 | cons n t h ih =>
  intro i v e;cases i with
  | zero=>cases e;exact⟨_,Z,Y⟩
  | succ i=>exact ih e
def lex_drop{ns ms:List Int}{i:Nat}{a c:Int}(h1:ns[i]?=some a)(h2:ms[i]?=some c):lexLt (ns.drop i) (ms.drop i)=if a=c then lexLt (ns.drop (i + 1)) (ms.drop (i + 1))else decide (a<c):=by
 obtain⟨l1,e1⟩:=Ye.mp h1;obtain⟨l2,e2⟩:=Ye.mp h2;rw[OK l1,OK l2,lexLt_cons,e1,e2]
def u5(l b:Addr)(items AW:Array Value)(n n2:Nat)(dd G6:Option Addr)(sl Gr:Array (OU))(hsz:items.size=AW.size)(ns ms:List Int)(hi:IntsAre items.toList ns)(hj:IntsAre AW.toList ms)(k:Nat):
  ∀ i:Nat,items.size - i=k->Meets (Builtin.«list.__eq__.loop» ⟨[.ref l,.ref b,rawInt i,rawInt 0],[]⟩)
   (λA R s=>s.heap.get? l=some {cls:=.type "list",dict:=dd,data:=.seq items n,slots:=sl}/\s.heap.get? b=some {cls:=.type "list",dict:=G6,data:=.seq AW n2,slots:=Gr} /\
    R (.ok (.ret (.bool (lexLt (ns.drop i) (ms.drop i))))) s):=by
 have z1:items.size=ns.length:=by rw[<- hi.length];simp
 have z2:AW.size=ms.length:=by rw[<- hj.length];simp
 induction k with
 | zero =>
  intro i hk prog w A R s h;obtain⟨hp,g,d,tk,os⟩:=s;obtain⟨hl,hb,h⟩:=h
  wp_walk using wpAny_loadPart' hl,wpAny_loadPart' hb
  have E6:items[((i:Nat):Int).toNat]?=none:=by simp;omega
  have Ct:AW[((i:Nat):Int).toNat]?=none:=by simp;omega
  rw[QO (by omega),QO (by omega)]at h;rw[E6,Ct]
  wp_walk using wpAny_loadPart' hl,wpAny_loadPart' hb
  show R (.ok (.ret (.bool (decide (items.size<AW.size))))) _;rw[hsz,Jc (IF _)];exact h
 | succ k ih =>
  intro i hk prog w A R s h;obtain⟨hp,g,d,tk,os⟩:=s;obtain⟨hl,hb,h⟩:=h
  wp_walk using wpAny_loadPart' hl,wpAny_loadPart' hb
  have AZ:i<items.size:=by omega
  have Qm:i<AW.size:=by omega
  have E6:items[((i:Nat):Int).toNat]?=some items[i]:=by simp[AZ]
  have Ct:AW[((i:Nat):Int).toNat]?=some AW[i]:=by simp[Qm]
  have hc:((i:Int) + 1)=((i + 1:Nat):Int):=by push_cast;rfl
  obtain⟨a,t,ea,na⟩:=aI hi (i:=i) (v:=items[i]) (by simp[AZ]);obtain⟨c,u,ec,nc⟩:=aI hj (i:=i) (v:=AW[i]) (by simp[Qm]);rw[lex_drop na nc]at h;rw[E6,Ct,ea,ec];obtain⟨e,he,hiff⟩:=lY A.in1 ⟨hp,g,d,tk,os⟩ a t c u;refine Ja (he prog w _ _ ?_);cases e with
  | true =>
   rw[if_pos (hiff.mp rfl)]at h
   wp_walk
   rw[hc];exact⟨plainId_quiet plain_eq_loop _,codeAny_builtin entry_eq_loop (by
    rw[Around.under_plainId plain_eq_loop _];exact ih (i + 1) (by omega) prog w A R _ ⟨hl,hb,h⟩)⟩
  | false =>
   rw[if_neg (λq=>absurd (hiff.mpr q) Ym)]at h;have hri:=mF A.in1 ⟨hp,g,d,tk,os⟩ a t c u prog w
   wp_walk using wpAny_loadPart' hl,wpAny_loadPart' hb
   rw[E6,Ct,ea,ec]
   wp_walk using hri
   exact h
def list_lt_ints(l b:Addr)(items AW:Array Value)(n n2:Nat)(dd G6:Option Addr)(sl Gr:Array (OU))(hsz:items.size=AW.size)(ns ms:List Int)(hi:IntsAre items.toList ns)(hj:IntsAre AW.toList ms):
  Meets (Builtin.«list.__lt__» ⟨[.ref l,.ref b],[]⟩)
   (λA R s=>s.heap.get? l=some {cls:=.type "list",dict:=dd,data:=.seq items n,slots:=sl}/\s.heap.get? b=some {cls:=.type "list",dict:=G6,data:=.seq AW n2,slots:=Gr} /\
    R (.ok (.ret (.bool (lexLt ns ms)))) s):=by
 intro prog w A R s h;obtain⟨hp,g,d,tk,os⟩:=s;obtain⟨hl,hb,h⟩:=h;have f3:=AutoSeq1.sub_list_list
 wp_walk using wpAny_loadPart' hl,wpAny_loadPart' hb
 exact⟨plainId_quiet plain_eq_loop _,codeAny_builtin entry_eq_loop (by
  rw[Around.under_plainId plain_eq_loop _];exact u5 l b items AW n n2 dd G6 sl Gr hsz ns ms hi hj _ 0 rfl prog w A R _ ⟨hl,hb,h⟩)⟩
end
end HT
namespace L2
open PySem PySem.Spec PySem.Calls PyProof.Rows
theorem ZU:∀ a:List Int,HT.lexLt a a=false
 | []=>rfl
 | x :: a=>by rw[HT.lexLt_cons,if_pos rfl];exact ZU a
theorem Ry:∀ a b c:List Int,HT.lexLt a b=true->HT.lexLt b c=true->HT.lexLt a c=true
 | [],[],_,h,_=>by cases h
 | [],_ :: _,[],_,h=>by cases h
 | [],_ :: _,_ :: _,_,_=>rfl
 | _ :: _,[],_,h,_=>by cases h
 | _ :: _,_ :: _,[],_,h=>by cases h
 | x :: a,y :: b,z :: c,h1,h2=>by
  rw[HT.lexLt_cons]at h1 h2 ⊢;by_cases e1:x=y
  ·rw[if_pos e1]at h1;by_cases e2:y=z
   ·rw[if_pos e2]at h2;rw[if_pos (e1.trans e2)];exact Ry a b c h1 h2
   ·rw[if_neg e2]at h2;rw[if_neg (by rw[e1];exact e2),e1];exact h2
  ·rw[if_neg e1]at h1;have h1:=Je h1;by_cases e2:y=z
   ·rw[if_neg (by rw[<- e2];exact e1),<- e2];exact Jb h1
   ·rw[if_neg e2]at h2;have h2:=Je h2;rw[if_neg (by omega)];exact Jb (by omega)
theorem SD:∀ a b:List Int,HT.lexLt a b=false->HT.lexLt b a=false->a=b
 | [],[],_,_=>rfl
 | [],_ :: _,h,_=>by cases h
 | _ :: _,[],_,h=>by cases h
 | x :: a,y :: b,h1,h2=>by
  rw[HT.lexLt_cons]at h1 h2;by_cases e1:x=y
  ·rw[if_pos e1]at h1;rw[if_pos e1.symm]at h2;rw[e1,SD a b h1 h2]
  ·rw[if_neg e1]at h1;rw[if_neg (λz=>e1 z.symm)]at h2;have h1:=of_decide_eq_false h1;have h2:=of_decide_eq_false h2;exact absurd (by omega) e1
def u4(a b c:List Int)(h:HT.lexLt a c=true):HT.lexLt a b=true\/HT.lexLt b c=true:=by
 cases h1:HT.lexLt a b with
 | true=>exact .inl rfl
 | false =>
  cases h2:HT.lexLt b a with
  | true=>exact .inr (Ry b a c h2 h)
  | false=>rw[<- SD a b h1 h2];exact .inr h
def Lb:KeyOrd where
 α:=List Int
 blt:=HT.lexLt
 irrefl:=ZU
 trans:=Ry
 negTrans:=u4
 total:=SD
section
variable {prog:Program}{w:World}{A:Around}{E:EV}{s:Shared}
def lC{l b:Addr}{items AW:Array Value}{ns ms:List Int}{Q:Bool->Shared->Prop}(hl:s.heap.IsList l items)(hb:s.heap.IsList b AW)(hi:IntsAre items.toList ns)(hj:IntsAre AW.toList ms)(hz:ns.length=ms.length)
  (hu:A.units<cLine) (h:Q (HT.lexLt ns ms) s):wpAny (model prog w) A (keyLt' oneType' (.ref l) (.ref b)) Q E s:=by
 obtain⟨⟨cls,dd,data,sl⟩,ho,hc,n,hd⟩:=id hl;obtain⟨⟨Qx,G6,data2,Gr⟩,CA,Cm,n2,hd2⟩:=id hb;simp only at hc hd Cm hd2;subst hc hd Cm hd2;have z1:items.size=ns.length:=by rw[<- hi.length];simp
 have z2:AW.size=ms.length:=by rw[<- hj.length];simp
 rw[keyLt'_oneType,oneLt'_eq];simp only[if_true];refine Ja (wpAny_cRoomFor hu ?_);refine Ja (wpAny_callSpecialIfBound?_slot (T:="list") ⟨_,ho,Y⟩ PySem.F.slot_list_lt (call_meets PySem.F.slot_list_lt ⟨_,ho,Y⟩ PySem.F.entry_list_lt (PySem.F.args_list_lt_2 _ _) (HT.list_lt_ints l b items AW n n2 dd G6 sl Gr (by omega) ns ms hi hj) ⟨ho,CA,?_⟩));exact Jh h
end
def tQ(K:Fg)(P:Addr)(lpos:Pos)(qual:Str)(te tb:TE)(js:LN):TE:=λσ H Q=>te σ H λv H1=>∃(l:Addr) (xs:LV) (kf:Nat->List Int) (m:Nat),v=.ref l/\SqL K H1 l xs/\xs.length<64/\Dq H1 P lpos qual /\
 ∀ H2,BW P H1 H2->Dq H2 P lpos qual ->
  (∀ i x H3,xs[i]?=some x->AA H2 H3->tb (some x :: js.map λj=>(σ[j]?).join) H3 λk H4=>AA H3 H4/\(kf i).length=m/\∃ d,k=.ref d/\H4 d=some (.lst ((kf i).map V.int))) /\
  ∀ D H3,H2 D=none->AA H2 H3->H3 D=some (.lst (Fh (O:=Lb) false kf xs))->Q (.ref D) H3
section
variable {X:Cx}
def ma{e body:Expr}{params:Arguments}{scope:Scope}{lpos Ua p pos:Pos}{te tb:TE}{x:Str}{c P:Addr}{qual:Str}(frees:LS)(js:LN)(hc:X.calm=true)(hg:Gl X "sorted")(hm:X.mg "sorted"=none)(he:PE X e te)
  (L:LM X.mg X.base c P) (hcode:X.env.code=.ref c) (hq:X.env.qual++"<lambda>"=qual) (Lm:Tg X.env.scope X.N scope x frees js) (hdp:X.A.depth<recursionLimit) (hu:X.A.in1.in1.units<cLine)
  (hb:∀(f c':Addr) (cl:List (Str×Addr)) (s:Shared) (H:Hp),PE (Oz X X.A.in1.in1 (x :: frees) qual scope f (.ref c') cl s H) body tb)
  (hbind:∀(cl:List (Str×Addr)) (pm:Value) (c':Addr) (ctv u:Value),bindArgs (W.kla_fn "<lambda>" qual params body scope cl pm (.ref c') ctv) ⟨[u],[]⟩=pure [(x,u)]:=by intros;rfl)
  (hdef:defaultsOf params X.env=([],[]):=by rfl)
  (hs:backTo pos (starEach [e] X.env)=[(false,eval e X.env)]:=by rfl):
  PE X (.Call (.Name "sorted" p) [e] [⟨some "key",.Lambda params body scope lpos,Ua⟩] pos) (tQ X.K P lpos qual te tb js):=by
 ac_rfl;refine wpAny_Call_Name_kw (GQ I hg hm dO ?_);refine ZC ?_ hs rfl rfl;rw[hs];refine spliced_cons (AM (he pins s σ H _ I h) λu s1 ⟨v,H1,I1,r1,l,xs,kf,m,ev,hl,Dj,hT,q⟩=>spliced_nil ?_);subst ev;obtain rfl:u=Value.ref l:=r1;show wpAny _ _ (evalAll ((do let v <- eval (.Lambda params body scope lpos) X.env;standAt pos;pure v):: [])) _ _ s1;refine wpAny_evalAll_cons (Ja ?_);have As:∀ y∈scope.names,y.2=.free->∃ c,X.env.cells.lookup y.1=some c:=λy hy z=>I1.ok.has y.1 (Lm.fr y hy z);refine aP I1 L hcode hq hT hdef As λf c' oc vs t ctv cl H2 s2 E7 Cm I2 sm Im hfr hf hcc hd hv=>?_;refine Ja (wpAny_standAt (Jd (wpAny_evalAll_nil ?_)));obtain⟨ps,hP⟩:=hT.tbl;obtain⟨qk,qr⟩:=q H2 sm Im;show wpAny _ _ (call (.builtin "sorted") [.ref l] [(Str.ofString "key",.ref f)]) _ _ _;refine bY (O:=Lb) (κ:=oneType') kf (λi v H'=>(kf i).length=m/\∃ d,v=.ref d/\H' d=some (.lst ((kf i).map V.int))) (λ_ _ _ _ i_ z=>⟨z.1,z.2.elim λd z=>⟨d,z.1,i_ _ _ z.2⟩⟩) I2 (hl.sameT hP sm) Dj (ksk_s1 _ _) (λx=>ksk_l1 _ _) (λx=>ksk_t1 f x) (λi x' u H' s' Bh hx ru smH I'=>?_) (λks kA H' s' I' rk hkl hks h2 E C hC=>?_) (λu1 u2 k1 k2 i j H' s' I' r1 r2 e1 e2 C hC=>?_) qr
 ·exact Zg (A:=X.A.in1.in1) I' I'.ok.frames (I'.ok.hd hc) hdp Lm (smH _ _ hf) (smH _ _ hcc) hd hv E7 Cm (hbind cl _ c' ctv u) ru (hb f c' cl s' H') (qk i x' H' hx smH)
 ·refine Eq.mp (congrArg (λz=>wpAny (model X.prog X.w) X.A.in1.in1 (keyKind' z) C E s') (Array.toArray_toList (xs:=kA))) (W.kas_kind (T:=.type "list") (by rw[JJ];exact h2) (λv hv=>?_) rfl rfl hC);obtain⟨i,hi⟩:=Gj hv;have CK:i<ks.length:=by rw[rk.length];exact(Ye.mp hi).1
  obtain⟨u,BJ,ru⟩:=rk.get (Yb CK);obtain⟨_,d,ed,Ik⟩:=hks i _ (Yb CK);rw[hi]at BJ;injection BJ with BJ;subst BJ;rw[ed]at ru;obtain rfl:v=Value.ref d:=ru;obtain⟨ir,_,pl,_⟩:=I'.list (a:=d) (xs:=(kf i).map V.int) (.inl (.inl Ik));obtain⟨o,ho,hcl,_⟩:=pl.isList;rw[<- hcl];exact(W.Looks.ld ho).andThen .now
 ·obtain⟨m1,d1,rfl,q1⟩:=e1;obtain⟨m2,d2,rfl,q2⟩:=e2;obtain rfl:u1=Value.ref d1:=r1;obtain rfl:u2=Value.ref d2:=r2;obtain⟨v1,jC,p1,_⟩:=I'.list (a:=d1) (xs:=(kf i).map V.int) (.inl (.inl q1));obtain⟨v2,UI,p2,_⟩:=I'.list (a:=d2) (xs:=(kf j).map V.int) (.inl (.inl q2));exact lC p1.isList p2.isList (by simpa using Sq jC) (by simpa using Sq UI) (m1.trans m2.symm) hu hC
end
end L2
namespace L2
open PySem PySem.Spec PyProof.Rows
def nX{P:Program}{w:World}{K:Fg}{mg mb:Str->OU}{CX:Gp}{k:Nat}{x:Str}{sp:Sp}{s₁:Shared}{vs:LU}{ns:List Int}(ts:List Addr)
  (hts:∀ T∈ts,s₁.heap.get? T=some (W.tabObj #[])) (hcd:∀ T∈ts,∃ c,W.CodeHd s₁.heap c T) (hKt:∀ T∈ts,K.lookup T=none)
  (hbm:∃ bm ob,mg "__builtins__"=some (.ref bm)/\bm≠builtinsNs/\s₁.heap.get? bm=some ob/\ob.cls=.type "module"/\ob.dict=some builtinsNs/\ob.data=.plain)
  (KX:K.In s₁.heap) (hns:s₁.heap.Ns mainGlobals mg) (hb:s₁.heap.Ns builtinsNs mb) (hbb:∀ x:Str,x≠"__name__"->mb x=bootBuiltins x) (hlim:s₁.heap.NoLimit) (hg:s₁.gens=#[])
  (ha:s₁.heap.get? a=some {cls:=.type "list",data:=.seq vs.toArray}) (hi:IntsAre vs ns) (hl:ns.length<=sizeLine) (hr:AU k callerA)
  (F:∀ base:Heap,K.In base->base.Ns mainGlobals mg->(∀ T∈ts,mainGlobals≠T/\base.BuiltinsAt mg T)->FG P w K mg base CX k fa fd [x] sp) (hbind:∀(s:Shared) (u:Value),BindsTo s fd ⟨[u],[]⟩ [(x,u)])
  (hsp:∀ H:Hp,SqL K H a (ns.map V.int)->(∀ T∈ts,H T=some (.tbl #[]))->sp [.ref a] H (λv _=>v=.bl true) λ_ _ _=>False)
  (hCX:∀ H e s',CX [] H s₁ (λ_ _ _=>False) e s'->False):
  codeAny (model P w) callerA (.call (.ref fa) ⟨[.ref a],[]⟩) (λr s'=>r=.ok (.ret (.bool true))/\OldK s₁.heap s'.heap/\s'.os=s₁.os/\AllBare s'.gens) s₁:=by
 have rv:=cC hi;have lenV:=hi.length;have hat:a∉ts:=λz=>by have e:=hts a z;rw[ha]at e;cases e
 have core:∀ H:Hp,SqL K H a (ns.map V.int)->Bf P w H s₁.heap->(∀ b,H b≠none->b=a\/b∈ts)->(∀ T∈ts,H T=some (.tbl #[]))->(H a≠none->K.lookup a=none/\∃ o xs,H a=some (.frz o (.lst xs))) ->
   codeAny (model P w) callerA (.call (.ref fa) ⟨[.ref a],[]⟩) (λr s'=>r=.ok (.ret (.bool true))/\OldK s₁.heap s'.heap/\s'.os=s₁.os/\AllBare s'.gens) s₁:=by
  intro H hS hok hA hT hK;have base_of:∀ {b:Addr} {o:Obj},s₁.heap.get? b=some o->H b=none->(Hr s₁.heap H).get? b=some o:=λe n=>ly e n;have noA:∀ {b:Addr} {o:Obj},s₁.heap.get? b=some o->(∀ its n,o.data≠.seq its n)->(∀ fs,o.data≠.fields fs)->H b=none:=λ{b o} e d1 d2=>by
   cases q:H b with
   | none=>rfl
   | some u =>
    rcases hA b (by rw[q];simp)with e' | e'
    ·subst e';rw[ha]at e;cases e;exact absurd rfl (d1 _ _)
    ·rw[hts b e']at e;cases e;exact absurd rfl (d2 _)
  have nsK:∀ {b:Addr} {m:Str->OU},s₁.heap.Ns b m->(Hr s₁.heap H).Ns b m:=λ{b m} ⟨o,es,ep,e,d,r⟩=>⟨o,es,ep,base_of e (noA e (λ_ _ z=>by rw[d]at z;cases z) (λ_ z=>by rw[d]at z;cases z)),d,r⟩;have hKb:K.In (Hr s₁.heap H):=λb o e=>base_of (KX b o e) (by
   cases q:H b with
   | none=>rfl
   | some u =>
    rcases hA b (by rw[q];simp)with e' | e'
    ·subst e';rw[(hK (by rw[q];simp)).1]at e;cases e
    ·rw[hKt b e']at e;cases e)
  have hM:Mod K mg (Hr s₁.heap H):=⟨hKb,nsK hns,⟨mb,nsK hb,hbb⟩,let⟨mc,h1,h2⟩:=hlim;⟨mc,nsK h1,h2⟩⟩;have hbt:∀ T∈ts,mainGlobals≠T/\(Hr s₁.heap H).BuiltinsAt mg T:=λT hTm=>by
   obtain⟨bm,ob,b1,b2,b3,b4,b5,b6⟩:=hbm;have hgT:mainGlobals≠T:=λq=>by
    obtain⟨o,es,ep,e,hd,_⟩:=hns;rw[q,hts T hTm]at e;cases e;cases hd
   refine⟨hgT,bm,ob,b1,b2,λq=>?_,λq=>?_,base_of b3 (noA b3 (λ_ _ z=>by rw[b6]at z;cases z) (λ_ z=>by rw[b6]at z;cases z)),b4,b5,b6⟩
   ·obtain⟨o,es,ep,e,hd,_⟩:=hns;rw[q,e]at b3;cases b3;rw[hd]at b6;cases b6
   ·rw[q,hts T hTm]at b3;cases b3;cases b4
  have e0:E1 P w K mg (Hr s₁.heap H) callerA [] s₁ H:=⟨Y,hM,λb o e=>uW e,Nat.le_of_eq (m5 _ _),trivial,λb hb=>absurd (show b∈([]:List Addr)from hb) (by simp),hok,.of_eq hg⟩;refine codeAny_mono ((F _ hKb (nsK hns) hbt).run callerA [] s₁ H ⟨[.ref a],[]⟩ [.ref a] [.ref a] _ _ hr e0 (hbind s₁ (.ref a)) (.cons rfl .nil) (hsp H hS hT)) λr s' h=>?_;cases r with
  | error e=>exact(hCX H e s' h).elim
  | ok fl =>
   cases fl with
   | next=>exact False.elim h
   | brk=>exact False.elim h
   | cont=>exact False.elim h
   | ret u =>
    obtain⟨v,H',os,bare,un,Qj,r',q⟩:=h;have q':v=.bl true:=q;subst q';obtain rfl:u=Value.bool true:=r';have keep:∀ b o,b∉ts->s₁.heap.get? b=some o->s'.heap.get? b=some o:=λb o Xb e=>by
     cases q:H b with
     | none=>exact un.keep b o e q (by intro z;exact absurd (show b∈([]:List Addr)from z) (by simp)) (by simp)
     | some u =>
      rcases hA b (by rw[q];simp)with z | z
      ·subst z;obtain⟨_,ob,xs,z⟩:=hK (by rw[q];simp);have z2:=un.frzs b ob _ z;obtain⟨e1,_⟩:=hok b _ z;obtain⟨e2,_⟩:=Qj b _ z2;rw[e]at e1;cases e1;exact e2
      ·exact absurd z Xb
    have grown:∀ b o,b∈ts->s₁.heap.get? b=some o->isCodeTable s₁.heap b/\o=W.tabObj #[]/\∃ ps,s'.heap.get? b=some (W.tabObj ps):=λb o hb e=>by
     have e2:=hts b hb;obtain⟨c,hc⟩:=hcd b hb;obtain⟨more,hm⟩:=un.tbls b _ (hT b hb);have e3:s'.heap.get? b=some (W.tabObj (#[]++more)):=Qj b _ hm;rw[e]at e2;exact⟨(hc.tab (hts b hb)).isCodeTable,Ba e2,_,e3⟩
    refine⟨Y,⟨λb o e=>?_,λb o e=>?_⟩,os,bare⟩
    ·by_cases hb:b∈ts
     ·obtain⟨ht,rfl,ps,hP⟩:=grown b o hb e;exact .inr (.inl ⟨ht,Y,#[],ps,Y,by rw[Array.empty_append];exact hP⟩)
     ·exact .inl (keep b o hb e)
    ·by_cases hb:b∈ts
     ·obtain⟨_,_,ps,hP⟩:=grown b o hb e;exact⟨_,hP⟩
     ·exact⟨o,keep b o hb e⟩
 cases hk:K.lookup a with
 | some o =>
  have e:=KX a o hk;rw[ha]at e;cases e;refine core (λb=>if b∈ts then some (.tbl #[])else none) (.inr ⟨_,vs.toArray,_,hk,Y,Y,Y,by rw[Yn,lenV];exact hl,by simpa using rv⟩) (λb u z=>?_) (λb z=>?_) (λT hT=>if_pos hT) λz=>absurd (if_neg hat) z
  ·by_cases hb:b∈ts
   ·have z':=(if_pos hb).symm.trans z;cases z';exact hts b hb
   ·have z':=(if_neg hb).symm.trans z;cases z'
  ·by_cases hb:b∈ts
   ·exact .inr hb
   ·exact absurd (if_neg hb) z
 | none =>
  refine core (λb=>if b=a then some (.frz {cls:=.type "list",data:=.seq vs.toArray} (.lst (ns.map V.int)))else if b∈ts then some (.tbl #[])else none) (.inl (.inr ⟨{cls:=.type "list",data:=.seq vs.toArray},if_pos rfl⟩)) (λb u z=>?_) (λb z=>?_) (λT hT=>?_) λ_=>⟨hk,_,_,if_pos rfl⟩
  ·by_cases hb:b=a
   ·have z':=(if_pos hb).symm.trans z;cases z';subst hb;exact⟨ha,by rw[Ya];exact hl,vs,_,rv,ha⟩
   ·have z':=(if_neg hb).symm.trans z;by_cases Ju:b∈ts
    ·have z2:=(if_pos Ju).symm.trans z';cases z2;exact hts b Ju
    ·have z2:=(if_neg Ju).symm.trans z';cases z2
  ·by_cases hb:b=a
   ·exact .inl hb
   ·by_cases Ju:b∈ts
    ·exact .inr Ju
    ·exact absurd ((if_neg hb).trans (if_neg Ju)) z
  ·show(if T=a then _ else _)=_;rw[if_neg (λz=>hat (by rw[<- z];exact hT)),if_pos hT]
def og{K:Fg}{h:Heap}{T:Addr}(X:K.In h)(hP:h.get? T=some (W.tabObj #[]))(hK:W.noTabs K=true):K.lookup T=none:=by
 cases q:K.lookup T with
 | none=>rfl
 | some o =>
  have e:=X T o q;rw[hP]at e;cases e;have h2:=Cr.mp hK (T,W.tabObj #[]) (W.mem_of_lookupK q);exact absurd (show false=true from h2) Ym
def walk_ofT{l:W.OpenLaw}{n k:Nat}{q:Program}{loose:LS}{XP:(Str->OU)->Heap->Prop}{d:DefRec}{K:Params->Fg}{as:List Addr}{e:∀ P,as=(K P).map (·.1)}{ts:List Addr}{CX:World->Gp}{sp:World->Sp}{x:Str}
  (hn:l.most=some n) (Ri:n<=sizeLine) (hdf:d.params.defaults=[]) (hr:AU k callerA) (hNT:∀ w:World,W.noTabs (K w.params)=true)
  (F:∀(w:World) (mg:Str->OU) (fa:Addr) (h:Heap),(K w.params).In h->h.Ns mainGlobals mg->mg d.name=some (.ref fa) ->
   (∀ T∈ts,∃ c,W.codeHdIn (K w.params) c T=true)/\∃ fd:FuncData,(∀(s:Shared) (u:Value),BindsTo s fd ⟨[u],[]⟩ [(x,u)]) /\
    ∀ base:Heap,(K w.params).In base->base.Ns mainGlobals mg->(∀ T∈ts,mainGlobals≠T/\base.BuiltinsAt mg T)->FG l.prog w (K w.params) mg base (CX w) k fa fd [x] (sp w))
  (hsp:∀(w:World) (H:Hp) (a:Addr) (ns:List Int),ns.length<=n->SqL (K w.params) H a (ns.map V.int)->(∀ T∈ts,H T=some (.tbl #[]))->sp w [.ref a] H (λv _=>v=.bl true) λ_ _ _=>False)
  (hCX:∀(w:World) (H:Hp) (s:Shared) (e:Value) (s':Shared),CX w [] H s (λ_ _ _=>False) e s'->False):
  W.WalkO q loose XP (W.kmHook K as e ts).says l.row.toRowW d [] (λf vs=>PySem.call f vs):=by
 refine Att.attach_call hn hdf λw s₀ s₁ mg mb fa o pm cd doc a vs ns G Y ho hd hcd hmg hobj hints hlen hg=>?_;have KX:=W.km_in_of Y;obtain⟨hc,fd,hb,hF⟩:=F w mg fa _ KX G.T.g hmg;exact nX ts (W.km_tabs_of Y) (λT hT=>let⟨c,z⟩:=hc T hT;⟨c,W.codeHd_of_K KX z⟩) (λT hT=>og KX (W.km_tabs_of Y T hT) (hNT w)) G.T.bmain KX G.T.g G.T.b G.T.builtins G.T.nolimit hg hobj hints (A7 hlen Ri) hr hF hb (λH hS hT=>hsp w H a ns hlen hS hT) λH e s'=>hCX w H s₁ e s'
end L2
namespace L2
open PySem PySem.W PySem.Spec PyProof.Rows
section
variable {X:Cx}{e:Expr}{te:TE}{pos:Pos}{k:Nat}
end
end L2
namespace Mf
open PySem L2
variable {P:Program}{w:World}{K:Fg}{mg:Str->OU}{base:Heap}
def top(i:Nat):Stmt:=PySem.Challenge.pw_manydeeds_k40_whole_even_where_lineups_a.main.body.getD i (.Pass ⟨0,0,0,0⟩)
abbrev KJ:Stmt:=top 16
abbrev P2:Stmt:=top 17
abbrev TV:Stmt:=top 18
abbrev WJ:Stmt:=Fl (top 19) 0
abbrev S_:Stmt:=Fl (top 19) 1
abbrev TX:Stmt:=Fl (top 19) 2
abbrev S9:Stmt:=Fl (top 19) 3
abbrev TZ:Stmt:=Fl (top 19) 5
abbrev Pq:Stmt:=top 21
abbrev Lq:Stmt:=top 22
abbrev Lz:Stmt:=top 23
abbrev N9:Stmt:=top 24
abbrev P5:Stmt:=top 25
abbrev Sh:Stmt:=top 26
abbrev Ph:Stmt:=top 27
abbrev O9:Stmt:=top 28
abbrev SF:Stmt:=top 29
abbrev Nx:Stmt:=top 31
abbrev P1:Stmt:=top 32
abbrev P8:Stmt:=top 34
abbrev TY:Stmt:=top 35
abbrev Pw:Stmt:=top 36
abbrev R3:Stmt:=top 37
abbrev Nr:Stmt:=top 43
abbrev S8:Stmt:=top 44
abbrev S0:Stmt:=top 45
abbrev OB:Stmt:=top 46
abbrev Nq:Stmt:=top 47
abbrev S1:Stmt:=top 48
abbrev Sz:Stmt:=top 49
abbrev WK:Stmt:=Fl (top 50) 0
abbrev Sy:Stmt:=Fl (top 50) 1
abbrev Py:Stmt:=Fl (top 50) 2
abbrev TJ:Stmt:=Fl (top 50) 3
abbrev TH:Stmt:=Fl (top 50) 6
abbrev P4:Stmt:=Fl (top 50) 7
abbrev OA:Stmt:=Fl (top 50) 8
abbrev Px:Stmt:=Fl (top 50) 9
abbrev Pg:Stmt:=top 52
abbrev P_:Stmt:=top 53
abbrev KR:Stmt:=top 54
abbrev N3:Stmt:=top 55
abbrev Pu:Stmt:=top 57
abbrev PJ:Stmt:=top 58
abbrev Lp:Stmt:=top 59
abbrev PK:Stmt:=top 60
abbrev P9:Stmt:=top 61
abbrev L4:Stmt:=top 62
abbrev Si:Stmt:=top 63
abbrev Pm:Stmt:=top 65
abbrev Gb:Stmt:=top 66
abbrev N8:Stmt:=top 67
abbrev Gd:Stmt:=top 68
abbrev S7:Stmt:=top 69
abbrev L0:Stmt:=top 70
abbrev N0:Stmt:=top 71
abbrev S3:Stmt:=top 72
abbrev N2:Stmt:=top 73
abbrev P0:Stmt:=top 74
abbrev S6:Stmt:=top 75
abbrev KQ:Stmt:=top 76
abbrev P7:Stmt:=top 77
abbrev Pz:Stmt:=top 78
abbrev P6:Stmt:=top 79
abbrev N6:Stmt:=top 80
abbrev S4:Stmt:=top 81
abbrev TM:Stmt:=top 82
abbrev Pp:Stmt:=top 83
abbrev N7:Stmt:=top 84
abbrev S5:Stmt:=top 85
abbrev TQ:Stmt:=top 86
abbrev O2:Stmt:=top 87
end Mf
namespace Mf
open PySem L2 Md
variable {P:Program}{w:World}{K:Fg}{mg:Str->OU}{base:Heap}
def Wm(K:Fg):Sp:=λvs H Q _=>∃(a:Addr) (k:Int) (ns:List Int),vs=[.ref a,.int k]/\SqL K H a (ns.map V.int)/\ns.length<=100/\0<=k/\k<=1000/\∀ p o,H p=none->DM o->Q (.ref p) (upd H p o)
def Iz:Sp:=λvs H Q _=>∃(p:Addr) (m:Int) (o:HO),vs=[.ref p,.int m]/\H p=some o/\DM o/\0<m/\m<4611686018427387904/\∀(v:Int) o',0<=v->v<m->DM o'->Q (.int v) (upd H p o')
def bg:Sp:=λvs H Q _=>∃ n:Nat,vs=[.int n]/\n<26 ^ 8/\Q (.str (Ep n)) H
def O3:Ab ["script","k","cell","rest"] ["script","k"] (AK Pm):=by nofun
def U2:(10:Int) ^ (64:Int).toNat * 10 ^ (64:Int).toNat * 10 ^ (64:Int).toNat * 10 ^ (64:Int).toNat=10 ^ 256:=by rfl'
def sg(F:Def K mg "_law_pot" Pm ["script","k"] f fd)(len:mg "len"=none):⋯ 1 f fd ["script","k"] (Wm K):=by
 nomatch F.fn.ok O3
 ·obtain⟨a,k,ns,rfl,_⟩:=h;rfl
 ·obtain⟨a,k,ns,rfl,hS,hl,Cc,FW,q⟩:=h
  ac_nf
  refine⟨_,pS (B1 (i:=2) O3.nd rfl (Or.inl rfl) AI)
   (JB (Aj (Am NV (pv 1) (Af HL (by rfl) len Yz (pC (pv 0) AB)) (Ak _))
    (AG (B1 (i:=2) O3.nd rfl (Or.inl rfl) (Ai HG (AV Ar (pv 0) (pv 1) (λ_ _=>rfl))
     (Ai VL (Ai VL (Ai VL (Ai NX AI AI) (Ai NX AI AI)) (Ai NX AI AI)) (Ai NX AI AI))))) Al)
   (pS (B1 (i:=3) O3.nd rfl (Or.inl rfl) AI)
   (JB (Aj (Am gP (pv 2) (Ai NX AI AI) (Ak _)) (AG (B1 (i:=3) O3.nd rfl (Or.inl rfl) (pv 2))) Al)
   (AG (AS (B4 (pC (pv 3) (pC (Ai HG (Ai Le (Ai ET (Ai ET (Ai HG (pv 2) AI) (Ai Le AI (pv 1))) AI) AI) AI) AB)))))))),?_⟩
  exists let b:=MJ _ a;let c:=AE _ b;let e:=_;let f:=MJ (D0 _ e _) c;AE _ f _ _ _
  let Cg:SW:=λσ' H'=>H'=H/\∃ c:Int,0<=c/\c<10 ^ 256/\σ'=[some (.ref a),some (.int k),some (.int c),none];refine⟨Cg,?_,?_⟩
  ·refine⟨Z,Z,_,Z,.inl ⟨_,hS,Y⟩,_,Z,Y,Z,?_⟩;refine A9 (λh1=>?_) (λh1=>?_)
   ·have h1:k<((ns.map V.int).length:Int):=Je h1;rw[Ya]at h1;have hi:k.toNat<ns.length:=by omega
    have hat:BS (ns.map V.int) k=some (V.int ns[k.toNat]):=by
     have e:(ns.map V.int)[k.toNat]?=some (V.int ns[k.toNat]):=by rw[Yi,Yb hi];rfl
     have:=EB e
     rwa [Gi Cc]at this
    refine⟨Z,Z,_,_,_,Z,Y,hS,hat,_,Z,Y,⟨V,V,by rfl'⟩,_,Z,Y,⟨V,V,by rfl'⟩,_,Z,Y,⟨by rfl',by rfl'⟩,
     _,Z,Y,⟨V,V,by rfl'⟩,_,Z,Y,⟨by rfl',by rfl'⟩,_,Z,Y,⟨V,V,by rfl'⟩,_,Z,Y,⟨by rfl',by rfl'⟩,_,Z,Y,?_,Y,_,?_,?_,Y⟩
    ·show(0:Int)<_;rw[U2];rfl'
    ·rw[U2];exact MQ _ (by rfl')
    ·rw[U2];exact MZ _ (by rfl')
   ·exact⟨Y,0,V,by rfl',Y⟩
  ·rintro σ' H' ⟨rfl,c,kE,E7,rfl⟩;let EG:SW:=λσ2 H2=>H2=H'/\∃ r:Int,0<=r/\r<10 ^ 256/\σ2=[some (.ref a),some (.int k),some (.int c),some (.int r)];refine⟨EG,?_,?_⟩
   ·refine⟨Z,_,Z,Y,⟨V,V,by rfl'⟩,_,Z,Y,Z,?_⟩;refine A9 (λh1=>?_) (λh1=>?_)
    ·exact⟨Z,Y,c,kE,E7,Y⟩
    ·exact⟨Y,0,V,by rfl',Y⟩
   ·rintro σ2 H2 ⟨rfl,r,IZ,Ah,rfl⟩;have m0:=MQ c (b:=2147483629) (by decide);have m1:=MZ c (b:=2147483629) (by decide);refine⟨Z,Z,_,Z,Y,(by show(0:Int)<2147483629;decide),Z,_,Z,Y,.inl ⟨V,V⟩,_,Z,Y,_,Z,Y,_,Z,Y,.inr ⟨V,V⟩,_,Z,Y,(by show(0:Int)<2147483647;decide),U,λp hp=>?_⟩;refine q p _ hp ⟨r,Z,IZ,Ah,MQ _ (by decide),MZ _ (by decide)⟩
def iX:Ab ["pot","many","found"] ["pot","many"] (AK Gb):=by nofun
def PQ(F:Def K mg "_law_take" Gb ["pot","many"] f fd):⋯ 1 f fd ["pot","many"] Iz:=by
 nomatch F.fn.ok iX
 ·obtain⟨p,m,o,rfl,_⟩:=h;rfl
 ·obtain⟨p,m,o,rfl,hp,⟨r,b,rfl,IZ,Ah,Rm,Il⟩,LF,Oe,q⟩:=h
  ac_nf
  refine⟨_,pS (Aj (Am NU (AV Ar (pv 0) AI (λ_ _=>rfl)) AI (Ak _))
    (pS (B1 (i:=2) iX.nd rfl (Or.inl rfl) (Ai HG (AV Ar (pv 0) AI (λ_ _=>rfl)) (pv 1)))
    (pS (R0 (Ai mY (AV Ar (pv 0) AI (λ_ _=>rfl)) (pv 1)) (U7 (pv 0) AI Vi)) (AG (AS (pv 2))))) Al)
   (pS (R0 (Ai HG (Ai ET (Ai Le (AV Ar (pv 0) AI (λ_ _=>rfl)) AI) AI) AI) (U7 (pv 0) AI Vi))
   (AG (AS (Ai HG (Ai VJ (Ai HG (Ai Le (AV Ar (pv 0) AI (λ_ _=>rfl)) (AV Ar (pv 0) AI (λ_ _=>rfl))) AI) AI) (pv 1))))),?_⟩
  exists let b:=AE _ a;let c:=_;let e:=AE _ c;let f:=AE _ e;AE (D0 _ f _) b _ _ _
  refine⟨Z,p,_,_,Z,Y,SqL.of hp,Y,_,Z,Y,Z,?_⟩;refine A9 (λh1=>?_) (λh1=>?_)
  ·refine⟨Z,p,_,_,Z,Y,SqL.of hp,Y,Z,_,Z,Y,LF,?_⟩;refine⟨Z,p,_,_,Z,Y,SqL.of hp,Y,Z,_,Z,Y,⟨LF,Oe⟩,?_⟩;refine⟨Z,p,_,_,0,Y,Y,hp,Y,Z,?_⟩;have h1:0<r:=Je h1;exact q _ _ (MQ _ (by omega)) (MZ _ LF) ⟨r / m,b,Y,Int.ediv_nonneg IZ (by omega),Int.lt_of_le_of_lt (Int.ediv_le_self _ IZ) Ah,Rm,Il⟩
  ·refine⟨Z,p,_,_,Z,Y,SqL.of hp,Y,_,Z,Y,.inr ⟨V,V⟩,_,Z,Y,_,Z,Y,(by show(0:Int)<2147483647;decide),?_⟩;refine⟨Z,p,_,_,1,Y,Y,hp,Y,?_⟩;have m0:=MQ (b * 69621 + 12345) (b:=2147483647) (by decide);have m1:=MZ (b * 69621 + 12345) (b:=2147483647) (by decide);refine⟨Z,p,_,_,Z,Y,SqL.of uS,Y,Z,p,_,_,Z,Y,SqL.of uS,Y,_,Z,Y,.inl ⟨W,W⟩,_,Z,Y,(by show(0:Int)<2147483629;decide),_,Z,Y,⟨V,V⟩,Z,_,Z,Y,LF,?_⟩;exact q _ _ (MQ _ (by omega)) (MZ _ LF) ⟨r,Z,IZ,Ah,m0,m1⟩
def gS:Ab ["number","word"] ["number"] (AK N8):=by nofun
def pH(F:Def K mg "_law_letters" N8 ["number"] f fd):⋯ 1 f fd ["number"] bg:=by
 nomatch F.fn.ok gS
 ·obtain⟨n,rfl,_⟩:=h;rfl
 ·obtain⟨n,rfl,hn,q⟩:=h;have nd:=gS.nd
  ac_nf
  refine⟨_,pS (sE 1 nd EU)
   (pS (JC Ys (Iu (Am D_ (pv 1) EU (Ak _)) (J3 (Am NU (pv 0) AI (Ak _)))).pt
    (pS (sE 1 nd (Ai cS (pv 1) (AV rh EU (Ai HG (pv 0) AI) (λ_ _=>rfl))))
    (AG (sE 0 nd (Ai VJ (pv 0) AI)))))
   (AG (AS (pv 1)))),?_⟩
  exists let b:=AE _ a;AE _ b _ _ _
  have e0:("":Str).cps.toList=[]:=by rfl'
  have hlen:(Dd n).length<=8:=WD 7 n hn;let Qa:NW:=λm σ H2=>H2=H/\∃(x:Str) (k:Nat),σ=[some (.int k),some (.str x)]/\m=k + (if x.cps.toList=[]then 1 else 0)/\((x.cps.toList=[]/\k=n)\/(x.cps.toList≠[]/\k=0/\x.cps.toList=Dd n)\/(x.cps.toList≠[]/\0<k/\x.cps.toList++Dd k=Dd n));refine⟨Qa,⟨Z,_,n,Y,Y,.inl ⟨e0,Y⟩⟩,?_⟩;rintro m σ H2 ⟨rfl,x,k,rfl,rfl,inv⟩;have more:(x.cps.toList=[]\/0<k)->∃ N:SW,(∀ σ' H',N σ' H'->∃ m',m'<k + (if x.cps.toList=[]then 1 else 0)/\(H'=H2/\∃(y:Str) (j:Nat),σ'=[some (.int j),some (.str y)]/\m'=j + (if y.cps.toList=[]then 1 else 0) /\
    ((y.cps.toList=[]/\j=n)\/(y.cps.toList≠[]/\j=0/\y.cps.toList=Dd n)\/(y.cps.toList≠[]/\0<j/\y.cps.toList++Dd j=Dd n)))) /\
    N [some (.int ((k:Int) / 26)),some (.str (x++⟨#[97 + k % 26]⟩))] H2:=λhk=>by
   let QZ:SW:=λσ' H'=>σ'=[some (.int ((k:Int) / 26)),some (.str (x++⟨#[97 + k % 26]⟩))]/\H'=H2;refine⟨QZ,?_,Y,Y⟩;rintro σ' H' ⟨rfl,rfl⟩;have el:(x++⟨#[97 + k % 26]⟩:Str).cps.toList=x.cps.toList++[97 + k % 26]:=Z7 _ _;have ne:(x++⟨#[97 + k % 26]⟩:Str).cps.toList≠[]:=by rw[el];simp
   have kd:((k:Int) / 26)=((k / 26:Nat):Int):=by omega
   have whole:(x.cps.toList++[97 + k % 26])++(if k / 26=0 then[]else Dd (k / 26))=Dd n:=by
    rw[JN,List.singleton_append,<- N4]
    rcases inv with⟨h1,h2⟩ | ⟨h1,h2,_⟩ | ⟨_,_,h3⟩
    ·rw[h1,h2];rfl
    ·rcases hk with z | z
     ·exact absurd z h1
     ·omega
    ·exact h3
   refine⟨k / 26,?_,Y,_,k / 26,by rw[kd],by rw[if_neg ne];rfl,?_⟩
   ·rcases hk with z | z
    ·rw[if_pos z];omega
    ·have:k / 26<k:=by omega
     omega
   ·right;rw[el];by_cases z:k / 26=0
    ·rw[if_pos z,Gg]at whole;exact .inl ⟨G,z,whole⟩
    ·rw[if_neg z]at whole;exact .inr ⟨G,W,whole⟩
  have xlen:x.length<=8:=by
   rw[<- H_]
   rcases inv with⟨h1,_⟩ | ⟨_,_,h3⟩ | ⟨_,_,h3⟩
   ·rw[h1];simp
   ·rw[h3];exact hlen
   ·have:=congrArg List.length h3;rw[Yt]at this;omega
  have Ru:BS letters.cps.toList ((k:Int) % 26)=some (97 + k % 26):=by
   have:=EB (oZ (i:=k % 26) (by omega));have e:((k % 26:Nat):Int)=(k:Int) % 26:=by omega
   rwa [e]at this
  refine⟨Z,Y,Z,?_⟩;refine A9 (λh1=>?_) (λh1=>?_)
  ·have hx:x.cps.toList=[]:=by
    have:=Je h1;injection this with this;rw[this];exact e0
   obtain⟨N,hN,n0⟩:=more (.inl hx);refine By ⟨N,hN,?_⟩;exact⟨Z,Z,_,Z,Y,(by show(0:Int)<26;decide),_,_,Z,Y,sL (by rw[<- H_,Sr];decide),Ru,_,Z,Y,sL (by rw[ZT];omega),Z,_,Z,Y,⟨V,V⟩,n0⟩
  ·have hx:x.cps.toList≠[]:=λz=>h1 (Jb (by rw[Zx (z.trans e0.symm)]));refine⟨Z,_,Z,Y,Z,?_⟩;refine A9 (λh2=>?_) (λh2=>?_)
   ·have hk:0<k:=by have:(0:Int)<(k:Int):=Je h2;omega
    obtain⟨N,hN,n0⟩:=more (.inr hk);refine⟨N,hN,?_⟩;exact⟨Z,Z,_,Z,Y,(by show(0:Int)<26;decide),_,_,Z,Y,sL (by rw[<- H_,Sr];decide),Ru,_,Z,Y,sL (by rw[ZT];omega),Z,_,Z,Y,⟨V,V⟩,n0⟩
   ·have hk:k=0:=by
     have:¬ (0:Int)<(k:Int):=λz=>h2 (Jb z);omega
    have hf:x=Ep n:=by
     refine Zx ?_;rw[WH]
     rcases inv with⟨h1,_⟩ | ⟨_,_,h3⟩ | ⟨_,h2,_⟩
     ·exact absurd h1 hx
     ·exact h3
     ·omega
    rw[hf];exact⟨Z,q⟩
structure VF(ws:LS):Prop where
 word:∀ x∈ws,Bj x=true
 nd:ws.Nodup
def iL:Sp:=λvs H Q _=>∃(p a:Addr) (ws:LS),vs=[.ref p,.ref a]/\p≠a/\(∃ o,H p=some o/\DM o)/\H a=some (.lst (ws.map V.str))/\VF ws/\ws.length<=24 /\
 ∀ x H',Drawn p H H'->Bj x=true->x∉ws->Q (.str x) H'
def Zw:Sp:=λvs H Q _=>∃(p:Addr) (m:Nat),vs=[.ref p,.int m]/\(∃ o,H p=some o/\DM o)/\m<=24 /\
 ∀ l (ws:LS) H',Drawn p H H'->H l=none->H' l=some (.lst (ws.map V.str))->VF ws->ws.length=m->Q (.ref l) H'
def J4:LS:=["kind","under","name","deed","gives","with","none","clash","a","ab","abc","abcdefgh","even"]
def oW:J4.all Bj=true:=by rfl'
def VU{ws:LS}{v:Int}(h0:0<=v)(h1:v<ws.length):∃ x,x∈ws/\BS (ws.map V.str) v=some (.str x):=by
 have hi:v.toNat<ws.length:=by omega
 have e:(ws.map V.str)[v.toNat]?=some (V.str ws[v.toNat]):=by rw[Yi,Yb hi];rfl
 have:=EB e;rw[Gi h0]at this;exact⟨_,KU hi,this⟩
def cL(ws:LS):(!CL (.list (ws.map W.Dat.str)) (.list []))=true↔ws≠[]:=by
 cases ws with
 | nil=>simp[EZ]
 | cons w r =>
  rw[GV (by simp)];simp
def U4{ws:LS}(h:∀ x∈ws,Bj x=true):W.kqdOk 9 (.list (ws.map W.Dat.str))=true:=by
 show(ws.map W.Dat.str).all (W.kqdOk 8)=true;rw[Cr];intro d hd;obtain⟨x,hx,e⟩:=Yg.mp hd;rw[<- e];exact PN (h x hx)
def iY:Ab ["pot","words","some","way","word","number"] ["pot","words"] (AK Gd):=by nofun
def dN{x y:Str}{n:Nat}(hn:1<=n)(h:y.cps.toList=x.cps.toList.take n)(h1:1<=x.length)(h8:x.length<=8\/n<=8)(hl:∀ c∈x.cps.toList,Ir c=true):Bj y=true:=by
 rw[L1,h,Yx,H_];refine⟨⟨W,W⟩,λc hc=>hl c (MO hc)⟩
def YW:List Stmt->Stmt
 | s :: _=>s
 | []=>.Pass ⟨0,0,0,0⟩
def OR:TE:=WZ (λ_ H Q=>Q (J4.map V.str) H)
def CG:Stmt:=YW (CY Gd)
def kz:∃ es c p0 p1 p2,CG=.Assign [.Name ("some":Str) p0] (.Tuple es c p1) p2/\O_ es=some J4:=⟨_,_,_,_,Z,by rfl'⟩
def vH{X:Cx}{st:Stmt}{i:Nat}{x:Str}{ws:LS}(h:∃ es c p0 p1 p2,st=.Assign [.Name x p0] (.Tuple es c p1) p2/\O_ es=some ws)(hN:X.N.Nodup)(hi:X.N[i]?=some x)(hx:Loc X.env.scope x)(hf:X.fn x=true\/X.env.scope.names.lookup x=some .local):PS X st (JG (WZ (λ_ H Q=>Q (ws.map V.str) H)) (Dp i)):=by
 obtain⟨es,c,p0,p1,p2,rfl,h⟩:=h;exact B1 hN hi hx (CP (oH h)) rfl hf
def qx{X:Cx}(hN:X.N.Nodup)(hi:X.N[2]?=some ("some":Str))(hx:Loc X.env.scope ("some":Str))(hf:X.fn ("some":Str)=true\/X.env.scope.names.lookup ("some":Str)=some NameKind.local):PS X CG (JG OR (Dp 2)):=
 @vH X CG 2 ("some":Str) J4 kz hN hi hx hf
def UC:List Stmt->List Stmt
 | _ :: r=>r
 | []=>[]
def tZ{X:Cx}{l:List Stmt}{t u:TS}(h0:l.isEmpty=false)(h1:PS X (YW l) t)(h2:CF X (UC l) u):CF X l (AE t u):=by
 cases l with
 | nil=>cases h0
 | cons a r=>exact pS h1 h2
def jY:(CY Gd).isEmpty=false:=by rfl'
def tY{X:Cx}{u:TS}(hN:X.N.Nodup)(hi:X.N[2]?=some ("some":Str))(hx:Loc X.env.scope ("some":Str))(hf:X.fn ("some":Str)=true\/X.env.scope.names.lookup ("some":Str)=some NameKind.local)(h2:CF X (UC (CY Gd)) u):CF X (CY Gd) (AE (JG OR (Dp 2)) u):=
 @tZ X (CY Gd) (JG OR (Dp 2)) u jY (@qx X hN hi hx hf) h2
def rL{X:Cx}{D:JH}{σ:St}{H:Hp}(hN:X.N.Nodup)(hi:X.N[2]?=some ("some":Str))(hx:Loc X.env.scope ("some":Str))(hf:X.fn ("some":Str)=true\/X.env.scope.names.lookup ("some":Str)=some NameKind.local)
  (h:∃ u,CF X (UC (CY Gd)) u/\AE (JG OR (Dp 2)) u D σ H):∃ t,CF X (CY Gd) t/\t D σ H:=by
 obtain⟨u,h1,h2⟩:=h;exact⟨AE (JG OR (Dp 2)) u,@tY X u hN hi hx hf h1,h2⟩
def uq(F:Def K mg "_law_word" Gd ["pot","words"] f fd)(DT:Def K mg "_law_take" Gb ["pot","many"] fT fdT)(DL:Def K mg "_law_letters" N8 ["number"] fL fdL)(len:mg "len"=none):
  ⋯ 2 f fd ["pot","words"] iL:=by
 have GT:⋯ 1 fT fdT ["pot","many"] Iz:=PQ DT;have GL:⋯ 1 fL fdL ["number"] bg:=pH DL
 nomatch F.fn.ok iY
 ·obtain⟨p,a,ws,rfl,_⟩:=h;rfl
 ·obtain⟨p,a,ws,rfl,hpa,hpot,ha,hw,xW,q⟩:=h;have nd:=iY.nd;have hu:=hr.units;refine @rL _ _ _ _ nd rfl (Or.inl rfl) (Or.inl rfl) ?_
  ac_nf
  refine⟨_,(pS (sE 3 nd (AN DT GT hr (pC (pv 0) (pC AI AB))))
   (pS (sE 4 nd (AV BQ (pv 2) (AN DT GT hr (pC (pv 0) (pC AI AB))) (λ_ _=>rfl)))
   (JB (Aj (Am D_ (pv 3) AI (Ak _)) (AG (sE 4 nd (AN DL GL hr (pC (AN DT GT hr (pC (pv 0) (pC (Ai NY (Ai NX AI AI) AI) AB))) AB)))) Al)
   (JB (Aj (Ld (Am D_ (pv 3) AI (Ak _)) (Ln (Am (HH hu) (pv 1) (B4 AB) (Ak _)))).pt
    (pS (sE 4 nd (AV Ar (pv 1) (AN DT GT hr (pC (pv 0) (pC (Af HL (by rfl) len Yz (pC (pv 1) AB)) AB))) (λ_ _=>rfl)))
    (AG (sE 4 nd (PX iZ (Ai cS (pv 4) (AN DL GL hr (pC (AN DT GT hr (pC (pv 0) (pC AI AB))) AB))) PR (PU AI))))) Al)
   (JB (Aj (Ld (Am D_ (pv 3) AI (Ak _)) (Ln (Am (HH hu) (pv 1) (B4 AB) (Ak _)))).pt
    (pS (sE 4 nd (AV Ar (pv 1) (AN DT GT hr (pC (pv 0) (pC (Af HL (by rfl) len Yz (pC (pv 1) AB)) AB))) (λ_ _=>rfl)))
    (AG (sE 4 nd (PX iZ (pv 4) PR (PU (Ai ET AI (AN DT GT hr (pC (pv 0) (pC (Af HL (by rfl) len Yz (pC (pv 4) AB)) AB))))))))) Al)
   (pS (sE 5 nd AI)
   (pS (JC Ys (Am Nw (pv 4) (pv 1) (by with_unfolding_all rfl))
    (pS (sE 4 nd (AN DL GL hr (pC (pv 5) AB)))
    (AG (sE 5 nd (Ai ET (pv 5) AI)))))
   (AG (AS (pv 4)))))))))),?_⟩
  have hap:a≠p:=Yr hpa;obtain⟨o0,Dx,E4⟩:=hpot;have wl:∀ {H':Hp},Drawn p H H'->SqL K H' a (ws.map V.str):=λd=>SqL.of (d.keep _ _ hap ha);refine⟨sL (by show 13<=100000;decide),λt ht=>?_⟩;have d1:Drawn p H (upd H t (.tup (J4.map V.str))):=(Drawn.refl ⟨o0,Dx,E4⟩).new ht;have tp:t≠p:=λe=>by rw[e,Dx]at ht;cases ht
  refine⟨Z,p,4,o0,Y,(by rw[AD (Yr tp)];exact Dx),E4,V,V,λway o1 xj M_ FU=>?_⟩;refine⟨Z,Z,p,13,o1,Y,uS,FU,V,V,λv o2 CI CH CA=>?_⟩;obtain⟨x0,jt,hat⟩:=VU (ws:=J4) CI (by show v<13;exact CH);refine⟨t,J4.map V.str,_,Z,Y,AL.of (by rw[AD tp,AD tp];exact uS),hat,?_⟩;have w0:Bj x0=true:=Cr.mp oW x0 jt;have d3:Drawn p H (upd (upd (upd H t (.tup (J4.map V.str))) p o1) p o2):=(d1.trans (Drawn.upd FU)).trans (Drawn.upd CA);let Cg:SW:=λσ' H'=>∃ x:Str,σ'=[some (.ref p),some (.ref a),some (.ref t),some (.int way),some (.str x),none]/\Bj x=true/\Drawn p H H';refine⟨Cg,?_,?_⟩
  ·refine⟨Z,Y,Z,?_⟩;refine A9 (λ_=>?_) (λ_=>?_)
   ·obtain⟨o3,Ef,Eh⟩:=d3.pot;refine⟨Z,_,Z,Y,⟨V,V,by rfl'⟩,_,Z,Y,p,_,o3,Y,Ef,Eh,V,V,λv o4 CI CH Uk=>?_⟩;have CH:v<208827064550:=CH;refine⟨v.toNat,by rw[Gi CI];rfl,W,Z,WI (by omega),d3.trans (Drawn.upd Uk)⟩
   ·exact⟨x0,Y,w0,d3⟩
  ·rintro σ' H1 ⟨x1,rfl,w1,d4⟩;let EG:SW:=λσ' H'=>∃ x:Str,σ'=[some (.ref p),some (.ref a),some (.ref t),some (.int way),some (.str x),none]/\Bj x=true/\Drawn p H H';refine⟨EG,?_,?_⟩
   ·refine⟨Z,Y,Z,?_⟩;refine A9 (λ_=>?_) (λ_=>Ao ⟨x1,Y,w1,d4⟩);refine⟨Z,BF _,λt2 BD=>⟨.list (ws.map W.Dat.str),.list [],.list ((wl d4).mono_new BD) (Ga ws),.list (SqL.of uS) .nil,U4 hw.word,Y,Z,?_⟩⟩;have d5:Drawn p H (upd H1 t2 (.lst [])):=d4.new BD;refine A9 (λBB=>?_) (λ_=>⟨x1,Y,w1,d5⟩);have BB:ws≠[]:=(cL ws).mp BB;have hpos:0<ws.length:=IH.mpr BB;obtain⟨o5,Gz,NB⟩:=d5.pot;refine⟨Z,Z,Z,_,Z,.inl ⟨_,wl d5,Y⟩,p,_,o5,Y,Gz,NB,Q,Q,λv o6 CI CH FT=>?_⟩;rw[Ya]at CH;obtain⟨x2,jq,Mq⟩:=VU (ws:=ws) CI CH;have d6:Drawn p H (upd (upd H1 t2 (.lst [])) p o6):=d5.trans (Drawn.upd FT);have w2:Bj x2=true:=hw.word x2 jq;refine⟨a,ws.map V.str,_,Z,Y,wl d6,Mq,?_⟩;refine⟨Z,Z,p,26,o6,Y,uS,FT,V,V,λv o7 CI CH Hh=>?_⟩;refine⟨v.toNat,by rw[Gi CI];rfl,W,?_⟩;have T_:Bj (Ep v.toNat)=true:=WI (by omega);have l2:=Sg w2;have l3:=Sg T_;refine⟨_,Z,Y,sL (by omega),Z,Z,sL (by rw[ZS];omega),?_⟩;refine⟨Z,?_,d6.trans (Drawn.upd Hh)⟩;refine dN (x:=x2++Ep v.toNat) (n:=8) (by decide) (cu _ 8 (by decide)) (by rw[ZS];omega) (.inr (Yf _)) λc hc=>?_;rw[Z7]at hc
    rcases Yv.mp hc with hc | hc
    ·exact((L1 x2).mp w2).2 c hc
    ·exact((L1 _).mp T_).2 c hc
   ·rintro σ' H2 ⟨x2,rfl,w2,d5⟩;let Qa:SW:=λσ' H'=>∃ x:Str,σ'=[some (.ref p),some (.ref a),some (.ref t),some (.int way),some (.str x),none]/\Bj x=true/\Drawn p H H';refine⟨Qa,?_,?_⟩
    ·refine⟨Z,Y,Z,?_⟩;refine A9 (λ_=>?_) (λ_=>Ao ⟨x2,Y,w2,d5⟩);refine⟨Z,BF _,λt2 BD=>⟨.list (ws.map W.Dat.str),.list [],.list ((wl d5).mono_new BD) (Ga ws),.list (SqL.of uS) .nil,U4 hw.word,Y,Z,?_⟩⟩;have d6:Drawn p H (upd H2 t2 (.lst [])):=d5.new BD;refine A9 (λBB=>?_) (λ_=>⟨x2,Y,w2,d6⟩);have BB:ws≠[]:=(cL ws).mp BB;have hpos:0<ws.length:=IH.mpr BB;obtain⟨o6,Ia,FT⟩:=d6.pot;refine⟨Z,Z,Z,_,Z,.inl ⟨_,wl d6,Y⟩,p,_,o6,Y,Ia,FT,Q,Q,λv o7 CI CH Hh=>?_⟩;rw[Ya]at CH;obtain⟨x3,jo,Xc⟩:=VU (ws:=ws) CI CH;have d7:Drawn p H (upd (upd H2 t2 (.lst [])) p o7):=d6.trans (Drawn.upd Hh);have w3:Bj x3=true:=hw.word x3 jo;have l3:=Sg w3;refine⟨a,ws.map V.str,_,Z,Y,wl d7,Xc,?_⟩;refine⟨Z,Z,Z,_,Z,⟨sL (by omega),Y⟩,p,_,o7,Y,uS,Hh,W,W,λv o8 CI CH Js=>?_⟩;refine⟨_,Z,Y,Z,Z,sL (by omega),?_⟩;refine⟨Z,?_,d7.trans (Drawn.upd Js)⟩;exact dN (x:=x3) (n:=(1 + v).toNat) (by omega) (cu _ (1 + v) (by omega)) (by omega) (.inl (by omega)) ((L1 x3).mp w3).2
    ·rintro σ' H3 ⟨x3,rfl,w3,d6⟩;let QZ:NW:=λm σ H'=>∃(x:Str) (n:Nat),σ=[some (.ref p),some (.ref a),some (.ref t),some (.int way),some (.str x),some (.int n)]/\Bj x=true/\Drawn p H H'/\m=ws.length + 1 - n/\n<=ws.length + 1/\(n=0\/x=Ep (n - 1))/\∀ j,j + 1<n->Ep j∈ws;refine⟨QZ,⟨_,x3,0,Y,w3,d6,Y,W,.inl rfl,λj hj=>by omega⟩,?_⟩;rintro m σ H4 ⟨x,n,rfl,wx,dx,rfl,hn,hxn,hall⟩;refine⟨Z,Z,a,Z,.inl (wl dx),Y,Lu ws,Z,?_⟩;show if EJ (.str x) (ws.map V.str)=true then _ else _
     rw[J7];refine A9 (λhin=>?_) (λhin=>?_)
     ·have hin:x∈ws:=Je hin;have all:∀ j,j<n->Ep j∈ws:=λj hj=>by
       by_cases z:j + 1<n
       ·exact hall j z
       ·rcases hxn with e | e
        ·omega
        ·have:j=n - 1:=by omega
         rw[this,<- e];exact hin
      have hle:n<=ws.length:=by
       have:=Graph.nodup_le (l:=(List.range n).map Ep) (k:=ws) ?_ ?_
       ·simpa using this
       ·rw[Fo,Ka];exact(Fo.mp List.nodup_range).imp λh e=>h (qP e)
       ·intro y hy;obtain⟨j,hj,e⟩:=Yg.mp hy;rw[<- e];exact all j (Bp.mp hj)
      let xM:SW:=λσ' H'=>σ'=[some (.ref p),some (.ref a),some (.ref t),some (.int way),some (.str (Ep n)),some (.int ((n:Int) + 1))]/\H'=H4;refine⟨xM,?_,?_⟩
      ·rintro σ' H' ⟨rfl,rfl⟩;exact⟨ws.length + 1 - (n + 1),W,Ep n,n + 1,Y,WI (by omega),dx,Y,W,.inr rfl,λj hj=>all j (by omega)⟩
      ·exact⟨Z,n,Y,W,Z,_,Z,Y,Y,Y⟩
     ·have hin:x∉ws:=λz=>hin (Jb z);exact⟨Z,q x H4 dx wx hin⟩
def Zp:Ab ["pot","many","words","k"] ["pot","many"] (AK S7):=by nofun
def mX(F:Def K mg "_law_words" S7 ["pot","many"] f fd)(DW:Def K mg "_law_word" Gd ["pot","words"] fW fdW)(DT:Def K mg "_law_take" Gb ["pot","many"] fT fdT)(DL:Def K mg "_law_letters" N8 ["number"] fL fdL)(len:mg "len"=none)(range:mg "range"=none):
  ⋯ 3 f fd ["pot","many"] Zw:=by
 have GW:⋯ 2 fW fdW ["pot","words"] iL:=uq DW DT DL len
 nomatch F.fn.ok Zp
 ·obtain⟨p,m,rfl,_⟩:=h;rfl
 ·obtain⟨p,m,rfl,⟨o0,Dx,E4⟩,hm,q⟩:=h;have nd:=Zp.nd
  ac_nf
  refine⟨_,pS (sE 2 nd (B4 AB))
   (pS (Bt Ys rfl (FF rfl range (pC (pv 1) AB)) (gE 3 nd)
    (AG (B5 (C7 C1 IM IL GZ (pv 2) (pC (AN DW GW hr (pC (pv 0) (pC (pv 2) AB))) AB)))))
   (AG (AS (pv 2)))),?_⟩
  exists let b:=_;let c:=AE (Bz _ _ b) a;AE _ c _ _ _
  refine⟨BF _,λl hl=>?_⟩;have lp:p≠l:=AH Dx hl;let BG:NW:=λi σ H'=>∃(ws:LS) (kv:OV),σ=[some (.ref p),some (.int m),some (.ref l),kv]/\Drawn p H H'/\H' l=some (.lst (ws.map V.str))/\VF ws/\ws.length=i;refine⟨Z,m,Y,W,W,B8 Es BG
   ⟨[],none,Y,(Drawn.refl ⟨o0,Dx,E4⟩).new hl,uS,⟨(λ_ h=>nomatch h),OL⟩,Y⟩ (λ_ _ _ _ _=>trivial) ?_ ?_⟩
  ·rintro i v σ H' hi ⟨ws,kv,rfl,d,hw,ok,rfl⟩;obtain⟨hi,rfl⟩:=Ds hi;refine⟨Z,.inl ⟨Y,_,SqL.of hw⟩,Z,Z,p,l,ws,Y,lp,d.pot,hw,ok,W,λx H2 d2 wx nx=>?_⟩;have Jp:H2 l=some (.lst (ws.map V.str)):=d2.keep _ _ (Yr lp) hw;refine⟨l,_,Z,Y,Jp,CZ (by rw[Ya];omega),?_⟩;refine⟨ws++[x],Z,?_,by rw[uS,CD];rfl,⟨λy hy=>?_,?_⟩,G⟩
   ·refine(d.trans d2).sub (q:=l) (o':=.lst []) (λb o hb e=>by rw[AD hb];exact e) hl lp
   ·rcases Yv.mp hy with hy | hy
    ·exact ok.word y hy
    ·rw[Yj.mp hy];exact wx
   ·rw[List.nodup_append];exact⟨ok.nd,G,λa ha b hb e=>nx (by rw[<- Yj.mp hb,<- e];exact ha)⟩
  ·rintro σ H' ⟨ws,kv,rfl,d,hw,ok,hlen⟩;rw[Ca]at hlen;exact⟨Z,q l ws H' d hl hw ok (by simpa using hlen)⟩
def B3(js:LN):LV:=js.map λ(j:Nat)=>V.int (j:Int)
structure gJ(k:Nat)(js:LN):Prop where
 below:∀ j∈js,j<k
 nd:js.Nodup
 few:js.length<=8
def gi:Sp:=λvs H Q _=>∃(p:Addr) (k sh:Nat),vs=[.ref p,.int k,.int sh]/\(∃ o,H p=some o/\DM o)/\k<=24 /\
 ∀ l (js:LN) H',Drawn p H H'->H' l=some (.lst (B3 js))->gJ k js->Q (.ref l) H'
structure ve(mg:Str->OU):Prop where
 range:mg "range"=none
 int:mg "int"=none
def gW:Ab ["pot","k","shape","one","other","bits"] ["pot","k","shape"] (AK L0):=by nofun
abbrev WY:LS:=["pot","k","shape","one","other","bits"]
def d0:(["j"]:LS).Nodup:=by rfl'
def qm:(["j","bits"]:LS).Nodup:=by rfl'
def M4(v:V):Bool:=match v with | .int i=>decide (0<=i) | _=>false
def NS:LV:=[.int 1,.int 2,.int 4,.int 8,.int 16,.int 32,.int 64,.int 128]
def Td(bits:Int)(v:V):Bool:=match v with
 | .int j=>decide (j<8)&&(match BS NS j with | some (.int e)=>decide (bits / e % 2=1) | _=>false)
 | _=>false
def vV{j:Int}(h0:0<=j)(h1:j<8):∃ e:Int,BS NS j=some (.int e)/\0<e/\e<1000:=by
 have:∀ i:_root_.Fin 8,∃ e:Int,BS NS (i.1:Int)=some (.int e)/\0<e/\e<1000:=by
  intro i
  match i with
  | ⟨0,_⟩=>exact⟨1,Y,V,V⟩
  | ⟨1,_⟩=>exact⟨2,Y,V,V⟩
  | ⟨2,_⟩=>exact⟨4,Y,V,V⟩
  | ⟨3,_⟩=>exact⟨8,Y,V,V⟩
  | ⟨4,_⟩=>exact⟨16,Y,V,V⟩
  | ⟨5,_⟩=>exact⟨32,Y,V,V⟩
  | ⟨6,_⟩=>exact⟨64,Y,V,V⟩
  | ⟨7,_⟩=>exact⟨128,Y,V,V⟩
 have q:=this ⟨j.toNat,W⟩
 rwa [Gi h0]at q
def pP(k:Nat)(p:V->Bool):∃ js:LN,(CW 0 k).filter p=B3 js/\(∀ j∈js,j<k/\p (.int (j:Int))=true)/\js.Nodup:=by
 refine⟨(List.range k).filter λj=>p (.int (j:Int)),?_,λj hj=>?_,List.nodup_range.filter _⟩
 ·unfold CW B3;rw[II];have e:((λ(j:Nat)=>V.int (0 + (j:Int))))=λ(j:Nat)=>V.int (j:Int):=by
   funext j
   rw[FL]
  rw[e];rfl
 ·obtain⟨h1,h2⟩:=Yu.mp hj;exact⟨Bp.mp h1,h2⟩
theorem dM:∀ {xs ys:LV},Paired (λx v=>v=x) xs ys->ys=xs
 | _,_,.nil=>rfl
 | _,_,.cons h t=>by rw[h,dM t]
def sr(F:Def K mg "_law_ups" L0 ["pot","k","shape"] f fd)(DT:Def K mg "_law_take" Gb ["pot","many"] fT fdT)(T:ve mg):⋯ 2 f fd ["pot","k","shape"] gi:=by
 have GT:⋯ 1 fT fdT ["pot","many"] Iz:=PQ DT
 nomatch F.fn.ok gW
 ·obtain⟨p,k,sh,rfl,_⟩:=h;rfl
 ·obtain⟨p,k,sh,rfl,⟨o0,Dx,E4⟩,hk,q⟩:=h;have nd:=gW.nd
  ac_nf
  refine⟨_,pS (Aj (Am D_ (pv 1) AI (Ak _)) (AG (AS (B4 AB))) Al)
   (pS (sE 3 nd (AN DT GT hr (pC (pv 0) (pC (pv 1) AB))))
   (pS (sE 4 nd (AN DT GT hr (pC (pv 0) (pC (pv 1) AB))))
   (pS (Aj (Am D_ (pv 2) AI (Ak _)) (AG (AS (B4 (pC (pv 3) AB)))) Al)
   (pS (Aj (Am D_ (pv 2) AI (Ak _)) (AG (AS (PX VP
     (BC ["j"] [] [] (λ_=>A4 (osc:=AK L0) (on:=WY) (by rfl') rfl rfl rfl) (HJ (CP (pC (pv 3) (pC (pv 4) AB)))) (λC s H fp=>Ay (i:=0) d0 rfl (Or.inl rfl) (Or.inr rfl)) (λC s H fp=>B6) (λC s H fp=>pv 0))
     PR (PU (Ai ET AI (HM m9 (by rfl) T.int PyProof.Rows.boot_int (pC (Hz F9 (pv 3) (pv 4) (Ak _)) AB))))))) Al)
   (pS (Aj (Am D_ (pv 2) AI (Ak _)) (AG (AS
     (BC ["j"] [] [] (λ_=>A4 (osc:=AK L0) (on:=WY) (by rfl') rfl rfl rfl) (HJ (CP (pC (Ai NY (Ai NY (pv 1) AI) (Ai HG (pv 1) AI)) (pC (Ai NY (Ai NY (pv 1) AI) (Ai HG (pv 1) AI)) AB)))) (λC s H fp=>Ay (i:=0) d0 rfl (Or.inl rfl) (Or.inr rfl))
      (λC s H fp=>EX (Am gP (pv 0) AI (Ak _))) (λC s H fp=>pv 0)))) Al)
   (pS (Aj (Am D_ (pv 2) AI (Ak _)) (AG (AS (B4 (pC (Ai NY (pv 1) AI) AB)))) Al)
   (pS (B1 (i:=5) nd rfl (Or.inr rfl) (AN DT GT hr (pC (pv 0) (pC AI AB))))
   (AG (AS (BC ["j"] ["bits"] [5] (λ_=>A4 (osc:=AK L0) (on:=WY) (by rfl') rfl rfl rfl) (FF rfl T.range (pC (pv 1) AB)) (λC s H fp=>Ay (i:=0) qm rfl (Or.inl rfl) (Or.inr rfl))
    (λC s H fp=>EX (PW.pt (Ld (Am NV (pv 0) AI (Ak _)) (Ln (Am D_ (Ai HG (Ai VJ (pv 1) (AV (r:=BN K) BQ (CP (pC AI (pC AI (pC AI (pC AI (pC AI (pC AI (pC AI (pC AI AB))))))))) (pv 0) (λ_ _=>rfl))) AI) AI (Ak _)))))) (λC s H fp=>pv 0))))))))))),?_⟩
  exists let b:=AE _ a;let c:=_;let e:=AE (D0 _ c _) b;let f:=_;let g:=AE (D0 _ f _) e;let h:=_;let i:=AE (D0 _ h _) g;let j:=AE _ i;let k:=AE _ j;let l:=AE _ k;AE _ l _ _ _
  have dr:Drawn p H H:=Drawn.refl ⟨o0,Dx,E4⟩;refine⟨Z,Y,Z,?_⟩;refine A9 (λh0=>?_) (λh0=>?_)
  ·exact⟨BF _,λl hl=>q l [] _ (dr.new hl) uS ⟨(λ_ h=>nomatch h),OL,BF _⟩⟩
  have Cc:0<k:=by
   refine Nat.pos_of_ne_zero λz=>h0 (Jb ?_);rw[z];rfl
  refine⟨Z,Z,p,k,o0,Y,Dx,E4,W,W,λone o1 NH Bc FU=>?_⟩;refine⟨Z,Z,p,k,o1,Y,uS,FU,W,W,λoth o2 kQ x8 CA=>?_⟩;rw[Nh];have d2:Drawn p H (upd H p o2):=Drawn.upd CA;refine⟨Z,Y,Z,?_⟩;refine A9 (λ_=>?_) (λ_=>?_)
  ·refine⟨Z,J,λl hl=>q l [one.toNat] _ (d2.new hl) ?_ ⟨λj hj=>?_,G,G⟩⟩
   ·rw[uS];show some (HO.lst [V.int one])=some (HO.lst [V.int ((one.toNat:Nat):Int)]);rw[Gi NH]
   ·rw[Yj.mp hj];omega
  refine⟨Z,Y,Z,?_⟩;refine A9 (λ_=>?_) (λ_=>?_)
  ·-- [j for j in(one,other)][:1 + int(one != other)]
   refine⟨Z,Z,U,λt ht=>⟨t,Y,⟨_,AL.of uS⟩,IC (IB (xs:=[V.int one,V.int oth])) (sL (by show 2<=100000;decide)) (λ_=>true) (λv=>v) (λD ys hD=>AL.of (by rw[AD (AH uS hD)];exact uS)) ?_ ?_ ?_⟩⟩
   ·intro D ys x R _ _ hR;exact hR
   ·intro D ys x R _ _ _ hR;exact⟨Z,hR⟩
   ·intro D hD;have e2:([V.int one,V.int oth].filter λ_=>true).map (λv=>v)=[V.int one,V.int oth]:=rfl;rw[e2];have d4:Drawn p H (upd (upd (upd H p o2) t (.tup [V.int one,V.int oth])) D (.lst [V.int one,V.int oth])):=(d2.new ht).new hD;refine⟨Z,Z,Y,.inr ⟨Z,_,Z,Y,Z,D,Z,SqL.of uS,λl hl=>?_⟩⟩;by_cases he:one=oth
    ·have e3:(!decide (V.int one=V.int oth))=false:=by rw[he];simp
     rw[e3];refine q l [one.toNat] _ (d4.new hl) ?_ ⟨λj hj=>by rw[Yj.mp hj];omega,G,G⟩;rw[uS];show some (HO.lst [V.int one])=some (HO.lst [V.int ((one.toNat:Nat):Int)]);rw[Gi NH]
    ·have e3:(!decide (V.int one=V.int oth))=true:=by
      rw[Jc (λz=>he (by injection z))];rfl
     rw[e3];refine q l [one.toNat,oth.toNat] _ (d4.new hl) ?_ ⟨λj hj=>?_,?_,G⟩
     ·rw[uS];show some (HO.lst [V.int one,V.int oth])=some (HO.lst [V.int ((one.toNat:Nat):Int),V.int ((oth.toNat:Nat):Int)]);rw[Gi NH,Gi kQ]
     ·rcases Yw.mp hj with e | e
      ·rw[e];omega
      ·rw[Yj.mp e];omega
     ·refine Ed.mpr ⟨λz=>he ?_,G⟩;have:=Yj.mp z;omega
  refine⟨Z,Y,Z,?_⟩;refine A9 (λ_=>?_) (λ_=>?_)
  ·-- diamonds
   have LF:=MQ (k:Int) (b:=2) (by decide);have Oe:=MZ (k:Int) (b:=2) (by decide);refine⟨Z,_,Z,Y,Z,_,Z,Y,(by show(0:Int)<2;decide),_,Z,Y,Z,_,Z,Y,Z,_,Z,Y,(by show(0:Int)<2;decide),_,Z,Y,U,λt ht=>⟨t,Y,⟨_,AL.of uS⟩,
    IC (IB (xs:=[V.int ((k:Int) - 2 - (k:Int) % 2),V.int ((k:Int) - 1 - (k:Int) % 2)])) (sL (by show 2<=100000;decide)) M4 (λv=>v) (λD ys hD=>AL.of (by rw[AD (AH uS hD)];exact uS)) ?_ ?_ ?_⟩⟩
   ·intro D ys x R _ hx hR;obtain⟨i,rfl⟩:∃ i,x=V.int i:=by
     rcases Yw.mp hx with e | e
     ·exact⟨_,e⟩
     ·exact⟨_,Yj.mp e⟩
    exact⟨Z,_,Z,Y,Z,hR⟩
   ·intro D ys x R _ _ _ hR;exact⟨Z,hR⟩
   ·intro D hD;have d4:=(d2.new (o:=.tup [V.int ((k:Int) - 2 - (k:Int) % 2),V.int ((k:Int) - 1 - (k:Int) % 2)]) ht).new (o:=.lst (([V.int ((k:Int) - 2 - (k:Int) % 2),V.int ((k:Int) - 1 - (k:Int) % 2)].filter M4).map λv=>v)) hD;by_cases h2:2<=(k:Int) - (k:Int) % 2
    ·refine q D [((k:Int) - 2 - (k:Int) % 2).toNat,((k:Int) - 1 - (k:Int) % 2).toNat] _ d4 ?_ ⟨λj hj=>?_,?_,G⟩
     ·rw[uS];have a1:M4 (V.int ((k:Int) - 2 - (k:Int) % 2))=true:=Jb (by omega);have a2:M4 (V.int ((k:Int) - 1 - (k:Int) % 2))=true:=Jb (by omega);rw[ED,a1,if_pos rfl,ED,a2,if_pos rfl];show some (HO.lst [V.int _,V.int _])=some (HO.lst [V.int ((Int.toNat _:Nat):Int),V.int ((Int.toNat _:Nat):Int)]);rw[Gi (by omega),Gi (by omega)]
     ·rcases Yw.mp hj with e | e
      ·rw[e];omega
      ·rw[Yj.mp e];omega
     ·refine Ed.mpr ⟨λz=>?_,G⟩;have:=Yj.mp z;omega
    ·refine q D [] _ d4 ?_ ⟨(λ_ h=>nomatch h),OL,BF _⟩;rw[uS];have a1:M4 (V.int ((k:Int) - 2 - (k:Int) % 2))=false:=Jc (by omega);have a2:M4 (V.int ((k:Int) - 1 - (k:Int) % 2))=false:=Jc (by omega);rw[ED,a1,if_neg Ym,ED,a2,if_neg Ym];rfl
  refine⟨Z,Y,Z,?_⟩;refine A9 (λ_=>?_) (λ_=>?_)
  ·refine⟨Z,_,Z,Y,J,λl hl=>q l [k - 1] _ (d2.new hl) ?_ ⟨λj hj=>?_,G,G⟩⟩
   ·rw[uS];show some (HO.lst [V.int ((k:Int) - 1)])=some (HO.lst [V.int ((k - 1:Nat):Int)]);have:((k - 1:Nat):Int)=(k:Int) - 1:=by omega
    rw[this]
   ·rw[Yj.mp hj];omega
  refine⟨Z,p,256,o2,Y,uS,CA,V,V,λbits o3 Rm Il Eh=>?_⟩;rw[Nh];have d3:Drawn p H (upd H p o3):=Drawn.upd Eh;refine⟨Z,(k:Int),Y,W,W,?_⟩;rw[show((k:Int)).toNat=k from rfl];refine Lo Es (sL (by rw[Ca];omega)) (Td bits) (λ_ x v _=>v=x) (λ_ _ _ _ _ _ h=>h) (λ_ _=>trivial) ?_ ?_ ?_
  ·intro x H2 R hs hx hR;obtain⟨i,hi⟩:=List.mem_iff_getElem?.mp hx;obtain⟨hik,rfl⟩:=Ds hi;refine⟨Z,_,Z,Y,Z,?_⟩;refine A9 (λh8=>?_) (λh8=>?_)
   ·have h8:(0:Int) + (i:Int)<8:=Je h8;obtain⟨e,he,kC,xr⟩:=vV (j:=(0:Int) + (i:Int)) (by omega) h8;refine⟨Z,sL (by show 8<=100000;decide),λt ht=>⟨Z,t,NS,_,Z,Y,AL.of uS,he,_,Z,Y,⟨kC,W⟩,_,Z,Y,(by show(0:Int)<2;decide),Y,Z,?_⟩⟩;have e1:Td bits (V.int (0 + (i:Int)))=decide (V.int (bits / e % 2)=V.int 1):=by
     show(decide ((0:Int) + (i:Int)<8)&&(match BS NS (0 + (i:Int))with | some (.int e)=>decide (bits / e % 2=1) | _=>false))=_;rw[he,Jb h8,Kd];show decide (bits / e % 2=1)=_;rw[decide_eq_decide];constructor
     ·intro z;rw[z]
     ·intro z;injection z
    have:=hR (upd H2 t (.tup NS)) λb o e=>by rw[AD (AH e ht)];exact e
    rw[e1]at this;exact this
   ·have h8:¬ ((0:Int) + (i:Int)<8):=λz=>h8 (Jb z);have e1:Td bits (V.int (0 + (i:Int)))=false:=by
     show(decide ((0:Int) + (i:Int)<8)&&_)=false;rw[Jc h8,OM]
    have:=hR H2 (AA.refl _);rw[e1]at this;exact this
  ·intro D x H2 R hs _ _ hx _ hR;exact⟨Z,hR x H2 (AA.refl _) rfl⟩
  ·intro D H2 ys hD hs hl hp;have e:=dM hp;subst e;obtain⟨js,e,hj,hnd⟩:=pP k (Td bits);refine q D js H2 (d3.same hs) (by rw[hl,e]) ⟨λj h=>(hj j h).1,hnd,?_⟩;have:=Graph.nodup_le (l:=js) (k:=List.range 8) hnd λj h=>by
    have h2:(decide ((j:Int)<8)&&_)=true:=(hj j h).2;have h3:=(Du _ _ ▸ h2:_/\_).1;have h4:(j:Int)<8:=Je h3;exact Bp.mpr (by omega)
   simpa using this
def Zr:Sp:=λvs H Q _=>∃(p:Addr) (m:Nat),vs=[.ref p,.int m]/\(∃ o,H p=some o/\DM o)/\1<=m/\m<=24 /\
 ∀ l (rows:RS) H',Drawn p H H'->H l=none->HF H' l rows->AR rows->rows.length<=m->Q (.ref l) H'
def Xi(ws:LS):V->V
 | .int j=>.str (ws.getD j.toNat "")
 | _=>.non
def mQ(ws:LS)(js:LN):(B3 js).map (Xi ws)=(js.map λi=>ws.getD i "").map V.str:=by
 unfold B3;rw[Bo,Bo];rfl
def ZQ{ws:LS}{j:Nat}(h:j<ws.length):BS (ws.map V.str) (j:Int)=some (.str (ws.getD j "")):=by
 have e:(ws.map V.str)[j]?=some (V.str (ws.getD j "")):=by
  rw[Yi,Yh,Yb h];rfl
 exact EB e
def p5(m:Nat):CW 0 m=B3 (List.range m):=by
 unfold CW B3;refine Ki λj _=>?_;rw[FL]
def SQ{α:Type}(l:List α):l.filter (λ_=>true)=l:=Et.mpr λ_ _=>rfl
def QT(ws:LS)(H:Hp)(js:LN)(v:V):Prop:=∃ t,v=.ref t/\H t=some (.tup ((js.map λi=>ws.getD i "").map V.str))
def QT.mono{ws:LS}{H H':Hp}{js:LN}{v:V}(h:QT ws H js v)(k:∀ b xs,H b=some (.tup xs)->H' b=some (.tup xs)):QT ws H' js v:=by
 obtain⟨t,e,h⟩:=h;exact⟨t,e,k _ _ h⟩
theorem cT{α β:Type}{F:α->β->Prop}:∀ {l:List α}{k:List β},Paired F l k->∀ {i:Nat}{a:α},l[i]?=some a->∃ b,k[i]?=some b/\F a b
 | _,_,.nil,i,a,h=>by simp at h
 | _,_,.cons r t,0,a,h=>by simp at h;subst h;exact⟨Z,r⟩
 | _,_,.cons r t,i + 1,a,h=>by
  obtain⟨b,h1,h2⟩:=cT t (i:=i) (a:=a) (by simpa using h);exact⟨b,by simpa using h1,h2⟩
def Va{H:Hp}{D b:Addr}{o u:HO}(hD:H D=none)(e:H b=some o):(upd H D u) b=some o:=by rw[AD (AH e hD)];exact e
theorem dJ{ws:LS}{uf:List (LN)}{D:Addr}{H:Hp}:∀ {os:LN}{ys:LV},
  Paired (λx v=>∃(j:Nat) (t u:Addr),x=V.int (j:Int)/\v=.ref t/\t≠D/\u≠D/\H t=some (.tup [.str (ws.getD j ""),.ref u])/\H u=some (.tup (((uf.getD j []).map λi=>ws.getD i "").map V.str))) (B3 os) ys->Paired (QB H) (Iw ws uf os) ys
 | [],_,h=>by cases h;exact .nil
 | j :: os,_,h=>by
  cases h with
  | cons r t =>
   obtain⟨i,a,u,e,rfl,_,_,h3,h4⟩:=r;have e':(j:Int)=(i:Int):=by injection e
   have ke:j=i:=by omega
   subst ke;exact .cons ⟨a,u,Y,h3,h4⟩ (dJ t)
structure qi(p lw lo lu:Addr)(ws:LS)(H H':Hp)(i:Nat)(os:LN)(uf:List (LN))(us:LV):Prop where
 d:Drawn p H H'
 w:H' lw=some (.lst (ws.map V.str))
 o:H' lo=some (.lst (B3 os))
 u:H' lu=some (.lst us)
 pu:Paired (QT ws H') uf us
 ul:uf.length=i
 uok:∀(k:Nat) (js:LN),uf[k]?=some js->gJ k js
 on:os.Nodup
 om:∀ j,j∈os↔j<i
 ol:os.length=i
def qo:(["j","words"]:LS).Nodup:=by rfl'
def sC:(["k","words","ups"]:LS).Nodup:=by rfl'
structure ee(mg:Str->OU):Prop where
 range:mg "range"=none
 int:mg "int"=none
 len:mg "len"=none
 tuple:mg "tuple"=none
 list:mg "list"=none
abbrev Wk:LS:=["pot","most","many","words","shape","order","ups","k"]
def iW:Ab Wk ["pot","most"] (AK N0):=by nofun
def lV(F:Def K mg "_law_rows" N0 ["pot","most"] f fd)(DT:Def K mg "_law_take" Gb ["pot","many"] fT fdT)(DU:Def K mg "_law_ups" L0 ["pot","k","shape"] fU fdU)
  (DWs:Def K mg "_law_words" S7 ["pot","many"] fWs fdWs) (DW:Def K mg "_law_word" Gd ["pot","words"] fW fdW) (DL:Def K mg "_law_letters" N8 ["number"] fL fdL) (T:ee mg):⋯ 4 f fd ["pot","most"] Zr:=by
 have GT:⋯ 1 fT fdT ["pot","many"] Iz:=PQ DT;have GU:⋯ 2 fU fdU ["pot","k","shape"] gi:=sr DU DT ⟨T.range,T.int⟩;have GW:⋯ 3 fWs fdWs ["pot","many"] Zw:=mX DWs DW DT DL T.len T.range
 nomatch F.fn.ok iW
 ·obtain⟨p,m,rfl,_⟩:=h;rfl
 ·obtain⟨p,most,rfl,⟨o0,Dx,E4⟩,Oe,xU,q⟩:=h;have nd:=iW.nd;have Ah:AU 1 _:=hr.mono (by decide);have DJ:AU 2 _:=hr.mono (by decide)
  ac_nf
  refine⟨_,pS (sE 2 nd (Ai ET AI (AN DT GT Ah (pC (pv 0) (pC (pv 1) AB)))))
   (pS (B1 (i:=3) nd rfl (Or.inr rfl) (AN DWs GW hr (pC (pv 0) (pC (pv 2) AB))))
   (pS (sE 4 nd (AN DT GT Ah (pC (pv 0) (pC AI AB))))
   (pS (sE 5 nd (B4 AB))
   (pS (B1 (i:=6) nd rfl (Or.inr rfl) (B4 AB))
   (pS (Bt Ys rfl (FF (by rfl) T.range (pC (pv 2) AB)) (gE 7 nd)
    (pS (B5 (C7 C1 IM IL GZ (pv 6) (pC (HM N_ (by rfl) T.tuple Kg (pC
     (BC ["j"] ["words"] [3] (λ_=>A4 (osc:=AK N0) (on:=Wk) (by rfl') rfl rfl rfl) (Be (AN DU GU DJ (pC (pv 0) (pC (pv 7) (pC (pv 4) AB))))) (λC s H fp=>Ay (i:=0) qo rfl (Or.inl rfl) (Or.inr rfl)) (λC s H fp=>B6)
      (λC s H fp=>AV (r:=BV K) Ar (pv 1) (pv 0) (λ_ _=>rfl))) AB)) AB)))
    (AG (B5 (C7 C1 Wt Ws Vt (pv 5) (pC (AN DT GT Ah (pC (pv 0) (pC (Ai ET (pv 7) AI) AB))) (pC (pv 7) AB)))))))
   (JB (Aj (Am D_ (AN DT GT Ah (pC (pv 0) (pC AI AB))) AI (Ak _)) (AG (sE 5 nd (Po rfl (pv 2) (by rfl) T.list (by rfl) T.range))) Al)
   (AG (AS (BC ["k"] ["words","ups"] [3,6] (λ_=>A4 (osc:=AK N0) (on:=Wk) (by rfl') rfl rfl rfl) (Be (pv 5)) (λC s H fp=>Ay (i:=0) sC rfl (Or.inl rfl) (Or.inr rfl)) (λC s H fp=>B6)
    (λC s H fp=>CP (pC (AV (r:=BV K) Ar (pv 1) (pv 0) (λ_ _=>rfl)) (pC (AV (r:=BV K) Ar (pv 2) (pv 0) (λ_ _=>rfl)) AB)))))))))))),?_⟩
  exists let b:=_;let c:=MJ (D0 _ b _) a;let e:=_;let f:=AE _ e;let g:=AE (Bz _ _ f) c;let h:=AE _ g;let i:=AE _ h;let j:=AE _ i;let k:=AE _ j;AE _ k _ _ _
  refine⟨Z,Z,p,most,o0,Y,Dx,E4,W,W,λv o1 CI CH FU=>⟨_,Z,Y,?_⟩⟩;have hv:(1:Int) + v=((1 + v.toNat:Nat):Int):=by omega
  have d1:Drawn p H (upd H p o1):=Drawn.upd FU;refine⟨Z,Z,p,1 + v.toNat,(by show[V.ref p,V.int (1 + v)]=[V.ref p,V.int ((1 + v.toNat:Nat):Int)];rw[<- hv]),d1.pot,W,λlw ws H2 d2 hlw hw ok hwl=>?_⟩;have xV:H lw=none:=by
   cases e:H lw with
   | none=>rfl
   | some o =>
    by_cases z:lw=p
    ·rw[z]at hlw;rw[uS]at hlw;cases hlw
    ·rw[d1.keep lw o z e]at hlw;cases hlw
  have kg:=d1.trans d2;obtain⟨o2,DK,CA⟩:=d2.pot;have pw:p≠lw:=Wj DK hw (by
   obtain⟨r,b,e,_⟩:=CA;rw[e];intro z;injection z with z;have z2:=congrArg (λl=>l[0]?) z;cases ws with
   | nil=>simp at z2
   | cons x r=>simp at z2)
  refine⟨Z,p,5,o2,Y,DK,CA,V,V,λsh o3 jy xk Eh=>?_⟩;have d3:Drawn p H (upd H2 p o3):=kg.trans (Drawn.upd Eh);refine⟨BF _,λlo hlo=>⟨BF _,λlu hlu=>?_⟩⟩;have d5:Drawn p H (upd (upd (upd H2 p o3) lo (.lst [])) lu (.lst [])):=(d3.new hlo).new hlu;have w5:(upd (upd (upd H2 p o3) lo (.lst [])) lu (.lst [])) lw=some (.lst (ws.map V.str)):=by
   have a1:(upd H2 p o3) lw=some (.lst (ws.map V.str)):=by rw[AD (Yr pw)];exact hw
   have a2:(upd (upd H2 p o3) lo (.lst [])) lw=some (.lst (ws.map V.str)):=by rw[AD (AH a1 hlo)];exact a1
   rw[AD (AH a2 hlu)];exact a2
  have o5:(upd (upd (upd H2 p o3) lo (.lst [])) lu (.lst [])) lo=some (.lst (B3 [])):=by
   rw[AD (AH uS hlu)];exact uS
  have plo:p≠lo:=AH (show(upd H2 p o3) p=some o3 from uS) hlo;have plu:p≠lu:=AH (show(upd (upd H2 p o3) lo (.lst [])) p=some o3 by rw[AD plo];exact uS) hlu;have lou:lo≠lu:=AH uS hlu;have lwo:lw≠lo:=λz=>by
   have a1:(upd H2 p o3) lw=some (.lst (ws.map V.str)):=by rw[AD (Yr pw)];exact hw
   rw[z,hlo]at a1;cases a1
  have lwu:lw≠lu:=λz=>by
   have a1:(upd H2 p o3) lw=some (.lst (ws.map V.str)):=by rw[AD (Yr pw)];exact hw
   have a2:(upd (upd H2 p o3) lo (.lst [])) lw=some (.lst (ws.map V.str)):=by rw[AD lwo];exact a1
   rw[z,hlu]at a2;cases a2
  have hloH:H lo=none:=by
   cases e:H lo with
   | none=>rfl
   | some o=>rw[d3.keep lo o (Yr plo) e]at hlo;cases hlo
  have hluH:H lu=none:=by
   cases e:H lu with
   | none=>rfl
   | some o=>rw[(d3.new (o:=.lst []) hlo).keep lu o (Yr plu) e]at hlu;cases hlu
  refine⟨Z,(1:Int) + v,Y,W,W,?_⟩;have hmn:((1:Int) + v).toNat=ws.length:=by omega
  rw[hmn];let BG:NW:=λi σ H'=>∃(os:LN) (uf:List (LN)) (us:LV) (kv:OV),σ=[some (.ref p),some (.int most),some (.int (1 + v)),some (.ref lw),some (.int sh),some (.ref lo),some (.ref lu),kv]/\qi p lw lo lu ws H H' i os uf us;refine B8 Es BG
   ⟨[],[],[],none,Y,d5,w5,o5,uS,.nil,Y,λk js h=>by simp at h,OL,λj=>by simp,Y⟩ (λ_ _ _ _ _=>trivial) ?_ ?_
  ·rintro i x σ H' hi ⟨os,uf,us,kv,rfl,g⟩;obtain⟨hi,rfl⟩:=Ds hi;have hul:us.length=i:=by rw[<- g.pu.length];exact g.ul
   refine⟨Z,.inl ⟨Y,_,SqL.of g.u⟩,Z,Z,Z,p,i,sh.toNat,by rw[FL,Gi jy];rfl,g.d.pot,W,λl js H6 d6 hl uok=>⟨l,Y,⟨_,SqL.of hl⟩,?_⟩⟩;have w6:H6 lw=some (.lst (ws.map V.str)):=d6.keep _ _ (Yr pw) g.w;refine IC (Bk (xs:=B3 js)) (sL (by unfold B3;rw[Ya];have:=uok.few;omega)) (λ_=>true) (Xi ws) (λD ys hD=>SqL.of (by rw[AD (AH hl hD)];exact hl)) ?_ ?_ ?_
   ·intro D ys y R _ _ hR;exact hR
   ·intro D ys y R hD hy _ hR;obtain⟨j,hj,rfl⟩:=Yg.mp hy;have hjl:j<ws.length:=by have:=uok.below j hj;omega
    exact⟨Z,Z,lw,_,_,Z,Y,SqL.of (by rw[AD (AH w6 hD)];exact w6),ZQ hjl,hR⟩
   ·intro D hD;rw[SQ,mQ];refine⟨D,Z,.inl ⟨SqL.of uS,λt ht=>?_⟩⟩;have keepDt:∀ b o,H6 b=some o->(upd (upd H6 D (.lst ((js.map λi=>ws.getD i "").map V.str))) t (.tup ((js.map λi=>ws.getD i "").map V.str))) b=some o:=λb o e=>by
     have e1:(upd H6 D (.lst ((js.map λi=>ws.getD i "").map V.str))) b=some o:=by rw[AD (AH e hD)];exact e
     rw[AD (AH e1 ht)];exact e1
    have u6:H6 lu=some (.lst us):=d6.keep _ _ (Yr plu) g.u;have o6:H6 lo=some (.lst (B3 os)):=d6.keep _ _ (Yr plo) g.o;refine⟨lu,us,Z,Y,keepDt _ _ u6,CZ (by omega),?_⟩;obtain⟨o7,YR,Hh⟩:=d6.pot;refine⟨Z,.inl ⟨Y,_,SqL.of (by rw[AD lou];exact keepDt _ _ o6)⟩,Z,Z,_,Z,Y,p,_,o7,Y,(by rw[AD plu];exact keepDt _ _ YR),Hh,W,W,λat_ o8 Rn YY Js=>?_⟩;refine⟨Z,lo,B3 os,at_,Z,Y,(by rw[AD (Yr plo),AD lou];exact keepDt _ _ o6),Rn,(by unfold B3;rw[Ya,g.ol];omega),CZ (by unfold B3;rw[Ya,g.ol];omega),?_⟩;have tlu:t≠lu:=λz=>by rw[z]at ht;rw[Va hD u6]at ht;cases ht
    have tlo:t≠lo:=λz=>by rw[z]at ht;rw[Va hD o6]at ht;cases ht
    have tp:t≠p:=λz=>by rw[z]at ht;rw[Va hD YR]at ht;cases ht
    have all:∀ b o,b≠p->b≠lu->b≠lo->H6 b=some o->(upd (upd (upd (upd (upd H6 D (.lst ((js.map λi=>ws.getD i "").map V.str))) t (.tup ((js.map λi=>ws.getD i "").map V.str))) lu (.lst (us++[.ref t]))) p o8) lo (.lst ((B3 os).take at_.toNat++V.int (0 + (i:Int)):: (B3 os).drop at_.toNat))) b=some o:=λb o h1 h2 h3 e=>by
     rw[AD h3,AD h1,AD h2];exact keepDt _ _ e
    have tt:(upd (upd (upd (upd (upd H6 D (.lst ((js.map λi=>ws.getD i "").map V.str))) t (.tup ((js.map λi=>ws.getD i "").map V.str))) lu (.lst (us++[.ref t]))) p o8) lo (.lst ((B3 os).take at_.toNat++V.int (0 + (i:Int)):: (B3 os).drop at_.toNat))) t=some (.tup ((js.map λi=>ws.getD i "").map V.str)):=by
     rw[AD tlo,AD tp,AD tlu];exact uS
    have tups:∀ b xs,H' b=some (.tup xs)->(upd (upd (upd (upd (upd H6 D (.lst ((js.map λi=>ws.getD i "").map V.str))) t (.tup ((js.map λi=>ws.getD i "").map V.str))) lu (.lst (us++[.ref t]))) p o8) lo (.lst ((B3 os).take at_.toNat++V.int (0 + (i:Int)):: (B3 os).drop at_.toNat))) b=some (.tup xs):=λb xs e=>by
     obtain⟨oP,hP,r,b',eP,_⟩:=g.d.pot;have bp:b≠p:=λz=>by rw[z,hP,eP]at e;cases e
     have bu:b≠lu:=λz=>by rw[z,g.u]at e;cases e
     have bo:b≠lo:=λz=>by rw[z,g.o]at e;cases e
     exact all b _ bp bu bo (d6.keep b _ bp e)
    refine⟨os.take at_.toNat++i :: os.drop at_.toNat,uf++[js],us++[.ref t],Z,?_⟩;refine⟨⟨λb o hb e=>?_,?_⟩,?_,?_,?_,?_,by rw[Yt,g.ul];rfl,?_,?_,?_,?_⟩
    ·have e6:=(g.d.trans d6).keep b o hb e;exact all b o hb (λz=>by rw[z,hluH]at e;cases e) (λz=>by rw[z,hloH]at e;cases e) e6
    ·exact⟨o8,by rw[AD plo];exact uS,Js⟩
    ·exact all lw _ (Yr pw) lwu lwo w6
    ·rw[uS];unfold B3;rw[CD,Yo,List.map_take,List.map_drop,FL]
    ·rw[AD (Yr lou),AD (Yr plu)];exact uS
    ·exact Fn (Paired.mapP g.pu λa b z=>z.mono tups) ⟨t,Y,tt⟩
    ·intro k YL hk;by_cases hki:k<uf.length
     ·rw[MN hki]at hk;exact g.uok k YL hk
     ·rw[JP (by omega)]at hk;have Cc:k - uf.length=0:=by
       have:=(Ye.mp hk).1;simp at this;omega
      rw[Cc]at hk;have e:js=YL:=by simpa using hk
      have e2:k=i:=by have:=g.ul;omega
      rw[<- e,e2];exact uok
    ·have hperm:(os.take at_.toNat++i :: os.drop at_.toNat).Perm (i :: os):=by
      refine QM.trans ?_;rw[JM]
     exact hperm.nodup_iff.mpr (Ed.mpr ⟨λz=>by have:=(g.om i).mp z;omega,g.on⟩)
    ·intro j;have hperm:(os.take at_.toNat++i :: os.drop at_.toNat).Perm (i :: os):=by
      refine QM.trans ?_;rw[JM]
     rw[hperm.mem_iff,Yw,g.om];omega
    ·have hperm:(os.take at_.toNat++i :: os.drop at_.toNat).Perm (i :: os):=by
      refine QM.trans ?_;rw[JM]
     rw[hperm.length_eq,Bv,g.ol]
  ·rintro σ H' ⟨os,uf,us,kv,rfl,g⟩;rw[Ca]at g;let Cg:SW:=λσ' H2=>∃(RZ:Addr) (IT:LN) (kv:OV),σ'=[some (.ref p),some (.int most),some (.int (1 + v)),some (.ref lw),some (.int sh),some (.ref RZ),some (.ref lu),kv]/\Drawn p H H2/\H2 lw=some (.lst (ws.map V.str))/\H2 RZ=some (.lst (B3 IT))/\H2 lu=some (.lst us)/\Paired (QT ws H2) uf us/\IT.Nodup/\(∀ j,j∈IT↔j<ws.length)/\IT.length=ws.length;refine⟨Cg,?_,?_⟩
   ·obtain⟨oP,hP,hoP⟩:=g.d.pot;refine⟨Z,p,3,oP,Y,hP,hoP,V,V,λv3 o9 _ _ Uj=>⟨Y,Z,?_⟩⟩;have d9:Drawn p H (upd H' p o9):=g.d.trans (Drawn.upd Uj);have t9:∀ b xs,H' b=some (.tup xs)->(upd H' p o9) b=some (.tup xs):=λb xs e=>by
     obtain⟨r,b',eP,_⟩:=hoP;rw[AD (λz=>by rw[z,hP,eP]at e;cases e)];exact e
    refine A9 (λ_=>?_) (λ_=>?_)
    ·refine⟨Z,(1:Int) + v,Y,W,W,λl hl=>?_⟩;rw[hmn,p5];have nn:∀ {b:Addr} {o:HO},(upd H' p o9) b=some o->(upd (upd H' p o9) l (.lst (B3 (List.range ws.length)))) b=some o:=λ{b o} e=>by rw[AD (AH e hl)];exact e
     exact⟨l,List.range ws.length,Z,d9.new hl,nn (by rw[AD (Yr pw)];exact g.w),uS,nn (by rw[AD (Yr plu)];exact g.u),Paired.mapP g.pu λa b z=>(z.mono t9).mono λb xs e=>nn e,List.nodup_range,λj=>Bp,G⟩
    ·exact⟨lo,os,Z,d9,by rw[AD (Yr pw)];exact g.w,by rw[AD (Yr plo)];exact g.o,by rw[AD (Yr plu)];exact g.u,Paired.mapP g.pu λa b z=>z.mono t9,g.on,g.om,g.ol⟩
   ·rintro σ' H2 ⟨RZ,IT,xh,rfl,dE,wE,oE,uE,pE,on,om,ol⟩;refine⟨Z,RZ,Y,⟨_,SqL.of oE⟩,?_⟩;refine Lo (Bk (xs:=B3 IT)) (sL (by unfold B3;rw[Ya];omega)) (λ_=>true)
     (λD x v H=>∃(j:Nat) (t u:Addr),x=.int (j:Int)/\v=.ref t/\t≠D/\u≠D/\H t=some (.tup [.str (ws.getD j ""),.ref u])/\H u=some (.tup (((uf.getD j []).map λi=>ws.getD i "").map V.str))) ?_ ?_ ?_ ?_ ?_
    ·rintro D x v H BH hk ⟨j,t,u,e1,e2,h1,h2,h3,h4⟩;exact⟨j,t,u,e1,e2,h1,h2,hk _ _ h1 h3,hk _ _ h2 h4⟩
    ·intro H3 hs;exact hs.seq (SqL.of oE)
    ·intro x H3 R hs hx hR;exact hR H3 (AA.refl _)
    ·intro D x H3 R hs ⟨ys,hD⟩ Rp hx _ hR;obtain⟨j,hj,rfl⟩:=Yg.mp hx;have hjl:j<ws.length:=(om j).mp hj;have huj:uf[j]?=some (uf.getD j []):=by
      have:j<uf.length:=by rw[g.ul];exact hjl
      rw[Yh,Yb this];rfl
     obtain⟨uv,jx,t,rfl,jw⟩:=cT pE huj;have Rg:=hs _ _ jw;refine⟨Z,Z,lw,_,_,Z,Y,SqL.of (hs _ _ wE),ZQ hjl,Z,Z,lu,_,_,Z,Y,SqL.of (hs _ _ uE),EB jx,U,λtn htn=>?_⟩;have tD:tn≠D:=λz=>by rw[z,hD]at htn;cases htn
     have uD:t≠D:=λz=>by rw[z,hD]at Rg;cases Rg
     exact hR _ _ (λb o e=>by rw[AD (AH e htn)];exact e) ⟨j,tn,t,Y,Y,tD,uD,uS,by rw[AD (AH Rg htn)];exact Rg⟩
    ·intro D H3 ys hD hs hl hp;rw[SQ]at hp;have hDH:H D=none:=by
      cases e:H D with
      | none=>rfl
      | some o =>
       by_cases z:D=p
       ·obtain⟨oP,hP,_⟩:=dE.pot;rw[z,hP]at hD;cases hD
       ·rw[dE.keep D o z e]at hD;cases hD
     refine q D (Iw ws uf IT) H3 (dE.same hs) hDH ⟨ys,hl,?_⟩ (uK (m:=ws.length) (by omega) (by omega) ok.word ok.nd rfl (λk js h=>⟨(g.uok k js h).below,(g.uok k js h).nd,(g.uok k js h).few⟩) g.ul on om ol) (by unfold Iw;rw[Ya];omega);exact dJ hp
def aY:Sp:=λvs H Q _=>∃ x:Str,vs=[.str x]/\x.length<=1000/\∀ H',AA H H'->Q (.bl (Bj x)) H'
def dD(K:Fg):Sp:=λvs H Q _=>∃(l:Addr) (rows:RS),vs=[.ref l]/\Wc K H l rows/\AR rows/\∀ H',AA H H'->Q .non H'
structure Hu(H:Hp)(d:Addr)(o:Obj)(rows:RS)(kvs:KL):Prop where
 at_:H d=some (.frz o (.dK kvs))
 ups:Dm H rows kvs
theorem Hu.mono{H H':Hp}{d:Addr}{o:Obj}{rows:RS}{kvs:KL}(b:Hu H d o rows kvs)(s:AA H H'):Hu H' d o rows kvs:=⟨s _ _ b.at_,b.ups.mono λ_ _ e=>s _ _ e⟩
def cw:Sp:=λvs H Q _=>∃(d:Addr) (o:Obj) (rows:RS) (kvs:KL),vs=[.ref d]/\Hu H d o rows kvs/\AR rows/\∀ H',AA H H'->Q .non H'
def J2(us left:LS):V:=match us.find? (λx=>decide (x∈left))with | some x=>.str x | none=>.non
def Z5(K:Fg):Sp:=λvs H Q _=>∃(a b:Addr) (us left:LS),vs=[.ref a,.ref b]/\AL K H a (us.map V.str)/\SqL K H b (left.map V.str)/\Q (J2 us left) H
def bb:Sp:=λvs H Q _=>∃(d:Addr) (o:Obj) (rows:RS) (kvs:KL),vs=[.ref d]/\Hu H d o rows kvs/\AR rows/\∀ l H',AA H H'->H' l=some (.lst [])->Q (.ref l) H'
def iJ:Sp:=λvs H Q _=>∃(d:Addr) (o:Obj) (rows:RS) (kvs:KL),vs=[.ref d]/\Hu H d o rows kvs/\AR rows/\∀ H',AA H H'->Q .non H'
structure OC(mg:Str->OU):Prop where
 letters:∃ t,mg "LETTERS"=some (.str letters t)
 most:∃ t,mg "MOST_LETTERS"=some (.int 8 t)
 kinds:∃ t,mg "MOST_KINDS"=some (.int 24 t)
 ups:∃ t,mg "MOST_UPS"=some (.int 8 t)
 len:mg "len"=none
 all:mg "all"=none
 list:mg "list"=none
 tuple:mg "tuple"=none
def jB:Ab ["text"] ["text"] (AK Nr):=by nofun
def uT:(["sign"]:LS).Nodup:=by rfl'
def n8(F:Def K mg "is_word" Nr ["text"] f fd)(T:OC mg):⋯ 1 f fd ["text"] aY:=by
 nomatch F.fn.ok jB
 ·obtain⟨x,rfl,_⟩:=h;rfl
 ·obtain⟨x,rfl,hx,k⟩:=h;obtain⟨t1,hl⟩:=T.letters;obtain⟨t2,hm⟩:=T.most
  ac_nf
  refine⟨_,pS (Aj (CV (Vg LR LR AI (Af HL (by rfl) T.len Yz (pC (pv 0) AB)) (Ll (v:=.int 8) (by rfl) hm ⟨Z⟩))) (AG (AS CU)) Al)
   (AG (AS (Af (J_ rfl) (by rfl) T.all Ko (pC
    (BC ["sign"] [] [] (λ_=>A4 (osc:=AK Nr) (on:=["text"]) (by rfl') rfl rfl rfl) (tW (pv 0)) (λC s H fp=>Ay (i:=0) uT rfl (Or.inl rfl) (Or.inr rfl)) (λC s H fp=>B6)
     (λC s H fp=>Hz oC (pv 0) (Ll (v:=.str letters) (by rfl) hl ⟨Z⟩) (by with_unfolding_all rfl))) AB)))),?_⟩
  exists AE _ a _ _ _
  refine⟨Z,_,Z,⟨sL (by omega),Y⟩,_,Z,Y,Z,?_⟩;have no:¬ (1<=x.length/\x.length<=8)->Bj x=false:=λh=>by unfold Bj;rw[Jc h];rfl
  have same:AA H H:=AA.refl H;refine A9 (λh1=>?_) (λh1=>?_)
  ·have h1:(1:Int)<=(x.length:Int):=Je h1;refine⟨_,Z,Y,Z,?_⟩;refine A9 (λh2=>?_) (λh2=>?_)
   ·have h2:¬ ((x.length:Int)<=8):=by simpa using h2
    have q:=k H same;rw[no (by omega)]at q;exact q
   ·have h2:((x.length:Int)<=8):=by simpa using h2
    refine⟨Z,Z,IC mH (by unfold Iy;rw[Ya,H_];exact sL (by omega)) (λ_=>true) Wf (λ_ _ _=>trivial) ?_ ?_ ?_⟩
    ·intro D ys v R _ _ hR;exact hR
    ·intro D ys v R _ hv _ hR;obtain⟨c,_,e⟩:=Yg.mp hv;subst e;exact⟨Z,_,Z,Y,hR⟩
    ·intro D hD;refine⟨D,x.cps.toList.map Ir,Y,SqL.of (by rw[<- oV];exact uS),?_⟩;have e:(x.cps.toList.map Ir).all id=Bj x:=by
      unfold Bj;rw[Jb (by omega),Kd,List.all_map];rfl
     have q:=k (upd H D (.lst (((Iy x).filter λ_=>true).map Wf))) λb o hb=>by rw[AD (AH hb hD)];exact hb
     rw[<- e]at q;exact q
  ·have h1:¬ ((1:Int)<=(x.length:Int)):=λz=>h1 (Jb z);refine⟨Z,?_⟩;refine By ?_;have q:=k H same;rw[no (by omega)]at q;exact q
def VI{b:Bool}{H:Hp}{a:Addr}{xs:LV}(h:EF K b H a xs):eT K (.ref a) H xs.length:=by
 cases b with
 | true=>exact .inl ⟨xs,h,Y⟩
 | false=>exact .inr ⟨xs,h,Y⟩
def eK:Ab ["rows","seen","word","ups"] ["rows"] (AK S8):=by nofun
def qb(F:Def K mg "check_rows" S8 ["rows"] f fd)(DW:Def K mg "is_word" Nr ["text"] fW fdW)(T:OC mg):⋯ 2 f fd ["rows"] (dD K):=by
 have GW:⋯ 1 fW fdW ["text"] aY:=n8 DW T
 nomatch F.fn.ok eK
 ·obtain⟨l,rows,rfl,_⟩:=h;rfl
 ·obtain⟨l,rows,rfl,⟨b,vs,hl,hp⟩,g,q⟩:=h;obtain⟨t1,hK⟩:=T.kinds;obtain⟨t2,hU⟩:=T.ups;have nd:=eK.nd;have hu:=ER hr
  ac_nf
  refine⟨_,pS (Aj (CV (Vg LR LR AI (Af HL (by rfl) T.len Yz (pC (pv 0) AB)) (Ll (v:=.int 24) (by rfl) hK ⟨Z⟩))) EC Al)
   (pS (sE 1 nd Nl)
   (AG (Bt Ys rfl (iS (pv 0)) (Iv rfl (gC (gE 2 nd) (gC (gE 3 nd) I_)))
    (pS (Aj (CV (B7 (AN DW GW hr (pC (pv 2) AB)))) EC Al)
    (pS (Aj (Hy (Lf hu (pv 2) (pv 1))) EC Al)
    (pS (Aj (Am NU (Af HL (by rfl) T.len Yz (pC (pv 3) AB)) (Ll (v:=.int 8) (by rfl) hU ⟨Z⟩) (Ak _)) EC Al)
    (AG (JA hu (pv 1) (pv 2) CU rfl)))))))),?_⟩
  exists let b:=AE _ a;let c:=AE _ b;let e:=AE _ c;let f:=Bz _ _ e;let g:=AE _ f;AE _ g _ _ _
  have hvl:=hp.length;have g1:=g.ne;have g2:=g.le;refine⟨Z,_,Z,VI hl,_,Z,Y,Z,?_⟩;rw[show decide ((1:Int)<=(vs.length:Int))=true from Jb (by omega)];refine By ⟨_,Z,Y,Z,?_⟩;rw[show(decide ((vs.length:Int)<=24))=true from Jb (by omega)];refine Ao ?_;intro d hd;have s0:AA H (upd H d (.dK [])):=λb o e=>by rw[AD (AH e hd)];exact e
  let BG:NW:=λi σ H'=>∃(kvs:KL) (a c:OV),σ=[some (.ref l),some (.ref d),a,c]/\AA H H'/\H' d=some (.dK kvs)/\kvs.map (·.1)=(rows.take i).map λr=>(Sum.inr r.1:Key);refine⟨Z,b,l,vs,Y,hl.mono s0,B8 aU BG
   ⟨[],none,none,Y,s0,uS,G⟩ (λi σ H' _ h0=>by obtain⟨_,_,_,_,s,_⟩:=h0;exact hl.mono s) ?_ ?_⟩
  ·rintro i v σ H' hi ⟨kvs,a,c,rfl,s,hdk,hk⟩;obtain⟨r,An,t,u,rfl,ht,hug⟩:=C0 hp hi;obtain⟨b',BJ⟩:=hug.sq;have Bw:r∈rows:=Yc An;have hw:=g.word r Bw;have hwl:=Sg hw;refine⟨t,Z,s.tup ht,Y,_,Z,_,Z,Y,?_⟩;refine⟨Z,r.1,Y,W,λH2 s2=>⟨Z,?_⟩⟩;rw[hw];refine Ao ?_;have hd2:H2 d=some (.dK kvs):=s2 _ _ hdk;refine⟨Z,Z,d,Z,BM.k (k:=Sum.inr r.1) hd2,Z,?_⟩;have BI:(Sum.inr r.1:Key)∉kvs.map (·.1):=by rw[hk];exact Pe g.nd An
   rw[HN BI];refine Ao ?_;refine⟨Z,_,Z,VI (BJ.mono (s.trans s2)),_,Z,Y,Z,?_⟩;rw[show decide ((8:Int)<((r.2.map V.str).length:Int))=false from Jc (by rw[Ya];have:=g.few r Bw;omega)];refine Ao ?_;have hkl:kvs.length=(rows.take i).length:=by have:=congrArg List.length hk;simpa using this
   have hil:(rows.take i).length<=24:=by rw[Yx];omega
   refine⟨Z,Z,d,Z,EK.k (k:=Sum.inr r.1) hd2 (CZ (by omega)),?_⟩;refine⟨_,_,Z,λb o e=>?_,uS,?_⟩
   ·rw[AD (AH e hd)];exact s2 _ _ (s _ _ e)
   ·rw[Vu BI,hk,B9,An,CD];rfl
  ·rintro σ H' ⟨kvs,a,c,rfl,s,hdk,hk⟩;exact q H' s
def eL:Ab ["ups_of","ups","seen","up"] ["ups_of"] (AK S0):=by nofun
def J9{us:LS}{i:Nat}{v:V}(h:(us.map V.str)[i]?=some v):∃ x,us[i]?=some x/\v=.str x:=by
 rw[Yi]at h;obtain⟨x,hx,e⟩:=IJ.mp h;exact⟨x,hx,e.symm⟩
def oI{us:LS}{i:Nat}{x:Str}(nd:us.Nodup)(h:us[i]?=some x):(Sum.inr x:Key)∉(us.take i).map λy=>(Sum.inr y:Key):=by
 intro m;obtain⟨y,hy,e⟩:=Yg.mp m;have e:y=x:=by injection e
 subst e;obtain⟨j,hj,ej⟩:=Kk.mp hy;rw[Yx]at hj;rw[OG]at ej;have a:us[j]?=some y:=by rw[Yb (by omega),ej]
 have:=Nk nd a h;omega
def qS(F:Def K mg "check_ups" S0 ["ups_of"] f fd):⋯ 1 f fd ["ups_of"] cw:=by
 nomatch F.fn.ok eL
 ·obtain⟨d,o,rows,kvs,rfl,_⟩:=h;rfl
 ·obtain⟨d,o,rows,kvs,rfl,bk,g,q⟩:=h;have nd:=eL.nd;have hu:=ER hr
  ac_nf
  refine⟨_,AG (Bt Ys rfl (u3 (pv 0)) (gE 1 nd)
    (pS (sE 2 nd Nl)
    (AG (Bt Ys rfl (HJ (pv 1)) (gE 3 nd)
     (pS (Aj (Hy (V1 hu (pv 3) (pv 0))) EC Al)
     (pS (Aj (Hy (Lf hu (pv 3) (pv 2))) EC Al)
     (AG (JA hu (pv 2) (pv 3) CU rfl)))))))),?_⟩
  exists let b:=AE _ a;let c:=AE _ b;let e:=Bz _ _ c;let f:=AE _ e;Bz _ _ f _ _ _
  let Fq:NW:=λi σ H'=>∃(a b c:OV),σ=[some (.ref d),a,b,c]/\AA H H';refine⟨Z,d,o,kvs,Y,bk.at_,B8 n5 Fq ⟨none,none,none,Y,AA.refl H⟩ (λi σ H' _ h0=>by obtain⟨_,_,_,_,s⟩:=h0;exact s _ _ bk.at_) ?_ ?_⟩
  ·rintro i v σ H' hi ⟨a,b,c,rfl,s⟩;rw[Yi]at hi;obtain⟨p,hp,e⟩:=IJ.mp hi;obtain⟨r,An,hk,t,ht,htup⟩:=C0 bk.ups hp;have Bw:r∈rows:=Yc An;subst e;show Dp 1 p.2 _ _ _;rw[ht];intro sd hsd;have s1:AA H (upd H' sd (.dK [])):=λb o e=>by rw[AD (AH (s _ _ e) hsd)];exact s _ _ e
   have t1:(upd H' sd (.dK [])) t=some (.tup (r.2.map V.str)):=s1 _ _ htup;let xJ:NW:=λj σ H2=>∃(BY:KL) (c:OV),σ=[some (.ref d),some (.ref t),some (.ref sd),c]/\AA H H2/\H2 sd=some (.dK BY)/\BY.map (·.1)=(r.2.take j).map λy=>(Sum.inr y:Key);refine⟨Z,t,Y,⟨_,AL.of t1⟩,B8 (IB (xs:=r.2.map V.str)) xJ
    ⟨[],Z,s1,uS,G⟩ (λj σ H2 _ h0=>by obtain⟨_,_,_,s,_⟩:=h0;exact AL.of (s _ _ htup)) ?_ ?_⟩
   ·rintro j v σ H2 hj ⟨BY,c,rfl,s2,Mj,Cd⟩;obtain⟨x,hx,rfl⟩:=J9 hj;have xm:x∈r.2:=Yc hx;have known:=g.known r Bw x xm;refine⟨Z,Z,d,Z,BM.f (k:=Sum.inr x) (s2 _ _ bk.at_),Z,?_⟩;obtain⟨r2,DJ,NJ⟩:=Yg.mp known;obtain⟨t2,LB,_⟩:=bk.ups.val g.nd DJ;rw[<- NJ,LB,NJ];refine Ao ?_;have BI:(Sum.inr x:Key)∉BY.map (·.1):=by rw[Cd];exact oI (g.upnd r Bw) hx
    refine⟨Z,Z,sd,Z,BM.k (k:=Sum.inr x) Mj,Z,?_⟩;rw[HN BI];refine Ao ?_;have hkl:BY.length=(r.2.take j).length:=by have:=congrArg List.length Cd;simpa using this
    have hjl:(r.2.take j).length<=8:=by rw[Yx];have:=g.few r Bw;omega
    have hsH:H sd=none:=s.free hsd;refine⟨Z,Z,sd,Z,EK.k (k:=Sum.inr x) Mj (CZ (by omega)),_,Z,λb o e=>?_,uS,?_⟩
    ·rw[AD (AH e hsH)];exact s2 _ _ e
    ·rw[Vu BI,Cd,B9,hx,CD];rfl
   ·rintro σ H2 ⟨BY,c,rfl,s2,Mj,Cd⟩;exact⟨_,_,Z,s2⟩
  ·rintro σ H' ⟨a,b,c,rfl,s⟩;exact q H' s
def eQ:Ab ["words","others","word"] ["words","others"] (AK OB):=by nofun
def lQ(F:Def K mg "first_among" OB ["words","others"] f fd):⋯ 1 f fd ["words","others"] (Z5 K):=by
 nomatch F.fn.ok eQ
 ·obtain⟨a,b,us,left,rfl,_⟩:=h;rfl
 ·obtain⟨a,b,us,left,rfl,ha,hb,q⟩:=h;have nd:=eQ.nd
  ac_nf
  refine⟨_,pS (Bt Ys rfl (HJ (pv 0)) (gE 2 nd) (AG (Aj (Am Nw (pv 2) (pv 1) (by with_unfolding_all rfl)) (AG (AS (pv 2))) Al)))
   (AG (AS Na)),?_⟩
  exists let b:=_;AE (Bz _ _ b) a _ _ _
  let xI:NW:=λi σ H'=>H'=H/\(∃ c:OV,σ=[some (.ref a),some (.ref b),c])/\(us.take i).find? (λx=>decide (x∈left))=none;refine⟨Z,a,Y,⟨_,ha⟩,B8 (IB (xs:=us.map V.str)) xI ⟨Y,⟨none,Y⟩,G⟩ (λi σ H' _ ⟨e,_⟩=>by rw[e];exact ha) ?_ ?_⟩
  ·rintro i v σ H' hi ⟨rfl,⟨c,rfl⟩,hf⟩;obtain⟨x,hx,rfl⟩:=J9 hi;refine⟨Z,Z,b,Z,.inl hb,Y,Lu left,Z,?_⟩;show if EJ (.str x) (left.map V.str)=true then _ else _
   rw[J7];have split:us=us.take i++x :: us.drop (i + 1):=by
    have AZ:=(Ye.mp hx).1;have e:us[i]=x:=(Ye.mp hx).2;rw[<- e,List.getElem_cons_drop AZ,JM]
   refine A9 (λh=>?_) (λh=>?_)
   ·have fv:J2 us left=.str x:=by
     unfold J2;rw[split,List.find?_append,hf,MV];simp only[h];rfl
    rw[fv]at q;exact⟨Z,q⟩
   ·refine⟨Y,⟨Z⟩,?_⟩;rw[B9,hx,List.find?_append,hf];have h':decide (x∈left)=false:=by simpa using h
    simp[h']
  ·rintro σ H' ⟨rfl,⟨c,rfl⟩,hf⟩;rw[Ya,De]at hf;have fv:J2 us left=.non:=by unfold J2;rw[hf]
   rw[fv]at q;exact q
def Wg(rows:RS)(ls:LS):V->Bool
 | .str x=>(Ag rows x).any λu=>decide (u∈ls)
 | _=>false
def k4(rows:RS)(ls:LS):((ls.map V.str).filter (Wg rows ls)).map (λv=>v)=(Graph.kept (Ag rows) ls).map V.str:=by
 rw[Gh,II];rfl
def lh(us ls:LS):(!decide (J2 us ls=V.non))=us.any λu=>decide (u∈ls):=by
 unfold J2;cases e:us.find? λx=>decide (x∈ls)with
 | none =>
  have:∀ x∈us,¬ decide (x∈ls)=true:=List.find?_eq_none.mp e;rw[HP];constructor
  ·intro h;simp at h
  ·intro h;obtain⟨x,hx,h1⟩:=FK.mp h;exact absurd h1 (this x hx)
 | some x =>
  have h1:=List.find?_some e;have h2:=List.mem_of_find?_eq_some e;rw[HP];constructor
  ·intro _;exact FK.mpr ⟨x,h2,h1⟩
  ·intro _;rfl
abbrev dz:LS:=["ups_of","left","kept"]
def Xu:Ab dz ["ups_of"] (AK Nq):=by nofun
def sX:(["word","ups_of","left"]:LS).Nodup:=by rfl'
def Er{rows:RS}{x:Str}(h:x∈rows.map (·.1)):∃ r∈rows,r.1=x:=by
 obtain⟨r,hr,e⟩:=Yg.mp h;exact⟨r,hr,e⟩
def pB(F:Def K mg "endless" Nq ["ups_of"] f fd)(DF:Def K mg "first_among" OB ["words","others"] fF fdF)(T:OC mg):⋯ 2 f fd ["ups_of"] bb:=by
 have GF:⋯ 1 fF fdF ["words","others"] (Z5 K):=lQ DF
 nomatch F.fn.ok Xu
 ·obtain⟨d,o,rows,kvs,rfl,_⟩:=h;rfl
 ·obtain⟨d,o,rows,kvs,rfl,bk,g,q⟩:=h;have nd:=Xu.nd;have hu:=ER hr
  ac_nf
  refine⟨_,pS (B1 (i:=1) nd rfl (Or.inr rfl) (HM (dZ rfl) (by rfl) T.list Kb (pC (pv 0) AB)))
   (AG (JC Ys (B7 CU)
    (pS (Sw (k:=2) ["word"] ["ups_of","left"] [0,1] nd rfl rfl (λ_=>A4 (osc:=AK Nq) (on:=dz) (by rfl') rfl rfl rfl) (Be (pv 1)) (λC s H fp=>Ay (i:=0) sX rfl (Or.inl rfl) (Or.inr rfl))
     (λC s H fp=>EX (Hy (Zh (AN DF GF hr (pC (Fm hu (pv 1) (pv 0) (λ_ _=>rfl)) (pC (pv 2) AB)))))) (λC s H fp=>pv 0))
    (pS (Aj (Am D_ (Af HL (by rfl) T.len Yz (pC (pv 2) AB)) (Af HL (by rfl) T.len Yz (pC (pv 1) AB)) (Ak _)) (AG (AS (pv 2))) Al)
    (AG (B1 (i:=1) nd rfl (Or.inr rfl) (pv 2))))))),?_⟩
  exists let b:=AE _ a;let c:=AE _ b;let e:=J5 _ c;AE _ e _ _ _
  have wl:(rows.map (·.1)).length<=24:=by rw[Ya];exact g.le
  refine⟨Z,d,kvs,Y,.inr ⟨o,bk.at_⟩,λl0 E5=>?_⟩;let Cg:NW:=λm σ H'=>∃(ll:Addr) (ls:LS) (c:OV),σ=[some (.ref d),some (.ref ll),c]/\AA H H'/\H' ll=some (.lst (ls.map V.str))/\(∀ x∈ls,x∈rows.map (·.1))/\ls.length<=24/\m=ls.length;refine⟨Cg,
   ⟨_,l0,rows.map (·.1),none,Y,λb o e=>by rw[AD (AH e E5)];exact e,by rw[uS,NQ bk.ups],λx h=>h,wl,Y⟩,?_⟩
  rintro m σ H' ⟨ll,ls,c,rfl,s1,hll,hsub,xw,rfl⟩;refine⟨true,Y,?_⟩;let EG:SW:=λσ' H2=>∃ m',m'<ls.length/\∃(ll:Addr) (ls:LS) (c:OV),σ'=[some (.ref d),some (.ref ll),c]/\AA H H2/\H2 ll=some (.lst (ls.map V.str))/\(∀ x∈ls,x∈rows.map (·.1))/\ls.length<=24/\m'=ls.length;refine By ⟨EG,λ_ _ h=>h,?_⟩;refine⟨Z,ll,Y,⟨_,SqL.of hll⟩,IC (Bk (xs:=ls.map V.str)) (sL (by rw[Ya];omega)) (Wg rows ls) (λv=>v) (λD ys hD=>SqL.of (by rw[AD (AH hll hD)];exact hll)) ?_ ?_ ?_⟩
  ·intro D ys v R hD hv hR;obtain⟨x,hx,rfl⟩:=Yg.mp hv;obtain⟨r,An,rfl⟩:=Er (hsub x hx);obtain⟨t,hvt,ht⟩:=bk.ups.val g.nd An;have kp:∀ b o,H b=some o->(upd H' D (.lst ys)) b=some o:=λb o e=>by rw[AD (AH (s1 _ _ e) hD)];exact s1 _ _ e
   refine⟨Z,Z,d,Z,(by rw[<- hvt];exact BM.f (k:=Sum.inr r.1) (kp _ _ bk.at_)),Z,t,ll,r.2,ls,Y,AL.of (kp _ _ ht),SqL.of (by rw[AD (AH hll hD)];exact hll),Z,?_⟩;have e:(!decide (J2 r.2 ls=V.non))=Wg rows ls (V.str r.1):=by
    rw[lh];show _=(Ag rows r.1).any _;rw[Nn g.nd An]
   rw[e];exact hR
  ·intro D ys v R hD hv _ hR;exact⟨Z,hR⟩
  ·intro D hD;rw[k4];have hDl:(upd H' D (.lst ((Graph.kept (Ag rows) ls).map V.str))) ll=some (.lst (ls.map V.str)):=by rw[AD (AH hll hD)];exact hll
   have s2:AA H (upd H' D (.lst ((Graph.kept (Ag rows) ls).map V.str))):=λb o e=>by rw[AD (AH (s1 _ _ e) hD)];exact s1 _ _ e
   refine⟨Z,_,Z,.inl ⟨_,SqL.of uS,Y⟩,Z,_,Z,.inl ⟨_,SqL.of hDl,Y⟩,Y,Z,?_⟩;have kle:=Graph.kept_le (Ag rows) ls;refine A9 (λh=>?_) (λh=>?_)
   ·have h:(Graph.kept (Ag rows) ls).length=ls.length:=by
     have:=Je h;injection this with this;rw[Ya,Ya]at this;omega
    obtain⟨rk,hrk⟩:=g.rank;have nil:ls=[]:=Graph.kept_nil (rk:=rk) (λa ha b hb=>by
     obtain⟨r,An,rfl⟩:=Er (hsub a ha);rw[Nn g.nd An]at hb;exact hrk r An b hb) h
    have kn:Graph.kept (Ag rows) ls=[]:=by rw[nil];rfl
    refine⟨Z,q D _ s2 ?_⟩;rw[uS,kn];rfl
   ·have h:(Graph.kept (Ag rows) ls).length≠ls.length:=λz=>h (Jb (by rw[Ya,Ya,z]));exact⟨Z,_,W,D,_,Z,s2,uS,λx hx=>hsub x (Graph.kept_sub hx),W,Y⟩
def Xr:Ab ["ups_of","left","way","here"] ["ups_of"] (AK S1):=by nofun
def ug(F:Def K mg "find_ring" S1 ["ups_of"] f fd)(DE:Def K mg "endless" Nq ["ups_of"] fE fdE)(DF:Def K mg "first_among" OB ["words","others"] fF fdF)(T:OC mg):⋯ 3 f fd ["ups_of"] iJ:=by
 have GE:⋯ 2 fE fdE ["ups_of"] bb:=pB DE DF T
 nomatch F.fn.ok Xr
 ·obtain⟨d,o,rows,kvs,rfl,_⟩:=h;rfl
 ·obtain⟨d,o,rows,kvs,rfl,bk,g,q⟩:=h;have nd:=Xr.nd
  ac_nf
  refine⟨_,pS (sE 1 nd (AN DE GE hr (pC (pv 0) AB)))
   (pS (Aj (CV (Sd (pv 1) (λ_=>rfl))) (AG (AS Na)) Al) EC),?_⟩
  exists let b:=AE _ a;AE _ b _ _ _
  refine⟨Z,d,o,rows,kvs,Y,bk,g,λl H' s1 hl=>?_⟩;exact⟨Z,false,.inl ⟨[],SqL.of hl,Y⟩,By (q H' s1)⟩
def OY(x:Str):Key:=Sum.inr x
def Z2:Sp:=λvs H Q _=>∃(d:Addr) (o:Obj) (rows:RS) (kvs:KL) (x:Str),vs=[.ref d,.str x]/\Hu H d o rows kvs/\AR rows/\x∈rows.map (·.1) /\
 ∀ a o' fk H',H a=none->AA H H'->H' a=some (.frz o' (.dK fk))->(∀ y,(Sum.inr y:Key)∈fk.map (·.1)↔Graph.Reach (Ag rows) x y)->Q (.ref a) H'
structure Wh(rows:RS)(x:Str)(fs ws:LS):Prop where
 start:x∈fs
 sub:∀ y∈ws,y∈fs
 known:∀ y∈fs,y∈rows.map (·.1)
 nd:fs.Nodup
 reach:∀ y∈fs,Graph.Reach (Ag rows) x y
 closed:∀ y∈fs,y∉ws->∀ u∈Ag rows y,u∈fs
 few:ws.length<=fs.length
def Xv:Ab ["ups_of","word","found","waiting","here","up"] ["ups_of","word"] (AK Sz):=by nofun
def Vp{fk:KL}{fs:LS}(h:fk.map (·.1)=fs.map OY)(y:Str):(Sum.inr y:Key)∈fk.map (·.1)↔y∈fs:=by
 rw[h];constructor
 ·intro m;obtain⟨z,hz,e⟩:=Yg.mp m;have e:z=y:=by
   unfold OY at e;injection e
  rw[<- e];exact hz
 ·intro m;exact Yg.mpr ⟨y,m,Y⟩
def S2{fk:KL}{k:Key}(h:k∈fk.map (·.1)):(A2 fk k).isSome=true:=by
 cases e:A2 fk k with
 | none=>exact absurd h (mP e)
 | some v=>rfl
def lM(F:Def K mg "all_above" Sz ["ups_of","word"] f fd):⋯ 1 f fd ["ups_of","word"] Z2:=by
 nomatch F.fn.ok Xv
 ·obtain⟨d,o,rows,kvs,x,rfl,_⟩:=h;rfl
 ·obtain⟨d,o,rows,kvs,x,rfl,bk,g,hx,q⟩:=h;have nd:=Xv.nd;have hu:=ER hr
  ac_nf
  refine⟨_,pS (sE 2 nd (u0 (mh (pv 1) CU vG) rfl rfl (by simp) (by show 1<=15;decide)))
   (pS (sE 3 nd (B4 (pC (pv 1) AB)))
   (pS (JC Ys (Sd (pv 3) (λ_=>rfl))
    (pS (sE 4 nd (tS C1 PySem.F.slot_list_pop PySem.F.type_list_pop s_ (pv 3)))
    (AG (Bt Ys rfl (HJ (Fm hu (pv 0) (pv 4) (λ_ _=>rfl))) (gE 5 nd)
     (AG (Aj (Hy (V1 hu (pv 5) (pv 2))) (pS (JA hu (pv 2) (pv 5) CU rfl)
      (AG (B5 (C7 C1 IM IL GZ (pv 3) (pC (pv 5) AB))))) Al))))))
   (VN (AG (AS (pv 2)))))),?_⟩
  exists let b:=_;let c:=AE _ b;let e:=D0 _ c _;let f:=Bz _ _ e;let g:=AE _ f;let h:=AE (J5 _ g) a;let i:=AE _ h;AE _ i _ _ _
  intro fa hfa;refine⟨Z,uS,[(Sum.inr x,.bl true)],Y,(by show 1<=15;decide),?_⟩;rw[Nh];refine⟨Z,J,λwa hwa=>?_⟩;have fw:fa≠wa:=AH uS hwa;have hwaH:H wa=none:=by
   cases e:H wa with
   | none=>rfl
   | some u=>rw[AD (Yr fw),e]at hwa;cases hwa
  have bound:∀ {fs ws:LS},Wh rows x fs ws->fs.length<=rows.length:=λ{fs ws} h=>by
   have:=Graph.nodup_le h.nd h.known
   rwa [Ya]at this
  have gle:=g.le;let Qa:NW:=λm σ H'=>∃(fs ws:LS) (fk:KL) (a b:OV),σ=[some (.ref d),some (.str x),some (.ref fa),some (.ref wa),a,b]/\AA H H'/\H' fa=some (.dK fk)/\fk.map (·.1)=fs.map OY/\H' wa=some (.lst (ws.map V.str))/\Wh rows x fs ws/\m + 2 * fs.length=2 * rows.length + ws.length;refine⟨Qa,
   ⟨2 * rows.length - 1,[x],[x],[(Sum.inr x,.bl true)],none,none,Y,λb o e=>by rw[AD (AH e hwaH),AD (AH e hfa)];exact e,by rw[AD fw];exact uS,Y,uS,
    ⟨G,λy h=>h,λy h=>by rw[Yj.mp h];exact hx,G,λy h=>by rw[Yj.mp h];exact .refl x,λy h n=>absurd h n,Yf _⟩,by have:=g.ne;simp;omega⟩,?_⟩
  rintro m σ H' ⟨fs,ws,fk,a,b,rfl,s1,hf,hk,hw,go,hm⟩;have flen:=bound go;refine⟨Z,_,.inl ⟨_,SqL.of hw,Y⟩,?_⟩;refine A9 (λBB=>?_) (λBB=>?_)
  ·-- here=waiting.pop()
   have wne:ws≠[]:=by
    intro z;rw[z]at BB;cases BB
   have hpos:0<ws.length:=IH.mpr wne;have split:ws=ws.dropLast++[ws.getLast wne]:=(List.dropLast_concat_getLast wne).symm;generalize hhere:ws.getLast wne=here at split;have Bw:here∈ws:=by rw[split];simp
   have hfs:here∈fs:=go.sub here Bw;obtain⟨r,An,er⟩:=Er (go.known here hfs);obtain⟨t,hvt,ht⟩:=bk.ups.val g.nd An;have last:(ws.map V.str)[(ws.map V.str).length - 1]?=some (V.str here):=by
    rw[Yi,Ya];have:ws[ws.length - 1]?=some here:=by
     rw[<- hhere,List.getLast_eq_getElem,Yb (by omega)]
    rw[this];rfl
   let QZ:SW:=λσ' H2=>∃ m',m'<m/\∃(fs ws:LS) (fk:KL) (a b:OV),σ'=[some (.ref d),some (.str x),some (.ref fa),some (.ref wa),a,b]/\AA H H2/\H2 fa=some (.dK fk)/\fk.map (·.1)=fs.map OY/\H2 wa=some (.lst (ws.map V.str))/\Wh rows x fs ws/\m' + 2 * fs.length=2 * rows.length + ws.length;refine⟨QZ,λ_ _ h=>h,?_⟩;refine⟨Z,.inl ⟨Y,_,SqL.of hw⟩,wa,_,Z,Y,hw,last,?_⟩;have s2:AA H (upd H' wa (.lst (ws.map V.str).dropLast)):=λb o e=>by rw[AD (AH e hwaH)];exact s1 _ _ e
   refine⟨Z,Z,d,Z,(by rw[<- hvt,er];exact BM.f (k:=Sum.inr here) (s2 _ _ bk.at_)),t,Y,⟨_,AL.of (s2 _ _ ht)⟩,?_⟩;have uo:Ag rows here=r.2:=by rw[<- er];exact Nn g.nd An
   refine B8 (IB (xs:=r.2.map V.str)) (λj σ H2=>∃(Bx FP:LS) (Bd:KL) (b:OV),σ=[some (.ref d),some (.str x),some (.ref fa),some (.ref wa),some (.str here),b]/\AA H H2/\H2 fa=some (.dK Bd)/\Bd.map (·.1)=Bx.map OY/\H2 wa=some (.lst (FP.map V.str)) /\
    (∀ y∈fs,y∈Bx)/\(∀ y∈ws.dropLast,y∈FP)/\(∀ y∈FP,y∈Bx)/\(∀ y∈Bx,y∈rows.map (·.1))/\Bx.Nodup/\(∀ y∈Bx,Graph.Reach (Ag rows) x y)/\(∀ y∈Bx,y∈fs\/y∈FP)/\(∀ u∈r.2.take j,u∈Bx)/\FP.length + 2 * fs.length + Bx.length<=ws.dropLast.length + 2 * Bx.length + fs.length)
    ⟨fs,ws.dropLast,fk,Z,s2,by rw[AD fw];exact hf,hk,by rw[uS,List.map_dropLast],λy h=>h,λy h=>h,λy h=>go.sub y ((List.dropLast_sublist ws).subset h),go.known,go.nd,go.reach,λy h=>.inl h,λu h=>by simp at h,W⟩ (λj σ H2 _ h0=>by obtain⟨_,_,_,_,_,s,_⟩:=h0;exact AL.of (s _ _ ht)) ?_ ?_
   ·rintro j v σ H2 hj ⟨Bx,FP,Bd,b,rfl,s3,Ih,LG,Rf,c1,c2,c3,c4,c5,c6,c7,c8,c9⟩;obtain⟨u,BJ,rfl⟩:=J9 hj;have um:u∈r.2:=Yc BJ;have kU:Bx.length<=rows.length:=by
     have:=Graph.nodup_le c5 c4
     rwa [Ya]at this
    have kl:Bd.length=Bx.length:=by have:=congrArg List.length LG;simpa using this
    refine⟨Z,Z,fa,Z,BM.k (k:=Sum.inr u) Ih,Z,?_⟩;have dl:ws.dropLast.length=ws.length - 1:=List.length_dropLast;have gf:=go.few;by_cases nin:u∉Bx
    ·have nk:(Sum.inr u:Key)∉Bd.map (·.1):=λz=>nin ((Vp LG u).mp z);have T_:FP.length<=rows.length * 3:=by omega
     rw[HN nk];refine By ?_;refine⟨Z,Z,fa,Z,EK.k (k:=Sum.inr u) Ih (CZ (by omega)),?_⟩;have YO:(upd H2 fa (.dK (BU Bd (Sum.inr u) (.bl true)))) wa=some (.lst (FP.map V.str)):=by rw[AD (Yr fw)];exact Rf
     refine⟨Z,.inl ⟨Y,_,SqL.of YO⟩,Z,wa,_,Z,Y,YO,CZ (by rw[Ya];omega),?_⟩;refine⟨Bx++[u],FP++[u],BU Bd (Sum.inr u) (.bl true),Z,λb o e=>by rw[AD (AH e hwaH),AD (AH e hfa)];exact s3 _ _ e,by rw[AD fw];exact uS,?_,by rw[uS,CD];rfl,λy h=>Km _ (c1 y h),λy h=>Km _ (c2 y h),λy h=>?_,λy h=>?_,?_,λy h=>?_,λy h=>?_,λy h=>?_,?_⟩
     ·rw[Vu nk,LG,CD];rfl
     ·rcases Yv.mp h with h | h
      ·exact Km _ (c3 y h)
      ·exact Yy _ h
     ·rcases Yv.mp h with h | h
      ·exact c4 y h
      ·rw[Yj.mp h];exact g.known r An u um
     ·rw[List.nodup_append];exact⟨c5,G,λa ha b hb e=>nin (by rw[<- Yj.mp hb,<- e];exact ha)⟩
     ·rcases Yv.mp h with h | h
      ·exact c6 y h
      ·rw[Yj.mp h];exact(go.reach here hfs).snoc (by rw[uo];exact um)
     ·rcases Yv.mp h with h | h
      ·rcases c7 y h with h | h
       ·exact .inl h
       ·exact .inr (Km _ h)
      ·exact .inr (Yy _ h)
     ·rw[B9,BJ]at h
      rcases Yv.mp h with h | h
      ·exact Km _ (c8 y h)
      ·have:y=u:=by simpa using h
       rw[this];exact Yy _ (by simp)
     ·rw[Yt,Yt];simp only[List.length_singleton];omega
    ·have yin:u∈Bx:=IE nin;rw[S2 ((Vp LG u).mpr yin)];refine Ao ?_;refine⟨Bx,FP,Bd,Z,s3,Ih,LG,Rf,c1,c2,c3,c4,c5,c6,c7,λy h=>?_,c9⟩;rw[B9,BJ]at h
     rcases Yv.mp h with h | h
     ·exact c8 y h
     ·have:y=u:=by simpa using h
      rw[this];exact yin
   ·rintro σ H2 ⟨Bx,FP,Bd,b,rfl,s3,Ih,LG,Rf,c1,c2,c3,c4,c5,c6,c7,c8,c9⟩;rw[Ya,De]at c8;have kU:Bx.length<=rows.length:=by
     have:=Graph.nodup_le c5 c4
     rwa [Ya]at this
    have dl:ws.dropLast.length=ws.length - 1:=List.length_dropLast;have fle:fs.length<=Bx.length:=Graph.nodup_le go.nd c1;have gf:=go.few;refine⟨2 * rows.length + FP.length - 2 * Bx.length,W,Bx,FP,Bd,_,Z,s3,Ih,LG,Rf,⟨c1 x go.start,c3,c4,c5,c6,λy hy hn u BJ=>?_,W⟩,W⟩
    rcases c7 y hy with Hg | Hg
    ·by_cases yh:y=here
     ·rw[yh,uo]at BJ;exact c8 u BJ
     ·have nw:y∉ws:=λz=>by
       rw[split]at z
       rcases Yv.mp z with z | z
       ·exact hn (c2 y z)
       ·exact yh (Yj.mp z)
      exact c1 u (go.closed y Hg nw u BJ)
    ·exact absurd Hg hn
  ·have wnil:ws=[]:=by
    cases ws with
    | nil=>rfl
    | cons y r=>exact absurd rfl BB
   refine⟨fa,fk,hf,λo'=>⟨Z,q fa o' fk _ hfa (λb o e=>by rw[AD (AH e hfa)];exact s1 _ _ e) uS λy=>?_⟩⟩;rw[Vp hk y];constructor
   ·exact λh=>go.reach y h
   ·intro h;refine Graph.closed_reach (S:=λy=>y∈fs) (λy hy u BJ=>go.closed y hy (by rw[wnil];simp) u BJ) h go.start
def Uv:¬ (("ups_of":Str)="above_of"):=by rfl'
def Em(d a:Addr):List (Str×V):=Bi "above_of" (.ref a) (Bi "ups_of" (.ref d) [])
def Rx(d a:Addr):(Em d a).lookup ("ups_of":Str)=some (.ref d):=by
 unfold Em;rw[Ea,if_neg Uv,Ea,if_pos rfl]
def U0(d a:Addr):(Em d a).lookup ("above_of":Str)=some (.ref a):=by
 unfold Em;rw[Ea,if_pos rfl]
def Li(d a:Addr){m:Str}(h1:¬ m="above_of")(h2:¬ m="ups_of"):(Em d a).lookup m=none:=by
 unfold Em;rw[Ea,if_neg h1,Ea,if_neg h2];rfl
def HD(H:Hp)(all rows:RS)(AJ:KL):Prop :=
 Paired (λr (p:Key×V)=>p.1=Sum.inr r.1/\∃ t o' fk,p.2=.ref t/\H t=some (.frz o' (.dK fk))/\∀ y,(Sum.inr y:Key)∈fk.map (·.1)↔Graph.Reach (Ag all) r.1 y) rows AJ
def HD.mono{H H':Hp}{all rows:RS}{AJ:KL}(h:HD H all rows AJ)(s:∀ b o' fk,H b=some (.frz o' (.dK fk))->H' b=some (.frz o' (.dK fk))):HD H' all rows AJ :=
 Paired.mapP h λ_ _ z=>⟨z.1,let⟨t,o',fk,e,x,y⟩:=z.2;⟨t,o',fk,e,s _ _ _ x,y⟩⟩
theorem HD.keys:∀ {H:Hp}{all rows:RS}{kvs:KL},HD H all rows kvs->kvs.map (·.1)=rows.map λr=>(Sum.inr r.1:Key)
 | _,_,_,_,.nil=>rfl
 | _,_,_,_,.cons r t=>by rw[Yo,Yo,r.1,HD.keys t]
theorem HD.val:∀ {H:Hp}{all rows:RS}{kvs:KL},HD H all rows kvs->(rows.map (·.1)).Nodup->∀ {r:Str×LS},r∈rows->∃ t o' fk,A2 kvs (Sum.inr r.1)=some (.ref t)/\H t=some (.frz o' (.dK fk))/\∀ y,(Sum.inr y:Key)∈fk.map (·.1)↔Graph.Reach (Ag all) r.1 y
 | _,_,_,_,.nil,_,r,h=>nomatch h
 | _,_,q :: rs,p :: ps,.cons z t,nd,r,h=>by
  have FQ:(q.1 :: rs.map (·.1)).Nodup:=nd;obtain⟨n1,n2⟩:=Ed.mp FQ;obtain⟨z1,u,o',fk,z2,z3,z4⟩:=z
  rcases Yw.mp h with e | h
  ·subst e;exact⟨u,o',fk,by rw[FE z1,z2],z3,z4⟩
  ·have ne:¬ p.1=(Sum.inr r.1:Key):=λe=>n1 (by
    rw[z1]at e;have e':q.1=r.1:=by injection e
    rw[e'];exact Yg.mpr ⟨r,h,Y⟩)
   obtain⟨u',K4,Bd,h1,h2⟩:=HD.val t n2 h;exact⟨u',K4,Bd,by rw[FD ne];exact h1,h2⟩
structure BA(C:Addr)(H:Hp)(p:Addr)(rows:RS):Prop where
 ex:∃(dx d a:Addr) (o oa:Obj) (kvs AJ:KL),H p=some (.ins C dx (Em d a))/\Hu H d o rows kvs/\H a=some (.frz oa (.dK AJ))/\HD H rows rows AJ
theorem BA.mono{C:Addr}{H H':Hp}{p:Addr}{rows:RS}(h:BA C H p rows)(s:AA H H'):BA C H' p rows:=by
 obtain⟨dx,d,a,o,oa,kvs,AJ,h1,h2,h3,h4⟩:=h.ex;exact⟨dx,d,a,o,oa,kvs,AJ,s _ _ h1,h2.mono s,s _ _ h3,h4.mono λ_ _ _ e=>s _ _ e⟩
structure CT(K:Fg)(C:Addr):Prop where
 cl:Gn K C
 nU:HE K C "ups_of"
 nA:HE K C "above_of"
structure El(K:Fg)(C:Addr)(m qual:Str)(st:Stmt)(ps:LS)(f:Addr)(fd:FuncData):Prop where
 fn:Bg K m qual st f fd
 b:C6 K fd ps []
 me:Tc K C m f
def VD(K:Fg)(C:Addr):Sp:=λvs H Q _=>∃(p dx l:Addr) (rows:RS),vs=[.ref p,.ref l]/\H p=some (.ins C dx [])/\Wc K H l rows/\AR rows /\
 ∀ H',BA C H' p rows->(∀ b o,b≠p->H b=some o->H' b=some o)->Q .non H'
def SG(C:Addr):Sp:=λvs H Q _=>∃(p:Addr) (rows:RS) (x:Str),vs=[.ref p,.str x]/\BA C H p rows/\AR rows/\x∈rows.map (·.1)/\Q .non H
def Wl(C:Addr):Sp:=λvs H Q _=>∃(p:Addr) (rows:RS) (x:Str),vs=[.ref p,.str x]/\BA C H p rows/\AR rows/\Q (.bl (decide (x∈rows.map (·.1)))) H
def bq(C:Addr):Sp:=λvs H Q _=>∃(p:Addr) (rows:RS),vs=[.ref p]/\BA C H p rows/\AR rows/\∀ l,H l=none->Q (.ref l) (upd H l (.lst ((rows.map (·.1)).map V.str)))
def AY(rows:RS)(x y:Str):Bool:=@decide (Graph.Reach (Ag rows) x y) (Classical.propDecidable _)
def PM(C:Addr):Sp:=λvs H Q _=>∃(p:Addr) (rows:RS) (x y:Str),vs=[.ref p,.str x,.str y]/\BA C H p rows/\AR rows/\x∈rows.map (·.1)/\y∈rows.map (·.1)/\Q (.bl (AY rows x y)) H
def Xt:Ab ["self","rows","ups_of","word","ups","ring","above_of"] ["self","rows"] (AK WK):=by nofun
def ua(F:Bg K "__init__" "Kinds.__init__" WK f fd)(T:OC mg)(TC:CT K C)(D1:Def K mg "check_rows" S8 ["rows"] f1 d1)(D2:Def K mg "is_word" Nr ["text"] f2 d2)
  (D3:Def K mg "check_ups" S0 ["ups_of"] f3 d3) (D4:Def K mg "find_ring" S1 ["ups_of"] f4 d4) (D5:Def K mg "endless" Nq ["ups_of"] f5 d5) (D6:Def K mg "first_among" OB ["words","others"] f6 d6) (D7:Def K mg "all_above" Sz ["ups_of","word"] f7 d7):
  ⋯ 4 f fd ["self","rows"] (VD K C):=by
 have G1:⋯ 2 f1 d1 ["rows"] (dD K):=qb D1 D2 T;have G3:⋯ 1 f3 d3 ["ups_of"] cw:=qS D3;have G4:⋯ 3 f4 d4 ["ups_of"] iJ:=ug D4 D5 D6 T;have G7:⋯ 1 f7 d7 ["ups_of","word"] Z2:=lM D7
 nomatch F.ok Xt
 ·obtain⟨p,dx,l,rows,rfl,_⟩:=h;rfl
 ·obtain⟨p,dx,l,rows,rfl,hp,hR,g,q⟩:=h;have nd:=Xt.nd;have hu:=ER hr;have Ah:AU 1 _:=hr.mono (by decide);have DJ:AU 2 _:=hr.mono (by decide)
  ac_nf
  refine⟨_,pS (B5 (AN D1 G1 DJ (pC (pv 1) AB)))
   (pS (sE 2 nd Nl)
   (pS (Bt Ys rfl (iS (pv 1)) (Iv rfl (gC (gE 3 nd) (gC (gE 4 nd) I_)))
    (AG (JA hu (pv 2) (pv 3) (HM N_ (by rfl) T.tuple Kg (pC (pv 4) AB)) rfl)))
   (VN (pS (B5 (AN D3 G3 Ah (pC (pv 2) AB)))
   (pS (sE 5 nd (AN D4 G4 hr (pC (pv 2) AB)))
   (pS (Aj (Hy (Zh (pv 5))) EC Al)
   (pS (sE 6 nd Nl)
   (pS (Bt Ys rfl (VM (pv 2)) (gE 3 nd) (AG (JA hu (pv 6) (pv 3) (AN D7 G7 Ah (pC (pv 2) (pC (pv 3) AB))) rfl)))
   (VN (pS (O8 (pv 0) (pv 2) rfl) (AG (O8 (pv 0) (pv 6) rfl)))))))))))),?_⟩
  exists let b:=_;let c:=AE (Bz _ _ b) a;let e:=AE _ c;AE _ e _ _ _
  refine⟨Z,l,rows,Y,hR,g,λH1 s1=>?_⟩;intro d hd;have s2:AA H (upd H1 d (.dK [])):=λb o e=>by rw[AD (AH (s1 _ _ e) hd)];exact s1 _ _ e
  obtain⟨b,vs,hl,hpr⟩:=hR;let BG:NW:=λi σ H'=>∃(kvs:KL) (a c:OV),σ=[some (.ref p),some (.ref l),some (.ref d),a,c,none,none]/\AA H H'/\H' d=some (.dK kvs)/\Dm H' (rows.take i) kvs;refine⟨Z,b,l,vs,Y,hl.mono s2,B8 aU BG
   ⟨[],none,none,Y,s2,uS,by rw[FJ];exact .nil⟩ (λi σ H' _ h0=>by obtain⟨_,_,_,_,s,_⟩:=h0;exact hl.mono s) ?_ ?_⟩
  ·rintro i v σ H' hi ⟨kvs,a,c,rfl,s3,hdk,hU⟩;obtain⟨r,An,t,u,rfl,ht,hug⟩:=C0 hpr hi;have dH:H d=none:=s1.free hd;refine⟨t,Z,s3.tup ht,Y,_,Z,_,Z,Y,?_⟩;have BI:(Sum.inr r.1:Key)∉kvs.map (·.1):=by rw[hU.keys];exact Pe g.nd An
   have hil:(rows.take i).length<=24:=by rw[Yx];have:=g.le;omega
   have hkl:kvs.length=(rows.take i).length:=(Bl hU).symm;have fin:∀(t2:Addr) (H2:Hp),AA H' H2->H2 t2=some (.tup (r.2.map V.str))->∃(BY:KL) (a c:OV),[some (V.ref p),some (V.ref l),some (V.ref d),some (V.str r.1),some (V.ref u),none,none]=[some (V.ref p),some (V.ref l),some (V.ref d),a,c,none,none]/\AA H (upd H2 d (.dK (BU kvs (Sum.inr r.1) (.ref t2)))) /\
     (upd H2 d (.dK (BU kvs (Sum.inr r.1) (.ref t2)))) d=some (.dK BY)/\Dm (upd H2 d (.dK (BU kvs (Sum.inr r.1) (.ref t2)))) (rows.take (i + 1)) BY:=λt2 H2 s4 BD=>by
    have d2:=s4 _ _ hdk;have tk:∀ b xs,H2 b=some (.tup xs)->(upd H2 d (.dK (BU kvs (Sum.inr r.1) (.ref t2)))) b=some (.tup xs):=λb xs e=>by
     rw[AD (λz=>by rw[z,d2]at e;cases e)];exact e
    refine⟨_,_,Z,λb o e=>by rw[AD (AH e dH)];exact s4 _ _ (s3 _ _ e),uS,?_⟩;have sn:Dm (upd H2 d (.dK (BU kvs (Sum.inr r.1) (.ref t2)))) (rows.take i++[r]) (kvs++[(Sum.inr r.1,V.ref t2)]):=Fn ((hU.mono λb xs e=>s4 _ _ e).mono tk) ⟨Y,t2,Y,tk t2 _ BD⟩;rw[<- Nm _ (HN BI)]at sn;rw[B9,An];exact sn
   rcases hug with hug | hug
   ·refine⟨Z,u,Z,.inr ⟨AL.of (s3 _ _ hug),Z,Z,d,Z,EK.k (k:=Sum.inr r.1) hdk (CZ (by omega)),fin u H' (AA.refl _) (s3 _ _ hug)⟩⟩
   ·refine⟨Z,u,Z,.inl ⟨s3.seq hug,λt2 BD=>?_⟩⟩;have s4:AA H' (upd H' t2 (.tup (r.2.map V.str))):=λb o e=>by rw[AD (AH e BD)];exact e
    exact⟨Z,Z,d,Z,EK.k (k:=Sum.inr r.1) (s4 _ _ hdk) (CZ (by omega)),fin t2 _ s4 uS⟩
  ·rintro σ H2 ⟨kvs,a,c,rfl,s3,hdk,hU⟩;have hvl:=hpr.length;rw[<- hvl,De]at hU;refine⟨d,kvs,hdk,λo=>?_⟩;have dH:H d=none:=s1.free hd;have s4:AA H (upd H2 d (.frz o (.dK kvs))):=λb u e=>by rw[AD (AH e dH)];exact s3 _ _ e
   have bk:Hu (upd H2 d (.frz o (.dK kvs))) d o rows kvs:=⟨uS,hU.mono λb xs e=>by rw[AD (λz=>by rw[z,hdk]at e;cases e)];exact e⟩;refine⟨Z,d,o,rows,kvs,Y,bk,g,λH5 s5=>?_⟩;refine⟨Z,d,o,rows,kvs,Y,bk.mono s5,g,λH6 s6=>?_⟩;refine⟨Z,Z,Ao ?_⟩;have JZ:=s5.trans s6;have Y9:=bk.mono JZ;have s7:AA H H6:=s4.trans JZ;intro aa Ce;have s8:AA H (upd H6 aa (.dK [])):=λb u e=>by rw[AD (AH (s7 _ _ e) Ce)];exact s7 _ _ e
   have Xw:AA H6 (upd H6 aa (.dK [])):=λb u e=>by rw[AD (AH e Ce)];exact e
   let Fq:NW:=λi σ H'=>∃(AJ:KL) (a b c:OV),σ=[some (.ref p),some (.ref l),some (.ref d),a,b,c,some (.ref aa)]/\AA H H'/\Hu H' d o rows kvs/\H' aa=some (.dK AJ)/\HD H' rows (rows.take i) AJ;refine⟨Z,d,o,kvs,Y,(Y9.mono Xw).at_,B8 Vv Fq
    ⟨[],_,_,Z,s8,Y9.mono Xw,uS,by rw[FJ];exact .nil⟩ (λi σ H' _ h0=>by obtain⟨_,_,_,_,_,_,b,_⟩:=h0;exact b.at_) ?_ ?_⟩
   ·rintro i v σ H' hi ⟨AJ,a,b,c,rfl,s9,Hm,Ez,hA⟩;rw[Yi]at hi;obtain⟨pr,XQ,e⟩:=IJ.mp hi;obtain⟨r,An,hk,_⟩:=C0 Hm.ups XQ;have Bw:r∈rows:=Yc An;have ev:v=.str r.1:=by rw[<- e,hk];rfl
    subst ev;have aaH:H aa=none:=s7.free Ce;refine⟨Z,Z,d,o,rows,kvs,r.1,Y,Hm,g,Yg.mpr ⟨r,Bw,Y⟩,λx o' fk Fs hx E3 hxk hreach=>?_⟩;have BI:(Sum.inr r.1:Key)∉AJ.map (·.1):=by rw[hA.keys];exact Pe g.nd An
    have hil:(rows.take i).length<=24:=by rw[Yx];have:=g.le;omega
    have hkl:AJ.length=(rows.take i).length:=(Bl hA).symm;have Mu:=E3 _ _ Ez;refine⟨Z,Z,aa,Z,EK.k (k:=Sum.inr r.1) Mu (CZ (by omega)),?_⟩;have kp:∀ b u,b≠aa->Fs b=some u->(upd Fs aa (.dK (BU AJ (Sum.inr r.1) (.ref x)))) b=some u:=λb u hb e=>by rw[AD hb];exact e
    refine⟨_,_,_,Z,λb u e=>kp b u (AH e aaH) (E3 _ _ (s9 _ _ e)),⟨kp _ _ (λz=>?_) (E3 _ _ Hm.at_),(Hm.ups.mono λb xs e=>E3 _ _ e).mono λb xs e=>kp _ _ (λz=>by rw[z,Mu]at e;cases e) e⟩,uS,?_⟩
    ·have:=Hm.at_;rw[z,Ez]at this;cases this
    ·rw[Nm _ (HN BI),B9,An];have fz:∀ b K4 Bd,Fs b=some (.frz K4 (.dK Bd))->(upd Fs aa (.dK (AJ++[(Sum.inr r.1,V.ref x)]))) b=some (.frz K4 (.dK Bd)):=λb K4 Bd e=>by rw[AD (λz=>by rw[z,Mu]at e;cases e)];exact e
     exact Fn ((hA.mono λb K4 Bd e=>E3 _ _ e).mono fz) ⟨Y,x,o',fk,Y,fz _ _ _ hxk,hreach⟩
   ·rintro σ H' ⟨AJ,a,b,c,rfl,s9,Hm,Ez,hA⟩;have hkv:kvs.length=rows.length:=(Bl Hm.ups).symm;rw[Ya,hkv,De]at hA;have aaH:H aa=none:=s7.free Ce;refine⟨aa,AJ,Ez,λoa=>?_⟩;have Ui:H' p=some (.ins C dx []):=s9 _ _ hp;have pa:p≠aa:=AH hp aaH;have pd:p≠d:=AH hp dH;have da:d≠aa:=λz=>by have:=Hm.at_;rw[z,Ez]at this;cases this
    refine⟨Z,Z,p,C,dx,[],Y,(by rw[AD pa];exact Ui),TC.cl,TC.nU,(by show 0<1000;decide),Z,Z,p,C,dx,Z,uS,TC.cl,TC.nA,(by show 1<1000;decide),?_⟩;rw[Nh];have kp:∀ b u,b≠p->b≠aa->H' b=some u->(upd (upd H' aa (.frz oa (.dK AJ))) p (.ins C dx (Em d aa))) b=some u:=λb u h1 h2 e=>by rw[AD h1,AD h2];exact e
    refine q _ ⟨dx,d,aa,o,oa,kvs,AJ,uS,⟨kp _ _ (Yr pd) da Hm.at_,Hm.ups.mono λb xs e=>kp _ _ (λz=>by rw[z,Ui]at e;cases e) (λz=>by rw[z,Ez]at e;cases e) e⟩,by rw[AD (Yr pa)];exact uS,hA.mono λb K4 Bd e=>kp _ _ (λz=>by rw[z,Ui]at e;cases e) (λz=>by rw[z,Ez]at e;cases e) e⟩ λb u hb e=>kp _ _ hb (AH e aaH) (s9 _ _ e)
def wA:Ab ["self","word"] ["self","word"] (AK Sy):=by nofun
def h9(F:Bg K "has" "Kinds.has" Sy f fd)(TC:CT K C):⋯ 1 f fd ["self","word"] (Wl C):=by
 nomatch F.ok wA
 ·obtain⟨p,rows,x,rfl,_⟩:=h;rfl
 ·obtain⟨p,rows,x,rfl,⟨dx,d,a,o,oa,kvs,AJ,h1,h2,h3,h4⟩,g,q⟩:=h;have hu:=ER hr
  ac_nf
  refine⟨_,AG (AS (iR (Lf hu (pv 1) (HI (pv 0) rfl)))),?_⟩;refine⟨Z,Z,p,C,dx,_,Z,h1,TC.cl,TC.nU,Rx _ _,d,Z,BM.f (k:=Sum.inr x) h2.at_,?_⟩;have e:(A2 kvs (Sum.inr x:Key)).isSome=decide (x∈rows.map (·.1)):=by
   have hk:(Sum.inr x:Key)∈kvs.map (·.1)↔x∈rows.map (·.1):=by
    rw[h2.ups.keys];constructor
    ·intro m;obtain⟨r,An,e⟩:=Yg.mp m;exact Yg.mpr ⟨r,An,by injection e⟩
    ·intro m;obtain⟨r,An,e⟩:=Yg.mp m;exact Yg.mpr ⟨r,An,by rw[e]⟩
   by_cases z:x∈rows.map (·.1)
   ·rw[S2 (hk.mpr z),Jb z]
   ·rw[HN λk=>z (hk.mp k),Jc z];rfl
  rw[e];exact q
abbrev FZ(K:Fg)(C fH:Addr)(fdH:FuncData):Prop:=El K C "has" "Kinds.has" Sy ["self","word"] fH fdH
def v_:Ab ["self","word"] ["self","word"] (AK Py):=by nofun
def hV(d a:Addr):(Em d a).lookup ("has":Str)=none:=Li d a (by rfl') (by rfl')
def Ve(F:Bg K "check" "Kinds.check" Py f fd)(TC:CT K C)(MH:FZ K C fH fdH):⋯ 2 f fd ["self","word"] (SG C):=by
 have GH:⋯ 1 fH fdH ["self","word"] (Wl C):=h9 MH.fn TC
 nomatch F.ok v_
 ·obtain⟨p,rows,x,rfl,_⟩:=h;rfl
 ·obtain⟨p,rows,x,rfl,kd,g,hx,q⟩:=h;obtain⟨dx,d,a,o,oa,kvs,AJ,h1,h2,h3,h4⟩:=kd.ex
  ac_nf
  refine⟨_,AG (Aj (CV (B7 (Dc (pv 0) TC.cl MH.me GH hr MH.b .nil A3 (pC (pv 1) AB)))) EC Al),?_⟩;refine⟨Z,p,dx,Z,h1,hV _ _,Z,p,rows,x,Y,kd,g,Z,?_⟩;rw[Jb hx];exact Ao q
def wQ:Ab ["self"] ["self"] (AK TJ):=by nofun
def pZ(F:Bg K "words" "Kinds.words" TJ f fd)(TC:CT K C)(list:mg "list"=none):⋯ 1 f fd ["self"] (bq C):=by
 nomatch F.ok wQ
 ·obtain⟨p,rows,rfl,_⟩:=h;rfl
 ·obtain⟨p,rows,rfl,⟨dx,d,a,o,oa,kvs,AJ,h1,h2,h3,h4⟩,g,q⟩:=h
  ac_nf
  refine⟨_,AG (AS (HM (dZ rfl) (by rfl) list Kb (pC (HI (pv 0) rfl) AB))),?_⟩;refine⟨Z,p,C,dx,_,Z,h1,TC.cl,TC.nU,Rx _ _,d,kvs,Y,.inr ⟨o,h2.at_⟩,λl hl=>?_⟩;rw[NQ h2.ups];exact q l hl
def Sb(d a:Addr):(Em d a).lookup ("check":Str)=none:=Li d a (by rfl') (by rfl')
def wN:Ab ["self","one","other"] ["self","one","other"] (AK TH):=by nofun
def Vf(F:Bg K "under" "Kinds.under" TH f fd)(TC:CT K C)(MC:El K C "check" "Kinds.check" Py ["self","word"] fC fdC)(MH:FZ K C fH fdH):⋯ 3 f fd ["self","one","other"] (PM C):=by
 have GC:⋯ 2 fC fdC ["self","word"] (SG C):=Ve MC.fn TC MH
 nomatch F.ok wN
 ·obtain⟨p,rows,x,y,rfl,_⟩:=h;rfl
 ·obtain⟨p,rows,x,y,rfl,kd,g,hx,hy,q⟩:=h;obtain⟨dx,d,a,o,oa,kvs,AJ,h1,h2,h3,h4⟩:=kd.ex;have hu:=ER hr
  ac_nf
  refine⟨_,pS (B5 (Dc (pv 0) TC.cl MC.me GC hr MC.b .nil A3 (pC (pv 1) AB)))
   (pS (B5 (Dc (pv 0) TC.cl MC.me GC hr MC.b .nil A3 (pC (pv 2) AB)))
   (AG (AS (iR (Lf hu (pv 2) (Fm hu (HI (pv 0) rfl) (pv 1) (λ_ _=>rfl))))))),?_⟩
  exists let b:=AE _ a;AE _ b _ _ _
  obtain⟨r,An,er⟩:=Er hx;obtain⟨t,o',fk,hv,ht,hreach⟩:=h4.val g.nd An;refine⟨Z,p,dx,Z,h1,Sb _ _,Z,p,rows,x,Y,kd,g,hx,?_⟩;refine⟨Z,p,dx,Z,h1,Sb _ _,Z,p,rows,y,Y,kd,g,hy,?_⟩;refine⟨Z,Z,p,C,dx,_,Z,h1,TC.cl,TC.nA,U0 _ _,Z,a,Z,(by rw[<- hv,er];exact BM.f (k:=Sum.inr x) h3),t,Z,BM.f (k:=Sum.inr y) ht,?_⟩;have e:(A2 fk (Sum.inr y:Key)).isSome=AY rows x y:=by
   have hh:=hreach y;rw[er]at hh;unfold AY;by_cases z:Graph.Reach (Ag rows) x y
   ·rw[S2 (hh.mpr z)];exact(@Jb _ (Classical.propDecidable _) z).symm
   ·rw[HN λk=>z (hh.mp k)];exact(@Jc _ (Classical.propDecidable _) z).symm
  rw[e];exact q
def Vx(C:Addr):Sp:=λvs H Q _=>∃(p:Addr) (rows:RS) (x y:Str),vs=[.ref p,.str x,.str y]/\BA C H p rows/\AR rows/\x∈rows.map (·.1)/\y∈rows.map (·.1)/\Q (.bl (AY rows x y&&!decide (x=y))) H
def Au(rows:RS)(x:Str):LS:=(rows.map (·.1)).filter λy=>AY rows x y
def Cw(rows:RS)(x:Str):LS:=(rows.map (·.1)).filter λy=>AY rows y x
def Vw(C:Addr):Sp:=λvs H Q _=>∃(p:Addr) (rows:RS) (x:Str),vs=[.ref p,.str x]/\BA C H p rows/\AR rows/\x∈rows.map (·.1)/\∀ l,H l=none->Q (.ref l) (upd H l (.lst ((Au rows x).map V.str)))
def ba(C:Addr):Sp:=λvs H Q _=>∃(p:Addr) (rows:RS) (x:Str),vs=[.ref p,.str x]/\BA C H p rows/\AR rows/\x∈rows.map (·.1)/\∀ l,H l=none->Q (.ref l) (upd H l (.lst ((Cw rows x).map V.str)))
def Xk(rows:RS)(x:Str):V->Bool
 | .str y=>AY rows x y
 | _=>false
def gM(rows:RS)(x:Str):V->Bool
 | .str y=>AY rows y x
 | _=>false
def m6(rows:RS)(x:Str):(((rows.map (·.1)).map V.str).filter (Xk rows x)).map (λv=>v)=(Au rows x).map V.str:=by
 rw[Gh,II];rfl
def lB(rows:RS)(x:Str):(((rows.map (·.1)).map V.str).filter (gM rows x)).map (λv=>v)=(Cw rows x).map V.str:=by
 rw[Gh,II];rfl
def bL{fk:KL}{rows:RS}{x:Str}(h:∀ y,(Sum.inr y:Key)∈fk.map (·.1)↔Graph.Reach (Ag rows) x y)(y:Str):(A2 fk (Sum.inr y:Key)).isSome=AY rows x y:=by
 unfold AY;by_cases z:Graph.Reach (Ag rows) x y
 ·rw[S2 ((h y).mpr z)];exact(@Jb _ (Classical.propDecidable _) z).symm
 ·rw[HN λk=>z ((h y).mp k)];exact(@Jc _ (Classical.propDecidable _) z).symm
def Pb(d a:Addr):(Em d a).lookup ("under":Str)=none:=Li d a (by rfl') (by rfl')
def cM(d a:Addr):(Em d a).lookup ("beneath":Str)=none:=Li d a (by rfl') (by rfl')
def Vd(d a:Addr):(Em d a).lookup ("above":Str)=none:=Li d a (by rfl') (by rfl')
def aQ(d a:Addr):(Em d a).lookup ("below":Str)=none:=Li d a (by rfl') (by rfl')
def tG:(["high","self","word"]:LS).Nodup:=by rfl'
def sG:(["low","self","word"]:LS).Nodup:=by rfl'
abbrev LX(K:Fg)(C fC:Addr)(fdC:FuncData):Prop:=El K C "check" "Kinds.check" Py ["self","word"] fC fdC
abbrev LY(K:Fg)(C fU:Addr)(fdU:FuncData):Prop:=El K C "under" "Kinds.under" TH ["self","one","other"] fU fdU
def Zi{X:Cx}{e:Expr}{ta:TE}{f:Str}{pos:Pos}{K:Fg}(hK:X.K=K)(he:PE X e ta)(hb:attributeBase e f X.env (eval e X.env)=eval e X.env):PE X (.Attribute e f pos) (fg K ta f):=by
 subst hK;exact HI he hb
def w4:Ab ["self","one","other"] ["self","one","other"] (AK P4):=by nofun
def cP(F:Bg K "beneath" "Kinds.beneath" P4 f fd)(TC:CT K C)(MU:LY K C fU fdU)(MC:LX K C fC fdC)(MH:FZ K C fH fdH):⋯ 4 f fd ["self","one","other"] (Vx C):=by
 have GU:⋯ 3 fU fdU ["self","one","other"] (PM C):=Vf MU.fn TC MC MH
 nomatch F.ok w4
 ·obtain⟨p,rows,x,y,rfl,_⟩:=h;rfl
 ·obtain⟨p,rows,x,y,rfl,kd,g,hx,hy,q⟩:=h;obtain⟨dx,d,a,o,oa,kvs,AJ,h1,_⟩:=kd.ex;refine'⟨_,AG (AS (NZ ?ea (Nb ?eb))),?_⟩
  case ea=>exact Dc (pv 0) TC.cl MU.me GU hr MU.b .nil A3 (pC (pv 1) (pC (pv 2) AB))
  case eb=>exact Hz F9 (pv 1) (pv 2) (Ak _)
  refine⟨Z,p,dx,Z,h1,Pb _ _,Z,Z,p,rows,x,y,Y,kd,g,hx,hy,Z,?_⟩;have e:decide (V.str x=V.str y)=decide (x=y):=OE.mpr ⟨λz=>by injection z,λz=>by rw[z]⟩;refine A9 (λh=>?_) (λh=>?_)
  ·refine⟨Z,Z,Y,?_⟩;rw[h,Kd]at q;rw[e];exact q
  ·have h':AY rows x y=false:=by simpa using h
   rw[h',OM]at q;exact q
def wo:Ab ["self","word"] ["self","word"] (AK OA):=by nofun
def cO(F:Bg K "above" "Kinds.above" OA f fd)(TC:CT K C)(MC:LX K C fC fdC)(MH:FZ K C fH fdH):⋯ 3 f fd ["self","word"] (Vw C):=by
 have GC:⋯ 2 fC fdC ["self","word"] (SG C):=Ve MC.fn TC MH
 nomatch F.ok wo
 ·obtain⟨p,rows,x,rfl,_⟩:=h;rfl
 ·obtain⟨p,rows,x,rfl,kd,g,hx,q⟩:=h;obtain⟨dx,d,a,o,oa,kvs,AJ,h1,h2,h3,h4⟩:=kd.ex;have hu:=ER hr
  ac_nf
  refine⟨_,pS (B5 (Dc (pv 0) TC.cl MC.me GC hr MC.b .nil A3 (pC (pv 1) AB)))
   (AG (AS (BC ["high"] ["self","word"] [0,1] (λ_=>A4 (osc:=AK OA) (on:=["self","word"]) (by rfl') rfl rfl rfl) (VM (HI (pv 0) rfl)) (λC s H fp=>Ay (i:=0) tG rfl (Or.inl rfl) (Or.inr rfl))
    (λC s H fp=>EX (Hy (Lf hu (pv 0) (Fm hu (Zi (K:=K) rfl (pv 1) rfl) (pv 2) (λ_ _=>rfl))))) (λC s H fp=>pv 0)))),?_⟩
  exists AE _ a _ _ _
  obtain⟨r,An,er⟩:=Er hx;obtain⟨t,o',fk,hv,ht,hreach⟩:=h4.val g.nd An;rw[er]at hv hreach;have hkv:kvs.length<=24:=by rw[<- Bl h2.ups];exact g.le
  refine⟨Z,p,dx,Z,h1,Sb _ _,Z,p,rows,x,Y,kd,g,hx,?_⟩;refine⟨Z,p,C,dx,_,Z,h1,TC.cl,TC.nU,Rx _ _,d,o,kvs,Y,h2.at_,IC Vv (sL (by rw[Ya];omega)) (Xk rows x) (λv=>v) (λD ys hD=>by rw[AD (AH h2.at_ hD)];exact h2.at_) ?_ ?_ ?_⟩
  ·intro D ys v R hD IW hR;rw[NQ h2.ups]at IW;obtain⟨y,hy,rfl⟩:=Yg.mp IW;have kp:∀ b o,H b=some o->(upd H D (.lst ys)) b=some o:=λb o e=>by rw[AD (AH e hD)];exact e
   refine⟨Z,Z,p,C,dx,_,Z,kp _ _ h1,TC.cl,TC.nA,U0 _ _,Z,a,Z,(by rw[<- hv];exact BM.f (k:=Sum.inr x) (kp _ _ h3)),t,Z,BM.f (k:=Sum.inr y) (kp _ _ ht),Z,?_⟩;rw[bL hreach y];exact hR
  ·intro D ys v R hD IW _ hR;exact⟨Z,hR⟩
  ·intro D hD;rw[NQ h2.ups,m6];exact q D hD
def v5:Ab ["self","word"] ["self","word"] (AK Px):=by nofun
def o_(F:Bg K "below" "Kinds.below" Px f fd)(TC:CT K C)(MC:LX K C fC fdC)(MH:FZ K C fH fdH):⋯ 3 f fd ["self","word"] (ba C):=by
 have GC:⋯ 2 fC fdC ["self","word"] (SG C):=Ve MC.fn TC MH
 nomatch F.ok v5
 ·obtain⟨p,rows,x,rfl,_⟩:=h;rfl
 ·obtain⟨p,rows,x,rfl,kd,g,hx,q⟩:=h;obtain⟨dx,d,a,o,oa,kvs,AJ,h1,h2,h3,h4⟩:=kd.ex;have hu:=ER hr
  ac_nf
  refine⟨_,pS (B5 (Dc (pv 0) TC.cl MC.me GC hr MC.b .nil A3 (pC (pv 1) AB)))
   (AG (AS (BC ["low"] ["self","word"] [0,1] (λ_=>A4 (osc:=AK Px) (on:=["self","word"]) (by rfl') rfl rfl rfl) (VM (HI (pv 0) rfl)) (λC s H fp=>Ay (i:=0) sG rfl (Or.inl rfl) (Or.inr rfl))
    (λC s H fp=>EX (Hy (Lf hu (pv 2) (Fm hu (Zi (K:=K) rfl (pv 1) rfl) (pv 0) (λ_ _=>rfl))))) (λC s H fp=>pv 0)))),?_⟩
  exists AE _ a _ _ _
  have hkv:kvs.length<=24:=by rw[<- Bl h2.ups];exact g.le
  refine⟨Z,p,dx,Z,h1,Sb _ _,Z,p,rows,x,Y,kd,g,hx,?_⟩;refine⟨Z,p,C,dx,_,Z,h1,TC.cl,TC.nU,Rx _ _,d,o,kvs,Y,h2.at_,IC Vv (sL (by rw[Ya];omega)) (gM rows x) (λv=>v) (λD ys hD=>by rw[AD (AH h2.at_ hD)];exact h2.at_) ?_ ?_ ?_⟩
  ·intro D ys v R hD IW hR;rw[NQ h2.ups]at IW;obtain⟨y,hy,rfl⟩:=Yg.mp IW;obtain⟨r,An,er⟩:=Er hy;obtain⟨t,o',fk,hv,ht,hreach⟩:=h4.val g.nd An;rw[er]at hv hreach;have kp:∀ b o,H b=some o->(upd H D (.lst ys)) b=some o:=λb o e=>by rw[AD (AH e hD)];exact e
   refine⟨Z,Z,p,C,dx,_,Z,kp _ _ h1,TC.cl,TC.nA,U0 _ _,Z,a,Z,(by rw[<- hv];exact BM.f (k:=Sum.inr y) (kp _ _ h3)),t,Z,BM.f (k:=Sum.inr x) (kp _ _ ht),Z,?_⟩;rw[bL hreach x];exact hR
  ·intro D ys v R hD IW _ hR;exact⟨Z,hR⟩
  ·intro D hD;rw[NQ h2.ups,lB];exact q D hD
def Bu(H:Hp)(all rows:RS)(AJ:KL):Prop :=
 Paired (λr (p:Key×V)=>p.1=Sum.inr r.1/\∃(t:Addr) (fs:LS),p.2=.ref t/\H t=some (.lst (fs.map V.str))/\(∀ y,y∈fs↔Graph.Reach (Ag all) r.1 y)/\fs.length<=all.length/\fs.Nodup) rows AJ
def Bu.mono{H H':Hp}{all rows:RS}{AJ:KL}(h:Bu H all rows AJ)(s:∀ b xs,H b=some (.lst xs)->H' b=some (.lst xs)):Bu H' all rows AJ :=
 Paired.mapP h λ_ _ z=>⟨z.1,let⟨t,fs,e,x,y⟩:=z.2;⟨t,fs,e,s _ _ x,y⟩⟩
theorem Bu.keys:∀ {H:Hp}{all rows:RS}{kvs:KL},Bu H all rows kvs->kvs.map (·.1)=rows.map λr=>(Sum.inr r.1:Key)
 | _,_,_,_,.nil=>rfl
 | _,_,_,_,.cons r t=>by rw[Yo,Yo,r.1,Bu.keys t]
theorem Bu.val':∀ {H:Hp}{all rows:RS}{kvs:KL},Bu H all rows kvs->(rows.map (·.1)).Nodup->∀ {r:Str×LS},r∈rows->∃(t:Addr) (fs:LS),A2 kvs (Sum.inr r.1)=some (.ref t)/\H t=some (.lst (fs.map V.str))/\(∀ y,y∈fs↔Graph.Reach (Ag all) r.1 y)/\fs.length<=all.length/\fs.Nodup
 | _,_,_,_,.nil,_,r,h=>nomatch h
 | _,_,q :: rs,p :: ps,.cons z t,nd,r,h=>by
  have FQ:(q.1 :: rs.map (·.1)).Nodup:=nd;obtain⟨n1,n2⟩:=Ed.mp FQ;obtain⟨z1,u,fs,z2,z3,z4⟩:=z
  rcases Yw.mp h with e | h
  ·subst e;exact⟨u,fs,by rw[FE z1,z2],z3,z4⟩
  ·have ne:¬ p.1=(Sum.inr r.1:Key):=λe=>n1 (by
    rw[z1]at e;have e':q.1=r.1:=by injection e
    rw[e'];exact Yg.mpr ⟨r,h,Y⟩)
   obtain⟨u',Bx,h1,h2⟩:=Bu.val' t n2 h;exact⟨u',Bx,by rw[FD ne];exact h1,h2⟩
def Bu.val{H:Hp}{all rows:RS}{kvs:KL}(h:Bu H all rows kvs)(nd:(rows.map (·.1)).Nodup){r:Str×LS}(hr:r∈rows):∃(t:Addr) (fs:LS),A2 kvs (Sum.inr r.1)=some (.ref t)/\H t=some (.lst (fs.map V.str))/\∀ y,y∈fs↔Graph.Reach (Ag all) r.1 y :=
 let⟨u,fs,h1,h2,h3,_⟩:=h.val' nd hr;⟨u,fs,h1,h2,h3⟩
def Vr{rows:RS}{x:Str}{fs:LS}(h:∀ y,y∈fs↔Graph.Reach (Ag rows) x y)(y:Str):decide (y∈fs)=AY rows x y:=by
 unfold AY;by_cases z:Graph.Reach (Ag rows) x y
 ·rw[Jb ((h y).mpr z)];exact(@Jb _ (Classical.propDecidable _) z).symm
 ·rw[Jc λk=>z ((h y).mp k)];exact(@Jc _ (Classical.propDecidable _) z).symm
def aZ:Sp:=λvs H Q _=>∃(l:Addr) (rows:RS),vs=[.ref l]/\HF H l rows/\AR rows/\∀ a AJ H',AA H H'->H' a=some (.dK AJ)->Bu H' rows rows AJ->Q (.ref a) H'
structure OP(rows:RS)(x:Str)(fs:LS)(k:Nat):Prop where
 start:x∈fs
 known:∀ y∈fs,y∈rows.map (·.1)
 nd:fs.Nodup
 reach:∀ y∈fs,Graph.Reach (Ag rows) x y
 closed:∀ y∈fs.take k,∀ u∈Ag rows y,u∈fs
def OP.le{rows:RS}{x:Str}{fs:LS}{k:Nat}(h:OP rows x fs k):fs.length<=rows.length:=by
 have:=Graph.nodup_le h.nd h.known
 rwa [Ya]at this
def OP.all{rows:RS}{x:Str}{fs:LS}{k:Nat}(h:OP rows x fs k)(hk:fs.length<=k)(y:Str):y∈fs↔Graph.Reach (Ag rows) x y :=
 ⟨h.reach y,λr=>Graph.closed_reach (S:=λy=>y∈fs) (λz hz u hu=>h.closed z (by rw[Kc hk];exact hz) u hu) r h.start⟩
def dB{rows:RS}(g:AR rows){y u:Str}(hy:y∈rows.map (·.1))(hu:u∈Ag rows y):u∈rows.map (·.1):=by
 obtain⟨r,hr,e⟩:=Er hy;rw[<- e,Nn g.nd hr]at hu;exact g.known r hr u hu
abbrev jS:LS:=["rows","ups","word","some","above","found","at","up"]
def fm:Ab jS ["rows"] (AK S3):=by nofun
def n9(F:Def K mg "_law_above" S3 ["rows"] f fd)(len:mg "len"=none):⋯ 1 f fd ["rows"] aZ:=by
 nomatch F.fn.ok fm
 ·obtain⟨l,rows,rfl,_⟩:=h;rfl
 ·obtain⟨l,rows,rfl,hR,g,q⟩:=h;have nd:=fm.nd;have hu:=ER hr
  ac_nf
  refine⟨_,pS (sE 1 nd Nl)
   (pS (Bt Ys rfl (Be (pv 0)) (Iv rfl (gC (gE 2 nd) (gC (gE 3 nd) I_)))
    (AG (JA hu (pv 1) (pv 2) (pv 3) rfl)))
   (pS (sE 4 nd Nl)
   (pS (Bt Ys rfl (Be (pv 0)) (Iv rfl (gC (gE 2 nd) (gC (gE 3 nd) I_)))
    (pS (sE 5 nd (B4 (pC (pv 2) AB)))
    (pS (sE 6 nd AI)
    (pS (JC Ys (Am NV (pv 6) (Af HL (by rfl) len Yz (pC (pv 5) AB)) (Ak _))
     (pS (Bt Ys rfl (HJ (Fm hu (pv 1) (AV Ar (pv 5) (pv 6) (λ_ _=>rfl)) (λ_ _=>rfl))) (gE 7 nd)
      (AG (Aj (Am qW (pv 7) (pv 5) (by with_unfolding_all rfl)) (AG (B5 (C7 C1 IM IL GZ (pv 5) (pC (pv 7) AB)))) Al)))
     (AG (sE 6 nd (Ai ET (pv 6) AI)))))
    (AG (JA hu (pv 4) (pv 2) (pv 5) rfl))))))
   (AG (AS (pv 4)))))),?_⟩
  exists let b:=_;let c:=_;let e:=_;let f:=D0 _ e _;let g:=AE (Bz _ _ f) c;let h:=AE (J5 _ g) b;let i:=AE _ h;let j:=AE _ i;let k:=AE (Bz _ _ j) a;let l:=AE _ k;let m:=AE _ l;AE _ m _ _ _
  have gle:=g.le;obtain⟨vs,hvs,hpr⟩:=hR;intro d hd;have s1:AA H (upd H d (.dK [])):=λb o e=>by rw[AD (AH e hd)];exact e
  let BG:NW:=λi σ H'=>∃(kvs:KL) (a c:OV),σ=[some (.ref l),some (.ref d),a,c,none,none,none,none]/\AA H H'/\H' d=some (.dK kvs)/\Dm H' (rows.take i) kvs;refine⟨Z,l,Y,⟨_,SqL.of (s1 _ _ hvs)⟩,B8 (Bk (xs:=vs)) BG
   ⟨[],none,none,Y,s1,uS,by rw[FJ];exact .nil⟩ (λi σ H' _ h0=>by obtain⟨_,_,_,_,s,_⟩:=h0;exact SqL.of (s _ _ hvs)) ?_ ?_⟩
  ·rintro i v σ H' hi ⟨kvs,a,c,rfl,s3,hdk,hU⟩;obtain⟨r,An,t,u,rfl,ht,hug⟩:=C0 hpr hi;refine⟨t,Z,AL.of (s3 _ _ ht),Y,_,Z,_,Z,Y,?_⟩;have BI:(Sum.inr r.1:Key)∉kvs.map (·.1):=by rw[hU.keys];exact Pe g.nd An
   have hil:(rows.take i).length<=24:=by rw[Yx];omega
   have hkl:kvs.length=(rows.take i).length:=(Bl hU).symm;refine⟨Z,Z,Z,d,Z,EK.k (k:=Sum.inr r.1) hdk (CZ (by omega)),?_⟩;have tk:∀ b xs,H' b=some (.tup xs)->(upd H' d (.dK (BU kvs (Sum.inr r.1) (.ref u)))) b=some (.tup xs):=λb xs e=>by
    rw[AD (λz=>by rw[z,hdk]at e;cases e)];exact e
   refine⟨_,_,Z,λb o e=>by rw[AD (AH e hd)];exact s3 _ _ e,uS,?_⟩;have sn:Dm (upd H' d (.dK (BU kvs (Sum.inr r.1) (.ref u)))) (rows.take i++[r]) (kvs++[(Sum.inr r.1,V.ref u)]):=Fn (hU.mono tk) ⟨Y,u,Y,tk u _ (s3 _ _ hug)⟩;rw[<- Nm _ (HN BI)]at sn;rw[B9,An];exact sn
  ·rintro σ H2 ⟨kvs,a,c,rfl,s3,hdk,hU⟩;have hvl:=hpr.length;rw[<- hvl,De]at hU;intro aa Ce;have s4:AA H2 (upd H2 aa (.dK [])):=λb o e=>by rw[AD (AH e Ce)];exact e
   have aaH:H aa=none:=s3.free Ce;have daa:d≠aa:=AH hdk Ce;have xu:Dm (upd H2 aa (.dK [])) rows kvs:=hU.mono λb xs e=>s4 _ _ e;have Um:=s4 _ _ hdk;have Gu:=s3.trans s4;let Fq:NW:=λi σ H'=>∃(AJ:KL) (a b c e f:OV),σ=[some (.ref l),some (.ref d),a,b,some (.ref aa),c,e,f]/\(∀ b o,b≠aa->H2 b=some o->H' b=some o)/\H' aa=some (.dK AJ)/\Bu H' rows (rows.take i) AJ;refine⟨Z,l,Y,⟨_,SqL.of (Gu _ _ hvs)⟩,B8 (Bk (xs:=vs)) Fq
    ⟨[],_,_,_,_,Z,λb o hb e=>by rw[AD hb];exact e,uS,by rw[FJ];exact .nil⟩ (λi σ H' _ h0=>by obtain⟨_,_,_,_,_,_,_,k,_⟩:=h0;exact SqL.of (k _ _ (AH hvs aaH) (s3 _ _ hvs))) ?_ ?_⟩
   ·rintro i v σ H' hi ⟨AJ,a,b,c,e,f',rfl,k1,Fw,hA⟩;obtain⟨r,An,t,u,rfl,ht,hug⟩:=C0 hpr hi;have Bw:r∈rows:=Yc An;have Q_:∀ b o,H b=some o->H' b=some o:=λb o e=>k1 b o (AH e aaH) (s3 _ _ e);refine⟨t,Z,AL.of (Q_ _ _ ht),Y,_,Z,_,Z,Y,?_⟩;refine⟨Z,J,λfa hfa=>?_⟩;have sF:∀ {H5:Hp},AA H' H5->Dm H5 rows kvs:=λ{H5} s=>hU.mono λb xs e=>s _ _ (k1 b _ (λz=>by rw[z,Ce]at e;cases e) e);have dF:∀ {H5:Hp},AA H' H5->H5 d=some (.dK kvs):=λ{H5} s=>s _ _ (k1 _ _ daa hdk);let Cg:NW:=λm σ H5=>∃(fs:LS) (k:Nat) (f:OV),σ=[some (.ref l),some (.ref d),some (.str r.1),some (.ref u),some (.ref aa),some (.ref fa),some (.int (k:Int)),f]/\AA H' H5/\H5 fa=some (.lst (fs.map V.str))/\OP rows r.1 fs k/\k<=fs.length/\m + k=rows.length;refine⟨Cg,
     ⟨rows.length,[r.1],0,Z,λb o e=>by rw[AD (AH e hfa)];exact e,uS,⟨G,λy h=>by rw[Yj.mp h];exact Yg.mpr ⟨r,Bw,Y⟩,G,λy h=>by rw[Yj.mp h];exact .refl _,λy h=>by simp at h⟩,G,Y⟩,?_⟩
    rintro m σ H5 ⟨fs,k,f2,rfl,s5,Oh,go,hk,hm⟩;have flen:=go.le;refine⟨Z,Z,_,Z,.inl ⟨_,SqL.of Oh,Y⟩,_,Z,Y,Z,?_⟩;rw[Ya];refine A9 (λAZ=>?_) (λAZ=>?_)
    ·have AZ:k<fs.length:=by have:=Je AZ;omega
     let EG:SW:=λσ' H6=>∃ m',m'<m/\∃(fs:LS) (k:Nat) (f:OV),σ'=[some (.ref l),some (.ref d),some (.str r.1),some (.ref u),some (.ref aa),some (.ref fa),some (.int (k:Int)),f]/\AA H' H6/\H6 fa=some (.lst (fs.map V.str))/\OP rows r.1 fs k/\k<=fs.length/\m' + k=rows.length;refine⟨EG,λ_ _ h=>h,?_⟩;have hat:fs[k]?=some fs[k]:=Yb AZ;generalize hhere:fs[k]=here at hat;have hin:here∈fs:=Yc hat;obtain⟨r2,DJ,er⟩:=Er (go.known here hin);obtain⟨t2,hvt,BD⟩:=(sF s5).val g.nd DJ;rw[er]at hvt;have uo:Ag rows here=r2.2:=by rw[<- er];exact Nn g.nd DJ
     have hix:BS (fs.map V.str) (k:Int)=some (V.str here):=EB (by rw[Yi,hat];rfl);refine⟨Z,Z,Z,fa,_,_,Z,Y,SqL.of Oh,hix,d,Z,(by rw[<- hvt];exact BM.k (k:=Sum.inr here) (dF s5)),t2,Y,⟨_,AL.of BD⟩,?_⟩;have XJ:t2≠fa:=λz=>by rw[z,Oh]at BD;cases BD
     refine B8 (IB (xs:=r2.2.map V.str)) (λj σ H6=>∃(ex:LS) (f:OV),σ=[some (.ref l),some (.ref d),some (.str r.1),some (.ref u),some (.ref aa),some (.ref fa),some (.int (k:Int)),f]/\(∀ b o,b≠fa->H5 b=some o->H6 b=some o)/\H6 fa=some (.lst ((fs++ex).map V.str)) /\
      (∀ y∈fs++ex,y∈rows.map (·.1))/\(fs++ex).Nodup/\(∀ y∈fs++ex,Graph.Reach (Ag rows) r.1 y)/\∀ z∈r2.2.take j,z∈fs++ex)
      ⟨[],Z,λb o _ e=>e,by rw[Gg];exact Oh,by rw[Gg];exact go.known,by rw[Gg];exact go.nd,by rw[Gg];exact go.reach,λz h=>by simp at h⟩ (λj σ H6 _ h0=>by obtain⟨_,_,_,k6,_⟩:=h0;exact AL.of (k6 _ _ XJ BD)) ?_ ?_
     ·rintro j v σ H6 hj ⟨ex,f3,rfl,k6,Jt,kn,ndx,rch,seen⟩;obtain⟨z,hz,rfl⟩:=J9 hj;have hzu:z∈Ag rows here:=by rw[uo];exact Yc hz
      have hle:(fs++ex).length<=24:=by
       have:=Graph.nodup_le ndx kn;rw[Ya]at this;omega
      refine⟨Z,Z,fa,Z,.inl (SqL.of Jt),Y,Lu _,Z,?_⟩;show if(!EJ (.str z) ((fs++ex).map V.str))=true then _ else _
      rw[J7];have sj:∀ y∈r2.2.take (j + 1),y∈r2.2.take j\/y=z:=λy h=>by
       rw[B9,hz]at h
       rcases Yv.mp h with h | h
       ·exact .inl h
       ·simp at h;exact .inr h
      refine A9 (λhn=>?_) (λhn=>?_)
      ·have hn:z∉fs++ex:=λc=>by rw[Jb c]at hn;cases hn
       refine⟨Z,.inl ⟨Y,_,SqL.of Jt⟩,Z,fa,_,Z,Y,Jt,CZ (by rw[Ya];omega),?_⟩;refine⟨ex++[z],Z,λb o hb e=>by rw[AD hb];exact k6 b o hb e,?_,?_,?_,?_,?_⟩
       ·have e:(fs++(ex++[z])).map V.str=(fs++ex).map V.str++[V.str z]:=by simp
        rw[uS,e]
       ·intro y hy;rw[<- JN]at hy
        rcases Yv.mp hy with h | h
        ·exact kn y h
        ·rw[Yj.mp h];exact dB g (go.known here hin) hzu
       ·rw[<- JN];refine List.nodup_append.mpr ⟨ndx,G,λa ha b hb e=>?_⟩;rw[Yj.mp hb]at e;rw[e]at ha;exact hn ha
       ·intro y hy;rw[<- JN]at hy
        rcases Yv.mp hy with h | h
        ·exact rch y h
        ·rw[Yj.mp h];exact(go.reach here hin).snoc hzu
       ·intro y hy;rw[<- JN]
        rcases sj y hy with h | h
        ·exact Yv.mpr (.inl (seen y h))
        ·rw[h];simp
      ·have hn:z∈fs++ex:=IE λc=>hn (by rw[Jc c];rfl);refine⟨ex,Z,k6,Jt,kn,ndx,rch,λy hy=>?_⟩
       rcases sj y hy with h | h
       ·exact seen y h
       ·rw[h];exact hn
     ·rintro σ H6 ⟨ex,f3,rfl,k6,Jt,kn,ndx,rch,seen⟩;rw[Ya,De]at seen;refine⟨Z,_,Z,Y,m - 1,W,fs++ex,k + 1,Z,λb o e=>k6 b o (AH e hfa) (s5 _ _ e),Jt,⟨Yv.mpr (.inl go.start),kn,ndx,rch,?_⟩,by rw[Yt];omega,W⟩;intro y hy z hz;have htk:(fs++ex).take (k + 1)=fs.take k++[here]:=by
       rw[List.take_append_of_le_length (by omega),B9,hat];rfl
      rw[htk]at hy
      rcases Yv.mp hy with h | h
      ·exact Yv.mpr (.inl (go.closed y h z hz))
      ·rw[Yj.mp h,uo]at hz;exact seen z hz
    ·have hge:fs.length<=k:=by
      have:¬ ((k:Int)<(fs.length:Int)):=λz=>AZ (Jb z);omega
     have ZA:=s5 _ _ Fw;have BI:(Sum.inr r.1:Key)∉AJ.map (·.1):=by rw[hA.keys];exact Pe g.nd An
     have hil:(rows.take i).length<=24:=by rw[Yx];omega
     have hkl:AJ.length=(rows.take i).length:=(Bl hA).symm;refine⟨Z,Z,Z,aa,Z,EK.k (k:=Sum.inr r.1) ZA (CZ (by omega)),?_⟩;have lk:∀ b xs,H5 b=some (.lst xs)->(upd H5 aa (.dK (BU AJ (Sum.inr r.1) (.ref fa)))) b=some (.lst xs):=λb xs e=>by
      rw[AD (λz=>by rw[z,ZA]at e;cases e)];exact e
     refine⟨_,_,_,_,_,Z,λb o hb e=>by rw[AD hb];exact s5 _ _ (k1 b o hb e),uS,?_⟩;have sn:Bu (upd H5 aa (.dK (BU AJ (Sum.inr r.1) (.ref fa)))) rows (rows.take i++[r]) (AJ++[(Sum.inr r.1,V.ref fa)]):=Fn ((hA.mono λb xs e=>s5 _ _ e).mono lk) ⟨Y,fa,fs,Y,lk _ _ Oh,go.all hge,go.le,go.nd⟩;rw[<- Nm _ (HN BI)]at sn;rw[B9,An];exact sn
   ·rintro σ H' ⟨AJ,a,b,c,e,f',rfl,k1,Fw,hA⟩;rw[<- hvl,De]at hA;exact⟨Z,q aa AJ H' (λb o e=>k1 b o (AH e aaH) (s3 _ _ e)) Fw hA⟩
def O0(rows:RS)(n:Nat)(xs:LS):Bool:=decide (xs.length=n)&&xs.all λx=>decide (x∈rows.map (·.1))
structure BX(rows:RS)(n:Nat)(xs:LS):Prop where
 len:xs.length=n
 known:∀ x∈xs,x∈rows.map (·.1)
def BX.is{rows:RS}{n:Nat}{xs:LS}(h:BX rows n xs):O0 rows n xs=true:=by
 unfold O0;rw[Jb h.len,Kd,Cr];exact λx hx=>Jb (h.known x hx)
def Vl(C:Addr):Sp:=λvs H Q _=>∃(p t:Addr) (n:Nat) (rows:RS) (xs:LS),vs=[.ref p,.int n,.ref t]/\BA C H p rows/\AR rows/\H t=some (.tup (xs.map V.str))/\xs.length<=1000/\∀ H',AA H H'->Q (.bl (O0 rows n xs)) H'
def U5(rows:RS):V->V
 | .str x=>.bl (decide (x∈rows.map (·.1)))
 | _=>.non
def oY(rows:RS)(xs:LS):(((xs.map V.str).filter λ_=>true).map (U5 rows))=(xs.map λx=>decide (x∈rows.map (·.1))).map V.bl:=by
 rw[Et.mpr (λ_ _=>rfl),Bo,Bo];rfl
def qt:(["word","kinds"]:LS).Nodup:=by rfl'
abbrev DH:LS:=["kinds","places","call"]
def wC:Ab DH DH (AK KJ):=by nofun
def cQ(F:Def K mg "is_call" KJ DH f fd)(len:mg "len"=none)(all:mg "all"=none)(TC:CT K C)(MH:FZ K C fH fdH):⋯ 2 f fd DH (Vl C):=by
 have GH:⋯ 1 fH fdH ["self","word"] (Wl C):=h9 MH.fn TC
 nomatch F.fn.ok wC
 ·obtain⟨p,t,n,rows,xs,rfl,_⟩:=h;rfl
 ·obtain⟨p,t,n,rows,xs,rfl,kd,g,ht,hz,q⟩:=h;obtain⟨dx,d,a,o,oa,kvs,AJ,h1,_⟩:=kd.ex;have Ah:AU 1 _:=hr.mono (by decide)
  ac_nf
  refine'⟨_,AG (AS (NZ ?ea (Nb ?eb))),?_⟩
  case ea=>exact Hz D_ (Af CC (by rfl) len Yz (pC (pv 2) AB)) (pv 1) (Ak _)
  case eb=>exact Af (J_ rfl) (by rfl) all Ko (pC
    (BC ["word"] ["kinds"] [0] (λ_=>A4 (osc:=AK KJ) (on:=DH) (by rfl') rfl rfl rfl) (HJ (pv 2)) (λC s H fp=>Ay (i:=0) qt rfl (Or.inl rfl) (Or.inr rfl)) (λC s H fp=>B6)
     (λC s H fp=>Dc (pv 1) TC.cl MH.me GH Ah MH.b .nil A3 (pC (pv 0) AB))) AB)
  refine⟨Z,t,Z,.inr (AL.of ht),Z,Y,Z,?_⟩;have e:decide (V.int ((xs.map V.str).length:Nat)=V.int n)=decide (xs.length=n):=by
   rw[Ya];exact OE.mpr ⟨λz=>by injection z with z;omega,λz=>by rw[z]⟩
  rw[e];refine A9 (λh=>?_) (λh=>?_)
  ·refine⟨Z,t,Y,⟨_,AL.of ht⟩,IC (IB (xs:=xs.map V.str)) (sL (by rw[Ya];omega)) (λ_=>true) (U5 rows) (λD ys hD=>AL.of (by rw[AD (AH ht hD)];exact ht)) ?_ ?_ ?_⟩
   ·intro D ys v R _ _ hR;exact hR
   ·intro D ys v R hD hv _ hR;obtain⟨x,hx,rfl⟩:=Yg.mp hv;have s2:AA H (upd H D (.lst ys)):=Ap hD;exact⟨Z,p,dx,Z,s2 _ _ h1,hV _ _,Z,p,rows,x,Y,kd.mono s2,g,hR⟩
   ·intro D hD;refine⟨D,Z,SqL.of (by rw[uS,oY]),?_⟩;have q':=q _ (Ap (o:=.lst (((xs.map V.str).filter λ_=>true).map (U5 rows))) hD);unfold O0 at q';rw[h,Kd]at q';show Q (.bl ((xs.map λx=>decide (x∈rows.map (·.1))).all id)) _;rw[List.all_map];exact q'
  ·have q':=q H (AA.refl H);unfold O0 at q';rw[show decide (xs.length=n)=false by simpa using h,OM]at q';exact q'
def A0(H:Hp)(ds:List (LS))(vs:LV):Prop:=Paired (λ(d:LS) v=>∃ t,v=V.ref t/\H t=some (.tup (d.map V.str))) ds vs
def A0.mono{H H':Hp}{ds:List (LS)}{vs:LV}(h:A0 H ds vs)(s:AA H H'):A0 H' ds vs:=Paired.mapP h λ_ _ ⟨t,e,x⟩=>⟨t,e,s _ _ x⟩
structure BE(rows:RS)(n:Nat)(ds:List (LS)):Prop where
 call:∀ d∈ds,BX rows n d
 nd:ds.Nodup
 few:ds.length<=64
def Cv(d:LS):List Key:=d.map Sum.inr
def Vb(d:LS):(Cv d).map kV=d.map V.str:=by
 unfold Cv;rw[Bo];rfl
def aK{d e:LS}(h:Cv d=Cv e):d=e:=by
 unfold Cv at h;exact List.map_inj_right (λa b z=>by injection z) |>.mp h
def pW{ds:List (LS)}(nd:ds.Nodup){i:Nat}{d:LS}(h:ds[i]?=some d):Cv d∉(ds.take i).map Cv:=by
 intro m;obtain⟨e,he,q⟩:=Yg.mp m;rw[aK q]at he;exact nK nd h he
def dU(K:Fg)(C:Addr):Sp:=λvs H Q _=>∃(p l:Addr) (n:Nat) (b:Bool) (rows:RS) (ds:List (LS)) (us:LV),vs=[.ref p,.int n,.ref l]/\BA C H p rows/\AR rows/\EF K b H l us/\A0 H ds us/\BE rows n ds/\n<=4/\∀ H',AA H H'->Q .non H'
abbrev jU:LS:=["kinds","places","deeds","seen","number","call"]
def eJ:Ab jU ["kinds","places","deeds"] (AK TV):=by nofun
def qe(F:Def K mg "check_deeds" TV ["kinds","places","deeds"] f fd)(DI:Def K mg "is_call" KJ DH fI fdI)(enum:mg "enumerate"=none)(len:mg "len"=none)(all:mg "all"=none)(TC:CT K C)(MH:FZ K C fH fdH):
  ⋯ 3 f fd ["kinds","places","deeds"] (dU K C):=by
 have GI:⋯ 2 fI fdI DH (Vl C):=cQ DI len all TC MH
 nomatch F.fn.ok eJ
 ·obtain⟨p,l,n,b,rows,ds,us,rfl,_⟩:=h;rfl
 ·obtain⟨p,l,n,b,rows,ds,us,rfl,kd,g,hl,hD,gd,hn,q⟩:=h;have nd:=eJ.nd;have hu:=ER hr
  ac_nf
  refine⟨_,pS (sE 3 nd az)
   (AG (Bt Ys rfl (Zk (by rfl) enum (pC (pv 2) AB)) (Iv rfl (gC (gE 4 nd) (gC (gE 5 nd) I_)))
    (pS (Aj (CV (B7 (AN DI GI hr (pC (pv 0) (pC (pv 1) (pC (pv 5) AB)))))) EC Al)
    (pS (Aj (Hy (Lf hu (pv 5) (pv 3))) EC Al)
    (AG (JA hu (pv 3) (pv 5) CU rfl)))))),?_⟩
  exists let b:=AE _ a;let c:=AE _ b;let e:=Bz _ _ c;AE _ e _ _ _
  intro d hd;have s0:AA H (upd H d (.dT [])):=Ap hd;have hvl:=hD.length;have few:=gd.few;let BG:NW:=λi σ H'=>∃(kvs:List (List Key×V)) (a c:OV),σ=[some (.ref p),some (.int n),some (.ref l),some (.ref d),a,c]/\AA H H'/\H' d=some (.dT kvs)/\kvs.map (·.1)=(ds.take i).map Cv;refine⟨Z,b,l,us,Y,hl.mono s0,bH BG
   ⟨[],none,none,Y,s0,uS,G⟩ (λi σ H' _ h0=>by obtain⟨_,_,_,_,s,_⟩:=h0;exact hl.mono s) ?_ ?_⟩
  ·rintro i pr t σ H' hi ⟨kvs,a,c,rfl,s1,hdk,hk⟩ Fy;obtain⟨e1,hx⟩:=Sl hi;obtain⟨dd,hdd,t2,e2,BD⟩:=C0 hD hx;refine U1 ?_;have s2:AA H' (upd H' t (.tup [pr.1,pr.2])):=Ap Fy;have Bw:dd∈ds:=Yc hdd;have gc:=gd.call dd Bw;rw[e2];show AE _ _ _ [some (.ref p),some (.int n),some (.ref l),some (.ref d),some pr.1,some (.ref t2)] _;have Bq:=s1.trans s2;refine⟨Z,Z,Z,p,t2,n,rows,dd,Y,kd.mono ?_,g,?_,by have:=gc.len;omega,λH3 s3=>⟨Z,?_⟩⟩
   ·rw[<- e2];exact Bq
   ·rw[<- e2];exact Bq _ _ BD
   rw[gc.is];refine Ao ?_;rw[<- e2]at s3;have Az:=Bq.trans s3;have ND:H3 d=some (.dT kvs):=s3 _ _ (s2 _ _ hdk);have NA:H3 t2=some (.tup ((Cv dd).map kV)):=by rw[Vb];exact Az _ _ BD
   refine⟨Z,Z,d,Z,BM.t (k:=Cv dd) ND NA,Z,?_⟩;have BI:Cv dd∉kvs.map (·.1):=by rw[hk];exact pW gd.nd hdd
   rw[c_ BI];refine Ao ?_;have hkl:kvs.length=(ds.take i).length:=by have:=congrArg List.length hk;simpa using this
   have hil:(ds.take i).length<=64:=by rw[Yx];omega
   refine⟨Z,Z,d,Z,EK.t (k:=Cv dd) ND NA (CZ (by omega)),?_⟩;refine⟨_,_,Z,λb o e=>?_,uS,?_⟩
   ·rw[AD (AH e hd)];exact Az _ _ e
   ·rw[pf BI,hk,B9,hdd,CD];rfl
  ·rintro σ H' ⟨kvs,a,c,rfl,s1,hdk,hk⟩;exact q H' s1
def vg:¬ (("book":Str)="stands"):=by rfl'
def vh:¬ (("book":Str)="width"):=by rfl'
def vi:¬ (("width":Str)="stands"):=by rfl'
def En(k t:Addr)(n:Nat):List (Str×V):=Bi "stands" (.ref t) (Bi "width" (.int n) (Bi "book" (.ref k) []))
def ZJ(k t:Addr)(n:Nat):(En k t n).lookup ("book":Str)=some (.ref k):=by
 unfold En;rw[Ea,if_neg vg,Ea,if_neg vh,Ea,if_pos rfl]
def ZK(k t:Addr)(n:Nat):(En k t n).lookup ("width":Str)=some (.int n):=by
 unfold En;rw[Ea,if_neg vi,Ea,if_pos rfl]
def uI(k t:Addr)(n:Nat):(En k t n).lookup ("stands":Str)=some (.ref t):=by
 unfold En;rw[Ea,if_pos rfl]
def SU(k t:Addr)(n:Nat){m:Str}(h1:¬ m="stands")(h2:¬ m="width")(h3:¬ m="book"):(En k t n).lookup m=none:=by
 unfold En;rw[Ea,if_neg h1,Ea,if_neg h2,Ea,if_neg h3];rfl
def Lx(k t:Addr)(n:Nat):(En k t n).lookup ("kinds":Str)=none:=SU k t n (by rfl') (by rfl') (by rfl')
def Ss(k t:Addr)(n:Nat):(En k t n).lookup ("places":Str)=none:=SU k t n (by rfl') (by rfl') (by rfl')
def Lw(k t:Addr)(n:Nat):(En k t n).lookup ("deeds":Str)=none:=SU k t n (by rfl') (by rfl') (by rfl')
structure B0(C B:Addr)(H:Hp)(p k:Addr)(rows:RS)(n:Nat)(ds:List (LS)):Prop where
 ex:∃(dx t:Addr) (us:LV),H p=some (.ins B dx (En k t n))/\BA C H k rows/\H t=some (.tup us)/\A0 H ds us
theorem B0.mono{C B:Addr}{H H':Hp}{p k:Addr}{rows:RS}{n:Nat}{ds:List (LS)}(h:B0 C B H p k rows n ds)(s:AA H H'):B0 C B H' p k rows n ds:=by
 obtain⟨dx,t,us,h1,h2,h3,h4⟩:=h.ex;exact⟨dx,t,us,s _ _ h1,h2.mono s,s _ _ h3,h4.mono s⟩
structure E_(K:Fg)(B:Addr):Prop where
 cl:Gn K B
 nB:HE K B "book"
 nW:HE K B "width"
 nS:HE K B "stands"
structure Wd(mg:Str->OU):Prop where
 places:∃ t,mg "MOST_PLACES"=some (.int 4 t)
 deeds:∃ t,mg "MOST_DEEDS"=some (.int 64 t)
 len:mg "len"=none
 all:mg "all"=none
 tuple:mg "tuple"=none
 list:mg "list"=none
 enum:mg "enumerate"=none
def VQ(K:Fg)(C B:Addr):Sp:=λvs H Q _=>∃(p dx k l:Addr) (n:Nat) (rows:RS) (ds:List (LS)) (us:LV),vs=[.ref p,.ref k,.int n,.ref l]/\H p=some (.ins B dx [])/\BA C H k rows/\AR rows/\(SqL K H l us\/H l=some (.tup us))/\A0 H ds us/\BE rows n ds/\1<=n/\n<=4 /\
 ∀ H',B0 C B H' p k rows n ds->(∀ b o,b≠p->H b=some o->H' b=some o)->Q .non H'
def cJ{C p:Addr}{H H':Hp}{k:Addr}{rows:RS}{o:HO}(h:BA C H k rows)(hp:H p=some o)(s:∀ b o,b≠p->H b=some o->H' b=some o)(nk:k≠p)(no:∀ o' u,o≠.frz o' u)(nt:∀ xs,o≠.tup xs):BA C H' k rows:=by
 obtain⟨dx,d,a,o1,oa,kvs,AJ,h1,h2,h3,h4⟩:=h.ex;have ne:∀ {b o' u},H b=some (.frz o' u)->b≠p:=λ{b o' u} e z=>by rw[z,hp]at e;exact no _ _ (Ba e)
 have net:∀ {b xs},H b=some (.tup xs)->b≠p:=λ{b xs} e z=>by rw[z,hp]at e;exact nt _ (Ba e)
 exact⟨dx,d,a,o1,oa,kvs,AJ,s _ _ nk h1,⟨s _ _ (ne h2.at_) h2.at_,h2.ups.mono λb xs e=>s _ _ (net e) e⟩,s _ _ (ne h3) h3,h4.mono λb o' fk e=>s _ _ (ne e) e⟩
abbrev OT:LS:=["self","kinds","places","deeds"]
def wu:Ab OT OT (AK WJ):=by nofun
def lO(F:Bg K "__init__" "Board.__init__" WJ f fd)(T:Wd mg)(TB:E_ K B)(TC:CT K C)(DD:Def K mg "check_deeds" TV ["kinds","places","deeds"] fD fdD)(DI:Def K mg "is_call" KJ DH fI fdI)(MH:FZ K C fH fdH)(hBC:B≠C):
  ⋯ 4 f fd OT (VQ K C B):=by
 have GD:⋯ 3 fD fdD ["kinds","places","deeds"] (dU K C):=qe DD DI T.enum T.len T.all TC MH
 nomatch F.ok wu
 ·obtain⟨p,dx,k,l,n,rows,ds,us,rfl,_⟩:=h;rfl
 ·obtain⟨p,dx,k,l,n,rows,ds,us,rfl,hp,kd,g,hl,hD,gd,n1,n4,q⟩:=h;obtain⟨b,hl,Rm⟩:∃ b,EF K b H l us/\(b=false->H l=some (.tup us)):=by
   rcases hl with hl | hl
   ·exact⟨true,hl,λz=>by cases z⟩
   ·exact⟨false,AL.of hl,λ_=>hl⟩
  obtain⟨t1,hP⟩:=T.places;obtain⟨t2,hM⟩:=T.deeds;have CJ:AU 3 _:=hr.mono (by decide)
  ac_nf
  refine⟨_,pS (Aj (CV (Vg LR LR AI (pv 2) (Ll (v:=.int 4) (by rfl) hP ⟨Z⟩))) EC Al)
   (pS (Aj (Am NU (Af HL (by rfl) T.len Yz (pC (pv 3) AB)) (Ll (v:=.int 64) (by rfl) hM ⟨Z⟩) (Ak _)) EC Al)
   (pS (B5 (AN DD GD CJ (pC (pv 1) (pC (pv 2) (pC (pv 3) AB)))))
   (pS (O8 (pv 0) (pv 1) rfl) (pS (O8 (pv 0) (pv 2) rfl)
   (AG (O8 (pv 0) (HM N_ (by rfl) T.tuple Kg (pC (pv 3) AB)) rfl)))))),?_⟩
  exists let b:=AE _ a;let c:=AE _ b;let e:=AE _ c;let f:=AE _ e;AE _ f _ _ _
  refine⟨Z,_,Z,Y,Z,?_⟩;rw[show decide ((1:Int)<=(n:Int))=true from Jb (by omega)];refine By ⟨_,Z,Y,Z,?_⟩;rw[show(decide ((n:Int)<=4))=true from Jb (by omega)];refine Ao ?_;have hul:=hD.length;have few:=gd.few;refine⟨Z,_,Z,VI hl,_,Z,Y,Z,?_⟩;rw[show decide ((64:Int)<(us.length:Int))=false from Jc (by omega)];refine Ao ?_;refine⟨Z,Z,Z,p |> λ_=>k,l,n,b,rows,ds,us,Y,kd,g,hl,hD,gd,n4,λH1 s1=>?_⟩;have Eg:=s1 _ _ hp;have OX:=kd.mono s1;have nkp:k≠p:=by
   intro z;obtain⟨F4,d,a,o,oa,kvs,AJ,h1,_⟩:=kd.ex;rw[z,hp]at h1;injection h1 with h1;injection h1 with h1;exact hBC h1
  refine⟨Z,Z,p,B,dx,[],Y,Eg,TB.cl,TB.nB,(by show 0<1000;decide),?_⟩;refine⟨Z,Z,p,B,dx,Z,uS,TB.cl,TB.nW,(by show 1<1000;decide),?_⟩;rw[Nh];have kp:∀ {fs:List (Str×V)} (b:Addr) (o:HO),b≠p->H b=some o->(upd H1 p (.ins B dx fs)) b=some o:=λb o hb e=>by rw[AD hb];exact s1 _ _ e
  have hlp:∀ {fs:List (Str×V)},EF K b (upd H1 p (.ins B dx fs)) l us:=λ{fs}=>by
   have Aq:=hl.mono s1;cases b with
   | true =>
    rcases(show SqL K H1 l us from Aq)with(e | ⟨o,e⟩) | e
    ·exact .inl (.inl (by rw[AD (λz=>by rw[z,Eg]at e;cases e)];exact e))
    ·exact .inl (.inr ⟨o,by rw[AD (λz=>by rw[z,Eg]at e;cases e)];exact e⟩)
    ·exact .inr e
   | false =>
    rcases(show AL K H1 l us from Aq)with(e | ⟨o,e⟩) | e
    ·exact .inl (.inl (by rw[AD (λz=>by rw[z,Eg]at e;cases e)];exact e))
    ·exact .inl (.inr ⟨o,by rw[AD (λz=>by rw[z,Eg]at e;cases e)];exact e⟩)
    ·exact .inr e
  have fin:∀(t:Addr) (H2:Hp),AA (upd H1 p (.ins B dx (Bi "width" (.int n) (Bi "book" (.ref k) [])))) H2->H2 t=some (.tup us)->Q .non (upd H2 p (.ins B dx (En k t n))):=λt H2 s2 ht=>by
   have DK:H2 p=some (.ins B dx (Bi "width" (.int n) (Bi "book" (.ref k) []))):=s2 _ _ uS;have k2:∀ b o,b≠p->H b=some o->(upd H2 p (.ins B dx (En k t n))) b=some o:=λb o hb e=>by rw[AD hb];exact s2 _ _ (kp b o hb e)
   refine q _ ⟨dx,t,us,uS,cJ kd hp k2 nkp (λ_ _ z=>by cases z) (λ_ z=>by cases z),by rw[AD (λz=>by rw[z,DK]at ht;cases ht)];exact ht,Paired.mapP hD λd v ⟨t',e,x⟩=>⟨t',e,k2 _ _ (λz=>by rw[z,hp]at x;cases x) x⟩⟩ k2
  refine⟨Z,l,us,Y,?_⟩;have no:=hlp (fs:=Bi "width" (.int n) (Bi "book" (.ref k) []));have wd:(Bi "width" (V.int n) (Bi "book" (V.ref k) [])).length<1000:=by show 2<1000;decide
  cases b with
  | true =>
   refine .inl ⟨no,λt ht=>⟨Z,p,B,dx,Z,(Ap ht) _ _ uS,TB.cl,TB.nS,wd,fin t _ (Ap ht) uS⟩⟩
  | false =>
   have e:(upd H1 p (.ins B dx (Bi "width" (.int n) (Bi "book" (.ref k) [])))) l=some (.tup us):=by
    have e0:=s1 _ _ (Rm rfl);rw[AD (λz=>by rw[z,Eg]at e0;cases e0)];exact e0
   exact .inr ⟨no,Z,p,B,dx,Z,uS,TB.cl,TB.nS,wd,fin l _ (AA.refl _) e⟩
def KI(C B:Addr):Sp:=λvs H Q _=>∃(p k:Addr) (rows:RS) (n:Nat) (ds:List (LS)),vs=[.ref p]/\B0 C B H p k rows n ds/\Q (.ref k) H
def Pj(C B:Addr):Sp:=λvs H Q _=>∃(p k:Addr) (rows:RS) (n:Nat) (ds:List (LS)),vs=[.ref p]/\B0 C B H p k rows n ds/\Q (.int n) H
def Lr(C B:Addr):Sp:=λvs H Q _=>∃(p k:Addr) (rows:RS) (n:Nat) (ds:List (LS)),vs=[.ref p]/\B0 C B H p k rows n ds/\∀ l us,H l=none->A0 H ds us->Q (.ref l) (upd H l (.lst us))
def wy:Ab ["self"] ["self"] (AK S_):=by nofun
def Ly(F:Bg K "kinds" "Board.kinds" S_ f fd)(TB:E_ K B):⋯ 1 f fd ["self"] (KI C B):=by
 nomatch F.ok wy
 ·obtain⟨p,k,rows,n,ds,rfl,_⟩:=h;rfl
 ·obtain⟨p,k,rows,n,ds,rfl,⟨dx,t,us,h1,h2,h3,h4⟩,q⟩:=h;exact⟨_,AG (AS (HI (pv 0) rfl)),Z,p,B,dx,_,Z,h1,TB.cl,TB.nB,ZJ _ _ _,q⟩
def wz:Ab ["self"] ["self"] (AK TX):=by nofun
def Su(F:Bg K "places" "Board.places" TX f fd)(TB:E_ K B):⋯ 1 f fd ["self"] (Pj C B):=by
 nomatch F.ok wz
 ·obtain⟨p,k,rows,n,ds,rfl,_⟩:=h;rfl
 ·obtain⟨p,k,rows,n,ds,rfl,⟨dx,t,us,h1,h2,h3,h4⟩,q⟩:=h;exact⟨_,AG (AS (HI (pv 0) rfl)),Z,p,B,dx,_,Z,h1,TB.cl,TB.nW,ZK _ _ _,q⟩
def wt:Ab ["self"] ["self"] (AK S9):=by nofun
def Nv(F:Bg K "deeds" "Board.deeds" S9 f fd)(TB:E_ K B)(list:mg "list"=none):⋯ 1 f fd ["self"] (Lr C B):=by
 nomatch F.ok wt
 ·obtain⟨p,k,rows,n,ds,rfl,_⟩:=h;rfl
 ·obtain⟨p,k,rows,n,ds,rfl,⟨dx,t,us,h1,h2,h3,h4⟩,q⟩:=h;exact⟨_,AG (AS (HM dP (by rfl) list Kb (pC (HI (pv 0) rfl) AB))),Z,p,B,dx,_,Z,h1,TB.cl,TB.nS,uI _ _ _,t,us,Y,.inr (AL.of h3),λl hl=>q l us hl h4⟩
abbrev Lg(K:Fg)(B f:Addr)(fd:FuncData):Prop:=El K B "kinds" "Board.kinds" S_ ["self"] f fd
abbrev SO(K:Fg)(B f:Addr)(fd:FuncData):Prop:=El K B "places" "Board.places" TX ["self"] f fd
abbrev Nf(K:Fg)(B f:Addr)(fd:FuncData):Prop:=El K B "deeds" "Board.deeds" S9 ["self"] f fd
def A_(rows:RS)(xs ys:LS):Bool:=(xs.zip ys).all λp=>AY rows p.1 p.2
def QG(p:Str×Str):V×V:=(V.str p.1,V.str p.2)
def SN(xs ys:LS):(xs.map V.str).zip (ys.map V.str)=(xs.zip ys).map QG:=by rw[List.zip_map];rfl
def Lv{α β:Type}{f:α->β}{l:List α}{i:Nat}{y:β}(h:(l.map f)[i]?=some y):∃ x,l[i]?=some x/\f x=y:=by
 rw[Yi]at h;exact IJ.mp h
def Zip(C:Addr):Sp:=λvs H Q _=>∃(p a b:Addr) (rows:RS) (xs ys:LS),vs=[.ref p,.ref a,.ref b]/\BA C H p rows/\AR rows/\H a=some (.tup (xs.map V.str))/\H b=some (.tup (ys.map V.str))/\(∀ x∈xs,x∈rows.map (·.1))/\(∀ y∈ys,y∈rows.map (·.1)) /\
 ∀ H',AA H H'->Q (.bl (A_ rows xs ys)) H'
def WC(C:Addr):Sp:=λvs H Q _=>∃(p t:Addr) (n:Nat) (rows:RS) (xs:LS),vs=[.ref p,.int n,.ref t]/\BA C H p rows/\AR rows/\H t=some (.tup (xs.map V.str))/\BX rows n xs/\n<=4/\∀ H',AA H H'->Q .non H'
def AO(rows:RS)(ds:List (LS))(xs:LS):LN:=(List.range ds.length).filter λi=>A_ rows xs (ds.getD i [])
def Sj(C B:Addr):Sp:=λvs H Q _=>∃(p k t:Addr) (rows:RS) (n:Nat) (ds:List (LS)) (xs:LS),vs=[.ref p,.ref t]/\B0 C B H p k rows n ds/\AR rows/\BE rows n ds/\n<=4/\H t=some (.tup (xs.map V.str))/\BX rows n xs /\
 ∀ l H',H l=none->AA H H'->H' l=some (.lst ((AO rows ds xs).map λi=>V.int (i:Nat)))->Q (.ref l) H'
abbrev jL:LS:=["kinds","one","other","low","high"]
def fY:Ab jL ["kinds","one","other"] (AK Lq):=by nofun
def b_(F:Def K mg "within" Lq ["kinds","one","other"] f fd)(zip:mg "zip"=none)(TC:CT K C)(MU:LY K C fU fdU)(MC:LX K C fC fdC)(MH:FZ K C fH fdH):
  ⋯ 4 f fd ["kinds","one","other"] (Zip C):=by
 have GU:⋯ 3 fU fdU ["self","one","other"] (PM C):=Vf MU.fn TC MC MH
 nomatch F.fn.ok fY
 ·obtain⟨p,a,b,rows,xs,ys,rfl,_⟩:=h;rfl
 ·obtain⟨p,a,b,rows,xs,ys,rfl,kd,g,ha,hb,hx,hy,q⟩:=h;obtain⟨dx,d,a1,o,oa,kvs,AJ,h1,_⟩:=kd.ex;have nd:=fY.nd
  ac_nf
  refine⟨_,pS (Bt Ys rfl (U8 (by rfl) zip (pC (pv 1) (pC (pv 2) AB))) (Iv rfl (gC (gE 3 nd) (gC (gE 4 nd) I_)))
    (AG (Aj (CV (B7 (Dc (pv 0) TC.cl MU.me GU hr MU.b .nil A3 (pC (pv 3) (pC (pv 4) AB))))) (AG (AS CU)) Al)))
   (AG (AS CU)),?_⟩
  exists let b:=_;AE (Bz _ _ b) a _ _ _
  let BG:NW:=λi σ H'=>∃(u v:OV),σ=[some (.ref p),some (.ref a),some (.ref b),u,v]/\AA H H'/\∀ z∈(xs.zip ys).take i,AY rows z.1 z.2=true;refine⟨Z,Z,a,b,_,Z,AL.of ha,AL.of hb,bH BG
   ⟨none,none,Y,AA.refl H,G⟩ (λi σ H' _ h0=>by obtain⟨_,_,_,s,_⟩:=h0;exact⟨AL.of (s _ _ ha),AL.of (s _ _ hb)⟩) ?_ ?_⟩
  ·rintro i pr t σ H' hi ⟨u,v,rfl,s1,hall⟩ Fy;rw[SN]at hi;obtain⟨z,hz,rfl⟩:=Lv hi;refine U1 ?_;have s2:=s1.trans (Ap (o:=.tup [(QG z).1,(QG z).2]) Fy);have zm:=Yc hz;have hzx:=hx _ (Kn zm).1;have hzy:=hy _ (Kn zm).2;refine⟨Z,p,dx,Z,s2 _ _ h1,Pb _ _,Z,Z,p,rows,z.1,z.2,Y,kd.mono s2,g,hzx,hzy,Z,?_⟩;refine A9 (λh=>?_) (λh=>?_)
   ·have e:A_ rows xs ys=false:=by
     unfold A_;rw[List.all_eq_false];exact⟨z,zm,by simpa using h⟩
    have q':=q _ s2;rw[e]at q';exact q'
   ·refine⟨_,Z,s2,λy Hg=>?_⟩;rw[B9,hz]at Hg
    rcases Yv.mp Hg with m | m
    ·exact hall y m
    ·have:y=z:=by simpa using m
     rw[this];simpa using h
  ·rintro σ H' ⟨u,v,rfl,s1,hall⟩;rw[SN,Ya,De]at hall;have e:A_ rows xs ys=true:=by
    unfold A_;rw[Cr];exact hall
   have q':=q _ s1;rw[e]at q';exact q'
def v9:Ab DH DH (AK Pq):=by nofun
def dX(F:Def K mg "check_call" Pq DH f fd)(DI:Def K mg "is_call" KJ DH fI fdI)(len:mg "len"=none)(all:mg "all"=none)(TC:CT K C)(MH:FZ K C fH fdH):⋯ 3 f fd DH (WC C):=by
 have GI:⋯ 2 fI fdI DH (Vl C):=cQ DI len all TC MH
 nomatch F.fn.ok v9
 ·obtain⟨p,t,n,rows,xs,rfl,_⟩:=h;rfl
 ·obtain⟨p,t,n,rows,xs,rfl,kd,g,ht,gc,hn,q⟩:=h
  ac_nf
  refine⟨_,AG (Aj (CV (B7 (AN DI GI hr (pC (pv 0) (pC (pv 1) (pC (pv 2) AB)))))) EC Al),?_⟩;refine⟨Z,Z,Z,p,t,n,rows,xs,Y,kd,g,ht,by have:=gc.len;omega,λH' s'=>⟨Z,?_⟩⟩;rw[gc.is];exact Ao (q H' s')
abbrev YA:LS:=["board","call","kinds"]
def eR:Ab YA ["board","call"] (AK Lz):=by nofun
def vA:(["number","deed","kinds","call"]:LS).Nodup:=by rfl'
def d_(p:V×V):V:=p.1
def lg{rows:RS}{ds:List (LS)}{xs:LS}{us:LV}{p:V×V->Bool}(hl:ds.length=us.length)(h:∀ i (d:LS) v,ds[i]?=some d->us[i]?=some v->p (.int (i:Nat),v)=A_ rows xs d):
  ((HC us).filter p).map d_=(AO rows ds xs).map λi=>V.int (i:Nat):=by
 have e1:HC us=(List.range us.length).map λ(i:Nat)=>(V.int (i:Nat),us.getD i .non):=by
  refine OF λi=>?_;by_cases hi:i<us.length
  ·have h1:(HC us)[i]?=some ((HC us)[i]'(by rw[Nu];exact hi)):=Yb (by rw[Nu];exact hi);obtain⟨a,b⟩:=Sl h1;rw[h1,Yi,JI hi];refine congrArg some (Prod.ext a ?_);show _=us.getD i .non;rw[Yh,b];rfl
  ·rw[FI (by rw[Nu];omega),FI (by simp;omega)]
 rw[e1,II,Bo];unfold AO;rw[hl];have e2:(List.range us.length).filter (p ∘ λ(i:Nat)=>(V.int (i:Nat),us.getD i .non))=(List.range us.length).filter λi=>A_ rows xs (ds.getD i []):=by
  refine QP λi hi=>?_;have hi:i<us.length:=Bp.mp hi;have d1:ds[i]?=some (ds.getD i []):=by rw[Yh,Yb (by omega)];rfl
  have u1:us[i]?=some (us.getD i .non):=by rw[Yh,Yb hi];rfl
  exact h i _ _ d1 u1
 rw[e2];rfl
def dh(rows:RS)(ds:List (LS))(xs:LS):V×V->Bool
 | (.int i,_)=>A_ rows xs (ds.getD i.toNat [])
 | _=>false
def pF(F:Def K mg "fitting" Lz ["board","call"] f fd)(T:Wd mg)(zip:mg "zip"=none)(TC:CT K C)(TB:E_ K B)(MK:Lg K B fK fdK)(MP:SO K B fPl fdPl)(MD:Nf K B fDe fdDe)
  (DCk:Def K mg "check_call" Pq DH fCk fdCk) (DW:Def K mg "within" Lq ["kinds","one","other"] fW fdW) (DI:Def K mg "is_call" KJ DH fI fdI) (MU:LY K C fU fdU) (MC:LX K C fC fdC) (MH:FZ K C fH fdH):
  ⋯ 5 f fd ["board","call"] (Sj C B):=by
 have GK:⋯ 1 fK fdK ["self"] (KI C B):=Ly MK.fn TB;have GP:⋯ 1 fPl fdPl ["self"] (Pj C B):=Su MP.fn TB;have GD:⋯ 1 fDe fdDe ["self"] (Lr C B):=Nv MD.fn TB T.list;have GC:⋯ 3 fCk fdCk DH (WC C):=dX DCk DI T.len T.all TC MH;have GW:⋯ 4 fW fdW ["kinds","one","other"] (Zip C):=b_ DW zip TC MU MC MH
 nomatch F.fn.ok eR
 ·obtain⟨p,k,t,rows,n,ds,xs,rfl,_⟩:=h;rfl
 ·obtain⟨p,k,t,rows,n,ds,xs,rfl,bd,g,gd,hn,ht,gc,q⟩:=h;obtain⟨dx,ts,us,h1,h2,h3,h4⟩:=bd.ex;have nd:=eR.nd;have Ah:AU 1 _:=hr.mono (by decide);have CJ:AU 3 _:=hr.mono (by decide)
  ac_nf
  refine'⟨_,pS (B1 (i:=2) nd rfl (Or.inr rfl) (C8 (pv 0) TB.cl MK.me GK Ah MK.b .nil A3))
   (pS (B5 (AN DCk GC CJ (pC (pv 2) (pC (C8 (pv 0) TB.cl MP.me GP Ah MP.b .nil A3) (pC (pv 1) AB)))))
   (AG (AS ?ea))),?_⟩
  case ea=>exact(BC ["number","deed"] ["kinds","call"] [2,1] (λ_=>A4 (osc:=AK Lz) (on:=YA) (by rfl') rfl rfl rfl) (Zk (by rfl) T.enum (pC (C8 (pv 0) TB.cl MD.me GD Ah MD.b .nil A3) AB))
    (λC s H fp=>PF (K:=K) (i:=0) (j:=1) rfl rfl vA rfl rfl (Or.inl rfl) (Or.inl rfl) (Or.inr rfl) (Or.inr rfl))
    (λC s H fp=>EX (B7 (AN DW GW hr (pC (pv 2) (pC (pv 3) (pC (pv 1) AB)))))) (λC s H fp=>pv 0))
  exists let b:=AE _ a;AE _ b _ _ _
  refine⟨Z,p,dx,Z,h1,Lx _ _ _,p,k,O,Y,bd,?_⟩;refine⟨Z,Z,p,dx,Z,h1,Ss _ _ _,p,k,O,Y,bd,Z,k,t,n,rows,xs,Y,h2,g,ht,gc,hn,λH1 s1=>?_⟩;refine⟨Z,p,dx,Z,s1 _ _ h1,Lw _ _ _,p,k,O,Y,bd.mono s1,λl JX hl hD=>?_⟩;have s2:AA H1 (upd H1 l (.lst JX)):=Ap hl;have hul:=hD.length;have few:=gd.few;refine⟨true,l,JX,Y,SqL.of uS,bE (sL (by rw[Nu];omega)) (dh rows ds xs) d_ (λH' s'=>SqL.of (s' _ _ uS)) ?_ ?_ ?_⟩
  ·intro x H' R s' hx hR;obtain⟨i,hi⟩:=Gj hx;obtain⟨e1,hu⟩:=Sl hi;obtain⟨dd,hdd,t2,e2,BD⟩:=C0 hD hu;have Bq:=s1.trans (s2.trans s');have gcd:=gd.call dd (Yc hdd);rw[e2];refine⟨Z,Z,Z,k,t,t2,rows,xs,dd,Y,h2.mono Bq,g,Bq _ _ ht,s' _ _ (s2 _ _ BD),gc.known,gcd.known,λH3 s3=>⟨Z,?_⟩⟩;have e:dh rows ds xs x=A_ rows xs dd:=by
    obtain⟨x1,x2⟩:=x;have e1:x1=.int (i:Nat):=e1;rw[e1];show A_ rows xs (ds.getD ((i:Nat):Int).toNat [])=_;rw[Yq,Yh,hdd];rfl
   rw[<- e];exact hR H3 s3
  ·intro x H' R s' hx _ hR;exact⟨Z,hR H' (AA.refl _)⟩
  ·intro D H' Rp s' CB;have Bq:=s1.trans (s2.trans s');refine q D H' ?_ Bq ?_
   ·cases e:H D with
    | none=>rfl
    | some u=>have:=s2 _ _ (s1 _ _ e);rw[this]at Rp;cases Rp
   ·rw[CB,lg hul λi d v hd hv=>?_];show A_ rows xs (ds.getD ((i:Nat):Int).toNat [])=_;rw[Yq,Yh,hd];rfl
def O7{H:Hp}{p a:Addr}{o:HO}{ws:LS}(h:H p=some o)(ho:DM o)(ha:H a=some (.lst (ws.map V.str))):p≠a:=Wj h ha (by
 obtain⟨r,b,e,_⟩:=ho;rw[e];intro z;injection z with z;have z2:=congrArg (λl=>l[0]?) z;cases ws with
 | nil=>simp at z2
 | cons x r=>simp at z2)
theorem Drawn.tup{p:Addr}{H H':Hp}(d:Drawn p H H'){o:HO}(h:H p=some o)(ho:DM o){t:Addr}{xs:LV}(e:H t=some (.tup xs)):H' t=some (.tup xs):=
 d.keep _ _ (λz=>by rw[z,h]at e;obtain⟨_,_,q,_⟩:=ho;rw[q]at e;cases e) e
def N5{H H':Hp}{l:Addr}{rows:RS}(h:HF H l rows)(s:AA H H'):HF H' l rows:=by
 obtain⟨vs,a,p⟩:=h;exact⟨vs,s _ _ a,Paired.mapP p λr v ⟨t,u,e,h1,h2⟩=>⟨t,u,e,s _ _ h1,s _ _ h2⟩⟩
def dA{K:Fg}{l:Addr}{H2:Hp}{rows:RS}{σ:St}{te:TE}{Q:VK}(hR:HF H2 l rows)(few:rows.length<=100)
  (he:∀(t u:Addr) (x:Str) H' (R:VK),H' t=some (.tup [.str x,.ref u])->R (.str x) H'->te [some (.ref t)] H' R)
  (hd:∀ D H3,H2 D=none->AA H2 H3->H3 D=some (.lst ((rows.map (·.1)).map V.str))->Q (.ref D) H3):Aa 1 [] (Dp 0) Wo te σ Q (T7 K l) H2:=by
 obtain⟨vs,hvs,hpr⟩:=hR;refine Lo (Bk (xs:=vs)) (sL (by rw[<- hpr.length];omega)) (λ_=>true) (λ_ x v _=>∀ r,QB H2 r x->v=.str r.1) (λ_ _ _ _ _ _ h=>h) (λH' s=>s.seq (SqL.of hvs)) ?_ ?_ ?_
 ·intro x H3 R _ _ Ae;exact Ae H3 (AA.refl _)
 ·intro D x H3 R s3 _ _ hx _ Ae;obtain⟨i,hi⟩:=List.mem_iff_getElem?.mp hx;obtain⟨r,An,t,u,rfl,ht,BJ⟩:=C0 hpr hi;refine he t u r.1 H3 R (s3 _ _ ht) (Ae _ _ (AA.refl _) λr' h'=>?_);obtain⟨t',u',e1,e2,_⟩:=h';cases e1;rw[ht]at e2;have e2:=Ba e2;injection e2 with e2;injection e2 with e2 _
 ·intro D H3 ys hD E2 hlD hpD;rw[SQ]at hpD;have eys:ys=(rows.map (·.1)).map V.str:=by
   have:∀ {rows:RS} {vs ys:LV},Paired (QB H2) rows vs->Paired (λx v=>∀ r,QB H2 r x->v=.str r.1) vs ys->ys=(rows.map (·.1)).map V.str:=by
    intro rows vs ys a
    induction a generalizing ys with
    | nil=>intro b;cases b;rfl
    | cons h t ih =>
     intro b;cases b with
     | cons h' t'=>rw[Yo,Yo,h' _ h,ih t']
   exact this hpr hpD
  subst eys;exact hd D H3 hD E2 hlD
def So{ws:LS}{v:Int}(h0:0<=v)(h1:v<(ws.map V.str).length):∃ x∈ws,BS (ws.map V.str) v=some (.str x):=by
 have hl:v.toNat<ws.length:=by rw[Ya]at h1;omega
 refine⟨ws[v.toNat],KU hl,?_⟩;have e:((v.toNat:Nat):Int)=v:=by omega
 have q:BS (ws.map V.str) ((v.toNat:Nat):Int)=some (.str ws[v.toNat]):=by
  refine EB ?_;rw[Yi,Yb (by omega)];rfl
 rw[e]at q;exact q
abbrev Dt:=W.Dat
def Fe(d:LS):Dt:=.tuple (d.map W.Dat.str)
def vT{d e:LS}(h:Fe d=Fe e):d=e:=by
 unfold Fe at h;injection h with h;exact List.map_inj_right (λa b z=>by injection z) |>.mp h
def aT{K:Fg}{H:Hp}{t:Addr}{d:LS}(h:H t=some (.tup (d.map V.str))):Rep K H (.ref t) (Fe d):=.tuple (AL.of h) (Ga d)
theorem cn{K:Fg}{H:Hp}:∀ {ds:List (LS)}{vs:LV},A0 H ds vs->A1 K H vs (ds.map Fe)
 | _,_,.nil=>.nil
 | _,_,.cons ⟨t,e,h⟩ r=>by rw[e];exact .cons (aT h) (cn r)
def V5{rows:RS}(g:AR rows):∀ x∈rows.map (·.1),Bj x=true:=λx hx=>by
 obtain⟨r,hr,e⟩:=Yg.mp hx;rw[<- e];exact g.word r hr
def Sf{rows:RS}(g:AR rows){x y:Str}(hx:x∈rows.map (·.1))(h:Graph.Reach (Ag rows) x y):y∈rows.map (·.1):=
 Graph.closed_reach (S:=λy=>y∈rows.map (·.1)) (λz hz u hu=>dB g hz hu) h hx
def sk(n:Nat){x:Str}(h:Bj x=true):W.kqdOk n (.str x)=true:=by
 have q:=U4 (ws:=[x]) (λy hy=>by rw[Yj.mp hy];exact h);rw[W.kqdOk]at q;have q2:W.kqdOk 8 (.str x)=true:=by simpa using q
 rw[W.kqdOk]at q2;rw[W.kqdOk];exact q2
def Zd(n:Nat){d:LS}(h:∀ x∈d,Bj x=true):W.kqdOk (n + 1) (Fe d)=true:=by
 unfold Fe;rw[W.kqdOk,Cr];intro z hz;obtain⟨x,hx,rfl⟩:=Yg.mp hz;exact sk n (h x hx)
def lP(n:Nat){ds:List (LS)}(h:∀ d∈ds,∀ x∈d,Bj x=true):(ds.map Fe).all (W.kqdOk (n + 1))=true:=by
 rw[Cr];intro z hz;obtain⟨d,hd,rfl⟩:=Yg.mp hz;exact Zd n (h d hd)
def vQ(ds:List (LS))(d:LS):((ds.map Fe).any λe=>CL e (Fe d))=decide (d∈ds):=by
 by_cases h:d∈ds
 ·rw[Jb h,FK];exact⟨Fe d,Yg.mpr ⟨d,h,Y⟩,EZ _⟩
 ·rw[Jc h,JO];intro z hz;obtain⟨e,he,rfl⟩:=Yg.mp hz;rw[GV λq=>h (by rw[<- vT q];exact he)];exact Ym
def Z4:Sp:=λvs H Q _=>∃(p l aa:Addr) (n m:Nat) (rows:RS) (AJ:KL),vs=[.ref p,.ref l,.ref aa,.int n,.int m]/\(∃ o,H p=some o/\DM o)/\HF H l rows/\AR rows/\H aa=some (.dK AJ)/\Bu H rows rows AJ/\1<=n/\n<=4/\m<=63 /\
 ∀(ld:Addr) (ds:List (LS)) (us:LV) (H':Hp),Drawn p H H'->H ld=none->H' ld=some (.lst us)->A0 H' ds us->BE rows n ds->ds.length<=m->Q (.ref ld) H'
abbrev gQ(K:Fg):LV->Hp->VK->Prop:=λxs H Q=>∃ p ys,xs=[.ref p]/\(SqL K H p ys\/AL K H p ys)/\Q (.int ys.length) H
structure vc(mg:Str->OU):Prop where
 len:mg "len"=none
 range:mg "range"=none
 tuple:mg "tuple"=none
abbrev UR:LS:=["pot","rows","above","places","most","words","base","deeds","k","deed","near","place","some"]
def eN:Ab UR ["pot","rows","above","places","most"] (AK N2):=by nofun
def Zb:(["row"]:LS).Nodup:=by rfl'
def tH:(["k","words","pot"]:LS).Nodup:=by rfl'
def A0.drawn{p:Addr}{H H':Hp}{o:HO}{ds:List (LS)}{us:LV}(h:A0 H ds us)(k:∀ b xs,H b=some (.tup xs)->H' b=some (.tup xs)):A0 H' ds us:=Paired.mapP h λ_ _ ⟨t,e,x⟩=>⟨t,e,k _ _ x⟩
set_option maxHeartbeats 8000000 in
def nO(F:Def K mg "_law_deeds" N2 ["pot","rows","above","places","most"] f fd)(DT:Def K mg "_law_take" Gb ["pot","many"] fT fdT)(T:vc mg):
  ⋯ 2 f fd ["pot","rows","above","places","most"] Z4:=by
 have GT:⋯ 1 fT fdT ["pot","many"] Iz:=PQ DT
 nomatch F.fn.ok eN
 ·obtain⟨p,l,aa,n,m,rows,AJ,rfl,_⟩:=h;rfl
 ·obtain⟨p,l,aa,n,m,rows,AJ,rfl,⟨o0,Dx,E4⟩,hR,g,Ce,hA,n1,n4,hm,q⟩:=h;have nd:=eN.nd;have hu:=ER hr;have Ah:AU 1 _:=hr.mono (by decide);have gle:=g.le
  ac_nf
  refine'⟨_,pS (B1 (i:=5) nd rfl (Or.inr rfl) ?e1)
   (pS ?e2
   (pS (sE 7 nd (B4 AB))
   (pS (Bt Ys rfl (FF (by rfl) T.range (pC (AN DT GT Ah (pC (pv 0) (pC (Ai ET (pv 4) AI) AB))) AB)) (gE 8 nd)
    (pS (sE 9 nd (B4 AB))
    (pS (sE 10 nd (AN DT GT Ah (pC (pv 0) (pC AI AB))))
    (pS (Bt Ys rfl (FF (by rfl) T.range (pC (pv 3) AB)) (gE 11 nd)
     (pS (sE 12 nd (pv 5))
     (JB (Aj (Am NU (pv 10) AI (Ak _)) (AG (sE 12 nd (Fm hu (pv 2) (AV Ar (pv 6) (pv 11) (λ_ _=>rfl)) (λ_ _=>rfl)))) Al)
     (AG (B5 (C7 C1 IM IL GZ (pv 9) (pC (AV Ar (pv 12) (AN DT GT Ah (pC (pv 0) (pC (Af CC (by rfl) T.len Yz (pC (pv 12) AB)) AB))) (λ_ _=>rfl)) AB)))))))
    (AG (Aj (Am (oF (Te hr)) (HM N_ (by rfl) T.tuple Kg (pC (pv 9) AB)) (pv 7) (by with_unfolding_all rfl))
     (AG (B5 (C7 C1 IM IL GZ (pv 7) (pC (HM N_ (by rfl) T.tuple Kg (pC (pv 9) AB)) AB)))) Al))))))
   (AG (AS (pv 7)))))),?_⟩
  case e1=>exact(BC ["row"] [] [] (λ_=>A4 (osc:=AK N2) (on:=UR) (by rfl') rfl rfl rfl) (Be (pv 1)) (λC s H fp=>Ay (i:=0) Zb rfl (Or.inl rfl) (Or.inr rfl)) (λC s H fp=>B6) (λC s H fp=>AV (r:=BN K) BQ (pv 0) AI (λ_ _=>rfl)))
  case e2=>exact(Sw (k:=6) ["k"] ["words","pot"] [5,0] nd rfl rfl (λ_=>A4 (osc:=AK N2) (on:=UR) (by rfl') rfl rfl rfl) (FF (by rfl) T.range (pC (pv 3) AB)) (λC s H fp=>Ay (i:=0) tH rfl (Or.inl rfl) (Or.inr rfl)) (λC s H fp=>B6)
    (λC s H fp=>AV (r:=BV K) Ar (pv 1) (AN DT GT Ah (pC (pv 2) (pC (Af (r:=gQ K) CC (by rfl) T.len Yz (pC (pv 1) AB)) AB))) (λ_ _=>rfl)))
  exists let b:=_;let c:=D0 _ b _;let e:=_;let f:=_;let g:=MJ (D0 _ f _) e;let h:=AE _ g;let i:=AE (Bz _ _ h) c;let j:=AE _ i;let k:=AE _ j;let l:=AE (Bz _ _ k) a;let m:=AE _ l;let n:=AE _ m;AE _ n _ _ _
  obtain⟨iq,XC,xT⟩:=id hR;refine⟨Z,l,Y,⟨_,SqL.of XC⟩,dA hR (by omega) (λt u x H' R ht hRx=>⟨Z,t,_,_,Z,Y,AL.of ht,Y,hRx⟩) λlw H1 hlw s1 hw=>?_⟩;have Eg:=s1 _ _ Dx;have lwp:lw≠p:=Yr (O7 Eg E4 hw);have lwH:H lw=none:=hlw;have wne:rows.map (·.1)≠[]:=by
   have:=g.ne;intro z;have z2:=congrArg List.length z;rw[Ya]at z2;simp at z2;rw[z2]at this;simp at this
  have wpos:0<(rows.map (·.1)).length:=IH.mpr wne;have wl:(rows.map (·.1)).length<=24:=by rw[Ya];exact gle
  let BG:Addr->Nat->LV->St->Hp->Prop:=λD i ys σ' H'=>Drawn p H1 H'/\H' D=some (.lst ys)/\∃(bs:LS) (o:OV),ys=bs.map V.str/\bs.length=i/\(∀ x∈bs,x∈rows.map (·.1))/\σ'=[o,some (.ref lw),some (.ref p)];refine⟨Z,n,Y,W,W,Nt Es (by rw[Ca];exact sL (by omega)) BG
   (λD hD=>⟨(Drawn.refl ⟨o0,Eg,E4⟩).new hD,uS,[],none,Y,Y,(λx h=>nomatch h),Y⟩) (λD i ys σ' H' _ h0=>by obtain⟨_,_,bs,_,e,el,_⟩:=h0;exact⟨trivial,by rw[e,Ya];omega⟩) ?_ ?_⟩
  ·rintro D i v ys σ' H' hD hi ⟨d,hl,bs,o,rfl,rfl,hb,rfl⟩;obtain⟨hi,rfl⟩:=Ds hi;obtain⟨o1,hpp,hoo⟩:=d.pot;have M_:=d.keep _ _ lwp hw;have pD:p≠D:=AH Eg hD;refine⟨Z,Z,Z,lw,Z,.inl (SqL.of M_),p,_,o1,Y,hpp,hoo,Q,Q,λv o2 CI CH CA=>?_⟩;obtain⟨x,hxm,hat⟩:=So CI CH;have d2:Drawn p H' (upd H' p o2):=Drawn.upd CA;refine⟨lw,_,_,Z,Y,SqL.of (d2.keep _ _ lwp M_),hat,d2.keep _ _ (Yr pD) hl,(d.trans d2).sub (o':=.lst []) (q:=D) (λb o hb e=>by rw[AD hb];exact e) hD pD,uS,bs++[x],_,by rw[CD];rfl,G,λy hy=>?_,Y⟩
   rcases Yv.mp hy with z | z
   ·exact hb y z
   ·rw[Yj.mp z];exact hxm
  rintro lb ys σ' H2 hlb ⟨d2,Qr,bs,o,rfl,hbl,hb,rfl⟩;rw[Ca]at hbl;have hbl:bs.length=n:=by simpa using hbl
  have Y8:Drawn p H H2:=⟨λb o hb e=>d2.keep b o hb (s1 _ _ e),d2.pot⟩;have Jp:=d2.keep _ _ lwp hw;have lbH:H lb=none:=s1.free hlb;have pb:p≠lb:=AH Dx lbH;have wb:lw≠lb:=AH hw hlb;refine⟨BF _,λld hld=>?_⟩;have d3:=Y8.new (o:=.lst []) hld;have Ks:∀ b o,H2 b=some o->(upd H2 ld (.lst [])) b=some o:=Ap hld;have ldH:H ld=none:=by
   cases e:H ld with
   | none=>rfl
   | some u =>
    by_cases z:ld=p
    ·obtain⟨o1,h1,_⟩:=d2.pot;rw[z,h1]at hld;cases hld
    ·rw[Y8.keep _ _ z e]at hld;cases hld
  have pd:p≠ld:=AH Dx ldH;have wd:lw≠ld:=AH Jp hld;have bd:lb≠ld:=AH Qr hld;obtain⟨o3,Ef,Eh⟩:=d3.pot;refine⟨Z,Z,_,Z,Y,p,_,o3,Y,Ef,Eh,W,W,λv o4 CI CH Uk=>⟨v,Y,W,W,?_⟩⟩;have d4:Drawn p H (upd (upd H2 ld (.lst [])) p o4):=d3.trans (Drawn.upd Uk);let Cg:NW:=λi σ H'=>∃(ds:List (LS)) (us:LV) (a b c d e:OV),σ=[some (.ref p),some (.ref l),some (.ref aa),some (.int n),some (.int m),some (.ref lw),some (.ref lb),some (.ref ld),a,b,c,d,e]/\Drawn p H H'/\H' lw=some (.lst ((rows.map (·.1)).map V.str))/\H' lb=some (.lst (bs.map V.str))/\H' ld=some (.lst us)/\A0 H' ds us/\(∀ d∈ds,BX rows n d)/\ds.Nodup/\ds.length<=i;refine B8 Es Cg
   ⟨[],[],none,none,none,none,none,Y,d4,by rw[AD lwp];exact Ks _ _ Jp,by rw[AD (Yr pb)];exact Ks _ _ Qr,by rw[AD (Yr pd)];exact uS,.nil,(λd h=>nomatch h),OL,Yf _⟩ (λ_ _ _ _ _=>trivial) ?_ ?_
  ·rintro i v' σ H5 hi ⟨ds,us,a5,b5,c5,e5,f5,rfl,d5,Rc,Rk,Om,NF,Uu,X1,xS⟩;obtain⟨hi,rfl⟩:=Ds hi;obtain⟨o5,Gz,NB⟩:=d5.pot;refine⟨BF _,λlq hlq=>?_⟩;have d6:=(Drawn.refl (p:=p) ⟨o5,Gz,NB⟩).new (o:=.lst []) hlq;obtain⟨o6,Ia,FT⟩:=d6.pot;refine⟨Z,p,3,o6,Y,Ia,FT,V,V,λnr o7 xo xn Hh=>?_⟩;have pq:p≠lq:=AH Gz hlq;have d7:Drawn p H5 (upd (upd H5 lq (.lst [])) p o7):=d6.trans (Drawn.upd Hh);let Fq:NW:=λj σ H'=>∃(xs:LS) (d e:OV),σ=[some (.ref p),some (.ref l),some (.ref aa),some (.int n),some (.int m),some (.ref lw),some (.ref lb),some (.ref ld),some (.int (0 + (i:Nat))),some (.ref lq),some (.int nr),d,e]/\Drawn p H5 H'/\H' lq=some (.lst (xs.map V.str))/\xs.length=j/\∀ x∈xs,x∈rows.map (·.1);refine⟨Z,n,Y,W,W,B8 Es Fq
    ⟨[],_,Z,d7,by rw[AD (Yr pq)];exact uS,Y,(λx h=>nomatch h)⟩ (λ_ _ _ _ _=>trivial) ?_ ?_⟩
   ·rintro j v2 σ H8 hj ⟨xs,d8,e8,rfl,FY,Ob,rfl,Rb⟩;obtain⟨hj,rfl⟩:=Ds hj;have hj:xs.length<n:=by omega
    obtain⟨o8,Oc,Js⟩:=FY.pot;have HX:=d5.trans FY;have Ue:=FY.keep _ _ lwp Rc;have kF:=FY.keep _ _ (Yr pb) Rk;refine⟨Z,?_⟩;let EG:SW:=λσ' H'=>∃(as:Addr) (fs:LS),σ'=[some (.ref p),some (.ref l),some (.ref aa),some (.int n),some (.int m),some (.ref lw),some (.ref lb),some (.ref ld),some (.int (0 + (i:Nat))),some (.ref lq),some (.int nr),some (.int (0 + (xs.length:Nat))),some (.ref as)]/\H'=H8/\H8 as=some (.lst (fs.map V.str))/\fs≠[]/\fs.length<=24/\∀ x∈fs,x∈rows.map (·.1);refine⟨EG,?_,?_⟩
    ·refine⟨Z,_,Z,Y,Z,A9 (λh=>?_) (λh=>?_)⟩
     ·have hbx:bs[xs.length]?=some (bs[xs.length]'(by omega)):=Yb (by omega);generalize bs[xs.length]'(by omega)=x at hbx;have hxm:=hb x (Yc hbx);obtain⟨r,An,er⟩:=Er hxm;obtain⟨t,fs,hv,ht,hfs,fl⟩:=hA.val' g.nd An;have xfs:x∈fs:=(hfs x).mpr (by rw[er];exact .refl x);have tp:t≠p:=Yr (O7 Dx E4 ht);have aap:aa≠p:=λz=>by rw[z,Dx]at Ce;obtain⟨_,_,q',_⟩:=E4;rw[q']at Ce;cases Ce
      have hat:BS (bs.map V.str) (0 + (xs.length:Nat):Int)=some (.str x):=by
       rw[FL];refine EB ?_;rw[Yi,hbx];rfl
      have kn:∀ y∈fs,y∈rows.map (·.1):=λy hy=>Sf g hxm (by rw[<- er];exact(hfs y).mp hy);exact⟨Z,Z,Z,lb,_,_,Z,Y,SqL.of kF,hat,aa,Z,(by rw[<- hv,er];exact BM.k (k:=Sum.inr x) (HX.keep _ _ aap Ce)),t,fs,Y,Y,HX.keep _ _ tp ht,(λz=>by rw[z]at xfs;cases xfs),W,kn⟩
     ·exact⟨lw,Z,Y,Ue,wne,wl,λx h=>h⟩
    ·rintro σ' H' ⟨as,fs,rfl,kZ,has,Uv,fl,fk⟩;have e9:=kZ.symm;subst e9;have fpos:0<fs.length:=IH.mpr Uv;have ap:as≠p:=Yr (O7 Oc Js has);refine⟨Z,.inl ⟨Y,_,SqL.of Ob⟩,Z,Z,Z,as,Z,.inl (SqL.of has),p,_,o8,Y,Oc,Js,Q,Q,λv o9 CI CH Uj=>?_⟩;obtain⟨x,hxm,hat⟩:=So CI CH;have d9:Drawn p H8 (upd H8 p o9):=Drawn.upd Uj;have j0:=d9.keep _ _ (Yr pq) Ob;refine⟨as,_,_,Z,Y,SqL.of (d9.keep _ _ ap has),hat,lq,_,Z,Y,j0,CZ (by rw[Ya];omega),xs++[x],_,Z,(FY.trans d9).sub (o':=.lst []) (q:=lq) (λb o hb e=>by rw[AD hb];exact e) hlq pq,by rw[uS,CD];rfl,G,λy hy=>?_⟩
     rcases Yv.mp hy with z | z
     ·exact Rb y z
     ·rw[Yj.mp z];exact fk x hxm
   ·rintro σ H8 ⟨xs,d8,e8,rfl,FY,Ob,hxl,Rb⟩;rw[Ca]at hxl;have hxl:xs.length=n:=by simpa using hxl
    have ldp:ld≠p:=Yr pd;have Rj:=FY.keep _ _ ldp Om;have G0:A0 H8 ds us:=NF.drawn (p:=p) (o:=.lst []) λb zs e=>Drawn.tup FY Gz NB e;have okx:∀ y∈xs,Bj y=true:=λy hy=>V5 g y (Rb y hy);have okd:∀ d∈ds,∀ y∈d,Bj y=true:=λd hd y hy=>V5 g y ((Uu d hd).known y hy);have HX:=d5.trans FY;have ldq:ld≠lq:=AH Om hlq;have lwq:lw≠lq:=AH Rc hlq;have lbq:lb≠lq:=AH Rk hlq;have CK:i<m + 1:=by omega
    refine⟨Z,lq,Z,.inl ⟨SqL.of Ob,λt ht=>?_⟩⟩;have s9:AA H8 (upd H8 t (.tup (xs.map V.str))):=Ap ht;refine⟨Z,Fe xs,ds.map Fe,aT uS,.list (SqL.of (s9 _ _ Rj)) (cn (G0.mono s9)),Zd 8 okx,lP 7 okd,Z,?_⟩;rw[vQ];refine A9 (λh=>?_) (λh=>?_)
    ·have hn:xs∉ds:=by simpa using h
     refine⟨Z,.inl ⟨Y,_,SqL.of (s9 _ _ Rj)⟩,Z,lq,Z,.inl ⟨SqL.of (s9 _ _ Ob),λt2 BD=>?_⟩⟩;have E3:=s9.trans (Ap (o:=.tup (xs.map V.str)) BD);have Qt:=E3 _ _ Rj;have hul:=G0.length;refine⟨ld,_,Z,Y,Qt,CZ (by omega),ds++[xs],us++[.ref t2],_,_,_,_,Z,?_,?_,?_,uS,?_,?_,?_,?_⟩
     ·exact(HX.same E3).sub (o':=.lst []) (q:=ld) (λb o hb e=>by rw[AD hb];exact e) ldH pd
     ·rw[AD wd];exact E3 _ _ (FY.keep _ _ lwp Rc)
     ·rw[AD bd];exact E3 _ _ (FY.keep _ _ (Yr pb) Rk)
     ·have tk:∀ b zs,(upd (upd H8 t (.tup (xs.map V.str))) t2 (.tup (xs.map V.str))) b=some (.tup zs)->(upd (upd (upd H8 t (.tup (xs.map V.str))) t2 (.tup (xs.map V.str))) ld (.lst (us++[V.ref t2]))) b=some (.tup zs):=λb zs e=>by
       rw[AD (λz=>by rw[z,Qt]at e;cases e)];exact e
      exact Fn ((G0.mono E3).drawn (p:=p) (o:=.lst []) tk) ⟨t2,Y,tk _ _ uS⟩
     ·intro d hd
      rcases Yv.mp hd with z | z
      ·exact Uu d z
      ·rw[Yj.mp z];exact⟨hxl,Rb⟩
     ·rw[List.nodup_append];exact⟨X1,G,λa ha b hb e=>hn (by rw[<- Yj.mp hb,<- e];exact ha)⟩
     ·rw[Yt];show ds.length + 1<=i + 1;omega
    ·exact⟨ds,us,_,_,_,_,Z,HX.same s9,s9 _ _ (FY.keep _ _ lwp Rc),s9 _ _ (FY.keep _ _ (Yr pb) Rk),s9 _ _ Rj,G0.mono s9,Uu,X1,W⟩
  ·rintro σ H6 ⟨ds,us,a5,b5,c5,e5,f5,rfl,d6,xi,xt,Ij,kO,kT,jK,XA⟩;rw[Ca]at XA;exact⟨Z,q ld ds us H6 d6 ldH Ij kO ⟨kT,jK,W⟩ (by omega)⟩
def uP{H H':Hp}{rows:RS}{AJ:KL}(g:AR rows)(hA:Bu H rows rows AJ)(s:AA H H'){x:Str}(hx:x∈rows.map (·.1)):∃(t:Addr) (fs:LS),A2 AJ (Sum.inr x)=some (.ref t)/\H' t=some (.lst (fs.map V.str))/\∀ y,EJ (V.str y) (fs.map V.str)=AY rows x y:=by
 obtain⟨r,An,er⟩:=Er hx;obtain⟨t,fs,hv,ht,hfs⟩:=hA.val g.nd An;refine⟨t,fs,by rw[<- er];exact hv,s _ _ ht,λy=>?_⟩;rw[J7];exact Vr (by rw[er]at hfs;exact hfs) y
def bc:Sp:=λvs H Q _=>∃(aa a b:Addr) (rows:RS) (AJ:KL) (xs ys:LS),vs=[.ref aa,.ref a,.ref b]/\AR rows/\H aa=some (.dK AJ)/\Bu H rows rows AJ/\H a=some (.tup (xs.map V.str))/\H b=some (.tup (ys.map V.str))/\(∀ x∈xs,x∈rows.map (·.1))/\xs.length<=1000 /\
 ∀ H',AA H H'->Q (.bl (A_ rows xs ys)) H'
def iU(rows:RS):V×V->V
 | (.str x,.str y)=>.bl (AY rows x y)
 | _=>.non
def pj(rows:RS)(xs ys:LS):(((xs.map V.str).zip (ys.map V.str)).filter λ_=>true).map (iU rows)=((xs.zip ys).map λp=>AY rows p.1 p.2).map V.bl:=by
 rw[SQ,SN,Bo,Bo];rfl
def sR:(["under","word","above"]:LS).Nodup:=by rfl'
structure WR(mg:Str->OU):Prop where
 all:mg "all"=none
 zip:mg "zip"=none
 isi:mg "isinstance"=none
 int:mg "int"=none
 bool:mg "bool"=none
abbrev K6:LS:=["above","one","other"]
def wF:Ab K6 K6 (AK P0):=by nofun
def pK(F:Def K mg "_law_within" P0 K6 f fd)(T:WR mg):⋯ 1 f fd K6 bc:=by
 nomatch F.fn.ok wF
 ·obtain⟨aa,a,b,rows,AJ,xs,ys,rfl,_⟩:=h;rfl
 ·obtain⟨aa,a,b,rows,AJ,xs,ys,rfl,g,Ce,hA,ha,hb,hx,hl,q⟩:=h;have hu:=ER hr
  ac_nf
  refine'⟨_,AG (AS (Af (J_ rfl) (by rfl) T.all Ko (pC ?ea AB))),?_⟩
  case ea=>exact(BC ["under","word"] ["above"] [0] (λ_=>A4 (osc:=AK P0) (on:=K6) (by rfl') rfl rfl rfl) (U8 (by rfl) T.zip (pC (pv 1) (pC (pv 2) AB)))
    (λC s H fp=>PF (K:=K) (i:=0) (j:=1) rfl rfl sR rfl rfl (Or.inl rfl) (Or.inl rfl) (Or.inr rfl) (Or.inr rfl)) (λC s H fp=>B6)
    (λC s H fp=>Hz (r:=M0 K false) Nw (pv 1) (Fm hu (pv 2) (pv 0) (λ_ _=>rfl)) (by with_unfolding_all rfl)))
  refine⟨Z,Z,a,b,_,Z,AL.of ha,AL.of hb,bE (sL (by rw[Kl,Ya];omega)) (λ_=>true) (iU rows) (λH' s'=>⟨AL.of (s' _ _ ha),AL.of (s' _ _ hb)⟩) ?_ ?_ ?_⟩
  ·intro x H' R s' _ hR;exact hR H' (AA.refl _)
  ·intro x H' R s' hxm _ hR;rw[SN]at hxm;obtain⟨z,hz,rfl⟩:=Yg.mp hxm;obtain⟨t,fs,hv,ht,hin⟩:=uP g hA s' (hx _ (Kn hz).1);refine⟨Z,Z,Z,aa,Z,(by rw[<- hv];exact BM.k (k:=Sum.inr z.1) (s' _ _ Ce)),t,Z,.inl (SqL.of ht),Y,Lu fs,?_⟩;have e1:(if false=true then !EJ (QG z).2 (fs.map V.str)else EJ (QG z).2 (fs.map V.str))=AY rows z.1 z.2:=by rw[if_neg (by decide)];exact hin z.2
   rw[e1];exact hR H' (AA.refl _)
  ·intro D H' hD s' CB;refine⟨D,Z,SqL.of (by rw[CB,pj]),?_⟩;have q':=q H' s';unfold A_ at q';show Q (.bl (((xs.zip ys).map λp=>AY rows p.1 p.2).all id)) _;rw[List.all_map];exact q'
def Zv:Sp:=λvs H Q _=>∃ i:Int,vs=[.int i]/\Q (.bl true) H
def wO:Ab ["found"] ["found"] (AK S6):=by nofun
def mW(F:Def K mg "_law_whole" S6 ["found"] f fd)(T:WR mg):⋯ 1 f fd ["found"] Zv:=by
 nomatch F.fn.ok wO
 ·obtain⟨i,rfl,_⟩:=h;rfl
 ·obtain⟨i,rfl,q⟩:=h
  ac_nf
  refine'⟨_,AG (AS (NZ ?ea (Nb (R8 ?eb)))),?_⟩
  case ea=>exact Af KA (by rfl) T.isi Kj (pC (pv 0) (pC (J8 (v:=.ty "int") (by rfl) T.int PyProof.Rows.boot_int rfl) AB))
  case eb=>exact Af KA (by rfl) T.isi Kj (pC (pv 0) (pC (J8 (v:=.ty "bool") (by rfl) T.bool PyProof.Rows.boot_bool rfl) AB))
  refine⟨Z,_,_,_,Z,.int i,Y,Z,By ⟨Z,_,_,_,Z,.int i,Y,Z,q⟩⟩
def wB(rows:RS)(ds:List (LS))(j k:Nat):Bool:=A_ rows (ds.getD j []) (ds.getD k [])
def LW(W:Nat->Nat->Bool)(near:LN)(x:Nat):LN:=if near.any (λk=>W k x)=true then near else near.filter (λk=>!W x k)++[x]
def Bn(W:Nat->Nat->Bool)(l:LN):LN:=l.filter λk=>!(l.any λj=>!decide (j=k)&&W j k)
structure ES(W:Nat->Nat->Bool)(l near:LN):Prop where
 sub:near.Sublist l
 min:∀ k∈near,∀ j∈l,W j k=true->j=k
 dom:∀ j∈l,∃ k∈near,k=j\/W k j=true
def ES.nil(W:Nat->Nat->Bool):ES W [] []:=⟨.slnil,(λk h=>nomatch h),(λk h=>nomatch h)⟩
def ES.step{W:Nat->Nat->Bool}{l near:LN}{x:Nat}{S:Nat->Prop}(tr:∀ a b c,S a->S b->S c->W a b=true->W b c=true->W a c=true)(an:∀ a b,S a->S b->W a b=true->W b a=true->a=b)(hl:∀ k∈l,S k)(hx:S x)(h:ES W l near):ES W (l++[x]) (LW W near x):=by
 have ns:∀ k∈near,S k:=λk hk=>hl k (h.sub.subset hk);unfold LW;by_cases c:near.any (λk=>W k x)=true
 ·rw[if_pos c];obtain⟨k0,Cc,w0⟩:=FK.mp c;refine⟨h.sub.trans (List.sublist_append_left _ _),λk hk j hj w=>?_,λj hj=>?_⟩
  ·rcases Yv.mp hj with z | z
   ·exact h.min k hk j z w
   ·have e:j=x:=Yj.mp z;subst e;have e1:=h.min k hk k0 (h.sub.subset Cc) (tr k0 j k (ns _ Cc) hx (ns _ hk) w0 w);rw[e1]at w0;exact an j k hx (ns _ hk) w w0
  ·rcases Yv.mp hj with z | z
   ·exact h.dom j z
   ·rw[Yj.mp z];exact⟨k0,Cc,.inr w0⟩
 ·rw[if_neg c];have nc:∀ k∈near,¬ W k x=true:=λk hk w=>c (FK.mpr ⟨k,hk,w⟩);refine⟨List.Sublist.append (List.filter_sublist.trans h.sub) (List.Sublist.refl _),λk hk j hj w=>?_,λj hj=>?_⟩
  ·rcases Yv.mp hk with y | y
   ·obtain⟨y1,y2⟩:=Yu.mp y
    rcases Yv.mp hj with z | z
    ·exact h.min k y1 j z w
    ·rw[Yj.mp z]at w;rw[w]at y2;cases y2
   ·have e:k=x:=Yj.mp y;subst e
    rcases Yv.mp hj with z | z
    ·obtain⟨k0,Cc,d⟩:=h.dom j z
     rcases d with d | d
     ·rw[d]at Cc;exact absurd w (nc j Cc)
     ·exact absurd (tr k0 j k (ns _ Cc) (hl _ z) hx d w) (nc k0 Cc)
    ·exact Yj.mp z
  ·rcases Yv.mp hj with z | z
   ·obtain⟨k0,Cc,d⟩:=h.dom j z;by_cases wx:W x k0=true
    ·refine⟨x,G,.inr ?_⟩
     rcases d with d | d
     ·rw[<- d];exact wx
     ·exact tr x k0 j hx (ns _ Cc) (hl _ z) wx d
    ·exact⟨k0,Km _ (Yu.mpr ⟨Cc,by simpa using wx⟩),d⟩
   ·rw[Yj.mp z];exact⟨x,G,.inl rfl⟩
theorem V9{α:Type}[DecidableEq α]:∀ {near l:List α},near.Sublist l->l.Nodup->near=l.filter λk=>decide (k∈near)
 | _,_,.slnil,_=>rfl
 | _,_,.cons a h,nd=>by
  obtain⟨n1,n2⟩:=Ed.mp nd;rw[ED,if_neg (by simpa using λm=>n1 (h.subset m))];exact V9 h n2
 | _,_,.cons₂ (l₁:=n) (l₂:=l) a h,nd=>by
  obtain⟨n1,n2⟩:=Ed.mp nd;rw[ED,if_pos (by simp)]
  congr 1
  have e:(l.filter λk=>decide (k∈a :: n))=l.filter λk=>decide (k∈n):=QP λk hk=>by
   have:k≠a:=λz=>n1 (by rw[<- z];exact hk);simp[this]
  rw[e];exact V9 h n2
def ES.is{W:Nat->Nat->Bool}{l near:LN}(nd:l.Nodup)(h:ES W l near):near=Bn W l:=by
 refine(V9 h.sub nd).trans ?_;unfold Bn;refine QP λk hk=>?_;rw[HP,decide_eq_true_iff,KY,JO];constructor
 ·intro hm j hj z;rw[Du]at z;have:=h.min k hm j hj z.2;simp[this]at z
 ·intro hm;obtain⟨k0,Cc,d⟩:=h.dom k hk
  rcases d with d | d
  ·rw[<- d];exact Cc
  ·by_cases e:k0=k
   ·rw[<- e];exact Cc
   ·exact absurd (by rw[Du];exact⟨by simp[e],d⟩) (hm k0 (h.sub.subset Cc))
def Pt{rows:RS}{x y:Str}:AY rows x y=true↔Graph.Reach (Ag rows) x y:=by
 unfold AY;exact @decide_eq_true_iff _ (Classical.propDecidable _)
def vM{rows:RS}(g:AR rows):∃ rk:Str->Nat,∀ a b,b∈Ag rows a->rk b<rk a:=by
 obtain⟨rk,hrk⟩:=g.rank;refine⟨rk,λa b hb=>?_⟩;unfold Ag at hb;cases e:rows.lookup a with
 | none=>rw[e]at hb;simp at hb
 | some us =>
  rw[e]at hb;have hm:(a,us)∈rows:=Dv e;exact hrk (a,us) hm b hb
def pz{rows:RS}(g:AR rows){x y:Str}(h1:Graph.Reach (Ag rows) x y)(h2:Graph.Reach (Ag rows) y x):x=y:=by
 obtain⟨rk,hrk⟩:=vM g;refine IE λne=>?_;have a:=Graph.Reach.rank_lt hrk h1 ne;have b:=Graph.Reach.rank hrk h2;omega
def qD{ups:Str->LS}{x y z:Str}(h1:Graph.Reach ups x y)(h2:Graph.Reach ups y z):Graph.Reach ups x z:=h1.trans h2
def KP{rows:RS}{xs ys:LS}:A_ rows xs ys=true↔∀(i:Nat) (x y:Str),xs[i]?=some x->ys[i]?=some y->Graph.Reach (Ag rows) x y:=by
 unfold A_;rw[Cr];constructor
 ·intro h i x y hx hy;have hz:(xs.zip ys)[i]?=some (x,y):=by rw[Wx];exact⟨hx,hy⟩
  exact Pt.mp (h _ (Yc hz))
 ·intro h p hp;obtain⟨i,hi⟩:=Gj hp;rw[Wx]at hi;exact Pt.mpr (h i _ _ hi.1 hi.2)
def dW{rows:RS}{n:Nat}{xs ys zs:LS}(h1:xs.length=n)(h2:ys.length=n)(h3:zs.length=n)(a:A_ rows xs ys=true)(b:A_ rows ys zs=true):A_ rows xs zs=true:=by
 rw[KP]at a b ⊢;intro i x z hx hz;have hi:i<ys.length:=by have:=(Ye.mp hx).1;omega
 exact qD (a i x _ hx (Yb hi)) (b i _ z (Yb hi) hz)
def qQ{rows:RS}(g:AR rows){n:Nat}{xs ys:LS}(h1:xs.length=n)(h2:ys.length=n)(a:A_ rows xs ys=true)(b:A_ rows ys xs=true):xs=ys:=by
 rw[KP]at a b;refine List.ext_getElem (h1.trans h2.symm) λi i1 i2=>?_;exact pz g (a i _ _ (Yb i1) (Yb i2)) (b i _ _ (Yb i2) (Yb i1))
def DZ{ds:List (LS)}{j:Nat}(h:j<ds.length):ds[j]?=some (ds.getD j []):=by
 rw[Yh,Yb h];rfl
section
variable {rows:RS}{n:Nat}{ds:List (LS)}(g:AR rows)(gd:BE rows n ds)
include gd in
def mR(a b c:Nat)(ha:a<ds.length)(hb:b<ds.length)(hc:c<ds.length)(h1:wB rows ds a b=true)(h2:wB rows ds b c=true):wB rows ds a c=true :=
 dW (gd.call _ (Yc (DZ ha))).len (gd.call _ (Yc (DZ hb))).len (gd.call _ (Yc (DZ hc))).len h1 h2
include g gd in
def vF(a b:Nat)(ha:a<ds.length)(hb:b<ds.length)(h1:wB rows ds a b=true)(h2:wB rows ds b a=true):a=b:=by
 have e:=qQ g (gd.call _ (Yc (DZ ha))).len (gd.call _ (Yc (DZ hb))).len h1 h2;have h3:=DZ ha;have h4:=DZ hb;rw[e]at h3;exact(List.getElem?_inj ha gd.nd).mp (h3.trans h4.symm)
include g gd in
def bz{l near:LN}{x:Nat}(hl:∀ k∈l,k<ds.length)(hx:x<ds.length)(h:ES (wB rows ds) l near):ES (wB rows ds) (l++[x]) (LW (wB rows ds) near x):=
 h.step (S:=λk=>k<ds.length) (mR gd) (vF g gd) hl hx
end
def cz(C:Addr):Sp:=λvs H Q _=>∃(p ld ln:Addr) (x n:Nat) (rows:RS) (ds:List (LS)) (us:LV) (near:LN),vs=[.ref p,.ref ld,.ref ln,.int x]/\BA C H p rows/\AR rows/\H ld=some (.lst us)/\A0 H ds us/\BE rows n ds/\H ln=some (.lst (near.map AF))/\(∀ k∈near,k<ds.length)/\x<ds.length/\near.length<=64 /\
 ∀ l H',AA H H'->(l=ln\/H l=none)->H' l=some (.lst ((LW (wB rows ds) near x).map AF))->Q (.ref l) H'
def wV(rows:RS)(ds:List (LS))(x:Nat):V->V
 | .int j=>.bl (wB rows ds j.toNat x)
 | _=>.non
def X0(rows:RS)(ds:List (LS))(x:Nat):V->Bool
 | .int j=>!wB rows ds x j.toNat
 | _=>false
def uQ(rows:RS)(ds:List (LS))(x:Nat)(near:LN):((near.map AF).filter λ_=>true).map (wV rows ds x)=(near.map λk=>wB rows ds k x).map V.bl:=by
 rw[Et.mpr (λ_ _=>rfl),Bo,Bo];rfl
def uV(rows:RS)(ds:List (LS))(x:Nat)(near:LN):((near.map AF).filter (X0 rows ds x)).map (λv=>v)=(near.filter λk=>!wB rows ds x k).map AF:=by
 rw[Gh,II];rfl
def Za:(["kept","kinds","deeds","number"]:LS).Nodup:=by rfl'
abbrev Jm:LS:=["kinds","deeds","near","number"]
def wH:Ab Jm Jm (AK N9):=by nofun
def qU(F:Def K mg "nearest_with" N9 Jm f fd)(any:mg "any"=none)(DW:Def K mg "within" Lq ["kinds","one","other"] fW fdW)(GW:⋯ 4 fW fdW ["kinds","one","other"] (Zip C)):
  ⋯ 5 f fd Jm (cz C):=by
 nomatch F.fn.ok wH
 ·obtain⟨p,ld,ln,x,n,rows,ds,us,near,rfl,_⟩:=h;rfl
 ·obtain⟨p,ld,ln,x,n,rows,ds,us,near,rfl,kd,g,hld,hD,gd,Cs,hk,hx,hn,q⟩:=h
  ac_nf
  refine'⟨_,pS (Aj (B7 (Af (Np rfl) (by rfl) any OO (pC ?ea AB))) (AG (AS (pv 2))) Al) (AG (AS (Ai VA ?eb (B4 (pC (pv 3) AB))))),?_⟩
  case ea=>exact(BC ["kept"] ["kinds","deeds","number"] [0,1,3] (λ_=>A4 (osc:=AK N9) (on:=Jm) (by rfl') rfl rfl rfl) (Be (pv 2)) (λC s H fp=>Ay (i:=0) Za rfl (Or.inl rfl) (Or.inr rfl)) (λC s H fp=>B6)
    (λC s H fp=>AN DW GW hr (pC (pv 1) (pC (AV (r:=BV K) Ar (pv 2) (pv 0) (λ_ _=>rfl)) (pC (AV (r:=BV K) Ar (pv 2) (pv 3) (λ_ _=>rfl)) AB)))))
  case eb=>exact(BC ["kept"] ["kinds","deeds","number"] [0,1,3] (λ_=>A4 (osc:=AK N9) (on:=Jm) (by rfl') rfl rfl rfl) (Be (pv 2)) (λC s H fp=>Ay (i:=0) Za rfl (Or.inl rfl) (Or.inr rfl))
    (λC s H fp=>EX (CV (B7 (AN DW GW hr (pC (pv 1) (pC (AV (r:=BV K) Ar (pv 2) (pv 3) (λ_ _=>rfl)) (pC (AV (r:=BV K) Ar (pv 2) (pv 0) (λ_ _=>rfl)) AB))))))) (λC s H fp=>pv 0))
  exists AE _ a _ _ _
  have hul:=hD.length;have at_:∀(H':Hp) (k:Nat),AA H H'->k<ds.length->∃ t,BS us ((k:Nat):Int)=some (.ref t)/\H' t=some (.tup ((ds.getD k []).map V.str)):=λH' k s' hk=>by
   have Cd:k<us.length:=by omega
   obtain⟨dd,hdd,t,e,ht⟩:=C0 hD (Yb Cd);refine⟨t,EB ((Yb Cd).trans (congrArg some e)),?_⟩;have e2:ds.getD k []=dd:=by rw[Yh,hdd];rfl
   rw[e2];exact s' _ _ ht
  have kn:∀ k,k<ds.length->∀ y∈ds.getD k [],y∈rows.map (·.1):=λk hk=>(gd.call _ (Yc (DZ hk))).known;refine⟨Z,ln,Y,⟨_,SqL.of Cs⟩,EY (Bk (xs:=near.map AF)) (sL (by rw[Ya];omega)) (λ_=>true) (wV rows ds x) (λH' s'=>s'.seq (SqL.of Cs)) ?_ ?_ ?_⟩
  ·intro v H' R s' _ hR;exact hR H' (AA.refl _)
  ·intro v H' R s' hv _ hR;obtain⟨k,Cd,rfl⟩:=Yg.mp hv;obtain⟨t1,a1,h1⟩:=at_ H' k s' (hk k Cd);obtain⟨t2,a2,h2⟩:=at_ H' x s' hx;exact⟨Z,Z,Z,ld,_,_,Z,Y,SqL.of (s' _ _ hld),a1,Z,Z,ld,_,_,Z,Y,SqL.of (s' _ _ hld),a2,p,t1,t2,rows,_,Z,kd.mono s',g,h1,h2,kn k (hk k Cd),kn x hx,λBH BR=>hR BH BR⟩
  ·intro D H1 Rp s1 Aq;rw[uQ]at Aq;have eA:(near.map λk=>wB rows ds k x).any id=near.any λk=>wB rows ds k x:=by rw[List.any_map];rfl
   refine⟨D,Z,SqL.of Aq,_,congrArg V.bl eA,?_⟩;refine A9 (λh=>?_) (λh=>?_)
   ·refine⟨Z,q ln H1 s1 (.inl rfl) ?_⟩;unfold LW;rw[if_pos h];exact s1 _ _ Cs
   ·refine⟨Z,ln,Y,⟨_,SqL.of (s1 _ _ Cs)⟩,EY (Bk (xs:=near.map AF)) (sL (by rw[Ya];omega)) (X0 rows ds x) (λv=>v) (λH' s'=>s'.seq (SqL.of (s1 _ _ Cs))) ?_ ?_ ?_⟩
    ·intro v H' R s' hv hR;obtain⟨k,Cd,rfl⟩:=Yg.mp hv;have s2:=s1.trans s';obtain⟨t1,a1,h1⟩:=at_ H' k s2 (hk k Cd);obtain⟨t2,a2,h2⟩:=at_ H' x s2 hx;exact⟨Z,Z,Z,ld,_,_,Z,Y,SqL.of (s2 _ _ hld),a2,Z,Z,ld,_,_,Z,Y,SqL.of (s2 _ _ hld),a1,p,t2,t1,rows,_,Z,kd.mono s2,g,h2,h1,kn x hx,kn k (hk k Cd),λBH BR=>⟨Z,hR BH BR⟩⟩
    ·intro v H' R s' hv _ hR;exact⟨Z,hR H' (AA.refl _)⟩
    ·intro D2 H2 G5 s2 BK;rw[uV]at BK;have fl:(near.filter λk=>!wB rows ds x k).length<=64:=A7 (EE _ _) hn;refine⟨Z,J,λl3 Bm=>⟨D2,l3,_,Z,Y,(Ap Bm) _ _ BK,uS,sL (by rw[Ya];show _ + 1<=100000;omega),λl4 Di=>?_⟩⟩;have C4:=s1.trans s2;have s3:=C4.trans (Ap (o:=.lst [.int x]) Bm);refine q l4 _ (s3.trans (Ap Di)) (.inr (s3.free Di)) ?_;rw[uS];unfold LW;rw[if_neg h,CD];rfl
def WE(C B:Addr):Sp:=λvs H Q _=>∃(p k l:Addr) (rows:RS) (n:Nat) (ds:List (LS)) (ms:LN),vs=[.ref p,.ref l]/\B0 C B H p k rows n ds/\AR rows/\BE rows n ds/\H l=some (.lst (ms.map AF))/\(∀ j∈ms,j<ds.length)/\ms.Nodup/\ms.length<=64 /\
 ∀ l' H',AA H H'->H l'=none->H' l'=some (.lst ((Bn (wB rows ds) ms).map AF))->Q (.ref l') H'
abbrev jQ:LS:=["board","numbers","kinds","deeds","near","number"]
def gF:Ab jQ ["board","numbers"] (AK P5):=by nofun
def ZZ{ms:LN}{i:Nat}{v:V}(h:(ms.map AF)[i]?=some v):∃ x,ms[i]?=some x/\v=.int (x:Nat):=by
 obtain⟨x,h1,h2⟩:=Lv h;exact⟨x,h1,h2.symm⟩
def qc(F:Def K mg "nearest_among" P5 ["board","numbers"] f fd)(list:mg "list"=none)(any:mg "any"=none)(TB:E_ K B)(MK:Lg K B fK fdK)(MD:Nf K B fDe fdDe)(DN:Def K mg "nearest_with" N9 Jm fN fdN)
  (DW:Def K mg "within" Lq ["kinds","one","other"] fW fdW) (GW:⋯ 4 fW fdW ["kinds","one","other"] (Zip C)):⋯ 6 f fd ["board","numbers"] (WE C B):=by
 have GK:⋯ 1 fK fdK ["self"] (KI C B):=Ly MK.fn TB;have GD:⋯ 1 fDe fdDe ["self"] (Lr C B):=Nv MD.fn TB list;have GN:⋯ 5 fN fdN Jm (cz C):=qU DN any DW GW
 nomatch F.fn.ok gF
 ·obtain⟨p,k,l,rows,n,ds,ms,rfl,_⟩:=h;rfl
 ·obtain⟨p,k,l,rows,n,ds,ms,rfl,bd,g,gd,hl,hms,FQ,hml,q⟩:=h;obtain⟨dx,ts,Xj,h1,h2,h3,h4⟩:=bd.ex;have nd:=gF.nd;have Ah:AU 1 _:=hr.mono (by decide)
  ac_nf
  refine⟨_,(pS (sE 2 nd (C8 (pv 0) TB.cl MK.me GK Ah MK.b .nil A3))
   (pS (sE 3 nd (C8 (pv 0) TB.cl MD.me GD Ah MD.b .nil A3))
   (pS (sE 4 nd (B4 AB))
   (pS (Bt Ys rfl (Be (pv 1)) (gE 5 nd) (AG (sE 4 nd (AN DN GN hr (pC (pv 2) (pC (pv 3) (pC (pv 4) (pC (pv 5) AB))))))))
   (AG (AS (pv 4))))))),?_⟩
  exists let b:=_;let c:=AE (Bz _ _ b) a;let e:=AE _ c;let f:=AE _ e;AE _ f _ _ _
  refine⟨Z,p,dx,Z,h1,Lx _ _ _,p,k,O,Y,bd,?_⟩;refine⟨Z,p,dx,Z,h1,Lw _ _ _,p,k,O,Y,bd,λld us hld hD=>?_⟩;have s1:AA H (upd H ld (.lst us)):=Ap hld;refine⟨BF _,λl0 E5=>?_⟩;have s2:AA H (upd (upd H ld (.lst us)) l0 (.lst [])):=s1.trans (Ap E5);have XW:(upd (upd H ld (.lst us)) l0 (.lst [])) ld=some (.lst us):=(Ap E5) _ _ uS;have XY:H l0=none:=s1.free E5;let BG:NW:=λi σ H'=>∃(ln:Addr) (near:LN) (x:OV),σ=[some (.ref p),some (.ref l),some (.ref k),some (.ref ld),some (.ref ln),x]/\AA H H'/\H' ld=some (.lst us)/\H ln=none/\H' ln=some (.lst (near.map AF))/\ES (wB rows ds) (ms.take i) near;refine⟨Z,l,Y,⟨_,SqL.of (s2 _ _ hl)⟩,B8 (Bk (xs:=ms.map AF)) BG
   ⟨l0,[],none,Y,s2,XW,XY,uS,ES.nil _⟩ (λi σ H' _ h0=>by obtain⟨_,_,_,_,s',_⟩:=h0;exact SqL.of (s' _ _ hl)) ?_ ?_⟩
  ·rintro i v σ H' hi ⟨ln,near,x0,rfl,s',Mo,hlnH,Cs,ok⟩;obtain⟨x,hx,rfl⟩:=ZZ hi;have nl:near.length<=ms.length:=A7 ok.sub.length_le (by rw[Yx];omega);refine⟨Z,Z,Z,Z,k,ld,ln,x,n,rows,ds,us,near,Y,h2.mono s',g,Mo,hD.mono s',gd,Cs,λj hj=>hms j (MO (ok.sub.subset hj)),hms x (Yc hx),W,λl' H2 BR hor CB=>?_⟩;refine⟨l',_,Z,s'.trans BR,BR _ _ Mo,?_,CB,?_⟩
   ·rcases hor with z | z
    ·rw[z];exact hlnH
    ·exact s'.free z
   ·rw[B9,hx];exact bz g gd (λj hj=>hms j (MO hj)) (hms x (Yc hx)) ok
  ·rintro σ H' ⟨ln,near,x0,rfl,s',Mo,hlnH,Cs,ok⟩;rw[Ya,De]at ok;refine⟨Z,q ln H' s' hlnH ?_⟩;rw[Cs,ok.is FQ]
def Ax(rows:RS)(ds:List (LS))(xs:LS):LN:=Bn (wB rows ds) (AO rows ds xs)
def bh(C B:Addr):Sp:=λvs H Q _=>∃(p k t:Addr) (rows:RS) (n:Nat) (ds:List (LS)) (xs:LS),vs=[.ref p,.ref t]/\B0 C B H p k rows n ds/\AR rows/\BE rows n ds/\n<=4/\H t=some (.tup (xs.map V.str))/\BX rows n xs /\
 ∀ l H',H l=none->AA H H'->H' l=some (.lst ((Ax rows ds xs).map AF))->Q (.ref l) H'
def SJ{rows:RS}{ds:List (LS)}{xs:LS}:∀ k∈AO rows ds xs,k<ds.length:=λk hk=>Bp.mp (Yu.mp hk).1
def J6(rows:RS)(ds:List (LS))(xs:LS):(AO rows ds xs).Nodup:=List.nodup_range.filter _
def PZ(rows:RS)(ds:List (LS))(xs:LS):(AO rows ds xs).length<=ds.length:=by
 unfold AO;refine A7 (EE _ _) ?_;rw[Df];exact Yf _
def wI:Ab ["board","call"] ["board","call"] (AK Sh):=by nofun
def pL(F:Def K mg "nearest" Sh ["board","call"] f fd)(DA:Def K mg "nearest_among" P5 ["board","numbers"] fA fdA)(GA:⋯ 6 fA fdA ["board","numbers"] (WE C B))(DF:Def K mg "fitting" Lz ["board","call"] fF fdF)(GF:⋯ 5 fF fdF ["board","call"] (Sj C B)):
  ⋯ 7 f fd ["board","call"] (bh C B):=by
 nomatch F.fn.ok wI
 ·obtain⟨p,k,t,rows,n,ds,xs,rfl,_⟩:=h;rfl
 ·obtain⟨p,k,t,rows,n,ds,xs,rfl,bd,g,gd,hn,ht,gc,q⟩:=h;have Fz:AU 5 _:=hr.mono (by decide);have few:=gd.few;have fl:=PZ rows ds xs
  ac_nf
  refine⟨_,AG (AS (AN DA GA hr (pC (pv 0) (pC (AN DF GF Fz (pC (pv 0) (pC (pv 1) AB))) AB)))),?_⟩;refine⟨Z,Z,Z,p,k,t,O,xs,Y,bd,g,gd,hn,ht,gc,λl H1 hl s1 Aq=>?_⟩;exact⟨p,k,l,O,AO rows ds xs,Y,bd.mono s1,g,gd,Aq,SJ,J6 _ _ _,W,λl' H2 s2 CB h2=>q l' H2 (s1.free CB) (s1.trans s2) h2⟩
def Eo:LN->LV
 | []=>[.str "none"]
 | [k]=>[.str "deed",AF k]
 | k :: j :: _=>[.str "clash",AF k,AF j]
def Vm:Sp:=λvs H Q _=>∃(l:Addr) (near:LN),vs=[.ref l]/\H l=some (.lst (near.map AF))/\∀ t H',H t=none->AA H H'->H' t=some (.tup (Eo near))->Q (.ref t) H'
def rC:Ab ["near"] ["near"] (AK Ph):=by nofun
def cR(F:Def K mg "told_of" Ph ["near"] f fd)(len:mg "len"=none):⋯ 1 f fd ["near"] Vm:=by
 nomatch F.fn.ok rC
 ·obtain⟨l,near,rfl,_⟩:=h;rfl
 ·obtain⟨l,near,rfl,hl,q⟩:=h
  ac_nf
  refine⟨_,pS (Aj (CV (Sd (pv 0) (λ_=>rfl))) (AG (AS (CP (pC EU AB)))) Al)
   (pS (Aj (Am D_ (Af CC (by rfl) len Yz (pC (pv 0) AB)) AI (Ak _)) (AG (AS (CP (pC EU (pC (AV Ar (pv 0) AI (λ_ _=>rfl)) AB))))) Al)
   (AG (AS (CP (pC EU (pC (AV Ar (pv 0) AI (λ_ _=>rfl)) (pC (AV Ar (pv 0) AI (λ_ _=>rfl)) AB))))))),?_⟩
  exists let b:=_;let c:=AE (D0 _ b _) a;AE _ c _ _ _
  cases near with
  | nil=>exact⟨Z,false,.inl ⟨[],SqL.of hl,Y⟩,By ⟨J,λt ht=>q t _ ht (Ap ht) uS⟩⟩
  | cons k r =>
   refine⟨Z,true,.inl ⟨_,SqL.of hl,Y⟩,Ao ?_⟩;refine⟨Z,l,Z,.inl (SqL.of hl),Y,Z,?_⟩;cases r with
   | nil =>
    refine A9 (λ_=>?_) (λh=>absurd (by rfl) h);exact⟨Z,l,_,_,Z,Y,SqL.of hl,Y,U,λt ht=>q t _ ht (Ap ht) uS⟩
   | cons j r =>
    refine A9 (λh=>?_) (λ_=>?_)
    ·have h:=Je h;injection h with h;simp at h;omega
    ·exact⟨Z,l,_,_,Z,Y,SqL.of hl,EB (j:=0) rfl,Z,l,_,_,Z,Y,SqL.of hl,EB (j:=1) rfl,sL (by show 3<=100000;decide),λt ht=>q t _ ht (Ap ht) uS⟩
def VB(C B:Addr):Sp:=λvs H Q _=>∃(p k t:Addr) (rows:RS) (n:Nat) (ds:List (LS)) (xs:LS),vs=[.ref p,.ref t]/\B0 C B H p k rows n ds/\AR rows/\BE rows n ds/\n<=4/\H t=some (.tup (xs.map V.str))/\BX rows n xs /\
 ∀ l H',H l=none->AA H H'->H' l=some (.tup (Eo (Ax rows ds xs)))->Q (.ref l) H'
def wL:Ab ["board","call"] ["board","call"] (AK O9):=by nofun
def uk(F:Def K mg "told" O9 ["board","call"] f fd)(DN:Def K mg "nearest" Sh ["board","call"] fN fdN)(GN:⋯ 7 fN fdN ["board","call"] (bh C B))(DO:Def K mg "told_of" Ph ["near"] fO fdO)(len:mg "len"=none):
  ⋯ 8 f fd ["board","call"] (VB C B):=by
 have GO:⋯ 1 fO fdO ["near"] Vm:=cR DO len
 nomatch F.fn.ok wL
 ·obtain⟨p,k,t,rows,n,ds,xs,rfl,_⟩:=h;rfl
 ·obtain⟨p,k,t,rows,n,ds,xs,rfl,bd,g,gd,hn,ht,gc,q⟩:=h;have Ah:AU 1 _:=hr.mono (by decide)
  ac_nf
  refine⟨_,AG (AS (AN DO GO Ah (pC (AN DN GN hr (pC (pv 0) (pC (pv 1) AB))) AB))),?_⟩;refine⟨Z,Z,p,k,t,O,xs,Y,bd,g,gd,hn,ht,gc,λl H1 hl s1 Aq=>?_⟩;exact⟨l,Z,Aq,λt' H2 IY s2 h2=>q t' H2 (s1.free IY) (s1.trans s2) h2⟩
def WU(rows:RS)(ds:List (LS))(xs:LS):V->Bool
 | .int i=>A_ rows xs (ds.getD i.toNat [])
 | _=>false
def uF(rows:RS)(ds:List (LS))(xs:LS):((CW 0 ds.length).filter (WU rows ds xs)).map (λv=>v)=(AO rows ds xs).map AF:=by
 rw[Gh,V7,II];rfl
def IA{H H':Hp}{ds:List (LS)}{us:LV}(hD:A0 H ds us)(s:AA H H'){k:Nat}(hk:k<ds.length):∃ t,BS us ((k:Nat):Int)=some (.ref t)/\H' t=some (.tup ((ds.getD k []).map V.str)):=by
 have hul:=hD.length;have Cd:k<us.length:=by omega
 obtain⟨dd,hdd,t,e,ht⟩:=C0 hD (Yb Cd);refine⟨t,EB ((Yb Cd).trans (congrArg some e)),?_⟩;have e2:ds.getD k []=dd:=by rw[Yh,hdd];rfl
 rw[e2];exact s _ _ ht
def Pl{rows:RS}{n:Nat}{ds:List (LS)}(gd:BE rows n ds){k:Nat}(hk:k<ds.length):∀ y∈ds.getD k [],y∈rows.map (·.1):=(gd.call _ (Yc (DZ hk))).known
def GY{rows:RS}{n:Nat}{ds:List (LS)}(gd:BE rows n ds){k:Nat}(hk:k<ds.length):(ds.getD k []).length=n:=(gd.call _ (Yc (DZ hk))).len
def J1:LN->List Dt
 | []=>[.str "none"]
 | [k]=>[.str "deed",G9 k]
 | k :: j :: _=>[.str "clash",G9 k,G9 j]
def nv{K:Fg}{H:Hp}:∀ near:LN,A1 K H (Eo near) (J1 near)
 | []=>.cons (.str _) .nil
 | [k]=>.cons (.str _) (.cons (.int _) .nil)
 | k :: j :: _=>.cons (.str _) (.cons (.int _) (.cons (.int _) .nil))
def KH{K:Fg}{H:Hp}{t:Addr}{near:LN}(h:H t=some (.tup (Eo near))):Rep K H (.ref t) (.tuple (J1 near)):=.tuple (AL.of h) (nv near)
def qw(n:Nat):W.kqdOk n (.str "none")=true:=by rw[W.kqdOk];rfl'
def qv(n:Nat):W.kqdOk n (.str "deed")=true:=by rw[W.kqdOk];rfl'
def qu(n:Nat):W.kqdOk n (.str "clash")=true:=by rw[W.kqdOk];rfl'
def iQ(n k:Nat):W.kqdOk n (G9 k)=true:=by unfold G9;rw[W.kqdOk]
def KG(n:Nat):∀ near:LN,W.kqdOk (n + 1) (.tuple (J1 near))=true
 | []=>by rw[W.kqdOk];simp[J1,qw]
 | [k]=>by rw[W.kqdOk];simp[J1,qv,iQ]
 | k :: j :: _=>by rw[W.kqdOk];simp[J1,qu,iQ]
def nx(W:Nat->Nat->Bool):Nat->LN->LN×LN
 | 0,l=>([],Bn W l)
 | f + 1,l=>match Bn W l with
  | [k]=>(k :: (nx W f (l.erase k)).1,(nx W f (l.erase k)).2)
  | ms=>([],ms)
def R6{W:Nat->Nat->Bool}{f k:Nat}{l:LN}(h:Bn W l=[k]):nx W (f + 1) l=(k :: (nx W f (l.erase k)).1,(nx W f (l.erase k)).2):=by
 rw[nx,h]
def R5{W:Nat->Nat->Bool}{f:Nat}{l:LN}(h:(Bn W l).length≠1):nx W f l=([],Bn W l):=by
 cases f with
 | zero=>rfl
 | succ f =>
  rw[nx];cases e:Bn W l with
  | nil=>rfl
  | cons a r =>
   cases r with
   | nil=>rw[e]at h;exact absurd rfl h
   | cons b r=>rfl
def KD{W:Nat->Nat->Bool}{l:LN}:∀ k∈Bn W l,k∈l:=λk hk=>(Yu.mp hk).1
def Sm{l:LN}{k:Nat}(h:k∈l):(l.erase k).length + 1=l.length:=by
 rw[Wu h];have:=List.length_pos_of_mem h;omega
def R7{l:LN}(h:l.length=1):∃ k,l=[k]:=List.length_eq_one_iff.mp h
def Z6(C B:Addr):Sp:=λvs H Q _=>∃(p k t:Addr) (rows:RS) (n:Nat) (ds:List (LS)) (xs:LS),vs=[.ref p,.ref t]/\B0 C B H p k rows n ds/\AR rows/\BE rows n ds/\n<=4/\H t=some (.tup (xs.map V.str))/\BX rows n xs /\
 ∀(tr lr te:Addr) (H':Hp),H lr=none->AA H H'->H' tr=some (.tup [.ref lr,.ref te])->H' lr=some (.lst ((nx (wB rows ds) (AO rows ds xs).length (AO rows ds xs)).1.map AF))->H' te=some (.tup (Eo (nx (wB rows ds) (AO rows ds xs).length (AO rows ds xs)).2))->Q (.ref tr) H'
abbrev jP:LS:=["board","call","left","near","row"]
def gG:Ab jP ["board","call"] (AK SF):=by nofun
def lT(F:Def K mg "nexts" SF ["board","call"] f fd)(len:mg "len"=none)(DA:Def K mg "nearest_among" P5 ["board","numbers"] fA fdA)(GA:⋯ 6 fA fdA ["board","numbers"] (WE C B))(DF:Def K mg "fitting" Lz ["board","call"] fF fdF)(GF:⋯ 5 fF fdF ["board","call"] (Sj C B))(DO:Def K mg "told_of" Ph ["near"] fO fdO):
  ⋯ 7 f fd ["board","call"] (Z6 C B):=by
 have GO:⋯ 1 fO fdO ["near"] Vm:=cR DO len
 nomatch F.fn.ok gG
 ·obtain⟨p,k,t,rows,n,ds,xs,rfl,_⟩:=h;rfl
 ·obtain⟨p,k,t,rows,n,ds,xs,rfl,bd,g,gd,hn,ht,gc,q⟩:=h;have nd:=gG.nd;have Ah:AU 1 _:=hr.mono (by decide);have Fz:AU 5 _:=hr.mono (by decide);have few:=gd.few;have fl:=PZ rows ds xs
  ac_nf
  refine⟨_,(pS (sE 2 nd (AN DF GF Fz (pC (pv 0) (pC (pv 1) AB))))
   (pS (sE 3 nd (AN DA GA hr (pC (pv 0) (pC (pv 2) AB))))
   (pS (sE 4 nd (B4 AB))
   (pS (JC Ys (Am D_ (Af CC (by rfl) len Yz (pC (pv 3) AB)) AI (Ak _))
    (pS (B5 (C7 C1 IM IL GZ (pv 4) (pC (AV Ar (pv 3) AI (λ_ _=>rfl)) AB)))
   (pS (B5 (C7 C1 Th PySem.F.type_list_remove nG (pv 2) (pC (AV Ar (pv 3) AI (λ_ _=>rfl)) AB)))
   (AG (sE 3 nd (AN DA GA hr (pC (pv 0) (pC (pv 2) AB))))))))
   (AG (AS (CP (pC (pv 4) (pC (AN DO GO Ah (pC (pv 3) AB)) AB))))))))),?_⟩
  exists let b:=_;let c:=AE _ b;let e:=AE _ c;let f:=AE (J5 _ e) a;let g:=AE _ f;let h:=AE _ g;AE _ h _ _ _
  refine⟨Z,Z,p,k,t,O,xs,Y,bd,g,gd,hn,ht,gc,λll H1 hll s1 Aq=>?_⟩;refine⟨Z,Z,p,k,ll,O,AO rows ds xs,Y,bd.mono s1,g,gd,Aq,SJ,J6 _ _ _,W,λln H2 s2 Cs BK=>?_⟩;have C4:=s1.trans s2;refine⟨BF _,λlr hlr=>?_⟩;have Qo:=s2 _ _ Aq;have lrH:H lr=none:=C4.free hlr;have llr:ll≠lr:=AH Qo hlr;have lnr:ln≠lr:=AH BK hlr;let Cg:NW:=λm σ H'=>∃(ln:Addr) (left row:LN),σ=[some (.ref p),some (.ref t),some (.ref ll),some (.ref ln),some (.ref lr)]/\AA H H'/\H' ll=some (.lst (left.map AF))/\H' ln=some (.lst ((Bn (wB rows ds) left).map AF))/\H' lr=some (.lst (row.map AF))/\ln≠ll/\ln≠lr/\(∀ j∈left,j<ds.length)/\left.Nodup/\row.length + left.length<=64/\nx (wB rows ds) (AO rows ds xs).length (AO rows ds xs)=(row++(nx (wB rows ds) left.length left).1,(nx (wB rows ds) left.length left).2)/\m=left.length;refine⟨Cg,
   ⟨_,ln,AO rows ds xs,[],Y,C4.trans (Ap hlr),by rw[AD llr];exact Qo,by rw[AD lnr];exact BK,uS,Yr (AH Aq Cs),lnr,SJ,J6 _ _ _,by show 0 + _<=64;omega,Y,Y⟩,?_⟩
  rintro m σ H' ⟨ln,left,row,rfl,s',XU,HS,Mn,nll,nlr,AZ,hnd,hlen,hnx,rfl⟩;refine⟨Z,ln,Z,.inl (SqL.of HS),Y,Z,?_⟩;have e:decide (V.int (((Bn (wB rows ds) left).map AF).length:Nat)=V.int 1)=decide ((Bn (wB rows ds) left).length=1):=by
   rw[Ya];exact OE.mpr ⟨λz=>by injection z with z;omega,λz=>by rw[z];rfl⟩
  rw[e];refine A9 (λh=>?_) (λh=>?_)
  ·obtain⟨k1,FW⟩:=R7 (Je h);have kl:k1∈left:=KD k1 (by rw[FW];simp);have el:=Sm kl;rw[FW]at HS;let EG:SW:=λσ' H2=>∃ m',m'<left.length/\∃(ln:Addr) (left row:LN),σ'=[some (.ref p),some (.ref t),some (.ref ll),some (.ref ln),some (.ref lr)]/\AA H H2/\H2 ll=some (.lst (left.map AF))/\H2 ln=some (.lst ((Bn (wB rows ds) left).map AF))/\H2 lr=some (.lst (row.map AF))/\ln≠ll/\ln≠lr/\(∀ j∈left,j<ds.length)/\left.Nodup/\row.length + left.length<=64/\nx (wB rows ds) (AO rows ds xs).length (AO rows ds xs)=(row++(nx (wB rows ds) left.length left).1,(nx (wB rows ds) left.length left).2)/\m'=left.length;refine⟨EG,λ_ _ h=>h,?_⟩;refine⟨Z,.inl ⟨Y,_,SqL.of Mn⟩,Z,ln,_,_,Z,Y,SqL.of HS,EB (j:=0) rfl,lr,_,Z,Y,Mn,CZ (by rw[Ya];omega),?_⟩;have C3:(upd H' lr (.lst (row.map AF++[AF k1]))) ll=some (.lst (left.map AF)):=by rw[AD llr];exact XU
   have XT:(upd H' lr (.lst (row.map AF++[AF k1]))) ln=some (.lst ([k1].map AF)):=by rw[AD nlr];exact HS
   refine⟨Z,.inl ⟨Y,_,SqL.of C3⟩,Z,ln,_,_,Z,Y,SqL.of XT,EB (j:=0) rfl,ll,left,k1,Y,Y,C3,kl,?_⟩;have s4:AA H (upd (upd H' lr (.lst (row.map AF++[AF k1]))) ll (.lst ((left.erase k1).map AF))):=λb o e=>by
    have n1:b≠ll:=AH e hll;rw[AD n1,AD (AH e lrH)];exact s' _ _ e
   refine⟨Z,Z,p,k,ll,O,left.erase k1,Y,bd.mono s4,g,gd,uS,λj hj=>AZ j (MX hj),hnd.erase k1,W,λln2 H5 s5 Qn FV=>?_⟩;refine⟨_,W,ln2,left.erase k1,row++[k1],Y,s4.trans s5,s5 _ _ uS,FV,?_,Yr (AH uS Qn),?_,λj hj=>AZ j (MX hj),hnd.erase k1,by rw[Yt];show row.length + 1 + _<=64;omega,?_,Y⟩
   ·refine s5 _ _ ?_;rw[AD (Yr llr),uS,CD];rfl
   ·intro z;have h0:(upd (upd H' lr (.lst (row.map AF++[AF k1]))) ll (.lst ((left.erase k1).map AF))) lr=some (.lst (row.map AF++[AF k1])):=by rw[AD (Yr llr)];exact uS
    have h1:=Qn;rw[z]at h1;rw[h1]at h0;cases h0
   ·rw[hnx,<- el,R6 FW];simp
  ·have BB:(Bn (wB rows ds) left).length≠1:=λz=>h (Jb z);rw[R5 BB]at hnx;refine⟨Z,Z,ln,Z,HS,λte H3 hte s3 XF=>⟨U,λtr htr=>?_⟩⟩;have s4:AA H3 (upd H3 tr (.tup [.ref lr,.ref te])):=Ap htr;refine q tr lr te _ lrH (s'.trans (s3.trans s4)) uS ?_ ?_
   ·rw[hnx];show _=some (HO.lst ((row++[]).map AF));rw[Gg];exact s4 _ _ (s3 _ _ Mn)
   ·rw[hnx];exact s4 _ _ XF
def EA(cs:List (LS))(ws:LS):List (LS):=cs.flatMap λc=>ws.map λx=>c++[x]
def Co(wss:List (LS)):List (LS):=wss.foldl EA [[]]
def cW(wss:List (LS))(ws:LS):Co (wss++[ws])=EA (Co wss) ws:=by
 unfold Co;rw[List.foldl_append];rfl
def cK(cs:List (LS))(ws:LS):(EA cs ws).length=cs.length * ws.length:=by
 unfold EA
 induction cs with
 | nil=>simp
 | cons c r ih =>
  rw[List.flatMap_cons,Yt,ih,Ya,Bv,Nat.add_mul,Nat.one_mul,Nat.add_comm]
def p7(cs:List (LS))(ws:LS){i:Nat}{c:LS}(h:cs[i]?=some c):EA (cs.take (i + 1)) ws=EA (cs.take i) ws++ws.map λx=>c++[x]:=by
 unfold EA;rw[B9,h,List.flatMap_append];simp
theorem aG:∀(wss cs:List (LS)) (acc:List (LS)) (m:Nat),(∀ c∈acc,c.length=m)->∀ c∈wss.foldl EA acc,c.length=m + wss.length
 | [],_,acc,m,h,c,hc=>h c hc
 | ws :: r,cs,acc,m,h,c,hc=>by
  have:=aG r cs (EA acc ws) (m + 1) (λd hd=>by
   obtain⟨e,he,hd⟩:=List.mem_flatMap.mp hd;obtain⟨x,_,rfl⟩:=Yg.mp hd;rw[Yt,h e he];rfl) c hc
  rw[this,Bv];omega
def mm{wss:List (LS)}{c:LS}(h:c∈Co wss):c.length=wss.length:=by
 have:=aG wss [] [[]] 0 (λd hd=>by rw[Yj.mp hd];rfl) c h;omega
def A0.append{H:Hp}{ds es:List (LS)}{us vs:LV}(h:A0 H ds us)(k:A0 H es vs):A0 H (ds++es) (us++vs):=by
 unfold A0 at *
 induction h with
 | nil=>exact k
 | cons r t ih=>exact .cons r ih
def A0.len{H:Hp}{ds:List (LS)}{us:LV}(h:A0 H ds us):ds.length=us.length:=Bl h
def gH(c:LS)(x v:V)(H:Hp):Prop:=∃(t:Addr) (z:Str),x=.str z/\v=.ref t/\H t=some (.tup ((c++[z]).map V.str))
theorem Z_{H:Hp}{c:LS}:∀ {ws:LS}{ys:LV},Paired (λx v=>gH c x v H) (ws.map V.str) ys->A0 H (ws.map λx=>c++[x]) ys
 | [],_,h=>by cases h;exact .nil
 | x :: r,_,h=>by
  cases h with
  | cons a b =>
   obtain⟨t,z,e1,e2,e3⟩:=a;injection e1 with e1;subst e1;exact .cons ⟨t,e2,e3⟩ (Z_ b)
def qp:(["thing","start"]:LS).Nodup:=by rfl'
def gI(H:Hp)(wss:List (LS))(vs:LV):Prop:=Paired (λ(ws:LS) v=>∃ r,v=V.ref r/\H r=some (.lst (ws.map V.str))) wss vs
def bj:Sp:=λvs H Q _=>∃(l:Addr) (wss:List (LS)) (us:LV),vs=[.ref l]/\H l=some (.lst us)/\gI H wss us/\(∀ i,(Co (wss.take i)).length<=10000)/\(∀ ws∈wss,ws.length<=1000)/\wss.length<=100 /\
 ∀(lf:Addr) (ys:LV) (H':Hp),H lf=none->AA H H'->H' lf=some (.lst ys)->A0 H' (Co wss) ys->Q (.ref lf) H'
abbrev X6:LS:=["rows","found","row","longer","start"]
def eh:Ab X6 ["rows"] (AK P2):=by nofun
def qB(F:Def K mg "one_of_each" P2 ["rows"] f fd):⋯ 1 f fd ["rows"] bj:=by
 nomatch F.fn.ok eh
 ·obtain⟨l,wss,us,rfl,_⟩:=h;rfl
 ·obtain⟨l,wss,us,rfl,hl,hR,hb,hw,hn,q⟩:=h;have nd:=eh.nd;have hul:wss.length=us.length:=Bl hR
  ac_nf
  refine'⟨_,(pS (sE 1 nd (B4 (pC (CP AB) AB)))
   (pS (Bt Ys rfl (Be (pv 0)) (gE 2 nd)
    (pS (sE 3 nd (B4 AB))
   (pS (Bt Ys rfl (Be (pv 1)) (Ay (i:=4) nd rfl (Or.inr rfl)) (AG (B5 (C7 C1 PySem.F.slot_list_extend PySem.F.type_list_extend bQ (pv 3) (pC ?ea AB)))))
   (AG (sE 1 nd (pv 3))))))
   (AG (AS (pv 1))))),?_⟩
  case ea=>exact(BC ["thing"] ["start"] [4] (λ_=>A4 (osc:=AK P2) (on:=X6) (by rfl') rfl rfl rfl) (Be (pv 2)) (λC s H fp=>Ay (i:=0) qp rfl (Or.inl rfl) (Or.inr rfl)) (λC s H fp=>B6)
    (λC s H fp=>Ai (r:=gs K) ur (pv 1) (CP (pC (pv 0) AB))))
  exists let b:=_;let c:=_;let e:=AE (Bz _ _ c) b;let f:=AE _ e;let g:=AE (Bz _ _ f) a;AE _ g _ _ _
  refine⟨BF _,λt0 Fy=>⟨J,λl0 E5=>?_⟩⟩;have s0:AA H (upd (upd H t0 (.tup [])) l0 (.lst [.ref t0])):=(Ap Fy).trans (Ap E5);have je:H l0=none:=(Ap (o:=.tup []) Fy).free E5;let BG:NW:=λi σ H'=>∃(lf:Addr) (ys:LV) (x1 x2 x3:OV),σ=[some (.ref l),some (.ref lf),x1,x2,x3]/\AA H H'/\H lf=none/\H' lf=some (.lst ys)/\A0 H' (Co (wss.take i)) ys;refine⟨Z,l,Y,⟨_,SqL.of (s0 _ _ hl)⟩,B8 (Bk (xs:=us)) BG
   ⟨l0,[.ref t0],none,none,none,Y,s0,je,uS,.cons ⟨t0,Y,(Ap E5) _ _ uS⟩ .nil⟩ (λi σ H' _ h0=>by obtain⟨_,_,_,_,_,_,s',_⟩:=h0;exact SqL.of (s' _ _ hl)) ?_ ?_⟩
  ·rintro i v σ H' hi ⟨lf,ys,x1,x2,x3,rfl,s',hlfH,hlf,hD⟩;obtain⟨ws,hws,Cb,rfl,hrw⟩:=C0 hR hi;have Il:=hb (i + 1);rw[B9,hws]at Il;have Il:(Co (wss.take i++[ws])).length<=10000:=Il;rw[cW]at Il;have hwl:=hw ws (Yc hws);have hyl:=hD.len;refine⟨BF _,λln Cs=>?_⟩;have s1:AA H' (upd H' ln (.lst [])):=Ap Cs;have lnH:H ln=none:=s'.free Cs;have lfn:lf≠ln:=AH hlf Cs;have rwn:Cb≠ln:=AH (s' _ _ hrw) Cs;let Fq:NW:=λj σ H2=>∃(zs:LV) (x3:OV),σ=[some (.ref l),some (.ref lf),some (.ref Cb),some (.ref ln),x3]/\AA H' H2/\H2 ln=some (.lst zs)/\A0 H2 (EA ((Co (wss.take i)).take j) ws) zs;refine⟨Z,lf,Y,⟨_,SqL.of (s1 _ _ hlf)⟩,B8 (Bk (xs:=ys)) Fq
    ⟨[],x3,Y,s1,uS,by rw[FJ];exact .nil⟩ (λj σ H2 _ h0=>by obtain⟨_,_,_,s2,_⟩:=h0;exact SqL.of (s2 _ _ hlf)) ?_ ?_⟩
   ·rintro j v σ H2 hj ⟨zs,ip,rfl,s2,hlnz,hZ⟩;obtain⟨c,hc,tc,rfl,htc⟩:=C0 hD hj;have Bq:=s'.trans s2;have Qh:=Bq _ _ hrw;refine⟨Z,.inl ⟨Y,_,SqL.of hlnz⟩,Z,Cb,Y,⟨_,SqL.of Qh⟩,Lo (Bk (xs:=ws.map V.str)) (sL (by rw[Ya];omega)) (λ_=>true) (λD x v H=>gH c x v H/\∀ t,v=.ref t->t≠D) (λD x v Ha Hb k h=>?_) (λH' s'=>s'.seq (SqL.of Qh)) ?_ ?_ ?_⟩
    ·obtain⟨⟨t,z,e1,e2,e3⟩,ne⟩:=h;exact⟨⟨t,z,e1,e2,k _ _ (ne t e2) e3⟩,ne⟩
    ·intro x H3 R _ _ Ae;exact Ae H3 (AA.refl _)
    ·intro D x H3 R s3 hDx hDn hx _ Ae;obtain⟨z,hz,rfl⟩:=Yg.mp hx;obtain⟨Hc,Ft⟩:=hDx;have XG:=s3 _ _ (s2 _ _ htc);refine⟨Z,Z,J,λt1 Jq=>?_⟩;have s4:AA H3 (upd H3 t1 (.tup [.str z])):=Ap Jq;have i9:t1≠D:=Yr (AH Ft Jq);have cl:c.length<=1000:=by
      have:=mm (Yc hc);rw[Yx]at this;omega
     refine⟨tc,t1,_,Z,Y,AL.of (s4 _ _ XG),AL.of uS,sL (by rw[Ya];show c.length + 1<=100000;omega),λe=>?_,(λ_ e=>nomatch e),λ_ _ t2 BD=>?_⟩
     ·have e0:c=[]:=by cases c with | nil=>rfl | cons a r=>cases e
      subst e0;exact Ae _ _ s4 ⟨⟨t1,z,Y,Y,uS⟩,λt e=>by injection e with e;rw[<- e];exact i9⟩
     ·have i7:t2≠D:=Yr (AH (s4 _ _ Ft) BD);exact Ae _ _ (s4.trans (Ap BD)) ⟨⟨t2,z,Y,Y,by rw[uS,CD];rfl⟩,λt e=>by injection e with e;rw[<- e];exact i7⟩
    ·intro D H3 K1 Io s3 Bm Ef;rw[Et.mpr (λ_ _=>rfl)]at Ef;have hC:=Z_ (Paired.mapP Ef λ_ _ z=>z.1);have Ky:=s3 _ _ hlnz;have zl:=hZ.len;have vl:=hC.len;rw[Ya]at vl;have F1:j<(Co (wss.take i)).length:=(Ye.mp hc).1;have lz:(EA ((Co (wss.take i)).take j) ws).length + ws.length<=10000:=by
      rw[cK]at Il ⊢;rw[Yx,QJ (by omega)];refine A7 ?_ Il;rw[<- Nat.succ_mul];exact Nat.mul_le_mul_right _ F1
     refine⟨ln,D,_,Z,Y,Ky,Bm,sL (by omega),zs++K1,Z,λb o e=>by rw[AD (AH e Cs)];exact s3 _ _ (s2 _ _ e),uS,?_⟩;rw[p7 _ _ hc];have kp:∀ b o,b≠ln->H3 b=some o->(upd H3 ln (.lst (zs++K1))) b=some o:=λb o hb e=>by rw[AD hb];exact e
     have dk:∀ {ds:List (LS)} {us:LV},A0 H3 ds us->A0 (upd H3 ln (.lst (zs++K1))) ds us:=λh=>Paired.mapP h λ_ _ ⟨t,e,x⟩=>⟨t,e,kp _ _ (λz=>by rw[z,Ky]at x;cases x) x⟩;exact(dk (hZ.mono s3)).append (dk hC)
   ·rintro σ H2 ⟨zs,ip,rfl,s2,hlnz,hZ⟩;have el:(Co (wss.take i)).take ys.length=Co (wss.take i):=by rw[<- hyl,De]
    rw[el]at hZ;refine⟨Z,ln,zs,_,_,Z,s'.trans s2,lnH,hlnz,?_⟩;rw[B9,hws];show A0 H2 (Co (wss.take i++[ws])) zs;rw[cW];exact hZ
  ·rintro σ H' ⟨lf,ys,x1,x2,x3,rfl,s',hlfH,hlf,hD⟩;rw[<- hul,De]at hD;exact⟨Z,q lf ys H' hlfH s' hlf hD⟩
def mf{b i n:Nat}(hb:1<=b)(h:i<=n):b ^ i<=b ^ n:=Nat.pow_le_pow_right hb h
def nJ(d a:Addr):(Em d a).lookup ("words":Str)=none:=Li d a (by rfl') (by rfl')
def lK(k t:Addr)(n:Nat):(En k t n).lookup ("check_size":Str)=none:=SU k t n (by rfl') (by rfl') (by rfl')
abbrev rT(K:Fg)(C f:Addr)(fd:FuncData):Prop:=El K C "words" "Kinds.words" TJ ["self"] f fd
abbrev qj(K:Fg)(B f:Addr)(fd:FuncData):Prop:=El K B "check_size" "Board.check_size" TZ ["self"] f fd
def iK(C B:Addr):Sp:=λvs H Q _=>∃(p k:Addr) (rows:RS) (n:Nat) (ds:List (LS)),vs=[.ref p]/\B0 C B H p k rows n ds/\AR rows/\n<=4/\rows.length ^ n<=512/\∀ H',AA H H'->Q .non H'
structure dc(mg:Str->OU):Prop where
 calls:∃ t,mg "MOST_CALLS"=some (.int 512 t)
 len:mg "len"=none
 range:mg "range"=none
 list:mg "list"=none
abbrev jM:LS:=["self","number","place"]
def fQ:Ab jM ["self"] (AK TZ):=by nofun
def uh(F:Bg K "check_size" "Board.check_size" TZ f fd)(T:dc mg)(TB:E_ K B)(TC:CT K C)(MW:rT K C fWo fdWo):⋯ 2 f fd ["self"] (iK C B):=by
 have GW:⋯ 1 fWo fdWo ["self"] (bq C):=pZ MW.fn TC T.list
 nomatch F.ok fQ
 ·obtain⟨p,k,rows,n,ds,rfl,_⟩:=h;rfl
 ·obtain⟨p,k,rows,n,ds,rfl,bd,g,n4,hc,q⟩:=h;obtain⟨dx,ts,us,h1,h2,h3,h4⟩:=bd.ex;obtain⟨dxk,dk,ak,ok,oak,kvs,AJ,FW,_⟩:=h2.ex;obtain⟨t1,hM⟩:=T.calls;have nd:=fQ.nd;have gle:=g.le;have gne:1<=rows.length:=by have:=g.ne;omega
  ac_nf
  refine⟨_,(pS (sE 1 nd AI)
   (pS (Bt Ys rfl (FF (by rfl) T.range (pC (HI (pv 0) rfl) AB)) (gE 2 nd) (AG (sE 1 nd (Ai Le (pv 1) (Af CC (by rfl) T.len Yz (pC (C8 (HI (pv 0) rfl) TC.cl MW.me GW hr MW.b .nil A3) AB))))))
   (AG (Aj (Am NU (pv 1) (Ll (v:=.int 512) (by rfl) hM ⟨Z⟩) (Ak _)) EC Al)))),?_⟩
  exists let b:=_;let c:=AE (Bz _ _ b) a;AE _ c _ _ _
  let BG:NW:=λi σ H'=>∃ x:OV,σ=[some (.ref p),some (.int ((rows.length ^ i:Nat):Int)),x]/\AA H H';refine⟨Z,p,B,dx,_,Z,h1,TB.cl,TB.nW,ZK _ _ _,n,Y,W,W,B8 Es BG
   ⟨none,Y,AA.refl _⟩ (λ_ _ _ _ _=>trivial) ?_ ?_⟩
  ·rintro i v σ H' hi ⟨x,rfl,s'⟩;obtain⟨hi,rfl⟩:=Ds hi;have hpw:rows.length ^ i<=512:=A7 (mf gne (by omega)) hc;refine⟨Z,Z,p,B,dx,_,Z,s' _ _ h1,TB.cl,TB.nB,ZJ _ _ _,k,dxk,Z,s' _ _ FW,nJ _ _,k,rows,Y,h2.mono s',g,λl hl=>?_⟩;refine⟨l,Z,.inl (SqL.of uS),_,Z,Y,.inl ⟨W,W⟩,?_⟩;refine⟨some (V.int (0 + (i:Nat))),?_,s'.trans (Ap hl)⟩;show[some (V.ref p),some (V.int (((rows.length ^ i:Nat):Int) * ((((rows.map (·.1)).map V.str).length:Nat):Int))),_]=_;rw[Ya,Ya,<- Int.natCast_mul,<- Nat.pow_succ]
  ·rintro σ H' ⟨x,rfl,s'⟩;rw[Ca];refine⟨Z,_,Z,Y,Z,?_⟩;have e:((n:Nat):Int).toNat=n:=rfl;rw[e,show decide ((512:Int)<((rows.length ^ n:Nat):Int))=false from Jc (by omega)];exact Ao (q H' s')
def lG{K:Fg}{C:Addr}{Hx:Hp}{xb dx l:Addr}{rows:RS}{R:Hp->Prop}{E:XK}(nx:Hx xb=none)(ndx:Hx dx=none)(hR:HF Hx l rows)(g:AR rows)(h:∀ H',AA Hx H'->BA C H' xb rows->R H'):
  VD K C [.ref xb,.ref l] (upd (upd Hx dx (.own xb)) xb (.ins C dx [])) (λv H3=>v=.non/\R H3) E:=by
 have DG:AA Hx (upd (upd Hx dx (.own xb)) xb (.ins C dx [])):=λb o e=>by
  have e1:(upd Hx dx (.own xb)) b=some o:=by rw[AD (AH e ndx)];exact e
  rw[AD (AH e nx)];exact e1
 exact⟨xb,dx,l,rows,Y,uS,(HF.g (N5 hR DG)),g,λH4 kd keep=>⟨Y,h H4 (λb o e=>keep b o (AH e nx) (DG _ _ e)) kd⟩⟩
def lF{K:Fg}{C B:Addr}{Hx:Hp}{xb yb dy lz:Addr}{n:Nat}{rows:RS}{ds:List (LS)}{us:LV}{R:Hp->Prop}{E:XK}(ny:Hx yb=none)(ndy:Hx dy=none)(kd:BA C Hx xb rows)(g:AR rows)(hz:Hx lz=some (.lst us)\/Hx lz=some (.tup us))(hD:A0 Hx ds us)(gd:BE rows n ds)(n1:1<=n)(n4:n<=4)(h:∀ H',AA Hx H'->B0 C B H' yb xb rows n ds->R H'):
  VQ K C B [.ref yb,.ref xb,.int n,.ref lz] (upd (upd Hx dy (.own yb)) yb (.ins B dy [])) (λv H3=>v=.non/\R H3) E:=by
 have DG:AA Hx (upd (upd Hx dy (.own yb)) yb (.ins B dy [])):=λb o e=>by
  have e1:(upd Hx dy (.own yb)) b=some o:=by rw[AD (AH e ndy)];exact e
  rw[AD (AH e ny)];exact e1
 exact⟨yb,dy,xb,lz,n,rows,ds,us,Y,uS,kd.mono DG,g,hz.elim (λe=>.inl (SqL.of (DG _ _ e))) (λe=>.inr (DG _ _ e)),hD.mono DG,gd,n1,n4,λH5 bd Qz=>⟨Y,h H5 (λb o e=>Qz b o (AH e ny) (DG _ _ e)) bd⟩⟩
def Zs(K:Fg):Sp:=λvs H Q _=>∃(a:Addr) (ns:List Int) (m c mo:Nat),vs=[.ref a,.int m,.int c,.int mo]/\SqL K H a (ns.map V.int)/\ns.length<=100/\1<=m/\m<=24/\m<=c/\c<=512/\mo<=63 /\
 ∀(t l aa ld:Addr) (n:Nat) (rows:RS) (AJ:KL) (ds:List (LS)) (us:LV) (H':Hp),AA H H'->H' t=some (.tup [.ref l,.ref aa,.int n,.ref ld])->HF H' l rows->AR rows->H' aa=some (.dK AJ)->Bu H' rows rows AJ ->
  1<=n->n<=4->rows.length ^ n<=c->H' ld=some (.lst us)->A0 H' ds us->BE rows n ds->ds.length<=mo->Q (.ref t) H'
abbrev jN:LS:=["script","kinds","calls","most","rows","above","pot","wish","places","count"]
def fJ:Ab jN ["script","kinds","calls","most"] (AK S5):=by nofun
def lW(F:Def K mg "_law_small" S5 ["script","kinds","calls","most"] f fd)(len:mg "len"=none)
  (DR:Def K mg "_law_rows" N0 ["pot","most"] fR fdR) (GR:⋯ 4 fR fdR ["pot","most"] Zr) (DP:Def K mg "_law_pot" Pm ["script","k"] fP fdP) (GP:⋯ 1 fP fdP ["script","k"] (Wm K))
  (DT:Def K mg "_law_take" Gb ["pot","many"] fT fdT) (GT:⋯ 1 fT fdT ["pot","many"] Iz) (DA:Def K mg "_law_above" S3 ["rows"] fA fdA) (GA:⋯ 1 fA fdA ["rows"] aZ)
  (DDe:Def K mg "_law_deeds" N2 ["pot","rows","above","places","most"] fDe fdDe) (GDe:⋯ 2 fDe fdDe ["pot","rows","above","places","most"] Z4):
  ⋯ 5 f fd ["script","kinds","calls","most"] (Zs K):=by
 nomatch F.fn.ok fJ
 ·obtain⟨a,ns,m,c,mo,rfl,_⟩:=h;rfl
 ·obtain⟨a,ns,m,c,mo,rfl,hS,hlen,m1,jZ,mc,c5,YE,q⟩:=h;have nd:=fJ.nd;have Ah:AU 1 _:=hr.mono (by decide);have DJ:AU 2 _:=hr.mono (by decide)
  ac_nf
  refine'⟨_,(pS (sE 4 nd (AN DR GR hr (pC (AN DP GP Ah (pC (pv 0) (pC AI AB))) (pC (pv 1) AB))))
   (pS (sE 5 nd (AN DA GA Ah (pC (pv 4) AB)))
   (pS (sE 6 nd (AN DP GP Ah (pC (pv 0) (pC AI AB))))
   (pS (sE 7 nd (Ai ET AI (AN DT GT Ah (pC (pv 6) (pC AI AB)))))
   (pS (sE 8 nd AI)
   (pS (sE 9 nd (Af CC (by rfl) len Yz (pC (pv 4) AB)))
   (pS (JC Ys (PW.pt (Ld (Am NV (pv 8) (pv 7) (Ak _)) (Ln (Am LR (Ai Le (pv 9) (Af CC (by rfl) len Yz (pC (pv 4) AB))) (pv 2) (Ak _)))))
    (pS (sE 8 nd (Ai ET (pv 8) AI)) (AG (sE 9 nd (Ai Le (pv 9) (Af CC (by rfl) len Yz (pC (pv 4) AB)))))))
   (AG (AS (CP (pC (pv 4) (pC (pv 5) (pC (pv 8) (pC (AN DDe GDe DJ (pC (pv 6) (pC (pv 4) (pC (pv 5) (pC (pv 8) (pC (pv 3) AB)))))) AB)))))))))))))),?_⟩
  exists let b:=_;let c:=AE _ b;let e:=AE (J5 _ c) a;let f:=AE _ e;let g:=AE _ f;let h:=AE _ g;let i:=AE _ h;let j:=AE _ i;AE _ j _ _ _
  refine⟨Z,a,0,ns,Y,hS,hlen,V,V,λp2 o3 DK Eh=>⟨Z,p2,m,Y,⟨o3,uS,Eh⟩,m1,jZ,λl rows H1 d1 hl LI g rl=>?_⟩⟩;have s1:AA H H1:=λb o e=>d1.keep b o (AH e DK) ((Ap DK) _ _ e);have gle:=g.le;have gne:1<=rows.length:=by have:=g.ne;omega
  refine⟨Z,l,rows,Y,LI,g,λaa AJ H2 C4 Ce hA=>?_⟩;have s2:=s1.trans C4;have Hj:=N5 LI C4;refine⟨Z,a,1,ns,Y,s2.seq hS,hlen,V,V,λp3 o5 Ef NB=>?_⟩;refine⟨Z,p3,4,o5,Y,uS,NB,V,V,λv o6 CI CH FT=>⟨_,Z,Y,?_⟩⟩;have E2:AA H2 (upd (upd H2 p3 o5) p3 o6):=λb o e=>by rw[AD (AH e Ef),AD (AH e Ef)];exact e
  have Ia:(upd (upd H2 p3 o5) p3 o6) p3=some o6:=uS;generalize upd (upd H2 p3 o5) p3 o6=H3 at E2 Ia;have Jv:=N5 Hj E2;obtain⟨K1,Mg,XN⟩:=id Jv;have hvl:K1.length=rows.length:=XN.length.symm;have s3:=s2.trans E2;refine⟨Z,l,Z,.inl (SqL.of Mg),?_⟩;show AE _ _ _ [some (.ref a),some (.int m),some (.int c),some (.int mo),some (.ref l),some (.ref aa),some (.ref p3),some (.int (1 + v)),some (.int 1),some (.int (K1.length:Nat))] H3;rw[hvl];let Cg:NW:=λk σ H'=>H'=H3/\∃ n:Nat,σ=[some (.ref a),some (.int m),some (.int c),some (.int mo),some (.ref l),some (.ref aa),some (.ref p3),some (.int (1 + v)),some (.int n),some (.int ((rows.length ^ n:Nat):Int))]/\k=4 - n/\1<=n/\n<=4/\rows.length ^ n<=c;refine⟨Cg,
   ⟨3,Y,1,by rw[Nat.pow_one];rfl,Y,V,V,by rw[Nat.pow_one];omega⟩,?_⟩
  rintro k σ H' ⟨rfl,n,rfl,rfl,n1,n4,hc⟩;refine⟨Z,Z,_,Z,Y,Z,?_⟩;have ik:rows.length ^ n<=512:=by omega
  refine A9 (λh1=>?_) (λh1=>?_)
  rotate_left
  ·refine Ao ?_;refine⟨Z,Z,Z,Z,Z,Z,Z,Z,p3,l,aa,n,mo,rows,AJ,Y,⟨o6,Ia,FT⟩,Jv,g,E2 _ _ Ce,hA.mono λb xs e=>E2 _ _ e,n1,n4,YE,λld ds us H4 d4 hld hus hD gd dl=>⟨sL (by show 4<=100000;decide),λt ht=>?_⟩⟩;have UG:AA H2 H4:=λb o e=>d4.keep b o (AH e Ef) (E2 _ _ e);have K3:AA H4 (upd H4 t (.tup [.ref l,.ref aa,.int n,.ref ld])):=Ap ht;have IS:=UG.trans K3;exact q t l aa ld n rows AJ ds us _ (s2.trans IS) uS (N5 Hj IS) g (IS _ _ Ce) (hA.mono λb xs e=>IS _ _ e) n1 n4 hc (K3 _ _ hus) (hD.mono K3) gd dl
  ·refine⟨Z,Z,l,Z,.inl (SqL.of Mg),_,Z,Y,.inl ⟨W,W⟩,Z,_,Z,Y,Z,?_⟩;rw[hvl];have em:((rows.length ^ n:Nat):Int) * ((rows.length:Nat):Int)=((rows.length ^ (n + 1):Nat):Int):=by rw[Nat.pow_succ,Int.natCast_mul]
   rw[em];refine A9 (λh2=>?_) (λh2=>?_)
   ·have hn:(n:Int)<1 + v:=Je h1;have h2:((rows.length ^ (n + 1):Nat):Int)<=(c:Int):=Je h2;let EG:SW:=λσ' H4=>σ'=[some (.ref a),some (.int m),some (.int c),some (.int mo),some (.ref l),some (.ref aa),some (.ref p3),some (.int (1 + v)),some (.int ((n + 1:Nat):Int)),some (.int ((rows.length ^ (n + 1):Nat):Int))]/\H4=H';refine⟨EG,?_,?_⟩
    ·rintro σ' H4 ⟨rfl,rfl⟩;exact⟨4 - (n + 1),W,Y,n + 1,Y,Y,W,W,W⟩
    ·refine⟨Z,_,Z,Y,?_⟩;refine⟨Z,Z,l,Z,.inl (SqL.of Mg),_,Z,Y,.inl ⟨W,W⟩,?_⟩;refine⟨?_,Y⟩;show([some (.ref a),some (.int m),some (.int c),some (.int mo),some (.ref l),some (.ref aa),some (.ref p3),some (.int (1 + v)),some (.int ((n:Int) + 1)),some (.int (((rows.length ^ n:Nat):Int) * ((K1.length:Nat):Int)))]:St)=_;rw[hvl,em];rfl
   ·refine⟨Z,Z,Z,Z,Z,Z,Z,Z,p3,l,aa,n,mo,rows,AJ,Y,⟨o6,Ia,FT⟩,Jv,g,E2 _ _ Ce,hA.mono λb xs e=>E2 _ _ e,n1,n4,YE,λld ds us H4 d4 hld hus hD gd dl=>⟨sL (by show 4<=100000;decide),λt ht=>?_⟩⟩;have UG:AA H2 H4:=λb o e=>d4.keep b o (AH e Ef) (E2 _ _ e);have K3:AA H4 (upd H4 t (.tup [.ref l,.ref aa,.int n,.ref ld])):=Ap ht;have IS:=UG.trans K3;exact q t l aa ld n rows AJ ds us _ (s2.trans IS) uS (N5 Hj IS) g (IS _ _ Ce) (hA.mono λb xs e=>IS _ _ e) n1 n4 hc (K3 _ _ hus) (hD.mono K3) gd dl
def KO{rows:RS}{x y:Str}:AY rows x y=true↔Graph.Reach (Ag rows) x y:=by
 unfold AY;exact @decide_eq_true_iff _ (Classical.propDecidable _)
def mO{rows:RS}{a b:Str}(h:b∈Ag rows a):∃ r∈rows,r.1=a/\b∈r.2:=by
 unfold Ag at h
 induction rows with
 | nil=>simp at h
 | cons q rs ih =>
  obtain⟨c,d⟩:=q;rw[C9]at h;cases e:(a == c)with
  | true =>
   rw[e]at h;exact⟨(c,d),G,(by have:a=c:=(by simpa using e);exact this.symm),h⟩
  | false =>
   rw[e]at h;obtain⟨r,h1,h2⟩:=ih h;exact⟨r,FH _ h1,h2⟩
def mE{rows:RS}{rk:Str->Nat}(hrk:∀ r∈rows,∀ u∈r.2,rk u<rk r.1):∀ a b,b∈Ag rows a->rk b<rk a:=λa b h=>by
 obtain⟨r,h1,h2,h3⟩:=mO h;rw[<- h2];exact hrk r h1 b h3
def Cy(rows:RS)(x y:Str):LS:=(rows.map (·.1)).filter λz=>AY rows z x&&AY rows z y
def Rv(rows:RS)(x y w:Str):Bool:=!((Cy rows x y).any λo=>AY rows w o&&!decide (w=o))
def Hq(rows:RS)(x y:Str):LS:=(Cy rows x y).filter (Rv rows x y)
def t_(rows:RS)(x y:Str):((Cw rows x).filter λz=>decide (z∈Cw rows y))=Cy rows x y:=by
 unfold Cw Cy;rw[List.filter_filter];refine QP λz hz=>?_;have e:decide (z∈(rows.map (·.1)).filter λw=>AY rows w y)=AY rows z y:=by
  rw[HP,decide_eq_true_eq,Yu];exact⟨λh=>h.2,λh=>⟨hz,h⟩⟩
 rw[e,Bool.and_comm]
def Ng{rows:RS}{x y z:Str}:z∈Cy rows x y↔z∈rows.map (·.1)/\Graph.Reach (Ag rows) z x/\Graph.Reach (Ag rows) z y:=by
 unfold Cy;rw[Yu,Du,KO,KO]
def Z9{rows:RS}(g:AR rows)(x y:Str):(Cy rows x y).length<=24:=by
 have:=EE (λz=>AY rows z x&&AY rows z y) (rows.map (·.1));rw[Ya]at this;exact A7 this g.le
def nQ{rows:RS}{x y w:Str}:Rv rows x y w=true↔∀ h∈Cy rows x y,Graph.Reach (Ag rows) w h->h=w:=by
 unfold Rv;rw[KY,JO];constructor
 ·intro h o ho hr;have:=h o ho;rw[Du,KO,KY,decide_eq_false_iff_not]at this;refine IE λne=>this ⟨hr,λe=>ne e.symm⟩
 ·intro h o ho;rw[Du,KO,KY,decide_eq_false_iff_not];exact λz=>z.2 (h o ho z.1).symm
def vS{rows:RS}(g:AR rows){x y w:Str}(hw:w∈Cy rows x y):∃ h∈Hq rows x y,Graph.Reach (Ag rows) w h:=by
 obtain⟨rk,hrk⟩:=g.rank;have hrk:=mE hrk;have hin:w∈(Cy rows x y).filter λh=>AY rows w h:=Yu.mpr ⟨hw,KO.mpr (.refl w)⟩;obtain⟨m,hm,hmin⟩:=Graph.min_rank rk ((Cy rows x y).filter λh=>AY rows w h) (λz=>by rw[z]at hin;cases hin);obtain⟨h1,h2⟩:=Yu.mp hm;refine⟨m,Yu.mpr ⟨h1,nQ.mpr λh hh hr=>?_⟩,KO.mp h2⟩;refine IE λne=>?_;have a:=hmin h (Yu.mpr ⟨hh,KO.mpr ((KO.mp h2).trans hr)⟩);have b:=Graph.Reach.rank_lt hrk hr (λe=>ne e.symm);omega
def Pd{xs ys:LV}(h:Paired (λx v=>v=x) xs ys):ys=xs:=by
 induction h with
 | nil=>rfl
 | cons e _ ih=>rw[e,ih]
def Ap{H:Hp}{l:Addr}{o:HO}(hl:H l=none):AA H (upd H l o):=λb o' e=>by rw[AD (AH e hl)];exact e
def iA(C:Addr):Sp:=λvs H Q _=>∃(p l:Addr) (rows:RS) (x:Str) (os:LS),vs=[.ref p,.str x,.ref l]/\BA C H p rows/\AR rows/\x∈rows.map (·.1)/\H l=some (.lst (os.map V.str))/\os.length<=24/\(∀ o∈os,o∈rows.map (·.1))/\∀ H',AA H H'->Q (.bl (os.any λo=>AY rows x o&&!decide (x=o))) H'
def iB(C:Addr):Sp:=λvs H Q _=>∃(p:Addr) (rows:RS) (x y:Str),vs=[.ref p,.str x,.str y]/\BA C H p rows/\AR rows/\x∈rows.map (·.1)/\y∈rows.map (·.1)/\∀ l H',H l=none->AA H H'->H' l=some (.lst ((Hq rows x y).map V.str))->Q (.ref l) H'
def de(rows:RS)(x:Str):V->V
 | .str o=>.bl (AY rows x o&&!decide (x=o))
 | _=>.non
def fh(rows:RS)(x y:Str):V->Bool
 | .str w=>Rv rows x y w
 | _=>false
def WX(os:LS):V->Bool
 | .str z=>decide (z∈os)
 | _=>false
def sJ:(["other","kinds","word"]:LS).Nodup:=by rfl'
def qq:(["word","below_other"]:LS).Nodup:=by rfl'
def sS:(["word","kinds","shared"]:LS).Nodup:=by rfl'
abbrev eU(K:Fg)(C fB:Addr)(fdB:FuncData):Prop:=El K C "beneath" "Kinds.beneath" P4 ["self","one","other"] fB fdB
abbrev vZ(K:Fg)(C fB:Addr)(fdB:FuncData):Prop:=El K C "below" "Kinds.below" Px ["self","word"] fB fdB
abbrev K_:LS:=["kinds","word","others"]
def wq:Ab K_ K_ (AK P1):=by nofun
def uY(F:Def K mg "beneath_any" P1 K_ f fd)(any:mg "any"=none)(TC:CT K C)(MB:eU K C fB fdB)(MU:LY K C fU fdU)(MC:LX K C fC fdC)(MH:FZ K C fH fdH):⋯ 5 f fd K_ (iA C):=by
 have GB:⋯ 4 fB fdB ["self","one","other"] (Vx C):=cP MB.fn TC MU MC MH
 nomatch F.fn.ok wq
 ·obtain⟨p,l,rows,x,os,rfl,_⟩:=h;rfl
 ·obtain⟨p,l,rows,x,os,rfl,kd,g,hx,hl,hlen,hos,q⟩:=h;obtain⟨dx,d,a,o,oa,kvs,AJ,h1,_⟩:=kd.ex
  ac_nf
  refine'⟨_,AG (AS (Af (Np rfl) (by rfl) any OO (pC ?ea AB))),?_⟩
  case ea=>exact(BC ["other"] ["kinds","word"] [0,1] (λ_=>A4 (osc:=AK P1) (on:=K_) (by rfl') rfl rfl rfl) (Be (pv 2)) (λC s H fp=>Ay (i:=0) sJ rfl (Or.inl rfl) (Or.inr rfl)) (λC s H fp=>B6)
    (λC s H fp=>Dc (pv 1) TC.cl MB.me GB hr MB.b .nil A3 (pC (pv 2) (pC (pv 0) AB))))
  refine⟨Z,l,Y,⟨_,SqL.of hl⟩,IC (Bk (xs:=os.map V.str)) (sL (by rw[Ya];omega)) (λ_=>true) (de rows x) (λD ys hD=>SqL.of (Ap hD _ _ hl)) ?_ ?_ ?_⟩
  ·intro D ys v R _ _ hR;exact hR
  ·intro D ys v R hD hv _ hR;obtain⟨o,ho,rfl⟩:=Yg.mp hv;have s1:AA H (upd H D (.lst ys)):=Ap hD;exact⟨Z,p,dx,Z,s1 _ _ h1,cM _ _,Z,Z,p,rows,x,o,Y,kd.mono s1,g,hx,hos o ho,hR⟩
  ·intro D hD;have e:((os.map V.str).filter λ_=>true).map (de rows x)=(os.map λo=>AY rows x o&&!decide (x=o)).map V.bl:=by
    rw[Et.mpr λ_ _=>rfl,Bo,Bo];rfl
   rw[e];refine⟨D,Z,SqL.of uS,?_⟩;have e2:(os.map λo=>AY rows x o&&!decide (x=o)).any id=os.any λo=>AY rows x o&&!decide (x=o):=by
    rw[List.any_map];rfl
   show Q (V.bl ((os.map λo=>AY rows x o&&!decide (x=o)).any id)) _;rw[e2];exact q _ (Ap hD)
abbrev US:LS:=["kinds","one","other","below_one","below_other","shared"]
def eM:Ab US ["kinds","one","other"] (AK Nx):=by nofun
def pA(F:Def K mg "commons" Nx ["kinds","one","other"] f fd)(DA:Def K mg "beneath_any" P1 K_ fA fdA)(any:mg "any"=none)(TC:CT K C)(ML:vZ K C fL fdL)(MB:eU K C fB fdB)(MU:LY K C fU fdU)(MC:LX K C fC fdC)(MH:FZ K C fH fdH):⋯ 6 f fd ["kinds","one","other"] (iB C):=by
 have GL:⋯ 3 fL fdL ["self","word"] (ba C):=o_ ML.fn TC MC MH;have GA:⋯ 5 fA fdA K_ (iA C):=uY DA any TC MB MU MC MH
 nomatch F.fn.ok eM
 ·obtain⟨p,rows,x,y,rfl,_⟩:=h;rfl
 ·obtain⟨p,rows,x,y,rfl,kd,g,hx,hy,q⟩:=h;obtain⟨dx,d,a,o,oa,kvs,AJ,h1,_⟩:=kd.ex;have nd:=eM.nd;have CJ:AU 3 _:=hr.mono (by decide)
  ac_nf
  refine⟨_,pS (sE 3 nd (Dc (pv 0) TC.cl ML.me GL CJ ML.b .nil A3 (pC (pv 1) AB)))
   (pS (B1 (i:=4) nd rfl (Or.inr rfl) (Dc (pv 0) TC.cl ML.me GL CJ ML.b .nil A3 (pC (pv 2) AB)))
   (pS (B1 (i:=5) nd rfl (Or.inr rfl) (BC ["word"] ["below_other"] [4] (λ_=>A4 (osc:=AK Nx) (on:=US) (by rfl') rfl rfl rfl) (Be (pv 3)) (λC s H fp=>Ay (i:=0) qq rfl (Or.inl rfl) (Or.inr rfl))
     (λC s H fp=>EX (Am (r:=M0 K false) Nw (pv 0) (pv 1) (by with_unfolding_all rfl))) (λC s H fp=>pv 0)))
   (AG (AS (BC ["word"] ["kinds","shared"] [0,5] (λ_=>A4 (osc:=AK Nx) (on:=US) (by rfl') rfl rfl rfl) (Be (pv 5)) (λC s H fp=>Ay (i:=0) sS rfl (Or.inl rfl) (Or.inr rfl))
     (λC s H fp=>EX (CV (B7 (AN DA GA hr (pC (pv 1) (pC (pv 0) (pC (pv 2) AB))))))) (λC s H fp=>pv 0)))))),?_⟩
  exists let b:=AE _ a;let c:=AE _ b;AE _ c _ _ _
  have ll:∀ z,(Cw rows z).length<=24:=λz=>by
   have:=EE (λw=>AY rows w z) (rows.map (·.1));rw[Ya]at this;exact A7 this g.le
  refine⟨Z,p,dx,Z,h1,aQ _ _,Z,p,rows,x,Y,kd,g,hx,λl1 Aq=>?_⟩;have s1:AA H (upd H l1 (.lst ((Cw rows x).map V.str))):=Ap Aq;have e1:(upd H l1 (.lst ((Cw rows x).map V.str))) l1=some (.lst ((Cw rows x).map V.str)):=uS;generalize upd H l1 (.lst ((Cw rows x).map V.str))=H1 at s1 e1;refine⟨Z,p,dx,Z,s1 _ _ h1,aQ _ _,Z,p,rows,y,Y,kd.mono s1,g,hy,λl2 BK=>?_⟩;have C4:AA H1 (upd H1 l2 (.lst ((Cw rows y).map V.str))):=Ap BK;have e2:(upd H1 l2 (.lst ((Cw rows y).map V.str))) l2=some (.lst ((Cw rows y).map V.str)):=uS;generalize upd H1 l2 (.lst ((Cw rows y).map V.str))=H2 at C4 e2;have s2:=s1.trans C4;have Jy:=C4 _ _ e1;refine⟨Z,l1,Y,⟨_,SqL.of Jy⟩,IC (Bk (xs:=(Cw rows x).map V.str)) (sL (by rw[Ya];have:=ll x;omega)) (WX (Cw rows y)) (λv=>v) (λD ys hD=>SqL.of (Ap hD _ _ Jy)) ?_ ?_ ?_⟩
  ·intro D ys v R hD hv hR;obtain⟨z,hz,rfl⟩:=Yg.mp hv;refine⟨Z,Z,l2,Z,.inl (SqL.of (Ap hD _ _ e2)),Y,Lu _,Z,?_⟩;have e:(if false=true then !EJ (V.str z) ((Cw rows y).map V.str)else EJ (V.str z) ((Cw rows y).map V.str))=WX (Cw rows y) (V.str z):=by
    rw[if_neg (by decide),J7];rfl
   rw[e];exact hR
  ·intro D ys v R hD hv _ hR;exact⟨Z,hR⟩
  ·intro l3 Bm;have e:(((Cw rows x).map V.str).filter (WX (Cw rows y))).map (λv=>v)=(Cy rows x y).map V.str:=by
    rw[Gh,II,<- t_];rfl
   rw[e];have E2:AA H2 (upd H2 l3 (.lst ((Cy rows x y).map V.str))):=Ap Bm;have e3:(upd H2 l3 (.lst ((Cy rows x y).map V.str))) l3=some (.lst ((Cy rows x y).map V.str)):=uS;generalize upd H2 l3 (.lst ((Cy rows x y).map V.str))=H3 at E2 e3;have s3:=s2.trans E2;refine⟨Z,l3,Y,⟨_,SqL.of e3⟩,Lo (Bk (xs:=(Cy rows x y).map V.str)) (sL (by rw[Ya];have:=Z9 g x y;omega)) (fh rows x y) (λ_ x v _=>v=x) (λ_ _ _ _ _ _ h=>h) (λH' s=>SqL.of (s _ _ e3)) ?_ ?_ ?_⟩
   ·intro v H4 R DG hv hR;obtain⟨z,hz,rfl⟩:=Yg.mp hv;have s4:=s3.trans DG;have hzw:z∈rows.map (·.1):=(Ng.mp hz).1;exact⟨Z,Z,Z,p,l3,rows,z,Cy rows x y,Y,kd.mono s4,g,hzw,DG _ _ e3,Z9 g x y,λo ho=>(Ng.mp ho).1,λH5 Ji=>⟨Z,hR H5 Ji⟩⟩
   ·intro D v H4 R DG _ _ hv _ hR;exact⟨Z,hR _ _ (AA.refl _) rfl⟩
   ·intro D H4 ys hD DG hlD hp;have ey:=Pd hp;have e4:((Cy rows x y).map V.str).filter (fh rows x y)=(Hq rows x y).map V.str:=by
     rw[II];rfl
    rw[e4]at ey;subst ey;exact q D H4 (s3.free hD) (s3.trans DG) hlD
def EH(p:Str×Str):V×V:=(.str p.1,.str p.2)
def Z0(xs ys:LS):(xs.map V.str).zip (ys.map V.str)=(xs.zip ys).map EH:=by rw[List.zip_map];rfl
def G8(rows:RS)(xs ys:LS):List (LS):=(xs.zip ys).map λp=>Hq rows p.1 p.2
theorem ZL{m:Nat}(h1:1<=m):∀(wss acc:List (LS)) (k:Nat),(∀ ws∈wss,ws.length<=m)->acc.length<=m ^ k->(wss.foldl EA acc).length<=m ^ (k + wss.length)
 | [],acc,k,_,h=>h
 | ws :: r,acc,k,hw,h=>by
  have:=ZL h1 r (EA acc ws) (k + 1) (λw ju=>hw w (by simp[ju])) (by
   rw[cK,Nat.pow_succ];exact Nat.mul_le_mul h (hw ws (by simp)))
  rw[Bv];rw[show k + (r.length + 1)=k + 1 + r.length by omega];exact this
def Zm{wss:List (LS)}{m n:Nat}(h1:1<=m)(hw:∀ ws∈wss,ws.length<=m)(hn:wss.length<=n):(Co wss).length<=m ^ n :=
 A7 (ZL h1 wss [[]] 0 hw (by simp)) (by rw[Nat.zero_add];exact Nat.pow_le_pow_right h1 hn)
def uA(rows:RS)(x y:Str):(Hq rows x y).length<=rows.length:=by
 refine A7 (EE _ _) (A7 (EE _ _) ?_);rw[Ya];exact Yf _
def VW{rows:RS}{xs ys:LS}:∀ ws∈G8 rows xs ys,ws.length<=rows.length:=λws h=>by
 obtain⟨p,_,rfl⟩:=Yg.mp h;exact uA rows p.1 p.2
def aD(rows:RS)(xs ys:LS):(G8 rows xs ys).length<=xs.length:=by
 unfold G8;rw[Ya,Kl];omega
theorem Zo{H:Hp}{D:Addr}{rows:RS}:∀ {ps:List (Str×Str)}{vs:LV},Paired (λ(x:V×V) v=>(∃ a b r,x=(V.str a,V.str b)/\v=V.ref r/\H r=some (.lst ((Hq rows a b).map V.str)))/\∀ r,v=.ref r->r≠D) (ps.map EH) vs->gI H (ps.map λp=>Hq rows p.1 p.2) vs
 | [],_,h=>by cases h;exact .nil
 | p :: r,_,h=>by
  cases h with
  | cons a b =>
   obtain⟨⟨x,y,t,e1,e2,e3⟩,_⟩:=a;have e1:(V.str p.1,V.str p.2)=(V.str x,V.str y):=e1;injection e1 with e1 Jy;injection e1 with e1;injection Jy with Jy;rw[<- e1,<- Jy]at e3;exact .cons ⟨t,e2,e3⟩ (Zo b)
structure eS(rows:RS)(n:Nat):Prop where
 four:n<=4
 le:∀ i,i<=n->rows.length ^ i<=10000
def aW(C:Addr):Sp:=λvs H Q _=>∃(p a b:Addr) (rows:RS) (xs ys:LS),vs=[.ref p,.ref a,.ref b]/\BA C H p rows/\AR rows/\H a=some (.tup (xs.map V.str))/\H b=some (.tup (ys.map V.str))/\(∀ x∈xs,x∈rows.map (·.1))/\(∀ y∈ys,y∈rows.map (·.1))/\eS rows xs.length /\
 ∀(lf:Addr) (zs:LV) (H':Hp),H lf=none->AA H H'->H' lf=some (.lst zs)->A0 H' (Co (G8 rows xs ys)) zs->Q (.ref lf) H'
def tF:(["first","second","kinds"]:LS).Nodup:=by rfl'
abbrev K8:LS:=["kinds","one","other"]
def rA:Ab K8 K8 (AK P8):=by nofun
def nN(F:Def K mg "common_calls" P8 K8 f fd)(zip:mg "zip"=none)(DO:Def K mg "one_of_each" P2 ["rows"] fO fdO)(DC:Def K mg "commons" Nx ["kinds","one","other"] fC fdC)(GC:⋯ 6 fC fdC ["kinds","one","other"] (iB C)):
  ⋯ 7 f fd K8 (aW C):=by
 have GO:⋯ 1 fO fdO ["rows"] bj:=qB DO
 nomatch F.fn.ok rA
 ·obtain⟨p,a,b,rows,xs,ys,rfl,_⟩:=h;rfl
 ·obtain⟨p,a,b,rows,xs,ys,rfl,kd,g,ha,hb,hx,hy,fn,q⟩:=h;have Ah:AU 1 _:=hr.mono (by decide);have n4:=fn.four
  ac_nf
  refine'⟨_,AG (AS (AN DO GO Ah (pC ?ea AB))),?_⟩
  case ea=>exact(BC ["first","second"] ["kinds"] [0] (λ_=>A4 (osc:=AK P8) (on:=K8) (by rfl') rfl rfl rfl) (U8 (by rfl) zip (pC (pv 1) (pC (pv 2) AB)))
    (λC s H fp=>PF (K:=K) (i:=0) (j:=1) rfl rfl tF rfl rfl (Or.inl rfl) (Or.inl rfl) (Or.inr rfl) (Or.inr rfl)) (λC s H fp=>B6)
    (λC s H fp=>AN DC GC hr (pC (pv 2) (pC (pv 0) (pC (pv 1) AB)))))
  refine⟨Z,Z,a,b,_,Z,AL.of ha,AL.of hb,Sk (sL (by rw[Kl,Ya];omega)) (λ_=>true) (λD x v H=>(∃ a b r,x=(V.str a,V.str b)/\v=V.ref r/\H r=some (.lst ((Hq rows a b).map V.str)))/\∀ r,v=.ref r->r≠D) (λD x v Ha Hb k h=>?_) (λH' s'=>⟨AL.of (s' _ _ ha),AL.of (s' _ _ hb)⟩) ?_ ?_ ?_⟩
  ·obtain⟨⟨x,y,r,e1,e2,e3⟩,ne⟩:=h;exact⟨⟨x,y,r,e1,e2,k _ _ (ne r e2) e3⟩,ne⟩
  ·intro x H' R s' _ hR;exact hR H' (AA.refl _)
  ·intro D x H' R s' hDx hDn hxm _ hR;rw[Z0]at hxm;obtain⟨z,hz,rfl⟩:=Yg.mp hxm;obtain⟨Hc,Ft⟩:=hDx;refine⟨Z,Z,Z,p,rows,z.1,z.2,Y,kd.mono s',g,hx _ (Kn hz).1,hy _ (Kn hz).2,λl H2 hl s2 BK=>?_⟩;exact hR _ H2 s2 ⟨⟨z.1,z.2,l,Y,Y,BK⟩,λr e=>by injection e with e;rw[<- e];exact Yr (AH Ft hl)⟩
  ·intro D H2 vs hD s2 BK hp;rw[Et.mpr (λ_ _=>rfl),Z0]at hp;have hR:=Zo hp;have r1:1<=rows.length:=by have:=g.ne;omega
   have cl:=aD rows xs ys;refine⟨D,G8 rows xs ys,vs,Y,BK,hR,λi=>?_,λws hws=>A7 (VW ws hws) (by have:=g.le;omega),W,λlf zs H3 hlf s3 Bm Io=>q lf zs H3 (s2.free hlf) (s2.trans s3) Bm Io⟩;refine A7 (Zm r1 (n:=xs.length) (λws h=>VW ws (MO h)) ?_) (fn.le _ (Yf _));rw[Yx];omega
def bR{rows:RS}{n:Nat}{ds:List (LS)}(g:AR rows)(gd:BE rows n ds):∀ {l:LN},(∀ k∈l,k<ds.length)->l.Nodup->ES (wB rows ds) l (Bn (wB rows ds) l):=by
 intro l hl nd;have ex:∀ m,m<=l.length->∃ near,ES (wB rows ds) (l.take m) near:=by
  intro m
  induction m with
  | zero=>exact λ_=>⟨[],by rw[FJ];exact ES.nil _⟩
  | succ m ih =>
   intro hm;obtain⟨near,h⟩:=ih (by omega);have hx:l[m]?=some (l[m]'(by omega)):=Yb (by omega);refine⟨LW (wB rows ds) near (l[m]'(by omega)),?_⟩;rw[B9,hx];exact bz g gd (λk hk=>hl k (MO hk)) (hl _ (KU _)) h
 obtain⟨near,h⟩:=ex l.length (Yf _);rw[De]at h;rw[<- h.is nd];exact h
def uU{rows:RS}{n:Nat}{ds:List (LS)}(g:AR rows)(gd:BE rows n ds)(xs:LS):ES (wB rows ds) (AO rows ds xs) (Ax rows ds xs):=bR g gd SJ (J6 _ _ _)
def KC{rows:RS}{ds:List (LS)}{xs:LS}{k:Nat}:k∈AO rows ds xs↔k<ds.length/\A_ rows xs (ds.getD k [])=true:=by
 unfold AO;rw[Yu,Bp]
theorem bG:∀(wss acc:List (LS)) (c:LS),c∈wss.foldl EA acc↔∃ a∈acc,∃ b,c=a++b/\Paired (λ(x:Str) (ws:LS)=>x∈ws) b wss
 | [],acc,c=>by
  constructor
  ·intro h;exact⟨c,h,[],G,.nil⟩
  ·rintro⟨a,ha,b,rfl,h⟩;cases h;simpa using ha
 | ws :: r,acc,c=>by
  show c∈r.foldl EA (EA acc ws)↔_;rw[bG r (EA acc ws) c];constructor
  ·rintro⟨a,ha,b,rfl,h⟩;obtain⟨e,he,ha⟩:=List.mem_flatMap.mp ha;obtain⟨x,hx,rfl⟩:=Yg.mp ha;exact⟨e,he,x :: b,G,.cons hx h⟩
  ·rintro⟨a,ha,b,rfl,h⟩;cases h with
   | cons hx h=>exact⟨_,List.mem_flatMap.mpr ⟨a,ha,Yg.mpr ⟨_,hx,Y⟩⟩,_,G,h⟩
def SY{wss:List (LS)}{c:LS}:c∈Co wss↔Paired (λ(x:Str) (ws:LS)=>x∈ws) c wss:=by
 unfold Co;rw[bG];constructor
 ·rintro⟨a,ha,b,rfl,h⟩;rw[Yj.mp ha];exact h
 ·intro h;exact⟨[],G,c,Y,h⟩
def ou{rows:RS}:∀ {xs ys c:LS},xs.length=ys.length->(c∈Co (G8 rows xs ys)↔c.length=xs.length/\∀(i:Nat) (x y z:Str),xs[i]?=some x->ys[i]?=some y->c[i]?=some z->z∈Hq rows x y):=by
 intro xs ys c hl;rw[SY];unfold G8
 induction xs generalizing ys c with
 | nil =>
  constructor
  ·intro h;cases h;exact⟨Y,λi x y z h=>by simp at h⟩
  ·rintro⟨h,_⟩;cases c with
   | nil=>exact .nil
   | cons a r=>cases h
 | cons x xs ih=>cases ys with
  | nil=>cases hl
  | cons y ys =>
   have CB:xs.length=ys.length:=KW hl;rw[List.zip_cons_cons,Yo];constructor
   ·intro h;cases h with
    | cons hx h =>
     obtain⟨h1,h2⟩:=(ih CB).mp h;refine⟨by rw[Bv,Bv,h1],λi a b z e1 e2 e3=>?_⟩;cases i with
     | zero =>
      simp only[List.getElem?_cons_zero,Option.some.injEq]at e1 e2 e3;rw[<- e1,<- e2,<- e3];exact hx
     | succ i =>
      simp only[MY]at e1 e2 e3;exact h2 i a b z e1 e2 e3
   ·rintro⟨h1,h2⟩;cases c with
    | nil=>cases h1
    | cons z c =>
     refine .cons (h2 0 x y z rfl rfl rfl) ((ih CB).mpr ⟨KW h1,λi a b w e1 e2 e3=>h2 (i + 1) a b w ?_ ?_ ?_⟩)
     ·rw[MY];exact e1
     ·rw[MY];exact e2
     ·rw[MY];exact e3
def cf{rows:RS}{n:Nat}{xs ys c:LS}(hx:xs.length=n)(hy:ys.length=n)(h:c∈Co (G8 rows xs ys)):BX rows n c/\A_ rows c xs=true/\A_ rows c ys=true:=by
 obtain⟨h1,h2⟩:=(ou (hx.trans hy.symm)).mp h;have at':∀ {i:Nat} {z:Str},c[i]?=some z->∃ x y,xs[i]?=some x/\ys[i]?=some y/\z∈Hq rows x y:=λ{i z} e=>by
  have hi:=(Ye.mp e).1;exact⟨xs[i]'(by omega),ys[i]'(by omega),Yb _,Yb _,h2 i _ _ z (Yb _) (Yb _) e⟩
 refine⟨⟨h1.trans hx,λz hz=>?_⟩,KP.mpr λi z x ez ex=>?_,KP.mpr λi z y ez ey=>?_⟩
 ·obtain⟨i,ei⟩:=Gj hz;obtain⟨x,y,_,_,hc⟩:=at' ei;exact(Ng.mp (Yu.mp hc).1).1
 ·obtain⟨x',y,Ow,_,hc⟩:=at' ez;rw[ex]at Ow;injection Ow with Ow;rw[Ow];exact(Ng.mp (Yu.mp hc).1).2.1
 ·obtain⟨x,y',_,Rt,hc⟩:=at' ez;rw[ey]at Rt;injection Rt with Rt;rw[Rt];exact(Ng.mp (Yu.mp hc).1).2.2
def QH(rows:RS)(ds:List (LS))(i j:Nat):Bool:=!wB rows ds i j&&!wB rows ds j i
def J0(rows:RS)(ds:List (LS))(i:Nat):List (Nat×Nat):=(((List.range (ds.length - (i + 1))).map λk=>i + 1 + k).filter λj=>QH rows ds i j).map λj=>(i,j)
def Dz(rows:RS)(ds:List (LS)):List (Nat×Nat):=(List.range ds.length).flatMap (J0 rows ds)
def SM{rows:RS}{ds:List (LS)}{p:Nat×Nat}:p∈Dz rows ds↔p.1<p.2/\p.2<ds.length/\QH rows ds p.1 p.2=true:=by
 unfold Dz J0;simp only[List.mem_flatMap,Bp,Yg,Yu];constructor
 ·rintro⟨i,hi,j,⟨⟨k,hk,rfl⟩,hb⟩,rfl⟩;exact⟨by show i<i + 1 + k;omega,by show i + 1 + k<_;omega,hb⟩
 ·rintro⟨h1,h2,h3⟩;exact⟨p.1,W,p.2,⟨⟨p.2 - (p.1 + 1),W,W⟩,h3⟩,Y⟩
theorem SS{α β:Type}{f:α->List β}{m:Nat}:∀ {l:List α},(∀ x∈l,(f x).length<=m)->(l.flatMap f).length<=l.length * m
 | [],_=>by simp
 | x :: r,h=>by
  have h1:=h x (by simp);have h2:=SS (f:=f) (m:=m) (l:=r) (λy hy=>h y (by simp[hy]));rw[List.flatMap_cons,Yt,Bv,Nat.succ_mul];omega
def Vz(rows:RS)(ds:List (LS))(i:Nat):(J0 rows ds i).length<=ds.length:=by
 unfold J0;rw[Ya];refine A7 (EE _ _) ?_;rw[Ya,Df];omega
def H_(rows:RS)(ds:List (LS)):(Dz rows ds).length<=ds.length * ds.length:=by
 have:=SS (f:=J0 rows ds) (m:=ds.length) (l:=List.range ds.length) (λi _=>Vz rows ds i)
 rwa [Df]at this
abbrev Ev:=Nat×Nat×LS
def CO(rows:RS)(ds:List (LS))(p:Nat×Nat):List Ev:=(Co (G8 rows (ds.getD p.1 []) (ds.getD p.2 []))).map λc=>(p.1,p.2,c)
def Hk(rows:RS)(ds:List (LS)):List Ev:=(Dz rows ds).flatMap (CO rows ds)
def lZ{rows:RS}{n:Nat}{ds:List (LS)}(g:AR rows)(gd:BE rows n ds){p:Nat×Nat}(hp:p.1<ds.length):(CO rows ds p).length<=rows.length ^ n:=by
 unfold CO;rw[Ya];have r1:1<=rows.length:=by have:=g.ne;omega
 have:=aD rows (ds.getD p.1 []) (ds.getD p.2 []);rw[GY gd hp]at this;exact Zm r1 (λws h=>VW ws h) this
def rX{rows:RS}{n:Nat}{ds:List (LS)}(g:AR rows)(gd:BE rows n ds):(Hk rows ds).length<=ds.length * ds.length * rows.length ^ n:=by
 have h1:=SS (f:=CO rows ds) (m:=rows.length ^ n) (l:=Dz rows ds) (λp hp=>lZ g gd (by have:=SM.mp hp;omega));exact A7 h1 (Nat.mul_le_mul_right _ (H_ rows ds))
def ZH{rows:RS}{n:Nat}{ds:List (LS)}(gd:BE rows n ds){p:Nat×Nat}(h1:p.1<ds.length)(h2:p.2<ds.length){e:Ev}(he:e∈CO rows ds p):BX rows n e.2.2/\p.1∈AO rows ds e.2.2/\p.2∈AO rows ds e.2.2:=by
 obtain⟨c,hc,rfl⟩:=Yg.mp he;obtain⟨gc,a,b⟩:=cf (GY gd h1) (GY gd h2) hc;exact⟨gc,KC.mpr ⟨h1,a⟩,KC.mpr ⟨h2,b⟩⟩
def bS{rows:RS}{n:Nat}{ds:List (LS)}(g:AR rows)(gd:BE rows n ds){c:LS}{k:Nat}(hk:k∈AO rows ds c):Ax rows ds c≠[]:=λz=>by
 obtain⟨j,hj,_⟩:=(uU g gd c).dom k hk;rw[z]at hj;cases hj
def ZI{α β:Type}{f:α->List β}{l:List α}{i:Nat}{x:α}(h:l[i]?=some x):(l.take (i + 1)).flatMap f=(l.take i).flatMap f++f x:=by
 rw[B9,h,List.flatMap_append];simp
def ae{α:Type}{l:List α}{i:Nat}{x:α}(h:l[i]?=some x):l=l.take i++x :: l.drop (i + 1):=by
 obtain⟨hi,rfl⟩:=Ye.mp h;rw[<- OK hi,JM]
def uG{α:Type}{q:α->Bool}{a b:List α}{e:α}(h:∀ x∈a,q x=false)(he:q e=true):(a++e :: b).find? q=some e:=by
 rw[List.find?_append,List.find?_eq_none.mpr (λx hx=>by rw[h x hx];decide),List.find?_cons_of_pos he];rfl
def h_(C:Addr):Sp:=λvs H Q _=>∃(p a b:Addr) (rows:RS) (xs ys:LS),vs=[.ref p,.ref a,.ref b]/\BA C H p rows/\AR rows/\H a=some (.tup (xs.map V.str))/\H b=some (.tup (ys.map V.str))/\(∀ x∈xs,x∈rows.map (·.1))/\(∀ y∈ys,y∈rows.map (·.1)) /\
 ∀ H',AA H H'->Q (.bl (!A_ rows xs ys&&!A_ rows ys xs)) H'
def GG(H:Hp)(ps:List (Nat×Nat))(vs:LV):Prop:=Paired (λ(p:Nat×Nat) v=>∃ t,v=V.ref t/\H t=some (.tup [AF p.1,AF p.2])) ps vs
def GG.mono{H H':Hp}{ps:List (Nat×Nat)}{vs:LV}(h:GG H ps vs)(s:∀ b xs,H b=some (.tup xs)->H' b=some (.tup xs)):GG H' ps vs:=Paired.mapP h λ_ _ ⟨t,e,x⟩=>⟨t,e,s _ _ x⟩
def GG.append{H:Hp}{ds es:List (Nat×Nat)}{us vs:LV}(h:GG H ds us)(k:GG H es vs):GG H (ds++es) (us++vs):=by
 unfold GG at *
 induction h with
 | nil=>exact k
 | cons r t ih=>exact .cons r ih
def dG(C B:Addr):Sp:=λvs H Q _=>∃(p k:Addr) (rows:RS) (n:Nat) (ds:List (LS)),vs=[.ref p]/\B0 C B H p k rows n ds/\AR rows/\BE rows n ds /\
 ∀ l vs H',H l=none->AA H H'->H' l=some (.lst vs)->GG H' (Dz rows ds) vs->Q (.ref l) H'
def WW(rows:RS)(ds:List (LS))(i:Nat):V->Bool
 | .int j=>QH rows ds i j.toNat
 | _=>false
def Wb(i:Nat)(x v:V)(H:Hp):Prop:=∃(t:Addr) (j:Nat),x=AF j/\v=.ref t/\H t=some (.tup [AF i,AF j])
theorem ay{H:Hp}{i:Nat}:∀ {js:LN}{ys:LV},Paired (λx v=>Wb i x v H) (js.map AF) ys->GG H (js.map λj=>(i,j)) ys
 | [],_,h=>by cases h;exact .nil
 | x :: r,_,h=>by
  cases h with
  | cons a b =>
   obtain⟨t,j,e1,e2,e3⟩:=a;have e1:j=x:=by
    have:(V.int (x:Int))=V.int (j:Int):=e1;injection this with this;omega
   subst e1;exact .cons ⟨t,e2,e3⟩ (ay b)
def Vh(i m:Nat):CW ((i:Int) + 1) m=((List.range m).map λk=>i + 1 + k).map AF:=by
 unfold CW;rw[Bo];refine Ki λk _=>?_;show V.int ((i:Int) + 1 + (k:Int))=V.int ((i + 1 + k:Nat):Int)
 congr 1
def pU(rows:RS)(ds:List (LS))(i:Nat)(js:LN):(js.map AF).filter (WW rows ds i)=(js.filter λj=>QH rows ds i j).map AF:=by
 rw[II];rfl
def vB:(["other","one","kinds","deeds"]:LS).Nodup:=by rfl'
structure WQ(mg:Str->OU):Prop where
 len:mg "len"=none
 range:mg "range"=none
 list:mg "list"=none
abbrev n3:LS:=["kinds","one","other"]
def wm:Ab n3 n3 (AK TY):=by nofun
def uX(F:Def K mg "are_strangers" TY n3 f fd)(DW:Def K mg "within" Lq ["kinds","one","other"] fW fdW)(GW:⋯ 4 fW fdW ["kinds","one","other"] (Zip C)):
  ⋯ 5 f fd n3 (h_ C):=by
 nomatch F.fn.ok wm
 ·obtain⟨p,a,b,rows,xs,ys,rfl,_⟩:=h;rfl
 ·obtain⟨p,a,b,rows,xs,ys,rfl,kd,g,ha,hb,hx,hy,q⟩:=h
  ac_nf
  refine'⟨_,AG (AS (NZ (R8 (AN DW GW hr (pC (pv 0) (pC (pv 1) (pC (pv 2) AB))))) (Nb (R8 (AN DW GW hr (pC (pv 0) (pC (pv 2) (pC (pv 1) AB)))))))),?_⟩;refine⟨Z,Z,Z,p,a,b,rows,xs,ys,Y,kd,g,ha,hb,hx,hy,λH1 s1=>⟨Z,Z,?_⟩⟩;refine A9 (λh=>?_) (λh=>?_)
  ·refine⟨Z,Z,Z,p,b,a,rows,ys,xs,Y,kd.mono s1,g,s1 _ _ hb,s1 _ _ ha,hy,hx,λH2 s2=>⟨Z,?_⟩⟩;have:=q H2 (s1.trans s2);rw[h,Kd]at this;exact this
  ·have h':(!A_ rows xs ys)=false:=by simpa using h
   have:=q H1 s1;rw[h',OM]at this;exact this
abbrev X3:LS:=["board","kinds","deeds","pairs","one"]
def fM:Ab X3 ["board"] (AK Pw):=by nofun
def qV(F:Def K mg "strangers" Pw ["board"] f fd)(T:WQ mg)(TB:E_ K B)(MK:Lg K B fK fdK)(MD:Nf K B fDe fdDe)
  (DA:Def K mg "are_strangers" TY n3 fA fdA) (GA:⋯ 5 fA fdA n3 (h_ C)):⋯ 6 f fd ["board"] (dG C B):=by
 have GK:⋯ 1 fK fdK ["self"] (KI C B):=Ly MK.fn TB;have GD:⋯ 1 fDe fdDe ["self"] (Lr C B):=Nv MD.fn TB T.list
 nomatch F.fn.ok fM
 ·obtain⟨p,k,rows,n,ds,rfl,_⟩:=h;rfl
 ·obtain⟨p,k,rows,n,ds,rfl,bd,g,gd,q⟩:=h;obtain⟨dx,ts,Xj,h1,h2,h3,h4⟩:=bd.ex;have nd:=fM.nd;have Ah:AU 1 _:=hr.mono (by decide);have few:=gd.few
  ac_nf
  refine'⟨_,(pS (B1 (i:=1) nd rfl (Or.inr rfl) (C8 (pv 0) TB.cl MK.me GK Ah MK.b .nil A3))
   (pS (B1 (i:=2) nd rfl (Or.inr rfl) (C8 (pv 0) TB.cl MD.me GD Ah MD.b .nil A3))
   (pS (sE 3 nd (B4 AB))
   (pS (Bt Ys rfl (FF (by rfl) T.range (pC (Af CC (by rfl) T.len Yz (pC (pv 2) AB)) AB)) (Ay (i:=4) nd rfl (Or.inr rfl))
    (AG (B5 (C7 C1 PySem.F.slot_list_extend PySem.F.type_list_extend bQ (pv 3) (pC ?ea AB)))))
   (AG (AS (pv 3))))))),?_⟩
  case ea=>exact(BC ["other"] ["one","kinds","deeds"] [4,1,2] (λ_=>A4 (osc:=AK Pw) (on:=X3) (by rfl') rfl rfl rfl) (nY (by rfl) T.range (pC (Ai ET (pv 4) AI) (pC (Af CC (by rfl) T.len Yz (pC (pv 2) AB)) AB))) (λC s H fp=>Ay (i:=0) vB rfl (Or.inl rfl) (Or.inr rfl))
    (λC s H fp=>EX (B7 (AN DA GA hr (pC (pv 2) (pC (AV (r:=BV K) Ar (pv 3) (pv 1) (λ_ _=>rfl)) (pC (AV (r:=BV K) Ar (pv 3) (pv 0) (λ_ _=>rfl)) AB))))))
    (λC s H fp=>CP (pC (pv 1) (pC (pv 0) AB))))
  exists let b:=_;let c:=AE (Bz _ _ b) a;let e:=AE _ c;let f:=AE _ e;AE _ f _ _ _
  refine⟨Z,p,dx,Z,h1,Lx _ _ _,p,k,O,Y,bd,?_⟩;refine⟨Z,p,dx,Z,h1,Lw _ _ _,p,k,O,Y,bd,λld us hld hD=>?_⟩;have s1:AA H (upd H ld (.lst us)):=Ap hld;have Aq:(upd H ld (.lst us)) ld=some (.lst us):=uS;have E8:=hD.mono s1;generalize upd H ld (.lst us)=H1 at s1 Aq E8;have yE:=bd.mono s1;have OX:=h2.mono s1;have hul:=E8.len;refine⟨BF _,λlp hlp=>?_⟩;have s2:AA H1 (upd H1 lp (.lst [])):=Ap hlp;have lpH:H lp=none:=s1.free hlp;let BG:NW:=λi σ H'=>∃(vs:LV) (x:OV),σ=[some (.ref p),some (.ref k),some (.ref ld),some (.ref lp),x]/\AA H1 H'/\H' lp=some (.lst vs)/\GG H' (((List.range ds.length).take i).flatMap (J0 rows ds)) vs;refine⟨Z,ld,Z,.inl (SqL.of (s2 _ _ Aq)),Z,W,W,B8 Es BG
   ⟨[],none,Y,s2,uS,by rw[FJ];exact .nil⟩ (λi σ H' _ _=>trivial) ?_ ?_⟩
  ·rintro i v σ H' hi ⟨vs,x,rfl,s',hlv,hP⟩;obtain⟨CK,rfl⟩:=Ds hi;have ei:((us.length:Nat):Int).toNat=us.length:=by omega
   rw[ei]at CK;have hid:i<ds.length:=by omega
   have e0:(0:Int) + (i:Int)=((i:Nat):Int):=by omega
   rw[e0];have kY:(((us.length:Nat):Int) - (((i:Nat):Int) + 1)).toNat=ds.length - (i + 1):=by omega
   refine⟨Z,.inl ⟨Y,_,SqL.of hlv⟩,Z,_,Z,Y,Z,ld,Z,.inl (SqL.of (s' _ _ Aq)),_,Z,⟨W,W,W,W⟩,?_⟩;rw[kY];refine Lo Es (sL (by rw[Ca];omega)) (WW rows ds i) (λD x v H=>Wb i x v H/\∀ t,v=.ref t->t≠D) (λD x v Ha Hb k h=>?_) (λ_ _=>trivial) ?_ ?_ ?_
   ·obtain⟨⟨t,j,e1,e2,e3⟩,ne⟩:=h;exact⟨⟨t,j,e1,e2,k _ _ (ne t e2) e3⟩,ne⟩
   ·intro v H2 R Mz hv hR;rw[Vh]at hv;obtain⟨j,hj,rfl⟩:=Yg.mp hv;obtain⟨k0,Cc,rfl⟩:=Yg.mp hj;have Cc:=Bp.mp Cc;have sH:=s'.trans Mz;obtain⟨t1,a1,b1⟩:=IA E8 sH hid;obtain⟨t2,a2,b2⟩:=IA E8 sH (k:=i + 1 + k0) (by omega);have e2:WW rows ds i (AF (i + 1 + k0))=(!A_ rows (ds.getD i []) (ds.getD (i + 1 + k0) [])&&!A_ rows (ds.getD (i + 1 + k0) []) (ds.getD i [])):=rfl;rw[e2]at hR;exact⟨Z,Z,Z,ld,_,_,Z,Y,SqL.of (sH _ _ Aq),a1,Z,Z,ld,_,_,Z,Y,SqL.of (sH _ _ Aq),a2,k,t1,t2,rows,_,Z,OX.mono sH,g,b1,b2,Pl gd hid,Pl gd (by omega),λH3 s3=>⟨Z,hR H3 s3⟩⟩
   ·intro D v H2 R Mz hDx hDn hv _ hR;rw[Vh]at hv;obtain⟨j,hj,rfl⟩:=Yg.mp hv;obtain⟨Hc,Ft⟩:=hDx;refine⟨Z,Z,U,λt ht=>?_⟩;exact hR _ _ (Ap ht) ⟨⟨t,j,Y,Y,uS⟩,λt' e=>by injection e with e;rw[<- e];exact Yr (AH Ft ht)⟩
   ·intro D H2 ys G5 Mz BK hp;rw[Vh,pU]at hp;have hN:GG H2 (J0 rows ds i) ys:=ay (Paired.mapP hp λ_ _ z=>z.1);have Qk:=Mz _ _ hlv;have vl:=Bl hP;have yl:=Bl hN;have b1:=SS (f:=J0 rows ds) (m:=ds.length) (l:=(List.range ds.length).take i) (λj _=>Vz rows ds j);have b2:=Vz rows ds i;rw[Yx,Df]at b1;have b3:min i ds.length * ds.length<=64 * 64:=Nat.mul_le_mul (by omega) few;refine⟨lp,D,_,Z,Y,Qk,BK,sL (by omega),vs++ys,Z,λb o e=>by rw[AD (AH e hlp)];exact Mz _ _ (s' _ _ e),uS,?_⟩;have hx:(List.range ds.length)[i]?=some i:=by rw[JI hid]
    rw[ZI hx];have kp:∀ b xs,H2 b=some (.tup xs)->(upd H2 lp (.lst (vs++ys))) b=some (.tup xs):=λb xs e=>by rw[AD (λz=>by rw[z,Qk]at e;cases e)];exact e
    exact((hP.mono λb xs e=>Mz _ _ e).mono kp).append (hN.mono kp)
  ·rintro σ H' ⟨vs,x,rfl,s',hlv,hP⟩;have e:(List.range ds.length).take (CW 0 ((us.length:Nat):Int).toNat).length=List.range ds.length:=by
    rw[Ca,Kc];rw[Df];omega
   rw[e]at hP;exact⟨Z,q lp vs H' lpH (s1.trans s') hlv hP⟩
def Hl(rows:RS)(ds:List (LS))(e:Ev):Bool:=decide (1<(Ax rows ds e.2.2).length)
def LO(H:Hp)(rows:RS)(ds:List (LS))(es:List Ev)(vs:LV):Prop:=Paired (λ(e:Ev) v=>∃ t tc,v=V.ref t/\H t=some (.tup [AF e.1,AF e.2.1,.ref tc,AF ((Ax rows ds e.2.2).getD 0 0)])/\H tc=some (.tup (e.2.2.map V.str))) es vs
def LO.mono{H H':Hp}{rows:RS}{ds:List (LS)}{es:List Ev}{vs:LV}(h:LO H rows ds es vs)(s:∀ b xs,H b=some (.tup xs)->H' b=some (.tup xs)):LO H' rows ds es vs:=Paired.mapP h λ_ _ ⟨t,tc,e,x,y⟩=>⟨t,tc,e,s _ _ x,s _ _ y⟩
def Tb(H0 H:Hp)(t:Addr)(rows:RS)(ds:List (LS)):Prop :=
 match (Hk rows ds).find? (Hl rows ds)with
 | some e=>∃ tc,H t=some (.tup [.str "clash",.ref tc,AF ((Ax rows ds e.2.2).getD 0 0),AF ((Ax rows ds e.2.2).getD 1 0)])/\H tc=some (.tup (e.2.2.map V.str))
 | none=>∃ lr vs,H0 lr=none/\H t=some (.tup [.str "even",.ref lr])/\H lr=some (.lst vs)/\LO H rows ds (Hk rows ds) vs
def iC(C B:Addr):Sp:=λvs H Q _=>∃(p k:Addr) (rows:RS) (n:Nat) (ds:List (LS)),vs=[.ref p]/\B0 C B H p k rows n ds/\AR rows/\BE rows n ds/\n<=4/\rows.length ^ n<=512/\ds.length * ds.length * rows.length ^ n<=50000 /\
 ∀ t H',AA H H'->Tb H H' t rows ds->Q (.ref t) H'
def Cz(d l:Addr)(H H':Hp):Prop:=∀ b o,b≠d->b≠l->H b=some o->H' b=some o
def Cz.refl{d l:Addr}(H:Hp):Cz d l H H:=λ_ _ _ _ e=>e
def Cz.trans{d l:Addr}{H H' H2:Hp}(a:Cz d l H H')(b:Cz d l H' H2):Cz d l H H2:=λc o h1 h2 e=>b c o h1 h2 (a c o h1 h2 e)
def Cz.of{d l:Addr}{H H':Hp}(s:AA H H'):Cz d l H H':=λb o _ _ e=>s b o e
def Nd(H:Hp)(rows:RS)(ds:List (LS))(kvs:List (List Key×V)):Prop:=∀ c v,A2 kvs (Cv c)=some v->∃ t,v=.ref t/\H t=some (.tup (Eo (Ax rows ds c)))
def Nd.mono{H H':Hp}{rows:RS}{ds:List (LS)}{kvs:List (List Key×V)}(h:Nd H rows ds kvs)(s:∀ b xs,H b=some (.tup xs)->H' b=some (.tup xs)):Nd H' rows ds kvs:=λc v e=>by
 obtain⟨t,e1,e2⟩:=h c v e;exact⟨t,e1,s _ _ e2⟩
def uH{rows:RS}{n:Nat}(g:AR rows)(h4:n<=4)(h:rows.length ^ n<=512):eS rows n:=by
 have r1:1<=rows.length:=by have:=g.ne;omega
 exact⟨h4,λi hi=>A7 (Nat.pow_le_pow_right r1 hi) (by omega)⟩
def mM(x y:Nat)(r:LN):Eo (x :: y :: r)=[.str "clash",AF x,AF y]:=rfl
abbrev jT:LS:=["board","deeds","known","rows","one","other","call","answer"]
def eO:Ab jT ["board"] (AK R3):=by nofun
set_option maxHeartbeats 16000000 in
def uZ(F:Def K mg "even" R3 ["board"] f fd)(T:WQ mg)(TB:E_ K B)(MK:Lg K B fK fdK)(MD:Nf K B fDe fdDe)
  (MS:qj K B fSz fdSz) (GS:⋯ 2 fSz fdSz ["self"] (iK C B)) (DSt:Def K mg "strangers" Pw ["board"] fSt fdSt) (GSt:⋯ 6 fSt fdSt ["board"] (dG C B))
  (DCC:Def K mg "common_calls" P8 K8 fCC fdCC) (GCC:⋯ 7 fCC fdCC K8 (aW C)) (DTd:Def K mg "told" O9 ["board","call"] fTd fdTd) (GTd:⋯ 8 fTd fdTd ["board","call"] (VB C B)):
  ⋯ 9 f fd ["board"] (iC C B):=by
 have GK:⋯ 1 fK fdK ["self"] (KI C B):=Ly MK.fn TB;have GD:⋯ 1 fDe fdDe ["self"] (Lr C B):=Nv MD.fn TB T.list
 nomatch F.fn.ok eO
 ·obtain⟨p,k,rows,n,ds,rfl,_⟩:=h;rfl
 ·obtain⟨p,k,rows,n,ds,rfl,bd,g,gd,n4,hc,hz,q⟩:=h;obtain⟨dx,ts,Xj,h1,h2,h3,h4⟩:=bd.ex;have nd:=eO.nd;have hu:=ER hr;have Ah:AU 1 _:=hr.mono (by decide);have DJ:AU 2 _:=hr.mono (by decide);have jz:AU 6 _:=hr.mono (by decide);have Oa:AU 7 _:=hr.mono (by decide);have few:=gd.few;have evl:=A7 (rX g gd) hz
  ac_nf
  refine'⟨_,(pS (B5 (C8 (pv 0) TB.cl MS.me GS DJ MS.b .nil A3))
   (pS (sE 1 nd (C8 (pv 0) TB.cl MD.me GD Ah MD.b .nil A3))
   (pS (sE 2 nd az)
   (pS (sE 3 nd (B4 AB))
   (pS (Bt Ys rfl (Be (AN DSt GSt jz (pC (pv 0) AB))) (Iv rfl (gC (gE 4 nd) (gC (gE 5 nd) I_)))
    (AG (Bt Ys rfl (Be (AN DCC GCC Oa (pC (C8 (pv 0) TB.cl MK.me GK Ah MK.b .nil A3) (pC (AV (r:=BV K) Ar (pv 1) (pv 4) (λ_ _=>rfl)) (pC (AV (r:=BV K) Ar (pv 1) (pv 5) (λ_ _=>rfl)) AB))))) (gE 6 nd)
     (JB (Aj (Hy (V1 hu (pv 6) (pv 2))) (AG (JA hu (pv 2) (pv 6) (AN DTd GTd hr (pC (pv 0) (pC (pv 6) AB))) rfl)) Al)
   (pS (sE 7 nd (Fm hu (pv 2) (pv 6) (λ_ _=>rfl)))
   (pS (Aj (Am D_ (AV (r:=BN K) BQ (pv 7) AI (λ_ _=>rfl)) EU (Ak _)) (AG (AS (CP (pC EU (pC (pv 6) (pC (AV (r:=BN K) BQ (pv 7) AI (λ_ _=>rfl)) (pC (AV (r:=BN K) BQ (pv 7) AI (λ_ _=>rfl)) AB))))))) Al)
   (AG (B5 (C7 C1 IM IL GZ (pv 3) (pC (CP (pC (pv 4) (pC (pv 5) (pC (pv 6) (pC (AV (r:=BN K) BQ (pv 7) AI (λ_ _=>rfl)) AB))))) AB))))))))))
   (AG (AS (CP (pC EU (pC (pv 3) AB)))))))))),?_⟩
  exists let b:=_;let c:=_;let e:=AE (D0 _ c _) b;let f:=AE _ e;let g:=_;let h:=MJ (D0 _ g _) f;let i:=Bz _ _ h;let j:=AE (Bz _ _ i) a;let k:=AE _ j;let l:=AE _ k;let m:=AE _ l;AE _ m _ _ _
  refine⟨Z,p,dx,Z,h1,lK _ _ _,p,k,O,Y,bd,g,n4,hc,λHa sa=>?_⟩;have bda:=bd.mono sa;refine⟨Z,p,dx,Z,sa _ _ h1,Lw _ _ _,p,k,O,Y,bda,λld us hld hD=>?_⟩;have s1:AA Ha (upd Ha ld (.lst us)):=Ap hld;have Aq:(upd Ha ld (.lst us)) ld=some (.lst us):=uS;have E8:=hD.mono s1;generalize upd Ha ld (.lst us)=H1 at s1 Aq E8;have UH:=sa.trans s1;have hul:=E8.len;intro d hd;have s2:AA H1 (upd H1 d (.dT [])):=Ap hd;have hd2:(upd H1 d (.dT [])) d=some (.dT []):=uS;generalize upd H1 d (.dT [])=H2 at s2 hd2;refine⟨BF _,λlr hlr=>?_⟩;have dlr:d≠lr:=AH hd2 hlr;have s3:AA H2 (upd H2 lr (.lst [])):=Ap hlr;have CJ:(upd H2 lr (.lst [])) lr=some (.lst []):=uS;have ND:=s3 _ _ hd2;generalize upd H2 lr (.lst [])=H3 at s3 CJ ND;have Az:=UH.trans (s2.trans s3);have dH:H d=none:=UH.free hd;have lH:H lr=none:=(UH.trans s2).free hlr;refine⟨Z,p,k,O,Y,bd.mono Az,g,gd,λlp ps H4 hlp s4 Od hP=>?_⟩;have lpd:lp≠d:=Yr (AH ND hlp);have lpr:lp≠lr:=Yr (AH CJ hlp);have Um:=s4 _ _ ND;have YQ:=s4 _ _ CJ;have jh:Cz d lr H1 H4:=Cz.of (s2.trans (s3.trans s4));have ldd:ld≠d:=AH Aq hd;have ldr:ld≠lr:=AH (s2 _ _ Aq) hlr;have tupd:∀ {H':Hp} {kvs:List (List Key×V)} {vs:LV},H' d=some (.dT kvs)->H' lr=some (.lst vs)->∀ {b:Addr} {xs:LV},H' b=some (.tup xs)->b≠d/\b≠lr:=λ{H'} {kvs} {vs} e1 e2 {b} {xs} e=>⟨(λz=>by rw[z,e1]at e;cases e),(λz=>by rw[z,e2]at e;cases e)⟩;have same:∀ {H':Hp},Cz d lr H4 H'->AA H H':=λ{H'} kk b o e=>kk b o (AH e dH) (AH e lH) ((Az.trans s4) _ _ e);let BG:NW:=λi σ H'=>∃(kvs:List (List Key×V)) (vs:LV) (x4 x5 x6 x7:OV),σ=[some (.ref p),some (.ref ld),some (.ref d),some (.ref lr),x4,x5,x6,x7]/\Cz d lr H4 H'/\H' d=some (.dT kvs)/\H' lr=some (.lst vs)/\kvs.length<=vs.length/\Nd H' rows ds kvs/\LO H' rows ds (((Dz rows ds).take i).flatMap (CO rows ds)) vs/\∀ e∈((Dz rows ds).take i).flatMap (CO rows ds),Hl rows ds e=false;refine⟨lp,Y,⟨_,SqL.of Od⟩,B8 (Bk (xs:=ps)) BG
   ⟨[],[],none,none,none,none,Y,Cz.refl _,Um,YQ,Yf _,(λc v e=>nomatch e),by rw[FJ];exact .nil,by rw[FJ];exact(λe h=>nomatch h)⟩ (λi σ H' _ h0=>by obtain⟨_,_,_,_,_,_,_,kk,_⟩:=h0;exact SqL.of (kk _ _ lpd lpr Od)) ?_ ?_⟩
  ·rintro i v σ H' hi ⟨kvs,vs,x4,x5,x6,x7,rfl,kk,Ik,An,hkl,hKn,hRo,hNo⟩;obtain⟨pr,hpr,t,rfl,ht⟩:=C0 hP hi;have hpm:=SM.mp (Yc hpr);have DK:pr.2<ds.length:=hpm.2.1;have Eg:pr.1<ds.length:=by omega
   have tne:t≠d/\t≠lr:=tupd Um YQ ht;refine⟨t,Z,AL.of (kk _ _ tne.1 tne.2 ht),Y,_,Z,_,Z,Y,?_⟩;have Y_:=bd.mono (same kk);obtain⟨F4,xZ,JX,Ei,LK,_⟩:=Y_.ex;have kl:Cz d lr H1 H':=jh.trans kk;have CB:H' ld=some (.lst us):=kl _ _ ldd ldr Aq;have Y1:A0 H' ds us:=Paired.mapP E8 λ_ _ ⟨t,e,x⟩=>⟨t,e,kl _ _ (AH x hd) (AH (s2 _ _ x) hlr) x⟩;obtain⟨t1,a1,b1⟩:=IA Y1 (AA.refl _) Eg;obtain⟨t2,a2,b2⟩:=IA Y1 (AA.refl _) DK;refine⟨Z,p,F4,Z,Ei,Lx _ _ _,p,k,O,Y,Y_,Z,Z,ld,_,_,Z,Y,SqL.of CB,a1,Z,Z,ld,_,_,Z,Y,SqL.of CB,a2,k,t1,t2,rows,_,Z,LK,g,b1,b2,Pl gd Eg,Pl gd DK,by rw[GY gd Eg];exact uH g n4 hc,λlf zs H5 hlf s5 FV NF=>?_⟩;have Om:=s5 _ _ Ik;have Fz:=s5 _ _ An;have YJ:Cz d lr H4 H5:=kk.trans (Cz.of s5);have lfd:lf≠d:=Yr (AH Ik hlf);have lfr:lf≠lr:=Yr (AH An hlf);have Xf:=hKn.mono λb xs e=>s5 _ _ e;have Xd:=hRo.mono λb xs e=>s5 _ _ e;have zl:zs.length=(CO rows ds pr).length:=by unfold CO;rw[Ya];exact(NF.len).symm
   have hev:Hk rows ds=((Dz rows ds).take i).flatMap (CO rows ds)++(CO rows ds pr++((Dz rows ds).drop (i + 1)).flatMap (CO rows ds)):=by
    show(Dz rows ds).flatMap (CO rows ds)=_
    conv=>lhs;rw[ae hpr]
    rw[List.flatMap_append,List.flatMap_cons]
   have pre:(((Dz rows ds).take i).flatMap (CO rows ds)).length + (CO rows ds pr).length<=50000:=by
    have:=evl;rw[hev,Yt,Yt]at this;omega
   let Fq:NW:=λj σ H'=>∃(kvs:List (List Key×V)) (vs:LV) (x6 x7:OV),σ=[some (.ref p),some (.ref ld),some (.ref d),some (.ref lr),some (AF pr.1),some (AF pr.2),x6,x7]/\Cz d lr H5 H'/\H' d=some (.dT kvs)/\H' lr=some (.lst vs)/\kvs.length<=vs.length/\Nd H' rows ds kvs/\LO H' rows ds (((Dz rows ds).take i).flatMap (CO rows ds)++(CO rows ds pr).take j) vs/\∀ e∈((Dz rows ds).take i).flatMap (CO rows ds)++(CO rows ds pr).take j,Hl rows ds e=false;refine⟨lf,Y,⟨_,SqL.of FV⟩,B8 (Bk (xs:=zs)) Fq
    ⟨kvs,vs,x6,x7,Y,Cz.refl _,Om,Fz,hkl,Xf,by rw[FJ,Gg];exact Xd,by rw[FJ,Gg];exact hNo⟩ (λj σ H' _ h0=>by obtain⟨_,_,_,_,_,kq,_⟩:=h0;exact SqL.of (kq _ _ lfd lfr FV)) ?_ ?_⟩
   ·rintro j v σ H6 hj ⟨kvs,vs,x6,x7,rfl,k6,Ij,Fv,Qs,HW,HU,HV⟩;obtain⟨c,hcc,tc,rfl,htc⟩:=C0 NF hj;have tcne:tc≠d/\tc≠lr:=tupd Om Fz htc;have Mi:H6 tc=some (.tup (c.map V.str)):=k6 _ _ tcne.1 tcne.2 htc;have ej:(CO rows ds pr)[j]?=some (pr.1,pr.2,c):=by
     unfold CO;rw[Yi,hcc];rfl
    obtain⟨gc,f1,f2⟩:=ZH gd Eg DK (Yc ej);have gc:BX rows n c:=gc;have nne:Ax rows ds c≠[]:=bS g gd f1;have YK:Cz d lr H4 H6:=YJ.trans k6;have iu:=Bl HU;have vle:vs.length<50000:=by
     rw[<- iu,Yt,Yx];have:=(Ye.mp ej).1;omega
    let Cg:SW:=λσ' H'=>∃ BY t,σ'=[some (.ref p),some (.ref ld),some (.ref d),some (.ref lr),some (AF pr.1),some (AF pr.2),some (.ref tc),x7]/\Cz d lr H6 H'/\H' d=some (.dT BY)/\H' lr=some (.lst vs)/\BY.length<=vs.length + 1/\Nd H' rows ds BY/\A2 BY (Cv c)=some (.ref t)/\H' t=some (.tup (Eo (Ax rows ds c)));refine⟨Cg,?_,?_⟩
    ·have Og:H6 tc=some (.tup ((Cv c).map kV)):=by rw[Vb];exact Mi
     refine⟨Z,Z,d,Z,BM.t (k:=Cv c) Ij Og,Z,?_⟩;cases hv:A2 kvs (Cv c)with
     | some v =>
      refine Ao ?_;obtain⟨t',rfl,IY⟩:=HW c v hv;exact⟨kvs,t',Y,Cz.refl _,Ij,Fv,W,HW,hv,IY⟩
     | none =>
      refine By ?_;refine⟨Z,Z,p,k,tc,O,c,Y,bd.mono (same YK),g,gd,n4,Mi,gc,λt' H7 IY s7 h7=>?_⟩;have Ol:=s7 _ _ Ij;have NC:=s7 _ _ Og;refine⟨Z,Z,d,Z,EK.t (k:=Cv c) Ol NC (CZ (by omega)),?_⟩;have kp:∀ b xs,H7 b=some (.tup xs)->(upd H7 d (.dT (BU kvs (Cv c) (.ref t')))) b=some (.tup xs):=λb xs e=>by rw[AD (λz=>by rw[z,Ol]at e;cases e)];exact e
      refine⟨_,t',Y,λb o h1 h2 e=>by rw[AD h1];exact s7 _ _ e,uS,by rw[AD (Yr dlr)];exact s7 _ _ Fv,A7 (Sx _ _ _) (by omega),λc' v' e'=>?_,by rw[av,if_pos rfl],kp _ _ h7⟩;rw[av]at e';split at e'
      ·rename_i hke
       injection e' with e';rw[aK hke,<- e'];exact⟨t',Y,kp _ _ h7⟩
      ·obtain⟨i8,Jy,ka⟩:=HW c' v' e';exact⟨i8,Jy,kp _ _ (s7 _ _ ka)⟩
    rintro σ' H7 ⟨XB,t7,rfl,k7,Ol,Qi,XZ,Xe,jv,IX⟩;have Mh:H7 tc=some (.tup (c.map V.str)):=k7 _ _ tcne.1 tcne.2 Mi;have NC:H7 tc=some (.tup ((Cv c).map kV)):=by rw[Vb];exact Mh
    refine⟨Z,Z,d,Z,by rw[<- jv];exact BM.t (k:=Cv c) Ol NC,?_⟩;have Gs:AA H H7:=same (YK.trans k7)
    match hn:Ax rows ds c,nne with
    | [],z=>exact absurd rfl z
    | [x],_ =>
     rw[hn]at IX;have IX:H7 t7=some (.tup [.str "deed",AF x]):=IX;have ce:Hl rows ds (pr.1,pr.2,c)=false:=by
      show decide (1<(Ax rows ds c).length)=false;rw[hn];rfl
     refine⟨Z,t7,_,_,Z,Y,AL.of IX,Y,Y,Z,?_⟩;refine Ao ?_;refine⟨Z,.inl ⟨Y,_,SqL.of Qi⟩,Z,Z,Z,Z,t7,_,_,Z,Y,AL.of IX,Y,sL (by show 4<=100000;decide),λt8 Ug=>?_⟩;have s8:AA H7 (upd H7 t8 (.tup [AF pr.1,AF pr.2,.ref tc,AF x])):=Ap Ug;have h8:(upd H7 t8 (.tup [AF pr.1,AF pr.2,.ref tc,AF x])) t8=some (.tup [AF pr.1,AF pr.2,.ref tc,AF x]):=uS;generalize upd H7 t8 (.tup [AF pr.1,AF pr.2,.ref tc,AF x])=H8 at s8 h8;have LD:=s8 _ _ Qi;refine⟨lr,_,Z,Y,LD,CZ (by omega),?_⟩;have kp:∀ b xs,H8 b=some (.tup xs)->(upd H8 lr (.lst (vs++[.ref t8]))) b=some (.tup xs):=λb xs e=>by rw[AD (λz=>by rw[z,LD]at e;cases e)];exact e
     have jg:∀ b xs,H6 b=some (.tup xs)->H8 b=some (.tup xs):=λb xs e=>s8 _ _ (k7 _ _ (tupd Ij Fv e).1 (tupd Ij Fv e).2 e);refine⟨XB,vs++[.ref t8],_,Z,λb o h1 h2 e=>by rw[AD h2];exact s8 _ _ (k7 _ _ h1 h2 (k6 _ _ h1 h2 e)),by rw[AD dlr];exact s8 _ _ Ol,uS,by rw[Yt];exact XZ,(Xe.mono λb xs e=>s8 _ _ e).mono kp,?_,?_⟩
     ·rw[B9,ej,<- JN];refine Fn ((HU.mono jg).mono kp) ⟨t8,tc,Y,?_,kp _ _ (s8 _ _ Mh)⟩;show _=some (HO.tup [AF pr.1,AF pr.2,.ref tc,AF ((Ax rows ds c).getD 0 0)]);rw[hn];exact kp _ _ h8
     ·rw[B9,ej,<- JN];intro e he
      rcases Yv.mp he with z | z
      ·exact HV e z
      ·rw[Yj.mp z];exact ce
    | x :: y :: r,_ =>
     rw[hn,mM]at IX;have ce:Hl rows ds (pr.1,pr.2,c)=true:=by
      show decide (1<(Ax rows ds c).length)=true;rw[hn];exact Jb (by simp)
     refine⟨Z,t7,_,_,Z,Y,AL.of IX,Y,Y,Z,?_⟩;refine By ?_;refine⟨Z,Z,t7,_,_,Z,Y,AL.of IX,Y,Z,t7,_,_,Z,Y,AL.of IX,Y,sL (by show 4<=100000;decide),λt8 Ug=>?_⟩;have s8:AA H7 (upd H7 t8 (.tup [.str "clash",.ref tc,AF x,AF y])):=Ap Ug;refine q t8 _ (Gs.trans s8) ?_;have hf:(Hk rows ds).find? (Hl rows ds)=some (pr.1,pr.2,c):=by
      have:Hk rows ds=(((Dz rows ds).take i).flatMap (CO rows ds)++(CO rows ds pr).take j)++(pr.1,pr.2,c):: ((CO rows ds pr).drop (j + 1)++((Dz rows ds).drop (i + 1)).flatMap (CO rows ds)):=by
       rw[hev]
       conv=>lhs;rw[ae ej]
       simp
      rw[this];exact uG HV ce
     unfold Tb;rw[hf];refine⟨tc,?_,s8 _ _ Mh⟩;show _=some (HO.tup [.str "clash",.ref tc,AF ((Ax rows ds c).getD 0 0),AF ((Ax rows ds c).getD 1 0)]);rw[hn];exact uS
   ·rintro σ H6 ⟨kvs,vs,x6,x7,rfl,k6,Ij,Fv,Qs,HW,HU,HV⟩;rw[zl,De,<- ZI hpr]at HU HV;exact⟨kvs,vs,_,_,_,Z,YJ.trans k6,Ij,Fv,Qs,HW,HU,HV⟩
  ·rintro σ H' ⟨kvs,vs,x4,x5,x6,x7,rfl,kk,Ik,An,hkl,hKn,hRo,hNo⟩;have pl:ps.length=(Dz rows ds).length:=(Bl hP).symm;rw[pl,De]at hRo hNo;have hRo:LO H' rows ds (Hk rows ds) vs:=hRo;have hNo:∀ e∈Hk rows ds,Hl rows ds e=false:=hNo;refine⟨Z,U,λt ht=>?_⟩;have s8:AA H' (upd H' t (.tup [.str "even",.ref lr])):=Ap ht;refine q t _ ((same kk).trans s8) ?_;unfold Tb;rw[List.find?_eq_none.mpr (λe he=>by rw[hNo e he];decide)];exact⟨lr,vs,lH,uS,s8 _ _ An,hRo.mono λb xs e=>s8 _ _ e⟩
def Sa{rows:RS}{ds:List (LS)}{c:LS}{k:Nat}:k∈Ax rows ds c↔k∈AO rows ds c/\∀ j∈AO rows ds c,wB rows ds j k=true->j=k:=by
 unfold Ax Bn;rw[Yu];constructor
 ·rintro⟨h1,h2⟩;refine⟨h1,λj hj hw=>?_⟩;have h3:((AO rows ds c).any λj=>!decide (j=k)&&wB rows ds j k)=false:=by simpa using h2
  have h4:=JO.mp h3 j hj;by_cases e:j=k
  ·exact e
  ·rw[Jc e,hw]at h4;exact absurd rfl h4
 ·rintro⟨h1,h2⟩;refine⟨h1,?_⟩;have:((AO rows ds c).any λj=>!decide (j=k)&&wB rows ds j k)=false:=JO.mpr λj hj=>by
   by_cases e:j=k
   ·rw[Jb e];exact Ym
   ·rw[Jc e];intro z;have z:wB rows ds j k=true:=z;exact e (h2 j hj z)
  rw[this];rfl
def vE{l:LN}{i j:Nat}(hi:i∈l)(hj:j∈l)(ne:i≠j):1<l.length:=by
 cases l with
 | nil=>cases hi
 | cons a r=>cases r with
  | nil=>rw[Yj.mp hi,Yj.mp hj]at ne;exact absurd rfl ne
  | cons b r=>rw[Bv,Bv];omega
def nI{rows:RS}{ds:List (LS)}{c:LS}(h:1<(Ax rows ds c).length):∃ i j,i<j/\i∈Ax rows ds c/\j∈Ax rows ds c:=by
 have hs:(Ax rows ds c).Pairwise (·<·):=by
  unfold Ax Bn AO;exact(List.Pairwise.filter _ List.pairwise_lt_range).filter _
 match hn:Ax rows ds c with
 | []=>rw[hn]at h;exact absurd h (by decide)
 | [x]=>rw[hn]at h;exact absurd h (by simp)
 | x :: y :: r =>
  rw[hn]at hs;exact⟨x,y,(C_.mp hs).1 y (by simp),G,G⟩
theorem bP{rows:RS}(g:AR rows):∀ {xs ys c:LS},xs.length=c.length->ys.length=c.length->(∀ z∈c,z∈rows.map (·.1))->A_ rows c xs=true->A_ rows c ys=true->∃ h∈Co (G8 rows xs ys),A_ rows c h=true
 | [],[],[],_,_,_,_,_=>⟨[],SY.mpr .nil,Y⟩
 | [],_,_ :: _,h,_,_,_,_=>by cases h
 | _,[],_ :: _,_,h,_,_,_=>by cases h
 | _ :: _,_,[],h,_,_,_,_=>by cases h
 | [],_ :: _,[],_,h,_,_,_=>by cases h
 | x :: xs,y :: ys,z :: c,h1,h2,hk,w1,w2=>by
  have e1:(AY rows z x&&A_ rows c xs)=true:=w1;have e2:(AY rows z y&&A_ rows c ys)=true:=w2;rw[Du]at e1 e2;obtain⟨h,hh,hw⟩:=bP g (KW h1) (KW h2) (λv hv=>hk v (by simp[hv])) e1.2 e2.2;obtain⟨t,ht,hr⟩:=vS g (Ng.mpr ⟨hk z (by simp),Pt.mp e1.1,Pt.mp e2.1⟩);refine⟨t :: h,SY.mpr ?_,?_⟩
  ·unfold G8;rw[List.zip_cons_cons,Yo];exact .cons ht (SY.mp hh)
  ·show(AY rows z t&&A_ rows c h)=true;rw[Pt.mpr hr,hw];rfl
def vR{rows:RS}{n:Nat}{ds:List (LS)}(g:AR rows)(gd:BE rows n ds){c:LS}(gc:BX rows n c)(h:1<(Ax rows ds c).length):∃ e∈Hk rows ds,Hl rows ds e=true:=by
 obtain⟨i,j,hij,hi,hj⟩:=nI h;obtain⟨fi,mi⟩:=Sa.mp hi;obtain⟨fj,mj⟩:=Sa.mp hj;obtain⟨li,wi⟩:=KC.mp fi;obtain⟨lj,wj⟩:=KC.mp fj;have di:=GY gd li;have dj:=GY gd lj;have hstr:QH rows ds i j=true:=by
  have a:wB rows ds i j=false:=by
   cases hw:wB rows ds i j with
   | false=>rfl
   | true=>exact absurd (mj i fi hw) (by omega)
  have b:wB rows ds j i=false:=by
   cases hw:wB rows ds j i with
   | false=>rfl
   | true=>exact absurd (mi j fj hw) (by omega)
  show(!wB rows ds i j&&!wB rows ds j i)=true;rw[a,b];rfl
 obtain⟨t,ht,hct⟩:=bP g (di.trans gc.len.symm) (dj.trans gc.len.symm) gc.known wi wj;obtain⟨gt,wti,wtj⟩:=cf di dj ht;have up:∀ k,k∈AO rows ds t->k∈AO rows ds c:=λk hk=>by
  obtain⟨lk,wk⟩:=KC.mp hk;exact KC.mpr ⟨lk,dW gc.len gt.len (GY gd lk) hct wk⟩
 have ni:i∈Ax rows ds t:=Sa.mpr ⟨KC.mpr ⟨li,wti⟩,λk hk hw=>mi k (up k hk) hw⟩;have nj:j∈Ax rows ds t:=Sa.mpr ⟨KC.mpr ⟨lj,wtj⟩,λk hk hw=>mj k (up k hk) hw⟩;refine⟨(i,j,t),List.mem_flatMap.mpr ⟨(i,j),SM.mpr ⟨hij,lj,hstr⟩,Yg.mpr ⟨t,ht,Y⟩⟩,?_⟩;exact Jb (vE ni nj (by omega))
def A6{H:Hp}{l:Addr}{o:HO}(hl:H l=none):AA H (upd H l o):=λb o' e=>by rw[AD (AH e hl)];exact e
def Dr{rows:RS}{x y:Str}:AY rows x y=true↔Graph.Reach (Ag rows) x y:=by
 unfold AY;exact @decide_eq_true_iff _ (Classical.propDecidable _)
def EO(rows:RS)(x:Str)(ls:LS):Prop:=ls.Perm (Au rows x)/\∀(k:Nat) (a b:Str),ls[k]?=some a->b∈ls.take k->¬ Graph.Reach (Ag rows) a b
def JD{rows:RS}{x y:Str}(h:y∈Au rows x):y∈rows.map (·.1):=by
 unfold Au at h;exact(Yu.mp h).1
def SX{rows:RS}(g:AR rows)(x:Str):(Au rows x).Nodup:=by
 unfold Au;exact g.nd.sublist List.filter_sublist
def Nj{rows:RS}(g:AR rows)(x:Str):(Au rows x).length<=24:=by
 have:=EE (λy=>AY rows x y) (rows.map (·.1));rw[Ya]at this;have:=g.le;unfold Au;omega
def PV{l:LS}(h:∀ z∈l,PyData.strOk z=true):W.kqdOk 9 (.list (l.map W.Dat.str))=true:=by
 show(l.map W.Dat.str).all (W.kqdOk 8)=true;rw[Cr];intro d hd;obtain⟨x,hx,rfl⟩:=Yg.mp hd;exact h x hx
def ao{a b:LS}(h:a.map W.Dat.str=b.map W.Dat.str):a=b:=by
 induction a generalizing b with
 | nil =>
  cases b with
  | nil=>rfl
  | cons y b=>cases h
 | cons x a ih =>
  cases b with
  | nil=>cases h
  | cons y b =>
   rw[Yo,Yo]at h;injection h with h1 h2;injection h1 with h1;rw[h1,ih h2]
def aE(xs:LV)(k:Nat):KS xs none (some (k:Int))=xs.take k:=by
 unfold KS;rw[HT.sIx_none,HT.sIx_nat,List.drop_zero,Nat.sub_zero]
 rcases Nat.le_total k xs.length with h | h
 ·rw[QJ h]
 ·rw[Nat.min_eq_right h,Kc (Yf _),Kc h]
def mL{ys:LS}{i:Nat}{y:Str}(nd:ys.Nodup)(hi:ys[i]?=some y):y∉ys.take i:=λh=>by
 obtain⟨j,hj,e⟩:=Kk.mp h;rw[Yx]at hj;rw[OG]at e;obtain⟨CK,ei⟩:=Ye.mp hi;have:=(Fo.mp nd);have:=MM.mp this j i (by omega) CK (by omega);exact this (e.trans ei.symm)
def L_(rows:RS)(a b:Str):Bool:=AY rows a b&&!decide (a=b)
def GJ(rows:RS)(ls:LS)(k:Nat):Bool:=((ls.take k).map λb=>L_ rows (ls.getD k "") b).any id
def dg(rows:RS)(a:Str):V->V
 | .str b=>.bl (L_ rows a b)
 | _=>.non
def Uz(rows:RS)(ls:LS):V->V
 | .int k=>.bl (GJ rows ls k.toNat)
 | _=>.non
theorem ZR(rows:RS)(a:Str):∀ l:LS,((l.map V.str).filter λ_=>true).map (dg rows a)=(l.map λb=>L_ rows a b).map V.bl
 | []=>rfl
 | u :: r=>by
  have:=ZR rows a r;rw[Et.mpr (λ_ _=>rfl)]at this ⊢;rw[Yo,Yo,this];rfl
def mT(rows:RS)(ls:LS)(n:Nat):((CW 0 n).filter λ_=>true).map (Uz rows ls)=((List.range n).map (GJ rows ls)).map V.bl:=by
 rw[Et.mpr (λ_ _=>rfl),V7,Bo,Bo];refine Ki λk _=>?_;show V.bl (GJ rows ls ((k:Nat):Int).toNat)=_;rw[Yq];rfl
def pM{rows:RS}(g:AR rows){x:Str}{ls:LS}(p:ls.Perm (Au rows x)):(!((List.range ls.length).map (GJ rows ls)).any id)=true↔EO rows x ls:=by
 have nd:ls.Nodup:=p.nodup_iff.mpr (SX g x);rw[KY,JO];constructor
 ·refine λh=>⟨p,λk a b hk hb re=>?_⟩;have AZ:=(Ye.mp hk).1;refine h _ (Yg.mpr ⟨k,Bp.mpr AZ,Y⟩) ?_;show GJ rows ls k=true;unfold GJ;rw[FK];refine⟨true,Yg.mpr ⟨b,hb,?_⟩,Y⟩;rw[Yh,hk];show L_ rows a b=true;unfold L_;rw[Dr.mpr re,Jc (λe:a=b=>mL nd hk (by rw[e];exact hb))];rfl
 ·rintro⟨_,h⟩ b hb e;obtain⟨k,hk,rfl⟩:=Yg.mp hb;have AZ:=Bp.mp hk;have e:GJ rows ls k=true:=e;unfold GJ at e;rw[FK]at e;obtain⟨c,hc,e⟩:=e;obtain⟨y,hy,rfl⟩:=Yg.mp hc;have Cd:ls[k]?=some ls[k]:=Yb AZ;rw[Yh,Cd]at e;have e:L_ rows ls[k] y=true:=e;unfold L_ at e;rw[Du]at e;exact h k _ y Cd hy (Dr.mp e.1)
def gY(C:Addr):Sp:=λvs H Q _=>∃(p l:Addr) (rows:RS) (ls:LS) (k:Nat),vs=[.ref p,.ref l,.int k]/\BA C H p rows/\AR rows/\H l=some (.lst (ls.map V.str))/\(∀ z∈ls,z∈rows.map (·.1))/\k<ls.length/\ls.length<64/\∀ H',AA H H'->Q (.bl (GJ rows ls k)) H'
def aX(C:Addr):Sp:=λvs H Q _=>∃(p l:Addr) (rows:RS) (x:Str) (ls:LS),vs=[.ref p,.str x,.ref l]/\BA C H p rows/\AR rows/\x∈rows.map (·.1)/\H l=some (.lst (ls.map V.str))/\(∀ z∈ls,PyData.strOk z=true)/\ls.length<64/\∀ v H',AA H H'->(v=true↔EO rows x ls)->Q (.bl v) H'
abbrev K9:LS:=["kinds","line","spot"]
abbrev K7:LS:=["kinds","word","line"]
def v8:Ab K9 K9 (AK P_):=by nofun
def wD:Ab K7 K7 (AK Pg):=by nofun
def u7:(["ahead","kinds","line","spot"]:LS).Nodup:=by rfl'
def sP:(["spot","kinds","line"]:LS).Nodup:=by rfl'
def sZ(F:Def K mg "beneath_one_ahead" P_ K9 f fd)(any:mg "any"=none)(TC:CT K C)(MB:El K C "beneath" "Kinds.beneath" P4 ["self","one","other"] fB fdB)(GB:⋯ 4 fB fdB ["self","one","other"] (Vx C)):⋯ 5 f fd K9 (gY C):=by
 nomatch F.fn.ok v8
 ·obtain⟨p,l,rows,ls,k,rfl,_⟩:=h;rfl
 ·obtain⟨p,l,rows,ls,k,rfl,kd,g,hl,kn,hk,Dj,q⟩:=h
  ac_nf
  refine'⟨_,AG (AS (Af (r:=G_ K λbs=>bs.any id) (Np rfl) (by rfl) any OO (pC ?e1 AB))),?_⟩
  case e1=>exact(BC ["ahead"] ["kinds","line","spot"] [0,1,2] (λ_=>A4 (osc:=AK P_) (on:=K9) (by rfl') rfl rfl rfl) (Be (PX (r:=WV K) VP (pv 1) PR (PU (pv 2)))) (λC s H fp=>Ay (i:=0) u7 rfl (Or.inl rfl) (Or.inr rfl)) (λC s H fp=>B6)
    (λC s H fp=>Dc (pv 1) TC.cl MB.me GB hr MB.b .nil A3 (pC (AV (r:=BV K) Ar (pv 2) (pv 3) (λ_ _=>rfl)) (pC (pv 0) AB))))
  have hy:ls[k]?=some ls[k]:=Yb hk;have eg:ls.getD k ""=ls[k]:=by rw[Yh,hy];rfl
  generalize ls[k]=y at hy eg;refine⟨Z,Z,Z,l,Z,SqL.of hl,λl1 Aq=>?_⟩;dsimp only[VY]at *;rw[show KS (ls.map V.str) none (some (k:Int))=(ls.take k).map V.str from by rw[aE,List.map_take]];have s1:AA H (upd H l1 (.lst ((ls.take k).map V.str))):=A6 Aq;have Bc:(upd H l1 (.lst ((ls.take k).map V.str))) l1=some (.lst ((ls.take k).map V.str)):=uS;generalize upd H l1 (.lst ((ls.take k).map V.str))=H1 at s1 Bc;refine⟨l1,Y,⟨_,SqL.of Bc⟩,EY (Bk (xs:=(ls.take k).map V.str)) (sL (by rw[Ya,Yx];omega)) (λ_=>true) (dg rows y) (λH' s'=>s'.seq (SqL.of Bc)) ?_ ?_ ?_⟩
  ·intro v H' R s' _ Ae;exact Ae H' (AA.refl _)
  ·intro v H' R s' hv _ Ae;obtain⟨z,hz,rfl⟩:=Yg.mp hv;have EI:=s1.trans s';have M8:=kd.mono EI;obtain⟨dx,d,a,o,oa,kvs,AJ,h1,_⟩:=M8.ex;refine⟨Z,p,dx,Z,h1,cM _ _,Z,Z,l,_,_,Z,Y,SqL.of (EI _ _ hl),EB (by rw[Yi,hy];rfl),Z,p,rows,y,z,Y,M8,g,kn y (Yc hy),kn z (MO hz),?_⟩;exact Ae H' (AA.refl _)
  ·intro D3 H2 Io s2 Bm;rw[ZR]at Bm;refine⟨D3,Z,SqL.of Bm,?_⟩;have:=q H2 (s1.trans s2);unfold GJ at this;rw[eg]at this;exact this
def pG(F:Def K mg "is_line" Pg K7 f fd)(srt:mg "sorted"=none)(any:mg "any"=none)(range:mg "range"=none)(len:mg "len"=none)(TC:CT K C)(MA:El K C "above" "Kinds.above" OA ["self","word"] fA fdA)(GA:⋯ 3 fA fdA ["self","word"] (Vw C))
  (DO:Def K mg "beneath_one_ahead" P_ K9 fO fdO) (GO:⋯ 5 fO fdO K9 (gY C)):⋯ 6 f fd K7 (aX C):=by
 nomatch F.fn.ok wD
 ·obtain⟨p,l,rows,x,ls,rfl,_⟩:=h;rfl
 ·obtain⟨p,l,rows,x,ls,rfl,kd,g,hx,hl,lok,Dj,q⟩:=h;have hu:=hr.units;have CJ:AU 3 _:=hr.mono (by decide);obtain⟨dx,d,a,o,oa,kvs,AJ,h1,_⟩:=kd.ex
  ac_nf
  refine'⟨_,(pS (Aj (Am (HH hu) (Af Sn (by rfl) srt OH (pC (pv 2) AB)) (Af Sn (by rfl) srt OH (pC (Dc (pv 0) TC.cl MA.me GA CJ MA.b .nil A3 (pC (pv 1) AB)) AB)) (Ak _)) (AG (AS CU)) Al)
   (AG (AS (R8 (Af (r:=G_ K λbs=>bs.any id) (Np rfl) (by rfl) any OO (pC ?e1 AB)))))),?_⟩
  case e1=>exact(BC ["spot"] ["kinds","line"] [0,2] (λ_=>A4 (osc:=AK Pg) (on:=K7) (by rfl') rfl rfl rfl) (FF (by rfl) range (pC (Af CC (by rfl) len Yz (pC (pv 2) AB)) AB)) (λC s H fp=>Ay (i:=0) sP rfl (Or.inl rfl) (Or.inr rfl)) (λC s H fp=>B6) (λC s H fp=>AN DO GO hr (pC (pv 1) (pC (pv 2) (pC (pv 0) AB)))))
  exists AE _ a _ _ _
  refine⟨Z,l,ls,Y,SqL.of hl,Dj,λs1 l1 p1 o1 Aq=>?_⟩;have IQ:AA H (upd H l1 (.lst (s1.map V.str))):=A6 Aq;have Bc:(upd H l1 (.lst (s1.map V.str))) l1=some (.lst (s1.map V.str)):=uS;generalize upd H l1 (.lst (s1.map V.str))=H1 at IQ Bc;have hle:=Nj g x;refine⟨Z,p,dx,Z,IQ _ _ h1,Vd _ _,Z,p,rows,x,Y,kd.mono IQ,g,hx,λl2 BK=>⟨l2,Z,SqL.of uS,W,λs2 l3 p3 o3 Bm=>?_⟩⟩;have Xq:AA H1 (upd H1 l2 (.lst ((Au rows x).map V.str))):=A6 BK;generalize upd H1 l2 (.lst ((Au rows x).map V.str))=H2 at Xq Bm;have My:AA H2 (upd H2 l3 (.lst (s2.map V.str))):=A6 Bm;have Dk:(upd H2 l3 (.lst (s2.map V.str))) l3=some (.lst (s2.map V.str)):=uS;generalize upd H2 l3 (.lst (s2.map V.str))=H3 at My Dk;have Qc:=Xq.trans My;have Az:=IQ.trans Qc;have UN:∀ z∈s1,PyData.strOk z=true:=λz hz=>lok z (p1.mem_iff.mp hz);have UM:∀ z∈s2,PyData.strOk z=true:=λz hz=>by
   obtain⟨r,An,e⟩:=Yg.mp (JD (p3.mem_iff.mp hz));rw[<- e];exact PN (g.word r An)
  refine⟨.list (s1.map W.Dat.str),.list (s2.map W.Dat.str),.list (SqL.of (Qc _ _ Bc)) (Ga _),.list (SqL.of Dk) (Ga _),PV UN,PV UM,Z,?_⟩;by_cases hp:ls.Perm (Au rows x)
  ·have Ek:s1=s2:=dC o1 o3 (p1.trans (hp.trans p3.symm));rw[Ek,EZ];have kn:∀ z∈ls,z∈rows.map (·.1):=λz hz=>JD (hp.mem_iff.mp hz);refine Ao ⟨Z,l,Z,.inl (SqL.of (Az _ _ hl)),Z,W,Q,EY Es (by rw[Ca,Ya];exact sL (by omega)) (λ_=>true) (Uz rows ls) (λ_ _=>trivial) ?_ ?_ ?_⟩
   ·intro v H' R s' _ Ae;exact Ae H' (AA.refl _)
   ·intro v H' R s' hv _ Ae;obtain⟨i,hi⟩:=Gj hv;obtain⟨Ct,rfl⟩:=Ds hi;rw[Ya]at Ct;have EI:=Az.trans s';refine⟨Z,Z,Z,p,l,rows,ls,i,by rw[FL];rfl,kd.mono EI,g,EI _ _ hl,kn,W,Dj,λBH BR=>?_⟩;have:=Ae BH BR;have e:Uz rows ls (V.int (0 + (i:Int)))=.bl (GJ rows ls i):=by
     rw[FL];show V.bl (GJ rows ls ((i:Nat):Int).toNat)=_;rw[Yq]
    rw[e]at this;exact this
   ·intro D3 H4 Io s4 Di;rw[Ya,Yq,mT]at Di;refine⟨D3,Z,SqL.of Di,Z,?_⟩;exact q _ H4 (Az.trans s4) (pM g hp)
  ·have Ek:s1≠s2:=λe=>hp ((p1.symm.trans (e ▸ IG _)).trans p3);rw[show(!CL (.list (s1.map W.Dat.str)) (.list (s2.map W.Dat.str)))=true from by
    rw[GV (λz=>by injection z with z;exact Ek (ao z))];rfl]
   exact By (q false H3 Az ⟨(λz=>by cases z),λz=>absurd z.1 hp⟩)
def V_{p:Addr}{H H':Hp}{o:HO}{all rows:RS}{AJ:KL}(h:Bu H all rows AJ)(hp:H p=some o)(ho:DM o)(d:Drawn p H H'):Bu H' all rows AJ :=
 Paired.mapP h λ_ _ z=>⟨z.1,let⟨t,fs,e,x,y⟩:=z.2;⟨t,fs,e,d.keep _ _ (Yr (O7 hp ho x)) x,y⟩⟩
def ZM{rows:RS}(g:AR rows){x:Str}(hx:x∈rows.map (·.1)){fs:LS}(hf:∀ y,y∈fs↔Graph.Reach (Ag rows) x y)(nd:fs.Nodup):fs.Perm (Au rows x):=by
 refine(List.perm_ext_iff_of_nodup nd (SX g x)).mpr λy=>?_;rw[hf];unfold Au;rw[Yu];exact⟨λr=>⟨Sf g hx r,Dr.mpr r⟩,λh=>Dr.mp h.2⟩
def YT(rows:RS)(a:Str):V->V
 | .str b=>.bl (AY rows a b)
 | _=>.non
theorem g6(rows:RS)(a:Str):∀ l:LS,((l.map V.str).filter λ_=>true).map (YT rows a)=(l.map λb=>AY rows a b).map V.bl
 | []=>rfl
 | u :: r=>by
  have:=g6 rows a r;rw[Et.mpr (λ_ _=>rfl)]at this ⊢;rw[Yo,Yo,this];rfl
def iF:Sp:=λvs H Q _=>∃(p a:Addr) (rows:RS) (AJ:KL) (x:Str),vs=[.ref p,.ref a,.str x]/\(∃ o,H p=some o/\DM o)/\AR rows/\H a=some (.dK AJ)/\Bu H rows rows AJ/\x∈rows.map (·.1)/\∀ l (ls:LS) H',Drawn p H H'->H l=none->H' l=some (.lst (ls.map V.str))->(∀ z∈ls,z∈rows.map (·.1))->1<=ls.length->ls.length<=24->EO rows x ls->Q (.ref l) H'
def F6(rows:RS)(left:LS)(x:Str):Bool:=!((left.map λy=>!decide (y=x)&&AY rows y x).any id)
def dw(rows:RS)(left:LS):V->Bool
 | .str x=>F6 rows left x
 | _=>false
def UA(rows:RS)(x:Str):V->V
 | .str y=>.bl (!decide (y=x)&&AY rows y x)
 | _=>.non
theorem iO(rows:RS)(x:Str):∀ l:LS,((l.map V.str).filter λ_=>true).map (UA rows x)=(l.map λy=>!decide (y=x)&&AY rows y x).map V.bl
 | []=>rfl
 | u :: r=>by
  have:=iO rows x r;rw[Et.mpr (λ_ _=>rfl)]at this ⊢;rw[Yo,Yo,this];rfl
theorem ZW(rows:RS)(left:LS):∀ l:LS,(l.map V.str).filter (dw rows left)=(l.filter (F6 rows left)).map V.str
 | []=>rfl
 | z :: r=>by
  rw[Yo,ED,ED,ZW rows left r];show(if F6 rows left z=true then _ else _)=_;split <;> rfl
def V8{rows:RS}{rk:Str->Nat}(hrk:∀ r∈rows,∀ u∈r.2,rk u<rk r.1)(nd:(rows.map (·.1)).Nodup)(kn:∀ r∈rows,∀ u∈r.2,u∈rows.map (·.1)){x y:Str}(hx:x∈rows.map (·.1))(r:Graph.Reach (Ag rows) x y):x=y\/rk y<rk x:=by
 induction r with
 | refl=>exact .inl rfl
 | step h t ih =>
  rename_i a b c
  obtain⟨q,hq,e⟩:=Er hx;have hu:b∈q.2:=by rw[<- e,Nn nd hq]at h;exact h
  have lt:rk b<rk a:=by rw[<- e];exact hrk q hq b hu
  rcases ih (kn q hq b hu)with z | z
  ·rw[<- z];exact .inr lt
  ·exact .inr (by omega)
theorem hG{α:Type}(f:α->Nat):∀ l:List α,l≠[]->∃ x∈l,∀ y∈l,f y<=f x
 | [],h=>absurd rfl h
 | [a],_=>⟨a,G,λy hy=>by rw[Yj.mp hy];exact Yf _⟩
 | a :: b :: r,_=>by
  obtain⟨x,hx,hm⟩:=hG f (b :: r) (by simp);by_cases h:f a<=f x
  ·refine⟨x,FH _ hx,λy hy=>?_⟩
   rcases Yw.mp hy with e | e
   ·rw[e];exact h
   ·exact hm y e
  ·refine⟨a,G,λy hy=>?_⟩
   rcases Yw.mp hy with e | e
   ·rw[e];exact Yf _
   ·have:=hm y e;omega
def sy{rows:RS}(g:AR rows){left:LS}(hl:∀ z∈left,z∈rows.map (·.1))(ne:left≠[]):left.filter (F6 rows left)≠[]:=by
 obtain⟨rk,hrk⟩:=g.rank;obtain⟨x,hx,hm⟩:=hG rk left ne;intro z;have:x∈left.filter (F6 rows left):=by
  refine Yu.mpr ⟨hx,?_⟩;unfold F6;rw[KY,JO];intro b hb e;obtain⟨y,hy,rfl⟩:=Yg.mp hb;have e:(!decide (y=x)&&AY rows y x)=true:=e;rw[Du]at e;have ne:y≠x:=by simpa using e.1
  rcases V8 hrk g.nd g.known (hl y hy) (Dr.mp e.2)with z | z
  ·exact ne z
  ·have:=hm y hy;omega
 rw[z]at this;cases this
structure Hn(rows:RS)(fs line left:LS):Prop where
 perm:(line++left).Perm fs
 ok:∀(k:Nat) (a b:Str),line[k]?=some a->b∈line.take k->¬ Graph.Reach (Ag rows) a b
 ahead:∀ b∈line,∀ z∈left,¬ Graph.Reach (Ag rows) z b
def Hn.start{rows:RS}{fs:LS}:Hn rows fs [] fs:=⟨IG _,λk a b h=>(by cases k <;> cases h),λb h=>nomatch h⟩
def Hn.fin{rows:RS}{fs line:LS}{x:Str}(h:Hn rows fs line [])(p:fs.Perm (Au rows x)):EO rows x line:=⟨by have:=h.perm.trans p;rwa [Gg]at this,h.ok⟩
def Hn.step{rows:RS}{fs line left:LS}{z:Str}(h:Hn rows fs line left)(nd:fs.Nodup)(hz:z∈left)(low:F6 rows left z=true):Hn rows fs (line++[z]) (left.erase z):=by
 have nl:left.Nodup:=((h.perm.nodup_iff).mpr nd).sublist (List.sublist_append_right _ _);have lw:∀ y∈left,y≠z->¬ Graph.Reach (Ag rows) y z:=λy hy BB r=>by
  unfold F6 at low;have:((left.map λy=>!decide (y=z)&&AY rows y z).any id)=true:=by
   rw[List.any_map,FK];refine⟨y,hy,?_⟩;show(!decide (y=z)&&AY rows y z)=true;rw[Jc BB,Dr.mpr r];rfl
  rw[this]at low;cases low
 refine⟨?_,λk a b ha hb=>?_,λb hb y hy=>?_⟩
 ·rw[JN];refine List.Perm.trans (List.Perm.append_left _ ?_) h.perm;exact(List.perm_cons_erase hz).symm
 ·rcases Nat.lt_or_ge k line.length with hk | hk
  ·rw[MN hk]at ha;rw[List.take_append_of_le_length (KZ hk)]at hb;exact h.ok k a b ha hb
  ·have hl:=(Ye.mp ha).1;rw[Yt]at hl;have hl:k<line.length + 1:=hl;have ek:k=line.length:=by omega
   subst ek;rw[JP (Yf _),Nat.sub_self]at ha;injection ha with ha;rw[List.take_left]at hb;rw[<- ha];exact h.ahead b hb z hz
 ·have hyl:=MX hy
  rcases Yv.mp hb with c | c
  ·exact h.ahead b c y hyl
  ·rw[Yj.mp c];exact lw y hyl λe=>(List.Nodup.mem_erase_iff nl).mp hy |>.1 e
abbrev X7:LS:=["pot","above","word","left","line","low"]
def gD:Ab X7 ["pot","above","word"] (AK KQ):=by nofun
def wG:Scope:=match CY KQ with
 | [_,_,.While _ (.Assign _ (.ListComp _ _ sc _) _ :: _) _ _,_]=>sc
 | _=>AK KQ
def sI:(["one","above","left"]:LS).Nodup:=by rfl'
def sQ:(["two","one","above"]:LS).Nodup:=by rfl'
def lS(F:Def K mg "_law_line" KQ ["pot","above","word"] f fd)(list:mg "list"=none)(any:mg "any"=none)(len:mg "len"=none)(DT:Def K mg "_law_take" Gb ["pot","many"] fT fdT)(GT:⋯ 1 fT fdT ["pot","many"] Iz):⋯ 2 f fd ["pot","above","word"] iF:=by
 nomatch F.fn.ok gD
 ·obtain⟨p,a,rows,AJ,x,rfl,_⟩:=h;rfl
 ·obtain⟨p,a,rows,AJ,x,rfl,⟨o,hp,ho⟩,g,ha,hA,hx,q⟩:=h;have nd:=gD.nd;have hu:=hr.units;have BJ:=ER hr
  ac_nf
  refine'⟨_,(pS (B1 (i:=3) nd rfl (Or.inr rfl) (HM dP (by rfl) list Kb (pC (Fm BJ (pv 1) (pv 2) (λ_ _=>rfl)) AB)))
   (pS (sE 4 nd (B4 AB))
   (pS (JC Ys (Am (HH hu) (pv 3) (B4 AB) (Ak _))
    (pS ?e1
   (pS (B5 (C7 C1 IM IL GZ (pv 4) (pC (AV (r:=BV K) Ar (pv 5) (AN DT GT hr (pC (pv 0) (pC (Af CC (by rfl) len Yz (pC (pv 5) AB)) AB))) (λ_ _=>rfl)) AB)))
   (AG (B5 (C7 C1 Th PySem.F.type_list_remove ow (pv 3) (pC (AV (r:=BV K) Ar (pv 4) (gr iP AI) (λ_ _=>rfl)) AB)))))))
   (AG (AS (pv 4)))))),?_⟩
  case e1=>exact(qC (k:=5) ["one"] ["above","left"] [1,3] nd rfl rfl (λ_=>mq (osc:=AK KQ) (on:=X7) (by rfl') rfl rfl rfl) (Be (pv 3)) (λC s H fp=>Ay (i:=0) sI rfl (Or.inr rfl) (Or.inl rfl))
    (λC s H fp=>by
     refine' EX (CV (B7 (Af (r:=G_ K λbs=>bs.any id) (Np rfl) (by rfl) any OO (pC ?ei AB))))
     case ei =>
      refine' BC (wi:=gO K (Wa 2)) ["two"] ["one","above"] [0,1] (λ_=>A4 (osc:=q9 wG (AK KQ)) (on:=["one","above","left"]) (by rfl') rfl rfl rfl) ?ej ?ek ?el ?em
      case ej=>exact Be (pv 2)
      case ek=>exact(λC s H fp=>Ay (i:=0) sQ rfl (Or.inl rfl) (Or.inr rfl))
      case el=>exact(λC s H fp=>B6)
      case em=>exact(λC s H fp=>NZ (Hz F9 (pv 0) (pv 1) (Ak _)) (Nb (Hz (r:=M0 K false) Nw (pv 1) (Fm BJ (pv 2) (pv 0) (λ_ _=>rfl)) (by with_unfolding_all rfl))))) (λC s H fp=>pv 0))
  exists let b:=_;let c:=AE _ b;let e:=AE _ c;let f:=AE (J5 _ e) a;let g:=AE _ f;AE _ g _ _ _
  obtain⟨r0,IZ,Uw⟩:=Er hx;obtain⟨t0,fs,CI,Fy,Ii,_,fnd⟩:=hA.val' g.nd IZ;rw[Uw]at CI Ii;have fp:=ZM g hx Ii fnd;have fle:fs.length<=24:=by rw[fp.length_eq];exact Nj g x
  have fpos:1<=fs.length:=IH.mpr (λz=>by
   have:=(Ii x).mpr (.refl _);rw[z]at this;cases this)
  have ap:a≠p:=λz=>by
   obtain⟨_,_,e,_⟩:=id ho;rw[z,hp,e]at ha;cases ha
  refine⟨Z,Z,a,Z,(by rw[<- CI];exact BM.k (k:=Sum.inr x) ha),t0,Z,.inl (SqL.of Fy),λlf hlf=>?_⟩;have s1:AA H (upd H lf (.lst (fs.map V.str))):=A6 hlf;have Bc:(upd H lf (.lst (fs.map V.str))) lf=some (.lst (fs.map V.str)):=uS;generalize upd H lf (.lst (fs.map V.str))=H1 at s1 Bc;refine⟨BF _,λln Cs=>?_⟩;have s2:AA H1 (upd H1 ln (.lst [])):=A6 Cs;have CQ:(upd H1 ln (.lst [])) ln=some (.lst []):=uS;generalize upd H1 ln (.lst [])=H2 at s2 CQ;have Bq:=s1.trans s2;have lfn:lf≠ln:=AH Bc Cs;have lfp:lf≠p:=Yr (AH hp hlf);have lnH:H ln=none:=s1.free Cs;have lnp:ln≠p:=Yr (AH hp lnH);let Cg:NW:=λm σ H'=>∃(left line:LS) (x5:OV),σ=[some (.ref p),some (.ref a),some (.str x),some (.ref lf),some (.ref ln),x5]/\Drawn p H H'/\H' lf=some (.lst (left.map V.str))/\H' ln=some (.lst (line.map V.str))/\(∀ z∈left,z∈rows.map (·.1))/\(∀ z∈line,z∈rows.map (·.1))/\line.length + left.length=fs.length/\Hn rows fs line left/\m=left.length;refine⟨Cg,
   ⟨_,fs,[],none,Y,(Drawn.refl ⟨o,hp,ho⟩).same Bq,s2 _ _ Bc,CQ,(λz hz=>Sf g hx ((Ii z).mp hz)),(λz hz=>nomatch hz),by show 0 + _=_;omega,Hn.start,Y⟩,?_⟩
  rintro m σ H3 ⟨left,line,x5,rfl,d3,Ih,j4,lk,nk,cnt,go,rfl⟩;obtain⟨o3,Ef,Eh⟩:=id d3.pot;refine⟨Z,BF _,λl0 E5=>?_⟩;have s4:AA H3 (upd H3 l0 (.lst [])):=A6 E5;have Y5:(upd H3 l0 (.lst [])) l0=some (.lst []):=uS;generalize upd H3 l0 (.lst [])=H4 at s4 Y5;have wok:∀ z∈left,PyData.strOk z=true:=λz hz=>by
   obtain⟨r,An,e⟩:=Yg.mp (lk z hz);rw[<- e];exact PN (g.word r An)
  have Ie:=s4 _ _ Ih;have Rh:=s4 _ _ j4;have d4:=d3.same s4;have Od:=s4 _ _ Ef;refine⟨.list (left.map W.Dat.str),.list [],.list (SqL.of Ie) (Ga _),.list (SqL.of Y5) .nil,PV wok,Y,Z,?_⟩;by_cases hle:left=[]
  ·subst hle;rw[show(!CL (.list (([]:LS).map W.Dat.str)) (.list []))=false from by rw[show CL (.list (([]:LS).map W.Dat.str)) (.list [])=true from EZ _];rfl];refine Ao ⟨Z,q ln line H4 d4 lnH Rh nk ?_ ?_ (go.fin fp)⟩
   ·simp only[QK]at cnt;omega
   ·simp only[QK]at cnt;omega
  ·rw[show(!CL (.list (left.map W.Dat.str)) (.list []))=true from by rw[GV (λz=>by injection z with z;exact hle (List.map_eq_nil_iff.mp z))];rfl];let EG:SW:=λσ' H'=>∃ m',m'<left.length/\∃(left line:LS) (x5:OV),σ'=[some (.ref p),some (.ref a),some (.str x),some (.ref lf),some (.ref ln),x5]/\Drawn p H H'/\H' lf=some (.lst (left.map V.str))/\H' ln=some (.lst (line.map V.str))/\(∀ z∈left,z∈rows.map (·.1))/\(∀ z∈line,z∈rows.map (·.1))/\line.length + left.length=fs.length/\Hn rows fs line left/\m'=left.length;refine By ⟨EG,λ_ _ h=>h,?_⟩;have ll:left.length<=24:=by omega
   refine⟨Z,lf,Y,⟨_,SqL.of Ie⟩,EY (Bk (xs:=left.map V.str)) (sL (by rw[Ya];omega)) (dw rows left) (λv=>v) (λH' s'=>s'.seq (SqL.of Ie)) ?_ ?_ ?_⟩
   ·intro v H' R s' hv Ae;obtain⟨z,hz,rfl⟩:=Yg.mp hv;have Oj:=s' _ _ Ie;refine⟨Z,lf,Y,⟨_,SqL.of Oj⟩,EY (Bk (xs:=left.map V.str)) (sL (by rw[Ya];omega)) (λ_=>true) (UA rows z) (λBH BR=>BR.seq (SqL.of Oj)) ?_ ?_ ?_⟩
    ·intro v BH R' BR _ B_;exact B_ BH (AA.refl _)
    ·intro v BH R' BR XD _ B_;obtain⟨y,hy,rfl⟩:=Yg.mp XD;have Qd:=s'.trans BR;obtain⟨r2,Ml,NJ⟩:=Er (lk y hy);have kP:=V_ hA hp ho d4;obtain⟨t2,f2,LB,BD,hin⟩:=(kP.mono λb xs e=>Qd b _ e).val g.nd Ml;rw[NJ]at LB hin;have e:decide (V.str y=V.str z)=decide (y=z):=OE.mpr ⟨λq=>by injection q,λq=>by rw[q]⟩;have eo:UA rows z (V.str y)=.bl (!decide (y=z)&&AY rows y z):=rfl;rw[eo]at B_;refine⟨Z,Z,Y,Z,?_⟩;rw[e];refine A9 (λq1=>?_) (λq1=>?_)
     ·rw[q1,Kd]at B_;refine⟨Z,Z,Z,a,Z,(by rw[<- LB];exact BM.k (k:=Sum.inr y) (Qd _ _ (d4.keep _ _ ap ha))),t2,Z,.inl (SqL.of BD),Y,Lu f2,?_⟩;rw[show(if false=true then !EJ (V.str z) (f2.map V.str)else EJ (V.str z) (f2.map V.str))=AY rows y z from by rw[if_neg (by decide),J7,Vr hin]];exact B_ BH (AA.refl _)
     ·rw[show(!decide (y=z))=false by simpa using q1,OM]at B_;exact B_ BH (AA.refl _)
    ·intro D3 BH Io BR Bm;rw[iO]at Bm;refine⟨D3,Z,SqL.of Bm,Z,?_⟩;show R (!((left.map λy=>!decide (y=z)&&AY rows y z).any id)) BH;exact Ae BH BR
   ·intro v H' R s' _ _ Ae;exact⟨Z,Ae H' (AA.refl _)⟩
   intro lo H5 hlo s5 FV;rw[Gh,ZW]at FV;have lne:=sy g lk hle;have lsub:∀ z∈left.filter (F6 rows left),z∈left/\F6 rows left z=true:=λz hz=>Yu.mp hz;have llen:=EE (F6 rows left) left;generalize left.filter (F6 rows left)=low at FV lne lsub llen;have lpos:0<low.length:=IH.mpr lne;have Gz:=s5 _ _ Od;have lop:lo≠p:=Yr (AH Od hlo);have lon:ln≠lo:=AH Rh hlo;have lof:lf≠lo:=AH Ie hlo;refine⟨Z,.inl ⟨Y,_,SqL.of (s5 _ _ Rh)⟩,Z,Z,Z,lo,Z,.inl (SqL.of FV),p,_,o3,Y,Gz,Eh,Q,Q,λv6 o6 iy iw FT=>?_⟩;have Ox:Drawn p H5 (upd H5 p o6):=Drawn.upd FT;generalize upd H5 p o6=H6 at Ox;obtain⟨z,hz,hat⟩:=So iy iw;have j3:=Ox.keep _ _ lnp (s5 _ _ Rh);have Jt:=Ox.keep _ _ lfp (s5 _ _ Ie);refine⟨lo,_,_,Z,Y,SqL.of (Ox.keep _ _ lop FV),hat,ln,_,Z,Y,j3,CZ (by rw[Ya];omega),?_⟩;have d6:Drawn p H H6:=(d4.same s5).trans Ox;have en:(line.map V.str++[V.str z])=(line++[z]).map V.str:=by rw[CD];rfl
   rw[en];have k7:∀ b u,b≠ln->H6 b=some u->(upd H6 ln (.lst ((line++[z]).map V.str))) b=some u:=λb u hb e=>by rw[AD hb];exact e
   have Ul:(upd H6 ln (.lst ((line++[z]).map V.str))) ln=some (.lst ((line++[z]).map V.str)):=uS;generalize upd H6 ln (.lst ((line++[z]).map V.str))=H7 at k7 Ul;have YV:=k7 _ _ lfn Jt;obtain⟨oz,hpz,hoz⟩:=d6.pot;have d7:Drawn p H H7:=⟨λb u hb e=>k7 b u (AH e lnH) (d6.keep b u hb e),oz,k7 _ _ (Yr lnp) hpz,hoz⟩;obtain⟨hzl,hzw⟩:=lsub z hz;have hatz:BS ((line++[z]).map V.str) (-1)=some (V.str z):=by rw[CD];exact Z8 _ _
   refine⟨Z,.inl ⟨Y,_,SqL.of YV⟩,Z,Z,ln,_,_,Z,Y,SqL.of Ul,hatz,lf,left,z,Y,Y,YV,hzl,?_⟩;have el:(left.erase z).length=left.length - 1:=Wu hzl;have xg:0<left.length:=IH.mpr hle;refine⟨(left.erase z).length,W,left.erase z,line++[z],Z,⟨λb u hb e=>by rw[AD (AH e hlf)];exact d7.keep b u hb e,oz,by rw[AD (Yr lfp)];exact k7 _ _ (Yr lnp) hpz,hoz⟩,uS,by rw[AD (Yr lfn)];exact Ul,λy hy=>lk y (MX hy),λy hy=>?_,by rw[Yt];show _ + 1 + _=_;omega,go.step fnd hzl hzw,Y⟩
   rcases Yv.mp hy with c | c
   ·exact nk y c
   ·rw[Yj.mp c];exact lk z hzl
def Ho(H:Hp)(cs:List (LS))(vs:LV):Prop:=Paired (λc v=>∃ t,v=.ref t/\H t=some (.lst (c.map V.str))) cs vs
def Ho.mono{H H':Hp}{cs:List (LS)}{vs:LV}(h:Ho H cs vs)(s:AA H H'):Ho H' cs vs:=Paired.mapP h λ_ _ ⟨t,e,h⟩=>⟨t,e,s _ _ h⟩
def Dy(H:Hp)(t:Addr)(ord:List Int)(cs:List (LS)):Prop:=∃(lo ll:Addr) (vs:LV),H t=some (.tup [.ref lo,.ref ll])/\H lo=some (.lst (ord.map V.int))/\H ll=some (.lst vs)/\Ho H cs vs
theorem Dy.mono{H H':Hp}{t:Addr}{ord:List Int}{cs:List (LS)}(h:Dy H t ord cs)(s:AA H H'):Dy H' t ord cs:=by
 obtain⟨lo,ll,vs,h1,h2,h3,h4⟩:=h;exact⟨lo,ll,vs,s _ _ h1,s _ _ h2,s _ _ h3,h4.mono s⟩
def rV(ls:LS):Prop:=∀ z∈ls,PyData.strOk z=true
structure MF(ord:List Int)(cs:List (LS)):Prop where
 few:ord.length<=10
 fewL:cs.length<=10
 txt:∀ c∈cs,rV c/\c.length<64
def V0{a b:LS}(h:a.map V.str=b.map V.str):a=b:=by
 induction a generalizing b with
 | nil =>
  cases b with
  | nil=>rfl
  | cons y b=>cases h
 | cons x a ih =>
  cases b with
  | nil=>cases h
  | cons y b =>
   rw[Yo,Yo]at h;injection h with h1 h2;injection h1 with h1;rw[h1,ih h2]
def Ad(n:Nat):List Int:=(List.range n).map λi=>((i:Nat):Int)
def Se(n:Nat):CW 0 n=(Ad n).map V.int:=by
 rw[V7];unfold Ad;rw[Bo];rfl
def bV(n:Nat):(Ad n).Pairwise (·<=·):=by
 unfold Ad;rw[Ka];exact List.pairwise_lt_range.imp λh=>by omega
structure Dg(rows:RS)(xs:LS)(ord:List Int)(cs:List (LS)):Prop where
 ord:ord.Perm (Ad xs.length)
 len:cs.length=xs.length
 line:∀(i:Nat) (x:Str) (c:LS),xs[i]?=some x->cs[i]?=some c->EO rows x c
def aJ{a b:List Int}(h:a.map W.Dat.int=b.map W.Dat.int):a=b:=by
 induction a generalizing b with
 | nil =>
  cases b with
  | nil=>rfl
  | cons y b=>cases h
 | cons x a ih =>
  cases b with
  | nil=>cases h
  | cons y b =>
   rw[Yo,Yo]at h;injection h with h1 h2;injection h1 with h1;rw[h1,ih h2]
theorem Pf{K:Fg}{H:Hp}:∀ ns:List Int,A1 K H (ns.map V.int) (ns.map W.Dat.int)
 | []=>.nil
 | n :: r=>.cons (.int _) (Pf r)
def SE(ns:List Int):W.kqdOk 9 (.list (ns.map W.Dat.int))=true:=by
 show(ns.map W.Dat.int).all (W.kqdOk 8)=true;rw[Cr];intro d hd;obtain⟨x,hx,rfl⟩:=Yg.mp hd;rw[W.kqdOk]
theorem Vj{α:Type}{F:α->Bool->Prop}:∀ {ps:List α}{vs:LV},Paired (λp v=>∃ b,v=.bl b/\F p b) ps vs->∃ bs:List Bool,vs=bs.map V.bl/\Paired F ps bs
 | _,_,.nil=>⟨[],Y,.nil⟩
 | _,_,.cons ⟨b,e,h⟩ t=>by
  obtain⟨bs,e2,h2⟩:=Vj t;exact⟨b :: bs,by rw[e,e2];rfl,.cons h h2⟩
def iD(C B:Addr):Sp:=λvs H Q _=>∃(p k t lu:Addr) (rows:RS) (n:Nat) (ds:List (LS)) (xs:LS) (ord:List Int) (cs:List (LS)),vs=[.ref p,.ref t,.ref lu]/\B0 C B H p k rows n ds/\AR rows/\n<=4/\H t=some (.tup (xs.map V.str))/\BX rows n xs/\Dy H lu ord cs/\MF ord cs/\∀ v H',AA H H'->(v=true↔Dg rows xs ord cs)->Q (.bl v) H'
abbrev X9:LS:=["board","call","lineup","kinds","places","order","lines"]
def f_:Ab X9 ["board","call","lineup"] (AK Pu):=by nofun
def sV:(["word","line","kinds"]:LS).Nodup:=by rfl'
theorem V6{rows:RS}{H:Hp}:∀ {xs:LS}{cs:List (LS)}{vs:LV}{bs:List Bool},Ho H cs vs->cs.length=xs.length->Paired (λ(pr:V×V) b=>(b=true↔∀(x:Str) (c:LS),pr.1=.str x->(∃ t,pr.2=.ref t/\H t=some (.lst (c.map V.str)))->EO rows x c)) ((xs.map V.str).zip vs) bs ->
  (bs.all id=true↔∀(i:Nat) (x:Str) (c:LS),xs[i]?=some x->cs[i]?=some c->EO rows x c)
 | [],_,_,_,.nil,_,h=>by
  cases h;exact⟨λ_ i x c h=>by simp at h,λ_=>rfl⟩
 | x :: xs,c :: cs,v :: vs,bs,.cons ⟨t,e,ht⟩ r,hl,h=>by
  cases h with
  | cons hb hr =>
   rename_i b bs
   have ih:=V6 (rows:=rows) r (by simpa using hl) hr;rw[List.all_cons,Du,ih];have Uo:b=true↔EO rows x c:=by
    rw[hb];constructor
    ·intro z;exact z x c rfl ⟨t,e,ht⟩
    ·intro z x' c' ex ⟨t',et,IY⟩;cases ex;rw[e]at et;cases et;rw[ht]at IY;have:c.map V.str=c'.map V.str:=by
      injection IY with IY;injection IY
     have ec:c=c':=V0 this;rw[<- ec];exact z
   show(b=true/\_)↔_;rw[Uo];constructor
   ·rintro⟨h1,h2⟩ i x' c' hx hc;cases i with
    | zero =>
     simp at hx hc;rw[<- hx,<- hc];exact h1
    | succ i=>exact h2 i x' c' (by simpa using hx) (by simpa using hc)
   ·intro z;exact⟨z 0 x c rfl rfl,λi x' c' hx hc=>z (i + 1) x' c' (by simpa using hx) (by simpa using hc)⟩
def qT(F:Def K mg "is_lineup" Pu ["board","call","lineup"] f fd)(srt:mg "sorted"=none)(list:mg "list"=none)(range:mg "range"=none)(len:mg "len"=none)(all:mg "all"=none)(zip:mg "zip"=none)(TC:CT K C)(TB:E_ K B)(MK:Lg K B fK fdK)(MP:SO K B fPl fdPl)
  (DCk:Def K mg "check_call" Pq DH fCk fdCk) (GC:⋯ 3 fCk fdCk DH (WC C)) (DIL:Def K mg "is_line" Pg K7 fIL fdIL) (GIL:⋯ 6 fIL fdIL K7 (aX C)):⋯ 7 f fd ["board","call","lineup"] (iD C B):=by
 have GK:⋯ 1 fK fdK ["self"] (KI C B):=Ly MK.fn TB;have GP:⋯ 1 fPl fdPl ["self"] (Pj C B):=Su MP.fn TB
 nomatch F.fn.ok f_
 ·obtain⟨p,k,t,lu,rows,n,ds,xs,ord,cs,rfl,_⟩:=h;rfl
 ·obtain⟨p,k,t,lu,rows,n,ds,xs,ord,cs,rfl,bd,g,n4,ht,gc,hlu,lok,q⟩:=h;obtain⟨dx,ts,us,h1,h2,h3,h4⟩:=bd.ex;have nd:=f_.nd;have hu:=hr.units;have Ah:AU 1 _:=hr.mono (by decide);have CJ:AU 3 _:=hr.mono (by decide)
  ac_nf
  refine'⟨_,(pS (B1 (i:=3) nd rfl (Or.inr rfl) (C8 (pv 0) TB.cl MK.me GK Ah MK.b .nil A3))
   (pS (sE 4 nd (C8 (pv 0) TB.cl MP.me GP Ah MP.b .nil A3))
   (pS (B5 (AN DCk GC CJ (pC (pv 3) (pC (pv 4) (pC (pv 1) AB)))))
   (pS (sE 5 nd (AV (r:=BN K) BQ (pv 2) AI (λ_ _=>rfl)))
   (pS (sE 6 nd (AV (r:=BN K) BQ (pv 2) AI (λ_ _=>rfl)))
   (pS (Aj (PW.pt (Iu (Am (HH hu) (Af cX (by rfl) srt OH (pC (pv 5) AB)) (Po rfl (pv 4) (by rfl) list (by rfl) range) (Ak _)) (J3 (Am F9 (Af CC (by rfl) len Yz (pC (pv 6) AB)) (pv 4) (Ak _))))) (AG (AS CU)) Al)
   (AG (AS (Af (r:=G_ K λbs=>bs.all id) (J_ rfl) (by rfl) all Ko (pC ?e1 AB)))))))))),?_⟩
  case e1=>exact(BC ["word","line"] ["kinds"] [3] (λ_=>A4 (osc:=AK Pu) (on:=X9) (by rfl') rfl rfl rfl) (Zl (by rfl) zip (pC (pv 1) (pC (pv 6) AB))) (λC s H fp=>PF (K:=K) (i:=0) (j:=1) rfl rfl sV rfl rfl (Or.inl rfl) (Or.inl rfl) (Or.inr rfl) (Or.inr rfl)) (λC s H fp=>B6) (λC s H fp=>AN DIL GIL hr (pC (pv 2) (pC (pv 0) (pC (pv 1) AB)))))
  exists let b:=AE _ a;let c:=AE _ b;let e:=AE _ c;let f:=AE _ e;let g:=AE _ f;AE _ g _ _ _
  obtain⟨lo,ll,vs,AZ,hlo,hll,hL⟩:=hlu;have xl:=gc.len;refine⟨Z,p,dx,Z,h1,Lx _ _ _,p,k,O,Y,bd,?_⟩;refine⟨Z,p,dx,Z,h1,Ss _ _ _,p,k,O,Y,bd,?_⟩;refine⟨Z,Z,Z,k,t,n,rows,xs,Y,h2,g,ht,gc,n4,λH1 s1=>?_⟩;refine⟨Z,lu,_,_,Z,Y,AL.of (s1 _ _ AZ),Y,Z,lu,_,_,Z,Y,AL.of (s1 _ _ AZ),Y,?_⟩;have few:=lok.few;have fewL:=lok.fewL;refine⟨Z,lo,ord,Y,SqL.of (s1 _ _ hlo),W,λns l2 pn on BK=>?_⟩;have s2:AA H1 (upd H1 l2 (.lst (ns.map V.int))):=A6 BK;have CQ:(upd H1 l2 (.lst (ns.map V.int))) l2=some (.lst (ns.map V.int)):=uS;generalize upd H1 l2 (.lst (ns.map V.int))=H2 at s2 CQ;refine⟨Z,Z,W,W,λl3 Bm=>?_⟩;rw[Yq,Se];have s3:AA H2 (upd H2 l3 (.lst ((Ad n).map V.int))):=A6 Bm;have Dk:(upd H2 l3 (.lst ((Ad n).map V.int))) l3=some (.lst ((Ad n).map V.int)):=uS;generalize upd H2 l3 (.lst ((Ad n).map V.int))=H3 at s3 Dk;have Az:=s1.trans (s2.trans s3);refine⟨.list (ns.map W.Dat.int),.list ((Ad n).map W.Dat.int),.list (SqL.of (s3 _ _ CQ)) (Pf _),.list (SqL.of Dk) (Pf _),SE _,SE _,Z,?_⟩;by_cases hp:ord.Perm (Ad n)
  ·have Ek:ns=Ad n:=WB on (bV n) (pn.trans hp);rw[Ek,EZ];have C3:=Az _ _ hll;have vl:=Bl hL;refine Ao ⟨Z,ll,Z,.inl (SqL.of C3),Z,Y,Z,?_⟩;by_cases hc:cs.length=n
   ·rw[show(!decide (V.int ((vs.length:Nat):Int)=V.int ((n:Nat):Int)))=false from by rw[<- vl,hc,Jb rfl];rfl];refine Ao ⟨Z,Z,t,ll,_,Z,AL.of (Az _ _ ht),SqL.of C3,Sk (by rw[Kl,Ya];exact sL (by omega)) (λ_=>true) (λ_ pr v _=>∃ b,v=.bl b/\(b=true↔∀(x:Str) (c:LS),pr.1=.str x->(∃ t,pr.2=.ref t/\H t=some (.lst (c.map V.str)))->EO rows x c)) (λ_ _ _ _ _ _ h=>h) (λH' s'=>⟨AL.of (s' _ _ (Az _ _ ht)),SqL.of (s' _ _ C3)⟩) ?_ ?_ ?_⟩
    ·intro pr H' R s' _ Ae;exact Ae H' (AA.refl _)
    ·intro D pr H' R s' _ _ hpr _ Ae;obtain⟨i,hi⟩:=Gj hpr;obtain⟨Ud,CH⟩:=PY hi;obtain⟨x,hx,ex⟩:=J9 Ud;obtain⟨c,hcc,tc,ec,htc⟩:=C0 hL CH;obtain⟨cok,clen⟩:=lok.txt c (Yc hcc);have EI:=Az.trans s';rw[ex,ec];refine⟨Z,Z,Z,k,tc,rows,x,c,Y,h2.mono EI,g,gc.known x (Yc hx),EI _ _ htc,cok,clen,λv BH BR hv=>Ae _ BH BR ⟨v,Y,?_⟩⟩;rw[hv];constructor
     ·intro z x' c' e1 ⟨t',e2,e3⟩;rw[ex]at e1;cases e1;rw[ec]at e2;cases e2;rw[htc]at e3;have:c.map V.str=c'.map V.str:=by
       injection e3 with e3;injection e3
      have ecc:c=c':=V0 this;rw[<- ecc];exact z
     ·intro z;exact z x c ex ⟨tc,ec,htc⟩
    ·intro D H4 ys hD s4 Di pr;rw[Et.mpr (λ_ _=>rfl)]at pr;obtain⟨bs,eb,pb⟩:=Vj pr;rw[eb]at Di;refine⟨D,bs,Y,SqL.of Di,?_⟩;refine q _ H4 (Az.trans s4) ?_;have lp:=V6 (rows:=rows) hL (by omega) pb;show bs.all id=true↔_;rw[lp];exact⟨λz=>⟨by rw[xl];exact hp,W,z⟩,λz=>z.line⟩
   ·rw[show(!decide (V.int ((vs.length:Nat):Int)=V.int ((n:Nat):Int)))=true from by rw[Jc (λz=>by injection z with z;omega)];rfl];exact By (q false H3 Az ⟨(λz=>by cases z),λz=>absurd (z.len.trans xl) hc⟩)
  ·have Ek:ns≠Ad n:=λe=>hp (pn.symm.trans (e ▸ IG _));rw[show(!CL (.list (ns.map W.Dat.int)) (.list ((Ad n).map W.Dat.int)))=true from by
    rw[GV (λz=>by injection z with z;exact Ek (aJ z))];rfl]
   exact By (q false H3 Az ⟨(λz=>by cases z),λz=>absurd (xl ▸ z.ord) hp⟩)
structure xG(ws:LS)(n:Nat)(ord:List Int)(cs:List (LS)):Prop where
 olen:ord.length=n
 clen:cs.length=n
 line:∀ c∈cs,1<=c.length/\c.length<=24/\∀ z∈c,z∈ws
def Wi(p:Addr)(H:Hp)(t:Addr)(ord:List Int)(cs:List (LS)):Prop:=∃(lo ll:Addr) (vs:LV),lo≠p/\H t=some (.tup [.ref lo,.ref ll])/\H lo=some (.lst (ord.map V.int))/\H ll=some (.lst vs)/\Ho H cs vs
def Wi.at_{p:Addr}{H:Hp}{t:Addr}{ord:List Int}{cs:List (LS)}(h:Wi p H t ord cs):Dy H t ord cs:=by
 obtain⟨lo,ll,vs,_,h⟩:=h;exact⟨lo,ll,vs,h⟩
def ff:Sp:=λvs H Q _=>∃(p a t:Addr) (rows:RS) (AJ:KL) (xs:LS),vs=[.ref p,.ref a,.ref t]/\(∃ o,H p=some o/\DM o)/\AR rows/\H a=some (.dK AJ)/\Bu H rows rows AJ/\H t=some (.tup (xs.map V.str))/\(∀ x∈xs,x∈rows.map (·.1))/\xs.length<=4 /\
 ∀ lu ord cs H',Drawn p H H'->Wi p H' lu ord cs->xG (rows.map (·.1)) xs.length ord cs->Dg rows xs ord cs->Q (.ref lu) H'
def ux{ord:List Int}{i:Nat}(h:ord.Perm (Ad i))(k:Nat):(ord.take k++(0 + (i:Int)):: ord.drop k).Perm (Ad (i + 1)):=by
 have e:Ad (i + 1)=Ad i++[0 + (i:Int)]:=by
  unfold Ad;rw[List.range_succ,CD,FL];rfl
 rw[e];refine QM.trans ?_;rw[JM];exact(List.Perm.cons _ h).trans (List.perm_append_singleton _ _).symm
abbrev X8:LS:=["pot","above","call","order","place"]
def gB:Ab X8 ["pot","above","call"] (AK Pz):=by nofun
def sW:(["word","pot","above"]:LS).Nodup:=by rfl'
def pI(F:Def K mg "_law_lineup" Pz ["pot","above","call"] f fd)(range:mg "range"=none)(len:mg "len"=none)(DT:Def K mg "_law_take" Gb ["pot","many"] fT fdT)(GT:⋯ 1 fT fdT ["pot","many"] Iz)
  (DL:Def K mg "_law_line" KQ ["pot","above","word"] fL fdL) (GL:⋯ 2 fL fdL ["pot","above","word"] iF):⋯ 3 f fd ["pot","above","call"] ff:=by
 nomatch F.fn.ok gB
 ·obtain⟨p,a,t,rows,AJ,xs,rfl,_⟩:=h;rfl
 ·obtain⟨p,a,t,rows,AJ,xs,rfl,⟨o,hp,ho⟩,g,ha,hA,ht,kn,x4,q⟩:=h;have nd:=gB.nd;have Ah:AU 1 _:=hr.mono (by decide)
  ac_nf
  refine'⟨_,(pS (sE 3 nd (B4 AB))
   (pS (Bt Ys rfl (FF (by rfl) range (pC (Af CC (by rfl) len Yz (pC (pv 2) AB)) AB)) (gE 4 nd)
    (AG (B5 (C7 C1 Wt Ws Vt (pv 3) (pC (AN DT GT Ah (pC (pv 0) (pC (Ai ET (pv 4) AI) AB))) (pC (pv 4) AB))))))
   (AG (AS (CP (pC (pv 3) (pC ?e1 AB))))))),?_⟩
  case e1=>exact(BC ["word"] ["pot","above"] [0,1] (λ_=>A4 (osc:=AK Pz) (on:=X8) (by rfl') rfl rfl rfl) (HJ (pv 2)) (λC s H fp=>Ay (i:=0) sW rfl (Or.inl rfl) (Or.inr rfl)) (λC s H fp=>B6) (λC s H fp=>AN DL GL hr (pC (pv 1) (pC (pv 2) (pC (pv 0) AB)))))
  exists let b:=_;let c:=AE (Bz _ _ b) a;AE _ c _ _ _
  have ap:a≠p:=λz=>by
   obtain⟨_,_,e,_⟩:=id ho;rw[z,hp,e]at ha;cases ha
  refine⟨BF _,λlo hlo=>?_⟩;have s1:AA H (upd H lo (.lst [])):=A6 hlo;have Bc:(upd H lo (.lst [])) lo=some (.lst []):=uS;generalize upd H lo (.lst [])=H1 at s1 Bc;have lop:lo≠p:=Yr (AH hp hlo);let BG:NW:=λi σ H'=>∃(ord:List Int) (x4:OV),σ=[some (.ref p),some (.ref a),some (.ref t),some (.ref lo),x4]/\Drawn p H H'/\H' lo=some (.lst (ord.map V.int))/\ord.length=i/\ord.Perm (Ad i);refine⟨Z,t,Z,.inr (AL.of (s1 _ _ ht)),Z,W,Q,B8 Es BG
   ⟨[],none,Y,(Drawn.refl ⟨o,hp,ho⟩).same s1,Bc,Y,IG _⟩ (λ_ _ _ _ _=>trivial) ?_ ?_⟩
  ·rintro i v σ H2 hi ⟨ord,x4,rfl,d2,BK,ol,op⟩;obtain⟨Ct,rfl⟩:=Ds hi;rw[Ya]at Ct;obtain⟨o2,DK,CA⟩:=id d2.pot;refine⟨Z,.inl ⟨Y,_,SqL.of BK⟩,Z,Z,_,Z,Y,p,_,o2,Y,DK,CA,W,W,λv3 o3 v30 xY Eh=>?_⟩;have d3:Drawn p H2 (upd H2 p o3):=Drawn.upd Eh;generalize upd H2 p o3=H3 at d3;have Bm:=d3.keep _ _ lop BK;have Oy:=d2.trans d3;obtain⟨oz,hpz,hoz⟩:=Oy.pot;refine⟨Z,lo,_,_,Z,Y,Bm,v30,Q,CZ (by rw[Ya];omega),?_⟩;refine⟨ord.take v3.toNat++(0 + (i:Int)):: ord.drop v3.toNat,Z,⟨λb u hb e=>by rw[AD (AH e hlo)];exact Oy.keep b u hb e,oz,by rw[AD (Yr lop)];exact hpz,hoz⟩,?_,?_,ux op _⟩
   ·rw[uS,CD,Yo,List.map_take,List.map_drop]
   ·rw[Yt,Bv,Yx,List.length_drop];omega
  rintro σ H2 ⟨ord,x4,rfl,d2,BK,ol,op⟩;have op:ord.Perm (Ad xs.length):=by
   rw[Ca,Ya,Yq]at op;exact op
  have ol:ord.length=xs.length:=by
   rw[Ca,Ya,Yq]at ol;exact ol
  obtain⟨o2,DK,CA⟩:=id d2.pot;have BD:=Drawn.tup d2 hp ho ht;refine⟨Z,Z,t,Y,⟨_,AL.of BD⟩,Nt IB (xs:=xs.map V.str) (by rw[Ya];exact sL (by omega)) (λD i ys σ' H'=>Drawn p H2 H'/\H' D=some (.lst ys)/\∃(cs:List (LS)) (o:OV),Paired (λc v=>∃ b,v=.ref b/\b≠D/\H' b=some (.lst (c.map V.str))) cs ys/\cs.length=i/\(∀ c∈cs,1<=c.length/\c.length<=24/\∀ z∈c,z∈rows.map (·.1))/\(∀(j:Nat) (x:Str) (c:LS),xs[j]?=some x->cs[j]?=some c->EO rows x c)/\σ'=[o,some (.ref p),some (.ref a)])
   (λD hD=>⟨(Drawn.refl ⟨o2,DK,CA⟩).new hD,uS,[],none,.nil,Y,(λx h=>nomatch h),(λj x c _ h=>by cases j <;> cases h),Y⟩) (λD i ys σ' H' hi h0=>by obtain⟨d,_,cs,_,pr,el,_⟩:=h0;exact⟨AL.of (Drawn.tup d DK CA BD),by rw[<- Bl pr,el];exact Yf _⟩) ?_ ?_⟩
  ·rintro D i v ys σ' H3 hD hi ⟨d,hl,cs,o',pr,el,hc,hlp,rfl⟩;obtain⟨x,hx,rfl⟩:=J9 hi;have Oy:=d2.trans d;have pD:p≠D:=AH DK hD;obtain⟨o3,Ef,Eh⟩:=id d.pot;refine⟨Z,Z,Z,p,a,rows,AJ,x,Y,d.pot,g,Oy.keep _ _ ap ha,V_ hA hp ho Oy,kn x (Yc hx),λl ls H4 d4 fl Di k l1 jd hlin=>?_⟩;have dd:=d.trans d4;obtain⟨oz,hpz,hoz⟩:=dd.pot;have lD:l≠D:=λz=>by rw[z,hl]at fl;cases fl
   refine⟨d4.keep _ _ (Yr pD) hl,⟨λb u hb e=>by rw[AD (AH e hD)];exact dd.keep b u hb e,oz,by rw[AD pD];exact hpz,hoz⟩,uS,cs++[ls],_,Fn (Paired.mapP pr λc v ⟨b,e,nb,hb⟩=>⟨b,e,nb,by rw[AD nb];exact d4.keep _ _ (Yr (O7 Ef Eh hb)) hb⟩) ⟨l,Y,lD,by rw[AD lD];exact Di⟩,by rw[Yt,el];rfl,λc BL=>?_,λj y c hy hj=>?_,Y⟩
   ·rcases Yv.mp BL with z | z
    ·exact hc c z
    ·rw[Yj.mp z];exact⟨l1,jd,k⟩
   ·rcases Nat.lt_or_ge j cs.length with hjl | hjl
    ·rw[MN hjl]at hj;exact hlp j y c hy hj
    ·have CB:=(Ye.mp hj).1;rw[Yt]at CB;have CB:j<cs.length + 1:=CB;have ej:j=i:=by omega
     subst ej;rw[JP hjl,show j - cs.length=0 by omega]at hj;injection hj with hj;rw[hx]at hy;injection hy with hy;rw[<- hj,<- hy];exact hlin
  ·rintro lb ys σ' H3 hlb ⟨d,hl,cs,o',pr,el,hc,hlp,rfl⟩;rw[Ya]at el;refine⟨U,λlu hlu=>?_⟩;have s4:AA H3 (upd H3 lu (.tup [.ref lo,.ref lb])):=A6 hlu;exact q lu ord cs _ ((d2.trans d).same s4) ⟨lo,lb,ys,lop,uS,s4 _ _ (d.keep _ _ lop BK),s4 _ _ hl,Paired.mapP pr λc v ⟨b,e,_,hb⟩=>⟨b,e,s4 _ _ hb⟩⟩ ⟨ol,el,hc⟩ ⟨op,el,hlp⟩
def cj{p:Addr}{H H':Hp}{o:HO}{ds:List (LS)}{us:LV}(h:A0 H ds us)(hp:H p=some o)(ho:DM o)(d:Drawn p H H'):A0 H' ds us:=Paired.mapP h λ_ _ ⟨t,e,x⟩=>⟨t,e,Drawn.tup d hp ho x⟩
def qG{C B:Addr}{H H':Hp}{p k q:Addr}{o:HO}{rows:RS}{n:Nat}{ds:List (LS)}(h:B0 C B H p k rows n ds)(hq:H q=some o)(ho:DM o)(d:Drawn q H H'):B0 C B H' p k rows n ds:=by
 obtain⟨dx,t,us,h1,h2,h3,h4⟩:=h.ex;obtain⟨r,b,eo,_⟩:=id ho;have Gy:=hq;rw[eo]at Gy;have nk:k≠q:=by
  intro z;obtain⟨_,_,_,_,_,_,_,e,_⟩:=h2.ex;rw[z,Gy]at e;cases e
 exact⟨dx,t,us,d.keep _ _ (λz=>by rw[z,Gy]at h1;cases h1) h1,cJ h2 Gy d.keep nk (λ_ _ z=>by cases z) (λ_ z=>by cases z),d.keep _ _ (λz=>by rw[z,Gy]at h3;cases h3) h3,cj h4 hq ho d⟩
def hY{W:Nat->Nat->Bool}{l r e:LN}{k:Nat}(h:nx W l.length l=(k :: r,e)):Bn W l=[k]/\nx W (l.erase k).length (l.erase k)=(r,e):=by
 by_cases c:(Bn W l).length=1
 ·obtain⟨k',hk⟩:=R7 c;have kl:k'∈l:=KD k' (by rw[hk];simp);rw[<- Sm kl,R6 hk]at h;injection h with h1 h2;injection h1 with h1 h3;subst h1;exact⟨hk,by rw[<- h3,<- h2]⟩
 ·rw[R5 c]at h;injection h with h1;cases h1
def sY{W:Nat->Nat->Bool}{l e:LN}(h:nx W l.length l=([],e)):Bn W l=e/\e.length≠1:=by
 by_cases c:(Bn W l).length=1
 ·obtain⟨k',hk⟩:=R7 c;have kl:k'∈l:=KD k' (by rw[hk];simp);rw[<- Sm kl,R6 hk]at h;injection h with h1;cases h1
 ·rw[R5 c]at h;injection h with _ h1;rw[<- h1];exact⟨Y,c⟩
def DQ(d:LS)(cs:List (LS))(p:Int):Int:=(((cs.getD p.toNat []).idxOf (d.getD p.toNat ""):Nat):Int)
def HK(d:LS)(ord:List Int)(cs:List (LS)):List Int:=ord.map (DQ d cs)
theorem g_{α:Type}{fa fb:α->Int}:∀ {ord:List α},(∀ p∈ord,fa p=fb p\/fa p<fb p)->(∃ p∈ord,fa p≠fb p)->HT.lexLt (ord.map fa) (ord.map fb)=true
 | [],_,⟨p,h,_⟩=>nomatch h
 | q :: ord,h,⟨p,hp,BB⟩=>by
  rw[Yo,Yo,HT.lexLt_cons];by_cases e:fa q=fb q
  ·rw[if_pos e];refine g_ (λp hp=>h p (.tail _ hp)) ⟨p,?_,BB⟩;cases hp with
   | head=>exact absurd e BB
   | tail _ hp=>exact hp
  ·rw[if_neg e];exact Jb ((h q (.head _)).resolve_left e)
def Lk{c:LS}{a:Str}(h:a∈c):c[c.idxOf a]?=some a:=by
 have hl:=Wy h;rw[Yb hl,Tn hl]
def lA{rows:RS}{x:Str}{c:LS}(L:EO rows x c){a b:Str}(ha:a∈c)(hb:b∈c)(r:Graph.Reach (Ag rows) a b)(ne:a≠b):c.idxOf a<c.idxOf b:=by
 have ga:=Lk ha;have gb:=Lk hb
 rcases Nat.lt_trichotomy (c.idxOf a) (c.idxOf b)with h | h | h
 ·exact h
 ·rw[h,gb]at ga;injection ga with ga;exact absurd ga.symm ne
 ·refine absurd r (L.2 _ a b ga ?_);obtain⟨hl,e⟩:=Ye.mp gb;rw[<- e];rw[Kk];exact⟨c.idxOf b,by rw[Yx];exact Nat.lt_min.mpr ⟨h,hl⟩,by rw[OG]⟩
def Fj{rows:RS}{ds:List (LS)}{xs:LS}{k:Nat}(h:k∈AO rows ds xs):k<ds.length/\A_ rows xs (ds.getD k [])=true:=by
 unfold AO at h;have:=Yu.mp h;exact⟨Bp.mp this.1,this.2⟩
section
variable {rows:RS}{n:Nat}{ds:List (LS)}{xs:LS}{ord:List Int}{cs:List (LS)}
def Lh(g:AR rows)(gd:BE rows n ds)(gc:BX rows n xs)(L:Dg rows xs ord cs){k i:Nat}(hk:k∈AO rows ds xs)(hi:i<n):∃ d x c,(ds.getD k [])[i]?=some d/\xs[i]?=some x/\cs[i]?=some c/\EO rows x c/\d∈c/\(ds.getD k []).getD i ""=d/\cs.getD i []=c:=by
 obtain⟨kl,wi⟩:=Fj hk;have gk:=gd.call _ (Yc (DZ kl));have h1:i<(ds.getD k []).length:=by rw[gk.len];exact hi
 have h2:i<xs.length:=by rw[gc.len];exact hi
 have h3:i<cs.length:=by rw[L.len];exact h2
 have e1:=Yb h1;have e2:=Yb h2;have e3:=Yb h3;have ln:=L.line i _ _ e2 e3;refine⟨_,_,_,e1,e2,e3,ln,?_,by rw[Yh,e1];rfl,by rw[Yh,e3];rfl⟩;rw[KP]at wi;refine ln.1.mem_iff.mpr ?_;unfold Au;exact Yu.mpr ⟨gk.known _ (KU h1),Dr.mpr (wi i _ _ e2 e1)⟩
def PD(gc:BX rows n xs)(L:Dg rows xs ord cs){p:Int}:p∈ord↔∃ i:Nat,i<n/\p=(i:Nat):=by
 rw[L.ord.mem_iff,gc.len];unfold Ad;rw[Yg];constructor
 ·rintro⟨i,hi,rfl⟩;exact⟨i,Bp.mp hi,Y⟩
 ·rintro⟨i,hi,rfl⟩;exact⟨i,Bp.mpr hi,Y⟩
def mI(g:AR rows)(gd:BE rows n ds)(gc:BX rows n xs)(L:Dg rows xs ord cs){j k:Nat}(hj:j∈AO rows ds xs)(hk:k∈AO rows ds xs)(BB:j≠k)(w:wB rows ds j k=true):HT.lexLt (HK (ds.getD j []) ord cs) (HK (ds.getD k []) ord cs)=true:=by
 unfold wB at w;rw[KP]at w;obtain⟨jl,_⟩:=Fj hj;obtain⟨kl,_⟩:=Fj hk;have gj:=gd.call _ (Yc (DZ jl));have gk:=gd.call _ (Yc (DZ kl));have step:∀ i:Nat,i<n->((ds.getD j []).getD i ""=(ds.getD k []).getD i ""/\DQ (ds.getD j []) cs (i:Nat)=DQ (ds.getD k []) cs (i:Nat))\/DQ (ds.getD j []) cs (i:Nat)<DQ (ds.getD k []) cs (i:Nat):=λi hi=>by
  obtain⟨d1,x1,c1,a1,a2,a3,a4,a5,a6,a7⟩:=Lh g gd gc L hj hi;obtain⟨d2,x2,c2,b1,b2,b3,b4,b5,b6,b7⟩:=Lh g gd gc L hk hi;rw[a3]at b3;injection b3 with b3;subst b3;unfold DQ;rw[Yq,a6,b6,a7];by_cases e:d1=d2
  ·exact .inl ⟨e,by rw[e]⟩
  ·exact .inr (Int.ofNat_lt.mpr (lA a4 a5 b5 (w i _ _ a1 b1) e))
 refine g_ (λp hp=>?_) ?_
 ·obtain⟨i,hi,rfl⟩:=(PD gc L).mp hp
  rcases step i hi with h | h
  ·exact .inl h.2
  ·exact .inr h
 ·refine IE λno=>BB ?_;have all:∀ i:Nat,i<n->(ds.getD j []).getD i ""=(ds.getD k []).getD i "":=λi hi=>by
   rcases step i hi with h | h
   ·exact h.1
   ·exact absurd ⟨(i:Nat),(PD gc L).mpr ⟨i,hi,Y⟩,W⟩ no
  have e:ds.getD j []=ds.getD k []:=List.ext_getElem (gj.len.trans gk.len.symm) λi i1 i2=>by
   have t1:(ds.getD j []).getD i ""=(ds.getD j [])[i]:=by rw[Yh,Yb i1];rfl
   have t2:(ds.getD k []).getD i ""=(ds.getD k [])[i]:=by rw[Yh,Yb i2];rfl
   rw[<- t1,<- t2];exact all i (by rw[<- gj.len];exact i1)
  have e1:=DZ jl;have e2:=DZ kl;rw[e]at e1;obtain⟨l1,q1⟩:=Ye.mp e1;obtain⟨l2,q2⟩:=Ye.mp e2
  rcases Nat.lt_trichotomy j k with h | h | h
  ·exact absurd (q1.trans q2.symm) (MM.mp (Fo.mp gd.nd) j k l1 l2 h)
  ·exact h
  ·exact absurd (q2.trans q1.symm) (MM.mp (Fo.mp gd.nd) k j l2 l1 h)
end
theorem cq{W:Nat->Nat->Bool}{κ:Nat->List Int}:∀(row:LN) {l e R:LN},nx W l.length l=(row,e)->R.Perm l->l.Nodup->R.Pairwise (λa b=>HT.lexLt (κ b) (κ a)=false)->(∀ a∈l,∀ b∈l,a≠b->W a b=true->HT.lexLt (κ a) (κ b)=true)->(∀ l':LN,(∀ k∈l',k∈l)->l'.Nodup->ES W l' (Bn W l'))->R.take row.length=row
 | [],_,_,_,_,_,_,_,_,_=>by rw[QK,FJ]
 | k :: r,l,e,R,h,p,nd,pw,lt,near=>by
  obtain⟨m1,h2⟩:=hY h;have kl:k∈l:=KD k (by rw[m1];exact .head _);have nk:=near l (λ_ z=>z) nd;rw[m1]at nk;cases R with
  | nil=>exact nomatch p.mem_iff.mpr kl
  | cons a R =>
   have ak:a=k:=IE λne=>by
    have hk:k∈R:=(Yw.mp (p.mem_iff.mpr kl)).resolve_left λz=>ne z.symm;have al:a∈l:=p.mem_iff.mp (.head _);obtain⟨k',Cd,h'⟩:=nk.dom a al;rw[Yj.mp Cd]at h';have h1:=lt k kl a al (λz=>ne z.symm) (h'.resolve_left λz=>ne z.symm);rw[(C_.mp pw).1 k hk]at h1;cases h1
   subst ak;rw[Bv,List.take_succ_cons];refine congrArg _ (cq r h2 ?_ (nd.erase a) (C_.mp pw).2 (λa ha b hb=>lt a (MX ha) b (MX hb)) λl' CB FQ=>near l' (λz hz=>MX (CB z hz)) FQ);have:=p.erase a
   rwa [List.erase_cons_head]at this
def Jz(rows:RS)(ds:List (LS))(xs:LS)(ord:List Int)(cs:List (LS))(i:Nat):List Int:=HK (ds.getD ((AO rows ds xs).getD i 0) []) ord cs
def BZ(rows:RS)(ds:List (LS))(xs:LS)(ord:List Int)(cs:List (LS)):LN:=(Ht (O:=Lb) false (Jz rows ds xs ord cs) (AO rows ds xs).length).map λi=>(AO rows ds xs).getD i 0
def pQ(l:LN):((List.range l.length).map λi=>l.getD i 0)=l:=by
 refine List.ext_getElem (by rw[Ya,Df]) λi i1 i2=>?_;rw[List.getElem_map,List.getElem_range,Yh,Yb i2];rfl
def JE(rows:RS)(ds:List (LS))(xs:LS)(ord:List Int)(cs:List (LS)):(BZ rows ds xs ord cs).Perm (AO rows ds xs):=by
 have:=(L3 (O:=Lb) false (Jz rows ds xs ord cs) (AO rows ds xs).length).map λi=>(AO rows ds xs).getD i 0
 rwa [pQ]at this
def VO(rows:RS)(ds:List (LS))(xs:LS)(ord:List Int)(cs:List (LS)):(BZ rows ds xs ord cs).Pairwise (λa b=>HT.lexLt (HK (ds.getD b []) ord cs) (HK (ds.getD a []) ord cs)=false):=by
 unfold BZ;rw[Ka];exact(dS (O:=Lb) false (Jz rows ds xs ord cs) (AO rows ds xs).length).imp λh=>h
def mD(rows:RS)(ds:List (LS))(xs:LS)(ord:List Int)(cs:List (LS)):Fh (O:=Lb) false (Jz rows ds xs ord cs) ((AO rows ds xs).map AF)=(BZ rows ds xs ord cs).map AF:=by
 unfold Fh BZ;rw[Ya,Bo];refine Ki λi hi=>?_;have hi:=Bp.mp ((L3 (O:=Lb) false (Jz rows ds xs ord cs) _).mem_iff.mp hi);show((AO rows ds xs).map AF).getD i V.non=AF ((AO rows ds xs).getD i 0);rw[Yh,Yi,Yb hi,Yh,Yb hi];rfl
def aS{rows:RS}{n:Nat}{ds:List (LS)}{xs:LS}{ord:List Int}{cs:List (LS)}(g:AR rows)(gd:BE rows n ds)(gc:BX rows n xs)(L:Dg rows xs ord cs):
  (BZ rows ds xs ord cs).take (nx (wB rows ds) (AO rows ds xs).length (AO rows ds xs)).1.length=(nx (wB rows ds) (AO rows ds xs).length (AO rows ds xs)).1 :=
 cq (κ:=λk=>HK (ds.getD k []) ord cs) _ (e:=(nx (wB rows ds) (AO rows ds xs).length (AO rows ds xs)).2) rfl (JE _ _ _ _ _) (J6 _ _ _) (VO _ _ _ _ _) (λa ha b hb ne w=>mI g gd gc L ha hb ne w) λl' CB FQ=>bR g gd (λk hk=>(Fj (CB k hk)).1) FQ
def Zt:Sp:=λvs H Q _=>∃(t lu:Addr) (d:LS) (ord:List Int) (cs:List (LS)),vs=[.ref t,.ref lu]/\H t=some (.tup (d.map V.str))/\Dy H lu ord cs/\MF ord cs/\(∀ p∈ord,∃(i:Nat) (z:Str) (c:LS),p=(i:Nat)/\d[i]?=some z/\cs[i]?=some c/\z∈c) /\
 ∀ l H',AA H H'->H' l=some (.lst ((HK d ord cs).map V.int))->Q (.ref l) H'
def Rw(d:LS)(cs:List (LS)):V->V
 | .int p=>.int (DQ d cs p)
 | v=>v
theorem ag(d:LS)(cs:List (LS)):∀ ord:List Int,((ord.map V.int).filter λ_=>true).map (Rw d cs)=(HK d ord cs).map V.int
 | []=>rfl
 | p :: r=>by
  show V.int (DQ d cs p):: ((r.map V.int).filter λ_=>true).map (Rw d cs)=_;rw[ag d cs r];rfl
def sM:(["place","lineup","deed"]:LS).Nodup:=by rfl'
def ZX{H:Hp}{cs:List (LS)}{vs:LV}(h:Ho H cs vs){i:Nat}{c:LS}(hc:cs[i]?=some c):∃ t,vs[i]?=some (.ref t)/\H t=some (.lst (c.map V.str)):=by
 have hl:=Bl h;have hi:i<vs.length:=by have:=(Ye.mp hc).1;omega
 obtain⟨c',BL,t,e,ht⟩:=C0 h (Yb hi);rw[hc]at BL;injection BL with BL;exact⟨t,by rw[Yb hi,e],by rw[BL];exact ht⟩
def cG{c:LS}{z:Str}:∀ {m:Nat}{y:Str},m<c.idxOf z->c[m]?=some y->y≠z:=λ{m y} hm hy e=>by
 induction c generalizing m with
 | nil=>cases hy
 | cons x c ih =>
  rw[MR]at hm;by_cases hx:x=z
  ·rw[show(x == z)=true from by rw[hx];exact beq_self_eq_true _]at hm;exact absurd hm (Nat.not_lt_zero _)
  ·rw[show(x == z)=false from JL.mpr hx]at hm;cases m with
   | zero=>injection hy with hy;exact hx (hy.trans e)
   | succ m=>exact ih (m:=m) (by have:m + 1<c.idxOf z + 1:=hm;omega) hy
def FA{xs:LV}{v:Int}{x:V}(h0:0<=v)(h:xs[v.toNat]?=some x):BS xs v=some x:=by
 have e:((v.toNat:Nat):Int)=v:=by omega
 have:=EB h;rw[e]at this;exact this
def tU{X:Cx}{K:Fg}{T id:String}{name:Str}{r:V->LV->Hp->VK->Prop}{o e:Expr}{es:List Expr}{to:TE}{t:TA}{apos Ac:Pos}(hK:X.K=K)(pa:PySem.PlainAttrs T)(slot:Slot T name id)(hty:typeOf (.builtin id)=pure (.type "method_descriptor"))(hm:W7 X id r)(ho:PE X o to)(ha:PA X (e :: es) t)
  (Ck:attributeBase o name X.env (eval o X.env)=eval o X.env:=by rfl)
  (hfew:((backTo Ac (starEach (e :: es) X.env)).all (λx=>!x.1)&&(backToKw Ac (keywordEach [] X.env)).all (λx=>x.1.isSome)
   && decide ((e :: es).length + ([]:List Keyword).length + (if([]:List Keyword).isEmpty then 0 else 1)<30))=true:=by rfl)
  (Cj:(apos.endLine == Ac.line)=true:=by rfl) (hs:starEach (e :: es) X.env=(false,eval e X.env):: starEach es X.env:=by rfl) (hplain:(backTo Ac (starEach es X.env)).any (·.1)=false:=by rfl):
  PE X (.Call (.Attribute o name apos) (e :: es) [] Ac) (Xo K T r to t):=by
 subst hK;exact C7 pa slot hty hm ho ha Ck hfew Cj hs hplain
abbrev MI:LS:=["deed","lineup"]
def gT:Ab MI MI (AK PJ):=by nofun
def lX(F:Def K mg "spots" PJ MI f fd):⋯ 1 f fd MI Zt:=by
 nomatch F.fn.ok gT
 ·obtain⟨t,lu,d,ord,cs,rfl,_⟩:=h;rfl
 ·obtain⟨t,lu,d,ord,cs,rfl,ht,⟨lo,ll,us,hlu,hlo,hll,hL⟩,ok,pl,q⟩:=h;have nd:=gT.nd
  ac_nf
  refine'⟨_,AG (AS ?e1),?_⟩
  case e1 =>
   refine' BC ["place"] ["lineup","deed"] [1,0] (λ_=>A4 (osc:=AK PJ) (on:=MI) (by rfl') rfl rfl rfl) (Be (AV (r:=BN K) BQ (pv 1) AI (λ_ _=>rfl))) (λC s H fp=>Ay (i:=0) sM rfl (Or.inl rfl) (Or.inr rfl)) (λC s H fp=>B6) ?em
   case em=>exact(λC s H fp=>tU (r:=Zn K) rfl C1 Ts W0 (Vs (Te hr)) (AV (r:=BV K) Ar (AV (r:=BN K) BQ (pv 1) AI (λ_ _=>rfl)) (pv 0) (λ_ _=>rfl)) (pC (AV (r:=BN K) BQ (pv 2) (pv 0) (λ_ _=>rfl)) AB))
  have few:=ok.few;refine⟨Z,lu,_,_,Z,Y,AL.of hlu,Y,lo,Y,⟨_,SqL.of hlo⟩,EY (Bk (xs:=ord.map V.int)) (sL (by rw[Ya];omega)) (λ_=>true) (Rw d cs) (λH' s'=>s'.seq (SqL.of hlo)) ?_ ?_ ?_⟩
  ·intro v H' R s' _ Ae;exact Ae H' (AA.refl _)
  ·intro v H' R s' hv _ Ae;obtain⟨p,hp,rfl⟩:=Yg.mp hv;obtain⟨i,z,c,rfl,hz,hc,hzc⟩:=pl p hp;obtain⟨tc,htc,hcc⟩:=ZX (hL.mono s') hc;obtain⟨cok,clen⟩:=ok.txt c (Yc hc);have JW:BS us ((i:Nat):Int)=some (.ref tc):=FA (Kf _) (by rw[Yq];exact htc);have Mq:BS (d.map V.str) ((i:Nat):Int)=some (.str z):=FA (Kf _) (by rw[Yq,Yi,hz];rfl);have el:(c.map W.Dat.str).all (W.kqdOk 8)=true:=by
    rw[Cr];intro e he;obtain⟨y,hy,rfl⟩:=Yg.mp he;exact cok y hy
   refine⟨Z,lu,_,_,Z,Y,AL.of (s' _ _ hlu),Y,Z,ll,_,_,Z,Y,SqL.of (s' _ _ hll),JW,.inl ⟨Y,_,SqL.of hcc⟩,Z,Z,t,_,_,Z,Y,AL.of (s' _ _ ht),Mq,_,.str z,_,c.idxOf z,.str z,Y,.list (SqL.of hcc) (Ga _),.str _,el,cok z hzc,Q,by rw[Yi,Lk hzc];rfl,EZ _,λm e hm he=>?_,?_⟩
   ·obtain⟨y,hy,rfl⟩:=Lv he;exact GV λq=>cG hm hy (by injection q)
   ·have es:Rw d cs (.int ((i:Nat):Int))=.int ((c.idxOf z:Nat):Int):=by
     show V.int (DQ d cs (i:Nat))=_;unfold DQ;have e1:cs.getD i []=c:=by rw[Yh,hc];rfl
     have e2:d.getD i ""=z:=by rw[Yh,hz];rfl
     rw[Yq,e1,e2]
    rw[es]at Ae;exact Ae H' (AA.refl _)
  ·intro D H' hD s' hl;rw[ag]at hl;exact q D H' s' hl
def BA.monoT{C T:Addr}{H H':Hp}{p:Addr}{rows:RS}(h:BA C H p rows)(hT:∃ ps,H T=some (.tbl ps))(s:BW T H H'):BA C H' p rows:=by
 obtain⟨ps,hT⟩:=hT;obtain⟨dx,d,a,o,oa,kvs,AJ,h1,h2,h3,h4⟩:=h.ex;have k:∀ b u,(∀ ps,u≠.tbl ps)->H b=some u->H' b=some u:=λb u hn e=>s b u (λz=>by rw[z,hT]at e;cases e;exact hn _ rfl) e;exact⟨dx,d,a,o,oa,kvs,AJ,k _ _ (λ_ z=>nomatch z) h1,⟨k _ _ (λ_ z=>nomatch z) h2.at_,h2.ups.mono λ_ _ e=>k _ _ (λ_ z=>nomatch z) e⟩,k _ _ (λ_ z=>nomatch z) h3,h4.mono λ_ _ _ e=>k _ _ (λ_ z=>nomatch z) e⟩
def U3{T b:Addr}{H:Hp}{o:HO}(hT:∃ ps,H T=some (.tbl ps))(e:H b=some o)(n:∀ ps,o≠.tbl ps):b≠T:=λz=>by
 obtain⟨ps,hT⟩:=hT;rw[z,hT]at e;cases e;exact n _ rfl
def Bg.okL{P:Program}{w:World}{K:Fg}{mg:Str->OU}{base:Heap}{x qual:Str}{st:Stmt}{N ps:LS}{k:Nat}{sp:Sp}(F:Bg K x qual st f fd)(hc:fd.code=.ref c)(S:Ab N ps (AK st))(len:∀ vs H Q E,sp vs H Q E->vs.length=ps.length)
  (hbody:∀(A:Around) (outer:List Env) (s:Shared) (H:Hp) (vs:LV) (Q:VK) (E:XK),AU k (A.deeper (PyProof.Rows.envOfC qual (AK st) s.heap.objs.size f (.ref c)))->sp vs H Q E ->
   ∃ t,CF (ME JR P w K mg base N qual (AK st) f (.ref c) A outer s H E).nox (CY st) t/\t {nx:=λ_ H'=>Q .non H',rt:=Q} (start N vs) H):⋯ (k + 1) f fd ps sp:=by
 obtain⟨oc,od,kV,doc,pm,an,Av,ct,osl,rfl,lk,hcd⟩:=F.ex;have hc:Av=.ref c:=hc;subst hc;refine gN lk hcd S len λA outer s H vs Q E hr hsp=>?_;obtain⟨t,h,q⟩:=hbody A outer s H vs Q E hr hsp;exact⟨t,h.nox,q⟩
def D8{T:Addr}{H H':Hp}(hT:∃ ps,H T=some (.tbl ps))(s:BW T H H'){b:Addr}{u:HO}(e:H b=some u)(n:∀ ps,u≠.tbl ps):H' b=some u:=s b u (U3 hT e n) e
def Ho.monoT{T:Addr}{H H':Hp}{cs:List (LS)}{vs:LV}(h:Ho H cs vs)(hT:∃ ps,H T=some (.tbl ps))(s:BW T H H'):Ho H' cs vs:=Paired.mapP h λ_ _ ⟨t,e,x⟩=>⟨t,e,D8 hT s x λ_ z=>nomatch z⟩
theorem Dy.monoT{T:Addr}{H H':Hp}{t:Addr}{ord:List Int}{cs:List (LS)}(h:Dy H t ord cs)(hT:∃ ps,H T=some (.tbl ps))(s:BW T H H'):Dy H' t ord cs:=by
 obtain⟨lo,ll,vs,h1,h2,h3,h4⟩:=h;exact⟨lo,ll,vs,D8 hT s h1 (λ_ z=>nomatch z),D8 hT s h2 (λ_ z=>nomatch z),D8 hT s h3 (λ_ z=>nomatch z),h4.monoT hT s⟩
abbrev dv:Str:="ranked.<locals>.<lambda>"
def uN:("ranked":Str)++(".<locals>.":Str)++("<lambda>":Str)=dv:=by rfl'
abbrev L9(T:Addr)(lp:Pos)(H:Hp):Prop:=Dq H T lp dv
structure ia(C B T:Addr)(lp:Pos)(H:Hp)(p t lu:Addr)(rows:RS)(n:Nat)(ds:List (LS))(xs:LS)(ord:List Int)(cs:List (LS)):Prop where
 bd:∃ k,B0 C B H p k rows n ds
 g:AR rows
 gd:BE rows n ds
 n4:n<=4
 d24:ds.length<=24
 ht:H t=some (.tup (xs.map V.str))
 gc:BX rows n xs
 lu:Dy H lu ord cs
 ok:MF ord cs
 is:Dg rows xs ord cs
 tab:L9 T lp H
def VE(C B T:Addr)(lp:Pos):Sp:=λvs H Q _=>∃(p t lu:Addr) (rows:RS) (n:Nat) (ds:List (LS)) (xs:LS) (ord:List Int) (cs:List (LS)),vs=[.ref p,.ref t,.ref lu]/\ia C B T lp H p t lu rows n ds xs ord cs /\
 ∀ l H',H l=none->BW T H H'->L9 T lp H'->H' l=some (.lst ((BZ rows ds xs ord cs).map AF))->Q (.ref l) H'
def VS(C B T:Addr)(lp:Pos):Sp:=λvs H Q _=>∃(p t lu:Addr) (rows:RS) (n:Nat) (ds:List (LS)) (xs:LS) (ord:List Int) (cs:List (LS)),vs=[.ref p,.ref t,.ref lu]/\ia C B T lp H p t lu rows n ds xs ord cs /\
 ∀ H',BW T H H'->L9 T lp H'->Q (match (BZ rows ds xs ord cs)with | []=>.non | k :: _=>AF k) H'
def La{T D:Addr}{H H1:Hp}(hT:∃ ps,H T=some (.tbl ps))(h1:BW T H H1)(F2:∃ ps,H1 T=some (.tbl ps))(hD:H1 D=none):H D=none:=by
 cases e:H D with
 | none=>rfl
 | some u =>
  obtain⟨ps,F2⟩:=F2;by_cases z:D=T
  ·rw[z,F2]at hD;cases hD
  ·rw[h1 D u z e]at hD;cases hD
abbrev EN:LS:=["board","call","lineup"]
abbrev X4:LS:=["board","call","lineup","deeds"]
def fG:Ab X4 EN (AK Lp):=by nofun
def oA:∃ lp:Pos,∀ {f C B T c fI fF fD fS:Addr}{fd fdI fdF fdD fdS:FuncData}(F:Def K mg "ranked" Lp EN f fd) (hc:fd.code=.ref c) (LT:LM mg base c T) (srt:mg "sorted"=none) (list:mg "list"=none) (TB:E_ K B) (MD:Nf K B fD fdD)
  (DI:Def K mg "is_lineup" Pu EN fI fdI) (GI:⋯ 7 fI fdI EN (iD C B)) (DF:Def K mg "fitting" Lz ["board","call"] fF fdF) (GF:⋯ 5 fF fdF ["board","call"] (Sj C B)) (DS:Def K mg "spots" PJ MI fS fdS),⋯ 8 f fd EN (VE C B T lp):=by
 apply Exists.intro
 ·intro f C B T c fI fF fD fS fd fdI fdF fdD fdS F hc LT srt list TB MD DI GI DF GF DS;have GD:⋯ 1 fD fdD ["self"] (Lr C B):=Nv MD.fn TB list;have GS:⋯ 1 fS fdS MI Zt:=lX DS;refine Bg.okL F.fn hc fG (λvs H Q E h=>?_) (λA outer s H vs Q E hr h=>?_)
  ·obtain⟨p,t,lu,rows,n,ds,xs,ord,cs,rfl,_⟩:=h;rfl
  ·obtain⟨p,t,lu,rows,n,ds,xs,ord,cs,rfl,ask,q⟩:=h;have nd:=fG.nd;have Ah:AU 1 _:=hr.mono (by decide);have Fz:AU 5 _:=hr.mono (by decide);have hrL:∀ env:Env,AU 1 ((A.deeper (PyProof.Rows.envOfC "ranked" (AK Lp) s.heap.objs.size f (.ref c))).in1.in1.deeper env):=λenv=>(AU.deeper (AU.in1 (AU.in1 hr)) env).mono (by decide)
   ac_nf
   refine'⟨_,(pS (Aj (CV (B7 (AN DI GI hr (pC (pv 0) (pC (pv 1) (pC (pv 2) AB)))))) EC Al)
   (pS (B1 (i:=3) nd rfl (Or.inr rfl) (C8 (pv 0) TB.cl MD.me GD Ah MD.b .nil A3))
   (AG (AS (ma ["deeds","lineup"] [3,2] rfl (by rfl) srt (AN DF GF Fz (pC (pv 0) (pC (pv 1) AB))) LT rfl uN (aO (osc:=AK Lp) (on:=X4) (x:="number") (by rfl')) (QR (A7 (Fp _ _) (Fp _ _)) hr.dp) (AU.in1 (AU.in1 hr)).units0
     (λf' c' cl s' H'=>AN DS GS (hrL _) (pC (AV (r:=BV K) Ar (pv 1) (pv 0) (λ_ _=>rfl)) (pC (pv 2) AB)))))))),?_⟩
   exists let b:=AE _ a;AE _ b _ _ _
   obtain⟨⟨k,bd⟩,g,gd,n4,d24,ht,gc,hlu,lok,lup,hT⟩:=ask;have fl:=PZ rows ds xs;refine⟨Z,Z,Z,p,k,t,lu,O,xs,ord,cs,Y,bd,g,n4,ht,gc,hlu,lok,λv H1 s1 hv=>?_⟩;rw[hv.mpr lup];obtain⟨dx,ts,us,h1,h2,h3,h4⟩:=bd.ex;refine⟨Z,Ao ⟨Z,p,dx,Z,s1 _ _ h1,Lw _ _ _,p,k,O,Y,bd.mono s1,λld JX hld hD=>?_⟩⟩;have s2:AA H1 (upd H1 ld (.lst JX)):=A6 hld;have CQ:(upd H1 ld (.lst JX)) ld=some (.lst JX):=uS;generalize upd H1 ld (.lst JX)=H2 at s2 CQ;have Bq:=s1.trans s2;have G5:=hD.mono s2;refine⟨Z,Z,p,k,t,O,xs,Y,bd.mono Bq,g,gd,n4,Bq _ _ ht,gc,λl H3 hl s3 Bm=>?_⟩;have Az:=Bq.trans s3;refine⟨l,_,Jz rows ds xs ord cs,n,Y,SqL.of Bm,Q,hT.mono Az,λH4 sm Oq=>⟨λi v H5 hi s5=>?_,λD H5 NF s5 Qw=>?_⟩⟩
   ·have tb:=(hT.mono Az).tbl;obtain⟨m,hm,rfl⟩:=Lv hi;have hmf:=Yc hm;obtain⟨ml,mw⟩:=Fj hmf;obtain⟨tm,hat,htm⟩:=IA (G5.mono s3) (AA.refl _) ml;have XE:=s5 _ _ (D8 tb sm htm (λ_ z=>nomatch z));refine⟨Z,Z,ld,_,_,Z,Y,SqL.of (s5 _ _ (D8 tb sm (s3 _ _ CQ) (λ_ z=>nomatch z))),hat,Z,tm,lu,_,ord,cs,Y,XE,((hlu.mono Az).monoT tb sm).mono s5,lok,λpl hpl=>?_,λl6 H6 s6 Of=>⟨s6,?_,l6,Y,?_⟩⟩
    ·obtain⟨i',CK,rfl⟩:=(PD gc lup).mp hpl;obtain⟨d,x,c,a1,a2,a3,a4,a5,a6,a7⟩:=Lh g gd gc lup hmf CK;exact⟨i',d,c,Y,a1,a3,a5⟩
    ·unfold Jz HK;rw[Ya,lup.ord.length_eq];unfold Ad;rw[Ya,Df,gc.len]
    ·unfold Jz;have e:(AO rows ds xs).getD i 0=m:=by rw[Yh,hm];rfl
     rw[e];exact Of
   ·rw[show(AO rows ds xs).map (λi=>V.int (i:Nat))=(AO rows ds xs).map AF from rfl,mD]at Qw;have sT:=(Az.t (P:=T)).trans sm;exact q D H5 (La hT.tbl sT Oq.tbl NF) (sT.trans s5.t) (Oq.mono s5) Qw
def fV:Ab ["board","call","lineup","ranks"] EN (AK PK):=by nofun
def mU{lp:Pos}(F:Def K mg "taken" PK EN f fd)(DR:Def K mg "ranked" Lp EN fR fdR)(GR:⋯ 8 fR fdR EN (VE C B T lp)):⋯ 9 f fd EN (VS C B T lp):=by
 nomatch F.fn.ok fV
 ·obtain⟨p,t,lu,rows,n,ds,xs,ord,cs,rfl,_⟩:=h;rfl
 ·obtain⟨p,t,lu,rows,n,ds,xs,ord,cs,rfl,ask,q⟩:=h;have nd:=fV.nd
  ac_nf
  refine'⟨_,(pS (sE 3 nd (AN DR GR hr (pC (pv 0) (pC (pv 1) (pC (pv 2) AB)))))
   (AG (AS (a0 (Sd (pv 3) (λ_=>rfl)) (AV (r:=BV K) Ar (pv 3) AI (λ_ _=>rfl)) Na)))),?_⟩
  exists AE _ a _ _ _
  refine⟨Z,Z,Z,p,t,lu,O,xs,ord,cs,Y,ask,λl H1 hl s1 F2 Aq=>?_⟩;have q1:=q H1 s1 F2;cases e:BZ rows ds xs ord cs with
  | nil =>
   rw[e]at Aq q1;exact⟨Z,false,.inl ⟨_,SqL.of Aq,Y⟩,Ao q1⟩
  | cons m r =>
   rw[e]at Aq q1;exact⟨Z,true,.inl ⟨_,SqL.of Aq,Y⟩,By ⟨Z,l,_,_,AF m,Y,Y,SqL.of Aq,FA (Int.le_refl _) rfl,q1⟩⟩
def VR:Sp:=λvs H Q _=>∃(aa ld t:Addr) (n:Nat) (rows:RS) (AJ:KL) (ds:List (LS)) (us:LV) (xs:LS),vs=[.ref aa,.ref ld,.ref t]/\AR rows/\H aa=some (.dK AJ)/\Bu H rows rows AJ/\H ld=some (.lst us)/\A0 H ds us/\BE rows n ds/\H t=some (.tup (xs.map V.str))/\BX rows n xs/\n<=4 /\
 ∀ l H',H l=none->AA H H'->H' l=some (.lst ((AO rows ds xs).map AF))->Q (.ref l) H'
def u_:(["k","above","call","deeds"]:LS).Nodup:=by rfl'
structure eZ(mg:Str->OU):Prop where
 len:mg "len"=none
 range:mg "range"=none
 any:mg "any"=none
abbrev Ip:LS:=["above","deeds","call"]
def fq:Ab Ip Ip (AK N6):=by nofun
def lR(F:Def K mg "_law_fits" N6 Ip f fd)(T:eZ mg)(DLW:Def K mg "_law_within" P0 K6 fLW fdLW)(GLW:⋯ 1 fLW fdLW K6 bc):⋯ 2 f fd Ip VR:=by
 nomatch F.fn.ok fq
 ·obtain⟨aa,ld,t,n,rows,AJ,ds,us,xs,rfl,_⟩:=h;rfl
 ·obtain⟨aa,ld,t,n,rows,AJ,ds,us,xs,rfl,g,Ce,hA,hld,hD,gd,ht,gc,hn,q⟩:=h;have nd:=fq.nd;have hul:=hD.length;have few:=gd.few;refine'⟨_,AG (AS ?e1),?_⟩
  case e1=>exact(BC ["k"] ["above","call","deeds"] [0,2,1] (λ_=>A4 (osc:=AK N6) (on:=Ip) (by rfl') rfl rfl rfl) (FF (by rfl) T.range (pC (Af CC (by rfl) T.len Yz (pC (pv 1) AB)) AB)) (λC s H fp=>Ay (i:=0) u_ rfl (Or.inl rfl) (Or.inr rfl))
    (λC s H fp=>EX (B7 (AN DLW GLW hr (pC (pv 1) (pC (pv 2) (pC (AV (r:=BV K) Ar (pv 3) (pv 0) (λ_ _=>rfl)) AB)))))) (λC s H fp=>pv 0))
  refine⟨Z,ld,Z,.inl (SqL.of hld),Z,W,W,EY Es (by rw[Ca];exact sL (by omega)) (WU rows ds xs) (λv=>v) (λ_ _=>trivial) ?_ ?_ ?_⟩
  ·intro x H' R s' hx hR;obtain⟨j,hj⟩:=Gj hx;obtain⟨hj,rfl⟩:=Ds hj;have hj:j<ds.length:=by omega
   obtain⟨tq,a1,htq⟩:=IA hD s' hj;refine⟨Z,Z,Z,Z,ld,_,_,Z,Y,SqL.of (s' _ _ hld),(by rw[FL];exact a1),aa,t,tq,rows,AJ,xs,Z,g,s' _ _ Ce,hA.mono λb xs e=>s' _ _ e,s' _ _ ht,htq,gc.known,by have:=gc.len;omega,λBH BR=>⟨Z,?_⟩⟩;have e:WU rows ds xs (V.int (0 + (j:Nat)))=A_ rows xs (ds.getD j []):=by
    show A_ rows xs (ds.getD ((0:Int) + (j:Nat)).toNat [])=_;rw[FL,Yq]
   rw[<- e];exact hR BH BR
  ·intro x H' R s' hx _ hR;exact⟨Z,hR H' (AA.refl _)⟩
  ·intro lf H1 hlf s1 Oi;rw[show((us.length:Nat):Int).toNat=ds.length by omega,uF]at Oi;exact q lf H1 hlf s1 Oi
abbrev B2(ds:List (LS))(ord:List Int)(cs:List (LS))(k:Nat):List Int:=HK (ds.getD k []) ord cs
theorem cA{κ:Nat->List Int}:∀ {A B:LN},A.Perm B->A.Pairwise (λa b=>HT.lexLt (κ a) (κ b)=true)->B.Pairwise (λa b=>HT.lexLt (κ b) (κ a)=false)->A=B
 | [],B,p,_,_=>(List.nil_perm.mp p).symm
 | a :: A,[],p,_,_=>nomatch p.mem_iff.mp (.head _)
 | a :: A,b :: B,p,pa,pb=>by
  have e:a=b:=IE λne=>by
   have h1:a∈B:=(Yw.mp (p.mem_iff.mp (.head _))).resolve_left ne;have h2:b∈A:=(Yw.mp (p.mem_iff.mpr (.head _))).resolve_left λz=>ne z.symm;have q1:=(C_.mp pa).1 b h2;rw[(C_.mp pb).1 a h1]at q1;cases q1
  subst e;rw[cA p.cons_inv (C_.mp pa).2 (C_.mp pb).2]
def ZN{c:LS}{a b:Str}(ha:a∈c)(hb:b∈c)(h:c.idxOf a=c.idxOf b):a=b:=by
 have ga:=Lk ha;rw[h,Lk hb]at ga;injection ga with ga;exact ga.symm
section
variable {rows:RS}{n:Nat}{ds:List (LS)}{xs:LS}{ord:List Int}{cs:List (LS)}
def iM(g:AR rows)(gd:BE rows n ds)(gc:BX rows n xs)(L:Dg rows xs ord cs){j k:Nat}(hj:j∈AO rows ds xs)(hk:k∈AO rows ds xs){p:Int}(hp:p∈ord):
  ∃(i:Nat) (z1 z2:Str) (c:LS),p=(i:Nat)/\i<n/\(ds.getD j [])[i]?=some z1/\(ds.getD k [])[i]?=some z2/\cs[i]?=some c/\z1∈c/\z2∈c/\DQ (ds.getD j []) cs p=(c.idxOf z1:Nat)/\DQ (ds.getD k []) cs p=(c.idxOf z2:Nat):=by
 obtain⟨i,hi,rfl⟩:=(PD gc L).mp hp;obtain⟨d1,x1,c1,a1,a2,a3,a4,a5,a6,a7⟩:=Lh g gd gc L hj hi;obtain⟨d2,x2,c2,b1,b2,b3,b4,b5,b6,b7⟩:=Lh g gd gc L hk hi;rw[a3]at b3;injection b3 with b3;subst b3;refine⟨i,d1,d2,c1,Y,hi,a1,b1,a3,a5,b5,?_,?_⟩
 ·unfold DQ;rw[Yq,a6,a7]
 ·unfold DQ;rw[Yq,b6,a7]
def rj(g:AR rows)(gd:BE rows n ds)(gc:BX rows n xs)(L:Dg rows xs ord cs){j k:Nat}(hj:j∈AO rows ds xs)(hk:k∈AO rows ds xs)(e:B2 ds ord cs j=B2 ds ord cs k):j=k:=by
 obtain⟨jl,_⟩:=Fj hj;obtain⟨kl,_⟩:=Fj hk;have gj:=gd.call _ (Yc (DZ jl));have gk:=gd.call _ (Yc (DZ kl));have e:ord.map (DQ (ds.getD j []) cs)=ord.map (DQ (ds.getD k []) cs):=e;have ed:ds.getD j []=ds.getD k []:=List.ext_getElem (gj.len.trans gk.len.symm) λi i1 i2=>by
  have hp:((i:Nat):Int)∈ord:=(PD gc L).mpr ⟨i,by rw[<- gj.len];exact i1,Y⟩;obtain⟨i',z1,z2,c,ei,_,h1,h2,_,m1,m2,s1,s2⟩:=iM g gd gc L hj hk hp;have ei:i=i':=by omega
  subst ei;have es:=List.map_inj_left.mp e _ hp;rw[s1,s2]at es;have ez:=ZN m1 m2 (by omega);rw[Yb i1]at h1;rw[Yb i2]at h2;injection h1 with h1;injection h2 with h2;rw[h1,h2,ez]
 have e1:=DZ jl;have e2:=DZ kl;rw[ed]at e1;exact(List.getElem?_inj jl gd.nd).mp (e1.trans e2.symm)
end
structure QU(H:Hp)(ld lu:Addr)(rows:RS)(n:Nat)(ds:List (LS))(us:LV)(xs:LS)(ord:List Int)(cs:List (LS)):Prop where
 g:AR rows
 gd:BE rows n ds
 d24:ds.length<=24
 gc:BX rows n xs
 hld:H ld=some (.lst us)
 hD:A0 H ds us
 lu:Dy H lu ord cs
 ok:MF ord cs
 is:Dg rows xs ord cs
theorem QU.mono{H H':Hp}{ld lu:Addr}{rows:RS}{n:Nat}{ds:List (LS)}{us:LV}{xs:LS}{ord:List Int}{cs:List (LS)}(h:QU H ld lu rows n ds us xs ord cs)(s:AA H H'):QU H' ld lu rows n ds us xs ord cs :=
 ⟨h.g,h.gd,h.d24,h.gc,s _ _ h.hld,h.hD.mono s,h.lu.mono s,h.ok,h.is⟩
def gX:Sp:=λvs H Q _=>∃(ld lu:Addr) (j k:Nat) (rows:RS) (n:Nat) (ds:List (LS)) (us:LV) (xs:LS) (ord:List Int) (cs:List (LS)),vs=[.ref ld,.int j,.int k,.ref lu]/\QU H ld lu rows n ds us xs ord cs/\j∈AO rows ds xs/\k∈AO rows ds xs /\
 ∀ H',AA H H'->Q (.bl (HT.lexLt (B2 ds ord cs j) (B2 ds ord cs k))) H'
def gg:Sp:=λvs H Q _=>∃(ld lf lu:Addr) (rows:RS) (n:Nat) (ds:List (LS)) (us:LV) (xs:LS) (ord:List Int) (cs:List (LS)),vs=[.ref ld,.ref lf,.ref lu]/\QU H ld lu rows n ds us xs ord cs/\H lf=some (.lst ((AO rows ds xs).map AF)) /\
 ∀ l H',H l=none->AA H H'->H' l=some (.lst ((BZ rows ds xs ord cs).map AF))->Q (.ref l) H'
abbrev jV:LS:=["deeds","one","other","lineup","place","low","high"]
abbrev QD:LS:=["deeds","one","other","lineup"]
def eI:Ab jV QD (AK S4):=by nofun
def n_(F:Def K mg "_law_ahead" S4 QD f fd):⋯ 1 f fd QD gX:=by
 nomatch F.fn.ok eI
 ·obtain⟨ld,lu,j,k,rows,n,ds,us,xs,ord,cs,rfl,_⟩:=h;rfl
 ·obtain⟨ld,lu,j,k,rows,n,ds,us,xs,ord,cs,rfl,⟨g,gd,d24,gc,hld,hD,⟨lo,ll,vs,hlu,hlo,hll,hL⟩,ok,lup⟩,hj,hk,q⟩:=h;have nd:=eI.nd;have ix:∀(i:Nat) (hi:i=5\/i=6),True:=λ_ _=>trivial
  ac_nf
  refine'⟨_,(pS (Bt Ys rfl (Be (AV (r:=BN K) BQ (pv 3) AI (λ_ _=>rfl))) (gE 4 nd)
    (pS (sE 5 nd (AV (r:=BN K) BQ (AV (r:=BV K) Ar (pv 0) (pv 1) (λ_ _=>rfl)) (pv 4) (λ_ _=>rfl)))
   (pS (sE 6 nd (AV (r:=BN K) BQ (AV (r:=BV K) Ar (pv 0) (pv 2) (λ_ _=>rfl)) (pv 4) (λ_ _=>rfl)))
   (AG (Aj (Am F9 (pv 5) (pv 6) (Ak _)) (AG (AS (Hz NV (C7 C1 Ts W0 (Vs (Te hr)) (AV (r:=BV K) Ar (AV (r:=BN K) BQ (pv 3) AI (λ_ _=>rfl)) (pv 4) (λ_ _=>rfl)) (pC (pv 5) AB)) (C7 C1 Ts W0 (Vs (Te hr)) (AV (r:=BV K) Ar (AV (r:=BN K) BQ (pv 3) AI (λ_ _=>rfl)) (pv 4) (λ_ _=>rfl)) (pC (pv 6) AB)) (Ak _)))) Al)))))
   (AG (AS CU))),?_⟩
  exists let b:=_;let c:=D0 _ b _;let e:=AE _ c;let f:=AE _ e;AE (Bz _ _ f) a _ _ _
  have few:=ok.few;obtain⟨jl,_⟩:=Fj hj;obtain⟨kl,_⟩:=Fj hk;obtain⟨tj,aj,htj⟩:=IA hD (AA.refl _) jl;obtain⟨tk,ak,htk⟩:=IA hD (AA.refl _) kl;let BG:NW:=λi σ H'=>∃(x4 x5 x6:OV),σ=[some (.ref ld),some (.int j),some (.int k),some (.ref lu),x4,x5,x6]/\AA H H'/\HT.lexLt (B2 ds ord cs j) (B2 ds ord cs k)=HT.lexLt ((B2 ds ord cs j).drop i) ((B2 ds ord cs k).drop i);refine⟨Z,lu,_,_,Z,Y,AL.of hlu,Y,lo,Y,⟨_,SqL.of hlo⟩,B8 (Bk (xs:=ord.map V.int)) BG
   ⟨none,none,none,Y,AA.refl _,Y⟩ (λi σ H' _ h0=>by obtain⟨_,_,_,_,s',_⟩:=h0;exact SqL.of (s' _ _ hlo)) ?_ ?_⟩
  ·rintro i v σ H' hi ⟨x4,x5,x6,rfl,s',he⟩;obtain⟨p,hp,rfl⟩:=Lv hi;obtain⟨i',z1,z2,c,rfl,_,h1,h2,hc,m1,m2,e1,e2⟩:=iM g gd gc lup hj hk (Yc hp);have k1:(B2 ds ord cs j)[i]?=some ((c.idxOf z1:Nat):Int):=by rw[<- e1];show(ord.map _)[i]?=_;rw[Yi,hp];rfl
   have k2:(B2 ds ord cs k)[i]?=some ((c.idxOf z2:Nat):Int):=by rw[<- e2];show(ord.map _)[i]?=_;rw[Yi,hp];rfl
   rw[HT.lex_drop k1 k2]at he;have Ru:BS ((ds.getD j []).map V.str) ((i':Nat):Int)=some (.str z1):=FA (Kf _) (by rw[Yq,Yi,h1];rfl);have at2:BS ((ds.getD k []).map V.str) ((i':Nat):Int)=some (.str z2):=FA (Kf _) (by rw[Yq,Yi,h2];rfl);refine⟨Z,Z,ld,_,_,Z,Y,SqL.of (s' _ _ hld),aj,Z,tj,_,_,Z,Y,AL.of (s' _ _ htj),Ru,?_⟩;refine⟨Z,Z,ld,_,_,Z,Y,SqL.of (s' _ _ hld),ak,Z,tk,_,_,Z,Y,AL.of (s' _ _ htk),at2,?_⟩;refine⟨Z,Z,Y,Z,?_⟩;have ez:decide (V.str z1=V.str z2)=decide (z1=z2):=OE.mpr ⟨λq=>by injection q,λq=>by rw[q]⟩;rw[ez];by_cases z:z1=z2
   ·rw[Jb z];rw[if_pos (by rw[z])]at he;exact Ao ⟨_,_,Z,s',he⟩
   ·rw[Jc z];rw[if_neg (λq=>z (ZN m1 m2 (by omega)))]at he;obtain⟨tc,htc,hcc⟩:=ZX (hL.mono s') hc;obtain⟨cok,clen⟩:=ok.txt c (Yc hc);have JW:BS vs ((i':Nat):Int)=some (.ref tc):=FA (Kf _) (by rw[Yq];exact htc);have el:(c.map W.Dat.str).all (W.kqdOk 8)=true:=by
     rw[Cr];intro e he;obtain⟨y,hy,rfl⟩:=Yg.mp he;exact(cok y hy)
    have bef:∀ {z:Str},∀ m e,m<c.idxOf z->(c.map W.Dat.str)[m]?=some e->CL e (.str z)=false:=λm e hm he=>by
     obtain⟨y,hy,rfl⟩:=Lv he;exact GV λq=>cG hm hy (by injection q)
    refine By ⟨Z,lu,_,_,Z,Y,AL.of (s' _ _ hlu),Y,Z,ll,_,_,Z,Y,SqL.of (s' _ _ hll),JW,.inl ⟨Y,_,SqL.of hcc⟩,Z,_,.str z1,_,c.idxOf z1,.str z1,Y,.list (SqL.of hcc) (Ga _),.str _,el,(cok z1 m1),Q,by rw[Yi,Lk m1];rfl,EZ _,bef,?_⟩;refine⟨Z,lu,_,_,Z,Y,AL.of (s' _ _ hlu),Y,Z,ll,_,_,Z,Y,SqL.of (s' _ _ hll),JW,.inl ⟨Y,_,SqL.of hcc⟩,Z,_,.str z2,_,c.idxOf z2,.str z2,Y,.list (SqL.of hcc) (Ga _),.str _,el,(cok z2 m2),Q,by rw[Yi,Lk m2];rfl,EZ _,bef,_,Z,Y,?_⟩;have:=q H' s';rw[he]at this;exact this
  ·rintro σ H' ⟨x4,x5,x6,rfl,s',he⟩;have:=q H' s';rw[he,Ya]at this;rw[QO (by show(ord.map _).length<=_;rw[Ya];exact Yf _),QO (by show(ord.map _).length<=_;rw[Ya];exact Yf _)]at this;exact this
def rZ{κ:Nat->List Int}{R:LN}{m k:Nat}(pw:R.Pairwise λa b=>HT.lexLt (κ a) (κ b)=true)(lo:∀ a∈R.take m,HT.lexLt (κ a) (κ k)=true)(hi:∀ b∈R.drop m,HT.lexLt (κ k) (κ b)=true):(R.take m++k :: R.drop m).Pairwise λa b=>HT.lexLt (κ a) (κ b)=true:=by
 have p2:(R.take m++R.drop m).Pairwise λa b=>HT.lexLt (κ a) (κ b)=true:=by rw[JM];exact pw
 obtain⟨pa,pb,pab⟩:=List.pairwise_append.mp p2;refine List.pairwise_append.mpr ⟨pa,C_.mpr ⟨hi,pb⟩,λa ha b hb=>?_⟩
 rcases Yw.mp hb with rfl | hb
 ·exact lo a ha
 ·exact pab a ha b hb
def rY{κ:Nat->List Int}{R:LN}{m k:Nat}(pw:R.Pairwise λa b=>HT.lexLt (κ a) (κ b)=true)(h:∀ b,R[m]?=some b->HT.lexLt (κ k) (κ b)=true):∀ b∈R.drop m,HT.lexLt (κ k) (κ b)=true:=by
 intro b hb;by_cases hm:m<R.length
 ·rw[OK hm]at hb;have h0:=h _ (Yb hm)
  rcases Yw.mp hb with rfl | hb
  ·exact h0
  ·have p2:(R.drop m).Pairwise λa b=>HT.lexLt (κ a) (κ b)=true:=pw.sublist (List.drop_sublist _ _);rw[OK hm]at p2;exact Ry _ _ _ h0 ((C_.mp p2).1 b hb)
 ·rw[QO (by omega)]at hb;cases hb
def mB{R L:LN}{m k:Nat}(p:R.Perm L):(R.take m++k :: R.drop m).Perm (L++[k]):=by
 refine QM.trans ?_;rw[JM];exact(List.Perm.cons _ p).trans (List.perm_append_singleton _ _).symm
def mK{R:LN}{m:Nat}{b:Nat}{Pr:Nat->Prop}(h:∀ a∈R.take m,Pr a)(hb:R[m]?=some b)(pb:Pr b):∀ a∈R.take (m + 1),Pr a:=by
 intro a ha;rw[B9,hb]at ha
 rcases Yv.mp ha with z | z
 ·exact h a z
 ·cases z with
  | head=>exact pb
  | tail _ z=>cases z
abbrev jR:LS:=["deeds","fits","lineup","row","number","at"]
abbrev QE:LS:=["deeds","fits","lineup"]
def fu:Ab jR QE (AK TM):=by nofun
def pJ(F:Def K mg "_law_ranked" TM QE f fd)(len:mg "len"=none)(DA:Def K mg "_law_ahead" S4 QD fA fdA)(GA:⋯ 1 fA fdA QD gX):⋯ 2 f fd QE gg:=by
 nomatch F.fn.ok fu
 ·obtain⟨ld,lf,lu,rows,n,ds,us,xs,ord,cs,rfl,_⟩:=h;rfl
 ·obtain⟨ld,lf,lu,rows,n,ds,us,xs,ord,cs,rfl,rk,hlf,q⟩:=h;have nd:=fu.nd;have fl:=PZ rows ds xs;have d24:=rk.d24
  ac_nf
  refine'⟨_,(pS (sE 3 nd (B4 AB))
   (pS (Bt Ys rfl (Be (pv 1)) (gE 4 nd)
    (pS (sE 5 nd AI)
   (pS (JC Ys (PW.pt (Ld (Am NV (pv 5) (Af CC (by rfl) len Yz (pC (pv 3) AB)) (Ak _)) (Ln (B7 (AN DA GA hr (pC (pv 0) (pC (AV (r:=BV K) Ar (pv 3) (pv 5) (λ_ _=>rfl)) (pC (pv 4) (pC (pv 2) AB)))))))))
     (AG (sE 5 nd (Ai ET (pv 5) AI))))
   (AG (B5 (C7 C1 Wt Ws Vt (pv 3) (pC (pv 5) (pC (pv 4) AB))))))))
   (AG (AS (pv 3))))),?_⟩
  exists let b:=_;let c:=_;let e:=AE (J5 _ c) b;let f:=AE _ e;let g:=AE (Bz _ _ f) a;AE _ g _ _ _
  refine⟨BF _,λlr hlr=>?_⟩;have s1:AA H (upd H lr (.lst [])):=A6 hlr;have Bc:(upd H lr (.lst [])) lr=some (.lst []):=uS;generalize upd H lr (.lst [])=H1 at s1 Bc;have lfr:lf≠lr:=AH hlf hlr;let BG:NW:=λi σ H'=>∃(R:LN) (x4 x5:OV),σ=[some (.ref ld),some (.ref lf),some (.ref lu),some (.ref lr),x4,x5]/\AA H H'/\H' lr=some (.lst (R.map AF))/\R.Perm ((AO rows ds xs).take i)/\R.Pairwise (λa b=>HT.lexLt (B2 ds ord cs a) (B2 ds ord cs b)=true);refine⟨Z,lf,Y,⟨_,SqL.of (s1 _ _ hlf)⟩,B8 (Bk (xs:=(AO rows ds xs).map AF)) BG
   ⟨[],none,none,Y,s1,Bc,IG _,.nil⟩ (λi σ H' _ h0=>by obtain⟨_,_,_,_,s',_⟩:=h0;exact SqL.of (s' _ _ hlf)) ?_ ?_⟩
  ·rintro i v σ H' hi ⟨R,x4,x5,rfl,s',hR,pR,pw⟩;obtain⟨k,hk,rfl⟩:=ZZ hi;have hkf:=Yc hk;have inR:∀ a∈R,a∈AO rows ds xs:=λa ha=>MO (pR.mem_iff.mp ha);have knR:k∉R:=λh=>by
    have ht:=pR.mem_iff.mp h;obtain⟨j,hj,e⟩:=Kk.mp ht;rw[Yx]at hj;rw[OG]at e;obtain⟨CK,ei⟩:=Ye.mp hk;exact MM.mp (Fo.mp (J6 rows ds xs)) j i (by omega) CK (by omega) (e.trans ei.symm)
   have Rl:R.length<=24:=by rw[pR.length_eq,Yx];omega
   let Cg:NW:=λm σ H'=>∃(at':Nat),σ=[some (.ref ld),some (.ref lf),some (.ref lu),some (.ref lr),some (.int (k:Nat)),some (.int (at':Nat))]/\AA H H'/\H' lr=some (.lst (R.map AF))/\at'<=R.length/\(∀ a∈R.take at',HT.lexLt (B2 ds ord cs a) (B2 ds ord cs k)=true)/\m=R.length - at';refine⟨Cg,
    ⟨_,0,Y,s',hR,BF _,(λa h=>by rw[FJ]at h;cases h),Y⟩,?_⟩
   rintro m σ H2 ⟨at',rfl,s2,Hj,le,lo,rfl⟩;refine⟨Z,Z,lr,Z,.inl (SqL.of Hj),_,Z,Y,Z,?_⟩;have fin:∀ H3,AA H H3->H3 lr=some (.lst (R.map AF))->(∀ b,R[at']?=some b->HT.lexLt (B2 ds ord cs k) (B2 ds ord cs b)=true)->∃(R':LN),(R.map AF).take at'++AF k :: (R.map AF).drop at'=R'.map AF/\R'.Perm ((AO rows ds xs).take (i + 1))/\R'.Pairwise (λa b=>HT.lexLt (B2 ds ord cs a) (B2 ds ord cs b)=true):=λH3 s3 h3 hb=>by
    refine⟨R.take at'++k :: R.drop at',by rw[CD,Yo,List.map_take,List.map_drop],?_,rZ pw lo (rY pw hb)⟩;rw[B9,hk];exact mB pR
   by_cases hm:at'<R.length
   ·rw[show decide (((at':Nat):Int)<(((R.map AF).length:Nat):Int))=true from Jb (by rw[Ya];omega)];have gm:=Yb hm;generalize R[at']=b at gm;have hbR:=Yc gm;have hat:BS (R.map AF) ((at':Nat):Int)=some (AF b):=FA (Kf _) (by rw[Yq,Yi,gm];rfl);refine By ⟨Z,Z,Z,lr,_,_,Z,Y,SqL.of Hj,hat,Z,Z,ld,lu,b,k,O,us,xs,ord,cs,Y,rk.mono s2,inR b hbR,hkf,λH3 s3=>⟨Z,?_⟩⟩;have Jv:=s3 _ _ Hj;have Az:=s2.trans s3;cases hx:HT.lexLt (B2 ds ord cs b) (B2 ds ord cs k)with
    | true =>
     let EG:SW:=λσ' H'=>∃ m',m'<R.length - at'/\∃(at':Nat),σ'=[some (.ref ld),some (.ref lf),some (.ref lu),some (.ref lr),some (.int (k:Nat)),some (.int (at':Nat))]/\AA H H'/\H' lr=some (.lst (R.map AF))/\at'<=R.length/\(∀ a∈R.take at',HT.lexLt (B2 ds ord cs a) (B2 ds ord cs k)=true)/\m'=R.length - at';refine By ⟨EG,λ_ _ h=>h,?_⟩;exact⟨Z,_,Z,Y,_,W,at' + 1,Y,Az,Jv,hm,mK lo gm hx,Y⟩
    | false =>
     refine Ao ?_;have hb:∀ b',R[at']?=some b'->HT.lexLt (B2 ds ord cs k) (B2 ds ord cs b')=true:=λb' h'=>by
      rw[gm]at h';injection h' with h';subst h';cases hy:HT.lexLt (B2 ds ord cs k) (B2 ds ord cs b)with
      | true=>rfl
      | false=>exact absurd (rj rk.g rk.gd rk.gc rk.is (inR b hbR) hkf (SD _ _ hx hy)) λz=>knR (z ▸ hbR)
     obtain⟨R',e',p',w'⟩:=fin H3 Az Jv hb;refine⟨Z,.inl ⟨Y,_,SqL.of Jv⟩,Z,Z,lr,_,_,Z,Y,Jv,Kf _,Q,CZ (by rw[Ya];omega),?_⟩;refine⟨R',_,Z,λc u e=>by rw[AD (AH e hlr)];exact Az _ _ e,?_,p',w'⟩;rw[uS,Yq];exact congrArg (λz=>some (HO.lst z)) e'
   ·rw[show decide (((at':Nat):Int)<(((R.map AF).length:Nat):Int))=false from Jc (by rw[Ya];omega)];obtain⟨R',e',p',w'⟩:=fin H2 s2 Hj (λb h=>by rw[FI (by omega)]at h;cases h);refine Ao (Ao ?_);refine⟨Z,.inl ⟨Y,_,SqL.of Hj⟩,Z,Z,lr,_,_,Z,Y,Hj,Kf _,Q,CZ (by rw[Ya];omega),?_⟩;refine⟨R',_,Z,λc u e=>by rw[AD (AH e hlr)];exact s2 _ _ e,?_,p',w'⟩;rw[uS,Yq];exact congrArg (λz=>some (HO.lst z)) e'
  ·rintro σ H' ⟨R,x4,x5,rfl,s',hR,pR,pw⟩;rw[Ya,De]at pR;have e:R=BZ rows ds xs ord cs:=cA (κ:=B2 ds ord cs) (pR.trans (JE rows ds xs ord cs).symm) pw (VO rows ds xs ord cs);rw[e]at hR;exact⟨Z,q lr H' hlr s' hR⟩
def gZ:Sp:=λvs H Q _=>∃(a l:Addr) (rows:RS) (AJ:KL) (x:Str) (ls:LS),vs=[.ref a,.str x,.ref l]/\AR rows/\H a=some (.dK AJ)/\Bu H rows rows AJ/\x∈rows.map (·.1)/\H l=some (.lst (ls.map V.str))/\(∀ z∈ls,PyData.strOk z=true)/\ls.length<64/\∀ v H',AA H H'->(v=true↔EO rows x ls)->Q (.bl v) H'
abbrev X_:LS:=["above","word","line","k"]
def ft:Ab X_ ["above","word","line"] (AK P7):=by nofun
def u9:(["high","above","line","k"]:LS).Nodup:=by rfl'
def sf(F:Def K mg "_law_is_line" P7 ["above","word","line"] f fd)(srt:mg "sorted"=none)(any:mg "any"=none)(range:mg "range"=none)(len:mg "len"=none):⋯ 1 f fd ["above","word","line"] gZ:=by
 nomatch F.fn.ok ft
 ·obtain⟨a,l,rows,AJ,x,ls,rfl,_⟩:=h;rfl
 ·obtain⟨a,l,rows,AJ,x,ls,rfl,g,ha,hA,hx,hl,lok,Dj,q⟩:=h;have nd:=ft.nd;have hu:=hr.units;have BJ:=ER hr
  ac_nf
  refine'⟨_,(pS (Aj (Am (HH hu) (Af Sn (by rfl) srt OH (pC (pv 2) AB)) (Af Sn (by rfl) srt OH (pC (Fm BJ (pv 0) (pv 1) (λ_ _=>rfl)) AB)) (Ak _)) (AG (AS CU)) Al)
   (pS (Bt Ys rfl (FF (by rfl) range (pC (Af CC (by rfl) len Yz (pC (pv 2) AB)) AB)) (Ay (i:=3) nd rfl (Or.inr rfl))
    (AG (Aj (B7 (Af (r:=G_ K λbs=>bs.any id) (Np rfl) (by rfl) any OO (pC ?e1 AB))) (AG (AS CU)) Al)))
   (AG (AS CU)))),?_⟩
  case e1=>exact(BC ["high"] ["above","line","k"] [0,2,3] (λ_=>A4 (osc:=AK P7) (on:=X_) (by rfl') rfl rfl rfl) (Be (PX (r:=WV K) VP (pv 2) PR (PU (pv 3)))) (λC s H fp=>Ay (i:=0) u9 rfl (Or.inl rfl) (Or.inr rfl)) (λC s H fp=>B6)
    (λC s H fp=>Hz (r:=M0 K false) Nw (pv 0) (Fm BJ (pv 1) (AV (r:=BV K) Ar (pv 2) (pv 3) (λ_ _=>rfl)) (λ_ _=>rfl)) (by with_unfolding_all rfl)))
  exists let b:=_;let c:=AE (Bz _ _ b) a;AE _ c _ _ _
  obtain⟨r0,IZ,Uw⟩:=Er hx;obtain⟨t0,fs,CI,Fy,Ii,_,fnd⟩:=hA.val' g.nd IZ;rw[Uw]at CI Ii;have fp:=ZM g hx Ii fnd;have fle:fs.length<=24:=by rw[fp.length_eq];exact Nj g x
  refine⟨Z,l,ls,Y,SqL.of hl,Dj,λs1 l1 p1 o1 Aq=>?_⟩;have IQ:AA H (upd H l1 (.lst (s1.map V.str))):=A6 Aq;have Bc:(upd H l1 (.lst (s1.map V.str))) l1=some (.lst (s1.map V.str)):=uS;generalize upd H l1 (.lst (s1.map V.str))=H1 at IQ Bc;refine⟨Z,Z,a,Z,(by rw[<- CI];exact BM.k (k:=Sum.inr x) (IQ _ _ ha)),t0,fs,Y,SqL.of (IQ _ _ Fy),W,λs2 l3 p3 o3 Bm=>?_⟩;have My:AA H1 (upd H1 l3 (.lst (s2.map V.str))):=A6 Bm;have Dk:(upd H1 l3 (.lst (s2.map V.str))) l3=some (.lst (s2.map V.str)):=uS;generalize upd H1 l3 (.lst (s2.map V.str))=H3 at My Dk;have Az:=IQ.trans My;have UN:∀ z∈s1,PyData.strOk z=true:=λz hz=>lok z (p1.mem_iff.mp hz);have UM:∀ z∈s2,PyData.strOk z=true:=λz hz=>by
   obtain⟨r,An,e⟩:=Yg.mp (JD (fp.mem_iff.mp (p3.mem_iff.mp hz)));rw[<- e];exact PN (g.word r An)
  refine⟨.list (s1.map W.Dat.str),.list (s2.map W.Dat.str),.list (SqL.of (My _ _ Bc)) (Ga _),.list (SqL.of Dk) (Ga _),PV UN,PV UM,Z,?_⟩;by_cases hp:ls.Perm (Au rows x)
  ·have Ek:s1=s2:=dC o1 o3 (p1.trans (hp.trans (fp.symm.trans p3.symm)));rw[Ek,EZ];have kn:∀ z∈ls,z∈rows.map (·.1):=λz hz=>JD (hp.mem_iff.mp hz);let BG:NW:=λi σ H'=>∃ x3:OV,σ=[some (.ref a),some (.str x),some (.ref l),x3]/\AA H H'/\∀ k c b,k<i->ls[k]?=some c->b∈ls.take k->¬ Graph.Reach (Ag rows) c b;refine Ao ⟨Z,l,Z,.inl (SqL.of (Az _ _ hl)),Z,W,Q,B8 Es BG
    ⟨none,Y,Az,λk _ _ h=>absurd h (Nat.not_lt_zero _)⟩ (λ_ _ _ _ _=>trivial) ?_ ?_⟩
   ·rintro i v σ H4 hi ⟨x3,rfl,s4,ah⟩;obtain⟨Ct,rfl⟩:=Ds hi;rw[Ya]at Ct;have j9:i<ls.length:=by omega
    have hy:ls[i]?=some ls[i]:=Yb j9;generalize ls[i]=y at hy;have hyw:=kn y (Yc hy);have Di:=s4 _ _ hl;refine⟨Z,Z,Z,l,Z,SqL.of Di,λl5 FV=>?_⟩;dsimp only[VY]at *;rw[show KS (ls.map V.str) none (some (0 + (i:Int)))=(ls.take i).map V.str from by rw[FL,aE,List.map_take]];have s5:AA H4 (upd H4 l5 (.lst ((ls.take i).map V.str))):=A6 FV;have NG:(upd H4 l5 (.lst ((ls.take i).map V.str))) l5=some (.lst ((ls.take i).map V.str)):=uS;generalize upd H4 l5 (.lst ((ls.take i).map V.str))=H5 at s5 NG;refine⟨l5,Y,⟨_,SqL.of NG⟩,EY (Bk (xs:=(ls.take i).map V.str)) (sL (by rw[Ya,Yx];omega)) (λ_=>true) (YT rows y) (λH' s'=>s'.seq (SqL.of NG)) ?_ ?_ ?_⟩
    ·intro v H' R s' _ Ae;exact Ae H' (AA.refl _)
    ·intro v H' R s' hv _ Ae;obtain⟨z,hz,rfl⟩:=Yg.mp hv;have EI:=s4.trans (s5.trans s');obtain⟨r2,Ml,NJ⟩:=Er hyw;obtain⟨t2,f2,LB,BD,hin⟩:=(hA.mono λb xs e=>EI b _ e).val g.nd Ml;rw[NJ]at LB hin;refine⟨Z,Z,Z,Z,l,_,_,Z,Y,SqL.of (EI _ _ hl),(by rw[FL];exact EB (by rw[Yi,hy];rfl)),a,Z,(by rw[<- LB];exact BM.k (k:=Sum.inr y) (EI _ _ ha)),t2,Z,.inl (SqL.of BD),Y,Lu f2,?_⟩;rw[show(if false=true then !EJ (V.str z) (f2.map V.str)else EJ (V.str z) (f2.map V.str))=AY rows y z from by rw[if_neg (by decide),J7,Vr hin]];exact Ae H' (AA.refl _)
    ·intro D3 H6 Io s6 Of;rw[g6]at Of;refine⟨D3,Z,SqL.of Of,Z,A9 (λh=>?_) (λh=>?_)⟩
     ·have h:(((ls.take i).map λb=>AY rows y b).any id)=true:=h;rw[FK]at h;obtain⟨c,hc,ec⟩:=h;obtain⟨z,hz,rfl⟩:=Yg.mp hc;exact q false H6 (s4.trans (s5.trans s6)) ⟨(λz=>by cases z),λlp=>absurd (Dr.mp ec) (lp.2 i y z hy hz)⟩
     ·have h:¬ (((ls.take i).map λb=>AY rows y b).any id)=true:=h;refine⟨Z,s4.trans (s5.trans s6),λk c b hk hc hb re=>?_⟩
      rcases Nat.lt_succ_iff_lt_or_eq.mp hk with z | z
      ·exact ah k c b z hc hb re
      ·subst z;rw[hy]at hc;cases hc;exact h (FK.mpr ⟨true,Yg.mpr ⟨b,hb,Dr.mpr re⟩,Y⟩)
   ·rintro σ H4 ⟨x3,rfl,s4,ah⟩;refine q true H4 s4 ⟨λ_=>⟨hp,λk c b hc hb=>ah k c b ?_ hc hb⟩,λ_=>rfl⟩;rw[Ca,Ya,Yq];exact(Ye.mp hc).1
  ·have Ek:s1≠s2:=λe=>hp ((p1.symm.trans (e ▸ IG _)).trans (p3.trans fp));rw[show(!CL (.list (s1.map W.Dat.str)) (.list (s2.map W.Dat.str)))=true from by
    rw[GV (λz=>by injection z with z;exact Ek (ao z))];rfl]
   exact By (q false H3 Az ⟨(λz=>by cases z),λz=>absurd z.1 hp⟩)
def iE:Sp:=λvs H Q _=>∃(a t lu:Addr) (rows:RS) (AJ:KL) (xs:LS) (ord:List Int) (cs:List (LS)),vs=[.ref a,.ref t,.ref lu]/\AR rows/\H a=some (.dK AJ)/\Bu H rows rows AJ/\H t=some (.tup (xs.map V.str))/\(∀ x∈xs,x∈rows.map (·.1))/\xs.length<=4/\Dy H lu ord cs/\MF ord cs/\∀ v H',AA H H'->(v=true↔Dg rows xs ord cs)->Q (.bl v) H'
abbrev MG:LS:=["above","call","lineup"]
def rB:Ab MG MG (AK P6):=by nofun
def sU:(["word","line","above"]:LS).Nodup:=by rfl'
def ub(F:Def K mg "_law_is_lineup" P6 MG f fd)(srt:mg "sorted"=none)(list:mg "list"=none)(range:mg "range"=none)(len:mg "len"=none)(all:mg "all"=none)(zip:mg "zip"=none)
  (DL:Def K mg "_law_is_line" P7 ["above","word","line"] fL fdL) (GL:⋯ 1 fL fdL ["above","word","line"] gZ):⋯ 2 f fd MG iE:=by
 nomatch F.fn.ok rB
 ·obtain⟨a,t,lu,rows,AJ,xs,ord,cs,rfl,_⟩:=h;rfl
 ·obtain⟨a,t,lu,rows,AJ,xs,ord,cs,rfl,g,ha,hA,ht,kn,x4,hlu,lok,q⟩:=h;have hu:=hr.units
  ac_nf
  refine'⟨_,(pS (Aj (PW.pt (Iu (Am (HH hu) (Af cX (by rfl) srt OH (pC (AV (r:=BN K) BQ (pv 2) AI (λ_ _=>rfl)) AB)) (Po rfl (Af CC (by rfl) len Yz (pC (pv 1) AB)) (by rfl) list (by rfl) range) (Ak _)) (J3 (Am F9 (Af CC (by rfl) len Yz (pC (AV (r:=BN K) BQ (pv 2) AI (λ_ _=>rfl)) AB)) (Af CC (by rfl) len Yz (pC (pv 1) AB)) (Ak _))))) (AG (AS CU)) Al)
   (AG (AS (Af (r:=G_ K λbs=>bs.all id) (J_ rfl) (by rfl) all Ko (pC ?e1 AB))))),?_⟩
  case e1=>exact(BC ["word","line"] ["above"] [0] (λ_=>A4 (osc:=AK P6) (on:=MG) (by rfl') rfl rfl rfl) (Zl (by rfl) zip (pC (pv 1) (pC (AV (r:=BN K) BQ (pv 2) AI (λ_ _=>rfl)) AB))) (λC s H fp=>PF (K:=K) (i:=0) (j:=1) rfl rfl sU rfl rfl (Or.inl rfl) (Or.inl rfl) (Or.inr rfl) (Or.inr rfl)) (λC s H fp=>B6) (λC s H fp=>AN DL GL hr (pC (pv 2) (pC (pv 0) (pC (pv 1) AB)))))
  exists AE _ a _ _ _
  obtain⟨lo,ll,vs,AZ,hlo,hll,hL⟩:=hlu;have few:=lok.few;have fewL:=lok.fewL;refine⟨Z,lu,_,_,Z,Y,AL.of AZ,Y,lo,ord,Y,SqL.of hlo,W,λns l2 pn on BK=>?_⟩;have s2:AA H (upd H l2 (.lst (ns.map V.int))):=A6 BK;have CQ:(upd H l2 (.lst (ns.map V.int))) l2=some (.lst (ns.map V.int)):=uS;generalize upd H l2 (.lst (ns.map V.int))=H2 at s2 CQ;refine⟨Z,t,Z,.inr (AL.of (s2 _ _ ht)),Z,W,Q,λl3 Bm=>?_⟩;rw[Ya,Yq,Se];have s3:AA H2 (upd H2 l3 (.lst ((Ad xs.length).map V.int))):=A6 Bm;have Dk:(upd H2 l3 (.lst ((Ad xs.length).map V.int))) l3=some (.lst ((Ad xs.length).map V.int)):=uS;generalize upd H2 l3 (.lst ((Ad xs.length).map V.int))=H3 at s3 Dk;have Az:=s2.trans s3;refine⟨.list (ns.map W.Dat.int),.list ((Ad xs.length).map W.Dat.int),.list (SqL.of (s3 _ _ CQ)) (Pf _),.list (SqL.of Dk) (Pf _),SE _,SE _,Z,?_⟩;by_cases hp:ord.Perm (Ad xs.length)
  ·have Ek:ns=Ad xs.length:=WB on (bV _) (pn.trans hp);rw[Ek,EZ];have C3:=Az _ _ hll;have Ql:=Az _ _ AZ;have NA:=Az _ _ ht;have vl:=Bl hL;refine Ao ⟨Z,lu,_,_,Z,Y,AL.of Ql,Y,ll,Z,.inl (SqL.of C3),Z,t,Z,.inr (AL.of NA),Y,Z,?_⟩;rw[Ya];by_cases hc:cs.length=xs.length
   ·rw[show(!decide (V.int ((vs.length:Nat):Int)=V.int ((xs.length:Nat):Int)))=false from by rw[<- vl,hc,Jb rfl];rfl];refine Ao ⟨Z,Z,lu,_,_,Z,Y,AL.of Ql,Y,t,ll,_,Z,AL.of NA,SqL.of C3,Sk (by rw[Kl,Ya];exact sL (by omega)) (λ_=>true) (λ_ pr v _=>∃ b,v=.bl b/\(b=true↔∀(x:Str) (c:LS),pr.1=.str x->(∃ t,pr.2=.ref t/\H t=some (.lst (c.map V.str)))->EO rows x c)) (λ_ _ _ _ _ _ h=>h) (λH' s'=>⟨AL.of (s' _ _ NA),SqL.of (s' _ _ C3)⟩) ?_ ?_ ?_⟩
    ·intro pr H' R s' _ Ae;exact Ae H' (AA.refl _)
    ·intro D pr H' R s' _ _ hpr _ Ae;obtain⟨i,hi⟩:=Gj hpr;obtain⟨Ud,CH⟩:=PY hi;obtain⟨x,hx,ex⟩:=J9 Ud;obtain⟨c,hcc,tc,ec,htc⟩:=C0 hL CH;obtain⟨cok,clen⟩:=lok.txt c (Yc hcc);have EI:=Az.trans s';rw[ex,ec];refine⟨Z,Z,Z,a,tc,rows,AJ,x,c,Y,g,EI _ _ ha,hA.mono λb xs e=>EI _ _ e,kn x (Yc hx),EI _ _ htc,(λz hz=>(cok z hz)),clen,λv BH BR hv=>Ae _ BH BR ⟨v,Y,?_⟩⟩;rw[hv];constructor
     ·intro z x' c' e1 ⟨t',e2,e3⟩;rw[ex]at e1;cases e1;rw[ec]at e2;cases e2;rw[htc]at e3;have:c.map V.str=c'.map V.str:=by
       injection e3 with e3;injection e3
      rw[<- V0 this];exact z
     ·intro z;exact z x c ex ⟨tc,ec,htc⟩
    ·intro D H4 ys hD s4 Di pr;rw[Et.mpr (λ_ _=>rfl)]at pr;obtain⟨bs,eb,pb⟩:=Vj pr;rw[eb]at Di;refine⟨D,bs,Y,SqL.of Di,?_⟩;refine q _ H4 (Az.trans s4) ?_;have lp:=V6 (rows:=rows) hL (by omega) pb;show bs.all id=true↔_;rw[lp];exact⟨λz=>⟨hp,hc,z⟩,λz=>z.line⟩
   ·rw[show(!decide (V.int ((vs.length:Nat):Int)=V.int ((xs.length:Nat):Int)))=true from by rw[Jc (λz=>by injection z with z;omega)];rfl];exact By (q false H3 Az ⟨(λz=>by cases z),λz=>absurd z.len hc⟩)
  ·have Ek:ns≠Ad xs.length:=λe=>hp (pn.symm.trans (e ▸ IG _));rw[show(!CL (.list (ns.map W.Dat.int)) (.list ((Ad xs.length).map W.Dat.int)))=true from by
    rw[GV (λz=>by injection z with z;exact Ek (aJ z))];rfl]
   exact By (q false H3 Az ⟨(λz=>by cases z),λz=>absurd z.ord hp⟩)
def SV{rows:RS}(g:AR rows){x y:Str}(hx:x∈rows.map (·.1)):y∈Au rows x↔Graph.Reach (Ag rows) x y:=by
 unfold Au;rw[Yu];exact⟨λh=>Dr.mp h.2,λh=>⟨Sf g hx h,Dr.mpr h⟩⟩
def l8{rows:RS}(g:AR rows){a b:Str}(ha:a∈rows.map (·.1))(hb:b∈rows.map (·.1))(r:Graph.Reach (Ag rows) a b)(ne:a≠b):(Au rows b).length<(Au rows a).length:=by
 obtain⟨rk,hrk⟩:=g.rank;have na:a∉Au rows b:=λh=>by
  have r2:=(SV g hb).mp h
  rcases V8 hrk g.nd g.known ha r with z | z
  ·exact ne z
  ·rcases V8 hrk g.nd g.known hb r2 with z2 | z2
   ·exact ne z2.symm
   ·omega
 have:=Graph.nodup_le (l:=a :: Au rows b) (k:=Au rows a) (Ed.mpr ⟨na,SX g b⟩) λx hx=>by
  rcases Yw.mp hx with rfl | hx
  ·exact(SV g ha).mpr (.refl _)
  ·exact(SV g ha).mpr (r.trans ((SV g hb).mp hx))
 exact this
def Fc(rows:RS)(x:Str)(i:Nat):Int:=((Au rows ((Au rows x).getD i "")).length:Int)
def DY(rows:RS)(x:Str):LS:=(Ht (O:=Hw) true (Fc rows x) (Au rows x).length).map λi=>(Au rows x).getD i ""
def R9{l:LS}{i:Nat}(h:i<l.length):l[i]?=some (l.getD i "")/\l.getD i ""∈l:=by
 rw[Yh,Yb h];exact⟨Y,KU h⟩
def uy(rows:RS)(x:Str):Fh (O:=Hw) true (Fc rows x) ((Au rows x).map V.str)=(DY rows x).map V.str:=by
 unfold Fh DY;rw[Ya,Bo];refine Ki λi hi=>?_;have hi:=Bp.mp ((L3 (O:=Hw) true (Fc rows x) _).mem_iff.mp hi);show((Au rows x).map V.str).getD i V.non=V.str ((Au rows x).getD i "");rw[Yh,Yi,(R9 hi).1];rfl
def nq(l:LS):(List.range l.length).map (λi=>l.getD i "")=l:=by
 apply OF;intro i;by_cases hi:i<l.length
 ·rw[Yi,JI hi,(R9 hi).1];rfl
 ·rw[FI (by rw[Ya,Df];omega),FI (by omega)]
def Sv(rows:RS)(x:Str):(DY rows x).Perm (Au rows x):=by
 have:=(L3 (O:=Hw) true (Fc rows x) (Au rows x).length).map λi=>(Au rows x).getD i "";rw[nq]at this;exact this
abbrev eW(rows:RS)(ls:LS):Prop:=ls.Pairwise λb a=>¬ Graph.Reach (Ag rows) a b
def a8{rows:RS}(g:AR rows)(x:Str):eW rows (DY rows x):=by
 have so:=dS (O:=Hw) true (Fc rows x) (Au rows x).length;have pm:=L3 (O:=Hw) true (Fc rows x) (Au rows x).length;have nd:(Ht (O:=Hw) true (Fc rows x) (Au rows x).length).Nodup:=pm.nodup_iff.mpr List.nodup_range;have lt:∀ i∈Ht (O:=Hw) true (Fc rows x) (Au rows x).length,i<(Au rows x).length:=λi hi=>Bp.mp (pm.mem_iff.mp hi);unfold DY;refine Ka.mpr ?_;have Cy:=List.Pairwise.and so (Fo.mp nd);refine List.Pairwise.imp_of_mem ?_ Cy;rintro i j hi hj ⟨h1,h2⟩ r;have CK:=lt i hi;have F1:=lt j hj;obtain⟨ei,mi⟩:=R9 CK;obtain⟨ej,mj⟩:=R9 F1;have ne:(Au rows x).getD j ""≠(Au rows x).getD i "":=λz=>by
  have hnd:=SX g x;have a1:=(Ye.mp ei).2;have a2:=(Ye.mp ej).2;have:(Au rows x)[i]=(Au rows x)[j]:=by rw[a1,a2,z]
  exact h2 ((List.getElem_inj hnd).mp this)
 have l:=l8 g (JD mj) (JD mi) r ne;have h1:decide (Fc rows x i<Fc rows x j)=false:=h1;have h1:=of_decide_eq_false h1;unfold Fc at h1;omega
def ZV{rows:RS}{x:Str}{ls:LS}(p:ls.Perm (Au rows x))(u:eW rows ls):EO rows x ls:=by
 refine⟨p,λk a b hk hb=>?_⟩;obtain⟨AZ,ea⟩:=Ye.mp hk;obtain⟨j,hj,eb⟩:=Kk.mp hb;rw[Yx]at hj;rw[OG]at eb;have:=MM.mp u j k (by omega) AZ (by omega);rw[ea,eb]at this;exact this
def Hv(rows:RS)(x y:Str):LS:=(DY rows x).filter (λz=>AY rows z y)++(DY rows x).filter λz=>!AY rows z y
def qF{rows:RS}(g:AR rows)(x y:Str):EO rows x (Hv rows x y):=by
 have pu:=a8 g x;refine ZV (List.Perm.trans ?_ (Sv rows x)) ?_
 ·exact List.filter_append_perm _ _
 ·refine List.pairwise_append.mpr ⟨pu.filter _,pu.filter _,λb hb a ha r=>?_⟩;have h1:=Dr.mp (Yu.mp hb).2;have h2:=(Yu.mp ha).2;rw[Dr.mpr (r.trans h1)]at h2;cases h2
abbrev du:Str:="plain_line.<locals>.<lambda>"
def uM:("plain_line":Str)++(".<locals>.":Str)++("<lambda>":Str)=du:=by rfl'
def qz(K:Fg):LV->Hp->VK->Prop:=λxs H Q=>∃ p ys,xs=[V.ref p]/\(SqL K H p ys\/AL K H p ys)/\Q (.int ys.length) H
abbrev EM(T:Addr)(lp:Pos)(H:Hp):Prop:=Dq H T lp du
def SK(C T:Addr)(lp:Pos):Sp:=λvs H Q _=>∃(p:Addr) (rows:RS) (x:Str),vs=[.ref p,.str x]/\BA C H p rows/\AR rows/\x∈rows.map (·.1)/\EM T lp H/\∀ D H',H D=none->BW T H H'->EM T lp H'->H' D=some (.lst ((DY rows x).map V.str))->Q (.ref D) H'
def Z3(C T:Addr)(lp:Pos):Sp:=λvs H Q _=>∃(p:Addr) (rows:RS) (x y:Str),vs=[.ref p,.str x,.str y]/\BA C H p rows/\AR rows/\x∈rows.map (·.1)/\y∈rows.map (·.1)/\Graph.Reach (Ag rows) x y/\EM T lp H/\∀ D H',H D=none->BW T H H'->EM T lp H'->H' D=some (.lst ((Hv rows x y).map V.str))->Q (.ref D) H'
def RN(rows:RS)(y:Str):V->Bool
 | .str z=>AY rows z y
 | _=>false
theorem bx(rows:RS)(y:Str):∀ l:LS,((l.map V.str).filter (RN rows y)).map (λv=>v)=(l.filter λz=>AY rows z y).map V.str
 | []=>rfl
 | z :: r=>by
  have:=bx rows y r;rw[Gh]at this ⊢;rw[Yo,ED,ED,this];show(if AY rows z y=true then _ else _)=_;split <;> rfl
theorem cN(rows:RS)(y:Str):∀ l:LS,((l.map V.str).filter λv=>!RN rows y v).map (λv=>v)=(l.filter λz=>!AY rows z y).map V.str
 | []=>rfl
 | z :: r=>by
  have:=cN rows y r;rw[Gh]at this ⊢;rw[Yo,ED,ED,this];show(if(!AY rows z y)=true then _ else _)=_;split <;> rfl
abbrev Gv:LS:=["kinds","word"]
def wJ:Ab Gv Gv (AK KR):=by nofun
abbrev UQ:LS:=["kinds","word","other","line","ahead"]
abbrev QF:LS:=["kinds","word","other"]
def gA:Ab UQ QF (AK N3):=by nofun
def hJ:(["high","kinds","other"]:LS).Nodup:=by rfl'
def lU:∃ lp:Pos,∀ {f C T c fA:Addr}{fd fdA:FuncData}(F:Def K mg "plain_line" KR Gv f fd) (hc:fd.code=.ref c) (LT:LM mg base c T) (srt:mg "sorted"=none) (len:mg "len"=none) (TC:CT K C) (MA:El K C "above" "Kinds.above" OA ["self","word"] fA fdA)
  (GA:⋯ 3 fA fdA ["self","word"] (Vw C)),⋯ 7 f fd Gv (SK C T lp):=by
 apply Exists.intro
 ·intro f C T c fA fd fdA F hc LT srt len TC MA GA;refine Bg.okL F.fn hc wJ (λvs H Q E h=>?_) (λA outer s H vs Q E hr h=>?_)
  ·obtain⟨p,rows,x,rfl,_⟩:=h;rfl
  ·obtain⟨p,rows,x,rfl,kd,g,hx,hT,q⟩:=h;have CJ:AU 3 _:=hr.mono (by decide);have hrL:∀ env:Env,AU 3 ((A.deeper (PyProof.Rows.envOfC "plain_line" (AK KR) s.heap.objs.size f (.ref c))).in1.in1.deeper env):=λenv=>AU.deeper (AU.in1 (AU.in1 hr)) env
   ac_nf
   refine'⟨_,AG (AS (mZ ["kinds"] [0] rfl (by rfl) srt (Dc (pv 0) TC.cl MA.me GA CJ MA.b .nil A3 (pC (pv 1) AB)) LT rfl uM (aO (osc:=AK KR) (on:=Gv) (x:="high") (by rfl')) (QR (A7 (Fp _ _) (Fp _ _)) hr.dp)
    (λf' c' cl s' H'=>Af (r:=qz K) CC (by rfl) len Yz (pC (Dc (pv 1) TC.cl MA.me GA (hrL _) MA.b .nil A3 (pC (pv 0) AB)) AB)))),?_⟩
   obtain⟨dx,d,a,o,oa,kvs,AJ,h1,_⟩:=kd.ex;have hle:=Nj g x;refine⟨Z,p,dx,Z,h1,Vd _ _,Z,p,rows,x,Y,kd,g,hx,λl hl=>?_⟩;have s1:AA H (upd H l (.lst ((Au rows x).map V.str))):=A6 hl;have Bc:(upd H l (.lst ((Au rows x).map V.str))) l=some (.lst ((Au rows x).map V.str)):=uS;generalize upd H l (.lst ((Au rows x).map V.str))=H1 at s1 Bc;refine⟨l,_,Fc rows x,Y,SqL.of Bc,Q,hT.mono s1,λH2 sm Im=>⟨λi v H3 hi s3=>?_,λD H3 hD s3 Io=>?_⟩⟩
   ·obtain⟨z,hz,rfl⟩:=J9 hi;have hzm:=JD (Yc hz);have Jn:=((kd.mono s1).monoT (hT.mono s1).tbl sm).mono s3;obtain⟨F4,d',a',o',Xz,BY,Qy,Ei,_⟩:=Jn.ex;refine⟨Z,p,F4,Z,Ei,Vd _ _,Z,p,rows,z,Y,Jn,g,hzm,λl4 Di=>⟨l4,Z,.inl (SqL.of uS),A6 Di,?_⟩⟩;rw[Ya];unfold Fc;rw[Yh,hz];rfl
   ·rw[uy]at Io;exact q D H3 (by
     cases e:H D with
     | none=>rfl
     | some u =>
      obtain⟨ps,hps⟩:=hT.tbl;by_cases hDT:D=T
      ·obtain⟨xa,XM⟩:=Im.tbl;rw[hDT,XM]at hD;cases hD
      ·rw[sm D u hDT (s1 _ _ e)]at hD;cases hD) ((s1.t (P:=T)).trans (sm.trans s3.t)) (Im.mono s3) Io
def lN{lp:Pos}(F:Def K mg "line_ahead" N3 QF f fd)(TC:CT K C)(MU:LY K C fU fdU)(GU:⋯ 3 fU fdU ["self","one","other"] (PM C))
  (DP:Def K mg "plain_line" KR Gv fP fdP) (GP:⋯ 7 fP fdP Gv (SK C T lp)):⋯ 8 f fd QF (Z3 C T lp):=by
 nomatch F.fn.ok gA
 ·obtain⟨p,rows,x,y,rfl,_⟩:=h;rfl
 ·obtain⟨p,rows,x,y,rfl,kd,g,hx,hy,re,hT,q⟩:=h;have nd:=gA.nd;have CJ:AU 3 _:=hr.mono (by decide);obtain⟨dx,d,a,o,oa,kvs,AJ,h1,_⟩:=kd.ex
  ac_nf
  refine'⟨_,(pS (Aj (CV (B7 (Dc (pv 0) TC.cl MU.me GU CJ MU.b .nil A3 (pC (pv 1) (pC (pv 2) AB))))) EC Al)
   (pS (sE 3 nd (AN DP GP hr (pC (pv 0) (pC (pv 1) AB))))
   (pS ?eA
   (AG (AS (Ai VA (pv 4) ?eB)))))),?_⟩
  case eA=>exact(Sw (k:=4) ["high"] ["kinds","other"] [0,2] nd rfl rfl (λ_=>A4 (osc:=AK N3) (on:=UQ) (by rfl') rfl rfl rfl) (Be (pv 3)) (λC s H fp=>Ay (i:=0) hJ rfl (Or.inl rfl) (Or.inr rfl)) (λC s H fp=>EX (B7 (Dc (pv 1) TC.cl MU.me GU CJ MU.b .nil A3 (pC (pv 0) (pC (pv 2) AB))))) (λC s H fp=>pv 0))
  case eB=>exact(BC ["high"] ["kinds","other"] [0,2] (λ_=>A4 (osc:=AK N3) (on:=UQ) (by rfl') rfl rfl rfl) (Be (pv 3)) (λC s H fp=>Ay (i:=0) hJ rfl (Or.inl rfl) (Or.inr rfl)) (λC s H fp=>EX (CV (B7 (Dc (pv 1) TC.cl MU.me GU CJ MU.b .nil A3 (pC (pv 0) (pC (pv 2) AB)))))) (λC s H fp=>pv 0))
  exists let b:=AE _ a;let c:=AE _ b;AE _ c _ _ _
  refine⟨Z,p,dx,Z,h1,Pb _ _,Z,Z,p,rows,x,y,Y,kd,g,hx,hy,Z,?_⟩;rw[Dr.mpr re];refine Ao ⟨Z,Z,p,rows,x,Y,kd,g,hx,hT,λl H1 E5 sT F2 hl=>?_⟩;have OX:=kd.monoT hT.tbl sT;have pl:(DY rows x).length<=24:=by rw[(Sv rows x).length_eq];exact Nj g x
  have pk:∀ z∈DY rows x,z∈rows.map (·.1):=λz hz=>JD ((Sv rows x).mem_iff.mp hz);have und:∀ {z:Str} {H':Hp} {R:Bool->Hp->Prop},z∈DY rows x->AA H1 H'->R (AY rows z y) H'->∃(dx:Addr) (fs:List (Str×V)),H' p=some (.ins C dx fs)/\fs.lookup ("under":Str)=none/\BA C H' p rows:=λ{z H' R} hz s' _=>by
   obtain⟨F4,d',a',o',Xz,BY,Qy,Ei,_⟩:=(OX.mono s').ex;exact⟨F4,_,Ei,Pb _ _,OX.mono s'⟩
  refine⟨Z,l,Y,⟨_,SqL.of hl⟩,EY (Bk (xs:=(DY rows x).map V.str)) (sL (by rw[Ya];omega)) (RN rows y) (λv=>v) (λH' s'=>s'.seq (SqL.of hl)) ?_ ?_ ?_⟩
  ·intro v H' R s' hv Ae;obtain⟨z,hz,rfl⟩:=Yg.mp hv;obtain⟨F4,Bx,Ei,nu,M8⟩:=und (R:=λ_ _=>True) hz s' trivial;exact⟨Z,p,F4,Z,Ei,nu,Z,Z,p,rows,z,y,Y,M8,g,pk z hz,hy,Z,Ae H' (AA.refl _)⟩
  ·intro v H' R s' _ _ Ae;exact⟨Z,Ae H' (AA.refl _)⟩
  intro l2 H2 BK s2 CQ;rw[bx]at CQ;have CB:=s2 _ _ hl;refine⟨Z,Z,l,Y,⟨_,SqL.of CB⟩,EY (Bk (xs:=(DY rows x).map V.str)) (sL (by rw[Ya];omega)) (λv=>!RN rows y v) (λv=>v) (λH' s'=>s'.seq (SqL.of CB)) ?_ ?_ ?_⟩
  ·intro v H' R s' hv Ae;obtain⟨z,hz,rfl⟩:=Yg.mp hv;obtain⟨F4,Bx,Ei,nu,M8⟩:=und (R:=λ_ _=>True) hz (s2.trans s') trivial;exact⟨Z,p,F4,Z,Ei,nu,Z,Z,p,rows,z,y,Y,M8,g,pk z hz,hy,Z,Ae H' (AA.refl _)⟩
  ·intro v H' R s' _ _ Ae;exact⟨Z,Ae H' (AA.refl _)⟩
  intro l3 H3 Bm s3 Dk;rw[cN]at Dk;have f1:=EE (λz=>AY rows z y) (DY rows x);have f2:=EE (λz=>!AY rows z y) (DY rows x);refine⟨l2,l3,_,Z,Y,s3 _ _ CQ,Dk,sL (by rw[Ya,Ya];omega),λD hD=>?_⟩;have CG:=s2.trans s3;have sD:AA H3 (upd H3 D (.lst ((Hv rows x y).map V.str))):=A6 hD;have e:(List.map V.str (List.filter (λz=>AY rows z y) (DY rows x))++List.map V.str (List.filter (λz=>!AY rows z y) (DY rows x)))=(Hv rows x y).map V.str:=by
   unfold Hv;rw[CD]
  rw[e];refine q D _ ?_ (sT.trans (CG.trans sD).t) (F2.mono (CG.trans sD)) uS;cases z:H D with
  | none=>rfl
  | some u =>
   by_cases hDT:D=T
   ·obtain⟨ps,hps⟩:=F2.tbl;rw[hDT,CG _ _ hps]at hD;cases hD
   ·rw[CG _ _ (sT D u hDT z)]at hD;cases hD
def NT(H H':Hp):Prop:=∀ b o,(∀ ps,o≠.tbl ps)->H b=some o->H' b=some o
def BW.nt{T:Addr}{H H':Hp}(s:BW T H H')(hT:∃ ps,H T=some (.tbl ps)):NT H H':=λb o n e=>s b o (U3 hT e n) e
def AA.nt{H H':Hp}(s:AA H H'):NT H H':=λb o _ e=>s b o e
def NT.trans{H H1 H':Hp}(s:NT H H1)(t:NT H1 H'):NT H H':=λb o n e=>t b o n (s b o n e)
def BA.monoN{C:Addr}{H H':Hp}{p:Addr}{rows:RS}(h:BA C H p rows)(k:NT H H'):BA C H' p rows:=by
 obtain⟨dx,d,a,o,oa,kvs,AJ,h1,h2,h3,h4⟩:=h.ex;exact⟨dx,d,a,o,oa,kvs,AJ,k _ _ (λ_ z=>nomatch z) h1,⟨k _ _ (λ_ z=>nomatch z) h2.at_,h2.ups.mono λ_ _ e=>k _ _ (λ_ z=>nomatch z) e⟩,k _ _ (λ_ z=>nomatch z) h3,h4.mono λ_ _ _ e=>k _ _ (λ_ z=>nomatch z) e⟩
def WA{H H':Hp}{all rows:RS}{AJ:KL}(h:Bu H all rows AJ)(k:NT H H'):Bu H' all rows AJ:=h.mono λb xs e=>k b _ (λ_ z=>nomatch z) e
def A0.monoN{H H':Hp}{ds:List (LS)}{us:LV}(h:A0 H ds us)(k:NT H H'):A0 H' ds us:=Paired.mapP h λ_ _ ⟨t,e,x⟩=>⟨t,e,k _ _ (λ_ z=>nomatch z) x⟩
theorem B0.monoN{C B:Addr}{H H':Hp}{p k:Addr}{rows:RS}{n:Nat}{ds:List (LS)}(h:B0 C B H p k rows n ds)(s:NT H H'):B0 C B H' p k rows n ds:=by
 obtain⟨dx,t,us,h1,h2,h3,h4⟩:=h.ex;exact⟨dx,t,us,s _ _ (λ_ z=>nomatch z) h1,h2.monoN s,s _ _ (λ_ z=>nomatch z) h3,h4.monoN s⟩
def F8(H0 H:Hp)(t:Addr)(ord:List Int)(cs:List (LS)):Prop:=∃(lo ll:Addr) (vs:LV),H0 t=none/\H0 lo=none/\H0 ll=none/\H t=some (.tup [.ref lo,.ref ll])/\H lo=some (.lst (ord.map V.int))/\H ll=some (.lst vs)/\Paired (λc v=>∃ b,v=.ref b/\H0 b=none/\H b=some (.lst (c.map V.str))) cs vs
def F8.at_{H0 H:Hp}{t:Addr}{ord:List Int}{cs:List (LS)}(h:F8 H0 H t ord cs):Dy H t ord cs:=by
 obtain⟨lo,ll,vs,f1,f2,f3,h1,h2,h3,h4⟩:=h;exact⟨lo,ll,vs,h1,h2,h3,Paired.mapP h4 λc v ⟨b,e,_,hb⟩=>⟨b,e,hb⟩⟩
def F8.monoN{H0 H H':Hp}{t:Addr}{ord:List Int}{cs:List (LS)}(h:F8 H0 H t ord cs)(k:NT H H'):F8 H0 H' t ord cs:=by
 obtain⟨lo,ll,vs,f1,f2,f3,h1,h2,h3,h4⟩:=h;exact⟨lo,ll,vs,f1,f2,f3,k _ _ (λ_ z=>nomatch z) h1,k _ _ (λ_ z=>nomatch z) h2,k _ _ (λ_ z=>nomatch z) h3,Paired.mapP h4 λc v ⟨b,e,f,hb⟩=>⟨b,e,f,k _ _ (λ_ z=>nomatch z) hb⟩⟩
structure Eu(T U:Addr)(lp lr:Pos)(H:Hp):Prop where
 p:EM T lp H
 r:L9 U lr H
 ne:T≠U
def br{T U:Addr}{H H':Hp}{pos:Pos}{q:Str}(h:Dq H T pos q)(hU:∃ ps,H U=some (.tbl ps))(ne:T≠U)(s:BW U H H'):Dq H' T pos q:=by
 rcases h with h | ⟨c,oc,vs,t,h1,h2,h3⟩
 ·exact .inl (s _ _ ne h)
 ·exact .inr ⟨c,oc,vs,t,s _ _ ne h1,s _ _ (U3 hU h2 (λ_ z=>nomatch z)) h2,h3⟩
def Eu.plain{T U:Addr}{lp lr:Pos}{H H':Hp}(h:Eu T U lp lr H)(s:BW T H H')(t:EM T lp H'):Eu T U lp lr H':=⟨t,br h.r h.p.tbl (Yr h.ne) s,h.ne⟩
def Eu.rank{T U:Addr}{lp lr:Pos}{H H':Hp}(h:Eu T U lp lr H)(s:BW U H H')(t:L9 U lr H'):Eu T U lp lr H':=⟨br h.p h.r.tbl h.ne s,t,h.ne⟩
theorem Eu.mono{T U:Addr}{lp lr:Pos}{H H':Hp}(h:Eu T U lp lr H)(s:AA H H'):Eu T U lp lr H':=⟨h.p.mono s,h.r.mono s,h.ne⟩
noncomputable abbrev Dl (rows:RS) (xs:LS):List (LS):=xs.map (DY rows)
def iI(C B T:Addr)(lp:Pos):Sp:=λvs H Q _=>∃(p k t:Addr) (rows:RS) (n:Nat) (ds:List (LS)) (xs:LS),vs=[.ref p,.ref t]/\B0 C B H p k rows n ds/\AR rows/\n<=4/\H t=some (.tup (xs.map V.str))/\BX rows n xs/\EM T lp H /\
 ∀ lu H',BW T H H'->EM T lp H'->F8 H H' lu (Ad n) (Dl rows xs)->Q (.ref lu) H'
def cV{K:Fg}{C T k t:Addr}{lp:Pos}{H1:Hp}{rows:RS}{xs:LS}{σ:St}{j:Nat}{te:TE}{Q:VK}(hj:(σ[j]?).join=some (.ref k))(ht:H1 t=some (.tup (xs.map V.str)))(few:xs.length<=100)(kd:BA C H1 k rows)(hT:EM T lp H1)
  (he:∀(x:Str) H' (R:VK),x∈xs->BA C H' k rows->EM T lp H'->(∀ D BH,H' D=none->BW T H' BH->EM T lp BH->BH D=some (.lst ((DY rows x).map V.str))->R (.ref D) BH)->te [some (.str x),some (.ref k)] H' R)
  (hd:∀ D H2 hs,H1 D=none->BW T H1 H2->EM T lp H2->H2 D=some (.lst hs)->Paired (λc v=>∃ b,v=.ref b/\b≠D/\H1 b=none/\H2 b=some (.lst (c.map V.str))) (Dl rows xs) hs->Q (.ref D) H2):Aa 1 [j] (Dp 0) Wo te σ Q (T4 K t) H1:=by
 let BG:Addr->Nat->LV->St->Hp->Prop:=λD i ys σ' H'=>H1 D=none/\BW T H1 H'/\EM T lp H'/\H' D=some (.lst ys)/\Paired (λc v=>∃ b,v=.ref b/\b≠D/\H1 b=none/\H' b=some (.lst (c.map V.str))) (Dl rows (xs.take i)) ys/\∃ o,σ'=[o,some (.ref k)];refine Nt (IB (xs:=xs.map V.str)) (sL (by rw[Ya];omega)) BG ?_ ?_ ?_ ?_
 ·intro D hD;refine⟨hD,(A6 hD).t,hT.mono (A6 hD),uS,by rw[FJ];exact .nil,none,?_⟩;show[none,(σ[j]?).join]=_;rw[hj]
 ·rintro D i ys σ' H' _ ⟨_,s,tT,h1,h2,_⟩;have:=Bl h2;rw[Ya,Yx]at this;exact⟨AL.of (D8 hT.tbl s ht (λ_ z=>nomatch z)),W⟩
 ·rintro D i v ys σ' H' hD hi ⟨_,s,tT,h1,h2,o,rfl⟩;obtain⟨x,hx,rfl⟩:=Lv hi;refine he x H' _ (Yc hx) (kd.monoT hT.tbl s) tT λb BH hb s2 t2 Ju=>?_;have G5:=D8 tT.tbl s2 h1 (λ_ z=>nomatch z);have k3:∀ b u,b≠D->BH b=some u->(upd BH D (.lst (ys++[.ref b]))) b=some u:=λb u hb e=>by rw[AD hb];exact e
  have bD:b≠D:=Yr (AH h1 hb);refine⟨G5,hD,λc u hc e=>?_,t2.keep λc u hu e=>?_,uS,?_,Z⟩
  ·rw[AD (AH e hD)];exact s2 c u hc (s c u hc e)
  ·rw[AD (λz=>by rw[z,G5]at e;rcases hu with⟨_,rfl⟩ | ⟨_,_,rfl⟩ <;> cases e)];exact e
  ·rw[B9,hx];unfold Dl;rw[CD];refine Fn (Paired.mapP h2 λc v ⟨b',e,n',f',h'⟩=>⟨b',e,n',f',?_⟩) ⟨b,Y,bD,La hT.tbl s tT.tbl hb,?_⟩
   ·rw[AD n'];exact D8 tT.tbl s2 h' (λ_ z=>nomatch z)
   ·rw[AD bD];exact Ju
 ·rintro D ys σ' H' hD ⟨_,s,tT,h1,h2,_⟩;rw[Ya,De]at h2;exact hd D H' ys hD s tT h1 h2
abbrev Hf:LS:=["board","call"]
abbrev X5:LS:=["board","call","kinds"]
def eu:Ab X5 Hf (AK P9):=by nofun
def hO:(["word","kinds"]:LS).Nodup:=by rfl'
def ue{lp:Pos}(F:Def K mg "plain_lineup" P9 Hf f fd)(list:mg "list"=none)(range:mg "range"=none)(TB:E_ K B)(MK:Lg K B fK fdK)(MP:SO K B fPl fdPl)(DP:Def K mg "plain_line" KR Gv fP fdP)(GP:⋯ 7 fP fdP Gv (SK C T lp)):⋯ 8 f fd Hf (iI C B T lp):=by
 have GK:⋯ 1 fK fdK ["self"] (KI C B):=Ly MK.fn TB;have GPl:⋯ 1 fPl fdPl ["self"] (Pj C B):=Su MP.fn TB
 nomatch F.fn.ok eu
 ·obtain⟨p,k,t,rows,n,ds,xs,rfl,_⟩:=h;rfl
 ·obtain⟨p,k,t,rows,n,ds,xs,rfl,bd,g,n4,ht,gc,hT,q⟩:=h;obtain⟨dx,ts,us,h1,h2,h3,h4⟩:=bd.ex;have nd:=eu.nd;have Ah:AU 1 _:=hr.mono (by decide);have xl:=gc.len
  ac_nf
  refine'⟨_,(pS (B1 (i:=2) nd rfl (Or.inr rfl) (C8 (pv 0) TB.cl MK.me GK Ah MK.b .nil A3))
   (AG (AS (CP (pC (Po rfl (C8 (pv 0) TB.cl MP.me GPl Ah MP.b .nil A3) (by rfl) list (by rfl) range) (pC ?e1 AB)))))),?_⟩
  case e1=>exact(BC ["word"] ["kinds"] [2] (λ_=>A4 (osc:=AK P9) (on:=X5) (by rfl') rfl rfl rfl) (HJ (pv 1)) (λC s H fp=>Ay (i:=0) hO rfl (Or.inl rfl) (Or.inr rfl)) (λC s H fp=>B6) (λC s H fp=>AN DP GP hr (pC (pv 1) (pC (pv 0) AB))))
  exists AE _ a _ _ _
  refine⟨Z,p,dx,Z,h1,Lx _ _ _,p,k,O,Y,bd,?_⟩;refine⟨Z,p,dx,Z,h1,Ss _ _ _,p,k,O,Y,bd,Z,W,W,λl1 Aq=>?_⟩;rw[Yq,Se];have s1:AA H (upd H l1 (.lst ((Ad n).map V.int))):=A6 Aq;have Bc:(upd H l1 (.lst ((Ad n).map V.int))) l1=some (.lst ((Ad n).map V.int)):=uS;generalize upd H l1 (.lst ((Ad n).map V.int))=H1 at s1 Bc;have F2:=hT.mono s1;refine⟨Z,t,Y,⟨_,AL.of (s1 _ _ ht)⟩,cV rfl (s1 _ _ ht) (by omega) (h2.mono s1) F2 (λx H' R hx kd tT hR=>⟨Z,Z,k,rows,x,Y,kd,g,gc.known x hx,tT,hR⟩) λD H2 hs hD s2 Im G5 pr=>?_⟩;refine⟨U,λlu hlu=>?_⟩;have s3:AA H2 (upd H2 lu (.tup [.ref l1,.ref D])):=A6 hlu;exact q lu _ ((s1.t (P:=T)).trans (s2.trans s3.t)) (Im.mono s3) ⟨l1,D,hs,s1.free (La F2.tbl s2 Im.tbl hlu),Aq,s1.free hD,uS,s3 _ _ (D8 F2.tbl s2 Bc (λ_ z=>nomatch z)),s3 _ _ G5,Paired.mapP pr λc v ⟨b,e,_,f,hb⟩=>⟨b,e,s1.free f,s3 _ _ hb⟩⟩
def uL{l r:LS}{a b:Str}(ha:a∈l)(hb:b∉l):(l++r).idxOf a<(l++r).idxOf b:=by
 induction l with
 | nil=>cases ha
 | cons y l ih =>
  rw[List.cons_append,MR,MR];have hyb:y≠b:=λz=>hb (by rw[z];exact .head _);rw[show(y == b)=false from JL.mpr hyb];by_cases hya:y=a
  ·rw[show(y == a)=true from by rw[hya];exact beq_self_eq_true _];exact Nat.succ_pos _
  ·rw[show(y == a)=false from JL.mpr hya];exact Nat.succ_lt_succ (ih ((Yw.mp ha).resolve_left λz=>hya z.symm) λz=>hb (.tail _ z))
def mS{rows:RS}{x u a b:Str}(ha:a∈Hv rows x u)(ra:Graph.Reach (Ag rows) a u)(rb:¬ Graph.Reach (Ag rows) b u):(Hv rows x u).idxOf a<(Hv rows x u).idxOf b:=by
 unfold Hv at ha ⊢;refine uL ?_ λhb=>rb (Dr.mp (Yu.mp hb).2)
 rcases Yv.mp ha with z | z
 ·exact z
 ·exact Yu.mpr ⟨(Yu.mp z).1,Dr.mpr ra⟩
def Hs(rows:RS)(ds:List (LS))(n a b:Nat):LN:=(List.range n).filter λi=>!AY rows ((ds.getD a []).getD i "") ((ds.getD b []).getD i "")
def CM(n i:Nat):List Int:=((i:Nat):Int):: (Ad n).filter λj=>!decide (j=((i:Nat):Int))
def Cf(rows:RS)(ds:List (LS))(xs:LS)(b i:Nat):List (LS):=(Dl rows xs).set i (Hv rows (xs.getD i "") ((ds.getD b []).getD i ""))
def getD_some{l:LS}{i:Nat}(h:i<l.length):l[i]?=some (l.getD i ""):=by
 rw[Yh,Yb h];rfl
def tX{rows:RS}{ds:List (LS)}{n a b:Nat}(la:(ds.getD a []).length=n)(lb:(ds.getD b []).length=n)(w:wB rows ds a b=false):Hs rows ds n a b≠[]:=λz=>by
 have:wB rows ds a b=true:=by
  unfold wB;rw[KP];intro i x y hx hy;have hi:=(Ye.mp hx).1;rw[getD_some hi]at hx;rw[getD_some (by omega)]at hy;injection hx with hx;injection hy with hy;refine Dr.mp ?_;cases h:AY rows x y with
  | true=>rfl
  | false =>
   have m:i∈Hs rows ds n a b:=Yu.mpr ⟨Bp.mpr (by omega),by rw[hx,hy,h];rfl⟩;rw[z]at m;cases m
 rw[this]at w;cases w
def V2{rows:RS}{n:Nat}{xs:LS}(g:AR rows)(gc:BX rows n xs):Dg rows xs (Ad n) (Dl rows xs):=by
 refine⟨by rw[gc.len],by rw[Ya],λi x c hx hc=>?_⟩;rw[Yi,hx]at hc;injection hc with hc;rw[<- hc];exact ZV (Sv rows x) (a8 g x)
def oG{n i:Nat}(hi:i<n):(CM n i).Perm (Ad n):=by
 have nd:(Ad n).Nodup:=by
  unfold Ad;rw[Fo,Ka];exact(Fo.mp List.nodup_range).imp λh z=>h (by omega)
 have m:((i:Nat):Int)∈Ad n:=Yg.mpr ⟨i,Bp.mpr hi,Y⟩;unfold CM;have e:(Ad n).filter (λj=>!decide (j=((i:Nat):Int)))=(Ad n).erase ((i:Nat):Int):=by
  rw[nd.erase_eq_filter];refine QP λj _=>?_;by_cases h:j=((i:Nat):Int)
  ·simp[h]
  ·simp[h]
 rw[e];exact(List.perm_cons_erase m).symm
def cc{rows:RS}{n i b:Nat}{ds:List (LS)}{xs:LS}(g:AR rows)(gc:BX rows n xs)(hi:i<n):Dg rows xs (CM n i) (Cf rows ds xs b i):=by
 have P:=V2 g gc;refine⟨by rw[gc.len];exact oG hi,by unfold Cf;rw[List.length_set];exact P.len,λj x c hx hc=>?_⟩;unfold Cf at hc;by_cases q:i=j
 ·subst q;have Jo:=hx;rw[getD_some (by have:=gc.len;omega)]at Jo;injection Jo with Jo;rw[Tr (by rw[Ya];have:=gc.len;omega)]at hc;injection hc with hc;rw[<- hc,Jo];exact qF g _ _
 ·rw[List.getElem?_set_ne q]at hc;exact P.line j x c hx hc
theorem Zc{W:Nat->Nat->Bool}:∀(row:LN) {l e:LN},nx W l.length l=(row,e)->∃ left,Bn W left=e/\e.length≠1/\(row++left).Perm l
 | [],l,e,h=>by
  obtain⟨a,b⟩:=sY h;exact⟨l,a,b,IG _⟩
 | k :: r,l,e,h=>by
  obtain⟨m1,h2⟩:=hY h;have kl:k∈l:=KD k (by rw[m1];exact .head _);obtain⟨left,a,b,p⟩:=Zc r h2;exact⟨left,a,b,(List.Perm.cons k p).trans (List.perm_cons_erase kl).symm⟩
section
variable {rows:RS}{n:Nat}{ds:List (LS)}{xs:LS}{row near left:LN}
def cE{ord:List Int}{cs:List (LS)}(g:AR rows)(gd:BE rows n ds)(gc:BX rows n xs)(L:Dg rows xs ord cs)(e:nx (wB rows ds) (AO rows ds xs).length (AO rows ds xs)=(row,near))(pl:(row++left).Perm (AO rows ds xs)){j y:Nat}(hj:(BZ rows ds xs ord cs)[j]?=some y):(row.length<=j↔y∈left):=by
 have fnd:=J6 rows ds xs;have rn:(BZ rows ds xs ord cs).Nodup:=(JE rows ds xs ord cs).nodup_iff.mpr fnd;have rt:=aS (ds:=ds) g gd gc L;rw[e]at rt;have rt:(BZ rows ds xs ord cs).take row.length=row:=rt;have pnd:(row++left).Nodup:=pl.nodup_iff.mpr fnd;have yf:y∈AO rows ds xs:=(JE _ _ _ _ _).mem_iff.mp (Yc hj);constructor
 ·intro hl
  rcases Yv.mp (pl.mem_iff.mpr yf)with z | z
  ·rw[<- rt]at z;obtain⟨i,hi⟩:=Gj z;have il:=(Ye.mp hi).1;rw[Yx]at il;rw[Ww (by omega)]at hi;obtain⟨a1,a2⟩:=Ye.mp hi;obtain⟨b1,b2⟩:=Ye.mp hj;have:=(List.getElem_inj rn).mp (a2.trans b2.symm);omega
  ·exact z
 ·intro hy;refine IE λno=>?_;have:y∈row:=by rw[<- rt];exact Yc (i:=j) (by rw[Ww (by omega)];exact hj)
  exact(List.nodup_append.mp pnd).2.2 y this y hy rfl
def tR{a b i:Nat}{r:LN}(g:AR rows)(gd:BE rows n ds)(gc:BX rows n xs)(e:nx (wB rows ds) (AO rows ds xs).length (AO rows ds xs)=(row,near))(pl:(row++left).Perm (AO rows ds xs))(ha:a∈left)(hb:b∈left)(ne:a≠b)(hp:Hs rows ds n a b=i :: r):i<n/\(BZ rows ds xs (CM n i) (Cf rows ds xs b i))[row.length]?≠some a:=by
 obtain⟨hi,hr⟩:=Yu.mp (show i∈Hs rows ds n a b by rw[hp];exact .head _);have hi:=Bp.mp hi;refine⟨hi,λh=>?_⟩;have lu:Dg rows xs (CM n i) (Cf rows ds xs b i):=cc g gc hi;have af:a∈AO rows ds xs:=pl.mem_iff.mp (Yy _ ha);have bf:b∈AO rows ds xs:=pl.mem_iff.mp (Yy _ hb);obtain⟨j,hj⟩:=Gj ((JE rows ds xs (CM n i) (Cf rows ds xs b i)).mem_iff.mpr bf);have jr:=(cE g gd gc lu e pl hj).mpr hb;have jr:row.length<j:=Nat.lt_of_le_of_ne jr λz=>by
  rw[<- z,h]at hj;injection hj with hj;exact ne hj
 obtain⟨h1,h2⟩:=Ye.mp h;obtain⟨j1,j2⟩:=Ye.mp hj;have bad:=MM.mp (VO rows ds xs (CM n i) (Cf rows ds xs b i)) row.length j h1 j1 jr;rw[h2,j2]at bad;obtain⟨dy,xy,cy,a1,a2,a3,a4,a5,a6,a7⟩:=Lh g gd gc lu bf hi;obtain⟨dx,xx,cx,b1,b2,b3,b4,b5,b6,b7⟩:=Lh g gd gc lu af hi;have NN:=a3;unfold Cf at NN;rw[Tr (by rw[Ya];have:=gc.len;omega)]at NN;injection NN with NN;have lt:DQ (ds.getD b []) (Cf rows ds xs b i) (i:Nat)<DQ (ds.getD a []) (Cf rows ds xs b i) (i:Nat):=by
  unfold DQ;rw[Yq,a6,b6,a7,<- NN];refine Int.ofNat_lt.mpr (mS (by rw[NN];exact a5) ?_ λz=>?_)
  ·rw[a6];exact .refl _
  ·rw[b6,Dr.mpr z]at hr;cases hr
 unfold HK CM at bad;rw[Yo,Yo,HT.lexLt_cons,if_neg (by omega),Jb lt]at bad;cases bad
end
theorem cU{α β:Type}{F:α->β->Prop}{x:α}{y:β}(h:F x y):∀ {a:List α}{b:List β}(i:Nat),Paired F a b->Paired F (a.set i x) (b.set i y)
 | _,_,_,.nil=>.nil
 | _,_,0,.cons _ t=>.cons h t
 | _,_,i + 1,.cons q t=>.cons q (cU h i t)
def UK(rows:RS)(ds:List (LS))(a b:Nat):V->Bool
 | .int i=>!AY rows ((ds.getD a []).getD i.toNat "") ((ds.getD b []).getD i.toNat "")
 | _=>false
theorem iT(rows:RS)(ds:List (LS))(a b:Nat):∀ l:LN,((l.map AF).filter (UK rows ds a b)).map (λv=>v)=(l.filter λi=>!AY rows ((ds.getD a []).getD i "") ((ds.getD b []).getD i "")).map AF
 | []=>rfl
 | k :: r=>by
  have:=iT rows ds a b r;rw[Gh]at this ⊢;rw[Yo,ED,ED,this];show(if(!AY rows ((ds.getD a []).getD ((k:Nat):Int).toNat "") ((ds.getD b []).getD ((k:Nat):Int).toNat ""))=true then _ else _)=_;rw[Yq];split <;> rfl
def UO(i:Nat):V->Bool
 | .int j=>!decide (j=((i:Nat):Int))
 | _=>false
theorem hX(i:Nat):∀ l:List Int,((l.map V.int).filter (UO i)).map (λv=>v)=(l.filter λj=>!decide (j=((i:Nat):Int))).map V.int
 | []=>rfl
 | k :: r=>by
  have:=hX i r;rw[Gh]at this ⊢;rw[Yo,ED,ED,this];show(if(!decide (k=((i:Nat):Int)))=true then _ else _)=_;split <;> rfl
def ph(n:Nat):(Ad n).map V.int=(List.range n).map AF:=by
 unfold Ad;rw[Bo];rfl
def rg{m i:Nat}(h:i<m):Gx m ((i:Nat):Int)=some i:=by
 unfold Gx;rw[if_pos (by omega),if_pos (by omega),Yq]
def fc(C B T:Addr)(lp:Pos):Sp:=λvs H Q _=>∃(p k t:Addr) (rows:RS) (n:Nat) (ds:List (LS)) (xs:LS) (a b i:Nat) (r:LN),vs=[.ref p,.ref t,.int (a:Nat),.int (b:Nat)]/\B0 C B H p k rows n ds/\AR rows/\BE rows n ds/\n<=4/\H t=some (.tup (xs.map V.str))/\BX rows n xs/\EM T lp H/\a∈AO rows ds xs/\b∈AO rows ds xs/\Hs rows ds n a b=i :: r /\
 ∀ lu H',BW T H H'->EM T lp H'->F8 H H' lu (CM n i) (Cf rows ds xs b i)->Q (.ref lu) H'
abbrev RW:LS:=["board","call","one","other","kinds","one_kinds","other_kinds","places","parted","order","lines"]
abbrev QC:LS:=["board","call","one","other"]
def eG:Ab RW QC (AK L4):=by nofun
def uR:(["place","kinds","one_kinds","other_kinds"]:LS).Nodup:=by rfl'
def sN:(["place","parted"]:LS).Nodup:=by rfl'
set_option maxHeartbeats 8000000 in
def oy{lp:Pos}(F:Def K mg "lineup_against" L4 QC f fd)(list:mg "list"=none)(range:mg "range"=none)(TC:CT K C)(TB:E_ K B)(MK:Lg K B fK fdK)(MD:Nf K B fD fdD)(MP:SO K B fPl fdPl)(MU:LY K C fU fdU)(GU:⋯ 3 fU fdU ["self","one","other"] (PM C))
  (DP:Def K mg "plain_line" KR Gv fP fdP) (GP:⋯ 7 fP fdP Gv (SK C T lp)) (DA:Def K mg "line_ahead" N3 QF fA fdA) (GA:⋯ 8 fA fdA QF (Z3 C T lp)):⋯ 9 f fd QC (fc C B T lp):=by
 have GK:⋯ 1 fK fdK ["self"] (KI C B):=Ly MK.fn TB;have GD:⋯ 1 fD fdD ["self"] (Lr C B):=Nv MD.fn TB list;have GPl:⋯ 1 fPl fdPl ["self"] (Pj C B):=Su MP.fn TB
 nomatch F.fn.ok eG
 ·obtain⟨p,k,t,rows,n,ds,xs,a,b,i,r,rfl,_⟩:=h;rfl
 ·obtain⟨p,k,t,rows,n,ds,xs,a,b,i,r,rfl,bd,g,gd,n4,ht,gc,hT,af,bf,hp,q⟩:=h;obtain⟨dx,ts,us,h1,h2,h3,h4⟩:=bd.ex;have nd:=eG.nd;have Ah:AU 1 _:=hr.mono (by decide);have CJ:AU 3 _:=hr.mono (by decide);have Oa:AU 7 _:=hr.mono (by decide);have xl:=gc.len
  ac_nf
  refine'⟨_,(pS (B1 (i:=4) nd rfl (Or.inr rfl) (C8 (pv 0) TB.cl MK.me GK Ah MK.b .nil A3))
   (pS (B1 (i:=5) nd rfl (Or.inr rfl) (AV (r:=BV K) Ar (C8 (pv 0) TB.cl MD.me GD Ah MD.b .nil A3) (pv 2) (λ_ _=>rfl)))
   (pS (B1 (i:=6) nd rfl (Or.inr rfl) (AV (r:=BV K) Ar (C8 (pv 0) TB.cl MD.me GD Ah MD.b .nil A3) (pv 3) (λ_ _=>rfl)))
   (pS (sE 7 nd (Po rfl (C8 (pv 0) TB.cl MP.me GPl Ah MP.b .nil A3) (by rfl) list (by rfl) range))
   (pS (B1 (i:=8) nd rfl (Or.inr rfl) (AV (r:=BV K) Ar ?e1 AI (λ_ _=>rfl)))
   (pS (sE 9 nd (Ai VA (B4 (pC (pv 8) AB)) ?e2))
   (pS ?e3
   (pS (R0 (AN DA GA hr (pC (pv 4) (pC (AV (r:=BN K) BQ (pv 1) (pv 8) (λ_ _=>rfl)) (pC (AV (r:=BN K) BQ (pv 6) (pv 8) (λ_ _=>rfl)) AB)))) (U7 (pv 10) (pv 8) Vi))
   (AG (AS (CP (pC (pv 9) (pC (pv 10) AB))))))))))))),?_⟩
  case e1=>exact(BC ["place"] ["kinds","one_kinds","other_kinds"] [4,5,6] (λ_=>A4 (osc:=AK L4) (on:=RW) (by rfl') rfl rfl rfl) (Be (pv 7)) (λC s H fp=>Ay (i:=0) uR rfl (Or.inl rfl) (Or.inr rfl))
    (λC s H fp=>EX (CV (B7 (Dc (pv 1) TC.cl MU.me GU CJ MU.b .nil A3 (pC (AV (r:=BN K) BQ (pv 2) (pv 0) (λ_ _=>rfl)) (pC (AV (r:=BN K) BQ (pv 3) (pv 0) (λ_ _=>rfl)) AB)))))) (λC s H fp=>pv 0))
  case e2=>exact(BC ["place"] ["parted"] [8] (λ_=>A4 (osc:=AK L4) (on:=RW) (by rfl') rfl rfl rfl) (Be (pv 7)) (λC s H fp=>Ay (i:=0) sN rfl (Or.inl rfl) (Or.inr rfl)) (λC s H fp=>EX (Am F9 (pv 0) (pv 1) (Ak _))) (λC s H fp=>pv 0))
  case e3=>exact(Sw (k:=10) ["word"] ["kinds"] [4] nd rfl rfl (λ_=>A4 (osc:=AK L4) (on:=RW) (by rfl') rfl rfl rfl) (HJ (pv 1)) (λC s H fp=>Ay (i:=0) hO rfl (Or.inl rfl) (Or.inr rfl)) (λC s H fp=>B6) (λC s H fp=>AN DP GP Oa (pC (pv 1) (pC (pv 0) AB))))
  exists let b:=AE _ a;let c:=AE _ b;let e:=AE _ c;let f:=AE _ e;let g:=AE _ f;let h:=AE _ g;let i:=AE _ h;AE _ i _ _ _
  obtain⟨al,_⟩:=Fj af;obtain⟨bl,bw⟩:=Fj bf;have la:=GY gd al;have lb:=GY gd bl;obtain⟨hi,_⟩:=Yu.mp (show i∈Hs rows ds n a b by rw[hp];exact .head _);have hi:=Bp.mp hi;refine⟨Z,p,dx,Z,h1,Lx _ _ _,p,k,O,Y,bd,?_⟩;refine⟨Z,p,dx,Z,h1,Lw _ _ _,p,k,O,Y,bd,λl1 RM Aq E8=>?_⟩;have s1:AA H (upd H l1 (.lst RM)):=A6 Aq;have Bc:(upd H l1 (.lst RM)) l1=some (.lst RM):=uS;generalize upd H l1 (.lst RM)=H1 at s1 Bc;obtain⟨ta,hat,hta⟩:=IA E8 s1 al;refine⟨Z,l1,_,_,Z,Y,SqL.of Bc,hat,?_⟩;refine⟨Z,p,dx,Z,s1 _ _ h1,Lw _ _ _,p,k,O,Y,bd.mono s1,λl2 RL BK G5=>?_⟩;have s2:AA H1 (upd H1 l2 (.lst RL)):=A6 BK;have CQ:(upd H1 l2 (.lst RL)) l2=some (.lst RL):=uS;generalize upd H1 l2 (.lst RL)=H2 at s2 CQ;obtain⟨tb,hbt,htb⟩:=IA G5 s2 bl;have Bq:=s1.trans s2;refine⟨Z,l2,_,_,Z,Y,SqL.of CQ,hbt,?_⟩;refine⟨Z,p,dx,Z,Bq _ _ h1,Ss _ _ _,p,k,O,Y,bd.mono Bq,Z,W,W,λl3 Bm=>?_⟩;rw[Yq,Se];have s3:AA H2 (upd H2 l3 (.lst ((Ad n).map V.int))):=A6 Bm;have Dk:(upd H2 l3 (.lst ((Ad n).map V.int))) l3=some (.lst ((Ad n).map V.int)):=uS;generalize upd H2 l3 (.lst ((Ad n).map V.int))=H3 at s3 Dk;have Az:=Bq.trans s3;have XH:=s3 _ _ (s2 _ _ hta);have Qf:=s3 _ _ htb;have Jn:=h2.mono Az;have atk:∀ {d:Nat} {j:Nat},d<ds.length->j<n->BS ((ds.getD d []).map V.str) ((j:Nat):Int)=some (.str ((ds.getD d []).getD j ""))/\(ds.getD d []).getD j ""∈rows.map (·.1):=λ{d j} hd hj=>by
   have e:=getD_some (l:=ds.getD d []) (i:=j) (by rw[GY gd hd];exact hj);refine⟨FA (by omega) ?_,Pl gd hd _ (Yc e)⟩;rw[Yq,Yi,e];rfl
  have Mt:=Dk;rw[ph]at Mt;refine⟨Z,l3,Y,⟨_,SqL.of Mt⟩,EY (Bk (xs:=(List.range n).map AF)) (sL (by rw[Ya,Df];omega)) (UK rows ds a b) (λv=>v) (λH' s'=>s'.seq (SqL.of Mt)) ?_ ?_ ?_⟩
  ·intro v H' R s' hv Ae;obtain⟨j,hj,rfl⟩:=Yg.mp hv;have hj:=Bp.mp hj;obtain⟨F4,d',a',o',Xz,BY,Qy,Ei,_⟩:=(Jn.mono s').ex;obtain⟨e1,m1⟩:=atk al hj;obtain⟨e2,m2⟩:=atk bl hj;refine⟨Z,k,F4,Z,Ei,Pb _ _,Z,Z,ta,_,_,Z,Y,AL.of (s' _ _ XH),e1,Z,Z,tb,_,_,Z,Y,AL.of (s' _ _ Qf),e2,k,rows,_,Z,Jn.mono s',g,m1,m2,Z,?_⟩;have e:UK rows ds a b (AF j)=!AY rows ((ds.getD a []).getD j "") ((ds.getD b []).getD j ""):=by
    show(!AY rows ((ds.getD a []).getD ((j:Nat):Int).toNat "") ((ds.getD b []).getD ((j:Nat):Int).toNat ""))=_;rw[Yq]
   have B_:=Ae H' (AA.refl _);rw[e]at B_;exact B_
  ·intro v H' R s' _ _ Ae;exact⟨Z,Ae H' (AA.refl _)⟩
  intro l4 H4 Di s4 Ot;rw[iT]at Ot;have Ot:H4 l4=some (.lst ((Hs rows ds n a b).map AF)):=Ot;rw[hp]at Ot;refine⟨l4,_,_,AF i,Y,Y,SqL.of Ot,FA (Int.le_refl _) rfl,?_⟩;refine⟨Z,J,λl5 FV=>?_⟩;have s5:AA H4 (upd H4 l5 (.lst [AF i])):=A6 FV;have NG:(upd H4 l5 (.lst [AF i])) l5=some (.lst [AF i]):=uS;generalize upd H4 l5 (.lst [AF i])=H5 at s5 NG;have Y4:=s5 _ _ (s4 _ _ Dk);have rlen:(Ad n).length=n:=by unfold Ad;rw[Ya,Df]
  refine⟨Z,l3,Y,⟨_,SqL.of Y4⟩,EY (Bk (xs:=(Ad n).map V.int)) (sL (by rw[Ya];omega)) (UO i) (λv=>v) (λH' s'=>s'.seq (SqL.of Y4)) ?_ ?_ ?_⟩
  ·intro v H' R s' hv Ae;obtain⟨j,hj,rfl⟩:=Yg.mp hv;refine⟨Z,Z,Y,Z,?_⟩;have e:UO i (.int j)=!decide (V.int j=AF i):=by
    show(!decide (j=((i:Nat):Int)))=_;exact congrArg _ (OE.mpr ⟨λz=>by rw[z];rfl,λz=>by injection z⟩)
   have B_:=Ae H' (AA.refl _);rw[e]at B_;exact B_
  ·intro v H' R s' _ _ Ae;exact⟨Z,Ae H' (AA.refl _)⟩
  intro l6 H6 Of s6 Y3;rw[hX]at Y3;have fl:=EE (λj=>!decide (j=((i:Nat):Int))) (Ad n);refine⟨l5,l6,_,Z,Y,s6 _ _ NG,Y3,sL (by rw[Ya];show 1 + _<=100000;omega),λl7 YS=>?_⟩;have eo:[AF i]++((Ad n).filter λj=>!decide (j=((i:Nat):Int))).map V.int=(CM n i).map V.int:=rfl;rw[eo];have s7:AA H6 (upd H6 l7 (.lst ((CM n i).map V.int))):=A6 YS;have Ut:(upd H6 l7 (.lst ((CM n i).map V.int))) l7=some (.lst ((CM n i).map V.int)):=uS;generalize upd H6 l7 (.lst ((CM n i).map V.int))=H7 at s7 Ut;have Xx:=s4.trans (s5.trans (s6.trans s7));have Gs:=Az.trans Xx;have LH:=hT.mono Gs;have jb:H l7=none:=(Az.trans (s4.trans (s5.trans s6))).free YS;refine⟨Z,t,Y,⟨_,AL.of (Gs _ _ ht)⟩,cV rfl (Gs _ _ ht) (by omega) (h2.mono Gs) LH (λx H' R hx kd tT hR=>⟨Z,Z,k,rows,x,Y,kd,g,gc.known x hx,tT,hR⟩) λD H8 hs hD s8 Oo G0 pr=>?_⟩;have YI:∀ {b:Addr} {us:LV},H7 b=some (.tup us)->H8 b=some (.tup us):=λe=>D8 LH.tbl s8 e (λ_ z=>nomatch z);have hx:xs[i]?=some (xs.getD i ""):=getD_some (by omega);have hatx:BS (xs.map V.str) ((i:Nat):Int)=some (.str (xs.getD i "")):=FA (by omega) (by rw[Yq,Yi,hx];rfl);obtain⟨e2,m2⟩:=atk bl hi;have re:Graph.Reach (Ag rows) (xs.getD i "") ((ds.getD b []).getD i ""):=by
   rw[KP]at bw;exact bw i _ _ hx (getD_some (by omega))
  refine⟨Z,Z,Z,t,_,_,Z,Y,AL.of (YI (Gs _ _ ht)),hatx,Z,Z,tb,_,_,Z,Y,AL.of (YI (Xx _ _ Qf)),e2,k,rows,_,Z,(h2.mono Gs).monoT LH.tbl s8,g,gc.known _ (Yc hx),m2,re,Oo,λD9 H9 Y0 s9 kI Rq=>?_⟩;have Qv:=D8 Oo.tbl s9 G0 (λ_ z=>nomatch z);have hl:=Bl pr;rw[Ya]at hl;refine⟨Z,Z,D,hs,_,i,Y,Y,Qv,rg (by omega),?_⟩;have nD:D9≠D:=Yr (AH G0 Y0);have M9:∀ b u,b≠D->H9 b=some u->(upd H9 D (.lst (hs.set i (.ref D9)))) b=some u:=λb u hb e=>by rw[AD hb];exact e
  have NH:(upd H9 D (.lst (hs.set i (.ref D9)))) D=some (.lst (hs.set i (.ref D9))):=uS;have Ms:EM T lp (upd H9 D (.lst (hs.set i (.ref D9)))):=kI.keep λc u hu e=>M9 c u (λz=>by rw[z,Qv]at e;rcases hu with⟨_,rfl⟩ | ⟨_,_,rfl⟩ <;> cases e) e;generalize upd H9 D (.lst (hs.set i (.ref D9)))=Fs at M9 NH Ms;have sT:BW T H Fs:=λc u hc e=>M9 c u (AH (Gs _ _ e) hD) (s9 c u hc (s8 c u hc (Gs _ _ e)));refine⟨Z,Z,U,λlu hlu=>?_⟩;have He:AA Fs (upd Fs lu (.tup [.ref l7,.ref D])):=A6 hlu;have jc:l7≠D:=AH Ut hD;have HZ:∀ {c:Addr},H7 c=none->H c=none:=λe=>Gs.free e;refine q lu _ (sT.trans He.t) (Ms.mono He) ⟨l7,D,_,La hT.tbl sT Ms.tbl hlu,jb,HZ hD,uS,He _ _ (M9 _ _ jc (D8 Oo.tbl s9 (D8 LH.tbl s8 Ut (λ_ z=>nomatch z)) (λ_ z=>nomatch z))),He _ _ NH,?_⟩;unfold Cf;refine cU ⟨D9,Y,HZ (La LH.tbl s8 Oo.tbl Y0),He _ _ (M9 _ _ nD Rq)⟩ i (Paired.mapP pr λc v ⟨b',e,n',f',h'⟩=>⟨b',e,HZ f',He _ _ (M9 _ _ n' (D8 Oo.tbl s9 h' (λ_ z=>nomatch z)))⟩)
def Rz{rows:RS}{xs:LS}{ord:List Int}{cs:List (LS)}(g:AR rows)(h4:xs.length<=4)(h:Dg rows xs ord cs):MF ord cs:=by
 refine⟨?_,by rw[h.len];omega,λc hc=>?_⟩
 ·rw[h.ord.length_eq];unfold Ad;rw[Ya,Df];omega
 ·obtain⟨i,hi⟩:=Gj hc;have il:=(Ye.mp hi).1;rw[h.len]at il;have L:=h.line i _ c (Yb il) hi;refine⟨λz hz=>PN (V5 g z (JD (L.1.mem_iff.mp hz))),?_⟩;have:=Nj g (xs[i]);rw[L.1.length_eq];omega
def NT.l{H H':Hp}(s:NT H H'){b:Addr}{us:LV}(h:H b=some (.lst us)):H' b=some (.lst us):=s b _ (λ_ z=>nomatch z) h
def NT.t{H H':Hp}(s:NT H H'){b:Addr}{us:LV}(h:H b=some (.tup us)):H' b=some (.tup us):=s b _ (λ_ z=>nomatch z) h
def F8.sub{H0 H1 H:Hp}{t:Addr}{ord:List Int}{cs:List (LS)}(h:F8 H1 H t ord cs)(s:∀ b,H1 b=none->H0 b=none):F8 H0 H t ord cs:=by
 obtain⟨lo,ll,vs,f1,f2,f3,h1,h2,h3,h4⟩:=h;exact⟨lo,ll,vs,s _ f1,s _ f2,s _ f3,h1,h2,h3,Paired.mapP h4 λc v ⟨b,e,f,hb⟩=>⟨b,e,s _ f,hb⟩⟩
def eD(near:LN)(first:Nat):Nat:=if near.getD 0 0=first then near.getD 1 0 else near.getD 0 0
def iH(C B T U:Addr)(lp lr:Pos):Sp:=λvs H Q _=>∃(p k t:Addr) (rows:RS) (n:Nat) (ds:List (LS)) (xs:LS) (row near:LN),vs=[.ref p,.ref t]/\B0 C B H p k rows n ds/\AR rows/\BE rows n ds/\n<=4/\ds.length<=24/\H t=some (.tup (xs.map V.str))/\BX rows n xs/\Eu T U lp lr H/\nx (wB rows ds) (AO rows ds xs).length (AO rows ds xs)=(row,near) /\
 (near=[]->∀ H',NT H H'->Eu T U lp lr H'->Q .non H')/\(near≠[]->∀(pt u1 u2:Addr) (first b i:Nat) (r:LN) (H':Hp),NT H H'->Eu T U lp lr H'->H' pt=some (.tup [.ref u1,.ref u2])->F8 H H' u1 (Ad n) (Dl rows xs)->F8 H H' u2 (CM n i) (Cf rows ds xs b i)->(BZ rows ds xs (Ad n) (Dl rows xs))[row.length]?=some first->b=eD near first->Hs rows ds n first b=i :: r->i<n->(BZ rows ds xs (CM n i) (Cf rows ds xs b i))[row.length]?≠some first->Q (.ref pt) H')
abbrev jO:LS:=["board","call","answer","row","behind","plain","first","other"]
def e_:Ab jO Hf (AK Si):=by nofun
set_option maxHeartbeats 8000000 in
def pY{lp lr:Pos}(F:Def K mg "parting" Si Hf f fd)(len:mg "len"=none)(DN:Def K mg "nexts" SF ["board","call"] fN fdN)(GN:⋯ 7 fN fdN ["board","call"] (Z6 C B))(DL:Def K mg "plain_lineup" P9 Hf fL fdL)(GL:⋯ 8 fL fdL Hf (iI C B T lp))
  (DR:Def K mg "ranked" Lp EN fR fdR) (GR:⋯ 8 fR fdR EN (VE C B U lr)) (DA:Def K mg "lineup_against" L4 QC fA fdA) (GA:⋯ 9 fA fdA QC (fc C B T lp)):⋯ 10 f fd Hf (iH C B T U lp lr):=by
 nomatch F.fn.ok e_
 ·obtain⟨p,k,t,rows,n,ds,xs,row,near,rfl,_⟩:=h;rfl
 ·obtain⟨p,k,t,rows,n,ds,xs,row,near,rfl,bd,g,gd,n4,d24,ht,gc,tb,enx,q0,q1⟩:=h;have nd:=e_.nd;have hu:=hr.units;have Oa:AU 7 _:=hr.mono (by decide);have LD:AU 8 _:=hr.mono (by decide);have xl:=gc.len
  ac_nf
  refine'⟨_,(pS (sE 2 nd (AN DN GN Oa (pC (pv 0) (pC (pv 1) AB))))
   (pS (sE 3 nd (AV (r:=BN K) BQ (pv 2) AI (λ_ _=>rfl)))
   (pS (sE 4 nd (AV (r:=BN K) BQ (pv 2) AI (λ_ _=>rfl)))
   (pS (Aj (Am (su hu) (pv 4) (CP (pC EU AB)) (Ak _)) (AG (AS Na)) Al)
   (pS (sE 5 nd (AN DL GL LD (pC (pv 0) (pC (pv 1) AB))))
   (pS (sE 6 nd (AV (r:=BV K) Ar (AN DR GR LD (pC (pv 0) (pC (pv 1) (pC (pv 5) AB)))) (Af CC (by rfl) len Yz (pC (pv 3) AB)) (λ_ _=>rfl)))
   (pS (sE 7 nd (a0 (Am D_ (AV (r:=BN K) BQ (pv 4) AI (λ_ _=>rfl)) (pv 6) (Ak _)) (AV (r:=BN K) BQ (pv 4) AI (λ_ _=>rfl)) (AV (r:=BN K) BQ (pv 4) AI (λ_ _=>rfl))))
   (AG (AS (CP (pC (pv 5) (pC (AN DA GA hr (pC (pv 0) (pC (pv 1) (pC (pv 6) (pC (pv 7) AB))))) AB)))))))))))),?_⟩
  exists let b:=AE _ a;let c:=AE _ b;let e:=AE _ c;let f:=AE _ e;let g:=AE _ f;let h:=AE _ g;AE _ h _ _ _
  refine⟨Z,Z,p,k,t,O,xs,Y,bd,g,gd,n4,ht,gc,λtf l1 t1 H1 Aq s1 Oi Bc Jq=>?_⟩;rw[enx]at Bc Jq;refine⟨Z,tf,_,_,Z,Y,AL.of Oi,Y,Z,tf,_,_,Z,Y,AL.of Oi,Y,?_⟩;refine⟨Z,J,λt2 BD=>?_⟩;have s2:AA H1 (upd H1 t2 (.tup [.str "none"])):=A6 BD;have CQ:(upd H1 t2 (.tup [.str "none"])) t2=some (.tup (Eo [])):=uS;generalize upd H1 t2 (.tup [.str "none"])=H2 at s2 CQ;have Bq:=s1.trans s2;have Fu:=s2 _ _ Jq;refine⟨_,_,KH Fu,KH CQ,KG _ _,KG _ _,Z,?_⟩;obtain⟨left,em,e1,pl⟩:=Zc row enx
  match near,em,e1,enx,q0,q1,Fu with
  | [],em,e1,enx,q0,q1,Fu =>
   rw[EZ];exact By (q0 rfl H2 (AA.nt Bq) (tb.mono Bq))
  | [k1],em,e1,enx,q0,q1,Fu=>exact absurd rfl e1
  | k1 :: k2 :: r,em,e1,enx,q0,q1,Fu =>
   rw[show CL (.tuple (J1 (k1 :: k2 :: r))) (.tuple (J1 []))=false from GV (λz=>by injection z with z;injection z with z1 z2;cases z2)];have RQ:=tb.mono Bq;refine Ao ⟨Z,Z,p,k,t,O,xs,Y,bd.mono Bq,g,n4,Bq _ _ ht,gc,RQ.p,λu1 H3 s3 YZ RY=>?_⟩;have n3:NT H2 H3:=BW.nt s3 RQ.p.tbl;have UX:=(AA.nt Bq).trans n3;have RP:=RQ.plain s3 YZ;have plup:=V2 (xs:=xs) g gc;have fnd:=J6 rows ds xs;have lnd:(row++left).Nodup:=pl.nodup_iff.mpr fnd;have l2:k1∈left/\k2∈left/\k1≠k2/\∀ x∈left,(x≠k1->wB rows ds x k1=false)/\(x≠k2->wB rows ds x k2=false):=by
    have m1:=KD k1 (by rw[em];exact .head _:k1∈Bn (wB rows ds) left);have m2:=KD k2 (by rw[em];exact .tail _ (.head _):k2∈Bn (wB rows ds) left);have mn:(Bn (wB rows ds) left).Nodup:=List.Pairwise.filter _ (lnd.sublist (List.sublist_append_right _ _));rw[em]at mn;have no:∀ y,y∈Bn (wB rows ds) left->∀ x∈left,x≠y->wB rows ds x y=false:=λy hy x hx ne=>by
     have hy:=(Yu.mp hy).2;rw[KY,JO]at hy;cases h:wB rows ds x y with
     | false=>rfl
     | true=>exact absurd (by rw[Jc ne,h];rfl) (hy x hx)
    exact⟨m1,m2,λz=>(Ed.mp mn).1 (by rw[z];exact .head _),λx hx=>⟨no k1 (by rw[em];exact .head _) x hx,no k2 (by rw[em];exact .tail _ (.head _)) x hx⟩⟩
   obtain⟨m1,m2,Ra,wn⟩:=l2;refine⟨Z,Z,Z,p,t,u1,O,xs,_,Z,⟨⟨k,bd.monoN UX⟩,g,gd,n4,d24,UX.t ht,gc,RY.at_,Rz g (by omega) plup,plup,RP.r⟩,λlk H4 hlk s4 Oq Ic=>?_⟩;have RX:NT H3 H4:=BW.nt s4 RP.r.tbl;have M6:=UX.trans RX;have jX:NT H1 H4:=(AA.nt s2).trans (n3.trans RX);have Mx:=RP.rank s4 Oq;have rl:(BZ rows ds xs (Ad n) (Dl rows xs)).length=(row++left).length:=(JE _ _ _ _ _).length_eq.trans pl.length_eq.symm;have rlt:row.length<(BZ rows ds xs (Ad n) (Dl rows xs)).length:=by
    have:0<left.length:=IH.mpr (λz=>by rw[z]at m1;cases m1);rw[rl,Yt];omega
   obtain⟨first,hfi⟩:∃ first,(BZ rows ds xs (Ad n) (Dl rows xs))[row.length]?=some first:=⟨_,Yb rlt⟩
   have fl:first∈left:=(cE g gd gc plup enx pl hfi).mp (Yf _)
   refine⟨Z,l1,Z,.inl (SqL.of (jX.l Bc)),lk,_,_,AF first,Y,Y,SqL.of Ic,FA (by omega) (by rw[Ya,Yq,Yi,hfi];rfl),?_⟩;have Uh:=RX.t (n3.t Fu);have ho:∃ b,b=eD (k1 :: k2 :: r) first/\b∈left/\first≠b/\wB rows ds first b=false/\(decide (AF k1=AF first)=true->AF k2=AF b)/\(¬ decide (AF k1=AF first)=true->AF k1=AF b):=by
    by_cases e:k1=first
    ·refine⟨k2,(if_pos e).symm,m2,λz=>Ra (e.trans z),(wn first fl).2 (λz=>Ra (e.trans z)),λ_=>rfl,λno=>absurd (Jb (by rw[e])) no⟩
    ·refine⟨k1,(if_neg e).symm,m1,λz=>e z.symm,(wn first fl).1 (λz=>e z.symm),λy=>absurd (Je y) (λz=>e (by injection z with z;exact Int.ofNat.inj z)),λ_=>rfl⟩
   obtain⟨b,hb,bl,fb,wfb,o1,o2⟩:=ho;have af:first∈AO rows ds xs:=pl.mem_iff.mp (Yy _ fl)
   have bf:b∈AO rows ds xs:=pl.mem_iff.mp (Yy _ bl);obtain⟨i,rr,hp⟩:∃ i rr,Hs rows ds n first b=i :: rr:=by
    have:=tX (GY gd (Fj af).1) (GY gd (Fj bf).1) wfb;cases h:Hs rows ds n first b with
    | nil=>exact absurd h this
    | cons i rr=>exact⟨i,rr,Y⟩
   obtain⟨hi,pne⟩:=tR g gd gc enx pl fl bl fb hp;have a1:BS (Eo (k1 :: k2 :: r)) 1=some (AF k1):=rfl;have a2:BS (Eo (k1 :: k2 :: r)) 2=some (AF k2):=rfl;refine⟨Z,t1,_,_,Z,Y,AL.of Uh,a1,Z,Y,Z,A9 (λy=>⟨Z,t1,_,_,AF b,Y,Y,AL.of Uh,by rw[a2,o1 y],?_⟩) (λy=>⟨Z,t1,_,_,AF b,Y,Y,AL.of Uh,by rw[a1,o2 y],?_⟩)⟩
   all_goals
    refine⟨Z,Z,Z,Z,Z,p,k,t,O,xs,first,b,i,rr,Y,bd.monoN M6,g,gd,n4,M6.t ht,gc,Mx.p,af,bf,hp,λu2 H5 s5 kK UY=>⟨U,λpt hpt=>?_⟩⟩;have jW:NT H4 H5:=BW.nt s5 Mx.p.tbl;have s6:AA H5 (upd H5 pt (.tup [.ref u1,.ref u2])):=A6 hpt;have YC:=jW.trans (AA.nt s6);have kX:∀ c,H4 c=none->H c=none:=λc hc=>Bq.free (La RQ.p.tbl s3 YZ.tbl (La RP.r.tbl s4 Oq.tbl hc));exact q1 (by simp) pt u1 u2 first b i rr _ (M6.trans YC) ((Mx.plain s5 kK).mono s6) uS ((RY.sub λc hc=>Bq.free hc).monoN (RX.trans YC)) ((UY.sub kX).monoN (AA.nt s6)) hfi hb hp hi pne
def Zu:Sp:=λvs H Q _=>∃(l:Addr) (ls:LS),vs=[.ref l]/\H l=some (.lst (ls.map V.str))/\ls.length<64/\∀ H',AA H H'->Q (.bl true) H'
def iG:Sp:=λvs H Q _=>∃(lu:Addr) (ord:List Int) (cs:List (LS)),vs=[.ref lu]/\Dy H lu ord cs/\MF ord cs/\∀ H',AA H H'->Q (.bl true) H'
abbrev Ee:LS:=["found"]
def wM:Ab Ee Ee (AK Pp):=by nofun
def wK:Ab Ee Ee (AK N7):=by nofun
def lJ:(["word"]:LS).Nodup:=by rfl'
def nH:(["place"]:LS).Nodup:=by rfl'
def lI:(["line"]:LS).Nodup:=by rfl'
def ZO{α:Type}(l:List α):((l.map λ_=>true).all id)=true:=Cr.mpr λb hb=>by obtain⟨_,_,rfl⟩:=Yg.mp hb;rfl
def ZY{α:Type}(l:LV):((l.filter λ_=>true).map λ_=>V.bl true)=(l.map λ_=>true).map V.bl:=by
 rw[Et.mpr (λ_ _=>rfl),Bo];rfl
def mV(F:Def K mg "_law_texts" Pp Ee f fd)(isi:mg "isinstance"=none)(list:mg "list"=none)(str:mg "str"=none)(all:mg "all"=none):⋯ 1 f fd Ee Zu:=by
 nomatch F.fn.ok wM
 ·obtain⟨l,ls,rfl,_⟩:=h;rfl
 ·obtain⟨l,ls,rfl,hl,Dj,q⟩:=h
  ac_nf
  refine'⟨_,AG (AS (NZ (Af KA (by rfl) isi Kj (pC (pv 0) (pC (J8 (v:=.ty "list") (by rfl) list Kb rfl) AB))) (Nb (Af (r:=G_ K λbs=>bs.all id) (J_ rfl) (by rfl) all Ko (pC ?e1 AB))))),?_⟩
  case e1=>exact(BC ["word"] [] [] (λ_=>A4 (osc:=AK Pp) (on:=Ee) (by rfl') rfl rfl rfl) (Be (pv 0)) (λC s H fp=>Ay (i:=0) lJ rfl (Or.inl rfl) (Or.inr rfl)) (λC s H fp=>B6) (λC s H fp=>Af (r:=eF K) KA (by rfl) isi Kj (pC (pv 0) (pC (J8 (v:=.ty "str") (by rfl) str PyProof.Rows.boot_str rfl) AB))))
  refine⟨Z,_,_,_,Z,.lst hl,Y,Z,By ⟨Z,l,Y,⟨_,SqL.of hl⟩,EY (Bk (xs:=ls.map V.str)) (sL (by rw[Ya];omega)) (λ_=>true) (λ_=>.bl true) (λH' s'=>s'.seq (SqL.of hl)) ?_ ?_ ?_⟩⟩
  ·intro v H' R s' _ Ae;exact Ae H' (AA.refl _)
  ·intro v H' R s' hv _ Ae;obtain⟨z,hz,rfl⟩:=Yg.mp hv;exact⟨Z,_,_,_,Z,.str _,Y,Ae H' (AA.refl _)⟩
  ·intro D H1 hD s1 Aq;rw[Et.mpr (λ_ _=>rfl),Bo]at Aq;have e:ls.map ((λ_=>V.bl true) ∘ V.str)=(ls.map λ_=>true).map V.bl:=by rw[Bo];rfl
   rw[e]at Aq;refine⟨D,Z,SqL.of Aq,?_⟩;show Q (V.bl ((ls.map λ_=>true).all id)) H1;rw[show((ls.map λ_=>true).all id)=true from Cr.mpr λb hb=>by obtain⟨_,_,rfl⟩:=Yg.mp hb;rfl];exact q H1 s1
def ud(F:Def K mg "_law_pair" N7 Ee f fd)(isi:mg "isinstance"=none)(list:mg "list"=none)(tuple:mg "tuple"=none)(len:mg "len"=none)(all:mg "all"=none)(DW:Def K mg "_law_whole" S6 ["found"] fW fdW)(GW:⋯ 1 fW fdW ["found"] Zv)(DX:Def K mg "_law_texts" Pp Ee fX fdX)(GX:⋯ 1 fX fdX Ee Zu):⋯ 2 f fd Ee iG:=by
 nomatch F.fn.ok wK
 ·obtain⟨lu,ord,cs,rfl,_⟩:=h;rfl
 ·obtain⟨lu,ord,cs,rfl,⟨lo,ll,vs,AZ,hlo,hll,hL⟩,lok,q⟩:=h
  ac_nf
  refine'⟨_,(pS (Aj (PW.pt (Iu (CV (B7 (Af KA (by rfl) isi Kj (pC (pv 0) (pC (J8 (v:=.ty "tuple") (by rfl) tuple Kg rfl) AB)))))
     (Iu (Am F9 (Af CC (by rfl) len Yz (pC (pv 0) AB)) AI (Ak _)) (J3 (CV (B7 (Af KA (by rfl) isi Kj (pC (AV (r:=BN K) BQ (pv 0) AI (λ_ _=>rfl)) (pC (J8 (v:=.ty "list") (by rfl) list Kb rfl) AB))))))))) (AG (AS CU)) Al)
   (pS (Aj (PW.pt (Iu (CV (B7 (Af (r:=G_ K λbs=>bs.all id) (J_ rfl) (by rfl) all Ko (pC ?e1 AB)))) (J3 (CV (B7 (Af KA (by rfl) isi Kj (pC (AV (r:=BN K) BQ (pv 0) AI (λ_ _=>rfl)) (pC (J8 (v:=.ty "list") (by rfl) list Kb rfl) AB)))))))) (AG (AS CU)) Al)
   (AG (AS (Af (r:=G_ K λbs=>bs.all id) (J_ rfl) (by rfl) all Ko (pC ?e2 AB)))))),?_⟩
  case e1=>exact(BC ["place"] [] [] (λ_=>A4 (osc:=AK N7) (on:=Ee) (by rfl') rfl rfl rfl) (Be (AV (r:=BN K) BQ (pv 0) AI (λ_ _=>rfl))) (λC s H fp=>Ay (i:=0) nH rfl (Or.inl rfl) (Or.inr rfl)) (λC s H fp=>B6) (λC s H fp=>AN DW GW hr (pC (pv 0) AB)))
  case e2=>exact(BC ["line"] [] [] (λ_=>A4 (osc:=AK N7) (on:=Ee) (by rfl') rfl rfl rfl) (Be (AV (r:=BN K) BQ (pv 0) AI (λ_ _=>rfl))) (λC s H fp=>Ay (i:=0) lI rfl (Or.inl rfl) (Or.inr rfl)) (λC s H fp=>B6) (λC s H fp=>AN DX GX hr (pC (pv 0) AB)))
  exists let b:=AE _ a;AE _ b _ _ _
  have few:=lok.few;have fewL:=lok.fewL;have vl:=Bl hL;refine⟨Z,_,_,_,Z,.tup AZ,Y,Z,Ao ?_⟩;refine⟨Z,lu,Z,.inr (AL.of AZ),Y,Z,Ao ?_⟩;refine⟨Z,lu,_,_,Z,Y,AL.of AZ,Y,_,_,_,Z,.lst hlo,Y,Z,Ao ?_⟩;refine⟨Z,lu,_,_,Z,Y,AL.of AZ,Y,lo,Y,⟨_,SqL.of hlo⟩,EY (Bk (xs:=ord.map V.int)) (sL (by rw[Ya];omega)) (λ_=>true) (λ_=>.bl true) (λH' s'=>s'.seq (SqL.of hlo)) ?_ ?_ ?_⟩
  ·intro v H' R s' _ Ae;exact Ae H' (AA.refl _)
  ·intro v H' R s' hv _ Ae;obtain⟨z,hz,rfl⟩:=Yg.mp hv;exact⟨Z,z,Y,Ae H' (AA.refl _)⟩
  intro D H1 hD s1 Aq;rw[ZY (α:=V)]at Aq;refine⟨D,Z,SqL.of Aq,Z,?_⟩;show if(!((ord.map V.int).map λ_=>true).all id)=true then _ else _
  rw[ZO];refine Ao ?_;refine⟨Z,lu,_,_,Z,Y,AL.of (s1 _ _ AZ),Y,_,_,_,Z,.lst (s1 _ _ hll),Y,Z,Ao ?_⟩;have Qq:=s1 _ _ hll;refine⟨Z,lu,_,_,Z,Y,AL.of (s1 _ _ AZ),Y,ll,Y,⟨_,SqL.of Qq⟩,EY (Bk (xs:=vs)) (sL (by omega)) (λ_=>true) (λ_=>.bl true) (λH' s'=>s'.seq (SqL.of Qq)) ?_ ?_ ?_⟩
  ·intro v H' R s' _ Ae;exact Ae H' (AA.refl _)
  ·intro v H' R s' hv _ Ae;obtain⟨i,hi⟩:=Gj hv;obtain⟨c,hc,t,rfl,ht⟩:=C0 hL hi;exact⟨Z,t,c,Y,s' _ _ (s1 _ _ ht),(lok.txt c (Yc hc)).2,λBH BR=>Ae BH BR⟩
  intro D2 H2 G5 s2 BK;rw[ZY (α:=V)]at BK;refine⟨D2,Z,SqL.of BK,?_⟩;show Q (V.bl ((vs.map λ_=>true).all id)) H2;rw[ZO];exact q H2 (s1.trans s2)
def gh(C B T U:Addr)(lp lr:Pos):Sp:=λvs H Q _=>∃(p k aa ld t:Addr) (rows:RS) (AJ:KL) (n:Nat) (ds:List (LS)) (us:LV) (xs:LS),vs=[.ref p,.ref aa,.ref ld,.ref t]/\B0 C B H p k rows n ds/\AR rows/\BE rows n ds/\n<=4/\ds.length<=24/\H aa=some (.dK AJ)/\Bu H rows rows AJ/\H ld=some (.lst us)/\A0 H ds us/\H t=some (.tup (xs.map V.str))/\BX rows n xs/\Eu T U lp lr H/\1<(Ax rows ds xs).length/\∀ H',Q (.bl true) H'
noncomputable abbrev jE (rows:RS) (ds:List (LS)) (xs:LS) (u:List Int×List (LS)):LN:=BZ rows ds xs u.1 u.2
noncomputable abbrev Hi (rows:RS) (ds:List (LS)) (xs:LS) (u:List Int×List (LS)):Nat:=(jE rows ds xs u).headD 0
abbrev vt:LS:=["board","above","deeds","call","found","firsts","fits","lineup"]
abbrev O1:LS:=["board","above","deeds","call"]
def gU:Ab vt O1 (AK TQ):=by nofun
set_option maxHeartbeats 8000000 in
def oB{lp lr:Pos}(F:Def K mg "_law_unlike" TQ O1 f fd)(isi:mg "isinstance"=none)(tuple:mg "tuple"=none)(len:mg "len"=none)(DP:Def K mg "parting" Si Hf fP fdP)(GP:⋯ 10 fP fdP Hf (iH C B T U lp lr))(DF:Def K mg "_law_fits" N6 Ip fF fdF)(GF:⋯ 2 fF fdF Ip VR)
  (DPr:Def K mg "_law_pair" N7 Ee fPr fdPr) (GPr:⋯ 2 fPr fdPr Ee iG) (DLU:Def K mg "_law_is_lineup" P6 MG fLU fdLU) (GLU:⋯ 2 fLU fdLU MG iE) (DTk:Def K mg "taken" PK EN fTk fdTk) (GTk:⋯ 9 fTk fdTk EN (VS C B U lr)) (DLR:Def K mg "_law_ranked" TM QE fLR fdLR) (GLR:⋯ 2 fLR fdLR QE gg):⋯ 11 f fd O1 (gh C B T U lp lr):=by
 nomatch F.fn.ok gU
 ·obtain⟨p,k,aa,ld,t,rows,AJ,n,ds,us,xs,rfl,_⟩:=h;rfl
 ·obtain⟨p,k,aa,ld,t,rows,AJ,n,ds,us,xs,rfl,bd,g,gd,n4,d24,ha,hA,hld,hD,ht,gc,tb,cl,q⟩:=h;have nd:=gU.nd;have DJ:AU 2 _:=hr.mono (by decide);have OZ:AU 9 _:=hr.mono (by decide);have xl:=gc.len
  ac_nf
  refine'⟨_,(pS (sE 4 nd (AN DP GP hr (pC (pv 0) (pC (pv 3) AB))))
   (pS (Aj (PW.pt (Iu (CV (B7 (Af KA (by rfl) isi Kj (pC (pv 4) (pC (J8 (v:=.ty "tuple") (by rfl) tuple Kg rfl) AB))))) (J3 (Am F9 (Af CC (by rfl) len Yz (pC (pv 4) AB)) AI (Ak _))))) (AG (AS CU)) Al)
   (pS (sE 5 nd (B4 AB))
   (pS (sE 6 nd (AN DF GF DJ (pC (pv 1) (pC (pv 2) (pC (pv 3) AB)))))
   (pS (Bt Ys rfl (HJ (pv 4)) (gE 7 nd)
    (pS (Aj (PW.pt (Iu (CV (B7 (AN DPr GPr DJ (pC (pv 7) AB)))) (J3 (CV (B7 (AN DLU GLU DJ (pC (pv 1) (pC (pv 3) (pC (pv 7) AB))))))))) (AG (AS CU)) Al)
   (pS (B5 (C7 C1 IM IL GZ (pv 5) (pC (AN DTk GTk OZ (pC (pv 0) (pC (pv 3) (pC (pv 7) AB)))) AB)))
   (AG (Aj (Am F9 (AV (r:=BV K) Ar (pv 5) (gr iP AI) (λ_ _=>rfl)) (AV (r:=BV K) Ar (AN DLR GLR DJ (pC (pv 2) (pC (pv 6) (pC (pv 7) AB)))) AI (λ_ _=>rfl)) (Ak _)) (AG (AS CU)) Al)))))
   (AG (AS (Hz F9 (AV (r:=BV K) Ar (pv 5) AI (λ_ _=>rfl)) (AV (r:=BV K) Ar (pv 5) AI (λ_ _=>rfl)) (Ak _))))))))),?_⟩
  exists let b:=_;let c:=AE _ b;let e:=AE _ c;let f:=AE (Bz _ _ e) a;let g:=AE _ f;let h:=AE _ g;let i:=AE _ h;AE _ i _ _ _
  have enx:nx (wB rows ds) (AO rows ds xs).length (AO rows ds xs)=([],Ax rows ds xs):=R5 (λz=>by unfold Ax at cl;omega);refine⟨Z,Z,p,k,t,O,xs,[],Ax rows ds xs,Y,bd,g,gd,n4,d24,ht,gc,tb,enx,(λz=>by rw[z]at cl;exact absurd cl (by decide)),λ_ pt u1 u2 first b i r H1 n1 i0 hpt RY UY hfi hb hp hi BB=>?_⟩;refine⟨Z,_,_,_,Z,.tup hpt,Y,Z,Ao ?_⟩;refine⟨Z,pt,Z,.inr (AL.of hpt),Y,Z,Ao ?_⟩;refine⟨BF _,λlk hlk=>?_⟩;have s2:AA H1 (upd H1 lk (.lst [])):=A6 hlk;have CQ:(upd H1 lk (.lst [])) lk=some (.lst []):=uS;generalize upd H1 lk (.lst [])=H2 at s2 CQ;have OW:=n1.trans (AA.nt s2);refine⟨Z,Z,Z,aa,ld,t,n,rows,AJ,ds,us,xs,Y,g,OW _ _ (λ_ z=>nomatch z) ha,WA hA OW,OW.l hld,hD.monoN OW,gd,OW.t ht,gc,n4,λlf H3 hlf s3 Ih=>?_⟩;have CG:=s2.trans s3;have lfk:lf≠lk:=Yr (AH CQ hlf);have plup:=V2 (xs:=xs) g gc;have alup:Dg rows xs (CM n i) (Cf rows ds xs b i):=cc g gc hi;have hU:Paired (λ(u:List Int×List (LS)) (v:V)=>∃ tu:Addr,v=.ref tu/\Dy H1 tu u.1 u.2/\Dg rows xs u.1 u.2) [(Ad n,Dl rows xs),(CM n i,Cf rows ds xs b i)] [.ref u1,.ref u2]:=.cons ⟨u1,Y,RY.at_,plup⟩ (.cons ⟨u2,Y,UY.at_,alup⟩ .nil);have fl:=PZ rows ds xs;generalize hW:([(Ad n,Dl rows xs),(CM n i,Cf rows ds xs b i)]:List (List Int×List (LS)))=W at hU;have W2:W.length=2:=by rw[<- hW];rfl
  refine⟨Z,pt,Y,⟨_,AL.of (CG _ _ hpt)⟩,B8 (IB (xs:=[V.ref u1,.ref u2])) (λj (σ:St) (H':Hp)=>∃(x7:OV),σ=[some (.ref p),some (.ref aa),some (.ref ld),some (.ref t),some (.ref pt),some (.ref lk),some (.ref lf),x7]/\NT H1 H'/\Eu T U lp lr H'/\H' lf=some (.lst ((AO rows ds xs).map AF))/\H' lk=some (.lst (((W.take j).map (Hi rows ds xs)).map AF)))
   ⟨none,Y,AA.nt CG,i0.mono CG,Ih,s3 _ _ CQ⟩ (λ_ _ _ _ h0=>by obtain⟨_,_,h,_⟩:=h0;exact AL.of (h.t hpt)) ?_ ?_⟩
  ·rintro j v σ H4 hj ⟨x7,rfl,LA,Mx,Ie,Ic⟩;obtain⟨⟨ord,cs⟩,hu,lu,rfl,hlu,lup⟩:=C0 hU hj;dsimp only at hlu lup;have lok:=Rz g (by omega) lup;have Mm:Dy H4 lu ord cs:=by
    obtain⟨lo,ll,vs,a1,a2,a3,a4⟩:=hlu;exact⟨lo,ll,vs,LA.t a1,LA.l a2,LA.l a3,Paired.mapP a4 λ_ _ ⟨t,e,x⟩=>⟨t,e,LA.l x⟩⟩
   have M6:=n1.trans LA;refine⟨Z,lu,ord,cs,Y,Mm,lok,λH5 s5=>⟨Z,Ao ?_⟩⟩;have UW:=M6.trans (AA.nt s5);refine⟨Z,Z,Z,aa,t,lu,rows,AJ,xs,ord,cs,Y,g,UW _ _ (λ_ z=>nomatch z) ha,WA hA UW,UW.t ht,gc.known,W,Mm.mono s5,lok,λv H6 s6 hv=>?_⟩;rw[hv.mpr lup];refine⟨Z,Ao ?_⟩;have OS:=s5.trans s6;have UU:=M6.trans (AA.nt OS);have UE:=Mx.mono OS;have Og:=OS _ _ Ic;refine⟨Z,.inl ⟨Y,_,SqL.of Og⟩,Z,Z,Z,p,t,lu,O,xs,ord,cs,Y,⟨⟨k,bd.monoN UU⟩,g,gd,n4,d24,UU.t ht,gc,Mm.mono OS,lok,lup,UE.r⟩,λH7 s7 LH=>?_⟩;have UT:NT H6 H7:=BW.nt s7 UE.r.tbl;have UD:=UE.rank s7 LH;have xc:=UU.trans UT;have YB:NT H4 H7:=(AA.nt OS).trans UT;have NC:=UT.l Og;obtain⟨m,rr,er⟩:∃ m rr,BZ rows ds xs ord cs=m :: rr:=by
    have:=(JE rows ds xs ord cs).length_eq;cases h:BZ rows ds xs ord cs with
    | nil =>
     rw[h]at this;have z:AO rows ds xs=[]:=Wz.mp this.symm;unfold Ax at cl;rw[z]at cl;exact absurd (show 1<0 from cl) (by decide)
    | cons m rr=>exact⟨m,rr,Y⟩
   rw[er];have few:((W.take j).map (Hi rows ds xs)).length<=2:=by rw[Ya,Yx];omega
   refine⟨lk,_,Z,Y,NC,CZ (by rw[Ya];omega),?_⟩;have ek:((W.take j).map (Hi rows ds xs)).map AF++[AF m]=((W.take (j + 1)).map (Hi rows ds xs)).map AF:=by
    rw[B9,hu,CD,CD];refine congrArg _ ?_;show[AF m]=[AF ((BZ rows ds xs ord cs).headD 0)];rw[er];rfl
   have atl:=Z8 (((W.take j).map (Hi rows ds xs)).map AF) (AF m);rw[ek]at atl ⊢;generalize((W.take (j + 1)).map (Hi rows ds xs)).map AF=wl at atl;have k8:∀ b u,b≠lk->H7 b=some u->(upd H7 lk (.lst wl)) b=some u:=λb u hb e=>by rw[AD hb];exact e
   have Us:(upd H7 lk (.lst wl)) lk=some (.lst wl):=uS;have kt:∀ b u,(∃ ps,u=.tbl ps)\/(∃ ob u',u=.frz ob u')->H7 b=some u->(upd H7 lk (.lst wl)) b=some u:=λb u hu e=>k8 b u (λz=>by rw[z,NC]at e;rcases hu with⟨_,rfl⟩ | ⟨_,_,rfl⟩ <;> cases e) e;have Xl:Eu T U lp lr (upd H7 lk (.lst wl)):=⟨UD.p.keep kt,UD.r.keep kt,UD.ne⟩;generalize upd H7 lk (.lst wl)=H8 at k8 Us Xl;have M5:NT H1 H8:=λb u hn e=>k8 b u (AH e hlk) ((LA.trans YB) b u hn e);have YD:=n1.trans M5;have YU:=k8 _ _ lfk (YB.l Ie);have XS:Dy H8 lu ord cs:=by
    obtain⟨lo,ll,vs,a1,a2,a3,a4⟩:=hlu;exact⟨lo,ll,vs,M5.t a1,M5.l a2,M5.l a3,Paired.mapP a4 λ_ _ ⟨t,e,x⟩=>⟨t,e,M5.l x⟩⟩
   refine⟨Z,Z,lk,_,_,Z,Y,SqL.of Us,atl,Z,Z,Z,ld,lf,lu,O,us,xs,ord,cs,Y,⟨g,gd,d24,gc,YD.l hld,hD.monoN YD,XS,lok,lup⟩,YU,λl9 H9 xq s9 Rq=>?_⟩;rw[er]at Rq;refine⟨l9,_,_,AF m,Y,Y,SqL.of Rq,FA (Int.le_refl _) rfl,Y,Z,?_⟩;rw[Jb rfl];exact Ao ⟨Z,M5.trans (AA.nt s9),Xl.mono s9,s9 _ _ YU,s9 _ _ Us⟩
  rintro σ H4 ⟨x7,rfl,LA,Mx,Ie,Ic⟩;rw[<- hW]at Ic;have Ic:H4 lk=some (.lst [AF (Hi rows ds xs (Ad n,Dl rows xs)),AF (Hi rows ds xs (CM n i,Cf rows ds xs b i))]):=Ic;have e1:Hi rows ds xs (Ad n,Dl rows xs)=first:=by
   have hfi:(BZ rows ds xs (Ad n) (Dl rows xs))[0]?=some first:=hfi
   show(BZ rows ds xs (Ad n) (Dl rows xs)).headD 0=first
   cases h:BZ rows ds xs (Ad n) (Dl rows xs)with
   | nil=>rw[h]at hfi;cases hfi
   | cons m rr=>rw[h]at hfi;injection hfi
  have e2:Hi rows ds xs (CM n i,Cf rows ds xs b i)≠first:=by
   have BB:(BZ rows ds xs (CM n i) (Cf rows ds xs b i))[0]?≠some first:=BB
   show(BZ rows ds xs (CM n i) (Cf rows ds xs b i)).headD 0≠first
   have:=(JE rows ds xs (CM n i) (Cf rows ds xs b i)).length_eq;cases h:BZ rows ds xs (CM n i) (Cf rows ds xs b i)with
   | nil =>
    rw[h]at this;have z:AO rows ds xs=[]:=Wz.mp this.symm;unfold Ax at cl;rw[z]at cl;exact absurd (show 1<0 from cl) (by decide)
   | cons m rr =>
    rw[h]at BB;exact λz=>BB (by rw[<- z];rfl)
  refine⟨Z,lk,_,_,Z,Y,SqL.of Ic,FA (Int.le_refl _) rfl,Z,lk,_,_,Z,Y,SqL.of Ic,FA (by decide) rfl,Y,?_⟩;rw[e1,Jc (λz=>e2 (by injection z with z;exact(Int.ofNat.inj z).symm))];exact q H4
def R4(K:Fg)(T U:Addr):Sp:=λvs H Q _=>∃(a:Addr) (ns:List Int),vs=[.ref a]/\SqL K H a (ns.map V.int)/\ns.length<=63/\H T=some (.tbl #[])/\H U=some (.tbl #[])/\∀ H',Q (.bl true) H'
abbrev nL:LS:=["script","rows","above","places","deeds","words","board","pot","found","k","call","answer","one"]
def Xs:Ab nL ["script"] (AK O2):=by nofun
def sO:(["place","words","pot"]:LS).Nodup:=by rfl'
structure Gk(C B U p yb aa lw ld:Addr)(lr:Pos)(rows:RS)(n:Nat)(AJ:KL)(ds:List (LS))(us:LV)(H:Hp):Prop where
 tab:L9 U lr H
 pot:∃ o,H p=some o/\DM o
 bd:∃ k,B0 C B H yb k rows n ds
 a1:H aa=some (.dK AJ)
 b1:Bu H rows rows AJ
 hw:H lw=some (.lst ((rows.map (·.1)).map V.str))
 hld:H ld=some (.lst us)
 hD:A0 H ds us
 n1:lw≠p
 n2:ld≠p
section
variable {C B U p yb aa lw ld:Addr}{lr:Pos}{rows:RS}{n:Nat}{AJ:KL}{ds:List (LS)}{us:LV}{H H':Hp}
def Gk.sameT(h:Gk C B U p yb aa lw ld lr rows n AJ ds us H)(s:BW U H H')(t:L9 U lr H'):Gk C B U p yb aa lw ld lr rows n AJ ds us H':=by
 have nt:=BW.nt s h.tab.tbl;obtain⟨o,hp,ho⟩:=h.pot;exact⟨t,⟨o,nt _ _ (by obtain⟨_,_,e,_⟩:=ho;rw[e];exact λ_ z=>nomatch z) hp,ho⟩,h.bd.elim λk b=>⟨k,b.monoN nt⟩,nt _ _ (λ_ z=>nomatch z) h.a1,WA h.b1 nt,nt.l h.hw,nt.l h.hld,h.hD.monoN nt,h.n1,h.n2⟩
def Gk.same(h:Gk C B U p yb aa lw ld lr rows n AJ ds us H)(s:AA H H'):Gk C B U p yb aa lw ld lr rows n AJ ds us H':=h.sameT s.t (h.tab.mono s)
def Gk.drawn(h:Gk C B U p yb aa lw ld lr rows n AJ ds us H)(d:Drawn p H H'):Gk C B U p yb aa lw ld lr rows n AJ ds us H':=by
 obtain⟨o,hp,ho⟩:=h.pot;have pl:∃ xs,H p=some (.lst xs):=by obtain⟨r1,b1,eo,_⟩:=id ho;exact⟨_,by rw[hp,eo]⟩
 have k:∀ {b:Addr} {u:HO},H b=some u->(∀ xs,u≠.lst xs)->H' b=some u:=λ{b u} e n=>d.keep b u (λz=>by obtain⟨xs,q⟩:=pl;rw[z,q]at e;cases e;exact n _ rfl) e;exact⟨h.tab.keep λb u hu e=>k e (λxs z=>by rcases hu with⟨_,rfl⟩ | ⟨_,_,rfl⟩ <;> cases z),d.pot,h.bd.elim λk b=>⟨k,qG b hp ho d⟩,k h.a1 (λ_ z=>nomatch z),V_ h.b1 hp ho d,d.keep _ _ h.n1 h.hw,d.keep _ _ h.n2 h.hld,cj h.hD hp ho d,h.n1,h.n2⟩
end
def ax{rows:RS}{n:Nat}{ds:List (LS)}{xs:LS}{ord:List Int}{cs:List (LS)}(g:AR rows)(gd:BE rows n ds)(gc:BX rows n xs)(L:Dg rows xs ord cs)(few:¬ 1<(Ax rows ds xs).length):(AO rows ds xs=[]/\Ax rows ds xs=[]/\BZ rows ds xs ord cs=[])\/∃ k r,Ax rows ds xs=[k]/\AO rows ds xs≠[]/\BZ rows ds xs ord cs=k :: r:=by
 by_cases hf:AO rows ds xs=[]
 ·refine .inl ⟨hf,by unfold Ax;rw[hf];rfl,?_⟩;have:=(JE rows ds xs ord cs).length_eq;rw[hf]at this;exact Wz.mp this
 ·obtain⟨f0,Ii⟩:=List.exists_mem_of_ne_nil _ hf;have ne:=bS g gd Ii;have h1:(Bn (wB rows ds) (AO rows ds xs)).length=1:=by
   have:0<(Ax rows ds xs).length:=IH.mpr ne;unfold Ax at this few;omega
  obtain⟨k,hk⟩:=R7 h1;have kl:k∈AO rows ds xs:=KD k (by rw[hk];exact .head _);have rr:=aS (ds:=ds) g gd gc L;rw[<- Sm kl,R6 hk]at rr;dsimp only at rr;rw[Bv]at rr;refine .inr ⟨k,(BZ rows ds xs ord cs).drop 1,hk,hf,?_⟩;cases h:BZ rows ds xs ord cs with
  | nil=>rw[h]at rr;cases rr
  | cons m r =>
   rw[h,List.take_succ_cons]at rr;injection rr with e1 e2;rw[e1];rfl
structure vd(mg:Str->OU):Prop where
 tuple:mg "tuple"=none
 len:mg "len"=none
 range:mg "range"=none
set_option maxHeartbeats 16000000 in
def se{lp lr:Pos}(F:Def K mg "law" O2 ["script"] f fd)(TL:vd mg)(TU:T≠U)(M:Mk K C fI)(mgC:mg "Kinds"=some (.ref C))(bI:C6 K fdI ["self","rows"] [])(GI:⋯ 4 fI fdI ["self","rows"] (VD K C))
  (MB:Mk K B fBI) (mgB:mg "Board"=some (.ref B)) (bB:C6 K fdBI OT []) (GB:⋯ 4 fBI fdBI OT (VQ K C B))
  (DSm:Def K mg "_law_small" S5 ["script","kinds","calls","most"] fSm fdSm) (GSm:⋯ 5 fSm fdSm ["script","kinds","calls","most"] (Zs K)) (DP:Def K mg "_law_pot" Pm ["script","k"] fP fdP) (GP:⋯ 1 fP fdP ["script","k"] (Wm K)) (DT:Def K mg "_law_take" Gb ["pot","many"] fT fdT) (GT:⋯ 1 fT fdT ["pot","many"] Iz)
  (DE:Def K mg "even" R3 ["board"] fE fdE) (GE:⋯ 9 fE fdE ["board"] (iC C B)) (DU:Def K mg "_law_unlike" TQ O1 fU fdU) (GU:⋯ 11 fU fdU O1 (gh C B T U lp lr)) (DF:Def K mg "_law_fits" N6 Ip fF fdF) (GF:⋯ 2 fF fdF Ip VR)
  (DTk:Def K mg "taken" PK EN fTk fdTk) (GTk:⋯ 9 fTk fdTk EN (VS C B U lr)) (DLl:Def K mg "_law_lineup" Pz ["pot","above","call"] fLl fdLl) (GLl:⋯ 3 fLl fdLl ["pot","above","call"] ff) (DTd:Def K mg "told" O9 ["board","call"] fTd fdTd) (GTd:⋯ 8 fTd fdTd ["board","call"] (VB C B)):⋯ 12 f fd ["script"] (R4 K T U):=by
 nomatch F.fn.ok Xs
 ·obtain⟨a,ns,rfl,_⟩:=h;rfl
 ·obtain⟨a,ns,rfl,hS,hlen,kL,kH,q⟩:=h;have nd:=Xs.nd;have hu:=hr.units;have Ah:AU 1 _:=hr.mono (by decide);have DJ:AU 2 _:=hr.mono (by decide);have CJ:AU 3 _:=hr.mono (by decide);have Fz:AU 5 _:=hr.mono (by decide);have LD:AU 8 _:=hr.mono (by decide);have OZ:AU 9 _:=hr.mono (by decide)
  ac_nf
  refine'⟨_,(pS (R0 (AN DSm GSm Fz (pC (pv 0) (pC AI (pC AI (pC AI AB))))) (Iv rfl (gC (gE 1 nd) (gC (gE 2 nd) (gC (gE 3 nd) (gC (gE 4 nd) I_))))))
   (pS (B1 (i:=5) nd rfl (Or.inr rfl) ?e1)
   (pS (sE 6 nd (Zj MB GB Fz (by rfl) mgB bB .nil A3 (pC (Zj M GI Fz (by rfl) mgC bI .nil A3 (pC (pv 1) AB)) (pC (pv 3) (pC (pv 4) AB)))))
   (pS (B1 (i:=7) nd rfl (Or.inr rfl) (AN DP GP Ah (pC (pv 0) (pC AI AB))))
   (pS (sE 8 nd (AN DE GE OZ (pC (pv 6) AB)))
   (pS (Aj (Am F9 (AV (r:=BN K) BQ (pv 8) AI (λ_ _=>rfl)) EU (Ak _)) (AG (AS (AN DU GU hr (pC (pv 6) (pC (pv 2) (pC (pv 4) (pC (AV (r:=BN K) BQ (pv 8) AI (λ_ _=>rfl)) AB))))))) Al)
   (pS (Bt Ys rfl (FF (by rfl) TL.range (pC (Ai ET AI (AN DT GT Ah (pC (pv 7) (pC AI AB)))) AB)) (gE 9 nd)
    (pS (sE 10 nd (HM N_ (by rfl) TL.tuple Kg (pC ?e2 AB)))
   (pS (sE 11 nd (CP (pC EU AB)))
   (JB (Aj (Am (HH hu) (AN DF GF DJ (pC (pv 2) (pC (pv 4) (pC (pv 10) AB)))) (B4 AB) (Ak _)) (AG (sE 11 nd (CP (pC EU (pC (AN DTk GTk OZ (pC (pv 6) (pC (pv 10) (pC (AN DLl GLl CJ (pC (pv 7) (pC (pv 2) (pC (pv 10) AB)))) AB)))) AB))))) Al)
   (pS (Aj (Am (HH hu) (AN DTd GTd LD (pC (pv 6) (pC (pv 10) AB))) (pv 11) (Ak _)) (AG (AS CU)) Al)
   (pS (sE 12 nd (AN DTk GTk OZ (pC (pv 6) (pC (pv 10) (pC (AN DLl GLl CJ (pC (pv 7) (pC (pv 2) (pC (pv 10) AB)))) AB)))))
   (AG (Aj (PW.pt (Iu (PW.pt (Ld (Am uw (pv 12) Na (Ak _)) (Ln (Am (HH hu) (pv 11) (CP (pC EU (pC (pv 12) AB))) (Ak _))))) (J3 (PW.pt (Ld (Am sv (pv 12) Na (Ak _)) (Ln (Am (HH hu) (pv 11) (CP (pC EU AB)) (Ak _)))))))) (AG (AS CU)) Al))))))))
   (AG (AS CU))))))))),?_⟩
  case e1=>exact(BC ["row"] [] [] (λ_=>A4 (osc:=AK O2) (on:=nL) (by rfl') rfl rfl rfl) (Be (pv 1)) (λC s H fp=>Ay (i:=0) Zb rfl (Or.inl rfl) (Or.inr rfl)) (λC s H fp=>B6) (λC s H fp=>AV (r:=BN K) BQ (pv 0) AI (λ_ _=>rfl)))
  case e2=>exact(BC ["place"] ["words","pot"] [5,7] (λ_=>A4 (osc:=AK O2) (on:=nL) (by rfl') rfl rfl rfl) (FF (by rfl) TL.range (pC (pv 3) AB)) (λC s H fp=>Ay (i:=0) sO rfl (Or.inl rfl) (Or.inr rfl)) (λC s H fp=>B6)
    (λC s H fp=>AV (r:=BV K) Ar (pv 1) (AN DT GT Ah (pC (pv 2) (pC (Af (r:=gQ K) CC (by rfl) TL.len Yz (pC (pv 1) AB)) AB))) (λ_ _=>rfl)))
  exists let b:=_;let c:=AE _ b;let e:=AE _ c;let f:=_;let g:=MJ (D0 _ f _) e;let h:=AE _ g;let i:=AE _ h;let j:=AE (Bz _ _ i) a;let k:=_;let l:=AE (D0 _ k _) j;let m:=AE _ l;let n:=AE _ m;let o:=AE _ n;let p:=AE _ o;AE _ p _ _ _
  refine⟨Z,a,ns,7,220,8,Y,hS,W,V,V,V,V,V,λt0 l aa ld n rows AJ ds us H1 s1 Jq LI g Fw Y2 n1 n4 rn JV E8 gd dl=>⟨t0,Z,AL.of Jq,Y,_,Z,_,Z,_,Z,_,Z,Y,?_⟩⟩;have few:=gd.few;have gle:=g.le;have gne:1<=rows.length:=by have:=g.ne;omega
  obtain⟨xX,Qe,XO⟩:=id LI;refine⟨Z,l,Y,⟨_,SqL.of Qe⟩,dA LI (by omega) (λt u x H' R ht hRx=>⟨Z,t,_,_,Z,Y,AL.of ht,Y,hRx⟩) λlw H2 hlw C4 Jp=>?_⟩;have wl:(rows.map (·.1)).length=rows.length:=Ya ..;refine⟨Z,?_⟩;intro xb dxb jI ndx nex;refine lG jI ndx (N5 LI C4) g λH3 s3 Jn=>?_;have CG:=C4.trans s3;refine⟨Z,Z,?_⟩;intro yb dyb ny ndy ney;refine lF ny ndy Jn g (.inl (CG _ _ JV)) (E8.mono CG) gd n1 n4 λH4 DG Ux=>?_;have RV:=CG.trans DG;have Gu:=s1.trans RV;refine⟨Z,a,2,ns,Y,Gu.seq hS,W,V,V,λp o hp ho=>?_⟩;have Ji:AA H4 (upd H4 p o):=A6 hp;have Gz:(upd H4 p o) p=some o:=uS;generalize upd H4 p o=H5 at Ji Gz;have Jk:=RV.trans Ji;have big:ds.length * ds.length * rows.length ^ n<=50000:=A7 (Nat.mul_le_mul (Nat.mul_le_mul dl dl) rn) (by decide);refine⟨Z,yb,xb,O,Y,Ux.mono Ji,g,gd,n4,W,big,λte H6 JZ hev=>?_⟩;have Dh:=Jk.trans JZ;have L6:Gk C B U p yb aa lw ld lr rows n AJ ds us H6:=⟨.inl ((s1.trans Dh) _ _ kH),⟨o,JZ _ _ Gz,ho⟩,⟨xb,Ux.mono (Ji.trans JZ)⟩,Dh _ _ Fw,Y2.mono (λb xs e=>Dh _ _ e),(s3.trans (DG.trans (Ji.trans JZ))) _ _ Jp,Dh _ _ JV,E8.mono Dh,AH ((s3.trans DG) _ _ Jp) hp,AH (RV _ _ JV) hp⟩;have kJ:=(s1.trans Dh) _ _ kL;clear C4 s3 CG DG RV Gu Ji Jk Dh JZ LI Fw Y2 JV E8 Jp Jn Ux Gz Qe XO Jq s1;unfold Tb at hev;cases ef:(Hk rows ds).find? (Hl rows ds)with
  | some e =>
   rw[ef]at hev;obtain⟨tc,hte,htc⟩:=hev;have em:=List.mem_of_find?_eq_some ef;have ec:Hl rows ds e=true:=List.find?_some ef;have gc:BX rows n e.2.2:=by
    obtain⟨pr,hpr,he⟩:=List.mem_flatMap.mp em;have:=SM.mp hpr;exact(ZH gd (by omega) (by omega) he).1
   obtain⟨k6,kj⟩:=L6.bd;refine⟨Z,te,_,_,Z,Y,AL.of hte,Y,Y,Z,By ?_⟩;exact⟨Z,Z,Z,Z,te,_,_,Z,Y,AL.of hte,Y,yb,k6,aa,ld,tc,rows,AJ,n,ds,us,e.2.2,Y,kj,g,gd,n4,W,L6.a1,L6.b1,L6.hld,L6.hD,htc,gc,⟨.inl kJ,L6.tab,TU⟩,Je ec,q⟩
  | none =>
   rw[ef]at hev;obtain⟨xf,ir,_,hte,_⟩:=hev;have no:∀ xs,BX rows n xs->¬ 1<(Ax rows ds xs).length:=λxs gc h=>by
    obtain⟨e,he,hc⟩:=vR g gd gc h;exact List.find?_eq_none.mp ef e he hc
   refine⟨Z,te,_,_,Z,Y,AL.of hte,Y,Y,Z,Ao ?_⟩;obtain⟨o6,Ia,FT⟩:=L6.pot;refine⟨Z,p,6,o6,Y,Ia,FT,V,V,λv7 o7 v0 v1 Hh=>?_⟩;have L7:=L6.drawn (Drawn.upd Hh:Drawn p H6 (upd H6 p o7));generalize upd H6 p o7=H7 at L7;let BG:NW:=λi σ H'=>∃(x9 T9 T8 RK:OV),σ=[some (.ref a),some (.ref l),some (.ref aa),some (.int n),some (.ref ld),some (.ref lw),some (.ref yb),some (.ref p),some (.ref te),x9,T9,T8,RK]/\Gk C B U p yb aa lw ld lr rows n AJ ds us H';refine⟨_,Z,Y,Z,W,W,B8 Es BG
    ⟨none,none,none,none,Y,L7⟩ (λ_ _ _ _ _=>trivial) ?_ ?_⟩
   ·rintro i v σ H8 hi ⟨x9,T9,T8,RK,rfl,L8⟩;obtain⟨o8,Oc,Js⟩:=L8.pot;have wp:=L8.n1;have Ue:=L8.hw;have wpos:1<=(rows.map (·.1)).length:=by omega
    let Fq:Addr->Nat->LV->St->Hp->Prop:=λD i ys σ' H'=>Drawn p H8 H'/\H' D=some (.lst ys)/\∃(xs:LS) (o:OV),ys=xs.map V.str/\xs.length=i/\(∀ x∈xs,x∈rows.map (·.1))/\σ'=[o,some (.ref lw),some (.ref p)];refine⟨Z,n,Y,W,W,Nt Es (by rw[Ca];exact sL (by omega)) Fq
     (λD hD=>⟨(Drawn.refl ⟨o8,Oc,Js⟩).new hD,uS,[],none,Y,Y,(λx h=>nomatch h),Y⟩) (λD i ys σ' H' _ h0=>by obtain⟨_,_,bs,_,e,el,_⟩:=h0;exact⟨trivial,by rw[e,Ya];omega⟩) ?_ ?_⟩
    ·rintro D i v ys σ' H' hD hi ⟨d,hl,xs,o,rfl,rfl,hb,rfl⟩;obtain⟨hi,rfl⟩:=Ds hi;obtain⟨o1,hpp,hoo⟩:=d.pot;have M_:=d.keep _ _ wp Ue;have pD:p≠D:=AH Oc hD;refine⟨Z,Z,Z,lw,Z,.inl (SqL.of M_),p,_,o1,Y,hpp,hoo,Q,Q,λv o2 CI CH CA=>?_⟩;obtain⟨x,hxm,hat⟩:=So CI CH;have d2:Drawn p H' (upd H' p o2):=Drawn.upd CA;refine⟨lw,_,_,Z,Y,SqL.of (d2.keep _ _ wp M_),hat,d2.keep _ _ (Yr pD) hl,(d.trans d2).sub (o':=.lst []) (q:=D) (λb o hb e=>by rw[AD hb];exact e) hD pD,uS,xs++[x],_,by rw[CD];rfl,G,λy hy=>?_,Y⟩
     rcases Yv.mp hy with z | z
     ·exact hb y z
     ·rw[Yj.mp z];exact hxm
    rintro lc ys σ' H9 hlc ⟨d9,XX,xs,o9,rfl,hxl,jn,rfl⟩;rw[Ca]at hxl;have hxl:xs.length=n:=by simpa using hxl
    have gc:BX rows n xs:=⟨hxl,jn⟩;refine⟨lc,Z,.inl ⟨SqL.of XX,λtc htc=>?_⟩⟩;have E3:AA H9 (upd H9 tc (.tup (xs.map V.str))):=A6 htc;have Kv:(upd H9 tc (.tup (xs.map V.str))) tc=some (.tup (xs.map V.str)):=uS;generalize upd H9 tc (.tup (xs.map V.str))=Fs at E3 Kv;have xH:=(L8.drawn d9).same E3;have hf:=no xs gc;refine⟨J,λta hta=>?_⟩;have He:AA Fs (upd Fs ta (.tup [.str "none"])):=A6 hta;have Kx:(upd Fs ta (.tup [.str "none"])) ta=some (.tup (Eo [])):=uS;generalize upd Fs ta (.tup [.str "none"])=yJ at He Kx;have QW:=xH.same He;have Ku:=He _ _ Kv;let Cg:SW:=λσ' H'=>∃(ta:Addr),σ'=[some (.ref a),some (.ref l),some (.ref aa),some (.int n),some (.ref ld),some (.ref lw),some (.ref yb),some (.ref p),some (.ref te),some v,some (.ref tc),some (.ref ta),RK]/\Gk C B U p yb aa lw ld lr rows n AJ ds us H'/\H' tc=some (.tup (xs.map V.str))/\H' ta=some (.tup (Eo (Ax rows ds xs)));refine⟨Cg,?_,?_⟩
    ·refine⟨Z,Z,Z,aa,ld,tc,n,rows,AJ,ds,us,xs,Y,g,QW.a1,QW.b1,QW.hld,QW.hD,gd,Ku,gc,n4,λlf Qb hlf C4 Xa=>⟨BF _,λl0 E5=>?_⟩⟩;have CG:AA Qb (upd Qb l0 (.lst [])):=A6 E5;have Rr:(upd Qb l0 (.lst [])) l0=some (.lst []):=uS;generalize upd Qb l0 (.lst [])=xP at CG Rr;have HY:=C4.trans CG;have Gm:=QW.same HY;have DB:=HY _ _ Ku;refine⟨.list ((AO rows ds xs).map G9),.list [],.list (SqL.of (CG _ _ Xa)) (bW _),.list (SqL.of Rr) .nil,uc _ _,Y,Z,?_⟩;by_cases fe:AO rows ds xs=[]
     ·rw[show CL (.list ((AO rows ds xs).map G9)) (.list [])=true from by rw[fe];exact EZ _];exact Ao ⟨ta,Y,Gm,DB,by rw[show Ax rows ds xs=[]from by unfold Ax;rw[fe];rfl];exact HY _ _ Kx⟩
     ·rw[show CL (.list ((AO rows ds xs).map G9)) (.list [])=false from GV (λz=>by injection z with z;exact fe (List.map_eq_nil_iff.mp z))];refine By ⟨Z,Z,Z,Z,Z,p,aa,tc,rows,AJ,xs,Y,Gm.pot,g,Gm.a1,Gm.b1,DB,gc.known,W,λlu ord cs xO NL hlu luw lup=>?_⟩;have JQ:=Gm.drawn NL;obtain⟨jH,JT,JU⟩:=Gm.pot;have FN:=Drawn.tup NL JT JU DB;refine⟨yb,tc,lu,O,xs,ord,cs,Y,⟨JQ.bd,g,gd,n4,W,FN,gc,hlu.at_,Rz g (by omega) lup,lup,JQ.tab⟩,λHR Jk Mr=>?_⟩;have Tz:=JQ.sameT Jk Mr;have RA:=D8 JQ.tab.tbl Jk FN (λ_ z=>nomatch z)
      rcases ax g gd gc lup hf with⟨z,_⟩ | ⟨k,r,en,_,er⟩
      ·exact absurd z fe
      rw[er];refine⟨U,λXm XI=>?_⟩;have Dh:AA HR (upd HR Xm (.tup [.str "deed",AF k])):=A6 XI;exact⟨Xm,Y,Tz.same Dh,Dh _ _ RA,by rw[en];exact uS⟩
    rintro σ' Qb ⟨ta,rfl,ie,Kt,RC⟩;obtain⟨Ra,Xg⟩:=ie.bd;refine⟨Z,Z,yb,Ra,tc,O,xs,Y,Xg,g,gd,n4,Kt,gc,λtt xP htt CG Rr=>?_⟩;have Gm:=ie.same CG;have DB:=CG _ _ Kt;have Kw:=CG _ _ RC;refine⟨Z,_,_,KH Rr,KH Kw,KG _ _,KG _ _,Z,?_⟩;rw[EZ];refine Ao ⟨Z,Z,Z,Z,Z,p,aa,tc,rows,AJ,xs,Y,Gm.pot,g,Gm.a1,Gm.b1,DB,gc.known,W,λlu ord cs xO NL hlu luw lup=>?_⟩;have JQ:=Gm.drawn NL;obtain⟨jH,JT,JU⟩:=Gm.pot;have FN:=Drawn.tup NL JT JU DB;have RB:=Drawn.tup NL JT JU Kw;refine⟨yb,tc,lu,O,xs,ord,cs,Y,⟨JQ.bd,g,gd,n4,W,FN,gc,hlu.at_,Rz g (by omega) lup,lup,JQ.tab⟩,λHR Jk Mr=>?_⟩;have Tz:=JQ.sameT Jk Mr;have FO:=D8 JQ.tab.tbl Jk RB (λ_ z=>nomatch z)
    rcases ax g gd gc lup hf with⟨_,en,er⟩ | ⟨k,r,en,_,er⟩
    ·rw[er];rw[en]at FO;refine⟨Z,Y,Z,Ao (Ao ⟨Z,Y,Z,By ⟨Z,J,λt2 BD=>?_⟩⟩)⟩;have Dh:AA HR (upd HR t2 (.tup [.str "none"])):=A6 BD;have Ou:(upd HR t2 (.tup [.str "none"])) t2=some (.tup (Eo [])):=uS;generalize upd HR t2 (.tup [.str "none"])=xN at Dh Ou;refine⟨_,_,KH (Dh _ _ FO),KH Ou,KG _ _,KG _ _,Z,?_⟩;rw[EZ];exact Ao ⟨_,_,_,Z,Tz.same Dh⟩
    ·rw[er];rw[en]at FO;refine⟨Z,Y,Z,By ⟨Z,Z,U,λt2 BD=>?_⟩⟩;have Dh:AA HR (upd HR t2 (.tup [.str "deed",AF k])):=A6 BD;have Ou:(upd HR t2 (.tup [.str "deed",AF k])) t2=some (.tup (Eo [k])):=uS;generalize upd HR t2 (.tup [.str "deed",AF k])=xN at Dh Ou;refine⟨_,_,KH (Dh _ _ FO),KH Ou,KG _ _,KG _ _,Z,?_⟩;rw[EZ];exact Ao ⟨Z,Y,Z,Ao (Ao ⟨_,_,_,Z,Tz.same Dh⟩)⟩
   ·rintro σ H8 ⟨x9,T9,T8,RK,rfl,L8⟩;exact q H8
end Mf
namespace Mf
open PySem L2
variable {P:Program}{w:World}{K:Fg}{mg:Str->OU}{base:Heap}
def md{K:Fg}{m q:Str}{st:Stmt}{ps:LS}(T:Mp K C m q st f fd)(b:C6 K fd ps []):El K C m q st ps f fd:=⟨T.fn,b,T.a,T.i,T.fn.kp⟩
def tq:=@tp
set_option maxHeartbeats 4000000 in
def all_mk{l:W.OpenLaw}{w:World}{K:Fg}{h:Heap}{mg:Str->OU}(X:K.In h)(G:h.Ns mainGlobals mg)(hfa:mg "law"=some (.ref fa))
  {T_LETTERS T_MOST_LETTERS T_MOST_KINDS T_MOST_UPS T_MOST_PLACES T_MOST_DEEDS T_MOST_CALLS:Tok}
  (TC:Cp K "Kinds" C)
  (TB:Cp K "Board" B)
  (T_mI:Mp K C "__init__" "Kinds.__init__" WK f_mI d_mI)
  (T_mH:Mp K C "has" "Kinds.has" Sy f_mH d_mH)
  (T_mC:Mp K C "check" "Kinds.check" Py f_mC d_mC)
  (T_mUn:Mp K C "under" "Kinds.under" TH f_mUn d_mUn)
  (T_mW:Mp K C "words" "Kinds.words" TJ f_mW d_mW)
  (T_mB:Mp K C "beneath" "Kinds.beneath" P4 f_mB d_mB)
  (T_mL:Mp K C "below" "Kinds.below" Px f_mL d_mL)
  (T_mA:Mp K C "above" "Kinds.above" OA f_mA d_mA)
  (T_bI:Mp K B "__init__" "Board.__init__" WJ f_bI d_bI)
  (T_bK:Mp K B "kinds" "Board.kinds" S_ f_bK d_bK)
  (T_bP:Mp K B "places" "Board.places" TX f_bP d_bP)
  (T_bD:Mp K B "deeds" "Board.deeds" S9 f_bD d_bD)
  (T_bS:Mp K B "check_size" "Board.check_size" TZ f_bS d_bS)
  (T_w:Tp K "is_word" Nr f_w d_w)
  (T_cr:Tp K "check_rows" S8 f_cr d_cr)
  (T_cu:Tp K "check_ups" S0 f_cu d_cu)
  (T_fa:Tp K "first_among" OB f_fa d_fa)
  (T_en:Tp K "endless" Nq f_en d_en)
  (T_fr:Tp K "find_ring" S1 f_fr d_fr)
  (T_aa:Tp K "all_above" Sz f_aa d_aa)
  (T_P:Tp K "_law_pot" Pm f_P d_P)
  (T_T:Tp K "_law_take" Gb f_T d_T)
  (T_Le:Tp K "_law_letters" N8 f_Le d_Le)
  (T_W:Tp K "_law_word" Gd f_W d_W)
  (T_Ws:Tp K "_law_words" S7 f_Ws d_Ws)
  (T_U:Tp K "_law_ups" L0 f_U d_U)
  (T_R:Tp K "_law_rows" N0 f_R d_R)
  (T_A:Tp K "_law_above" S3 f_A d_A)
  (T_ic:Tp K "is_call" KJ f_ic d_ic)
  (T_cd:Tp K "check_deeds" TV f_cd d_cd)
  (T_cc:Tp K "check_call" Pq f_cc d_cc)
  (T_wi:Tp K "within" Lq f_wi d_wi)
  (T_fi:Tp K "fitting" Lz f_fi d_fi)
  (T_na:Tp K "nearest_among" P5 f_na d_na)
  (T_nw:Tp K "nearest_with" N9 f_nw d_nw)
  (T_ne:Tp K "nearest" Sh f_ne d_ne)
  (T_to:Tp K "told_of" Ph f_to d_to)
  (T_td:Tp K "told" O9 f_td d_td)
  (T_de:Tp K "_law_deeds" N2 f_de d_de)
  (T_lw:Tp K "_law_within" P0 f_lw d_lw)
  (T_oe:Tp K "one_of_each" P2 f_oe d_oe)
  (T_sm:Tp K "_law_small" S5 f_sm d_sm)
  (T_wh:Tp K "_law_whole" S6 f_wh d_wh)
  (T_nx:Tp K "nexts" SF f_nx d_nx)
  (T_il:Tp K "is_line" Pg f_il d_il)
  (T_bo:Tp K "beneath_one_ahead" P_ f_bo d_bo)
  (T_ln:Tp K "_law_line" KQ f_ln d_ln)
  (T_iu:Tp K "is_lineup" Pu f_iu d_iu)
  (T_lu:Tp K "_law_lineup" Pz f_lu d_lu)
  (T_sp:Tp K "spots" PJ f_sp d_sp)
  (T_pl:Tp K "plain_line" KR f_pl d_pl)
  (T_rk:Tp K "ranked" Lp f_rk d_rk)
  (T_tk:Tp K "taken" PK f_tk d_tk)
  (T_la:Tp K "line_ahead" N3 f_la d_la)
  (T_pu:Tp K "plain_lineup" P9 f_pu d_pu)
  (T_ag:Tp K "lineup_against" L4 f_ag d_ag)
  (T_pt:Tp K "parting" Si f_pt d_pt)
  (T_lf:Tp K "_law_fits" N6 f_lf d_lf)
  (T_lil:Tp K "_law_is_line" P7 f_lil d_lil)
  (T_lilu:Tp K "_law_is_lineup" P6 f_lilu d_lilu)
  (T_lah:Tp K "_law_ahead" S4 f_lah d_lah)
  (T_lrk:Tp K "_law_ranked" TM f_lrk d_lrk)
  (T_tx:Tp K "_law_texts" Pp f_tx d_tx)
  (T_pr:Tp K "_law_pair" N7 f_pr d_pr)
  (T_un:Tp K "_law_unlike" TQ f_un d_un)
  (T_co:Tp K "commons" Nx f_co d_co)
  (T_ba:Tp K "beneath_any" P1 f_ba d_ba)
  (T_ca:Tp K "common_calls" P8 f_ca d_ca)
  (T_as:Tp K "are_strangers" TY f_as d_as)
  (T_st:Tp K "strangers" Pw f_st d_st)
  (T_ev:Tp K "even" R3 f_ev d_ev)
  (T_L:Tp K "law" O2 f_L d_L)
  (n_ups_of:W.findIn K (.ref C) "ups_of"=some none)
  (n_above_of:W.findIn K (.ref C) "above_of"=some none)
  (n_book_B:W.findIn K (.ref B) "book"=some none)
  (n_width_B:W.findIn K (.ref B) "width"=some none)
  (n_stands_B:W.findIn K (.ref B) "stands"=some none)
  (n_has_B:W.findIn K (.ref B) "has"=some none)
  {cb_pl Tb_pl cb_rk Tb_rk:Addr}
  (hc_pl:d_pl.code=.ref cb_pl)
  (ht_pl:W.codeHdIn K cb_pl Tb_pl=true)
  (hc_rk:d_rk.code=.ref cb_rk)
  (ht_rk:W.codeHdIn K cb_rk Tb_rk=true)
  (hTne:Tb_pl≠Tb_rk)
  (g_LETTERS:W.nsIn K mainGlobals "LETTERS"=some (some (.str Md.letters T_LETTERS)))
  (g_MOST_LETTERS:W.nsIn K mainGlobals "MOST_LETTERS"=some (some (.int 8 T_MOST_LETTERS)))
  (g_MOST_KINDS:W.nsIn K mainGlobals "MOST_KINDS"=some (some (.int 24 T_MOST_KINDS)))
  (g_MOST_UPS:W.nsIn K mainGlobals "MOST_UPS"=some (some (.int 8 T_MOST_UPS)))
  (g_MOST_PLACES:W.nsIn K mainGlobals "MOST_PLACES"=some (some (.int 4 T_MOST_PLACES)))
  (g_MOST_DEEDS:W.nsIn K mainGlobals "MOST_DEEDS"=some (some (.int 64 T_MOST_DEEDS)))
  (g_MOST_CALLS:W.nsIn K mainGlobals "MOST_CALLS"=some (some (.int 512 T_MOST_CALLS)))
  (z_len:W.nsIn K mainGlobals "len"=some none)
  (z_all:W.nsIn K mainGlobals "all"=some none)
  (z_any:W.nsIn K mainGlobals "any"=some none)
  (z_list:W.nsIn K mainGlobals "list"=some none)
  (z_tuple:W.nsIn K mainGlobals "tuple"=some none)
  (z_range:W.nsIn K mainGlobals "range"=some none)
  (z_int:W.nsIn K mainGlobals "int"=some none)
  (z_isinstance:W.nsIn K mainGlobals "isinstance"=some none)
  (z_sorted:W.nsIn K mainGlobals "sorted"=some none)
  (z_zip:W.nsIn K mainGlobals "zip"=some none)
  (z_bool:W.nsIn K mainGlobals "bool"=some none)
  (z_enumerate:W.nsIn K mainGlobals "enumerate"=some none)
  (z_str:W.nsIn K mainGlobals "str"=some none)
  : (∀ T∈[Tb_pl,Tb_rk],∃ c,W.codeHdIn K c T=true)/\∃ fd:FuncData,(∀(s:Shared) (v:Value),BindsTo s fd ⟨[v],[]⟩ [("script",v)])/\∀ base:Heap,K.In base->base.Ns mainGlobals mg->(∀ T∈[Tb_pl,Tb_rk],mainGlobals≠T/\base.BuiltinsAt mg T)->FG l.prog w K mg base JR 12 fa fd ["script"] (R4 K Tb_pl Tb_rk):=by
 have e:=hfa.symm.trans (W.mg_of X G T_L.a);cases e;obtain⟨_,_,_,_,_,_,rfl⟩:=Tp.ex T_L.fn;have mgC_LETTERS:=W.mg_of X G g_LETTERS;have mgC_MOST_LETTERS:=W.mg_of X G g_MOST_LETTERS;have mgC_MOST_KINDS:=W.mg_of X G g_MOST_KINDS;have mgC_MOST_UPS:=W.mg_of X G g_MOST_UPS;have mgC_MOST_PLACES:=W.mg_of X G g_MOST_PLACES;have mgC_MOST_DEEDS:=W.mg_of X G g_MOST_DEEDS;have mgC_MOST_CALLS:=W.mg_of X G g_MOST_CALLS;have mgN_len:=W.mg_none_of X G z_len;have mgN_all:=W.mg_none_of X G z_all;have mgN_any:=W.mg_none_of X G z_any;have mgN_list:=W.mg_none_of X G z_list;have mgN_tuple:=W.mg_none_of X G z_tuple;have mgN_range:=W.mg_none_of X G z_range;have mgN_int:=W.mg_none_of X G z_int;have mgN_isinstance:=W.mg_none_of X G z_isinstance;have mgN_sorted:=W.mg_none_of X G z_sorted;have mgN_zip:=W.mg_none_of X G z_zip;have mgN_bool:=W.mg_none_of X G z_bool;have mgN_enumerate:=W.mg_none_of X G z_enumerate;have mgN_str:=W.mg_none_of X G z_str;obtain⟨aC,pg,hd,po,sa,mk,kc⟩:=TC;have mgC:=W.mg_of X G aC;have M:Mk K C f_mI:=⟨mk,T_mI.a,T_mI.i,kc⟩;obtain⟨aB,pg_B,hd_B,po_B,sa_B,mk_B,kc_B⟩:=TB;have mgB:=W.mg_of X G aB;have M_B:Mk K B f_bI:=⟨mk_B,T_bI.a,T_bI.i,kc_B⟩;have F_mI:=T_mI.fn;have b_mI:=Cu "self" "rows" T_mI.fn;have a_mH:=T_mH.a;have M_mH:=md T_mH (Cu "self" "word" T_mH.fn);have M_mC:=md T_mC (Cu "self" "word" T_mC.fn);have M_mUn:=md T_mUn (CS "self" "one" "other" T_mUn.fn);have M_mW:=md T_mW (C5 "self" T_mW.fn);have M_mB:=md T_mB (CS "self" "one" "other" T_mB.fn);have M_mL:=md T_mL (Cu "self" "word" T_mL.fn);have M_mA:=md T_mA (Cu "self" "word" T_mA.fn);have F_bI:=T_bI.fn;have b_bI:=NM "self" "kinds" "places" "deeds" T_bI.fn;have M_bK:=md T_bK (C5 "self" T_bK.fn);have M_bP:=md T_bP (C5 "self" T_bP.fn);have M_bD:=md T_bD (C5 "self" T_bD.fn);have M_bS:=md T_bS (C5 "self" T_bS.fn);have D_w:=df X G T_w (C5 "text" T_w.fn);have D_cr:=df X G T_cr (C5 "rows" T_cr.fn);have D_cu:=df X G T_cu (C5 "ups_of" T_cu.fn);have D_fa:=df X G T_fa (Cu "words" "others" T_fa.fn);have D_en:=df X G T_en (C5 "ups_of" T_en.fn);have D_fr:=df X G T_fr (C5 "ups_of" T_fr.fn);have D_aa:=df X G T_aa (Cu "ups_of" "word" T_aa.fn);have D_P:=df X G T_P (Cu "script" "k" T_P.fn);have D_T:=df X G T_T (Cu "pot" "many" T_T.fn);have D_Le:=df X G T_Le (C5 "number" T_Le.fn);have D_W:=df X G T_W (Cu "pot" "words" T_W.fn);have D_Ws:=df X G T_Ws (Cu "pot" "many" T_Ws.fn);have D_U:=df X G T_U (CS "pot" "k" "shape" T_U.fn);have D_R:=df X G T_R (Cu "pot" "most" T_R.fn);have D_A:=df X G T_A (C5 "rows" T_A.fn);have D_ic:=df X G T_ic (CS "kinds" "places" "call" T_ic.fn);have D_cd:=df X G T_cd (CS "kinds" "places" "deeds" T_cd.fn);have D_cc:=df X G T_cc (CS "kinds" "places" "call" T_cc.fn);have D_wi:=df X G T_wi (CS "kinds" "one" "other" T_wi.fn);have D_fi:=df X G T_fi (Cu "board" "call" T_fi.fn);have D_na:=df X G T_na (Cu "board" "numbers" T_na.fn);have D_nw:=df X G T_nw (NM "kinds" "deeds" "near" "number" T_nw.fn);have D_ne:=df X G T_ne (Cu "board" "call" T_ne.fn);have D_to:=df X G T_to (C5 "near" T_to.fn);have D_td:=df X G T_td (Cu "board" "call" T_td.fn);have D_de:=df X G T_de (kh "pot" "rows" "above" "places" "most" T_de.fn);have D_lw:=df X G T_lw (CS "above" "one" "other" T_lw.fn);have D_oe:=df X G T_oe (C5 "rows" T_oe.fn);have D_sm:=df X G T_sm (NM "script" "kinds" "calls" "most" T_sm.fn);have D_wh:=df X G T_wh (C5 "found" T_wh.fn);have D_nx:=df X G T_nx (Cu "board" "call" T_nx.fn);have D_il:=df X G T_il (CS "kinds" "word" "line" T_il.fn);have D_bo:=df X G T_bo (CS "kinds" "line" "spot" T_bo.fn);have D_ln:=df X G T_ln (CS "pot" "above" "word" T_ln.fn);have D_iu:=df X G T_iu (CS "board" "call" "lineup" T_iu.fn);have D_lu:=df X G T_lu (CS "pot" "above" "call" T_lu.fn);have D_sp:=df X G T_sp (Cu "deed" "lineup" T_sp.fn);have D_pl:=df X G T_pl (Cu "kinds" "word" T_pl.fn);have D_rk:=df X G T_rk (CS "board" "call" "lineup" T_rk.fn);have D_tk:=df X G T_tk (CS "board" "call" "lineup" T_tk.fn);have D_la:=df X G T_la (CS "kinds" "word" "other" T_la.fn);have D_pu:=df X G T_pu (Cu "board" "call" T_pu.fn);have D_ag:=df X G T_ag (NM "board" "call" "one" "other" T_ag.fn);have D_pt:=df X G T_pt (Cu "board" "call" T_pt.fn);have D_lf:=df X G T_lf (CS "above" "deeds" "call" T_lf.fn);have D_lil:=df X G T_lil (CS "above" "word" "line" T_lil.fn);have D_lilu:=df X G T_lilu (CS "above" "call" "lineup" T_lilu.fn);have D_lah:=df X G T_lah (NM "deeds" "one" "other" "lineup" T_lah.fn);have D_lrk:=df X G T_lrk (CS "deeds" "fits" "lineup" T_lrk.fn);have D_tx:=df X G T_tx (C5 "found" T_tx.fn);have D_pr:=df X G T_pr (C5 "found" T_pr.fn);have D_un:=df X G T_un (NM "board" "above" "deeds" "call" T_un.fn);have D_co:=df X G T_co (CS "kinds" "one" "other" T_co.fn);have D_ba:=df X G T_ba (CS "kinds" "word" "others" T_ba.fn);have D_ca:=df X G T_ca (CS "kinds" "one" "other" T_ca.fn);have D_as:=df X G T_as (CS "kinds" "one" "other" T_as.fn);have D_st:=df X G T_st (C5 "board" T_st.fn);have D_ev:=df X G T_ev (C5 "board" T_ev.fn);have D_L:=df X G T_L (C5 "script" T_L.fn);have TK:OC mg:=⟨⟨_,mgC_LETTERS⟩,⟨_,mgC_MOST_LETTERS⟩,⟨_,mgC_MOST_KINDS⟩,⟨_,mgC_MOST_UPS⟩,mgN_len,mgN_all,mgN_list,mgN_tuple⟩;have TR:ee mg:=⟨mgN_range,mgN_int,mgN_len,mgN_tuple,mgN_list⟩;have TC:CT K C:=⟨⟨pg,hd,po,sa⟩,n_ups_of,n_above_of⟩;have TBd:E_ K B:=⟨⟨pg_B,hd_B,po_B,sa_B⟩,n_book_B,n_width_B,n_stands_B⟩;have TBm:Wd mg:=⟨⟨_,mgC_MOST_PLACES⟩,⟨_,mgC_MOST_DEEDS⟩,mgN_len,mgN_all,mgN_tuple,mgN_list,mgN_enumerate⟩;have hBC:B≠C:=λz=>by rw[z,a_mH]at n_has_B;cases n_has_B
 have TS:dc mg:=⟨⟨_,mgC_MOST_CALLS⟩,mgN_len,mgN_range,mgN_list⟩;have TE:WQ mg:=⟨mgN_len,mgN_range,mgN_list⟩;have hts:∀ T∈[Tb_pl,Tb_rk],∃ c,W.codeHdIn K c T=true:=by
  intro T hT;simp only[Yw,List.not_mem_nil,or_false]at hT
  rcases hT with rfl | rfl
  ·exact⟨_,ht_pl⟩
  ·exact⟨_,ht_rk⟩
 exact⟨hts,_,λs v=>.of_eq rfl,λbase kb _ hb=>have LT_pl:LM mg base cb_pl Tb_pl:=⟨W.codeHd_of_K kb ht_pl,(hb Tb_pl (by simp)).1,(hb Tb_pl (by simp)).2⟩;have LT_rk:LM mg base cb_rk Tb_rk:=⟨W.codeHd_of_K kb ht_rk,(hb Tb_rk (by simp)).1,(hb Tb_rk (by simp)).2⟩;have GI:=ua (P:=l.prog) (w:=w) (base:=base) F_mI TK TC D_cr D_w D_cu D_fr D_en D_fa D_aa;have GB:=lO (P:=l.prog) (w:=w) (base:=base) F_bI TBm TBd TC D_cd D_ic M_mH hBC;have GP:=sg (P:=l.prog) (w:=w) (base:=base) D_P mgN_len;have GT:=PQ (P:=l.prog) (w:=w) (base:=base) D_T;have GR:=lV (P:=l.prog) (w:=w) (base:=base) D_R D_T D_U D_Ws D_W D_Le TR;have GLA:=n9 (P:=l.prog) (w:=w) (base:=base) D_A mgN_len;have GDe:=nO (P:=l.prog) (w:=w) (base:=base) D_de D_T ⟨mgN_len,mgN_range,mgN_tuple⟩;have GSm:=lW D_sm mgN_len D_R GR D_P GP D_T GT D_A GLA D_de GDe;have GIL:=pG D_il mgN_sorted mgN_any mgN_range mgN_len TC M_mA (cO M_mA.fn TC M_mC M_mH) D_bo (sZ D_bo mgN_any TC M_mB (cP M_mB.fn TC M_mUn M_mC M_mH));have GIU:=qT (P:=l.prog) (w:=w) (base:=base) D_iu mgN_sorted mgN_list mgN_range mgN_len mgN_all mgN_zip TC TBd M_bK M_bP D_cc (dX D_cc D_ic mgN_len mgN_all TC M_mH) D_il GIL;have GLn:=lS (P:=l.prog) (w:=w) (base:=base) D_ln mgN_list mgN_any mgN_len D_T GT;have GLU:=pI D_lu mgN_range mgN_len D_T GT D_ln GLn;have GW:=b_ (P:=l.prog) (w:=w) (base:=base) D_wi mgN_zip TC M_mUn M_mC M_mH;have GF:=pF (P:=l.prog) (w:=w) (base:=base) D_fi TBm mgN_zip TC TBd M_bK M_bP M_bD D_cc D_wi D_ic M_mUn M_mC M_mH;have GA:=qc D_na mgN_list mgN_any TBd M_bK M_bD D_nw D_wi GW;have GN:=pL D_ne D_na GA D_fi GF;have GNx:=lT D_nx mgN_len D_na GA D_fi GF D_to;have GTd:=uk D_td D_ne GN D_to mgN_len;have GCo:=pA (P:=l.prog) (w:=w) (base:=base) D_co D_ba mgN_any TC M_mL M_mB M_mUn M_mC M_mH;have GCC:=nN D_ca mgN_zip D_oe D_co GCo;have GAs:=uX D_as D_wi GW;have GSt:=qV D_st TE TBd M_bK M_bD D_as GAs;have GS:=uh (P:=l.prog) (w:=w) (base:=base) M_bS.fn TS TBd TC M_mW;have GE:=uZ D_ev TE TBd M_bK M_bD M_bS GS D_st GSt D_ca GCC D_td GTd;have TW:WR mg:=⟨mgN_all,mgN_zip,mgN_isinstance,mgN_int,mgN_bool⟩;have TN:eZ mg:=⟨mgN_len,mgN_range,mgN_any⟩;have GLW:=pK (P:=l.prog) (w:=w) (base:=base) D_lw TW;have GWh:=mW (P:=l.prog) (w:=w) (base:=base) D_wh TW;Exists.elim (lU (P:=l.prog) (w:=w) (base:=base)) λlp GPl=>Exists.elim (oA (P:=l.prog) (w:=w) (base:=base)) λlr GRk=>have GPl:=GPl D_pl hc_pl LT_pl mgN_sorted mgN_len TC M_mA (cO M_mA.fn TC M_mC M_mH);have GRk:=GRk D_rk hc_rk LT_rk mgN_sorted mgN_list TBd M_bD D_iu GIU D_fi GF D_sp;have GTk:=mU D_tk D_rk GRk;have GLF:=lR D_lf TN D_lw GLW;have GUd:=Vf M_mUn.fn TC M_mC M_mH;have GPU:=ue D_pu mgN_list mgN_range TBd M_bK M_bP D_pl GPl;have GLa:=lN D_la TC M_mUn GUd D_pl GPl;have GAg:=oy D_ag mgN_list mgN_range TC TBd M_bK M_bD M_bP M_mUn GUd D_pl GPl D_la GLa;have GPt:=pY D_pt mgN_len D_nx GNx D_pu GPU D_rk GRk D_ag GAg;have GTx:=mV D_tx mgN_isinstance mgN_list mgN_str mgN_all;have GPr:=ud D_pr mgN_isinstance mgN_list mgN_tuple mgN_len mgN_all D_wh GWh D_tx GTx;have GLLU:=ub D_lilu mgN_sorted mgN_list mgN_range mgN_len mgN_all mgN_zip D_lil (sf D_lil mgN_sorted mgN_any mgN_range mgN_len);have GLRk:=pJ D_lrk mgN_len D_lah (n_ D_lah);have GUn:=oB D_un mgN_isinstance mgN_tuple mgN_len D_pt GPt D_lf GLF D_pr GPr D_lilu GLLU D_tk GTk D_lrk GLRk;se D_L ⟨mgN_tuple,mgN_len,mgN_range⟩ hTne M mgC b_mI GI M_B mgB b_bI GB D_sm GSm D_P GP D_T GT D_ev GE D_un GUn D_lf GLF D_tk GTk D_lu GLU D_td GTd⟩
def walk{l:W.OpenLaw}{q:Program}{loose:LS}{XP:(Str->OU)->Heap->Prop}{d:DefRec}{K:Params->Fg}{as:List Addr}{e:∀ P,as=(K P).map (·.1)}{T0 T1:Addr}(hn:l.most=some 63)(hdf:d.params.defaults=[])
  (hNT:∀ w:World,W.noTabs (K w.params)=true)
  (F:∀(w:World) (mg:Str->OU) (fa:Addr) (h:Heap),(K w.params).In h->h.Ns mainGlobals mg->mg d.name=some (.ref fa) ->
   (∀ T∈[T0,T1],∃ c,W.codeHdIn (K w.params) c T=true)/\∃ fd:FuncData,(∀(s:Shared) (u:Value),BindsTo s fd ⟨[u],[]⟩ [("script",u)])/\∀ base:Heap,(K w.params).In base->base.Ns mainGlobals mg->(∀ T∈[T0,T1],mainGlobals≠T/\base.BuiltinsAt mg T)->FG l.prog w (K w.params) mg base JR 12 fa fd ["script"] (R4 (K w.params) T0 T1)):
  W.WalkO q loose XP (W.kmHook K as e [T0,T1]).says l.row.toRowW d [] (λf vs=>PySem.call f vs):=
 L2.walk_ofT (n:=63) (k:=12) (x:="script") (CX:=λ_=>JR) (sp:=λw=>R4 (K w.params) T0 T1) hn (by decide) hdf ⟨Y,V,V,Y⟩ hNT F (λ_ _ a ns hl hS hT=>⟨a,ns,Y,hS,hl,hT _ (by simp),hT _ (by simp),λ_=>rfl⟩) λ_ _ _ _ _ z=>z
end Mf
namespace PySem.W.Fast
set_option hygiene false
local macro_rules|`(command|#check $s:str)=>do
 let mut r:=#[]
 let mut n:=0
 let mut k:=0
 for c in s.getString.toList do
  n:=n*62+(c.toNat-(if c.toNat<58 then 48 else if c.toNat<91 then 55 else 61))
  k:=k+1
  if k%11==0 then
   let i:=Lean.mkIdent (.mkSimple s!"tw{n}")
   r:=r.push (←`(command|def $i:ident:=0))
   n:=0
 return Lean.mkNullNode (r.map (·.raw))
#check "IhSK7wZctjsJI2E5tPzBQ45VMC49zvwlP3xUlOLyxYVoDGNxl9bNho7IHdOBOfil7IEFGaC2eA5wPCxKPHSzeuqI54VQB5Msg8h6aLsCJ5B8lEEBe7LIewz7793nnHAMq2Ma31mGYcENfbeApyQDSrjn595UYfhpQ940z3ux7OYvDCojFlPkKVB1sOR8pPduTgBCDYGya21SEMMak1Rfz31WlBl3JwEfcHS4XJTL2NPrnU3eJ36MYMV4ltlIoGBvyzZ4h44XCXi1fzrEfkmIqtSOwhJAxQJEbfPcTNKe498BmUKhdaFx4Q2HB96YDm76IMGn4vjmBU6HL5M0qX4OYKlSGNaMBICL6dM6tQ9HLGuL4eovUWLSP137KaOvMSEjRER3XRr8zWS7G73peG1YGowIGPmvntsQxqBVS0I8H60dpC40xK6TDG8970e8U54K9Rm5g5iK74h8yD7Z2vF9vY0t362nudaNlDeJ4Bft629WsJL1xLefUd4DosDgbidiXkugs1xoRIjrsdoRGkwXPDjHZ3CCxjskiZptisG9If9eekYU7FvreCZ5bOjB7odqNUkn9kgHyvsd2SDpg21wGgMsSEYarD1rBTNXriTB0sfR7NrUI6j0mAJUhdcW8eIQuwepHpkkvADPOXszR5UUCMJAS0mcOweIRkBqmiuTUrE65zCn8rxnN4alRjFVDSnKEenmNfUFyh2B2WOSL1hXs8G5zu4JHsKdwDPjD7VhIced0JuhwqB8G1r5ZLphP1NG349AN9zZs8SkTH8JqwoOGd3KGrZJ3hF3cPRHvWJbZJnkkD3ScZRd7H4dZLoMwyjWAXegL5SdnTa8SonHQCwYCtFQjc4Vxr0KcG79R3y6sVLcN2sdBnAJFyzBJhN2re14dsGIWv6zPRBSCMJoe875ZZGOJZyk5aKYYKK62mdFzuugQKYiDxKGuANtg9sSC5vJsyAmS0FGDBjNCZnnbvS0CbxefG9ar15s3Ou1o8oolHIaIN93c0kw3oxgLSxiJKd446CjTseS3xHjnmSy2EYhj5px1gw4n82F2gacLQS3g4K1rE2jMhVrrDCPldnpDnTTv2iBnGfOgndmIXr7RyRAGQM9exRdqF81c78EHAOLG2ULc59tWxAcbCDjJuxBpGm2rruJCQarpDc8Ft5RIdBPlQYTe43tAUUmUh7hE2h7jaeB5lp7KmUMgpoeGzGWxvQQcNJcIK6S8JgQTZunK3zoJVS42vs13cawgeZm2mCJHuvksCEodAE7TL5JWKVX0DuG0CDCBr4LDH556oYOuQAgMVDFA5qwK3UNtsEIIgdl6uDO20JYRjO9a5ruDztG4iEjoNHFgePTH5RQPTy79smZHb0ZSsq8Of6KqP8JD95rmUIRAncGOxkl4AW6VhybglvbCjBIw5bElD91cenHL4SjPvEMF5b9dVDl62OxYBiPH9fH32BAVpIhMdLBmkeTWt6aMdFAmvXPATdDgFraZj3HiIBQCqSMQQXCz5sKVJgAnOqvvHFdDqErvnfym4k7D4i4g80F4vnBrJfAGuVE7y9wgdNPRC3y5YhWjPiRk2GH49fTlN8K9hquFCYsaSHJGQ4w7S1eQh8Angl5ZxbCU6cDNiRzfE9D9EFRNbu1qRQ7EdqPRJ7dSn9D3ttKQoYYNHqGDKmBHPWKLfW0x7Bo0O2EHViN8a4QRIAfAbvsEQ4Y49LiXmHrvZotKIbKQHpnNoB8ISw98rMbkQKqZiHAbCJzzEqfyoLYgALcKtOa3SO5uu3Guv0ZaaT7fe9xZ7jlFevq7Lodi0c9zxg1EcriXquV2P804OstYjYXYTLm2j6VDLhuC5FBkHZikKdp62gO5pvxuoU1aPsH5BXHtxI5iQa6zicCtD6zeUZHl7uD10n53FGdr278cufdzAYK9NKojxXSDlgYdH9mDLijzuKm7PwxCPoh5O3Io9rQrFRSJCHKzZ2rAlzbf7f5PnKq1ARdEYnuGaBnnzL2Fq90ggSj0C18dX3MstmNWA02Eni56WmfKIheuoieoTlKFdyxgis5cv8u6iuH2nlVA8wznbiWgDF17Bwedx5SfrECMHvdiFxKAS73tzRFWfHU4GVjUtuuRxePAJSQi6hYsZq5p1VmpUy03t2ixS2stuBTz3JsVwcudW89D4T9ADvJpU007EwAqBlnYz95FezdziiWJCwVtK1kGkayKP8S3EWvOa74CeOhyyGxtYHS3ePLtusw85myDhlz9DZK2bKWCVmNhrAA5c2PRAisNgBuVnhqW8KQSEiTMQl8N02S5OWmHXIJ2Lx3b1UyKVe1Bh3e2AL6Hkx1LImid9vH3NY90tOGwOubpciDgcXOoLQt5nBkKGtZw7ZZw9OceQzftKMP91BnCZyFfXY5MwPQwU1SgSJ1wa2gBijSC90UOEvXx8zl2wQz1HoAC5p8zpUuIH9tCqGiVDrbdnco99Hem4lQjjFN9W8sQxeT10DLhpWVI4R29w8FXF7D6r4PvKIWElFINmIW7eM1zRp3jbO3kNdojZbvAs0CGJv1Et11AHMDayuqGTDNChDte5tKHXjCMELRFQ01SsA8hmnDDB0JeJZXxbQRMzEMCzAmozRtJ9e7URPcbv4lmm1oeETY1tf9P3gSN1CSwBtP0qLvqG5kJaDFAoxvI1ZCl6AWOsslauCOs7SKZWvxcV0uEXCmvntiXlW3NR9G10adhRLv5oAcQo6cUIdbqYdinqvaEiZTL9imS4jE01mUDCA0OxCRGmlYubEXzJpyIng90PcVFjHg0nUfNX30dDzSIs5AAC6BU8dVgAdF8CHKS83NezSM3Meop1fnqXf6eES2CXPn0AGI8BHyqBiI3FDAt0mGp3UVBcDrRA3MdZ35ihfTMbGAkyB51GNcMmbGA5KtRjaPSe4t2Yh086N4stNLtpm6avzB4409BFsIQqoDfAk4kQsyLxJ5IoXsmjfkW5BHhlF2XY901n5GkM4ExjDuhFtfNqNeO1Zy1xb0QbeGPcY0MBJxzGBBS2EQiDSzGH2Iz6XFLoOEQlerImSdjKz3Tb62GPyqY59o6OJyL7iaU8d4y3OX744qGOcQ7TdikvVQ6mfLGxLU0YiXi51lUVWQYvBfDAPaRX9LLgbJ6tUc5FuOYod2UIqLOWOMMB0BxJ0oWNqd6CS6zr1NeXav1jTxZ8CBVFI5ZghnjAEff61GUvYmYxrhgFTklkmgFCxKFICsZHpfHbyEnG0R5OU5cc9NXilHwJGaPKflSCj5LvPvFI2BAtWATqvDUiVBmJ4cYeBlEEyVdT8A57v6uNWNSSghEV2QGBtoHK8J9IzYwF5JrWGiOoft2ouST97rUUXXhI2P4X948Ay6by9H14lkJ8t0XGLgTdnMbVDz21Hp6X6BfGxyCfxgLKAWmCnBINGvOAsXyw3PuuEUsZgOzFf2FbTRtejs1BhQa86VRIH8XHGxHTu45J6ZT5GDG21LsDkDzOpEPcqiLdSn4kkL3PjGtPom2HZOSB4hi6eVXm4xgHZdX8ot8m3OC5DLidJ9Bac0vhwaKIwEQ1BhU5lQxvslR2Ku1qLz4BskAnEV8MpaQyDIR5UqN5adeK6nmidu5gUNmIFDiILivq74GrJTdUNiAWmFolmbFk0Kj7Alouc0LuHpE5oLh91GU0Q9CQnG4qTvvrdBKzOLDTvgl27p8U3poT1PB60VlOq0E7885ampOLKzsaIJo4e7hWvjrS3q1ofWF2nVE23kUJLqM5Gv3KQSMxnKvr80TRx24cPANw3xIWABAn19MJSHtzqWIOaf79om8QXL949DFG3Y3YvXUcASNUsgU0x282pQrjKUJFY7EnjC1JGT9We9M0CtxpB5VMHjUaMvnEUol8chIeLvYAN5HlaxzC9a3cN0v0jXYm1JwQ0qOWoZ3aogq7xOB2hFZ3WAFk0urL7fFEu71fdWRL99O48qVJdxkUwzOGwchtnQtSfL2EtxhNpWftOH5hCrACDCI95pMiLeQ7usiDAtVLfFGM5o035btDXgsEzEZC4Wf79gTzEFzPaszPradGe1Q7Vlp6BM2e1kICK6eHT8MsH8hXdpgo40ekSflLq4a0FUG850XHyx0Z49pQy4qDBH5YDiGIbouk95X3yGwGPJn12SMjPTrD2U9uH9sfXUI6k5OxTyEG1usa3InDAZ1VcHhGBcgjIApdxDCSzUsx80zzL1bYTvJAfLRiClZKUTULecZFlswAoarZWpBO820CQZ51z2mPRIL3l7KNEWlpz9a9gJI6EYmzwtxNLN3yTrFaSaOwM4JHLXAfTSTYHoxzxpobM0gA9j9OQOgar80bMXkoDB1CE7t6ltL74Y8E0XJxqt1U8xL3Vj9P8NyLQmCTeg4IXtDws8hD3be57aoO3IRjFom245U6xdK5mIi9mI15Yk7wce7LyBdp5bqJelns1kQUsS4Oigk4w4i8zDQDkcBT06TJ6mm6eGttaAfpFAPbFAx4eBk7lNi1SxmeII8ZDTAalaeXEajoQB3fESVevdQV8vBv3EMc0Ad8Bc80RkaUrA2YoEKah2suBI3p3kZhEaRUHA4zUk1qKMTD6Tv23b2nd7CRKkOzQUTWNCQpd2f60g6U5by5SzkhJimL0Cz0MMSvevI2RzTdY6b9KCizsOlmEu4oAWAiexf4AMC7E22wLnKLir2mWvUtANw13IQIBiXgJEMhHkoImhWbgy2GujIP8aguxH6WBs12D1siA58GQeDYZ1J27aCM6ApFTOgJD47DkIcirCGDs6PxzJG0GD52HpTx61VD0PW2GRQ3NGWKliiNj7FJSYHJ4ObE350pqDZlO0NKqgBZ1zt6xgb7SdKJiWpcYBZdGPBTsuVIj1LoIAV3YHPd2dPA0n8Bwtbsvb5LvgWvDFBo5IL48hOWJfeAoJ7sJZQDQK4WGu6rAdz5tYAGAF8Mhbt5jdFvFda0XTMaoEcmomRUygFX1DIBepEY372B7ntI3TL3XM6DdityItQ7n3qzR6CYcZ9x3LEiI1nnCcJLQfrEdlMhY2JbUUFh1OrEiJ2yVszVzPjsImmHEMFbdBuFrVKya3csqHFQlKbjep5QvF0g9aeS9ooTCsCeW2m6j3p8ZhDfC5cYKJ6whYcjTWaGW6nmpZIiT54a3raEWZvotXGJdsOocbgbVaJ7qJv3ecgzKJ4YDXvvZ81jIEoigGdwL82HO9SThZ8HpuFjZN7XtGdPdEVNeBeTFzTd1PFzceecqlC20LFxqLZ4GSAqrxkypcHoK9HBiiCmMKaK5Fmr7L50WhJ4PwBW1Pitf7KR53J2Tg4bBJ3kJEcZeP76J0VjYdcJVVfEtMNYeYM23TCVX6mtilAub1A02VE6tCYb054J5umDb256pJ9ZsGosbJ6F4VfoOurTp5pHQYEDMglx0PdxXOmPDvs3j0cs8MvM5gL0eyk0xQJ5sKf6p9xZMFeOHEogojE23JAEnGtWQr0poSEYPewO4ufqs1BCsjrRYeCfBjXWpXEpgc2BekEZFjk7UfBZ0lgZ8sucYBYdLy1PoifT18VmHYEQN1JB3zfDYGj9OaAtEwl7owJgMAn20RKzZf04Am9beVVfzcZ06fPWUk5FgaAVLjXvcNAjxAU9aIBQZmdlAQCrmYv5JiRAGv49ekRhwKA9DCPB10dhpA5p03sdpLYr9wrVZohR7Od9sW6KLFpYvB9kldzL7Cx619Vk6ouLFNqa9NH5GU4O6wt9MawOmQQrWH94Ga30M7Q2z0u2AjHHgWPN8mxBGVQ3Pu88YloUdjw3q28XGlM1t3Zd38X0w12En9cC8Td0CCqLAvC8SkBDfett9L8RzLGVChWaQ8Ftb01TbrDr8ERmoe36AFd8BbwRoqaB8K8B73GjHrUID83dn6rylsim80eTKI1Xqox7p2Z95W2KM07oFWz47Whic7hSDiZVETHi7UThgXu5Wyt7P2Xfp1i2427IwVLqhz0qF7DfNgyG1Ux46yS94Hrl3Oo6wJZbPzntZd6djOliaNU3S6W3qgvBsGjP6VXwLx0eTh06OmULGJmUmR6Lga5Hm9hlj6KE3okNKVCR64QwJ7ZUV5m617155oJauP5zOIFCleHAw5tkckpeClXD0aBA7m6nLKH5ov2JRpwOjZ5g0OYHeEYpK0WVCDt4yPXx57HalGXF9Te4fnsNywEMB44cL8BFkKsZI4T685287NUe0RB5iHMdeaF4LOJxyy6oe24IVlklWfij40Qbloa7sPyI4D8ywXi3Hmk0PuMQG57nrO49u1Gd8IPEX41DQC18YClw0ODCOeJycCj3rTipnImlYA3kQeBFgaW5D3gnaFETxrwD0KreZBvWA1X3F2UZSaL4af3D1VOcY1eQR2vC9qg2zTrw2Z3jzOQmKwy2CAk7dm8r9k0DN6ZOdFHATLWK4jdp7k1NLSal2R8CQrnLJjIQwiGodZ26cMUuSiY5zL2elB3bn8aEKhisRGq4eKUKYEoljOn43MKXdj3siioMYKQNypEMc44X0CaiJSyRxgT20nsVD1x8o0JwCbT28YBN6JlXy4oQmDYUJhMnmImDjTo1whzEHk1qCSJAxyhAiWA3oJ7oi2ViJ6lbJ6lKwBd5Go7IwxvKzJZrC8IpdyeFXXzH1IZPrl6W02epIZB9aWz9RSiIV4oGGNa3MaINdp1PKHnEPIMSFyyJdO0NIJ9tiP8tczHI9DqO7RW8jiI2lDwHHLd5AI243M3Z7gisHXOrXdAPhAMHSakQMaFZiCHHLVikjVgU8Gx9xhRcUNedGpL1HI813whGjNT8Rl6asZGgbWFgUBh3IGXEL6eG8mYBGPc1TK4UDVYGM0xaaE0nkWGEpWKSnne3tGAHyKK4Zyj9Fy2BmZ6dwqNFnaQ23JTcYmFfb8j5AX9ymFQtn7DrS2QEFMycPybTwEiFLmqGN8c04aFJEvFx4qkdnF8zcX7eNEcFF3nzphaP8S7EpBcwnI3eHhElBPoR1uvTS1THFJGliSEN1SJzigExrCjEOmaJiPRedJEO8ReYyIunSENNe0GYdVJcEKq0W3jUswLE6XCas6kBUlDhLrgpr5NPw1MKwgVTiUqFDS3d6ZxlkAhDEtd4n61f6jD2WqEDbbZM8CbaHI7SPHp6CVgcg3bpZogCR2y8hZefh8CNygvcxYvVZCLXnmMNVS65C9RU9OrXPUmC6I5jZwwbbdC2VozfmPHY61CIwNGqhPZz"
end PySem.W.Fast
open PySem PySem.W PyProof.Rows
set_option maxRecDepth 100000 in
set_option maxHeartbeats 0 in
theorem PySem.Challenge.cw_manydeeds_k40_whole_even_where_lineups_a_holds : PySem.Challenge.rw_manydeeds_k40_whole_even_where_lineups_a.Holds := by
 w_on;o_law;k_head;(case hw=>w_witness2)
 k_fill
 refine Mf.walk (l:=PySem.Challenge.rw_manydeeds_k40_whole_even_where_lineups_a) rfl rfl (λw=>by kernel_rfl) ?F
 case F =>
  intro w mg fa h KX G hmg;refine' Mf.all_mk KX G hmg ?_ ?_ ?_ ?_ ?_ ?_ ?_ ?_ ?_ ?_ ?_ ?_ ?_ ?_ ?_ ?_ ?_ ?_ ?_ ?_ ?_ ?_ ?_ ?_ ?_ ?_ ?_ ?_ ?_ ?_ ?_ ?_ ?_ ?_ ?_ ?_ ?_ ?_ ?_ ?_ ?_ ?_ ?_ ?_ ?_ ?_ ?_ ?_ ?_ ?_ ?_ ?_ ?_ ?_ ?_ ?_ ?_ ?_ ?_ ?_ ?_ ?_ ?_ ?_ ?_ ?_ ?_ ?_ ?_ ?_ ?_ ?_ ?_ ?_ ?_ ?_ ?_ ?_ ?_ ?_ ?hc_pl ?ht_pl ?hc_rk ?ht_rk ?hTne ?_ ?_ ?_ ?_ ?_ ?_ ?_ ?_ ?_ ?_ ?_ ?_ ?_ ?_ ?_ ?_ ?_ ?_ ?_ ?_
  skip
  any_goals first | exact L2.tp (by k_is) (by k_is) (by k_is) (by k_is) | exact L2.mp (by k_is) (by k_is) (by k_is) (by k_is) (by k_is) | exact⟨by k_is,by k_is,by k_is,by k_is,by k_is,by k_is,by k_is⟩ | k_is
  (case hc_pl=>exact rfl)
  (case ht_pl=>kernel_rfl)
  (case hc_rk=>exact rfl)
  (case ht_rk=>kernel_rfl)
  (case hTne=>decide)
