import PyProof.Rows.All
import Wide.All
import OpenK.AllK
import Wide.FinOn
import Lean
import PyProof.EqAt
import PyProof.EqKinds
import PyProof.TupleCall
import PySem.Challenge.RW_manydeeds_k97_whole_books_through_texts
set_option Elab.async false
set_option linter.all false
set_option maxRecDepth 100000
abbrev EV:=PySem.Value->PySem.Shared->Prop
abbrev PL:=List (PySem.Addr×PySem.Obj)
abbrev LU:=List PySem.Value
abbrev OU:=Option PySem.Value
abbrev LN:=List Nat
def Ja:=@PySem.wpAny_bind
def Jb:=@decide_eq_true
def Jc:=@decide_eq_false
def Jd:=@PySem.wpAny_pure
def Je:=@of_decide_eq_true
def Jf:=@PySem.wpAny_mono
def Jg:=@PySem.wpAny_field
def Jh:=@PySem.wpAny_truthy_bool
def Jj:=@PySem.wpAny_holding
set_option hygiene false
local macro_rules|`(tactic|rfl')=>`(tactic|decide +kernel)
local macro_rules|`(tactic|ac_rfl)=>`(tactic|intro pins s σ H Q I h)
local macro_rules|`(tactic|exfalso)=>`(tactic|intro pins s σ H x y v u Q I rx ry h)
abbrev RS:=List (PySem.Str×List PySem.Str)
abbrev LS:=List PySem.Str
abbrev Fg:=PySem.W.Frag
def Ya:=@List.length_map
def Yb:=@List.getElem?_eq_getElem
def Yc:=@List.length_append
def Yd:=@List.mem_of_getElem?
def Ye:=@PySem.Heap.get?_push_of_some
def Yf:=@Nat.le_refl
def Yg:=@List.mem_map
def Yh:=@List.mem_singleton
def Yi:=@List.getElem?_eq_some_iff
def Yj:=@List.getElem?_map
def Yk:=@PySem.Heap.lt_size
def Yl:=@List.getD_eq_getElem?_getD
def Ym:=@Option.some.inj
def Yn:=@List.size_toArray
def Yo:=@List.mem_append
def Yp:=@PySem.Heap.get?_push_size
def Yq:=@Bool.false_ne_true
def Yr:=@List.mem_cons_of_mem
def Ys:=@List.map_append
def Yt:=@List.length_cons
def Yu:=@PySem.Paired.length
def Yv:=@List.mem_cons
def Yw:=@PySem.PassesOwn.never
def Yx:=@Nat.ne_of_lt
def Yy:=@List.mem_cons_self
def Yz:=@List.map_cons
def Ae:=@Ne.symm
def Ax:=@Nat.zero_le
def CV:=@Option.map_eq_some_iff
def BI:=@PySem.boot_len
def Cs:=@PySem.F.plainAttrs_list
def Bg:=@List.length_take
def Bt:=@List.take_add_one
def B2:=@Nat.lt_of_lt_of_le
def Bs:=@List.take_length
def B1:=@Bool.and_eq_true
def Dy:=@PySem.F.slot_list_append
def Dx:=@PySem.F.type_list_append
def CL:=@List.all_eq_true
def Br:=@Nat.ne_of_gt
def B0:=@Nat.le_trans
def Cr:=@List.nodup_cons
def B9:=@List.map_map
def C5:=@List.append_nil
def Vi:=@PyProof.Rows.callWith_type1
def Ur:=@PyProof.Rows.boot_tuple
def UY:=@List.length_singleton
def LO:=@List.append_assoc
def Ut:=@List.mem_append_right
def DQ:=@Bool.true_and
def Sm:=@List.lookup_cons
def Dz:=@List.take_zero
def Us:=@Int.toNat_of_nonneg
def VH:=@List.filter_eq_self
def V6:=@PySem.F.plainAttrs_str
def UZ:=@Nat.le_add_right
def Xl:=@List.getElem?_append_right
def W3:=@List.take_of_length_le
def W2:=@PyProof.Rows.boot_list
def YZ:=@List.nodup_iff_pairwise_ne
def LM:=@PySem.Paired.snoc
def YY:=@PySem.AutoSeq1.wpAny_loadPart'
def Vj:=@decide_eq_decide
def Wz:=@List.length_pos_iff
def Xj:=@List.length_filter_le
def cW:=@PyProof.Rows.slot_tuple_getitem
def VG:=@List.mem_range
def Xh:=@List.mem_append_left
def aF:=@List.drop_eq_getElem_cons
def Xm:=@PySem.mem_of_lookup
def W6:=@List.flatMap_cons
def Y4:=@PySem.F.slot_zip_next
def Y3:=@List.mem_iff_getElem?
def Y2:=@PySem.F.slot_str_join
def Y1:=@PySem.F.type_str_join
def cj:=@PyProof.Rows.boot_isinstance
def W5:=@List.length_drop
def V5:=@Bool.false_and
def Y0:=@Array.length_toList
def W0:=@Bool.eq_iff_iff
def cY:=@List.getElem?_append_left
def Vk:=@Nat.lt_trans
def Xk:=@List.any_eq_true
def V4:=@List.all_cons
def Wy:=@PySem.Heap.size_push
def cX:=@List.getElem?_cons_succ
def YX:=@Int.toNat_natCast
def Xi:=@List.mem_filter
def Xg:=@List.find?_cons
def aE:=@List.map_congr_left
def W7:=@Nat.lt_irrefl
def Y5:=@Option.getD_some
def m_:=@PySem.F.slot_tuple_iterator_next
def cu:=@List.take_append_drop
def Z_:=@Int.emod_lt_of_pos
def cm:=@PyProof.Rows.boot_int
def cf:=@PyProof.Rows.boot_all
def W4:=@Int.zero_add
def cb:=@List.mem_of_mem_take
def cZ:=@beq_eq_false_iff_ne
def Z9:=@List.getElem_mem
def Z8:=@List.filter_cons
def hJ:=@PySem.Heap.get?_update_other
def g_:=@PySem.Calls.callWith_builtin
def g6:=@PySem.Heap.get?_update_self
def g0:=@Array.getElem?_toList
def Z7:=@List.length_zip
def gz:=@List.getElem?_eq_none
def Z6:=@Int.emod_nonneg
def YW:=@List.any_cons
def nD:=@Classical.byContradiction
def h9:=@PySem.Around.under_plainId
def nC:=@PySem.F.plain_extend_loop
def hZ:=@List.getElem?_of_mem
def aA:=@List.nodup_nil
def m7:=@PySem.F.slot_dict_items
def m6:=@PySem.F.args_zip_next_1
def cc:=@List.of_mem_zip
def m4:=@List.getElem?_set_self
def mz:=@PySem.F.entry_zip_next
def my:=@Classical.choose_spec
def mw:=@List.getElem?_set_ne
def hV:=@List.cons_append
def mr:=@List.mem_iff_getElem
def g9:=@List.cons_ne_nil
def mq:=@PySem.evalArgs_none
def mn:=@Array.toList_append
def mm:=@List.take_succ_cons
def mj:=@List.flatMap_append
def gy:=@List.length_set
def gx:=@List.forIn_cons
def h_:=@Nat.min_eq_left
def sX:=@List.getElem?_zip_eq_some
def h7:=@List.nil_append
def hX:=@List.filter_map
def m9:=@PySem.Calls.spliced_cons
def sW:=@Option.isSome_iff_exists
def sV:=@PySem.F.args_tuple_add_2
def m5:=@Nat.lt_of_le_of_lt
def m3:=@Bool.false_eq_true
def sU:=@PySem.F.entry_tuple_add
def sS:=@PySem.F.plainAttrs_dict
local macro_rules|`(tactic|nofun)=>`(tactic|exact ⟨rfl,rfl,rfl,by decide +kernel,rfl,by decide +kernel,by decide +kernel⟩)
set_option hygiene false
local macro_rules|`(tactic|nomatch $t)=>`(tactic|refine $t (fun vs H Q E h=>?_) (fun A5 A outer s H vs Q E hr h=>?_))
local macro_rules|`(⋯)=>`(Uq P w K mg base Y7)
noncomputable section
local macro_rules | `(tactic| ac_nf)=>`(tactic| (with_reducible show let X:=_;let d:=_;∃ t,CY X _ t∧t d _ _);intros)
local macro_rules | `(tactic|exists $t)=>`(tactic|(with_reducible show let a:=_;$t);intros)
local macro_rules|`(⟨$a,*⟩)=>do
 let b:=a.getElems
 if b.any fun x=>[`Z,`Y,`W,`V,`U,`O].contains x.raw.getId then
  let c←b.mapM fun x=>(match x.raw.getId with|`Z=>return #[←`(_),←`(rfl)]|`Y=>return #[←`(rfl)]|`W=>return #[←`(by omega)]|`V=>return #[←`(by decide)]|`U=>return #[←`(sL (by show 2<=100000;decide))]|`O=>return #[←`(sL (by show 1<=100000;decide))]|_=>return #[x]:Lean.MacroM (Array Lean.Term))
  let d:Array Lean.Term:=c.flatten
  `(⟨$d,*⟩)
 else Lean.Macro.throwUnsupported
namespace L2
open PySem PySem.Spec PyProof.Rows
abbrev Key:=Sum Int Str
def Zc:Key->Value->Bool
 | .inl k,v=>Value.isInt k v
 | .inr x,v=>Value.isStrOf x v
def Ye0(w:World):Key->Int
 | .inl k=>hashInt k
 | .inr x=>hashStr w x
def Wx:∀ {k:Key}{v:Value},Zc k v=true->(∃ i t,k=Sum.inl i/\v=Value.int i t)\/(∃ x t,k=Sum.inr x/\v=Value.str x t)
 | .inl i,v,h=>by
  obtain⟨t,e⟩:=Value.isInt_shape (k:=i) (v:=v) h;exact .inl ⟨i,t,Y,e⟩
 | .inr x,v,h=>by
  obtain⟨t,e⟩:=Value.isStrOf_shape (x:=x) (v:=v) h;exact .inr ⟨x,t,Y,e⟩
def Zys(i:Int)(t:Tok):Zc (.inl i) (.int i t)=true:=by simp[Zc,Value.isInt]
def Zyr(x:Str)(t:Tok):Zc (.inr x) (.str x t)=true:=by simp[Zc,Value.isStrOf]
def Z8o(a b:Int):decide ((Sum.inl a:Key)=Sum.inl b)=(a == b):=by
 by_cases e:a=b
 ·subst e;simp
 ·have h:¬ (Sum.inl a:Key)=Sum.inl b:=λq=>e (Sum.inl.inj q);rw[Jc h];exact(cZ.mpr e).symm
def Z8l(a b:Str):decide ((Sum.inr a:Key)=Sum.inr b)=decide (a=b):=by
 by_cases e:a=b
 ·subst e;simp
 ·have h:¬ (Sum.inr a:Key)=Sum.inr b:=λq=>e (Sum.inr.inj q);rw[Jc h,Jc e]
def Z8n(a:Int)(b:Str):decide ((Sum.inl a:Key)=Sum.inr b)=false:=Jc (λq=>nomatch q)
def Z8m(a:Str)(b:Int):decide ((Sum.inr a:Key)=Sum.inl b)=false:=Jc (λq=>nomatch q)
def CC(prog:Program)(w:World):PySem.KeyKind prog w Key where
 is:=Zc
 hash:=Ye0 w
 inj:=λv a b ha hb=>by
  rcases Wx ha with⟨i,t,rfl,rfl⟩ | ⟨x,t,rfl,rfl⟩
  ·rcases Wx hb with⟨j,u,rfl,e⟩ | ⟨y,u,rfl,e⟩
   ·injection e with e1 _;rw[e1]
   ·exact nomatch e
  ·rcases Wx hb with⟨j,u,rfl,e⟩ | ⟨y,u,rfl,e⟩
   ·exact nomatch e
   ·injection e with e1 _;rw[e1]
 byValue:=λk v h=>by
  rcases Wx h with⟨i,t,rfl,rfl⟩ | ⟨x,t,rfl,rfl⟩ <;> rfl
 pyHash:=λhv h=>by
  rcases Wx hv with⟨i,t,rfl,rfl⟩ | ⟨x,t,rfl,rfl⟩
  ·exact wpAny_pyHash_int h
  ·exact wpAny_pyHash_str h
 eqBool:=λhu hv h=>by
  rcases Wx hu with⟨i,t,rfl,rfl⟩ | ⟨x,t,rfl,rfl⟩
  ·rcases Wx hv with⟨j,u,rfl,rfl⟩ | ⟨y,u,rfl,rfl⟩
   ·rw[Z8o]at h;exact wpAny_eqBool_int h
   ·rw[Z8n]at h;exact SeqAt.EqAt.int_str i t y u _ _ _ _ h
  ·rcases Wx hv with⟨j,u,rfl,rfl⟩ | ⟨y,u,rfl,rfl⟩
   ·rw[Z8m]at h;exact SeqAt.EqAt.str_int x t j u _ _ _ _ h
   ·rw[Z8l]at h;exact wpAny_eqBool_str h
 «strs»:=λk x t v h=>by
  rcases Wx h with⟨i,u,rfl,e⟩ | ⟨y,u,rfl,e⟩
  ·exact nomatch e
  ·injection e with e1 _;subst e1;cases v <;> rfl
def Zro(prog:Program)(w:World)(i:Int)(t:Tok):(CC prog w).is (.inl i) (.int i t)=true:=Zys i t
def Zrn(prog:Program)(w:World)(x:Str)(t:Tok):(CC prog w).is (.inr x) (.str x t)=true:=Zyr x t
inductive V where
 | non | bl (b:Bool) | int (i:Int) | str (x:Str) | byt (b:Array UInt8) | flt (b:UInt64) | ref (a:Addr) | ty (n:String)
 deriving DecidableEq
abbrev _root_.LV:=List V
abbrev _root_.OV:=Option V
abbrev _root_.KL:=List (Key×V)
def Ah:V->Value->Prop
 | .non,u=>u=Value.none
 | .bl b,u=>u=Value.bool b
 | .int i,u=>∃ t,u=Value.int i t
 | .str x,u=>∃ t,u=Value.str x t
 | .byt b,u=>∃ t,u=Value.bytes b t
 | .flt b,u=>∃ t,u=Value.float b t
 | .ref a,u=>u=Value.ref a
 | .ty n,u=>u=Value.type n
abbrev Ac:LV->LU->Prop:=Paired Ah
theorem Ac.length{xs:LV}{us:LU}(r:Ac xs us):xs.length=us.length:=Yu r
theorem Ac.get:∀ {xs:LV}{us:LU}{i:Nat}{x:V},Ac xs us->xs[i]?=some x->∃ u,us[i]?=some u/\Ah x u
 | _,_,_,_,.nil,e=>by simp at e
 | _,_,0,_,.cons r _,e=>by simp at e;subst e;exact⟨Z,r⟩
 | _,_,i + 1,x,.cons _ t,e=>by
  obtain⟨u,h1,h2⟩:=Ac.get (i:=i) (x:=x) t (by simpa using e);exact⟨u,by simpa using h1,h2⟩
theorem Ac.set{x:V}{u:Value}(r:Ah x u):∀ {xs:LV}{us:LU}(i:Nat),Ac xs us->Ac (xs.set i x) (us.set i u)
 | _,_,_,.nil=>.nil
 | _,_,0,.cons _ t=>.cons r t
 | _,_,i + 1,.cons q t=>.cons q (Ac.set r i t)
theorem Ac.append:∀ {xs ys:LV}{us ws:LU},Ac xs us->Ac ys ws->Ac (xs++ys) (us++ws)
 | _,_,_,_,.nil,s=>s
 | _,_,_,_,.cons r t,s=>.cons r (Ac.append t s)
theorem Ac.take:∀ {xs:LV}{us:LU}(n:Nat),Ac xs us->Ac (xs.take n) (us.take n)
 | _,_,0,_=>.nil
 | _,_,_ + 1,.nil=>.nil
 | _,_,n + 1,.cons r t=>.cons r (Ac.take n t)
theorem Ac.drop:∀ {xs:LV}{us:LU}(n:Nat),Ac xs us->Ac (xs.drop n) (us.drop n)
 | _,_,0,r=>r
 | _,_,_ + 1,.nil=>.nil
 | _,_,n + 1,.cons _ t=>Ac.drop n t
def Tv:OV->OU->Prop
 | some v,some u=>Ah v u
 | none,none=>True
 | _,_=>False
def KV{κ:Type}:List (κ×V)->List (κ×Value)->Prop:=Paired λ(p:κ×V) (q:κ×Value)=>p.1=q.1/\Ah p.2 q.2
def kV:Key->V
 | .inl i=>.int i
 | .inr x=>.str x
inductive HO where
 | lst (xs:LV)
 | tup (xs:LV)
 | dK (kvs:KL) | dT (kvs:List (List Key×V))
 | set (S:Int->Bool) (n:Nat)
 | ins (C dx:Addr) (fs:List (Str×V))
 | own (x:Addr)
 | xd (fs:List (Str×V))
 | met (f x:Addr)
 | rng (lo hi:Int)
 | frz (o:Obj) (u:HO)
 | tbl (ps:Array Value)
 | ext (φ:Heap->Prop)
abbrev Hp:=Addr->Option HO
def upd(H:Hp)(a:Addr)(o:HO):Hp:=λb=>if b=a then some o else H b
def uS{H:Hp}{a:Addr}{o:HO}:upd H a o a=some o:=by unfold upd;rw[if_pos rfl]
def AD{H:Hp}{a b:Addr}{o:HO}(h:b≠a):upd H a o b=H b:=by unfold upd;rw[if_neg h]
def YG{H:Hp}{a:Addr}{o u:HO}:upd (upd H a o) a u=upd H a u:=by
 funext b;unfold upd;split <;> rfl
def sM{H:Hp}{a b:Addr}{o u:HO}(h:H a=some o)(h':H b=some u)(d:o≠u):a≠b:=by
 intro e;subst e;rw[h]at h';exact d (Ym h')
def AK{H:Hp}{a b:Addr}{o:HO}(h:H a=some o)(h':H b=none):a≠b:=by
 intro e;subst e;rw[h]at h';cases h'
section
variable (P:Program)(w:World)
def BU(H:Hp)(h:Heap)(a:Addr):HO->Prop
 | .lst xs=>xs.length<=sizeLine/\∃(its:LU) (n:Nat),Ac xs its/\h.get? a=some {cls:=.type "list",data:=.seq its.toArray n}
 | .tup xs=>xs.length<=sizeLine/\∃ its:LU,Ac xs its/\IsTup h a its.toArray
 | .dK kvs=>kvs.length<=sizeLine/\(a == sysModules)=false/\∃ vs,KV kvs vs/\h.DictOf (CC P w) a vs
 | .dT kvs=>kvs.length<=sizeLine/\(a == sysModules)=false/\∃ xs:List (List Key×Addr×Value),
   Paired (λ(p:List Key×V) (q:List Key×Addr×Value)=>p.1=q.1/\H q.2.1=some (.tup (p.1.map kV))/\Ah p.2 q.2.2) kvs xs /\
   ∃ o es ep,h.get? a=some o/\o.ExactDict/\o.data=.dict es ep/\es.toList=xs.map (entryOfKey (tupleKind (CC P w)))/\(xs.map (·.1)).Nodup
 | .set S n=>h.SetOf (intKind P w) a S n
 | .ins C dx fs=>H dx=some (.own a)/\fs.length<=1000/\dx≠a/\h.get? a=some (W.instObj C dx) /\
   ∃ mA,h.Ns1 dx mA/\(∀ f,Tv (fs.lookup f) (mA f))/\PySem.Within mA (fs.map (·.1))
 | .own _=>∃ o,h.get? a=some o
 | .xd fs=>∃ mA,h.Ns1 a mA/\∀ f,Tv (fs.lookup f) (mA f)
 | .rng lo hi=>∃ t u v,h.get? a=some {cls:=.type "range",data:=.fields #[.int lo t,.int hi u,.int 1 v] }
 | .frz o u=>h.get? a=some o/\BU H h a u
 | .tbl ps=>h.get? a=some {cls:=.none,data:=.fields ps}
 | .met f x=>h.get? a=some (W.methodObj (.ref f) (.ref x))
 | .ext φ=>φ h/\(∃ o,h.get? a=some o)/\∀ h1 h2:Heap,φ h1->(∀ o,h1.get? a=some o->h2.get? a=some o)->φ h2
def Bk(H:Hp)(h:Heap):Prop:=∀ a o,H a=some o->BU P w H h a o
end
section
variable {P:Program}{w:World}{H H':Hp}{h h':Heap}{a:Addr}{o:HO}
theorem BU.lt(x:BU P w H h a o):a<h.objs.size:=by
 cases o with
 | lst xs=>obtain⟨_,_,_,_,e⟩:=x;exact Yk e
 | tup xs=>obtain⟨_,_,_,p⟩:=x;exact p.lt
 | dK kvs=>obtain⟨_,_,_,_,o,_,_,e,_⟩:=x;exact Yk e
 | dT kvs=>obtain⟨_,_,_,_,o,_,_,e,_⟩:=x;exact Yk e
 | set S n=>obtain⟨o,_,_,_,e,_⟩:=x;exact Yk e
 | ins C dx fs=>obtain⟨_,_,_,e,_⟩:=x;exact Yk e
 | own y=>obtain⟨_,e⟩:=x;exact Yk e
 | xd fs=>obtain⟨_,⟨_,_,_,e,_⟩,_⟩:=x;exact Yk e
 | rng lo hi=>obtain⟨_,_,_,e⟩:=x;exact Yk e
 | frz ob u=>obtain⟨e,_⟩:=x;exact Yk e
 | tbl ps=>exact Yk (show h.get? a=some _ from x)
 | met f y=>exact Yk (show h.get? a=some _ from x)
 | ext φ=>obtain⟨_,⟨_,e⟩,_⟩:=x;exact Yk e
theorem Paired.mapP{α β:Type}{F G:α->β->Prop}:∀ {l₁:List α}{l₂:List β},Paired F l₁ l₂->(∀ a b,F a b->G a b)->Paired G l₁ l₂
 | _,_,.nil,_=>.nil
 | _,_,.cons r t,f=>.cons (f _ _ r) (Paired.mapP t f)
def BU.stay(x:BU P w H h a o)(k:∀ b u,(b=a\/H b=some (.own a))->h.get? b=some u->h'.get? b=some u)
  (ho:∀ b,H b=some (.own a)->H' b=some (.own a)) (ht:∀ b xs,H b=some (.tup xs)->H' b=some (.tup xs)):BU P w H' h' a o:=by
 induction o with
 | lst xs=>obtain⟨z,its,n,r,e⟩:=x;exact⟨z,its,n,r,k _ _ (.inl rfl) e⟩
 | tup xs=>obtain⟨z,its,r,ob,e,c⟩:=x;exact⟨z,its,r,ob,k _ _ (.inl rfl) e,c⟩
 | dK kvs=>obtain⟨z,y,vs,r,ob,es,ep,e,c⟩:=x;exact⟨z,y,vs,r,ob,es,ep,k _ _ (.inl rfl) e,c⟩
 | dT kvs =>
  obtain⟨z,y,xs,r,ob,es,ep,e,c⟩:=x;exact⟨z,y,xs,Paired.mapP r λp q z=>⟨z.1,ht _ _ z.2.1,z.2.2⟩,ob,es,ep,k _ _ (.inl rfl) e,c⟩
 | set S n=>obtain⟨ob,es,ep,t,e,c⟩:=x;exact⟨ob,es,ep,t,k _ _ (.inl rfl) e,c⟩
 | ins C dx fs =>
  obtain⟨d,z,ne,e,mA,⟨od,es,ep,e2,c⟩,r⟩:=x;exact⟨ho _ d,z,ne,k _ _ (.inl rfl) e,mA,⟨od,es,ep,k _ _ (.inr d) e2,c⟩,r⟩
 | own y=>obtain⟨ob,e⟩:=x;exact⟨ob,k _ _ (.inl rfl) e⟩
 | xd fs=>obtain⟨mA,⟨od,es,ep,e,c⟩,r⟩:=x;exact⟨mA,⟨od,es,ep,k _ _ (.inl rfl) e,c⟩,r⟩
 | rng lo hi=>obtain⟨t,u,v,e⟩:=x;exact⟨t,u,v,k _ _ (.inl rfl) e⟩
 | frz ob u ih=>obtain⟨e,q⟩:=x;exact⟨k _ _ (.inl rfl) e,ih q⟩
 | tbl ps =>
  have e:h.get? a=some {cls:=.none,data:=.fields ps}:=x;show h'.get? a=some {cls:=.none,data:=.fields ps};exact k a _ (.inl rfl) e
 | met f y =>
  have e:h.get? a=some (W.methodObj (.ref f) (.ref y)):=x;show h'.get? a=some (W.methodObj (.ref f) (.ref y));exact k a _ (.inl rfl) e
 | ext φ=>obtain⟨p,⟨o,e⟩,st⟩:=x;exact⟨st _ _ p λo q=>k _ _ (.inl rfl) q,⟨o,k _ _ (.inl rfl) e⟩,st⟩
theorem Bk.lt(x:Bk P w H h)(e:H a=some o):a<h.objs.size:=(x a o e).lt
def Bk.fresh(x:Bk P w H h)(e:h.objs.size<=a):H a=none:=by
 cases q:H a with
 | none=>rfl
 | some u=>exact absurd (B2 (x.lt q) e) (W7 _)
def Bk.kept(x:Bk P w H h)(k:∀ b u,h.get? b=some u->h'.get? b=some u):Bk P w H h':=λa o e =>
 (x a o e).stay (λb u _ q=>k b u q) (λ_ q=>q) λ_ _ q=>q
def Bk.laid(x:Bk P w H h)(k:∀ b u,h.get? b=some u->h'.get? b=some u)(hp:h.objs.size<=a)(new:BU P w (upd H a o) h' a o):Bk P w (upd H a o) h':=λb u e=>by
 have hn:=x.fresh hp;by_cases hb:b=a
 ·subst hb;rw[uS]at e;cases e;exact new
 ·rw[AD hb]at e;exact(x b u e).stay (λc v _ q=>k c v q) (λc q=>by rw[AD (AK q hn)];exact q) λc xs q=>by rw[AD (AK q hn)];exact q
end
def Rd(H:Hp)(a:Addr)(u:HO):Prop:=H a=some u\/∃ o,H a=some (.frz o u)
def Rd.ok{P:Program}{w:World}{H:Hp}{h:Heap}{a:Addr}{u:HO}(r:Rd H a u)(x:Bk P w H h):BU P w H h a u:=by
 rcases r with r | ⟨o,r⟩
 ·exact x a u r
 ·obtain⟨_,q⟩:=x a _ r;exact q
def iD:Option HO->Prop
 | some (.lst _)=>True
 | some (.dK _)=>True
 | some (.dT _)=>True
 | some (.set _ _)=>True
 | some (.ins _ _ _)=>True
 | some (.ext _)=>True
 | _=>False
section
variable {P:Program}{w:World}{H:Hp}{h h':Heap}{x e:Addr}{o':HO}
def Bk.write(ok:Bk P w H h)(mu:iD (H x))(he:e=x\/H e=some (.own x))(k:∀ b u,b≠e->h.get? b=some u->h'.get? b=some u)(heo:∃ u,h'.get? e=some u)
  (new:BU P w (upd H x o') h' x o'):Bk P w (upd H x o') h':=λb u q=>by
 have nown:∀ c y,H c=some (.own y)->c≠x:=λc y r z=>by subst z;rw[r]at mu;exact mu
 have ntup:∀ c xs,H c=some (.tup xs)->c≠x:=λc xs r z=>by subst z;rw[r]at mu;exact mu
 by_cases hb:b=x
 ·subst hb;rw[uS]at q;cases q;exact new
 ·rw[AD hb]at q;by_cases hbe:b=e
  ·have q':H b=some (.own x):=by
    rcases he with z | z
    ·exact absurd (hbe.trans z) hb
    ·rw[hbe];exact z
   rw[q]at q';cases q';obtain⟨v,hv⟩:=heo;exact⟨v,by rw[hbe];exact hv⟩
  ·refine(ok b u q).stay (λc v hc r=>k c v ?_ r) (λc r=>by rw[AD (nown c b r)];exact r) λc xs r=>by rw[AD (ntup c xs r)];exact r
   rcases hc with rfl | hc
   ·exact hbe
   ·rintro rfl
    rcases he with z | z
    ·exact nown c b hc z
    ·rw[hc]at z;cases z;exact hb rfl
end
structure Un(fs ex:List Addr)(H H':Hp)(h h':Heap):Prop where
 keep:∀ b o,h.get? b=some o->H b=none->b∉fs->b∉ex->h'.get? b=some o
 slot:∀ b o,h.get? b=some o->H b=none->b∈fs->b∉ex->∃ sl,h'.get? b=some {o with slots:=sl}
 free:∀ b o,h.get? b=some o->H b=none->b∉ex->H' b=none
 there:∀ b o,h.get? b=some o->b∉ex->∃ o',h'.get? b=some o'
 tups:∀ b xs,H b=some (.tup xs)->H' b=some (.tup xs)
 frzs:∀ b o u,H b=some (.frz o u)->H' b=some (.frz o u)
 tbls:∀ b ps,H b=some (.tbl ps)->∃ more,H' b=some (.tbl (ps++more))
section
variable {fs CI ex ex':List Addr}{H H1 H2:Hp}{h h1 h2 h':Heap}{a x e:Addr}{o:HO}
def Un.any(u:Un fs ex H H1 h h1){b:Addr}{ob:Obj}(q:h.get? b=some ob)(n:H b=none)(hx:b∉ex):∃ sl,h1.get? b=some {ob with slots:=sl}:=by
 by_cases hb:b∈fs
 ·exact u.slot b ob q n hb hx
 ·exact⟨ob.slots,u.keep b ob q n hb hx⟩
def Un.kept(k:∀ b u,h.get? b=some u->h'.get? b=some u):Un fs ex H H h h' :=
 ⟨λb ob q _ _ _=>k b ob q,λb ob q _ _ _=>⟨ob.slots,k b ob q⟩,λ_ _ _ n _=>n,λb ob q _=>⟨ob,k b ob q⟩,λ_ _ q=>q,λ_ _ _ q=>q,λ_ ps q=>⟨#[],by rw[q];simp⟩⟩
def Un.refl:Un fs ex H H h h:=Un.kept λ_ _ q=>q
def Un.laid(k:∀ b u,h.get? b=some u->h'.get? b=some u)(hp:h.objs.size<=a)(hn:H a=none):Un fs ex H (upd H a o) h h' where
 keep:=λb u q _ _ _=>k b u q
 slot:=λb u q _ _ _=>⟨u.slots,k b u q⟩
 free:=λb u q n _=>by rw[AD (Yx (B2 (Yk q) hp))];exact n
 there:=λb u q _=>⟨u,k b u q⟩
 tups:=λb xs q=>by rw[AD (AK q hn)];exact q
 frzs:=λb u xs q=>by rw[AD (AK q hn)];exact q
 tbls:=λb ps q=>⟨#[],by rw[AD (AK q hn),q];simp⟩
def Un.write(mu:iD (H x))(he:e=x\/H e=some (.own x))(k:∀ b u,b≠e->h.get? b=some u->h'.get? b=some u)(heo:∃ u,h'.get? e=some u):Un fs ex H (upd H x o) h h':=by
 have hx:∀ b,H b=none->b≠x:=λb n z=>by subst z;rw[n]at mu;exact mu
 have hb:∀ b,H b=none->b≠e:=λb n z=>by
  subst z
  rcases he with r | r
  ·exact hx b n r
  ·rw[n]at r;cases r
 have hm:∀ b u,H b=some u->¬ iD (some u)->b≠x:=λb u q nm z=>by subst z;rw[q]at mu;exact nm mu
 refine⟨λb u q n _ _=>k b u (hb b n) q,λb u q n _ _=>⟨u.slots,k b u (hb b n) q⟩,λb u q n _=>by rw[AD (hx b n)];exact n,λb u q _=>?_,
  λb xs q=>by rw[AD (hm b _ q λz=>z)];exact q,λb u xs q=>by rw[AD (hm b _ q λz=>z)];exact q,λb ps q=>⟨#[],by rw[AD (hm b _ q λz=>z),q];simp⟩⟩
 by_cases hbe:b=e
 ·subst hbe;exact heo
 ·exact⟨u,k b u hbe q⟩
end
def jJ(h:Heap)(H:Hp):List Addr:=(List.range h.objs.size).filter λa=>(H a).isSome
def Xe(h:Heap)(H:Hp):Heap:=W.hideAll h (jJ h H)
def Zyz(h:Heap)(H:Hp):(Xe h H).objs.size=h.objs.size:=W.hideAll_size _ _
def Z15{h:Heap}{H:Hp}{b:Addr}{o:Obj}(e:h.get? b=some o)(n:H b=none):(Xe h H).get? b=some o :=
 W.hideAll_get _ e λhm=>by
  have q:(H b).isSome=true:=(Xi.mp hm).2;rw[n]at q;simp at q
def Z4v{h:Heap}{H:Hp}{b:Addr}{o:Obj}(e:(Xe h H).get? b=some o):h.get? b=some o/\H b=none:=by
 have e':h.get? b=some o:=W.of_hideAll (jJ h H) e;refine⟨e',?_⟩;cases q:H b with
 | none=>rfl
 | some x =>
  have hm:b∈jJ h H:=Xi.mpr ⟨VG.mpr (Yk e'),by simp[q]⟩;have z:(Xe h H).get? b=none:=W.hideAll_none (jJ h H) hm;rw[z]at e;cases e
def Z5z(g h:Heap)(L:Addr):PL:=(List.range h.objs.size).filterMap λa=>if a=L\/(g.get? a).isSome=true then none else(h.get? a).map λo=>(a,o)
def Dd(g h:Heap)(L d:Addr):PL:=(Z5z g h L).filter λp=>decide (p.1≠d)
structure Mod(K:Fg)(mg:Str->OU)(base:Heap):Prop where
 kin:K.In base
 glob:base.Ns mainGlobals mg
 blt:∃ mb,base.Ns builtinsNs mb/\∀ x:Str,x≠"__name__"->mb x=bootBuiltins x
 nolimit:base.NoLimit
structure Cx where
 prog:Program
 w:World
 K:Fg
 mg:Str->OU
 base:Heap
 A:Around
 N:LS
 s₀:Shared
 H₀:Hp
 env:Env
 outer:List Env
 stack:List Env
 ex:List Addr
 fn:Str->Bool
 calm:Bool
 pn:PL
 xe:EV
def VS(l:List Env):List Addr:=l.filterMap (·.frame)
abbrev Cx.fs(X:Cx):List Addr:=VS X.outer
def nF(sc:Scope)(x:Str):Prop:=sc.names.lookup x=some .local\/sc.names.lookup x=some .cell\/sc.names.lookup x=some .free
def Loc(sc:Scope)(x:Str):Prop:=sc.names.lookup x=some .local\/sc.names.lookup x=some .cell
def Yfi(env:Env)(h:Heap)(m:Str->OU)(x:Str)(u:Value):Prop :=
 (env.kindOf x=some .local/\m x=some u)\/((env.kindOf x=some .cell\/env.kindOf x=some .free)/\∃ c,env.cells.lookup x=some c/\h.IsCell c (some u))
structure Cx.Ok(X:Cx):Prop where
 mod:Mod X.K X.mg X.base
 kind:X.env.scope.kind=.function
 glob:X.env.globals=mainGlobals
 blt:X.env.builtins=builtinsNs
 above:X.s₀.heap.objs.size<=X.env.locals
 inj:∀ x y c,X.env.cells.lookup x=some c->X.env.cells.lookup y=some c->x=y
 has:∀ x,(X.env.kindOf x=some .cell\/X.env.kindOf x=some .free)->∃ c,X.env.cells.lookup x=some c
 cab:∀ x c,X.fn x=true->X.env.cells.lookup x=some c->X.s₀.heap.objs.size<=c
 hd:X.calm=true->X.A.handled=none
 frames:X.A.frames=some X.stack
 stk:X.stack=X.outer\/(X.stack=X.env :: X.outer/\X.env.frame=some X.env.locals)
 exf:∀ b∈X.ex,b≠X.env.locals/\∀ x c,X.env.cells.lookup x=some c->c≠b
 bs:∀ b o,X.base.get? b=some o->X.s₀.heap.get? b=some o/\X.H₀ b=none
 bsz:X.base.objs.size<=X.s₀.heap.objs.size
 noex:∀ b o,X.base.get? b=some o->b∉X.ex
 exfs:∀ b∈X.ex,b∉X.fs
 funs:X.s₀.heap.FunFrames X.base X.outer
 frf:∀ b∈X.fs,X.H₀ b=none
structure Inv(X:Cx)(pins:PL)(σ:List (OV))(H:Hp)(s:Shared):Prop where
 ok:X.Ok
 os:s.os=X.s₀.os
 bare:AllBare s.gens
 base:Un X.fs X.ex X.H₀ H X.s₀.heap s.heap
 loc:∃ m,s.heap.Ns X.env.locals m/\∀(i:Nat) (x:Str) (v:V),X.N[i]?=some x->σ[i]?=some (some v)->nF X.env.scope x->∃ u,Ah v u/\Yfi X.env s.heap m x u
 cell:∀ x c,X.env.cells.lookup x=some c->∃ v,s.heap.IsCell c v
 free:H X.env.locals=none
 freeC:∀ x c,X.env.cells.lookup x=some c->H c=none
 pin:∀ p∈X.pn++pins,s.heap.get? p.1=some p.2/\H p.1=none/\p.1≠X.env.locals/\p.1∉X.fs/\∀ v,p.2.data≠.cell v
 hok:Bk X.prog X.w H s.heap
 len:σ.length=X.N.length
section
variable {X:Cx}{pins:PL}{σ:List (OV)}{H H':Hp}{s:Shared}{h':Heap}
def Cx.Ok.nofr(ok:X.Ok){b:Addr}{o:Obj}(e:X.base.get? b=some o):b∉X.fs:=λhb=>by
 have:=(ok.funs.mem hb).1;rw[e]at this;cases this
theorem Inv.bs(I:Inv X pins σ H s):∀ b o,X.base.get? b=some o->s.heap.get? b=some o/\H b=none:=λb o e =>
 ⟨I.base.keep b o (I.ok.bs b o e).1 (I.ok.bs b o e).2 (I.ok.nofr e) (I.ok.noex b o e),I.base.free b o (I.ok.bs b o e).1 (I.ok.bs b o e).2 (I.ok.noex b o e)⟩
def Inv.bk(I:Inv X pins σ H s):∀ b o,X.base.get? b=some o->s.heap.get? b=some o:=λb o e=>(I.bs b o e).1
theorem Inv.mod(I:Inv X pins σ H s):Mod X.K X.mg X.base:=I.ok.mod
def Inv.kIn(I:Inv X pins σ H s):X.K.In s.heap:=I.ok.mod.kin.keeps I.bk
theorem Inv.lt(I:Inv X pins σ H s):X.env.locals<s.heap.objs.size:=let⟨_,hn,_⟩:=I.loc;hn.lt
def Inv.sz(I:Inv X pins σ H s):X.s₀.heap.objs.size<=s.heap.objs.size:=B0 I.ok.above (Nat.le_of_lt I.lt)
def Inv.nofs(I:Inv X pins σ H s){a:Addr}(h:s.heap.objs.size<=a):a∉X.fs:=λhb=>by
 obtain⟨_,o,ho,_⟩:=I.ok.funs.mem hb;exact absurd (B2 (Yk ho) (B0 I.sz h)) (W7 _)
def Inv.cne(I:Inv X pins σ H s):∀ x c,X.env.cells.lookup x=some c->c≠X.env.locals:=λx c e z=>by
 obtain⟨v,o,ho,hd⟩:=I.cell x c e;obtain⟨m,⟨o',es,ep,Bw,ou,_⟩,_⟩:=I.loc;rw[z,Bw]at ho;cases ho;rw[ou]at hd;cases hd
theorem Inv.funs(I:Inv X pins σ H s):s.heap.FunFrames X.base X.outer:=by
 have all:∀(l:List Env),(∀ b∈VS l,b∈X.fs)->X.s₀.heap.FunFrames X.base l->s.heap.FunFrames X.base l:=by
  intro l
  induction l with
  | nil=>intro _ _;trivial
  | cons env r ih =>
   intro hs hl;obtain⟨hk,⟨L,o,hf,hn,ho,hd⟩,hr⟩:=hl;have hL:L∈X.fs:=hs L (by unfold VS;rw[List.filterMap_cons,hf];exact Yy);obtain⟨sl,e⟩:=I.base.slot L o ho (I.ok.frf L hL) hL λz=>I.ok.exfs L z hL;exact⟨hk,⟨L,_,hf,hn,e,hd⟩,ih (λb hb=>hs b (by unfold VS;rw[List.filterMap_cons,hf];exact Yr _ hb)) hr⟩
 exact all X.outer (λ_ hb=>hb) I.ok.funs
theorem Inv.stack(I:Inv X pins σ H s):s.heap.FunFrames X.base X.stack:=by
 rcases I.ok.stk with e | ⟨e,hf⟩
 ·rw[e];exact I.funs
 ·rw[e];obtain⟨m,hn,_⟩:=I.loc;refine .cons (by rw[I.ok.kind];decide) hf hn ?_ I.funs;exact Heap.get?_none_of_le (B0 I.ok.bsz I.ok.above)
def Inv.stkSub(I:Inv X pins σ H s):∀ b∈VS X.stack,b∈X.env.locals :: X.fs:=λb hb=>by
 rcases I.ok.stk with e | ⟨e,hf⟩
 ·rw[e]at hb;exact Yr _ hb
 ·rw[e]at hb;unfold VS at hb;rw[List.filterMap_cons,hf]at hb;exact hb
def Inv.stkFree(I:Inv X pins σ H s):∀ b∈VS X.stack,H b=none:=λb hb=>by
 rcases Yv.mp (I.stkSub b hb)with e | hb
 ·rw[e];exact I.free
 ·obtain⟨_,o,ho,_⟩:=I.ok.funs.mem hb;exact I.base.free b o ho (I.ok.frf b hb) λz=>I.ok.exfs b z hb
def Inv.step{g':Array GenState}{t':Nat}{d':Drawn}{ch:List Addr}(I:Inv X pins σ H s)
  (hch:∀ b∈ch,(b∈X.ex\/X.s₀.heap.objs.size<=b)/\b≠X.env.locals/\(∀ x c,X.env.cells.lookup x=some c->c≠b)/\∀ p∈X.pn++pins,p.1≠b)
  (keep:∀ b o,b≠X.env.locals->b∉X.fs->b∉ch->s.heap.get? b=some o->H b=none->h'.get? b=some o)
  (slot:∀ b o,b≠X.env.locals->b∈X.fs->b∉ch->s.heap.get? b=some o->H b=none->∃ sl,h'.get? b=some {o with slots:=sl}) (free:∀ b o,b∉ch->s.heap.get? b=some o->H b=none->H' b=none)
  (there:∀ b o,b∉ch->s.heap.get? b=some o->∃ o',h'.get? b=some o')
  (tups:∀ b xs,H b=some (.tup xs)->H' b=some (.tup xs)) (frzs:∀ b o u,H b=some (.frz o u)->H' b=some (.frz o u)) (tbls:∀ b ps,H b=some (.tbl ps)->∃ more,H' b=some (.tbl (ps++more)))
  (ns:∀ m,s.heap.Ns X.env.locals m->h'.Ns X.env.locals m) (hok:Bk X.prog X.w H' h') (hg:AllBare g'):
  Inv X pins σ H' {s with heap:=h',gens:=g',drawn:=d',toks:=t' }:=by
 have neL:∀ b o,X.s₀.heap.get? b=some o->b≠X.env.locals:=λb o e=>Yx (B2 (Yk e) I.ok.above);have neC:∀ b o,X.s₀.heap.get? b=some o->b∉X.ex->b∉ch:=λb o e hx hb=>by
  rcases(hch b hb).1 with z | z
  ·exact hx z
  ·exact absurd (B2 (Yk e) z) (W7 _)
 have cellK:∀ x c,X.env.cells.lookup x=some c->∀ v,s.heap.IsCell c v->h'.IsCell c v:=λx c e v ⟨o,ho,hd⟩=>by
  have nch:c∉ch:=λz=>(hch c z).2.2.1 x c e rfl;by_cases hc:c∈X.fs
  ·obtain⟨sl,q⟩:=slot c o (I.cne x c e) hc nch ho (I.freeC x c e);exact⟨_,q,hd⟩
  ·exact⟨o,keep c o (I.cne x c e) hc nch ho (I.freeC x c e),hd⟩
 refine⟨I.ok,I.os,hg,⟨λb o e n hb hx=>?_,λb o e n hb hx=>?_,λb o e n hx=>?_,λb o e hx=>?_,λb xs e=>tups b xs (I.base.tups b xs e),λb o xs e=>frzs b o xs (I.base.frzs b o xs e),λb ps e=>?_⟩,?_,λx c e=>?_,?_,λx c e=>?_,λp hp=>?_,hok,I.len⟩
 ·exact keep b o (neL b o e) hb (neC b o e hx) (I.base.keep b o e n hb hx) (I.base.free b o e n hx)
 ·obtain⟨sl,e1⟩:=I.base.slot b o e n hb hx;obtain⟨sl',e2⟩:=slot b _ (neL b o e) hb (neC b o e hx) e1 (I.base.free b o e n hx);exact⟨sl',e2⟩
 ·obtain⟨o',e1⟩:=I.base.there b o e hx;exact free b o' (neC b o e hx) e1 (I.base.free b o e n hx)
 ·obtain⟨o',e1⟩:=I.base.there b o e hx;exact there b o' (neC b o e hx) e1
 ·obtain⟨m1,e1⟩:=I.base.tbls b ps e;obtain⟨m2,e2⟩:=tbls b _ e1;exact⟨m1++m2,by rw[e2,Array.append_assoc]⟩
 ·obtain⟨m,hn,hl⟩:=I.loc;refine⟨m,ns m hn,λi x v e1 e2 e3=>?_⟩;obtain⟨u,r,l⟩:=hl i x v e1 e2 e3;refine⟨u,r,?_⟩
  rcases l with l | ⟨k,c,e,z⟩
  ·exact .inl l
  ·exact .inr ⟨k,c,e,cellK x c e _ z⟩
 ·obtain⟨v,z⟩:=I.cell x c e;exact⟨v,cellK x c e v z⟩
 ·obtain⟨m,⟨o,_,_,ho,_⟩,_⟩:=I.loc;exact free _ o (λz=>(hch _ z).2.1 rfl) ho I.free
 ·obtain⟨v,o,ho,hd⟩:=I.cell x c e;exact free c o (λz=>(hch c z).2.2.1 x c e rfl) ho (I.freeC x c e)
 ·obtain⟨e,n,ne,nf,d⟩:=I.pin p hp;have nch:p.1∉ch:=λz=>(hch p.1 z).2.2.2 p hp rfl;exact⟨keep p.1 p.2 ne nf nch e n,free p.1 p.2 nch e n,ne,nf,d⟩
def Inv.un{t':Nat}(I:Inv X pins σ H s)(u:Un X.fs [] H H' s.heap h')(hok:Bk X.prog X.w H' h'):Inv X pins σ H' {s with heap:=h',toks:=t' }:=by
 obtain⟨m,⟨o,es,ep,ho,r⟩,_⟩:=id I.loc;obtain⟨sl,hL⟩:=u.any ho I.free (by simp);exact I.step (g':=s.gens) (d':=s.drawn) (ch:=[]) (λ_ z=>nomatch z) (λb o _ hb _ e n=>u.keep b o e n hb (by simp)) (λb o _ hb _ e n=>u.slot b o e n hb (by simp)) (λb o _ e n=>u.free b o e n (by simp)) (λb o _ e=>u.there b o e (by simp)) u.tups u.frzs u.tbls (λm' hm=>by
  obtain⟨o',bJ,bK,Bw,r'⟩:=hm;rw[ho]at Bw;cases Bw;exact⟨_,bJ,bK,hL,r'⟩) hok I.bare
def Inv.call{g':Array GenState}{t':Nat}{d':Drawn}{ch:List Addr}(I:Inv X pins σ H s)(u:Un (VS X.stack) ch H H' s.heap h')(hok:Bk X.prog X.w H' h')(hg:AllBare g')
  (hch:∀ b∈ch,(b∈X.ex\/X.s₀.heap.objs.size<=b)/\b≠X.env.locals/\(∀ x c,X.env.cells.lookup x=some c->c≠b)/\∀ p∈X.pn++pins,p.1≠b):
  Inv X pins σ H' {s with heap:=h',gens:=g',drawn:=d',toks:=t' }:=by
 obtain⟨m,⟨o,es,ep,ho,r⟩,_⟩:=id I.loc;obtain⟨sl,hL⟩:=u.any ho I.free λz=>(hch _ z).2.1 rfl;exact I.step (ch:=ch) hch (λb o hL hb hc e n=>u.keep b o e n (λz=>(Yv.mp (I.stkSub b z)).elim hL hb) hc) (λb o _ _ hc e n=>u.any e n hc) (λb o hc e n=>u.free b o e n hc) (λb o hc e=>u.there b o e hc) u.tups u.frzs u.tbls (λm' hm=>by
  obtain⟨o',bJ,bK,Bw,r'⟩:=hm;rw[ho]at Bw;cases Bw;exact⟨_,bJ,bK,hL,r'⟩) hok hg
def Inv.turned{t':Nat}{it:Addr}(I:Inv X pins σ H s)(k:∀ b o,b≠it->s.heap.get? b=some o->h'.get? b=some o)(hn:H it=none)(hL:it≠X.env.locals)
  (h1:it∈X.ex\/X.s₀.heap.objs.size<=it) (h2:∀ x c,X.env.cells.lookup x=some c->c≠it) (h3:∀ p∈X.pn++pins,p.1≠it):Inv X pins σ H {s with heap:=h',toks:=t' }:=by
 have nit:∀ b u,H b=some u->b≠it:=λb u e z=>by rw[z,hn]at e;cases e
 refine I.step (g':=s.gens) (d':=s.drawn) (ch:=[it]) (λb hb=>?_) (λb o _ _ hc e _=>k b o (λz=>hc (by simp[z])) e) (λb o _ _ hc e _=>⟨o.slots,k b o (λz=>hc (by simp[z])) e⟩) (λ_ _ _ _ n=>n)
  (λb o hc e=>⟨o,k b o (λz=>hc (by simp[z])) e⟩) (λ_ _ e=>e) (λ_ _ _ e=>e) (λb ps e=>⟨#[],by rw[e];simp⟩) (λm hm=>?_) (λb u e=>?_) I.bare
 ·have e:b=it:=by simpa using hb
  subst e;exact⟨h1,hL,h2,h3⟩
 ·obtain⟨o,es,ep,ho,r⟩:=hm;exact⟨o,es,ep,k _ o (Ae hL) ho,r⟩
 ·refine(I.hok b u e).stay (λc v hc q=>k c v ?_ q) (λ_ q=>q) λ_ _ q=>q
  rcases hc with z | z
  ·rw[z];exact nit b u e
  ·exact nit c _ z
def Inv.tok(I:Inv X pins σ H s)(t:Nat):Inv X pins σ H {s with toks:=t}:=I.un (h':=s.heap) (t':=t) Un.refl I.hok
theorem Inv.kept{t':Nat}(I:Inv X pins σ H s)(k:∀ b u,s.heap.get? b=some u->h'.get? b=some u):Inv X pins σ H {s with heap:=h',toks:=t' }:=I.un (Un.kept k) (I.hok.kept k)
theorem Inv.laid{a:Addr}{o:HO}{t':Nat}(I:Inv X pins σ H s)(k:∀ b u,s.heap.get? b=some u->h'.get? b=some u)(hp:s.heap.objs.size<=a)(new:BU X.prog X.w (upd H a o) h' a o):
  Inv X pins σ (upd H a o) {s with heap:=h',toks:=t' }:=I.un (Un.laid k hp (I.hok.fresh hp)) (I.hok.laid k hp new)
theorem Inv.write{x e:Addr}{o:HO}{t':Nat}(I:Inv X pins σ H s)(mu:iD (H x))(he:e=x\/H e=some (.own x))(k:∀ b u,b≠e->s.heap.get? b=some u->h'.get? b=some u)(heo:∃ u,h'.get? e=some u)
  (new:BU X.prog X.w (upd H x o) h' x o):Inv X pins σ (upd H x o) {s with heap:=h',toks:=t' }:=I.un (Un.write mu he k heo) (I.hok.write mu he k heo new)
def Inv.pins_of{ZD:PL}(I:Inv X pins σ H s)(h:∀ p∈ZD,s.heap.get? p.1=some p.2/\H p.1=none/\p.1≠X.env.locals/\p.1∉X.fs/\∀ v,p.2.data≠.cell v):Inv X ZD σ H s :=
 ⟨I.ok,I.os,I.bare,I.base,I.loc,I.cell,I.free,I.freeC,λp hp=>(Yo.mp hp).elim (λz=>I.pin p (Xh _ z)) (h p),I.hok,I.len⟩
def bz{N:LS}(hN:N.Nodup){i j:Nat}{x:Str}(a:N[i]?=some x)(b:N[j]?=some x):i=j:=by
 obtain⟨h1,e1⟩:=Yi.mp a;obtain⟨h2,e2⟩:=Yi.mp b;exact(List.getElem_inj hN).mp (e1.trans e2.symm)
def zq{M:Model}{A:Around}{E:EV}{i:Nat}{x:Str}{v:V}{u:Value}{Q:Unit->Shared->Prop}(I:Inv X pins σ H s)(hN:X.N.Nodup)(hi:X.N[i]?=some x)(hx:Loc X.env.scope x)(r:Ah v u)
  (h:∀ s',Inv X pins (σ.set i (some v)) H s'->(∃ a,Heap.SameBut a s.heap s'.heap/\(a=X.env.locals\/X.env.cells.lookup x=some a))->Q () s') (hf:X.fn x=true\/X.env.scope.names.lookup x=some .local:=by first | exact .inl rfl | exact .inr rfl | assumption):wpAny M A (storeName X.env x u) Q E s:=by
 obtain⟨m,hn,hl⟩:=id I.loc;have hcls:(X.env.scope.kind == .class || (X.env.scope.kind == .module&&X.env.locals != X.env.globals))=false:=by rw[I.ok.kind];rfl
 have hiσ:i<σ.length:=by rw[I.len];exact(Yi.mp hi).1
 have cne:=I.cne;have tracked:∀ {a:Addr} {h':Heap},(∃ o,s.heap.get? a=some o/\H a=none)->Heap.SameBut a s.heap h'->Bk X.prog X.w H h':=λ{a h'} ha hs b ob e=>by
  obtain⟨_,_,hfree⟩:=ha;refine(I.hok b ob e).stay (λc w' hc q=>(hs.2 c ?_).trans q) (λ_ q=>q) λ_ _ q=>q;rintro rfl
  rcases hc with rfl | hc
  ·rw[hfree]at e;cases e
  ·rw[hfree]at hc;cases hc
 rcases hx with hk | hk
 ·refine wpAny_storeName_local hk hn (λh' XF hs=>?_) hcls;obtain⟨oL,_,_,hoL,_⟩:=id hn;refine h _ ⟨I.ok,I.os,I.bare,⟨λb o e n hb hx=>?_,λb o e n hb hx=>?_,I.base.free,λb o e hx=>?_,I.base.tups,I.base.frzs,I.base.tbls⟩,⟨_,XF,λj y v' e1 e2 e3=>?_⟩,λy c e=>?_,I.free,I.freeC,λp hp=>?_,tracked ⟨oL,hoL,I.free⟩ hs,by simpa using I.len⟩ ⟨_,hs,.inl rfl⟩
  ·exact(hs.2 b (Yx (B2 (Yk e) I.ok.above))).trans (I.base.keep b o e n hb hx)
  ·obtain⟨sl,e1⟩:=I.base.slot b o e n hb hx;exact⟨sl,(hs.2 b (Yx (B2 (Yk e) I.ok.above))).trans e1⟩
  ·obtain⟨o',e1⟩:=I.base.there b o e hx;exact⟨o',(hs.2 b (Yx (B2 (Yk e) I.ok.above))).trans e1⟩
  ·by_cases hj:j=i
   ·subst hj;rw[hi]at e1;cases e1;rw[m4 hiσ]at e2;cases e2;exact⟨u,r,.inl ⟨hk,by simp⟩⟩
   ·rw[mw (Ae hj)]at e2;obtain⟨u',r',q⟩:=hl j y v' e1 e2 e3;refine⟨u',r',?_⟩
    rcases q with⟨k,e⟩ | ⟨k,c,e,z⟩
    ·refine .inl ⟨k,?_⟩;have:y≠x:=λe=>hj (bz hN e1 (e ▸ hi));simp[this,e]
    ·exact .inr ⟨k,c,e,z.sameBut hs (cne y c e)⟩
  ·obtain⟨w',z⟩:=I.cell y c e;exact⟨w',z.sameBut hs (cne y c e)⟩
  ·obtain⟨e,n,ne,nf,d⟩:=I.pin p hp;exact⟨(hs.2 p.1 ne).trans e,n,ne,nf,d⟩
 ·have hfn:X.fn x=true:=by
   rcases hf with z | z
   ·exact z
   ·rw[z]at hk;cases hk
  obtain⟨c,hc⟩:=I.ok.has x (.inl hk);obtain⟨w',z⟩:=I.cell x c hc;refine wpAny_storeName_cell I.ok.kind hk hc z (λh' BF hs=>?_);obtain⟨oc,hoc,hocd⟩:=id z;refine h {s with heap:=h' } ⟨I.ok,I.os,I.bare,⟨λb o e n hb hx=>?_,λb o e n hb hx=>?_,I.base.free,λb o e hx=>?_,I.base.tups,I.base.frzs,I.base.tbls⟩,⟨m,hn.sameBut hs (Ae (cne x c hc)),λj y v' e1 e2 e3=>?_⟩,λy c' e=>?_,I.free,I.freeC,λp hp=>?_,tracked ⟨oc,hoc,I.freeC x c hc⟩ hs,by simpa using I.len⟩ ⟨c,hs,.inr hc⟩
  ·exact(hs.2 b (Yx (B2 (Yk e) (I.ok.cab x c hfn hc)))).trans (I.base.keep b o e n hb hx)
  ·obtain⟨sl,e1⟩:=I.base.slot b o e n hb hx;exact⟨sl,(hs.2 b (Yx (B2 (Yk e) (I.ok.cab x c hfn hc)))).trans e1⟩
  ·obtain⟨o',e1⟩:=I.base.there b o e hx;exact⟨o',(hs.2 b (Yx (B2 (Yk e) (I.ok.cab x c hfn hc)))).trans e1⟩
  ·by_cases hj:j=i
   ·subst hj;rw[hi]at e1;cases e1;rw[m4 hiσ]at e2;cases e2;exact⟨u,r,.inr ⟨.inl hk,c,hc,BF⟩⟩
   ·rw[mw (Ae hj)]at e2;obtain⟨u',r',q⟩:=hl j y v' e1 e2 e3;refine⟨u',r',?_⟩
    rcases q with q | ⟨k,c',e,z'⟩
    ·exact .inl q
    ·refine .inr ⟨k,c',e,z'.sameBut hs ?_⟩;rintro rfl;exact hj (bz hN e1 (I.ok.inj _ _ _ e hc ▸ hi))
  ·by_cases hcc:c'=c
   ·subst hcc;exact⟨_,BF⟩
   ·obtain⟨w2,z2⟩:=I.cell y c' e;exact⟨w2,z2.sameBut hs hcc⟩
  ·obtain⟨e,n,ne,nf,d⟩:=I.pin p hp;refine⟨(hs.2 p.1 ?_).trans e,n,ne,nf,d⟩;intro q;rw[q,hoc]at e;have q':oc=p.2:=Ym e;exact d w' (by rw[<- q'];exact hocd)
def yZ{M:Model}{A:Around}{E:EV}{i:Nat}{x:Str}{v:V}{u:Value}{Q:Unit->Shared->Prop}(I:Inv X pins σ H s)(hN:X.N.Nodup)(hi:X.N[i]?=some x)(hx:Loc X.env.scope x)(r:Ah v u)
  (h:∀ s',Inv X pins (σ.set i (some v)) H s'->Q () s') (hf:X.fn x=true\/X.env.scope.names.lookup x=some .local:=by first | exact .inl rfl | exact .inr rfl | assumption):wpAny M A (storeName X.env x u) Q E s :=
 zq I hN hi hx r (λs' I' _=>h s' I') hf
def Inv.call'{s':Shared}{ch:List Addr}(I:Inv X pins σ H s)(ho:s'.os=s.os)(u:Un (VS X.stack) ch H H' s.heap s'.heap)(hok:Bk X.prog X.w H' s'.heap)(hg:AllBare s'.gens)
  (hch:∀ b∈ch,(b∈X.ex\/X.s₀.heap.objs.size<=b)/\b≠X.env.locals/\(∀ x c,X.env.cells.lookup x=some c->c≠b)/\∀ p∈X.pn++pins,p.1≠b):Inv X pins σ H' s':=by
 obtain⟨h',g',d',t',o'⟩:=s';have e:o'=s.os:=ho;subst e;exact I.call (g':=g') (t':=t') (d':=d') u hok hg hch
end
abbrev XK:=Value->Option Addr->Hp->Prop
abbrev St:=List (OV)
abbrev VK:=V->Hp->Prop
abbrev _root_.SW:=St->Hp->Prop
abbrev _root_.NW:=Nat->St->Hp->Prop
abbrev TE:=St->Hp->VK->Prop
abbrev TT:=St->Hp->(Bool->Hp->Prop)->Prop
abbrev TA:=St->Hp->(LV->Hp->Prop)->Prop
structure Wd where
 nx:SW
 rt:VK
 bk:SW:=λ_ _=>False
 ct:SW:=λ_ _=>False
abbrev TS:=Wd->St->Hp->Prop
def EP(X:Cx)(pins:PL)(σ:St)(Q:VK)(u:Value)(s':Shared):Prop:=∃ v H',Inv X pins σ H' s'/\Ah v u/\Q v H'
def TP(X:Cx)(pins:PL)(σ:St)(Q:Bool->Hp->Prop)(b:Bool)(s':Shared):Prop:=∃ H',Inv X pins σ H' s'/\Q b H'
def AP(X:Cx)(pins:PL)(σ:St)(Q:LV->Hp->Prop)(us:LU)(s':Shared):Prop:=∃ vs H',Inv X pins σ H' s'/\Ac vs us/\Q vs H'
def SP(X:Cx)(pins:PL)(D:Wd)(f:Flow)(s':Shared):Prop :=
 match f with
 | .next=>∃ σ' H',Inv X pins σ' H' s'/\D.nx σ' H'
 | .brk=>∃ σ' H',Inv X pins σ' H' s'/\D.bk σ' H'
 | .cont=>∃ σ' H',Inv X pins σ' H' s'/\D.ct σ' H'
 | .ret u=>∃ v σ' H',Inv X pins σ' H' s'/\Ah v u/\D.rt v H'
def PE(X:Cx)(e:Expr)(t:TE):Prop :=
 ∀(pins:PL) (s:Shared) (σ:St) (H:Hp) (Q:VK),Inv X pins σ H s->t σ H Q->wpAny (model X.prog X.w) X.A (eval e X.env) (EP X pins σ Q) X.xe s
def PT(X:Cx)(e:Expr)(t:TT):Prop :=
 ∀(pins:PL) (s:Shared) (σ:St) (H:Hp) (Q:Bool->Hp->Prop),Inv X pins σ H s->t σ H Q->wpAny (model X.prog X.w) X.A (isTrue e X.env (eval e X.env)) (TP X pins σ Q) X.xe s
def PW(X:Cx)(e:Expr)(t:TT):Prop :=
 ∀(whole:Sem Value) (pins:PL) (s:Shared) (σ:St) (H:Hp) (Q:Bool->Hp->Prop),Inv X pins σ H s->t σ H Q->wpAny (model X.prog X.w) X.A (isTrue e X.env whole) (TP X pins σ Q) X.xe s
def PW.pt{X:Cx}{e:Expr}{t:TT}(h:PW X e t):PT X e t:=h _
def PA(X:Cx)(es:List Expr)(t:TA):Prop :=
 ∀(pos:Pos) (pins:PL) (s:Shared) (σ:St) (H:Hp) (Q:LV->Hp->Prop),Inv X pins σ H s->t σ H Q->wpAny (model X.prog X.w) X.A (spliced (backTo pos (starEach es X.env))) (AP X pins σ Q) X.xe s
def PS(X:Cx)(st:Stmt)(t:TS):Prop :=
 ∀(pins:PL) (s:Shared) (σ:St) (H:Hp) (D:Wd),Inv X pins σ H s->t D σ H->wpAny (model X.prog X.w) X.A (exec st X.env) (SP X pins D) X.xe s
def CY(X:Cx)(st:List Stmt)(t:TS):Prop :=
 ∀(pins:PL) (s:Shared) (σ:St) (H:Hp) (D:Wd),Inv X pins σ H s->t D σ H->wpAny (model X.prog X.w) X.A (execs st X.env) (SP X pins D) X.xe s
def AN{α:Type}{t:Sem α}{Q Q':α->Shared->Prop}{M:Model}{A:Around}{E:EV}{s:Shared}(h:wpAny M A t Q E s)(hQ:∀ a s,Q a s->Q' a s):wpAny M A t Q' E s:=Jf h hQ λ_ _ x=>x
section
variable {X:Cx}
def rq(i:Nat):TE:=λσ H Q=>∃ v,σ[i]?=some (some v)/\Q v H
def tC(v:V):TE:=λ_ H Q=>Q v H
def Z7k{i:Nat}{x:Str}{pos:Pos}(hN:X.N[i]?=some x)(hv:nF X.env.scope x)(hd:(x == ("__debug__":Str))=false:=by decide)(hcd:(x == ("__classdict__":Str))=false:=by decide):PE X (.Name x pos) (rq i):=by
 ac_rfl;obtain⟨v,e,h⟩:=h;obtain⟨m,hn,hl⟩:=I.loc;obtain⟨u,r,l⟩:=hl i x v hN e hv;have fin:EP X pins σ Q u s:=⟨v,H,I,r,h⟩
 rcases l with⟨hk,hm⟩ | ⟨hk,c,hc,hcell⟩
 ·exact wpAny_Name (wpAny_loadName_local I.ok.kind hk hn hm fin) hd
 ·rcases hk with hk | hk
  ·exact wpAny_Name (wpAny_loadName_cell I.ok.kind hk hc hcell fin) hd
  ·exact wpAny_Name (wpAny_loadName_free I.ok.kind hk hc hcell fin hcd) hd
def AE{i j pos}:PE X (.Constant (.int i) j pos) (tC (.int i)):=λ_ _ _ H _ I h=>wpAny_Constant_int ⟨.int i,H,I.tok _,⟨Z⟩,h⟩
def Cj{b j pos}:PE X (.Constant (.bool b) j pos) (tC (.bl b)):=λ_ _ _ H _ I h=>Constant_bool ⟨.bl b,H,I,Y,h⟩
def jt{j pos}:PE X (.Constant .none j pos) (tC .non):=λ_ _ _ H _ I h=>Constant_none ⟨.non,H,I,Y,h⟩
def Ar{x j pos}:PE X (.Constant (.str x) j pos) (tC (.str x)):=λ_ _ _ H _ I h=>Calls.Constant_str ⟨.str x,H,I.tok _,⟨Z⟩,h⟩
def Gl(X:Cx)(x:Str):Prop:=X.env.kindOf x=some .globalImplicit
def qO{E:EV}{pins:PL}{s:Shared}{σ:St}{H:Hp}{x:Str}{u:Value}{pos:Pos}{Q:EV}(I:Inv X pins σ H s)(hg:Gl X x)(hm:X.mg x=some u)(h:Q u s)
  (hd:(x == ("__debug__":Str))=false:=by decide):wpAny (model X.prog X.w) X.A (eval (.Name x pos) X.env) Q E s :=
 Calls.Name_function_global I.ok.kind hg (Calls.loadGlobal_global (by rw[I.ok.glob];exact I.mod.glob.keeps I.bk) hm h) hd
def UP{E:EV}{pins:PL}{s:Shared}{σ:St}{H:Hp}{x:Str}{u:Value}{pos:Pos}{Q:EV}(I:Inv X pins σ H s)(hg:Gl X x)(hm:X.mg x=none)(hv:bootBuiltins x=some u)(h:Q u s)
  (hn:x≠"__name__":=by decide) (hd:(x == ("__debug__":Str))=false:=by decide):wpAny (model X.prog X.w) X.A (eval (.Name x pos) X.env) Q E s:=by
 obtain⟨mb,h1,h2⟩:=I.mod.blt;exact Calls.Name_function_global I.ok.kind hg (Calls.loadGlobal_builtin (by rw[I.ok.glob];exact I.mod.glob.keeps I.bk) hm (by rw[I.ok.blt];exact h1.keeps I.bk) ((h2 x hn).trans hv) h) hd
def VB{x:Str}{v:V}{u:Value}{pos:Pos}(hg:Gl X x)(hm:X.mg x=some u)(r:Ah v u)(hd:(x == ("__debug__":Str))=false:=by decide):PE X (.Name x pos) (tC v):=
 λ_ _ _ H _ I h=>qO I hg hm ⟨v,H,I,r,h⟩ hd
def ba{x:Str}{v:V}{u:Value}{pos:Pos}(hg:Gl X x)(hm:X.mg x=none)(hv:bootBuiltins x=some u)(r:Ah v u)(hn:x≠"__name__":=by decide)(hd:(x == ("__debug__":Str))=false:=by decide):PE X (.Name x pos) (tC v):=
 λ_ _ _ H _ I h=>UP I hg hm hv ⟨v,H,I,r,h⟩ hn hd
variable {a b:Expr}{ta tb:TE}{pos:Pos}
def PC(X:Cx)(op:CmpOp)(a b:Expr)(t:TE):Prop :=
 ∀(pins:PL) (s:Shared) (σ:St) (H:Hp) (Q:VK),Inv X pins σ H s->t σ H Q ->
  wpAny (model X.prog X.w) X.A (eval a X.env) (λv s₁=>wpAny (model X.prog X.w) X.A (eval b X.env) (λu s₂=>wpAny (model X.prog X.w) X.A (compareOp op v u) (EP X pins σ Q) X.xe s₂) X.xe s₁) X.xe s
def yj(b:Expr){op:CmpOp}(h:op≠.In)(h2:op≠.NotIn):behindInMarks op b=false:=by
 have e1:(op == CmpOp.In)=false:=by cases op <;> first | rfl | exact absurd rfl h
 have e2:(op == CmpOp.NotIn)=false:=by cases op <;> first | rfl | exact absurd rfl h2
 cases b <;> simp[behindInMarks,e1,e2]
def Z9n(ta:TE):TE:=λσ H Q=>ta σ H λx H1=>Q (.bl (!decide (x=.non))) H1
def Ah.none_iff{x:V}{v:Value}(r:Ah x v):(v == Value.none)=decide (x=.non):=by
 cases x with
 | non=>cases r;rfl
 | bl _=>cases r;rfl
 | int _=>obtain⟨t,rfl⟩:=r;rfl
 | str _=>obtain⟨t,rfl⟩:=r;rfl
 | byt _=>obtain⟨t,rfl⟩:=r;rfl
 | flt _=>obtain⟨t,rfl⟩:=r;rfl
 | ref _=>cases r;rfl
 | ty _=>cases r;rfl
def xD{j pos'}(ha:PE X a ta):PC X .IsNot a (.Constant .none j pos') (Z9n ta):=by
 ac_rfl;refine AN (ha pins s σ H _ I h) λv s1 ⟨x,H1,I1,r1,q1⟩=>?_;exact Constant_none (isnot_none_gen ⟨.bl _,H1,I1,by rw[r1.none_iff];rfl,q1⟩)
def tB(t:TE):TT:=λσ H Q=>t σ H λx H1=>∃ c,x=.bl c/\Q c H1
def Z3g{op:CmpOp}{t:TE}(h:PC X op a b t)(h1:behindInMarks op b=false:=by first | exact yj _ (by decide) (by decide) | rfl):PE X (.Compare a [op] [b] pos) t:=λpins s σ H Q I hw=>wpAny_Compare1 (h pins s σ H Q I hw) h1
def XQ{op:CmpOp}{t:TE}(h:PC X op a b t)(h1:behindInMarks op b=false:=by first | exact yj _ (by decide) (by decide) | rfl):PT X (.Compare a [op] [b] pos) (tB t):=by
 intro pins s σ H Q I hw;refine wpAny_isTrue_Compare1 (AN (h pins s σ H _ I hw) λv s1 h1=>AN h1 λu s2 h2=>AN h2 λc s3 ⟨x,H1,I1,r1,q1⟩=>?_) h1;obtain⟨d,rfl,q⟩:=q1;cases r1;exact Jh ⟨H1,I1,q⟩
def Bo{e:Expr}{t:TE}(h:PE X e t)(he:∀ whole,isTrue e X.env whole=(do let v <- whole;standAt e.pos;holding [v] (truthy v)):=by intro _;rfl):PT X e (tB t):=by
 intro pins s σ H Q I hw;refine isTrue_plain (AN (h pins s σ H _ I hw) λv s1 ⟨x,H1,I1,r1,q1⟩=>?_) (he _);obtain⟨d,rfl,q⟩:=q1;cases r1;exact Jh ⟨H1,I1,q⟩
variable {tA jM:TT}{Dd:List Expr}
def Ydy(t u:TT):TT:=λσ H Q=>t σ H λc H1=>if c=true then u σ H1 Q else Q false H1
def tOr(t u:TT):TT:=λσ H Q=>t σ H λc H1=>if c=true then Q true H1 else u σ H1 Q
def Yds(t:TT):TT:=λσ H Q=>t σ H λc H1=>Q (!c) H1
def j9(ha:PT X a tA):PW X (.BoolOp .And [a] pos) tA:=by
 intro wh pins s σ H Q I h;refine isTrue_and (AN (ha pins s σ H Q I h) λc s1 e=>?_);cases c with
 | true=>exact isTrue_and_nil e
 | false=>exact e
def T6(ha:PT X a tA):PW X (.BoolOp .Or [a] pos) tA:=by
 intro wh pins s σ H Q I h;refine isTrue_or (AN (ha pins s σ H Q I h) λc s1 e=>?_);cases c with
 | false=>exact isTrue_or_nil e
 | true=>exact e
def ju(ha:PT X a tA)(hb:PW X (.BoolOp .And (b :: Dd) pos) jM):PW X (.BoolOp .And (a :: b :: Dd) pos) (Ydy tA jM):=by
 intro wh pins s σ H Q I h;refine isTrue_and (AN (ha pins s σ H _ I h) λc s1 ⟨H1,I1,q1⟩=>?_);cases c with
 | true=>exact hb wh pins s1 σ H1 Q I1 q1
 | false=>exact⟨H1,I1,q1⟩
def C2(ha:PT X a tA)(hb:PW X (.BoolOp .Or (b :: Dd) pos) jM):PW X (.BoolOp .Or (a :: b :: Dd) pos) (tOr tA jM):=by
 intro wh pins s σ H Q I h;refine isTrue_or (AN (ha pins s σ H _ I h) λc s1 ⟨H1,I1,q1⟩=>?_);cases c with
 | true=>exact⟨H1,I1,q1⟩
 | false=>exact hb wh pins s1 σ H1 Q I1 q1
def CO(ha:PT X a tA):PT X (.UnaryOp .Not a pos) (Yds tA):=by
 ac_rfl;exact isTrue_not (ha pins s σ H (λc H1=>Q (!c) H1) I h)
def Z9v(ta tb:TE):TE:=λσ H Q=>ta σ H λx H1=>∃ c,x=.bl c/\if c=true then tb σ H1 Q else Q (.bl false) H1
def Ydr(ta tb:TE):TE:=λσ H Q=>ta σ H λx H1=>∃ c,x=.bl c/\if c=true then Q (.bl true) H1 else tb σ H1 Q
def Z9m(ta:TE):TE:=λσ H Q=>ta σ H λx H1=>∃ c,x=.bl c/\Q (.bl (!c)) H1
def Vd{op}{t:TE}(h:PE X a t):PE X (.BoolOp op [a] pos) t:=λpins s σ H Q I hw=>BoolOp_one (h pins s σ H Q I hw)
def Vc(ha:PE X a ta)(hb:PE X (.BoolOp .And (b :: Dd) pos) tb):PE X (.BoolOp .And (a :: b :: Dd) pos) (Z9v ta tb):=by
 ac_rfl;refine BoolOp_and (AN (ha pins s σ H _ I h) λv s1 ⟨x,H1,I1,r1,q1⟩=>?_);obtain⟨c,rfl,q1⟩:=q1;cases r1;refine Jh ?_;cases c with
 | true=>exact hb pins s1 σ H1 Q I1 q1
 | false=>exact⟨.bl false,H1,I1,Y,q1⟩
def Z7l(ha:PE X a ta)(hb:PE X (.BoolOp .Or (b :: Dd) pos) tb):PE X (.BoolOp .Or (a :: b :: Dd) pos) (Ydr ta tb):=by
 ac_rfl;refine BoolOp_or (AN (ha pins s σ H _ I h) λv s1 ⟨x,H1,I1,r1,q1⟩=>?_);obtain⟨c,rfl,q1⟩:=q1;cases r1;refine Jh ?_;cases c with
 | false=>exact hb pins s1 σ H1 Q I1 q1
 | true=>exact⟨.bl true,H1,I1,Y,q1⟩
def Z7m(ha:PE X a ta):PE X (.UnaryOp .Not a pos) (Z9m ta):=by
 ac_rfl;refine UnaryOp_ (AN (ha pins s σ H _ I h) λv s1 ⟨x,H1,I1,r1,q1⟩=>?_);obtain⟨c,rfl,q1⟩:=q1;cases r1;exact not_of (Jh ⟨.bl (!c),H1,I1,Y,q1⟩)
end
def SqL(K:Fg)(H:Hp)(a:Addr)(xs:LV):Prop :=
 Rd H a (.lst xs) \/
  ∃(o:Obj) (its:Array Value) (n:Nat),K.lookup a=some o/\o.cls=.type "list"/\o.dict=none/\o.data=.seq its n/\its.size<=sizeLine/\Ac xs its.toList
def AH(K:Fg)(H:Hp)(a:Addr)(xs:LV):Prop :=
 Rd H a (.tup xs) \/
  ∃(o:Obj) (its:Array Value) (n:Nat),K.lookup a=some o/\o.cls=.type "tuple"/\o.data=.seq its n/\its.size<=sizeLine/\Ac xs its.toList
def Yfc:Value->OV
 | .none=>some .non
 | .bool b=>some (.bl b)
 | .int i _=>some (.int i)
 | .str x _=>some (.str x)
 | .bytes b _=>some (.byt b)
 | .float b _=>some (.flt b)
 | .ref a=>some (.ref a)
 | .type n=>some (.ty n)
 | _=>none
def Ah.abs{x:V}{u:Value}(r:Ah x u):Yfc u=some x:=by
 cases x with
 | non=>cases r;rfl
 | bl _=>cases r;rfl
 | int _=>obtain⟨t,rfl⟩:=r;rfl
 | str _=>obtain⟨t,rfl⟩:=r;rfl
 | byt _=>obtain⟨t,rfl⟩:=r;rfl
 | flt _=>obtain⟨t,rfl⟩:=r;rfl
 | ref _=>cases r;rfl
 | ty _=>cases r;rfl
theorem Ah.inj{x y:V}{u:Value}(r:Ah x u)(q:Ah y u):x=y:=Ym (r.abs.symm.trans q.abs)
theorem Ac.inj:∀ {xs ys:LV}{us:LU},Ac xs us->Ac ys us->xs=ys
 | _,_,_,.nil,.nil=>rfl
 | _,_,_,.cons r t,.cons r' t'=>by rw[r.inj r',Ac.inj t t']
section
variable {X:Cx}{pins:PL}{σ:St}{H:Hp}{s:Shared}{a:Addr}{xs ys:LV}
def SqL.of{K:Fg}(h:H a=some (.lst xs)):SqL K H a xs:=.inl (.inl h)
def AH.of{K:Fg}(h:H a=some (.tup xs)):AH K H a xs:=.inl (.inl h)
def Inv.list(I:Inv X pins σ H s)(h:SqL X.K H a xs):∃ its:LU,Ac xs its/\PlainL s.heap a its.toArray/\xs.length<=sizeLine:=by
 rcases h with h | ⟨o,its,n,hk,hc,hd,hs,hz,r⟩
 ·obtain⟨z,its,n,r,e⟩:=h.ok I.hok;exact⟨its,r,⟨_,n,e,Y,Y,Y⟩,z⟩
 ·refine⟨its.toList,r,⟨o,n,I.kIn a o hk,hc,hd,by simpa using hs⟩,?_⟩;have e:=r.length;simp only[Y0]at e;omega
def Inv.tuple(I:Inv X pins σ H s)(h:AH X.K H a xs):∃ its:LU,Ac xs its/\IsTup s.heap a its.toArray/\xs.length<=sizeLine:=by
 rcases h with h | ⟨o,its,n,hk,hc,hs,hz,r⟩
 ·obtain⟨z,its,r,p⟩:=h.ok I.hok;exact⟨its,r,p,z⟩
 ·refine⟨its.toList,r,⟨o,I.kIn a o hk,hc,n,by simpa using hs⟩,?_⟩;have e:=r.length;simp only[Y0]at e;omega
def Inv.list_inj(I:Inv X pins σ H s)(h:SqL X.K H a xs)(h':SqL X.K H a ys):xs=ys:=by
 obtain⟨its,r,⟨o,n,e,_,_,d⟩,_⟩:=I.list h;obtain⟨its',r',⟨o',n',e',_,_,d'⟩,_⟩:=I.list h';rw[e]at e';cases e';rw[d]at d';injection d' with d1 _;have:its=its':=by simpa using congrArg Array.toList d1
 subst this;exact r.inj r'
def Inv.tuple_inj(I:Inv X pins σ H s)(h:AH X.K H a xs)(h':AH X.K H a ys):xs=ys:=by
 obtain⟨its,r,⟨o,e,_,n,d⟩,_⟩:=I.tuple h;obtain⟨its',r',⟨o',e',_,n',d'⟩,_⟩:=I.tuple h';rw[e]at e';cases e';rw[d]at d';injection d' with d1 _;have:its=its':=by simpa using congrArg Array.toList d1
 subst this;exact r.inj r'
end
abbrev Cx.wish(X:Cx)(E:EV):Cx:={X with xe:=E}
abbrev Cx.nox(X:Cx):Cx:=X.wish λ_ _=>False
theorem Cx.Ok.wish{X:Cx}(ok:X.Ok)(E:EV):(X.wish E).Ok :=
 ⟨ok.mod,ok.kind,ok.glob,ok.blt,ok.above,ok.inj,ok.has,ok.cab,ok.hd,ok.frames,ok.stk,ok.exf,ok.bs,ok.bsz,ok.noex,ok.exfs,ok.funs,ok.frf⟩
def Cx.Ok.unwish{X:Cx}{E:EV}(ok:(X.wish E).Ok):X.Ok :=
 ⟨ok.mod,ok.kind,ok.glob,ok.blt,ok.above,ok.inj,ok.has,ok.cab,ok.hd,ok.frames,ok.stk,ok.exf,ok.bs,ok.bsz,ok.noex,ok.exfs,ok.funs,ok.frf⟩
section
variable {X:Cx}{pins:PL}{σ:St}{H:Hp}{s:Shared}{E:EV}
theorem Inv.wish(I:Inv X pins σ H s)(E:EV):Inv (X.wish E) pins σ H s:=⟨I.ok.wish E,I.os,I.bare,I.base,I.loc,I.cell,I.free,I.freeC,I.pin,I.hok,I.len⟩
theorem Inv.unwish(I:Inv (X.wish E) pins σ H s):Inv X pins σ H s:=⟨I.ok.unwish,I.os,I.bare,I.base,I.loc,I.cell,I.free,I.freeC,I.pin,I.hok,I.len⟩
theorem SP.unwish{D:Wd}{f:Flow}{s':Shared}(h:SP (X.wish E) pins D f s'):SP X pins D f s':=by
 cases f with
 | next=>obtain⟨σ',H',I,q⟩:=h;exact⟨σ',H',I.unwish,q⟩
 | brk=>obtain⟨σ',H',I,q⟩:=h;exact⟨σ',H',I.unwish,q⟩
 | cont=>obtain⟨σ',H',I,q⟩:=h;exact⟨σ',H',I.unwish,q⟩
 | ret u=>obtain⟨v,σ',H',I,r,q⟩:=h;exact⟨v,σ',H',I.unwish,r,q⟩
theorem CY.nox{st:List Stmt}{t:TS}(h:CY X.nox st t):CY X st t:=λpins s σ H D I hw =>
 Jf (h pins s σ H D (I.wish _) hw) (λ_ _ q=>q.unwish) λ_ _ z=>False.elim z
end
section
variable {X:Cx}{st:Stmt}{Dd:List Stmt}{t u:TS}{e:Expr}{te:TE}{pos:Pos}
def Z9p:TS:=λD σ H=>D.nx σ H
def AF(t u:TS):TS:=λD σ H=>t {D with nx:=u D} σ H
def Aa:CY X [] Z9p:=λ_ _ σ H _ I h=>wpAny_execs_nil ⟨σ,H,I,h⟩
def pS(h1:PS X st t)(h2:CY X Dd u):CY X (st :: Dd) (AF t u):=by
 intro pins s σ H D I h;refine wpAny_execs_cons (AN (h1 pins s σ H {D with nx:=u D} I h) λf s1 q=>?_);cases f with
 | next =>
  obtain⟨σ',H',I',q⟩:=q;exact h2 pins s1 σ' H' D I' q
 | ret v=>exact q
 | brk=>exact q
 | cont=>exact q
def AG(h1:PS X st t):CY X [st] t:=by
 intro pins s σ H D I h;refine wpAny_execs_cons (AN (h1 pins s σ H D I h) λf s1 q=>?_);cases f with
 | next=>exact wpAny_execs_nil q
 | ret v=>exact q
 | brk=>exact q
 | cont=>exact q
def Inv.quiet{pins:PL}{σ:St}{H:Hp}{s:Shared}(I:Inv X pins σ H s):interactive X.env=false:=by simp[interactive,I.ok.kind]
def Z9r(te:TE):TS:=λD σ H=>te σ H λ_ H1=>D.nx σ H1
def Bc(he:PE X e te)(hs:swapsWith e none pos.line X.env=pure false:=by rfl):PS X (.Expr e pos) (Z9r te):=by
 intro pins s σ H D I h;exact wpAny_Expr_any (AN (he pins s σ H _ I h) λv s1 ⟨x,H1,I1,r1,q1⟩=>⟨σ,H1,I1,q1⟩) I.quiet hs
def Ydq(te:TE):TS:=λD σ H=>te σ H D.rt
def AO(he:PE X e te):PS X (.Return (some e) pos) (Ydq te):=by
 intro pins s σ H D I h;exact wpAny_Return_some (AN (he pins s σ H _ I h) λv s1 ⟨x,H1,I1,r1,q1⟩=>⟨x,σ,H1,I1,r1,q1⟩)
def By(c:TT)(t u:TS):TS:=λD σ H=>c σ H λb H1=>if b=true then t D σ H1 else u D σ H1
def AY{c:Expr}{a b:List Stmt}{tc:TT}(hc:PT X c tc)(ha:CY X a t)(hb:CY X b u):PS X (.If c a b pos) (By tc t u):=by
 intro pins s σ H D I h;refine wpAny_If (AN (hc pins s σ H _ I h) λd s1 ⟨H1,I1,q1⟩=>?_);cases d with
 | true=>exact ha pins s1 σ H1 D I1 q1
 | false=>exact hb pins s1 σ H1 D I1 q1
def Z6m:TS:=λ_ _ _=>False
def CK{sts:List Stmt}:CY X sts Z6m:=λ_ _ _ _ _ _ h=>h.elim
end
abbrev TG:=V->St->Hp->(St->Hp->Prop)->Prop
abbrev aH:=LV->St->Hp->(St->Hp->Prop)->Prop
def PG(X:Cx)(target:Expr)(t:TG):Prop :=
 ∀(pins:PL) (s:Shared) (σ:St) (H:Hp) (v:V) (u:Value) (Q:SW),Inv X pins σ H s->Ah v u->t v σ H Q ->
  wpAny (model X.prog X.w) X.A (assign target X.env u) (λ_ s'=>∃ σ' H',Inv X pins σ' H' s'/\Q σ' H') X.xe s
def nK(X:Cx)(ts:List Expr)(t:aH):Prop :=
 ∀(pins:PL) (s:Shared) (σ:St) (H:Hp) (vs:LV) (us:LU) (Q:SW),Inv X pins σ H s->Ac vs us->t vs σ H Q ->
  wpAny (model X.prog X.w) X.A (assignInOrder ((assignEach ts X.env).map (·.2)) us) (λ_ s'=>∃ σ' H',Inv X pins σ' H' s'/\Q σ' H') X.xe s
abbrev se:=V->V->V->Hp->(Hp->Prop)->Prop
def Ydl(X:Cx)(t:se):Prop :=
 ∀(pins:PL) (s:Shared) (σ:St) (H:Hp) (o i v:V) (ov iv u:Value) (Q:Hp->Prop),Inv X pins σ H s->Ah o ov->Ah i iv->Ah v u->t o i v H Q ->
  wpAny (model X.prog X.w) X.A (setItem ov iv u) (λ_ s'=>∃ H',Inv X pins σ H' s'/\Q H') X.xe s
section
variable {X:Cx}{pos:Pos}
def Ck(i:Nat):TG:=λv σ H Q=>Q (σ.set i (some v)) H
def BN{i:Nat}{x:Str}(hN:X.N.Nodup)(hi:X.N[i]?=some x)(hx:Loc X.env.scope x)(hf:X.fn x=true\/X.env.scope.names.lookup x=some .local:=by first | exact .inl rfl | exact .inr rfl | assumption):PG X (.Name x pos) (Ck i):=by
 intro pins s σ H v u Q I r h;exact wpAny_assign_Name (yZ I hN hi hx r (λs' I'=>⟨_,H,I',h⟩) hf)
def gE(i:Nat){x:Str}(hN:X.N.Nodup)(hi:X.N[i]?=some x:=by rfl)(hx:Loc X.env.scope x:=by exact Or.inl rfl)(hf:X.fn x=true\/X.env.scope.names.lookup x=some .local:=by first | exact .inl rfl | exact .inr rfl | assumption):PG X (.Name x pos) (Ck i):=BN hN hi hx hf
def Ydh:aH:=λvs σ H Q=>vs=[]/\Q σ H
def sD(t:TG)(u:aH):aH:=λvs σ H Q=>∃ v r,vs=v :: r/\t v σ H λσ' H'=>u r σ' H' Q
def LL:nK X [] Ydh:=by
 intro pins s σ H vs us Q I r h;obtain⟨e,h⟩:=h;subst e;cases r;exact assignInOrder_nil ⟨σ,H,I,h⟩
def gC{e:Expr}{es:List Expr}{t:TG}{u:aH}(h1:PG X e t)(h2:nK X es u)
  (hs:(assignEach (e :: es) X.env).map (·.2)=assign e X.env :: (assignEach es X.env).map (·.2):=by rfl):nK X (e :: es) (sD t u):=by
 intro pins s σ H vs us Q I r h;obtain⟨v,vr,e1,h⟩:=h;subst e1;cases r with
 | cons r rr =>
  rw[hs];refine assignInOrder_cons (AN (h1 pins s σ H _ _ _ I r h) λ_ s1 ⟨σ1,H1,I1,q1⟩=>?_);exact h2 pins s1 σ1 H1 _ _ Q I1 rr q1
def Ydg(K:Fg)(n:Nat)(t:aH):TG:=λv σ H Q=>∃ a xs,v=.ref a/\AH K H a xs/\xs.length=n/\t xs σ H Q
def LJ{es:List Expr}{k:Nat}{t:aH}{n:Nat}(hc:X.calm=true)(h:nK X es t)
  (hn:(assignEach es X.env).length=n:=by rfl) (hst:(assignEach es X.env).findIdx? (·.1)=none:=by rfl):PG X (.Tuple es k pos) (Ydg X.K n t):=by
 intro pins s σ H v u Q I r hw;obtain⟨a,xs,e1,hq,hl,hw⟩:=hw;subst e1;cases r;obtain⟨its,rv,ht,hz⟩:=I.tuple hq;refine assign_Tuple_tuple (I.ok.hd hc) ht (by simp[hn,<- hl,rv.length]) hst λh' hx=>?_;have I1:Inv X pins σ H {s with heap:=h' }:=I.kept (t':=s.toks) λb o e=>hx b o (Yx (Yk e)) e;exact h pins _ σ H xs _ Q I1 (by simpa using rv) hw
def Ye6(to ti:TE)(t:se):TG:=λv σ H Q=>to σ H λo H1=>ti σ H1 λi H2=>t o i v H2 λH3=>Q σ H3
def Z3f{o i:Expr}{to ti:TE}{t:se}(ho:PE X o to)(hi:PE X i ti)(hs:Ydl X t)
  (ha:∀ v,assign (.Subscript o i pos) X.env v=(do
   let ov <- holding [v] (eval o X.env);let iv <- holding [v,ov] (eval i X.env)
   standAt pos
   holding [v,ov,iv] (setItem ov iv v)
   release [v,ov,iv] []):=by intro _;rfl):PG X (.Subscript o i pos) (Ye6 to ti t):=by
 intro pins s σ H v u Q I r h;rw[ha];refine Ja (Jj (AN (ho pins s σ H _ I h) λov s1 ⟨x,H1,I1,r1,q1⟩=>?_));refine Ja (Jj (AN (hi pins s1 σ H1 _ I1 q1) λiv s2 ⟨y,H2,I2,r2,q2⟩=>?_));refine Ja (wpAny_standAt (Ja (Jj (AN (hs pins s2 σ H2 x y v ov iv u _ I2 r1 r2 r q2) λ_ s3 ⟨H3,I3,q3⟩=>?_))));exact wpAny_release ⟨σ,H3,I3,q3⟩
def Xb(te:TE)(g:TG):TS:=λD σ H=>te σ H λx H1=>g x σ H1 D.nx
def qC{tg e:Expr}{te:TE}{g:TG}(he:PE X e te)(hg:PG X tg g)(hs:swapsWithSole [tg] e pos.line X.env=pure false:=by rfl)(hw:swappedStores [tg] e X.env=pure none:=by rfl)
  (h1:(assignEach [tg] X.env).map (·.2)=[assign tg X.env]:=by rfl):PS X (.Assign [tg] e pos) (Xb te g):=by
 intro pins s σ H D I h;refine wpAny_Assign_stores (AN (he pins s σ H _ I h) λv s1 ⟨x,H1,I1,r1,q1⟩=>?_) hs hw;rw[h1];exact AN (hg pins s1 σ H1 x v _ I1 r1 q1) λ_ s2 q=>q
def Sl{i:Nat}{x:Str}{e:Expr}{te:TE}{pos':Pos}(hN:X.N.Nodup)(hi:X.N[i]?=some x)(hx:Loc X.env.scope x)(he:PE X e te)(hs:swapsWith e (some (.Name x pos')) pos.line X.env=pure false:=by rfl)(hf:X.fn x=true\/X.env.scope.names.lookup x=some .local:=by first | exact .inl rfl | exact .inr rfl | assumption):
  PS X (.Assign [.Name x pos'] e pos) (Xb te (Ck i)):=by
 intro pins s σ H D I h;refine wpAny_Assign_Name (AN (he pins s σ H _ I h) λv s1 ⟨y,H1,I1,r1,q1⟩=>?_) hs;exact yZ I1 hN hi hx r1 (λs2 I2=>⟨_,H1,I2,q1⟩) hf
def sE(i:Nat){x:Str}{e:Expr}{te:TE}{pos':Pos}(hN:X.N.Nodup)(he:PE X e te)(hi:X.N[i]?=some x:=by rfl)(hx:Loc X.env.scope x:=by exact Or.inl rfl)(hs:swapsWith e (some (.Name x pos')) pos.line X.env=pure false:=by rfl)(hf:X.fn x=true\/X.env.scope.names.lookup x=some .local:=by first | exact .inl rfl | exact .inr rfl | assumption):PS X (.Assign [.Name x pos'] e pos) (Xb te (Ck i)):=Sl hN hi hx he hs hf
end
section
variable {X:Cx}{pos:Pos}
def jy(c:TT)(tb:TS):TS:=λD σ H=>∃ W:NW,(∃ m,W m σ H)/\∀ m σ H,W m σ H ->
 c σ H λb H1=>if b=true then ∃ N:SW,(∀ σ' H',N σ' H'->∃ m',m'<m/\W m' σ' H')/\tb {D with nx:=N,ct:=N,bk:=D.nx} σ H1 else D.nx σ H1
def gJ{c:Expr}{body:List Stmt}{tc:TT}{tb:TS}(hp:PassesOwn (model X.prog X.w) X.A X.env X.xe)(hc:PT X c tc)(hb:CY X body tb):PS X (.While c body [] pos) (jy tc tb):=by
 intro pins s σ H D I h;obtain⟨W,⟨m0,w0⟩,turn⟩:=h;refine wpAny_While (codeAny_whileLoop (λn s'=>∃ σ' H',Inv X pins σ' H' s'/\W n σ' H') ?_ m0 ⟨σ,H,I,w0⟩);rintro n s1 ⟨σ1,H1,I1,w1⟩;refine wpAny_passesOwn hp (AN (hc pins s1 σ1 H1 _ I1 (turn n σ1 H1 w1)) λb s2 ⟨H2,I2,q2⟩=>?_);cases b with
 | true =>
  obtain⟨N,hN,q2⟩:=q2;rw[if_pos rfl];refine wpAny_passesOwn hp (AN (hb pins s2 σ1 H2 _ I2 q2) λf s3 q3=>?_);cases f with
  | next =>
   obtain⟨σ3,H3,I3,n3⟩:=q3;obtain⟨m',hm,w3⟩:=hN σ3 H3 n3;exact⟨m',hm,σ3,H3,I3,w3⟩
  | cont =>
   obtain⟨σ3,H3,I3,n3⟩:=q3;obtain⟨m',hm,w3⟩:=hN σ3 H3 n3;exact⟨m',hm,σ3,H3,I3,w3⟩
  | brk=>exact q3
  | ret v=>exact q3
 | false =>
  rw[if_neg Yq];exact wpAny_execs_nil ⟨σ1,H2,I2,q2⟩
end
structure It where
 go:Nat->Hp->Prop
 yld:Nat->Hp->V->Hp->Prop
 stop:Nat->Hp->Prop
def UM(X:Cx)(pins:PL)(H:Hp)(b:Addr):Prop :=
 H b=none/\b≠X.env.locals/\b∉X.fs/\(b∈X.ex\/X.s₀.heap.objs.size<=b)/\(∀ x c,X.env.cells.lookup x=some c->c≠b)/\∀ p∈X.pn++pins,p.1≠b
def Inv.fpOk{X:Cx}{pins:PL}{σ:St}{H H':Hp}{s:Shared}{b:Addr}(I:Inv X pins σ H s)(hb:s.heap.objs.size<=b)(hn:H' b=none):UM X pins H' b:=by
 refine⟨hn,Br (B2 I.lt hb),I.nofs hb,.inr (B0 I.sz hb),λx c e z=>?_,λp hp z=>?_⟩
 ·obtain⟨v,q⟩:=I.cell x c e;exact absurd (B2 q.lt (by rw[z];exact hb)) (W7 _)
 ·exact absurd (B2 (Yk (I.pin p hp).1) (by rw[z];exact hb)) (W7 _)
structure Tw(P:Program)(w:World)(K:Fg)(tg:Expr)(J:It)(fp:List Addr)(it:Addr)(tn:Nat->Heap->Prop):Prop where
 mem:it∈fp
 obj:∀ i h,tn i h->∀ b∈fp,∃ o,h.get? b=some o/\∀ v,o.data≠.cell v
 keep:∀ i h h',tn i h->(∀ b∈fp,∀ o,h.get? b=some o->h'.get? b=some o)->tn i h'
 item:∀(X:Cx),X.prog=P->X.w=w->X.K=K->X.calm=true->∀(i:Nat) (pins:PL) (s:Shared) (σ:St) (H:Hp) (E:EV),Inv X pins σ H s->(∀ b∈fp,UM X pins H b)->tn i s.heap->J.go i H ->
  wpAny (model P w) X.A (pyNext (.ref it)) (λr s1=>∃ u,r=some u /\
   wpAny (model P w) X.A (letOwnedTupleGo tg (.ref it) u) (λ_ s2=>∃ x H',Inv X pins σ H' s2/\Ah x u/\J.yld i H x H'/\tn (i + 1) s2.heap/\∀ b∈fp,H' b=none) E s1) E s
 done:∀(X:Cx),X.prog=P->X.w=w->X.K=K->X.calm=true->∀(i:Nat) (pins:PL) (s:Shared) (σ:St) (H:Hp) (E:EV),Inv X pins σ H s->(∀ b∈fp,UM X pins H b)->tn i s.heap->J.stop i H ->
  wpAny (model P w) X.A (pyNext (.ref it)) (λr s1=>r=none/\Inv X pins σ H s1) E s
 self:∀(A:Around) (i:Nat) (s:Shared) (Q:EV) (E:EV),tn i s.heap->Q (.ref it) s->wpAny (model P w) A (pyIter (.ref it)) Q E s
abbrev TI:=St->Hp->(It->Hp->Prop)->Prop
def tF(X:Cx)(pins:PL)(σ:St)(tg:Expr)(R:It->Hp->Prop)(itv:Value)(s2:Shared):Prop :=
 ∃(it:Addr) (fp:List Addr) (tn:Nat->Heap->Prop) (J:It) (H':Hp),itv=.ref it/\Inv X pins σ H' s2/\Tw X.prog X.w X.K tg J fp it tn/\tn 0 s2.heap/\(∀ b∈fp,UM X pins H' b)/\R J H'
def PI(X:Cx)(tg iter:Expr)(wi:TI):Prop :=
 ∀(pins:PL) (s:Shared) (σ:St) (H:Hp) (R:It->Hp->Prop),Inv X pins σ H s->wi σ H R ->
  wpAny (model X.prog X.w) X.A (eval iter X.env) (λv s1=>wpAny (model X.prog X.w) X.A (pyIter v) (tF X pins σ tg R) X.xe s1) X.xe s
def bQ{M:Model}{A:Around}{E:EV}{s:Shared}{tg:Expr}{it:Addr}{u:Value}{o:Obj}{n:String}{vs:Array Value}{Q:Unit->Shared->Prop}(ho:s.heap.get? it=some o)(hc:o.cls=.type n)(hd:o.data=.fields vs)
  (hn:["enumerate","zip","dict_itemiterator","dict_reverseitemiterator","odict_iterator","itertools.zip_longest","itertools.pairwise"].contains n=false) (hQ:Q () s):wpAny M A (letOwnedTupleGo tg (.ref it) u) Q E s:=by
 unfold letOwnedTupleGo;cases tg <;> first
  | exact Jd hQ
  | (cases u <;> first
    | exact Jd hQ
    | (refine Ja (wpAny_load ho ?_)
       rw[hc,hd];show wpAny M A (if(["enumerate","zip","dict_itemiterator","dict_reverseitemiterator","odict_iterator","itertools.zip_longest","itertools.pairwise"].contains n&&vs[0]? == some (rawInt _))=true then _ else _) Q E s;rw[if_neg (by intro h;rw[hn,V5]at h;cases h)];exact Jd hQ))
def cx(K:Fg)(a:Addr):It :=
 ⟨λi H=>∃ xs x,SqL K H a xs/\xs[i]?=some x,λi H x H'=>H'=H/\∀ xs,SqL K H a xs->xs[i]?=some x,λi H=>∃ xs,SqL K H a xs/\xs.length<=i⟩
def nL(K:Fg)(a:Addr):It :=
 ⟨λi H=>∃ xs x,AH K H a xs/\xs[i]?=some x,λi H x H'=>H'=H/\∀ xs,AH K H a xs->xs[i]?=some x,λi H=>∃ xs,AH K H a xs/\xs.length<=i⟩
def iE(lo:Int)(n:Nat):It:=⟨λi _=>i<n,λi H x H'=>H'=H/\x=.int (lo + i),λi _=>n<=i⟩
def zZ{P:Program}{w:World}{K:Fg}{tg:Expr}(a it:Addr):Tw P w K tg (cx K a) [it] it (λi h=>h.IsListIter it a i) where
 mem:=by simp
 obj:=λi h st b hb=>by
  have e:b=it:=by simpa using hb
  subst e;obtain⟨o,e,c,d⟩:=st;exact⟨o,e,λv z=>by rw[d]at z;cases z⟩
 keep:=λi h h' st k=>st.at λo e=>k it (by simp) o e
 item:=by
  intro X hP hw hK hc i pins s σ H E I hf st hg;subst hP hw hK;obtain⟨xs,x,hq,hx⟩:=hg;obtain⟨its,rv,p,hz⟩:=I.list hq;obtain⟨u,hu,ru⟩:=rv.get hx;obtain⟨f0,f1,f2,f3,f4,f5⟩:=hf it (by simp);refine wpAny_pyNext_list_item st p.isList (x:=u) (by simpa using hu) λh' BC sb=>?_;have I1:Inv X pins σ H {s with heap:=h' }:=I.turned (t':=s.toks) (λb o hb e=>(sb.2 b hb).trans e) f0 f1 f3 f4 f5;obtain⟨o,e,c,d⟩:=id BC;exact⟨u,Y,bQ (s:={s with heap:=h' }) e c d (by decide) ⟨x,H,I1,ru,⟨Y,λys hy=>by rw[I.list_inj hy hq];exact hx⟩,BC,λb hb=>(hf b hb).1⟩⟩
 done:=by
  intro X hP hw hK hc i pins s σ H E I hf st hg;subst hP hw hK;obtain⟨xs,hq,hx⟩:=hg;obtain⟨its,rv,p,hz⟩:=I.list hq;obtain⟨f0,f1,f2,f3,f4,f5⟩:=hf it (by simp);have hl:=rv.length;exact wpAny_pyNext_list_end (I.ok.hd hc) st p.isList (by simp;omega) λh' eb=>⟨Y,I.turned (t':=s.toks) (λb o hb e=>eb b o hb e) f0 f1 f3 f4 f5⟩
 self:=λ_ _ _ _ _ st h=>wpAny_pyIter_listiter st h
def Zmi{P:Program}{w:World}{K:Fg}{tg:Expr}(a it:Addr):Tw P w K tg (nL K a) [it] it (λi h=>h.IsTupleIter it a i) where
 mem:=by simp
 obj:=λi h st b hb=>by
  have e:b=it:=by simpa using hb
  subst e;obtain⟨o,e,c,d⟩:=st;exact⟨o,e,λv z=>by rw[d]at z;cases z⟩
 keep:=λi h h' st k=>st.at λo e=>k it (by simp) o e
 item:=by
  intro X hP hw hK hc i pins s σ H E I hf st hg;subst hP hw hK;obtain⟨xs,x,hq,hx⟩:=hg;obtain⟨its,rv,p,hz⟩:=I.tuple hq;obtain⟨u,hu,ru⟩:=rv.get hx;obtain⟨f0,f1,f2,f3,f4,f5⟩:=hf it (by simp);refine wpAny_pyNext_tuple_item st (show s.heap.IsTuple a its.toArray from p) (x:=u) (by simpa using hu) λh' BC sb=>?_;have I1:Inv X pins σ H {s with heap:=h' }:=I.turned (t':=s.toks) (λb o hb e=>(sb.2 b hb).trans e) f0 f1 f3 f4 f5;obtain⟨o,e,c,d⟩:=id BC;exact⟨u,Y,bQ (s:={s with heap:=h' }) e c d (by decide) ⟨x,H,I1,ru,⟨Y,λys hy=>by rw[I.tuple_inj hy hq];exact hx⟩,BC,λb hb=>(hf b hb).1⟩⟩
 done:=by
  intro X hP hw hK hc i pins s σ H E I hf st hg;subst hP hw hK;obtain⟨xs,hq,hx⟩:=hg;obtain⟨its,rv,p,hz⟩:=I.tuple hq;obtain⟨f0,f1,f2,f3,f4,f5⟩:=hf it (by simp);have hl:=rv.length;exact wpAny_pyNext_tuple_end (I.ok.hd hc) st (show s.heap.IsTuple a its.toArray from p) (by simp;omega) λh' eb=>⟨Y,I.turned (t':=s.toks) (λb o hb e=>eb b o hb e) f0 f1 f3 f4 f5⟩
 self:=λ_ _ _ _ _ st h=>wpAny_pyIter_tupleiter st h
def Zt1{P:Program}{w:World}{K:Fg}{tg:Expr}(it:Addr)(lo:Int)(n:Nat):Tw P w K tg (iE lo n) [it] it (λi h=>IsRangeIter h it (lo + (i:Nat) * 1) ((n:Int) - (i:Nat)) 1) where
 mem:=by simp
 obj:=λi h st b hb=>by
  have e:b=it:=by simpa using hb
  subst e;exact⟨_,st,λv z=>by
   have z':Data.fields _=Data.cell v:=z;cases z'⟩
 keep:=λi h h' st k=>k it (by simp) _ st
 item:=by
  intro X hP hw hK hc i pins s σ H E I hf st hg;subst hP hw hK;obtain⟨f0,f1,f2,f3,f4,f5⟩:=hf it (by simp);have W:=Walks.range (prog:=X.prog) (w:=X.w) (I.ok.hd hc) it lo 1 n;refine W.item i s _ _ hg st λv h' tk hv BC kk=>?_;obtain⟨t,rfl⟩:=hv;have I1:Inv X pins σ H {s with heap:=h',toks:=tk}:=I.turned (λb o hb e=>kk b o (by simpa using hb) e) f0 f1 f3 f4 f5;refine⟨Z,bQ (s:={s with heap:=h',toks:=tk}) (n:="range_iterator") BC rfl rfl (by decide) ⟨.int (lo + i),H,I1,⟨t,?_⟩,⟨Y,Y⟩,BC,λb hb=>(hf b hb).1⟩⟩;rw[Int.mul_one]
 done:=by
  intro X hP hw hK hc i pins s σ H E I hf st hg;subst hP hw hK;obtain⟨f0,f1,f2,f3,f4,f5⟩:=hf it (by simp);exact wpAny_pyNext_range_end (I.ok.hd hc) st (by have:n<=i:=hg;omega) λh' eb=>⟨Y,I.turned (t':=s.toks) (λb o hb e=>eb b o hb e) f0 f1 f3 f4 f5⟩
 self:=λ_ _ _ _ _ st h=>wpAny_pyIter_rangeiter st h
section
variable {X:Cx}{tg:Expr}
def Ya9(K:Fg)(tl:TE):TI:=λσ H R=>tl σ H λx H1=>∃ a,x=.ref a/\(∃ xs,SqL K H1 a xs)/\R (cx K a) H1
def Ye2(K:Fg)(tl:TE):TI:=λσ H R=>tl σ H λx H1=>∃ a,x=.ref a/\(∃ xs,AH K H1 a xs)/\R (nL K a) H1
def CD{l:Expr}{tl:TE}(hl:PE X l tl):PI X tg l (Ya9 X.K tl):=by
 intro pins s σ H R I h;refine AN (hl pins s σ H _ I h) λv s1 ⟨x,H1,I1,r1,q1⟩=>?_;obtain⟨a,e,⟨xs,hq⟩,q⟩:=q1;subst e;cases r1;obtain⟨its,rv,p,hz⟩:=I1.list hq;refine wpAny_pyIter_list p.isList ?_;refine⟨s1.heap.objs.size,[s1.heap.objs.size],_,_,H1,Y,I1.kept (t':=s1.toks) λb o e=>Ye _ e,zZ a _,⟨_,Yp _ rfl,Y,Y⟩,λb hb=>?_,q⟩;have e:b=s1.heap.objs.size:=by simpa using hb
 subst e;exact I1.fpOk (Yf _) (I1.hok.fresh (Yf _))
def UQ{l:Expr}{tl:TE}(hl:PE X l tl):PI X tg l (Ye2 X.K tl):=by
 intro pins s σ H R I h;refine AN (hl pins s σ H _ I h) λv s1 ⟨x,H1,I1,r1,q1⟩=>?_;obtain⟨a,e,⟨xs,hq⟩,q⟩:=q1;subst e;cases r1;obtain⟨its,rv,p,hz⟩:=I1.tuple hq;refine wpAny_pyIter_tuple (show s1.heap.IsTuple a its.toArray from p) ?_;refine⟨s1.heap.objs.size,[s1.heap.objs.size],_,_,H1,Y,I1.kept (t':=s1.toks) λb o e=>Ye _ e,Zmi a _,⟨_,Yp _ rfl,Y,Y⟩,λb hb=>?_,q⟩;have e:b=s1.heap.objs.size:=by simpa using hb
 subst e;exact I1.fpOk (Yf _) (I1.hok.fresh (Yf _))
def yQ{pins:PL}{σ:St}{H:Hp}{s:Shared}{R:It->Hp->Prop}{E:EV}{lo hi:Int}{t u v:Tok}{tk:Nat}(I:Inv X pins σ H s)(h1:-(2 ^ 62)<=lo)(h2:lo<2 ^ 62)(h3:-(2 ^ 62)<=hi)(h4:hi<2 ^ 62)
  (q:R (iE lo (hi - lo).toNat) H):wpAny (model X.prog X.w) X.A (pyIter (.ref s.heap.objs.size)) (tF X pins σ tg R) E {s with heap:=s.heap.push {cls:=.type "range",data:=.fields #[.int lo t,.int hi u,.int 1 v] },toks:=tk}:=by
 refine wpAny_pyIter_range (IsRange.new ..) (small_one h1 h2 h3 h4) ?_;have I1:Inv X pins σ H {s with heap:=s.heap.push {cls:=.type "range",data:=.fields #[.int lo t,.int hi u,.int 1 v] },toks:=tk}:=I.kept λb o e=>Ye _ e;refine⟨(s.heap.push {cls:=.type "range",data:=.fields #[.int lo t,.int hi u,.int 1 v] }).objs.size,[(s.heap.push {cls:=.type "range",data:=.fields #[.int lo t,.int hi u,.int 1 v] }).objs.size],_,_,H,Y,
  I1.kept (t':=tk) λb o e=>Ye _ e,Zt1 _ lo (hi - lo).toNat,?_,λb hb=>?_,q⟩
 ·have e1:lo + ((0:Nat):Int) * 1=lo:=by simp
  have e2:(((hi - lo).toNat:Nat):Int) - ((0:Nat):Int)=Builtin.Range.rangeSize lo hi 1:=by rw[rangeSize_one];split <;> omega
  show IsRangeIter _ _ (lo + ((0:Nat):Int) * 1) ((((hi - lo).toNat:Nat):Int) - ((0:Nat):Int)) 1;rw[e1,e2];exact Yp _ rfl
 ·have e:b=(s.heap.push {cls:=.type "range",data:=.fields #[.int lo t,.int hi u,.int 1 v] }).objs.size:=by simpa using hb
  subst e;exact I1.fpOk (Yf _) (I1.hok.fresh (Yf _))
def Ya8(ta:TA):TI:=λσ H R=>ta σ H λvs H1=>∃ j:Int,vs=[.int j]/\-(2 ^ 62)<=j/\j<2 ^ 62/\R (iE 0 j.toNat) H1
def Ya7(ta:TA):TI:=λσ H R=>ta σ H λvs H1=>∃ i j:Int,vs=[.int i,.int j]/\(-(2 ^ 62)<=i/\i<2 ^ 62/\-(2 ^ 62)<=j/\j<2 ^ 62)/\R (iE i (j - i).toNat) H1
def Vf{a:Expr}{ta:TA}{p pos:Pos}(hg:Gl X "range")(hm:X.mg "range"=none)(ha:PA X [a] ta)(hs:starEach [a] X.env=[(false,eval a X.env)]:=by rfl):PI X tg (.Call (.Name "range" p) [a] [] pos) (Ya8 ta):=by
 intro pins s σ H R I h;refine Call_ (UP I hg hm boot_range (Vi (AN (ha pos pins s σ H _ I h) λus s1 ⟨vs,H1,I1,r1,q1⟩=>?_) hs rfl));obtain⟨j,e,q1,q2,q⟩:=q1;subst e;cases r1 with
 | cons r rr =>
  cases rr;obtain⟨t,rfl⟩:=r;exact call_range_1 (yQ I1 (by omega) (by omega) q1 q2 (by simpa using q))
def Zxg{a b:Expr}{ta:TA}{p pos:Pos}(hg:Gl X "range")(hm:X.mg "range"=none)(ha:PA X [a,b] ta)(hs:starEach [a,b] X.env=[(false,eval a X.env),(false,eval b X.env)]:=by rfl)(Ca:starEach [b] X.env=[(false,eval b X.env)]:=by rfl):
  PI X tg (.Call (.Name "range" p) [a,b] [] pos) (Ya7 ta):=by
 intro pins s σ H R I h;refine Call_ (UP I hg hm boot_range (Vi (AN (ha pos pins s σ H _ I h) λus s1 ⟨vs,H1,I1,r1,q1⟩=>?_) (by rw[hs,Ca]) (by rw[Ca];rfl)));obtain⟨i,j,e,⟨q1,q2,q3,q4⟩,q⟩:=q1;subst e;cases r1 with
 | cons r rr =>
  cases rr with
  | cons r' rr =>
   cases rr;obtain⟨t,rfl⟩:=r;obtain⟨t',rfl⟩:=r';exact call_range_2 (yQ I1 q1 q2 q3 q4 q)
def BS(wi:TI)(g:TG)(tb:TS):TS:=λD σ H=>wi σ H λJ H1=>∃ W:Nat->Nat->St->Hp->Prop,(∃ m,W 0 m σ H1)/\∀ i m σ H,W i m σ H ->
 (J.stop i H/\D.nx σ H)\/(J.go i H/\∃ N:SW,(∀ σ' H',N σ' H'->∃ m',m'<m/\W (i + 1) m' σ' H')/\∀ x H',J.yld i H x H'->g x σ H' λσ2 H2=>tb {D with nx:=N,ct:=N,bk:=D.nx} σ2 H2)
def fQ(fp:List Addr)(h:Heap):PL:=fp.filterMap λb=>(h.get? b).map λo=>(b,o)
def lE{fp:List Addr}{h:Heap}{b:Addr}{o:Obj}(hb:b∈fp)(e:h.get? b=some o):(b,o)∈fQ fp h:=List.mem_filterMap.mpr ⟨b,hb,by rw[e];rfl⟩
def Zx4{fp:List Addr}{h:Heap}{p:Addr×Obj}(hp:p∈fQ fp h):p.1∈fp/\h.get? p.1=some p.2:=by
 obtain⟨b,hb,e⟩:=List.mem_filterMap.mp hp;cases q:h.get? b with
 | none=>rw[q]at e;cases e
 | some o =>
  rw[q]at e;have e':(b,o)=p:=Ym e;subst e';exact⟨hb,q⟩
def Inv.pinned{pins:PL}{σ:St}{H:Hp}{s:Shared}{fp:List Addr}(I:Inv X pins σ H s)(hf:∀ b∈fp,UM X pins H b)(ho:∀ b∈fp,∃ o,s.heap.get? b=some o/\∀ v,o.data≠.cell v):Inv X (pins++fQ fp s.heap) σ H s :=
 I.pins_of λp hp=>(Yo.mp hp).elim (λz=>I.pin p (Ut _ z)) λz=>by
  obtain⟨hb,e⟩:=Zx4 z;obtain⟨f0,f1,f2,_⟩:=hf p.1 hb;obtain⟨o,e',d⟩:=ho p.1 hb;rw[e]at e';cases e';exact⟨e,f0,f1,f2,d⟩
def Inv.unpinned{pins pl:PL}{σ:St}{H:Hp}{s:Shared}(I:Inv X (pins++pl) σ H s):Inv X pins σ H s:=I.pins_of λp hp=>I.pin p (Ut _ (Xh _ hp))
def BM{iter:Expr}{body:List Stmt}{wi:TI}{g:TG}{tb:TS}{pos:Pos}(hp:PassesOwn (model X.prog X.w) X.A X.env X.xe)(hc:X.calm=true)(hi:PI X tg iter wi)(hg:PG X tg g)(hb:CY X body tb)
  (hs:∀ x,foldedSetIterable iter X.env x=pure x:=by intro _;rfl):PS X (.For tg iter body [] pos) (BS wi g tb):=by
 intro pins s σ H D I h;refine wpAny_For (AN (hi pins s σ H _ I h) λv s1 h1=>AN h1 λitv s2 h2=>?_) hs;obtain⟨it,fp,tn,J,H2,e,I2,T,W_,f2,W,⟨m0,w0⟩,turn⟩:=h2;subst e;have stat:∀ {H':Hp},(∀ b∈fp,H' b=none)->∀ b∈fp,UM X pins H' b:=λhn b hb=>⟨hn b hb,(f2 b hb).2⟩;refine codeAny_forLoop_any (λn s'=>∃ i σ' H',Inv X pins σ' H' s'/\tn i s'.heap/\(∀ b∈fp,H' b=none)/\W i n σ' H') ?_ m0 ⟨0,σ,H2,I2,W_,λb hb=>(f2 b hb).1,w0⟩;rintro n s3 ⟨i,σ3,H3,I3,c_,eT,w3⟩
 rcases turn i n σ3 H3 w3 with⟨stop,qn⟩ | ⟨go,N,hN,step⟩
 ·refine wpAny_passesOwn hp (AN (T.done X rfl rfl rfl hc i pins s3 σ3 H3 X.xe I3 (stat eT) c_ stop) λr s4 ⟨hr,I4⟩=>?_);subst hr;exact wpAny_execs_nil ⟨σ3,H3,I4,qn⟩
 ·refine wpAny_passesOwn hp (AN (T.item X rfl rfl rfl hc i pins s3 σ3 H3 X.xe I3 (stat eT) c_ go) λr s4 ⟨u,hr,h4⟩=>?_);subst hr;refine wpAny_passesOwn hp (AN h4 λ_ s5 ⟨x,H5,I5,r5,y5,ZL,pO⟩=>?_);have tJ:=I5.pinned (stat pO) (T.obj _ _ ZL);refine wpAny_passesOwn hp (AN (hg _ s5 σ3 H5 x u _ tJ r5 (step x H5 y5)) λ_ s6 ⟨σ6,H6,I6,q6⟩=>?_);refine wpAny_passesOwn hp (AN (hb _ s6 σ6 H6 _ I6 q6) λf s7 q7=>?_);have again:∀ {σ7:St} {H7:Hp},Inv X (pins++fQ fp s5.heap) σ7 H7 s7->N σ7 H7->∃ m,m<n/\∃ i σ' H',Inv X pins σ' H' s7/\tn i s7.heap/\(∀ b∈fp,H' b=none)/\W i m σ' H':=λ{σ7 H7} I7 n7=>by
   obtain⟨m',hm,w7⟩:=hN σ7 H7 n7;refine⟨m',hm,i + 1,σ7,H7,I7.unpinned,T.keep _ _ _ ZL λb hb o e=>(I7.pin (b,o) (Ut _ (Ut _ (lE hb e)))).1,λb hb=>?_,w7⟩;obtain⟨o,e,d⟩:=T.obj _ _ ZL b hb;exact(I7.pin (b,o) (Ut _ (Ut _ (lE hb e)))).2.1
  cases f with
  | next=>obtain⟨σ7,H7,I7,n7⟩:=q7;exact again I7 n7
  | cont=>obtain⟨σ7,H7,I7,n7⟩:=q7;exact again I7 n7
  | brk=>obtain⟨σ7,H7,I7,q7⟩:=q7;exact⟨σ7,H7,I7.unpinned,q7⟩
  | ret v=>obtain⟨x7,σ7,H7,I7,r7,q7⟩:=q7;exact⟨x7,σ7,H7,I7.unpinned,r7,q7⟩
end
abbrev R2:=V->V->Hp->VK->Prop
def BO(X:Cx)(f:Value->Value->Sem Value)(r:R2):Prop :=
 ∀(pins:PL) (s:Shared) (σ:St) (H:Hp) (x y:V) (v u:Value) (Q:VK),Inv X pins σ H s->Ah x v->Ah y u->r x y H Q ->
  wpAny (model X.prog X.w) X.A (f v u) (EP X pins σ Q) X.xe s
def s_(X:Cx)(f:Value->Sem Value)(r:V->Hp->VK->Prop):Prop :=
 ∀(pins:PL) (s:Shared) (σ:St) (H:Hp) (x:V) (v:Value) (Q:VK),Inv X pins σ H s->Ah x v->r x H Q ->
  wpAny (model X.prog X.w) X.A (f v) (EP X pins σ Q) X.xe s
def UN(X:Cx)(f:Value)(r:LV->Hp->VK->Prop):Prop :=
 ∀(pins:PL) (s:Shared) (σ:St) (H:Hp) (xs:LV) (us:LU) (Q:VK),Inv X pins σ H s->Ac xs us->r xs H Q ->
  wpAny (model X.prog X.w) X.A (call f us) (EP X pins σ Q) X.xe s
def Yfh(X:Cx)(r:V->Hp->(Bool->Hp->Prop)->Prop):Prop :=
 ∀(pins:PL) (s:Shared) (σ:St) (H:Hp) (x:V) (v:Value) (Q:Bool->Hp->Prop),Inv X pins σ H s->Ah x v->r x H Q ->
  wpAny (model X.prog X.w) X.A (truthy v) (TP X pins σ Q) X.xe s
def jL(r:R2)(ta tb:TE):TE:=λσ H Q=>ta σ H λx H1=>tb σ H1 λy H2=>r x y H2 Q
def tUn(r:V->Hp->VK->Prop)(ta:TE):TE:=λσ H Q=>ta σ H λx H1=>r x H1 Q
def rI(C:Int->Int->Prop)(g:Int->Int->V):R2:=λx y H Q=>∃ i j,x=.int i/\y=.int j/\C i j/\Q (g i j) H
def Xu(g:Int->Int->V):R2:=λx y H Q=>∃ i j,x=.int i/\y=.int j/\Q (g i j) H
def rU(g:Int->V):V->Hp->VK->Prop:=λx H Q=>∃ i,x=.int i/\Q (g i) H
section
variable {X:Cx}{a b c:Expr}{ta tb tc:TE}{pos:Pos}
def sk(ha:PE X a ta)(hb:PE X b tb){pins:PL}{s:Shared}{σ:St}{H:Hp}{R:V->V->Hp->Prop}(I:Inv X pins σ H s)
  (h:ta σ H λx H1=>tb σ H1 λy H2=>R x y H2) {Q:EV} {f:Value->Value->Sem Value}
  (hf:∀ v u s2 x y H2,Inv X pins σ H2 s2->Ah x v->Ah y u->R x y H2->wpAny (model X.prog X.w) X.A (f v u) Q X.xe s2):
  wpAny (model X.prog X.w) X.A (eval a X.env) (λv s₁=>wpAny (model X.prog X.w) X.A (eval b X.env) (λu s₂=>wpAny (model X.prog X.w) X.A (f v u) Q X.xe s₂) X.xe s₁) X.xe s:=by
 refine AN (ha pins s σ H _ I h) λv s1 ⟨x,H1,I1,r1,q1⟩=>?_;refine AN (hb pins s1 σ H1 _ I1 q1) λu s2 ⟨y,H2,I2,r2,q2⟩=>?_;exact hf v u s2 x y H2 I2 r1 r2 q2
def AU{op:Operator}{r:R2}(ho:BO X (binaryOp op) r)(ha:PE X a ta)(hb:PE X b tb):PE X (.BinOp a op b pos) (jL r ta tb):=by
 ac_rfl;exact wpAny_BinOp (sk ha hb I h λv u s2 x y H2 I2 rx ry q=>ho pins s2 σ H2 x y v u Q I2 rx ry q)
def eZ{op:UnaryOp}{r:V->Hp->VK->Prop}(ho:s_ X (unaryOp op) r)(ha:PE X a ta):PE X (.UnaryOp op a pos) (tUn r ta):=by
 ac_rfl;exact UnaryOp_ (AN (ha pins s σ H _ I h) λv s1 ⟨x,H1,I1,r1,q1⟩=>ho pins s1 σ H1 x v Q I1 r1 q1)
def ai{f:Value->Value->Sem Value}{C:Int->Int->Prop}{g:Int->Int->Int}
  (rule:∀(i j:Int) (t u:Tok) (s:Shared) (Q:EV) (E:EV),C i j->Q (.int (g i j) s.toks) {s with toks:=s.toks + 1}->wpAny (model X.prog X.w) X.A (f (.int i t) (.int j u)) Q E s):
  BO X f (rI C λi j=>.int (g i j)):=by
 exfalso;obtain⟨i,j,rfl,rfl,hc,q⟩:=h;obtain⟨t,rfl⟩:=rx;obtain⟨t',rfl⟩:=ry;exact rule i j t t' s _ _ hc ⟨.int (g i j),H,I.tok _,⟨Z⟩,q⟩
def Ydc{f:Value->Value->Sem Value}{g:Int->Int->Int}
  (rule:∀(i j:Int) (t u:Tok) (s:Shared) (Q:EV) (E:EV),Q (.int (g i j) s.toks) {s with toks:=s.toks + 1}->wpAny (model X.prog X.w) X.A (f (.int i t) (.int j u)) Q E s):
  BO X f (Xu λi j=>.int (g i j)):=by
 exfalso;obtain⟨i,j,rfl,rfl,q⟩:=h;obtain⟨t,rfl⟩:=rx;obtain⟨t',rfl⟩:=ry;exact rule i j t t' s _ _ ⟨.int (g i j),H,I.tok _,⟨Z⟩,q⟩
def mV{f:Value->Value->Sem Value}{g:Int->Int->Bool}
  (rule:∀(i j:Int) (t u:Tok) (s:Shared) (Q:EV) (E:EV),Q (.bool (g i j)) s->wpAny (model X.prog X.w) X.A (f (.int i t) (.int j u)) Q E s):
  BO X f (Xu λi j=>.bl (g i j)):=by
 exfalso;obtain⟨i,j,rfl,rfl,q⟩:=h;obtain⟨t,rfl⟩:=rx;obtain⟨t',rfl⟩:=ry;exact rule i j t t' s _ _ ⟨.bl (g i j),H,I,Y,q⟩
def Yfl(i j:Int):Prop:=0<j/\j<1073741824
def Yfk(i j:Int):Prop:=0<=j/\j<=1000000/\i.natAbs<2 ^ 64
def sY(i j:Int):Prop:=(-(2 ^ 64)<i/\i<2 ^ 64)\/(-(2 ^ 64)<j/\j<2 ^ 64)
def sY.ok{i j:Int}(h:sY i j):IntMulOk i j:=by
 rcases h with⟨h1,h2⟩ | ⟨h1,h2⟩
 ·exact .of_left (intBits_le_64 h1 h2)
 ·exact .of_right (intBits_le_64 h1 h2)
def C_:BO X (binaryOp .Add) (Xu λi j=>.int (i + j)):=Ydc λ_ _ _ _ _ _ _ q=>add_int q
def Wo:BO X (binaryOp .Sub) (Xu λi j=>.int (i - j)):=Ydc λ_ _ _ _ _ _ _ q=>sub_int q
def jr:BO X (binaryOp .Mult) (rI sY λi j=>.int (i * j)):=ai λ_ _ _ _ _ _ _ hc q=>mul_int q hc.ok
def qS:BO X (binaryOp .FloorDiv) (rI Yfl λi j=>.int (i / j)):=ai λi j _ _ _ _ _ hc q=>by
 have h1:(0:Int)<j:=hc.1;have h2:j<1073741824:=hc.2;exact floordiv_int (by omega) (by rw[Int.fdiv_eq_ediv_of_nonneg i (by omega)];exact q) (.inl (PyProof.noPylong_small (by omega)))
def Vw:BO X (binaryOp .Mod) (rI (λ_ j=>0<j) λi j=>.int (i % j)):=ai λi j _ _ _ _ _ hc q=>by
 have h1:(0:Int)<j:=hc;exact mod_int' (by omega) (by rw[Int.fmod_eq_emod_of_nonneg i (by omega)];exact q)
def bV:BO X (binaryOp .Pow) (rI Yfk λi j=>.int (i ^ j.toNat)):=ai λ_ _ _ _ _ _ _ hc q=>pow_int_small hc.1 hc.2.1 hc.2.2 q
def unI{f:Value->Sem Value}{g:Int->Int}
  (rule:∀(i:Int) (t:Tok) (s:Shared) (Q:EV) (E:EV),Q (.int (g i) s.toks) {s with toks:=s.toks + 1}->wpAny (model X.prog X.w) X.A (f (.int i t)) Q E s):
  s_ X f (rU λi=>.int (g i)):=by
 intro pins s σ H x v Q I rx h;obtain⟨i,rfl,q⟩:=h;obtain⟨t,rfl⟩:=rx;exact rule i t s _ _ ⟨.int (g i),H,I.tok _,⟨Z⟩,q⟩
def fc:s_ X (unaryOp .USub) (rU λi=>.int (-i)):=unI λ_ _ _ _ _ q=>neg_int q
end
def Ycg:V->V->Bool
 | .non,.non=>true | .non,.int _=>true | .int _,.non=>true | .non,.bl _=>true | .bl _,.non=>true | .non,.str _=>true | .str _,.non=>true
 | .int _,.int _=>true | .bl _,.bl _=>true | .str _,.str _=>true | .byt _,.byt _=>true
 | .int _,.str _=>true | .str _,.int _=>true | .bl _,.str _=>true | .str _,.bl _=>true
 | _,_=>false
def rEq:R2:=λx y H Q=>Ycg x y=true/\Q (.bl (decide (x=y))) H
def rNe:R2:=λx y H Q=>Ycg x y=true/\Q (.bl (!decide (x=y))) H
def wU{i j:Int}:decide (V.int i=V.int j)=(i == j):=by
 rw[W0];simp
def Z3r{i j:Bool}:decide (V.bl i=V.bl j)=(i == j):=by
 rw[W0];simp
def w4{i j:Str}:decide (V.str i=V.str j)=(i == j):=by
 rw[W0];simp
def wR{i j:Array UInt8}:decide (V.byt i=V.byt j)=(i.toList == j.toList):=by
 rw[W0];cases i;cases j;simp
section
variable {X:Cx}{a b c:Expr}{ta tb tc:TE}{pos:Pos}
def BL{pins:PL}{σ:St}{H:Hp}{s:Shared}{Q:VK}{k k':Bool}(I:Inv X pins σ H s)(q:Q (.bl k) H)(e:k=k'):EP X pins σ Q (.bool k') s:=by
 subst e;exact⟨.bl k,H,I,Y,q⟩
def BV:BO X (compareOp .Eq) rEq:=by
 exfalso;obtain⟨hs,q⟩:=h;cases x with
 | non =>
  cases rx;cases y with
  | non=>cases ry;exact PySem.EqNone.eq_none_none (BL I q (by simp))
  | bl j=>cases ry;exact PySem.EqNone.eq_none_bool (BL I q (by simp))
  | int j=>obtain⟨t',rfl⟩:=ry;exact PySem.EqNone.eq_none_int (BL I q (by simp))
  | str j=>obtain⟨t',rfl⟩:=ry;exact PySem.EqNone.eq_none_str (BL I q (by simp))
  | _=>exact absurd (show false=true from hs) Yq
 | bl i =>
  cases rx;cases y with
  | non=>cases ry;exact PySem.EqNone.eq_bool_none (BL I q (by simp))
  | bl j=>cases ry;exact eq_bool (BL I q Z3r)
  | str j=>obtain⟨t',rfl⟩:=ry;exact PySem.EqMixed.eq_bool_str (BL I q (by simp))
  | _=>exact absurd (show false=true from hs) Yq
 | int i =>
  obtain⟨t,rfl⟩:=rx;cases y with
  | non=>cases ry;exact PySem.EqNone.eq_int_none (BL I q (by simp))
  | int j=>obtain⟨t',rfl⟩:=ry;exact eq_int (BL I q wU)
  | str j=>obtain⟨t',rfl⟩:=ry;exact PySem.EqMixed.eq_int_str (BL I q (by simp))
  | _=>exact absurd (show false=true from hs) Yq
 | str i =>
  obtain⟨t,rfl⟩:=rx;cases y with
  | non=>cases ry;exact PySem.EqNone.eq_str_none (BL I q (by simp))
  | bl j=>cases ry;exact PySem.EqMixed.eq_str_bool (BL I q (by simp))
  | int j=>obtain⟨t',rfl⟩:=ry;exact PySem.EqMixed.eq_str_int (BL I q (by simp))
  | str j=>obtain⟨t',rfl⟩:=ry;exact eq_str (BL I q w4)
  | _=>exact absurd (show false=true from hs) Yq
 | byt i =>
  obtain⟨t,rfl⟩:=rx;cases y with
  | byt j=>obtain⟨t',rfl⟩:=ry;exact W.eq_bytes (BL I q wR)
  | _=>exact absurd (show false=true from hs) Yq
 | _=>cases y <;> exact absurd (show false=true from hs) Yq
def U6:BO X (compareOp .NotEq) rNe:=by
 exfalso;obtain⟨hs,q⟩:=h;cases x with
 | non =>
  cases rx;cases y with
  | non=>cases ry;exact PySem.EqNone.ne_none_none (BL I q (by simp))
  | bl j=>cases ry;exact PySem.EqNone.ne_none_bool (BL I q (by simp))
  | int j=>obtain⟨t',rfl⟩:=ry;exact PySem.EqNone.ne_none_int (BL I q (by simp))
  | str j=>obtain⟨t',rfl⟩:=ry;exact PySem.EqNone.ne_none_str (BL I q (by simp))
  | _=>exact absurd (show false=true from hs) Yq
 | bl i =>
  cases rx;cases y with
  | non=>cases ry;exact PySem.EqNone.ne_bool_none (BL I q (by simp))
  | bl j=>cases ry;exact ne_bool (BL I q (congrArg not Z3r))
  | str j=>obtain⟨t',rfl⟩:=ry;exact PySem.EqMixed.ne_bool_str (BL I q (by simp))
  | _=>exact absurd (show false=true from hs) Yq
 | int i =>
  obtain⟨t,rfl⟩:=rx;cases y with
  | non=>cases ry;exact PySem.EqNone.ne_int_none (BL I q (by simp))
  | int j=>obtain⟨t',rfl⟩:=ry;exact ne_int (BL I q (congrArg not wU))
  | str j=>obtain⟨t',rfl⟩:=ry;exact PySem.EqMixed.ne_int_str (BL I q (by simp))
  | _=>exact absurd (show false=true from hs) Yq
 | str i =>
  obtain⟨t,rfl⟩:=rx;cases y with
  | non=>cases ry;exact PySem.EqNone.ne_str_none (BL I q (by simp))
  | bl j=>cases ry;exact PySem.EqMixed.ne_str_bool (BL I q (by simp))
  | int j=>obtain⟨t',rfl⟩:=ry;exact PySem.EqMixed.ne_str_int (BL I q (by simp))
  | str j=>obtain⟨t',rfl⟩:=ry;exact ne_str (BL I q (congrArg not w4))
  | _=>exact absurd (show false=true from hs) Yq
 | byt i =>
  obtain⟨t,rfl⟩:=rx;cases y with
  | byt j=>obtain⟨t',rfl⟩:=ry;exact W.ne_bytes (BL I q (congrArg not wR))
  | _=>exact absurd (show false=true from hs) Yq
 | _=>cases y <;> exact absurd (show false=true from hs) Yq
def bP:BO X (compareOp .Lt) (Xu λi j=>.bl (decide (i<j))):=mV λ_ _ _ _ _ _ _ q=>lt_int q
def Wm:BO X (compareOp .LtE) (Xu λi j=>.bl (decide (i<=j))):=mV λ_ _ _ _ _ _ _ q=>le_int q
def Wl:BO X (compareOp .Gt) (Xu λi j=>.bl (decide (j<i))):=mV λ_ _ _ _ _ _ _ q=>gt_int q
def Z7r:BO X (compareOp .GtE) (Xu λi j=>.bl (decide (j<=i))):=mV λ_ _ _ _ _ _ _ q=>ge_int q
def zP:BO X (compareOp .In) (λx y H Q=>∃ i j,x=.str i/\y=.str j/\Q (.bl (!(Builtin.Str.occurrences j i 0 j.length 1).isEmpty)) H):=by
 exfalso;obtain⟨i,j,rfl,rfl,q⟩:=h;obtain⟨t,rfl⟩:=rx;obtain⟨t',rfl⟩:=ry;exact in_str (BL I q rfl)
def Z7q:BO X (compareOp .Is) (λx y H Q=>y=.non/\Q (.bl (decide (x=.non))) H):=by
 exfalso;obtain⟨rfl,q⟩:=h;cases ry;refine is_none_gen (BL I q ?_);cases x <;> first
  | (cases rx;rfl)
  | (obtain⟨t,rfl⟩:=rx;rfl)
def Ab(b:Expr){op:CmpOp}(h:op≠.In:=by decide)(h2:op≠.NotIn:=by decide):behindInMarks op b=false:=by
 have e1:(op == CmpOp.In)=false:=by cases op <;> first | rfl | exact absurd rfl h
 have e2:(op == CmpOp.NotIn)=false:=by cases op <;> first | rfl | exact absurd rfl h2
 cases b <;> simp[behindInMarks,e1,e2]
def LK{op:CmpOp}{r:R2}(ho:BO X (compareOp op) r)(ha:PE X a ta)(hb:PE X b tb)(hm:behindInMarks op b=false):PE X (.Compare a [op] [b] pos) (jL r ta tb):=by
 ac_rfl;exact wpAny_Compare1 (sk ha hb I h λv u s2 x y H2 I2 rx ry q=>ho pins s2 σ H2 x y v u Q I2 rx ry q) hm
def Z6l(t:TE):TT:=λσ H Q=>t σ H λx H'=>∃ k,x=.bl k/\Q k H'
def Ag{op:CmpOp}{r:R2}(ho:BO X (compareOp op) r)(ha:PE X a ta)(hb:PE X b tb)(hm:behindInMarks op b=false):PT X (.Compare a [op] [b] pos) (Z6l (jL r ta tb)):=by
 ac_rfl;refine wpAny_isTrue_Compare1 (AN (ha pins s σ H _ I h) λv s1 ⟨x,H1,I1,r1,q1⟩=>AN (hb pins s1 σ H1 _ I1 q1) λu s2 ⟨y,H2,I2,r2,q2⟩ =>
  AN (ho pins s2 σ H2 x y v u _ I2 r1 r2 q2) λc s3 ⟨z,H3,I3,r3,k,e,q3⟩=>?_) hm
 subst e;cases r3;exact Jh ⟨H3,I3,q3⟩
def Z2v(r r':R2)(ta tb tc:TE):TE:=λσ H Q=>ta σ H λx H1=>tb σ H1 λy H2=>r x y H2 λz H3=>∃ k,z=.bl k /\
 (if k=true then tc σ H3 λw' H4=>r' y w' H4 Q else Q (.bl false) H3)
def Z0z{op ZO:CmpOp}{r r':R2}(ho:BO X (compareOp op) r)(Bw:BO X (compareOp ZO) r')(ha:PE X a ta)(hb:PE X b tb)(hc:PE X c tc)
  (hm:lastMarks [op,ZO] [b,c]=false:=by with_unfolding_all rfl):PE X (.Compare a [op,ZO] [b,c] pos) (Z2v r r' ta tb tc):=by
 ac_rfl;refine Compare_chain (AN (ha pins s σ H _ I h) λv s1 ⟨x,H1,I1,r1,q1⟩=>chain_link (AN (hb pins s1 σ H1 _ I1 q1) λu s2 ⟨y,H2,I2,r2,q2⟩ =>
  AN (ho pins s2 σ H2 x y v u _ I2 r1 r2 q2) λd s3 ⟨z,H3,I3,r3,k,e,q3⟩=>?_)) hm
 subst e;cases r3;refine Jh ?_;cases k with
 | false=>exact ite_ff ⟨.bl false,H3,I3,Y,q3⟩
 | true=>exact ite_tt (chain_last (AN (hc pins s3 σ H3 _ I3 q3) λw' s4 ⟨z',H4,I4,r4,q4⟩=>Bw pins s4 σ H4 y z' u w' Q I4 r2 r4 q4))
def kO{op ZO:CmpOp}{r r':R2}(ho:BO X (compareOp op) r)(Bw:BO X (compareOp ZO) r')(ha:PE X a ta)(hb:PE X b tb)(hc:PE X c tc)
  (hm:lastMarks [op,ZO] [b,c]=false:=by with_unfolding_all rfl):PT X (.Compare a [op,ZO] [b,c] pos) (Z6l (Z2v r r' ta tb tc)):=by
 ac_rfl;refine isTrue_chain (AN (ha pins s σ H _ I h) λv s1 ⟨x,H1,I1,r1,q1⟩=>test_link (AN (hb pins s1 σ H1 _ I1 q1) λu s2 ⟨y,H2,I2,r2,q2⟩ =>
  AN (ho pins s2 σ H2 x y v u _ I2 r1 r2 q2) λd s3 ⟨z,H3,I3,r3,k,e,q3⟩=>?_)) hm
 subst e;cases r3;refine Jh ?_;cases k with
 | false =>
  obtain⟨k',e',q'⟩:=q3;cases e';exact ite_ff ⟨H3,I3,q'⟩
 | true =>
  refine ite_tt (test_last (AN (hc pins s3 σ H3 _ I3 q3) λw' s4 ⟨z',H4,I4,r4,q4⟩=>AN (Bw pins s4 σ H4 y z' u w' _ I4 r2 r4 q4) λd' s5 ⟨z2,H5,I5,r5,k2,e2,q5⟩=>?_));subst e2;cases r5;exact Jh ⟨H5,I5,q5⟩
def sf(K:Fg)(x:V)(H:Hp)(k:Bool):Prop :=
 match x with
 | .non=>k=false
 | .bl b=>k=b
 | .int i=>k=(i != 0)
 | .str y=>y.length<=sizeLine/\k=((y.length:Int) != 0)
 | .byt y=>y.size<=sizeLine/\k=((y.size:Int) != 0)
 | .ref p=>(∃ xs,SqL K H p xs/\k=!xs.isEmpty)\/(∃ xs,AH K H p xs/\k=!xs.isEmpty)\/∃ kvs,H p=some (.dK kvs)/\k=!kvs.isEmpty
 | _=>False
def Zu5{κ:Type}{kvs:List (κ×V)}{vs:List (κ×Value)}(r:KV kvs vs):(!vs.isEmpty)=!kvs.isEmpty:=by
 cases r <;> rfl
def Zm0{xs:LV}{its:LU}(r:Ac xs its):(!its.toArray.isEmpty)=!xs.isEmpty:=by
 cases r <;> simp
def Zf:(sizeLine:Nat)<2 ^ 63:=by rw[sizeLine_eq];decide
def Z2s:Yfh X (λx H Q=>∃ k,sf X.K x H k/\Q k H):=by
 intro pins s σ H x v Q I rx h;obtain⟨k,e,q⟩:=h;have hl:=Zf;have hs:sizeLine=16777216:=sizeLine_eq;cases x with
 | non =>
  cases rx;have e':k=false:=e;subst e';exact truthy_none ⟨H,I,q⟩
 | bl b =>
  cases rx;have e':k=b:=e;subst e';exact Jh ⟨H,I,q⟩
 | int i =>
  obtain⟨t,rfl⟩:=rx;have e':k=(i != 0):=e;subst e';exact PySem.P.truthy_int ⟨H,I,q⟩
 | str y =>
  obtain⟨t,rfl⟩:=rx;obtain⟨hy,e'⟩:y.length<=sizeLine/\k=((y.length:Int) != 0):=e;subst e';exact PySem.P.truthy_str (by omega) ⟨H,I.tok _,q⟩
 | byt y =>
  obtain⟨t,rfl⟩:=rx;obtain⟨hy,e'⟩:y.size<=sizeLine/\k=((y.size:Int) != 0):=e;subst e';exact W.truthy_bytes (by omega) ⟨H,I.tok _,q⟩
 | ref p =>
  cases rx;have e':(∃ xs,SqL X.K H p xs/\k=!xs.isEmpty)\/(∃ xs,AH X.K H p xs/\k=!xs.isEmpty)\/∃ kvs,H p=some (.dK kvs)/\k=!kvs.isEmpty:=e
  rcases e' with⟨xs,hx,e'⟩ | ⟨xs,hx,e'⟩ | ⟨kvs,hx,e'⟩
  ·subst e';obtain⟨its,r,pl,hz⟩:=I.list hx;have hlen:=r.length;exact wpAny_truthy_list pl.isList (by simp only[Yn];omega) ⟨H,I.tok _,by rw[Zm0 r];exact q⟩
  ·subst e';obtain⟨its,r,pl,hz⟩:=I.tuple hx;have hlen:=r.length;exact truthy_tuple pl (by simp only[Yn];omega) ⟨H,I.tok _,by rw[Zm0 r];exact q⟩
  ·subst e';obtain⟨hz,hS,vs,r,m⟩:kvs.length<=sizeLine/\(p == sysModules)=false/\∃ vs,KV kvs vs/\s.heap.DictOf (CC X.prog X.w) p vs:=I.hok p _ hx;have hlen:kvs.length=vs.length:=Yu r;exact wpAny_truthy_dict hS m (by omega) ⟨H,I.tok _,by rw[Zu5 r];exact q⟩
 | _=>exact(show False from e).elim
def gK(ha:PE X a ta)(he:∀ whole,isTrue a X.env whole=(do let v <- whole;standAt a.pos;holding [v] (truthy v))):
  PT X a (λσ H Q=>ta σ H λx H'=>∃ k,sf X.K x H' k/\Q k H'):=by
 ac_rfl;exact isTrue_plain (AN (ha pins s σ H _ I h) λv s1 ⟨x,H1,I1,r1,q1⟩=>Z2s pins s1 σ H1 x v Q I1 r1 q1) (he _)
def UA:BO X (binaryOp .Add) (λx y H Q=>∃ i j,x=.str i/\y=.str j/\i.length + j.length<=sizeLine/\Q (.str (i++j)) H):=by
 exfalso;obtain⟨i,j,rfl,rfl,hz,q⟩:=h;obtain⟨t,rfl⟩:=rx;obtain⟨t',rfl⟩:=ry;exact add_str (λt' tk=>⟨.str (i++j),H,I.tok _,⟨Z⟩,q⟩) hz
def U7{x:V}{us:LU}(r:Ac [x] us):∃ u,us=[u]/\Ah x u:=by
 cases r with
 | cons r1 r2=>cases r2;exact⟨Z,r1⟩
def mh{x y:V}{us:LU}(r:Ac [x,y] us):∃ u w',us=[u,w']/\Ah x u/\Ah y w':=by
 cases r with
 | cons r1 r2 =>
  cases r2 with
  | cons r3 r4=>cases r4;exact⟨_,Z,r1,r3⟩
def Zzo(hc:X.calm=true):UN X (.builtin "max") (λxs H Q=>∃ i j,xs=[.int i,.int j]/\Q (.int (if j > i then j else i)) H):=by
 intro pins s σ H xs us Q I r h;obtain⟨i,j,rfl,q⟩:=h;obtain⟨u,w',rfl,⟨t,rfl⟩,⟨t',rfl⟩⟩:=mh r;refine max_two_ints (I.ok.hd hc) λh' tk k=>⟨_,H,I.kept k,?_,q⟩;by_cases hj:j > i
 ·rw[if_pos hj,if_pos hj];exact⟨Z⟩
 ·rw[if_neg hj,if_neg hj];exact⟨Z⟩
def Zzn(hc:X.calm=true):UN X (.builtin "min") (λxs H Q=>∃ i j,xs=[.int i,.int j]/\Q (.int (if j<i then j else i)) H):=by
 intro pins s σ H xs us Q I r h;obtain⟨i,j,rfl,q⟩:=h;obtain⟨u,w',rfl,⟨t,rfl⟩,⟨t',rfl⟩⟩:=mh r;refine min_two_ints (I.ok.hd hc) λh' tk k=>⟨_,H,I.kept k,?_,q⟩;by_cases hj:j<i
 ·rw[if_pos hj,if_pos hj];exact⟨Z⟩
 ·rw[if_neg hj,if_neg hj];exact⟨Z⟩
def Zzp:UN X (.type "int") (λxs H Q=>(∃ i,xs=[.int i]/\Q (.int i) H)\/∃ k,xs=[.bl k]/\Q (.int (if k then 1 else 0)) H):=by
 intro pins s σ H xs us Q I r h
 rcases h with⟨i,rfl,q⟩ | ⟨k,rfl,q⟩
 ·obtain⟨u,rfl,t,rfl⟩:=U7 r;exact call_int_int ⟨.int i,H,I,⟨Z⟩,q⟩
 ·obtain⟨u,rfl,r1⟩:=U7 r;cases r1;exact call_int_bool ⟨.int (if k then 1 else 0),H,I.tok _,⟨Z⟩,q⟩
def Zqm:UN X (.type "str") (λxs H Q=>∃ i,xs=[.int i]/\i.natAbs.log2<1920/\Q (.str (toString i)) H):=by
 intro pins s σ H xs us Q I r h;obtain⟨i,rfl,hz,q⟩:=h;obtain⟨u,rfl,t,rfl⟩:=U7 r;exact PySem.P.str_of_int hz ⟨.str _,H,I.tok _,⟨Z⟩,q⟩
def Ydn(K:Fg)(x:V)(H:Hp)(n:Nat):Prop :=
 match x with
 | .str y=>y.length<=sizeLine/\n=y.length
 | .byt y=>y.size<=sizeLine/\n=y.size
 | .ref p=>(∃ xs,SqL K H p xs/\n=xs.length)\/∃ xs,AH K H p xs/\n=xs.length
 | _=>False
def UR:UN X (.builtin "len") (λxs H Q=>∃ x n,xs=[x]/\Ydn X.K x H n/\Q (.int n) H):=by
 intro pins s σ H xs us Q I r h;obtain⟨x,n,rfl,e,q⟩:=h;obtain⟨u,rfl,rx⟩:=U7 r;have hl:=Zf;have hs:sizeLine=16777216:=sizeLine_eq;cases x with
 | str y =>
  obtain⟨t,rfl⟩:=rx;obtain⟨hy,e'⟩:y.length<=sizeLine/\n=y.length:=e;subst e';exact len_str (by omega) ⟨.int _,H,I.tok _,⟨Z⟩,q⟩
 | byt y =>
  obtain⟨t,rfl⟩:=rx;obtain⟨hy,e'⟩:y.size<=sizeLine/\n=y.size:=e;subst e';exact W.len_bytes (by omega) ⟨.int _,H,I.tok _,⟨Z⟩,q⟩
 | ref p =>
  cases rx;have e':(∃ xs,SqL X.K H p xs/\n=xs.length)\/∃ xs,AH X.K H p xs/\n=xs.length:=e
  rcases e' with⟨xs,hx,e'⟩ | ⟨xs,hx,e'⟩
  ·subst e';obtain⟨its,r',pl,hz⟩:=I.list hx;have hlen:=r'.length;exact Calls.call_len_list pl.isList (by simp only[Yn];omega) ⟨.int xs.length,H,I.tok _,⟨_,by simp only[Yn];rw[hlen]⟩,q⟩
  ·subst e';obtain⟨its,r',pl,hz⟩:=I.tuple hx;have hlen:=r'.length;exact len_tuple pl (by simp only[Yn];omega) ⟨.int xs.length,H,I.tok _,⟨_,by simp only[Yn];rw[hlen]⟩,q⟩
 | _=>exact(show False from e).elim
end
structure Zz(h:Heap)(x dx C:Addr)(mA:Str->OU):Prop where
 obj:h.get? x=some (W.instObj C dx)
 ns:h.Ns1 dx mA
 ne:dx≠x
def Zyl{h:Heap}{dx:Addr}{mA:Str->OU}(n:h.Ns1 dx mA):∃ od,h.get? dx=some od/\∀ name,W.lookIn name od=some (mA name):=by
 obtain⟨o,es,ep,ho,hd,hk,_,hm⟩:=n;refine⟨o,ho,λname=>?_⟩;have e:=hm name;unfold nsFind findBy at e;rw[<- Array.find?_toList]at e;unfold W.lookIn;rw[hd];dsimp only;split
 ·rename_i y q
  rw[q]at e;exact congrArg some e
 ·rename_i q
  rw[q]at e;have a:es.toList.any (·.refKey)=false:=by
   rw[List.any_eq_false];intro y hy;obtain⟨z,t,hkey⟩:=hk y (Array.mem_toList_iff.mp hy);simp[DictEntry.refKey,hkey]
  have a':¬ es.toList.any (·.refKey)=true:=by rw[a];exact Yq
  rw[if_neg a'];exact congrArg some e
def Zz.look{h:Heap}{x dx C:Addr}{mA:Str->OU}(I:Zz h x dx C mA):∃ od,W.InstAt h x (W.instObj C dx) C (some od)/\∀ name,W.lookIn name od=some (mA name):=
 let⟨od,ho,hl⟩:=Zyl I.ns
 ⟨od,⟨I.obj,Y,Y,ho⟩,hl⟩
section
variable {prog:Program}{w:World}{A:Around}{E:EV}{s:Shared}{K:Fg}{x dx C f:Addr}{mA:Str->OU}{name:Str}{v:Value}
def Z5f{expr:Bool}{Q:EV}(X:K.In s.heap)(I:Zz s.heap x dx C mA)(hg:W.plainGet K C name=true)(hh:W.hasDictIn K C=true)
  (ha:W.findIn K (.ref C) name=some none) (hv:mA name=some v) (Uz:W.handedIn v=true) (h:Q v {s with toks:=s.toks + 1}):
  wpAny (model prog w) A (getAttr (.ref x) name expr) Q E s:=by
 obtain⟨od,J,hl⟩:=I.look;exact W.get_value X J (W.plainGet_of hg).1 (W.findObj_own hh ha rfl (by rw[hl,hv])) Uz h
def Z17{pl:Sem Bool}{Q:Value×LU->Shared->Prop}(X:K.In s.heap)(I:Zz s.heap x dx C mA)(hg:W.plainGet K C name=true)
  (hf:W.findIn K (.ref C) name=some (some (.ref f))) (ht:W.isFn K (.ref f)=true) (hv:mA name=none) (h:Q (.ref f,[.ref x]) s):
  wpAny (model prog w) A (getMethod (.ref x) name pl) Q E s:=by
 obtain⟨od,J,hl⟩:=I.look;exact W.method_fn X J (W.plainGet_of hg).1 (W.plainGet_of hg).2 hf (beq_iff_eq.mp ht) (by show(W.lookIn name od).map (·.isSome)=some false;rw[hl,hv];rfl) h
def Z37{ns:LS}{Q:Unit->Shared->Prop}(X:K.In s.heap)(I:Zz s.heap x dx C mA)
  (hs:W.findIn K (.ref C) "__setattr__"=some (some (.builtin "object.__setattr__"))) (hp:W.plainOver K C=true) (ht:W.takerIn K C name=some none) (hh:W.hasDictIn K C=true)
  (hw:PySem.Within mA ns) (hsz:ns.length<=sizeLine)
  (h:∀ h',Zz h' x dx C (λy=>if y=name then some v else mA y)->Heap.SameBut dx s.heap h'->Q () {s with heap:=h',toks:=s.toks + 2}):
  wpAny (model prog w) A (setAttr (.ref x) name v) Q E s:=by
 obtain⟨od,J,hl⟩:=I.look;refine W.set_plain X J hs (W.osa_open (s:={s with toks:=s.toks + 1}) (r:=none) X J hp ht λb=>?_);obtain⟨cd,hc,ou⟩:=W.any_some hh;have hx:s.heap.get? x=some ⟨.ref C,some dx,.plain,#[]⟩:=I.obj;refine Ja (Jd (Ja (Ja (wpAny_loadPart hx (Ja (W.Looks.here (s:={s with toks:=s.toks + 1}) (W.looks_clsIn X hc) ?_))))));rw[ou];refine Jd (a:=some dx) (Ja (Jd (Ja ?_)));refine wpAny_nsSet1 (s:={s with toks:=s.toks + 1}) I.ns λh' az Ca=>?_;obtain⟨oD,esD,epD,hoD,hdD,hcD⟩:=az.count (PySem.Within.cons name v hw);refine Ja (wpAny_lookBehind hoD (by rw[hdD];exact pastItsLine_dict (B0 hcD (by rw[Yt];omega))) ?_);exact Jd (h _ ⟨(Ca.2 _ (Ae I.ne)).trans I.obj,az,I.ne⟩ Ca)
def Z1x{R:Result->Shared->Prop}{vs:LU}{kw:List (Str×Value)}(X:K.In s.heap)(hm:W.makesIn K C=true)
  (hi:W.findIn K (.ref C) "__init__"=some (some (.ref f))) (hf:W.typeIn K (.ref f)=some (.type "function"))
  (h:codeAny (model prog w) (A.under (.builtin "type.__call__" ⟨.ref C :: vs,kw⟩)) (.call (.ref f) ⟨.ref (s.heap.objs.size + 1):: vs,kw⟩) (W.InitBack (s.heap.objs.size + 1) R)
   {s with heap:=(s.heap.push W.emptyDict).push (W.instObj C s.heap.objs.size) }):
  codeAny (model prog w) A (.call (.ref C) ⟨vs,kw⟩) R s:=by
 obtain⟨hh,g,d,t,os⟩:=s;exact W.make_core (W.makes_of X hm) (W.looks_findIn X hi) (λself=>W.bind_fn X self hf) (.inl rfl) h
end
def Ba(f:Str)(v:V):List (Str×V)->List (Str×V)
 | []=>[(f,v)]
 | (g,x):: r=>if g=f then(g,v):: r else(g,x):: Ba f v r
theorem CT(f g:Str)(v:V):∀ fs:List (Str×V),(Ba f v fs).lookup g=if g=f then some v else fs.lookup g
 | []=>by
  show List.lookup g [(f,v)]=_;by_cases h:g=f
  ·have hb:(g == f)=true:=beq_iff_eq.mpr h;simp only[List.lookup,hb,if_pos h]
  ·have hb:(g == f)=false:=cZ.mpr h;simp only[List.lookup,hb,if_neg h]
 | (k,x):: r=>by
  have ih:=CT f g v r;rw[show Ba f v ((k,x):: r)=(if k=f then(k,v):: r else(k,x):: Ba f v r)from rfl];by_cases hk:k=f
  ·rw[if_pos hk];by_cases h:g=k
   ·have hb:(g == k)=true:=beq_iff_eq.mpr h;simp only[List.lookup,hb,if_pos (h.trans hk)]
   ·have hb:(g == k)=false:=cZ.mpr h;simp only[List.lookup,hb,if_neg (λe:g=f=>h (e.trans hk.symm))]
  ·rw[if_neg hk];by_cases h:g=k
   ·have hb:(g == k)=true:=beq_iff_eq.mpr h;simp only[List.lookup,hb,if_neg (λe:g=f=>hk (h.symm.trans e))]
   ·have hb:(g == k)=false:=cZ.mpr h;simp only[List.lookup,hb];exact ih
theorem rB(f:Str)(v:V):∀ fs:List (Str×V),f∈(Ba f v fs).map (·.1)/\∀ g,g∈fs.map (·.1)->g∈(Ba f v fs).map (·.1)
 | []=>⟨by simp[Ba],λg h=>by simp at h⟩
 | (k,x):: r=>by
  obtain⟨i1,i2⟩:=rB f v r;rw[show Ba f v ((k,x):: r)=(if k=f then(k,v):: r else(k,x):: Ba f v r)from rfl];by_cases hk:k=f
  ·rw[if_pos hk];subst hk;exact⟨by simp,λg h=>by simpa using h⟩
  ·rw[if_neg hk];refine⟨?_,λg h=>?_⟩
   ·rw[Yz];exact Yr _ i1
   ·rw[Yz]at h ⊢
    rcases Yv.mp h with e | e
    ·exact Yv.mpr (.inl e)
    ·exact Yr _ (i2 g e)
theorem Zln(f:Str)(v:V):∀ fs:List (Str×V),(Ba f v fs).length<=fs.length + 1
 | []=>by simp[Ba]
 | (k,x):: r=>by
  have ih:=Zln f v r;rw[show Ba f v ((k,x):: r)=(if k=f then(k,v):: r else(k,x):: Ba f v r)from rfl];by_cases hk:k=f
  ·rw[if_pos hk,Yt,Yt];omega
  ·rw[if_neg hk,Yt,Yt];omega
def Tv.some_of{v:V}{o:OU}(r:Tv (some v) o):∃ u,o=some u/\Ah v u:=by
 cases o with
 | none=>exact(show False from r).elim
 | some u=>exact⟨u,Y,r⟩
def Tv.none_of{o:OU}(r:Tv none o):o=none:=by
 cases o with
 | none=>rfl
 | some u=>exact(show False from r).elim
def Zy0{v:V}{u:Value}(r:Ah v u):W.handedIn u=true:=by
 cases v with
 | non=>cases(show u=Value.none from r);rfl
 | bl b=>cases(show u=Value.bool b from r);rfl
 | int i=>obtain⟨t,e⟩:=(show ∃ t,u=Value.int i t from r);cases e;rfl
 | str x=>obtain⟨t,e⟩:=(show ∃ t,u=Value.str x t from r);cases e;rfl
 | byt b=>obtain⟨t,e⟩:=(show ∃ t,u=Value.bytes b t from r);cases e;rfl
 | flt b=>obtain⟨t,e⟩:=(show ∃ t,u=Value.float b t from r);cases e;rfl
 | ref a=>cases(show u=Value.ref a from r);rfl
 | ty n=>cases(show u=Value.type n from r);rfl
section
variable {P:Program}{w:World}{H H':Hp}{h h':Heap}{a C dx:Addr}{fs CI:List (Str×V)}
def kF(hok:Bk P w H h)(e:H a=some (.ins C dx fs)):∃ mA,Zz h a dx C mA/\(∀ f,Tv (fs.lookup f) (mA f))/\PySem.Within mA (fs.map (·.1))/\fs.length<=1000/\H dx=some (.own a):=by
 obtain⟨d,z,ne,ob,mA,n,r,q⟩:=(show BU P w H h a (.ins C dx fs)from hok a _ e);exact⟨mA,⟨ob,n,ne⟩,r,q,z,d⟩
end
structure VI(K:Fg)(C:Addr):Prop where
 pg:W.plainGet K C Str.empty=true
 hd:W.hasDictIn K C=true
 po:W.plainOver K C=true
 sa:W.findIn K (.ref C) "__setattr__"=some (some (.builtin "object.__setattr__"))
def VI.get{K:Fg}{C:Addr}(c:VI K C)(f:Str):W.plainGet K C f=true:=c.pg
def Ul(K:Fg)(C:Addr)(f:Str):Prop:=W.findIn K (.ref C) f=some none
def Ul.taker{K:Fg}{C:Addr}{f:Str}(n:Ul K C f):W.takerIn K C f=some none:=by
 unfold W.takerIn;rw[show W.findIn K (.ref C) f=some none from n];rfl
structure Con(K:Fg)(C:Addr)(f:Str)(v:V)(u:Value):Prop where
 at_:W.findIn K (.ref C) f=some (some u)
 rel:Ah v u
 get:W.specialIn K u "__get__"=some none
 cp:W.copiedNames.contains f=false
structure mN(K:Fg)(C:Addr)(m:Str)(f:Addr):Prop where
 at_:W.findIn K (.ref C) m=some (some (.ref f))
 fn:W.isFn K (.ref f)=true
 kp:W.keepIn K (.ref f)=true
section
variable {X:Cx}{pins:PL}{σ:St}{H:Hp}{s:Shared}{a C dx:Addr}{fs:List (Str×V)}{f:Str}{v:V}{A:Around}{E:EV}
def Zu8{b:Bool}{Q:EV}(I:Inv X pins σ H s)(e:H a=some (.ins C dx fs))(c:VI X.K C)(n:Ul X.K C f)(l:fs.lookup f=some v)
  (h:∀ u s',Inv X pins σ H s'->Ah v u->Q u s'):wpAny (model X.prog X.w) A (getAttr (.ref a) f b) Q E s:=by
 obtain⟨mA,O,r,_,_,_⟩:=kF I.hok e;obtain⟨u,hu,ru⟩:=Tv.some_of (v:=v) (o:=mA f) (by rw[<- l];exact r f);exact Z5f I.kIn O (c.get f) c.hd n hu (Zy0 ru) (h u _ (I.tok _) ru)
def Zm1{m:Str}{g:Addr}{pl:Sem Bool}{Q:Value×LU->Shared->Prop}(I:Inv X pins σ H s)(e:H a=some (.ins C dx fs))(c:VI X.K C)(k:mN X.K C m g)(l:fs.lookup m=none)
  (h:Q (.ref g,[.ref a]) s):wpAny (model X.prog X.w) A (getMethod (.ref a) m pl) Q E s:=by
 obtain⟨mA,O,r,_,_,_⟩:=kF I.hok e;have hn:mA m=none:=Tv.none_of (by rw[<- l];exact r m);exact Z17 I.kIn O (c.get m) k.at_ k.fn hn h
def Zt9{y:V}{u:Value}{Q:Unit->Shared->Prop}(I:Inv X pins σ H s)(e:H a=some (.ins C dx fs))(c:VI X.K C)(n:Ul X.K C f)(hl:fs.length<1000)(ry:Ah y u)
  (h:∀ s',Inv X pins σ (upd H a (.ins C dx (Ba f y fs))) s'->Q () s'):wpAny (model X.prog X.w) A (setAttr (.ref a) f u) Q E s:=by
 obtain⟨mA,O,r,wi,_,ho⟩:=kF I.hok e;have hz:(fs.map (·.1)).length<=sizeLine:=by rw[Ya,sizeLine_eq];omega
 refine Z37 I.kIn O c.sa c.po n.taker c.hd wi hz λh' O' sb=>h _ ?_;have hd:∃ o,h'.get? dx=some o:=let⟨o,_,_,e',_⟩:=O'.ns;⟨o,e'⟩;refine I.write (x:=a) (e:=dx) (by rw[e];exact True.intro) (.inr ho) (λb q hb z=>(sb.2 b hb).trans z) hd ?_;refine⟨by rw[AD O.ne];exact ho,?_,O.ne,O'.obj,_,O'.ns,λg=>?_,λg hg=>?_⟩
 ·have:=Zln f y fs;omega
 ·show Tv ((Ba f y fs).lookup g) (if g=f then some u else mA g);rw[CT];by_cases q:g=f
  ·rw[if_pos q,if_pos q];exact ry
  ·rw[if_neg q,if_neg q];exact r g
 ·by_cases q:g=f
  ·rw[q];exact(rB f y fs).1
  ·refine(rB f y fs).2 g (wi g λz=>hg ?_);show(if g=f then some u else mA g)=none;rw[if_neg q];exact z
def Inv.made(I:Inv X pins σ H s):Inv X pins σ (upd (upd H s.heap.objs.size (.own (s.heap.objs.size + 1))) (s.heap.objs.size + 1) (.ins C s.heap.objs.size []))
  {s with heap:=(s.heap.push W.emptyDict).push (W.instObj C s.heap.objs.size) }:=by
 have e1:(s.heap.push W.emptyDict).get? s.heap.objs.size=some W.emptyDict:=Yp s.heap rfl;have e2:((s.heap.push W.emptyDict).push (W.instObj C s.heap.objs.size)).get? (s.heap.objs.size + 1)=some (W.instObj C s.heap.objs.size):=by
  have:=Yp (s.heap.push W.emptyDict) (o:=W.instObj C s.heap.objs.size) rfl
  rwa [Wy]at this
 have e3:(s.heap.push W.emptyDict).Ns s.heap.objs.size (λ_=>none):=⟨W.emptyDict,#[],_,e1,Y,(λe he=>absurd he (by simp)),λ_=>rfl⟩;have I1:=I.laid (a:=s.heap.objs.size) (o:=.own (s.heap.objs.size + 1)) (h':=s.heap.push W.emptyDict) (t':=s.toks) (λb u q=>Ye _ q) (Yf _) ⟨_,e1⟩;refine I1.laid (a:=s.heap.objs.size + 1) (o:=.ins C s.heap.objs.size []) (t':=s.toks) (λb u q=>Ye _ q) (Nat.le_of_eq (Wy _ _)) ?_;have ne:s.heap.objs.size≠s.heap.objs.size + 1:=Yx (Nat.lt_succ_self _);refine⟨by rw[AD ne,uS],Ax _,ne,e2,λ_=>none,(Heap.Ns1.of_empty e3).at λo q=>Ye _ q,λ_=>True.intro,λy hy=>absurd rfl hy⟩
def Z5y{prog:Program}{w:World}{env:Env}{e:Expr}{f:Str}{pos:Pos}{s:Shared}{Q:EV}(hb:attributeBase e f env (eval e env)=eval e env)
  (h:wpAny (model prog w) A (eval e env) (λo s₁=>wpAny (model prog w) A (getAttr o f true) Q E s₁) E s):wpAny (model prog w) A (eval (.Attribute e f pos) env) Q E s :=
 Attribute_any_ h (by rw[arm_eval_Attribute,hb])
end
def Ydv(K:Fg)(ta:TE)(f:Str):TE:=λσ H Q=>ta σ H λx H1=>∃ a C dx fs v,x=.ref a/\H1 a=some (.ins C dx fs)/\VI K C/\Ul K C f/\fs.lookup f=some v/\Q v H1
def Yep(K:Fg)(ta tv:TE)(f:Str):TS:=λD σ H=>tv σ H λy H1=>ta σ H1 λx H2=>∃ a C dx fs,x=.ref a/\H2 a=some (.ins C dx fs)/\VI K C/\Ul K C f/\fs.length<1000 /\
 D.nx σ (upd H2 a (.ins C dx (Ba f y fs)))
section
variable {X:Cx}{o e value:Expr}{f:Str}{pos pos' CF:Pos}{ta tv:TE}
def VA(he:PE X e ta)(hb:attributeBase e f X.env (eval e X.env)=eval e X.env):PE X (.Attribute e f pos) (Ydv X.K ta f):=by
 ac_rfl;refine Z5y hb (AN (he pins s σ H _ I h) λu s1 ⟨x,H1,I1,rx,a,C,dx,fs,v,ex,ea,c,n,l,q⟩=>?_);subst ex;obtain rfl:u=Value.ref a:=rx;exact Zu8 I1 ea c n l λu' s2 I2 ru=>⟨v,H1,I2,ru,q⟩
def YA(ha:PE X o ta)(hv:PE X value tv)(hs:swapsWith value (some (.Attribute o f pos')) pos.line X.env=pure false):PS X (.Assign [.Attribute o f pos'] value pos) (Yep X.K ta tv f):=by
 intro pins s σ H D I h;refine plainObj_wpAny_Assign_Attribute (AN (hv pins s σ H _ I h) λu s1 ⟨y,H1,I1,ry,q⟩=>AN (ha pins s1 σ H1 _ I1 q) λov s2 ⟨x,H2,I2,rx,a,C,dx,fs,ex,ea,c,n,l,q2⟩=>?_) hs;subst ex;obtain rfl:ov=Value.ref a:=rx;exact Zt9 I2 ea c n l ry λs3 I3=>⟨σ,_,I3,q2⟩
end
section
variable {X:Cx}{pins:PL}{σ:St}{H:Hp}{s:Shared}{A:Around}{E:EV}{Q:EV}{c:Value}{b:Bool}
inductive U5(K:Fg)(H:Hp):V->Value->Prop where
 | non:U5 K H .non (.type "NoneType")
 | bl (x:Bool):U5 K H (.bl x) (.type "bool")
 | int (i:Int):U5 K H (.int i) (.type "int")
 | str (x:Str):U5 K H (.str x) (.type "str")
 | flt (x:UInt64):U5 K H (.flt x) (.type "float")
 | lst {a:Addr} {xs:LV} (e:H a=some (.lst xs)):U5 K H (.ref a) (.type "list")
 | frz {a:Addr} {o:Obj} {xs:LV} (e:H a=some (.frz o (.lst xs))):U5 K H (.ref a) (.type "list")
 | tup {a:Addr} {xs:LV} (e:H a=some (.tup xs)):U5 K H (.ref a) (.type "tuple")
 | dK {a:Addr} {kvs:KL} (e:H a=some (.dK kvs)):U5 K H (.ref a) (.type "dict")
 | dT {a:Addr} {kvs:List (List Key×V)} (e:H a=some (.dT kvs)):U5 K H (.ref a) (.type "dict")
 | ins {a C dx:Addr} {fs:List (Str×V)} (e:H a=some (.ins C dx fs)) (cl:VI K C) (ha:W.findIn K (.ref C) "__class__"=some (some (.builtin "object.__class__")))
   (hn:W.specialIn K (.builtin "object.__class__") "__get__"=some (some (.builtin "getset_descriptor.__get__"))) (htk:W.takesIn K (.builtin "object.__class__")=some true)
   (hm:W.mroIn K C (.type "object")=some true):U5 K H (.ref a) (.ref C)
def Zyv{x:V}{u t:Value}(I:Inv X pins σ H s)(rx:Ah x u)(ty:U5 X.K H x t)(e:W.kitOne X.K t c=some b)(h:∀ tk,Q (.bool b) {s with toks:=tk}):
  wpAny (model X.prog X.w) A (call (.builtin "isinstance") [u,c]) Q E s:=by
 cases ty with
 | non=>cases(show u=Value.none from rx);exact W.kia_one W.kitx_none I.kIn True.intro e (λz=>nomatch z) h
 | bl y=>cases(show u=Value.bool y from rx);exact W.kia_one W.kitx_bool I.kIn True.intro e (λz=>nomatch z) h
 | int i=>obtain⟨t,q⟩:=(show ∃ t,u=Value.int i t from rx);cases q;exact W.kia_one W.kitx_int I.kIn True.intro e (λz=>nomatch z) h
 | str y=>obtain⟨t,q⟩:=(show ∃ t,u=Value.str y t from rx);cases q;exact W.kia_one W.kitx_str I.kIn True.intro e (λz=>nomatch z) h
 | flt y=>obtain⟨t,q⟩:=(show ∃ t,u=Value.float y t from rx);cases q;exact W.kia_one W.kitx_float I.kIn True.intro e (λz=>nomatch z) h
 | @lst a xs ea =>
  cases(show u=Value.ref a from rx);obtain⟨_,_,n,_,h1⟩:=(show BU X.prog X.w H s.heap a (.lst xs)from I.hok a _ ea);exact W.kia_one W.kitx_list I.kIn ⟨_,h1,Y⟩ e (λz=>nomatch z) h
 | @frz a ob xs ea =>
  cases(show u=Value.ref a from rx);obtain⟨_,_,_,n,_,h1⟩:=(show BU X.prog X.w H s.heap a (.frz ob (.lst xs))from I.hok a _ ea);exact W.kia_one W.kitx_list I.kIn ⟨_,h1,Y⟩ e (λz=>nomatch z) h
 | @tup a xs ea =>
  cases(show u=Value.ref a from rx);obtain⟨_,_,_,p⟩:=(show BU X.prog X.w H s.heap a (.tup xs)from I.hok a _ ea);obtain⟨o,h1,h2,_⟩:=p;exact W.kia_one W.kitx_tuple I.kIn ⟨o,h1,h2⟩ e (λz=>nomatch z) h
 | @dK a kvs ea =>
  cases(show u=Value.ref a from rx);obtain⟨_,_,vs,_,p⟩:=(show BU X.prog X.w H s.heap a (.dK kvs)from I.hok a _ ea);obtain⟨o,es,ep,h1,h2,_⟩:=p;exact W.kia_one W.kitx_dict I.kIn ⟨o,h1,h2.1⟩ e (λz=>nomatch z) h
 | @dT a kvs ea =>
  cases(show u=Value.ref a from rx);obtain⟨_,_,xs,_,o,es,ep,h1,h2,_⟩:=(show BU X.prog X.w H s.heap a (.dT kvs)from I.hok a _ ea);exact W.kia_one W.kitx_dict I.kIn ⟨o,h1,h2.1⟩ e (λz=>nomatch z) h
 | @ins a C dx fs ea cl ha hn htk hm =>
  cases(show u=Value.ref a from rx);obtain⟨mA,O,_⟩:=kF I.hok ea;obtain⟨od,J,_⟩:=O.look;exact W.kia_one (W.kitx_own (cl.get _) cl.hd ha hn htk hm) I.kIn J e (λz=>nomatch z) h
end
structure Af(k:Nat)(A:Around):Prop where
 hd:A.handled=none
 dp:A.depth + 3 * k + 5<recursionLimit
 un:A.units + 16 * k + 200<cLine
 gd:A.guards=some []
def Af.mono{j k:Nat}{A:Around}(r:Af k A)(h:j<=k):Af j A:=⟨r.hd,by have:=r.dp;omega,by have:=r.un;omega,r.gd⟩
theorem Af.deeper{k:Nat}{A:Around}(r:Af (k + 1) A)(env:Env):Af k (A.deeper env):=
 ⟨r.hd,by have:=r.dp;show A.depth + 1 + 3 * k + 5<_;omega,by have:=r.un;show A.units + 3 + 16 * k + 200<_;omega,r.gd⟩
def Zu0{A:Around}{C:Addr}{us:LU}{kw:List (Str×Value)}:(A.under (.builtin "type.__call__" ⟨.ref C :: us,kw⟩)).depth=A.depth + 1:=by
 first | rfl | simp[Around.under,Code.weight,Code.isCreation,Code.isGuard,Code.isCaller,Code.frames,Code.isFrame,guardIds]
def Zuz{A:Around}{C:Addr}{us:LU}{kw:List (Str×Value)}:(A.under (.builtin "type.__call__" ⟨.ref C :: us,kw⟩)).units=A.units + 1:=by
 first | rfl | simp[Around.under,Code.cUnits,Code.frames,Code.isFrame]
def Af.make{k:Nat}{A:Around}(r:Af (k + 1) A)(C:Addr)(us:LU)(kw:List (Str×Value)):Af k (A.under (.builtin "type.__call__" ⟨.ref C :: us,kw⟩)):=
 ⟨r.hd,by have:=r.dp;rw[Zu0];omega,by have:=r.un;rw[Zuz];omega,by first | exact r.gd | simpa[Around.under,Code.guards,Code.isGuard,guardIds,pushGuards]using r.gd⟩
theorem Af.depth{k:Nat}{A:Around}(r:Af k A):A.depth<recursionLimit:=by have:=r.dp;omega
theorem Af.units{k:Nat}{A:Around}(r:Af k A):A.units + 64<cLine:=by have:=r.un;omega
def mX:TA:=λ_ H Q=>Q [] H
def sQ(ta:TE)(tr:TA):TA:=λσ H Q=>ta σ H λx H1=>tr σ H1 λxs H2=>Q (x :: xs) H2
section
variable {X:Cx}{e:Expr}{es:List Expr}{te:TE}{t:TA}{pos:Pos}
def AA:PA X [] mX:=λ_ _ _ _ H Q I h=>Calls.spliced_nil ⟨[],H,I,.nil,h⟩
def pC(ha:PE X e te)(hr:PA X es t)(hs:starEach (e :: es) X.env=(false,eval e X.env):: starEach es X.env:=by rfl):PA X (e :: es) (sQ te t):=by
 intro pos pins s σ H Q I h;rw[hs];show wpAny _ _ (spliced ((false,eval e X.env):: backTo pos (starEach es X.env))) _ _ s;refine m9 (AN (ha pins s σ H _ I h) λu s1 ⟨x,H1,I1,r1,q1⟩=>?_);exact AN (hr pos pins s1 σ H1 _ I1 q1) λus s2 ⟨xs,H2,I2,r2,q2⟩=>⟨x :: xs,H2,I2,.cons r1 r2,q2⟩
def rp(t:TA):TE:=λσ H Q=>t σ H λxs H1=>xs.length<=sizeLine/\∀ p,H1 p=none->Q (.ref p) (upd H1 p (.tup xs))
def Ydt(t:TA):TE:=λσ H Q=>t σ H λxs H1=>xs.length<=sizeLine/\∀ p,H1 p=none->Q (.ref p) (upd H1 p (.lst xs))
def Bf{x1}(h:PA X es t):PE X (.Tuple es x1 pos) (rp t):=by
 intro pins s σ H Q I hq;refine wpAny_Tuple_spliced (AN (h pos pins s σ H _ I hq) λus s1 ⟨xs,H1,I1,r,z,q⟩=>⟨by rw[<- r.length];exact z,?_⟩);have hf:H1 s1.heap.objs.size=none:=I1.hok.fresh (Yf _);refine⟨.ref s1.heap.objs.size,upd H1 s1.heap.objs.size (.tup xs),I1.laid (t':=s1.toks) (λb u e=>Ye _ e) (Yf _) ?_,Y,q _ hf⟩;exact⟨z,us,r,⟨_,Yp _ rfl,Y,Z⟩⟩
def BX(h:PA X es t):PE X (.List es pos) (Ydt t):=by
 intro pins s σ H Q I hq;refine wpAny_List_spliced (AN (h pos pins s σ H _ I hq) λus s1 ⟨xs,H1,I1,r,z,q⟩=>⟨by rw[<- r.length];exact z,?_⟩);have hf:H1 s1.heap.objs.size=none:=I1.hok.fresh (Yf _);refine⟨.ref s1.heap.objs.size,upd H1 s1.heap.objs.size (.lst xs),I1.laid (t':=s1.toks) (λb u e=>Ye _ e) (Yf _) ?_,Y,q _ hf⟩;exact⟨z,us,0,r,Yp _ rfl⟩
end
abbrev Sp:=LV->Hp->VK->XK->Prop
abbrev Vl:=List Env->Hp->Shared->XK->Value->Shared->Prop
structure Ud(P:Program)(w:World)(K:Fg)(mg:Str->OU)(base:Heap)(A:Around)(outer:List Env)(s:Shared)(H:Hp):Prop where
 frames:A.frames=some outer
 mod:Mod K mg base
 bs:∀ b o,base.get? b=some o->s.heap.get? b=some o/\H b=none
 bsz:base.objs.size<=s.heap.objs.size
 funs:s.heap.FunFrames base outer
 frf:∀ b∈VS outer,H b=none
 hok:Bk P w H s.heap
 bare:AllBare s.gens
def CE(outer:List Env)(P:Program)(w:World)(H:Hp)(s:Shared)(Q:VK)(u:Value)(s':Shared):Prop :=
 ∃ v H',s'.os=s.os/\AllBare s'.gens/\Un (VS outer) [] H H' s.heap s'.heap/\Bk P w H' s'.heap/\Ah v u/\Q v H'
def CR(CX:Vl)(outer:List Env)(P:Program)(w:World)(H:Hp)(s:Shared)(Q:VK)(E:XK)(r:Result)(s':Shared):Prop :=
 match r with
 | .ok (.ret u)=>CE outer P w H s Q u s'
 | .ok _=>False
 | .error e=>CX outer H s E e s'
structure Uq(P:Program)(w:World)(K:Fg)(mg:Str->OU)(base:Heap)(CX:Vl)(k:Nat)(f:Addr)(fd:FuncData)(ps:LS)(sp:Sp):Prop where
 len:∀ vs H Q E,sp vs H Q E->vs.length=ps.length
 run:∀(A:Around) (outer:List Env) (s:Shared) (H:Hp) (args:Args) (us:LU) (vs:LV) (Q:VK) (E:XK),Af k A->Ud P w K mg base A outer s H->BindsTo s fd args (ps.zip us)->Ac vs us->sp vs H Q E ->
  codeAny (model P w) A (.call (.ref f) args) (CR CX outer P w H s Q E) s
def Ud.make{P:Program}{w:World}{K:Fg}{mg:Str->OU}{base:Heap}{A:Around}{outer:List Env}{s:Shared}{H:Hp}(e:Ud P w K mg base A outer s H)(C:Addr)(us:LU)(kw:List (Str×Value)):
  Ud P w K mg base (A.under (.builtin "type.__call__" ⟨.ref C :: us,kw⟩)) outer s H:=⟨by first | exact e.frames | (simpa[Around.under,Code.envs,Code.isFrame,pushEnvs]using e.frames),e.mod,e.bs,e.bsz,e.funs,e.frf,e.hok,e.bare⟩
section
variable {X:Cx}{pins:PL}{σ:St}{H:Hp}{s s':Shared}
def Inv.env0(I:Inv X pins σ H s):Ud X.prog X.w X.K X.mg X.base X.A X.stack s H :=
 ⟨I.ok.frames,I.ok.mod,I.bs,B0 I.ok.bsz I.sz,I.stack,I.stkFree,I.hok,I.bare⟩
def Inv.after{Q:VK}{u:Value}(I:Inv X pins σ H s)(h:CE X.stack X.prog X.w H s Q u s'):EP X pins σ Q u s':=by
 obtain⟨v,H',os,bare,un,hok,r,q⟩:=h;obtain⟨hh,g,d,t,XD⟩:=s';obtain rfl:XD=s.os:=os;exact⟨v,H',I.call (h':=hh) (g':=g) (d':=d) (t':=t) (ch:=[]) un hok bare (λb z=>absurd z (by simp)),r,q⟩
end
def Z6q(sp:Sp)(C0:LV)(E:XK)(t:TA):TE:=λσ H Q=>t σ H λvs H1=>sp (vs++C0) H1 Q E
def Z6n(C:Addr)(m:Str)(sp:Sp)(C0:LV)(E:XK)(ta:TE)(t:TA):TE:=λσ H Q=>ta σ H λx H1=>∃ a dx fs,x=.ref a/\H1 a=some (.ins C dx fs)/\fs.lookup m=none /\
 t σ H1 λvs H2=>sp (x :: (vs++C0)) H2 Q E
def Z9q(C:Addr)(sp:Sp)(C0:LV)(E:XK)(t:TA):TE:=λσ H Q=>t σ H λvs H1=>∀ x dx,H1 x=none->H1 dx=none->dx≠x ->
 sp (.ref x :: (vs++C0)) (upd (upd H1 dx (.own x)) x (.ins C dx [])) (λv H2=>v=.non/\Q (.ref x) H2) E
def Cb(K:Fg)(fd:FuncData)(ps:LS)(ds:LU):Prop :=
 ∀(s:Shared) (us:LU),K.In s.heap->(us++ds).length=ps.length->BindsTo s fd ⟨us,[]⟩ (ps.zip (us++ds))
def Cb.all{K:Fg}{ps:LS}(h:∀ us:LU,us.length=ps.length->bindArgs fd ⟨us,[]⟩=pure (ps.zip us)):Cb K fd ps []:=λs us _ hl=>by
 rw[C5]at hl ⊢;exact .of_eq (h us hl)
def Zg(CX:Vl)(X:Cx)(E:XK):Prop:=∀(pins:PL) (σ:St) (H:Hp) (s:Shared) (e:Value) (s':Shared),Inv X pins σ H s->CX X.stack H s E e s'->X.xe e s'
section
variable {X:Cx}{CX:Vl}{k:Nat}{f C:Addr}{fd:FuncData}{ps:LS}{sp:Sp}{C0:LV}{ds:LU}{E:XK}{x m:Str}{p pos apos:Pos}{e o:Expr}{es:List Expr}{ta:TE}{t:TA}
def qJ{pins:PL}{σ:St}{H:Hp}{s:Shared}{Q:VK}{us:LU}{vs:LV}(F:Uq X.prog X.w X.K X.mg X.base CX k f fd ps sp)(hr:Af k X.A)(hb:Cb X.K fd ps ds)(hd:Ac C0 ds)(hx:Zg CX X E)
  (I:Inv X pins σ H s) (r:Ac vs us) (h:sp (vs++C0) H Q E):wpAny (model X.prog X.w) X.A (call (.ref f) us) (EP X pins σ Q) X.xe s:=by
 have r2:Ac (vs++C0) (us++ds):=r.append hd;have hl:(us++ds).length=ps.length:=by rw[<- r2.length];exact F.len _ _ _ _ h
 refine wpAny_call (codeAny_mono (F.run X.A X.stack s H ⟨us,[]⟩ (us++ds) (vs++C0) Q E hr I.env0 (hb s us I.kIn hl) r2 h) λr s' hq=>?_);cases r with
 | error e=>exact hx pins σ H s e s' I hq
 | ok fl =>
  cases fl with
  | ret u=>exact I.after hq
  | next=>exact False.elim hq
  | brk=>exact False.elim hq
  | cont=>exact False.elim hq
def Z4l(F:Uq X.prog X.w X.K X.mg X.base CX k f fd ps sp)(hr:Af k X.A)(hg:Gl X x)(hm:X.mg x=some (.ref f))(hk:W.keepIn X.K (.ref f)=true)(hb:Cb X.K fd ps ds)(hd:Ac C0 ds)(hx:Zg CX X E)
  (ha:PA X (e :: es) t) (hdb:(x == ("__debug__":Str))=false:=by decide) (he:starEach (e :: es) X.env=(false,eval e X.env):: starEach es X.env:=by rfl) (hpl:(backTo pos (starEach es X.env)).any (·.1)=false:=by rfl):
  PE X (.Call (.Name x p) (e :: es) [] pos) (Z6q sp C0 E t):=by
 ac_rfl;refine wpAny_Call_Name_kw (qO I hg hm ?_ hdb);refine W.callWith_K (h₀:=X.base) I.ok.mod.kin hk (AN (ha pos pins s σ H _ I h) λus s1 ⟨vs,H1,I1,r,q⟩=>⟨I1.kIn,?_⟩) he hpl;exact qJ F hr hb hd hx I1 r q
def T9{pl:Sem Bool}(he:PE X o ta)(c:VI X.K C)(hm:mN X.K C m f)(F:Uq X.prog X.w X.K X.mg X.base CX k f fd ps sp)(hr:Af k X.A)(hb:Cb X.K fd ps ds)(hd:Ac C0 ds)(hx:Zg CX X E)(ha:PA X (e :: es) t)
  (hst:starEach (e :: es) X.env=(false,eval e X.env):: starEach es X.env:=by rfl) (hpl:(backTo pos (starEach es X.env)).any (·.1)=false:=by rfl)
  (ht:eval (.Call (.Attribute o m apos) (e :: es) [] pos) X.env=(do
   let ov <- eval o X.env
   standAt apos.atName
   let(f,first) <- holding [ov] (getMethod ov m pl)
   callWith pos f first (backTo pos (starEach (e :: es) X.env)) (backToKw pos (keywordEach [] X.env))):=by rfl):
  PE X (.Call (.Attribute o m apos) (e :: es) [] pos) (Z6n C m sp C0 E ta t):=by
 ac_rfl;refine W.methodCall_KW (pl:=pl) (AN (he pins s σ H _ I h) λu s1 ⟨x,H1,I1,rx,a,dx,fs,ex,ea,l,q⟩=>?_) ht;subst ex;obtain rfl:u=Value.ref a:=rx;refine Zm1 I1 ea c hm l ?_;refine W.callWith_K (first:=[.ref a]) (h₀:=X.base) I.ok.mod.kin hm.kp (AN (ha pos pins s1 σ H1 _ I1 q) λus s2 ⟨vs,H2,I2,r,q2⟩=>⟨I2.kIn,?_⟩) hst hpl;exact qJ (us:=.ref a :: us) (vs:=.ref a :: vs) F hr hb hd hx I2 (.cons rfl r) q2
def DJ{pl:Sem Bool}(he:PE X o ta)(c:VI X.K C)(hm:mN X.K C m f)(F:Uq X.prog X.w X.K X.mg X.base CX k f fd ps sp)(hr:Af k X.A)(hb:Cb X.K fd ps ds)(hd:Ac C0 ds)(hx:Zg CX X E)
  (ht:eval (.Call (.Attribute o m apos) [] [] pos) X.env=(do
   let ov <- eval o X.env
   standAt apos.atName
   let(f,first) <- holding [ov] (getMethod ov m pl)
   callWith pos f first (backTo pos (starEach [] X.env)) (backToKw pos (keywordEach [] X.env))):=by rfl):
  PE X (.Call (.Attribute o m apos) [] [] pos) (Z6n C m sp C0 E ta mX):=by
 ac_rfl;refine W.methodCall_KW (pl:=pl) (AN (he pins s σ H _ I h) λu s1 ⟨x,H1,I1,rx,a,dx,fs,ex,ea,l,q⟩=>?_) ht;subst ex;obtain rfl:u=Value.ref a:=rx;refine Zm1 I1 ea c hm l ?_;exact W.callWith_K0 (first:=[.ref a]) I1.kIn hm.kp (qJ (us:=[.ref a]) (vs:=[.ref a]) F hr hb hd hx I1 (.cons rfl .nil) q)
structure Mk(K:Fg)(C f:Addr):Prop where
 makes:W.makesIn K C=true
 init:W.findIn K (.ref C) "__init__"=some (some (.ref f))
 fn:W.isFn K (.ref f)=true
 kp:W.keepIn K (.ref C)=true
def Z0p{pins:PL}{σ:St}{H:Hp}{s:Shared}{Q:VK}{us:LU}{vs:LV}(M:Mk X.K C f)(F:Uq X.prog X.w X.K X.mg X.base CX k f fd ps sp)(hr:Af (k + 1) X.A)(hb:Cb X.K fd ps ds)(hd:Ac C0 ds)
  (hx:Zg CX X E) (I:Inv X pins σ H s) (r:Ac vs us)
  (h:∀ x dx,H x=none->H dx=none->dx≠x->sp (.ref x :: (vs++C0)) (upd (upd H dx (.own x)) x (.ins C dx [])) (λv H2=>v=.non/\Q (.ref x) H2) E):
  wpAny (model X.prog X.w) X.A (call (.ref C) us) (EP X pins σ Q) X.xe s:=by
 have hq:=h (s.heap.objs.size + 1) s.heap.objs.size (I.hok.fresh (Nat.le_succ _)) (I.hok.fresh (Yf _)) (Yx (Nat.lt_succ_self _));have I2:=Inv.made (C:=C) I;have r2:Ac (V.ref (s.heap.objs.size + 1):: (vs++C0)) (Value.ref (s.heap.objs.size + 1):: (us++ds)):=.cons rfl (r.append hd);have hl:(Value.ref (s.heap.objs.size + 1):: us++ds).length=ps.length:=by
  have e:=r2.length;rw[F.len _ _ _ _ hq]at e;exact e.symm
 refine wpAny_call (Z1x (f:=f) I.kIn M.makes M.init (beq_iff_eq.mp M.fn) (codeAny_mono (F.run _ X.stack _ _ ⟨Value.ref (s.heap.objs.size + 1):: us,[]⟩ (Value.ref (s.heap.objs.size + 1):: (us++ds)) _ _ E (hr.make C us [])
  (I2.env0.make C us []) (hb _ (Value.ref (s.heap.objs.size + 1):: us) I2.kIn hl) r2 hq) λr s' Vq=>?_))
 cases r with
 | error e=>exact hx pins σ _ _ e s' I2 Vq
 | ok fl =>
  cases fl with
  | ret u =>
   obtain⟨v,H',I3,rv,ev,q3⟩:=I2.after Vq;subst ev;exact⟨rv,⟨V.ref (s.heap.objs.size + 1),H',I3,Y,q3⟩⟩
  | next=>exact False.elim Vq
  | brk=>exact False.elim Vq
  | cont=>exact False.elim Vq
def gA(M:Mk X.K C f)(F:Uq X.prog X.w X.K X.mg X.base CX k f fd ps sp)(hr:Af (k + 1) X.A)(hg:Gl X x)(hm:X.mg x=some (.ref C))(hb:Cb X.K fd ps ds)(hd:Ac C0 ds)(hx:Zg CX X E)
  (ha:PA X (e :: es) t) (hdb:(x == ("__debug__":Str))=false:=by decide) (he:starEach (e :: es) X.env=(false,eval e X.env):: starEach es X.env:=by rfl) (hpl:(backTo pos (starEach es X.env)).any (·.1)=false:=by rfl):
  PE X (.Call (.Name x p) (e :: es) [] pos) (Z9q C sp C0 E t):=by
 ac_rfl;refine wpAny_Call_Name_kw (qO I hg hm ?_ hdb);refine W.callWith_K (h₀:=X.base) I.ok.mod.kin M.kp (AN (ha pos pins s σ H _ I h) λus s1 ⟨vs,H1,I1,r,q⟩=>⟨I1.kIn,?_⟩) he hpl;exact Z0p M F hr hb hd hx I1 r q
end
section
variable {X:Cx}{CX:Vl}{k:Nat}{f C:Addr}{fd:FuncData}{ps ks:LS}{sp:Sp}{E:XK}{x m:Str}{p pos apos kpos:Pos}{e o:Expr}{es:List Expr}{kws:List Keyword}{te ta:TE}{t tk:TA}{nm:Option Str}
structure Ydo(K:Fg)(fd:FuncData)(ps ks:LS)(g:LU->LU->LU)(gV:LV->LV->LV):Prop where
 to:∀(s:Shared) (us ws:LU),K.In s.heap->(g us ws).length=ps.length->BindsTo s fd ⟨us,ks.zip ws⟩ (ps.zip (g us ws))
 rel:∀ {vs:LV} {us:LU} {zs:LV} {ws:LU},Ac vs us->Ac zs ws->Ac (gV vs zs) (g us ws)
variable {g:LU->LU->LU}{gV:LV->LV->LV}
end
structure AX(N P:LS)(sc:Scope):Prop where
 kind:sc.kind=.function
 co:sc.isCoroutine=false
 gen:sc.isGenerator=false
 nd:N.Nodup
 pre:N.take P.length=P
 par:∀ x∈P,sc.names.lookup x=some .local\/sc.names.lookup x=some .cell
 nofree:∀ y∈sc.names,y.2≠.free
theorem yz{kindOf:Str->Option NameKind}{x:Str}:∀ {binds:List (Str×Value)}{m:Str->OU},(∀ v,(x,v)∉binds)->bindL kindOf binds m x=m x
 | [],_,_=>rfl
 | (n,v):: r,m,h=>by
  unfold bindL;rw[yz λw hw=>h w (Yr _ hw)];split
  ·have:x≠n:=by rintro rfl;exact h v Yy
   simp[this]
  ·rfl
theorem yw{kindOf:Str->Option NameKind}{x:Str}:∀ {binds:List (Str×Value)}{m:Str->OU},(∀ v,(x,v)∉binds)->bindC kindOf binds m x=m x
 | [],_,_=>rfl
 | (n,v):: r,m,h=>by
  unfold bindC;rw[yw λw hw=>h w (Yr _ hw)];split
  ·rfl
  ·have:x≠n:=by rintro rfl;exact h v Yy
   simp[this]
theorem yx{kindOf:Str->Option NameKind}{x:Str}{v:Value}:∀ {P:LS}{vs:LU}{i:Nat}{m:Str->OU},P.Nodup->P[i]?=some x->vs[i]?=some v->kindOf x=some .local ->
  bindL kindOf (P.zip vs) m x=some v
 | [],_,_,_,_,h,_,_=>by simp at h
 | _ :: _,[],_,_,_,_,h,_=>by simp at h
 | p :: P,w :: vs,0,m,nd,h1,h2,hk=>by
  simp at h1 h2;subst h1;subst h2;show bindL kindOf ((p,w):: P.zip vs) m p=_;unfold bindL;rw[yz λv hv=>(Cr.mp nd).1 (cc hv).1,if_pos hk];simp
 | p :: P,w :: vs,i + 1,m,nd,h1,h2,hk=>by
  show bindL kindOf ((p,w):: P.zip vs) m x=_;unfold bindL;exact yx (i:=i) (Cr.mp nd).2 (by simpa using h1) (by simpa using h2) hk
theorem yv{kindOf:Str->Option NameKind}{x:Str}{v:Value}:∀ {P:LS}{vs:LU}{i:Nat}{m:Str->OU},P.Nodup->P[i]?=some x->vs[i]?=some v->kindOf x≠some .local ->
  bindC kindOf (P.zip vs) m x=some v
 | [],_,_,_,_,h,_,_=>by simp at h
 | _ :: _,[],_,_,_,_,h,_=>by simp at h
 | p :: P,w :: vs,0,m,nd,h1,h2,hk=>by
  simp at h1 h2;subst h1;subst h2;show bindC kindOf ((p,w):: P.zip vs) m p=_;unfold bindC;rw[yw λv hv=>(Cr.mp nd).1 (cc hv).1,if_neg hk];simp
 | p :: P,w :: vs,i + 1,m,nd,h1,h2,hk=>by
  show bindC kindOf ((p,w):: P.zip vs) m x=_;unfold bindC;exact yv (i:=i) (Cr.mp nd).2 (by simpa using h1) (by simpa using h2) hk
def start(N:LS)(vs:LV):St:=vs.map some++List.replicate (N.length - vs.length) none
def cQ(CX:Vl)(P:Program)(w:World)(K:Fg)(mg:Str->OU)(base:Heap)(N:LS)(qual:Str)(scope:Scope)(f:Addr)(cd:Value)(A:Around)(outer:List Env)(s:Shared)(H:Hp)(E:XK):Cx where
 prog:=P
 w:=w
 K:=K
 mg:=mg
 base:=base
 A:=A.deeper (envOfC qual scope s.heap.objs.size f cd)
 N:=N
 s₀:=s
 H₀:=H
 env:=envOfC qual scope s.heap.objs.size f cd
 outer:=outer
 stack:=envOfC qual scope s.heap.objs.size f cd :: outer
 ex:=[]
 calm:=true
 fn:=λ_=>true
 pn:=[]
 xe:=λe s'=>wpAny (model P w) (A.deeper (envOfC qual scope s.heap.objs.size f cd)) (leaving (envOfC qual scope s.heap.objs.size f cd) e) (λ_ DV=>CX outer H s E e DV) (λe' DV=>CX outer H s E e' DV) s'
def xq{sc:Scope}{n:Nat}{x:Str}(h:sc.names.lookup x=some .cell):∃ c,(cellsFrom n sc.names []).lookup x=some c:=by
 have q:=W.cellsFrom_some sc.names n [] (.inl h);exact sW.mp q
def Zyx{CX:Vl}{P:Program}{w:World}{K:Fg}{mg:Str->OU}{base:Heap}{N ps:LS}{qual:Str}{scope:Scope}{f:Addr}{cd:Value}{A:Around}{outer:List Env}{s s1:Shared}{H:Hp}{E:XK}{us:LU}{vs:LV}
  (S:AX N ps scope) (hd:A.handled=none) (e0:Ud P w K mg base A outer s H) (hl:vs.length=ps.length) (r:Ac vs us)
  (x:InCallC s s.heap.objs.size (bindL (envOfC qual scope s.heap.objs.size f cd).kindOf (ps.zip us) λ_=>none) (cellsFrom (s.heap.objs.size + 1) scope.names []) (bindC (envOfC qual scope s.heap.objs.size f cd).kindOf (ps.zip us) λ_=>none) s1):
  Inv (cQ CX P w K mg base N qual scope f cd A outer s H E) [] (start N vs) H s1:=by
 have hpl:ps.length<=N.length:=by have:=congrArg List.length S.pre;rw[Bg]at this;omega
 obtain⟨h1,tk,rfl,hk⟩:=x.done;have noA:∀ b:Addr,b∉(cQ CX P w K mg base N qual scope f cd A outer s H E).ex:=λb z=>absurd (show b∈([]:List Addr)from z) (by simp);refine⟨⟨e0.mod,S.kind,Y,Y,Yf _,λy z c h1 h2=>?_,λy hy=>?_,λy c _ h=>?_,λ_=>hd,Around.frames_deeper e0.frames,.inr ⟨Y,Y⟩,λb z=>absurd z (noA b),e0.bs,e0.bsz,λb _ _=>noA b,λb z=>absurd z (noA b),e0.funs,e0.frf⟩,
  Y,e0.bare,Un.kept hk,⟨_,x.toInCall.ns,λi y v h1 h2 h3=>?_⟩,λy c h=>⟨_,x.cell y c h⟩,e0.hok.fresh (Yf _),λy c h=>?_,λp hp=>absurd (show p∈([]:PL)from hp) (by simp),e0.hok.kept hk,?_⟩
 ·exact name_of_addr x.apart (Xm h1) (Xm h2)
 ·have hy:scope.names.lookup y=some .cell\/scope.names.lookup y=some .free:=hy
  rcases hy with hy | hy
  ·exact xq hy
  ·exact absurd rfl (S.nofree _ (Xm hy))
 ·exact Nat.le_of_lt (x.above y c (Xm h))
 ·have hi:i<vs.length:=by
   unfold start at h2;by_cases hi:i<vs.length
   ·exact hi
   ·rw[Xl (by simpa using hi)]at h2;rw[List.getElem?_replicate]at h2;split at h2 <;> cases h2
  have ha:vs[i]?=some v:=by
   unfold start at h2;rw[cY (by simpa using hi),Yj]at h2;cases e:vs[i]? with
   | none=>rw[e]at h2;cases h2
   | some a=>rw[e]at h2;cases h2;rfl
  obtain⟨u,hu,rv⟩:=r.get ha;have hp:ps[i]?=some y:=by
   rw[<- S.pre,List.getElem?_take_of_lt (by omega)];exact h1
  have ndP:ps.Nodup:=by rw[<- S.pre];exact S.nd.sublist (List.take_sublist _ _)
  refine⟨u,rv,?_⟩
  rcases S.par y (Yd hp)with k | k
  ·exact .inl ⟨k,yx ndP hp hu k⟩
  ·obtain⟨c,e⟩:=xq (n:=s.heap.objs.size + 1) k;refine .inr ⟨.inl k,c,e,?_⟩;have q:=x.cell y c e;rw[yv ndP hp hu (by show scope.names.lookup y≠_;rw[k];decide)]at q;exact q
 ·exact e0.hok.fresh (Nat.le_of_lt (x.above y c (Xm h)))
 ·unfold start;show _=N.length;rw[Yc,Ya,List.length_replicate];omega
def Ybj{CX:Vl}{P:Program}{w:World}{K:Fg}{mg:Str->OU}{base:Heap}{k:Nat}{f:Addr}{name qual:Str}{params:Arguments}{body:List Stmt}{scope:Scope}{dV kV doc pm A5 ct oc:Value}{an od:Option Addr}
  {osl:Array (OU)} {N ps:LS} {sp:Sp} (lk:K.lookup f=some ⟨oc,od,.func (W.fnOf name qual params body scope dV kV doc pm an A5 ct),osl⟩) (hcd:W.codeIn K A5 qual=true) (S:AX N ps scope)
  (len:∀ vs H Q E,sp vs H Q E->vs.length=ps.length)
  (hbody:∀(A:Around) (outer:List Env) (s:Shared) (H:Hp) (vs:LV) (Q:VK) (E:XK),Af k (A.deeper (envOfC qual scope s.heap.objs.size f A5))->sp vs H Q E ->
   ∃ t,CY (cQ CX P w K mg base N qual scope f A5 A outer s H E) body t/\t {nx:=λ_ H'=>Q .non H',rt:=Q} (start N vs) H):
  Uq P w K mg base CX (k + 1) f (W.fnOf name qual params body scope dV kV doc pm an A5 ct) ps sp:=by
 refine⟨len,λA outer s H args us vs Q E hr e0 hb r hsp=>?_⟩;have hl:=len _ _ _ _ hsp;have KX:K.In s.heap:=e0.mod.kin.keeps λb o e=>(e0.bs b o e).1;have lim:s.heap.NoLimit:=e0.mod.nolimit.keeps λb o e=>(e0.bs b o e).1;have hkind:∀ y∈ps.zip us,scope.names.lookup y.1=some .local\/(scope.names.lookup y.1=some .cell/\((cellsFrom (s.heap.objs.size + 1) scope.names []).lookup y.1).isSome=true):=λ⟨n,v⟩ hy=>by
  rcases S.par n (cc hy).1 with q | q
  ·exact .inl q
  ·exact .inr ⟨q,W.cellsFrom_some _ _ _ (.inl q)⟩
 refine codeAny_call_function hr.depth (KX _ _ lk) rfl S.co S.gen rfl (W.codeRec_of KX hcd) (hb _ _ _ _ ?_);refine wpAny_newFunctionEnv_cells S.kind hkind λenv he s1 x=>?_;subst he;refine⟨lim.keeps x.toInCall.keep,codeAny_func ?_⟩;obtain⟨t,ht,hq⟩:=hbody A outer s H vs Q E (hr.deeper _) hsp;have I:Inv (cQ CX P w K mg base N qual scope f A5 A outer s H E) [] (start N vs) H s1:=Zyx S hr.hd e0 hl r x;refine Jf (ht [] s1 (start N vs) H _ I hq) (λfl s' hs=>?_) λe s' hs=>hs;have fin:∀ {σ':St} {H':Hp} {v:V} {u:Value},Inv (cQ CX P w K mg base N qual scope f A5 A outer s H E) [] σ' H' s'->Ah v u->Q v H'->CE outer P w H s Q u s' :=
  λ{σ' H' v u} J rv q=>⟨v,H',J.os,J.bare,J.base,J.hok,rv,q⟩
 cases fl with
 | ret u =>
  obtain⟨v,σ',H',J,rv,q⟩:=hs;exact fin J rv q
 | next =>
  obtain⟨σ',H',J,q⟩:=hs;exact fin (v:=V.non) (u:=Value.none) J rfl q
 | brk =>
  obtain⟨_,_,_,q⟩:=hs;exact False.elim q
 | cont =>
  obtain⟨_,_,_,q⟩:=hs;exact False.elim q
section
variable {X:Cx}{x:Str}{p pos:Pos}{e:Expr}{es:List Expr}{t:TA}{id T:String}{r:LV->Hp->VK->Prop}
def uc(r:LV->Hp->VK->Prop)(t:TA):TE:=λσ H Q=>t σ H λvs H1=>r vs H1 Q
def Aq(hc:UN X (.builtin id) r)(hg:Gl X x)(hm:X.mg x=none)(hv:bootBuiltins x=some (.builtin id))(ha:PA X (e :: es) t)(hn:x≠"__name__":=by decide)(hdb:(x == ("__debug__":Str))=false:=by decide)
  (he:starEach (e :: es) X.env=(false,eval e X.env):: starEach es X.env:=by rfl) (hpl:(backTo pos (starEach es X.env)).any (·.1)=false:=by rfl):PE X (.Call (.Name x p) (e :: es) [] pos) (uc r t):=by
 ac_rfl;refine wpAny_Call_Name_kw (UP I hg hm hv ?_ hn hdb);exact PyProof.Rows.callWith_builtin1 (AN (ha pos pins s σ H _ I h) λus s1 ⟨vs,H1,I1,r1,q1⟩=>hc pins s1 σ H1 vs us Q I1 r1 q1) he hpl
def Co(hc:UN X (.type T) r)(hg:Gl X x)(hm:X.mg x=none)(hv:bootBuiltins x=some (.type T))(ha:PA X (e :: es) t)(hn:x≠"__name__":=by decide)(hdb:(x == ("__debug__":Str))=false:=by decide)
  (he:starEach (e :: es) X.env=(false,eval e X.env):: starEach es X.env:=by rfl) (hpl:(backTo pos (starEach es X.env)).any (·.1)=false:=by rfl):PE X (.Call (.Name x p) (e :: es) [] pos) (uc r t):=by
 ac_rfl;refine wpAny_Call_Name_kw (UP I hg hm hv ?_ hn hdb);exact Vi (AN (ha pos pins s σ H _ I h) λus s1 ⟨vs,H1,I1,r1,q1⟩=>hc pins s1 σ H1 vs us Q I1 r1 q1) he hpl
end
end L2
namespace HT
open PySem PyProof.Rows
section
open PySem.SeqAt
open PySem.AutoSeq1 (wpAny_loadPart')
open PySem.MeetsSeq PySem.MeetsSeq2 PySem.MeetsSeq3
end
section
variable {prog:Program}{w:World}{A:Around}{E:EV}{s:Shared}
def cat_tup{t b:Addr}{vs ws:LU}{Q:EV}(ht:IsTup s.heap t vs.toArray)(hb:IsTup s.heap b ws.toArray)(hv:vs≠[])
  (h1:ws=[]->Q (.ref t) s) (h2:ws≠[]->Q (.ref s.heap.objs.size) {s with heap:=s.heap.push {cls:=.type "tuple",data:=.seq (vs++ws).toArray} })
  (hsz:vs.length + ws.length<=sizeLine):wpAny (model prog w) A (binaryOp .Add (.ref t) (.ref b)) Q E s:=by
 obtain⟨⟨cls,dd,data,sl⟩,ho,hc,n,hd⟩:=id ht;obtain⟨⟨uT,jj,data2,VN⟩,C8,X1,n2,hd2⟩:=id hb;simp only at hc hd X1 hd2;subst hc hd X1 hd2;have e:vs.toArray++ws.toArray=(vs++ws).toArray:=by simp
 by_cases hw:ws=[]
 ·exact concat_meets ⟨_,ho,Y⟩ ⟨_,C8,Y⟩ noFill_tuple_add seq_tuple_add PySem.F.slot_tuple_add sU (sV _ _)
   (tuple_addW1 t b vs.toArray ws.toArray n n2 dd jj sl VN (by simpa using hv) (by simp[hw])) ⟨ho,C8,h1 hw⟩
 ·refine concat_meets ⟨_,ho,Y⟩ ⟨_,C8,Y⟩ noFill_tuple_add seq_tuple_add PySem.F.slot_tuple_add sU (sV _ _)
   (tuple_addW2 t b vs.toArray ws.toArray n n2 dd jj sl VN (by simpa using hv) (by simpa using hw) (by rw[Yn,Yn];exact hsz)) ⟨ho,C8,?_⟩
  rw[e];exact h2 hw
def sIx(n d:Nat):Option Int->Nat
 | none=>d
 | some v=>if v<0 then(v + (n:Int)).toNat else min v.toNat n
def sIx_none(n d:Nat):sIx n d none=d:=rfl
def sIx_nat(n d k:Nat):sIx n d (some (k:Int))=min k n:=by
 show(if(k:Int)<0 then((k:Int) + (n:Int)).toNat else min (k:Int).toNat n)=min k n;rw[if_neg (by omega),YX]
def Z7a(n d:Nat)(hd:d<=n)(o:Option Int):sIx n d o<=n:=by
 cases o with
 | none=>exact hd
 | some v =>
  show(if v<0 then(v + (n:Int)).toNat else min v.toNat n)<=n;by_cases hv:v<0
  ·rw[if_pos hv];omega
  ·rw[if_neg hv];exact Nat.min_le_right _ _
def wM(v:Int)(n d:Nat):(if v<0 then max (v + (n:Int)) 0 else min v (n:Int))=((sIx n d (some v):Nat):Int):=by
 show(if v<0 then max (v + (n:Int)) 0 else min v (n:Int))=(((if v<0 then(v + (n:Int)).toNat else min v.toNat n):Nat):Int);by_cases hv:v<0
 ·simp only[if_pos hv];omega
 ·simp only[if_neg hv];omega
def Zvl(lo hi:Option Int)(n:Nat):Builtin.Slice.sliceAdjust lo hi 1 (n:Int)=(((sIx n 0 lo:Nat):Int),((sIx n n hi:Nat):Int)):=by
 have h1:¬ ((1:Int)<0):=by omega
 unfold Builtin.Slice.sliceAdjust;simp only[h1,if_false];refine Prod.ext ?_ ?_
 ·cases lo with
  | none=>rfl
  | some v=>exact wM v n 0
 ·cases hi with
  | none=>rfl
  | some v=>exact wM v n n
def Zue(i j:Nat):Builtin.Slice.slicePlaces (i:Int) (j:Int) 1=j - i:=by
 unfold Builtin.Slice.slicePlaces;have h1:(1:Int) > 0:=by omega
 simp only[h1,if_true,Int.ediv_one];split <;> omega
def zy{v:Value}{o:Option Int}{Q:Option Int->Shared->Prop}(p:IsPart v o)(h:Q o s):wpAny (model prog w) A (Builtin.Slice.slicePartIndex v) Q E s:=by
 cases p with
 | none=>exact slicePart_none h
 | int i t=>exact slicePart_int h
def Zg0{sl:Addr}{vl vu:Value}{lo hi:Option Int}{n:Nat}{Q:Int×Int×Nat->Shared->Prop}(hs:s.heap.IsSliceOf sl vl vu .none)(pl:IsPart vl lo)(pu:IsPart vu hi)
  (h:Q (((sIx n 0 lo:Nat):Int),1,sIx n n hi - sIx n 0 lo) s):wpAny (model prog w) A (Builtin.Slice.sliceApplied (.ref sl) (pure (n:Int))) Q E s:=by
 obtain⟨os,hos,hcs,hds⟩:=id hs;unfold Builtin.Slice.sliceApplied Builtin.Slice.sliceFields;refine Ja (Ja (Jg hos hds (x:=vl) rfl (Ja (Jg hos hds (x:=vu) rfl (Ja (Jg hos hds (x:=.none) rfl (Jd ?_)))))));refine Ja (slicePart_none ?_);show wpAny _ _ (if((1:Int) == 0)=true then _ else _) _ _ s;rw[if_neg (by decide)];refine Ja (zy pl (Ja (zy pu (Ja (Jd ?_)))));show wpAny _ _ (match Builtin.Slice.sliceAdjust lo hi 1 (n:Int)with | (lo,hi)=>pure (lo,(1:Int),Builtin.Slice.slicePlaces lo hi 1)) _ _ s;rw[Zvl lo hi n];show wpAny _ _ (pure (((sIx n 0 lo:Nat):Int),(1:Int),Builtin.Slice.slicePlaces ((sIx n 0 lo:Nat):Int) ((sIx n n hi:Nat):Int) 1)) _ _ s;rw[Zue];exact Jd h
def Z0u(xs:Array Value)(i k:Nat):((List.range k).filterMap λ(m:Nat)=>xs[((i:Int) + (m:Int) * 1).toNat]?).toArray=((xs.toList.drop i).take k).toArray:=by
 have e:(λ(m:Nat)=>xs[((i:Int) + (m:Int) * 1).toNat]?)=λm=>xs[i + m]?:=by
  funext m
  have:((i:Int) + (m:Int) * 1).toNat=i + m:=by omega
  rw[this]
 rw[e];have:=pick_run xs i k;rw[List.filterMap_map]at this;have e2:((λx=>xs[x]?) ∘ λx=>i + x)=λm=>xs[i + m]?:=rfl;rw[e2]at this;rw[this]
def getItem_tuple_cut{t sl:Addr}{items:Array Value}{vl vu:Value}{lo hi:Option Int}{Q:EV}(ht:IsTup s.heap t items)(hs:s.heap.IsSliceOf sl vl vu .none)(pl:IsPart vl lo)(pu:IsPart vu hi)
  (hw:¬ (sIx items.size 0 lo=0/\sIx items.size items.size hi=items.size))
  (h:Q (.ref s.heap.objs.size) {s with heap:=s.heap.push {cls:=.type "tuple",data:=.seq ((items.toList.drop (sIx items.size 0 lo)).take (sIx items.size items.size hi - sIx items.size 0 lo)).toArray} })
  (hsz:items.size<=sizeLine):wpAny (model prog w) A (getItem (.ref t) (.ref sl)) Q E s:=by
 have htake:sizeOk (.seq ((items.toList.drop (sIx items.size 0 lo)).take (sIx items.size items.size hi - sIx items.size 0 lo)).toArray):=by
  show((items.toList.drop (sIx items.size 0 lo)).take (sIx items.size items.size hi - sIx items.size 0 lo)).toArray.size<=sizeLine;rw[Yn,Bg,W5,Y0];omega
 have hj:sIx items.size items.size hi<=items.size:=Z7a _ _ (Yf _) hi;obtain⟨os,hos,hcs,hds⟩:=id hs;have hTs:s.TypeIs (.ref sl) "slice":=⟨os,hos,hcs⟩;unfold getItem
 try with_reducible refine Jj ?_
 first | refine Ja (Jd ?_) | skip
 refine Ja (wpAny_sequenceKey ht.typeIs (by decide) ?_);refine Ja (wpAny_callSpecial?_slot (name:=Str.ofString "__getitem__") ht.typeIs cW
  (wpAny_call_entry cW ht.typeIs entry_tuple_getitem ?_ (args_tuple_getitem _ _)))
 show wpAny _ _ (Builtin.Tuple.tupleItemsOf (.ref t)>>=_) _ _ s;refine Ja (tupleItemsOf_ ht ?_);refine Ja (wpAny_typeOf hTs ?_);rw[if_pos (by decide)];refine Ja (Zg0 hs pl pu ?_);have hno:¬ ((((sIx items.size 0 lo:Nat):Int) == 0&&(1:Int) == 1&&(sIx items.size items.size hi - sIx items.size 0 lo) == items.size)=true):=by
  intro q;rw[B1,B1]at q;have q1:((sIx items.size 0 lo:Nat):Int)=0:=eq_of_beq q.1.1;have q2:sIx items.size items.size hi - sIx items.size 0 lo=items.size:=eq_of_beq q.2;exact hw ⟨W,W⟩
 show wpAny _ _ (if(((sIx items.size 0 lo:Nat):Int) == 0&&(1:Int) == 1&&(sIx items.size items.size hi - sIx items.size 0 lo) == items.size)=true then _ else _) _ _ s;rw[if_neg hno,Z0u]
 first
  | exact Ja (m:=Builtin.Tuple.tupleExact _) (wpAny_newObj_type (Jd ⟨_,rfl,Jd h⟩) htake)
  | exact Ja (m:=Builtin.Tuple.tupleExact _) (wpAny_newObj_type (Ja (Jd (Jd ⟨_,rfl,Jd h⟩))) htake)
  | exact Ja (Ja (m:=Builtin.Tuple.tupleExact _) (wpAny_newObj_type (Jd (Jd ⟨_,rfl,Jd h⟩)) htake))
  | exact Ja (Ja (m:=Builtin.Tuple.tupleExact _) (wpAny_newObj_type (Jd ⟨_,rfl,Jd h⟩) htake))
end
end HT
namespace L2
open PySem PySem.Spec PyProof.Rows
abbrev TO:=St->Hp->(Option Int->Hp->Prop)->Prop
def PO(X:Cx)(e:Option Expr)(t:TO):Prop :=
 ∀(pins:PL) (s:Shared) (σ:St) (H:Hp) (Q:Option Int->Hp->Prop),Inv X pins σ H s->t σ H Q ->
  wpAny (model X.prog X.w) X.A (evalPart e X.env) (λu s'=>∃ o H',Inv X pins σ H' s'/\IsPart u o/\Q o H') X.xe s
def XT:TO:=λ_ H Q=>Q none H
def Z9l(t:TE):TO:=λσ H Q=>t σ H λx H1=>∃ i,x=.int i/\Q (some i) H1
section
variable {X:Cx}{e:Expr}{te:TE}{lo hi:Option Expr}{tl th:TO}{pos p2:Pos}
def T_:PO X none XT:=by
 ac_rfl;rw[evalPart_none];exact Jd ⟨none,H,I,.none,h⟩
def Ce(h:PE X e te):PO X (some e) (Z9l te):=by
 intro pins s σ H Q I hw;rw[evalPart_some];refine AN (h pins s σ H _ I hw) λu s1 ⟨x,H1,I1,r1,q1⟩=>?_;obtain⟨i,rfl,q⟩:=q1;obtain⟨t,rfl⟩:=r1;exact⟨some i,H1,I1,.int i t,q⟩
def iB(X:Cx)(r:V->Option Int->Option Int->Hp->VK->Prop):Prop :=
 ∀(pins:PL) (s:Shared) (σ:St) (H:Hp) (x:V) (v vl vu:Value) (lo hi:Option Int) (sl:Addr) (Q:VK),Inv X pins σ H s->Ah x v->s.heap.IsSliceOf sl vl vu .none->IsPart vl lo->IsPart vu hi->r x lo hi H Q ->
  ∃ T id,typeLookup (.type T) "__getitem__"=pure (some (.builtin id))/\s.TypeIs v T/\wpAny (model X.prog X.w) X.A (getItem v (.ref sl)) (EP X pins σ Q) X.xe s
def tSl(r:V->Option Int->Option Int->Hp->VK->Prop)(te:TE)(tl th:TO):TE:=λσ H Q=>te σ H λx H1=>tl σ H1 λl H2=>th σ H2 λu H3=>r x l u H3 Q
def Dg{r:V->Option Int->Option Int->Hp->VK->Prop}(hr:iB X r)(he:PE X e te)(hl:PO X lo tl)(hu:PO X hi th):PE X (.Subscript e (.Slice lo hi none p2) pos) (tSl r te tl th):=by
 ac_rfl;refine Subscript_ (AN (he pins s σ H _ I h) λv s1 ⟨x,H1,I1,r1,q1⟩=>?_);refine wpAny_Slice (AN (hl pins s1 σ H1 _ I1 q1) λvl s2 ⟨l,H2,I2,pl,q2⟩=>AN (hu pins s2 σ H2 _ I2 q2) λvu s3 ⟨u,H3,I3,pu,q3⟩=>?_);rw[evalPart_none];refine Jd ?_;have I4:Inv X pins σ H3 {s3 with heap:=s3.heap.push {cls:=.type "slice",data:=.fields #[vl,vu,.none] } }:=I3.kept (t':=s3.toks) λb ob q=>Ye _ q;obtain⟨T,id,hT,ht,hg⟩:=hr pins {s3 with heap:=s3.heap.push {cls:=.type "slice",data:=.fields #[vl,vu,.none] } } σ H3 x v vl vu l u s3.heap.objs.size Q I4 r1 (Heap.IsSliceOf.new ..) pl pu q3;show wpAny (model X.prog X.w) X.A (subscriptTail e (.Slice lo hi none p2) v (.ref s3.heap.objs.size)) (EP X pins σ Q) X.xe {s3 with heap:=s3.heap.push {cls:=.type "slice",data:=.fields #[vl,vu,.none] } };exact tail_any (ops:=[.ref s3.heap.objs.size,v]) ht hT hg (by with_unfolding_all rfl)
def B7(xs:LV)(lo hi:Option Int):LV:=(xs.drop (HT.sIx xs.length 0 lo)).take (HT.sIx xs.length xs.length hi - HT.sIx xs.length 0 lo)
def Zlv(xs:LV)(lo hi:Option Int):(B7 xs lo hi).length<=xs.length:=by
 unfold B7;rw[Bg,W5];omega
def Yeq(K:Fg):V->Option Int->Option Int->Hp->VK->Prop:=λx lo hi H Q=>∃ a xs,x=.ref a/\AH K H a xs /\
 ¬ (HT.sIx xs.length 0 lo=0/\HT.sIx xs.length xs.length hi=xs.length)/\∀ p,H p=none->Q (.ref p) (upd H p (.tup (B7 xs lo hi)))
def Z61:iB X (Yeq X.K):=by
 intro pins s σ H x v vl vu lo hi sl Q I rx hs pl pu h;obtain⟨a,xs,rfl,hx,hw,q⟩:=h;cases rx;obtain⟨its,r,ht,hz⟩:=I.tuple hx;have hlen:its.toArray.size=xs.length:=by rw[Yn];exact r.length.symm
 refine⟨"tuple",_,cW.lookup,ht.typeIs,?_⟩;refine HT.getItem_tuple_cut ht hs pl pu (by rw[hlen];exact hw) ?_ (by rw[hlen];exact hz);rw[hlen];refine⟨.ref s.heap.objs.size,_,I.laid (t':=s.toks) (o:=.tup (B7 xs lo hi)) (λb ob q=>Ye _ q) (Yf _) ?_,Y,q _ (I.hok.fresh (Yf _))⟩;exact⟨B0 (Zlv xs lo hi) hz,_,(r.drop (HT.sIx xs.length 0 lo)).take (HT.sIx xs.length xs.length hi - HT.sIx xs.length 0 lo),IsTup.new _ _⟩
def Yaj(K:Fg):R2:=λx y H Q=>∃ a b xs ys,x=.ref a/\y=.ref b/\AH K H a xs/\AH K H b ys/\xs≠[]/\xs.length + ys.length<=sizeLine /\
 (ys=[]->Q (.ref a) H)/\(ys≠[]->∀ p,H p=none->Q (.ref p) (upd H p (.tup (xs++ys))))
def Ac.nil_iff{xs:LV}{us:LU}(r:Ac xs us):us=[]↔xs=[]:=by
 cases r with
 | nil=>simp
 | cons _ _=>simp
def Z4m:BO X (binaryOp .Add) (Yaj X.K):=by
 exfalso;obtain⟨a,b,xs,ys,rfl,rfl,ha,hb,hx,hz,q1,q2⟩:=h;cases rx;cases ry;obtain⟨its,r1,p1,_⟩:=I.tuple ha;obtain⟨Bv,r2,p2,_⟩:=I.tuple hb;refine HT.cat_tup p1 p2 (λz=>hx (r1.nil_iff.mp z)) (λz=>⟨.ref a,H,I,Y,q1 (r2.nil_iff.mp z)⟩) (λz=>?_) (by rw[<- r1.length,<- r2.length];exact hz);refine⟨.ref s.heap.objs.size,_,I.laid (t':=s.toks) (o:=.tup (xs++ys)) (λb ob q=>Ye _ q) (Yf _) ?_,Y,q2 (λw=>z (r2.nil_iff.mpr w)) _ (I.hok.fresh (Yf _))⟩;exact⟨by rw[Yc];exact hz,_,r1.append r2,IsTup.new _ _⟩
end
def Vo(n:Nat)(i:Int):Option Nat:=if 0<=i then(if i<n then some i.toNat else none)else if -(n:Int)<=i then some (i + n).toNat else none
def BZ{α:Type}(xs:List α)(i:Int):Option α:=(Vo xs.length i).bind λj=>xs[j]?
def we{n:Nat}{i:Int}{j:Nat}(h:Vo n i=some j):seqIndex? i n=some j/\j<n/\-(n:Int)<=i/\i<n:=by
 unfold Vo at h;by_cases h0:0<=i
 ·rw[if_pos h0]at h;by_cases h1:i<n
  ·rw[if_pos h1]at h;have e:i.toNat=j:=Ym h;exact⟨by rw[seqIndex_of h0 h1,e],W,W,h1⟩
  ·rw[if_neg h1]at h;cases h
 ·rw[if_neg h0]at h;by_cases h1:-(n:Int)<=i
  ·rw[if_pos h1]at h;have e:(i + n).toNat=j:=Ym h;exact⟨by rw[seqIndex_neg (by omega) h1,e],W,h1,W⟩
  ·rw[if_neg h1]at h;cases h
def qZ{α:Type}{xs:List α}{i:Int}{v:α}(h:BZ xs i=some v):∃ j,seqIndex? i xs.length=some j/\xs[j]?=some v/\j<xs.length/\-(xs.length:Int)<=i/\i<xs.length:=by
 unfold BZ at h;cases e:Vo xs.length i with
 | none=>rw[e]at h;cases h
 | some j =>
  rw[e]at h;obtain⟨h1,h2,h3,h4⟩:=we e;exact⟨j,h1,h,h2,h3,h4⟩
def Bb{α:Type}{xs:List α}{j:Nat}{v:α}(h:xs[j]?=some v):BZ xs (j:Int)=some v:=by
 have hj:j<xs.length:=(Yi.mp h).1;have e:Vo xs.length (j:Int)=some j:=by
  unfold Vo;rw[if_pos (by omega),if_pos (by omega)];simp
 unfold BZ;rw[e];exact h
def Z2m{α:Type}(xs:List α)(v:α):BZ (xs++[v]) (-1)=some v:=by
 have hl:(xs++[v]).length=xs.length + 1:=by simp
 have e:Vo (xs++[v]).length (-1)=some xs.length:=by
  unfold Vo;rw[hl,if_neg (by decide),if_pos (by omega)]
  congr 1
  omega
 unfold BZ;rw[e];show(xs++[v])[xs.length]?=some v;simp
def Z56(b:Expr):Prop:=∀ o i,subscripted b false o i=operate [o,i] (getItem o i)
def Xo(X:Cx)(r:R2):Prop :=
 ∀(value slice:Expr) (pins:PL) (s:Shared) (σ:St) (H:Hp) (x y:V) (v u:Value) (Q:VK),Inv X pins σ H s->Ah x v->Ah y u->r x y H Q ->
  subscripted slice false v u=operate [v,u] (getItem v u)->wpAny (model X.prog X.w) X.A (subscriptTail value slice v u) (EP X pins σ Q) X.xe s
def MtR(X:Cx)(id:String)(r:V->LV->Hp->VK->Prop):Prop :=
 ∀(pins:PL) (s:Shared) (σ:St) (H:Hp) (x:V) (xs:LV) (v:Value) (us:LU) (Q:VK),Inv X pins σ H s->Ah x v->Ac xs us->r x xs H Q ->
  wpAny (model X.prog X.w) X.A (call (.builtin id) (v :: us)) (EP X pins σ Q) X.xe s
section
variable {X:Cx}{a b:Expr}{ta tb:TE}{pos:Pos}
def Xo.or{r r':R2}(h:Xo X r)(h':Xo X r'):Xo X (λx y H Q=>r x y H Q\/r' x y H Q):=by
 intro value slice pins s σ H x y v u Q I rx ry q hs
 rcases q with q | q
 ·exact h value slice pins s σ H x y v u Q I rx ry q hs
 ·exact h' value slice pins s σ H x y v u Q I rx ry q hs
def AV{r:R2}(hr:Xo X r)(ha:PE X a ta)(hb:PE X b tb)(hs:Z56 b):PE X (.Subscript a b pos) (jL r ta tb):=by
 ac_rfl;exact Subscript_ (sk ha hb I h λv u s2 x y H2 I2 rx ry q=>hr a b pins s2 σ H2 x y v u Q I2 rx ry q (hs _ _))
def Bl(K:Fg):R2:=λx y H Q=>∃ p xs i v,x=.ref p/\y=.int i/\SqL K H p xs/\BZ xs i=some v/\Q v H
def BQ(K:Fg):R2:=λx y H Q=>∃ p xs i v,x=.ref p/\y=.int i/\AH K H p xs/\BZ xs i=some v/\Q v H
def cS:R2:=λx y H Q=>∃ z i c,x=.str z/\y=.int i/\z.length<=sizeLine/\BZ z.cps.toList i=some c/\Q (.str ⟨#[c]⟩) H
def A2:Xo X (Bl X.K):=by
 intro value slice pins s σ H x y v u Q I rx ry h hs;obtain⟨p,xs,i,z,rfl,rfl,hq,he,q⟩:=h;cases rx;obtain⟨t,rfl⟩:=ry;obtain⟨its,r,pl,hz⟩:=I.list hq;obtain⟨j,h1,h2,h3,h4,h5⟩:=qZ he;obtain⟨w,ew,Cw⟩:=r.get h2;have hl:=r.length;have hn:=Zf;have fin:EP X pins σ Q w s:=⟨z,H,I,Cw,q⟩;by_cases h0:0<=i
 ·have hj:i.toNat=j:=by
   rw[seqIndex_of h0 h5]at h1;exact Ym h1
  exact item_listR pl.isList h0 (by omega) (by rw[hj];simpa using ew) fin hs
 ·have hj:(i + (its.toArray.size:Int)).toNat=j:=by
   rw[seqIndex_neg (by omega) h4]at h1;rw[Yn,<- hl];exact Ym h1
  exact subscriptTail_builtinR (x:=w) pl.isList.typeIs slot_list_getitem.lookup
   (wpAny_getItem_list_neg (Q:=λr s'=>r=w/\EP X pins σ Q r s') pl.isList (by omega) (by rw[Yn] <;> omega) (by omega) (by rw[hj];simpa using ew) ⟨Y,fin⟩) hs
def BW:Xo X (BQ X.K):=by
 intro value slice pins s σ H x y v u Q I rx ry h hs;obtain⟨p,xs,i,z,rfl,rfl,hq,he,q⟩:=h;cases rx;obtain⟨t,rfl⟩:=ry;obtain⟨its,r,pl,hz⟩:=I.tuple hq;obtain⟨j,h1,h2,h3,h4,h5⟩:=qZ he;obtain⟨w,ew,Cw⟩:=r.get h2;have hl:=r.length;have hn:=Zf;have fin:EP X pins σ Q w s:=⟨z,H,I,Cw,q⟩;exact subscriptTail_builtinR (x:=w) pl.typeIs slot_tuple_getitem.lookup
  (getItem_tuple (j:=j) (Q:=λr s'=>r=w/\EP X pins σ Q r s') pl (by omega) (by omega) (by rw[Yn,<- hl];exact h1) (by simpa using ew) ⟨Y,fin⟩) hs
def bT:Xo X cS:=by
 intro value slice pins s σ H x y v u Q I rx ry h hs;obtain⟨z,i,c,rfl,rfl,hz,he,q⟩:=h;obtain⟨t,rfl⟩:=rx;obtain⟨t',rfl⟩:=ry;obtain⟨j,h1,h2,h3,h4,h5⟩:=qZ he;have hl:z.cps.toList.length=z.length:=by simp[Str.length]
 rw[hl]at h1 h4 h5;have hn:=Zf;exact tail_any (typeIs_str s z t) slot_str_getitem.lookup (getItem_str (c:=c) (by
  have e1:decide (i < -(2 ^ 63:Int))=false:=Jc (by omega);have e2:decide (i ≥ 2 ^ 63)=false:=Jc (by omega);rw[e1,e2,Bool.or_false]) (by rw[h1];simpa using h2) ⟨.str ⟨#[c]⟩,H,I.tok _,⟨Z⟩,q⟩) hs
def oI(K:Fg):R2:=λx y H Q=>Bl K x y H Q\/BQ K x y H Q\/cS x y H Q
def Z3j:Xo X (oI X.K):=A2.or (BW.or bT)
def Zuy(its:LU)(n j:Nat)(u:Value):Obj.mapSeq (·.setIfInBounds j u) {cls:=.type "list",data:=.seq its.toArray n}={cls:=.type "list",data:=.seq (its.set j u).toArray n}:=by
 simp[Obj.mapSeq]
theorem Inv.lst{pins:PL}{σ:St}{H:Hp}{s:Shared}{p:Addr}{xs:LV}(I:Inv X pins σ H s)(h:H p=some (.lst xs)):
  ∃(its:LU) (n:Nat),Ac xs its/\s.heap.get? p=some {cls:=.type "list",data:=.seq its.toArray n}/\xs.length<=sizeLine:=by
 obtain⟨z,its,n,r,e⟩:=I.hok p _ h;exact⟨its,n,r,e,z⟩
def Inv.lstUpd{pins:PL}{σ:St}{H:Hp}{s:Shared}{p:Addr}{xs ys:LV}{its its':LU}{n n':Nat}{f:Obj->Obj}(I:Inv X pins σ H s)(h:H p=some (.lst xs))
  (ho:s.heap.get? p=some {cls:=.type "list",data:=.seq its.toArray n}) (hf:f {cls:=.type "list",data:=.seq its.toArray n}={cls:=.type "list",data:=.seq its'.toArray n' }) (r:Ac ys its') (hz:ys.length<=sizeLine) (t:Nat):
  Inv X pins σ (upd H p (.lst ys)) {s with heap:=s.heap.update p f,toks:=t}:=by
 have e:(s.heap.update p f).get? p=some {cls:=.type "list",data:=.seq its'.toArray n' }:=by
  rw[g6 f ho (by rw[hf] <;> rfl),hf]
 refine I.write (x:=p) (e:=p) (by rw[h];trivial) (.inl rfl) (λb u hb q=>(hJ _ _ (Ae hb)).trans q) ⟨_,e⟩ ?_;exact⟨hz,its',n',r,e⟩
def Yaf:V->V->V->Hp->(Hp->Prop)->Prop:=λo i v H Q=>∃ p xs k j,o=.ref p/\i=.int k/\H p=some (.lst xs)/\Vo xs.length k=some j/\Q (upd H p (.lst (xs.set j v)))
def yT:Ydl X Yaf:=by
 intro pins s σ H o i v ov iv u Q I ro ri rv h;obtain⟨p,xs,k,j,rfl,rfl,hp,hj,q⟩:=h;cases ro;obtain⟨t,rfl⟩:=ri;obtain⟨its,n,r,ho,hz⟩:=I.lst hp;obtain⟨h1,h2,h3,h4⟩:=we hj;have hl:=r.length;have hn:=Zf;have I':Inv X pins σ (upd H p (.lst (xs.set j v))) {s with heap:=s.heap.update p (Obj.mapSeq (·.setIfInBounds j u)) } :=
  I.lstUpd hp ho (Zuy its n j u) (r.set rv j) (by rw[gy];exact hz) s.toks
 by_cases h0:0<=k
 ·have hk:k.toNat=j:=by
   rw[seqIndex_of h0 h4]at h1;exact Ym h1
  exact W.ki_setAt ho h0 (by omega) (by rw[Yn,<- hl];exact h4) (by rw[hk];exact⟨_,I',q⟩)
 ·have hk:(k + (its.toArray.size:Int)).toNat=j:=by
   rw[seqIndex_neg (by omega) h3]at h1;rw[Yn,<- hl];exact Ym h1
  exact W.ki_setBack ho (by omega) (by rw[Yn,<- hl];exact h3) (by omega) (by rw[hk];exact⟨_,I',q⟩)
def Zpb(lo hi:Option Int)(n:Nat):(sliceBounds lo hi none n).1=((HT.sIx n 0 lo:Nat):Int)/\(sliceBounds lo hi none n).2.1=((HT.sIx n n hi:Nat):Int)/\(sliceBounds lo hi none n).2.2=1:=by
 refine⟨?_,?_,Y⟩
 ·cases lo with
  | none=>simp[sliceBounds,HT.sIx]
  | some i =>
   simp only[sliceBounds,HT.sIx,Option.getD_none,show(1:Int) > 0 by decide,if_true];by_cases h:i<0
   ·simp only[h,if_true] <;> omega
   ·simp only[h,if_false] <;> omega
 ·cases hi with
  | none=>simp[sliceBounds,HT.sIx]
  | some i =>
   simp only[sliceBounds,HT.sIx,Option.getD_none,show(1:Int) > 0 by decide,if_true];by_cases h:i<0
   ·simp only[h,if_true] <;> omega
   ·simp only[h,if_false] <;> omega
def Znl(its:LU)(lo hi:Option Int):slicePick its.toArray lo hi none=((its.drop (HT.sIx its.length 0 lo)).take (HT.sIx its.length its.length hi - HT.sIx its.length 0 lo)).toArray:=by
 obtain⟨h1,h2,h3⟩:=Zpb lo hi its.toArray.size;unfold slicePick;rw[h1,h2,h3];simp only[sliceRange_one,pick_run,Yn] <;> rfl
def cT(K:Fg):V->Option Int->Option Int->Hp->VK->Prop:=λx lo hi H Q=>∃ a xs,x=.ref a/\SqL K H a xs/\∀ p,H p=none->Q (.ref p) (upd H p (.lst (B7 xs lo hi)))
def bc:iB X (cT X.K):=by
 intro pins s σ H x v vl vu lo hi sl Q I rx hs pl pu h;obtain⟨a,xs,rfl,hx,q⟩:=h;cases rx;obtain⟨its,r,ht,hz⟩:=I.list hx;have hlen:=r.length;refine⟨"list",_,slot_list_getitem.lookup,ht.isList.typeIs,?_⟩;refine wpAny_getItem_list_slice ht.isList hs pl pu .none (by simp) ?_ (by rw[Yn] <;> omega);rw[Znl,<- hlen];refine⟨.ref s.heap.objs.size,_,I.laid (t':=s.toks) (o:=.lst (B7 xs lo hi)) (λb ob q=>Ye _ q) (Yf _) ?_,Y,q _ (I.hok.fresh (Yf _))⟩;exact⟨B0 (Zlv xs lo hi) hz,_,0,(r.drop (HT.sIx xs.length 0 lo)).take (HT.sIx xs.length xs.length hi - HT.sIx xs.length 0 lo),Yp _ rfl⟩
def XI:V->Bool
 | .non=>true
 | .bl _=>true
 | .int _=>true
 | .str _=>true
 | _=>false
def XH:V->V->Bool
 | .non,.non=>true
 | .bl a,.bl b=>a == b
 | .bl a,.int b=>(if a then 1 else 0) == b
 | .int a,.bl b=>a == (if b then 1 else 0)
 | .int a,.int b=>a == b
 | .str a,.str b=>a == b
 | _,_=>false
def Z8x{A:Around}{s:Shared}{y x:V}{u v:Value}(ry:Ah y u)(rx:Ah x v)(fy:XI y=true)(fx:XI x=true):SeqAt.EqAt A s u v (XH y x):=by
 cases y with
 | non =>
  cases ry;cases x with
  | non=>cases rx;exact SeqAt.EqAt.same _
  | bl b=>cases rx;exact SeqAt.EqAt.none_bool b
  | int b=>obtain⟨t,rfl⟩:=rx;exact SeqAt.EqAt.none_int b t
  | str b=>obtain⟨t,rfl⟩:=rx;exact SeqAt.EqAt.none_str b t
  | _=>exact absurd (show false=true from fx) Yq
 | bl a =>
  cases ry;cases x with
  | non=>cases rx;exact SeqAt.EqAt.bool_none a
  | bl b=>cases rx;exact SeqAt.EqAt.bool_bool a b
  | int b=>obtain⟨t,rfl⟩:=rx;exact SeqAt.EqAt.bool_int a b t
  | str b=>obtain⟨t,rfl⟩:=rx;exact SeqAt.EqAt.bool_str a b t
  | _=>exact absurd (show false=true from fx) Yq
 | int a =>
  obtain⟨t',rfl⟩:=ry;cases x with
  | non=>cases rx;exact SeqAt.EqAt.int_none a t'
  | bl b=>cases rx;exact SeqAt.EqAt.int_bool a t' b
  | int b=>obtain⟨t,rfl⟩:=rx;exact SeqAt.EqAt.int_int a t' b t
  | str b=>obtain⟨t,rfl⟩:=rx;exact SeqAt.EqAt.int_str a t' b t
  | _=>exact absurd (show false=true from fx) Yq
 | str a =>
  obtain⟨t',rfl⟩:=ry;cases x with
  | non=>cases rx;exact SeqAt.EqAt.str_none a t'
  | bl b=>cases rx;exact SeqAt.EqAt.str_bool a t' b
  | int b=>obtain⟨t,rfl⟩:=rx;exact SeqAt.EqAt.str_int a t' b t
  | str b=>obtain⟨t,rfl⟩:=rx;exact SeqAt.EqAt.str_str a t' b t
  | _=>exact absurd (show false=true from fx) Yq
 | _=>exact absurd (show false=true from fy) Yq
def UL(x:V)(u:Value):Bool:=match u with
 | .none=>XH .non x
 | .bool b=>XH (.bl b) x
 | .int i _=>XH (.int i) x
 | .str z _=>XH (.str z) x
 | _=>false
def Z3p{x y:V}{u:Value}(r:Ah y u)(f:XI y=true):UL x u=XH y x:=by
 cases y with
 | non=>cases r;rfl
 | bl b=>cases r;rfl
 | int i=>obtain⟨t,rfl⟩:=r;rfl
 | str z=>obtain⟨t,rfl⟩:=r;rfl
 | _=>exact absurd (show false=true from f) Yq
theorem f9{x:V}:∀ {xs:LV}{us:LU},Ac xs us->xs.all XI=true->us.any (UL x)=xs.any λy=>XH y x
 | _,_,.nil,_=>rfl
 | y :: xs,u :: us,.cons r t,f=>by
  rw[V4,B1]at f;rw[YW,YW,Z3p r f.1,f9 t f.2]
theorem gF{A:Around}{s:Shared}{x:V}{v:Value}(rx:Ah x v)(fx:XI x=true):∀ {xs:LV}{us:LU},Ac xs us->xs.all XI=true->∀ u∈us,SeqAt.EqAt A s u v (UL x u)
 | _,_,.nil,_=>λu hu=>by cases hu
 | y :: xs,u :: us,.cons r t,f=>λu' hu=>by
  rw[V4,B1]at f
  rcases Yv.mp hu with rfl | hu
  ·rw[Z3p r f.1];exact Z8x r rx f.1 fx
  ·exact gF rx fx t f.2 u' hu
def Ug(x:V)(xs:LV):Bool:=xs.any λy=>XH y x
def dG(K:Fg)(neg:Bool):R2:=λx y H Q=>∃ p xs,y=.ref p/\(SqL K H p xs\/AH K H p xs)/\XI x=true/\xs.all XI=true/\Q (.bl (if neg then !Ug x xs else Ug x xs)) H
def gO:BO X (compareOp .In) (dG X.K false):=by
 exfalso;obtain⟨p,xs,rfl,hq,fx,fs,q⟩:=h;cases ry
 rcases hq with hq | hq
 ·obtain⟨its,r,pl,hz⟩:=I.list hq;refine SeqAt.in_listAt (UL x) pl.isList (λw hw=>gF rx fx r fs w (by simpa using hw)) ⟨.bl _,H,I,Y,?_⟩;rw[show its.toArray.any (UL x)=its.any (UL x) by simp,f9 r fs];exact q
 ·obtain⟨its,r,pl,hz⟩:=I.tuple hq;refine SeqAt.in_tupleAt (UL x) pl (λw hw=>gF rx fx r fs w (by simpa using hw)) ⟨.bl _,H,I,Y,?_⟩;rw[show its.toArray.any (UL x)=its.any (UL x) by simp,f9 r fs];exact q
def Zkd:BO X (compareOp .NotIn) (dG X.K true):=by
 exfalso;obtain⟨p,xs,rfl,hq,fx,fs,q⟩:=h;cases ry
 rcases hq with hq | hq
 ·obtain⟨its,r,pl,hz⟩:=I.list hq;refine SeqAt.notIn_listAt (UL x) pl.isList (λw hw=>gF rx fx r fs w (by simpa using hw)) ⟨.bl _,H,I,Y,?_⟩;rw[show its.toArray.any (UL x)=its.any (UL x) by simp,f9 r fs];exact q
 ·obtain⟨its,r,pl,hz⟩:=I.tuple hq;refine SeqAt.notIn_tupleAt (UL x) pl (λw hw=>gF rx fx r fs w (by simpa using hw)) ⟨.bl _,H,I,Y,?_⟩;rw[show its.toArray.any (UL x)=its.any (UL x) by simp,f9 r fs];exact q
def Cn:UN X (.builtin "len") (λxs H Q=>∃ p ys,xs=[.ref p]/\(SqL X.K H p ys\/AH X.K H p ys)/\Q (.int ys.length) H):=by
 intro pins s σ H xs us Q I r h;obtain⟨p,ys,rfl,hq,q⟩:=h;obtain⟨u,rfl,rx⟩:=U7 r;cases rx;have hn:=Zf
 rcases hq with hq | hq
 ·obtain⟨its,r',pl,hz⟩:=I.list hq;have hlen:=r'.length;exact Calls.call_len_list pl.isList (by simp only[Yn] <;> omega) ⟨.int ys.length,H,I.tok _,⟨s.toks + 1,by rw[Yn,hlen]⟩,q⟩
 ·obtain⟨its,r',pl,hz⟩:=I.tuple hq;have hlen:=r'.length;exact len_tuple pl (by simp only[Yn] <;> omega) ⟨.int ys.length,H,I.tok _,⟨s.toks + 1,by rw[Yn,hlen]⟩,q⟩
def cB:UN X (.type "list") (λxs H Q=>∃ p ys,xs=[.ref p]/\(SqL X.K H p ys\/AH X.K H p ys)/\∀ l,H l=none->Q (.ref l) (upd H l (.lst ys))):=by
 intro pins s σ H xs us Q I r h;obtain⟨p,ys,rfl,hq,q⟩:=h;obtain⟨u,rfl,rx⟩:=U7 r;cases rx;have fin:∀(its:LU),Ac ys its->ys.length<=sizeLine->∀(h':Heap) (c':Nat),(∀ b o',s.heap.get? b=some o'->h'.get? b=some o') ->
   h'.get? s.heap.objs.size=some {cls:=.type "list",dict:=none,data:=.seq its.toArray c',slots:=#[] }->EP X pins σ Q (.ref s.heap.objs.size) {s with heap:=h' }:=λits r' hz h' c' kp e =>
  ⟨.ref s.heap.objs.size,_,I.laid (t':=s.toks) kp (Yf _) (show BU X.prog X.w _ h' _ (.lst ys)from⟨hz,its,c',r',e⟩),Y,q _ (I.hok.fresh (Yf _))⟩
 rcases hq with hq | hq
 ·obtain⟨its,r',pl,hz⟩:=I.list hq;have hlen:=r'.length;obtain⟨o,ho,hc,n,hd⟩:=pl.isList;exact call_list_seq p (.inl rfl) ho hc hd (λh' c' kp e=>fin its r' hz h' c' kp e) (by simp only[Yn] <;> omega)
 ·obtain⟨its,r',pl,hz⟩:=I.tuple hq;have hlen:=r'.length;obtain⟨o,ho,hc,n,hd⟩:=pl;exact call_list_seq p (.inr rfl) ho hc hd (λh' c' kp e=>fin its r' hz h' c' kp e) (by simp only[Yn] <;> omega)
def V1:UN X (.type "tuple") (λxs H Q=>∃ p ys,xs=[.ref p]/\((SqL X.K H p ys/\∀ l,H l=none->Q (.ref l) (upd H l (.tup ys)))\/(AH X.K H p ys/\Q (.ref p) H))):=by
 intro pins s σ H xs us Q I r h;obtain⟨p,ys,rfl,h⟩:=h;obtain⟨u,rfl,rx⟩:=U7 r;cases rx
 rcases h with⟨hq,q⟩ | ⟨hq,q⟩
 ·obtain⟨its,r',pl,hz⟩:=I.list hq;have hlen:=r'.length;refine call_tuple_list pl.isList (λh' kp=>?_) (by simp only[Yn] <;> omega);have I1:Inv X pins σ H {s with heap:=h' }:=I.kept (t':=s.toks) kp;have I2:Inv X pins σ (upd H h'.objs.size (.tup ys)) {s with heap:=h'.push {cls:=.type "tuple",data:=.seq its.toArray} } :=
   I1.laid (t':=s.toks) (λb o e=>Ye _ e) (Yf _) (show BU X.prog X.w _ _ _ (.tup ys)from⟨hz,its,r',IsTup.new _ _⟩)
  exact⟨.ref h'.objs.size,_,I2,Y,q _ (I1.hok.fresh (Yf _))⟩
 ·obtain⟨its,r',pl,hz⟩:=I.tuple hq;exact call_tuple_same pl ⟨.ref p,H,I,Y,q⟩
def n6(K:Fg)(T:String)(x:V)(H:Hp):Prop:=match x with
 | .str _=>T="str"
 | .int _=>T="int"
 | .ref p=>(T="list"/\∃ xs,SqL K H p xs)\/(T="tuple"/\∃ o,K.lookup p=some o/\o.cls=.type "tuple"/\o.dict=none) \/
   (T="dict"/\((∃ kvs,H p=some (.dK kvs))\/∃ kvs,H p=some (.dT kvs)))\/(T="set"/\∃ S n,H p=some (.set S n))
 | _=>False
def Z2q{pins:PL}{σ:St}{H:Hp}{s:Shared}{T:String}{x:V}{v:Value}(I:Inv X pins σ H s)(r:Ah x v)(ty:n6 X.K T x H):
  s.TypeIs v T/\∀ a,v=.ref a->∃ ob,s.heap.get? a=some ob/\ob.dict=none:=by
 cases x with
 | str z =>
  obtain⟨t,rfl⟩:=r;cases(show T="str" from ty);exact⟨typeIs_str s z t,λ_ e=>nomatch e⟩
 | int i =>
  obtain⟨t,rfl⟩:=r;cases(show T="int" from ty);exact⟨typeIs_int s i t,λ_ e=>nomatch e⟩
 | ref p =>
  cases r
  rcases ty with⟨rfl,xs,hq⟩ | ⟨rfl,o,hk,hc,hd⟩ | ⟨rfl,hk⟩ | ⟨rfl,S,n,hk⟩
  ·obtain⟨its,_,pl,_⟩:=I.list hq;refine⟨pl.isList.typeIs,λa e=>?_⟩;cases e;obtain⟨o,n,e,c,hd,_⟩:=pl;exact⟨o,e,hd⟩
  ·refine⟨⟨o,I.kIn p o hk,hc⟩,λa e=>?_⟩;cases e;exact⟨o,I.kIn _ o hk,hd⟩
  ·have z:∃ o,s.heap.get? p=some o/\o.ExactDict:=by
    rcases hk with⟨kvs,hk⟩ | ⟨kvs,hk⟩
    ·obtain⟨_,_,_,_,o,_,_,e,ex,_⟩:=I.hok p _ hk;exact⟨o,e,ex⟩
    ·obtain⟨_,_,_,_,o,_,_,e,ex,_⟩:=I.hok p _ hk;exact⟨o,e,ex⟩
   obtain⟨o,e,ex⟩:=z;refine⟨⟨o,e,ex.1⟩,λa e2=>?_⟩;cases e2;exact⟨o,e,ex.2.1⟩
  ·obtain⟨o,_,_,_,e,ex,_⟩:=I.hok p _ hk;refine⟨⟨o,e,ex.1⟩,λa e2=>?_⟩;cases e2;exact⟨o,e,ex.2.1⟩
 | _=>exact False.elim ty
def Ydx(K:Fg)(T:String)(r:V->LV->Hp->VK->Prop)(to:TE):TE:=λσ H Q=>to σ H λx H1=>n6 K T x H1/\r x [] H1 Q
def tBM(K:Fg)(T:String)(r:V->LV->Hp->VK->Prop)(to:TE)(t:TA):TE:=λσ H Q=>to σ H λx H1=>n6 K T x H1/\t σ H1 λxs H2=>r x xs H2 Q
variable {o e:Expr}{es:List Expr}{to:TE}{t:TA}{name:Str}{apos Al:Pos}{T id:String}{r:V->LV->Hp->VK->Prop}
def Z7n(pa:PlainAttrs T)(slot:Slot T name id)(hty:typeOf (.builtin id)=pure (.type "method_descriptor"))(hm:MtR X id r)(ho:PE X o to)
  (B5:attributeBase o name X.env (eval o X.env)=eval o X.env:=by rfl) (B4:(apos.endLine == Al.line)=true:=by rfl):PE X (.Call (.Attribute o name apos) [] [] Al) (Ydx X.K T r to):=by
 ac_rfl;refine wpAny_Call_method0_late B5 B4 (AN (ho pins s σ H _ I h) λv s1 ⟨x,H1,I1,r1,ty,q1⟩=>?_);obtain⟨h1,h2⟩:=Z2q I1 r1 ty;exact⟨T,id,pa,slot,hty,h1,h2,g_ rfl (mq (hm pins s1 σ H1 x [] v [] Q I1 r1 .nil q1))⟩
def Be(pa:PlainAttrs T)(slot:Slot T name id)(hty:typeOf (.builtin id)=pure (.type "method_descriptor"))(hm:MtR X id r)(ho:PE X o to)(ha:PA X (e :: es) t)
  (B5:attributeBase o name X.env (eval o X.env)=eval o X.env:=by rfl)
  (hfew:((backTo Al (starEach (e :: es) X.env)).all (λx=>!x.1)&&(backToKw Al (keywordEach [] X.env)).all (λx=>x.1.isSome)
   && decide ((e :: es).length + ([]:List Keyword).length + (if([]:List Keyword).isEmpty then 0 else 1)<30))=true:=by rfl)
  (B4:(apos.endLine == Al.line)=true:=by rfl) (hs:starEach (e :: es) X.env=(false,eval e X.env):: starEach es X.env:=by rfl) (hplain:(backTo Al (starEach es X.env)).any (·.1)=false:=by rfl):
  PE X (.Call (.Attribute o name apos) (e :: es) [] Al) (tBM X.K T r to t):=by
 ac_rfl;refine wpAny_Call_method_late B5 hfew B4 rfl (AN (ho pins s σ H _ I h) λv s1 ⟨x,H1,I1,r1,ty,q1⟩=>?_);obtain⟨h1,h2⟩:=Z2q I1 r1 ty;refine⟨T,id,pa,slot,hty,h1,h2,?_⟩;have hA:=ha Al pins s1 σ H1 _ I1 q1;rw[hs]at hA ⊢;refine g_ (by show(false || (backTo Al (starEach es X.env)).any (·.1))=false;rw[hplain] <;> rfl) (Calls.evalArgs_plain ?_);exact AN hA λus s2 ⟨vs,H2,I2,r2,q2⟩=>hm pins s2 σ H2 x vs v us Q I2 r1 r2 q2
end
def Xn(X:Cx)(id:String)(r:V->LV->Hp->VK->Prop):Prop :=
 ∀(pins:PL) (s:Shared) (σ:St) (H:Hp) (x:V) (xs:LV) (v:Value) (us:LU) (Q:VK),Inv X pins σ H s->Ah x v->Ac xs us->r x xs H Q ->
  wpAny (model X.prog X.w) X.A (call (.builtin id) (v :: us)) (EP X pins σ Q) X.xe s
def Ac.one:∀ {x:V}{us:LU},Ac [x] us->∃ u,us=[u]/\Ah x u
 | _,_,.cons r .nil=>⟨Z,r⟩
def Ac.zero:∀ {us:LU},Ac [] us->us=[]
 | _,.nil=>rfl
theorem Ac.dropLast{xs:LV}{us:LU}(h:Ac xs us):Ac xs.dropLast us.dropLast:=by
 induction h with
 | nil=>exact .nil
 | cons r t ih =>
  cases t with
  | nil=>exact .nil
  | cons q t'=>exact .cons r ih
def Zva{α:Type}(l:List α):l.eraseIdx (l.length - 1)=l.dropLast:=by
 induction l with
 | nil=>rfl
 | cons a r ih =>
  cases r with
  | nil=>rfl
  | cons b r =>
   have e:(a :: b :: r).length - 1=((b :: r).length - 1) + 1:=by
    have h1:(a :: b :: r).length=r.length + 2:=rfl;have h2:(b :: r).length=r.length + 1:=rfl;omega
   rw[e,List.eraseIdx_cons_succ,ih]
   all_goals rfl
section
variable {X:Cx}{pins:PL}{σ:St}{H:Hp}{s:Shared}{l b:Addr}{xs ys zs:LV}
def Inv.lset{its its':LU}{n:Nat}{f:Array Value->Array Value}{t':Nat}(I:Inv X pins σ H s)(hH:H l=some (.lst xs))
  (e:s.heap.get? l=some {cls:=.type "list",data:=.seq its.toArray n}) (hf:f its.toArray=its'.toArray) (hv:Ac ys its') (hz:ys.length<=sizeLine):
  Inv X pins σ (upd H l (.lst ys)) {s with heap:=s.heap.update l (Obj.mapSeq f),toks:=t' }:=by
 have q:=PySem.IsL.update e f;rw[hf]at q;refine I.write (x:=l) (e:=l) (by rw[hH];exact trivial) (.inl rfl) (λb' u hb hu=>(hJ s.heap (Obj.mapSeq f) (Ae hb)).trans hu) ⟨_,q⟩ ?_;exact⟨hz,its',_,hv,q⟩
def Inv.lnew{its:LU}{t':Nat}(I:Inv X pins σ H s)(hv:Ac ys its)(hz:ys.length<=sizeLine):
  Inv X pins σ (upd H s.heap.objs.size (.lst ys)) {s with heap:=s.heap.push {cls:=.type "list",data:=.seq its.toArray},toks:=t' } :=
 I.laid (λ_ _ q=>Ye _ q) (Yf _) ⟨hz,its,0,hv,Yp _ rfl⟩
theorem Inv.fresh(I:Inv X pins σ H s):H s.heap.objs.size=none:=I.hok.fresh (Yf _)
def Inv.lstM(I:Inv X pins σ H s)(hH:H l=some (.lst xs)):xs.length<=sizeLine/\∃(its:LU) (n:Nat),Ac xs its/\xs.length=its.length/\s.heap.get? l=some {cls:=.type "list",data:=.seq its.toArray n}:=by
 obtain⟨z,its,n,r,e⟩:=I.hok l _ hH;exact⟨z,its,n,r,r.length,e⟩
def yk{n:Nat}(h:n<=sizeLine):Builtin.List.listTooLong n=false:=by
 unfold Builtin.List.listTooLong;exact Jc (by omega)
end
section
variable {X:Cx}
def Z4e:V->LV->Hp->VK->Prop:=λx vs H Q=>∃ l xs y,x=.ref l/\vs=[y]/\H l=some (.lst xs)/\xs.length<sizeLine/\Q .non (upd H l (.lst (xs++[y])))
def Di:Xn X "list.append" Z4e:=by
 intro pins s σ H x vs v us Q I rx rv h;obtain⟨l,xs,y,rfl,rfl,hH,hz,q⟩:=h;cases rx;obtain⟨u,rfl,ru⟩:=rv.one;obtain⟨z,its,n,r,hl,e⟩:=I.lstM hH;refine call_meets F.slot_list_append ⟨_,e,Y⟩ F.entry_list_append (F.args_list_append_2 _ _) (PySem.list_append l its.toArray n u (by rw[Yn];omega)) ⟨e,?_⟩;refine⟨.non,_,I.lset (its':=its++[u]) hH e (by simp) (r.append (.cons ru .nil)) ?_,Y,q⟩;rw[Yc,UY];omega
def Z4d:V->LV->Hp->VK->Prop:=λx vs H Q=>∃ l b xs zs,x=.ref l/\vs=[.ref b]/\H l=some (.lst xs)/\H b=some (.lst zs)/\xs.length + zs.length<=sizeLine/\Q .non (upd H l (.lst (xs++zs)))
def Zyd:Xn X "list.extend" Z4d:=by
 intro pins s σ H x vs v us Q I rx rv h;obtain⟨l,b,xs,zs,rfl,rfl,hH,hB,hz,q⟩:=h;cases rx;obtain⟨u,rfl,ru⟩:=rv.one;cases ru;obtain⟨z,its,n,r,hl,e⟩:=I.lstM hH;obtain⟨z2,Bv,n2,r2,Ap,e2⟩:=I.lstM hB;have hsz:its.toArray.size + Bv.toArray.size<=sizeLine:=by rw[Yn,Yn];omega
 have hlong:¬ (!its.toArray.isEmpty&&Builtin.List.listTooLong (its.toArray.size + Bv.toArray.size))=true:=by
  rw[yk hsz,Bool.and_false];exact Yq
 refine call_meets F.slot_list_extend ⟨_,e,Y⟩ F.entry_list_extend (F.args_list_extend_2 _ _)
  (AutoSeq1.list_extend_list_list_0 l its.toArray n b Bv.toArray n2 hlong (by rw[Yn];omega) (by omega)) ⟨e,e2,?_⟩
 refine⟨.non,_,I.lset (its':=its++Bv) hH e (by simp) (r.append r2) ?_,Y,q⟩;rw[Yc];omega
def Yer:V->LV->Hp->VK->Prop:=λx vs H Q=>∃ l xs y,x=.ref l/\vs=[]/\H l=some (.lst xs)/\xs[xs.length - 1]?=some y/\Q y (upd H l (.lst xs.dropLast))
def Z8h:Xn X "list.pop" Yer:=by
 intro pins s σ H x vs v us Q I rx rv h;obtain⟨l,xs,y,rfl,rfl,hH,hy,q⟩:=h;cases rx;have hus:=rv.zero;subst hus;obtain⟨z,its,n,r,hl,e⟩:=I.lstM hH;obtain⟨u,hu,ru⟩:=r.get hy;have Uy:its.toArray[its.toArray.size - 1]?=some u:=by
  show its.toArray[its.length - 1]?=some u;rw[<- g0,<- hl];exact hu
 refine call_meets F.slot_list_pop ⟨_,e,Y⟩ F.entry_list_pop (F.args_list_pop_1 _) (MeetsSeq.list_pop_last l its.toArray n u Uy (by rw[Yn];omega)) ⟨e,?_⟩;refine⟨y,_,I.lset (its':=its.dropLast) hH e ?_ r.dropLast ?_,ru,q⟩
 ·show its.toArray.eraseIdxIfInBounds (its.toArray.size - 1)=its.dropLast.toArray;rw[Yn,List.eraseIdxIfInBounds_toArray,Zva]
 ·rw[List.length_dropLast];omega
def Yev:R2:=λx y H Q=>∃ l b xs zs,x=.ref l/\y=.ref b/\H l=some (.lst xs)/\H b=some (.lst zs)/\xs.length + zs.length<=sizeLine/\∀ p,H p=none->Q (.ref p) (upd H p (.lst (xs++zs)))
def bU:BO X (binaryOp .Add) Yev:=by
 exfalso;obtain⟨l,b,xs,zs,rfl,rfl,hH,hB,hz,q⟩:=h;cases rx;cases ry;obtain⟨z,its,n,r,hl,e⟩:=I.lstM hH;obtain⟨z2,Bv,n2,r2,Ap,e2⟩:=I.lstM hB;refine PySem.P.add_list e e2 ?_ (by rw[Yn,Yn];omega);have ea:its.toArray++Bv.toArray=(its++Bv).toArray:=by simp
 rw[ea];exact⟨.ref _,_,I.lnew (t':=s.toks) (r.append r2) (by rw[Yc];omega),Y,q _ I.fresh⟩
end
section
variable {prog:Program}{w:World}{A:Around}{E:EV}{s:Shared}
end
section
variable {X:Cx}
end
section
variable {κ:Type}[DecidableEq κ]
def BB(kvs:List (κ×V))(k:κ):OV:=(kvs.find? λkv=>decide (kv.1=k)).map (·.2)
def Ao(kvs:List (κ×V))(k:κ)(v:V):List (κ×V):=
 if(kvs.any λkv=>decide (kv.1=k))=true then kvs.map (λkv=>if kv.1=k then(kv.1,v)else kv)else kvs++[(k,v)]
def UW{p:κ×V}{r:List (κ×V)}{k:κ}(e:p.1=k):BB (p :: r) k=some p.2:=by simp[BB,Xg,e]
def UU{p:κ×V}{r:List (κ×V)}{k:κ}(e:¬ p.1=k):BB (p :: r) k=BB r k:=by simp[BB,Xg,e]
theorem Zq(k:κ):∀ kvs:List (κ×V),(kvs.any λkv=>decide (kv.1=k))=(BB kvs k).isSome
 | []=>rfl
 | p :: r=>by
  rw[YW];by_cases e:p.1=k
  ·simp only[UW e,Jb e,Bool.true_or,Option.isSome_some]
  ·rw[UU e,Jc e,Bool.false_or];exact Zq k r
theorem yc(k j:κ)(y:V):∀ kvs:List (κ×V),BB (kvs.map λkv=>if kv.1=k then(kv.1,y)else kv) j=(BB kvs j).map λx=>if j=k then y else x
 | []=>rfl
 | p :: r=>by
  have ih:=yc k j y r;rw[Yz];by_cases h:p.1=k
  ·rw[if_pos h];by_cases e:p.1=j
   ·rw[UW (p:=(p.1,y)) e,UW e,Option.map_some,if_pos (e.symm.trans h)]
   ·rw[UU (p:=(p.1,y)) e,UU e,ih]
  ·rw[if_neg h];by_cases e:p.1=j
   ·rw[UW (p:=p) e,UW e,Option.map_some,if_neg (λz=>h (e.trans z))]
   ·rw[UU (p:=p) e,UU e,ih]
theorem zb(k j:κ)(y:V):∀ kvs:List (κ×V),BB kvs k=none->BB (kvs++[(k,y)]) j=if j=k then some y else BB kvs j
 | [],_=>by
  by_cases e:k=j
  ·rw[if_pos e.symm];exact UW (p:=(k,y)) e
  ·rw[if_neg (λz=>e z.symm)];exact UU (p:=(k,y)) e
 | p :: r,hn=>by
  rw[hV];have hk:¬ p.1=k:=λz=>by rw[UW z]at hn;cases hn
  rw[UU hk]at hn;have ih:=zb k j y r hn;by_cases e:p.1=j
  ·rw[UW e,UW e,if_neg (λz=>hk (e.trans z))]
  ·rw[UU e,UU e,ih]
def Z0f(kvs:List (κ×V))(k j:κ)(y:V):BB (Ao kvs k y) j=if j=k then some y else BB kvs j:=by
 unfold Ao;by_cases a:(kvs.any λkv=>decide (kv.1=k))=true
 ·rw[if_pos a,yc];rw[Zq]at a;by_cases e:j=k
  ·obtain⟨x,hx⟩:=sW.mp a;rw[if_pos e,e,hx,Option.map_some,if_pos rfl]
  ·rw[if_neg e];cases BB kvs j with
   | none=>rfl
   | some x=>rw[Option.map_some,if_neg e]
 ·rw[if_neg a];refine zb k j y kvs ?_;rw[Zq]at a;cases q:BB kvs k with
  | none=>rfl
  | some x=>rw[q]at a;exact(a rfl).elim
def Zip(kvs:List (κ×V))(k:κ)(v:V):(Ao kvs k v).length<=kvs.length + 1:=by
 unfold Ao;split
 ·rw[Ya];omega
 ·rw[Yc,Yt,List.length_nil];omega
def Zp{kvs:List (κ×V)}{k:κ}(v:V)(h:BB kvs k=none):Ao kvs k v=kvs++[(k,v)]:=by
 unfold Ao;rw[Zq,h];exact if_neg (by decide)
def Tv.isSome_eq{o:OV}{u:OU}(r:Tv o u):o.isSome=u.isSome:=by
 cases o with
 | none=>cases u with
  | none=>rfl
  | some _=>exact(show False from r).elim
 | some _=>cases u with
  | none=>exact(show False from r).elim
  | some _=>rfl
def KV.val{kvs:List (κ×V)}{vs:List (κ×Value)}(r:KV kvs vs)(k:κ):Tv (BB kvs k) (valueAt vs k):=by
 unfold KV at r
 induction r with
 | nil=>exact True.intro
 | @cons p q ps qs h t ih =>
  obtain⟨h1,h2⟩:=h;by_cases e:p.1=k
  ·have e':q.1=k:=h1.symm.trans e;have b:valueAt (q :: qs) k=some q.2:=by simp[valueAt,Xg,e']
   rw[UW e,b];exact h2
  ·have e':¬ q.1=k:=λz=>e (h1.trans z);have b:valueAt (q :: qs) k=valueAt qs k:=by simp[valueAt,Xg,e']
   rw[UU e,b];exact ih
theorem KV.any{kvs:List (κ×V)}{vs:List (κ×Value)}(r:KV kvs vs)(k:κ):(kvs.any λkv=>decide (kv.1=k))=vs.any λkv=>decide (kv.1=k):=by
 unfold KV at r
 induction r with
 | nil=>rfl
 | cons h t ih=>rw[YW,YW,ih,h.1]
def KV.repl{kvs:List (κ×V)}{vs:List (κ×Value)}(r:KV kvs vs)(k:κ){y:V}{u:Value}(ry:Ah y u):
  KV (kvs.map λkv=>if kv.1=k then(kv.1,y)else kv) (vs.map λkv=>if kv.1=k then(kv.1,u)else kv):=by
 unfold KV at r ⊢
 induction r with
 | nil=>exact .nil
 | @cons p q ps qs h t ih =>
  rw[Yz,Yz];refine .cons ?_ ih;obtain⟨h1,h2⟩:=h;by_cases e:p.1=k
  ·rw[if_pos e,if_pos (h1.symm.trans e)];exact⟨h1,ry⟩
  ·rw[if_neg e,if_neg (λz=>e (h1.trans z))];exact⟨h1,h2⟩
def KV.put{kvs:List (κ×V)}{vs:List (κ×Value)}(r:KV kvs vs)(k:κ){y:V}{u:Value}(ry:Ah y u):KV (Ao kvs k y) (stored vs k u):=by
 unfold Ao stored;rw[r.any k];by_cases e:(vs.any λkv=>decide (kv.1=k))=true
 ·rw[if_pos e,if_pos e];exact r.repl k ry
 ·rw[if_neg e,if_neg e];exact LM r ⟨Y,ry⟩
theorem KV.length{kvs:List (κ×V)}{vs:List (κ×Value)}(r:KV kvs vs):kvs.length=vs.length:=Yu r
end
def bR{P:Program}{w:World}{k:Key}{u:Value}(r:Ah (kV k) u):(CC P w).is k u=true:=by
 cases k with
 | inl i=>obtain⟨t,e⟩:=(show ∃ t,u=Value.int i t from r);subst e;exact Zro P w i t
 | inr x=>obtain⟨t,e⟩:=(show ∃ t,u=Value.str x t from r);subst e;exact Zrn P w x t
theorem zC{P:Program}{w:World}:∀ {ks:List Key}{us:LU},Ac (ks.map kV) us->ItemsAre (CC P w) ks us
 | [],_,r=>by rw[List.map_nil]at r;cases r;exact .nil
 | k :: ks,_,r=>by
  rw[Yz]at r;cases r with
  | cons h t=>exact .cons (bR h) (zC t)
abbrev KT(H:Hp):List (List Key×V)->List (List Key×Addr×Value)->Prop:=Paired λp q=>p.1=q.1/\H q.2.1=some (.tup (p.1.map kV))/\Ah p.2 q.2.2
def KT.val{H:Hp}{kvs:List (List Key×V)}{xs:List (List Key×Addr×Value)}(r:KT H kvs xs)(k:List Key):Tv (BB kvs k) ((atKey xs k).map (·.2)):=by
 induction r with
 | nil=>exact True.intro
 | @cons p q ps qs h t ih =>
  obtain⟨h1,_,h2⟩:=h;by_cases e:p.1=k
  ·have e':q.1=k:=h1.symm.trans e;have b:atKey (q :: qs) k=some q.2:=by simp[atKey,Xg,e']
   rw[UW e,b];exact h2
  ·have e':¬ q.1=k:=λz=>e (h1.trans z);have b:atKey (q :: qs) k=atKey qs k:=by simp[atKey,Xg,e']
   rw[UU e,b];exact ih
def KT.repl{H:Hp}{kvs:List (List Key×V)}{xs:List (List Key×Addr×Value)}(r:KT H kvs xs)(k:List Key){y:V}{u:Value}(ry:Ah y u):
  KT H (kvs.map λkv=>if kv.1=k then(kv.1,y)else kv) (xs.map (putAt k u)):=by
 induction r with
 | nil=>exact .nil
 | @cons p q ps qs h t ih =>
  rw[Yz,Yz];refine .cons ?_ ih;obtain⟨h1,h2,h3⟩:=h;unfold putAt;by_cases e:p.1=k
  ·rw[if_pos e,if_pos (h1.symm.trans e)];exact⟨h1,h2,ry⟩
  ·rw[if_neg e,if_neg (λz=>e (h1.trans z))];exact⟨h1,h2,h3⟩
def KT.put{H:Hp}{kvs:List (List Key×V)}{xs:List (List Key×Addr×Value)}(r:KT H kvs xs)(k:List Key){b:Addr}{y:V}{u:Value}(hb:H b=some (.tup (k.map kV)))(ry:Ah y u):
  KT H (Ao kvs k y) (storedH xs k b u):=by
 have e:(kvs.any λkv=>decide (kv.1=k))=(atKey xs k).isSome:=by
  rw[Zq,(r.val k).isSome_eq,Option.isSome_map]
 unfold Ao storedH;rw[e];by_cases q:(atKey xs k).isSome=true
 ·rw[if_pos q,if_pos q];exact r.repl k ry
 ·rw[if_neg q,if_neg q];exact LM r ⟨Y,hb,ry⟩
def KT.keeps{H H':Hp}{kvs:List (List Key×V)}{xs:List (List Key×Addr×Value)}(r:KT H kvs xs)(ht:∀ b ys,H b=some (.tup ys)->H' b=some (.tup ys)):KT H' kvs xs :=
 Paired.mapP r λ_ _ z=>⟨z.1,ht _ _ z.2.1,z.2.2⟩
section
variable {P:Program}{w:World}{H:Hp}{h:Heap}{a:Addr}
def Z7b{u:HO}(ok:Bk P w H h)(e:Rd H a u):BU P w H h a u:=e.ok ok
def X7{kvs:KL}(ok:Bk P w H h)(e:Rd H a (.dK kvs)):kvs.length<=sizeLine/\(a == sysModules)=false/\∃ vs,KV kvs vs/\h.DictOf (CC P w) a vs :=
 show BU P w H h a (.dK kvs)from Z7b ok e
def Z8z{kvs:KL}(ok:Bk P w H h)(e:H a=some (.dK kvs)):kvs.length<=sizeLine/\(a == sysModules)=false/\∃ vs,KV kvs vs/\h.DictOf (CC P w) a vs:=X7 ok (.inl e)
def fV{ks:List Key}(ok:Bk P w H h)(e:H a=some (.tup (ks.map kV))):(tupleKind (CC P w)).is h ks a:=by
 obtain⟨_,its,r,o,h1,h2,n,h3⟩:=(show BU P w H h a (.tup (ks.map kV))from ok a _ e);exact⟨o,its.toArray,n,h1,h2,h3,by simpa using zC r⟩
def bN{kvs:List (List Key×V)}(ok:Bk P w H h)(e:Rd H a (.dT kvs)):kvs.length<=sizeLine/\(a == sysModules)=false /\
  ∃ xs,KT H kvs xs/\h.DictOfH (tupleKind (CC P w)) a xs:=by
 obtain⟨z,y,xs,r,o,es,ep,h1,h2,h3,h4,h5⟩:=(show BU P w H h a (.dT kvs)from Z7b ok e);refine⟨z,y,xs,r,o,es,ep,h1,h2,h3,h4,λx hx=>?_,h5⟩;have all:∀ {l:List (List Key×V)} {m:List (List Key×Addr×Value)},KT H l m->∀ x∈m,(tupleKind (CC P w)).is h x.1 x.2.1:=by
  intro l m q
  induction q with
  | nil=>intro x hx;exact nomatch hx
  | @cons p q ps qs hq t ih =>
   intro x hx
   rcases Yv.mp hx with e | hx
   ·subst e;exact fV ok (by rw[<- hq.1];exact hq.2.1)
   ·exact ih x hx
 exact all r x hx
def Ybm{kvs:List (List Key×V)}(ok:Bk P w H h)(e:H a=some (.dT kvs)):kvs.length<=sizeLine/\(a == sysModules)=false /\
  ∃ xs,KT H kvs xs/\h.DictOfH (tupleKind (CC P w)) a xs:=bN ok (.inl e)
end
def Bj(H:Hp)(a:Addr)(y:V)(r:OV):Prop :=
 (∃ kvs k,Rd H a (.dK kvs)/\y=kV k/\r=BB kvs k)\/∃ kvs k b,Rd H a (.dT kvs)/\y=.ref b/\H b=some (.tup (k.map kV))/\r=BB kvs k
def Sa(H:Hp)(a:Addr)(y v:V)(H':Hp):Prop :=
 (∃ kvs k,H a=some (.dK kvs)/\y=kV k/\kvs.length<sizeLine/\H'=upd H a (.dK (Ao kvs k v))) \/
 ∃ kvs k b,H a=some (.dT kvs)/\y=.ref b/\H b=some (.tup (k.map kV))/\kvs.length<sizeLine/\H'=upd H a (.dT (Ao kvs k v))
def Bj.k{H:Hp}{a:Addr}{kvs:KL}{k:Key}(e:H a=some (.dK kvs)):Bj H a (kV k) (BB kvs k):=.inl ⟨kvs,k,.inl e,Y,Y⟩
def Bj.t{H:Hp}{a b:Addr}{kvs:List (List Key×V)}{k:List Key}(e:H a=some (.dT kvs))(eb:H b=some (.tup (k.map kV))):Bj H a (.ref b) (BB kvs k):=.inr ⟨kvs,k,b,.inl e,Y,eb,Y⟩
def Sa.k{H:Hp}{a:Addr}{kvs:KL}{k:Key}{v:V}(e:H a=some (.dK kvs))(hl:kvs.length<sizeLine):Sa H a (kV k) v (upd H a (.dK (Ao kvs k v))):=.inl ⟨kvs,k,e,Y,hl,Y⟩
def Sa.t{H:Hp}{a b:Addr}{kvs:List (List Key×V)}{k:List Key}{v:V}(e:H a=some (.dT kvs))(eb:H b=some (.tup (k.map kV)))(hl:kvs.length<sizeLine):
  Sa H a (.ref b) v (upd H a (.dT (Ao kvs k v))):=.inr ⟨kvs,k,b,e,Y,eb,hl,Y⟩
section
variable {X:Cx}{pins:PL}{σ:St}{H:Hp}{s:Shared}{a:Addr}{y v:V}{u r:Value}{o:OV}{A:Around}{E:EV}
def Inv.big(I:Inv X pins σ H s):sysModules<s.heap.objs.size:=by
 have h:mainGlobals<s.heap.objs.size:=(I.mod.glob.keeps I.bk).lt;exact Vk (by decide) h
def Zze{Q:EV}(hu:A.units + 1<cLine)(I:Inv X pins σ H s)(g:Bj H a y (some v))(ry:Ah y u)(h:∀ w' s',Inv X pins σ H s'->Ah v w'->Q w' s'):
  wpAny (model X.prog X.w) A (getItem (.ref a) u) Q E s:=by
 rcases g with⟨kvs,k,e,ey,l⟩ | ⟨kvs,k,b,e,ey,eb,l⟩
 ·subst ey;obtain⟨z,hd,vs,rel,dd⟩:=X7 I.hok e;obtain⟨w',hw,Cw⟩:=Tv.some_of (v:=v) (o:=valueAt vs k) (by rw[l];exact rel.val k);exact wpAny_getItem_of (bR ry) dd.mapOf hw (h w' _ (I.tok _) Cw)
 ·subst ey;cases(show u=Value.ref b from ry);obtain⟨z,hd,xs,rel,dd⟩:=bN I.hok e;obtain⟨w',hw,Cw⟩:=Tv.some_of (v:=v) (o:=(atKey xs k).map (·.2)) (by rw[l];exact rel.val k);obtain⟨p,hp,SV⟩:=CV.mp hw;refine wpAny_getItem_heap (tupleKind_room_in1 hu) (fV I.hok eb) dd hp ?_;rw[SV];exact h w' _ (I.tok _) Cw
def Ye7{Q:EV}(hu:A.units + 1<cLine)(I:Inv X pins σ H s)(g:Bj H a y o)(ry:Ah y u)(h:∀ s',Inv X pins σ H s'->Q (.bool o.isSome) s'):
  wpAny (model X.prog X.w) A (compareOp .In u (.ref a)) Q E s:=by
 rcases g with⟨kvs,k,e,ey,l⟩ | ⟨kvs,k,b,e,ey,eb,l⟩
 ·subst ey;obtain⟨z,hd,vs,rel,dd⟩:=X7 I.hok e;refine wpAny_in_of (bR ry) hd dd.mapOf ?_;rw[<- (rel.val k).isSome_eq,<- l];exact h _ (I.tok _)
 ·subst ey;cases(show u=Value.ref b from ry);obtain⟨z,hd,xs,rel,dd⟩:=bN I.hok e;refine wpAny_in_heap (tupleKind_room_in1 hu) (fV I.hok eb) hd dd ?_;have q:=(rel.val k).isSome_eq;rw[Option.isSome_map]at q;rw[<- q,<- l];exact h _ (I.tok _)
def Z5r{Q:EV}(hu:A.units + 1<cLine)(I:Inv X pins σ H s)(g:Bj H a y o)(ry:Ah y u)(h:∀ s',Inv X pins σ H s'->Q (.bool (!o.isSome)) s'):
  wpAny (model X.prog X.w) A (compareOp .NotIn u (.ref a)) Q E s:=by
 rcases g with⟨kvs,k,e,ey,l⟩ | ⟨kvs,k,b,e,ey,eb,l⟩
 ·subst ey;obtain⟨z,hd,vs,rel,dd⟩:=X7 I.hok e;refine wpAny_notIn_of (bR ry) hd dd.mapOf ?_;rw[<- (rel.val k).isSome_eq,<- l];exact h _ (I.tok _)
 ·subst ey;cases(show u=Value.ref b from ry);obtain⟨z,hd,xs,rel,dd⟩:=bN I.hok e;refine wpAny_notIn_heap (tupleKind_room_in1 hu) (fV I.hok eb) hd dd ?_;have q:=(rel.val k).isSome_eq;rw[Option.isSome_map]at q;rw[<- q,<- l];exact h _ (I.tok _)
def qd{h':Heap}{t':Nat}{ob:HO}(I:Inv X pins σ H s)(mu:iD (H a))(hs:Heap.SameBut a s.heap h')(he:∃ q,h'.get? a=some q)(new:BU X.prog X.w (upd H a ob) h' a ob):
  Inv X pins σ (upd H a ob) {s with heap:=h',toks:=t' } :=
 I.write (x:=a) (e:=a) mu (.inl rfl) (λb q hb z=>(hs.2 b hb).trans z) he new
def Z3q{P:Program}{w:World}{H':Hp}{h':Heap}{kvs:KL}{vs:List (Key×Value)}(z:kvs.length<=sizeLine)(hd:(a == sysModules)=false)(rel:KV kvs vs)(dd:h'.DictOf (CC P w) a vs):
  BU P w H' h' a (.dK kvs):=⟨z,hd,vs,rel,dd⟩
def Zzc{H':Hp}{Q:Unit->Shared->Prop}(hu:A.units + 1<cLine)(I:Inv X pins σ H s)(g:Sa H a y v H')(ry:Ah y u)(rv:Ah v r)(h:∀ s',Inv X pins σ H' s'->Q () s'):
  wpAny (model X.prog X.w) A (setItem (.ref a) u r) Q E s:=by
 rcases g with⟨kvs,k,e,ey,l,eH⟩ | ⟨kvs,k,b,e,ey,eb,l,eH⟩
 ·subst ey eH;obtain⟨z,hd,vs,rel,dd⟩:=Z8z I.hok e;have hz:vs.length<=sizeLine:=by rw[<- rel.length];exact z
  have hl:(Ao kvs k v).length<=sizeLine:=by have:=Zip kvs k v;omega
  refine wpAny_setItem_pairs (hsz:=hz) (bR ry) dd λh' Za hs=>h _ ?_;have he:∃ q,h'.get? a=some q:=let⟨q,_,_,hq,_⟩:=Za;⟨q,hq⟩;exact qd I (by rw[e];exact True.intro) hs he (Z3q hl hd (rel.put k rv) Za)
 ·subst ey eH;cases(show u=Value.ref b from ry);obtain⟨z,hd,xs,rel,dd⟩:=Ybm I.hok e;have hz:xs.length<=sizeLine:=by rw[<- Yu rel];exact z
  have hl:(Ao kvs k v).length<=sizeLine:=by have:=Zip kvs k v;omega
  refine wpAny_setItem_heap (hsz:=hz) (tupleKind_room_in1 hu) (fV I.hok eb) dd λh' Za hs=>h _ ?_;obtain⟨q,es,ep,hq,h2,h3,h4,_,h5⟩:=Za;refine qd I (by rw[e];exact True.intro) hs ⟨q,hq⟩ ⟨hl,hd,_,(rel.put k eb rv).keeps λc ys ec=>?_,q,es,ep,hq,h2,h3,h4,h5⟩;rw[AD (sM ec e (λz=>nomatch z))];exact ec
end
section
variable {X:Cx}{pins:PL}{σ:St}{H:Hp}{s:Shared}{a:Addr}{kvs:KL}{k:Key}{u:Value}{A:Around}{E:EV}
end
def Ydm(i:Expr):Prop:=∀ ov iv,subscripted i false ov iv=operate [ov,iv] (getItem ov iv)
def Z34{prog:Program}{w:World}{A:Around}{E:EV}{s:Shared}{env:Env}{value slice:Expr}{pos:Pos}{T id:String}{Q:EV}
  (hl:typeLookup (.type T) "__getitem__"=pure (some (.builtin id))) (hs:Ydm slice)
  (h:wpAny (model prog w) A (eval value env) (λo s₁=>wpAny (model prog w) A (eval slice env) (λi s₂=>s₂.TypeIs o T/\wpAny (model prog w) A (getItem o i) Q E s₂) E s₁) E s):
  wpAny (model prog w) A (eval (.Subscript value slice pos) env) Q E s:=by
 refine Subscript_ (Jf h (λo s₁ h₁=>Jf h₁ (λi s₂ h₂=>?_) λ_ _ x=>x) λ_ _ x=>x);obtain⟨hT,h₂⟩:=h₂;unfold subscriptTail;refine Ja ?_;rw[getitemInPython_of_ne hT.not_modules];refine Ja (wpAny_specialOf hT hl ?_);have fin:wpAny (model prog w) A (subscripted slice false o i) (λr s₃=>wpAny (model prog w) A (letTemporaryGo value o r>>=λ_=>pure r) Q E s₃) E s₂:=by
  rw[hs o i];exact wpAny_operating (Jf h₂ (λr s₃ h₃=>Ja (wpAny_letTemporaryGo (Jd h₃))) λ_ _ x=>x)
 first
  | exact Jd (Ja fin)
  | exact Ja (Jd (Ja fin))
  | exact Ja fin
def Zrz{X:Cx}{pins:PL}{σ:St}{H:Hp}{s:Shared}{a:Addr}{y:V}{o:OV}(I:Inv X pins σ H s)(g:Bj H a y o):s.TypeIs (.ref a) "dict":=by
 rcases g with⟨kvs,k,e,_,_⟩ | ⟨kvs,k,b,e,_,_,_⟩
 ·obtain⟨_,_,vs,_,dd⟩:=X7 I.hok e;exact dd.typeIs
 ·obtain⟨_,_,xs,_,dd⟩:=bN I.hok e;exact dd.typeIs
def Z9t(td ty:TE):TE:=λσ H Q=>td σ H λx H1=>ty σ H1 λy H2=>∃ a v,x=.ref a/\Bj H2 a y (some v)/\Q v H2
def Ydw(ty td:TE):TE:=λσ H Q=>ty σ H λy H1=>td σ H1 λx H2=>∃ a o,x=.ref a/\Bj H2 a y o/\Q (.bl o.isSome) H2
def Z31(ty td:TE):TE:=λσ H Q=>ty σ H λy H1=>td σ H1 λx H2=>∃ a o,x=.ref a/\Bj H2 a y o/\Q (.bl (!o.isSome)) H2
def Yad(td ty tv:TE):TS:=λD σ H=>tv σ H λv H1=>td σ H1 λx H2=>ty σ H2 λy H3=>∃ a H4,x=.ref a/\Sa H3 a y v H4/\D.nx σ H4
section
variable {X:Cx}{o i e value:Expr}{pos pos' CF:Pos}{td ty tv:TE}
def Wr(hu:X.A.units + 1<cLine)(ho:PE X o td)(hi:PE X i ty)(hs:Ydm i):PE X (.Subscript o i pos) (Z9t td ty):=by
 ac_rfl;refine Z34 PySem.F.slot_dict_getitem.lookup hs (AN (ho pins s σ H _ I h) λu s1 ⟨x,H1,I1,rx,q1⟩=>AN (hi pins s1 σ H1 _ I1 q1) λiv s2 ⟨y,H2,I2,ry,a,v,ex,g,q2⟩=>?_);subst ex;obtain rfl:u=Value.ref a:=rx;exact⟨Zrz I2 g,Zze hu I2 g ry λw' s3 I3 Cw=>⟨v,H2,I3,Cw,q2⟩⟩
def bW(hu:X.A.units + 1<cLine)(hi:PE X i ty)(ho:PE X o td):PC X .In i o (Ydw ty td):=by
 ac_rfl;refine AN (hi pins s σ H _ I h) λiv s1 ⟨y,H1,I1,ry,q1⟩=>AN (ho pins s1 σ H1 _ I1 q1) λu s2 ⟨x,H2,I2,rx,a,ov,ex,g,q2⟩=>?_;subst ex;obtain rfl:u=Value.ref a:=rx;exact Ye7 hu I2 g ry λs3 I3=>⟨.bl ov.isSome,H2,I3,Y,q2⟩
def rK(hu:X.A.units + 1<cLine)(hi:PE X i ty)(ho:PE X o td):PC X .NotIn i o (Z31 ty td):=by
 ac_rfl;refine AN (hi pins s σ H _ I h) λiv s1 ⟨y,H1,I1,ry,q1⟩=>AN (ho pins s1 σ H1 _ I1 q1) λu s2 ⟨x,H2,I2,rx,a,ov,ex,g,q2⟩=>?_;subst ex;obtain rfl:u=Value.ref a:=rx;exact Z5r hu I2 g ry λs3 I3=>⟨.bl (!ov.isSome),H2,I3,Y,q2⟩
def Ws(hu:X.A.units + 1<cLine)(ho:PE X o td)(hi:PE X i ty)(hv:PE X value tv)(hs:swapsWith value (some (.Subscript o i pos')) pos.line X.env=pure false):
  PS X (.Assign [.Subscript o i pos'] value pos) (Yad td ty tv):=by
 intro pins s σ H D I h;refine wpAny_Assign_Subscript (AN (hv pins s σ H _ I h) λr s1 ⟨v,H1,I1,rv,q1⟩=>AN (ho pins s1 σ H1 _ I1 q1) λu s2 ⟨x,H2,I2,rx,q2⟩=>AN (hi pins s2 σ H2 _ I2 q2) λiv s3 ⟨y,H3,I3,ry,a,H4,ex,g,q3⟩=>?_) hs;subst ex;obtain rfl:u=Value.ref a:=rx;exact Zzc hu I3 g ry rv λs4 I4=>⟨σ,H4,I4,q3⟩
end
def xy{P:Program}{w:World}{H:Hp}(h:Heap)(hb:sysModules<h.objs.size):BU P w H (h.push {cls:=.type "dict",data:=.dict #[] }) h.objs.size (.dK []):=
 ⟨Ax _,cZ.mpr (Ae (Yx hb)),[],.nil,Heap.DictOf.new h⟩
def Z2d{P:Program}{w:World}{H:Hp}(h:Heap)(hb:sysModules<h.objs.size):BU P w H (h.push {cls:=.type "dict",data:=.dict #[] }) h.objs.size (.dT []):=
 ⟨Ax _,cZ.mpr (Ae (Yx hb)),[],.nil,_,#[],0,Yp _ rfl,⟨Y,Y,Y⟩,Y,Y,aA⟩
def Z6p:TE:=λ_ H Q=>∀ p,H p=none->Q (.ref p) (upd H p (.dK []))
def Z6o:TE:=λ_ H Q=>∀ p,H p=none->Q (.ref p) (upd H p (.dT []))
section
variable {X:Cx}{pos:Pos}
def YI:PE X (.Dict [] [] pos) Z6p:=λpins s σ H Q I h =>
 wpAny_Dict_empty ⟨.ref s.heap.objs.size,_,I.laid (a:=s.heap.objs.size) (o:=.dK []) (t':=s.toks) (λ_ _ q=>Ye _ q) (Yf _) (xy s.heap I.big),Y,h _ (I.hok.fresh (Yf _))⟩
def Z0y:PE X (.Dict [] [] pos) Z6o:=λpins s σ H Q I h =>
 wpAny_Dict_empty ⟨.ref s.heap.objs.size,_,I.laid (a:=s.heap.objs.size) (o:=.dT []) (t':=s.toks) (λ_ _ q=>Ye _ q) (Yf _) (Z2d s.heap I.big),Y,h _ (I.hok.fresh (Yf _))⟩
end
def qK:List (TE×TE)->St->Hp->(List (V×V)->Hp->Prop)->Prop
 | [],_,H,Q=>Q [] H
 | (tk,tv):: r,σ,H,Q=>tk σ H λx H1=>tv σ H1 λy H2=>qK r σ H2 λps H3=>Q ((x,y):: ps) H3
abbrev VV:List (V×V)->List (Value×Value)->Prop:=Paired λp q=>Ah p.1 q.1/\Ah p.2 q.2
def nI(X:Cx)(pos:Pos)(keys:List (Option Expr))(values:List Expr)(trs:List (TE×TE)):Prop :=
 ∀(pins:PL) (s:Shared) (σ:St) (H:Hp) (Q:List (V×V)->Hp->Prop),Inv X pins σ H s->qK trs σ H Q ->
  wpAny (model X.prog X.w) X.A (evalPairs (pairTrees keys values X.env pos)) (λvs s'=>∃ ps H',Inv X pins σ H' s'/\VV ps vs/\Q ps H') X.xe s
def Z4g{X:Cx}{pos:Pos}:nI X pos [] [] []:=λpins s σ H Q I h=>pairTrees_nil_walk ⟨[],H,I,.nil,h⟩
def Z0t{X:Cx}{pos:Pos}{k v:Expr}{ks:List (Option Expr)}{vs:List Expr}{tk tv:TE}{trs:List (TE×TE)}(hk:PE X k tk)(hv:PE X v tv)(hr:nI X pos ks vs trs):
  nI X pos (some k :: ks) (v :: vs) ((tk,tv):: trs):=λpins s σ H Q I h =>
 pairTrees_cons_walk (AN (hk pins s σ H _ I h) λu s1 ⟨x,H1,I1,rx,q1⟩=>AN (hv pins s1 σ H1 _ I1 q1) λw2 s2 ⟨y,H2,I2,ry,q2⟩ =>
  AN (hr pins s2 σ H2 _ I2 q2) λws s3 ⟨ps,H3,I3,rel,q3⟩=>⟨(x,y):: ps,H3,I3,.cons ⟨rx,ry⟩ rel,q3⟩)
def fX(kvs more:KL):KL:=more.foldl (λacc kv=>Ao acc kv.1 kv.2) kvs
def KV.merge:∀ {more:KL}{rs:List (Key×Value)}{kvs:KL}{vs:List (Key×Value)},KV more rs->KV kvs vs->KV (fX kvs more) (merged vs rs):=by
 intro more rs kvs vs r;unfold KV at r
 induction r generalizing kvs vs with
 | nil=>intro q;exact q
 | @cons p q ps qs h t ih =>
  intro r0;have e:KV (Ao kvs p.1 p.2) (stored vs q.1 q.2):=by
   have:=r0.put p.1 h.2;rw[<- h.1];exact this
  exact ih e
theorem Zjf:∀(more kvs:KL),(fX kvs more).length<=kvs.length + more.length
 | [],kvs=>by show kvs.length<=kvs.length + 0;omega
 | p :: r,kvs=>by
  have h1:=Zjf r (Ao kvs p.1 p.2);have h2:=Zip kvs p.1 p.2;show(fX (Ao kvs p.1 p.2) r).length<=_;rw[Yt];omega
theorem Zm6{P:Program}{w:World}:∀ {kvs:KL}{ws:List (Value×Value)},VV (kvs.map λkv=>(kV kv.1,kv.2)) ws->∃ rs,Carries (CC P w) ws rs/\KV kvs rs
 | [],_,r=>by rw[List.map_nil]at r;cases r;exact⟨[],True.intro,.nil⟩
 | p :: kvs,_,r=>by
  rw[Yz]at r;cases r with
  | @cons a b as bs h t =>
   obtain⟨rs,c,q⟩:=Zm6 (P:=P) (w:=w) t;obtain⟨b1,b2⟩:=b;exact⟨(p.1,b2):: rs,⟨bR h.1,Y,c⟩,.cons ⟨Y,h.2⟩ q⟩
def Z9s(trs:List (TE×TE)):TE:=λσ H Q=>∀ p,H p=none->qK trs σ (upd H p (.dK [])) λps H2=>H2 p=some (.dK [])/\∃ kvs:KL,ps=kvs.map (λkv=>(kV kv.1,kv.2))/\kvs.length<=15/\Q (.ref p) (upd H2 p (.dK (fX [] kvs)))
def Z4k{X:Cx}{pos:Pos}{keys:List (Option Expr)}{values:List Expr}{trs:List (TE×TE)}(h:nI X pos keys values trs)(hall:keys.all (·.isSome)=true)(hl:keys.length=values.length)(h0:keys≠[])
  (h15:keys.length<=15):PE X (.Dict keys values pos) (Z9s trs):=by
 intro pins s σ H Q I q;have hn:=I.hok.fresh (Yf s.heap.objs.size);have I1:=I.laid (a:=s.heap.objs.size) (o:=.dK []) (h':=s.heap.push {cls:=.type "dict",data:=.dict #[] }) (t':=s.toks) (λ_ _ q=>Ye _ q) (Yf _) (xy s.heap I.big);refine wpAny_Dict_walk (knd:=CC X.prog X.w) hall hl h0 h15 (AN (h pins _ σ _ _ I1 (q _ hn)) λws s2 ⟨ps,H2,I2,rel,e,kvs,ep,lk,q2⟩=>?_);subst ep;obtain⟨rs,c,rk⟩:=Zm6 (P:=X.prog) (w:=X.w) rel;obtain⟨z,hd,jH,r0,dd⟩:=Z8z I2.hok e;cases r0;refine⟨rs,c,dd,λh' Za hs=>⟨.ref s.heap.objs.size,_,?_,Y,q2⟩⟩;have hz:(fX [] kvs).length<=sizeLine:=by
  have h1:=Zjf kvs [];rw[List.length_nil]at h1;rw[sizeLine_eq];omega
 have he:∃ q,h'.get? s.heap.objs.size=some q:=let⟨q,_,_,hq,_⟩:=Za;⟨q,hq⟩;exact qd I2 (by rw[e];exact True.intro) hs he (Z3q hz hd (rk.merge .nil) Za)
structure M1(X:Cx)(o:Expr)(m:Str)(apos:Pos)(e:Expr)(Al:Pos):Prop where
 base:attributeBase o m X.env (eval o X.env)=eval o X.env
 few:((backTo Al (starEach [e] X.env)).all (λx=>!x.1)&&(backToKw Al (keywordEach [] X.env)).all (λx=>x.1.isSome)
  && decide (([e]:List Expr).length + ([]:List Keyword).length + (if([]:List Keyword).isEmpty then 0 else 1)<30))=true
 line:(apos.endLine == Al.line)=true
 trees:backTo Al (starEach [e] X.env)=[(false,eval e X.env)]
structure M2(X:Cx)(o:Expr)(m:Str)(apos:Pos)(e f:Expr)(Al:Pos):Prop where
 base:attributeBase o m X.env (eval o X.env)=eval o X.env
 few:((backTo Al (starEach [e,f] X.env)).all (λx=>!x.1)&&(backToKw Al (keywordEach [] X.env)).all (λx=>x.1.isSome)
  && decide (([e,f]:List Expr).length + ([]:List Keyword).length + (if([]:List Keyword).isEmpty then 0 else 1)<30))=true
 line:(apos.endLine == Al.line)=true
 trees:backTo Al (starEach [e,f] X.env)=[(false,eval e X.env),(false,eval f X.env)]
def IsD(H:Hp)(a:Addr):Prop:=(∃ kvs,Rd H a (.dK kvs))\/∃ kvs,Rd H a (.dT kvs)
def p4{X:Cx}{pins:PL}{σ:St}{H:Hp}{s:Shared}{a:Addr}(I:Inv X pins σ H s)(d:IsD H a):
  s.TypeIs (.ref a) "dict"/\(∀ b,Value.ref a=.ref b->∃ ob,s.heap.get? b=some ob/\ob.dict=none)/\(a == sysModules)=false:=by
 rcases d with⟨kvs,e⟩ | ⟨kvs,e⟩
 ·obtain⟨_,hd,vs,_,dd⟩:=X7 I.hok e;refine⟨dd.typeIs,λb q=>?_,hd⟩;cases q;obtain⟨ob,_,_,h1,h2,_⟩:=dd;exact⟨ob,h1,h2.2.1⟩
 ·obtain⟨_,hd,xs,_,dd⟩:=bN I.hok e;refine⟨dd.typeIs,λb q=>?_,hd⟩;cases q;obtain⟨ob,_,_,h1,h2,_⟩:=dd;exact⟨ob,h1,h2.2.1⟩
section
variable {X:Cx}{pins:PL}{σ:St}{H:Hp}{s:Shared}{a:Addr}{y d:V}{u r:Value}{o:OV}{A:Around}{E:EV}
end
section
variable {X:Cx}{o e f:Expr}{apos Al:Pos}{td ty tx:TE}
end
section
variable {X:Cx}{pins:PL}{σ:St}{H:Hp}{s:Shared}{a:Addr}{kvs:KL}{A:Around}{E:EV}
end
section
variable {X:Cx}{pins:PL}{σ:St}{H:Hp}{s:Shared}{a:Addr}{y:V}{u:Value}{A:Around}{E:EV}
end
end L2
namespace Att
open PySem PySem.W PySem.Calls PyProof.Rows
def Zlq{P:Params}{h:Heap}:∀(ns:List Int) (vs:LU),WellAll P h vs (ns.map WData.int)->IntsAre vs ns:=by
 intro ns
 induction ns with
 | nil =>
  intro vs w;rw[List.map_nil]at w;cases w;exact .nil
 | cons n ns ih =>
  intro vs w;rw[Yz]at w;cases w with
  | cons a b =>
   cases a;exact .cons _ _ (ih _ b)
def Zw0{l:OpenLaw}{n:Nat}(hn:l.most=some n){P:Params}{h:Heap}{args:List WData}{vals:LU}
  (hpre:l.row.toRowW.claim.pre args=true) (hwl:WellAll P h vals args):
  ∃ a vs ns,vals=[Value.ref a]/\args=[WData.list (ns.map WData.int)]/\h.get? a=some {cls:=.type "list",data:=.seq vs.toArray}/\IntsAre vs ns/\ns.length<=n:=by
 have hsh:WShape.hasAll [] args [.list .int]=true:=(pre_splitW hpre).1;have hc:l.pre.holds [] {args:=args}=true:=(pre_splitW hpre).2;obtain⟨d,r,rfl,h1,h2⟩:=hasAllW_cons hsh;obtain rfl:=hasAllW_nil h2;obtain⟨xs,rfl,h3⟩:=hasW_list h1;obtain⟨ns,rfl⟩:=items_int h3;have hlen:ns.length<=n:=by
  unfold OpenLaw.pre at hc;have h4:(WTm.not (.lt (.lit (.int (n:Int))) (.len (.arg 0)))).holds [] {args:=[.list (ns.map .int)] }=true:=by
   have h4:=(holds_andW hc).1;rw[hn]at h4;exact h4
  have h5:=condW_of h4 (w_not (w_lt w_lit (w_len_list (w_arg rfl))));rw[Ya]at h5;refine Nat.le_of_not_lt λq=>?_;have q':(n:Int)<((ns.length:Nat):Int):=by omega
  first
   | (rw[Jb q']at h5;exact absurd h5 (by decide))
   | (simp at h5;omega)
 cases hwl with
 | cons w1 w2 =>
  cases w2;cases w1 with
  | list ho hall=>exact⟨_,_,ns,Y,Y,ho,Zlq ns _ hall,hlen⟩
def Zxf(l:OpenLaw)(args:List WData):l.row.toRowW.claim.post args (.bool true) args=true :=
 postW_of (r:=l.row.toRowW) (X:=(true == true))
  (show WShape.has [] (.bool true) .bool=true by first | rfl | decide | simp[WShape.has,WShape.arms,WShape.armsAll])
  (show(WTm.eq .res (.lit (.bool true))).value [] {args:=args,res:=some (.bool true),after:=args}=some (.bool (true == true))from w_eq_bool (w_res rfl) w_lit) rfl
def attach_call{l:OpenLaw}{n:Nat}{q:Program}{loose:LS}{XP:(Str->OU)->Heap->Prop}{YP:World->Heap->Prop}{d:DefRec}
  (hn:l.most=some n) (hdf:d.params.defaults=[])
  (call:∀(w:World) (s₀ s₁:Shared) (mg mb:Str->OU) (fa:Addr) (o:Obj) (pm cd doc:Value) (a:Addr) (vs:LU) (ns:List Int),
   Ground q loose [] XP w s₀ mg mb s₁.heap->YP w s₁.heap ->
   s₁.heap.get? fa=some o->o.data=.func (docDef d.name d.params d.body d.scope pm cd doc)->s₁.heap.CodeRec cd d.name->mg d.name=some (.ref fa) ->
   s₁.heap.get? a=some {cls:=.type "list",data:=.seq vs.toArray}->IntsAre vs ns->ns.length<=n->s₁.gens=#[] ->
   codeAny (model l.prog w) callerA (.call (.ref fa) ⟨[.ref a],[]⟩) (λr s'=>r=.ok (.ret (.bool true))/\OldK s₁.heap s'.heap/\s'.os=s₁.os/\AllBare s'.gens) s₁):
  WalkO q loose XP YP l.row.toRowW d [] (λf vs=>PySem.call f vs):=by
 intro w s₀ s₁ mg mb G Y fa o pm cd doc dV kV ho hd hcd hD hmg hg args vals as hpre hlay hrd hwl hlo;obtain rfl:dV=.none:=Dflts.none hD hdf;obtain rfl:kV=.none:=Dflts.noKw hD;obtain⟨a,vs,ns,rfl,rfl,hobj,hints,hlen⟩:=Zw0 hn hpre hwl;refine enter_call (codeAny_mono (call w s₀ s₁ mg mb fa o pm cd doc a vs ns G Y ho (fd_plain hd) hcd hmg hobj hints hlen hg) λr s' hq=>?_);obtain⟨rfl,h2,h3,h4⟩:=hq;exact⟨.inl ⟨.bool true,.bool true,[],Y,λ_=>rfl,.bool true,Zxf l _,λ_=>⟨List.Pairwise.nil,λ_ hm=>(nomatch hm)⟩⟩,h2,h3,h4⟩
section
variable {prog:Program}{w:World}{A:Around}{E:EV}{s:Shared}{K:Frag}
end
end Att
namespace L2
open PySem PySem.Spec PyProof.Rows
theorem zc:∀ {vs:LU}{ns:List Int},IntsAre vs ns->Ac (ns.map V.int) vs
 | _,_,.nil=>.nil
 | _,_,.cons n t h=>.cons ⟨t,Y⟩ (zc h)
def sZ(H:Hp):Prop:=∀ b,H b=none\/∃ o xs,H b=some (.frz o (.lst xs))
def Z1y{P:Program}{w:World}{K:Fg}{mg mb:Str->OU}{CX:Vl}{k:Nat}{x:Str}{sp:Sp}{s₁:Shared}{vs:LU}{ns:List Int}
  (KX:K.In s₁.heap) (hns:s₁.heap.Ns mainGlobals mg) (hb:s₁.heap.Ns builtinsNs mb) (hbb:∀ x:Str,x≠"__name__"->mb x=bootBuiltins x) (hlim:s₁.heap.NoLimit) (hg:s₁.gens=#[])
  (ha:s₁.heap.get? a=some {cls:=.type "list",data:=.seq vs.toArray}) (hi:IntsAre vs ns) (hl:ns.length<=sizeLine) (hr:Af k callerA)
  (F:∀ base:Heap,K.In base->base.Ns mainGlobals mg->Uq P w K mg base CX k fa fd [x] sp) (hbind:∀(s:Shared) (u:Value),BindsTo s fd ⟨[u],[]⟩ [(x,u)])
  (hsp:∀ H:Hp,sZ H->SqL K H a (ns.map V.int)->sp [.ref a] H (λv _=>v=.bl true) λ_ _ _=>False)
  (hCX:∀ H e s',CX [] H s₁ (λ_ _ _=>False) e s'->False):
  codeAny (model P w) callerA (.call (.ref fa) ⟨[.ref a],[]⟩) (λr s'=>r=.ok (.ret (.bool true))/\OldK s₁.heap s'.heap/\s'.os=s₁.os/\AllBare s'.gens) s₁:=by
 have rv:=zc hi;have lenV:=hi.length;have core:∀ H:Hp,sZ H->SqL K H a (ns.map V.int)->Bk P w H s₁.heap->(∀ b,H b≠none->b=a)->(H a≠none->K.lookup a=none) ->
   codeAny (model P w) callerA (.call (.ref fa) ⟨[.ref a],[]⟩) (λr s'=>r=.ok (.ret (.bool true))/\OldK s₁.heap s'.heap/\s'.os=s₁.os/\AllBare s'.gens) s₁:=by
  intro H hO hS hok hA hK;have base_of:∀ {b:Addr} {o:Obj},s₁.heap.get? b=some o->H b=none->(Xe s₁.heap H).get? b=some o:=λe n=>Z15 e n;have noA:∀ {b:Addr} {o:Obj} {es:Array DictEntry} {ep:Nat},s₁.heap.get? b=some o->o.data=.dict es ep->H b=none:=λ{b o es ep} e d=>by
   cases q:H b with
   | none=>rfl
   | some u =>
    have e':b=a:=hA b (by rw[q];simp);subst e';rw[ha]at e;cases e;have d':Data.seq vs.toArray _=Data.dict es ep:=d;cases d'
  have nsK:∀ {b:Addr} {m:Str->OU},s₁.heap.Ns b m->(Xe s₁.heap H).Ns b m:=λ{b m} ⟨o,es,ep,e,d,r⟩=>⟨o,es,ep,base_of e (noA e d),d,r⟩;have hKb:K.In (Xe s₁.heap H):=λb o e=>base_of (KX b o e) (by
   cases q:H b with
   | none=>rfl
   | some u =>
    have e':b=a:=hA b (by rw[q];simp);subst e';rw[hK (by rw[q];simp)]at e;cases e)
  have hM:Mod K mg (Xe s₁.heap H):=⟨hKb,nsK hns,⟨mb,nsK hb,hbb⟩,let⟨mc,h1,h2⟩:=hlim;⟨mc,nsK h1,h2⟩⟩;have e0:Ud P w K mg (Xe s₁.heap H) callerA [] s₁ H:=⟨Y,hM,λb o e=>Z4v e,Nat.le_of_eq (Zyz _ _),trivial,λb hb=>absurd (show b∈([]:List Addr)from hb) (by simp),hok,.of_eq hg⟩;refine codeAny_mono ((F _ hKb (nsK hns)).run callerA [] s₁ H ⟨[.ref a],[]⟩ [.ref a] [.ref a] _ _ hr e0 (hbind s₁ (.ref a)) (.cons rfl .nil) (hsp H hO hS)) λr s' h=>?_;cases r with
  | error e=>exact(hCX H e s' h).elim
  | ok fl =>
   cases fl with
   | next=>exact False.elim h
   | brk=>exact False.elim h
   | cont=>exact False.elim h
   | ret u =>
    obtain⟨v,H',os,bare,un,tj,r',q⟩:=h;have q':v=.bl true:=q;subst q';obtain rfl:u=Value.bool true:=r';refine⟨Y,OldK.of_keep λb o e=>?_,os,bare⟩;cases q:H b with
    | none=>exact un.keep b o e q (by intro z;exact absurd (show b∈([]:List Addr)from z) (by simp)) (by simp)
    | some u =>
     rcases hO b with z | ⟨ob,xs,z⟩
     ·rw[q]at z;cases z
     ·have z2:=un.frzs b ob _ z;obtain⟨e1,_⟩:=hok b _ z;obtain⟨e2,_⟩:=tj b _ z2;rw[e]at e1;cases e1;exact e2
 cases hk:K.lookup a with
 | some o =>
  have e:=KX a o hk;rw[ha]at e;cases e;refine core (λ_=>none) (λ_=>.inl rfl) (.inr ⟨_,vs.toArray,_,hk,Y,Y,Y,by rw[Yn,lenV];exact hl,by simpa using rv⟩) (λb u z=>by have z':(none:Option HO)=some u:=z;cases z') (λb z=>absurd rfl z) λz=>absurd rfl z
 | none =>
  refine core (λb=>if b=a then some (.frz {cls:=.type "list",data:=.seq vs.toArray} (.lst (ns.map V.int)))else none) (λb=>?_) (.inl (.inr ⟨{cls:=.type "list",data:=.seq vs.toArray},if_pos rfl⟩)) (λb u z=>?_) (λb z=>?_) λ_=>hk
  ·by_cases hb:b=a
   ·exact .inr ⟨_,_,if_pos hb⟩
   ·exact .inl (if_neg hb)
  ·by_cases hb:b=a
   ·have z':=(if_pos hb).symm.trans z;cases z';subst hb;exact⟨ha,by rw[Ya];exact hl,vs,_,rv,ha⟩
   ·have z':=(if_neg hb).symm.trans z;cases z'
  ·by_cases hb:b=a
   ·exact hb
   ·exact absurd (if_neg hb) z
def walk_of{l:W.OpenLaw}{n k:Nat}{q:Program}{loose:LS}{XP:(Str->OU)->Heap->Prop}{YP:World->Heap->Prop}{d:DefRec}{K:Params->Fg}{CX:World->Vl}{sp:World->Sp}{x:Str}
  (hn:l.most=some n) (az:n<=sizeLine) (hdf:d.params.defaults=[]) (hr:Af k callerA)
  (hY:∀(w:World) (h:Heap),YP w h->(K w.params).In h)
  (F:∀(w:World) (mg:Str->OU) (fa:Addr) (h:Heap),(K w.params).In h->h.Ns mainGlobals mg->mg d.name=some (.ref fa) ->
   ∃ fd:FuncData,(∀(s:Shared) (u:Value),BindsTo s fd ⟨[u],[]⟩ [(x,u)]) /\
    ∀ base:Heap,(K w.params).In base->base.Ns mainGlobals mg->Uq l.prog w (K w.params) mg base (CX w) k fa fd [x] (sp w))
  (hsp:∀(w:World) (H:Hp) (a:Addr) (ns:List Int),ns.length<=n->sZ H->SqL (K w.params) H a (ns.map V.int)->sp w [.ref a] H (λv _=>v=.bl true) λ_ _ _=>False)
  (hCX:∀(w:World) (H:Hp) (s:Shared) (e:Value) (s':Shared),CX w [] H s (λ_ _ _=>False) e s'->False):
  W.WalkO q loose XP YP l.row.toRowW d [] (λf vs=>PySem.call f vs):=by
 refine Att.attach_call hn hdf λw s₀ s₁ mg mb fa o pm cd doc a vs ns G Y ho hd hcd hmg hobj hints hlen hg=>?_;have KX:=hY w _ Y;obtain⟨fd,hb,hF⟩:=F w mg fa _ KX G.T.g hmg;exact Z1y KX G.T.g G.T.b G.T.builtins G.T.nolimit hg hobj hints (B0 hlen az) hr hF hb (λH hO hS=>hsp w H a ns hlen hO hS) λH e s'=>hCX w H s₁ e s'
def T8(s:Stmt)(j:Nat):Stmt:=match s with
 | .ClassDef _ _ _ body _ _ _ _ _ _ _=>body.getD j (.Pass ⟨0,0,0,0⟩)
 | _=>.Pass ⟨0,0,0,0⟩
def Um(s:Stmt):Arguments:=match s with
 | .FunctionDef _ a _ _ _ _ _ _ _ _=>a
 | _=>{posonlyargs:=[],args:=[],vararg:=none,kwonlyargs:=[],kw_defaults:=[],kwarg:=none,defaults:=[] }
def C4(s:Stmt):List Stmt:=match s with
 | .FunctionDef _ _ b _ _ _ _ _ _ _=>b
 | _=>[]
def AJ(s:Stmt):Scope:=match s with
 | .FunctionDef _ _ _ _ _ _ sc _ _ _=>sc
 | _=>{kind:=.function,names:=[],isGenerator:=false,isCoroutine:=false}
abbrev Y7:Vl:=λ_ _ _ _ _ _=>False
abbrev E0:XK:=λ_ _ _=>False
def BA{X:Cx}:Zg Y7 X E0:=λ_ _ _ _ _ _ _ h=>h.elim
structure Bu(K:Fg)(x qual:Str)(st:Stmt)(f:Addr)(fd:FuncData):Prop where
 ex:∃(oc:Value) (od:Option Addr) (kV doc pm:Value) (an:Option Addr) (A5 ct:Value) (osl:Array (OU)),
  fd=W.fnOf x qual (Um st) (C4 st) (AJ st) .none kV doc pm an A5 ct/\K.lookup f=some ⟨oc,od,.func fd,osl⟩/\W.codeIn K A5 qual=true
 kp:W.keepIn K (.ref f)=true
section
variable {P:Program}{w:World}{K:Fg}{mg:Str->OU}{base:Heap}
def Bu.ok{x qual:Str}{st:Stmt}{N ps:LS}{k:Nat}{sp:Sp}(F:Bu K x qual st f fd)(S:AX N ps (AJ st))(len:∀ vs H Q E,sp vs H Q E->vs.length=ps.length)
  (hbody:∀(A5:Value) (A:Around) (outer:List Env) (s:Shared) (H:Hp) (vs:LV) (Q:VK) (E:XK),Af k (A.deeper (envOfC qual (AJ st) s.heap.objs.size f A5))->sp vs H Q E ->
   ∃ t,CY (cQ Y7 P w K mg base N qual (AJ st) f A5 A outer s H E).nox (C4 st) t/\t {nx:=λ_ H'=>Q .non H',rt:=Q} (start N vs) H):Uq P w K mg base Y7 (k + 1) f fd ps sp:=by
 obtain⟨oc,od,kV,doc,pm,an,A5,ct,osl,rfl,lk,hcd⟩:=F.ex;refine Ybj lk hcd S len λA outer s H vs Q E hr hsp=>?_;obtain⟨t,h,q⟩:=hbody A5 A outer s H vs Q E hr hsp;exact⟨t,h.nox,q⟩
def Bu.binds{x qual:Str}{st:Stmt}{ps:LS}(F:Bu K x qual st f fd)
  (h:∀(kV doc pm:Value) (an:Option Addr) (A5 ct:Value) (us:LU),us.length=ps.length->bindArgs (W.fnOf x qual (Um st) (C4 st) (AJ st) .none kV doc pm an A5 ct) ⟨us,[]⟩=pure (ps.zip us)):Cb K fd ps []:=by
 obtain⟨oc,od,kV,doc,pm,an,A5,ct,osl,rfl,lk,hcd⟩:=F.ex;exact .all (h kV doc pm an A5 ct)
def Z3m{x qual:Str}{st:Stmt}{f:Addr}{oc:Value}{od an:Option Addr}{osl:Array (OU)}{kV doc pm A5 ct:Value}(l:K.lookup f=some ⟨oc,od,.func (W.fnOf x qual (Um st) (C4 st) (AJ st) .none kV doc pm an A5 ct),osl⟩)
  (c:W.codeIn K A5 qual=true) (k:W.keepIn K (.ref f)=true):Bu K x qual st f (W.fnOf x qual (Um st) (C4 st) (AJ st) .none kV doc pm an A5 ct):=⟨⟨oc,od,kV,doc,pm,an,A5,ct,osl,Y,l,c⟩,k⟩
end
def Tz{A:Around}{k:Nat}(hr:Af k A):A.units + 1<cLine:=m5 (Nat.add_le_add_left (by decide:1<=64) _) hr.units
section
variable {X:Cx}
def pv(i:Nat){x:Str}{pos:Pos}(hN:X.N[i]?=some x:=by rfl)(hv:nF X.env.scope x:=by first | exact Or.inl rfl | exact Or.inr (Or.inl rfl) | exact Or.inr (Or.inr rfl))(hd:(x == ("__debug__":Str))=false:=by decide)
  (hcd:(x == ("__classdict__":Str))=false:=by decide):PE X (.Name x pos) (rq i):=Z7k hN hv hd hcd
end
def AS{A B:Prop}(h:B):if false=true then A else B:=by
 rw[if_neg Yq];exact h
def Av{A B:Prop}(h:A):if true=true then A else B:=by
 rw[if_pos rfl];exact h
def A1{c A B:Prop}[Decidable c](h1:c->A)(h2:¬ c->B):if c then A else B:=by
 by_cases h:c
 ·rw[if_pos h];exact h1 h
 ·rw[if_neg h];exact h2 h
def AB(H H':Hp):Prop:=∀ b o,H b=some o->H' b=some o
def AB.refl(H:Hp):AB H H:=λ_ _ h=>h
def AB.trans{H H1 H2:Hp}(a:AB H H1)(b:AB H1 H2):AB H H2:=λc o h=>b c o (a c o h)
def AB.free{H H':Hp}(e:AB H H'){l:Addr}(h:H' l=Option.none):H l=Option.none:=by
 cases q:H l with
 | none=>rfl
 | some o =>
  rw[e l o q]at h;cases h
def AB.seq{K:Fg}{H H':Hp}{a:Addr}{xs:LV}(e:AB H H')(h:SqL K H a xs):SqL K H' a xs:=by
 rcases h with(h | ⟨o,h⟩) | h
 ·exact .inl (.inl (e _ _ h))
 ·exact .inl (.inr ⟨o,e _ _ h⟩)
 ·exact .inr h
section
variable {X:Cx}
end
section
variable {κ:Type}[DecidableEq κ]
def Z0g{kvs:List (κ×V)}{k:κ}(h:BB kvs k=none):¬ k∈kvs.map (·.1):=by
 intro m;obtain⟨p,hp,e⟩:=Yg.mp m;have q:(kvs.any λkv=>decide (kv.1=k))=true:=Xk.mpr ⟨p,hp,Jb e⟩;rw[Zq,h]at q;exact absurd q (by simp)
def xj{kvs:List (κ×V)}{k:κ}{v:V}(h:BB kvs k=some v):k∈kvs.map (·.1):=by
 have q:(kvs.any λkv=>decide (kv.1=k))=true:=by
  rw[Zq,h]
  all_goals rfl
 obtain⟨p,hp,e⟩:=Xk.mp q;exact Yg.mpr ⟨p,hp,Je e⟩
end
end L2
set_option maxHeartbeats 4000000
namespace HT
open PySem PyProof.Rows
open PySem.SeqAt
open PySem.AutoSeq1 (wpAny_loadPart')
open PySem.MeetsSeq PySem.MeetsSeq2 PySem.MeetsSeq3
section
variable {prog:Program}{w:World}{A:Around}{E:EV}{s:Shared}
end
end HT
namespace L2
open PySem PySem.Spec PyProof.Rows
structure Sd(J:It)(xs:LV)(Ok:Hp->Prop):Prop where
 go:∀(i:Nat) (x:V) (H:Hp),Ok H->xs[i]?=some x->J.go i H
 yld:∀(i:Nat) (x:V) (H:Hp) (y:V) (H':Hp),Ok H->xs[i]?=some x->J.yld i H y H'->y=x/\H'=H
 stop:∀(H:Hp),Ok H->J.stop xs.length H
def CU{K:Fg}{a:Addr}{xs:LV}:Sd (cx K a) xs (λH=>SqL K H a xs) where
 go:=λi x H ok hx=>⟨xs,x,ok,hx⟩
 yld:=λi x H y H' ok hx h=>by
  obtain⟨e,h⟩:=h;have q:=h xs ok;rw[hx]at q;exact⟨(Ym q).symm,e⟩
 stop:=λH ok=>⟨xs,ok,Yf _⟩
def Uo{K:Fg}{a:Addr}{xs:LV}:Sd (nL K a) xs (λH=>AH K H a xs) where
 go:=λi x H ok hx=>⟨xs,x,ok,hx⟩
 yld:=λi x H y H' ok hx h=>by
  obtain⟨e,h⟩:=h;have q:=h xs ok;rw[hx]at q;exact⟨(Ym q).symm,e⟩
 stop:=λH ok=>⟨xs,ok,Yf _⟩
def DG(lo:Int)(n:Nat):LV:=(List.range n).map λ(k:Nat)=>V.int (lo + (k:Int))
def Cq(lo:Int)(n:Nat):(DG lo n).length=n:=by unfold DG;rw[Ya,List.length_range]
def Dw{lo:Int}{n i:Nat}{x:V}(h:(DG lo n)[i]?=some x):i<n/\x=V.int (lo + (i:Int)):=by
 have hi:i<n:=by
  have:=(Yi.mp h).1
  rwa [Cq]at this
 refine⟨hi,?_⟩;unfold DG at h;rw[Yj,List.getElem?_range hi]at h;exact(Ym h).symm
def VE{lo:Int}{n:Nat}:Sd (iE lo n) (DG lo n) (λ_=>True) where
 go:=λi x H _ hx=>(Dw hx).1
 yld:=λi x H y H' _ hx h=>by
  obtain⟨e,h⟩:=h;exact⟨h.trans (Dw hx).2.symm,e⟩
 stop:=λH _=>by
  show n<=(DG lo n).length;rw[Cq];exact Yf _
def Bz{J:It}{xs:LV}{Ok:Hp->Prop}(R:Sd J xs Ok){g:TG}{tb:TS}{D:Wd}{σ:St}{H:Hp}(Pv:NW)(h0:Pv 0 σ H)(hl:∀ i σ H,i<=xs.length->Pv i σ H->Ok H)
  (hs:∀ i x σ H,xs[i]?=some x->Pv i σ H->g x σ H λσ2 H2=>tb {D with nx:=Pv (i + 1),ct:=Pv (i + 1),bk:=D.nx} σ2 H2) (hd:∀ σ H,Pv xs.length σ H->D.nx σ H):
  ∃ W:Nat->Nat->St->Hp->Prop,(∃ m,W 0 m σ H)/\∀ i m σ H,W i m σ H ->
   (J.stop i H/\D.nx σ H)\/(J.go i H/\∃ N:SW,(∀ σ' H',N σ' H'->∃ m',m'<m/\W (i + 1) m' σ' H')/\∀ x H',J.yld i H x H'->g x σ H' λσ2 H2=>tb {D with nx:=N,ct:=N,bk:=D.nx} σ2 H2):=by
 refine⟨λi m σ H=>m=xs.length - i/\i<=xs.length/\Pv i σ H,⟨xs.length,by simp,Ax _,h0⟩,?_⟩;rintro i m σ H ⟨rfl,hi,p⟩;have q:=hl i σ H hi p;by_cases BK:i<xs.length
 ·have hx:xs[i]?=some xs[i]:=by simp[BK]
  refine .inr ⟨R.go i _ H q hx,Pv (i + 1),λσ' H' p'=>⟨xs.length - (i + 1),W,Y,BK,p'⟩,λx H' y=>?_⟩;obtain⟨e1,e2⟩:=R.yld i _ H x H' q hx y;rw[e2];exact hs i x σ H (by rw[e1];exact hx) p
 ·have e:i=xs.length:=by omega
  subst e;exact .inl ⟨R.stop H q,hd σ H p⟩
def nN(x:Str):It:=⟨λi _=>i<x.cps.size,λi H v H'=>H'=H/\∃ c,x.cps[i]?=some c/\v=.str ⟨#[c]⟩,λi _=>x.cps.size<=i⟩
def CP(x:Str):LV:=x.cps.toList.map λc=>V.str ⟨#[c]⟩
def yS{x:Str}:Sd (nN x) (CP x) (λ_=>True) where
 go:=λi y H _ hx=>by
  have:=(Yi.mp hx).1;unfold CP at this;rw[Ya]at this;show i<x.cps.size;simpa using this
 yld:=λi y H z H' _ hx h=>by
  obtain⟨e,c,hc,hz⟩:=h;refine⟨?_,e⟩;unfold CP at hx;rw[Yj,g0,hc]at hx;rw[hz];exact Ym hx
 stop:=λH _=>by
  show x.cps.size<=(CP x).length;unfold CP;simp
def ya{P:Program}{w:World}{K:Fg}{tg:Expr}(x:Str)(t:Tok)(it:Addr)(ty:String)(hty:ty="str_ascii_iterator"\/ty="str_iterator"):
  Tw P w K tg (nN x) [it] it (λi h=>h.IsStrIter it ty x t i) where
 mem:=by simp
 obj:=λi h st b hb=>by
  have e:b=it:=by simpa using hb
  subst e;obtain⟨o,e,c,d⟩:=st;exact⟨o,e,λv z=>by rw[d]at z;cases z⟩
 keep:=λi h h' st k=>by
  obtain⟨o,ho,r⟩:=st;exact⟨o,k it (by simp) o ho,r⟩
 item:=by
  intro X hP hw hK hc i pins s σ H E I hf st hg;subst hP hw hK;obtain⟨f0,f1,f2,f3,f4,f5⟩:=hf it (by simp);have hi:i<x.cps.size:=hg;have hx:x.cps[i]?=some x.cps[i]:=by simp[hi]
  have fin:∀ h':Heap,h'.IsStrIter it ty x t (i + 1)->Heap.SameBut it s.heap h'->∃ u,some (Value.str ⟨#[x.cps[i]]⟩ s.toks)=some u /\
    wpAny (model X.prog X.w) X.A (letOwnedTupleGo tg (.ref it) u) (λ_ s2=>∃ y H',Inv X pins σ H' s2/\Ah y u/\(nN x).yld i H y H'/\s2.heap.IsStrIter it ty x t (i + 1)/\∀ b∈[it],H' b=none) E {s with heap:=h',toks:=s.toks + 1}:=λh' BC sb=>by
   have I1:Inv X pins σ H {s with heap:=h',toks:=s.toks + 1}:=I.turned (λb o hb e=>(sb.2 b hb).trans e) f0 f1 f3 f4 f5;obtain⟨o,e,c,d⟩:=id BC;refine⟨Z,bQ (s:={s with heap:=h',toks:=s.toks + 1}) e c d ?_ ⟨.str ⟨#[x.cps[i]]⟩,H,I1,⟨Z⟩,⟨Y,_,hx,Y⟩,BC,λb hb=>(hf b hb).1⟩⟩
   rcases hty with rfl | rfl <;> decide
  rcases hty with rfl | rfl
  ·exact wpAny_pyNext_ascii_item st hx λh' BC sb=>fin h' BC sb
  ·exact wpAny_pyNext_wide_item st hx λh' BC sb=>fin h' BC sb
 done:=by
  intro X hP hw hK hc i pins s σ H E I hf st hg;subst hP hw hK;obtain⟨f0,f1,f2,f3,f4,f5⟩:=hf it (by simp);have hi:x.cps.size<=i:=hg;have hx:x.cps[i]?=none:=by simp[hi]
  rcases hty with rfl | rfl
  ·exact wpAny_pyNext_ascii_end (I.ok.hd hc) st hx λh' eb=>⟨Y,I.turned (t':=s.toks) (λb o hb e=>eb b o hb e) f0 f1 f3 f4 f5⟩
  ·exact wpAny_pyNext_wide_end (I.ok.hd hc) st hx λh' eb=>⟨Y,I.turned (t':=s.toks) (λb o hb e=>eb b o hb e) f0 f1 f3 f4 f5⟩
 self:=λ_ _ _ _ _ st h=>by
  rcases hty with rfl | rfl
  ·exact wpAny_pyIter_striter_ascii st h
  ·exact wpAny_pyIter_striter_wide st h
section
variable {X:Cx}{tg:Expr}
def Ye3(tl:TE):TI:=λσ H R=>tl σ H λx H1=>∃ z,x=.str z/\R (nN z) H1
def Z3e{l:Expr}{tl:TE}(hl:PE X l tl):PI X tg l (Ye3 tl):=by
 intro pins s σ H R I h;refine AN (hl pins s σ H _ I h) λv s1 ⟨x,H1,I1,r1,q1⟩=>?_;obtain⟨z,e,q⟩:=q1;subst e;obtain⟨t,rfl⟩:=r1;have fp:∀ b∈[s1.heap.objs.size],UM X pins H1 b:=λb hb=>by
  have e:b=s1.heap.objs.size:=by simpa using hb
  subst e;exact I1.fpOk (Yf _) (I1.hok.fresh (Yf _))
 cases ha:z.cps.all (·<128)with
 | false =>
  refine wpAny_pyIter_wide ha ?_;exact⟨s1.heap.objs.size,[s1.heap.objs.size],_,_,H1,Y,I1.kept (t':=s1.toks) λb o e=>Ye _ e,ya z t _ "str_iterator" (.inr rfl),⟨_,Yp _ rfl,Y,Y⟩,fp,q⟩
 | true =>
  refine wpAny_pyIter_ascii ha ?_;exact⟨s1.heap.objs.size,[s1.heap.objs.size],_,_,H1,Y,I1.kept (t':=s1.toks) λb o e=>Ye _ e,ya z t _ "str_ascii_iterator" (.inl rfl),⟨_,Yp _ rfl,Y,Y⟩,fp,q⟩
end
def Se(env:Env):List (Str×NameKind)->List (Str×Addr)->List (Str×Addr)
 | [],acc=>acc
 | (n,k):: r,acc=>if(k == NameKind.free)=true then Se env r ((n,(env.cells.lookup n).getD 0):: acc)else Se env r acc
def Zr2{env:Env}{n:Str}{c:Addr}(h:env.cells.lookup n=some c):cellOf env n=pure c:=by
 unfold cellOf;rw[h]
def Zjk{scope:Scope}{env:Env}(h:∀ y∈scope.names,y.2=.free->∃ c,env.cells.lookup y.1=some c):closureFor scope env=pure (Se env scope.names []):=by
 have key:∀(l:List (Str×NameKind)) (acc:List (Str×Addr)),(∀ y∈l,y.2=.free->∃ c,env.cells.lookup y.1=some c) ->
   (forIn l acc λ(x:Str×NameKind) (r:List (Str×Addr))=>(match x with
    | (name,kind)=>if(kind == NameKind.free)=true then(do let a <- cellOf env name;pure (ForInStep.yield ((name,a):: r)))else pure (ForInStep.yield r):Sem (ForInStep (List (Str×Addr)))))=pure (Se env l acc):=by
  intro l
  induction l with
  | nil=>intro acc _;rfl
  | cons y r ih =>
   intro acc hy;obtain⟨n,k⟩:=y;have vL:=λacc=>ih acc λz hz=>hy z (Yr _ hz);rw[gx];by_cases hk:(k == NameKind.free)=true
   ·obtain⟨c,hc⟩:=hy (n,k) Yy (by simpa using hk);have hc:env.cells.lookup n=some c:=hc;simp only[hk,if_true,Zr2 hc];unfold Se;rw[if_pos hk,hc];exact vL _
   ·simp only[hk];unfold Se;rw[if_neg hk];exact vL _
 unfold closureFor;have q:=key scope.names [] h;show((forIn scope.names [] _:Sem (List (Str×Addr)))>>=λr=>pure r)=_
 first
  | (rw[show(forIn scope.names [] _:Sem (List (Str×Addr)))=_ from q];rfl)
  | (refine(congrArg (λm=>m>>=λr=>pure r) q).trans ?_;rfl)
theorem rZ{env:Env}:∀(l:List (Str×NameKind)) (acc:List (Str×Addr)) (x:Str) (c:Addr),(∀ y∈l,y.2=.free->∃ c,env.cells.lookup y.1=some c) ->
  (∀ x c,acc.lookup x=some c->env.cells.lookup x=some c)->(Se env l acc).lookup x=some c->env.cells.lookup x=some c
 | [],acc,x,c,_,ha,h=>ha x c h
 | (n,k):: r,acc,x,c,hy,ha,h=>by
  have hr:∀ y∈r,y.2=.free->∃ c,env.cells.lookup y.1=some c:=λy Uy=>hy y (Yr _ Uy);unfold Se at h;by_cases hk:(k == NameKind.free)=true
  ·rw[if_pos hk]at h;refine rZ r _ x c hr (λz d hz=>?_) h;obtain⟨c',BF⟩:=hy (n,k) Yy (by simpa using hk);have BF:env.cells.lookup n=some c':=BF;rw[Sm]at hz;by_cases e:(z == n)=true
   ·simp only[e]at hz;have e':z=n:=by simpa using e
    rw[e',BF];rw[BF]at hz;exact hz
   ·have e':(z == n)=false:=by simpa using e
    simp only[e']at hz;exact ha z d hz
  ·rw[if_neg hk]at h;exact rZ r acc x c hr ha h
theorem rW{env:Env}:∀(l:List (Str×NameKind)) (acc:List (Str×Addr)) (x:Str),(acc.lookup x).isSome=true->((Se env l acc).lookup x).isSome=true
 | [],acc,x,h=>h
 | (n,k):: r,acc,x,h=>by
  unfold Se;by_cases hk:(k == NameKind.free)=true
  ·rw[if_pos hk];refine rW r _ x ?_;rw[Sm];cases e:(x == n)with
   | true=>rfl
   | false=>exact h
  ·rw[if_neg hk];exact rW r acc x h
theorem qh{env:Env}:∀(l:List (Str×NameKind)) (acc:List (Str×Addr)) (x:Str),(x,NameKind.free)∈l->((Se env l acc).lookup x).isSome=true
 | [],acc,x,h=>nomatch h
 | (n,k):: r,acc,x,h=>by
  unfold Se
  rcases Yv.mp h with e | h
  ·injection e with e1 e2;subst e1;subst e2;rw[if_pos (by decide)];refine rW r _ x ?_;rw[Sm];simp
  ·by_cases hk:(k == NameKind.free)=true
   ·rw[if_pos hk];exact qh r _ x h
   ·rw[if_neg hk];exact qh r _ x h
theorem Zfc{env:Env}:∀ {names:List (Str×NameKind)}{x:Str},names.lookup x=some .free ->
  (names.map λ(n,k)=>if(k == NameKind.free&&env.scope.kind == .function&&env.kindOf n == some .cell)then(n,NameKind.cell)else(n,k)).lookup x=some .cell \/
  (names.map λ(n,k)=>if(k == NameKind.free&&env.scope.kind == .function&&env.kindOf n == some .cell)then(n,NameKind.cell)else(n,k)).lookup x=some .free
 | [],_,h=>by simp at h
 | (n,k):: r,x,h=>by
  have ih:=@Zfc env r x;rw[Yz];show List.lookup x ((if(k == NameKind.free&&env.scope.kind == .function&&env.kindOf n == some .cell)=true then(n,NameKind.cell)else(n,k)):: _)=_\/List.lookup x ((if(k == NameKind.free&&env.scope.kind == .function&&env.kindOf n == some .cell)=true then(n,NameKind.cell)else(n,k)):: _)=_;cases hx:x == n with
  | true =>
   simp only[Sm,hx]at h;cases h;by_cases hc:(NameKind.free == NameKind.free&&env.scope.kind == .function&&env.kindOf n == some .cell)=true
   ·rw[if_pos hc];simp only[Sm,hx];exact .inl trivial
   ·rw[if_neg hc];simp only[Sm,hx];exact .inr trivial
  | false =>
   simp only[Sm,hx]at h;by_cases hc:(k == NameKind.free&&env.scope.kind == .function&&env.kindOf n == some .cell)=true
   ·rw[if_pos hc];simp only[Sm,hx];exact ih h
   ·rw[if_neg hc];simp only[Sm,hx];exact ih h
theorem Zfz{env:Env}:∀ {names:List (Str×NameKind)}{x:Str},
  ((names.map λ(n,k)=>if(k == NameKind.free&&env.scope.kind == .function&&env.kindOf n == some .cell)then(n,NameKind.cell)else(n,k)).lookup x=some .cell \/
  (names.map λ(n,k)=>if(k == NameKind.free&&env.scope.kind == .function&&env.kindOf n == some .cell)then(n,NameKind.cell)else(n,k)).lookup x=some .free) ->
  names.lookup x=some .free\/names.lookup x=some .cell
 | [],_,h=>by simp at h
 | (n,k):: r,x,h=>by
  have ih:=@Zfz env r x;rw[Yz]at h
  change List.lookup x ((if(k == NameKind.free&&env.scope.kind == .function&&env.kindOf n == some .cell)=true then(n,NameKind.cell)else(n,k)):: _)=_\/List.lookup x ((if(k == NameKind.free&&env.scope.kind == .function&&env.kindOf n == some .cell)=true then(n,NameKind.cell)else(n,k)):: _)=_ at h
  cases hx:x == n with
  | true =>
   simp only[Sm,hx];by_cases hc:(k == NameKind.free&&env.scope.kind == .function&&env.kindOf n == some .cell)=true
   ·left;have:(k == NameKind.free)=true:=by
     cases hk:(k == NameKind.free)with
     | true=>rfl
     | false=>rw[hk]at hc;simp at hc
    have:k=NameKind.free:=by simpa using this
    rw[this]
   ·rw[if_neg hc]at h;simp only[Sm,hx]at h
    rcases h with h | h
    ·exact .inr h
    ·exact .inl h
  | false =>
   simp only[Sm,hx];apply ih;by_cases hc:(k == NameKind.free&&env.scope.kind == .function&&env.kindOf n == some .cell)=true
   ·rw[if_pos hc]at h;simp only[Sm,hx]at h;exact h
   ·rw[if_neg hc]at h;simp only[Sm,hx]at h;exact h
abbrev Du(X:Cx)(scope:Scope)(N:LS)(C:Addr)(s:Shared)(H:Hp)(fp:List Addr):Cx :=
 {X with N:=N,s₀:=s,H₀:=H,env:=compEnvC scope (Se X.env scope.names []) C X.env,outer:=X.stack,ex:=fp,fn:=λ_=>false,pn:=[],xe:=λ_ _=>False}
def Xt(n:Nat)(js:LN)(σ:St):St:=List.replicate n none++js.map λj=>(σ[j]?).join
def Z36(n:Nat)(js:LN)(σ:St):(Xt n js σ).length=n + js.length:=by unfold Xt;simp
structure Vb(X:Cx)(scope:Scope)(own frees:LS)(js:LN):Prop where
 calm:X.calm=true
 kind:scope.kind=.function
 nocell:∀ y∈scope.names,y.2≠.cell
 locals:∀ y∈scope.names,y.2=.local->scope.names.lookup y.1=some .local
 fr:∀ y∈scope.names,y.2=.free->X.env.scope.names.lookup y.1=some .cell\/X.env.scope.names.lookup y.1=some .free
 fre:∀ x∈frees,scope.names.lookup x=some .free
 slots:js.map (λj=>X.N[j]?)=frees.map some
def iC(X:Cx)(ifs:List Expr)(t:TT):Prop :=
 ∀(pins:PL) (s:Shared) (σ:St) (H:Hp) (Q:Bool->Hp->Prop),Inv X pins σ H s->t σ H Q ->
  wpAny (model X.prog X.w) X.A (forIn ifs true λc r=>if r=true then do let ok <- isTrue c X.env (eval c X.env);pure (ForInStep.yield ok)else pure (ForInStep.yield r)) (TP X pins σ Q) X.xe s
def XM:TT:=λ_ H Q=>Q true H
def Bn{X:Cx}:iC X [] XM:=λ_ _ _ H _ I h=>wpAny_tests_nil ⟨H,I,h⟩
def Zl{X:Cx}{c:Expr}{t:TT}(h:PT X c t):iC X [c] t:=λpins s σ H Q I q=>wpAny_tests_one (h pins s σ H Q I q)
def AQ(n:Nat)(js:LN)(g:TG)(tt:TT)(te:TE)(σ:St)(Q:VK)(J:It)(H1:Hp):Prop:=∀ D,H1 D=none ->
 ∃ W:Nat->Nat->LV->St->Hp->Prop,(∃ m,W 0 m [] (Xt n js σ) (upd H1 D (.lst [])))/\∀ i m ys σ' H',W i m ys σ' H' ->
  (J.stop i H'/\Q (.ref D) H') \/
  (J.go i H'/\ys.length<sizeLine/\∃ N:LV->St->Hp->Prop,(∀ ZK σ3 H3,N ZK σ3 H3->∃ m',m'<m/\W (i + 1) m' ZK σ3 H3)/\∀ x H2,J.yld i H' x H2->g x σ' H2 λσ3 H3=>tt σ3 H3 λb H4 =>
   if b=true then te σ3 H4 λv H5=>H5 D=some (.lst ys)/\N (ys++[v]) σ3 (upd H5 D (.lst (ys++[v])))
   else N ys σ3 H4)
section
variable {prog:Program}{w:World}{A:Around}{E:EV}{R:Result->Shared->Prop}{s:Shared}
def Zqj{elt target iter:Expr}{ifs:List Expr}{scope:Scope}{pos:Pos}{it acc:Value}{env:Env}(I:Nat->Shared->Prop)
  (turn:∀ n s,I n s->∀ E:EV,wpAny (model prog w) A (pyNext it) (λr s₁=>match r with
   | none=>R (.ok .next) s₁
   | some v=>wpAny (model prog w) A (letOwnedTupleGo target it v) (λ_ ue=>wpAny (model prog w) A (assign target env v) (λ_ s₂ =>
     wpAny (model prog w) A (forIn ifs true λc r=>if r=true then do let ok <- isTrue c env (eval c env);pure (ForInStep.yield ok)else pure (ForInStep.yield r)) (λok s₃ =>
      if ok=true then wpAny (model prog w) A (eval elt env) (λx s₄ =>
       wpAny (model prog w) A (call (.builtin "list.append") [acc,x]) (λ_ s₅=>∃ m,m<n/\I m s₅) E s₄) E s₃
      else ∃ m,m<n/\I m s₃) E s₂) E ue) E s₁) E s)
  (n:Nat) (h:I n s):
  codeAny (model prog w) A (.compLoop (.ListComp elt [⟨target,iter,ifs,0⟩] scope pos) 0 it acc env) R s:=by
 refine codeAny_loop rfl I (λn s hI=>?_) n h;show wpAny _ A ((compTurn (.ListComp elt [⟨target,iter,ifs,0⟩] scope pos) 0 it acc env).onRaise (λx=>do noteFrame x env;theTreesLotGoes x)) _ _ s;refine wpAny_noted ?_;rw[compTurn_list];refine Ja (wpAny_standAt (Ja (Jf (turn n s hI _) (λr s₁ h₁=>?_) λ_ _ h'=>h')));cases r with
 | none=>exact Jd h₁
 | some v =>
  refine Ja (Jf h₁ (λ_ ue h₁'=>?_) λ_ _ h'=>h');refine Ja (Jf h₁' (λ_ s₂ h₂=>Ja (Jf h₂ (λok s₃ h₃=>?_) λ_ _ h'=>h')) λ_ _ h'=>h');cases ok with
  | false=>exact Jd ⟨Y,h₃⟩
  | true =>
   exact Ja (Ja (Jf h₃ (λx s₄ h₄=>Ja (Jf h₄ (λ_ s₅ h₅=>Jd (Jd ⟨Y,h₅⟩)) λ_ _ h'=>h')) λ_ _ h'=>h'))
end
section
variable {X:Cx}{pins:PL}{σ:St}{scope:Scope}{own frees:LS}{js:LN}
theorem Vb.cells(c:Vb X scope own frees js)(ok:X.Ok):∀ y∈scope.names,y.2=.free->∃ a,X.env.cells.lookup y.1=some a:=λy hy e=>by
 rcases c.fr y hy e with h | h
 ·exact ok.has y.1 (.inl h)
 ·exact ok.has y.1 (.inr h)
def Vb.cl(c:Vb X scope own frees js)(ok:X.Ok){x:Str}{a:Addr}(h:(Se X.env scope.names []).lookup x=some a):X.env.cells.lookup x=some a :=
 rZ scope.names [] x a (c.cells ok) (λ_ _ z=>by simp at z) h
def Vb.has(c:Vb X scope own frees js){x:Str}(h:scope.names.lookup x=some .free):∃ a,(Se X.env scope.names []).lookup x=some a :=
 sW.mp (qh scope.names [] x (Xm h))
theorem Vb.ok{s2:Shared}{H2:Hp}{fp:List Addr}{C:Addr}(c:Vb X scope own frees js)(I:Inv X pins σ H2 s2)(f2:∀ b∈fp,UM X pins H2 b)(BK:∀ b∈fp,b<s2.heap.objs.size)(hC:s2.heap.objs.size<=C)(N:LS):
  (Du X scope N C s2 H2 fp).Ok where
 mod:=I.ok.mod
 kind:=c.kind
 glob:=I.ok.glob
 blt:=I.ok.blt
 above:=hC
 inj:=λx y a h1 h2=>I.ok.inj x y a (c.cl I.ok h1) (c.cl I.ok h2)
 has:=λx h=>by
  have h':scope.names.lookup x=some .free\/scope.names.lookup x=some .cell:=Zfz (env:=X.env) h
  rcases h' with h' | h'
  ·exact c.has h'
  ·exact absurd rfl (c.nocell _ (Xm h'))
 cab:=λx a h=>absurd (show false=true from h) Yq
 hd:=λh=>I.ok.hd h
 frames:=I.ok.frames
 stk:=.inl rfl
 exf:=λb hb=>⟨Yx (B2 (BK b hb) hC),λx a h=>(f2 b hb).2.2.2.2.1 x a (c.cl I.ok h)⟩
 bs:=I.bs
 bsz:=B0 I.ok.bsz I.sz
 noex:=λb o e hb=>by
  rcases(f2 b hb).2.2.2.1 with z | z
  ·exact I.ok.noex b o e z
  ·exact absurd (B2 (Yk e) (B0 I.ok.bsz z)) (W7 _)
 exfs:=λb hb z=>by
  rcases Yv.mp (I.stkSub b z)with e | e
  ·exact(f2 b hb).2.1 e
  ·exact(f2 b hb).2.2.1 e
 funs:=I.stack
 frf:=I.stkFree
def Zm5{s2:Shared}{tg iter elt:Expr}{ifs:List Expr}{pos:Pos}{g:TG}{tt:TT}{te:TE}{Q:VK}{RR:Value->Addr->Result->Shared->Prop}{itv:Value}{E:EV}
  (c:Vb X scope own frees js)
  (hg:∀ C s H fp,PG (Du X scope (own++frees) C s H fp) tg g) (ht:∀ C s H fp,iC (Du X scope (own++frees) C s H fp) ifs tt) (he:∀ C s H fp,PE (Du X scope (own++frees) C s H fp) elt te)
  (h:tF X pins σ tg (AQ own.length js g tt te σ Q) itv s2)
  (hR:∀ D C H' s',Inv X pins σ H' s'->UM X pins H' C->(∃ m,s'.heap.Ns C m)->Q (.ref D) H'->RR (.ref D) C (.ok .next) s'):
  wpAny (model X.prog X.w) X.A (newList []) (λacc s₃=>wpAny (model X.prog X.w) X.A (newFunctionEnv scope X.env.globals (Se X.env scope.names []) [] X.env.qual none .none (some X.env)) (λcenv s₄ =>
   codeAny (model X.prog X.w) X.A (.compStart (.ListComp elt [⟨tg,iter,ifs,0⟩] scope pos) 0 itv acc {cenv with scope:=relabel scope X.env}) (RR acc cenv.locals) s₄) E s₃) E s2:=by
 obtain⟨it,fp,tn,J,H2,e,I2,T,W_,f2,hq⟩:=h;subst e;refine wpAny_newObj_type (wpAny_newFunctionEnv c.nocell (by intro y hy;simp at hy) (λh₁ hns₁ hsb₁=>?_) c.kind);dsimp only at hns₁ hsb₁ ⊢;generalize pG:s2.heap.push {cls:=.type "list",dict:=none,data:=.seq ([]:LU).toArray}=G2 at hns₁ hsb₁ ⊢;have hC:G2.objs.size=s2.heap.objs.size + 1:=by rw[<- pG,Wy]
 have hDC:s2.heap.objs.size≠G2.objs.size:=by rw[hC];exact Yx (Nat.lt_succ_self _)
 have hCle:s2.heap.objs.size<=G2.objs.size:=by rw[hC];exact Nat.le_succ _
 have old:∀ b o,s2.heap.get? b=some o->h₁.get? b=some o:=λb o e=>by
  have hb:=Yk e;exact hsb₁.extBut b o (by rw[hC];exact Yx (Nat.lt_succ_of_lt hb)) (Ye _ (pG ▸ Ye _ e))
 have hD:H2 s2.heap.objs.size=none:=I2.hok.fresh (Yf _);have BK:∀ b∈fp,b<s2.heap.objs.size:=λb hb=>by
  obtain⟨o,e,_⟩:=T.obj _ _ W_ b hb;exact Yk e
 have B3:h₁.get? s2.heap.objs.size=some {cls:=.type "list",data:=.seq ([]:LU).toArray}:=hsb₁.extBut _ _ hDC (Ye _ (pG ▸ Yp _ rfl));obtain⟨W,⟨m0,w0⟩,turn⟩:=hq _ hD;have I0:∀ tk,Inv (Du X scope (own++frees) G2.objs.size s2 H2 fp) [] (Xt own.length js σ) (upd H2 s2.heap.objs.size (.lst [])) {s2 with heap:=h₁,toks:=tk}:=λtk=>by
  refine⟨c.ok I2 f2 BK hCle _,Y,I2.bare,Un.laid old (Yf _) hD,⟨_,hns₁,λi x v h1 h2 h3=>?_⟩,λx a h=>?_,?_,λx a h=>?_,λp hp=>absurd (show p∈([]:PL)from hp) (by simp),I2.hok.laid old (Yf _) ⟨Ax _,[],0,.nil,B3⟩,?_⟩
  ·have hi:own.length<=i:=by
    by_cases hi:i<own.length
    ·unfold Xt at h2;rw[cY (by simpa using hi),List.getElem?_replicate]at h2;rw[if_pos hi]at h2;cases h2
    ·omega
   have hx:frees[i - own.length]?=some x:=by
    have ji:(own++frees)[i]?=some x:=h1
    rwa [Xl hi]at ji
   have vq:(js.map λj=>(σ[j]?).join)[i - own.length]?=some (some v):=by
    unfold Xt at h2;rw[Xl (by simpa using hi)]at h2;simpa using h2
   rw[Yj]at vq;obtain⟨j,hj,hjv⟩:=CV.mp vq;have hs:=congrArg (λl=>l[i - own.length]?) c.slots;rw[Yj,Yj,hj,hx]at hs;have hNj:X.N[j]?=some x:=Ym hs;have hσ:σ[j]?=some (some v):=by
    cases q:σ[j]? with
    | none=>rw[q]at hjv;cases hjv
    | some o =>
     rw[q]at hjv;have:o=some v:=hjv;rw[this]
   have hfree:=c.fre x (Yd hx);have hXk:=c.fr (x,.free) (Xm hfree) rfl;obtain⟨m,hn,hl⟩:=I2.loc;have vis:nF X.env.scope x:=by rcases hXk with k | k;exact .inr (.inl k);exact .inr (.inr k)
   obtain⟨u,r,l⟩:=hl j x v hNj hσ vis;refine⟨u,r,.inr ⟨Zfc (env:=X.env) hfree,?_⟩⟩
   rcases l with⟨hk,_⟩ | ⟨_,a,ha,hcell⟩
   ·rcases hXk with k | k
    ·have hk:X.env.scope.names.lookup x=some .local:=hk;rw[show X.env.scope.names.lookup x=some .cell from k]at hk;cases hk
    ·have hk:X.env.scope.names.lookup x=some .local:=hk;rw[show X.env.scope.names.lookup x=some .free from k]at hk;cases hk
   ·obtain⟨a',vd⟩:=c.has hfree;have e:=c.cl I2.ok vd;rw[ha]at e;cases e;obtain⟨o,ho,hd⟩:=hcell;exact⟨a,vd,o,old a o ho,hd⟩
  ·obtain⟨v,o,ho,hd⟩:=I2.cell x a (c.cl I2.ok h);exact⟨v,o,old a o ho,hd⟩
  ·show upd H2 s2.heap.objs.size (.lst []) G2.objs.size=none;rw[AD (Ae hDC)];exact I2.hok.fresh hCle
  ·obtain⟨v,o,ho,hd⟩:=I2.cell x a (c.cl I2.ok h);rw[AD (Yx (Yk ho))];exact I2.freeC x a (c.cl I2.ok h)
  ·rw[Z36,Yc];have:=congrArg List.length c.slots;rw[Ya,Ya]at this;omega
 have stat:∀ {H':Hp},(∀ b∈fp,H' b=none)->∀ b∈fp,UM (Du X scope (own++frees) G2.objs.size s2 H2 fp) [] H' b:=λ{H'} hn b hb=>by
  obtain⟨f0,f1,f3,f4,f5,f6⟩:=f2 b hb;refine⟨hn b hb,Yx (B2 (BK b hb) hCle),λz=>?_,.inl hb,λx a h=>f5 x a (c.cl I2.ok h),λp hp=>absurd (show p∈([]:PL)from hp) (by simp)⟩
  rcases Yv.mp (I2.stkSub b z)with e | e
  ·exact f1 e
  ·exact f3 e
 have loop:∀ s₃:Shared,s₃={s2 with heap:=h₁,toks:=s2.toks + ([]:List (Str×Value)).length} ->
   codeAny (model X.prog X.w) X.A (.compLoop (.ListComp elt [⟨tg,iter,ifs,0⟩] scope pos) 0 (.ref it) (.ref s2.heap.objs.size) (compEnvC scope (Se X.env scope.names []) G2.objs.size X.env))
    (RR (.ref s2.heap.objs.size) G2.objs.size) s₃:=by
  rintro s₃ rfl;refine Zqj (λn s'=>∃ i ys σ' H',Inv (Du X scope (own++frees) G2.objs.size s2 H2 fp) [] σ' H' s'/\tn i s'.heap/\(∀ b∈fp,H' b=none)/\W i n ys σ' H') ?_ m0
   ⟨0,[],_,_,I0 _,T.keep _ _ _ W_ λb _ o e=>old b o e,λb hb=>by rw[AD (Yx (BK b hb))];exact(f2 b hb).1,w0⟩
  rintro n s3 ⟨i,ys,σ3,H3,I3,c_,eT,w3⟩ E'
  rcases turn i n ys σ3 H3 w3 with⟨stop,qn⟩ | ⟨go,hz,N,hN,step⟩
  ·refine AN (T.done (Du X scope (own++frees) G2.objs.size s2 H2 fp) rfl rfl rfl c.calm i [] s3 σ3 H3 E' I3 (stat eT) c_ stop) λr s4 ⟨hr,I4⟩=>?_;subst hr;have back:Inv X pins σ H3 s4:=I2.call' (ch:=fp) I4.os I4.base I4.hok I4.bare λb hb=>⟨(f2 b hb).2.2.2.1,(f2 b hb).2.1,(f2 b hb).2.2.2.2.1,(f2 b hb).2.2.2.2.2⟩;exact hR _ _ H3 s4 back (I2.fpOk hCle I4.free) ⟨_,I4.loc.choose_spec.1⟩ qn
  ·refine AN (T.item (Du X scope (own++frees) G2.objs.size s2 H2 fp) rfl rfl rfl c.calm i [] s3 σ3 H3 E' I3 (stat eT) c_ go) λr s4 ⟨u,hr,h4⟩=>?_;subst hr;refine AN h4 λ_ s5 ⟨x,H5,I5,r5,y5,ZL,pO⟩=>?_;have tJ:=I5.pinned (stat pO) (T.obj _ _ ZL);have nof:∀(e:Value) (s':Shared),(Du X scope (own++frees) G2.objs.size s2 H2 fp).xe e s'->E' e s':=λ_ _ z=>False.elim z;refine Jf (hg _ _ _ _ _ s5 σ3 H5 x u _ tJ r5 (step x H5 y5)) (λ_ s6 ⟨σ6,H6,I6,q6⟩=>?_) nof;refine Jf (ht _ _ _ _ _ s6 σ6 H6 _ I6 q6) (λb s7 ⟨H7,I7,q7⟩=>?_) nof;have again:∀ {σ7:St} {H7:Hp} {s7:Shared} {nX:LV},Inv (Du X scope (own++frees) G2.objs.size s2 H2 fp) ([]++fQ fp s5.heap) σ7 H7 s7->N nX σ7 H7 ->
     ∃ m,m<n/\∃ i ys σ' H',Inv (Du X scope (own++frees) G2.objs.size s2 H2 fp) [] σ' H' s7/\tn i s7.heap/\(∀ b∈fp,H' b=none)/\W i m ys σ' H':=λ{σ7 H7 s7 nX} I7 n7=>by
    obtain⟨m',hm,w7⟩:=hN _ _ _ n7;refine⟨m',hm,i + 1,nX,σ7,H7,I7.unpinned,T.keep _ _ _ ZL λb hb o e=>(I7.pin (b,o) (Ut _ (Ut _ (lE hb e)))).1,λb hb=>?_,w7⟩;obtain⟨o,e,d⟩:=T.obj _ _ ZL b hb;exact(I7.pin (b,o) (Ut _ (Ut _ (lE hb e)))).2.1
   cases b with
   | false =>
    rw[if_neg Yq]at q7 ⊢;exact again I7 q7
   | true =>
    rw[if_pos rfl]at q7 ⊢;refine Jf (he _ _ _ _ _ s7 σ6 H7 _ I7 q7) (λv s8 ⟨y,H8,I8,r8,bF,w8⟩=>?_) nof;refine Jf (Di (X:=Du X scope (own++frees) G2.objs.size s2 H2 fp) _ s8 σ6 H8 (.ref s2.heap.objs.size) [y] (.ref s2.heap.objs.size) [v] (λ_ H9=>H9=upd H8 s2.heap.objs.size (.lst (ys++[y]))) I8 rfl (.cons r8 .nil) ⟨_,ys,y,Y,Y,bF,hz,Y⟩) (λz s9 ⟨_,H9,I9,_,e9⟩=>?_) nof;subst e9;exact again I9 w8
 exact codeAny_compStart_list (loop _ rfl) (T.self X.A 0 _ _ _ (T.keep _ _ _ W_ λb _ o e=>old b o e) (loop _ rfl))
end
section
variable {X:Cx}{scope:Scope}{own frees:LS}{js:LN}{tg iter elt:Expr}{ifs:List Expr}{wi:TI}{g:TG}{tt:TT}{te:TE}{pos:Pos}
def Z9u(n:Nat)(js:LN)(wi:TI)(g:TG)(tt:TT)(te:TE):TE:=λσ H Q=>wi σ H (AQ n js g tt te σ Q)
def Bm(own frees:LS)(js:LN)(hc:X.Ok->Vb X scope own frees js)(hi:PI X tg iter wi)
  (hg:∀ C s H fp,PG (Du X scope (own++frees) C s H fp) tg g) (ht:∀ C s H fp,iC (Du X scope (own++frees) C s H fp) ifs tt) (he:∀ C s H fp,PE (Du X scope (own++frees) C s H fp) elt te)
  (hs:∀ x,foldedSetIterable iter X.env x=pure x:=by intro _;rfl):
  PE X (.ListComp elt [⟨tg,iter,ifs,0⟩] scope pos) (Z9u own.length js wi g tt te):=by
 ac_rfl;have c:=hc I.ok;rw[eval_ListComp];refine wpAny_comprehension_free (use:=none) rfl hs (Zjk (c.cells I.ok)) c.kind c.locals (AN (hi pins s σ H _ I h) λxv s₁ h₁=>AN h₁ λit s₂ h₂=>?_);refine Zm5 (RR:=λacc C=>compPost (model X.prog X.w) X.A X.xe none (EP X pins σ Q) acc C) c hg ht he h₂ λD C H' s' J F n q=>?_;obtain⟨m,hn⟩:=n;obtain⟨f0,f1,f2,f3,f4,f5⟩:=F;exact⟨m,hn,λh' oj=>⟨.ref D,H',J.turned (t':=s'.toks) (λb o hb e=>oj.extBut b o hb e) f0 f1 f3 f4 f5,Y,q⟩⟩
def Z0j(k n:Nat)(js:LN)(wi:TI)(g:TG)(tt:TT)(te:TE):TS:=λD σ H=>wi σ H (AQ n js g tt te σ λv H1=>D.nx (σ.set k (some v)) H1)
def Zw{k:Nat}{y:Str}{py spos:Pos}(own frees:LS)(js:LN)(hN:X.N.Nodup)(hk:X.N[k]?=some y)(hy:X.env.scope.names.lookup y=some .local)(hc:X.Ok->Vb X scope own frees js)(hi:PI X tg iter wi)
  (hg:∀ C s H fp,PG (Du X scope (own++frees) C s H fp) tg g) (ht:∀ C s H fp,iC (Du X scope (own++frees) C s H fp) ifs tt) (he:∀ C s H fp,PE (Du X scope (own++frees) C s H fp) elt te)
  (hsw:swapsWith (.ListComp elt [⟨tg,iter,ifs,0⟩] scope pos) (some (.Name y py)) spos.line X.env=pure true:=by rfl)
  (hs:∀ x,foldedSetIterable iter X.env x=pure x:=by intro _;rfl):
  PS X (.Assign [.Name y py] (.ListComp elt [⟨tg,iter,ifs,0⟩] scope pos) spos) (Z0j k own.length js wi g tt te):=by
 intro pins s σ H D I h;have c:=hc I.ok;rw[exec_Assign_Name_used _ _ _ _ hsw];refine Ja (wpAny_standAt (Ja ?_));show wpAny _ X.A (do let _ <- comprehension (.ListComp elt [⟨tg,iter,ifs,0⟩] scope pos) scope X.env _ (newList []) false (eval iter X.env) (some (assign (.Name y py) X.env))) _ _ s;refine Ja (Jf (wpAny_comprehension_free (use:=some (assign (.Name y py) X.env)) (Q:=λ_ s'=>SP X pins D .next s') rfl hs (Zjk (c.cells I.ok)) c.kind c.locals
  (AN (hi pins s σ H _ I h) λxv s₁ h₁=>AN h₁ λit s₂ h₂=>?_)) (λ_ s' hq=>Jd (Jd hq)) λ_ _ e=>e)
 refine Zm5 (RR:=λacc C=>compPost (model X.prog X.w) X.A X.xe (some (assign (.Name y py) X.env)) (λ_ s'=>SP X pins D .next s') acc C) c hg ht he h₂ λA' C H' s' J F n q=>?_;obtain⟨m,hn⟩:=n;obtain⟨f0,f1,f2,f3,f4,f5⟩:=F;show wpAny _ X.A (assign (.Name y py) X.env (.ref A')) _ _ _;refine wpAny_assign_Name (zq J hN hk (.inl hy) (v:=.ref A') rfl (λDV J' ⟨a,sb,ha⟩=>?_) (.inr hy));have BJ:a≠C:=by
  rcases ha with e | e
  ·rw[e];exact Ae f1
  ·exact f4 y a e
 refine⟨m,hn.sameBut sb (Ae BJ),λh' oj=>⟨_,H',J'.turned (t':=DV.toks) (λb o hb e=>oj.extBut b o hb e) f0 f1 f3 f4 f5,q⟩⟩
end
def VC{J:It}{xs:LV}{Ok:Hp->Prop}(R:Sd J xs Ok){n:Nat}{js:LN}{g:TG}{tt:TT}{te:TE}{σ:St}{Q:VK}{H1:Hp}(hz:xs.length<=sizeLine)
  (Pv:Addr->Nat->LV->St->Hp->Prop) (h0:∀ D,H1 D=none->Pv D 0 [] (Xt n js σ) (upd H1 D (.lst [])))
  (hok:∀ D i ys σ' H,i<=xs.length->Pv D i ys σ' H->Ok H/\ys.length<=i)
  (hs:∀ D i x ys σ' H,H1 D=none->xs[i]?=some x->Pv D i ys σ' H->g x σ' H λσ3 H3=>tt σ3 H3 λb H4 =>
   if b=true then te σ3 H4 λv H5=>H5 D=some (.lst ys)/\Pv D (i + 1) (ys++[v]) σ3 (upd H5 D (.lst (ys++[v])))else Pv D (i + 1) ys σ3 H4)
  (hd:∀ D ys σ' H,H1 D=none->Pv D xs.length ys σ' H->Q (.ref D) H):
  AQ n js g tt te σ Q J H1:=by
 intro D hD;refine⟨λi m ys σ' H=>m=xs.length - i/\i<=xs.length/\Pv D i ys σ' H,⟨xs.length,by simp,Ax _,h0 D hD⟩,?_⟩;rintro i m ys σ' H ⟨rfl,hi,p⟩;obtain⟨q,hy⟩:=hok D i ys σ' H hi p;by_cases BK:i<xs.length
 ·have hx:xs[i]?=some xs[i]:=by simp[BK]
  refine .inr ⟨R.go i _ H q hx,W,Pv D (i + 1),λZK σ3 H3 p3=>⟨xs.length - (i + 1),W,Y,BK,p3⟩,λx H' y=>?_⟩;obtain⟨e1,e2⟩:=R.yld i _ H x H' q hx y;rw[e2];exact hs D i x ys σ' H hD (by rw[e1];exact hx) p
 ·have e:i=xs.length:=by omega
  subst e;exact .inl ⟨R.stop H q,hd D ys σ' H hD p⟩
def YQ{J:It}{xs:LV}{Ok:Hp->Prop}(R:Sd J xs Ok){js:LN}{tt:TT}{te:TE}{σ:St}{Q:VK}{H1:Hp}(hz:xs.length<=sizeLine)(p:V->Bool)(f:V->V)
  (hok:∀ D ys,H1 D=none->Ok (upd H1 D (.lst ys)))
  (ht:∀ D ys x (R:Bool->Hp->Prop),H1 D=none->x∈xs->R (p x) (upd H1 D (.lst ys))->tt (some x :: js.map λj=>(σ[j]?).join) (upd H1 D (.lst ys)) R)
  (he:∀ D ys x (R:V->Hp->Prop),H1 D=none->x∈xs->p x=true->R (f x) (upd H1 D (.lst ys))->te (some x :: js.map λj=>(σ[j]?).join) (upd H1 D (.lst ys)) R)
  (hd:∀ D,H1 D=none->Q (.ref D) (upd H1 D (.lst ((xs.filter p).map f)))):
  AQ 1 js (Ck 0) tt te σ Q J H1:=by
 refine VC R hz (λD i ys σ' H=>H1 D=none/\ys=((xs.take i).filter p).map f/\(∃ o,σ'=o :: js.map λj=>(σ[j]?).join)/\H=upd H1 D (.lst ys)) ?_ ?_ ?_ ?_
 ·intro D hD;exact⟨hD,by simp,⟨none,Y⟩,Y⟩
 ·rintro D i ys σ' H hi ⟨hD,e,_,rfl⟩;refine⟨hok D ys hD,?_⟩;rw[e,Ya];exact B0 (Xj _ _) (by rw[Bg];omega)
 ·rintro D i x ys σ' H hD hx ⟨_,e,⟨o,rfl⟩,rfl⟩;show tt (some x :: js.map λj=>(σ[j]?).join) (upd H1 D (.lst ys)) _;have hm:x∈xs:=Yd hx;refine ht D ys x _ hD hm ?_;cases hp:p x with
  | true =>
   rw[if_pos rfl];refine he D ys x _ hD hm hp ⟨uS,hD,?_,⟨Z⟩,YG⟩;rw[take_succ_filter p xs i x hx,hp,Ys,e];rfl
  | false =>
   rw[if_neg Yq];refine⟨hD,?_,⟨Z⟩,Y⟩;rw[take_succ_filter p xs i x hx,hp,Ys,e];simp
 ·rintro D ys σ' H hD ⟨_,e,_,rfl⟩;rw[Bs]at e;rw[e];exact hd D hD
section
variable {X:Cx}
def y0{bs:List Bool}{its:LU}(r:Ac (bs.map V.bl) its):∀(i:Nat) (v:Value),its[i]?=some v->v=Value.bool (bs.getD i false):=λi v h=>by
 have hl:=r.length;rw[Ya]at hl;have hi:i<its.length:=(Yi.mp h).1;have hb:(bs.map V.bl)[i]?=some (V.bl (bs.getD i false)):=by
  rw[Yj,Yl];have:i<bs.length:=by omega
  simp[this]
 obtain⟨u,hu,ru⟩:=r.get hb;rw[h]at hu;cases hu;exact ru
def Zxa{bs:List Bool}:(List.range bs.length).all (λi=>bs.getD i false)=bs.all id:=by
 rw[W0];simp only[CL,VG,id];constructor
 ·intro h b hb;obtain⟨i,hi,e⟩:=mr.mp hb;have:=h i hi;rw[Yl]at this;simpa[hi,e]using this
 ·intro h i hi;rw[Yl];simp only[Yb hi,Y5];exact h _ (Z9 hi)
def Zw9{bs:List Bool}:(List.range bs.length).any (λi=>bs.getD i false)=bs.any id:=by
 rw[W0];simp only[Xk,VG,id];constructor
 ·rintro⟨i,hi,e⟩;rw[Yl]at e;simp only[Yb hi,Y5]at e;exact⟨_,Z9 hi,e⟩
 ·rintro⟨b,hb,e⟩;obtain⟨i,hi,e'⟩:=mr.mp hb;refine⟨i,hi,?_⟩;rw[Yl];simp only[Yb hi,Y5];rw[e',e]
def mW(K:Fg)(f:List Bool->Bool):LV->Hp->VK->Prop:=λxs H Q=>∃ a bs,xs=[.ref a]/\SqL K H a (bs.map V.bl)/\Q (.bl (f bs)) H
def bg(hc:X.calm=true):UN X (.builtin "all") (mW X.K λbs=>bs.all id):=by
 intro pins s σ H xs us Q I r h;obtain⟨a,bs,rfl,ha,q⟩:=h;obtain⟨u,rfl,ru⟩:=U7 r;cases ru;obtain⟨its,rv,p,hz⟩:=I.list ha;have hl:=rv.length;rw[Ya]at hl;refine call_all_walk (wpAny_pyIter_list p.isList ?_);have BJ:a≠s.heap.objs.size:=by
  obtain⟨o,ho,_⟩:=p.isList;exact Yx (Yk ho)
 refine⟨s.heap.objs.size,_,_,_,_,_,λi=>bs.getD i false,Y,Walks.list (A:=X.A.in1) (I.ok.hd hc) s.heap.objs.size a BJ its.toArray,⟨⟨_,Yp _ rfl,Y,Y⟩,?_⟩,?_,?_⟩
 ·obtain⟨o,ho,r'⟩:=p.isList;exact⟨o,Ye _ ho,r'⟩
 ·intro i v s' Q' E' hv hq;have e:=y0 rv i v (by simpa using hv);subst e;exact Jh hq
 ·intro h' tk hk;refine⟨.bl (bs.all id),H,I.kept λb o e=>hk b o ?_ (Ye _ e),?_,q⟩
  ·have hb:=Yk e;intro z;have z':b=s.heap.objs.size:=by simpa using z
   exact Yx hb z'
  ·have:its.toArray.size=bs.length:=by simp[hl]
   rw[this,Zxa];rfl
def xo(hc:X.calm=true):UN X (.builtin "any") (mW X.K λbs=>bs.any id):=by
 intro pins s σ H xs us Q I r h;obtain⟨a,bs,rfl,ha,q⟩:=h;obtain⟨u,rfl,ru⟩:=U7 r;cases ru;obtain⟨its,rv,p,hz⟩:=I.list ha;have hl:=rv.length;rw[Ya]at hl;refine call_any_walk (wpAny_pyIter_list p.isList ?_);have BJ:a≠s.heap.objs.size:=by
  obtain⟨o,ho,_⟩:=p.isList;exact Yx (Yk ho)
 refine⟨s.heap.objs.size,_,_,_,_,_,λi=>bs.getD i false,Y,Walks.list (A:=X.A.in1) (I.ok.hd hc) s.heap.objs.size a BJ its.toArray,⟨⟨_,Yp _ rfl,Y,Y⟩,?_⟩,?_,?_⟩
 ·obtain⟨o,ho,r'⟩:=p.isList;exact⟨o,Ye _ ho,r'⟩
 ·intro i v s' Q' E' hv hq;have e:=y0 rv i v (by simpa using hv);subst e;exact Jh hq
 ·intro h' tk hk;refine⟨.bl (bs.any id),H,I.kept λb o e=>hk b o ?_ (Ye _ e),?_,q⟩
  ·have hb:=Yk e;intro z;have z':b=s.heap.objs.size:=by simpa using z
   exact Yx hb z'
  ·have:its.toArray.size=bs.length:=by simp[hl]
   rw[this,Zw9];rfl
def Yby(i j:Int):Prop:=Builtin.Int.intBits i<=2 ^ 20/\Builtin.Int.intBits j<=2 ^ 20
def qT:BO X (binaryOp .Mult) (rI Yby λi j=>.int (i * j)):=ai λ_ _ _ _ _ _ _ hc q=>mul_int q (IntMulOk.of_bits hc.1 hc.2)
def Yb0(i j:Int):Prop:=0<j/\j<4611686018427387904
def Z00:BO X (binaryOp .FloorDiv) (rI Yb0 λi j=>.int (i / j)):=ai λi j _ _ _ _ _ hc q=>by
 have h1:(0:Int)<j:=hc.1;have h2:j<4611686018427387904:=hc.2;refine floordiv_int (by omega) (by rw[Int.fdiv_eq_ediv_of_nonneg i (by omega)];exact q) (.inl (PyProof.noPylong_of_log2 ?_));have h3:j.natAbs.log2<62:=(Nat.log2_lt (by omega)).mpr (by omega);omega
def cU:V->Option Int->Option Int->Hp->VK->Prop:=λx lo hi H Q=>∃ z,x=.str z/\z.length<=sizeLine/\Q (.str (Txt.slice z lo hi)) H
def Zk:iB X cU:=by
 intro pins s σ H x v vl vu lo hi sl Q I rx hs pl pu h;obtain⟨z,rfl,hz,q⟩:=h;obtain⟨t,rfl⟩:=rx;refine⟨"str",_,F.slot_str_getitem.lookup,typeIs_str _ _ _,?_⟩;have fin:∀ t' k,EP X pins σ Q (.str (Txt.slice z lo hi) t') {s with toks:=k}:=λt' k=>⟨.str _,H,I.tok _,⟨Z⟩,q⟩;have hsz:=B0 (Txt.slice_le z lo hi) hz;obtain⟨o,h1,h2,h3⟩:=hs;cases pl with
 | none =>
  cases pu with
  | none=>exact wpAny_getItem_str_slice (l:=none) (u:=none) (st:=none) ⟨o,h1,h2,h3⟩ rfl (post_val_or_str ⟨hsz,fin⟩)
  | int j uj=>exact wpAny_getItem_str_slice (l:=none) (u:=some (j,uj)) (st:=none) ⟨o,h1,h2,h3⟩ rfl (post_val_or_str ⟨hsz,fin⟩)
 | int i ui =>
  cases pu with
  | none=>exact wpAny_getItem_str_slice (l:=some (i,ui)) (u:=none) (st:=none) ⟨o,h1,h2,h3⟩ rfl (post_val_or_str ⟨hsz,fin⟩)
  | int j uj=>exact wpAny_getItem_str_slice (l:=some (i,ui)) (u:=some (j,uj)) (st:=none) ⟨o,h1,h2,h3⟩ rfl (post_val_or_str ⟨hsz,fin⟩)
def Yes(K:Fg):LV->Hp->VK->Prop:=λxs H Q=>∃ x n t b,xs=[x,.ty n]/\U5 K H x t/\W.kitOne K t (.type n)=some b/\Q (.bl b) H
def bh:UN X (.builtin "isinstance") (Yes X.K):=by
 intro pins s σ H xs us Q I r h;obtain⟨x,n,t,b,rfl,ty,e,q⟩:=h;obtain⟨u,w',rfl,r1,r2⟩:=mh r;cases r2;exact Zyv I r1 ty e λtk=>⟨.bl b,H,I.tok _,Y,q⟩
end
def Z83(osc:Scope)(on:LS)(scope:Scope)(frees:LS)(js:LN):Bool :=
 (scope.kind == .function)&&scope.names.all (λy=>y.2 != .cell)&&scope.names.all (λy=>y.2 != .local || scope.names.lookup y.1 == some .local) &&
 scope.names.all (λy=>y.2 != .free || (osc.names.lookup y.1 == some .cell || osc.names.lookup y.1 == some .free))&&frees.all (λx=>scope.names.lookup x == some .free)&&decide (js.map (λj=>on[j]?)=frees.map some)
def BH{X:Cx}{osc scope:Scope}{on own frees:LS}{js:LN}(h:Z83 osc on scope frees js=true)(h1:X.env.scope=osc)(h2:X.N=on)(h3:X.calm=true):Vb X scope own frees js:=by
 subst h1;subst h2;unfold Z83 at h;simp only[B1,CL,decide_eq_true_eq,Bool.or_eq_true,bne_iff_ne,beq_iff_eq,ne_eq]at h;obtain⟨⟨⟨⟨⟨a,b⟩,c⟩,d⟩,e⟩,f⟩:=h;exact⟨h3,a,b,λy hy z=>(c y hy).resolve_left (λq=>q z),λy hy z=>(d y hy).resolve_left (λq=>q z),e,f⟩
def Z5(t u:TS):TS:=λD σ H=>∃ M:SW,t {D with nx:=M} σ H/\∀ σ' H',M σ' H'->u D σ' H'
def XS{X:Cx}{st:Stmt}{Dd:List Stmt}{t u:TS}(h1:PS X st t)(h2:CY X Dd u):CY X (st :: Dd) (Z5 t u):=by
 intro pins s σ H D I h;obtain⟨M,h,hM⟩:=h;refine wpAny_execs_cons (AN (h1 pins s σ H {D with nx:=M} I h) λf s1 q=>?_);cases f with
 | next =>
  obtain⟨σ',H',I',q⟩:=q;exact h2 pins s1 σ' H' D I' (hM _ _ q)
 | ret v=>exact q
 | brk=>exact q
 | cont=>exact q
structure Def(K:Fg)(mg:Str->OU)(x:Str)(st:Stmt)(ps:LS)(f:Addr)(fd:FuncData):Prop where
 fn:Bu K x x st f fd
 b:Cb K fd ps []
 m:mg x=some (.ref f)
def AL{X:Cx}{k:Nat}{ps:LS}{sp:Sp}{x:Str}{st:Stmt}{p pos:Pos}{e:Expr}{es:List Expr}{t:TA}(d:Def X.K X.mg x st ps f fd)(F:Uq X.prog X.w X.K X.mg X.base Y7 k f fd ps sp)(hr:Af k X.A)
  (ha:PA X (e :: es) t) (hg:Gl X x:=by rfl) (hdb:(x == ("__debug__":Str))=false:=by decide) (he:starEach (e :: es) X.env=(false,eval e X.env):: starEach es X.env:=by rfl) (hpl:(backTo pos (starEach es X.env)).any (·.1)=false:=by rfl):
  PE X (.Call (.Name x p) (e :: es) [] pos) (Z6q sp [] E0 t):=Z4l F hr hg d.m d.fn.kp d.b .nil BA ha hdb he hpl
def sL{n:Nat}(h:n<=100000):n<=sizeLine:=by rw[sizeLine_eq];omega
end L2
namespace L2
open PySem PySem.Spec PyProof.Rows PySem.W
mutual
inductive Rep(K:Fg)(H:Hp):V->Dat->Prop
 | none:Rep K H .non .none
 | bool (b:Bool):Rep K H (.bl b) (.bool b)
 | int (i:Int):Rep K H (.int i) (.int i)
 | str (x:Str):Rep K H (.str x) (.str x)
 | tuple {a:Addr} {xs:LV} {ds:List Dat}:AH K H a xs->A4 K H xs ds->Rep K H (.ref a) (.tuple ds)
 | list {a:Addr} {xs:LV} {ds:List Dat}:SqL K H a xs->A4 K H xs ds->Rep K H (.ref a) (.list ds)
inductive A4(K:Fg)(H:Hp):LV->List Dat->Prop
 | nil:A4 K H [] []
 | cons {v:V} {vs:LV} {d:Dat} {ds:List Dat}:Rep K H v d->A4 K H vs ds->A4 K H (v :: vs) (d :: ds)
end
def AB.tup{K:Fg}{H H':Hp}{a:Addr}{xs:LV}(e:AB H H')(h:AH K H a xs):AH K H' a xs:=by
 rcases h with(h | ⟨o,h⟩) | h
 ·exact .inl (.inl (e _ _ h))
 ·exact .inl (.inr ⟨o,e _ _ h⟩)
 ·exact .inr h
mutual
theorem Rep.mono{K:Fg}{H H':Hp}(e:AB H H'):∀ {v:V}{d:Dat},Rep K H v d->Rep K H' v d
 | _,_,.none=>.none
 | _,_,.bool b=>.bool b
 | _,_,.int i=>.int i
 | _,_,.str x=>.str x
 | _,_,.tuple h r=>.tuple (e.tup h) (A4.mono e r)
 | _,_,.list h r=>.list (e.seq h) (A4.mono e r)
theorem A4.mono{K:Fg}{H H':Hp}(e:AB H H'):∀ {vs:LV}{ds:List Dat},A4 K H vs ds->A4 K H' vs ds
 | _,_,.nil=>.nil
 | _,_,.cons h r=>.cons (Rep.mono e h) (A4.mono e r)
end
section
variable {X:Cx}{pins:PL}{σ:St}{H:Hp}{s:Shared}
mutual
theorem Rep.reads(I:Inv X pins σ H s):∀ {v:V}{d:Dat}{u:Value},Rep X.K H v d->Ah v u->∃ as,Reads s.heap u (kqdP d) as
 | _,_,_,.none,r=>by cases(show _=Value.none from r);rw[kqdP];exact⟨_,Reads.none⟩
 | _,_,_,.bool b,r=>by cases(show _=Value.bool b from r);rw[kqdP];exact⟨_,Reads.bool b⟩
 | _,_,_,.int i,r=>by obtain⟨t,e⟩:=(show ∃ t,_=Value.int i t from r);cases e;rw[kqdP];exact⟨_,Reads.int i t⟩
 | _,_,_,.str x,r=>by obtain⟨t,e⟩:=(show ∃ t,_=Value.str x t from r);cases e;rw[kqdP];exact⟨_,Reads.str x t⟩
 | _,_,_,.tuple (a:=a) h q,r=>by
  cases(show _=Value.ref a from r);obtain⟨its,rv,⟨o,e,c,n,d⟩,_⟩:=I.tuple h;obtain⟨as,p⟩:=A4.reads I q rv;rw[kqdP];exact⟨as,reads_tuple_at e c d (by simpa using p)⟩
 | _,_,_,.list (a:=a) h q,r=>by
  cases(show _=Value.ref a from r);obtain⟨its,rv,⟨o,n,e,c,_,d⟩,_⟩:=I.list h;obtain⟨as,p⟩:=A4.reads I q rv;rw[kqdP];exact⟨_,reads_list_at e c d (by simpa using p)⟩
theorem A4.reads(I:Inv X pins σ H s):∀ {vs:LV}{ds:List Dat}{us:LU},A4 X.K H vs ds->Ac vs us->∃ as,ReadsAll s.heap us (kqdPs ds) as
 | _,_,_,.nil,r=>by cases r;rw[kqdPs];exact⟨_,ReadsAll.nil⟩
 | _,_,_,.cons h q,r=>by
  cases r with
  | cons r1 r2 =>
   obtain⟨as,p⟩:=Rep.reads I h r1;obtain⟨bs,t⟩:=A4.reads I q r2;rw[kqdPs];exact⟨_,ReadsAll.cons p t⟩
end
end
def U4(d e:Dat):Bool:=@decide (d=e) (Classical.propDecidable _)
def VD(d:Dat):U4 d d=true:=by unfold U4;exact @Jb _ (Classical.propDecidable _) rfl
def wO{d e:Dat}(h:d=e):U4 d e=true:=by rw[h];exact VD e
def fo{d e:Dat}(h:d≠e):U4 d e=false:=by unfold U4;exact @Jc _ (Classical.propDecidable _) h
def qM{d e:Dat}{n k:Nat}(h1:kqdOk n d=true)(h2:kqdOk k e=true):PyData.eqv (kqdP d) (kqdP e)=U4 d e:=by
 have q:=kqd_eqv n d e k h1 h2;by_cases h:d=e
 ·rw[wO h];exact q.mpr h
 ·rw[fo h];exact Bool.eq_false_iff.mpr λx=>h (q.mp x)
def Zt{d:Dat}(h:kqdOk 9 d=true):SeqAt.shaped (kqdP d)=true:=by
 have l:=kqd_lay 9 d h;unfold SeqAt.shaped;rw[l.1,DQ];exact Jb (B0 l.2 (by decide))
section
variable {X:Cx}
def Ydb(K:Fg)(f:Bool->Bool):R2:=λx y H Q=>∃ d e,Rep K H x d/\Rep K H y e/\kqdOk 9 d=true/\kqdOk 9 e=true/\Q (.bl (f (U4 d e))) H
def p_(hu:X.A.units + 64<cLine):BO X (compareOp .Eq) (Ydb X.K id):=by
 exfalso;obtain⟨d,e,h1,h2,k1,k2,q⟩:=h;obtain⟨as,ra⟩:=h1.reads I rx;obtain⟨bs,rb⟩:=h2.reads I ry;exact eq_dataH ra rb (Zt k1) (Zt k2) hu (BL I q (by rw[qM k1 k2];rfl))
def Vx(hu:X.A.units + 64<cLine):BO X (compareOp .NotEq) (Ydb X.K Bool.not):=by
 exfalso;obtain⟨d,e,h1,h2,k1,k2,q⟩:=h;obtain⟨as,ra⟩:=h1.reads I rx;obtain⟨bs,rb⟩:=h2.reads I ry;exact ne_dataH ra rb (Zt k1) (Zt k2) hu (BL I q (by rw[qM k1 k2]))
end
end L2
namespace L2
open PySem PySem.Spec PyProof.Rows
section
variable {X:Cx}{pins:PL}{σ:St}{H H':Hp}{s:Shared}{a:Addr}{kvs:KL}{o:Obj}
def Inv.reH(I:Inv X pins σ H s)(base:Un X.fs X.ex X.H₀ H' X.s₀.heap s.heap)(hn:∀ b,H b=none->H' b=none)(hok:Bk X.prog X.w H' s.heap):Inv X pins σ H' s :=
 ⟨I.ok,I.os,I.bare,base,I.loc,I.cell,hn _ I.free,λx c e=>hn _ (I.freeC x c e),λp hp=>by
  obtain⟨e,n,r⟩:=I.pin p hp;exact⟨e,hn _ n,r⟩,hok,I.len⟩
def Inv.reAt{u u':HO}(I:Inv X pins σ H s)(h:H a=some u)(nt:∀ xs,u≠.tup xs)(no:∀ y,u≠.own y)(nb:∀ ps,u≠.tbl ps)(nf:∀ o v,X.H₀ a≠some (.frz o v))
  (ok:BU X.prog X.w H s.heap a u->BU X.prog X.w (upd H a u') s.heap a u'):Inv X pins σ (upd H a u') s:=by
 have hn:∀ b,H b=none->upd H a u' b=none:=λb e=>by
  rw[AD]
  ·exact e
  ·rintro rfl;rw[h]at e;cases e
 refine I.reH ⟨I.base.keep,I.base.slot,λb ob e n hx=>hn b (I.base.free b ob e n hx),I.base.there,λb xs e=>?_,λb ob v e=>?_,λb ps e=>?_⟩ hn ?_
 ·have q:=I.base.tups b xs e;rw[AD]
  ·exact q
  ·rintro rfl;rw[h]at q;exact nt xs (Ym q)
 ·have q:=I.base.frzs b ob v e;rw[AD]
  ·exact q
  ·rintro rfl;exact nf ob v e
 ·obtain⟨m,q⟩:=I.base.tbls b ps e;refine⟨m,?_⟩;rw[AD]
  ·exact q
  ·rintro rfl;rw[h]at q;exact nb _ (Ym q)
 ·intro b v e;by_cases hb:b=a
  ·subst hb;rw[uS]at e;cases e;exact ok (I.hok b u h)
  ·rw[AD hb]at e;refine(I.hok b v e).stay (λ_ _ _ q=>q) (λc q=>?_) λc xs q=>?_
   ·rw[AD]
    ·exact q
    ·rintro rfl;rw[h]at q;exact no _ (Ym q)
   ·rw[AD]
    ·exact q
    ·rintro rfl;rw[h]at q;exact nt _ (Ym q)
def Inv.freeze(I:Inv X pins σ H s)(h:H a=some (.dK kvs))(ho:s.heap.get? a=some o):Inv X pins σ (upd H a (.frz o (.dK kvs))) s/\∀ o' v,X.H₀ a≠some (.frz o' v):=by
 have nf:∀ o' v,X.H₀ a≠some (.frz o' v):=λo' v e=>by
  have q:=I.base.frzs a o' v e;rw[h]at q;cases q
 refine⟨I.reAt h (λ_ z=>nomatch z) (λ_ z=>nomatch z) (λ_ z=>nomatch z) nf λk=>⟨ho,k.stay (λ_ _ _ q=>q) (λc q=>?_) λc xs q=>?_⟩,nf⟩
 ·rw[AD]
  ·exact q
  ·rintro rfl;rw[h]at q;cases q
 ·rw[AD]
  ·exact q
  ·rintro rfl;rw[h]at q;cases q
def jw{P:Program}{w:World}{k:Key}{u:Value}(h:(CC P w).is k u=true):Ah (kV k) u:=by
 rcases Wx (show Zc k u=true from h)with⟨i,t,rfl,rfl⟩ | ⟨x,t,rfl,rfl⟩
 ·exact⟨t,Y⟩
 ·exact⟨t,Y⟩
end
def tI(a:Addr)(o:Obj)(kvs:KL):It :=
 ⟨λi H=>i<kvs.length/\H a=some (.frz o (.dK kvs)),λi H v H'=>H'=H/\∃ p,kvs[i]?=some p/\v=kV p.1,λi H=>kvs.length<=i/\H a=some (.frz o (.dK kvs))⟩
def tH(a:Addr)(o:Obj)(kvs:KL):It :=
 ⟨λi H=>i<kvs.length/\H a=some (.frz o (.dK kvs)),λi H v H'=>H'=H/\∃ p,kvs[i]?=some p/\v=p.2,λi H=>kvs.length<=i/\H a=some (.frz o (.dK kvs))⟩
theorem KV.get{κ:Type}:∀ {kvs:List (κ×V)}{vs:List (κ×Value)},KV kvs vs->∀ {i:Nat}{p:κ×V},kvs[i]?=some p->∃ u,vs[i]?=some (p.1,u)/\Ah p.2 u
 | _,_,.nil,i,p,h=>by simp at h
 | _,_,.cons r t,0,p,h=>by
  simp at h;subst h;exact⟨_,by simp[r.1],r.2⟩
 | _,_,.cons r t,i + 1,p,h=>by
  obtain⟨u,h1,h2⟩:=KV.get t (i:=i) (p:=p) (by simpa using h);exact⟨u,by simpa using h1,h2⟩
def XY{P:Program}{w:World}{H:Hp}{h:Heap}{a:Addr}{o:Obj}{kvs:KL}{es:Array DictEntry}{ep:Nat}(ok:BU P w H h a (.frz o (.dK kvs)))(hd:o.data=.dict es ep):
  (a == sysModules)=false/\∃ vs,KV kvs vs/\h.DictAt (CC P w) a vs ep:=by
 obtain⟨ho,z,hs,vs,r,o',bJ,bK,h1,h2,h3,h4,h5,h6⟩:=ok;rw[ho]at h1;cases h1;rw[hd]at h3;cases h3;exact⟨hs,vs,r,o,es,ho,h2,hd,h4,h5,h6⟩
def Zvz{P:Program}{w:World}{K:Fg}{tg:Expr}(a it:Addr)(o:Obj)(kvs:KL)(es:Array DictEntry)(ep:Nat)(hd:o.data=.dict es ep):
  Tw P w K tg (tI a o kvs) [it] it (λi h=>h.IsKeyIter it a i kvs.length ep) where
 mem:=by simp
 obj:=λi h st b hb=>by
  have e:b=it:=by simpa using hb
  subst e;obtain⟨o,e,c,d⟩:=st;exact⟨o,e,λv z=>by rw[d]at z;cases z⟩
 keep:=λi h h' st k=>by
  obtain⟨o,ho,r⟩:=st;exact⟨o,k it (by simp) o ho,r⟩
 item:=by
  intro X hP hw hK hc i pins s σ H E I hf st hg;subst hP hw hK;obtain⟨f0,f1,f2,f3,f4,f5⟩:=hf it (by simp);obtain⟨hi,ha⟩:=hg;obtain⟨_,vs,r,dd⟩:=XY (I.hok a _ ha) hd;obtain⟨p,hp⟩:∃ p,kvs[i]?=some p:=⟨kvs[i],by simp[hi]⟩;obtain⟨u,hu,ru⟩:=r.get hp;have hl:kvs.length=vs.length:=Yu r;rw[hl]at st;refine wpAny_pyNext_dict_item st dd hu λkey h' hk BC sb=>?_;have I1:Inv X pins σ H {s with heap:=h' }:=I.turned (t':=s.toks) (λb o hb e=>(sb.2 b hb).trans e) f0 f1 f3 f4 f5;obtain⟨o',e,c,d⟩:=id BC;rw[<- hl]at BC;exact⟨key,Y,bQ (s:={s with heap:=h' }) e c d (by decide) ⟨kV p.1,H,I1,jw hk,⟨Y,p,hp,Y⟩,BC,λb hb=>(hf b hb).1⟩⟩
 done:=by
  intro X hP hw hK hc i pins s σ H E I hf st hg;subst hP hw hK;obtain⟨f0,f1,f2,f3,f4,f5⟩:=hf it (by simp);obtain⟨hi,ha⟩:=hg;obtain⟨_,vs,r,dd⟩:=XY (I.hok a _ ha) hd;have hl:kvs.length=vs.length:=Yu r;rw[hl]at st;exact wpAny_pyNext_dict_end (I.ok.hd hc) st dd (by simp;omega) λh' eb=>⟨Y,I.turned (t':=s.toks) (λb o hb e=>eb b o hb e) f0 f1 f3 f4 f5⟩
 self:=λ_ _ _ _ _ st h=>wpAny_pyIter_keyiter st h
def Zvy{P:Program}{w:World}{K:Fg}{tg:Expr}(a it:Addr)(o:Obj)(kvs:KL)(es:Array DictEntry)(ep:Nat)(hd:o.data=.dict es ep):
  Tw P w K tg (tH a o kvs) [it] it (λi h=>h.IsValIter it a i kvs.length ep) where
 mem:=by simp
 obj:=λi h st b hb=>by
  have e:b=it:=by simpa using hb
  subst e;obtain⟨o,e,c,d⟩:=st;exact⟨o,e,λv z=>by rw[d]at z;cases z⟩
 keep:=λi h h' st k=>by
  obtain⟨o,ho,r⟩:=st;exact⟨o,k it (by simp) o ho,r⟩
 item:=by
  intro X hP hw hK hc i pins s σ H E I hf st hg;subst hP hw hK;obtain⟨f0,f1,f2,f3,f4,f5⟩:=hf it (by simp);obtain⟨hi,ha⟩:=hg;obtain⟨_,vs,r,dd⟩:=XY (I.hok a _ ha) hd;obtain⟨p,hp⟩:∃ p,kvs[i]?=some p:=⟨kvs[i],by simp[hi]⟩;obtain⟨u,hu,ru⟩:=r.get hp;have hl:kvs.length=vs.length:=Yu r;rw[hl]at st;refine wpAny_pyNext_values_item st dd hu λh' BC sb=>?_;have I1:Inv X pins σ H {s with heap:=h' }:=I.turned (t':=s.toks) (λb o hb e=>(sb.2 b hb).trans e) f0 f1 f3 f4 f5;obtain⟨o',e,c,d⟩:=id BC;rw[<- hl]at BC;exact⟨u,Y,bQ (s:={s with heap:=h' }) e c d (by decide) ⟨p.2,H,I1,ru,⟨Y,p,hp,Y⟩,BC,λb hb=>(hf b hb).1⟩⟩
 done:=by
  intro X hP hw hK hc i pins s σ H E I hf st hg;subst hP hw hK;obtain⟨f0,f1,f2,f3,f4,f5⟩:=hf it (by simp);obtain⟨hi,ha⟩:=hg;obtain⟨_,vs,r,dd⟩:=XY (I.hok a _ ha) hd;have hl:kvs.length=vs.length:=Yu r;rw[hl]at st;exact wpAny_pyNext_values_end (I.ok.hd hc) st dd (by simp;omega) λh' eb=>⟨Y,I.turned (t':=s.toks) (λb o hb e=>eb b o hb e) f0 f1 f3 f4 f5⟩
 self:=λ_ _ _ _ _ st h=>wpAny_pyIter_valiter st h
def Ydu(t:TS):TS:=λD σ H=>∃ a kvs,H a=some (.dK kvs)/\∀ o,t D σ (upd H a (.frz o (.dK kvs)))
def j8{X:Cx}{sts:List Stmt}{t:TS}(h:CY X sts t):CY X sts (Ydu t):=by
 intro pins s σ H D I q;obtain⟨a,kvs,ha,q⟩:=q;obtain⟨o,ho⟩:∃ o,s.heap.get? a=some o:=by
  obtain⟨_,_,vs,_,o,_,_,e,_⟩:=I.hok a _ ha;exact⟨o,e⟩
 exact h pins s σ _ D (I.freeze ha ho).1 (q o)
def qz{P:Program}{w:World}{H:Hp}{h:Heap}{a:Addr}{o:Obj}{kvs:KL}(ok:BU P w H h a (.frz o (.dK kvs))):∃ es ep,o.data=.dict es ep:=by
 obtain⟨ho,z,hs,vs,r,o',bJ,bK,h1,h2,h3,_⟩:=ok;rw[ho]at h1;cases h1;exact⟨bJ,bK,h3⟩
def Zw5{a:Addr}{o:Obj}{kvs:KL}:Sd (tI a o kvs) (kvs.map λp=>kV p.1) (λH=>H a=some (.frz o (.dK kvs))) where
 go:=λi x H ok hx=>by
  have:=(Yi.mp hx).1;rw[Ya]at this;exact⟨this,ok⟩
 yld:=λi x H y H' ok hx h=>by
  obtain⟨e,p,hp,hy⟩:=h;rw[Yj,hp]at hx;exact⟨hy.trans (Ym hx),e⟩
 stop:=λH ok=>⟨by rw[Ya];exact Yf _,ok⟩
def Zw4{a:Addr}{o:Obj}{kvs:KL}:Sd (tH a o kvs) (kvs.map λp=>p.2) (λH=>H a=some (.frz o (.dK kvs))) where
 go:=λi x H ok hx=>by
  have:=(Yi.mp hx).1;rw[Ya]at this;exact⟨this,ok⟩
 yld:=λi x H y H' ok hx h=>by
  obtain⟨e,p,hp,hy⟩:=h;rw[Yj,hp]at hx;exact⟨hy.trans (Ym hx),e⟩
 stop:=λH ok=>⟨by rw[Ya];exact Yf _,ok⟩
section
variable {X:Cx}{tg:Expr}
def Yba(tl:TE):TI:=λσ H R=>tl σ H λx H1=>∃ a o kvs,x=.ref a/\H1 a=some (.frz o (.dK kvs))/\R (tI a o kvs) H1
def Z4j{l:Expr}{tl:TE}(hl:PE X l tl):PI X tg l (Yba tl):=by
 intro pins s σ H R I h;refine AN (hl pins s σ H _ I h) λv s1 ⟨x,H1,I1,r1,q1⟩=>?_;obtain⟨a,o,kvs,e,ha,q⟩:=q1;subst e;cases r1;obtain⟨es,ep,hd⟩:=qz (I1.hok a _ ha);obtain⟨hs,vs,r,dd⟩:=XY (I1.hok a _ ha) hd;have hl:kvs.length=vs.length:=Yu r;refine wpAny_pyIter_dict hs dd ?_;refine⟨s1.heap.objs.size,[s1.heap.objs.size],_,_,H1,Y,I1.kept (t':=s1.toks) λb o e=>Ye _ e,Zvz a _ o kvs es ep hd,⟨_,Yp _ rfl,Y,by rw[hl];rfl⟩,λb hb=>?_,q⟩;have e:b=s1.heap.objs.size:=by simpa using hb
 subst e;exact I1.fpOk (Yf _) (I1.hok.fresh (Yf _))
end
def Zq9{n:Nat}(h:n<=10000000):n<=sizeLine:=by rw[sizeLine_eq];omega
theorem f_:∀ {xs:LV}{us:LU},xs.length=us.length->(∀(i:Nat) (v:V) (u:Value),xs[i]?=some v->us[i]?=some u->Ah v u)->Ac xs us
 | [],[],_,_=>.nil
 | [],_ :: _,h,_=>by simp at h
 | _ :: _,[],h,_=>by simp at h
 | x :: xs,u :: us,h,k=>.cons (k 0 x u rfl rfl) (f_ (by simpa using h) λi v w hv hw=>k (i + 1) v w (by simpa using hv) (by simpa using hw))
def Zo{J:It}{xs:LV}{Ok:Hp->Prop}(R:Sd J xs Ok){js:LN}{tt:TT}{te:TE}{σ:St}{Q:VK}{H1:Hp}(hz:xs.length<=sizeLine)(p:V->Bool)(F:Addr->V->V->Hp->Prop)
  (hF:∀ D x v H H',(∀ b o,b≠D->H b=some o->H' b=some o)->F D x v H->F D x v H')
  (hok:∀ H,AB H1 H->Ok H)
  (ht:∀ x H (R:Bool->Hp->Prop),AB H1 H->x∈xs->(∀ H',AB H H'->R (p x) H')->tt (some x :: js.map λj=>(σ[j]?).join) H R)
  (he:∀ D x H (R:V->Hp->Prop),AB H1 H->(∃ ys,H D=some (.lst ys))->H1 D=none->x∈xs->p x=true->(∀ v H',AB H H'->F D x v H'->R v H')->te (some x :: js.map λj=>(σ[j]?).join) H R)
  (hd:∀ D H' ys,H1 D=none->AB H1 H'->H' D=some (.lst ys)->Paired (λx v=>F D x v H') (xs.filter p) ys->Q (.ref D) H'):
  AQ 1 js (Ck 0) tt te σ Q J H1:=by
 refine VC R hz (λD i ys σ' H=>H1 D=none/\AB H1 H/\H D=some (.lst ys)/\Paired (λx v=>F D x v H) ((xs.take i).filter p) ys/\∃ o,σ'=o :: js.map λj=>(σ[j]?).join) ?_ ?_ ?_ ?_
 ·intro D hD;exact⟨hD,λb o e=>by rw[AD (AK e hD)];exact e,uS,by simpa using Paired.nil,none,Y⟩
 ·rintro D i ys σ' H hi ⟨hD,hs,hl,hp,_⟩;refine⟨hok H hs,?_⟩;rw[<- hp.length];exact B0 (Xj _ _) (by rw[Bg];omega)
 ·rintro D i x ys σ' H hD hx ⟨_,hs,hl,hp,o,rfl⟩;show tt (some x :: js.map λj=>(σ[j]?).join) H _;have hm:x∈xs:=Yd hx;refine ht x H _ hs hm λH4 s4=>?_;have Vp:AB H1 H4:=hs.trans s4;have mono:∀ {H H':Hp},(∀ b o,b≠D->H b=some o->H' b=some o)->Paired (λx v=>F D x v H) ((xs.take i).filter p) ys->Paired (λx v=>F D x v H') ((xs.take i).filter p) ys:=λh q=>Paired.mapP q λa b z=>hF D a b _ _ h z;cases hpx:p x with
  | true =>
   rw[if_pos rfl];refine he D x H4 _ Vp ⟨_,s4 _ _ hl⟩ hD hm hpx λv H5 s5 f5=>⟨s5 _ _ (s4 _ _ hl),hD,λb o e=>?_,uS,?_,Z⟩
   ·rw[AD (AK e hD)];exact s5 _ _ (Vp _ _ e)
   ·rw[take_succ_filter p xs i x hx,hpx,if_pos rfl];refine LM (mono (λb o hb e=>by rw[AD hb];exact s5 _ _ (s4 _ _ e)) hp) (hF D _ _ _ _ (λb o hb e=>by rw[AD hb];exact e) f5)
  | false =>
   rw[if_neg Yq];refine⟨hD,Vp,s4 _ _ hl,?_,Z⟩;rw[take_succ_filter p xs i x hx,hpx,if_neg Yq,C5];exact mono (λb o _ e=>s4 _ _ e) hp
 ·rintro D ys σ' H hD ⟨_,hs,hl,hp,_⟩;rw[Bs]at hp;exact hd D H ys hD hs hl hp
section
variable {X:Cx}
def Z4c:V->LV->Hp->VK->Prop:=λx vs H Q=>∃ l xs i y,x=.ref l/\vs=[.int i,y]/\H l=some (.lst xs)/\0<=i/\i<=xs.length/\xs.length<sizeLine/\Q .non (upd H l (.lst (xs.take i.toNat++y :: xs.drop i.toNat)))
def Zyc:Xn X "list.insert" Z4c:=by
 intro pins s σ H x vs v us Q I rx rv h;obtain⟨l,xs,i,y,rfl,rfl,hH,h0,h1,hz,q⟩:=h;cases rx;obtain⟨u,w',rfl,⟨t,rfl⟩,ru⟩:=mh rv;obtain⟨z,its,n,r,hl,e⟩:=I.lstM hH;have hs:sizeLine=16777216:=sizeLine_eq;have hc:¬ (!Builtin.List.listFitsIndex i)=true:=by
  have:Builtin.List.listFitsIndex i=true:=by
   unfold Builtin.List.listFitsIndex;simp;omega
  rw[this];decide
 refine call_meets F.slot_list_insert ⟨_,e,Y⟩ F.entry_list_insert (F.args_list_insert_3 _ _ _) (PySem.AutoSeq1.list_insert_list_int_val_1 l its.toArray n i t w' hc (by rw[Yn];omega)) ⟨e,?_⟩;have hk:(if i<0 then(i + (its.toArray.size:Int)).toNat else min i.toNat its.toArray.size)=i.toNat:=by
  rw[if_neg (by omega),Yn];omega
 refine⟨.non,_,I.lset (its':=its.take i.toNat++w' :: its.drop i.toNat) hH e ?_ ?_ ?_,Y,q⟩
 ·show(its.toArray.extract 0 (if i<0 then(i + (its.toArray.size:Int)).toNat else min i.toNat its.toArray.size)).push w'++its.toArray.extract (if i<0 then(i + (its.toArray.size:Int)).toNat else min i.toNat its.toArray.size)=_;rw[hk];apply Array.ext';simp;exact W3 (by rw[W5];exact Yf _)
 ·exact(r.take _).append (.cons ru (r.drop _))
 ·rw[Yc,Yt,Bg,W5];omega
def Zph{a:Expr}{ta:TE}{p1 p2 WA D8:Pos}(hc:X.calm=true)(ha:PE X a ta)(dh:Gl X "list")(U2:X.mg "list"=none)(hg2:Gl X "range")(jX:X.mg "range"=none)
  (hs:starEach [a] X.env=[(false,eval a X.env)]:=by rfl)
  (Ca:starEach [.Call (.Name "range" p2) [a] [] D8] X.env=[(false,eval (.Call (.Name "range" p2) [a] [] D8) X.env)]:=by rfl):
  PE X (.Call (.Name "list" p1) [.Call (.Name "range" p2) [a] [] D8] [] WA) (λσ H Q=>sQ ta mX σ H λvs H1=>∃ j:Int,vs=[.int j]/\0<=j/\j<=1000000/\∀ l,H1 l=none->Q (.ref l) (upd H1 l (.lst (DG 0 j.toNat)))):=by
 ac_rfl;refine wpAny_Call_Name_kw (UP I dh U2 W2 ?_ (by decide) (by decide));refine Vi ?_ Ca rfl;refine m9 ?_;refine wpAny_Call_Name_kw (UP I hg2 jX boot_range ?_ (by decide) (by decide));refine Vi ?_ hs rfl;have pa:PA X [a] (sQ ta mX):=pC ha AA hs;refine AN (pa D8 pins s σ H (λvs H1=>∃ j:Int,vs=[.int j]/\0<=j/\j<=1000000/\∀ l,H1 l=none->Q (.ref l) (upd H1 l (.lst (DG 0 j.toNat)))) I h) λus s1 ⟨vs,H1,I1,r1,q1⟩=>?_;obtain⟨j,e,h0,h1,q⟩:=q1;subst e;obtain⟨u,rfl,t,rfl⟩:=U7 r1;refine call_range_1 (Calls.spliced_nil ?_);have I2:Inv X pins σ H1 {s1 with heap:=s1.heap.push {cls:=.type "range",data:=.fields #[.int 0 s1.toks,.int j t,.int 1 (s1.toks + 1)] },toks:=s1.toks + 1 + 1}:=I1.kept λb o e=>Ye _ e;refine call_list_range (n:=j.toNat) (I1.ok.hd hc) (IsRange.new ..) (small_one (by decide) (by decide) (by omega) (by omega)) (by rw[rangeSize_one];split <;> omega) (by omega) λh' tk VM c' hk Vr B3=>?_;obtain⟨a1,a2⟩:=B3;have A7:H1 (s1.heap.push {cls:=.type "range",data:=.fields #[.int 0 s1.toks,.int j t,.int 1 (s1.toks + 1)] }).objs.size=none:=I2.hok.fresh (Yf _);refine⟨.ref _,_,I2.laid (o:=.lst (DG 0 j.toNat)) hk (Yf _) ⟨?_,VM.toList,c',?_,by simpa using Vr⟩,Y,q _ A7⟩
 ·rw[Cq];exact Zq9 (by omega)
 ·have len:(DG 0 j.toNat).length=VM.toList.length:=by rw[Cq,Y0,a1]
  exact f_ len λi v u hv hu=>by
   obtain⟨hi,e⟩:=Dw hv;obtain⟨t',e'⟩:=a2 i u (by rw[<- g0];exact hu);rw[e,e'];exact⟨t',by rw[Int.mul_one]⟩
end
end L2
namespace Graph
variable {α:Type}[DecidableEq α]
inductive Reach(ups:α->List α):α->α->Prop
 | refl (a:α):Reach ups a a
 | step {a b c:α}:b∈ups a->Reach ups b c->Reach ups a c
def Reach.trans{ups:α->List α}{a b c:α}(h:Reach ups a b)(k:Reach ups b c):Reach ups a c:=by
 induction h with
 | refl=>exact k
 | step m _ ih=>exact .step m (ih k)
def Reach.one{ups:α->List α}{a b:α}(h:b∈ups a):Reach ups a b:=.step h (.refl b)
def Reach.snoc{ups:α->List α}{a b c:α}(h:Reach ups a b)(k:c∈ups b):Reach ups a c:=h.trans (.one k)
def Reach.rank{ups:α->List α}{rk:α->Nat}(hr:∀ a b,b∈ups a->rk b<rk a){a b:α}(h:Reach ups a b):rk b<=rk a:=by
 induction h with
 | refl=>exact Yf _
 | step m _ ih=>have:=hr _ _ m;omega
def Reach.rank_lt{ups:α->List α}{rk:α->Nat}(hr:∀ a b,b∈ups a->rk b<rk a){a b:α}(h:Reach ups a b)(BJ:a≠b):rk b<rk a:=by
 cases h with
 | refl=>exact absurd rfl BJ
 | step m k =>
  have h1:=hr _ _ m;have h2:=Reach.rank hr k;omega
def kept(ups:α->List α)(left:List α):List α:=left.filter λw=>(ups w).any λu=>decide (u∈left)
def kept_sub{ups:α->List α}{left:List α}{w:α}(h:w∈kept ups left):w∈left:=(Xi.mp h).1
def kept_le(ups:α->List α)(left:List α):(kept ups left).length<=left.length:=Xj _ _
theorem Zm2{p:α->Bool}:∀ {l:List α},(l.filter p).length=l.length->l.filter p=l
 | [],_=>rfl
 | a :: r,h=>by
  have hle:=Xj p r;rw[Z8]at h ⊢;cases hp:p a with
  | true =>
   rw[hp,if_pos rfl,Yt,Yt]at h;rw[if_pos rfl,Zm2 (by omega)]
  | false =>
   rw[hp,if_neg Yq,Yt]at h;omega
theorem yN(rk:α->Nat):∀(l:List α),l≠[]->∃ m,m∈l/\∀ x∈l,rk m<=rk x
 | [],h=>absurd rfl h
 | a :: r,_=>by
  by_cases hr:r=[]
  ·subst hr;exact⟨a,by simp,λx hx=>by simp at hx;subst hx;exact Yf _⟩
  ·obtain⟨m,hm,hx⟩:=yN rk r hr;by_cases hc:rk a<=rk m
   ·refine⟨a,by simp,λx SS=>?_⟩
    rcases Yv.mp SS with e | e
    ·subst e;exact Yf _
    ·exact B0 hc (hx x e)
   ·refine⟨m,Yr _ hm,λx SS=>?_⟩
    rcases Yv.mp SS with e | e
    ·subst e;omega
    ·exact hx x e
def kept_nil{ups:α->List α}{left:List α}{rk:α->Nat}(hr:∀ a∈left,∀ b∈ups a,rk b<rk a)(h:(kept ups left).length=left.length):left=[]:=by
 refine nD λBJ=>?_;obtain⟨m,hm,hx⟩:=yN rk left BJ;have e:kept ups left=left:=Zm2 h;rw[<- e]at hm;obtain⟨h1,h2⟩:=Xi.mp hm;obtain⟨u,hu,hd⟩:=Xk.mp h2;have hl:u∈left:=Je hd;have a:=hr m h1 u hu;have b:=hx u hl;omega
theorem nodup_le:∀ {l k:List α},l.Nodup->(∀ x∈l,x∈k)->l.length<=k.length
 | [],k,_,_=>Ax _
 | a :: r,k,hn,hs=>by
  obtain⟨h1,h2⟩:=Cr.mp hn;have ha:a∈k:=hs a (by simp);have:=nodup_le (k:=k.erase a) h2 λx hx=>(List.mem_erase_of_ne (λ(e:x=a)=>h1 (by rw[<- e];exact hx))).mpr (hs x (Yr _ hx));rw[List.length_erase_of_mem ha]at this;have hpos:0<k.length:=List.length_pos_of_mem ha;rw[Yt];omega
def closed_reach{ups:α->List α}{S:α->Prop}(hc:∀ x,S x->∀ y∈ups x,S y){a b:α}(h:Reach ups a b)(ha:S a):S b:=by
 induction h with
 | refl=>exact ha
 | step m _ ih=>exact ih (hc _ ha _ m)
end Graph
namespace Md
open PySem L2
abbrev letters:Str:="abcdefghijklmnopqrstuvwxyz"
def U_(c:Nat):Bool:=decide (97<=c/\c<=122)
def AW(x:Str):Bool:=decide (1<=x.length/\x.length<=8)&&x.cps.toList.all U_
def lD:letters.cps.toList=[97,98,99,100,101,102,103,104,105,106,107,108,109,110,111,112,113,114,115,116,117,118,119,120,121,122]:=by rfl'
def Zu2{i:Nat}(h:i<26):letters.cps.toList[i]?=some (97 + i):=by
 rw[lD];have:∀ i:_root_.Fin 26,([97,98,99,100,101,102,103,104,105,106,107,108,109,110,111,112,113,114,115,116,117,118,119,120,121,122]:LN)[i.1]?=some (97 + i.1):=by decide
 exact this ⟨i,h⟩
def Zrs:letters.cps.toList=(List.range 26).map (97 + ·):=by rw[lD];rfl
def Z8j(c:Nat):(!(Builtin.Str.occurrences letters ⟨#[c]⟩ 0 letters.length 1).isEmpty)=U_ c:=by
 rw[StrLaws.found_one,Zrs];unfold U_;rw[decide_eq_decide,Yg];constructor
 ·rintro⟨a,ha,rfl⟩;have:=VG.mp ha;omega
 ·intro h;exact⟨c - 97,VG.mpr (by omega),W⟩
def Cm(x:Str):x.cps.toList.length=x.length:=by simp[Str.length]
def wk(c:Nat):(⟨#[c]⟩:Str).length=1:=rfl
def wj(x y:Str):(x++y).length=x.length + y.length:=by
 show(x.cps++y.cps).size=_;rw[Array.size_append];rfl
def XX(x y:Str):(x++y).cps.toList=x.cps.toList++y.cps.toList:=by
 show(x.cps++y.cps).toList=_;rw[mn]
def str_ext{x y:Str}(h:x.cps.toList=y.cps.toList):x=y:=by
 cases x;cases y
 congr 1
 exact Array.ext' h
def sH:V->V
 | .str y=>.bl (!(Builtin.Str.occurrences letters y 0 letters.length 1).isEmpty)
 | _=>.non
def Zwv(x:Str):((CP x).filter λ_=>true).map sH=(x.cps.toList.map U_).map V.bl:=by
 rw[VH.mpr λ_ _=>rfl];unfold CP;rw[B9,B9];refine aE λc _=>?_;show V.bl _=V.bl _;rw[Z8j]
def V0(x:Str):AW x=true↔(1<=x.cps.toList.length/\x.cps.toList.length<=8)/\∀ c∈x.cps.toList,U_ c=true:=by
 unfold AW;rw[B1,decide_eq_true_eq,CL,Cm]
def Dh{x:Str}(h:AW x=true):1<=x.length/\x.length<=8:=by
 have:=((V0 x).mp h).1
 rwa [Cm]at this
def XU{x:Str}(h:AW x=true):PyData.strOk x=true:=by
 unfold PyData.strOk;rw[Array.all_eq_true'];intro c hc;have:=((V0 x).mp h).2 c (by simpa using hc);have:=Je this;exact Jb (by omega)
def Dv(n:Nat):LN:=(97 + n % 26):: (if h:n / 26=0 then[]else Dv (n / 26))
termination_by n
decreasing_by omega
def cF(n:Nat):Dv n=(97 + n % 26):: (if n / 26=0 then[]else Dv (n / 26)):=by
 rw[Dv];by_cases h:n / 26=0
 ·rw[dif_pos h,if_pos h]
 ·rw[dif_neg h,if_neg h]
theorem rf:∀(k n:Nat),n<26 ^ (k + 1)->(Dv n).length<=k + 1
 | 0,n,h=>by
  rw[cF,if_pos (by have:n<26:=h;omega)];exact Yf _
 | k + 1,n,h=>by
  rw[cF];by_cases h0:n / 26=0
  ·rw[if_pos h0];simp
  ·rw[if_neg h0,Yt];have:=rf k (n / 26) (Nat.div_lt_of_lt_mul (by rw[Nat.pow_succ]at h;omega));omega
def Zp8(n:Nat):∀ c∈Dv n,U_ c=true:=by
 induction n using Nat.strongRecOn with
 | ind n ih =>
  rw[cF];intro c hc
  rcases Yv.mp hc with e | hc
  ·rw[e];exact Jb (by omega)
  ·by_cases h0:n / 26=0
   ·rw[if_pos h0]at hc;cases hc
   ·rw[if_neg h0]at hc;exact ih (n / 26) (by omega) c hc
def gw:LN->Nat
 | []=>0
 | c :: r=>(c - 97) + 26 * gw r
def Zp6(n:Nat):gw (Dv n)=n:=by
 induction n using Nat.strongRecOn with
 | ind n ih =>
  rw[cF];unfold gw;by_cases h0:n / 26=0
  ·rw[if_pos h0];unfold gw;omega
  ·rw[if_neg h0,ih (n / 26) (by omega)];omega
def US(n:Nat):Str:=⟨(Dv n).toArray⟩
def rh(n:Nat):(US n).cps.toList=Dv n:=by simp[US]
def Zp5{a b:Nat}(h:US a=US b):a=b:=by
 have:=congrArg (λs:Str=>gw s.cps.toList) h;simpa[rh,Zp6]using this
def Zp7(n:Nat):1<=(Dv n).length:=by rw[cF];simp
def rj{n:Nat}(h:n<26 ^ 8):AW (US n)=true:=by
 rw[V0,rh];exact⟨⟨Zp7 n,rf 7 n h⟩,Zp8 n⟩
def Z14(j:Int)(n:Nat)(h:0<=j):Builtin.Str.strSliceIndices none (some j) 1 n=List.range (min j.toNat n):=by
 unfold Builtin.Str.strSliceIndices sliceRange;have h1:¬ j<0:=by omega
 simp only[show(1:Int) > 0 by decide,if_true,if_neg h1];have e:(max (0:Int) (min j (n:Int)))=((min j.toNat n:Nat):Int):=by omega
 rw[e];have e2:(if(0:Int)<((min j.toNat n:Nat):Int)then(((min j.toNat n:Nat):Int) - 0 + 1 - 1) / 1 else 0)=((min j.toNat n:Nat):Int):=by
  split
  ·rw[Int.ediv_one];omega
  ·omega
 rw[e2,YX];have:∀ l:LN,l.map (λ(k:Nat)=>((0:Int) + 1 * (k:Int)).toNat)=l:=λl=>by
  conv=>rhs;rw[<- List.map_id l]
  refine aE λk _=>?_;show _=k;omega
 exact this _
theorem Zkf(l:LN):∀ m,m<=l.length->(List.range m).filterMap (λi=>l.toArray[i]?)=l.take m
 | 0,_=>by simp
 | m + 1,h=>by
  rw[List.range_succ,List.filterMap_append,Zkf l m (by omega),Bt];have:m<l.length:=h;simp[this]
def rQ(x:Str)(j:Int)(h:0<=j):(Txt.slice x none (some j)).cps.toList=x.cps.toList.take j.toNat:=by
 unfold Txt.slice;rw[Z14 j x.length h];have hl:=Cm x;split
 ·rename_i hc
  have:min j.toNat x.length=x.length:=by simpa using hc
  rw[W3 (by omega)]
 ·have q:=Zkf x.cps.toList (min j.toNat x.length) (by omega);have e:x.cps.toList.toArray=x.cps:=by simp
  rw[e]at q;show((List.range (min j.toNat x.length)).filterMap (x.cps[·]?)).toArray.toList=_;rw[List.toList_toArray,q];by_cases hj:j.toNat<=x.length
  ·rw[h_ hj]
  ·rw[Nat.min_eq_right (by omega),W3 (by omega),W3 (by omega)]
def Dp(o:HO):Prop:=∃ r b:Int,o=.lst [.int r,.int b]/\0<=r/\r<10 ^ 256/\0<=b/\b<2147483647
structure Drawn(p:Addr)(H H':Hp):Prop where
 keep:∀ b o,b≠p->H b=some o->H' b=some o
 pot:∃ o,H' p=some o/\Dp o
def Drawn.refl{p:Addr}{H:Hp}(h:∃ o,H p=some o/\Dp o):Drawn p H H:=⟨λ_ _ _ e=>e,h⟩
def Drawn.trans{p:Addr}{H H1 H2:Hp}(a:Drawn p H H1)(b:Drawn p H1 H2):Drawn p H H2:=⟨λc o hc e=>b.keep c o hc (a.keep c o hc e),b.pot⟩
theorem Drawn.upd{p:Addr}{H:Hp}{o:HO}(h:Dp o):Drawn p H (L2.upd H p o):=⟨λb u hb e=>by rw[AD hb];exact e,_,uS,h⟩
def Drawn.new{p q:Addr}{H H':Hp}{o:HO}(d:Drawn p H H')(hq:H' q=none):Drawn p H (L2.upd H' q o):=
 ⟨λb u hb e=>by rw[AD (AK (d.keep b u hb e) hq)];exact d.keep b u hb e,by
  obtain⟨u,h1,h2⟩:=d.pot;exact⟨u,by rw[AD (AK h1 hq)];exact h1,h2⟩⟩
def Drawn.same{p:Addr}{H H1 H2:Hp}(d:Drawn p H H1)(s:AB H1 H2):Drawn p H H2 :=
 ⟨λb u hb e=>s _ _ (d.keep b u hb e),by obtain⟨u,h1,h2⟩:=d.pot;exact⟨u,s _ _ h1,h2⟩⟩
def Drawn.sub{p q:Addr}{H H1 H2:Hp}{o':HO}(d:Drawn p H H1)(k:∀ b o,b≠q->H1 b=some o->H2 b=some o)(hq:H q=none)(hp:p≠q):Drawn p H H2 :=
 ⟨λb u hb e=>k _ _ (AK e hq) (d.keep b u hb e),by obtain⟨u,h1,h2⟩:=d.pot;exact⟨u,k _ _ hp h1,h2⟩⟩
def _root_.L2.SqL.mono_new{K:Fg}{H:Hp}{a q:Addr}{xs:LV}{o:HO}(h:SqL K H a xs)(hq:H q=none):SqL K (L2.upd H q o) a xs :=
 AB.seq (λb u e=>by rw[AD (AK e hq)];exact e) h
def Bq{n:Nat}(h:n<=100000):n<sizeLine:=by rw[sizeLine_eq];omega
def fh:List Expr->Option (LS)
 | []=>some []
 | .Constant (.str x) _ _ :: r=>(fh r).map (x :: ·)
 | _=>none
def Zxn{X:Cx}:∀ {es:List Expr}{ws:LS},fh es=some ws->PA X es (λ_ H Q=>Q (ws.map V.str) H):=by
 intro es
 induction es with
 | nil =>
  intro ws h;have e:ws=[]:=(Ym h).symm;subst e;exact AA
 | cons e r ih =>
  intro ws h;cases e with
  | Constant c j p =>
   cases c with
   | str x =>
    have h':(fh r).map (x :: ·)=some ws:=h;obtain⟨vs,h1,h2⟩:=CV.mp h';subst h2;exact pC Ar (ih h1) rfl
   | _=>exact nomatch (show(none:Option (LS))=some ws from h)
  | _=>exact nomatch (show(none:Option (LS))=some ws from h)
theorem YD(x:Str):∀ ws:LS,Ug (.str x) (ws.map V.str)=decide (x∈ws)
 | []=>rfl
 | w :: r=>by
  have ih:=YD x r;unfold Ug at ih ⊢;rw[Yz,YW,ih];show((w == x) || decide (x∈r))=decide (x∈w :: r);rw[W0];simp only[Bool.or_eq_true,beq_iff_eq,decide_eq_true_eq,Yv];constructor
  ·rintro(h | h)
   ·exact .inl h.symm
   ·exact .inr h
  ·rintro(h | h)
   ·exact .inl h.symm
   ·exact .inr h
def Zs(ws:LS):(ws.map V.str).all XI=true:=by
 rw[CL];intro v hv;obtain⟨w,_,e⟩:=Yg.mp hv;rw[<- e];rfl
theorem Wv{K:Fg}{H:Hp}:∀ ws:LS,A4 K H (ws.map V.str) (ws.map W.Dat.str)
 | []=>.nil
 | w :: r=>.cons (.str w) (Wv r)
abbrev Row:=Str×LS
def Z1(H:Hp)(r:Str×LS)(v:V):Prop:=∃ t u,v=.ref t/\H t=some (.tup [.str r.1,.ref u])/\H u=some (.tup (r.2.map V.str))
def T5(H:Hp)(l:Addr)(rows:RS):Prop:=∃ vs,H l=some (.lst vs)/\Paired (Z1 H) rows vs
structure Am(rows:RS):Prop where
 ne:1<=rows.length
 le:rows.length<=24
 word:∀ r∈rows,AW r.1=true
 nd:(rows.map (·.1)).Nodup
 few:∀ r∈rows,r.2.length<=8
 known:∀ r∈rows,∀ u∈r.2,u∈rows.map (·.1)
 upnd:∀ r∈rows,r.2.Nodup
 rank:∃ rk:Str->Nat,∀ r∈rows,∀ u∈r.2,rk u<rk r.1
def XR(ws:LS)(uf:List (LN))(os:LN):RS:=os.map λj=>(ws.getD j "",(uf.getD j []).map λi=>ws.getD i "")
def Z5e{ws:LS}{uf:List (LN)}{os:LN}{m:Nat}(Xz:1<=m)(hm:m<=24)(hw:∀ x∈ws,AW x=true)(hn:ws.Nodup)(hl:ws.length=m)(hu:∀(k:Nat) (js:LN),uf[k]?=some js->(∀ j∈js,j<k)/\js.Nodup/\js.length<=8)(hul:uf.length=m)
  (on:os.Nodup) (om:∀ j,j∈os↔j<m) (ol:os.length=m):Am (XR ws uf os):=by
 have at_:∀ {j:Nat},j<m->ws.getD j ""∈ws/\ws[j]?=some (ws.getD j ""):=λ{j} h=>by
  have hj:j<ws.length:=by omega
  rw[Yl,Yb hj];exact⟨Z9 hj,Y⟩
 have inj:∀ {i j:Nat},i<m->j<m->ws.getD i ""=ws.getD j ""->i=j:=λ{i j} hi hj e=>by
  have a:=(at_ hi).2;have b:=(at_ hj).2;rw[e]at a;exact bz hn a b
 have ups:∀ {j:Nat},j<m->∃ js,uf.getD j []=js/\(∀ i∈js,i<j)/\js.Nodup/\js.length<=8:=λ{j} h=>by
  have hj:j<uf.length:=by omega
  have e:uf[j]?=some (uf.getD j []):=by rw[Yl,Yb hj];rfl
  exact⟨Z,hu j _ e⟩
 have mem:∀ {r:Str×LS},r∈XR ws uf os->∃ j,j<m/\r=(ws.getD j "",(uf.getD j []).map λi=>ws.getD i ""):=λ{r} h=>by
  obtain⟨j,hj,e⟩:=Yg.mp h;exact⟨j,(om j).mp hj,e.symm⟩
 have words:(XR ws uf os).map (·.1)=os.map λj=>ws.getD j "":=by
  unfold XR;rw[B9];rfl
 refine⟨by unfold XR;rw[Ya];omega,by unfold XR;rw[Ya];omega,λr hr=>?_,?_,λr hr=>?_,λr hr u SU=>?_,λr hr=>?_,λx=>ws.idxOf x,λr hr u SU=>?_⟩
 ·obtain⟨j,hj,rfl⟩:=mem hr;exact hw _ (at_ hj).1
 ·rw[words,YZ,List.pairwise_map];refine(YZ.mp on).imp_of_mem λ{a b} ha hb h e=>h (inj ((om a).mp ha) ((om b).mp hb) e)
 ·obtain⟨j,hj,rfl⟩:=mem hr;obtain⟨js,e,_,_,h8⟩:=ups hj;show((uf.getD j []).map λi=>ws.getD i "").length<=8;rw[Ya,e];exact h8
 ·obtain⟨j,hj,rfl⟩:=mem hr;obtain⟨i,hi,e⟩:=Yg.mp SU;obtain⟨js,e',hb,_⟩:=ups hj;rw[e']at hi;have hij:=hb i hi;rw[words];exact Yg.mpr ⟨i,(om i).mpr (by omega),e⟩
 ·obtain⟨j,hj,rfl⟩:=mem hr;obtain⟨js,e',hb,hnd,_⟩:=ups hj;show((uf.getD j []).map λi=>ws.getD i "").Nodup;rw[e',YZ,List.pairwise_map];refine(YZ.mp hnd).imp_of_mem λ{a b} ha hb' h e=>h (inj (by have:=hb a ha;omega) (by have:=hb b hb';omega) e)
 ·obtain⟨j,hj,rfl⟩:=mem hr;obtain⟨i,hi,e⟩:=Yg.mp SU;obtain⟨js,e',hb,_⟩:=ups hj;rw[e']at hi;have hij:=hb i hi;have ix:∀ {j:Nat},j<m->ws.idxOf (ws.getD j "")=j:=λ{j} h=>by
   have a:=(at_ h).1;have lt:ws.idxOf (ws.getD j "")<ws.length:=List.idxOf_lt_length_iff.mpr a;have g:ws[ws.idxOf (ws.getD j "")]?=some (ws.getD j ""):=by rw[Yb lt,List.getElem_idxOf lt]
   exact bz hn g (at_ h).2
  show ws.idxOf u<ws.idxOf (ws.getD j "");rw[<- e,ix hj,ix (by omega)];exact hij
end Md
namespace L2
open PySem PySem.Spec PyProof.Rows
section
variable {X:Cx}{tg:Expr}
def CW(K:Fg)(b:Bool)(H:Hp)(a:Addr)(xs:LV):Prop:=if b=true then SqL K H a xs else AH K H a xs
def CW.mono{K:Fg}{b:Bool}{H H':Hp}{a:Addr}{xs:LV}(h:CW K b H a xs)(s:AB H H'):CW K b H' a xs:=by
 cases b with
 | true=>exact s.seq (show SqL K H a xs from h)
 | false=>exact s.tup (show AH K H a xs from h)
def nP(K:Fg)(b:Bool)(a:Addr)(xs:LV):It:=⟨λi H=>i<xs.length/\CW K b H a xs,λi H x H'=>H'=H/\xs[i]?=some x,λi H=>xs.length<=i/\CW K b H a xs⟩
def b0{K:Fg}{b:Bool}{a:Addr}{xs:LV}:Sd (nP K b a xs) xs (λH=>CW K b H a xs) where
 go:=λi x H ok hx=>⟨(Yi.mp hx).1,ok⟩
 yld:=λi x H y H' ok hx h=>by
  obtain⟨e,h⟩:=h;rw[hx]at h;exact⟨(Ym h).symm,e⟩
 stop:=λH ok=>⟨Yf _,ok⟩
def Tw.imp{P:Program}{w:World}{K:Fg}{tg:Expr}{J J':It}{fp:List Addr}{it:Addr}{tn:Nat->Heap->Prop}(T:Tw P w K tg J fp it tn)(hgo:∀ i H,J'.go i H->J.go i H)
  (hy:∀ i H x H',J'.go i H->J.yld i H x H'->J'.yld i H x H') (hs:∀ i H,J'.stop i H->J.stop i H):Tw P w K tg J' fp it tn where
 mem:=T.mem
 obj:=T.obj
 keep:=T.keep
 item:=λX h1 h2 h3 h4 i pins s σ H E I hf st g=>AN (T.item X h1 h2 h3 h4 i pins s σ H E I hf st (hgo i H g)) λr s1 ⟨u,e,h⟩=>⟨u,e,AN h λ_ s2 ⟨x,H',I',r',y,t,f⟩=>⟨x,H',I',r',hy i H x H' g y,t,f⟩⟩
 done:=λX h1 h2 h3 h4 i pins s σ H E I hf st g=>T.done X h1 h2 h3 h4 i pins s σ H E I hf st (hs i H g)
 self:=T.self
def Ye4(K:Fg)(tl:TE):TI:=λσ H R=>tl σ H λx H1=>∃ b a xs,x=.ref a/\CW K b H1 a xs/\R (nP K b a xs) H1
def bX{l:Expr}{tl:TE}(hl:PE X l tl):PI X tg l (Ye4 X.K tl):=by
 intro pins s σ H R I h;refine AN (hl pins s σ H _ I h) λv s1 ⟨x,H1,I1,r1,q1⟩=>?_;obtain⟨b,a,xs,e,hq,q⟩:=q1;subst e;cases r1;have fp:∀ b∈[s1.heap.objs.size],UM X pins H1 b:=λb hb=>by
  have e:b=s1.heap.objs.size:=by simpa using hb
  subst e;exact I1.fpOk (Yf _) (I1.hok.fresh (Yf _))
 have get:∀ {i:Nat} {ys:LV},i<ys.length->∃ y,ys[i]?=some y:=λ{i ys} h=>⟨ys[i],by simp[h]⟩;cases b with
 | true =>
  have hq:SqL X.K H1 a xs:=hq;obtain⟨its,rv,p,hz⟩:=I1.list hq;refine wpAny_pyIter_list p.isList ?_;refine⟨s1.heap.objs.size,[s1.heap.objs.size],_,nP X.K true a xs,H1,Y,I1.kept (t':=s1.toks) λb o e=>Ye _ e,(zZ a _).imp (λi H g=>?_) (λi H x H' g y=>⟨y.1,y.2 xs g.2⟩) (λi H g=>⟨xs,g.2,g.1⟩),⟨_,Yp _ rfl,Y,Y⟩,fp,q⟩;obtain⟨y,hy⟩:=get g.1;exact⟨xs,y,g.2,hy⟩
 | false =>
  have hq:AH X.K H1 a xs:=hq;obtain⟨its,rv,p,hz⟩:=I1.tuple hq;refine wpAny_pyIter_tuple (show s1.heap.IsTuple a its.toArray from p) ?_;refine⟨s1.heap.objs.size,[s1.heap.objs.size],_,nP X.K false a xs,H1,Y,I1.kept (t':=s1.toks) λb o e=>Ye _ e,(Zmi a _).imp (λi H g=>?_) (λi H x H' g y=>⟨y.1,y.2 xs g.2⟩) (λi H g=>⟨xs,g.2,g.1⟩),⟨_,Yp _ rfl,Y,Y⟩,fp,q⟩;obtain⟨y,hy⟩:=get g.1;exact⟨xs,y,g.2,hy⟩
def Ya6(to:TE):TI:=λσ H R=>to σ H λx H1=>∃ a ob kvs,x=.ref a/\H1 a=some (.frz ob (.dK kvs))/\R (tH a ob kvs) H1
def Z4i{o:Expr}{to:TE}{apos Al:Pos}(ho:PE X o to)(B5:attributeBase o "values" X.env (eval o X.env)=eval o X.env:=by rfl)(B4:(apos.endLine == Al.line)=true:=by rfl):
  PI X tg (.Call (.Attribute o "values" apos) [] [] Al) (Ya6 to):=by
 intro pins s σ H R I h;refine wpAny_Call_method0_late B5 B4 (AN (ho pins s σ H _ I h) λv s1 ⟨x,H1,I1,r1,q1⟩=>?_);obtain⟨a,ob,kvs,e,ha,q⟩:=q1;subst e;obtain rfl:v=Value.ref a:=r1;obtain⟨t1,t2,t3⟩:=p4 I1 (.inl ⟨kvs,.inr ⟨ob,ha⟩⟩);obtain⟨es,ep,hd⟩:=qz (I1.hok a _ ha);obtain⟨hs,vs,r,dd⟩:=XY (I1.hok a _ ha) hd;have hl:kvs.length=vs.length:=Yu r;refine⟨"dict","dict.values",sS,PySem.F.slot_dict_values,PySem.F.type_dict_values,t1,t2,g_ rfl (mq ?_)⟩;refine call_meetsIn PySem.F.slot_dict_values t1 PySem.F.entry_dict_values (PySem.F.args_dict_values_1 _) (meets_dict_values (CC X.prog X.w) a t3) ⟨⟨vs,dd.dictOf⟩,?_⟩;have I2:Inv X pins σ H1 {s1 with heap:=s1.heap.push {cls:=.type "dict_values",data:=.fields #[.ref a] } }:=I1.kept (t':=s1.toks) λb o e=>Ye _ e;refine wpAny_pyIter_values (kvs:=vs) (ep:=ep) (knd:=CC X.prog X.w) ⟨_,Yp _ rfl,Y,Y⟩ (dd.at' λo e=>Ye _ e) ?_;refine⟨_,[_],_,_,H1,Y,I2.kept (t':=s1.toks) λb o e=>Ye _ e,Zvy a _ ob kvs es ep hd,⟨_,Yp _ rfl,Y,by rw[hl];rfl⟩,λb hb=>?_,q⟩;have e:b=_:=Yh.mp hb;subst e;exact I2.fpOk (Yf _) (I2.hok.fresh (Yf _))
def Zij(hc:X.calm=true):UN X (.type "list") (λxs H Q=>∃ a kvs,xs=[.ref a]/\Rd H a (.dK kvs)/\∀ l,H l=none->Q (.ref l) (upd H l (.lst (kvs.map λp=>kV p.1)))):=by
 intro pins s σ H xs us Q I r h;obtain⟨a,kvs,rfl,ha,q⟩:=h;obtain⟨u,rfl,ru⟩:=U7 r;cases ru;obtain⟨hz,hs,vs,rv,o,es,ep,h1,h2,h3,h4,h5,h6⟩:=X7 I.hok ha;have hl:kvs.length=vs.length:=Yu rv;have dd:s.heap.DictAt (CC X.prog X.w) a vs ep:=⟨o,es,h1,h2,h3,h4,h5,h6⟩;refine W.kdl_call (W.kdl_dict (knd:=CC X.prog X.w) (kvs:=vs) (ep:=ep) hs) (I.ok.hd hc) dd (by rw[<- hl];exact hz) λh' tk VM c' hk Vr B3=>?_;obtain⟨a1,a2⟩:=B3;refine⟨.ref _,_,I.laid (o:=.lst (kvs.map λp=>kV p.1)) hk (Yf _) ⟨by rw[Ya];exact hz,VM.toList,c',?_,by simpa using Vr⟩,Y,q _ (I.hok.fresh (Yf _))⟩;refine f_ (by have z:VM.toList.length=VM.size:=Y0;rw[Ya];omega) λi v u hv hu=>?_;rw[Yj]at hv;obtain⟨p,hp,e⟩:=CV.mp hv;obtain⟨w',hw,_⟩:=rv.get hp;obtain⟨k,x,LD,dg⟩:=a2 i u (by rw[<- g0];exact hu);rw[hw]at LD;injection LD with LD;injection LD with LD _;rw[<- e,LD];exact jw dg
def Bj.f{H:Hp}{a:Addr}{o:Obj}{kvs:KL}{k:Key}(e:H a=some (.frz o (.dK kvs))):Bj H a (kV k) (BB kvs k):=.inl ⟨kvs,k,.inr ⟨o,e⟩,Y,Y⟩
end
end L2
namespace Md
open PySem L2
def cP(K:Fg)(H:Hp)(u:Addr)(us:LS):Prop:=H u=some (.tup (us.map V.str))\/SqL K H u (us.map V.str)
def cP.sq{K:Fg}{H:Hp}{u:Addr}{us:LS}(h:cP K H u us):∃ b,CW K b H u (us.map V.str):=by
 rcases h with h | h
 ·exact⟨false,AH.of h⟩
 ·exact⟨true,h⟩
def mP(K:Fg)(H:Hp)(r:Str×LS)(v:V):Prop:=∃ t u,v=.ref t/\AH K H t [.str r.1,.ref u]/\cP K H u r.2
def Zd(K:Fg)(H:Hp)(l:Addr)(rows:RS):Prop:=∃ b vs,CW K b H l vs/\Paired (mP K H) rows vs
def cP.mono{K:Fg}{H H':Hp}{u:Addr}{us:LS}(h:cP K H u us)(s:AB H H'):cP K H' u us:=h.elim (λx=>.inl (s _ _ x)) λx=>.inr (s.seq x)
theorem mP.mono{K:Fg}{H H':Hp}{r:Str×LS}{v:V}(h:mP K H r v)(s:AB H H'):mP K H' r v:=let⟨t,u,e,a,b⟩:=h;⟨t,u,e,s.tup a,b.mono s⟩
theorem Zd.mono{K:Fg}{H H':Hp}{l:Addr}{rows:RS}(h:Zd K H l rows)(s:AB H H'):Zd K H' l rows:=let⟨b,vs,a,p⟩:=h;⟨b,vs,a.mono s,Paired.mapP p λ_ _ z=>z.mono s⟩
def T5.g{K:Fg}{H:Hp}{l:Addr}{rows:RS}(h:T5 H l rows):Zd K H l rows:=by
 obtain⟨vs,a,p⟩:=h;refine⟨true,vs,SqL.of a,Paired.mapP p λr v z=>?_⟩;obtain⟨t,u,e,h1,h2⟩:=z;exact⟨t,u,e,AH.of h1,.inl h2⟩
theorem Bp{α β:Type}{F:α->β->Prop}:∀ {l:List α}{k:List β},Paired F l k->∀ {i:Nat}{b:β},k[i]?=some b->∃ a,l[i]?=some a/\F a b
 | _,_,.nil,i,b,h=>by simp at h
 | _,_,.cons r t,0,b,h=>by simp at h;subst h;exact⟨Z,r⟩
 | _,_,.cons r t,i + 1,b,h=>by
  obtain⟨a,h1,h2⟩:=Bp t (i:=i) (b:=b) (by simpa using h);exact⟨a,by simpa using h1,h2⟩
def Vz{kvs:KL}{k:Key}(h:k∉kvs.map (·.1)):BB kvs k=none:=by
 cases e:BB kvs k with
 | none=>rfl
 | some v=>exact absurd (xj e) h
def rM{kvs:KL}{k:Key}{v:V}(h:k∉kvs.map (·.1)):(Ao kvs k v).map (·.1)=kvs.map (·.1)++[k]:=by
 rw[Zp v (Vz h),Ys];rfl
def gU{rows:RS}{i:Nat}{r:Str×LS}(nd:(rows.map (·.1)).Nodup)(h:rows[i]?=some r):(Sum.inr r.1:Key)∉(rows.take i).map λr=>(Sum.inr r.1:Key):=by
 intro m;obtain⟨q,hq,e⟩:=Yg.mp m;have e:q.1=r.1:=by injection e
 obtain⟨j,hj,ej⟩:=mr.mp hq;rw[Bg]at hj;have hj2:rows[j]?=some q:=by
  rw[List.getElem_take]at ej;rw[Yb (by omega),ej]
 have a:(rows.map (·.1))[j]?=some r.1:=by rw[Yj,hj2,<- e];rfl
 have b:(rows.map (·.1))[i]?=some r.1:=by rw[Yj,h];rfl
 have:=bz nd a b;omega
def LH(H:Hp)(rows:RS)(kvs:KL):Prop:=Paired (λr (p:Key×V)=>p.1=Sum.inr r.1/\∃ t,p.2=.ref t/\H t=some (.tup (r.2.map V.str))) rows kvs
def LH.mono{H H':Hp}{rows:RS}{kvs:KL}(h:LH H rows kvs)(s:∀ b xs,H b=some (.tup xs)->H' b=some (.tup xs)):LH H' rows kvs :=
 Paired.mapP h λ_ _ z=>⟨z.1,let⟨t,e,x⟩:=z.2;⟨t,e,s _ _ x⟩⟩
theorem LH.keys:∀ {H:Hp}{rows:RS}{kvs:KL},LH H rows kvs->kvs.map (·.1)=rows.map λr=>(Sum.inr r.1:Key)
 | _,_,_,.nil=>rfl
 | _,_,_,.cons r t=>by rw[Yz,Yz,r.1,LH.keys t]
def BG(rows:RS)(x:Str):LS:=(rows.lookup x).getD []
def gH{rows:RS}(nd:(rows.map (·.1)).Nodup){r:Str×LS}(h:r∈rows):BG rows r.1=r.2:=by
 unfold BG
 induction rows with
 | nil=>cases h
 | cons q rs ih =>
  have Vn:(q.1 :: rs.map (·.1)).Nodup:=nd;obtain⟨n1,n2⟩:=Cr.mp Vn;obtain⟨a,b⟩:=q;rw[Sm]
  rcases Yv.mp h with e | h
  ·subst e;simp
  ·have ne:(r.1 == a)=false:=by
    rw[beq_eq_false_iff_ne];intro e;exact n1 (Yg.mpr ⟨r,h,e⟩)
   rw[ne];exact ih n2 h
theorem LH.val:∀ {H:Hp}{rows:RS}{kvs:KL},LH H rows kvs->(rows.map (·.1)).Nodup->∀ {r:Str×LS},r∈rows->∃ t,BB kvs (Sum.inr r.1)=some (.ref t)/\H t=some (.tup (r.2.map V.str))
 | _,_,_,.nil,_,r,h=>nomatch h
 | _,q :: rs,p :: ps,.cons z t,nd,r,h=>by
  have Vn:(q.1 :: rs.map (·.1)).Nodup:=nd;obtain⟨n1,n2⟩:=Cr.mp Vn;obtain⟨z1,u,z2,z3⟩:=z
  rcases Yv.mp h with e | h
  ·subst e;exact⟨u,by rw[UW z1,z2],z3⟩
  ·have ne:¬ p.1=(Sum.inr r.1:Key):=λe=>n1 (by
    rw[z1]at e;have e':q.1=r.1:=by injection e
    rw[e'];exact Yg.mpr ⟨r,h,Y⟩)
   obtain⟨u',h1,h2⟩:=LH.val t n2 h;exact⟨u',by rw[UU ne];exact h1,h2⟩
def Ya4{H:Hp}{rows:RS}{kvs:KL}(h:LH H rows kvs):(kvs.map λp=>kV p.1)=(rows.map (·.1)).map V.str:=by
 have e:(kvs.map λp=>kV p.1)=(kvs.map (·.1)).map kV:=by rw[B9];rfl
 rw[e,h.keys,B9,B9];rfl
end Md
namespace L2
open PySem PySem.Spec PyProof.Rows
section
variable {X:Cx}{pins:PL}{σ:St}{H H':Hp}{s:Shared}{h':Heap}
def Inv.laidMany{t':Nat}(I:Inv X pins σ H s)(k:∀ b u,s.heap.get? b=some u->h'.get? b=some u)(agree:∀ b,b<s.heap.objs.size->H' b=H b)
  (hok:∀ b o,s.heap.objs.size<=b->H' b=some o->BU X.prog X.w H' h' b o):Inv X pins σ H' {s with heap:=h',toks:=t' }:=by
 have low:∀ {b:Addr} {o:HO},H b=some o->H' b=some o:=λ{b o} e=>by rw[agree b (I.hok.lt e)];exact e
 refine I.un ⟨λb o e _ _ _=>k b o e,λb o e _ _ _=>⟨o.slots,k b o e⟩,λb o e n _=>by rw[agree b (Yk e)];exact n,λb o e _=>⟨o,k b o e⟩,λb xs e=>low e,λb o u e=>low e,λb ps e=>⟨#[],by rw[low e];simp⟩⟩ λb o e=>?_;by_cases hb:b<s.heap.objs.size
 ·have e':=e;rw[agree b hb]at e';exact(I.hok b o e').stay (λc v _ q=>k c v q) (λc q=>low q) λc xs q=>low q
 ·exact hok b o (Nat.le_of_not_lt hb) e
theorem rY{α β:Type}[BEq α][LawfulBEq α]:∀ {as:List α}{ks:List β}{a:α}{i:Nat}{k:β},as.Nodup->as[i]?=some a->ks[i]?=some k->(as.zip ks).lookup a=some k
 | [],_,_,_,_,_,h,_=>by simp at h
 | _ :: _,[],_,_,_,_,_,h=>by simp at h
 | x :: as,y :: ks,a,0,k,_,h1,h2=>by
  simp at h1 h2;subst h1;subst h2;simp
 | x :: as,y :: ks,a,i + 1,k,nd,h1,h2=>by
  obtain⟨n1,n2⟩:=Cr.mp nd;have ji:as[i]?=some a:=by simpa using h1
  have ne:(a == x)=false:=by
   rw[beq_eq_false_iff_ne];intro e;exact n1 (e ▸ Yd ji)
  rw[List.zip_cons_cons,Sm,ne];exact rY n2 ji (by simpa using h2)
theorem gp{α β:Type}[BEq α][LawfulBEq α]:∀ {as:List α}{ks:List β}{a:α}{k:β},(as.zip ks).lookup a=some k->∃ i:Nat,as[i]?=some a/\ks[i]?=some k
 | [],_,_,_,h=>by simp at h
 | _ :: _,[],_,_,h=>by simp at h
 | x :: as,y :: ks,a,k,h=>by
  rw[List.zip_cons_cons,Sm]at h;cases e:(a == x)with
  | true =>
   rw[e]at h;have e':a=x:=by simpa using e
   subst e';exact⟨0,Y,h⟩
  | false =>
   rw[e]at h;obtain⟨i,h1,h2⟩:=gp h;exact⟨i + 1,by simpa using h1,by simpa using h2⟩
theorem YT{α β:Type}{F:α->β->Prop}:∀ {l:List α}{k:List β},l.length=k.length->(∀(i:Nat) (a:α) (b:β),l[i]?=some a->k[i]?=some b->F a b)->Paired F l k
 | [],[],_,_=>.nil
 | [],_ :: _,h,_=>by simp at h
 | _ :: _,[],h,_=>by simp at h
 | a :: l,b :: k,h,f=>.cons (f 0 a b rfl rfl) (YT (by simpa using h) λi x y hx hy=>f (i + 1) x y (by simpa using hx) (by simpa using hy))
def Zpi{o:Expr}{to:TE}{p1 apos Al WA:Pos}(hc:X.calm=true)(ho:PE X o to)(dh:Gl X "list")(U2:X.mg "list"=none)
  (B5:attributeBase o "items" X.env (eval o X.env)=eval o X.env:=by rfl) (B4:(apos.endLine == Al.line)=true:=by rfl)
  (Ca:starEach [.Call (.Attribute o "items" apos) [] [] Al] X.env=[(false,eval (.Call (.Attribute o "items" apos) [] [] Al) X.env)]:=by rfl):
  PE X (.Call (.Name "list" p1) [.Call (.Attribute o "items" apos) [] [] Al] [] WA) (λσ H Q=>to σ H λx H1=>∃ a kvs,x=.ref a/\Rd H1 a (.dK kvs) /\
   ∀ l H' vs,H1 l=none->AB H1 H'->H' l=some (.lst vs)->Paired (λ(kv:Key×V) v=>∃ t,v=.ref t/\H' t=some (.tup [kV kv.1,kv.2])) kvs vs->Q (.ref l) H'):=by
 ac_rfl;refine wpAny_Call_Name_kw (UP I dh U2 W2 ?_ (by decide) (by decide));refine Vi ?_ Ca rfl;refine m9 ?_;refine wpAny_Call_method0_late B5 B4 (AN (ho pins s σ H _ I h) λv s1 ⟨x,H1,I1,r1,q1⟩=>?_);obtain⟨a,kvs,e,ha,q⟩:=q1;subst e;obtain rfl:v=Value.ref a:=r1;obtain⟨t1,t2,t3⟩:=p4 I1 (.inl ⟨kvs,ha⟩);obtain⟨hz,hs,us,rv,ob,es,ep,h1,h2,h3,h4,h5,h6⟩:=X7 I1.hok ha;have hl:kvs.length=us.length:=Yu rv;have dd:s1.heap.DictAt (CC X.prog X.w) a us ep:=⟨ob,es,h1,h2,h3,h4,h5,h6⟩;refine⟨"dict","dict.items",sS,m7,PySem.F.type_dict_items,t1,t2,g_ rfl (mq ?_)⟩;refine call_meetsIn m7 t1 PySem.F.entry_dict_items (PySem.F.args_dict_items_1 _) (meets_dict_items (CC X.prog X.w) a t3) ⟨⟨us,dd.dictOf⟩,Calls.spliced_nil ?_⟩;have I2:Inv X pins σ H1 {s1 with heap:=s1.heap.push {cls:=.type "dict_items",data:=.fields #[.ref a] } }:=I1.kept (t':=s1.toks) λb o e=>Ye _ e;refine W.kdx_call (knd:=CC X.prog X.w) (kvs:=us) (ep:=ep) (d:=a) (I1.ok.hd hc) ⟨_,Yp _ rfl,Y,Y⟩ (dd.at' λo e=>Ye _ e) (by rw[<- hl];exact hz) λh' tk acc c as hk Vr hal hG B3=>?_;generalize hsz:(s1.heap.push {cls:=.type "dict_items",data:=.fields #[.ref a] }).objs.size=L at Vr hG;have ndas:as.Nodup:=YZ.mpr (hG.rise.imp λh=>Yx h);have eF:∀ b,b<L->(λb=>if b=L then some (HO.lst (as.map V.ref))else match (as.zip kvs).lookup b with | some kv=>some (HO.tup [kV kv.1,kv.2]) | none=>H1 b:Hp) b=H1 b:=λb hb=>by
  show(if b=L then _ else _)=_;rw[if_neg (Yx hb)];cases e:(as.zip kvs).lookup b with
  | none=>rfl
  | some kv =>
   obtain⟨i,h1,_⟩:=gp e;have:=hG.above b (Yd h1);exact absurd (Vk hb this) (W7 _)
 have at_:∀(i:Nat) (b:Addr),as[i]?=some b->∃ kv:Key×V,kvs[i]?=some kv/\(λb=>if b=L then some (HO.lst (as.map V.ref))else match (as.zip kvs).lookup b with | some kv=>some (HO.tup [kV kv.1,kv.2]) | none=>H1 b:Hp) b=some (.tup [kV kv.1,kv.2]):=λi b hi=>by
  have BK:i<kvs.length:=by
   have:=(Yi.mp hi).1;omega
  refine⟨kvs[i],by simp[BK],?_⟩;show(if b=L then _ else _)=_;rw[if_neg (Br (hG.above b (Yd hi))),rY ndas hi (show kvs[i]?=some kvs[i] by simp[BK])]
 have I3:Inv X pins σ (λb=>if b=L then some (HO.lst (as.map V.ref))else match (as.zip kvs).lookup b with | some kv=>some (HO.tup [kV kv.1,kv.2]) | none=>H1 b:Hp) {s1 with heap:=h',toks:=tk}:=by
  refine I2.laidMany (t':=tk) hk (λb hb=>eF b (by rw[<- hsz];exact hb)) λb o hb e=>?_;have e:(if b=L then some (HO.lst (as.map V.ref))else match (as.zip kvs).lookup b with | some kv=>some (HO.tup [kV kv.1,kv.2]) | none=>H1 b)=some o:=e;by_cases hbL:b=L
  ·rw[if_pos hbL]at e;cases e;refine⟨by rw[Ya,hal,<- hl];exact hz,acc.toList,c,?_,by rw[hbL];simpa using Vr⟩;rw[B3];exact f_ (by simp) λi v u hv hu=>by
    rw[Yj]at hv hu;obtain⟨y,hy,ey⟩:=CV.mp hv;rw[hy]at hu;rw[<- ey];exact(Ym hu).symm
  ·rw[if_neg hbL]at e;cases el:(as.zip kvs).lookup b with
   | none =>
    rw[el]at e;have:=I2.hok.lt e;exact absurd (B2 this hb) (W7 _)
   | some kv =>
    rw[el]at e;cases e;obtain⟨i,X0,WY⟩:=gp el;obtain⟨key,k,x,hu,hkey,hget⟩:=hG.pairs i b X0;obtain⟨u,av,ru⟩:=rv.get WY;rw[hu]at av;injection av with av;injection av with au hu4;subst au hu4;exact⟨U,[key,x],.cons (jw hkey) (.cons ru .nil),⟨_,hget,Y,Z⟩⟩
 refine⟨.ref L,_,I3,Y,q L _ (as.map V.ref) ?_ (λb o e=>?_) ?_ ?_⟩
 ·rw[<- hsz];exact I2.hok.fresh (Yf _)
 ·exact(eF b (by rw[<- hsz];exact I2.hok.lt e)).trans e
 ·show(if L=L then _ else _)=_;rw[if_pos rfl]
 ·refine YT (by rw[Ya,hal,hl]) λi kv v h1 h2=>?_;rw[Yj]at h2;obtain⟨b,hb,eb⟩:=CV.mp h2;obtain⟨vI,LD,dg⟩:=at_ i b hb;rw[h1]at LD;cases LD;exact⟨b,eb.symm,dg⟩
end
section
variable {X:Cx}
def Z7f(K:Fg):R2:=λx y H Q=>∃ a b xs ys,x=.ref a/\y=.ref b/\AH K H a xs/\AH K H b ys/\xs.length + ys.length<=sizeLine /\
 (xs=[]->Q (.ref b) H)/\(xs≠[]->ys=[]->Q (.ref a) H)/\(xs≠[]->ys≠[]->∀ p,H p=none->Q (.ref p) (upd H p (.tup (xs++ys))))
def YE:BO X (binaryOp .Add) (Z7f X.K):=by
 exfalso;obtain⟨a,b,xs,ys,rfl,rfl,ha,hb,hz,q0,q1,q2⟩:=h;by_cases hx:xs=[]
 ·cases rx;cases ry;obtain⟨its,r1,p1,_⟩:=I.tuple ha;obtain⟨Bv,r2,p2,_⟩:=I.tuple hb;have e:its=[]:=r1.nil_iff.mpr hx;obtain⟨⟨cls,dd,data,sl⟩,ho,hc,n,hd⟩:=id p1;obtain⟨⟨uT,jj,data2,VN⟩,C8,X1,n2,hd2⟩:=id p2;simp only at hc hd X1 hd2;subst hc hd X1 hd2;exact concat_meets ⟨_,ho,Y⟩ ⟨_,C8,Y⟩ noFill_tuple_add seq_tuple_add PySem.F.slot_tuple_add sU (sV _ _)
   (tuple_addW0 a b its.toArray Bv.toArray n n2 dd jj sl VN (by simp[e])) ⟨ho,C8,⟨.ref b,H,I,Y,q0 hx⟩⟩
 ·exact Z4m pins s σ H _ _ v u Q I rx ry ⟨a,b,xs,ys,Y,Y,ha,hb,hx,hz,q1 hx,q2 hx⟩
end
section
variable {X:Cx}{pins:PL}{σ:St}{H:Hp}{s:Shared}{h':Heap}
def Inv.turnedNew{t':Nat}{it a:Addr}{o:HO}(I:Inv X pins σ H s)(k:∀ b u,b≠it->s.heap.get? b=some u->h'.get? b=some u)(hn:H it=none)(hL:it≠X.env.locals)
  (h1:it∈X.ex\/X.s₀.heap.objs.size<=it) (h2:∀ x c,X.env.cells.lookup x=some c->c≠it) (h3:∀ p∈X.pn++pins,p.1≠it) (ha:s.heap.objs.size<=a) (new:BU X.prog X.w (upd H a o) h' a o):
  Inv X pins σ (upd H a o) {s with heap:=h',toks:=t' }:=by
 have nit:∀ b u,H b=some u->b≠it:=λb u e z=>by rw[z,hn]at e;cases e
 have na:∀ b u,H b=some u->b≠a:=λb u e=>Yx (B2 (I.hok.lt e) ha);have low:∀ {b u},H b=some u->(upd H a o) b=some u:=λ{b u} e=>by rw[AD (na b u e)];exact e
 refine I.step (g':=s.gens) (d':=s.drawn) (ch:=[it]) (λb hb=>?_) (λb u _ _ hc e _=>k b u (λz=>hc (by simp[z])) e) (λb u _ _ hc e _=>⟨u.slots,k b u (λz=>hc (by simp[z])) e⟩)
  (λb u _ e n=>by rw[AD (Yx (B2 (Yk e) ha))];exact n)
  (λb u hc e=>⟨u,k b u (λz=>hc (by simp[z])) e⟩) (λ_ _ e=>low e) (λ_ _ _ e=>low e) (λb ps e=>⟨#[],by rw[low e];simp⟩) (λm hm=>?_) (λb u e=>?_) I.bare
 ·have e:b=it:=by simpa using hb
  subst e;exact⟨h1,hL,h2,h3⟩
 ·obtain⟨o',es,ep,ho,r⟩:=hm;exact⟨o',es,ep,k _ o' (Ae hL) ho,r⟩
 ·by_cases hb:b=a
  ·subst hb;rw[uS]at e;cases e;exact new
  ·rw[AD hb]at e;refine(I.hok b u e).stay (λc v hc q=>k c v ?_ q) (λ_ q=>low q) λ_ _ q=>low q
   rcases hc with z | z
   ·rw[z];exact nit b u e
   ·exact nit c _ z
end
def iF(a:Addr)(o:Obj)(kvs:KL):It :=
 ⟨λi H=>i<kvs.length/\H a=some (.frz o (.dK kvs)),λi H v H'=>∃ t p,kvs[i]?=some p/\H t=none/\v=.ref t/\H'=upd H t (.tup [kV p.1,p.2]),λi H=>kvs.length<=i/\H a=some (.frz o (.dK kvs))⟩
def Zt2{P:Program}{w:World}{K:Fg}{elts:List Expr}{x1}{pos:Pos}(a it:Addr)(o:Obj)(kvs:KL)(es:Array DictEntry)(ep:Nat)(hd:o.data=.dict es ep):
  Tw P w K (.Tuple elts x1 pos) (iF a o kvs) [it] it (λi h=>∃ ok ov,IsItemIter h it a i kvs.length ep ok ov) where
 mem:=by simp
 obj:=λi h st b hb=>by
  have e:b=it:=by simpa using hb
  subst e;obtain⟨ok,ov,st⟩:=st;exact⟨_,st,λv z=>by cases z⟩
 keep:=λi h h' st k=>by
  obtain⟨ok,ov,st⟩:=st;exact⟨ok,ov,k it (by simp) _ st⟩
 item:=by
  intro X hP hw hK hc i pins s σ H E I hf st hg;subst hP hw hK;obtain⟨f0,f1,f2,f3,f4,f5⟩:=hf it (by simp);obtain⟨hi,ha⟩:=hg;obtain⟨ok,ov,st⟩:=st;obtain⟨_,vs,r,dd⟩:=XY (I.hok a _ ha) hd;obtain⟨p,hp⟩:∃ p,kvs[i]?=some p:=⟨kvs[i],by simp[hi]⟩;obtain⟨u,hu,ru⟩:=r.get hp;have hl:kvs.length=vs.length:=Yu r;rw[hl]at st;refine wpAny_pyNext_items_item st dd hu λkey h' hk BC ht hz keep=>?_;refine⟨Z,?_⟩;refine wpAny_letOwnedTupleGo_items (s:={s with heap:=h' }) BC λvy tK sb=>?_;have itlt:it<s.heap.objs.size:=Yk st;have tne:s.heap.objs.size≠it:=Br itlt;have A_:vy.get? s.heap.objs.size=some {cls:=.type "tuple",data:=.seq #[key,u] }:=sb.extBut _ _ tne ht;have I1:Inv X pins σ (upd H s.heap.objs.size (.tup [kV p.1,p.2])) {s with heap:=vy }:=I.turnedNew (t':=s.toks) (λb o hb e=>sb.extBut b o hb (keep b o hb e)) f0 f1 f3 f4 f5 (Yf _)
   ⟨U,[key,u],.cons (jw hk) (.cons ru .nil),⟨_,A_,Y,Z⟩⟩
  refine⟨.ref s.heap.objs.size,_,I1,Y,⟨s.heap.objs.size,p,hp,I.hok.fresh (Yf _),Y,Y⟩,⟨_,_,by rw[hl];exact tK⟩,λb hb=>?_⟩;have e:b=it:=by simpa using hb
  subst e;rw[AD (Ae tne)];exact(hf b (by simp)).1
 done:=by
  intro X hP hw hK hc i pins s σ H E I hf st hg;subst hP hw hK;obtain⟨f0,f1,f2,f3,f4,f5⟩:=hf it (by simp);obtain⟨hi,ha⟩:=hg;obtain⟨ok,ov,st⟩:=st;obtain⟨_,vs,r,dd⟩:=XY (I.hok a _ ha) hd;have hl:kvs.length=vs.length:=Yu r;rw[hl]at st;exact wpAny_pyNext_items_end (I.ok.hd hc) st dd (by simp;omega) λh' eb=>⟨Y,I.turned (t':=s.toks) (λb o hb e=>eb b o hb e) f0 f1 f3 f4 f5⟩
 self:=λA i s Q E st h=>by
  obtain⟨ok,ov,st⟩:=st;exact W.kcp_self st h
section
variable {X:Cx}
def Z8r(to:TE):TI:=λσ H R=>to σ H λx H1=>∃ a ob kvs,x=.ref a/\H1 a=some (.frz ob (.dK kvs))/\R (iF a ob kvs) H1
def Z0v{elts:List Expr}{x1}{CF:Pos}{o:Expr}{to:TE}{apos Al:Pos}(ho:PE X o to)(B5:attributeBase o "items" X.env (eval o X.env)=eval o X.env:=by rfl)(B4:(apos.endLine == Al.line)=true:=by rfl):
  PI X (.Tuple elts x1 CF) (.Call (.Attribute o "items" apos) [] [] Al) (Z8r to):=by
 intro pins s σ H R I h;refine wpAny_Call_method0_late B5 B4 (AN (ho pins s σ H _ I h) λv s1 ⟨x,H1,I1,r1,q1⟩=>?_);obtain⟨a,ob,kvs,e,ha,q⟩:=q1;subst e;obtain rfl:v=Value.ref a:=r1;obtain⟨t1,t2,t3⟩:=p4 I1 (.inl ⟨kvs,.inr ⟨ob,ha⟩⟩);obtain⟨es,ep,hd⟩:=qz (I1.hok a _ ha);obtain⟨hs,vs,r,dd⟩:=XY (I1.hok a _ ha) hd;have hl:kvs.length=vs.length:=Yu r;refine⟨"dict","dict.items",sS,m7,PySem.F.type_dict_items,t1,t2,g_ rfl (mq ?_)⟩;refine call_meetsIn m7 t1 PySem.F.entry_dict_items (PySem.F.args_dict_items_1 _) (meets_dict_items (CC X.prog X.w) a t3) ⟨⟨vs,dd.dictOf⟩,?_⟩;have I2:Inv X pins σ H1 {s1 with heap:=s1.heap.push {cls:=.type "dict_items",data:=.fields #[.ref a] } }:=I1.kept (t':=s1.toks) λb o e=>Ye _ e;refine wpAny_pyIter_items (kvs:=vs) (ep:=ep) (knd:=CC X.prog X.w) ⟨_,Yp _ rfl,Y,Y⟩ (dd.at' λo e=>Ye _ e) ?_;refine⟨_,[_],_,_,H1,Y,I2.kept (t':=s1.toks) λb o e=>Ye _ e,Zt2 a _ ob kvs es ep hd,⟨.none,.none,?_⟩,λb hb=>?_,q⟩
 ·rw[hl];exact Yp _ rfl
 ·have e:b=_:=Yh.mp hb;subst e;exact I2.fpOk (Yf _) (I2.hok.fresh (Yf _))
end
def Zy2{a:Addr}{o:Obj}{kvs:KL}{g:TG}{tb:TS}{D:Wd}{σ:St}{H:Hp}(Pv:NW)(h0:Pv 0 σ H)(hl:∀ i σ H,i<=kvs.length->Pv i σ H->H a=some (.frz o (.dK kvs)))
  (hs:∀ i p t σ H,kvs[i]?=some p->Pv i σ H->H t=none->g (.ref t) σ (upd H t (.tup [kV p.1,p.2])) λσ2 H2=>tb {D with nx:=Pv (i + 1),ct:=Pv (i + 1),bk:=D.nx} σ2 H2) (hd:∀ σ H,Pv kvs.length σ H->D.nx σ H):
  ∃ W:Nat->Nat->St->Hp->Prop,(∃ m,W 0 m σ H)/\∀ i m σ H,W i m σ H ->
   ((iF a o kvs).stop i H/\D.nx σ H)\/((iF a o kvs).go i H/\∃ N:SW,(∀ σ' H',N σ' H'->∃ m',m'<m/\W (i + 1) m' σ' H')/\∀ x H',(iF a o kvs).yld i H x H'->g x σ H' λσ2 H2=>tb {D with nx:=N,ct:=N,bk:=D.nx} σ2 H2):=by
 refine⟨λi m σ H=>m=kvs.length - i/\i<=kvs.length/\Pv i σ H,⟨kvs.length,by simp,Ax _,h0⟩,?_⟩;rintro i m σ H ⟨rfl,hi,p⟩;have q:=hl i σ H hi p;by_cases BK:i<kvs.length
 ·refine .inr ⟨⟨BK,q⟩,Pv (i + 1),λσ' H' p'=>⟨kvs.length - (i + 1),W,Y,BK,p'⟩,λx H' y=>?_⟩;obtain⟨t,pr,hp,ht,rfl,rfl⟩:=y;exact hs i pr t σ H hp p ht
 ·have e:i=kvs.length:=by omega
  subst e;exact .inl ⟨⟨Yf _,q⟩,hd σ H p⟩
section
variable {X:Cx}
end
section
variable {prog:Program}{w:World}{A:Around}{E:EV}{s:Shared}
def lU{p t:Addr}{k:Nat}{us:Array Value}{u:Value}{Q:EV}(hp:s.heap.IsTupleIter p t k)(ht:s.heap.IsTuple t us)(hu:us[k]?=some u)
  (q:∀ g,g.IsTupleIter p t (k + 1)->Heap.SameBut p s.heap g->Q u {s with heap:=g}):wpAny (model prog w) A (Builtin.SmallTypes.nextOf (.ref p)) Q E s:=by
 obtain⟨ob,h1,h2,h3⟩:=id hp;obtain⟨ot,h4,_,nt,h5⟩:=ht;unfold Builtin.SmallTypes.nextOf;refine Ja (wpAny_callSpecial?_slot (name:=Str.ofString "__next__") hp.typeIs m_ (wpAny_call_entry m_ hp.typeIs PySem.F.entry_tuple_iterator_next ?_ (PySem.F.args_tuple_iterator_next_1 _)));show wpAny _ _ (field (.ref p) 0>>=_) _ _ s;refine Ja (Jg h1 h3 (x:=.ref t) rfl ?_);show wpAny _ _ (if(Value.ref t == Value.none)=true then _ else _) _ _ s;rw[if_neg (show ¬ ((Value.ref t == Value.none)=true)from Yq)];show wpAny _ _ (field (.ref p) 1>>=_) _ _ s;refine Ja (Jg h1 h3 (x:=.int k 0) rfl ?_);show wpAny _ _ (seqItems? (.ref t)>>=_) _ _ s;refine Ja (wpAny_seqItems h4 h5 ?_);simp only[YX,hu];refine Ja (wpAny_setField h1 h3 (by simp) (Jd ⟨u,Y,Jd (q _ ?_ (Heap.SameBut.update ..))⟩));exact⟨_,g6 _ h1 (Obj.isFreed_of_fields (Obj.data_mapFields h3 _)),(Obj.cls_mapFields ..).trans h2,by rw[Obj.data_mapFields h3];simp[rawInt]⟩
def lT{p t:Addr}{k:Nat}{us:Array Value}{Q:EV}(hh:A.handled=none)(hp:s.heap.IsTupleIter p t k)(ht:s.heap.IsTuple t us)(hu:us[k]?=none)
  (q:∀ g e,Heap.ExtBut p s.heap g->(∃ o,g.get? e=some o/\o.cls=.type "StopIteration")->E (.ref e) {s with heap:=g}):wpAny (model prog w) A (Builtin.SmallTypes.nextOf (.ref p)) Q E s:=by
 obtain⟨ob,h1,h2,h3⟩:=id hp;obtain⟨ot,h4,_,nt,h5⟩:=ht;unfold Builtin.SmallTypes.nextOf;refine Ja (wpAny_callSpecial?_slot (name:=Str.ofString "__next__") hp.typeIs m_ (wpAny_call_entry m_ hp.typeIs PySem.F.entry_tuple_iterator_next ?_ (PySem.F.args_tuple_iterator_next_1 _)));show wpAny _ _ (field (.ref p) 0>>=_) _ _ s;refine Ja (Jg h1 h3 (x:=.ref t) rfl ?_);show wpAny _ _ (if(Value.ref t == Value.none)=true then _ else _) _ _ s;rw[if_neg (show ¬ ((Value.ref t == Value.none)=true)from Yq)];show wpAny _ _ (field (.ref p) 1>>=_) _ _ s;refine Ja (Jg h1 h3 (x:=.int k 0) rfl ?_);show wpAny _ _ (seqItems? (.ref t)>>=_) _ _ s;refine Ja (wpAny_seqItems h4 h5 ?_);simp only[YX,hu];refine Ja (wpAny_rule (Ja (wpAny_setField h1 h3 (by simp) ?_)));show wpAny _ _ (newExc (.type "StopIteration") []>>=_) _ _ _;refine Ja ?_;simp only[newExc,newTuple];refine Ja (wpAny_newObj_type ?_ (by size_fits));refine Ja (m:=firstArgMember _ _) (wpAny_of_eq (a:=Value.none) (by first | rfl | (simp only[firstArgMember];rfl)) ?_);refine wpAny_newObj_type ?_ (by size_fits);simp only[raiseNew];refine Ja (wpAny_handled ?_)
 first | rw[show A.in1.handled=none from hh] | rw[hh]
 refine Ja (Jd (wpAny_throw ?_));exact q _ _ (((Heap.SameBut.update ..).extBut.push _).push _) ⟨_,Yp _ rfl,Y⟩
structure Vh(h:Heap)(z ti to i1 i2 l1 l2:Addr)(k:Nat)(f:Value):Prop where
 z:IsZip h z ti to f
 ti:IsPair h ti (.ref i1) (.ref i2)
 to:∃ a b,IsPair h to a b
 i1:h.IsTupleIter i1 l1 k
 i2:h.IsTupleIter i2 l2 k
theorem Vh.at{h h':Heap}{z ti to i1 i2 l1 l2:Addr}{k:Nat}{f:Value}(x:Vh h z ti to i1 i2 l1 l2 k f)(e:∀ b∈[z,ti,to,i1,i2],∀ o,h.get? b=some o->h'.get? b=some o):Vh h' z ti to i1 i2 l1 l2 k f :=
 ⟨e z (by simp) _ x.z,e ti (by simp) _ x.ti,let⟨a,b,y⟩:=x.to;⟨a,b,e to (by simp) _ y⟩,x.i1.at λo q=>e i1 (by simp) o q,x.i2.at λo q=>e i2 (by simp) o q⟩
def Zvt{z ti to i1 i2 l1 l2:Addr}{k:Nat}{xs ys:Array Value}{x y:Value}{Q:EV}(D:ZipApart z ti to i1 i2 l1 l2)(st:Vh s.heap z ti to i1 i2 l1 l2 k .none)
  (t1:s.heap.IsTuple l1 xs) (t2:s.heap.IsTuple l2 ys) (hx:xs[k]?=some x) (hy:ys[k]?=some y)
  (q:∀ g,Vh g z ti to i1 i2 l1 l2 (k + 1) (rawInt s.heap.objs.size)->IsPair g s.heap.objs.size x y->(∀ c o,c≠z->c≠to->c≠i1->c≠i2->s.heap.get? c=some o->g.get? c=some o)->Q (.ref s.heap.objs.size) {s with heap:=g}):
  wpAny (model prog w) A (Builtin.«zip.__next__» ⟨[.ref z],[]⟩) (λfin s'=>∃ v,fin=.done (.ret v)/\Q v s') E s:=by
 obtain⟨hz,hti,⟨a,b,hto⟩,X0,WY⟩:=st;show wpAny _ _ (field (.ref z) 2>>=_) _ _ _;refine Ja (Jg hz rfl (x:=.bool false) rfl ?_);show wpAny _ _ (field (.ref z) 3>>=_) _ _ _;refine Ja (Jg hz rfl (x:=.ref ti) rfl (Ja (wpAny_seqItems hti rfl ?_)));show wpAny _ _ (Builtin.SmallTypes.ownedTupleIsFree (.ref z)>>=_) _ _ _;refine Ja ?_;unfold Builtin.SmallTypes.ownedTupleIsFree;refine Ja (Jg hz rfl (x:=.none) rfl (Jd ?_));simp only[if_true];refine Ja (wpAny_rule (Ja (Jg hz rfl (x:=.ref to) rfl (Ja (wpAny_setField_rec hz (by simp) λg1 z1 e1=>?_)))));replace z1:IsZip g1 z ti to .ellipsis:=z1;refine Ja ?_;simp only[List.zipIdx_cons,List.zipIdx_nil,gx,List.forIn_nil];refine Ja (Ja (wpAny_onRaise ?_));show wpAny _ _ (Builtin.SmallTypes.nextOf (.ref i1)>>=_) _ _ _;refine Ja (lU (X0.extBut e1.extBut D.i1z) (t1.extBut e1.extBut D.l1z) hx λg2 j1 e2=>Jd ?_);have to2:IsPair g2 to a b:=e2.extBut _ _ D.TOi1 (e1.extBut _ _ D.TOz hto);refine Ja (wpAny_seqItems to2 rfl (Ja (wpAny_updateSeq_pair to2 λg3 to3 e3=>?_)));replace to3:IsPair g3 to x b:=to3;refine Ja (wpAny_letGo (Jd (Ja (Ja (wpAny_onRaise ?_)))));show wpAny _ _ (Builtin.SmallTypes.nextOf (.ref i2)>>=_) _ _ _;refine Ja (lU (((WY.extBut e1.extBut D.i2z).extBut e2.extBut D.i12.symm).extBut e3.extBut D.TOi2.symm) (((t2.extBut e1.extBut D.l2z).extBut e2.extBut D.l2i1).extBut e3.extBut D.l2TO) hy λg4 j2 e4=>Jd ?_);have ub:IsPair g4 to x b:=e4.extBut _ _ D.TOi2 to3;refine Ja (wpAny_seqItems ub rfl (Ja (wpAny_updateSeq_pair ub λg5 jK e5=>?_)));replace jK:IsPair g5 to x y:=jK;refine Ja (wpAny_letGo (Jd (Jd (Ja (wpAny_seqItems jK rfl (Ja (wpAny_newTuple ?_)))))));have sz:g5.objs.size=s.heap.objs.size:=by rw[e5.1,e4.1,e3.1,e2.1,e1.1]
 have z5:IsZip g5 z ti to .ellipsis:=e5.extBut _ _ D.TOz.symm (e4.extBut _ _ D.i2z.symm (e3.extBut _ _ D.TOz.symm (e2.extBut _ _ D.i1z.symm z1)));have k5:∀ c o,c≠z->c≠to->c≠i1->c≠i2->s.heap.get? c=some o->g5.get? c=some o:=λc o c1 c2 c3 c4 e=>e5.extBut _ _ c2 (e4.extBut _ _ c4 (e3.extBut _ _ c2 (e2.extBut _ _ c3 (e1.extBut _ _ c1 e))));have j15:g5.IsTupleIter i1 l1 (k + 1):=((j1.extBut e3.extBut D.TOi1.symm).extBut e4.extBut D.i12).extBut e5.extBut D.TOi1.symm;have j25:g5.IsTupleIter i2 l2 (k + 1):=j2.extBut e5.extBut D.TOi2.symm;have zlt:z<g5.objs.size:=Yk z5;show wpAny _ _ (Builtin.SmallTypes.ownedTupleHandOut (.ref z) (.ref g5.objs.size)>>=_) _ _ _;refine Ja ?_;unfold Builtin.SmallTypes.ownedTupleHandOut;have z6:IsZip (g5.push {cls:=.type "tuple",data:=.seq #[x,y] }) z ti to .ellipsis:=Ye _ z5;refine Ja (wpAny_setField_rec z6 (by simp) λg7 z7 e7=>?_);replace z7:IsZip g7 z ti to (rawInt g5.objs.size):=z7;refine wpAny_setField_rec z7 (by simp) λg8 z8 e8=>?_;replace z8:IsZip g8 z ti to (rawInt g5.objs.size):=z8;have up:∀ c o,c≠z->g5.get? c=some o->g8.get? c=some o:=λc o c1 e=>e8.extBut _ _ c1 (e7.extBut _ _ c1 (Ye _ e));have p8:IsPair g8 g5.objs.size x y:=e8.extBut _ _ (Br zlt) (e7.extBut _ _ (Br zlt) (Yp _ rfl));rw[sz]at z8 p8;refine Jd ⟨Z,?_⟩;show Q (.ref g5.objs.size) _;rw[sz];exact q g8 ⟨z8,up _ _ D.TIz (k5 _ _ D.TIz D.TITO D.TIi1 D.TIi2 hti),⟨x,y,up _ _ D.TOz jK⟩,j15.at λo e=>up _ o D.i1z e,j25.at λo e=>up _ o D.i2z e⟩ p8 λc o c1 c2 c3 c4 e=>up c o c1 (k5 c o c1 c2 c3 c4 e)
def Zvu{z ti to i1 i2 l1 l2:Addr}{k:Nat}{xs ys:Array Value}{Q:Fin->Shared->Prop}(hh:A.handled=none)(D:ZipApart z ti to i1 i2 l1 l2)(st:Vh s.heap z ti to i1 i2 l1 l2 k .none)
  (t1:s.heap.IsTuple l1 xs) (t2:s.heap.IsTuple l2 ys) (Bh:xs[k]?=none\/ys[k]?=none)
  (q:∀ g e,(∀ c o,c≠z->c≠to->c≠i1->c≠i2->s.heap.get? c=some o->g.get? c=some o)->(∃ o,g.get? e=some o/\o.cls=.type "StopIteration")->E (.ref e) {s with heap:=g}):
  wpAny (model prog w) A (Builtin.«zip.__next__» ⟨[.ref z],[]⟩) Q E s:=by
 obtain⟨hz,hti,⟨a,b,hto⟩,X0,WY⟩:=st;show wpAny _ _ (field (.ref z) 2>>=_) _ _ _;refine Ja (Jg hz rfl (x:=.bool false) rfl ?_);show wpAny _ _ (field (.ref z) 3>>=_) _ _ _;refine Ja (Jg hz rfl (x:=.ref ti) rfl (Ja (wpAny_seqItems hti rfl ?_)));show wpAny _ _ (Builtin.SmallTypes.ownedTupleIsFree (.ref z)>>=_) _ _ _;refine Ja ?_;unfold Builtin.SmallTypes.ownedTupleIsFree;refine Ja (Jg hz rfl (x:=.none) rfl (Jd ?_));simp only[if_true];refine Ja (wpAny_rule (Ja (Jg hz rfl (x:=.ref to) rfl (Ja (wpAny_setField_rec hz (by simp) λg1 z1 e1=>?_)))));replace z1:IsZip g1 z ti to .ellipsis:=z1;refine Ja ?_;simp only[List.zipIdx_cons,List.zipIdx_nil,gx,List.forIn_nil];refine Ja (Ja (wpAny_onRaise ?_));show wpAny _ _ (Builtin.SmallTypes.nextOf (.ref i1)>>=_) _ _ _;cases hx:xs[k]? with
 | none =>
  refine Ja (lT hh (X0.extBut e1.extBut D.i1z) (t1.extBut e1.extBut D.l1z) hx λg2 e e2 he=>?_);obtain⟨oe,ho,hc⟩:=he;have z2:IsZip g2 z ti to .ellipsis:=e2 _ _ D.i1z.symm z1;have ez:e≠z:=λx=>by subst x;rw[z2]at ho;cases ho;simp at hc
  exact wpAny_setField_rec z2 (by simp) λg3 _ e3=>q g3 e (λc o c1 _ c3 _ x=>e3.extBut _ _ c1 (e2 _ _ c3 (e1.extBut _ _ c1 x))) ⟨oe,e3.extBut _ _ ez ho,hc⟩
 | some x =>
  have hy:ys[k]?=none:=by rcases Bh with h | h;rw[hx]at h;cases h;exact h
  refine Ja (lU (X0.extBut e1.extBut D.i1z) (t1.extBut e1.extBut D.l1z) hx λg2 j1 e2=>Jd ?_);have to2:IsPair g2 to a b:=e2.extBut _ _ D.TOi1 (e1.extBut _ _ D.TOz hto);refine Ja (wpAny_seqItems to2 rfl (Ja (wpAny_updateSeq_pair to2 λg3 to3 e3=>?_)));refine Ja (wpAny_letGo (Jd (Ja (Ja (wpAny_onRaise ?_)))));show wpAny _ _ (Builtin.SmallTypes.nextOf (.ref i2)>>=_) _ _ _;refine Ja (lT hh (((WY.extBut e1.extBut D.i2z).extBut e2.extBut D.i12.symm).extBut e3.extBut D.TOi2.symm) (((t2.extBut e1.extBut D.l2z).extBut e2.extBut D.l2i1).extBut e3.extBut D.l2TO) hy λg4 e e4 he=>?_);obtain⟨oe,ho,hc⟩:=he;have z4:IsZip g4 z ti to .ellipsis:=e4 _ _ D.i2z.symm (e3.extBut _ _ D.TOz.symm (e2.extBut _ _ D.i1z.symm z1));have ez:e≠z:=λx=>by subst x;rw[z4]at ho;cases ho;simp at hc
  exact wpAny_setField_rec z4 (by simp) λg5 _ e5=>q g5 e (λc o c1 c2 c3 c4 x=>e5.extBut _ _ c1 (e4 _ _ c4 (e3.extBut _ _ c2 (e2.extBut _ _ c3 (e1.extBut _ _ c1 x))))) ⟨oe,e5.extBut _ _ ez ho,hc⟩
def Zny{z ti to i1 i2 l1 l2:Addr}{k:Nat}{xs ys:Array Value}{x y:Value}{Q:OU->Shared->Prop}(D:ZipApart z ti to i1 i2 l1 l2)(st:Vh s.heap z ti to i1 i2 l1 l2 k .none)
  (t1:s.heap.IsTuple l1 xs) (t2:s.heap.IsTuple l2 ys) (hx:xs[k]?=some x) (hy:ys[k]?=some y)
  (q:∀ g,Vh g z ti to i1 i2 l1 l2 (k + 1) (rawInt s.heap.objs.size)->IsPair g s.heap.objs.size x y->(∀ c o,c≠z->c≠to->c≠i1->c≠i2->s.heap.get? c=some o->g.get? c=some o)->Q (some (.ref s.heap.objs.size)) {s with heap:=g}):
  wpAny (model prog w) A (pyNext (.ref z)) Q E s:=by
 have hT:s.TypeIs (.ref z) "zip":=⟨_,st.z,Y⟩;unfold pyNext;exact Ja (wpAny_attempt (wpAny_callSpecial?_slot (name:=Str.ofString "__next__") hT Y4 (wpAny_call_entry Y4 hT mz (Zvt D st t1 t2 hx hy λg a1 a2 a3=>Jd (q g a1 a2 a3)) (m6 _))))
def Znz{z ti to i1 i2 l1 l2:Addr}{k:Nat}{xs ys:Array Value}{Q:OU->Shared->Prop}(hh:A.handled=none)(D:ZipApart z ti to i1 i2 l1 l2)(st:Vh s.heap z ti to i1 i2 l1 l2 k .none)
  (t1:s.heap.IsTuple l1 xs) (t2:s.heap.IsTuple l2 ys) (Bh:xs[k]?=none\/ys[k]?=none)
  (q:∀ g,(∀ c o,c≠z->c≠to->c≠i1->c≠i2->s.heap.get? c=some o->g.get? c=some o)->Q none {s with heap:=g}):wpAny (model prog w) A (pyNext (.ref z)) Q E s:=by
 have hT:s.TypeIs (.ref z) "zip":=⟨_,st.z,Y⟩;unfold pyNext;refine Ja (wpAny_attempt (wpAny_callSpecial?_slot (name:=Str.ofString "__next__") hT Y4 (wpAny_call_entry Y4 hT mz (Zvu hh D st t1 t2 Bh λg e hk he=>?_) (m6 _))));obtain⟨o,ho,hc⟩:=he;refine Ja (wpAny_isInstance (T:="StopIteration") (b:=true) ⟨o,ho,hc⟩ isSubtype_stop ?_);exact Jd (q _ hk)
end
def UB(ps:List (V×V))(Ok:Hp->Prop):It :=
 ⟨λi H=>i<ps.length/\Ok H,λi H v H'=>∃ t p,ps[i]?=some p/\H t=none/\v=.ref t/\H'=upd H t (.tup [p.1,p.2]),λi H=>ps.length<=i/\Ok H⟩
section
variable {prog:Program}{w:World}{A:Around}{E:EV}{s:Shared}
abbrev ZJ(h:Heap)(l1:Addr):Heap:=h.push {cls:=.type "tuple_iterator",data:=.fields #[.ref l1,.int 0 0] }
abbrev jG(h:Heap)(l1 l2:Addr):Heap:=(ZJ h l1).push {cls:=.type "tuple_iterator",data:=.fields #[.ref l2,.int 0 0] }
abbrev jF(h:Heap)(l1 l2:Addr):Heap:=(jG h l1 l2).push {cls:=.type "tuple",data:=.seq #[.ref h.objs.size,.ref (ZJ h l1).objs.size] }
abbrev jE(h:Heap)(l1 l2:Addr):Heap:=(jF h l1 l2).push {cls:=.type "tuple",data:=.seq #[.none,.none] }
abbrev aZ(h:Heap)(l1 l2:Addr):Heap:=(jE h l1 l2).push {cls:=.type "zip",data:=.fields #[.none,.bool false,.bool false,.ref (jG h l1 l2).objs.size,.ref (jF h l1 l2).objs.size] }
def Zux(l1 l2:Addr)(xs ys:Array Value):Meets (Builtin.«zip.__new__» ⟨[.type "zip",.ref l1,.ref l2],[]⟩) (λ_ R s=>s.heap.IsTuple l1 xs/\s.heap.IsTuple l2 ys /\
   R (.ok (.ret (.ref (jE s.heap l1 l2).objs.size))) {s with heap:=aZ s.heap l1 l2}):=
 .of_wp λprog w A R s h=>by
  obtain⟨hp,g,d,tk,os⟩:=s;obtain⟨t1,t2,h⟩:=h;have hsub:=sub_zip;have T1:Heap.IsTuple (Shared.heap ⟨hp,g,d,tk,os⟩) l1 xs:=t1;have T2:Heap.IsTuple (Shared.heap ⟨hp.push {cls:=.type "tuple_iterator",data:=.fields #[.ref l1,.int 0 0] },g,d,tk,os⟩) l2 ys:=Heap.IsTuple.push t2 _
  wp_walk using wpAny_pyIter_tuple T1,wpAny_pyIter_tuple T2
  exact⟨Z,h⟩
def Zzm{l1 l2:Addr}{xs ys:Array Value}{Q:EV}(t1:s.heap.IsTuple l1 xs)(t2:s.heap.IsTuple l2 ys)
  (q:∀ g,Vh g (s.heap.objs.size + 4) (s.heap.objs.size + 2) (s.heap.objs.size + 3) s.heap.objs.size (s.heap.objs.size + 1) l1 l2 0 .none->(∀ c o,s.heap.get? c=some o->g.get? c=some o)->Q (.ref (s.heap.objs.size + 4)) {s with heap:=g}):
  wpAny (model prog w) A (call (.type "zip") [.ref l1,.ref l2]) Q E s:=by
 refine callType_new PySem.F.called_zip (by decide) (PySem.F.typeCall_zip_2 _ _) (PySem.F.newCall_zip_2 _ _) (λobj=>PySem.F.args_object_init_3 obj _ _) PySem.F.entry_zip_new (Zux l1 l2 xs ys) ⟨t1,t2,?_⟩;have n1:(ZJ s.heap l1).objs.size=s.heap.objs.size + 1:=Wy ..;have n2:(jG s.heap l1 l2).objs.size=s.heap.objs.size + 2:=by rw[Wy,n1]
 have n3:(jF s.heap l1 l2).objs.size=s.heap.objs.size + 3:=by rw[Wy,n2]
 have n4:(jE s.heap l1 l2).objs.size=s.heap.objs.size + 4:=by rw[Wy,n3]
 have up:∀ {h:Heap} {a:Addr} {o:Obj} (x:Obj),h.get? a=some o->(h.push x).get? a=some o:=λx e=>Ye _ e;have f5:(aZ s.heap l1 l2).get? (jE s.heap l1 l2).objs.size=some _:=Yp _ rfl;have f4:(aZ s.heap l1 l2).get? (jF s.heap l1 l2).objs.size=some _:=up _ (Yp _ rfl);have f3:(aZ s.heap l1 l2).get? (jG s.heap l1 l2).objs.size=some _:=up _ (up _ (Yp _ rfl));have f2:(aZ s.heap l1 l2).get? (ZJ s.heap l1).objs.size=some _:=up _ (up _ (up _ (Yp _ rfl)));have f1:(aZ s.heap l1 l2).get? s.heap.objs.size=some _:=up _ (up _ (up _ (up _ (Yp _ rfl))));show _/\_;rw[n2,n3,n4]at f5;rw[n1,n2]at f3;rw[n3]at f4;rw[n1]at f2;rw[n4];exact⟨⟨_,f5,Y⟩,q _ ⟨f5,f3,⟨_,_,f4⟩,⟨_,f1,Y,Y⟩,⟨_,f2,Y,Y⟩⟩ λc o x=>up _ (up _ (up _ (up _ (up _ x))))⟩
end
def gI{xs ys:LV}{i:Nat}{p:V×V}(h:(xs.zip ys)[i]?=some p):xs[i]?=some p.1/\ys[i]?=some p.2:=by
 rw[sX]at h;exact h
def Inv.turnedNewL{X:Cx}{pins:PL}{σ:St}{H:Hp}{s:Shared}{h':Heap}{t':Nat}{its:List Addr}{a:Addr}{o:HO}(I:Inv X pins σ H s)(k:∀ b u,b∉its->s.heap.get? b=some u->h'.get? b=some u)
  (f:∀ b∈its,UM X pins H b) (ha:s.heap.objs.size<=a) (new:BU X.prog X.w (upd H a o) h' a o):Inv X pins σ (upd H a o) {s with heap:=h',toks:=t' }:=by
 have nit:∀ b u,H b=some u->b∉its:=λb u e z=>by have:=(f b z).1;rw[this]at e;cases e
 have na:∀ b u,H b=some u->b≠a:=λb u e=>Yx (B2 (I.hok.lt e) ha);have low:∀ {b u},H b=some u->(upd H a o) b=some u:=λ{b u} e=>by rw[AD (na b u e)];exact e
 refine I.step (g':=s.gens) (d':=s.drawn) (ch:=its) (λb hb=>?_) (λb u _ _ hc e _=>k b u hc e) (λb u _ _ hc e _=>⟨u.slots,k b u hc e⟩)
  (λb u _ e n=>by rw[AD (Yx (B2 (Yk e) ha))];exact n)
  (λb u hc e=>⟨u,k b u hc e⟩) (λ_ _ e=>low e) (λ_ _ _ e=>low e) (λb ps e=>⟨#[],by rw[low e];simp⟩) (λm hm=>?_) (λb u e=>?_) I.bare
 ·obtain⟨f0,f1,f2,f3,f4,f5⟩:=f b hb;exact⟨f3,f1,f4,f5⟩
 ·obtain⟨o',es,ep,ho,r⟩:=hm;exact⟨o',es,ep,k _ o' (λz=>(f _ z).2.1 rfl) ho,r⟩
 ·by_cases hb:b=a
  ·subst hb;rw[uS]at e;cases e;exact new
  ·rw[AD hb]at e;refine(I.hok b u e).stay (λc v hc q=>k c v ?_ q) (λ_ q=>low q) λ_ _ q=>low q
   rcases hc with z | z
   ·rw[z];exact nit b u e
   ·exact nit c _ z
def Inv.turnedL{X:Cx}{pins:PL}{σ:St}{H:Hp}{s:Shared}{h':Heap}{t':Nat}{its:List Addr}(I:Inv X pins σ H s)(k:∀ b u,b∉its->s.heap.get? b=some u->h'.get? b=some u)
  (f:∀ b∈its,UM X pins H b):Inv X pins σ H {s with heap:=h',toks:=t' }:=by
 have nit:∀ b u,H b=some u->b∉its:=λb u e z=>by have:=(f b z).1;rw[this]at e;cases e
 refine I.step (g':=s.gens) (d':=s.drawn) (ch:=its) (λb hb=>?_) (λb u _ _ hc e _=>k b u hc e) (λb u _ _ hc e _=>⟨u.slots,k b u hc e⟩)
  (λb u _ e n=>n) (λb u hc e=>⟨u,k b u hc e⟩) (λ_ _ e=>e) (λ_ _ _ e=>e) (λb ps e=>⟨#[],by rw[e];simp⟩) (λm hm=>?_) (λb u e=>?_) I.bare
 ·obtain⟨f0,f1,f2,f3,f4,f5⟩:=f b hb;exact⟨f3,f1,f4,f5⟩
 ·obtain⟨o',es,ep,ho,r⟩:=hm;exact⟨o',es,ep,k _ o' (λz=>(f _ z).2.1 rfl) ho,r⟩
 ·refine(I.hok b u e).stay (λc v hc q=>k c v ?_ q) (λ_ q=>q) λ_ _ q=>q
  rcases hc with z | z
  ·rw[z];exact nit b u e
  ·exact nit c _ z
def Z0h{P:Program}{w:World}{K:Fg}{elts:List Expr}{x1}{pos:Pos}{xs ys:LV}(a b z ti to i1 i2:Addr)(D:ZipApart z ti to i1 i2 a b):
  Tw P w K (.Tuple elts x1 pos) (UB (xs.zip ys) λH=>AH K H a xs/\AH K H b ys) [z,ti,to,i1,i2] z (λi h=>Vh h z ti to i1 i2 a b i .none) where
 mem:=by simp
 obj:=λi h st c hc=>by
  have BF:c=z\/c=ti\/c=to\/c=i1\/c=i2:=by simpa using hc
  obtain⟨x,y,h3⟩:=st.to;obtain⟨o1,e1,_,d1⟩:=st.i1;obtain⟨o2,e2,_,d2⟩:=st.i2
  rcases BF with rfl | rfl | rfl | rfl | rfl
  ·exact⟨_,st.z,λv q=>by cases q⟩
  ·exact⟨_,st.ti,λv q=>by cases q⟩
  ·exact⟨_,h3,λv q=>by cases q⟩
  ·exact⟨_,e1,λv q=>by rw[d1]at q;cases q⟩
  ·exact⟨_,e2,λv q=>by rw[d2]at q;cases q⟩
 keep:=λi h h' st k=>st.at k
 item:=by
  intro X hP hw hK hc i pins s σ H E I hf st hg;subst hP hw hK;obtain⟨hi,ha,hb⟩:=hg;obtain⟨p,hp⟩:∃ p,(xs.zip ys)[i]?=some p:=⟨(xs.zip ys)[i]'hi,Yb hi⟩;obtain⟨hx,hy⟩:=gI hp;obtain⟨its,rv,pa,_⟩:=I.tuple ha;obtain⟨jts,Cw,pb,_⟩:=I.tuple hb;obtain⟨u,hu,ru⟩:=rv.get hx;obtain⟨v,hv,dD⟩:=Cw.get hy;refine Zny D st (show s.heap.IsTuple a its.toArray from pa) (show s.heap.IsTuple b jts.toArray from pb) (by simpa using hu) (by simpa using hv) λg BC hpr hk=>?_;refine⟨Z,?_⟩;refine wpAny_letOwnedTupleGo_zip (s:={s with heap:=g}) BC.z λg' z' sb=>?_;have zlt:z<s.heap.objs.size:=Yk st.z;have nz:s.heap.objs.size≠z:=Br zlt;have CN:Heap.ExtBut z g g':=sb.extBut;have hT:IsPair g' s.heap.objs.size u v:=CN _ _ nz hpr;have I1:Inv X pins σ (upd H s.heap.objs.size (.tup [p.1,p.2])) {s with heap:=g' }:=I.turnedNewL (t':=s.toks) (its:=[z,ti,to,i1,i2]) (λc o hc e=>CN c o (λq=>hc (by simp[q])) (hk c o (λq=>hc (by simp[q])) (λq=>hc (by simp[q])) (λq=>hc (by simp[q])) (λq=>hc (by simp[q])) e)) hf (Yf _)
   ⟨U,[u,v],.cons ru (.cons dD .nil),⟨_,hT,Y,Z⟩⟩
  have W_:Vh g' z ti to i1 i2 a b (i + 1) .none:=by
   obtain⟨a1,a2,a3⟩:=BC.to;exact⟨z',CN _ _ D.TIz BC.ti,⟨a1,a2,CN _ _ D.TOz a3⟩,BC.i1.extBut CN D.i1z,BC.i2.extBut CN D.i2z⟩
  refine⟨.ref s.heap.objs.size,_,I1,Y,⟨s.heap.objs.size,p,hp,I.hok.fresh (Yf _),Y,Y⟩,W_,λc hc=>?_⟩;have lt:∀ c∈[z,ti,to,i1,i2],c<s.heap.objs.size:=λc hc=>by
   have BF:c=z\/c=ti\/c=to\/c=i1\/c=i2:=by simpa using hc
   obtain⟨a1,a2,a3⟩:=st.to;obtain⟨o1,e1,_⟩:=st.i1;obtain⟨o2,e2,_⟩:=st.i2
   rcases BF with rfl | rfl | rfl | rfl | rfl
   ·exact zlt
   ·exact Yk st.ti
   ·exact Yk a3
   ·exact Yk e1
   ·exact Yk e2
  rw[AD (Yx (lt c hc))];exact(hf c hc).1
 done:=by
  intro X hP hw hK hc i pins s σ H E I hf st hg;subst hP hw hK;obtain⟨hi,ha,hb⟩:=hg;obtain⟨its,rv,pa,_⟩:=I.tuple ha;obtain⟨jts,Cw,pb,_⟩:=I.tuple hb;have l1:=rv.length;have l2:=Cw.length;have Bh:its.toArray[i]?=none\/jts.toArray[i]?=none:=by
   rw[Z7]at hi
   rcases Nat.le_total xs.length ys.length with h | h
   ·rw[h_ h]at hi;exact .inl (by simp;omega)
   ·rw[Nat.min_eq_right h]at hi;exact .inr (by simp;omega)
  exact Znz (I.ok.hd hc) D st (show s.heap.IsTuple a its.toArray from pa) (show s.heap.IsTuple b jts.toArray from pb) Bh λg hk=>⟨Y,I.turnedL (t':=s.toks) (its:=[z,ti,to,i1,i2]) (λc o hc e=>hk c o (λq=>hc (by simp[q])) (λq=>hc (by simp[q])) (λq=>hc (by simp[q])) (λq=>hc (by simp[q])) e) hf⟩
 self:=λA i s Q E st h=>wpAny_pyIter_zip st.z h
section
variable {X:Cx}
def Ye1(K:Fg)(ta:TA):TI:=λσ H R=>ta σ H λvs H1=>∃(a b:Addr) (xs ys:LV),vs=[.ref a,.ref b]/\AH K H1 a xs/\AH K H1 b ys/\R (UB (xs.zip ys) λH=>AH K H a xs/\AH K H b ys) H1
def Z3d{elts:List Expr}{x1}{CF:Pos}{a b:Expr}{ta:TA}{p pos:Pos}(hg:Gl X "zip")(hm:X.mg "zip"=none)(ha:PA X [a,b] ta)(hs:starEach [a,b] X.env=[(false,eval a X.env),(false,eval b X.env)]:=by rfl)(Ca:starEach [b] X.env=[(false,eval b X.env)]:=by rfl):
  PI X (.Tuple elts x1 CF) (.Call (.Name "zip" p) [a,b] [] pos) (Ye1 X.K ta):=by
 intro pins s σ H R I h;refine Call_ (UP I hg hm boot_zip (Vi (AN (ha pos pins s σ H _ I h) λus s1 ⟨vs,H1,I1,r1,q1⟩=>?_) (by rw[hs,Ca]) (by rw[Ca];rfl)));obtain⟨l1,l2,xs,ys,e,t1,t2,q⟩:=q1;subst e;cases r1 with
 | cons r rr =>
  cases rr with
  | cons r' rr =>
   cases rr;obtain rfl:_=Value.ref l1:=r;obtain rfl:_=Value.ref l2:=r';obtain⟨its,rv,pa,_⟩:=I1.tuple t1;obtain⟨jts,Cw,pb,_⟩:=I1.tuple t2;have b1:s1.heap.IsTuple l1 its.toArray:=pa;have b2:s1.heap.IsTuple l2 jts.toArray:=pb;have VO:l1<s1.heap.objs.size:=let⟨_,e,_⟩:=b1;Yk e;have ao:l2<s1.heap.objs.size:=let⟨_,e,_⟩:=b2;Yk e;refine Zzm b1 b2 λg st hk=>wpAny_pyIter_zip (s:={s1 with heap:=g}) st.z ?_;have D:ZipApart (s1.heap.objs.size + 4) (s1.heap.objs.size + 2) (s1.heap.objs.size + 3) s1.heap.objs.size (s1.heap.objs.size + 1) l1 l2:=W.ktu_apart _ _ _ VO ao;refine⟨_,[s1.heap.objs.size + 4,s1.heap.objs.size + 2,s1.heap.objs.size + 3,s1.heap.objs.size,s1.heap.objs.size + 1],_,_,H1,Y,I1.kept (t':=s1.toks) λb o e=>hk b o e,Z0h l1 l2 _ _ _ _ _ D,st,λc hc=>?_,q⟩;have BF:c=s1.heap.objs.size + 4\/c=s1.heap.objs.size + 2\/c=s1.heap.objs.size + 3\/c=s1.heap.objs.size\/c=s1.heap.objs.size + 1:=by simpa using hc
   have ge:s1.heap.objs.size<=c:=by
    rcases BF with rfl | rfl | rfl | rfl | rfl
    ·exact UZ _ _
    ·exact UZ _ _
    ·exact UZ _ _
    ·exact Yf _
    ·exact UZ _ _
   exact I1.fpOk ge (I1.hok.fresh ge)
end
def Zy6{prog:Program}{w:World}{A:Around}(hh:A.handled=none)(p t:Addr)(ne:t≠p)(us:Array Value):Draws prog w A p [p,t] us.size (λi v=>us[i]?=some v) (λi h=>h.IsTupleIter p t i/\h.IsTuple t us) where
 live:=λ_ _ st=>let⟨o,ho,_⟩:=st.1;⟨o,ho⟩
 frame:=λ_ _ _ st hk=>⟨st.1.at λo e=>hk p (by simp) o e,let⟨o,ho,r⟩:=st.2;⟨o,hk t (by simp) o ho,r⟩⟩
 item:=λi s Q E hi st q=>lU st.1 st.2 (u:=us[i]) (by simp[hi]) λg BC sb=>q _ g s.toks (by simp[hi]) ⟨BC,st.2.extBut sb.extBut ne⟩ sb
 done:=λs Q E st q=>lT hh st.1 st.2 (by simp) q
def V7(b:Bool)(h:Heap)(p a:Addr)(i:Nat):Prop:=if b=true then h.IsListIter p a i else h.IsTupleIter p a i
def tE(b:Bool)(h:Heap)(a:Addr)(us:Array Value):Prop:=if b=true then h.IsList a us else h.IsTuple a us
theorem V7.at{b:Bool}{h h':Heap}{p a:Addr}{i:Nat}(x:V7 b h p a i)(e:∀ o,h.get? p=some o->h'.get? p=some o):V7 b h' p a i:=by
 cases b with
 | true=>exact Heap.IsListIter.at (show h.IsListIter p a i from x) e
 | false=>exact Heap.IsTupleIter.at (show h.IsTupleIter p a i from x) e
def V7.obj{b:Bool}{h:Heap}{p a:Addr}{i:Nat}(x:V7 b h p a i):∃ o,h.get? p=some o/\∀ v,o.data≠.cell v:=by
 cases b with
 | true =>
  obtain⟨o,e,_,d⟩:=(show h.IsListIter p a i from x);exact⟨o,e,λv z=>by rw[d]at z;cases z⟩
 | false =>
  obtain⟨o,e,_,d⟩:=(show h.IsTupleIter p a i from x);exact⟨o,e,λv z=>by rw[d]at z;cases z⟩
def Zy7{prog:Program}{w:World}{A:Around}(b:Bool)(hh:A.handled=none)(p t:Addr)(ne:t≠p)(us:Array Value):Draws prog w A p [p,t] us.size (λi v=>us[i]?=some v) (λi h=>V7 b h p t i/\tE b h t us):=by
 cases b with
 | true=>exact Draws.list hh p t ne us
 | false=>exact Zy6 hh p t ne us
def Inv.sseq{X:Cx}{pins:PL}{σ:St}{H:Hp}{s:Shared}{b:Bool}{a:Addr}{xs:LV}(I:Inv X pins σ H s)(h:CW X.K b H a xs):∃ its:LU,Ac xs its/\tE b s.heap a its.toArray:=by
 cases b with
 | true =>
  obtain⟨its,rv,p,_⟩:=I.list (show SqL X.K H a xs from h);exact⟨its,rv,p.isList⟩
 | false =>
  obtain⟨its,rv,p,_⟩:=I.tuple (show AH X.K H a xs from h);exact⟨its,rv,p⟩
def Sh(xs:LV):List (V×V):=(DG 0 xs.length).zip xs
def Wu(xs:LV):(Sh xs).length=xs.length:=by
 unfold Sh;rw[Z7,Cq,Nat.min_self]
def Zr{xs:LV}{i:Nat}{p:V×V}(h:(Sh xs)[i]?=some p):p.1=.int i/\xs[i]?=some p.2:=by
 obtain⟨h1,h2⟩:=gI h;obtain⟨_,e⟩:=Dw h1;exact⟨by rw[e,W4],h2⟩
section
variable {prog:Program}{w:World}{A:Around}{E:EV}{s:Shared}
def Zrp(l:Addr)(us:Array Value):Meets (Builtin.«enumerate.__new__» ⟨[.type "enumerate",.ref l],[]⟩) (λ_ R s=>s.heap.IsTuple l us /\
   R (.ok (.ret (.ref (s.heap.push {cls:=.type "tuple_iterator",data:=.fields #[.ref l,.int 0 0] }).objs.size)))
    {s with heap:=(s.heap.push {cls:=.type "tuple_iterator",data:=.fields #[.ref l,.int 0 0] }).push {cls:=.type "enumerate",data:=.fields #[.none,.bool false,.ref s.heap.objs.size,rawInt 0,.none,.none] } }):=
 .of_wp λprog w A R s h=>by
  obtain⟨hp,g,d,tk,os⟩:=s;obtain⟨ht,h⟩:=h;have hsub:=sub_enumerate;obtain⟨⟨c,dct,dt,sl⟩,hl,hc,n,hd⟩:=id ht;replace hc:c=.type "tuple":=hc;replace hd:dt=.seq us n:=hd;subst hc hd;have hT:Heap.IsTuple (Shared.heap ⟨hp,g,d,tk,os⟩) l us:=ht
  wp_walk using YY hl
  refine wpAny_stack_any λst=>Jd ?_;split
  ·rename_i c _ _ _ _ _
   cases(c == Value.type "enumerate")
   ·wp_walk using YY hl,wpAny_pyIter_tuple hT
    exact⟨Z,h⟩
   ·wp_walk using YY hl,wpAny_pyIter_tuple hT
    exact⟨Z,h⟩
  ·wp_walk using YY hl,wpAny_pyIter_tuple hT
   exact⟨Z,h⟩
def Zzq(b:Bool){l:Addr}{us:Array Value}{Q:EV}(hl:tE b s.heap l us)
  (q:∀ g,IsEnum g (s.heap.objs.size + 1) s.heap.objs.size 0 .none->V7 b g s.heap.objs.size l 0->(∀ c o,s.heap.get? c=some o->g.get? c=some o)->Q (.ref (s.heap.objs.size + 1)) {s with heap:=g}):
  wpAny (model prog w) A (call (.type "enumerate") [.ref l]) Q E s:=by
 cases b with
 | true=>exact call_enumerate_list (show s.heap.IsList l us from hl) λg h1 h2 _ h4=>q g h1 h2 h4
 | false =>
  refine callType_new PySem.F.called_enumerate (by decide) (PySem.F.typeCall_enumerate_1 _) (PySem.F.newCall_enumerate_1 _) (λobj=>PySem.F.args_object_init_2 obj _) PySem.F.entry_enumerate_new (Zrp l us) ⟨hl,?_⟩;have n1:(ZJ s.heap l).objs.size=s.heap.objs.size + 1:=Wy ..;show _/\_;rw[n1];have he:IsEnum ((ZJ s.heap l).push {cls:=.type "enumerate",data:=.fields #[.none,.bool false,.ref s.heap.objs.size,rawInt 0,.none,.none] }) (s.heap.objs.size + 1) s.heap.objs.size 0 .none:=by
   have:=Yp (ZJ s.heap l) (o:={cls:=.type "enumerate",data:=.fields #[.none,.bool false,.ref s.heap.objs.size,rawInt 0,.none,.none] }) rfl;rw[n1]at this;exact this
  exact⟨⟨_,he,Y⟩,q _ he ⟨_,Ye _ (Yp _ rfl),Y,Y⟩ λc o x=>Ye _ (Ye _ x)⟩
end
def fq{prog:Program}{w:World}{A:Around}{E:EV}{s:Shared}{e p:Addr}{i:Int}{old:Value}{Q:OU->Shared->Prop}(hh:A.handled=none)(he:IsEnum s.heap e p i old)
  (nx:∀(Q:EV) (E:EV),(∀ g e,Heap.ExtBut p s.heap g->(∃ o,g.get? e=some o/\o.cls=.type "StopIteration")->E (.ref e) {s with heap:=g})->wpAny (model prog w) A.in1 (Builtin.SmallTypes.nextOf (.ref p)) Q E s)
  (q:∀ g,Heap.ExtBut p s.heap g->Q none {s with heap:=g}):wpAny (model prog w) A (pyNext (.ref e)) Q E s:=by
 have hT:s.TypeIs (.ref e) "enumerate":=⟨_,he,Y⟩;unfold pyNext;refine Ja (wpAny_attempt (wpAny_callSpecial?_slot (name:=Str.ofString "__next__") hT PySem.F.slot_enumerate_next (wpAny_call_entry PySem.F.slot_enumerate_next hT PySem.F.entry_enumerate_next ?_ (PySem.F.args_enumerate_next_1 _))));show wpAny _ _ (field (.ref e) 2>>=_) _ _ _;refine Ja (Jg he rfl (x:=.ref p) rfl (Ja (nx _ _ λg x eb hx=>?_)));obtain⟨o,ho,hc⟩:=hx;refine Ja (wpAny_isInstance (T:="StopIteration") (b:=true) ⟨o,ho,hc⟩ isSubtype_stop ?_);exact Jd (q _ eb)
def Zv0{P:Program}{w:World}{K:Fg}{elts:List Expr}{x1}{pos:Pos}{xs:LV}(b:Bool)(a e p:Addr)(ep:e≠p)(ea:e≠a)(ap:a≠p):
  Tw P w K (.Tuple elts x1 pos) (UB (Sh xs) λH=>CW K b H a xs) [e,p] e (λi h=>(∃ old,IsEnum h e p i old)/\V7 b h p a i) where
 mem:=by simp
 obj:=λi h st c hc=>by
  have BF:c=e\/c=p:=by simpa using hc
  obtain⟨⟨old,he⟩,si⟩:=st
  rcases BF with rfl | rfl
  ·exact⟨_,he,λv q=>by cases q⟩
  ·exact si.obj
 keep:=λi h h' st k=>by
  obtain⟨⟨old,he⟩,si⟩:=st;exact⟨⟨old,k e (by simp) _ he⟩,si.at λo q=>k p (by simp) o q⟩
 item:=by
  intro X hP hw hK hc i pins s σ H E I hf st hg;subst hP hw hK;obtain⟨hi,ha⟩:=hg;obtain⟨⟨old,he⟩,si⟩:=st;obtain⟨pr,hp⟩:∃ p,(Sh xs)[i]?=some p:=⟨(Sh xs)[i]'hi,Yb hi⟩;obtain⟨e1,hx⟩:=Zr hp;obtain⟨its,rv,sq⟩:=I.sseq ha;obtain⟨u,hu,ru⟩:=rv.get hx;have hil:i<its.toArray.size:=by rw[Wu]at hi;have:=rv.length;simp;omega
  have D:=Zy7 (prog:=X.prog) (w:=X.w) (A:=X.A.in1) b (I.ok.hd hc) p a ap its.toArray;refine wpAny_pyNext_enum_itemD D he ⟨si,sq⟩ hil ep (by simp;exact⟨ep,ea⟩) λx g tk hPx ho hst hT _ hk=>?_;have exu:x=u:=by
   have h1:its.toArray[i]?=some x:=hPx;have h2:its.toArray[i]?=some u:=by simpa using hu
   rw[h1]at h2;exact Ym h2
  subst exu;refine⟨Z,?_⟩;refine wpAny_letOwnedTupleGo_enum (s:={s with heap:=g,toks:=tk + 1}) ho λg' dq sb=>?_;have elt:e<s.heap.objs.size:=Yk he;have plt:p<s.heap.objs.size:=let⟨o,q,_⟩:=si.obj;Yk q;have CN:Heap.ExtBut e g g':=sb.extBut;have eB:IsPair g' s.heap.objs.size (.int i tk) x:=CN _ _ (Br elt) hT;have I1:Inv X pins σ (upd H s.heap.objs.size (.tup [pr.1,pr.2])) {s with heap:=g',toks:=tk + 1}:=I.turnedNewL (t':=tk + 1) (its:=[e,p]) (λc o hc q=>CN c o (λz=>hc (by simp[z])) (hk c o (λz=>hc (by simp[z])) (λz=>hc (by simp[z])) q)) hf (Yf _)
   ⟨U,[.int i tk,x],.cons (by rw[e1];exact⟨tk,Y⟩) (.cons ru .nil),⟨_,eB,Y,Z⟩⟩
  refine⟨.ref s.heap.objs.size,_,I1,Y,⟨s.heap.objs.size,pr,hp,I.hok.fresh (Yf _),Y,Y⟩,⟨⟨x,by simpa using dq⟩,hst.1.at λo q=>CN _ o (Ae ep) q⟩,λc hc=>?_⟩;have BF:c=e\/c=p:=by simpa using hc
  have ne:c≠s.heap.objs.size:=by
   rcases BF with rfl | rfl
   ·exact Yx elt
   ·exact Yx plt
  rw[AD ne];exact(hf c hc).1
 done:=by
  intro X hP hw hK hc i pins s σ H E I hf st hg;subst hP hw hK;obtain⟨hi,ha⟩:=hg;obtain⟨⟨old,he⟩,si⟩:=st;obtain⟨its,rv,sq⟩:=I.sseq ha;have hl:=rv.length;rw[Wu]at hi;cases b with
  | true =>
   have si:s.heap.IsListIter p a i:=si;have sq:s.heap.IsList a its.toArray:=sq;refine fq (I.ok.hd hc) he (λQ E hE=>wpAny_nextOf_list_end (I.ok.hd hc) si sq (by simp;omega) hE) λg eb=>⟨Y,I.turnedL (t':=s.toks) (its:=[e,p]) (λc o hc q=>eb c o (λz=>hc (by simp[z])) q) hf⟩
  | false =>
   have si:s.heap.IsTupleIter p a i:=si;have sq:s.heap.IsTuple a its.toArray:=sq;refine fq (I.ok.hd hc) he (λQ E hE=>lT (I.ok.hd hc) si sq (by simp;omega) hE) λg eb=>⟨Y,I.turnedL (t':=s.toks) (its:=[e,p]) (λc o hc q=>eb c o (λz=>hc (by simp[z])) q) hf⟩
 self:=λA i s Q E st h=>let⟨⟨_,he⟩,_⟩:=st;wpAny_pyIter_enum he h
section
variable {X:Cx}
def Ybb(K:Fg)(ta:TA):TI:=λσ H R=>ta σ H λvs H1=>∃(b:Bool) (a:Addr) (xs:LV),vs=[.ref a]/\CW K b H1 a xs/\R (UB (Sh xs) λH=>CW K b H a xs) H1
def qU{elts:List Expr}{x1}{CF:Pos}{a:Expr}{ta:TA}{p pos:Pos}(hg:Gl X "enumerate")(hm:X.mg "enumerate"=none)(ha:PA X [a] ta)(hs:starEach [a] X.env=[(false,eval a X.env)]:=by rfl):
  PI X (.Tuple elts x1 CF) (.Call (.Name "enumerate" p) [a] [] pos) (Ybb X.K ta):=by
 intro pins s σ H R I h;refine Call_ (UP I hg hm boot_enumerate (Vi (AN (ha pos pins s σ H _ I h) λus s1 ⟨vs,H1,I1,r1,q1⟩=>?_) hs rfl));obtain⟨b,l,xs,e,t1,q⟩:=q1;subst e;cases r1 with
 | cons r rr =>
  cases rr;obtain rfl:_=Value.ref l:=r;obtain⟨its,rv,sq⟩:=I1.sseq t1;have VO:l<s1.heap.objs.size:=by
   cases b with
   | true=>obtain⟨_,e,_⟩:=(show s1.heap.IsList l its.toArray from sq);exact Yk e
   | false=>obtain⟨_,e,_⟩:=(show s1.heap.IsTuple l its.toArray from sq);exact Yk e
  refine Zzq b sq λg he si hk=>wpAny_pyIter_enum (s:={s1 with heap:=g}) he ?_;refine⟨_,[s1.heap.objs.size + 1,s1.heap.objs.size],_,_,H1,Y,I1.kept (t':=s1.toks) λb o e=>hk b o e,Zv0 b l _ _ (Nat.succ_ne_self _) (Br (Nat.lt_succ_of_lt VO)) (Yx VO),⟨⟨_,he⟩,si⟩,λc hc=>?_,q⟩;have BF:c=s1.heap.objs.size + 1\/c=s1.heap.objs.size:=by simpa using hc
  have ge:s1.heap.objs.size<=c:=by
   rcases BF with rfl | rfl
   ·exact UZ _ _
   ·exact Yf _
  exact I1.fpOk ge (I1.hok.fresh ge)
end
end L2
namespace L2
open PySem PySem.Spec PyProof.Rows PySem.W
def Ye5{A:Around}{k:Nat}(hr:Af k A):A.units + 65<cLine:=by have:=hr.un;omega
def Zmh{κ:Type}[DecidableEq κ]{kvs:List (κ×V)}{k:κ}(h:k∉kvs.map (·.1)):BB kvs k=none:=by
 cases e:BB kvs k with
 | none=>rfl
 | some v=>exact absurd (xj e) h
def Zud{κ:Type}[DecidableEq κ]{kvs:List (κ×V)}{k:κ}{v:V}(h:k∉kvs.map (·.1)):(Ao kvs k v).map (·.1)=kvs.map (·.1)++[k]:=by
 rw[Zp v (Zmh h),Ys];rfl
def zH{α:Type}{l:List α}(nd:l.Nodup){i:Nat}{x:α}(h:l[i]?=some x):x∉l.take i:=by
 intro m;have hi:=(Yi.mp h).1;have e:=(Yi.mp h).2;have sp:l=l.take i++l.drop i:=(cu i l).symm;rw[sp]at nd;have q:=(List.nodup_append.mp nd).2.2 x m;refine q x ?_ rfl;rw[aF hi,e];exact Yy
def gL{ps:List (V×V)}{Ok:Hp->Prop}{g:TG}{tb:TS}{D:Wd}{σ:St}{H:Hp}(Pv:NW)(h0:Pv 0 σ H)(hl:∀ i σ H,i<=ps.length->Pv i σ H->Ok H)
  (hs:∀ i p t σ H,ps[i]?=some p->Pv i σ H->H t=none->g (.ref t) σ (upd H t (.tup [p.1,p.2])) λσ2 H2=>tb {D with nx:=Pv (i + 1),ct:=Pv (i + 1),bk:=D.nx} σ2 H2) (hd:∀ σ H,Pv ps.length σ H->D.nx σ H):
  ∃ W:Nat->Nat->St->Hp->Prop,(∃ m,W 0 m σ H)/\∀ i m σ H,W i m σ H ->
   ((UB ps Ok).stop i H/\D.nx σ H)\/((UB ps Ok).go i H/\∃ N:SW,(∀ σ' H',N σ' H'->∃ m',m'<m/\W (i + 1) m' σ' H')/\∀ x H',(UB ps Ok).yld i H x H'->g x σ H' λσ2 H2=>tb {D with nx:=N,ct:=N,bk:=D.nx} σ2 H2):=by
 refine⟨λi m σ H=>m=ps.length - i/\i<=ps.length/\Pv i σ H,⟨ps.length,by simp,Ax _,h0⟩,?_⟩;rintro i m σ H ⟨rfl,hi,p⟩;have q:=hl i σ H hi p;by_cases BK:i<ps.length
 ·refine .inr ⟨⟨BK,q⟩,Pv (i + 1),λσ' H' p'=>⟨ps.length - (i + 1),W,Y,BK,p'⟩,λx H' y=>?_⟩;obtain⟨t,pr,hp,ht,rfl,rfl⟩:=y;exact hs i pr t σ H hp p ht
 ·have e:i=ps.length:=by omega
  subst e;exact .inl ⟨⟨Yf _,q⟩,hd σ H p⟩
abbrev g2(K:Fg)(i j:Nat):TG:=Ydg K 2 (sD (Ck i) (sD (Ck j) Ydh))
def sC{K:Fg}{i j:Nat}{t:Addr}{x y:V}{σ:St}{H:Hp}{R:SW}(h:AH K H t [x,y])(q:R ((σ.set i (some x)).set j (some y)) H):g2 K i j (.ref t) σ H R :=
 ⟨t,[x,y],Y,h,Y,x,[y],Y,y,[],Y,Y,q⟩
def fG{K:Fg}{i j:Nat}{t:Addr}{x y:V}{σ:St}{H:Hp}{R:SW}(q:R ((σ.set i (some x)).set j (some y)) (upd H t (.tup [x,y]))):g2 K i j (.ref t) σ (upd H t (.tup [x,y])) R :=
 sC (AH.of uS) q
def Zj{X:Cx}{K:Fg}{i j:Nat}{x y:Str}{p q pos:Pos}{c:Nat}(hK:X.K=K)(hc:X.calm=true)(hN:X.N.Nodup)(hi:X.N[i]?=some x)(hj:X.N[j]?=some y)(hx:Loc X.env.scope x)(hy:Loc X.env.scope y)
  (fx:X.fn x=true\/X.env.scope.names.lookup x=some .local) (fy:X.fn y=true\/X.env.scope.names.lookup y=some .local):PG X (.Tuple [.Name x p,.Name y q] c pos) (g2 K i j):=by
 subst hK;exact LJ hc (gC (BN (i:=i) hN hi hx fx) (gC (BN (i:=j) hN hj hy fy) LL))
def AM{H:Hp}{t:Addr}{o:HO}(h:H t=none):AB H (upd H t o):=λb u e=>by rw[AD (AK e h)];exact e
def gk{α:Type}(p:α->Bool):∀(xs:List α) (i:Nat) (x:α),xs[i]?=some x->(xs.take (i + 1)).filter p=(xs.take i).filter p++if p x=true then[x]else[]:=by
 intro xs i x h;rw[Bt,h,List.filter_append]
 congr 1
 cases e:p x <;> simp[List.filter,e]
def Zzi{K:Fg}{ps:List (V×V)}{Ok:Hp->Prop}{js:LN}{tt:TT}{te:TE}{σ:St}{Q:VK}{H1:Hp}(hz:ps.length<=sizeLine)(p:V×V->Bool)(F:Addr->V×V->V->Hp->Prop)
  (hF:∀ D x v H H',(∀ b o,b≠D->H b=some o->H' b=some o)->F D x v H->F D x v H')
  (hok:∀ H,AB H1 H->Ok H)
  (ht:∀ x H (R:Bool->Hp->Prop),AB H1 H->x∈ps->(∀ H',AB H H'->R (p x) H')->tt (some x.1 :: some x.2 :: js.map λj=>(σ[j]?).join) H R)
  (he:∀ D x H (R:V->Hp->Prop),AB H1 H->(∃ ys,H D=some (.lst ys))->H1 D=none->x∈ps->p x=true->(∀ v H',AB H H'->F D x v H'->R v H')->te (some x.1 :: some x.2 :: js.map λj=>(σ[j]?).join) H R)
  (hd:∀ D H' ys,H1 D=none->AB H1 H'->H' D=some (.lst ys)->Paired (λx v=>F D x v H') (ps.filter p) ys->Q (.ref D) H'):
  AQ 2 js (g2 K 0 1) tt te σ Q (UB ps Ok) H1:=by
 intro D hD;refine⟨λi m ys σ' H=>m=ps.length - i/\i<=ps.length/\AB H1 H/\H D=some (.lst ys)/\Paired (λx v=>F D x v H) ((ps.take i).filter p) ys/\∃ o u,σ'=o :: u :: js.map λj=>(σ[j]?).join,
  ⟨ps.length,by simp,Ax _,AM hD,uS,by simpa using Paired.nil,none,none,Y⟩,?_⟩
 rintro i m ys σ' H ⟨rfl,hi,hs,hl,hp,o,u,rfl⟩;have mono:∀ {H H':Hp},(∀ b o,b≠D->H b=some o->H' b=some o)->Paired (λx v=>F D x v H) ((ps.take i).filter p) ys->Paired (λx v=>F D x v H') ((ps.take i).filter p) ys:=λh q=>Paired.mapP q λa b z=>hF D a b _ _ h z;by_cases BK:i<ps.length
 ·have yl:ys.length<sizeLine:=by
   rw[<- hp.length];refine m5 (Xj _ _) ?_;rw[Bg];omega
  refine .inr ⟨⟨BK,hok H hs⟩,yl,λZK σ3 H3=>AB H1 H3/\H3 D=some (.lst ZK)/\Paired (λx v=>F D x v H3) ((ps.take (i + 1)).filter p) ZK/\∃ o u,σ3=o :: u :: js.map λj=>(σ[j]?).join,
   λZK σ3 H3 z=>⟨ps.length - (i + 1),W,Y,BK,z⟩,λx H2 y=>?_⟩
  obtain⟨t,x,hx,U0,rfl,rfl⟩:=y;refine fG ?_;show tt (some x.1 :: some x.2 :: js.map λj=>(σ[j]?).join) (upd H t (.tup [x.1,x.2])) _;have hm:x∈ps:=Yd hx;have st:AB H (upd H t (.tup [x.1,x.2])):=AM U0;refine ht x _ _ (hs.trans st) hm λH4 s4=>?_;have Tt:AB H H4:=st.trans s4;have Vp:AB H1 H4:=hs.trans Tt;cases hpx:p x with
  | true =>
   rw[if_pos rfl];refine he D x H4 _ Vp ⟨_,Tt _ _ hl⟩ hD hm hpx λv H5 s5 f5=>⟨s5 _ _ (Tt _ _ hl),λb o e=>?_,uS,?_,_,Z⟩
   ·rw[AD (AK e hD)];exact s5 _ _ (Vp _ _ e)
   ·rw[gk p ps i x hx,hpx,if_pos rfl];refine LM (mono (λb o hb e=>by rw[AD hb];exact s5 _ _ (Tt _ _ e)) hp) (hF D _ _ _ _ (λb o hb e=>by rw[AD hb];exact e) f5)
  | false =>
   rw[if_neg Yq];refine⟨Vp,Tt _ _ hl,?_,_,Z⟩;rw[gk p ps i x hx,hpx,if_neg Yq,C5];exact mono (λb o _ e=>Tt _ _ e) hp
 ·have e:i=ps.length:=by omega
  subst e;rw[Bs]at hp;exact .inl ⟨⟨Yf _,hok H hs⟩,hd D H ys hD hs hl hp⟩
theorem b8{α:Type}{f:α->V}:∀ {xs:List α}{ys:LV},Paired (λx v=>v=f x) xs ys->ys=xs.map f
 | _,_,.nil=>rfl
 | _,_,.cons r t=>by rw[Yz,r,b8 t]
def q_{K:Fg}{ps:List (V×V)}{Ok:Hp->Prop}{js:LN}{tt:TT}{te:TE}{σ:St}{Q:VK}{H1:Hp}(hz:ps.length<=sizeLine)(p:V×V->Bool)(f:V×V->V)
  (hok:∀ H,AB H1 H->Ok H)
  (ht:∀ x H (R:Bool->Hp->Prop),AB H1 H->x∈ps->(∀ H',AB H H'->R (p x) H')->tt (some x.1 :: some x.2 :: js.map λj=>(σ[j]?).join) H R)
  (he:∀ x H (R:V->Hp->Prop),AB H1 H->x∈ps->p x=true->(∀ H',AB H H'->R (f x) H')->te (some x.1 :: some x.2 :: js.map λj=>(σ[j]?).join) H R)
  (hd:∀ D H',H1 D=none->AB H1 H'->H' D=some (.lst ((ps.filter p).map f))->Q (.ref D) H'):
  AQ 2 js (g2 K 0 1) tt te σ Q (UB ps Ok) H1 :=
 Zzi hz p (λ_ x v _=>v=f x) (λ_ _ _ _ _ _ z=>z) hok ht (λD x H R hs _ _ hx hp k=>he x H R hs hx hp λH' s'=>k _ _ s' rfl)
  λD H' ys hD hs hl hp=>hd D H' hD hs (by rw[hl,b8 hp])
def gB{J:It}{xs:LV}{Ok:Hp->Prop}(R:Sd J xs Ok){js:LN}{tt:TT}{te:TE}{σ:St}{Q:VK}{H1:Hp}(hz:xs.length<=sizeLine)(p:V->Bool)(f:V->V)
  (hok:∀ H,AB H1 H->Ok H)
  (ht:∀ x H (R:Bool->Hp->Prop),AB H1 H->x∈xs->(∀ H',AB H H'->R (p x) H')->tt (some x :: js.map λj=>(σ[j]?).join) H R)
  (he:∀ x H (R:V->Hp->Prop),AB H1 H->x∈xs->p x=true->(∀ H',AB H H'->R (f x) H')->te (some x :: js.map λj=>(σ[j]?).join) H R)
  (hd:∀ D H',H1 D=none->AB H1 H'->H' D=some (.lst ((xs.filter p).map f))->Q (.ref D) H'):
  AQ 1 js (Ck 0) tt te σ Q J H1 :=
 Zo R hz p (λ_ x v _=>v=f x) (λ_ _ _ _ _ _ z=>z) hok ht (λD x H R hs _ _ hx hp k=>he x H R hs hx hp λH' s'=>k _ _ s' rfl)
  λD H' ys hD hs hl hp=>hd D H' hD hs (by rw[hl,b8 hp])
section
variable {X:Cx}
theorem wK{d:Dat}{n:Nat}(h2:kqdOk n d=true):∀ {ds:List Dat},ds.all (kqdOk 8)=true->((kqdPs ds).any λy=>PyData.eqv y (kqdP d))=ds.any λe=>U4 e d
 | [],_=>by rw[kqdPs];rfl
 | e :: ds,h=>by
  rw[V4,B1]at h;rw[kqdPs,YW,YW,qM h.1 h2,wK h2 h.2]
def Yet(K:Fg)(f:Bool->Bool):R2:=λx y H Q=>∃ d ds,Rep K H x d/\Rep K H y (.list ds)/\kqdOk 9 d=true/\ds.all (kqdOk 8)=true/\Q (.bl (f (ds.any λe=>U4 e d))) H
def Z0n{ds:List Dat}(h:ds.all (kqdOk 8)=true):SeqAt.shaped (PyData.list (kqdPs ds))=true:=by
 have:=Zt (d:=.list ds) (by rw[kqdOk];exact h);rw[kqdP]at this;exact this
def Zxp(hu:X.A.units + 65<cLine):BO X (compareOp .NotIn) (Yet X.K Bool.not):=by
 exfalso;obtain⟨d,ds,h1,h2,k1,k2,q⟩:=h;obtain⟨as,ra⟩:=h1.reads I rx;obtain⟨bs,rb⟩:=h2.reads I ry;rw[kqdP]at rb;exact SeqAt.notIn_list_reads rb ra (SeqAt.canLay_of_shaped (Z0n k2)) (SeqAt.canLay_of_shaped (Zt k1)) (room_in_shaped (Zt k1) hu) (BL I q (by rw[wK k1 k2]))
end
def Aj(i:Nat):V:=.int (i:Nat)
def Sg(i:Nat):Dat:=.int (i:Nat)
theorem kj{K:Fg}{H:Hp}:∀ ns:LN,A4 K H (ns.map Aj) (ns.map Sg)
 | []=>.nil
 | n :: r=>.cons (.int _) (kj r)
def xB(n:Nat)(ns:LN):kqdOk (n + 1) (.list (ns.map Sg))=true:=by
 rw[kqdOk,CL];intro z hz;obtain⟨x,_,rfl⟩:=Yg.mp hz;unfold Sg;rw[kqdOk]
def Z0q{K:Fg}{H:Hp}{a:Addr}{ns:LN}(h:H a=some (.lst (ns.map Aj))):Rep K H (.ref a) (.list (ns.map Sg)):=.list (SqL.of h) (kj ns)
def Zuc(n:Nat):DG 0 n=(List.range n).map Aj:=by
 refine List.ext_getElem? λi=>?_;by_cases hi:i<n
 ·have h1:(DG 0 n)[i]?=some ((DG 0 n)[i]'(by rw[Cq];exact hi)):=Yb _;obtain⟨_,e⟩:=Dw h1;rw[h1,e,Yj,List.getElem?_range hi];show some (V.int (0 + (i:Nat)))=some (V.int (i:Nat));rw[W4]
 ·rw[gz (by rw[Cq];omega),gz (by simp;omega)]
end L2
namespace L2
open PySem PySem.Spec PyProof.Rows
section
variable {X:Cx}
end
end L2
namespace L2
open PySem PySem.W PySem.Spec PyProof.Rows
section
variable {X:Cx}
end
end L2
namespace L2
open PySem PySem.Spec PyProof.Rows
section
variable {prog:Program}{w:World}{A:Around}{E:EV}{s:Shared}{d it:Addr}{es:Array DictEntry}{ep i:Nat}
end
section
variable {X:Cx}{pins:PL}{σ:St}{H H':Hp}{s:Shared}{a:Addr}{kvs:List (List Key×V)}{o:Obj}
end
section
variable {X:Cx}{tg:Expr}
end
def Zzh{K:Fg}{J:It}{xs:LV}{Ok:Hp->Prop}(R:Sd J xs Ok){js:LN}{tt:TT}{te:TE}{σ:St}{Q:VK}{H1:Hp}(hz:xs.length<=sizeLine)(p:V->Bool)(F:Addr->V->V->Hp->Prop)(l r:V->V)
  (hF:∀ D x v H H',(∀ b o,b≠D->H b=some o->H' b=some o)->F D x v H->F D x v H')
  (hok:∀ H,AB H1 H->Ok H) (hp:∀ x∈xs,∃ t,x=.ref t/\H1 t=some (.tup [l x,r x]))
  (ht:∀ x H (R:Bool->Hp->Prop),AB H1 H->x∈xs->(∀ H',AB H H'->R (p x) H')->tt (some (l x):: some (r x):: js.map λj=>(σ[j]?).join) H R)
  (he:∀ D x H (R:V->Hp->Prop),AB H1 H->(∃ ys,H D=some (.lst ys))->H1 D=none->x∈xs->p x=true->(∀ v H',AB H H'->F D x v H'->R v H')->te (some (l x):: some (r x):: js.map λj=>(σ[j]?).join) H R)
  (hd:∀ D H' ys,H1 D=none->AB H1 H'->H' D=some (.lst ys)->Paired (λx v=>F D x v H') (xs.filter p) ys->Q (.ref D) H'):
  AQ 2 js (g2 K 0 1) tt te σ Q J H1:=by
 refine VC R hz (λD i ys σ' H=>H1 D=none/\AB H1 H/\H D=some (.lst ys)/\Paired (λx v=>F D x v H) ((xs.take i).filter p) ys/\∃ o u,σ'=o :: u :: js.map λj=>(σ[j]?).join) ?_ ?_ ?_ ?_
 ·intro D hD;exact⟨hD,AM hD,uS,by simpa using Paired.nil,none,none,Y⟩
 ·rintro D i ys σ' H hi ⟨hD,hs,hl,q,_⟩;refine⟨hok H hs,?_⟩;rw[<- q.length];exact B0 (Xj _ _) (by rw[Bg];omega)
 ·rintro D i x ys σ' H hD hx ⟨_,hs,hl,q,o,u,rfl⟩;have mono:∀ {H H':Hp},(∀ b o,b≠D->H b=some o->H' b=some o)->Paired (λx v=>F D x v H) ((xs.take i).filter p) ys->Paired (λx v=>F D x v H') ((xs.take i).filter p) ys:=λh q=>Paired.mapP q λa b z=>hF D a b _ _ h z;have hm:x∈xs:=Yd hx;obtain⟨t,rfl,hxt⟩:=hp x hm;refine sC (AH.of (hs _ _ hxt)) ?_;show tt (some (l (.ref t)):: some (r (.ref t)):: js.map λj=>(σ[j]?).join) H _;refine ht (.ref t) H _ hs hm λH4 s4=>?_;have Vp:=hs.trans s4;cases hpx:p (.ref t)with
  | true =>
   rw[if_pos rfl];refine he D (.ref t) H4 _ Vp ⟨_,s4 _ _ hl⟩ hD hm hpx λv H5 s5 f5=>⟨s5 _ _ (s4 _ _ hl),hD,λb o e=>?_,uS,?_,_,Z⟩
   ·rw[AD (AK e hD)];exact s5 _ _ (Vp _ _ e)
   ·rw[gk p xs i _ hx,hpx,if_pos rfl];exact LM (mono (λb o hb e=>by rw[AD hb];exact s5 _ _ (s4 _ _ e)) q) (hF D _ _ _ _ (λb o hb e=>by rw[AD hb];exact e) f5)
  | false =>
   rw[if_neg Yq];refine⟨hD,Vp,s4 _ _ hl,?_,_,Z⟩;rw[gk p xs i _ hx,hpx,if_neg Yq,C5];exact mono (λb o _ e=>s4 _ _ e) q
 ·rintro D ys σ' H hD ⟨_,hs,hl,q,_⟩;rw[Bs]at q;exact hd D H ys hD hs hl q
structure Air(h:Heap)(e T:Addr)(cls:Value)(dx:Option Addr)(fl:Value):Prop where
 ne:T≠e
 obj:∃ oe vs,h.get? e=some oe/\oe.cls=cls/\oe.dict=dx/\oe.data=.fields vs/\vs[1]?=some (.ref T)
 tb:∃ oT ts,h.get? T=some oT/\oT.data=.fields ts/\ts[3]?=some fl
structure Chg(S R:List Addr)(h h':Heap):Prop where
 sz:h.objs.size<=h'.objs.size
 keep:∀ b o,h.get? b=some o->b∉S->b∉R->h'.get? b=some o
 slot:∀ b o,h.get? b=some o->b∉R->∃ sl,h'.get? b=some {o with slots:=sl}
 there:∀ b o,h.get? b=some o->∃ o',h'.get? b=some o'
section
variable {M:Model}{A:Around}{E:EV}{s:Shared}
end
def CX1(P:Program)(w:World):Vl:=λouter H s E ev s'=>∃(e T:Addr) (cls:Value) (dx:Option Addr) (H':Hp),ev=.ref e/\s'.os=s.os/\AllBare s'.gens/\Un (VS outer) [] H H' s.heap s'.heap/\Bk P w H' s'.heap /\
 H' e=none/\H' T=none/\s.heap.objs.size<=e/\s.heap.objs.size<=T/\Air s'.heap e T cls dx .none/\E cls dx H'
structure Fns(X:Cx)(E:XK):Prop where
 xe:X.xe=λe s'=>wpAny (model X.prog X.w) X.A (leaving X.env e) (λ_ DV=>CX1 X.prog X.w X.outer X.H₀ X.s₀ E e DV) (λe' DV=>CX1 X.prog X.w X.outer X.H₀ X.s₀ E e' DV) s'
 stk:X.stack=X.env :: X.outer
 fr:X.env.frame=some X.env.locals
 ex:X.ex=[]
section
variable {X:Cx}{pins:PL}{σ:St}{H:Hp}{s:Shared}{E:XK}{e T:Addr}{cls:Value}{dx:Option Addr}
end
end L2
namespace L2
open PySem PySem.Spec
structure ExC(K:Fg)(C:Addr):Prop where
 obj:∃ nm q N bs bm hdct sn sub ab col dd k0 k1 k2 k3 k5,K.lookup C=some (excClassObj nm q C N bs bm hdct sn sub ab col dd k0 k1 k2 k3 k5 "ValueError.__new__")
 val:W.subIn K (.ref C) (.type "ValueError")=some true
 bas:W.subIn K (.ref C) (.type "BaseException")=some true
 att:W.subIn K (.ref C) (.type "AttributeError")=some false
 nam:W.subIn K (.ref C) (.type "NameError")=some false
 kp:W.keepIn K (.ref C)=true
section
variable {K:Fg}{prog:Program}{w:World}{A:Around}{E:EV}{h:Heap}{g:Array GenState}{d:Drawn}{t:Nat}{os:OsState}{C:Addr}
end
end L2
namespace L2
open PySem PySem.Spec PySem.Builtin PySem.Builtin.ObjectAttr PySem.W
structure ExA(K:Fg)(C:Addr):Prop extends ExC K C where
 ga:W.findIn K (.ref C) "__getattribute__"=some (some (.builtin "BaseException.__getattribute__"))
 gt:W.findIn K (.ref C) "__getattr__"=some none
 ca:W.findIn K (.ref C) "__class__"=some (some (.builtin "object.__class__"))
 cg:W.specialIn K (.builtin "object.__class__") "__get__"=some (some (.builtin "getset_descriptor.__get__"))
 ct:W.takesIn K (.builtin "object.__class__")=some true
 ob:W.mroIn K C (.type "object")=some true
section
variable {K:Fg}{prog:Program}{w:World}{A:Around}{E:EV}{h:Heap}{g:Array GenState}{d:Drawn}{t:Nat}{os:OsState}{x C:Addr}{ox:Obj}{od:Option Obj}{name:Str}
end
end L2
namespace L2
open PySem PySem.Spec PyProof.Rows
abbrev TF:=St->Hp->(Hp->Prop)->Prop
section
variable {X:Cx}{e:Expr}{es:List Expr}{te:TE}{t u:TF}{pos:Pos}
def wc{i:Int}(h:i.natAbs<2 ^ 64):i.natAbs.log2<1920:=by
 by_cases z:i.natAbs=0
 ·rw[z];decide
 ·exact Vk ((Nat.log2_lt z).mpr h) (by decide)
def Z5a{i:Int}(h:i.natAbs<2 ^ 64):(Str.ofString (toString i)).length<=100000:=by
 have e:=PySem.int_text_length_le (k:=1920) (by decide) (wc h);rw[PySem.ofString_length];omega
end
section
variable {X:Cx}{E:XK}{C:Addr}{x:Str}{np Al pos:Pos}{e:Expr}{es:List Expr}{t:TA}
end
section
variable {X:Cx}{pins:PL}{σ:St}{H:Hp}{s:Shared}{A:Around}{E:EV}{Q:EV}{e C:Addr}{dx:Option Addr}{cv:Value}{b:Bool}
end
abbrev XKs:=Value->Option Addr->St->Hp->Prop
abbrev TSx:=Wd->XKs->St->Hp->Prop
abbrev TEx:=St->Hp->VK->XK->Prop
def XP(X:Cx)(pins:PL)(E:XKs)(ev:Value)(s':Shared):Prop:=∃(e T:Addr) (cls:Value) (dx:Option Addr) (σ':St) (H':Hp),ev=.ref e/\Inv X pins σ' H' s'/\UM X pins H' e/\UM X pins H' T/\Air s'.heap e T cls dx .none/\E cls dx σ' H'
section
variable {X:Cx}{st:Stmt}{Dd:List Stmt}{t u:TSx}{e:Expr}{te:TEx}{pos:Pos}
end
section
variable {X:Cx}{k:Nat}{f C:Addr}{fd:FuncData}{ps:LS}{sp:Sp}{C0:LV}{ds:LU}{x m:Str}{p pos apos:Pos}{e o:Expr}{es:List Expr}{ta:TE}{t:TA}
end
section
variable {K:Fg}{M:Model}{A:Around}{E:EV}{h:Heap}{g:Array GenState}{d:Drawn}{t:Nat}{os:OsState}{e C D:Addr}
end
section
variable {X:Cx}{pins:PL}{σ:St}{H:Hp}{s:Shared}
end
section
variable {X:Cx}{D:Addr}{body:List Stmt}{t:TSx}{x n dn:Str}{np xp ep ap hp pos:Pos}{i j:Nat}
end
section
variable {X:Cx}{k:Nat}{f C:Addr}{fd:FuncData}{ps:LS}{sp:Sp}{x m:Str}{p pos apos:Pos}{e o:Expr}{es:List Expr}{ta:TE}{t:TA}
end
section
variable {X:Cx}
end
end L2
namespace L2
open PySem PySem.W PySem.Spec PyProof.Rows
section
variable {X:Cx}{e:Expr}{te:TE}{pos:Pos}{k:Nat}
end
end L2
namespace L2
open PySem PySem.Spec PyProof.Rows HT
section
variable {prog:Program}{w:World}{A:Around}{E:EV}{s:Shared}
def Zj2{t sl:Addr}{items:Array Value}{vl vu:Value}{lo hi:Option Int}{Q:EV}(ht:IsTup s.heap t items)(hs:s.heap.IsSliceOf sl vl vu .none)(pl:IsPart vl lo)(pu:IsPart vu hi)
  (hw:sIx items.size 0 lo=0/\sIx items.size items.size hi=items.size) (h:Q (.ref t) s):wpAny (model prog w) A (getItem (.ref t) (.ref sl)) Q E s:=by
 obtain⟨os,hos,hcs,hds⟩:=id hs;have hTs:s.TypeIs (.ref sl) "slice":=⟨os,hos,hcs⟩;unfold getItem
 try with_reducible refine Jj ?_
 first | refine Ja (Jd ?_) | skip
 refine Ja (wpAny_sequenceKey ht.typeIs (by decide) ?_);refine Ja (wpAny_callSpecial?_slot (name:=Str.ofString "__getitem__") ht.typeIs cW
  (wpAny_call_entry cW ht.typeIs entry_tuple_getitem ?_ (args_tuple_getitem _ _)))
 show wpAny _ _ (Builtin.Tuple.tupleItemsOf (.ref t)>>=_) _ _ s;refine Ja (tupleItemsOf_ ht ?_);refine Ja (wpAny_typeOf hTs ?_);rw[if_pos (by decide)];refine Ja (Zg0 hs pl pu ?_);have yes:(((sIx items.size 0 lo:Nat):Int) == 0&&(1:Int) == 1&&(sIx items.size items.size hi - sIx items.size 0 lo) == items.size)=true:=by
  rw[hw.1,hw.2];simp
 show wpAny _ _ (if(((sIx items.size 0 lo:Nat):Int) == 0&&(1:Int) == 1&&(sIx items.size items.size hi - sIx items.size 0 lo) == items.size)=true then _ else _) _ _ s;rw[if_pos yes];apply Ja;unfold Builtin.Tuple.tupleIsExact;refine Ja (wpAny_typeOf ht.typeIs ?_);apply Jd;rw[if_pos (by decide)];refine Ja (wpAny_rule ?_);refine Jd ?_;exact⟨Z,Jd h⟩
end
def Xf(K:Fg):V->Option Int->Option Int->Hp->VK->Prop:=λx lo hi H Q=>∃ a xs,x=.ref a/\AH K H a xs /\
 ((sIx xs.length 0 lo=0/\sIx xs.length xs.length hi=xs.length)->Q (.ref a) H)/\(¬ (sIx xs.length 0 lo=0/\sIx xs.length xs.length hi=xs.length)->∀ p,H p=none->Q (.ref p) (upd H p (.tup (B7 xs lo hi))))
def Zn{X:Cx}:iB X (Xf X.K):=by
 intro pins s σ H x v vl vu lo hi sl Q I rx hs pl pu h;obtain⟨a,xs,ex,hx,q1,q2⟩:=h;by_cases hw:sIx xs.length 0 lo=0/\sIx xs.length xs.length hi=xs.length
 ·subst ex;cases rx;obtain⟨its,r,ht,hz⟩:=I.tuple hx;have hlen:its.toArray.size=xs.length:=by rw[Yn];exact r.length.symm
  refine⟨"tuple",_,cW.lookup,ht.typeIs,?_⟩;exact Zj2 ht hs pl pu (by rw[hlen];exact hw) ⟨.ref a,H,I,Y,q1 hw⟩
 ·exact Z61 pins s σ H x v vl vu lo hi sl Q I rx hs pl pu ⟨a,xs,ex,hx,hw,q2 hw⟩
def Z5t{xs:LV}{lo hi:Option Int}(h:sIx xs.length 0 lo=0/\sIx xs.length xs.length hi=xs.length):B7 xs lo hi=xs:=by
 unfold B7;rw[h.1,h.2,List.drop_zero,Nat.sub_zero,Bs]
def Zm{K:Fg}{H:Hp}{a:Addr}{xs:LV}{lo hi:Option Int}{Q:VK}(hx:H a=some (.tup xs))(q:∀ p H',AB H H'->H' p=some (.tup (B7 xs lo hi))->Q (.ref p) H'):Xf K (.ref a) lo hi H Q :=
 ⟨a,xs,Y,AH.of hx,λh=>q a H (AB.refl _) (by rw[Z5t h];exact hx),λ_ p hp=>q p _ (λb o e=>by rw[AD (AK e hp)];exact e) uS⟩
def YK{K:Fg}{H:Hp}{a b:Addr}{xs ys:LV}{Q:VK}(hx:H a=some (.tup xs))(hy:H b=some (.tup ys))(hz:xs.length + ys.length<=sizeLine)(q:∀ p H',AB H H'->H' p=some (.tup (xs++ys))->Q (.ref p) H'):Z7f K (.ref a) (.ref b) H Q :=
 ⟨a,b,xs,ys,Y,Y,AH.of hx,AH.of hy,hz,λe=>q b H (AB.refl _) (by rw[e];exact hy),λ_ e=>q a H (AB.refl _) (by rw[e,C5];exact hx),λ_ _ p hp=>q p _ (λc o e=>by rw[AD (AK e hp)];exact e) uS⟩
end L2
namespace L2
open PySem PySem.Spec PyProof.Rows
section
variable {X:Cx}
end
end L2
namespace L2
open PySem PySem.Spec PySem.Builtin PySem.Builtin.ObjectAttr PySem.W
structure ExI(K:Fg)(C D:Addr)(a:Str):Prop extends ExA K C where
 lk:∃ nm q N bs sn sub ab col dd k0 k1 k2 k3 k5,K.lookup C=some (excClassObj nm q C N bs [.ref D,.type "ValueError",.type "Exception",.type "BaseException",.type "object"] true sn sub ab col dd k0 k1 k2 k3 k5 "ValueError.__new__")
 sa:W.findIn K (.ref C) "__setattr__"=some (some (.builtin "object.__setattr__"))
 na:W.findIn K (.ref C) a=some none
section
variable {K:Fg}{prog:Program}{w:World}{A:Around}{E:EV}{s:Shared}{C D e t0:Addr}{a:Str}{v:Value}
end
end L2
namespace L2
open PySem PySem.Spec PyProof.Rows
structure DIn(K:Fg)(D:Addr):Prop where
 ga:W.specialIn K (.ref D) "__getattribute__"=some (some (.builtin "type.__getattribute__"))
 rd:W.readsIn K D (.type "type")=true
 fi:W.findCls K (.ref D) (.type "type") "__init__"=some (.val (.builtin "ValueError.__init__"))
section
variable {X:Cx}{pins:PL}{σ:St}{H:Hp}{s:Shared}{a:Addr}{φ:Heap->Prop}
end
section
variable {X:Cx}{C D f:Addr}{fd:FuncData}{k:Nat}{x dn a:Str}{np Al pos apos pos':Pos}{e o value:Expr}{es:List Expr}{t:TA}{ta tv:TE}{ps:LS}
end
structure Ybx(X:Cx)(scope:Scope)(own frees:LS)(js:LN):Prop where
 calm:X.calm=true
 kind:scope.kind=.function
 cells:∀ y∈scope.names,y.2=.cell->scope.names.lookup y.1=some .cell
 locals:∀ y∈scope.names,y.2=.local->scope.names.lookup y.1=some .local
 fr:∀ y∈scope.names,y.2=.free->X.env.scope.names.lookup y.1=some .cell\/X.env.scope.names.lookup y.1=some .free
 fre:∀ x∈frees,scope.names.lookup x=some .free
 slots:js.map (λj=>X.N[j]?)=frees.map some
section
variable {X:Cx}{pins:PL}{σ:St}{scope:Scope}{own frees:LS}{js:LN}
end
section
variable {X:Cx}{scope:Scope}{own frees:LS}{js:LN}{tg iter elt:Expr}{ifs:List Expr}{wi:TI}{g:TG}{tt:TT}{te:TE}{pos:Pos}
end
section
variable {prog:Program}{w:World}{A:Around}{E:EV}{s:Shared}{r:Addr}
end
section
variable {X:Cx}
end
structure Yfj(K:Fg)(D:Addr):Prop where
 ha:W.findIn K (.ref D) "__class__"=some (some (.builtin "object.__class__"))
 hn:W.specialIn K (.builtin "object.__class__") "__get__"=some (some (.builtin "getset_descriptor.__get__"))
 ht:W.takesIn K (.builtin "object.__class__")=some true
 hm:W.mroIn K D (.type "object")=some true
 ki:W.kitOne K (.ref D) (.ref D)=some true
section
variable {prog:Program}{w:World}{A:Around}
end
section
variable {X:Cx}
end
section
variable {X:Cx}{pins:PL}{σ:St}{H:Hp}{s:Shared}{a:Addr}{o:Obj}{kvs:List (List Key×V)}
end
end L2
namespace L2
open PySem PySem.Spec PySem.Builtin
section
variable {X:Cx}
end
end L2
namespace L2
open PySem PySem.Spec PyProof.Rows
section
variable {X:Cx}{C D f:Addr}{fd:FuncData}{k:Nat}{x dn a:Str}{np Al pos apos pos':Pos}{e o value:Expr}{es:List Expr}{t:TA}{ta tv:TE}{ps:LS}
end
end L2
namespace L2
open PySem PySem.Spec PySem.Builtin
section
variable {X:Cx}
end
section
variable {X:Cx}
end
end L2
namespace L2
open PySem PySem.Spec PyProof.Rows
structure Xa(h:Heap)(z ti to i1 i2 l1 l2:Addr)(k:Nat)(f:Value):Prop where
 z:IsZip h z ti to f
 ti:IsPair h ti (.ref i1) (.ref i2)
 to:∃ a b,IsPair h to a b
 i1:h.IsListIter i1 l1 k
 i2:h.IsListIter i2 l2 k
theorem Xa.at{h h':Heap}{z ti to i1 i2 l1 l2:Addr}{k:Nat}{f:Value}(x:Xa h z ti to i1 i2 l1 l2 k f)(e:∀ b∈[z,ti,to,i1,i2],∀ o,h.get? b=some o->h'.get? b=some o):Xa h' z ti to i1 i2 l1 l2 k f :=
 ⟨e z (by simp) _ x.z,e ti (by simp) _ x.ti,let⟨a,b,y⟩:=x.to;⟨a,b,e to (by simp) _ y⟩,x.i1.at λo q=>e i1 (by simp) o q,x.i2.at λo q=>e i2 (by simp) o q⟩
section
variable {prog:Program}{w:World}{A:Around}{E:EV}{s:Shared}
def Zn0{z ti to i1 i2 l1 l2:Addr}{k:Nat}{xs ys:Array Value}{x y:Value}{Q:OU->Shared->Prop}(D:ZipApart z ti to i1 i2 l1 l2)(st:Xa s.heap z ti to i1 i2 l1 l2 k .none)
  (t1:s.heap.IsList l1 xs) (t2:s.heap.IsList l2 ys) (hx:xs[k]?=some x) (hy:ys[k]?=some y)
  (q:∀ g,Xa g z ti to i1 i2 l1 l2 (k + 1) (rawInt s.heap.objs.size)->IsPair g s.heap.objs.size x y->(∀ c o,c≠z->c≠to->c≠i1->c≠i2->s.heap.get? c=some o->g.get? c=some o)->Q (some (.ref s.heap.objs.size)) {s with heap:=g}):
  wpAny (model prog w) A (pyNext (.ref z)) Q E s:=by
 obtain⟨hz,hti,⟨a,b,hto⟩,h1,h2⟩:=st;exact wpAny_pyNext_zip_item D hz hti hto h1 h2 t1 t2 hx hy λg b1 b2 b3 b4 b5 _ b7=>q g ⟨b1,b7 _ _ D.TIz D.TITO D.TIi1 D.TIi2 hti,⟨_,_,b2⟩,b3,b4⟩ b5 b7
def Zn1{z ti to i1 i2 l1 l2:Addr}{k:Nat}{xs ys:Array Value}{Q:OU->Shared->Prop}(hh:A.handled=none)(D:ZipApart z ti to i1 i2 l1 l2)(st:Xa s.heap z ti to i1 i2 l1 l2 k .none)
  (t1:s.heap.IsList l1 xs) (t2:s.heap.IsList l2 ys) (Bh:xs[k]?=none\/ys[k]?=none)
  (q:∀ g,(∀ c o,c≠z->c≠to->c≠i1->c≠i2->s.heap.get? c=some o->g.get? c=some o)->Q none {s with heap:=g}):wpAny (model prog w) A (pyNext (.ref z)) Q E s:=by
 obtain⟨hz,hti,⟨a,b,hto⟩,h1,h2⟩:=st;exact wpAny_pyNext_zip_end hh D hz hti hto h1 h2 t1 t2 Bh q
def y8{l1 l2:Addr}{xs ys:Array Value}{Q:EV}(t1:s.heap.IsList l1 xs)(t2:s.heap.IsList l2 ys)
  (q:∀ g,Xa g (s.heap.objs.size + 4) (s.heap.objs.size + 2) (s.heap.objs.size + 3) s.heap.objs.size (s.heap.objs.size + 1) l1 l2 0 .none->(∀ c o,s.heap.get? c=some o->g.get? c=some o)->Q (.ref (s.heap.objs.size + 4)) {s with heap:=g}):
  wpAny (model prog w) A (call (.type "zip") [.ref l1,.ref l2]) Q E s :=
 call_zip_2 t1 t2 λg a1 a2 a3 a4 a5 _ a7=>q g ⟨a1,a2,⟨_,_,a3⟩,a4,a5⟩ a7
end
def Zvx{P:Program}{w:World}{K:Fg}{elts:List Expr}{x1}{pos:Pos}{xs ys:LV}(a b z ti to i1 i2:Addr)(D:ZipApart z ti to i1 i2 a b):
  Tw P w K (.Tuple elts x1 pos) (UB (xs.zip ys) λH=>SqL K H a xs/\SqL K H b ys) [z,ti,to,i1,i2] z (λi h=>Xa h z ti to i1 i2 a b i .none) where
 mem:=by simp
 obj:=λi h st c hc=>by
  have BF:c=z\/c=ti\/c=to\/c=i1\/c=i2:=by simpa using hc
  obtain⟨x,y,h3⟩:=st.to;obtain⟨o1,e1,_,d1⟩:=st.i1;obtain⟨o2,e2,_,d2⟩:=st.i2
  rcases BF with rfl | rfl | rfl | rfl | rfl
  ·exact⟨_,st.z,λv q=>by cases q⟩
  ·exact⟨_,st.ti,λv q=>by cases q⟩
  ·exact⟨_,h3,λv q=>by cases q⟩
  ·exact⟨_,e1,λv q=>by rw[d1]at q;cases q⟩
  ·exact⟨_,e2,λv q=>by rw[d2]at q;cases q⟩
 keep:=λi h h' st k=>st.at k
 item:=by
  intro X hP hw hK hc i pins s σ H E I hf st hg;subst hP hw hK;obtain⟨hi,ha,hb⟩:=hg;obtain⟨p,hp⟩:∃ p,(xs.zip ys)[i]?=some p:=⟨(xs.zip ys)[i]'hi,Yb hi⟩;obtain⟨hx,hy⟩:=gI hp;obtain⟨its,rv,oK,_⟩:=I.list ha;obtain⟨jts,Cw,oJ,_⟩:=I.list hb;obtain⟨u,hu,ru⟩:=rv.get hx;obtain⟨v,hv,dD⟩:=Cw.get hy;refine Zn0 D st oK.isList oJ.isList (by simpa using hu) (by simpa using hv) λg BC hpr hk=>?_;refine⟨Z,?_⟩;refine wpAny_letOwnedTupleGo_zip (s:={s with heap:=g}) BC.z λg' z' sb=>?_;have zlt:z<s.heap.objs.size:=Yk st.z;have nz:s.heap.objs.size≠z:=Br zlt;have CN:Heap.ExtBut z g g':=sb.extBut;have hT:IsPair g' s.heap.objs.size u v:=CN _ _ nz hpr;have I1:Inv X pins σ (upd H s.heap.objs.size (.tup [p.1,p.2])) {s with heap:=g' }:=I.turnedNewL (t':=s.toks) (its:=[z,ti,to,i1,i2]) (λc o hc e=>CN c o (λq=>hc (by simp[q])) (hk c o (λq=>hc (by simp[q])) (λq=>hc (by simp[q])) (λq=>hc (by simp[q])) (λq=>hc (by simp[q])) e)) hf (Yf _)
   ⟨U,[u,v],.cons ru (.cons dD .nil),⟨_,hT,Y,Z⟩⟩
  have W_:Xa g' z ti to i1 i2 a b (i + 1) .none:=by
   obtain⟨a1,a2,a3⟩:=BC.to;exact⟨z',CN _ _ D.TIz BC.ti,⟨a1,a2,CN _ _ D.TOz a3⟩,BC.i1.extBut CN D.i1z,BC.i2.extBut CN D.i2z⟩
  refine⟨.ref s.heap.objs.size,_,I1,Y,⟨s.heap.objs.size,p,hp,I.hok.fresh (Yf _),Y,Y⟩,W_,λc hc=>?_⟩;have lt:∀ c∈[z,ti,to,i1,i2],c<s.heap.objs.size:=λc hc=>by
   have BF:c=z\/c=ti\/c=to\/c=i1\/c=i2:=by simpa using hc
   obtain⟨a1,a2,a3⟩:=st.to;obtain⟨o1,e1,_⟩:=st.i1;obtain⟨o2,e2,_⟩:=st.i2
   rcases BF with rfl | rfl | rfl | rfl | rfl
   ·exact zlt
   ·exact Yk st.ti
   ·exact Yk a3
   ·exact Yk e1
   ·exact Yk e2
  rw[AD (Yx (lt c hc))];exact(hf c hc).1
 done:=by
  intro X hP hw hK hc i pins s σ H E I hf st hg;subst hP hw hK;obtain⟨hi,ha,hb⟩:=hg;obtain⟨its,rv,oK,_⟩:=I.list ha;obtain⟨jts,Cw,oJ,_⟩:=I.list hb;have l1:=rv.length;have l2:=Cw.length;have Bh:its.toArray[i]?=none\/jts.toArray[i]?=none:=by
   rw[Z7]at hi
   rcases Nat.le_total xs.length ys.length with h | h
   ·rw[h_ h]at hi;exact .inl (by simp;omega)
   ·rw[Nat.min_eq_right h]at hi;exact .inr (by simp;omega)
  exact Zn1 (I.ok.hd hc) D st oK.isList oJ.isList Bh λg hk=>⟨Y,I.turnedL (t':=s.toks) (its:=[z,ti,to,i1,i2]) (λc o hc e=>hk c o (λq=>hc (by simp[q])) (λq=>hc (by simp[q])) (λq=>hc (by simp[q])) (λq=>hc (by simp[q])) e) hf⟩
 self:=λA i s Q E st h=>wpAny_pyIter_zip st.z h
section
variable {X:Cx}
def Ya5(K:Fg)(ta:TA):TI:=λσ H R=>ta σ H λvs H1=>∃(a b:Addr) (xs ys:LV),vs=[.ref a,.ref b]/\SqL K H1 a xs/\SqL K H1 b ys/\R (UB (xs.zip ys) λH=>SqL K H a xs/\SqL K H b ys) H1
def Z4h{elts:List Expr}{x1}{CF:Pos}{a b:Expr}{ta:TA}{p pos:Pos}(hg:Gl X "zip")(hm:X.mg "zip"=none)(ha:PA X [a,b] ta)(hs:starEach [a,b] X.env=[(false,eval a X.env),(false,eval b X.env)]:=by rfl)(Ca:starEach [b] X.env=[(false,eval b X.env)]:=by rfl):
  PI X (.Tuple elts x1 CF) (.Call (.Name "zip" p) [a,b] [] pos) (Ya5 X.K ta):=by
 intro pins s σ H R I h;refine Call_ (UP I hg hm boot_zip (Vi (AN (ha pos pins s σ H _ I h) λus s1 ⟨vs,H1,I1,r1,q1⟩=>?_) (by rw[hs,Ca]) (by rw[Ca];rfl)));obtain⟨l1,l2,xs,ys,e,t1,t2,q⟩:=q1;subst e;cases r1 with
 | cons r rr =>
  cases rr with
  | cons r' rr =>
   cases rr;obtain rfl:_=Value.ref l1:=r;obtain rfl:_=Value.ref l2:=r';obtain⟨its,rv,pa,_⟩:=I1.list t1;obtain⟨jts,Cw,pb,_⟩:=I1.list t2;have b1:s1.heap.IsList l1 its.toArray:=pa.isList;have b2:s1.heap.IsList l2 jts.toArray:=pb.isList;have VO:l1<s1.heap.objs.size:=let⟨_,e,_⟩:=b1;Yk e;have ao:l2<s1.heap.objs.size:=let⟨_,e,_⟩:=b2;Yk e;refine y8 b1 b2 λg st hk=>wpAny_pyIter_zip (s:={s1 with heap:=g}) st.z ?_;have D:ZipApart (s1.heap.objs.size + 4) (s1.heap.objs.size + 2) (s1.heap.objs.size + 3) s1.heap.objs.size (s1.heap.objs.size + 1) l1 l2:=W.ktu_apart _ _ _ VO ao;refine⟨_,[s1.heap.objs.size + 4,s1.heap.objs.size + 2,s1.heap.objs.size + 3,s1.heap.objs.size,s1.heap.objs.size + 1],_,_,H1,Y,I1.kept (t':=s1.toks) λb o e=>hk b o e,Zvx l1 l2 _ _ _ _ _ D,st,λc hc=>?_,q⟩;have BF:c=s1.heap.objs.size + 4\/c=s1.heap.objs.size + 2\/c=s1.heap.objs.size + 3\/c=s1.heap.objs.size\/c=s1.heap.objs.size + 1:=by simpa using hc
   have ge:s1.heap.objs.size<=c:=by
    rcases BF with rfl | rfl | rfl | rfl | rfl
    ·exact UZ _ _
    ·exact UZ _ _
    ·exact UZ _ _
    ·exact Yf _
    ·exact UZ _ _
   exact I1.fpOk ge (I1.hok.fresh ge)
end
abbrev Z3(h:Heap)(z TI TO:Addr)(f0:Value)(f:Bool):Prop:=h.get? z=some {cls:=.type "zip",dict:=none,data:=.fields #[f0,.bool f,.bool false,.ref TI,.ref TO],slots:=#[] }
section
variable {prog:Program}{w:World}{A:Around}{E:EV}{s:Shared}
def ze{z TI TO a:Addr}{f:Bool}{oa:Obj}{Q:Bool->Shared->Prop}(hz:Z3 s.heap z TI TO (rawInt a) f)(ha:s.heap.get? a=some oa)
  (hQ:∀ h',Z3 h' z TI TO (rawInt a) true->Heap.SameBut z s.heap h'->Q false {s with heap:=h' }):wpAny (model prog w) A (Builtin.SmallTypes.ownedTupleIsFree (.ref z)) Q E s:=by
 unfold Builtin.SmallTypes.ownedTupleIsFree;refine Ja (Jg hz rfl (x:=rawInt a) rfl ?_);show wpAny _ _ (loadIfAlive ((a:Int).toNat)>>=_) _ _ _;rw[YX];refine Ja (W.kdx_alive ha ?_);simp only[Option.isNone_some,m3,if_false];refine Ja (Jg hz rfl (x:=.bool f) rfl ?_);cases f with
 | true =>
  rw[if_neg (show ¬ ((Value.bool true != Value.bool true)=true)from Yq)];exact Jd (hQ _ hz (Heap.SameBut.refl _ _))
 | false =>
  rw[if_pos (show(Value.bool false != Value.bool true)=true from rfl)];exact Ja (wpAny_setField_rec hz (by simp) λh₃ he₃ hs₃=>Jd (hQ _ he₃ hs₃))
def Zl7{z TI TO i1 i2 l1 l2 a:Addr}{f:Bool}{oa:Obj}{k1 k2:Nat}{xs ys:Array Value}{x y:Value}{Q:EV}(D:ZipApart z TI TO i1 i2 l1 l2)(hz:Z3 s.heap z TI TO (rawInt a) f)(ha:s.heap.get? a=some oa)(hTI:IsPair s.heap TI (.ref i1) (.ref i2))
  (h1:s.heap.IsListIter i1 l1 k1) (h2:s.heap.IsListIter i2 l2 k2) (Aw:s.heap.IsList l1 xs) (Ap:s.heap.IsList l2 ys) (hx:xs[k1]?=some x) (hy:ys[k2]?=some y)
  (hQ:∀ h',Z3 h' z TI TO (rawInt a) true->h'.IsListIter i1 l1 (k1 + 1)->h'.IsListIter i2 l2 (k2 + 1)->IsPair h' s.heap.objs.size x y->h'.objs.size=s.heap.objs.size + 1 ->
   (∀ c o,c≠z->c≠i1->c≠i2->s.heap.get? c=some o->h'.get? c=some o)->Q (.ref s.heap.objs.size) {s with heap:=h' }):
  wpAny (model prog w) A (Builtin.«zip.__next__» ⟨[.ref z],[]⟩) (λfin s'=>∃ v,fin=.done (.ret v)/\Q v s') E s:=by
 show wpAny _ _ (field (.ref z) 2>>=_) _ _ _;refine Ja (Jg hz rfl (x:=.bool false) rfl ?_);show wpAny _ _ (field (.ref z) 3>>=_) _ _ _;refine Ja (Jg hz rfl (x:=.ref TI) rfl ?_);refine Ja (wpAny_seqItems hTI rfl ?_);show wpAny _ _ (Builtin.SmallTypes.ownedTupleIsFree (.ref z)>>=_) _ _ _;refine Ja (ze hz ha λh₁ hz₁ hs₁=>?_);simp only[m3,if_false,List.forIn_toArray,gx,List.forIn_nil];refine Ja (Ja (Ja (Jj ?_)));show wpAny _ _ (Builtin.SmallTypes.nextOf (.ref i1)>>=_) _ _ _;refine Ja (wpAny_nextOf_list_item (h1.extBut hs₁.extBut D.i1z) (Aw.extBut hs₁.extBut D.l1z) hx λh₂ vt hs₂=>Jd ?_);refine Jd ?_;refine Ja (Ja (Jj ?_));show wpAny _ _ (Builtin.SmallTypes.nextOf (.ref i2)>>=_) _ _ _;refine Ja (wpAny_nextOf_list_item ((h2.extBut hs₁.extBut D.i2z).extBut hs₂.extBut D.i12.symm) ((Ap.extBut hs₁.extBut D.l2z).extBut hs₂.extBut D.l2i1) hy λh₃ h2₃ hs₃=>Jd ?_);refine Jd (Jd ?_);refine Ja (wpAny_newTuple ?_ (by show 2<=sizeLine;rw[sizeLine_eq];decide));have hsz:h₃.objs.size=s.heap.objs.size:=by rw[hs₃.1,hs₂.1,hs₁.1]
 have hz₃:Z3 h₃ z TI TO (rawInt a) true:=hs₃.extBut _ _ D.i2z.symm (hs₂.extBut _ _ D.i1z.symm hz₁);have hk:∀ c o,c≠z->c≠i1->c≠i2->s.heap.get? c=some o->h₃.get? c=some o:=λc o c1 c3 c4 e=>hs₃.extBut _ _ c4 (hs₂.extBut _ _ c3 (hs₁.extBut _ _ c1 e));have h1₃:h₃.IsListIter i1 l1 (k1 + 1):=vt.extBut hs₃.extBut D.i12;refine Jd ⟨Z,?_⟩;show Q (.ref h₃.objs.size) _;have fin:=hQ (h₃.push {cls:=.type "tuple",data:=.seq #[x,y] }) (Ye _ hz₃) (h1₃.at λo e=>Ye _ e) (h2₃.at λo e=>Ye _ e) (by rw[<- hsz];exact Yp _ rfl) (by rw[Wy,hsz]) λc o c1 c2 c3 e=>Ye _ (hk c o c1 c2 c3 e);rw[hsz];exact fin
def Zm8{z TI TO i1 i2 l1 l2 a:Addr}{f:Bool}{oa:Obj}{k1 k2:Nat}{xs ys:Array Value}{Q:PySem.Fin->Shared->Prop}(hh:A.handled=none)(D:ZipApart z TI TO i1 i2 l1 l2)(hz:Z3 s.heap z TI TO (rawInt a) f)(ha:s.heap.get? a=some oa)(hTI:IsPair s.heap TI (.ref i1) (.ref i2))
  (h1:s.heap.IsListIter i1 l1 k1) (h2:s.heap.IsListIter i2 l2 k2) (Aw:s.heap.IsList l1 xs) (Ap:s.heap.IsList l2 ys) (Bh:xs[k1]?=none\/ys[k2]?=none)
  (hE:∀ h' e,(∀ c o,c≠z->c≠i1->c≠i2->s.heap.get? c=some o->h'.get? c=some o)->(∃ o,h'.get? e=some o/\o.cls=.type "StopIteration")->E (.ref e) {s with heap:=h' }):
  wpAny (model prog w) A (Builtin.«zip.__next__» ⟨[.ref z],[]⟩) Q E s:=by
 show wpAny _ _ (field (.ref z) 2>>=_) _ _ _;refine Ja (Jg hz rfl (x:=.bool false) rfl ?_);show wpAny _ _ (field (.ref z) 3>>=_) _ _ _;refine Ja (Jg hz rfl (x:=.ref TI) rfl ?_);refine Ja (wpAny_seqItems hTI rfl ?_);show wpAny _ _ (Builtin.SmallTypes.ownedTupleIsFree (.ref z)>>=_) _ _ _;refine Ja (ze hz ha λh₁ hz₁ hs₁=>?_);simp only[m3,if_false,List.forIn_toArray,gx,List.forIn_nil];refine Ja (Ja (Ja (Jj ?_)));show wpAny _ _ (Builtin.SmallTypes.nextOf (.ref i1)>>=_) _ _ _;cases hx:xs[k1]? with
 | none =>
  refine Ja (wpAny_nextOf_list_end hh (h1.extBut hs₁.extBut D.i1z) (Aw.extBut hs₁.extBut D.l1z) hx λh₂ e hs₂ he=>?_);exact hE h₂ e (λc o c1 c3 _ x=>hs₂ _ _ c3 (hs₁.extBut _ _ c1 x)) he
 | some x =>
  have hy:ys[k2]?=none:=by rcases Bh with h | h;rw[hx]at h;cases h;exact h
  refine Ja (wpAny_nextOf_list_item (h1.extBut hs₁.extBut D.i1z) (Aw.extBut hs₁.extBut D.l1z) hx λh₂ vt hs₂=>Jd ?_);refine Jd ?_;refine Ja (Ja (Jj ?_));show wpAny _ _ (Builtin.SmallTypes.nextOf (.ref i2)>>=_) _ _ _;refine Ja (wpAny_nextOf_list_end hh ((h2.extBut hs₁.extBut D.i2z).extBut hs₂.extBut D.i12.symm) ((Ap.extBut hs₁.extBut D.l2z).extBut hs₂.extBut D.l2i1) hy λh₃ e hs₃ he=>?_);exact hE h₃ e (λc o c1 c3 c4 x=>hs₃ _ _ c4 (hs₂.extBut _ _ c3 (hs₁.extBut _ _ c1 x))) he
structure Zy(h:Heap)(z TI TO i1 i2 l1 l2 S:Addr)(i:Nat)(xs ys:Array Value):Prop where
 st:(IsZip h z TI TO .none)\/∃(a:Addr) (f:Bool) (oa:Obj),Z3 h z TI TO (rawInt a) f/\h.get? a=some oa/\a≠z/\a≠i1/\a≠i2/\a≠S
 ti:IsPair h TI (.ref i1) (.ref i2)
 to:∃ a b,IsPair h TO a b
 h1:h.IsListIter i1 l1 i
 h2:h.IsListIter i2 l2 i
 Aw:h.IsList l1 xs
 Ap:h.IsList l2 ys
def Zy.keep{h h':Heap}{z TI TO i1 i2 l1 l2 S:Addr}{i:Nat}{xs ys:Array Value}(x:Zy h z TI TO i1 i2 l1 l2 S i xs ys)(hk:∀ b o,b≠S->h.get? b=some o->h'.get? b=some o)(nz:z≠S)(nti:TI≠S)(nto:TO≠S)(n1:i1≠S)(n2:i2≠S)(m1:l1≠S)(m2:l2≠S):Zy h' z TI TO i1 i2 l1 l2 S i xs ys:=by
 obtain⟨st,ti,⟨a,b,to⟩,h1,h2,Aw,Ap⟩:=x;refine⟨?_,hk _ _ nti ti,⟨a,b,hk _ _ nto to⟩,h1.at λo e=>hk _ o n1 e,h2.at λo e=>hk _ o n2 e,Aw.at λo e=>hk _ o m1 e,Ap.at λo e=>hk _ o m2 e⟩
 rcases st with st | ⟨a,f,oa,st,ha,n⟩
 ·exact .inl (hk _ _ nz st)
 ·exact .inr ⟨a,f,oa,hk _ _ nz st,hk _ _ n.2.2.2 ha,n⟩
def Zz8{z TI TO i1 i2 l1 l2 S:Addr}{i:Nat}{xs ys:Array Value}{x y:Value}{Q:OU->Shared->Prop}(D:ZipApart z TI TO i1 i2 l1 l2)(hst:Zy s.heap z TI TO i1 i2 l1 l2 S i xs ys)(hS:S<s.heap.objs.size)(hx:xs[i]?=some x)(hy:ys[i]?=some y)
  (hQ:∀ h',Zy h' z TI TO i1 i2 l1 l2 S (i + 1) xs ys->IsPair h' s.heap.objs.size x y->h'.objs.size=s.heap.objs.size + 1->(∀ b o,b≠z->b≠TO->b≠i1->b≠i2->s.heap.get? b=some o->h'.get? b=some o)->Q (some (.ref s.heap.objs.size)) {s with heap:=h' }):
  wpAny (model prog w) A (pyNext (.ref z)) Q E s:=by
 obtain⟨st,ti,⟨a,b,to⟩,h1,h2,Aw,Ap⟩:=hst;have i1l:i1<s.heap.objs.size:=by obtain⟨_,e,_⟩:=h1;exact Yk e
 have i2l:i2<s.heap.objs.size:=by obtain⟨_,e,_⟩:=h2;exact Yk e
 rcases st with hz | ⟨c,f,oc,hz,hc,nz,n1,n2,nS⟩
 ·have zl:z<s.heap.objs.size:=Yk hz;refine wpAny_pyNext_zip_item D hz ti to h1 h2 Aw Ap hx hy λh' a1 a2 a3 a4 a5 a6 hk=>hQ h' ⟨.inr ⟨_,false,_,a1,a5,Br zl,Br i1l,Br i2l,Br hS⟩,hk _ _ D.TIz D.TITO D.TIi1 D.TIi2 ti,⟨_,_,a2⟩,a3,a4,Aw.at λo e=>hk _ o D.l1z D.l1TO D.l1i1 D.l1i2 e,Ap.at λo e=>hk _ o D.l2z D.l2TO D.l2i1 D.l2i2 e⟩ a5 a6 hk
 ·have hT:s.TypeIs (.ref z) "zip":=⟨_,hz,Y⟩;unfold pyNext;exact Ja (wpAny_attempt (wpAny_callSpecial?_slot (name:=Str.ofString "__next__") hT Y4
   (wpAny_call_entry Y4 hT mz
    (Zl7 D hz hc ti h1 h2 Aw Ap hx hy λh' a1 a3 a4 a5 a6 hk=>Jd (hQ h' ⟨.inr ⟨c,true,_,a1,hk _ _ nz n1 n2 hc,nz,n1,n2,nS⟩,hk _ _ D.TIz D.TIi1 D.TIi2 ti,⟨_,_,hk _ _ D.TOz D.TOi1 D.TOi2 to⟩,a3,a4,Aw.at λo e=>hk _ o D.l1z D.l1i1 D.l1i2 e,Ap.at λo e=>hk _ o D.l2z D.l2i1 D.l2i2 e⟩ a5 a6 λb o b1 _ b3 b4 e=>hk b o b1 b3 b4 e)) (m6 _))))
def Zz9{z TI TO i1 i2 l1 l2 S:Addr}{i:Nat}{xs ys:Array Value}{Q:OU->Shared->Prop}(hh:A.handled=none)(D:ZipApart z TI TO i1 i2 l1 l2)(hst:Zy s.heap z TI TO i1 i2 l1 l2 S i xs ys)(Bh:xs[i]?=none\/ys[i]?=none)
  (hQ:∀ h',(∀ b o,b≠z->b≠TO->b≠i1->b≠i2->s.heap.get? b=some o->h'.get? b=some o)->Q none {s with heap:=h' }):wpAny (model prog w) A (pyNext (.ref z)) Q E s:=by
 obtain⟨st,ti,⟨a,b,to⟩,h1,h2,Aw,Ap⟩:=hst
 rcases st with hz | ⟨c,f,oc,hz,hc,nz,n1,n2,nS⟩
 ·exact wpAny_pyNext_zip_end hh D hz ti to h1 h2 Aw Ap Bh hQ
 ·have hT:s.TypeIs (.ref z) "zip":=⟨_,hz,Y⟩;unfold pyNext;refine Ja (wpAny_attempt (wpAny_callSpecial?_slot (name:=Str.ofString "__next__") hT Y4
   (wpAny_call_entry Y4 hT mz (Zm8 hh D hz hc ti h1 h2 Aw Ap Bh λh' e hk he=>?_) (m6 _))))
  obtain⟨o,ho,hc⟩:=he;refine Ja (wpAny_isInstance (T:="StopIteration") (b:=true) ⟨o,ho,hc⟩ isSubtype_stop ?_);exact Jd (hQ _ λb o b1 _ b3 b4 e=>hk b o b1 b3 b4 e)
structure Z4(xs ys:Array Value)(lo:Addr)(h:Heap)(as:List Addr):Prop where
 rise:as.Pairwise (·<·)
 above:∀ a∈as,lo<a
 pairs:∀(j:Nat) (a:Addr),as[j]?=some a->∃ x y,xs[j]?=some x/\ys[j]?=some y/\IsPair h a x y
def Z4.there{xs ys:Array Value}{lo:Addr}{h:Heap}{as:List Addr}(g:Z4 xs ys lo h as){a:Addr}(ha:a∈as):a<h.objs.size:=by
 obtain⟨j,hj⟩:=Y3.mp ha;obtain⟨_,_,_,_,e⟩:=g.pairs j a hj;exact Yk e
structure mR(z TI TO i1 i2 l1 l2 S:Addr):Prop where
 z:z<S
 ti:TI<S
 to:TO<S
 i1:i1<S
 i2:i2<S
 l1:l1<S
 l2:l2<S
def Z0a{R:Result->Shared->Prop}{z TI TO i1 i2 l1 l2 S:Addr}{xs ys:Array Value}(hh:A.handled=none)(D:ZipApart z TI TO i1 i2 l1 l2)(L:mR z TI TO i1 i2 l1 l2 S)(hn:min xs.size ys.size<=sizeLine)(res:Value){h₁:Heap}
  (hR:∀ h' tk acc c as,(∀ b o,b≠S->b≠z->b≠TO->b≠i1->b≠i2->h₁.get? b=some o->h'.get? b=some o)->h'.get? S=some {cls:=.type "list",dict:=none,data:=.seq acc c,slots:=#[] }->as.length=min xs.size ys.size->Z4 xs ys S h' as ->
   acc.toList=as.map Value.ref->R (.ok (.ret res)) {s with heap:=h',toks:=tk}):
  ∀(k i:Nat) (h:Heap) (tk c:Nat) (acc:Array Value) (as:List Addr),min xs.size ys.size - i=k->i<=min xs.size ys.size->Zy h z TI TO i1 i2 l1 l2 S i xs ys->(∀ b o,b≠S->b≠z->b≠TO->b≠i1->b≠i2->h₁.get? b=some o->h.get? b=some o) ->
   h.get? S=some {cls:=.type "list",dict:=none,data:=.seq acc c,slots:=#[] }->acc.toList=as.map Value.ref->as.length=i->Z4 xs ys S h as ->
   codeAny (model prog w) A (.builtin "list.extend.loop" ⟨[.ref S,.ref z,res],[]⟩) R {s with heap:=h,toks:=tk}:=by
 have nSz:S≠z:=Br L.z;have nSo:S≠TO:=Br L.to;have oN:S≠i1:=Br L.i1;have oM:S≠i2:=Br L.i2;intro k
 induction k with
 | zero =>
  intro i h tk c acc as hk hi hst hkeep hS B3 hal hG;have hin:i=min xs.size ys.size:=by omega
  refine codeAny_builtin PySem.F.entry_extend_loop ?_;rw[h9 nC _];show wpAny _ A.in1 (pyNext (.ref z)>>=_) _ _ _;have Bh:xs[i]?=none\/ys[i]?=none:=by
   rcases Nat.le_total xs.size ys.size with h | h
   ·exact .inl (Array.getElem?_eq_none (by omega))
   ·exact .inr (Array.getElem?_eq_none (by omega))
  refine Ja (Zz9 (s:={s with heap:=h,toks:=tk}) (A:=A.in1) hh D hst Bh λh' he=>?_);refine Jd (hR h' tk acc c as (λb o h0 h1 h2 h3 h4 e=>he b o h1 h2 h3 h4 (hkeep b o h0 h1 h2 h3 h4 e)) (he S _ nSz nSo oN oM hS) (by omega) ⟨hG.rise,hG.above,λj a hj=>?_⟩ B3);obtain⟨x,y,e1,e2,e3⟩:=hG.pairs j a hj;have ha:=hG.above a (Yd hj);exact⟨x,y,e1,e2,he a _ (Br (Vk L.z ha)) (Br (Vk L.to ha)) (Br (Vk L.i1 ha)) (Br (Vk L.i2 ha)) e3⟩
 | succ k ih =>
  intro i h tk c acc as hk hi hst hkeep hS B3 hal hG;have BK:i<min xs.size ys.size:=by omega
  obtain⟨x,hx⟩:∃ x,xs[i]?=some x:=⟨xs[i],Array.getElem?_eq_getElem (by omega)⟩;obtain⟨y,hy⟩:∃ y,ys[i]?=some y:=⟨ys[i],Array.getElem?_eq_getElem (by omega)⟩;have hsz:acc.size=i:=by rw[<- Y0,B3,Ya,hal]
  refine codeAny_builtin PySem.F.entry_extend_loop ?_;rw[h9 nC _];show wpAny _ A.in1 (pyNext (.ref z)>>=_) _ _ _;refine Ja (Zz8 (s:={s with heap:=h,toks:=tk}) D hst (Yk hS) hx hy λh' tU ht hz hkp=>?_);dsimp only at ht hz hkp ⊢;have Vr:=hkp S _ nSz nSo oN oM hS;have up:∀ b o,b≠S->h'.get? b=some o->(h'.update S (Obj.mapSeq (·.push (Value.ref h.objs.size)))).get? b=some o:=λb o hb e=>(hJ _ _ (Ae hb)).trans e;have hSl:S<h.objs.size:=Yk hS;show wpAny _ A.in1 (updateSeq S (·.push (Value.ref h.objs.size))>>=_) _ _ _;refine Ja ?_;refine wpAny_updateSeq Vr rfl (Jd ⟨plainId_quiet nC _,ih (i + 1) _ tk _ (acc.push (Value.ref h.objs.size)) (as++[h.objs.size]) (by omega) BK (tU.keep up (Ae nSz) (Yx L.ti) (Ae nSo) (Ae oN) (Ae oM) (Yx L.l1) (Yx L.l2))
   (λb o h0 h1 h2 h3 h4 e=>up b o h0 (hkp b o h1 h2 h3 h4 (hkeep b o h0 h1 h2 h3 h4 e))) (g6 _ Vr rfl) (by rw[Array.toList_push,B3,Ys];rfl) (by rw[Yc,hal];rfl) ⟨?_,?_,?_⟩⟩) (by rw[hsz];omega) (by show(acc.push (Value.ref h.objs.size)).size<=sizeLine + 1;rw[Array.size_push,hsz];omega)
  ·refine List.pairwise_append.mpr ⟨hG.rise,List.pairwise_singleton _ _,λa ha b hb=>?_⟩;rw[Yh.mp hb];exact hG.there ha
  ·intro a ha
   rcases Yo.mp ha with ha | ha
   ·exact hG.above a ha
   ·rw[Yh.mp ha];exact hSl
  ·intro j b hj
   rcases Nat.lt_trichotomy j as.length with h1 | h1 | h1
   ·rw[cY h1]at hj;obtain⟨x',y',e1,e2,e3⟩:=hG.pairs j b hj;have hb:=hG.above b (Yd hj);exact⟨x',y',e1,e2,up b _ (Br hb) (hkp b _ (Br (Vk L.z hb)) (Br (Vk L.to hb)) (Br (Vk L.i1 hb)) (Br (Vk L.i2 hb)) e3)⟩
   ·subst h1;have hb:h.objs.size=b:=by simpa using hj
    subst hb;exact⟨x,y,by rw[hal];exact hx,by rw[hal];exact hy,up _ _ (Br hSl) ht⟩
   ·have hnone:(as++[h.objs.size])[j]?=none:=gz (by rw[Yc,UY];omega);rw[hnone]at hj;cases hj
def Zty:typeLookup (.type "zip") "__len__"=pure none:=by rw[typeLookup_type,builtinLookup_eq_fast];kernel_rfl
def Zq3:typeLookup (.type "zip") "__length_hint__"=pure none:=by rw[typeLookup_type,builtinLookup_eq_fast];kernel_rfl
def Zq4{z TI TO i1 i2 l1 l2:Addr}{xs ys:Array Value}{Q:LU->Shared->Prop}(hh:A.handled=none)(D:ZipApart z TI TO i1 i2 l1 l2)(L:mR z TI TO i1 i2 l1 l2 s.heap.objs.size)(hz:IsZip s.heap z TI TO .none)(hti:IsPair s.heap TI (.ref i1) (.ref i2))(hto:∃ a b,IsPair s.heap TO a b)
  (h1:s.heap.IsListIter i1 l1 0) (h2:s.heap.IsListIter i2 l2 0) (Aw:s.heap.IsList l1 xs) (Ap:s.heap.IsList l2 ys) (hn:min xs.size ys.size<=sizeLine)
  (hQ:∀ h' tk as,(∀ b o,b≠z->b≠TO->b≠i1->b≠i2->s.heap.get? b=some o->h'.get? b=some o)->as.length=min xs.size ys.size->Z4 xs ys s.heap.objs.size h' as->Q (as.map Value.ref) {s with heap:=h',toks:=tk}):wpAny (model prog w) A (collect (.ref z)) Q E s:=by
 have nSz:s.heap.objs.size≠z:=Br L.z;unfold collect;refine Ja (wpAny_runValue (codeAny_builtin PySem.F.entry_proto_collect ?_));rw[h9 PySem.F.plain_proto_collect _];show wpAny _ A.in1 (newList []>>=λl=>again (.builtin "list.__iadd__" ⟨[l,.ref z],[]⟩)) _ _ s;refine Ja (wpAny_newObj_type ?_);refine Jd ⟨plainId_quiet PySem.F.plain_list_iadd _,codeAny_builtin PySem.F.entry_list_iadd ?_⟩;rw[h9 PySem.F.plain_list_iadd _];have push:∀ b o,s.heap.get? b=some o->(s.heap.push {cls:=.type "list",data:=.seq ([]:LU).toArray}).get? b=some o:=λb o e=>Ye _ e;have hz₁:=push _ _ hz;have hT:Shared.TypeIs {s with heap:=s.heap.push {cls:=.type "list",data:=.seq ([]:LU).toArray} } (.ref z) "zip":=⟨_,hz₁,Y⟩;show wpAny _ A.in1 (Builtin.List.listExtendWith (.ref s.heap.objs.size) (.ref z) (.ref s.heap.objs.size)) _ _ _;unfold Builtin.List.listExtendWith;refine Ja (wpAny_typeOf hT ?_);have e1:Builtin.List.listSameRef (.ref s.heap.objs.size) (.ref z)=false:=by simp[Builtin.List.listSameRef,nSz]
 have e2:(Value.type "zip" == Value.type "list")=false:=by decide
 have e3:(Value.type "zip" == Value.type "tuple")=false:=by decide
 simp only[e1,e2,e3,Bool.or_false,m3,if_false];refine Ja (wpAny_pyIter_zip (s:={s with heap:=s.heap.push {cls:=.type "list",data:=.seq ([]:LU).toArray} }) hz₁ ?_);refine Ja (Jj ?_);unfold Builtin.List.listLengthHint;refine Ja (wpAny_specialOf hT Zty ?_);show wpAny _ A.in1 (specialOf (Value.ref z) (Str.ofString "__length_hint__")>>=_) _ _ _;refine Ja (wpAny_specialOf hT Zq3 ?_);refine Jd ?_;show wpAny _ A.in1 (rule "list.extend.makes-room">>=λ_=>Builtin.List.listTouch (.ref s.heap.objs.size)>>=λ_ =>
  again (.builtin "list.extend.loop" ⟨[.ref s.heap.objs.size,.ref z,.ref s.heap.objs.size],[]⟩)) _ _ _
 refine Ja (wpAny_rule ?_);have hS₁:(s.heap.push {cls:=.type "list",data:=.seq ([]:LU).toArray}).get? s.heap.objs.size=some {cls:=.type "list",data:=.seq ([]:LU).toArray}:=Yp _ rfl;refine Ja ?_;show wpAny _ A.in1 (updateSeq s.heap.objs.size (·.push .none)>>=λ_=>updateSeq s.heap.objs.size (·.pop)) _ _ _;refine Ja (wpAny_updateSeq hS₁ rfl ?_);have hS₂:=g6 (Obj.mapSeq (·.push Value.none)) hS₁ rfl;refine wpAny_updateSeq hS₂ rfl ?_;have hS₃:=g6 (Obj.mapSeq (·.pop)) hS₂ rfl;have oth:∀ b o,b≠s.heap.objs.size->(s.heap.push {cls:=.type "list",data:=.seq ([]:LU).toArray}).get? b=some o ->
   (((s.heap.push {cls:=.type "list",data:=.seq ([]:LU).toArray}).update s.heap.objs.size (Obj.mapSeq (·.push Value.none))).update s.heap.objs.size (Obj.mapSeq (·.pop))).get? b=some o :=
  λb o hb e=>(hJ _ _ (Ae hb)).trans ((hJ _ _ (Ae hb)).trans e)
 have all:∀ b o,s.heap.get? b=some o->(((s.heap.push {cls:=.type "list",data:=.seq ([]:LU).toArray}).update s.heap.objs.size (Obj.mapSeq (·.push Value.none))).update s.heap.objs.size (Obj.mapSeq (·.pop))).get? b=some o:=λb o e=>oth b o (Yx (Yk e)) (push b o e);obtain⟨a,b,hto⟩:=hto;refine Jd ⟨plainId_quiet nC _,Z0a (s:=s) (h₁:=s.heap) hh D L hn _ (λh' tk acc c as hk Vr hal hG B3=>?_) _ 0 _ s.toks _ #[] [] rfl (Ax _)
  ⟨.inl (all _ _ hz),all _ _ hti,⟨a,b,all _ _ hto⟩,h1.at λo e=>all _ o e,h2.at λo e=>all _ o e,Aw.at λo e=>all _ o e,Ap.at λo e=>all _ o e⟩ (λb o _ _ _ _ _ e=>all b o e) hS₃ rfl rfl ⟨List.Pairwise.nil,(λ_ ha=>nomatch ha),(λj a hj=>by simp at hj)⟩⟩
 show wpAny _ A (load s.heap.objs.size>>=_) _ _ _;refine Ja (wpAny_load Vr ?_);refine Jd ?_;show Q acc.toList _;rw[B3];exact hQ h' tk as (λb o n1 n2 n3 n4 e=>hk b o (Yx (Yk e)) n1 n2 n3 n4 e) hal hG
end
end L2
namespace L2
open PySem PySem.Spec
section
variable {prog:Program}{w:World}{A:Around}{E:EV}{s:Shared}
def Zn2{z TI TO i1 i2 l1 l2:Addr}{xs ys:Array Value}{Q₁:EV}(hh:A.handled=none)(D:ZipApart z TI TO i1 i2 l1 l2)(L:mR z TI TO i1 i2 l1 l2 s.heap.objs.size)(hz:IsZip s.heap z TI TO .none)(hti:IsPair s.heap TI (.ref i1) (.ref i2))(hto:∃ a b,IsPair s.heap TO a b)
  (h1:s.heap.IsListIter i1 l1 0) (h2:s.heap.IsListIter i2 l2 0) (Aw:s.heap.IsList l1 xs) (Ap:s.heap.IsList l2 ys) (hn:min xs.size ys.size<=sizeLine)
  (hQ:∀ h' tk as,(∀ b o,b≠z->b≠TO->b≠i1->b≠i2->s.heap.get? b=some o->h'.get? b=some o)->as.length=min xs.size ys.size->Z4 xs ys s.heap.objs.size h' as->Q₁ (.ref h'.objs.size) {s with heap:=h'.push {cls:=.type "tuple",data:=.seq (as.map Value.ref).toArray},toks:=tk}):
  codeAny (model prog w) A (.call (.builtin "tuple.__new__") ⟨[.type "tuple",.ref z],[]⟩) (wants Q₁ E) s:=by
 refine codeAny_of_tree ?_;show wpAny _ A.in1 (do checkBuiltinCall "tuple.__new__" ⟨[.type "tuple",.ref z],[]⟩;again (.builtin "tuple.__new__" ⟨[.type "tuple",.ref z],[]⟩)) _ _ s;refine Ja (wpAny_of_eq (F.newCall_tuple_1 _) (Jd ⟨plainId_quiet F.plain_tuple_new _,codeAny_builtin F.entry_tuple_new ?_⟩));rw[h9 F.plain_tuple_new _];have hsub:=sub_tuple_self;have hinit:=init_tuple_lookup;have hmh:=madeHere_tuple;have hTI:s.TypeIs (.ref z) "zip":=⟨_,hz,Y⟩
 wp_walk using wpAny_typeOf hTI,Zq4 (by simp[hh]) D L hz hti hto h1 h2 Aw Ap hn
 intro h' tk as hk hal hG;show wpAny _ _ (Builtin.Tuple.tupleExact (as.map Value.ref).toArray>>=λv=>ret v) _ _ _;unfold Builtin.Tuple.tupleExact;refine Ja (wpAny_newObj_type ?_ (by show(as.map Value.ref).toArray.size<=sizeLine;rw[Yn,Ya,hal];exact hn));exact Jd (hQ h' tk as hk hal hG)
def Zmb{z TI TO i1 i2 l1 l2:Addr}{xs ys:Array Value}{Q:EV}(hh:A.handled=none)(D:ZipApart z TI TO i1 i2 l1 l2)(L:mR z TI TO i1 i2 l1 l2 s.heap.objs.size)(hz:IsZip s.heap z TI TO .none)(hti:IsPair s.heap TI (.ref i1) (.ref i2))(hto:∃ a b,IsPair s.heap TO a b)
  (h1:s.heap.IsListIter i1 l1 0) (h2:s.heap.IsListIter i2 l2 0) (Aw:s.heap.IsList l1 xs) (Ap:s.heap.IsList l2 ys) (hn:min xs.size ys.size<=sizeLine)
  (hQ:∀ h' tk as,(∀ b o,b≠z->b≠TO->b≠i1->b≠i2->s.heap.get? b=some o->h'.get? b=some o)->as.length=min xs.size ys.size->Z4 xs ys s.heap.objs.size h' as->Q (.ref h'.objs.size) {s with heap:=h'.push {cls:=.type "tuple",data:=.seq (as.map Value.ref).toArray},toks:=tk}):
  wpAny (model prog w) A (call (.type "tuple") [.ref z]) Q E s:=by
 refine callType_codes (Q₁:=λobj s₁=>s₁.TypeIs obj "tuple"/\Q obj s₁) F.called_tuple (F.typeCall_tuple_1 _) F.entry_object_init
  (Zn2 (by simp[hh]) D L hz hti hto h1 h2 Aw Ap hn λh' tk as hk hal hG=>⟨⟨_,Yp _ rfl,Y⟩,hQ h' tk as hk hal hG⟩) λobj s₁ h₁=>?_
 exact⟨h₁.1,F.args_object_init_2 obj _,object_init_meets F.called_tuple.init.lookup F.called_tuple.made (by decide) prog w A.in1 _ s₁ ⟨h₁.1,Y,h₁.2⟩⟩
end
end L2
namespace L2
open PySem PySem.Spec PyProof.Rows
section
variable {X:Cx}
def Z30(K:Fg)(ta:TA):TE:=λσ H Q=>ta σ H λvs H1=>∃(l1 l2:Addr) (xs ys:LV),vs=[.ref l1,.ref l2]/\SqL K H1 l1 xs/\SqL K H1 l2 ys /\
 ∀ t us H',H1 t=none->AB H1 H'->H' t=some (.tup us)->Paired (λ(p:V×V) v=>∃ q:Addr,v=.ref q/\H' q=some (.tup [p.1,p.2])) (xs.zip ys) us->Q (.ref t) H'
def Zrd{a b:Expr}{ta:TA}{p1 p2 WA D8:Pos}(hc:X.calm=true)(dh:Gl X "tuple")(U2:X.mg "tuple"=none)(hg:Gl X "zip")(hm:X.mg "zip"=none)(ha:PA X [a,b] ta)
  (hs:starEach [a,b] X.env=[(false,eval a X.env),(false,eval b X.env)]:=by rfl) (Ca:starEach [b] X.env=[(false,eval b X.env)]:=by rfl)
  (hs3:starEach [.Call (.Name "zip" p2) [a,b] [] D8] X.env=[(false,eval (.Call (.Name "zip" p2) [a,b] [] D8) X.env)]:=by rfl):
  PE X (.Call (.Name "tuple" p1) [.Call (.Name "zip" p2) [a,b] [] D8] [] WA) (Z30 X.K ta):=by
 ac_rfl;refine wpAny_Call_Name_kw (UP I dh U2 Ur ?_ (by decide) (by decide));refine Vi ?_ hs3 rfl;refine m9 ?_;refine Call_ (UP I hg hm boot_zip (Vi (AN (ha D8 pins s σ H _ I h) λus s1 ⟨vs,H1,I1,r1,q1⟩=>?_) (by rw[hs,Ca]) (by rw[Ca];rfl)));obtain⟨l1,l2,xs,ys,e,t1,t2,q⟩:=q1;subst e;cases r1 with
 | cons r rr =>
  cases rr with
  | cons r' rr =>
   cases rr;obtain rfl:_=Value.ref l1:=r;obtain rfl:_=Value.ref l2:=r';obtain⟨its,rv,pa,oX⟩:=I1.list t1;obtain⟨jts,Cw,pb,oW⟩:=I1.list t2;have b1:s1.heap.IsList l1 its.toArray:=pa.isList;have b2:s1.heap.IsList l2 jts.toArray:=pb.isList;have VO:l1<s1.heap.objs.size:=let⟨_,e,_⟩:=b1;Yk e;have ao:l2<s1.heap.objs.size:=let⟨_,e,_⟩:=b2;Yk e;refine y8 b1 b2 λg st hk=>?_;have D:ZipApart (s1.heap.objs.size + 4) (s1.heap.objs.size + 2) (s1.heap.objs.size + 3) s1.heap.objs.size (s1.heap.objs.size + 1) l1 l2:=W.ktu_apart _ _ _ VO ao;refine Calls.spliced_nil ?_;have zl:s1.heap.objs.size + 4<g.objs.size:=Yk st.z;have gl:s1.heap.objs.size<=g.objs.size:=by omega
   have n1:xs.length=its.length:=rv.length;have n2:ys.length=jts.length:=Cw.length;have hn:min its.toArray.size jts.toArray.size<=sizeLine:=by rw[Yn,Yn];omega
   refine Zmb (s:={s1 with heap:=g}) (I1.ok.hd hc) D ⟨zl,by show _<g.objs.size;omega,by show _<g.objs.size;omega,by show _<g.objs.size;omega,by show _<g.objs.size;omega,B2 VO gl,B2 ao gl⟩ st.z st.ti st.to st.i1 st.i2 (b1.at λo e=>hk _ o e) (b2.at λo e=>hk _ o e) hn λh' tk as Dm hal hG=>?_;have keep:∀ b o,s1.heap.get? b=some o->(h'.push {cls:=.type "tuple",data:=.seq (as.map Value.ref).toArray}).get? b=some o:=λb o e=>by
    have lt:b<s1.heap.objs.size:=Yk e;exact Ye _ (Dm b o (Yx (B2 lt (UZ _ _))) (Yx (B2 lt (UZ _ _))) (Yx lt) (Yx (B2 lt (UZ _ _))) (hk b o e))
   have ndas:as.Nodup:=YZ.mpr (hG.rise.imp λh=>Yx h);have hl:as.length=(xs.zip ys).length:=by rw[hal,Yn,Yn,Z7,n1,n2]
   have hG':∀ a∈as,s1.heap.objs.size<a:=λa ha=>m5 gl (hG.above a ha);have aT:∀ a∈as,a<h'.objs.size:=λa ha=>hG.there ha;have sT:s1.heap.objs.size<=h'.objs.size:=by
    have:s1.heap.objs.size + 2<h'.objs.size:=Yk (Dm _ _ D.TIz D.TITO D.TIi1 D.TIi2 st.ti);omega
   have eF:∀ b,b<s1.heap.objs.size->(λb=>if b=h'.objs.size then some (HO.tup (as.map V.ref))else match (as.zip (xs.zip ys)).lookup b with | some kv=>some (HO.tup [kv.1,kv.2]) | none=>H1 b:Hp) b=H1 b:=λb hb=>by
    show(if b=h'.objs.size then _ else _)=_;rw[if_neg (Yx (B2 hb sT))];cases e:(as.zip (xs.zip ys)).lookup b with
    | none=>rfl
    | some kv =>
     obtain⟨i,h1,_⟩:=gp e;have:=hG' b (Yd h1);exact absurd (Vk hb this) (W7 _)
   have at_:∀(i:Nat) (b:Addr),as[i]?=some b->∃ kv:V×V,(xs.zip ys)[i]?=some kv/\(λb=>if b=h'.objs.size then some (HO.tup (as.map V.ref))else match (as.zip (xs.zip ys)).lookup b with | some kv=>some (HO.tup [kv.1,kv.2]) | none=>H1 b:Hp) b=some (.tup [kv.1,kv.2]):=λi b hi=>by
    have BK:i<(xs.zip ys).length:=by
     have:=(Yi.mp hi).1;omega
    refine⟨(xs.zip ys)[i],Yb BK,?_⟩;show(if b=h'.objs.size then _ else _)=_;rw[if_neg (Yx (aT b (Yd hi))),rY ndas hi (Yb BK)]
   have I3:Inv X pins σ (λb=>if b=h'.objs.size then some (HO.tup (as.map V.ref))else match (as.zip (xs.zip ys)).lookup b with | some kv=>some (HO.tup [kv.1,kv.2]) | none=>H1 b:Hp) {s1 with heap:=h'.push {cls:=.type "tuple",data:=.seq (as.map Value.ref).toArray},toks:=tk}:=by
    refine I1.laidMany (t':=tk) keep eF λb o hb e=>?_;have e:(if b=h'.objs.size then some (HO.tup (as.map V.ref))else match (as.zip (xs.zip ys)).lookup b with | some kv=>some (HO.tup [kv.1,kv.2]) | none=>H1 b)=some o:=e;by_cases hbT:b=h'.objs.size
    ·rw[if_pos hbT]at e;cases e;refine⟨by rw[Ya,hal];exact hn,as.map Value.ref,?_,?_⟩
     ·exact f_ (by simp) λi v u hv hu=>by
       rw[Yj]at hv hu;obtain⟨y,hy,ey⟩:=CV.mp hv;rw[hy]at hu;rw[<- ey];exact(Ym hu).symm
     ·rw[hbT];exact IsTup.new _ _
    ·rw[if_neg hbT]at e;cases el:(as.zip (xs.zip ys)).lookup b with
     | none =>
      rw[el]at e;have:=I1.hok.lt e;exact absurd (B2 this hb) (W7 _)
     | some kv =>
      rw[el]at e;cases e;obtain⟨i,X0,WY⟩:=gp el;obtain⟨x,y,hx,hy,hget⟩:=hG.pairs i b X0;obtain⟨oZ,hy2⟩:=gI WY;obtain⟨u,hu,ru⟩:=rv.get oZ;obtain⟨v,hv,dD⟩:=Cw.get hy2;have ex:u=x:=by
       have SS:its[i]?=some x:=by simpa using hx
       rw[hu]at SS;exact Ym SS
      have ey:v=y:=by
       have Uy:jts[i]?=some y:=by simpa using hy
       rw[hv]at Uy;exact Ym Uy
      subst ex ey;exact⟨U,[u,v],.cons ru (.cons dD .nil),⟨_,Ye _ hget,Y,Z⟩⟩
   refine⟨.ref h'.objs.size,_,I3,Y,q h'.objs.size (as.map V.ref) _ (I1.hok.fresh sT) (λb o e=>?_) ?_ ?_⟩
   ·exact(eF b (I1.hok.lt e)).trans e
   ·show(if h'.objs.size=h'.objs.size then _ else _)=_;rw[if_pos rfl]
   ·refine YT (by rw[Ya,hl]) λi kv v h1 h2=>?_;rw[Yj]at h2;obtain⟨b,hb,eb⟩:=CV.mp h2;obtain⟨vI,LD,dg⟩:=at_ i b hb;rw[h1]at LD;cases LD;exact⟨b,eb.symm,dg⟩
end
structure Tp(K:Fg)(x:Str)(st:Stmt)(f:Addr)(fd:FuncData):Prop where
 a:W.nsIn K mainGlobals x=some (some (.ref f))
 fn:Bu K x x st f fd
structure Mp(K:Fg)(C:Addr)(x q:Str)(st:Stmt)(f:Addr)(fd:FuncData):Prop where
 a:W.findIn K (.ref C) x=some (some (.ref f))
 i:W.isFn K (.ref f)=true
 fn:Bu K x q st f fd
structure Cp(K:Fg)(x:Str)(C:Addr):Prop where
 a:W.nsIn K mainGlobals x=some (some (.ref C))
 pg:W.plainGet K C Str.empty=true
 hd:W.hasDictIn K C=true
 po:W.plainOver K C=true
 sa:W.findIn K (.ref C) "__setattr__"=some (some (.builtin "object.__setattr__"))
 mx:W.makesIn K C=true
 kc:W.keepIn K (.ref C)=true
section
variable {K:Fg}{x q:Str}{st:Stmt}{f C:Addr}{oc:Value}{od an:Option Addr}{osl:Array (OU)}{kV doc pm A5 ct:Value}
def tp(a:W.nsIn K mainGlobals x=some (some (.ref f)))(l:K.lookup f=some ⟨oc,od,.func (W.fnOf x x (Um st) (C4 st) (AJ st) .none kV doc pm an A5 ct),osl⟩)(c:W.codeIn K A5 x=true)(k:W.keepIn K (.ref f)=true):
  Tp K x st f (W.fnOf x x (Um st) (C4 st) (AJ st) .none kV doc pm an A5 ct):=⟨a,Z3m l c k⟩
def mp(a:W.findIn K (.ref C) x=some (some (.ref f)))(i:W.isFn K (.ref f)=true)(l:K.lookup f=some ⟨oc,od,.func (W.fnOf x q (Um st) (C4 st) (AJ st) .none kV doc pm an A5 ct),osl⟩)(c:W.codeIn K A5 q=true)(k:W.keepIn K (.ref f)=true):
  Mp K C x q st f (W.fnOf x q (Um st) (C4 st) (AJ st) .none kV doc pm an A5 ct):=⟨a,i,Z3m l c k⟩
end
section
variable {K:Fg}{mg:Str->OU}{x q:Str}{st:Stmt}{f:Addr}{fd:FuncData}{h:Heap}
def jQ{us:LU}(h:us.length=1):∃ a,us=[a]:=List.length_eq_one_iff.mp h
def ln2{us:LU}(h:us.length=2):∃ a b,us=[a,b]:=by
 cases us with
 | nil=>cases h
 | cons a r=>obtain⟨_,rfl⟩:=jQ (Nat.succ.inj h);exact⟨_,Z⟩
def vF{us:LU}(h:us.length=3):∃ a b c,us=[a,b,c]:=by
 cases us with
 | nil=>cases h
 | cons a r=>obtain⟨_,_,rfl⟩:=ln2 (Nat.succ.inj h);exact⟨_,_,Z⟩
def vD{us:LU}(h:us.length=4):∃ a b c d,us=[a,b,c,d]:=by
 cases us with
 | nil=>cases h
 | cons a r=>obtain⟨_,_,_,rfl⟩:=vF (Nat.succ.inj h);exact⟨_,_,_,Z⟩
def ln5{us:LU}(h:us.length=5):∃ a b c d e,us=[a,b,c,d,e]:=by
 cases us with
 | nil=>cases h
 | cons a r=>obtain⟨_,_,_,_,rfl⟩:=vD (Nat.succ.inj h);exact⟨_,_,_,_,Z⟩
def BY(a:Str)(F:Bu K x q st f fd)(e:∀(kV doc pm:Value) (an:Option Addr) (A5 ct u:Value),bindArgs (W.fnOf x q (Um st) (C4 st) (AJ st) .none kV doc pm an A5 ct) ⟨[u],[]⟩=pure ([a].zip [u]):=by intros;rfl):Cb K fd [a] [] :=
 F.binds λ_ _ _ _ _ _ us hl=>by
 obtain⟨_,rfl⟩:=jQ hl;exact e ..
def CJ(a b:Str)(F:Bu K x q st f fd)(e:∀(kV doc pm:Value) (an:Option Addr) (A5 ct u v:Value),bindArgs (W.fnOf x q (Um st) (C4 st) (AJ st) .none kV doc pm an A5 ct) ⟨[u,v],[]⟩=pure ([a,b].zip [u,v]):=by intros;rfl):Cb K fd [a,b] [] :=
 F.binds λ_ _ _ _ _ _ us hl=>by
 obtain⟨_,_,rfl⟩:=ln2 hl;exact e ..
def SY(a b c:Str)(F:Bu K x q st f fd)(e:∀(kV doc pm:Value) (an:Option Addr) (A5 ct u v w:Value),bindArgs (W.fnOf x q (Um st) (C4 st) (AJ st) .none kV doc pm an A5 ct) ⟨[u,v,w],[]⟩=pure ([a,b,c].zip [u,v,w]):=by intros;rfl):Cb K fd [a,b,c] [] :=
 F.binds λ_ _ _ _ _ _ us hl=>by
 obtain⟨_,_,_,rfl⟩:=vF hl;exact e ..
def eU(a b c d:Str)(F:Bu K x q st f fd)(e:∀(kV doc pm:Value) (an:Option Addr) (A5 ct u v w y:Value),bindArgs (W.fnOf x q (Um st) (C4 st) (AJ st) .none kV doc pm an A5 ct) ⟨[u,v,w,y],[]⟩=pure ([a,b,c,d].zip [u,v,w,y]):=by intros;rfl):Cb K fd [a,b,c,d] [] :=
 F.binds λ_ _ _ _ _ _ us hl=>by
 obtain⟨_,_,_,_,rfl⟩:=vD hl;exact e ..
def wC(a b c d g:Str)(F:Bu K x q st f fd)(e:∀(kV doc pm:Value) (an:Option Addr) (A5 ct u v w y z:Value),bindArgs (W.fnOf x q (Um st) (C4 st) (AJ st) .none kV doc pm an A5 ct) ⟨[u,v,w,y,z],[]⟩=pure ([a,b,c,d,g].zip [u,v,w,y,z]):=by intros;rfl):Cb K fd [a,b,c,d,g] [] :=
 F.binds λ_ _ _ _ _ _ us hl=>by
 obtain⟨_,_,_,_,_,rfl⟩:=ln5 hl;exact e ..
def df{ps:LS}(X:K.In h)(G:h.Ns mainGlobals mg)(T:Tp K x st f fd)(b:Cb K fd ps []):Def K mg x st ps f fd:=⟨T.fn,b,W.mg_of X G T.a⟩
theorem Tp.ex{x q:Str}(F:Bu K x q st f fd):∃(kV doc pm:Value) (an:Option Addr) (A5 ct:Value),fd=W.fnOf x q (Um st) (C4 st) (AJ st) .none kV doc pm an A5 ct:=by
 obtain⟨oc,od,kV,doc,pm,an,A5,ct,osl,e,_⟩:=F.ex;exact⟨kV,doc,pm,an,A5,ct,e⟩
end
abbrev cw:=St->Hp->(Str->Hp->Prop)->Prop
abbrev aG:=St->Hp->Str->(Str->Hp->Prop)->Prop
def nJ(X:Cx)(e:Expr)(t:cw):Prop:=∀(pins:PL) (s:Shared) (σ:St) (H:Hp) (Q:Str->Hp->Prop),Inv X pins σ H s->t σ H Q ->
 wpAny (model X.prog X.w) X.A (eval e X.env) (λu s'=>∃ y tk H',u=.str y tk/\y.length<=100000/\Inv X pins σ H' s'/\Q y H') X.xe s
def mO(X:Cx)(es:List Expr)(t:aG):Prop:=∀(pins:PL) (s:Shared) (σ:St) (H:Hp) (Q:Str->Hp->Prop) (acc:Str) (j:Nat),Inv X pins σ H s->acc.length<=100000 * j->j + es.length<=100->t σ H acc Q ->
 Joins (model X.prog X.w) X.A X.xe (evalEach es X.env) acc (λout s'=>∃ H',out.length<=10000000/\Inv X pins σ H' s'/\Q out H') s
section
variable {X:Cx}{e:Expr}{es:List Expr}{te:TE}{t:cw}{u:aG}{pos:Pos}
def Ybg(x:Str):cw:=λ_ H Q=>x.length<=100000/\Q x H
def jv{x j}:nJ X (.Constant (.str x) j pos) (Ybg x):=λ_ _ _ H _ I h=>Calls.Constant_str ⟨x,_,H,Y,h.1,I.tok _,h.2⟩
def Ybf(te:TE):cw:=λσ H Q=>te σ H λv H1=>∃ i:Int,v=.int i/\i.natAbs<2 ^ 64/\Q (Str.ofString (toString i)) H1
def Z7g(he:PE X e te):nJ X (.FormattedValue e (-1) none pos) (Ybf te):=by
 ac_rfl;refine wpAny_FormattedValue_plain (AN (he pins s σ H _ I h) λv s1 ⟨x,H1,I1,r1,i,ex,hi,q⟩=>?_);subst ex;obtain⟨t,rfl⟩:=r1;exact wpAny_formatField_int (wc hi) ⟨_,_,H1,Y,Z5a hi,I1.tok _,q⟩
def Ybc(te:TE):cw:=λσ H Q=>te σ H λv H1=>∃ x:Str,v=.str x/\x.length<=100000/\Q x H1
def qD(he:PE X e te):nJ X (.FormattedValue e (-1) none pos) (Ybc te):=by
 ac_rfl;refine wpAny_FormattedValue_plain (AN (he pins s σ H _ I h) λv s1 ⟨x,H1,I1,r1,y,ex,hi,q⟩=>?_);subst ex;obtain⟨t,rfl⟩:=r1;exact wpAny_formatField_str ⟨_,_,H1,Y,hi,I1,q⟩ ⟨_,_,H1,Y,hi,I1.tok _,q⟩ (B0 hi (by decide))
def Ybe:aG:=λ_ H acc Q=>Q acc H
def Ybd(t:cw)(u:aG):aG:=λσ H acc Q=>t σ H λy H1=>u σ H1 (acc++y) Q
def xF:mO X [] Ybe:=λpins s σ H Q acc j I ha hj h=>⟨H,by simp at hj;exact B0 ha (B0 (Nat.mul_le_mul_left _ hj) (by decide)),I,h⟩
def YJ(h1:nJ X e t)(h2:mO X es u):mO X (e :: es) (Ybd t u):=by
 intro pins s σ H Q acc j I ha hj h;show wpAny _ _ (eval e X.env) _ _ s;refine AN (h1 pins s σ H _ I h) λv s1 ⟨y,tk,H1,ev,hy,I1,q⟩=>?_;have hl:(acc++y).length<=100000 * (j + 1):=by rw[strLen_append];omega
 have hj':j + 1 + es.length<=100:=by simp at hj;omega
 refine⟨y,tk,ev,B0 hl (B0 (Nat.mul_le_mul_left _ (show j + 1<=100 by omega)) (by decide)),?_⟩;exact h2 pins s1 σ H1 Q _ (j + 1) I1 hl hj' q
def tGx(t:aG):TE:=λσ H Q=>t σ H Str.empty λx H1=>Q (.str x) H1
def yP{v1 v2:Expr}{Dd:List Expr}{t:aG}(h:mO X (v1 :: v2 :: Dd) t)(hl:(v1 :: v2 :: Dd).length<=100:=by decide):PE X (.JoinedStr (v1 :: v2 :: Dd) pos) (tGx t):=by
 intro pins s σ H Q I hq;apply wpAny_JoinedStr;have z:=h pins s σ H _ Str.empty 0 I (Ax _) (by simpa using hl) hq;have mono:∀(l:List (Sem Value)) (acc:Str) (P P':Str->Shared->Prop) (s:Shared),(∀ o s',P o s'->P' o s')->Joins (model X.prog X.w) X.A X.xe l acc P s->Joins (model X.prog X.w) X.A X.xe l acc P' s:=by
  intro l
  induction l with
  | nil=>intro acc P P' s f q;exact f _ _ q
  | cons a r ih =>
   intro acc P P' s f q;exact AN (show wpAny _ _ a _ _ s from q) λv s1 ⟨y,tk,e1,e2,e3⟩=>⟨y,tk,e1,e2,ih _ P P' s1 f e3⟩
 exact mono _ _ _ _ _ (λo s' ⟨H',l,I',q'⟩=>⟨B0 l (by decide),⟨.str o,H',I'.tok _,⟨Z⟩,q'⟩⟩) z
end
section
variable {X:Cx}
theorem xk:∀ {xs:LS}{its:LU},Ac (xs.map V.str) its->∃ l:List (Str×Tok),its=strValues l/\l.map (·.1)=xs
 | [],_,.nil=>⟨[],Y,Y⟩
 | x :: xs,_,.cons r t=>by
  obtain⟨l,e,e2⟩:=xk t;obtain⟨tk,rfl⟩:=r;exact⟨(x,tk):: l,by rw[e];rfl,by rw[Yz,e2]⟩
def Yag:V->LV->Hp->VK->Prop:=λx vs H Q=>∃ sep l xs B,x=.str sep/\vs=[.ref l]/\H l=some (.lst (xs.map V.str))/\(∀ y∈xs,y.length<=B)/\xs.length * B + xs.length * sep.length<=16777216/\Q (.str (Builtin.Str.glued sep xs)) H
def bZ:Xn X "str.join" Yag:=by
 intro pins s σ H x vs v us Q I rx rv h;obtain⟨sep,l,xs,B,rfl,rfl,hH,hB,hz,q⟩:=h;obtain⟨tk,rfl⟩:=rx;obtain⟨u,rfl,ru⟩:=rv.one;cases ru;obtain⟨z,its,n,r,hl,e⟩:=I.lstM hH;obtain⟨ps,rfl,e2⟩:=xk r;refine SC.join ⟨_,e,Y,Z⟩ e2 ?_ λt' k=>⟨.str _,H,I.tok _,⟨Z⟩,q⟩;unfold JoinOk;rw[StrLaws.joinFits hB hz];rfl
end
end L2
namespace PySem
open Builtin AutoSeq1
set_option maxRecDepth 8000 in
def Zkh(l:Addr)(items:Array Value)(n:Nat)(b:Addr)(Cu:Array Value)(n2:Nat)(dt:Option Addr)(sl:Array (OU))(vS:¬(!items.isEmpty&&Builtin.List.listTooLong (items.size + Cu.size))=true)(vR:items.size<=sizeLine)(Ca:items.size + Cu.size<=sizeLine + 1):
  Meets (Builtin.«list.extend» ⟨[.ref l,.ref b],[]⟩) (λ_ R s=>s.heap.get? l=some {cls:=.type "list",dict:=none,data:=.seq items n,slots:=#[] }/\s.heap.get? b=some {cls:=.type "tuple",dict:=dt,data:=.seq Cu n2,slots:=sl}/\R (.ok (.ret Value.none)) {s with heap:=s.heap.update l (Obj.mapSeq λx=>x++Cu),toks:=s.toks}):=
 .of_wp λprog w A R s h=>by
  obtain⟨hp,g,d,tk,os⟩:=s;obtain⟨hl,hb,h⟩:=h;have f1:=idx_int;have f2:=sub_tuple_tuple;have f3:=sub_list_list;have f4:=sub_tuple_list;have f5:=sub_list_tuple;have hz':(items++Cu).size<=sizeLine + 1:=by rw[Array.size_append];exact Ca
  wp_walk using(wpAny_updateSeq hl rfl (hz:=vR) (_hz':=hz')),wpAny_loadPart' hl,wpAny_loadPart' hb;exact⟨Z,h⟩
end PySem
namespace L2
open PySem PySem.Spec PyProof.Rows
section
variable {X:Cx}
def Yai(K:Fg):V->LV->Hp->VK->Prop:=λx vs H Q=>∃ l b xs zs,x=.ref l/\vs=[.ref b]/\H l=some (.lst xs)/\AH K H b zs/\xs.length + zs.length<=sizeLine/\Q .non (upd H l (.lst (xs++zs)))
def Z45:Xn X "list.extend" (Yai X.K):=by
 intro pins s σ H x vs v us Q I rx rv h;obtain⟨l,b,xs,zs,rfl,rfl,hH,hB,hz,q⟩:=h;cases rx;obtain⟨u,rfl,ru⟩:=rv.one;cases ru;obtain⟨z,its,n,r,hl,e⟩:=I.lstM hH;obtain⟨Bv,r2,⟨⟨cl,dt,dat,sl⟩,e2,X1,n2,hd2⟩,Ap⟩:=I.tuple hB;dsimp only at X1 hd2;subst X1 hd2;have l2:=r2.length;have hsz:its.toArray.size + Bv.toArray.size<=sizeLine:=by rw[Yn,Yn];omega
 have hlong:¬ (!its.toArray.isEmpty&&Builtin.List.listTooLong (its.toArray.size + Bv.toArray.size))=true:=by
  rw[yk hsz,Bool.and_false];exact Yq
 refine call_meets F.slot_list_extend ⟨_,e,Y⟩ F.entry_list_extend (F.args_list_extend_2 _ _)
  (Zkh l its.toArray n b Bv.toArray n2 dt sl hlong (by rw[Yn];omega) (by omega)) ⟨e,e2,?_⟩
 refine⟨.non,_,I.lset (its':=its++Bv) hH e (by simp) (r.append r2) ?_,Y,q⟩;rw[Yc];omega
def Z9o(K:Fg)(ta:TE):TE:=λσ H Q=>ta σ H λx H1=>∃ k,sf K x H1 k/\Q (.bl (!k)) H1
def xE{a:Expr}{ta:TE}{pos:Pos}(ha:PE X a ta):PE X (.UnaryOp .Not a pos) (Z9o X.K ta):=by
 ac_rfl;refine UnaryOp_ (AN (ha pins s σ H _ I h) λv s1 ⟨x,H1,I1,r1,k,ty,q⟩=>?_);exact not_of (AN (Z2s pins s1 σ H1 x v (λc H2=>Q (.bl (!c)) H2) I1 r1 ⟨k,ty,q⟩) λc s2 ⟨H2,I2,q2⟩=>⟨.bl (!c),H2,I2,Y,q2⟩)
end
end L2
namespace L2
open PySem PySem.Spec PyProof.Rows PySem.W
section
variable {X:Cx}
def Yeu(K:Fg)(f:Bool->Bool):R2:=λx y H Q=>∃ d e,Rep K H x d/\Rep K H y e/\(kqdP d).canLay0=true/\(kqdP e).canLay0=true/\(kqdP e).depth<=60/\Q (.bl (f (PyData.eqv (kqdP d) (kqdP e)))) H
def Z7p(hu:X.A.units + 64<cLine):BO X (compareOp .NotEq) (Yeu X.K Bool.not):=by
 exfalso;obtain⟨d,e,h1,h2,k1,k2,k3,q⟩:=h;obtain⟨as,ra⟩:=h1.reads I rx;obtain⟨bs,rb⟩:=h2.reads I ry;exact SeqAt.compareNe_reads ra rb k1 k2 (by have:=Nat.min_le_right (kqdP d).depth (kqdP e).depth;omega) (BL I q rfl)
end
end L2
namespace L2
open PySem PySem.Spec
section
variable {prog:Program}{w:World}{A:Around}{E:EV}{s:Shared}
end
end L2
namespace L2
open PySem PySem.Spec PyProof.Rows
section
variable {X:Cx}
end
section
variable {X:Cx}
def Yah:V->LV->Hp->VK->Prop:=λx vs H Q=>∃ a b:Str,x=.str a/\vs=[.str b]/\Q (.int (Txt.find a b)) H
def Z44:Xn X "str.find" Yah:=by
 intro pins s σ H x vs v us Q I rx rv h;obtain⟨a,b,rfl,rfl,q⟩:=h;obtain⟨tk,rfl⟩:=rx;obtain⟨u,rfl,ru⟩:=rv.one;obtain⟨tu,rfl⟩:=ru;exact SC.find ⟨.int _,H,I.tok _,⟨Z⟩,q⟩
def y7:UN X (.type "int") (λxs H Q=>∃(x:Str) (n:Int),xs=[.str x]/\PySem.intText? x=some n/\x.length<=640/\Q (.int n) H):=by
 intro pins s σ H xs us Q I r h;obtain⟨x,n,rfl,hn,hl,q⟩:=h;obtain⟨u,rfl,t,rfl⟩:=U7 r;exact W.KIN.call_text hn hl ⟨.int _,H,I.tok _,⟨Z⟩,q⟩
end
def Zt6(x:Str):strIterType x="str_ascii_iterator"\/strIterType x="str_iterator":=by
 unfold strIterType;split
 ·exact .inl rfl
 ·exact .inr rfl
def xN{h:Heap}{p:Addr}{ty:String}{x:Str}{t:Tok}{i:Nat}(st:h.IsStrIter p ty x t i):∃ o,h.get? p=some o/\∀ v,o.data≠.cell v:=by
 obtain⟨o,e,c,d⟩:=st;exact⟨o,e,λv z=>by rw[d]at z;cases z⟩
def Z25{h h':Heap}{p:Addr}{ty:String}{x:Str}{t:Tok}{i:Nat}(st:h.IsStrIter p ty x t i)(k:∀ o,h.get? p=some o->h'.get? p=some o):h'.IsStrIter p ty x t i:=by
 obtain⟨o,e,r⟩:=st;exact⟨o,k o e,r⟩
def Zt3{P:Program}{w:World}{K:Fg}{elts:List Expr}{x1}{pos:Pos}(x:Str)(t:Tok)(e p:Addr)(ty:String)(hty:ty="str_ascii_iterator"\/ty="str_iterator")(ep:e≠p):
  Tw P w K (.Tuple elts x1 pos) (UB (Sh (CP x)) λ_=>True) [e,p] e (λi h=>(∃ old,IsEnum h e p i old)/\h.IsStrIter p ty x t i) where
 mem:=by simp
 obj:=λi h st c hc=>by
  have BF:c=e\/c=p:=by simpa using hc
  obtain⟨⟨old,he⟩,si⟩:=st
  rcases BF with rfl | rfl
  ·exact⟨_,he,λv q=>by cases q⟩
  ·exact xN si
 keep:=λi h h' st k=>by
  obtain⟨⟨old,he⟩,si⟩:=st;exact⟨⟨old,k e (by simp) _ he⟩,Z25 si λo q=>k p (by simp) o q⟩
 item:=by
  intro X hP hw hK hc i pins s σ H E I hf st hg;subst hP hw hK;obtain⟨hi,_⟩:=hg;obtain⟨⟨old,he⟩,si⟩:=st;obtain⟨pr,hp⟩:∃ p,(Sh (CP x))[i]?=some p:=⟨(Sh (CP x))[i]'hi,Yb hi⟩;obtain⟨e1,hx⟩:=Zr hp;have hil:i<x.cps.size:=by rw[Wu]at hi;unfold CP at hi;rw[Ya,Y0]at hi;exact hi
  have fin:∀(D:Draws X.prog X.w X.A.in1 p [p] x.cps.size (λi v=>∃ c t',x.cps[i]?=some c/\v=.str ⟨#[c]⟩ t') (λi h=>h.IsStrIter p ty x t i)),wpAny (model X.prog X.w) X.A (pyNext (.ref e)) (λv s1=>∃ u,v=some u/\wpAny (model X.prog X.w) X.A (letOwnedTupleGo (.Tuple elts x1 pos) (.ref e) u) (λ_ s2=>∃ y H',Inv X pins σ H' s2/\Ah y u/\(UB (Sh (CP x)) λ_=>True).yld i H y H'/\((∃ old,IsEnum s2.heap e p (i + 1:Nat) old)/\s2.heap.IsStrIter p ty x t (i + 1))/\∀ b∈[e,p],H' b=none) E s1) E s:=λD=>by
   refine wpAny_pyNext_enum_itemD D he si hil ep (by simp;exact ep) λu g tk hPx ho hst hT _ hk=>?_;obtain⟨c,t',BF,rfl⟩:=hPx;refine⟨Z,?_⟩;refine wpAny_letOwnedTupleGo_enum (s:={s with heap:=g,toks:=tk + 1}) ho λg' dq sb=>?_;have elt:e<s.heap.objs.size:=Yk he;have plt:p<s.heap.objs.size:=let⟨o,q,_⟩:=xN si;Yk q;have CN:Heap.ExtBut e g g':=sb.extBut;have eB:IsPair g' s.heap.objs.size (.int i tk) (.str ⟨#[c]⟩ t'):=CN _ _ (Br elt) hT;have e2:pr.2=.str ⟨#[c]⟩:=by
    unfold CP at hx;rw[Yj,g0,BF]at hx;exact(Ym hx).symm
   have I1:Inv X pins σ (upd H s.heap.objs.size (.tup [pr.1,pr.2])) {s with heap:=g',toks:=tk + 1}:=I.turnedNewL (t':=tk + 1) (its:=[e,p]) (λc o hc q=>CN c o (λz=>hc (by simp[z])) (hk c o (λz=>hc (by simp[z])) (λz=>hc (by simp[z])) q)) hf (Yf _)
    ⟨U,[.int i tk,.str ⟨#[c]⟩ t'],.cons (by rw[e1];exact⟨tk,Y⟩) (.cons (by rw[e2];exact⟨t',Y⟩) .nil),⟨_,eB,Y,Z⟩⟩
   refine⟨.ref s.heap.objs.size,_,I1,Y,⟨s.heap.objs.size,pr,hp,I.hok.fresh (Yf _),Y,Y⟩,⟨⟨_,by simpa using dq⟩,Z25 hst λo q=>CN _ o (Ae ep) q⟩,λc hc=>?_⟩;have BF:c=e\/c=p:=by simpa using hc
   have ne:c≠s.heap.objs.size:=by
    rcases BF with rfl | rfl
    ·exact Yx elt
    ·exact Yx plt
   rw[AD ne];exact(hf c hc).1
  rcases hty with rfl | rfl
  ·exact fin (Draws.strAscii (A:=X.A.in1) (I.ok.hd hc) p x t)
  ·exact fin (Draws.strWide (A:=X.A.in1) (I.ok.hd hc) p x t)
 done:=by
  intro X hP hw hK hc i pins s σ H E I hf st hg;subst hP hw hK;obtain⟨hi,_⟩:=hg;obtain⟨⟨old,he⟩,si⟩:=st;rw[Wu]at hi;have hx:x.cps[i]?=none:=by
   unfold CP at hi;rw[Ya,Y0]at hi;simp[hi]
  rcases hty with rfl | rfl
  ·refine fq (I.ok.hd hc) he (λQ E hE=>wpAny_nextOf_ascii_end (I.ok.hd hc) si hx hE) λg eb=>⟨Y,I.turnedL (t':=s.toks) (its:=[e,p]) (λc o hc q=>eb c o (λz=>hc (by simp[z])) q) hf⟩
  ·refine fq (I.ok.hd hc) he (λQ E hE=>wpAny_nextOf_wide_end (I.ok.hd hc) si hx hE) λg eb=>⟨Y,I.turnedL (t':=s.toks) (its:=[e,p]) (λc o hc q=>eb c o (λz=>hc (by simp[z])) q) hf⟩
 self:=λA i s Q E st h=>let⟨⟨_,he⟩,_⟩:=st;wpAny_pyIter_enum he h
section
variable {X:Cx}
def Z8s(ta:TA):TI:=λσ H R=>ta σ H λvs H1=>∃ x:Str,vs=[.str x]/\R (UB (Sh (CP x)) λ_=>True) H1
def Z0w{elts:List Expr}{x1}{CF:Pos}{a:Expr}{ta:TA}{p pos:Pos}(hg:Gl X "enumerate")(hm:X.mg "enumerate"=none)(ha:PA X [a] ta)(hs:starEach [a] X.env=[(false,eval a X.env)]:=by rfl):
  PI X (.Tuple elts x1 CF) (.Call (.Name "enumerate" p) [a] [] pos) (Z8s ta):=by
 intro pins s σ H R I h;refine Call_ (UP I hg hm boot_enumerate (Vi (AN (ha pos pins s σ H _ I h) λus s1 ⟨vs,H1,I1,r1,q1⟩=>?_) hs rfl));obtain⟨x,e,q⟩:=q1;subst e;obtain⟨u,rfl,t,rfl⟩:=U7 r1;refine call_enumerate_str λg he si _ hk=>wpAny_pyIter_enum (s:={s1 with heap:=g}) he ?_;refine⟨_,[s1.heap.objs.size + 1,s1.heap.objs.size],_,_,H1,Y,I1.kept (t':=s1.toks) λb o e=>hk b o e,Zt3 x t _ _ _ (Zt6 x) (Nat.succ_ne_self _),⟨⟨_,he⟩,si⟩,λc hc=>?_,q⟩;have BF:c=s1.heap.objs.size + 1\/c=s1.heap.objs.size:=by simpa using hc
 have ge:s1.heap.objs.size<=c:=by
  rcases BF with rfl | rfl
  ·exact UZ _ _
  ·exact Yf _
 exact I1.fpOk ge (I1.hok.fresh ge)
end
end L2
namespace Md
open PySem L2
theorem yB(l:LN)(s:Nat):∀ m,s + m<=l.length->((List.range m).map λk=>s + k).filterMap (λi=>l.toArray[i]?)=(l.drop s).take m
 | 0,_=>by simp
 | m + 1,h=>by
  rw[List.range_succ,Ys,List.filterMap_append,yB l s m (by omega),Bt];have:s + m<l.length:=by omega
  simp[this]
def Z8q(s t n:Nat)(hst:s<=t):sliceRange (s:Int) (t:Int) 1=(List.range (t - s)).map λk=>s + k:=by
 unfold sliceRange;simp only[show(1:Int) > 0 by decide,if_true];have e:(if(s:Int)<(t:Int)then((t:Int) - (s:Int) + 1 - 1) / 1 else 0).toNat=t - s:=by
  split
  ·rw[Int.ediv_one];omega
  ·omega
 rw[e];refine aE λk _=>?_;omega
def qq{x:Str}{lo hi:Option Int}{s t:Nat}(h:Builtin.Str.strSliceIndices lo hi 1 x.length=sliceRange (s:Int) (t:Int) 1)(hst:s<=t)(ht:t<=x.length):(Txt.slice x lo hi).cps.toList=(x.cps.toList.drop s).take (t - s):=by
 unfold Txt.slice;rw[h,Z8q s t x.length hst];have hl:=Cm x;split
 ·rename_i hc
  have hc:t - s=x.length:=by simpa using hc
  have s0:s=0:=by omega
  rw[s0,List.drop_zero,W3 (by omega)]
 ·have q:=yB x.cps.toList s (t - s) (by omega);have e:x.cps.toList.toArray=x.cps:=by simp
  rw[e]at q;show(((List.range (t - s)).map λk=>s + k).filterMap (x.cps[·]?)).toArray.toList=_;rw[List.toList_toArray,q]
def yU(x:Str)(a b:Nat)(hab:a<=b)(hb:b<=x.length):(Txt.slice x (some (a:Int)) (some (b:Int))).cps.toList=(x.cps.toList.drop a).take (b - a):=by
 refine qq ?_ hab hb;unfold Builtin.Str.strSliceIndices;have h1:¬ (a:Int)<0:=by omega
 have h2:¬ (b:Int)<0:=by omega
 simp only[show(1:Int) > 0 by decide,if_true,if_neg h1,if_neg h2];have e1:max (0:Int) (min (a:Int) (x.length:Int))=(a:Int):=by omega
 have e2:max (0:Int) (min (b:Int) (x.length:Int))=(b:Int):=by omega
 rw[e1,e2]
def Zwt(x:Str)(a:Nat)(ha:a<=x.length):(Txt.slice x (some (a:Int)) (some ((a:Int) + 2))).cps.toList=(x.cps.toList.drop a).take 2:=by
 by_cases h:a + 2<=x.length
 ·have:=yU x a (a + 2) (by omega) h;rw[show((a + 2:Nat):Int)=(a:Int) + 2 by omega,show a + 2 - a=2 by omega]at this;exact this
 ·have e:(Txt.slice x (some (a:Int)) (some ((a:Int) + 2))).cps.toList=(x.cps.toList.drop a).take (x.length - a):=by
   refine qq (t:=x.length) ?_ ha (Yf _);unfold Builtin.Str.strSliceIndices;have h1:¬ (a:Int)<0:=by omega
   have h2:¬ (a:Int) + 2<0:=by omega
   simp only[show(1:Int) > 0 by decide,if_true,if_neg h1,if_neg h2];have e1:max (0:Int) (min (a:Int) (x.length:Int))=(a:Int):=by omega
   have e2:max (0:Int) (min ((a:Int) + 2) (x.length:Int))=(x.length:Int):=by omega
   rw[e1,e2]
  have hl:=Cm x;rw[e,W3 (by rw[W5];omega),W3 (by rw[W5];omega)]
def Zt8(x:Str)(a:Nat)(ha:a + 1<=x.length):(Txt.slice x (some (a:Int)) (some (-1))).cps.toList=(x.cps.toList.drop a).take (x.length - 1 - a):=by
 refine qq (t:=x.length - 1) ?_ (by omega) (by omega);unfold Builtin.Str.strSliceIndices;have h1:¬ (a:Int)<0:=by omega
 simp only[show(1:Int) > 0 by decide,if_true,if_neg h1,show(-1:Int)<0 by decide];have e1:max (0:Int) (min (a:Int) (x.length:Int))=(a:Int):=by omega
 have e2:max (0:Int) (min (-1 + (x.length:Int)) (x.length:Int))=((x.length - 1:Nat):Int):=by omega
 rw[e1,e2]
def ph{x:Str}{c i:Nat}:StrLaws.At x ⟨#[c]⟩ x.length i↔x.cps.toList[i]?=some c:=by
 unfold StrLaws.At;rw[StrLaws.subAt_eq,beq_iff_eq];have hl:=Cm x;show(i + 1<=x.length/\(x.cps.toList.drop i).take 1=[c])↔_;constructor
 ·rintro⟨h1,h2⟩;rw[aF (by omega),mm,Dz]at h2;injection h2 with h2;rw[Yb (by omega),h2]
 ·intro h;have hi:=(Yi.mp h).1;refine⟨W,?_⟩;rw[aF hi,mm,Dz];rw[Yb hi]at h;rw[Ym h]
def Z2a{x:Str}{pre post:LN}{c:Nat}(h:x.cps.toList=pre++c :: post)(hc:c∉pre):Txt.find x ⟨#[c]⟩=(pre.length:Int):=by
 have h0:x.cps.toList[pre.length]?=some c:=by rw[h,Xl (Yf _),Nat.sub_self];rfl
 rcases PyProof.Rows.find_whole x ⟨#[c]⟩with⟨_,hn⟩ | ⟨i,e,hi,hn⟩
 ·exact absurd (ph.mpr h0) (hn _)
 ·rw[e];have h1:=ph.mp hi;by_cases l1:i<pre.length
  ·rw[h,cY l1]at h1;exact absurd (Yd h1) hc
  ·by_cases l2:pre.length<i
   ·exact absurd (ph.mpr h0) (hn _ l2)
   ·rw[show i=pre.length by omega]
abbrev figures:Str:="0123456789"
def UO(c:Nat):Bool:=decide (48<=c/\c<=57)
def Z5n:figures.cps.toList=(List.range 10).map (48 + ·):=by rfl'
def Z80(c:Nat):(!(Builtin.Str.occurrences figures ⟨#[c]⟩ 0 figures.length 1).isEmpty)=UO c:=by
 rw[StrLaws.found_one,Z5n];unfold UO;rw[decide_eq_decide,Yg];constructor
 ·rintro⟨a,ha,rfl⟩;have:=VG.mp ha;omega
 ·intro h;exact⟨c - 48,VG.mpr (by omega),W⟩
def mY:V->V
 | .str y=>.bl (!(Builtin.Str.occurrences figures y 0 figures.length 1).isEmpty)
 | _=>.non
def Zww(x:Str):((CP x).filter λ_=>true).map mY=(x.cps.toList.map UO).map V.bl:=by
 rw[VH.mpr λ_ _=>rfl];unfold CP;rw[B9,B9];refine aE λc _=>?_;show V.bl _=V.bl _;rw[Z80]
def VW(n:Nat):LN:=(Nat.toDigits 10 n).map Char.toNat
def xx(n:Nat):(Str.ofString (toString ((n:Nat):Int))).cps.toList=VW n:=W.KIN.signs_num n
def YV(l:LN):Bool:=decide (1<=l.length/\l.length<=2)&&l.all UO&&(decide (l.length=1) || !decide (l.head?=some 48))
def Z2f:∀ n:Fin 100,YV (VW n)=true:=by rfl'
def Zve{x:Str}{n:Nat}(h:x.cps.toList=VW n)(hn:n<100):PySem.intText? x=some (n:Int):=by
 have e:x=Str.ofString (toString ((n:Nat):Int)):=Md.str_ext (by rw[h,xx]);rw[e];exact W.KIN.num_reads (by omega) (by omega)
def jn:List (LN)->LN
 | []=>[]
 | a :: r=>a++r.flatMap λb=>44 :: 32 :: b
def yF(xs:LS):(Builtin.Str.glued ", " xs).cps.toList=jn (xs.map λx=>x.cps.toList):=by
 cases xs with
 | nil=>rfl
 | cons x r =>
  show(r.foldl (λacc p=>acc++(", ":Str).cps++p.cps) x.cps).toList=_;have:∀(r:LS) (a:Array Nat),(r.foldl (λacc p=>acc++(", ":Str).cps++p.cps) a).toList=a.toList++(r.map λx=>x.cps.toList).flatMap λb=>44 :: 32 :: b:=λr=>by
   induction r with
   | nil=>intro a;simp
   | cons y r ih =>
    intro a;rw[List.foldl_cons,ih,mn,mn,Yz,W6];have e:(", ":Str).cps.toList=[44,32]:=by rfl'
    rw[e];simp
  rw[this];rfl
end Md
namespace L2
open PySem PySem.Spec PyProof.Rows
theorem zd:∀(l:List (Str×Tok)),Ac ((l.map (·.1)).map V.str) (strValues l)
 | []=>.nil
 | (x,t):: l=>.cons ⟨t,Y⟩ (zd l)
section
variable {prog:Program}{w:World}{A:Around}{E:EV}{s:Shared}{x y:Str}{t u:Tok}
def Z0b{Q:EV}(hy:(y.length == 0)=false)(hx:x.length<=sizeLine)(hn:(Txt.split x y).length<=sizeLine)
  (q:∀(l:List (Str×Tok)) (tk:Nat),l.map (·.1)=Txt.split x y->Q (.ref s.heap.objs.size) {s with heap:=s.heap.push {cls:=.type "list",data:=.seq (strValues l).toArray},toks:=tk}):
  wpAny (model prog w) A (call (.builtin "str.split") [.str x t,.str y u]) Q E s:=by
 unfold Txt.split at hn q;by_cases c:(decide (x.length<y.length) || decide (Builtin.Str.strKind x<Builtin.Str.strKind y))=true
 ·rw[if_pos c]at q;exact call_meets F.slot_str_split (typeIs_str _ _ _) F.entry_str_split (F.args_str_split_2 _ _) (meets_str_split_cannot_occur x y t u c) (q [(x,t)] s.toks rfl)
 ·rw[if_neg c]at q hn;have c:=eq_false_of_ne_true c;by_cases f:(Builtin.Str.occurrences x y 0 x.length (x.length + 1)).isEmpty=true
  ·rw[if_pos f]at q;exact call_meets F.slot_str_split (typeIs_str _ _ _) F.entry_str_split (F.args_str_split_2 _ _) (meets_str_split_not_found x y t u c hy f) (q [(x,t)] s.toks rfl)
  ·rw[if_neg f]at q hn;refine call_meets F.slot_str_split (typeIs_str _ _ _) F.entry_str_split (F.args_str_split_2 _ _) (meets_str_split_sep x y t u c hy (eq_false_of_ne_true f) hx hn) ?_;have z:=q (numbered s.toks (Builtin.Str.partsBetween x (Builtin.Str.occurrences x y 0 x.length (x.length + 1)) y.length)) (s.toks + (Builtin.Str.partsBetween x (Builtin.Str.occurrences x y 0 x.length (x.length + 1)) y.length).length) (numbered_texts _ _);rw[<- strsFrom_eq]at z;exact z
end
section
variable {X:Cx}
def Z7d:V->LV->Hp->VK->Prop:=λx vs H Q=>∃ a b:Str,x=.str a/\vs=[.str b]/\(b.length == 0)=false/\a.length<=sizeLine/\(Txt.split a b).length<=sizeLine/\∀ p,H p=none->Q (.ref p) (upd H p (.lst ((Txt.split a b).map V.str)))
def yi:Xn X "str.split" Z7d:=by
 intro pins s σ H x vs v us Q I rx rv h;obtain⟨a,b,rfl,rfl,hb,ha,hn,q⟩:=h;obtain⟨tk,rfl⟩:=rx;obtain⟨u,rfl,ru⟩:=rv.one;obtain⟨tu,rfl⟩:=ru;refine Z0b hb ha hn λl tk' e=>?_;have hf:H s.heap.objs.size=none:=I.hok.fresh (Yf _);refine⟨.ref s.heap.objs.size,upd H s.heap.objs.size (.lst ((Txt.split a b).map V.str)),I.laid (t':=tk') (λb u e=>Ye _ e) (Yf _) ?_,Y,q _ hf⟩;rw[<- e];exact⟨by rw[Ya,e];exact hn,_,0,zd l,Yp _ rfl⟩
end
end L2
namespace Md
open PySem L2
abbrev sgn(c:Nat):Str:=⟨#[c]⟩
theorem Z3s{c:Nat}:∀ {x y A B:LN},c∉x->c∉y->x++c :: A=y++c :: B->x=y/\A=B
 | [],[],_,_,_,_,h=>⟨Y,by simpa using h⟩
 | [],b :: y,_,_,_,hy,h=>by
  rw[h7,hV,List.cons.injEq]at h;exact absurd (by rw[h.1];exact Yy) hy
 | a :: x,[],_,_,hx,_,h=>by
  rw[h7,hV,List.cons.injEq]at h;exact absurd (by rw[<- h.1];exact Yy) hx
 | a :: x,b :: y,A,B,hx,hy,h=>by
  rw[hV,hV,List.cons.injEq]at h;obtain⟨e,h⟩:=h;obtain⟨e1,e2⟩:=Z3s (λz=>hx (Yr _ z)) (λz=>hy (Yr _ z)) h;exact⟨by rw[e,e1],e2⟩
def wN(a b:Str):(a++b).cps.toList=a.cps.toList++b.cps.toList:=mn
def gD(c:Nat)(x y:Str)(r:LS):(Str.join (sgn c) (x :: y :: r)).cps.toList=x.cps.toList++c :: (Str.join (sgn c) (y :: r)).cps.toList:=by
 show(x++sgn c++Str.join (sgn c) (y :: r)).cps.toList=_;rw[wN,wN,LO];rfl
def Z2x{x y:Str}(h:x.cps.toList=y.cps.toList):x=y:=by
 cases x;cases y;exact congrArg Str.mk (Array.toList_inj.mp h)
theorem yI{c:Nat}:∀ {xs ys:LS},xs≠[]->ys≠[]->(∀ p∈xs,c∉p.cps.toList)->(∀ p∈ys,c∉p.cps.toList)->Str.join (sgn c) xs=Str.join (sgn c) ys->xs=ys
 | [],_,h,_,_,_,_=>absurd rfl h
 | _ :: _,[],_,h,_,_,_=>absurd rfl h
 | [x],[y],_,_,_,_,h=>congrArg (λz=>[z]) (show x=y from h)
 | [x],y :: y2 :: r,_,_,hx,_,h=>by
  have h:=congrArg (λz:Str=>z.cps.toList) h
  try dsimp only at h
  rw[gD]at h;exact absurd (show c∈x.cps.toList by rw[show x.cps.toList=_ from h];simp) (hx x Yy)
 | x :: x2 :: r,[y],_,_,_,hy,h=>by
  have h:=congrArg (λz:Str=>z.cps.toList) h
  try dsimp only at h
  rw[gD]at h;exact absurd (show c∈y.cps.toList by rw[show y.cps.toList=_ from h.symm];simp) (hy y Yy)
 | x :: x2 :: r,y :: y2 :: r',_,_,hx,hy,h=>by
  have h:=congrArg (λz:Str=>z.cps.toList) h
  try dsimp only at h
  rw[gD,gD]at h;obtain⟨e1,e2⟩:=Z3s (hx x Yy) (hy y Yy) h;rw[Z2x e1,yI (g9 _ _) (g9 _ _) (λp h=>hx p (Yr _ h)) (λp h=>hy p (Yr _ h)) (Z2x e2)]
def Zky{c:Nat}{xs:LS}(h:xs≠[])(hf:∀ p∈xs,c∉p.cps.toList):Txt.split (Builtin.Str.glued (sgn c) xs) (sgn c)=xs:=by
 refine yI (c:=c) ?_ h (StrLaws.split_free _ _) hf ?_
 ·intro z;have:=PyProof.Rows.split_pos (Builtin.Str.glued (sgn c) xs) (sgn c);rw[z]at this;exact absurd this (by decide)
 ·rw[StrLaws.join_split,StrLaws.glued_eq_join]
end Md
namespace L2
open PySem PySem.Spec PyProof.Rows
def Z0i(a b:Value):checkTypeCall "enumerate" ⟨[a],[("start",b)]⟩=pure ():=by kernel_rfl
def Z1r(a b:Value):checkBuiltinCall "enumerate.__new__" ⟨[.type "enumerate",a],[("start",b)]⟩=pure ():=by kernel_rfl
def Z1m(o a b:Value):argsOk "object.__init__" ⟨[o,a],[("start",b)]⟩:=by
 unfold argsOk
 kernel_rfl
def Zrq(l:Addr)(us:Array Value)(tk:Tok):Meets (Builtin.«enumerate.__new__» ⟨[.type "enumerate",.ref l],[("start",.int 1 tk)]⟩) (λ_ R s=>s.heap.IsList l us /\
   R (.ok (.ret (.ref (s.heap.push {cls:=.type "list_iterator",data:=.fields #[.ref l,.int 0 0] }).objs.size)))
    {s with heap:=(s.heap.push {cls:=.type "list_iterator",data:=.fields #[.ref l,.int 0 0] }).push {cls:=.type "enumerate",data:=.fields #[.none,.bool false,.ref s.heap.objs.size,rawInt 1,.none,.none] } }):=
 .of_wp λprog w A R s h=>by
  obtain⟨hp,g,d,tk,os⟩:=s;obtain⟨ht,h⟩:=h;have hsub:=sub_enumerate;obtain⟨⟨c,dct,dt,sl⟩,hl,hc,n,hd⟩:=id ht;replace hc:c=.type "list":=hc;replace hd:dt=.seq us n:=hd;subst hc hd;have hT:Heap.IsList (Shared.heap ⟨hp,g,d,tk,os⟩) l us:=ht
  wp_walk using YY hl
  refine wpAny_stack_any λst=>Jd ?_;split
  ·rename_i c _ _ _ _ _
   cases(c == Value.type "enumerate")
   ·wp_walk using YY hl,wpAny_pyIter_list hT
    exact⟨Z,h⟩
   ·wp_walk using YY hl,wpAny_pyIter_list hT
    exact⟨Z,h⟩
  ·wp_walk using YY hl,wpAny_pyIter_list hT
   exact⟨Z,h⟩
section
variable {prog:Program}{w:World}{A:Around}{E:EV}{s:Shared}
def Yar{T nw:String}{o a:Value}{kw:List (Str×Value)}(hl:typeLookup (.type T) "__init__"=pure (some (.builtin "object.__init__")))(hm:Bind.madeBy (.type T)=pure (some nw))(BJ:(some nw != some "object.__new__")=true):
  Meets (Builtin.«object.__init__» ⟨[o,a],kw⟩) (λ_ R s=>s.TypeIs o T/\R (.ok (.ret .none)) s):=
 .of_wp λprog w A R s hs=>by
  obtain⟨hT,hq⟩:=hs
  repeat any_goals first | assumption | wp_step
  exact⟨Z,hq⟩
def Zvi{T nw:String}{B:Builtin}{a:Value}{kw:List (Str×Value)}{S:PySem.Spec}{Q:EV}(ft:TypeCalled T nw "object.__init__")(BJ:(some nw != some "object.__new__")=true)
  (ct:checkTypeCall T ⟨[a],kw⟩=pure ()) (cn:checkBuiltinCall nw ⟨[.type T,a],kw⟩=pure ()) (ok:∀ o,argsOk "object.__init__" ⟨[o,a],kw⟩) (en:entryFor table nw=some B) (g:Meets (B ⟨[.type T,a],kw⟩) S)
  (h:S A.in1 (wants (λo s1=>s1.TypeIs o T/\Q o s1) E) s):wpAny (model prog w) A (call (.type T) [a] kw) Q E s:=by
 obtain⟨c,tl,mro⟩:=ft.mro;have md:=ft.made;have sb:=ft.sub;refine wpAny_call (codeAny_of_tree ?_);show wpAny _ _ (callAny (.type T) _) _ _ _;refine Jd ⟨Code.quiet_builtin _ (by rfl'),codeAny_builtin PySem.F.entry_type_call ?_⟩;rw[Around.under_plain (weight_type_call_type T [a] kw) (units_type_call_type T [a] kw)];have n1:=ft.notType;have n2:=ft.canCreate
 repeat any_goals first | assumption | wp_step
 refine codeAny_mono (codeAny_call_builtin ft.plain en (wpAny_of_eq cn (g prog w A.in1 _ s h))) λr s1 hr=>?_;cases r with
 | error e=>exact hr
 | ok fl =>
  cases fl with
  | ret o =>
   obtain⟨hT,hq⟩:=hr;have li:=ft.init.lookup;have bi:=ft.init.bind o
   repeat any_goals first | assumption | wp_step
   refine codeAny_mono (codeAny_call_builtin ft.init.plain PySem.F.entry_object_init (ft.init.check _ _ _ _ _ _ _ _ hT (ok o) (Yar li md BJ prog w A.in1 (wants (λr s2=>r=.none/\Q o s2) E) s1 ⟨hT,Y,hq⟩))) λr2 s2 B6=>?_;cases r2 with
   | error e=>exact B6
   | ok f2 =>
    cases f2 with
    | ret r =>
     obtain⟨rfl,q⟩:=B6
     repeat any_goals first | assumption | wp_step
    | _=>exact B6.elim
  | _=>exact hr.elim
def Zvj{l:Addr}{us:Array Value}{tk:Tok}{Q:EV}(hl:s.heap.IsList l us)
  (q:∀ g,IsEnum g (s.heap.objs.size + 1) s.heap.objs.size 1 .none->V7 true g s.heap.objs.size l 0->(∀ c o,s.heap.get? c=some o->g.get? c=some o)->Q (.ref (s.heap.objs.size + 1)) {s with heap:=g}):
  wpAny (model prog w) A (call (.type "enumerate") [.ref l] [("start",.int 1 tk)]) Q E s:=by
 refine Zvi PySem.F.called_enumerate (by decide) (Z0i _ _) (Z1r _ _) (λo=>Z1m o _ _) PySem.F.entry_enumerate_new (Zrq l us tk) ⟨hl,?_⟩;have n1:(s.heap.push {cls:=.type "list_iterator",data:=.fields #[.ref l,.int 0 0] }).objs.size=s.heap.objs.size + 1:=Wy ..;show _/\_;rw[n1];have he:IsEnum ((s.heap.push {cls:=.type "list_iterator",data:=.fields #[.ref l,.int 0 0] }).push {cls:=.type "enumerate",data:=.fields #[.none,.bool false,.ref s.heap.objs.size,rawInt 1,.none,.none] }) (s.heap.objs.size + 1) s.heap.objs.size 1 .none:=by
  have:=Yp (s.heap.push {cls:=.type "list_iterator",data:=.fields #[.ref l,.int 0 0] }) (o:={cls:=.type "enumerate",data:=.fields #[.none,.bool false,.ref s.heap.objs.size,rawInt 1,.none,.none] }) rfl;rw[n1]at this;exact this
 exact⟨⟨_,he,Y⟩,q _ he ⟨_,Ye _ (Yp _ rfl),Y,Y⟩ λc o x=>Ye _ (Ye _ x)⟩
end
def Z2e{prog:Program}{w:World}{A:Around}{p:Addr}{fp:List Addr}{n:Nat}{P:Nat->Value->Prop}{St:Nat->Heap->Prop}(D:Draws prog w A p fp n P St):
  Draws prog w A p fp (n + 1) (λj v=>P (j - 1) v) (λj h=>1<=j/\St (j - 1) h) where
 live:=λ_ _ st=>D.live _ _ st.2
 frame:=λ_ _ _ st hk=>⟨st.1,D.frame _ _ _ st.2 hk⟩
 item:=λi s Q E hi st q=>by
  obtain⟨h1,st⟩:=st;refine D.item (i - 1) s Q E (by omega) st λx g tk px BC sb=>q x g tk px ⟨W,?_⟩ sb;rw[show i + 1 - 1=i - 1 + 1 by omega];exact BC
 done:=λs Q E st q=>D.done s Q E st.2 q
def Ze(xs:LV):List (V×V):=(DG 1 xs.length).zip xs
def rX(xs:LV):(Ze xs).length=xs.length:=by
 unfold Ze;rw[Z7,Cq,Nat.min_self]
def Zm3{xs:LV}{i:Nat}{p:V×V}(h:(Ze xs)[i]?=some p):p.1=.int ((i + 1:Nat):Int)/\xs[i]?=some p.2:=by
 obtain⟨h1,h2⟩:=gI h;obtain⟨_,e⟩:=Dw h1;exact⟨by rw[e,Int.natCast_add,Int.add_comm];rfl,h2⟩
def Zt4{P:Program}{w:World}{K:Fg}{elts:List Expr}{x1}{pos:Pos}{xs:LV}(a e p:Addr)(ep:e≠p)(ea:e≠a)(ap:a≠p):
  Tw P w K (.Tuple elts x1 pos) (UB (Ze xs) λH=>SqL K H a xs) [e,p] e (λi h=>(∃ old,IsEnum h e p ((i + 1:Nat):Int) old)/\h.IsListIter p a i) where
 mem:=by simp
 obj:=λi h st c hc=>by
  have BF:c=e\/c=p:=by simpa using hc
  obtain⟨⟨old,he⟩,si⟩:=st
  rcases BF with rfl | rfl
  ·exact⟨_,he,λv q=>by cases q⟩
  ·exact V7.obj (b:=true) si
 keep:=λi h h' st k=>by
  obtain⟨⟨old,he⟩,si⟩:=st;exact⟨⟨old,k e (by simp) _ he⟩,si.at λo q=>k p (by simp) o q⟩
 item:=by
  intro X hP hw hK hc i pins s σ H E I hf st hg;subst hP hw hK;obtain⟨hi,ha⟩:=hg;obtain⟨⟨old,he⟩,si⟩:=st;obtain⟨pr,hp⟩:∃ p,(Ze xs)[i]?=some p:=⟨(Ze xs)[i]'hi,Yb hi⟩;obtain⟨e1,hx⟩:=Zm3 hp;obtain⟨its,rv,pl,_⟩:=I.list ha;have sq:=pl.isList;obtain⟨u,hu,ru⟩:=rv.get hx;have hil:i<its.toArray.size:=by rw[rX]at hi;have:=rv.length;simp;omega
  have D:=Z2e (Draws.list (prog:=X.prog) (w:=X.w) (A:=X.A.in1) (I.ok.hd hc) p a ap its.toArray);refine wpAny_pyNext_enum_itemD D he ⟨W,si,sq⟩ (by omega) ep (by simp;exact⟨ep,ea⟩) λx g tk hPx ho hst hT _ hk=>?_;have exu:x=u:=by
   have h1:its.toArray[i]?=some x:=hPx;have h2:its.toArray[i]?=some u:=by simpa using hu
   rw[h1]at h2;exact Ym h2
  subst exu;refine⟨Z,?_⟩;refine wpAny_letOwnedTupleGo_enum (s:={s with heap:=g,toks:=tk + 1}) ho λg' dq sb=>?_;have elt:e<s.heap.objs.size:=Yk he;have plt:p<s.heap.objs.size:=by
   obtain⟨o,q,_⟩:=V7.obj (b:=true) si;exact Yk q
  have CN:Heap.ExtBut e g g':=sb.extBut;have eB:IsPair g' s.heap.objs.size (.int ((i + 1:Nat):Int) tk) x:=CN _ _ (Br elt) hT;have I1:Inv X pins σ (upd H s.heap.objs.size (.tup [pr.1,pr.2])) {s with heap:=g',toks:=tk + 1}:=I.turnedNewL (t':=tk + 1) (its:=[e,p]) (λc o hc q=>CN c o (λz=>hc (by simp[z])) (hk c o (λz=>hc (by simp[z])) (λz=>hc (by simp[z])) q)) hf (Yf _)
   ⟨U,[.int ((i + 1:Nat):Int) tk,x],.cons (by rw[e1];exact⟨tk,Y⟩) (.cons ru .nil),⟨_,eB,Y,Z⟩⟩
  refine⟨.ref s.heap.objs.size,_,I1,Y,⟨s.heap.objs.size,pr,hp,I.hok.fresh (Yf _),Y,Y⟩,⟨⟨x,by simpa using dq⟩,hst.2.1.at λo q=>CN _ o (Ae ep) q⟩,λc hc=>?_⟩;have BF:c=e\/c=p:=by simpa using hc
  have ne:c≠s.heap.objs.size:=by
   rcases BF with rfl | rfl
   ·exact Yx elt
   ·exact Yx plt
  rw[AD ne];exact(hf c hc).1
 done:=by
  intro X hP hw hK hc i pins s σ H E I hf st hg;subst hP hw hK;obtain⟨hi,ha⟩:=hg;obtain⟨⟨old,he⟩,si⟩:=st;obtain⟨its,rv,pl,_⟩:=I.list ha;have hl:=rv.length;rw[rX]at hi;refine fq (I.ok.hd hc) he (λQ E hE=>wpAny_nextOf_list_end (I.ok.hd hc) si pl.isList (by simp;omega) hE) λg eb=>⟨Y,I.turnedL (t':=s.toks) (its:=[e,p]) (λc o hc q=>eb c o (λz=>hc (by simp[z])) q) hf⟩
 self:=λA i s Q E st h=>by
  obtain⟨⟨_,he⟩,_⟩:=st;exact wpAny_pyIter_enum he h
section
variable {M:Model}{A:Around}{E:EV}{s:Shared}{env:Env}
def Z2k{pos:Pos}{T:String}{e:Expr}{kws:List Keyword}{Q:EV}
  (h:wpAny M A (spliced (backTo pos (starEach [e] env))) (λvs s1=>wpAny M A (evalAll ((backToKw pos (keywordEach kws env)).map (·.2))) (λks s2=>wpAny M A (call (.type T) vs (((backToKw pos (keywordEach kws env)).filterMap (·.1)).zip ks)) Q E s2) E s1) E s)
  (he:backTo pos (starEach [e] env)=[(false,eval e env)]:=by rfl) (ha:(backToKw pos (keywordEach kws env)).all (·.1.isSome)=true:=by rfl) (hk:(backToKw pos (keywordEach kws env)).any (·.1.isNone)=false:=by rfl):
  wpAny M A (callWith pos (.type T) [] (backTo pos (starEach [e] env)) (backToKw pos (keywordEach kws env))) Q E s:=by
 unfold callWith;rw[he]at h ⊢;refine Ja (Jj (Jf (evalArgs_kwB (Q:=λa s1=>wpAny M A (call (.type T) ([]++a.pos) a.kw) Q E s1) ha h) (λa s1 h1=>Ja (wpAny_standAt ?_)) λ_ _ x=>x));simp only[hk,Bool.or_false];refine Ja (Jd ?_);exact Ja (Jf h1 (λr s2 hr=>Ja (Jj (wpAny_point (Jd hr)))) λ_ _ z=>z)
end
section
variable {X:Cx}
def Z8t(K:Fg)(ta:TA):TI:=λσ H R=>ta σ H λvs H1=>∃(a:Addr) (xs:LV),vs=[.ref a]/\SqL K H1 a xs/\R (UB (Ze xs) λH=>SqL K H a xs) H1
def Z0x{elts:List Expr}{x1}{CF:Pos}{a:Expr}{ta:TA}{p pos cp kp:Pos}{j}(hg:Gl X "enumerate")(hm:X.mg "enumerate"=none)(ha:PA X [a] ta)(hs:starEach [a] X.env=[(false,eval a X.env)]:=by rfl):
  PI X (.Tuple elts x1 CF) (.Call (.Name "enumerate" p) [a] [⟨some "start",.Constant (.int 1) j cp,kp⟩] pos) (Z8t X.K ta):=by
 intro pins s σ H R I h;refine wpAny_Call_Name_kw (UP I hg hm boot_enumerate ?_);refine Z2k ?_ (by rw[hs];rfl);refine AN (ha pos pins s σ H _ I h) λus s1 q1=>?_;obtain⟨vs,H1,I1,r1,l,xs,rfl,t1,q⟩:=q1;cases r1 with
 | cons r rr =>
  cases rr;obtain rfl:_=Value.ref l:=r;refine kws_cons (wpAny_Constant_int (kws_nil ?_));have I2:Inv X pins σ H1 {s1 with toks:=s1.toks + 1}:=I1.tok _;obtain⟨its,rv,pl,_⟩:=I2.list t1;have sq:=pl.isList;have VO:l<s1.heap.objs.size:=by
   obtain⟨_,e,_⟩:=sq;exact Yk e
  refine Zvj sq λg he si hk=>wpAny_pyIter_enum (s:={s1 with heap:=g,toks:=s1.toks + 1}) he ?_;refine⟨_,[s1.heap.objs.size + 1,s1.heap.objs.size],_,_,H1,Y,I2.kept (t':=s1.toks + 1) λb o e=>hk b o e,Zt4 l _ _ (Nat.succ_ne_self _) (Br (Nat.lt_succ_of_lt VO)) (Yx VO),⟨⟨_,he⟩,si⟩,λc hc=>?_,q⟩;have BF:c=s1.heap.objs.size + 1\/c=s1.heap.objs.size:=by simpa using hc
  have ge:s1.heap.objs.size<=c:=by
   rcases BF with rfl | rfl
   ·exact UZ _ _
   ·exact Yf _
  exact I1.fpOk ge (I1.hok.fresh ge)
end
theorem Yda:∀ {xs:LS}{its:LU},Ac (xs.map V.str) its->StrsAre its xs
 | [],_,.nil=>.nil
 | x :: xs,_,.cons r t=>by
  obtain⟨tk,rfl⟩:=r;exact .cons _ _ (Yda t)
section
variable {X:Cx}
def Z7e(K:Fg):V->LV->Hp->VK->Prop:=λx vs H Q=>∃ sep a xs B,x=.str sep/\vs=[.ref a]/\AH K H a (xs.map V.str)/\(∀ y∈xs,y.length<=B)/\xs.length * B + xs.length * sep.length<=16777216/\Q (.str (Builtin.Str.glued sep xs)) H
def yg:Xn X "str.join" (Z7e X.K):=by
 intro pins s σ H x vs v us Q I rx rv h;obtain⟨sep,a,xs,B,rfl,rfl,hH,hB,hz,q⟩:=h;obtain⟨tk,rfl⟩:=rx;obtain⟨u,rfl,ru⟩:=rv.one;cases ru;obtain⟨its,r,ht,_⟩:=I.tuple hH;refine PyProof.Rows.join_tuple ht (Yda r) ?_ λt' k=>⟨.str _,H,I.tok _,⟨Z⟩,q⟩;have:∀ l:LS,(∀ y∈l,y.length<=B)->(l.map (·.length)).sum<=l.length * B:=λl=>by
  induction l with
  | nil=>intro _;exact Ax _
  | cons z r ih =>
   intro hl;have h1:=hl z Yy;have h2:=ih λy hy=>hl y (Yr _ hy);rw[Yz,List.sum_cons,Yt,Nat.succ_mul];omega
 have:=this xs hB;omega
end
end L2
namespace aI
open PySem L2
variable {P:Program}{w:World}{K:Fg}{mg:Str->OU}{base:Heap}
def top(i:Nat):Stmt:=PySem.Challenge.pw_manydeeds_k97_whole_books_through_texts.main.body.getD i (.Pass ⟨0,0,0,0⟩)
abbrev YR:Stmt:=top 17
abbrev mC:Stmt:=top 18
abbrev rl:Stmt:=T8 (top 19) 0
abbrev l_:Stmt:=T8 (top 19) 1
abbrev mI:Stmt:=T8 (top 19) 2
abbrev l9:Stmt:=T8 (top 19) 3
abbrev Ww:Stmt:=top 25
abbrev lj:Stmt:=top 26
abbrev lN:Stmt:=top 27
abbrev cN:Stmt:=top 28
abbrev b9:Stmt:=top 29
abbrev lO:Stmt:=top 30
abbrev lL:Stmt:=top 31
abbrev rm:Stmt:=T8 (top 32) 0
abbrev lJ:Stmt:=T8 (top 32) 1
abbrev cM:Stmt:=T8 (top 32) 2
abbrev gY:Stmt:=T8 (top 32) 4
abbrev mB:Stmt:=T8 (top 32) 6
abbrev mD:Stmt:=top 35
abbrev gq:Stmt:=T8 (top 36) 0
abbrev mM:Stmt:=T8 (top 36) 1
abbrev lW:Stmt:=T8 (top 36) 2
abbrev lZ:Stmt:=T8 (top 36) 3
abbrev lV:Stmt:=T8 (top 36) 4
abbrev lX:Stmt:=T8 (top 36) 5
abbrev lY:Stmt:=T8 (top 36) 6
abbrev cH:Stmt:=top 39
abbrev mG:Stmt:=top 40
abbrev mH:Stmt:=top 41
abbrev mF:Stmt:=top 42
abbrev kq:Stmt:=top 43
abbrev kr:Stmt:=top 44
abbrev km:Stmt:=top 45
abbrev lg:Stmt:=top 47
abbrev bw:Stmt:=top 48
abbrev gP:Stmt:=top 49
abbrev cL:Stmt:=top 50
abbrev mK:Stmt:=top 51
abbrev kf:Stmt:=top 52
abbrev kg:Stmt:=top 53
abbrev jx:Stmt:=top 54
abbrev cA:Stmt:=top 59
abbrev k7:Stmt:=top 60
abbrev gS:Stmt:=top 61
abbrev ky:Stmt:=top 62
abbrev gW:Stmt:=top 63
abbrev mJ:Stmt:=top 64
abbrev ko:Stmt:=top 65
abbrev l7:Stmt:=top 66
abbrev k_:Stmt:=top 67
abbrev lA:Stmt:=top 68
abbrev mZ:Stmt:=top 69
abbrev kz:Stmt:=top 72
abbrev ku:Stmt:=top 73
abbrev cI:Stmt:=top 74
abbrev lM:Stmt:=top 75
abbrev mE:Stmt:=top 76
abbrev lR:Stmt:=top 77
abbrev lB:Stmt:=top 78
abbrev lP:Stmt:=top 79
abbrev gj:Stmt:=top 80
abbrev gg:Stmt:=top 81
abbrev cO:Stmt:=top 82
abbrev gi:Stmt:=top 83
abbrev lQ:Stmt:=top 84
abbrev lI:Stmt:=top 86
abbrev V3:Stmt:=top 87
abbrev cJ:Stmt:=top 88
abbrev VF:Stmt:=top 89
abbrev la:Stmt:=top 90
abbrev Zx:Stmt:=top 91
abbrev cG:Stmt:=top 92
abbrev gZ:Stmt:=top 93
abbrev cD:Stmt:=top 94
abbrev gm:Stmt:=top 95
abbrev cK:Stmt:=top 96
abbrev lK:Stmt:=top 97
abbrev cE:Stmt:=top 98
abbrev mL:Stmt:=top 99
abbrev gh:Stmt:=top 100
abbrev gr:Stmt:=top 101
abbrev cC:Stmt:=top 102
abbrev Zv:Stmt:=top 103
abbrev ef:Stmt:=top 104
end aI
namespace aI
open PySem L2 Md
variable {P:Program}{w:World}{K:Fg}{mg:Str->OU}{base:Heap}
def Z6w(K:Fg):Sp:=λvs H Q _=>∃(a:Addr) (k:Int) (ns:List Int),vs=[.ref a,.int k]/\SqL K H a (ns.map V.int)/\ns.length<=100/\0<=k/\k<=1000/\∀ p o,H p=none->Dp o->Q (.ref p) (upd H p o)
def YC:Sp:=λvs H Q _=>∃(p:Addr) (m:Int) (o:HO),vs=[.ref p,.int m]/\H p=some o/\Dp o/\0<m/\m<4611686018427387904/\∀(v:Int) o',0<=v->v<m->Dp o'->Q (.int v) (upd H p o')
def zi:Sp:=λvs H Q _=>∃ n:Nat,vs=[.int n]/\n<26 ^ 8/\Q (.str (US n)) H
def eh:AX ["script","k","cell","rest"] ["script","k"] (AJ lI):=by nofun
def pj:(10:Int) ^ (64:Int).toNat * 10 ^ (64:Int).toNat * 10 ^ (64:Int).toNat * 10 ^ (64:Int).toNat=10 ^ 256:=by rfl'
def Z7u(F:Def K mg "_law_pot" lI ["script","k"] f fd)(len:mg "len"=none):⋯ 1 f fd ["script","k"] (Z6w K):=by
 nomatch F.fn.ok eh
 ·obtain⟨a,k,ns,rfl,_⟩:=h;rfl
 ·obtain⟨a,k,ns,rfl,hS,hl,DZ,LD,q⟩:=h
  ac_nf
  refine⟨_,pS (Sl (i:=2) eh.nd rfl (Or.inl rfl) AE)
   (XS (AY (Ag bP (pv 1) (Aq UR (by rfl) len BI (pC (pv 0) AA)) (Ab _))
    (AG (Sl (i:=2) eh.nd rfl (Or.inl rfl) (AU Vw (AV A2 (pv 0) (pv 1) (λ_ _=>rfl))
     (AU qT (AU qT (AU qT (AU bV AE AE) (AU bV AE AE)) (AU bV AE AE)) (AU bV AE AE))))) Aa)
   (pS (Sl (i:=3) eh.nd rfl (Or.inl rfl) AE)
   (XS (AY (Ag Z7r (pv 2) (AU bV AE AE) (Ab _)) (AG (Sl (i:=3) eh.nd rfl (Or.inl rfl) (pv 2))) Aa)
   (AG (AO (BX (pC (pv 3) (pC (AU Vw (AU jr (AU C_ (AU C_ (AU Vw (pv 2) AE) (AU jr AE (pv 1))) AE) AE) AE) AA)))))))),?_⟩
  exists let b:=Z5 _ a;let c:=AF _ b;let e:=_;let f:=Z5 (By _ e _) c;AF _ f _ _ _
  let Sn:SW:=λσ' H'=>H'=H/\∃ c:Int,0<=c/\c<10 ^ 256/\σ'=[some (.ref a),some (.int k),some (.int c),none];refine⟨Sn,?_,?_⟩
  ·refine⟨Z,Z,_,Z,.inl ⟨_,hS,Y⟩,_,Z,Y,Z,?_⟩;refine A1 (λh1=>?_) (λh1=>?_)
   ·have h1:k<((ns.map V.int).length:Int):=Je h1;rw[Ya]at h1;have hi:k.toNat<ns.length:=by omega
    have hat:BZ (ns.map V.int) k=some (V.int ns[k.toNat]):=by
     have e:(ns.map V.int)[k.toNat]?=some (V.int ns[k.toNat]):=by rw[Yj,Yb hi];rfl
     have:=Bb e
     rwa [Us DZ]at this
    refine⟨Z,Z,_,_,_,Z,Y,hS,hat,_,Z,Y,⟨V,V,by rfl'⟩,_,Z,Y,⟨V,V,by rfl'⟩,_,Z,Y,⟨by rfl',by rfl'⟩,
     _,Z,Y,⟨V,V,by rfl'⟩,_,Z,Y,⟨by rfl',by rfl'⟩,_,Z,Y,⟨V,V,by rfl'⟩,_,Z,Y,⟨by rfl',by rfl'⟩,_,Z,Y,?_,Y,_,?_,?_,Y⟩
    ·show(0:Int)<_;rw[pj];rfl'
    ·rw[pj];exact Z6 _ (by rfl')
    ·rw[pj];exact Z_ _ (by rfl')
   ·exact⟨Y,0,V,by rfl',Y⟩
  ·rintro σ' H' ⟨rfl,c,hc0,hc1,rfl⟩;let Xp:SW:=λσ2 H2=>H2=H'/\∃ r:Int,0<=r/\r<10 ^ 256/\σ2=[some (.ref a),some (.int k),some (.int c),some (.int r)];refine⟨Xp,?_,?_⟩
   ·refine⟨Z,_,Z,Y,⟨V,V,by rfl'⟩,_,Z,Y,Z,?_⟩;refine A1 (λh1=>?_) (λh1=>?_)
    ·exact⟨Z,Y,c,hc0,hc1,Y⟩
    ·exact⟨Y,0,V,by rfl',Y⟩
   ·rintro σ2 H2 ⟨rfl,r,dZ,AZ,rfl⟩;have m0:=Z6 c (b:=2147483629) (by decide);have m1:=Z_ c (b:=2147483629) (by decide);refine⟨Z,Z,_,Z,Y,(by show(0:Int)<2147483629;decide),Z,_,Z,Y,.inl ⟨V,V⟩,_,Z,Y,_,Z,Y,_,Z,Y,.inr ⟨V,V⟩,_,Z,Y,(by show(0:Int)<2147483647;decide),U,λp hp=>?_⟩;refine q p _ hp ⟨r,Z,dZ,AZ,Z6 _ (by decide),Z_ _ (by decide)⟩
def Z28:AX ["pot","many","found"] ["pot","many"] (AJ V3):=by nofun
def fu(F:Def K mg "_law_take" V3 ["pot","many"] f fd):⋯ 1 f fd ["pot","many"] YC:=by
 nomatch F.fn.ok Z28
 ·obtain⟨p,m,o,rfl,_⟩:=h;rfl
 ·obtain⟨p,m,o,rfl,hp,⟨r,b,rfl,dZ,AZ,bC,Tu⟩,Xz,U2,q⟩:=h
  ac_nf
  refine⟨_,pS (AY (Ag Wl (AV A2 (pv 0) AE (λ_ _=>rfl)) AE (Ab _))
    (pS (Sl (i:=2) Z28.nd rfl (Or.inl rfl) (AU Vw (AV A2 (pv 0) AE (λ_ _=>rfl)) (pv 1)))
    (pS (qC (AU Z00 (AV A2 (pv 0) AE (λ_ _=>rfl)) (pv 1)) (Z3f (pv 0) AE yT)) (AG (AO (pv 2))))) Aa)
   (pS (qC (AU Vw (AU C_ (AU jr (AV A2 (pv 0) AE (λ_ _=>rfl)) AE) AE) AE) (Z3f (pv 0) AE yT))
   (AG (AO (AU Vw (AU qS (AU Vw (AU jr (AV A2 (pv 0) AE (λ_ _=>rfl)) (AV A2 (pv 0) AE (λ_ _=>rfl))) AE) AE) (pv 1))))),?_⟩
  exists let b:=AF _ a;let c:=_;let e:=AF _ c;let f:=AF _ e;AF (By _ f _) b _ _ _
  refine⟨Z,p,_,_,Z,Y,SqL.of hp,Y,_,Z,Y,Z,?_⟩;refine A1 (λh1=>?_) (λh1=>?_)
  ·refine⟨Z,p,_,_,Z,Y,SqL.of hp,Y,Z,_,Z,Y,Xz,?_⟩;refine⟨Z,p,_,_,Z,Y,SqL.of hp,Y,Z,_,Z,Y,⟨Xz,U2⟩,?_⟩;refine⟨Z,p,_,_,0,Y,Y,hp,Y,Z,?_⟩;have h1:0<r:=Je h1;exact q _ _ (Z6 _ (by omega)) (Z_ _ Xz) ⟨r / m,b,Y,Int.ediv_nonneg dZ (by omega),Int.lt_of_le_of_lt (Int.ediv_le_self _ dZ) AZ,bC,Tu⟩
  ·refine⟨Z,p,_,_,Z,Y,SqL.of hp,Y,_,Z,Y,.inr ⟨V,V⟩,_,Z,Y,_,Z,Y,(by show(0:Int)<2147483647;decide),?_⟩;refine⟨Z,p,_,_,1,Y,Y,hp,Y,?_⟩;have m0:=Z6 (b * 69621 + 12345) (b:=2147483647) (by decide);have m1:=Z_ (b * 69621 + 12345) (b:=2147483647) (by decide);refine⟨Z,p,_,_,Z,Y,SqL.of uS,Y,Z,p,_,_,Z,Y,SqL.of uS,Y,_,Z,Y,.inl ⟨W,W⟩,_,Z,Y,(by show(0:Int)<2147483629;decide),_,Z,Y,⟨V,V⟩,Z,_,Z,Y,Xz,?_⟩;exact q _ _ (Z6 _ (by omega)) (Z_ _ Xz) ⟨r,Z,dZ,AZ,m0,m1⟩
def Z67:AX ["number","word"] ["number"] (AJ cJ):=by nofun
def Zup(F:Def K mg "_law_letters" cJ ["number"] f fd):⋯ 1 f fd ["number"] zi:=by
 nomatch F.fn.ok Z67
 ·obtain⟨n,rfl,_⟩:=h;rfl
 ·obtain⟨n,rfl,hn,q⟩:=h;have nd:=Z67.nd
  ac_nf
  refine⟨_,pS (sE 1 nd Ar)
   (pS (gJ Yw (C2 (Ag BV (pv 1) Ar (Ab _)) (T6 (Ag Wl (pv 0) AE (Ab _)))).pt
    (pS (sE 1 nd (AU UA (pv 1) (AV bT Ar (AU Vw (pv 0) AE) (λ_ _=>rfl))))
    (AG (sE 0 nd (AU qS (pv 0) AE)))))
   (AG (AO (pv 1)))),?_⟩
  exists let b:=AF _ a;AF _ b _ _ _
  have e0:("":Str).cps.toList=[]:=by rfl'
  have hlen:(Dv n).length<=8:=rf 7 n hn;let iH:NW:=λm σ H2=>H2=H/\∃(x:Str) (k:Nat),σ=[some (.int k),some (.str x)]/\m=k + (if x.cps.toList=[]then 1 else 0)/\((x.cps.toList=[]/\k=n)\/(x.cps.toList≠[]/\k=0/\x.cps.toList=Dv n)\/(x.cps.toList≠[]/\0<k/\x.cps.toList++Dv k=Dv n));refine⟨iH,⟨Z,_,n,Y,Y,.inl ⟨e0,Y⟩⟩,?_⟩;rintro m σ H2 ⟨rfl,x,k,rfl,rfl,inv⟩;have more:(x.cps.toList=[]\/0<k)->∃ N:SW,(∀ σ' H',N σ' H'->∃ m',m'<k + (if x.cps.toList=[]then 1 else 0)/\(H'=H2/\∃(y:Str) (j:Nat),σ'=[some (.int j),some (.str y)]/\m'=j + (if y.cps.toList=[]then 1 else 0) /\
    ((y.cps.toList=[]/\j=n)\/(y.cps.toList≠[]/\j=0/\y.cps.toList=Dv n)\/(y.cps.toList≠[]/\0<j/\y.cps.toList++Dv j=Dv n)))) /\
    N [some (.int ((k:Int) / 26)),some (.str (x++⟨#[97 + k % 26]⟩))] H2:=λhk=>by
   let iG:SW:=λσ' H'=>σ'=[some (.int ((k:Int) / 26)),some (.str (x++⟨#[97 + k % 26]⟩))]/\H'=H2;refine⟨iG,?_,Y,Y⟩;rintro σ' H' ⟨rfl,rfl⟩;have el:(x++⟨#[97 + k % 26]⟩:Str).cps.toList=x.cps.toList++[97 + k % 26]:=XX _ _;have ne:(x++⟨#[97 + k % 26]⟩:Str).cps.toList≠[]:=by rw[el];simp
   have kd:((k:Int) / 26)=((k / 26:Nat):Int):=by omega
   have whole:(x.cps.toList++[97 + k % 26])++(if k / 26=0 then[]else Dv (k / 26))=Dv n:=by
    rw[LO,List.singleton_append,<- cF]
    rcases inv with⟨h1,h2⟩ | ⟨h1,h2,_⟩ | ⟨_,_,h3⟩
    ·rw[h1,h2];rfl
    ·rcases hk with z | z
     ·exact absurd z h1
     ·omega
    ·exact h3
   refine⟨k / 26,?_,Y,_,k / 26,by rw[kd],by rw[if_neg ne];rfl,?_⟩
   ·rcases hk with z | z
    ·rw[if_pos z];omega
    ·have:k / 26<k:=by omega
     omega
   ·right;rw[el];by_cases z:k / 26=0
    ·rw[if_pos z,C5]at whole;exact .inl ⟨by simp,z,whole⟩
    ·rw[if_neg z]at whole;exact .inr ⟨by simp,W,whole⟩
  have xlen:x.length<=8:=by
   rw[<- Cm]
   rcases inv with⟨h1,_⟩ | ⟨_,_,h3⟩ | ⟨_,_,h3⟩
   ·rw[h1];simp
   ·rw[h3];exact hlen
   ·have:=congrArg List.length h3;rw[Yc]at this;omega
  have wH:BZ letters.cps.toList ((k:Int) % 26)=some (97 + k % 26):=by
   have:=Bb (Zu2 (i:=k % 26) (by omega));have e:((k % 26:Nat):Int)=(k:Int) % 26:=by omega
   rwa [e]at this
  refine⟨Z,Y,Z,?_⟩;refine A1 (λh1=>?_) (λh1=>?_)
  ·have hx:x.cps.toList=[]:=by
    have:=Je h1;injection this with this;rw[this];exact e0
   obtain⟨N,hN,n0⟩:=more (.inl hx);refine Av ⟨N,hN,?_⟩;exact⟨Z,Z,_,Z,Y,(by show(0:Int)<26;decide),_,_,Z,Y,sL (by rw[<- Cm,lD];decide),wH,_,Z,Y,sL (by rw[wk];omega),Z,_,Z,Y,⟨V,V⟩,n0⟩
  ·have hx:x.cps.toList≠[]:=λz=>h1 (Jb (by rw[str_ext (z.trans e0.symm)]));refine⟨Z,_,Z,Y,Z,?_⟩;refine A1 (λh2=>?_) (λh2=>?_)
   ·have hk:0<k:=by have:(0:Int)<(k:Int):=Je h2;omega
    obtain⟨N,hN,n0⟩:=more (.inr hk);refine⟨N,hN,?_⟩;exact⟨Z,Z,_,Z,Y,(by show(0:Int)<26;decide),_,_,Z,Y,sL (by rw[<- Cm,lD];decide),wH,_,Z,Y,sL (by rw[wk];omega),Z,_,Z,Y,⟨V,V⟩,n0⟩
   ·have hk:k=0:=by
     have:¬ (0:Int)<(k:Int):=λz=>h2 (Jb z);omega
    have hf:x=US n:=by
     refine str_ext ?_;rw[rh]
     rcases inv with⟨h1,_⟩ | ⟨_,_,h3⟩ | ⟨_,h2,_⟩
     ·exact absurd h1 hx
     ·exact h3
     ·omega
    rw[hf];exact⟨Z,q⟩
structure j0(ws:LS):Prop where
 word:∀ x∈ws,AW x=true
 nd:ws.Nodup
def qH:Sp:=λvs H Q _=>∃(p a:Addr) (ws:LS),vs=[.ref p,.ref a]/\p≠a/\(∃ o,H p=some o/\Dp o)/\H a=some (.lst (ws.map V.str))/\j0 ws/\ws.length<=24 /\
 ∀ x H',Drawn p H H'->AW x=true->x∉ws->Q (.str x) H'
def xf:Sp:=λvs H Q _=>∃(p:Addr) (m:Nat),vs=[.ref p,.int m]/\(∃ o,H p=some o/\Dp o)/\m<=24 /\
 ∀ l (ws:LS) H',Drawn p H H'->H l=none->H' l=some (.lst (ws.map V.str))->j0 ws->ws.length=m->Q (.ref l) H'
def YB:LS:=["kind","under","name","deed","gives","with","none","clash","a","ab","abc","abcdefgh","even"]
def Zwn:YB.all AW=true:=by rfl'
def qa{ws:LS}{v:Int}(h0:0<=v)(h1:v<ws.length):∃ x,x∈ws/\BZ (ws.map V.str) v=some (.str x):=by
 have hi:v.toNat<ws.length:=by omega
 have e:(ws.map V.str)[v.toNat]?=some (V.str ws[v.toNat]):=by rw[Yj,Yb hi];rfl
 have:=Bb e;rw[Us h0]at this;exact⟨_,Z9 hi,this⟩
def zu(ws:LS):(!U4 (.list (ws.map W.Dat.str)) (.list []))=true↔ws≠[]:=by
 cases ws with
 | nil=>simp[VD]
 | cons w r =>
  rw[fo (by simp)];simp
def fJ{ws:LS}(h:∀ x∈ws,AW x=true):W.kqdOk 9 (.list (ws.map W.Dat.str))=true:=by
 show(ws.map W.Dat.str).all (W.kqdOk 8)=true;rw[CL];intro d hd;obtain⟨x,hx,e⟩:=Yg.mp hd;rw[<- e];exact XU (h x hx)
def Z27:AX ["pot","words","some","way","word","number"] ["pot","words"] (AJ VF):=by nofun
def Zk7{x y:Str}{n:Nat}(hn:1<=n)(h:y.cps.toList=x.cps.toList.take n)(h1:1<=x.length)(h8:x.length<=8\/n<=8)(hl:∀ c∈x.cps.toList,U_ c=true):AW y=true:=by
 rw[V0,h,Bg,Cm];refine⟨⟨W,W⟩,λc hc=>hl c (cb hc)⟩
def vY:List Stmt->Stmt
 | s :: _=>s
 | []=>.Pass ⟨0,0,0,0⟩
def c0:TE:=rp (λ_ H Q=>Q (YB.map V.str) H)
def XC:Stmt:=vY (C4 VF)
def a13:∃ es c p0 p1 p2,XC=.Assign [.Name ("some":Str) p0] (.Tuple es c p1) p2/\fh es=some YB:=⟨_,_,_,_,Z,by rfl'⟩
def Z4f{X:Cx}{st:Stmt}{i:Nat}{x:Str}{ws:LS}(h:∃ es c p0 p1 p2,st=.Assign [.Name x p0] (.Tuple es c p1) p2/\fh es=some ws)(hN:X.N.Nodup)(hi:X.N[i]?=some x)(hx:Loc X.env.scope x)(hf:X.fn x=true\/X.env.scope.names.lookup x=some .local):PS X st (Xb (rp (λ_ H Q=>Q (ws.map V.str) H)) (Ck i)):=by
 obtain⟨es,c,p0,p1,p2,rfl,h⟩:=h;exact Sl hN hi hx (Bf (Zxn h)) rfl hf
def Yak{X:Cx}(hN:X.N.Nodup)(hi:X.N[2]?=some ("some":Str))(hx:Loc X.env.scope ("some":Str))(hf:X.fn ("some":Str)=true\/X.env.scope.names.lookup ("some":Str)=some NameKind.local):PS X XC (Xb c0 (Ck 2)):=
 @Z4f X XC 2 ("some":Str) YB a13 hN hi hx hf
def n8:List Stmt->List Stmt
 | _ :: r=>r
 | []=>[]
def Z7h{X:Cx}{l:List Stmt}{t u:TS}(h0:l.isEmpty=false)(h1:PS X (vY l) t)(h2:CY X (n8 l) u):CY X l (AF t u):=by
 cases l with
 | nil=>cases h0
 | cons a r=>exact pS h1 h2
def n13:(C4 VF).isEmpty=false:=by rfl'
def Z7i{X:Cx}{u:TS}(hN:X.N.Nodup)(hi:X.N[2]?=some ("some":Str))(hx:Loc X.env.scope ("some":Str))(hf:X.fn ("some":Str)=true\/X.env.scope.names.lookup ("some":Str)=some NameKind.local)(h2:CY X (n8 (C4 VF)) u):CY X (C4 VF) (AF (Xb c0 (Ck 2)) u):=
 @Z7h X (C4 VF) (Xb c0 (Ck 2)) u n13 (@Yak X hN hi hx hf) h2
def Ybk{X:Cx}{D:Wd}{σ:St}{H:Hp}(hN:X.N.Nodup)(hi:X.N[2]?=some ("some":Str))(hx:Loc X.env.scope ("some":Str))(hf:X.fn ("some":Str)=true\/X.env.scope.names.lookup ("some":Str)=some NameKind.local)
  (h:∃ u,CY X (n8 (C4 VF)) u/\AF (Xb c0 (Ck 2)) u D σ H):∃ t,CY X (C4 VF) t/\t D σ H:=by
 obtain⟨u,h1,h2⟩:=h;exact⟨AF (Xb c0 (Ck 2)) u,@Z7i X u hN hi hx hf h1,h2⟩
def xC(F:Def K mg "_law_word" VF ["pot","words"] f fd)(DT:Def K mg "_law_take" V3 ["pot","many"] fT fdT)(DL:Def K mg "_law_letters" cJ ["number"] fL fdL)(len:mg "len"=none):
  ⋯ 2 f fd ["pot","words"] qH:=by
 have GT:⋯ 1 fT fdT ["pot","many"] YC:=fu DT;have GL:⋯ 1 fL fdL ["number"] zi:=Zup DL
 nomatch F.fn.ok Z27
 ·obtain⟨p,a,ws,rfl,_⟩:=h;rfl
 ·obtain⟨p,a,ws,rfl,hpa,hpot,ha,hw,hl24,q⟩:=h;have nd:=Z27.nd;have hu:=hr.units;refine @Ybk _ _ _ _ nd rfl (Or.inl rfl) (Or.inl rfl) ?_
  ac_nf
  refine⟨_,(pS (sE 3 nd (AL DT GT hr (pC (pv 0) (pC AE AA))))
   (pS (sE 4 nd (AV BW (pv 2) (AL DT GT hr (pC (pv 0) (pC AE AA))) (λ_ _=>rfl)))
   (XS (AY (Ag BV (pv 3) AE (Ab _)) (AG (sE 4 nd (AL DL GL hr (pC (AL DT GT hr (pC (pv 0) (pC (AU Wo (AU bV AE AE) AE) AA))) AA)))) Aa)
   (XS (AY (ju (Ag BV (pv 3) AE (Ab _)) (j9 (Ag (Vx hu) (pv 1) (BX AA) (Ab _)))).pt
    (pS (sE 4 nd (AV A2 (pv 1) (AL DT GT hr (pC (pv 0) (pC (Aq UR (by rfl) len BI (pC (pv 1) AA)) AA))) (λ_ _=>rfl)))
    (AG (sE 4 nd (Dg Zk (AU UA (pv 4) (AL DL GL hr (pC (AL DT GT hr (pC (pv 0) (pC AE AA))) AA))) T_ (Ce AE))))) Aa)
   (XS (AY (ju (Ag BV (pv 3) AE (Ab _)) (j9 (Ag (Vx hu) (pv 1) (BX AA) (Ab _)))).pt
    (pS (sE 4 nd (AV A2 (pv 1) (AL DT GT hr (pC (pv 0) (pC (Aq UR (by rfl) len BI (pC (pv 1) AA)) AA))) (λ_ _=>rfl)))
    (AG (sE 4 nd (Dg Zk (pv 4) T_ (Ce (AU C_ AE (AL DT GT hr (pC (pv 0) (pC (Aq UR (by rfl) len BI (pC (pv 4) AA)) AA))))))))) Aa)
   (pS (sE 5 nd AE)
   (pS (gJ Yw (Ag gO (pv 4) (pv 1) (by with_unfolding_all rfl))
    (pS (sE 4 nd (AL DL GL hr (pC (pv 5) AA)))
    (AG (sE 5 nd (AU C_ (pv 5) AE)))))
   (AG (AO (pv 4)))))))))),?_⟩
  have hap:a≠p:=Ae hpa;obtain⟨o0,Cz,DX⟩:=hpot;have wl:∀ {H':Hp},Drawn p H H'->SqL K H' a (ws.map V.str):=λd=>SqL.of (d.keep _ _ hap ha);refine⟨sL (by show 13<=100000;decide),λt ht=>?_⟩;have d1:Drawn p H (upd H t (.tup (YB.map V.str))):=(Drawn.refl ⟨o0,Cz,DX⟩).new ht;have tp:t≠p:=λe=>by rw[e,Cz]at ht;cases ht
  refine⟨Z,p,4,o0,Y,(by rw[AD (Ae tp)];exact Cz),DX,V,V,λway o1 hw0 WS Xy=>?_⟩;refine⟨Z,Z,p,13,o1,Y,uS,Xy,V,V,λv o2 Dk C7 C8=>?_⟩;obtain⟨x0,hx0,hat⟩:=qa (ws:=YB) Dk (by show v<13;exact C7);refine⟨t,YB.map V.str,_,Z,Y,AH.of (by rw[AD tp,AD tp];exact uS),hat,?_⟩;have w0:AW x0=true:=CL.mp Zwn x0 hx0;have d3:Drawn p H (upd (upd (upd H t (.tup (YB.map V.str))) p o1) p o2):=(d1.trans (Drawn.upd Xy)).trans (Drawn.upd C8);let Sn:SW:=λσ' H'=>∃ x:Str,σ'=[some (.ref p),some (.ref a),some (.ref t),some (.int way),some (.str x),none]/\AW x=true/\Drawn p H H';refine⟨Sn,?_,?_⟩
  ·refine⟨Z,Y,Z,?_⟩;refine A1 (λ_=>?_) (λ_=>?_)
   ·obtain⟨o3,UJ,ZW⟩:=d3.pot;refine⟨Z,_,Z,Y,⟨V,V,by rfl'⟩,_,Z,Y,p,_,o3,Y,UJ,ZW,V,V,λv o4 Dk C7 XE=>?_⟩;have C7:v<208827064550:=C7;refine⟨v.toNat,by rw[Us Dk];rfl,W,Z,rj (by omega),d3.trans (Drawn.upd XE)⟩
   ·exact⟨x0,Y,w0,d3⟩
  ·rintro σ' H1 ⟨x1,rfl,w1,d4⟩;let Xp:SW:=λσ' H'=>∃ x:Str,σ'=[some (.ref p),some (.ref a),some (.ref t),some (.int way),some (.str x),none]/\AW x=true/\Drawn p H H';refine⟨Xp,?_,?_⟩
   ·refine⟨Z,Y,Z,?_⟩;refine A1 (λ_=>?_) (λ_=>AS ⟨x1,Y,w1,d4⟩);refine⟨Z,Ax _,λt2 A_=>⟨.list (ws.map W.Dat.str),.list [],.list ((wl d4).mono_new A_) (Wv ws),.list (SqL.of uS) .nil,fJ hw.word,Y,Z,?_⟩⟩;have d5:Drawn p H (upd H1 t2 (.lst [])):=d4.new A_;refine A1 (λBJ=>?_) (λ_=>⟨x1,Y,w1,d5⟩);have BJ:ws≠[]:=(zu ws).mp BJ;have hpos:0<ws.length:=Wz.mpr BJ;obtain⟨o5,UI,WW⟩:=d5.pot;refine⟨Z,Z,Z,_,Z,.inl ⟨_,wl d5,Y⟩,p,_,o5,Y,UI,WW,by rw[Ya];omega,by rw[Ya];omega,λv o6 Dk C7 U1=>?_⟩;rw[Ya]at C7;obtain⟨x2,oZ,uL⟩:=qa (ws:=ws) Dk C7;have d6:Drawn p H (upd (upd H1 t2 (.lst [])) p o6):=d5.trans (Drawn.upd U1);have w2:AW x2=true:=hw.word x2 oZ;refine⟨a,ws.map V.str,_,Z,Y,wl d6,uL,?_⟩;refine⟨Z,Z,p,26,o6,Y,uS,U1,V,V,λv o7 Dk C7 UK=>?_⟩;refine⟨v.toNat,by rw[Us Dk];rfl,W,?_⟩;have nj:AW (US v.toNat)=true:=rj (by omega);have l2:=Dh w2;have l3:=Dh nj;refine⟨_,Z,Y,sL (by omega),Z,Z,sL (by rw[wj];omega),?_⟩;refine⟨Z,?_,d6.trans (Drawn.upd UK)⟩;refine Zk7 (x:=x2++US v.toNat) (n:=8) (by decide) (rQ _ 8 (by decide)) (by rw[wj];omega) (.inr (Yf _)) λc hc=>?_;rw[XX]at hc
    rcases Yo.mp hc with hc | hc
    ·exact((V0 x2).mp w2).2 c hc
    ·exact((V0 _).mp nj).2 c hc
   ·rintro σ' H2 ⟨x2,rfl,w2,d5⟩;let iH:SW:=λσ' H'=>∃ x:Str,σ'=[some (.ref p),some (.ref a),some (.ref t),some (.int way),some (.str x),none]/\AW x=true/\Drawn p H H';refine⟨iH,?_,?_⟩
    ·refine⟨Z,Y,Z,?_⟩;refine A1 (λ_=>?_) (λ_=>AS ⟨x2,Y,w2,d5⟩);refine⟨Z,Ax _,λt2 A_=>⟨.list (ws.map W.Dat.str),.list [],.list ((wl d5).mono_new A_) (Wv ws),.list (SqL.of uS) .nil,fJ hw.word,Y,Z,?_⟩⟩;have d6:Drawn p H (upd H2 t2 (.lst [])):=d5.new A_;refine A1 (λBJ=>?_) (λ_=>⟨x2,Y,w2,d6⟩);have BJ:ws≠[]:=(zu ws).mp BJ;have hpos:0<ws.length:=Wz.mpr BJ;obtain⟨o6,WU,U1⟩:=d6.pot;refine⟨Z,Z,Z,_,Z,.inl ⟨_,wl d6,Y⟩,p,_,o6,Y,WU,U1,by rw[Ya];omega,by rw[Ya];omega,λv o7 Dk C7 UK=>?_⟩;rw[Ya]at C7;obtain⟨x3,hx3,uK⟩:=qa (ws:=ws) Dk C7;have d7:Drawn p H (upd (upd H2 t2 (.lst [])) p o7):=d6.trans (Drawn.upd UK);have w3:AW x3=true:=hw.word x3 hx3;have l3:=Dh w3;refine⟨a,ws.map V.str,_,Z,Y,wl d7,uK,?_⟩;refine⟨Z,Z,Z,_,Z,⟨sL (by omega),Y⟩,p,_,o7,Y,uS,UK,W,W,λv o8 Dk C7 ay=>?_⟩;refine⟨_,Z,Y,Z,Z,sL (by omega),?_⟩;refine⟨Z,?_,d7.trans (Drawn.upd ay)⟩;exact Zk7 (x:=x3) (n:=(1 + v).toNat) (by omega) (rQ _ (1 + v) (by omega)) (by omega) (.inl (by omega)) ((V0 x3).mp w3).2
    ·rintro σ' H3 ⟨x3,rfl,w3,d6⟩;let iG:NW:=λm σ H'=>∃(x:Str) (n:Nat),σ=[some (.ref p),some (.ref a),some (.ref t),some (.int way),some (.str x),some (.int n)]/\AW x=true/\Drawn p H H'/\m=ws.length + 1 - n/\n<=ws.length + 1/\(n=0\/x=US (n - 1))/\∀ j,j + 1<n->US j∈ws;refine⟨iG,⟨_,x3,0,Y,w3,d6,Y,W,.inl rfl,λj hj=>by omega⟩,?_⟩;rintro m σ H4 ⟨x,n,rfl,wx,dx,rfl,hn,hxn,hall⟩;refine⟨Z,Z,a,Z,.inl (wl dx),Y,Zs ws,Z,?_⟩;show if Ug (.str x) (ws.map V.str)=true then _ else _
     rw[YD];refine A1 (λhin=>?_) (λhin=>?_)
     ·have hin:x∈ws:=Je hin;have all:∀ j,j<n->US j∈ws:=λj hj=>by
       by_cases z:j + 1<n
       ·exact hall j z
       ·rcases hxn with e | e
        ·omega
        ·have:j=n - 1:=by omega
         rw[this,<- e];exact hin
      have hle:n<=ws.length:=by
       have:=Graph.nodup_le (l:=(List.range n).map US) (k:=ws) ?_ ?_
       ·simpa using this
       ·rw[YZ,List.pairwise_map];exact(YZ.mp List.nodup_range).imp λh e=>h (Zp5 e)
       ·intro y hy;obtain⟨j,hj,e⟩:=Yg.mp hy;rw[<- e];exact all j (VG.mp hj)
      let Hv5:SW:=λσ' H'=>σ'=[some (.ref p),some (.ref a),some (.ref t),some (.int way),some (.str (US n)),some (.int ((n:Int) + 1))]/\H'=H4;refine⟨Hv5,?_,?_⟩
      ·rintro σ' H' ⟨rfl,rfl⟩;exact⟨ws.length + 1 - (n + 1),W,US n,n + 1,Y,rj (by omega),dx,Y,W,.inr rfl,λj hj=>all j (by omega)⟩
      ·exact⟨Z,n,Y,W,Z,_,Z,Y,Y,Y⟩
     ·have hin:x∉ws:=λz=>hin (Jb z);exact⟨Z,q x H4 dx wx hin⟩
def xg:AX ["pot","many","words","k"] ["pot","many"] (AJ la):=by nofun
def Z01(F:Def K mg "_law_words" la ["pot","many"] f fd)(DW:Def K mg "_law_word" VF ["pot","words"] fW fdW)(DT:Def K mg "_law_take" V3 ["pot","many"] fT fdT)(DL:Def K mg "_law_letters" cJ ["number"] fL fdL)(len:mg "len"=none)(range:mg "range"=none):
  ⋯ 3 f fd ["pot","many"] xf:=by
 have GW:⋯ 2 fW fdW ["pot","words"] qH:=xC DW DT DL len
 nomatch F.fn.ok xg
 ·obtain⟨p,m,rfl,_⟩:=h;rfl
 ·obtain⟨p,m,rfl,⟨o0,Cz,DX⟩,hm,q⟩:=h;have nd:=xg.nd
  ac_nf
  refine⟨_,pS (sE 2 nd (BX AA))
   (pS (BM Yw rfl (Vf rfl range (pC (pv 1) AA)) (gE 3 nd)
    (AG (Bc (Be Cs Dy Dx Di (pv 2) (pC (AL DW GW hr (pC (pv 0) (pC (pv 2) AA))) AA)))))
   (AG (AO (pv 2)))),?_⟩
  exists let b:=_;let c:=AF (BS _ _ b) a;AF _ c _ _ _
  refine⟨Ax _,λl hl=>?_⟩;have lp:p≠l:=AK Cz hl;let Au:NW:=λi σ H'=>∃(ws:LS) (kv:OV),σ=[some (.ref p),some (.int m),some (.ref l),kv]/\Drawn p H H'/\H' l=some (.lst (ws.map V.str))/\j0 ws/\ws.length=i;refine⟨Z,m,Y,W,W,Bz VE Au
   ⟨[],none,Y,(Drawn.refl ⟨o0,Cz,DX⟩).new hl,uS,⟨(λ_ h=>nomatch h),aA⟩,Y⟩ (λ_ _ _ _ _=>trivial) ?_ ?_⟩
  ·rintro i v σ H' hi ⟨ws,kv,rfl,d,hw,ok,rfl⟩;obtain⟨hi,rfl⟩:=Dw hi;refine⟨Z,.inl ⟨Y,_,SqL.of hw⟩,Z,Z,p,l,ws,Y,lp,d.pot,hw,ok,W,λx H2 d2 wx nx=>?_⟩;have Xw:H2 l=some (.lst (ws.map V.str)):=d2.keep _ _ (Ae lp) hw;refine⟨l,_,Z,Y,Xw,Bq (by rw[Ya];omega),?_⟩;refine⟨ws++[x],Z,?_,by rw[uS,Ys];rfl,⟨λy hy=>?_,?_⟩,by simp⟩
   ·refine(d.trans d2).sub (q:=l) (o':=.lst []) (λb o hb e=>by rw[AD hb];exact e) hl lp
   ·rcases Yo.mp hy with hy | hy
    ·exact ok.word y hy
    ·rw[Yh.mp hy];exact wx
   ·rw[List.nodup_append];exact⟨ok.nd,by simp,λa ha b hb e=>nx (by rw[<- Yh.mp hb,<- e];exact ha)⟩
  ·rintro σ H' ⟨ws,kv,rfl,d,hw,ok,hlen⟩;rw[Cq]at hlen;exact⟨Z,q l ws H' d hl hw ok (by simpa using hlen)⟩
def CB(js:LN):LV:=js.map λ(j:Nat)=>V.int (j:Int)
structure Z86(k:Nat)(js:LN):Prop where
 below:∀ j∈js,j<k
 nd:js.Nodup
 few:js.length<=8
def Z6s:Sp:=λvs H Q _=>∃(p:Addr) (k sh:Nat),vs=[.ref p,.int k,.int sh]/\(∃ o,H p=some o/\Dp o)/\k<=24 /\
 ∀ l (js:LN) H',Drawn p H H'->H' l=some (.lst (CB js))->Z86 k js->Q (.ref l) H'
structure Yfe(mg:Str->OU):Prop where
 range:mg "range"=none
 int:mg "int"=none
def Z64:AX ["pot","k","shape","one","other","bits"] ["pot","k","shape"] (AJ Zx):=by nofun
abbrev sy:LS:=["pot","k","shape","one","other","bits"]
def Yde:(["j"]:LS).Nodup:=by rfl'
def Ya0:(["j","bits"]:LS).Nodup:=by rfl'
def aj(v:V):Bool:=match v with | .int i=>decide (0<=i) | _=>false
def bO:LV:=[.int 1,.int 2,.int 4,.int 8,.int 16,.int 32,.int 64,.int 128]
def mS(bits:Int)(v:V):Bool:=match v with
 | .int j=>decide (j<8)&&(match BZ bO j with | some (.int e)=>decide (bits / e % 2=1) | _=>false)
 | _=>false
def Z2c{j:Int}(h0:0<=j)(h1:j<8):∃ e:Int,BZ bO j=some (.int e)/\0<e/\e<1000:=by
 have:∀ i:_root_.Fin 8,∃ e:Int,BZ bO (i.1:Int)=some (.int e)/\0<e/\e<1000:=by
  intro i
  match i with
  | ⟨0,_⟩=>exact⟨1,Y,V,V⟩
  | ⟨1,_⟩=>exact⟨2,Y,V,V⟩
  | ⟨2,_⟩=>exact⟨4,Y,V,V⟩
  | ⟨3,_⟩=>exact⟨8,Y,V,V⟩
  | ⟨4,_⟩=>exact⟨16,Y,V,V⟩
  | ⟨5,_⟩=>exact⟨32,Y,V,V⟩
  | ⟨6,_⟩=>exact⟨64,Y,V,V⟩
  | ⟨7,_⟩=>exact⟨128,Y,V,V⟩
 have q:=this ⟨j.toNat,W⟩
 rwa [Us h0]at q
def Zu9(k:Nat)(p:V->Bool):∃ js:LN,(DG 0 k).filter p=CB js/\(∀ j∈js,j<k/\p (.int (j:Int))=true)/\js.Nodup:=by
 refine⟨(List.range k).filter λj=>p (.int (j:Int)),?_,λj hj=>?_,List.nodup_range.filter _⟩
 ·unfold DG CB;rw[hX];have e:((λ(j:Nat)=>V.int (0 + (j:Int))))=λ(j:Nat)=>V.int (j:Int):=by
   funext j
   rw[W4]
  rw[e];rfl
 ·obtain⟨h1,h2⟩:=Xi.mp hj;exact⟨VG.mp h1,h2⟩
theorem Zlc:∀ {xs ys:LV},Paired (λx v=>v=x) xs ys->ys=xs
 | _,_,.nil=>rfl
 | _,_,.cons h t=>by rw[h,Zlc t]
def Z7s(F:Def K mg "_law_ups" Zx ["pot","k","shape"] f fd)(DT:Def K mg "_law_take" V3 ["pot","many"] fT fdT)(T:Yfe mg):⋯ 2 f fd ["pot","k","shape"] Z6s:=by
 have GT:⋯ 1 fT fdT ["pot","many"] YC:=fu DT
 nomatch F.fn.ok Z64
 ·obtain⟨p,k,sh,rfl,_⟩:=h;rfl
 ·obtain⟨p,k,sh,rfl,⟨o0,Cz,DX⟩,hk,q⟩:=h;have nd:=Z64.nd
  ac_nf
  refine⟨_,pS (AY (Ag BV (pv 1) AE (Ab _)) (AG (AO (BX AA))) Aa)
   (pS (sE 3 nd (AL DT GT hr (pC (pv 0) (pC (pv 1) AA))))
   (pS (sE 4 nd (AL DT GT hr (pC (pv 0) (pC (pv 1) AA))))
   (pS (AY (Ag BV (pv 2) AE (Ab _)) (AG (AO (BX (pC (pv 3) AA)))) Aa)
   (pS (AY (Ag BV (pv 2) AE (Ab _)) (AG (AO (Dg bc
     (Bm ["j"] [] [] (λ_=>BH (osc:=AJ Zx) (on:=sy) (by rfl') rfl rfl rfl) (UQ (Bf (pC (pv 3) (pC (pv 4) AA)))) (λC s H fp=>BN (i:=0) Yde rfl (Or.inl rfl) (Or.inr rfl)) (λC s H fp=>Bn) (λC s H fp=>pv 0))
     T_ (Ce (AU C_ AE (Co Zzp (by rfl) T.int cm (pC (LK U6 (pv 3) (pv 4) (Ab _)) AA))))))) Aa)
   (pS (AY (Ag BV (pv 2) AE (Ab _)) (AG (AO
     (Bm ["j"] [] [] (λ_=>BH (osc:=AJ Zx) (on:=sy) (by rfl') rfl rfl rfl) (UQ (Bf (pC (AU Wo (AU Wo (pv 1) AE) (AU Vw (pv 1) AE)) (pC (AU Wo (AU Wo (pv 1) AE) (AU Vw (pv 1) AE)) AA)))) (λC s H fp=>BN (i:=0) Yde rfl (Or.inl rfl) (Or.inr rfl))
      (λC s H fp=>Zl (Ag Z7r (pv 0) AE (Ab _))) (λC s H fp=>pv 0)))) Aa)
   (pS (AY (Ag BV (pv 2) AE (Ab _)) (AG (AO (BX (pC (AU Wo (pv 1) AE) AA)))) Aa)
   (pS (Sl (i:=5) nd rfl (Or.inr rfl) (AL DT GT hr (pC (pv 0) (pC AE AA))))
   (AG (AO (Bm ["j"] ["bits"] [5] (λ_=>BH (osc:=AJ Zx) (on:=sy) (by rfl') rfl rfl rfl) (Vf rfl T.range (pC (pv 1) AA)) (λC s H fp=>BN (i:=0) Ya0 rfl (Or.inl rfl) (Or.inr rfl))
    (λC s H fp=>Zl (PW.pt (ju (Ag bP (pv 0) AE (Ab _)) (j9 (Ag BV (AU Vw (AU qS (pv 1) (AV (r:=BQ K) BW (Bf (pC AE (pC AE (pC AE (pC AE (pC AE (pC AE (pC AE (pC AE AA))))))))) (pv 0) (λ_ _=>rfl))) AE) AE (Ab _)))))) (λC s H fp=>pv 0))))))))))),?_⟩
  exists let b:=AF _ a;let c:=_;let e:=AF (By _ c _) b;let f:=_;let g:=AF (By _ f _) e;let h:=_;let i:=AF (By _ h _) g;let j:=AF _ i;let k:=AF _ j;let l:=AF _ k;AF _ l _ _ _
  have dr:Drawn p H H:=Drawn.refl ⟨o0,Cz,DX⟩;refine⟨Z,Y,Z,?_⟩;refine A1 (λh0=>?_) (λh0=>?_)
  ·exact⟨Ax _,λl hl=>q l [] _ (dr.new hl) uS ⟨(λ_ h=>nomatch h),aA,Ax _⟩⟩
  have DZ:0<k:=by
   refine Nat.pos_of_ne_zero λz=>h0 (Jb ?_);rw[z];rfl
  refine⟨Z,Z,p,k,o0,Y,Cz,DX,W,W,λone o1 pM bH Xy=>?_⟩;refine⟨Z,Z,p,k,o1,Y,uS,Xy,W,W,λoth o2 h20 h21 C8=>?_⟩;rw[YG];have d2:Drawn p H (upd H p o2):=Drawn.upd C8;refine⟨Z,Y,Z,?_⟩;refine A1 (λ_=>?_) (λ_=>?_)
  ·refine⟨Z,O,λl hl=>q l [one.toNat] _ (d2.new hl) ?_ ⟨λj hj=>?_,by simp,by simp⟩⟩
   ·rw[uS];show some (HO.lst [V.int one])=some (HO.lst [V.int ((one.toNat:Nat):Int)]);rw[Us pM]
   ·rw[Yh.mp hj];omega
  refine⟨Z,Y,Z,?_⟩;refine A1 (λ_=>?_) (λ_=>?_)
  ·-- [j for j in(one,other)][:1 + int(one != other)]
   refine⟨Z,Z,U,λt ht=>⟨t,Y,⟨_,AH.of uS⟩,YQ (Uo (xs:=[V.int one,V.int oth])) (sL (by show 2<=100000;decide)) (λ_=>true) (λv=>v) (λD ys hD=>AH.of (by rw[AD (AK uS hD)];exact uS)) ?_ ?_ ?_⟩⟩
   ·intro D ys x R _ _ hR;exact hR
   ·intro D ys x R _ _ _ hR;exact⟨Z,hR⟩
   ·intro D hD;have e2:([V.int one,V.int oth].filter λ_=>true).map (λv=>v)=[V.int one,V.int oth]:=rfl;rw[e2];have d4:Drawn p H (upd (upd (upd H p o2) t (.tup [V.int one,V.int oth])) D (.lst [V.int one,V.int oth])):=(d2.new ht).new hD;refine⟨Z,Z,Y,.inr ⟨Z,_,Z,Y,Z,D,Z,SqL.of uS,λl hl=>?_⟩⟩;by_cases he:one=oth
    ·have e3:(!decide (V.int one=V.int oth))=false:=by rw[he];simp
     rw[e3];refine q l [one.toNat] _ (d4.new hl) ?_ ⟨λj hj=>by rw[Yh.mp hj];omega,by simp,by simp⟩;rw[uS];show some (HO.lst [V.int one])=some (HO.lst [V.int ((one.toNat:Nat):Int)]);rw[Us pM]
    ·have e3:(!decide (V.int one=V.int oth))=true:=by
      rw[Jc (λz=>he (by injection z))];rfl
     rw[e3];refine q l [one.toNat,oth.toNat] _ (d4.new hl) ?_ ⟨λj hj=>?_,?_,by simp⟩
     ·rw[uS];show some (HO.lst [V.int one,V.int oth])=some (HO.lst [V.int ((one.toNat:Nat):Int),V.int ((oth.toNat:Nat):Int)]);rw[Us pM,Us h20]
     ·rcases Yv.mp hj with e | e
      ·rw[e];omega
      ·rw[Yh.mp e];omega
     ·refine Cr.mpr ⟨λz=>he ?_,by simp⟩;have:=Yh.mp z;omega
  refine⟨Z,Y,Z,?_⟩;refine A1 (λ_=>?_) (λ_=>?_)
  ·-- diamonds
   have Xz:=Z6 (k:Int) (b:=2) (by decide);have U2:=Z_ (k:Int) (b:=2) (by decide);refine⟨Z,_,Z,Y,Z,_,Z,Y,(by show(0:Int)<2;decide),_,Z,Y,Z,_,Z,Y,Z,_,Z,Y,(by show(0:Int)<2;decide),_,Z,Y,U,λt ht=>⟨t,Y,⟨_,AH.of uS⟩,
    YQ (Uo (xs:=[V.int ((k:Int) - 2 - (k:Int) % 2),V.int ((k:Int) - 1 - (k:Int) % 2)])) (sL (by show 2<=100000;decide)) aj (λv=>v) (λD ys hD=>AH.of (by rw[AD (AK uS hD)];exact uS)) ?_ ?_ ?_⟩⟩
   ·intro D ys x R _ hx hR;obtain⟨i,rfl⟩:∃ i,x=V.int i:=by
     rcases Yv.mp hx with e | e
     ·exact⟨_,e⟩
     ·exact⟨_,Yh.mp e⟩
    exact⟨Z,_,Z,Y,Z,hR⟩
   ·intro D ys x R _ _ _ hR;exact⟨Z,hR⟩
   ·intro D hD;have d4:=(d2.new (o:=.tup [V.int ((k:Int) - 2 - (k:Int) % 2),V.int ((k:Int) - 1 - (k:Int) % 2)]) ht).new (o:=.lst (([V.int ((k:Int) - 2 - (k:Int) % 2),V.int ((k:Int) - 1 - (k:Int) % 2)].filter aj).map λv=>v)) hD;by_cases h2:2<=(k:Int) - (k:Int) % 2
    ·refine q D [((k:Int) - 2 - (k:Int) % 2).toNat,((k:Int) - 1 - (k:Int) % 2).toNat] _ d4 ?_ ⟨λj hj=>?_,?_,by simp⟩
     ·rw[uS];have a1:aj (V.int ((k:Int) - 2 - (k:Int) % 2))=true:=Jb (by omega);have a2:aj (V.int ((k:Int) - 1 - (k:Int) % 2))=true:=Jb (by omega);rw[Z8,a1,if_pos rfl,Z8,a2,if_pos rfl];show some (HO.lst [V.int _,V.int _])=some (HO.lst [V.int ((Int.toNat _:Nat):Int),V.int ((Int.toNat _:Nat):Int)]);rw[Us (by omega),Us (by omega)]
     ·rcases Yv.mp hj with e | e
      ·rw[e];omega
      ·rw[Yh.mp e];omega
     ·refine Cr.mpr ⟨λz=>?_,by simp⟩;have:=Yh.mp z;omega
    ·refine q D [] _ d4 ?_ ⟨(λ_ h=>nomatch h),aA,Ax _⟩;rw[uS];have a1:aj (V.int ((k:Int) - 2 - (k:Int) % 2))=false:=Jc (by omega);have a2:aj (V.int ((k:Int) - 1 - (k:Int) % 2))=false:=Jc (by omega);rw[Z8,a1,if_neg Yq,Z8,a2,if_neg Yq];rfl
  refine⟨Z,Y,Z,?_⟩;refine A1 (λ_=>?_) (λ_=>?_)
  ·refine⟨Z,_,Z,Y,O,λl hl=>q l [k - 1] _ (d2.new hl) ?_ ⟨λj hj=>?_,by simp,by simp⟩⟩
   ·rw[uS];show some (HO.lst [V.int ((k:Int) - 1)])=some (HO.lst [V.int ((k - 1:Nat):Int)]);have:((k - 1:Nat):Int)=(k:Int) - 1:=by omega
    rw[this]
   ·rw[Yh.mp hj];omega
  refine⟨Z,p,256,o2,Y,uS,C8,V,V,λbits o3 bC Tu ZW=>?_⟩;rw[YG];have d3:Drawn p H (upd H p o3):=Drawn.upd ZW;refine⟨Z,(k:Int),Y,W,W,?_⟩;rw[show((k:Int)).toNat=k from rfl];refine Zo VE (sL (by rw[Cq];omega)) (mS bits) (λ_ x v _=>v=x) (λ_ _ _ _ _ _ h=>h) (λ_ _=>trivial) ?_ ?_ ?_
  ·intro x H2 R hs hx hR;obtain⟨i,hi⟩:=Y3.mp hx;obtain⟨hik,rfl⟩:=Dw hi;refine⟨Z,_,Z,Y,Z,?_⟩;refine A1 (λh8=>?_) (λh8=>?_)
   ·have h8:(0:Int) + (i:Int)<8:=Je h8;obtain⟨e,he,he0,he1⟩:=Z2c (j:=(0:Int) + (i:Int)) (by omega) h8;refine⟨Z,sL (by show 8<=100000;decide),λt ht=>⟨Z,t,bO,_,Z,Y,AH.of uS,he,_,Z,Y,⟨he0,W⟩,_,Z,Y,(by show(0:Int)<2;decide),Y,Z,?_⟩⟩;have e1:mS bits (V.int (0 + (i:Int)))=decide (V.int (bits / e % 2)=V.int 1):=by
     show(decide ((0:Int) + (i:Int)<8)&&(match BZ bO (0 + (i:Int))with | some (.int e)=>decide (bits / e % 2=1) | _=>false))=_;rw[he,Jb h8,DQ];show decide (bits / e % 2=1)=_;rw[decide_eq_decide];constructor
     ·intro z;rw[z]
     ·intro z;injection z
    have:=hR (upd H2 t (.tup bO)) λb o e=>by rw[AD (AK e ht)];exact e
    rw[e1]at this;exact this
   ·have h8:¬ ((0:Int) + (i:Int)<8):=λz=>h8 (Jb z);have e1:mS bits (V.int (0 + (i:Int)))=false:=by
     show(decide ((0:Int) + (i:Int)<8)&&_)=false;rw[Jc h8,V5]
    have:=hR H2 (AB.refl _);rw[e1]at this;exact this
  ·intro D x H2 R hs _ _ hx _ hR;exact⟨Z,hR x H2 (AB.refl _) rfl⟩
  ·intro D H2 ys hD hs hl hp;have e:=Zlc hp;subst e;obtain⟨js,e,hj,hnd⟩:=Zu9 k (mS bits);refine q D js H2 (d3.same hs) (by rw[hl,e]) ⟨λj h=>(hj j h).1,hnd,?_⟩;have:=Graph.nodup_le (l:=js) (k:=List.range 8) hnd λj h=>by
    have h2:(decide ((j:Int)<8)&&_)=true:=(hj j h).2;have h3:=(B1 _ _ ▸ h2:_/\_).1;have h4:(j:Int)<8:=Je h3;exact VG.mpr (by omega)
   simpa using this
def xY:Sp:=λvs H Q _=>∃(p:Addr) (m:Nat),vs=[.ref p,.int m]/\(∃ o,H p=some o/\Dp o)/\1<=m/\m<=24 /\
 ∀ l (rows:RS) H',Drawn p H H'->H l=none->T5 H' l rows->Am rows->rows.length<=m->Q (.ref l) H'
def uX(ws:LS):V->V
 | .int j=>.str (ws.getD j.toNat "")
 | _=>.non
def Z0d(ws:LS)(js:LN):(CB js).map (uX ws)=(js.map λi=>ws.getD i "").map V.str:=by
 unfold CB;rw[B9,B9];rfl
def wL{ws:LS}{j:Nat}(h:j<ws.length):BZ (ws.map V.str) (j:Int)=some (.str (ws.getD j "")):=by
 have e:(ws.map V.str)[j]?=some (V.str (ws.getD j "")):=by
  rw[Yj,Yl,Yb h];rfl
 exact Bb e
def Zrw(m:Nat):DG 0 m=CB (List.range m):=by
 unfold DG CB;refine aE λj _=>?_;rw[W4]
def kJ{α:Type}(l:List α):l.filter (λ_=>true)=l:=VH.mpr λ_ _=>rfl
def iA(ws:LS)(H:Hp)(js:LN)(v:V):Prop:=∃ t,v=.ref t/\H t=some (.tup ((js.map λi=>ws.getD i "").map V.str))
def iA.mono{ws:LS}{H H':Hp}{js:LN}{v:V}(h:iA ws H js v)(k:∀ b xs,H b=some (.tup xs)->H' b=some (.tup xs)):iA ws H' js v:=by
 obtain⟨t,e,h⟩:=h;exact⟨t,e,k _ _ h⟩
theorem V2{α β:Type}{F:α->β->Prop}:∀ {l:List α}{k:List β},Paired F l k->∀ {i:Nat}{a:α},l[i]?=some a->∃ b,k[i]?=some b/\F a b
 | _,_,.nil,i,a,h=>by simp at h
 | _,_,.cons r t,0,a,h=>by simp at h;subst h;exact⟨Z,r⟩
 | _,_,.cons r t,i + 1,a,h=>by
  obtain⟨b,h1,h2⟩:=V2 t (i:=i) (a:=a) (by simpa using h);exact⟨b,by simpa using h1,h2⟩
def q8{H:Hp}{D b:Addr}{o u:HO}(hD:H D=none)(e:H b=some o):(upd H D u) b=some o:=by rw[AD (AK e hD)];exact e
theorem Zld{ws:LS}{uf:List (LN)}{D:Addr}{H:Hp}:∀ {os:LN}{ys:LV},
  Paired (λx v=>∃(j:Nat) (t u:Addr),x=V.int (j:Int)/\v=.ref t/\t≠D/\u≠D/\H t=some (.tup [.str (ws.getD j ""),.ref u])/\H u=some (.tup (((uf.getD j []).map λi=>ws.getD i "").map V.str))) (CB os) ys->Paired (Z1 H) (XR ws uf os) ys
 | [],_,h=>by cases h;exact .nil
 | j :: os,_,h=>by
  cases h with
  | cons r t =>
   obtain⟨i,a,u,e,rfl,_,_,h3,h4⟩:=r;have e':(j:Int)=(i:Int):=by injection e
   have e'':j=i:=by omega
   subst e'';exact .cons ⟨a,u,Y,h3,h4⟩ (Zld t)
structure Ybw(p lw lo lu:Addr)(ws:LS)(H H':Hp)(i:Nat)(os:LN)(uf:List (LN))(us:LV):Prop where
 d:Drawn p H H'
 w:H' lw=some (.lst (ws.map V.str))
 o:H' lo=some (.lst (CB os))
 u:H' lu=some (.lst us)
 pu:Paired (iA ws H') uf us
 ul:uf.length=i
 uok:∀(k:Nat) (js:LN),uf[k]?=some js->Z86 k js
 on:os.Nodup
 om:∀ j,j∈os↔j<i
 ol:os.length=i
def Yaz:(["j","words"]:LS).Nodup:=by rfl'
def Z77:(["k","words","ups"]:LS).Nodup:=by rfl'
structure Ydj(mg:Str->OU):Prop where
 range:mg "range"=none
 int:mg "int"=none
 len:mg "len"=none
 tuple:mg "tuple"=none
 list:mg "list"=none
abbrev sP:LS:=["pot","most","many","words","shape","order","ups","k"]
def Z29:AX sP ["pot","most"] (AJ cG):=by nofun
def yq(F:Def K mg "_law_rows" cG ["pot","most"] f fd)(DT:Def K mg "_law_take" V3 ["pot","many"] fT fdT)(DU:Def K mg "_law_ups" Zx ["pot","k","shape"] fU fdU)
  (DWs:Def K mg "_law_words" la ["pot","many"] fWs fdWs) (DW:Def K mg "_law_word" VF ["pot","words"] fW fdW) (DL:Def K mg "_law_letters" cJ ["number"] fL fdL) (T:Ydj mg):⋯ 4 f fd ["pot","most"] xY:=by
 have GT:⋯ 1 fT fdT ["pot","many"] YC:=fu DT;have GU:⋯ 2 fU fdU ["pot","k","shape"] Z6s:=Z7s DU DT ⟨T.range,T.int⟩;have GW:⋯ 3 fWs fdWs ["pot","many"] xf:=Z01 DWs DW DT DL T.len T.range
 nomatch F.fn.ok Z29
 ·obtain⟨p,m,rfl,_⟩:=h;rfl
 ·obtain⟨p,most,rfl,⟨o0,Cz,DX⟩,U2,hm24,q⟩:=h;have nd:=Z29.nd;have AZ:Af 1 _:=hr.mono (by decide);have B6:Af 2 _:=hr.mono (by decide)
  ac_nf
  refine⟨_,pS (sE 2 nd (AU C_ AE (AL DT GT AZ (pC (pv 0) (pC (pv 1) AA)))))
   (pS (Sl (i:=3) nd rfl (Or.inr rfl) (AL DWs GW hr (pC (pv 0) (pC (pv 2) AA))))
   (pS (sE 4 nd (AL DT GT AZ (pC (pv 0) (pC AE AA))))
   (pS (sE 5 nd (BX AA))
   (pS (Sl (i:=6) nd rfl (Or.inr rfl) (BX AA))
   (pS (BM Yw rfl (Vf (by rfl) T.range (pC (pv 2) AA)) (gE 7 nd)
    (pS (Bc (Be Cs Dy Dx Di (pv 6) (pC (Co V1 (by rfl) T.tuple Ur (pC
     (Bm ["j"] ["words"] [3] (λ_=>BH (osc:=AJ cG) (on:=sP) (by rfl') rfl rfl rfl) (CD (AL DU GU B6 (pC (pv 0) (pC (pv 7) (pC (pv 4) AA))))) (λC s H fp=>BN (i:=0) Yaz rfl (Or.inl rfl) (Or.inr rfl)) (λC s H fp=>Bn)
      (λC s H fp=>AV (r:=Bl K) A2 (pv 1) (pv 0) (λ_ _=>rfl))) AA)) AA)))
    (AG (Bc (Be Cs PySem.F.slot_list_insert PySem.F.type_list_insert Zyc (pv 5) (pC (AL DT GT AZ (pC (pv 0) (pC (AU C_ (pv 7) AE) AA))) (pC (pv 7) AA)))))))
   (XS (AY (Ag BV (AL DT GT AZ (pC (pv 0) (pC AE AA))) AE (Ab _)) (AG (sE 5 nd (Zph rfl (pv 2) (by rfl) T.list (by rfl) T.range))) Aa)
   (AG (AO (Bm ["k"] ["words","ups"] [3,6] (λ_=>BH (osc:=AJ cG) (on:=sP) (by rfl') rfl rfl rfl) (CD (pv 5)) (λC s H fp=>BN (i:=0) Z77 rfl (Or.inl rfl) (Or.inr rfl)) (λC s H fp=>Bn)
    (λC s H fp=>Bf (pC (AV (r:=Bl K) A2 (pv 1) (pv 0) (λ_ _=>rfl)) (pC (AV (r:=Bl K) A2 (pv 2) (pv 0) (λ_ _=>rfl)) AA)))))))))))),?_⟩
  exists let b:=_;let c:=Z5 (By _ b _) a;let e:=_;let f:=AF _ e;let g:=AF (BS _ _ f) c;let h:=AF _ g;let i:=AF _ h;let j:=AF _ i;let k:=AF _ j;AF _ k _ _ _
  refine⟨Z,Z,p,most,o0,Y,Cz,DX,W,W,λv o1 Dk C7 Xy=>⟨_,Z,Y,?_⟩⟩;have hv:(1:Int) + v=((1 + v.toNat:Nat):Int):=by omega
  have d1:Drawn p H (upd H p o1):=Drawn.upd Xy;refine⟨Z,Z,p,1 + v.toNat,(by show[V.ref p,V.int (1 + v)]=[V.ref p,V.int ((1 + v.toNat:Nat):Int)];rw[<- hv]),d1.pot,W,λlw ws H2 d2 hlw hw ok hwl=>?_⟩;have hlw0:H lw=none:=by
   cases e:H lw with
   | none=>rfl
   | some o =>
    by_cases z:lw=p
    ·rw[z]at hlw;rw[uS]at hlw;cases hlw
    ·rw[d1.keep lw o z e]at hlw;cases hlw
  have pY:=d1.trans d2;obtain⟨o2,SV,C8⟩:=d2.pot;have pw:p≠lw:=sM SV hw (by
   obtain⟨r,b,e,_⟩:=C8;rw[e];intro z;injection z with z;have z2:=congrArg (λl=>l[0]?) z;cases ws with
   | nil=>simp at z2
   | cons x r=>simp at z2)
  refine⟨Z,p,5,o2,Y,SV,C8,V,V,λsh o3 vS vR ZW=>?_⟩;have d3:Drawn p H (upd H2 p o3):=pY.trans (Drawn.upd ZW);refine⟨Ax _,λlo hlo=>⟨Ax _,λlu hlu=>?_⟩⟩;have d5:Drawn p H (upd (upd (upd H2 p o3) lo (.lst [])) lu (.lst [])):=(d3.new hlo).new hlu;have w5:(upd (upd (upd H2 p o3) lo (.lst [])) lu (.lst [])) lw=some (.lst (ws.map V.str)):=by
   have a1:(upd H2 p o3) lw=some (.lst (ws.map V.str)):=by rw[AD (Ae pw)];exact hw
   have a2:(upd (upd H2 p o3) lo (.lst [])) lw=some (.lst (ws.map V.str)):=by rw[AD (AK a1 hlo)];exact a1
   rw[AD (AK a2 hlu)];exact a2
  have o5:(upd (upd (upd H2 p o3) lo (.lst [])) lu (.lst [])) lo=some (.lst (CB [])):=by
   rw[AD (AK uS hlu)];exact uS
  have plo:p≠lo:=AK (show(upd H2 p o3) p=some o3 from uS) hlo;have plu:p≠lu:=AK (show(upd (upd H2 p o3) lo (.lst [])) p=some o3 by rw[AD plo];exact uS) hlu;have lou:lo≠lu:=AK uS hlu;have lwo:lw≠lo:=λz=>by
   have a1:(upd H2 p o3) lw=some (.lst (ws.map V.str)):=by rw[AD (Ae pw)];exact hw
   rw[z,hlo]at a1;cases a1
  have lwu:lw≠lu:=λz=>by
   have a1:(upd H2 p o3) lw=some (.lst (ws.map V.str)):=by rw[AD (Ae pw)];exact hw
   have a2:(upd (upd H2 p o3) lo (.lst [])) lw=some (.lst (ws.map V.str)):=by rw[AD lwo];exact a1
   rw[z,hlu]at a2;cases a2
  have hloH:H lo=none:=by
   cases e:H lo with
   | none=>rfl
   | some o=>rw[d3.keep lo o (Ae plo) e]at hlo;cases hlo
  have hluH:H lu=none:=by
   cases e:H lu with
   | none=>rfl
   | some o=>rw[(d3.new (o:=.lst []) hlo).keep lu o (Ae plu) e]at hlu;cases hlu
  refine⟨Z,(1:Int) + v,Y,W,W,?_⟩;have hmn:((1:Int) + v).toNat=ws.length:=by omega
  rw[hmn];let Au:NW:=λi σ H'=>∃(os:LN) (uf:List (LN)) (us:LV) (kv:OV),σ=[some (.ref p),some (.int most),some (.int (1 + v)),some (.ref lw),some (.int sh),some (.ref lo),some (.ref lu),kv]/\Ybw p lw lo lu ws H H' i os uf us;refine Bz VE Au
   ⟨[],[],[],none,Y,d5,w5,o5,uS,.nil,Y,λk js h=>by simp at h,aA,λj=>by simp,Y⟩ (λ_ _ _ _ _=>trivial) ?_ ?_
  ·rintro i x σ H' hi ⟨os,uf,us,kv,rfl,g⟩;obtain⟨hi,rfl⟩:=Dw hi;have hul:us.length=i:=by rw[<- g.pu.length];exact g.ul
   refine⟨Z,.inl ⟨Y,_,SqL.of g.u⟩,Z,Z,Z,p,i,sh.toNat,by rw[W4,Us vS];rfl,g.d.pot,W,λl js H6 d6 hl uok=>⟨l,Y,⟨_,SqL.of hl⟩,?_⟩⟩;have w6:H6 lw=some (.lst (ws.map V.str)):=d6.keep _ _ (Ae pw) g.w;refine YQ (CU (xs:=CB js)) (sL (by unfold CB;rw[Ya];have:=uok.few;omega)) (λ_=>true) (uX ws) (λD ys hD=>SqL.of (by rw[AD (AK hl hD)];exact hl)) ?_ ?_ ?_
   ·intro D ys y R _ _ hR;exact hR
   ·intro D ys y R hD hy _ hR;obtain⟨j,hj,rfl⟩:=Yg.mp hy;have hjl:j<ws.length:=by have:=uok.below j hj;omega
    exact⟨Z,Z,lw,_,_,Z,Y,SqL.of (by rw[AD (AK w6 hD)];exact w6),wL hjl,hR⟩
   ·intro D hD;rw[kJ,Z0d];refine⟨D,Z,.inl ⟨SqL.of uS,λt ht=>?_⟩⟩;have keepDt:∀ b o,H6 b=some o->(upd (upd H6 D (.lst ((js.map λi=>ws.getD i "").map V.str))) t (.tup ((js.map λi=>ws.getD i "").map V.str))) b=some o:=λb o e=>by
     have e1:(upd H6 D (.lst ((js.map λi=>ws.getD i "").map V.str))) b=some o:=by rw[AD (AK e hD)];exact e
     rw[AD (AK e1 ht)];exact e1
    have u6:H6 lu=some (.lst us):=d6.keep _ _ (Ae plu) g.u;have o6:H6 lo=some (.lst (CB os)):=d6.keep _ _ (Ae plo) g.o;refine⟨lu,us,Z,Y,keepDt _ _ u6,Bq (by omega),?_⟩;obtain⟨o7,jT,UK⟩:=d6.pot;refine⟨Z,.inl ⟨Y,_,SqL.of (by rw[AD lou];exact keepDt _ _ o6)⟩,Z,Z,_,Z,Y,p,_,o7,Y,(by rw[AD plu];exact keepDt _ _ jT),UK,W,W,λat_ o8 dz jd ay=>?_⟩;refine⟨Z,lo,CB os,at_,Z,Y,(by rw[AD (Ae plo),AD lou];exact keepDt _ _ o6),dz,(by unfold CB;rw[Ya,g.ol];omega),Bq (by unfold CB;rw[Ya,g.ol];omega),?_⟩;have tlu:t≠lu:=λz=>by rw[z]at ht;rw[q8 hD u6]at ht;cases ht
    have tlo:t≠lo:=λz=>by rw[z]at ht;rw[q8 hD o6]at ht;cases ht
    have tp:t≠p:=λz=>by rw[z]at ht;rw[q8 hD jT]at ht;cases ht
    have all:∀ b o,b≠p->b≠lu->b≠lo->H6 b=some o->(upd (upd (upd (upd (upd H6 D (.lst ((js.map λi=>ws.getD i "").map V.str))) t (.tup ((js.map λi=>ws.getD i "").map V.str))) lu (.lst (us++[.ref t]))) p o8) lo (.lst ((CB os).take at_.toNat++V.int (0 + (i:Int)):: (CB os).drop at_.toNat))) b=some o:=λb o h1 h2 h3 e=>by
     rw[AD h3,AD h1,AD h2];exact keepDt _ _ e
    have tt:(upd (upd (upd (upd (upd H6 D (.lst ((js.map λi=>ws.getD i "").map V.str))) t (.tup ((js.map λi=>ws.getD i "").map V.str))) lu (.lst (us++[.ref t]))) p o8) lo (.lst ((CB os).take at_.toNat++V.int (0 + (i:Int)):: (CB os).drop at_.toNat))) t=some (.tup ((js.map λi=>ws.getD i "").map V.str)):=by
     rw[AD tlo,AD tp,AD tlu];exact uS
    have tups:∀ b xs,H' b=some (.tup xs)->(upd (upd (upd (upd (upd H6 D (.lst ((js.map λi=>ws.getD i "").map V.str))) t (.tup ((js.map λi=>ws.getD i "").map V.str))) lu (.lst (us++[.ref t]))) p o8) lo (.lst ((CB os).take at_.toNat++V.int (0 + (i:Int)):: (CB os).drop at_.toNat))) b=some (.tup xs):=λb xs e=>by
     obtain⟨oP,hP,r,b',eP,_⟩:=g.d.pot;have bp:b≠p:=λz=>by rw[z,hP,eP]at e;cases e
     have bu:b≠lu:=λz=>by rw[z,g.u]at e;cases e
     have bo:b≠lo:=λz=>by rw[z,g.o]at e;cases e
     exact all b _ bp bu bo (d6.keep b _ bp e)
    refine⟨os.take at_.toNat++i :: os.drop at_.toNat,uf++[js],us++[.ref t],Z,?_⟩;refine⟨⟨λb o hb e=>?_,?_⟩,?_,?_,?_,?_,by rw[Yc,g.ul];rfl,?_,?_,?_,?_⟩
    ·have e6:=(g.d.trans d6).keep b o hb e;exact all b o hb (λz=>by rw[z,hluH]at e;cases e) (λz=>by rw[z,hloH]at e;cases e) e6
    ·exact⟨o8,by rw[AD plo];exact uS,ay⟩
    ·exact all lw _ (Ae pw) lwu lwo w6
    ·rw[uS];unfold CB;rw[Ys,Yz,List.map_take,List.map_drop,W4]
    ·rw[AD (Ae lou),AD (Ae plu)];exact uS
    ·exact LM (Paired.mapP g.pu λa b z=>z.mono tups) ⟨t,Y,tt⟩
    ·intro k vK hk;by_cases hki:k<uf.length
     ·rw[cY hki]at hk;exact g.uok k vK hk
     ·rw[Xl (by omega)]at hk;have DZ:k - uf.length=0:=by
       have:=(Yi.mp hk).1;simp at this;omega
      rw[DZ]at hk;have e:js=vK:=by simpa using hk
      have e2:k=i:=by have:=g.ul;omega
      rw[<- e,e2];exact uok
    ·have hperm:(os.take at_.toNat++i :: os.drop at_.toNat).Perm (i :: os):=by
      refine List.perm_middle.trans ?_;rw[cu]
     exact hperm.nodup_iff.mpr (Cr.mpr ⟨λz=>by have:=(g.om i).mp z;omega,g.on⟩)
    ·intro j;have hperm:(os.take at_.toNat++i :: os.drop at_.toNat).Perm (i :: os):=by
      refine List.perm_middle.trans ?_;rw[cu]
     rw[hperm.mem_iff,Yv,g.om];omega
    ·have hperm:(os.take at_.toNat++i :: os.drop at_.toNat).Perm (i :: os):=by
      refine List.perm_middle.trans ?_;rw[cu]
     rw[hperm.length_eq,Yt,g.ol]
  ·rintro σ H' ⟨os,uf,us,kv,rfl,g⟩;rw[Cq]at g;let Sn:SW:=λσ' H2=>∃(jP:Addr) (XD:LN) (kv:OV),σ'=[some (.ref p),some (.int most),some (.int (1 + v)),some (.ref lw),some (.int sh),some (.ref jP),some (.ref lu),kv]/\Drawn p H H2/\H2 lw=some (.lst (ws.map V.str))/\H2 jP=some (.lst (CB XD))/\H2 lu=some (.lst us)/\Paired (iA ws H2) uf us/\XD.Nodup/\(∀ j,j∈XD↔j<ws.length)/\XD.length=ws.length;refine⟨Sn,?_,?_⟩
   ·obtain⟨oP,hP,hoP⟩:=g.d.pot;refine⟨Z,p,3,oP,Y,hP,hoP,V,V,λv3 o9 _ _ ax=>⟨Y,Z,?_⟩⟩;have d9:Drawn p H (upd H' p o9):=g.d.trans (Drawn.upd ax);have t9:∀ b xs,H' b=some (.tup xs)->(upd H' p o9) b=some (.tup xs):=λb xs e=>by
     obtain⟨r,b',eP,_⟩:=hoP;rw[AD (λz=>by rw[z,hP,eP]at e;cases e)];exact e
    refine A1 (λ_=>?_) (λ_=>?_)
    ·refine⟨Z,(1:Int) + v,Y,W,W,λl hl=>?_⟩;rw[hmn,Zrw];have nn:∀ {b:Addr} {o:HO},(upd H' p o9) b=some o->(upd (upd H' p o9) l (.lst (CB (List.range ws.length)))) b=some o:=λ{b o} e=>by rw[AD (AK e hl)];exact e
     exact⟨l,List.range ws.length,Z,d9.new hl,nn (by rw[AD (Ae pw)];exact g.w),uS,nn (by rw[AD (Ae plu)];exact g.u),Paired.mapP g.pu λa b z=>(z.mono t9).mono λb xs e=>nn e,List.nodup_range,λj=>VG,by simp⟩
    ·exact⟨lo,os,Z,d9,by rw[AD (Ae pw)];exact g.w,by rw[AD (Ae plo)];exact g.o,by rw[AD (Ae plu)];exact g.u,Paired.mapP g.pu λa b z=>z.mono t9,g.on,g.om,g.ol⟩
   ·rintro σ' H2 ⟨jP,XD,vI,rfl,dE,wE,oE,uE,pE,on,om,ol⟩;refine⟨Z,jP,Y,⟨_,SqL.of oE⟩,?_⟩;refine Zo (CU (xs:=CB XD)) (sL (by unfold CB;rw[Ya];omega)) (λ_=>true)
     (λD x v H=>∃(j:Nat) (t u:Addr),x=.int (j:Int)/\v=.ref t/\t≠D/\u≠D/\H t=some (.tup [.str (ws.getD j ""),.ref u])/\H u=some (.tup (((uf.getD j []).map λi=>ws.getD i "").map V.str))) ?_ ?_ ?_ ?_ ?_
    ·rintro D x v H Uu hk ⟨j,t,u,e1,e2,h1,h2,h3,h4⟩;exact⟨j,t,u,e1,e2,h1,h2,hk _ _ h1 h3,hk _ _ h2 h4⟩
    ·intro H3 hs;exact hs.seq (SqL.of oE)
    ·intro x H3 R hs hx hR;exact hR H3 (AB.refl _)
    ·intro D x H3 R hs ⟨ys,hD⟩ eJ hx _ hR;obtain⟨j,hj,rfl⟩:=Yg.mp hx;have hjl:j<ws.length:=(om j).mp hj;have huj:uf[j]?=some (uf.getD j []):=by
      have:j<uf.length:=by rw[g.ul];exact hjl
      rw[Yl,Yb this];rfl
     obtain⟨uv,hu1,t,rfl,av⟩:=V2 pE huj;have au:=hs _ _ av;refine⟨Z,Z,lw,_,_,Z,Y,SqL.of (hs _ _ wE),wL hjl,Z,Z,lu,_,_,Z,Y,SqL.of (hs _ _ uE),Bb hu1,U,λtn htn=>?_⟩;have tD:tn≠D:=λz=>by rw[z,hD]at htn;cases htn
     have uD:t≠D:=λz=>by rw[z,hD]at au;cases au
     exact hR _ _ (λb o e=>by rw[AD (AK e htn)];exact e) ⟨j,tn,t,Y,Y,tD,uD,uS,by rw[AD (AK au htn)];exact au⟩
    ·intro D H3 ys hD hs hl hp;rw[kJ]at hp;have hDH:H D=none:=by
      cases e:H D with
      | none=>rfl
      | some o =>
       by_cases z:D=p
       ·obtain⟨oP,hP,_⟩:=dE.pot;rw[z,hP]at hD;cases hD
       ·rw[dE.keep D o z e]at hD;cases hD
     refine q D (XR ws uf XD) H3 (dE.same hs) hDH ⟨ys,hl,?_⟩ (Z5e (m:=ws.length) (by omega) (by omega) ok.word ok.nd rfl (λk js h=>⟨(g.uok k js h).below,(g.uok k js h).nd,(g.uok k js h).few⟩) g.ul on om ol) (by unfold XR;rw[Ya];omega);exact Zld hp
def bx:Sp:=λvs H Q _=>∃ x:Str,vs=[.str x]/\x.length<=1000/\∀ H',AB H H'->Q (.bl (AW x)) H'
def Zk0(K:Fg):Sp:=λvs H Q _=>∃(l:Addr) (rows:RS),vs=[.ref l]/\Zd K H l rows/\Am rows/\∀ H',AB H H'->Q .non H'
structure Wh(H:Hp)(d:Addr)(o:Obj)(rows:RS)(kvs:KL):Prop where
 at_:H d=some (.frz o (.dK kvs))
 ups:LH H rows kvs
theorem Wh.mono{H H':Hp}{d:Addr}{o:Obj}{rows:RS}{kvs:KL}(b:Wh H d o rows kvs)(s:AB H H'):Wh H' d o rows kvs:=⟨s _ _ b.at_,b.ups.mono λ_ _ e=>s _ _ e⟩
def z9:Sp:=λvs H Q _=>∃(d:Addr) (o:Obj) (rows:RS) (kvs:KL),vs=[.ref d]/\Wh H d o rows kvs/\Am rows/\∀ H',AB H H'->Q .non H'
def X_(us left:LS):V:=match us.find? (λx=>decide (x∈left))with | some x=>.str x | none=>.non
def xV(K:Fg):Sp:=λvs H Q _=>∃(a b:Addr) (us left:LS),vs=[.ref a,.ref b]/\AH K H a (us.map V.str)/\SqL K H b (left.map V.str)/\Q (X_ us left) H
def zV:Sp:=λvs H Q _=>∃(d:Addr) (o:Obj) (rows:RS) (kvs:KL),vs=[.ref d]/\Wh H d o rows kvs/\Am rows/\∀ l H',AB H H'->H' l=some (.lst [])->Q (.ref l) H'
def Z20:Sp:=λvs H Q _=>∃(d:Addr) (o:Obj) (rows:RS) (kvs:KL),vs=[.ref d]/\Wh H d o rows kvs/\Am rows/\∀ H',AB H H'->Q .non H'
structure Z2(mg:Str->OU):Prop where
 letters:∃ t,mg "LETTERS"=some (.str letters t)
 most:∃ t,mg "MOST_LETTERS"=some (.int 8 t)
 kinds:∃ t,mg "MOST_KINDS"=some (.int 24 t)
 ups:∃ t,mg "MOST_UPS"=some (.int 8 t)
 len:mg "len"=none
 all:mg "all"=none
 list:mg "list"=none
 tuple:mg "tuple"=none
def scW:AX ["text"] ["text"] (AJ Ww):=by nofun
def xH:(["sign"]:LS).Nodup:=by rfl'
def ke(F:Def K mg "is_word" Ww ["text"] f fd)(T:Z2 mg):⋯ 1 f fd ["text"] bx:=by
 nomatch F.fn.ok scW
 ·obtain⟨x,rfl,_⟩:=h;rfl
 ·obtain⟨x,rfl,hx,k⟩:=h;obtain⟨t1,hl⟩:=T.letters;obtain⟨t2,hm⟩:=T.most
  ac_nf
  refine⟨_,pS (AY (CO (kO Wm Wm AE (Aq UR (by rfl) T.len BI (pC (pv 0) AA)) (VB (v:=.int 8) (by rfl) hm ⟨Z⟩))) (AG (AO Cj)) Aa)
   (AG (AO (Aq (bg rfl) (by rfl) T.all cf (pC
    (Bm ["sign"] [] [] (λ_=>BH (osc:=AJ Ww) (on:=["text"]) (by rfl') rfl rfl rfl) (Z3e (pv 0)) (λC s H fp=>BN (i:=0) xH rfl (Or.inl rfl) (Or.inr rfl)) (λC s H fp=>Bn)
     (λC s H fp=>LK zP (pv 0) (VB (v:=.str letters) (by rfl) hl ⟨Z⟩) (by with_unfolding_all rfl))) AA)))),?_⟩
  exists AF _ a _ _ _
  refine⟨Z,_,Z,⟨sL (by omega),Y⟩,_,Z,Y,Z,?_⟩;have no:¬ (1<=x.length/\x.length<=8)->AW x=false:=λh=>by unfold AW;rw[Jc h];rfl
  have same:AB H H:=AB.refl H;refine A1 (λh1=>?_) (λh1=>?_)
  ·have h1:(1:Int)<=(x.length:Int):=Je h1;refine⟨_,Z,Y,Z,?_⟩;refine A1 (λh2=>?_) (λh2=>?_)
   ·have h2:¬ ((x.length:Int)<=8):=by simpa using h2
    have q:=k H same;rw[no (by omega)]at q;exact q
   ·have h2:((x.length:Int)<=8):=by simpa using h2
    refine⟨Z,Z,YQ yS (by unfold CP;rw[Ya,Cm];exact sL (by omega)) (λ_=>true) sH (λ_ _ _=>trivial) ?_ ?_ ?_⟩
    ·intro D ys v R _ _ hR;exact hR
    ·intro D ys v R _ hv _ hR;obtain⟨c,_,e⟩:=Yg.mp hv;subst e;exact⟨Z,_,Z,Y,hR⟩
    ·intro D hD;refine⟨D,x.cps.toList.map U_,Y,SqL.of (by rw[<- Zwv];exact uS),?_⟩;have e:(x.cps.toList.map U_).all id=AW x:=by
      unfold AW;rw[Jb (by omega),DQ,List.all_map];rfl
     have q:=k (upd H D (.lst (((CP x).filter λ_=>true).map sH))) λb o hb=>by rw[AD (AK hb hD)];exact hb
     rw[<- e]at q;exact q
  ·have h1:¬ ((1:Int)<=(x.length:Int)):=λz=>h1 (Jb z);refine⟨Z,?_⟩;refine Av ?_;have q:=k H same;rw[no (by omega)]at q;exact q
def kG{b:Bool}{H:Hp}{a:Addr}{xs:LV}(h:CW K b H a xs):Ydn K (.ref a) H xs.length:=by
 cases b with
 | true=>exact .inl ⟨xs,h,Y⟩
 | false=>exact .inr ⟨xs,h,Y⟩
def Yc5:AX ["rows","seen","word","ups"] ["rows"] (AJ lj):=by nofun
def Zns(F:Def K mg "check_rows" lj ["rows"] f fd)(DW:Def K mg "is_word" Ww ["text"] fW fdW)(T:Z2 mg):⋯ 2 f fd ["rows"] (Zk0 K):=by
 have GW:⋯ 1 fW fdW ["text"] bx:=ke DW T
 nomatch F.fn.ok Yc5
 ·obtain⟨l,rows,rfl,_⟩:=h;rfl
 ·obtain⟨l,rows,rfl,⟨b,vs,hl,hp⟩,g,q⟩:=h;obtain⟨t1,hK⟩:=T.kinds;obtain⟨t2,hU⟩:=T.ups;have nd:=Yc5.nd;have hu:=Tz hr
  ac_nf
  refine⟨_,pS (AY (CO (kO Wm Wm AE (Aq UR (by rfl) T.len BI (pC (pv 0) AA)) (VB (v:=.int 24) (by rfl) hK ⟨Z⟩))) CK Aa)
   (pS (sE 1 nd YI)
   (AG (BM Yw rfl (bX (pv 0)) (LJ rfl (gC (gE 2 nd) (gC (gE 3 nd) LL)))
    (pS (AY (CO (Bo (AL DW GW hr (pC (pv 2) AA)))) CK Aa)
    (pS (AY (XQ (bW hu (pv 2) (pv 1))) CK Aa)
    (pS (AY (Ag Wl (Aq UR (by rfl) T.len BI (pC (pv 3) AA)) (VB (v:=.int 8) (by rfl) hU ⟨Z⟩) (Ab _)) CK Aa)
    (AG (Ws hu (pv 1) (pv 2) Cj rfl)))))))),?_⟩
  exists let b:=AF _ a;let c:=AF _ b;let e:=AF _ c;let f:=BS _ _ e;let g:=AF _ f;AF _ g _ _ _
  have hvl:=hp.length;have g1:=g.ne;have g2:=g.le;refine⟨Z,_,Z,kG hl,_,Z,Y,Z,?_⟩;rw[show decide ((1:Int)<=(vs.length:Int))=true from Jb (by omega)];refine Av ⟨_,Z,Y,Z,?_⟩;rw[show(decide ((vs.length:Int)<=24))=true from Jb (by omega)];refine AS ?_;intro d hd;have s0:AB H (upd H d (.dK [])):=λb o e=>by rw[AD (AK e hd)];exact e
  let Au:NW:=λi σ H'=>∃(kvs:KL) (a c:OV),σ=[some (.ref l),some (.ref d),a,c]/\AB H H'/\H' d=some (.dK kvs)/\kvs.map (·.1)=(rows.take i).map λr=>(Sum.inr r.1:Key);refine⟨Z,b,l,vs,Y,hl.mono s0,Bz b0 Au
   ⟨[],none,none,Y,s0,uS,by simp⟩ (λi σ H' _ h0=>by obtain⟨_,_,_,_,s,_⟩:=h0;exact hl.mono s) ?_ ?_⟩
  ·rintro i v σ H' hi ⟨kvs,a,c,rfl,s,hdk,hk⟩;obtain⟨r,Az,t,u,rfl,ht,hug⟩:=Bp hp hi;obtain⟨b',SU⟩:=hug.sq;have Ak:r∈rows:=Yd Az;have hw:=g.word r Ak;have hwl:=Dh hw;refine⟨t,Z,s.tup ht,Y,_,Z,_,Z,Y,?_⟩;refine⟨Z,r.1,Y,W,λH2 s2=>⟨Z,?_⟩⟩;rw[hw];refine AS ?_;have hd2:H2 d=some (.dK kvs):=s2 _ _ hdk;refine⟨Z,Z,d,Z,Bj.k (k:=Sum.inr r.1) hd2,Z,?_⟩;have A7:(Sum.inr r.1:Key)∉kvs.map (·.1):=by rw[hk];exact gU g.nd Az
   rw[Vz A7];refine AS ?_;refine⟨Z,_,Z,kG (SU.mono (s.trans s2)),_,Z,Y,Z,?_⟩;rw[show decide ((8:Int)<((r.2.map V.str).length:Int))=false from Jc (by rw[Ya];have:=g.few r Ak;omega)];refine AS ?_;have hkl:kvs.length=(rows.take i).length:=by have:=congrArg List.length hk;simpa using this
   have hil:(rows.take i).length<=24:=by rw[Bg];omega
   refine⟨Z,Z,d,Z,Sa.k (k:=Sum.inr r.1) hd2 (Bq (by omega)),?_⟩;refine⟨_,_,Z,λb o e=>?_,uS,?_⟩
   ·rw[AD (AK e hd)];exact s2 _ _ (s _ _ e)
   ·rw[rM A7,hk,Bt,Az,Ys];rfl
  ·rintro σ H' ⟨kvs,a,c,rfl,s,hdk,hk⟩;exact q H' s
def Yc4:AX ["ups_of","ups","seen","up"] ["ups_of"] (AJ lN):=by nofun
def kD{us:LS}{i:Nat}{v:V}(h:(us.map V.str)[i]?=some v):∃ x,us[i]?=some x/\v=.str x:=by
 rw[Yj]at h;obtain⟨x,hx,e⟩:=CV.mp h;exact⟨x,hx,e.symm⟩
def Zv3{us:LS}{i:Nat}{x:Str}(nd:us.Nodup)(h:us[i]?=some x):(Sum.inr x:Key)∉(us.take i).map λy=>(Sum.inr y:Key):=by
 intro m;obtain⟨y,hy,e⟩:=Yg.mp m;have e:y=x:=by injection e
 subst e;obtain⟨j,hj,ej⟩:=mr.mp hy;rw[Bg]at hj;rw[List.getElem_take]at ej;have a:us[j]?=some y:=by rw[Yb (by omega),ej]
 have:=bz nd a h;omega
def Zpu(F:Def K mg "check_ups" lN ["ups_of"] f fd):⋯ 1 f fd ["ups_of"] z9:=by
 nomatch F.fn.ok Yc4
 ·obtain⟨d,o,rows,kvs,rfl,_⟩:=h;rfl
 ·obtain⟨d,o,rows,kvs,rfl,bk,g,q⟩:=h;have nd:=Yc4.nd;have hu:=Tz hr
  ac_nf
  refine⟨_,AG (BM Yw rfl (Z4i (pv 0)) (gE 1 nd)
    (pS (sE 2 nd YI)
    (AG (BM Yw rfl (UQ (pv 1)) (gE 3 nd)
     (pS (AY (XQ (rK hu (pv 3) (pv 0))) CK Aa)
     (pS (AY (XQ (bW hu (pv 3) (pv 2))) CK Aa)
     (AG (Ws hu (pv 2) (pv 3) Cj rfl)))))))),?_⟩
  exists let b:=AF _ a;let c:=AF _ b;let e:=BS _ _ c;let f:=AF _ e;BS _ _ f _ _ _
  let D0:NW:=λi σ H'=>∃(a b c:OV),σ=[some (.ref d),a,b,c]/\AB H H';refine⟨Z,d,o,kvs,Y,bk.at_,Bz Zw4 D0 ⟨none,none,none,Y,AB.refl H⟩ (λi σ H' _ h0=>by obtain⟨_,_,_,_,s⟩:=h0;exact s _ _ bk.at_) ?_ ?_⟩
  ·rintro i v σ H' hi ⟨a,b,c,rfl,s⟩;rw[Yj]at hi;obtain⟨p,hp,e⟩:=CV.mp hi;obtain⟨r,Az,hk,t,ht,htup⟩:=Bp bk.ups hp;have Ak:r∈rows:=Yd Az;subst e;show Ck 1 p.2 _ _ _;rw[ht];intro sd hsd;have s1:AB H (upd H' sd (.dK [])):=λb o e=>by rw[AD (AK (s _ _ e) hsd)];exact s _ _ e
   have t1:(upd H' sd (.dK [])) t=some (.tup (r.2.map V.str)):=s1 _ _ htup;let tG:NW:=λj σ H2=>∃(D9:KL) (c:OV),σ=[some (.ref d),some (.ref t),some (.ref sd),c]/\AB H H2/\H2 sd=some (.dK D9)/\D9.map (·.1)=(r.2.take j).map λy=>(Sum.inr y:Key);refine⟨Z,t,Y,⟨_,AH.of t1⟩,Bz (Uo (xs:=r.2.map V.str)) tG
    ⟨[],Z,s1,uS,by simp⟩ (λj σ H2 _ h0=>by obtain⟨_,_,_,s,_⟩:=h0;exact AH.of (s _ _ htup)) ?_ ?_⟩
   ·rintro j v σ H2 hj ⟨D9,c,rfl,s2,aK,Dm⟩;obtain⟨x,hx,rfl⟩:=kD hj;have xm:x∈r.2:=Yd hx;have known:=g.known r Ak x xm;refine⟨Z,Z,d,Z,Bj.f (k:=Sum.inr x) (s2 _ _ bk.at_),Z,?_⟩;obtain⟨r2,B6,vz⟩:=Yg.mp known;obtain⟨t2,dU,_⟩:=bk.ups.val g.nd B6;rw[<- vz,dU,vz];refine AS ?_;have A7:(Sum.inr x:Key)∉D9.map (·.1):=by rw[Dm];exact Zv3 (g.upnd r Ak) hx
    refine⟨Z,Z,sd,Z,Bj.k (k:=Sum.inr x) aK,Z,?_⟩;rw[Vz A7];refine AS ?_;have hkl:D9.length=(r.2.take j).length:=by have:=congrArg List.length Dm;simpa using this
    have hjl:(r.2.take j).length<=8:=by rw[Bg];have:=g.few r Ak;omega
    have hsH:H sd=none:=s.free hsd;refine⟨Z,Z,sd,Z,Sa.k (k:=Sum.inr x) aK (Bq (by omega)),_,Z,λb o e=>?_,uS,?_⟩
    ·rw[AD (AK e hsH)];exact s2 _ _ e
    ·rw[rM A7,Dm,Bt,hx,Ys];rfl
   ·rintro σ H2 ⟨D9,c,rfl,s2,aK,Dm⟩;exact⟨_,_,Z,s2⟩
  ·rintro σ H' ⟨a,b,c,rfl,s⟩;exact q H' s
def Yc1:AX ["words","others","word"] ["words","others"] (AJ cN):=by nofun
def Z1g(F:Def K mg "first_among" cN ["words","others"] f fd):⋯ 1 f fd ["words","others"] (xV K):=by
 nomatch F.fn.ok Yc1
 ·obtain⟨a,b,us,left,rfl,_⟩:=h;rfl
 ·obtain⟨a,b,us,left,rfl,ha,hb,q⟩:=h;have nd:=Yc1.nd
  ac_nf
  refine⟨_,pS (BM Yw rfl (UQ (pv 0)) (gE 2 nd) (AG (AY (Ag gO (pv 2) (pv 1) (by with_unfolding_all rfl)) (AG (AO (pv 2))) Aa)))
   (AG (AO jt)),?_⟩
  exists let b:=_;AF (BS _ _ b) a _ _ _
  let Iv4:NW:=λi σ H'=>H'=H/\(∃ c:OV,σ=[some (.ref a),some (.ref b),c])/\(us.take i).find? (λx=>decide (x∈left))=none;refine⟨Z,a,Y,⟨_,ha⟩,Bz (Uo (xs:=us.map V.str)) Iv4 ⟨Y,⟨none,Y⟩,by simp⟩ (λi σ H' _ ⟨e,_⟩=>by rw[e];exact ha) ?_ ?_⟩
  ·rintro i v σ H' hi ⟨rfl,⟨c,rfl⟩,hf⟩;obtain⟨x,hx,rfl⟩:=kD hi;refine⟨Z,Z,b,Z,.inl hb,Y,Zs left,Z,?_⟩;show if Ug (.str x) (left.map V.str)=true then _ else _
   rw[YD];have split:us=us.take i++x :: us.drop (i + 1):=by
    have BK:=(Yi.mp hx).1;have e:us[i]=x:=(Yi.mp hx).2;rw[<- e,List.getElem_cons_drop BK,cu]
   refine A1 (λh=>?_) (λh=>?_)
   ·have fv:X_ us left=.str x:=by
     unfold X_;rw[split,List.find?_append,hf,Xg];simp only[h];rfl
    rw[fv]at q;exact⟨Z,q⟩
   ·refine⟨Y,⟨Z⟩,?_⟩;rw[Bt,hx,List.find?_append,hf];have h':decide (x∈left)=false:=by simpa using h
    simp[h']
  ·rintro σ H' ⟨rfl,⟨c,rfl⟩,hf⟩;rw[Ya,Bs]at hf;have fv:X_ us left=.non:=by unfold X_;rw[hf]
   rw[fv]at q;exact q
def sO(rows:RS)(ls:LS):V->Bool
 | .str x=>(BG rows x).any λu=>decide (u∈ls)
 | _=>false
def Z11(rows:RS)(ls:LS):((ls.map V.str).filter (sO rows ls)).map (λv=>v)=(Graph.kept (BG rows) ls).map V.str:=by
 rw[List.map_id',hX];rfl
def Z18(us ls:LS):(!decide (X_ us ls=V.non))=us.any λu=>decide (u∈ls):=by
 unfold X_;cases e:us.find? λx=>decide (x∈ls)with
 | none =>
  have:∀ x∈us,¬ decide (x∈ls)=true:=List.find?_eq_none.mp e;rw[W0];constructor
  ·intro h;simp at h
  ·intro h;obtain⟨x,hx,h1⟩:=Xk.mp h;exact absurd h1 (this x hx)
 | some x =>
  have h1:=List.find?_some e;have h2:=List.mem_of_find?_eq_some e;rw[W0];constructor
  ·intro _;exact Xk.mpr ⟨x,h2,h1⟩
  ·intro _;rfl
abbrev Ydf:LS:=["ups_of","left","kept"]
def uk:AX Ydf ["ups_of"] (AJ b9):=by nofun
def Z70:(["word","ups_of","left"]:LS).Nodup:=by rfl'
def YL{rows:RS}{x:Str}(h:x∈rows.map (·.1)):∃ r∈rows,r.1=x:=by
 obtain⟨r,hr,e⟩:=Yg.mp h;exact⟨r,hr,e⟩
def Zut(F:Def K mg "endless" b9 ["ups_of"] f fd)(DF:Def K mg "first_among" cN ["words","others"] fF fdF)(T:Z2 mg):⋯ 2 f fd ["ups_of"] zV:=by
 have GF:⋯ 1 fF fdF ["words","others"] (xV K):=Z1g DF
 nomatch F.fn.ok uk
 ·obtain⟨d,o,rows,kvs,rfl,_⟩:=h;rfl
 ·obtain⟨d,o,rows,kvs,rfl,bk,g,q⟩:=h;have nd:=uk.nd;have hu:=Tz hr
  ac_nf
  refine⟨_,pS (Sl (i:=1) nd rfl (Or.inr rfl) (Co (Zij rfl) (by rfl) T.list W2 (pC (pv 0) AA)))
   (AG (gJ Yw (Bo Cj)
    (pS (Zw (k:=2) ["word"] ["ups_of","left"] [0,1] nd rfl rfl (λ_=>BH (osc:=AJ b9) (on:=Ydf) (by rfl') rfl rfl rfl) (CD (pv 1)) (λC s H fp=>BN (i:=0) Z70 rfl (Or.inl rfl) (Or.inr rfl))
     (λC s H fp=>Zl (XQ (xD (AL DF GF hr (pC (Wr hu (pv 1) (pv 0) (λ_ _=>rfl)) (pC (pv 2) AA)))))) (λC s H fp=>pv 0))
    (pS (AY (Ag BV (Aq UR (by rfl) T.len BI (pC (pv 2) AA)) (Aq UR (by rfl) T.len BI (pC (pv 1) AA)) (Ab _)) (AG (AO (pv 2))) Aa)
    (AG (Sl (i:=1) nd rfl (Or.inr rfl) (pv 2))))))),?_⟩
  exists let b:=AF _ a;let c:=AF _ b;let e:=jy _ c;AF _ e _ _ _
  have wl:(rows.map (·.1)).length<=24:=by rw[Ya];exact g.le
  refine⟨Z,d,kvs,Y,.inr ⟨o,bk.at_⟩,λl0 WX=>?_⟩;let Sn:NW:=λm σ H'=>∃(ll:Addr) (ls:LS) (c:OV),σ=[some (.ref d),some (.ref ll),c]/\AB H H'/\H' ll=some (.lst (ls.map V.str))/\(∀ x∈ls,x∈rows.map (·.1))/\ls.length<=24/\m=ls.length;refine⟨Sn,
   ⟨_,l0,rows.map (·.1),none,Y,λb o e=>by rw[AD (AK e WX)];exact e,by rw[uS,Ya4 bk.ups],λx h=>h,wl,Y⟩,?_⟩
  rintro m σ H' ⟨ll,ls,c,rfl,s1,hll,hsub,h24,rfl⟩;refine⟨true,Y,?_⟩;let Xp:SW:=λσ' H2=>∃ m',m'<ls.length/\∃(ll:Addr) (ls:LS) (c:OV),σ'=[some (.ref d),some (.ref ll),c]/\AB H H2/\H2 ll=some (.lst (ls.map V.str))/\(∀ x∈ls,x∈rows.map (·.1))/\ls.length<=24/\m'=ls.length;refine Av ⟨Xp,λ_ _ h=>h,?_⟩;refine⟨Z,ll,Y,⟨_,SqL.of hll⟩,YQ (CU (xs:=ls.map V.str)) (sL (by rw[Ya];omega)) (sO rows ls) (λv=>v) (λD ys hD=>SqL.of (by rw[AD (AK hll hD)];exact hll)) ?_ ?_ ?_⟩
  ·intro D ys v R hD hv hR;obtain⟨x,hx,rfl⟩:=Yg.mp hv;obtain⟨r,Az,rfl⟩:=YL (hsub x hx);obtain⟨t,hvt,ht⟩:=bk.ups.val g.nd Az;have kp:∀ b o,H b=some o->(upd H' D (.lst ys)) b=some o:=λb o e=>by rw[AD (AK (s1 _ _ e) hD)];exact s1 _ _ e
   refine⟨Z,Z,d,Z,(by rw[<- hvt];exact Bj.f (k:=Sum.inr r.1) (kp _ _ bk.at_)),Z,t,ll,r.2,ls,Y,AH.of (kp _ _ ht),SqL.of (by rw[AD (AK hll hD)];exact hll),Z,?_⟩;have e:(!decide (X_ r.2 ls=V.non))=sO rows ls (V.str r.1):=by
    rw[Z18];show _=(BG rows r.1).any _;rw[gH g.nd Az]
   rw[e];exact hR
  ·intro D ys v R hD hv _ hR;exact⟨Z,hR⟩
  ·intro D hD;rw[Z11];have hDl:(upd H' D (.lst ((Graph.kept (BG rows) ls).map V.str))) ll=some (.lst (ls.map V.str)):=by rw[AD (AK hll hD)];exact hll
   have s2:AB H (upd H' D (.lst ((Graph.kept (BG rows) ls).map V.str))):=λb o e=>by rw[AD (AK (s1 _ _ e) hD)];exact s1 _ _ e
   refine⟨Z,_,Z,.inl ⟨_,SqL.of uS,Y⟩,Z,_,Z,.inl ⟨_,SqL.of hDl,Y⟩,Y,Z,?_⟩;have kle:=Graph.kept_le (BG rows) ls;refine A1 (λh=>?_) (λh=>?_)
   ·have h:(Graph.kept (BG rows) ls).length=ls.length:=by
     have:=Je h;injection this with this;rw[Ya,Ya]at this;omega
    obtain⟨rk,hrk⟩:=g.rank;have nil:ls=[]:=Graph.kept_nil (rk:=rk) (λa ha b hb=>by
     obtain⟨r,Az,rfl⟩:=YL (hsub a ha);rw[gH g.nd Az]at hb;exact hrk r Az b hb) h
    have kn:Graph.kept (BG rows) ls=[]:=by rw[nil];rfl
    refine⟨Z,q D _ s2 ?_⟩;rw[uS,kn];rfl
   ·have h:(Graph.kept (BG rows) ls).length≠ls.length:=λz=>h (Jb (by rw[Ya,Ya,z]));exact⟨Z,_,W,D,_,Z,s2,uS,λx hx=>hsub x (Graph.kept_sub hx),W,Y⟩
def ug:AX ["ups_of","left","way","here"] ["ups_of"] (AJ lO):=by nofun
def Z4r(F:Def K mg "find_ring" lO ["ups_of"] f fd)(DE:Def K mg "endless" b9 ["ups_of"] fE fdE)(DF:Def K mg "first_among" cN ["words","others"] fF fdF)(T:Z2 mg):⋯ 3 f fd ["ups_of"] Z20:=by
 have GE:⋯ 2 fE fdE ["ups_of"] zV:=Zut DE DF T
 nomatch F.fn.ok ug
 ·obtain⟨d,o,rows,kvs,rfl,_⟩:=h;rfl
 ·obtain⟨d,o,rows,kvs,rfl,bk,g,q⟩:=h;have nd:=ug.nd
  ac_nf
  refine⟨_,pS (sE 1 nd (AL DE GE hr (pC (pv 0) AA)))
   (pS (AY (CO (gK (pv 1) (λ_=>rfl))) (AG (AO jt)) Aa) CK),?_⟩
  exists let b:=AF _ a;AF _ b _ _ _
  refine⟨Z,d,o,rows,kvs,Y,bk,g,λl H' s1 hl=>?_⟩;exact⟨Z,false,.inl ⟨[],SqL.of hl,Y⟩,Av (q H' s1)⟩
def dS(x:Str):Key:=Sum.inr x
def xR:Sp:=λvs H Q _=>∃(d:Addr) (o:Obj) (rows:RS) (kvs:KL) (x:Str),vs=[.ref d,.str x]/\Wh H d o rows kvs/\Am rows/\x∈rows.map (·.1) /\
 ∀ a o' fk H',H a=none->AB H H'->H' a=some (.frz o' (.dK fk))->(∀ y,(Sum.inr y:Key)∈fk.map (·.1)↔Graph.Reach (BG rows) x y)->Q (.ref a) H'
structure sI(rows:RS)(x:Str)(fs ws:LS):Prop where
 start:x∈fs
 sub:∀ y∈ws,y∈fs
 known:∀ y∈fs,y∈rows.map (·.1)
 nd:fs.Nodup
 reach:∀ y∈fs,Graph.Reach (BG rows) x y
 closed:∀ y∈fs,y∉ws->∀ u∈BG rows y,u∈fs
 few:ws.length<=fs.length
def uq:AX ["ups_of","word","found","waiting","here","up"] ["ups_of","word"] (AJ lL):=by nofun
def rC{fk:KL}{fs:LS}(h:fk.map (·.1)=fs.map dS)(y:Str):(Sum.inr y:Key)∈fk.map (·.1)↔y∈fs:=by
 rw[h];constructor
 ·intro m;obtain⟨z,hz,e⟩:=Yg.mp m;have e:z=y:=by
   unfold dS at e;injection e
  rw[<- e];exact hz
 ·intro m;exact Yg.mpr ⟨y,m,Y⟩
def lS{fk:KL}{k:Key}(h:k∈fk.map (·.1)):(BB fk k).isSome=true:=by
 cases e:BB fk k with
 | none=>exact absurd h (Z0g e)
 | some v=>rfl
def Z1l(F:Def K mg "all_above" lL ["ups_of","word"] f fd):⋯ 1 f fd ["ups_of","word"] xR:=by
 nomatch F.fn.ok uq
 ·obtain⟨d,o,rows,kvs,x,rfl,_⟩:=h;rfl
 ·obtain⟨d,o,rows,kvs,x,rfl,bk,g,hx,q⟩:=h;have nd:=uq.nd;have hu:=Tz hr
  ac_nf
  refine⟨_,pS (sE 2 nd (Z4k (Z0t (pv 1) Cj Z4g) rfl rfl (by simp) (by show 1<=15;decide)))
   (pS (sE 3 nd (BX (pC (pv 1) AA)))
   (pS (gJ Yw (gK (pv 3) (λ_=>rfl))
    (pS (sE 4 nd (Z7n Cs PySem.F.slot_list_pop PySem.F.type_list_pop Z8h (pv 3)))
    (AG (BM Yw rfl (UQ (Wr hu (pv 0) (pv 4) (λ_ _=>rfl))) (gE 5 nd)
     (AG (AY (XQ (rK hu (pv 5) (pv 2))) (pS (Ws hu (pv 2) (pv 5) Cj rfl)
      (AG (Bc (Be Cs Dy Dx Di (pv 3) (pC (pv 5) AA))))) Aa))))))
   (j8 (AG (AO (pv 2)))))),?_⟩
  exists let b:=_;let c:=AF _ b;let e:=By _ c _;let f:=BS _ _ e;let g:=AF _ f;let h:=AF (jy _ g) a;let i:=AF _ h;AF _ i _ _ _
  intro fa hfa;refine⟨Z,uS,[(Sum.inr x,.bl true)],Y,(by show 1<=15;decide),?_⟩;rw[YG];refine⟨Z,O,λwa hwa=>?_⟩;have fw:fa≠wa:=AK uS hwa;have hwaH:H wa=none:=by
   cases e:H wa with
   | none=>rfl
   | some u=>rw[AD (Ae fw),e]at hwa;cases hwa
  have bound:∀ {fs ws:LS},sI rows x fs ws->fs.length<=rows.length:=λ{fs ws} h=>by
   have:=Graph.nodup_le h.nd h.known
   rwa [Ya]at this
  have gle:=g.le;let iH:NW:=λm σ H'=>∃(fs ws:LS) (fk:KL) (a b:OV),σ=[some (.ref d),some (.str x),some (.ref fa),some (.ref wa),a,b]/\AB H H'/\H' fa=some (.dK fk)/\fk.map (·.1)=fs.map dS/\H' wa=some (.lst (ws.map V.str))/\sI rows x fs ws/\m + 2 * fs.length=2 * rows.length + ws.length;refine⟨iH,
   ⟨2 * rows.length - 1,[x],[x],[(Sum.inr x,.bl true)],none,none,Y,λb o e=>by rw[AD (AK e hwaH),AD (AK e hfa)];exact e,by rw[AD fw];exact uS,Y,uS,
    ⟨by simp,λy h=>h,λy h=>by rw[Yh.mp h];exact hx,by simp,λy h=>by rw[Yh.mp h];exact .refl x,λy h n=>absurd h n,Yf _⟩,by have:=g.ne;simp;omega⟩,?_⟩
  rintro m σ H' ⟨fs,ws,fk,a,b,rfl,s1,hf,hk,hw,go,hm⟩;have flen:=bound go;refine⟨Z,_,.inl ⟨_,SqL.of hw,Y⟩,?_⟩;refine A1 (λBJ=>?_) (λBJ=>?_)
  ·-- here=waiting.pop()
   have wne:ws≠[]:=by
    intro z;rw[z]at BJ;cases BJ
   have hpos:0<ws.length:=Wz.mpr wne;have split:ws=ws.dropLast++[ws.getLast wne]:=(List.dropLast_concat_getLast wne).symm;generalize hhere:ws.getLast wne=here at split;have Ak:here∈ws:=by rw[split];simp
   have hfs:here∈fs:=go.sub here Ak;obtain⟨r,Az,er⟩:=YL (go.known here hfs);obtain⟨t,hvt,ht⟩:=bk.ups.val g.nd Az;have last:(ws.map V.str)[(ws.map V.str).length - 1]?=some (V.str here):=by
    rw[Yj,Ya];have:ws[ws.length - 1]?=some here:=by
     rw[<- hhere,List.getLast_eq_getElem,Yb (by omega)]
    rw[this];rfl
   let iG:SW:=λσ' H2=>∃ m',m'<m/\∃(fs ws:LS) (fk:KL) (a b:OV),σ'=[some (.ref d),some (.str x),some (.ref fa),some (.ref wa),a,b]/\AB H H2/\H2 fa=some (.dK fk)/\fk.map (·.1)=fs.map dS/\H2 wa=some (.lst (ws.map V.str))/\sI rows x fs ws/\m' + 2 * fs.length=2 * rows.length + ws.length;refine⟨iG,λ_ _ h=>h,?_⟩;refine⟨Z,.inl ⟨Y,_,SqL.of hw⟩,wa,_,Z,Y,hw,last,?_⟩;have s2:AB H (upd H' wa (.lst (ws.map V.str).dropLast)):=λb o e=>by rw[AD (AK e hwaH)];exact s1 _ _ e
   refine⟨Z,Z,d,Z,(by rw[<- hvt,er];exact Bj.f (k:=Sum.inr here) (s2 _ _ bk.at_)),t,Y,⟨_,AH.of (s2 _ _ ht)⟩,?_⟩;have uo:BG rows here=r.2:=by rw[<- er];exact gH g.nd Az
   refine Bz (Uo (xs:=r.2.map V.str)) (λj σ H2=>∃(CI Uw:LS) (LF:KL) (b:OV),σ=[some (.ref d),some (.str x),some (.ref fa),some (.ref wa),some (.str here),b]/\AB H H2/\H2 fa=some (.dK LF)/\LF.map (·.1)=CI.map dS/\H2 wa=some (.lst (Uw.map V.str)) /\
    (∀ y∈fs,y∈CI)/\(∀ y∈ws.dropLast,y∈Uw)/\(∀ y∈Uw,y∈CI)/\(∀ y∈CI,y∈rows.map (·.1))/\CI.Nodup/\(∀ y∈CI,Graph.Reach (BG rows) x y)/\(∀ y∈CI,y∈fs\/y∈Uw)/\(∀ u∈r.2.take j,u∈CI)/\Uw.length + 2 * fs.length + CI.length<=ws.dropLast.length + 2 * CI.length + fs.length)
    ⟨fs,ws.dropLast,fk,Z,s2,by rw[AD fw];exact hf,hk,by rw[uS,List.map_dropLast],λy h=>h,λy h=>h,λy h=>go.sub y ((List.dropLast_sublist ws).subset h),go.known,go.nd,go.reach,λy h=>.inl h,λu h=>by simp at h,W⟩ (λj σ H2 _ h0=>by obtain⟨_,_,_,_,_,s,_⟩:=h0;exact AH.of (s _ _ ht)) ?_ ?_
   ·rintro j v σ H2 hj ⟨CI,Uw,LF,b,rfl,s3,dj,ZY,aq,c1,c2,c3,c4,c5,c6,c7,c8,c9⟩;obtain⟨u,SU,rfl⟩:=kD hj;have um:u∈r.2:=Yd SU;have fl3:CI.length<=rows.length:=by
     have:=Graph.nodup_le c5 c4
     rwa [Ya]at this
    have kl:LF.length=CI.length:=by have:=congrArg List.length ZY;simpa using this
    refine⟨Z,Z,fa,Z,Bj.k (k:=Sum.inr u) dj,Z,?_⟩;have dl:ws.dropLast.length=ws.length - 1:=List.length_dropLast;have gf:=go.few;by_cases nin:u∉CI
    ·have nk:(Sum.inr u:Key)∉LF.map (·.1):=λz=>nin ((rC ZY u).mp z);have nj:Uw.length<=rows.length * 3:=by omega
     rw[Vz nk];refine Av ?_;refine⟨Z,Z,fa,Z,Sa.k (k:=Sum.inr u) dj (Bq (by omega)),?_⟩;have vO:(upd H2 fa (.dK (Ao LF (Sum.inr u) (.bl true)))) wa=some (.lst (Uw.map V.str)):=by rw[AD (Ae fw)];exact aq
     refine⟨Z,.inl ⟨Y,_,SqL.of vO⟩,Z,wa,_,Z,Y,vO,Bq (by rw[Ya];omega),?_⟩;refine⟨CI++[u],Uw++[u],Ao LF (Sum.inr u) (.bl true),Z,λb o e=>by rw[AD (AK e hwaH),AD (AK e hfa)];exact s3 _ _ e,by rw[AD fw];exact uS,?_,by rw[uS,Ys];rfl,λy h=>Xh _ (c1 y h),λy h=>Xh _ (c2 y h),λy h=>?_,λy h=>?_,?_,λy h=>?_,λy h=>?_,λy h=>?_,?_⟩
     ·rw[rM nk,ZY,Ys];rfl
     ·rcases Yo.mp h with h | h
      ·exact Xh _ (c3 y h)
      ·exact Ut _ h
     ·rcases Yo.mp h with h | h
      ·exact c4 y h
      ·rw[Yh.mp h];exact g.known r Az u um
     ·rw[List.nodup_append];exact⟨c5,by simp,λa ha b hb e=>nin (by rw[<- Yh.mp hb,<- e];exact ha)⟩
     ·rcases Yo.mp h with h | h
      ·exact c6 y h
      ·rw[Yh.mp h];exact(go.reach here hfs).snoc (by rw[uo];exact um)
     ·rcases Yo.mp h with h | h
      ·rcases c7 y h with h | h
       ·exact .inl h
       ·exact .inr (Xh _ h)
      ·exact .inr (Ut _ h)
     ·rw[Bt,SU]at h
      rcases Yo.mp h with h | h
      ·exact Xh _ (c8 y h)
      ·have:y=u:=by simpa using h
       rw[this];exact Ut _ (by simp)
     ·rw[Yc,Yc];simp only[UY];omega
    ·have yin:u∈CI:=nD nin;rw[lS ((rC ZY u).mpr yin)];refine AS ?_;refine⟨CI,Uw,LF,Z,s3,dj,ZY,aq,c1,c2,c3,c4,c5,c6,c7,λy h=>?_,c9⟩;rw[Bt,SU]at h
     rcases Yo.mp h with h | h
     ·exact c8 y h
     ·have:y=u:=by simpa using h
      rw[this];exact yin
   ·rintro σ H2 ⟨CI,Uw,LF,b,rfl,s3,dj,ZY,aq,c1,c2,c3,c4,c5,c6,c7,c8,c9⟩;rw[Ya,Bs]at c8;have fl3:CI.length<=rows.length:=by
     have:=Graph.nodup_le c5 c4
     rwa [Ya]at this
    have dl:ws.dropLast.length=ws.length - 1:=List.length_dropLast;have fle:fs.length<=CI.length:=Graph.nodup_le go.nd c1;have gf:=go.few;refine⟨2 * rows.length + Uw.length - 2 * CI.length,W,CI,Uw,LF,_,Z,s3,dj,ZY,aq,⟨c1 x go.start,c3,c4,c5,c6,λy hy hn u SU=>?_,W⟩,W⟩
    rcases c7 y hy with Uy | Uy
    ·by_cases yh:y=here
     ·rw[yh,uo]at SU;exact c8 u SU
     ·have nw:y∉ws:=λz=>by
       rw[split]at z
       rcases Yo.mp z with z | z
       ·exact hn (c2 y z)
       ·exact yh (Yh.mp z)
      exact c1 u (go.closed y Uy nw u SU)
    ·exact absurd Uy hn
  ·have wnil:ws=[]:=by
    cases ws with
    | nil=>rfl
    | cons y r=>exact absurd rfl BJ
   refine⟨fa,fk,hf,λo'=>⟨Z,q fa o' fk _ hfa (λb o e=>by rw[AD (AK e hfa)];exact s1 _ _ e) uS λy=>?_⟩⟩;rw[rC hk y];constructor
   ·exact λh=>go.reach y h
   ·intro h;refine Graph.closed_reach (S:=λy=>y∈fs) (λy hy u SU=>go.closed y hy (by rw[wnil];simp) u SU) h go.start
def pP:¬ (("ups_of":Str)="above_of"):=by rfl'
def VY(d a:Addr):List (Str×V):=Ba "above_of" (.ref a) (Ba "ups_of" (.ref d) [])
def Z3n(d a:Addr):(VY d a).lookup ("ups_of":Str)=some (.ref d):=by
 unfold VY;rw[CT,if_neg pP,CT,if_pos rfl]
def Z8u(d a:Addr):(VY d a).lookup ("above_of":Str)=some (.ref a):=by
 unfold VY;rw[CT,if_pos rfl]
def kE(d a:Addr){m:Str}(h1:¬ m="above_of")(h2:¬ m="ups_of"):(VY d a).lookup m=none:=by
 unfold VY;rw[CT,if_neg h1,CT,if_neg h2];rfl
def Vu(H:Hp)(all rows:RS)(AR:KL):Prop :=
 Paired (λr (p:Key×V)=>p.1=Sum.inr r.1/\∃ t o' fk,p.2=.ref t/\H t=some (.frz o' (.dK fk))/\∀ y,(Sum.inr y:Key)∈fk.map (·.1)↔Graph.Reach (BG all) r.1 y) rows AR
def Vu.mono{H H':Hp}{all rows:RS}{AR:KL}(h:Vu H all rows AR)(s:∀ b o' fk,H b=some (.frz o' (.dK fk))->H' b=some (.frz o' (.dK fk))):Vu H' all rows AR :=
 Paired.mapP h λ_ _ z=>⟨z.1,let⟨t,o',fk,e,x,y⟩:=z.2;⟨t,o',fk,e,s _ _ _ x,y⟩⟩
theorem Vu.keys:∀ {H:Hp}{all rows:RS}{kvs:KL},Vu H all rows kvs->kvs.map (·.1)=rows.map λr=>(Sum.inr r.1:Key)
 | _,_,_,_,.nil=>rfl
 | _,_,_,_,.cons r t=>by rw[Yz,Yz,r.1,Vu.keys t]
theorem Vu.val:∀ {H:Hp}{all rows:RS}{kvs:KL},Vu H all rows kvs->(rows.map (·.1)).Nodup->∀ {r:Str×LS},r∈rows->∃ t o' fk,BB kvs (Sum.inr r.1)=some (.ref t)/\H t=some (.frz o' (.dK fk))/\∀ y,(Sum.inr y:Key)∈fk.map (·.1)↔Graph.Reach (BG all) r.1 y
 | _,_,_,_,.nil,_,r,h=>nomatch h
 | _,_,q :: rs,p :: ps,.cons z t,nd,r,h=>by
  have Vn:(q.1 :: rs.map (·.1)).Nodup:=nd;obtain⟨n1,n2⟩:=Cr.mp Vn;obtain⟨z1,u,o',fk,z2,z3,z4⟩:=z
  rcases Yv.mp h with e | h
  ·subst e;exact⟨u,o',fk,by rw[UW z1,z2],z3,z4⟩
  ·have ne:¬ p.1=(Sum.inr r.1:Key):=λe=>n1 (by
    rw[z1]at e;have e':q.1=r.1:=by injection e
    rw[e'];exact Yg.mpr ⟨r,h,Y⟩)
   obtain⟨u',ZP,LF,h1,h2⟩:=Vu.val t n2 h;exact⟨u',ZP,LF,by rw[UU ne];exact h1,h2⟩
structure CQ(C:Addr)(H:Hp)(p:Addr)(rows:RS):Prop where
 ex:∃(dx d a:Addr) (o oa:Obj) (kvs AR:KL),H p=some (.ins C dx (VY d a))/\Wh H d o rows kvs/\H a=some (.frz oa (.dK AR))/\Vu H rows rows AR
theorem CQ.mono{C:Addr}{H H':Hp}{p:Addr}{rows:RS}(h:CQ C H p rows)(s:AB H H'):CQ C H' p rows:=by
 obtain⟨dx,d,a,o,oa,kvs,AR,h1,h2,h3,h4⟩:=h.ex;exact⟨dx,d,a,o,oa,kvs,AR,s _ _ h1,h2.mono s,s _ _ h3,h4.mono λ_ _ _ e=>s _ _ e⟩
structure Tx(K:Fg)(C:Addr):Prop where
 cl:VI K C
 nU:Ul K C "ups_of"
 nA:Ul K C "above_of"
structure Sb(K:Fg)(C:Addr)(m qual:Str)(st:Stmt)(ps:LS)(f:Addr)(fd:FuncData):Prop where
 fn:Bu K m qual st f fd
 b:Cb K fd ps []
 me:mN K C m f
def ff(K:Fg)(C:Addr):Sp:=λvs H Q _=>∃(p dx l:Addr) (rows:RS),vs=[.ref p,.ref l]/\H p=some (.ins C dx [])/\Zd K H l rows/\Am rows /\
 ∀ H',CQ C H' p rows->(∀ b o,b≠p->H b=some o->H' b=some o)->Q .non H'
def qf(C:Addr):Sp:=λvs H Q _=>∃(p:Addr) (rows:RS) (x:Str),vs=[.ref p,.str x]/\CQ C H p rows/\Am rows/\x∈rows.map (·.1)/\Q .non H
def ma(C:Addr):Sp:=λvs H Q _=>∃(p:Addr) (rows:RS) (x:Str),vs=[.ref p,.str x]/\CQ C H p rows/\Am rows/\Q (.bl (decide (x∈rows.map (·.1)))) H
def Uk(rows:RS)(x y:Str):Bool:=@decide (Graph.Reach (BG rows) x y) (Classical.propDecidable _)
def xc(C:Addr):Sp:=λvs H Q _=>∃(p:Addr) (rows:RS) (x y:Str),vs=[.ref p,.str x,.str y]/\CQ C H p rows/\Am rows/\x∈rows.map (·.1)/\y∈rows.map (·.1)/\Q (.bl (Uk rows x y)) H
def uh:AX ["self","rows","ups_of","word","ups","ring","above_of"] ["self","rows"] (AJ rm):=by nofun
def Z4t(F:Bu K "__init__" "Kinds.__init__" rm f fd)(T:Z2 mg)(TC:Tx K C)(D1:Def K mg "check_rows" lj ["rows"] f1 d1)(D2:Def K mg "is_word" Ww ["text"] f2 d2)
  (D3:Def K mg "check_ups" lN ["ups_of"] f3 d3) (D4:Def K mg "find_ring" lO ["ups_of"] f4 d4) (D5:Def K mg "endless" b9 ["ups_of"] f5 d5) (D6:Def K mg "first_among" cN ["words","others"] f6 d6) (D7:Def K mg "all_above" lL ["ups_of","word"] f7 d7):
  ⋯ 4 f fd ["self","rows"] (ff K C):=by
 have G1:⋯ 2 f1 d1 ["rows"] (Zk0 K):=Zns D1 D2 T;have G3:⋯ 1 f3 d3 ["ups_of"] z9:=Zpu D3;have G4:⋯ 3 f4 d4 ["ups_of"] Z20:=Z4r D4 D5 D6 T;have G7:⋯ 1 f7 d7 ["ups_of","word"] xR:=Z1l D7
 nomatch F.ok uh
 ·obtain⟨p,dx,l,rows,rfl,_⟩:=h;rfl
 ·obtain⟨p,dx,l,rows,rfl,hp,hR,g,q⟩:=h;have nd:=uh.nd;have hu:=Tz hr;have AZ:Af 1 _:=hr.mono (by decide);have B6:Af 2 _:=hr.mono (by decide)
  ac_nf
  refine⟨_,pS (Bc (AL D1 G1 B6 (pC (pv 1) AA)))
   (pS (sE 2 nd YI)
   (pS (BM Yw rfl (bX (pv 1)) (LJ rfl (gC (gE 3 nd) (gC (gE 4 nd) LL)))
    (AG (Ws hu (pv 2) (pv 3) (Co V1 (by rfl) T.tuple Ur (pC (pv 4) AA)) rfl)))
   (j8 (pS (Bc (AL D3 G3 AZ (pC (pv 2) AA)))
   (pS (sE 5 nd (AL D4 G4 hr (pC (pv 2) AA)))
   (pS (AY (XQ (xD (pv 5))) CK Aa)
   (pS (sE 6 nd YI)
   (pS (BM Yw rfl (Z4j (pv 2)) (gE 3 nd) (AG (Ws hu (pv 6) (pv 3) (AL D7 G7 AZ (pC (pv 2) (pC (pv 3) AA))) rfl)))
   (j8 (pS (YA (pv 0) (pv 2) rfl) (AG (YA (pv 0) (pv 6) rfl)))))))))))),?_⟩
  exists let b:=_;let c:=AF (BS _ _ b) a;let e:=AF _ c;AF _ e _ _ _
  refine⟨Z,l,rows,Y,hR,g,λH1 s1=>?_⟩;intro d hd;have s2:AB H (upd H1 d (.dK [])):=λb o e=>by rw[AD (AK (s1 _ _ e) hd)];exact s1 _ _ e
  obtain⟨b,vs,hl,hpr⟩:=hR;let Au:NW:=λi σ H'=>∃(kvs:KL) (a c:OV),σ=[some (.ref p),some (.ref l),some (.ref d),a,c,none,none]/\AB H H'/\H' d=some (.dK kvs)/\LH H' (rows.take i) kvs;refine⟨Z,b,l,vs,Y,hl.mono s2,Bz b0 Au
   ⟨[],none,none,Y,s2,uS,by rw[Dz];exact .nil⟩ (λi σ H' _ h0=>by obtain⟨_,_,_,_,s,_⟩:=h0;exact hl.mono s) ?_ ?_⟩
  ·rintro i v σ H' hi ⟨kvs,a,c,rfl,s3,hdk,hU⟩;obtain⟨r,Az,t,u,rfl,ht,hug⟩:=Bp hpr hi;have dH:H d=none:=s1.free hd;refine⟨t,Z,s3.tup ht,Y,_,Z,_,Z,Y,?_⟩;have A7:(Sum.inr r.1:Key)∉kvs.map (·.1):=by rw[hU.keys];exact gU g.nd Az
   have hil:(rows.take i).length<=24:=by rw[Bg];have:=g.le;omega
   have hkl:kvs.length=(rows.take i).length:=(Yu hU).symm;have fin:∀(t2:Addr) (H2:Hp),AB H' H2->H2 t2=some (.tup (r.2.map V.str))->∃(D9:KL) (a c:OV),[some (V.ref p),some (V.ref l),some (V.ref d),some (V.str r.1),some (V.ref u),none,none]=[some (V.ref p),some (V.ref l),some (V.ref d),a,c,none,none]/\AB H (upd H2 d (.dK (Ao kvs (Sum.inr r.1) (.ref t2)))) /\
     (upd H2 d (.dK (Ao kvs (Sum.inr r.1) (.ref t2)))) d=some (.dK D9)/\LH (upd H2 d (.dK (Ao kvs (Sum.inr r.1) (.ref t2)))) (rows.take (i + 1)) D9:=λt2 H2 s4 A_=>by
    have d2:=s4 _ _ hdk;have tk:∀ b xs,H2 b=some (.tup xs)->(upd H2 d (.dK (Ao kvs (Sum.inr r.1) (.ref t2)))) b=some (.tup xs):=λb xs e=>by
     rw[AD (λz=>by rw[z,d2]at e;cases e)];exact e
    refine⟨_,_,Z,λb o e=>by rw[AD (AK e dH)];exact s4 _ _ (s3 _ _ e),uS,?_⟩;have sn:LH (upd H2 d (.dK (Ao kvs (Sum.inr r.1) (.ref t2)))) (rows.take i++[r]) (kvs++[(Sum.inr r.1,V.ref t2)]):=LM ((hU.mono λb xs e=>s4 _ _ e).mono tk) ⟨Y,t2,Y,tk t2 _ A_⟩;rw[<- Zp _ (Vz A7)]at sn;rw[Bt,Az];exact sn
   rcases hug with hug | hug
   ·refine⟨Z,u,Z,.inr ⟨AH.of (s3 _ _ hug),Z,Z,d,Z,Sa.k (k:=Sum.inr r.1) hdk (Bq (by omega)),fin u H' (AB.refl _) (s3 _ _ hug)⟩⟩
   ·refine⟨Z,u,Z,.inl ⟨s3.seq hug,λt2 A_=>?_⟩⟩;have s4:AB H' (upd H' t2 (.tup (r.2.map V.str))):=λb o e=>by rw[AD (AK e A_)];exact e
    exact⟨Z,Z,d,Z,Sa.k (k:=Sum.inr r.1) (s4 _ _ hdk) (Bq (by omega)),fin t2 _ s4 uS⟩
  ·rintro σ H2 ⟨kvs,a,c,rfl,s3,hdk,hU⟩;have hvl:=hpr.length;rw[<- hvl,Bs]at hU;refine⟨d,kvs,hdk,λo=>?_⟩;have dH:H d=none:=s1.free hd;have s4:AB H (upd H2 d (.frz o (.dK kvs))):=λb u e=>by rw[AD (AK e dH)];exact s3 _ _ e
   have bk:Wh (upd H2 d (.frz o (.dK kvs))) d o rows kvs:=⟨uS,hU.mono λb xs e=>by rw[AD (λz=>by rw[z,hdk]at e;cases e)];exact e⟩;refine⟨Z,d,o,rows,kvs,Y,bk,g,λH5 s5=>?_⟩;refine⟨Z,d,o,rows,kvs,Y,bk.mono s5,g,λH6 s6=>?_⟩;refine⟨Z,Z,AS ?_⟩;have BP:=s5.trans s6;have wD:=bk.mono BP;have s7:AB H H6:=s4.trans BP;intro aa Bd;have s8:AB H (upd H6 aa (.dK [])):=λb u e=>by rw[AD (AK (s7 _ _ e) Bd)];exact s7 _ _ e
   have dA:AB H6 (upd H6 aa (.dK [])):=λb u e=>by rw[AD (AK e Bd)];exact e
   let D0:NW:=λi σ H'=>∃(AR:KL) (a b c:OV),σ=[some (.ref p),some (.ref l),some (.ref d),a,b,c,some (.ref aa)]/\AB H H'/\Wh H' d o rows kvs/\H' aa=some (.dK AR)/\Vu H' rows (rows.take i) AR;refine⟨Z,d,o,kvs,Y,(wD.mono dA).at_,Bz Zw5 D0
    ⟨[],_,_,Z,s8,wD.mono dA,uS,by rw[Dz];exact .nil⟩ (λi σ H' _ h0=>by obtain⟨_,_,_,_,_,_,b,_⟩:=h0;exact b.at_) ?_ ?_⟩
   ·rintro i v σ H' hi ⟨AR,a,b,c,rfl,s9,Wc,Uc,hA⟩;rw[Yj]at hi;obtain⟨pr,tZ,e⟩:=CV.mp hi;obtain⟨r,Az,hk,_⟩:=Bp Wc.ups tZ;have Ak:r∈rows:=Yd Az;have ev:v=.str r.1:=by rw[<- e,hk];rfl
    subst ev;have aaH:H aa=none:=s7.free Bd;refine⟨Z,Z,d,o,rows,kvs,r.1,Y,Wc,g,Yg.mpr ⟨r,Ak,Y⟩,λx o' fk cy hx SQ hxk hreach=>?_⟩;have A7:(Sum.inr r.1:Key)∉AR.map (·.1):=by rw[hA.keys];exact gU g.nd Az
    have hil:(rows.take i).length<=24:=by rw[Bg];have:=g.le;omega
    have hkl:AR.length=(rows.take i).length:=(Yu hA).symm;have aX:=SQ _ _ Uc;refine⟨Z,Z,aa,Z,Sa.k (k:=Sum.inr r.1) aX (Bq (by omega)),?_⟩;have kp:∀ b u,b≠aa->cy b=some u->(upd cy aa (.dK (Ao AR (Sum.inr r.1) (.ref x)))) b=some u:=λb u hb e=>by rw[AD hb];exact e
    refine⟨_,_,_,Z,λb u e=>kp b u (AK e aaH) (SQ _ _ (s9 _ _ e)),⟨kp _ _ (λz=>?_) (SQ _ _ Wc.at_),(Wc.ups.mono λb xs e=>SQ _ _ e).mono λb xs e=>kp _ _ (λz=>by rw[z,aX]at e;cases e) e⟩,uS,?_⟩
    ·have:=Wc.at_;rw[z,Uc]at this;cases this
    ·rw[Zp _ (Vz A7),Bt,Az];have fz:∀ b ZP LF,cy b=some (.frz ZP (.dK LF))->(upd cy aa (.dK (AR++[(Sum.inr r.1,V.ref x)]))) b=some (.frz ZP (.dK LF)):=λb ZP LF e=>by rw[AD (λz=>by rw[z,aX]at e;cases e)];exact e
     exact LM ((hA.mono λb ZP LF e=>SQ _ _ e).mono fz) ⟨Y,x,o',fk,Y,fz _ _ _ hxk,hreach⟩
   ·rintro σ H' ⟨AR,a,b,c,rfl,s9,Wc,Uc,hA⟩;have hkv:kvs.length=rows.length:=(Yu Wc.ups).symm;rw[Ya,hkv,Bs]at hA;have aaH:H aa=none:=s7.free Bd;refine⟨aa,AR,Uc,λoa=>?_⟩;have ZV:H' p=some (.ins C dx []):=s9 _ _ hp;have pa:p≠aa:=AK hp aaH;have pd:p≠d:=AK hp dH;have da:d≠aa:=λz=>by have:=Wc.at_;rw[z,Uc]at this;cases this
    refine⟨Z,Z,p,C,dx,[],Y,(by rw[AD pa];exact ZV),TC.cl,TC.nU,(by show 0<1000;decide),Z,Z,p,C,dx,Z,uS,TC.cl,TC.nA,(by show 1<1000;decide),?_⟩;rw[YG];have kp:∀ b u,b≠p->b≠aa->H' b=some u->(upd (upd H' aa (.frz oa (.dK AR))) p (.ins C dx (VY d aa))) b=some u:=λb u h1 h2 e=>by rw[AD h1,AD h2];exact e
    refine q _ ⟨dx,d,aa,o,oa,kvs,AR,uS,⟨kp _ _ (Ae pd) da Wc.at_,Wc.ups.mono λb xs e=>kp _ _ (λz=>by rw[z,ZV]at e;cases e) (λz=>by rw[z,Uc]at e;cases e) e⟩,by rw[AD (Ae pa)];exact uS,hA.mono λb ZP LF e=>kp _ _ (λz=>by rw[z,ZV]at e;cases e) (λz=>by rw[z,Uc]at e;cases e) e⟩ λb u hb e=>kp _ _ hb (AK e aaH) (s9 _ _ e)
def Yee:AX ["self","word"] ["self","word"] (AJ lJ):=by nofun
def p9(F:Bu K "has" "Kinds.has" lJ f fd)(TC:Tx K C):⋯ 1 f fd ["self","word"] (ma C):=by
 nomatch F.ok Yee
 ·obtain⟨p,rows,x,rfl,_⟩:=h;rfl
 ·obtain⟨p,rows,x,rfl,⟨dx,d,a,o,oa,kvs,AR,h1,h2,h3,h4⟩,g,q⟩:=h;have hu:=Tz hr
  ac_nf
  refine⟨_,AG (AO (Z3g (bW hu (pv 1) (VA (pv 0) rfl)))),?_⟩;refine⟨Z,Z,p,C,dx,_,Z,h1,TC.cl,TC.nU,Z3n _ _,d,Z,Bj.f (k:=Sum.inr x) h2.at_,?_⟩;have e:(BB kvs (Sum.inr x:Key)).isSome=decide (x∈rows.map (·.1)):=by
   have hk:(Sum.inr x:Key)∈kvs.map (·.1)↔x∈rows.map (·.1):=by
    rw[h2.ups.keys];constructor
    ·intro m;obtain⟨r,Az,e⟩:=Yg.mp m;exact Yg.mpr ⟨r,Az,by injection e⟩
    ·intro m;obtain⟨r,Az,e⟩:=Yg.mp m;exact Yg.mpr ⟨r,Az,by rw[e]⟩
   by_cases z:x∈rows.map (·.1)
   ·rw[lS (hk.mpr z),Jb z]
   ·rw[Vz λk=>z (hk.mp k),Jc z];rfl
  rw[e];exact q
abbrev Xd(K:Fg)(C fH:Addr)(fdH:FuncData):Prop:=Sb K C "has" "Kinds.has" lJ ["self","word"] fH fdH
def Yei:AX ["self","word"] ["self","word"] (AJ cM):=by nofun
def qE(d a:Addr):(VY d a).lookup ("has":Str)=none:=kE d a (by rfl') (by rfl')
def ym(F:Bu K "check" "Kinds.check" cM f fd)(TC:Tx K C)(MH:Xd K C fH fdH):⋯ 2 f fd ["self","word"] (qf C):=by
 have GH:⋯ 1 fH fdH ["self","word"] (ma C):=p9 MH.fn TC
 nomatch F.ok Yei
 ·obtain⟨p,rows,x,rfl,_⟩:=h;rfl
 ·obtain⟨p,rows,x,rfl,kd,g,hx,q⟩:=h;obtain⟨dx,d,a,o,oa,kvs,AR,h1,h2,h3,h4⟩:=kd.ex
  ac_nf
  refine⟨_,AG (AY (CO (Bo (T9 (pv 0) TC.cl MH.me GH hr MH.b .nil BA (pC (pv 1) AA)))) CK Aa),?_⟩;refine⟨Z,p,dx,Z,h1,qE _ _,Z,p,rows,x,Y,kd,g,Z,?_⟩;rw[Jb hx];exact AS q
def qm(d a:Addr):(VY d a).lookup ("check":Str)=none:=kE d a (by rfl') (by rfl')
def Ydz:AX ["self","one","other"] ["self","one","other"] (AJ mB):=by nofun
def Z02(F:Bu K "under" "Kinds.under" mB f fd)(TC:Tx K C)(MC:Sb K C "check" "Kinds.check" cM ["self","word"] fC fdC)(MH:Xd K C fH fdH):⋯ 3 f fd ["self","one","other"] (xc C):=by
 have GC:⋯ 2 fC fdC ["self","word"] (qf C):=ym MC.fn TC MH
 nomatch F.ok Ydz
 ·obtain⟨p,rows,x,y,rfl,_⟩:=h;rfl
 ·obtain⟨p,rows,x,y,rfl,kd,g,hx,hy,q⟩:=h;obtain⟨dx,d,a,o,oa,kvs,AR,h1,h2,h3,h4⟩:=kd.ex;have hu:=Tz hr
  ac_nf
  refine⟨_,pS (Bc (T9 (pv 0) TC.cl MC.me GC hr MC.b .nil BA (pC (pv 1) AA)))
   (pS (Bc (T9 (pv 0) TC.cl MC.me GC hr MC.b .nil BA (pC (pv 2) AA)))
   (AG (AO (Z3g (bW hu (pv 2) (Wr hu (VA (pv 0) rfl) (pv 1) (λ_ _=>rfl))))))),?_⟩
  exists let b:=AF _ a;AF _ b _ _ _
  obtain⟨r,Az,er⟩:=YL hx;obtain⟨t,o',fk,hv,ht,hreach⟩:=h4.val g.nd Az;refine⟨Z,p,dx,Z,h1,qm _ _,Z,p,rows,x,Y,kd,g,hx,?_⟩;refine⟨Z,p,dx,Z,h1,qm _ _,Z,p,rows,y,Y,kd,g,hy,?_⟩;refine⟨Z,Z,p,C,dx,_,Z,h1,TC.cl,TC.nA,Z8u _ _,Z,a,Z,(by rw[<- hv,er];exact Bj.f (k:=Sum.inr x) h3),t,Z,Bj.f (k:=Sum.inr y) ht,?_⟩;have e:(BB fk (Sum.inr y:Key)).isSome=Uk rows x y:=by
   have hh:=hreach y;rw[er]at hh;unfold Uk;by_cases z:Graph.Reach (BG rows) x y
   ·rw[lS (hh.mpr z)];exact(@Jb _ (Classical.propDecidable _) z).symm
   ·rw[Vz λk=>z (hh.mp k)];exact(@Jc _ (Classical.propDecidable _) z).symm
  rw[e];exact q
def Z1q(d a:Addr):(VY d a).lookup ("under":Str)=none:=kE d a (by rfl') (by rfl')
abbrev Z3w(K:Fg)(C fC:Addr)(fdC:FuncData):Prop:=Sb K C "check" "Kinds.check" cM ["self","word"] fC fdC
abbrev Z3v(K:Fg)(C fU:Addr)(fdU:FuncData):Prop:=Sb K C "under" "Kinds.under" mB ["self","one","other"] fU fdU
def qy(C:Addr):Sp:=λvs H Q _=>∃(p:Addr) (rows:RS),vs=[.ref p]/\CQ C H p rows/\Am rows/\∀ l H',H l=none->AB H H'->T5 H' l rows->Q (.ref l) H'
def qo(d a:Addr):(VY d a).lookup ("rows":Str)=none:=kE d a (by rfl') (by rfl')
def Yd1:AX ["self"] ["self"] (AJ gY):=by nofun
def zN(F:Bu K "rows" "Kinds.rows" gY f fd)(TC:Tx K C)(list:mg "list"=none):⋯ 1 f fd ["self"] (qy C):=by
 nomatch F.ok Yd1
 ·obtain⟨p,rows,rfl,_⟩:=h;rfl
 ·obtain⟨p,rows,rfl,⟨dx,d,a,o,oa,kvs,AR,h1,h2,h3,h4⟩,g,q⟩:=h;refine⟨_,AG (AO (Zpi rfl (VA (pv 0) rfl) (by rfl) list)),?_⟩;refine⟨Z,p,C,dx,_,Z,h1,TC.cl,TC.nU,Z3n _ _,d,kvs,Y,.inr ⟨o,h2.at_⟩,λl H' vs hl s1 hlv hp=>?_⟩;refine q l H' hl s1 ⟨vs,hlv,YT ?_ λi r v Az hv=>?_⟩
  ·rw[<- hp.length];exact Yu h2.ups
  ·obtain⟨kv,hk,t,e,ht⟩:=Bp hp hv;obtain⟨r2,B6,e1,t2,e2,A_⟩:=Bp h2.ups hk;rw[Az]at B6;cases B6;refine⟨t,t2,e,?_,s1 _ _ A_⟩;rw[ht,e1,e2];rfl
def C9(H:Hp)(all rows:RS)(AR:KL):Prop :=
 Paired (λr (p:Key×V)=>p.1=Sum.inr r.1/\∃(t:Addr) (fs:LS),p.2=.ref t/\H t=some (.lst (fs.map V.str))/\(∀ y,y∈fs↔Graph.Reach (BG all) r.1 y)/\fs.length<=all.length) rows AR
def C9.mono{H H':Hp}{all rows:RS}{AR:KL}(h:C9 H all rows AR)(s:∀ b xs,H b=some (.lst xs)->H' b=some (.lst xs)):C9 H' all rows AR :=
 Paired.mapP h λ_ _ z=>⟨z.1,let⟨t,fs,e,x,y⟩:=z.2;⟨t,fs,e,s _ _ x,y⟩⟩
theorem C9.keys:∀ {H:Hp}{all rows:RS}{kvs:KL},C9 H all rows kvs->kvs.map (·.1)=rows.map λr=>(Sum.inr r.1:Key)
 | _,_,_,_,.nil=>rfl
 | _,_,_,_,.cons r t=>by rw[Yz,Yz,r.1,C9.keys t]
theorem C9.val':∀ {H:Hp}{all rows:RS}{kvs:KL},C9 H all rows kvs->(rows.map (·.1)).Nodup->∀ {r:Str×LS},r∈rows->∃(t:Addr) (fs:LS),BB kvs (Sum.inr r.1)=some (.ref t)/\H t=some (.lst (fs.map V.str))/\(∀ y,y∈fs↔Graph.Reach (BG all) r.1 y)/\fs.length<=all.length
 | _,_,_,_,.nil,_,r,h=>nomatch h
 | _,_,q :: rs,p :: ps,.cons z t,nd,r,h=>by
  have Vn:(q.1 :: rs.map (·.1)).Nodup:=nd;obtain⟨n1,n2⟩:=Cr.mp Vn;obtain⟨z1,u,fs,z2,z3,z4⟩:=z
  rcases Yv.mp h with e | h
  ·subst e;exact⟨u,fs,by rw[UW z1,z2],z3,z4⟩
  ·have ne:¬ p.1=(Sum.inr r.1:Key):=λe=>n1 (by
    rw[z1]at e;have e':q.1=r.1:=by injection e
    rw[e'];exact Yg.mpr ⟨r,h,Y⟩)
   obtain⟨u',CI,h1,h2⟩:=C9.val' t n2 h;exact⟨u',CI,by rw[UU ne];exact h1,h2⟩
def C9.val{H:Hp}{all rows:RS}{kvs:KL}(h:C9 H all rows kvs)(nd:(rows.map (·.1)).Nodup){r:Str×LS}(hr:r∈rows):∃(t:Addr) (fs:LS),BB kvs (Sum.inr r.1)=some (.ref t)/\H t=some (.lst (fs.map V.str))/\∀ y,y∈fs↔Graph.Reach (BG all) r.1 y :=
 let⟨u,fs,h1,h2,h3,_⟩:=h.val' nd hr;⟨u,fs,h1,h2,h3⟩
def Zyf{rows:RS}{x:Str}{fs:LS}(h:∀ y,y∈fs↔Graph.Reach (BG rows) x y)(y:Str):decide (y∈fs)=Uk rows x y:=by
 unfold Uk;by_cases z:Graph.Reach (BG rows) x y
 ·rw[Jb ((h y).mpr z)];exact(@Jb _ (Classical.propDecidable _) z).symm
 ·rw[Jc λk=>z ((h y).mp k)];exact(@Jc _ (Classical.propDecidable _) z).symm
def qx:Sp:=λvs H Q _=>∃(l:Addr) (rows:RS),vs=[.ref l]/\T5 H l rows/\Am rows/\∀ a AR H',AB H H'->H' a=some (.dK AR)->C9 H' rows rows AR->Q (.ref a) H'
structure cz(rows:RS)(x:Str)(fs:LS)(k:Nat):Prop where
 start:x∈fs
 known:∀ y∈fs,y∈rows.map (·.1)
 nd:fs.Nodup
 reach:∀ y∈fs,Graph.Reach (BG rows) x y
 closed:∀ y∈fs.take k,∀ u∈BG rows y,u∈fs
def cz.le{rows:RS}{x:Str}{fs:LS}{k:Nat}(h:cz rows x fs k):fs.length<=rows.length:=by
 have:=Graph.nodup_le h.nd h.known
 rwa [Ya]at this
def cz.all{rows:RS}{x:Str}{fs:LS}{k:Nat}(h:cz rows x fs k)(hk:fs.length<=k)(y:Str):y∈fs↔Graph.Reach (BG rows) x y :=
 ⟨h.reach y,λr=>Graph.closed_reach (S:=λy=>y∈fs) (λz hz u hu=>h.closed z (by rw[W3 hk];exact hz) u hu) r h.start⟩
def Zk4{rows:RS}(g:Am rows){y u:Str}(hy:y∈rows.map (·.1))(hu:u∈BG rows y):u∈rows.map (·.1):=by
 obtain⟨r,hr,e⟩:=YL hy;rw[<- e,gH g.nd hr]at hu;exact g.known r hr u hu
abbrev nLA:LS:=["rows","ups","word","some","above","found","at","up"]
def Ycu:AX nLA ["rows"] (AJ gZ):=by nofun
def zM(F:Def K mg "_law_above" gZ ["rows"] f fd)(len:mg "len"=none):⋯ 1 f fd ["rows"] qx:=by
 nomatch F.fn.ok Ycu
 ·obtain⟨l,rows,rfl,_⟩:=h;rfl
 ·obtain⟨l,rows,rfl,hR,g,q⟩:=h;have nd:=Ycu.nd;have hu:=Tz hr
  ac_nf
  refine⟨_,pS (sE 1 nd YI)
   (pS (BM Yw rfl (CD (pv 0)) (LJ rfl (gC (gE 2 nd) (gC (gE 3 nd) LL)))
    (AG (Ws hu (pv 1) (pv 2) (pv 3) rfl)))
   (pS (sE 4 nd YI)
   (pS (BM Yw rfl (CD (pv 0)) (LJ rfl (gC (gE 2 nd) (gC (gE 3 nd) LL)))
    (pS (sE 5 nd (BX (pC (pv 2) AA)))
    (pS (sE 6 nd AE)
    (pS (gJ Yw (Ag bP (pv 6) (Aq UR (by rfl) len BI (pC (pv 5) AA)) (Ab _))
     (pS (BM Yw rfl (UQ (Wr hu (pv 1) (AV A2 (pv 5) (pv 6) (λ_ _=>rfl)) (λ_ _=>rfl))) (gE 7 nd)
      (AG (AY (Ag Zkd (pv 7) (pv 5) (by with_unfolding_all rfl)) (AG (Bc (Be Cs Dy Dx Di (pv 5) (pC (pv 7) AA)))) Aa)))
     (AG (sE 6 nd (AU C_ (pv 6) AE)))))
    (AG (Ws hu (pv 4) (pv 2) (pv 5) rfl))))))
   (AG (AO (pv 4)))))),?_⟩
  exists let b:=_;let c:=_;let e:=_;let f:=By _ e _;let g:=AF (BS _ _ f) c;let h:=AF (jy _ g) b;let i:=AF _ h;let j:=AF _ i;let k:=AF (BS _ _ j) a;let l:=AF _ k;let m:=AF _ l;AF _ m _ _ _
  have gle:=g.le;obtain⟨vs,hvs,hpr⟩:=hR;intro d hd;have s1:AB H (upd H d (.dK [])):=λb o e=>by rw[AD (AK e hd)];exact e
  let Au:NW:=λi σ H'=>∃(kvs:KL) (a c:OV),σ=[some (.ref l),some (.ref d),a,c,none,none,none,none]/\AB H H'/\H' d=some (.dK kvs)/\LH H' (rows.take i) kvs;refine⟨Z,l,Y,⟨_,SqL.of (s1 _ _ hvs)⟩,Bz (CU (xs:=vs)) Au
   ⟨[],none,none,Y,s1,uS,by rw[Dz];exact .nil⟩ (λi σ H' _ h0=>by obtain⟨_,_,_,_,s,_⟩:=h0;exact SqL.of (s _ _ hvs)) ?_ ?_⟩
  ·rintro i v σ H' hi ⟨kvs,a,c,rfl,s3,hdk,hU⟩;obtain⟨r,Az,t,u,rfl,ht,hug⟩:=Bp hpr hi;refine⟨t,Z,AH.of (s3 _ _ ht),Y,_,Z,_,Z,Y,?_⟩;have A7:(Sum.inr r.1:Key)∉kvs.map (·.1):=by rw[hU.keys];exact gU g.nd Az
   have hil:(rows.take i).length<=24:=by rw[Bg];omega
   have hkl:kvs.length=(rows.take i).length:=(Yu hU).symm;refine⟨Z,Z,Z,d,Z,Sa.k (k:=Sum.inr r.1) hdk (Bq (by omega)),?_⟩;have tk:∀ b xs,H' b=some (.tup xs)->(upd H' d (.dK (Ao kvs (Sum.inr r.1) (.ref u)))) b=some (.tup xs):=λb xs e=>by
    rw[AD (λz=>by rw[z,hdk]at e;cases e)];exact e
   refine⟨_,_,Z,λb o e=>by rw[AD (AK e hd)];exact s3 _ _ e,uS,?_⟩;have sn:LH (upd H' d (.dK (Ao kvs (Sum.inr r.1) (.ref u)))) (rows.take i++[r]) (kvs++[(Sum.inr r.1,V.ref u)]):=LM (hU.mono tk) ⟨Y,u,Y,tk u _ (s3 _ _ hug)⟩;rw[<- Zp _ (Vz A7)]at sn;rw[Bt,Az];exact sn
  ·rintro σ H2 ⟨kvs,a,c,rfl,s3,hdk,hU⟩;have hvl:=hpr.length;rw[<- hvl,Bs]at hU;intro aa Bd;have s4:AB H2 (upd H2 aa (.dK [])):=λb o e=>by rw[AD (AK e Bd)];exact e
   have aaH:H aa=none:=s3.free Bd;have daa:d≠aa:=AK hdk Bd;have hU4:LH (upd H2 aa (.dK [])) rows kvs:=hU.mono λb xs e=>s4 _ _ e;have hd4:=s4 _ _ hdk;have Tt:=s3.trans s4;let D0:NW:=λi σ H'=>∃(AR:KL) (a b c e f:OV),σ=[some (.ref l),some (.ref d),a,b,some (.ref aa),c,e,f]/\(∀ b o,b≠aa->H2 b=some o->H' b=some o)/\H' aa=some (.dK AR)/\C9 H' rows (rows.take i) AR;refine⟨Z,l,Y,⟨_,SqL.of (Tt _ _ hvs)⟩,Bz (CU (xs:=vs)) D0
    ⟨[],_,_,_,_,Z,λb o hb e=>by rw[AD hb];exact e,uS,by rw[Dz];exact .nil⟩ (λi σ H' _ h0=>by obtain⟨_,_,_,_,_,_,_,k,_⟩:=h0;exact SqL.of (k _ _ (AK hvs aaH) (s3 _ _ hvs))) ?_ ?_⟩
   ·rintro i v σ H' hi ⟨AR,a,b,c,e,f',rfl,k1,aS,hA⟩;obtain⟨r,Az,t,u,rfl,ht,hug⟩:=Bp hpr hi;have Ak:r∈rows:=Yd Az;have jA:∀ b o,H b=some o->H' b=some o:=λb o e=>k1 b o (AK e aaH) (s3 _ _ e);refine⟨t,Z,AH.of (jA _ _ ht),Y,_,Z,_,Z,Y,?_⟩;refine⟨Z,O,λfa hfa=>?_⟩;have sF:∀ {H5:Hp},AB H' H5->LH H5 rows kvs:=λ{H5} s=>hU.mono λb xs e=>s _ _ (k1 b _ (λz=>by rw[z,Bd]at e;cases e) e);have dF:∀ {H5:Hp},AB H' H5->H5 d=some (.dK kvs):=λ{H5} s=>s _ _ (k1 _ _ daa hdk);let Sn:NW:=λm σ H5=>∃(fs:LS) (k:Nat) (f:OV),σ=[some (.ref l),some (.ref d),some (.str r.1),some (.ref u),some (.ref aa),some (.ref fa),some (.int (k:Int)),f]/\AB H' H5/\H5 fa=some (.lst (fs.map V.str))/\cz rows r.1 fs k/\k<=fs.length/\m + k=rows.length;refine⟨Sn,
     ⟨rows.length,[r.1],0,Z,λb o e=>by rw[AD (AK e hfa)];exact e,uS,⟨by simp,λy h=>by rw[Yh.mp h];exact Yg.mpr ⟨r,Ak,Y⟩,by simp,λy h=>by rw[Yh.mp h];exact .refl _,λy h=>by simp at h⟩,by simp,Y⟩,?_⟩
    rintro m σ H5 ⟨fs,k,f2,rfl,s5,di,go,hk,hm⟩;have flen:=go.le;refine⟨Z,Z,_,Z,.inl ⟨_,SqL.of di,Y⟩,_,Z,Y,Z,?_⟩;rw[Ya];refine A1 (λBK=>?_) (λBK=>?_)
    ·have BK:k<fs.length:=by have:=Je BK;omega
     let Xp:SW:=λσ' H6=>∃ m',m'<m/\∃(fs:LS) (k:Nat) (f:OV),σ'=[some (.ref l),some (.ref d),some (.str r.1),some (.ref u),some (.ref aa),some (.ref fa),some (.int (k:Int)),f]/\AB H' H6/\H6 fa=some (.lst (fs.map V.str))/\cz rows r.1 fs k/\k<=fs.length/\m' + k=rows.length;refine⟨Xp,λ_ _ h=>h,?_⟩;have hat:fs[k]?=some fs[k]:=Yb BK;generalize hhere:fs[k]=here at hat;have hin:here∈fs:=Yd hat;obtain⟨r2,B6,er⟩:=YL (go.known here hin);obtain⟨t2,hvt,A_⟩:=(sF s5).val g.nd B6;rw[er]at hvt;have uo:BG rows here=r2.2:=by rw[<- er];exact gH g.nd B6
     have hix:BZ (fs.map V.str) (k:Int)=some (V.str here):=Bb (by rw[Yj,hat];rfl);refine⟨Z,Z,Z,fa,_,_,Z,Y,SqL.of di,hix,d,Z,(by rw[<- hvt];exact Bj.k (k:=Sum.inr here) (dF s5)),t2,Y,⟨_,AH.of A_⟩,?_⟩;have tT:t2≠fa:=λz=>by rw[z,di]at A_;cases A_
     refine Bz (Uo (xs:=r2.2.map V.str)) (λj σ H6=>∃(ex:LS) (f:OV),σ=[some (.ref l),some (.ref d),some (.str r.1),some (.ref u),some (.ref aa),some (.ref fa),some (.int (k:Int)),f]/\(∀ b o,b≠fa->H5 b=some o->H6 b=some o)/\H6 fa=some (.lst ((fs++ex).map V.str)) /\
      (∀ y∈fs++ex,y∈rows.map (·.1))/\(fs++ex).Nodup/\(∀ y∈fs++ex,Graph.Reach (BG rows) r.1 y)/\∀ z∈r2.2.take j,z∈fs++ex)
      ⟨[],Z,λb o _ e=>e,by rw[C5];exact di,by rw[C5];exact go.known,by rw[C5];exact go.nd,by rw[C5];exact go.reach,λz h=>by simp at h⟩ (λj σ H6 _ h0=>by obtain⟨_,_,_,k6,_⟩:=h0;exact AH.of (k6 _ _ tT A_)) ?_ ?_
     ·rintro j v σ H6 hj ⟨ex,f3,rfl,k6,a_,kn,ndx,rch,seen⟩;obtain⟨z,hz,rfl⟩:=kD hj;have hzu:z∈BG rows here:=by rw[uo];exact Yd hz
      have hle:(fs++ex).length<=24:=by
       have:=Graph.nodup_le ndx kn;rw[Ya]at this;omega
      refine⟨Z,Z,fa,Z,.inl (SqL.of a_),Y,Zs _,Z,?_⟩;show if(!Ug (.str z) ((fs++ex).map V.str))=true then _ else _
      rw[YD];have sj:∀ y∈r2.2.take (j + 1),y∈r2.2.take j\/y=z:=λy h=>by
       rw[Bt,hz]at h
       rcases Yo.mp h with h | h
       ·exact .inl h
       ·simp at h;exact .inr h
      refine A1 (λhn=>?_) (λhn=>?_)
      ·have hn:z∉fs++ex:=λc=>by rw[Jb c]at hn;cases hn
       refine⟨Z,.inl ⟨Y,_,SqL.of a_⟩,Z,fa,_,Z,Y,a_,Bq (by rw[Ya];omega),?_⟩;refine⟨ex++[z],Z,λb o hb e=>by rw[AD hb];exact k6 b o hb e,?_,?_,?_,?_,?_⟩
       ·have e:(fs++(ex++[z])).map V.str=(fs++ex).map V.str++[V.str z]:=by simp
        rw[uS,e]
       ·intro y hy;rw[<- LO]at hy
        rcases Yo.mp hy with h | h
        ·exact kn y h
        ·rw[Yh.mp h];exact Zk4 g (go.known here hin) hzu
       ·rw[<- LO];refine List.nodup_append.mpr ⟨ndx,by simp,λa ha b hb e=>?_⟩;rw[Yh.mp hb]at e;rw[e]at ha;exact hn ha
       ·intro y hy;rw[<- LO]at hy
        rcases Yo.mp hy with h | h
        ·exact rch y h
        ·rw[Yh.mp h];exact(go.reach here hin).snoc hzu
       ·intro y hy;rw[<- LO]
        rcases sj y hy with h | h
        ·exact Yo.mpr (.inl (seen y h))
        ·rw[h];simp
      ·have hn:z∈fs++ex:=nD λc=>hn (by rw[Jc c];rfl);refine⟨ex,Z,k6,a_,kn,ndx,rch,λy hy=>?_⟩
       rcases sj y hy with h | h
       ·exact seen y h
       ·rw[h];exact hn
     ·rintro σ H6 ⟨ex,f3,rfl,k6,a_,kn,ndx,rch,seen⟩;rw[Ya,Bs]at seen;refine⟨Z,_,Z,Y,m - 1,W,fs++ex,k + 1,Z,λb o e=>k6 b o (AK e hfa) (s5 _ _ e),a_,⟨Yo.mpr (.inl go.start),kn,ndx,rch,?_⟩,by rw[Yc];omega,W⟩;intro y hy z hz;have htk:(fs++ex).take (k + 1)=fs.take k++[here]:=by
       rw[List.take_append_of_le_length (by omega),Bt,hat];rfl
      rw[htk]at hy
      rcases Yo.mp hy with h | h
      ·exact Yo.mpr (.inl (go.closed y h z hz))
      ·rw[Yh.mp h,uo]at hz;exact seen z hz
    ·have hge:fs.length<=k:=by
      have:¬ ((k:Int)<(fs.length:Int)):=λz=>BK (Jb z);omega
     have wI:=s5 _ _ aS;have A7:(Sum.inr r.1:Key)∉AR.map (·.1):=by rw[hA.keys];exact gU g.nd Az
     have hil:(rows.take i).length<=24:=by rw[Bg];omega
     have hkl:AR.length=(rows.take i).length:=(Yu hA).symm;refine⟨Z,Z,Z,aa,Z,Sa.k (k:=Sum.inr r.1) wI (Bq (by omega)),?_⟩;have lk:∀ b xs,H5 b=some (.lst xs)->(upd H5 aa (.dK (Ao AR (Sum.inr r.1) (.ref fa)))) b=some (.lst xs):=λb xs e=>by
      rw[AD (λz=>by rw[z,wI]at e;cases e)];exact e
     refine⟨_,_,_,_,_,Z,λb o hb e=>by rw[AD hb];exact s5 _ _ (k1 b o hb e),uS,?_⟩;have sn:C9 (upd H5 aa (.dK (Ao AR (Sum.inr r.1) (.ref fa)))) rows (rows.take i++[r]) (AR++[(Sum.inr r.1,V.ref fa)]):=LM ((hA.mono λb xs e=>s5 _ _ e).mono lk) ⟨Y,fa,fs,Y,lk _ _ di,go.all hge,go.le⟩;rw[<- Zp _ (Vz A7)]at sn;rw[Bt,Az];exact sn
   ·rintro σ H' ⟨AR,a,b,c,e,f',rfl,k1,aS,hA⟩;rw[<- hvl,Bs]at hA;exact⟨Z,q aa AR H' (λb o e=>k1 b o (AK e aaH) (s3 _ _ e)) aS hA⟩
def eW(rows:RS)(n:Nat)(xs:LS):Bool:=decide (xs.length=n)&&xs.all λx=>decide (x∈rows.map (·.1))
structure Ve(rows:RS)(n:Nat)(xs:LS):Prop where
 len:xs.length=n
 known:∀ x∈xs,x∈rows.map (·.1)
def Ve.is{rows:RS}{n:Nat}{xs:LS}(h:Ve rows n xs):eW rows n xs=true:=by
 unfold eW;rw[Jb h.len,DQ,CL];exact λx hx=>Jb (h.known x hx)
def qr(C:Addr):Sp:=λvs H Q _=>∃(p t:Addr) (n:Nat) (rows:RS) (xs:LS),vs=[.ref p,.int n,.ref t]/\CQ C H p rows/\Am rows/\H t=some (.tup (xs.map V.str))/\xs.length<=1000/\∀ H',AB H H'->Q (.bl (eW rows n xs)) H'
def p5(rows:RS):V->V
 | .str x=>.bl (decide (x∈rows.map (·.1)))
 | _=>.non
def Zu3(rows:RS)(xs:LS):(((xs.map V.str).filter λ_=>true).map (p5 rows))=(xs.map λx=>decide (x∈rows.map (·.1))).map V.bl:=by
 rw[VH.mpr (λ_ _=>rfl),B9,B9];rfl
def Yaw:(["word","kinds"]:LS).Nodup:=by rfl'
abbrev SR:LS:=["kinds","places","call"]
def Yed:AX SR SR (AJ YR):=by nofun
def zv(F:Def K mg "is_call" YR SR f fd)(len:mg "len"=none)(all:mg "all"=none)(TC:Tx K C)(MH:Xd K C fH fdH):⋯ 2 f fd SR (qr C):=by
 have GH:⋯ 1 fH fdH ["self","word"] (ma C):=p9 MH.fn TC
 nomatch F.fn.ok Yed
 ·obtain⟨p,t,n,rows,xs,rfl,_⟩:=h;rfl
 ·obtain⟨p,t,n,rows,xs,rfl,kd,g,ht,hz,q⟩:=h;obtain⟨dx,d,a,o,oa,kvs,AR,h1,_⟩:=kd.ex;have AZ:Af 1 _:=hr.mono (by decide)
  ac_nf
  refine'⟨_,AG (AO (Vc ?ea (Vd ?eb))),?_⟩
  case ea=>exact LK BV (Aq Cn (by rfl) len BI (pC (pv 2) AA)) (pv 1) (Ab _)
  case eb=>exact Aq (bg rfl) (by rfl) all cf (pC
    (Bm ["word"] ["kinds"] [0] (λ_=>BH (osc:=AJ YR) (on:=SR) (by rfl') rfl rfl rfl) (UQ (pv 2)) (λC s H fp=>BN (i:=0) Yaw rfl (Or.inl rfl) (Or.inr rfl)) (λC s H fp=>Bn)
     (λC s H fp=>T9 (pv 1) TC.cl MH.me GH AZ MH.b .nil BA (pC (pv 0) AA))) AA)
  refine⟨Z,t,Z,.inr (AH.of ht),Z,Y,Z,?_⟩;have e:decide (V.int ((xs.map V.str).length:Nat)=V.int n)=decide (xs.length=n):=by
   rw[Ya];exact Vj.mpr ⟨λz=>by injection z with z;omega,λz=>by rw[z]⟩
  rw[e];refine A1 (λh=>?_) (λh=>?_)
  ·refine⟨Z,t,Y,⟨_,AH.of ht⟩,YQ (Uo (xs:=xs.map V.str)) (sL (by rw[Ya];omega)) (λ_=>true) (p5 rows) (λD ys hD=>AH.of (by rw[AD (AK ht hD)];exact ht)) ?_ ?_ ?_⟩
   ·intro D ys v R _ _ hR;exact hR
   ·intro D ys v R hD hv _ hR;obtain⟨x,hx,rfl⟩:=Yg.mp hv;have s2:AB H (upd H D (.lst ys)):=AM hD;exact⟨Z,p,dx,Z,s2 _ _ h1,qE _ _,Z,p,rows,x,Y,kd.mono s2,g,hR⟩
   ·intro D hD;refine⟨D,Z,SqL.of (by rw[uS,Zu3]),?_⟩;have q':=q _ (AM (o:=.lst (((xs.map V.str).filter λ_=>true).map (p5 rows))) hD);unfold eW at q';rw[h,DQ]at q';show Q (.bl ((xs.map λx=>decide (x∈rows.map (·.1))).all id)) _;rw[List.all_map];exact q'
  ·have q':=q H (AB.refl H);unfold eW at q';rw[show decide (xs.length=n)=false by simpa using h,V5]at q';exact q'
def Cd(H:Hp)(ds:List (LS))(vs:LV):Prop:=Paired (λ(d:LS) v=>∃ t,v=V.ref t/\H t=some (.tup (d.map V.str))) ds vs
def Cd.mono{H H':Hp}{ds:List (LS)}{vs:LV}(h:Cd H ds vs)(s:AB H H'):Cd H' ds vs:=Paired.mapP h λ_ _ ⟨t,e,x⟩=>⟨t,e,s _ _ x⟩
structure UX(rows:RS)(n:Nat)(ds:List (LS)):Prop where
 call:∀ d∈ds,Ve rows n d
 nd:ds.Nodup
 few:ds.length<=64
def VZ(d:LS):List Key:=d.map Sum.inr
def Z1z(d:LS):(VZ d).map kV=d.map V.str:=by
 unfold VZ;rw[B9];rfl
def Z10{d e:LS}(h:VZ d=VZ e):d=e:=by
 unfold VZ at h;exact List.map_inj_right (λa b z=>by injection z) |>.mp h
def Zt5{ds:List (LS)}(nd:ds.Nodup){i:Nat}{d:LS}(h:ds[i]?=some d):VZ d∉(ds.take i).map VZ:=by
 intro m;obtain⟨e,he,q⟩:=Yg.mp m;rw[Z10 q]at he;exact zH nd h he
def Zka(K:Fg)(C:Addr):Sp:=λvs H Q _=>∃(p l:Addr) (n:Nat) (b:Bool) (rows:RS) (ds:List (LS)) (us:LV),vs=[.ref p,.int n,.ref l]/\CQ C H p rows/\Am rows/\CW K b H l us/\Cd H ds us/\UX rows n ds/\n<=4/\∀ H',AB H H'->Q .non H'
abbrev nCD:LS:=["kinds","places","deeds","seen","number","call"]
def Yc8:AX nCD ["kinds","places","deeds"] (AJ mC):=by nofun
def Zma(F:Def K mg "check_deeds" mC ["kinds","places","deeds"] f fd)(DI:Def K mg "is_call" YR SR fI fdI)(enum:mg "enumerate"=none)(len:mg "len"=none)(all:mg "all"=none)(TC:Tx K C)(MH:Xd K C fH fdH):
  ⋯ 3 f fd ["kinds","places","deeds"] (Zka K C):=by
 have GI:⋯ 2 fI fdI SR (qr C):=zv DI len all TC MH
 nomatch F.fn.ok Yc8
 ·obtain⟨p,l,n,b,rows,ds,us,rfl,_⟩:=h;rfl
 ·obtain⟨p,l,n,b,rows,ds,us,rfl,kd,g,hl,hD,gd,hn,q⟩:=h;have nd:=Yc8.nd;have hu:=Tz hr
  ac_nf
  refine⟨_,pS (sE 3 nd Z0y)
   (AG (BM Yw rfl (qU (by rfl) enum (pC (pv 2) AA)) (LJ rfl (gC (gE 4 nd) (gC (gE 5 nd) LL)))
    (pS (AY (CO (Bo (AL DI GI hr (pC (pv 0) (pC (pv 1) (pC (pv 5) AA)))))) CK Aa)
    (pS (AY (XQ (bW hu (pv 5) (pv 3))) CK Aa)
    (AG (Ws hu (pv 3) (pv 5) Cj rfl)))))),?_⟩
  exists let b:=AF _ a;let c:=AF _ b;let e:=BS _ _ c;AF _ e _ _ _
  intro d hd;have s0:AB H (upd H d (.dT [])):=AM hd;have hvl:=hD.length;have few:=gd.few;let Au:NW:=λi σ H'=>∃(kvs:List (List Key×V)) (a c:OV),σ=[some (.ref p),some (.int n),some (.ref l),some (.ref d),a,c]/\AB H H'/\H' d=some (.dT kvs)/\kvs.map (·.1)=(ds.take i).map VZ;refine⟨Z,b,l,us,Y,hl.mono s0,gL Au
   ⟨[],none,none,Y,s0,uS,by simp⟩ (λi σ H' _ h0=>by obtain⟨_,_,_,_,s,_⟩:=h0;exact hl.mono s) ?_ ?_⟩
  ·rintro i pr t σ H' hi ⟨kvs,a,c,rfl,s1,hdk,hk⟩ U0;obtain⟨e1,hx⟩:=Zr hi;obtain⟨dd,hdd,t2,e2,A_⟩:=Bp hD hx;refine fG ?_;have s2:AB H' (upd H' t (.tup [pr.1,pr.2])):=AM U0;have Ak:dd∈ds:=Yd hdd;have gc:=gd.call dd Ak;rw[e2];show AF _ _ _ [some (.ref p),some (.int n),some (.ref l),some (.ref d),some pr.1,some (.ref t2)] _;have Cv:=s1.trans s2;refine⟨Z,Z,Z,p,t2,n,rows,dd,Y,kd.mono ?_,g,?_,by have:=gc.len;omega,λH3 s3=>⟨Z,?_⟩⟩
   ·rw[<- e2];exact Cv
   ·rw[<- e2];exact Cv _ _ A_
   rw[gc.is];refine AS ?_;rw[<- e2]at s3;have Ue:=Cv.trans s3;have va:H3 d=some (.dT kvs):=s3 _ _ (s2 _ _ hdk);have WT:H3 t2=some (.tup ((VZ dd).map kV)):=by rw[Z1z];exact Ue _ _ A_
   refine⟨Z,Z,d,Z,Bj.t (k:=VZ dd) va WT,Z,?_⟩;have A7:VZ dd∉kvs.map (·.1):=by rw[hk];exact Zt5 gd.nd hdd
   rw[Zmh A7];refine AS ?_;have hkl:kvs.length=(ds.take i).length:=by have:=congrArg List.length hk;simpa using this
   have hil:(ds.take i).length<=64:=by rw[Bg];omega
   refine⟨Z,Z,d,Z,Sa.t (k:=VZ dd) va WT (Bq (by omega)),?_⟩;refine⟨_,_,Z,λb o e=>?_,uS,?_⟩
   ·rw[AD (AK e hd)];exact Ue _ _ e
   ·rw[Zud A7,hk,Bt,hdd,Ys];rfl
  ·rintro σ H' ⟨kvs,a,c,rfl,s1,hdk,hk⟩;exact q H' s1
def Yfb:¬ (("book":Str)="stands"):=by rfl'
def Yfa:¬ (("book":Str)="width"):=by rfl'
def Ye9:¬ (("width":Str)="stands"):=by rfl'
def Uj(k t:Addr)(n:Nat):List (Str×V):=Ba "stands" (.ref t) (Ba "width" (.int n) (Ba "book" (.ref k) []))
def Z5l(k t:Addr)(n:Nat):(Uj k t n).lookup ("book":Str)=some (.ref k):=by
 unfold Uj;rw[CT,if_neg Yfb,CT,if_neg Yfa,CT,if_pos rfl]
def Z5j(k t:Addr)(n:Nat):(Uj k t n).lookup ("width":Str)=some (.int n):=by
 unfold Uj;rw[CT,if_neg Ye9,CT,if_pos rfl]
def Z5k(k t:Addr)(n:Nat):(Uj k t n).lookup ("stands":Str)=some (.ref t):=by
 unfold Uj;rw[CT,if_pos rfl]
def ql(k t:Addr)(n:Nat){m:Str}(h1:¬ m="stands")(h2:¬ m="width")(h3:¬ m="book"):(Uj k t n).lookup m=none:=by
 unfold Uj;rw[CT,if_neg h1,CT,if_neg h2,CT,if_neg h3];rfl
def rD(k t:Addr)(n:Nat):(Uj k t n).lookup ("kinds":Str)=none:=ql k t n (by rfl') (by rfl') (by rfl')
def lF(k t:Addr)(n:Nat):(Uj k t n).lookup ("places":Str)=none:=ql k t n (by rfl') (by rfl') (by rfl')
def ka(k t:Addr)(n:Nat):(Uj k t n).lookup ("deeds":Str)=none:=ql k t n (by rfl') (by rfl') (by rfl')
structure T7(C B:Addr)(H:Hp)(p k:Addr)(rows:RS)(n:Nat)(ds:List (LS)):Prop where
 ex:∃(dx t:Addr) (us:LV),H p=some (.ins B dx (Uj k t n))/\CQ C H k rows/\H t=some (.tup us)/\Cd H ds us
theorem T7.mono{C B:Addr}{H H':Hp}{p k:Addr}{rows:RS}{n:Nat}{ds:List (LS)}(h:T7 C B H p k rows n ds)(s:AB H H'):T7 C B H' p k rows n ds:=by
 obtain⟨dx,t,us,h1,h2,h3,h4⟩:=h.ex;exact⟨dx,t,us,s _ _ h1,h2.mono s,s _ _ h3,h4.mono s⟩
structure Wi(K:Fg)(B:Addr):Prop where
 cl:VI K B
 nB:Ul K B "book"
 nW:Ul K B "width"
 nS:Ul K B "stands"
structure sJ(mg:Str->OU):Prop where
 places:∃ t,mg "MOST_PLACES"=some (.int 4 t)
 deeds:∃ t,mg "MOST_DEEDS"=some (.int 64 t)
 len:mg "len"=none
 all:mg "all"=none
 tuple:mg "tuple"=none
 list:mg "list"=none
 enum:mg "enumerate"=none
def qe(K:Fg)(C B:Addr):Sp:=λvs H Q _=>∃(p dx k l:Addr) (n:Nat) (rows:RS) (ds:List (LS)) (us:LV),vs=[.ref p,.ref k,.int n,.ref l]/\H p=some (.ins B dx [])/\CQ C H k rows/\Am rows/\(SqL K H l us\/H l=some (.tup us))/\Cd H ds us/\UX rows n ds/\1<=n/\n<=4 /\
 ∀ H',T7 C B H' p k rows n ds->(∀ b o,b≠p->H b=some o->H' b=some o)->Q .non H'
def lC{C p:Addr}{H H':Hp}{k:Addr}{rows:RS}{o:HO}(h:CQ C H k rows)(hp:H p=some o)(s:∀ b o,b≠p->H b=some o->H' b=some o)(nk:k≠p)(no:∀ o' u,o≠.frz o' u)(nt:∀ xs,o≠.tup xs):CQ C H' k rows:=by
 obtain⟨dx,d,a,o1,oa,kvs,AR,h1,h2,h3,h4⟩:=h.ex;have ne:∀ {b o' u},H b=some (.frz o' u)->b≠p:=λ{b o' u} e z=>by rw[z,hp]at e;exact no _ _ (Ym e)
 have net:∀ {b xs},H b=some (.tup xs)->b≠p:=λ{b xs} e z=>by rw[z,hp]at e;exact nt _ (Ym e)
 exact⟨dx,d,a,o1,oa,kvs,AR,s _ _ nk h1,⟨s _ _ (ne h2.at_) h2.at_,h2.ups.mono λb xs e=>s _ _ (net e) e⟩,s _ _ (ne h3) h3,h4.mono λb o' fk e=>s _ _ (ne e) e⟩
abbrev dQ:LS:=["self","kinds","places","deeds"]
def Yen:AX dQ dQ (AJ rl):=by nofun
def Z1k(F:Bu K "__init__" "Board.__init__" rl f fd)(T:sJ mg)(TB:Wi K B)(TC:Tx K C)(DD:Def K mg "check_deeds" mC ["kinds","places","deeds"] fD fdD)(DI:Def K mg "is_call" YR SR fI fdI)(MH:Xd K C fH fdH)(hBC:B≠C):
  ⋯ 4 f fd dQ (qe K C B):=by
 have GD:⋯ 3 fD fdD ["kinds","places","deeds"] (Zka K C):=Zma DD DI T.enum T.len T.all TC MH
 nomatch F.ok Yen
 ·obtain⟨p,dx,k,l,n,rows,ds,us,rfl,_⟩:=h;rfl
 ·obtain⟨p,dx,k,l,n,rows,ds,us,rfl,hp,kd,g,hl,hD,gd,n1,n4,q⟩:=h;obtain⟨b,hl,bC⟩:∃ b,CW K b H l us/\(b=false->H l=some (.tup us)):=by
   rcases hl with hl | hl
   ·exact⟨true,hl,λz=>by cases z⟩
   ·exact⟨false,AH.of hl,λ_=>hl⟩
  obtain⟨t1,hP⟩:=T.places;obtain⟨t2,hM⟩:=T.deeds;have Uh:Af 3 _:=hr.mono (by decide)
  ac_nf
  refine⟨_,pS (AY (CO (kO Wm Wm AE (pv 2) (VB (v:=.int 4) (by rfl) hP ⟨Z⟩))) CK Aa)
   (pS (AY (Ag Wl (Aq UR (by rfl) T.len BI (pC (pv 3) AA)) (VB (v:=.int 64) (by rfl) hM ⟨Z⟩) (Ab _)) CK Aa)
   (pS (Bc (AL DD GD Uh (pC (pv 1) (pC (pv 2) (pC (pv 3) AA)))))
   (pS (YA (pv 0) (pv 1) rfl) (pS (YA (pv 0) (pv 2) rfl)
   (AG (YA (pv 0) (Co V1 (by rfl) T.tuple Ur (pC (pv 3) AA)) rfl)))))),?_⟩
  exists let b:=AF _ a;let c:=AF _ b;let e:=AF _ c;let f:=AF _ e;AF _ f _ _ _
  refine⟨Z,_,Z,Y,Z,?_⟩;rw[show decide ((1:Int)<=(n:Int))=true from Jb (by omega)];refine Av ⟨_,Z,Y,Z,?_⟩;rw[show(decide ((n:Int)<=4))=true from Jb (by omega)];refine AS ?_;have hul:=hD.length;have few:=gd.few;refine⟨Z,_,Z,kG hl,_,Z,Y,Z,?_⟩;rw[show decide ((64:Int)<(us.length:Int))=false from Jc (by omega)];refine AS ?_;refine⟨Z,Z,Z,p |> λ_=>k,l,n,b,rows,ds,us,Y,kd,g,hl,hD,gd,n4,λH1 s1=>?_⟩;have LA:=s1 _ _ hp;have kd1:=kd.mono s1;have nkp:k≠p:=by
   intro z;obtain⟨dx',d,a,o,oa,kvs,AR,h1,_⟩:=kd.ex;rw[z,hp]at h1;injection h1 with h1;injection h1 with h1;exact hBC h1
  refine⟨Z,Z,p,B,dx,[],Y,LA,TB.cl,TB.nB,(by show 0<1000;decide),?_⟩;refine⟨Z,Z,p,B,dx,Z,uS,TB.cl,TB.nW,(by show 1<1000;decide),?_⟩;rw[YG];have kp:∀ {fs:List (Str×V)} (b:Addr) (o:HO),b≠p->H b=some o->(upd H1 p (.ins B dx fs)) b=some o:=λb o hb e=>by rw[AD hb];exact s1 _ _ e
  have hlp:∀ {fs:List (Str×V)},CW K b (upd H1 p (.ins B dx fs)) l us:=λ{fs}=>by
   have Aw:=hl.mono s1;cases b with
   | true =>
    rcases(show SqL K H1 l us from Aw)with(e | ⟨o,e⟩) | e
    ·exact .inl (.inl (by rw[AD (λz=>by rw[z,LA]at e;cases e)];exact e))
    ·exact .inl (.inr ⟨o,by rw[AD (λz=>by rw[z,LA]at e;cases e)];exact e⟩)
    ·exact .inr e
   | false =>
    rcases(show AH K H1 l us from Aw)with(e | ⟨o,e⟩) | e
    ·exact .inl (.inl (by rw[AD (λz=>by rw[z,LA]at e;cases e)];exact e))
    ·exact .inl (.inr ⟨o,by rw[AD (λz=>by rw[z,LA]at e;cases e)];exact e⟩)
    ·exact .inr e
  have fin:∀(t:Addr) (H2:Hp),AB (upd H1 p (.ins B dx (Ba "width" (.int n) (Ba "book" (.ref k) [])))) H2->H2 t=some (.tup us)->Q .non (upd H2 p (.ins B dx (Uj k t n))):=λt H2 s2 ht=>by
   have SV:H2 p=some (.ins B dx (Ba "width" (.int n) (Ba "book" (.ref k) []))):=s2 _ _ uS;have k2:∀ b o,b≠p->H b=some o->(upd H2 p (.ins B dx (Uj k t n))) b=some o:=λb o hb e=>by rw[AD hb];exact s2 _ _ (kp b o hb e)
   refine q _ ⟨dx,t,us,uS,lC kd hp k2 nkp (λ_ _ z=>by cases z) (λ_ z=>by cases z),by rw[AD (λz=>by rw[z,SV]at ht;cases ht)];exact ht,Paired.mapP hD λd v ⟨t',e,x⟩=>⟨t',e,k2 _ _ (λz=>by rw[z,hp]at x;cases x) x⟩⟩ k2
  refine⟨Z,l,us,Y,?_⟩;have no:=hlp (fs:=Ba "width" (.int n) (Ba "book" (.ref k) []));have wd:(Ba "width" (V.int n) (Ba "book" (V.ref k) [])).length<1000:=by show 2<1000;decide
  cases b with
  | true =>
   refine .inl ⟨no,λt ht=>⟨Z,p,B,dx,Z,(AM ht) _ _ uS,TB.cl,TB.nS,wd,fin t _ (AM ht) uS⟩⟩
  | false =>
   have e:(upd H1 p (.ins B dx (Ba "width" (.int n) (Ba "book" (.ref k) [])))) l=some (.tup us):=by
    have e0:=s1 _ _ (bC rfl);rw[AD (λz=>by rw[z,LA]at e0;cases e0)];exact e0
   exact .inr ⟨no,Z,p,B,dx,Z,uS,TB.cl,TB.nS,wd,fin l _ (AB.refl _) e⟩
def kT(C B:Addr):Sp:=λvs H Q _=>∃(p k:Addr) (rows:RS) (n:Nat) (ds:List (LS)),vs=[.ref p]/\T7 C B H p k rows n ds/\Q (.ref k) H
def gT(C B:Addr):Sp:=λvs H Q _=>∃(p k:Addr) (rows:RS) (n:Nat) (ds:List (LS)),vs=[.ref p]/\T7 C B H p k rows n ds/\Q (.int n) H
def gG(C B:Addr):Sp:=λvs H Q _=>∃(p k:Addr) (rows:RS) (n:Nat) (ds:List (LS)),vs=[.ref p]/\T7 C B H p k rows n ds/\∀ l us,H l=none->Cd H ds us->Q (.ref l) (upd H l (.lst us))
def Yem:AX ["self"] ["self"] (AJ l_):=by nofun
def rF(F:Bu K "kinds" "Board.kinds" l_ f fd)(TB:Wi K B):⋯ 1 f fd ["self"] (kT C B):=by
 nomatch F.ok Yem
 ·obtain⟨p,k,rows,n,ds,rfl,_⟩:=h;rfl
 ·obtain⟨p,k,rows,n,ds,rfl,⟨dx,t,us,h1,h2,h3,h4⟩,q⟩:=h;exact⟨_,AG (AO (VA (pv 0) rfl)),Z,p,B,dx,_,Z,h1,TB.cl,TB.nB,Z5l _ _ _,q⟩
def Yel:AX ["self"] ["self"] (AJ mI):=by nofun
def lG(F:Bu K "places" "Board.places" mI f fd)(TB:Wi K B):⋯ 1 f fd ["self"] (gT C B):=by
 nomatch F.ok Yel
 ·obtain⟨p,k,rows,n,ds,rfl,_⟩:=h;rfl
 ·obtain⟨p,k,rows,n,ds,rfl,⟨dx,t,us,h1,h2,h3,h4⟩,q⟩:=h;exact⟨_,AG (AO (VA (pv 0) rfl)),Z,p,B,dx,_,Z,h1,TB.cl,TB.nW,Z5j _ _ _,q⟩
def Yeo:AX ["self"] ["self"] (AJ l9):=by nofun
def kb(F:Bu K "deeds" "Board.deeds" l9 f fd)(TB:Wi K B)(list:mg "list"=none):⋯ 1 f fd ["self"] (gG C B):=by
 nomatch F.ok Yeo
 ·obtain⟨p,k,rows,n,ds,rfl,_⟩:=h;rfl
 ·obtain⟨p,k,rows,n,ds,rfl,⟨dx,t,us,h1,h2,h3,h4⟩,q⟩:=h;exact⟨_,AG (AO (Co cB (by rfl) list W2 (pC (VA (pv 0) rfl) AA))),Z,p,B,dx,_,Z,h1,TB.cl,TB.nS,Z5k _ _ _,t,us,Y,.inr (AH.of h3),λl hl=>q l us hl h4⟩
abbrev qL(K:Fg)(B f:Addr)(fd:FuncData):Prop:=Sb K B "kinds" "Board.kinds" l_ ["self"] f fd
abbrev kI(K:Fg)(B f:Addr)(fd:FuncData):Prop:=Sb K B "places" "Board.places" mI ["self"] f fd
abbrev jz(K:Fg)(B f:Addr)(fd:FuncData):Prop:=Sb K B "deeds" "Board.deeds" l9 ["self"] f fd
def CS(rows:RS)(xs ys:LS):Bool:=(xs.zip ys).all λp=>Uk rows p.1 p.2
def gv(p:Str×Str):V×V:=(V.str p.1,V.str p.2)
def kH(xs ys:LS):(xs.map V.str).zip (ys.map V.str)=(xs.zip ys).map gv:=by rw[List.zip_map];rfl
def zY{α β:Type}{f:α->β}{l:List α}{i:Nat}{y:β}(h:(l.map f)[i]?=some y):∃ x,l[i]?=some x/\f x=y:=by
 rw[Yj]at h;exact CV.mp h
def kZ(C:Addr):Sp:=λvs H Q _=>∃(p a b:Addr) (rows:RS) (xs ys:LS),vs=[.ref p,.ref a,.ref b]/\CQ C H p rows/\Am rows/\H a=some (.tup (xs.map V.str))/\H b=some (.tup (ys.map V.str))/\(∀ x∈xs,x∈rows.map (·.1))/\(∀ y∈ys,y∈rows.map (·.1)) /\
 ∀ H',AB H H'->Q (.bl (CS rows xs ys)) H'
def Zk1(C:Addr):Sp:=λvs H Q _=>∃(p t:Addr) (n:Nat) (rows:RS) (xs:LS),vs=[.ref p,.int n,.ref t]/\CQ C H p rows/\Am rows/\H t=some (.tup (xs.map V.str))/\Ve rows n xs/\n<=4/\∀ H',AB H H'->Q .non H'
def Dq(rows:RS)(ds:List (LS))(xs:LS):LN:=(List.range ds.length).filter λi=>CS rows xs (ds.getD i [])
def zf(C B:Addr):Sp:=λvs H Q _=>∃(p k t:Addr) (rows:RS) (n:Nat) (ds:List (LS)) (xs:LS),vs=[.ref p,.ref t]/\T7 C B H p k rows n ds/\Am rows/\UX rows n ds/\n<=4/\H t=some (.tup (xs.map V.str))/\Ve rows n xs /\
 ∀ l H',H l=none->AB H H'->H' l=some (.lst ((Dq rows ds xs).map λi=>V.int (i:Nat)))->Q (.ref l) H'
abbrev nWi:LS:=["kinds","one","other","low","high"]
def Yci:AX nWi ["kinds","one","other"] (AJ bw):=by nofun
def zO(F:Def K mg "within" bw ["kinds","one","other"] f fd)(zip:mg "zip"=none)(TC:Tx K C)(MU:Z3v K C fU fdU)(MC:Z3w K C fC fdC)(MH:Xd K C fH fdH):
  ⋯ 4 f fd ["kinds","one","other"] (kZ C):=by
 have GU:⋯ 3 fU fdU ["self","one","other"] (xc C):=Z02 MU.fn TC MC MH
 nomatch F.fn.ok Yci
 ·obtain⟨p,a,b,rows,xs,ys,rfl,_⟩:=h;rfl
 ·obtain⟨p,a,b,rows,xs,ys,rfl,kd,g,ha,hb,hx,hy,q⟩:=h;obtain⟨dx,d,a1,o,oa,kvs,AR,h1,_⟩:=kd.ex;have nd:=Yci.nd
  ac_nf
  refine⟨_,pS (BM Yw rfl (Z3d (by rfl) zip (pC (pv 1) (pC (pv 2) AA))) (LJ rfl (gC (gE 3 nd) (gC (gE 4 nd) LL)))
    (AG (AY (CO (Bo (T9 (pv 0) TC.cl MU.me GU hr MU.b .nil BA (pC (pv 3) (pC (pv 4) AA))))) (AG (AO Cj)) Aa)))
   (AG (AO Cj)),?_⟩
  exists let b:=_;AF (BS _ _ b) a _ _ _
  let Au:NW:=λi σ H'=>∃(u v:OV),σ=[some (.ref p),some (.ref a),some (.ref b),u,v]/\AB H H'/\∀ z∈(xs.zip ys).take i,Uk rows z.1 z.2=true;refine⟨Z,Z,a,b,_,Z,AH.of ha,AH.of hb,gL Au
   ⟨none,none,Y,AB.refl H,by simp⟩ (λi σ H' _ h0=>by obtain⟨_,_,_,s,_⟩:=h0;exact⟨AH.of (s _ _ ha),AH.of (s _ _ hb)⟩) ?_ ?_⟩
  ·rintro i pr t σ H' hi ⟨u,v,rfl,s1,hall⟩ U0;rw[kH]at hi;obtain⟨z,hz,rfl⟩:=zY hi;refine fG ?_;have s2:=s1.trans (AM (o:=.tup [(gv z).1,(gv z).2]) U0);have zm:=Yd hz;have hzx:=hx _ (cc zm).1;have hzy:=hy _ (cc zm).2;refine⟨Z,p,dx,Z,s2 _ _ h1,Z1q _ _,Z,Z,p,rows,z.1,z.2,Y,kd.mono s2,g,hzx,hzy,Z,?_⟩;refine A1 (λh=>?_) (λh=>?_)
   ·have e:CS rows xs ys=false:=by
     unfold CS;rw[List.all_eq_false];exact⟨z,zm,by simpa using h⟩
    have q':=q _ s2;rw[e]at q';exact q'
   ·refine⟨_,Z,s2,λy Uy=>?_⟩;rw[Bt,hz]at Uy
    rcases Yo.mp Uy with m | m
    ·exact hall y m
    ·have:y=z:=by simpa using m
     rw[this];simpa using h
  ·rintro σ H' ⟨u,v,rfl,s1,hall⟩;rw[kH,Ya,Bs]at hall;have e:CS rows xs ys=true:=by
    unfold CS;rw[CL];exact hall
   have q':=q _ s1;rw[e]at q';exact q'
def Yej:AX SR SR (AJ lg):=by nofun
def Znt(F:Def K mg "check_call" lg SR f fd)(DI:Def K mg "is_call" YR SR fI fdI)(len:mg "len"=none)(all:mg "all"=none)(TC:Tx K C)(MH:Xd K C fH fdH):⋯ 3 f fd SR (Zk1 C):=by
 have GI:⋯ 2 fI fdI SR (qr C):=zv DI len all TC MH
 nomatch F.fn.ok Yej
 ·obtain⟨p,t,n,rows,xs,rfl,_⟩:=h;rfl
 ·obtain⟨p,t,n,rows,xs,rfl,kd,g,ht,gc,hn,q⟩:=h
  ac_nf
  refine⟨_,AG (AY (CO (Bo (AL DI GI hr (pC (pv 0) (pC (pv 1) (pC (pv 2) AA)))))) CK Aa),?_⟩;refine⟨Z,Z,Z,p,t,n,rows,xs,Y,kd,g,ht,by have:=gc.len;omega,λH' s'=>⟨Z,?_⟩⟩;rw[gc.is];exact AS (q H' s')
abbrev vB:LS:=["board","call","kinds"]
def Ycz:AX vB ["board","call"] (AJ gP):=by nofun
def Z40:(["number","deed","kinds","call"]:LS).Nodup:=by rfl'
def Ydd(p:V×V):V:=p.1
def Z19{rows:RS}{ds:List (LS)}{xs:LS}{us:LV}{p:V×V->Bool}(hl:ds.length=us.length)(h:∀ i (d:LS) v,ds[i]?=some d->us[i]?=some v->p (.int (i:Nat),v)=CS rows xs d):
  ((Sh us).filter p).map Ydd=(Dq rows ds xs).map λi=>V.int (i:Nat):=by
 have e1:Sh us=(List.range us.length).map λ(i:Nat)=>(V.int (i:Nat),us.getD i .non):=by
  refine List.ext_getElem? λi=>?_;by_cases hi:i<us.length
  ·have h1:(Sh us)[i]?=some ((Sh us)[i]'(by rw[Wu];exact hi)):=Yb (by rw[Wu];exact hi);obtain⟨a,b⟩:=Zr h1;rw[h1,Yj,List.getElem?_range hi];refine congrArg some (Prod.ext a ?_);show _=us.getD i .non;rw[Yl,b];rfl
  ·rw[gz (by rw[Wu];omega),gz (by simp;omega)]
 rw[e1,hX,B9];unfold Dq;rw[hl];have e2:(List.range us.length).filter (p ∘ λ(i:Nat)=>(V.int (i:Nat),us.getD i .non))=(List.range us.length).filter λi=>CS rows xs (ds.getD i []):=by
  refine List.filter_congr λi hi=>?_;have hi:i<us.length:=VG.mp hi;have d1:ds[i]?=some (ds.getD i []):=by rw[Yl,Yb (by omega)];rfl
  have u1:us[i]?=some (us.getD i .non):=by rw[Yl,Yb hi];rfl
  exact h i _ _ d1 u1
 rw[e2];rfl
def Ydi(rows:RS)(ds:List (LS))(xs:LS):V×V->Bool
 | (.int i,_)=>CS rows xs (ds.getD i.toNat [])
 | _=>false
def Zus(F:Def K mg "fitting" gP ["board","call"] f fd)(T:sJ mg)(zip:mg "zip"=none)(TC:Tx K C)(TB:Wi K B)(MK:qL K B fK fdK)(MP:kI K B fPl fdPl)(MD:jz K B fDe fdDe)
  (DCk:Def K mg "check_call" lg SR fCk fdCk) (DW:Def K mg "within" bw ["kinds","one","other"] fW fdW) (DI:Def K mg "is_call" YR SR fI fdI) (MU:Z3v K C fU fdU) (MC:Z3w K C fC fdC) (MH:Xd K C fH fdH):
  ⋯ 5 f fd ["board","call"] (zf C B):=by
 have GK:⋯ 1 fK fdK ["self"] (kT C B):=rF MK.fn TB;have GP:⋯ 1 fPl fdPl ["self"] (gT C B):=lG MP.fn TB;have GD:⋯ 1 fDe fdDe ["self"] (gG C B):=kb MD.fn TB T.list;have GC:⋯ 3 fCk fdCk SR (Zk1 C):=Znt DCk DI T.len T.all TC MH;have GW:⋯ 4 fW fdW ["kinds","one","other"] (kZ C):=zO DW zip TC MU MC MH
 nomatch F.fn.ok Ycz
 ·obtain⟨p,k,t,rows,n,ds,xs,rfl,_⟩:=h;rfl
 ·obtain⟨p,k,t,rows,n,ds,xs,rfl,bd,g,gd,hn,ht,gc,q⟩:=h;obtain⟨dx,ts,us,h1,h2,h3,h4⟩:=bd.ex;have nd:=Ycz.nd;have AZ:Af 1 _:=hr.mono (by decide);have Uh:Af 3 _:=hr.mono (by decide)
  ac_nf
  refine'⟨_,pS (Sl (i:=2) nd rfl (Or.inr rfl) (DJ (pv 0) TB.cl MK.me GK AZ MK.b .nil BA))
   (pS (Bc (AL DCk GC Uh (pC (pv 2) (pC (DJ (pv 0) TB.cl MP.me GP AZ MP.b .nil BA) (pC (pv 1) AA)))))
   (AG (AO ?ea))),?_⟩
  case ea=>exact(Bm ["number","deed"] ["kinds","call"] [2,1] (λ_=>BH (osc:=AJ gP) (on:=vB) (by rfl') rfl rfl rfl) (qU (by rfl) T.enum (pC (DJ (pv 0) TB.cl MD.me GD AZ MD.b .nil BA) AA))
    (λC s H fp=>Zj (K:=K) (i:=0) (j:=1) rfl rfl Z40 rfl rfl (Or.inl rfl) (Or.inl rfl) (Or.inr rfl) (Or.inr rfl))
    (λC s H fp=>Zl (Bo (AL DW GW hr (pC (pv 2) (pC (pv 3) (pC (pv 1) AA)))))) (λC s H fp=>pv 0))
  exists let b:=AF _ a;AF _ b _ _ _
  refine⟨Z,p,dx,Z,h1,rD _ _ _,p,k,rows,n,ds,Y,bd,?_⟩;refine⟨Z,Z,p,dx,Z,h1,lF _ _ _,p,k,rows,n,ds,Y,bd,Z,k,t,n,rows,xs,Y,h2,g,ht,gc,hn,λH1 s1=>?_⟩;refine⟨Z,p,dx,Z,s1 _ _ h1,ka _ _ _,p,k,rows,n,ds,Y,bd.mono s1,λl W8 hl hD=>?_⟩;have s2:AB H1 (upd H1 l (.lst W8)):=AM hl;have hul:=hD.length;have few:=gd.few;refine⟨true,l,W8,Y,SqL.of uS,q_ (sL (by rw[Wu];omega)) (Ydi rows ds xs) Ydd (λH' s'=>SqL.of (s' _ _ uS)) ?_ ?_ ?_⟩
  ·intro x H' R s' hx hR;obtain⟨i,hi⟩:=hZ hx;obtain⟨e1,hu⟩:=Zr hi;obtain⟨dd,hdd,t2,e2,A_⟩:=Bp hD hu;have Cv:=s1.trans (s2.trans s');have gcd:=gd.call dd (Yd hdd);rw[e2];refine⟨Z,Z,Z,k,t,t2,rows,xs,dd,Y,h2.mono Cv,g,Cv _ _ ht,s' _ _ (s2 _ _ A_),gc.known,gcd.known,λH3 s3=>⟨Z,?_⟩⟩;have e:Ydi rows ds xs x=CS rows xs dd:=by
    obtain⟨x1,x2⟩:=x;have e1:x1=.int (i:Nat):=e1;rw[e1];show CS rows xs (ds.getD ((i:Nat):Int).toNat [])=_;rw[YX,Yl,hdd];rfl
   rw[<- e];exact hR H3 s3
  ·intro x H' R s' hx _ hR;exact⟨Z,hR H' (AB.refl _)⟩
  ·intro D H' eJ s' LC;have Cv:=s1.trans (s2.trans s');refine q D H' ?_ Cv ?_
   ·cases e:H D with
    | none=>rfl
    | some u=>have:=s2 _ _ (s1 _ _ e);rw[this]at eJ;cases eJ
   ·rw[LC,Z19 hul λi d v hd hv=>?_];show CS rows xs (ds.getD ((i:Nat):Int).toNat [])=_;rw[YX,Yl,hd];rfl
def bY{H:Hp}{p a:Addr}{o:HO}{ws:LS}(h:H p=some o)(ho:Dp o)(ha:H a=some (.lst (ws.map V.str))):p≠a:=sM h ha (by
 obtain⟨r,b,e,_⟩:=ho;rw[e];intro z;injection z with z;have z2:=congrArg (λl=>l[0]?) z;cases ws with
 | nil=>simp at z2
 | cons x r=>simp at z2)
theorem Drawn.tup{p:Addr}{H H':Hp}(d:Drawn p H H'){o:HO}(h:H p=some o)(ho:Dp o){t:Addr}{xs:LV}(e:H t=some (.tup xs)):H' t=some (.tup xs):=
 d.keep _ _ (λz=>by rw[z,h]at e;obtain⟨_,_,q,_⟩:=ho;rw[q]at e;cases e) e
def Vg{H H':Hp}{l:Addr}{rows:RS}(h:T5 H l rows)(s:AB H H'):T5 H' l rows:=by
 obtain⟨vs,a,p⟩:=h;exact⟨vs,s _ _ a,Paired.mapP p λr v ⟨t,u,e,h1,h2⟩=>⟨t,u,e,s _ _ h1,s _ _ h2⟩⟩
def rV{K:Fg}{l:Addr}{H2:Hp}{rows:RS}{σ:St}{te:TE}{Q:VK}(hR:T5 H2 l rows)(few:rows.length<=100)
  (he:∀(t u:Addr) (x:Str) H' (R:VK),H' t=some (.tup [.str x,.ref u])->R (.str x) H'->te [some (.ref t)] H' R)
  (hd:∀ D H3,H2 D=none->AB H2 H3->H3 D=some (.lst ((rows.map (·.1)).map V.str))->Q (.ref D) H3):AQ 1 [] (Ck 0) XM te σ Q (cx K l) H2:=by
 obtain⟨vs,hvs,hpr⟩:=hR;refine Zo (CU (xs:=vs)) (sL (by rw[<- hpr.length];omega)) (λ_=>true) (λ_ x v _=>∀ r,Z1 H2 r x->v=.str r.1) (λ_ _ _ _ _ _ h=>h) (λH' s=>s.seq (SqL.of hvs)) ?_ ?_ ?_
 ·intro x H3 R _ _ CA;exact CA H3 (AB.refl _)
 ·intro D x H3 R s3 _ _ hx _ CA;obtain⟨i,hi⟩:=Y3.mp hx;obtain⟨r,Az,t,u,rfl,ht,SU⟩:=Bp hpr hi;refine he t u r.1 H3 R (s3 _ _ ht) (CA _ _ (AB.refl _) λr' h'=>?_);obtain⟨t',u',e1,e2,_⟩:=h';cases e1;rw[ht]at e2;have e2:=Ym e2;injection e2 with e2;injection e2 with e2 _
 ·intro D H3 ys hD A9 hlD hpD;rw[kJ]at hpD;have eys:ys=(rows.map (·.1)).map V.str:=by
   have:∀ {rows:RS} {vs ys:LV},Paired (Z1 H2) rows vs->Paired (λx v=>∀ r,Z1 H2 r x->v=.str r.1) vs ys->ys=(rows.map (·.1)).map V.str:=by
    intro rows vs ys a
    induction a generalizing ys with
    | nil=>intro b;cases b;rfl
    | cons h t ih =>
     intro b;cases b with
     | cons h' t'=>rw[Yz,Yz,h' _ h,ih t']
   exact this hpr hpD
  subst eys;exact hd D H3 hD A9 hlD
def gQ{ws:LS}{v:Int}(h0:0<=v)(h1:v<(ws.map V.str).length):∃ x∈ws,BZ (ws.map V.str) v=some (.str x):=by
 have hl:v.toNat<ws.length:=by rw[Ya]at h1;omega
 refine⟨ws[v.toNat],Z9 hl,?_⟩;have e:((v.toNat:Nat):Int)=v:=by omega
 have q:BZ (ws.map V.str) ((v.toNat:Nat):Int)=some (.str ws[v.toNat]):=by
  refine Bb ?_;rw[Yj,Yb (by omega)];rfl
 rw[e]at q;exact q
abbrev Dt:=W.Dat
def De(d:LS):Dt:=.tuple (d.map W.Dat.str)
def Z2h{d e:LS}(h:De d=De e):d=e:=by
 unfold De at h;injection h with h;exact List.map_inj_right (λa b z=>by injection z) |>.mp h
def kP{K:Fg}{H:Hp}{t:Addr}{d:LS}(h:H t=some (.tup (d.map V.str))):Rep K H (.ref t) (De d):=.tuple (AH.of h) (Wv d)
theorem rP{K:Fg}{H:Hp}:∀ {ds:List (LS)}{vs:LV},Cd H ds vs->A4 K H vs (ds.map De)
 | _,_,.nil=>.nil
 | _,_,.cons ⟨t,e,h⟩ r=>by rw[e];exact .cons (kP h) (rP r)
def Up{rows:RS}(g:Am rows):∀ x∈rows.map (·.1),AW x=true:=λx hx=>by
 obtain⟨r,hr,e⟩:=Yg.mp hx;rw[<- e];exact g.word r hr
def Z0r{rows:RS}(g:Am rows){x y:Str}(hx:x∈rows.map (·.1))(h:Graph.Reach (BG rows) x y):y∈rows.map (·.1):=
 Graph.closed_reach (S:=λy=>y∈rows.map (·.1)) (λz hz u hu=>Zk4 g hz hu) h hx
def jq(n:Nat){x:Str}(h:AW x=true):W.kqdOk n (.str x)=true:=by
 have q:=fJ (ws:=[x]) (λy hy=>by rw[Yh.mp hy];exact h);rw[W.kqdOk]at q;have q2:W.kqdOk 8 (.str x)=true:=by simpa using q
 rw[W.kqdOk]at q2;rw[W.kqdOk];exact q2
def j7(n:Nat){d:LS}(h:∀ x∈d,AW x=true):W.kqdOk (n + 1) (De d)=true:=by
 unfold De;rw[W.kqdOk,CL];intro z hz;obtain⟨x,hx,rfl⟩:=Yg.mp hz;exact jq n (h x hx)
def yn(n:Nat){ds:List (LS)}(h:∀ d∈ds,∀ x∈d,AW x=true):(ds.map De).all (W.kqdOk (n + 1))=true:=by
 rw[CL];intro z hz;obtain⟨d,hd,rfl⟩:=Yg.mp hz;exact j7 n (h d hd)
def Z2n(ds:List (LS))(d:LS):((ds.map De).any λe=>U4 e (De d))=decide (d∈ds):=by
 by_cases h:d∈ds
 ·rw[Jb h,Xk];exact⟨De d,Yg.mpr ⟨d,h,Y⟩,VD _⟩
 ·rw[Jc h,List.any_eq_false];intro z hz;obtain⟨e,he,rfl⟩:=Yg.mp hz;rw[fo λq=>h (by rw[<- Z2h q];exact he)];exact Yq
def xU:Sp:=λvs H Q _=>∃(p l aa:Addr) (n m:Nat) (rows:RS) (AR:KL),vs=[.ref p,.ref l,.ref aa,.int n,.int m]/\(∃ o,H p=some o/\Dp o)/\T5 H l rows/\Am rows/\H aa=some (.dK AR)/\C9 H rows rows AR/\1<=n/\n<=4/\m<=63 /\
 ∀(ld:Addr) (ds:List (LS)) (us:LV) (H':Hp),Drawn p H H'->H ld=none->H' ld=some (.lst us)->Cd H' ds us->UX rows n ds->ds.length<=m->Q (.ref ld) H'
abbrev sN(K:Fg):LV->Hp->VK->Prop:=λxs H Q=>∃ p ys,xs=[.ref p]/\(SqL K H p ys\/AH K H p ys)/\Q (.int ys.length) H
structure mQ(mg:Str->OU):Prop where
 len:mg "len"=none
 range:mg "range"=none
 tuple:mg "tuple"=none
abbrev oU:LS:=["pot","rows","above","places","most","words","base","deeds","k","deed","near","place","some"]
def Yc2:AX oU ["pot","rows","above","places","most"] (AJ cD):=by nofun
def qQ:(["row"]:LS).Nodup:=by rfl'
def Z78:(["k","words","pot"]:LS).Nodup:=by rfl'
def Cd.drawn{p:Addr}{H H':Hp}{o:HO}{ds:List (LS)}{us:LV}(h:Cd H ds us)(k:∀ b xs,H b=some (.tup xs)->H' b=some (.tup xs)):Cd H' ds us:=Paired.mapP h λ_ _ ⟨t,e,x⟩=>⟨t,e,k _ _ x⟩
set_option maxHeartbeats 8000000 in
def zI(F:Def K mg "_law_deeds" cD ["pot","rows","above","places","most"] f fd)(DT:Def K mg "_law_take" V3 ["pot","many"] fT fdT)(T:mQ mg):
  ⋯ 2 f fd ["pot","rows","above","places","most"] xU:=by
 have GT:⋯ 1 fT fdT ["pot","many"] YC:=fu DT
 nomatch F.fn.ok Yc2
 ·obtain⟨p,l,aa,n,m,rows,AR,rfl,_⟩:=h;rfl
 ·obtain⟨p,l,aa,n,m,rows,AR,rfl,⟨o0,Cz,DX⟩,hR,g,Bd,hA,n1,n4,hm,q⟩:=h;have nd:=Yc2.nd;have hu:=Tz hr;have AZ:Af 1 _:=hr.mono (by decide);have gle:=g.le
  ac_nf
  refine'⟨_,pS (Sl (i:=5) nd rfl (Or.inr rfl) ?e1)
   (pS ?e2
   (pS (sE 7 nd (BX AA))
   (pS (BM Yw rfl (Vf (by rfl) T.range (pC (AL DT GT AZ (pC (pv 0) (pC (AU C_ (pv 4) AE) AA))) AA)) (gE 8 nd)
    (pS (sE 9 nd (BX AA))
    (pS (sE 10 nd (AL DT GT AZ (pC (pv 0) (pC AE AA))))
    (pS (BM Yw rfl (Vf (by rfl) T.range (pC (pv 3) AA)) (gE 11 nd)
     (pS (sE 12 nd (pv 5))
     (XS (AY (Ag Wl (pv 10) AE (Ab _)) (AG (sE 12 nd (Wr hu (pv 2) (AV A2 (pv 6) (pv 11) (λ_ _=>rfl)) (λ_ _=>rfl)))) Aa)
     (AG (Bc (Be Cs Dy Dx Di (pv 9) (pC (AV A2 (pv 12) (AL DT GT AZ (pC (pv 0) (pC (Aq Cn (by rfl) T.len BI (pC (pv 12) AA)) AA))) (λ_ _=>rfl)) AA)))))))
    (AG (AY (Ag (Zxp (Ye5 hr)) (Co V1 (by rfl) T.tuple Ur (pC (pv 9) AA)) (pv 7) (by with_unfolding_all rfl))
     (AG (Bc (Be Cs Dy Dx Di (pv 7) (pC (Co V1 (by rfl) T.tuple Ur (pC (pv 9) AA)) AA)))) Aa))))))
   (AG (AO (pv 7)))))),?_⟩
  case e1=>exact(Bm ["row"] [] [] (λ_=>BH (osc:=AJ cD) (on:=oU) (by rfl') rfl rfl rfl) (CD (pv 1)) (λC s H fp=>BN (i:=0) qQ rfl (Or.inl rfl) (Or.inr rfl)) (λC s H fp=>Bn) (λC s H fp=>AV (r:=BQ K) BW (pv 0) AE (λ_ _=>rfl)))
  case e2=>exact(Zw (k:=6) ["k"] ["words","pot"] [5,0] nd rfl rfl (λ_=>BH (osc:=AJ cD) (on:=oU) (by rfl') rfl rfl rfl) (Vf (by rfl) T.range (pC (pv 3) AA)) (λC s H fp=>BN (i:=0) Z78 rfl (Or.inl rfl) (Or.inr rfl)) (λC s H fp=>Bn)
    (λC s H fp=>AV (r:=Bl K) A2 (pv 1) (AL DT GT AZ (pC (pv 2) (pC (Aq (r:=sN K) Cn (by rfl) T.len BI (pC (pv 1) AA)) AA))) (λ_ _=>rfl)))
  exists let b:=_;let c:=By _ b _;let e:=_;let f:=_;let g:=Z5 (By _ f _) e;let h:=AF _ g;let i:=AF (BS _ _ h) c;let j:=AF _ i;let k:=AF _ j;let l:=AF (BS _ _ k) a;let m:=AF _ l;let n:=AF _ m;AF _ n _ _ _
  obtain⟨jH,VL,iY⟩:=id hR;refine⟨Z,l,Y,⟨_,SqL.of VL⟩,rV hR (by omega) (λt u x H' R ht hRx=>⟨Z,t,_,_,Z,Y,AH.of ht,Y,hRx⟩) λlw H1 hlw s1 hw=>?_⟩;have LA:=s1 _ _ Cz;have lwp:lw≠p:=Ae (bY LA DX hw);have lwH:H lw=none:=hlw;have wne:rows.map (·.1)≠[]:=by
   have:=g.ne;intro z;have z2:=congrArg List.length z;rw[Ya]at z2;simp at z2;rw[z2]at this;simp at this
  have wpos:0<(rows.map (·.1)).length:=Wz.mpr wne;have wl:(rows.map (·.1)).length<=24:=by rw[Ya];exact gle
  let Au:Addr->Nat->LV->St->Hp->Prop:=λD i ys σ' H'=>Drawn p H1 H'/\H' D=some (.lst ys)/\∃(bs:LS) (o:OV),ys=bs.map V.str/\bs.length=i/\(∀ x∈bs,x∈rows.map (·.1))/\σ'=[o,some (.ref lw),some (.ref p)];refine⟨Z,n,Y,W,W,VC VE (by rw[Cq];exact sL (by omega)) Au
   (λD hD=>⟨(Drawn.refl ⟨o0,LA,DX⟩).new hD,uS,[],none,Y,Y,(λx h=>nomatch h),Y⟩) (λD i ys σ' H' _ h0=>by obtain⟨_,_,bs,_,e,el,_⟩:=h0;exact⟨trivial,by rw[e,Ya];omega⟩) ?_ ?_⟩
  ·rintro D i v ys σ' H' hD hi ⟨d,hl,bs,o,rfl,rfl,hb,rfl⟩;obtain⟨hi,rfl⟩:=Dw hi;obtain⟨o1,hpp,hoo⟩:=d.pot;have WS:=d.keep _ _ lwp hw;have pD:p≠D:=AK LA hD;refine⟨Z,Z,Z,lw,Z,.inl (SqL.of WS),p,_,o1,Y,hpp,hoo,by rw[Ya];omega,by rw[Ya];omega,λv o2 Dk C7 C8=>?_⟩;obtain⟨x,hxm,hat⟩:=gQ Dk C7;have d2:Drawn p H' (upd H' p o2):=Drawn.upd C8;refine⟨lw,_,_,Z,Y,SqL.of (d2.keep _ _ lwp WS),hat,d2.keep _ _ (Ae pD) hl,(d.trans d2).sub (o':=.lst []) (q:=D) (λb o hb e=>by rw[AD hb];exact e) hD pD,uS,bs++[x],_,by rw[Ys];rfl,by simp,λy hy=>?_,Y⟩
   rcases Yo.mp hy with z | z
   ·exact hb y z
   ·rw[Yh.mp z];exact hxm
  rintro lb ys σ' H2 hlb ⟨d2,iq,bs,o,rfl,hbl,hb,rfl⟩;rw[Cq]at hbl;have hbl:bs.length=n:=by simpa using hbl
  have v8:Drawn p H H2:=⟨λb o hb e=>d2.keep b o hb (s1 _ _ e),d2.pot⟩;have Xw:=d2.keep _ _ lwp hw;have lbH:H lb=none:=s1.free hlb;have pb:p≠lb:=AK Cz lbH;have wb:lw≠lb:=AK hw hlb;refine⟨Ax _,λld Bx=>?_⟩;have d3:=v8.new (o:=.lst []) Bx;have ZF:∀ b o,H2 b=some o->(upd H2 ld (.lst [])) b=some o:=AM Bx;have ldH:H ld=none:=by
   cases e:H ld with
   | none=>rfl
   | some u =>
    by_cases z:ld=p
    ·obtain⟨o1,h1,_⟩:=d2.pot;rw[z,h1]at Bx;cases Bx
    ·rw[v8.keep _ _ z e]at Bx;cases Bx
  have pd:p≠ld:=AK Cz ldH;have wd:lw≠ld:=AK Xw Bx;have bd:lb≠ld:=AK iq Bx;obtain⟨o3,UJ,ZW⟩:=d3.pot;refine⟨Z,Z,_,Z,Y,p,_,o3,Y,UJ,ZW,W,W,λv o4 Dk C7 XE=>⟨v,Y,W,W,?_⟩⟩;have d4:Drawn p H (upd (upd H2 ld (.lst [])) p o4):=d3.trans (Drawn.upd XE);let Sn:NW:=λi σ H'=>∃(ds:List (LS)) (us:LV) (a b c d e:OV),σ=[some (.ref p),some (.ref l),some (.ref aa),some (.int n),some (.int m),some (.ref lw),some (.ref lb),some (.ref ld),a,b,c,d,e]/\Drawn p H H'/\H' lw=some (.lst ((rows.map (·.1)).map V.str))/\H' lb=some (.lst (bs.map V.str))/\H' ld=some (.lst us)/\Cd H' ds us/\(∀ d∈ds,Ve rows n d)/\ds.Nodup/\ds.length<=i;refine Bz VE Sn
   ⟨[],[],none,none,none,none,none,Y,d4,by rw[AD lwp];exact ZF _ _ Xw,by rw[AD (Ae pb)];exact ZF _ _ iq,by rw[AD (Ae pd)];exact uS,.nil,(λd h=>nomatch h),aA,Yf _⟩ (λ_ _ _ _ _=>trivial) ?_ ?_
  ·rintro i v' σ H5 hi ⟨ds,us,a5,b5,c5,e5,f5,rfl,d5,jS,bA,vZ,pH,pN,ZQ,len5⟩;obtain⟨hi,rfl⟩:=Dw hi;obtain⟨o5,UI,WW⟩:=d5.pot;refine⟨Ax _,λlq hlq=>?_⟩;have d6:=(Drawn.refl (p:=p) ⟨o5,UI,WW⟩).new (o:=.lst []) hlq;obtain⟨o6,WU,U1⟩:=d6.pot;refine⟨Z,p,3,o6,Y,WU,U1,V,V,λnr o7 hn0 hn1 UK=>?_⟩;have pq:p≠lq:=AK UI hlq;have d7:Drawn p H5 (upd (upd H5 lq (.lst [])) p o7):=d6.trans (Drawn.upd UK);let D0:NW:=λj σ H'=>∃(xs:LS) (d e:OV),σ=[some (.ref p),some (.ref l),some (.ref aa),some (.int n),some (.int m),some (.ref lw),some (.ref lb),some (.ref ld),some (.int (0 + (i:Nat))),some (.ref lq),some (.int nr),d,e]/\Drawn p H5 H'/\H' lq=some (.lst (xs.map V.str))/\xs.length=j/\∀ x∈xs,x∈rows.map (·.1);refine⟨Z,n,Y,W,W,Bz VE D0
    ⟨[],_,Z,d7,by rw[AD (Ae pq)];exact uS,Y,(λx h=>nomatch h)⟩ (λ_ _ _ _ _=>trivial) ?_ ?_⟩
   ·rintro j v2 σ H8 hj ⟨xs,d8,e8,rfl,U3,de,rfl,jR⟩;obtain⟨hj,rfl⟩:=Dw hj;have hj:xs.length<n:=by omega
    obtain⟨o8,aw,ay⟩:=U3.pot;have WK:=d5.trans U3;have hw8:=U3.keep _ _ lwp jS;have oy:=U3.keep _ _ (Ae pb) bA;refine⟨Z,?_⟩;let Xp:SW:=λσ' H'=>∃(as:Addr) (fs:LS),σ'=[some (.ref p),some (.ref l),some (.ref aa),some (.int n),some (.int m),some (.ref lw),some (.ref lb),some (.ref ld),some (.int (0 + (i:Nat))),some (.ref lq),some (.int nr),some (.int (0 + (xs.length:Nat))),some (.ref as)]/\H'=H8/\H8 as=some (.lst (fs.map V.str))/\fs≠[]/\fs.length<=24/\∀ x∈fs,x∈rows.map (·.1);refine⟨Xp,?_,?_⟩
    ·refine⟨Z,_,Z,Y,Z,A1 (λh=>?_) (λh=>?_)⟩
     ·have hbx:bs[xs.length]?=some (bs[xs.length]'(by omega)):=Yb (by omega);generalize bs[xs.length]'(by omega)=x at hbx;have hxm:=hb x (Yd hbx);obtain⟨r,Az,er⟩:=YL hxm;obtain⟨t,fs,hv,ht,hfs,fl⟩:=hA.val' g.nd Az;have xfs:x∈fs:=(hfs x).mpr (by rw[er];exact .refl x);have tp:t≠p:=Ae (bY Cz DX ht);have aap:aa≠p:=λz=>by rw[z,Cz]at Bd;obtain⟨_,_,q',_⟩:=DX;rw[q']at Bd;cases Bd
      have hat:BZ (bs.map V.str) (0 + (xs.length:Nat):Int)=some (.str x):=by
       rw[W4];refine Bb ?_;rw[Yj,hbx];rfl
      have kn:∀ y∈fs,y∈rows.map (·.1):=λy hy=>Z0r g hxm (by rw[<- er];exact(hfs y).mp hy);exact⟨Z,Z,Z,lb,_,_,Z,Y,SqL.of oy,hat,aa,Z,(by rw[<- hv,er];exact Bj.k (k:=Sum.inr x) (WK.keep _ _ aap Bd)),t,fs,Y,Y,WK.keep _ _ tp ht,(λz=>by rw[z]at xfs;cases xfs),W,kn⟩
     ·exact⟨lw,Z,Y,hw8,wne,wl,λx h=>h⟩
    ·rintro σ' H' ⟨as,fs,rfl,e8',has,pP,fl,fk⟩;have e9:=e8'.symm;subst e9;have fpos:0<fs.length:=Wz.mpr pP;have ap:as≠p:=Ae (bY aw ay has);refine⟨Z,.inl ⟨Y,_,SqL.of de⟩,Z,Z,Z,as,Z,.inl (SqL.of has),p,_,o8,Y,aw,ay,by rw[Ya];omega,by rw[Ya];omega,λv o9 Dk C7 ax=>?_⟩;obtain⟨x,hxm,hat⟩:=gQ Dk C7;have d9:Drawn p H8 (upd H8 p o9):=Drawn.upd ax;have hq9:=d9.keep _ _ (Ae pq) de;refine⟨as,_,_,Z,Y,SqL.of (d9.keep _ _ ap has),hat,lq,_,Z,Y,hq9,Bq (by rw[Ya];omega),xs++[x],_,Z,(U3.trans d9).sub (o':=.lst []) (q:=lq) (λb o hb e=>by rw[AD hb];exact e) hlq pq,by rw[uS,Ys];rfl,by simp,λy hy=>?_⟩
     rcases Yo.mp hy with z | z
     ·exact jR y z
     ·rw[Yh.mp z];exact fk x hxm
   ·rintro σ H8 ⟨xs,d8,e8,rfl,U3,de,hxl,jR⟩;rw[Cq]at hxl;have hxl:xs.length=n:=by simpa using hxl
    have ldp:ld≠p:=Ae pd;have jc:=U3.keep _ _ ldp vZ;have bF:Cd H8 ds us:=pH.drawn (p:=p) (o:=.lst []) λb zs e=>Drawn.tup U3 UI WW e;have okx:∀ y∈xs,AW y=true:=λy hy=>Up g y (jR y hy);have okd:∀ d∈ds,∀ y∈d,AW y=true:=λd hd y hy=>Up g y ((pN d hd).known y hy);have WK:=d5.trans U3;have ldq:ld≠lq:=AK vZ hlq;have lwq:lw≠lq:=AK jS hlq;have lbq:lb≠lq:=AK bA hlq;have hi':i<m + 1:=by omega
    refine⟨Z,lq,Z,.inl ⟨SqL.of de,λt ht=>?_⟩⟩;have s9:AB H8 (upd H8 t (.tup (xs.map V.str))):=AM ht;refine⟨Z,De xs,ds.map De,kP uS,.list (SqL.of (s9 _ _ jc)) (rP (bF.mono s9)),j7 8 okx,yn 7 okd,Z,?_⟩;rw[Z2n];refine A1 (λh=>?_) (λh=>?_)
    ·have hn:xs∉ds:=by simpa using h
     refine⟨Z,.inl ⟨Y,_,SqL.of (s9 _ _ jc)⟩,Z,lq,Z,.inl ⟨SqL.of (s9 _ _ de),λt2 A_=>?_⟩⟩;have SQ:=s9.trans (AM (o:=.tup (xs.map V.str)) A_);have iu:=SQ _ _ jc;have hul:=bF.length;refine⟨ld,_,Z,Y,iu,Bq (by omega),ds++[xs],us++[.ref t2],_,_,_,_,Z,?_,?_,?_,uS,?_,?_,?_,?_⟩
     ·exact(WK.same SQ).sub (o':=.lst []) (q:=ld) (λb o hb e=>by rw[AD hb];exact e) ldH pd
     ·rw[AD wd];exact SQ _ _ (U3.keep _ _ lwp jS)
     ·rw[AD bd];exact SQ _ _ (U3.keep _ _ (Ae pb) bA)
     ·have tk:∀ b zs,(upd (upd H8 t (.tup (xs.map V.str))) t2 (.tup (xs.map V.str))) b=some (.tup zs)->(upd (upd (upd H8 t (.tup (xs.map V.str))) t2 (.tup (xs.map V.str))) ld (.lst (us++[V.ref t2]))) b=some (.tup zs):=λb zs e=>by
       rw[AD (λz=>by rw[z,iu]at e;cases e)];exact e
      exact LM ((bF.mono SQ).drawn (p:=p) (o:=.lst []) tk) ⟨t2,Y,tk _ _ uS⟩
     ·intro d hd
      rcases Yo.mp hd with z | z
      ·exact pN d z
      ·rw[Yh.mp z];exact⟨hxl,jR⟩
     ·rw[List.nodup_append];exact⟨ZQ,by simp,λa ha b hb e=>hn (by rw[<- Yh.mp hb,<- e];exact ha)⟩
     ·rw[Yc];show ds.length + 1<=i + 1;omega
    ·exact⟨ds,us,_,_,_,_,Z,WK.same s9,s9 _ _ (U3.keep _ _ lwp jS),s9 _ _ (U3.keep _ _ (Ae pb) bA),s9 _ _ jc,bF.mono s9,pN,ZQ,W⟩
  ·rintro σ H6 ⟨ds,us,a5,b5,c5,e5,f5,rfl,d6,vN,du,hd6,eI,gc6,nd6,tO⟩;rw[Cq]at tO;exact⟨Z,q ld ds us H6 d6 ldH hd6 eI ⟨gc6,nd6,W⟩ (by omega)⟩
def Z6i{H H':Hp}{rows:RS}{AR:KL}(g:Am rows)(hA:C9 H rows rows AR)(s:AB H H'){x:Str}(hx:x∈rows.map (·.1)):∃(t:Addr) (fs:LS),BB AR (Sum.inr x)=some (.ref t)/\H' t=some (.lst (fs.map V.str))/\∀ y,Ug (V.str y) (fs.map V.str)=Uk rows x y:=by
 obtain⟨r,Az,er⟩:=YL hx;obtain⟨t,fs,hv,ht,hfs⟩:=hA.val g.nd Az;refine⟨t,fs,by rw[<- er];exact hv,s _ _ ht,λy=>?_⟩;rw[YD];exact Zyf (by rw[er]at hfs;exact hfs) y
def zh:Sp:=λvs H Q _=>∃(aa a b:Addr) (rows:RS) (AR:KL) (xs ys:LS),vs=[.ref aa,.ref a,.ref b]/\Am rows/\H aa=some (.dK AR)/\C9 H rows rows AR/\H a=some (.tup (xs.map V.str))/\H b=some (.tup (ys.map V.str))/\(∀ x∈xs,x∈rows.map (·.1))/\xs.length<=1000 /\
 ∀ H',AB H H'->Q (.bl (CS rows xs ys)) H'
def Z3c(rows:RS):V×V->V
 | (.str x,.str y)=>.bl (Uk rows x y)
 | _=>.non
def Zub(rows:RS)(xs ys:LS):(((xs.map V.str).zip (ys.map V.str)).filter λ_=>true).map (Z3c rows)=((xs.zip ys).map λp=>Uk rows p.1 p.2).map V.bl:=by
 rw[kJ,kH,B9,B9];rfl
def Z71:(["under","word","above"]:LS).Nodup:=by rfl'
structure Yfd(mg:Str->OU):Prop where
 all:mg "all"=none
 zip:mg "zip"=none
abbrev ZS:LS:=["above","one","other"]
def Yd5:AX ZS ZS (AJ gm):=by nofun
def Zuo(F:Def K mg "_law_within" gm ZS f fd)(T:Yfd mg):⋯ 1 f fd ZS zh:=by
 nomatch F.fn.ok Yd5
 ·obtain⟨aa,a,b,rows,AR,xs,ys,rfl,_⟩:=h;rfl
 ·obtain⟨aa,a,b,rows,AR,xs,ys,rfl,g,Bd,hA,ha,hb,hx,hl,q⟩:=h;have hu:=Tz hr
  ac_nf
  refine'⟨_,AG (AO (Aq (bg rfl) (by rfl) T.all cf (pC ?ea AA))),?_⟩
  case ea=>exact(Bm ["under","word"] ["above"] [0] (λ_=>BH (osc:=AJ gm) (on:=ZS) (by rfl') rfl rfl rfl) (Z3d (by rfl) T.zip (pC (pv 1) (pC (pv 2) AA)))
    (λC s H fp=>Zj (K:=K) (i:=0) (j:=1) rfl rfl Z71 rfl rfl (Or.inl rfl) (Or.inl rfl) (Or.inr rfl) (Or.inr rfl)) (λC s H fp=>Bn)
    (λC s H fp=>LK (r:=dG K false) gO (pv 1) (Wr hu (pv 2) (pv 0) (λ_ _=>rfl)) (by with_unfolding_all rfl)))
  refine⟨Z,Z,a,b,_,Z,AH.of ha,AH.of hb,q_ (sL (by rw[Z7,Ya];omega)) (λ_=>true) (Z3c rows) (λH' s'=>⟨AH.of (s' _ _ ha),AH.of (s' _ _ hb)⟩) ?_ ?_ ?_⟩
  ·intro x H' R s' _ hR;exact hR H' (AB.refl _)
  ·intro x H' R s' hxm _ hR;rw[kH]at hxm;obtain⟨z,hz,rfl⟩:=Yg.mp hxm;obtain⟨t,fs,hv,ht,hin⟩:=Z6i g hA s' (hx _ (cc hz).1);refine⟨Z,Z,Z,aa,Z,(by rw[<- hv];exact Bj.k (k:=Sum.inr z.1) (s' _ _ Bd)),t,Z,.inl (SqL.of ht),Y,Zs fs,?_⟩;have e1:(if false=true then !Ug (gv z).2 (fs.map V.str)else Ug (gv z).2 (fs.map V.str))=Uk rows z.1 z.2:=by rw[if_neg (by decide)];exact hin z.2
   rw[e1];exact hR H' (AB.refl _)
  ·intro D H' hD s' LC;refine⟨D,Z,SqL.of (by rw[LC,Zub]),?_⟩;have q':=q H' s';unfold CS at q';show Q (.bl (((xs.zip ys).map λp=>Uk rows p.1 p.2).all id)) _;rw[List.all_map];exact q'
def wB(rows:RS)(ds:List (LS))(j k:Nat):Bool:=CS rows (ds.getD j []) (ds.getD k [])
def bS(W:Nat->Nat->Bool)(near:LN)(x:Nat):LN:=if near.any (λk=>W k x)=true then near else near.filter (λk=>!W x k)++[x]
def mT(W:Nat->Nat->Bool)(l:LN):LN:=l.filter λk=>!(l.any λj=>!decide (j=k)&&W j k)
structure Vv(W:Nat->Nat->Bool)(l near:LN):Prop where
 sub:near.Sublist l
 min:∀ k∈near,∀ j∈l,W j k=true->j=k
 dom:∀ j∈l,∃ k∈near,k=j\/W k j=true
def Vv.nil(W:Nat->Nat->Bool):Vv W [] []:=⟨.slnil,(λk h=>nomatch h),(λk h=>nomatch h)⟩
def Vv.step{W:Nat->Nat->Bool}{l near:LN}{x:Nat}{S:Nat->Prop}(tr:∀ a b c,S a->S b->S c->W a b=true->W b c=true->W a c=true)(an:∀ a b,S a->S b->W a b=true->W b a=true->a=b)(hl:∀ k∈l,S k)(hx:S x)(h:Vv W l near):Vv W (l++[x]) (bS W near x):=by
 have ns:∀ k∈near,S k:=λk hk=>hl k (h.sub.subset hk);unfold bS;by_cases c:near.any (λk=>W k x)=true
 ·rw[if_pos c];obtain⟨k0,DZ,w0⟩:=Xk.mp c;refine⟨h.sub.trans (List.sublist_append_left _ _),λk hk j hj w=>?_,λj hj=>?_⟩
  ·rcases Yo.mp hj with z | z
   ·exact h.min k hk j z w
   ·have e:j=x:=Yh.mp z;subst e;have e1:=h.min k hk k0 (h.sub.subset DZ) (tr k0 j k (ns _ DZ) hx (ns _ hk) w0 w);rw[e1]at w0;exact an j k hx (ns _ hk) w w0
  ·rcases Yo.mp hj with z | z
   ·exact h.dom j z
   ·rw[Yh.mp z];exact⟨k0,DZ,.inr w0⟩
 ·rw[if_neg c];have nc:∀ k∈near,¬ W k x=true:=λk hk w=>c (Xk.mpr ⟨k,hk,w⟩);refine⟨List.Sublist.append (List.filter_sublist.trans h.sub) (List.Sublist.refl _),λk hk j hj w=>?_,λj hj=>?_⟩
  ·rcases Yo.mp hk with y | y
   ·obtain⟨y1,y2⟩:=Xi.mp y
    rcases Yo.mp hj with z | z
    ·exact h.min k y1 j z w
    ·rw[Yh.mp z]at w;rw[w]at y2;cases y2
   ·have e:k=x:=Yh.mp y;subst e
    rcases Yo.mp hj with z | z
    ·obtain⟨k0,DZ,d⟩:=h.dom j z
     rcases d with d | d
     ·rw[d]at DZ;exact absurd w (nc j DZ)
     ·exact absurd (tr k0 j k (ns _ DZ) (hl _ z) hx d w) (nc k0 DZ)
    ·exact Yh.mp z
  ·rcases Yo.mp hj with z | z
   ·obtain⟨k0,DZ,d⟩:=h.dom j z;by_cases wx:W x k0=true
    ·refine⟨x,by simp,.inr ?_⟩
     rcases d with d | d
     ·rw[<- d];exact wx
     ·exact tr x k0 j hx (ns _ DZ) (hl _ z) wx d
    ·exact⟨k0,Xh _ (Xi.mpr ⟨DZ,by simpa using wx⟩),d⟩
   ·rw[Yh.mp z];exact⟨x,by simp,.inl rfl⟩
theorem rS{α:Type}[DecidableEq α]:∀ {near l:List α},near.Sublist l->l.Nodup->near=l.filter λk=>decide (k∈near)
 | _,_,.slnil,_=>rfl
 | _,_,.cons a h,nd=>by
  obtain⟨n1,n2⟩:=Cr.mp nd;rw[Z8,if_neg (by simpa using λm=>n1 (h.subset m))];exact rS h n2
 | _,_,.cons₂ (l₁:=n) (l₂:=l) a h,nd=>by
  obtain⟨n1,n2⟩:=Cr.mp nd;rw[Z8,if_pos (by simp)]
  congr 1
  have e:(l.filter λk=>decide (k∈a :: n))=l.filter λk=>decide (k∈n):=List.filter_congr λk hk=>by
   have:k≠a:=λz=>n1 (by rw[<- z];exact hk);simp[this]
  rw[e];exact rS h n2
def Vv.is{W:Nat->Nat->Bool}{l near:LN}(nd:l.Nodup)(h:Vv W l near):near=mT W l:=by
 refine(rS h.sub nd).trans ?_;unfold mT;refine List.filter_congr λk hk=>?_;rw[W0,decide_eq_true_iff,Bool.not_eq_true',List.any_eq_false];constructor
 ·intro hm j hj z;rw[B1]at z;have:=h.min k hm j hj z.2;simp[this]at z
 ·intro hm;obtain⟨k0,DZ,d⟩:=h.dom k hk
  rcases d with d | d
  ·rw[<- d];exact DZ
  ·by_cases e:k0=k
   ·rw[<- e];exact DZ
   ·exact absurd (by rw[B1];exact⟨by simp[e],d⟩) (hm k0 (h.sub.subset DZ))
def Zk5{rows:RS}{x y:Str}:Uk rows x y=true↔Graph.Reach (BG rows) x y:=by
 unfold Uk;exact @decide_eq_true_iff _ (Classical.propDecidable _)
def Z4a{rows:RS}(g:Am rows):∃ rk:Str->Nat,∀ a b,b∈BG rows a->rk b<rk a:=by
 obtain⟨rk,hrk⟩:=g.rank;refine⟨rk,λa b hb=>?_⟩;unfold BG at hb;cases e:rows.lookup a with
 | none=>rw[e]at hb;simp at hb
 | some us =>
  rw[e]at hb;have hm:(a,us)∈rows:=Xm e;exact hrk (a,us) hm b hb
def Zua{rows:RS}(g:Am rows){x y:Str}(h1:Graph.Reach (BG rows) x y)(h2:Graph.Reach (BG rows) y x):x=y:=by
 obtain⟨rk,hrk⟩:=Z4a g;refine nD λne=>?_;have a:=Graph.Reach.rank_lt hrk h1 ne;have b:=Graph.Reach.rank hrk h2;omega
def Zrb{ups:Str->LS}{x y z:Str}(h1:Graph.Reach ups x y)(h2:Graph.Reach ups y z):Graph.Reach ups x z:=h1.trans h2
def Zmg{rows:RS}{xs ys:LS}:CS rows xs ys=true↔∀(i:Nat) (x y:Str),xs[i]?=some x->ys[i]?=some y->Graph.Reach (BG rows) x y:=by
 unfold CS;rw[CL];constructor
 ·intro h i x y hx hy;have hz:(xs.zip ys)[i]?=some (x,y):=by rw[sX];exact⟨hx,hy⟩
  exact Zk5.mp (h _ (Yd hz))
 ·intro h p hp;obtain⟨i,hi⟩:=hZ hp;rw[sX]at hi;exact Zk5.mpr (h i _ _ hi.1 hi.2)
def Zop{rows:RS}{n:Nat}{xs ys zs:LS}(h1:xs.length=n)(h2:ys.length=n)(h3:zs.length=n)(a:CS rows xs ys=true)(b:CS rows ys zs=true):CS rows xs zs=true:=by
 rw[Zmg]at a b ⊢;intro i x z hx hz;have hi:i<ys.length:=by have:=(Yi.mp hx).1;omega
 exact Zrb (a i x _ hx (Yb hi)) (b i _ z (Yb hi) hz)
def Zq5{rows:RS}(g:Am rows){n:Nat}{xs ys:LS}(h1:xs.length=n)(h2:ys.length=n)(a:CS rows xs ys=true)(b:CS rows ys xs=true):xs=ys:=by
 rw[Zmg]at a b;refine List.ext_getElem (h1.trans h2.symm) λi i1 i2=>?_;exact Zua g (a i _ _ (Yb i1) (Yb i2)) (b i _ _ (Yb i2) (Yb i1))
def Wq{ds:List (LS)}{j:Nat}(h:j<ds.length):ds[j]?=some (ds.getD j []):=by
 rw[Yl,Yb h];rfl
section
variable {rows:RS}{n:Nat}{ds:List (LS)}(g:Am rows)(gd:UX rows n ds)
include gd in
def Z0c(a b c:Nat)(ha:a<ds.length)(hb:b<ds.length)(hc:c<ds.length)(h1:wB rows ds a b=true)(h2:wB rows ds b c=true):wB rows ds a c=true :=
 Zop (gd.call _ (Yd (Wq ha))).len (gd.call _ (Yd (Wq hb))).len (gd.call _ (Yd (Wq hc))).len h1 h2
include g gd in
def Z3y(a b:Nat)(ha:a<ds.length)(hb:b<ds.length)(h1:wB rows ds a b=true)(h2:wB rows ds b a=true):a=b:=by
 have e:=Zq5 g (gd.call _ (Yd (Wq ha))).len (gd.call _ (Yd (Wq hb))).len h1 h2;have h3:=Wq ha;have h4:=Wq hb;rw[e]at h3;exact(List.getElem?_inj ha gd.nd).mp (h3.trans h4.symm)
include g gd in
def Zx7{l near:LN}{x:Nat}(hl:∀ k∈l,k<ds.length)(hx:x<ds.length)(h:Vv (wB rows ds) l near):Vv (wB rows ds) (l++[x]) (bS (wB rows ds) near x):=
 h.step (S:=λk=>k<ds.length) (Z0c gd) (Z3y g gd) hl hx
end
def Zmk(C:Addr):Sp:=λvs H Q _=>∃(p ld ln:Addr) (x n:Nat) (rows:RS) (ds:List (LS)) (us:LV) (near:LN),vs=[.ref p,.ref ld,.ref ln,.int x]/\CQ C H p rows/\Am rows/\H ld=some (.lst us)/\Cd H ds us/\UX rows n ds/\H ln=some (.lst (near.map Aj))/\(∀ k∈near,k<ds.length)/\x<ds.length/\near.length<=64 /\
 ∀ l H',AB H H'->(l=ln\/H l=none)->H' l=some (.lst ((bS (wB rows ds) near x).map Aj))->Q (.ref l) H'
def wV(rows:RS)(ds:List (LS))(x:Nat):V->V
 | .int j=>.bl (wB rows ds j.toNat x)
 | _=>.non
def u7(rows:RS)(ds:List (LS))(x:Nat):V->Bool
 | .int j=>!wB rows ds x j.toNat
 | _=>false
def Z6g(rows:RS)(ds:List (LS))(x:Nat)(near:LN):((near.map Aj).filter λ_=>true).map (wV rows ds x)=(near.map λk=>wB rows ds k x).map V.bl:=by
 rw[VH.mpr (λ_ _=>rfl),B9,B9];rfl
def Z4w(rows:RS)(ds:List (LS))(x:Nat)(near:LN):((near.map Aj).filter (u7 rows ds x)).map (λv=>v)=(near.filter λk=>!wB rows ds x k).map Aj:=by
 rw[List.map_id',hX];rfl
def wu:(["kept","kinds","deeds","number"]:LS).Nodup:=by rfl'
abbrev Xv:LS:=["kinds","deeds","near","number"]
def Yd3:AX Xv Xv (AJ cL):=by nofun
def Zpn(F:Def K mg "nearest_with" cL Xv f fd)(any:mg "any"=none)(DW:Def K mg "within" bw ["kinds","one","other"] fW fdW)(GW:⋯ 4 fW fdW ["kinds","one","other"] (kZ C)):
  ⋯ 5 f fd Xv (Zmk C):=by
 nomatch F.fn.ok Yd3
 ·obtain⟨p,ld,ln,x,n,rows,ds,us,near,rfl,_⟩:=h;rfl
 ·obtain⟨p,ld,ln,x,n,rows,ds,us,near,rfl,kd,g,Bx,hD,gd,A8,hk,hx,hn,q⟩:=h
  ac_nf
  refine'⟨_,pS (AY (Bo (Aq (xo rfl) (by rfl) any PyProof.Rows.boot_any (pC ?ea AA))) (AG (AO (pv 2))) Aa) (AG (AO (AU bU ?eb (BX (pC (pv 3) AA))))),?_⟩
  case ea=>exact(Bm ["kept"] ["kinds","deeds","number"] [0,1,3] (λ_=>BH (osc:=AJ cL) (on:=Xv) (by rfl') rfl rfl rfl) (CD (pv 2)) (λC s H fp=>BN (i:=0) wu rfl (Or.inl rfl) (Or.inr rfl)) (λC s H fp=>Bn)
    (λC s H fp=>AL DW GW hr (pC (pv 1) (pC (AV (r:=Bl K) A2 (pv 2) (pv 0) (λ_ _=>rfl)) (pC (AV (r:=Bl K) A2 (pv 2) (pv 3) (λ_ _=>rfl)) AA)))))
  case eb=>exact(Bm ["kept"] ["kinds","deeds","number"] [0,1,3] (λ_=>BH (osc:=AJ cL) (on:=Xv) (by rfl') rfl rfl rfl) (CD (pv 2)) (λC s H fp=>BN (i:=0) wu rfl (Or.inl rfl) (Or.inr rfl))
    (λC s H fp=>Zl (CO (Bo (AL DW GW hr (pC (pv 1) (pC (AV (r:=Bl K) A2 (pv 2) (pv 3) (λ_ _=>rfl)) (pC (AV (r:=Bl K) A2 (pv 2) (pv 0) (λ_ _=>rfl)) AA))))))) (λC s H fp=>pv 0))
  exists AF _ a _ _ _
  have hul:=hD.length;have at_:∀(H':Hp) (k:Nat),AB H H'->k<ds.length->∃ t,BZ us ((k:Nat):Int)=some (.ref t)/\H' t=some (.tup ((ds.getD k []).map V.str)):=λH' k s' hk=>by
   have Dm:k<us.length:=by omega
   obtain⟨dd,hdd,t,e,ht⟩:=Bp hD (Yb Dm);refine⟨t,Bb ((Yb Dm).trans (congrArg some e)),?_⟩;have e2:ds.getD k []=dd:=by rw[Yl,hdd];rfl
   rw[e2];exact s' _ _ ht
  have kn:∀ k,k<ds.length->∀ y∈ds.getD k [],y∈rows.map (·.1):=λk hk=>(gd.call _ (Yd (Wq hk))).known;refine⟨Z,ln,Y,⟨_,SqL.of A8⟩,gB (CU (xs:=near.map Aj)) (sL (by rw[Ya];omega)) (λ_=>true) (wV rows ds x) (λH' s'=>s'.seq (SqL.of A8)) ?_ ?_ ?_⟩
  ·intro v H' R s' _ hR;exact hR H' (AB.refl _)
  ·intro v H' R s' hv _ hR;obtain⟨k,Dm,rfl⟩:=Yg.mp hv;obtain⟨t1,a1,h1⟩:=at_ H' k s' (hk k Dm);obtain⟨t2,a2,h2⟩:=at_ H' x s' hx;exact⟨Z,Z,Z,ld,_,_,Z,Y,SqL.of (s' _ _ Bx),a1,Z,Z,ld,_,_,Z,Y,SqL.of (s' _ _ Bx),a2,p,t1,t2,rows,_,Z,kd.mono s',g,h1,h2,kn k (hk k Dm),kn x hx,λUu DV=>hR Uu DV⟩
  ·intro D H1 eJ s1 Aw;rw[Z6g]at Aw;have eA:(near.map λk=>wB rows ds k x).any id=near.any λk=>wB rows ds k x:=by rw[List.any_map];rfl
   refine⟨D,Z,SqL.of Aw,_,congrArg V.bl eA,?_⟩;refine A1 (λh=>?_) (λh=>?_)
   ·refine⟨Z,q ln H1 s1 (.inl rfl) ?_⟩;unfold bS;rw[if_pos h];exact s1 _ _ A8
   ·refine⟨Z,ln,Y,⟨_,SqL.of (s1 _ _ A8)⟩,gB (CU (xs:=near.map Aj)) (sL (by rw[Ya];omega)) (u7 rows ds x) (λv=>v) (λH' s'=>s'.seq (SqL.of (s1 _ _ A8))) ?_ ?_ ?_⟩
    ·intro v H' R s' hv hR;obtain⟨k,Dm,rfl⟩:=Yg.mp hv;have s2:=s1.trans s';obtain⟨t1,a1,h1⟩:=at_ H' k s2 (hk k Dm);obtain⟨t2,a2,h2⟩:=at_ H' x s2 hx;exact⟨Z,Z,Z,ld,_,_,Z,Y,SqL.of (s2 _ _ Bx),a2,Z,Z,ld,_,_,Z,Y,SqL.of (s2 _ _ Bx),a1,p,t2,t1,rows,_,Z,kd.mono s2,g,h2,h1,kn x hx,kn k (hk k Dm),λUu DV=>⟨Z,hR Uu DV⟩⟩
    ·intro v H' R s' hv _ hR;exact⟨Z,hR H' (AB.refl _)⟩
    ·intro D2 H2 Wb s2 Ap;rw[Z4w]at Ap;have fl:(near.filter λk=>!wB rows ds x k).length<=64:=B0 (Xj _ _) hn;refine⟨Z,O,λl3 LB=>⟨D2,l3,_,Z,Y,(AM LB) _ _ Ap,uS,sL (by rw[Ya];show _ + 1<=100000;omega),λl4 DY=>?_⟩⟩;have BE:=s1.trans s2;have s3:=BE.trans (AM (o:=.lst [.int x]) LB);refine q l4 _ (s3.trans (AM DY)) (.inr (s3.free DY)) ?_;rw[uS];unfold bS;rw[if_neg h,Ys];rfl
def Zkz(C B:Addr):Sp:=λvs H Q _=>∃(p k l:Addr) (rows:RS) (n:Nat) (ds:List (LS)) (ms:LN),vs=[.ref p,.ref l]/\T7 C B H p k rows n ds/\Am rows/\UX rows n ds/\H l=some (.lst (ms.map Aj))/\(∀ j∈ms,j<ds.length)/\ms.Nodup/\ms.length<=64 /\
 ∀ l' H',AB H H'->H l'=none->H' l'=some (.lst ((mT (wB rows ds) ms).map Aj))->Q (.ref l') H'
abbrev nNA:LS:=["board","numbers","kinds","deeds","near","number"]
def Ycr:AX nNA ["board","numbers"] (AJ mK):=by nofun
def wt{ms:LN}{i:Nat}{v:V}(h:(ms.map Aj)[i]?=some v):∃ x,ms[i]?=some x/\v=.int (x:Nat):=by
 obtain⟨x,h1,h2⟩:=zY h;exact⟨x,h1,h2.symm⟩
def Znp(F:Def K mg "nearest_among" mK ["board","numbers"] f fd)(list:mg "list"=none)(any:mg "any"=none)(TB:Wi K B)(MK:qL K B fK fdK)(MD:jz K B fDe fdDe)(DN:Def K mg "nearest_with" cL Xv fN fdN)
  (DW:Def K mg "within" bw ["kinds","one","other"] fW fdW) (GW:⋯ 4 fW fdW ["kinds","one","other"] (kZ C)):⋯ 6 f fd ["board","numbers"] (Zkz C B):=by
 have GK:⋯ 1 fK fdK ["self"] (kT C B):=rF MK.fn TB;have GD:⋯ 1 fDe fdDe ["self"] (gG C B):=kb MD.fn TB list;have GN:⋯ 5 fN fdN Xv (Zmk C):=Zpn DN any DW GW
 nomatch F.fn.ok Ycr
 ·obtain⟨p,k,l,rows,n,ds,ms,rfl,_⟩:=h;rfl
 ·obtain⟨p,k,l,rows,n,ds,ms,rfl,bd,g,gd,hl,hms,Vn,hml,q⟩:=h;obtain⟨dx,ts,us0,h1,h2,h3,h4⟩:=bd.ex;have nd:=Ycr.nd;have AZ:Af 1 _:=hr.mono (by decide)
  ac_nf
  refine⟨_,(pS (sE 2 nd (DJ (pv 0) TB.cl MK.me GK AZ MK.b .nil BA))
   (pS (sE 3 nd (DJ (pv 0) TB.cl MD.me GD AZ MD.b .nil BA))
   (pS (sE 4 nd (BX AA))
   (pS (BM Yw rfl (CD (pv 1)) (gE 5 nd) (AG (sE 4 nd (AL DN GN hr (pC (pv 2) (pC (pv 3) (pC (pv 4) (pC (pv 5) AA))))))))
   (AG (AO (pv 4))))))),?_⟩
  exists let b:=_;let c:=AF (BS _ _ b) a;let e:=AF _ c;let f:=AF _ e;AF _ f _ _ _
  refine⟨Z,p,dx,Z,h1,rD _ _ _,p,k,rows,n,ds,Y,bd,?_⟩;refine⟨Z,p,dx,Z,h1,ka _ _ _,p,k,rows,n,ds,Y,bd,λld us Bx hD=>?_⟩;have s1:AB H (upd H ld (.lst us)):=AM Bx;refine⟨Ax _,λl0 WX=>?_⟩;have s2:AB H (upd (upd H ld (.lst us)) l0 (.lst [])):=s1.trans (AM WX);have uB:(upd (upd H ld (.lst us)) l0 (.lst [])) ld=some (.lst us):=(AM WX) _ _ uS;have uH:H l0=none:=s1.free WX;let Au:NW:=λi σ H'=>∃(ln:Addr) (near:LN) (x:OV),σ=[some (.ref p),some (.ref l),some (.ref k),some (.ref ld),some (.ref ln),x]/\AB H H'/\H' ld=some (.lst us)/\H ln=none/\H' ln=some (.lst (near.map Aj))/\Vv (wB rows ds) (ms.take i) near;refine⟨Z,l,Y,⟨_,SqL.of (s2 _ _ hl)⟩,Bz (CU (xs:=ms.map Aj)) Au
   ⟨l0,[],none,Y,s2,uB,uH,uS,Vv.nil _⟩ (λi σ H' _ h0=>by obtain⟨_,_,_,_,s',_⟩:=h0;exact SqL.of (s' _ _ hl)) ?_ ?_⟩
  ·rintro i v σ H' hi ⟨ln,near,x0,rfl,s',aP,hlnH,A8,ok⟩;obtain⟨x,hx,rfl⟩:=wt hi;have nl:near.length<=ms.length:=B0 ok.sub.length_le (by rw[Bg];omega);refine⟨Z,Z,Z,Z,k,ld,ln,x,n,rows,ds,us,near,Y,h2.mono s',g,aP,hD.mono s',gd,A8,λj hj=>hms j (cb (ok.sub.subset hj)),hms x (Yd hx),W,λl' H2 DV hor LC=>?_⟩;refine⟨l',_,Z,s'.trans DV,DV _ _ aP,?_,LC,?_⟩
   ·rcases hor with z | z
    ·rw[z];exact hlnH
    ·exact s'.free z
   ·rw[Bt,hx];exact Zx7 g gd (λj hj=>hms j (cb hj)) (hms x (Yd hx)) ok
  ·rintro σ H' ⟨ln,near,x0,rfl,s',aP,hlnH,A8,ok⟩;rw[Ya,Bs]at ok;refine⟨Z,q ln H' s' hlnH ?_⟩;rw[A8,ok.is Vn]
def Vt(rows:RS)(ds:List (LS))(xs:LS):LN:=mT (wB rows ds) (Dq rows ds xs)
def zj(C B:Addr):Sp:=λvs H Q _=>∃(p k t:Addr) (rows:RS) (n:Nat) (ds:List (LS)) (xs:LS),vs=[.ref p,.ref t]/\T7 C B H p k rows n ds/\Am rows/\UX rows n ds/\n<=4/\H t=some (.tup (xs.map V.str))/\Ve rows n xs /\
 ∀ l H',H l=none->AB H H'->H' l=some (.lst ((Vt rows ds xs).map Aj))->Q (.ref l) H'
def j4{rows:RS}{ds:List (LS)}{xs:LS}:∀ k∈Dq rows ds xs,k<ds.length:=λk hk=>VG.mp (Xi.mp hk).1
def Z5m(rows:RS)(ds:List (LS))(xs:LS):(Dq rows ds xs).Nodup:=List.nodup_range.filter _
def yD(rows:RS)(ds:List (LS))(xs:LS):(Dq rows ds xs).length<=ds.length:=by
 unfold Dq;refine B0 (Xj _ _) ?_;rw[List.length_range];exact Yf _
def Yd2:AX ["board","call"] ["board","call"] (AJ kf):=by nofun
def Zum(F:Def K mg "nearest" kf ["board","call"] f fd)(DA:Def K mg "nearest_among" mK ["board","numbers"] fA fdA)(GA:⋯ 6 fA fdA ["board","numbers"] (Zkz C B))(DF:Def K mg "fitting" gP ["board","call"] fF fdF)(GF:⋯ 5 fF fdF ["board","call"] (zf C B)):
  ⋯ 7 f fd ["board","call"] (zj C B):=by
 nomatch F.fn.ok Yd2
 ·obtain⟨p,k,t,rows,n,ds,xs,rfl,_⟩:=h;rfl
 ·obtain⟨p,k,t,rows,n,ds,xs,rfl,bd,g,gd,hn,ht,gc,q⟩:=h;have Xx:Af 5 _:=hr.mono (by decide);have few:=gd.few;have fl:=yD rows ds xs
  ac_nf
  refine⟨_,AG (AO (AL DA GA hr (pC (pv 0) (pC (AL DF GF Xx (pC (pv 0) (pC (pv 1) AA))) AA)))),?_⟩;refine⟨Z,Z,Z,p,k,t,rows,n,ds,xs,Y,bd,g,gd,hn,ht,gc,λl H1 hl s1 Aw=>?_⟩;exact⟨p,k,l,rows,n,ds,Dq rows ds xs,Y,bd.mono s1,g,gd,Aw,j4,Z5m _ _ _,W,λl' H2 s2 LC h2=>q l' H2 (s1.free LC) (s1.trans s2) h2⟩
def e_:LN->LV
 | []=>[.str "none"]
 | [k]=>[.str "deed",Aj k]
 | k :: j :: _=>[.str "clash",Aj k,Aj j]
def yY:Sp:=λvs H Q _=>∃(l:Addr) (near:LN),vs=[.ref l]/\H l=some (.lst (near.map Aj))/\∀ t H',H t=none->AB H H'->H' t=some (.tup (e_ near))->Q (.ref t) H'
def Z91:AX ["near"] ["near"] (AJ kg):=by nofun
def Zuj(F:Def K mg "told_of" kg ["near"] f fd)(len:mg "len"=none):⋯ 1 f fd ["near"] yY:=by
 nomatch F.fn.ok Z91
 ·obtain⟨l,near,rfl,_⟩:=h;rfl
 ·obtain⟨l,near,rfl,hl,q⟩:=h
  ac_nf
  refine⟨_,pS (AY (CO (gK (pv 0) (λ_=>rfl))) (AG (AO (Bf (pC Ar AA)))) Aa)
   (pS (AY (Ag BV (Aq Cn (by rfl) len BI (pC (pv 0) AA)) AE (Ab _)) (AG (AO (Bf (pC Ar (pC (AV A2 (pv 0) AE (λ_ _=>rfl)) AA))))) Aa)
   (AG (AO (Bf (pC Ar (pC (AV A2 (pv 0) AE (λ_ _=>rfl)) (pC (AV A2 (pv 0) AE (λ_ _=>rfl)) AA))))))),?_⟩
  exists let b:=_;let c:=AF (By _ b _) a;AF _ c _ _ _
  cases near with
  | nil=>exact⟨Z,false,.inl ⟨[],SqL.of hl,Y⟩,Av ⟨O,λt ht=>q t _ ht (AM ht) uS⟩⟩
  | cons k r =>
   refine⟨Z,true,.inl ⟨_,SqL.of hl,Y⟩,AS ?_⟩;refine⟨Z,l,Z,.inl (SqL.of hl),Y,Z,?_⟩;cases r with
   | nil =>
    refine A1 (λ_=>?_) (λh=>absurd (by rfl) h);exact⟨Z,l,_,_,Z,Y,SqL.of hl,Y,U,λt ht=>q t _ ht (AM ht) uS⟩
   | cons j r =>
    refine A1 (λh=>?_) (λ_=>?_)
    ·have h:=Je h;injection h with h;simp at h;omega
    ·exact⟨Z,l,_,_,Z,Y,SqL.of hl,Bb (j:=0) rfl,Z,l,_,_,Z,Y,SqL.of hl,Bb (j:=1) rfl,sL (by show 3<=100000;decide),λt ht=>q t _ ht (AM ht) uS⟩
def Z2y(C B:Addr):Sp:=λvs H Q _=>∃(p k t:Addr) (rows:RS) (n:Nat) (ds:List (LS)) (xs:LS),vs=[.ref p,.ref t]/\T7 C B H p k rows n ds/\Am rows/\UX rows n ds/\n<=4/\H t=some (.tup (xs.map V.str))/\Ve rows n xs /\
 ∀ l H',H l=none->AB H H'->H' l=some (.tup (e_ (Vt rows ds xs)))->Q (.ref l) H'
def Yd0:AX ["board","call"] ["board","call"] (AJ jx):=by nofun
def Z4n(F:Def K mg "told" jx ["board","call"] f fd)(DN:Def K mg "nearest" kf ["board","call"] fN fdN)(GN:⋯ 7 fN fdN ["board","call"] (zj C B))(DO:Def K mg "told_of" kg ["near"] fO fdO)(len:mg "len"=none):
  ⋯ 8 f fd ["board","call"] (Z2y C B):=by
 have GO:⋯ 1 fO fdO ["near"] yY:=Zuj DO len
 nomatch F.fn.ok Yd0
 ·obtain⟨p,k,t,rows,n,ds,xs,rfl,_⟩:=h;rfl
 ·obtain⟨p,k,t,rows,n,ds,xs,rfl,bd,g,gd,hn,ht,gc,q⟩:=h;have AZ:Af 1 _:=hr.mono (by decide)
  ac_nf
  refine⟨_,AG (AO (AL DO GO AZ (pC (AL DN GN hr (pC (pv 0) (pC (pv 1) AA))) AA))),?_⟩;refine⟨Z,Z,p,k,t,rows,n,ds,xs,Y,bd,g,gd,hn,ht,gc,λl H1 hl s1 Aw=>?_⟩;exact⟨l,Z,Aw,λt' H2 VP s2 h2=>q t' H2 (s1.free VP) (s1.trans s2) h2⟩
def mf(K:Fg):Sp:=λvs H Q _=>∃(a:Addr) (ns:List Int),vs=[.ref a]/\SqL K H a (ns.map V.int)/\ns.length<=63/\∀ H',Q (.bl true) H'
def so(rows:RS)(ds:List (LS))(xs:LS):V->Bool
 | .int i=>CS rows xs (ds.getD i.toNat [])
 | _=>false
def Z5p(rows:RS)(ds:List (LS))(xs:LS):((DG 0 ds.length).filter (so rows ds xs)).map (λv=>v)=(Dq rows ds xs).map Aj:=by
 rw[List.map_id',Zuc,hX];rfl
def yd{rows:RS}(g:Am rows):rows.map (·.1)≠[]:=by
 have:=g.ne;intro z;have z2:=congrArg List.length z;rw[Ya]at z2;simp at z2;rw[z2]at this;simp at this
def qj{H H':Hp}{ds:List (LS)}{us:LV}(hD:Cd H ds us)(s:AB H H'){k:Nat}(hk:k<ds.length):∃ t,BZ us ((k:Nat):Int)=some (.ref t)/\H' t=some (.tup ((ds.getD k []).map V.str)):=by
 have hul:=hD.length;have Dm:k<us.length:=by omega
 obtain⟨dd,hdd,t,e,ht⟩:=Bp hD (Yb Dm);refine⟨t,Bb ((Yb Dm).trans (congrArg some e)),?_⟩;have e2:ds.getD k []=dd:=by rw[Yl,hdd];rfl
 rw[e2];exact s _ _ ht
def Zvg{rows:RS}{n:Nat}{ds:List (LS)}(gd:UX rows n ds){k:Nat}(hk:k<ds.length):∀ y∈ds.getD k [],y∈rows.map (·.1):=(gd.call _ (Yd (Wq hk))).known
def Z2g{rows:RS}{n:Nat}{ds:List (LS)}(gd:UX rows n ds){k:Nat}(hk:k<ds.length):(ds.getD k []).length=n:=(gd.call _ (Yd (Wq hk))).len
def Yal(n:Nat):W.kqdOk n (.str "none")=true:=by rw[W.kqdOk];rfl'
def Yan(n:Nat):W.kqdOk n (.str "clash")=true:=by rw[W.kqdOk];rfl'
def Z7v(n k:Nat):W.kqdOk n (Sg k)=true:=by unfold Sg;rw[W.kqdOk]
def z_:Sp:=λvs H Q _=>∃(aa ld t:Addr) (n:Nat) (rows:RS) (AR:KL) (ds:List (LS)) (us:LV) (xs:LS),vs=[.ref aa,.ref ld,.ref t]/\Am rows/\H aa=some (.dK AR)/\C9 H rows rows AR/\H ld=some (.lst us)/\Cd H ds us/\UX rows n ds/\H t=some (.tup (xs.map V.str))/\Ve rows n xs/\n<=4 /\
 ∀ l H',H l=none->AB H H'->H' l=some (.lst ((Vt rows ds xs).map Aj))->Q (.ref l) H'
def qA(rows:RS)(ds:List (LS))(k:Nat):V->V
 | .int j=>.bl (!decide (j.toNat=k)&&wB rows ds j.toNat k)
 | _=>.non
def Zug(rows:RS)(ds:List (LS))(k:Nat)(fs:LN):((fs.map Aj).filter λ_=>true).map (qA rows ds k)=(fs.map λj=>!decide (j=k)&&wB rows ds j k).map V.bl:=by
 rw[VH.mpr (λ_ _=>rfl),B9,B9];rfl
def Z41:(["k","above","call","deeds"]:LS).Nodup:=by rfl'
def Z42:(["j","k","above","deeds"]:LS).Nodup:=by rfl'
structure Yfg(mg:Str->OU):Prop where
 len:mg "len"=none
 range:mg "range"=none
 any:mg "any"=none
abbrev oR:LS:=["above","deeds","call","fits","found","k"]
def Yct:AX oR ["above","deeds","call"] (AJ cK):=by nofun
def Zri(F:Def K mg "_law_nearest" cK ["above","deeds","call"] f fd)(T:Yfg mg)(DLW:Def K mg "_law_within" gm ZS fLW fdLW)(GLW:⋯ 1 fLW fdLW ZS zh):
  ⋯ 2 f fd ["above","deeds","call"] z_:=by
 nomatch F.fn.ok Yct
 ·obtain⟨aa,ld,t,n,rows,AR,ds,us,xs,rfl,_⟩:=h;rfl
 ·obtain⟨aa,ld,t,n,rows,AR,ds,us,xs,rfl,g,Bd,hA,Bx,hD,gd,ht,gc,hn,q⟩:=h;have nd:=Yct.nd;have hul:=hD.length;have few:=gd.few
  ac_nf
  refine'⟨_,(pS (?e1)
   (pS (sE 4 nd (BX AA))
   (pS (BM Yw rfl (CD (pv 3)) (BN (i:=5) nd rfl (Or.inr rfl)) (AG (AY (CO (Bo (Aq (xo rfl) (by rfl) T.any PyProof.Rows.boot_any (pC ?e2 AA)))) (AG (Bc (Be Cs Dy Dx Di (pv 4) (pC (pv 5) AA)))) Aa)))
   (AG (AO (pv 4)))))),?_⟩
  case e1=>exact(Zw (k:=3) ["k"] ["above","call","deeds"] [0,2,1] nd rfl rfl (λ_=>BH (osc:=AJ cK) (on:=oR) (by rfl') rfl rfl rfl) (Vf (by rfl) T.range (pC (Aq Cn (by rfl) T.len BI (pC (pv 1) AA)) AA)) (λC s H fp=>BN (i:=0) Z41 rfl (Or.inl rfl) (Or.inr rfl))
    (λC s H fp=>Zl (Bo (AL DLW GLW hr (pC (pv 1) (pC (pv 2) (pC (AV (r:=Bl K) A2 (pv 3) (pv 0) (λ_ _=>rfl)) AA)))))) (λC s H fp=>pv 0))
  case e2=>exact(Bm ["j"] ["k","above","deeds"] [5,0,1] (λ_=>BH (osc:=AJ cK) (on:=oR) (by rfl') rfl rfl rfl) (CD (pv 3)) (λC s H fp=>BN (i:=0) Z42 rfl (Or.inl rfl) (Or.inr rfl)) (λC s H fp=>Bn)
    (λC s H fp=>Vc (LK U6 (pv 0) (pv 1) (Ab _)) (Vd (AL DLW GLW hr (pC (pv 2) (pC (AV (r:=Bl K) A2 (pv 3) (pv 0) (λ_ _=>rfl)) (pC (AV (r:=Bl K) A2 (pv 3) (pv 1) (λ_ _=>rfl)) AA)))))))
  exists let b:=_;let c:=By _ b _;let e:=AF (BS _ _ c) a;let f:=AF _ e;AF _ f _ _ _
  refine⟨Z,ld,Z,.inl (SqL.of Bx),Z,W,W,gB VE (by rw[Cq];exact sL (by omega)) (so rows ds xs) (λv=>v) (λ_ _=>trivial) ?_ ?_ ?_⟩
  ·intro x H' R s' hx hR;obtain⟨j,hj⟩:=hZ hx;obtain⟨hj,rfl⟩:=Dw hj;have hj:j<ds.length:=by omega
   obtain⟨tq,a1,htq⟩:=qj hD s' hj;refine⟨Z,Z,Z,Z,ld,_,_,Z,Y,SqL.of (s' _ _ Bx),(by rw[W4];exact a1),aa,t,tq,rows,AR,xs,Z,g,s' _ _ Bd,hA.mono λb xs e=>s' _ _ e,s' _ _ ht,htq,gc.known,by have:=gc.len;omega,λUu DV=>⟨Z,?_⟩⟩;have e:so rows ds xs (V.int (0 + (j:Nat)))=CS rows xs (ds.getD j []):=by
    show CS rows xs (ds.getD ((0:Int) + (j:Nat)).toNat [])=_;rw[W4,YX]
   rw[<- e];exact hR Uu DV
  ·intro x H' R s' hx _ hR;exact⟨Z,hR H' (AB.refl _)⟩
  ·intro lf H1 hlf s1 ja;rw[show((us.length:Nat):Int).toNat=ds.length by omega,Z5p]at ja;have fl:=yD rows ds xs;refine⟨Ax _,λlo hlo=>?_⟩;have s2:AB H (upd H1 lo (.lst [])):=s1.trans (AM hlo);have loH:H lo=none:=s1.free hlo;have lflo:lf≠lo:=AK ja hlo;let Au:NW:=λi σ H'=>∃ x:OV,σ=[some (.ref aa),some (.ref ld),some (.ref t),some (.ref lf),some (.ref lo),x]/\AB H H'/\H' lf=some (.lst ((Dq rows ds xs).map Aj))/\H' lo=some (.lst ((((Dq rows ds xs).take i).filter λk=>!((Dq rows ds xs).any λj=>!decide (j=k)&&wB rows ds j k)).map Aj));refine⟨Z,lf,Y,⟨_,SqL.of ((AM hlo) _ _ ja)⟩,Bz (CU (xs:=(Dq rows ds xs).map Aj)) Au
    ⟨none,Y,s2,(AM hlo) _ _ ja,by rw[uS];simp⟩ (λi σ H' _ h0=>by obtain⟨_,_,_,h',_⟩:=h0;exact SqL.of h') ?_ ?_⟩
   ·rintro i v σ H' hi ⟨x0,rfl,s',dm,Bw⟩;obtain⟨k,hk,rfl⟩:=wt hi;have hkl:=j4 k (Yd hk);refine⟨Z,lf,Y,⟨_,SqL.of dm⟩,gB (CU (xs:=(Dq rows ds xs).map Aj)) (sL (by rw[Ya];omega)) (λ_=>true) (qA rows ds k) (λH' s'=>s'.seq (SqL.of dm)) ?_ ?_ ?_⟩
    ·intro v H2 R ZN _ hR;exact hR H2 (AB.refl _)
    ·intro v H2 R ZN hv _ hR;obtain⟨j,hj,rfl⟩:=Yg.mp hv;have hjl:=j4 j hj;have e:decide (Aj j=V.int (k:Nat))=decide (j=k):=Vj.mpr ⟨λz=>by unfold Aj at z;injection z with z;omega,λz=>by rw[z];rfl⟩;have eo:qA rows ds k (Aj j)=.bl (!decide (j=k)&&wB rows ds j k):=rfl;rw[eo]at hR;refine⟨Z,Z,Y,Z,?_⟩;rw[e];refine A1 (λh=>?_) (λh=>?_)
     ·have s3:=s'.trans ZN;obtain⟨t1,a1,h1⟩:=qj hD s3 hjl;obtain⟨t2,a2,h2⟩:=qj hD s3 hkl;rw[h,DQ]at hR;exact⟨Z,Z,Z,ld,_,_,Z,Y,SqL.of (s3 _ _ Bx),a1,Z,Z,ld,_,_,Z,Y,SqL.of (s3 _ _ Bx),a2,aa,t1,t2,rows,AR,_,Z,g,s3 _ _ Bd,hA.mono λb xs e=>s3 _ _ e,h1,h2,Zvg gd hjl,by have:=Z2g gd hjl;omega,λUu DV=>hR Uu DV⟩
     ·rw[show(!decide (j=k))=false by simpa using h,V5]at hR;exact hR H2 (AB.refl _)
    ·intro D H2 eJ ZN Ap;rw[Zug]at Ap;have eA:((Dq rows ds xs).map λj=>!decide (j=k)&&wB rows ds j k).any id=(Dq rows ds xs).any λj=>!decide (j=k)&&wB rows ds j k:=by rw[List.any_map];rfl
     refine⟨D,Z,SqL.of Ap,_,congrArg V.bl eA,?_⟩;have s3:=s'.trans ZN;have aN:=ZN _ _ Bw;have tk:=gk (λk=>!((Dq rows ds xs).any λj=>!decide (j=k)&&wB rows ds j k)) (Dq rows ds xs) i k hk;refine A1 (λh=>?_) (λh=>?_)
     ·refine⟨Z,.inl ⟨Y,_,SqL.of aN⟩,Z,lo,_,Z,Y,aN,Bq (by rw[Ya];exact B0 (Xj _ _) (by rw[Bg];omega)),Z,λb o e=>by rw[AD (AK e loH)];exact s3 _ _ e,by rw[AD lflo];exact ZN _ _ dm,?_⟩;rw[uS,tk,h,if_pos rfl,Ys];rfl
     ·refine⟨Z,s3,ZN _ _ dm,?_⟩;rw[aN,tk,if_neg h,C5]
   ·rintro σ H' ⟨x0,rfl,s',dm,Bw⟩;rw[Ya,Bs]at Bw;exact⟨Z,q lo H' loH s' Bw⟩
def xW:Sp:=λvs H Q _=>∃(aa ld t:Addr) (n:Nat) (rows:RS) (AR:KL) (ds:List (LS)) (us:LV) (xs:LS),vs=[.ref aa,.ref ld,.ref t]/\Am rows/\H aa=some (.dK AR)/\C9 H rows rows AR/\H ld=some (.lst us)/\Cd H ds us/\UX rows n ds/\H t=some (.tup (xs.map V.str))/\Ve rows n xs/\n<=4 /\
 ∀ l H',H l=none->AB H H'->H' l=some (.tup (e_ (Vt rows ds xs)))->Q (.ref l) H'
section
variable {H H':Hp}{p:Addr}{o:HO}(hp:H p=some o)(ho:Dp o)(k:∀ b o,b≠p->H b=some o->H' b=some o)
include hp ho k
end
abbrev Yew:LS:=["above","deeds","call","near"]
def Z69:AX Yew ["above","deeds","call"] (AJ lK):=by nofun
def Z1d(F:Def K mg "_law_told" lK ["above","deeds","call"] f fd)(len:mg "len"=none)
  (DLN:Def K mg "_law_nearest" cK ["above","deeds","call"] fLN fdLN) (GLN:⋯ 2 fLN fdLN ["above","deeds","call"] z_):⋯ 3 f fd ["above","deeds","call"] xW:=by
 nomatch F.fn.ok Z69
 ·obtain⟨aa,ld,t,n,rows,AR,ds,us,xs,rfl,_⟩:=h;rfl
 ·obtain⟨aa,ld,t,n,rows,AR,ds,us,xs,rfl,g,Bd,hA,Bx,hD,gd,ht,gc,n4,q⟩:=h;have nd:=Z69.nd;have hu:=hr.units
  ac_nf
  refine'⟨_,(pS (sE 3 nd (AL DLN GLN hr (pC (pv 0) (pC (pv 1) (pC (pv 2) AA)))))
   (pS (AY (Ag (p_ hu) (pv 3) (BX AA) (Ab _)) (AG (AO (Bf (pC Ar AA)))) Aa)
   (pS (AY (Ag BV (Aq Cn (by rfl) len BI (pC (pv 3) AA)) AE (Ab _)) (AG (AO (Bf (pC Ar (pC (AV A2 (pv 3) AE (λ_ _=>rfl)) AA))))) Aa)
   (AG (AO (Bf (pC Ar (pC (AV A2 (pv 3) AE (λ_ _=>rfl)) (pC (AV A2 (pv 3) AE (λ_ _=>rfl)) AA))))))))),?_⟩
  exists let b:=_;let c:=AF (By _ b _) a;let e:=AF _ c;AF _ e _ _ _
  refine⟨Z,Z,Z,aa,ld,t,n,rows,AR,ds,us,xs,Y,g,Bd,hA,Bx,hD,gd,ht,gc,n4,λl H1 WX s1 hl=>?_⟩;generalize Vt rows ds xs=near at hl q;refine⟨Z,Ax _,λl0 uI=>?_⟩;have s2:AB H1 (upd H1 l0 (.lst [])):=AM uI;have vx:(upd H1 l0 (.lst [])) l0=some (.lst []):=uS;generalize upd H1 l0 (.lst [])=H2 at s2 vx;have s3:=s1.trans s2;have hl:=s2 _ _ hl;have fin:∀ t' nY,H2 t'=none->e_ near=nY->Q (.ref t') (upd H2 t' (.tup nY)):=λt' nY h e=>q t' _ (s3.free h) (s3.trans (AM h)) (by rw[uS,e]);refine⟨.list (near.map Sg),.list [],Z0q hl,.list (SqL.of vx) .nil,xB 8 _,xB 8 [],Z,?_⟩;cases near with
  | nil =>
   rw[show U4 (.list (([]:LN).map Sg)) (.list [])=true from VD _];exact Av ⟨O,λt ht=>fin t _ ht rfl⟩
  | cons k r =>
   rw[show U4 (.list ((k :: r).map Sg)) (.list [])=false from fo (λz=>by injection z with z;cases z)];refine AS ?_;refine⟨Z,l,Z,.inl (SqL.of hl),Y,Z,?_⟩;cases r with
   | nil =>
    refine A1 (λ_=>?_) (λh=>absurd (by rfl) h);exact⟨Z,l,_,_,Z,Y,SqL.of hl,Y,U,λt ht=>fin t _ ht rfl⟩
   | cons j r =>
    refine A1 (λh=>?_) (λ_=>?_)
    ·have h:=Je h;injection h with h;simp at h;omega
    ·exact⟨Z,l,_,_,Z,Y,SqL.of hl,Bb (j:=0) rfl,Z,l,_,_,Z,Y,SqL.of hl,Bb (j:=1) rfl,sL (by show 3<=100000;decide),λt ht=>fin t _ ht rfl⟩
def X8(r:Str×LS):W.Dat:=.tuple [.str r.1,.tuple (r.2.map W.Dat.str)]
theorem zw{K:Fg}{H:Hp}:∀ {rows:RS}{vs:LV},Paired (Z1 H) rows vs->A4 K H vs (rows.map X8)
 | _,_,.nil=>.nil
 | _,_,.cons h t=>by
  obtain⟨a,u,rfl,h1,h2⟩:=h;exact .cons (.tuple (AH.of h1) (.cons (.str _) (.cons (.tuple (AH.of h2) (Wv _)) .nil))) (zw t)
def xh{rows:RS}(g:Am rows){r:Str×LS}(hr:r∈rows):∀ u∈r.2,AW u=true:=λu hu=>by
 obtain⟨q,hq,e⟩:=Yg.mp (g.known r hr u hu);rw[<- e];exact g.word q hq
def Z1e{rows:RS}(g:Am rows):W.kqdOk 9 (.list (rows.map X8))=true:=by
 show(rows.map X8).all (W.kqdOk 8)=true;rw[CL];intro d hd;obtain⟨r,hr,rfl⟩:=Yg.mp hd;show([W.Dat.str r.1,.tuple (r.2.map W.Dat.str)].all (W.kqdOk 7))=true;rw[V4,V4,List.all_nil,Bool.and_true,B1];refine⟨XU (g.word r hr),?_⟩;show(r.2.map W.Dat.str).all (W.kqdOk 6)=true;rw[CL];intro d hd;obtain⟨x,hx,rfl⟩:=Yg.mp hd;exact XU (xh g hr x hx)
def Z1v{K:Fg}{C:Addr}{Hx:Hp}{xb dx l:Addr}{rows:RS}{R:Hp->Prop}{E:XK}(nx:Hx xb=none)(ndx:Hx dx=none)(hR:T5 Hx l rows)(g:Am rows)(h:∀ H',AB Hx H'->CQ C H' xb rows->R H'):
  ff K C [.ref xb,.ref l] (upd (upd Hx dx (.own xb)) xb (.ins C dx [])) (λv H3=>v=.non/\R H3) E:=by
 have Ai:AB Hx (upd (upd Hx dx (.own xb)) xb (.ins C dx [])):=λb o e=>by
  have e1:(upd Hx dx (.own xb)) b=some o:=by rw[AD (AK e ndx)];exact e
  rw[AD (AK e nx)];exact e1
 exact⟨xb,dx,l,rows,Y,uS,(T5.g (Vg hR Ai)),g,λH4 kd keep=>⟨Y,h H4 (λb o e=>keep b o (AK e nx) (Ai _ _ e)) kd⟩⟩
def Z1w{K:Fg}{C B:Addr}{Hx:Hp}{xb yb dy lz:Addr}{n:Nat}{rows:RS}{ds:List (LS)}{us:LV}{R:Hp->Prop}{E:XK}(ny:Hx yb=none)(ndy:Hx dy=none)(kd:CQ C Hx xb rows)(g:Am rows)(hz:Hx lz=some (.lst us)\/Hx lz=some (.tup us))(hD:Cd Hx ds us)(gd:UX rows n ds)(n1:1<=n)(n4:n<=4)(h:∀ H',AB Hx H'->T7 C B H' yb xb rows n ds->R H'):
  qe K C B [.ref yb,.ref xb,.int n,.ref lz] (upd (upd Hx dy (.own yb)) yb (.ins B dy [])) (λv H3=>v=.non/\R H3) E:=by
 have Ai:AB Hx (upd (upd Hx dy (.own yb)) yb (.ins B dy [])):=λb o e=>by
  have e1:(upd Hx dy (.own yb)) b=some o:=by rw[AD (AK e ndy)];exact e
  rw[AD (AK e ny)];exact e1
 exact⟨yb,dy,xb,lz,n,rows,ds,us,Y,uS,kd.mono Ai,g,hz.elim (λe=>.inl (SqL.of (Ai _ _ e))) (λe=>.inr (Ai _ _ e)),hD.mono Ai,gd,n1,n4,λH5 bd i_=>⟨Y,h H5 (λb o e=>i_ b o (AK e ny) (Ai _ _ e)) bd⟩⟩
abbrev AI:=Str×Nat×List (LS×Str)
def nH(H:Hp)(p:LS×Str)(v:V):Prop:=∃ t tc:Addr,v=V.ref t/\H t=some (.tup [.ref tc,.str p.2])/\H tc=some (.tup (p.1.map V.str))
def Cg(H:Hp)(ps:List (LS×Str))(vs:LV):Prop:=Paired (nH H) ps vs
def Cg.mono{H H':Hp}{ps:List (LS×Str)}{vs:LV}(h:Cg H ps vs)(k:∀ b xs,H b=some (.tup xs)->H' b=some (.tup xs)):Cg H' ps vs:=Paired.mapP h λ_ _ ⟨t,tc,e,h1,h2⟩=>⟨t,tc,e,k _ _ h1,k _ _ h2⟩
def A3{H H':Hp}(s:AB H H'):∀ b xs,H b=some (.tup xs)->H' b=some (.tup xs):=λ_ _ e=>s _ _ e
def eX(K:Fg)(H:Hp)(n:AI)(v:V):Prop:=∃(t tp:Addr) (b:Bool) (vs:LV),v=V.ref t/\H t=some (.tup [.str n.1,.int n.2.1,.ref tp])/\CW K b H tp vs/\Cg H n.2.2 vs
theorem eX.mono{K:Fg}{H H':Hp}{n:AI}{v:V}(h:eX K H n v)(s:AB H H'):eX K H' n v:=by
 obtain⟨t,tp,b,vs,e,h1,h2,h3⟩:=h;exact⟨t,tp,b,vs,e,s _ _ h1,h2.mono s,h3.mono (A3 s)⟩
structure YM(rows:RS)(n:AI):Prop where
 word:AW n.1=true
 one:1<=n.2.1
 four:n.2.1<=4
 deeds:UX rows n.2.1 (n.2.2.map (·.1))
 made:∀ p∈n.2.2,p.2∈rows.map (·.1)
structure Cf(rows:RS)(ns:List AI):Prop where
 few:ns.length<=8
 each:∀ n∈ns,YM rows n
 nd:(ns.map (·.1)).Nodup
def Yez:¬ (("book":Str)="made_of"):=by rfl'
def Yey:¬ (("book":Str)="board_of"):=by rfl'
def Yex:¬ (("board_of":Str)="made_of"):=by rfl'
def Si(k bo mo:Addr):List (Str×V):=Ba "made_of" (.ref mo) (Ba "board_of" (.ref bo) (Ba "book" (.ref k) []))
def Z5i(k bo mo:Addr):(Si k bo mo).lookup ("book":Str)=some (.ref k):=by
 unfold Si;rw[CT,if_neg Yez,CT,if_neg Yey,CT,if_pos rfl]
def j6(k bo mo:Addr):(Si k bo mo).lookup ("board_of":Str)=some (.ref bo):=by
 unfold Si;rw[CT,if_neg Yex,CT,if_pos rfl]
def w_(k bo mo:Addr):(Si k bo mo).lookup ("made_of":Str)=some (.ref mo):=by
 unfold Si;rw[CT,if_pos rfl]
def bj(k bo mo:Addr){m:Str}(h1:¬ m="made_of")(h2:¬ m="board_of")(h3:¬ m="book"):(Si k bo mo).lookup m=none:=by
 unfold Si;rw[CT,if_neg h1,CT,if_neg h2,CT,if_neg h3];rfl
def Cc(R:AI->V->Prop)(ns:List AI)(kvs:KL):Prop:=Paired (λ(n:AI) (p:Key×V)=>p.1=Sum.inr n.1/\R n p.2) ns kvs
def Cc.imp{R S:AI->V->Prop}{ns:List AI}{kvs:KL}(h:Cc R ns kvs)(f:∀ n v,R n v->S n v):Cc S ns kvs:=Paired.mapP h λ_ _ z=>⟨z.1,f _ _ z.2⟩
theorem Cc.keys{R:AI->V->Prop}:∀ {ns:List AI}{kvs:KL},Cc R ns kvs->kvs.map (·.1)=ns.map λn=>(Sum.inr n.1:Key)
 | _,_,.nil=>rfl
 | _,_,.cons r t=>by rw[Yz,Yz,r.1,Cc.keys t]
theorem Cc.val{R:AI->V->Prop}:∀ {ns:List AI}{kvs:KL},Cc R ns kvs->(ns.map (·.1)).Nodup->∀ {n:AI},n∈ns->∃ v,BB kvs (Sum.inr n.1)=some v/\R n v
 | _,_,.nil,_,n,h=>nomatch h
 | q :: rs,p :: ps,.cons z t,nd,n,h=>by
  have Vn:(q.1 :: rs.map (·.1)).Nodup:=nd;obtain⟨n1,n2⟩:=Cr.mp Vn;obtain⟨z1,z2⟩:=z
  rcases Yv.mp h with e | h
  ·subst e;exact⟨p.2,by rw[UW z1],z2⟩
  ·have ne:¬ p.1=(Sum.inr n.1:Key):=λe=>n1 (by
    rw[z1]at e;have e':q.1=n.1:=by injection e
    rw[e'];exact Yg.mpr ⟨n,h,Y⟩)
   obtain⟨v,h1,h2⟩:=Cc.val t n2 h;exact⟨v,by rw[UU ne];exact h1,h2⟩
def Cc.not{R:AI->V->Prop}{ns:List AI}{kvs:KL}(h:Cc R ns kvs){x:Str}(hx:x∉ns.map (·.1)):BB kvs (Sum.inr x)=none:=Vz λz=>hx (by
 rw[h.keys]at z;obtain⟨n,hn,e⟩:=Yg.mp z;have e':n.1=x:=by injection e
 exact Yg.mpr ⟨n,hn,e'⟩)
def Cc.some{R:AI->V->Prop}{ns:List AI}{kvs:KL}(h:Cc R ns kvs){x:Str}(hx:x∈ns.map (·.1)):(BB kvs (Sum.inr x)).isSome=true:=lS (by
 rw[h.keys];obtain⟨n,hn,e⟩:=Yg.mp hx;exact Yg.mpr ⟨n,hn,by rw[e]⟩)
def Y8(C B:Addr)(H:Hp)(k:Addr)(rows:RS):AI->V->Prop:=λn v=>∃ y,v=.ref y/\T7 C B H y k rows n.2.1 (n.2.2.map (·.1))
def Y6(Z:Addr->Prop)(H:Hp):AI->V->Prop:=λn v=>∃ l,v=.ref l/\H l=some (.lst ((n.2.2.map (·.2)).map V.str))/\¬ Z l
structure Va(Z:Addr->Prop)(C B D:Addr)(H:Hp)(p k:Addr)(rows:RS)(ns:List AI):Prop where
 ex:∃(dx bo mo:Addr) (o:Obj) (A6 BD:KL),H p=some (.ins D dx (Si k bo mo))/\CQ C H k rows/\H bo=some (.frz o (.dK A6))/\Cc (Y8 C B H k rows) ns A6/\H mo=some (.dK BD)/\Cc (Y6 Z H) ns BD
abbrev Sk:=Va λ_=>False
def Va.at_{Z:Addr->Prop}{C B D:Addr}{H:Hp}{p k:Addr}{rows:RS}{ns:List AI}(h:Va Z C B D H p k rows ns):Sk C B D H p k rows ns:=by
 obtain⟨dx,bo,mo,o,A6,BD,h1,h2,h3,h4,h5,h6⟩:=h.ex;exact⟨dx,bo,mo,o,A6,BD,h1,h2,h3,h4,h5,h6.imp λn v ⟨l,e,b,_⟩=>⟨l,e,b,id⟩⟩
theorem Va.mono{Z:Addr->Prop}{C B D:Addr}{H H':Hp}{p k:Addr}{rows:RS}{ns:List AI}(h:Va Z C B D H p k rows ns)(s:AB H H'):Va Z C B D H' p k rows ns:=by
 obtain⟨dx,bo,mo,o,A6,BD,h1,h2,h3,h4,h5,h6⟩:=h.ex;exact⟨dx,bo,mo,o,A6,BD,s _ _ h1,h2.mono s,s _ _ h3,h4.imp λn v ⟨y,e,b⟩=>⟨y,e,b.mono s⟩,s _ _ h5,h6.imp λn v ⟨l,e,b,z⟩=>⟨l,e,s _ _ b,z⟩⟩
def Zvk{C B:Addr}{H H':Hp}{p k q:Addr}{o:HO}{rows:RS}{n:Nat}{ds:List (LS)}(h:T7 C B H p k rows n ds)(hq:H q=some o)(no:∀ o' u,o≠.frz o' u)(nt:∀ xs,o≠.tup xs)(ni:∀ c d f,o≠.ins c d f)(s:∀ b o,b≠q->H b=some o->H' b=some o):T7 C B H' p k rows n ds:=by
 obtain⟨dx,t,us,h1,h2,h3,h4⟩:=h.ex;have ne:∀ {b u},H b=some u->o≠u->b≠q:=λ{b u} e n z=>by rw[z,hq]at e;exact n (Ym e)
 have nk:k≠q:=by
  obtain⟨_,_,_,_,_,_,_,e,_⟩:=h2.ex;exact ne e (ni _ _ _)
 exact⟨dx,t,us,s _ _ (ne h1 (ni _ _ _)) h1,lC h2 hq s nk no nt,s _ _ (ne h3 (nt _)) h3,Paired.mapP h4 λ_ _ ⟨t',e,x⟩=>⟨t',e,s _ _ (ne x (nt _)) x⟩⟩
def X4(H:Hp):V->V
 | .ref t=>match H t with
  | some (.tup [x,_])=>x
  | _=>.non
 | _=>.non
def ZM(H:Hp):V->V
 | .ref t=>match H t with
  | some (.tup [_,x])=>x
  | _=>.non
 | _=>.non
def jo{H:Hp}{t:Addr}{x y:V}(h:H t=some (.tup [x,y])):X4 H (.ref t)=x:=by show(match H t with | some (.tup [x,_])=>x | _=>.non)=x;rw[h]
def qG{H:Hp}{t:Addr}{x y:V}(h:H t=some (.tup [x,y])):ZM H (.ref t)=y:=by show(match H t with | some (.tup [_,x])=>x | _=>.non)=y;rw[h]
def Zxl{H:Hp}{p:LS×Str}{v:V}(h:nH H p v):∃ tc,X4 H v=.ref tc/\H tc=some (.tup (p.1.map V.str)):=by
 obtain⟨t,tc,rfl,h1,h2⟩:=h;exact⟨tc,jo h1,h2⟩
def Zxk{H:Hp}{p:LS×Str}{v:V}(h:nH H p v):ZM H v=.str p.2:=by
 obtain⟨t,tc,rfl,h1,h2⟩:=h;exact qG h1
theorem kh{H:Hp}:∀ {ps:List (LS×Str)}{vs:LV},Cg H ps vs->Cd H (ps.map (·.1)) (vs.map (X4 H))
 | _,_,.nil=>.nil
 | _,_,.cons h t=>by
  obtain⟨tc,e,h2⟩:=Zxl h;exact .cons ⟨tc,e,h2⟩ (kh t)
theorem rJ{H:Hp}:∀ {ps:List (LS×Str)}{vs:LV},Cg H ps vs->vs.map (ZM H)=(ps.map (·.2)).map V.str
 | _,_,.nil=>rfl
 | _,_,.cons h t=>by rw[Yz,Yz,Yz,Zxk h,rJ t]
def y9{K:Fg}{J:It}{vs:LV}{Ok:Hp->Prop}(R:Sd J vs Ok)(i:Nat)(f:V->V){σ:St}{Q:VK}{H1:Hp}{ps:List (LS×Str)}(hz:vs.length<=1000)(hp:Cg H1 ps vs)(hf:∀ v,[some (X4 H1 v),some (ZM H1 v)][i]?=some (some (f v)))(hok:∀ H,AB H1 H->Ok H)
  (hd:∀ D H',H1 D=none->AB H1 H'->H' D=some (.lst (vs.map f))->Q (.ref D) H'):AQ 2 [] (g2 K 0 1) XM (rq i) σ Q J H1:=by
 refine Zzh R (sL (by omega)) (λ_=>true) (λ_ x v _=>v=f x) (X4 H1) (ZM H1) (λ_ _ _ _ _ _ z=>z) hok (λx hx=>?_) ?_ ?_ ?_
 ·obtain⟨j,hj⟩:=hZ hx;obtain⟨p,_,t,tc,rfl,h1,_⟩:=Bp hp hj;exact⟨t,Y,by rw[jo h1,qG h1];exact h1⟩
 ·intro x H' R' _ _ CA;exact CA H' (AB.refl _)
 ·intro D x H' R' _ _ _ _ _ CA;exact⟨f x,hf x,CA _ H' (AB.refl _) rfl⟩
 ·intro D H' ys hD s hl hq;rw[VH.mpr (λ_ _=>rfl)]at hq;rw[b8 hq]at hl;exact hd D H' hD s hl
def Zj9(C:Addr):Sp:=λvs H Q _=>∃(p l:Addr) (rows:RS) (xs:LS),vs=[.ref p,.ref l]/\CQ C H p rows/\Am rows/\H l=some (.lst (xs.map V.str))/\(∀ x∈xs,x∈rows.map (·.1))/\Q .non H
def wZ(K:Fg)(H:Hp)(l:Addr)(ns:List AI):Prop:=∃(b:Bool) (vs:LV),CW K b H l vs/\Paired (eX K H) ns vs
def kC(K:Fg)(C B D:Addr):Sp:=λvs H Q _=>∃(p dx k l:Addr) (rows:RS) (ns:List AI),vs=[.ref p,.ref k,.ref l]/\H p=some (.ins D dx [])/\CQ C H k rows/\Am rows/\wZ K H l ns/\Cf rows ns /\
 ∀ H',Va (λb=>∃ o,H b=some o) C B D H' p k rows ns->(∀ b o,b≠p->H b=some o->H' b=some o)->Q .non H'
structure U8(K:Fg)(D:Addr):Prop where
 cl:VI K D
 nB:Ul K D "book"
 nO:Ul K D "board_of"
 nM:Ul K D "made_of"
def Z8c:(["call","made"]:LS).Nodup:=by rfl'
abbrev nCM:LS:=["kinds","makes","made"]
def Yc6:AX nCM ["kinds","makes"] (AJ mD):=by nofun
def Zx0(F:Def K mg "check_makes" mD ["kinds","makes"] f fd)(TC:Tx K C)(MH:Xd K C fH fdH):⋯ 2 f fd ["kinds","makes"] (Zj9 C):=by
 have GH:⋯ 1 fH fdH ["self","word"] (ma C):=p9 MH.fn TC
 nomatch F.fn.ok Yc6
 ·obtain⟨p,l,rows,xs,rfl,_⟩:=h;rfl
 ·obtain⟨p,l,rows,xs,rfl,kd,g,hl,kn,q⟩:=h;have nd:=Yc6.nd;have AZ:Af 1 _:=hr.mono (by decide);obtain⟨dx,d,a,o,oa,kvs,AR,h1,_⟩:=kd.ex
  ac_nf
  refine⟨_,(AG (BM Yw rfl (CD (pv 1)) (gE 2 nd) (AG (AY (CO (Bo (T9 (pv 0) TC.cl MH.me GH AZ MH.b .nil BA (pC (pv 2) AA)))) CK Aa)))),?_⟩
  exists BS _ _ a _ _ _
  let Au:NW:=λi σ H'=>∃ x,σ=[some (.ref p),some (.ref l),x]/\H'=H;refine⟨Z,l,Y,⟨_,SqL.of hl⟩,Bz (CU (xs:=xs.map V.str)) Au ⟨none,Y,Y⟩ (λi σ H' _ ⟨_,_,e⟩=>by rw[e];exact SqL.of hl) ?_ ?_⟩
  ·rintro i v σ H' hi ⟨x,rfl,e⟩;have e2:=e.symm;subst e2;rw[Yj]at hi;cases hx:xs[i]? with
   | none=>rw[hx]at hi;cases hi
   | some y =>
    rw[hx]at hi;cases hi;refine⟨Z,p,dx,Z,h1,qE _ _,Z,p,rows,y,Y,kd,g,?_⟩;rw[Jb (kn y (Yd hx))];exact⟨Z,AS ⟨Z,Y⟩⟩
  ·rintro σ H' ⟨x,rfl,e⟩;rw[e];exact q
def Z3x{x:Str}(h:AW x=true):x.length<=1000:=by have:=Dh h;omega
def Z1p{kvs:KL}:∀(o':Obj) (u:HO),HO.dK kvs≠.frz o' u:=λ_ _ z=>by cases z
def Z1n{kvs:KL}:∀ xs:LV,HO.dK kvs≠.tup xs:=λ_ z=>by cases z
def Z1o{kvs:KL}:∀(c d:Addr) (f:List (Str×V)),HO.dK kvs≠.ins c d f:=λ_ _ _ z=>by cases z
def kK{C B:Addr}{H:Hp}{q k:Addr}{kvs:KL}{o:HO}{rows:RS}{n:AI}{v:V}(h:Y8 C B H k rows n v)(hq:H q=some (.dK kvs)):Y8 C B (upd H q o) k rows n v:=by
 obtain⟨y,e,b⟩:=h;exact⟨y,e,Zvk b hq Z1p Z1n Z1o λb o hb e=>by rw[AD hb];exact e⟩
def kN{Z:Addr->Prop}{H:Hp}{q:Addr}{kvs:KL}{o:HO}{n:AI}{v:V}(h:Y6 Z H n v)(hq:H q=some (.dK kvs)):Y6 Z (upd H q o) n v:=by
 obtain⟨l,e,b,z⟩:=h;exact⟨l,e,by rw[AD (λz=>by rw[z,hq]at b;cases b)];exact b,z⟩
def qc{C B:Addr}{H H':Hp}{k:Addr}{rows:RS}{n:AI}{v:V}(h:Y8 C B H k rows n v)(s:AB H H'):Y8 C B H' k rows n v:=let⟨y,e,b⟩:=h;⟨y,e,b.mono s⟩
def qP{Z:Addr->Prop}{H H':Hp}{n:AI}{v:V}(h:Y6 Z H n v)(s:AB H H'):Y6 Z H' n v:=let⟨l,e,b,z⟩:=h;⟨l,e,s _ _ b,z⟩
def Zl0{R:AI->V->Prop}{ns:List AI}{kvs:KL}{n:AI}{v:V}(h:Cc R ns kvs)(hn:n.1∉ns.map (·.1))(hv:R n v):Cc R (ns++[n]) (Ao kvs (Sum.inr n.1) v):=by
 rw[Zp _ (h.not hn)];exact LM h ⟨Y,hv⟩
abbrev oS:LS:=["self","kinds","names","board_of","made_of","word","places","deeds"]
abbrev ah:LS:=["self","kinds","names"]
def Ycx:AX oS ah (AJ gq):=by nofun
def Z1f(F:Bu K "__init__" "Book.__init__" gq f fd)(T:Z2 mg)(most:∃ t,mg "MOST_NAMES"=some (.int 8 t))(TD:U8 K D)(hDC:D≠C)(hDB:D≠B)
  (DW:Def K mg "is_word" Ww ["text"] fW fdW) (MB:Mk K B fBI) (mgB:mg "Board"=some (.ref B)) (bB:Cb K fdBI dQ []) (GB:⋯ 4 fBI fdBI dQ (qe K C B))
  (DM:Def K mg "check_makes" mD ["kinds","makes"] fM fdM) (GM:⋯ 2 fM fdM ["kinds","makes"] (Zj9 C)):
  ⋯ 6 f fd ah (kC K C B D):=by
 have GW:⋯ 1 fW fdW ["text"] bx:=ke DW T
 nomatch F.ok Ycx
 ·obtain⟨p,dx,k,l,rows,ns,rfl,_⟩:=h;rfl
 ·obtain⟨p,dx,k,l,rows,ns,rfl,hp,kd,g,⟨b,vs,hl,hN⟩,gn,q⟩:=h;have nd:=Ycx.nd;have hu:=Tz hr;have AZ:Af 1 _:=hr.mono (by decide);have B6:Af 2 _:=hr.mono (by decide);obtain⟨t1,hM8⟩:=most;have hvl:=hN.length;have few:=gn.few
  ac_nf
  refine'⟨_,(pS (AY (Ag Wl (Aq UR (by rfl) T.len BI (pC (pv 2) AA)) (VB (v:=.int 8) (by rfl) hM8 ⟨Z⟩) (Ab _)) CK Aa)
   (pS (sE 3 nd YI)
   (pS (sE 4 nd YI)
   (pS (BM Yw rfl (bX (pv 2)) (LJ rfl (gC (gE 5 nd) (gC (gE 6 nd) (gC (gE 7 nd) LL))))
    (pS (AY (CO (Bo (AL DW GW AZ (pC (pv 5) AA)))) CK Aa)
   (pS (AY (XQ (bW hu (pv 5) (pv 3))) CK Aa)
   (pS (Ws hu (pv 3) (pv 5) (gA MB GB hr rfl mgB bB .nil BA (pC (pv 1) (pC (pv 6) (pC ?eC AA)))) rfl)
   (pS (Ws hu (pv 4) (pv 5) ?eM rfl)
   (AG (Bc (AL DM GM B6 (pC (pv 1) (pC (Wr hu (pv 4) (pv 5) (λ_ _=>rfl)) AA))))))))))
   (j8 (pS (YA (pv 0) (pv 1) rfl)
   (pS (YA (pv 0) (pv 3) rfl)
   (AG (YA (pv 0) (pv 4) rfl))))))))),?_⟩
  case eC=>exact Bm ["call","made"] [] [] (λ_=>BH (osc:=AJ gq) (on:=oS) (by rfl') rfl rfl rfl) (bX (pv 7)) (λC s H fp=>Zj (K:=K) (i:=0) (j:=1) rfl rfl Z8c rfl rfl (Or.inl rfl) (Or.inl rfl) (Or.inr rfl) (Or.inr rfl)) (λC s H fp=>Bn) (λC s H fp=>pv 0)
  case eM=>exact Bm ["call","made"] [] [] (λ_=>BH (osc:=AJ gq) (on:=oS) (by rfl') rfl rfl rfl) (bX (pv 7)) (λC s H fp=>Zj (K:=K) (i:=0) (j:=1) rfl rfl Z8c rfl rfl (Or.inl rfl) (Or.inl rfl) (Or.inr rfl) (Or.inr rfl)) (λC s H fp=>Bn) (λC s H fp=>pv 1)
  exists let b:=_;let c:=AF _ b;let e:=AF _ c;let f:=AF _ e;let g:=AF _ f;let h:=AF (BS _ _ g) a;let i:=AF _ h;let j:=AF _ i;AF _ j _ _ _
  refine⟨Z,_,Z,kG hl,_,Z,Y,Z,?_⟩;rw[show decide ((8:Int)<(vs.length:Int))=false from Jc (by omega)];refine AS ?_;intro bo hbo;have s1:AB H (upd H bo (.dK [])):=AM hbo;intro mo hmo;have s2:AB (upd H bo (.dK [])) (upd (upd H bo (.dK [])) mo (.dK [])):=AM hmo;have hmoH:H mo=none:=s1.free hmo;have bm:bo≠mo:=λz=>by rw[<- z,uS]at hmo;cases hmo
  let Au:NW:=λi σ H'=>∃(A6 BD:KL) (x y z:OV),σ=[some (.ref p),some (.ref k),some (.ref l),some (.ref bo),some (.ref mo),x,y,z]/\AB H H'/\H' bo=some (.dK A6)/\H' mo=some (.dK BD)/\Cc (Y8 C B H' k rows) (ns.take i) A6/\Cc (Y6 (λb=>∃ o,H b=some o) H') (ns.take i) BD;refine⟨Z,b,l,vs,Y,(hl.mono s1).mono s2,Bz b0 Au
   ⟨[],[],none,none,none,Y,s1.trans s2,s2 _ _ uS,uS,by rw[Dz];exact .nil,by rw[Dz];exact .nil⟩ (λi σ H' _ h0=>by obtain⟨_,_,_,_,_,_,s,_⟩:=h0;exact hl.mono s) ?_ ?_⟩
  ·rintro i v σ H' hi ⟨A6,BD,x,y,z,rfl,s3,XG,ZX,hB,hM⟩;obtain⟨nm,hnm,t,tp,bb,ws,rfl,ht,htp,hps⟩:=Bp hN hi;have Ak:nm∈ns:=Yd hnm;have gnm:=gn.each nm Ak;have A7:nm.1∉(ns.take i).map (·.1):=by
    rw[List.map_take];exact zH gn.nd (by rw[Yj,hnm];rfl)
   have WT:=s3 _ _ ht;refine⟨t,Z,AH.of WT,Y,_,Z,_,Z,_,Z,Y,?_⟩;refine⟨Z,nm.1,Y,Z3x gnm.word,λH4 s4=>⟨Z,?_⟩⟩;rw[gnm.word];refine AS ?_;have dw:=s4 _ _ XG;have jW:=s4 _ _ ZX;have eL:=hB.imp λn v h=>qc h s4;have jg:=hM.imp λn v h=>qP h s4;have Tt:=s3.trans s4;refine⟨Z,Z,bo,Z,Bj.k (k:=Sum.inr nm.1) dw,Z,?_⟩;rw[eL.not A7];refine AS ?_;have WC:=htp.mono Tt;have iX:Cg H4 nm.2.2 ws:=hps.mono (A3 Tt);have wl:ws.length<=64:=by
    have h1:=Yu hps;have h2:=gnm.deeds.few;rw[Ya]at h2;omega
   refine⟨Z,Z,Z,bb,tp,ws,Y,WC,y9 b0 0 (X4 H4) (by omega) iX (λ_=>rfl) (λH' s'=>WC.mono s') λlc H5 hlc As SX=>?_⟩;intro yb dyb ny ndy ney;refine Z1w ny ndy ((kd.mono Tt).mono As) g (.inl SX) ((kh iX).mono As) gnm.deeds gnm.one gnm.four λH6 BP bd6=>?_;have Vm:=As.trans BP;have oG:=Tt.trans Vm;have du:=Vm _ _ dw;have hm6:=Vm _ _ jW;have bl:A6.length=i:=by
    have h1:=Yu hB;rw[Bg]at h1;have h2:=(Yi.mp hnm).1;omega
   have ml:BD.length=i:=by
    have h1:=Yu hM;rw[Bg]at h1;have h2:=(Yi.mp hnm).1;omega
   have il:i<8:=by
    have h2:=(Yi.mp hnm).1;omega
   refine⟨Z,Z,bo,Z,Sa.k (k:=Sum.inr nm.1) du (Bq (by omega)),?_⟩;have pI:Cc (Y8 C B (upd H6 bo (.dK (Ao A6 (Sum.inr nm.1) (.ref yb)))) k rows) (ns.take i++[nm]) (Ao A6 (Sum.inr nm.1) (.ref yb)):=
    Zl0 (eL.imp λn v h=>kK (qc h Vm) du) A7 (kK ⟨yb,Y,bd6⟩ du)
   have vi:Cc (Y6 (λb=>∃ o,H b=some o) (upd H6 bo (.dK (Ao A6 (Sum.inr nm.1) (.ref yb))))) (ns.take i) BD:=jg.imp λn v h=>kN (qP h Vm) du;have dC:AB H (upd H6 bo (.dK (Ao A6 (Sum.inr nm.1) (.ref yb)))):=λb o e=>by rw[AD (AK e hbo)];exact oG _ _ e
   have oz:(upd H6 bo (.dK (Ao A6 (Sum.inr nm.1) (.ref yb)))) bo=some (.dK (Ao A6 (Sum.inr nm.1) (.ref yb))):=uS;have a8:(upd H6 bo (.dK (Ao A6 (Sum.inr nm.1) (.ref yb)))) mo=some (.dK BD):=by rw[AD (Ae bm)];exact hm6
   generalize upd H6 bo (.dK (Ao A6 (Sum.inr nm.1) (.ref yb)))=H7 at pI vi dC oz a8;generalize Ao A6 (Sum.inr nm.1) (.ref yb)=aV at pI oz;have WB:=htp.mono dC;have iW:Cg H7 nm.2.2 ws:=hps.mono (A3 dC);refine⟨Z,bb,tp,ws,Y,WB,y9 b0 1 (ZM H7) (by omega) iW (λ_=>rfl) (λH' s'=>WB.mono s') λlm H8 hlm CG oq=>?_⟩;rw[rJ iW]at oq;have jV:=CG _ _ a8;refine⟨Z,Z,mo,Z,Sa.k (k:=Sum.inr nm.1) jV (Bq (by omega)),?_⟩;have lmo:lm≠mo:=λz=>by rw[z,a8]at hlm;cases hlm
   have pF:Cc (Y6 (λb=>∃ o,H b=some o) (upd H8 mo (.dK (Ao BD (Sum.inr nm.1) (.ref lm))))) (ns.take i++[nm]) (Ao BD (Sum.inr nm.1) (.ref lm)):=
    Zl0 (vi.imp λn v h=>kN (qP h CG) jV) A7 (kN ⟨lm,Y,oq,λ⟨_,z⟩=>by rw[dC.free hlm]at z;cases z⟩ jV)
   have vj:Cc (Y8 C B (upd H8 mo (.dK (Ao BD (Sum.inr nm.1) (.ref lm)))) k rows) (ns.take i++[nm]) aV:=pI.imp λn v h=>kK (qc h CG) jV;have oF:AB H (upd H8 mo (.dK (Ao BD (Sum.inr nm.1) (.ref lm)))):=λb o e=>by rw[AD (AK e hmoH)];exact CG _ _ (dC _ _ e)
   have jU:(upd H8 mo (.dK (Ao BD (Sum.inr nm.1) (.ref lm)))) mo=some (.dK (Ao BD (Sum.inr nm.1) (.ref lm))):=uS;have vc:(upd H8 mo (.dK (Ao BD (Sum.inr nm.1) (.ref lm)))) bo=some (.dK aV):=by rw[AD bm];exact CG _ _ oz
   have vV:(upd H8 mo (.dK (Ao BD (Sum.inr nm.1) (.ref lm)))) lm=some (.lst ((nm.2.2.map (·.2)).map V.str)):=by rw[AD lmo];exact oq
   have vP:BB (Ao BD (Sum.inr nm.1) (.ref lm)) (Sum.inr nm.1)=some (.ref lm):=by rw[Z0f,if_pos rfl]
   generalize upd H8 mo (.dK (Ao BD (Sum.inr nm.1) (.ref lm)))=H9 at pF vj oF jU vc vV;generalize Ao BD (Sum.inr nm.1) (.ref lm)=tN at pF jU vP;refine⟨Z,Z,Z,mo,Z,(by rw[<- vP];exact Bj.k (k:=Sum.inr nm.1) jU),k,lm,rows,nm.2.2.map (·.2),Y,kd.mono oF,g,vV,λx hx=>?_,?_⟩
   ·obtain⟨pr,hpr,e⟩:=Yg.mp hx;rw[<- e];exact gnm.made pr hpr
   refine⟨aV,tN,_,_,Z,oF,vc,jU,?_,?_⟩
   ·rw[Bt,hnm];exact vj
   ·rw[Bt,hnm];exact pF
  ·rintro σ H3 ⟨A6,BD,x,y,z,rfl,s3,XG,ZX,hB,hM⟩;rw[<- hvl,Bs]at hB hM;refine⟨bo,A6,XG,λo=>?_⟩;have s4:AB H (upd H3 bo (.frz o (.dK A6))):=λb u e=>by rw[AD (AK e hbo)];exact s3 _ _ e
   have eL:=hB.imp λn v h=>kK (o:=.frz o (.dK A6)) h XG;have jg:=hM.imp λn v h=>kN (o:=.frz o (.dK A6)) h XG;have dw:(upd H3 bo (.frz o (.dK A6))) bo=some (.frz o (.dK A6)):=uS;have jW:(upd H3 bo (.frz o (.dK A6))) mo=some (.dK BD):=by rw[AD (Ae bm)];exact ZX
   generalize upd H3 bo (.frz o (.dK A6))=H4 at s4 eL jg dw jW;have WV:=s4 _ _ hp;have pbo:bo≠p:=λz=>by rw[z,hp]at hbo;cases hbo
   have pmo:mo≠p:=λz=>by rw[z,hp]at hmoH;cases hmoH
   refine⟨Z,Z,p,D,dx,[],Y,WV,TD.cl,TD.nB,(by show 0<1000;decide),?_⟩;refine⟨Z,Z,p,D,dx,Z,uS,TD.cl,TD.nO,(by show 1<1000;decide),?_⟩;rw[YG];refine⟨Z,Z,p,D,dx,Z,uS,TD.cl,TD.nM,(by show 2<1000;decide),?_⟩;rw[YG];have keep:∀ b o,b≠p->H b=some o->(upd H4 p (.ins D dx (Si k bo mo))) b=some o:=λb o hb e=>by rw[AD hb];exact s4 _ _ e
   have kp:∀ b o,b≠p->H4 b=some o->(upd H4 p (.ins D dx (Si k bo mo))) b=some o:=λb o hb e=>by rw[AD hb];exact e
   have nkp:k≠p:=by
    intro z;obtain⟨dx',d,a,o,oa,kvs,AR,h1,_⟩:=kd.ex;rw[z,hp]at h1;injection h1 with h1;injection h1 with h1;exact hDC h1
   refine q _ ⟨dx,bo,mo,o,A6,BD,uS,lC kd hp keep nkp (λ_ _ z=>by cases z) (λ_ z=>by cases z),kp _ _ pbo dw,eL.imp λn v h=>?_,kp _ _ pmo jW,jg.imp λn v h=>?_⟩ keep
   ·obtain⟨y,e,bd⟩:=h;obtain⟨dxb,t,us,h1,h2,h3,h4⟩:=bd.ex;have yp:y≠p:=by
     intro z;rw[z,WV]at h1;injection h1 with h1;injection h1 with h1;exact hDB h1
    exact⟨y,e,dxb,t,us,kp _ _ yp h1,lC h2 WV kp nkp (λ_ _ z=>by cases z) (λ_ z=>by cases z),kp _ _ (λz=>by rw[z,WV]at h3;cases h3) h3,Paired.mapP h4 λd v ⟨t',e,x⟩=>⟨t',e,kp _ _ (λz=>by rw[z,WV]at x;cases x) x⟩⟩
   ·obtain⟨l',e,x,z⟩:=h;exact⟨l',e,kp _ _ (λz=>by rw[z,WV]at x;cases x) x,z⟩
def rE(k bo mo:Addr):(Si k bo mo).lookup ("kinds":Str)=none:=bj k bo mo (by rfl') (by rfl') (by rfl')
def zG(k bo mo:Addr):(Si k bo mo).lookup ("words":Str)=none:=bj k bo mo (by rfl') (by rfl') (by rfl')
def gM(k bo mo:Addr):(Si k bo mo).lookup ("board":Str)=none:=bj k bo mo (by rfl') (by rfl') (by rfl')
def zE(k bo mo:Addr):(Si k bo mo).lookup ("makes":Str)=none:=bj k bo mo (by rfl') (by rfl') (by rfl')
def zF(k bo mo:Addr):(Si k bo mo).lookup ("names":Str)=none:=bj k bo mo (by rfl') (by rfl') (by rfl')
def zD(k bo mo:Addr):(Si k bo mo).lookup ("check_name":Str)=none:=bj k bo mo (by rfl') (by rfl') (by rfl')
abbrev qX(K:Fg)(D f:Addr)(fd:FuncData):Prop:=Sb K D "check_name" "Book.check_name" mM ["self","word"] f fd
abbrev qW(K:Fg)(D f:Addr)(fd:FuncData):Prop:=Sb K D "board" "Book.board" lV ["self","word"] f fd
abbrev wW(K:Fg)(D f:Addr)(fd:FuncData):Prop:=Sb K D "makes" "Book.makes" lX ["self","word"] f fd
abbrev wY(K:Fg)(D f:Addr)(fd:FuncData):Prop:=Sb K D "words" "Book.words" lZ ["self"] f fd
abbrev qY(K:Fg)(D f:Addr)(fd:FuncData):Prop:=Sb K D "kinds" "Book.kinds" lW ["self"] f fd
structure Yfm(P:Program)(w:World)(K:Fg)(mg:Str->OU)(base:Heap)(x:Str)(C:Addr)(a:Str)(sp:Sp)(f:Addr)(fd:FuncData):Prop where
 m:mg x=some (.ref C)
 ex:ExC K C
 ini:W.findIn K (.ref C) "__init__"=some (some (.ref f))
 ty:W.typeIn K (.ref f)=some (.type "function")
 b:Cb K fd ["self",a] []
 go:⋯ 1 f fd ["self",a] sp
def qt(C B D:Addr):Sp:=λvs H Q _=>∃(p k:Addr) (rows:RS) (ns:List AI) (x:Str),vs=[.ref p,.str x]/\Sk C B D H p k rows ns/\x∈ns.map (·.1)/\Q .non H
def kY(C B D:Addr):Sp:=λvs H Q _=>∃(p k:Addr) (rows:RS) (ns:List AI),vs=[.ref p]/\Sk C B D H p k rows ns/\Q (.ref k) H
def qw(C B D:Addr):Sp:=λvs H Q _=>∃(p k:Addr) (rows:RS) (ns:List AI),vs=[.ref p]/\Sk C B D H p k rows ns/\∀ l,H l=none->Q (.ref l) (upd H l (.lst ((ns.map (·.1)).map V.str)))
def kU(C B D:Addr):Sp:=λvs H Q _=>∃(p k:Addr) (rows:RS) (ns:List AI) (n:AI),vs=[.ref p,.str n.1]/\Sk C B D H p k rows ns/\(ns.map (·.1)).Nodup/\n∈ns/\∀ y,T7 C B H y k rows n.2.1 (n.2.2.map (·.1))->Q (.ref y) H
def qu(C B D:Addr):Sp:=λvs H Q _=>∃(p k:Addr) (rows:RS) (ns:List AI) (n:AI),vs=[.ref p,.str n.1]/\Sk C B D H p k rows ns/\(ns.map (·.1)).Nodup/\n∈ns/\∀ l,H l=none->Q (.ref l) (upd H l (.lst ((n.2.2.map (·.2)).map V.str)))
theorem Zkg{R:AI->V->Prop}:∀ {ns:List AI}{kvs:KL},Cc R ns kvs->(kvs.map λp=>kV p.1)=(ns.map (·.1)).map V.str
 | _,_,.nil=>rfl
 | _,_,.cons r t=>by
  rw[Yz,Yz,Yz,r.1,Zkg t];rfl
def Z97:AX ["self","word"] ["self","word"] (AJ mM):=by nofun
def zK(F:Bu K "check_name" "Book.check_name" mM f fd)(TD:U8 K D):⋯ 1 f fd ["self","word"] (qt C B D):=by
 nomatch F.ok Z97
 ·obtain⟨p,k,rows,ns,x,rfl,_⟩:=h;rfl
 ·obtain⟨p,k,rows,ns,x,rfl,bk,hx,q⟩:=h;obtain⟨dx,bo,mo,o,A6,BD,h1,h2,h3,h4,h5,h6⟩:=bk.ex;have hu:=Tz hr
  ac_nf
  refine⟨_,(AG (AY (XQ (rK hu (pv 1) (VA (pv 0) rfl))) CK Aa)),?_⟩;refine⟨Z,Z,p,D,dx,_,Z,h1,TD.cl,TD.nO,j6 _ _ _,bo,Z,Bj.f (k:=Sum.inr x) h3,Z,?_⟩;rw[h4.some hx];exact AS q
def Yd9:AX ["self"] ["self"] (AJ lW):=by nofun
def rG(F:Bu K "kinds" "Book.kinds" lW f fd)(TD:U8 K D):⋯ 1 f fd ["self"] (kY C B D):=by
 nomatch F.ok Yd9
 ·obtain⟨p,k,rows,ns,rfl,_⟩:=h;rfl
 ·obtain⟨p,k,rows,ns,rfl,bk,q⟩:=h;obtain⟨dx,bo,mo,o,A6,BD,h1,h2,h3,h4,h5,h6⟩:=bk.ex;exact⟨_,AG (AO (VA (pv 0) rfl)),Z,p,D,dx,_,Z,h1,TD.cl,TD.nB,Z5i _ _ _,q⟩
def Yd6:AX ["self"] ["self"] (AJ lZ):=by nofun
def Zxu(F:Bu K "words" "Book.words" lZ f fd)(TD:U8 K D)(list:mg "list"=none):⋯ 1 f fd ["self"] (qw C B D):=by
 nomatch F.ok Yd6
 ·obtain⟨p,k,rows,ns,rfl,_⟩:=h;rfl
 ·obtain⟨p,k,rows,ns,rfl,bk,q⟩:=h;obtain⟨dx,bo,mo,o,A6,BD,h1,h2,h3,h4,h5,h6⟩:=bk.ex;refine⟨_,AG (AO (Co (Zij rfl) (by rfl) list W2 (pC (VA (pv 0) rfl) AA))),Z,p,D,dx,_,Z,h1,TD.cl,TD.nO,j6 _ _ _,bo,A6,Y,.inr ⟨o,h3⟩,λl hl=>?_⟩;rw[Zkg h4];exact q l hl
def Yea:AX ["self","word"] ["self","word"] (AJ lV):=by nofun
def zJ(F:Bu K "board" "Book.board" lV f fd)(TD:U8 K D)(MC:qX K D fC fdC):⋯ 2 f fd ["self","word"] (kU C B D):=by
 have GC:⋯ 1 fC fdC ["self","word"] (qt C B D):=zK MC.fn TD
 nomatch F.ok Yea
 ·obtain⟨p,k,rows,ns,n,rfl,_⟩:=h;rfl
 ·obtain⟨p,k,rows,ns,n,rfl,bk,nd,hn,q⟩:=h;obtain⟨dx,bo,mo,o,A6,BD,h1,h2,h3,h4,h5,h6⟩:=bk.ex;have hu:=Tz hr;obtain⟨v,hv,y,rfl,by_⟩:=h4.val nd hn
  ac_nf
  refine⟨_,(pS (Bc (T9 (pv 0) TD.cl MC.me GC hr MC.b .nil BA (pC (pv 1) AA)))
   (AG (AO (Wr hu (VA (pv 0) rfl) (pv 1) (λ_ _=>rfl))))),?_⟩
  exists AF _ a _ _ _
  refine⟨Z,p,dx,Z,h1,zD _ _ _,Z,p,k,rows,ns,n.1,Y,bk,Yg.mpr ⟨n,hn,Y⟩,?_⟩;exact⟨Z,p,D,dx,_,Z,h1,TD.cl,TD.nO,j6 _ _ _,Z,bo,Z,(by rw[<- hv];exact Bj.f (k:=Sum.inr n.1) h3),q y by_⟩
def Yd8:AX ["self","word"] ["self","word"] (AJ lX):=by nofun
def zL(F:Bu K "makes" "Book.makes" lX f fd)(TD:U8 K D)(MC:qX K D fC fdC)(list:mg "list"=none):⋯ 2 f fd ["self","word"] (qu C B D):=by
 have GC:⋯ 1 fC fdC ["self","word"] (qt C B D):=zK MC.fn TD
 nomatch F.ok Yd8
 ·obtain⟨p,k,rows,ns,n,rfl,_⟩:=h;rfl
 ·obtain⟨p,k,rows,ns,n,rfl,bk,nd,hn,q⟩:=h;obtain⟨dx,bo,mo,o,A6,BD,h1,h2,h3,h4,h5,h6⟩:=bk.ex;have hu:=Tz hr;obtain⟨v,hv,l,rfl,hl,_⟩:=h6.val nd hn
  ac_nf
  refine⟨_,(pS (Bc (T9 (pv 0) TD.cl MC.me GC hr MC.b .nil BA (pC (pv 1) AA)))
   (AG (AO (Co cB (by rfl) list W2 (pC (Wr hu (VA (pv 0) rfl) (pv 1) (λ_ _=>rfl)) AA))))),?_⟩
  exists AF _ a _ _ _
  refine⟨Z,p,dx,Z,h1,zD _ _ _,Z,p,k,rows,ns,n.1,Y,bk,Yg.mpr ⟨n,hn,Y⟩,?_⟩;exact⟨Z,p,D,dx,_,Z,h1,TD.cl,TD.nM,w_ _ _ _,Z,mo,Z,(by rw[<- hv];exact Bj.k (k:=Sum.inr n.1) h5),l,Z,.inl (SqL.of hl),λl' LC=>q l' LC⟩
abbrev Z7c(K:Fg):LV->Hp->VK->Prop:=λxs H Q=>∃ p ys,xs=[.ref p]/\((SqL K H p ys/\∀ l,H l=none->Q (.ref l) (upd H l (.tup ys)))\/(AH K H p ys/\Q (.ref p) H))
theorem qB{α β:Type}{F:α->β->Prop}:∀ {l l':List α}{m m':List β},Paired F l m->Paired F l' m'->Paired F (l++l') (m++m')
 | _,_,_,_,.nil,h=>h
 | _,_,_,_,.cons r t,h=>.cons r (qB t h)
def Zvd{p:Addr}{H H':Hp}(d:Drawn p H H'){b:Addr}(h:H' b=none):H b=none:=by
 cases z:H b with
 | none=>rfl
 | some u =>
  by_cases e:b=p
  ·obtain⟨op,hpp,_⟩:=d.pot;rw[e,hpp]at h;cases h
  ·rw[d.keep _ _ e z]at h;cases h
def X5(H:Hp)(n:AI)(v:V):Prop:=∃(t tp:Addr) (vs:LV),v=V.ref t/\H t=some (.tup [.str n.1,.int n.2.1,.ref tp])/\H tp=some (.tup vs)/\Cg H n.2.2 vs
theorem X5.mono{H H':Hp}{n:AI}{v:V}(h:X5 H n v)(k:∀ b xs,H b=some (.tup xs)->H' b=some (.tup xs)):X5 H' n v:=by
 obtain⟨t,tp,vs,e,h1,h2,h3⟩:=h;exact⟨t,tp,vs,e,k _ _ h1,k _ _ h2,h3.mono k⟩
def X5.v{K:Fg}{H:Hp}{n:AI}{v:V}(h:X5 H n v):eX K H n v:=by
 obtain⟨t,tp,vs,e,h1,h2,h3⟩:=h;exact⟨t,tp,false,vs,e,h1,AH.of h2,h3⟩
def T4(H:Hp)(ns:List AI)(vs:LV):Prop:=Paired (X5 H) ns vs
theorem T4.mono{H H':Hp}{ns:List AI}{vs:LV}(h:T4 H ns vs)(k:∀ b xs,H b=some (.tup xs)->H' b=some (.tup xs)):T4 H' ns vs:=Paired.mapP h λ_ _ z=>z.mono k
abbrev wX(K:Fg)(D f:Addr)(fd:FuncData):Prop:=Sb K D "names" "Book.names" lY ["self"] f fd
def qv(C B D:Addr):Sp:=λvs H Q _=>∃(p k:Addr) (rows:RS) (ns:List AI),vs=[.ref p]/\Sk C B D H p k rows ns/\Cf rows ns/\∀(l:Addr) (us:LV) (H':Hp),H l=none->AB H H'->H' l=some (.lst us)->T4 H' ns us->Q (.ref l) H'
theorem yO{H:Hp}:∀ {ps:List (LS×Str)}{us ws:LV},Cd H (ps.map (·.1)) us->Paired (λ(p:V×V) v=>∃ q:Addr,v=.ref q/\H q=some (.tup [p.1,p.2])) (us.zip ((ps.map (·.2)).map V.str)) ws->Cg H ps ws
 | [],_,_,.nil,.nil=>.nil
 | p :: ps,_,_,.cons ⟨t,e,h⟩ r,.cons ⟨q,e2,h2⟩ r2=>by
  subst e;exact .cons ⟨q,t,e2,h2,h⟩ (yO r r2)
abbrev nKN:LS:=["self","triples","word","board","deeds"]
def Ycw:AX nKN ["self"] (AJ lY):=by nofun
def Zxv(F:Bu K "names" "Book.names" lY f fd)(TD:U8 K D)(TB:Wi K B)(MP:kI K B fP fdP)(MD:jz K B fD fdD)(list:mg "list"=none)(tuple:mg "tuple"=none)(zip:mg "zip"=none):⋯ 2 f fd ["self"] (qv C B D):=by
 have GP:⋯ 1 fP fdP ["self"] (gT C B):=lG MP.fn TB;have GD:⋯ 1 fD fdD ["self"] (gG C B):=kb MD.fn TB list
 nomatch F.ok Ycw
 ·obtain⟨p,k,rows,ns,rfl,_⟩:=h;rfl
 ·obtain⟨p,k,rows,ns,rfl,bk,gn,q⟩:=h;have nd:=Ycw.nd;have hu:=Tz hr;obtain⟨dx,bo,mo,o,A6,BD,h1,h2,h3,h4,h5,h6⟩:=bk.ex
  ac_nf
  refine'⟨_,(pS (sE 1 nd (BX AA))
   (pS (BM Yw rfl (Z0v (VA (pv 0) rfl)) (LJ rfl (gC (gE 2 nd) (gC (gE 3 nd) LL)))
    (pS (sE 4 nd (Zrd rfl (by rfl) tuple (by rfl) zip (pC (DJ (pv 3) TB.cl MD.me GD hr MD.b .nil BA) (pC (Wr hu (VA (pv 0) rfl) (pv 2) (λ_ _=>rfl)) AA))))
   (AG (Bc (Be Cs Dy Dx Di (pv 1) (pC (Bf (pC (pv 2) (pC (DJ (pv 3) TB.cl MP.me GP hr MP.b .nil BA) (pC (pv 4) AA)))) AA))))))
   (AG (AO (pv 1))))),?_⟩
  exists let b:=_;let c:=AF _ b;let e:=AF (BS _ _ c) a;AF _ e _ _ _
  refine⟨Ax _,λl hl=>?_⟩;have s1:AB H (upd H l (.lst [])):=AM hl;let Sn:NW:=λi σ H'=>∃(us:LV) (x y z:OV),σ=[some (.ref p),some (.ref l),x,y,z]/\AB H H'/\H' l=some (.lst us)/\T4 H' (ns.take i) us;refine⟨Z,p,D,dx,_,Z,s1 _ _ h1,TD.cl,TD.nO,j6 _ _ _,bo,o,A6,Y,s1 _ _ h3,Zy2 Sn
   ⟨[],none,none,none,Y,s1,uS,by rw[Dz];exact .nil⟩ (λi σ H' _ h0=>by obtain⟨_,_,_,_,_,s,_⟩:=h0;exact s _ _ h3) ?_ ?_⟩
  ·rintro i pr t σ H2 hi ⟨us,x,y,z,rfl,s2,Ap,ZZ⟩ ht;obtain⟨n,hn,e1,yb,e2,bd⟩:=Bp h4 hi;have Ak:n∈ns:=Yd hn;have Bi:=gn.each n Ak;have A9:AB H2 (upd H2 t (.tup [kV pr.1,pr.2])):=AM ht;have WT:(upd H2 t (.tup [kV pr.1,pr.2])) t=some (.tup [.str n.1,.ref yb]):=by rw[uS,e1,e2];rfl
   generalize upd H2 t (.tup [kV pr.1,pr.2])=H3 at A9 WT;have s3:=s2.trans A9;refine⟨t,Z,AH.of WT,Y,_,Z,_,Z,Y,?_⟩;have wG:=bd.mono s3;obtain⟨dxb,tb,usb,Tu,_⟩:=wG.ex;obtain⟨mv,hmv,lm,rfl,hlm,_⟩:=h6.val gn.nd Ak;refine⟨Z,yb,dxb,Z,Tu,ka _ _ _,yb,k,rows,n.2.1,Z,wG,λld jI Bx Wa=>?_⟩;have Ai:AB H3 (upd H3 ld (.lst jI)):=AM Bx;have ip:(upd H3 ld (.lst jI)) ld=some (.lst jI):=uS;have iw:=Wa.mono Ai;generalize upd H3 ld (.lst jI)=H4 at Ai ip iw;have s4:=s3.trans Ai;refine⟨Z,p,D,dx,_,Z,s4 _ _ h1,TD.cl,TD.nM,w_ _ _ _,Z,mo,Z,(by rw[<- hmv];exact Bj.k (k:=Sum.inr n.1) (s4 _ _ h5)),ld,lm,_,Z,SqL.of ip,SqL.of (s4 _ _ hlm),λtz ws H5 htz As tP hz5=>?_⟩;have s5:=s4.trans As;have hP5:Cg H5 n.2.2 ws:=yO (iw.mono As) hz5;have eV:=bd.mono s5;obtain⟨uR,tb5,usb5,bA,_⟩:=eV.ex;have SX:=As _ _ (Ai _ _ (A9 _ _ Ap));refine⟨Z,.inl ⟨Y,_,SqL.of SX⟩,Z,Z,yb,uR,Z,bA,lF _ _ _,yb,k,rows,n.2.1,Z,eV,Z,sL (by show 3<=100000;decide),λt6 ZU=>?_⟩;have BP:AB H5 (upd H5 t6 (.tup [.str n.1,.int n.2.1,.ref tz])):=AM ZU;have iT:(upd H5 t6 (.tup [.str n.1,.int n.2.1,.ref tz])) t6=some (.tup [.str n.1,.int n.2.1,.ref tz]):=uS;generalize upd H5 t6 (.tup [.str n.1,.int n.2.1,.ref tz])=H6 at BP iT;have VQ:=BP _ _ SX;have ul:us.length<=8:=by
    have a:=Yu ZZ;rw[Bg]at a;have b:=gn.few;omega
   have XB:=(A9.trans Ai).trans (As.trans BP);have tk:∀ b zs,H6 b=some (.tup zs)->(upd H6 l (.lst (us++[V.ref t6]))) b=some (.tup zs):=λb zs e=>by
    rw[AD (λz=>by rw[z,VQ]at e;cases e)];exact e
   refine⟨l,_,Z,Y,VQ,Bq (by omega),us++[.ref t6],_,_,Z,λb u e=>?_,uS,?_⟩
   ·rw[AD (AK e hl)];exact BP _ _ (s5 _ _ e)
   ·rw[Bt,hn];exact LM ((ZZ.mono (A3 XB)).mono tk) ⟨t6,tz,ws,Y,tk _ _ iT,tk _ _ (BP _ _ tP),(hP5.mono (A3 BP)).mono tk⟩
  ·rintro σ H2 ⟨us,x,y,z,rfl,s2,Ap,ZZ⟩;have bl:A6.length=ns.length:=(Yu h4).symm;rw[bl,Bs]at ZZ;exact⟨Z,q l us H2 hl s2 Ap ZZ⟩
structure VU(H:Hp)(a:Addr)(ws:LS):Prop where
 at_:H a=some (.lst (ws.map V.str))
 few:ws.length<=1000
 sh:∀ x∈ws,x.length<=1000
def VU.mono{H H':Hp}{a:Addr}{ws:LS}(h:VU H a ws)(s:AB H H'):VU H' a ws:=⟨s _ _ h.at_,h.few,h.sh⟩
def Z49:V->Bool
 | .str x=>AW x
 | _=>false
def XW:LS->Bool
 | w :: r=>decide (w="kind")&&(r.all AW&&(decide (r.length=1) || (decide (2<r.length)&&decide (r.getD 1 ""="under"))))
 | []=>false
def gX(w:Str)(r:LS):XW (w :: r)=(decide (w="kind")&&(r.all AW&&(decide (r.length=1) || (decide (2<r.length)&&decide (r.getD 1 ""="under"))))):=rfl
def VX:LS:=["1","2","3","4"]
def YH:LS->Bool
 | [a,b,c]=>decide (a="name")&&(AW b&&decide (c∈VX))
 | _=>false
def YN(ws:LS):Bool:=decide (ws.getD 0 ""="deed")&&(decide (5<=ws.length)&&(decide (ws.getD (ws.length - 2) ""="gives")&&(ws.drop 1).all AW))
def rn:Sp:=λvs H Q _=>∃(a:Addr) (ws:LS),vs=[.ref a]/\VU H a ws/\∀ H',AB H H'->Q (.bl (ws.all AW)) H'
def Ycb:Sp:=λvs H Q _=>∃(a:Addr) (ws:LS),vs=[.ref a]/\VU H a ws/\ws≠[]/\∀ H',AB H H'->Q (.bl (XW ws)) H'
def Yb9:Sp:=λvs H Q _=>∃(a:Addr) (ws:LS),vs=[.ref a]/\VU H a ws/\ws≠[]/\∀ H',AB H H'->Q (.bl (YH ws)) H'
def Yce:Sp:=λvs H Q _=>∃(a:Addr) (ws:LS),vs=[.ref a]/\VU H a ws/\ws≠[]/\∀ H',AB H H'->Q (.bl (YN ws)) H'
def Wj{ws:LS}{k:Nat}{x:Str}(h:ws[k]?=some x):BZ (ws.map V.str) (k:Int)=some (.str x):=Bb (by rw[Yj,h];rfl)
def Z3u{ws:LS}{k:Nat}{x:Str}(h1:1<=k)(h2:k<=ws.length)(h:ws[ws.length - k]?=some x):BZ (ws.map V.str) (-(k:Int))=some (.str x):=by
 have e:Vo (ws.map V.str).length (-(k:Int))=some (ws.length - k):=by
  unfold Vo;rw[Ya,if_neg (by omega),if_pos (by omega)]
  congr 1
  omega
 unfold BZ;rw[e];show(ws.map V.str)[ws.length - k]?=_;rw[Yj,h];rfl
def Z5s(ws:LS)(j k:Nat)(h:j + k<=ws.length)(hk:1<=k):B7 (ws.map V.str) (some (j:Int)) (some (-(k:Int)))=((ws.drop j).take (ws.length - (j + k))).map V.str:=by
 unfold B7;rw[HT.sIx_nat,<- List.map_drop,<- List.map_take,Ya];have e:HT.sIx ws.length ws.length (some (-(k:Int)))=ws.length - k:=by
  show(if -(k:Int)<0 then(-(k:Int) + (ws.length:Int)).toNat else min (-(k:Int)).toNat ws.length)=_;rw[if_pos (by omega)];omega
 rw[e,h_ (by omega),show ws.length - k - j=ws.length - (j + k) by omega]
def qi(ws:LS)(k:Nat):B7 (ws.map V.str) (some (k:Int)) none=(ws.drop k).map V.str:=by
 unfold B7;rw[HT.sIx_nat,HT.sIx_none,<- List.map_drop,<- List.map_take,Ya]
 congr 1
 by_cases h:k<=ws.length
 ·rw[h_ h,W3 (by rw[W5];exact Yf _)]
 ·rw[Nat.min_eq_right (by omega),List.drop_of_length_le (Yf _),List.drop_of_length_le (by omega),List.take_nil]
def Yax:(["text"]:LS).Nodup:=by rfl'
def Yab:AX ["texts"] ["texts"] (AJ cH):=by nofun
def Zrj(F:Def K mg "are_words" cH ["texts"] f fd)(all:mg "all"=none)(DW:Def K mg "is_word" Ww ["text"] fW fdW)(GW:⋯ 1 fW fdW ["text"] bx):⋯ 2 f fd ["texts"] rn:=by
 nomatch F.fn.ok Yab
 ·obtain⟨a,ws,rfl,_⟩:=h;rfl
 ·obtain⟨a,ws,rfl,hw,q⟩:=h
  ac_nf
  refine'⟨_,AG (AO (Aq (bg rfl) (by rfl) all cf (pC ?eC AA))),?_⟩
  case eC=>exact(Bm ["text"] [] [] (λ_=>BH (osc:=AJ cH) (on:=["texts"]) (by rfl') rfl rfl rfl) (CD (pv 0)) (λC s H fp=>BN (i:=0) Yax rfl (Or.inl rfl) (Or.inr rfl)) (λC s H fp=>Bn) (λC s H fp=>AL DW GW hr (pC (pv 0) AA)))
  refine⟨Z,a,Y,⟨_,SqL.of hw.at_⟩,Zo (CU (xs:=ws.map V.str)) (sL (by rw[Ya];have:=hw.few;omega)) (λ_=>true) (λ_ x v _=>v=.bl (Z49 x)) (λ_ _ _ _ _ _ z=>z) (λH' s'=>SqL.of (s' _ _ hw.at_)) (λx H' R s' hx hR=>hR H' (AB.refl _)) ?_ ?_⟩
  ·intro D x H' R s' _ _ hx _ hR;obtain⟨y,hy,rfl⟩:=Yg.mp hx;exact⟨Z,y,Y,hw.sh y hy,λH2 s2=>hR _ H2 s2 rfl⟩
  ·intro D H' ys hD s' hl hP;rw[VH.mpr (λ_ _=>rfl)]at hP;have e:=b8 hP;rw[B9]at e;refine⟨D,ws.map AW,Y,SqL.of (by rw[hl,e,B9];rfl),?_⟩;have e2:(ws.map AW).all id=ws.all AW:=by rw[List.all_map];rfl
   show Q (.bl ((ws.map AW).all id)) H';rw[e2];exact q H' s'
def Z99:AX ["words"] ["words"] (AJ mG):=by nofun
def Zuq(F:Def K mg "is_kind_row" mG ["words"] f fd)(len:mg "len"=none)(DA:Def K mg "are_words" cH ["texts"] fA fdA)(GA:⋯ 2 fA fdA ["texts"] rn):⋯ 3 f fd ["words"] Ycb:=by
 nomatch F.fn.ok Z99
 ·obtain⟨a,ws,rfl,_⟩:=h;rfl
 ·obtain⟨a,ws,rfl,hw,hn,q⟩:=h
  ac_nf
  refine'⟨_,(pS (AY (PW.pt (C2 (Ag U6 (AV (r:=Bl K) A2 (pv 0) AE (λ_ _=>rfl)) Ar (Ab _)) (T6 (CO (Bo (AL DA GA hr (pC (Dg (r:=cT K) bc (pv 0) (Ce AE) T_) AA))))))) (AG (AO Cj)) Aa)
   (AG (AO (Z7l (LK BV (Aq Cn (by rfl) len BI (pC (pv 0) AA)) AE (Ab _)) (Vd (Vc (LK Wl (Aq Cn (by rfl) len BI (pC (pv 0) AA)) AE (Ab _)) (Vd (LK BV (AV (r:=Bl K) A2 (pv 0) AE (λ_ _=>rfl)) Ar (Ab _))))))))),?_⟩
  exists AF _ a _ _ _
  rcases ws with _ | ⟨x,r⟩
  ·exact absurd rfl hn
  have a0:BZ ((x :: r).map V.str) 0=some (.str x):=Wj (ws:=x :: r) (k:=0) rfl;refine⟨Z,a,_,_,Z,Y,SqL.of hw.at_,a0,Y,Z,?_⟩;by_cases h1:x="kind"
  ·rw[show(!decide (V.str x=V.str "kind"))=false by rw[h1,Jb rfl];rfl];refine AS ⟨Z,Z,a,Z,SqL.of hw.at_,λp hp=>?_⟩;have s1:AB H (upd H p (.lst (B7 ((x :: r).map V.str) (some 1) none))):=AM hp;have h2:(upd H p (.lst (B7 ((x :: r).map V.str) (some 1) none))) p=some (.lst (r.map V.str)):=by rw[uS];exact congrArg (λz=>some (HO.lst z)) (qi (x :: r) 1)
   generalize upd H p (.lst (B7 ((x :: r).map V.str) (some 1) none))=H1 at s1 h2 ⊢;refine⟨p,r,Y,⟨h2,by have:=hw.few;rw[Yt]at this;omega,λy hy=>hw.sh y (Yr _ hy)⟩,λH2 s2=>⟨Z,?_⟩⟩;have Cv:=s1.trans s2;have q:=q H2 Cv;rw[gX]at q;rw[Jb h1,DQ]at q;cases ha:r.all AW with
   | false =>
    rw[ha]at q;exact Av q
   | true =>
    rw[ha,DQ]at q;have Ap:=SqL.of (K:=K) (Cv _ _ hw.at_);have A8:((x :: r).map V.str).length=r.length + 1:=by rw[Ya,Yt]
    refine AS ⟨Z,a,Z,.inl Ap,Y,Z,?_⟩;rw[A8];by_cases e2:r.length=1
    ·rw[Jb e2,Bool.true_or]at q;rw[Jb (show V.int ((r.length + 1:Nat):Int)=V.int 2 by rw[e2];rfl)];exact Av q
    ·rw[Jc e2,Bool.false_or]at q;rw[Jc (λz=>e2 (by have:=V.int.inj z;omega))];refine AS ⟨Z,a,Z,.inl Ap,_,Z,Y,Z,?_⟩;rw[A8];by_cases e3:2<r.length
     ·rw[Jb e3,DQ]at q;rw[Jb (show(3:Int)<((r.length + 1:Nat):Int) by omega)];obtain⟨y,hy⟩:∃ y,r[1]?=some y:=⟨r[1],Yb (by omega)⟩;rw[Yl,hy]at q;refine Av ⟨Z,a,_,_,Z,Y,Ap,Wj (ws:=x :: r) (k:=2) (by rw[cX];exact hy),Y,?_⟩;rw[show decide (V.str y=V.str "under")=decide (y="under")from Vj.mpr ⟨λz=>V.str.inj z,λz=>by rw[z]⟩];exact q
     ·rw[Jc e3,V5]at q;rw[Jc (show ¬ (3:Int)<((r.length + 1:Nat):Int) by omega)];exact AS q
  ·rw[show(!decide (V.str x=V.str "kind"))=true by rw[Jc (λz=>h1 (V.str.inj z))];rfl];have q:=q H (AB.refl _);rw[gX]at q;rw[Jc h1,V5]at q;exact Av q
def Ydp(K:Fg)(mg:Str->OU):Prop:=∃ a,mg "FIGURES"=some (.ref a)/\∀ H,AH K H a (VX.map V.str)
def Z98:AX ["words"] ["words"] (AJ mH):=by nofun
def Z5b(c:Str):Ug (.str c) (VX.map V.str)=decide (c∈VX):=YD c VX
def Zrm{ws:LS}(h:ws.length≠3):YH ws=false:=by
 rcases ws with _ | ⟨a,_ | ⟨b,_ | ⟨c,_ | ⟨d,r⟩⟩⟩⟩
 ·rfl
 ·rfl
 ·rfl
 ·exact absurd rfl h
 ·rfl
def Zun(F:Def K mg "is_name_row" mH ["words"] f fd)(len:mg "len"=none)(FG:Ydp K mg)(DW:Def K mg "is_word" Ww ["text"] fW fdW)(GW:⋯ 1 fW fdW ["text"] bx):⋯ 2 f fd ["words"] Yb9:=by
 nomatch F.fn.ok Z98
 ·obtain⟨a,ws,rfl,_⟩:=h;rfl
 ·obtain⟨a,ws,rfl,hw,hn,q⟩:=h;obtain⟨fg,mgF,hF⟩:=FG
  ac_nf
  refine'⟨_,(AG (AO (Vc (LK BV (Aq Cn (by rfl) len BI (pC (pv 0) AA)) AE (Ab _)) (Vc (LK BV (AV (r:=Bl K) A2 (pv 0) AE (λ_ _=>rfl)) Ar (Ab _)) (Vc (AL DW GW hr (pC (AV (r:=Bl K) A2 (pv 0) AE (λ_ _=>rfl)) AA)) (Vd (LK (r:=dG K false) gO (AV (r:=Bl K) A2 (pv 0) AE (λ_ _=>rfl)) (VB (v:=.ref fg) (by rfl) mgF rfl) (by with_unfolding_all rfl)))))))),?_⟩;have hl:=SqL.of (K:=K) hw.at_;refine⟨Z,a,Z,.inl hl,Y,Z,?_⟩;rw[Ya];by_cases e:ws.length=3
  ·obtain⟨x,y,z,rfl⟩:∃ x y z,ws=[x,y,z]:=by
    rcases ws with _ | ⟨x,_ | ⟨y,_ | ⟨z,_ | ⟨d,r⟩⟩⟩⟩
    ·cases e
    ·cases e
    ·cases e
    ·exact⟨x,y,z,Y⟩
    ·simp at e
   have q1:∀ H',AB H H'->Q (.bl (decide (x="name")&&(AW y&&decide (z∈VX)))) H':=q;rw[Jb (show V.int (([x,y,z]:LS).length:Int)=V.int 3 from rfl)];refine Av ⟨Z,a,_,_,Z,Y,hl,Wj (ws:=[x,y,z]) (k:=0) rfl,Y,Z,?_⟩;rw[show decide (V.str x=V.str "name")=decide (x="name")from Vj.mpr ⟨λz=>V.str.inj z,λz=>by rw[z]⟩];by_cases h1:x="name"
   ·rw[Jb h1]at q1 ⊢;rw[DQ]at q1;refine Av ⟨Z,a,_,_,Z,Y,hl,Wj (ws:=[x,y,z]) (k:=1) rfl,y,Y,hw.sh y (by simp),λH1 s1=>⟨Z,?_⟩⟩;have q1:=q1 H1 s1;cases hy:AW y with
    | false =>
     rw[hy]at q1;exact AS q1
    | true =>
     rw[hy,DQ,<- Z5b]at q1;exact Av ⟨Z,a,_,_,Z,Y,SqL.of (s1 _ _ hw.at_),Wj (ws:=[x,y,z]) (k:=2) rfl,fg,Z,.inr (hF H1),Y,by rfl',q1⟩
   ·rw[Jc h1]at q1 ⊢;exact AS (q1 H (AB.refl _))
  ·have q:=q H (AB.refl _);rw[Zrm e]at q;rw[Jc (λz=>e (by have:=V.int.inj z;omega))];exact AS q
def Yaa:AX ["words"] ["words"] (AJ mF):=by nofun
def Zuu(F:Def K mg "is_deed_row" mF ["words"] f fd)(len:mg "len"=none)(DA:Def K mg "are_words" cH ["texts"] fA fdA)(GA:⋯ 2 fA fdA ["texts"] rn):⋯ 3 f fd ["words"] Yce:=by
 nomatch F.fn.ok Yaa
 ·obtain⟨a,ws,rfl,_⟩:=h;rfl
 ·obtain⟨a,ws,rfl,hw,hn,q⟩:=h
  ac_nf
  refine'⟨_,(pS (AY (PW.pt (C2 (Ag U6 (AV (r:=Bl K) A2 (pv 0) AE (λ_ _=>rfl)) Ar (Ab _)) (T6 (Ag bP (Aq Cn (by rfl) len BI (pC (pv 0) AA)) AE (Ab _))))) (AG (AO Cj)) Aa)
   (AG (AO (Vc (LK BV (AV (r:=Bl K) A2 (pv 0) (eZ fc AE) (λ_ _=>rfl)) Ar (Ab _)) (Vd (AL DA GA hr (pC (Dg (r:=cT K) bc (pv 0) (Ce AE) T_) AA))))))),?_⟩
  exists AF _ a _ _ _
  have hl:=SqL.of (K:=K) hw.at_;obtain⟨x,hx⟩:∃ x,ws[0]?=some x:=⟨ws[0]'(Wz.mpr hn),Yb _⟩;unfold YN at q;rw[Yl,hx,Y5]at q;refine⟨Z,a,_,_,Z,Y,hl,Wj (k:=0) hx,Y,Z,?_⟩;by_cases h1:x="deed"
  ·rw[show(!decide (V.str x=V.str "deed"))=false by rw[h1,Jb rfl];rfl];rw[Jb h1,DQ]at q;refine AS ⟨Z,a,Z,.inl hl,_,Z,Y,Z,?_⟩;rw[Ya];by_cases h5:5<=ws.length
   ·rw[Jb h5,DQ]at q;rw[Jc (show ¬ ((ws.length:Nat):Int)<5 by omega)];obtain⟨y,hy⟩:∃ y,ws[ws.length - 2]?=some y:=⟨ws[ws.length - 2]'(by omega),Yb _⟩;rw[Yl,hy,Y5]at q;refine AS ⟨Z,Z,a,_,_,Z,Y,hl,Z3u (k:=2) (by decide) (by omega) hy,Y,Z,?_⟩;rw[show decide (V.str y=V.str "gives")=decide (y="gives")from Vj.mpr ⟨λz=>V.str.inj z,λz=>by rw[z]⟩];by_cases h2:y="gives"
    ·rw[Jb h2]at q ⊢;rw[DQ]at q;refine Av ⟨Z,Z,a,Z,hl,λp hp=>?_⟩;have s1:AB H (upd H p (.lst (B7 (ws.map V.str) (some 1) none))):=AM hp;have h3:(upd H p (.lst (B7 (ws.map V.str) (some 1) none))) p=some (.lst ((ws.drop 1).map V.str)):=by rw[uS];exact congrArg (λz=>some (HO.lst z)) (qi ws 1)
     generalize upd H p (.lst (B7 (ws.map V.str) (some 1) none))=H1 at s1 h3 ⊢;exact⟨p,ws.drop 1,Y,⟨h3,by rw[W5];have:=hw.few;omega,λy hy=>hw.sh y (List.mem_of_mem_drop hy)⟩,λH2 s2=>q H2 (s1.trans s2)⟩
    ·rw[Jc h2]at q ⊢;exact AS (q H (AB.refl _))
   ·rw[Jc h5,V5]at q;rw[Jb (show((ws.length:Nat):Int)<5 by omega)];exact Av (q H (AB.refl _))
  ·rw[show(!decide (V.str x=V.str "deed"))=true by rw[Jc (λz=>h1 (V.str.inj z))];rfl];rw[Jc h1,V5]at q;exact Av (q H (AB.refl _))
def Ycc:Sp:=λvs H Q _=>∃(a:Addr) (ws:LS) (x:Str),vs=[.ref a]/\VU H a ws/\ws[1]?=some x/\∀ t u H',AB H H'->H' t=some (.tup [.str x,.ref u])->H' u=some (.lst ((ws.drop 3).map V.str))->H u=none->Q (.ref t) H'
def Yca:Sp:=λvs H Q _=>∃(a:Addr) (ws:LS) (x c:Str) (n:Int),vs=[.ref a]/\VU H a ws/\ws[1]?=some x/\ws[2]?=some c/\PySem.intText? c=some n/\c.length<=640/\∀ t H',AB H H'->H' t=some (.tup [.str x,.int n])->Q (.ref t) H'
def Ycf:Sp:=λvs H Q _=>∃(a:Addr) (ws:LS) (m:Str),vs=[.ref a]/\VU H a ws/\4<=ws.length/\ws[ws.length - 1]?=some m/\∀ t c H',AB H H'->H' t=some (.tup [.ref c,.str m])->H' c=some (.tup (((ws.drop 2).take (ws.length - 4)).map V.str))->Q (.ref t) H'
def Yd7:AX ["words"] ["words"] (AJ kq):=by nofun
def Zxw(F:Def K mg "kind_of" kq ["words"] f fd):⋯ 1 f fd ["words"] Ycc:=by
 nomatch F.fn.ok Yd7
 ·obtain⟨a,ws,x,rfl,_⟩:=h;rfl
 ·obtain⟨a,ws,x,rfl,hw,hx,q⟩:=h
  ac_nf
  refine'⟨_,(AG (AO (Bf (pC (AV (r:=Bl K) A2 (pv 0) AE (λ_ _=>rfl)) (pC (Dg (r:=cT K) bc (pv 0) (Ce AE) T_) AA))))),?_⟩;have hl:=SqL.of (K:=K) hw.at_;refine⟨Z,a,_,_,Z,Y,hl,Wj (k:=1) hx,Z,Z,a,Z,hl,λu hu=>⟨U,λt ht=>?_⟩⟩;have s1:AB H (upd H u (.lst (B7 (ws.map V.str) (some 3) none))):=AM hu;have h3:(upd H u (.lst (B7 (ws.map V.str) (some 3) none))) u=some (.lst ((ws.drop 3).map V.str)):=by rw[uS];exact congrArg (λz=>some (HO.lst z)) (qi ws 3)
  exact q t u _ (s1.trans (AM ht)) uS (AM ht _ _ h3) hu
def Yd4:AX ["words"] ["words"] (AJ kr):=by nofun
def Zxt(F:Def K mg "name_of" kr ["words"] f fd)(int:mg "int"=none):⋯ 1 f fd ["words"] Yca:=by
 nomatch F.fn.ok Yd4
 ·obtain⟨a,ws,x,c,n,rfl,_⟩:=h;rfl
 ·obtain⟨a,ws,x,c,n,rfl,hw,hx,hc,hn,hz,q⟩:=h
  ac_nf
  refine'⟨_,(AG (AO (Bf (pC (AV (r:=Bl K) A2 (pv 0) AE (λ_ _=>rfl)) (pC (Co y7 (by rfl) int cm (pC (AV (r:=Bl K) A2 (pv 0) AE (λ_ _=>rfl)) AA)) AA))))),?_⟩;have hl:=SqL.of (K:=K) hw.at_;exact⟨Z,a,_,_,Z,Y,hl,Wj (k:=1) hx,Z,a,_,_,Z,Y,hl,Wj (k:=2) hc,c,n,Y,hn,hz,U,λt ht=>q t _ (AM ht) uS⟩
def Yeh:AX ["words"] ["words"] (AJ km):=by nofun
def Zxz(F:Def K mg "deed_of" km ["words"] f fd)(tuple:mg "tuple"=none):⋯ 1 f fd ["words"] Ycf:=by
 nomatch F.fn.ok Yeh
 ·obtain⟨a,ws,m,rfl,_⟩:=h;rfl
 ·obtain⟨a,ws,m,rfl,hw,h4,hm,q⟩:=h
  ac_nf
  refine'⟨_,(AG (AO (Bf (pC (Co V1 (by rfl) tuple Ur (pC (Dg (r:=cT K) bc (pv 0) (Ce AE) (Ce (eZ fc AE))) AA)) (pC (AV (r:=Bl K) A2 (pv 0) (eZ fc AE) (λ_ _=>rfl)) AA))))),?_⟩;have hl:=SqL.of (K:=K) hw.at_;refine⟨Z,Z,Z,Z,a,Z,hl,λp hp=>?_⟩;have s1:AB H (upd H p (.lst (B7 (ws.map V.str) (some 2) (some (-2))))):=AM hp;have h3:(upd H p (.lst (B7 (ws.map V.str) (some 2) (some (-2))))) p=some (.lst (((ws.drop 2).take (ws.length - 4)).map V.str)):=by rw[uS];exact congrArg (λz=>some (HO.lst z)) (Z5s ws 2 2 (by omega) (by decide))
  generalize upd H p (.lst (B7 (ws.map V.str) (some 2) (some (-2))))=H1 at s1 h3;refine⟨p,Z,.inl ⟨SqL.of h3,λc hc=>?_⟩⟩;have s2:AB H1 (upd H1 c (.tup (((ws.drop 2).take (ws.length - 4)).map V.str))):=AM hc;have h4:(upd H1 c (.tup (((ws.drop 2).take (ws.length - 4)).map V.str))) c=some (.tup (((ws.drop 2).take (ws.length - 4)).map V.str)):=uS;generalize upd H1 c (.tup (((ws.drop 2).take (ws.length - 4)).map V.str))=H2 at s2 h4 ⊢;exact⟨Z,Z,a,_,_,Z,Y,SqL.of (s2 _ _ (s1 _ _ hw.at_)),Z3u (k:=1) (by decide) (by omega) hm,U,λt ht=>q t c _ ((s1.trans s2).trans (AM ht)) uS (AM ht _ _ h4)⟩
abbrev Row:=Str×LS
def We(x:Str)(c:LS)(m:Str):List AI->Option (List AI)
 | []=>none
 | n :: r=>if n.1=x then(if c.length=n.2.1 then some ((n.1,n.2.1,n.2.2++[(c,m)]):: r)else none)else(We x c m r).map (n :: ·)
theorem wJ{x:Str}{c:LS}{m:Str}:∀ {ns CH:List AI},We x c m ns=some CH->∃(j:Nat) (n:AI),ns[j]?=some n/\n.1=x/\(∀ i,i<j->∀ n',ns[i]?=some n'->n'.1≠x)/\c.length=n.2.1/\CH=ns.set j (n.1,n.2.1,n.2.2++[(c,m)])
 | [],_,h=>by cases h
 | n :: r,CH,h=>by
  unfold We at h;by_cases e:n.1=x
  ·rw[if_pos e]at h;by_cases e2:c.length=n.2.1
   ·rw[if_pos e2]at h;exact⟨0,n,Y,e,λi hi=>absurd hi (Nat.not_lt_zero _),e2,(Ym h).symm⟩
   ·rw[if_neg e2]at h;cases h
  ·rw[if_neg e]at h;obtain⟨r',h1,h2⟩:=CV.mp h;obtain⟨j,n',a1,a2,a3,a4,a5⟩:=wJ h1;refine⟨j + 1,n',by rw[cX];exact a1,a2,λi hi n2 h3=>?_,a4,by rw[<- h2,a5];rfl⟩
   rcases i with _ | i
   ·rw[List.getElem?_cons_zero]at h3;rw[<- Ym h3];exact e
   ·rw[cX]at h3;exact a3 i (by omega) n2 h3
def cR(c:Str):Nat:=if c="1" then 1 else if c="2" then 2 else if c="3" then 3 else 4
def Z5o{c:Str}(h:c∈VX):PySem.intText? c=some ((cR c:Nat):Int)/\c.length<=640:=by
 have h:c="1"\/c="2"\/c="3"\/c="4":=by
  unfold VX at h;simpa using h
 rcases h with rfl | rfl | rfl | rfl <;> exact⟨by rfl',by rfl'⟩
def LI(rows:List Row)(ns:List AI)(ws:LS):Option (List Row×List AI):=
 if XW ws=true then(if ns=[]then some (rows++[(ws.getD 1 "",ws.drop 3)],ns)else none)
 else if YH ws=true then(if rows=[]then none else some (rows,ns++[(ws.getD 1 "",cR (ws.getD 2 ""),[])]))
 else if YN ws=true then(We (ws.getD 1 "") ((ws.drop 2).take (ws.length - 4)) (ws.getD (ws.length - 1) "") ns).map λz=>(rows,z)
 else none
def C1:List Row->List AI->List (LS)->Option (List Row×List AI)
 | rows,ns,[]=>some (rows,ns)
 | rows,ns,ws :: r=>(LI rows ns ws).bind λz=>C1 z.1 z.2 r
theorem lH{α β:Type}{F G:α->β->Prop}:∀ {l:List α}{m:List β},Paired F l m->(∀ x v,x∈l->F x v->G x v)->Paired G l m
 | _,_,.nil,_=>.nil
 | _,_,.cons r t,h=>.cons (h _ _ Yy r) (lH t λx v hx=>h x v (Yr _ hx))
def Z26{α:Type}{l:List α}{j:Nat}{a:α}(h:l[j]?=some a):l.set j a=l:=by
 refine List.ext_getElem? λi=>?_;by_cases e:j=i
 ·subst e;rw[m4 (Yi.mp h).1,h]
 ·rw[mw e]
def Ydk(O:List Addr)(H:Hp)(r:Row)(v:V):Prop:=∃ t u,v=.ref t/\H t=some (.tup [.str r.1,.ref u])/\H u=some (.lst (r.2.map V.str))/\u∉O
def NmR(H:Hp)(n:AI×Addr)(v:V):Prop:=∃ t us,v=.ref t/\H t=some (.tup [.str n.1.1,.int n.1.2.1,.ref n.2])/\H n.2=some (.lst us)/\Cg H n.1.2.2 us
structure CM(H0 H:Hp)(lr ln:Addr)(rows:List Row)(Ad:List (AI×Addr))(vr vn:LV):Prop where
 sm:AB H0 H
 own:∀ d∈lr :: ln :: Ad.map (·.2),H0 d=none
 nd:(lr :: ln :: Ad.map (·.2)).Nodup
 hr:H lr=some (.lst vr)
 hn:H ln=some (.lst vn)
 rw_:Paired (Ydk (lr :: ln :: Ad.map (·.2)) H) rows vr
 nm:Paired (NmR H) Ad vn
section
variable {H0 H H':Hp}{lr ln:Addr}{rows:List Row}{Ad:List (AI×Addr)}{vr vn:LV}
def CM.some_(h:CM H0 H lr ln rows Ad vr vn){d:Addr}(hd:d∈lr :: ln :: Ad.map (·.2)):∃ us,H d=some (.lst us):=by
 rcases Yv.mp hd with rfl | hd
 ·exact⟨_,h.hr⟩
 rcases Yv.mp hd with rfl | hd
 ·exact⟨_,h.hn⟩
 obtain⟨x,hx,rfl⟩:=Yg.mp hd;obtain⟨j,hj⟩:=Y3.mp hx;obtain⟨v,_,t,us,_,_,e,_⟩:=V2 h.nm hj;exact⟨us,e⟩
theorem CM.mono(h:CM H0 H lr ln rows Ad vr vn)(s:AB H H'):CM H0 H' lr ln rows Ad vr vn :=
 ⟨h.sm.trans s,h.own,h.nd,s _ _ h.hr,s _ _ h.hn,Paired.mapP h.rw_ λ_ _ z=>(by
  obtain⟨t,u,e,a,b,c⟩:=z;exact⟨t,u,e,s _ _ a,s _ _ b,c⟩),Paired.mapP h.nm λ_ _ z=>(by
  obtain⟨t,us,e,a,b,c⟩:=z;exact⟨t,us,e,s _ _ a,s _ _ b,c.mono (A3 s)⟩)⟩
def CM.keepT(h:CM H0 H lr ln rows Ad vr vn){q:Addr}(hq:q∈lr :: ln :: Ad.map (·.2))(xs:LV):∀ b ys,H b=some (.tup ys)->upd H q (.lst xs) b=some (.tup ys):=by
 obtain⟨us,e⟩:=h.some_ hq;intro b ys hb;rw[AD (λz=>by rw[z,e]at hb;cases hb)];exact hb
def CM.sm_upd(h:CM H0 H lr ln rows Ad vr vn){q:Addr}(hq:q∈lr :: ln :: Ad.map (·.2))(o:HO):AB H0 (upd H q o):=λb u e=>by
 rw[AD (λz=>by rw[z,h.own q hq]at e;cases e)];exact h.sm _ _ e
def CM.rows_upd(h:CM H0 H lr ln rows Ad vr vn){q:Addr}(hq:q∈lr :: ln :: Ad.map (·.2))(xs:LV):Paired (Ydk (lr :: ln :: Ad.map (·.2)) (upd H q (.lst xs))) rows vr:=Paired.mapP h.rw_ λ_ _ z=>by
 obtain⟨t,u,e,a,b,c⟩:=z;exact⟨t,u,e,h.keepT hq xs _ _ a,by rw[AD (λz=>c (by rw[z];exact hq))];exact b,c⟩
def CM.addRow(h:CM H0 H lr ln rows Ad vr vn){r:Row}{t u:Addr}(ht:H t=some (.tup [.str r.1,.ref u]))(hu:H u=some (.lst (r.2.map V.str)))(nu:u∉lr :: ln :: Ad.map (·.2)):CM H0 (upd H lr (.lst (vr++[.ref t]))) lr ln (rows++[r]) Ad (vr++[.ref t]) vn:=by
 have m:lr∈lr :: ln :: Ad.map (·.2):=Yy;obtain⟨n1,n2⟩:=Cr.mp h.nd;refine⟨h.sm_upd m _,h.own,h.nd,uS,by rw[AD (λz=>n1 (by rw[<- z];exact Yy))];exact h.hn,LM (h.rows_upd m _) ⟨t,u,Y,h.keepT m _ _ _ ht,by rw[AD (λz=>nu (by rw[z];exact m))];exact hu,nu⟩,?_⟩;refine lH h.nm λx v hx z=>?_;obtain⟨t,us,e,a,b,c⟩:=z;exact⟨t,us,e,h.keepT m _ _ _ a,by rw[AD (λz=>n1 (by rw[<- z];exact Yr _ (Yg.mpr ⟨x,hx,Y⟩)))];exact b,c.mono (h.keepT m _)⟩
def CM.addName{Hb:Hp}(h:CM H0 Hb lr ln rows Ad vr vn)(s:AB Hb H){e t:Addr}{x:Str}{k:Nat}(ne:Hb e=none)(ht:H t=some (.tup [.str x,.int k,.ref e]))(he:H e=some (.lst [])):
  CM H0 (upd H ln (.lst (vn++[.ref t]))) lr ln rows (Ad++[((x,k,[]),e)]) vr (vn++[.ref t]):=by
 have h':=h.mono s;have m:ln∈lr :: ln :: Ad.map (·.2):=Yr _ Yy;have no:e∉lr :: ln :: Ad.map (·.2):=λz=>by
  obtain⟨us,q⟩:=h.some_ z;rw[ne]at q;cases q
 have eO:lr :: ln :: (Ad++[(((x,k,[]):AI),e)]).map (·.2)=(lr :: ln :: Ad.map (·.2))++[e]:=by rw[Ys];rfl
 obtain⟨n1,n2⟩:=Cr.mp h.nd;have nln:lr≠ln:=λz=>n1 (by rw[z];exact Yy);have eln:e≠ln:=λz=>no (by rw[z];exact m);have e0:H0 e=none:=h.sm.free ne;refine⟨h'.sm_upd m _,?_,?_,by rw[AD nln];exact h'.hr,uS,?_,LM (lH h'.nm λy v hy z=>?_) ⟨t,[],Y,h'.keepT m _ _ _ ht,by rw[AD eln];exact he,.nil⟩⟩
 ·rw[eO];intro d hd
  rcases Yo.mp hd with hd | hd
  ·exact h.own d hd
  ·rw[Yh.mp hd];exact e0
 ·rw[eO];exact List.nodup_append.mpr ⟨h.nd,by simp,λa ha b hb z=>no (by rw[<- Yh.mp hb,<- z];exact ha)⟩
 ·rw[eO];have hb:=h.rw_;refine YT (Yu hb) λi r v hr hv=>?_;obtain⟨v',Uz,t',u,e1,a,b,c⟩:=V2 hb hr;rw[hv]at Uz;cases Uz;refine⟨t',u,e1,h'.keepT m _ _ _ (s _ _ a),by rw[AD (λz=>c (by rw[z];exact m))];exact s _ _ b,λz=>?_⟩
  rcases Yo.mp z with z | z
  ·exact c z
  ·rw[Yh.mp z,ne]at b;cases b
 ·obtain⟨t',us,e1,a,b,c⟩:=z;exact⟨t',us,e1,h'.keepT m _ _ _ a,by rw[AD (λz=>(Cr.mp n2).1 (by rw[<- z];exact Yg.mpr ⟨y,hy,Y⟩))];exact b,c.mono (h'.keepT m _)⟩
def CM.addDeed(h:CM H0 H lr ln rows Ad vr vn){j:Nat}{n:AI}{d t:Addr}{us:LV}{p:LS×Str}(hj:Ad[j]?=some (n,d))(hd:H d=some (.lst us))(hp:Cg H n.2.2 us)(ht:nH H p (.ref t)):
  CM H0 (upd H d (.lst (us++[.ref t]))) lr ln rows (Ad.set j ((n.1,n.2.1,n.2.2++[p]),d)) vr vn:=by
 have hjl:j<Ad.length:=(Yi.mp hj).1;have md:d∈Ad.map (·.2):=Yg.mpr ⟨_,Yd hj,Y⟩;have m:d∈lr :: ln :: Ad.map (·.2):=Yr _ (Yr _ md);have eM:(Ad.set j ((n.1,n.2.1,n.2.2++[p]),d)).map (·.2)=Ad.map (·.2):=by
  rw[List.map_set];exact Z26 (by rw[Yj,hj];rfl)
 obtain⟨n1,n2⟩:=Cr.mp h.nd;obtain⟨n3,n4⟩:=Cr.mp n2;refine⟨h.sm_upd m _,by rw[eM];exact h.own,by rw[eM];exact h.nd,by rw[AD (λz=>n1 (by rw[z];exact Yr _ md))];exact h.hr,by rw[AD (λz=>n3 (by rw[z];exact md))];exact h.hn,by rw[eM];exact h.rows_upd m _,?_⟩;have hl:=Yu h.nm;refine YT (by rw[gy];exact hl) λi x v hx hv=>?_;obtain⟨t',W8,e1,a,b,c⟩:NmR H (Ad[i]'(by have:=(Yi.mp hx).1;rw[gy]at this;exact this)) v:=by
  obtain⟨v',Uz,z⟩:=V2 h.nm (Yb (by have:=(Yi.mp hx).1;rw[gy]at this;exact this));rw[hv]at Uz;cases Uz;exact z
 have hil:i<Ad.length:=by have:=(Yi.mp hx).1;rw[gy]at this;exact this
 by_cases e:i=j
 ·subst e;have e2:Ad[i]=(n,d):=by rw[Yb hil]at hj;exact Ym hj
  rw[m4 hil]at hx;cases hx;rw[e2]at a b c;refine⟨t',us++[.ref t],e1,h.keepT m _ _ _ a,uS,?_⟩;exact LM (hp.mono (h.keepT m _)) (by
   obtain⟨t2,tc,z1,z2,z3⟩:=ht;exact⟨t2,tc,z1,h.keepT m _ _ _ z2,h.keepT m _ _ _ z3⟩)
 ·rw[mw (λz=>e z.symm),Yb hil]at hx;cases hx;refine⟨t',W8,e1,h.keepT m _ _ _ a,?_,c.mono (h.keepT m _)⟩;rw[AD (λz=>e ?_)]
  ·exact b
  ·have e3:(Ad.map (·.2))[i]?=(Ad.map (·.2))[j]?:=by
    rw[Yj,Yj,hj,Yb hil];show some (Ad[i].2)=some d;rw[z]
   exact(List.getElem?_inj (by rw[Ya];exact hil) n4).mp e3
end
def Ybv(H:Hp)(y:Str)(v:V):Prop:=∃ t r,v=.ref t/\H t=some (.tup (.str y :: r))
def Ycd:Sp:=λvs H Q _=>∃(l:Addr) (x:Str) (ys:LS) (us:LV) (j:Nat) (v:V),vs=[.ref l,.str x]/\H l=some (.lst us)/\us.length<=100000/\Paired (Ybv H) ys us/\ys[j]?=some x/\(∀ i,i<j->ys[i]?≠some x)/\us[j]?=some v/\Q v H
abbrev nFN:LS:=["names","word","name"]
def Yc0:AX nFN ["names","word"] (AJ mE):=by nofun
def Znr(F:Def K mg "first_named" mE ["names","word"] f fd):⋯ 1 f fd ["names","word"] Ycd:=by
 nomatch F.fn.ok Yc0
 ·obtain⟨l,x,ys,us,j,v,rfl,_⟩:=h;rfl
 ·obtain⟨l,x,ys,us,j,v,rfl,hl,few,hP,hj,hf,hv,q⟩:=h;have nd:=Yc0.nd
  ac_nf
  refine'⟨_,(pS (BM Yw rfl (CD (pv 0)) (gE 2 nd) (AG (AY (Ag BV (AV (r:=BQ K) BW (pv 2) AE (λ_ _=>rfl)) (pv 1) (Ab _)) (AG (AO (pv 2))) Aa)))
   (AG (AO jt))),?_⟩
  exists let b:=_;AF (BS _ _ b) a _ _ _
  let Iv:NW:=λi σ H'=>H'=H/\i<=j/\∃ nv:OV,σ=[some (.ref l),some (.str x),nv];refine⟨Z,l,Y,⟨_,SqL.of hl⟩,Bz (CU (xs:=us)) Iv ⟨Y,Ax _,none,Y⟩ (λi σ H' _ h0=>by obtain⟨rfl,_⟩:=h0;exact SqL.of hl) ?_ ?_⟩
  ·rintro i u σ H' hi ⟨rfl,hij,nv,rfl⟩;obtain⟨y,hy,t,r,rfl,ht⟩:=Bp hP hi;refine⟨Z,t,_,_,Z,Y,AH.of ht,Bb (j:=0) rfl,Z,Y,Z,?_⟩;rw[show decide (V.str y=V.str x)=decide (y=x)from Vj.mpr ⟨λz=>V.str.inj z,λz=>by rw[z]⟩];by_cases e:y=x
   ·rw[Jb e];have eij:i=j:=by
     by_cases c:i<j
     ·exact absurd (by rw[hy,e]) (hf i c)
     ·omega
    subst eij;rw[hi]at hv;cases hv;exact Av ⟨Z,q⟩
   ·rw[Jc e];refine AS ⟨Y,?_,Z⟩;by_cases c:i=j
    ·subst c;rw[hy]at hj;exact absurd (Ym hj) e
    ·omega
  ·rintro σ H' ⟨rfl,hlj,_⟩;have:=(Yi.mp hv).1;omega
def Sf:List AI->Nat
 | []=>0
 | n :: r=>n.2.2.length + Sf r
theorem xn{x:Str}{c:LS}{m:Str}:∀ {ns CH:List AI},We x c m ns=some CH->Sf CH=Sf ns + 1/\CH.length=ns.length
 | [],_,h=>by cases h
 | n :: r,CH,h=>by
  unfold We at h;by_cases e:n.1=x
  ·rw[if_pos e]at h;by_cases e2:c.length=n.2.1
   ·rw[if_pos e2]at h;rw[<- Ym h];exact⟨by show(n.2.2++[(c,m)]).length + Sf r=n.2.2.length + Sf r + 1;rw[Yc];show n.2.2.length + 1 + Sf r=_;omega,Y⟩
   ·rw[if_neg e2]at h;cases h
  ·rw[if_neg e]at h;obtain⟨r',h1,h2⟩:=CV.mp h;obtain⟨a,b⟩:=xn h1;rw[<- h2];exact⟨by show n.2.2.length + Sf r'=n.2.2.length + Sf r + 1;omega,by rw[Yt,Yt,b]⟩
theorem yA:∀ {ns:List AI}{n:AI},n∈ns->n.2.2.length<=Sf ns
 | [],_,h=>nomatch h
 | m :: r,n,h=>by
  rcases Yv.mp h with rfl | h
  ·exact UZ _ _
  ·have:=yA h;show _<=m.2.2.length + Sf r;omega
theorem x_(n:AI):∀ ns:List AI,Sf (ns++[n])=Sf ns + n.2.2.length
 | []=>by show n.2.2.length + 0=0 + n.2.2.length;omega
 | m :: r=>by show m.2.2.length + Sf (r++[n])=m.2.2.length + Sf r + n.2.2.length;rw[x_ n r];omega
def Xs(rows:List Row)(ns:List AI):Nat:=rows.length + ns.length + Sf ns
def Z0k{rows Ct:List Row}{ns CH:List AI}{ws:LS}(h:LI rows ns ws=some (Ct,CH)):Xs Ct CH=Xs rows ns + 1:=by
 unfold LI at h;unfold Xs;split at h
 ·split at h
  ·cases h;rw[Yc];show rows.length + 1 + _ + _=_;omega
  ·cases h
 ·split at h
  ·split at h
   ·cases h
   ·cases h;rw[Yc,x_];show rows.length + (ns.length + 1) + (Sf ns + 0)=_;omega
  ·split at h
   ·obtain⟨z,h1,h2⟩:=CV.mp h;cases h2;obtain⟨a,b⟩:=xn h1;omega
   ·cases h
def Kp(O:List Addr)(H H':Hp):Prop:=∀ b o,b∉O->H b=some o->H' b=some o
def Kp.same{O:List Addr}{H H':Hp}(s:AB H H'):Kp O H H':=λb o _ e=>s b o e
def Kp.trans{O:List Addr}{H H' H2:Hp}(a:Kp O H H')(b:Kp O H' H2):Kp O H H2:=λc o n e=>b c o n (a c o n e)
def Kp.upd_{O:List Addr}{H:Hp}{q:Addr}{o:HO}(hq:q∈O):Kp O H (upd H q o):=λb u n e=>by rw[AD (λz=>n (by rw[z];exact hq))];exact e
abbrev own(lr ln:Addr)(Ad:List (AI×Addr)):List Addr:=lr :: ln :: Ad.map (·.2)
def Yb4:Sp:=λvs H Q _=>∃(He:Hp) (lr ln a:Addr) (rows:List Row) (Ad:List (AI×Addr)) (vr vn:LV) (ws:LS) (CH:List AI),vs=[.ref ln,.ref a]/\CM He H lr ln rows Ad vr vn/\VU H a ws/\5<=ws.length /\
 We (ws.getD 1 "") ((ws.drop 2).take (ws.length - 4)) (ws.getD (ws.length - 1) "") (Ad.map (·.1))=some CH/\Xs rows (Ad.map (·.1))<=10000 /\
 ∀ H' CZ,CM He H' lr ln rows CZ vr vn->CZ.map (·.1)=CH->CZ.map (·.2)=Ad.map (·.2)->Kp (own lr ln Ad) H H'->Q (.bl true) H'
abbrev nTD:LS:=["names","words","name","deed"]
def Ycl:AX nTD ["names","words"] (AJ lR):=by nofun
def Zrg(F:Def K mg "take_deed" lR ["names","words"] f fd)(len:mg "len"=none)(DF:Def K mg "first_named" mE ["names","word"] fF fdF)(GF:⋯ 1 fF fdF ["names","word"] Ycd)
  (DD:Def K mg "deed_of" km ["words"] fD fdD) (GD:⋯ 1 fD fdD ["words"] Ycf):⋯ 2 f fd ["names","words"] Yb4:=by
 nomatch F.fn.ok Ycl
 ·obtain⟨He,lr,ln,a,rows,Ad,vr,vn,ws,CH,rfl,_⟩:=h;rfl
 ·obtain⟨He,lr,ln,a,rows,Ad,vr,vn,ws,CH,rfl,hR,hw,h5,hA,ht,q⟩:=h;have nd:=Ycl.nd;refine'⟨_,(pS (sE 2 nd (AL DF GF hr (pC (pv 0) (pC (AV (r:=Bl K) A2 (pv 1) AE (λ_ _=>rfl)) AA))))
   (pS (sE 3 nd (AL DD GD hr (pC (pv 1) AA)))
   (pS (AY (PW.pt (C2 (Ag Z7q (pv 2) jt (Ab _)) (T6 (Ag U6 (Aq Cn (by rfl) len BI (pC (AV (r:=BQ K) BW (pv 3) AE (λ_ _=>rfl)) AA)) (AV (r:=BQ K) BW (pv 2) AE (λ_ _=>rfl)) (Ab _))))) (AG (AO Cj)) Aa)
   (pS (Bc (Be Cs Dy Dx Di (AV (r:=BQ K) BW (pv 2) AE (λ_ _=>rfl)) (pC (pv 3) AA)))
   (AG (AO Cj)))))),?_⟩
  obtain⟨x,hx⟩:∃ x,ws[1]?=some x:=⟨ws[1]'(by omega),Yb _⟩;obtain⟨m,hm⟩:∃ m,ws[ws.length - 1]?=some m:=⟨ws[ws.length - 1]'(by omega),Yb _⟩;rw[Yl,hx,Y5,Yl,hm,Y5]at hA;obtain⟨j,n,a1,a2,a3,a4,a5⟩:=wJ hA;obtain⟨⟨n',d⟩,hj,e1⟩:∃ z,Ad[j]?=some z/\z.1=n:=by
   rw[Yj]at a1;exact CV.mp a1
  dsimp only at e1;subst e1;obtain⟨v,hv,t,us,rfl,h1,h2,h3⟩:=V2 hR.nm hj;have hl:=SqL.of (K:=K) hw.at_;have few:=Yu hR.nm;have tt:=ht;unfold Xs at tt;rw[Ya]at tt;refine⟨Z,Z,a,_,_,Z,Y,hl,Wj (k:=1) hx,ln,x,(Ad.map (·.1)).map (·.1),vn,j,Z,hR.hn,W,?_,?_,?_,hv,?_⟩
  ·refine YT (by rw[Ya,Ya];exact few) λi y v hy hv=>?_;rw[B9,Yj]at hy;obtain⟨z,hz,rfl⟩:=CV.mp hy;obtain⟨v',Uz,t,us,e,h1,_⟩:=V2 hR.nm hz;rw[hv]at Uz;cases Uz;exact⟨t,_,e,h1⟩
  ·rw[Yj,a1];exact congrArg some a2
  ·intro i hi z;rw[Yj]at z;obtain⟨n2,az,e2⟩:=CV.mp z;exact a3 i hi n2 az e2
  refine⟨Z,a,ws,m,Y,hw,W,hm,λt2 c H1 s1 g1 g2=>?_⟩;refine⟨Z,Y,Z,AS ⟨Z,t2,_,_,Z,Y,AH.of g1,Bb (j:=0) rfl,c,Z,.inr (AH.of g2),Z,t,_,_,Z,Y,AH.of (s1 _ _ h1),Bb (j:=1) rfl,Y,Z,?_⟩⟩;rw[Ya,Jb (by rw[a4])];have VR:=hR.mono s1;have h31:=h3.mono (A3 s1);have ul:us.length<sizeLine:=Bq (by
   have l1:n'.2.2.length=us.length:=Yu h3;have l2:n'.2.2.length<=Sf (Ad.map (·.1)):=yA (Yd a1);omega)
  have g3:=VR.addDeed (t:=t2) (p:=((ws.drop 2).take (ws.length - 4),m)) hj (s1 _ _ h2) h31 ⟨t2,c,Y,g1,g2⟩;have md:d∈own lr ln Ad:=Yr _ (Yr _ (Yg.mpr ⟨_,Yd hj,Y⟩));refine AS ⟨Z,t,_,_,Z,Y,AH.of (s1 _ _ h1),Bb (j:=2) rfl,.inl ⟨Y,_,SqL.of (s1 _ _ h2)⟩,Z,d,us,Z,Y,s1 _ _ h2,ul,q _ _ g3 ?_ ?_ ((Kp.same s1).trans (Kp.upd_ md))⟩
  ·rw[List.map_set,a5]
  ·rw[List.map_set];exact Z26 (by rw[Yj,hj];rfl)
def Yb3:Sp:=λvs H Q _=>∃(He:Hp) (lr ln a:Addr) (rows Ct:List Row) (Ad:List (AI×Addr)) (vr vn:LV) (ws:LS) (CH:List AI),vs=[.ref lr,.ref ln,.ref a]/\CM He H lr ln rows Ad vr vn/\VU H a ws/\ws≠[] /\
 LI rows (Ad.map (·.1)) ws=some (Ct,CH)/\Xs rows (Ad.map (·.1))<=10000 /\
 ∀ H' CZ nq n5,CM He H' lr ln Ct CZ nq n5->CZ.map (·.1)=CH->(∀ d∈own lr ln CZ,d∈own lr ln Ad\/H d=none)->Kp (own lr ln Ad) H H'->Q (.bl true) H'
abbrev ag:LS:=["rows","names","words"]
def Yck:AX ag ag (AJ lB):=by nofun
def Zru{ws:LS}(h:XW ws=true):2<=ws.length:=by
 rcases ws with _ | ⟨x,r⟩
 ·cases h
 rw[gX,B1,B1,Bool.or_eq_true,B1]at h;have h:=h.2.2;rw[Yt]
 rcases h with h | h
 ·have:=Je h;omega
 ·have:=Je h.1;omega
def Zuw{ws:LS}(h:YH ws=true):∃ x y z,ws=[x,y,z]/\z∈VX:=by
 rcases ws with _ | ⟨x,_ | ⟨y,_ | ⟨z,_ | ⟨d,r⟩⟩⟩⟩
 ·cases h
 ·cases h
 ·cases h
 ·have h:(decide (x="name")&&(AW y&&decide (z∈VX)))=true:=h;rw[B1,B1]at h;exact⟨x,y,z,Y,Je h.2.2⟩
 ·cases h
def Zr0{ws:LS}(h:YN ws=true):5<=ws.length:=by
 unfold YN at h;rw[B1,B1]at h;exact Je h.2.1
def Zuk(F:Def K mg "take_row" lB ag f fd)(len:mg "len"=none)
  (DK:Def K mg "is_kind_row" mG ["words"] fK fdK) (GK:⋯ 3 fK fdK ["words"] Ycb) (DKo:Def K mg "kind_of" kq ["words"] fKo fdKo) (GKo:⋯ 1 fKo fdKo ["words"] Ycc)
  (DN:Def K mg "is_name_row" mH ["words"] fN fdN) (GN:⋯ 2 fN fdN ["words"] Yb9) (DNo:Def K mg "name_of" kr ["words"] fNo fdNo) (GNo:⋯ 1 fNo fdNo ["words"] Yca)
  (DD:Def K mg "is_deed_row" mF ["words"] fD fdD) (GD:⋯ 3 fD fdD ["words"] Yce) (DT:Def K mg "take_deed" lR ["names","words"] fT fdT) (GT:⋯ 2 fT fdT ["names","words"] Yb4):⋯ 4 f fd ag Yb3:=by
 nomatch F.fn.ok Yck
 ·obtain⟨He,lr,ln,a,rows,Ct,Ad,vr,vn,ws,CH,rfl,_⟩:=h;rfl
 ·obtain⟨He,lr,ln,a,rows,Ct,Ad,vr,vn,ws,CH,rfl,hR,hw,BJ,hS,ht,q⟩:=h;have nd:=Yck.nd;have AZ:Af 1 _:=hr.mono (by decide);have B6:Af 2 _:=hr.mono (by decide);refine'⟨_,(pS (AY (Bo (AL DK GK hr (pC (pv 2) AA))) (pS (Bc (Be Cs Dy Dx Di (pv 0) (pC (AL DKo GKo AZ (pC (pv 2) AA)) AA)))
   (AG (AO (xE (pv 1))))) Aa)
   (pS (AY (Bo (AL DN GN B6 (pC (pv 2) AA))) (pS (Bc (Be Cs Dy Dx Di (pv 1) (pC (AU YE (AL DNo GNo AZ (pC (pv 2) AA)) (Bf (pC (BX AA) AA))) AA)))
   (AG (AO (LK Wl (Aq Cn (by rfl) len BI (pC (pv 0) AA)) AE (Ab _))))) Aa)
   (AG (AO (Vc (AL DD GD hr (pC (pv 2) AA)) (Vd (AL DT GT B6 (pC (pv 1) (pC (pv 2) AA))))))))),?_⟩
  have tt:=ht;unfold Xs at tt;rw[Ya]at tt;have fr:=Yu hR.rw_;have fn:=Yu hR.nm;unfold LI at hS;refine⟨Z,a,ws,Y,hw,BJ,λH1 s1=>⟨Z,?_⟩⟩;have VR:=hR.mono s1;have WS:=hw.mono s1;by_cases k1:XW ws=true
  ·rw[if_pos k1]at hS;rw[k1];have k2:=Zru k1;obtain⟨x,hx⟩:∃ x,ws[1]?=some x:=⟨ws[1]'(by omega),Yb _⟩;by_cases ne:Ad.map (·.1)=[]
   ·rw[if_pos ne,Yl,hx,Y5]at hS;have nE:Ad=[]:=List.map_eq_nil_iff.mp ne;cases hS;refine Av ⟨Z,.inl ⟨Y,_,SqL.of VR.hr⟩,Z,a,ws,x,Y,WS,hx,λt u H2 s2 g1 g2 gu=>?_⟩;have WZ:=VR.mono s2;have nu:u∉own lr ln Ad:=λz=>by
     obtain⟨us,e⟩:=VR.some_ z;rw[gu]at e;cases e
    have X2:=WZ.addRow (r:=(x,ws.drop 3)) g1 g2 nu;refine⟨lr,vr,Z,Y,WZ.hr,Bq (by omega),Z,_,.inl ⟨vn,SqL.of X2.hn,Y⟩,?_⟩;have vE:vn=[]:=by rw[nE]at fn;exact List.length_eq_zero_iff.mp fn.symm
    rw[vE];exact q _ Ad _ _ X2 rfl (λd hd=>.inl hd) ((Kp.same (s1.trans s2)).trans (Kp.upd_ Yy))
   ·rw[if_neg ne]at hS;cases hS
  ·rw[if_neg k1]at hS;have k1:=eq_false_of_ne_true k1;rw[k1];refine AS ⟨Z,a,ws,Y,WS,BJ,λH2 s2=>⟨Z,?_⟩⟩;have Cv:=s1.trans s2;have WZ:=VR.mono s2;have Xw:=WS.mono s2;by_cases k2:YH ws=true
   ·rw[if_pos k2]at hS;rw[k2];obtain⟨x,y,z,rfl,hz⟩:=Zuw k2;by_cases re:rows=[]
    ·rw[if_pos re]at hS;cases hS
    rw[if_neg re]at hS;cases hS;obtain⟨i1,i2⟩:=Z5o hz;refine Av ⟨Z,.inl ⟨Y,_,SqL.of WZ.hn⟩,Z,a,[x,y,z],y,z,Z,Xw,Y,Y,i1,i2,λt H3 s3 g1=>⟨Ax _,λe he=>⟨O,λt2 A_=>?_⟩⟩⟩;have X2:=WZ.mono s3;have Ai:AB H3 (upd H3 e (.lst [])):=AM he;have g2:(upd H3 e (.lst [])) e=some (.lst []):=uS;generalize upd H3 e (.lst [])=H4 at Ai g2 A_ ⊢;have As:AB H4 (upd H4 t2 (.tup [.ref e])):=AM A_;have g3:(upd H4 t2 (.tup [.ref e])) t2=some (.tup [.ref e]):=uS;generalize upd H4 t2 (.tup [.ref e])=H5 at As g3 ⊢;refine YK (K:=K) (As _ _ (Ai _ _ g1)) g3 (sL (by show 2 + 1<=100000;decide)) λp H6 BP g4=>?_;have Ux:=Ai.trans (As.trans BP);have bE:=X2.addName (e:=e) (t:=p) (x:=y) (k:=cR z) Ux he g4 (BP _ _ (As _ _ g2));refine⟨ln,vn,Z,Y,(X2.mono Ux).hn,Bq (by omega),Z,lr,vr,Y,.inl (SqL.of bE.hr),_,Z,Y,?_⟩;have vE:0<vr.length:=by rw[<- fr];exact Wz.mpr re
    show Q (.bl (decide ((0:Int)<((vr.length:Nat):Int)))) _;rw[Jb (show(0:Int)<((vr.length:Nat):Int) by omega)];refine q _ _ _ _ bE ?_ ?_ ((Kp.same (Cv.trans (s3.trans Ux))).trans (Kp.upd_ (Yr _ Yy)))
    ·rw[Ys];rfl
    ·intro d hd;have eO:own lr ln (Ad++[(((y,cR z,[]):AI),e)])=own lr ln Ad++[e]:=by show lr :: ln :: (Ad++_).map _=_;rw[Ys];rfl
     rw[eO]at hd
     rcases Yo.mp hd with hd | hd
     ·exact .inl hd
     ·rw[Yh.mp hd];exact .inr ((Cv.trans s3).free he)
   ·rw[if_neg k2]at hS;have k2:=eq_false_of_ne_true k2;rw[k2];by_cases k3:YN ws=true
    ·rw[if_pos k3]at hS;obtain⟨z,hz,e⟩:=CV.mp hS;cases e;refine AS ⟨Z,a,ws,Y,Xw,BJ,λH3 s3=>⟨Z,?_⟩⟩;rw[k3];refine Av ⟨Z,Z,He,lr,ln,a,rows,Ad,vr,vn,ws,Z,WZ.mono s3,Xw.mono s3,Zr0 k3,hz,ht,λH4 CZ r1 r2 r3 r4=>?_⟩;exact q H4 CZ _ _ r1 r2 (λd hd=>.inl (by rw[show own lr ln CZ=own lr ln Ad by unfold own;rw[r3]]at hd;exact hd)) ((Kp.same (Cv.trans s3)).trans r4)
    ·rw[if_neg k3]at hS;cases hS
def Zye{K:Fg}{C:Addr}{Hx:Hp}{xb dx l:Addr}{rows:RS}{R:Hp->Prop}{E:XK}(nx:Hx xb=none)(ndx:Hx dx=none)(hR:Zd K Hx l rows)(g:Am rows)(h:∀ H',AB Hx H'->CQ C H' xb rows->R H'):
  ff K C [.ref xb,.ref l] (upd (upd Hx dx (.own xb)) xb (.ins C dx [])) (λv H3=>v=.non/\R H3) E:=by
 have Ai:AB Hx (upd (upd Hx dx (.own xb)) xb (.ins C dx [])):=λb o e=>by
  have e1:(upd Hx dx (.own xb)) b=some o:=by rw[AD (AK e ndx)];exact e
  rw[AD (AK e nx)];exact e1
 exact⟨xb,dx,l,rows,Y,uS,hR.mono Ai,g,λH4 kd keep=>⟨Y,h H4 (λb o e=>keep b o (AK e nx) (Ai _ _ e)) kd⟩⟩
def Va.sub{Z Z':Addr->Prop}{C B D:Addr}{H:Hp}{p k:Addr}{rows:RS}{ns:List AI}(h:Va Z C B D H p k rows ns)(s:∀ b,Z' b->Z b):Va Z' C B D H p k rows ns:=by
 obtain⟨dx,bo,mo,o,A6,BD,h1,h2,h3,h4,h5,h6⟩:=h.ex;exact⟨dx,bo,mo,o,A6,BD,h1,h2,h3,h4,h5,h6.imp λn v z=>by
  obtain⟨l,e,b,c⟩:=z;exact⟨l,e,b,λy=>c (s _ y)⟩⟩
def yf{K:Fg}{C B D:Addr}{Hx:Hp}{pb db k l:Addr}{rows:RS}{ns:List AI}{R:Hp->Prop}{E:XK}(nb:Hx pb=none)(ndb:Hx db=none)(kd:CQ C Hx k rows)(g:Am rows)(hN:wZ K Hx l ns)(gn:Cf rows ns)(h:∀ H',AB Hx H'->Va (λb=>∃ o,Hx b=some o) C B D H' pb k rows ns->R H'):
  kC K C B D [.ref pb,.ref k,.ref l] (upd (upd Hx db (.own pb)) pb (.ins D db [])) (λv H3=>v=.non/\R H3) E:=by
 have Ai:AB Hx (upd (upd Hx db (.own pb)) pb (.ins D db [])):=λb o e=>by
  have e1:(upd Hx db (.own pb)) b=some o:=by rw[AD (AK e ndb)];exact e
  rw[AD (AK e nb)];exact e1
 obtain⟨b,vs,hl,hp⟩:=hN;exact⟨pb,db,k,l,rows,ns,Y,uS,kd.mono Ai,g,⟨b,vs,hl.mono Ai,Paired.mapP hp λ_ _ z=>z.mono Ai⟩,gn,λH4 bk keep=>⟨Y,h H4 (λb o e=>keep b o (AK e nb) (Ai _ _ e)) (bk.sub λb z=>by
  obtain⟨o,e⟩:=z;exact⟨o,Ai _ _ e⟩)⟩⟩
structure Z0(t:Str)(ws:LS):Prop where
 sp:Txt.split t " "=ws
 ne:ws≠[]
 few:ws.length<=1000
 sh:∀ x∈ws,x.length<=1000
 len:t.length<=1000
structure pe(x:Str)(rows:List Row)(ns:List AI)(ts:LS)(wss:List (LS)):Prop where
 sp:Txt.split x "\n"=ts
 len:x.length<=100000
 few:ts.length<=9000
 rw_:Paired Z0 ts wss
 run:C1 [] [] wss=some (rows,ns)
def Yb8(C B D:Addr):Sp:=λvs H Q _=>∃(x:Str) (rows:List Row) (ns:List AI) (ts:LS) (wss:List (LS)),vs=[.str x]/\pe x rows ns ts wss/\Am rows/\Cf rows ns /\
 ∀ H' p k,AB H H'->H p=none->Va (λb=>∃ o,H b=some o) C B D H' p k rows ns->Q (.ref p) H'
def Z9w:(("\n":Str).length == 0)=false:=by rfl'
def Z9x:((" ":Str).length == 0)=false:=by rfl'
abbrev nRB:LS:=["text","rows","names","number","row"]
def Ycp:AX nRB ["text"] (AJ lP):=by nofun
set_option maxHeartbeats 8000000 in
def Zrh(F:Def K mg "read_book" lP ["text"] f fd)(enum:mg "enumerate"=none)
  (DT:Def K mg "take_row" lB ag fT fdT) (GT:⋯ 4 fT fdT ag Yb3)
  (M:Mk K C fI) (mgC:mg "Kinds"=some (.ref C)) (bI:Cb K fdI ["self","rows"] []) (GI:⋯ 4 fI fdI ["self","rows"] (ff K C))
  (MD:Mk K D fKI) (mgD:mg "Book"=some (.ref D)) (bD:Cb K fdKI ah []) (GD:⋯ 6 fKI fdKI ah (kC K C B D)):
  ⋯ 8 f fd ["text"] (Yb8 C B D):=by
 nomatch F.fn.ok Ycp
 ·obtain⟨x,rows,ns,ts,wss,rfl,_⟩:=h;rfl
 ·obtain⟨x,rows,ns,ts,wss,rfl,tx,g,gn,q⟩:=h;have nd:=Ycp.nd;have dY:Af 4 _:=hr.mono (by decide);have Xx:Af 5 _:=hr.mono (by decide);have Dl:Af 7 _:=hr.mono (by decide)
  ac_nf
  refine'⟨_,(pS (sE 1 nd (BX AA))
   (pS (sE 2 nd (BX AA))
   (pS (BM Yw rfl (Z0x (by rfl) enum (pC (Be V6 PySem.F.slot_str_split PySem.F.type_str_split yi (pv 0) (pC Ar AA)) AA)) (LJ rfl (gC (gE 3 nd) (gC (gE 4 nd) LL)))
    (AG (AY (CO (Bo (AL DT GT dY (pC (pv 1) (pC (pv 2) (pC (Be V6 PySem.F.slot_str_split PySem.F.type_str_split yi (pv 4) (pC Ar AA)) AA)))))) CK Aa)))
   (AG (AO (gA MD GD Dl rfl mgD bD .nil BA (pC (gA M GI Xx rfl mgC bI .nil BA (pC (pv 1) AA)) (pC (pv 2) AA)))))))),?_⟩
  exists let b:=_;let c:=AF (BS _ _ b) a;let e:=AF _ c;AF _ e _ _ _
  refine⟨Ax _,λlr hlr=>⟨Ax _,λln A8=>?_⟩⟩;have s1:AB H (upd H lr (.lst [])):=AM hlr;have s2:AB (upd H lr (.lst [])) (upd (upd H lr (.lst [])) ln (.lst [])):=AM A8;have h1:(upd (upd H lr (.lst [])) ln (.lst [])) lr=some (.lst []):=s2 _ _ uS;have h2:(upd (upd H lr (.lst [])) ln (.lst [])) ln=some (.lst []):=uS;have nrn:lr≠ln:=λz=>by rw[<- z,uS]at A8;cases A8
  have lnH:H ln=none:=s1.free A8;have Cv:=s1.trans s2;generalize upd (upd H lr (.lst [])) ln (.lst [])=H2 at s2 h1 h2 Cv ⊢;have R2:CM H H2 lr ln [] [] [] []:=⟨Cv,λd hd=>by
   rcases Yv.mp hd with rfl | hd
   ·exact hlr
   rw[Yh.mp hd];exact lnH,by simp[nrn],h1,h2,.nil,.nil⟩
  have xl:=tx.len;have tf:=tx.few;have tw:=Yu tx.rw_;refine⟨Z,Y,x,"\n",Y,Y,Z9w,sL (by omega),by rw[tx.sp];exact sL (by omega),λls hls=>?_⟩;rw[tx.sp];have s3:AB H2 (upd H2 ls (.lst (ts.map V.str))):=AM hls;have h3:(upd H2 ls (.lst (ts.map V.str))) ls=some (.lst (ts.map V.str)):=uS;generalize upd H2 ls (.lst (ts.map V.str))=H3 at s3 h3 ⊢;have nls:ls∉own lr ln []:=λz=>by
   obtain⟨us,e⟩:=R2.some_ z;rw[hls]at e;cases e
  let Au:NW:=λi σ H'=>∃(rs:List Row) (Ad:List (AI×Addr)) (vr vn:LV) (a b:OV),σ=[some (.str x),some (.ref lr),some (.ref ln),a,b]/\CM H H' lr ln rs Ad vr vn/\H' ls=some (.lst (ts.map V.str))/\ls∉own lr ln Ad/\C1 rs (Ad.map (·.1)) (wss.drop i)=some (rows,ns)/\Xs rs (Ad.map (·.1))=i;refine⟨ls,Z,SqL.of h3,gL Au
   ⟨[],[],[],[],none,none,Y,R2.mono s3,h3,nls,tx.run,Y⟩ (λi σ H' _ z=>by obtain⟨_,_,_,_,_,_,_,_,e,_⟩:=z;exact SqL.of e) ?_ ?_⟩
  ·rintro i pr t σ H4 hi ⟨rs,Ad,vr,vn,a,b,rfl,R4,h4,n4,VJ,iL⟩ ht;obtain⟨e1,e2⟩:=Zm3 hi;rw[Yj]at e2;obtain⟨y,hy,e2⟩:=CV.mp e2;obtain⟨ws,hws,rt⟩:=V2 tx.rw_ hy;have As:AB H4 (upd H4 t (.tup [pr.1,pr.2])):=AM ht;have h5:(upd H4 t (.tup [pr.1,pr.2])) t=some (.tup [pr.1,.str y]):=by rw[uS,e2]
   generalize upd H4 t (.tup [pr.1,pr.2])=H5 at As h5 ⊢;refine⟨t,Z,AH.of h5,Y,_,Z,_,Z,Y,?_⟩;have yl:=rt.len;refine⟨Z,Z,Z,Y,y," ",Y,Y,Z9x,sL (by omega),by rw[rt.sp];have:=rt.few;exact sL (by omega),λpw hpw=>?_⟩;rw[rt.sp];have BP:AB H5 (upd H5 pw (.lst (ws.map V.str))):=AM hpw;have h6:(upd H5 pw (.lst (ws.map V.str))) pw=some (.lst (ws.map V.str)):=uS;generalize upd H5 pw (.lst (ws.map V.str))=H6 at BP h6 ⊢;have R6:=(R4.mono As).mono BP;rw[aF (by have:=(Yi.mp hws).1;exact this)]at VJ;have ew:wss[i]'((Yi.mp hws).1)=ws:=(Yi.mp hws).2;rw[ew]at VJ;obtain⟨⟨u5,CH⟩,st,tM⟩:=Option.bind_eq_some_iff.mp (show(LI rs (Ad.map (·.1)) ws).bind (λz=>C1 z.1 z.2 (wss.drop (i + 1)))=some (rows,ns)from VJ);have il:i<ts.length:=(Yi.mp hy).1;refine⟨H,lr,ln,pw,rs,u5,Ad,vr,vn,ws,CH,Y,R6,⟨h6,rt.few,rt.sh⟩,rt.ne,st,W,λH7 CZ nq n5 R7 e7 ow kp=>⟨Z,AS ?_⟩⟩;have vk:=BP _ _ (As _ _ h4);refine⟨u5,CZ,nq,n5,_,Z,R7,kp _ _ n4 vk,λz=>?_,by rw[e7];exact tM,?_⟩
   ·rcases ow _ z with z | z
    ·exact n4 z
    ·rw[vk]at z;cases z
   ·rw[e7,Z0k st,iL]
  ·rintro σ H4 ⟨rs,Ad,vr,vn,a,b,rfl,R4,h4,n4,VJ,iL⟩;rw[rX,Ya,tw,List.drop_length]at VJ;cases VJ;refine⟨Z,?_⟩;intro xb dxb nx ndx nex;refine Zye nx ndx ⟨true,vr,SqL.of R4.hr,Paired.mapP R4.rw_ λr v z=>?_⟩ g λH5 As kd=>?_
   ·obtain⟨t,u,e,h1,h2,_⟩:=z;exact⟨t,u,e,AH.of h1,.inr (SqL.of h2)⟩
   refine⟨Z,?_⟩;intro pb db nb ndb neb;have R5:=R4.mono As;refine yf nb ndb kd g ⟨true,vn,SqL.of R5.hn,?_⟩ gn λH6 BP bk=>?_
   ·refine YT (by rw[Ya];exact Yu R5.nm) λi n v hn hv=>?_;rw[Yj]at hn;obtain⟨z,hz,rfl⟩:=CV.mp hn;obtain⟨v',Uz,t,us,e,h1,h2,h3⟩:=V2 R5.nm hz;rw[hv]at Uz;cases Uz;exact⟨t,z.2,true,us,e,h1,SqL.of h2,h3⟩
   ·have oH:=R4.sm.trans As;exact q H6 pb xb (oH.trans BP) (oH.free nb) (bk.sub λb z=>by
     obtain⟨o,e⟩:=z;exact⟨o,oH _ _ e⟩)
def b_(a b c:Str):(a++b)++c=a++(b++c):=by
 show(⟨(a.cps++b.cps)++c.cps⟩:Str)=⟨a.cps++(b.cps++c.cps)⟩;rw[Array.append_assoc]
def Dn(r:Str)(us:LS):Str:=us.foldl (λr u=>(r++" ")++u) r
theorem br:∀(us:LS) (x:Str),Builtin.Str.glued " " (x :: us)=Dn x us
 | [],x=>rfl
 | u :: us,x=>br us ((x++" ")++u)
def T3(w:Str)(ups:LS):Str:=if ups.isEmpty then "kind "++w else Dn (("kind "++w)++" under") ups
def Ui(w:Str)(c:LS)(m:Str):Str:=(Dn ("deed "++w) c++" gives ")++m
def Sj(n:AI):Str:=(("name "++n.1)++" ")++Str.ofString (toString (n.2.1:Int))
def yK(w:Str):Builtin.Str.glued " " ["kind",w]="kind "++w:=by
 rw[br];show((("kind":Str)++" ")++w)=_;rw[show(("kind":Str)++" ")="kind " by rfl']
def yL(w:Str)(ups:LS):Builtin.Str.glued " " (((["kind",w]:LS)++(["under"]:LS))++ups)=Dn (("kind "++w)++" under") ups:=by
 show Builtin.Str.glued " " ("kind" :: w :: "under" :: ups)=_;rw[br];show Dn (((((("kind":Str)++" ")++w)++" ")++"under")) ups=_;rw[show(("kind":Str)++" ")="kind " by rfl',b_ ("kind "++w) " " "under",show((" ":Str)++"under")=" under" by rfl']
def wQ(w:Str)(c:LS)(m:Str):Builtin.Str.glued " " (((["deed",w]:LS)++c)++(["gives",m]:LS))=Ui w c m:=by
 show Builtin.Str.glued " " ("deed" :: w :: (c++(["gives",m]:LS)))=_;rw[br];show Dn ((("deed":Str)++" ")++w) (c++(["gives",m]:LS))=_;rw[show(("deed":Str)++" ")="deed " by rfl'];unfold Dn Ui;rw[List.foldl_append];show((((Dn ("deed "++w) c++" ")++"gives")++" ")++m)=_;rw[b_ (Dn ("deed "++w) c) " " "gives",b_ (Dn ("deed "++w) c) (" "++"gives") " ",show(((" ":Str)++"gives")++" ")=" gives " by rfl']
theorem p7:∀ {us:LS}{r:Str},(∀ u∈us,u.length<=8)->(Dn r us).length<=r.length + 9 * us.length
 | [],r,_=>by show r.length<=_;omega
 | u :: us,r,h=>by
  have h1:=p7 (us:=us) (r:=(r++" ")++u) λx hx=>h x (.tail _ hx);have h2:=h u (.head _);rw[strLen_append,strLen_append]at h1;have h3:(" ":Str).length=1:=by rfl'
  show(Dn ((r++" ")++u) us).length<=_;rw[Yt];omega
def yJ{w:Str}{ups:LS}(hw:w.length<=8)(hl:ups.length<=8)(h:∀ u∈ups,u.length<=8):(T3 w ups).length<=100:=by
 have h3:("kind ":Str).length=5:=by rfl'
 have h4:(" under":Str).length=6:=by rfl'
 unfold T3;split
 ·rw[strLen_append];omega
 ·have h1:=p7 (r:=("kind "++w)++" under") h;rw[strLen_append,strLen_append]at h1;omega
def Z2j{w m:Str}{c:LS}(hw:w.length<=8)(hm:m.length<=8)(hl:c.length<=4)(h:∀ u∈c,u.length<=8):(Ui w c m).length<=100:=by
 have h3:("deed ":Str).length=5:=by rfl'
 have h4:(" gives ":Str).length=7:=by rfl'
 have h1:=p7 (r:="deed "++w) h;unfold Ui;rw[strLen_append]at h1;rw[strLen_append,strLen_append];omega
def Z4x:∀ {n:Nat},1<=n->n<=4->(Str.ofString (toString (n:Int))).length<=1
 | 1,_,_=>by rfl'
 | 2,_,_=>by rfl'
 | 3,_,_=>by rfl'
 | 4,_,_=>by rfl'
 | 0,h,_=>by omega
 | n + 5,_,h=>by omega
def Z1u{n:AI}(hw:n.1.length<=8)(h1:1<=n.2.1)(h4:n.2.1<=4):(Sj n).length<=100:=by
 have a:=Z4x h1 h4;have h3:("name ":Str).length=5:=by rfl'
 have h5:(" ":Str).length=1:=by rfl'
 unfold Sj;rw[strLen_append,strLen_append,strLen_append];omega
def C3(n:AI):LS:=Sj n :: n.2.2.map λp=>Ui n.1 p.1 p.2
def Df(rows:RS):LS:=rows.map λr=>T3 r.1 r.2
def U9(rows:RS)(ns:List AI):LS:=Df rows++ns.flatMap C3
def Zw7{rows:RS}(g:Am rows){n:AI}(h:YM rows n):(C3 n).length<=65/\∀ y∈C3 n,y.length<=100:=by
 have hf:=h.deeds.few;rw[Ya]at hf;refine⟨by unfold C3;rw[Yt,Ya];omega,λy hy=>?_⟩
 rcases Yv.mp hy with e | hy
 ·rw[e];exact Z1u (Dh h.word).2 h.one h.four
 ·obtain⟨p,hp,e⟩:=Yg.mp hy;have gc:=h.deeds.call p.1 (Yg.mpr ⟨p,hp,Y⟩);have wd:∀ x∈rows.map (·.1),x.length<=8:=λx hx=>by
   obtain⟨r,hr,e⟩:=Yg.mp hx;rw[<- e];exact(Dh (g.word r hr)).2
  rw[<- e];exact Z2j (Dh h.word).2 (wd _ (h.made p hp)) (by rw[gc.len];exact h.four) λu hu=>wd _ (gc.known u hu)
theorem kM{rows:RS}(g:Am rows):∀ {ns:List AI},(∀ n∈ns,YM rows n)->(ns.flatMap C3).length<=65 * ns.length/\∀ y∈ns.flatMap C3,y.length<=100
 | [],_=>⟨Yf _,λ_ h=>nomatch h⟩
 | n :: ns,h=>by
  obtain⟨a,b⟩:=Zw7 g (h n (.head _));obtain⟨c,d⟩:=kM g (ns:=ns) λm hm=>h m (.tail _ hm);rw[W6,Yc,Yt];exact⟨W,λy hy=>(Yo.mp hy).elim (b y) (d y)⟩
def Zyt{rows:RS}(g:Am rows):∀ y∈Df rows,y.length<=100:=λy hy=>by
 obtain⟨r,hr,e⟩:=Yg.mp hy;rw[<- e];refine yJ (Dh (g.word r hr)).2 (g.few r hr) λu hu=>?_;obtain⟨r',Az,e'⟩:=Yg.mp (g.known r hr u hu);rw[<- e'];exact(Dh (g.word r' Az)).2
def rL{rows:RS}{ns:List AI}(g:Am rows)(h:Cf rows ns):(U9 rows ns).length<=544/\∀ y∈U9 rows ns,y.length<=100:=by
 obtain⟨a,b⟩:=kM g h.each;have c:=h.few;have d:=g.le;unfold U9;rw[Yc];refine⟨by unfold Df;rw[Ya];omega,λy hy=>(Yo.mp hy).elim (Zyt g y) (b y)⟩
def Z21:Sp:=λvs H Q _=>∃(w:Str) (t:Addr) (ups:LS),vs=[.str w,.ref t]/\H t=some (.tup (ups.map V.str))/\w.length<=8/\ups.length<=8/\(∀ u∈ups,u.length<=8)/\∀ H',AB H H'->Q (.str (T3 w ups)) H'
def Z22:Sp:=λvs H Q _=>∃(w m:Str) (t:Addr) (c:LS),vs=[.str w,.ref t,.str m]/\H t=some (.tup (c.map V.str))/\w.length<=8/\m.length<=8/\c.length<=4/\(∀ u∈c,u.length<=8)/\∀ H',AB H H'->Q (.str (Ui w c m)) H'
def Ycv:AX ["word","ups","words"] ["word","ups"] (AJ kz):=by nofun
def Z4s(F:Def K mg "kind_row" kz ["word","ups"] f fd)(list:mg "list"=none):⋯ 1 f fd ["word","ups"] Z21:=by
 nomatch F.fn.ok Ycv
 ·obtain⟨x,t,ups,rfl,_⟩:=h;rfl
 ·obtain⟨x,t,ups,rfl,ht,hx,hl,og,q⟩:=h;have nd:=Ycv.nd
  ac_nf
  refine'⟨_,(pS (sE 2 nd (BX (pC Ar (pC (pv 0) AA))))
   (pS (AY (gK (pv 1) (λ_=>rfl)) (AG (sE 2 nd (AU bU (AU bU (pv 2) (BX (pC Ar AA))) (Co cB (by rfl) list W2 (pC (pv 1) AA))))) Aa)
   (AG (AO (Be V6 Y2 Y1 bZ Ar (pC (pv 2) AA)))))),?_⟩
  exists let b:=_;let c:=AF (By _ b _) a;AF _ c _ _ _
  have e1:(" ":Str).length=1:=by rfl'
  have ek:("kind":Str).length=4:=by rfl'
  have eu:("under":Str).length=5:=by rfl'
  refine⟨Z,U,λl WX=>?_⟩;have s1:AB H (upd H l (.lst [.str "kind",.str x])):=AM WX;have Aw:(upd H l (.lst [.str "kind",.str x])) l=some (.lst [.str "kind",.str x]):=uS;generalize upd H l (.lst [.str "kind",.str x])=H1 at s1 Aw;refine⟨Z,_,.inr (.inl ⟨_,AH.of (s1 _ _ ht),Y⟩),A1 (λz=>?_) (λz=>?_)⟩
  ·have ne:ups.isEmpty=false:=by
    cases ups with
    | nil=>cases z
    | cons=>rfl
   refine⟨Z,O,λl2 Ap=>?_⟩;have BE:AB H1 (upd H1 l2 (.lst [.str "under"])):=AM Ap;have WI:(upd H1 l2 (.lst [.str "under"])) l2=some (.lst [.str "under"]):=uS;generalize upd H1 l2 (.lst [.str "under"])=H2 at BE WI;refine⟨l,l2,_,Z,Y,BE _ _ Aw,WI,sL (by show 3<=100000;decide),λl3 LB=>?_⟩;have A9:AB H2 (upd H2 l3 (.lst ([.str "kind",.str x]++[.str "under"]))):=AM LB;have WH:(upd H2 l3 (.lst ([.str "kind",.str x]++[.str "under"]))) l3=some (.lst ([.str "kind",.str x]++[.str "under"])):=uS;generalize upd H2 l3 (.lst ([.str "kind",.str x]++[.str "under"]))=H3 at A9 WH;have s3:=(s1.trans BE).trans A9;refine⟨Z,t,Z,.inr (AH.of (s3 _ _ ht)),λl4 DY=>?_⟩;have Ai:AB H3 (upd H3 l4 (.lst (ups.map V.str))):=AM DY;have WG:(upd H3 l4 (.lst (ups.map V.str))) l4=some (.lst (ups.map V.str)):=uS;generalize upd H3 l4 (.lst (ups.map V.str))=H4 at Ai WG;refine⟨l3,l4,_,Z,Y,Ai _ _ WH,WG,sL (by rw[Ya];show 3 + _<=_;omega),λl5 SX=>?_⟩;have As:AB H4 (upd H4 l5 (.lst (([.str "kind",.str x]++[.str "under"])++ups.map V.str))):=AM SX;have WE:(upd H4 l5 (.lst (([.str "kind",.str x]++[.str "under"])++ups.map V.str))) l5=some (.lst ((((["kind",x]:LS)++(["under"]:LS))++ups).map V.str)):=uS;generalize upd H4 l5 (.lst (([.str "kind",.str x]++[.str "under"])++ups.map V.str))=H5 at As WE;refine⟨Y,Z,_,l5,_,8,Y,Y,WE,λy hy=>?_,?_,?_⟩
   ·rcases Yo.mp hy with hy | hy
    ·rcases Yo.mp hy with hy | hy
     ·rcases Yv.mp hy with e | hy
      ·rw[e];omega
      ·rw[Yh.mp hy];exact hx
     ·rw[Yh.mp hy];omega
    ·exact og y hy
   ·rw[Yc,e1];show(3 + _) * 8 + (3 + _) * 1<=_;omega
   ·rw[yL];have:T3 x ups=Dn (("kind "++x)++" under") ups:=by unfold T3;rw[ne];rfl
    rw[<- this];exact q _ ((s3.trans Ai).trans As)
  ·have e:ups=[]:=by
    cases ups with
    | nil=>rfl
    | cons=>exact absurd rfl z
   subst e;refine⟨Y,Z,_,l,(["kind",x]:LS),8,Y,Y,Aw,λy hy=>?_,?_,?_⟩
   ·rcases Yv.mp hy with e | hy
    ·rw[e];omega
    ·rw[Yh.mp hy];exact hx
   ·rw[e1];show 2 * 8 + 2 * 1<=_;omega
   ·rw[yK];exact q _ s1
def Yc3:AX ["word","call","made"] ["word","call","made"] (AJ ku):=by nofun
def Z4u(F:Def K mg "deed_row" ku ["word","call","made"] f fd)(list:mg "list"=none):⋯ 1 f fd ["word","call","made"] Z22:=by
 nomatch F.fn.ok Yc3
 ·obtain⟨x,m,t,c,rfl,_⟩:=h;rfl
 ·obtain⟨x,m,t,c,rfl,ht,hx,hm,hl,og,q⟩:=h;have nd:=Yc3.nd
  ac_nf
  refine'⟨_,AG (AO (Be V6 Y2 Y1 bZ Ar (pC (AU bU (AU bU (BX (pC Ar (pC (pv 0) AA))) (Co cB (by rfl) list W2 (pC (pv 1) AA))) (BX (pC Ar (pC (pv 2) AA)))) AA))),?_⟩;have e1:(" ":Str).length=1:=by rfl'
  have ek:("deed":Str).length=4:=by rfl'
  have eu:("gives":Str).length=5:=by rfl'
  refine⟨Y,Z,U,λl WX=>?_⟩;have s1:AB H (upd H l (.lst [.str "deed",.str x])):=AM WX;have Aw:(upd H l (.lst [.str "deed",.str x])) l=some (.lst [.str "deed",.str x]):=uS;generalize upd H l (.lst [.str "deed",.str x])=H1 at s1 Aw;refine⟨Z,t,Z,.inr (AH.of (s1 _ _ ht)),λl2 Ap=>?_⟩;have BE:AB H1 (upd H1 l2 (.lst (c.map V.str))):=AM Ap;have WI:(upd H1 l2 (.lst (c.map V.str))) l2=some (.lst (c.map V.str)):=uS;generalize upd H1 l2 (.lst (c.map V.str))=H2 at BE WI;refine⟨l,l2,_,Z,Y,BE _ _ Aw,WI,sL (by rw[Ya];show 2 + _<=_;omega),λl3 LB=>?_⟩;have A9:AB H2 (upd H2 l3 (.lst ([.str "deed",.str x]++c.map V.str))):=AM LB;have WH:(upd H2 l3 (.lst ([.str "deed",.str x]++c.map V.str))) l3=some (.lst ([.str "deed",.str x]++c.map V.str)):=uS;generalize upd H2 l3 (.lst ([.str "deed",.str x]++c.map V.str))=H3 at A9 WH;refine⟨Z,U,λl4 DY=>?_⟩;have Ai:AB H3 (upd H3 l4 (.lst [.str "gives",.str m])):=AM DY;have WG:(upd H3 l4 (.lst [.str "gives",.str m])) l4=some (.lst [.str "gives",.str m]):=uS;generalize upd H3 l4 (.lst [.str "gives",.str m])=H4 at Ai WG;refine⟨l3,l4,_,Z,Y,Ai _ _ WH,WG,sL (by rw[Yc,Ya];show 2 + _ + 2<=_;omega),λl5 SX=>?_⟩;have As:AB H4 (upd H4 l5 (.lst (([.str "deed",.str x]++c.map V.str)++[.str "gives",.str m]))):=AM SX;have WE:(upd H4 l5 (.lst (([.str "deed",.str x]++c.map V.str)++[.str "gives",.str m]))) l5=some (.lst ((((["deed",x]:LS)++c)++(["gives",m]:LS)).map V.str)):=by rw[uS,Ys,Ys];rfl
  generalize upd H4 l5 (.lst (([.str "deed",.str x]++c.map V.str)++[.str "gives",.str m]))=H5 at As WE;refine⟨_,l5,_,8,Y,Y,WE,λy hy=>?_,?_,?_⟩
  ·rcases Yo.mp hy with hy | hy
   ·rcases Yo.mp hy with hy | hy
    ·rcases Yv.mp hy with e | hy
     ·rw[e];omega
     ·rw[Yh.mp hy];exact hx
    ·exact og y hy
   ·rcases Yv.mp hy with e | hy
    ·rw[e];omega
    ·rw[Yh.mp hy];exact hm
  ·rw[Yc,Yc,e1];show(2 + _ + 2) * 8 + (2 + _ + 2) * 1<=_;omega
  ·rw[wQ];exact q _ (((s1.trans BE).trans A9).trans (Ai.trans As))
def xt{α:Type}{K:Fg}{J:It}{vs:LV}{Ok:Hp->Prop}(R:Sd J vs Ok){js:LN}{te:TE}{σ:St}{Q:VK}{H1:Hp}(hz:vs.length<=1000){xs:List α}(F:α->Str)(Pa:α->V->V->Prop)
  (hp:Paired (λx v=>∃ t a b,v=.ref t/\H1 t=some (.tup [a,b])/\Pa x a b) xs vs) (hok:∀ H,AB H1 H->Ok H)
  (he:∀ x a b H' (R:VK),AB H1 H'->x∈xs->Pa x a b->(∀ Uu,AB H' Uu->R (.str (F x)) Uu)->te (some a :: some b :: js.map λj=>(σ[j]?).join) H' R)
  (hd:∀ D H',H1 D=none->AB H1 H'->H' D=some (.lst ((xs.map F).map V.str))->Q (.ref D) H'):AQ 2 js (g2 K 0 1) XM te σ Q J H1:=by
 have vl:=Yu hp;let Au:Addr->Nat->LV->St->Hp->Prop:=λD i ys σ' H=>H1 D=none/\AB H1 H/\H D=some (.lst ys)/\ys=((xs.take i).map F).map V.str/\∃ o u,σ'=o :: u :: js.map λj=>(σ[j]?).join;refine VC R (sL (by omega)) Au ?_ ?_ ?_ ?_
 ·intro D hD;exact⟨hD,AM hD,uS,by rw[Dz];rfl,none,none,Y⟩
 ·rintro D i ys σ' H hi ⟨hD,hs,hl,q,_⟩;refine⟨hok H hs,?_⟩;rw[q,Ya,Ya,Bg];omega
 ·rintro D i v ys σ' H hD hx ⟨_,hs,hl,q,o,u,rfl⟩;obtain⟨x,hxi,t,a,b,rfl,hxt,pa⟩:=Bp hp hx;refine sC (AH.of (hs _ _ hxt)) ?_;refine he x a b H _ hs (Yd hxi) pa λH4 s4=>?_;have Wa:=s4 _ _ hl;refine⟨Wa,hD,λb o e=>by rw[AD (AK e hD)];exact s4 _ _ (hs _ _ e),uS,?_,_,Z⟩;rw[Bt,hxi,q,Ys,Ys];rfl
 ·rintro D ys σ' H hD ⟨_,hs,hl,q,_⟩;rw[<- vl,Bs]at q;exact hd D H hD hs (by rw[hl,q])
def xS(C B D:Addr):Sp:=λvs H Q _=>∃(p k:Addr) (rows:RS) (ns:List AI),vs=[.ref p]/\Sk C B D H p k rows ns/\Am rows/\Cf rows ns/\∀ l H',H l=none->AB H H'->H' l=some (.lst ((U9 rows ns).map V.str))->Q (.ref l) H'
def xT(C B D:Addr):Sp:=λvs H Q _=>∃(p k:Addr) (rows:RS) (ns:List AI),vs=[.ref p]/\Sk C B D H p k rows ns/\Am rows/\Cf rows ns/\∀ H',AB H H'->Q (.str (Builtin.Str.glued "\n" (U9 rows ns))) H'
def KPa(H:Hp)(r:Str×LS)(a b:V):Prop:=a=.str r.1/\∃ t,b=.ref t/\H t=some (.tup (r.2.map V.str))
def DPa(H:Hp)(r:LS×Str)(a b:V):Prop:=b=.str r.2/\∃ t,a=.ref t/\H t=some (.tup (r.1.map V.str))
def Z39{H:Hp}{rows:RS}{vs:LV}(h:Paired (Z1 H) rows vs):Paired (λx v=>∃ t a b,v=V.ref t/\H t=some (.tup [a,b])/\KPa H x a b) rows vs:=Paired.mapP h λr v ⟨t,t2,e,h1,h2⟩=>⟨t,_,_,e,h1,Y,t2,Y,h2⟩
def Z7j{H:Hp}{ps:List (LS×Str)}{vs:LV}(h:Cg H ps vs):Paired (λx v=>∃ t a b,v=V.ref t/\H t=some (.tup [a,b])/\DPa H x a b) ps vs:=Paired.mapP h λr v ⟨t,tc,e,h1,h2⟩=>⟨t,_,_,e,h1,Y,tc,Y,h2⟩
def cV{rows:RS}(g:Am rows):∀ x∈rows.map (·.1),x.length<=8:=λx hx=>by
 obtain⟨r,hr,e⟩:=Yg.mp hx;rw[<- e];exact(Dh (g.word r hr)).2
def Z8g(n:AI):((((Str.empty++"name ")++n.1)++" ")++Str.ofString (toString (n.2.1:Int)))=Sj n:=by
 rw[show(Str.empty++("name ":Str))="name " by rfl'];rfl
def Yav:(["word","ups"]:LS).Nodup:=by rfl'
def Z8b:(["call","made","word"]:LS).Nodup:=by rfl'
abbrev oV:LS:=["book","rows","word","places","deeds"]
def Yc9:AX oV ["book"] (AJ cI):=by nofun
set_option maxHeartbeats 8000000 in
def Z1j(F:Def K mg "book_rows" cI ["book"] f fd)(TD:U8 K D)(TC:Tx K C)(list:mg "list"=none)
  (MK:qY K D fK fdK) (MN:wX K D fN fdN) (GN:⋯ 2 fN fdN ["self"] (qv C B D)) (MR:Sb K C "rows" "Kinds.rows" gY ["self"] fR fdR)
  (DK:Def K mg "kind_row" kz ["word","ups"] fKR fdKR) (DD:Def K mg "deed_row" ku ["word","call","made"] fDR fdDR):⋯ 3 f fd ["book"] (xS C B D):=by
 have GK:⋯ 1 fK fdK ["self"] (kY C B D):=rG MK.fn TD;have GR:⋯ 1 fR fdR ["self"] (qy C):=zN MR.fn TC list;have GKR:⋯ 1 fKR fdKR ["word","ups"] Z21:=Z4s DK list;have GDR:⋯ 1 fDR fdDR ["word","call","made"] Z22:=Z4u DD list
 nomatch F.fn.ok Yc9
 ·obtain⟨p,k,rows,ns,rfl,_⟩:=h;rfl
 ·obtain⟨p,k,rows,ns,rfl,bk,g,gn,q⟩:=h;have nd:=Yc9.nd;have AZ:Af 1 _:=hr.mono (by decide);have B6:Af 2 _:=hr.mono (by decide)
  ac_nf
  refine'⟨_,(pS ?eK
   (pS (BM Yw rfl (CD (DJ (pv 0) TD.cl MN.me GN hr MN.b .nil BA)) (LJ rfl (gC (BN (i:=2) nd rfl (Or.inr rfl)) (gC (gE 3 nd) (gC (gE 4 nd) LL))))
    (pS (Bc (Be Cs Dy Dx Di (pv 1) (pC (yP (YJ jv (YJ (qD (pv 2)) (YJ jv (YJ (Z7g (pv 3)) xF))))) AA)))
   (AG (Bc (Be Cs PySem.F.slot_list_extend PySem.F.type_list_extend Zyd (pv 1) (pC ?eD AA))))))
   (AG (AO (pv 1))))),?_⟩
  case eK=>exact(Zw (k:=1) ["word","ups"] [] [] nd rfl rfl (λ_=>BH (osc:=AJ cI) (on:=oV) (by rfl') rfl rfl rfl) (CD (DJ (DJ (pv 0) TD.cl MK.me GK AZ MK.b .nil BA) TC.cl MR.me GR AZ MR.b .nil BA)) (λC s H fp=>Zj (K:=K) (i:=0) (j:=1) rfl rfl Yav rfl rfl (Or.inl rfl) (Or.inl rfl) (Or.inr rfl) (Or.inr rfl)) (λC s H fp=>Bn) (λC s H fp=>AL DK GKR AZ (pC (pv 0) (pC (pv 1) AA))))
  case eD=>exact(Bm ["call","made"] ["word"] [2] (λ_=>BH (osc:=AJ cI) (on:=oV) (by rfl') rfl rfl rfl) (UQ (pv 4)) (λC s H fp=>Zj (K:=K) (i:=0) (j:=1) rfl rfl Z8b rfl rfl (Or.inl rfl) (Or.inl rfl) (Or.inr rfl) (Or.inr rfl)) (λC s H fp=>Bn) (λC s H fp=>AL DD GDR AZ (pC (pv 2) (pC (pv 0) (pC (pv 1) AA)))))
  exists let b:=_;let c:=AF _ b;let e:=AF (BS _ _ c) a;AF _ e _ _ _
  obtain⟨dx,bo,mo,o,A6,BD,h1,h2,h3,h4,h5,h6⟩:=bk.ex;obtain⟨dxk,dk,ak,okk,oak,kvs,AR,LD,_⟩:=h2.ex;refine⟨Z,p,dx,Z,h1,rE _ _ _,p,k,rows,ns,Y,bk,k,dxk,Z,LD,qo _ _,k,rows,Y,h2,g,λlr H1 hlr s1 VR=>?_⟩;obtain⟨vs,hvs,hP⟩:=VR;have vl:=Yu hP;have gle:=g.le;have few:=gn.few;refine⟨lr,Y,⟨_,SqL.of hvs⟩,xt (CU (xs:=vs)) (by omega) (λr=>T3 r.1 r.2) (KPa H1) (Z39 hP) (λH' s=>SqL.of (s _ _ hvs)) ?_ λl H2 hl BE Ap=>?_⟩
  ·rintro x a b H' R s' hx ⟨rfl,t,rfl,ht⟩ hR;exact⟨Z,Z,x.1,t,x.2,Y,s' _ _ ht,(Dh (g.word x hx)).2,g.few x hx,λu hu=>cV g u (g.known x hx u hu),hR⟩
  have s2:=s1.trans BE;have hlH:H l=none:=s1.free hl;refine⟨Z,p,dx,Z,s2 _ _ h1,zF _ _ _,p,k,rows,ns,Y,bk.mono s2,gn,λlf fs H3 hlf A9 WD jf=>?_⟩;have LB:=A9 _ _ Ap;have lfl:lf≠l:=λz=>by rw[z,Ap]at hlf;cases hlf
  have fl:=Yu jf;let D0:NW:=λi σ H'=>∃ x2 x3 x4:OV,σ=[some (.ref p),some (.ref l),x2,x3,x4]/\(∀ b o,b≠l->H3 b=some o->H' b=some o)/\H' l=some (.lst ((Df rows++(ns.take i).flatMap C3).map V.str));refine⟨lf,Y,⟨_,SqL.of WD⟩,Bz (CU (xs:=fs)) D0
   ⟨none,none,none,Y,λ_ _ _ e=>e,by rw[Dz,List.flatMap_nil,C5];exact LB⟩ (λi σ H' _ h0=>by obtain⟨_,_,_,_,s,_⟩:=h0;exact SqL.of (s _ _ lfl WD)) ?_ ?_⟩
  ·rintro i v σ H4 hi ⟨x2,x3,x4,rfl,Ai,DY⟩;obtain⟨n,hn,t,tp,ws,rfl,ht,htp,hD⟩:=Bp jf hi;have Ak:n∈ns:=Yd hn;have Bi:=gn.each n Ak;have tk:∀ b xs,H3 b=some (.tup xs)->H4 b=some (.tup xs):=λb xs e=>Ai _ _ (λz=>by rw[z,LB]at e;cases e) e;have pl:(Df rows++(ns.take i).flatMap C3).length<=544:=by
    have:=(kM g (ns:=ns.take i) λm hm=>gn.each m (cb hm)).1;rw[Bg]at this;rw[Yc];unfold Df;rw[Ya];omega
   have n1:=Bi.one;have n4:=Bi.four;have nw:=(Dh Bi.word).2;have wl:=Yu hD;have dl:=Bi.deeds.few;rw[Ya]at dl;refine⟨t,Z,AH.of (tk _ _ ht),Y,_,Z,_,Z,_,Z,Y,?_⟩;refine⟨Z,.inl ⟨Y,_,SqL.of DY⟩,by rfl',Z,n.1,Y,W,by rfl',Z,(n.2.1:Int),Y,W,l,_,Z,Y,DY,Bq (by rw[Ya];omega),?_⟩;rw[Z8g];have As:∀ b o,b≠l->H4 b=some o->(upd H4 l (.lst ((Df rows++(ns.take i).flatMap C3).map V.str++[V.str (Sj n)]))) b=some o:=λb o hb e=>by rw[AD hb];exact e
   have SX:(upd H4 l (.lst ((Df rows++(ns.take i).flatMap C3).map V.str++[V.str (Sj n)]))) l=some (.lst ((Df rows++(ns.take i).flatMap C3).map V.str++[V.str (Sj n)])):=uS;generalize upd H4 l (.lst ((Df rows++(ns.take i).flatMap C3).map V.str++[V.str (Sj n)]))=H5 at As SX;have W9:∀ b xs,H3 b=some (.tup xs)->H5 b=some (.tup xs):=λb xs e=>As _ _ (λz=>by rw[z,LB]at e;cases e) (tk _ _ e);refine⟨Z,.inl ⟨Y,_,SqL.of SX⟩,Z,tp,Y,⟨_,AH.of (W9 _ _ htp)⟩,xt (Uo (xs:=ws)) (by omega) (λx=>Ui n.1 x.1 x.2) (DPa H5) (Z7j (hD.mono W9)) (λH' s=>AH.of (s _ _ (W9 _ _ htp))) ?_ λlc H6 hlc BP uC=>?_⟩
   ·rintro x a b H' R s' hx ⟨rfl,tc,rfl,htc⟩ hR;have gc:=Bi.deeds.call x.1 (Yg.mpr ⟨x,hx,Y⟩);exact⟨Z,Z,Z,n.1,x.2,tc,x.1,Y,s' _ _ htc,nw,cV g _ (Bi.made x hx),by rw[gc.len];exact n4,λu hu=>cV g u (gc.known u hu),hR⟩
   ·have VQ:=BP _ _ SX;have e6:((Df rows++(ns.take i).flatMap C3).map V.str++[V.str (Sj n)])++(n.2.2.map λx=>Ui n.1 x.1 x.2).map V.str=(Df rows++(ns.take (i + 1)).flatMap C3).map V.str:=by
     rw[Bt,hn];simp[C3,mj]
    refine⟨l,lc,_,Z,Y,VQ,uC,sL (by simp only[Yc,Ya,Yt,List.length_nil]at pl ⊢;omega),?_⟩;rw[e6];exact⟨_,_,Z,λb o hb e=>by rw[AD hb];exact BP _ _ (As _ _ hb (Ai _ _ hb e)),uS⟩
  ·rintro σ H4 ⟨x2,x3,x4,rfl,Ai,DY⟩;rw[<- fl,Bs]at DY;exact⟨Z,q l H4 hlH (λb o e=>Ai _ _ (AK e hlH) (A9 _ _ (s2 _ _ e))) DY⟩
def Yek:AX ["book"] ["book"] (AJ lM):=by nofun
def Z1i(F:Def K mg "book_text" lM ["book"] f fd)(DR:Def K mg "book_rows" cI ["book"] fR fdR)(GR:⋯ 3 fR fdR ["book"] (xS C B D)):⋯ 4 f fd ["book"] (xT C B D):=by
 nomatch F.fn.ok Yek
 ·obtain⟨p,k,rows,ns,rfl,_⟩:=h;rfl
 ·obtain⟨p,k,rows,ns,rfl,bk,g,gn,q⟩:=h
  ac_nf
  refine'⟨_,AG (AO (Be V6 Y2 Y1 bZ Ar (pC (AL DR GR hr (pC (pv 0) AA)) AA))),?_⟩;have e1:("\n":Str).length=1:=by rfl'
  obtain⟨bl,WL⟩:=rL g gn;refine⟨Y,Z,p,k,rows,ns,Y,bk,g,gn,λl H1 hl s1 Aw=>?_⟩;exact⟨_,l,_,100,Y,Y,Aw,WL,by rw[e1];omega,q H1 s1⟩
def Wg(n:Nat):Str:=Str.ofString (toString (n:Int))
def kW(r:Row):LS:="kind" :: r.1 :: (if r.2.isEmpty then[]else "under" :: r.2)
def nW(n:AI):LS:=["name",n.1,Wg n.2.1]
def dW(x:Str)(c:LS)(m:Str):LS:=((["deed",x]:LS)++c)++(["gives",m]:LS)
def Z12(r:Row):T3 r.1 r.2=Builtin.Str.glued " " (kW r):=by
 unfold T3 kW;cases h:r.2.isEmpty with
 | true=>exact(yK r.1).symm
 | false=>exact(yL r.1 r.2).symm
def Z1t(n:AI):Sj n=Builtin.Str.glued " " (nW n):=by
 unfold nW;rw[br];show _=(((("name":Str)++" ")++n.1)++" ")++Wg n.2.1;rw[show(("name":Str)++" ")="name " by rfl'];rfl
def Z2i(x:Str)(c:LS)(m:Str):Ui x c m=Builtin.Str.glued " " (dW x c m):=(wQ x c m).symm
def wm{c:Nat}(h:¬ (97<=c/\c<=122)){x:Str}(hx:AW x=true):c∉x.cps.toList:=λz=>by
 have:=((V0 x).mp hx).2 c z;unfold U_ at this;exact h (Je this)
def Xc(x:Str):Prop:=32∉x.cps.toList/\10∉x.cps.toList/\x.length<=8
def b6{x:Str}(h:AW x=true):Xc x:=⟨wm (by decide) h,wm (by decide) h,(Dh h).2⟩
def yC{n:Nat}(h1:1<=n)(h4:n<=4):Xc (Wg n):=by
 have h:n=1\/n=2\/n=3\/n=4:=by omega
 unfold Xc
 rcases h with rfl | rfl | rfl | rfl <;> rfl'
def Z8v{n:Nat}(h1:1<=n)(h4:n<=4):Wg n∈VX/\cR (Wg n)=n:=by
 have h:n=1\/n=2\/n=3\/n=4:=by omega
 rcases h with rfl | rfl | rfl | rfl <;> exact⟨by rfl',by rfl'⟩
def Zu7{c d:Nat}(cd:d≠c):∀ {xs:LS},(∀ x∈xs,d∉x.cps.toList)->d∉(Builtin.Str.glued (sgn c) xs).cps.toList:=by
 intro xs h;rw[StrLaws.glued_eq_join]
 induction xs with
 | nil=>exact λz=>nomatch z
 | cons x r ih =>
  cases r with
  | nil=>exact h x Yy
  | cons y r =>
   rw[gD];intro z
   rcases Yo.mp z with z | z
   ·exact h x Yy z
   rcases Yv.mp z with z | z
   ·exact cd z
   ·exact ih (λu hu=>h u (Yr _ hu)) z
def rA{c B:Nat}:∀ {xs:LS},(∀ x∈xs,x.length<=B)->(Builtin.Str.glued (sgn c) xs).length<=xs.length * (B + 1):=by
 intro xs h;rw[StrLaws.glued_eq_join]
 induction xs with
 | nil=>exact Ax _
 | cons x r ih =>
  have hx:=h x Yy;cases r with
  | nil =>
   show x.length<=1 * (B + 1);omega
  | cons y r =>
   have e:(Str.join (sgn c) (x :: y :: r)).length=x.length + 1 + (Str.join (sgn c) (y :: r)).length:=by
    show(x++sgn c++Str.join (sgn c) (y :: r)).length=_;rw[strLen_append,strLen_append];rfl
   have:=ih (λu hu=>h u (Yr _ hu));rw[e,Yt,Nat.succ_mul];omega
def qI{t:Str}{ws:LS}(e:t=Builtin.Str.glued " " ws)(BJ:ws≠[])(few:ws.length<=100)(h:∀ x∈ws,Xc x):Z0 t ws/\10∉t.cps.toList:=by
 have b:(" ":Str)=sgn 32:=rfl;have l8:∀ x∈ws,x.length<=8:=λx hx=>(h x hx).2.2;rw[e,b];refine⟨⟨Zky BJ λp hp=>(h p hp).1,BJ,W,λx hx=>by have:=l8 x hx;omega,?_⟩,Zu7 (by decide) λx hx=>(h x hx).2.1⟩;have:=rA (c:=32) l8;omega
def Z8p{r:Row}(hw:AW r.1=true)(hl:r.2.length<=8)(hu:∀ u∈r.2,AW u=true):Z0 (T3 r.1 r.2) (kW r)/\10∉(T3 r.1 r.2).cps.toList:=by
 refine qI (Z12 r) (g9 _ _) ?_ λx hx=>?_
 ·unfold kW;split
  ·show 2<=100;decide
  ·show r.2.length + 1 + 1 + 1<=100;omega
 ·rcases Yv.mp hx with rfl | hx
  ·unfold Xc;rfl'
  rcases Yv.mp hx with rfl | hx
  ·exact b6 hw
  split at hx
  ·exact nomatch hx
  ·rcases Yv.mp hx with rfl | hx
   ·unfold Xc;rfl'
   ·exact b6 (hu x hx)
def Z8f{n:AI}(hw:AW n.1=true)(h1:1<=n.2.1)(h4:n.2.1<=4):Z0 (Sj n) (nW n)/\10∉(Sj n).cps.toList:=by
 refine qI (Z1t n) (g9 _ _) (by show 3<=100;decide) λx hx=>?_
 rcases Yv.mp hx with rfl | hx
 ·unfold Xc;rfl'
 rcases Yv.mp hx with rfl | hx
 ·exact b6 hw
 rw[Yh.mp hx];exact yC h1 h4
def Z82{x m:Str}{c:LS}(hw:AW x=true)(hl:c.length<=4)(hc:∀ u∈c,AW u=true)(hm:AW m=true):Z0 (Ui x c m) (dW x c m)/\10∉(Ui x c m).cps.toList:=by
 refine qI (Z2i x c m) (by unfold dW;exact List.append_ne_nil_of_right_ne_nil _ (g9 _ _)) (by unfold dW;rw[Yc,Yc];show 2 + c.length + 2<=100;omega) λy hy=>?_
 rcases Yo.mp hy with hy | hy
 ·rcases Yo.mp hy with hy | hy
  ·rcases Yv.mp hy with rfl | hy
   ·unfold Xc;rfl'
   ·rw[Yh.mp hy];exact b6 hw
  ·exact b6 (hc y hy)
 ·rcases Yv.mp hy with rfl | hy
  ·unfold Xc;rfl'
  ·rw[Yh.mp hy];exact b6 hm
def Ztz:AW "under"=true:=by rfl'
def Zt0:AW "gives"=true:=by rfl'
def Yas:¬ (("name":Str)="kind"):=by rfl'
def Yau:¬ (("deed":Str)="kind"):=by rfl'
def Yat:¬ (("deed":Str)="name"):=by rfl'
def Z48{r:Row}(hw:AW r.1=true)(hu:∀ u∈r.2,AW u=true):XW (kW r)=true:=by
 unfold kW;rw[gX,Jb rfl,DQ,B1];cases h:r.2 with
 | nil=>exact⟨by show([r.1].all AW)=true;rw[V4,hw];rfl,Y⟩
 | cons a l =>
  rw[h]at hu;refine⟨?_,?_⟩
  ·show((r.1 :: "under" :: a :: l).all AW)=true;rw[CL];intro x hx
   rcases Yv.mp hx with rfl | hx
   ·exact hw
   rcases Yv.mp hx with rfl | hx
   ·exact Ztz
   ·exact hu x hx
  ·rw[Bool.or_eq_true,B1];refine .inr ⟨Jb ?_,Jb rfl⟩;show 2<l.length + 1 + 1 + 1;omega
def Zv7{rows:List Row}{r:Row}(hw:AW r.1=true)(hu:∀ u∈r.2,AW u=true):LI rows [] (kW r)=some (rows++[r],[]):=by
 unfold LI;rw[if_pos (Z48 hw hu),if_pos rfl];unfold kW
 rcases r with⟨x,us⟩
 cases us with
 | nil=>rfl
 | cons a l=>rfl
def wg{w:Str}(h:¬ w="kind")(r:LS):XW (w :: r)=false:=by rw[gX,Jc h,V5]
def Zv6{rows:List Row}{ns:List AI}{n:AI}(hr:rows≠[])(hw:AW n.1=true)(h1:1<=n.2.1)(h4:n.2.1<=4):LI rows ns (nW n)=some (rows,ns++[(n.1,n.2.1,[])]):=by
 obtain⟨a,b⟩:=Z8v h1 h4;have k:YH (nW n)=true:=by
  show(decide (("name":Str)="name")&&(AW n.1&&decide (Wg n.2.1∈VX)))=true;rw[Jb rfl,hw,Jb a];rfl
 unfold LI;rw[show XW (nW n)=false from wg Yas _,if_neg (by decide),if_pos k,if_neg hr];show some (rows,ns++[(n.1,cR (Wg n.2.1),[])])=_;rw[b]
def Ybn(x m:Str)(c:LS):(dW x c m).getD 1 ""=x/\((dW x c m).drop 2).take ((dW x c m).length - 4)=c/\(dW x c m).getD ((dW x c m).length - 1) ""=m/\(dW x c m).length=c.length + 4/\(dW x c m).getD ((dW x c m).length - 2) ""="gives":=by
 have l:(dW x c m).length=c.length + 4:=by
  unfold dW;rw[Yc,Yc];show 2 + c.length + 2=_;omega
 have e:dW x c m=(("deed" :: x :: (c++(["gives",m]:LS))):LS):=rfl;refine⟨Y,?_,?_,l,?_⟩
 ·rw[l,e];show(c++(["gives",m]:LS)).take (c.length + 4 - 4)=c;rw[Nat.add_sub_cancel,List.take_left'];rfl
 ·rw[l,e,Yl,show c.length + 4 - 1=c.length + 1 + 2 by omega];show((c++(["gives",m]:LS))[c.length + 1]?).getD ""=m;rw[Xl (by omega),show c.length + 1 - c.length=1 by omega];rfl
 ·rw[l,e,Yl,show c.length + 4 - 2=c.length + 2 by omega];show((c++(["gives",m]:LS))[c.length]?).getD ""="gives";rw[Xl (by omega),Nat.sub_self];rfl
def Z1s{w:Str}(h:¬ w="name")(r:LS):YH (w :: r)=false:=by
 rcases r with _ | ⟨b,_ | ⟨c,_ | ⟨d,r⟩⟩⟩
 ·rfl
 ·rfl
 ·show(decide (w="name")&&_)=false;rw[Jc h,V5]
 ·rfl
def Zv9{rows:List Row}{ns CH:List AI}{x m:Str}{c:LS}(hw:AW x=true)(hc:∀ u∈c,AW u=true)(hm:AW m=true)(h1:1<=c.length)(ha:We x c m ns=some CH):LI rows ns (dW x c m)=some (rows,CH):=by
 obtain⟨a1,a2,a3,a4,a5⟩:=Ybn x m c;have k:YN (dW x c m)=true:=by
  unfold YN;rw[B1,B1,B1];refine⟨Jb rfl,Jb (by rw[a4];omega),Jb a5,?_⟩;show((x :: (c++(["gives",m]:LS))).all AW)=true;rw[CL];intro y hy
  rcases Yv.mp hy with rfl | hy
  ·exact hw
  rcases Yo.mp hy with hy | hy
  ·exact hc y hy
  rcases Yv.mp hy with rfl | hy
  ·exact Zt0
  ·rw[Yh.mp hy];exact hm
 unfold LI;rw[show XW (dW x c m)=false from wg Yau _,if_neg (by decide),show YH (dW x c m)=false from Z1s Yat _,if_neg (by decide),if_pos k,a1,a2,a3,ha];rfl
theorem qV:∀(l:List (LS)) {rows:List Row}{ns:List AI}{m:List (LS)},C1 rows ns (l++m)=(C1 rows ns l).bind λz=>C1 z.1 z.2 m
 | [],_,_,_=>rfl
 | a :: l,rows,ns,m=>by
  show(LI rows ns a).bind (λz=>C1 z.1 z.2 (l++m))=((LI rows ns a).bind λz=>C1 z.1 z.2 l).bind λz=>C1 z.1 z.2 m;cases LI rows ns a with
  | none=>rfl
  | some z=>exact qV l
theorem zS:∀ {rs:List Row}{rows:List Row},(∀ r∈rs,AW r.1=true/\∀ u∈r.2,AW u=true)->C1 rows [] (rs.map kW)=some (rows++rs,[])
 | [],rows,_=>by rw[C5];rfl
 | r :: rs,rows,h=>by
  obtain⟨a,b⟩:=h r Yy;show(LI rows [] (kW r)).bind (λz=>C1 z.1 z.2 (rs.map kW))=_;rw[Zv7 a b];show C1 (rows++[r]) [] (rs.map kW)=_;rw[zS λx hx=>h x (Yr _ hx),LO];rfl
def Z3z{rows:List Row}{ns:List AI}{ts:LS}{wss:List (LS)}(BJ:ts≠[])(few:ts.length<=900)(h:Paired (λt ws=>(Z0 t ws/\10∉t.cps.toList)/\t.length<=100) ts wss)(run:C1 [] [] wss=some (rows,ns)):pe (Builtin.Str.glued "\n" ts) rows ns ts wss:=by
 have b:("\n":Str)=sgn 10:=rfl;have all:∀ t∈ts,10∉t.cps.toList/\t.length<=100:=λt ht=>by
  obtain⟨i,hi⟩:=Y3.mp ht;obtain⟨ws,_,z⟩:=V2 h hi;exact⟨z.1.2,z.2⟩
 rw[b];have:=rA (c:=10) λt ht=>(all t ht).2;exact⟨Zky BJ λt ht=>(all t ht).1,W,W,Paired.mapP h λ_ _ z=>z.1.1,run⟩
theorem rO{α β γ:Type}{F:β->γ->Prop}(f:α->β)(h:α->γ):∀ {l:List α},(∀ x∈l,F (f x) (h x))->Paired F (l.map f) (l.map h)
 | [],_=>.nil
 | x :: r,z=>.cons (z x Yy) (rO f h λy hy=>z y (Yr _ hy))
theorem Zle{α β γ:Type}{F:β->γ->Prop}(f:α->List β)(h:α->List γ):∀ {l:List α},(∀ x∈l,Paired F (f x) (h x))->Paired F (l.flatMap f) (l.flatMap h)
 | [],_=>.nil
 | x :: r,z=>by
  rw[W6,W6];exact qB (z x Yy) (Zle f h λy hy=>z y (Yr _ hy))
theorem yt{x:Str}{c:LS}{m:Str}{k:Nat}{ps:List (LS×Str)}:∀ {ns:List AI},(∀ n∈ns,n.1≠x)->c.length=k->We x c m (ns++[(x,k,ps)])=some (ns++[(x,k,ps++[(c,m)])])
 | [],_,h=>by
  show(if x=x then(if c.length=k then _ else _)else _)=_;rw[if_pos rfl,if_pos h];rfl
 | n :: r,hn,h=>by
  show(if n.1=x then _ else(We x c m (r++[(x,k,ps)])).map (n :: ·))=_;rw[if_neg (hn n Yy),yt (λy hy=>hn y (Yr _ hy)) h];rfl
def ZR(n:AI):List (LS):=nW n :: n.2.2.map λp=>dW n.1 p.1 p.2
theorem zR{rows:List Row}{ns:List AI}{x:Str}{k:Nat}(hx:AW x=true)(hk:1<=k)(hn:∀ n∈ns,n.1≠x):∀ {qs ps:List (LS×Str)},(∀ q∈qs,q.1.length=k/\(∀ u∈q.1,AW u=true)/\AW q.2=true)->C1 rows (ns++[(x,k,ps)]) (qs.map λp=>dW x p.1 p.2)=some (rows,ns++[(x,k,ps++qs)])
 | [],ps,_=>by rw[C5];rfl
 | q :: r,ps,h=>by
  obtain⟨h1,h2,h3⟩:=h q Yy;show(LI rows (ns++[(x,k,ps)]) (dW x q.1 q.2)).bind (λz=>C1 z.1 z.2 (r.map λp=>dW x p.1 p.2))=_;rw[Zv9 hx h2 h3 (by omega) (yt hn h1)];show C1 rows (ns++[(x,k,ps++[(q.1,q.2)])]) (r.map λp=>dW x p.1 p.2)=_;rw[zR hx hk hn λy hy=>h y (Yr _ hy),LO];rfl
theorem zU{rows:List Row}(g:Am rows):∀ {l ns:List AI},(∀ n∈l,YM rows n)->((ns++l).map (·.1)).Nodup->C1 rows ns (l.flatMap ZR)=some (rows,ns++l)
 | [],ns,_,_=>by rw[C5];rfl
 | n :: r,ns,h,nd=>by
  have gn:=h n Yy;have hr:rows≠[]:=λz=>by have:=g.ne;rw[z]at this;exact absurd this (by decide)
  have e:(ns++n :: r)=(ns++[n])++r:=by rw[LO];rfl
  have hn:∀ m∈ns,m.1≠n.1:=λm hm z=>by
   rw[Ys,Yz]at nd;exact(List.nodup_append.mp nd).2.2 _ (Yg.mpr ⟨m,hm,Y⟩) _ Yy z
  rw[W6];show(LI rows ns (nW n)).bind (λz=>C1 z.1 z.2 ((n.2.2.map λp=>dW n.1 p.1 p.2)++r.flatMap ZR))=_;rw[Zv6 hr gn.word gn.one gn.four];show C1 rows (ns++[(n.1,n.2.1,[])]) ((n.2.2.map λp=>dW n.1 p.1 p.2)++r.flatMap ZR)=_;rw[qV,zR gn.word gn.one hn λq hq=>?_,e]
  ·show C1 rows (ns++[(n.1,n.2.1,[]++n.2.2)]) (r.flatMap ZR)=_;rw[h7];exact zU g (λm hm=>h m (Yr _ hm)) (by rw[<- e];exact nd)
  ·have gc:=gn.deeds.call q.1 (Yg.mpr ⟨q,hq,Y⟩);exact⟨gc.len,λu hu=>Up g u (gc.known u hu),Up g _ (gn.made q hq)⟩
def Z5x{rows:List Row}{ns:List AI}(g:Am rows)(gn:Cf rows ns):pe (Builtin.Str.glued "\n" (U9 rows ns)) rows ns (U9 rows ns) (rows.map kW++ns.flatMap ZR):=by
 have up:∀ r∈rows,∀ u∈r.2,AW u=true:=λr hr u hu=>Up g u (g.known r hr u hu);obtain⟨bl,WL⟩:=rL g gn;refine Z3z ?_ (by omega) ?_ ?_
 ·intro z;have:=congrArg List.length z;have h:=g.ne;unfold U9 Df at this;rw[Yc,Ya]at this;have:rows.length + _=0:=this;omega
 ·have p:Paired (λt ws=>Z0 t ws/\10∉t.cps.toList) (U9 rows ns) (rows.map kW++ns.flatMap ZR):=by
   refine qB (rO _ _ λr hr=>Z8p (g.word r hr) (g.few r hr) (up r hr)) (Zle _ _ λn hn=>?_);have gN:=gn.each n hn;refine .cons (Z8f gN.word gN.one gN.four) (rO _ _ λq hq=>?_);have gc:=gN.deeds.call q.1 (Yg.mpr ⟨q,hq,Y⟩);exact Z82 gN.word (by rw[gc.len];exact gN.four) (λu hu=>Up g u (gc.known u hu)) (Up g _ (gN.made q hq))
  exact lH p λt ws ht z=>⟨z,WL t ht⟩
 ·rw[qV,zS λr hr=>⟨g.word r hr,up r hr⟩];show C1 rows [] (ns.flatMap ZR)=_;rw[zU g gn.each (by rw[h7];exact gn.nd),h7]
def eY(p:LS×Str):Dt:=.tuple [De p.1,.str p.2]
def XJ(n:AI):Dt:=.tuple [.str n.1,.int n.2.1,.tuple (n.2.2.map eY)]
theorem zx{K:Fg}{H:Hp}:∀ {ps:List (LS×Str)}{vs:LV},Cg H ps vs->A4 K H vs (ps.map eY)
 | _,_,.nil=>.nil
 | _,_,.cons ⟨t,tc,e,h1,h2⟩ r=>by
  subst e;exact .cons (.tuple (AH.of h1) (.cons (kP h2) (.cons (.str _) .nil))) (zx r)
theorem gR{K:Fg}{H:Hp}:∀ {ns:List AI}{vs:LV},T4 H ns vs->A4 K H vs (ns.map XJ)
 | _,_,.nil=>.nil
 | _,_,.cons ⟨t,tp,vs,e,h1,h2,h3⟩ r=>by
  subst e;exact .cons (.tuple (AH.of h1) (.cons (.str _) (.cons (.int _) (.cons (.tuple (AH.of h2) (zx h3)) .nil)))) (gR r)
def Z1a(n:Nat){p:LS×Str}(h:∀ x∈p.1,AW x=true)(h2:AW p.2=true):W.kqdOk (n + 2) (eY p)=true:=by
 unfold eY;rw[W.kqdOk];simp[j7 n h,jq (n + 1) h2]
def Z1c(n:Nat){rows:RS}(g:Am rows){m:AI}(h:YM rows m):W.kqdOk (n + 4) (XJ m)=true:=by
 unfold XJ;rw[W.kqdOk];have hp:W.kqdOk (n + 3) (.tuple (m.2.2.map eY))=true:=by
  rw[W.kqdOk,CL];intro z hz;obtain⟨p,hp,rfl⟩:=Yg.mp hz;exact Z1a n (λx hx=>Up g x ((h.deeds.call p.1 (Yg.mpr ⟨p,hp,Y⟩)).known x hx)) (Up g _ (h.made p hp))
 have hi:W.kqdOk (n + 3) (.int m.2.1)=true:=by rw[W.kqdOk]
 simp[jq (n + 3) h.word,hp,hi]
def rH{rows:RS}(g:Am rows){ns:List AI}(h:∀ n∈ns,YM rows n):W.kqdOk 9 (.list (ns.map XJ))=true:=by
 show(ns.map XJ).all (W.kqdOk 8)=true;rw[CL];intro z hz;obtain⟨m,hm,rfl⟩:=Yg.mp hz;exact Z1c 4 g (h m hm)
def Z3b{K:Fg}{H:Hp}{l:Addr}{ds:List (LS)}{us:LV}(h:H l=some (.lst us))(d:Cd H ds us):Rep K H (.ref l) (.list (ds.map De)):=.list (SqL.of h) (rP d)
def Yaq{ds:List (LS)}(h:∀ d∈ds,∀ x∈d,AW x=true):W.kqdOk 9 (.list (ds.map De))=true:=by
 rw[W.kqdOk];exact yn 7 h
def kQ{K:Fg}{H:Hp}{l:Addr}{rows:RS}(h:T5 H l rows):Rep K H (.ref l) (.list (rows.map X8)):=by
 obtain⟨vs,a,q⟩:=h;exact .list (SqL.of a) (zw q)
def Zuv{K:Fg}{l:Addr}{H1:Hp}{ns:List AI}{us:LV}{σ:St}{Q:VK}{te:TE}(hl:H1 l=some (.lst us))(hN:T4 H1 ns us)(few:ns.length<=100)
  (he:∀(t tp:Addr) (x:Str) (m:Nat) H' (R:VK),H' t=some (.tup [.str x,.int m,.ref tp])->R (.str x) H'->te [some (.ref t)] H' R)
  (hd:∀ D H',H1 D=none->AB H1 H'->H' D=some (.lst ((ns.map (·.1)).map V.str))->Q (.ref D) H'):AQ 1 [] (Ck 0) XM te σ Q (cx K l) H1:=by
 have ul:us.length<=100:=by have:=Yu hN;omega
 refine Zo (CU (xs:=us)) (sL (by omega)) (λ_=>true) (λ_ x v _=>∀ n,X5 H1 n x->v=.str n.1) (λ_ _ _ _ _ _ h=>h) (λH' s=>s.seq (SqL.of hl)) ?_ ?_ ?_
 ·intro x H3 R _ _ CA;exact CA H3 (AB.refl _)
 ·intro D x H3 R s3 _ _ hx _ CA;obtain⟨i,hi⟩:=Y3.mp hx;obtain⟨n,hn,t,tp,vs,rfl,ht,_⟩:=Bp hN hi;refine he t tp n.1 n.2.1 H3 R (s3 _ _ ht) (CA _ _ (AB.refl _) λn' h'=>?_);obtain⟨t',ua,vs',e1,e2,_⟩:=h';cases e1;rw[ht]at e2;have e2:=Ym e2;injection e2 with e2;injection e2 with e2 _
 ·intro D H3 ys hD A9 hlD hpD;rw[VH.mpr (λ_ _=>rfl)]at hpD;have eys:ys=(ns.map (·.1)).map V.str:=by
   have:∀ {ns:List AI} {vs ys:LV},T4 H1 ns vs->Paired (λx v=>∀ n,X5 H1 n x->v=.str n.1) vs ys->ys=(ns.map (·.1)).map V.str:=by
    intro ns vs ys a
    induction a generalizing ys with
    | nil=>intro b;cases b;rfl
    | cons h t ih =>
     intro b;cases b with
     | cons h' t'=>rw[Yz,Yz,h' _ h,ih t']
   exact this hN hpD
  subst eys;exact hd D H3 hD A9 hlD
def zQ{K:Fg}{l:Addr}{H1:Hp}{ps:List (LS×Str)}{us:LV}{σ:St}{Q:VK}{te:TE}(f:V->V)(hl:H1 l=some (.tup us))(hP:Cg H1 ps us)(few:us.length<=100)
  (he:∀(t:Addr) (x y:V) H' (R:VK),H1 t=some (.tup [x,y])->H' t=some (.tup [x,y])->R (f (.ref t)) H'->te [some (.ref t)] H' R)
  (hd:∀ D H',H1 D=none->AB H1 H'->H' D=some (.lst (us.map f))->Q (.ref D) H'):AQ 1 [] (Ck 0) XM te σ Q (nL K l) H1:=by
 refine gB (Uo (xs:=us)) (sL (by omega)) (λ_=>true) f (λH' s=>AH.of (s _ _ hl)) ?_ ?_ ?_
 ·intro x H3 R _ _ CA;exact CA H3 (AB.refl _)
 ·intro x H3 R s3 hx _ CA;obtain⟨i,hi⟩:=Y3.mp hx;obtain⟨p,_,t,tc,rfl,ht,_⟩:=Bp hP hi;exact he t _ _ H3 R ht (s3 _ _ ht) (CA _ (AB.refl _))
 ·intro D H3 hD A9 hlD;rw[VH.mpr (λ_ _=>rfl)]at hlD;exact hd D H3 hD A9 hlD
mutual
inductive B_(H:Hp):Dt->V->Prop
 | int (i:Int):B_ H (.int i) (.int i)
 | str (x:Str) (hx:PyData.strOk x=true):B_ H (.str x) (.str x)
 | tup {a:Addr} {vs:LV} {ds:List Dt}:H a=some (.tup vs)->An H ds vs->B_ H (.tuple ds) (.ref a)
inductive An(H:Hp):List Dt->LV->Prop
 | nil:An H [] []
 | cons {d:Dt} {ds:List Dt} {v:V} {vs:LV}:B_ H d v->An H ds vs->An H (d :: ds) (v :: vs)
end
mutual
theorem B_.keep{H H':Hp}(k:∀ b xs,H b=some (.tup xs)->H' b=some (.tup xs)):∀ {d:Dt}{v:V},B_ H d v->B_ H' d v
 | _,_,.int i=>.int i
 | _,_,.str x hx=>.str x hx
 | _,_,.tup h t=>.tup (k _ _ h) (t.keep k)
theorem An.keep{H H':Hp}(k:∀ b xs,H b=some (.tup xs)->H' b=some (.tup xs)):∀ {ds:List Dt}{vs:LV},An H ds vs->An H' ds vs
 | _,_,.nil=>.nil
 | _,_,.cons h t=>.cons (h.keep k) (t.keep k)
end
mutual
theorem B_.rep{K:Fg}{H:Hp}:∀ {d:Dt}{v:V},B_ H d v->Rep K H v d
 | _,_,.int i=>.int i
 | _,_,.str x _=>.str x
 | _,_,.tup h t=>.tuple (AH.of h) t.reps
theorem An.reps{K:Fg}{H:Hp}:∀ {ds:List Dt}{vs:LV},An H ds vs->A4 K H vs ds
 | _,_,.nil=>.nil
 | _,_,.cons h t=>.cons h.rep t.reps
end
mutual
theorem B_.lay{H:Hp}:∀ {d:Dt}{v:V},B_ H d v->(W.kqdP d).canLay0=true
 | _,_,.int i=>by rw[W.kqdP];rfl
 | _,_,.str x hx=>by rw[W.kqdP];exact hx
 | _,_,.tup h t=>by rw[W.kqdP];exact t.lays
theorem An.lays{H:Hp}:∀ {ds:List Dt}{vs:LV},An H ds vs->PyData.canLayAll0 (W.kqdPs ds)=true
 | _,_,.nil=>by rw[W.kqdPs];rfl
 | _,_,.cons h t=>by
  rw[W.kqdPs];show(_&&_)=true;rw[h.lay,t.lays];rfl
end
theorem An.length{H:Hp}:∀ {ds:List Dt}{vs:LV},An H ds vs->ds.length=vs.length
 | _,_,.nil=>rfl
 | _,_,.cons _ t=>by rw[Yt,Yt,t.length]
theorem An.append{H:Hp}:∀ {ds es:List Dt}{vs us:LV},An H ds vs->An H es us->An H (ds++es) (vs++us)
 | _,_,_,_,.nil,h=>h
 | _,_,_,_,.cons a t,h=>.cons a (t.append h)
theorem An.at_{H:Hp}:∀ {ds:List Dt}{vs:LV},An H ds vs->∀ {i:Nat}{v:V},vs[i]?=some v->∃ d,ds[i]?=some d/\B_ H d v
 | _,_,.cons h t,0,v,e=>by
  rw[List.getElem?_cons_zero]at e;cases e;exact⟨Z,h⟩
 | _,_,.cons h t,i + 1,v,e=>by
  rw[cX]at e;exact t.at_ e
 | _,_,.nil,i,v,e=>by simp at e
theorem An.drop{H:Hp}:∀ {ds:List Dt}{vs:LV},An H ds vs->∀ n,An H (ds.drop n) (vs.drop n)
 | _,_,h,0=>h
 | _,_,.nil,n + 1=>.nil
 | _,_,.cons _ t,n + 1=>t.drop n
def B8:Dt->List Dt
 | .tuple ds=>ds.drop 1
 | _=>[]
def p6:∃ f:Nat->List Dt->List Dt,(∀ l,f 0 l=l)/\∀ k l,f (k + 1) l=(f k l).flatMap B8:=⟨λk l=>Nat.rec l (λ_ r=>r.flatMap B8) k,λ_=>rfl,λ_ _=>rfl⟩
def lvl:Nat->List Dt->List Dt:=Classical.choose p6
def UT(l:List Dt):lvl 0 l=l:=(my p6).1 l
def Wt(k:Nat)(l:List Dt):lvl (k + 1) l=(lvl k l).flatMap B8:=(my p6).2 k l
def pz:∃ f:Nat->List Dt->Nat,(∀ l,f 0 l=0)/\∀ k l,f (k + 1) l=f k l + (lvl k l).length:=⟨λk l=>Nat.rec 0 (λk r=>r + (lvl k l).length) k,λ_=>rfl,λ_ _=>rfl⟩
def A0:Nat->List Dt->Nat:=Classical.choose pz
def XZ(l:List Dt):A0 0 l=0:=(my pz).1 l
def YO(k:Nat)(l:List Dt):A0 (k + 1) l=A0 k l + (lvl k l).length:=(my pz).2 k l
def XO(d:Dt):Bool:=(lvl 12 [d]).isEmpty&&decide (A0 12 [d]<=40)
def YU(xs:LV):B7 xs (some 1) none=xs.drop 1:=by
 unfold B7;have e:HT.sIx xs.length 0 (some (1:Int))=min 1 xs.length:=HT.sIx_nat xs.length 0 1;rw[e,HT.sIx_none];cases xs with
 | nil=>rfl
 | cons x r =>
  have e2:min 1 (x :: r).length=1:=by rw[Yt];omega
  rw[e2];exact W3 (by rw[W5];omega)
def kB:Sp:=λvs H Q _=>∃(d:Dt) (v:V),vs=[v]/\B_ H d v/\Q (.bl (match d with | .int _=>true | _=>false)) H
def xX:Sp:=λvs H Q _=>∃(l:Addr) (ds:List Dt) (us:LV),vs=[.ref l]/\H l=some (.lst us)/\An H ds us/\(ds.flatMap B8).length<=1000/\∀ l' W8 H',H l'=none->AB H H'->H' l'=some (.lst W8)->An H' (ds.flatMap B8) W8->Q (.ref l') H'
def qg:Sp:=λvs H Q _=>∃(d:Dt) (v:V),vs=[v]/\B_ H d v/\(∀ k,(lvl k [d]).length<=1000)/\∀ H',AB H H'->Q (.bl (XO d)) H'
structure VT(mg:Str->OU):Prop where
 isi:mg "isinstance"=none
 int:mg "int"=none
 bool:mg "bool"=none
 tuple:mg "tuple"=none
 len:mg "len"=none
 range:mg "range"=none
theorem zA{α β:Type}(f:α->List β):∀(l:List α) (i:Nat),((l.take i).flatMap f).length<=(l.flatMap f).length
 | [],i=>by rw[List.take_nil];exact Yf _
 | a :: l,0=>Ax _
 | a :: l,i + 1=>by
  have:=zA f l i;rw[mm,W6,W6,Yc,Yc];omega
def Yec:AX ["thing"] ["thing"] (AJ cA):=by nofun
def qp(F:Def K mg "is_number" cA ["thing"] f fd)(T:VT mg):⋯ 1 f fd ["thing"] kB:=by
 nomatch F.fn.ok Yec
 ·obtain⟨d,v,rfl,_⟩:=h;rfl
 ·obtain⟨d,v,rfl,hv,q⟩:=h
  ac_nf
  refine'⟨_,AG (AO (Vc (Aq bh (by rfl) T.isi cj (pC (pv 0) (pC (ba (v:=.ty "int") (by rfl) T.int cm rfl) AA))) (Vd (Z7m (Aq bh (by rfl) T.isi cj (pC (pv 0) (pC (ba (v:=.ty "bool") (by rfl) T.bool PyProof.Rows.boot_bool rfl) AA))))))),?_⟩;cases hv with
  | int i=>exact⟨Z,_,_,_,Z,.int i,Y,Z,Av ⟨Z,_,_,_,Z,.int i,Y,Z,q⟩⟩
  | str x hx=>exact⟨Z,_,_,_,Z,.str x,Y,Z,AS q⟩
  | tup h t=>exact⟨Z,_,_,_,Z,.tup h,Y,Z,AS q⟩
abbrev nPO:LS:=["level","parts","part"]
def Ycq:AX nPO ["level"] (AJ k7):=by nofun
def Z09(F:Def K mg "parts_of" k7 ["level"] f fd)(T:VT mg):⋯ 1 f fd ["level"] xX:=by
 nomatch F.fn.ok Ycq
 ·obtain⟨l,ds,us,rfl,_⟩:=h;rfl
 ·obtain⟨l,ds,us,rfl,hl,hT,hz,q⟩:=h;have nd:=Ycq.nd
  ac_nf
  refine'⟨_,(pS (sE 1 nd (BX AA))
   (pS (BM Yw rfl (CD (pv 0)) (gE 2 nd)
    (AG (AY (Bo (Aq bh (by rfl) T.isi cj (pC (pv 2) (pC (ba (v:=.ty "tuple") (by rfl) T.tuple Ur rfl) AA))))
     (AG (Bc (Be Cs PySem.F.slot_list_extend PySem.F.type_list_extend Z45 (pv 1) (pC (Dg (r:=Xf K) Zn (pv 2) (Ce AE) T_) AA)))) Aa)))
   (AG (AO (pv 1))))),?_⟩
  exists let b:=_;let c:=By _ b _;let e:=AF (BS _ _ c) a;AF _ e _ _ _
  refine⟨Ax _,λp hp=>?_⟩;have s1:AB H (upd H p (.lst [])):=AM hp;have lp:l≠p:=AK hl hp;have dl:=hT.length;let Au:NW:=λi σ H'=>∃(x:OV) (ws:LV),σ=[some (.ref l),some (.ref p),x]/\AB H H'/\H' p=some (.lst ws)/\An H' ((ds.take i).flatMap B8) ws;refine⟨Z,l,Y,⟨_,SqL.of (s1 _ _ hl)⟩,Bz (CU (xs:=us)) Au
   ⟨none,[],Y,s1,uS,by rw[Dz];exact .nil⟩ (λi σ H' _ h0=>by obtain⟨_,_,_,s,_⟩:=h0;exact SqL.of (s _ _ hl)) ?_ ?_⟩
  ·rintro i v σ H2 hi ⟨x,ws,rfl,s2,SV,hW⟩;obtain⟨d,hd,hv⟩:=hT.at_ hi;have e:(ds.take (i + 1)).flatMap B8=(ds.take i).flatMap B8++B8 d:=by
    rw[Bt,hd];simp[mj]
   have lz:=zA B8 ds (i + 1);rw[e,Yc]at lz;have wl:=hW.length;cases hv with
   | int j=>exact⟨Z,_,_,_,Z,.int j,Y,Z,AS ⟨_,ws,Y,s2,SV,by rw[e];show An H2 (_++[]) ws;rw[C5];exact hW⟩⟩
   | str j hj=>exact⟨Z,_,_,_,Z,.str j,Y,Z,AS ⟨_,ws,Y,s2,SV,by rw[e];show An H2 (_++[]) ws;rw[C5];exact hW⟩⟩
   | @tup a vs es ha ht =>
    refine⟨Z,_,_,_,Z,.tup (s2 _ _ ha),Y,Z,Av ⟨Z,.inl ⟨Y,_,SqL.of SV⟩,Z,Z,?_⟩⟩;unfold XT;refine Zm (K:=K) (lo:=some 1) (hi:=none) (s2 _ _ ha) λb H3 s3 hb=>?_;rw[YU]at hb;have UJ:=s3 _ _ SV;have bp:b≠p:=λz=>by rw[z,UJ]at hb;cases hb
    have kd:An H3 (B8 (.tuple es)) (vs.drop 1):=(ht.keep λb xs e=>s3 _ _ (s2 _ _ e)).drop 1;have kl:=kd.length;refine⟨p,b,_,Z,Y,UJ,AH.of hb,sL (by omega),_,Z,λb' o e'=>by rw[AD (AK e' hp)];exact s3 _ _ (s2 _ _ e'),uS,?_⟩;rw[e];have tk:∀ b xs,H3 b=some (.tup xs)->(upd H3 p (.lst (ws++vs.drop 1))) b=some (.tup xs):=λb xs e=>by rw[AD (λz=>by rw[z,UJ]at e;cases e)];exact e
    exact((hW.keep (A3 s3)).keep tk).append (kd.keep tk)
  ·rintro σ H2 ⟨x,ws,rfl,s2,SV,hW⟩;rw[<- dl,Bs]at hW;exact⟨Z,q p ws H2 hp s2 SV hW⟩
abbrev nSm:LS:=["term","level","number","deep"]
def Ycm:AX nSm ["term"] (AJ gS):=by nofun
def Z06{T1 T2:Tok}(F:Def K mg "is_small" gS ["term"] f fd)(T:VT mg)(c1:mg "MOST_DEEP"=some (.int 12 T1))(c2:mg "MOST_PARTS"=some (.int 40 T2))(DP:Def K mg "parts_of" k7 ["level"] fP fdP):⋯ 2 f fd ["term"] qg:=by
 have GP:⋯ 1 fP fdP ["level"] xX:=Z09 DP T
 nomatch F.fn.ok Ycm
 ·obtain⟨d,v,rfl,_⟩:=h;rfl
 ·obtain⟨d,v,rfl,hv,hz,q⟩:=h;have nd:=Ycm.nd
  ac_nf
  refine'⟨_,(pS (sE 1 nd (BX (pC (pv 0) AA)))
   (pS (sE 2 nd AE)
   (pS (BM Yw rfl (Vf (by rfl) T.range (pC (VB (v:=.int 12) (by rfl) c1 ⟨Z⟩) AA)) (gE 3 nd)
    (pS (sE 2 nd (AU C_ (pv 2) (Aq Cn (by rfl) T.len BI (pC (pv 1) AA))))
   (AG (sE 1 nd (AL DP GP hr (pC (pv 1) AA))))))
   (AG (AO (Vc (xE (pv 1)) (Vd (LK Wm (pv 2) (VB (v:=.int 40) (by rfl) c2 ⟨Z⟩) (Ab _))))))))),?_⟩
  exists let b:=_;let c:=AF _ b;let e:=AF (BS _ _ c) a;let f:=AF _ e;AF _ f _ _ _
  refine⟨Z,O,λp hp=>?_⟩;have s1:AB H (upd H p (.lst [v])):=AM hp;let D0:NW:=λi σ H'=>∃(x:OV) (l:Addr) (us:LV),σ=[some v,some (.ref l),some (.int (A0 i [d]:Nat)),x]/\AB H H'/\H' l=some (.lst us)/\An H' (lvl i [d]) us;refine⟨12,Y,V,V,Bz VE D0
   ⟨none,p,[v],by rw[XZ];rfl,s1,uS,by rw[UT];exact .cons (hv.keep (A3 s1)) .nil⟩ (λ_ _ _ _ _=>trivial) ?_ ?_⟩
  ·rintro i v' σ H2 hi ⟨x,l,us,rfl,s2,Ap,d_⟩;obtain⟨hi,rfl⟩:=Dw hi;have ll:=d_.length;have oX:=hz (i + 1);rw[Wt]at oX;refine⟨Z,Z,l,us,Y,.inl (SqL.of Ap),_,Z,Y,?_⟩;refine⟨Z,l,_,us,Y,Ap,d_,oX,λl' W8 H3 LC s3 LB hT3=>⟨some (.int (0 + (i:Int))),l',W8,?_,s2.trans s3,LB,by rw[Wt];exact hT3⟩⟩;have e:((A0 i [d]:Nat):Int) + (us.length:Int)=((A0 (i + 1) [d]:Nat):Int):=by
    rw[YO,ll];omega
   rw[<- e];rfl
  ·rintro σ H2 ⟨x,l,us,rfl,s2,Ap,d_⟩;have ll:=d_.length;have ZE:(DG 0 (12:Int).toNat).length=12:=by decide
   rw[ZE]at d_ ll;rw[ZE];have q2:=q H2 s2;unfold XO at q2;have e:(lvl 12 [d]).isEmpty=us.isEmpty:=by
    cases us with
    | nil=>exact List.isEmpty_iff.mpr (List.length_eq_zero_iff.mp ll)
    | cons u r =>
     cases hh:lvl 12 [d]with
     | nil=>rw[hh]at ll;cases ll
     | cons=>rfl
   rw[e]at q2;refine⟨Z,_,.inl ⟨us,SqL.of Ap,Y⟩,Z,?_⟩;cases us with
   | nil =>
    refine Av ⟨Z,_,Z,Y,?_⟩;have z:decide (((A0 12 [d]:Nat):Int)<=40)=decide (A0 12 [d]<=40):=by
     congr 1
     exact propext ⟨λh=>by omega,λh=>by omega⟩
    show Q (.bl (decide (((A0 12 [d]:Nat):Int)<=40))) H2;rw[z];exact q2
   | cons u r=>exact AS q2
def Vs(ns:List AI)(x:Str):Option Nat:=(ns.find? λn=>decide (n.1=x)).map (·.2.1)
def Wn(ns:List AI):Dt->Bool
 | .tuple (.str x :: r)=>match Vs ns x with
  | some k=>decide (r.length=k)
  | none=>false
 | _=>false
def rN{ns:List AI}{x:Str}{k:Nat}(r:List Dt)(h:Vs ns x=some k):Wn ns (.tuple (.str x :: r))=decide (r.length=k):=by
 show(match Vs ns x with | some k=>decide (r.length=k) | none=>false)=_;rw[h]
def zr{ns:List AI}{x:Str}(r:List Dt)(h:Vs ns x=none):Wn ns (.tuple (.str x :: r))=false:=by
 show(match Vs ns x with | some k=>decide (r.length=k) | none=>false)=_;rw[h]
def BR(ns:List AI)(m:Nat):Nat->Dt->Bool
 | 0,_=>false
 | k + 1,d=>match d with
  | .int i=>decide (0<=i)&&decide (i<m)
  | d=>Wn ns d&&(B8 d).all (BR ns m k)
def sG:Dt->Bool
 | .tuple (.int _ :: _)=>true
 | .tuple (.str _ :: _)=>true
 | .tuple (_ :: _)=>false
 | _=>true
theorem YS:∀(k:Nat) (a b:List Dt),lvl k (a++b)=lvl k a++lvl k b
 | 0,a,b=>by rw[UT,UT,UT]
 | k + 1,a,b=>by rw[Wt,Wt,Wt,YS k,mj]
theorem XN:∀(k:Nat) (l:List Dt),lvl (k + 1) l=lvl k (l.flatMap B8)
 | 0,l=>by rw[Wt,UT,UT]
 | k + 1,l=>by rw[Wt,XN k,Wt]
def wq{k:Nat}{d c:Dt}(h:c∈B8 d):∀ e∈lvl k [c],e∈lvl (k + 1) [d]:=λe he=>by
 rw[XN];have e1:[d].flatMap B8=B8 d:=by simp
 rw[e1];obtain⟨a,b,z⟩:=List.append_of_mem h;rw[z,show a++c :: b=a++([c]++b)from rfl,YS,YS];exact Ut _ (Xh _ he)
def Z46{k:Nat}{d c:Dt}(h:c∈B8 d)(z:lvl (k + 1) [d]=[]):lvl k [c]=[]:=by
 cases hh:lvl k [c]with
 | nil=>rfl
 | cons e r =>
  have:=wq (k:=k) h e (by rw[hh];exact .head _);rw[z]at this;cases this
def Wf(d:Dt):Prop:=∀ k,∀ e∈lvl k [d],sG e=true
def Wf.kid{d c:Dt}(w:Wf d)(h:c∈B8 d):Wf c:=λk e he=>w (k + 1) e (wq h e he)
theorem Wf.head{d:Dt}(w:Wf d):sG d=true:=w 0 d (by rw[UT];exact .head _)
def yu{ns:List AI}{n:AI}(nd:(ns.map (·.1)).Nodup)(h:n∈ns):Vs ns n.1=some n.2.1:=by
 unfold Vs
 induction ns with
 | nil=>cases h
 | cons m ms ih =>
  rw[Yz,Cr]at nd;rw[Xg]
  rcases Yv.mp h with e | h
  ·rw[e,Jb rfl];rfl
  ·have ne:¬ m.1=n.1:=λz=>nd.1 (by rw[z];exact Yg.mpr ⟨n,h,Y⟩);rw[Jc ne];exact ih nd.2 h
def Zzv{ns:List AI}{x:Str}(h:x∉ns.map (·.1)):Vs ns x=none:=by
 unfold Vs;rw[List.find?_eq_none.mpr λn hn z=>h (Yg.mpr ⟨n,hn,Je z⟩)];rfl
def LG(v:V)(vs:LV):BZ (v :: vs) 0=some v:=Bb (j:=0) rfl
theorem Z3k(i:Int):∀ ws:LS,Ug (.int i) (ws.map V.str)=false
 | []=>rfl
 | x :: r=>by
  show(XH (.str x) (.int i) || Ug (.int i) (r.map V.str))=false;rw[Z3k i r];rfl
def zg(C B D:Addr):Sp:=λvs H Q _=>∃(p k:Addr) (rows:RS) (ns:List AI) (d:Dt) (v:V),vs=[.ref p,v]/\Sk C B D H p k rows ns/\Cf rows ns/\B_ H d v/\sG d=true/\∀ H',AB H H'->Q (.bl (Wn ns d)) H'
def Yef:AX ["book","term"] ["book","term"] (AJ ky):=by nofun
def Zur(F:Def K mg "has_name" ky ["book","term"] f fd)(T:VT mg)(TD:U8 K D)(TB:Wi K B)
  (MW:wY K D fW fdW) (GW:⋯ 1 fW fdW ["self"] (qw C B D)) (MB:qW K D fB fdB) (GB:⋯ 2 fB fdB ["self","word"] (kU C B D)) (MP:kI K B fP fdP):⋯ 3 f fd ["book","term"] (zg C B D):=by
 have GP:⋯ 1 fP fdP ["self"] (gT C B):=lG MP.fn TB
 nomatch F.fn.ok Yef
 ·obtain⟨p,k,rows,ns,d,v,rfl,_⟩:=h;rfl
 ·obtain⟨p,k,rows,ns,d,v,rfl,bk,gn,hv,hd,q⟩:=h;have AZ:Af 1 _:=hr.mono (by decide)
  ac_nf
  refine'⟨_,(pS (AY (PW.pt (C2 (CO (Bo (Aq bh (by rfl) T.isi cj (pC (pv 1) (pC (ba (v:=.ty "tuple") (by rfl) T.tuple Ur rfl) AA))))) (C2 (CO (gK (pv 1) (λ_=>rfl))) (T6 (Ag (r:=dG K true) Zkd (AV (r:=BQ K) BW (pv 1) AE (λ_ _=>rfl)) (DJ (pv 0) TD.cl MW.me GW AZ MW.b .nil BA) (by with_unfolding_all rfl)))))) (AG (AO Cj)) Aa)
   (AG (AO (LK BV (Aq Cn (by rfl) T.len BI (pC (pv 1) AA)) (AU C_ (DJ (T9 (pv 0) TD.cl MB.me GB hr MB.b .nil BA (pC (AV (r:=BQ K) BW (pv 1) AE (λ_ _=>rfl)) AA)) TB.cl MP.me GP AZ MP.b .nil BA) AE) (Ab _))))),?_⟩
  exists AF _ a _ _ _
  obtain⟨dx,bo,mo,o,A6,BD,h1,h2,h3,h4,h5,h6⟩:=bk.ex;cases hv with
  | int i=>exact⟨Z,_,_,_,Z,.int i,Y,Z,Av (q _ (AB.refl _))⟩
  | str x hx=>exact⟨Z,_,_,_,Z,.str x,Y,Z,Av (q _ (AB.refl _))⟩
  | @tup a vs ds ha ht =>
   refine⟨Z,_,_,_,Z,.tup ha,Y,Z,AS ⟨Z,_,.inr (.inl ⟨_,AH.of ha,Y⟩),?_⟩⟩;cases ht with
   | nil=>exact Av (q _ (AB.refl _))
   | @cons d0 ds v0 vs h0 ht =>
    refine AS ⟨Z,a,_,_,Z,Y,AH.of ha,LG _ _,Z,p,dx,Z,h1,zG _ _ _,p,k,rows,ns,Y,bk,λlw hlw=>?_⟩;have s1:AB H (upd H lw (.lst ((ns.map (·.1)).map V.str))):=AM hlw;have aM:(upd H lw (.lst ((ns.map (·.1)).map V.str))) lw=some (.lst ((ns.map (·.1)).map V.str)):=uS;generalize upd H lw (.lst ((ns.map (·.1)).map V.str))=H1 at s1 aM;cases h0 with
    | int i =>
     refine⟨lw,Z,.inl (SqL.of aM),Y,Zs _,Z,?_⟩;rw[Z3k];exact Av (q _ s1)
    | tup=>cases hd
    | str x hxo =>
     refine⟨lw,Z,.inl (SqL.of aM),Y,Zs _,Z,?_⟩;rw[YD];by_cases hx:x∈ns.map (·.1)
     ·rw[Jb hx];obtain⟨n,hn,rfl⟩:=Yg.mp hx;refine AS ⟨Z,a,Z,.inr (AH.of (s1 _ _ ha)),Z,p,dx,Z,s1 _ _ h1,gM _ _ _,Z,a,_,_,Z,Y,AH.of (s1 _ _ ha),LG _ _,p,k,rows,ns,n,Y,bk.mono s1,gn.nd,hn,λy bd=>?_⟩;obtain⟨dxb,tb,usb,Tu,_⟩:=bd.ex;refine⟨y,dxb,Z,Tu,lF _ _ _,y,k,rows,n.2.1,Z,bd,_,Z,Y,Y,?_⟩;have q1:=q H1 s1;rw[rN _ (yu gn.nd hn)]at q1;have e:decide (V.int (((V.str n.1 :: vs).length:Nat):Int)=V.int ((n.2.1:Int) + 1))=decide (ds.length=n.2.1):=by
       rw[ht.length,Yt];exact Vj.mpr ⟨λz=>by injection z with z;omega,λz=>by rw[z];rfl⟩
      show Q (.bl (decide (V.int (((V.str n.1 :: vs).length:Nat):Int)=V.int ((n.2.1:Int) + 1)))) H1;rw[e];exact q1
     ·rw[Jc hx];have q1:=q H1 s1;rw[zr _ (Zzv hx)]at q1;exact Av q1
def xZ(C B D:Addr)(j:Nat):Sp:=λvs H Q _=>∃(p k:Addr) (rows:RS) (ns:List AI) (d:Dt) (v:V) (m:Nat),vs=[.ref p,.int m,v]/\Sk C B D H p k rows ns/\Cf rows ns/\B_ H d v/\Wf d/\lvl j [d]=[]/\(∀ i,(lvl i [d]).length<=1000)/\∀ H',AB H H'->Q (.bl (BR ns m j d)) H'
def Z8i{k:Nat}{d c:Dt}(h:c∈B8 d)(z:(lvl (k + 1) [d]).length<=1000):(lvl k [c]).length<=1000:=by
 rw[XN]at z;have e1:[d].flatMap B8=B8 d:=by simp
 obtain⟨a,b,e⟩:=List.append_of_mem h;rw[e1,e,show a++c :: b=a++([c]++b)from rfl,YS,YS,Yc,Yc]at z;omega
def Zvh{J:It}{vs:LV}{Ok:Hp->Prop}(R:Sd J vs Ok){js:LN}{te:TE}{σ:St}{Q:VK}{H1:Hp}(hz:vs.length<=1000){ds:List Dt}(F:Dt->Bool)
  (hp:An H1 ds vs) (hok:∀ H,AB H1 H->Ok H)
  (he:∀ d v H' (R:VK),AB H1 H'->d∈ds->B_ H1 d v->(∀ Uu,AB H' Uu->R (.bl (F d)) Uu)->te (some v :: js.map λj=>(σ[j]?).join) H' R)
  (hd:∀ D H',H1 D=none->AB H1 H'->H' D=some (.lst ((ds.map F).map V.bl))->Q (.ref D) H'):AQ 1 js (Ck 0) XM te σ Q J H1:=by
 have vl:=hp.length;let Au:Addr->Nat->LV->St->Hp->Prop:=λD i ys σ' H=>H1 D=none/\AB H1 H/\H D=some (.lst ys)/\ys=((ds.take i).map F).map V.bl/\∃ o,σ'=o :: js.map λj=>(σ[j]?).join;refine VC R (sL (by omega)) Au ?_ ?_ ?_ ?_
 ·intro D hD;exact⟨hD,AM hD,uS,by rw[Dz];rfl,none,Y⟩
 ·rintro D i ys σ' H hi ⟨hD,hs,hl,q,_⟩;refine⟨hok H hs,?_⟩;rw[q,Ya,Ya,Bg];omega
 ·rintro D i v ys σ' H hD hx ⟨_,hs,hl,q,o,rfl⟩;obtain⟨d,hdi,hv⟩:=hp.at_ hx;refine he d v H _ hs (Yd hdi) hv λH4 s4=>?_;have Wa:=s4 _ _ hl;refine⟨Wa,hD,λb o e=>by rw[AD (AK e hD)];exact s4 _ _ (hs _ _ e),uS,?_,Z⟩;rw[Bt,hdi,q,Ys,Ys];rfl
 ·rintro D ys σ' H hD ⟨_,hs,hl,q,_⟩;rw[<- vl,Bs]at q;exact hd D H hD hs (by rw[hl,q])
def Z74:(["part","book","length"]:LS).Nodup:=by rfl'
abbrev ZT:LS:=["book","length","term"]
def Ycy:AX ZT ZT (AJ gW):=by nofun
theorem yr(F:Def K mg "is_sound" gW ZT f fd)(T:VT mg)(all:mg "all"=none)
  (DN:Def K mg "is_number" cA ["thing"] fN fdN) (DH:Def K mg "has_name" ky ["book","term"] fH fdH) (GH:⋯ 3 fH fdH ["book","term"] (zg C B D)):
  ∀ j,⋯ (4 + j) f fd ZT (xZ C B D j)
 | 0=>by
  nomatch F.fn.ok Ycy
  ·obtain⟨p,k,rows,ns,d,v,m,rfl,_⟩:=h;rfl
  ·obtain⟨p,k,rows,ns,d,v,m,rfl,_,_,_,_,z,_⟩:=h;rw[UT]at z;cases z
 | j + 1=>by
  have GS:=yr F T all DN DH GH j;have GN:⋯ 1 fN fdN ["thing"] kB:=qp DN T
  nomatch F.fn.ok Ycy
  ·obtain⟨p,k,rows,ns,d,v,m,rfl,_⟩:=h;rfl
  ·obtain⟨p,k,rows,ns,d,v,m,rfl,bk,gn,hv,wf,z,lz,q⟩:=h;have AZ:Af 1 _:=hr.mono (show 1<=4 + j by omega);have Uh:Af 3 _:=hr.mono (show 3<=4 + j by omega)
   ac_nf
   refine'⟨_,(pS (AY (Bo (AL DN GN AZ (pC (pv 2) AA))) (AG (AO (Z0z Wm bP AE (pv 2) (pv 1)))) Aa)
   (AG (AO (Vc (AL DH GH Uh (pC (pv 0) (pC (pv 2) AA))) (Vd (Aq (r:=mW K λbs=>bs.all id) (bg rfl) (by rfl) all cf (pC ?eC AA))))))),?_⟩
   case eC=>exact(Bm ["part"] ["book","length"] [0,1] (λ_=>BH (osc:=AJ gW) (on:=ZT) (by rfl') rfl rfl rfl) (UQ (Dg (r:=Xf K) Zn (pv 2) (Ce AE) T_)) (λC s H fp=>BN (i:=0) Z74 rfl (Or.inl rfl) (Or.inr rfl)) (λC s H fp=>Bn) (λC s H fp=>AL F GS hr (pC (pv 1) (pC (pv 2) (pC (pv 0) AA)))))
   exists AF _ a _ _ _
   have hz:∀ c∈B8 d,lvl j [c]=[]:=λc hc=>Z46 hc z;cases hv with
   | int i =>
    refine⟨Z,.int i,Z,.int i,Z,Av ?_⟩;refine⟨Z,_,Z,Y,Z,?_⟩;have q1:Q (.bl (decide (0<=i)&&decide (i<(m:Int)))) H:=q H (AB.refl _);by_cases h0:(0:Int)<=i
    ·rw[Jb h0]at q1 ⊢;exact Av ⟨Z,_,Z,Y,q1⟩
    ·rw[Jc h0]at q1 ⊢;exact AS q1
   | str x hx =>
    refine⟨Z,.str x,Z,.str x hx,Z,AS ?_⟩;refine⟨Z,Z,p,k,rows,ns,.str x,Z,bk,gn,.str x hx,Y,λH1 s1=>⟨Z,AS (q H1 s1)⟩⟩
   | @tup a vs ds ha ht =>
    refine⟨Z,.tuple ds,Z,.tup ha ht,Z,AS ?_⟩;refine⟨Z,Z,p,k,rows,ns,.tuple ds,Z,bk,gn,.tup ha ht,wf.head,λH1 s1=>⟨Z,?_⟩⟩;have eq:BR ns m (j + 1) (.tuple ds)=(Wn ns (.tuple ds)&&(ds.drop 1).all (BR ns m j)):=rfl;rw[eq]at q;cases hn:Wn ns (.tuple ds)with
    | false =>
     rw[hn]at q;exact AS (q H1 s1)
    | true =>
     rw[hn,DQ]at q;refine Av ⟨Z,Z,?_⟩;unfold XT;refine Zm (K:=K) (lo:=some 1) (hi:=none) (s1 _ _ ha) λb H2 BE hb=>?_;rw[YU]at hb;have s2:=s1.trans BE;have kd:An H2 (ds.drop 1) (vs.drop 1):=(ht.keep (A3 s2)).drop 1;have kl:=kd.length;have l1:=lz 1;have e1:lvl 1 [(.tuple ds:Dt)]=ds.drop 1:=by rw[XN,UT];simp[B8]
     rw[e1]at l1;refine⟨b,Y,⟨_,AH.of hb⟩,Zvh (Uo (xs:=vs.drop 1)) (by omega) (BR ns m j) kd (λH' s=>AH.of (s _ _ hb)) ?_ λlb H3 hlb A9 uG=>?_⟩
     ·intro c v H' R s' hc hv hR;have hc:c∈B8 (.tuple ds):=hc;have Cv:=s2.trans s';exact⟨Z,Z,Z,p,k,rows,ns,c,v,m,Y,bk.mono Cv,gn,hv.keep (A3 s'),wf.kid hc,hz c hc,λi=>Z8i hc (lz (i + 1)),hR⟩
     ·refine⟨lb,Z,SqL.of uG,?_⟩;have q3:=q H3 (s2.trans A9);show Q (.bl (((ds.drop 1).map (BR ns m j)).all id)) H3;rw[List.all_map];exact q3
def X9(ns:List AI)(m:Nat)(d:Dt):Bool:=XO d&&BR ns m 12 d
def yV(K:Fg)(C:Addr):Sp:=λvs H Q _=>∃(p l:Addr) (rows:RS) (b:Bool) (xs:LS),vs=[.ref p,.ref l]/\CQ C H p rows/\Am rows/\CW K b H l (xs.map V.str)/\xs.length<=12/\(∀ x∈xs,x∈rows.map (·.1))/\Q .non H
def yX(K:Fg)(C B D:Addr):Sp:=λvs H Q _=>∃(p k l:Addr) (rows:RS) (ns:List AI) (b:Bool) (xs:LS) (d:Dt) (v:V),vs=[.ref p,.ref l,v]/\Sk C B D H p k rows ns/\Am rows/\Cf rows ns/\CW K b H l (xs.map V.str)/\xs.length<=12/\(∀ x∈xs,x∈rows.map (·.1)) /\
 B_ H d v/\Wf d/\(∀ i,(lvl i [d]).length<=1000)/\∀ H',AB H H'->Q (.bl (X9 ns xs.length d)) H'
def Zws{d:Dt}(h:XO d=true):lvl 12 [d]=[]:=by
 unfold XO at h;rw[B1]at h;exact List.isEmpty_iff.mp h.1
abbrev nCF:LS:=["kinds","filling","word"]
def Yc7:AX nCF ["kinds","filling"] (AJ mJ):=by nofun
def Zx2{T1:Tok}(F:Def K mg "check_filling" mJ ["kinds","filling"] f fd)(T:VT mg)(TC:Tx K C)(c1:mg "MOST_THINGS"=some (.int 12 T1))
  (MC:Sb K C "check" "Kinds.check" cM ["self","word"] fC fdC) (GC:⋯ 2 fC fdC ["self","word"] (qf C)):⋯ 3 f fd ["kinds","filling"] (yV K C):=by
 nomatch F.fn.ok Yc7
 ·obtain⟨p,l,rows,b,xs,rfl,_⟩:=h;rfl
 ·obtain⟨p,l,rows,b,xs,rfl,kd,g,hS,hl,hx,q⟩:=h;have nd:=Yc7.nd
  ac_nf
  refine'⟨_,(pS (AY (Ag Wl (Aq Cn (by rfl) T.len BI (pC (pv 1) AA)) (VB (v:=.int 12) (by rfl) c1 ⟨Z⟩) (Ab _)) CK Aa)
   (AG (BM Yw rfl (bX (pv 1)) (gE 2 nd) (AG (Bc (T9 (pv 0) TC.cl MC.me GC hr MC.b .nil BA (pC (pv 2) AA))))))),?_⟩
  exists let b:=BS _ _ a;AF _ b _ _ _
  obtain⟨dx,d,a,o,oa,kvs,AR,h1,_⟩:=kd.ex;have hq:SqL K H l (xs.map V.str)\/AH K H l (xs.map V.str):=by
   cases b with
   | true=>exact .inl hS
   | false=>exact .inr hS
  refine⟨Z,l,Z,hq,_,Z,Y,Z,?_⟩;rw[Ya,Jc (by omega)];let Au:NW:=λi σ H'=>∃ x,σ=[some (.ref p),some (.ref l),x]/\H'=H;refine AS ⟨Z,b,l,Z,hS,Bz b0 Au ⟨none,Y,Y⟩ (λi σ H' _ ⟨_,_,e⟩=>by rw[e];exact hS) ?_ ?_⟩
  ·rintro i v σ H' hi ⟨x,rfl,e⟩;have e2:=e.symm;subst e2;rw[Yj]at hi;obtain⟨y,hy,rfl⟩:=CV.mp hi;exact⟨Z,p,dx,Z,h1,qm _ _,Z,p,rows,y,Y,kd,g,hx y (Yd hy),Z,Y⟩
  ·rintro σ H' ⟨x,rfl,e⟩;rw[e];exact q
def Yeb:AX ["book","filling","term"] ["book","filling","term"] (AJ ko):=by nofun
def Zxx(F:Def K mg "is_term" ko ["book","filling","term"] f fd)(T:VT mg)(TD:U8 K D)
  (MK:qY K D fK fdK) (DF:Def K mg "check_filling" mJ ["kinds","filling"] fF fdF) (GF:⋯ 3 fF fdF ["kinds","filling"] (yV K C))
  (DS:Def K mg "is_small" gS ["term"] fS fdS) (GS:⋯ 2 fS fdS ["term"] qg) (DO:Def K mg "is_sound" gW ZT fO fdO) (GO:⋯ 16 fO fdO ZT (xZ C B D 12)):⋯ 17 f fd ["book","filling","term"] (yX K C B D):=by
 have GK:⋯ 1 fK fdK ["self"] (kY C B D):=rG MK.fn TD
 nomatch F.fn.ok Yeb
 ·obtain⟨p,k,l,rows,ns,b,xs,d,v,rfl,_⟩:=h;rfl
 ·obtain⟨p,k,l,rows,ns,b,xs,d,v,rfl,bk,g,gn,hS,hl,hx,hv,wf,lz,q⟩:=h;have AZ:Af 1 _:=hr.mono (by decide);have B6:Af 2 _:=hr.mono (by decide);have Uh:Af 3 _:=hr.mono (by decide)
  ac_nf
  refine'⟨_,(pS (Bc (AL DF GF Uh (pC (DJ (pv 0) TD.cl MK.me GK AZ MK.b .nil BA) (pC (pv 1) AA))))
   (AG (AO (Vc (AL DS GS B6 (pC (pv 2) AA)) (Vd (AL DO GO hr (pC (pv 0) (pC (Aq Cn (by rfl) T.len BI (pC (pv 1) AA)) (pC (pv 2) AA))))))))),?_⟩
  exists AF _ a _ _ _
  obtain⟨dx,bo,mo,o,A6,BD,h1,h2,h3,h4,h5,h6⟩:=bk.ex;refine⟨Z,p,dx,Z,h1,rE _ _ _,p,k,rows,ns,Y,bk,Z,k,l,rows,b,xs,Y,h2,g,hS,hl,hx,?_⟩;refine⟨Z,d,v,Y,hv,lz,λH1 s1=>⟨Z,?_⟩⟩;have ve:=hS.mono s1;have hq:SqL K H1 l (xs.map V.str)\/AH K H1 l (xs.map V.str):=by
   cases b with
   | true=>exact .inl ve
   | false=>exact .inr ve
  unfold X9 at q;cases hs:XO d with
  | false =>
   rw[hs]at q;exact AS (q H1 s1)
  | true =>
   rw[hs,DQ]at q;refine Av ⟨Z,Z,l,Z,hq,Z,p,k,rows,ns,d,v,xs.length,by rw[Ya];rfl,bk.mono s1,gn,hv.keep (A3 s1),wf,Zws hs,lz,λH2 s2=>q H2 (s1.trans s2)⟩
theorem Zu:∀(k:Nat) (a b:List Dt),A0 k (a++b)=A0 k a + A0 k b
 | 0,a,b=>by rw[XZ,XZ,XZ]
 | k + 1,a,b=>by rw[YO,YO,YO,Zu k,YS,Yc];omega
theorem bf:∀(k:Nat) (l:List Dt),A0 (k + 1) l=l.length + A0 k (l.flatMap B8)
 | 0,l=>by rw[YO,XZ,XZ,UT];omega
 | k + 1,l=>by rw[YO,bf k,YO,XN];omega
def wo(k:Nat)(l:List Dt):(lvl k l).length<=A0 (k + 1) l:=by rw[YO];omega
def v7:Dt->Bool
 | .int _=>true
 | .tuple (.str _ :: _ :: _)=>true
 | _=>false
def Dr(l:List Dt):Prop:=∀ k,∀ e∈lvl k l,v7 e=true
def Dr.nil:Dr []:=λk e he=>by
 have:∀ k,lvl k []=[]:=λk=>by
  induction k with
  | zero=>rw[UT]
  | succ k ih=>rw[Wt,ih];rfl
 rw[this]at he;cases he
def bt(d:Dt):[d].flatMap B8=B8 d:=by simp
theorem Dr.int(i:Int):Dr [.int i]
 | 0,e,he=>by rw[UT]at he;rw[Yh.mp he];rfl
 | k + 1,e,he=>by rw[XN,bt]at he;exact Dr.nil k e he
def Dr.tup{x:Str}{d:Dt}{ds:List Dt}(h:Dr (d :: ds)):Dr [.tuple (.str x :: d :: ds)]
 | 0,e,he=>by rw[UT]at he;rw[Yh.mp he];rfl
 | k + 1,e,he=>by rw[XN,bt]at he;exact h k e he
theorem j3:∀ k,A0 k []=0
 | 0=>XZ _
 | k + 1=>by rw[bf];show 0 + A0 k []=0;rw[j3 k]
def Z5v(i:Int):∀ k,A0 k [.int i]<=1
 | 0=>by rw[XZ];omega
 | k + 1=>by rw[bf,bt];show 1 + A0 k []<=1;rw[j3];exact Yf _
def fm(h:Dt)(ds:List Dt):∀ k,A0 (k + 1) [.tuple (h :: ds)]=1 + A0 k ds:=λk=>by rw[bf,bt];rfl
def xO{ns:List AI}{m dp:Nat}{v:Int}(h:1<=dp)(h0:0<=v)(h1:v<(m:Int)):BR ns m dp (.int v)=true:=by
 obtain⟨k,rfl⟩:∃ k,dp=k + 1:=⟨dp - 1,W⟩;show(decide (0<=v)&&decide (v<(m:Int)))=true;rw[Jb h0,Jb h1];rfl
def xQ{ns:List AI}{m dp:Nat}{n:AI}{ds:List Dt}(h:2<=dp)(nd:(ns.map (·.1)).Nodup)(hn:n∈ns)(hl:ds.length=n.2.1)(hk:∀ c∈ds,BR ns m (dp - 1) c=true):BR ns m dp (.tuple (.str n.1 :: ds))=true:=by
 obtain⟨k,rfl⟩:∃ k,dp=k + 1:=⟨dp - 1,W⟩;show(Wn ns (.tuple (.str n.1 :: ds))&&ds.all (BR ns m k))=true;rw[rN ds (yu nd hn),Jb hl,DQ,CL];exact hk
inductive Rs
 | kind (x:Str)
 | bad (b:Bool) (sp:LN) (c:LS) (ks:LN)
def sB:Bool->Str
 | true=>"clash"
 | false=>"none"
def Yae(b:Bool):¬ (sB b="kind"):=by cases b <;> rfl'
def V8(H:Hp):Rs->Addr->Prop
 | .kind x,a=>H a=some (.tup [.str "kind",.str x])
 | .bad b sp c ks,a=>∃ t u,H a=some (.tup (.str (sB b):: .ref t :: .ref u :: ks.map Aj))/\H t=some (.tup (sp.map Aj))/\H u=some (.tup (c.map V.str))
def V8.keep{H H':Hp}(k:∀ b xs,H b=some (.tup xs)->H' b=some (.tup xs)):∀ {r:Rs}{a:Addr},V8 H r a->V8 H' r a
 | .kind _,_,h=>k _ _ h
 | .bad ..,_,⟨t,u,h1,h2,h3⟩=>⟨t,u,k _ _ h1,k _ _ h2,k _ _ h3⟩
def af:Rs->Dt
 | .kind x=>.tuple [.str "kind",.str x]
 | .bad b sp c ks=>.tuple (.str (sB b):: .tuple (sp.map Sg):: De c :: ks.map Sg)
def V8.rep{K:Fg}{H:Hp}:∀ {r:Rs}{a:Addr},V8 H r a->Rep K H (.ref a) (af r)
 | .kind _,_,h=>.tuple (AH.of h) (.cons (.str _) (.cons (.str _) .nil))
 | .bad ..,_,⟨t,u,h1,h2,h3⟩=>.tuple (AH.of h1) (.cons (.str _) (.cons (.tuple (AH.of h2) (kj _)) (.cons (kP h3) (kj _))))
def rkN:LN->LN
 | k :: j :: _=>[k,j]
 | _=>[]
def Z84(mk:LS)(near:LN)(sp:LN)(c:LS):Rs :=
 match near with
 | [k]=>.kind (mk.getD k "")
 | near=>.bad (!near.isEmpty) sp c (rkN near)
def rT(near:LN):(∃ k,near=[k])\/∃ b ks,e_ near=.str (sB b):: ks.map Aj/\ks.length<=2/\∀ mk sp c,Z84 mk near sp c=.bad b sp c ks:=by
 match near with
 | []=>exact .inr ⟨false,[],Y,V,λ_ _ _=>rfl⟩
 | [k]=>exact .inl ⟨k,Y⟩
 | k :: j :: r=>exact .inr ⟨true,[k,j],Y,Yf 2,λ_ _ _=>rfl⟩
def Wk(rows:RS)(n:AI)(sp:LN)(c:LS):Rs:=Z84 (n.2.2.map (·.2)) (Vt rows (n.2.2.map (·.1)) c) sp c
def X6(rows:RS)(ns:List AI)(w:Str)(sp:LN)(c:LS):Rs :=
 match ns.find? (λn=>decide (n.1=w))with
 | some n=>Wk rows n sp c
 | none=>.kind ""
def qk{ns:List AI}{n:AI}(nd:(ns.map (·.1)).Nodup)(h:n∈ns):ns.find? (λm=>decide (m.1=n.1))=some n:=by
 induction ns with
 | nil=>cases h
 | cons m ms ih =>
  rw[Yz,Cr]at nd;rw[Xg]
  rcases Yv.mp h with e | h
  ·rw[e,Jb rfl]
  ·have ne:¬ m.1=n.1:=λz=>nd.1 (by rw[z];exact Yg.mpr ⟨n,h,Y⟩);rw[Jc ne];exact ih nd.2 h
def kL{rows:RS}{ns:List AI}{n:AI}(nd:(ns.map (·.1)).Nodup)(h:n∈ns)(sp:LN)(c:LS):X6 rows ns n.1 sp c=Wk rows n sp c:=by
 unfold X6;rw[qk nd h]
def Dc(f:Dt->Nat->Rs):List Dt->Nat->LS->Sum Rs (LS)
 | [],_,acc=>.inr acc
 | c :: cs,i,acc=>match f c i with
  | .kind x=>Dc f cs (i + 1) (acc++[x])
  | .bad b sp cl ks=>.inl (.bad b sp cl ks)
def su{f:Dt->Nat->Rs}{c:Dt}{cs:List Dt}{i:Nat}{acc:LS}{x:Str}(h:f c i=.kind x):Dc f (c :: cs) i acc=Dc f cs (i + 1) (acc++[x]):=by rw[Dc,h]
def sr{f:Dt->Nat->Rs}{c:Dt}{cs:List Dt}{i:Nat}{acc:LS}{b:Bool}{sp:LN}{cl:LS}{ks:LN}(h:f c i=.bad b sp cl ks):Dc f (c :: cs) i acc=.inl (.bad b sp cl ks):=by rw[Dc,h]
def Ci(rows:RS)(ns:List AI)(xs:LS):Nat->Dt->LN->Rs
 | 0,_,_=>.kind ""
 | k + 1,d,sp=>match d with
  | .int i=>.kind (xs.getD i.toNat "")
  | .tuple (.str w :: ds)=>match Dc (λc i=>Ci rows ns xs k c (sp++[i])) ds 0 []with
   | .inl r=>r
   | .inr call=>X6 rows ns w sp call
  | _=>.kind ""
def j_{rows:RS}{ns:List AI}{xs:LS}(k:Nat)(w:Str)(ds:List Dt)(sp:LN):Ci rows ns xs (k + 1) (.tuple (.str w :: ds)) sp=(match Dc (λc i=>Ci rows ns xs k c (sp++[i])) ds 0 []with
   | .inl r=>r
   | .inr call=>X6 rows ns w sp call):=rfl
def Z38{rows:RS}{ns:List AI}{xs:LS}(k:Nat)(i:Int)(sp:LN):Ci rows ns xs (k + 1) (.int i) sp=.kind (xs.getD i.toNat ""):=rfl
def YF{ns:List AI}{m j:Nat}{d:Dt}(h:BR ns m (j + 1) d=true):(∃ i:Nat,d=.int i/\i<m)\/∃ n∈ns,∃ ds,d=.tuple (.str n.1 :: ds)/\ds.length=n.2.1/\∀ c∈ds,BR ns m j c=true:=by
 have no:∀(e:Dt),Wn ns e=false->BR ns m (j + 1) e=(Wn ns e&&(B8 e).all (BR ns m j))->BR ns m (j + 1) e=true->False:=λe z y w=>by rw[y,z]at w;cases w
 cases d with
 | int i =>
  have h:(decide (0<=i)&&decide (i<(m:Int)))=true:=h;rw[B1]at h;have h1:=Je h.1;have h2:=Je h.2;exact .inl ⟨i.toNat,by rw[Us h1],W⟩
 | tuple ds =>
  cases ds with
  | nil=>exact(no _ rfl rfl h).elim
  | cons x r =>
   cases x with
   | str w =>
    have h:(Wn ns (.tuple (.str w :: r))&&r.all (BR ns m j))=true:=h;rw[B1,CL]at h;cases ha:Vs ns w with
    | none=>rw[zr r ha]at h;cases h.1
    | some k =>
     rw[rN r ha]at h;unfold Vs at ha;obtain⟨n,hn,ek⟩:=CV.mp ha;have hm:=List.mem_of_find?_eq_some hn;have hw:n.1=w:=Je (List.find?_some (p:=λn:AI=>decide (n.1=w)) hn);exact .inr ⟨n,hm,r,by rw[hw],by rw[Je h.1,ek],h.2⟩
   | _=>exact(no _ rfl rfl h).elim
 | _=>exact(no _ rfl rfl h).elim
def qR{rows:RS}{ds:List (LS)}{xs:LS}:∀ k∈Vt rows ds xs,k<ds.length:=λk hk=>j4 k (Xi.mp hk).1
def Zlz{rows:RS}{n:AI}(gn:YM rows n){sp:LN}{c:LS}{x:Str}(h:Wk rows n sp c=.kind x):x∈rows.map (·.1):=by
 unfold Wk at h;have lt:=qR (rows:=rows) (ds:=n.2.2.map (·.1)) (xs:=c);generalize Vt rows (n.2.2.map (·.1)) c=near at h lt
 match near,h,lt with
 | [k],h,lt =>
  injection h with h;have:=lt k (.head _);rw[Ya]at this;rw[<- h,Yl,Yj,Yb this];exact gn.made _ (Z9 this)
 | [],h,_=>cases h
 | _ :: _ :: _,h,_=>cases h
theorem yG{f:Dt->Nat->Rs}{W:LS}:∀ {ds:List Dt}{i:Nat}{acc call:LS},(∀ c∈ds,∀ i x,f c i=.kind x->x∈W)->(∀ x∈acc,x∈W)->Dc f ds i acc=.inr call->(∀ x∈call,x∈W)/\call.length=acc.length + ds.length
 | [],i,acc,call,_,ha,h=>by
  injection h with h;rw[<- h];exact⟨ha,Y⟩
 | c :: cs,i,acc,call,hf,ha,h=>by
  unfold Dc at h;cases hc:f c i with
  | bad b sp cl ks=>rw[hc]at h;cases h
  | kind x =>
   rw[hc]at h;have:=yG (λc hc=>hf c (.tail _ hc)) (λy hy=>(Yo.mp hy).elim (ha y) λz=>by rw[Yh.mp z];exact hf c (.head _) i x hc) h;refine⟨this.1,?_⟩;rw[this.2,Yc,UY,Yt];omega
theorem Z3l{f:Dt->Nat->Rs}:∀ {ds:List Dt}{i:Nat}{acc:LS}{r:Rs},Dc f ds i acc=.inl r->∃ b sp cl ks,r=.bad b sp cl ks
 | [],i,acc,r,h=>by cases h
 | c :: cs,i,acc,r,h=>by
  unfold Dc at h;cases hc:f c i with
  | bad b sp cl ks=>rw[hc]at h;injection h with h;exact⟨b,sp,cl,ks,h.symm⟩
  | kind x=>rw[hc]at h;exact Z3l h
def zT{rows:RS}{ns:List AI}{xs:LS}(gn:Cf rows ns)(hx:∀ x∈xs,x∈rows.map (·.1)):∀(j:Nat) (d:Dt),BR ns xs.length j d=true->∀ sp x,Ci rows ns xs j d sp=.kind x->x∈rows.map (·.1)
 | 0,d,h,sp,x,e=>by cases h
 | j + 1,d,h,sp,x,e=>by
  rcases YF h with⟨i,rfl,hi⟩ | ⟨n,hn,ds,rfl,hl,hk⟩
  ·rw[Z38]at e;injection e with e;rw[<- e,show((i:Int)).toNat=i from rfl,Yl,Yb hi];exact hx _ (Z9 hi)
  ·rw[j_]at e;cases hg:Dc (λc i=>Ci rows ns xs j c (sp++[i])) ds 0 []with
   | inl r=>rw[hg]at e;obtain⟨_,_,_,_,z⟩:=Z3l hg;rw[z]at e;cases e
   | inr call =>
    rw[hg]at e;have e:X6 rows ns n.1 sp call=.kind x:=e;rw[kL gn.nd hn]at e;exact Zlz (gn.each n hn) e
def qN{rows:RS}{ns:List AI}{xs:LS}(gn:Cf rows ns)(hx:∀ x∈xs,x∈rows.map (·.1)){j:Nat}{n:AI}{ds:List Dt}{sp:LN}{call:LS}(hl:ds.length=n.2.1)(hk:∀ c∈ds,BR ns xs.length j c=true)(h:Dc (λc i=>Ci rows ns xs j c (sp++[i])) ds 0 []=.inr call):Ve rows n.2.1 call:=by
 have:=yG (W:=rows.map (·.1)) (λc hc i x e=>zT gn hx j c (hk c hc) _ x e) (acc:=[]) (λx z=>by cases z) h;exact⟨by rw[this.2,hl];exact Nat.zero_add _,this.1⟩
theorem xI:∀ k,lvl k []=[]
 | 0=>UT _
 | k + 1=>by rw[Wt,xI k];rfl
theorem xP{ns:List AI}{m:Nat}:∀(j:Nat) (d:Dt),BR ns m j d=true->lvl j [d]=[]
 | 0,d,h=>by cases h
 | j + 1,d,h=>by
  rw[XN,bt];have all:∀ l:List Dt,(∀ c∈l,BR ns m j c=true)->lvl j l=[]:=λl=>by
   induction l with
   | nil=>exact λ_=>xI j
   | cons c r ih =>
    intro hc;rw[show c :: r=[c]++r from rfl,YS,xP j c (hc c (.head _)),ih λc h=>hc c (.tail _ h)];rfl
  rcases YF h with⟨i,rfl,hi⟩ | ⟨n,hn,ds,rfl,hl,hk⟩
  ·exact all [] λ_ h=>nomatch h
  ·exact all ds hk
def Zv2{ns:List AI}{m:Nat}{d:Dt}(h:BR ns m 12 d=true)(hc:∀ k,A0 k [d]<=40):X9 ns m d=true:=by
 unfold X9 XO;rw[xP 12 d h,Jb (hc 12),h];rfl
def Z8y{d:Dt}(h:Dr [d]):Wf d:=λk e he=>by
 have:=h k e he
 match e,this with
 | .int _,_=>rfl
 | .tuple (.str _ :: _ :: _),_=>rfl
def zk(C B D:Addr):Sp:=λvs H Q _=>∃(p k ts tc:Addr) (rows:RS) (ns:List AI) (n:AI) (sp:LN) (c:LS),vs=[.ref p,.str n.1,.ref ts,.ref tc]/\Sk C B D H p k rows ns/\Am rows/\Cf rows ns/\n∈ns/\H ts=some (.tup (sp.map Aj))/\H tc=some (.tup (c.map V.str))/\Ve rows n.2.1 c /\
 ∀(a:Addr) (H':Hp),AB H H'->V8 H' (Wk rows n sp c) a->Q (.ref a) H'
def Z2z(K:Fg)(C B D:Addr)(j:Nat):Sp:=λvs H Q _=>∃(p k l ts:Addr) (rows:RS) (ns:List AI) (b:Bool) (xs:LS) (d:Dt) (v:V) (sp:LN),vs=[.ref p,.ref l,v,.ref ts]/\Sk C B D H p k rows ns/\Am rows/\Cf rows ns/\CW K b H l (xs.map V.str)/\(∀ x∈xs,x∈rows.map (·.1))/\B_ H d v/\BR ns xs.length j d=true/\H ts=some (.tup (sp.map Aj))/\sp.length + j<=50 /\
 ∀(a:Addr) (H':Hp),AB H H'->V8 H' (Ci rows ns xs j d sp) a->Q (.ref a) H'
def yW(K:Fg)(C B D:Addr):Sp:=λvs H Q _=>∃(p k l:Addr) (rows:RS) (ns:List AI) (b:Bool) (xs:LS) (d:Dt) (v:V),vs=[.ref p,.ref l,v]/\Sk C B D H p k rows ns/\Am rows/\Cf rows ns/\CW K b H l (xs.map V.str)/\xs.length<=12/\(∀ x∈xs,x∈rows.map (·.1)) /\
 B_ H d v/\Wf d/\(∀ i,(lvl i [d]).length<=1000)/\X9 ns xs.length d=true/\∀ H',AB H H'->Q .non H'
def Z7y:¬ (V.str "none"=V.str "deed"):=λz=>by injection z with z;exact absurd z (by rfl')
def Z7z:¬ (V.str "clash"=V.str "deed"):=λz=>by injection z with z;exact absurd z (by rfl')
def Z3a(b:Bool):¬ (V.str (sB b)=V.str "kind"):=λz=>by injection z with z;exact Yae b z
abbrev nRC:LS:=["book","word","spot","call","answer"]
abbrev dN:LS:=["book","word","spot","call"]
def Yco:AX nRC dN (AJ k_):=by nofun
def Zul(F:Def K mg "run_call" k_ dN f fd)(TD:U8 K D)(list:mg "list"=none)
  (DT:Def K mg "told" jx ["board","call"] fT fdT) (GT:⋯ 8 fT fdT ["board","call"] (Z2y C B)) (MB:qW K D fB fdB) (MM:wW K D fM fdM) (MC:qX K D fC fdC):⋯ 9 f fd dN (zk C B D):=by
 have GB:⋯ 2 fB fdB ["self","word"] (kU C B D):=zJ MB.fn TD MC;have GM:⋯ 2 fM fdM ["self","word"] (qu C B D):=zL MM.fn TD MC list
 nomatch F.fn.ok Yco
 ·obtain⟨p,k,ts,tc,rows,ns,n,sp,c,rfl,_⟩:=h;rfl
 ·obtain⟨p,k,ts,tc,rows,ns,n,sp,c,rfl,bk,g,gn,hn,hts,htc,gc,q⟩:=h;have nd:=Yco.nd;have B6:Af 2 _:=hr.mono (by decide);have Bi:=gn.each n hn
  ac_nf
  refine'⟨_,(pS (sE 4 nd (AL DT GT hr (pC (T9 (pv 0) TD.cl MB.me GB B6 MB.b .nil BA (pC (pv 1) AA)) (pC (pv 3) AA))))
   (pS (AY (Ag BV (AV (r:=BQ K) BW (pv 4) AE (λ_ _=>rfl)) Ar (Ab _)) (AG (AO (Bf (pC Ar (pC (AV (r:=Bl K) A2 (T9 (pv 0) TD.cl MM.me GM B6 MM.b .nil BA (pC (pv 1) AA)) (AV (r:=BQ K) BW (pv 4) AE (λ_ _=>rfl)) (λ_ _=>rfl)) AA))))) Aa)
   (AG (AO (AU YE (Bf (pC (AV (r:=BQ K) BW (pv 4) AE (λ_ _=>rfl)) (pC (pv 2) (pC (pv 3) AA)))) (Dg (r:=Xf K) Zn (pv 4) (Ce AE) T_)))))),?_⟩
  exists let b:=_;let c:=AF (By _ b _) a;AF _ c _ _ _
  obtain⟨dx,bo,mo,o,A6,BD,h1,_⟩:=bk.ex;refine⟨Z,p,dx,Z,h1,gM _ _ _,Z,p,k,rows,ns,n,Y,bk,gn.nd,hn,λy bd=>?_⟩;refine⟨Z,y,k,tc,rows,n.2.1,_,c,Y,bd,g,Bi.deeds,Bi.four,htc,gc,λl H1 hl s1 Aw=>?_⟩;have lt:=qR (rows:=rows) (ds:=n.2.2.map (·.1)) (xs:=c);unfold Wk at q;generalize Vt rows (n.2.2.map (·.1)) c=near at q Aw lt
  rcases rT near with⟨i,rfl⟩ | ⟨b,ks,ev,kl,ec⟩
  ·have li:=lt i (.head _);rw[Ya]at li;refine⟨Z,l,_,_,Z,Y,AH.of Aw,LG _ _,Y,Z,?_⟩;rw[Jb rfl];refine Av ⟨Z,p,dx,Z,s1 _ _ h1,zE _ _ _,Z,p,k,rows,ns,n,Y,bk.mono s1,gn.nd,hn,λlm hlm=>?_⟩;have BE:AB H1 (upd H1 lm (.lst ((n.2.2.map (·.2)).map V.str))):=AM hlm;have Ap:(upd H1 lm (.lst ((n.2.2.map (·.2)).map V.str))) lm=some (.lst ((n.2.2.map (·.2)).map V.str)):=uS;generalize upd H1 lm (.lst ((n.2.2.map (·.2)).map V.str))=H2 at BE Ap;have WY:(n.2.2.map (·.2))[i]?=some ((n.2.2.map (·.2)).getD i ("":Str)):=by
    rw[Yl,Yj,Yb li];rfl
   refine⟨Z,l,_,_,Z,Y,AH.of (BE _ _ Aw),Bb (j:=1) rfl,lm,_,_,Z,Y,SqL.of Ap,Bb (j:=i) (by rw[Yj,WY];rfl),U,λt ht=>q t _ ((s1.trans BE).trans (AM ht)) uS⟩
  ·rw[ev]at Aw;rw[ec]at q;refine⟨Z,l,_,_,Z,Y,AH.of Aw,LG _ _,Y,Z,?_⟩;rw[Jc (show ¬ (V.str (sB b)=V.str "deed")from by cases b;exact Z7y;exact Z7z)];refine AS ⟨Z,l,_,_,Z,Y,AH.of Aw,LG _ _,Z,Z,sL (by show 3<=100000;decide),λt ht=>?_⟩;have BE:AB H1 (upd H1 t (.tup [.str (sB b),.ref ts,.ref tc])):=AM ht;have A_:(upd H1 t (.tup [.str (sB b),.ref ts,.ref tc])) t=some (.tup [.str (sB b),.ref ts,.ref tc]):=uS;generalize upd H1 t (.tup [.str (sB b),.ref ts,.ref tc])=H2 at BE A_;refine⟨Z,Z,?_⟩;unfold XT;refine Zm (K:=K) (lo:=some 1) (hi:=none) (BE _ _ Aw) λu H3 A9 hu=>?_;rw[YU]at hu;have hu:H3 u=some (.tup (ks.map Aj)):=hu;refine YK (K:=K) (A9 _ _ A_) hu (sL (by rw[Ya];show 3 + _<=_;omega)) λa H4 Ai ha=>?_;have s4:=(s1.trans BE).trans (A9.trans Ai);exact q a H4 s4 ⟨ts,tc,ha,s4 _ _ hts,s4 _ _ htc⟩
abbrev nRP:LS:=["book","filling","term","spot","made","number","part","answer"]
abbrev dM:LS:=["book","filling","term","spot"]
def rz:AX nRP dM (AJ lA):=by nofun
def Z4q(F:Def K mg "run_part" lA dM f fd)(T:VT mg)(enum:mg "enumerate"=none)
  (DN:Def K mg "is_number" cA ["thing"] fN fdN) (DC:Def K mg "run_call" k_ dN fC fdC) (GC:⋯ 9 fC fdC dN (zk C B D)):
  ∀ j,⋯ (10 + j) f fd dM (Z2z K C B D j):=by
 intro j
 induction j with
 | zero =>
  nomatch F.fn.ok rz
  ·obtain⟨p,k,l,ts,rows,ns,b,xs,d,v,sp,rfl,_⟩:=h;rfl
  ·obtain⟨p,k,l,ts,rows,ns,b,xs,d,v,sp,rfl,_,_,_,_,_,_,z,_⟩:=h;cases z
 | succ j GS =>
  have GN:⋯ 1 fN fdN ["thing"] kB:=qp DN T
  nomatch F.fn.ok rz
  ·obtain⟨p,k,l,ts,rows,ns,b,xs,d,v,sp,rfl,_⟩:=h;rfl
  ·obtain⟨p,k,l,ts,rows,ns,b,xs,d,v,sp,rfl,bk,g,gn,hS,hx,hv,sd,hts,hsp,q⟩:=h;have nd:=rz.nd;have AZ:Af 1 _:=hr.mono (show 1<=10 + j by omega);have hr9:Af 9 _:=hr.mono (show 9<=10 + j by omega)
   ac_nf
   refine'⟨_,(pS (AY (Bo (AL DN GN AZ (pC (pv 2) AA))) (AG (AO (Bf (pC Ar (pC (AV (r:=oI K) Z3j (pv 1) (pv 2) (λ_ _=>rfl)) AA))))) Aa)
   (pS (sE 4 nd (BX AA))
   (pS (BM Yw rfl (qU (by rfl) enum (pC (Dg (r:=Xf K) Zn (pv 2) (Ce AE) T_) AA)) (LJ rfl (gC (gE 5 nd) (gC (gE 6 nd) LL)))
     (pS (sE 7 nd (AL F GS hr (pC (pv 0) (pC (pv 1) (pC (pv 6) (pC (AU YE (pv 3) (Bf (pC (pv 5) AA))) AA))))))
   (pS (AY (Ag U6 (AV (r:=BQ K) BW (pv 7) AE (λ_ _=>rfl)) Ar (Ab _)) (AG (AO (pv 7))) Aa)
   (AG (Bc (Be Cs Dy Dx Di (pv 4) (pC (AV (r:=BQ K) BW (pv 7) AE (λ_ _=>rfl)) AA)))))))
   (AG (AO (AL DC GC hr9 (pC (pv 0) (pC (AV (r:=BQ K) BW (pv 2) AE (λ_ _=>rfl)) (pC (pv 3) (pC (Co V1 (by rfl) T.tuple Ur (pC (pv 4) AA)) AA)))))))))),?_⟩
   exists let b:=_;let c:=AF _ b;let e:=AF _ c;let f:=AF (BS _ _ e) a;let g:=AF _ f;let h:=_;AF (By _ h _) g _ _ _
   rcases YF sd with⟨i,rfl,hi⟩ | ⟨n,hn,ds,rfl,hl,hk⟩
   ·cases hv;refine⟨Z,.int i,Z,.int _,Z,Av ⟨Z,Z,?_⟩⟩;have ea:BZ (xs.map V.str) (i:Int)=some (.str (xs.getD i ("":Str))):=Bb (by
     rw[Yj,Yl,Yb hi];rfl)
    cases b with
    | true=>exact .inl ⟨l,_,_,Z,Y,hS,ea,U,λt ht=>q t _ (AM ht) uS⟩
    | false=>exact .inr (.inl ⟨l,_,_,Z,Y,hS,ea,U,λt ht=>q t _ (AM ht) uS⟩)
   ·cases hv with
    | @tup a vs _ ha ht =>
    cases ht with
    | @cons _ _ v0 vs h0 ht =>
    cases h0;have Bi:=gn.each n hn;have n4:=Bi.four;rw[j_]at q;refine⟨Z,.tuple (.str n.1 :: ds),Z,.tup ha (.cons (.str _ (XU Bi.word)) ht),Z,AS ⟨Ax _,λlm hlm=>?_⟩⟩;have s1:AB H (upd H lm (.lst [])):=AM hlm;have U2:(upd H lm (.lst [])) lm=some (.lst []):=uS;generalize upd H lm (.lst [])=H1 at s1 U2;refine⟨Z,Z,?_⟩;unfold XT;refine Zm (K:=K) (lo:=some 1) (hi:=none) (s1 _ _ ha) λt2 H2 BE A_=>?_;rw[YU]at A_;have A_:H2 t2=some (.tup vs):=A_;have s2:=s1.trans BE;have jX:=BE _ _ U2;have vl:=ht.length;have tm:t2≠lm:=λz=>by rw[z,jX]at A_;cases A_
    let Au:NW:=λi σ H'=>∃(mk:LS) (x5 x6 x7:OV),σ=[some (.ref p),some (.ref l),some (.ref a),some (.ref ts),some (.ref lm),x5,x6,x7]/\AB H H'/\H' t2=some (.tup vs)/\H' lm=some (.lst (mk.map V.str))/\mk.length=i/\Dc (λc i=>Ci rows ns xs j c (sp++[i])) (ds.drop i) i mk=Dc (λc i=>Ci rows ns xs j c (sp++[i])) ds 0 [];refine⟨false,t2,vs,Y,AH.of A_,gL Au
     ⟨[],none,none,none,Y,s2,A_,jX,Y,Y⟩ (λi σ H' _ h0=>by obtain⟨_,_,_,_,_,_,h,_⟩:=h0;exact AH.of h) ?_ ?_⟩
    ·rintro i pr t σ H3 hi ⟨mk,x5,x6,x7,rfl,s3,WT,ZX,ml,hg⟩ U0;obtain⟨e1,hi⟩:=Zr hi;obtain⟨c,hc,hvc⟩:=ht.at_ hi;have hcm:=Yd hc;have il:i<ds.length:=(Yi.mp hc).1;refine fG ?_;have Ai:AB H3 (upd H3 t (.tup [pr.1,pr.2])):=AM U0;generalize upd H3 t (.tup [pr.1,pr.2])=H4 at Ai;rw[e1];have s4:=s3.trans Ai;refine⟨Z,Z,Z,Z,Z,O,λt5 oi=>?_⟩;have As:AB H4 (upd H4 t5 (.tup [.int i])):=AM oi;have X3:(upd H4 t5 (.tup [.int i])) t5=some (.tup [.int i]):=uS;generalize upd H4 t5 (.tup [.int i])=H5 at As X3;have s5:=s4.trans As;refine YK (K:=K) (s5 _ _ hts) X3 (sL (by rw[Ya];show _ + 1<=_;omega)) λt6 H6 BP ZU=>?_;have s6:=s5.trans BP;have e6:sp.map Aj++[.int (i:Int)]=(sp++[i]).map Aj:=by rw[Ys];rfl
     rw[e6]at ZU;refine⟨p,k,l,t6,rows,ns,b,xs,c,pr.2,sp++[i],Y,bk.mono s6,g,gn,hS.mono s6,hx,hvc.keep (A3 s6),hk c hcm,ZU,by rw[Yc,UY];omega,λar H7 UH Dl=>?_⟩;have Ux:=(Ai.trans As).trans BP;have ae:=Ux.trans UH;have s7:=s3.trans ae;have ed:ds.drop i=c :: ds.drop (i + 1):=by
      rw[aF il];rw[Yb il]at hc;rw[Ym hc]
     rw[ed]at hg;cases hrr:Ci rows ns xs j c (sp++[i])with
     | kind x =>
      rw[su (f:=λc i=>Ci rows ns xs j c (sp++[i])) hrr]at hg;rw[hrr]at Dl;have Dl:H7 ar=some (.tup [.str "kind",.str x]):=Dl;refine⟨Z,ar,_,_,Z,Y,AH.of Dl,LG _ _,Y,Z,?_⟩;rw[Jb rfl];have a8:=ae _ _ ZX;refine AS ⟨Z,.inl ⟨Y,_,SqL.of a8⟩,Z,ar,_,_,Z,Y,AH.of Dl,Bb (j:=1) rfl,lm,_,Z,Y,a8,Bq (by rw[Ya];omega),mk++[x],_,_,Z,λb o e=>by rw[AD (AK e hlm)];exact s7 _ _ e,by rw[AD tm];exact ae _ _ WT,by rw[uS,Ys];rfl,by rw[Yc,ml];rfl,hg⟩
     | bad b' sp' cl ks =>
      rw[sr (f:=λc i=>Ci rows ns xs j c (sp++[i])) hrr]at hg;rw[hrr]at Dl;obtain⟨u1,u2,Tu,o_,XG⟩:=Dl;refine⟨Z,ar,_,_,Z,Y,AH.of Tu,LG _ _,Y,Z,?_⟩;rw[Jc (Z3a b')];rw[<- hg]at q;exact Av ⟨Z,q ar H7 s7 ⟨u1,u2,Tu,o_,XG⟩⟩
    ·rintro σ H3 ⟨mk,x5,x6,x7,rfl,s3,WT,ZX,ml,hg⟩;rw[Wu,<- vl,List.drop_length]at hg;have hg:(Sum.inr mk:Sum Rs (LS))=_:=hg;refine⟨Z,Z,a,_,_,Z,Y,AH.of (s3 _ _ ha),LG _ _,Z,Z,lm,Z,.inl ⟨SqL.of ZX,λtc htc=>?_⟩⟩;have Ai:AB H3 (upd H3 tc (.tup (mk.map V.str))):=AM htc;have vb:(upd H3 tc (.tup (mk.map V.str))) tc=some (.tup (mk.map V.str)):=uS;generalize upd H3 tc (.tup (mk.map V.str))=H4 at Ai vb;have s4:=s3.trans Ai;rw[<- hg]at q;refine⟨p,k,ts,tc,rows,ns,n,sp,mk,Y,bk.mono s4,g,gn,hn,s4 _ _ hts,vb,qN gn hx hl hk hg.symm,λar H5 As Xx=>q ar H5 (s4.trans As) ?_⟩;show V8 H5 (X6 rows ns n.1 sp mk) ar;rw[kL gn.nd hn];exact Xx
def Yac:AX ["book","filling","term"] ["book","filling","term"] (AJ l7):=by nofun
def Zx1(F:Def K mg "check_term" l7 ["book","filling","term"] f fd)(DI:Def K mg "is_term" ko ["book","filling","term"] fI fdI)(GI:⋯ 17 fI fdI ["book","filling","term"] (yX K C B D)):⋯ 18 f fd ["book","filling","term"] (yW K C B D):=by
 nomatch F.fn.ok Yac
 ·obtain⟨p,k,l,rows,ns,b,xs,d,v,rfl,_⟩:=h;rfl
 ·obtain⟨p,k,l,rows,ns,b,xs,d,v,rfl,bk,g,gn,hS,hl,hx,hv,wf,lz,ht,q⟩:=h
  ac_nf
  refine'⟨_,AG (AY (CO (Bo (AL DI GI hr (pC (pv 0) (pC (pv 1) (pC (pv 2) AA)))))) CK Aa),?_⟩;refine⟨Z,Z,Z,p,k,l,rows,ns,b,xs,d,v,Y,bk,g,gn,hS,hl,hx,hv,wf,lz,λH1 s1=>⟨Z,?_⟩⟩;rw[ht];exact AS (q H1 s1)
def Z6u(K:Fg)(C B D:Addr):Sp:=λvs H Q _=>∃(p k l:Addr) (rows:RS) (ns:List AI) (b:Bool) (xs:LS) (d:Dt) (v:V),vs=[.ref p,.ref l,v]/\Sk C B D H p k rows ns/\Am rows/\Cf rows ns/\CW K b H l (xs.map V.str)/\xs.length<=12/\(∀ x∈xs,x∈rows.map (·.1)) /\
 B_ H d v/\Wf d/\(∀ i,(lvl i [d]).length<=1000)/\X9 ns xs.length d=true/\∀(a:Addr) (H':Hp),AB H H'->V8 H' (Ci rows ns xs 12 d []) a->Q (.ref a) H'
def Z93:AX ["book","filling","term"] ["book","filling","term"] (AJ mZ):=by nofun
def Z7t(F:Def K mg "run" mZ ["book","filling","term"] f fd)(DI:Def K mg "check_term" l7 ["book","filling","term"] fI fdI)(GI:⋯ 18 fI fdI ["book","filling","term"] (yW K C B D))
  (DP:Def K mg "run_part" lA dM fP fdP) (GP:⋯ 22 fP fdP dM (Z2z K C B D 12)):⋯ 23 f fd ["book","filling","term"] (Z6u K C B D):=by
 nomatch F.fn.ok Z93
 ·obtain⟨p,k,l,rows,ns,b,xs,d,v,rfl,_⟩:=h;rfl
 ·obtain⟨p,k,l,rows,ns,b,xs,d,v,rfl,bk,g,gn,hS,hl,hx,hv,wf,lz,ht,q⟩:=h;have tV:Af 18 _:=hr.mono (by decide);refine'⟨_,(pS (Bc (AL DI GI tV (pC (pv 0) (pC (pv 1) (pC (pv 2) AA)))))
   (AG (AO (AL DP GP hr (pC (pv 0) (pC (pv 1) (pC (pv 2) (pC (Bf AA) AA)))))))),?_⟩
  refine⟨Z,Z,Z,p,k,l,rows,ns,b,xs,d,v,Y,bk,g,gn,hS,hl,hx,hv,wf,lz,ht,λH1 s1=>?_⟩;refine⟨Z,Z,Z,Ax _,λt0 U0=>?_⟩;have BE:AB H1 (upd H1 t0 (.tup [])):=AM U0;have vw:(upd H1 t0 (.tup [])) t0=some (.tup []):=uS;generalize upd H1 t0 (.tup [])=H2 at BE vw;have s2:=s1.trans BE;unfold X9 at ht;rw[B1]at ht;exact⟨p,k,l,t0,rows,ns,b,xs,d,v,[],Y,bk.mono s2,g,gn,hS.mono s2,hx,hv.keep (A3 s2),ht.2,vw,V,λa H3 s3 h3=>q a H3 (s2.trans s3) h3⟩
theorem xA{f:Dt->Nat->Rs}{G:Rs->Prop}:∀ {ds:List Dt}{i:Nat}{acc:LS}{r:Rs},(∀ c∈ds,∀ i,G (f c i))->Dc f ds i acc=.inl r->G r
 | [],i,acc,r,_,h=>by cases h
 | c :: cs,i,acc,r,hf,h=>by
  cases hc:f c i with
  | bad b sp cl ks=>rw[sr hc]at h;injection h with h;rw[<- h,<- hc];exact hf c (.head _) i
  | kind x=>rw[su hc]at h;exact xA (λc hc=>hf c (.tail _ hc)) h
def nG(rows:RS):Rs->Prop
 | .kind x=>x∈rows.map (·.1)
 | .bad _ sp c ks=>sp.length<=50/\ks.length<=2/\∀ x∈c,x∈rows.map (·.1)
theorem yR{rows:RS}{ns:List AI}{xs:LS}(gn:Cf rows ns)(hx:∀ x∈xs,x∈rows.map (·.1)):∀(j:Nat) (d:Dt),BR ns xs.length j d=true->∀ sp:LN,sp.length + j<=50->nG rows (Ci rows ns xs j d sp)
 | 0,d,h,sp,hs=>by cases h
 | j + 1,d,h,sp,hs=>by
  rcases YF h with⟨i,rfl,hi⟩ | ⟨n,hn,ds,rfl,hl,hk⟩
  ·exact zT gn hx (j + 1) _ h sp _ rfl
  ·rw[j_];cases hg:Dc (λc i=>Ci rows ns xs j c (sp++[i])) ds 0 []with
   | inl r=>exact xA (λc hc i=>yR gn hx j c (hk c hc) _ (by rw[Yc,UY];omega)) hg
   | inr call =>
    show nG rows (X6 rows ns n.1 sp call);rw[kL gn.nd hn]
    rcases rT (Vt rows (n.2.2.map (·.1)) call)with⟨i,e⟩ | ⟨b,ks,ev,kl,ec⟩
    ·have:Wk rows n sp call=.kind ((n.2.2.map (·.2)).getD i ("":Str)):=by unfold Wk;rw[e];rfl
     rw[this];exact Zlz (gn.each n hn) this
    ·unfold Wk;rw[ec];exact⟨W,kl,(qN gn hx hl hk hg).known⟩
def yo(n:Nat)(ns:LN):(ns.map Sg).all (W.kqdOk n)=true:=by
 rw[CL];intro z hz;obtain⟨k,_,rfl⟩:=Yg.mp hz;exact Z7v n k
def Yao(n:Nat)(b:Bool):W.kqdOk n (.str (sB b))=true:=by
 cases b
 ·exact Yal n
 ·exact Yan n
def Yam(n:Nat):W.kqdOk n (.str "kind")=true:=by rw[W.kqdOk];rfl'
def Yap{rows:RS}(g:Am rows):∀ {r:Rs},nG rows r->W.kqdOk 9 (af r)=true
 | .kind x,h=>by
  show([.str "kind",.str x]:List Dt).all (W.kqdOk 8)=true;rw[V4,V4,Yam,jq 8 (Up g x h)];rfl
 | .bad b sp c ks,⟨_,_,h⟩=>by
  show((.str (sB b):: .tuple (sp.map Sg):: De c :: ks.map Sg):List Dt).all (W.kqdOk 8)=true;rw[V4,V4,V4,Yao,yo,j7 7 λx hx=>Up g x (h x hx)];show(true&&(W.kqdOk 8 (.tuple (sp.map Sg))&&(true&&true)))=true;have:W.kqdOk 8 (.tuple (sp.map Sg))=true:=by
   show(sp.map Sg).all (W.kqdOk 7)=true;exact yo 7 sp
  rw[this];rfl
def C6:Nat->Dt->Bool
 | 0,_=>false
 | k + 1,d=>match d with
  | .int i=>decide (0<=i)&&decide (i<100)
  | .tuple (.str w :: c :: cs)=>AW w&&(c :: cs).all (C6 k)
  | _=>false
def Z6k{dp:Nat}{v:Int}(h:1<=dp)(h0:0<=v)(h1:v<100):C6 dp (.int v)=true:=by
 obtain⟨k,rfl⟩:∃ k,dp=k + 1:=⟨dp - 1,W⟩;show(decide (0<=v)&&decide (v<100))=true;rw[Jb h0,Jb h1];rfl
def Z6j{dp:Nat}{x:Str}{c:Dt}{cs:List Dt}(h:2<=dp)(hw:AW x=true)(hk:∀ d∈c :: cs,C6 (dp - 1) d=true):C6 dp (.tuple (.str x :: c :: cs))=true:=by
 obtain⟨k,rfl⟩:∃ k,dp=k + 1:=⟨dp - 1,W⟩;show(AW x&&(c :: cs).all (C6 k))=true;rw[hw,DQ,CL];exact hk
def Zi{k:Nat}{d:Dt}(h:C6 (k + 1) d=true):(∃ i:Nat,d=.int i/\i<100)\/∃ x c cs,d=.tuple (.str x :: c :: cs)/\AW x=true/\∀ e∈c :: cs,C6 k e=true:=by
 cases d with
 | int i =>
  have h:(decide (0<=i)&&decide (i<(100:Int)))=true:=h;rw[B1]at h;have h1:=Je h.1;have h2:=Je h.2;exact .inl ⟨i.toNat,by rw[Us h1],W⟩
 | tuple ds =>
  match ds,h with
  | .str x :: c :: cs,h =>
   have h:(AW x&&(c :: cs).all (C6 k))=true:=h;rw[B1,CL]at h;exact .inr ⟨x,c,cs,Y,h.1,h.2⟩
 | _=>cases h
def tx:Nat->Dt->LN
 | 0,_=>[]
 | k + 1,d=>match d with
  | .int i=>VW i.toNat
  | .tuple (.str w :: cs)=>w.cps.toList++40 :: (jn (cs.map (tx k))++[41])
  | _=>[]
def fY(k:Nat)(i:Nat):tx (k + 1) (.int i)=VW i:=rfl
def fb(k:Nat)(w:Str)(cs:List Dt):tx (k + 1) (.tuple (.str w :: cs))=w.cps.toList++40 :: (jn (cs.map (tx k))++[41]):=rfl
def xw:∀ n:Fin 100,1<=(VW n).length/\(VW n).length<=2:=by rfl'
def Zvf:∀ n:Fin 100,(VW n).all UO=true:=by rfl'
def Z3i:∀ l:List (LN),(jn l).length + 2<=(l.map λa=>a.length + 2).sum + 2
 | []=>by simp[jn]
 | a :: r=>by
  show(a++r.flatMap λb=>44 :: 32 :: b).length + 2<=_;rw[Yc,Yz,List.sum_cons];have:(r.flatMap λb=>44 :: 32 :: b).length=(r.map λa=>a.length + 2).sum:=by
   rw[List.length_flatMap]
   congr 1
  omega
theorem fZ:∀(k:Nat) (d:Dt),C6 k d=true->(tx k d).length + 2<=13 * A0 k [d]
 | 0,d,h=>by cases h
 | k + 1,d,h=>by
  rcases Zi h with⟨i,rfl,hi⟩ | ⟨x,c,cs,rfl,hx,hk⟩
  ·rw[fY];have:=(xw ⟨i,hi⟩).2;have e:A0 (k + 1) [(.int i:Dt)]=1:=by
    rw[bf,bt];show 1 + A0 k []=1;rw[j3]
   rw[e];have:(VW i).length<=2:=this;omega
  ·rw[fb,fm];have wl:=Dh hx;have sl:=Cm x;have jl:=Z3i ((c :: cs).map (tx k));have ls:∀ l:List Dt,(∀ e∈l,C6 k e=true)->((l.map (tx k)).map λa=>a.length + 2).sum<=13 * A0 k l:=λl=>by
    induction l with
    | nil=>intro _;exact Ax _
    | cons e r ih =>
     intro hl;rw[Yz,Yz,List.sum_cons,show e :: r=[e]++r from rfl,Zu];have h1:=fZ k e (hl e (.head _));have h2:=ih λz hz=>hl z (.tail _ hz);omega
   have l1:=ls (c :: cs) hk;rw[Yc,Yt,Yc,UY];omega
def step(full:LN)(i:Nat)(s:Int×LN):Int×LN :=
 if full[i]?=some 40 then(s.1 + 1,s.2)else if full[i]?=some 41 then(s.1 - 1,s.2)else if s.1=0/\(full.drop i).take 2=[44,32]then(s.1,s.2++[i + 2])else s
def sg(full:LN):Nat->Nat->Int×LN->Int×LN
 | _,0,s=>s
 | i,m + 1,s=>sg full (i + 1) m (step full i s)
theorem Vy(full:LN):∀(m i m':Nat) (s:Int×LN),sg full i (m + m') s=sg full (i + m) m' (sg full i m s)
 | 0,i,m',s=>by rw[Nat.zero_add];rfl
 | m + 1,i,m',s=>by
  rw[show m + 1 + m'=(m + m') + 1 by omega];show sg full (i + 1) (m + m') (step full i s)=_;rw[Vy full m (i + 1) m',show i + 1 + m=i + (m + 1) by omega];rfl
def xM(full:LN)(i m:Nat)(s:Int×LN):sg full i (m + 1) s=step full (i + m) (sg full i m s):=by rw[Vy];rfl
def plain(c:Nat):Prop:=c≠40/\c≠41/\c≠44
def rR{full:LN}{i c:Nat}(h:full[i]?=some c)(hc:plain c)(s:Int×LN):step full i s=s:=by
 obtain⟨h1,h2,h3⟩:=hc;have hi:=(Yi.mp h).1;unfold step;rw[h,if_neg (λz=>h1 (Ym z)),if_neg (λz=>h2 (Ym z)),if_neg];rintro⟨_,z⟩;rw[aF hi,mm]at z;injection z with z;rw[Yb hi]at h;exact h3 ((Ym h).symm.trans z)
def Zv8{full:LN}{i:Nat}(h:full[i]?=some 44){s:Int×LN}(hs:s.1≠0):step full i s=s:=by
 unfold step;rw[h,if_neg (by decide),if_neg (by decide),if_neg (λz=>hs z.1)]
def zo{full:LN}{i:Nat}(h:full[i]?=some 40)(s:Int×LN):step full i s=(s.1 + 1,s.2):=by
 unfold step;rw[h,if_pos rfl]
def Zmj{full:LN}{i:Nat}(h:full[i]?=some 41)(s:Int×LN):step full i s=(s.1 - 1,s.2):=by
 unfold step;rw[h,if_neg (by decide),if_pos rfl]
def Zh{full pre p post:LN}(h:full=pre++(p++post)){j:Nat}{c:Nat}(hj:p[j]?=some c):full[pre.length + j]?=some c:=by
 have hl:=(Yi.mp hj).1;rw[h,Xl (by omega),show pre.length + j - pre.length=j by omega,cY hl];exact hj
def Cl(p:LN):Prop:=∀(full pre post:LN),full=pre++(p++post)->∀ s:Int×LN,0<=s.1->sg full pre.length p.length s=s
def xr{p:LN}(h:∀ c∈p,plain c):Cl p:=λfull pre post e s _=>by
 have:∀ m,m<=p.length->sg full pre.length m s=s:=λm=>by
  induction m with
  | zero=>intro _;rfl
  | succ m ih =>
   intro hm;rw[xM,ih (by omega)];have hp:p[m]?=some p[m]:=Yb (by omega);exact rR (Zh e hp) (h _ (Yd hp)) s
 exact this p.length (Yf _)
def Zzl{p q:LN}(hp:Cl p)(hq:Cl q):Cl (p++q):=λfull pre post e s hs=>by
 rw[Yc,Vy,hp full pre (q++post) (by rw[e,LO]) s hs];have:=hq full (pre++p) post (by rw[e,LO,LO]) s hs;rw[Yc]at this;exact this
def Z63{full pre q post:LN}(e:full=pre++((44 :: 32 :: q)++post))(hq:Cl q){s:Int×LN}(h0:0<=s.1)(hs:s.1≠0):sg full pre.length (44 :: 32 :: q).length s=s:=by
 have h1:full[pre.length]?=some 44:=Zh (j:=0) e rfl;have h2:full[pre.length + 1]?=some 32:=Zh (j:=1) e rfl;rw[show(44 :: 32 :: q).length=2 + q.length by rw[Yt,Yt];omega,Vy];have s2:sg full pre.length 2 s=s:=by
  show step full (pre.length + 1) (step full pre.length s)=s;rw[Zv8 h1 hs,rR h2 ⟨V,V,V⟩]
 rw[s2];have:=hq full (pre++[44,32]) post (by rw[e];simp) s h0;rw[Yc]at this;exact this
def Z9z{full:LN}:∀ {qs:List (LN)}{pre post:LN},full=pre++(jn qs++post)->(∀ q∈qs,Cl q)->∀ {s:Int×LN},0<=s.1->s.1≠0->sg full pre.length (jn qs).length s=s:=by
 have sep:∀ {r:List (LN)} {pre post:LN},full=pre++((r.flatMap λb=>44 :: 32 :: b)++post)->(∀ q∈r,Cl q)->∀ {s:Int×LN},0<=s.1->s.1≠0->sg full pre.length (r.flatMap λb=>44 :: 32 :: b).length s=s:=λ{r}=>by
  induction r with
  | nil=>intro pre post _ _ s _ _;rfl
  | cons q r ih =>
   intro pre post e hq s h0 hs;rw[W6]at e ⊢;rw[Yc,Vy,Z63 (post:=(r.flatMap λb=>44 :: 32 :: b)++post) (by rw[e,LO]) (hq q (.head _)) h0 hs];have:=ih (pre:=pre++(44 :: 32 :: q)) (post:=post) (by rw[e];simp) (λq Vq=>hq q (.tail _ Vq)) h0 hs;rw[Yc]at this;exact this
 intro qs pre post e hq s h0 hs;cases qs with
 | nil=>rfl
 | cons a r =>
  have e:full=pre++((a++r.flatMap λb=>44 :: 32 :: b)++post):=e;show sg full pre.length (a++r.flatMap λb=>44 :: 32 :: b).length s=s;rw[Yc,Vy,hq a (.head _) full pre ((r.flatMap λb=>44 :: 32 :: b)++post) (by rw[e,LO]) s h0];have:=sep (r:=r) (pre:=pre++a) (post:=post) (by rw[e];simp) (λq Vq=>hq q (.tail _ Vq)) h0 hs;rw[Yc]at this;exact this
def zX{c:Nat}(h:U_ c=true):plain c:=by
 unfold U_ at h;have:=Je h;exact⟨W,W,W⟩
def Zy8{c:Nat}(h:UO c=true):plain c:=by
 unfold UO at h;have:=Je h;exact⟨W,W,W⟩
theorem za:∀(k:Nat) (d:Dt),C6 k d=true->Cl (tx k d)
 | 0,d,h=>by cases h
 | k + 1,d,h=>by
  rcases Zi h with⟨i,rfl,hi⟩ | ⟨x,c,cs,rfl,hx,hk⟩
  ·rw[fY];exact xr λz hz=>Zy8 (CL.mp (Zvf ⟨i,hi⟩) z hz)
  ·rw[fb];have hw:=((V0 x).mp hx).2;refine Zzl (xr λz hz=>zX (hw z hz)) λfull pre post e s hs=>?_;have h1:full[pre.length]?=some 40:=Zh (j:=0) e rfl;have hc:∀ q∈(c :: cs).map (tx k),Cl q:=λq hq=>by
    obtain⟨d,hd,rfl⟩:=Yg.mp hq;exact za k d (hk d hd)
   generalize(c :: cs).map (tx k)=qs at e hc ⊢;have e2:full=(pre++[40])++(jn qs++([41]++post)):=by rw[e];simp
   have m:=Z9z e2 hc (s:=(s.1 + 1,s.2)) (by show 0<=s.1 + 1;omega) (by show s.1 + 1≠0;omega);rw[Yc,UY]at m;have h3:full[pre.length + (1 + (jn qs).length)]?=some 41:=Zh e (by
    rw[show 1 + (jn qs).length=(jn qs).length + 1 by omega,cX,Xl (Yf _),Nat.sub_self];rfl)
   rw[show(40 :: (jn qs++[41])).length=1 + ((jn qs).length + 1) by rw[Yt,Yc,UY];omega,Vy,Vy];have s1:sg full pre.length 1 s=(s.1 + 1,s.2):=zo h1 s;rw[s1,m];show step full (pre.length + 1 + (jn qs).length) (s.1 + 1,s.2)=s;rw[Zmj (by rw[<- h3,show pre.length + 1 + (jn qs).length=pre.length + (1 + (jn qs).length) by omega])];show(s.1 + 1 - 1,s.2)=s;rw[show s.1 + 1 - 1=s.1 by omega]
def Ds:Nat->List (LN)->LN
 | _,[]=>[]
 | o,p :: r=>o :: Ds (o + p.length + 2) r
theorem xK{full:LN}:∀ {r:List (LN)}{pre post:LN}{ss:LN},full=pre++((r.flatMap λb=>44 :: 32 :: b)++post)->(∀ q∈r,Cl q)->sg full pre.length (r.flatMap λb=>44 :: 32 :: b).length (0,ss)=(0,ss++Ds (pre.length + 2) r)
 | [],pre,post,ss,_,_=>by
  show(0,ss)=(0,ss++[]);rw[C5]
 | q :: r,pre,post,ss,e,hq=>by
  rw[W6]at e ⊢;have e0:full=pre++((44 :: 32 :: q)++((r.flatMap λb=>44 :: 32 :: b)++post)):=by rw[e,LO]
  have h2:full[pre.length + 1]?=some 32:=Zh (j:=1) e0 rfl;have h1:full[pre.length]?=some 44:=Zh (j:=0) e0 rfl;have hd:(full.drop pre.length).take 2=[44,32]:=by rw[e0,List.drop_left];rfl
  have st:step full pre.length (0,ss)=(0,ss++[pre.length + 2]):=by
   unfold step;rw[h1,if_neg (by decide),if_neg (by decide),if_pos ⟨Y,hd⟩]
  rw[Yc,Vy,show(44 :: 32 :: q).length=2 + q.length by rw[Yt,Yt];omega,Vy];have s2:sg full pre.length 2 (0,ss)=(0,ss++[pre.length + 2]):=by
   show step full (pre.length + 1) (step full pre.length (0,ss))=_;rw[st,rR h2 ⟨V,V,V⟩]
  rw[s2];have cq:=hq q (.head _) full (pre++[44,32]) ((r.flatMap λb=>44 :: 32 :: b)++post) (by rw[e0];simp) (0,ss++[pre.length + 2]) (Int.le_refl _);rw[Yc]at cq;have cq:sg full (pre.length + 2) q.length (0,ss++[pre.length + 2])=(0,ss++[pre.length + 2]):=cq;rw[cq];have ih:=xK (full:=full) (r:=r) (pre:=pre++(44 :: 32 :: q)) (post:=post) (ss:=ss++[pre.length + 2]) (by rw[e0];simp) λz hz=>hq z (.tail _ hz);rw[Yc,show(44 :: 32 :: q).length=2 + q.length by rw[Yt,Yt];omega]at ih;rw[ih,LO];show(0,ss++((pre.length + 2):: Ds (pre.length + (2 + q.length) + 2) r))=(0,ss++((pre.length + 2):: Ds (pre.length + 2 + q.length + 2) r));rw[show pre.length + (2 + q.length) + 2=pre.length + 2 + q.length + 2 by omega]
def Z62{p:LN}{r:List (LN)}(h:∀ q∈p :: r,Cl q):sg (jn (p :: r)) 0 (jn (p :: r)).length (0,[0])=(0,Ds 0 (p :: r)):=by
 have e:jn (p :: r)=[]++(p++((r.flatMap λb=>44 :: 32 :: b)++[])):=by rw[C5];rfl
 have l:(jn (p :: r)).length=p.length + (r.flatMap λb=>44 :: 32 :: b).length:=Yc;rw[l,Vy];have c:=h p (.head _) _ [] _ e (0,[0]) (Int.le_refl _);have c:sg (jn (p :: r)) 0 p.length (0,[0])=(0,[0]):=c;rw[c];have o:=xK (full:=jn (p :: r)) (r:=r) (pre:=p) (post:=[]) (ss:=[0]) (by rw[e];rfl) λq hq=>h q (.tail _ hq);rw[Nat.zero_add,o];show(0,[0]++Ds (p.length + 2) r)=(0,0 :: Ds (0 + p.length + 2) r);rw[Nat.zero_add];rfl
def zz(ss:LN)(n:Nat):List (Nat×Nat):=ss.zip ((ss.drop 1).map (· - 2)++[n])
theorem ye{full:LN}:∀ {r:List (LN)}{p pre:LN},full=pre++jn (p :: r)->(zz (Ds pre.length (p :: r)) full.length).map (λab=>(full.drop ab.1).take (ab.2 - ab.1))=p :: r/\∀ ab∈zz (Ds pre.length (p :: r)) full.length,ab.1<=ab.2/\ab.2<=full.length
 | [],p,pre,e=>by
  have e:full=pre++(p++[]):=e;have ez:zz (Ds pre.length [p]) full.length=[(pre.length,full.length)]:=rfl;rw[ez];have l:full.length=pre.length + p.length:=by rw[e,C5,Yc]
  refine⟨?_,λab h=>by rw[Yh.mp h];exact⟨W,Yf _⟩⟩;show[(full.drop pre.length).take (full.length - pre.length)]=[p];rw[l,show pre.length + p.length - pre.length=p.length by omega,e,List.drop_left,C5,Bs]
 | q :: r,p,pre,e=>by
  have e1:full=(pre++p++[44,32])++jn (q :: r):=by
   rw[e];show pre++(p++(q :: r).flatMap λb=>44 :: 32 :: b)=_;rw[W6];show pre++(p++((44 :: 32 :: q)++_))=(pre++p++[44,32])++(q++_);simp
  have l1:(pre++p++[44,32]).length=pre.length + p.length + 2:=by rw[Yc,Yc];rfl
  have ih:=ye (r:=r) (p:=q) (pre:=pre++p++[44,32]) e1;rw[l1]at ih;have ez:zz (Ds pre.length (p :: q :: r)) full.length=(pre.length,pre.length + p.length):: zz (Ds (pre.length + p.length + 2) (q :: r)) full.length:=rfl;have ll:full.length=pre.length + p.length + 2 + (jn (q :: r)).length:=by
   have:=congrArg List.length e1;rw[Yc,l1]at this;exact this
  rw[ez];refine⟨?_,λab h=>?_⟩
  ·rw[Yz,ih.1]
   congr 1
   show(full.drop pre.length).take (pre.length + p.length - pre.length)=p;rw[show pre.length + p.length - pre.length=p.length by omega,e1,LO,LO,List.drop_left,List.take_left]
  ·rcases Yv.mp h with z | z
   ·rw[z];exact⟨by show pre.length<=pre.length + p.length;omega,by show pre.length + p.length<=full.length;omega⟩
   ·exact ih.2 ab z
theorem Z2r{k:Nat}:∀ l:List Dt,(∀ e∈l,C6 k e=true)->((l.map (tx k)).map λa=>a.length + 2).sum<=13 * A0 k l
 | [],_=>Ax _
 | e :: r,hl=>by
  rw[Yz,Yz,List.sum_cons,show e :: r=[e]++r from rfl,Zu];have h1:=fZ k e (hl e (.head _));have h2:=Z2r r λz hz=>hl z (.tail _ hz);omega
def Z2l(k:Nat)(l:List Dt)(i:Nat):A0 k (l.take i)<=A0 k l:=by
 have:A0 k l=A0 k (l.take i) + A0 k (l.drop i):=by rw[<- Zu,cu]
 omega
def yH{k:Nat}{l:List Dt}(h:∀ e∈l,C6 k e=true)(i:Nat):(jn ((l.take i).map (tx k))).length<=13 * A0 k l:=by
 have h1:=Z3i ((l.take i).map (tx k));have h2:=Z2r (l.take i) λe he=>h e (cb he);have h3:=Z2l k l i;omega
def fj{k:Nat}{l:List Dt}{d:Dt}(h:d∈l):A0 k [d]<=A0 k l:=by
 obtain⟨a,b,e⟩:=List.append_of_mem h;rw[e,show a++d :: b=a++([d]++b)from rfl,Zu,Zu];omega
def Z6y(j:Nat):Sp:=λvs H Q _=>∃(d:Dt) (v:V),vs=[v]/\B_ H d v/\C6 j d=true/\A0 j [d]<=60/\∀(s:Str) (H':Hp),AB H H'->s.cps.toList=tx j d->Q (.str s) H'
structure Yff(mg:Str->OU):Prop where
 isi:mg "isinstance"=none
 tuple:mg "tuple"=none
 str:mg "str"=none
 len:mg "len"=none
 range:mg "range"=none
def Zym{i:Nat}(h:i<100):((i:Int)).natAbs.log2<1920:=by
 have:((i:Int)).natAbs=i:=by omega
 rw[this];exact m5 (Nat.log2_le_self i) (by omega)
def xu:("(":Str).cps.toList=[40]:=by rfl'
def y_:(")":Str).cps.toList=[41]:=by rfl'
def Z5u:(", ":Str).cps.toList=[44,32]:=by rfl'
def xG:(["part"]:LS).Nodup:=by rfl'
def q9{k:Nat}{ds:List Dt}(hk:∀ e∈ds,C6 k e=true)(hc:A0 k ds<=60):ds.length<=60:=by
 cases k with
 | zero =>
  cases ds with
  | nil=>exact Ax _
  | cons e r=>exact absurd (hk e (.head _)) (λz=>by cases z)
 | succ k =>
  have:ds.length<=A0 (k + 1) ds:=by rw[bf];omega
  omega
abbrev u9:LS:=["term","word","parts"]
def sA:AX u9 ["term"] (AJ gj):=by nofun
def Z03(F:Def K mg "term_text" gj ["term"] f fd)(T:VT mg)(str:mg "str"=none)(DN:Def K mg "is_number" cA ["thing"] fN fdN):∀ j,⋯ (2 + j) f fd ["term"] (Z6y j):=by
 have GN:⋯ 1 fN fdN ["thing"] kB:=qp DN T;intro j
 induction j with
 | zero =>
  nomatch F.fn.ok sA
  ·obtain⟨d,v,rfl,_⟩:=h;rfl
  ·obtain⟨d,v,rfl,_,z,_⟩:=h;cases z
 | succ j GS =>
  nomatch F.fn.ok sA
  ·obtain⟨d,v,rfl,_⟩:=h;rfl
  ·obtain⟨d,v,rfl,hv,ht,hc,q⟩:=h;have nd:=sA.nd;have AZ:Af 1 _:=hr.mono (show 1<=2 + j by omega)
   ac_nf
   refine'⟨_,(pS (AY (Bo (AL DN GN AZ (pC (pv 0) AA))) (AG (AO (Co Zqm (by rfl) str PyProof.Rows.boot_str (pC (pv 0) AA)))) Aa)
   (pS (sE 1 nd (AV (r:=BQ K) BW (pv 0) AE (λ_ _=>rfl)))
   (pS (sE 2 nd (Be V6 Y2 Y1 bZ Ar (pC ?eC AA)))
   (AG (AO (yP (YJ (qD (pv 1)) (YJ jv (YJ (qD (pv 2)) (YJ jv xF)))))))))),?_⟩
   case eC=>exact(Bm ["part"] [] [] (λ_=>BH (osc:=AJ gj) (on:=u9) (by rfl') rfl rfl rfl) (UQ (Dg (r:=Xf K) Zn (pv 0) (Ce AE) T_)) (λC s H fp=>BN (i:=0) xG rfl (Or.inl rfl) (Or.inr rfl)) (λC s H fp=>Bn) (λC s H fp=>AL F GS hr (pC (pv 0) AA)))
   exists let b:=AF _ a;let c:=AF _ b;let e:=_;AF (By _ e _) c _ _ _
   rcases Zi ht with⟨i,rfl,hi⟩ | ⟨x,c,cs,rfl,hx,hk⟩
   ·cases hv;exact⟨Z,.int i,Z,.int _,Z,Av ⟨Z,Z,Zym hi,q _ H (AB.refl _) (by rw[fY];exact xx i)⟩⟩
   ·cases hv with
    | @tup a vs _ ha hts =>
    cases hts with
    | @cons _ _ v0 vs h0 hts =>
    cases h0;rw[fm]at hc;have wl:=Dh hx;have vl:=hts.length;refine⟨Z,.tuple (.str x :: c :: cs),Z,.tup ha (.cons (.str _ (XU hx)) hts),Z,AS ⟨Z,a,_,_,Z,Y,AH.of ha,LG _ _,?_⟩⟩;generalize c :: cs=ds at hk hts hc q vl;have v9:=q9 hk (by omega);refine⟨Y,Z,Z,?_⟩;unfold XT;refine Zm (K:=K) (lo:=some 1) (hi:=none) ha λb H1 s1 hb=>?_;rw[YU]at hb;have hb:H1 b=some (.tup vs):=hb;let Au:Addr->Nat->LV->St->Hp->Prop:=λD i ys σ' H'=>H1 D=none/\AB H1 H'/\H' D=some (.lst ys)/\∃(xs:LS) (o:OV),ys=xs.map V.str/\xs.map (λx=>x.cps.toList)=(ds.take i).map (tx j)/\σ'=[o];refine⟨b,Y,⟨_,AH.of hb⟩,VC (Uo (xs:=vs)) (sL (by omega)) Au ?_ ?_ ?_ ?_⟩
    ·intro D hD;exact⟨hD,AM hD,uS,[],none,Y,by rw[Dz];rfl,Y⟩
    ·rintro D i ys σ' H' hi ⟨hD,hs,hl,xs,o,rfl,Cy,_⟩;refine⟨AH.of (hs _ _ hb),?_⟩;have:=congrArg List.length Cy;rw[Ya,Ya,Bg]at this;rw[Ya];omega
    ·rintro D i v ys σ' H' hD SS ⟨_,hs,hl,xs,o,rfl,Cy,rfl⟩;obtain⟨d,hd,hvd⟩:=hts.at_ SS;have hdm:=Yd hd;have ck:=fj (k:=j) hdm;refine⟨Z,d,v,Y,hvd.keep (A3 (s1.trans hs)),hk d hdm,W,λs2 H2 BE Ca=>?_⟩;have Wb:=BE _ _ hl;refine⟨Wb,hD,λb o e=>by rw[AD (AK e hD)];exact BE _ _ (hs _ _ e),uS,xs++[s2],_,by rw[Ys];rfl,?_,Y⟩;rw[Ys,Cy,Bt,hd,Ys];show _++[s2.cps.toList]=_++[tx j d];rw[Ca]
    ·rintro D ys σ' H' hD ⟨_,hs,hl,xs,o,rfl,Cy,_⟩;rw[<- vl,Bs]at Cy;have xl:=congrArg List.length Cy;rw[Ya,Ya]at xl;have xb:∀ y∈xs,y.length<=780:=λy hy=>by
      have:y.cps.toList∈ds.map (tx j):=by rw[<- Cy];exact Yg.mpr ⟨y,hy,Y⟩
      obtain⟨d,hd,e⟩:=Yg.mp this;have tl:=fZ j d (hk d hd);have ck:=fj (k:=j) hd;have:=congrArg List.length e;rw[Cm]at this;omega
     refine⟨_,D,xs,780,Y,Y,hl,xb,?_,?_⟩
     ·have:(", ":Str).length=2:=rfl;rw[this];omega
     have gl:=yF xs;rw[Cy]at gl;have gb:(Builtin.Str.glued ", " xs).length<=780:=by
      have:=congrArg List.length gl;rw[Cm]at this;have jb:=yH hk ds.length;rw[Bs]at jb;omega
     refine⟨Z,x,Y,W,V,Z,Z,W,V,?_⟩;refine q _ H' (s1.trans hs) ?_;rw[XX,XX,XX,XX,gl,fb];show((([]++x.cps.toList)++("(":Str).cps.toList)++jn (ds.map (tx j)))++(")":Str).cps.toList=_;rw[xu,y_];simp
def Z6z:Sp:=λvs H Q _=>∃ x:Str,vs=[.str x]/\x.length<=1000/\∀ H',AB H H'->Q (.bl (YV x.cps.toList)) H'
def xa:Sp:=λvs H Q _=>∃(x:Str) (p:LN) (r:List (LN)),vs=[.str x]/\x.length<=1000/\x.cps.toList=jn (p :: r)/\(∀ q∈p :: r,Cl q) /\
 ∀(l:Addr) (xs:LS) (H':Hp),H l=none->AB H H'->H' l=some (.lst (xs.map V.str))->xs.map (λx=>x.cps.toList)=p :: r->Q (.ref l) H'
def qF(c d:Nat):decide (V.str ⟨#[c]⟩=V.str ⟨#[d]⟩)=decide (c=d):=Vj.mpr ⟨λz=>by injection z with z;injection z with z;have:=congrArg (λa=>a.toList) z;simpa using this,λz=>by rw[z]⟩
def yM:("(":Str)=⟨#[40]⟩:=by rfl'
def zW:(")":Str)=⟨#[41]⟩:=by rfl'
def Zu1:("0":Str)=⟨#[48]⟩:=by rfl'
def Z35{x y:Str}:(V.str x=V.str y)↔x.cps.toList=y.cps.toList:=⟨λz=>by injection z with z;rw[z],λz=>by rw[Md.str_ext z]⟩
theorem xJ:∀(l:List (LN)) (o:Nat),∀ s∈Ds o l,o<=s
 | [],o,s,h=>by cases h
 | p :: r,o,s,h=>by
  rcases Yv.mp h with z | z
  ·omega
  ·have:=xJ r _ s z;omega
def Z8k:V->V
 | .int i=>.int (i - 2)
 | v=>v
def Ye8(x:Str):V×V->V
 | (.int a,.int b)=>.str (Txt.slice x (some a) (some b))
 | _=>.non
def Z72:(["start"]:LS).Nodup:=by rfl'
def Z73:(["start","end","text"]:LS).Nodup:=by rfl'
structure Ybq(mg:Str->OU):Prop where
 enum:mg "enumerate"=none
 len:mg "len"=none
 zip:mg "zip"=none
def Yeg:AX ["text"] ["text"] (AJ gg):=by nofun
def Z7x{T1:Tok}(F:Def K mg "is_figures" gg ["text"] f fd)(len:mg "len"=none)(all:mg "all"=none)(hl:mg "DIGITS"=some (.str figures T1)):⋯ 1 f fd ["text"] Z6z:=by
 nomatch F.fn.ok Yeg
 ·obtain⟨x,rfl,_⟩:=h;rfl
 ·obtain⟨x,rfl,hx,k⟩:=h
  ac_nf
  refine'⟨_,(pS (AY (PW.pt (C2 (CO (kO Wm Wm AE (Aq UR (by rfl) len BI (pC (pv 0) AA)) AE)) (T6 (CO (Bo (Aq (r:=mW K λbs=>bs.all id) (bg rfl) (by rfl) all cf (pC ?eC AA))))))) (AG (AO Cj)) Aa)
   (AG (AO (Z7l (LK BV (Aq UR (by rfl) len BI (pC (pv 0) AA)) AE (Ab _)) (Vd (LK U6 (AV (r:=cS) bT (pv 0) AE (λ_ _=>rfl)) Ar (Ab _))))))),?_⟩
  case eC=>exact(Bm ["sign"] [] [] (λ_=>BH (osc:=AJ gg) (on:=["text"]) (by rfl') rfl rfl rfl) (Z3e (pv 0)) (λC s H fp=>BN (i:=0) xH rfl (Or.inl rfl) (Or.inr rfl)) (λC s H fp=>Bn)
     (λC s H fp=>LK zP (pv 0) (VB (v:=.str figures) (by rfl) hl ⟨Z⟩) (by with_unfolding_all rfl)))
  exists AF _ a _ _ _
  have sl:=Cm x;have same:AB H H:=AB.refl H;have no:¬ (1<=x.length/\x.length<=2)->YV x.cps.toList=false:=λh=>by unfold YV;rw[sl,Jc h];rfl
  refine⟨Z,_,Z,⟨sL (by omega),Y⟩,_,Z,Y,Z,?_⟩;refine A1 (λh1=>?_) (λh1=>?_)
  ·have h1:(1:Int)<=(x.length:Int):=Je h1;refine⟨_,Z,Y,Z,?_⟩;refine A1 (λh2=>?_) (λh2=>?_)
   ·have h2:¬ ((x.length:Int)<=2):=by simpa using h2
    have q:=k H same;rw[no (by omega)]at q;exact q
   ·have h2:((x.length:Int)<=2):=by simpa using h2
    refine⟨Z,Z,YQ yS (by unfold CP;rw[Ya,Cm];exact sL (by omega)) (λ_=>true) mY (λ_ _ _=>trivial) ?_ ?_ ?_⟩
    ·intro D ys v R _ _ hR;exact hR
    ·intro D ys v R _ hv _ hR;obtain⟨c,_,e⟩:=Yg.mp hv;subst e;exact⟨Z,_,Z,Y,hR⟩
    ·intro D hD;refine⟨D,x.cps.toList.map UO,Y,SqL.of (by rw[<- Zww];exact uS),Z,?_⟩;have s1:AB H (upd H D (.lst (((CP x).filter λ_=>true).map mY))):=AM hD;generalize upd H D (.lst (((CP x).filter λ_=>true).map mY))=H1 at s1;have k1:=k H1 s1;unfold YV at k1;rw[sl,Jb (show 1<=x.length/\x.length<=2 by omega),DQ]at k1;have e:(x.cps.toList.map UO).all id=x.cps.toList.all UO:=by rw[List.all_map];rfl
     show(if(!((x.cps.toList.map UO).all id))=true then _ else _);rw[e];cases ha:x.cps.toList.all UO with
     | false =>
      rw[ha]at k1;exact Av k1
     | true =>
      rw[ha,DQ]at k1;refine AS ⟨Z,_,Z,⟨sL (by omega),Y⟩,Y,Z,?_⟩;have el:decide (V.int (x.length:Int)=V.int 1)=decide (x.length=1):=Vj.mpr ⟨λz=>by injection z with z;omega,λz=>by rw[z];rfl⟩;rw[el];cases vM:decide (x.length=1)with
      | true =>
       rw[vM]at k1;exact Av k1
      | false =>
       rw[vM,Bool.false_or]at k1;obtain⟨c,hc⟩:∃ c,x.cps.toList[0]?=some c:=⟨x.cps.toList[0],Yb (by omega)⟩;have hh:x.cps.toList.head?=some c:=by rw[List.head?_eq_getElem?];exact hc
       refine AS ⟨Z,x,0,c,Y,Y,sL (by omega),Bb (j:=0) hc,Y,?_⟩;rw[hh]at k1;show Q (.bl (!decide (V.str ⟨#[c]⟩=V.str ("0":Str)))) H1;rw[Zu1,qF];have e2:decide (some c=some 48)=decide (c=48):=Vj.mpr ⟨λz=>Ym z,λz=>by rw[z]⟩;rw[e2]at k1;exact k1
  ·have h1:¬ ((1:Int)<=(x.length:Int)):=λz=>h1 (Jb z);refine⟨Z,?_⟩;refine Av ?_;have q:=k H same;rw[no (by omega)]at q;exact q
abbrev sx:LS:=["text","starts","depth","spot","sign","ends"]
def Z65:AX sx ["text"] (AJ cO):=by nofun
def Z05(F:Def K mg "split_parts" cO ["text"] f fd)(T:Ybq mg):⋯ 1 f fd ["text"] xa:=by
 nomatch F.fn.ok Z65
 ·obtain⟨x,p,r,rfl,_⟩:=h;rfl
 ·obtain⟨x,p,r,rfl,hx,hj,hcl,q⟩:=h;have nd:=Z65.nd
  ac_nf
  refine'⟨_,(pS (sE 1 nd (BX (pC AE AA)))
   (pS (sE 2 nd AE)
   (pS (BM Yw rfl (Z0w (by rfl) T.enum (pC (pv 0) AA)) (LJ rfl (gC (gE 3 nd) (gC (gE 4 nd) LL)))
    (AG (AY (Ag BV (pv 4) Ar (Ab _)) (AG (sE 2 nd (AU C_ (pv 2) AE)))
     (AG (AY (Ag BV (pv 4) Ar (Ab _)) (AG (sE 2 nd (AU Wo (pv 2) AE)))
      (AG (AY (PW.pt (ju (Ag BV (pv 2) AE (Ab _)) (j9 (Ag BV (Dg (r:=cU) Zk (pv 0) (Ce (pv 3)) (Ce (AU C_ (pv 3) AE))) Ar (Ab _))))) (AG (Bc (Be Cs Dy Dx Di (pv 1) (pC (AU C_ (pv 3) AE) AA)))) Aa)))))))
   (pS (sE 5 nd (AU bU ?eE (BX (pC (Aq UR (by rfl) T.len BI (pC (pv 0) AA)) AA))))
   (AG (AO ?eP)))))),?_⟩
  case eE=>exact(Bm ["start"] [] [] (λ_=>BH (osc:=AJ cO) (on:=sx) (by rfl') rfl rfl rfl) (CD (Dg (r:=cT K) bc (pv 1) (Ce AE) T_)) (λC s H fp=>BN (i:=0) Z72 rfl (Or.inl rfl) (Or.inr rfl)) (λC s H fp=>Bn) (λC s H fp=>AU Wo (pv 0) AE))
  case eP=>exact(Bm ["start","end"] ["text"] [0] (λ_=>BH (osc:=AJ cO) (on:=sx) (by rfl') rfl rfl rfl) (Z4h (by rfl) T.zip (pC (pv 1) (pC (pv 5) AA))) (λC s H fp=>Zj (K:=K) (i:=0) (j:=1) rfl rfl Z73 rfl rfl (Or.inl rfl) (Or.inl rfl) (Or.inr rfl) (Or.inr rfl)) (λC s H fp=>Bn) (λC s H fp=>Dg (r:=cU) Zk (pv 2) (Ce (pv 0)) (Ce (pv 1))))
  exists let b:=AF _ a;let c:=_;let e:=_;let f:=_;let g:=By _ f _;let h:=By _ e g;let i:=By _ c h;let j:=AF (BS _ _ i) b;let k:=AF _ j;AF _ k _ _ _
  have sl:=Cm x;refine⟨O,λls hls=>?_⟩;have s1:AB H (upd H ls (.lst [.int 0])):=AM hls;have bH:(upd H ls (.lst [.int 0])) ls=some (.lst (([0]:LN).map Aj)):=uS;generalize upd H ls (.lst [.int 0])=H1 at s1 bH;refine⟨Z,x,Y,gL (λi σ H'=>∃ y3 y4:OV,σ=[some (.str x),some (.ref ls),some (.int (sg x.cps.toList 0 i (0,[0])).1),y3,y4,none]/\AB H H'/\H' ls=some (.lst ((sg x.cps.toList 0 i (0,[0])).2.map Aj))/\(sg x.cps.toList 0 i (0,[0])).2.length<=i + 1)
   ⟨none,none,Y,s1,bH,Yf _⟩ (λ_ _ _ _ _=>trivial) ?_ ?_⟩
  ·rintro i pr t σ H2 hi ⟨y3,y4,rfl,s2,h2,VN⟩ U0;obtain⟨e1,SS⟩:=Zr hi;unfold CP at SS;rw[Yj]at SS;obtain⟨c,hc,e2⟩:=CV.mp SS;have il:i<x.cps.toList.length:=(Yi.mp hc).1;refine fG ?_;have A9:AB H2 (upd H2 t (.tup [pr.1,pr.2])):=AM U0;generalize upd H2 t (.tup [pr.1,pr.2])=H3 at A9;rw[e1,<- e2];have es:sg x.cps.toList 0 (i + 1) (0,[0])=step x.cps.toList i (sg x.cps.toList 0 i (0,[0])):=by rw[xM,Nat.zero_add]
   rw[es];have h3:=A9 _ _ h2;have s3:=s2.trans A9;generalize sg x.cps.toList 0 i (0,[0])=st at h3 VN ⊢;refine⟨Z,Y,Z,?_⟩;have lo:decide (V.str ⟨#[c]⟩=V.str ("(":Str))=decide (c=40):=by rw[yM];exact qF c 40
   have lc:decide (V.str ⟨#[c]⟩=V.str (")":Str))=decide (c=41):=by rw[zW];exact qF c 41
   rw[lo];by_cases bM:c=40
   ·rw[Jb bM];have:step x.cps.toList i st=(st.1 + 1,st.2):=zo (by rw[hc,bM]) st;rw[this];exact Av ⟨Z,_,Z,Y,_,Z,s3,h3,by show st.2.length<=i + 1 + 1;omega⟩
   ·rw[Jc bM];refine AS ⟨Z,Y,Z,?_⟩;rw[lc];by_cases jm:c=41
    ·rw[Jb jm];have:step x.cps.toList i st=(st.1 - 1,st.2):=Zmj (by rw[hc,jm]) st;rw[this];exact Av ⟨Z,_,Z,Y,_,Z,s3,h3,by show st.2.length<=i + 1 + 1;omega⟩
    ·rw[Jc jm];have est:step x.cps.toList i st=if st.1=0/\(x.cps.toList.drop i).take 2=[44,32]then(st.1,st.2++[i + 2])else st:=by
      unfold step;rw[hc,if_neg (λz=>bM (Ym z)),if_neg (λz=>jm (Ym z))]
     have d0:decide (V.int st.1=V.int 0)=decide (st.1=0):=Vj.mpr ⟨λz=>by injection z,λz=>by rw[z]⟩;refine AS ⟨Z,Y,Z,?_⟩;rw[d0];by_cases z0:st.1=0
     ·rw[Jb z0];refine Av ⟨Z,Z,Z,Z,_,Z,Y,Z,x,Y,sL (by omega),Y,Z,?_⟩;have dt:decide (V.str (Txt.slice x (some (i:Int)) (some ((i:Int) + 2)))=V.str (", ":Str))=decide ((x.cps.toList.drop i).take 2=[44,32]):=Vj.mpr (by rw[Z35,Zwt x i (by omega),Z5u]);rw[dt];by_cases zt:(x.cps.toList.drop i).take 2=[44,32]
      ·rw[Jb zt,est,if_pos ⟨z0,zt⟩];refine Av ⟨Z,.inl ⟨Y,_,SqL.of h3⟩,Z,_,Z,Y,ls,_,Z,Y,h3,Bq (by rw[Ya];omega),_,Z,λb o e=>by rw[AD (AK e hls)];exact s3 _ _ e,?_,by show(st.2++[i + 2]).length<=i + 1 + 1;rw[Yc,UY];omega⟩;rw[uS];show _=some (HO.lst ((st.2++[i + 2]).map Aj));rw[Ys];rfl
      ·rw[Jc zt,est,if_neg (λz=>zt z.2)];exact AS ⟨_,Z,s3,h3,W⟩
     ·rw[Jc z0,est,if_neg (λz=>z0 z.1)];exact AS ⟨_,Z,s3,h3,W⟩
  ·rintro σ H2 ⟨y3,y4,rfl,s2,h2,VN⟩;have el:(Sh (CP x)).length=x.cps.toList.length:=by rw[Wu];unfold CP;rw[Ya]
   rw[el]at h2 VN;have top:=Z62 hcl;rw[<- hj]at top;rw[top]at h2 VN;have h2:H2 ls=some (.lst ((Ds 0 (p :: r)).map Aj)):=h2;have zp:=ye (full:=x.cps.toList) (r:=r) (p:=p) (pre:=[]) hj;have uV:(zz (Ds 0 (p :: r)) x.cps.toList.length).map (λab=>(x.cps.toList.drop ab.1).take (ab.2 - ab.1))=p :: r:=zp.1;have uU:∀ ab∈zz (Ds 0 (p :: r)) x.cps.toList.length,ab.1<=ab.2/\ab.2<=x.cps.toList.length:=zp.2;have ge:∀ s∈(Ds 0 (p :: r)).drop 1,2<=s:=λs hs=>by
    have:=xJ r (0 + p.length + 2) s hs;omega
   have VN:(Ds 0 (p :: r)).length<=x.cps.toList.length + 1:=VN;generalize Ds 0 (p :: r)=ss at h2 VN uV uU ge;refine⟨Z,Z,?_⟩;unfold XT;refine⟨ls,Z,SqL.of h2,λlr hlr=>?_⟩;have ec:B7 (ss.map Aj) (some (1:Int)) none=(ss.drop 1).map Aj:=by rw[YU,List.map_drop]
   rw[ec];have A9:AB H2 (upd H2 lr (.lst ((ss.drop 1).map Aj))):=AM hlr;have jh:(upd H2 lr (.lst ((ss.drop 1).map Aj))) lr=some (.lst ((ss.drop 1).map Aj)):=uS;generalize upd H2 lr (.lst ((ss.drop 1).map Aj))=H3 at A9 jh;have dl:(ss.drop 1).length<=1001:=by rw[W5];omega
   refine⟨lr,Y,⟨_,SqL.of jh⟩,YQ (CU (xs:=(ss.drop 1).map Aj)) (sL (by rw[Ya];omega)) (λ_=>true) Z8k (λD ys hD=>SqL.of (by rw[AD (AK jh hD)];exact jh)) ?_ ?_ ?_⟩
   ·intro D ys v R _ _ hR;exact hR
   ·intro D ys v R _ hv _ hR;obtain⟨z,_,e⟩:=Yg.mp hv;subst e;exact⟨Z,_,Z,Y,hR⟩
   ·intro le hle;have ee:(((ss.drop 1).map Aj).filter λ_=>true).map Z8k=((ss.drop 1).map (· - 2)).map Aj:=by
     rw[VH.mpr λ_ _=>rfl,B9,B9];refine aE λz hz=>?_;have:=ge z hz;show V.int ((z:Int) - 2)=V.int ((z - 2:Nat):Int);rw[show((z - 2:Nat):Int)=(z:Int) - 2 by omega]
    rw[ee];have Ai:AB H3 (upd H3 le (.lst (((ss.drop 1).map (· - 2)).map Aj))):=AM hle;have vm:(upd H3 le (.lst (((ss.drop 1).map (· - 2)).map Aj))) le=some (.lst (((ss.drop 1).map (· - 2)).map Aj)):=uS;generalize upd H3 le (.lst (((ss.drop 1).map (· - 2)).map Aj))=H4 at Ai vm;refine⟨Z,_,Z,⟨sL (by omega),Y⟩,O,λl1 Aw=>?_⟩;have As:AB H4 (upd H4 l1 (.lst [.int (x.length:Int)])):=AM Aw;have X3:(upd H4 l1 (.lst [.int (x.length:Int)])) l1=some (.lst [.int (x.length:Int)]):=uS;generalize upd H4 l1 (.lst [.int (x.length:Int)])=H5 at As X3;refine⟨le,l1,_,Z,Y,As _ _ vm,X3,sL (by rw[Ya,Ya];show _ + 1<=_;omega),λl6 VQ=>?_⟩;have e6:((ss.drop 1).map (· - 2)).map Aj++[.int (x.length:Int)]=((ss.drop 1).map (· - 2)++[x.cps.toList.length]).map Aj:=by
     rw[Ys,sl];rfl
    rw[e6];have BP:AB H5 (upd H5 l6 (.lst (((ss.drop 1).map (· - 2)++[x.cps.toList.length]).map Aj))):=AM VQ;have pJ:(upd H5 l6 (.lst (((ss.drop 1).map (· - 2)++[x.cps.toList.length]).map Aj))) l6=some (.lst (((ss.drop 1).map (· - 2)++[x.cps.toList.length]).map Aj)):=uS;generalize upd H5 l6 (.lst (((ss.drop 1).map (· - 2)++[x.cps.toList.length]).map Aj))=H6 at BP pJ;have XB:=(A9.trans Ai).trans (As.trans BP);have s6:=s2.trans XB;have eR:=XB _ _ h2;have ez:(ss.map Aj).zip (((ss.drop 1).map (· - 2)++[x.cps.toList.length]).map Aj)=(zz ss x.cps.toList.length).map λab=>(Aj ab.1,Aj ab.2):=by
     rw[List.zip_map];rfl
    have zl:(zz ss x.cps.toList.length).length<=1001:=by
     unfold zz;rw[Z7];omega
    refine⟨Z,Z,ls,l6,_,Z,SqL.of eR,SqL.of pJ,?_⟩;rw[ez];refine q_ (sL (by rw[Ya];omega)) (λ_=>true) (Ye8 x) (λH' s'=>⟨SqL.of (s' _ _ eR),SqL.of (s' _ _ pJ)⟩) ?_ ?_ ?_
    ·intro y H' R _ _ hR;exact hR H' (AB.refl _)
    ·intro y H' R _ hy _ hR;obtain⟨ab,hab,rfl⟩:=Yg.mp hy;exact⟨Z,Z,Z,Z,Z,x,Y,sL (by omega),hR H' (AB.refl _)⟩
    ·intro D H' hD s' LC;rw[VH.mpr λ_ _=>rfl,B9]at LC;refine q D ((zz ss x.cps.toList.length).map λab=>Txt.slice x (some (ab.1:Int)) (some (ab.2:Int))) H' (s6.free hD) (s6.trans s') ?_ ?_
     ·rw[LC,B9];rfl
     ·rw[B9,<- uV];refine aE λab hab=>?_;have h:=uU ab hab;exact yU x ab.1 ab.2 h.1 (by omega)
def Z2b{l p:LN}{x:Str}(hx:AW x=true)(h:l=x.cps.toList++p):YV l=false:=by
 have hw:=(V0 x).mp hx;have sl:=Cm x;obtain⟨c,hc⟩:∃ c,x.cps.toList[0]?=some c:=⟨x.cps.toList[0]'(by omega),Yb (by omega)⟩;have cl:=hw.2 c (Yd hc);have hd:UO c=false:=by
  unfold U_ at cl;unfold UO;have:=Je cl;exact Jc (by omega)
 have ha:l.all UO=false:=by
  rw[List.all_eq_false];exact⟨c,by rw[h];exact Yo.mpr (.inl (Yd hc)),by rw[hd];decide⟩
 unfold YV;rw[ha,Bool.and_false,V5]
def Yb7(j:Nat):Sp:=λvs H Q _=>∃(x:Str) (d:Dt) (dp:Nat),vs=[.str x,.int dp]/\x.cps.toList=tx j d/\C6 j d=true/\A0 j [d]<=60/\dp + j<=13/\∀(v:V) (H':Hp),AB H H'->B_ H' d v->Q v H'
def Yay:(["part","deep"]:LS).Nodup:=by rfl'
abbrev vA:LS:=["text","deep","spot","parts"]
def r9:AX vA ["text","deep"] (AJ gi):=by nofun
def Z08{T1:Tok}(F:Def K mg "read_part" gi ["text","deep"] f fd)(T:VT mg)(c1:mg "MOST_DEEP"=some (.int 12 T1))
  (DF:Def K mg "is_figures" gg ["text"] fF fdF) (GF:⋯ 1 fF fdF ["text"] Z6z) (DW:Def K mg "is_word" Ww ["text"] fW fdW) (GW:⋯ 1 fW fdW ["text"] bx)
  (DS:Def K mg "split_parts" cO ["text"] fS fdS) (GS:⋯ 1 fS fdS ["text"] xa):∀ j,⋯ (2 + j) f fd ["text","deep"] (Yb7 j):=by
 intro j
 induction j with
 | zero =>
  nomatch F.fn.ok r9
  ·obtain⟨x,d,dp,rfl,_⟩:=h;rfl
  ·obtain⟨x,d,dp,rfl,_,z,_⟩:=h;cases z
 | succ j GR =>
  nomatch F.fn.ok r9
  ·obtain⟨x,d,dp,rfl,_⟩:=h;rfl
  ·obtain⟨x,d,dp,rfl,hx,ht,hc,hdp,q⟩:=h;have nd:=r9.nd;have AZ:Af 1 _:=hr.mono (show 1<=2 + j by omega)
   ac_nf
   refine'⟨_,(pS (AY (Ag Wl (pv 1) (VB (v:=.int 12) (by rfl) c1 ⟨Z⟩) (Ab _)) CK Aa)
   (pS (AY (Bo (AL DF GF AZ (pC (pv 0) AA))) (AG (AO (Co y7 (by rfl) T.int cm (pC (pv 0) AA)))) Aa)
   (pS (sE 2 nd (Be V6 PySem.F.slot_str_find PySem.F.type_str_find Z44 (pv 0) (pC Ar AA)))
   (pS (AY (PW.pt (C2 (Ag bP (pv 2) AE (Ab _)) (C2 (CO (Bo (AL DW GW AZ (pC (Dg (r:=cU) Zk (pv 0) T_ (Ce (pv 2))) AA)))) (T6 (Ag U6 (AV (r:=cS) bT (pv 0) (eZ fc AE) (λ_ _=>rfl)) Ar (Ab _)))))) CK Aa)
   (pS (Zw (k:=3) ["part"] ["deep"] [1] nd rfl rfl (λ_=>BH (osc:=AJ gi) (on:=vA) (by rfl') rfl rfl rfl) (CD (AL DS GS AZ (pC (Dg (r:=cU) Zk (pv 0) (Ce (AU C_ (pv 2) AE)) (Ce (eZ fc AE))) AA))) (λC s H fp=>BN (i:=0) Yay rfl (Or.inl rfl) (Or.inr rfl)) (λC s H fp=>Bn) (λC s H fp=>AL F GR hr (pC (pv 0) (pC (AU C_ (pv 1) AE) AA))))
   (AG (AO (AU YE (Bf (pC (Dg (r:=cU) Zk (pv 0) T_ (Ce (pv 2))) AA)) (Co V1 (by rfl) T.tuple Ur (pC (pv 3) AA)))))))))),?_⟩
   exists let b:=AF _ a;let c:=AF _ b;let e:=AF _ c;let f:=_;let g:=AF (By _ f _) e;AF _ g _ _ _
   have sl:=Cm x;have tl:=fZ (j + 1) d ht;rw[<- hx]at tl;refine⟨Z,_,Z,Y,Z,A1 (λz=>absurd (Je z) (by show ¬ ((dp:Int) > 12);omega)) (λ_=>⟨Z,x,Y,W,λH1 s1=>⟨Z,?_⟩⟩)⟩
   rcases Zi ht with⟨i,rfl,hi⟩ | ⟨y,c,cs,rfl,hy,hk⟩
   ·rw[fY]at hx;rw[hx,show YV (VW i)=true from Z2f ⟨i,hi⟩];have l2:(VW i).length<=2:=(xw ⟨i,hi⟩).2;rw[<- hx]at l2;exact Av ⟨Z,_,Z,Zve hx hi,W,q _ H1 s1 (.int _)⟩
   ·rw[fb]at hx;rw[fm]at hc tl;have wl:=Dh hy;have wy:=(V0 y).mp hy;have sly:=Cm y;rw[Z2b hy hx];have tc:∀ p∈(c :: cs).map (tx j),Cl p:=λp hp=>by
     obtain⟨e,he,rfl⟩:=Yg.mp hp;exact za j e (hk e he)
    have es:(c :: cs).map (tx j)=tx j c :: cs.map (tx j):=rfl;have xl:x.length=y.length + 1 + (jn ((c :: cs).map (tx j))).length + 1:=by
     have:=congrArg List.length hx;rw[Yc,Yt,Yc,UY]at this;omega
    have hfind:Txt.find x ("(":Str)=(y.cps.toList.length:Int):=by
     rw[yM];exact Z2a hx λz=>(zX (wy.2 _ z)).1 rfl
    rw[sly]at hfind;have hsl:Txt.slice x none (some (y.length:Int))=y:=Md.str_ext (by
     rw[rQ x _ (by omega),hx,show(y.length:Int).toNat=y.cps.toList.length by omega,List.take_left])
    refine AS ⟨Z,Y,_,Z,Y,?_⟩;rw[hfind];refine⟨Z,_,Z,Y,Z,A1 (λz=>absurd (Je z) (by show ¬ ((y.length:Int)<0);omega)) (λ_=>⟨Z,Z,Z,x,Y,sL (by omega),?_⟩)⟩;rw[hsl];refine⟨y,Y,W,λH2 s2=>⟨Z,?_⟩⟩;rw[hy];have he:BZ x.cps.toList (-1)=some 41:=by
     rw[hx,show y.cps.toList++40 :: (jn ((c :: cs).map (tx j))++[41])=(y.cps.toList++40 :: jn ((c :: cs).map (tx j)))++[41] by simp];exact Z2m _ _
    refine AS ⟨Z,Z,x,-1,41,Y,Y,sL (by omega),he,Y,Z,?_⟩;have e41:decide (V.str ⟨#[41]⟩=V.str (")":Str))=true:=by rw[zW];exact Jb rfl
    rw[e41];refine AS ⟨Z,Z,_,Z,Y,Z,Z,Z,x,Y,sL (by omega),?_⟩;have hin:(Txt.slice x (some ((y.length:Int) + 1)) (some (-1))).cps.toList=jn (tx j c :: cs.map (tx j)):=by
     have:=Zt8 x (y.length + 1) (by omega);rw[show((y.length + 1:Nat):Int)=(y.length:Int) + 1 by omega]at this;rw[this,hx,show y.cps.toList++40 :: (jn ((c :: cs).map (tx j))++[41])=(y.cps.toList++[40])++(jn ((c :: cs).map (tx j))++[41]) by simp,
      show y.length + 1=(y.cps.toList++[40]).length by rw[Yc,UY];omega,List.drop_left]
     exact List.take_left' (by rw[Yc,UY];omega)
    refine⟨_,_,Z,by have:=congrArg List.length hin;rw[Cm]at this;have e:=es;rw[<- es]at this;omega,hin,by rw[<- es];exact tc,λl xs H3 _ s3 hl Cy=>?_⟩;rw[<- es]at Cy;have xb:x.length<=1000:=by omega
    generalize c :: cs=ds at Cy hk hc q;have v9:=q9 hk (by omega);have xsl:=congrArg List.length Cy;rw[Ya,Ya]at xsl;let Au:Addr->Nat->LV->St->Hp->Prop:=λD i ys σ' H'=>H3 D=none/\AB H3 H'/\H' D=some (.lst ys)/\∃ o:OV,σ'=[o,some (.int dp)]/\An H' (ds.take i) ys;refine⟨l,Y,⟨_,SqL.of hl⟩,VC (CU (xs:=xs.map V.str)) (sL (by rw[Ya];omega)) Au ?_ ?_ ?_ ?_⟩
    ·intro D hD;exact⟨hD,AM hD,uS,none,Y,by rw[Dz];exact .nil⟩
    ·rintro D i ys σ' H' hi ⟨hD,hs,LC,o,rfl,hT⟩;refine⟨SqL.of (hs _ _ hl),?_⟩;have:=hT.length;rw[Bg]at this;omega
    ·rintro D i v ys σ' H' hD SS ⟨_,hs,LC,o,rfl,hT⟩;rw[Yj]at SS;obtain⟨xi,hxi,rfl⟩:=CV.mp SS;have hi:i<xs.length:=(Yi.mp hxi).1;obtain⟨d,hd⟩:∃ d,ds[i]?=some d:=⟨ds[i]'(by omega),Yb (by omega)⟩;have exi:xi.cps.toList=tx j d:=by
      have:=congrArg (λl=>l[i]?) Cy;simp only[Yj,hxi,hd]at this;exact Ym this
     have hdm:=Yd hd;have ck:=fj (k:=j) hdm;refine⟨Z,Z,_,Z,Y,xi,d,dp + 1,Y,exi,hk d hdm,W,W,λv2 H2 BE dU=>?_⟩;have Wb:=BE _ _ LC;have tk:∀ b xs,H2 b=some (.tup xs)->(upd H2 D (.lst (ys++[v2]))) b=some (.tup xs):=λb xs e=>by rw[AD (λz=>by rw[z,Wb]at e;cases e)];exact e
     refine⟨Wb,hD,λb o e=>by rw[AD (AK e hD)];exact BE _ _ (hs _ _ e),uS,Z,?_⟩;rw[Bt,hd];exact((hT.keep (A3 BE)).keep tk).append (.cons (dU.keep tk) .nil)
    ·rintro D ys σ' H' hD ⟨_,hs,LC,o,rfl,hT⟩;rw[Ya,xsl,Bs]at hT;have yl:=hT.length;refine⟨Z,Z,Z,x,Y,sL (by omega),?_⟩;rw[hsl];refine⟨O,λt1 dX=>?_⟩;have s4:AB H' (upd H' t1 (.tup [.str y])):=AM dX;have iU:(upd H' t1 (.tup [.str y])) t1=some (.tup [.str y]):=uS;generalize upd H' t1 (.tup [.str y])=H4 at s4 iU;refine⟨Z,D,Z,.inl ⟨SqL.of (s4 _ _ LC),λtt htt=>?_⟩⟩;have s5:AB H4 (upd H4 tt (.tup ys)):=AM htt;have iR:(upd H4 tt (.tup ys)) tt=some (.tup ys):=uS;generalize upd H4 tt (.tup ys)=H5 at s5 iR;refine YK (K:=K) (s5 _ _ iU) iR (sL (by show 1 + _<=_;omega)) λpR HR sR hR=>?_;have s6:=(s4.trans s5).trans sR;exact q (.ref pR) HR ((s1.trans s2).trans ((s3.trans hs).trans s6)) (.tup hR (.cons (.str _ (XU hy)) (hT.keep (A3 s6))))
def Yb6:Sp:=λvs H Q _=>∃(x:Str) (d:Dt),vs=[.str x]/\x.cps.toList=tx 12 d/\C6 12 d=true/\(∀ k,A0 k [d]<=40)/\∀(v:V) (H':Hp),AB H H'->B_ H' d v->Q v H'
abbrev nRt:LS:=["text","term"]
def Ycn:AX nRt ["text"] (AJ lQ):=by nofun
theorem Z2t:∀(k:Nat) (l:List Dt),(∀ e∈l,C6 k e=true)->lvl k l=[]
 | 0,l,h=>by
  cases l with
  | nil=>exact UT _
  | cons e r=>exact absurd (h e (.head _)) (λz=>by cases z)
 | k + 1,l,h=>by
  rw[XN];refine Z2t k _ λe he=>?_;obtain⟨d,hd,hk⟩:=List.mem_flatMap.mp he
  rcases Zi (h d hd)with⟨i,rfl,_⟩ | ⟨y,c,cs,rfl,_,hks⟩
  ·cases hk
  ·exact hks e hk
def Z07(F:Def K mg "read_term" lQ ["text"] f fd)(DR:Def K mg "read_part" gi ["text","deep"] fR fdR)(GR:⋯ 14 fR fdR ["text","deep"] (Yb7 12))(DS:Def K mg "is_small" gS ["term"] fS fdS)(GS:⋯ 2 fS fdS ["term"] qg):⋯ 15 f fd ["text"] Yb6:=by
 nomatch F.fn.ok Ycn
 ·obtain⟨x,d,rfl,_⟩:=h;rfl
 ·obtain⟨x,d,rfl,hx,ht,hc,q⟩:=h;have nd:=Ycn.nd;have B6:Af 2 _:=hr.mono (show 2<=14 by decide)
  ac_nf
  refine'⟨_,(pS (sE 1 nd (AL DR GR hr (pC (pv 0) (pC AE AA))))
   (pS (AY (CO (Bo (AL DS GS B6 (pC (pv 1) AA)))) CK Aa)
   (AG (AO (pv 1))))),?_⟩
  exists let b:=AF _ a;AF _ b _ _ _
  have c12:=hc 12;refine⟨Z,x,d,1,Y,hx,ht,W,V,λv H1 s1 hv=>⟨Z,d,v,Y,hv,λk=>?_,λH2 s2=>⟨Z,?_⟩⟩⟩
  ·have:=wo k [d];have:=hc (k + 1);omega
  ·have e:XO d=true:=by
    unfold XO;rw[Z2t 12 [d] (λe he=>by rw[Yh.mp he];exact ht),Jb c12];rfl
   rw[e];exact AS ⟨Z,q v H2 (s1.trans s2) (hv.keep (A3 s2))⟩
theorem w9(a:Str):∀(us:LS) (x:Str),Dn (a++x) us=a++Dn x us
 | [],x=>rfl
 | u :: us,x=>by
  show Dn (((a++x)++" ")++u) us=a++Dn ((x++" ")++u) us;rw[<- w9 a us,b_ a x " ",b_ a (x++" ") u]
def zB(a:Str)(u:Str)(us:LS):Dn a (u :: us)=(a++" ")++Builtin.Str.glued " " (u :: us):=by
 rw[br,<- w9];rfl
def Z8w{n:Nat}(h1:1<=n)(h4:n<=4):BZ ("01234":Str).cps.toList (n:Int)=some (48 + n)/\(⟨#[48 + n]⟩:Str)=Wg n:=by
 have h:n=1\/n=2\/n=3\/n=4:=by omega
 rcases h with rfl | rfl | rfl | rfl <;> exact⟨by rfl',by rfl'⟩
def Yb1:Sp:=λvs H Q _=>∃(l ln:Addr) (rows:RS) (ns:List AI) (us:LV),vs=[.ref l,.ref ln]/\T5 H l rows/\Am rows/\H ln=some (.lst us)/\T4 H ns us/\Cf rows ns/\∀ H',AB H H'->Q (.str (Builtin.Str.glued "\n" (U9 rows ns))) H'
def Z5q{us:LS}(h:us≠[]):(.tuple (us.map W.Dat.str):Dt)≠.tuple []:=λz=>by
 injection z with z;exact h (List.map_eq_nil_iff.mp z)
abbrev nWr:LS:=["rows","names","text","word","ups","row","places","deeds","call","made"]
def Ych:AX nWr ["rows","names"] (AJ mL):=by nofun
set_option maxHeartbeats 8000000 in
def Zui(F:Def K mg "_law_written" mL ["rows","names"] f fd):⋯ 1 f fd ["rows","names"] Yb1:=by
 nomatch F.fn.ok Ych
 ·obtain⟨l,ln,rows,ns,us,rfl,_⟩:=h;rfl
 ·obtain⟨lr,lf,rows,ns,fs,rfl,VR,g,hlf,hN,gn,q⟩:=h;have nd:=Ych.nd;have hu:=hr.units
  ac_nf
  refine'⟨_,(pS (sE 2 nd (BX AA))
   (pS (BM Yw rfl (CD (pv 0)) (LJ rfl (gC (gE 3 nd) (gC (gE 4 nd) LL)))
    (pS (sE 5 nd (AU UA Ar (pv 3)))
   (XS (AY (Ag (Vx hu) (pv 4) (Bf AA) (Ab _)) (AG (sE 5 nd (AU UA (AU UA (pv 5) Ar) (Be V6 Y2 Y1 yg Ar (pC (pv 4) AA))))) Aa)
   (AG (Bc (Be Cs Dy Dx Di (pv 2) (pC (pv 5) AA)))))))
   (pS (BM Yw rfl (CD (pv 1)) (LJ rfl (gC (gE 3 nd) (gC (gE 6 nd) (gC (gE 7 nd) LL))))
    (pS (Bc (Be Cs Dy Dx Di (pv 2) (pC (AU UA (AU UA (AU UA Ar (pv 3)) Ar) (AV (r:=cS) bT Ar (pv 6) (λ_ _=>rfl))) AA)))
   (AG (BM Yw rfl (UQ (pv 7)) (LJ rfl (gC (gE 8 nd) (gC (gE 9 nd) LL)))
     (AG (Bc (Be Cs Dy Dx Di (pv 2) (pC (AU UA (AU UA (AU UA (AU UA (AU UA Ar (pv 3)) Ar) (Be V6 Y2 Y1 yg Ar (pC (pv 8) AA))) Ar) (pv 9)) AA))))))))
   (AG (AO (Be V6 Y2 Y1 bZ Ar (pC (pv 2) AA))))))),?_⟩
  exists let b:=_;let c:=BS _ _ b;let e:=AF _ c;let f:=AF (BS _ _ e) a;let g:=_;let h:=_;let i:=Z5 (By _ h _) g;let j:=AF _ i;let k:=AF (BS _ _ j) f;AF _ k _ _ _
  obtain⟨vs,hvs,hP⟩:=VR;have vl:=Yu hP;have gle:=g.le;have few:=gn.few;have e1:(" ":Str).length=1:=by rfl'
  have ek:("kind ":Str).length=5:=by rfl'
  have en:("name ":Str).length=5:=by rfl'
  have ed:("deed ":Str).length=5:=by rfl'
  have eg:(" gives ":Str).length=7:=by rfl'
  have eu:(" under ":Str).length=7:=by rfl'
  have sm:∀ {us:LS},us.length<=8->(∀ u∈us,u.length<=8)->(Builtin.Str.glued " " us).length<=80:=λ{us} h1 h2=>by
   have:=rA (c:=32) (B:=8) h2;have e:(" ":Str)=sgn 32:=rfl;rw[e];omega
  refine⟨Ax _,λl hl=>?_⟩;have s1:AB H (upd H l (.lst [])):=AM hl;have h1:(upd H l (.lst [])) l=some (.lst []):=uS;generalize upd H l (.lst [])=H1 at s1 h1;have up:∀ {H':Hp},(∀ b o,b≠l->H1 b=some o->H' b=some o)->AB H H':=λ{H'} k b o e=>k b o (AK e hl) (s1 _ _ e);let Au:NW:=λi σ H'=>∃ x3 x4 x5:OV,σ=[some (.ref lr),some (.ref lf),some (.ref l),x3,x4,x5,none,none,none,none]/\(∀ b o,b≠l->H1 b=some o->H' b=some o)/\H' l=some (.lst (((rows.take i).map λr=>T3 r.1 r.2).map V.str));refine⟨Z,lr,Y,⟨_,SqL.of (s1 _ _ hvs)⟩,Bz (CU (xs:=vs)) Au
   ⟨none,none,none,Y,λ_ _ _ e=>e,by rw[Dz];exact h1⟩ (λi σ H' _ z=>by obtain⟨_,_,_,_,s,_⟩:=z;exact SqL.of (up s _ _ hvs)) ?_ ?_⟩
  ·rintro i v σ H4 hi ⟨x3,x4,x5,rfl,s4,DY⟩;have il:i<rows.length:=by have:=(Yi.mp hi).1;omega
   obtain⟨r,Az,t,tu,rfl,ht,htu⟩:=Bp hP hi;have Ak:r∈rows:=Yd Az;have w8:=(Dh (g.word r Ak)).2;have f8:=g.few r Ak;have u8:∀ u∈r.2,u.length<=8:=λu hu=>cV g u (g.known r Ak u hu);have kl:=yJ w8 f8 u8;refine⟨t,Z,AH.of (up s4 _ _ ht),Y,_,Z,_,Z,Y,?_⟩;refine⟨Z,_,Z,Y,sL (by omega),?_⟩;let Sn:SW:=λσ' H'=>σ'=[some (.ref lr),some (.ref lf),some (.ref l),some (.str r.1),some (.ref tu),some (.str (T3 r.1 r.2)),none,none,none,none]/\AB H4 H';refine⟨Sn,?_,?_⟩
   ·refine⟨Z,Ax _,λt0 U0=>?_⟩;have s5:AB H4 (upd H4 t0 (.tup [])):=AM U0;have h5:(upd H4 t0 (.tup [])) t0=some (.tup []):=uS;generalize upd H4 t0 (.tup [])=H5 at s5 h5;have iQ:=s5 _ _ (up s4 _ _ htu);refine⟨.tuple (r.2.map W.Dat.str),.tuple [],.tuple (AH.of iQ) (Wv _),.tuple (AH.of h5) .nil,?_,Y,Z,?_⟩
    ·show(r.2.map W.Dat.str).all (W.kqdOk 8)=true;rw[CL];intro d hd;obtain⟨x,hx,rfl⟩:=Yg.mp hd;exact XU (xh g Ak x hx)
    by_cases z:r.2=[]
    ·rw[wO (by rw[z];rfl)];refine AS ⟨?_,s5⟩;have:T3 r.1 r.2="kind "++r.1:=by unfold T3;rw[z];rfl
     rw[this];rfl
    ·rw[fo (Z5q z)];have gl:=sm f8 u8;refine Av ⟨Z,_,Z,Y,sL (by rw[strLen_append];omega),Y,Z,_,tu,_,8,Y,Y,AH.of iQ,u8,by rw[e1];omega,_,Z,Y,sL (by rw[strLen_append,strLen_append];omega),?_,s5⟩;have:T3 r.1 r.2=(("kind "++r.1)++" under ")++Builtin.Str.glued " " r.2:=by
      cases hz:r.2 with
      | nil=>exact absurd hz z
      | cons u us =>
       show Dn (("kind "++r.1)++" under") (u :: us)=_;rw[zB,b_ ("kind "++r.1) " under" " ",show((" under":Str)++" ")=" under " by rfl']
     rw[this];rfl
   ·rintro σ' H5 ⟨rfl,s5⟩;have SX:=s5 _ _ DY;refine⟨Z,.inl ⟨Y,_,SqL.of SX⟩,Z,l,_,Z,Y,SX,Bq (by rw[Ya,Ya,Bg];omega),_,_,Z,λb o hb e=>by rw[AD hb];exact s5 _ _ (s4 _ _ hb e),?_⟩;rw[uS,Bt,Az];simp
  rintro σ H3 ⟨x3,x4,x5,rfl,s3,LB⟩;rw[<- vl,Bs]at LB;have Ue:=up s3;have WD:=Ue _ _ hlf;have jf:=hN.mono (A3 Ue);have lfl:lf≠l:=AK hlf hl;have fl:=Yu hN;let D0:NW:=λi σ H'=>∃ x3 x4 x5 x6 x7 x8 x9:OV,σ=[some (.ref lr),some (.ref lf),some (.ref l),x3,x4,x5,x6,x7,x8,x9]/\(∀ b o,b≠l->H3 b=some o->H' b=some o)/\H' l=some (.lst ((Df rows++(ns.take i).flatMap C3).map V.str));refine⟨Z,lf,Y,⟨_,SqL.of WD⟩,Bz (CU (xs:=fs)) D0
   ⟨x3,x4,x5,none,none,none,none,Y,λ_ _ _ e=>e,by rw[Dz,List.flatMap_nil,C5];exact LB⟩ (λi σ H' _ z=>by obtain⟨_,_,_,_,_,_,_,_,s,_⟩:=z;exact SqL.of (s _ _ lfl WD)) ?_ ?_⟩
  ·rintro i v σ H4 hi ⟨x3,x4,x5,x6,x7,x8,x9,rfl,Ai,DY⟩;obtain⟨n,hn,t,tp,ws,rfl,ht,htp,hD⟩:=Bp jf hi;have Ak:n∈ns:=Yd hn;have Bi:=gn.each n Ak;have W9:∀ {H':Hp},(∀ b o,b≠l->H3 b=some o->H' b=some o)->∀ b xs,H3 b=some (.tup xs)->H' b=some (.tup xs):=λs b xs e=>s _ _ (λz=>by rw[z,LB]at e;cases e) e;have pl:(Df rows++(ns.take i).flatMap C3).length<=544:=by
    have:=(kM g (ns:=ns.take i) λm hm=>gn.each m (cb hm)).1;rw[Bg]at this;rw[Yc];unfold Df;rw[Ya];omega
   have n1:=Bi.one;have n4:=Bi.four;have nw:=(Dh Bi.word).2;have wl:=Yu hD;have dl:=Bi.deeds.few;rw[Ya]at dl;obtain⟨fa,fe⟩:=Z8w n1 n4;have fle:(Wg n.2.1).length<=8:=(yC n1 n4).2.2;refine⟨t,Z,AH.of (W9 Ai _ _ ht),Y,_,Z,_,Z,_,Z,Y,?_⟩;refine⟨Z,.inl ⟨Y,_,SqL.of DY⟩,Z,_,Z,Y,sL (by omega),_,Z,Y,sL (by rw[strLen_append];omega),Z,_,(n.2.1:Int),Z,Y,sL (by rfl'),fa,?_⟩;rw[fe];refine⟨_,Z,Y,sL (by rw[strLen_append,strLen_append];omega),l,_,Z,Y,DY,Bq (by rw[Ya];omega),?_⟩;have en:((("name "++n.1)++" ")++Wg n.2.1)=Sj n:=rfl;have As:∀ b o,b≠l->H4 b=some o->(upd H4 l (.lst ((Df rows++(ns.take i).flatMap C3).map V.str++[V.str (Sj n)]))) b=some o:=λb o hb e=>by rw[AD hb];exact e
   have SX:(upd H4 l (.lst ((Df rows++(ns.take i).flatMap C3).map V.str++[V.str (Sj n)]))) l=some (.lst ((Df rows++(ns.take i).flatMap C3).map V.str++[V.str (Sj n)])):=uS;have dB:=λb o (hb:b≠l) (e:H3 b=some o)=>As b o hb (Ai b o hb e);rw[en];let tG:NW:=λj σ H'=>∃ y5 y6:OV,σ=[some (.ref lr),some (.ref lf),some (.ref l),some (.str n.1),x4,x5,some (.int n.2.1),some (.ref tp),y5,y6]/\(∀ b o,b≠l->H3 b=some o->H' b=some o)/\H' l=some (.lst (((Df rows++(ns.take i).flatMap C3)++(Sj n :: (n.2.2.take j).map λx=>Ui n.1 x.1 x.2)).map V.str));refine⟨Z,tp,Y,⟨_,AH.of (W9 dB _ _ htp)⟩,Bz (Uo (xs:=ws)) tG
    ⟨x8,x9,Y,dB,SX.trans (by simp)⟩ (λj σ H' _ z=>by obtain⟨_,_,_,s,_⟩:=z;exact AH.of (W9 s _ _ htp)) ?_ ?_⟩
   ·rintro j v σ H6 hj ⟨y5,y6,rfl,Ux,VQ⟩;obtain⟨x,hx,t',tc,rfl,VP,htc⟩:=Bp hD hj;have hxm:=Yd hx;have gc:=Bi.deeds.call x.1 (Yg.mpr ⟨x,hxm,Y⟩);have cl:=gc.len;have c8:∀ u∈x.1,u.length<=8:=λu hu=>cV g u (gc.known u hu);have m8:=cV g _ (Bi.made x hxm);have gl:=sm (us:=x.1) (by omega) c8;refine⟨t',Z,AH.of (W9 Ux _ _ VP),Y,_,Z,_,Z,Y,?_⟩;refine⟨Z,.inl ⟨Y,_,SqL.of VQ⟩,Z,_,Z,Y,sL (by omega),_,Z,Y,sL (by rw[strLen_append];omega),Y,Z,_,tc,_,8,Y,Y,AH.of (W9 Ux _ _ htc),c8,by rw[e1];omega,_,Z,Y,sL (by rw[strLen_append,strLen_append];omega),_,Z,Y,sL (by rw[strLen_append,strLen_append,strLen_append];omega),Z,_,Z,Y,sL (by rw[strLen_append,strLen_append,strLen_append,strLen_append];omega),l,_,Z,Y,VQ,Bq ?_,_,Z,λb o hb e=>by rw[AD hb];exact Ux _ _ hb e,?_⟩
    ·simp only[Yc,Ya,Yt,Bg]at pl ⊢;omega
    ·have ed:(((("deed "++n.1)++" ")++Builtin.Str.glued " " x.1)++" gives ")++x.2=Ui n.1 x.1 x.2:=by
      cases hz:x.1 with
      | nil=>rw[hz]at cl;exact absurd cl (by show ¬ 0=_;omega)
      | cons u us =>
       unfold Ui;rw[zB]
     rw[uS,ed,Bt,hx];simp
   ·rintro σ H6 ⟨y5,y6,rfl,Ux,VQ⟩;refine⟨_,_,_,_,_,_,Z,Ux,?_⟩;rw[VQ,<- wl,Bs,Bt,hn];simp[C3,mj]
  ·rintro σ H4 ⟨x3,x4,x5,x6,x7,x8,x9,rfl,Ai,DY⟩;rw[<- fl,Bs]at DY;obtain⟨bl,WL⟩:=rL g gn;have en1:("\n":Str).length=1:=by rfl'
   exact⟨Y,Z,_,l,_,100,Y,Y,DY,WL,by rw[en1];show(U9 rows ns).length * 100 + (U9 rows ns).length * 1<=_;omega,q H4 λb o e=>Ai _ _ (AK e hl) (Ue _ _ e)⟩
def Z6x:Sp:=λvs H Q _=>∃(p l:Addr) (rows:RS),vs=[.ref p,.ref l]/\(∃ o,H p=some o/\Dp o)/\T5 H l rows/\Am rows/\l≠p /\
 ∀(ln:Addr) (Ay:List AI) (us:LV) (H':Hp),Drawn p H H'->H ln=none->H' ln=some (.lst us)->T4 H' Ay us->Cf rows Ay->Ay.length<=4->(∀ n∈Ay,n.2.1<=3)->Q (.ref ln) H'
def Z8a:(["deed","words","pot"]:LS).Nodup:=by rfl'
def Zyg{K:Fg}{p lw ld:Addr}{H1:Hp}{ds:List (LS)}{us:LV}{rows:RS}{te:TE}{σ:St}{Q:VK}{o0:HO}(hp:H1 p=some o0)(ho:Dp o0)(hd:H1 ld=some (.lst us))(hD:Cd H1 ds us)(few:ds.length<=64)(dp:ld≠p)(js:LN)(hj:(js.map λj=>(σ[j]?).join)=[some (.ref lw),some (.ref p)])
  (he:∀(x:V) H' (R:VK),Drawn p H1 H'->(∀(v:Str) (t:Addr) H2,Drawn p H' H2->v∈rows.map (·.1)->H' t=none->H2 t=some (.tup [x,.str v])->R (.ref t) H2)->te [some x,some (.ref lw),some (.ref p)] H' R)
  (hq:∀ D ps ws H',H1 D=none->Drawn p H1 H'->H' D=some (.lst ws)->Cg H' ps ws->ps.map (·.1)=ds->(∀ q∈ps,q.2∈rows.map (·.1))->Q (.ref D) H'):AQ 1 js (Ck 0) XM te σ Q (cx K ld) H1:=by
 have ul:us.length=ds.length:=hD.length.symm;let Au:Addr->Nat->LV->St->Hp->Prop:=λD i ys σ' H'=>Drawn p H1 H'/\H' D=some (.lst ys)/\∃(ps:List (LS×Str)) (x:OV),Cg H' ps ys/\ps.map (·.1)=ds.take i/\(∀ q∈ps,q.2∈rows.map (·.1))/\σ'=[x,some (.ref lw),some (.ref p)];refine VC (CU (xs:=us)) (sL (by omega)) Au ?_ ?_ ?_ ?_
 ·intro D bG;exact⟨(Drawn.refl ⟨o0,hp,ho⟩).new bG,uS,[],none,.nil,by rw[Dz];rfl,(λq h=>nomatch h),(show Xt 1 js σ=none :: (js.map λj=>(σ[j]?).join)from rfl).trans (by rw[hj])⟩
 ·rintro D i ys σ' H' hi ⟨d,_,ps,x,hP,ep,_⟩;refine⟨SqL.of (d.keep _ _ dp hd),?_⟩;have a:=Yu hP;have b:=congrArg List.length ep;rw[Ya,Bg]at b;omega
 ·rintro D i v ys σ' H' bG hi ⟨d,hl,ps,x,hP,ep,kn,rfl⟩;obtain⟨dd,hdd,td,rfl,htd⟩:=Bp hD hi;obtain⟨o1,LA,Xy⟩:=id d.pot;have pD:p≠D:=AK hp bG;refine he (.ref td) H' _ d λy t H2 d2 hy ht h2=>?_;have tD:t≠D:=λz=>by rw[z,hl]at ht;cases ht
  have tS:H2 td=some (.tup (dd.map V.str)):=Drawn.tup (d.trans d2) hp ho htd;have Wb:=d2.keep _ _ (Ae pD) hl;have tk:∀ b zs,H2 b=some (.tup zs)->(upd H2 D (.lst (ys++[V.ref t]))) b=some (.tup zs):=λb zs e=>by rw[AD (λz=>by rw[z,Wb]at e;cases e)];exact e
  have hP2:Cg H2 ps ys:=hP.mono λb xs e=>Drawn.tup d2 LA Xy e;refine⟨Wb,(d.trans d2).sub (o':=.lst []) (q:=D) (λb o hb e=>by rw[AD hb];exact e) bG pD,uS,ps++[(dd,y)],_,LM (hP2.mono tk) ⟨t,td,Y,tk _ _ h2,tk _ _ tS⟩,?_,λq Vq=>?_,Y⟩
  ·rw[Ys,ep,Bt,hdd];rfl
  ·rcases Yo.mp Vq with z | z
   ·exact kn q z
   ·rw[Yh.mp z];exact hy
 ·rintro D ys σ' H' bG ⟨d,hl,ps,x,hP,ep,kn,_⟩;rw[ul,Bs]at ep;exact hq D ps ys H' bG d hl hP ep kn
abbrev oQ:LS:=["pot","rows","words","above","names","have","k","word","places","deeds"]
def Ycs:AX oQ ["pot","rows"] (AJ cE):=by nofun
set_option maxHeartbeats 8000000 in
def Z1b(F:Def K mg "_law_names" cE ["pot","rows"] f fd)(T:mQ mg)(DT:Def K mg "_law_take" V3 ["pot","many"] fT fdT)(GT:⋯ 1 fT fdT ["pot","many"] YC)
  (DA:Def K mg "_law_above" gZ ["rows"] fA fdA) (GA:⋯ 1 fA fdA ["rows"] qx) (DW:Def K mg "_law_word" VF ["pot","words"] fW fdW) (GW:⋯ 2 fW fdW ["pot","words"] qH)
  (DD:Def K mg "_law_deeds" cD ["pot","rows","above","places","most"] fD fdD) (GD:⋯ 2 fD fdD ["pot","rows","above","places","most"] xU):⋯ 3 f fd ["pot","rows"] Z6x:=by
 nomatch F.fn.ok Ycs
 ·obtain⟨p,l,rows,rfl,_⟩:=h;rfl
 ·obtain⟨p,l,rows,rfl,⟨o0,Cz,DX⟩,hR,g,lp,q⟩:=h;have nd:=Ycs.nd;have AZ:Af 1 _:=hr.mono (by decide);have gle:=g.le;have gne:=g.ne
  ac_nf
  refine'⟨_,(pS (Sl (i:=2) nd rfl (Or.inr rfl) ?e1)
   (pS (sE 3 nd (AL DA GA AZ (pC (pv 1) AA)))
   (pS (sE 4 nd (BX AA))
   (pS (sE 5 nd (BX AA))
   (pS (BM Yw rfl (Vf (by rfl) T.range (pC (AL DT GT AZ (pC (pv 0) (pC AE AA))) AA)) (gE 6 nd)
    (pS (sE 7 nd (AV (r:=Bl K) A2 (pv 2) (AL DT GT AZ (pC (pv 0) (pC (Aq Cn (by rfl) T.len BI (pC (pv 2) AA)) AA))) (λ_ _=>rfl)))
   (XS (AY (PW.pt (C2 (Ag gO (pv 7) (pv 5) (by with_unfolding_all rfl)) (T6 (Ag BV (AL DT GT AZ (pC (pv 0) (pC AE AA))) AE (Ab _))))) (AG (sE 7 nd (AL DW GW hr (pC (pv 0) (pC (pv 5) AA))))) Aa)
   (pS (Bc (Be Cs Dy Dx Di (pv 5) (pC (pv 7) AA)))
   (pS (sE 8 nd (AU C_ AE (AL DT GT AZ (pC (pv 0) (pC AE AA)))))
   (pS (sE 9 nd (AL DD GD hr (pC (pv 0) (pC (pv 1) (pC (pv 3) (pC (pv 8) (pC AE AA)))))))
   (AG (Bc (Be Cs Dy Dx Di (pv 4) (pC (Bf (pC (pv 7) (pC (pv 8) (pC (Co (r:=Z7c K) V1 (by rfl) T.tuple Ur (pC ?e2 AA)) AA)))) AA))))))))))
   (AG (AO (pv 4)))))))),?_⟩
  case e1=>exact(Bm ["row"] [] [] (λ_=>BH (osc:=AJ cE) (on:=oQ) (by rfl') rfl rfl rfl) (CD (pv 1)) (λC s H fp=>BN (i:=0) qQ rfl (Or.inl rfl) (Or.inr rfl)) (λC s H fp=>Bn) (λC s H fp=>AV (r:=BQ K) BW (pv 0) AE (λ_ _=>rfl)))
  case e2=>exact(Bm ["deed"] ["words","pot"] [2,0] (λ_=>BH (osc:=AJ cE) (on:=oQ) (by rfl') rfl rfl rfl) (CD (pv 9)) (λC s H fp=>BN (i:=0) Z8a rfl (Or.inl rfl) (Or.inr rfl)) (λC s H fp=>Bn) (λC s H fp=>Bf (pC (pv 0) (pC (AV (r:=Bl K) A2 (pv 1) (AL DT GT AZ (pC (pv 2) (pC (Aq (r:=sN K) Cn (by rfl) T.len BI (pC (pv 1) AA)) AA))) (λ_ _=>rfl)) AA))))
  exists let b:=_;let c:=AF _ b;let e:=AF _ c;let f:=AF _ e;let g:=_;let h:=Z5 (By _ g _) f;let i:=AF _ h;let j:=AF (BS _ _ i) a;let k:=AF _ j;let l:=AF _ k;let m:=AF _ l;AF _ m _ _ _
  obtain⟨jH,VL,iY⟩:=id hR;refine⟨Z,l,Y,⟨_,SqL.of VL⟩,rV hR (by omega) (λt u x H' R ht hRx=>⟨Z,t,_,_,Z,Y,AH.of ht,Y,hRx⟩) λlw H1 hlw s1 hw=>?_⟩;have wne:rows.map (·.1)≠[]:=yd g;have wpos:0<(rows.map (·.1)).length:=Wz.mpr wne;have wl:(rows.map (·.1)).length<=24:=by rw[Ya];exact gle
  have LA:=s1 _ _ Cz;have lwp:lw≠p:=Ae (bY LA DX hw);refine⟨Z,l,rows,Y,Vg hR s1,g,λaa AR H2 s2 Bd hA=>?_⟩;refine⟨Ax _,λln A8=>⟨Ax _,λlh hlh=>?_⟩⟩;have s3:AB H2 (upd (upd H2 ln (.lst [])) lh (.lst [])):=(AM A8).trans (AM hlh);have pK:(upd (upd H2 ln (.lst [])) lh (.lst [])) ln=some (.lst []):=AM hlh _ _ uS;have pL:(upd (upd H2 ln (.lst [])) lh (.lst [])) lh=some (.lst []):=uS;have nlh:ln≠lh:=λz=>by rw[<- z,uS]at hlh;cases hlh
  have Ue:=(s1.trans s2).trans s3;have lhH:H lh=none:=(s1.trans (s2.trans (AM A8))).free hlh;have lnH:H ln=none:=(s1.trans s2).free A8;have lh1:H1 lh=none:=(s2.trans (AM A8)).free hlh;have jQ:H1 ln=none:=s2.free A8;have vG:H2 lh=none:=(AM A8).free hlh;generalize upd (upd H2 ln (.lst [])) lh (.lst [])=H3 at s3 pK pL Ue;have UJ:=Ue _ _ Cz;have pln:p≠ln:=AK Cz lnH;have plh:p≠lh:=AK Cz lhH;have wln:lw≠ln:=AK hw jQ;have wlh:lw≠lh:=AK hw lh1;have aln:aa≠ln:=AK Bd A8;have alh:aa≠lh:=AK Bd vG;have aap:aa≠p:=λz=>by rw[z,s2 _ _ LA]at Bd;obtain⟨_,_,q',_⟩:=DX;rw[q']at Bd;cases Bd
  refine⟨Z,p,5,o0,Y,UJ,DX,V,V,λv o4 Dk C7 XE=>⟨v,Y,W,W,?_⟩⟩;let V9:Hp->Prop:=λH'=>∀ b o,b≠p->b≠ln->b≠lh->H3 b=some o->H' b=some o;have kt:∀ {H'},V9 H'->∀ b zs,H3 b=some (.tup zs)->H' b=some (.tup zs):=λk b zs e=>k b _ (λz=>by rw[z,UJ]at e;obtain⟨_,_,q',_⟩:=DX;rw[q']at e;cases e) (λz=>by rw[z,pK]at e;cases e) (λz=>by rw[z,pL]at e;cases e) e;have kS:∀ {H'},V9 H'->∀ b o,b≠p->H b=some o->H' b=some o:=λk b o hb e=>k b o hb (AK e lnH) (AK e lhH) (Ue _ _ e);have kR:∀ {H'},V9 H'->T5 H' l rows:=λk=>⟨jH,kS k _ _ lp VL,Paired.mapP iY λr v z=>by
   obtain⟨t,u,e,h1,h2⟩:=z;exact⟨t,u,e,kt k _ _ (Ue _ _ h1),kt k _ _ (Ue _ _ h2)⟩⟩
  have kA:∀ {H'},V9 H'->H' aa=some (.dK AR)/\C9 H' rows rows AR:=λ{H'} k=>⟨k _ _ aap aln alh (s3 _ _ Bd),Paired.mapP hA λr v z=>⟨z.1,by
   obtain⟨t,fs,e,x,y⟩:=z.2;have x3:=s3 _ _ x;exact⟨t,fs,e,k _ _ (Ae (bY UJ DX x3)) (λz=>by rw[z,A8]at x;cases x) (λz=>by rw[z,vG]at x;cases x) x3,y⟩⟩⟩
  have kW:∀ {H'},V9 H'->H' lw=some (.lst ((rows.map (·.1)).map V.str)):=λk=>k _ _ lwp wln wlh (s3 _ _ (s2 _ _ hw));have k4:V9 (upd H3 p o4):=λb o hb _ _ e=>by rw[AD hb];exact e
  let D0:NW:=λi σ H'=>∃(Ay:List AI) (us:LV) (x6 x7 x8 x9:OV),σ=[some (.ref p),some (.ref l),some (.ref lw),some (.ref aa),some (.ref ln),some (.ref lh),x6,x7,x8,x9]/\V9 H'/\(∃ o,H' p=some o/\Dp o)/\H' ln=some (.lst us)/\T4 H' Ay us/\H' lh=some (.lst ((Ay.map (·.1)).map V.str))/\(∀ n∈Ay,YM rows n/\n.2.1<=3)/\(Ay.map (·.1)).Nodup/\Ay.length=i;refine Bz VE D0
   ⟨[],[],none,none,none,none,Y,k4,⟨o4,uS,XE⟩,by rw[AD (Ae pln)];exact pK,.nil,by rw[AD (Ae plh)];exact pL,(λn h=>nomatch h),aA,Y⟩ (λ_ _ _ _ _=>trivial) ?_ ?_
  ·rintro i v' σ H5 hi ⟨Ay,us,x6,x7,x8,x9,rfl,k5,⟨o5,UI,WW⟩,oo,je,jZ,eS,ZQ,nl⟩;obtain⟨hi,rfl⟩:=Dw hi;have i5:i<5:=by omega
   refine⟨Z,Z,Z,lw,Z,.inl (SqL.of (kW k5)),p,_,o5,Y,UI,WW,by rw[Ya];omega,by rw[Ya];omega,λa o6 dz jd U1=>?_⟩;obtain⟨y,hym,hat⟩:=gQ dz jd;have d6:Drawn p H5 (upd H5 p o6):=Drawn.upd U1;have k6:V9 (upd H5 p o6):=λb o h1 h2 h3 e=>d6.keep _ _ h1 (k5 b o h1 h2 h3 e);refine⟨lw,_,_,Z,Y,SqL.of (kW k6),hat,?_⟩;have jY:=d6.keep _ _ (Ae plh) jZ;have WU:(upd H5 p o6) p=some o6:=uS;have gyw:AW y=true:=Up g y hym;generalize upd H5 p o6=H6 at d6 k6 jY WU ⊢;let Sn:SW:=λσ' H'=>∃ z:Str,σ'=[some (.ref p),some (.ref l),some (.ref lw),some (.ref aa),some (.ref ln),some (.ref lh),some (.int (0 + (i:Nat))),some (.str z),x8,x9]/\AW z=true/\z∉Ay.map (·.1)/\Drawn p H6 H';refine⟨Sn,?_,?_⟩
   ·have wok:j0 (Ay.map (·.1)):=⟨λx hx=>by
     obtain⟨n,hn,e⟩:=Yg.mp hx;rw[<- e];exact(eS n hn).1.word,ZQ⟩
    have nml:(Ay.map (·.1)).length<=24:=by rw[Ya];omega
    refine⟨Z,Z,lh,Z,.inl (SqL.of jY),Y,Zs _,Z,?_⟩;show if Ug (.str y) ((Ay.map (·.1)).map V.str)=true then _ else _
    rw[YD];refine A1 (λhin=>?_) (λhin=>?_)
    ·exact⟨Z,Z,p,lh,Z,plh,⟨o6,WU,U1⟩,jY,wok,nml,λz H7 d7 wz nz=>⟨z,Y,wz,nz,d7⟩⟩
    ·have hin:y∉Ay.map (·.1):=λz=>hin (Jb z);refine⟨Z,p,2,o6,Y,WU,U1,V,V,λb o7 bC Tu UK=>⟨Y,Z,A1 (λ_=>?_) (λ_=>?_)⟩⟩
     ·have d7:Drawn p H6 (upd H6 p o7):=Drawn.upd UK;exact⟨Z,Z,p,lh,Z,plh,⟨o7,uS,UK⟩,d7.keep _ _ (Ae plh) jY,wok,nml,λz H8 d8 wz nz=>⟨z,Y,wz,nz,d7.trans d8⟩⟩
     ·exact⟨y,Y,gyw,hin,Drawn.upd UK⟩
   ·rintro σ' H7 ⟨z,rfl,wz,nz,bL⟩;have jk:=d6.trans bL;have vX:=jk.keep _ _ (Ae plh) jZ;have hn7:=jk.keep _ _ (Ae pln) oo;obtain⟨o7,jT,UK⟩:=id jk.pot;refine⟨Z,.inl ⟨Y,_,SqL.of vX⟩,Z,lh,_,Z,Y,vX,Bq (by rw[Ya,Ya];omega),?_⟩;have e8:(Ay.map (·.1)).map V.str++[V.str z]=((Ay.map (·.1))++[z]).map V.str:=by rw[Ys];rfl
    rw[e8];have k8:V9 (upd H7 lh (.lst (((Ay.map (·.1))++[z]).map V.str))):=λb o h1 h2 h3 e=>by rw[AD h3];exact bL.keep _ _ h1 (k6 b o h1 h2 h3 e)
    have aw:(upd H7 lh (.lst (((Ay.map (·.1))++[z]).map V.str))) p=some o7:=by rw[AD plh];exact jT
    have vU:(upd H7 lh (.lst (((Ay.map (·.1))++[z]).map V.str))) ln=some (.lst us):=by rw[AD nlh];exact hn7
    have vW:(upd H7 lh (.lst (((Ay.map (·.1))++[z]).map V.str))) lh=some (.lst (((Ay.map (·.1))++[z]).map V.str)):=uS;have vh:T4 (upd H7 lh (.lst (((Ay.map (·.1))++[z]).map V.str))) Ay us:=je.mono λb zs e=>by
     rw[AD (λy=>by rw[y,jZ]at e;cases e)];exact Drawn.tup jk UI WW e
    generalize upd H7 lh (.lst (((Ay.map (·.1))++[z]).map V.str))=H8 at k8 aw vU vW vh ⊢;refine⟨Z,p,3,o7,Y,aw,UK,V,V,λb o9 bC Tu ax=>⟨_,Z,Y,?_⟩⟩;obtain⟨m,rfl⟩:∃ m:Nat,b=(m:Int):=⟨b.toNat,W⟩;have e1m:(1:Int) + (m:Int)=((m + 1:Nat):Int):=by omega
    show Ck 8 (V.int ((1:Int) + (m:Int))) _ _ _;rw[e1m];have pU:Drawn p H8 (upd H8 p o9):=Drawn.upd ax;have ZV:(upd H8 p o9) p=some o9:=uS;generalize upd H8 p o9=H9 at pU ZV ⊢;have k9:V9 H9:=λb o h1 h2 h3 e=>pU.keep _ _ h1 (k8 b o h1 h2 h3 e);refine⟨Z,Z,Z,Z,p,l,aa,m + 1,6,rows,AR,Y,⟨o9,ZV,ax⟩,kR k9,g,(kA k9).1,(kA k9).2,W,W,V,λld ds ud HA pQ Bx hud hDA gd dl=>?_⟩;obtain⟨oA,hpA,hoA⟩:=id pQ.pot;have dp:ld≠p:=λy=>by rw[y,ZV]at Bx;cases Bx
    have vJ:V9 HA:=λb o h1 h2 h3 e=>pQ.keep _ _ h1 (k9 b o h1 h2 h3 e);have pT:=pU.trans pQ;have hnA:=pT.keep _ _ (Ae pln) vU;refine⟨Z,.inl ⟨Y,_,SqL.of hnA⟩,Z,Z,Z,ld,Y,⟨_,SqL.of hud⟩,Zyg (lw:=lw) (rows:=rows) hpA hoA hud hDA (by omega) dp [2,0] rfl ?_ λlc ps ws HB hlc dAB hlcB hPB ep kn=>?_⟩
    ·intro x H' R d' CA;obtain⟨o',vT,Bw⟩:=id d'.pot;have vH:H' lw=some (.lst ((rows.map (·.1)).map V.str)):=d'.keep _ _ lwp (kW vJ);refine⟨Z,Z,Z,Z,lw,Z,.inl (SqL.of vH),p,_,o',Y,vT,Bw,by rw[Ya];omega,by rw[Ya];omega,λa oc dz jd hoc=>?_⟩;obtain⟨yy,hyym,uM⟩:=gQ dz jd;have dc:Drawn p H' (upd H' p oc):=Drawn.upd hoc;refine⟨lw,_,_,Z,Y,SqL.of (dc.keep _ _ lwp vH),uM,U,λt ht=>?_⟩;exact CA yy t _ (dc.same (AM ht)) hyym (Zvd dc ht) uS
    refine⟨lc,Z,.inl ⟨SqL.of hlcB,λtt htt=>?_⟩⟩;have sBC:AB HB (upd HB tt (.tup ws)):=AM htt;have htC:(upd HB tt (.tup ws)) tt=some (.tup ws):=uS;generalize upd HB tt (.tup ws)=HC at sBC htC ⊢;refine⟨sL (by show 3<=100000;decide),λtn htn=>?_⟩;have sCD:AB HC (upd HC tn (.tup [.str z,.int ((m + 1:Nat):Int),.ref tt])):=AM htn;have htD:(upd HC tn (.tup [.str z,.int ((m + 1:Nat):Int),.ref tt])) tn=some (.tup [.str z,.int ((m + 1:Nat):Int),.ref tt]):=uS;generalize upd HC tn (.tup [.str z,.int ((m + 1:Nat):Int),.ref tt])=HD at sCD htD ⊢;have sBD:=sBC.trans sCD;have hnD:=sBD _ _ (dAB.keep _ _ (Ae pln) hnA);have hhD:=sBD _ _ (dAB.keep _ _ (Ae plh) (pT.keep _ _ (Ae plh) vW));have usl:us.length<=8:=by have:=Yu je;omega
    have tk:∀ b zs,HD b=some (.tup zs)->(upd HD ln (.lst (us++[V.ref tn]))) b=some (.tup zs):=λb zs e=>by rw[AD (λy=>by rw[y,hnD]at e;cases e)];exact e
    obtain⟨oB,hpB,hoB⟩:=id dAB.pot;refine⟨ln,_,Z,Y,hnD,Bq (by omega),Ay++[(z,m + 1,ps)],us++[.ref tn],_,_,_,Z,λb o h1 h2 h3 e=>?_,⟨oB,by rw[AD pln];exact sBD _ _ hpB,hoB⟩,uS,?_,?_,λn' XF=>?_,?_,?_⟩
    ·rw[AD h2];exact sBD _ _ (dAB.keep _ _ h1 (vJ b o h1 h2 h3 e))
    ·have a1:T4 HD Ay us:=((vh.mono λb xs e=>Drawn.tup pT aw UK e).mono λb xs e=>Drawn.tup dAB hpA hoA e).mono (A3 sBD);exact LM (a1.mono tk) ⟨tn,tt,ws,Y,tk _ _ htD,tk _ _ (sCD _ _ htC),(hPB.mono (A3 sBD)).mono tk⟩
    ·rw[AD (Ae nlh),hhD,show(Ay++[(z,m + 1,ps)]).map (·.1)=Ay.map (·.1)++[z] by rw[Ys];rfl]
    ·rcases Yo.mp XF with y | y
     ·exact eS _ y
     ·rw[Yh.mp y];exact⟨⟨wz,by show 1<=m + 1;omega,by show m + 1<=4;omega,by rw[ep];exact gd,kn⟩,by show m + 1<=3;omega⟩
    ·rw[Ys];exact List.nodup_append.mpr ⟨ZQ,by simp,λa ha b hb e=>nz (by rw[show b=z from Yh.mp hb]at e;rw[<- e];exact ha)⟩
    ·rw[Yc,nl];rfl
  ·rintro σ H5 ⟨Ay,us,x6,x7,x8,x9,rfl,k5,hpot,oo,je,jZ,eS,ZQ,nl⟩;rw[Cq]at nl;exact⟨Z,q ln Ay us H5 ⟨kS k5,hpot⟩ lnH oo je ⟨W,λn hn=>(eS n hn).1,ZQ⟩ (by omega) λn hn=>(eS n hn).2⟩
def c3:Nat->Nat
 | 0=>1
 | n + 1=>1 + 3 * c3 n
def Z85(n:Nat):1<=c3 n:=by cases n <;> (unfold c3;omega)
def Yb5(j:Nat):Sp:=λvs H Q _=>∃(p ln:Addr) (m dp:Nat) (rows:RS) (ns:List AI) (us:LV),vs=[.ref p,.ref ln,.int m,.int dp]/\dp<=j/\(∃ o,H p=some o/\Dp o)/\ln≠p/\H ln=some (.lst us)/\T4 H ns us/\Am rows/\Cf rows ns/\(∀ n∈ns,n.2.1<=3)/\1<=m/\m<=12 /\
 ∀(v:V) (d:Dt) (H':Hp),Drawn p H H'->B_ H' d v->Dr [d]->(∀ k,A0 k [d]<=c3 dp)->BR ns m (dp + 1) d=true->Q v H'
def Z8d:(["k","deep","many","names","pot"]:LS).Nodup:=by rfl'
def Z5w{l:List Dt}{c:Nat}(k:Nat)(h:∀ d∈l,∀ k,A0 k [d]<=c):A0 k l<=l.length * c:=by
 induction l with
 | nil=>rw[j3];exact Ax _
 | cons d r ih =>
  have a:=h d Yy k;have b:=ih λe he=>h e (Yr _ he);rw[show d :: r=[d]++r from rfl,Zu,Yc,Nat.add_mul,UY,Nat.one_mul];omega
abbrev u_:LS:=["pot","names","many","deep","word","places","deeds","parts"]
abbrev dI:LS:=["pot","names","many","deep"]
def r_:AX u_ dI (AJ gh):=by nofun
set_option maxHeartbeats 8000000 in
def Z4o(F:Def K mg "_law_term" gh dI f fd)(T:mQ mg)(DT:Def K mg "_law_take" V3 ["pot","many"] fT fdT)(GT:⋯ 1 fT fdT ["pot","many"] YC):
  ∀ j,⋯ (2 + j) f fd dI (Yb5 j):=by
 have ret:∀ {H:Hp} {p:Addr} {m dp:Nat} {ns:List AI} {Q:VK} (HX:Hp),(∀ b o,b≠p->H b=some o->HX b=some o)->1<=m->(∀(v:V) (d:Dt) (H':Hp),Drawn p H H'->B_ H' d v->Dr [d]->(∀ k,A0 k [d]<=c3 dp)->BR ns m (dp + 1) d=true->Q v H')->∀(v:Int) (o':HO),0<=v->v<(m:Int)->Dp o'->Q (.int v) (upd HX p o'):=λ{H p m dp ns Q} HX kX m1 q v o' a0 a1 Bw =>
  q (.int v) (.int v) _ ⟨λb u hb e=>by rw[AD hb];exact kX b u hb e,⟨o',uS,Bw⟩⟩ (.int v) (Dr.int v) (λk=>B0 (Z5v v k) (Z85 dp)) (xO (by omega) a0 a1)
 intro j
 induction j with
 | zero =>
  nomatch F.fn.ok r_
  ·obtain⟨p,ln,m,dp,rows,ns,us,rfl,_⟩:=h;rfl
  ·obtain⟨p,ln,m,dp,rows,ns,us,rfl,hdp,⟨o,hp,ho⟩,lp,A8,hN,g,gn,n3,m1,vC,q⟩:=h;have hu:=hr.units
   ac_nf
   refine'⟨_,pS (AY (PW.pt (C2 (Ag (p_ hu) (pv 1) (BX AA) (Ab _)) (C2 (Ag BV (pv 3) AE (Ab _)) (T6 (Ag BV (AL DT GT hr (pC (pv 0) (pC AE AA))) AE (Ab _)))))) (AG (AO (AL DT GT hr (pC (pv 0) (pC (pv 2) AA))))) Aa) CK,?_⟩
   exists let b:=_;AF (By _ b _) a _ _ _
   have e0:dp=0:=by omega
   subst e0;refine⟨Z,Ax _,λt2 A_=>?_⟩;have s3:AB H (upd H t2 (.lst [])):=AM A_;have h3:(upd H t2 (.lst [])) t2=some (.lst []):=uS;generalize upd H t2 (.lst [])=H3 at s3 h3;refine⟨.list (ns.map XJ),.list [],.list (SqL.of (s3 _ _ A8)) (gR (hN.mono (A3 s3))),.list (SqL.of h3) .nil,rH g gn.each,Y,Z,A1 (λ_=>?_) (λ_=>?_)⟩
   ·exact⟨Z,Z,p,(m:Int),o,Y,s3 _ _ hp,ho,W,W,λv o' a0 a1 Bw=>ret H3 (λb u _ e=>s3 _ _ e) m1 q v o' a0 a1 Bw⟩
   ·refine⟨Z,Y,Z,A1 (λ_=>?_) (λz=>absurd (Jb rfl) z)⟩;exact⟨Z,Z,p,(m:Int),o,Y,s3 _ _ hp,ho,W,W,λv o' a0 a1 Bw=>ret H3 (λb u _ e=>s3 _ _ e) m1 q v o' a0 a1 Bw⟩
 | succ j GS =>
  nomatch F.fn.ok r_
  ·obtain⟨p,ln,m,dp,rows,ns,us,rfl,_⟩:=h;rfl
  ·obtain⟨p,ln,m,dp,rows,ns,us,rfl,hdp,⟨o,hp,ho⟩,lp,A8,hN,g,gn,n3,m1,vC,q⟩:=h;have nd:=r_.nd;have hu:=hr.units;have AZ:Af 1 _:=hr.mono (show 1<=2 + j by omega)
   ac_nf
   refine'⟨_,(pS (AY (PW.pt (C2 (Ag (p_ hu) (pv 1) (BX AA) (Ab _)) (C2 (Ag BV (pv 3) AE (Ab _)) (T6 (Ag BV (AL DT GT AZ (pC (pv 0) (pC AE AA))) AE (Ab _)))))) (AG (AO (AL DT GT AZ (pC (pv 0) (pC (pv 2) AA))))) Aa)
   (pS (qC (AV (r:=Bl K) A2 (pv 1) (AL DT GT AZ (pC (pv 0) (pC (Aq Cn (by rfl) T.len BI (pC (pv 1) AA)) AA))) (λ_ _=>rfl)) (LJ rfl (gC (gE 4 nd) (gC (gE 5 nd) (gC (gE 6 nd) LL)))))
   (pS ?eC
   (AG (AO (AU YE (Bf (pC (pv 4) AA)) (Co V1 (by rfl) T.tuple Ur (pC (pv 7) AA)))))))),?_⟩
   case eC=>exact(Zw (k:=7) ["k"] ["deep","many","names","pot"] [3,2,1,0] nd rfl rfl (λ_=>BH (osc:=AJ gh) (on:=u_) (by rfl') rfl rfl rfl) (Vf (by rfl) T.range (pC (pv 5) AA)) (λC s H fp=>BN (i:=0) Z8d rfl (Or.inl rfl) (Or.inr rfl)) (λC s H fp=>Bn) (λC s H fp=>AL F GS hr (pC (pv 4) (pC (pv 3) (pC (pv 2) (pC (AU Wo (pv 1) AE) AA))))))
   exists let b:=AF _ a;let c:=AF _ b;let e:=_;AF (By _ e _) c _ _ _
   have few:=gn.few;have nl:=Yu hN;refine⟨Z,Ax _,λt2 A_=>?_⟩;have s3:AB H (upd H t2 (.lst [])):=AM A_;have h3:(upd H t2 (.lst [])) t2=some (.lst []):=uS;generalize upd H t2 (.lst [])=H3 at s3 h3;have UJ:=s3 _ _ hp;have k3:∀ b u,b≠p->H b=some u->H3 b=some u:=λb u _ e=>s3 _ _ e;refine⟨.list (ns.map XJ),.list [],.list (SqL.of (s3 _ _ A8)) (gR (hN.mono (A3 s3))),.list (SqL.of h3) .nil,rH g gn.each,Y,Z,A1 (λ_=>?_) (λhz=>?_)⟩
   ·exact⟨Z,Z,p,(m:Int),o,Y,UJ,ho,W,W,λv o' a0 a1 Bw=>ret H3 k3 m1 q v o' a0 a1 Bw⟩
   have BJ:ns≠[]:=λz=>hz (by rw[z];exact VD _);refine⟨Z,Y,Z,A1 (λ_=>?_) (λoW=>?_)⟩
   ·exact⟨Z,Z,p,(m:Int),o,Y,UJ,ho,W,W,λv o' a0 a1 Bw=>ret H3 k3 m1 q v o' a0 a1 Bw⟩
   have dp1:1<=dp:=by
    rcases Nat.eq_zero_or_pos dp with z | z
    ·rw[z]at oW;exact absurd (Jb rfl) oW
    ·exact z
   refine⟨Z,p,3,o,Y,UJ,ho,V,V,λv4 o4 _ _ XE=>⟨Y,Z,?_⟩⟩;have v_:Drawn p H3 (upd H3 p o4):=Drawn.upd XE;have WV:(upd H3 p o4) p=some o4:=uS;generalize upd H3 p o4=H4 at v_ WV;have k4:∀ b u,b≠p->H b=some u->H4 b=some u:=λb u hb e=>v_.keep _ _ hb (s3 _ _ e);refine A1 (λ_=>?_) (λ_=>?_)
   ·exact⟨Z,Z,p,(m:Int),o4,Y,WV,XE,W,W,λv o' a0 a1 Bw=>ret H4 k4 m1 q v o' a0 a1 Bw⟩
   have upos:0<us.length:=by rw[<- nl];exact Wz.mpr BJ
   refine⟨Z,Z,Z,ln,Z,.inl (SqL.of (k4 _ _ lp A8)),p,_,o4,Y,WV,XE,W,W,λv5 o5 h50 h51 WW=>?_⟩;obtain⟨j5,rfl⟩:=Int.eq_ofNat_of_zero_le h50;have hj5:j5<us.length:=by omega
   have oY:us[j5]?=some us[j5]:=Yb hj5;obtain⟨n,hn,t,tp,ps,et,ht,htp,hP⟩:=Bp hN oY;have hnm:=Yd hn;have Bi:=gn.each n hnm;have n1:=Bi.one;have n33:=n3 n hnm;rw[et]at oY;have pV:Drawn p H4 (upd H4 p o5):=Drawn.upd WW;have UI:(upd H4 p o5) p=some o5:=uS;generalize upd H4 p o5=H5 at pV UI;have d5:Drawn p H H5:=⟨λb u hb e=>pV.keep _ _ hb (k4 _ _ hb e),pV.pot⟩;have t5:∀ b xs,H b=some (.tup xs)->H5 b=some (.tup xs):=λb xs e=>Drawn.tup d5 hp ho e;refine⟨ln,_,_,Z,Y,SqL.of (d5.keep _ _ lp A8),Bb oY,t,Z,AH.of (t5 _ _ ht),Y,_,Z,_,Z,_,Z,Y,?_⟩;let Au:Addr->Nat->LV->St->Hp->Prop:=λD i ys σ' H'=>H5 D=none/\Drawn p H5 H'/\H' D=some (.lst ys)/\∃(ds:List Dt) (x:OV),An H' ds ys/\ds.length=i/\(∀ d∈ds,Dr [d]/\(∀ k,A0 k [d]<=c3 (dp - 1))/\BR ns m dp d=true)/\σ'=[x,some (.int dp),some (.int m),some (.ref ln),some (.ref p)];refine⟨Z,(n.2.1:Int),Y,W,W,VC VE (by rw[Cq];exact sL (by omega)) Au
    (λD hD=>⟨hD,(Drawn.refl ⟨o5,UI,WW⟩).new hD,uS,[],none,.nil,Y,(λd h=>nomatch h),Y⟩) (λD i ys σ' H' hi z=>by
     obtain⟨_,_,_,ds,_,hT,dl,_⟩:=z;have:=hT.length;rw[Cq]at hi;exact⟨trivial,W⟩) ?_ ?_⟩
   ·rintro D i v ys σ' H6 hD hi ⟨_,Zb,eI,ds,x,hT,dl,hds,rfl⟩;obtain⟨hi,rfl⟩:=Dw hi;obtain⟨o6,WU,U1⟩:=id Zb.pot;have d6:=d5.trans Zb;have pD:p≠D:=AK UI hD;have edp:((dp:Int) - 1)=((dp - 1:Nat):Int):=by omega
    refine⟨Z,Z,Z,Z,_,Z,Y,p,ln,m,dp - 1,rows,ns,us,by show[V.ref p,V.ref ln,V.int (m:Int),V.int ((dp:Int) - 1)]=_;rw[edp],W,⟨o6,WU,U1⟩,lp,d6.keep _ _ lp A8,hN.mono λb xs e=>Drawn.tup d6 hp ho e,g,gn,n3,m1,vC,λv2 d H7 bL hv dr cn sd=>?_⟩;have eG:=bL.keep _ _ (Ae pD) eI;have tk:∀ b xs,H7 b=some (.tup xs)->(upd H7 D (.lst (ys++[v2]))) b=some (.tup xs):=λb xs e=>by rw[AD (λz=>by rw[z,eG]at e;cases e)];exact e
    refine⟨eG,hD,(Zb.trans bL).sub (o':=.lst []) (q:=D) (λb o hb e=>by rw[AD hb];exact e) hD pD,uS,ds++[d],_,((hT.keep λb xs e=>Drawn.tup bL WU U1 e).keep tk).append (.cons (hv.keep tk) .nil),by rw[Yc,dl];rfl,λe he=>?_,Y⟩
    rcases Yo.mp he with z | z
    ·exact hds e z
    ·rw[Yh.mp z];rw[show dp - 1 + 1=dp by omega]at sd;exact⟨dr,cn,sd⟩
   ·rintro D ys σ' H6 hD ⟨_,Zb,eI,ds,x,hT,dl,hds,rfl⟩;rw[Cq]at dl;have dl:ds.length=n.2.1:=by simpa using dl
    refine⟨Z,O,λt1 dX=>?_⟩;have UH:AB H6 (upd H6 t1 (.tup [.str n.1])):=AM dX;have vv:(upd H6 t1 (.tup [.str n.1])) t1=some (.tup [.str n.1]):=uS;generalize upd H6 t1 (.tup [.str n.1])=H7 at UH vv;refine⟨Z,D,Z,.inl ⟨SqL.of (UH _ _ eI),λt8 oh=>?_⟩⟩;have CG:AB H7 (upd H7 t8 (.tup ys)):=AM oh;have eQ:(upd H7 t8 (.tup ys)) t8=some (.tup ys):=uS;generalize upd H7 t8 (.tup ys)=H8 at CG eQ;have yl:=hT.length;refine YK (K:=K) (CG _ _ vv) eQ (sL (by show 1 + _<=_;omega)) λpR HR sR hR=>?_;have ur:=(UH.trans CG).trans sR;have dR:Drawn p H HR:=(d5.trans Zb).same ur;have hTR:=hT.keep (A3 ur);obtain⟨c,cs,rfl⟩:∃ c cs,ds=c :: cs:=by
     cases ds with
     | nil=>rw[List.length_nil]at dl;omega
     | cons c cs=>exact⟨c,cs,Y⟩
    refine q (.ref pR) (.tuple (.str n.1 :: c :: cs)) HR dR (.tup hR (.cons (.str _ (XU Bi.word)) hTR)) (Dr.tup λk e he=>?_) (λk=>?_) (xQ (by omega) gn.nd hnm dl λe he=>by rw[show dp + 1 - 1=dp by omega];exact(hds e he).2.2)
    ·have all:∀ l:List Dt,(∀ d∈l,Dr [d])->∀ k,∀ e∈lvl k l,v7 e=true:=λl=>by
      induction l with
      | nil=>intro _;exact Dr.nil
      | cons d r ih =>
       intro hl k e he;rw[show d :: r=[d]++r from rfl,YS]at he
       rcases Yo.mp he with z | z
       ·exact hl d Yy k e z
       ·exact ih (λx hx=>hl x (Yr _ hx)) k e z
     exact all _ (λd hd=>(hds d hd).1) k e he
    ·cases k with
     | zero=>rw[XZ];exact Ax _
     | succ k =>
      rw[fm];have a:=Z5w k λd hd=>(hds d hd).2.1;have b:c3 dp=1 + 3 * c3 (dp - 1):=by
       obtain⟨e,rfl⟩:∃ e,dp=e + 1:=⟨dp - 1,W⟩;rfl
      have:(c :: cs).length * c3 (dp - 1)<=3 * c3 (dp - 1):=Nat.mul_le_mul_right _ (by omega);omega
def Z81:∀ i:Fin 10,BZ ("0123456789":Str).cps.toList ((i.1:Nat):Int)=some (48 + i.1)/\VW i.1=[48 + i.1]:=by rfl'
def Yb2(j:Nat):Sp:=λvs H Q _=>∃(ns:List AI) (m:Nat) (d:Dt) (v:V),vs=[v]/\B_ H d v/\BR ns m j d=true/\m<=10/\C6 j d=true/\A0 j [d]<=60/\∀(s:Str) (H':Hp),AB H H'->s.cps.toList=tx j d->Q (.str s) H'
def Ycj:AX ["term"] ["term"] (AJ gr):=by nofun
def Z04(F:Def K mg "_law_term_written" gr ["term"] f fd)(T:VT mg):∀ j,⋯ (1 + j) f fd ["term"] (Yb2 j):=by
 intro j
 induction j with
 | zero =>
  nomatch F.fn.ok Ycj
  ·obtain⟨ns,m,d,v,rfl,_⟩:=h;rfl
  ·obtain⟨ns,m,d,v,rfl,_,z,_⟩:=h;cases z
 | succ j GS =>
  nomatch F.fn.ok Ycj
  ·obtain⟨ns,m,d,v,rfl,_⟩:=h;rfl
  ·obtain⟨ns,m,d,v,rfl,hv,sd,m10,ht,hc,q⟩:=h;have Az:Af (1 + j) _:=hr
   ac_nf
   refine'⟨_,(pS (AY (Bo (Aq bh (by rfl) T.isi cj (pC (pv 0) (pC (ba (v:=.ty "int") (by rfl) T.int cm rfl) AA)))) (AG (AO (AV (r:=cS) bT Ar (pv 0) (λ_ _=>rfl)))) Aa)
   (AG (AO (AU UA (AU UA (AU UA (AV (r:=BQ K) BW (pv 0) AE (λ_ _=>rfl)) Ar) (Be V6 Y2 Y1 bZ Ar (pC ?eC AA))) Ar)))),?_⟩
   case eC=>exact(Bm ["part"] [] [] (λ_=>BH (osc:=AJ gr) (on:=["term"]) (by rfl') rfl rfl rfl) (UQ (Dg (r:=Xf K) Zn (pv 0) (Ce AE) T_)) (λC s H fp=>BN (i:=0) xG rfl (Or.inl rfl) (Or.inr rfl)) (λC s H fp=>Bn) (λC s H fp=>AL F GS Az (pC (pv 0) AA)))
   exists let b:=_;AF (By _ b _) a _ _ _
   rcases YF sd with⟨i,rfl,hi⟩ | ⟨n,hn,ds,rfl,hl,hks⟩
   ·cases hv;obtain⟨a1,a2⟩:=Z81 ⟨i,W⟩;exact⟨Z,_,_,_,Z,.int _,Y,Z,Av ⟨Z,_,(i:Int),Z,Y,sL (by rfl'),a1,q _ H (AB.refl _) (by rw[fY];exact a2.symm)⟩⟩
   ·rcases Zi ht with⟨i,e,_⟩ | ⟨x,c,cs,e,hx,hk⟩
    ·cases e
    have e1:ds=c :: cs:=by injection e with e;injection e with _ e
    have e2:n.1=x:=by injection e with e;injection e with e _;injection e with e
    cases hv with
    | @tup a vs _ ha hts =>
    cases hts with
    | @cons _ _ v0 vs h0 hts =>
    cases h0;rw[fm]at hc;rw[<- e1]at hk;rw[<- e2]at hx;have wl:=Dh hx;have vl:=hts.length;refine⟨Z,_,_,_,Z,.tup ha,Y,Z,AS ?_⟩;have v9:=q9 hk (by omega);refine⟨Z,a,_,_,Z,Y,AH.of ha,LG _ _,_,Z,Y,sL (by show n.1.length + 1<=100000;omega),Y,Z,Z,?_⟩;unfold XT;refine Zm (K:=K) (lo:=some 1) (hi:=none) ha λb H1 s1 hb=>?_;rw[YU]at hb;have hb:H1 b=some (.tup vs):=hb;let Au:Addr->Nat->LV->St->Hp->Prop:=λD i ys σ' H'=>H1 D=none/\AB H1 H'/\H' D=some (.lst ys)/\∃(xs:LS) (o:OV),ys=xs.map V.str/\xs.map (λx=>x.cps.toList)=(ds.take i).map (tx j)/\σ'=[o];refine⟨b,Y,⟨_,AH.of hb⟩,VC (Uo (xs:=vs)) (sL (by omega)) Au ?_ ?_ ?_ ?_⟩
    ·intro D hD;exact⟨hD,AM hD,uS,[],none,Y,by rw[Dz];rfl,Y⟩
    ·rintro D i ys σ' H' hi ⟨hD,hs,hl,xs,o,rfl,Cy,rfl⟩;refine⟨AH.of (hs _ _ hb),?_⟩;have:=congrArg List.length Cy;rw[Ya,Ya,Bg]at this;rw[Ya];omega
    ·rintro D i v ys σ' H' hD SS ⟨_,hs,hl,xs,o,rfl,Cy,rfl⟩;obtain⟨d,hd,hvd⟩:=hts.at_ SS;have hdm:=Yd hd;have ck:=fj (k:=j) hdm;refine⟨Z,ns,m,d,v,Y,hvd.keep (A3 (s1.trans hs)),hks d hdm,m10,hk d hdm,W,λs2 H2 BE Ca=>?_⟩;have Wb:=BE _ _ hl;refine⟨Wb,hD,λb o e=>by rw[AD (AK e hD)];exact BE _ _ (hs _ _ e),uS,xs++[s2],_,by rw[Ys];rfl,?_,Y⟩;rw[Ys,Cy,Bt,hd,Ys];show _++[s2.cps.toList]=_++[tx j d];rw[Ca]
    ·rintro D ys σ' H' hD ⟨_,hs,hl,xs,o,rfl,Cy,_⟩;rw[<- vl,Bs]at Cy;have xl:=congrArg List.length Cy;rw[Ya,Ya]at xl;have xb:∀ y∈xs,y.length<=780:=λy hy=>by
      have:y.cps.toList∈ds.map (tx j):=by rw[<- Cy];exact Yg.mpr ⟨y,hy,Y⟩
      obtain⟨d,hd,e⟩:=Yg.mp this;have tl:=fZ j d (hk d hd);have ck:=fj (k:=j) hd;have:=congrArg List.length e;rw[Cm]at this;omega
     refine⟨_,D,xs,780,Y,Y,hl,xb,?_,?_⟩
     ·have:(", ":Str).length=2:=rfl;rw[this];omega
     have gl:=yF xs;rw[Cy]at gl;have gb:(Builtin.Str.glued ", " xs).length<=780:=by
      have:=congrArg List.length gl;rw[Cm]at this;have jb:=yH hk ds.length;rw[Bs]at jb;omega
     refine⟨_,Z,Y,sL (by rw[strLen_append];show _ + 1 + _<=_;omega),_,Z,Y,sL (by rw[strLen_append,strLen_append];show _ + 1 + _ + 1<=_;omega),?_⟩;refine q _ H' (s1.trans hs) ?_;rw[XX,XX,XX,gl,fb,xu,y_];simp
def Z6v(K:Fg)(j:Nat):Sp:=λvs H Q _=>∃(aa ln l ts:Addr) (rows:RS) (AR:KL) (ns:List AI) (us:LV) (b:Bool) (xs:LS) (d:Dt) (v:V) (sp:LN),vs=[.ref aa,.ref ln,.ref l,v,.ref ts]/\Am rows/\H aa=some (.dK AR)/\C9 H rows rows AR/\H ln=some (.lst us)/\T4 H ns us/\Cf rows ns/\CW K b H l (xs.map V.str)/\(∀ x∈xs,x∈rows.map (·.1))/\B_ H d v/\BR ns xs.length j d=true/\H ts=some (.tup (sp.map Aj))/\sp.length + j<=50 /\
 ∀(a:Addr) (H':Hp),AB H H'->V8 H' (Ci rows ns xs j d sp) a->Q (.ref a) H'
def Z4z:(["pair"]:LS).Nodup:=by rfl'
def Z75:(["name","term"]:LS).Nodup:=by rfl'
def Zuf{J:It}{vs:LV}{Ok:Hp->Prop}(R:Sd J vs Ok){te:TE}{σ:St}{Q:VK}{H1:Hp}{ps:List (LS×Str)}(hz:vs.length<=1000)(hp:Cg H1 ps vs)(hok:∀ H,AB H1 H->Ok H)
  (he:∀(t tc:Addr) (y:V) H' (R:VK),H' t=some (.tup [.ref tc,y])->R (.ref tc) H'->te [some (.ref t)] H' R)
  (hd:∀ D us H',H1 D=none->AB H1 H'->H' D=some (.lst us)->Cd H' (ps.map (·.1)) us->Q (.ref D) H'):AQ 1 [] (Ck 0) XM te σ Q J H1:=by
 refine Zo R (sL (by omega)) (λ_=>true) (λ_ x v _=>v=X4 H1 x) (λ_ _ _ _ _ _ h=>h) hok ?_ ?_ ?_
 ·intro x H3 R _ _ CA;exact CA H3 (AB.refl _)
 ·intro D x H3 R s3 _ _ hx _ CA;obtain⟨i,hi⟩:=Y3.mp hx;obtain⟨p,vT,t,tc,rfl,ht,SU⟩:=Bp hp hi;exact he t tc _ H3 R (s3 _ _ ht) (CA _ _ (AB.refl _) (jo ht).symm)
 ·intro D H3 ys hD A9 hlD hpD;rw[VH.mpr (λ_ _=>rfl)]at hpD;rw[b8 hpD]at hlD;exact hd D _ H3 hD A9 hlD ((kh hp).mono A9)
def Z8e{ns:List AI}(nd:(ns.map (·.1)).Nodup){a b:AI}(ha:a∈ns)(hb:b∈ns)(e:a.1=b.1):a=b:=by
 have h1:=qk nd ha;have h2:=qk nd hb;rw[e]at h1;rw[h1]at h2;exact Ym h2
structure Z87(mg:Str->OU):Prop where
 isi:mg "isinstance"=none
 int:mg "int"=none
 bool:mg "bool"=none
 tuple:mg "tuple"=none
 len:mg "len"=none
 range:mg "range"=none
 all:mg "all"=none
abbrev oO:LS:=["above","names","filling","term","spot","call","number","found","pairs"]
abbrev dJ:LS:=["above","names","filling","term","spot"]
def r6:AX oO dJ (AJ cC):=by nofun
def Z1h(F:Def K mg "_law_comes" cC dJ f fd)(T:Z87 mg)(DS:Def K mg "_law_told" lK ["above","deeds","call"] fS fdS)(GSe:⋯ 3 fS fdS ["above","deeds","call"] xW):
  ∀ j,⋯ (4 + j) f fd dJ (Z6v K j):=by
 intro j
 induction j with
 | zero =>
  nomatch F.fn.ok r6
  ·obtain⟨aa,ln,l,ts,rows,AR,ns,us,b,xs,d,v,sp,rfl,_⟩:=h;rfl
  ·obtain⟨aa,ln,l,ts,rows,AR,ns,us,b,xs,d,v,sp,rfl,_,_,_,_,_,_,_,_,_,z,_⟩:=h;cases z
 | succ j GS =>
  nomatch F.fn.ok r6
  ·obtain⟨aa,ln,l,ts,rows,AR,ns,us,b,xs,d,v,sp,rfl,_⟩:=h;rfl
  ·obtain⟨aa,ln,l,ts,rows,AR,ns,us,b,xs,d,v,sp,rfl,g,Bd,hA,A8,hN,gn,hS,hx,hv,sd,hts,hsp,q⟩:=h;have nd:=r6.nd;have Uh:Af 3 _:=hr.mono (show 3<=4 + j by omega)
   ac_nf
   refine'⟨_,(pS (AY (Bo (Aq bh (by rfl) T.isi cj (pC (pv 3) (pC (ba (v:=.ty "int") (by rfl) T.int cm rfl) AA)))) (AG (AO (Bf (pC Ar (pC (AV (r:=oI K) Z3j (pv 2) (pv 3) (λ_ _=>rfl)) AA))))) Aa)
   (pS (sE 5 nd (Bf AA))
   (pS (BM Yw rfl (Vf (by rfl) T.range (pC (AU Wo (Aq Cn (by rfl) T.len BI (pC (pv 3) AA)) AE) AA)) (gE 6 nd)
     (pS (sE 7 nd (AL F GS hr (pC (pv 0) (pC (pv 1) (pC (pv 2) (pC (AV (r:=BQ K) BW (pv 3) (AU C_ AE (pv 6)) (λ_ _=>rfl)) (pC (AU YE (pv 4) (Bf (pC (pv 6) AA))) AA)))))))
   (pS (AY (Ag U6 (AV (r:=BQ K) BW (pv 7) AE (λ_ _=>rfl)) Ar (Ab _)) (AG (AO (pv 7))) Aa)
   (AG (sE 5 nd (AU YE (pv 5) (Bf (pC (AV (r:=BQ K) BW (pv 7) AE (λ_ _=>rfl)) AA))))))))
   (pS (sE 8 nd (AV (r:=Bl K) A2 ?eN AE (λ_ _=>rfl)))
   (pS (sE 7 nd (AL DS GSe Uh (pC (pv 0) (pC ?eC (pC (pv 5) AA)))))
   (pS (AY (Ag BV (AV (r:=BQ K) BW (pv 7) AE (λ_ _=>rfl)) Ar (Ab _)) (AG (AO (Bf (pC Ar (pC (AV (r:=BQ K) BW (AV (r:=BQ K) BW (pv 8) (AV (r:=BQ K) BW (pv 7) AE (λ_ _=>rfl)) (λ_ _=>rfl)) AE (λ_ _=>rfl)) AA))))) Aa)
   (AG (AO (AU YE (Bf (pC (AV (r:=BQ K) BW (pv 7) AE (λ_ _=>rfl)) (pC (pv 4) (pC (pv 5) AA)))) (Dg (r:=Xf K) Zn (pv 7) (Ce AE) T_)))))))))),?_⟩
   case eN=>exact(Bm ["name"] ["term"] [3] (λ_=>BH (osc:=AJ cC) (on:=oO) (by rfl') rfl rfl rfl) (CD (pv 1)) (λC s H fp=>BN (i:=0) Z75 rfl (Or.inl rfl) (Or.inr rfl)) (λC s H fp=>Zl (Ag BV (AV (r:=BQ K) BW (pv 0) AE (λ_ _=>rfl)) (AV (r:=BQ K) BW (pv 1) AE (λ_ _=>rfl)) (Ab _))) (λC s H fp=>AV (r:=BQ K) BW (pv 0) AE (λ_ _=>rfl)))
   case eC=>exact(Bm ["pair"] [] [] (λ_=>BH (osc:=AJ cC) (on:=oO) (by rfl') rfl rfl rfl) (UQ (pv 8)) (λC s H fp=>BN (i:=0) Z4z rfl (Or.inl rfl) (Or.inr rfl)) (λC s H fp=>Bn) (λC s H fp=>AV (r:=BQ K) BW (pv 0) AE (λ_ _=>rfl)))
   exists let b:=_;let c:=AF (By _ b _) a;let e:=AF _ c;let f:=AF _ e;let g:=_;let h:=AF _ g;let i:=AF _ h;let j:=AF (BS _ _ i) f;let k:=AF _ j;let l:=_;AF (By _ l _) k _ _ _
   rcases YF sd with⟨i,rfl,hi⟩ | ⟨n,hn,ds,rfl,hl,hk⟩
   ·cases hv;have ea:BZ (xs.map V.str) (i:Int)=some (.str (xs.getD i ("":Str))):=Bb (by
     rw[Yj,Yl,Yb hi];rfl)
    refine⟨Z,_,_,_,Z,.int _,Y,Z,Av ⟨Z,Z,?_⟩⟩;cases b with
    | true=>exact .inl ⟨l,_,_,Z,Y,hS,ea,U,λt ht=>q t _ (AM ht) uS⟩
    | false=>exact .inr (.inl ⟨l,_,_,Z,Y,hS,ea,U,λt ht=>q t _ (AM ht) uS⟩)
   ·cases hv with
    | @tup a vs _ ha ht =>
    cases ht with
    | @cons _ _ v0 vs h0 ht =>
    cases h0;have Bi:=gn.each n hn;have n4:=Bi.four;rw[j_]at q;refine⟨Z,_,_,_,Z,.tup ha,Y,Z,AS ⟨Ax _,λt1 dX=>?_⟩⟩;have s1:AB H (upd H t1 (.tup [])):=AM dX;have bH:(upd H t1 (.tup [])) t1=some (.tup []):=uS;generalize upd H t1 (.tup [])=H1 at s1 bH;have vl:=ht.length;have el:((V.str n.1 :: vs).length:Int) - 1=(ds.length:Int):=by rw[Yt];omega
    let Au:NW:=λi σ H'=>∃(mk:LS) (tc:Addr) (x6 x7:OV),σ=[some (.ref aa),some (.ref ln),some (.ref l),some (.ref a),some (.ref ts),some (.ref tc),x6,x7,none]/\AB H H'/\H' tc=some (.tup (mk.map V.str))/\mk.length=i/\Dc (λc i=>Ci rows ns xs j c (sp++[i])) (ds.drop i) i mk=Dc (λc i=>Ci rows ns xs j c (sp++[i])) ds 0 [];refine⟨Z,a,Z,.inr (AH.of (s1 _ _ ha)),_,Z,Y,(ds.length:Int),(by rw[<- el]),W,W,Bz VE Au
     ⟨[],t1,none,none,Y,s1,bH,Y,Y⟩ (λ_ _ _ _ _=>trivial) ?_ ?_⟩
    ·rintro i v' σ H3 hi ⟨mk,tc,x6,x7,rfl,s3,Xq,ml,hg⟩;obtain⟨hi,rfl⟩:=Dw hi;have il:i<ds.length:=by omega
     have hvi:vs[i]?=some vs[i]:=Yb (by omega);obtain⟨c,hc,hvc⟩:=ht.at_ hvi;have hcm:=Yd hc;refine⟨Z,Z,Z,Z,Z,_,Z,Y,a,_,_,vs[i],Y,Y,AH.of (s3 _ _ ha),(by show BZ _ ((1:Int) + (0 + (i:Int)))=_;rw[show(1:Int) + (0 + (i:Int))=((i + 1:Nat):Int) by omega];exact Bb (by rw[cX];exact hvi)),Z,Z,O,λt5 oi=>?_⟩;have As:AB H3 (upd H3 t5 (.tup [.int (0 + (i:Int))])):=AM oi;have X3:(upd H3 t5 (.tup [.int (0 + (i:Int))])) t5=some (.tup [.int (0 + (i:Int))]):=uS;generalize upd H3 t5 (.tup [.int (0 + (i:Int))])=H5 at As X3;have s5:=s3.trans As;refine YK (K:=K) (s5 _ _ hts) X3 (sL (by rw[Ya];show _ + 1<=_;omega)) λt6 H6 BP ZU=>?_;have s6:=s5.trans BP;have e6:sp.map Aj++[.int (0 + (i:Int))]=(sp++[i]).map Aj:=by rw[Ys,W4];rfl
     rw[e6]at ZU;refine⟨aa,ln,l,t6,rows,AR,ns,us,b,xs,c,vs[i],sp++[i],Y,g,s6 _ _ Bd,hA.mono (λ_ _ e=>s6 _ _ e),s6 _ _ A8,hN.mono (A3 s6),gn,hS.mono s6,hx,hvc.keep (A3 s6),hk c hcm,ZU,by rw[Yc,UY];omega,λar H7 UH Dl=>?_⟩;have ae:=(As.trans BP).trans UH;have s7:=s3.trans ae;have ed:ds.drop i=c :: ds.drop (i + 1):=by
      rw[aF il];rw[Yb il]at hc;rw[Ym hc]
     rw[ed]at hg;cases hrr:Ci rows ns xs j c (sp++[i])with
     | kind x =>
      rw[su (f:=λc i=>Ci rows ns xs j c (sp++[i])) hrr]at hg;rw[hrr]at Dl;have Dl:H7 ar=some (.tup [.str "kind",.str x]):=Dl;refine⟨Z,ar,_,_,Z,Y,AH.of Dl,LG _ _,Y,Z,?_⟩;rw[Jb rfl];refine AS ⟨Z,Z,ar,_,_,Z,Y,AH.of Dl,Bb (j:=1) rfl,O,λt8 oh=>?_⟩;have CG:AB H7 (upd H7 t8 (.tup [.str x])):=AM oh;have eQ:(upd H7 t8 (.tup [.str x])) t8=some (.tup [.str x]):=uS;generalize upd H7 t8 (.tup [.str x])=H8 at CG eQ;refine YK (K:=K) (CG _ _ (ae _ _ Xq)) eQ (sL (by rw[Ya];show _ + 1<=_;omega)) λt9 H9 XA ht9=>?_;exact⟨mk++[x],t9,_,Z,(s7.trans CG).trans XA,by rw[ht9,Ys];rfl,by rw[Yc,ml];rfl,hg⟩
     | bad b' sp' cl ks =>
      rw[sr (f:=λc i=>Ci rows ns xs j c (sp++[i])) hrr]at hg;rw[hrr]at Dl;obtain⟨u1,u2,Tu,o_,XG⟩:=Dl;refine⟨Z,ar,_,_,Z,Y,AH.of Tu,LG _ _,Y,Z,?_⟩;rw[Jc (Z3a b')];rw[<- hg]at q;exact Av ⟨Z,q ar H7 s7 ⟨u1,u2,Tu,o_,XG⟩⟩
    ·rintro σ H3 ⟨mk,tc,x6,x7,rfl,s3,Xq,ml,hg⟩;rw[Cq,show((ds.length:Int)).toNat=ds.length from rfl,List.drop_length]at hg;have hg:(Sum.inr mk:Sum Rs (LS))=_:=hg;rw[<- hg]at q;have q:∀(a:Addr) (H':Hp),AB H H'->V8 H' (X6 rows ns n.1 sp mk) a->Q (.ref a) H':=q;rw[kL gn.nd hn]at q;have gc:=qN gn hx hl hk hg.symm;obtain⟨mi,hmi⟩:=hZ hn;obtain⟨vn,hvn,tn,tpn,psn,rfl,htn,htpn,hPn⟩:=V2 hN hmi;have few:=gn.few;have nlen:=Yu hN;have pl:=Yu hPn;have pf:=Bi.deeds.few;rw[Ya]at pf;let D0:Addr->Nat->LV->St->Hp->Prop:=λD i ys σ' H'=>H3 D=none/\AB H3 H'/\H' D=some (.lst ys)/\(i<=mi->ys=[])/\(mi<i->ys=[.ref tpn])/\∃ x,σ'=[x,some (.ref a)];refine⟨Z,ln,Y,⟨_,SqL.of (s3 _ _ A8)⟩,VC (CU (xs:=us)) (sL (by omega)) D0
      (λD hD=>⟨hD,AM hD,uS,λ_=>rfl,(λh=>absurd h (Nat.not_lt_zero _)),Z⟩) (λD i ys σ' H' hi z=>by
       obtain⟨_,s,_,y1,y2,_⟩:=z;refine⟨SqL.of (s _ _ (s3 _ _ A8)),?_⟩
       rcases Nat.lt_or_ge mi i with h | h
       ·rw[y2 h];show 1<=i;omega
       ·rw[y1 h];exact Ax _) ?_ ?_⟩
     ·rintro D i v ys σ' H4 hD hi ⟨_,Ai,Wa,y1,y2,x,rfl⟩;obtain⟨n',XF,t',ua,ps',rfl,VP,htp',hP'⟩:=Bp hN hi;have s4:=s3.trans Ai;refine⟨Z,t',_,_,Z,Y,AH.of (s4 _ _ VP),LG _ _,Z,a,_,_,Z,Y,AH.of (s4 _ _ ha),LG _ _,Y,Z,A1 (λz=>?_) (λz=>?_)⟩
      ·have z:=Je z;injection z with z;have en:n'=n:=Z8e gn.nd (Yd XF) hn z;have ei:i=mi:=by
        have il:i<(ns.map (·.1)).length:=by rw[Ya];exact(Yi.mp XF).1
        exact(List.getElem?_inj il gn.nd).mp (by rw[Yj,Yj,XF,hmi,en])
       subst ei;rw[hvn]at hi;injection hi with hi;injection hi with hi;subst hi;have et:ua=tpn:=by
        rw[htn]at VP;have e:=Ym VP;injection e with e;injection e with _ e;injection e with _ e;injection e with e _;injection e with e;exact e.symm
       subst et;refine⟨Z,tn,_,_,Z,Y,AH.of (s4 _ _ VP),Bb (j:=2) rfl,Wa,hD,λb o e=>by rw[AD (AK e hD)];exact Ai _ _ e,uS,λh=>absurd h (by omega),λ_=>by rw[y1 (Yf _)];rfl,Z⟩
      ·refine⟨hD,Ai,Wa,λh=>y1 (by omega),λh=>?_,Z⟩
       rcases Nat.lt_or_ge mi i with h2 | h2
       ·exact y2 h2
       ·have ei:i=mi:=by omega
        subst ei;rw[hmi]at XF;rw[Ym XF]at z;exact absurd (Jb rfl) z
     ·rintro D ys σ' H4 hD ⟨_,Ai,Wa,_,y2,_⟩;have yE:=y2 (by rw[<- nlen];exact(Yi.mp hmi).1);subst yE;refine⟨D,_,_,Z,Y,SqL.of Wa,Bb (j:=0) rfl,?_⟩;have s4:=s3.trans Ai;have WC:=s4 _ _ htpn;have hP4:=hPn.mono (A3 s4);refine⟨Z,Z,tpn,Y,⟨_,AH.of WC⟩,Zuf (Uo (xs:=psn)) (by omega) hP4 (λH' s=>AH.of (s _ _ WC)) ?_ λld us2 H5 Bx As uA pH=>?_⟩
      ·intro t tc y H' R ht hR;exact⟨Z,t,_,_,Z,Y,AH.of ht,LG _ _,hR⟩
      have s5:=s4.trans As;have dB:=Ai.trans As;refine⟨Z,aa,ld,tc,n.2.1,rows,AR,_,us2,mk,Y,g,s5 _ _ Bd,hA.mono (λ_ _ e=>s5 _ _ e),uA,pH,Bi.deeds,dB _ _ Xq,gc,Bi.four,λl6 H6 VQ BP Ub=>?_⟩;have s6:=s5.trans BP;have Ux:=dB.trans BP;have lt:=qR (rows:=rows) (ds:=n.2.2.map (·.1)) (xs:=mk);unfold Wk at q;generalize Vt rows (n.2.2.map (·.1)) mk=near at q Ub lt
      rcases rT near with⟨i,rfl⟩ | ⟨b,ks,ev,kl,ec⟩
      ·have li:=lt i (.head _);rw[Ya]at li;refine⟨Z,l6,_,_,Z,Y,AH.of Ub,LG _ _,Y,Z,?_⟩;rw[Jb rfl];have hv:psn[i]?=some psn[i]:=Yb (by omega);obtain⟨pr,hpr,t,tc',e,ht,htc'⟩:=Bp hPn hv;refine Av ⟨Z,Z,l6,_,_,Z,Y,AH.of Ub,Bb (j:=1) rfl,tpn,_,_,Z,Y,AH.of (s6 _ _ htpn),Bb (j:=i) hv,t,_,_,_,e,Y,AH.of (s6 _ _ ht),Bb (j:=1) rfl,U,λt ht=>q t _ (s6.trans (AM ht)) ?_⟩;have ek:(n.2.2.map (·.2)).getD i ("":Str)=pr.2:=by
        rw[Yl,Yj,hpr];rfl
       show(upd H6 t (.tup [.str "kind",.str pr.2])) t=some (.tup [.str "kind",.str ((n.2.2.map (·.2)).getD i ("":Str))]);rw[ek];exact uS
      ·rw[ev]at Ub;refine⟨Z,l6,_,_,Z,Y,AH.of Ub,LG _ _,Y,Z,?_⟩;rw[Jc (show ¬ (V.str (sB b)=V.str "deed")from by cases b;exact Z7y;exact Z7z),];rw[ec]at q;refine AS ⟨Z,l6,_,_,Z,Y,AH.of Ub,LG _ _,Z,Z,sL (by show 3<=100000;decide),λt ht=>?_⟩;have UH:AB H6 (upd H6 t (.tup [.str (sB b),.ref ts,.ref tc])):=AM ht;have vQ:(upd H6 t (.tup [.str (sB b),.ref ts,.ref tc])) t=some (.tup [.str (sB b),.ref ts,.ref tc]):=uS;generalize upd H6 t (.tup [.str (sB b),.ref ts,.ref tc])=H7 at UH vQ;refine⟨Z,Z,?_⟩;unfold XT;refine Zm (K:=K) (lo:=some 1) (hi:=none) (UH _ _ Ub) λu H8 CG hu=>?_;rw[YU]at hu;have hu:H8 u=some (.tup (ks.map Aj)):=hu;refine YK (K:=K) (CG _ _ vQ) hu (sL (by rw[Ya];show 3 + _<=_;omega)) λa9 H9 XA ha9=>?_;have s9:=(s6.trans UH).trans (CG.trans XA);exact q a9 H9 s9 ⟨ts,tc,ha9,s9 _ _ hts,((Ux.trans UH).trans (CG.trans XA)) _ _ Xq⟩
def Z76:(["name"]:LS).Nodup:=by rfl'
def Z3h:(["pair"]:LS).Nodup:=by rfl'
def Z6t(C B D:Addr):Sp:=λvs H Q _=>∃(p k l ln:Addr) (rows:RS) (ns:List AI) (us:LV),vs=[.ref p,.ref l,.ref ln]/\Sk C B D H p k rows ns/\Am rows/\Cf rows ns/\T5 H l rows/\H ln=some (.lst us)/\T4 H ns us/\∀ H',AB H H'->Q (.bl true) H'
abbrev mU:LS:=["book","rows","names","word","places","deeds"]
abbrev gs:LS:=["book","rows","names"]
def Z66:AX mU gs (AJ Zv):=by nofun
set_option maxHeartbeats 16000000 in
def Z4p(F:Def K mg "_law_same" Zv gs f fd)(hl:mg "list"=none)(TD:U8 K D)(TB:Wi K B)(TC:Tx K C)
  (MW:wY K D fKW fdKW) (GW:⋯ 1 fKW fdKW ["self"] (qw C B D)) (MN:wX K D fKN fdKN) (GN:⋯ 2 fKN fdKN ["self"] (qv C B D)) (MK:qY K D fKK fdKK) (GK:⋯ 1 fKK fdKK ["self"] (kY C B D))
  (MB:qW K D fKB fdKB) (GB:⋯ 2 fKB fdKB ["self","word"] (kU C B D)) (MM:wW K D fKM fdKM) (GM:⋯ 2 fKM fdKM ["self","word"] (qu C B D))
  (MBP:kI K B fBP fdBP) (MBD:jz K B fBD fdBD) (MBK:qL K B fBK fdBK) (MR:Sb K C "rows" "Kinds.rows" gY ["self"] fR fdR):
  ⋯ 3 f fd gs (Z6t C B D):=by
 have GBP:⋯ 1 fBP fdBP ["self"] (gT C B):=lG MBP.fn TB;have GBD:⋯ 1 fBD fdBD ["self"] (gG C B):=kb MBD.fn TB hl;have GBK:⋯ 1 fBK fdBK ["self"] (kT C B):=rF MBK.fn TB;have GR:⋯ 1 fR fdR ["self"] (qy C):=zN MR.fn TC hl
 nomatch F.fn.ok Z66
 ·obtain⟨p,k,l,ln,rows,ns,us,rfl,_⟩:=h;rfl
 ·obtain⟨p,k,l,ln,rows,ns,us,rfl,bk,g,gn,hR,A8,hN,q⟩:=h;have nd:=Z66.nd;have hu:=hr.units;have AZ:Af 1 _:=hr.mono (by decide)
  ac_nf
  refine'⟨_,(pS (AY (PW.pt (C2 (Ag (Vx hu) (DJ (DJ (pv 0) TD.cl MK.me GK AZ MK.b .nil BA) TC.cl MR.me GR AZ MR.b .nil BA) (pv 1) (Ab _)) (C2 (Ag (Vx hu) (DJ (pv 0) TD.cl MN.me GN hr MN.b .nil BA) (pv 2) (Ab _)) (T6 (Ag (Vx hu) (DJ (pv 0) TD.cl MW.me GW AZ MW.b .nil BA) ?e1 (Ab _)))))) (AG (AO Cj)) Aa)
   (pS (BM Yw rfl (CD (pv 2)) (LJ rfl (gC (gE 3 nd) (gC (gE 4 nd) (gC (gE 5 nd) LL))))
    (pS (AY (PW.pt (C2 (Ag (Vx hu) (DJ (T9 (pv 0) TD.cl MB.me GB hr MB.b .nil BA (pC (pv 3) AA)) TB.cl MBD.me GBD AZ MBD.b .nil BA) ?e2 (Ab _)) (T6 (Ag U6 (DJ (T9 (pv 0) TD.cl MB.me GB hr MB.b .nil BA (pC (pv 3) AA)) TB.cl MBP.me GBP AZ MBP.b .nil BA) (pv 4) (Ab _))))) (AG (AO Cj)) Aa)
   (AG (AY (PW.pt (C2 (Ag (Vx hu) (T9 (pv 0) TD.cl MM.me GM hr MM.b .nil BA (pC (pv 3) AA)) ?e3 (Ab _)) (T6 (Ag (Vx hu) (DJ (DJ (T9 (pv 0) TD.cl MB.me GB hr MB.b .nil BA (pC (pv 3) AA)) TB.cl MBK.me GBK AZ MBK.b .nil BA) TC.cl MR.me GR AZ MR.b .nil BA) (pv 1) (Ab _))))) (AG (AO Cj)) Aa))))
   (AG (AO Cj)))),?_⟩
  case e1=>exact(Bm ["name"] [] [] (λ_=>BH (osc:=AJ Zv) (on:=mU) (by rfl') rfl rfl rfl) (CD (pv 2)) (λC s H fp=>BN (i:=0) Z76 rfl (Or.inl rfl) (Or.inr rfl)) (λC s H fp=>Bn) (λC s H fp=>AV (r:=BQ K) BW (pv 0) AE (λ_ _=>rfl)))
  case e2=>exact(Bm ["pair"] [] [] (λ_=>BH (osc:=AJ Zv) (on:=mU) (by rfl') rfl rfl rfl) (UQ (pv 5)) (λC s H fp=>BN (i:=0) Z3h rfl (Or.inl rfl) (Or.inr rfl)) (λC s H fp=>Bn) (λC s H fp=>AV (r:=BQ K) BW (pv 0) AE (λ_ _=>rfl)))
  case e3=>exact(Bm ["pair"] [] [] (λ_=>BH (osc:=AJ Zv) (on:=mU) (by rfl') rfl rfl rfl) (UQ (pv 5)) (λC s H fp=>BN (i:=0) Z3h rfl (Or.inl rfl) (Or.inr rfl)) (λC s H fp=>Bn) (λC s H fp=>AV (r:=BQ K) BW (pv 0) AE (λ_ _=>rfl)))
  exists let b:=_;let c:=AF _ b;let e:=AF (BS _ _ c) a;AF _ e _ _ _
  obtain⟨dx,bo,mo,o,A6,BD,h1,h2,h3,h4,h5,h6⟩:=bk.ex;obtain⟨dxk,dk,ak,okk,oak,kvs,AR,LD,_⟩:=h2.ex;have few:=gn.few;have okw:W.kqdOk 9 (.list ((ns.map (·.1)).map W.Dat.str))=true:=fJ λx hx=>by
   obtain⟨n,hn,e⟩:=Yg.mp hx;rw[<- e];exact(gn.each n hn).word
  have okn:=rH g gn.each;have okr:=Z1e g;refine⟨Z,p,dx,Z,h1,rE _ _ _,p,k,rows,ns,Y,bk,k,dxk,Z,LD,qo _ _,k,rows,Y,h2,g,λlq H1 hlq s1 VR=>?_⟩;refine⟨Z,.list (rows.map X8),.list (rows.map X8),kQ VR,kQ (Vg hR s1),okr,okr,Z,?_⟩;rw[VD];refine AS ?_;refine⟨Z,p,dx,Z,s1 _ _ h1,zF _ _ _,p,k,rows,ns,Y,bk.mono s1,gn,λlf fs H2 hlf BE t_ ZZ=>?_⟩;have s2:=s1.trans BE;refine⟨Z,.list (ns.map XJ),.list (ns.map XJ),.list (SqL.of t_) (gR ZZ),.list (SqL.of (s2 _ _ A8)) (gR (hN.mono (A3 s2))),okn,okn,Z,?_⟩;rw[VD];refine AS ?_;refine⟨Z,p,dx,Z,s2 _ _ h1,zG _ _ _,p,k,rows,ns,Y,bk.mono s2,λlw hlw=>?_⟩;have A9:AB H2 (upd H2 lw (.lst ((ns.map (·.1)).map V.str))):=AM hlw;have ig:(upd H2 lw (.lst ((ns.map (·.1)).map V.str))) lw=some (.lst ((ns.map (·.1)).map V.str)):=uS;generalize upd H2 lw (.lst ((ns.map (·.1)).map V.str))=H3 at A9 ig;have s3:=s2.trans A9;refine⟨Z,ln,Y,⟨_,SqL.of (s3 _ _ A8)⟩,Zuv (s3 _ _ A8) (hN.mono (A3 s3)) (by omega) (λt tp x m H' R ht hRx=>⟨Z,t,_,_,Z,Y,AH.of ht,Y,hRx⟩) λlc H4 hlc Ai uF=>?_⟩;refine⟨.list ((ns.map (·.1)).map W.Dat.str),.list ((ns.map (·.1)).map W.Dat.str),.list (SqL.of (Ai _ _ ig)) (Wv _),.list (SqL.of uF) (Wv _),okw,okw,Z,?_⟩;rw[VD];refine AS ?_;have s4:=s3.trans Ai;let Au:NW:=λi σ H'=>∃ x3 x4 x5:OV,σ=[some (.ref p),some (.ref l),some (.ref ln),x3,x4,x5]/\AB H H';refine⟨Z,ln,Y,⟨_,SqL.of (s4 _ _ A8)⟩,Bz (CU (xs:=us)) Au
   ⟨none,none,none,Y,s4⟩ (λi σ H' _ h0=>by obtain⟨_,_,_,_,s⟩:=h0;exact SqL.of (s _ _ A8)) ?_ ?_⟩
  ·rintro i v σ H5 hi ⟨x3,x4,x5,rfl,s5⟩;obtain⟨n,hn,t,tp,vs,rfl,ht,htp,hP⟩:=Bp hN hi;have Ak:n∈ns:=Yd hn;have Bi:=gn.each n Ak;have vl:vs.length<=64:=by
    have a:=Yu hP;have b:=Bi.deeds.few;rw[Ya]at b;omega
   have okd:=Yaq λd hd x hx=>Up g x ((Bi.deeds.call d hd).known x hx);have okm:W.kqdOk 9 (.list ((n.2.2.map (·.2)).map W.Dat.str))=true:=fJ λx hx=>by
    obtain⟨pr,hpr,e⟩:=Yg.mp hx;rw[<- e];exact Up g _ (Bi.made pr hpr)
   refine⟨t,Z,AH.of (s5 _ _ ht),Y,_,Z,_,Z,_,Z,Y,?_⟩;refine⟨Z,p,dx,Z,s5 _ _ h1,gM _ _ _,Z,p,k,rows,ns,n,Y,bk.mono s5,gn.nd,Ak,λyb eV=>?_⟩;obtain⟨dxb,tb,usb,Tu,_⟩:=id eV.ex;refine⟨yb,dxb,Z,Tu,ka _ _ _,yb,k,rows,n.2.1,Z,eV,λld usd Bx hD=>?_⟩;have n9:AB H5 (upd H5 ld (.lst usd)):=AM Bx;have ik:(upd H5 ld (.lst usd)) ld=some (.lst usd):=uS;have eG:=hD.mono n9;generalize upd H5 ld (.lst usd)=H7 at n9 ik eG;have s7:=s5.trans n9;have WB:=s7 _ _ htp;have vg:Cg H7 n.2.2 vs:=hP.mono (A3 s7);refine⟨Z,tp,Y,⟨_,AH.of WB⟩,zQ (X4 H7) WB vg (by omega) (λt' x y H' R VP aJ CA=>⟨Z,t',_,_,Z,Y,AH.of aJ,Y,by rw[jo VP]at CA;exact CA⟩) λlx H8 hlx CG t7=>?_⟩;refine⟨.list ((n.2.2.map (·.1)).map De),.list ((n.2.2.map (·.1)).map De),Z3b (CG _ _ ik) (eG.mono CG),Z3b t7 ((kh vg).mono CG),okd,okd,Z,?_⟩;rw[VD];refine AS ?_;have s8:=s7.trans CG;refine⟨Z,p,dx,Z,s8 _ _ h1,gM _ _ _,Z,p,k,rows,ns,n,Y,bk.mono s8,gn.nd,Ak,λuW wF=>?_⟩;obtain⟨uQ,tb8,usb8,oy,_⟩:=id wF.ex;refine⟨uW,uQ,Z,oy,lF _ _ _,uW,k,rows,n.2.1,Z,wF,Z,Y,Z,?_⟩;rw[Jb (rfl:V.int (n.2.1:Int)=V.int (n.2.1:Int))];refine AS ?_;refine⟨Z,p,dx,Z,s8 _ _ h1,zE _ _ _,Z,p,k,rows,ns,n,Y,bk.mono s8,gn.nd,Ak,λlm hlm=>?_⟩;have XA:AB H8 (upd H8 lm (.lst ((n.2.2.map (·.2)).map V.str))):=AM hlm;have ij:(upd H8 lm (.lst ((n.2.2.map (·.2)).map V.str))) lm=some (.lst ((n.2.2.map (·.2)).map V.str)):=uS;generalize upd H8 lm (.lst ((n.2.2.map (·.2)).map V.str))=H9 at XA ij;have s9:=s8.trans XA;have iS:=s9 _ _ htp;have vf:Cg H9 n.2.2 vs:=hP.mono (A3 s9);refine⟨Z,tp,Y,⟨_,AH.of iS⟩,zQ (ZM H9) iS vf (by omega) (λt' x y H' R VP aJ CA=>⟨Z,t',_,_,Z,Y,AH.of aJ,Y,by rw[qG VP]at CA;exact CA⟩) λly cy hly V_ ZH=>?_⟩;rw[rJ vf]at ZH;refine⟨.list ((n.2.2.map (·.2)).map W.Dat.str),.list ((n.2.2.map (·.2)).map W.Dat.str),.list (SqL.of (V_ _ _ ij)) (Wv _),.list (SqL.of ZH) (Wv _),okm,okm,Z,?_⟩;rw[VD];refine AS ?_;have SQ:=s9.trans V_;refine⟨Z,p,dx,Z,SQ _ _ h1,gM _ _ _,Z,p,k,rows,ns,n,Y,bk.mono SQ,gn.nd,Ak,λiK iy=>?_⟩;obtain⟨jC,tb10,usb10,uJ,_⟩:=id iy.ex;refine⟨iK,jC,Z,uJ,rD _ _ _,iK,k,rows,n.2.1,Z,iy,k,dxk,Z,SQ _ _ LD,qo _ _,k,rows,Y,h2.mono SQ,g,λlr2 H11 hlr2 WO uO=>?_⟩;have u4:=SQ.trans WO;refine⟨Z,.list (rows.map X8),.list (rows.map X8),kQ uO,kQ (Vg hR u4),okr,okr,Z,?_⟩;rw[VD];exact AS ⟨_,_,Z,u4⟩
  ·rintro σ H5 ⟨x3,x4,x5,rfl,s5⟩;exact q H5 s5
theorem Z2u:∀(k:Nat) (d:Dt),C6 k d=true->W.kqdOk k d=true
 | 0,d,h=>by cases h
 | k + 1,d,h=>by
  rcases Zi h with⟨i,rfl,_⟩ | ⟨x,c,cs,rfl,hx,hk⟩
  ·rfl
  ·show(W.Dat.str x :: c :: cs).all (W.kqdOk k)=true;rw[CL];intro e he
   rcases Yv.mp he with z | z
   ·rw[z];cases k <;> exact XU hx
   ·exact Z2u k e (hk e z)
def Z60{rows:RS}{ns:List AI}{m:Nat}(gn:Cf rows ns)(hm:m<=12):∀(j:Nat) (d:Dt),BR ns m j d=true->C6 j d=true:=by
 intro j
 induction j with
 | zero =>
  intro d h;cases h
 | succ j ih =>
  intro d h
  rcases YF h with⟨i,rfl,hi⟩ | ⟨n,hn,ds,rfl,hl,hk⟩
  ·exact Z6k (by omega) (by omega) (by omega)
  ·have g:=gn.each n hn;have h1:=g.one;cases ds with
   | nil =>
    have hl:0=n.2.1:=hl;omega
   | cons c cs =>
    have hj:j≠0:=λz=>by
     have y:=hk c Yy;rw[z]at y;cases y
    exact Z6j (by omega) g.word λe he=>ih e (hk e he)
theorem Z23{ns:List AI}{m:Nat}(nd:(ns.map (·.1)).Nodup):∀(j:Nat) (d:Dt),BR ns m j d=true->BR ns m (j + 1) d=true
 | 0,d,h=>by cases h
 | j + 1,d,h=>by
  rcases YF h with⟨i,rfl,hi⟩ | ⟨n,hn,ds,rfl,hl,hk⟩
  ·exact xO (by omega) (by omega) (by omega)
  ·exact xQ (by omega) nd hn hl λc hc=>Z23 nd j c (hk c hc)
theorem Z24{ns:List AI}{m j:Nat}{d:Dt}(nd:(ns.map (·.1)).Nodup)(h:BR ns m j d=true):∀ k,BR ns m (j + k) d=true
 | 0=>h
 | k + 1=>Z23 nd _ _ (Z24 nd h k)
def Ybo{n:Nat}(h:n<=3):c3 n<=40:=(by decide:∀ m:_root_.Fin 4,c3 m.val<=40) ⟨n,Nat.lt_succ_of_le h⟩
structure Ybr(mg:Str->OU):Prop where
 list:mg "list"=none
 tuple:mg "tuple"=none
 len:mg "len"=none
 range:mg "range"=none
 min:mg "min"=none
 max:mg "max"=none
def Z79:(["j","words","pot"]:LS).Nodup:=by rfl'
abbrev sv:LS:=["script","rows","words","above","names","book","text","second","k","pot","filling","term","due"]
def Z68:AX sv ["script"] (AJ ef):=by nofun
set_option maxHeartbeats 16000000 in
def Z7w(F:Def K mg "law" ef ["script"] f fd)(T:Ybr mg)
  (M:Mk K C fI) (mgC:mg "Kinds"=some (.ref C)) (bI:Cb K fdI ["self","rows"] []) (GI:⋯ 4 fI fdI ["self","rows"] (ff K C))
  (MD:Mk K D fKI) (mgD:mg "Book"=some (.ref D)) (bD:Cb K fdKI ah []) (GD:⋯ 6 fKI fdKI ah (kC K C B D))
  (DP:Def K mg "_law_pot" lI ["script","k"] fP fdP) (GP:⋯ 1 fP fdP ["script","k"] (Z6w K)) (DT:Def K mg "_law_take" V3 ["pot","many"] fT fdT) (GT:⋯ 1 fT fdT ["pot","many"] YC)
  (DR:Def K mg "_law_rows" cG ["pot","most"] fR fdR) (GR:⋯ 4 fR fdR ["pot","most"] xY) (DA:Def K mg "_law_above" gZ ["rows"] fA fdA) (GA:⋯ 1 fA fdA ["rows"] qx)
  (DN:Def K mg "_law_names" cE ["pot","rows"] fN fdN) (GN:⋯ 3 fN fdN ["pot","rows"] Z6x) (DW:Def K mg "_law_written" mL ["rows","names"] fW fdW) (GW:⋯ 1 fW fdW ["rows","names"] Yb1)
  (DTm:Def K mg "_law_term" gh dI fTm fdTm) (GTm:⋯ 5 fTm fdTm dI (Yb5 3)) (DTw:Def K mg "_law_term_written" gr ["term"] fTw fdTw) (GTw:⋯ 13 fTw fdTw ["term"] (Yb2 12))
  (DCo:Def K mg "_law_comes" cC dJ fCo fdCo) (GCo:⋯ 16 fCo fdCo dJ (Z6v K 12)) (DSm:Def K mg "_law_same" Zv gs fSm fdSm) (GSm:⋯ 3 fSm fdSm gs (Z6t C B D))
  (DRu:Def K mg "run" mZ ["book","filling","term"] fRu fdRu) (GRu:⋯ 23 fRu fdRu ["book","filling","term"] (Z6u K C B D))
  (DTT:Def K mg "term_text" gj ["term"] fTT fdTT) (GTT:⋯ 14 fTT fdTT ["term"] (Z6y 12)) (DRT:Def K mg "read_term" lQ ["text"] fRT fdRT) (GRT:⋯ 15 fRT fdRT ["text"] Yb6)
  (DBT:Def K mg "book_text" lM ["book"] fBT fdBT) (GBT:⋯ 4 fBT fdBT ["book"] (xT C B D)) (DB:Def K mg "read_book" lP ["text"] fB fdB) (GB:⋯ 8 fB fdB ["text"] (Yb8 C B D)):
  ⋯ 24 f fd ["script"] (mf K):=by
 nomatch F.fn.ok Z68
 ·obtain⟨a,ns,rfl,_⟩:=h;rfl
 ·obtain⟨a,ns,rfl,hS,hlen,q⟩:=h;have nd:=Z68.nd;have hu:=hr.units;have AZ:Af 1 _:=hr.mono (by decide);have Uh:Af 3 _:=hr.mono (by decide);have dY:Af 4 _:=hr.mono (by decide);have Xx:Af 5 _:=hr.mono (by decide);have Dl:Af 7 _:=hr.mono (by decide);have hr8:Af 8 _:=hr.mono (by decide);have tY:Af 13 _:=hr.mono (by decide);have iV:Af 14 _:=hr.mono (by decide);have tX:Af 15 _:=hr.mono (by decide);have tW:Af 16 _:=hr.mono (by decide)
  ac_nf
  refine'⟨_,(pS (sE 1 nd (AL DR GR dY (pC (AL DP GP AZ (pC (pv 0) (pC AE AA))) (pC AE AA))))
   (pS (Sl (i:=2) nd rfl (Or.inr rfl) ?e1)
   (pS (sE 3 nd (AL DA GA AZ (pC (pv 1) AA)))
   (pS (sE 4 nd (AL DN GN Uh (pC (AL DP GP AZ (pC (pv 0) (pC AE AA))) (pC (pv 1) AA))))
   (pS (sE 5 nd (gA MD GD Dl rfl mgD bD .nil BA (pC (gA M GI Xx rfl mgC bI .nil BA (pC (pv 1) AA)) (pC (Co cB (by rfl) T.list W2 (pC (pv 4) AA)) AA))))
   (pS (sE 6 nd (AL DW GW AZ (pC (pv 1) (pC (pv 4) AA))))
   (pS (AY (Ag U6 (AL DBT GBT dY (pC (pv 5) AA)) (pv 6) (Ab _)) (AG (AO Cj)) Aa)
   (pS (sE 7 nd (AL DB GB hr8 (pC (pv 6) AA)))
   (pS (AY (PW.pt (C2 (CO (Bo (AL DSm GSm Uh (pC (pv 5) (pC (pv 1) (pC (pv 4) AA)))))) (C2 (CO (Bo (AL DSm GSm Uh (pC (pv 7) (pC (pv 1) (pC (pv 4) AA)))))) (T6 (Ag U6 (AL DBT GBT dY (pC (pv 7) AA)) (pv 6) (Ab _)))))) (AG (AO Cj)) Aa)
   (pS (BM Yw rfl (Zxg (by rfl) T.range (pC AE (pC (Aq (Zzo rfl) (by rfl) T.max PyProof.Rows.boot_max (pC AE (pC (Aq (Zzn rfl) (by rfl) T.min PyProof.Rows.boot_min (pC (Aq Cn (by rfl) T.len BI (pC (pv 0) AA)) (pC AE AA))) AA))) AA))) (gE 8 nd)
    (pS (Sl (i:=9) nd rfl (Or.inr rfl) (AL DP GP AZ (pC (pv 0) (pC (pv 8) AA))))
   (pS ?e2
   (pS (sE 11 nd (AL DTm GTm Xx (pC (pv 9) (pC (pv 4) (pC (Aq Cn (by rfl) T.len BI (pC (pv 10) AA)) (pC (AU C_ AE (AL DT GT AZ (pC (pv 9) (pC AE AA)))) AA))))))
   (pS (AY (PW.pt (C2 (Ag U6 (AL DTT GTT iV (pC (pv 11) AA)) (AL DTw GTw tY (pC (pv 11) AA)) (Ab _)) (T6 (Ag (Z7p hu) (AL DRT GRT tX (pC (AL DTT GTT iV (pC (pv 11) AA)) AA)) (pv 11) (Ab _))))) (AG (AO Cj)) Aa)
   (pS (sE 12 nd (AL DCo GCo tW (pC (pv 3) (pC (pv 4) (pC (pv 10) (pC (pv 11) (pC (Bf AA) AA)))))))
   (AG (AY (PW.pt (C2 (Ag (Vx hu) (AL DRu GRu hr (pC (pv 5) (pC (Co cB (by rfl) T.list W2 (pC (pv 10) AA)) (pC (pv 11) AA)))) (pv 12) (Ab _)) (T6 (Ag (Vx hu) (AL DRu GRu hr (pC (pv 7) (pC (Co (r:=Z7c K) V1 (by rfl) T.tuple Ur (pC (pv 10) AA)) (pC (pv 11) AA)))) (pv 12) (Ab _))))) (AG (AO Cj)) Aa))))))))
   (AG (AO (AL DSm GSm Uh (pC (pv 5) (pC (pv 1) (pC (pv 4) AA)))))))))))))))),?_⟩
  case e1=>exact(Bm ["row"] [] [] (λ_=>BH (osc:=AJ ef) (on:=sv) (by rfl') rfl rfl rfl) (CD (pv 1)) (λC s H fp=>BN (i:=0) qQ rfl (Or.inl rfl) (Or.inr rfl)) (λC s H fp=>Bn) (λC s H fp=>AV (r:=BQ K) BW (pv 0) AE (λ_ _=>rfl)))
  case e2=>exact(Zw (k:=10) ["j"] ["words","pot"] [2,9] nd rfl rfl (λ_=>BH (osc:=AJ ef) (on:=sv) (by rfl') rfl rfl rfl) (Vf (by rfl) T.range (pC (AU C_ AE (AL DT GT AZ (pC (pv 9) (pC AE AA)))) AA)) (λC s H fp=>BN (i:=0) Z79 rfl (Or.inl rfl) (Or.inr rfl)) (λC s H fp=>Bn)
    (λC s H fp=>AV (r:=Bl K) A2 (pv 1) (AL DT GT AZ (pC (pv 2) (pC (Aq (r:=sN K) Cn (by rfl) T.len BI (pC (pv 1) AA)) AA))) (λ_ _=>rfl)))
  exists let b:=_;let c:=AF _ b;let e:=AF _ c;let f:=AF _ e;let g:=AF _ f;let h:=AF _ g;let i:=AF (BS _ _ h) a;let j:=AF _ i;let k:=AF _ j;let l:=AF _ k;let m:=AF _ l;let n:=AF _ m;let o:=AF _ n;let p:=AF _ o;let q:=AF _ p;AF _ q _ _ _
  refine⟨Z,a,0,ns,Y,hS,W,V,V,λp o hp ho=>?_⟩;have s1:AB H (upd H p o):=AM hp;have LA:(upd H p o) p=some o:=uS;generalize upd H p o=H1 at s1 LA;refine⟨p,6,Y,⟨o,LA,ho⟩,V,V,λl rows H2 pY hl WZ g _=>?_⟩;have Cv:AB H H2:=λb u e=>pY.keep _ _ (AK e hp) (s1 _ _ e);have gle:=g.le;obtain⟨jH,VL,_⟩:=id WZ;refine⟨Z,l,Y,⟨_,SqL.of VL⟩,rV WZ (by omega) (λt u x H' R ht hRx=>⟨Z,t,_,_,Z,Y,AH.of ht,Y,hRx⟩) λlw H3 hlw A9 aq=>?_⟩;have wne:rows.map (·.1)≠[]:=yd g;have wpos:0<(rows.map (·.1)).length:=Wz.mpr wne;have wl:(rows.map (·.1)).length<=24:=by rw[Ya];exact gle
  have Ue:=Cv.trans A9;have X2:=Vg WZ A9;refine⟨Z,l,rows,Y,X2,g,λaa AR H4 Ai Bd hA=>?_⟩;have Tt:=Ue.trans Ai;have pA:=Vg X2 Ai;refine⟨Z,a,1,ns,Y,Tt.seq hS,W,V,V,λp2 o2 SV C8=>?_⟩;have As:AB H4 (upd H4 p2 o2):=AM SV;have UI:(upd H4 p2 o2) p2=some o2:=uS;generalize upd H4 p2 o2=H5 at As UI;have lp2:l≠p2:=by
   obtain⟨vs,hvs,_⟩:=pA;exact AK hvs SV
  refine⟨Z,p2,l,rows,Y,⟨o2,UI,C8⟩,Vg pA As,g,lp2,λln Ay us H6 Zb A8 aO pB gn nl n3=>?_⟩;have Vm:AB H4 H6:=λb u e=>Zb.keep _ _ (AK e SV) (As _ _ e);have oG:=Tt.trans Vm;have bE:=Vg pA Vm;have vN:=Vm _ _ (Ai _ _ aq);have uN:=Vm _ _ Bd;have hA6:=hA.mono (λ_ _ e=>Vm _ _ e);refine⟨Z,?_⟩;intro xb dxb nx ndx nex;refine Z1v nx ndx bE g λH7 UH kd7=>?_;refine⟨Z,ln,us,Y,.inl (SqL.of (UH _ _ aO)),λl2 Ap=>?_⟩;have CG:AB H7 (upd H7 l2 (.lst us)):=AM Ap;have ir:(upd H7 l2 (.lst us)) l2=some (.lst us):=uS;generalize upd H7 l2 (.lst us)=H8 at CG ir;have dA:=UH.trans CG;intro pb db nb ndb neb;refine yf nb ndb (kd7.mono CG) g ⟨true,us,SqL.of ir,Paired.mapP (pB.mono (A3 dA)) λn v h=>h.v⟩ gn λH9 XA bkz=>?_;have bk:=bkz.at_;have jN:=dA.trans XA;refine⟨Z,Z,l,ln,rows,Ay,us,Y,Vg bE jN,g,jN _ _ aO,pB.mono (A3 jN),gn,λcy V_=>?_⟩;refine⟨Z,pb,xb,rows,Ay,Y,bk.mono V_,g,gn,λH11 WO=>⟨Z,Y,Z,?_⟩⟩;rw[Jb rfl];refine AS ?_;have tL:=V_.trans WO;refine⟨Z,_,rows,Ay,_,Z,Z5x g gn,g,gn,λH12 qb k i9 _ bqz=>?_⟩;have bq:=bqz.at_;have iM:=tL.trans i9;have Ua:=jN.trans iM;have aU:=Vg bE Ua;have Dj:=Ua _ _ aO;have WJ:=pB.mono (A3 Ua);have iP:=Ua _ _ vN;have jB:=Ua _ _ uN;have uP:=hA6.mono (λ_ _ e=>Ua _ _ e);have aW:=bk.mono iM;refine⟨Z,Z,Z,pb,xb,l,ln,rows,Ay,us,Y,aW,g,gn,aU,Dj,WJ,λH13 XC=>⟨Z,AS ?_⟩⟩;refine⟨Z,Z,Z,qb,k,l,ln,rows,Ay,us,Y,bq.mono XC,g,gn,Vg aU XC,XC _ _ Dj,WJ.mono (A3 XC),λH14 i8=>⟨Z,AS ?_⟩⟩;have u3:=XC.trans i8;refine⟨Z,qb,k,rows,Ay,Y,bq.mono u3,g,gn,λH15 i7=>⟨Z,Y,Z,?_⟩⟩;rw[Jb rfl];refine AS ?_;have u0:=u3.trans i7;have rg:∀ m:_root_.Fin 64,(3:Int)<=(if(if(40:Int)<(m.val:Int)then(40:Int)else(m.val:Int)) > 3 then(if(40:Int)<(m.val:Int)then(40:Int)else(m.val:Int))else 3)/\(if(if(40:Int)<(m.val:Int)then(40:Int)else(m.val:Int)) > 3 then(if(40:Int)<(m.val:Int)then(40:Int)else(m.val:Int))else 3)<=40:=by rfl'
  obtain⟨rg0,rg1⟩:=rg ⟨(ns.map V.int).length,by rw[Ya];omega⟩;dsimp only at rg0 rg1;have iO:=oG.trans Ua;let Au:NW:=λi σ H'=>∃ x8 x9 nh ng nZ:OV,σ=[some (.ref a),some (.ref l),some (.ref lw),some (.ref aa),some (.ref ln),some (.ref pb),some (.str (Builtin.Str.glued "\n" (U9 rows Ay))),some (.ref qb),x8,x9,nh,ng,nZ]/\AB H12 H';refine⟨Z,a,Z,.inl ((iO.trans u0).seq hS),_,Z,_,Z,_,Z,⟨V,V,W,W⟩,Bz VE Au
   ⟨none,none,none,none,none,Y,u0⟩ (λ_ _ _ _ _=>trivial) ?_ ?_⟩
  ·rintro i v' σ iJ hi ⟨x8,x9,nh,ng,nZ,rfl,WR⟩;obtain⟨WY,rfl⟩:=Dw hi;refine⟨Z,Z,a,_,ns,Y,(iO.trans WR).seq hS,W,W,W,λpk ok hpk hok=>?_⟩;have iN:AB iJ (upd iJ pk ok):=AM hpk;have ZG:(upd iJ pk ok) pk=some ok:=uS;generalize upd iJ pk ok=iI at iN ZG;have up:∀ {H':Hp},Drawn pk iI H'->AB H12 H':=λ{H'} d b u e=>d.keep _ _ (AK (WR _ _ e) hpk) (iN _ _ (WR _ _ e));have lwp:lw≠pk:=AK (WR _ _ iP) hpk;refine⟨Z,pk,4,ok,Y,ZG,hok,V,V,λmv dP Xz U2 ie=>⟨_,Z,Y,Z,W,W,?_⟩⟩;have pX:Drawn pk iI (upd iI pk dP):=Drawn.upd ie;have aL:(upd iI pk dP) pk=some dP:=uS;generalize upd iI pk dP=H18 at pX aL ⊢;let D0:Addr->Nat->LV->St->Hp->Prop:=λD i ys σ' H'=>Drawn pk H18 H'/\H' D=some (.lst ys)/\∃(bs:LS) (o:OV),ys=bs.map V.str/\bs.length=i/\(∀ x∈bs,x∈rows.map (·.1))/\σ'=[o,some (.ref lw),some (.ref pk)];refine VC VE (by rw[Cq];exact sL (by omega)) D0
    (λD hD=>⟨(Drawn.refl ⟨dP,aL,ie⟩).new hD,uS,[],none,Y,Y,(λx h=>nomatch h),Y⟩) (λD i ys σ' H' _ h0=>by obtain⟨_,_,bs,_,e,el,_⟩:=h0;exact⟨trivial,by rw[e,Ya];omega⟩) ?_ ?_
   ·rintro D i v ys σ' H' hD hi ⟨d,hl,bs,o,rfl,rfl,hb,rfl⟩;obtain⟨hi,rfl⟩:=Dw hi;obtain⟨o1,hpp,hoo⟩:=d.pot;have WS:=up (pX.trans d) _ _ iP;have pD:pk≠D:=AK aL hD;refine⟨Z,Z,Z,lw,Z,.inl (SqL.of WS),pk,_,o1,Y,hpp,hoo,by rw[Ya];omega,by rw[Ya];omega,λv o2 Dk C7 C8=>?_⟩;obtain⟨x,hxm,hat⟩:=gQ Dk C7;have d2:Drawn pk H' (upd H' pk o2):=Drawn.upd C8;refine⟨lw,_,_,Z,Y,SqL.of (d2.keep _ _ lwp WS),hat,d2.keep _ _ (Ae pD) hl,(d.trans d2).sub (o':=.lst []) (q:=D) (λb o hb e=>by rw[AD hb];exact e) hD pD,uS,bs++[x],_,by rw[Ys];rfl,by simp,λy hy=>?_,Y⟩
    rcases Yo.mp hy with z | z
    ·exact hb y z
    ·rw[Yh.mp z];exact hxm
   rintro lf ys σ' nV hlf ⟨jD,aR,xs,o,rfl,xl,kx,rfl⟩;rw[Cq]at xl;have x1:1<=xs.length:=by omega
   have x4:xs.length<=4:=by omega
   clear xl;have pW:=pX.trans jD;obtain⟨o19,ia,ic⟩:=id pW.pot;have fpk:lf≠pk:=Ae (bY ia ic aR);have s19:=up pW;refine⟨Z,Z,Z,lf,Z,.inl (SqL.of aR),Z,pk,3,o19,Y,ia,ic,V,V,λdv dO hd0 hd1 ib=>⟨_,Z,Y,?_⟩⟩;have WQ:Drawn pk nV (upd nV pk dO):=Drawn.upd ib;have iZ:(upd nV pk dO) pk=some dO:=uS;generalize upd nV pk dO=H20 at WQ iZ ⊢;have wA:=pW.trans WQ;have uz:=up wA;obtain⟨dn,rfl⟩:∃ dn:Nat,dv=dn:=⟨dv.toNat,W⟩;refine⟨pk,ln,xs.length,1 + dn,rows,Ay,us,by show[V.ref pk,V.ref ln,V.int ((xs.map V.str).length:Int),V.int ((1:Int) + (dn:Int))]=_;rw[Ya,show(1:Int) + (dn:Int)=((1 + dn:Nat):Int) by omega],W,⟨dO,iZ,ib⟩,AK (WR _ _ Dj) hpk,uz _ _ Dj,WJ.mono (A3 uz),g,gn,n3,x1,W,λv d H21 ZI hv dr cn sd=>?_⟩;have d21:=wA.trans ZI;have jO:=up d21;have aQ:=ZI.keep _ _ fpk (WQ.keep _ _ fpk aR);have bM:=Ybo (n:=1 + dn) (by omega);have Xr:∀ k,A0 k [d]<=40:=λk=>B0 (cn k) bM;have pZ:A0 12 [d]<=60:=by have:=Xr 12;omega
   have sd:BR Ay xs.length 12 d=true:=by
    have z:=Z24 gn.nd sd (12 - (1 + dn + 1));rw[show 1 + dn + 1 + (12 - (1 + dn + 1))=12 by omega]at z;exact z
   have wf:Wf d:=Z8y dr;have lz:∀ i,(lvl i [d]).length<=1000:=λi=>by have:=wo i [d];have:=Xr (i + 1);omega
   have tt:X9 Ay xs.length d=true:=Zv2 sd Xr;have tk:=Z60 gn (by omega) 12 d sd;refine⟨Z,d,v,Y,hv,tk,pZ,λuZ H22 uy htx=>?_⟩;refine⟨Z,Ay,xs.length,d,v,Y,hv.keep (A3 uy),sd,W,tk,pZ,λuY H23 i6 tR=>⟨Y,Z,?_⟩⟩;have et:uY=uZ:=by
    cases uY;cases uZ;exact congrArg Str.mk (Array.toList_inj.mp (tR.trans htx.symm))
   rw[et,Jb rfl];refine AS ?_;have A9:=uy.trans i6;refine⟨Z,d,v,Y,hv.keep (A3 A9),tk,pZ,λtx2 H24 i4 tQ=>?_⟩;have s24:=A9.trans i4;refine⟨tx2,d,Y,tQ,tk,Xr,λv2 nT i3 dU=>?_⟩;have ux:=s24.trans i3;have lay:=W.kqd_lay 12 d (Z2u 12 d tk);refine⟨Z,d,d,dU.rep,(hv.keep (A3 ux)).rep,lay.1,lay.1,by have:=lay.2;omega,Z,?_⟩;rw[PySem.SeqAt.eqv_refl _ lay.1];refine AS ?_;refine⟨Z,Z,Z,Z,Ax _,λts hts=>?_⟩;have ZC:AB nT (upd nT ts (.tup [])):=AM hts;have eR:(upd nT ts (.tup [])) ts=some (.tup []):=uS;generalize upd nT ts (.tup [])=H26 at ZC eR;have XB:=ux.trans ZC;have Uv:=jO.trans XB;refine⟨aa,ln,lf,ts,rows,AR,Ay,us,true,xs,d,v,[],Y,g,Uv _ _ jB,uP.mono (λ_ _ e=>Uv _ _ e),Uv _ _ Dj,WJ.mono (A3 Uv),gn,SqL.of (XB _ _ aQ),kx,hv.keep (A3 XB),sd,eR,V,λad nR i0 rd=>?_⟩;have uw:=XB.trans i0;have rg:nG rows (Ci rows Ay xs 12 d []):=yR gn kx 12 d sd [] (by decide);have okq:=Yap g rg;refine⟨Z,Z,lf,Z,.inl (SqL.of (uw _ _ aQ)),λl3 LB=>?_⟩;have WN:AB nR (upd nR l3 (.lst (xs.map V.str))):=AM LB;have vp:(upd nR l3 (.lst (xs.map V.str))) l3=some (.lst (xs.map V.str)):=uS;generalize upd nR l3 (.lst (xs.map V.str))=H28 at WN vp;have oC:=uw.trans WN;refine⟨Z,pb,xb,l3,rows,Ay,true,xs,d,v,Y,aW.mono (jO.trans oC),g,gn,SqL.of vp,W,kx,hv.keep (A3 oC),wf,lz,tt,λa1 nQ Y_ r1=>?_⟩;have ZA:=WN.trans Y_;have uu:=oC.trans Y_;refine⟨Z,af _,af _,r1.rep,(rd.keep (A3 ZA)).rep,okq,okq,Z,?_⟩;rw[VD];refine AS ?_;refine⟨Z,Z,lf,Z,.inl ⟨SqL.of (uu _ _ aQ),λt4 ht4=>?_⟩⟩;have WM:AB nQ (upd nQ t4 (.tup (xs.map V.str))):=AM ht4;have vo:(upd nQ t4 (.tup (xs.map V.str))) t4=some (.tup (xs.map V.str)):=uS;generalize upd nQ t4 (.tup (xs.map V.str))=H30 at WM vo;have n_:=uu.trans WM;refine⟨Z,qb,k,t4,rows,Ay,false,xs,d,v,Y,bq.mono (jO.trans n_),g,gn,AH.of vo,W,kx,hv.keep (A3 n_),wf,lz,tt,λa2 H31 Y9 r2=>?_⟩;have iz:=(ZA.trans WM).trans Y9;refine⟨Z,af _,af _,r2.rep,(rd.keep (A3 iz)).rep,okq,okq,Z,?_⟩;rw[VD];exact AS ⟨_,_,_,_,Z,jO.trans (n_.trans Y9)⟩
  ·rintro σ iJ ⟨x8,x9,nh,ng,nZ,rfl,WR⟩;exact⟨Z,Z,Z,pb,xb,l,ln,rows,Ay,us,Y,aW.mono WR,g,gn,Vg aU WR,WR _ _ Dj,WJ.mono (A3 WR),λH' _=>q H'⟩
end aI
namespace aI
open PySem L2
variable {P:Program}{w:World}{K:Fg}{mg:Str->OU}{base:Heap}
def md{K:Fg}{m q:Str}{st:Stmt}{ps:LS}(T:Mp K C m q st f fd)(b:Cb K fd ps []):Sb K C m q st ps f fd:=⟨T.fn,b,T.a,T.i,T.fn.kp⟩
def tq:=@tp
set_option maxHeartbeats 4000000 in
def all_mk{l:W.OpenLaw}{w:World}{K:Fg}{h:Heap}{mg:Str->OU}(X:K.In h)(G:h.Ns mainGlobals mg)(hfa:mg "law"=some (.ref fa))
  {T_LETTERS T_MOST_LETTERS T_MOST_KINDS T_MOST_UPS T_MOST_PLACES T_MOST_DEEDS T_MOST_NAMES T_MOST_THINGS T_MOST_PARTS T_MOST_DEEP T_DIGITS:Tok}
  (TC:Cp K "Kinds" C)
  (TB:Cp K "Board" B)
  (TD:Cp K "Book" D)
  (T_mI:Mp K C "__init__" "Kinds.__init__" rm f_mI d_mI)
  (T_mH:Mp K C "has" "Kinds.has" lJ f_mH d_mH)
  (T_mC:Mp K C "check" "Kinds.check" cM f_mC d_mC)
  (T_mUn:Mp K C "under" "Kinds.under" mB f_mUn d_mUn)
  (T_mR:Mp K C "rows" "Kinds.rows" gY f_mR d_mR)
  (T_bI:Mp K B "__init__" "Board.__init__" rl f_bI d_bI)
  (T_bK:Mp K B "kinds" "Board.kinds" l_ f_bK d_bK)
  (T_bP:Mp K B "places" "Board.places" mI f_bP d_bP)
  (T_bD:Mp K B "deeds" "Board.deeds" l9 f_bD d_bD)
  (T_kI:Mp K D "__init__" "Book.__init__" gq f_kI d_kI)
  (T_kC:Mp K D "check_name" "Book.check_name" mM f_kC d_kC)
  (T_kK:Mp K D "kinds" "Book.kinds" lW f_kK d_kK)
  (T_kW:Mp K D "words" "Book.words" lZ f_kW d_kW)
  (T_kB:Mp K D "board" "Book.board" lV f_kB d_kB)
  (T_kM:Mp K D "makes" "Book.makes" lX f_kM d_kM)
  (T_kN:Mp K D "names" "Book.names" lY f_kN d_kN)
  (T_w:Tp K "is_word" Ww f_w d_w)
  (T_cr:Tp K "check_rows" lj f_cr d_cr)
  (T_cu:Tp K "check_ups" lN f_cu d_cu)
  (T_fa:Tp K "first_among" cN f_fa d_fa)
  (T_en:Tp K "endless" b9 f_en d_en)
  (T_fr:Tp K "find_ring" lO f_fr d_fr)
  (T_aa:Tp K "all_above" lL f_aa d_aa)
  (T_P:Tp K "_law_pot" lI f_P d_P)
  (T_T:Tp K "_law_take" V3 f_T d_T)
  (T_Le:Tp K "_law_letters" cJ f_Le d_Le)
  (T_W:Tp K "_law_word" VF f_W d_W)
  (T_Ws:Tp K "_law_words" la f_Ws d_Ws)
  (T_U:Tp K "_law_ups" Zx f_U d_U)
  (T_R:Tp K "_law_rows" cG f_R d_R)
  (T_A:Tp K "_law_above" gZ f_A d_A)
  (T_ic:Tp K "is_call" YR f_ic d_ic)
  (T_cd:Tp K "check_deeds" mC f_cd d_cd)
  (T_cc:Tp K "check_call" lg f_cc d_cc)
  (T_wi:Tp K "within" bw f_wi d_wi)
  (T_fi:Tp K "fitting" gP f_fi d_fi)
  (T_de:Tp K "_law_deeds" cD f_de d_de)
  (T_lw:Tp K "_law_within" gm f_lw d_lw)
  (T_nw:Tp K "nearest_with" cL f_nw d_nw)
  (T_na:Tp K "nearest_among" mK f_na d_na)
  (T_ne:Tp K "nearest" kf f_ne d_ne)
  (T_to:Tp K "told_of" kg f_to d_to)
  (T_td:Tp K "told" jx f_td d_td)
  (T_ln:Tp K "_law_nearest" cK f_ln d_ln)
  (T_ns:Tp K "_law_names" cE f_ns d_ns)
  (T_cm:Tp K "check_makes" mD f_cm d_cm)
  (T_isn:Tp K "is_number" cA f_isn d_isn)
  (T_po:Tp K "parts_of" k7 f_po d_po)
  (T_sm:Tp K "is_small" gS f_sm d_sm)
  (T_hn:Tp K "has_name" ky f_hn d_hn)
  (T_is:Tp K "is_sound" gW f_is d_is)
  (T_cf:Tp K "check_filling" mJ f_cf d_cf)
  (T_it:Tp K "is_term" ko f_it d_it)
  (T_ckt:Tp K "check_term" l7 f_ckt d_ckt)
  (T_rc:Tp K "run_call" k_ f_rc d_rc)
  (T_rp:Tp K "run_part" lA f_rp d_rp)
  (T_run:Tp K "run" mZ f_run d_run)
  (T_arw:Tp K "are_words" cH f_arw d_arw)
  (T_fkr:Tp K "is_kind_row" mG f_fkr d_fkr)
  (T_fnr:Tp K "is_name_row" mH f_fnr d_fnr)
  (T_fdr:Tp K "is_deed_row" mF f_fdr d_fdr)
  (T_kof:Tp K "kind_of" kq f_kof d_kof)
  (T_nof:Tp K "name_of" kr f_nof d_nof)
  (T_dof:Tp K "deed_of" km f_dof d_dof)
  (T_fnm:Tp K "first_named" mE f_fnm d_fnm)
  (T_tkd:Tp K "take_deed" lR f_tkd d_tkd)
  (T_tkr:Tp K "take_row" lB f_tkr d_tkr)
  (T_rdb:Tp K "read_book" lP f_rdb d_rdb)
  (T_kr:Tp K "kind_row" kz f_kr d_kr)
  (T_dr:Tp K "deed_row" ku f_dr d_dr)
  (T_br:Tp K "book_rows" cI f_br d_br)
  (T_bt:Tp K "book_text" lM f_bt d_bt)
  (T_tt:Tp K "term_text" gj f_tt d_tt)
  (T_fg:Tp K "is_figures" gg f_fg d_fg)
  (T_spl:Tp K "split_parts" cO f_spl d_spl)
  (T_rdp:Tp K "read_part" gi f_rdp d_rdp)
  (T_rdt:Tp K "read_term" lQ f_rdt d_rdt)
  (T_tm:Tp K "_law_term" gh f_tm d_tm)
  (T_wrt:Tp K "_law_written" mL f_wrt d_wrt)
  (T_tw:Tp K "_law_term_written" gr f_tw d_tw)
  (T_lto:Tp K "_law_told" lK f_lto d_lto)
  (T_co:Tp K "_law_comes" cC f_co d_co)
  (T_sme:Tp K "_law_same" Zv f_sme d_sme)
  (T_L:Tp K "law" ef f_L d_L)
  (n_ups_of:W.findIn K (.ref C) "ups_of"=some none)
  (n_above_of:W.findIn K (.ref C) "above_of"=some none)
  (n_book_B:W.findIn K (.ref B) "book"=some none)
  (n_width_B:W.findIn K (.ref B) "width"=some none)
  (n_stands_B:W.findIn K (.ref B) "stands"=some none)
  (n_has_B:W.findIn K (.ref B) "has"=some none)
  (n_book_D:W.findIn K (.ref D) "book"=some none)
  (n_board_of_D:W.findIn K (.ref D) "board_of"=some none)
  (n_made_of_D:W.findIn K (.ref D) "made_of"=some none)
  (n_has_D:W.findIn K (.ref D) "has"=some none)
  (n_deeds_D:W.findIn K (.ref D) "deeds"=some none)
  (g_FG:W.nsIn K mainGlobals "FIGURES"=some (some (.ref FG)))
  (l_FG:K.lookup FG=some {cls:=.type "tuple",dict:=dd_FG,data:=.seq #[.str "1" t1_FG,.str "2" t2_FG,.str "3" t3_FG,.str "4" t4_FG] n_FG,slots:=sl_FG})
  (g_LETTERS:W.nsIn K mainGlobals "LETTERS"=some (some (.str Md.letters T_LETTERS)))
  (g_MOST_LETTERS:W.nsIn K mainGlobals "MOST_LETTERS"=some (some (.int 8 T_MOST_LETTERS)))
  (g_MOST_KINDS:W.nsIn K mainGlobals "MOST_KINDS"=some (some (.int 24 T_MOST_KINDS)))
  (g_MOST_UPS:W.nsIn K mainGlobals "MOST_UPS"=some (some (.int 8 T_MOST_UPS)))
  (g_MOST_PLACES:W.nsIn K mainGlobals "MOST_PLACES"=some (some (.int 4 T_MOST_PLACES)))
  (g_MOST_DEEDS:W.nsIn K mainGlobals "MOST_DEEDS"=some (some (.int 64 T_MOST_DEEDS)))
  (g_MOST_NAMES:W.nsIn K mainGlobals "MOST_NAMES"=some (some (.int 8 T_MOST_NAMES)))
  (g_MOST_THINGS:W.nsIn K mainGlobals "MOST_THINGS"=some (some (.int 12 T_MOST_THINGS)))
  (g_MOST_PARTS:W.nsIn K mainGlobals "MOST_PARTS"=some (some (.int 40 T_MOST_PARTS)))
  (g_MOST_DEEP:W.nsIn K mainGlobals "MOST_DEEP"=some (some (.int 12 T_MOST_DEEP)))
  (g_DIGITS:W.nsIn K mainGlobals "DIGITS"=some (some (.str Md.figures T_DIGITS)))
  (z_len:W.nsIn K mainGlobals "len"=some none)
  (z_all:W.nsIn K mainGlobals "all"=some none)
  (z_any:W.nsIn K mainGlobals "any"=some none)
  (z_list:W.nsIn K mainGlobals "list"=some none)
  (z_tuple:W.nsIn K mainGlobals "tuple"=some none)
  (z_range:W.nsIn K mainGlobals "range"=some none)
  (z_int:W.nsIn K mainGlobals "int"=some none)
  (z_bool:W.nsIn K mainGlobals "bool"=some none)
  (z_str:W.nsIn K mainGlobals "str"=some none)
  (z_isinstance:W.nsIn K mainGlobals "isinstance"=some none)
  (z_enumerate:W.nsIn K mainGlobals "enumerate"=some none)
  (z_zip:W.nsIn K mainGlobals "zip"=some none)
  (z_min:W.nsIn K mainGlobals "min"=some none)
  (z_max:W.nsIn K mainGlobals "max"=some none)
  : ∃ fd:FuncData,(∀(s:Shared) (v:Value),BindsTo s fd ⟨[v],[]⟩ [("script",v)])/\∀ base:Heap,K.In base->base.Ns mainGlobals mg->Uq l.prog w K mg base Y7 24 fa fd ["script"] (mf K):=by
 have e:=hfa.symm.trans (W.mg_of X G T_L.a);cases e;obtain⟨_,_,_,_,_,_,rfl⟩:=Tp.ex T_L.fn;have mgC_LETTERS:=W.mg_of X G g_LETTERS;have mgC_MOST_LETTERS:=W.mg_of X G g_MOST_LETTERS;have mgC_MOST_KINDS:=W.mg_of X G g_MOST_KINDS;have mgC_MOST_UPS:=W.mg_of X G g_MOST_UPS;have mgC_MOST_PLACES:=W.mg_of X G g_MOST_PLACES;have mgC_MOST_DEEDS:=W.mg_of X G g_MOST_DEEDS;have mgC_MOST_NAMES:=W.mg_of X G g_MOST_NAMES;have mgC_MOST_THINGS:=W.mg_of X G g_MOST_THINGS;have mgC_MOST_PARTS:=W.mg_of X G g_MOST_PARTS;have mgC_MOST_DEEP:=W.mg_of X G g_MOST_DEEP;have mgC_DIGITS:=W.mg_of X G g_DIGITS;have mgN_len:=W.mg_none_of X G z_len;have mgN_all:=W.mg_none_of X G z_all;have mgN_any:=W.mg_none_of X G z_any;have mgN_list:=W.mg_none_of X G z_list;have mgN_tuple:=W.mg_none_of X G z_tuple;have mgN_range:=W.mg_none_of X G z_range;have mgN_int:=W.mg_none_of X G z_int;have mgN_bool:=W.mg_none_of X G z_bool;have mgN_str:=W.mg_none_of X G z_str;have mgN_isinstance:=W.mg_none_of X G z_isinstance;have mgN_enumerate:=W.mg_none_of X G z_enumerate;have mgN_zip:=W.mg_none_of X G z_zip;have mgN_min:=W.mg_none_of X G z_min;have mgN_max:=W.mg_none_of X G z_max;obtain⟨aC,pg,hd,po,sa,mk,kc⟩:=TC;have mgC:=W.mg_of X G aC;have M:Mk K C f_mI:=⟨mk,T_mI.a,T_mI.i,kc⟩;obtain⟨aB,pg_B,hd_B,po_B,sa_B,mk_B,kc_B⟩:=TB;have mgB:=W.mg_of X G aB;have M_B:Mk K B f_bI:=⟨mk_B,T_bI.a,T_bI.i,kc_B⟩;obtain⟨aD,pg_D,hd_D,po_D,sa_D,mk_D,kc_D⟩:=TD;have mgD:=W.mg_of X G aD;have M_D:Mk K D f_kI:=⟨mk_D,T_kI.a,T_kI.i,kc_D⟩;have F_mI:=T_mI.fn;have b_mI:=CJ "self" "rows" T_mI.fn;have a_mH:=T_mH.a;have M_mH:=md T_mH (CJ "self" "word" T_mH.fn);have M_mC:=md T_mC (CJ "self" "word" T_mC.fn);have M_mUn:=md T_mUn (SY "self" "one" "other" T_mUn.fn);have M_mR:=md T_mR (BY "self" T_mR.fn);have F_bI:=T_bI.fn;have b_bI:=eU "self" "kinds" "places" "deeds" T_bI.fn;have M_bK:=md T_bK (BY "self" T_bK.fn);have M_bP:=md T_bP (BY "self" T_bP.fn);have a_bD:=T_bD.a;have M_bD:=md T_bD (BY "self" T_bD.fn);have F_kI:=T_kI.fn;have b_kI:=SY "self" "kinds" "names" T_kI.fn;have M_kC:=md T_kC (CJ "self" "word" T_kC.fn);have M_kK:=md T_kK (BY "self" T_kK.fn);have M_kW:=md T_kW (BY "self" T_kW.fn);have M_kB:=md T_kB (CJ "self" "word" T_kB.fn);have M_kM:=md T_kM (CJ "self" "word" T_kM.fn);have M_kN:=md T_kN (BY "self" T_kN.fn);have D_w:=df X G T_w (BY "text" T_w.fn);have D_cr:=df X G T_cr (BY "rows" T_cr.fn);have D_cu:=df X G T_cu (BY "ups_of" T_cu.fn);have D_fa:=df X G T_fa (CJ "words" "others" T_fa.fn);have D_en:=df X G T_en (BY "ups_of" T_en.fn);have D_fr:=df X G T_fr (BY "ups_of" T_fr.fn);have D_aa:=df X G T_aa (CJ "ups_of" "word" T_aa.fn);have D_P:=df X G T_P (CJ "script" "k" T_P.fn);have D_T:=df X G T_T (CJ "pot" "many" T_T.fn);have D_Le:=df X G T_Le (BY "number" T_Le.fn);have D_W:=df X G T_W (CJ "pot" "words" T_W.fn);have D_Ws:=df X G T_Ws (CJ "pot" "many" T_Ws.fn);have D_U:=df X G T_U (SY "pot" "k" "shape" T_U.fn);have D_R:=df X G T_R (CJ "pot" "most" T_R.fn);have D_A:=df X G T_A (BY "rows" T_A.fn);have D_ic:=df X G T_ic (SY "kinds" "places" "call" T_ic.fn);have D_cd:=df X G T_cd (SY "kinds" "places" "deeds" T_cd.fn);have D_cc:=df X G T_cc (SY "kinds" "places" "call" T_cc.fn);have D_wi:=df X G T_wi (SY "kinds" "one" "other" T_wi.fn);have D_fi:=df X G T_fi (CJ "board" "call" T_fi.fn);have D_de:=df X G T_de (wC "pot" "rows" "above" "places" "most" T_de.fn);have D_lw:=df X G T_lw (SY "above" "one" "other" T_lw.fn);have D_nw:=df X G T_nw (eU "kinds" "deeds" "near" "number" T_nw.fn);have D_na:=df X G T_na (CJ "board" "numbers" T_na.fn);have D_ne:=df X G T_ne (CJ "board" "call" T_ne.fn);have D_to:=df X G T_to (BY "near" T_to.fn);have D_td:=df X G T_td (CJ "board" "call" T_td.fn);have D_ln:=df X G T_ln (SY "above" "deeds" "call" T_ln.fn);have D_ns:=df X G T_ns (CJ "pot" "rows" T_ns.fn);have D_cm:=df X G T_cm (CJ "kinds" "makes" T_cm.fn);have D_isn:=df X G T_isn (BY "thing" T_isn.fn);have D_po:=df X G T_po (BY "level" T_po.fn);have D_sm:=df X G T_sm (BY "term" T_sm.fn);have D_hn:=df X G T_hn (CJ "book" "term" T_hn.fn);have D_is:=df X G T_is (SY "book" "length" "term" T_is.fn);have D_cf:=df X G T_cf (CJ "kinds" "filling" T_cf.fn);have D_it:=df X G T_it (SY "book" "filling" "term" T_it.fn);have D_ckt:=df X G T_ckt (SY "book" "filling" "term" T_ckt.fn);have D_rc:=df X G T_rc (eU "book" "word" "spot" "call" T_rc.fn);have D_rp:=df X G T_rp (eU "book" "filling" "term" "spot" T_rp.fn);have D_run:=df X G T_run (SY "book" "filling" "term" T_run.fn);have D_arw:=df X G T_arw (BY "texts" T_arw.fn);have D_fkr:=df X G T_fkr (BY "words" T_fkr.fn);have D_fnr:=df X G T_fnr (BY "words" T_fnr.fn);have D_fdr:=df X G T_fdr (BY "words" T_fdr.fn);have D_kof:=df X G T_kof (BY "words" T_kof.fn);have D_nof:=df X G T_nof (BY "words" T_nof.fn);have D_dof:=df X G T_dof (BY "words" T_dof.fn);have D_fnm:=df X G T_fnm (CJ "names" "word" T_fnm.fn);have D_tkd:=df X G T_tkd (CJ "names" "words" T_tkd.fn);have D_tkr:=df X G T_tkr (SY "rows" "names" "words" T_tkr.fn);have D_rdb:=df X G T_rdb (BY "text" T_rdb.fn);have D_kr:=df X G T_kr (CJ "word" "ups" T_kr.fn);have D_dr:=df X G T_dr (SY "word" "call" "made" T_dr.fn);have D_br:=df X G T_br (BY "book" T_br.fn);have D_bt:=df X G T_bt (BY "book" T_bt.fn);have D_tt:=df X G T_tt (BY "term" T_tt.fn);have D_fg:=df X G T_fg (BY "text" T_fg.fn);have D_spl:=df X G T_spl (BY "text" T_spl.fn);have D_rdp:=df X G T_rdp (CJ "text" "deep" T_rdp.fn);have D_rdt:=df X G T_rdt (BY "text" T_rdt.fn);have D_tm:=df X G T_tm (eU "pot" "names" "many" "deep" T_tm.fn);have D_wrt:=df X G T_wrt (CJ "rows" "names" T_wrt.fn);have D_tw:=df X G T_tw (BY "term" T_tw.fn);have D_lto:=df X G T_lto (SY "above" "deeds" "call" T_lto.fn);have D_co:=df X G T_co (wC "above" "names" "filling" "term" "spot" T_co.fn);have D_sme:=df X G T_sme (SY "book" "rows" "names" T_sme.fn);have D_L:=df X G T_L (BY "script" T_L.fn);have TK:Z2 mg:=⟨⟨_,mgC_LETTERS⟩,⟨_,mgC_MOST_LETTERS⟩,⟨_,mgC_MOST_KINDS⟩,⟨_,mgC_MOST_UPS⟩,mgN_len,mgN_all,mgN_list,mgN_tuple⟩;have TR:Ydj mg:=⟨mgN_range,mgN_int,mgN_len,mgN_tuple,mgN_list⟩;have TC:Tx K C:=⟨⟨pg,hd,po,sa⟩,n_ups_of,n_above_of⟩;have TBd:Wi K B:=⟨⟨pg_B,hd_B,po_B,sa_B⟩,n_book_B,n_width_B,n_stands_B⟩;have TBm:sJ mg:=⟨⟨_,mgC_MOST_PLACES⟩,⟨_,mgC_MOST_DEEDS⟩,mgN_len,mgN_all,mgN_tuple,mgN_list,mgN_enumerate⟩;have hBC:B≠C:=λz=>by rw[z,a_mH]at n_has_B;cases n_has_B
 have TKn:U8 K D:=⟨⟨pg_D,hd_D,po_D,sa_D⟩,n_book_D,n_board_of_D,n_made_of_D⟩;have hDC:D≠C:=λz=>by rw[z,a_mH]at n_has_D;cases n_has_D
 have hDB:D≠B:=λz=>by rw[z,a_bD]at n_deeds_D;cases n_deeds_D
 have TDd:mQ mg:=⟨mgN_len,mgN_range,mgN_tuple⟩;have TT:VT mg:=⟨mgN_isinstance,mgN_int,mgN_bool,mgN_tuple,mgN_len,mgN_range⟩;have TFG:Ydp K mg:=⟨FG,W.mg_of X G g_FG,λH=>.inr ⟨_,_,_,l_FG,Y,Y,sL (by show 4<=100000;decide),.cons ⟨Z⟩ (.cons ⟨Z⟩ (.cons ⟨Z⟩ (.cons ⟨Z⟩ .nil)))⟩⟩;exact⟨_,λs v=>.of_eq rfl,λbase _ _=>have GW:=zO (P:=l.prog) (w:=w) (base:=base) D_wi mgN_zip TC M_mUn M_mC M_mH;have GF:=Zus (P:=l.prog) (w:=w) (base:=base) D_fi TBm mgN_zip TC TBd M_bK M_bP M_bD D_cc D_wi D_ic M_mUn M_mC M_mH;have GA:=Znp D_na mgN_list mgN_any TBd M_bK M_bD D_nw D_wi GW;have GN:=Zum D_ne D_na GA D_fi GF;have GTd:=Z4n D_td D_ne GN D_to mgN_len;have GB:=Z1k (P:=l.prog) (w:=w) (base:=base) F_bI TBm TBd TC D_cd D_ic M_mH hBC;have GLW:=Zuo (P:=l.prog) (w:=w) (base:=base) D_lw ⟨mgN_all,mgN_zip⟩;have GI:=Z4t (P:=l.prog) (w:=w) (base:=base) F_mI TK TC D_cr D_w D_cu D_fr D_en D_fa D_aa;have GR:=yq (P:=l.prog) (w:=w) (base:=base) D_R D_T D_U D_Ws D_W D_Le TR;have GP:=Z7u (P:=l.prog) (w:=w) (base:=base) D_P mgN_len;have GT:=fu (P:=l.prog) (w:=w) (base:=base) D_T;have GLA:=zM (P:=l.prog) (w:=w) (base:=base) D_A mgN_len;have GDe:=zI (P:=l.prog) (w:=w) (base:=base) D_de D_T ⟨mgN_len,mgN_range,mgN_tuple⟩;have GR:=yq (P:=l.prog) (w:=w) (base:=base) D_R D_T D_U D_Ws D_W D_Le TR;have GW:=xC (P:=l.prog) (w:=w) (base:=base) D_W D_T D_Le mgN_len;have GLA:=zM (P:=l.prog) (w:=w) (base:=base) D_A mgN_len;have GDe:=zI (P:=l.prog) (w:=w) (base:=base) D_de D_T TDd;have GNs:=Z1b D_ns TDd D_T GT D_A GLA D_W GW D_de GDe;have GKI:=Z1f F_kI TK ⟨_,mgC_MOST_NAMES⟩ TKn hDC hDB D_w M_B mgB b_bI GB D_cm (Zx0 D_cm TC M_mH);have GKW:=Zxu (C:=C) (B:=B) M_kW.fn TKn mgN_list;have GKB:=zJ (C:=C) (B:=B) M_kB.fn TKn M_kC;have GHN:=Zur D_hn TT TKn TBd M_kW GKW M_kB GKB M_bP;have GSo:=yr D_is TT mgN_all D_isn D_hn GHN 12;have GCk:=ym M_mC.fn TC M_mH;have GCF:=Zx2 D_cf TT TC mgC_MOST_THINGS M_mC GCk;have GSm:=Z06 D_sm TT mgC_MOST_DEEP mgC_MOST_PARTS D_po;have GIT:=Zxx D_it TT TKn M_kK D_cf GCF D_sm GSm D_is GSo;have GCT:=Zx1 D_ckt D_it GIT;have GRC:=Zul D_rc TKn mgN_list D_td GTd M_kB M_kM M_kC;have GRP:=Z4q D_rp TT mgN_enumerate D_isn D_rc GRC 12;have GRu:=Z7t D_run D_ckt GCT D_rp GRP;have GIW:=ke D_w TK;have GAW:=Zrj D_arw mgN_all D_w GIW;have GFK:=Zuq D_fkr mgN_len D_arw GAW;have GFN:=Zun D_fnr mgN_len TFG D_w GIW;have GFD:=Zuu D_fdr mgN_len D_arw GAW;have GKO:=Zxw D_kof;have GNO:=Zxt D_nof mgN_int;have GDO:=Zxz D_dof mgN_tuple;have GF1:=Znr D_fnm;have GTD:=Zrg D_tkd mgN_len D_fnm GF1 D_dof GDO;have GTR:=Zuk D_tkr mgN_len D_fkr GFK D_kof GKO D_fnr GFN D_nof GNO D_fdr GFD D_tkd GTD;have GRB:=Zrh D_rdb mgN_enumerate D_tkr GTR M mgC b_mI GI M_D mgD b_kI GKI;have GKN:=Zxv (C:=C) (B:=B) M_kN.fn TKn TBd M_bP M_bD mgN_list mgN_tuple mgN_zip;have GBR:=Z1j D_br TKn TC mgN_list M_kK M_kN GKN M_mR D_kr D_dr;have GBT:=Z1i D_bt D_br GBR;have GRp:=Z08 (P:=l.prog) (w:=w) (base:=base) D_rdp TT mgC_MOST_DEEP D_fg (Z7x D_fg mgN_len mgN_all mgC_DIGITS) D_w (ke D_w TK) D_spl (Z05 D_spl ⟨mgN_enumerate,mgN_len,mgN_zip⟩) 12;have GTT:=Z03 D_tt TT mgN_str D_isn 12;have GRT:=Z07 D_rdt D_rdp GRp D_sm GSm;have GLN:=Zri (P:=l.prog) (w:=w) (base:=base) D_ln ⟨mgN_len,mgN_range,mgN_any⟩ D_lw GLW;have GTo:=Z1d D_lto mgN_len D_ln GLN;have TRn:Z87 mg:=⟨mgN_isinstance,mgN_int,mgN_bool,mgN_tuple,mgN_len,mgN_range,mgN_all⟩;have GCo:=Z1h D_co TRn D_lto GTo 12;have GSe:=Z4p D_sme mgN_list TKn TBd TC M_kW GKW M_kN GKN M_kK (rG M_kK.fn TKn) M_kB GKB M_kM (zL M_kM.fn TKn M_kC mgN_list) M_bP M_bD M_bK M_mR;Z7w D_L ⟨mgN_list,mgN_tuple,mgN_len,mgN_range,mgN_min,mgN_max⟩ M mgC b_mI GI M_D mgD b_kI GKI D_P GP D_T GT D_R GR D_A GLA D_ns GNs D_wrt (Zui D_wrt) D_tm (Z4o D_tm TDd D_T GT 3) D_tw (Z04 D_tw TT 12) D_co GCo D_sme GSe D_run GRu D_tt GTT D_rdt GRT D_bt GBT D_rdb GRB⟩
def walk{l:W.OpenLaw}{q:Program}{loose:LS}{XP:(Str->OU)->Heap->Prop}{YP:World->Heap->Prop}{d:DefRec}{K:Params->Fg}(hn:l.most=some 63)(hdf:d.params.defaults=[])
  (hY:∀(w:World) (h:Heap),YP w h->(K w.params).In h)
  (F:∀(w:World) (mg:Str->OU) (fa:Addr) (h:Heap),(K w.params).In h->h.Ns mainGlobals mg->mg d.name=some (.ref fa) ->
   ∃ fd:FuncData,(∀(s:Shared) (u:Value),BindsTo s fd ⟨[u],[]⟩ [("script",u)])/\∀ base:Heap,(K w.params).In base->base.Ns mainGlobals mg->Uq l.prog w (K w.params) mg base Y7 24 fa fd ["script"] (mf (K w.params))):
  W.WalkO q loose XP YP l.row.toRowW d [] (λf vs=>PySem.call f vs):=
 L2.walk_of (n:=63) (k:=24) (x:="script") (CX:=λ_=>Y7) (sp:=λw=>mf (K w.params)) hn (by decide) hdf ⟨Y,V,V,Y⟩ hY F (λ_ _ a ns hl _ hS=>⟨a,ns,Y,hS,hl,λ_=>rfl⟩) λ_ _ _ _ _ z=>z
end aI
namespace PySem.W.Fast
set_option hygiene false
local macro_rules|`(command|#check $s:str)=>do
 let mut r:=#[]
 let mut n:=0
 let mut k:=0
 for c in s.getString.toList do
  n:=n*62+(c.toNat-(if c.toNat<58 then 48 else if c.toNat<91 then 55 else 61))
  k:=k+1
  if k%11==0 then
   let i:=Lean.mkIdent (.mkSimple s!"tw{n}")
   r:=r.push (←`(command|def $i:ident:=0))
   n:=0
 return Lean.mkNullNode (r.map (·.raw))
#check "8yNO4BH6avZKxW6iIPSz7p1tDsFvpDRpS8NVBij92y7e0SzjbZqlMV7B3tsRqnwyfI1MB2nUPVdwKJzeXjSeTzeJ3GDlydCze528SqGLz3W1Ku08ovXSXXWdG7c0NGMX9nwEFjWs78zhRYDKyEAo1Itt4h9JOHAv8JAMHGRQBMlRyBC623wvE884MaoL4vh1f0hKErKl9fqSKYJrc8hCKeF4ChIILdL207sUaFn1yHJ1fgtlllAGywoIxOIU50pu96Kplig09aNn9BCQsCQLI6S4orRa04GcY3vuxk3xI01VJXJzDCxg9k8bKkKHxfA2Ian1n2ndWdKW8PdXy0Gg54SSvVckFetvEjqAPgmH7908OETBCmvfDa5lLMacnFDcz8TpfUP5p7plJaTJWrG8OY1JkSmIXUMZ5fAQKy3Of4XQuH9iZ3GTRxde9dKMkvb81sNG1p1rO22kEBDEYOQ43CjGR123d2Eo4LtQA4wKDBRYy0jIRod1mdeSu8HgbFtS5EeBD74YkluefMqq9xUHMuyHsq5JNwpubkY4agC3rOB2dDOmN8H27WYBiJnv4Yf7CqqsGJwK8bIwPoh5KH5tfGXnNtmgyBwwpVdpKp5cJiNC30kZBsi6p3082nagfkIXl4jkBhuaXLfBWsHiZSumCysdg4Isi5n13syiMsRhLSIJXDnzrec2X0ZYYHBq4r0x6ZZoXTV20COEYAeTdFRIVOJNdl2VlbngUHxhpZGtWydI5k7XrCbhc0KL6YSBkER5o01XnfwBKAib9BjWKY0kIQYA0THU69Xn11Z0XmO6MhULQX5vtb4cDtGRK63y00gmelGbER7tgkJ3XL31Us2snpFx8OJQR17WmHfQtJKFAU6eCMqxA5ogemSdB6V1WomTq3spGM4ozrM25q8aW3aieLYuuF0965vsb6GRP6TDP3XAKhgRnLFlyMxh2x6Xg4UOZ8BUlEBE20eWbPVKHCjI6QFgH7a6ea7Bysg3jyJPL98mzprCmDuM6uFsqrGeWe06GJ3VDpjwJMKHe6h39gQI8ISV7IEofaM7KnmBl2BVCST3x3ojc4nCJf5Epqw65ylDQ9HukAbH5QFF1wRisYKE5Pf9HXklwTiwAHABh8M0gwXJQ7EqCPBhLdFG0JtDZM6Lbm42wtCiOOKVIG9YqFmz2XjHEKpvRptHywKC3S4hQ0HCJEk5yhlAnCTHHC1Utea2wgIoB09iWr2xHb5k61wuXVc9FN90M6NF6p2PjDAT6r8BuGIYq5nFG7tS13WmKYWtrubbRyxLnTf9dydyNa210KW9Yj0Bs1Hl4CJeL2LBICMEQOGPH2w0XEX3eSymfmEULiOm0gLyO0hBUMVSHeY0Gs9o5WMYtsl5kQX6D73bPGIm7uFkpL9DD5ynGq2e9hpcKxolm26levz7OKJC8ka7qXGwSDb6wYYl0HpIRNoTABpG6U26DqWR8Cl1SsU44iNx7PJVEHGt9rVf242gNPWKWRnU6j7mdWbJDCQ6NEDdcfk0zFKpUUXzBIbEv44L24T84oquEXKJ5G78591IjumRXPBumpEbK2XmvDQ8N5oHo288ZHU0ElFYvXdFkUgLptU0GWNR89315cJbyPCtaIRWAybtR8Av718Ij3EUZsHJnssM7Tb7yEEGSb0Q41IhfKu3abUokQkSF1MJJMcks2RG84TlekYSca6xJuLZ3GrhzFQk2P0rei7X82CCvPAxNip3nAUKyykuPBGzSExpE6lgl93NyBimSUDFDidEKcWt39L1dcycGyKVpl7zaWAUHUAaEFK89DrEchCAGJ7LBQhmWS7EGY8SahgRXK4Hx50zCwVSv6Bqf93zj0AN9Qf9OjCwts2KF5xMo6TtjqCP55sJq9oK87WLSrAwXcZXGI2gq5fhhDc6iUaT1MQErD126PWS1k06pAoKW53QQSLrCZ06APAcuqnFle1RBet5POBj0iucQWx7BJuRuqc54qqc91TpMEabxQu9jeXJH5vV8C4ANdP4maWlQBAGLeJUTnemD8mQV3SmoJuKq5kIaixZJY8lMDOjH6jHKDiXNV95ujqz6o4PPhxDiAR6w1p4b2AKzC6zf39JGwIKEAMgucnEa41nDLcTg1EcF6pDzLUgHgn8G4HPoHck607C9DmOGOIurMiV0TCBV1XPDsMDQSrFG1jYIP36nX5GDqUEn3dVSedpCpcGEsNVLFmV51a4herBhlDW9jAEtVCgnP0rn3IdFTtclV981suJ1typTZBLQd4X5d0jar3utPsXzJ4js0vJKSakkTZX5fU9QVLkiRFFhAULXVJkwS6i6fa0iy3utJIRytrNl7b03AqZLp4RHsBEdkniR491RFB3LveeLB8TD6i39KTV7YP53lIRZ6d7XgGCXWgLi14NgC6TyfxpFoJFTDfNqyvrvOuJ7uEMvLHmFHA6v0cDjwE6dSETTi8hZoZe7KOWc0VpO2q46WtH5ynkCJN8GDWyZZoGsI1ksM1cZh3hj8Woo8aLwrxfCub6ujXSF6AErNKDVZMhLuBXTMW3HXIB195fGDJdi2IzKv6F8H3rpP8B4ytRlQjlXtBNBsUnrt5FUEQuXlAm2XRTBma3QCPTWsHI71nEeW9uPELTbXGbnC1HoFqxee6hf6BDA7CS9uhHegd5cvHYG97dbPFPQJidHtk1W675tqZKbJ549GQK2RciVJd3RJVBvz1OJe0aQ2gMG2E3SKfEhBVUcxj6L6tRIPQF5aRIh34z24X4XXBC7msGBcIPm3wWLkhrKkNACPbNlmfuj466Uf5wRApayHB62BTlFguXb0Bsgl92uoBfDxHM8378uMwF7hXltii1Y6CZmq1X4hct00kDJZwYb6v2CghPMoiv3kBK5xntUpO6hM4x6vlcxXabQ48S1WSihNzqD6yljMrCKEx9BqJaF3qosZ5oG6obsyMpX6oj0BceNV9SEGoxTSziSnn8zTWhE3vwDV4XHVdzb6GrWKTGRCo8HYhVFPTPKqcr9P29R6SdpkJRBnHThbqtCz3t0G4S8mvbA6MkFxTjDatWLDgBgeA69EdFyDAlrx0YRTxHA6nKGWOQfdAo1b2kdRdmEuu0CAn60lPmdWJE7hVKmtnLIHJboEI6dZrQHWFUEK8WLDi4hjuFa2rEJgHxh7357SbmF9eT31VipzFE4XoRwDgC8jtAb7SouOhw6fBvl9s5M70EGEtIMBNHPgh3Fx2WjO1NsyC2Z50im6tuBk5gVFHPaANAx3nbTRJ8ZzYdLdIJeKr2Rh4K7XEXGc1DRU5fpowHy9D5qISeLe0TJKcnHAuVhGQjtAmDxSRcareWgWGiSCEx5jIlJLxeKnP5ZBy88sqEXDrHELj13U8HMglnEs6IVcHwcSFqKAMI5HgQ9sIwLbV7ko0O90O5fnv7HW0ZZpE5e02siahrc4BAwLYWQnxk1l6SxqVJW9zIkEliFmMDhPHXldsIeZTkp9LWFV72IFyIITQNGvbFSbxA7epq0Kjkvf2XiY9Omc0TtJPmPnVHWYUb7cpwA9j4DhG87FFShc6pxB55mTjTLij18JdXiCmSu4xmIgbDUsfBgHLHQr78phelKJ6lZ6NHTEU68CurEEk1EhL5GJV2wyRIC9371NHLbtQBfK0kNhZaqa3L6KcNRjaL3yD90klFfXuukCk9RMMlmDL75L0eixDzLUaAPDAWiyPYEKvNIbtfW0XYfPuEZZpAzl24Eh1E4vWq7SRckC1cIaMfyI0DIK8YiZKOUJQGSuxaUchUVIEu9999He6Qh0HrudlSchyFDlhZ0nUM4HC9uK2U7d0frB5QpaCdEBlZH353dalBhsXo1bHdOAiawf91JrJ22quBoSCZW6PZW8vO9L1e0lb1SHrNIqrJTXD3hKPI1IIX1DyaCfDRYCzF4ptdH0eH7Erxq6YgKvA7moPNmT1KVwb3J0B2ee9D6ZLKjRH9W8jKiFOLIxjN6HjbkGhw64WAYIbvXCgoq87swZwhVJP2m3TMYKUMyoMc1qzTZCspAHN7XaoawVaALq1ugAFE9oD9XFoMkrNiHuuXIajDP2YSRp92hHMy0UZGZnAmnjCMYmMSCKOabnpSH05tCuKyL7rRrHh2vieHySQ9JpFzHbTAMBkZxLlWto7rL6LsGeibWJWTV59FCH6JRFYzBxA1x91t7DflsBkFwUwAzHy8KgTkWYsYuNEJogRm1vCGtFJRxQO9lgVlKGXWtaNCdXnN2xVKZEscJTHJkFPF0AvIpmHusiAmcFlG0H7x2nW0q8GI7dCVa2iNEjj6nk1S49vlqb7WHRs4PqsCWJgtmmWA8tGPC3LSP36ESCR4ymkghkS4N82h240UjzG1n3wMgoRuetFhDLTdBtnDZMIB4GLfY9Wdx7HLWpJPahKxEGRP5SWCYuGCGGrAYmaBLQYCRtjWni5kaHBplCt1XPdSYA3CrpeefEsQ8fMM5BZPZP6JhTFZDLgRNJBf0bxxxDWY47ds3f81Mz9h2wQ44Z7kwx0A7dVjHGuYSq9AkyaBGq3inLNDqPgBGyB36PRr4OvUMM6I8VpnFvZp0rF9Xidj3ApOt9KP3NOLA2Ij8FaqNVjUrnI1tWw85R0MsX0JOQEL3dAYjIc70utZ5GLQ3MZKEjg3Qx06Ta4O7vSMf88hiniet8rZ49GGOqyKqMegD70yHd7DItXAXdHbuCTAKNA5RvlsLa8eO9GsqnXfas7cBUuGRppauOt4hyzyqV5EJjKSaQXGxdoXCGIiRns8mvTVAImYqp4n29SJoBecTpes3uEeBHOtvdQ4H0Zm4NSVDgcYJ3fGuUgcstr6coo04N90BxLIAM3KMr7Rp3GzBN5xeukS5BuPL797EUEGt9McDWwIQZI2ZxkGNdEcT9Kezy8HM8dR3k5j6kFRjKa1ZdYNTt5TRuBxkSOqteh6FGe6fdBS7lmjDOofKYMPAxB3M4P809VQ4o1J5Z78T5Rer18mwAY9Z2vBFwsppAmiRMrLId4kxwL0ZpKCOV3CqghuGGgCWXdHOhR18RNlSfCcaBc2HU6im9OcqgHtmqZBMBSaP5fvytA2o0IZ0sXyfPg6daSBuVy8GuclYKLOL6ZGK937J15ACP15tG26AWYlLCQHJY9FsRp2XITV0g7CSOYy0NT5WIIQUQWEUtieLOzNfCuy7wgJcIycu4GgmbKMmIsHmMib9Jzbobum2xAjFxP7YYS3cpWHFN0jy64Ykf0PRuBDq3Xxh80p7BWPdVsb8JGuSz6gm7HFsdFxN6kU75IJGajUWKaZE77q4aATJjekFEuCiZhIMT7ClMguXdPLad96r9OzVFxIL6mn947N6Z663zHtuMfrMU82EWyb768siQ1QTL2H5w7FzKTjRsEuMXpfCUTN7tv1s6aG3O05zQ249KJtOz7xtRUXPBbNxur0cLGQF3Rh7nbtKzJJ24HegrjWSSFItbC4J994q2cKfUMbCq2m0wzYcPRIvWpKxLP9YXxp48Eyt8mg8J2Y5DHV6yFHg2989aAjtvBU2Zd4x9BJhDhVX9JDmplBboyV7I1LUyv6BjdTHE2ldRozvNdDmVqP7uPY5ZDKsytesFwXTDBJP3o4gVct8KewBglgv767JNdnm6mdew4hgAo2CUfOC1sTSIGPFv6M37ySl18QMRWKHFfaFujkxr90EUmwAlSsQKwgYvcSrv9wKbfM51sIZMuKZoW2wIC4GIIBb1X5xQxqiFSZC1muO8C5DJ8TrK1dK1pCitsfbGOlbrBeUCkmU1YPdBYTc5DeIZ0D6sgMsMBE5io2kLFLwsHA9K1fXoHEcbKYI6XsKNo1AzpQ6BILBicHGtGIEoQ0XiCgnwF5FA2aBTgXkC2C4XwPpZtk6L9bUtzeea19TG0WY4k7Os3QmW8lpsZA04ek7D0Ayy8EIW0SBYsVSLZLGJe95z7KJeJ8APWwGoj7g8CLYOR8Xy4103fCHfh1oLTJ8u51Riki8XCNrKKS1lIvAAJvLsiIpZtk6JUK6bMEVJq4MidxLdE8QF3feYKxtYYmz3M0ioiDiEqZHd7XOEBvAX8HRuDSYd8ntJH7XcZTVGTpLGlyLLVba7SKCLwEaTRR1OtCKfncCyKxT8Bl8qVGci496A31vlGL3GWL8mHeokkrpwS6MuHuy5Jq7o4gWp4hzBFxD2WHLZgwyq3U1cFKFPE2xjx1NgRpv7lt0hJWkvaYb15QZHQveFmNer0f6AbBxLiEWi6KWNinuW9EBSKM4ypTv6GFtGgoSFvH09e0Fm4UraSSRCHCUp53hMpiH8CTc7RjiX2cSB9HwSifdBOJB85ZnRZh7axAjlM1KJyxhgAbvc2Cb5DmR9TdgADyX8fq7MkBZNpmwwY5XDQJRgSu3k4agKbe7x5Yi1G69Oz2cQTlLfK1OcMlo7PJz4KIn86jOVJrpcehBu0RyGVKkBWFPr02D1nsyaprAPGCX07NdI4a8sBnd055FR3vuBQj2QVsN7em8ZfLVuaII5H8WrsEtYZ9QM7wNSICBEeQC4gi5Abep7L53BTomJlNWTs0ysEcAbPe0i0NYskJe9IReLq56OFt6918K2DlzwQvPVvE4VJ1O7So7ZDE7dY6ZGE9JBp6yjLdEYJQBorkZ6fXUVb9uF0Y5KtigN8NFicnx2hEY7u9FfN7BFZ54GBzKtz3haX1IzcF09J6yE1EVG5B1qYnfJacmhvLsMFVJ5ce9tbphamHeMniQsipE0FYXvFLTIpLjCeBtaiTTYyyCcDWOuvpRtbBevLDLYpGYk9o2S1d81tDi95I8DIzHIKh8Lxpq4UN92e7gDj8BrcmF95qUn0qcs4wk2EJgVluD33P19vcqUzqn5q0At78RSYkmtLnOrICzdIUILhMOtCUBtaYLdpAHPXc3yfLTtbSmBAwJdLJ5J5qV0RiLLFBKkLWDmnKLD5YHRfBStmL3nbmO8NfMGKNqS3vgrd0bKNpooQOTCNEKHAz6v8Jke9KAx3CJBCVqFK7biNO3kQvHJtctGoTHZyZJlJbBXkxIi0JcPbjk1s1eRJc966ieW5PGJVkUVseJUbLJGInXduMkrgIpNO2wnYPNZIohgg3a7AZ7Ij8JTQqc03LIUI3S3vhWfUIPqKY7U46CAIAKiq6psCtsHqmX3QuN6LOHoQL8eU9CuWHeUuYHe1T3HHbIfHJtss3QHKarBS71HGJHBChDJoL8AZHALkIKXJhDiGmcaHQAqbOVGdsqGI8DZZ0GNy3sLMJNYCGKpYNUHQQ3zG28osmteDs9FHZIgqZT6gSExUTYK6ZjVaEw0kqzcUipyEiXVoMBZsjDEes5Y9RUMCIEKl301QXlWBE4KafwScxWADvFaLILgPUgDoc6RDEu1YFDiUW6cqYF2cDfcUU7qvgPZDULQ3h5LWo5DQt1RNsgrGeDOkZx7vJgohDNFrFYjfEB7DD6XT69jDgND3qEpyt3kfJD3AzaHeQOIgCzF317efTNFCurzBSGtykQCsvTqp7beSwCkfMopvsCu2CgxKcAyc8EzCKk1NEYlZgACIByjWgeyolBuFDaDX5SqjBeEFetP67qqBcmTCtNb0N7BKK0KcPw3p3BI9sdRkNsW8BF03G0X9oSGBABFxCAgprKB46VLRDUV4yB3YKnog1xH8AySobDqAAjKAcCbkEKIOBxABBEbYZ3N7xA98zRYuRZyEA691SXkvrbu9qAdeCkRgh89oedVbTE2xt9lvbNtgYHHD9kSmFGzIgYg9VYtZ9mV4pq9RRZwZvoBjT9FsqR3T1Yyq99e2AXqn4Dv96rWGCxIvQU8M80bWRKvIW8M3vaER03ze8HKaTGVf6PB8BdTLeaYnp785dS8dHn4eB7xdnPhUQe367tZPnb9gf7u7LCiPoksz9M7ItdoAm5xMT6jlULLV6jnI6X0htm8zBbW6FOKJfcSH2V6CMxKVHrMSN5wRvjNPOZL15k7HQTCaBew5fgfqat3DBJ5Lqy5IWEnY15Iit97yykPc5F9kNRfGsxo5DcrFekd3H757Zo74QApud4xmDByUJIEm4hB5nN7MxH24XWVeJvOXSf4LgqpriaR8v4CXhfNLKf8M44sE6ZxlFw944eDq0ITHGF3n4xKoBmaOR3jtPVZWwBeL3beNF7FgYAY3UoP6mkT7t03L6ckLcBe4a3IC739oRyUr3Fm3C9mWBlm35ZXJuCS2Lo32CzEQsswzz2jTjgr5kmSY2flayCTz4pL2SViE8pdNk12FxuC7o5FN72BbkhzgARui2B80NpYt2ZZ1mRr5apivqh1kxdRqOQv1L1hMfL8fD5OZ1bSnY3aSdTE1ajKUiNhGsn1M07RyUT4XK1A6lE9IYSYD19UWxIVlfzS13w9tKA2Jsq0zJkRHjarEm0lmfxn28F0F0gDDsMTIcKQ0LRpcJCHdmH0GBgfLWso4H0Fui1RNQTtp09kz1u833Nt04R6jjgwgrt00tREYE13wS"
end PySem.W.Fast
open PySem PySem.W PyProof.Rows
set_option maxRecDepth 100000 in
set_option maxHeartbeats 0 in
theorem PySem.Challenge.cw_manydeeds_k97_whole_books_through_texts_holds : PySem.Challenge.rw_manydeeds_k97_whole_books_through_texts.Holds := by
 w_on;o_law;k_head;(case hw=>w_witness2)
 k_fill
 refine aI.walk (l:=PySem.Challenge.rw_manydeeds_k97_whole_books_through_texts) rfl rfl (λw h Y=>W.kIn_of Y) ?F
 case F =>
  intro w mg fa h KX G hmg;refine' aI.all_mk KX G hmg ?_ ?_ ?_ ?_ ?_ ?_ ?_ ?_ ?_ ?_ ?_ ?_ ?_ ?_ ?_ ?_ ?_ ?_ ?_ ?_ ?_ ?_ ?_ ?_ ?_ ?_ ?_ ?_ ?_ ?_ ?_ ?_ ?_ ?_ ?_ ?_ ?_ ?_ ?_ ?_ ?_ ?_ ?_ ?_ ?_ ?_ ?_ ?_ ?_ ?_ ?_ ?_ ?_ ?_ ?_ ?_ ?_ ?_ ?_ ?_ ?_ ?_ ?_ ?_ ?_ ?_ ?_ ?_ ?_ ?_ ?_ ?_ ?_ ?_ ?_ ?_ ?_ ?_ ?_ ?_ ?_ ?_ ?_ ?_ ?_ ?_ ?_ ?_ ?_ ?_ ?_ ?_ ?_ ?_ ?_ ?_ ?_ ?_ ?_ ?_ ?_ ?_ ?_ ?_ ?_ ?_ ?_ ?_ ?_ ?_ ?_ ?_ ?_ ?_ ?_ ?_ ?_ ?_ ?_ ?_ ?_ ?_ ?_ ?_ ?_
  skip
  any_goals first | exact L2.tp (by k_is) (by k_is) (by k_is) (by k_is) | exact L2.mp (by k_is) (by k_is) (by k_is) (by k_is) (by k_is) | exact⟨by k_is,by k_is,by k_is,by k_is,by k_is,by k_is,by k_is⟩ | k_is
