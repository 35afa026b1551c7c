import PyProof.Rows.All
import Wide.All
import OpenK.AllK
import Wide.FinOn
import Lean
import PyProof.EqAt
import PyProof.EqKinds
import PyProof.TupleCall
import PySem.Challenge.RW_manydeeds_k76_whole_books_there_and_back
set_option Elab.async false
set_option linter.all false
set_option maxRecDepth 100000
abbrev EV:=PySem.Value->PySem.Shared->Prop
abbrev PL:=List (PySem.Addr×PySem.Obj)
abbrev LU:=List PySem.Value
abbrev OU:=Option PySem.Value
abbrev LN:=List Nat
def Ja:=@PySem.wpAny_bind
def Jb:=@decide_eq_true
def Jc:=@decide_eq_false
def Jd:=@PySem.wpAny_pure
def Je:=@of_decide_eq_true
def Jf:=@PySem.wpAny_mono
def Jg:=@PySem.wpAny_field
def Jh:=@PySem.wpAny_truthy_bool
def Jj:=@PySem.wpAny_holding
set_option hygiene false
local macro_rules|`(tactic|rfl')=>`(tactic|decide +kernel)
local macro_rules|`(tactic|ac_rfl)=>`(tactic|intro pins s σ H Q I h)
local macro_rules|`(tactic|exfalso)=>`(tactic|intro pins s σ H x y v u Q I rx ry h)
abbrev RS:=List (PySem.Str×List PySem.Str)
abbrev LS:=List PySem.Str
abbrev Fg:=PySem.W.Frag
def Ya:=@List.length_map
def Yb:=@List.getElem?_eq_getElem
def Yc:=@List.length_append
def Yd:=@PySem.Heap.get?_push_of_some
def Ye:=@List.mem_singleton
def Yf:=@List.mem_of_getElem?
def Yg:=@Nat.le_refl
def Yh:=@List.mem_map
def Yi:=@List.getElem?_eq_some_iff
def Yj:=@List.getElem?_map
def Yk:=@PySem.Heap.lt_size
def Yl:=@List.mem_append
def Ym:=@Option.some.inj
def Yn:=@List.size_toArray
def Yo:=@List.getD_eq_getElem?_getD
def Yp:=@PySem.Heap.get?_push_size
def Yq:=@Bool.false_ne_true
def Yr:=@List.map_append
def Ys:=@List.mem_cons_of_mem
def Yt:=@List.mem_cons
def Yu:=@Ne.symm
def Yv:=@List.length_cons
def Yw:=@PySem.PassesOwn.never
def Yx:=@Nat.ne_of_lt
def Yy:=@PySem.Paired.length
def Yz:=@List.map_cons
def Ye1:=@PySem.F.plainAttrs_list
def Yf1:=@Option.map_eq_some_iff
def Yg1:=@PySem.boot_len
def Yh1:=@List.mem_cons_self
def Yi1:=@Nat.lt_of_lt_of_le
def Yj1:=@Nat.zero_le
def Yk1:=@List.length_take
def Yl1:=@Bool.and_eq_true
def Ym1:=@List.take_add_one
def Yn1:=@PySem.F.slot_list_append
def Yo1:=@PySem.F.type_list_append
def Yp1:=@List.take_length
def Yq1:=@List.all_eq_true
def Yr1:=@List.length_singleton
def Ys1:=@Nat.ne_of_gt
def Yt1:=@List.nodup_cons
def Yu1:=@PyProof.Rows.boot_tuple
def Yv1:=@Nat.le_trans
def Yw1:=@PyProof.Rows.callWith_type1
def Yx1:=@List.append_assoc
def Yy1:=@List.append_nil
def Yz1:=@List.mem_append_right
def Ye2:=@List.map_map
def Yf2:=@List.lookup_cons
def Yg2:=@Int.toNat_of_nonneg
def Yh2:=@List.getElem?_append_right
def Yi2:=@Bool.true_and
def Yj2:=@List.take_zero
def Yk2:=@List.length_pos_iff
def Yl2:=@Nat.le_add_right
def Ym2:=@List.take_of_length_le
def Yn2:=@PySem.Paired.snoc
def Yo2:=@List.nodup_iff_pairwise_ne
def Yp2:=@PyProof.Rows.boot_list
def Yq2:=@PySem.AutoSeq1.wpAny_loadPart'
def Yr2:=@List.filter_eq_self
def Ys2:=@PyProof.Rows.slot_tuple_getitem
def Yt2:=@List.mem_range
def Yu2:=@List.mem_append_left
def Yv2:=@List.length_drop
def Yw2:=@decide_eq_decide
def Yx2:=@PySem.mem_of_lookup
def Yy2:=@List.flatMap_cons
def Yz2:=@List.length_filter_le
def Ye3:=@PySem.F.slot_zip_next
def Yf3:=@PySem.F.plainAttrs_str
def Yg3:=@Array.length_toList
def Yh3:=@Bool.eq_iff_iff
def Yi3:=@List.getElem?_append_left
def Yj3:=@List.drop_eq_getElem_cons
def Yk3:=@List.take_append_drop
def Yl3:=@Nat.lt_trans
def Ym3:=@List.any_eq_true
def Yn3:=@List.all_cons
def Yo3:=@Bool.false_and
def Yp3:=@PySem.Heap.size_push
def Yq3:=@PyProof.Rows.boot_isinstance
def Yr3:=@List.mem_filter
def Ys3:=@List.find?_cons
def Yt3:=@List.map_congr_left
def Yu3:=@Nat.lt_irrefl
def Yv3:=@Option.getD_some
def Yw3:=@List.getElem_mem
def Yx3:=@PySem.F.slot_tuple_iterator_next
def Yy3:=@List.mem_iff_getElem?
def Yz3:=@Int.emod_lt_of_pos
def Ye4:=@List.mem_of_mem_take
def Yf4:=@Int.toNat_natCast
def Yg4:=@List.getElem?_cons_succ
def Yh4:=@beq_eq_false_iff_ne
def Yi4:=@List.nodup_nil
def Yj4:=@List.filter_cons
def Yk4:=@PySem.Heap.get?_update_other
def Yl4:=@PySem.Calls.callWith_builtin
def Ym4:=@PySem.Heap.get?_update_self
def Yn4:=@Array.getElem?_toList
def Yo4:=@Int.emod_nonneg
def Yp4:=@PyProof.Rows.boot_all
def Yq4:=@List.any_cons
def Yr4:=@Classical.byContradiction
def Ys4:=@PySem.Around.under_plainId
def Yt4:=@PySem.F.plain_extend_loop
def Yu4:=@PySem.F.slot_dict_items
def Yv4:=@PySem.F.args_zip_next_1
def Yw4:=@List.length_zip
def Yx4:=@List.getElem?_set_self
def Yy4:=@PySem.F.entry_zip_next
def Yz4:=@Int.zero_add
def Ye5:=@PyProof.Rows.boot_int
def Yf5:=@PySem.F.slot_str_join
def Yg5:=@PySem.F.type_str_join
def Yh5:=@Classical.choose_spec
def Yi5:=@List.getElem?_set_ne
def Yj5:=@List.cons_append
def Yk5:=@List.mem_iff_getElem
def Yl5:=@List.cons_ne_nil
def Ym5:=@PySem.evalArgs_none
def Yn5:=@Array.toList_append
def Yo5:=@List.take_succ_cons
def Yp5:=@List.of_mem_zip
def Yq5:=@List.length_set
def Yr5:=@List.forIn_cons
def Ys5:=@Nat.min_eq_left
def Yt5:=@List.getElem?_zip_eq_some
def Yu5:=@List.nil_append
def Yv5:=@PySem.Calls.spliced_cons
def Yw5:=@Option.isSome_iff_exists
def Yx5:=@PySem.F.args_tuple_add_2
def Yy5:=@Nat.lt_of_le_of_lt
def Yz5:=@Bool.false_eq_true
def Ye6:=@PySem.F.slot_list_extend
def Yf6:=@PySem.F.type_list_extend
def Yg6:=@PySem.F.entry_tuple_add
def Yh6:=@PySem.F.plainAttrs_dict
local macro_rules|`(tactic|nofun)=>`(tactic|exact ⟨rfl,rfl,rfl,by decide +kernel,rfl,by decide +kernel,by decide +kernel⟩)
set_option hygiene false
local macro_rules|`(tactic|nomatch $t)=>`(tactic|refine $t (fun vs H Q E h=>?_) (fun cdv A outer s H vs Q E hr h=>?_))
local macro_rules|`(⋯)=>`(Zaq P w K mg base CX0)
noncomputable section
local macro_rules | `(tactic| ac_nf)=>`(tactic| (with_reducible show let X:=_;let d:=_;∃ t,PSs X _ t∧t d _ _);intros)
local macro_rules | `(tactic|exists $t)=>`(tactic|(with_reducible show let a:=_;$t);intros)
local macro_rules|`(⟨$a,*⟩)=>do
 let b:=a.getElems
 if b.any fun x=>[`Z,`Y,`W,`V,`U,`O].contains x.raw.getId then
  let c←b.mapM fun x=>(match x.raw.getId with|`Z=>return #[←`(_),←`(rfl)]|`Y=>return #[←`(rfl)]|`W=>return #[←`(by omega)]|`V=>return #[←`(by decide)]|`U=>return #[←`(sL (by show 2<=100000;decide))]|`O=>return #[←`(sL (by show 1<=100000;decide))]|_=>return #[x]:Lean.MacroM (Array Lean.Term))
  let d:Array Lean.Term:=c.flatten
  `(⟨$d,*⟩)
 else Lean.Macro.throwUnsupported
namespace L2
open PySem PySem.Spec PyProof.Rows
abbrev Key:=Sum Int Str
def Zra:Key->Value->Bool
 | .inl k,v=>Value.isInt k v
 | .inr x,v=>Value.isStrOf x v
def Yd1(w:World):Key->Int
 | .inl k=>hashInt k
 | .inr x=>hashStr w x
def Zby:∀ {k:Key}{v:Value},Zra k v=true->(∃ i t,k=Sum.inl i/\v=Value.int i t)\/(∃ x t,k=Sum.inr x/\v=Value.str x t)
 | .inl i,v,h=>by
  obtain⟨t,e⟩:=Value.isInt_shape (k:=i) (v:=v) h;exact .inl ⟨i,t,Y,e⟩
 | .inr x,v,h=>by
  obtain⟨t,e⟩:=Value.isStrOf_shape (x:=x) (v:=v) h;exact .inr ⟨x,t,Y,e⟩
def Zxt(i:Int)(t:Tok):Zra (.inl i) (.int i t)=true:=by simp[Zra,Value.isInt]
def Zxs(x:Str)(t:Tok):Zra (.inr x) (.str x t)=true:=by simp[Zra,Value.isStrOf]
def Z7r(a b:Int):decide ((Sum.inl a:Key)=Sum.inl b)=(a == b):=by
 by_cases e:a=b
 ·subst e;simp
 ·have h:¬ (Sum.inl a:Key)=Sum.inl b:=λq=>e (Sum.inl.inj q);rw[Jc h];exact(Yh4.mpr e).symm
def Z7o(a b:Str):decide ((Sum.inr a:Key)=Sum.inr b)=decide (a=b):=by
 by_cases e:a=b
 ·subst e;simp
 ·have h:¬ (Sum.inr a:Key)=Sum.inr b:=λq=>e (Sum.inr.inj q);rw[Jc h,Jc e]
def Z7q(a:Int)(b:Str):decide ((Sum.inl a:Key)=Sum.inr b)=false:=Jc (λq=>nomatch q)
def Z7p(a:Str)(b:Int):decide ((Sum.inr a:Key)=Sum.inl b)=false:=Jc (λq=>nomatch q)
def Zbe(prog:Program)(w:World):PySem.KeyKind prog w Key where
 is:=Zra
 hash:=Yd1 w
 inj:=λv a b ha hb=>by
  rcases Zby ha with⟨i,t,rfl,rfl⟩ | ⟨x,t,rfl,rfl⟩
  ·rcases Zby hb with⟨j,u,rfl,e⟩ | ⟨y,u,rfl,e⟩
   ·injection e with e1 _;rw[e1]
   ·exact nomatch e
  ·rcases Zby hb with⟨j,u,rfl,e⟩ | ⟨y,u,rfl,e⟩
   ·exact nomatch e
   ·injection e with e1 _;rw[e1]
 byValue:=λk v h=>by
  rcases Zby h with⟨i,t,rfl,rfl⟩ | ⟨x,t,rfl,rfl⟩ <;> rfl
 pyHash:=λhv h=>by
  rcases Zby hv with⟨i,t,rfl,rfl⟩ | ⟨x,t,rfl,rfl⟩
  ·exact wpAny_pyHash_int h
  ·exact wpAny_pyHash_str h
 eqBool:=λhu hv h=>by
  rcases Zby hu with⟨i,t,rfl,rfl⟩ | ⟨x,t,rfl,rfl⟩
  ·rcases Zby hv with⟨j,u,rfl,rfl⟩ | ⟨y,u,rfl,rfl⟩
   ·rw[Z7r]at h;exact wpAny_eqBool_int h
   ·rw[Z7q]at h;exact SeqAt.EqAt.int_str i t y u _ _ _ _ h
  ·rcases Zby hv with⟨j,u,rfl,rfl⟩ | ⟨y,u,rfl,rfl⟩
   ·rw[Z7p]at h;exact SeqAt.EqAt.str_int x t j u _ _ _ _ h
   ·rw[Z7o]at h;exact wpAny_eqBool_str h
 «strs»:=λk x t v h=>by
  rcases Zby h with⟨i,u,rfl,e⟩ | ⟨y,u,rfl,e⟩
  ·exact nomatch e
  ·injection e with e1 _;subst e1;cases v <;> rfl
def Zq3(prog:Program)(w:World)(i:Int)(t:Tok):(Zbe prog w).is (.inl i) (.int i t)=true:=Zxt i t
def Zq2(prog:Program)(w:World)(x:Str)(t:Tok):(Zbe prog w).is (.inr x) (.str x t)=true:=Zxs x t
inductive V where
 | non | bl (b:Bool) | int (i:Int) | str (x:Str) | byt (b:Array UInt8) | flt (b:UInt64) | ref (a:Addr) | ty (n:String)
 deriving DecidableEq
abbrev _root_.LV:=List V
abbrev _root_.OV:=Option V
abbrev _root_.KL:=List (Key×V)
def Zcm:V->Value->Prop
 | .non,u=>u=Value.none
 | .bl b,u=>u=Value.bool b
 | .int i,u=>∃ t,u=Value.int i t
 | .str x,u=>∃ t,u=Value.str x t
 | .byt b,u=>∃ t,u=Value.bytes b t
 | .flt b,u=>∃ t,u=Value.float b t
 | .ref a,u=>u=Value.ref a
 | .ty n,u=>u=Value.type n
abbrev Zb2:LV->LU->Prop:=Paired Zcm
theorem Zb2.length{xs:LV}{us:LU}(r:Zb2 xs us):xs.length=us.length:=Yy r
theorem Zb2.get:∀ {xs:LV}{us:LU}{i:Nat}{x:V},Zb2 xs us->xs[i]?=some x->∃ u,us[i]?=some u/\Zcm x u
 | _,_,_,_,.nil,e=>by simp at e
 | _,_,0,_,.cons r _,e=>by simp at e;subst e;exact⟨Z,r⟩
 | _,_,i + 1,x,.cons _ t,e=>by
  obtain⟨u,h1,h2⟩:=Zb2.get (i:=i) (x:=x) t (by simpa using e);exact⟨u,by simpa using h1,h2⟩
theorem Zb2.set{x:V}{u:Value}(r:Zcm x u):∀ {xs:LV}{us:LU}(i:Nat),Zb2 xs us->Zb2 (xs.set i x) (us.set i u)
 | _,_,_,.nil=>.nil
 | _,_,0,.cons _ t=>.cons r t
 | _,_,i + 1,.cons q t=>.cons q (Zb2.set r i t)
theorem Zb2.append:∀ {xs ys:LV}{us ws:LU},Zb2 xs us->Zb2 ys ws->Zb2 (xs++ys) (us++ws)
 | _,_,_,_,.nil,s=>s
 | _,_,_,_,.cons r t,s=>.cons r (Zb2.append t s)
theorem Zb2.take:∀ {xs:LV}{us:LU}(n:Nat),Zb2 xs us->Zb2 (xs.take n) (us.take n)
 | _,_,0,_=>.nil
 | _,_,_ + 1,.nil=>.nil
 | _,_,n + 1,.cons r t=>.cons r (Zb2.take n t)
theorem Zb2.drop:∀ {xs:LV}{us:LU}(n:Nat),Zb2 xs us->Zb2 (xs.drop n) (us.drop n)
 | _,_,0,r=>r
 | _,_,_ + 1,.nil=>.nil
 | _,_,n + 1,.cons _ t=>Zb2.drop n t
def Zqg:OV->OU->Prop
 | some v,some u=>Zcm v u
 | none,none=>True
 | _,_=>False
def KV{κ:Type}:List (κ×V)->List (κ×Value)->Prop:=Paired λ(p:κ×V) (q:κ×Value)=>p.1=q.1/\Zcm p.2 q.2
def kV:Key->V
 | .inl i=>.int i
 | .inr x=>.str x
inductive HO where
 | lst (xs:LV)
 | tup (xs:LV)
 | dK (kvs:KL) | dT (kvs:List (List Key×V))
 | set (S:Int->Bool) (n:Nat)
 | ins (C dx:Addr) (fs:List (Str×V))
 | own (x:Addr)
 | xd (fs:List (Str×V))
 | met (f x:Addr)
 | rng (lo hi:Int)
 | frz (o:Obj) (u:HO)
 | tbl (ps:Array Value)
 | ext (φ:Heap->Prop)
abbrev Hp:=Addr->Option HO
def upd(H:Hp)(a:Addr)(o:HO):Hp:=λb=>if b=a then some o else H b
def uS{H:Hp}{a:Addr}{o:HO}:upd H a o a=some o:=by unfold upd;rw[if_pos rfl]
def Zab{H:Hp}{a b:Addr}{o:HO}(h:b≠a):upd H a o b=H b:=by unfold upd;rw[if_neg h]
def Zgm{H:Hp}{a:Addr}{o u:HO}:upd (upd H a o) a u=upd H a u:=by
 funext b;unfold upd;split <;> rfl
def Z38{H:Hp}{a b:Addr}{o u:HO}(h:H a=some o)(h':H b=some u)(d:o≠u):a≠b:=by
 intro e;subst e;rw[h]at h';exact d (Ym h')
def nNo{H:Hp}{a b:Addr}{o:HO}(h:H a=some o)(h':H b=none):a≠b:=by
 intro e;subst e;rw[h]at h';cases h'
section
variable (P:Program)(w:World)
def Zcu(H:Hp)(h:Heap)(a:Addr):HO->Prop
 | .lst xs=>xs.length<=sizeLine/\∃(its:LU) (n:Nat),Zb2 xs its/\h.get? a=some {cls:=.type "list",data:=.seq its.toArray n}
 | .tup xs=>xs.length<=sizeLine/\∃ its:LU,Zb2 xs its/\IsTup h a its.toArray
 | .dK kvs=>kvs.length<=sizeLine/\(a == sysModules)=false/\∃ vs,KV kvs vs/\h.DictOf (Zbe P w) a vs
 | .dT kvs=>kvs.length<=sizeLine/\(a == sysModules)=false/\∃ xs:List (List Key×Addr×Value),
   Paired (λ(p:List Key×V) (q:List Key×Addr×Value)=>p.1=q.1/\H q.2.1=some (.tup (p.1.map kV))/\Zcm p.2 q.2.2) kvs xs /\
   ∃ o es ep,h.get? a=some o/\o.ExactDict/\o.data=.dict es ep/\es.toList=xs.map (entryOfKey (tupleKind (Zbe P w)))/\(xs.map (·.1)).Nodup
 | .set S n=>h.SetOf (intKind P w) a S n
 | .ins C dx fs=>H dx=some (.own a)/\fs.length<=1000/\dx≠a/\h.get? a=some (W.instObj C dx) /\
   ∃ mA,h.Ns1 dx mA/\(∀ f,Zqg (fs.lookup f) (mA f))/\PySem.Within mA (fs.map (·.1))
 | .own _=>∃ o,h.get? a=some o
 | .xd fs=>∃ mA,h.Ns1 a mA/\∀ f,Zqg (fs.lookup f) (mA f)
 | .rng lo hi=>∃ t u v,h.get? a=some {cls:=.type "range",data:=.fields #[.int lo t,.int hi u,.int 1 v] }
 | .frz o u=>h.get? a=some o/\Zcu H h a u
 | .tbl ps=>h.get? a=some {cls:=.none,data:=.fields ps}
 | .met f x=>h.get? a=some (W.methodObj (.ref f) (.ref x))
 | .ext φ=>φ h/\(∃ o,h.get? a=some o)/\∀ h1 h2:Heap,φ h1->(∀ o,h1.get? a=some o->h2.get? a=some o)->φ h2
def HOk(H:Hp)(h:Heap):Prop:=∀ a o,H a=some o->Zcu P w H h a o
end
section
variable {P:Program}{w:World}{H H':Hp}{h h':Heap}{a:Addr}{o:HO}
theorem Zcu.lt(x:Zcu P w H h a o):a<h.objs.size:=by
 cases o with
 | lst xs=>obtain⟨_,_,_,_,e⟩:=x;exact Yk e
 | tup xs=>obtain⟨_,_,_,p⟩:=x;exact p.lt
 | dK kvs=>obtain⟨_,_,_,_,o,_,_,e,_⟩:=x;exact Yk e
 | dT kvs=>obtain⟨_,_,_,_,o,_,_,e,_⟩:=x;exact Yk e
 | set S n=>obtain⟨o,_,_,_,e,_⟩:=x;exact Yk e
 | ins C dx fs=>obtain⟨_,_,_,e,_⟩:=x;exact Yk e
 | own y=>obtain⟨_,e⟩:=x;exact Yk e
 | xd fs=>obtain⟨_,⟨_,_,_,e,_⟩,_⟩:=x;exact Yk e
 | rng lo hi=>obtain⟨_,_,_,e⟩:=x;exact Yk e
 | frz ob u=>obtain⟨e,_⟩:=x;exact Yk e
 | tbl ps=>exact Yk (show h.get? a=some _ from x)
 | met f y=>exact Yk (show h.get? a=some _ from x)
 | ext φ=>obtain⟨_,⟨_,e⟩,_⟩:=x;exact Yk e
theorem Paired.mapP{α β:Type}{F G:α->β->Prop}:∀ {l₁:List α}{l₂:List β},Paired F l₁ l₂->(∀ a b,F a b->G a b)->Paired G l₁ l₂
 | _,_,.nil,_=>.nil
 | _,_,.cons r t,f=>.cons (f _ _ r) (Paired.mapP t f)
def Zcu.stay(x:Zcu P w H h a o)(k:∀ b u,(b=a\/H b=some (.own a))->h.get? b=some u->h'.get? b=some u)
  (ho:∀ b,H b=some (.own a)->H' b=some (.own a)) (ht:∀ b xs,H b=some (.tup xs)->H' b=some (.tup xs)):Zcu P w H' h' a o:=by
 induction o with
 | lst xs=>obtain⟨z,its,n,r,e⟩:=x;exact⟨z,its,n,r,k _ _ (.inl rfl) e⟩
 | tup xs=>obtain⟨z,its,r,ob,e,c⟩:=x;exact⟨z,its,r,ob,k _ _ (.inl rfl) e,c⟩
 | dK kvs=>obtain⟨z,y,vs,r,ob,es,ep,e,c⟩:=x;exact⟨z,y,vs,r,ob,es,ep,k _ _ (.inl rfl) e,c⟩
 | dT kvs =>
  obtain⟨z,y,xs,r,ob,es,ep,e,c⟩:=x;exact⟨z,y,xs,Paired.mapP r λp q z=>⟨z.1,ht _ _ z.2.1,z.2.2⟩,ob,es,ep,k _ _ (.inl rfl) e,c⟩
 | set S n=>obtain⟨ob,es,ep,t,e,c⟩:=x;exact⟨ob,es,ep,t,k _ _ (.inl rfl) e,c⟩
 | ins C dx fs =>
  obtain⟨d,z,ne,e,mA,⟨od,es,ep,e2,c⟩,r⟩:=x;exact⟨ho _ d,z,ne,k _ _ (.inl rfl) e,mA,⟨od,es,ep,k _ _ (.inr d) e2,c⟩,r⟩
 | own y=>obtain⟨ob,e⟩:=x;exact⟨ob,k _ _ (.inl rfl) e⟩
 | xd fs=>obtain⟨mA,⟨od,es,ep,e,c⟩,r⟩:=x;exact⟨mA,⟨od,es,ep,k _ _ (.inl rfl) e,c⟩,r⟩
 | rng lo hi=>obtain⟨t,u,v,e⟩:=x;exact⟨t,u,v,k _ _ (.inl rfl) e⟩
 | frz ob u ih=>obtain⟨e,q⟩:=x;exact⟨k _ _ (.inl rfl) e,ih q⟩
 | tbl ps =>
  have e:h.get? a=some {cls:=.none,data:=.fields ps}:=x;show h'.get? a=some {cls:=.none,data:=.fields ps};exact k a _ (.inl rfl) e
 | met f y =>
  have e:h.get? a=some (W.methodObj (.ref f) (.ref y)):=x;show h'.get? a=some (W.methodObj (.ref f) (.ref y));exact k a _ (.inl rfl) e
 | ext φ=>obtain⟨p,⟨o,e⟩,st⟩:=x;exact⟨st _ _ p λo q=>k _ _ (.inl rfl) q,⟨o,k _ _ (.inl rfl) e⟩,st⟩
theorem HOk.lt(x:HOk P w H h)(e:H a=some o):a<h.objs.size:=(x a o e).lt
def HOk.fresh(x:HOk P w H h)(e:h.objs.size<=a):H a=none:=by
 cases q:H a with
 | none=>rfl
 | some u=>exact absurd (Yi1 (x.lt q) e) (Yu3 _)
def HOk.kept(x:HOk P w H h)(k:∀ b u,h.get? b=some u->h'.get? b=some u):HOk P w H h':=λa o e =>
 (x a o e).stay (λb u _ q=>k b u q) (λ_ q=>q) λ_ _ q=>q
def HOk.laid(x:HOk P w H h)(k:∀ b u,h.get? b=some u->h'.get? b=some u)(hp:h.objs.size<=a)(new:Zcu P w (upd H a o) h' a o):HOk P w (upd H a o) h':=λb u e=>by
 have hn:=x.fresh hp;by_cases hb:b=a
 ·subst hb;rw[uS]at e;cases e;exact new
 ·rw[Zab hb]at e;exact(x b u e).stay (λc v _ q=>k c v q) (λc q=>by rw[Zab (nNo q hn)];exact q) λc xs q=>by rw[Zab (nNo q hn)];exact q
end
def Rd(H:Hp)(a:Addr)(u:HO):Prop:=H a=some u\/∃ o,H a=some (.frz o u)
def Rd.ok{P:Program}{w:World}{H:Hp}{h:Heap}{a:Addr}{u:HO}(r:Rd H a u)(x:HOk P w H h):Zcu P w H h a u:=by
 rcases r with r | ⟨o,r⟩
 ·exact x a u r
 ·obtain⟨_,q⟩:=x a _ r;exact q
def Mut:Option HO->Prop
 | some (.lst _)=>True
 | some (.dK _)=>True
 | some (.dT _)=>True
 | some (.set _ _)=>True
 | some (.ins _ _ _)=>True
 | some (.ext _)=>True
 | _=>False
section
variable {P:Program}{w:World}{H:Hp}{h h':Heap}{x e:Addr}{o':HO}
def HOk.write(ok:HOk P w H h)(mu:Mut (H x))(he:e=x\/H e=some (.own x))(k:∀ b u,b≠e->h.get? b=some u->h'.get? b=some u)(heo:∃ u,h'.get? e=some u)
  (new:Zcu P w (upd H x o') h' x o'):HOk P w (upd H x o') h':=λb u q=>by
 have nown:∀ c y,H c=some (.own y)->c≠x:=λc y r z=>by subst z;rw[r]at mu;exact mu
 have ntup:∀ c xs,H c=some (.tup xs)->c≠x:=λc xs r z=>by subst z;rw[r]at mu;exact mu
 by_cases hb:b=x
 ·subst hb;rw[uS]at q;cases q;exact new
 ·rw[Zab hb]at q;by_cases hbe:b=e
  ·have q':H b=some (.own x):=by
    rcases he with z | z
    ·exact absurd (hbe.trans z) hb
    ·rw[hbe];exact z
   rw[q]at q';cases q';obtain⟨v,hv⟩:=heo;exact⟨v,by rw[hbe];exact hv⟩
  ·refine(ok b u q).stay (λc v hc r=>k c v ?_ r) (λc r=>by rw[Zab (nown c b r)];exact r) λc xs r=>by rw[Zab (ntup c xs r)];exact r
   rcases hc with rfl | hc
   ·exact hbe
   ·rintro rfl
    rcases he with z | z
    ·exact nown c b hc z
    ·rw[hc]at z;cases z;exact hb rfl
end
structure Un(fs ex:List Addr)(H H':Hp)(h h':Heap):Prop where
 keep:∀ b o,h.get? b=some o->H b=none->b∉fs->b∉ex->h'.get? b=some o
 slot:∀ b o,h.get? b=some o->H b=none->b∈fs->b∉ex->∃ sl,h'.get? b=some {o with slots:=sl}
 free:∀ b o,h.get? b=some o->H b=none->b∉ex->H' b=none
 there:∀ b o,h.get? b=some o->b∉ex->∃ o',h'.get? b=some o'
 tups:∀ b xs,H b=some (.tup xs)->H' b=some (.tup xs)
 frzs:∀ b o u,H b=some (.frz o u)->H' b=some (.frz o u)
 tbls:∀ b ps,H b=some (.tbl ps)->∃ more,H' b=some (.tbl (ps++more))
section
variable {fs fs' ex ex':List Addr}{H H1 H2:Hp}{h h1 h2 h':Heap}{a x e:Addr}{o:HO}
def Un.any(u:Un fs ex H H1 h h1){b:Addr}{ob:Obj}(q:h.get? b=some ob)(n:H b=none)(hx:b∉ex):∃ sl,h1.get? b=some {ob with slots:=sl}:=by
 by_cases hb:b∈fs
 ·exact u.slot b ob q n hb hx
 ·exact⟨ob.slots,u.keep b ob q n hb hx⟩
def Un.kept(k:∀ b u,h.get? b=some u->h'.get? b=some u):Un fs ex H H h h' :=
 ⟨λb ob q _ _ _=>k b ob q,λb ob q _ _ _=>⟨ob.slots,k b ob q⟩,λ_ _ _ n _=>n,λb ob q _=>⟨ob,k b ob q⟩,λ_ _ q=>q,λ_ _ _ q=>q,λ_ ps q=>⟨#[],by rw[q];simp⟩⟩
def Un.refl:Un fs ex H H h h:=Un.kept λ_ _ q=>q
def Un.laid(k:∀ b u,h.get? b=some u->h'.get? b=some u)(hp:h.objs.size<=a)(hn:H a=none):Un fs ex H (upd H a o) h h' where
 keep:=λb u q _ _ _=>k b u q
 slot:=λb u q _ _ _=>⟨u.slots,k b u q⟩
 free:=λb u q n _=>by rw[Zab (Yx (Yi1 (Yk q) hp))];exact n
 there:=λb u q _=>⟨u,k b u q⟩
 tups:=λb xs q=>by rw[Zab (nNo q hn)];exact q
 frzs:=λb u xs q=>by rw[Zab (nNo q hn)];exact q
 tbls:=λb ps q=>⟨#[],by rw[Zab (nNo q hn),q];simp⟩
def Un.write(mu:Mut (H x))(he:e=x\/H e=some (.own x))(k:∀ b u,b≠e->h.get? b=some u->h'.get? b=some u)(heo:∃ u,h'.get? e=some u):Un fs ex H (upd H x o) h h':=by
 have hx:∀ b,H b=none->b≠x:=λb n z=>by subst z;rw[n]at mu;exact mu
 have hb:∀ b,H b=none->b≠e:=λb n z=>by
  subst z
  rcases he with r | r
  ·exact hx b n r
  ·rw[n]at r;cases r
 have hm:∀ b u,H b=some u->¬ Mut (some u)->b≠x:=λb u q nm z=>by subst z;rw[q]at mu;exact nm mu
 refine⟨λb u q n _ _=>k b u (hb b n) q,λb u q n _ _=>⟨u.slots,k b u (hb b n) q⟩,λb u q n _=>by rw[Zab (hx b n)];exact n,λb u q _=>?_,
  λb xs q=>by rw[Zab (hm b _ q λz=>z)];exact q,λb u xs q=>by rw[Zab (hm b _ q λz=>z)];exact q,λb ps q=>⟨#[],by rw[Zab (hm b _ q λz=>z),q];simp⟩⟩
 by_cases hbe:b=e
 ·subst hbe;exact heo
 ·exact⟨u,k b u hbe q⟩
end
def trk(h:Heap)(H:Hp):List Addr:=(List.range h.objs.size).filter λa=>(H a).isSome
def Z09(h:Heap)(H:Hp):Heap:=W.hideAll h (trk h H)
def Zx0(h:Heap)(H:Hp):(Z09 h H).objs.size=h.objs.size:=W.hideAll_size _ _
def Z08{h:Heap}{H:Hp}{b:Addr}{o:Obj}(e:h.get? b=some o)(n:H b=none):(Z09 h H).get? b=some o :=
 W.hideAll_get _ e λhm=>by
  have q:(H b).isSome=true:=(Yr3.mp hm).2;rw[n]at q;simp at q
def Z35{h:Heap}{H:Hp}{b:Addr}{o:Obj}(e:(Z09 h H).get? b=some o):h.get? b=some o/\H b=none:=by
 have e':h.get? b=some o:=W.of_hideAll (trk h H) e;refine⟨e',?_⟩;cases q:H b with
 | none=>rfl
 | some x =>
  have hm:b∈trk h H:=Yr3.mpr ⟨Yt2.mpr (Yk e'),by simp[q]⟩;have z:(Z09 h H).get? b=none:=W.hideAll_none (trk h H) hm;rw[z]at e;cases e
def Z48(g h:Heap)(L:Addr):PL:=(List.range h.objs.size).filterMap λa=>if a=L\/(g.get? a).isSome=true then none else(h.get? a).map λo=>(a,o)
def Zlx(g h:Heap)(L d:Addr):PL:=(Z48 g h L).filter λp=>decide (p.1≠d)
structure Mod(K:Fg)(mg:Str->OU)(base:Heap):Prop where
 kin:K.In base
 glob:base.Ns mainGlobals mg
 blt:∃ mb,base.Ns builtinsNs mb/\∀ x:Str,x≠"__name__"->mb x=bootBuiltins x
 nolimit:base.NoLimit
structure Cx where
 prog:Program
 w:World
 K:Fg
 mg:Str->OU
 base:Heap
 A:Around
 N:LS
 s₀:Shared
 H₀:Hp
 env:Env
 outer:List Env
 stack:List Env
 ex:List Addr
 fn:Str->Bool
 calm:Bool
 pn:PL
 xe:EV
def frs(l:List Env):List Addr:=l.filterMap (·.frame)
abbrev Cx.fs(X:Cx):List Addr:=frs X.outer
def Vis(sc:Scope)(x:Str):Prop:=sc.names.lookup x=some .local\/sc.names.lookup x=some .cell\/sc.names.lookup x=some .free
def Loc(sc:Scope)(x:Str):Prop:=sc.names.lookup x=some .local\/sc.names.lookup x=some .cell
def Yeh(env:Env)(h:Heap)(m:Str->OU)(x:Str)(u:Value):Prop :=
 (env.kindOf x=some .local/\m x=some u)\/((env.kindOf x=some .cell\/env.kindOf x=some .free)/\∃ c,env.cells.lookup x=some c/\h.IsCell c (some u))
structure Cx.Ok(X:Cx):Prop where
 mod:Mod X.K X.mg X.base
 kind:X.env.scope.kind=.function
 glob:X.env.globals=mainGlobals
 blt:X.env.builtins=builtinsNs
 above:X.s₀.heap.objs.size<=X.env.locals
 inj:∀ x y c,X.env.cells.lookup x=some c->X.env.cells.lookup y=some c->x=y
 has:∀ x,(X.env.kindOf x=some .cell\/X.env.kindOf x=some .free)->∃ c,X.env.cells.lookup x=some c
 cab:∀ x c,X.fn x=true->X.env.cells.lookup x=some c->X.s₀.heap.objs.size<=c
 hd:X.calm=true->X.A.handled=none
 frames:X.A.frames=some X.stack
 stk:X.stack=X.outer\/(X.stack=X.env :: X.outer/\X.env.frame=some X.env.locals)
 exf:∀ b∈X.ex,b≠X.env.locals/\∀ x c,X.env.cells.lookup x=some c->c≠b
 bs:∀ b o,X.base.get? b=some o->X.s₀.heap.get? b=some o/\X.H₀ b=none
 bsz:X.base.objs.size<=X.s₀.heap.objs.size
 noex:∀ b o,X.base.get? b=some o->b∉X.ex
 exfs:∀ b∈X.ex,b∉X.fs
 funs:X.s₀.heap.FunFrames X.base X.outer
 frf:∀ b∈X.fs,X.H₀ b=none
structure Inv(X:Cx)(pins:PL)(σ:List (OV))(H:Hp)(s:Shared):Prop where
 ok:X.Ok
 os:s.os=X.s₀.os
 bare:AllBare s.gens
 base:Un X.fs X.ex X.H₀ H X.s₀.heap s.heap
 loc:∃ m,s.heap.Ns X.env.locals m/\∀(i:Nat) (x:Str) (v:V),X.N[i]?=some x->σ[i]?=some (some v)->Vis X.env.scope x->∃ u,Zcm v u/\Yeh X.env s.heap m x u
 cell:∀ x c,X.env.cells.lookup x=some c->∃ v,s.heap.IsCell c v
 free:H X.env.locals=none
 freeC:∀ x c,X.env.cells.lookup x=some c->H c=none
 pin:∀ p∈X.pn++pins,s.heap.get? p.1=some p.2/\H p.1=none/\p.1≠X.env.locals/\p.1∉X.fs/\∀ v,p.2.data≠.cell v
 hok:HOk X.prog X.w H s.heap
 len:σ.length=X.N.length
section
variable {X:Cx}{pins:PL}{σ:List (OV)}{H H':Hp}{s:Shared}{h':Heap}
def Cx.Ok.nofr(ok:X.Ok){b:Addr}{o:Obj}(e:X.base.get? b=some o):b∉X.fs:=λhb=>by
 have:=(ok.funs.mem hb).1;rw[e]at this;cases this
theorem Inv.bs(I:Inv X pins σ H s):∀ b o,X.base.get? b=some o->s.heap.get? b=some o/\H b=none:=λb o e =>
 ⟨I.base.keep b o (I.ok.bs b o e).1 (I.ok.bs b o e).2 (I.ok.nofr e) (I.ok.noex b o e),I.base.free b o (I.ok.bs b o e).1 (I.ok.bs b o e).2 (I.ok.noex b o e)⟩
def Inv.bk(I:Inv X pins σ H s):∀ b o,X.base.get? b=some o->s.heap.get? b=some o:=λb o e=>(I.bs b o e).1
theorem Inv.mod(I:Inv X pins σ H s):Mod X.K X.mg X.base:=I.ok.mod
def Inv.kIn(I:Inv X pins σ H s):X.K.In s.heap:=I.ok.mod.kin.keeps I.bk
theorem Inv.lt(I:Inv X pins σ H s):X.env.locals<s.heap.objs.size:=let⟨_,hn,_⟩:=I.loc;hn.lt
def Inv.sz(I:Inv X pins σ H s):X.s₀.heap.objs.size<=s.heap.objs.size:=Yv1 I.ok.above (Nat.le_of_lt I.lt)
def Inv.nofs(I:Inv X pins σ H s){a:Addr}(h:s.heap.objs.size<=a):a∉X.fs:=λhb=>by
 obtain⟨_,o,ho,_⟩:=I.ok.funs.mem hb;exact absurd (Yi1 (Yk ho) (Yv1 I.sz h)) (Yu3 _)
def Inv.cne(I:Inv X pins σ H s):∀ x c,X.env.cells.lookup x=some c->c≠X.env.locals:=λx c e z=>by
 obtain⟨v,o,ho,hd⟩:=I.cell x c e;obtain⟨m,⟨o',es,ep,ho',hd',_⟩,_⟩:=I.loc;rw[z,ho']at ho;cases ho;rw[hd']at hd;cases hd
theorem Inv.funs(I:Inv X pins σ H s):s.heap.FunFrames X.base X.outer:=by
 have all:∀(l:List Env),(∀ b∈frs l,b∈X.fs)->X.s₀.heap.FunFrames X.base l->s.heap.FunFrames X.base l:=by
  intro l
  induction l with
  | nil=>intro _ _;trivial
  | cons env r ih =>
   intro hs hl;obtain⟨hk,⟨L,o,hf,hn,ho,hd⟩,hr⟩:=hl;have hL:L∈X.fs:=hs L (by unfold frs;rw[List.filterMap_cons,hf];exact Yh1);obtain⟨sl,e⟩:=I.base.slot L o ho (I.ok.frf L hL) hL λz=>I.ok.exfs L z hL;exact⟨hk,⟨L,_,hf,hn,e,hd⟩,ih (λb hb=>hs b (by unfold frs;rw[List.filterMap_cons,hf];exact Ys _ hb)) hr⟩
 exact all X.outer (λ_ hb=>hb) I.ok.funs
theorem Inv.stack(I:Inv X pins σ H s):s.heap.FunFrames X.base X.stack:=by
 rcases I.ok.stk with e | ⟨e,hf⟩
 ·rw[e];exact I.funs
 ·rw[e];obtain⟨m,hn,_⟩:=I.loc;refine .cons (by rw[I.ok.kind];decide) hf hn ?_ I.funs;exact Heap.get?_none_of_le (Yv1 I.ok.bsz I.ok.above)
def Inv.stkSub(I:Inv X pins σ H s):∀ b∈frs X.stack,b∈X.env.locals :: X.fs:=λb hb=>by
 rcases I.ok.stk with e | ⟨e,hf⟩
 ·rw[e]at hb;exact Ys _ hb
 ·rw[e]at hb;unfold frs at hb;rw[List.filterMap_cons,hf]at hb;exact hb
def Inv.stkFree(I:Inv X pins σ H s):∀ b∈frs X.stack,H b=none:=λb hb=>by
 rcases Yt.mp (I.stkSub b hb)with e | hb
 ·rw[e];exact I.free
 ·obtain⟨_,o,ho,_⟩:=I.ok.funs.mem hb;exact I.base.free b o ho (I.ok.frf b hb) λz=>I.ok.exfs b z hb
def Inv.step{g':Array GenState}{t':Nat}{d':Drawn}{ch:List Addr}(I:Inv X pins σ H s)
  (hch:∀ b∈ch,(b∈X.ex\/X.s₀.heap.objs.size<=b)/\b≠X.env.locals/\(∀ x c,X.env.cells.lookup x=some c->c≠b)/\∀ p∈X.pn++pins,p.1≠b)
  (keep:∀ b o,b≠X.env.locals->b∉X.fs->b∉ch->s.heap.get? b=some o->H b=none->h'.get? b=some o)
  (slot:∀ b o,b≠X.env.locals->b∈X.fs->b∉ch->s.heap.get? b=some o->H b=none->∃ sl,h'.get? b=some {o with slots:=sl}) (free:∀ b o,b∉ch->s.heap.get? b=some o->H b=none->H' b=none)
  (there:∀ b o,b∉ch->s.heap.get? b=some o->∃ o',h'.get? b=some o')
  (tups:∀ b xs,H b=some (.tup xs)->H' b=some (.tup xs)) (frzs:∀ b o u,H b=some (.frz o u)->H' b=some (.frz o u)) (tbls:∀ b ps,H b=some (.tbl ps)->∃ more,H' b=some (.tbl (ps++more)))
  (ns:∀ m,s.heap.Ns X.env.locals m->h'.Ns X.env.locals m) (hok:HOk X.prog X.w H' h') (hg:AllBare g'):
  Inv X pins σ H' {s with heap:=h',gens:=g',drawn:=d',toks:=t' }:=by
 have neL:∀ b o,X.s₀.heap.get? b=some o->b≠X.env.locals:=λb o e=>Yx (Yi1 (Yk e) I.ok.above);have neC:∀ b o,X.s₀.heap.get? b=some o->b∉X.ex->b∉ch:=λb o e hx hb=>by
  rcases(hch b hb).1 with z | z
  ·exact hx z
  ·exact absurd (Yi1 (Yk e) z) (Yu3 _)
 have cellK:∀ x c,X.env.cells.lookup x=some c->∀ v,s.heap.IsCell c v->h'.IsCell c v:=λx c e v ⟨o,ho,hd⟩=>by
  have nch:c∉ch:=λz=>(hch c z).2.2.1 x c e rfl;by_cases hc:c∈X.fs
  ·obtain⟨sl,q⟩:=slot c o (I.cne x c e) hc nch ho (I.freeC x c e);exact⟨_,q,hd⟩
  ·exact⟨o,keep c o (I.cne x c e) hc nch ho (I.freeC x c e),hd⟩
 refine⟨I.ok,I.os,hg,⟨λb o e n hb hx=>?_,λb o e n hb hx=>?_,λb o e n hx=>?_,λb o e hx=>?_,λb xs e=>tups b xs (I.base.tups b xs e),λb o xs e=>frzs b o xs (I.base.frzs b o xs e),λb ps e=>?_⟩,?_,λx c e=>?_,?_,λx c e=>?_,λp hp=>?_,hok,I.len⟩
 ·exact keep b o (neL b o e) hb (neC b o e hx) (I.base.keep b o e n hb hx) (I.base.free b o e n hx)
 ·obtain⟨sl,e1⟩:=I.base.slot b o e n hb hx;obtain⟨sl',e2⟩:=slot b _ (neL b o e) hb (neC b o e hx) e1 (I.base.free b o e n hx);exact⟨sl',e2⟩
 ·obtain⟨o',e1⟩:=I.base.there b o e hx;exact free b o' (neC b o e hx) e1 (I.base.free b o e n hx)
 ·obtain⟨o',e1⟩:=I.base.there b o e hx;exact there b o' (neC b o e hx) e1
 ·obtain⟨m1,e1⟩:=I.base.tbls b ps e;obtain⟨m2,e2⟩:=tbls b _ e1;exact⟨m1++m2,by rw[e2,Array.append_assoc]⟩
 ·obtain⟨m,hn,hl⟩:=I.loc;refine⟨m,ns m hn,λi x v e1 e2 e3=>?_⟩;obtain⟨u,r,l⟩:=hl i x v e1 e2 e3;refine⟨u,r,?_⟩
  rcases l with l | ⟨k,c,e,z⟩
  ·exact .inl l
  ·exact .inr ⟨k,c,e,cellK x c e _ z⟩
 ·obtain⟨v,z⟩:=I.cell x c e;exact⟨v,cellK x c e v z⟩
 ·obtain⟨m,⟨o,_,_,ho,_⟩,_⟩:=I.loc;exact free _ o (λz=>(hch _ z).2.1 rfl) ho I.free
 ·obtain⟨v,o,ho,hd⟩:=I.cell x c e;exact free c o (λz=>(hch c z).2.2.1 x c e rfl) ho (I.freeC x c e)
 ·obtain⟨e,n,ne,nf,d⟩:=I.pin p hp;have nch:p.1∉ch:=λz=>(hch p.1 z).2.2.2 p hp rfl;exact⟨keep p.1 p.2 ne nf nch e n,free p.1 p.2 nch e n,ne,nf,d⟩
def Inv.un{t':Nat}(I:Inv X pins σ H s)(u:Un X.fs [] H H' s.heap h')(hok:HOk X.prog X.w H' h'):Inv X pins σ H' {s with heap:=h',toks:=t' }:=by
 obtain⟨m,⟨o,es,ep,ho,r⟩,_⟩:=id I.loc;obtain⟨sl,hL⟩:=u.any ho I.free (by simp);exact I.step (g':=s.gens) (d':=s.drawn) (ch:=[]) (λ_ z=>nomatch z) (λb o _ hb _ e n=>u.keep b o e n hb (by simp)) (λb o _ hb _ e n=>u.slot b o e n hb (by simp)) (λb o _ e n=>u.free b o e n (by simp)) (λb o _ e=>u.there b o e (by simp)) u.tups u.frzs u.tbls (λm' hm=>by
  obtain⟨o',es',ep',ho',r'⟩:=hm;rw[ho]at ho';cases ho';exact⟨_,es',ep',hL,r'⟩) hok I.bare
def Inv.call{g':Array GenState}{t':Nat}{d':Drawn}{ch:List Addr}(I:Inv X pins σ H s)(u:Un (frs X.stack) ch H H' s.heap h')(hok:HOk X.prog X.w H' h')(hg:AllBare g')
  (hch:∀ b∈ch,(b∈X.ex\/X.s₀.heap.objs.size<=b)/\b≠X.env.locals/\(∀ x c,X.env.cells.lookup x=some c->c≠b)/\∀ p∈X.pn++pins,p.1≠b):
  Inv X pins σ H' {s with heap:=h',gens:=g',drawn:=d',toks:=t' }:=by
 obtain⟨m,⟨o,es,ep,ho,r⟩,_⟩:=id I.loc;obtain⟨sl,hL⟩:=u.any ho I.free λz=>(hch _ z).2.1 rfl;exact I.step (ch:=ch) hch (λb o hL hb hc e n=>u.keep b o e n (λz=>(Yt.mp (I.stkSub b z)).elim hL hb) hc) (λb o _ _ hc e n=>u.any e n hc) (λb o hc e n=>u.free b o e n hc) (λb o hc e=>u.there b o e hc) u.tups u.frzs u.tbls (λm' hm=>by
  obtain⟨o',es',ep',ho',r'⟩:=hm;rw[ho]at ho';cases ho';exact⟨_,es',ep',hL,r'⟩) hok hg
def Inv.turned{t':Nat}{it:Addr}(I:Inv X pins σ H s)(k:∀ b o,b≠it->s.heap.get? b=some o->h'.get? b=some o)(hn:H it=none)(hL:it≠X.env.locals)
  (h1:it∈X.ex\/X.s₀.heap.objs.size<=it) (h2:∀ x c,X.env.cells.lookup x=some c->c≠it) (h3:∀ p∈X.pn++pins,p.1≠it):Inv X pins σ H {s with heap:=h',toks:=t' }:=by
 have nit:∀ b u,H b=some u->b≠it:=λb u e z=>by rw[z,hn]at e;cases e
 refine I.step (g':=s.gens) (d':=s.drawn) (ch:=[it]) (λb hb=>?_) (λb o _ _ hc e _=>k b o (λz=>hc (by simp[z])) e) (λb o _ _ hc e _=>⟨o.slots,k b o (λz=>hc (by simp[z])) e⟩) (λ_ _ _ _ n=>n)
  (λb o hc e=>⟨o,k b o (λz=>hc (by simp[z])) e⟩) (λ_ _ e=>e) (λ_ _ _ e=>e) (λb ps e=>⟨#[],by rw[e];simp⟩) (λm hm=>?_) (λb u e=>?_) I.bare
 ·have e:b=it:=by simpa using hb
  subst e;exact⟨h1,hL,h2,h3⟩
 ·obtain⟨o,es,ep,ho,r⟩:=hm;exact⟨o,es,ep,k _ o (Yu hL) ho,r⟩
 ·refine(I.hok b u e).stay (λc v hc q=>k c v ?_ q) (λ_ q=>q) λ_ _ q=>q
  rcases hc with z | z
  ·rw[z];exact nit b u e
  ·exact nit c _ z
def Inv.tok(I:Inv X pins σ H s)(t:Nat):Inv X pins σ H {s with toks:=t}:=I.un (h':=s.heap) (t':=t) Un.refl I.hok
theorem Inv.kept{t':Nat}(I:Inv X pins σ H s)(k:∀ b u,s.heap.get? b=some u->h'.get? b=some u):Inv X pins σ H {s with heap:=h',toks:=t' }:=I.un (Un.kept k) (I.hok.kept k)
theorem Inv.laid{a:Addr}{o:HO}{t':Nat}(I:Inv X pins σ H s)(k:∀ b u,s.heap.get? b=some u->h'.get? b=some u)(hp:s.heap.objs.size<=a)(new:Zcu X.prog X.w (upd H a o) h' a o):
  Inv X pins σ (upd H a o) {s with heap:=h',toks:=t' }:=I.un (Un.laid k hp (I.hok.fresh hp)) (I.hok.laid k hp new)
theorem Inv.write{x e:Addr}{o:HO}{t':Nat}(I:Inv X pins σ H s)(mu:Mut (H x))(he:e=x\/H e=some (.own x))(k:∀ b u,b≠e->s.heap.get? b=some u->h'.get? b=some u)(heo:∃ u,h'.get? e=some u)
  (new:Zcu X.prog X.w (upd H x o) h' x o):Inv X pins σ (upd H x o) {s with heap:=h',toks:=t' }:=I.un (Un.write mu he k heo) (I.hok.write mu he k heo new)
def Inv.pins_of{pins':PL}(I:Inv X pins σ H s)(h:∀ p∈pins',s.heap.get? p.1=some p.2/\H p.1=none/\p.1≠X.env.locals/\p.1∉X.fs/\∀ v,p.2.data≠.cell v):Inv X pins' σ H s :=
 ⟨I.ok,I.os,I.bare,I.base,I.loc,I.cell,I.free,I.freeC,λp hp=>(Yl.mp hp).elim (λz=>I.pin p (Yu2 _ z)) (h p),I.hok,I.len⟩
def Zhk{N:LS}(hN:N.Nodup){i j:Nat}{x:Str}(a:N[i]?=some x)(b:N[j]?=some x):i=j:=by
 obtain⟨h1,e1⟩:=Yi.mp a;obtain⟨h2,e2⟩:=Yi.mp b;exact(List.getElem_inj hN).mp (e1.trans e2.symm)
def Zn6{M:Model}{A:Around}{E:EV}{i:Nat}{x:Str}{v:V}{u:Value}{Q:Unit->Shared->Prop}(I:Inv X pins σ H s)(hN:X.N.Nodup)(hi:X.N[i]?=some x)(hx:Loc X.env.scope x)(r:Zcm v u)
  (h:∀ s',Inv X pins (σ.set i (some v)) H s'->(∃ a,Heap.SameBut a s.heap s'.heap/\(a=X.env.locals\/X.env.cells.lookup x=some a))->Q () s') (hf:X.fn x=true\/X.env.scope.names.lookup x=some .local:=by first | exact .inl rfl | exact .inr rfl | assumption):wpAny M A (storeName X.env x u) Q E s:=by
 obtain⟨m,hn,hl⟩:=id I.loc;have hcls:(X.env.scope.kind == .class || (X.env.scope.kind == .module&&X.env.locals != X.env.globals))=false:=by rw[I.ok.kind];rfl
 have hiσ:i<σ.length:=by rw[I.len];exact(Yi.mp hi).1
 have cne:=I.cne;have tracked:∀ {a:Addr} {h':Heap},(∃ o,s.heap.get? a=some o/\H a=none)->Heap.SameBut a s.heap h'->HOk X.prog X.w H h':=λ{a h'} ha hs b ob e=>by
  obtain⟨_,_,hfree⟩:=ha;refine(I.hok b ob e).stay (λc w' hc q=>(hs.2 c ?_).trans q) (λ_ q=>q) λ_ _ q=>q;rintro rfl
  rcases hc with rfl | hc
  ·rw[hfree]at e;cases e
  ·rw[hfree]at hc;cases hc
 rcases hx with hk | hk
 ·refine wpAny_storeName_local hk hn (λh' hn' hs=>?_) hcls;obtain⟨oL,_,_,hoL,_⟩:=id hn;refine h _ ⟨I.ok,I.os,I.bare,⟨λb o e n hb hx=>?_,λb o e n hb hx=>?_,I.base.free,λb o e hx=>?_,I.base.tups,I.base.frzs,I.base.tbls⟩,⟨_,hn',λj y v' e1 e2 e3=>?_⟩,λy c e=>?_,I.free,I.freeC,λp hp=>?_,tracked ⟨oL,hoL,I.free⟩ hs,by simpa using I.len⟩ ⟨_,hs,.inl rfl⟩
  ·exact(hs.2 b (Yx (Yi1 (Yk e) I.ok.above))).trans (I.base.keep b o e n hb hx)
  ·obtain⟨sl,e1⟩:=I.base.slot b o e n hb hx;exact⟨sl,(hs.2 b (Yx (Yi1 (Yk e) I.ok.above))).trans e1⟩
  ·obtain⟨o',e1⟩:=I.base.there b o e hx;exact⟨o',(hs.2 b (Yx (Yi1 (Yk e) I.ok.above))).trans e1⟩
  ·by_cases hj:j=i
   ·subst hj;rw[hi]at e1;cases e1;rw[Yx4 hiσ]at e2;cases e2;exact⟨u,r,.inl ⟨hk,by simp⟩⟩
   ·rw[Yi5 (Yu hj)]at e2;obtain⟨u',r',q⟩:=hl j y v' e1 e2 e3;refine⟨u',r',?_⟩
    rcases q with⟨k,e⟩ | ⟨k,c,e,z⟩
    ·refine .inl ⟨k,?_⟩;have:y≠x:=λe=>hj (Zhk hN e1 (e ▸ hi));simp[this,e]
    ·exact .inr ⟨k,c,e,z.sameBut hs (cne y c e)⟩
  ·obtain⟨w',z⟩:=I.cell y c e;exact⟨w',z.sameBut hs (cne y c e)⟩
  ·obtain⟨e,n,ne,nf,d⟩:=I.pin p hp;exact⟨(hs.2 p.1 ne).trans e,n,ne,nf,d⟩
 ·have hfn:X.fn x=true:=by
   rcases hf with z | z
   ·exact z
   ·rw[z]at hk;cases hk
  obtain⟨c,hc⟩:=I.ok.has x (.inl hk);obtain⟨w',z⟩:=I.cell x c hc;refine wpAny_storeName_cell I.ok.kind hk hc z (λh' hc' hs=>?_);obtain⟨oc,hoc,hocd⟩:=id z;refine h {s with heap:=h' } ⟨I.ok,I.os,I.bare,⟨λb o e n hb hx=>?_,λb o e n hb hx=>?_,I.base.free,λb o e hx=>?_,I.base.tups,I.base.frzs,I.base.tbls⟩,⟨m,hn.sameBut hs (Yu (cne x c hc)),λj y v' e1 e2 e3=>?_⟩,λy c' e=>?_,I.free,I.freeC,λp hp=>?_,tracked ⟨oc,hoc,I.freeC x c hc⟩ hs,by simpa using I.len⟩ ⟨c,hs,.inr hc⟩
  ·exact(hs.2 b (Yx (Yi1 (Yk e) (I.ok.cab x c hfn hc)))).trans (I.base.keep b o e n hb hx)
  ·obtain⟨sl,e1⟩:=I.base.slot b o e n hb hx;exact⟨sl,(hs.2 b (Yx (Yi1 (Yk e) (I.ok.cab x c hfn hc)))).trans e1⟩
  ·obtain⟨o',e1⟩:=I.base.there b o e hx;exact⟨o',(hs.2 b (Yx (Yi1 (Yk e) (I.ok.cab x c hfn hc)))).trans e1⟩
  ·by_cases hj:j=i
   ·subst hj;rw[hi]at e1;cases e1;rw[Yx4 hiσ]at e2;cases e2;exact⟨u,r,.inr ⟨.inl hk,c,hc,hc'⟩⟩
   ·rw[Yi5 (Yu hj)]at e2;obtain⟨u',r',q⟩:=hl j y v' e1 e2 e3;refine⟨u',r',?_⟩
    rcases q with q | ⟨k,c',e,z'⟩
    ·exact .inl q
    ·refine .inr ⟨k,c',e,z'.sameBut hs ?_⟩;rintro rfl;exact hj (Zhk hN e1 (I.ok.inj _ _ _ e hc ▸ hi))
  ·by_cases hcc:c'=c
   ·subst hcc;exact⟨_,hc'⟩
   ·obtain⟨w2,z2⟩:=I.cell y c' e;exact⟨w2,z2.sameBut hs hcc⟩
  ·obtain⟨e,n,ne,nf,d⟩:=I.pin p hp;refine⟨(hs.2 p.1 ?_).trans e,n,ne,nf,d⟩;intro q;rw[q,hoc]at e;have q':oc=p.2:=Ym e;exact d w' (by rw[<- q'];exact hocd)
def Zry{M:Model}{A:Around}{E:EV}{i:Nat}{x:Str}{v:V}{u:Value}{Q:Unit->Shared->Prop}(I:Inv X pins σ H s)(hN:X.N.Nodup)(hi:X.N[i]?=some x)(hx:Loc X.env.scope x)(r:Zcm v u)
  (h:∀ s',Inv X pins (σ.set i (some v)) H s'->Q () s') (hf:X.fn x=true\/X.env.scope.names.lookup x=some .local:=by first | exact .inl rfl | exact .inr rfl | assumption):wpAny M A (storeName X.env x u) Q E s :=
 Zn6 I hN hi hx r (λs' I' _=>h s' I') hf
def Inv.call'{s':Shared}{ch:List Addr}(I:Inv X pins σ H s)(ho:s'.os=s.os)(u:Un (frs X.stack) ch H H' s.heap s'.heap)(hok:HOk X.prog X.w H' s'.heap)(hg:AllBare s'.gens)
  (hch:∀ b∈ch,(b∈X.ex\/X.s₀.heap.objs.size<=b)/\b≠X.env.locals/\(∀ x c,X.env.cells.lookup x=some c->c≠b)/\∀ p∈X.pn++pins,p.1≠b):Inv X pins σ H' s':=by
 obtain⟨h',g',d',t',o'⟩:=s';have e:o'=s.os:=ho;subst e;exact I.call (g':=g') (t':=t') (d':=d') u hok hg hch
end
abbrev XK:=Value->Option Addr->Hp->Prop
abbrev St:=List (OV)
abbrev VK:=V->Hp->Prop
abbrev _root_.SW:=St->Hp->Prop
abbrev _root_.NW:=Nat->St->Hp->Prop
abbrev TE:=St->Hp->VK->Prop
abbrev TT:=St->Hp->(Bool->Hp->Prop)->Prop
abbrev TA:=St->Hp->(LV->Hp->Prop)->Prop
structure Zza where
 nx:SW
 rt:VK
 bk:SW:=λ_ _=>False
 ct:SW:=λ_ _=>False
abbrev TS:=Zza->St->Hp->Prop
def EP(X:Cx)(pins:PL)(σ:St)(Q:VK)(u:Value)(s':Shared):Prop:=∃ v H',Inv X pins σ H' s'/\Zcm v u/\Q v H'
def TP(X:Cx)(pins:PL)(σ:St)(Q:Bool->Hp->Prop)(b:Bool)(s':Shared):Prop:=∃ H',Inv X pins σ H' s'/\Q b H'
def AP(X:Cx)(pins:PL)(σ:St)(Q:LV->Hp->Prop)(us:LU)(s':Shared):Prop:=∃ vs H',Inv X pins σ H' s'/\Zb2 vs us/\Q vs H'
def SP(X:Cx)(pins:PL)(D:Zza)(f:Flow)(s':Shared):Prop :=
 match f with
 | .next=>∃ σ' H',Inv X pins σ' H' s'/\D.nx σ' H'
 | .brk=>∃ σ' H',Inv X pins σ' H' s'/\D.bk σ' H'
 | .cont=>∃ σ' H',Inv X pins σ' H' s'/\D.ct σ' H'
 | .ret u=>∃ v σ' H',Inv X pins σ' H' s'/\Zcm v u/\D.rt v H'
def PE(X:Cx)(e:Expr)(t:TE):Prop :=
 ∀(pins:PL) (s:Shared) (σ:St) (H:Hp) (Q:VK),Inv X pins σ H s->t σ H Q->wpAny (model X.prog X.w) X.A (eval e X.env) (EP X pins σ Q) X.xe s
def PT(X:Cx)(e:Expr)(t:TT):Prop :=
 ∀(pins:PL) (s:Shared) (σ:St) (H:Hp) (Q:Bool->Hp->Prop),Inv X pins σ H s->t σ H Q->wpAny (model X.prog X.w) X.A (isTrue e X.env (eval e X.env)) (TP X pins σ Q) X.xe s
def PW(X:Cx)(e:Expr)(t:TT):Prop :=
 ∀(whole:Sem Value) (pins:PL) (s:Shared) (σ:St) (H:Hp) (Q:Bool->Hp->Prop),Inv X pins σ H s->t σ H Q->wpAny (model X.prog X.w) X.A (isTrue e X.env whole) (TP X pins σ Q) X.xe s
def PW.pt{X:Cx}{e:Expr}{t:TT}(h:PW X e t):PT X e t:=h _
def PA(X:Cx)(es:List Expr)(t:TA):Prop :=
 ∀(pos:Pos) (pins:PL) (s:Shared) (σ:St) (H:Hp) (Q:LV->Hp->Prop),Inv X pins σ H s->t σ H Q->wpAny (model X.prog X.w) X.A (spliced (backTo pos (starEach es X.env))) (AP X pins σ Q) X.xe s
def PS(X:Cx)(st:Stmt)(t:TS):Prop :=
 ∀(pins:PL) (s:Shared) (σ:St) (H:Hp) (D:Zza),Inv X pins σ H s->t D σ H->wpAny (model X.prog X.w) X.A (exec st X.env) (SP X pins D) X.xe s
def PSs(X:Cx)(st:List Stmt)(t:TS):Prop :=
 ∀(pins:PL) (s:Shared) (σ:St) (H:Hp) (D:Zza),Inv X pins σ H s->t D σ H->wpAny (model X.prog X.w) X.A (execs st X.env) (SP X pins D) X.xe s
def thn{α:Type}{t:Sem α}{Q Q':α->Shared->Prop}{M:Model}{A:Around}{E:EV}{s:Shared}(h:wpAny M A t Q E s)(hQ:∀ a s,Q a s->Q' a s):wpAny M A t Q' E s:=Jf h hQ λ_ _ x=>x
section
variable {X:Cx}
def Z8l(i:Nat):TE:=λσ H Q=>∃ v,σ[i]?=some (some v)/\Q v H
def tC(v:V):TE:=λ_ H Q=>Q v H
def Z6s{i:Nat}{x:Str}{pos:Pos}(hN:X.N[i]?=some x)(hv:Vis X.env.scope x)(hd:(x == ("__debug__":Str))=false:=by decide)(hcd:(x == ("__classdict__":Str))=false:=by decide):PE X (.Name x pos) (Z8l i):=by
 ac_rfl;obtain⟨v,e,h⟩:=h;obtain⟨m,hn,hl⟩:=I.loc;obtain⟨u,r,l⟩:=hl i x v hN e hv;have fin:EP X pins σ Q u s:=⟨v,H,I,r,h⟩
 rcases l with⟨hk,hm⟩ | ⟨hk,c,hc,hcell⟩
 ·exact wpAny_Name (wpAny_loadName_local I.ok.kind hk hn hm fin) hd
 ·rcases hk with hk | hk
  ·exact wpAny_Name (wpAny_loadName_cell I.ok.kind hk hc hcell fin) hd
  ·exact wpAny_Name (wpAny_loadName_free I.ok.kind hk hc hcell fin hcd) hd
def Zaf{i j pos}:PE X (.Constant (.int i) j pos) (tC (.int i)):=λ_ _ _ H _ I h=>wpAny_Constant_int ⟨.int i,H,I.tok _,⟨Z⟩,h⟩
def Zge{b j pos}:PE X (.Constant (.bool b) j pos) (tC (.bl b)):=λ_ _ _ H _ I h=>Constant_bool ⟨.bl b,H,I,Y,h⟩
def Zsh{j pos}:PE X (.Constant .none j pos) (tC .non):=λ_ _ _ H _ I h=>Constant_none ⟨.non,H,I,Y,h⟩
def Zbp{x j pos}:PE X (.Constant (.str x) j pos) (tC (.str x)):=λ_ _ _ H _ I h=>Calls.Constant_str ⟨.str x,H,I.tok _,⟨Z⟩,h⟩
def Gl(X:Cx)(x:Str):Prop:=X.env.kindOf x=some .globalImplicit
def Zq8{E:EV}{pins:PL}{s:Shared}{σ:St}{H:Hp}{x:Str}{u:Value}{pos:Pos}{Q:EV}(I:Inv X pins σ H s)(hg:Gl X x)(hm:X.mg x=some u)(h:Q u s)
  (hd:(x == ("__debug__":Str))=false:=by decide):wpAny (model X.prog X.w) X.A (eval (.Name x pos) X.env) Q E s :=
 Calls.Name_function_global I.ok.kind hg (Calls.loadGlobal_global (by rw[I.ok.glob];exact I.mod.glob.keeps I.bk) hm h) hd
def Ze0{E:EV}{pins:PL}{s:Shared}{σ:St}{H:Hp}{x:Str}{u:Value}{pos:Pos}{Q:EV}(I:Inv X pins σ H s)(hg:Gl X x)(hm:X.mg x=none)(hv:bootBuiltins x=some u)(h:Q u s)
  (hn:x≠"__name__":=by decide) (hd:(x == ("__debug__":Str))=false:=by decide):wpAny (model X.prog X.w) X.A (eval (.Name x pos) X.env) Q E s:=by
 obtain⟨mb,h1,h2⟩:=I.mod.blt;exact Calls.Name_function_global I.ok.kind hg (Calls.loadGlobal_builtin (by rw[I.ok.glob];exact I.mod.glob.keeps I.bk) hm (by rw[I.ok.blt];exact h1.keeps I.bk) ((h2 x hn).trans hv) h) hd
def Zdw{x:Str}{v:V}{u:Value}{pos:Pos}(hg:Gl X x)(hm:X.mg x=some u)(r:Zcm v u)(hd:(x == ("__debug__":Str))=false:=by decide):PE X (.Name x pos) (tC v):=
 λ_ _ _ H _ I h=>Zq8 I hg hm ⟨v,H,I,r,h⟩ hd
def Zkm{x:Str}{v:V}{u:Value}{pos:Pos}(hg:Gl X x)(hm:X.mg x=none)(hv:bootBuiltins x=some u)(r:Zcm v u)(hn:x≠"__name__":=by decide)(hd:(x == ("__debug__":Str))=false:=by decide):PE X (.Name x pos) (tC v):=
 λ_ _ _ H _ I h=>Ze0 I hg hm hv ⟨v,H,I,r,h⟩ hn hd
variable {a b:Expr}{ta tb:TE}{pos:Pos}
def PC(X:Cx)(op:CmpOp)(a b:Expr)(t:TE):Prop :=
 ∀(pins:PL) (s:Shared) (σ:St) (H:Hp) (Q:VK),Inv X pins σ H s->t σ H Q ->
  wpAny (model X.prog X.w) X.A (eval a X.env) (λv s₁=>wpAny (model X.prog X.w) X.A (eval b X.env) (λu s₂=>wpAny (model X.prog X.w) X.A (compareOp op v u) (EP X pins σ Q) X.xe s₂) X.xe s₁) X.xe s
def Zsr(b:Expr){op:CmpOp}(h:op≠.In)(h2:op≠.NotIn):behindInMarks op b=false:=by
 have e1:(op == CmpOp.In)=false:=by cases op <;> first | rfl | exact absurd rfl h
 have e2:(op == CmpOp.NotIn)=false:=by cases op <;> first | rfl | exact absurd rfl h2
 cases b <;> simp[behindInMarks,e1,e2]
def Z8p(ta:TE):TE:=λσ H Q=>ta σ H λx H1=>Q (.bl (!decide (x=.non))) H1
def Zcm.none_iff{x:V}{v:Value}(r:Zcm x v):(v == Value.none)=decide (x=.non):=by
 cases x with
 | non=>cases r;rfl
 | bl _=>cases r;rfl
 | int _=>obtain⟨t,rfl⟩:=r;rfl
 | str _=>obtain⟨t,rfl⟩:=r;rfl
 | byt _=>obtain⟨t,rfl⟩:=r;rfl
 | flt _=>obtain⟨t,rfl⟩:=r;rfl
 | ref _=>cases r;rfl
 | ty _=>cases r;rfl
def Zwq{j pos'}(ha:PE X a ta):PC X .IsNot a (.Constant .none j pos') (Z8p ta):=by
 ac_rfl;refine thn (ha pins s σ H _ I h) λv s1 ⟨x,H1,I1,r1,q1⟩=>?_;exact Constant_none (isnot_none_gen ⟨.bl _,H1,I1,by rw[r1.none_iff];rfl,q1⟩)
def tB(t:TE):TT:=λσ H Q=>t σ H λx H1=>∃ c,x=.bl c/\Q c H1
def Z2l{op:CmpOp}{t:TE}(h:PC X op a b t)(h1:behindInMarks op b=false:=by first | exact Zsr _ (by decide) (by decide) | rfl):PE X (.Compare a [op] [b] pos) t:=λpins s σ H Q I hw=>wpAny_Compare1 (h pins s σ H Q I hw) h1
def Zii{op:CmpOp}{t:TE}(h:PC X op a b t)(h1:behindInMarks op b=false:=by first | exact Zsr _ (by decide) (by decide) | rfl):PT X (.Compare a [op] [b] pos) (tB t):=by
 intro pins s σ H Q I hw;refine wpAny_isTrue_Compare1 (thn (h pins s σ H _ I hw) λv s1 h1=>thn h1 λu s2 h2=>thn h2 λc s3 ⟨x,H1,I1,r1,q1⟩=>?_) h1;obtain⟨d,rfl,q⟩:=q1;cases r1;exact Jh ⟨H1,I1,q⟩
def Zb1{e:Expr}{t:TE}(h:PE X e t)(he:∀ whole,isTrue e X.env whole=(do let v <- whole;standAt e.pos;holding [v] (truthy v)):=by intro _;rfl):PT X e (tB t):=by
 intro pins s σ H Q I hw;refine isTrue_plain (thn (h pins s σ H _ I hw) λv s1 ⟨x,H1,I1,r1,q1⟩=>?_) (he _);obtain⟨d,rfl,q⟩:=q1;cases r1;exact Jh ⟨H1,I1,q⟩
variable {tA tB':TT}{Zlx:List Expr}
def Ycz(t u:TT):TT:=λσ H Q=>t σ H λc H1=>if c=true then u σ H1 Q else Q false H1
def tOr(t u:TT):TT:=λσ H Q=>t σ H λc H1=>if c=true then Q true H1 else u σ H1 Q
def Yct(t:TT):TT:=λσ H Q=>t σ H λc H1=>Q (!c) H1
def Zi4(ha:PT X a tA):PW X (.BoolOp .And [a] pos) tA:=by
 intro wh pins s σ H Q I h;refine isTrue_and (thn (ha pins s σ H Q I h) λc s1 e=>?_);cases c with
 | true=>exact isTrue_and_nil e
 | false=>exact e
def Zgr(ha:PT X a tA):PW X (.BoolOp .Or [a] pos) tA:=by
 intro wh pins s σ H Q I h;refine isTrue_or (thn (ha pins s σ H Q I h) λc s1 e=>?_);cases c with
 | false=>exact isTrue_or_nil e
 | true=>exact e
def Zl0(ha:PT X a tA)(hb:PW X (.BoolOp .And (b :: Zlx) pos) tB'):PW X (.BoolOp .And (a :: b :: Zlx) pos) (Ycz tA tB'):=by
 intro wh pins s σ H Q I h;refine isTrue_and (thn (ha pins s σ H _ I h) λc s1 ⟨H1,I1,q1⟩=>?_);cases c with
 | true=>exact hb wh pins s1 σ H1 Q I1 q1
 | false=>exact⟨H1,I1,q1⟩
def Zhz(ha:PT X a tA)(hb:PW X (.BoolOp .Or (b :: Zlx) pos) tB'):PW X (.BoolOp .Or (a :: b :: Zlx) pos) (tOr tA tB'):=by
 intro wh pins s σ H Q I h;refine isTrue_or (thn (ha pins s σ H _ I h) λc s1 ⟨H1,I1,q1⟩=>?_);cases c with
 | true=>exact⟨H1,I1,q1⟩
 | false=>exact hb wh pins s1 σ H1 Q I1 q1
def Zcr(ha:PT X a tA):PT X (.UnaryOp .Not a pos) (Yct tA):=by
 ac_rfl;exact isTrue_not (ha pins s σ H (λc H1=>Q (!c) H1) I h)
def Z8x(ta tb:TE):TE:=λσ H Q=>ta σ H λx H1=>∃ c,x=.bl c/\if c=true then tb σ H1 Q else Q (.bl false) H1
def Ycs(ta tb:TE):TE:=λσ H Q=>ta σ H λx H1=>∃ c,x=.bl c/\if c=true then Q (.bl true) H1 else tb σ H1 Q
def Z8o(ta:TE):TE:=λσ H Q=>ta σ H λx H1=>∃ c,x=.bl c/\Q (.bl (!c)) H1
def Zgs{op}{t:TE}(h:PE X a t):PE X (.BoolOp op [a] pos) t:=λpins s σ H Q I hw=>BoolOp_one (h pins s σ H Q I hw)
def Zgt(ha:PE X a ta)(hb:PE X (.BoolOp .And (b :: Zlx) pos) tb):PE X (.BoolOp .And (a :: b :: Zlx) pos) (Z8x ta tb):=by
 ac_rfl;refine BoolOp_and (thn (ha pins s σ H _ I h) λv s1 ⟨x,H1,I1,r1,q1⟩=>?_);obtain⟨c,rfl,q1⟩:=q1;cases r1;refine Jh ?_;cases c with
 | true=>exact hb pins s1 σ H1 Q I1 q1
 | false=>exact⟨.bl false,H1,I1,Y,q1⟩
def Z6t(ha:PE X a ta)(hb:PE X (.BoolOp .Or (b :: Zlx) pos) tb):PE X (.BoolOp .Or (a :: b :: Zlx) pos) (Ycs ta tb):=by
 ac_rfl;refine BoolOp_or (thn (ha pins s σ H _ I h) λv s1 ⟨x,H1,I1,r1,q1⟩=>?_);obtain⟨c,rfl,q1⟩:=q1;cases r1;refine Jh ?_;cases c with
 | false=>exact hb pins s1 σ H1 Q I1 q1
 | true=>exact⟨.bl true,H1,I1,Y,q1⟩
def Z6u(ha:PE X a ta):PE X (.UnaryOp .Not a pos) (Z8o ta):=by
 ac_rfl;refine UnaryOp_ (thn (ha pins s σ H _ I h) λv s1 ⟨x,H1,I1,r1,q1⟩=>?_);obtain⟨c,rfl,q1⟩:=q1;cases r1;exact not_of (Jh ⟨.bl (!c),H1,I1,Y,q1⟩)
end
def SqL(K:Fg)(H:Hp)(a:Addr)(xs:LV):Prop :=
 Rd H a (.lst xs) \/
  ∃(o:Obj) (its:Array Value) (n:Nat),K.lookup a=some o/\o.cls=.type "list"/\o.dict=none/\o.data=.seq its n/\its.size<=sizeLine/\Zb2 xs its.toList
def SqT(K:Fg)(H:Hp)(a:Addr)(xs:LV):Prop :=
 Rd H a (.tup xs) \/
  ∃(o:Obj) (its:Array Value) (n:Nat),K.lookup a=some o/\o.cls=.type "tuple"/\o.data=.seq its n/\its.size<=sizeLine/\Zb2 xs its.toList
def Yec:Value->OV
 | .none=>some .non
 | .bool b=>some (.bl b)
 | .int i _=>some (.int i)
 | .str x _=>some (.str x)
 | .bytes b _=>some (.byt b)
 | .float b _=>some (.flt b)
 | .ref a=>some (.ref a)
 | .type n=>some (.ty n)
 | _=>none
def Zcm.abs{x:V}{u:Value}(r:Zcm x u):Yec u=some x:=by
 cases x with
 | non=>cases r;rfl
 | bl _=>cases r;rfl
 | int _=>obtain⟨t,rfl⟩:=r;rfl
 | str _=>obtain⟨t,rfl⟩:=r;rfl
 | byt _=>obtain⟨t,rfl⟩:=r;rfl
 | flt _=>obtain⟨t,rfl⟩:=r;rfl
 | ref _=>cases r;rfl
 | ty _=>cases r;rfl
theorem Zcm.inj{x y:V}{u:Value}(r:Zcm x u)(q:Zcm y u):x=y:=Ym (r.abs.symm.trans q.abs)
theorem Zb2.inj:∀ {xs ys:LV}{us:LU},Zb2 xs us->Zb2 ys us->xs=ys
 | _,_,_,.nil,.nil=>rfl
 | _,_,_,.cons r t,.cons r' t'=>by rw[r.inj r',Zb2.inj t t']
section
variable {X:Cx}{pins:PL}{σ:St}{H:Hp}{s:Shared}{a:Addr}{xs ys:LV}
def SqL.of{K:Fg}(h:H a=some (.lst xs)):SqL K H a xs:=.inl (.inl h)
def SqT.of{K:Fg}(h:H a=some (.tup xs)):SqT K H a xs:=.inl (.inl h)
def Inv.list(I:Inv X pins σ H s)(h:SqL X.K H a xs):∃ its:LU,Zb2 xs its/\PlainL s.heap a its.toArray/\xs.length<=sizeLine:=by
 rcases h with h | ⟨o,its,n,hk,hc,hd,hs,hz,r⟩
 ·obtain⟨z,its,n,r,e⟩:=h.ok I.hok;exact⟨its,r,⟨_,n,e,Y,Y,Y⟩,z⟩
 ·refine⟨its.toList,r,⟨o,n,I.kIn a o hk,hc,hd,by simpa using hs⟩,?_⟩;have e:=r.length;simp only[Yg3]at e;omega
def Inv.tuple(I:Inv X pins σ H s)(h:SqT X.K H a xs):∃ its:LU,Zb2 xs its/\IsTup s.heap a its.toArray/\xs.length<=sizeLine:=by
 rcases h with h | ⟨o,its,n,hk,hc,hs,hz,r⟩
 ·obtain⟨z,its,r,p⟩:=h.ok I.hok;exact⟨its,r,p,z⟩
 ·refine⟨its.toList,r,⟨o,I.kIn a o hk,hc,n,by simpa using hs⟩,?_⟩;have e:=r.length;simp only[Yg3]at e;omega
def Inv.list_inj(I:Inv X pins σ H s)(h:SqL X.K H a xs)(h':SqL X.K H a ys):xs=ys:=by
 obtain⟨its,r,⟨o,n,e,_,_,d⟩,_⟩:=I.list h;obtain⟨its',r',⟨o',n',e',_,_,d'⟩,_⟩:=I.list h';rw[e]at e';cases e';rw[d]at d';injection d' with d1 _;have:its=its':=by simpa using congrArg Array.toList d1
 subst this;exact r.inj r'
def Inv.tuple_inj(I:Inv X pins σ H s)(h:SqT X.K H a xs)(h':SqT X.K H a ys):xs=ys:=by
 obtain⟨its,r,⟨o,e,_,n,d⟩,_⟩:=I.tuple h;obtain⟨its',r',⟨o',e',_,n',d'⟩,_⟩:=I.tuple h';rw[e]at e';cases e';rw[d]at d';injection d' with d1 _;have:its=its':=by simpa using congrArg Array.toList d1
 subst this;exact r.inj r'
end
abbrev Cx.wish(X:Cx)(E:EV):Cx:={X with xe:=E}
abbrev Cx.nox(X:Cx):Cx:=X.wish λ_ _=>False
theorem Cx.Ok.wish{X:Cx}(ok:X.Ok)(E:EV):(X.wish E).Ok :=
 ⟨ok.mod,ok.kind,ok.glob,ok.blt,ok.above,ok.inj,ok.has,ok.cab,ok.hd,ok.frames,ok.stk,ok.exf,ok.bs,ok.bsz,ok.noex,ok.exfs,ok.funs,ok.frf⟩
def Cx.Ok.unwish{X:Cx}{E:EV}(ok:(X.wish E).Ok):X.Ok :=
 ⟨ok.mod,ok.kind,ok.glob,ok.blt,ok.above,ok.inj,ok.has,ok.cab,ok.hd,ok.frames,ok.stk,ok.exf,ok.bs,ok.bsz,ok.noex,ok.exfs,ok.funs,ok.frf⟩
section
variable {X:Cx}{pins:PL}{σ:St}{H:Hp}{s:Shared}{E:EV}
theorem Inv.wish(I:Inv X pins σ H s)(E:EV):Inv (X.wish E) pins σ H s:=⟨I.ok.wish E,I.os,I.bare,I.base,I.loc,I.cell,I.free,I.freeC,I.pin,I.hok,I.len⟩
theorem Inv.unwish(I:Inv (X.wish E) pins σ H s):Inv X pins σ H s:=⟨I.ok.unwish,I.os,I.bare,I.base,I.loc,I.cell,I.free,I.freeC,I.pin,I.hok,I.len⟩
theorem SP.unwish{D:Zza}{f:Flow}{s':Shared}(h:SP (X.wish E) pins D f s'):SP X pins D f s':=by
 cases f with
 | next=>obtain⟨σ',H',I,q⟩:=h;exact⟨σ',H',I.unwish,q⟩
 | brk=>obtain⟨σ',H',I,q⟩:=h;exact⟨σ',H',I.unwish,q⟩
 | cont=>obtain⟨σ',H',I,q⟩:=h;exact⟨σ',H',I.unwish,q⟩
 | ret u=>obtain⟨v,σ',H',I,r,q⟩:=h;exact⟨v,σ',H',I.unwish,r,q⟩
theorem PSs.nox{st:List Stmt}{t:TS}(h:PSs X.nox st t):PSs X st t:=λpins s σ H D I hw =>
 Jf (h pins s σ H D (I.wish _) hw) (λ_ _ q=>q.unwish) λ_ _ z=>False.elim z
end
section
variable {X:Cx}{st:Stmt}{Zlx:List Stmt}{t u:TS}{e:Expr}{te:TE}{pos:Pos}
def Z8r:TS:=λD σ H=>D.nx σ H
def Zau(t u:TS):TS:=λD σ H=>t {D with nx:=u D} σ H
def Zal:PSs X [] Z8r:=λ_ _ σ H _ I h=>wpAny_execs_nil ⟨σ,H,I,h⟩
def pS(h1:PS X st t)(h2:PSs X Zlx u):PSs X (st :: Zlx) (Zau t u):=by
 intro pins s σ H D I h;refine wpAny_execs_cons (thn (h1 pins s σ H {D with nx:=u D} I h) λf s1 q=>?_);cases f with
 | next =>
  obtain⟨σ',H',I',q⟩:=q;exact h2 pins s1 σ' H' D I' q
 | ret v=>exact q
 | brk=>exact q
 | cont=>exact q
def Zac(h1:PS X st t):PSs X [st] t:=by
 intro pins s σ H D I h;refine wpAny_execs_cons (thn (h1 pins s σ H D I h) λf s1 q=>?_);cases f with
 | next=>exact wpAny_execs_nil q
 | ret v=>exact q
 | brk=>exact q
 | cont=>exact q
def Inv.quiet{pins:PL}{σ:St}{H:Hp}{s:Shared}(I:Inv X pins σ H s):interactive X.env=false:=by simp[interactive,I.ok.kind]
def Z8t(te:TE):TS:=λD σ H=>te σ H λ_ H1=>D.nx σ H1
def Za4(he:PE X e te)(hs:swapsWith e none pos.line X.env=pure false:=by rfl):PS X (.Expr e pos) (Z8t te):=by
 intro pins s σ H D I h;exact wpAny_Expr_any (thn (he pins s σ H _ I h) λv s1 ⟨x,H1,I1,r1,q1⟩=>⟨σ,H1,I1,q1⟩) I.quiet hs
def Ycr(te:TE):TS:=λD σ H=>te σ H D.rt
def Zak(he:PE X e te):PS X (.Return (some e) pos) (Ycr te):=by
 intro pins s σ H D I h;exact wpAny_Return_some (thn (he pins s σ H _ I h) λv s1 ⟨x,H1,I1,r1,q1⟩=>⟨x,σ,H1,I1,r1,q1⟩)
def Zlg(c:TT)(t u:TS):TS:=λD σ H=>c σ H λb H1=>if b=true then t D σ H1 else u D σ H1
def Za0{c:Expr}{a b:List Stmt}{tc:TT}(hc:PT X c tc)(ha:PSs X a t)(hb:PSs X b u):PS X (.If c a b pos) (Zlg tc t u):=by
 intro pins s σ H D I h;refine wpAny_If (thn (hc pins s σ H _ I h) λd s1 ⟨H1,I1,q1⟩=>?_);cases d with
 | true=>exact ha pins s1 σ H1 D I1 q1
 | false=>exact hb pins s1 σ H1 D I1 q1
def Z5x:TS:=λ_ _ _=>False
def Zay{sts:List Stmt}:PSs X sts Z5x:=λ_ _ _ _ _ _ h=>h.elim
end
abbrev TG:=V->St->Hp->(St->Hp->Prop)->Prop
abbrev TGs:=LV->St->Hp->(St->Hp->Prop)->Prop
def PG(X:Cx)(target:Expr)(t:TG):Prop :=
 ∀(pins:PL) (s:Shared) (σ:St) (H:Hp) (v:V) (u:Value) (Q:SW),Inv X pins σ H s->Zcm v u->t v σ H Q ->
  wpAny (model X.prog X.w) X.A (assign target X.env u) (λ_ s'=>∃ σ' H',Inv X pins σ' H' s'/\Q σ' H') X.xe s
def PGs(X:Cx)(ts:List Expr)(t:TGs):Prop :=
 ∀(pins:PL) (s:Shared) (σ:St) (H:Hp) (vs:LV) (us:LU) (Q:SW),Inv X pins σ H s->Zb2 vs us->t vs σ H Q ->
  wpAny (model X.prog X.w) X.A (assignInOrder ((assignEach ts X.env).map (·.2)) us) (λ_ s'=>∃ σ' H',Inv X pins σ' H' s'/\Q σ' H') X.xe s
abbrev Yat:=V->V->V->Hp->(Hp->Prop)->Prop
def Ycm(X:Cx)(t:Yat):Prop :=
 ∀(pins:PL) (s:Shared) (σ:St) (H:Hp) (o i v:V) (ov iv u:Value) (Q:Hp->Prop),Inv X pins σ H s->Zcm o ov->Zcm i iv->Zcm v u->t o i v H Q ->
  wpAny (model X.prog X.w) X.A (setItem ov iv u) (λ_ s'=>∃ H',Inv X pins σ H' s'/\Q H') X.xe s
section
variable {X:Cx}{pos:Pos}
def Zgy(i:Nat):TG:=λv σ H Q=>Q (σ.set i (some v)) H
def Zai{i:Nat}{x:Str}(hN:X.N.Nodup)(hi:X.N[i]?=some x)(hx:Loc X.env.scope x)(hf:X.fn x=true\/X.env.scope.names.lookup x=some .local:=by first | exact .inl rfl | exact .inr rfl | assumption):PG X (.Name x pos) (Zgy i):=by
 intro pins s σ H v u Q I r h;exact wpAny_assign_Name (Zry I hN hi hx r (λs' I'=>⟨_,H,I',h⟩) hf)
def gE(i:Nat){x:Str}(hN:X.N.Nodup)(hi:X.N[i]?=some x:=by rfl)(hx:Loc X.env.scope x:=by exact Or.inl rfl)(hf:X.fn x=true\/X.env.scope.names.lookup x=some .local:=by first | exact .inl rfl | exact .inr rfl | assumption):PG X (.Name x pos) (Zgy i):=Zai hN hi hx hf
def Yci:TGs:=λvs σ H Q=>vs=[]/\Q σ H
def Z4q(t:TG)(u:TGs):TGs:=λvs σ H Q=>∃ v r,vs=v :: r/\t v σ H λσ' H'=>u r σ' H' Q
def Zc0:PGs X [] Yci:=by
 intro pins s σ H vs us Q I r h;obtain⟨e,h⟩:=h;subst e;cases r;exact assignInOrder_nil ⟨σ,H,I,h⟩
def gC{e:Expr}{es:List Expr}{t:TG}{u:TGs}(h1:PG X e t)(h2:PGs X es u)
  (hs:(assignEach (e :: es) X.env).map (·.2)=assign e X.env :: (assignEach es X.env).map (·.2):=by rfl):PGs X (e :: es) (Z4q t u):=by
 intro pins s σ H vs us Q I r h;obtain⟨v,vr,e1,h⟩:=h;subst e1;cases r with
 | cons r rr =>
  rw[hs];refine assignInOrder_cons (thn (h1 pins s σ H _ _ _ I r h) λ_ s1 ⟨σ1,H1,I1,q1⟩=>?_);exact h2 pins s1 σ1 H1 _ _ Q I1 rr q1
def Ych(K:Fg)(n:Nat)(t:TGs):TG:=λv σ H Q=>∃ a xs,v=.ref a/\SqT K H a xs/\xs.length=n/\t xs σ H Q
def Zeg{es:List Expr}{k:Nat}{t:TGs}{n:Nat}(hc:X.calm=true)(h:PGs X es t)
  (hn:(assignEach es X.env).length=n:=by rfl) (hst:(assignEach es X.env).findIdx? (·.1)=none:=by rfl):PG X (.Tuple es k pos) (Ych X.K n t):=by
 intro pins s σ H v u Q I r hw;obtain⟨a,xs,e1,hq,hl,hw⟩:=hw;subst e1;cases r;obtain⟨its,rv,ht,hz⟩:=I.tuple hq;refine assign_Tuple_tuple (I.ok.hd hc) ht (by simp[hn,<- hl,rv.length]) hst λh' hx=>?_;have I1:Inv X pins σ H {s with heap:=h' }:=I.kept (t':=s.toks) λb o e=>hx b o (Yx (Yk e)) e;exact h pins _ σ H xs _ Q I1 (by simpa using rv) hw
def Yd6(to ti:TE)(t:Yat):TG:=λv σ H Q=>to σ H λo H1=>ti σ H1 λi H2=>t o i v H2 λH3=>Q σ H3
def Zwn{o i:Expr}{to ti:TE}{t:Yat}(ho:PE X o to)(hi:PE X i ti)(hs:Ycm X t)
  (ha:∀ v,assign (.Subscript o i pos) X.env v=(do
   let ov <- holding [v] (eval o X.env);let iv <- holding [v,ov] (eval i X.env)
   standAt pos
   holding [v,ov,iv] (setItem ov iv v)
   release [v,ov,iv] []):=by intro _;rfl):PG X (.Subscript o i pos) (Yd6 to ti t):=by
 intro pins s σ H v u Q I r h;rw[ha];refine Ja (Jj (thn (ho pins s σ H _ I h) λov s1 ⟨x,H1,I1,r1,q1⟩=>?_));refine Ja (Jj (thn (hi pins s1 σ H1 _ I1 q1) λiv s2 ⟨y,H2,I2,r2,q2⟩=>?_));refine Ja (wpAny_standAt (Ja (Jj (thn (hs pins s2 σ H2 x y v ov iv u _ I2 r1 r2 r q2) λ_ s3 ⟨H3,I3,q3⟩=>?_))));exact wpAny_release ⟨σ,H3,I3,q3⟩
def Z14(te:TE)(g:TG):TS:=λD σ H=>te σ H λx H1=>g x σ H1 D.nx
def Zsf{tg e:Expr}{te:TE}{g:TG}(he:PE X e te)(hg:PG X tg g)(hs:swapsWithSole [tg] e pos.line X.env=pure false:=by rfl)(hw:swappedStores [tg] e X.env=pure none:=by rfl)
  (h1:(assignEach [tg] X.env).map (·.2)=[assign tg X.env]:=by rfl):PS X (.Assign [tg] e pos) (Z14 te g):=by
 intro pins s σ H D I h;refine wpAny_Assign_stores (thn (he pins s σ H _ I h) λv s1 ⟨x,H1,I1,r1,q1⟩=>?_) hs hw;rw[h1];exact thn (hg pins s1 σ H1 x v _ I1 r1 q1) λ_ s2 q=>q
def Zag{i:Nat}{x:Str}{e:Expr}{te:TE}{pos':Pos}(hN:X.N.Nodup)(hi:X.N[i]?=some x)(hx:Loc X.env.scope x)(he:PE X e te)(hs:swapsWith e (some (.Name x pos')) pos.line X.env=pure false:=by rfl)(hf:X.fn x=true\/X.env.scope.names.lookup x=some .local:=by first | exact .inl rfl | exact .inr rfl | assumption):
  PS X (.Assign [.Name x pos'] e pos) (Z14 te (Zgy i)):=by
 intro pins s σ H D I h;refine wpAny_Assign_Name (thn (he pins s σ H _ I h) λv s1 ⟨y,H1,I1,r1,q1⟩=>?_) hs;exact Zry I1 hN hi hx r1 (λs2 I2=>⟨_,H1,I2,q1⟩) hf
def sE(i:Nat){x:Str}{e:Expr}{te:TE}{pos':Pos}(hN:X.N.Nodup)(he:PE X e te)(hi:X.N[i]?=some x:=by rfl)(hx:Loc X.env.scope x:=by exact Or.inl rfl)(hs:swapsWith e (some (.Name x pos')) pos.line X.env=pure false:=by rfl)(hf:X.fn x=true\/X.env.scope.names.lookup x=some .local:=by first | exact .inl rfl | exact .inr rfl | assumption):PS X (.Assign [.Name x pos'] e pos) (Z14 te (Zgy i)):=Zag hN hi hx he hs hf
end
section
variable {X:Cx}{pos:Pos}
def Zn5(c:TT)(tb:TS):TS:=λD σ H=>∃ W:NW,(∃ m,W m σ H)/\∀ m σ H,W m σ H ->
 c σ H λb H1=>if b=true then ∃ N:SW,(∀ σ' H',N σ' H'->∃ m',m'<m/\W m' σ' H')/\tb {D with nx:=N,ct:=N,bk:=D.nx} σ H1 else D.nx σ H1
def Zhi{c:Expr}{body:List Stmt}{tc:TT}{tb:TS}(hp:PassesOwn (model X.prog X.w) X.A X.env X.xe)(hc:PT X c tc)(hb:PSs X body tb):PS X (.While c body [] pos) (Zn5 tc tb):=by
 intro pins s σ H D I h;obtain⟨W,⟨m0,w0⟩,turn⟩:=h;refine wpAny_While (codeAny_whileLoop (λn s'=>∃ σ' H',Inv X pins σ' H' s'/\W n σ' H') ?_ m0 ⟨σ,H,I,w0⟩);rintro n s1 ⟨σ1,H1,I1,w1⟩;refine wpAny_passesOwn hp (thn (hc pins s1 σ1 H1 _ I1 (turn n σ1 H1 w1)) λb s2 ⟨H2,I2,q2⟩=>?_);cases b with
 | true =>
  obtain⟨N,hN,q2⟩:=q2;rw[if_pos rfl];refine wpAny_passesOwn hp (thn (hb pins s2 σ1 H2 _ I2 q2) λf s3 q3=>?_);cases f with
  | next =>
   obtain⟨σ3,H3,I3,n3⟩:=q3;obtain⟨m',hm,w3⟩:=hN σ3 H3 n3;exact⟨m',hm,σ3,H3,I3,w3⟩
  | cont =>
   obtain⟨σ3,H3,I3,n3⟩:=q3;obtain⟨m',hm,w3⟩:=hN σ3 H3 n3;exact⟨m',hm,σ3,H3,I3,w3⟩
  | brk=>exact q3
  | ret v=>exact q3
 | false =>
  rw[if_neg Yq];exact wpAny_execs_nil ⟨σ1,H2,I2,q2⟩
end
structure It where
 go:Nat->Hp->Prop
 yld:Nat->Hp->V->Hp->Prop
 stop:Nat->Hp->Prop
def Zrq(X:Cx)(pins:PL)(H:Hp)(b:Addr):Prop :=
 H b=none/\b≠X.env.locals/\b∉X.fs/\(b∈X.ex\/X.s₀.heap.objs.size<=b)/\(∀ x c,X.env.cells.lookup x=some c->c≠b)/\∀ p∈X.pn++pins,p.1≠b
def Inv.fpOk{X:Cx}{pins:PL}{σ:St}{H H':Hp}{s:Shared}{b:Addr}(I:Inv X pins σ H s)(hb:s.heap.objs.size<=b)(hn:H' b=none):Zrq X pins H' b:=by
 refine⟨hn,Ys1 (Yi1 I.lt hb),I.nofs hb,.inr (Yv1 I.sz hb),λx c e z=>?_,λp hp z=>?_⟩
 ·obtain⟨v,q⟩:=I.cell x c e;exact absurd (Yi1 q.lt (by rw[z];exact hb)) (Yu3 _)
 ·exact absurd (Yi1 (Yk (I.pin p hp).1) (by rw[z];exact hb)) (Yu3 _)
structure Zqe(P:Program)(w:World)(K:Fg)(tg:Expr)(J:It)(fp:List Addr)(it:Addr)(tn:Nat->Heap->Prop):Prop where
 mem:it∈fp
 obj:∀ i h,tn i h->∀ b∈fp,∃ o,h.get? b=some o/\∀ v,o.data≠.cell v
 keep:∀ i h h',tn i h->(∀ b∈fp,∀ o,h.get? b=some o->h'.get? b=some o)->tn i h'
 item:∀(X:Cx),X.prog=P->X.w=w->X.K=K->X.calm=true->∀(i:Nat) (pins:PL) (s:Shared) (σ:St) (H:Hp) (E:EV),Inv X pins σ H s->(∀ b∈fp,Zrq X pins H b)->tn i s.heap->J.go i H ->
  wpAny (model P w) X.A (pyNext (.ref it)) (λr s1=>∃ u,r=some u /\
   wpAny (model P w) X.A (letOwnedTupleGo tg (.ref it) u) (λ_ s2=>∃ x H',Inv X pins σ H' s2/\Zcm x u/\J.yld i H x H'/\tn (i + 1) s2.heap/\∀ b∈fp,H' b=none) E s1) E s
 done:∀(X:Cx),X.prog=P->X.w=w->X.K=K->X.calm=true->∀(i:Nat) (pins:PL) (s:Shared) (σ:St) (H:Hp) (E:EV),Inv X pins σ H s->(∀ b∈fp,Zrq X pins H b)->tn i s.heap->J.stop i H ->
  wpAny (model P w) X.A (pyNext (.ref it)) (λr s1=>r=none/\Inv X pins σ H s1) E s
 self:∀(A:Around) (i:Nat) (s:Shared) (Q:EV) (E:EV),tn i s.heap->Q (.ref it) s->wpAny (model P w) A (pyIter (.ref it)) Q E s
abbrev TI:=St->Hp->(It->Hp->Prop)->Prop
def PIE(X:Cx)(pins:PL)(σ:St)(tg:Expr)(R:It->Hp->Prop)(itv:Value)(s2:Shared):Prop :=
 ∃(it:Addr) (fp:List Addr) (tn:Nat->Heap->Prop) (J:It) (H':Hp),itv=.ref it/\Inv X pins σ H' s2/\Zqe X.prog X.w X.K tg J fp it tn/\tn 0 s2.heap/\(∀ b∈fp,Zrq X pins H' b)/\R J H'
def PI(X:Cx)(tg iter:Expr)(wi:TI):Prop :=
 ∀(pins:PL) (s:Shared) (σ:St) (H:Hp) (R:It->Hp->Prop),Inv X pins σ H s->wi σ H R ->
  wpAny (model X.prog X.w) X.A (eval iter X.env) (λv s1=>wpAny (model X.prog X.w) X.A (pyIter v) (PIE X pins σ tg R) X.xe s1) X.xe s
def Zui{M:Model}{A:Around}{E:EV}{s:Shared}{tg:Expr}{it:Addr}{u:Value}{o:Obj}{n:String}{vs:Array Value}{Q:Unit->Shared->Prop}(ho:s.heap.get? it=some o)(hc:o.cls=.type n)(hd:o.data=.fields vs)
  (hn:["enumerate","zip","dict_itemiterator","dict_reverseitemiterator","odict_iterator","itertools.zip_longest","itertools.pairwise"].contains n=false) (hQ:Q () s):wpAny M A (letOwnedTupleGo tg (.ref it) u) Q E s:=by
 unfold letOwnedTupleGo;cases tg <;> first
  | exact Jd hQ
  | (cases u <;> first
    | exact Jd hQ
    | (refine Ja (wpAny_load ho ?_)
       rw[hc,hd];show wpAny M A (if(["enumerate","zip","dict_itemiterator","dict_reverseitemiterator","odict_iterator","itertools.zip_longest","itertools.pairwise"].contains n&&vs[0]? == some (rawInt _))=true then _ else _) Q E s;rw[if_neg (by intro h;rw[hn,Yo3]at h;cases h)];exact Jd hQ))
def Itl(K:Fg)(a:Addr):It :=
 ⟨λi H=>∃ xs x,SqL K H a xs/\xs[i]?=some x,λi H x H'=>H'=H/\∀ xs,SqL K H a xs->xs[i]?=some x,λi H=>∃ xs,SqL K H a xs/\xs.length<=i⟩
def Itt(K:Fg)(a:Addr):It :=
 ⟨λi H=>∃ xs x,SqT K H a xs/\xs[i]?=some x,λi H x H'=>H'=H/\∀ xs,SqT K H a xs->xs[i]?=some x,λi H=>∃ xs,SqT K H a xs/\xs.length<=i⟩
def Itr(lo:Int)(n:Nat):It:=⟨λi _=>i<n,λi H x H'=>H'=H/\x=.int (lo + i),λi _=>n<=i⟩
def Zn3{P:Program}{w:World}{K:Fg}{tg:Expr}(a it:Addr):Zqe P w K tg (Itl K a) [it] it (λi h=>h.IsListIter it a i) where
 mem:=by simp
 obj:=λi h st b hb=>by
  have e:b=it:=by simpa using hb
  subst e;obtain⟨o,e,c,d⟩:=st;exact⟨o,e,λv z=>by rw[d]at z;cases z⟩
 keep:=λi h h' st k=>st.at λo e=>k it (by simp) o e
 item:=by
  intro X hP hw hK hc i pins s σ H E I hf st hg;subst hP hw hK;obtain⟨xs,x,hq,hx⟩:=hg;obtain⟨its,rv,p,hz⟩:=I.list hq;obtain⟨u,hu,ru⟩:=rv.get hx;obtain⟨f0,f1,f2,f3,f4,f5⟩:=hf it (by simp);refine wpAny_pyNext_list_item st p.isList (x:=u) (by simpa using hu) λh' st' sb=>?_;have I1:Inv X pins σ H {s with heap:=h' }:=I.turned (t':=s.toks) (λb o hb e=>(sb.2 b hb).trans e) f0 f1 f3 f4 f5;obtain⟨o,e,c,d⟩:=id st';exact⟨u,Y,Zui (s:={s with heap:=h' }) e c d (by decide) ⟨x,H,I1,ru,⟨Y,λys hy=>by rw[I.list_inj hy hq];exact hx⟩,st',λb hb=>(hf b hb).1⟩⟩
 done:=by
  intro X hP hw hK hc i pins s σ H E I hf st hg;subst hP hw hK;obtain⟨xs,hq,hx⟩:=hg;obtain⟨its,rv,p,hz⟩:=I.list hq;obtain⟨f0,f1,f2,f3,f4,f5⟩:=hf it (by simp);have hl:=rv.length;exact wpAny_pyNext_list_end (I.ok.hd hc) st p.isList (by simp;omega) λh' eb=>⟨Y,I.turned (t':=s.toks) (λb o hb e=>eb b o hb e) f0 f1 f3 f4 f5⟩
 self:=λ_ _ _ _ _ st h=>wpAny_pyIter_listiter st h
def Zlq{P:Program}{w:World}{K:Fg}{tg:Expr}(a it:Addr):Zqe P w K tg (Itt K a) [it] it (λi h=>h.IsTupleIter it a i) where
 mem:=by simp
 obj:=λi h st b hb=>by
  have e:b=it:=by simpa using hb
  subst e;obtain⟨o,e,c,d⟩:=st;exact⟨o,e,λv z=>by rw[d]at z;cases z⟩
 keep:=λi h h' st k=>st.at λo e=>k it (by simp) o e
 item:=by
  intro X hP hw hK hc i pins s σ H E I hf st hg;subst hP hw hK;obtain⟨xs,x,hq,hx⟩:=hg;obtain⟨its,rv,p,hz⟩:=I.tuple hq;obtain⟨u,hu,ru⟩:=rv.get hx;obtain⟨f0,f1,f2,f3,f4,f5⟩:=hf it (by simp);refine wpAny_pyNext_tuple_item st (show s.heap.IsTuple a its.toArray from p) (x:=u) (by simpa using hu) λh' st' sb=>?_;have I1:Inv X pins σ H {s with heap:=h' }:=I.turned (t':=s.toks) (λb o hb e=>(sb.2 b hb).trans e) f0 f1 f3 f4 f5;obtain⟨o,e,c,d⟩:=id st';exact⟨u,Y,Zui (s:={s with heap:=h' }) e c d (by decide) ⟨x,H,I1,ru,⟨Y,λys hy=>by rw[I.tuple_inj hy hq];exact hx⟩,st',λb hb=>(hf b hb).1⟩⟩
 done:=by
  intro X hP hw hK hc i pins s σ H E I hf st hg;subst hP hw hK;obtain⟨xs,hq,hx⟩:=hg;obtain⟨its,rv,p,hz⟩:=I.tuple hq;obtain⟨f0,f1,f2,f3,f4,f5⟩:=hf it (by simp);have hl:=rv.length;exact wpAny_pyNext_tuple_end (I.ok.hd hc) st (show s.heap.IsTuple a its.toArray from p) (by simp;omega) λh' eb=>⟨Y,I.turned (t':=s.toks) (λb o hb e=>eb b o hb e) f0 f1 f3 f4 f5⟩
 self:=λ_ _ _ _ _ st h=>wpAny_pyIter_tupleiter st h
def Zti{P:Program}{w:World}{K:Fg}{tg:Expr}(it:Addr)(lo:Int)(n:Nat):Zqe P w K tg (Itr lo n) [it] it (λi h=>IsRangeIter h it (lo + (i:Nat) * 1) ((n:Int) - (i:Nat)) 1) where
 mem:=by simp
 obj:=λi h st b hb=>by
  have e:b=it:=by simpa using hb
  subst e;exact⟨_,st,λv z=>by
   have z':Data.fields _=Data.cell v:=z;cases z'⟩
 keep:=λi h h' st k=>k it (by simp) _ st
 item:=by
  intro X hP hw hK hc i pins s σ H E I hf st hg;subst hP hw hK;obtain⟨f0,f1,f2,f3,f4,f5⟩:=hf it (by simp);have W:=Walks.range (prog:=X.prog) (w:=X.w) (I.ok.hd hc) it lo 1 n;refine W.item i s _ _ hg st λv h' tk hv st' kk=>?_;obtain⟨t,rfl⟩:=hv;have I1:Inv X pins σ H {s with heap:=h',toks:=tk}:=I.turned (λb o hb e=>kk b o (by simpa using hb) e) f0 f1 f3 f4 f5;refine⟨Z,Zui (s:={s with heap:=h',toks:=tk}) (n:="range_iterator") st' rfl rfl (by decide) ⟨.int (lo + i),H,I1,⟨t,?_⟩,⟨Y,Y⟩,st',λb hb=>(hf b hb).1⟩⟩;rw[Int.mul_one]
 done:=by
  intro X hP hw hK hc i pins s σ H E I hf st hg;subst hP hw hK;obtain⟨f0,f1,f2,f3,f4,f5⟩:=hf it (by simp);exact wpAny_pyNext_range_end (I.ok.hd hc) st (by have:n<=i:=hg;omega) λh' eb=>⟨Y,I.turned (t':=s.toks) (λb o hb e=>eb b o hb e) f0 f1 f3 f4 f5⟩
 self:=λ_ _ _ _ _ st h=>wpAny_pyIter_rangeiter st h
section
variable {X:Cx}{tg:Expr}
def Yab(K:Fg)(tl:TE):TI:=λσ H R=>tl σ H λx H1=>∃ a,x=.ref a/\(∃ xs,SqL K H1 a xs)/\R (Itl K a) H1
def Yd3(K:Fg)(tl:TE):TI:=λσ H R=>tl σ H λx H1=>∃ a,x=.ref a/\(∃ xs,SqT K H1 a xs)/\R (Itt K a) H1
def Zbr{l:Expr}{tl:TE}(hl:PE X l tl):PI X tg l (Yab X.K tl):=by
 intro pins s σ H R I h;refine thn (hl pins s σ H _ I h) λv s1 ⟨x,H1,I1,r1,q1⟩=>?_;obtain⟨a,e,⟨xs,hq⟩,q⟩:=q1;subst e;cases r1;obtain⟨its,rv,p,hz⟩:=I1.list hq;refine wpAny_pyIter_list p.isList ?_;refine⟨s1.heap.objs.size,[s1.heap.objs.size],_,_,H1,Y,I1.kept (t':=s1.toks) λb o e=>Yd _ e,Zn3 a _,⟨_,Yp _ rfl,Y,Y⟩,λb hb=>?_,q⟩;have e:b=s1.heap.objs.size:=by simpa using hb
 subst e;exact I1.fpOk (Yg _) (I1.hok.fresh (Yg _))
def Zgi{l:Expr}{tl:TE}(hl:PE X l tl):PI X tg l (Yd3 X.K tl):=by
 intro pins s σ H R I h;refine thn (hl pins s σ H _ I h) λv s1 ⟨x,H1,I1,r1,q1⟩=>?_;obtain⟨a,e,⟨xs,hq⟩,q⟩:=q1;subst e;cases r1;obtain⟨its,rv,p,hz⟩:=I1.tuple hq;refine wpAny_pyIter_tuple (show s1.heap.IsTuple a its.toArray from p) ?_;refine⟨s1.heap.objs.size,[s1.heap.objs.size],_,_,H1,Y,I1.kept (t':=s1.toks) λb o e=>Yd _ e,Zlq a _,⟨_,Yp _ rfl,Y,Y⟩,λb hb=>?_,q⟩;have e:b=s1.heap.objs.size:=by simpa using hb
 subst e;exact I1.fpOk (Yg _) (I1.hok.fresh (Yg _))
def Zsd{pins:PL}{σ:St}{H:Hp}{s:Shared}{R:It->Hp->Prop}{E:EV}{lo hi:Int}{t u v:Tok}{tk:Nat}(I:Inv X pins σ H s)(h1:-(2 ^ 62)<=lo)(h2:lo<2 ^ 62)(h3:-(2 ^ 62)<=hi)(h4:hi<2 ^ 62)
  (q:R (Itr lo (hi - lo).toNat) H):wpAny (model X.prog X.w) X.A (pyIter (.ref s.heap.objs.size)) (PIE X pins σ tg R) E {s with heap:=s.heap.push {cls:=.type "range",data:=.fields #[.int lo t,.int hi u,.int 1 v] },toks:=tk}:=by
 refine wpAny_pyIter_range (IsRange.new ..) (small_one h1 h2 h3 h4) ?_;have I1:Inv X pins σ H {s with heap:=s.heap.push {cls:=.type "range",data:=.fields #[.int lo t,.int hi u,.int 1 v] },toks:=tk}:=I.kept λb o e=>Yd _ e;refine⟨(s.heap.push {cls:=.type "range",data:=.fields #[.int lo t,.int hi u,.int 1 v] }).objs.size,[(s.heap.push {cls:=.type "range",data:=.fields #[.int lo t,.int hi u,.int 1 v] }).objs.size],_,_,H,Y,
  I1.kept (t':=tk) λb o e=>Yd _ e,Zti _ lo (hi - lo).toNat,?_,λb hb=>?_,q⟩
 ·have e1:lo + ((0:Nat):Int) * 1=lo:=by simp
  have e2:(((hi - lo).toNat:Nat):Int) - ((0:Nat):Int)=Builtin.Range.rangeSize lo hi 1:=by rw[rangeSize_one];split <;> omega
  show IsRangeIter _ _ (lo + ((0:Nat):Int) * 1) ((((hi - lo).toNat:Nat):Int) - ((0:Nat):Int)) 1;rw[e1,e2];exact Yp _ rfl
 ·have e:b=(s.heap.push {cls:=.type "range",data:=.fields #[.int lo t,.int hi u,.int 1 v] }).objs.size:=by simpa using hb
  subst e;exact I1.fpOk (Yg _) (I1.hok.fresh (Yg _))
def Yaa(ta:TA):TI:=λσ H R=>ta σ H λvs H1=>∃ j:Int,vs=[.int j]/\-(2 ^ 62)<=j/\j<2 ^ 62/\R (Itr 0 j.toNat) H1
def Z99(ta:TA):TI:=λσ H R=>ta σ H λvs H1=>∃ i j:Int,vs=[.int i,.int j]/\(-(2 ^ 62)<=i/\i<2 ^ 62/\-(2 ^ 62)<=j/\j<2 ^ 62)/\R (Itr i (j - i).toNat) H1
def Zca{a:Expr}{ta:TA}{p pos:Pos}(hg:Gl X "range")(hm:X.mg "range"=none)(ha:PA X [a] ta)(hs:starEach [a] X.env=[(false,eval a X.env)]:=by rfl):PI X tg (.Call (.Name "range" p) [a] [] pos) (Yaa ta):=by
 intro pins s σ H R I h;refine Call_ (Ze0 I hg hm boot_range (Yw1 (thn (ha pos pins s σ H _ I h) λus s1 ⟨vs,H1,I1,r1,q1⟩=>?_) hs rfl));obtain⟨j,e,q1,q2,q⟩:=q1;subst e;cases r1 with
 | cons r rr =>
  cases rr;obtain⟨t,rfl⟩:=r;exact call_range_1 (Zsd I1 (by omega) (by omega) q1 q2 (by simpa using q))
def Zwm{a b:Expr}{ta:TA}{p pos:Pos}(hg:Gl X "range")(hm:X.mg "range"=none)(ha:PA X [a,b] ta)(hs:starEach [a,b] X.env=[(false,eval a X.env),(false,eval b X.env)]:=by rfl)(hs2:starEach [b] X.env=[(false,eval b X.env)]:=by rfl):
  PI X tg (.Call (.Name "range" p) [a,b] [] pos) (Z99 ta):=by
 intro pins s σ H R I h;refine Call_ (Ze0 I hg hm boot_range (Yw1 (thn (ha pos pins s σ H _ I h) λus s1 ⟨vs,H1,I1,r1,q1⟩=>?_) (by rw[hs,hs2]) (by rw[hs2];rfl)));obtain⟨i,j,e,⟨q1,q2,q3,q4⟩,q⟩:=q1;subst e;cases r1 with
 | cons r rr =>
  cases rr with
  | cons r' rr =>
   cases rr;obtain⟨t,rfl⟩:=r;obtain⟨t',rfl⟩:=r';exact call_range_2 (Zsd I1 q1 q2 q3 q4 q)
def Zh3(wi:TI)(g:TG)(tb:TS):TS:=λD σ H=>wi σ H λJ H1=>∃ W:Nat->Nat->St->Hp->Prop,(∃ m,W 0 m σ H1)/\∀ i m σ H,W i m σ H ->
 (J.stop i H/\D.nx σ H)\/(J.go i H/\∃ N:SW,(∀ σ' H',N σ' H'->∃ m',m'<m/\W (i + 1) m' σ' H')/\∀ x H',J.yld i H x H'->g x σ H' λσ2 H2=>tb {D with nx:=N,ct:=N,bk:=D.nx} σ2 H2)
def Zol(fp:List Addr)(h:Heap):PL:=fp.filterMap λb=>(h.get? b).map λo=>(b,o)
def Zhl{fp:List Addr}{h:Heap}{b:Addr}{o:Obj}(hb:b∈fp)(e:h.get? b=some o):(b,o)∈Zol fp h:=List.mem_filterMap.mpr ⟨b,hb,by rw[e];rfl⟩
def Zw8{fp:List Addr}{h:Heap}{p:Addr×Obj}(hp:p∈Zol fp h):p.1∈fp/\h.get? p.1=some p.2:=by
 obtain⟨b,hb,e⟩:=List.mem_filterMap.mp hp;cases q:h.get? b with
 | none=>rw[q]at e;cases e
 | some o =>
  rw[q]at e;have e':(b,o)=p:=Ym e;subst e';exact⟨hb,q⟩
def Inv.pinned{pins:PL}{σ:St}{H:Hp}{s:Shared}{fp:List Addr}(I:Inv X pins σ H s)(hf:∀ b∈fp,Zrq X pins H b)(ho:∀ b∈fp,∃ o,s.heap.get? b=some o/\∀ v,o.data≠.cell v):Inv X (pins++Zol fp s.heap) σ H s :=
 I.pins_of λp hp=>(Yl.mp hp).elim (λz=>I.pin p (Yz1 _ z)) λz=>by
  obtain⟨hb,e⟩:=Zw8 z;obtain⟨f0,f1,f2,_⟩:=hf p.1 hb;obtain⟨o,e',d⟩:=ho p.1 hb;rw[e]at e';cases e';exact⟨e,f0,f1,f2,d⟩
def Inv.unpinned{pins pl:PL}{σ:St}{H:Hp}{s:Shared}(I:Inv X (pins++pl) σ H s):Inv X pins σ H s:=I.pins_of λp hp=>I.pin p (Yz1 _ (Yu2 _ hp))
def Zbh{iter:Expr}{body:List Stmt}{wi:TI}{g:TG}{tb:TS}{pos:Pos}(hp:PassesOwn (model X.prog X.w) X.A X.env X.xe)(hc:X.calm=true)(hi:PI X tg iter wi)(hg:PG X tg g)(hb:PSs X body tb)
  (hs:∀ x,foldedSetIterable iter X.env x=pure x:=by intro _;rfl):PS X (.For tg iter body [] pos) (Zh3 wi g tb):=by
 intro pins s σ H D I h;refine wpAny_For (thn (hi pins s σ H _ I h) λv s1 h1=>thn h1 λitv s2 h2=>?_) hs;obtain⟨it,fp,tn,J,H2,e,I2,T,st2,f2,W,⟨m0,w0⟩,turn⟩:=h2;subst e;have stat:∀ {H':Hp},(∀ b∈fp,H' b=none)->∀ b∈fp,Zrq X pins H' b:=λhn b hb=>⟨hn b hb,(f2 b hb).2⟩;refine codeAny_forLoop_any (λn s'=>∃ i σ' H',Inv X pins σ' H' s'/\tn i s'.heap/\(∀ b∈fp,H' b=none)/\W i n σ' H') ?_ m0 ⟨0,σ,H2,I2,st2,λb hb=>(f2 b hb).1,w0⟩;rintro n s3 ⟨i,σ3,H3,I3,st3,fr3,w3⟩
 rcases turn i n σ3 H3 w3 with⟨stop,qn⟩ | ⟨go,N,hN,step⟩
 ·refine wpAny_passesOwn hp (thn (T.done X rfl rfl rfl hc i pins s3 σ3 H3 X.xe I3 (stat fr3) st3 stop) λr s4 ⟨hr,I4⟩=>?_);subst hr;exact wpAny_execs_nil ⟨σ3,H3,I4,qn⟩
 ·refine wpAny_passesOwn hp (thn (T.item X rfl rfl rfl hc i pins s3 σ3 H3 X.xe I3 (stat fr3) st3 go) λr s4 ⟨u,hr,h4⟩=>?_);subst hr;refine wpAny_passesOwn hp (thn h4 λ_ s5 ⟨x,H5,I5,r5,y5,st5,fr5⟩=>?_);have I5':=I5.pinned (stat fr5) (T.obj _ _ st5);refine wpAny_passesOwn hp (thn (hg _ s5 σ3 H5 x u _ I5' r5 (step x H5 y5)) λ_ s6 ⟨σ6,H6,I6,q6⟩=>?_);refine wpAny_passesOwn hp (thn (hb _ s6 σ6 H6 _ I6 q6) λf s7 q7=>?_);have again:∀ {σ7:St} {H7:Hp},Inv X (pins++Zol fp s5.heap) σ7 H7 s7->N σ7 H7->∃ m,m<n/\∃ i σ' H',Inv X pins σ' H' s7/\tn i s7.heap/\(∀ b∈fp,H' b=none)/\W i m σ' H':=λ{σ7 H7} I7 n7=>by
   obtain⟨m',hm,w7⟩:=hN σ7 H7 n7;refine⟨m',hm,i + 1,σ7,H7,I7.unpinned,T.keep _ _ _ st5 λb hb o e=>(I7.pin (b,o) (Yz1 _ (Yz1 _ (Zhl hb e)))).1,λb hb=>?_,w7⟩;obtain⟨o,e,d⟩:=T.obj _ _ st5 b hb;exact(I7.pin (b,o) (Yz1 _ (Yz1 _ (Zhl hb e)))).2.1
  cases f with
  | next=>obtain⟨σ7,H7,I7,n7⟩:=q7;exact again I7 n7
  | cont=>obtain⟨σ7,H7,I7,n7⟩:=q7;exact again I7 n7
  | brk=>obtain⟨σ7,H7,I7,q7⟩:=q7;exact⟨σ7,H7,I7.unpinned,q7⟩
  | ret v=>obtain⟨x7,σ7,H7,I7,r7,q7⟩:=q7;exact⟨x7,σ7,H7,I7.unpinned,r7,q7⟩
end
abbrev R2:=V->V->Hp->VK->Prop
def OpR(X:Cx)(f:Value->Value->Sem Value)(r:R2):Prop :=
 ∀(pins:PL) (s:Shared) (σ:St) (H:Hp) (x y:V) (v u:Value) (Q:VK),Inv X pins σ H s->Zcm x v->Zcm y u->r x y H Q ->
  wpAny (model X.prog X.w) X.A (f v u) (EP X pins σ Q) X.xe s
def UnR(X:Cx)(f:Value->Sem Value)(r:V->Hp->VK->Prop):Prop :=
 ∀(pins:PL) (s:Shared) (σ:St) (H:Hp) (x:V) (v:Value) (Q:VK),Inv X pins σ H s->Zcm x v->r x H Q ->
  wpAny (model X.prog X.w) X.A (f v) (EP X pins σ Q) X.xe s
def Zjk(X:Cx)(f:Value)(r:LV->Hp->VK->Prop):Prop :=
 ∀(pins:PL) (s:Shared) (σ:St) (H:Hp) (xs:LV) (us:LU) (Q:VK),Inv X pins σ H s->Zb2 xs us->r xs H Q ->
  wpAny (model X.prog X.w) X.A (call f us) (EP X pins σ Q) X.xe s
def Yef(X:Cx)(r:V->Hp->(Bool->Hp->Prop)->Prop):Prop :=
 ∀(pins:PL) (s:Shared) (σ:St) (H:Hp) (x:V) (v:Value) (Q:Bool->Hp->Prop),Inv X pins σ H s->Zcm x v->r x H Q ->
  wpAny (model X.prog X.w) X.A (truthy v) (TP X pins σ Q) X.xe s
def tOp(r:R2)(ta tb:TE):TE:=λσ H Q=>ta σ H λx H1=>tb σ H1 λy H2=>r x y H2 Q
def tUn(r:V->Hp->VK->Prop)(ta:TE):TE:=λσ H Q=>ta σ H λx H1=>r x H1 Q
def rI(C:Int->Int->Prop)(g:Int->Int->V):R2:=λx y H Q=>∃ i j,x=.int i/\y=.int j/\C i j/\Q (g i j) H
def rI0(g:Int->Int->V):R2:=λx y H Q=>∃ i j,x=.int i/\y=.int j/\Q (g i j) H
def rU(g:Int->V):V->Hp->VK->Prop:=λx H Q=>∃ i,x=.int i/\Q (g i) H
section
variable {X:Cx}{a b c:Expr}{ta tb tc:TE}{pos:Pos}
def Yao(ha:PE X a ta)(hb:PE X b tb){pins:PL}{s:Shared}{σ:St}{H:Hp}{R:V->V->Hp->Prop}(I:Inv X pins σ H s)
  (h:ta σ H λx H1=>tb σ H1 λy H2=>R x y H2) {Q:EV} {f:Value->Value->Sem Value}
  (hf:∀ v u s2 x y H2,Inv X pins σ H2 s2->Zcm x v->Zcm y u->R x y H2->wpAny (model X.prog X.w) X.A (f v u) Q X.xe s2):
  wpAny (model X.prog X.w) X.A (eval a X.env) (λv s₁=>wpAny (model X.prog X.w) X.A (eval b X.env) (λu s₂=>wpAny (model X.prog X.w) X.A (f v u) Q X.xe s₂) X.xe s₁) X.xe s:=by
 refine thn (ha pins s σ H _ I h) λv s1 ⟨x,H1,I1,r1,q1⟩=>?_;refine thn (hb pins s1 σ H1 _ I1 q1) λu s2 ⟨y,H2,I2,r2,q2⟩=>?_;exact hf v u s2 x y H2 I2 r1 r2 q2
def Zax{op:Operator}{r:R2}(ho:OpR X (binaryOp op) r)(ha:PE X a ta)(hb:PE X b tb):PE X (.BinOp a op b pos) (tOp r ta tb):=by
 ac_rfl;exact wpAny_BinOp (Yao ha hb I h λv u s2 x y H2 I2 rx ry q=>ho pins s2 σ H2 x y v u Q I2 rx ry q)
def Zwo{op:UnaryOp}{r:V->Hp->VK->Prop}(ho:UnR X (unaryOp op) r)(ha:PE X a ta):PE X (.UnaryOp op a pos) (tUn r ta):=by
 ac_rfl;exact UnaryOp_ (thn (ha pins s σ H _ I h) λv s1 ⟨x,H1,I1,r1,q1⟩=>ho pins s1 σ H1 x v Q I1 r1 q1)
def opI{f:Value->Value->Sem Value}{C:Int->Int->Prop}{g:Int->Int->Int}
  (rule:∀(i j:Int) (t u:Tok) (s:Shared) (Q:EV) (E:EV),C i j->Q (.int (g i j) s.toks) {s with toks:=s.toks + 1}->wpAny (model X.prog X.w) X.A (f (.int i t) (.int j u)) Q E s):
  OpR X f (rI C λi j=>.int (g i j)):=by
 exfalso;obtain⟨i,j,rfl,rfl,hc,q⟩:=h;obtain⟨t,rfl⟩:=rx;obtain⟨t',rfl⟩:=ry;exact rule i j t t' s _ _ hc ⟨.int (g i j),H,I.tok _,⟨Z⟩,q⟩
def Yb8{f:Value->Value->Sem Value}{g:Int->Int->Int}
  (rule:∀(i j:Int) (t u:Tok) (s:Shared) (Q:EV) (E:EV),Q (.int (g i j) s.toks) {s with toks:=s.toks + 1}->wpAny (model X.prog X.w) X.A (f (.int i t) (.int j u)) Q E s):
  OpR X f (rI0 λi j=>.int (g i j)):=by
 exfalso;obtain⟨i,j,rfl,rfl,q⟩:=h;obtain⟨t,rfl⟩:=rx;obtain⟨t',rfl⟩:=ry;exact rule i j t t' s _ _ ⟨.int (g i j),H,I.tok _,⟨Z⟩,q⟩
def Z8e{f:Value->Value->Sem Value}{g:Int->Int->Bool}
  (rule:∀(i j:Int) (t u:Tok) (s:Shared) (Q:EV) (E:EV),Q (.bool (g i j)) s->wpAny (model X.prog X.w) X.A (f (.int i t) (.int j u)) Q E s):
  OpR X f (rI0 λi j=>.bl (g i j)):=by
 exfalso;obtain⟨i,j,rfl,rfl,q⟩:=h;obtain⟨t,rfl⟩:=rx;obtain⟨t',rfl⟩:=ry;exact rule i j t t' s _ _ ⟨.bl (g i j),H,I,Y,q⟩
def Yek(i j:Int):Prop:=0<j/\j<1073741824
def Yej(i j:Int):Prop:=0<=j/\j<=1000000/\i.natAbs<2 ^ 64
def Yaz(i j:Int):Prop:=(-(2 ^ 64)<i/\i<2 ^ 64)\/(-(2 ^ 64)<j/\j<2 ^ 64)
def Yaz.ok{i j:Int}(h:Yaz i j):IntMulOk i j:=by
 rcases h with⟨h1,h2⟩ | ⟨h1,h2⟩
 ·exact .of_left (intBits_le_64 h1 h2)
 ·exact .of_right (intBits_le_64 h1 h2)
def Zcb:OpR X (binaryOp .Add) (rI0 λi j=>.int (i + j)):=Yb8 λ_ _ _ _ _ _ _ q=>add_int q
def Zhu:OpR X (binaryOp .Sub) (rI0 λi j=>.int (i - j)):=Yb8 λ_ _ _ _ _ _ _ q=>sub_int q
def Zl5:OpR X (binaryOp .Mult) (rI Yaz λi j=>.int (i * j)):=opI λ_ _ _ _ _ _ _ hc q=>mul_int q hc.ok
def Zqv:OpR X (binaryOp .FloorDiv) (rI Yek λi j=>.int (i / j)):=opI λi j _ _ _ _ _ hc q=>by
 have h1:(0:Int)<j:=hc.1;have h2:j<1073741824:=hc.2;exact floordiv_int (by omega) (by rw[Int.fdiv_eq_ediv_of_nonneg i (by omega)];exact q) (.inl (PyProof.noPylong_small (by omega)))
def Zgv:OpR X (binaryOp .Mod) (rI (λ_ j=>0<j) λi j=>.int (i % j)):=opI λi j _ _ _ _ _ hc q=>by
 have h1:(0:Int)<j:=hc;exact mod_int' (by omega) (by rw[Int.fmod_eq_emod_of_nonneg i (by omega)];exact q)
def Zl4:OpR X (binaryOp .Pow) (rI Yej λi j=>.int (i ^ j.toNat)):=opI λ_ _ _ _ _ _ _ hc q=>pow_int_small hc.1 hc.2.1 hc.2.2 q
def unI{f:Value->Sem Value}{g:Int->Int}
  (rule:∀(i:Int) (t:Tok) (s:Shared) (Q:EV) (E:EV),Q (.int (g i) s.toks) {s with toks:=s.toks + 1}->wpAny (model X.prog X.w) X.A (f (.int i t)) Q E s):
  UnR X f (rU λi=>.int (g i)):=by
 intro pins s σ H x v Q I rx h;obtain⟨i,rfl,q⟩:=h;obtain⟨t,rfl⟩:=rx;exact rule i t s _ _ ⟨.int (g i),H,I.tok _,⟨Z⟩,q⟩
def Zn1:UnR X (unaryOp .USub) (rU λi=>.int (-i)):=unI λ_ _ _ _ _ q=>neg_int q
end
def Ybd:V->V->Bool
 | .non,.non=>true | .non,.int _=>true | .int _,.non=>true | .non,.bl _=>true | .bl _,.non=>true | .non,.str _=>true | .str _,.non=>true
 | .int _,.int _=>true | .bl _,.bl _=>true | .str _,.str _=>true | .byt _,.byt _=>true
 | .int _,.str _=>true | .str _,.int _=>true | .bl _,.str _=>true | .str _,.bl _=>true
 | _,_=>false
def rEq:R2:=λx y H Q=>Ybd x y=true/\Q (.bl (decide (x=y))) H
def rNe:R2:=λx y H Q=>Ybd x y=true/\Q (.bl (!decide (x=y))) H
def Zyd{i j:Int}:decide (V.int i=V.int j)=(i == j):=by
 rw[Yh3];simp
def Z2w{i j:Bool}:decide (V.bl i=V.bl j)=(i == j):=by
 rw[Yh3];simp
def Zyc{i j:Str}:decide (V.str i=V.str j)=(i == j):=by
 rw[Yh3];simp
def Zye{i j:Array UInt8}:decide (V.byt i=V.byt j)=(i.toList == j.toList):=by
 rw[Yh3];cases i;cases j;simp
section
variable {X:Cx}{a b c:Expr}{ta tb tc:TE}{pos:Pos}
def Zbf{pins:PL}{σ:St}{H:Hp}{s:Shared}{Q:VK}{k k':Bool}(I:Inv X pins σ H s)(q:Q (.bl k) H)(e:k=k'):EP X pins σ Q (.bool k') s:=by
 subst e;exact⟨.bl k,H,I,Y,q⟩
def Zdk:OpR X (compareOp .Eq) rEq:=by
 exfalso;obtain⟨hs,q⟩:=h;cases x with
 | non =>
  cases rx;cases y with
  | non=>cases ry;exact PySem.EqNone.eq_none_none (Zbf I q (by simp))
  | bl j=>cases ry;exact PySem.EqNone.eq_none_bool (Zbf I q (by simp))
  | int j=>obtain⟨t',rfl⟩:=ry;exact PySem.EqNone.eq_none_int (Zbf I q (by simp))
  | str j=>obtain⟨t',rfl⟩:=ry;exact PySem.EqNone.eq_none_str (Zbf I q (by simp))
  | _=>exact absurd (show false=true from hs) Yq
 | bl i =>
  cases rx;cases y with
  | non=>cases ry;exact PySem.EqNone.eq_bool_none (Zbf I q (by simp))
  | bl j=>cases ry;exact eq_bool (Zbf I q Z2w)
  | str j=>obtain⟨t',rfl⟩:=ry;exact PySem.EqMixed.eq_bool_str (Zbf I q (by simp))
  | _=>exact absurd (show false=true from hs) Yq
 | int i =>
  obtain⟨t,rfl⟩:=rx;cases y with
  | non=>cases ry;exact PySem.EqNone.eq_int_none (Zbf I q (by simp))
  | int j=>obtain⟨t',rfl⟩:=ry;exact eq_int (Zbf I q Zyd)
  | str j=>obtain⟨t',rfl⟩:=ry;exact PySem.EqMixed.eq_int_str (Zbf I q (by simp))
  | _=>exact absurd (show false=true from hs) Yq
 | str i =>
  obtain⟨t,rfl⟩:=rx;cases y with
  | non=>cases ry;exact PySem.EqNone.eq_str_none (Zbf I q (by simp))
  | bl j=>cases ry;exact PySem.EqMixed.eq_str_bool (Zbf I q (by simp))
  | int j=>obtain⟨t',rfl⟩:=ry;exact PySem.EqMixed.eq_str_int (Zbf I q (by simp))
  | str j=>obtain⟨t',rfl⟩:=ry;exact eq_str (Zbf I q Zyc)
  | _=>exact absurd (show false=true from hs) Yq
 | byt i =>
  obtain⟨t,rfl⟩:=rx;cases y with
  | byt j=>obtain⟨t',rfl⟩:=ry;exact W.eq_bytes (Zbf I q Zye)
  | _=>exact absurd (show false=true from hs) Yq
 | _=>cases y <;> exact absurd (show false=true from hs) Yq
def Zor:OpR X (compareOp .NotEq) rNe:=by
 exfalso;obtain⟨hs,q⟩:=h;cases x with
 | non =>
  cases rx;cases y with
  | non=>cases ry;exact PySem.EqNone.ne_none_none (Zbf I q (by simp))
  | bl j=>cases ry;exact PySem.EqNone.ne_none_bool (Zbf I q (by simp))
  | int j=>obtain⟨t',rfl⟩:=ry;exact PySem.EqNone.ne_none_int (Zbf I q (by simp))
  | str j=>obtain⟨t',rfl⟩:=ry;exact PySem.EqNone.ne_none_str (Zbf I q (by simp))
  | _=>exact absurd (show false=true from hs) Yq
 | bl i =>
  cases rx;cases y with
  | non=>cases ry;exact PySem.EqNone.ne_bool_none (Zbf I q (by simp))
  | bl j=>cases ry;exact ne_bool (Zbf I q (congrArg not Z2w))
  | str j=>obtain⟨t',rfl⟩:=ry;exact PySem.EqMixed.ne_bool_str (Zbf I q (by simp))
  | _=>exact absurd (show false=true from hs) Yq
 | int i =>
  obtain⟨t,rfl⟩:=rx;cases y with
  | non=>cases ry;exact PySem.EqNone.ne_int_none (Zbf I q (by simp))
  | int j=>obtain⟨t',rfl⟩:=ry;exact ne_int (Zbf I q (congrArg not Zyd))
  | str j=>obtain⟨t',rfl⟩:=ry;exact PySem.EqMixed.ne_int_str (Zbf I q (by simp))
  | _=>exact absurd (show false=true from hs) Yq
 | str i =>
  obtain⟨t,rfl⟩:=rx;cases y with
  | non=>cases ry;exact PySem.EqNone.ne_str_none (Zbf I q (by simp))
  | bl j=>cases ry;exact PySem.EqMixed.ne_str_bool (Zbf I q (by simp))
  | int j=>obtain⟨t',rfl⟩:=ry;exact PySem.EqMixed.ne_str_int (Zbf I q (by simp))
  | str j=>obtain⟨t',rfl⟩:=ry;exact ne_str (Zbf I q (congrArg not Zyc))
  | _=>exact absurd (show false=true from hs) Yq
 | byt i =>
  obtain⟨t,rfl⟩:=rx;cases y with
  | byt j=>obtain⟨t',rfl⟩:=ry;exact W.ne_bytes (Zbf I q (congrArg not Zye))
  | _=>exact absurd (show false=true from hs) Yq
 | _=>cases y <;> exact absurd (show false=true from hs) Yq
def Zos:OpR X (compareOp .Lt) (rI0 λi j=>.bl (decide (i<j))):=Z8e λ_ _ _ _ _ _ _ q=>lt_int q
def Zjt:OpR X (compareOp .LtE) (rI0 λi j=>.bl (decide (i<=j))):=Z8e λ_ _ _ _ _ _ _ q=>le_int q
def Zkt:OpR X (compareOp .Gt) (rI0 λi j=>.bl (decide (j<i))):=Z8e λ_ _ _ _ _ _ _ q=>gt_int q
def Z6z:OpR X (compareOp .GtE) (rI0 λi j=>.bl (decide (j<=i))):=Z8e λ_ _ _ _ _ _ _ q=>ge_int q
def Zot:OpR X (compareOp .In) (λx y H Q=>∃ i j,x=.str i/\y=.str j/\Q (.bl (!(Builtin.Str.occurrences j i 0 j.length 1).isEmpty)) H):=by
 exfalso;obtain⟨i,j,rfl,rfl,q⟩:=h;obtain⟨t,rfl⟩:=rx;obtain⟨t',rfl⟩:=ry;exact in_str (Zbf I q rfl)
def Z6y:OpR X (compareOp .Is) (λx y H Q=>y=.non/\Q (.bl (decide (x=.non))) H):=by
 exfalso;obtain⟨rfl,q⟩:=h;cases ry;refine is_none_gen (Zbf I q ?_);cases x <;> first
  | (cases rx;rfl)
  | (obtain⟨t,rfl⟩:=rx;rfl)
def Zar(b:Expr){op:CmpOp}(h:op≠.In:=by decide)(h2:op≠.NotIn:=by decide):behindInMarks op b=false:=by
 have e1:(op == CmpOp.In)=false:=by cases op <;> first | rfl | exact absurd rfl h
 have e2:(op == CmpOp.NotIn)=false:=by cases op <;> first | rfl | exact absurd rfl h2
 cases b <;> simp[behindInMarks,e1,e2]
def Zc1{op:CmpOp}{r:R2}(ho:OpR X (compareOp op) r)(ha:PE X a ta)(hb:PE X b tb)(hm:behindInMarks op b=false):PE X (.Compare a [op] [b] pos) (tOp r ta tb):=by
 ac_rfl;exact wpAny_Compare1 (Yao ha hb I h λv u s2 x y H2 I2 rx ry q=>ho pins s2 σ H2 x y v u Q I2 rx ry q) hm
def Z5w(t:TE):TT:=λσ H Q=>t σ H λx H'=>∃ k,x=.bl k/\Q k H'
def Zan{op:CmpOp}{r:R2}(ho:OpR X (compareOp op) r)(ha:PE X a ta)(hb:PE X b tb)(hm:behindInMarks op b=false):PT X (.Compare a [op] [b] pos) (Z5w (tOp r ta tb)):=by
 ac_rfl;refine wpAny_isTrue_Compare1 (thn (ha pins s σ H _ I h) λv s1 ⟨x,H1,I1,r1,q1⟩=>thn (hb pins s1 σ H1 _ I1 q1) λu s2 ⟨y,H2,I2,r2,q2⟩ =>
  thn (ho pins s2 σ H2 x y v u _ I2 r1 r2 q2) λc s3 ⟨z,H3,I3,r3,k,e,q3⟩=>?_) hm
 subst e;cases r3;exact Jh ⟨H3,I3,q3⟩
def Z13(r r':R2)(ta tb tc:TE):TE:=λσ H Q=>ta σ H λx H1=>tb σ H1 λy H2=>r x y H2 λz H3=>∃ k,z=.bl k /\
 (if k=true then tc σ H3 λw' H4=>r' y w' H4 Q else Q (.bl false) H3)
def Zz0{op op':CmpOp}{r r':R2}(ho:OpR X (compareOp op) r)(ho':OpR X (compareOp op') r')(ha:PE X a ta)(hb:PE X b tb)(hc:PE X c tc)
  (hm:lastMarks [op,op'] [b,c]=false:=by with_unfolding_all rfl):PE X (.Compare a [op,op'] [b,c] pos) (Z13 r r' ta tb tc):=by
 ac_rfl;refine Compare_chain (thn (ha pins s σ H _ I h) λv s1 ⟨x,H1,I1,r1,q1⟩=>chain_link (thn (hb pins s1 σ H1 _ I1 q1) λu s2 ⟨y,H2,I2,r2,q2⟩ =>
  thn (ho pins s2 σ H2 x y v u _ I2 r1 r2 q2) λd s3 ⟨z,H3,I3,r3,k,e,q3⟩=>?_)) hm
 subst e;cases r3;refine Jh ?_;cases k with
 | false=>exact ite_ff ⟨.bl false,H3,I3,Y,q3⟩
 | true=>exact ite_tt (chain_last (thn (hc pins s3 σ H3 _ I3 q3) λw' s4 ⟨z',H4,I4,r4,q4⟩=>ho' pins s4 σ H4 y z' u w' Q I4 r2 r4 q4))
def Zj1{op op':CmpOp}{r r':R2}(ho:OpR X (compareOp op) r)(ho':OpR X (compareOp op') r')(ha:PE X a ta)(hb:PE X b tb)(hc:PE X c tc)
  (hm:lastMarks [op,op'] [b,c]=false:=by with_unfolding_all rfl):PT X (.Compare a [op,op'] [b,c] pos) (Z5w (Z13 r r' ta tb tc)):=by
 ac_rfl;refine isTrue_chain (thn (ha pins s σ H _ I h) λv s1 ⟨x,H1,I1,r1,q1⟩=>test_link (thn (hb pins s1 σ H1 _ I1 q1) λu s2 ⟨y,H2,I2,r2,q2⟩ =>
  thn (ho pins s2 σ H2 x y v u _ I2 r1 r2 q2) λd s3 ⟨z,H3,I3,r3,k,e,q3⟩=>?_)) hm
 subst e;cases r3;refine Jh ?_;cases k with
 | false =>
  obtain⟨k',e',q'⟩:=q3;cases e';exact ite_ff ⟨H3,I3,q'⟩
 | true =>
  refine ite_tt (test_last (thn (hc pins s3 σ H3 _ I3 q3) λw' s4 ⟨z',H4,I4,r4,q4⟩=>thn (ho' pins s4 σ H4 y z' u w' _ I4 r2 r4 q4) λd' s5 ⟨z2,H5,I5,r5,k2,e2,q5⟩=>?_));subst e2;cases r5;exact Jh ⟨H5,I5,q5⟩
def Yas(K:Fg)(x:V)(H:Hp)(k:Bool):Prop :=
 match x with
 | .non=>k=false
 | .bl b=>k=b
 | .int i=>k=(i != 0)
 | .str y=>y.length<=sizeLine/\k=((y.length:Int) != 0)
 | .byt y=>y.size<=sizeLine/\k=((y.size:Int) != 0)
 | .ref p=>(∃ xs,SqL K H p xs/\k=!xs.isEmpty)\/(∃ xs,SqT K H p xs/\k=!xs.isEmpty)\/∃ kvs,H p=some (.dK kvs)/\k=!kvs.isEmpty
 | _=>False
def Zuh{κ:Type}{kvs:List (κ×V)}{vs:List (κ×Value)}(r:KV kvs vs):(!vs.isEmpty)=!kvs.isEmpty:=by
 cases r <;> rfl
def Zma{xs:LV}{its:LU}(r:Zb2 xs its):(!its.toArray.isEmpty)=!xs.isEmpty:=by
 cases r <;> simp
def Zk1:(sizeLine:Nat)<2 ^ 63:=by rw[sizeLine_eq];decide
def Z10:Yef X (λx H Q=>∃ k,Yas X.K x H k/\Q k H):=by
 intro pins s σ H x v Q I rx h;obtain⟨k,e,q⟩:=h;have hl:=Zk1;have hs:sizeLine=16777216:=sizeLine_eq;cases x with
 | non =>
  cases rx;have e':k=false:=e;subst e';exact truthy_none ⟨H,I,q⟩
 | bl b =>
  cases rx;have e':k=b:=e;subst e';exact Jh ⟨H,I,q⟩
 | int i =>
  obtain⟨t,rfl⟩:=rx;have e':k=(i != 0):=e;subst e';exact PySem.P.truthy_int ⟨H,I,q⟩
 | str y =>
  obtain⟨t,rfl⟩:=rx;obtain⟨hy,e'⟩:y.length<=sizeLine/\k=((y.length:Int) != 0):=e;subst e';exact PySem.P.truthy_str (by omega) ⟨H,I.tok _,q⟩
 | byt y =>
  obtain⟨t,rfl⟩:=rx;obtain⟨hy,e'⟩:y.size<=sizeLine/\k=((y.size:Int) != 0):=e;subst e';exact W.truthy_bytes (by omega) ⟨H,I.tok _,q⟩
 | ref p =>
  cases rx;have e':(∃ xs,SqL X.K H p xs/\k=!xs.isEmpty)\/(∃ xs,SqT X.K H p xs/\k=!xs.isEmpty)\/∃ kvs,H p=some (.dK kvs)/\k=!kvs.isEmpty:=e
  rcases e' with⟨xs,hx,e'⟩ | ⟨xs,hx,e'⟩ | ⟨kvs,hx,e'⟩
  ·subst e';obtain⟨its,r,pl,hz⟩:=I.list hx;have hlen:=r.length;exact wpAny_truthy_list pl.isList (by simp only[Yn];omega) ⟨H,I.tok _,by rw[Zma r];exact q⟩
  ·subst e';obtain⟨its,r,pl,hz⟩:=I.tuple hx;have hlen:=r.length;exact truthy_tuple pl (by simp only[Yn];omega) ⟨H,I.tok _,by rw[Zma r];exact q⟩
  ·subst e';obtain⟨hz,hS,vs,r,m⟩:kvs.length<=sizeLine/\(p == sysModules)=false/\∃ vs,KV kvs vs/\s.heap.DictOf (Zbe X.prog X.w) p vs:=I.hok p _ hx;have hlen:kvs.length=vs.length:=Yy r;exact wpAny_truthy_dict hS m (by omega) ⟨H,I.tok _,by rw[Zuh r];exact q⟩
 | _=>exact(show False from e).elim
def Zih(ha:PE X a ta)(he:∀ whole,isTrue a X.env whole=(do let v <- whole;standAt a.pos;holding [v] (truthy v))):
  PT X a (λσ H Q=>ta σ H λx H'=>∃ k,Yas X.K x H' k/\Q k H'):=by
 ac_rfl;exact isTrue_plain (thn (ha pins s σ H _ I h) λv s1 ⟨x,H1,I1,r1,q1⟩=>Z10 pins s1 σ H1 x v Q I1 r1 q1) (he _)
def Zl7:OpR X (binaryOp .Add) (λx y H Q=>∃ i j,x=.str i/\y=.str j/\i.length + j.length<=sizeLine/\Q (.str (i++j)) H):=by
 exfalso;obtain⟨i,j,rfl,rfl,hz,q⟩:=h;obtain⟨t,rfl⟩:=rx;obtain⟨t',rfl⟩:=ry;exact add_str (λt' tk=>⟨.str (i++j),H,I.tok _,⟨Z⟩,q⟩) hz
def Zix{x:V}{us:LU}(r:Zb2 [x] us):∃ u,us=[u]/\Zcm x u:=by
 cases r with
 | cons r1 r2=>cases r2;exact⟨Z,r1⟩
def Z5s{x y:V}{us:LU}(r:Zb2 [x,y] us):∃ u w',us=[u,w']/\Zcm x u/\Zcm y w':=by
 cases r with
 | cons r1 r2 =>
  cases r2 with
  | cons r3 r4=>cases r4;exact⟨_,Z,r1,r3⟩
def Zyq:Zjk X (.type "int") (λxs H Q=>(∃ i,xs=[.int i]/\Q (.int i) H)\/∃ k,xs=[.bl k]/\Q (.int (if k then 1 else 0)) H):=by
 intro pins s σ H xs us Q I r h
 rcases h with⟨i,rfl,q⟩ | ⟨k,rfl,q⟩
 ·obtain⟨u,rfl,t,rfl⟩:=Zix r;exact call_int_int ⟨.int i,H,I,⟨Z⟩,q⟩
 ·obtain⟨u,rfl,r1⟩:=Zix r;cases r1;exact call_int_bool ⟨.int (if k then 1 else 0),H,I.tok _,⟨Z⟩,q⟩
def Zpz:Zjk X (.type "str") (λxs H Q=>∃ i,xs=[.int i]/\i.natAbs.log2<1920/\Q (.str (toString i)) H):=by
 intro pins s σ H xs us Q I r h;obtain⟨i,rfl,hz,q⟩:=h;obtain⟨u,rfl,t,rfl⟩:=Zix r;exact PySem.P.str_of_int hz ⟨.str _,H,I.tok _,⟨Z⟩,q⟩
def Yco(K:Fg)(x:V)(H:Hp)(n:Nat):Prop :=
 match x with
 | .str y=>y.length<=sizeLine/\n=y.length
 | .byt y=>y.size<=sizeLine/\n=y.size
 | .ref p=>(∃ xs,SqL K H p xs/\n=xs.length)\/∃ xs,SqT K H p xs/\n=xs.length
 | _=>False
def Zb8:Zjk X (.builtin "len") (λxs H Q=>∃ x n,xs=[x]/\Yco X.K x H n/\Q (.int n) H):=by
 intro pins s σ H xs us Q I r h;obtain⟨x,n,rfl,e,q⟩:=h;obtain⟨u,rfl,rx⟩:=Zix r;have hl:=Zk1;have hs:sizeLine=16777216:=sizeLine_eq;cases x with
 | str y =>
  obtain⟨t,rfl⟩:=rx;obtain⟨hy,e'⟩:y.length<=sizeLine/\n=y.length:=e;subst e';exact len_str (by omega) ⟨.int _,H,I.tok _,⟨Z⟩,q⟩
 | byt y =>
  obtain⟨t,rfl⟩:=rx;obtain⟨hy,e'⟩:y.size<=sizeLine/\n=y.size:=e;subst e';exact W.len_bytes (by omega) ⟨.int _,H,I.tok _,⟨Z⟩,q⟩
 | ref p =>
  cases rx;have e':(∃ xs,SqL X.K H p xs/\n=xs.length)\/∃ xs,SqT X.K H p xs/\n=xs.length:=e
  rcases e' with⟨xs,hx,e'⟩ | ⟨xs,hx,e'⟩
  ·subst e';obtain⟨its,r',pl,hz⟩:=I.list hx;have hlen:=r'.length;exact Calls.call_len_list pl.isList (by simp only[Yn];omega) ⟨.int xs.length,H,I.tok _,⟨_,by simp only[Yn];rw[hlen]⟩,q⟩
  ·subst e';obtain⟨its,r',pl,hz⟩:=I.tuple hx;have hlen:=r'.length;exact len_tuple pl (by simp only[Yn];omega) ⟨.int xs.length,H,I.tok _,⟨_,by simp only[Yn];rw[hlen]⟩,q⟩
 | _=>exact(show False from e).elim
end
structure Z5h(h:Heap)(x dx C:Addr)(mA:Str->OU):Prop where
 obj:h.get? x=some (W.instObj C dx)
 ns:h.Ns1 dx mA
 ne:dx≠x
def Zxm{h:Heap}{dx:Addr}{mA:Str->OU}(n:h.Ns1 dx mA):∃ od,h.get? dx=some od/\∀ name,W.lookIn name od=some (mA name):=by
 obtain⟨o,es,ep,ho,hd,hk,_,hm⟩:=n;refine⟨o,ho,λname=>?_⟩;have e:=hm name;unfold nsFind findBy at e;rw[<- Array.find?_toList]at e;unfold W.lookIn;rw[hd];dsimp only;split
 ·rename_i y q
  rw[q]at e;exact congrArg some e
 ·rename_i q
  rw[q]at e;have a:es.toList.any (·.refKey)=false:=by
   rw[List.any_eq_false];intro y hy;obtain⟨z,t,hkey⟩:=hk y (Array.mem_toList_iff.mp hy);simp[DictEntry.refKey,hkey]
  have a':¬ es.toList.any (·.refKey)=true:=by rw[a];exact Yq
  rw[if_neg a'];exact congrArg some e
def Z5h.look{h:Heap}{x dx C:Addr}{mA:Str->OU}(I:Z5h h x dx C mA):∃ od,W.InstAt h x (W.instObj C dx) C (some od)/\∀ name,W.lookIn name od=some (mA name):=
 let⟨od,ho,hl⟩:=Zxm I.ns
 ⟨od,⟨I.obj,Y,Y,ho⟩,hl⟩
section
variable {prog:Program}{w:World}{A:Around}{E:EV}{s:Shared}{K:Fg}{x dx C f:Addr}{mA:Str->OU}{name:Str}{v:Value}
def Z4p{expr:Bool}{Q:EV}(X:K.In s.heap)(I:Z5h s.heap x dx C mA)(hg:W.plainGet K C name=true)(hh:W.hasDictIn K C=true)
  (ha:W.findIn K (.ref C) name=some none) (hv:mA name=some v) (hv':W.handedIn v=true) (h:Q v {s with toks:=s.toks + 1}):
  wpAny (model prog w) A (getAttr (.ref x) name expr) Q E s:=by
 obtain⟨od,J,hl⟩:=I.look;exact W.get_value X J (W.plainGet_of hg).1 (W.findObj_own hh ha rfl (by rw[hl,hv])) hv' h
def Z1b{pl:Sem Bool}{Q:Value×LU->Shared->Prop}(X:K.In s.heap)(I:Z5h s.heap x dx C mA)(hg:W.plainGet K C name=true)
  (hf:W.findIn K (.ref C) name=some (some (.ref f))) (ht:W.isFn K (.ref f)=true) (hv:mA name=none) (h:Q (.ref f,[.ref x]) s):
  wpAny (model prog w) A (getMethod (.ref x) name pl) Q E s:=by
 obtain⟨od,J,hl⟩:=I.look;exact W.method_fn X J (W.plainGet_of hg).1 (W.plainGet_of hg).2 hf (beq_iff_eq.mp ht) (by show(W.lookIn name od).map (·.isSome)=some false;rw[hl,hv];rfl) h
def Z3f{ns:LS}{Q:Unit->Shared->Prop}(X:K.In s.heap)(I:Z5h s.heap x dx C mA)
  (hs:W.findIn K (.ref C) "__setattr__"=some (some (.builtin "object.__setattr__"))) (hp:W.plainOver K C=true) (ht:W.takerIn K C name=some none) (hh:W.hasDictIn K C=true)
  (hw:PySem.Within mA ns) (hsz:ns.length<=sizeLine)
  (h:∀ h',Z5h h' x dx C (λy=>if y=name then some v else mA y)->Heap.SameBut dx s.heap h'->Q () {s with heap:=h',toks:=s.toks + 2}):
  wpAny (model prog w) A (setAttr (.ref x) name v) Q E s:=by
 obtain⟨od,J,hl⟩:=I.look;refine W.set_plain X J hs (W.osa_open (s:={s with toks:=s.toks + 1}) (r:=none) X J hp ht λb=>?_);obtain⟨cd,hc,hd'⟩:=W.any_some hh;have hx:s.heap.get? x=some ⟨.ref C,some dx,.plain,#[]⟩:=I.obj;refine Ja (Jd (Ja (Ja (wpAny_loadPart hx (Ja (W.Looks.here (s:={s with toks:=s.toks + 1}) (W.looks_clsIn X hc) ?_))))));rw[hd'];refine Jd (a:=some dx) (Ja (Jd (Ja ?_)));refine wpAny_nsSet1 (s:={s with toks:=s.toks + 1}) I.ns λh' hn2 hs2=>?_;obtain⟨oD,esD,epD,hoD,hdD,hcD⟩:=hn2.count (PySem.Within.cons name v hw);refine Ja (wpAny_lookBehind hoD (by rw[hdD];exact pastItsLine_dict (Yv1 hcD (by rw[Yv];omega))) ?_);exact Jd (h _ ⟨(hs2.2 _ (Yu I.ne)).trans I.obj,hn2,I.ne⟩ hs2)
def Z0y{R:Result->Shared->Prop}{vs:LU}{kw:List (Str×Value)}(X:K.In s.heap)(hm:W.makesIn K C=true)
  (hi:W.findIn K (.ref C) "__init__"=some (some (.ref f))) (hf:W.typeIn K (.ref f)=some (.type "function"))
  (h:codeAny (model prog w) (A.under (.builtin "type.__call__" ⟨.ref C :: vs,kw⟩)) (.call (.ref f) ⟨.ref (s.heap.objs.size + 1):: vs,kw⟩) (W.InitBack (s.heap.objs.size + 1) R)
   {s with heap:=(s.heap.push W.emptyDict).push (W.instObj C s.heap.objs.size) }):
  codeAny (model prog w) A (.call (.ref C) ⟨vs,kw⟩) R s:=by
 obtain⟨hh,g,d,t,os⟩:=s;exact W.make_core (W.makes_of X hm) (W.looks_findIn X hi) (λself=>W.bind_fn X self hf) (.inl rfl) h
end
def Zhh(f:Str)(v:V):List (Str×V)->List (Str×V)
 | []=>[(f,v)]
 | (g,x):: r=>if g=f then(g,v):: r else(g,x):: Zhh f v r
theorem Zas(f g:Str)(v:V):∀ fs:List (Str×V),(Zhh f v fs).lookup g=if g=f then some v else fs.lookup g
 | []=>by
  show List.lookup g [(f,v)]=_;by_cases h:g=f
  ·have hb:(g == f)=true:=beq_iff_eq.mpr h;simp only[List.lookup,hb,if_pos h]
  ·have hb:(g == f)=false:=Yh4.mpr h;simp only[List.lookup,hb,if_neg h]
 | (k,x):: r=>by
  have ih:=Zas f g v r;rw[show Zhh f v ((k,x):: r)=(if k=f then(k,v):: r else(k,x):: Zhh f v r)from rfl];by_cases hk:k=f
  ·rw[if_pos hk];by_cases h:g=k
   ·have hb:(g == k)=true:=beq_iff_eq.mpr h;simp only[List.lookup,hb,if_pos (h.trans hk)]
   ·have hb:(g == k)=false:=Yh4.mpr h;simp only[List.lookup,hb,if_neg (λe:g=f=>h (e.trans hk.symm))]
  ·rw[if_neg hk];by_cases h:g=k
   ·have hb:(g == k)=true:=beq_iff_eq.mpr h;simp only[List.lookup,hb,if_neg (λe:g=f=>hk (h.symm.trans e))]
   ·have hb:(g == k)=false:=Yh4.mpr h;simp only[List.lookup,hb];exact ih
theorem Zk4(f:Str)(v:V):∀ fs:List (Str×V),f∈(Zhh f v fs).map (·.1)/\∀ g,g∈fs.map (·.1)->g∈(Zhh f v fs).map (·.1)
 | []=>⟨by simp[Zhh],λg h=>by simp at h⟩
 | (k,x):: r=>by
  obtain⟨i1,i2⟩:=Zk4 f v r;rw[show Zhh f v ((k,x):: r)=(if k=f then(k,v):: r else(k,x):: Zhh f v r)from rfl];by_cases hk:k=f
  ·rw[if_pos hk];subst hk;exact⟨by simp,λg h=>by simpa using h⟩
  ·rw[if_neg hk];refine⟨?_,λg h=>?_⟩
   ·rw[Yz];exact Ys _ i1
   ·rw[Yz]at h ⊢
    rcases Yt.mp h with e | e
    ·exact Yt.mpr (.inl e)
    ·exact Ys _ (i2 g e)
theorem Zk2(f:Str)(v:V):∀ fs:List (Str×V),(Zhh f v fs).length<=fs.length + 1
 | []=>by simp[Zhh]
 | (k,x):: r=>by
  have ih:=Zk2 f v r;rw[show Zhh f v ((k,x):: r)=(if k=f then(k,v):: r else(k,x):: Zhh f v r)from rfl];by_cases hk:k=f
  ·rw[if_pos hk,Yv,Yv];omega
  ·rw[if_neg hk,Yv,Yv];omega
def Zqg.some_of{v:V}{o:OU}(r:Zqg (some v) o):∃ u,o=some u/\Zcm v u:=by
 cases o with
 | none=>exact(show False from r).elim
 | some u=>exact⟨u,Y,r⟩
def Zqg.none_of{o:OU}(r:Zqg none o):o=none:=by
 cases o with
 | none=>rfl
 | some u=>exact(show False from r).elim
def Zx1{v:V}{u:Value}(r:Zcm v u):W.handedIn u=true:=by
 cases v with
 | non=>cases(show u=Value.none from r);rfl
 | bl b=>cases(show u=Value.bool b from r);rfl
 | int i=>obtain⟨t,e⟩:=(show ∃ t,u=Value.int i t from r);cases e;rfl
 | str x=>obtain⟨t,e⟩:=(show ∃ t,u=Value.str x t from r);cases e;rfl
 | byt b=>obtain⟨t,e⟩:=(show ∃ t,u=Value.bytes b t from r);cases e;rfl
 | flt b=>obtain⟨t,e⟩:=(show ∃ t,u=Value.float b t from r);cases e;rfl
 | ref a=>cases(show u=Value.ref a from r);rfl
 | ty n=>cases(show u=Value.type n from r);rfl
section
variable {P:Program}{w:World}{H H':Hp}{h h':Heap}{a C dx:Addr}{fs fs':List (Str×V)}
def Znb(hok:HOk P w H h)(e:H a=some (.ins C dx fs)):∃ mA,Z5h h a dx C mA/\(∀ f,Zqg (fs.lookup f) (mA f))/\PySem.Within mA (fs.map (·.1))/\fs.length<=1000/\H dx=some (.own a):=by
 obtain⟨d,z,ne,ob,mA,n,r,q⟩:=(show Zcu P w H h a (.ins C dx fs)from hok a _ e);exact⟨mA,⟨ob,n,ne⟩,r,q,z,d⟩
end
structure Cls(K:Fg)(C:Addr):Prop where
 pg:W.plainGet K C Str.empty=true
 hd:W.hasDictIn K C=true
 po:W.plainOver K C=true
 sa:W.findIn K (.ref C) "__setattr__"=some (some (.builtin "object.__setattr__"))
def Cls.get{K:Fg}{C:Addr}(c:Cls K C)(f:Str):W.plainGet K C f=true:=c.pg
def Zfr(K:Fg)(C:Addr)(f:Str):Prop:=W.findIn K (.ref C) f=some none
def Zfr.taker{K:Fg}{C:Addr}{f:Str}(n:Zfr K C f):W.takerIn K C f=some none:=by
 unfold W.takerIn;rw[show W.findIn K (.ref C) f=some none from n];rfl
structure Con(K:Fg)(C:Addr)(f:Str)(v:V)(u:Value):Prop where
 at_:W.findIn K (.ref C) f=some (some u)
 rel:Zcm v u
 get:W.specialIn K u "__get__"=some none
 cp:W.copiedNames.contains f=false
structure Z8k(K:Fg)(C:Addr)(m:Str)(f:Addr):Prop where
 at_:W.findIn K (.ref C) m=some (some (.ref f))
 fn:W.isFn K (.ref f)=true
 kp:W.keepIn K (.ref f)=true
section
variable {X:Cx}{pins:PL}{σ:St}{H:Hp}{s:Shared}{a C dx:Addr}{fs:List (Str×V)}{f:Str}{v:V}{A:Around}{E:EV}
def Zuk{b:Bool}{Q:EV}(I:Inv X pins σ H s)(e:H a=some (.ins C dx fs))(c:Cls X.K C)(n:Zfr X.K C f)(l:fs.lookup f=some v)
  (h:∀ u s',Inv X pins σ H s'->Zcm v u->Q u s'):wpAny (model X.prog X.w) A (getAttr (.ref a) f b) Q E s:=by
 obtain⟨mA,O,r,_,_,_⟩:=Znb I.hok e;obtain⟨u,hu,ru⟩:=Zqg.some_of (v:=v) (o:=mA f) (by rw[<- l];exact r f);exact Z4p I.kIn O (c.get f) c.hd n hu (Zx1 ru) (h u _ (I.tok _) ru)
def Zmb{m:Str}{g:Addr}{pl:Sem Bool}{Q:Value×LU->Shared->Prop}(I:Inv X pins σ H s)(e:H a=some (.ins C dx fs))(c:Cls X.K C)(k:Z8k X.K C m g)(l:fs.lookup m=none)
  (h:Q (.ref g,[.ref a]) s):wpAny (model X.prog X.w) A (getMethod (.ref a) m pl) Q E s:=by
 obtain⟨mA,O,r,_,_,_⟩:=Znb I.hok e;have hn:mA m=none:=Zqg.none_of (by rw[<- l];exact r m);exact Z1b I.kIn O (c.get m) k.at_ k.fn hn h
def Ztr{y:V}{u:Value}{Q:Unit->Shared->Prop}(I:Inv X pins σ H s)(e:H a=some (.ins C dx fs))(c:Cls X.K C)(n:Zfr X.K C f)(hl:fs.length<1000)(ry:Zcm y u)
  (h:∀ s',Inv X pins σ (upd H a (.ins C dx (Zhh f y fs))) s'->Q () s'):wpAny (model X.prog X.w) A (setAttr (.ref a) f u) Q E s:=by
 obtain⟨mA,O,r,wi,_,ho⟩:=Znb I.hok e;have hz:(fs.map (·.1)).length<=sizeLine:=by rw[Ya,sizeLine_eq];omega
 refine Z3f I.kIn O c.sa c.po n.taker c.hd wi hz λh' O' sb=>h _ ?_;have hd:∃ o,h'.get? dx=some o:=let⟨o,_,_,e',_⟩:=O'.ns;⟨o,e'⟩;refine I.write (x:=a) (e:=dx) (by rw[e];exact True.intro) (.inr ho) (λb q hb z=>(sb.2 b hb).trans z) hd ?_;refine⟨by rw[Zab O.ne];exact ho,?_,O.ne,O'.obj,_,O'.ns,λg=>?_,λg hg=>?_⟩
 ·have:=Zk2 f y fs;omega
 ·show Zqg ((Zhh f y fs).lookup g) (if g=f then some u else mA g);rw[Zas];by_cases q:g=f
  ·rw[if_pos q,if_pos q];exact ry
  ·rw[if_neg q,if_neg q];exact r g
 ·by_cases q:g=f
  ·rw[q];exact(Zk4 f y fs).1
  ·refine(Zk4 f y fs).2 g (wi g λz=>hg ?_);show(if g=f then some u else mA g)=none;rw[if_neg q];exact z
def Inv.made(I:Inv X pins σ H s):Inv X pins σ (upd (upd H s.heap.objs.size (.own (s.heap.objs.size + 1))) (s.heap.objs.size + 1) (.ins C s.heap.objs.size []))
  {s with heap:=(s.heap.push W.emptyDict).push (W.instObj C s.heap.objs.size) }:=by
 have e1:(s.heap.push W.emptyDict).get? s.heap.objs.size=some W.emptyDict:=Yp s.heap rfl;have e2:((s.heap.push W.emptyDict).push (W.instObj C s.heap.objs.size)).get? (s.heap.objs.size + 1)=some (W.instObj C s.heap.objs.size):=by
  have:=Yp (s.heap.push W.emptyDict) (o:=W.instObj C s.heap.objs.size) rfl
  rwa [Yp3]at this
 have e3:(s.heap.push W.emptyDict).Ns s.heap.objs.size (λ_=>none):=⟨W.emptyDict,#[],_,e1,Y,(λe he=>absurd he (by simp)),λ_=>rfl⟩;have I1:=I.laid (a:=s.heap.objs.size) (o:=.own (s.heap.objs.size + 1)) (h':=s.heap.push W.emptyDict) (t':=s.toks) (λb u q=>Yd _ q) (Yg _) ⟨_,e1⟩;refine I1.laid (a:=s.heap.objs.size + 1) (o:=.ins C s.heap.objs.size []) (t':=s.toks) (λb u q=>Yd _ q) (Nat.le_of_eq (Yp3 _ _)) ?_;have ne:s.heap.objs.size≠s.heap.objs.size + 1:=Yx (Nat.lt_succ_self _);refine⟨by rw[Zab ne,uS],Yj1 _,ne,e2,λ_=>none,(Heap.Ns1.of_empty e3).at λo q=>Yd _ q,λ_=>True.intro,λy hy=>absurd rfl hy⟩
def Z47{prog:Program}{w:World}{env:Env}{e:Expr}{f:Str}{pos:Pos}{s:Shared}{Q:EV}(hb:attributeBase e f env (eval e env)=eval e env)
  (h:wpAny (model prog w) A (eval e env) (λo s₁=>wpAny (model prog w) A (getAttr o f true) Q E s₁) E s):wpAny (model prog w) A (eval (.Attribute e f pos) env) Q E s :=
 Attribute_any_ h (by rw[arm_eval_Attribute,hb])
end
def Ycw(K:Fg)(ta:TE)(f:Str):TE:=λσ H Q=>ta σ H λx H1=>∃ a C dx fs v,x=.ref a/\H1 a=some (.ins C dx fs)/\Cls K C/\Zfr K C f/\fs.lookup f=some v/\Q v H1
def Ydq(K:Fg)(ta tv:TE)(f:Str):TS:=λD σ H=>tv σ H λy H1=>ta σ H1 λx H2=>∃ a C dx fs,x=.ref a/\H2 a=some (.ins C dx fs)/\Cls K C/\Zfr K C f/\fs.length<1000 /\
 D.nx σ (upd H2 a (.ins C dx (Zhh f y fs)))
section
variable {X:Cx}{o e value:Expr}{f:Str}{pos pos' tpos:Pos}{ta tv:TE}
def Zfy(he:PE X e ta)(hb:attributeBase e f X.env (eval e X.env)=eval e X.env):PE X (.Attribute e f pos) (Ycw X.K ta f):=by
 ac_rfl;refine Z47 hb (thn (he pins s σ H _ I h) λu s1 ⟨x,H1,I1,rx,a,C,dx,fs,v,ex,ea,c,n,l,q⟩=>?_);subst ex;obtain rfl:u=Value.ref a:=rx;exact Zuk I1 ea c n l λu' s2 I2 ru=>⟨v,H1,I2,ru,q⟩
def Zjo(ha:PE X o ta)(hv:PE X value tv)(hs:swapsWith value (some (.Attribute o f pos')) pos.line X.env=pure false):PS X (.Assign [.Attribute o f pos'] value pos) (Ydq X.K ta tv f):=by
 intro pins s σ H D I h;refine plainObj_wpAny_Assign_Attribute (thn (hv pins s σ H _ I h) λu s1 ⟨y,H1,I1,ry,q⟩=>thn (ha pins s1 σ H1 _ I1 q) λov s2 ⟨x,H2,I2,rx,a,C,dx,fs,ex,ea,c,n,l,q2⟩=>?_) hs;subst ex;obtain rfl:ov=Value.ref a:=rx;exact Ztr I2 ea c n l ry λs3 I3=>⟨σ,_,I3,q2⟩
end
section
variable {X:Cx}{pins:PL}{σ:St}{H:Hp}{s:Shared}{A:Around}{E:EV}{Q:EV}{c:Value}{b:Bool}
inductive Zux(K:Fg)(H:Hp):V->Value->Prop where
 | non:Zux K H .non (.type "NoneType")
 | bl (x:Bool):Zux K H (.bl x) (.type "bool")
 | int (i:Int):Zux K H (.int i) (.type "int")
 | str (x:Str):Zux K H (.str x) (.type "str")
 | flt (x:UInt64):Zux K H (.flt x) (.type "float")
 | lst {a:Addr} {xs:LV} (e:H a=some (.lst xs)):Zux K H (.ref a) (.type "list")
 | frz {a:Addr} {o:Obj} {xs:LV} (e:H a=some (.frz o (.lst xs))):Zux K H (.ref a) (.type "list")
 | tup {a:Addr} {xs:LV} (e:H a=some (.tup xs)):Zux K H (.ref a) (.type "tuple")
 | dK {a:Addr} {kvs:KL} (e:H a=some (.dK kvs)):Zux K H (.ref a) (.type "dict")
 | dT {a:Addr} {kvs:List (List Key×V)} (e:H a=some (.dT kvs)):Zux K H (.ref a) (.type "dict")
 | ins {a C dx:Addr} {fs:List (Str×V)} (e:H a=some (.ins C dx fs)) (cl:Cls K C) (ha:W.findIn K (.ref C) "__class__"=some (some (.builtin "object.__class__")))
   (hn:W.specialIn K (.builtin "object.__class__") "__get__"=some (some (.builtin "getset_descriptor.__get__"))) (htk:W.takesIn K (.builtin "object.__class__")=some true)
   (hm:W.mroIn K C (.type "object")=some true):Zux K H (.ref a) (.ref C)
def Zxw{x:V}{u t:Value}(I:Inv X pins σ H s)(rx:Zcm x u)(ty:Zux X.K H x t)(e:W.kitOne X.K t c=some b)(h:∀ tk,Q (.bool b) {s with toks:=tk}):
  wpAny (model X.prog X.w) A (call (.builtin "isinstance") [u,c]) Q E s:=by
 cases ty with
 | non=>cases(show u=Value.none from rx);exact W.kia_one W.kitx_none I.kIn True.intro e (λz=>nomatch z) h
 | bl y=>cases(show u=Value.bool y from rx);exact W.kia_one W.kitx_bool I.kIn True.intro e (λz=>nomatch z) h
 | int i=>obtain⟨t,q⟩:=(show ∃ t,u=Value.int i t from rx);cases q;exact W.kia_one W.kitx_int I.kIn True.intro e (λz=>nomatch z) h
 | str y=>obtain⟨t,q⟩:=(show ∃ t,u=Value.str y t from rx);cases q;exact W.kia_one W.kitx_str I.kIn True.intro e (λz=>nomatch z) h
 | flt y=>obtain⟨t,q⟩:=(show ∃ t,u=Value.float y t from rx);cases q;exact W.kia_one W.kitx_float I.kIn True.intro e (λz=>nomatch z) h
 | @lst a xs ea =>
  cases(show u=Value.ref a from rx);obtain⟨_,_,n,_,h1⟩:=(show Zcu X.prog X.w H s.heap a (.lst xs)from I.hok a _ ea);exact W.kia_one W.kitx_list I.kIn ⟨_,h1,Y⟩ e (λz=>nomatch z) h
 | @frz a ob xs ea =>
  cases(show u=Value.ref a from rx);obtain⟨_,_,_,n,_,h1⟩:=(show Zcu X.prog X.w H s.heap a (.frz ob (.lst xs))from I.hok a _ ea);exact W.kia_one W.kitx_list I.kIn ⟨_,h1,Y⟩ e (λz=>nomatch z) h
 | @tup a xs ea =>
  cases(show u=Value.ref a from rx);obtain⟨_,_,_,p⟩:=(show Zcu X.prog X.w H s.heap a (.tup xs)from I.hok a _ ea);obtain⟨o,h1,h2,_⟩:=p;exact W.kia_one W.kitx_tuple I.kIn ⟨o,h1,h2⟩ e (λz=>nomatch z) h
 | @dK a kvs ea =>
  cases(show u=Value.ref a from rx);obtain⟨_,_,vs,_,p⟩:=(show Zcu X.prog X.w H s.heap a (.dK kvs)from I.hok a _ ea);obtain⟨o,es,ep,h1,h2,_⟩:=p;exact W.kia_one W.kitx_dict I.kIn ⟨o,h1,h2.1⟩ e (λz=>nomatch z) h
 | @dT a kvs ea =>
  cases(show u=Value.ref a from rx);obtain⟨_,_,xs,_,o,es,ep,h1,h2,_⟩:=(show Zcu X.prog X.w H s.heap a (.dT kvs)from I.hok a _ ea);exact W.kia_one W.kitx_dict I.kIn ⟨o,h1,h2.1⟩ e (λz=>nomatch z) h
 | @ins a C dx fs ea cl ha hn htk hm =>
  cases(show u=Value.ref a from rx);obtain⟨mA,O,_⟩:=Znb I.hok ea;obtain⟨od,J,_⟩:=O.look;exact W.kia_one (W.kitx_own (cl.get _) cl.hd ha hn htk hm) I.kIn J e (λz=>nomatch z) h
end
structure Zci(k:Nat)(A:Around):Prop where
 hd:A.handled=none
 dp:A.depth + 3 * k + 5<recursionLimit
 un:A.units + 16 * k + 200<cLine
 gd:A.guards=some []
def Zci.mono{j k:Nat}{A:Around}(r:Zci k A)(h:j<=k):Zci j A:=⟨r.hd,by have:=r.dp;omega,by have:=r.un;omega,r.gd⟩
theorem Zci.deeper{k:Nat}{A:Around}(r:Zci (k + 1) A)(env:Env):Zci k (A.deeper env):=
 ⟨r.hd,by have:=r.dp;show A.depth + 1 + 3 * k + 5<_;omega,by have:=r.un;show A.units + 3 + 16 * k + 200<_;omega,r.gd⟩
def Zub{A:Around}{C:Addr}{us:LU}{kw:List (Str×Value)}:(A.under (.builtin "type.__call__" ⟨.ref C :: us,kw⟩)).depth=A.depth + 1:=by
 first | rfl | simp[Around.under,Code.weight,Code.isCreation,Code.isGuard,Code.isCaller,Code.frames,Code.isFrame,guardIds]
def Zua{A:Around}{C:Addr}{us:LU}{kw:List (Str×Value)}:(A.under (.builtin "type.__call__" ⟨.ref C :: us,kw⟩)).units=A.units + 1:=by
 first | rfl | simp[Around.under,Code.cUnits,Code.frames,Code.isFrame]
def Zci.make{k:Nat}{A:Around}(r:Zci (k + 1) A)(C:Addr)(us:LU)(kw:List (Str×Value)):Zci k (A.under (.builtin "type.__call__" ⟨.ref C :: us,kw⟩)):=
 ⟨r.hd,by have:=r.dp;rw[Zub];omega,by have:=r.un;rw[Zua];omega,by first | exact r.gd | simpa[Around.under,Code.guards,Code.isGuard,guardIds,pushGuards]using r.gd⟩
theorem Zci.depth{k:Nat}{A:Around}(r:Zci k A):A.depth<recursionLimit:=by have:=r.dp;omega
theorem Zci.units{k:Nat}{A:Around}(r:Zci k A):A.units + 64<cLine:=by have:=r.un;omega
def Z8b:TA:=λ_ H Q=>Q [] H
def Z28(ta:TE)(tr:TA):TA:=λσ H Q=>ta σ H λx H1=>tr σ H1 λxs H2=>Q (x :: xs) H2
section
variable {X:Cx}{e:Expr}{es:List Expr}{te:TE}{t:TA}{pos:Pos}
def Zaa:PA X [] Z8b:=λ_ _ _ _ H Q I h=>Calls.spliced_nil ⟨[],H,I,.nil,h⟩
def pC(ha:PE X e te)(hr:PA X es t)(hs:starEach (e :: es) X.env=(false,eval e X.env):: starEach es X.env:=by rfl):PA X (e :: es) (Z28 te t):=by
 intro pos pins s σ H Q I h;rw[hs];show wpAny _ _ (spliced ((false,eval e X.env):: backTo pos (starEach es X.env))) _ _ s;refine Yv5 (thn (ha pins s σ H _ I h) λu s1 ⟨x,H1,I1,r1,q1⟩=>?_);exact thn (hr pos pins s1 σ H1 _ I1 q1) λus s2 ⟨xs,H2,I2,r2,q2⟩=>⟨x :: xs,H2,I2,.cons r1 r2,q2⟩
def Z8m(t:TA):TE:=λσ H Q=>t σ H λxs H1=>xs.length<=sizeLine/\∀ p,H1 p=none->Q (.ref p) (upd H1 p (.tup xs))
def Ycu(t:TA):TE:=λσ H Q=>t σ H λxs H1=>xs.length<=sizeLine/\∀ p,H1 p=none->Q (.ref p) (upd H1 p (.lst xs))
def Zcs{x1}(h:PA X es t):PE X (.Tuple es x1 pos) (Z8m t):=by
 intro pins s σ H Q I hq;refine wpAny_Tuple_spliced (thn (h pos pins s σ H _ I hq) λus s1 ⟨xs,H1,I1,r,z,q⟩=>⟨by rw[<- r.length];exact z,?_⟩);have hf:H1 s1.heap.objs.size=none:=I1.hok.fresh (Yg _);refine⟨.ref s1.heap.objs.size,upd H1 s1.heap.objs.size (.tup xs),I1.laid (t':=s1.toks) (λb u e=>Yd _ e) (Yg _) ?_,Y,q _ hf⟩;exact⟨z,us,r,⟨_,Yp _ rfl,Y,Z⟩⟩
def Zbd(h:PA X es t):PE X (.List es pos) (Ycu t):=by
 intro pins s σ H Q I hq;refine wpAny_List_spliced (thn (h pos pins s σ H _ I hq) λus s1 ⟨xs,H1,I1,r,z,q⟩=>⟨by rw[<- r.length];exact z,?_⟩);have hf:H1 s1.heap.objs.size=none:=I1.hok.fresh (Yg _);refine⟨.ref s1.heap.objs.size,upd H1 s1.heap.objs.size (.lst xs),I1.laid (t':=s1.toks) (λb u e=>Yd _ e) (Yg _) ?_,Y,q _ hf⟩;exact⟨z,us,0,r,Yp _ rfl⟩
end
abbrev Sp:=LV->Hp->VK->XK->Prop
abbrev CXT:=List Env->Hp->Shared->XK->Value->Shared->Prop
structure Env0(P:Program)(w:World)(K:Fg)(mg:Str->OU)(base:Heap)(A:Around)(outer:List Env)(s:Shared)(H:Hp):Prop where
 frames:A.frames=some outer
 mod:Mod K mg base
 bs:∀ b o,base.get? b=some o->s.heap.get? b=some o/\H b=none
 bsz:base.objs.size<=s.heap.objs.size
 funs:s.heap.FunFrames base outer
 frf:∀ b∈frs outer,H b=none
 hok:HOk P w H s.heap
 bare:AllBare s.gens
def CE(outer:List Env)(P:Program)(w:World)(H:Hp)(s:Shared)(Q:VK)(u:Value)(s':Shared):Prop :=
 ∃ v H',s'.os=s.os/\AllBare s'.gens/\Un (frs outer) [] H H' s.heap s'.heap/\HOk P w H' s'.heap/\Zcm v u/\Q v H'
def CR(CX:CXT)(outer:List Env)(P:Program)(w:World)(H:Hp)(s:Shared)(Q:VK)(E:XK)(r:Result)(s':Shared):Prop :=
 match r with
 | .ok (.ret u)=>CE outer P w H s Q u s'
 | .ok _=>False
 | .error e=>CX outer H s E e s'
structure Zaq(P:Program)(w:World)(K:Fg)(mg:Str->OU)(base:Heap)(CX:CXT)(k:Nat)(f:Addr)(fd:FuncData)(ps:LS)(sp:Sp):Prop where
 len:∀ vs H Q E,sp vs H Q E->vs.length=ps.length
 run:∀(A:Around) (outer:List Env) (s:Shared) (H:Hp) (args:Args) (us:LU) (vs:LV) (Q:VK) (E:XK),Zci k A->Env0 P w K mg base A outer s H->BindsTo s fd args (ps.zip us)->Zb2 vs us->sp vs H Q E ->
  codeAny (model P w) A (.call (.ref f) args) (CR CX outer P w H s Q E) s
def Env0.make{P:Program}{w:World}{K:Fg}{mg:Str->OU}{base:Heap}{A:Around}{outer:List Env}{s:Shared}{H:Hp}(e:Env0 P w K mg base A outer s H)(C:Addr)(us:LU)(kw:List (Str×Value)):
  Env0 P w K mg base (A.under (.builtin "type.__call__" ⟨.ref C :: us,kw⟩)) outer s H:=⟨by first | exact e.frames | (simpa[Around.under,Code.envs,Code.isFrame,pushEnvs]using e.frames),e.mod,e.bs,e.bsz,e.funs,e.frf,e.hok,e.bare⟩
section
variable {X:Cx}{pins:PL}{σ:St}{H:Hp}{s s':Shared}
def Inv.env0(I:Inv X pins σ H s):Env0 X.prog X.w X.K X.mg X.base X.A X.stack s H :=
 ⟨I.ok.frames,I.ok.mod,I.bs,Yv1 I.ok.bsz I.sz,I.stack,I.stkFree,I.hok,I.bare⟩
def Inv.after{Q:VK}{u:Value}(I:Inv X pins σ H s)(h:CE X.stack X.prog X.w H s Q u s'):EP X pins σ Q u s':=by
 obtain⟨v,H',os,bare,un,hok,r,q⟩:=h;obtain⟨hh,g,d,t,os'⟩:=s';obtain rfl:os'=s.os:=os;exact⟨v,H',I.call (h':=hh) (g':=g) (d':=d) (t':=t) (ch:=[]) un hok bare (λb z=>absurd z (by simp)),r,q⟩
end
def Z52(sp:Sp)(dvs:LV)(E:XK)(t:TA):TE:=λσ H Q=>t σ H λvs H1=>sp (vs++dvs) H1 Q E
def Z5y(C:Addr)(m:Str)(sp:Sp)(dvs:LV)(E:XK)(ta:TE)(t:TA):TE:=λσ H Q=>ta σ H λx H1=>∃ a dx fs,x=.ref a/\H1 a=some (.ins C dx fs)/\fs.lookup m=none /\
 t σ H1 λvs H2=>sp (x :: (vs++dvs)) H2 Q E
def Z8s(C:Addr)(sp:Sp)(dvs:LV)(E:XK)(t:TA):TE:=λσ H Q=>t σ H λvs H1=>∀ x dx,H1 x=none->H1 dx=none->dx≠x ->
 sp (.ref x :: (vs++dvs)) (upd (upd H1 dx (.own x)) x (.ins C dx [])) (λv H2=>v=.non/\Q (.ref x) H2) E
def Zef(K:Fg)(fd:FuncData)(ps:LS)(ds:LU):Prop :=
 ∀(s:Shared) (us:LU),K.In s.heap->(us++ds).length=ps.length->BindsTo s fd ⟨us,[]⟩ (ps.zip (us++ds))
def Zef.all{K:Fg}{ps:LS}(h:∀ us:LU,us.length=ps.length->bindArgs fd ⟨us,[]⟩=pure (ps.zip us)):Zef K fd ps []:=λs us _ hl=>by
 rw[Yy1]at hl ⊢;exact .of_eq (h us hl)
def Zlf(CX:CXT)(X:Cx)(E:XK):Prop:=∀(pins:PL) (σ:St) (H:Hp) (s:Shared) (e:Value) (s':Shared),Inv X pins σ H s->CX X.stack H s E e s'->X.xe e s'
section
variable {X:Cx}{CX:CXT}{k:Nat}{f C:Addr}{fd:FuncData}{ps:LS}{sp:Sp}{dvs:LV}{ds:LU}{E:XK}{x m:Str}{p pos apos:Pos}{e o:Expr}{es:List Expr}{ta:TE}{t:TA}
def Zwc{pins:PL}{σ:St}{H:Hp}{s:Shared}{Q:VK}{us:LU}{vs:LV}(F:Zaq X.prog X.w X.K X.mg X.base CX k f fd ps sp)(hr:Zci k X.A)(hb:Zef X.K fd ps ds)(hd:Zb2 dvs ds)(hx:Zlf CX X E)
  (I:Inv X pins σ H s) (r:Zb2 vs us) (h:sp (vs++dvs) H Q E):wpAny (model X.prog X.w) X.A (call (.ref f) us) (EP X pins σ Q) X.xe s:=by
 have r2:Zb2 (vs++dvs) (us++ds):=r.append hd;have hl:(us++ds).length=ps.length:=by rw[<- r2.length];exact F.len _ _ _ _ h
 refine wpAny_call (codeAny_mono (F.run X.A X.stack s H ⟨us,[]⟩ (us++ds) (vs++dvs) Q E hr I.env0 (hb s us I.kIn hl) r2 h) λr s' hq=>?_);cases r with
 | error e=>exact hx pins σ H s e s' I hq
 | ok fl =>
  cases fl with
  | ret u=>exact I.after hq
  | next=>exact False.elim hq
  | brk=>exact False.elim hq
  | cont=>exact False.elim hq
def Z3v(F:Zaq X.prog X.w X.K X.mg X.base CX k f fd ps sp)(hr:Zci k X.A)(hg:Gl X x)(hm:X.mg x=some (.ref f))(hk:W.keepIn X.K (.ref f)=true)(hb:Zef X.K fd ps ds)(hd:Zb2 dvs ds)(hx:Zlf CX X E)
  (ha:PA X (e :: es) t) (hdb:(x == ("__debug__":Str))=false:=by decide) (he:starEach (e :: es) X.env=(false,eval e X.env):: starEach es X.env:=by rfl) (hpl:(backTo pos (starEach es X.env)).any (·.1)=false:=by rfl):
  PE X (.Call (.Name x p) (e :: es) [] pos) (Z52 sp dvs E t):=by
 ac_rfl;refine wpAny_Call_Name_kw (Zq8 I hg hm ?_ hdb);refine W.callWith_K (h₀:=X.base) I.ok.mod.kin hk (thn (ha pos pins s σ H _ I h) λus s1 ⟨vs,H1,I1,r,q⟩=>⟨I1.kIn,?_⟩) he hpl;exact Zwc F hr hb hd hx I1 r q
def Zee{pl:Sem Bool}(he:PE X o ta)(c:Cls X.K C)(hm:Z8k X.K C m f)(F:Zaq X.prog X.w X.K X.mg X.base CX k f fd ps sp)(hr:Zci k X.A)(hb:Zef X.K fd ps ds)(hd:Zb2 dvs ds)(hx:Zlf CX X E)(ha:PA X (e :: es) t)
  (hst:starEach (e :: es) X.env=(false,eval e X.env):: starEach es X.env:=by rfl) (hpl:(backTo pos (starEach es X.env)).any (·.1)=false:=by rfl)
  (ht:eval (.Call (.Attribute o m apos) (e :: es) [] pos) X.env=(do
   let ov <- eval o X.env
   standAt apos.atName
   let(f,first) <- holding [ov] (getMethod ov m pl)
   callWith pos f first (backTo pos (starEach (e :: es) X.env)) (backToKw pos (keywordEach [] X.env))):=by rfl):
  PE X (.Call (.Attribute o m apos) (e :: es) [] pos) (Z5y C m sp dvs E ta t):=by
 ac_rfl;refine W.methodCall_KW (pl:=pl) (thn (he pins s σ H _ I h) λu s1 ⟨x,H1,I1,rx,a,dx,fs,ex,ea,l,q⟩=>?_) ht;subst ex;obtain rfl:u=Value.ref a:=rx;refine Zmb I1 ea c hm l ?_;refine W.callWith_K (first:=[.ref a]) (h₀:=X.base) I.ok.mod.kin hm.kp (thn (ha pos pins s1 σ H1 _ I1 q) λus s2 ⟨vs,H2,I2,r,q2⟩=>⟨I2.kIn,?_⟩) hst hpl;exact Zwc (us:=.ref a :: us) (vs:=.ref a :: vs) F hr hb hd hx I2 (.cons rfl r) q2
def Zbv{pl:Sem Bool}(he:PE X o ta)(c:Cls X.K C)(hm:Z8k X.K C m f)(F:Zaq X.prog X.w X.K X.mg X.base CX k f fd ps sp)(hr:Zci k X.A)(hb:Zef X.K fd ps ds)(hd:Zb2 dvs ds)(hx:Zlf CX X E)
  (ht:eval (.Call (.Attribute o m apos) [] [] pos) X.env=(do
   let ov <- eval o X.env
   standAt apos.atName
   let(f,first) <- holding [ov] (getMethod ov m pl)
   callWith pos f first (backTo pos (starEach [] X.env)) (backToKw pos (keywordEach [] X.env))):=by rfl):
  PE X (.Call (.Attribute o m apos) [] [] pos) (Z5y C m sp dvs E ta Z8b):=by
 ac_rfl;refine W.methodCall_KW (pl:=pl) (thn (he pins s σ H _ I h) λu s1 ⟨x,H1,I1,rx,a,dx,fs,ex,ea,l,q⟩=>?_) ht;subst ex;obtain rfl:u=Value.ref a:=rx;refine Zmb I1 ea c hm l ?_;exact W.callWith_K0 (first:=[.ref a]) I1.kIn hm.kp (Zwc (us:=[.ref a]) (vs:=[.ref a]) F hr hb hd hx I1 (.cons rfl .nil) q)
structure Mk(K:Fg)(C f:Addr):Prop where
 makes:W.makesIn K C=true
 init:W.findIn K (.ref C) "__init__"=some (some (.ref f))
 fn:W.isFn K (.ref f)=true
 kp:W.keepIn K (.ref C)=true
def Zzs{pins:PL}{σ:St}{H:Hp}{s:Shared}{Q:VK}{us:LU}{vs:LV}(M:Mk X.K C f)(F:Zaq X.prog X.w X.K X.mg X.base CX k f fd ps sp)(hr:Zci (k + 1) X.A)(hb:Zef X.K fd ps ds)(hd:Zb2 dvs ds)
  (hx:Zlf CX X E) (I:Inv X pins σ H s) (r:Zb2 vs us)
  (h:∀ x dx,H x=none->H dx=none->dx≠x->sp (.ref x :: (vs++dvs)) (upd (upd H dx (.own x)) x (.ins C dx [])) (λv H2=>v=.non/\Q (.ref x) H2) E):
  wpAny (model X.prog X.w) X.A (call (.ref C) us) (EP X pins σ Q) X.xe s:=by
 have hq:=h (s.heap.objs.size + 1) s.heap.objs.size (I.hok.fresh (Nat.le_succ _)) (I.hok.fresh (Yg _)) (Yx (Nat.lt_succ_self _));have I2:=Inv.made (C:=C) I;have r2:Zb2 (V.ref (s.heap.objs.size + 1):: (vs++dvs)) (Value.ref (s.heap.objs.size + 1):: (us++ds)):=.cons rfl (r.append hd);have hl:(Value.ref (s.heap.objs.size + 1):: us++ds).length=ps.length:=by
  have e:=r2.length;rw[F.len _ _ _ _ hq]at e;exact e.symm
 refine wpAny_call (Z0y (f:=f) I.kIn M.makes M.init (beq_iff_eq.mp M.fn) (codeAny_mono (F.run _ X.stack _ _ ⟨Value.ref (s.heap.objs.size + 1):: us,[]⟩ (Value.ref (s.heap.objs.size + 1):: (us++ds)) _ _ E (hr.make C us [])
  (I2.env0.make C us []) (hb _ (Value.ref (s.heap.objs.size + 1):: us) I2.kIn hl) r2 hq) λr s' hq'=>?_))
 cases r with
 | error e=>exact hx pins σ _ _ e s' I2 hq'
 | ok fl =>
  cases fl with
  | ret u =>
   obtain⟨v,H',I3,rv,ev,q3⟩:=I2.after hq';subst ev;exact⟨rv,⟨V.ref (s.heap.objs.size + 1),H',I3,Y,q3⟩⟩
  | next=>exact False.elim hq'
  | brk=>exact False.elim hq'
  | cont=>exact False.elim hq'
def Zkl(M:Mk X.K C f)(F:Zaq X.prog X.w X.K X.mg X.base CX k f fd ps sp)(hr:Zci (k + 1) X.A)(hg:Gl X x)(hm:X.mg x=some (.ref C))(hb:Zef X.K fd ps ds)(hd:Zb2 dvs ds)(hx:Zlf CX X E)
  (ha:PA X (e :: es) t) (hdb:(x == ("__debug__":Str))=false:=by decide) (he:starEach (e :: es) X.env=(false,eval e X.env):: starEach es X.env:=by rfl) (hpl:(backTo pos (starEach es X.env)).any (·.1)=false:=by rfl):
  PE X (.Call (.Name x p) (e :: es) [] pos) (Z8s C sp dvs E t):=by
 ac_rfl;refine wpAny_Call_Name_kw (Zq8 I hg hm ?_ hdb);refine W.callWith_K (h₀:=X.base) I.ok.mod.kin M.kp (thn (ha pos pins s σ H _ I h) λus s1 ⟨vs,H1,I1,r,q⟩=>⟨I1.kIn,?_⟩) he hpl;exact Zzs M F hr hb hd hx I1 r q
end
section
variable {X:Cx}{CX:CXT}{k:Nat}{f C:Addr}{fd:FuncData}{ps ks:LS}{sp:Sp}{E:XK}{x m:Str}{p pos apos kpos:Pos}{e o:Expr}{es:List Expr}{kws:List Keyword}{te ta:TE}{t tk:TA}{nm:Option Str}
structure Ycp(K:Fg)(fd:FuncData)(ps ks:LS)(g:LU->LU->LU)(gV:LV->LV->LV):Prop where
 to:∀(s:Shared) (us ws:LU),K.In s.heap->(g us ws).length=ps.length->BindsTo s fd ⟨us,ks.zip ws⟩ (ps.zip (g us ws))
 rel:∀ {vs:LV} {us:LU} {zs:LV} {ws:LU},Zb2 vs us->Zb2 zs ws->Zb2 (gV vs zs) (g us ws)
variable {g:LU->LU->LU}{gV:LV->LV->LV}
end
structure Zah(N P:LS)(sc:Scope):Prop where
 kind:sc.kind=.function
 co:sc.isCoroutine=false
 gen:sc.isGenerator=false
 nd:N.Nodup
 pre:N.take P.length=P
 par:∀ x∈P,sc.names.lookup x=some .local\/sc.names.lookup x=some .cell
 nofree:∀ y∈sc.names,y.2≠.free
theorem Zp2{kindOf:Str->Option NameKind}{x:Str}:∀ {binds:List (Str×Value)}{m:Str->OU},(∀ v,(x,v)∉binds)->bindL kindOf binds m x=m x
 | [],_,_=>rfl
 | (n,v):: r,m,h=>by
  unfold bindL;rw[Zp2 λw hw=>h w (Ys _ hw)];split
  ·have:x≠n:=by rintro rfl;exact h v Yh1
   simp[this]
  ·rfl
theorem Zp4{kindOf:Str->Option NameKind}{x:Str}:∀ {binds:List (Str×Value)}{m:Str->OU},(∀ v,(x,v)∉binds)->bindC kindOf binds m x=m x
 | [],_,_=>rfl
 | (n,v):: r,m,h=>by
  unfold bindC;rw[Zp4 λw hw=>h w (Ys _ hw)];split
  ·rfl
  ·have:x≠n:=by rintro rfl;exact h v Yh1
   simp[this]
theorem Zp3{kindOf:Str->Option NameKind}{x:Str}{v:Value}:∀ {P:LS}{vs:LU}{i:Nat}{m:Str->OU},P.Nodup->P[i]?=some x->vs[i]?=some v->kindOf x=some .local ->
  bindL kindOf (P.zip vs) m x=some v
 | [],_,_,_,_,h,_,_=>by simp at h
 | _ :: _,[],_,_,_,_,h,_=>by simp at h
 | p :: P,w :: vs,0,m,nd,h1,h2,hk=>by
  simp at h1 h2;subst h1;subst h2;show bindL kindOf ((p,w):: P.zip vs) m p=_;unfold bindL;rw[Zp2 λv hv=>(Yt1.mp nd).1 (Yp5 hv).1,if_pos hk];simp
 | p :: P,w :: vs,i + 1,m,nd,h1,h2,hk=>by
  show bindL kindOf ((p,w):: P.zip vs) m x=_;unfold bindL;exact Zp3 (i:=i) (Yt1.mp nd).2 (by simpa using h1) (by simpa using h2) hk
theorem Zp5{kindOf:Str->Option NameKind}{x:Str}{v:Value}:∀ {P:LS}{vs:LU}{i:Nat}{m:Str->OU},P.Nodup->P[i]?=some x->vs[i]?=some v->kindOf x≠some .local ->
  bindC kindOf (P.zip vs) m x=some v
 | [],_,_,_,_,h,_,_=>by simp at h
 | _ :: _,[],_,_,_,_,h,_=>by simp at h
 | p :: P,w :: vs,0,m,nd,h1,h2,hk=>by
  simp at h1 h2;subst h1;subst h2;show bindC kindOf ((p,w):: P.zip vs) m p=_;unfold bindC;rw[Zp4 λv hv=>(Yt1.mp nd).1 (Yp5 hv).1,if_neg hk];simp
 | p :: P,w :: vs,i + 1,m,nd,h1,h2,hk=>by
  show bindC kindOf ((p,w):: P.zip vs) m x=_;unfold bindC;exact Zp5 (i:=i) (Yt1.mp nd).2 (by simpa using h1) (by simpa using h2) hk
def start(N:LS)(vs:LV):St:=vs.map some++List.replicate (N.length - vs.length) none
def Z5o(CX:CXT)(P:Program)(w:World)(K:Fg)(mg:Str->OU)(base:Heap)(N:LS)(qual:Str)(scope:Scope)(f:Addr)(cd:Value)(A:Around)(outer:List Env)(s:Shared)(H:Hp)(E:XK):Cx where
 prog:=P
 w:=w
 K:=K
 mg:=mg
 base:=base
 A:=A.deeper (envOfC qual scope s.heap.objs.size f cd)
 N:=N
 s₀:=s
 H₀:=H
 env:=envOfC qual scope s.heap.objs.size f cd
 outer:=outer
 stack:=envOfC qual scope s.heap.objs.size f cd :: outer
 ex:=[]
 calm:=true
 fn:=λ_=>true
 pn:=[]
 xe:=λe s'=>wpAny (model P w) (A.deeper (envOfC qual scope s.heap.objs.size f cd)) (leaving (envOfC qual scope s.heap.objs.size f cd) e) (λ_ s''=>CX outer H s E e s'') (λe' s''=>CX outer H s E e' s'') s'
def Ztc{sc:Scope}{n:Nat}{x:Str}(h:sc.names.lookup x=some .cell):∃ c,(cellsFrom n sc.names []).lookup x=some c:=by
 have q:=W.cellsFrom_some sc.names n [] (.inl h);exact Yw5.mp q
def Zxy{CX:CXT}{P:Program}{w:World}{K:Fg}{mg:Str->OU}{base:Heap}{N ps:LS}{qual:Str}{scope:Scope}{f:Addr}{cd:Value}{A:Around}{outer:List Env}{s s1:Shared}{H:Hp}{E:XK}{us:LU}{vs:LV}
  (S:Zah N ps scope) (hd:A.handled=none) (e0:Env0 P w K mg base A outer s H) (hl:vs.length=ps.length) (r:Zb2 vs us)
  (x:InCallC s s.heap.objs.size (bindL (envOfC qual scope s.heap.objs.size f cd).kindOf (ps.zip us) λ_=>none) (cellsFrom (s.heap.objs.size + 1) scope.names []) (bindC (envOfC qual scope s.heap.objs.size f cd).kindOf (ps.zip us) λ_=>none) s1):
  Inv (Z5o CX P w K mg base N qual scope f cd A outer s H E) [] (start N vs) H s1:=by
 have hpl:ps.length<=N.length:=by have:=congrArg List.length S.pre;rw[Yk1]at this;omega
 obtain⟨h1,tk,rfl,hk⟩:=x.done;have noA:∀ b:Addr,b∉(Z5o CX P w K mg base N qual scope f cd A outer s H E).ex:=λb z=>absurd (show b∈([]:List Addr)from z) (by simp);refine⟨⟨e0.mod,S.kind,Y,Y,Yg _,λy z c h1 h2=>?_,λy hy=>?_,λy c _ h=>?_,λ_=>hd,Around.frames_deeper e0.frames,.inr ⟨Y,Y⟩,λb z=>absurd z (noA b),e0.bs,e0.bsz,λb _ _=>noA b,λb z=>absurd z (noA b),e0.funs,e0.frf⟩,
  Y,e0.bare,Un.kept hk,⟨_,x.toInCall.ns,λi y v h1 h2 h3=>?_⟩,λy c h=>⟨_,x.cell y c h⟩,e0.hok.fresh (Yg _),λy c h=>?_,λp hp=>absurd (show p∈([]:PL)from hp) (by simp),e0.hok.kept hk,?_⟩
 ·exact name_of_addr x.apart (Yx2 h1) (Yx2 h2)
 ·have hy:scope.names.lookup y=some .cell\/scope.names.lookup y=some .free:=hy
  rcases hy with hy | hy
  ·exact Ztc hy
  ·exact absurd rfl (S.nofree _ (Yx2 hy))
 ·exact Nat.le_of_lt (x.above y c (Yx2 h))
 ·have hi:i<vs.length:=by
   unfold start at h2;by_cases hi:i<vs.length
   ·exact hi
   ·rw[Yh2 (by simpa using hi)]at h2;rw[List.getElem?_replicate]at h2;split at h2 <;> cases h2
  have ha:vs[i]?=some v:=by
   unfold start at h2;rw[Yi3 (by simpa using hi),Yj]at h2;cases e:vs[i]? with
   | none=>rw[e]at h2;cases h2
   | some a=>rw[e]at h2;cases h2;rfl
  obtain⟨u,hu,rv⟩:=r.get ha;have hp:ps[i]?=some y:=by
   rw[<- S.pre,List.getElem?_take_of_lt (by omega)];exact h1
  have ndP:ps.Nodup:=by rw[<- S.pre];exact S.nd.sublist (List.take_sublist _ _)
  refine⟨u,rv,?_⟩
  rcases S.par y (Yf hp)with k | k
  ·exact .inl ⟨k,Zp3 ndP hp hu k⟩
  ·obtain⟨c,e⟩:=Ztc (n:=s.heap.objs.size + 1) k;refine .inr ⟨.inl k,c,e,?_⟩;have q:=x.cell y c e;rw[Zp5 ndP hp hu (by show scope.names.lookup y≠_;rw[k];decide)]at q;exact q
 ·exact e0.hok.fresh (Nat.le_of_lt (x.above y c (Yx2 h)))
 ·unfold start;show _=N.length;rw[Yc,Ya,List.length_replicate];omega
def Yaj{CX:CXT}{P:Program}{w:World}{K:Fg}{mg:Str->OU}{base:Heap}{k:Nat}{f:Addr}{name qual:Str}{params:Arguments}{body:List Stmt}{scope:Scope}{dV kV doc pm cdv ct oc:Value}{an od:Option Addr}
  {osl:Array (OU)} {N ps:LS} {sp:Sp} (lk:K.lookup f=some ⟨oc,od,.func (W.fnOf name qual params body scope dV kV doc pm an cdv ct),osl⟩) (hcd:W.codeIn K cdv qual=true) (S:Zah N ps scope)
  (len:∀ vs H Q E,sp vs H Q E->vs.length=ps.length)
  (hbody:∀(A:Around) (outer:List Env) (s:Shared) (H:Hp) (vs:LV) (Q:VK) (E:XK),Zci k (A.deeper (envOfC qual scope s.heap.objs.size f cdv))->sp vs H Q E ->
   ∃ t,PSs (Z5o CX P w K mg base N qual scope f cdv A outer s H E) body t/\t {nx:=λ_ H'=>Q .non H',rt:=Q} (start N vs) H):
  Zaq P w K mg base CX (k + 1) f (W.fnOf name qual params body scope dV kV doc pm an cdv ct) ps sp:=by
 refine⟨len,λA outer s H args us vs Q E hr e0 hb r hsp=>?_⟩;have hl:=len _ _ _ _ hsp;have KX:K.In s.heap:=e0.mod.kin.keeps λb o e=>(e0.bs b o e).1;have lim:s.heap.NoLimit:=e0.mod.nolimit.keeps λb o e=>(e0.bs b o e).1;have hkind:∀ y∈ps.zip us,scope.names.lookup y.1=some .local\/(scope.names.lookup y.1=some .cell/\((cellsFrom (s.heap.objs.size + 1) scope.names []).lookup y.1).isSome=true):=λ⟨n,v⟩ hy=>by
  rcases S.par n (Yp5 hy).1 with q | q
  ·exact .inl q
  ·exact .inr ⟨q,W.cellsFrom_some _ _ _ (.inl q)⟩
 refine codeAny_call_function hr.depth (KX _ _ lk) rfl S.co S.gen rfl (W.codeRec_of KX hcd) (hb _ _ _ _ ?_);refine wpAny_newFunctionEnv_cells S.kind hkind λenv he s1 x=>?_;subst he;refine⟨lim.keeps x.toInCall.keep,codeAny_func ?_⟩;obtain⟨t,ht,hq⟩:=hbody A outer s H vs Q E (hr.deeper _) hsp;have I:Inv (Z5o CX P w K mg base N qual scope f cdv A outer s H E) [] (start N vs) H s1:=Zxy S hr.hd e0 hl r x;refine Jf (ht [] s1 (start N vs) H _ I hq) (λfl s' hs=>?_) λe s' hs=>hs;have fin:∀ {σ':St} {H':Hp} {v:V} {u:Value},Inv (Z5o CX P w K mg base N qual scope f cdv A outer s H E) [] σ' H' s'->Zcm v u->Q v H'->CE outer P w H s Q u s' :=
  λ{σ' H' v u} J rv q=>⟨v,H',J.os,J.bare,J.base,J.hok,rv,q⟩
 cases fl with
 | ret u =>
  obtain⟨v,σ',H',J,rv,q⟩:=hs;exact fin J rv q
 | next =>
  obtain⟨σ',H',J,q⟩:=hs;exact fin (v:=V.non) (u:=Value.none) J rfl q
 | brk =>
  obtain⟨_,_,_,q⟩:=hs;exact False.elim q
 | cont =>
  obtain⟨_,_,_,q⟩:=hs;exact False.elim q
section
variable {X:Cx}{x:Str}{p pos:Pos}{e:Expr}{es:List Expr}{t:TA}{id T:String}{r:LV->Hp->VK->Prop}
def tCB(r:LV->Hp->VK->Prop)(t:TA):TE:=λσ H Q=>t σ H λvs H1=>r vs H1 Q
def Zao(hc:Zjk X (.builtin id) r)(hg:Gl X x)(hm:X.mg x=none)(hv:bootBuiltins x=some (.builtin id))(ha:PA X (e :: es) t)(hn:x≠"__name__":=by decide)(hdb:(x == ("__debug__":Str))=false:=by decide)
  (he:starEach (e :: es) X.env=(false,eval e X.env):: starEach es X.env:=by rfl) (hpl:(backTo pos (starEach es X.env)).any (·.1)=false:=by rfl):PE X (.Call (.Name x p) (e :: es) [] pos) (tCB r t):=by
 ac_rfl;refine wpAny_Call_Name_kw (Ze0 I hg hm hv ?_ hn hdb);exact PyProof.Rows.callWith_builtin1 (thn (ha pos pins s σ H _ I h) λus s1 ⟨vs,H1,I1,r1,q1⟩=>hc pins s1 σ H1 vs us Q I1 r1 q1) he hpl
def Za5(hc:Zjk X (.type T) r)(hg:Gl X x)(hm:X.mg x=none)(hv:bootBuiltins x=some (.type T))(ha:PA X (e :: es) t)(hn:x≠"__name__":=by decide)(hdb:(x == ("__debug__":Str))=false:=by decide)
  (he:starEach (e :: es) X.env=(false,eval e X.env):: starEach es X.env:=by rfl) (hpl:(backTo pos (starEach es X.env)).any (·.1)=false:=by rfl):PE X (.Call (.Name x p) (e :: es) [] pos) (tCB r t):=by
 ac_rfl;refine wpAny_Call_Name_kw (Ze0 I hg hm hv ?_ hn hdb);exact Yw1 (thn (ha pos pins s σ H _ I h) λus s1 ⟨vs,H1,I1,r1,q1⟩=>hc pins s1 σ H1 vs us Q I1 r1 q1) he hpl
end
end L2
namespace HT
open PySem PyProof.Rows
section
open PySem.SeqAt
open PySem.AutoSeq1 (wpAny_loadPart')
open PySem.MeetsSeq PySem.MeetsSeq2 PySem.MeetsSeq3
end
section
variable {prog:Program}{w:World}{A:Around}{E:EV}{s:Shared}
def cat_tup{t b:Addr}{vs ws:LU}{Q:EV}(ht:IsTup s.heap t vs.toArray)(hb:IsTup s.heap b ws.toArray)(hv:vs≠[])
  (h1:ws=[]->Q (.ref t) s) (h2:ws≠[]->Q (.ref s.heap.objs.size) {s with heap:=s.heap.push {cls:=.type "tuple",data:=.seq (vs++ws).toArray} })
  (hsz:vs.length + ws.length<=sizeLine):wpAny (model prog w) A (binaryOp .Add (.ref t) (.ref b)) Q E s:=by
 obtain⟨⟨cls,dd,data,sl⟩,ho,hc,n,hd⟩:=id ht;obtain⟨⟨cls2,dd2,data2,sl2⟩,ho2,hc2,n2,hd2⟩:=id hb;simp only at hc hd hc2 hd2;subst hc hd hc2 hd2;have e:vs.toArray++ws.toArray=(vs++ws).toArray:=by simp
 by_cases hw:ws=[]
 ·exact concat_meets ⟨_,ho,Y⟩ ⟨_,ho2,Y⟩ noFill_tuple_add seq_tuple_add PySem.F.slot_tuple_add Yg6 (Yx5 _ _)
   (tuple_addW1 t b vs.toArray ws.toArray n n2 dd dd2 sl sl2 (by simpa using hv) (by simp[hw])) ⟨ho,ho2,h1 hw⟩
 ·refine concat_meets ⟨_,ho,Y⟩ ⟨_,ho2,Y⟩ noFill_tuple_add seq_tuple_add PySem.F.slot_tuple_add Yg6 (Yx5 _ _)
   (tuple_addW2 t b vs.toArray ws.toArray n n2 dd dd2 sl sl2 (by simpa using hv) (by simpa using hw) (by rw[Yn,Yn];exact hsz)) ⟨ho,ho2,?_⟩
  rw[e];exact h2 hw
def sIx(n d:Nat):Option Int->Nat
 | none=>d
 | some v=>if v<0 then(v + (n:Int)).toNat else min v.toNat n
def sIx_none(n d:Nat):sIx n d none=d:=rfl
def sIx_nat(n d k:Nat):sIx n d (some (k:Int))=min k n:=by
 show(if(k:Int)<0 then((k:Int) + (n:Int)).toNat else min (k:Int).toNat n)=min k n;rw[if_neg (by omega),Yf4]
def Z6i(n d:Nat)(hd:d<=n)(o:Option Int):sIx n d o<=n:=by
 cases o with
 | none=>exact hd
 | some v =>
  show(if v<0 then(v + (n:Int)).toNat else min v.toNat n)<=n;by_cases hv:v<0
  ·rw[if_pos hv];omega
  ·rw[if_neg hv];exact Nat.min_le_right _ _
def Zyn(v:Int)(n d:Nat):(if v<0 then max (v + (n:Int)) 0 else min v (n:Int))=((sIx n d (some v):Nat):Int):=by
 show(if v<0 then max (v + (n:Int)) 0 else min v (n:Int))=(((if v<0 then(v + (n:Int)).toNat else min v.toNat n):Nat):Int);by_cases hv:v<0
 ·simp only[if_pos hv];omega
 ·simp only[if_neg hv];omega
def Zuw(lo hi:Option Int)(n:Nat):Builtin.Slice.sliceAdjust lo hi 1 (n:Int)=(((sIx n 0 lo:Nat):Int),((sIx n n hi:Nat):Int)):=by
 have h1:¬ ((1:Int)<0):=by omega
 unfold Builtin.Slice.sliceAdjust;simp only[h1,if_false];refine Prod.ext ?_ ?_
 ·cases lo with
  | none=>rfl
  | some v=>exact Zyn v n 0
 ·cases hi with
  | none=>rfl
  | some v=>exact Zyn v n n
def Ztu(i j:Nat):Builtin.Slice.slicePlaces (i:Int) (j:Int) 1=j - i:=by
 unfold Builtin.Slice.slicePlaces;have h1:(1:Int) > 0:=by omega
 simp only[h1,if_true,Int.ediv_one];split <;> omega
def Zlw{v:Value}{o:Option Int}{Q:Option Int->Shared->Prop}(p:IsPart v o)(h:Q o s):wpAny (model prog w) A (Builtin.Slice.slicePartIndex v) Q E s:=by
 cases p with
 | none=>exact slicePart_none h
 | int i t=>exact slicePart_int h
def Zgh{sl:Addr}{vl vu:Value}{lo hi:Option Int}{n:Nat}{Q:Int×Int×Nat->Shared->Prop}(hs:s.heap.IsSliceOf sl vl vu .none)(pl:IsPart vl lo)(pu:IsPart vu hi)
  (h:Q (((sIx n 0 lo:Nat):Int),1,sIx n n hi - sIx n 0 lo) s):wpAny (model prog w) A (Builtin.Slice.sliceApplied (.ref sl) (pure (n:Int))) Q E s:=by
 obtain⟨os,hos,hcs,hds⟩:=id hs;unfold Builtin.Slice.sliceApplied Builtin.Slice.sliceFields;refine Ja (Ja (Jg hos hds (x:=vl) rfl (Ja (Jg hos hds (x:=vu) rfl (Ja (Jg hos hds (x:=.none) rfl (Jd ?_)))))));refine Ja (slicePart_none ?_);show wpAny _ _ (if((1:Int) == 0)=true then _ else _) _ _ s;rw[if_neg (by decide)];refine Ja (Zlw pl (Ja (Zlw pu (Ja (Jd ?_)))));show wpAny _ _ (match Builtin.Slice.sliceAdjust lo hi 1 (n:Int)with | (lo,hi)=>pure (lo,(1:Int),Builtin.Slice.slicePlaces lo hi 1)) _ _ s;rw[Zuw lo hi n];show wpAny _ _ (pure (((sIx n 0 lo:Nat):Int),(1:Int),Builtin.Slice.slicePlaces ((sIx n 0 lo:Nat):Int) ((sIx n n hi:Nat):Int) 1)) _ _ s;rw[Ztu];exact Jd h
def Zzu(xs:Array Value)(i k:Nat):((List.range k).filterMap λ(m:Nat)=>xs[((i:Int) + (m:Int) * 1).toNat]?).toArray=((xs.toList.drop i).take k).toArray:=by
 have e:(λ(m:Nat)=>xs[((i:Int) + (m:Int) * 1).toNat]?)=λm=>xs[i + m]?:=by
  funext m
  have:((i:Int) + (m:Int) * 1).toNat=i + m:=by omega
  rw[this]
 rw[e];have:=pick_run xs i k;rw[List.filterMap_map]at this;have e2:((λx=>xs[x]?) ∘ λx=>i + x)=λm=>xs[i + m]?:=rfl;rw[e2]at this;rw[this]
def getItem_tuple_cut{t sl:Addr}{items:Array Value}{vl vu:Value}{lo hi:Option Int}{Q:EV}(ht:IsTup s.heap t items)(hs:s.heap.IsSliceOf sl vl vu .none)(pl:IsPart vl lo)(pu:IsPart vu hi)
  (hw:¬ (sIx items.size 0 lo=0/\sIx items.size items.size hi=items.size))
  (h:Q (.ref s.heap.objs.size) {s with heap:=s.heap.push {cls:=.type "tuple",data:=.seq ((items.toList.drop (sIx items.size 0 lo)).take (sIx items.size items.size hi - sIx items.size 0 lo)).toArray} })
  (hsz:items.size<=sizeLine):wpAny (model prog w) A (getItem (.ref t) (.ref sl)) Q E s:=by
 have htake:sizeOk (.seq ((items.toList.drop (sIx items.size 0 lo)).take (sIx items.size items.size hi - sIx items.size 0 lo)).toArray):=by
  show((items.toList.drop (sIx items.size 0 lo)).take (sIx items.size items.size hi - sIx items.size 0 lo)).toArray.size<=sizeLine;rw[Yn,Yk1,Yv2,Yg3];omega
 have hj:sIx items.size items.size hi<=items.size:=Z6i _ _ (Yg _) hi;obtain⟨os,hos,hcs,hds⟩:=id hs;have hTs:s.TypeIs (.ref sl) "slice":=⟨os,hos,hcs⟩;unfold getItem
 try with_reducible refine Jj ?_
 first | refine Ja (Jd ?_) | skip
 refine Ja (wpAny_sequenceKey ht.typeIs (by decide) ?_);refine Ja (wpAny_callSpecial?_slot (name:=Str.ofString "__getitem__") ht.typeIs Ys2
  (wpAny_call_entry Ys2 ht.typeIs entry_tuple_getitem ?_ (args_tuple_getitem _ _)))
 show wpAny _ _ (Builtin.Tuple.tupleItemsOf (.ref t)>>=_) _ _ s;refine Ja (tupleItemsOf_ ht ?_);refine Ja (wpAny_typeOf hTs ?_);rw[if_pos (by decide)];refine Ja (Zgh hs pl pu ?_);have hno:¬ ((((sIx items.size 0 lo:Nat):Int) == 0&&(1:Int) == 1&&(sIx items.size items.size hi - sIx items.size 0 lo) == items.size)=true):=by
  intro q;rw[Yl1,Yl1]at q;have q1:((sIx items.size 0 lo:Nat):Int)=0:=eq_of_beq q.1.1;have q2:sIx items.size items.size hi - sIx items.size 0 lo=items.size:=eq_of_beq q.2;exact hw ⟨W,W⟩
 show wpAny _ _ (if(((sIx items.size 0 lo:Nat):Int) == 0&&(1:Int) == 1&&(sIx items.size items.size hi - sIx items.size 0 lo) == items.size)=true then _ else _) _ _ s;rw[if_neg hno,Zzu]
 first
  | exact Ja (m:=Builtin.Tuple.tupleExact _) (wpAny_newObj_type (Jd ⟨_,rfl,Jd h⟩) htake)
  | exact Ja (m:=Builtin.Tuple.tupleExact _) (wpAny_newObj_type (Ja (Jd (Jd ⟨_,rfl,Jd h⟩))) htake)
  | exact Ja (Ja (m:=Builtin.Tuple.tupleExact _) (wpAny_newObj_type (Jd (Jd ⟨_,rfl,Jd h⟩)) htake))
  | exact Ja (Ja (m:=Builtin.Tuple.tupleExact _) (wpAny_newObj_type (Jd ⟨_,rfl,Jd h⟩) htake))
end
end HT
namespace L2
open PySem PySem.Spec PyProof.Rows
abbrev TO:=St->Hp->(Option Int->Hp->Prop)->Prop
def PO(X:Cx)(e:Option Expr)(t:TO):Prop :=
 ∀(pins:PL) (s:Shared) (σ:St) (H:Hp) (Q:Option Int->Hp->Prop),Inv X pins σ H s->t σ H Q ->
  wpAny (model X.prog X.w) X.A (evalPart e X.env) (λu s'=>∃ o H',Inv X pins σ H' s'/\IsPart u o/\Q o H') X.xe s
def Zhx:TO:=λ_ H Q=>Q none H
def Z8n(t:TE):TO:=λσ H Q=>t σ H λx H1=>∃ i,x=.int i/\Q (some i) H1
section
variable {X:Cx}{e:Expr}{te:TE}{lo hi:Option Expr}{tl th:TO}{pos p2:Pos}
def Zdj:PO X none Zhx:=by
 ac_rfl;rw[evalPart_none];exact Jd ⟨none,H,I,.none,h⟩
def Zbt(h:PE X e te):PO X (some e) (Z8n te):=by
 intro pins s σ H Q I hw;rw[evalPart_some];refine thn (h pins s σ H _ I hw) λu s1 ⟨x,H1,I1,r1,q1⟩=>?_;obtain⟨i,rfl,q⟩:=q1;obtain⟨t,rfl⟩:=r1;exact⟨some i,H1,I1,.int i t,q⟩
def SlR(X:Cx)(r:V->Option Int->Option Int->Hp->VK->Prop):Prop :=
 ∀(pins:PL) (s:Shared) (σ:St) (H:Hp) (x:V) (v vl vu:Value) (lo hi:Option Int) (sl:Addr) (Q:VK),Inv X pins σ H s->Zcm x v->s.heap.IsSliceOf sl vl vu .none->IsPart vl lo->IsPart vu hi->r x lo hi H Q ->
  ∃ T id,typeLookup (.type T) "__getitem__"=pure (some (.builtin id))/\s.TypeIs v T/\wpAny (model X.prog X.w) X.A (getItem v (.ref sl)) (EP X pins σ Q) X.xe s
def tSl(r:V->Option Int->Option Int->Hp->VK->Prop)(te:TE)(tl th:TO):TE:=λσ H Q=>te σ H λx H1=>tl σ H1 λl H2=>th σ H2 λu H3=>r x l u H3 Q
def Zbs{r:V->Option Int->Option Int->Hp->VK->Prop}(hr:SlR X r)(he:PE X e te)(hl:PO X lo tl)(hu:PO X hi th):PE X (.Subscript e (.Slice lo hi none p2) pos) (tSl r te tl th):=by
 ac_rfl;refine Subscript_ (thn (he pins s σ H _ I h) λv s1 ⟨x,H1,I1,r1,q1⟩=>?_);refine wpAny_Slice (thn (hl pins s1 σ H1 _ I1 q1) λvl s2 ⟨l,H2,I2,pl,q2⟩=>thn (hu pins s2 σ H2 _ I2 q2) λvu s3 ⟨u,H3,I3,pu,q3⟩=>?_);rw[evalPart_none];refine Jd ?_;have I4:Inv X pins σ H3 {s3 with heap:=s3.heap.push {cls:=.type "slice",data:=.fields #[vl,vu,.none] } }:=I3.kept (t':=s3.toks) λb ob q=>Yd _ q;obtain⟨T,id,hT,ht,hg⟩:=hr pins {s3 with heap:=s3.heap.push {cls:=.type "slice",data:=.fields #[vl,vu,.none] } } σ H3 x v vl vu l u s3.heap.objs.size Q I4 r1 (Heap.IsSliceOf.new ..) pl pu q3;show wpAny (model X.prog X.w) X.A (subscriptTail e (.Slice lo hi none p2) v (.ref s3.heap.objs.size)) (EP X pins σ Q) X.xe {s3 with heap:=s3.heap.push {cls:=.type "slice",data:=.fields #[vl,vu,.none] } };exact tail_any (ops:=[.ref s3.heap.objs.size,v]) ht hT hg (by with_unfolding_all rfl)
def Ziv(xs:LV)(lo hi:Option Int):LV:=(xs.drop (HT.sIx xs.length 0 lo)).take (HT.sIx xs.length xs.length hi - HT.sIx xs.length 0 lo)
def Zla(xs:LV)(lo hi:Option Int):(Ziv xs lo hi).length<=xs.length:=by
 unfold Ziv;rw[Yk1,Yv2];omega
def Ydr(K:Fg):V->Option Int->Option Int->Hp->VK->Prop:=λx lo hi H Q=>∃ a xs,x=.ref a/\SqT K H a xs /\
 ¬ (HT.sIx xs.length 0 lo=0/\HT.sIx xs.length xs.length hi=xs.length)/\∀ p,H p=none->Q (.ref p) (upd H p (.tup (Ziv xs lo hi)))
def Z59:SlR X (Ydr X.K):=by
 intro pins s σ H x v vl vu lo hi sl Q I rx hs pl pu h;obtain⟨a,xs,rfl,hx,hw,q⟩:=h;cases rx;obtain⟨its,r,ht,hz⟩:=I.tuple hx;have hlen:its.toArray.size=xs.length:=by rw[Yn];exact r.length.symm
 refine⟨"tuple",_,Ys2.lookup,ht.typeIs,?_⟩;refine HT.getItem_tuple_cut ht hs pl pu (by rw[hlen];exact hw) ?_ (by rw[hlen];exact hz);rw[hlen];refine⟨.ref s.heap.objs.size,_,I.laid (t':=s.toks) (o:=.tup (Ziv xs lo hi)) (λb ob q=>Yd _ q) (Yg _) ?_,Y,q _ (I.hok.fresh (Yg _))⟩;exact⟨Yv1 (Zla xs lo hi) hz,_,(r.drop (HT.sIx xs.length 0 lo)).take (HT.sIx xs.length xs.length hi - HT.sIx xs.length 0 lo),IsTup.new _ _⟩
def Z9l(K:Fg):R2:=λx y H Q=>∃ a b xs ys,x=.ref a/\y=.ref b/\SqT K H a xs/\SqT K H b ys/\xs≠[]/\xs.length + ys.length<=sizeLine /\
 (ys=[]->Q (.ref a) H)/\(ys≠[]->∀ p,H p=none->Q (.ref p) (upd H p (.tup (xs++ys))))
def Zb2.nil_iff{xs:LV}{us:LU}(r:Zb2 xs us):us=[]↔xs=[]:=by
 cases r with
 | nil=>simp
 | cons _ _=>simp
def Z3w:OpR X (binaryOp .Add) (Z9l X.K):=by
 exfalso;obtain⟨a,b,xs,ys,rfl,rfl,ha,hb,hx,hz,q1,q2⟩:=h;cases rx;cases ry;obtain⟨its,r1,p1,_⟩:=I.tuple ha;obtain⟨its2,r2,p2,_⟩:=I.tuple hb;refine HT.cat_tup p1 p2 (λz=>hx (r1.nil_iff.mp z)) (λz=>⟨.ref a,H,I,Y,q1 (r2.nil_iff.mp z)⟩) (λz=>?_) (by rw[<- r1.length,<- r2.length];exact hz);refine⟨.ref s.heap.objs.size,_,I.laid (t':=s.toks) (o:=.tup (xs++ys)) (λb ob q=>Yd _ q) (Yg _) ?_,Y,q2 (λw=>z (r2.nil_iff.mpr w)) _ (I.hok.fresh (Yg _))⟩;exact⟨by rw[Yc];exact hz,_,r1.append r2,IsTup.new _ _⟩
end
def ixN(n:Nat)(i:Int):Option Nat:=if 0<=i then(if i<n then some i.toNat else none)else if -(n:Int)<=i then some (i + n).toNat else none
def atI{α:Type}(xs:List α)(i:Int):Option α:=(ixN xs.length i).bind λj=>xs[j]?
def Zxv{n:Nat}{i:Int}{j:Nat}(h:ixN n i=some j):seqIndex? i n=some j/\j<n/\-(n:Int)<=i/\i<n:=by
 unfold ixN at h;by_cases h0:0<=i
 ·rw[if_pos h0]at h;by_cases h1:i<n
  ·rw[if_pos h1]at h;have e:i.toNat=j:=Ym h;exact⟨by rw[seqIndex_of h0 h1,e],W,W,h1⟩
  ·rw[if_neg h1]at h;cases h
 ·rw[if_neg h0]at h;by_cases h1:-(n:Int)<=i
  ·rw[if_pos h1]at h;have e:(i + n).toNat=j:=Ym h;exact⟨by rw[seqIndex_neg (by omega) h1,e],W,h1,W⟩
  ·rw[if_neg h1]at h;cases h
def Zrl{α:Type}{xs:List α}{i:Int}{v:α}(h:atI xs i=some v):∃ j,seqIndex? i xs.length=some j/\xs[j]?=some v/\j<xs.length/\-(xs.length:Int)<=i/\i<xs.length:=by
 unfold atI at h;cases e:ixN xs.length i with
 | none=>rw[e]at h;cases h
 | some j =>
  rw[e]at h;obtain⟨h1,h2,h3,h4⟩:=Zxv e;exact⟨j,h1,h,h2,h3,h4⟩
def Zbl{α:Type}{xs:List α}{j:Nat}{v:α}(h:xs[j]?=some v):atI xs (j:Int)=some v:=by
 have hj:j<xs.length:=(Yi.mp h).1;have e:ixN xs.length (j:Int)=some j:=by
  unfold ixN;rw[if_pos (by omega),if_pos (by omega)];simp
 unfold atI;rw[e];exact h
def Z1v{α:Type}(xs:List α)(v:α):atI (xs++[v]) (-1)=some v:=by
 have hl:(xs++[v]).length=xs.length + 1:=by simp
 have e:ixN (xs++[v]).length (-1)=some xs.length:=by
  unfold ixN;rw[hl,if_neg (by decide),if_pos (by omega)]
  congr 1
  omega
 unfold atI;rw[e];show(xs++[v])[xs.length]?=some v;simp
def Z5g(b:Expr):Prop:=∀ o i,subscripted b false o i=operate [o,i] (getItem o i)
def IxR(X:Cx)(r:R2):Prop :=
 ∀(value slice:Expr) (pins:PL) (s:Shared) (σ:St) (H:Hp) (x y:V) (v u:Value) (Q:VK),Inv X pins σ H s->Zcm x v->Zcm y u->r x y H Q ->
  subscripted slice false v u=operate [v,u] (getItem v u)->wpAny (model X.prog X.w) X.A (subscriptTail value slice v u) (EP X pins σ Q) X.xe s
def MtR(X:Cx)(id:String)(r:V->LV->Hp->VK->Prop):Prop :=
 ∀(pins:PL) (s:Shared) (σ:St) (H:Hp) (x:V) (xs:LV) (v:Value) (us:LU) (Q:VK),Inv X pins σ H s->Zcm x v->Zb2 xs us->r x xs H Q ->
  wpAny (model X.prog X.w) X.A (call (.builtin id) (v :: us)) (EP X pins σ Q) X.xe s
section
variable {X:Cx}{a b:Expr}{ta tb:TE}{pos:Pos}
def IxR.or{r r':R2}(h:IxR X r)(h':IxR X r'):IxR X (λx y H Q=>r x y H Q\/r' x y H Q):=by
 intro value slice pins s σ H x y v u Q I rx ry q hs
 rcases q with q | q
 ·exact h value slice pins s σ H x y v u Q I rx ry q hs
 ·exact h' value slice pins s σ H x y v u Q I rx ry q hs
def Za2{r:R2}(hr:IxR X r)(ha:PE X a ta)(hb:PE X b tb)(hs:Z5g b):PE X (.Subscript a b pos) (tOp r ta tb):=by
 ac_rfl;exact Subscript_ (Yao ha hb I h λv u s2 x y H2 I2 rx ry q=>hr a b pins s2 σ H2 x y v u Q I2 rx ry q (hs _ _))
def Zhs(K:Fg):R2:=λx y H Q=>∃ p xs i v,x=.ref p/\y=.int i/\SqL K H p xs/\atI xs i=some v/\Q v H
def Zj0(K:Fg):R2:=λx y H Q=>∃ p xs i v,x=.ref p/\y=.int i/\SqT K H p xs/\atI xs i=some v/\Q v H
def Z8c:R2:=λx y H Q=>∃ z i c,x=.str z/\y=.int i/\z.length<=sizeLine/\atI z.cps.toList i=some c/\Q (.str ⟨#[c]⟩) H
def Zat:IxR X (Zhs X.K):=by
 intro value slice pins s σ H x y v u Q I rx ry h hs;obtain⟨p,xs,i,z,rfl,rfl,hq,he,q⟩:=h;cases rx;obtain⟨t,rfl⟩:=ry;obtain⟨its,r,pl,hz⟩:=I.list hq;obtain⟨j,h1,h2,h3,h4,h5⟩:=Zrl he;obtain⟨w,ew,rw'⟩:=r.get h2;have hl:=r.length;have hn:=Zk1;have fin:EP X pins σ Q w s:=⟨z,H,I,rw',q⟩;by_cases h0:0<=i
 ·have hj:i.toNat=j:=by
   rw[seqIndex_of h0 h5]at h1;exact Ym h1
  exact item_listR pl.isList h0 (by omega) (by rw[hj];simpa using ew) fin hs
 ·have hj:(i + (its.toArray.size:Int)).toNat=j:=by
   rw[seqIndex_neg (by omega) h4]at h1;rw[Yn,<- hl];exact Ym h1
  exact subscriptTail_builtinR (x:=w) pl.isList.typeIs slot_list_getitem.lookup
   (wpAny_getItem_list_neg (Q:=λr s'=>r=w/\EP X pins σ Q r s') pl.isList (by omega) (by rw[Yn] <;> omega) (by omega) (by rw[hj];simpa using ew) ⟨Y,fin⟩) hs
def Zch:IxR X (Zj0 X.K):=by
 intro value slice pins s σ H x y v u Q I rx ry h hs;obtain⟨p,xs,i,z,rfl,rfl,hq,he,q⟩:=h;cases rx;obtain⟨t,rfl⟩:=ry;obtain⟨its,r,pl,hz⟩:=I.tuple hq;obtain⟨j,h1,h2,h3,h4,h5⟩:=Zrl he;obtain⟨w,ew,rw'⟩:=r.get h2;have hl:=r.length;have hn:=Zk1;have fin:EP X pins σ Q w s:=⟨z,H,I,rw',q⟩;exact subscriptTail_builtinR (x:=w) pl.typeIs slot_tuple_getitem.lookup
  (getItem_tuple (j:=j) (Q:=λr s'=>r=w/\EP X pins σ Q r s') pl (by omega) (by omega) (by rw[Yn,<- hl];exact h1) (by simpa using ew) ⟨Y,fin⟩) hs
def Zs1:IxR X Z8c:=by
 intro value slice pins s σ H x y v u Q I rx ry h hs;obtain⟨z,i,c,rfl,rfl,hz,he,q⟩:=h;obtain⟨t,rfl⟩:=rx;obtain⟨t',rfl⟩:=ry;obtain⟨j,h1,h2,h3,h4,h5⟩:=Zrl he;have hl:z.cps.toList.length=z.length:=by simp[Str.length]
 rw[hl]at h1 h4 h5;have hn:=Zk1;exact tail_any (typeIs_str s z t) slot_str_getitem.lookup (getItem_str (c:=c) (by
  have e1:decide (i < -(2 ^ 63:Int))=false:=Jc (by omega);have e2:decide (i ≥ 2 ^ 63)=false:=Jc (by omega);rw[e1,e2,Bool.or_false]) (by rw[h1];simpa using h2) ⟨.str ⟨#[c]⟩,H,I.tok _,⟨Z⟩,q⟩) hs
def rIx(K:Fg):R2:=λx y H Q=>Zhs K x y H Q\/Zj0 K x y H Q\/Z8c x y H Q
def Z7t:IxR X (rIx X.K):=Zat.or (Zch.or Zs1)
def Zt9(its:LU)(n j:Nat)(u:Value):Obj.mapSeq (·.setIfInBounds j u) {cls:=.type "list",data:=.seq its.toArray n}={cls:=.type "list",data:=.seq (its.set j u).toArray n}:=by
 simp[Obj.mapSeq]
theorem Inv.lst{pins:PL}{σ:St}{H:Hp}{s:Shared}{p:Addr}{xs:LV}(I:Inv X pins σ H s)(h:H p=some (.lst xs)):
  ∃(its:LU) (n:Nat),Zb2 xs its/\s.heap.get? p=some {cls:=.type "list",data:=.seq its.toArray n}/\xs.length<=sizeLine:=by
 obtain⟨z,its,n,r,e⟩:=I.hok p _ h;exact⟨its,n,r,e,z⟩
def Inv.lstUpd{pins:PL}{σ:St}{H:Hp}{s:Shared}{p:Addr}{xs ys:LV}{its its':LU}{n n':Nat}{f:Obj->Obj}(I:Inv X pins σ H s)(h:H p=some (.lst xs))
  (ho:s.heap.get? p=some {cls:=.type "list",data:=.seq its.toArray n}) (hf:f {cls:=.type "list",data:=.seq its.toArray n}={cls:=.type "list",data:=.seq its'.toArray n' }) (r:Zb2 ys its') (hz:ys.length<=sizeLine) (t:Nat):
  Inv X pins σ (upd H p (.lst ys)) {s with heap:=s.heap.update p f,toks:=t}:=by
 have e:(s.heap.update p f).get? p=some {cls:=.type "list",data:=.seq its'.toArray n' }:=by
  rw[Ym4 f ho (by rw[hf] <;> rfl),hf]
 refine I.write (x:=p) (e:=p) (by rw[h];trivial) (.inl rfl) (λb u hb q=>(Yk4 _ _ (Yu hb)).trans q) ⟨_,e⟩ ?_;exact⟨hz,its',n',r,e⟩
def Z9h:V->V->V->Hp->(Hp->Prop)->Prop:=λo i v H Q=>∃ p xs k j,o=.ref p/\i=.int k/\H p=some (.lst xs)/\ixN xs.length k=some j/\Q (upd H p (.lst (xs.set j v)))
def Zmt:Ycm X Z9h:=by
 intro pins s σ H o i v ov iv u Q I ro ri rv h;obtain⟨p,xs,k,j,rfl,rfl,hp,hj,q⟩:=h;cases ro;obtain⟨t,rfl⟩:=ri;obtain⟨its,n,r,ho,hz⟩:=I.lst hp;obtain⟨h1,h2,h3,h4⟩:=Zxv hj;have hl:=r.length;have hn:=Zk1;have I':Inv X pins σ (upd H p (.lst (xs.set j v))) {s with heap:=s.heap.update p (Obj.mapSeq (·.setIfInBounds j u)) } :=
  I.lstUpd hp ho (Zt9 its n j u) (r.set rv j) (by rw[Yq5];exact hz) s.toks
 by_cases h0:0<=k
 ·have hk:k.toNat=j:=by
   rw[seqIndex_of h0 h4]at h1;exact Ym h1
  exact W.ki_setAt ho h0 (by omega) (by rw[Yn,<- hl];exact h4) (by rw[hk];exact⟨_,I',q⟩)
 ·have hk:(k + (its.toArray.size:Int)).toNat=j:=by
   rw[seqIndex_neg (by omega) h3]at h1;rw[Yn,<- hl];exact Ym h1
  exact W.ki_setBack ho (by omega) (by rw[Yn,<- hl];exact h3) (by omega) (by rw[hk];exact⟨_,I',q⟩)
def Zof(lo hi:Option Int)(n:Nat):(sliceBounds lo hi none n).1=((HT.sIx n 0 lo:Nat):Int)/\(sliceBounds lo hi none n).2.1=((HT.sIx n n hi:Nat):Int)/\(sliceBounds lo hi none n).2.2=1:=by
 refine⟨?_,?_,Y⟩
 ·cases lo with
  | none=>simp[sliceBounds,HT.sIx]
  | some i =>
   simp only[sliceBounds,HT.sIx,Option.getD_none,show(1:Int) > 0 by decide,if_true];by_cases h:i<0
   ·simp only[h,if_true] <;> omega
   ·simp only[h,if_false] <;> omega
 ·cases hi with
  | none=>simp[sliceBounds,HT.sIx]
  | some i =>
   simp only[sliceBounds,HT.sIx,Option.getD_none,show(1:Int) > 0 by decide,if_true];by_cases h:i<0
   ·simp only[h,if_true] <;> omega
   ·simp only[h,if_false] <;> omega
def Zms(its:LU)(lo hi:Option Int):slicePick its.toArray lo hi none=((its.drop (HT.sIx its.length 0 lo)).take (HT.sIx its.length its.length hi - HT.sIx its.length 0 lo)).toArray:=by
 obtain⟨h1,h2,h3⟩:=Zof lo hi its.toArray.size;unfold slicePick;rw[h1,h2,h3];simp only[sliceRange_one,pick_run,Yn] <;> rfl
def Z5m(K:Fg):V->Option Int->Option Int->Hp->VK->Prop:=λx lo hi H Q=>∃ a xs,x=.ref a/\SqL K H a xs/\∀ p,H p=none->Q (.ref p) (upd H p (.lst (Ziv xs lo hi)))
def Zi2:SlR X (Z5m X.K):=by
 intro pins s σ H x v vl vu lo hi sl Q I rx hs pl pu h;obtain⟨a,xs,rfl,hx,q⟩:=h;cases rx;obtain⟨its,r,ht,hz⟩:=I.list hx;have hlen:=r.length;refine⟨"list",_,slot_list_getitem.lookup,ht.isList.typeIs,?_⟩;refine wpAny_getItem_list_slice ht.isList hs pl pu .none (by simp) ?_ (by rw[Yn] <;> omega);rw[Zms,<- hlen];refine⟨.ref s.heap.objs.size,_,I.laid (t':=s.toks) (o:=.lst (Ziv xs lo hi)) (λb ob q=>Yd _ q) (Yg _) ?_,Y,q _ (I.hok.fresh (Yg _))⟩;exact⟨Yv1 (Zla xs lo hi) hz,_,0,(r.drop (HT.sIx xs.length 0 lo)).take (HT.sIx xs.length xs.length hi - HT.sIx xs.length 0 lo),Yp _ rfl⟩
def Znh:V->Bool
 | .non=>true
 | .bl _=>true
 | .int _=>true
 | .str _=>true
 | _=>false
def eqV:V->V->Bool
 | .non,.non=>true
 | .bl a,.bl b=>a == b
 | .bl a,.int b=>(if a then 1 else 0) == b
 | .int a,.bl b=>a == (if b then 1 else 0)
 | .int a,.int b=>a == b
 | .str a,.str b=>a == b
 | _,_=>false
def Z70{A:Around}{s:Shared}{y x:V}{u v:Value}(ry:Zcm y u)(rx:Zcm x v)(fy:Znh y=true)(fx:Znh x=true):SeqAt.EqAt A s u v (eqV y x):=by
 cases y with
 | non =>
  cases ry;cases x with
  | non=>cases rx;exact SeqAt.EqAt.same _
  | bl b=>cases rx;exact SeqAt.EqAt.none_bool b
  | int b=>obtain⟨t,rfl⟩:=rx;exact SeqAt.EqAt.none_int b t
  | str b=>obtain⟨t,rfl⟩:=rx;exact SeqAt.EqAt.none_str b t
  | _=>exact absurd (show false=true from fx) Yq
 | bl a =>
  cases ry;cases x with
  | non=>cases rx;exact SeqAt.EqAt.bool_none a
  | bl b=>cases rx;exact SeqAt.EqAt.bool_bool a b
  | int b=>obtain⟨t,rfl⟩:=rx;exact SeqAt.EqAt.bool_int a b t
  | str b=>obtain⟨t,rfl⟩:=rx;exact SeqAt.EqAt.bool_str a b t
  | _=>exact absurd (show false=true from fx) Yq
 | int a =>
  obtain⟨t',rfl⟩:=ry;cases x with
  | non=>cases rx;exact SeqAt.EqAt.int_none a t'
  | bl b=>cases rx;exact SeqAt.EqAt.int_bool a t' b
  | int b=>obtain⟨t,rfl⟩:=rx;exact SeqAt.EqAt.int_int a t' b t
  | str b=>obtain⟨t,rfl⟩:=rx;exact SeqAt.EqAt.int_str a t' b t
  | _=>exact absurd (show false=true from fx) Yq
 | str a =>
  obtain⟨t',rfl⟩:=ry;cases x with
  | non=>cases rx;exact SeqAt.EqAt.str_none a t'
  | bl b=>cases rx;exact SeqAt.EqAt.str_bool a t' b
  | int b=>obtain⟨t,rfl⟩:=rx;exact SeqAt.EqAt.str_int a t' b t
  | str b=>obtain⟨t,rfl⟩:=rx;exact SeqAt.EqAt.str_str a t' b t
  | _=>exact absurd (show false=true from fx) Yq
 | _=>exact absurd (show false=true from fy) Yq
def eqU(x:V)(u:Value):Bool:=match u with
 | .none=>eqV .non x
 | .bool b=>eqV (.bl b) x
 | .int i _=>eqV (.int i) x
 | .str z _=>eqV (.str z) x
 | _=>false
def Z2u{x y:V}{u:Value}(r:Zcm y u)(f:Znh y=true):eqU x u=eqV y x:=by
 cases y with
 | non=>cases r;rfl
 | bl b=>cases r;rfl
 | int i=>obtain⟨t,rfl⟩:=r;rfl
 | str z=>obtain⟨t,rfl⟩:=r;rfl
 | _=>exact absurd (show false=true from f) Yq
theorem Zle{x:V}:∀ {xs:LV}{us:LU},Zb2 xs us->xs.all Znh=true->us.any (eqU x)=xs.any λy=>eqV y x
 | _,_,.nil,_=>rfl
 | y :: xs,u :: us,.cons r t,f=>by
  rw[Yn3,Yl1]at f;rw[Yq4,Yq4,Z2u r f.1,Zle t f.2]
theorem Zil{A:Around}{s:Shared}{x:V}{v:Value}(rx:Zcm x v)(fx:Znh x=true):∀ {xs:LV}{us:LU},Zb2 xs us->xs.all Znh=true->∀ u∈us,SeqAt.EqAt A s u v (eqU x u)
 | _,_,.nil,_=>λu hu=>by cases hu
 | y :: xs,u :: us,.cons r t,f=>λu' hu=>by
  rw[Yn3,Yl1]at f
  rcases Yt.mp hu with rfl | hu
  ·rw[Z2u r f.1];exact Z70 r rx f.1 fx
  ·exact Zil rx fx t f.2 u' hu
def inV(x:V)(xs:LV):Bool:=xs.any λy=>eqV y x
def rIn(K:Fg)(neg:Bool):R2:=λx y H Q=>∃ p xs,y=.ref p/\(SqL K H p xs\/SqT K H p xs)/\Znh x=true/\xs.all Znh=true/\Q (.bl (if neg then !inV x xs else inV x xs)) H
def Zks:OpR X (compareOp .In) (rIn X.K false):=by
 exfalso;obtain⟨p,xs,rfl,hq,fx,fs,q⟩:=h;cases ry
 rcases hq with hq | hq
 ·obtain⟨its,r,pl,hz⟩:=I.list hq;refine SeqAt.in_listAt (eqU x) pl.isList (λw hw=>Zil rx fx r fs w (by simpa using hw)) ⟨.bl _,H,I,Y,?_⟩;rw[show its.toArray.any (eqU x)=its.any (eqU x) by simp,Zle r fs];exact q
 ·obtain⟨its,r,pl,hz⟩:=I.tuple hq;refine SeqAt.in_tupleAt (eqU x) pl (λw hw=>Zil rx fx r fs w (by simpa using hw)) ⟨.bl _,H,I,Y,?_⟩;rw[show its.toArray.any (eqU x)=its.any (eqU x) by simp,Zle r fs];exact q
def Zjp:OpR X (compareOp .NotIn) (rIn X.K true):=by
 exfalso;obtain⟨p,xs,rfl,hq,fx,fs,q⟩:=h;cases ry
 rcases hq with hq | hq
 ·obtain⟨its,r,pl,hz⟩:=I.list hq;refine SeqAt.notIn_listAt (eqU x) pl.isList (λw hw=>Zil rx fx r fs w (by simpa using hw)) ⟨.bl _,H,I,Y,?_⟩;rw[show its.toArray.any (eqU x)=its.any (eqU x) by simp,Zle r fs];exact q
 ·obtain⟨its,r,pl,hz⟩:=I.tuple hq;refine SeqAt.notIn_tupleAt (eqU x) pl (λw hw=>Zil rx fx r fs w (by simpa using hw)) ⟨.bl _,H,I,Y,?_⟩;rw[show its.toArray.any (eqU x)=its.any (eqU x) by simp,Zle r fs];exact q
def Zap:Zjk X (.builtin "len") (λxs H Q=>∃ p ys,xs=[.ref p]/\(SqL X.K H p ys\/SqT X.K H p ys)/\Q (.int ys.length) H):=by
 intro pins s σ H xs us Q I r h;obtain⟨p,ys,rfl,hq,q⟩:=h;obtain⟨u,rfl,rx⟩:=Zix r;cases rx;have hn:=Zk1
 rcases hq with hq | hq
 ·obtain⟨its,r',pl,hz⟩:=I.list hq;have hlen:=r'.length;exact Calls.call_len_list pl.isList (by simp only[Yn] <;> omega) ⟨.int ys.length,H,I.tok _,⟨s.toks + 1,by rw[Yn,hlen]⟩,q⟩
 ·obtain⟨its,r',pl,hz⟩:=I.tuple hq;have hlen:=r'.length;exact len_tuple pl (by simp only[Yn] <;> omega) ⟨.int ys.length,H,I.tok _,⟨s.toks + 1,by rw[Yn,hlen]⟩,q⟩
def Zeb:Zjk X (.type "list") (λxs H Q=>∃ p ys,xs=[.ref p]/\(SqL X.K H p ys\/SqT X.K H p ys)/\∀ l,H l=none->Q (.ref l) (upd H l (.lst ys))):=by
 intro pins s σ H xs us Q I r h;obtain⟨p,ys,rfl,hq,q⟩:=h;obtain⟨u,rfl,rx⟩:=Zix r;cases rx;have fin:∀(its:LU),Zb2 ys its->ys.length<=sizeLine->∀(h':Heap) (c':Nat),(∀ b o',s.heap.get? b=some o'->h'.get? b=some o') ->
   h'.get? s.heap.objs.size=some {cls:=.type "list",dict:=none,data:=.seq its.toArray c',slots:=#[] }->EP X pins σ Q (.ref s.heap.objs.size) {s with heap:=h' }:=λits r' hz h' c' kp e =>
  ⟨.ref s.heap.objs.size,_,I.laid (t':=s.toks) kp (Yg _) (show Zcu X.prog X.w _ h' _ (.lst ys)from⟨hz,its,c',r',e⟩),Y,q _ (I.hok.fresh (Yg _))⟩
 rcases hq with hq | hq
 ·obtain⟨its,r',pl,hz⟩:=I.list hq;have hlen:=r'.length;obtain⟨o,ho,hc,n,hd⟩:=pl.isList;exact call_list_seq p (.inl rfl) ho hc hd (λh' c' kp e=>fin its r' hz h' c' kp e) (by simp only[Yn] <;> omega)
 ·obtain⟨its,r',pl,hz⟩:=I.tuple hq;have hlen:=r'.length;obtain⟨o,ho,hc,n,hd⟩:=pl;exact call_list_seq p (.inr rfl) ho hc hd (λh' c' kp e=>fin its r' hz h' c' kp e) (by simp only[Yn] <;> omega)
def Za9:Zjk X (.type "tuple") (λxs H Q=>∃ p ys,xs=[.ref p]/\((SqL X.K H p ys/\∀ l,H l=none->Q (.ref l) (upd H l (.tup ys)))\/(SqT X.K H p ys/\Q (.ref p) H))):=by
 intro pins s σ H xs us Q I r h;obtain⟨p,ys,rfl,h⟩:=h;obtain⟨u,rfl,rx⟩:=Zix r;cases rx
 rcases h with⟨hq,q⟩ | ⟨hq,q⟩
 ·obtain⟨its,r',pl,hz⟩:=I.list hq;have hlen:=r'.length;refine call_tuple_list pl.isList (λh' kp=>?_) (by simp only[Yn] <;> omega);have I1:Inv X pins σ H {s with heap:=h' }:=I.kept (t':=s.toks) kp;have I2:Inv X pins σ (upd H h'.objs.size (.tup ys)) {s with heap:=h'.push {cls:=.type "tuple",data:=.seq its.toArray} } :=
   I1.laid (t':=s.toks) (λb o e=>Yd _ e) (Yg _) (show Zcu X.prog X.w _ _ _ (.tup ys)from⟨hz,its,r',IsTup.new _ _⟩)
  exact⟨.ref h'.objs.size,_,I2,Y,q _ (I1.hok.fresh (Yg _))⟩
 ·obtain⟨its,r',pl,hz⟩:=I.tuple hq;exact call_tuple_same pl ⟨.ref p,H,I,Y,q⟩
def tyV(K:Fg)(T:String)(x:V)(H:Hp):Prop:=match x with
 | .str _=>T="str"
 | .int _=>T="int"
 | .ref p=>(T="list"/\∃ xs,SqL K H p xs)\/(T="tuple"/\∃ o,K.lookup p=some o/\o.cls=.type "tuple"/\o.dict=none) \/
   (T="dict"/\((∃ kvs,H p=some (.dK kvs))\/∃ kvs,H p=some (.dT kvs)))\/(T="set"/\∃ S n,H p=some (.set S n))
 | _=>False
def Z1y{pins:PL}{σ:St}{H:Hp}{s:Shared}{T:String}{x:V}{v:Value}(I:Inv X pins σ H s)(r:Zcm x v)(ty:tyV X.K T x H):
  s.TypeIs v T/\∀ a,v=.ref a->∃ ob,s.heap.get? a=some ob/\ob.dict=none:=by
 cases x with
 | str z =>
  obtain⟨t,rfl⟩:=r;cases(show T="str" from ty);exact⟨typeIs_str s z t,λ_ e=>nomatch e⟩
 | int i =>
  obtain⟨t,rfl⟩:=r;cases(show T="int" from ty);exact⟨typeIs_int s i t,λ_ e=>nomatch e⟩
 | ref p =>
  cases r
  rcases ty with⟨rfl,xs,hq⟩ | ⟨rfl,o,hk,hc,hd⟩ | ⟨rfl,hk⟩ | ⟨rfl,S,n,hk⟩
  ·obtain⟨its,_,pl,_⟩:=I.list hq;refine⟨pl.isList.typeIs,λa e=>?_⟩;cases e;obtain⟨o,n,e,c,hd,_⟩:=pl;exact⟨o,e,hd⟩
  ·refine⟨⟨o,I.kIn p o hk,hc⟩,λa e=>?_⟩;cases e;exact⟨o,I.kIn _ o hk,hd⟩
  ·have z:∃ o,s.heap.get? p=some o/\o.ExactDict:=by
    rcases hk with⟨kvs,hk⟩ | ⟨kvs,hk⟩
    ·obtain⟨_,_,_,_,o,_,_,e,ex,_⟩:=I.hok p _ hk;exact⟨o,e,ex⟩
    ·obtain⟨_,_,_,_,o,_,_,e,ex,_⟩:=I.hok p _ hk;exact⟨o,e,ex⟩
   obtain⟨o,e,ex⟩:=z;refine⟨⟨o,e,ex.1⟩,λa e2=>?_⟩;cases e2;exact⟨o,e,ex.2.1⟩
  ·obtain⟨o,_,_,_,e,ex,_⟩:=I.hok p _ hk;refine⟨⟨o,e,ex.1⟩,λa e2=>?_⟩;cases e2;exact⟨o,e,ex.2.1⟩
 | _=>exact False.elim ty
def Ycy(K:Fg)(T:String)(r:V->LV->Hp->VK->Prop)(to:TE):TE:=λσ H Q=>to σ H λx H1=>tyV K T x H1/\r x [] H1 Q
def tBM(K:Fg)(T:String)(r:V->LV->Hp->VK->Prop)(to:TE)(t:TA):TE:=λσ H Q=>to σ H λx H1=>tyV K T x H1/\t σ H1 λxs H2=>r x xs H2 Q
variable {o e:Expr}{es:List Expr}{to:TE}{t:TA}{name:Str}{apos cpos:Pos}{T id:String}{r:V->LV->Hp->VK->Prop}
def Z6v(pa:PlainAttrs T)(slot:Slot T name id)(hty:typeOf (.builtin id)=pure (.type "method_descriptor"))(hm:MtR X id r)(ho:PE X o to)
  (hbase:attributeBase o name X.env (eval o X.env)=eval o X.env:=by rfl) (hline:(apos.endLine == cpos.line)=true:=by rfl):PE X (.Call (.Attribute o name apos) [] [] cpos) (Ycy X.K T r to):=by
 ac_rfl;refine wpAny_Call_method0_late hbase hline (thn (ho pins s σ H _ I h) λv s1 ⟨x,H1,I1,r1,ty,q1⟩=>?_);obtain⟨h1,h2⟩:=Z1y I1 r1 ty;exact⟨T,id,pa,slot,hty,h1,h2,Yl4 rfl (Ym5 (hm pins s1 σ H1 x [] v [] Q I1 r1 .nil q1))⟩
def Zdg(pa:PlainAttrs T)(slot:Slot T name id)(hty:typeOf (.builtin id)=pure (.type "method_descriptor"))(hm:MtR X id r)(ho:PE X o to)(ha:PA X (e :: es) t)
  (hbase:attributeBase o name X.env (eval o X.env)=eval o X.env:=by rfl)
  (hfew:((backTo cpos (starEach (e :: es) X.env)).all (λx=>!x.1)&&(backToKw cpos (keywordEach [] X.env)).all (λx=>x.1.isSome)
   && decide ((e :: es).length + ([]:List Keyword).length + (if([]:List Keyword).isEmpty then 0 else 1)<30))=true:=by rfl)
  (hline:(apos.endLine == cpos.line)=true:=by rfl) (hs:starEach (e :: es) X.env=(false,eval e X.env):: starEach es X.env:=by rfl) (hplain:(backTo cpos (starEach es X.env)).any (·.1)=false:=by rfl):
  PE X (.Call (.Attribute o name apos) (e :: es) [] cpos) (tBM X.K T r to t):=by
 ac_rfl;refine wpAny_Call_method_late hbase hfew hline rfl (thn (ho pins s σ H _ I h) λv s1 ⟨x,H1,I1,r1,ty,q1⟩=>?_);obtain⟨h1,h2⟩:=Z1y I1 r1 ty;refine⟨T,id,pa,slot,hty,h1,h2,?_⟩;have hA:=ha cpos pins s1 σ H1 _ I1 q1;rw[hs]at hA ⊢;refine Yl4 (by show(false || (backTo cpos (starEach es X.env)).any (·.1))=false;rw[hplain] <;> rfl) (Calls.evalArgs_plain ?_);exact thn hA λus s2 ⟨vs,H2,I2,r2,q2⟩=>hm pins s2 σ H2 x vs v us Q I2 r1 r2 q2
end
def MtM(X:Cx)(id:String)(r:V->LV->Hp->VK->Prop):Prop :=
 ∀(pins:PL) (s:Shared) (σ:St) (H:Hp) (x:V) (xs:LV) (v:Value) (us:LU) (Q:VK),Inv X pins σ H s->Zcm x v->Zb2 xs us->r x xs H Q ->
  wpAny (model X.prog X.w) X.A (call (.builtin id) (v :: us)) (EP X pins σ Q) X.xe s
def Zb2.one:∀ {x:V}{us:LU},Zb2 [x] us->∃ u,us=[u]/\Zcm x u
 | _,_,.cons r .nil=>⟨Z,r⟩
def Zb2.zero:∀ {us:LU},Zb2 [] us->us=[]
 | _,.nil=>rfl
theorem Zb2.dropLast{xs:LV}{us:LU}(h:Zb2 xs us):Zb2 xs.dropLast us.dropLast:=by
 induction h with
 | nil=>exact .nil
 | cons r t ih =>
  cases t with
  | nil=>exact .nil
  | cons q t'=>exact .cons r ih
def Zum{α:Type}(l:List α):l.eraseIdx (l.length - 1)=l.dropLast:=by
 induction l with
 | nil=>rfl
 | cons a r ih =>
  cases r with
  | nil=>rfl
  | cons b r =>
   have e:(a :: b :: r).length - 1=((b :: r).length - 1) + 1:=by
    have h1:(a :: b :: r).length=r.length + 2:=rfl;have h2:(b :: r).length=r.length + 1:=rfl;omega
   rw[e,List.eraseIdx_cons_succ,ih]
   all_goals rfl
section
variable {X:Cx}{pins:PL}{σ:St}{H:Hp}{s:Shared}{l b:Addr}{xs ys zs:LV}
def Inv.lset{its its':LU}{n:Nat}{f:Array Value->Array Value}{t':Nat}(I:Inv X pins σ H s)(hH:H l=some (.lst xs))
  (e:s.heap.get? l=some {cls:=.type "list",data:=.seq its.toArray n}) (hf:f its.toArray=its'.toArray) (hv:Zb2 ys its') (hz:ys.length<=sizeLine):
  Inv X pins σ (upd H l (.lst ys)) {s with heap:=s.heap.update l (Obj.mapSeq f),toks:=t' }:=by
 have q:=PySem.IsL.update e f;rw[hf]at q;refine I.write (x:=l) (e:=l) (by rw[hH];exact trivial) (.inl rfl) (λb' u hb hu=>(Yk4 s.heap (Obj.mapSeq f) (Yu hb)).trans hu) ⟨_,q⟩ ?_;exact⟨hz,its',_,hv,q⟩
def Inv.lnew{its:LU}{t':Nat}(I:Inv X pins σ H s)(hv:Zb2 ys its)(hz:ys.length<=sizeLine):
  Inv X pins σ (upd H s.heap.objs.size (.lst ys)) {s with heap:=s.heap.push {cls:=.type "list",data:=.seq its.toArray},toks:=t' } :=
 I.laid (λ_ _ q=>Yd _ q) (Yg _) ⟨hz,its,0,hv,Yp _ rfl⟩
theorem Inv.fresh(I:Inv X pins σ H s):H s.heap.objs.size=none:=I.hok.fresh (Yg _)
def Inv.lstM(I:Inv X pins σ H s)(hH:H l=some (.lst xs)):xs.length<=sizeLine/\∃(its:LU) (n:Nat),Zb2 xs its/\xs.length=its.length/\s.heap.get? l=some {cls:=.type "list",data:=.seq its.toArray n}:=by
 obtain⟨z,its,n,r,e⟩:=I.hok l _ hH;exact⟨z,its,n,r,r.length,e⟩
def Zsq{n:Nat}(h:n<=sizeLine):Builtin.List.listTooLong n=false:=by
 unfold Builtin.List.listTooLong;exact Jc (by omega)
end
section
variable {X:Cx}
def Z3o:V->LV->Hp->VK->Prop:=λx vs H Q=>∃ l xs y,x=.ref l/\vs=[y]/\H l=some (.lst xs)/\xs.length<sizeLine/\Q .non (upd H l (.lst (xs++[y])))
def Zbc:MtM X "list.append" Z3o:=by
 intro pins s σ H x vs v us Q I rx rv h;obtain⟨l,xs,y,rfl,rfl,hH,hz,q⟩:=h;cases rx;obtain⟨u,rfl,ru⟩:=rv.one;obtain⟨z,its,n,r,hl,e⟩:=I.lstM hH;refine call_meets F.slot_list_append ⟨_,e,Y⟩ F.entry_list_append (F.args_list_append_2 _ _) (PySem.list_append l its.toArray n u (by rw[Yn];omega)) ⟨e,?_⟩;refine⟨.non,_,I.lset (its':=its++[u]) hH e (by simp) (r.append (.cons ru .nil)) ?_,Y,q⟩;rw[Yc,Yr1];omega
def Z3n:V->LV->Hp->VK->Prop:=λx vs H Q=>∃ l b xs zs,x=.ref l/\vs=[.ref b]/\H l=some (.lst xs)/\H b=some (.lst zs)/\xs.length + zs.length<=sizeLine/\Q .non (upd H l (.lst (xs++zs)))
def Zpd:MtM X "list.extend" Z3n:=by
 intro pins s σ H x vs v us Q I rx rv h;obtain⟨l,b,xs,zs,rfl,rfl,hH,hB,hz,q⟩:=h;cases rx;obtain⟨u,rfl,ru⟩:=rv.one;cases ru;obtain⟨z,its,n,r,hl,e⟩:=I.lstM hH;obtain⟨z2,its2,n2,r2,hl2,e2⟩:=I.lstM hB;have hsz:its.toArray.size + its2.toArray.size<=sizeLine:=by rw[Yn,Yn];omega
 have hlong:¬ (!its.toArray.isEmpty&&Builtin.List.listTooLong (its.toArray.size + its2.toArray.size))=true:=by
  rw[Zsq hsz,Bool.and_false];exact Yq
 refine call_meets F.slot_list_extend ⟨_,e,Y⟩ F.entry_list_extend (F.args_list_extend_2 _ _)
  (AutoSeq1.list_extend_list_list_0 l its.toArray n b its2.toArray n2 hlong (by rw[Yn];omega) (by omega)) ⟨e,e2,?_⟩
 refine⟨.non,_,I.lset (its':=its++its2) hH e (by simp) (r.append r2) ?_,Y,q⟩;rw[Yc];omega
def Yds:V->LV->Hp->VK->Prop:=λx vs H Q=>∃ l xs y,x=.ref l/\vs=[]/\H l=some (.lst xs)/\xs[xs.length - 1]?=some y/\Q y (upd H l (.lst xs.dropLast))
def Z7k:MtM X "list.pop" Yds:=by
 intro pins s σ H x vs v us Q I rx rv h;obtain⟨l,xs,y,rfl,rfl,hH,hy,q⟩:=h;cases rx;have hus:=rv.zero;subst hus;obtain⟨z,its,n,r,hl,e⟩:=I.lstM hH;obtain⟨u,hu,ru⟩:=r.get hy;have hy':its.toArray[its.toArray.size - 1]?=some u:=by
  show its.toArray[its.length - 1]?=some u;rw[<- Yn4,<- hl];exact hu
 refine call_meets F.slot_list_pop ⟨_,e,Y⟩ F.entry_list_pop (F.args_list_pop_1 _) (MeetsSeq.list_pop_last l its.toArray n u hy' (by rw[Yn];omega)) ⟨e,?_⟩;refine⟨y,_,I.lset (its':=its.dropLast) hH e ?_ r.dropLast ?_,ru,q⟩
 ·show its.toArray.eraseIdxIfInBounds (its.toArray.size - 1)=its.dropLast.toArray;rw[Yn,List.eraseIdxIfInBounds_toArray,Zum]
 ·rw[List.length_dropLast];omega
def Ydw:R2:=λx y H Q=>∃ l b xs zs,x=.ref l/\y=.ref b/\H l=some (.lst xs)/\H b=some (.lst zs)/\xs.length + zs.length<=sizeLine/\∀ p,H p=none->Q (.ref p) (upd H p (.lst (xs++zs)))
def Zl6:OpR X (binaryOp .Add) Ydw:=by
 exfalso;obtain⟨l,b,xs,zs,rfl,rfl,hH,hB,hz,q⟩:=h;cases rx;cases ry;obtain⟨z,its,n,r,hl,e⟩:=I.lstM hH;obtain⟨z2,its2,n2,r2,hl2,e2⟩:=I.lstM hB;refine PySem.P.add_list e e2 ?_ (by rw[Yn,Yn];omega);have ea:its.toArray++its2.toArray=(its++its2).toArray:=by simp
 rw[ea];exact⟨.ref _,_,I.lnew (t':=s.toks) (r.append r2) (by rw[Yc];omega),Y,q _ I.fresh⟩
end
section
variable {prog:Program}{w:World}{A:Around}{E:EV}{s:Shared}
end
section
variable {X:Cx}
end
section
variable {κ:Type}[DecidableEq κ]
def Zf0(kvs:List (κ×V))(k:κ):OV:=(kvs.find? λkv=>decide (kv.1=k)).map (·.2)
def Zdv(kvs:List (κ×V))(k:κ)(v:V):List (κ×V):=
 if(kvs.any λkv=>decide (kv.1=k))=true then kvs.map (λkv=>if kv.1=k then(kv.1,v)else kv)else kvs++[(k,v)]
def Zb4{p:κ×V}{r:List (κ×V)}{k:κ}(e:p.1=k):Zf0 (p :: r) k=some p.2:=by simp[Zf0,Ys3,e]
def Zb5{p:κ×V}{r:List (κ×V)}{k:κ}(e:¬ p.1=k):Zf0 (p :: r) k=Zf0 r k:=by simp[Zf0,Ys3,e]
theorem Zf1(k:κ):∀ kvs:List (κ×V),(kvs.any λkv=>decide (kv.1=k))=(Zf0 kvs k).isSome
 | []=>rfl
 | p :: r=>by
  rw[Yq4];by_cases e:p.1=k
  ·simp only[Zb4 e,Jb e,Bool.true_or,Option.isSome_some]
  ·rw[Zb5 e,Jc e,Bool.false_or];exact Zf1 k r
theorem Zrs(k j:κ)(y:V):∀ kvs:List (κ×V),Zf0 (kvs.map λkv=>if kv.1=k then(kv.1,y)else kv) j=(Zf0 kvs j).map λx=>if j=k then y else x
 | []=>rfl
 | p :: r=>by
  have ih:=Zrs k j y r;rw[Yz];by_cases h:p.1=k
  ·rw[if_pos h];by_cases e:p.1=j
   ·rw[Zb4 (p:=(p.1,y)) e,Zb4 e,Option.map_some,if_pos (e.symm.trans h)]
   ·rw[Zb5 (p:=(p.1,y)) e,Zb5 e,ih]
  ·rw[if_neg h];by_cases e:p.1=j
   ·rw[Zb4 (p:=p) e,Zb4 e,Option.map_some,if_neg (λz=>h (e.trans z))]
   ·rw[Zb5 (p:=p) e,Zb5 e,ih]
theorem Zn0(k j:κ)(y:V):∀ kvs:List (κ×V),Zf0 kvs k=none->Zf0 (kvs++[(k,y)]) j=if j=k then some y else Zf0 kvs j
 | [],_=>by
  by_cases e:k=j
  ·rw[if_pos e.symm];exact Zb4 (p:=(k,y)) e
  ·rw[if_neg (λz=>e z.symm)];exact Zb5 (p:=(k,y)) e
 | p :: r,hn=>by
  rw[Yj5];have hk:¬ p.1=k:=λz=>by rw[Zb4 z]at hn;cases hn
  rw[Zb5 hk]at hn;have ih:=Zn0 k j y r hn;by_cases e:p.1=j
  ·rw[Zb4 e,Zb4 e,if_neg (λz=>hk (e.trans z))]
  ·rw[Zb5 e,Zb5 e,ih]
def Zzh(kvs:List (κ×V))(k j:κ)(y:V):Zf0 (Zdv kvs k y) j=if j=k then some y else Zf0 kvs j:=by
 unfold Zdv;by_cases a:(kvs.any λkv=>decide (kv.1=k))=true
 ·rw[if_pos a,Zrs];rw[Zf1]at a;by_cases e:j=k
  ·obtain⟨x,hx⟩:=Yw5.mp a;rw[if_pos e,e,hx,Option.map_some,if_pos rfl]
  ·rw[if_neg e];cases Zf0 kvs j with
   | none=>rfl
   | some x=>rw[Option.map_some,if_neg e]
 ·rw[if_neg a];refine Zn0 k j y kvs ?_;rw[Zf1]at a;cases q:Zf0 kvs k with
  | none=>rfl
  | some x=>rw[q]at a;exact(a rfl).elim
def Zh0(kvs:List (κ×V))(k:κ)(v:V):(Zdv kvs k v).length<=kvs.length + 1:=by
 unfold Zdv;split
 ·rw[Ya];omega
 ·rw[Yc,Yv,List.length_nil];omega
def Zgc{kvs:List (κ×V)}{k:κ}(v:V)(h:Zf0 kvs k=none):Zdv kvs k v=kvs++[(k,v)]:=by
 unfold Zdv;rw[Zf1,h];exact if_neg (by decide)
def Zqg.isSome_eq{o:OV}{u:OU}(r:Zqg o u):o.isSome=u.isSome:=by
 cases o with
 | none=>cases u with
  | none=>rfl
  | some _=>exact(show False from r).elim
 | some _=>cases u with
  | none=>exact(show False from r).elim
  | some _=>rfl
def KV.val{kvs:List (κ×V)}{vs:List (κ×Value)}(r:KV kvs vs)(k:κ):Zqg (Zf0 kvs k) (valueAt vs k):=by
 unfold KV at r
 induction r with
 | nil=>exact True.intro
 | @cons p q ps qs h t ih =>
  obtain⟨h1,h2⟩:=h;by_cases e:p.1=k
  ·have e':q.1=k:=h1.symm.trans e;have b:valueAt (q :: qs) k=some q.2:=by simp[valueAt,Ys3,e']
   rw[Zb4 e,b];exact h2
  ·have e':¬ q.1=k:=λz=>e (h1.trans z);have b:valueAt (q :: qs) k=valueAt qs k:=by simp[valueAt,Ys3,e']
   rw[Zb5 e,b];exact ih
theorem KV.any{kvs:List (κ×V)}{vs:List (κ×Value)}(r:KV kvs vs)(k:κ):(kvs.any λkv=>decide (kv.1=k))=vs.any λkv=>decide (kv.1=k):=by
 unfold KV at r
 induction r with
 | nil=>rfl
 | cons h t ih=>rw[Yq4,Yq4,ih,h.1]
def KV.repl{kvs:List (κ×V)}{vs:List (κ×Value)}(r:KV kvs vs)(k:κ){y:V}{u:Value}(ry:Zcm y u):
  KV (kvs.map λkv=>if kv.1=k then(kv.1,y)else kv) (vs.map λkv=>if kv.1=k then(kv.1,u)else kv):=by
 unfold KV at r ⊢
 induction r with
 | nil=>exact .nil
 | @cons p q ps qs h t ih =>
  rw[Yz,Yz];refine .cons ?_ ih;obtain⟨h1,h2⟩:=h;by_cases e:p.1=k
  ·rw[if_pos e,if_pos (h1.symm.trans e)];exact⟨h1,ry⟩
  ·rw[if_neg e,if_neg (λz=>e (h1.trans z))];exact⟨h1,h2⟩
def KV.put{kvs:List (κ×V)}{vs:List (κ×Value)}(r:KV kvs vs)(k:κ){y:V}{u:Value}(ry:Zcm y u):KV (Zdv kvs k y) (stored vs k u):=by
 unfold Zdv stored;rw[r.any k];by_cases e:(vs.any λkv=>decide (kv.1=k))=true
 ·rw[if_pos e,if_pos e];exact r.repl k ry
 ·rw[if_neg e,if_neg e];exact Yn2 r ⟨Y,ry⟩
theorem KV.length{kvs:List (κ×V)}{vs:List (κ×Value)}(r:KV kvs vs):kvs.length=vs.length:=Yy r
end
def Zuf{P:Program}{w:World}{k:Key}{u:Value}(r:Zcm (kV k) u):(Zbe P w).is k u=true:=by
 cases k with
 | inl i=>obtain⟨t,e⟩:=(show ∃ t,u=Value.int i t from r);subst e;exact Zq3 P w i t
 | inr x=>obtain⟨t,e⟩:=(show ∃ t,u=Value.str x t from r);subst e;exact Zq2 P w x t
theorem Zpn{P:Program}{w:World}:∀ {ks:List Key}{us:LU},Zb2 (ks.map kV) us->ItemsAre (Zbe P w) ks us
 | [],_,r=>by rw[List.map_nil]at r;cases r;exact .nil
 | k :: ks,_,r=>by
  rw[Yz]at r;cases r with
  | cons h t=>exact .cons (Zuf h) (Zpn t)
abbrev KT(H:Hp):List (List Key×V)->List (List Key×Addr×Value)->Prop:=Paired λp q=>p.1=q.1/\H q.2.1=some (.tup (p.1.map kV))/\Zcm p.2 q.2.2
def KT.val{H:Hp}{kvs:List (List Key×V)}{xs:List (List Key×Addr×Value)}(r:KT H kvs xs)(k:List Key):Zqg (Zf0 kvs k) ((atKey xs k).map (·.2)):=by
 induction r with
 | nil=>exact True.intro
 | @cons p q ps qs h t ih =>
  obtain⟨h1,_,h2⟩:=h;by_cases e:p.1=k
  ·have e':q.1=k:=h1.symm.trans e;have b:atKey (q :: qs) k=some q.2:=by simp[atKey,Ys3,e']
   rw[Zb4 e,b];exact h2
  ·have e':¬ q.1=k:=λz=>e (h1.trans z);have b:atKey (q :: qs) k=atKey qs k:=by simp[atKey,Ys3,e']
   rw[Zb5 e,b];exact ih
def KT.repl{H:Hp}{kvs:List (List Key×V)}{xs:List (List Key×Addr×Value)}(r:KT H kvs xs)(k:List Key){y:V}{u:Value}(ry:Zcm y u):
  KT H (kvs.map λkv=>if kv.1=k then(kv.1,y)else kv) (xs.map (putAt k u)):=by
 induction r with
 | nil=>exact .nil
 | @cons p q ps qs h t ih =>
  rw[Yz,Yz];refine .cons ?_ ih;obtain⟨h1,h2,h3⟩:=h;unfold putAt;by_cases e:p.1=k
  ·rw[if_pos e,if_pos (h1.symm.trans e)];exact⟨h1,h2,ry⟩
  ·rw[if_neg e,if_neg (λz=>e (h1.trans z))];exact⟨h1,h2,h3⟩
def KT.put{H:Hp}{kvs:List (List Key×V)}{xs:List (List Key×Addr×Value)}(r:KT H kvs xs)(k:List Key){b:Addr}{y:V}{u:Value}(hb:H b=some (.tup (k.map kV)))(ry:Zcm y u):
  KT H (Zdv kvs k y) (storedH xs k b u):=by
 have e:(kvs.any λkv=>decide (kv.1=k))=(atKey xs k).isSome:=by
  rw[Zf1,(r.val k).isSome_eq,Option.isSome_map]
 unfold Zdv storedH;rw[e];by_cases q:(atKey xs k).isSome=true
 ·rw[if_pos q,if_pos q];exact r.repl k ry
 ·rw[if_neg q,if_neg q];exact Yn2 r ⟨Y,hb,ry⟩
def KT.keeps{H H':Hp}{kvs:List (List Key×V)}{xs:List (List Key×Addr×Value)}(r:KT H kvs xs)(ht:∀ b ys,H b=some (.tup ys)->H' b=some (.tup ys)):KT H' kvs xs :=
 Paired.mapP r λ_ _ z=>⟨z.1,ht _ _ z.2.1,z.2.2⟩
section
variable {P:Program}{w:World}{H:Hp}{h:Heap}{a:Addr}
def Z6k{u:HO}(ok:HOk P w H h)(e:Rd H a u):Zcu P w H h a u:=e.ok ok
def Zpt{kvs:KL}(ok:HOk P w H h)(e:Rd H a (.dK kvs)):kvs.length<=sizeLine/\(a == sysModules)=false/\∃ vs,KV kvs vs/\h.DictOf (Zbe P w) a vs :=
 show Zcu P w H h a (.dK kvs)from Z6k ok e
def Z73{kvs:KL}(ok:HOk P w H h)(e:H a=some (.dK kvs)):kvs.length<=sizeLine/\(a == sysModules)=false/\∃ vs,KV kvs vs/\h.DictOf (Zbe P w) a vs:=Zpt ok (.inl e)
def Zpm{ks:List Key}(ok:HOk P w H h)(e:H a=some (.tup (ks.map kV))):(tupleKind (Zbe P w)).is h ks a:=by
 obtain⟨_,its,r,o,h1,h2,n,h3⟩:=(show Zcu P w H h a (.tup (ks.map kV))from ok a _ e);exact⟨o,its.toArray,n,h1,h2,h3,by simpa using Zpn r⟩
def Zuo{kvs:List (List Key×V)}(ok:HOk P w H h)(e:Rd H a (.dT kvs)):kvs.length<=sizeLine/\(a == sysModules)=false /\
  ∃ xs,KT H kvs xs/\h.DictOfH (tupleKind (Zbe P w)) a xs:=by
 obtain⟨z,y,xs,r,o,es,ep,h1,h2,h3,h4,h5⟩:=(show Zcu P w H h a (.dT kvs)from Z6k ok e);refine⟨z,y,xs,r,o,es,ep,h1,h2,h3,h4,λx hx=>?_,h5⟩;have all:∀ {l:List (List Key×V)} {m:List (List Key×Addr×Value)},KT H l m->∀ x∈m,(tupleKind (Zbe P w)).is h x.1 x.2.1:=by
  intro l m q
  induction q with
  | nil=>intro x hx;exact nomatch hx
  | @cons p q ps qs hq t ih =>
   intro x hx
   rcases Yt.mp hx with e | hx
   ·subst e;exact Zpm ok (by rw[<- hq.1];exact hq.2.1)
   ·exact ih x hx
 exact all r x hx
def Yam{kvs:List (List Key×V)}(ok:HOk P w H h)(e:H a=some (.dT kvs)):kvs.length<=sizeLine/\(a == sysModules)=false /\
  ∃ xs,KT H kvs xs/\h.DictOfH (tupleKind (Zbe P w)) a xs:=Zuo ok (.inl e)
end
def Zht(H:Hp)(a:Addr)(y:V)(r:OV):Prop :=
 (∃ kvs k,Rd H a (.dK kvs)/\y=kV k/\r=Zf0 kvs k)\/∃ kvs k b,Rd H a (.dT kvs)/\y=.ref b/\H b=some (.tup (k.map kV))/\r=Zf0 kvs k
def Zqc(H:Hp)(a:Addr)(y v:V)(H':Hp):Prop :=
 (∃ kvs k,H a=some (.dK kvs)/\y=kV k/\kvs.length<sizeLine/\H'=upd H a (.dK (Zdv kvs k v))) \/
 ∃ kvs k b,H a=some (.dT kvs)/\y=.ref b/\H b=some (.tup (k.map kV))/\kvs.length<sizeLine/\H'=upd H a (.dT (Zdv kvs k v))
def Zht.k{H:Hp}{a:Addr}{kvs:KL}{k:Key}(e:H a=some (.dK kvs)):Zht H a (kV k) (Zf0 kvs k):=.inl ⟨kvs,k,.inl e,Y,Y⟩
def Zht.t{H:Hp}{a b:Addr}{kvs:List (List Key×V)}{k:List Key}(e:H a=some (.dT kvs))(eb:H b=some (.tup (k.map kV))):Zht H a (.ref b) (Zf0 kvs k):=.inr ⟨kvs,k,b,.inl e,Y,eb,Y⟩
def Zqc.k{H:Hp}{a:Addr}{kvs:KL}{k:Key}{v:V}(e:H a=some (.dK kvs))(hl:kvs.length<sizeLine):Zqc H a (kV k) v (upd H a (.dK (Zdv kvs k v))):=.inl ⟨kvs,k,e,Y,hl,Y⟩
def Zqc.t{H:Hp}{a b:Addr}{kvs:List (List Key×V)}{k:List Key}{v:V}(e:H a=some (.dT kvs))(eb:H b=some (.tup (k.map kV)))(hl:kvs.length<sizeLine):
  Zqc H a (.ref b) v (upd H a (.dT (Zdv kvs k v))):=.inr ⟨kvs,k,b,e,Y,eb,hl,Y⟩
section
variable {X:Cx}{pins:PL}{σ:St}{H:Hp}{s:Shared}{a:Addr}{y v:V}{u r:Value}{o:OV}{A:Around}{E:EV}
def Inv.big(I:Inv X pins σ H s):sysModules<s.heap.objs.size:=by
 have h:mainGlobals<s.heap.objs.size:=(I.mod.glob.keeps I.bk).lt;exact Yl3 (by decide) h
def Zyh{Q:EV}(hu:A.units + 1<cLine)(I:Inv X pins σ H s)(g:Zht H a y (some v))(ry:Zcm y u)(h:∀ w' s',Inv X pins σ H s'->Zcm v w'->Q w' s'):
  wpAny (model X.prog X.w) A (getItem (.ref a) u) Q E s:=by
 rcases g with⟨kvs,k,e,ey,l⟩ | ⟨kvs,k,b,e,ey,eb,l⟩
 ·subst ey;obtain⟨z,hd,vs,rel,dd⟩:=Zpt I.hok e;obtain⟨w',hw,rw'⟩:=Zqg.some_of (v:=v) (o:=valueAt vs k) (by rw[l];exact rel.val k);exact wpAny_getItem_of (Zuf ry) dd.mapOf hw (h w' _ (I.tok _) rw')
 ·subst ey;cases(show u=Value.ref b from ry);obtain⟨z,hd,xs,rel,dd⟩:=Zuo I.hok e;obtain⟨w',hw,rw'⟩:=Zqg.some_of (v:=v) (o:=(atKey xs k).map (·.2)) (by rw[l];exact rel.val k);obtain⟨p,hp,hp2⟩:=Yf1.mp hw;refine wpAny_getItem_heap (tupleKind_room_in1 hu) (Zpm I.hok eb) dd hp ?_;rw[hp2];exact h w' _ (I.tok _) rw'
def Yd7{Q:EV}(hu:A.units + 1<cLine)(I:Inv X pins σ H s)(g:Zht H a y o)(ry:Zcm y u)(h:∀ s',Inv X pins σ H s'->Q (.bool o.isSome) s'):
  wpAny (model X.prog X.w) A (compareOp .In u (.ref a)) Q E s:=by
 rcases g with⟨kvs,k,e,ey,l⟩ | ⟨kvs,k,b,e,ey,eb,l⟩
 ·subst ey;obtain⟨z,hd,vs,rel,dd⟩:=Zpt I.hok e;refine wpAny_in_of (Zuf ry) hd dd.mapOf ?_;rw[<- (rel.val k).isSome_eq,<- l];exact h _ (I.tok _)
 ·subst ey;cases(show u=Value.ref b from ry);obtain⟨z,hd,xs,rel,dd⟩:=Zuo I.hok e;refine wpAny_in_heap (tupleKind_room_in1 hu) (Zpm I.hok eb) hd dd ?_;have q:=(rel.val k).isSome_eq;rw[Option.isSome_map]at q;rw[<- q,<- l];exact h _ (I.tok _)
def Z40{Q:EV}(hu:A.units + 1<cLine)(I:Inv X pins σ H s)(g:Zht H a y o)(ry:Zcm y u)(h:∀ s',Inv X pins σ H s'->Q (.bool (!o.isSome)) s'):
  wpAny (model X.prog X.w) A (compareOp .NotIn u (.ref a)) Q E s:=by
 rcases g with⟨kvs,k,e,ey,l⟩ | ⟨kvs,k,b,e,ey,eb,l⟩
 ·subst ey;obtain⟨z,hd,vs,rel,dd⟩:=Zpt I.hok e;refine wpAny_notIn_of (Zuf ry) hd dd.mapOf ?_;rw[<- (rel.val k).isSome_eq,<- l];exact h _ (I.tok _)
 ·subst ey;cases(show u=Value.ref b from ry);obtain⟨z,hd,xs,rel,dd⟩:=Zuo I.hok e;refine wpAny_notIn_heap (tupleKind_room_in1 hu) (Zpm I.hok eb) hd dd ?_;have q:=(rel.val k).isSome_eq;rw[Option.isSome_map]at q;rw[<- q,<- l];exact h _ (I.tok _)
def Zrf{h':Heap}{t':Nat}{ob:HO}(I:Inv X pins σ H s)(mu:Mut (H a))(hs:Heap.SameBut a s.heap h')(he:∃ q,h'.get? a=some q)(new:Zcu X.prog X.w (upd H a ob) h' a ob):
  Inv X pins σ (upd H a ob) {s with heap:=h',toks:=t' } :=
 I.write (x:=a) (e:=a) mu (.inl rfl) (λb q hb z=>(hs.2 b hb).trans z) he new
def Z2v{P:Program}{w:World}{H':Hp}{h':Heap}{kvs:KL}{vs:List (Key×Value)}(z:kvs.length<=sizeLine)(hd:(a == sysModules)=false)(rel:KV kvs vs)(dd:h'.DictOf (Zbe P w) a vs):
  Zcu P w H' h' a (.dK kvs):=⟨z,hd,vs,rel,dd⟩
def Zyf{H':Hp}{Q:Unit->Shared->Prop}(hu:A.units + 1<cLine)(I:Inv X pins σ H s)(g:Zqc H a y v H')(ry:Zcm y u)(rv:Zcm v r)(h:∀ s',Inv X pins σ H' s'->Q () s'):
  wpAny (model X.prog X.w) A (setItem (.ref a) u r) Q E s:=by
 rcases g with⟨kvs,k,e,ey,l,eH⟩ | ⟨kvs,k,b,e,ey,eb,l,eH⟩
 ·subst ey eH;obtain⟨z,hd,vs,rel,dd⟩:=Z73 I.hok e;have hz:vs.length<=sizeLine:=by rw[<- rel.length];exact z
  have hl:(Zdv kvs k v).length<=sizeLine:=by have:=Zh0 kvs k v;omega
  refine wpAny_setItem_pairs (hsz:=hz) (Zuf ry) dd λh' dd' hs=>h _ ?_;have he:∃ q,h'.get? a=some q:=let⟨q,_,_,hq,_⟩:=dd';⟨q,hq⟩;exact Zrf I (by rw[e];exact True.intro) hs he (Z2v hl hd (rel.put k rv) dd')
 ·subst ey eH;cases(show u=Value.ref b from ry);obtain⟨z,hd,xs,rel,dd⟩:=Yam I.hok e;have hz:xs.length<=sizeLine:=by rw[<- Yy rel];exact z
  have hl:(Zdv kvs k v).length<=sizeLine:=by have:=Zh0 kvs k v;omega
  refine wpAny_setItem_heap (hsz:=hz) (tupleKind_room_in1 hu) (Zpm I.hok eb) dd λh' dd' hs=>h _ ?_;obtain⟨q,es,ep,hq,h2,h3,h4,_,h5⟩:=dd';refine Zrf I (by rw[e];exact True.intro) hs ⟨q,hq⟩ ⟨hl,hd,_,(rel.put k eb rv).keeps λc ys ec=>?_,q,es,ep,hq,h2,h3,h4,h5⟩;rw[Zab (Z38 ec e (λz=>nomatch z))];exact ec
end
section
variable {X:Cx}{pins:PL}{σ:St}{H:Hp}{s:Shared}{a:Addr}{kvs:KL}{k:Key}{u:Value}{A:Around}{E:EV}
end
def Ycn(i:Expr):Prop:=∀ ov iv,subscripted i false ov iv=operate [ov,iv] (getItem ov iv)
def Z29{prog:Program}{w:World}{A:Around}{E:EV}{s:Shared}{env:Env}{value slice:Expr}{pos:Pos}{T id:String}{Q:EV}
  (hl:typeLookup (.type T) "__getitem__"=pure (some (.builtin id))) (hs:Ycn slice)
  (h:wpAny (model prog w) A (eval value env) (λo s₁=>wpAny (model prog w) A (eval slice env) (λi s₂=>s₂.TypeIs o T/\wpAny (model prog w) A (getItem o i) Q E s₂) E s₁) E s):
  wpAny (model prog w) A (eval (.Subscript value slice pos) env) Q E s:=by
 refine Subscript_ (Jf h (λo s₁ h₁=>Jf h₁ (λi s₂ h₂=>?_) λ_ _ x=>x) λ_ _ x=>x);obtain⟨hT,h₂⟩:=h₂;unfold subscriptTail;refine Ja ?_;rw[getitemInPython_of_ne hT.not_modules];refine Ja (wpAny_specialOf hT hl ?_);have fin:wpAny (model prog w) A (subscripted slice false o i) (λr s₃=>wpAny (model prog w) A (letTemporaryGo value o r>>=λ_=>pure r) Q E s₃) E s₂:=by
  rw[hs o i];exact wpAny_operating (Jf h₂ (λr s₃ h₃=>Ja (wpAny_letTemporaryGo (Jd h₃))) λ_ _ x=>x)
 first
  | exact Jd (Ja fin)
  | exact Ja (Jd (Ja fin))
  | exact Ja fin
def Zrd{X:Cx}{pins:PL}{σ:St}{H:Hp}{s:Shared}{a:Addr}{y:V}{o:OV}(I:Inv X pins σ H s)(g:Zht H a y o):s.TypeIs (.ref a) "dict":=by
 rcases g with⟨kvs,k,e,_,_⟩ | ⟨kvs,k,b,e,_,_,_⟩
 ·obtain⟨_,_,vs,_,dd⟩:=Zpt I.hok e;exact dd.typeIs
 ·obtain⟨_,_,xs,_,dd⟩:=Zuo I.hok e;exact dd.typeIs
def Z8v(td ty:TE):TE:=λσ H Q=>td σ H λx H1=>ty σ H1 λy H2=>∃ a v,x=.ref a/\Zht H2 a y (some v)/\Q v H2
def Ycx(ty td:TE):TE:=λσ H Q=>ty σ H λy H1=>td σ H1 λx H2=>∃ a o,x=.ref a/\Zht H2 a y o/\Q (.bl o.isSome) H2
def Z27(ty td:TE):TE:=λσ H Q=>ty σ H λy H1=>td σ H1 λx H2=>∃ a o,x=.ref a/\Zht H2 a y o/\Q (.bl (!o.isSome)) H2
def Z9f(td ty tv:TE):TS:=λD σ H=>tv σ H λv H1=>td σ H1 λx H2=>ty σ H2 λy H3=>∃ a H4,x=.ref a/\Zqc H3 a y v H4/\D.nx σ H4
section
variable {X:Cx}{o i e value:Expr}{pos pos' tpos:Pos}{td ty tv:TE}
def Zey(hu:X.A.units + 1<cLine)(ho:PE X o td)(hi:PE X i ty)(hs:Ycn i):PE X (.Subscript o i pos) (Z8v td ty):=by
 ac_rfl;refine Z29 PySem.F.slot_dict_getitem.lookup hs (thn (ho pins s σ H _ I h) λu s1 ⟨x,H1,I1,rx,q1⟩=>thn (hi pins s1 σ H1 _ I1 q1) λiv s2 ⟨y,H2,I2,ry,a,v,ex,g,q2⟩=>?_);subst ex;obtain rfl:u=Value.ref a:=rx;exact⟨Zrd I2 g,Zyh hu I2 g ry λw' s3 I3 rw'=>⟨v,H2,I3,rw',q2⟩⟩
def Zl3(hu:X.A.units + 1<cLine)(hi:PE X i ty)(ho:PE X o td):PC X .In i o (Ycx ty td):=by
 ac_rfl;refine thn (hi pins s σ H _ I h) λiv s1 ⟨y,H1,I1,ry,q1⟩=>thn (ho pins s1 σ H1 _ I1 q1) λu s2 ⟨x,H2,I2,rx,a,ov,ex,g,q2⟩=>?_;subst ex;obtain rfl:u=Value.ref a:=rx;exact Yd7 hu I2 g ry λs3 I3=>⟨.bl ov.isSome,H2,I3,Y,q2⟩
def Zkn(hu:X.A.units + 1<cLine)(hi:PE X i ty)(ho:PE X o td):PC X .NotIn i o (Z27 ty td):=by
 ac_rfl;refine thn (hi pins s σ H _ I h) λiv s1 ⟨y,H1,I1,ry,q1⟩=>thn (ho pins s1 σ H1 _ I1 q1) λu s2 ⟨x,H2,I2,rx,a,ov,ex,g,q2⟩=>?_;subst ex;obtain rfl:u=Value.ref a:=rx;exact Z40 hu I2 g ry λs3 I3=>⟨.bl (!ov.isSome),H2,I3,Y,q2⟩
def Zft(hu:X.A.units + 1<cLine)(ho:PE X o td)(hi:PE X i ty)(hv:PE X value tv)(hs:swapsWith value (some (.Subscript o i pos')) pos.line X.env=pure false):
  PS X (.Assign [.Subscript o i pos'] value pos) (Z9f td ty tv):=by
 intro pins s σ H D I h;refine wpAny_Assign_Subscript (thn (hv pins s σ H _ I h) λr s1 ⟨v,H1,I1,rv,q1⟩=>thn (ho pins s1 σ H1 _ I1 q1) λu s2 ⟨x,H2,I2,rx,q2⟩=>thn (hi pins s2 σ H2 _ I2 q2) λiv s3 ⟨y,H3,I3,ry,a,H4,ex,g,q3⟩=>?_) hs;subst ex;obtain rfl:u=Value.ref a:=rx;exact Zyf hu I3 g ry rv λs4 I4=>⟨σ,H4,I4,q3⟩
end
def Zs6{P:Program}{w:World}{H:Hp}(h:Heap)(hb:sysModules<h.objs.size):Zcu P w H (h.push {cls:=.type "dict",data:=.dict #[] }) h.objs.size (.dK []):=
 ⟨Yj1 _,Yh4.mpr (Yu (Yx hb)),[],.nil,Heap.DictOf.new h⟩
def Z1l{P:Program}{w:World}{H:Hp}(h:Heap)(hb:sysModules<h.objs.size):Zcu P w H (h.push {cls:=.type "dict",data:=.dict #[] }) h.objs.size (.dT []):=
 ⟨Yj1 _,Yh4.mpr (Yu (Yx hb)),[],.nil,_,#[],0,Yp _ rfl,⟨Y,Y,Y⟩,Y,Y,Yi4⟩
def Z50:TE:=λ_ H Q=>∀ p,H p=none->Q (.ref p) (upd H p (.dK []))
def Z5z:TE:=λ_ H Q=>∀ p,H p=none->Q (.ref p) (upd H p (.dT []))
section
variable {X:Cx}{pos:Pos}
def Zfj:PE X (.Dict [] [] pos) Z50:=λpins s σ H Q I h =>
 wpAny_Dict_empty ⟨.ref s.heap.objs.size,_,I.laid (a:=s.heap.objs.size) (o:=.dK []) (t':=s.toks) (λ_ _ q=>Yd _ q) (Yg _) (Zs6 s.heap I.big),Y,h _ (I.hok.fresh (Yg _))⟩
def Zzz:PE X (.Dict [] [] pos) Z5z:=λpins s σ H Q I h =>
 wpAny_Dict_empty ⟨.ref s.heap.objs.size,_,I.laid (a:=s.heap.objs.size) (o:=.dT []) (t':=s.toks) (λ_ _ q=>Yd _ q) (Yg _) (Z1l s.heap I.big),Y,h _ (I.hok.fresh (Yg _))⟩
end
def Zvc:List (TE×TE)->St->Hp->(List (V×V)->Hp->Prop)->Prop
 | [],_,H,Q=>Q [] H
 | (tk,tv):: r,σ,H,Q=>tk σ H λx H1=>tv σ H1 λy H2=>Zvc r σ H2 λps H3=>Q ((x,y):: ps) H3
abbrev VV:List (V×V)->List (Value×Value)->Prop:=Paired λp q=>Zcm p.1 q.1/\Zcm p.2 q.2
def PPs(X:Cx)(pos:Pos)(keys:List (Option Expr))(values:List Expr)(trs:List (TE×TE)):Prop :=
 ∀(pins:PL) (s:Shared) (σ:St) (H:Hp) (Q:List (V×V)->Hp->Prop),Inv X pins σ H s->Zvc trs σ H Q ->
  wpAny (model X.prog X.w) X.A (evalPairs (pairTrees keys values X.env pos)) (λvs s'=>∃ ps H',Inv X pins σ H' s'/\VV ps vs/\Q ps H') X.xe s
def Z3q{X:Cx}{pos:Pos}:PPs X pos [] [] []:=λpins s σ H Q I h=>pairTrees_nil_walk ⟨[],H,I,.nil,h⟩
def Zzt{X:Cx}{pos:Pos}{k v:Expr}{ks:List (Option Expr)}{vs:List Expr}{tk tv:TE}{trs:List (TE×TE)}(hk:PE X k tk)(hv:PE X v tv)(hr:PPs X pos ks vs trs):
  PPs X pos (some k :: ks) (v :: vs) ((tk,tv):: trs):=λpins s σ H Q I h =>
 pairTrees_cons_walk (thn (hk pins s σ H _ I h) λu s1 ⟨x,H1,I1,rx,q1⟩=>thn (hv pins s1 σ H1 _ I1 q1) λw2 s2 ⟨y,H2,I2,ry,q2⟩ =>
  thn (hr pins s2 σ H2 _ I2 q2) λws s3 ⟨ps,H3,I3,rel,q3⟩=>⟨(x,y):: ps,H3,I3,.cons ⟨rx,ry⟩ rel,q3⟩)
def Zpe(kvs more:KL):KL:=more.foldl (λacc kv=>Zdv acc kv.1 kv.2) kvs
def KV.merge:∀ {more:KL}{rs:List (Key×Value)}{kvs:KL}{vs:List (Key×Value)},KV more rs->KV kvs vs->KV (Zpe kvs more) (merged vs rs):=by
 intro more rs kvs vs r;unfold KV at r
 induction r generalizing kvs vs with
 | nil=>intro q;exact q
 | @cons p q ps qs h t ih =>
  intro r0;have e:KV (Zdv kvs p.1 p.2) (stored vs q.1 q.2):=by
   have:=r0.put p.1 h.2;rw[<- h.1];exact this
  exact ih e
theorem Zin:∀(more kvs:KL),(Zpe kvs more).length<=kvs.length + more.length
 | [],kvs=>by show kvs.length<=kvs.length + 0;omega
 | p :: r,kvs=>by
  have h1:=Zin r (Zdv kvs p.1 p.2);have h2:=Zh0 kvs p.1 p.2;show(Zpe (Zdv kvs p.1 p.2) r).length<=_;rw[Yv];omega
theorem Zmf{P:Program}{w:World}:∀ {kvs:KL}{ws:List (Value×Value)},VV (kvs.map λkv=>(kV kv.1,kv.2)) ws->∃ rs,Carries (Zbe P w) ws rs/\KV kvs rs
 | [],_,r=>by rw[List.map_nil]at r;cases r;exact⟨[],True.intro,.nil⟩
 | p :: kvs,_,r=>by
  rw[Yz]at r;cases r with
  | @cons a b as bs h t =>
   obtain⟨rs,c,q⟩:=Zmf (P:=P) (w:=w) t;obtain⟨b1,b2⟩:=b;exact⟨(p.1,b2):: rs,⟨Zuf h.1,Y,c⟩,.cons ⟨Y,h.2⟩ q⟩
def Z8u(trs:List (TE×TE)):TE:=λσ H Q=>∀ p,H p=none->Zvc trs σ (upd H p (.dK [])) λps H2=>H2 p=some (.dK [])/\∃ kvs:KL,ps=kvs.map (λkv=>(kV kv.1,kv.2))/\kvs.length<=15/\Q (.ref p) (upd H2 p (.dK (Zpe [] kvs)))
def Z3u{X:Cx}{pos:Pos}{keys:List (Option Expr)}{values:List Expr}{trs:List (TE×TE)}(h:PPs X pos keys values trs)(hall:keys.all (·.isSome)=true)(hl:keys.length=values.length)(h0:keys≠[])
  (h15:keys.length<=15):PE X (.Dict keys values pos) (Z8u trs):=by
 intro pins s σ H Q I q;have hn:=I.hok.fresh (Yg s.heap.objs.size);have I1:=I.laid (a:=s.heap.objs.size) (o:=.dK []) (h':=s.heap.push {cls:=.type "dict",data:=.dict #[] }) (t':=s.toks) (λ_ _ q=>Yd _ q) (Yg _) (Zs6 s.heap I.big);refine wpAny_Dict_walk (knd:=Zbe X.prog X.w) hall hl h0 h15 (thn (h pins _ σ _ _ I1 (q _ hn)) λws s2 ⟨ps,H2,I2,rel,e,kvs,ep,lk,q2⟩=>?_);subst ep;obtain⟨rs,c,rk⟩:=Zmf (P:=X.prog) (w:=X.w) rel;obtain⟨z,hd,vs0,r0,dd⟩:=Z73 I2.hok e;cases r0;refine⟨rs,c,dd,λh' dd' hs=>⟨.ref s.heap.objs.size,_,?_,Y,q2⟩⟩;have hz:(Zpe [] kvs).length<=sizeLine:=by
  have h1:=Zin kvs [];rw[List.length_nil]at h1;rw[sizeLine_eq];omega
 have he:∃ q,h'.get? s.heap.objs.size=some q:=let⟨q,_,_,hq,_⟩:=dd';⟨q,hq⟩;exact Zrf I2 (by rw[e];exact True.intro) hs he (Z2v hz hd (rk.merge .nil) dd')
structure M1(X:Cx)(o:Expr)(m:Str)(apos:Pos)(e:Expr)(cpos:Pos):Prop where
 base:attributeBase o m X.env (eval o X.env)=eval o X.env
 few:((backTo cpos (starEach [e] X.env)).all (λx=>!x.1)&&(backToKw cpos (keywordEach [] X.env)).all (λx=>x.1.isSome)
  && decide (([e]:List Expr).length + ([]:List Keyword).length + (if([]:List Keyword).isEmpty then 0 else 1)<30))=true
 line:(apos.endLine == cpos.line)=true
 trees:backTo cpos (starEach [e] X.env)=[(false,eval e X.env)]
structure M2(X:Cx)(o:Expr)(m:Str)(apos:Pos)(e f:Expr)(cpos:Pos):Prop where
 base:attributeBase o m X.env (eval o X.env)=eval o X.env
 few:((backTo cpos (starEach [e,f] X.env)).all (λx=>!x.1)&&(backToKw cpos (keywordEach [] X.env)).all (λx=>x.1.isSome)
  && decide (([e,f]:List Expr).length + ([]:List Keyword).length + (if([]:List Keyword).isEmpty then 0 else 1)<30))=true
 line:(apos.endLine == cpos.line)=true
 trees:backTo cpos (starEach [e,f] X.env)=[(false,eval e X.env),(false,eval f X.env)]
def IsD(H:Hp)(a:Addr):Prop:=(∃ kvs,Rd H a (.dK kvs))\/∃ kvs,Rd H a (.dT kvs)
def Zxx{X:Cx}{pins:PL}{σ:St}{H:Hp}{s:Shared}{a:Addr}(I:Inv X pins σ H s)(d:IsD H a):
  s.TypeIs (.ref a) "dict"/\(∀ b,Value.ref a=.ref b->∃ ob,s.heap.get? b=some ob/\ob.dict=none)/\(a == sysModules)=false:=by
 rcases d with⟨kvs,e⟩ | ⟨kvs,e⟩
 ·obtain⟨_,hd,vs,_,dd⟩:=Zpt I.hok e;refine⟨dd.typeIs,λb q=>?_,hd⟩;cases q;obtain⟨ob,_,_,h1,h2,_⟩:=dd;exact⟨ob,h1,h2.2.1⟩
 ·obtain⟨_,hd,xs,_,dd⟩:=Zuo I.hok e;refine⟨dd.typeIs,λb q=>?_,hd⟩;cases q;obtain⟨ob,_,_,h1,h2,_⟩:=dd;exact⟨ob,h1,h2.2.1⟩
section
variable {X:Cx}{pins:PL}{σ:St}{H:Hp}{s:Shared}{a:Addr}{y d:V}{u r:Value}{o:OV}{A:Around}{E:EV}
end
section
variable {X:Cx}{o e f:Expr}{apos cpos:Pos}{td ty tx:TE}
end
section
variable {X:Cx}{pins:PL}{σ:St}{H:Hp}{s:Shared}{a:Addr}{kvs:KL}{A:Around}{E:EV}
end
section
variable {X:Cx}{pins:PL}{σ:St}{H:Hp}{s:Shared}{a:Addr}{y:V}{u:Value}{A:Around}{E:EV}
end
end L2
namespace Att
open PySem PySem.W PySem.Calls PyProof.Rows
def Zk6{P:Params}{h:Heap}:∀(ns:List Int) (vs:LU),WellAll P h vs (ns.map WData.int)->IntsAre vs ns:=by
 intro ns
 induction ns with
 | nil =>
  intro vs w;rw[List.map_nil]at w;cases w;exact .nil
 | cons n ns ih =>
  intro vs w;rw[Yz]at w;cases w with
  | cons a b =>
   cases a;exact .cons _ _ (ih _ b)
def Zv7{l:OpenLaw}{n:Nat}(hn:l.most=some n){P:Params}{h:Heap}{args:List WData}{vals:LU}
  (hpre:l.row.toRowW.claim.pre args=true) (hwl:WellAll P h vals args):
  ∃ a vs ns,vals=[Value.ref a]/\args=[WData.list (ns.map WData.int)]/\h.get? a=some {cls:=.type "list",data:=.seq vs.toArray}/\IntsAre vs ns/\ns.length<=n:=by
 have hsh:WShape.hasAll [] args [.list .int]=true:=(pre_splitW hpre).1;have hc:l.pre.holds [] {args:=args}=true:=(pre_splitW hpre).2;obtain⟨d,r,rfl,h1,h2⟩:=hasAllW_cons hsh;obtain rfl:=hasAllW_nil h2;obtain⟨xs,rfl,h3⟩:=hasW_list h1;obtain⟨ns,rfl⟩:=items_int h3;have hlen:ns.length<=n:=by
  unfold OpenLaw.pre at hc;have h4:(WTm.not (.lt (.lit (.int (n:Int))) (.len (.arg 0)))).holds [] {args:=[.list (ns.map .int)] }=true:=by
   have h4:=(holds_andW hc).1;rw[hn]at h4;exact h4
  have h5:=condW_of h4 (w_not (w_lt w_lit (w_len_list (w_arg rfl))));rw[Ya]at h5;refine Nat.le_of_not_lt λq=>?_;have q':(n:Int)<((ns.length:Nat):Int):=by omega
  first
   | (rw[Jb q']at h5;exact absurd h5 (by decide))
   | (simp at h5;omega)
 cases hwl with
 | cons w1 w2 =>
  cases w2;cases w1 with
  | list ho hall=>exact⟨_,_,ns,Y,Y,ho,Zk6 ns _ hall,hlen⟩
def Zwl(l:OpenLaw)(args:List WData):l.row.toRowW.claim.post args (.bool true) args=true :=
 postW_of (r:=l.row.toRowW) (X:=(true == true))
  (show WShape.has [] (.bool true) .bool=true by first | rfl | decide | simp[WShape.has,WShape.arms,WShape.armsAll])
  (show(WTm.eq .res (.lit (.bool true))).value [] {args:=args,res:=some (.bool true),after:=args}=some (.bool (true == true))from w_eq_bool (w_res rfl) w_lit) rfl
def attach_call{l:OpenLaw}{n:Nat}{q:Program}{loose:LS}{XP:(Str->OU)->Heap->Prop}{YP:World->Heap->Prop}{d:DefRec}
  (hn:l.most=some n) (hdf:d.params.defaults=[])
  (call:∀(w:World) (s₀ s₁:Shared) (mg mb:Str->OU) (fa:Addr) (o:Obj) (pm cd doc:Value) (a:Addr) (vs:LU) (ns:List Int),
   Ground q loose [] XP w s₀ mg mb s₁.heap->YP w s₁.heap ->
   s₁.heap.get? fa=some o->o.data=.func (docDef d.name d.params d.body d.scope pm cd doc)->s₁.heap.CodeRec cd d.name->mg d.name=some (.ref fa) ->
   s₁.heap.get? a=some {cls:=.type "list",data:=.seq vs.toArray}->IntsAre vs ns->ns.length<=n->s₁.gens=#[] ->
   codeAny (model l.prog w) callerA (.call (.ref fa) ⟨[.ref a],[]⟩) (λr s'=>r=.ok (.ret (.bool true))/\OldK s₁.heap s'.heap/\s'.os=s₁.os/\AllBare s'.gens) s₁):
  WalkO q loose XP YP l.row.toRowW d [] (λf vs=>PySem.call f vs):=by
 intro w s₀ s₁ mg mb G Y fa o pm cd doc dV kV ho hd hcd hD hmg hg args vals as hpre hlay hrd hwl hlo;obtain rfl:dV=.none:=Dflts.none hD hdf;obtain rfl:kV=.none:=Dflts.noKw hD;obtain⟨a,vs,ns,rfl,rfl,hobj,hints,hlen⟩:=Zv7 hn hpre hwl;refine enter_call (codeAny_mono (call w s₀ s₁ mg mb fa o pm cd doc a vs ns G Y ho (fd_plain hd) hcd hmg hobj hints hlen hg) λr s' hq=>?_);obtain⟨rfl,h2,h3,h4⟩:=hq;exact⟨.inl ⟨.bool true,.bool true,[],Y,λ_=>rfl,.bool true,Zwl l _,λ_=>⟨List.Pairwise.nil,λ_ hm=>(nomatch hm)⟩⟩,h2,h3,h4⟩
section
variable {prog:Program}{w:World}{A:Around}{E:EV}{s:Shared}{K:Frag}
end
end Att
namespace L2
open PySem PySem.Spec PyProof.Rows
theorem Znz:∀ {vs:LU}{ns:List Int},IntsAre vs ns->Zb2 (ns.map V.int) vs
 | _,_,.nil=>.nil
 | _,_,.cons n t h=>.cons ⟨t,Y⟩ (Znz h)
def Yau(H:Hp):Prop:=∀ b,H b=none\/∃ o xs,H b=some (.frz o (.lst xs))
def Z0z{P:Program}{w:World}{K:Fg}{mg mb:Str->OU}{CX:CXT}{k:Nat}{x:Str}{sp:Sp}{s₁:Shared}{vs:LU}{ns:List Int}
  (KX:K.In s₁.heap) (hns:s₁.heap.Ns mainGlobals mg) (hb:s₁.heap.Ns builtinsNs mb) (hbb:∀ x:Str,x≠"__name__"->mb x=bootBuiltins x) (hlim:s₁.heap.NoLimit) (hg:s₁.gens=#[])
  (ha:s₁.heap.get? a=some {cls:=.type "list",data:=.seq vs.toArray}) (hi:IntsAre vs ns) (hl:ns.length<=sizeLine) (hr:Zci k callerA)
  (F:∀ base:Heap,K.In base->base.Ns mainGlobals mg->Zaq P w K mg base CX k fa fd [x] sp) (hbind:∀(s:Shared) (u:Value),BindsTo s fd ⟨[u],[]⟩ [(x,u)])
  (hsp:∀ H:Hp,Yau H->SqL K H a (ns.map V.int)->sp [.ref a] H (λv _=>v=.bl true) λ_ _ _=>False)
  (hCX:∀ H e s',CX [] H s₁ (λ_ _ _=>False) e s'->False):
  codeAny (model P w) callerA (.call (.ref fa) ⟨[.ref a],[]⟩) (λr s'=>r=.ok (.ret (.bool true))/\OldK s₁.heap s'.heap/\s'.os=s₁.os/\AllBare s'.gens) s₁:=by
 have rv:=Znz hi;have lenV:=hi.length;have core:∀ H:Hp,Yau H->SqL K H a (ns.map V.int)->HOk P w H s₁.heap->(∀ b,H b≠none->b=a)->(H a≠none->K.lookup a=none) ->
   codeAny (model P w) callerA (.call (.ref fa) ⟨[.ref a],[]⟩) (λr s'=>r=.ok (.ret (.bool true))/\OldK s₁.heap s'.heap/\s'.os=s₁.os/\AllBare s'.gens) s₁:=by
  intro H hO hS hok hA hK;have base_of:∀ {b:Addr} {o:Obj},s₁.heap.get? b=some o->H b=none->(Z09 s₁.heap H).get? b=some o:=λe n=>Z08 e n;have noA:∀ {b:Addr} {o:Obj} {es:Array DictEntry} {ep:Nat},s₁.heap.get? b=some o->o.data=.dict es ep->H b=none:=λ{b o es ep} e d=>by
   cases q:H b with
   | none=>rfl
   | some u =>
    have e':b=a:=hA b (by rw[q];simp);subst e';rw[ha]at e;cases e;have d':Data.seq vs.toArray _=Data.dict es ep:=d;cases d'
  have nsK:∀ {b:Addr} {m:Str->OU},s₁.heap.Ns b m->(Z09 s₁.heap H).Ns b m:=λ{b m} ⟨o,es,ep,e,d,r⟩=>⟨o,es,ep,base_of e (noA e d),d,r⟩;have hKb:K.In (Z09 s₁.heap H):=λb o e=>base_of (KX b o e) (by
   cases q:H b with
   | none=>rfl
   | some u =>
    have e':b=a:=hA b (by rw[q];simp);subst e';rw[hK (by rw[q];simp)]at e;cases e)
  have hM:Mod K mg (Z09 s₁.heap H):=⟨hKb,nsK hns,⟨mb,nsK hb,hbb⟩,let⟨mc,h1,h2⟩:=hlim;⟨mc,nsK h1,h2⟩⟩;have e0:Env0 P w K mg (Z09 s₁.heap H) callerA [] s₁ H:=⟨Y,hM,λb o e=>Z35 e,Nat.le_of_eq (Zx0 _ _),trivial,λb hb=>absurd (show b∈([]:List Addr)from hb) (by simp),hok,.of_eq hg⟩;refine codeAny_mono ((F _ hKb (nsK hns)).run callerA [] s₁ H ⟨[.ref a],[]⟩ [.ref a] [.ref a] _ _ hr e0 (hbind s₁ (.ref a)) (.cons rfl .nil) (hsp H hO hS)) λr s' h=>?_;cases r with
  | error e=>exact(hCX H e s' h).elim
  | ok fl =>
   cases fl with
   | next=>exact False.elim h
   | brk=>exact False.elim h
   | cont=>exact False.elim h
   | ret u =>
    obtain⟨v,H',os,bare,un,hok',r',q⟩:=h;have q':v=.bl true:=q;subst q';obtain rfl:u=Value.bool true:=r';refine⟨Y,OldK.of_keep λb o e=>?_,os,bare⟩;cases q:H b with
    | none=>exact un.keep b o e q (by intro z;exact absurd (show b∈([]:List Addr)from z) (by simp)) (by simp)
    | some u =>
     rcases hO b with z | ⟨ob,xs,z⟩
     ·rw[q]at z;cases z
     ·have z2:=un.frzs b ob _ z;obtain⟨e1,_⟩:=hok b _ z;obtain⟨e2,_⟩:=hok' b _ z2;rw[e]at e1;cases e1;exact e2
 cases hk:K.lookup a with
 | some o =>
  have e:=KX a o hk;rw[ha]at e;cases e;refine core (λ_=>none) (λ_=>.inl rfl) (.inr ⟨_,vs.toArray,_,hk,Y,Y,Y,by rw[Yn,lenV];exact hl,by simpa using rv⟩) (λb u z=>by have z':(none:Option HO)=some u:=z;cases z') (λb z=>absurd rfl z) λz=>absurd rfl z
 | none =>
  refine core (λb=>if b=a then some (.frz {cls:=.type "list",data:=.seq vs.toArray} (.lst (ns.map V.int)))else none) (λb=>?_) (.inl (.inr ⟨{cls:=.type "list",data:=.seq vs.toArray},if_pos rfl⟩)) (λb u z=>?_) (λb z=>?_) λ_=>hk
  ·by_cases hb:b=a
   ·exact .inr ⟨_,_,if_pos hb⟩
   ·exact .inl (if_neg hb)
  ·by_cases hb:b=a
   ·have z':=(if_pos hb).symm.trans z;cases z';subst hb;exact⟨ha,by rw[Ya];exact hl,vs,_,rv,ha⟩
   ·have z':=(if_neg hb).symm.trans z;cases z'
  ·by_cases hb:b=a
   ·exact hb
   ·exact absurd (if_neg hb) z
def walk_of{l:W.OpenLaw}{n k:Nat}{q:Program}{loose:LS}{XP:(Str->OU)->Heap->Prop}{YP:World->Heap->Prop}{d:DefRec}{K:Params->Fg}{CX:World->CXT}{sp:World->Sp}{x:Str}
  (hn:l.most=some n) (hn2:n<=sizeLine) (hdf:d.params.defaults=[]) (hr:Zci k callerA)
  (hY:∀(w:World) (h:Heap),YP w h->(K w.params).In h)
  (F:∀(w:World) (mg:Str->OU) (fa:Addr) (h:Heap),(K w.params).In h->h.Ns mainGlobals mg->mg d.name=some (.ref fa) ->
   ∃ fd:FuncData,(∀(s:Shared) (u:Value),BindsTo s fd ⟨[u],[]⟩ [(x,u)]) /\
    ∀ base:Heap,(K w.params).In base->base.Ns mainGlobals mg->Zaq l.prog w (K w.params) mg base (CX w) k fa fd [x] (sp w))
  (hsp:∀(w:World) (H:Hp) (a:Addr) (ns:List Int),ns.length<=n->Yau H->SqL (K w.params) H a (ns.map V.int)->sp w [.ref a] H (λv _=>v=.bl true) λ_ _ _=>False)
  (hCX:∀(w:World) (H:Hp) (s:Shared) (e:Value) (s':Shared),CX w [] H s (λ_ _ _=>False) e s'->False):
  W.WalkO q loose XP YP l.row.toRowW d [] (λf vs=>PySem.call f vs):=by
 refine Att.attach_call hn hdf λw s₀ s₁ mg mb fa o pm cd doc a vs ns G Y ho hd hcd hmg hobj hints hlen hg=>?_;have KX:=hY w _ Y;obtain⟨fd,hb,hF⟩:=F w mg fa _ KX G.T.g hmg;exact Z0z KX G.T.g G.T.b G.T.builtins G.T.nolimit hg hobj hints (Yv1 hlen hn2) hr hF hb (λH hO hS=>hsp w H a ns hlen hO hS) λH e s'=>hCX w H s₁ e s'
def Zc2(s:Stmt)(j:Nat):Stmt:=match s with
 | .ClassDef _ _ _ body _ _ _ _ _ _ _=>body.getD j (.Pass ⟨0,0,0,0⟩)
 | _=>.Pass ⟨0,0,0,0⟩
def Zda(s:Stmt):Arguments:=match s with
 | .FunctionDef _ a _ _ _ _ _ _ _ _=>a
 | _=>{posonlyargs:=[],args:=[],vararg:=none,kwonlyargs:=[],kw_defaults:=[],kwarg:=none,defaults:=[] }
def Zbo(s:Stmt):List Stmt:=match s with
 | .FunctionDef _ _ b _ _ _ _ _ _ _=>b
 | _=>[]
def Zad(s:Stmt):Scope:=match s with
 | .FunctionDef _ _ _ _ _ _ sc _ _ _=>sc
 | _=>{kind:=.function,names:=[],isGenerator:=false,isCoroutine:=false}
abbrev CX0:CXT:=λ_ _ _ _ _ _=>False
abbrev E0:XK:=λ_ _ _=>False
def Zct{X:Cx}:Zlf CX0 X E0:=λ_ _ _ _ _ _ _ h=>h.elim
structure Fun(K:Fg)(x qual:Str)(st:Stmt)(f:Addr)(fd:FuncData):Prop where
 ex:∃(oc:Value) (od:Option Addr) (kV doc pm:Value) (an:Option Addr) (cdv ct:Value) (osl:Array (OU)),
  fd=W.fnOf x qual (Zda st) (Zbo st) (Zad st) .none kV doc pm an cdv ct/\K.lookup f=some ⟨oc,od,.func fd,osl⟩/\W.codeIn K cdv qual=true
 kp:W.keepIn K (.ref f)=true
section
variable {P:Program}{w:World}{K:Fg}{mg:Str->OU}{base:Heap}
def Fun.ok{x qual:Str}{st:Stmt}{N ps:LS}{k:Nat}{sp:Sp}(F:Fun K x qual st f fd)(S:Zah N ps (Zad st))(len:∀ vs H Q E,sp vs H Q E->vs.length=ps.length)
  (hbody:∀(cdv:Value) (A:Around) (outer:List Env) (s:Shared) (H:Hp) (vs:LV) (Q:VK) (E:XK),Zci k (A.deeper (envOfC qual (Zad st) s.heap.objs.size f cdv))->sp vs H Q E ->
   ∃ t,PSs (Z5o CX0 P w K mg base N qual (Zad st) f cdv A outer s H E).nox (Zbo st) t/\t {nx:=λ_ H'=>Q .non H',rt:=Q} (start N vs) H):Zaq P w K mg base CX0 (k + 1) f fd ps sp:=by
 obtain⟨oc,od,kV,doc,pm,an,cdv,ct,osl,rfl,lk,hcd⟩:=F.ex;refine Yaj lk hcd S len λA outer s H vs Q E hr hsp=>?_;obtain⟨t,h,q⟩:=hbody cdv A outer s H vs Q E hr hsp;exact⟨t,h.nox,q⟩
def Fun.binds{x qual:Str}{st:Stmt}{ps:LS}(F:Fun K x qual st f fd)
  (h:∀(kV doc pm:Value) (an:Option Addr) (cdv ct:Value) (us:LU),us.length=ps.length->bindArgs (W.fnOf x qual (Zda st) (Zbo st) (Zad st) .none kV doc pm an cdv ct) ⟨us,[]⟩=pure (ps.zip us)):Zef K fd ps []:=by
 obtain⟨oc,od,kV,doc,pm,an,cdv,ct,osl,rfl,lk,hcd⟩:=F.ex;exact .all (h kV doc pm an cdv ct)
def Z2q{x qual:Str}{st:Stmt}{f:Addr}{oc:Value}{od an:Option Addr}{osl:Array (OU)}{kV doc pm cdv ct:Value}(l:K.lookup f=some ⟨oc,od,.func (W.fnOf x qual (Zda st) (Zbo st) (Zad st) .none kV doc pm an cdv ct),osl⟩)
  (c:W.codeIn K cdv qual=true) (k:W.keepIn K (.ref f)=true):Fun K x qual st f (W.fnOf x qual (Zda st) (Zbo st) (Zad st) .none kV doc pm an cdv ct):=⟨⟨oc,od,kV,doc,pm,an,cdv,ct,osl,Y,l,c⟩,k⟩
end
def Zgx{A:Around}{k:Nat}(hr:Zci k A):A.units + 1<cLine:=Yy5 (Nat.add_le_add_left (by decide:1<=64) _) hr.units
section
variable {X:Cx}
def pv(i:Nat){x:Str}{pos:Pos}(hN:X.N[i]?=some x:=by rfl)(hv:Vis X.env.scope x:=by first | exact Or.inl rfl | exact Or.inr (Or.inl rfl) | exact Or.inr (Or.inr rfl))(hd:(x == ("__debug__":Str))=false:=by decide)
  (hcd:(x == ("__classdict__":Str))=false:=by decide):PE X (.Name x pos) (Z8l i):=Z6s hN hv hd hcd
end
def Zcg{A B:Prop}(h:B):if false=true then A else B:=by
 rw[if_neg Yq];exact h
def Ze5{A B:Prop}(h:A):if true=true then A else B:=by
 rw[if_pos rfl];exact h
def Ze1{c A B:Prop}[Decidable c](h1:c->A)(h2:¬ c->B):if c then A else B:=by
 by_cases h:c
 ·rw[if_pos h];exact h1 h
 ·rw[if_neg h];exact h2 h
def Zaj(H H':Hp):Prop:=∀ b o,H b=some o->H' b=some o
def Zaj.refl(H:Hp):Zaj H H:=λ_ _ h=>h
def Zaj.trans{H H1 H2:Hp}(a:Zaj H H1)(b:Zaj H1 H2):Zaj H H2:=λc o h=>b c o (a c o h)
def Zaj.free{H H':Hp}(e:Zaj H H'){l:Addr}(h:H' l=Option.none):H l=Option.none:=by
 cases q:H l with
 | none=>rfl
 | some o =>
  rw[e l o q]at h;cases h
def Zaj.seq{K:Fg}{H H':Hp}{a:Addr}{xs:LV}(e:Zaj H H')(h:SqL K H a xs):SqL K H' a xs:=by
 rcases h with(h | ⟨o,h⟩) | h
 ·exact .inl (.inl (e _ _ h))
 ·exact .inl (.inr ⟨o,e _ _ h⟩)
 ·exact .inr h
section
variable {X:Cx}
end
section
variable {κ:Type}[DecidableEq κ]
def Zzi{kvs:List (κ×V)}{k:κ}(h:Zf0 kvs k=none):¬ k∈kvs.map (·.1):=by
 intro m;obtain⟨p,hp,e⟩:=Yh.mp m;have q:(kvs.any λkv=>decide (kv.1=k))=true:=Ym3.mpr ⟨p,hp,Jb e⟩;rw[Zf1,h]at q;exact absurd q (by simp)
def Zu5{kvs:List (κ×V)}{k:κ}{v:V}(h:Zf0 kvs k=some v):k∈kvs.map (·.1):=by
 have q:(kvs.any λkv=>decide (kv.1=k))=true:=by
  rw[Zf1,h]
  all_goals rfl
 obtain⟨p,hp,e⟩:=Ym3.mp q;exact Yh.mpr ⟨p,hp,Je e⟩
end
end L2
set_option maxHeartbeats 4000000
namespace HT
open PySem PyProof.Rows
open PySem.SeqAt
open PySem.AutoSeq1 (wpAny_loadPart')
open PySem.MeetsSeq PySem.MeetsSeq2 PySem.MeetsSeq3
section
variable {prog:Program}{w:World}{A:Around}{E:EV}{s:Shared}
end
end HT
namespace L2
open PySem PySem.Spec PyProof.Rows
structure Zqf(J:It)(xs:LV)(Ok:Hp->Prop):Prop where
 go:∀(i:Nat) (x:V) (H:Hp),Ok H->xs[i]?=some x->J.go i H
 yld:∀(i:Nat) (x:V) (H:Hp) (y:V) (H':Hp),Ok H->xs[i]?=some x->J.yld i H y H'->y=x/\H'=H
 stop:∀(H:Hp),Ok H->J.stop xs.length H
def Za8{K:Fg}{a:Addr}{xs:LV}:Zqf (Itl K a) xs (λH=>SqL K H a xs) where
 go:=λi x H ok hx=>⟨xs,x,ok,hx⟩
 yld:=λi x H y H' ok hx h=>by
  obtain⟨e,h⟩:=h;have q:=h xs ok;rw[hx]at q;exact⟨(Ym q).symm,e⟩
 stop:=λH ok=>⟨xs,ok,Yg _⟩
def Zc9{K:Fg}{a:Addr}{xs:LV}:Zqf (Itt K a) xs (λH=>SqT K H a xs) where
 go:=λi x H ok hx=>⟨xs,x,ok,hx⟩
 yld:=λi x H y H' ok hx h=>by
  obtain⟨e,h⟩:=h;have q:=h xs ok;rw[hx]at q;exact⟨(Ym q).symm,e⟩
 stop:=λH ok=>⟨xs,ok,Yg _⟩
def Zdo(lo:Int)(n:Nat):LV:=(List.range n).map λ(k:Nat)=>V.int (lo + (k:Int))
def Za3(lo:Int)(n:Nat):(Zdo lo n).length=n:=by unfold Zdo;rw[Ya,List.length_range]
def Za7{lo:Int}{n i:Nat}{x:V}(h:(Zdo lo n)[i]?=some x):i<n/\x=V.int (lo + (i:Int)):=by
 have hi:i<n:=by
  have:=(Yi.mp h).1
  rwa [Za3]at this
 refine⟨hi,?_⟩;unfold Zdo at h;rw[Yj,List.getElem?_range hi]at h;exact(Ym h).symm
def Zbq{lo:Int}{n:Nat}:Zqf (Itr lo n) (Zdo lo n) (λ_=>True) where
 go:=λi x H _ hx=>(Za7 hx).1
 yld:=λi x H y H' _ hx h=>by
  obtain⟨e,h⟩:=h;exact⟨h.trans (Za7 hx).2.symm,e⟩
 stop:=λH _=>by
  show n<=(Zdo lo n).length;rw[Za3];exact Yg _
def Za1{J:It}{xs:LV}{Ok:Hp->Prop}(R:Zqf J xs Ok){g:TG}{tb:TS}{D:Zza}{σ:St}{H:Hp}(Pv:NW)(h0:Pv 0 σ H)(hl:∀ i σ H,i<=xs.length->Pv i σ H->Ok H)
  (hs:∀ i x σ H,xs[i]?=some x->Pv i σ H->g x σ H λσ2 H2=>tb {D with nx:=Pv (i + 1),ct:=Pv (i + 1),bk:=D.nx} σ2 H2) (hd:∀ σ H,Pv xs.length σ H->D.nx σ H):
  ∃ W:Nat->Nat->St->Hp->Prop,(∃ m,W 0 m σ H)/\∀ i m σ H,W i m σ H ->
   (J.stop i H/\D.nx σ H)\/(J.go i H/\∃ N:SW,(∀ σ' H',N σ' H'->∃ m',m'<m/\W (i + 1) m' σ' H')/\∀ x H',J.yld i H x H'->g x σ H' λσ2 H2=>tb {D with nx:=N,ct:=N,bk:=D.nx} σ2 H2):=by
 refine⟨λi m σ H=>m=xs.length - i/\i<=xs.length/\Pv i σ H,⟨xs.length,by simp,Yj1 _,h0⟩,?_⟩;rintro i m σ H ⟨rfl,hi,p⟩;have q:=hl i σ H hi p;by_cases hlt:i<xs.length
 ·have hx:xs[i]?=some xs[i]:=by simp[hlt]
  refine .inr ⟨R.go i _ H q hx,Pv (i + 1),λσ' H' p'=>⟨xs.length - (i + 1),W,Y,hlt,p'⟩,λx H' y=>?_⟩;obtain⟨e1,e2⟩:=R.yld i _ H x H' q hx y;rw[e2];exact hs i x σ H (by rw[e1];exact hx) p
 ·have e:i=xs.length:=by omega
  subst e;exact .inl ⟨R.stop H q,hd σ H p⟩
def Its(x:Str):It:=⟨λi _=>i<x.cps.size,λi H v H'=>H'=H/\∃ c,x.cps[i]?=some c/\v=.str ⟨#[c]⟩,λi _=>x.cps.size<=i⟩
def Zb9(x:Str):LV:=x.cps.toList.map λc=>V.str ⟨#[c]⟩
def Zr8{x:Str}:Zqf (Its x) (Zb9 x) (λ_=>True) where
 go:=λi y H _ hx=>by
  have:=(Yi.mp hx).1;unfold Zb9 at this;rw[Ya]at this;show i<x.cps.size;simpa using this
 yld:=λi y H z H' _ hx h=>by
  obtain⟨e,c,hc,hz⟩:=h;refine⟨?_,e⟩;unfold Zb9 at hx;rw[Yj,Yn4,hc]at hx;rw[hz];exact Ym hx
 stop:=λH _=>by
  show x.cps.size<=(Zb9 x).length;unfold Zb9;simp
def Zrw{P:Program}{w:World}{K:Fg}{tg:Expr}(x:Str)(t:Tok)(it:Addr)(ty:String)(hty:ty="str_ascii_iterator"\/ty="str_iterator"):
  Zqe P w K tg (Its x) [it] it (λi h=>h.IsStrIter it ty x t i) where
 mem:=by simp
 obj:=λi h st b hb=>by
  have e:b=it:=by simpa using hb
  subst e;obtain⟨o,e,c,d⟩:=st;exact⟨o,e,λv z=>by rw[d]at z;cases z⟩
 keep:=λi h h' st k=>by
  obtain⟨o,ho,r⟩:=st;exact⟨o,k it (by simp) o ho,r⟩
 item:=by
  intro X hP hw hK hc i pins s σ H E I hf st hg;subst hP hw hK;obtain⟨f0,f1,f2,f3,f4,f5⟩:=hf it (by simp);have hi:i<x.cps.size:=hg;have hx:x.cps[i]?=some x.cps[i]:=by simp[hi]
  have fin:∀ h':Heap,h'.IsStrIter it ty x t (i + 1)->Heap.SameBut it s.heap h'->∃ u,some (Value.str ⟨#[x.cps[i]]⟩ s.toks)=some u /\
    wpAny (model X.prog X.w) X.A (letOwnedTupleGo tg (.ref it) u) (λ_ s2=>∃ y H',Inv X pins σ H' s2/\Zcm y u/\(Its x).yld i H y H'/\s2.heap.IsStrIter it ty x t (i + 1)/\∀ b∈[it],H' b=none) E {s with heap:=h',toks:=s.toks + 1}:=λh' st' sb=>by
   have I1:Inv X pins σ H {s with heap:=h',toks:=s.toks + 1}:=I.turned (λb o hb e=>(sb.2 b hb).trans e) f0 f1 f3 f4 f5;obtain⟨o,e,c,d⟩:=id st';refine⟨Z,Zui (s:={s with heap:=h',toks:=s.toks + 1}) e c d ?_ ⟨.str ⟨#[x.cps[i]]⟩,H,I1,⟨Z⟩,⟨Y,_,hx,Y⟩,st',λb hb=>(hf b hb).1⟩⟩
   rcases hty with rfl | rfl <;> decide
  rcases hty with rfl | rfl
  ·exact wpAny_pyNext_ascii_item st hx λh' st' sb=>fin h' st' sb
  ·exact wpAny_pyNext_wide_item st hx λh' st' sb=>fin h' st' sb
 done:=by
  intro X hP hw hK hc i pins s σ H E I hf st hg;subst hP hw hK;obtain⟨f0,f1,f2,f3,f4,f5⟩:=hf it (by simp);have hi:x.cps.size<=i:=hg;have hx:x.cps[i]?=none:=by simp[hi]
  rcases hty with rfl | rfl
  ·exact wpAny_pyNext_ascii_end (I.ok.hd hc) st hx λh' eb=>⟨Y,I.turned (t':=s.toks) (λb o hb e=>eb b o hb e) f0 f1 f3 f4 f5⟩
  ·exact wpAny_pyNext_wide_end (I.ok.hd hc) st hx λh' eb=>⟨Y,I.turned (t':=s.toks) (λb o hb e=>eb b o hb e) f0 f1 f3 f4 f5⟩
 self:=λ_ _ _ _ _ st h=>by
  rcases hty with rfl | rfl
  ·exact wpAny_pyIter_striter_ascii st h
  ·exact wpAny_pyIter_striter_wide st h
section
variable {X:Cx}{tg:Expr}
def Yd4(tl:TE):TI:=λσ H R=>tl σ H λx H1=>∃ z,x=.str z/\R (Its z) H1
def Z2k{l:Expr}{tl:TE}(hl:PE X l tl):PI X tg l (Yd4 tl):=by
 intro pins s σ H R I h;refine thn (hl pins s σ H _ I h) λv s1 ⟨x,H1,I1,r1,q1⟩=>?_;obtain⟨z,e,q⟩:=q1;subst e;obtain⟨t,rfl⟩:=r1;have fp:∀ b∈[s1.heap.objs.size],Zrq X pins H1 b:=λb hb=>by
  have e:b=s1.heap.objs.size:=by simpa using hb
  subst e;exact I1.fpOk (Yg _) (I1.hok.fresh (Yg _))
 cases ha:z.cps.all (·<128)with
 | false =>
  refine wpAny_pyIter_wide ha ?_;exact⟨s1.heap.objs.size,[s1.heap.objs.size],_,_,H1,Y,I1.kept (t':=s1.toks) λb o e=>Yd _ e,Zrw z t _ "str_iterator" (.inr rfl),⟨_,Yp _ rfl,Y,Y⟩,fp,q⟩
 | true =>
  refine wpAny_pyIter_ascii ha ?_;exact⟨s1.heap.objs.size,[s1.heap.objs.size],_,_,H1,Y,I1.kept (t':=s1.toks) λb o e=>Yd _ e,Zrw z t _ "str_ascii_iterator" (.inl rfl),⟨_,Yp _ rfl,Y,Y⟩,fp,q⟩
end
def Zpx(env:Env):List (Str×NameKind)->List (Str×Addr)->List (Str×Addr)
 | [],acc=>acc
 | (n,k):: r,acc=>if(k == NameKind.free)=true then Zpx env r ((n,(env.cells.lookup n).getD 0):: acc)else Zpx env r acc
def Zrh{env:Env}{n:Str}{c:Addr}(h:env.cells.lookup n=some c):cellOf env n=pure c:=by
 unfold cellOf;rw[h]
def Zir{scope:Scope}{env:Env}(h:∀ y∈scope.names,y.2=.free->∃ c,env.cells.lookup y.1=some c):closureFor scope env=pure (Zpx env scope.names []):=by
 have key:∀(l:List (Str×NameKind)) (acc:List (Str×Addr)),(∀ y∈l,y.2=.free->∃ c,env.cells.lookup y.1=some c) ->
   (forIn l acc λ(x:Str×NameKind) (r:List (Str×Addr))=>(match x with
    | (name,kind)=>if(kind == NameKind.free)=true then(do let a <- cellOf env name;pure (ForInStep.yield ((name,a):: r)))else pure (ForInStep.yield r):Sem (ForInStep (List (Str×Addr)))))=pure (Zpx env l acc):=by
  intro l
  induction l with
  | nil=>intro acc _;rfl
  | cons y r ih =>
   intro acc hy;obtain⟨n,k⟩:=y;have ih':=λacc=>ih acc λz hz=>hy z (Ys _ hz);rw[Yr5];by_cases hk:(k == NameKind.free)=true
   ·obtain⟨c,hc⟩:=hy (n,k) Yh1 (by simpa using hk);have hc:env.cells.lookup n=some c:=hc;simp only[hk,if_true,Zrh hc];unfold Zpx;rw[if_pos hk,hc];exact ih' _
   ·simp only[hk];unfold Zpx;rw[if_neg hk];exact ih' _
 unfold closureFor;have q:=key scope.names [] h;show((forIn scope.names [] _:Sem (List (Str×Addr)))>>=λr=>pure r)=_
 first
  | (rw[show(forIn scope.names [] _:Sem (List (Str×Addr)))=_ from q];rfl)
  | (refine(congrArg (λm=>m>>=λr=>pure r) q).trans ?_;rfl)
theorem Zh2{env:Env}:∀(l:List (Str×NameKind)) (acc:List (Str×Addr)) (x:Str) (c:Addr),(∀ y∈l,y.2=.free->∃ c,env.cells.lookup y.1=some c) ->
  (∀ x c,acc.lookup x=some c->env.cells.lookup x=some c)->(Zpx env l acc).lookup x=some c->env.cells.lookup x=some c
 | [],acc,x,c,_,ha,h=>ha x c h
 | (n,k):: r,acc,x,c,hy,ha,h=>by
  have hr:∀ y∈r,y.2=.free->∃ c,env.cells.lookup y.1=some c:=λy hy'=>hy y (Ys _ hy');unfold Zpx at h;by_cases hk:(k == NameKind.free)=true
  ·rw[if_pos hk]at h;refine Zh2 r _ x c hr (λz d hz=>?_) h;obtain⟨c',hc'⟩:=hy (n,k) Yh1 (by simpa using hk);have hc':env.cells.lookup n=some c':=hc';rw[Yf2]at hz;by_cases e:(z == n)=true
   ·simp only[e]at hz;have e':z=n:=by simpa using e
    rw[e',hc'];rw[hc']at hz;exact hz
   ·have e':(z == n)=false:=by simpa using e
    simp only[e']at hz;exact ha z d hz
  ·rw[if_neg hk]at h;exact Zh2 r acc x c hr ha h
theorem Zji{env:Env}:∀(l:List (Str×NameKind)) (acc:List (Str×Addr)) (x:Str),(acc.lookup x).isSome=true->((Zpx env l acc).lookup x).isSome=true
 | [],acc,x,h=>h
 | (n,k):: r,acc,x,h=>by
  unfold Zpx;by_cases hk:(k == NameKind.free)=true
  ·rw[if_pos hk];refine Zji r _ x ?_;rw[Yf2];cases e:(x == n)with
   | true=>rfl
   | false=>exact h
  ·rw[if_neg hk];exact Zji r acc x h
theorem Znm{env:Env}:∀(l:List (Str×NameKind)) (acc:List (Str×Addr)) (x:Str),(x,NameKind.free)∈l->((Zpx env l acc).lookup x).isSome=true
 | [],acc,x,h=>nomatch h
 | (n,k):: r,acc,x,h=>by
  unfold Zpx
  rcases Yt.mp h with e | h
  ·injection e with e1 e2;subst e1;subst e2;rw[if_pos (by decide)];refine Zji r _ x ?_;rw[Yf2];simp
  ·by_cases hk:(k == NameKind.free)=true
   ·rw[if_pos hk];exact Znm r _ x h
   ·rw[if_neg hk];exact Znm r _ x h
theorem Zez{env:Env}:∀ {names:List (Str×NameKind)}{x:Str},names.lookup x=some .free ->
  (names.map λ(n,k)=>if(k == NameKind.free&&env.scope.kind == .function&&env.kindOf n == some .cell)then(n,NameKind.cell)else(n,k)).lookup x=some .cell \/
  (names.map λ(n,k)=>if(k == NameKind.free&&env.scope.kind == .function&&env.kindOf n == some .cell)then(n,NameKind.cell)else(n,k)).lookup x=some .free
 | [],_,h=>by simp at h
 | (n,k):: r,x,h=>by
  have ih:=@Zez env r x;rw[Yz];show List.lookup x ((if(k == NameKind.free&&env.scope.kind == .function&&env.kindOf n == some .cell)=true then(n,NameKind.cell)else(n,k)):: _)=_\/List.lookup x ((if(k == NameKind.free&&env.scope.kind == .function&&env.kindOf n == some .cell)=true then(n,NameKind.cell)else(n,k)):: _)=_;cases hx:x == n with
  | true =>
   simp only[Yf2,hx]at h;cases h;by_cases hc:(NameKind.free == NameKind.free&&env.scope.kind == .function&&env.kindOf n == some .cell)=true
   ·rw[if_pos hc];simp only[Yf2,hx];exact .inl trivial
   ·rw[if_neg hc];simp only[Yf2,hx];exact .inr trivial
  | false =>
   simp only[Yf2,hx]at h;by_cases hc:(k == NameKind.free&&env.scope.kind == .function&&env.kindOf n == some .cell)=true
   ·rw[if_pos hc];simp only[Yf2,hx];exact ih h
   ·rw[if_neg hc];simp only[Yf2,hx];exact ih h
theorem Zfn{env:Env}:∀ {names:List (Str×NameKind)}{x:Str},
  ((names.map λ(n,k)=>if(k == NameKind.free&&env.scope.kind == .function&&env.kindOf n == some .cell)then(n,NameKind.cell)else(n,k)).lookup x=some .cell \/
  (names.map λ(n,k)=>if(k == NameKind.free&&env.scope.kind == .function&&env.kindOf n == some .cell)then(n,NameKind.cell)else(n,k)).lookup x=some .free) ->
  names.lookup x=some .free\/names.lookup x=some .cell
 | [],_,h=>by simp at h
 | (n,k):: r,x,h=>by
  have ih:=@Zfn env r x;rw[Yz]at h
  change List.lookup x ((if(k == NameKind.free&&env.scope.kind == .function&&env.kindOf n == some .cell)=true then(n,NameKind.cell)else(n,k)):: _)=_\/List.lookup x ((if(k == NameKind.free&&env.scope.kind == .function&&env.kindOf n == some .cell)=true then(n,NameKind.cell)else(n,k)):: _)=_ at h
  cases hx:x == n with
  | true =>
   simp only[Yf2,hx];by_cases hc:(k == NameKind.free&&env.scope.kind == .function&&env.kindOf n == some .cell)=true
   ·left;have:(k == NameKind.free)=true:=by
     cases hk:(k == NameKind.free)with
     | true=>rfl
     | false=>rw[hk]at hc;simp at hc
    have:k=NameKind.free:=by simpa using this
    rw[this]
   ·rw[if_neg hc]at h;simp only[Yf2,hx]at h
    rcases h with h | h
    ·exact .inr h
    ·exact .inl h
  | false =>
   simp only[Yf2,hx];apply ih;by_cases hc:(k == NameKind.free&&env.scope.kind == .function&&env.kindOf n == some .cell)=true
   ·rw[if_pos hc]at h;simp only[Yf2,hx]at h;exact h
   ·rw[if_neg hc]at h;simp only[Yf2,hx]at h;exact h
abbrev Zdl(X:Cx)(scope:Scope)(N:LS)(C:Addr)(s:Shared)(H:Hp)(fp:List Addr):Cx :=
 {X with N:=N,s₀:=s,H₀:=H,env:=compEnvC scope (Zpx X.env scope.names []) C X.env,outer:=X.stack,ex:=fp,fn:=λ_=>false,pn:=[],xe:=λ_ _=>False}
def sgC(n:Nat)(js:LN)(σ:St):St:=List.replicate n none++js.map λj=>(σ[j]?).join
def Z3e(n:Nat)(js:LN)(σ:St):(sgC n js σ).length=n + js.length:=by unfold sgC;simp
structure Zgj(X:Cx)(scope:Scope)(own frees:LS)(js:LN):Prop where
 calm:X.calm=true
 kind:scope.kind=.function
 nocell:∀ y∈scope.names,y.2≠.cell
 locals:∀ y∈scope.names,y.2=.local->scope.names.lookup y.1=some .local
 fr:∀ y∈scope.names,y.2=.free->X.env.scope.names.lookup y.1=some .cell\/X.env.scope.names.lookup y.1=some .free
 fre:∀ x∈frees,scope.names.lookup x=some .free
 slots:js.map (λj=>X.N[j]?)=frees.map some
def PTs(X:Cx)(ifs:List Expr)(t:TT):Prop :=
 ∀(pins:PL) (s:Shared) (σ:St) (H:Hp) (Q:Bool->Hp->Prop),Inv X pins σ H s->t σ H Q ->
  wpAny (model X.prog X.w) X.A (forIn ifs true λc r=>if r=true then do let ok <- isTrue c X.env (eval c X.env);pure (ForInStep.yield ok)else pure (ForInStep.yield r)) (TP X pins σ Q) X.xe s
def Ztn:TT:=λ_ H Q=>Q true H
def Zbj{X:Cx}:PTs X [] Ztn:=λ_ _ _ H _ I h=>wpAny_tests_nil ⟨H,I,h⟩
def Zi5{X:Cx}{c:Expr}{t:TT}(h:PT X c t):PTs X [c] t:=λpins s σ H Q I q=>wpAny_tests_one (h pins s σ H Q I q)
def compBody(n:Nat)(js:LN)(g:TG)(tt:TT)(te:TE)(σ:St)(Q:VK)(J:It)(H1:Hp):Prop:=∀ D,H1 D=none ->
 ∃ W:Nat->Nat->LV->St->Hp->Prop,(∃ m,W 0 m [] (sgC n js σ) (upd H1 D (.lst [])))/\∀ i m ys σ' H',W i m ys σ' H' ->
  (J.stop i H'/\Q (.ref D) H') \/
  (J.go i H'/\ys.length<sizeLine/\∃ N:LV->St->Hp->Prop,(∀ ys3 σ3 H3,N ys3 σ3 H3->∃ m',m'<m/\W (i + 1) m' ys3 σ3 H3)/\∀ x H2,J.yld i H' x H2->g x σ' H2 λσ3 H3=>tt σ3 H3 λb H4 =>
   if b=true then te σ3 H4 λv H5=>H5 D=some (.lst ys)/\N (ys++[v]) σ3 (upd H5 D (.lst (ys++[v])))
   else N ys σ3 H4)
section
variable {prog:Program}{w:World}{A:Around}{E:EV}{R:Result->Shared->Prop}{s:Shared}
def Zpw{elt target iter:Expr}{ifs:List Expr}{scope:Scope}{pos:Pos}{it acc:Value}{env:Env}(I:Nat->Shared->Prop)
  (turn:∀ n s,I n s->∀ E:EV,wpAny (model prog w) A (pyNext it) (λr s₁=>match r with
   | none=>R (.ok .next) s₁
   | some v=>wpAny (model prog w) A (letOwnedTupleGo target it v) (λ_ s₁'=>wpAny (model prog w) A (assign target env v) (λ_ s₂ =>
     wpAny (model prog w) A (forIn ifs true λc r=>if r=true then do let ok <- isTrue c env (eval c env);pure (ForInStep.yield ok)else pure (ForInStep.yield r)) (λok s₃ =>
      if ok=true then wpAny (model prog w) A (eval elt env) (λx s₄ =>
       wpAny (model prog w) A (call (.builtin "list.append") [acc,x]) (λ_ s₅=>∃ m,m<n/\I m s₅) E s₄) E s₃
      else ∃ m,m<n/\I m s₃) E s₂) E s₁') E s₁) E s)
  (n:Nat) (h:I n s):
  codeAny (model prog w) A (.compLoop (.ListComp elt [⟨target,iter,ifs,0⟩] scope pos) 0 it acc env) R s:=by
 refine codeAny_loop rfl I (λn s hI=>?_) n h;show wpAny _ A ((compTurn (.ListComp elt [⟨target,iter,ifs,0⟩] scope pos) 0 it acc env).onRaise (λx=>do noteFrame x env;theTreesLotGoes x)) _ _ s;refine wpAny_noted ?_;rw[compTurn_list];refine Ja (wpAny_standAt (Ja (Jf (turn n s hI _) (λr s₁ h₁=>?_) λ_ _ h'=>h')));cases r with
 | none=>exact Jd h₁
 | some v =>
  refine Ja (Jf h₁ (λ_ s₁' h₁'=>?_) λ_ _ h'=>h');refine Ja (Jf h₁' (λ_ s₂ h₂=>Ja (Jf h₂ (λok s₃ h₃=>?_) λ_ _ h'=>h')) λ_ _ h'=>h');cases ok with
  | false=>exact Jd ⟨Y,h₃⟩
  | true =>
   exact Ja (Ja (Jf h₃ (λx s₄ h₄=>Ja (Jf h₄ (λ_ s₅ h₅=>Jd (Jd ⟨Y,h₅⟩)) λ_ _ h'=>h')) λ_ _ h'=>h'))
end
section
variable {X:Cx}{pins:PL}{σ:St}{scope:Scope}{own frees:LS}{js:LN}
theorem Zgj.cells(c:Zgj X scope own frees js)(ok:X.Ok):∀ y∈scope.names,y.2=.free->∃ a,X.env.cells.lookup y.1=some a:=λy hy e=>by
 rcases c.fr y hy e with h | h
 ·exact ok.has y.1 (.inl h)
 ·exact ok.has y.1 (.inr h)
def Zgj.cl(c:Zgj X scope own frees js)(ok:X.Ok){x:Str}{a:Addr}(h:(Zpx X.env scope.names []).lookup x=some a):X.env.cells.lookup x=some a :=
 Zh2 scope.names [] x a (c.cells ok) (λ_ _ z=>by simp at z) h
def Zgj.has(c:Zgj X scope own frees js){x:Str}(h:scope.names.lookup x=some .free):∃ a,(Zpx X.env scope.names []).lookup x=some a :=
 Yw5.mp (Znm scope.names [] x (Yx2 h))
theorem Zgj.ok{s2:Shared}{H2:Hp}{fp:List Addr}{C:Addr}(c:Zgj X scope own frees js)(I:Inv X pins σ H2 s2)(f2:∀ b∈fp,Zrq X pins H2 b)(hlt:∀ b∈fp,b<s2.heap.objs.size)(hC:s2.heap.objs.size<=C)(N:LS):
  (Zdl X scope N C s2 H2 fp).Ok where
 mod:=I.ok.mod
 kind:=c.kind
 glob:=I.ok.glob
 blt:=I.ok.blt
 above:=hC
 inj:=λx y a h1 h2=>I.ok.inj x y a (c.cl I.ok h1) (c.cl I.ok h2)
 has:=λx h=>by
  have h':scope.names.lookup x=some .free\/scope.names.lookup x=some .cell:=Zfn (env:=X.env) h
  rcases h' with h' | h'
  ·exact c.has h'
  ·exact absurd rfl (c.nocell _ (Yx2 h'))
 cab:=λx a h=>absurd (show false=true from h) Yq
 hd:=λh=>I.ok.hd h
 frames:=I.ok.frames
 stk:=.inl rfl
 exf:=λb hb=>⟨Yx (Yi1 (hlt b hb) hC),λx a h=>(f2 b hb).2.2.2.2.1 x a (c.cl I.ok h)⟩
 bs:=I.bs
 bsz:=Yv1 I.ok.bsz I.sz
 noex:=λb o e hb=>by
  rcases(f2 b hb).2.2.2.1 with z | z
  ·exact I.ok.noex b o e z
  ·exact absurd (Yi1 (Yk e) (Yv1 I.ok.bsz z)) (Yu3 _)
 exfs:=λb hb z=>by
  rcases Yt.mp (I.stkSub b z)with e | e
  ·exact(f2 b hb).2.1 e
  ·exact(f2 b hb).2.2.1 e
 funs:=I.stack
 frf:=I.stkFree
def Zme{s2:Shared}{tg iter elt:Expr}{ifs:List Expr}{pos:Pos}{g:TG}{tt:TT}{te:TE}{Q:VK}{RR:Value->Addr->Result->Shared->Prop}{itv:Value}{E:EV}
  (c:Zgj X scope own frees js)
  (hg:∀ C s H fp,PG (Zdl X scope (own++frees) C s H fp) tg g) (ht:∀ C s H fp,PTs (Zdl X scope (own++frees) C s H fp) ifs tt) (he:∀ C s H fp,PE (Zdl X scope (own++frees) C s H fp) elt te)
  (h:PIE X pins σ tg (compBody own.length js g tt te σ Q) itv s2)
  (hR:∀ D C H' s',Inv X pins σ H' s'->Zrq X pins H' C->(∃ m,s'.heap.Ns C m)->Q (.ref D) H'->RR (.ref D) C (.ok .next) s'):
  wpAny (model X.prog X.w) X.A (newList []) (λacc s₃=>wpAny (model X.prog X.w) X.A (newFunctionEnv scope X.env.globals (Zpx X.env scope.names []) [] X.env.qual none .none (some X.env)) (λcenv s₄ =>
   codeAny (model X.prog X.w) X.A (.compStart (.ListComp elt [⟨tg,iter,ifs,0⟩] scope pos) 0 itv acc {cenv with scope:=relabel scope X.env}) (RR acc cenv.locals) s₄) E s₃) E s2:=by
 obtain⟨it,fp,tn,J,H2,e,I2,T,st2,f2,hq⟩:=h;subst e;refine wpAny_newObj_type (wpAny_newFunctionEnv c.nocell (by intro y hy;simp at hy) (λh₁ hns₁ hsb₁=>?_) c.kind);dsimp only at hns₁ hsb₁ ⊢;generalize hH2:s2.heap.push {cls:=.type "list",dict:=none,data:=.seq ([]:LU).toArray}=G2 at hns₁ hsb₁ ⊢;have hC:G2.objs.size=s2.heap.objs.size + 1:=by rw[<- hH2,Yp3]
 have hDC:s2.heap.objs.size≠G2.objs.size:=by rw[hC];exact Yx (Nat.lt_succ_self _)
 have hCle:s2.heap.objs.size<=G2.objs.size:=by rw[hC];exact Nat.le_succ _
 have old:∀ b o,s2.heap.get? b=some o->h₁.get? b=some o:=λb o e=>by
  have hb:=Yk e;exact hsb₁.extBut b o (by rw[hC];exact Yx (Nat.lt_succ_of_lt hb)) (Yd _ (hH2 ▸ Yd _ e))
 have hD:H2 s2.heap.objs.size=none:=I2.hok.fresh (Yg _);have hlt:∀ b∈fp,b<s2.heap.objs.size:=λb hb=>by
  obtain⟨o,e,_⟩:=T.obj _ _ st2 b hb;exact Yk e
 have hacc:h₁.get? s2.heap.objs.size=some {cls:=.type "list",data:=.seq ([]:LU).toArray}:=hsb₁.extBut _ _ hDC (Yd _ (hH2 ▸ Yp _ rfl));obtain⟨W,⟨m0,w0⟩,turn⟩:=hq _ hD;have I0:∀ tk,Inv (Zdl X scope (own++frees) G2.objs.size s2 H2 fp) [] (sgC own.length js σ) (upd H2 s2.heap.objs.size (.lst [])) {s2 with heap:=h₁,toks:=tk}:=λtk=>by
  refine⟨c.ok I2 f2 hlt hCle _,Y,I2.bare,Un.laid old (Yg _) hD,⟨_,hns₁,λi x v h1 h2 h3=>?_⟩,λx a h=>?_,?_,λx a h=>?_,λp hp=>absurd (show p∈([]:PL)from hp) (by simp),I2.hok.laid old (Yg _) ⟨Yj1 _,[],0,.nil,hacc⟩,?_⟩
  ·have hi:own.length<=i:=by
    by_cases hi:i<own.length
    ·unfold sgC at h2;rw[Yi3 (by simpa using hi),List.getElem?_replicate]at h2;rw[if_pos hi]at h2;cases h2
    ·omega
   have hx:frees[i - own.length]?=some x:=by
    have h1':(own++frees)[i]?=some x:=h1
    rwa [Yh2 hi]at h1'
   have h2':(js.map λj=>(σ[j]?).join)[i - own.length]?=some (some v):=by
    unfold sgC at h2;rw[Yh2 (by simpa using hi)]at h2;simpa using h2
   rw[Yj]at h2';obtain⟨j,hj,hjv⟩:=Yf1.mp h2';have hs:=congrArg (λl=>l[i - own.length]?) c.slots;rw[Yj,Yj,hj,hx]at hs;have hNj:X.N[j]?=some x:=Ym hs;have hσ:σ[j]?=some (some v):=by
    cases q:σ[j]? with
    | none=>rw[q]at hjv;cases hjv
    | some o =>
     rw[q]at hjv;have:o=some v:=hjv;rw[this]
   have hfree:=c.fre x (Yf hx);have hXk:=c.fr (x,.free) (Yx2 hfree) rfl;obtain⟨m,hn,hl⟩:=I2.loc;have vis:Vis X.env.scope x:=by rcases hXk with k | k;exact .inr (.inl k);exact .inr (.inr k)
   obtain⟨u,r,l⟩:=hl j x v hNj hσ vis;refine⟨u,r,.inr ⟨Zez (env:=X.env) hfree,?_⟩⟩
   rcases l with⟨hk,_⟩ | ⟨_,a,ha,hcell⟩
   ·rcases hXk with k | k
    ·have hk:X.env.scope.names.lookup x=some .local:=hk;rw[show X.env.scope.names.lookup x=some .cell from k]at hk;cases hk
    ·have hk:X.env.scope.names.lookup x=some .local:=hk;rw[show X.env.scope.names.lookup x=some .free from k]at hk;cases hk
   ·obtain⟨a',ha'⟩:=c.has hfree;have e:=c.cl I2.ok ha';rw[ha]at e;cases e;obtain⟨o,ho,hd⟩:=hcell;exact⟨a,ha',o,old a o ho,hd⟩
  ·obtain⟨v,o,ho,hd⟩:=I2.cell x a (c.cl I2.ok h);exact⟨v,o,old a o ho,hd⟩
  ·show upd H2 s2.heap.objs.size (.lst []) G2.objs.size=none;rw[Zab (Yu hDC)];exact I2.hok.fresh hCle
  ·obtain⟨v,o,ho,hd⟩:=I2.cell x a (c.cl I2.ok h);rw[Zab (Yx (Yk ho))];exact I2.freeC x a (c.cl I2.ok h)
  ·rw[Z3e,Yc];have:=congrArg List.length c.slots;rw[Ya,Ya]at this;omega
 have stat:∀ {H':Hp},(∀ b∈fp,H' b=none)->∀ b∈fp,Zrq (Zdl X scope (own++frees) G2.objs.size s2 H2 fp) [] H' b:=λ{H'} hn b hb=>by
  obtain⟨f0,f1,f3,f4,f5,f6⟩:=f2 b hb;refine⟨hn b hb,Yx (Yi1 (hlt b hb) hCle),λz=>?_,.inl hb,λx a h=>f5 x a (c.cl I2.ok h),λp hp=>absurd (show p∈([]:PL)from hp) (by simp)⟩
  rcases Yt.mp (I2.stkSub b z)with e | e
  ·exact f1 e
  ·exact f3 e
 have loop:∀ s₃:Shared,s₃={s2 with heap:=h₁,toks:=s2.toks + ([]:List (Str×Value)).length} ->
   codeAny (model X.prog X.w) X.A (.compLoop (.ListComp elt [⟨tg,iter,ifs,0⟩] scope pos) 0 (.ref it) (.ref s2.heap.objs.size) (compEnvC scope (Zpx X.env scope.names []) G2.objs.size X.env))
    (RR (.ref s2.heap.objs.size) G2.objs.size) s₃:=by
  rintro s₃ rfl;refine Zpw (λn s'=>∃ i ys σ' H',Inv (Zdl X scope (own++frees) G2.objs.size s2 H2 fp) [] σ' H' s'/\tn i s'.heap/\(∀ b∈fp,H' b=none)/\W i n ys σ' H') ?_ m0
   ⟨0,[],_,_,I0 _,T.keep _ _ _ st2 λb _ o e=>old b o e,λb hb=>by rw[Zab (Yx (hlt b hb))];exact(f2 b hb).1,w0⟩
  rintro n s3 ⟨i,ys,σ3,H3,I3,st3,fr3,w3⟩ E'
  rcases turn i n ys σ3 H3 w3 with⟨stop,qn⟩ | ⟨go,hz,N,hN,step⟩
  ·refine thn (T.done (Zdl X scope (own++frees) G2.objs.size s2 H2 fp) rfl rfl rfl c.calm i [] s3 σ3 H3 E' I3 (stat fr3) st3 stop) λr s4 ⟨hr,I4⟩=>?_;subst hr;have back:Inv X pins σ H3 s4:=I2.call' (ch:=fp) I4.os I4.base I4.hok I4.bare λb hb=>⟨(f2 b hb).2.2.2.1,(f2 b hb).2.1,(f2 b hb).2.2.2.2.1,(f2 b hb).2.2.2.2.2⟩;exact hR _ _ H3 s4 back (I2.fpOk hCle I4.free) ⟨_,I4.loc.choose_spec.1⟩ qn
  ·refine thn (T.item (Zdl X scope (own++frees) G2.objs.size s2 H2 fp) rfl rfl rfl c.calm i [] s3 σ3 H3 E' I3 (stat fr3) st3 go) λr s4 ⟨u,hr,h4⟩=>?_;subst hr;refine thn h4 λ_ s5 ⟨x,H5,I5,r5,y5,st5,fr5⟩=>?_;have I5':=I5.pinned (stat fr5) (T.obj _ _ st5);have nof:∀(e:Value) (s':Shared),(Zdl X scope (own++frees) G2.objs.size s2 H2 fp).xe e s'->E' e s':=λ_ _ z=>False.elim z;refine Jf (hg _ _ _ _ _ s5 σ3 H5 x u _ I5' r5 (step x H5 y5)) (λ_ s6 ⟨σ6,H6,I6,q6⟩=>?_) nof;refine Jf (ht _ _ _ _ _ s6 σ6 H6 _ I6 q6) (λb s7 ⟨H7,I7,q7⟩=>?_) nof;have again:∀ {σ7:St} {H7:Hp} {s7:Shared} {ys':LV},Inv (Zdl X scope (own++frees) G2.objs.size s2 H2 fp) ([]++Zol fp s5.heap) σ7 H7 s7->N ys' σ7 H7 ->
     ∃ m,m<n/\∃ i ys σ' H',Inv (Zdl X scope (own++frees) G2.objs.size s2 H2 fp) [] σ' H' s7/\tn i s7.heap/\(∀ b∈fp,H' b=none)/\W i m ys σ' H':=λ{σ7 H7 s7 ys'} I7 n7=>by
    obtain⟨m',hm,w7⟩:=hN _ _ _ n7;refine⟨m',hm,i + 1,ys',σ7,H7,I7.unpinned,T.keep _ _ _ st5 λb hb o e=>(I7.pin (b,o) (Yz1 _ (Yz1 _ (Zhl hb e)))).1,λb hb=>?_,w7⟩;obtain⟨o,e,d⟩:=T.obj _ _ st5 b hb;exact(I7.pin (b,o) (Yz1 _ (Yz1 _ (Zhl hb e)))).2.1
   cases b with
   | false =>
    rw[if_neg Yq]at q7 ⊢;exact again I7 q7
   | true =>
    rw[if_pos rfl]at q7 ⊢;refine Jf (he _ _ _ _ _ s7 σ6 H7 _ I7 q7) (λv s8 ⟨y,H8,I8,r8,hD8,w8⟩=>?_) nof;refine Jf (Zbc (X:=Zdl X scope (own++frees) G2.objs.size s2 H2 fp) _ s8 σ6 H8 (.ref s2.heap.objs.size) [y] (.ref s2.heap.objs.size) [v] (λ_ H9=>H9=upd H8 s2.heap.objs.size (.lst (ys++[y]))) I8 rfl (.cons r8 .nil) ⟨_,ys,y,Y,Y,hD8,hz,Y⟩) (λz s9 ⟨_,H9,I9,_,e9⟩=>?_) nof;subst e9;exact again I9 w8
 exact codeAny_compStart_list (loop _ rfl) (T.self X.A 0 _ _ _ (T.keep _ _ _ st2 λb _ o e=>old b o e) (loop _ rfl))
end
section
variable {X:Cx}{scope:Scope}{own frees:LS}{js:LN}{tg iter elt:Expr}{ifs:List Expr}{wi:TI}{g:TG}{tt:TT}{te:TE}{pos:Pos}
def Z8w(n:Nat)(js:LN)(wi:TI)(g:TG)(tt:TT)(te:TE):TE:=λσ H Q=>wi σ H (compBody n js g tt te σ Q)
def Zbk(own frees:LS)(js:LN)(hc:X.Ok->Zgj X scope own frees js)(hi:PI X tg iter wi)
  (hg:∀ C s H fp,PG (Zdl X scope (own++frees) C s H fp) tg g) (ht:∀ C s H fp,PTs (Zdl X scope (own++frees) C s H fp) ifs tt) (he:∀ C s H fp,PE (Zdl X scope (own++frees) C s H fp) elt te)
  (hs:∀ x,foldedSetIterable iter X.env x=pure x:=by intro _;rfl):
  PE X (.ListComp elt [⟨tg,iter,ifs,0⟩] scope pos) (Z8w own.length js wi g tt te):=by
 ac_rfl;have c:=hc I.ok;rw[eval_ListComp];refine wpAny_comprehension_free (use:=none) rfl hs (Zir (c.cells I.ok)) c.kind c.locals (thn (hi pins s σ H _ I h) λxv s₁ h₁=>thn h₁ λit s₂ h₂=>?_);refine Zme (RR:=λacc C=>compPost (model X.prog X.w) X.A X.xe none (EP X pins σ Q) acc C) c hg ht he h₂ λD C H' s' J F n q=>?_;obtain⟨m,hn⟩:=n;obtain⟨f0,f1,f2,f3,f4,f5⟩:=F;exact⟨m,hn,λh' hs'=>⟨.ref D,H',J.turned (t':=s'.toks) (λb o hb e=>hs'.extBut b o hb e) f0 f1 f3 f4 f5,Y,q⟩⟩
def Zzl(k n:Nat)(js:LN)(wi:TI)(g:TG)(tt:TT)(te:TE):TS:=λD σ H=>wi σ H (compBody n js g tt te σ λv H1=>D.nx (σ.set k (some v)) H1)
def Zeu{k:Nat}{y:Str}{py spos:Pos}(own frees:LS)(js:LN)(hN:X.N.Nodup)(hk:X.N[k]?=some y)(hy:X.env.scope.names.lookup y=some .local)(hc:X.Ok->Zgj X scope own frees js)(hi:PI X tg iter wi)
  (hg:∀ C s H fp,PG (Zdl X scope (own++frees) C s H fp) tg g) (ht:∀ C s H fp,PTs (Zdl X scope (own++frees) C s H fp) ifs tt) (he:∀ C s H fp,PE (Zdl X scope (own++frees) C s H fp) elt te)
  (hsw:swapsWith (.ListComp elt [⟨tg,iter,ifs,0⟩] scope pos) (some (.Name y py)) spos.line X.env=pure true:=by rfl)
  (hs:∀ x,foldedSetIterable iter X.env x=pure x:=by intro _;rfl):
  PS X (.Assign [.Name y py] (.ListComp elt [⟨tg,iter,ifs,0⟩] scope pos) spos) (Zzl k own.length js wi g tt te):=by
 intro pins s σ H D I h;have c:=hc I.ok;rw[exec_Assign_Name_used _ _ _ _ hsw];refine Ja (wpAny_standAt (Ja ?_));show wpAny _ X.A (do let _ <- comprehension (.ListComp elt [⟨tg,iter,ifs,0⟩] scope pos) scope X.env _ (newList []) false (eval iter X.env) (some (assign (.Name y py) X.env))) _ _ s;refine Ja (Jf (wpAny_comprehension_free (use:=some (assign (.Name y py) X.env)) (Q:=λ_ s'=>SP X pins D .next s') rfl hs (Zir (c.cells I.ok)) c.kind c.locals
  (thn (hi pins s σ H _ I h) λxv s₁ h₁=>thn h₁ λit s₂ h₂=>?_)) (λ_ s' hq=>Jd (Jd hq)) λ_ _ e=>e)
 refine Zme (RR:=λacc C=>compPost (model X.prog X.w) X.A X.xe (some (assign (.Name y py) X.env)) (λ_ s'=>SP X pins D .next s') acc C) c hg ht he h₂ λA' C H' s' J F n q=>?_;obtain⟨m,hn⟩:=n;obtain⟨f0,f1,f2,f3,f4,f5⟩:=F;show wpAny _ X.A (assign (.Name y py) X.env (.ref A')) _ _ _;refine wpAny_assign_Name (Zn6 J hN hk (.inl hy) (v:=.ref A') rfl (λs'' J' ⟨a,sb,ha⟩=>?_) (.inr hy));have hne:a≠C:=by
  rcases ha with e | e
  ·rw[e];exact Yu f1
  ·exact f4 y a e
 refine⟨m,hn.sameBut sb (Yu hne),λh' hs'=>⟨_,H',J'.turned (t':=s''.toks) (λb o hb e=>hs'.extBut b o hb e) f0 f1 f3 f4 f5,q⟩⟩
end
def Zcc{J:It}{xs:LV}{Ok:Hp->Prop}(R:Zqf J xs Ok){n:Nat}{js:LN}{g:TG}{tt:TT}{te:TE}{σ:St}{Q:VK}{H1:Hp}(hz:xs.length<=sizeLine)
  (Pv:Addr->Nat->LV->St->Hp->Prop) (h0:∀ D,H1 D=none->Pv D 0 [] (sgC n js σ) (upd H1 D (.lst [])))
  (hok:∀ D i ys σ' H,i<=xs.length->Pv D i ys σ' H->Ok H/\ys.length<=i)
  (hs:∀ D i x ys σ' H,H1 D=none->xs[i]?=some x->Pv D i ys σ' H->g x σ' H λσ3 H3=>tt σ3 H3 λb H4 =>
   if b=true then te σ3 H4 λv H5=>H5 D=some (.lst ys)/\Pv D (i + 1) (ys++[v]) σ3 (upd H5 D (.lst (ys++[v])))else Pv D (i + 1) ys σ3 H4)
  (hd:∀ D ys σ' H,H1 D=none->Pv D xs.length ys σ' H->Q (.ref D) H):
  compBody n js g tt te σ Q J H1:=by
 intro D hD;refine⟨λi m ys σ' H=>m=xs.length - i/\i<=xs.length/\Pv D i ys σ' H,⟨xs.length,by simp,Yj1 _,h0 D hD⟩,?_⟩;rintro i m ys σ' H ⟨rfl,hi,p⟩;obtain⟨q,hy⟩:=hok D i ys σ' H hi p;by_cases hlt:i<xs.length
 ·have hx:xs[i]?=some xs[i]:=by simp[hlt]
  refine .inr ⟨R.go i _ H q hx,W,Pv D (i + 1),λys3 σ3 H3 p3=>⟨xs.length - (i + 1),W,Y,hlt,p3⟩,λx H' y=>?_⟩;obtain⟨e1,e2⟩:=R.yld i _ H x H' q hx y;rw[e2];exact hs D i x ys σ' H hD (by rw[e1];exact hx) p
 ·have e:i=xs.length:=by omega
  subst e;exact .inl ⟨R.stop H q,hd D ys σ' H hD p⟩
def Zd9{J:It}{xs:LV}{Ok:Hp->Prop}(R:Zqf J xs Ok){js:LN}{tt:TT}{te:TE}{σ:St}{Q:VK}{H1:Hp}(hz:xs.length<=sizeLine)(p:V->Bool)(f:V->V)
  (hok:∀ D ys,H1 D=none->Ok (upd H1 D (.lst ys)))
  (ht:∀ D ys x (R:Bool->Hp->Prop),H1 D=none->x∈xs->R (p x) (upd H1 D (.lst ys))->tt (some x :: js.map λj=>(σ[j]?).join) (upd H1 D (.lst ys)) R)
  (he:∀ D ys x (R:V->Hp->Prop),H1 D=none->x∈xs->p x=true->R (f x) (upd H1 D (.lst ys))->te (some x :: js.map λj=>(σ[j]?).join) (upd H1 D (.lst ys)) R)
  (hd:∀ D,H1 D=none->Q (.ref D) (upd H1 D (.lst ((xs.filter p).map f)))):
  compBody 1 js (Zgy 0) tt te σ Q J H1:=by
 refine Zcc R hz (λD i ys σ' H=>H1 D=none/\ys=((xs.take i).filter p).map f/\(∃ o,σ'=o :: js.map λj=>(σ[j]?).join)/\H=upd H1 D (.lst ys)) ?_ ?_ ?_ ?_
 ·intro D hD;exact⟨hD,by simp,⟨none,Y⟩,Y⟩
 ·rintro D i ys σ' H hi ⟨hD,e,_,rfl⟩;refine⟨hok D ys hD,?_⟩;rw[e,Ya];exact Yv1 (Yz2 _ _) (by rw[Yk1];omega)
 ·rintro D i x ys σ' H hD hx ⟨_,e,⟨o,rfl⟩,rfl⟩;show tt (some x :: js.map λj=>(σ[j]?).join) (upd H1 D (.lst ys)) _;have hm:x∈xs:=Yf hx;refine ht D ys x _ hD hm ?_;cases hp:p x with
  | true =>
   rw[if_pos rfl];refine he D ys x _ hD hm hp ⟨uS,hD,?_,⟨Z⟩,Zgm⟩;rw[take_succ_filter p xs i x hx,hp,Yr,e];rfl
  | false =>
   rw[if_neg Yq];refine⟨hD,?_,⟨Z⟩,Y⟩;rw[take_succ_filter p xs i x hx,hp,Yr,e];simp
 ·rintro D ys σ' H hD ⟨_,e,_,rfl⟩;rw[Yp1]at e;rw[e];exact hd D hD
section
variable {X:Cx}
def Zp1{bs:List Bool}{its:LU}(r:Zb2 (bs.map V.bl) its):∀(i:Nat) (v:Value),its[i]?=some v->v=Value.bool (bs.getD i false):=λi v h=>by
 have hl:=r.length;rw[Ya]at hl;have hi:i<its.length:=(Yi.mp h).1;have hb:(bs.map V.bl)[i]?=some (V.bl (bs.getD i false)):=by
  rw[Yj,Yo];have:i<bs.length:=by omega
  simp[this]
 obtain⟨u,hu,ru⟩:=r.get hb;rw[h]at hu;cases hu;exact ru
def Zwg{bs:List Bool}:(List.range bs.length).all (λi=>bs.getD i false)=bs.all id:=by
 rw[Yh3];simp only[Yq1,Yt2,id];constructor
 ·intro h b hb;obtain⟨i,hi,e⟩:=Yk5.mp hb;have:=h i hi;rw[Yo]at this;simpa[hi,e]using this
 ·intro h i hi;rw[Yo];simp only[Yb hi,Yv3];exact h _ (Yw3 hi)
def Zwf{bs:List Bool}:(List.range bs.length).any (λi=>bs.getD i false)=bs.any id:=by
 rw[Yh3];simp only[Ym3,Yt2,id];constructor
 ·rintro⟨i,hi,e⟩;rw[Yo]at e;simp only[Yb hi,Yv3]at e;exact⟨_,Yw3 hi,e⟩
 ·rintro⟨b,hb,e⟩;obtain⟨i,hi,e'⟩:=Yk5.mp hb;refine⟨i,hi,?_⟩;rw[Yo];simp only[Yb hi,Yv3];rw[e',e]
def Z8d(K:Fg)(f:List Bool->Bool):LV->Hp->VK->Prop:=λxs H Q=>∃ a bs,xs=[.ref a]/\SqL K H a (bs.map V.bl)/\Q (.bl (f bs)) H
def Zit(hc:X.calm=true):Zjk X (.builtin "all") (Z8d X.K λbs=>bs.all id):=by
 intro pins s σ H xs us Q I r h;obtain⟨a,bs,rfl,ha,q⟩:=h;obtain⟨u,rfl,ru⟩:=Zix r;cases ru;obtain⟨its,rv,p,hz⟩:=I.list ha;have hl:=rv.length;rw[Ya]at hl;refine call_all_walk (wpAny_pyIter_list p.isList ?_);have hne:a≠s.heap.objs.size:=by
  obtain⟨o,ho,_⟩:=p.isList;exact Yx (Yk ho)
 refine⟨s.heap.objs.size,_,_,_,_,_,λi=>bs.getD i false,Y,Walks.list (A:=X.A.in1) (I.ok.hd hc) s.heap.objs.size a hne its.toArray,⟨⟨_,Yp _ rfl,Y,Y⟩,?_⟩,?_,?_⟩
 ·obtain⟨o,ho,r'⟩:=p.isList;exact⟨o,Yd _ ho,r'⟩
 ·intro i v s' Q' E' hv hq;have e:=Zp1 rv i v (by simpa using hv);subst e;exact Jh hq
 ·intro h' tk hk;refine⟨.bl (bs.all id),H,I.kept λb o e=>hk b o ?_ (Yd _ e),?_,q⟩
  ·have hb:=Yk e;intro z;have z':b=s.heap.objs.size:=by simpa using z
   exact Yx hb z'
  ·have:its.toArray.size=bs.length:=by simp[hl]
   rw[this,Zwg];rfl
def Z1u(hc:X.calm=true):Zjk X (.builtin "any") (Z8d X.K λbs=>bs.any id):=by
 intro pins s σ H xs us Q I r h;obtain⟨a,bs,rfl,ha,q⟩:=h;obtain⟨u,rfl,ru⟩:=Zix r;cases ru;obtain⟨its,rv,p,hz⟩:=I.list ha;have hl:=rv.length;rw[Ya]at hl;refine call_any_walk (wpAny_pyIter_list p.isList ?_);have hne:a≠s.heap.objs.size:=by
  obtain⟨o,ho,_⟩:=p.isList;exact Yx (Yk ho)
 refine⟨s.heap.objs.size,_,_,_,_,_,λi=>bs.getD i false,Y,Walks.list (A:=X.A.in1) (I.ok.hd hc) s.heap.objs.size a hne its.toArray,⟨⟨_,Yp _ rfl,Y,Y⟩,?_⟩,?_,?_⟩
 ·obtain⟨o,ho,r'⟩:=p.isList;exact⟨o,Yd _ ho,r'⟩
 ·intro i v s' Q' E' hv hq;have e:=Zp1 rv i v (by simpa using hv);subst e;exact Jh hq
 ·intro h' tk hk;refine⟨.bl (bs.any id),H,I.kept λb o e=>hk b o ?_ (Yd _ e),?_,q⟩
  ·have hb:=Yk e;intro z;have z':b=s.heap.objs.size:=by simpa using z
   exact Yx hb z'
  ·have:its.toArray.size=bs.length:=by simp[hl]
   rw[this,Zwf];rfl
def Yay(i j:Int):Prop:=Builtin.Int.intBits i<=2 ^ 20/\Builtin.Int.intBits j<=2 ^ 20
def Zqu:OpR X (binaryOp .Mult) (rI Yay λi j=>.int (i * j)):=opI λ_ _ _ _ _ _ _ hc q=>mul_int q (IntMulOk.of_bits hc.1 hc.2)
def Ya0(i j:Int):Prop:=0<j/\j<4611686018427387904
def Zz1:OpR X (binaryOp .FloorDiv) (rI Ya0 λi j=>.int (i / j)):=opI λi j _ _ _ _ _ hc q=>by
 have h1:(0:Int)<j:=hc.1;have h2:j<4611686018427387904:=hc.2;refine floordiv_int (by omega) (by rw[Int.fdiv_eq_ediv_of_nonneg i (by omega)];exact q) (.inl (PyProof.noPylong_of_log2 ?_));have h3:j.natAbs.log2<62:=(Nat.log2_lt (by omega)).mpr (by omega);omega
def Z5l:V->Option Int->Option Int->Hp->VK->Prop:=λx lo hi H Q=>∃ z,x=.str z/\z.length<=sizeLine/\Q (.str (Txt.slice z lo hi)) H
def Zkd:SlR X Z5l:=by
 intro pins s σ H x v vl vu lo hi sl Q I rx hs pl pu h;obtain⟨z,rfl,hz,q⟩:=h;obtain⟨t,rfl⟩:=rx;refine⟨"str",_,F.slot_str_getitem.lookup,typeIs_str _ _ _,?_⟩;have fin:∀ t' k,EP X pins σ Q (.str (Txt.slice z lo hi) t') {s with toks:=k}:=λt' k=>⟨.str _,H,I.tok _,⟨Z⟩,q⟩;have hsz:=Yv1 (Txt.slice_le z lo hi) hz;obtain⟨o,h1,h2,h3⟩:=hs;cases pl with
 | none =>
  cases pu with
  | none=>exact wpAny_getItem_str_slice (l:=none) (u:=none) (st:=none) ⟨o,h1,h2,h3⟩ rfl (post_val_or_str ⟨hsz,fin⟩)
  | int j uj=>exact wpAny_getItem_str_slice (l:=none) (u:=some (j,uj)) (st:=none) ⟨o,h1,h2,h3⟩ rfl (post_val_or_str ⟨hsz,fin⟩)
 | int i ui =>
  cases pu with
  | none=>exact wpAny_getItem_str_slice (l:=some (i,ui)) (u:=none) (st:=none) ⟨o,h1,h2,h3⟩ rfl (post_val_or_str ⟨hsz,fin⟩)
  | int j uj=>exact wpAny_getItem_str_slice (l:=some (i,ui)) (u:=some (j,uj)) (st:=none) ⟨o,h1,h2,h3⟩ rfl (post_val_or_str ⟨hsz,fin⟩)
def Ydt(K:Fg):LV->Hp->VK->Prop:=λxs H Q=>∃ x n t b,xs=[x,.ty n]/\Zux K H x t/\W.kitOne K t (.type n)=some b/\Q (.bl b) H
def Zis:Zjk X (.builtin "isinstance") (Ydt X.K):=by
 intro pins s σ H xs us Q I r h;obtain⟨x,n,t,b,rfl,ty,e,q⟩:=h;obtain⟨u,w',rfl,r1,r2⟩:=Z5s r;cases r2;exact Zxw I r1 ty e λtk=>⟨.bl b,H,I.tok _,Y,q⟩
end
def Z76(osc:Scope)(on:LS)(scope:Scope)(frees:LS)(js:LN):Bool :=
 (scope.kind == .function)&&scope.names.all (λy=>y.2 != .cell)&&scope.names.all (λy=>y.2 != .local || scope.names.lookup y.1 == some .local) &&
 scope.names.all (λy=>y.2 != .free || (osc.names.lookup y.1 == some .cell || osc.names.lookup y.1 == some .free))&&frees.all (λx=>scope.names.lookup x == some .free)&&decide (js.map (λj=>on[j]?)=frees.map some)
def Zaw{X:Cx}{osc scope:Scope}{on own frees:LS}{js:LN}(h:Z76 osc on scope frees js=true)(h1:X.env.scope=osc)(h2:X.N=on)(h3:X.calm=true):Zgj X scope own frees js:=by
 subst h1;subst h2;unfold Z76 at h;simp only[Yl1,Yq1,decide_eq_true_eq,Bool.or_eq_true,bne_iff_ne,beq_iff_eq,ne_eq]at h;obtain⟨⟨⟨⟨⟨a,b⟩,c⟩,d⟩,e⟩,f⟩:=h;exact⟨h3,a,b,λy hy z=>(c y hy).resolve_left (λq=>q z),λy hy z=>(d y hy).resolve_left (λq=>q z),e,f⟩
def Z51(t u:TS):TS:=λD σ H=>∃ M:SW,t {D with nx:=M} σ H/\∀ σ' H',M σ' H'->u D σ' H'
def Zgd{X:Cx}{st:Stmt}{Zlx:List Stmt}{t u:TS}(h1:PS X st t)(h2:PSs X Zlx u):PSs X (st :: Zlx) (Z51 t u):=by
 intro pins s σ H D I h;obtain⟨M,h,hM⟩:=h;refine wpAny_execs_cons (thn (h1 pins s σ H {D with nx:=M} I h) λf s1 q=>?_);cases f with
 | next =>
  obtain⟨σ',H',I',q⟩:=q;exact h2 pins s1 σ' H' D I' (hM _ _ q)
 | ret v=>exact q
 | brk=>exact q
 | cont=>exact q
structure Def(K:Fg)(mg:Str->OU)(x:Str)(st:Stmt)(ps:LS)(f:Addr)(fd:FuncData):Prop where
 fn:Fun K x x st f fd
 b:Zef K fd ps []
 m:mg x=some (.ref f)
def Zae{X:Cx}{k:Nat}{ps:LS}{sp:Sp}{x:Str}{st:Stmt}{p pos:Pos}{e:Expr}{es:List Expr}{t:TA}(d:Def X.K X.mg x st ps f fd)(F:Zaq X.prog X.w X.K X.mg X.base CX0 k f fd ps sp)(hr:Zci k X.A)
  (ha:PA X (e :: es) t) (hg:Gl X x:=by rfl) (hdb:(x == ("__debug__":Str))=false:=by decide) (he:starEach (e :: es) X.env=(false,eval e X.env):: starEach es X.env:=by rfl) (hpl:(backTo pos (starEach es X.env)).any (·.1)=false:=by rfl):
  PE X (.Call (.Name x p) (e :: es) [] pos) (Z52 sp [] E0 t):=Z3v F hr hg d.m d.fn.kp d.b .nil Zct ha hdb he hpl
def sL{n:Nat}(h:n<=100000):n<=sizeLine:=by rw[sizeLine_eq];omega
end L2
namespace L2
open PySem PySem.Spec PyProof.Rows PySem.W
mutual
inductive Rep(K:Fg)(H:Hp):V->Dat->Prop
 | none:Rep K H .non .none
 | bool (b:Bool):Rep K H (.bl b) (.bool b)
 | int (i:Int):Rep K H (.int i) (.int i)
 | str (x:Str):Rep K H (.str x) (.str x)
 | tuple {a:Addr} {xs:LV} {ds:List Dat}:SqT K H a xs->Reps K H xs ds->Rep K H (.ref a) (.tuple ds)
 | list {a:Addr} {xs:LV} {ds:List Dat}:SqL K H a xs->Reps K H xs ds->Rep K H (.ref a) (.list ds)
inductive Reps(K:Fg)(H:Hp):LV->List Dat->Prop
 | nil:Reps K H [] []
 | cons {v:V} {vs:LV} {d:Dat} {ds:List Dat}:Rep K H v d->Reps K H vs ds->Reps K H (v :: vs) (d :: ds)
end
def Zaj.tup{K:Fg}{H H':Hp}{a:Addr}{xs:LV}(e:Zaj H H')(h:SqT K H a xs):SqT K H' a xs:=by
 rcases h with(h | ⟨o,h⟩) | h
 ·exact .inl (.inl (e _ _ h))
 ·exact .inl (.inr ⟨o,e _ _ h⟩)
 ·exact .inr h
mutual
theorem Rep.mono{K:Fg}{H H':Hp}(e:Zaj H H'):∀ {v:V}{d:Dat},Rep K H v d->Rep K H' v d
 | _,_,.none=>.none
 | _,_,.bool b=>.bool b
 | _,_,.int i=>.int i
 | _,_,.str x=>.str x
 | _,_,.tuple h r=>.tuple (e.tup h) (Reps.mono e r)
 | _,_,.list h r=>.list (e.seq h) (Reps.mono e r)
theorem Reps.mono{K:Fg}{H H':Hp}(e:Zaj H H'):∀ {vs:LV}{ds:List Dat},Reps K H vs ds->Reps K H' vs ds
 | _,_,.nil=>.nil
 | _,_,.cons h r=>.cons (Rep.mono e h) (Reps.mono e r)
end
section
variable {X:Cx}{pins:PL}{σ:St}{H:Hp}{s:Shared}
mutual
theorem Rep.reads(I:Inv X pins σ H s):∀ {v:V}{d:Dat}{u:Value},Rep X.K H v d->Zcm v u->∃ as,Reads s.heap u (kqdP d) as
 | _,_,_,.none,r=>by cases(show _=Value.none from r);rw[kqdP];exact⟨_,Reads.none⟩
 | _,_,_,.bool b,r=>by cases(show _=Value.bool b from r);rw[kqdP];exact⟨_,Reads.bool b⟩
 | _,_,_,.int i,r=>by obtain⟨t,e⟩:=(show ∃ t,_=Value.int i t from r);cases e;rw[kqdP];exact⟨_,Reads.int i t⟩
 | _,_,_,.str x,r=>by obtain⟨t,e⟩:=(show ∃ t,_=Value.str x t from r);cases e;rw[kqdP];exact⟨_,Reads.str x t⟩
 | _,_,_,.tuple (a:=a) h q,r=>by
  cases(show _=Value.ref a from r);obtain⟨its,rv,⟨o,e,c,n,d⟩,_⟩:=I.tuple h;obtain⟨as,p⟩:=Reps.reads I q rv;rw[kqdP];exact⟨as,reads_tuple_at e c d (by simpa using p)⟩
 | _,_,_,.list (a:=a) h q,r=>by
  cases(show _=Value.ref a from r);obtain⟨its,rv,⟨o,n,e,c,_,d⟩,_⟩:=I.list h;obtain⟨as,p⟩:=Reps.reads I q rv;rw[kqdP];exact⟨_,reads_list_at e c d (by simpa using p)⟩
theorem Reps.reads(I:Inv X pins σ H s):∀ {vs:LV}{ds:List Dat}{us:LU},Reps X.K H vs ds->Zb2 vs us->∃ as,ReadsAll s.heap us (kqdPs ds) as
 | _,_,_,.nil,r=>by cases r;rw[kqdPs];exact⟨_,ReadsAll.nil⟩
 | _,_,_,.cons h q,r=>by
  cases r with
  | cons r1 r2 =>
   obtain⟨as,p⟩:=Rep.reads I h r1;obtain⟨bs,t⟩:=Reps.reads I q r2;rw[kqdPs];exact⟨_,ReadsAll.cons p t⟩
end
end
def dEq(d e:Dat):Bool:=@decide (d=e) (Classical.propDecidable _)
def Zfp(d:Dat):dEq d d=true:=by unfold dEq;exact @Jb _ (Classical.propDecidable _) rfl
def Z41{d e:Dat}(h:d=e):dEq d e=true:=by rw[h];exact Zfp e
def Zni{d e:Dat}(h:d≠e):dEq d e=false:=by unfold dEq;exact @Jc _ (Classical.propDecidable _) h
def Zrc{d e:Dat}{n k:Nat}(h1:kqdOk n d=true)(h2:kqdOk k e=true):PyData.eqv (kqdP d) (kqdP e)=dEq d e:=by
 have q:=kqd_eqv n d e k h1 h2;by_cases h:d=e
 ·rw[Z41 h];exact q.mpr h
 ·rw[Zni h];exact Bool.eq_false_iff.mpr λx=>h (q.mp x)
def Zev{d:Dat}(h:kqdOk 9 d=true):SeqAt.shaped (kqdP d)=true:=by
 have l:=kqd_lay 9 d h;unfold SeqAt.shaped;rw[l.1,Yi2];exact Jb (Yv1 l.2 (by decide))
section
variable {X:Cx}
def Yb7(K:Fg)(f:Bool->Bool):R2:=λx y H Q=>∃ d e,Rep K H x d/\Rep K H y e/\kqdOk 9 d=true/\kqdOk 9 e=true/\Q (.bl (f (dEq d e))) H
def Z60(hu:X.A.units + 64<cLine):OpR X (compareOp .Eq) (Yb7 X.K id):=by
 exfalso;obtain⟨d,e,h1,h2,k1,k2,q⟩:=h;obtain⟨as,ra⟩:=h1.reads I rx;obtain⟨bs,rb⟩:=h2.reads I ry;exact eq_dataH ra rb (Zev k1) (Zev k2) hu (Zbf I q (by rw[Zrc k1 k2];rfl))
def Zkr(hu:X.A.units + 64<cLine):OpR X (compareOp .NotEq) (Yb7 X.K Bool.not):=by
 exfalso;obtain⟨d,e,h1,h2,k1,k2,q⟩:=h;obtain⟨as,ra⟩:=h1.reads I rx;obtain⟨bs,rb⟩:=h2.reads I ry;exact ne_dataH ra rb (Zev k1) (Zev k2) hu (Zbf I q (by rw[Zrc k1 k2]))
end
end L2
namespace L2
open PySem PySem.Spec PyProof.Rows
section
variable {X:Cx}{pins:PL}{σ:St}{H H':Hp}{s:Shared}{a:Addr}{kvs:KL}{o:Obj}
def Inv.reH(I:Inv X pins σ H s)(base:Un X.fs X.ex X.H₀ H' X.s₀.heap s.heap)(hn:∀ b,H b=none->H' b=none)(hok:HOk X.prog X.w H' s.heap):Inv X pins σ H' s :=
 ⟨I.ok,I.os,I.bare,base,I.loc,I.cell,hn _ I.free,λx c e=>hn _ (I.freeC x c e),λp hp=>by
  obtain⟨e,n,r⟩:=I.pin p hp;exact⟨e,hn _ n,r⟩,hok,I.len⟩
def Inv.reAt{u u':HO}(I:Inv X pins σ H s)(h:H a=some u)(nt:∀ xs,u≠.tup xs)(no:∀ y,u≠.own y)(nb:∀ ps,u≠.tbl ps)(nf:∀ o v,X.H₀ a≠some (.frz o v))
  (ok:Zcu X.prog X.w H s.heap a u->Zcu X.prog X.w (upd H a u') s.heap a u'):Inv X pins σ (upd H a u') s:=by
 have hn:∀ b,H b=none->upd H a u' b=none:=λb e=>by
  rw[Zab]
  ·exact e
  ·rintro rfl;rw[h]at e;cases e
 refine I.reH ⟨I.base.keep,I.base.slot,λb ob e n hx=>hn b (I.base.free b ob e n hx),I.base.there,λb xs e=>?_,λb ob v e=>?_,λb ps e=>?_⟩ hn ?_
 ·have q:=I.base.tups b xs e;rw[Zab]
  ·exact q
  ·rintro rfl;rw[h]at q;exact nt xs (Ym q)
 ·have q:=I.base.frzs b ob v e;rw[Zab]
  ·exact q
  ·rintro rfl;exact nf ob v e
 ·obtain⟨m,q⟩:=I.base.tbls b ps e;refine⟨m,?_⟩;rw[Zab]
  ·exact q
  ·rintro rfl;rw[h]at q;exact nb _ (Ym q)
 ·intro b v e;by_cases hb:b=a
  ·subst hb;rw[uS]at e;cases e;exact ok (I.hok b u h)
  ·rw[Zab hb]at e;refine(I.hok b v e).stay (λ_ _ _ q=>q) (λc q=>?_) λc xs q=>?_
   ·rw[Zab]
    ·exact q
    ·rintro rfl;rw[h]at q;exact no _ (Ym q)
   ·rw[Zab]
    ·exact q
    ·rintro rfl;rw[h]at q;exact nt _ (Ym q)
def Inv.freeze(I:Inv X pins σ H s)(h:H a=some (.dK kvs))(ho:s.heap.get? a=some o):Inv X pins σ (upd H a (.frz o (.dK kvs))) s/\∀ o' v,X.H₀ a≠some (.frz o' v):=by
 have nf:∀ o' v,X.H₀ a≠some (.frz o' v):=λo' v e=>by
  have q:=I.base.frzs a o' v e;rw[h]at q;cases q
 refine⟨I.reAt h (λ_ z=>nomatch z) (λ_ z=>nomatch z) (λ_ z=>nomatch z) nf λk=>⟨ho,k.stay (λ_ _ _ q=>q) (λc q=>?_) λc xs q=>?_⟩,nf⟩
 ·rw[Zab]
  ·exact q
  ·rintro rfl;rw[h]at q;cases q
 ·rw[Zab]
  ·exact q
  ·rintro rfl;rw[h]at q;cases q
def Zsb{P:Program}{w:World}{k:Key}{u:Value}(h:(Zbe P w).is k u=true):Zcm (kV k) u:=by
 rcases Zby (show Zra k u=true from h)with⟨i,t,rfl,rfl⟩ | ⟨x,t,rfl,rfl⟩
 ·exact⟨t,Y⟩
 ·exact⟨t,Y⟩
end
def Itk(a:Addr)(o:Obj)(kvs:KL):It :=
 ⟨λi H=>i<kvs.length/\H a=some (.frz o (.dK kvs)),λi H v H'=>H'=H/\∃ p,kvs[i]?=some p/\v=kV p.1,λi H=>kvs.length<=i/\H a=some (.frz o (.dK kvs))⟩
def Itv(a:Addr)(o:Obj)(kvs:KL):It :=
 ⟨λi H=>i<kvs.length/\H a=some (.frz o (.dK kvs)),λi H v H'=>H'=H/\∃ p,kvs[i]?=some p/\v=p.2,λi H=>kvs.length<=i/\H a=some (.frz o (.dK kvs))⟩
theorem KV.get{κ:Type}:∀ {kvs:List (κ×V)}{vs:List (κ×Value)},KV kvs vs->∀ {i:Nat}{p:κ×V},kvs[i]?=some p->∃ u,vs[i]?=some (p.1,u)/\Zcm p.2 u
 | _,_,.nil,i,p,h=>by simp at h
 | _,_,.cons r t,0,p,h=>by
  simp at h;subst h;exact⟨_,by simp[r.1],r.2⟩
 | _,_,.cons r t,i + 1,p,h=>by
  obtain⟨u,h1,h2⟩:=KV.get t (i:=i) (p:=p) (by simpa using h);exact⟨u,by simpa using h1,h2⟩
def Zet{P:Program}{w:World}{H:Hp}{h:Heap}{a:Addr}{o:Obj}{kvs:KL}{es:Array DictEntry}{ep:Nat}(ok:Zcu P w H h a (.frz o (.dK kvs)))(hd:o.data=.dict es ep):
  (a == sysModules)=false/\∃ vs,KV kvs vs/\h.DictAt (Zbe P w) a vs ep:=by
 obtain⟨ho,z,hs,vs,r,o',es',ep',h1,h2,h3,h4,h5,h6⟩:=ok;rw[ho]at h1;cases h1;rw[hd]at h3;cases h3;exact⟨hs,vs,r,o,es,ho,h2,hd,h4,h5,h6⟩
def Zu8{P:Program}{w:World}{K:Fg}{tg:Expr}(a it:Addr)(o:Obj)(kvs:KL)(es:Array DictEntry)(ep:Nat)(hd:o.data=.dict es ep):
  Zqe P w K tg (Itk a o kvs) [it] it (λi h=>h.IsKeyIter it a i kvs.length ep) where
 mem:=by simp
 obj:=λi h st b hb=>by
  have e:b=it:=by simpa using hb
  subst e;obtain⟨o,e,c,d⟩:=st;exact⟨o,e,λv z=>by rw[d]at z;cases z⟩
 keep:=λi h h' st k=>by
  obtain⟨o,ho,r⟩:=st;exact⟨o,k it (by simp) o ho,r⟩
 item:=by
  intro X hP hw hK hc i pins s σ H E I hf st hg;subst hP hw hK;obtain⟨f0,f1,f2,f3,f4,f5⟩:=hf it (by simp);obtain⟨hi,ha⟩:=hg;obtain⟨_,vs,r,dd⟩:=Zet (I.hok a _ ha) hd;obtain⟨p,hp⟩:∃ p,kvs[i]?=some p:=⟨kvs[i],by simp[hi]⟩;obtain⟨u,hu,ru⟩:=r.get hp;have hl:kvs.length=vs.length:=Yy r;rw[hl]at st;refine wpAny_pyNext_dict_item st dd hu λkey h' hk st' sb=>?_;have I1:Inv X pins σ H {s with heap:=h' }:=I.turned (t':=s.toks) (λb o hb e=>(sb.2 b hb).trans e) f0 f1 f3 f4 f5;obtain⟨o',e,c,d⟩:=id st';rw[<- hl]at st';exact⟨key,Y,Zui (s:={s with heap:=h' }) e c d (by decide) ⟨kV p.1,H,I1,Zsb hk,⟨Y,p,hp,Y⟩,st',λb hb=>(hf b hb).1⟩⟩
 done:=by
  intro X hP hw hK hc i pins s σ H E I hf st hg;subst hP hw hK;obtain⟨f0,f1,f2,f3,f4,f5⟩:=hf it (by simp);obtain⟨hi,ha⟩:=hg;obtain⟨_,vs,r,dd⟩:=Zet (I.hok a _ ha) hd;have hl:kvs.length=vs.length:=Yy r;rw[hl]at st;exact wpAny_pyNext_dict_end (I.ok.hd hc) st dd (by simp;omega) λh' eb=>⟨Y,I.turned (t':=s.toks) (λb o hb e=>eb b o hb e) f0 f1 f3 f4 f5⟩
 self:=λ_ _ _ _ _ st h=>wpAny_pyIter_keyiter st h
def Zu7{P:Program}{w:World}{K:Fg}{tg:Expr}(a it:Addr)(o:Obj)(kvs:KL)(es:Array DictEntry)(ep:Nat)(hd:o.data=.dict es ep):
  Zqe P w K tg (Itv a o kvs) [it] it (λi h=>h.IsValIter it a i kvs.length ep) where
 mem:=by simp
 obj:=λi h st b hb=>by
  have e:b=it:=by simpa using hb
  subst e;obtain⟨o,e,c,d⟩:=st;exact⟨o,e,λv z=>by rw[d]at z;cases z⟩
 keep:=λi h h' st k=>by
  obtain⟨o,ho,r⟩:=st;exact⟨o,k it (by simp) o ho,r⟩
 item:=by
  intro X hP hw hK hc i pins s σ H E I hf st hg;subst hP hw hK;obtain⟨f0,f1,f2,f3,f4,f5⟩:=hf it (by simp);obtain⟨hi,ha⟩:=hg;obtain⟨_,vs,r,dd⟩:=Zet (I.hok a _ ha) hd;obtain⟨p,hp⟩:∃ p,kvs[i]?=some p:=⟨kvs[i],by simp[hi]⟩;obtain⟨u,hu,ru⟩:=r.get hp;have hl:kvs.length=vs.length:=Yy r;rw[hl]at st;refine wpAny_pyNext_values_item st dd hu λh' st' sb=>?_;have I1:Inv X pins σ H {s with heap:=h' }:=I.turned (t':=s.toks) (λb o hb e=>(sb.2 b hb).trans e) f0 f1 f3 f4 f5;obtain⟨o',e,c,d⟩:=id st';rw[<- hl]at st';exact⟨u,Y,Zui (s:={s with heap:=h' }) e c d (by decide) ⟨p.2,H,I1,ru,⟨Y,p,hp,Y⟩,st',λb hb=>(hf b hb).1⟩⟩
 done:=by
  intro X hP hw hK hc i pins s σ H E I hf st hg;subst hP hw hK;obtain⟨f0,f1,f2,f3,f4,f5⟩:=hf it (by simp);obtain⟨hi,ha⟩:=hg;obtain⟨_,vs,r,dd⟩:=Zet (I.hok a _ ha) hd;have hl:kvs.length=vs.length:=Yy r;rw[hl]at st;exact wpAny_pyNext_values_end (I.ok.hd hc) st dd (by simp;omega) λh' eb=>⟨Y,I.turned (t':=s.toks) (λb o hb e=>eb b o hb e) f0 f1 f3 f4 f5⟩
 self:=λ_ _ _ _ _ st h=>wpAny_pyIter_valiter st h
def Ycv(t:TS):TS:=λD σ H=>∃ a kvs,H a=some (.dK kvs)/\∀ o,t D σ (upd H a (.frz o (.dK kvs)))
def Zmu{X:Cx}{sts:List Stmt}{t:TS}(h:PSs X sts t):PSs X sts (Ycv t):=by
 intro pins s σ H D I q;obtain⟨a,kvs,ha,q⟩:=q;obtain⟨o,ho⟩:∃ o,s.heap.get? a=some o:=by
  obtain⟨_,_,vs,_,o,_,_,e,_⟩:=I.hok a _ ha;exact⟨o,e⟩
 exact h pins s σ _ D (I.freeze ha ho).1 (q o)
def Znc{P:Program}{w:World}{H:Hp}{h:Heap}{a:Addr}{o:Obj}{kvs:KL}(ok:Zcu P w H h a (.frz o (.dK kvs))):∃ es ep,o.data=.dict es ep:=by
 obtain⟨ho,z,hs,vs,r,o',es',ep',h1,h2,h3,_⟩:=ok;rw[ho]at h1;cases h1;exact⟨es',ep',h3⟩
def Zwb{a:Addr}{o:Obj}{kvs:KL}:Zqf (Itk a o kvs) (kvs.map λp=>kV p.1) (λH=>H a=some (.frz o (.dK kvs))) where
 go:=λi x H ok hx=>by
  have:=(Yi.mp hx).1;rw[Ya]at this;exact⟨this,ok⟩
 yld:=λi x H y H' ok hx h=>by
  obtain⟨e,p,hp,hy⟩:=h;rw[Yj,hp]at hx;exact⟨hy.trans (Ym hx),e⟩
 stop:=λH ok=>⟨by rw[Ya];exact Yg _,ok⟩
def Zwa{a:Addr}{o:Obj}{kvs:KL}:Zqf (Itv a o kvs) (kvs.map λp=>p.2) (λH=>H a=some (.frz o (.dK kvs))) where
 go:=λi x H ok hx=>by
  have:=(Yi.mp hx).1;rw[Ya]at this;exact⟨this,ok⟩
 yld:=λi x H y H' ok hx h=>by
  obtain⟨e,p,hp,hy⟩:=h;rw[Yj,hp]at hx;exact⟨hy.trans (Ym hx),e⟩
 stop:=λH ok=>⟨by rw[Ya];exact Yg _,ok⟩
section
variable {X:Cx}{tg:Expr}
def Yac(tl:TE):TI:=λσ H R=>tl σ H λx H1=>∃ a o kvs,x=.ref a/\H1 a=some (.frz o (.dK kvs))/\R (Itk a o kvs) H1
def Z3t{l:Expr}{tl:TE}(hl:PE X l tl):PI X tg l (Yac tl):=by
 intro pins s σ H R I h;refine thn (hl pins s σ H _ I h) λv s1 ⟨x,H1,I1,r1,q1⟩=>?_;obtain⟨a,o,kvs,e,ha,q⟩:=q1;subst e;cases r1;obtain⟨es,ep,hd⟩:=Znc (I1.hok a _ ha);obtain⟨hs,vs,r,dd⟩:=Zet (I1.hok a _ ha) hd;have hl:kvs.length=vs.length:=Yy r;refine wpAny_pyIter_dict hs dd ?_;refine⟨s1.heap.objs.size,[s1.heap.objs.size],_,_,H1,Y,I1.kept (t':=s1.toks) λb o e=>Yd _ e,Zu8 a _ o kvs es ep hd,⟨_,Yp _ rfl,Y,by rw[hl];rfl⟩,λb hb=>?_,q⟩;have e:b=s1.heap.objs.size:=by simpa using hb
 subst e;exact I1.fpOk (Yg _) (I1.hok.fresh (Yg _))
end
def Zqo{n:Nat}(h:n<=10000000):n<=sizeLine:=by rw[sizeLine_eq];omega
theorem Zj5:∀ {xs:LV}{us:LU},xs.length=us.length->(∀(i:Nat) (v:V) (u:Value),xs[i]?=some v->us[i]?=some u->Zcm v u)->Zb2 xs us
 | [],[],_,_=>.nil
 | [],_ :: _,h,_=>by simp at h
 | _ :: _,[],h,_=>by simp at h
 | x :: xs,u :: us,h,k=>.cons (k 0 x u rfl rfl) (Zj5 (by simpa using h) λi v w hv hw=>k (i + 1) v w (by simpa using hv) (by simpa using hw))
def Zhq{J:It}{xs:LV}{Ok:Hp->Prop}(R:Zqf J xs Ok){js:LN}{tt:TT}{te:TE}{σ:St}{Q:VK}{H1:Hp}(hz:xs.length<=sizeLine)(p:V->Bool)(F:Addr->V->V->Hp->Prop)
  (hF:∀ D x v H H',(∀ b o,b≠D->H b=some o->H' b=some o)->F D x v H->F D x v H')
  (hok:∀ H,Zaj H1 H->Ok H)
  (ht:∀ x H (R:Bool->Hp->Prop),Zaj H1 H->x∈xs->(∀ H',Zaj H H'->R (p x) H')->tt (some x :: js.map λj=>(σ[j]?).join) H R)
  (he:∀ D x H (R:V->Hp->Prop),Zaj H1 H->(∃ ys,H D=some (.lst ys))->H1 D=none->x∈xs->p x=true->(∀ v H',Zaj H H'->F D x v H'->R v H')->te (some x :: js.map λj=>(σ[j]?).join) H R)
  (hd:∀ D H' ys,H1 D=none->Zaj H1 H'->H' D=some (.lst ys)->Paired (λx v=>F D x v H') (xs.filter p) ys->Q (.ref D) H'):
  compBody 1 js (Zgy 0) tt te σ Q J H1:=by
 refine Zcc R hz (λD i ys σ' H=>H1 D=none/\Zaj H1 H/\H D=some (.lst ys)/\Paired (λx v=>F D x v H) ((xs.take i).filter p) ys/\∃ o,σ'=o :: js.map λj=>(σ[j]?).join) ?_ ?_ ?_ ?_
 ·intro D hD;exact⟨hD,λb o e=>by rw[Zab (nNo e hD)];exact e,uS,by simpa using Paired.nil,none,Y⟩
 ·rintro D i ys σ' H hi ⟨hD,hs,hl,hp,_⟩;refine⟨hok H hs,?_⟩;rw[<- hp.length];exact Yv1 (Yz2 _ _) (by rw[Yk1];omega)
 ·rintro D i x ys σ' H hD hx ⟨_,hs,hl,hp,o,rfl⟩;show tt (some x :: js.map λj=>(σ[j]?).join) H _;have hm:x∈xs:=Yf hx;refine ht x H _ hs hm λH4 s4=>?_;have hs4:Zaj H1 H4:=hs.trans s4;have mono:∀ {H H':Hp},(∀ b o,b≠D->H b=some o->H' b=some o)->Paired (λx v=>F D x v H) ((xs.take i).filter p) ys->Paired (λx v=>F D x v H') ((xs.take i).filter p) ys:=λh q=>Paired.mapP q λa b z=>hF D a b _ _ h z;cases hpx:p x with
  | true =>
   rw[if_pos rfl];refine he D x H4 _ hs4 ⟨_,s4 _ _ hl⟩ hD hm hpx λv H5 s5 f5=>⟨s5 _ _ (s4 _ _ hl),hD,λb o e=>?_,uS,?_,Z⟩
   ·rw[Zab (nNo e hD)];exact s5 _ _ (hs4 _ _ e)
   ·rw[take_succ_filter p xs i x hx,hpx,if_pos rfl];refine Yn2 (mono (λb o hb e=>by rw[Zab hb];exact s5 _ _ (s4 _ _ e)) hp) (hF D _ _ _ _ (λb o hb e=>by rw[Zab hb];exact e) f5)
  | false =>
   rw[if_neg Yq];refine⟨hD,hs4,s4 _ _ hl,?_,Z⟩;rw[take_succ_filter p xs i x hx,hpx,if_neg Yq,Yy1];exact mono (λb o _ e=>s4 _ _ e) hp
 ·rintro D ys σ' H hD ⟨_,hs,hl,hp,_⟩;rw[Yp1]at hp;exact hd D H ys hD hs hl hp
section
variable {X:Cx}
def Z3m:V->LV->Hp->VK->Prop:=λx vs H Q=>∃ l xs i y,x=.ref l/\vs=[.int i,y]/\H l=some (.lst xs)/\0<=i/\i<=xs.length/\xs.length<sizeLine/\Q .non (upd H l (.lst (xs.take i.toNat++y :: xs.drop i.toNat)))
def Zpc:MtM X "list.insert" Z3m:=by
 intro pins s σ H x vs v us Q I rx rv h;obtain⟨l,xs,i,y,rfl,rfl,hH,h0,h1,hz,q⟩:=h;cases rx;obtain⟨u,w',rfl,⟨t,rfl⟩,ru⟩:=Z5s rv;obtain⟨z,its,n,r,hl,e⟩:=I.lstM hH;have hs:sizeLine=16777216:=sizeLine_eq;have hc:¬ (!Builtin.List.listFitsIndex i)=true:=by
  have:Builtin.List.listFitsIndex i=true:=by
   unfold Builtin.List.listFitsIndex;simp;omega
  rw[this];decide
 refine call_meets F.slot_list_insert ⟨_,e,Y⟩ F.entry_list_insert (F.args_list_insert_3 _ _ _) (PySem.AutoSeq1.list_insert_list_int_val_1 l its.toArray n i t w' hc (by rw[Yn];omega)) ⟨e,?_⟩;have hk:(if i<0 then(i + (its.toArray.size:Int)).toNat else min i.toNat its.toArray.size)=i.toNat:=by
  rw[if_neg (by omega),Yn];omega
 refine⟨.non,_,I.lset (its':=its.take i.toNat++w' :: its.drop i.toNat) hH e ?_ ?_ ?_,Y,q⟩
 ·show(its.toArray.extract 0 (if i<0 then(i + (its.toArray.size:Int)).toNat else min i.toNat its.toArray.size)).push w'++its.toArray.extract (if i<0 then(i + (its.toArray.size:Int)).toNat else min i.toNat its.toArray.size)=_;rw[hk];apply Array.ext';simp;exact Ym2 (by rw[Yv2];exact Yg _)
 ·exact(r.take _).append (.cons ru (r.drop _))
 ·rw[Yc,Yv,Yk1,Yv2];omega
def Zom{a:Expr}{ta:TE}{p1 p2 pos1 pos2:Pos}(hc:X.calm=true)(ha:PE X a ta)(hg1:Gl X "list")(hm1:X.mg "list"=none)(hg2:Gl X "range")(hm2:X.mg "range"=none)
  (hs:starEach [a] X.env=[(false,eval a X.env)]:=by rfl)
  (hs2:starEach [.Call (.Name "range" p2) [a] [] pos2] X.env=[(false,eval (.Call (.Name "range" p2) [a] [] pos2) X.env)]:=by rfl):
  PE X (.Call (.Name "list" p1) [.Call (.Name "range" p2) [a] [] pos2] [] pos1) (λσ H Q=>Z28 ta Z8b σ H λvs H1=>∃ j:Int,vs=[.int j]/\0<=j/\j<=1000000/\∀ l,H1 l=none->Q (.ref l) (upd H1 l (.lst (Zdo 0 j.toNat)))):=by
 ac_rfl;refine wpAny_Call_Name_kw (Ze0 I hg1 hm1 Yp2 ?_ (by decide) (by decide));refine Yw1 ?_ hs2 rfl;refine Yv5 ?_;refine wpAny_Call_Name_kw (Ze0 I hg2 hm2 boot_range ?_ (by decide) (by decide));refine Yw1 ?_ hs rfl;have pa:PA X [a] (Z28 ta Z8b):=pC ha Zaa hs;refine thn (pa pos2 pins s σ H (λvs H1=>∃ j:Int,vs=[.int j]/\0<=j/\j<=1000000/\∀ l,H1 l=none->Q (.ref l) (upd H1 l (.lst (Zdo 0 j.toNat)))) I h) λus s1 ⟨vs,H1,I1,r1,q1⟩=>?_;obtain⟨j,e,h0,h1,q⟩:=q1;subst e;obtain⟨u,rfl,t,rfl⟩:=Zix r1;refine call_range_1 (Calls.spliced_nil ?_);have I2:Inv X pins σ H1 {s1 with heap:=s1.heap.push {cls:=.type "range",data:=.fields #[.int 0 s1.toks,.int j t,.int 1 (s1.toks + 1)] },toks:=s1.toks + 1 + 1}:=I1.kept λb o e=>Yd _ e;refine call_list_range (n:=j.toNat) (I1.ok.hd hc) (IsRange.new ..) (small_one (by decide) (by decide) (by omega) (by omega)) (by rw[rangeSize_one];split <;> omega) (by omega) λh' tk acc' c' hk hS' hacc=>?_;obtain⟨a1,a2⟩:=hacc;have hnew:H1 (s1.heap.push {cls:=.type "range",data:=.fields #[.int 0 s1.toks,.int j t,.int 1 (s1.toks + 1)] }).objs.size=none:=I2.hok.fresh (Yg _);refine⟨.ref _,_,I2.laid (o:=.lst (Zdo 0 j.toNat)) hk (Yg _) ⟨?_,acc'.toList,c',?_,by simpa using hS'⟩,Y,q _ hnew⟩
 ·rw[Za3];exact Zqo (by omega)
 ·have len:(Zdo 0 j.toNat).length=acc'.toList.length:=by rw[Za3,Yg3,a1]
  exact Zj5 len λi v u hv hu=>by
   obtain⟨hi,e⟩:=Za7 hv;obtain⟨t',e'⟩:=a2 i u (by rw[<- Yn4];exact hu);rw[e,e'];exact⟨t',by rw[Int.mul_one]⟩
end
end L2
namespace Graph
variable {α:Type}[DecidableEq α]
inductive Reach(ups:α->List α):α->α->Prop
 | refl (a:α):Reach ups a a
 | step {a b c:α}:b∈ups a->Reach ups b c->Reach ups a c
def Reach.trans{ups:α->List α}{a b c:α}(h:Reach ups a b)(k:Reach ups b c):Reach ups a c:=by
 induction h with
 | refl=>exact k
 | step m _ ih=>exact .step m (ih k)
def Reach.one{ups:α->List α}{a b:α}(h:b∈ups a):Reach ups a b:=.step h (.refl b)
def Reach.snoc{ups:α->List α}{a b c:α}(h:Reach ups a b)(k:c∈ups b):Reach ups a c:=h.trans (.one k)
def Reach.rank{ups:α->List α}{rk:α->Nat}(hr:∀ a b,b∈ups a->rk b<rk a){a b:α}(h:Reach ups a b):rk b<=rk a:=by
 induction h with
 | refl=>exact Yg _
 | step m _ ih=>have:=hr _ _ m;omega
def Reach.rank_lt{ups:α->List α}{rk:α->Nat}(hr:∀ a b,b∈ups a->rk b<rk a){a b:α}(h:Reach ups a b)(hne:a≠b):rk b<rk a:=by
 cases h with
 | refl=>exact absurd rfl hne
 | step m k =>
  have h1:=hr _ _ m;have h2:=Reach.rank hr k;omega
def kept(ups:α->List α)(left:List α):List α:=left.filter λw=>(ups w).any λu=>decide (u∈left)
def kept_sub{ups:α->List α}{left:List α}{w:α}(h:w∈kept ups left):w∈left:=(Yr3.mp h).1
def kept_le(ups:α->List α)(left:List α):(kept ups left).length<=left.length:=Yz2 _ _
theorem Zmc{p:α->Bool}:∀ {l:List α},(l.filter p).length=l.length->l.filter p=l
 | [],_=>rfl
 | a :: r,h=>by
  have hle:=Yz2 p r;rw[Yj4]at h ⊢;cases hp:p a with
  | true =>
   rw[hp,if_pos rfl,Yv,Yv]at h;rw[if_pos rfl,Zmc (by omega)]
  | false =>
   rw[hp,if_neg Yq,Yv]at h;omega
theorem Zsv(rk:α->Nat):∀(l:List α),l≠[]->∃ m,m∈l/\∀ x∈l,rk m<=rk x
 | [],h=>absurd rfl h
 | a :: r,_=>by
  by_cases hr:r=[]
  ·subst hr;exact⟨a,by simp,λx hx=>by simp at hx;subst hx;exact Yg _⟩
  ·obtain⟨m,hm,hx⟩:=Zsv rk r hr;by_cases hc:rk a<=rk m
   ·refine⟨a,by simp,λx hx'=>?_⟩
    rcases Yt.mp hx' with e | e
    ·subst e;exact Yg _
    ·exact Yv1 hc (hx x e)
   ·refine⟨m,Ys _ hm,λx hx'=>?_⟩
    rcases Yt.mp hx' with e | e
    ·subst e;omega
    ·exact hx x e
def kept_nil{ups:α->List α}{left:List α}{rk:α->Nat}(hr:∀ a∈left,∀ b∈ups a,rk b<rk a)(h:(kept ups left).length=left.length):left=[]:=by
 refine Yr4 λhne=>?_;obtain⟨m,hm,hx⟩:=Zsv rk left hne;have e:kept ups left=left:=Zmc h;rw[<- e]at hm;obtain⟨h1,h2⟩:=Yr3.mp hm;obtain⟨u,hu,hd⟩:=Ym3.mp h2;have hl:u∈left:=Je hd;have a:=hr m h1 u hu;have b:=hx u hl;omega
theorem nodup_le:∀ {l k:List α},l.Nodup->(∀ x∈l,x∈k)->l.length<=k.length
 | [],k,_,_=>Yj1 _
 | a :: r,k,hn,hs=>by
  obtain⟨h1,h2⟩:=Yt1.mp hn;have ha:a∈k:=hs a (by simp);have:=nodup_le (k:=k.erase a) h2 λx hx=>(List.mem_erase_of_ne (λ(e:x=a)=>h1 (by rw[<- e];exact hx))).mpr (hs x (Ys _ hx));rw[List.length_erase_of_mem ha]at this;have hpos:0<k.length:=List.length_pos_of_mem ha;rw[Yv];omega
def closed_reach{ups:α->List α}{S:α->Prop}(hc:∀ x,S x->∀ y∈ups x,S y){a b:α}(h:Reach ups a b)(ha:S a):S b:=by
 induction h with
 | refl=>exact ha
 | step m _ ih=>exact ih (hc _ ha _ m)
end Graph
namespace Md
open PySem L2
abbrev letters:Str:="abcdefghijklmnopqrstuvwxyz"
def Zjd(c:Nat):Bool:=decide (97<=c/\c<=122)
def Zam(x:Str):Bool:=decide (1<=x.length/\x.length<=8)&&x.cps.toList.all Zjd
def Zhm:letters.cps.toList=[97,98,99,100,101,102,103,104,105,106,107,108,109,110,111,112,113,114,115,116,117,118,119,120,121,122]:=by rfl'
def Zud{i:Nat}(h:i<26):letters.cps.toList[i]?=some (97 + i):=by
 rw[Zhm];have:∀ i:_root_.Fin 26,([97,98,99,100,101,102,103,104,105,106,107,108,109,110,111,112,113,114,115,116,117,118,119,120,121,122]:LN)[i.1]?=some (97 + i.1):=by decide
 exact this ⟨i,h⟩
def Zq7:letters.cps.toList=(List.range 26).map (97 + ·):=by rw[Zhm];rfl
def Z7m(c:Nat):(!(Builtin.Str.occurrences letters ⟨#[c]⟩ 0 letters.length 1).isEmpty)=Zjd c:=by
 rw[StrLaws.found_one,Zq7];unfold Zjd;rw[decide_eq_decide,Yh];constructor
 ·rintro⟨a,ha,rfl⟩;have:=Yt2.mp ha;omega
 ·intro h;exact⟨c - 97,Yt2.mpr (by omega),W⟩
def Zbx(x:Str):x.cps.toList.length=x.length:=by simp[Str.length]
def Zxo(c:Nat):(⟨#[c]⟩:Str).length=1:=rfl
def Zxp(x y:Str):(x++y).length=x.length + y.length:=by
 show(x.cps++y.cps).size=_;rw[Array.size_append];rfl
def Zhr(x y:Str):(x++y).cps.toList=x.cps.toList++y.cps.toList:=by
 show(x.cps++y.cps).toList=_;rw[Yn5]
def str_ext{x y:Str}(h:x.cps.toList=y.cps.toList):x=y:=by
 cases x;cases y
 congr 1
 exact Array.ext' h
def Z4m:V->V
 | .str y=>.bl (!(Builtin.Str.occurrences letters y 0 letters.length 1).isEmpty)
 | _=>.non
def Zv2(x:Str):((Zb9 x).filter λ_=>true).map Z4m=(x.cps.toList.map Zjd).map V.bl:=by
 rw[Yr2.mpr λ_ _=>rfl];unfold Zb9;rw[Ye2,Ye2];refine Yt3 λc _=>?_;show V.bl _=V.bl _;rw[Z7m]
def Zb0(x:Str):Zam x=true↔(1<=x.cps.toList.length/\x.cps.toList.length<=8)/\∀ c∈x.cps.toList,Zjd c=true:=by
 unfold Zam;rw[Yl1,decide_eq_true_eq,Yq1,Zbx]
def Zbu{x:Str}(h:Zam x=true):1<=x.length/\x.length<=8:=by
 have:=((Zb0 x).mp h).1
 rwa [Zbx]at this
def Zgl{x:Str}(h:Zam x=true):PyData.strOk x=true:=by
 unfold PyData.strOk;rw[Array.all_eq_true'];intro c hc;have:=((Zb0 x).mp h).2 c (by simpa using hc);have:=Je this;exact Jb (by omega)
def Zbn(n:Nat):LN:=(97 + n % 26):: (if h:n / 26=0 then[]else Zbn (n / 26))
termination_by n
decreasing_by omega
def Zdx(n:Nat):Zbn n=(97 + n % 26):: (if n / 26=0 then[]else Zbn (n / 26)):=by
 rw[Zbn];by_cases h:n / 26=0
 ·rw[dif_pos h,if_pos h]
 ·rw[dif_neg h,if_neg h]
theorem Zgw:∀(k n:Nat),n<26 ^ (k + 1)->(Zbn n).length<=k + 1
 | 0,n,h=>by
  rw[Zdx,if_pos (by have:n<26:=h;omega)];exact Yg _
 | k + 1,n,h=>by
  rw[Zdx];by_cases h0:n / 26=0
  ·rw[if_pos h0];simp
  ·rw[if_neg h0,Yv];have:=Zgw k (n / 26) (Nat.div_lt_of_lt_mul (by rw[Nat.pow_succ]at h;omega));omega
def Zpl(n:Nat):∀ c∈Zbn n,Zjd c=true:=by
 induction n using Nat.strongRecOn with
 | ind n ih =>
  rw[Zdx];intro c hc
  rcases Yt.mp hc with e | hc
  ·rw[e];exact Jb (by omega)
  ·by_cases h0:n / 26=0
   ·rw[if_pos h0]at hc;cases hc
   ·rw[if_neg h0]at hc;exact ih (n / 26) (by omega) c hc
def Z5t:LN->Nat
 | []=>0
 | c :: r=>(c - 97) + 26 * Z5t r
def Zpj(n:Nat):Z5t (Zbn n)=n:=by
 induction n using Nat.strongRecOn with
 | ind n ih =>
  rw[Zdx];unfold Z5t;by_cases h0:n / 26=0
  ·rw[if_pos h0];unfold Z5t;omega
  ·rw[if_neg h0,ih (n / 26) (by omega)];omega
def Zb7(n:Nat):Str:=⟨(Zbn n).toArray⟩
def Zgg(n:Nat):(Zb7 n).cps.toList=Zbn n:=by simp[Zb7]
def Zpi{a b:Nat}(h:Zb7 a=Zb7 b):a=b:=by
 have:=congrArg (λs:Str=>Z5t s.cps.toList) h;simpa[Zgg,Zpj]using this
def Zpk(n:Nat):1<=(Zbn n).length:=by rw[Zdx];simp
def Zgf{n:Nat}(h:n<26 ^ 8):Zam (Zb7 n)=true:=by
 rw[Zb0,Zgg];exact⟨⟨Zpk n,Zgw 7 n h⟩,Zpl n⟩
def Z07(j:Int)(n:Nat)(h:0<=j):Builtin.Str.strSliceIndices none (some j) 1 n=List.range (min j.toNat n):=by
 unfold Builtin.Str.strSliceIndices sliceRange;have h1:¬ j<0:=by omega
 simp only[show(1:Int) > 0 by decide,if_true,if_neg h1];have e:(max (0:Int) (min j (n:Int)))=((min j.toNat n:Nat):Int):=by omega
 rw[e];have e2:(if(0:Int)<((min j.toNat n:Nat):Int)then(((min j.toNat n:Nat):Int) - 0 + 1 - 1) / 1 else 0)=((min j.toNat n:Nat):Int):=by
  split
  ·rw[Int.ediv_one];omega
  ·omega
 rw[e2,Yf4];have:∀ l:LN,l.map (λ(k:Nat)=>((0:Int) + 1 * (k:Int)).toNat)=l:=λl=>by
  conv=>rhs;rw[<- List.map_id l]
  refine Yt3 λk _=>?_;show _=k;omega
 exact this _
theorem Zjr(l:LN):∀ m,m<=l.length->(List.range m).filterMap (λi=>l.toArray[i]?)=l.take m
 | 0,_=>by simp
 | m + 1,h=>by
  rw[List.range_succ,List.filterMap_append,Zjr l m (by omega),Ym1];have:m<l.length:=h;simp[this]
def Zi1(x:Str)(j:Int)(h:0<=j):(Txt.slice x none (some j)).cps.toList=x.cps.toList.take j.toNat:=by
 unfold Txt.slice;rw[Z07 j x.length h];have hl:=Zbx x;split
 ·rename_i hc
  have:min j.toNat x.length=x.length:=by simpa using hc
  rw[Ym2 (by omega)]
 ·have q:=Zjr x.cps.toList (min j.toNat x.length) (by omega);have e:x.cps.toList.toArray=x.cps:=by simp
  rw[e]at q;show((List.range (min j.toNat x.length)).filterMap (x.cps[·]?)).toArray.toList=_;rw[List.toList_toArray,q];by_cases hj:j.toNat<=x.length
  ·rw[Ys5 hj]
  ·rw[Nat.min_eq_right (by omega),Ym2 (by omega),Ym2 (by omega)]
def Zj4(o:HO):Prop:=∃ r b:Int,o=.lst [.int r,.int b]/\0<=r/\r<10 ^ 256/\0<=b/\b<2147483647
structure Drawn(p:Addr)(H H':Hp):Prop where
 keep:∀ b o,b≠p->H b=some o->H' b=some o
 pot:∃ o,H' p=some o/\Zj4 o
def Drawn.refl{p:Addr}{H:Hp}(h:∃ o,H p=some o/\Zj4 o):Drawn p H H:=⟨λ_ _ _ e=>e,h⟩
def Drawn.trans{p:Addr}{H H1 H2:Hp}(a:Drawn p H H1)(b:Drawn p H1 H2):Drawn p H H2:=⟨λc o hc e=>b.keep c o hc (a.keep c o hc e),b.pot⟩
theorem Drawn.upd{p:Addr}{H:Hp}{o:HO}(h:Zj4 o):Drawn p H (L2.upd H p o):=⟨λb u hb e=>by rw[Zab hb];exact e,_,uS,h⟩
def Drawn.new{p q:Addr}{H H':Hp}{o:HO}(d:Drawn p H H')(hq:H' q=none):Drawn p H (L2.upd H' q o):=
 ⟨λb u hb e=>by rw[Zab (nNo (d.keep b u hb e) hq)];exact d.keep b u hb e,by
  obtain⟨u,h1,h2⟩:=d.pot;exact⟨u,by rw[Zab (nNo h1 hq)];exact h1,h2⟩⟩
def Drawn.same{p:Addr}{H H1 H2:Hp}(d:Drawn p H H1)(s:Zaj H1 H2):Drawn p H H2 :=
 ⟨λb u hb e=>s _ _ (d.keep b u hb e),by obtain⟨u,h1,h2⟩:=d.pot;exact⟨u,s _ _ h1,h2⟩⟩
def Drawn.sub{p q:Addr}{H H1 H2:Hp}{o':HO}(d:Drawn p H H1)(k:∀ b o,b≠q->H1 b=some o->H2 b=some o)(hq:H q=none)(hp:p≠q):Drawn p H H2 :=
 ⟨λb u hb e=>k _ _ (nNo e hq) (d.keep b u hb e),by obtain⟨u,h1,h2⟩:=d.pot;exact⟨u,k _ _ hp h1,h2⟩⟩
def _root_.L2.SqL.mono_new{K:Fg}{H:Hp}{a q:Addr}{xs:LV}{o:HO}(h:SqL K H a xs)(hq:H q=none):SqL K (L2.upd H q o) a xs :=
 Zaj.seq (λb u e=>by rw[Zab (nNo e hq)];exact e) h
def Zav{n:Nat}(h:n<=100000):n<sizeLine:=by rw[sizeLine_eq];omega
def Zrx:List Expr->Option (LS)
 | []=>some []
 | .Constant (.str x) _ _ :: r=>(Zrx r).map (x :: ·)
 | _=>none
def Zwu{X:Cx}:∀ {es:List Expr}{ws:LS},Zrx es=some ws->PA X es (λ_ H Q=>Q (ws.map V.str) H):=by
 intro es
 induction es with
 | nil =>
  intro ws h;have e:ws=[]:=(Ym h).symm;subst e;exact Zaa
 | cons e r ih =>
  intro ws h;cases e with
  | Constant c j p =>
   cases c with
   | str x =>
    have h':(Zrx r).map (x :: ·)=some ws:=h;obtain⟨vs,h1,h2⟩:=Yf1.mp h';subst h2;exact pC Zbp (ih h1) rfl
   | _=>exact nomatch (show(none:Option (LS))=some ws from h)
  | _=>exact nomatch (show(none:Option (LS))=some ws from h)
theorem Zje(x:Str):∀ ws:LS,inV (.str x) (ws.map V.str)=decide (x∈ws)
 | []=>rfl
 | w :: r=>by
  have ih:=Zje x r;unfold inV at ih ⊢;rw[Yz,Yq4,ih];show((w == x) || decide (x∈r))=decide (x∈w :: r);rw[Yh3];simp only[Bool.or_eq_true,beq_iff_eq,decide_eq_true_eq,Yt];constructor
  ·rintro(h | h)
   ·exact .inl h.symm
   ·exact .inr h
  ·rintro(h | h)
   ·exact .inl h.symm
   ·exact .inr h
def Zg1(ws:LS):(ws.map V.str).all Znh=true:=by
 rw[Yq1];intro v hv;obtain⟨w,_,e⟩:=Yh.mp hv;rw[<- e];rfl
theorem Zd6{K:Fg}{H:Hp}:∀ ws:LS,Reps K H (ws.map V.str) (ws.map W.Dat.str)
 | []=>.nil
 | w :: r=>.cons (.str w) (Zd6 r)
abbrev Row:=Str×LS
def Z5e(H:Hp)(r:Str×LS)(v:V):Prop:=∃ t u,v=.ref t/\H t=some (.tup [.str r.1,.ref u])/\H u=some (.tup (r.2.map V.str))
def Ze3(H:Hp)(l:Addr)(rows:RS):Prop:=∃ vs,H l=some (.lst vs)/\Paired (Z5e H) rows vs
structure Zc4(rows:RS):Prop where
 ne:1<=rows.length
 le:rows.length<=24
 word:∀ r∈rows,Zam r.1=true
 nd:(rows.map (·.1)).Nodup
 few:∀ r∈rows,r.2.length<=8
 known:∀ r∈rows,∀ u∈r.2,u∈rows.map (·.1)
 upnd:∀ r∈rows,r.2.Nodup
 rank:∃ rk:Str->Nat,∀ r∈rows,∀ u∈r.2,rk u<rk r.1
def Zie(ws:LS)(uf:List (LN))(os:LN):RS:=os.map λj=>(ws.getD j "",(uf.getD j []).map λi=>ws.getD i "")
def Z4o{ws:LS}{uf:List (LN)}{os:LN}{m:Nat}(hm0:1<=m)(hm:m<=24)(hw:∀ x∈ws,Zam x=true)(hn:ws.Nodup)(hl:ws.length=m)(hu:∀(k:Nat) (js:LN),uf[k]?=some js->(∀ j∈js,j<k)/\js.Nodup/\js.length<=8)(hul:uf.length=m)
  (on:os.Nodup) (om:∀ j,j∈os↔j<m) (ol:os.length=m):Zc4 (Zie ws uf os):=by
 have at_:∀ {j:Nat},j<m->ws.getD j ""∈ws/\ws[j]?=some (ws.getD j ""):=λ{j} h=>by
  have hj:j<ws.length:=by omega
  rw[Yo,Yb hj];exact⟨Yw3 hj,Y⟩
 have inj:∀ {i j:Nat},i<m->j<m->ws.getD i ""=ws.getD j ""->i=j:=λ{i j} hi hj e=>by
  have a:=(at_ hi).2;have b:=(at_ hj).2;rw[e]at a;exact Zhk hn a b
 have ups:∀ {j:Nat},j<m->∃ js,uf.getD j []=js/\(∀ i∈js,i<j)/\js.Nodup/\js.length<=8:=λ{j} h=>by
  have hj:j<uf.length:=by omega
  have e:uf[j]?=some (uf.getD j []):=by rw[Yo,Yb hj];rfl
  exact⟨Z,hu j _ e⟩
 have mem:∀ {r:Str×LS},r∈Zie ws uf os->∃ j,j<m/\r=(ws.getD j "",(uf.getD j []).map λi=>ws.getD i ""):=λ{r} h=>by
  obtain⟨j,hj,e⟩:=Yh.mp h;exact⟨j,(om j).mp hj,e.symm⟩
 have words:(Zie ws uf os).map (·.1)=os.map λj=>ws.getD j "":=by
  unfold Zie;rw[Ye2];rfl
 refine⟨by unfold Zie;rw[Ya];omega,by unfold Zie;rw[Ya];omega,λr hr=>?_,?_,λr hr=>?_,λr hr u hu'=>?_,λr hr=>?_,λx=>ws.idxOf x,λr hr u hu'=>?_⟩
 ·obtain⟨j,hj,rfl⟩:=mem hr;exact hw _ (at_ hj).1
 ·rw[words,Yo2,List.pairwise_map];refine(Yo2.mp on).imp_of_mem λ{a b} ha hb h e=>h (inj ((om a).mp ha) ((om b).mp hb) e)
 ·obtain⟨j,hj,rfl⟩:=mem hr;obtain⟨js,e,_,_,h8⟩:=ups hj;show((uf.getD j []).map λi=>ws.getD i "").length<=8;rw[Ya,e];exact h8
 ·obtain⟨j,hj,rfl⟩:=mem hr;obtain⟨i,hi,e⟩:=Yh.mp hu';obtain⟨js,e',hb,_⟩:=ups hj;rw[e']at hi;have hij:=hb i hi;rw[words];exact Yh.mpr ⟨i,(om i).mpr (by omega),e⟩
 ·obtain⟨j,hj,rfl⟩:=mem hr;obtain⟨js,e',hb,hnd,_⟩:=ups hj;show((uf.getD j []).map λi=>ws.getD i "").Nodup;rw[e',Yo2,List.pairwise_map];refine(Yo2.mp hnd).imp_of_mem λ{a b} ha hb' h e=>h (inj (by have:=hb a ha;omega) (by have:=hb b hb';omega) e)
 ·obtain⟨j,hj,rfl⟩:=mem hr;obtain⟨i,hi,e⟩:=Yh.mp hu';obtain⟨js,e',hb,_⟩:=ups hj;rw[e']at hi;have hij:=hb i hi;have ix:∀ {j:Nat},j<m->ws.idxOf (ws.getD j "")=j:=λ{j} h=>by
   have a:=(at_ h).1;have lt:ws.idxOf (ws.getD j "")<ws.length:=List.idxOf_lt_length_iff.mpr a;have g:ws[ws.idxOf (ws.getD j "")]?=some (ws.getD j ""):=by rw[Yb lt,List.getElem_idxOf lt]
   exact Zhk hn g (at_ h).2
  show ws.idxOf u<ws.idxOf (ws.getD j "");rw[<- e,ix hj,ix (by omega)];exact hij
end Md
namespace L2
open PySem PySem.Spec PyProof.Rows
section
variable {X:Cx}{tg:Expr}
def SqB(K:Fg)(b:Bool)(H:Hp)(a:Addr)(xs:LV):Prop:=if b=true then SqL K H a xs else SqT K H a xs
def SqB.mono{K:Fg}{b:Bool}{H H':Hp}{a:Addr}{xs:LV}(h:SqB K b H a xs)(s:Zaj H H'):SqB K b H' a xs:=by
 cases b with
 | true=>exact s.seq (show SqL K H a xs from h)
 | false=>exact s.tup (show SqT K H a xs from h)
def Itq(K:Fg)(b:Bool)(a:Addr)(xs:LV):It:=⟨λi H=>i<xs.length/\SqB K b H a xs,λi H x H'=>H'=H/\xs[i]?=some x,λi H=>xs.length<=i/\SqB K b H a xs⟩
def Zhf{K:Fg}{b:Bool}{a:Addr}{xs:LV}:Zqf (Itq K b a xs) xs (λH=>SqB K b H a xs) where
 go:=λi x H ok hx=>⟨(Yi.mp hx).1,ok⟩
 yld:=λi x H y H' ok hx h=>by
  obtain⟨e,h⟩:=h;rw[hx]at h;exact⟨(Ym h).symm,e⟩
 stop:=λH ok=>⟨Yg _,ok⟩
def Zqe.imp{P:Program}{w:World}{K:Fg}{tg:Expr}{J J':It}{fp:List Addr}{it:Addr}{tn:Nat->Heap->Prop}(T:Zqe P w K tg J fp it tn)(hgo:∀ i H,J'.go i H->J.go i H)
  (hy:∀ i H x H',J'.go i H->J.yld i H x H'->J'.yld i H x H') (hs:∀ i H,J'.stop i H->J.stop i H):Zqe P w K tg J' fp it tn where
 mem:=T.mem
 obj:=T.obj
 keep:=T.keep
 item:=λX h1 h2 h3 h4 i pins s σ H E I hf st g=>thn (T.item X h1 h2 h3 h4 i pins s σ H E I hf st (hgo i H g)) λr s1 ⟨u,e,h⟩=>⟨u,e,thn h λ_ s2 ⟨x,H',I',r',y,t,f⟩=>⟨x,H',I',r',hy i H x H' g y,t,f⟩⟩
 done:=λX h1 h2 h3 h4 i pins s σ H E I hf st g=>T.done X h1 h2 h3 h4 i pins s σ H E I hf st (hs i H g)
 self:=T.self
def Yd5(K:Fg)(tl:TE):TI:=λσ H R=>tl σ H λx H1=>∃ b a xs,x=.ref a/\SqB K b H1 a xs/\R (Itq K b a xs) H1
def Zl1{l:Expr}{tl:TE}(hl:PE X l tl):PI X tg l (Yd5 X.K tl):=by
 intro pins s σ H R I h;refine thn (hl pins s σ H _ I h) λv s1 ⟨x,H1,I1,r1,q1⟩=>?_;obtain⟨b,a,xs,e,hq,q⟩:=q1;subst e;cases r1;have fp:∀ b∈[s1.heap.objs.size],Zrq X pins H1 b:=λb hb=>by
  have e:b=s1.heap.objs.size:=by simpa using hb
  subst e;exact I1.fpOk (Yg _) (I1.hok.fresh (Yg _))
 have get:∀ {i:Nat} {ys:LV},i<ys.length->∃ y,ys[i]?=some y:=λ{i ys} h=>⟨ys[i],by simp[h]⟩;cases b with
 | true =>
  have hq:SqL X.K H1 a xs:=hq;obtain⟨its,rv,p,hz⟩:=I1.list hq;refine wpAny_pyIter_list p.isList ?_;refine⟨s1.heap.objs.size,[s1.heap.objs.size],_,Itq X.K true a xs,H1,Y,I1.kept (t':=s1.toks) λb o e=>Yd _ e,(Zn3 a _).imp (λi H g=>?_) (λi H x H' g y=>⟨y.1,y.2 xs g.2⟩) (λi H g=>⟨xs,g.2,g.1⟩),⟨_,Yp _ rfl,Y,Y⟩,fp,q⟩;obtain⟨y,hy⟩:=get g.1;exact⟨xs,y,g.2,hy⟩
 | false =>
  have hq:SqT X.K H1 a xs:=hq;obtain⟨its,rv,p,hz⟩:=I1.tuple hq;refine wpAny_pyIter_tuple (show s1.heap.IsTuple a its.toArray from p) ?_;refine⟨s1.heap.objs.size,[s1.heap.objs.size],_,Itq X.K false a xs,H1,Y,I1.kept (t':=s1.toks) λb o e=>Yd _ e,(Zlq a _).imp (λi H g=>?_) (λi H x H' g y=>⟨y.1,y.2 xs g.2⟩) (λi H g=>⟨xs,g.2,g.1⟩),⟨_,Yp _ rfl,Y,Y⟩,fp,q⟩;obtain⟨y,hy⟩:=get g.1;exact⟨xs,y,g.2,hy⟩
def Z98(to:TE):TI:=λσ H R=>to σ H λx H1=>∃ a ob kvs,x=.ref a/\H1 a=some (.frz ob (.dK kvs))/\R (Itv a ob kvs) H1
def Z3s{o:Expr}{to:TE}{apos cpos:Pos}(ho:PE X o to)(hbase:attributeBase o "values" X.env (eval o X.env)=eval o X.env:=by rfl)(hline:(apos.endLine == cpos.line)=true:=by rfl):
  PI X tg (.Call (.Attribute o "values" apos) [] [] cpos) (Z98 to):=by
 intro pins s σ H R I h;refine wpAny_Call_method0_late hbase hline (thn (ho pins s σ H _ I h) λv s1 ⟨x,H1,I1,r1,q1⟩=>?_);obtain⟨a,ob,kvs,e,ha,q⟩:=q1;subst e;obtain rfl:v=Value.ref a:=r1;obtain⟨t1,t2,t3⟩:=Zxx I1 (.inl ⟨kvs,.inr ⟨ob,ha⟩⟩);obtain⟨es,ep,hd⟩:=Znc (I1.hok a _ ha);obtain⟨hs,vs,r,dd⟩:=Zet (I1.hok a _ ha) hd;have hl:kvs.length=vs.length:=Yy r;refine⟨"dict","dict.values",Yh6,PySem.F.slot_dict_values,PySem.F.type_dict_values,t1,t2,Yl4 rfl (Ym5 ?_)⟩;refine call_meetsIn PySem.F.slot_dict_values t1 PySem.F.entry_dict_values (PySem.F.args_dict_values_1 _) (meets_dict_values (Zbe X.prog X.w) a t3) ⟨⟨vs,dd.dictOf⟩,?_⟩;have I2:Inv X pins σ H1 {s1 with heap:=s1.heap.push {cls:=.type "dict_values",data:=.fields #[.ref a] } }:=I1.kept (t':=s1.toks) λb o e=>Yd _ e;refine wpAny_pyIter_values (kvs:=vs) (ep:=ep) (knd:=Zbe X.prog X.w) ⟨_,Yp _ rfl,Y,Y⟩ (dd.at' λo e=>Yd _ e) ?_;refine⟨_,[_],_,_,H1,Y,I2.kept (t':=s1.toks) λb o e=>Yd _ e,Zu7 a _ ob kvs es ep hd,⟨_,Yp _ rfl,Y,by rw[hl];rfl⟩,λb hb=>?_,q⟩;have e:b=_:=Ye.mp hb;subst e;exact I2.fpOk (Yg _) (I2.hok.fresh (Yg _))
def Zhw(hc:X.calm=true):Zjk X (.type "list") (λxs H Q=>∃ a kvs,xs=[.ref a]/\Rd H a (.dK kvs)/\∀ l,H l=none->Q (.ref l) (upd H l (.lst (kvs.map λp=>kV p.1)))):=by
 intro pins s σ H xs us Q I r h;obtain⟨a,kvs,rfl,ha,q⟩:=h;obtain⟨u,rfl,ru⟩:=Zix r;cases ru;obtain⟨hz,hs,vs,rv,o,es,ep,h1,h2,h3,h4,h5,h6⟩:=Zpt I.hok ha;have hl:kvs.length=vs.length:=Yy rv;have dd:s.heap.DictAt (Zbe X.prog X.w) a vs ep:=⟨o,es,h1,h2,h3,h4,h5,h6⟩;refine W.kdl_call (W.kdl_dict (knd:=Zbe X.prog X.w) (kvs:=vs) (ep:=ep) hs) (I.ok.hd hc) dd (by rw[<- hl];exact hz) λh' tk acc' c' hk hS' hacc=>?_;obtain⟨a1,a2⟩:=hacc;refine⟨.ref _,_,I.laid (o:=.lst (kvs.map λp=>kV p.1)) hk (Yg _) ⟨by rw[Ya];exact hz,acc'.toList,c',?_,by simpa using hS'⟩,Y,q _ (I.hok.fresh (Yg _))⟩;refine Zj5 (by have z:acc'.toList.length=acc'.size:=Yg3;rw[Ya];omega) λi v u hv hu=>?_;rw[Yj]at hv;obtain⟨p,hp,e⟩:=Yf1.mp hv;obtain⟨w',hw,_⟩:=rv.get hp;obtain⟨k,x,hk1,hk2⟩:=a2 i u (by rw[<- Yn4];exact hu);rw[hw]at hk1;injection hk1 with hk1;injection hk1 with hk1 _;rw[<- e,hk1];exact Zsb hk2
def Zht.f{H:Hp}{a:Addr}{o:Obj}{kvs:KL}{k:Key}(e:H a=some (.frz o (.dK kvs))):Zht H a (kV k) (Zf0 kvs k):=.inl ⟨kvs,k,.inr ⟨o,e⟩,Y,Y⟩
end
end L2
namespace Md
open PySem L2
def Z5q(K:Fg)(H:Hp)(u:Addr)(us:LS):Prop:=H u=some (.tup (us.map V.str))\/SqL K H u (us.map V.str)
def Z5q.sq{K:Fg}{H:Hp}{u:Addr}{us:LS}(h:Z5q K H u us):∃ b,SqB K b H u (us.map V.str):=by
 rcases h with h | h
 ·exact⟨false,SqT.of h⟩
 ·exact⟨true,h⟩
def Z8i(K:Fg)(H:Hp)(r:Str×LS)(v:V):Prop:=∃ t u,v=.ref t/\SqT K H t [.str r.1,.ref u]/\Z5q K H u r.2
def Zrm(K:Fg)(H:Hp)(l:Addr)(rows:RS):Prop:=∃ b vs,SqB K b H l vs/\Paired (Z8i K H) rows vs
def Z5q.mono{K:Fg}{H H':Hp}{u:Addr}{us:LS}(h:Z5q K H u us)(s:Zaj H H'):Z5q K H' u us:=h.elim (λx=>.inl (s _ _ x)) λx=>.inr (s.seq x)
theorem Z8i.mono{K:Fg}{H H':Hp}{r:Str×LS}{v:V}(h:Z8i K H r v)(s:Zaj H H'):Z8i K H' r v:=let⟨t,u,e,a,b⟩:=h;⟨t,u,e,s.tup a,b.mono s⟩
theorem Zrm.mono{K:Fg}{H H':Hp}{l:Addr}{rows:RS}(h:Zrm K H l rows)(s:Zaj H H'):Zrm K H' l rows:=let⟨b,vs,a,p⟩:=h;⟨b,vs,a.mono s,Paired.mapP p λ_ _ z=>z.mono s⟩
def Ze3.g{K:Fg}{H:Hp}{l:Addr}{rows:RS}(h:Ze3 H l rows):Zrm K H l rows:=by
 obtain⟨vs,a,p⟩:=h;refine⟨true,vs,SqL.of a,Paired.mapP p λr v z=>?_⟩;obtain⟨t,u,e,h1,h2⟩:=z;exact⟨t,u,e,SqT.of h1,.inl h2⟩
theorem Zaz{α β:Type}{F:α->β->Prop}:∀ {l:List α}{k:List β},Paired F l k->∀ {i:Nat}{b:β},k[i]?=some b->∃ a,l[i]?=some a/\F a b
 | _,_,.nil,i,b,h=>by simp at h
 | _,_,.cons r t,0,b,h=>by simp at h;subst h;exact⟨Z,r⟩
 | _,_,.cons r t,i + 1,b,h=>by
  obtain⟨a,h1,h2⟩:=Zaz t (i:=i) (b:=b) (by simpa using h);exact⟨a,by simpa using h1,h2⟩
def Zcn{kvs:KL}{k:Key}(h:k∉kvs.map (·.1)):Zf0 kvs k=none:=by
 cases e:Zf0 kvs k with
 | none=>rfl
 | some v=>exact absurd (Zu5 e) h
def Zkj{kvs:KL}{k:Key}{v:V}(h:k∉kvs.map (·.1)):(Zdv kvs k v).map (·.1)=kvs.map (·.1)++[k]:=by
 rw[Zgc v (Zcn h),Yr];rfl
def Zgn{rows:RS}{i:Nat}{r:Str×LS}(nd:(rows.map (·.1)).Nodup)(h:rows[i]?=some r):(Sum.inr r.1:Key)∉(rows.take i).map λr=>(Sum.inr r.1:Key):=by
 intro m;obtain⟨q,hq,e⟩:=Yh.mp m;have e:q.1=r.1:=by injection e
 obtain⟨j,hj,ej⟩:=Yk5.mp hq;rw[Yk1]at hj;have hj2:rows[j]?=some q:=by
  rw[List.getElem_take]at ej;rw[Yb (by omega),ej]
 have a:(rows.map (·.1))[j]?=some r.1:=by rw[Yj,hj2,<- e];rfl
 have b:(rows.map (·.1))[i]?=some r.1:=by rw[Yj,h];rfl
 have:=Zhk nd a b;omega
def Znv(H:Hp)(rows:RS)(kvs:KL):Prop:=Paired (λr (p:Key×V)=>p.1=Sum.inr r.1/\∃ t,p.2=.ref t/\H t=some (.tup (r.2.map V.str))) rows kvs
def Znv.mono{H H':Hp}{rows:RS}{kvs:KL}(h:Znv H rows kvs)(s:∀ b xs,H b=some (.tup xs)->H' b=some (.tup xs)):Znv H' rows kvs :=
 Paired.mapP h λ_ _ z=>⟨z.1,let⟨t,e,x⟩:=z.2;⟨t,e,s _ _ x⟩⟩
theorem Znv.keys:∀ {H:Hp}{rows:RS}{kvs:KL},Znv H rows kvs->kvs.map (·.1)=rows.map λr=>(Sum.inr r.1:Key)
 | _,_,_,.nil=>rfl
 | _,_,_,.cons r t=>by rw[Yz,Yz,r.1,Znv.keys t]
def Zcl(rows:RS)(x:Str):LS:=(rows.lookup x).getD []
def Zh5{rows:RS}(nd:(rows.map (·.1)).Nodup){r:Str×LS}(h:r∈rows):Zcl rows r.1=r.2:=by
 unfold Zcl
 induction rows with
 | nil=>cases h
 | cons q rs ih =>
  have nd':(q.1 :: rs.map (·.1)).Nodup:=nd;obtain⟨n1,n2⟩:=Yt1.mp nd';obtain⟨a,b⟩:=q;rw[Yf2]
  rcases Yt.mp h with e | h
  ·subst e;simp
  ·have ne:(r.1 == a)=false:=by
    rw[beq_eq_false_iff_ne];intro e;exact n1 (Yh.mpr ⟨r,h,e⟩)
   rw[ne];exact ih n2 h
theorem Znv.val:∀ {H:Hp}{rows:RS}{kvs:KL},Znv H rows kvs->(rows.map (·.1)).Nodup->∀ {r:Str×LS},r∈rows->∃ t,Zf0 kvs (Sum.inr r.1)=some (.ref t)/\H t=some (.tup (r.2.map V.str))
 | _,_,_,.nil,_,r,h=>nomatch h
 | _,q :: rs,p :: ps,.cons z t,nd,r,h=>by
  have nd':(q.1 :: rs.map (·.1)).Nodup:=nd;obtain⟨n1,n2⟩:=Yt1.mp nd';obtain⟨z1,u,z2,z3⟩:=z
  rcases Yt.mp h with e | h
  ·subst e;exact⟨u,by rw[Zb4 z1,z2],z3⟩
  ·have ne:¬ p.1=(Sum.inr r.1:Key):=λe=>n1 (by
    rw[z1]at e;have e':q.1=r.1:=by injection e
    rw[e'];exact Yh.mpr ⟨r,h,Y⟩)
   obtain⟨u',h1,h2⟩:=Znv.val t n2 h;exact⟨u',by rw[Zb5 ne];exact h1,h2⟩
def Z96{H:Hp}{rows:RS}{kvs:KL}(h:Znv H rows kvs):(kvs.map λp=>kV p.1)=(rows.map (·.1)).map V.str:=by
 have e:(kvs.map λp=>kV p.1)=(kvs.map (·.1)).map kV:=by rw[Ye2];rfl
 rw[e,h.keys,Ye2,Ye2];rfl
end Md
namespace L2
open PySem PySem.Spec PyProof.Rows
section
variable {X:Cx}{pins:PL}{σ:St}{H H':Hp}{s:Shared}{h':Heap}
def Inv.laidMany{t':Nat}(I:Inv X pins σ H s)(k:∀ b u,s.heap.get? b=some u->h'.get? b=some u)(agree:∀ b,b<s.heap.objs.size->H' b=H b)
  (hok:∀ b o,s.heap.objs.size<=b->H' b=some o->Zcu X.prog X.w H' h' b o):Inv X pins σ H' {s with heap:=h',toks:=t' }:=by
 have low:∀ {b:Addr} {o:HO},H b=some o->H' b=some o:=λ{b o} e=>by rw[agree b (I.hok.lt e)];exact e
 refine I.un ⟨λb o e _ _ _=>k b o e,λb o e _ _ _=>⟨o.slots,k b o e⟩,λb o e n _=>by rw[agree b (Yk e)];exact n,λb o e _=>⟨o,k b o e⟩,λb xs e=>low e,λb o u e=>low e,λb ps e=>⟨#[],by rw[low e];simp⟩⟩ λb o e=>?_;by_cases hb:b<s.heap.objs.size
 ·have e':=e;rw[agree b hb]at e';exact(I.hok b o e').stay (λc v _ q=>k c v q) (λc q=>low q) λc xs q=>low q
 ·exact hok b o (Nat.le_of_not_lt hb) e
theorem Zjb{α β:Type}[BEq α][LawfulBEq α]:∀ {as:List α}{ks:List β}{a:α}{i:Nat}{k:β},as.Nodup->as[i]?=some a->ks[i]?=some k->(as.zip ks).lookup a=some k
 | [],_,_,_,_,_,h,_=>by simp at h
 | _ :: _,[],_,_,_,_,_,h=>by simp at h
 | x :: as,y :: ks,a,0,k,_,h1,h2=>by
  simp at h1 h2;subst h1;subst h2;simp
 | x :: as,y :: ks,a,i + 1,k,nd,h1,h2=>by
  obtain⟨n1,n2⟩:=Yt1.mp nd;have h1':as[i]?=some a:=by simpa using h1
  have ne:(a == x)=false:=by
   rw[beq_eq_false_iff_ne];intro e;exact n1 (e ▸ Yf h1')
  rw[List.zip_cons_cons,Yf2,ne];exact Zjb n2 h1' (by simpa using h2)
theorem Zc7{α β:Type}[BEq α][LawfulBEq α]:∀ {as:List α}{ks:List β}{a:α}{k:β},(as.zip ks).lookup a=some k->∃ i:Nat,as[i]?=some a/\ks[i]?=some k
 | [],_,_,_,h=>by simp at h
 | _ :: _,[],_,_,h=>by simp at h
 | x :: as,y :: ks,a,k,h=>by
  rw[List.zip_cons_cons,Yf2]at h;cases e:(a == x)with
  | true =>
   rw[e]at h;have e':a=x:=by simpa using e
   subst e';exact⟨0,Y,h⟩
  | false =>
   rw[e]at h;obtain⟨i,h1,h2⟩:=Zc7 h;exact⟨i + 1,by simpa using h1,by simpa using h2⟩
theorem Zde{α β:Type}{F:α->β->Prop}:∀ {l:List α}{k:List β},l.length=k.length->(∀(i:Nat) (a:α) (b:β),l[i]?=some a->k[i]?=some b->F a b)->Paired F l k
 | [],[],_,_=>.nil
 | [],_ :: _,h,_=>by simp at h
 | _ :: _,[],h,_=>by simp at h
 | a :: l,b :: k,h,f=>.cons (f 0 a b rfl rfl) (Zde (by simpa using h) λi x y hx hy=>f (i + 1) x y (by simpa using hx) (by simpa using hy))
def Zon{o:Expr}{to:TE}{p1 apos cpos pos1:Pos}(hc:X.calm=true)(ho:PE X o to)(hg1:Gl X "list")(hm1:X.mg "list"=none)
  (hbase:attributeBase o "items" X.env (eval o X.env)=eval o X.env:=by rfl) (hline:(apos.endLine == cpos.line)=true:=by rfl)
  (hs2:starEach [.Call (.Attribute o "items" apos) [] [] cpos] X.env=[(false,eval (.Call (.Attribute o "items" apos) [] [] cpos) X.env)]:=by rfl):
  PE X (.Call (.Name "list" p1) [.Call (.Attribute o "items" apos) [] [] cpos] [] pos1) (λσ H Q=>to σ H λx H1=>∃ a kvs,x=.ref a/\Rd H1 a (.dK kvs) /\
   ∀ l H' vs,H1 l=none->Zaj H1 H'->H' l=some (.lst vs)->Paired (λ(kv:Key×V) v=>∃ t,v=.ref t/\H' t=some (.tup [kV kv.1,kv.2])) kvs vs->Q (.ref l) H'):=by
 ac_rfl;refine wpAny_Call_Name_kw (Ze0 I hg1 hm1 Yp2 ?_ (by decide) (by decide));refine Yw1 ?_ hs2 rfl;refine Yv5 ?_;refine wpAny_Call_method0_late hbase hline (thn (ho pins s σ H _ I h) λv s1 ⟨x,H1,I1,r1,q1⟩=>?_);obtain⟨a,kvs,e,ha,q⟩:=q1;subst e;obtain rfl:v=Value.ref a:=r1;obtain⟨t1,t2,t3⟩:=Zxx I1 (.inl ⟨kvs,ha⟩);obtain⟨hz,hs,us,rv,ob,es,ep,h1,h2,h3,h4,h5,h6⟩:=Zpt I1.hok ha;have hl:kvs.length=us.length:=Yy rv;have dd:s1.heap.DictAt (Zbe X.prog X.w) a us ep:=⟨ob,es,h1,h2,h3,h4,h5,h6⟩;refine⟨"dict","dict.items",Yh6,Yu4,PySem.F.type_dict_items,t1,t2,Yl4 rfl (Ym5 ?_)⟩;refine call_meetsIn Yu4 t1 PySem.F.entry_dict_items (PySem.F.args_dict_items_1 _) (meets_dict_items (Zbe X.prog X.w) a t3) ⟨⟨us,dd.dictOf⟩,Calls.spliced_nil ?_⟩;have I2:Inv X pins σ H1 {s1 with heap:=s1.heap.push {cls:=.type "dict_items",data:=.fields #[.ref a] } }:=I1.kept (t':=s1.toks) λb o e=>Yd _ e;refine W.kdx_call (knd:=Zbe X.prog X.w) (kvs:=us) (ep:=ep) (d:=a) (I1.ok.hd hc) ⟨_,Yp _ rfl,Y,Y⟩ (dd.at' λo e=>Yd _ e) (by rw[<- hl];exact hz) λh' tk acc c as hk hS' hal hG hacc=>?_;generalize hsz:(s1.heap.push {cls:=.type "dict_items",data:=.fields #[.ref a] }).objs.size=L at hS' hG;have ndas:as.Nodup:=Yo2.mpr (hG.rise.imp λh=>Yx h);have hH':∀ b,b<L->(λb=>if b=L then some (HO.lst (as.map V.ref))else match (as.zip kvs).lookup b with | some kv=>some (HO.tup [kV kv.1,kv.2]) | none=>H1 b:Hp) b=H1 b:=λb hb=>by
  show(if b=L then _ else _)=_;rw[if_neg (Yx hb)];cases e:(as.zip kvs).lookup b with
  | none=>rfl
  | some kv =>
   obtain⟨i,h1,_⟩:=Zc7 e;have:=hG.above b (Yf h1);exact absurd (Yl3 hb this) (Yu3 _)
 have at_:∀(i:Nat) (b:Addr),as[i]?=some b->∃ kv:Key×V,kvs[i]?=some kv/\(λb=>if b=L then some (HO.lst (as.map V.ref))else match (as.zip kvs).lookup b with | some kv=>some (HO.tup [kV kv.1,kv.2]) | none=>H1 b:Hp) b=some (.tup [kV kv.1,kv.2]):=λi b hi=>by
  have hlt:i<kvs.length:=by
   have:=(Yi.mp hi).1;omega
  refine⟨kvs[i],by simp[hlt],?_⟩;show(if b=L then _ else _)=_;rw[if_neg (Ys1 (hG.above b (Yf hi))),Zjb ndas hi (show kvs[i]?=some kvs[i] by simp[hlt])]
 have I3:Inv X pins σ (λb=>if b=L then some (HO.lst (as.map V.ref))else match (as.zip kvs).lookup b with | some kv=>some (HO.tup [kV kv.1,kv.2]) | none=>H1 b:Hp) {s1 with heap:=h',toks:=tk}:=by
  refine I2.laidMany (t':=tk) hk (λb hb=>hH' b (by rw[<- hsz];exact hb)) λb o hb e=>?_;have e:(if b=L then some (HO.lst (as.map V.ref))else match (as.zip kvs).lookup b with | some kv=>some (HO.tup [kV kv.1,kv.2]) | none=>H1 b)=some o:=e;by_cases hbL:b=L
  ·rw[if_pos hbL]at e;cases e;refine⟨by rw[Ya,hal,<- hl];exact hz,acc.toList,c,?_,by rw[hbL];simpa using hS'⟩;rw[hacc];exact Zj5 (by simp) λi v u hv hu=>by
    rw[Yj]at hv hu;obtain⟨y,hy,ey⟩:=Yf1.mp hv;rw[hy]at hu;rw[<- ey];exact(Ym hu).symm
  ·rw[if_neg hbL]at e;cases el:(as.zip kvs).lookup b with
   | none =>
    rw[el]at e;have:=I2.hok.lt e;exact absurd (Yi1 this hb) (Yu3 _)
   | some kv =>
    rw[el]at e;cases e;obtain⟨i,hi1,hi2⟩:=Zc7 el;obtain⟨key,k,x,hu,hkey,hget⟩:=hG.pairs i b hi1;obtain⟨u,hu2,ru⟩:=rv.get hi2;rw[hu]at hu2;injection hu2 with hu2;injection hu2 with hu3 hu4;subst hu3 hu4;exact⟨U,[key,x],.cons (Zsb hkey) (.cons ru .nil),⟨_,hget,Y,Z⟩⟩
 refine⟨.ref L,_,I3,Y,q L _ (as.map V.ref) ?_ (λb o e=>?_) ?_ ?_⟩
 ·rw[<- hsz];exact I2.hok.fresh (Yg _)
 ·exact(hH' b (by rw[<- hsz];exact I2.hok.lt e)).trans e
 ·show(if L=L then _ else _)=_;rw[if_pos rfl]
 ·refine Zde (by rw[Ya,hal,hl]) λi kv v h1 h2=>?_;rw[Yj]at h2;obtain⟨b,hb,eb⟩:=Yf1.mp h2;obtain⟨kv',hk1,hk2⟩:=at_ i b hb;rw[h1]at hk1;cases hk1;exact⟨b,eb.symm,hk2⟩
end
section
variable {X:Cx}
def Z6m(K:Fg):R2:=λx y H Q=>∃ a b xs ys,x=.ref a/\y=.ref b/\SqT K H a xs/\SqT K H b ys/\xs.length + ys.length<=sizeLine /\
 (xs=[]->Q (.ref b) H)/\(xs≠[]->ys=[]->Q (.ref a) H)/\(xs≠[]->ys≠[]->∀ p,H p=none->Q (.ref p) (upd H p (.tup (xs++ys))))
def Zku:OpR X (binaryOp .Add) (Z6m X.K):=by
 exfalso;obtain⟨a,b,xs,ys,rfl,rfl,ha,hb,hz,q0,q1,q2⟩:=h;by_cases hx:xs=[]
 ·cases rx;cases ry;obtain⟨its,r1,p1,_⟩:=I.tuple ha;obtain⟨its2,r2,p2,_⟩:=I.tuple hb;have e:its=[]:=r1.nil_iff.mpr hx;obtain⟨⟨cls,dd,data,sl⟩,ho,hc,n,hd⟩:=id p1;obtain⟨⟨cls2,dd2,data2,sl2⟩,ho2,hc2,n2,hd2⟩:=id p2;simp only at hc hd hc2 hd2;subst hc hd hc2 hd2;exact concat_meets ⟨_,ho,Y⟩ ⟨_,ho2,Y⟩ noFill_tuple_add seq_tuple_add PySem.F.slot_tuple_add Yg6 (Yx5 _ _)
   (tuple_addW0 a b its.toArray its2.toArray n n2 dd dd2 sl sl2 (by simp[e])) ⟨ho,ho2,⟨.ref b,H,I,Y,q0 hx⟩⟩
 ·exact Z3w pins s σ H _ _ v u Q I rx ry ⟨a,b,xs,ys,Y,Y,ha,hb,hx,hz,q1 hx,q2 hx⟩
end
section
variable {X:Cx}{pins:PL}{σ:St}{H:Hp}{s:Shared}{h':Heap}
def Inv.turnedNew{t':Nat}{it a:Addr}{o:HO}(I:Inv X pins σ H s)(k:∀ b u,b≠it->s.heap.get? b=some u->h'.get? b=some u)(hn:H it=none)(hL:it≠X.env.locals)
  (h1:it∈X.ex\/X.s₀.heap.objs.size<=it) (h2:∀ x c,X.env.cells.lookup x=some c->c≠it) (h3:∀ p∈X.pn++pins,p.1≠it) (ha:s.heap.objs.size<=a) (new:Zcu X.prog X.w (upd H a o) h' a o):
  Inv X pins σ (upd H a o) {s with heap:=h',toks:=t' }:=by
 have nit:∀ b u,H b=some u->b≠it:=λb u e z=>by rw[z,hn]at e;cases e
 have na:∀ b u,H b=some u->b≠a:=λb u e=>Yx (Yi1 (I.hok.lt e) ha);have low:∀ {b u},H b=some u->(upd H a o) b=some u:=λ{b u} e=>by rw[Zab (na b u e)];exact e
 refine I.step (g':=s.gens) (d':=s.drawn) (ch:=[it]) (λb hb=>?_) (λb u _ _ hc e _=>k b u (λz=>hc (by simp[z])) e) (λb u _ _ hc e _=>⟨u.slots,k b u (λz=>hc (by simp[z])) e⟩)
  (λb u _ e n=>by rw[Zab (Yx (Yi1 (Yk e) ha))];exact n)
  (λb u hc e=>⟨u,k b u (λz=>hc (by simp[z])) e⟩) (λ_ _ e=>low e) (λ_ _ _ e=>low e) (λb ps e=>⟨#[],by rw[low e];simp⟩) (λm hm=>?_) (λb u e=>?_) I.bare
 ·have e:b=it:=by simpa using hb
  subst e;exact⟨h1,hL,h2,h3⟩
 ·obtain⟨o',es,ep,ho,r⟩:=hm;exact⟨o',es,ep,k _ o' (Yu hL) ho,r⟩
 ·by_cases hb:b=a
  ·subst hb;rw[uS]at e;cases e;exact new
  ·rw[Zab hb]at e;refine(I.hok b u e).stay (λc v hc q=>k c v ?_ q) (λ_ q=>low q) λ_ _ q=>low q
   rcases hc with z | z
   ·rw[z];exact nit b u e
   ·exact nit c _ z
end
def Iti(a:Addr)(o:Obj)(kvs:KL):It :=
 ⟨λi H=>i<kvs.length/\H a=some (.frz o (.dK kvs)),λi H v H'=>∃ t p,kvs[i]?=some p/\H t=none/\v=.ref t/\H'=upd H t (.tup [kV p.1,p.2]),λi H=>kvs.length<=i/\H a=some (.frz o (.dK kvs))⟩
def Ztj{P:Program}{w:World}{K:Fg}{elts:List Expr}{x1}{pos:Pos}(a it:Addr)(o:Obj)(kvs:KL)(es:Array DictEntry)(ep:Nat)(hd:o.data=.dict es ep):
  Zqe P w K (.Tuple elts x1 pos) (Iti a o kvs) [it] it (λi h=>∃ ok ov,IsItemIter h it a i kvs.length ep ok ov) where
 mem:=by simp
 obj:=λi h st b hb=>by
  have e:b=it:=by simpa using hb
  subst e;obtain⟨ok,ov,st⟩:=st;exact⟨_,st,λv z=>by cases z⟩
 keep:=λi h h' st k=>by
  obtain⟨ok,ov,st⟩:=st;exact⟨ok,ov,k it (by simp) _ st⟩
 item:=by
  intro X hP hw hK hc i pins s σ H E I hf st hg;subst hP hw hK;obtain⟨f0,f1,f2,f3,f4,f5⟩:=hf it (by simp);obtain⟨hi,ha⟩:=hg;obtain⟨ok,ov,st⟩:=st;obtain⟨_,vs,r,dd⟩:=Zet (I.hok a _ ha) hd;obtain⟨p,hp⟩:∃ p,kvs[i]?=some p:=⟨kvs[i],by simp[hi]⟩;obtain⟨u,hu,ru⟩:=r.get hp;have hl:kvs.length=vs.length:=Yy r;rw[hl]at st;refine wpAny_pyNext_items_item st dd hu λkey h' hk st' ht hz keep=>?_;refine⟨Z,?_⟩;refine wpAny_letOwnedTupleGo_items (s:={s with heap:=h' }) st' λh'' st'' sb=>?_;have itlt:it<s.heap.objs.size:=Yk st;have tne:s.heap.objs.size≠it:=Ys1 itlt;have ht2:h''.get? s.heap.objs.size=some {cls:=.type "tuple",data:=.seq #[key,u] }:=sb.extBut _ _ tne ht;have I1:Inv X pins σ (upd H s.heap.objs.size (.tup [kV p.1,p.2])) {s with heap:=h'' }:=I.turnedNew (t':=s.toks) (λb o hb e=>sb.extBut b o hb (keep b o hb e)) f0 f1 f3 f4 f5 (Yg _)
   ⟨U,[key,u],.cons (Zsb hk) (.cons ru .nil),⟨_,ht2,Y,Z⟩⟩
  refine⟨.ref s.heap.objs.size,_,I1,Y,⟨s.heap.objs.size,p,hp,I.hok.fresh (Yg _),Y,Y⟩,⟨_,_,by rw[hl];exact st''⟩,λb hb=>?_⟩;have e:b=it:=by simpa using hb
  subst e;rw[Zab (Yu tne)];exact(hf b (by simp)).1
 done:=by
  intro X hP hw hK hc i pins s σ H E I hf st hg;subst hP hw hK;obtain⟨f0,f1,f2,f3,f4,f5⟩:=hf it (by simp);obtain⟨hi,ha⟩:=hg;obtain⟨ok,ov,st⟩:=st;obtain⟨_,vs,r,dd⟩:=Zet (I.hok a _ ha) hd;have hl:kvs.length=vs.length:=Yy r;rw[hl]at st;exact wpAny_pyNext_items_end (I.ok.hd hc) st dd (by simp;omega) λh' eb=>⟨Y,I.turned (t':=s.toks) (λb o hb e=>eb b o hb e) f0 f1 f3 f4 f5⟩
 self:=λA i s Q E st h=>by
  obtain⟨ok,ov,st⟩:=st;exact W.kcp_self st h
section
variable {X:Cx}
def Z7v(to:TE):TI:=λσ H R=>to σ H λx H1=>∃ a ob kvs,x=.ref a/\H1 a=some (.frz ob (.dK kvs))/\R (Iti a ob kvs) H1
def Zzv{elts:List Expr}{x1}{tpos:Pos}{o:Expr}{to:TE}{apos cpos:Pos}(ho:PE X o to)(hbase:attributeBase o "items" X.env (eval o X.env)=eval o X.env:=by rfl)(hline:(apos.endLine == cpos.line)=true:=by rfl):
  PI X (.Tuple elts x1 tpos) (.Call (.Attribute o "items" apos) [] [] cpos) (Z7v to):=by
 intro pins s σ H R I h;refine wpAny_Call_method0_late hbase hline (thn (ho pins s σ H _ I h) λv s1 ⟨x,H1,I1,r1,q1⟩=>?_);obtain⟨a,ob,kvs,e,ha,q⟩:=q1;subst e;obtain rfl:v=Value.ref a:=r1;obtain⟨t1,t2,t3⟩:=Zxx I1 (.inl ⟨kvs,.inr ⟨ob,ha⟩⟩);obtain⟨es,ep,hd⟩:=Znc (I1.hok a _ ha);obtain⟨hs,vs,r,dd⟩:=Zet (I1.hok a _ ha) hd;have hl:kvs.length=vs.length:=Yy r;refine⟨"dict","dict.items",Yh6,Yu4,PySem.F.type_dict_items,t1,t2,Yl4 rfl (Ym5 ?_)⟩;refine call_meetsIn Yu4 t1 PySem.F.entry_dict_items (PySem.F.args_dict_items_1 _) (meets_dict_items (Zbe X.prog X.w) a t3) ⟨⟨vs,dd.dictOf⟩,?_⟩;have I2:Inv X pins σ H1 {s1 with heap:=s1.heap.push {cls:=.type "dict_items",data:=.fields #[.ref a] } }:=I1.kept (t':=s1.toks) λb o e=>Yd _ e;refine wpAny_pyIter_items (kvs:=vs) (ep:=ep) (knd:=Zbe X.prog X.w) ⟨_,Yp _ rfl,Y,Y⟩ (dd.at' λo e=>Yd _ e) ?_;refine⟨_,[_],_,_,H1,Y,I2.kept (t':=s1.toks) λb o e=>Yd _ e,Ztj a _ ob kvs es ep hd,⟨.none,.none,?_⟩,λb hb=>?_,q⟩
 ·rw[hl];exact Yp _ rfl
 ·have e:b=_:=Ye.mp hb;subst e;exact I2.fpOk (Yg _) (I2.hok.fresh (Yg _))
end
def Zx4{a:Addr}{o:Obj}{kvs:KL}{g:TG}{tb:TS}{D:Zza}{σ:St}{H:Hp}(Pv:NW)(h0:Pv 0 σ H)(hl:∀ i σ H,i<=kvs.length->Pv i σ H->H a=some (.frz o (.dK kvs)))
  (hs:∀ i p t σ H,kvs[i]?=some p->Pv i σ H->H t=none->g (.ref t) σ (upd H t (.tup [kV p.1,p.2])) λσ2 H2=>tb {D with nx:=Pv (i + 1),ct:=Pv (i + 1),bk:=D.nx} σ2 H2) (hd:∀ σ H,Pv kvs.length σ H->D.nx σ H):
  ∃ W:Nat->Nat->St->Hp->Prop,(∃ m,W 0 m σ H)/\∀ i m σ H,W i m σ H ->
   ((Iti a o kvs).stop i H/\D.nx σ H)\/((Iti a o kvs).go i H/\∃ N:SW,(∀ σ' H',N σ' H'->∃ m',m'<m/\W (i + 1) m' σ' H')/\∀ x H',(Iti a o kvs).yld i H x H'->g x σ H' λσ2 H2=>tb {D with nx:=N,ct:=N,bk:=D.nx} σ2 H2):=by
 refine⟨λi m σ H=>m=kvs.length - i/\i<=kvs.length/\Pv i σ H,⟨kvs.length,by simp,Yj1 _,h0⟩,?_⟩;rintro i m σ H ⟨rfl,hi,p⟩;have q:=hl i σ H hi p;by_cases hlt:i<kvs.length
 ·refine .inr ⟨⟨hlt,q⟩,Pv (i + 1),λσ' H' p'=>⟨kvs.length - (i + 1),W,Y,hlt,p'⟩,λx H' y=>?_⟩;obtain⟨t,pr,hp,ht,rfl,rfl⟩:=y;exact hs i pr t σ H hp p ht
 ·have e:i=kvs.length:=by omega
  subst e;exact .inl ⟨⟨Yg _,q⟩,hd σ H p⟩
section
variable {X:Cx}
end
section
variable {prog:Program}{w:World}{A:Around}{E:EV}{s:Shared}
def Zfk{p t:Addr}{k:Nat}{us:Array Value}{u:Value}{Q:EV}(hp:s.heap.IsTupleIter p t k)(ht:s.heap.IsTuple t us)(hu:us[k]?=some u)
  (q:∀ g,g.IsTupleIter p t (k + 1)->Heap.SameBut p s.heap g->Q u {s with heap:=g}):wpAny (model prog w) A (Builtin.SmallTypes.nextOf (.ref p)) Q E s:=by
 obtain⟨ob,h1,h2,h3⟩:=id hp;obtain⟨ot,h4,_,nt,h5⟩:=ht;unfold Builtin.SmallTypes.nextOf;refine Ja (wpAny_callSpecial?_slot (name:=Str.ofString "__next__") hp.typeIs Yx3 (wpAny_call_entry Yx3 hp.typeIs PySem.F.entry_tuple_iterator_next ?_ (PySem.F.args_tuple_iterator_next_1 _)));show wpAny _ _ (field (.ref p) 0>>=_) _ _ s;refine Ja (Jg h1 h3 (x:=.ref t) rfl ?_);show wpAny _ _ (if(Value.ref t == Value.none)=true then _ else _) _ _ s;rw[if_neg (show ¬ ((Value.ref t == Value.none)=true)from Yq)];show wpAny _ _ (field (.ref p) 1>>=_) _ _ s;refine Ja (Jg h1 h3 (x:=.int k 0) rfl ?_);show wpAny _ _ (seqItems? (.ref t)>>=_) _ _ s;refine Ja (wpAny_seqItems h4 h5 ?_);simp only[Yf4,hu];refine Ja (wpAny_setField h1 h3 (by simp) (Jd ⟨u,Y,Jd (q _ ?_ (Heap.SameBut.update ..))⟩));exact⟨_,Ym4 _ h1 (Obj.isFreed_of_fields (Obj.data_mapFields h3 _)),(Obj.cls_mapFields ..).trans h2,by rw[Obj.data_mapFields h3];simp[rawInt]⟩
def Zfl{p t:Addr}{k:Nat}{us:Array Value}{Q:EV}(hh:A.handled=none)(hp:s.heap.IsTupleIter p t k)(ht:s.heap.IsTuple t us)(hu:us[k]?=none)
  (q:∀ g e,Heap.ExtBut p s.heap g->(∃ o,g.get? e=some o/\o.cls=.type "StopIteration")->E (.ref e) {s with heap:=g}):wpAny (model prog w) A (Builtin.SmallTypes.nextOf (.ref p)) Q E s:=by
 obtain⟨ob,h1,h2,h3⟩:=id hp;obtain⟨ot,h4,_,nt,h5⟩:=ht;unfold Builtin.SmallTypes.nextOf;refine Ja (wpAny_callSpecial?_slot (name:=Str.ofString "__next__") hp.typeIs Yx3 (wpAny_call_entry Yx3 hp.typeIs PySem.F.entry_tuple_iterator_next ?_ (PySem.F.args_tuple_iterator_next_1 _)));show wpAny _ _ (field (.ref p) 0>>=_) _ _ s;refine Ja (Jg h1 h3 (x:=.ref t) rfl ?_);show wpAny _ _ (if(Value.ref t == Value.none)=true then _ else _) _ _ s;rw[if_neg (show ¬ ((Value.ref t == Value.none)=true)from Yq)];show wpAny _ _ (field (.ref p) 1>>=_) _ _ s;refine Ja (Jg h1 h3 (x:=.int k 0) rfl ?_);show wpAny _ _ (seqItems? (.ref t)>>=_) _ _ s;refine Ja (wpAny_seqItems h4 h5 ?_);simp only[Yf4,hu];refine Ja (wpAny_rule (Ja (wpAny_setField h1 h3 (by simp) ?_)));show wpAny _ _ (newExc (.type "StopIteration") []>>=_) _ _ _;refine Ja ?_;simp only[newExc,newTuple];refine Ja (wpAny_newObj_type ?_ (by size_fits));refine Ja (m:=firstArgMember _ _) (wpAny_of_eq (a:=Value.none) (by first | rfl | (simp only[firstArgMember];rfl)) ?_);refine wpAny_newObj_type ?_ (by size_fits);simp only[raiseNew];refine Ja (wpAny_handled ?_)
 first | rw[show A.in1.handled=none from hh] | rw[hh]
 refine Ja (Jd (wpAny_throw ?_));exact q _ _ (((Heap.SameBut.update ..).extBut.push _).push _) ⟨_,Yp _ rfl,Y⟩
structure ZAt(h:Heap)(z ti to i1 i2 l1 l2:Addr)(k:Nat)(f:Value):Prop where
 z:IsZip h z ti to f
 ti:IsPair h ti (.ref i1) (.ref i2)
 to:∃ a b,IsPair h to a b
 i1:h.IsTupleIter i1 l1 k
 i2:h.IsTupleIter i2 l2 k
theorem ZAt.at{h h':Heap}{z ti to i1 i2 l1 l2:Addr}{k:Nat}{f:Value}(x:ZAt h z ti to i1 i2 l1 l2 k f)(e:∀ b∈[z,ti,to,i1,i2],∀ o,h.get? b=some o->h'.get? b=some o):ZAt h' z ti to i1 i2 l1 l2 k f :=
 ⟨e z (by simp) _ x.z,e ti (by simp) _ x.ti,let⟨a,b,y⟩:=x.to;⟨a,b,e to (by simp) _ y⟩,x.i1.at λo q=>e i1 (by simp) o q,x.i2.at λo q=>e i2 (by simp) o q⟩
def Zu3{z ti to i1 i2 l1 l2:Addr}{k:Nat}{xs ys:Array Value}{x y:Value}{Q:EV}(D:ZipApart z ti to i1 i2 l1 l2)(st:ZAt s.heap z ti to i1 i2 l1 l2 k .none)
  (t1:s.heap.IsTuple l1 xs) (t2:s.heap.IsTuple l2 ys) (hx:xs[k]?=some x) (hy:ys[k]?=some y)
  (q:∀ g,ZAt g z ti to i1 i2 l1 l2 (k + 1) (rawInt s.heap.objs.size)->IsPair g s.heap.objs.size x y->(∀ c o,c≠z->c≠to->c≠i1->c≠i2->s.heap.get? c=some o->g.get? c=some o)->Q (.ref s.heap.objs.size) {s with heap:=g}):
  wpAny (model prog w) A (Builtin.«zip.__next__» ⟨[.ref z],[]⟩) (λfin s'=>∃ v,fin=.done (.ret v)/\Q v s') E s:=by
 obtain⟨hz,hti,⟨a,b,hto⟩,hi1,hi2⟩:=st;show wpAny _ _ (field (.ref z) 2>>=_) _ _ _;refine Ja (Jg hz rfl (x:=.bool false) rfl ?_);show wpAny _ _ (field (.ref z) 3>>=_) _ _ _;refine Ja (Jg hz rfl (x:=.ref ti) rfl (Ja (wpAny_seqItems hti rfl ?_)));show wpAny _ _ (Builtin.SmallTypes.ownedTupleIsFree (.ref z)>>=_) _ _ _;refine Ja ?_;unfold Builtin.SmallTypes.ownedTupleIsFree;refine Ja (Jg hz rfl (x:=.none) rfl (Jd ?_));simp only[if_true];refine Ja (wpAny_rule (Ja (Jg hz rfl (x:=.ref to) rfl (Ja (wpAny_setField_rec hz (by simp) λg1 z1 e1=>?_)))));replace z1:IsZip g1 z ti to .ellipsis:=z1;refine Ja ?_;simp only[List.zipIdx_cons,List.zipIdx_nil,Yr5,List.forIn_nil];refine Ja (Ja (wpAny_onRaise ?_));show wpAny _ _ (Builtin.SmallTypes.nextOf (.ref i1)>>=_) _ _ _;refine Ja (Zfk (hi1.extBut e1.extBut D.i1z) (t1.extBut e1.extBut D.l1z) hx λg2 j1 e2=>Jd ?_);have to2:IsPair g2 to a b:=e2.extBut _ _ D.TOi1 (e1.extBut _ _ D.TOz hto);refine Ja (wpAny_seqItems to2 rfl (Ja (wpAny_updateSeq_pair to2 λg3 to3 e3=>?_)));replace to3:IsPair g3 to x b:=to3;refine Ja (wpAny_letGo (Jd (Ja (Ja (wpAny_onRaise ?_)))));show wpAny _ _ (Builtin.SmallTypes.nextOf (.ref i2)>>=_) _ _ _;refine Ja (Zfk (((hi2.extBut e1.extBut D.i2z).extBut e2.extBut D.i12.symm).extBut e3.extBut D.TOi2.symm) (((t2.extBut e1.extBut D.l2z).extBut e2.extBut D.l2i1).extBut e3.extBut D.l2TO) hy λg4 j2 e4=>Jd ?_);have to4:IsPair g4 to x b:=e4.extBut _ _ D.TOi2 to3;refine Ja (wpAny_seqItems to4 rfl (Ja (wpAny_updateSeq_pair to4 λg5 to5 e5=>?_)));replace to5:IsPair g5 to x y:=to5;refine Ja (wpAny_letGo (Jd (Jd (Ja (wpAny_seqItems to5 rfl (Ja (wpAny_newTuple ?_)))))));have sz:g5.objs.size=s.heap.objs.size:=by rw[e5.1,e4.1,e3.1,e2.1,e1.1]
 have z5:IsZip g5 z ti to .ellipsis:=e5.extBut _ _ D.TOz.symm (e4.extBut _ _ D.i2z.symm (e3.extBut _ _ D.TOz.symm (e2.extBut _ _ D.i1z.symm z1)));have k5:∀ c o,c≠z->c≠to->c≠i1->c≠i2->s.heap.get? c=some o->g5.get? c=some o:=λc o c1 c2 c3 c4 e=>e5.extBut _ _ c2 (e4.extBut _ _ c4 (e3.extBut _ _ c2 (e2.extBut _ _ c3 (e1.extBut _ _ c1 e))));have j15:g5.IsTupleIter i1 l1 (k + 1):=((j1.extBut e3.extBut D.TOi1.symm).extBut e4.extBut D.i12).extBut e5.extBut D.TOi1.symm;have j25:g5.IsTupleIter i2 l2 (k + 1):=j2.extBut e5.extBut D.TOi2.symm;have zlt:z<g5.objs.size:=Yk z5;show wpAny _ _ (Builtin.SmallTypes.ownedTupleHandOut (.ref z) (.ref g5.objs.size)>>=_) _ _ _;refine Ja ?_;unfold Builtin.SmallTypes.ownedTupleHandOut;have z6:IsZip (g5.push {cls:=.type "tuple",data:=.seq #[x,y] }) z ti to .ellipsis:=Yd _ z5;refine Ja (wpAny_setField_rec z6 (by simp) λg7 z7 e7=>?_);replace z7:IsZip g7 z ti to (rawInt g5.objs.size):=z7;refine wpAny_setField_rec z7 (by simp) λg8 z8 e8=>?_;replace z8:IsZip g8 z ti to (rawInt g5.objs.size):=z8;have up:∀ c o,c≠z->g5.get? c=some o->g8.get? c=some o:=λc o c1 e=>e8.extBut _ _ c1 (e7.extBut _ _ c1 (Yd _ e));have p8:IsPair g8 g5.objs.size x y:=e8.extBut _ _ (Ys1 zlt) (e7.extBut _ _ (Ys1 zlt) (Yp _ rfl));rw[sz]at z8 p8;refine Jd ⟨Z,?_⟩;show Q (.ref g5.objs.size) _;rw[sz];exact q g8 ⟨z8,up _ _ D.TIz (k5 _ _ D.TIz D.TITO D.TIi1 D.TIi2 hti),⟨x,y,up _ _ D.TOz to5⟩,j15.at λo e=>up _ o D.i1z e,j25.at λo e=>up _ o D.i2z e⟩ p8 λc o c1 c2 c3 c4 e=>up c o c1 (k5 c o c1 c2 c3 c4 e)
def Zu4{z ti to i1 i2 l1 l2:Addr}{k:Nat}{xs ys:Array Value}{Q:Fin->Shared->Prop}(hh:A.handled=none)(D:ZipApart z ti to i1 i2 l1 l2)(st:ZAt s.heap z ti to i1 i2 l1 l2 k .none)
  (t1:s.heap.IsTuple l1 xs) (t2:s.heap.IsTuple l2 ys) (hend:xs[k]?=none\/ys[k]?=none)
  (q:∀ g e,(∀ c o,c≠z->c≠to->c≠i1->c≠i2->s.heap.get? c=some o->g.get? c=some o)->(∃ o,g.get? e=some o/\o.cls=.type "StopIteration")->E (.ref e) {s with heap:=g}):
  wpAny (model prog w) A (Builtin.«zip.__next__» ⟨[.ref z],[]⟩) Q E s:=by
 obtain⟨hz,hti,⟨a,b,hto⟩,hi1,hi2⟩:=st;show wpAny _ _ (field (.ref z) 2>>=_) _ _ _;refine Ja (Jg hz rfl (x:=.bool false) rfl ?_);show wpAny _ _ (field (.ref z) 3>>=_) _ _ _;refine Ja (Jg hz rfl (x:=.ref ti) rfl (Ja (wpAny_seqItems hti rfl ?_)));show wpAny _ _ (Builtin.SmallTypes.ownedTupleIsFree (.ref z)>>=_) _ _ _;refine Ja ?_;unfold Builtin.SmallTypes.ownedTupleIsFree;refine Ja (Jg hz rfl (x:=.none) rfl (Jd ?_));simp only[if_true];refine Ja (wpAny_rule (Ja (Jg hz rfl (x:=.ref to) rfl (Ja (wpAny_setField_rec hz (by simp) λg1 z1 e1=>?_)))));replace z1:IsZip g1 z ti to .ellipsis:=z1;refine Ja ?_;simp only[List.zipIdx_cons,List.zipIdx_nil,Yr5,List.forIn_nil];refine Ja (Ja (wpAny_onRaise ?_));show wpAny _ _ (Builtin.SmallTypes.nextOf (.ref i1)>>=_) _ _ _;cases hx:xs[k]? with
 | none =>
  refine Ja (Zfl hh (hi1.extBut e1.extBut D.i1z) (t1.extBut e1.extBut D.l1z) hx λg2 e e2 he=>?_);obtain⟨oe,ho,hc⟩:=he;have z2:IsZip g2 z ti to .ellipsis:=e2 _ _ D.i1z.symm z1;have ez:e≠z:=λx=>by subst x;rw[z2]at ho;cases ho;simp at hc
  exact wpAny_setField_rec z2 (by simp) λg3 _ e3=>q g3 e (λc o c1 _ c3 _ x=>e3.extBut _ _ c1 (e2 _ _ c3 (e1.extBut _ _ c1 x))) ⟨oe,e3.extBut _ _ ez ho,hc⟩
 | some x =>
  have hy:ys[k]?=none:=by rcases hend with h | h;rw[hx]at h;cases h;exact h
  refine Ja (Zfk (hi1.extBut e1.extBut D.i1z) (t1.extBut e1.extBut D.l1z) hx λg2 j1 e2=>Jd ?_);have to2:IsPair g2 to a b:=e2.extBut _ _ D.TOi1 (e1.extBut _ _ D.TOz hto);refine Ja (wpAny_seqItems to2 rfl (Ja (wpAny_updateSeq_pair to2 λg3 to3 e3=>?_)));refine Ja (wpAny_letGo (Jd (Ja (Ja (wpAny_onRaise ?_)))));show wpAny _ _ (Builtin.SmallTypes.nextOf (.ref i2)>>=_) _ _ _;refine Ja (Zfl hh (((hi2.extBut e1.extBut D.i2z).extBut e2.extBut D.i12.symm).extBut e3.extBut D.TOi2.symm) (((t2.extBut e1.extBut D.l2z).extBut e2.extBut D.l2i1).extBut e3.extBut D.l2TO) hy λg4 e e4 he=>?_);obtain⟨oe,ho,hc⟩:=he;have z4:IsZip g4 z ti to .ellipsis:=e4 _ _ D.i2z.symm (e3.extBut _ _ D.TOz.symm (e2.extBut _ _ D.i1z.symm z1));have ez:e≠z:=λx=>by subst x;rw[z4]at ho;cases ho;simp at hc
  exact wpAny_setField_rec z4 (by simp) λg5 _ e5=>q g5 e (λc o c1 c2 c3 c4 x=>e5.extBut _ _ c1 (e4 _ _ c4 (e3.extBut _ _ c2 (e2.extBut _ _ c3 (e1.extBut _ _ c1 x))))) ⟨oe,e5.extBut _ _ ez ho,hc⟩
def Zm2{z ti to i1 i2 l1 l2:Addr}{k:Nat}{xs ys:Array Value}{x y:Value}{Q:OU->Shared->Prop}(D:ZipApart z ti to i1 i2 l1 l2)(st:ZAt s.heap z ti to i1 i2 l1 l2 k .none)
  (t1:s.heap.IsTuple l1 xs) (t2:s.heap.IsTuple l2 ys) (hx:xs[k]?=some x) (hy:ys[k]?=some y)
  (q:∀ g,ZAt g z ti to i1 i2 l1 l2 (k + 1) (rawInt s.heap.objs.size)->IsPair g s.heap.objs.size x y->(∀ c o,c≠z->c≠to->c≠i1->c≠i2->s.heap.get? c=some o->g.get? c=some o)->Q (some (.ref s.heap.objs.size)) {s with heap:=g}):
  wpAny (model prog w) A (pyNext (.ref z)) Q E s:=by
 have hT:s.TypeIs (.ref z) "zip":=⟨_,st.z,Y⟩;unfold pyNext;exact Ja (wpAny_attempt (wpAny_callSpecial?_slot (name:=Str.ofString "__next__") hT Ye3 (wpAny_call_entry Ye3 hT Yy4 (Zu3 D st t1 t2 hx hy λg a1 a2 a3=>Jd (q g a1 a2 a3)) (Yv4 _))))
def Zm3{z ti to i1 i2 l1 l2:Addr}{k:Nat}{xs ys:Array Value}{Q:OU->Shared->Prop}(hh:A.handled=none)(D:ZipApart z ti to i1 i2 l1 l2)(st:ZAt s.heap z ti to i1 i2 l1 l2 k .none)
  (t1:s.heap.IsTuple l1 xs) (t2:s.heap.IsTuple l2 ys) (hend:xs[k]?=none\/ys[k]?=none)
  (q:∀ g,(∀ c o,c≠z->c≠to->c≠i1->c≠i2->s.heap.get? c=some o->g.get? c=some o)->Q none {s with heap:=g}):wpAny (model prog w) A (pyNext (.ref z)) Q E s:=by
 have hT:s.TypeIs (.ref z) "zip":=⟨_,st.z,Y⟩;unfold pyNext;refine Ja (wpAny_attempt (wpAny_callSpecial?_slot (name:=Str.ofString "__next__") hT Ye3 (wpAny_call_entry Ye3 hT Yy4 (Zu4 hh D st t1 t2 hend λg e hk he=>?_) (Yv4 _))));obtain⟨o,ho,hc⟩:=he;refine Ja (wpAny_isInstance (T:="StopIteration") (b:=true) ⟨o,ho,hc⟩ isSubtype_stop ?_);exact Jd (q _ hk)
end
def Itp(ps:List (V×V))(Ok:Hp->Prop):It :=
 ⟨λi H=>i<ps.length/\Ok H,λi H v H'=>∃ t p,ps[i]?=some p/\H t=none/\v=.ref t/\H'=upd H t (.tup [p.1,p.2]),λi H=>ps.length<=i/\Ok H⟩
section
variable {prog:Program}{w:World}{A:Around}{E:EV}{s:Shared}
abbrev zg1(h:Heap)(l1:Addr):Heap:=h.push {cls:=.type "tuple_iterator",data:=.fields #[.ref l1,.int 0 0] }
abbrev zg2(h:Heap)(l1 l2:Addr):Heap:=(zg1 h l1).push {cls:=.type "tuple_iterator",data:=.fields #[.ref l2,.int 0 0] }
abbrev zg3(h:Heap)(l1 l2:Addr):Heap:=(zg2 h l1 l2).push {cls:=.type "tuple",data:=.seq #[.ref h.objs.size,.ref (zg1 h l1).objs.size] }
abbrev zg4(h:Heap)(l1 l2:Addr):Heap:=(zg3 h l1 l2).push {cls:=.type "tuple",data:=.seq #[.none,.none] }
abbrev zg5(h:Heap)(l1 l2:Addr):Heap:=(zg4 h l1 l2).push {cls:=.type "zip",data:=.fields #[.none,.bool false,.bool false,.ref (zg2 h l1 l2).objs.size,.ref (zg3 h l1 l2).objs.size] }
def Zt8(l1 l2:Addr)(xs ys:Array Value):Meets (Builtin.«zip.__new__» ⟨[.type "zip",.ref l1,.ref l2],[]⟩) (λ_ R s=>s.heap.IsTuple l1 xs/\s.heap.IsTuple l2 ys /\
   R (.ok (.ret (.ref (zg4 s.heap l1 l2).objs.size))) {s with heap:=zg5 s.heap l1 l2}):=
 .of_wp λprog w A R s h=>by
  obtain⟨hp,g,d,tk,os⟩:=s;obtain⟨t1,t2,h⟩:=h;have hsub:=sub_zip;have T1:Heap.IsTuple (Shared.heap ⟨hp,g,d,tk,os⟩) l1 xs:=t1;have T2:Heap.IsTuple (Shared.heap ⟨hp.push {cls:=.type "tuple_iterator",data:=.fields #[.ref l1,.int 0 0] },g,d,tk,os⟩) l2 ys:=Heap.IsTuple.push t2 _
  wp_walk using wpAny_pyIter_tuple T1,wpAny_pyIter_tuple T2
  exact⟨Z,h⟩
def Zyp{l1 l2:Addr}{xs ys:Array Value}{Q:EV}(t1:s.heap.IsTuple l1 xs)(t2:s.heap.IsTuple l2 ys)
  (q:∀ g,ZAt g (s.heap.objs.size + 4) (s.heap.objs.size + 2) (s.heap.objs.size + 3) s.heap.objs.size (s.heap.objs.size + 1) l1 l2 0 .none->(∀ c o,s.heap.get? c=some o->g.get? c=some o)->Q (.ref (s.heap.objs.size + 4)) {s with heap:=g}):
  wpAny (model prog w) A (call (.type "zip") [.ref l1,.ref l2]) Q E s:=by
 refine callType_new PySem.F.called_zip (by decide) (PySem.F.typeCall_zip_2 _ _) (PySem.F.newCall_zip_2 _ _) (λobj=>PySem.F.args_object_init_3 obj _ _) PySem.F.entry_zip_new (Zt8 l1 l2 xs ys) ⟨t1,t2,?_⟩;have n1:(zg1 s.heap l1).objs.size=s.heap.objs.size + 1:=Yp3 ..;have n2:(zg2 s.heap l1 l2).objs.size=s.heap.objs.size + 2:=by rw[Yp3,n1]
 have n3:(zg3 s.heap l1 l2).objs.size=s.heap.objs.size + 3:=by rw[Yp3,n2]
 have n4:(zg4 s.heap l1 l2).objs.size=s.heap.objs.size + 4:=by rw[Yp3,n3]
 have up:∀ {h:Heap} {a:Addr} {o:Obj} (x:Obj),h.get? a=some o->(h.push x).get? a=some o:=λx e=>Yd _ e;have f5:(zg5 s.heap l1 l2).get? (zg4 s.heap l1 l2).objs.size=some _:=Yp _ rfl;have f4:(zg5 s.heap l1 l2).get? (zg3 s.heap l1 l2).objs.size=some _:=up _ (Yp _ rfl);have f3:(zg5 s.heap l1 l2).get? (zg2 s.heap l1 l2).objs.size=some _:=up _ (up _ (Yp _ rfl));have f2:(zg5 s.heap l1 l2).get? (zg1 s.heap l1).objs.size=some _:=up _ (up _ (up _ (Yp _ rfl)));have f1:(zg5 s.heap l1 l2).get? s.heap.objs.size=some _:=up _ (up _ (up _ (up _ (Yp _ rfl))));show _/\_;rw[n2,n3,n4]at f5;rw[n1,n2]at f3;rw[n3]at f4;rw[n1]at f2;rw[n4];exact⟨⟨_,f5,Y⟩,q _ ⟨f5,f3,⟨_,_,f4⟩,⟨_,f1,Y,Y⟩,⟨_,f2,Y,Y⟩⟩ λc o x=>up _ (up _ (up _ (up _ (up _ x))))⟩
end
def Zh4{xs ys:LV}{i:Nat}{p:V×V}(h:(xs.zip ys)[i]?=some p):xs[i]?=some p.1/\ys[i]?=some p.2:=by
 rw[Yt5]at h;exact h
def Inv.turnedNewL{X:Cx}{pins:PL}{σ:St}{H:Hp}{s:Shared}{h':Heap}{t':Nat}{its:List Addr}{a:Addr}{o:HO}(I:Inv X pins σ H s)(k:∀ b u,b∉its->s.heap.get? b=some u->h'.get? b=some u)
  (f:∀ b∈its,Zrq X pins H b) (ha:s.heap.objs.size<=a) (new:Zcu X.prog X.w (upd H a o) h' a o):Inv X pins σ (upd H a o) {s with heap:=h',toks:=t' }:=by
 have nit:∀ b u,H b=some u->b∉its:=λb u e z=>by have:=(f b z).1;rw[this]at e;cases e
 have na:∀ b u,H b=some u->b≠a:=λb u e=>Yx (Yi1 (I.hok.lt e) ha);have low:∀ {b u},H b=some u->(upd H a o) b=some u:=λ{b u} e=>by rw[Zab (na b u e)];exact e
 refine I.step (g':=s.gens) (d':=s.drawn) (ch:=its) (λb hb=>?_) (λb u _ _ hc e _=>k b u hc e) (λb u _ _ hc e _=>⟨u.slots,k b u hc e⟩)
  (λb u _ e n=>by rw[Zab (Yx (Yi1 (Yk e) ha))];exact n)
  (λb u hc e=>⟨u,k b u hc e⟩) (λ_ _ e=>low e) (λ_ _ _ e=>low e) (λb ps e=>⟨#[],by rw[low e];simp⟩) (λm hm=>?_) (λb u e=>?_) I.bare
 ·obtain⟨f0,f1,f2,f3,f4,f5⟩:=f b hb;exact⟨f3,f1,f4,f5⟩
 ·obtain⟨o',es,ep,ho,r⟩:=hm;exact⟨o',es,ep,k _ o' (λz=>(f _ z).2.1 rfl) ho,r⟩
 ·by_cases hb:b=a
  ·subst hb;rw[uS]at e;cases e;exact new
  ·rw[Zab hb]at e;refine(I.hok b u e).stay (λc v hc q=>k c v ?_ q) (λ_ q=>low q) λ_ _ q=>low q
   rcases hc with z | z
   ·rw[z];exact nit b u e
   ·exact nit c _ z
def Inv.turnedL{X:Cx}{pins:PL}{σ:St}{H:Hp}{s:Shared}{h':Heap}{t':Nat}{its:List Addr}(I:Inv X pins σ H s)(k:∀ b u,b∉its->s.heap.get? b=some u->h'.get? b=some u)
  (f:∀ b∈its,Zrq X pins H b):Inv X pins σ H {s with heap:=h',toks:=t' }:=by
 have nit:∀ b u,H b=some u->b∉its:=λb u e z=>by have:=(f b z).1;rw[this]at e;cases e
 refine I.step (g':=s.gens) (d':=s.drawn) (ch:=its) (λb hb=>?_) (λb u _ _ hc e _=>k b u hc e) (λb u _ _ hc e _=>⟨u.slots,k b u hc e⟩)
  (λb u _ e n=>n) (λb u hc e=>⟨u,k b u hc e⟩) (λ_ _ e=>e) (λ_ _ _ e=>e) (λb ps e=>⟨#[],by rw[e];simp⟩) (λm hm=>?_) (λb u e=>?_) I.bare
 ·obtain⟨f0,f1,f2,f3,f4,f5⟩:=f b hb;exact⟨f3,f1,f4,f5⟩
 ·obtain⟨o',es,ep,ho,r⟩:=hm;exact⟨o',es,ep,k _ o' (λz=>(f _ z).2.1 rfl) ho,r⟩
 ·refine(I.hok b u e).stay (λc v hc q=>k c v ?_ q) (λ_ q=>q) λ_ _ q=>q
  rcases hc with z | z
  ·rw[z];exact nit b u e
  ·exact nit c _ z
def Zzj{P:Program}{w:World}{K:Fg}{elts:List Expr}{x1}{pos:Pos}{xs ys:LV}(a b z ti to i1 i2:Addr)(D:ZipApart z ti to i1 i2 a b):
  Zqe P w K (.Tuple elts x1 pos) (Itp (xs.zip ys) λH=>SqT K H a xs/\SqT K H b ys) [z,ti,to,i1,i2] z (λi h=>ZAt h z ti to i1 i2 a b i .none) where
 mem:=by simp
 obj:=λi h st c hc=>by
  have hc':c=z\/c=ti\/c=to\/c=i1\/c=i2:=by simpa using hc
  obtain⟨x,y,h3⟩:=st.to;obtain⟨o1,e1,_,d1⟩:=st.i1;obtain⟨o2,e2,_,d2⟩:=st.i2
  rcases hc' with rfl | rfl | rfl | rfl | rfl
  ·exact⟨_,st.z,λv q=>by cases q⟩
  ·exact⟨_,st.ti,λv q=>by cases q⟩
  ·exact⟨_,h3,λv q=>by cases q⟩
  ·exact⟨_,e1,λv q=>by rw[d1]at q;cases q⟩
  ·exact⟨_,e2,λv q=>by rw[d2]at q;cases q⟩
 keep:=λi h h' st k=>st.at k
 item:=by
  intro X hP hw hK hc i pins s σ H E I hf st hg;subst hP hw hK;obtain⟨hi,ha,hb⟩:=hg;obtain⟨p,hp⟩:∃ p,(xs.zip ys)[i]?=some p:=⟨(xs.zip ys)[i]'hi,Yb hi⟩;obtain⟨hx,hy⟩:=Zh4 hp;obtain⟨its,rv,pa,_⟩:=I.tuple ha;obtain⟨jts,rw',pb,_⟩:=I.tuple hb;obtain⟨u,hu,ru⟩:=rv.get hx;obtain⟨v,hv,rv'⟩:=rw'.get hy;refine Zm2 D st (show s.heap.IsTuple a its.toArray from pa) (show s.heap.IsTuple b jts.toArray from pb) (by simpa using hu) (by simpa using hv) λg st' hpr hk=>?_;refine⟨Z,?_⟩;refine wpAny_letOwnedTupleGo_zip (s:={s with heap:=g}) st'.z λg' z' sb=>?_;have zlt:z<s.heap.objs.size:=Yk st.z;have nz:s.heap.objs.size≠z:=Ys1 zlt;have sb':Heap.ExtBut z g g':=sb.extBut;have hT:IsPair g' s.heap.objs.size u v:=sb' _ _ nz hpr;have I1:Inv X pins σ (upd H s.heap.objs.size (.tup [p.1,p.2])) {s with heap:=g' }:=I.turnedNewL (t':=s.toks) (its:=[z,ti,to,i1,i2]) (λc o hc e=>sb' c o (λq=>hc (by simp[q])) (hk c o (λq=>hc (by simp[q])) (λq=>hc (by simp[q])) (λq=>hc (by simp[q])) (λq=>hc (by simp[q])) e)) hf (Yg _)
   ⟨U,[u,v],.cons ru (.cons rv' .nil),⟨_,hT,Y,Z⟩⟩
  have st2:ZAt g' z ti to i1 i2 a b (i + 1) .none:=by
   obtain⟨a1,a2,a3⟩:=st'.to;exact⟨z',sb' _ _ D.TIz st'.ti,⟨a1,a2,sb' _ _ D.TOz a3⟩,st'.i1.extBut sb' D.i1z,st'.i2.extBut sb' D.i2z⟩
  refine⟨.ref s.heap.objs.size,_,I1,Y,⟨s.heap.objs.size,p,hp,I.hok.fresh (Yg _),Y,Y⟩,st2,λc hc=>?_⟩;have lt:∀ c∈[z,ti,to,i1,i2],c<s.heap.objs.size:=λc hc=>by
   have hc':c=z\/c=ti\/c=to\/c=i1\/c=i2:=by simpa using hc
   obtain⟨a1,a2,a3⟩:=st.to;obtain⟨o1,e1,_⟩:=st.i1;obtain⟨o2,e2,_⟩:=st.i2
   rcases hc' with rfl | rfl | rfl | rfl | rfl
   ·exact zlt
   ·exact Yk st.ti
   ·exact Yk a3
   ·exact Yk e1
   ·exact Yk e2
  rw[Zab (Yx (lt c hc))];exact(hf c hc).1
 done:=by
  intro X hP hw hK hc i pins s σ H E I hf st hg;subst hP hw hK;obtain⟨hi,ha,hb⟩:=hg;obtain⟨its,rv,pa,_⟩:=I.tuple ha;obtain⟨jts,rw',pb,_⟩:=I.tuple hb;have l1:=rv.length;have l2:=rw'.length;have hend:its.toArray[i]?=none\/jts.toArray[i]?=none:=by
   rw[Yw4]at hi
   rcases Nat.le_total xs.length ys.length with h | h
   ·rw[Ys5 h]at hi;exact .inl (by simp;omega)
   ·rw[Nat.min_eq_right h]at hi;exact .inr (by simp;omega)
  exact Zm3 (I.ok.hd hc) D st (show s.heap.IsTuple a its.toArray from pa) (show s.heap.IsTuple b jts.toArray from pb) hend λg hk=>⟨Y,I.turnedL (t':=s.toks) (its:=[z,ti,to,i1,i2]) (λc o hc e=>hk c o (λq=>hc (by simp[q])) (λq=>hc (by simp[q])) (λq=>hc (by simp[q])) (λq=>hc (by simp[q])) e) hf⟩
 self:=λA i s Q E st h=>wpAny_pyIter_zip st.z h
section
variable {X:Cx}
def Yd2(K:Fg)(ta:TA):TI:=λσ H R=>ta σ H λvs H1=>∃(a b:Addr) (xs ys:LV),vs=[.ref a,.ref b]/\SqT K H1 a xs/\SqT K H1 b ys/\R (Itp (xs.zip ys) λH=>SqT K H a xs/\SqT K H b ys) H1
def Z6r{elts:List Expr}{x1}{tpos:Pos}{a b:Expr}{ta:TA}{p pos:Pos}(hg:Gl X "zip")(hm:X.mg "zip"=none)(ha:PA X [a,b] ta)(hs:starEach [a,b] X.env=[(false,eval a X.env),(false,eval b X.env)]:=by rfl)(hs2:starEach [b] X.env=[(false,eval b X.env)]:=by rfl):
  PI X (.Tuple elts x1 tpos) (.Call (.Name "zip" p) [a,b] [] pos) (Yd2 X.K ta):=by
 intro pins s σ H R I h;refine Call_ (Ze0 I hg hm boot_zip (Yw1 (thn (ha pos pins s σ H _ I h) λus s1 ⟨vs,H1,I1,r1,q1⟩=>?_) (by rw[hs,hs2]) (by rw[hs2];rfl)));obtain⟨l1,l2,xs,ys,e,t1,t2,q⟩:=q1;subst e;cases r1 with
 | cons r rr =>
  cases rr with
  | cons r' rr =>
   cases rr;obtain rfl:_=Value.ref l1:=r;obtain rfl:_=Value.ref l2:=r';obtain⟨its,rv,pa,_⟩:=I1.tuple t1;obtain⟨jts,rw',pb,_⟩:=I1.tuple t2;have b1:s1.heap.IsTuple l1 its.toArray:=pa;have b2:s1.heap.IsTuple l2 jts.toArray:=pb;have lt1:l1<s1.heap.objs.size:=let⟨_,e,_⟩:=b1;Yk e;have lt2:l2<s1.heap.objs.size:=let⟨_,e,_⟩:=b2;Yk e;refine Zyp b1 b2 λg st hk=>wpAny_pyIter_zip (s:={s1 with heap:=g}) st.z ?_;have D:ZipApart (s1.heap.objs.size + 4) (s1.heap.objs.size + 2) (s1.heap.objs.size + 3) s1.heap.objs.size (s1.heap.objs.size + 1) l1 l2:=W.ktu_apart _ _ _ lt1 lt2;refine⟨_,[s1.heap.objs.size + 4,s1.heap.objs.size + 2,s1.heap.objs.size + 3,s1.heap.objs.size,s1.heap.objs.size + 1],_,_,H1,Y,I1.kept (t':=s1.toks) λb o e=>hk b o e,Zzj l1 l2 _ _ _ _ _ D,st,λc hc=>?_,q⟩;have hc':c=s1.heap.objs.size + 4\/c=s1.heap.objs.size + 2\/c=s1.heap.objs.size + 3\/c=s1.heap.objs.size\/c=s1.heap.objs.size + 1:=by simpa using hc
   have ge:s1.heap.objs.size<=c:=by
    rcases hc' with rfl | rfl | rfl | rfl | rfl
    ·exact Yl2 _ _
    ·exact Yl2 _ _
    ·exact Yl2 _ _
    ·exact Yg _
    ·exact Yl2 _ _
   exact I1.fpOk ge (I1.hok.fresh ge)
end
def Zx8{prog:Program}{w:World}{A:Around}(hh:A.handled=none)(p t:Addr)(ne:t≠p)(us:Array Value):Draws prog w A p [p,t] us.size (λi v=>us[i]?=some v) (λi h=>h.IsTupleIter p t i/\h.IsTuple t us) where
 live:=λ_ _ st=>let⟨o,ho,_⟩:=st.1;⟨o,ho⟩
 frame:=λ_ _ _ st hk=>⟨st.1.at λo e=>hk p (by simp) o e,let⟨o,ho,r⟩:=st.2;⟨o,hk t (by simp) o ho,r⟩⟩
 item:=λi s Q E hi st q=>Zfk st.1 st.2 (u:=us[i]) (by simp[hi]) λg st' sb=>q _ g s.toks (by simp[hi]) ⟨st',st.2.extBut sb.extBut ne⟩ sb
 done:=λs Q E st q=>Zfl hh st.1 st.2 (by simp) q
def SIt(b:Bool)(h:Heap)(p a:Addr)(i:Nat):Prop:=if b=true then h.IsListIter p a i else h.IsTupleIter p a i
def SSq(b:Bool)(h:Heap)(a:Addr)(us:Array Value):Prop:=if b=true then h.IsList a us else h.IsTuple a us
theorem SIt.at{b:Bool}{h h':Heap}{p a:Addr}{i:Nat}(x:SIt b h p a i)(e:∀ o,h.get? p=some o->h'.get? p=some o):SIt b h' p a i:=by
 cases b with
 | true=>exact Heap.IsListIter.at (show h.IsListIter p a i from x) e
 | false=>exact Heap.IsTupleIter.at (show h.IsTupleIter p a i from x) e
def SIt.obj{b:Bool}{h:Heap}{p a:Addr}{i:Nat}(x:SIt b h p a i):∃ o,h.get? p=some o/\∀ v,o.data≠.cell v:=by
 cases b with
 | true =>
  obtain⟨o,e,_,d⟩:=(show h.IsListIter p a i from x);exact⟨o,e,λv z=>by rw[d]at z;cases z⟩
 | false =>
  obtain⟨o,e,_,d⟩:=(show h.IsTupleIter p a i from x);exact⟨o,e,λv z=>by rw[d]at z;cases z⟩
def Zx9{prog:Program}{w:World}{A:Around}(b:Bool)(hh:A.handled=none)(p t:Addr)(ne:t≠p)(us:Array Value):Draws prog w A p [p,t] us.size (λi v=>us[i]?=some v) (λi h=>SIt b h p t i/\SSq b h t us):=by
 cases b with
 | true=>exact Draws.list hh p t ne us
 | false=>exact Zx8 hh p t ne us
def Inv.sseq{X:Cx}{pins:PL}{σ:St}{H:Hp}{s:Shared}{b:Bool}{a:Addr}{xs:LV}(I:Inv X pins σ H s)(h:SqB X.K b H a xs):∃ its:LU,Zb2 xs its/\SSq b s.heap a its.toArray:=by
 cases b with
 | true =>
  obtain⟨its,rv,p,_⟩:=I.list (show SqL X.K H a xs from h);exact⟨its,rv,p.isList⟩
 | false =>
  obtain⟨its,rv,p,_⟩:=I.tuple (show SqT X.K H a xs from h);exact⟨its,rv,p⟩
def Zg2(xs:LV):List (V×V):=(Zdo 0 xs.length).zip xs
def Zc8(xs:LV):(Zg2 xs).length=xs.length:=by
 unfold Zg2;rw[Yw4,Za3,Nat.min_self]
def Ze2{xs:LV}{i:Nat}{p:V×V}(h:(Zg2 xs)[i]?=some p):p.1=.int i/\xs[i]?=some p.2:=by
 obtain⟨h1,h2⟩:=Zh4 h;obtain⟨_,e⟩:=Za7 h1;exact⟨by rw[e,Yz4],h2⟩
section
variable {prog:Program}{w:World}{A:Around}{E:EV}{s:Shared}
def Zq4(l:Addr)(us:Array Value):Meets (Builtin.«enumerate.__new__» ⟨[.type "enumerate",.ref l],[]⟩) (λ_ R s=>s.heap.IsTuple l us /\
   R (.ok (.ret (.ref (s.heap.push {cls:=.type "tuple_iterator",data:=.fields #[.ref l,.int 0 0] }).objs.size)))
    {s with heap:=(s.heap.push {cls:=.type "tuple_iterator",data:=.fields #[.ref l,.int 0 0] }).push {cls:=.type "enumerate",data:=.fields #[.none,.bool false,.ref s.heap.objs.size,rawInt 0,.none,.none] } }):=
 .of_wp λprog w A R s h=>by
  obtain⟨hp,g,d,tk,os⟩:=s;obtain⟨ht,h⟩:=h;have hsub:=sub_enumerate;obtain⟨⟨c,dct,dt,sl⟩,hl,hc,n,hd⟩:=id ht;replace hc:c=.type "tuple":=hc;replace hd:dt=.seq us n:=hd;subst hc hd;have hT:Heap.IsTuple (Shared.heap ⟨hp,g,d,tk,os⟩) l us:=ht
  wp_walk using Yq2 hl
  refine wpAny_stack_any λst=>Jd ?_;split
  ·rename_i c _ _ _ _ _
   cases(c == Value.type "enumerate")
   ·wp_walk using Yq2 hl,wpAny_pyIter_tuple hT
    exact⟨Z,h⟩
   ·wp_walk using Yq2 hl,wpAny_pyIter_tuple hT
    exact⟨Z,h⟩
  ·wp_walk using Yq2 hl,wpAny_pyIter_tuple hT
   exact⟨Z,h⟩
def Zyr(b:Bool){l:Addr}{us:Array Value}{Q:EV}(hl:SSq b s.heap l us)
  (q:∀ g,IsEnum g (s.heap.objs.size + 1) s.heap.objs.size 0 .none->SIt b g s.heap.objs.size l 0->(∀ c o,s.heap.get? c=some o->g.get? c=some o)->Q (.ref (s.heap.objs.size + 1)) {s with heap:=g}):
  wpAny (model prog w) A (call (.type "enumerate") [.ref l]) Q E s:=by
 cases b with
 | true=>exact call_enumerate_list (show s.heap.IsList l us from hl) λg h1 h2 _ h4=>q g h1 h2 h4
 | false =>
  refine callType_new PySem.F.called_enumerate (by decide) (PySem.F.typeCall_enumerate_1 _) (PySem.F.newCall_enumerate_1 _) (λobj=>PySem.F.args_object_init_2 obj _) PySem.F.entry_enumerate_new (Zq4 l us) ⟨hl,?_⟩;have n1:(zg1 s.heap l).objs.size=s.heap.objs.size + 1:=Yp3 ..;show _/\_;rw[n1];have he:IsEnum ((zg1 s.heap l).push {cls:=.type "enumerate",data:=.fields #[.none,.bool false,.ref s.heap.objs.size,rawInt 0,.none,.none] }) (s.heap.objs.size + 1) s.heap.objs.size 0 .none:=by
   have:=Yp (zg1 s.heap l) (o:={cls:=.type "enumerate",data:=.fields #[.none,.bool false,.ref s.heap.objs.size,rawInt 0,.none,.none] }) rfl;rw[n1]at this;exact this
  exact⟨⟨_,he,Y⟩,q _ he ⟨_,Yd _ (Yp _ rfl),Y,Y⟩ λc o x=>Yd _ (Yd _ x)⟩
end
def Zk8{prog:Program}{w:World}{A:Around}{E:EV}{s:Shared}{e p:Addr}{i:Int}{old:Value}{Q:OU->Shared->Prop}(hh:A.handled=none)(he:IsEnum s.heap e p i old)
  (nx:∀(Q:EV) (E:EV),(∀ g e,Heap.ExtBut p s.heap g->(∃ o,g.get? e=some o/\o.cls=.type "StopIteration")->E (.ref e) {s with heap:=g})->wpAny (model prog w) A.in1 (Builtin.SmallTypes.nextOf (.ref p)) Q E s)
  (q:∀ g,Heap.ExtBut p s.heap g->Q none {s with heap:=g}):wpAny (model prog w) A (pyNext (.ref e)) Q E s:=by
 have hT:s.TypeIs (.ref e) "enumerate":=⟨_,he,Y⟩;unfold pyNext;refine Ja (wpAny_attempt (wpAny_callSpecial?_slot (name:=Str.ofString "__next__") hT PySem.F.slot_enumerate_next (wpAny_call_entry PySem.F.slot_enumerate_next hT PySem.F.entry_enumerate_next ?_ (PySem.F.args_enumerate_next_1 _))));show wpAny _ _ (field (.ref e) 2>>=_) _ _ _;refine Ja (Jg he rfl (x:=.ref p) rfl (Ja (nx _ _ λg x eb hx=>?_)));obtain⟨o,ho,hc⟩:=hx;refine Ja (wpAny_isInstance (T:="StopIteration") (b:=true) ⟨o,ho,hc⟩ isSubtype_stop ?_);exact Jd (q _ eb)
def Zu9{P:Program}{w:World}{K:Fg}{elts:List Expr}{x1}{pos:Pos}{xs:LV}(b:Bool)(a e p:Addr)(ep:e≠p)(ea:e≠a)(ap:a≠p):
  Zqe P w K (.Tuple elts x1 pos) (Itp (Zg2 xs) λH=>SqB K b H a xs) [e,p] e (λi h=>(∃ old,IsEnum h e p i old)/\SIt b h p a i) where
 mem:=by simp
 obj:=λi h st c hc=>by
  have hc':c=e\/c=p:=by simpa using hc
  obtain⟨⟨old,he⟩,si⟩:=st
  rcases hc' with rfl | rfl
  ·exact⟨_,he,λv q=>by cases q⟩
  ·exact si.obj
 keep:=λi h h' st k=>by
  obtain⟨⟨old,he⟩,si⟩:=st;exact⟨⟨old,k e (by simp) _ he⟩,si.at λo q=>k p (by simp) o q⟩
 item:=by
  intro X hP hw hK hc i pins s σ H E I hf st hg;subst hP hw hK;obtain⟨hi,ha⟩:=hg;obtain⟨⟨old,he⟩,si⟩:=st;obtain⟨pr,hp⟩:∃ p,(Zg2 xs)[i]?=some p:=⟨(Zg2 xs)[i]'hi,Yb hi⟩;obtain⟨e1,hx⟩:=Ze2 hp;obtain⟨its,rv,sq⟩:=I.sseq ha;obtain⟨u,hu,ru⟩:=rv.get hx;have hil:i<its.toArray.size:=by rw[Zc8]at hi;have:=rv.length;simp;omega
  have D:=Zx9 (prog:=X.prog) (w:=X.w) (A:=X.A.in1) b (I.ok.hd hc) p a ap its.toArray;refine wpAny_pyNext_enum_itemD D he ⟨si,sq⟩ hil ep (by simp;exact⟨ep,ea⟩) λx g tk hPx ho hst hT _ hk=>?_;have exu:x=u:=by
   have h1:its.toArray[i]?=some x:=hPx;have h2:its.toArray[i]?=some u:=by simpa using hu
   rw[h1]at h2;exact Ym h2
  subst exu;refine⟨Z,?_⟩;refine wpAny_letOwnedTupleGo_enum (s:={s with heap:=g,toks:=tk + 1}) ho λg' he' sb=>?_;have elt:e<s.heap.objs.size:=Yk he;have plt:p<s.heap.objs.size:=let⟨o,q,_⟩:=si.obj;Yk q;have sb':Heap.ExtBut e g g':=sb.extBut;have hT':IsPair g' s.heap.objs.size (.int i tk) x:=sb' _ _ (Ys1 elt) hT;have I1:Inv X pins σ (upd H s.heap.objs.size (.tup [pr.1,pr.2])) {s with heap:=g',toks:=tk + 1}:=I.turnedNewL (t':=tk + 1) (its:=[e,p]) (λc o hc q=>sb' c o (λz=>hc (by simp[z])) (hk c o (λz=>hc (by simp[z])) (λz=>hc (by simp[z])) q)) hf (Yg _)
   ⟨U,[.int i tk,x],.cons (by rw[e1];exact⟨tk,Y⟩) (.cons ru .nil),⟨_,hT',Y,Z⟩⟩
  refine⟨.ref s.heap.objs.size,_,I1,Y,⟨s.heap.objs.size,pr,hp,I.hok.fresh (Yg _),Y,Y⟩,⟨⟨x,by simpa using he'⟩,hst.1.at λo q=>sb' _ o (Yu ep) q⟩,λc hc=>?_⟩;have hc':c=e\/c=p:=by simpa using hc
  have ne:c≠s.heap.objs.size:=by
   rcases hc' with rfl | rfl
   ·exact Yx elt
   ·exact Yx plt
  rw[Zab ne];exact(hf c hc).1
 done:=by
  intro X hP hw hK hc i pins s σ H E I hf st hg;subst hP hw hK;obtain⟨hi,ha⟩:=hg;obtain⟨⟨old,he⟩,si⟩:=st;obtain⟨its,rv,sq⟩:=I.sseq ha;have hl:=rv.length;rw[Zc8]at hi;cases b with
  | true =>
   have si:s.heap.IsListIter p a i:=si;have sq:s.heap.IsList a its.toArray:=sq;refine Zk8 (I.ok.hd hc) he (λQ E hE=>wpAny_nextOf_list_end (I.ok.hd hc) si sq (by simp;omega) hE) λg eb=>⟨Y,I.turnedL (t':=s.toks) (its:=[e,p]) (λc o hc q=>eb c o (λz=>hc (by simp[z])) q) hf⟩
  | false =>
   have si:s.heap.IsTupleIter p a i:=si;have sq:s.heap.IsTuple a its.toArray:=sq;refine Zk8 (I.ok.hd hc) he (λQ E hE=>Zfl (I.ok.hd hc) si sq (by simp;omega) hE) λg eb=>⟨Y,I.turnedL (t':=s.toks) (its:=[e,p]) (λc o hc q=>eb c o (λz=>hc (by simp[z])) q) hf⟩
 self:=λA i s Q E st h=>let⟨⟨_,he⟩,_⟩:=st;wpAny_pyIter_enum he h
section
variable {X:Cx}
def Yad(K:Fg)(ta:TA):TI:=λσ H R=>ta σ H λvs H1=>∃(b:Bool) (a:Addr) (xs:LV),vs=[.ref a]/\SqB K b H1 a xs/\R (Itp (Zg2 xs) λH=>SqB K b H a xs) H1
def Zqs{elts:List Expr}{x1}{tpos:Pos}{a:Expr}{ta:TA}{p pos:Pos}(hg:Gl X "enumerate")(hm:X.mg "enumerate"=none)(ha:PA X [a] ta)(hs:starEach [a] X.env=[(false,eval a X.env)]:=by rfl):
  PI X (.Tuple elts x1 tpos) (.Call (.Name "enumerate" p) [a] [] pos) (Yad X.K ta):=by
 intro pins s σ H R I h;refine Call_ (Ze0 I hg hm boot_enumerate (Yw1 (thn (ha pos pins s σ H _ I h) λus s1 ⟨vs,H1,I1,r1,q1⟩=>?_) hs rfl));obtain⟨b,l,xs,e,t1,q⟩:=q1;subst e;cases r1 with
 | cons r rr =>
  cases rr;obtain rfl:_=Value.ref l:=r;obtain⟨its,rv,sq⟩:=I1.sseq t1;have lt1:l<s1.heap.objs.size:=by
   cases b with
   | true=>obtain⟨_,e,_⟩:=(show s1.heap.IsList l its.toArray from sq);exact Yk e
   | false=>obtain⟨_,e,_⟩:=(show s1.heap.IsTuple l its.toArray from sq);exact Yk e
  refine Zyr b sq λg he si hk=>wpAny_pyIter_enum (s:={s1 with heap:=g}) he ?_;refine⟨_,[s1.heap.objs.size + 1,s1.heap.objs.size],_,_,H1,Y,I1.kept (t':=s1.toks) λb o e=>hk b o e,Zu9 b l _ _ (Nat.succ_ne_self _) (Ys1 (Nat.lt_succ_of_lt lt1)) (Yx lt1),⟨⟨_,he⟩,si⟩,λc hc=>?_,q⟩;have hc':c=s1.heap.objs.size + 1\/c=s1.heap.objs.size:=by simpa using hc
  have ge:s1.heap.objs.size<=c:=by
   rcases hc' with rfl | rfl
   ·exact Yl2 _ _
   ·exact Yg _
  exact I1.fpOk ge (I1.hok.fresh ge)
end
end L2
namespace L2
open PySem PySem.Spec PyProof.Rows PySem.W
def Yce{A:Around}{k:Nat}(hr:Zci k A):A.units + 65<cLine:=by have:=hr.un;omega
def Zlp{κ:Type}[DecidableEq κ]{kvs:List (κ×V)}{k:κ}(h:k∉kvs.map (·.1)):Zf0 kvs k=none:=by
 cases e:Zf0 kvs k with
 | none=>rfl
 | some v=>exact absurd (Zu5 e) h
def Ztt{κ:Type}[DecidableEq κ]{kvs:List (κ×V)}{k:κ}{v:V}(h:k∉kvs.map (·.1)):(Zdv kvs k v).map (·.1)=kvs.map (·.1)++[k]:=by
 rw[Zgc v (Zlp h),Yr];rfl
def Zo6{α:Type}{l:List α}(nd:l.Nodup){i:Nat}{x:α}(h:l[i]?=some x):x∉l.take i:=by
 intro m;have hi:=(Yi.mp h).1;have e:=(Yi.mp h).2;have sp:l=l.take i++l.drop i:=(Yk3 i l).symm;rw[sp]at nd;have q:=(List.nodup_append.mp nd).2.2 x m;refine q x ?_ rfl;rw[Yj3 hi,e];exact Yh1
def Zgz{ps:List (V×V)}{Ok:Hp->Prop}{g:TG}{tb:TS}{D:Zza}{σ:St}{H:Hp}(Pv:NW)(h0:Pv 0 σ H)(hl:∀ i σ H,i<=ps.length->Pv i σ H->Ok H)
  (hs:∀ i p t σ H,ps[i]?=some p->Pv i σ H->H t=none->g (.ref t) σ (upd H t (.tup [p.1,p.2])) λσ2 H2=>tb {D with nx:=Pv (i + 1),ct:=Pv (i + 1),bk:=D.nx} σ2 H2) (hd:∀ σ H,Pv ps.length σ H->D.nx σ H):
  ∃ W:Nat->Nat->St->Hp->Prop,(∃ m,W 0 m σ H)/\∀ i m σ H,W i m σ H ->
   ((Itp ps Ok).stop i H/\D.nx σ H)\/((Itp ps Ok).go i H/\∃ N:SW,(∀ σ' H',N σ' H'->∃ m',m'<m/\W (i + 1) m' σ' H')/\∀ x H',(Itp ps Ok).yld i H x H'->g x σ H' λσ2 H2=>tb {D with nx:=N,ct:=N,bk:=D.nx} σ2 H2):=by
 refine⟨λi m σ H=>m=ps.length - i/\i<=ps.length/\Pv i σ H,⟨ps.length,by simp,Yj1 _,h0⟩,?_⟩;rintro i m σ H ⟨rfl,hi,p⟩;have q:=hl i σ H hi p;by_cases hlt:i<ps.length
 ·refine .inr ⟨⟨hlt,q⟩,Pv (i + 1),λσ' H' p'=>⟨ps.length - (i + 1),W,Y,hlt,p'⟩,λx H' y=>?_⟩;obtain⟨t,pr,hp,ht,rfl,rfl⟩:=y;exact hs i pr t σ H hp p ht
 ·have e:i=ps.length:=by omega
  subst e;exact .inl ⟨⟨Yg _,q⟩,hd σ H p⟩
abbrev g2(K:Fg)(i j:Nat):TG:=Ych K 2 (Z4q (Zgy i) (Z4q (Zgy j) Yci))
def Z4r{K:Fg}{i j:Nat}{t:Addr}{x y:V}{σ:St}{H:Hp}{R:SW}(h:SqT K H t [x,y])(q:R ((σ.set i (some x)).set j (some y)) H):g2 K i j (.ref t) σ H R :=
 ⟨t,[x,y],Y,h,Y,x,[y],Y,y,[],Y,Y,q⟩
def Zpp{K:Fg}{i j:Nat}{t:Addr}{x y:V}{σ:St}{H:Hp}{R:SW}(q:R ((σ.set i (some x)).set j (some y)) (upd H t (.tup [x,y]))):g2 K i j (.ref t) σ (upd H t (.tup [x,y])) R :=
 Z4r (SqT.of uS) q
def Zl2{X:Cx}{K:Fg}{i j:Nat}{x y:Str}{p q pos:Pos}{c:Nat}(hK:X.K=K)(hc:X.calm=true)(hN:X.N.Nodup)(hi:X.N[i]?=some x)(hj:X.N[j]?=some y)(hx:Loc X.env.scope x)(hy:Loc X.env.scope y)
  (fx:X.fn x=true\/X.env.scope.names.lookup x=some .local) (fy:X.fn y=true\/X.env.scope.names.lookup y=some .local):PG X (.Tuple [.Name x p,.Name y q] c pos) (g2 K i j):=by
 subst hK;exact Zeg hc (gC (Zai (i:=i) hN hi hx fx) (gC (Zai (i:=j) hN hj hy fy) Zc0))
def Zbg{H:Hp}{t:Addr}{o:HO}(h:H t=none):Zaj H (upd H t o):=λb u e=>by rw[Zab (nNo e h)];exact e
def Zf2{α:Type}(p:α->Bool):∀(xs:List α) (i:Nat) (x:α),xs[i]?=some x->(xs.take (i + 1)).filter p=(xs.take i).filter p++if p x=true then[x]else[]:=by
 intro xs i x h;rw[Ym1,h,List.filter_append]
 congr 1
 cases e:p x <;> simp[List.filter,e]
def Zyl{K:Fg}{ps:List (V×V)}{Ok:Hp->Prop}{js:LN}{tt:TT}{te:TE}{σ:St}{Q:VK}{H1:Hp}(hz:ps.length<=sizeLine)(p:V×V->Bool)(F:Addr->V×V->V->Hp->Prop)
  (hF:∀ D x v H H',(∀ b o,b≠D->H b=some o->H' b=some o)->F D x v H->F D x v H')
  (hok:∀ H,Zaj H1 H->Ok H)
  (ht:∀ x H (R:Bool->Hp->Prop),Zaj H1 H->x∈ps->(∀ H',Zaj H H'->R (p x) H')->tt (some x.1 :: some x.2 :: js.map λj=>(σ[j]?).join) H R)
  (he:∀ D x H (R:V->Hp->Prop),Zaj H1 H->(∃ ys,H D=some (.lst ys))->H1 D=none->x∈ps->p x=true->(∀ v H',Zaj H H'->F D x v H'->R v H')->te (some x.1 :: some x.2 :: js.map λj=>(σ[j]?).join) H R)
  (hd:∀ D H' ys,H1 D=none->Zaj H1 H'->H' D=some (.lst ys)->Paired (λx v=>F D x v H') (ps.filter p) ys->Q (.ref D) H'):
  compBody 2 js (g2 K 0 1) tt te σ Q (Itp ps Ok) H1:=by
 intro D hD;refine⟨λi m ys σ' H=>m=ps.length - i/\i<=ps.length/\Zaj H1 H/\H D=some (.lst ys)/\Paired (λx v=>F D x v H) ((ps.take i).filter p) ys/\∃ o u,σ'=o :: u :: js.map λj=>(σ[j]?).join,
  ⟨ps.length,by simp,Yj1 _,Zbg hD,uS,by simpa using Paired.nil,none,none,Y⟩,?_⟩
 rintro i m ys σ' H ⟨rfl,hi,hs,hl,hp,o,u,rfl⟩;have mono:∀ {H H':Hp},(∀ b o,b≠D->H b=some o->H' b=some o)->Paired (λx v=>F D x v H) ((ps.take i).filter p) ys->Paired (λx v=>F D x v H') ((ps.take i).filter p) ys:=λh q=>Paired.mapP q λa b z=>hF D a b _ _ h z;by_cases hlt:i<ps.length
 ·have yl:ys.length<sizeLine:=by
   rw[<- hp.length];refine Yy5 (Yz2 _ _) ?_;rw[Yk1];omega
  refine .inr ⟨⟨hlt,hok H hs⟩,yl,λys3 σ3 H3=>Zaj H1 H3/\H3 D=some (.lst ys3)/\Paired (λx v=>F D x v H3) ((ps.take (i + 1)).filter p) ys3/\∃ o u,σ3=o :: u :: js.map λj=>(σ[j]?).join,
   λys3 σ3 H3 z=>⟨ps.length - (i + 1),W,Y,hlt,z⟩,λx H2 y=>?_⟩
  obtain⟨t,x,hx,ht0,rfl,rfl⟩:=y;refine Zpp ?_;show tt (some x.1 :: some x.2 :: js.map λj=>(σ[j]?).join) (upd H t (.tup [x.1,x.2])) _;have hm:x∈ps:=Yf hx;have st:Zaj H (upd H t (.tup [x.1,x.2])):=Zbg ht0;refine ht x _ _ (hs.trans st) hm λH4 s4=>?_;have s04:Zaj H H4:=st.trans s4;have hs4:Zaj H1 H4:=hs.trans s04;cases hpx:p x with
  | true =>
   rw[if_pos rfl];refine he D x H4 _ hs4 ⟨_,s04 _ _ hl⟩ hD hm hpx λv H5 s5 f5=>⟨s5 _ _ (s04 _ _ hl),λb o e=>?_,uS,?_,_,Z⟩
   ·rw[Zab (nNo e hD)];exact s5 _ _ (hs4 _ _ e)
   ·rw[Zf2 p ps i x hx,hpx,if_pos rfl];refine Yn2 (mono (λb o hb e=>by rw[Zab hb];exact s5 _ _ (s04 _ _ e)) hp) (hF D _ _ _ _ (λb o hb e=>by rw[Zab hb];exact e) f5)
  | false =>
   rw[if_neg Yq];refine⟨hs4,s04 _ _ hl,?_,_,Z⟩;rw[Zf2 p ps i x hx,hpx,if_neg Yq,Yy1];exact mono (λb o _ e=>s04 _ _ e) hp
 ·have e:i=ps.length:=by omega
  subst e;rw[Yp1]at hp;exact .inl ⟨⟨Yg _,hok H hs⟩,hd D H ys hD hs hl hp⟩
theorem Zgu{α:Type}{f:α->V}:∀ {xs:List α}{ys:LV},Paired (λx v=>v=f x) xs ys->ys=xs.map f
 | _,_,.nil=>rfl
 | _,_,.cons r t=>by rw[Yz,r,Zgu t]
def Zpu{K:Fg}{ps:List (V×V)}{Ok:Hp->Prop}{js:LN}{tt:TT}{te:TE}{σ:St}{Q:VK}{H1:Hp}(hz:ps.length<=sizeLine)(p:V×V->Bool)(f:V×V->V)
  (hok:∀ H,Zaj H1 H->Ok H)
  (ht:∀ x H (R:Bool->Hp->Prop),Zaj H1 H->x∈ps->(∀ H',Zaj H H'->R (p x) H')->tt (some x.1 :: some x.2 :: js.map λj=>(σ[j]?).join) H R)
  (he:∀ x H (R:V->Hp->Prop),Zaj H1 H->x∈ps->p x=true->(∀ H',Zaj H H'->R (f x) H')->te (some x.1 :: some x.2 :: js.map λj=>(σ[j]?).join) H R)
  (hd:∀ D H',H1 D=none->Zaj H1 H'->H' D=some (.lst ((ps.filter p).map f))->Q (.ref D) H'):
  compBody 2 js (g2 K 0 1) tt te σ Q (Itp ps Ok) H1 :=
 Zyl hz p (λ_ x v _=>v=f x) (λ_ _ _ _ _ _ z=>z) hok ht (λD x H R hs _ _ hx hp k=>he x H R hs hx hp λH' s'=>k _ _ s' rfl)
  λD H' ys hD hs hl hp=>hd D H' hD hs (by rw[hl,Zgu hp])
def Zs9{J:It}{xs:LV}{Ok:Hp->Prop}(R:Zqf J xs Ok){js:LN}{tt:TT}{te:TE}{σ:St}{Q:VK}{H1:Hp}(hz:xs.length<=sizeLine)(p:V->Bool)(f:V->V)
  (hok:∀ H,Zaj H1 H->Ok H)
  (ht:∀ x H (R:Bool->Hp->Prop),Zaj H1 H->x∈xs->(∀ H',Zaj H H'->R (p x) H')->tt (some x :: js.map λj=>(σ[j]?).join) H R)
  (he:∀ x H (R:V->Hp->Prop),Zaj H1 H->x∈xs->p x=true->(∀ H',Zaj H H'->R (f x) H')->te (some x :: js.map λj=>(σ[j]?).join) H R)
  (hd:∀ D H',H1 D=none->Zaj H1 H'->H' D=some (.lst ((xs.filter p).map f))->Q (.ref D) H'):
  compBody 1 js (Zgy 0) tt te σ Q J H1 :=
 Zhq R hz p (λ_ x v _=>v=f x) (λ_ _ _ _ _ _ z=>z) hok ht (λD x H R hs _ _ hx hp k=>he x H R hs hx hp λH' s'=>k _ _ s' rfl)
  λD H' ys hD hs hl hp=>hd D H' hD hs (by rw[hl,Zgu hp])
section
variable {X:Cx}
theorem Zyz{d:Dat}{n:Nat}(h2:kqdOk n d=true):∀ {ds:List Dat},ds.all (kqdOk 8)=true->((kqdPs ds).any λy=>PyData.eqv y (kqdP d))=ds.any λe=>dEq e d
 | [],_=>by rw[kqdPs];rfl
 | e :: ds,h=>by
  rw[Yn3,Yl1]at h;rw[kqdPs,Yq4,Yq4,Zrc h.1 h2,Zyz h2 h.2]
def Ydu(K:Fg)(f:Bool->Bool):R2:=λx y H Q=>∃ d ds,Rep K H x d/\Rep K H y (.list ds)/\kqdOk 9 d=true/\ds.all (kqdOk 8)=true/\Q (.bl (f (ds.any λe=>dEq e d))) H
def Zzp{ds:List Dat}(h:ds.all (kqdOk 8)=true):SeqAt.shaped (PyData.list (kqdPs ds))=true:=by
 have:=Zev (d:=.list ds) (by rw[kqdOk];exact h);rw[kqdP]at this;exact this
def Zoq(hu:X.A.units + 65<cLine):OpR X (compareOp .NotIn) (Ydu X.K Bool.not):=by
 exfalso;obtain⟨d,ds,h1,h2,k1,k2,q⟩:=h;obtain⟨as,ra⟩:=h1.reads I rx;obtain⟨bs,rb⟩:=h2.reads I ry;rw[kqdP]at rb;exact SeqAt.notIn_list_reads rb ra (SeqAt.canLay_of_shaped (Zzp k2)) (SeqAt.canLay_of_shaped (Zev k1)) (room_in_shaped (Zev k1) hu) (Zbf I q (by rw[Zyz k1 k2]))
end
def Zd7(i:Nat):V:=.int (i:Nat)
def Zxg(i:Nat):Dat:=.int (i:Nat)
theorem Zke{K:Fg}{H:Hp}:∀ ns:LN,Reps K H (ns.map Zd7) (ns.map Zxg)
 | []=>.nil
 | n :: r=>.cons (.int _) (Zke r)
end L2
namespace L2
open PySem PySem.Spec PyProof.Rows
section
variable {X:Cx}
end
end L2
namespace L2
open PySem PySem.W PySem.Spec PyProof.Rows
section
variable {X:Cx}
end
end L2
namespace L2
open PySem PySem.Spec PyProof.Rows
section
variable {prog:Program}{w:World}{A:Around}{E:EV}{s:Shared}{d it:Addr}{es:Array DictEntry}{ep i:Nat}
end
section
variable {X:Cx}{pins:PL}{σ:St}{H H':Hp}{s:Shared}{a:Addr}{kvs:List (List Key×V)}{o:Obj}
end
section
variable {X:Cx}{tg:Expr}
end
def Zyk{K:Fg}{J:It}{xs:LV}{Ok:Hp->Prop}(R:Zqf J xs Ok){js:LN}{tt:TT}{te:TE}{σ:St}{Q:VK}{H1:Hp}(hz:xs.length<=sizeLine)(p:V->Bool)(F:Addr->V->V->Hp->Prop)(l r:V->V)
  (hF:∀ D x v H H',(∀ b o,b≠D->H b=some o->H' b=some o)->F D x v H->F D x v H')
  (hok:∀ H,Zaj H1 H->Ok H) (hp:∀ x∈xs,∃ t,x=.ref t/\H1 t=some (.tup [l x,r x]))
  (ht:∀ x H (R:Bool->Hp->Prop),Zaj H1 H->x∈xs->(∀ H',Zaj H H'->R (p x) H')->tt (some (l x):: some (r x):: js.map λj=>(σ[j]?).join) H R)
  (he:∀ D x H (R:V->Hp->Prop),Zaj H1 H->(∃ ys,H D=some (.lst ys))->H1 D=none->x∈xs->p x=true->(∀ v H',Zaj H H'->F D x v H'->R v H')->te (some (l x):: some (r x):: js.map λj=>(σ[j]?).join) H R)
  (hd:∀ D H' ys,H1 D=none->Zaj H1 H'->H' D=some (.lst ys)->Paired (λx v=>F D x v H') (xs.filter p) ys->Q (.ref D) H'):
  compBody 2 js (g2 K 0 1) tt te σ Q J H1:=by
 refine Zcc R hz (λD i ys σ' H=>H1 D=none/\Zaj H1 H/\H D=some (.lst ys)/\Paired (λx v=>F D x v H) ((xs.take i).filter p) ys/\∃ o u,σ'=o :: u :: js.map λj=>(σ[j]?).join) ?_ ?_ ?_ ?_
 ·intro D hD;exact⟨hD,Zbg hD,uS,by simpa using Paired.nil,none,none,Y⟩
 ·rintro D i ys σ' H hi ⟨hD,hs,hl,q,_⟩;refine⟨hok H hs,?_⟩;rw[<- q.length];exact Yv1 (Yz2 _ _) (by rw[Yk1];omega)
 ·rintro D i x ys σ' H hD hx ⟨_,hs,hl,q,o,u,rfl⟩;have mono:∀ {H H':Hp},(∀ b o,b≠D->H b=some o->H' b=some o)->Paired (λx v=>F D x v H) ((xs.take i).filter p) ys->Paired (λx v=>F D x v H') ((xs.take i).filter p) ys:=λh q=>Paired.mapP q λa b z=>hF D a b _ _ h z;have hm:x∈xs:=Yf hx;obtain⟨t,rfl,hxt⟩:=hp x hm;refine Z4r (SqT.of (hs _ _ hxt)) ?_;show tt (some (l (.ref t)):: some (r (.ref t)):: js.map λj=>(σ[j]?).join) H _;refine ht (.ref t) H _ hs hm λH4 s4=>?_;have hs4:=hs.trans s4;cases hpx:p (.ref t)with
  | true =>
   rw[if_pos rfl];refine he D (.ref t) H4 _ hs4 ⟨_,s4 _ _ hl⟩ hD hm hpx λv H5 s5 f5=>⟨s5 _ _ (s4 _ _ hl),hD,λb o e=>?_,uS,?_,_,Z⟩
   ·rw[Zab (nNo e hD)];exact s5 _ _ (hs4 _ _ e)
   ·rw[Zf2 p xs i _ hx,hpx,if_pos rfl];exact Yn2 (mono (λb o hb e=>by rw[Zab hb];exact s5 _ _ (s4 _ _ e)) q) (hF D _ _ _ _ (λb o hb e=>by rw[Zab hb];exact e) f5)
  | false =>
   rw[if_neg Yq];refine⟨hD,hs4,s4 _ _ hl,?_,_,Z⟩;rw[Zf2 p xs i _ hx,hpx,if_neg Yq,Yy1];exact mono (λb o _ e=>s4 _ _ e) q
 ·rintro D ys σ' H hD ⟨_,hs,hl,q,_⟩;rw[Yp1]at q;exact hd D H ys hD hs hl q
structure Air(h:Heap)(e T:Addr)(cls:Value)(dx:Option Addr)(fl:Value):Prop where
 ne:T≠e
 obj:∃ oe vs,h.get? e=some oe/\oe.cls=cls/\oe.dict=dx/\oe.data=.fields vs/\vs[1]?=some (.ref T)
 tb:∃ oT ts,h.get? T=some oT/\oT.data=.fields ts/\ts[3]?=some fl
structure Chg(S R:List Addr)(h h':Heap):Prop where
 sz:h.objs.size<=h'.objs.size
 keep:∀ b o,h.get? b=some o->b∉S->b∉R->h'.get? b=some o
 slot:∀ b o,h.get? b=some o->b∉R->∃ sl,h'.get? b=some {o with slots:=sl}
 there:∀ b o,h.get? b=some o->∃ o',h'.get? b=some o'
section
variable {M:Model}{A:Around}{E:EV}{s:Shared}
end
def CX1(P:Program)(w:World):CXT:=λouter H s E ev s'=>∃(e T:Addr) (cls:Value) (dx:Option Addr) (H':Hp),ev=.ref e/\s'.os=s.os/\AllBare s'.gens/\Un (frs outer) [] H H' s.heap s'.heap/\HOk P w H' s'.heap /\
 H' e=none/\H' T=none/\s.heap.objs.size<=e/\s.heap.objs.size<=T/\Air s'.heap e T cls dx .none/\E cls dx H'
structure Fns(X:Cx)(E:XK):Prop where
 xe:X.xe=λe s'=>wpAny (model X.prog X.w) X.A (leaving X.env e) (λ_ s''=>CX1 X.prog X.w X.outer X.H₀ X.s₀ E e s'') (λe' s''=>CX1 X.prog X.w X.outer X.H₀ X.s₀ E e' s'') s'
 stk:X.stack=X.env :: X.outer
 fr:X.env.frame=some X.env.locals
 ex:X.ex=[]
section
variable {X:Cx}{pins:PL}{σ:St}{H:Hp}{s:Shared}{E:XK}{e T:Addr}{cls:Value}{dx:Option Addr}
end
end L2
namespace L2
open PySem PySem.Spec
structure ExC(K:Fg)(C:Addr):Prop where
 obj:∃ nm q N bs bm hdct sn sub ab col dd k0 k1 k2 k3 k5,K.lookup C=some (excClassObj nm q C N bs bm hdct sn sub ab col dd k0 k1 k2 k3 k5 "ValueError.__new__")
 val:W.subIn K (.ref C) (.type "ValueError")=some true
 bas:W.subIn K (.ref C) (.type "BaseException")=some true
 att:W.subIn K (.ref C) (.type "AttributeError")=some false
 nam:W.subIn K (.ref C) (.type "NameError")=some false
 kp:W.keepIn K (.ref C)=true
section
variable {K:Fg}{prog:Program}{w:World}{A:Around}{E:EV}{h:Heap}{g:Array GenState}{d:Drawn}{t:Nat}{os:OsState}{C:Addr}
end
end L2
namespace L2
open PySem PySem.Spec PySem.Builtin PySem.Builtin.ObjectAttr PySem.W
structure ExA(K:Fg)(C:Addr):Prop extends ExC K C where
 ga:W.findIn K (.ref C) "__getattribute__"=some (some (.builtin "BaseException.__getattribute__"))
 gt:W.findIn K (.ref C) "__getattr__"=some none
 ca:W.findIn K (.ref C) "__class__"=some (some (.builtin "object.__class__"))
 cg:W.specialIn K (.builtin "object.__class__") "__get__"=some (some (.builtin "getset_descriptor.__get__"))
 ct:W.takesIn K (.builtin "object.__class__")=some true
 ob:W.mroIn K C (.type "object")=some true
section
variable {K:Fg}{prog:Program}{w:World}{A:Around}{E:EV}{h:Heap}{g:Array GenState}{d:Drawn}{t:Nat}{os:OsState}{x C:Addr}{ox:Obj}{od:Option Obj}{name:Str}
end
end L2
namespace L2
open PySem PySem.Spec PyProof.Rows
abbrev TF:=St->Hp->(Hp->Prop)->Prop
section
variable {X:Cx}{e:Expr}{es:List Expr}{te:TE}{t u:TF}{pos:Pos}
def Zxz{i:Int}(h:i.natAbs<2 ^ 64):i.natAbs.log2<1920:=by
 by_cases z:i.natAbs=0
 ·rw[z];decide
 ·exact Yl3 ((Nat.log2_lt z).mpr h) (by decide)
def Z4k{i:Int}(h:i.natAbs<2 ^ 64):(Str.ofString (toString i)).length<=100000:=by
 have e:=PySem.int_text_length_le (k:=1920) (by decide) (Zxz h);rw[PySem.ofString_length];omega
end
section
variable {X:Cx}{E:XK}{C:Addr}{x:Str}{np cpos pos:Pos}{e:Expr}{es:List Expr}{t:TA}
end
section
variable {X:Cx}{pins:PL}{σ:St}{H:Hp}{s:Shared}{A:Around}{E:EV}{Q:EV}{e C:Addr}{dx:Option Addr}{cv:Value}{b:Bool}
end
abbrev XKs:=Value->Option Addr->St->Hp->Prop
abbrev TSx:=Zza->XKs->St->Hp->Prop
abbrev TEx:=St->Hp->VK->XK->Prop
def XP(X:Cx)(pins:PL)(E:XKs)(ev:Value)(s':Shared):Prop:=∃(e T:Addr) (cls:Value) (dx:Option Addr) (σ':St) (H':Hp),ev=.ref e/\Inv X pins σ' H' s'/\Zrq X pins H' e/\Zrq X pins H' T/\Air s'.heap e T cls dx .none/\E cls dx σ' H'
section
variable {X:Cx}{st:Stmt}{Zlx:List Stmt}{t u:TSx}{e:Expr}{te:TEx}{pos:Pos}
end
section
variable {X:Cx}{k:Nat}{f C:Addr}{fd:FuncData}{ps:LS}{sp:Sp}{dvs:LV}{ds:LU}{x m:Str}{p pos apos:Pos}{e o:Expr}{es:List Expr}{ta:TE}{t:TA}
end
section
variable {K:Fg}{M:Model}{A:Around}{E:EV}{h:Heap}{g:Array GenState}{d:Drawn}{t:Nat}{os:OsState}{e C D:Addr}
end
section
variable {X:Cx}{pins:PL}{σ:St}{H:Hp}{s:Shared}
end
section
variable {X:Cx}{D:Addr}{body:List Stmt}{t:TSx}{x n dn:Str}{np xp ep ap hp pos:Pos}{i j:Nat}
end
section
variable {X:Cx}{k:Nat}{f C:Addr}{fd:FuncData}{ps:LS}{sp:Sp}{x m:Str}{p pos apos:Pos}{e o:Expr}{es:List Expr}{ta:TE}{t:TA}
end
section
variable {X:Cx}
end
end L2
namespace L2
open PySem PySem.W PySem.Spec PyProof.Rows
section
variable {X:Cx}{e:Expr}{te:TE}{pos:Pos}{k:Nat}
end
end L2
namespace L2
open PySem PySem.Spec PyProof.Rows HT
section
variable {prog:Program}{w:World}{A:Around}{E:EV}{s:Shared}
def Zjf{t sl:Addr}{items:Array Value}{vl vu:Value}{lo hi:Option Int}{Q:EV}(ht:IsTup s.heap t items)(hs:s.heap.IsSliceOf sl vl vu .none)(pl:IsPart vl lo)(pu:IsPart vu hi)
  (hw:sIx items.size 0 lo=0/\sIx items.size items.size hi=items.size) (h:Q (.ref t) s):wpAny (model prog w) A (getItem (.ref t) (.ref sl)) Q E s:=by
 obtain⟨os,hos,hcs,hds⟩:=id hs;have hTs:s.TypeIs (.ref sl) "slice":=⟨os,hos,hcs⟩;unfold getItem
 try with_reducible refine Jj ?_
 first | refine Ja (Jd ?_) | skip
 refine Ja (wpAny_sequenceKey ht.typeIs (by decide) ?_);refine Ja (wpAny_callSpecial?_slot (name:=Str.ofString "__getitem__") ht.typeIs Ys2
  (wpAny_call_entry Ys2 ht.typeIs entry_tuple_getitem ?_ (args_tuple_getitem _ _)))
 show wpAny _ _ (Builtin.Tuple.tupleItemsOf (.ref t)>>=_) _ _ s;refine Ja (tupleItemsOf_ ht ?_);refine Ja (wpAny_typeOf hTs ?_);rw[if_pos (by decide)];refine Ja (Zgh hs pl pu ?_);have yes:(((sIx items.size 0 lo:Nat):Int) == 0&&(1:Int) == 1&&(sIx items.size items.size hi - sIx items.size 0 lo) == items.size)=true:=by
  rw[hw.1,hw.2];simp
 show wpAny _ _ (if(((sIx items.size 0 lo:Nat):Int) == 0&&(1:Int) == 1&&(sIx items.size items.size hi - sIx items.size 0 lo) == items.size)=true then _ else _) _ _ s;rw[if_pos yes];apply Ja;unfold Builtin.Tuple.tupleIsExact;refine Ja (wpAny_typeOf ht.typeIs ?_);apply Jd;rw[if_pos (by decide)];refine Ja (wpAny_rule ?_);refine Jd ?_;exact⟨Z,Jd h⟩
end
def Z3k(K:Fg):V->Option Int->Option Int->Hp->VK->Prop:=λx lo hi H Q=>∃ a xs,x=.ref a/\SqT K H a xs /\
 ((sIx xs.length 0 lo=0/\sIx xs.length xs.length hi=xs.length)->Q (.ref a) H)/\(¬ (sIx xs.length 0 lo=0/\sIx xs.length xs.length hi=xs.length)->∀ p,H p=none->Q (.ref p) (upd H p (.tup (Ziv xs lo hi))))
def Zkc{X:Cx}:SlR X (Z3k X.K):=by
 intro pins s σ H x v vl vu lo hi sl Q I rx hs pl pu h;obtain⟨a,xs,ex,hx,q1,q2⟩:=h;by_cases hw:sIx xs.length 0 lo=0/\sIx xs.length xs.length hi=xs.length
 ·subst ex;cases rx;obtain⟨its,r,ht,hz⟩:=I.tuple hx;have hlen:its.toArray.size=xs.length:=by rw[Yn];exact r.length.symm
  refine⟨"tuple",_,Ys2.lookup,ht.typeIs,?_⟩;exact Zjf ht hs pl pu (by rw[hlen];exact hw) ⟨.ref a,H,I,Y,q1 hw⟩
 ·exact Z59 pins s σ H x v vl vu lo hi sl Q I rx hs pl pu ⟨a,xs,ex,hx,hw,q2 hw⟩
def Z43{xs:LV}{lo hi:Option Int}(h:sIx xs.length 0 lo=0/\sIx xs.length xs.length hi=xs.length):Ziv xs lo hi=xs:=by
 unfold Ziv;rw[h.1,h.2,List.drop_zero,Nat.sub_zero,Yp1]
def Zki{K:Fg}{H:Hp}{a:Addr}{xs:LV}{lo hi:Option Int}{Q:VK}(hx:H a=some (.tup xs))(q:∀ p H',Zaj H H'->H' p=some (.tup (Ziv xs lo hi))->Q (.ref p) H'):Z3k K (.ref a) lo hi H Q :=
 ⟨a,xs,Y,SqT.of hx,λh=>q a H (Zaj.refl _) (by rw[Z43 h];exact hx),λ_ p hp=>q p _ (λb o e=>by rw[Zab (nNo e hp)];exact e) uS⟩
def Zig{K:Fg}{H:Hp}{a b:Addr}{xs ys:LV}{Q:VK}(hx:H a=some (.tup xs))(hy:H b=some (.tup ys))(hz:xs.length + ys.length<=sizeLine)(q:∀ p H',Zaj H H'->H' p=some (.tup (xs++ys))->Q (.ref p) H'):Z6m K (.ref a) (.ref b) H Q :=
 ⟨a,b,xs,ys,Y,Y,SqT.of hx,SqT.of hy,hz,λe=>q b H (Zaj.refl _) (by rw[e];exact hy),λ_ e=>q a H (Zaj.refl _) (by rw[e,Yy1];exact hx),λ_ _ p hp=>q p _ (λc o e=>by rw[Zab (nNo e hp)];exact e) uS⟩
end L2
namespace L2
open PySem PySem.Spec PyProof.Rows
section
variable {X:Cx}
end
end L2
namespace L2
open PySem PySem.Spec PySem.Builtin PySem.Builtin.ObjectAttr PySem.W
structure ExI(K:Fg)(C D:Addr)(a:Str):Prop extends ExA K C where
 lk:∃ nm q N bs sn sub ab col dd k0 k1 k2 k3 k5,K.lookup C=some (excClassObj nm q C N bs [.ref D,.type "ValueError",.type "Exception",.type "BaseException",.type "object"] true sn sub ab col dd k0 k1 k2 k3 k5 "ValueError.__new__")
 sa:W.findIn K (.ref C) "__setattr__"=some (some (.builtin "object.__setattr__"))
 na:W.findIn K (.ref C) a=some none
section
variable {K:Fg}{prog:Program}{w:World}{A:Around}{E:EV}{s:Shared}{C D e t0:Addr}{a:Str}{v:Value}
end
end L2
namespace L2
open PySem PySem.Spec PyProof.Rows
structure DIn(K:Fg)(D:Addr):Prop where
 ga:W.specialIn K (.ref D) "__getattribute__"=some (some (.builtin "type.__getattribute__"))
 rd:W.readsIn K D (.type "type")=true
 fi:W.findCls K (.ref D) (.type "type") "__init__"=some (.val (.builtin "ValueError.__init__"))
section
variable {X:Cx}{pins:PL}{σ:St}{H:Hp}{s:Shared}{a:Addr}{φ:Heap->Prop}
end
section
variable {X:Cx}{C D f:Addr}{fd:FuncData}{k:Nat}{x dn a:Str}{np cpos pos apos pos':Pos}{e o value:Expr}{es:List Expr}{t:TA}{ta tv:TE}{ps:LS}
end
structure Yax(X:Cx)(scope:Scope)(own frees:LS)(js:LN):Prop where
 calm:X.calm=true
 kind:scope.kind=.function
 cells:∀ y∈scope.names,y.2=.cell->scope.names.lookup y.1=some .cell
 locals:∀ y∈scope.names,y.2=.local->scope.names.lookup y.1=some .local
 fr:∀ y∈scope.names,y.2=.free->X.env.scope.names.lookup y.1=some .cell\/X.env.scope.names.lookup y.1=some .free
 fre:∀ x∈frees,scope.names.lookup x=some .free
 slots:js.map (λj=>X.N[j]?)=frees.map some
section
variable {X:Cx}{pins:PL}{σ:St}{scope:Scope}{own frees:LS}{js:LN}
end
section
variable {X:Cx}{scope:Scope}{own frees:LS}{js:LN}{tg iter elt:Expr}{ifs:List Expr}{wi:TI}{g:TG}{tt:TT}{te:TE}{pos:Pos}
end
section
variable {prog:Program}{w:World}{A:Around}{E:EV}{s:Shared}{r:Addr}
end
section
variable {X:Cx}
end
structure Yei(K:Fg)(D:Addr):Prop where
 ha:W.findIn K (.ref D) "__class__"=some (some (.builtin "object.__class__"))
 hn:W.specialIn K (.builtin "object.__class__") "__get__"=some (some (.builtin "getset_descriptor.__get__"))
 ht:W.takesIn K (.builtin "object.__class__")=some true
 hm:W.mroIn K D (.type "object")=some true
 ki:W.kitOne K (.ref D) (.ref D)=some true
section
variable {prog:Program}{w:World}{A:Around}
end
section
variable {X:Cx}
end
section
variable {X:Cx}{pins:PL}{σ:St}{H:Hp}{s:Shared}{a:Addr}{o:Obj}{kvs:List (List Key×V)}
end
end L2
namespace L2
open PySem PySem.Spec PySem.Builtin
section
variable {X:Cx}
end
end L2
namespace L2
open PySem PySem.Spec PyProof.Rows
section
variable {X:Cx}{C D f:Addr}{fd:FuncData}{k:Nat}{x dn a:Str}{np cpos pos apos pos':Pos}{e o value:Expr}{es:List Expr}{t:TA}{ta tv:TE}{ps:LS}
end
end L2
namespace L2
open PySem PySem.Spec PySem.Builtin
section
variable {X:Cx}
end
section
variable {X:Cx}
end
end L2
namespace L2
open PySem PySem.Spec PyProof.Rows
structure ZLt(h:Heap)(z ti to i1 i2 l1 l2:Addr)(k:Nat)(f:Value):Prop where
 z:IsZip h z ti to f
 ti:IsPair h ti (.ref i1) (.ref i2)
 to:∃ a b,IsPair h to a b
 i1:h.IsListIter i1 l1 k
 i2:h.IsListIter i2 l2 k
theorem ZLt.at{h h':Heap}{z ti to i1 i2 l1 l2:Addr}{k:Nat}{f:Value}(x:ZLt h z ti to i1 i2 l1 l2 k f)(e:∀ b∈[z,ti,to,i1,i2],∀ o,h.get? b=some o->h'.get? b=some o):ZLt h' z ti to i1 i2 l1 l2 k f :=
 ⟨e z (by simp) _ x.z,e ti (by simp) _ x.ti,let⟨a,b,y⟩:=x.to;⟨a,b,e to (by simp) _ y⟩,x.i1.at λo q=>e i1 (by simp) o q,x.i2.at λo q=>e i2 (by simp) o q⟩
section
variable {prog:Program}{w:World}{A:Around}{E:EV}{s:Shared}
def Zm4{z ti to i1 i2 l1 l2:Addr}{k:Nat}{xs ys:Array Value}{x y:Value}{Q:OU->Shared->Prop}(D:ZipApart z ti to i1 i2 l1 l2)(st:ZLt s.heap z ti to i1 i2 l1 l2 k .none)
  (t1:s.heap.IsList l1 xs) (t2:s.heap.IsList l2 ys) (hx:xs[k]?=some x) (hy:ys[k]?=some y)
  (q:∀ g,ZLt g z ti to i1 i2 l1 l2 (k + 1) (rawInt s.heap.objs.size)->IsPair g s.heap.objs.size x y->(∀ c o,c≠z->c≠to->c≠i1->c≠i2->s.heap.get? c=some o->g.get? c=some o)->Q (some (.ref s.heap.objs.size)) {s with heap:=g}):
  wpAny (model prog w) A (pyNext (.ref z)) Q E s:=by
 obtain⟨hz,hti,⟨a,b,hto⟩,h1,h2⟩:=st;exact wpAny_pyNext_zip_item D hz hti hto h1 h2 t1 t2 hx hy λg b1 b2 b3 b4 b5 _ b7=>q g ⟨b1,b7 _ _ D.TIz D.TITO D.TIi1 D.TIi2 hti,⟨_,_,b2⟩,b3,b4⟩ b5 b7
def Zm5{z ti to i1 i2 l1 l2:Addr}{k:Nat}{xs ys:Array Value}{Q:OU->Shared->Prop}(hh:A.handled=none)(D:ZipApart z ti to i1 i2 l1 l2)(st:ZLt s.heap z ti to i1 i2 l1 l2 k .none)
  (t1:s.heap.IsList l1 xs) (t2:s.heap.IsList l2 ys) (hend:xs[k]?=none\/ys[k]?=none)
  (q:∀ g,(∀ c o,c≠z->c≠to->c≠i1->c≠i2->s.heap.get? c=some o->g.get? c=some o)->Q none {s with heap:=g}):wpAny (model prog w) A (pyNext (.ref z)) Q E s:=by
 obtain⟨hz,hti,⟨a,b,hto⟩,h1,h2⟩:=st;exact wpAny_pyNext_zip_end hh D hz hti hto h1 h2 t1 t2 hend q
def Zpy{l1 l2:Addr}{xs ys:Array Value}{Q:EV}(t1:s.heap.IsList l1 xs)(t2:s.heap.IsList l2 ys)
  (q:∀ g,ZLt g (s.heap.objs.size + 4) (s.heap.objs.size + 2) (s.heap.objs.size + 3) s.heap.objs.size (s.heap.objs.size + 1) l1 l2 0 .none->(∀ c o,s.heap.get? c=some o->g.get? c=some o)->Q (.ref (s.heap.objs.size + 4)) {s with heap:=g}):
  wpAny (model prog w) A (call (.type "zip") [.ref l1,.ref l2]) Q E s :=
 call_zip_2 t1 t2 λg a1 a2 a3 a4 a5 _ a7=>q g ⟨a1,a2,⟨_,_,a3⟩,a4,a5⟩ a7
end
def Zu6{P:Program}{w:World}{K:Fg}{elts:List Expr}{x1}{pos:Pos}{xs ys:LV}(a b z ti to i1 i2:Addr)(D:ZipApart z ti to i1 i2 a b):
  Zqe P w K (.Tuple elts x1 pos) (Itp (xs.zip ys) λH=>SqL K H a xs/\SqL K H b ys) [z,ti,to,i1,i2] z (λi h=>ZLt h z ti to i1 i2 a b i .none) where
 mem:=by simp
 obj:=λi h st c hc=>by
  have hc':c=z\/c=ti\/c=to\/c=i1\/c=i2:=by simpa using hc
  obtain⟨x,y,h3⟩:=st.to;obtain⟨o1,e1,_,d1⟩:=st.i1;obtain⟨o2,e2,_,d2⟩:=st.i2
  rcases hc' with rfl | rfl | rfl | rfl | rfl
  ·exact⟨_,st.z,λv q=>by cases q⟩
  ·exact⟨_,st.ti,λv q=>by cases q⟩
  ·exact⟨_,h3,λv q=>by cases q⟩
  ·exact⟨_,e1,λv q=>by rw[d1]at q;cases q⟩
  ·exact⟨_,e2,λv q=>by rw[d2]at q;cases q⟩
 keep:=λi h h' st k=>st.at k
 item:=by
  intro X hP hw hK hc i pins s σ H E I hf st hg;subst hP hw hK;obtain⟨hi,ha,hb⟩:=hg;obtain⟨p,hp⟩:∃ p,(xs.zip ys)[i]?=some p:=⟨(xs.zip ys)[i]'hi,Yb hi⟩;obtain⟨hx,hy⟩:=Zh4 hp;obtain⟨its,rv,pa',_⟩:=I.list ha;obtain⟨jts,rw',pb',_⟩:=I.list hb;obtain⟨u,hu,ru⟩:=rv.get hx;obtain⟨v,hv,rv'⟩:=rw'.get hy;refine Zm4 D st pa'.isList pb'.isList (by simpa using hu) (by simpa using hv) λg st' hpr hk=>?_;refine⟨Z,?_⟩;refine wpAny_letOwnedTupleGo_zip (s:={s with heap:=g}) st'.z λg' z' sb=>?_;have zlt:z<s.heap.objs.size:=Yk st.z;have nz:s.heap.objs.size≠z:=Ys1 zlt;have sb':Heap.ExtBut z g g':=sb.extBut;have hT:IsPair g' s.heap.objs.size u v:=sb' _ _ nz hpr;have I1:Inv X pins σ (upd H s.heap.objs.size (.tup [p.1,p.2])) {s with heap:=g' }:=I.turnedNewL (t':=s.toks) (its:=[z,ti,to,i1,i2]) (λc o hc e=>sb' c o (λq=>hc (by simp[q])) (hk c o (λq=>hc (by simp[q])) (λq=>hc (by simp[q])) (λq=>hc (by simp[q])) (λq=>hc (by simp[q])) e)) hf (Yg _)
   ⟨U,[u,v],.cons ru (.cons rv' .nil),⟨_,hT,Y,Z⟩⟩
  have st2:ZLt g' z ti to i1 i2 a b (i + 1) .none:=by
   obtain⟨a1,a2,a3⟩:=st'.to;exact⟨z',sb' _ _ D.TIz st'.ti,⟨a1,a2,sb' _ _ D.TOz a3⟩,st'.i1.extBut sb' D.i1z,st'.i2.extBut sb' D.i2z⟩
  refine⟨.ref s.heap.objs.size,_,I1,Y,⟨s.heap.objs.size,p,hp,I.hok.fresh (Yg _),Y,Y⟩,st2,λc hc=>?_⟩;have lt:∀ c∈[z,ti,to,i1,i2],c<s.heap.objs.size:=λc hc=>by
   have hc':c=z\/c=ti\/c=to\/c=i1\/c=i2:=by simpa using hc
   obtain⟨a1,a2,a3⟩:=st.to;obtain⟨o1,e1,_⟩:=st.i1;obtain⟨o2,e2,_⟩:=st.i2
   rcases hc' with rfl | rfl | rfl | rfl | rfl
   ·exact zlt
   ·exact Yk st.ti
   ·exact Yk a3
   ·exact Yk e1
   ·exact Yk e2
  rw[Zab (Yx (lt c hc))];exact(hf c hc).1
 done:=by
  intro X hP hw hK hc i pins s σ H E I hf st hg;subst hP hw hK;obtain⟨hi,ha,hb⟩:=hg;obtain⟨its,rv,pa',_⟩:=I.list ha;obtain⟨jts,rw',pb',_⟩:=I.list hb;have l1:=rv.length;have l2:=rw'.length;have hend:its.toArray[i]?=none\/jts.toArray[i]?=none:=by
   rw[Yw4]at hi
   rcases Nat.le_total xs.length ys.length with h | h
   ·rw[Ys5 h]at hi;exact .inl (by simp;omega)
   ·rw[Nat.min_eq_right h]at hi;exact .inr (by simp;omega)
  exact Zm5 (I.ok.hd hc) D st pa'.isList pb'.isList hend λg hk=>⟨Y,I.turnedL (t':=s.toks) (its:=[z,ti,to,i1,i2]) (λc o hc e=>hk c o (λq=>hc (by simp[q])) (λq=>hc (by simp[q])) (λq=>hc (by simp[q])) (λq=>hc (by simp[q])) e) hf⟩
 self:=λA i s Q E st h=>wpAny_pyIter_zip st.z h
section
variable {X:Cx}
def Z97(K:Fg)(ta:TA):TI:=λσ H R=>ta σ H λvs H1=>∃(a b:Addr) (xs ys:LV),vs=[.ref a,.ref b]/\SqL K H1 a xs/\SqL K H1 b ys/\R (Itp (xs.zip ys) λH=>SqL K H a xs/\SqL K H b ys) H1
def Z3r{elts:List Expr}{x1}{tpos:Pos}{a b:Expr}{ta:TA}{p pos:Pos}(hg:Gl X "zip")(hm:X.mg "zip"=none)(ha:PA X [a,b] ta)(hs:starEach [a,b] X.env=[(false,eval a X.env),(false,eval b X.env)]:=by rfl)(hs2:starEach [b] X.env=[(false,eval b X.env)]:=by rfl):
  PI X (.Tuple elts x1 tpos) (.Call (.Name "zip" p) [a,b] [] pos) (Z97 X.K ta):=by
 intro pins s σ H R I h;refine Call_ (Ze0 I hg hm boot_zip (Yw1 (thn (ha pos pins s σ H _ I h) λus s1 ⟨vs,H1,I1,r1,q1⟩=>?_) (by rw[hs,hs2]) (by rw[hs2];rfl)));obtain⟨l1,l2,xs,ys,e,t1,t2,q⟩:=q1;subst e;cases r1 with
 | cons r rr =>
  cases rr with
  | cons r' rr =>
   cases rr;obtain rfl:_=Value.ref l1:=r;obtain rfl:_=Value.ref l2:=r';obtain⟨its,rv,pa,_⟩:=I1.list t1;obtain⟨jts,rw',pb,_⟩:=I1.list t2;have b1:s1.heap.IsList l1 its.toArray:=pa.isList;have b2:s1.heap.IsList l2 jts.toArray:=pb.isList;have lt1:l1<s1.heap.objs.size:=let⟨_,e,_⟩:=b1;Yk e;have lt2:l2<s1.heap.objs.size:=let⟨_,e,_⟩:=b2;Yk e;refine Zpy b1 b2 λg st hk=>wpAny_pyIter_zip (s:={s1 with heap:=g}) st.z ?_;have D:ZipApart (s1.heap.objs.size + 4) (s1.heap.objs.size + 2) (s1.heap.objs.size + 3) s1.heap.objs.size (s1.heap.objs.size + 1) l1 l2:=W.ktu_apart _ _ _ lt1 lt2;refine⟨_,[s1.heap.objs.size + 4,s1.heap.objs.size + 2,s1.heap.objs.size + 3,s1.heap.objs.size,s1.heap.objs.size + 1],_,_,H1,Y,I1.kept (t':=s1.toks) λb o e=>hk b o e,Zu6 l1 l2 _ _ _ _ _ D,st,λc hc=>?_,q⟩;have hc':c=s1.heap.objs.size + 4\/c=s1.heap.objs.size + 2\/c=s1.heap.objs.size + 3\/c=s1.heap.objs.size\/c=s1.heap.objs.size + 1:=by simpa using hc
   have ge:s1.heap.objs.size<=c:=by
    rcases hc' with rfl | rfl | rfl | rfl | rfl
    ·exact Yl2 _ _
    ·exact Yl2 _ _
    ·exact Yl2 _ _
    ·exact Yg _
    ·exact Yl2 _ _
   exact I1.fpOk ge (I1.hok.fresh ge)
end
abbrev Z5a(h:Heap)(z TI TO:Addr)(f0:Value)(f:Bool):Prop:=h.get? z=some {cls:=.type "zip",dict:=none,data:=.fields #[f0,.bool f,.bool false,.ref TI,.ref TO],slots:=#[] }
section
variable {prog:Program}{w:World}{A:Around}{E:EV}{s:Shared}
def Znw{z TI TO a:Addr}{f:Bool}{oa:Obj}{Q:Bool->Shared->Prop}(hz:Z5a s.heap z TI TO (rawInt a) f)(ha:s.heap.get? a=some oa)
  (hQ:∀ h',Z5a h' z TI TO (rawInt a) true->Heap.SameBut z s.heap h'->Q false {s with heap:=h' }):wpAny (model prog w) A (Builtin.SmallTypes.ownedTupleIsFree (.ref z)) Q E s:=by
 unfold Builtin.SmallTypes.ownedTupleIsFree;refine Ja (Jg hz rfl (x:=rawInt a) rfl ?_);show wpAny _ _ (loadIfAlive ((a:Int).toNat)>>=_) _ _ _;rw[Yf4];refine Ja (W.kdx_alive ha ?_);simp only[Option.isNone_some,Yz5,if_false];refine Ja (Jg hz rfl (x:=.bool f) rfl ?_);cases f with
 | true =>
  rw[if_neg (show ¬ ((Value.bool true != Value.bool true)=true)from Yq)];exact Jd (hQ _ hz (Heap.SameBut.refl _ _))
 | false =>
  rw[if_pos (show(Value.bool false != Value.bool true)=true from rfl)];exact Ja (wpAny_setField_rec hz (by simp) λh₃ he₃ hs₃=>Jd (hQ _ he₃ hs₃))
def Zli{z TI TO i1 i2 l1 l2 a:Addr}{f:Bool}{oa:Obj}{k1 k2:Nat}{xs ys:Array Value}{x y:Value}{Q:EV}(D:ZipApart z TI TO i1 i2 l1 l2)(hz:Z5a s.heap z TI TO (rawInt a) f)(ha:s.heap.get? a=some oa)(hTI:IsPair s.heap TI (.ref i1) (.ref i2))
  (h1:s.heap.IsListIter i1 l1 k1) (h2:s.heap.IsListIter i2 l2 k2) (hl1:s.heap.IsList l1 xs) (hl2:s.heap.IsList l2 ys) (hx:xs[k1]?=some x) (hy:ys[k2]?=some y)
  (hQ:∀ h',Z5a h' z TI TO (rawInt a) true->h'.IsListIter i1 l1 (k1 + 1)->h'.IsListIter i2 l2 (k2 + 1)->IsPair h' s.heap.objs.size x y->h'.objs.size=s.heap.objs.size + 1 ->
   (∀ c o,c≠z->c≠i1->c≠i2->s.heap.get? c=some o->h'.get? c=some o)->Q (.ref s.heap.objs.size) {s with heap:=h' }):
  wpAny (model prog w) A (Builtin.«zip.__next__» ⟨[.ref z],[]⟩) (λfin s'=>∃ v,fin=.done (.ret v)/\Q v s') E s:=by
 show wpAny _ _ (field (.ref z) 2>>=_) _ _ _;refine Ja (Jg hz rfl (x:=.bool false) rfl ?_);show wpAny _ _ (field (.ref z) 3>>=_) _ _ _;refine Ja (Jg hz rfl (x:=.ref TI) rfl ?_);refine Ja (wpAny_seqItems hTI rfl ?_);show wpAny _ _ (Builtin.SmallTypes.ownedTupleIsFree (.ref z)>>=_) _ _ _;refine Ja (Znw hz ha λh₁ hz₁ hs₁=>?_);simp only[Yz5,if_false,List.forIn_toArray,Yr5,List.forIn_nil];refine Ja (Ja (Ja (Jj ?_)));show wpAny _ _ (Builtin.SmallTypes.nextOf (.ref i1)>>=_) _ _ _;refine Ja (wpAny_nextOf_list_item (h1.extBut hs₁.extBut D.i1z) (hl1.extBut hs₁.extBut D.l1z) hx λh₂ h1₂ hs₂=>Jd ?_);refine Jd ?_;refine Ja (Ja (Jj ?_));show wpAny _ _ (Builtin.SmallTypes.nextOf (.ref i2)>>=_) _ _ _;refine Ja (wpAny_nextOf_list_item ((h2.extBut hs₁.extBut D.i2z).extBut hs₂.extBut D.i12.symm) ((hl2.extBut hs₁.extBut D.l2z).extBut hs₂.extBut D.l2i1) hy λh₃ h2₃ hs₃=>Jd ?_);refine Jd (Jd ?_);refine Ja (wpAny_newTuple ?_ (by show 2<=sizeLine;rw[sizeLine_eq];decide));have hsz:h₃.objs.size=s.heap.objs.size:=by rw[hs₃.1,hs₂.1,hs₁.1]
 have hz₃:Z5a h₃ z TI TO (rawInt a) true:=hs₃.extBut _ _ D.i2z.symm (hs₂.extBut _ _ D.i1z.symm hz₁);have hk:∀ c o,c≠z->c≠i1->c≠i2->s.heap.get? c=some o->h₃.get? c=some o:=λc o c1 c3 c4 e=>hs₃.extBut _ _ c4 (hs₂.extBut _ _ c3 (hs₁.extBut _ _ c1 e));have h1₃:h₃.IsListIter i1 l1 (k1 + 1):=h1₂.extBut hs₃.extBut D.i12;refine Jd ⟨Z,?_⟩;show Q (.ref h₃.objs.size) _;have fin:=hQ (h₃.push {cls:=.type "tuple",data:=.seq #[x,y] }) (Yd _ hz₃) (h1₃.at λo e=>Yd _ e) (h2₃.at λo e=>Yd _ e) (by rw[<- hsz];exact Yp _ rfl) (by rw[Yp3,hsz]) λc o c1 c2 c3 e=>Yd _ (hk c o c1 c2 c3 e);rw[hsz];exact fin
def Zmg{z TI TO i1 i2 l1 l2 a:Addr}{f:Bool}{oa:Obj}{k1 k2:Nat}{xs ys:Array Value}{Q:PySem.Fin->Shared->Prop}(hh:A.handled=none)(D:ZipApart z TI TO i1 i2 l1 l2)(hz:Z5a s.heap z TI TO (rawInt a) f)(ha:s.heap.get? a=some oa)(hTI:IsPair s.heap TI (.ref i1) (.ref i2))
  (h1:s.heap.IsListIter i1 l1 k1) (h2:s.heap.IsListIter i2 l2 k2) (hl1:s.heap.IsList l1 xs) (hl2:s.heap.IsList l2 ys) (hend:xs[k1]?=none\/ys[k2]?=none)
  (hE:∀ h' e,(∀ c o,c≠z->c≠i1->c≠i2->s.heap.get? c=some o->h'.get? c=some o)->(∃ o,h'.get? e=some o/\o.cls=.type "StopIteration")->E (.ref e) {s with heap:=h' }):
  wpAny (model prog w) A (Builtin.«zip.__next__» ⟨[.ref z],[]⟩) Q E s:=by
 show wpAny _ _ (field (.ref z) 2>>=_) _ _ _;refine Ja (Jg hz rfl (x:=.bool false) rfl ?_);show wpAny _ _ (field (.ref z) 3>>=_) _ _ _;refine Ja (Jg hz rfl (x:=.ref TI) rfl ?_);refine Ja (wpAny_seqItems hTI rfl ?_);show wpAny _ _ (Builtin.SmallTypes.ownedTupleIsFree (.ref z)>>=_) _ _ _;refine Ja (Znw hz ha λh₁ hz₁ hs₁=>?_);simp only[Yz5,if_false,List.forIn_toArray,Yr5,List.forIn_nil];refine Ja (Ja (Ja (Jj ?_)));show wpAny _ _ (Builtin.SmallTypes.nextOf (.ref i1)>>=_) _ _ _;cases hx:xs[k1]? with
 | none =>
  refine Ja (wpAny_nextOf_list_end hh (h1.extBut hs₁.extBut D.i1z) (hl1.extBut hs₁.extBut D.l1z) hx λh₂ e hs₂ he=>?_);exact hE h₂ e (λc o c1 c3 _ x=>hs₂ _ _ c3 (hs₁.extBut _ _ c1 x)) he
 | some x =>
  have hy:ys[k2]?=none:=by rcases hend with h | h;rw[hx]at h;cases h;exact h
  refine Ja (wpAny_nextOf_list_item (h1.extBut hs₁.extBut D.i1z) (hl1.extBut hs₁.extBut D.l1z) hx λh₂ h1₂ hs₂=>Jd ?_);refine Jd ?_;refine Ja (Ja (Jj ?_));show wpAny _ _ (Builtin.SmallTypes.nextOf (.ref i2)>>=_) _ _ _;refine Ja (wpAny_nextOf_list_end hh ((h2.extBut hs₁.extBut D.i2z).extBut hs₂.extBut D.i12.symm) ((hl2.extBut hs₁.extBut D.l2z).extBut hs₂.extBut D.l2i1) hy λh₃ e hs₃ he=>?_);exact hE h₃ e (λc o c1 c3 c4 x=>hs₃ _ _ c4 (hs₂.extBut _ _ c3 (hs₁.extBut _ _ c1 x))) he
structure ZSt(h:Heap)(z TI TO i1 i2 l1 l2 S:Addr)(i:Nat)(xs ys:Array Value):Prop where
 st:(IsZip h z TI TO .none)\/∃(a:Addr) (f:Bool) (oa:Obj),Z5a h z TI TO (rawInt a) f/\h.get? a=some oa/\a≠z/\a≠i1/\a≠i2/\a≠S
 ti:IsPair h TI (.ref i1) (.ref i2)
 to:∃ a b,IsPair h TO a b
 h1:h.IsListIter i1 l1 i
 h2:h.IsListIter i2 l2 i
 hl1:h.IsList l1 xs
 hl2:h.IsList l2 ys
def ZSt.keep{h h':Heap}{z TI TO i1 i2 l1 l2 S:Addr}{i:Nat}{xs ys:Array Value}(x:ZSt h z TI TO i1 i2 l1 l2 S i xs ys)(hk:∀ b o,b≠S->h.get? b=some o->h'.get? b=some o)(nz:z≠S)(nti:TI≠S)(nto:TO≠S)(n1:i1≠S)(n2:i2≠S)(m1:l1≠S)(m2:l2≠S):ZSt h' z TI TO i1 i2 l1 l2 S i xs ys:=by
 obtain⟨st,ti,⟨a,b,to⟩,h1,h2,hl1,hl2⟩:=x;refine⟨?_,hk _ _ nti ti,⟨a,b,hk _ _ nto to⟩,h1.at λo e=>hk _ o n1 e,h2.at λo e=>hk _ o n2 e,hl1.at λo e=>hk _ o m1 e,hl2.at λo e=>hk _ o m2 e⟩
 rcases st with st | ⟨a,f,oa,st,ha,n⟩
 ·exact .inl (hk _ _ nz st)
 ·exact .inr ⟨a,f,oa,hk _ _ nz st,hk _ _ n.2.2.2 ha,n⟩
def Zzb{z TI TO i1 i2 l1 l2 S:Addr}{i:Nat}{xs ys:Array Value}{x y:Value}{Q:OU->Shared->Prop}(D:ZipApart z TI TO i1 i2 l1 l2)(hst:ZSt s.heap z TI TO i1 i2 l1 l2 S i xs ys)(hS:S<s.heap.objs.size)(hx:xs[i]?=some x)(hy:ys[i]?=some y)
  (hQ:∀ h',ZSt h' z TI TO i1 i2 l1 l2 S (i + 1) xs ys->IsPair h' s.heap.objs.size x y->h'.objs.size=s.heap.objs.size + 1->(∀ b o,b≠z->b≠TO->b≠i1->b≠i2->s.heap.get? b=some o->h'.get? b=some o)->Q (some (.ref s.heap.objs.size)) {s with heap:=h' }):
  wpAny (model prog w) A (pyNext (.ref z)) Q E s:=by
 obtain⟨st,ti,⟨a,b,to⟩,h1,h2,hl1,hl2⟩:=hst;have i1l:i1<s.heap.objs.size:=by obtain⟨_,e,_⟩:=h1;exact Yk e
 have i2l:i2<s.heap.objs.size:=by obtain⟨_,e,_⟩:=h2;exact Yk e
 rcases st with hz | ⟨c,f,oc,hz,hc,nz,n1,n2,nS⟩
 ·have zl:z<s.heap.objs.size:=Yk hz;refine wpAny_pyNext_zip_item D hz ti to h1 h2 hl1 hl2 hx hy λh' a1 a2 a3 a4 a5 a6 hk=>hQ h' ⟨.inr ⟨_,false,_,a1,a5,Ys1 zl,Ys1 i1l,Ys1 i2l,Ys1 hS⟩,hk _ _ D.TIz D.TITO D.TIi1 D.TIi2 ti,⟨_,_,a2⟩,a3,a4,hl1.at λo e=>hk _ o D.l1z D.l1TO D.l1i1 D.l1i2 e,hl2.at λo e=>hk _ o D.l2z D.l2TO D.l2i1 D.l2i2 e⟩ a5 a6 hk
 ·have hT:s.TypeIs (.ref z) "zip":=⟨_,hz,Y⟩;unfold pyNext;exact Ja (wpAny_attempt (wpAny_callSpecial?_slot (name:=Str.ofString "__next__") hT Ye3
   (wpAny_call_entry Ye3 hT Yy4
    (Zli D hz hc ti h1 h2 hl1 hl2 hx hy λh' a1 a3 a4 a5 a6 hk=>Jd (hQ h' ⟨.inr ⟨c,true,_,a1,hk _ _ nz n1 n2 hc,nz,n1,n2,nS⟩,hk _ _ D.TIz D.TIi1 D.TIi2 ti,⟨_,_,hk _ _ D.TOz D.TOi1 D.TOi2 to⟩,a3,a4,hl1.at λo e=>hk _ o D.l1z D.l1i1 D.l1i2 e,hl2.at λo e=>hk _ o D.l2z D.l2i1 D.l2i2 e⟩ a5 a6 λb o b1 _ b3 b4 e=>hk b o b1 b3 b4 e)) (Yv4 _))))
def Zzc{z TI TO i1 i2 l1 l2 S:Addr}{i:Nat}{xs ys:Array Value}{Q:OU->Shared->Prop}(hh:A.handled=none)(D:ZipApart z TI TO i1 i2 l1 l2)(hst:ZSt s.heap z TI TO i1 i2 l1 l2 S i xs ys)(hend:xs[i]?=none\/ys[i]?=none)
  (hQ:∀ h',(∀ b o,b≠z->b≠TO->b≠i1->b≠i2->s.heap.get? b=some o->h'.get? b=some o)->Q none {s with heap:=h' }):wpAny (model prog w) A (pyNext (.ref z)) Q E s:=by
 obtain⟨st,ti,⟨a,b,to⟩,h1,h2,hl1,hl2⟩:=hst
 rcases st with hz | ⟨c,f,oc,hz,hc,nz,n1,n2,nS⟩
 ·exact wpAny_pyNext_zip_end hh D hz ti to h1 h2 hl1 hl2 hend hQ
 ·have hT:s.TypeIs (.ref z) "zip":=⟨_,hz,Y⟩;unfold pyNext;refine Ja (wpAny_attempt (wpAny_callSpecial?_slot (name:=Str.ofString "__next__") hT Ye3
   (wpAny_call_entry Ye3 hT Yy4 (Zmg hh D hz hc ti h1 h2 hl1 hl2 hend λh' e hk he=>?_) (Yv4 _))))
  obtain⟨o,ho,hc⟩:=he;refine Ja (wpAny_isInstance (T:="StopIteration") (b:=true) ⟨o,ho,hc⟩ isSubtype_stop ?_);exact Jd (hQ _ λb o b1 _ b3 b4 e=>hk b o b1 b3 b4 e)
structure Z49(xs ys:Array Value)(lo:Addr)(h:Heap)(as:List Addr):Prop where
 rise:as.Pairwise (·<·)
 above:∀ a∈as,lo<a
 pairs:∀(j:Nat) (a:Addr),as[j]?=some a->∃ x y,xs[j]?=some x/\ys[j]?=some y/\IsPair h a x y
def Z49.there{xs ys:Array Value}{lo:Addr}{h:Heap}{as:List Addr}(g:Z49 xs ys lo h as){a:Addr}(ha:a∈as):a<h.objs.size:=by
 obtain⟨j,hj⟩:=Yy3.mp ha;obtain⟨_,_,_,_,e⟩:=g.pairs j a hj;exact Yk e
structure Z8h(z TI TO i1 i2 l1 l2 S:Addr):Prop where
 z:z<S
 ti:TI<S
 to:TO<S
 i1:i1<S
 i2:i2<S
 l1:l1<S
 l2:l2<S
def Zzd{R:Result->Shared->Prop}{z TI TO i1 i2 l1 l2 S:Addr}{xs ys:Array Value}(hh:A.handled=none)(D:ZipApart z TI TO i1 i2 l1 l2)(L:Z8h z TI TO i1 i2 l1 l2 S)(hn:min xs.size ys.size<=sizeLine)(res:Value){h₁:Heap}
  (hR:∀ h' tk acc c as,(∀ b o,b≠S->b≠z->b≠TO->b≠i1->b≠i2->h₁.get? b=some o->h'.get? b=some o)->h'.get? S=some {cls:=.type "list",dict:=none,data:=.seq acc c,slots:=#[] }->as.length=min xs.size ys.size->Z49 xs ys S h' as ->
   acc.toList=as.map Value.ref->R (.ok (.ret res)) {s with heap:=h',toks:=tk}):
  ∀(k i:Nat) (h:Heap) (tk c:Nat) (acc:Array Value) (as:List Addr),min xs.size ys.size - i=k->i<=min xs.size ys.size->ZSt h z TI TO i1 i2 l1 l2 S i xs ys->(∀ b o,b≠S->b≠z->b≠TO->b≠i1->b≠i2->h₁.get? b=some o->h.get? b=some o) ->
   h.get? S=some {cls:=.type "list",dict:=none,data:=.seq acc c,slots:=#[] }->acc.toList=as.map Value.ref->as.length=i->Z49 xs ys S h as ->
   codeAny (model prog w) A (.builtin "list.extend.loop" ⟨[.ref S,.ref z,res],[]⟩) R {s with heap:=h,toks:=tk}:=by
 have nSz:S≠z:=Ys1 L.z;have nSo:S≠TO:=Ys1 L.to;have nS1:S≠i1:=Ys1 L.i1;have nS2:S≠i2:=Ys1 L.i2;intro k
 induction k with
 | zero =>
  intro i h tk c acc as hk hi hst hkeep hS hacc hal hG;have hin:i=min xs.size ys.size:=by omega
  refine codeAny_builtin PySem.F.entry_extend_loop ?_;rw[Ys4 Yt4 _];show wpAny _ A.in1 (pyNext (.ref z)>>=_) _ _ _;have hend:xs[i]?=none\/ys[i]?=none:=by
   rcases Nat.le_total xs.size ys.size with h | h
   ·exact .inl (Array.getElem?_eq_none (by omega))
   ·exact .inr (Array.getElem?_eq_none (by omega))
  refine Ja (Zzc (s:={s with heap:=h,toks:=tk}) (A:=A.in1) hh D hst hend λh' he=>?_);refine Jd (hR h' tk acc c as (λb o h0 h1 h2 h3 h4 e=>he b o h1 h2 h3 h4 (hkeep b o h0 h1 h2 h3 h4 e)) (he S _ nSz nSo nS1 nS2 hS) (by omega) ⟨hG.rise,hG.above,λj a hj=>?_⟩ hacc);obtain⟨x,y,e1,e2,e3⟩:=hG.pairs j a hj;have ha:=hG.above a (Yf hj);exact⟨x,y,e1,e2,he a _ (Ys1 (Yl3 L.z ha)) (Ys1 (Yl3 L.to ha)) (Ys1 (Yl3 L.i1 ha)) (Ys1 (Yl3 L.i2 ha)) e3⟩
 | succ k ih =>
  intro i h tk c acc as hk hi hst hkeep hS hacc hal hG;have hlt:i<min xs.size ys.size:=by omega
  obtain⟨x,hx⟩:∃ x,xs[i]?=some x:=⟨xs[i],Array.getElem?_eq_getElem (by omega)⟩;obtain⟨y,hy⟩:∃ y,ys[i]?=some y:=⟨ys[i],Array.getElem?_eq_getElem (by omega)⟩;have hsz:acc.size=i:=by rw[<- Yg3,hacc,Ya,hal]
  refine codeAny_builtin PySem.F.entry_extend_loop ?_;rw[Ys4 Yt4 _];show wpAny _ A.in1 (pyNext (.ref z)>>=_) _ _ _;refine Ja (Zzb (s:={s with heap:=h,toks:=tk}) D hst (Yk hS) hx hy λh' hst' ht hz hkp=>?_);dsimp only at ht hz hkp ⊢;have hS':=hkp S _ nSz nSo nS1 nS2 hS;have up:∀ b o,b≠S->h'.get? b=some o->(h'.update S (Obj.mapSeq (·.push (Value.ref h.objs.size)))).get? b=some o:=λb o hb e=>(Yk4 _ _ (Yu hb)).trans e;have hSl:S<h.objs.size:=Yk hS;show wpAny _ A.in1 (updateSeq S (·.push (Value.ref h.objs.size))>>=_) _ _ _;refine Ja ?_;refine wpAny_updateSeq hS' rfl (Jd ⟨plainId_quiet Yt4 _,ih (i + 1) _ tk _ (acc.push (Value.ref h.objs.size)) (as++[h.objs.size]) (by omega) hlt (hst'.keep up (Yu nSz) (Yx L.ti) (Yu nSo) (Yu nS1) (Yu nS2) (Yx L.l1) (Yx L.l2))
   (λb o h0 h1 h2 h3 h4 e=>up b o h0 (hkp b o h1 h2 h3 h4 (hkeep b o h0 h1 h2 h3 h4 e))) (Ym4 _ hS' rfl) (by rw[Array.toList_push,hacc,Yr];rfl) (by rw[Yc,hal];rfl) ⟨?_,?_,?_⟩⟩) (by rw[hsz];omega) (by show(acc.push (Value.ref h.objs.size)).size<=sizeLine + 1;rw[Array.size_push,hsz];omega)
  ·refine List.pairwise_append.mpr ⟨hG.rise,List.pairwise_singleton _ _,λa ha b hb=>?_⟩;rw[Ye.mp hb];exact hG.there ha
  ·intro a ha
   rcases Yl.mp ha with ha | ha
   ·exact hG.above a ha
   ·rw[Ye.mp ha];exact hSl
  ·intro j b hj
   rcases Nat.lt_trichotomy j as.length with h1 | h1 | h1
   ·rw[Yi3 h1]at hj;obtain⟨x',y',e1,e2,e3⟩:=hG.pairs j b hj;have hb:=hG.above b (Yf hj);exact⟨x',y',e1,e2,up b _ (Ys1 hb) (hkp b _ (Ys1 (Yl3 L.z hb)) (Ys1 (Yl3 L.to hb)) (Ys1 (Yl3 L.i1 hb)) (Ys1 (Yl3 L.i2 hb)) e3)⟩
   ·subst h1;have hb:h.objs.size=b:=by simpa using hj
    subst hb;exact⟨x,y,by rw[hal];exact hx,by rw[hal];exact hy,up _ _ (Ys1 hSl) ht⟩
   ·have hnone:(as++[h.objs.size])[j]?=none:=List.getElem?_eq_none (by rw[Yc,Yr1];omega);rw[hnone]at hj;cases hj
def Ztf:typeLookup (.type "zip") "__len__"=pure none:=by rw[typeLookup_type,builtinLookup_eq_fast];kernel_rfl
def Zqh:typeLookup (.type "zip") "__length_hint__"=pure none:=by rw[typeLookup_type,builtinLookup_eq_fast];kernel_rfl
def Zqi{z TI TO i1 i2 l1 l2:Addr}{xs ys:Array Value}{Q:LU->Shared->Prop}(hh:A.handled=none)(D:ZipApart z TI TO i1 i2 l1 l2)(L:Z8h z TI TO i1 i2 l1 l2 s.heap.objs.size)(hz:IsZip s.heap z TI TO .none)(hti:IsPair s.heap TI (.ref i1) (.ref i2))(hto:∃ a b,IsPair s.heap TO a b)
  (h1:s.heap.IsListIter i1 l1 0) (h2:s.heap.IsListIter i2 l2 0) (hl1:s.heap.IsList l1 xs) (hl2:s.heap.IsList l2 ys) (hn:min xs.size ys.size<=sizeLine)
  (hQ:∀ h' tk as,(∀ b o,b≠z->b≠TO->b≠i1->b≠i2->s.heap.get? b=some o->h'.get? b=some o)->as.length=min xs.size ys.size->Z49 xs ys s.heap.objs.size h' as->Q (as.map Value.ref) {s with heap:=h',toks:=tk}):wpAny (model prog w) A (collect (.ref z)) Q E s:=by
 have nSz:s.heap.objs.size≠z:=Ys1 L.z;unfold collect;refine Ja (wpAny_runValue (codeAny_builtin PySem.F.entry_proto_collect ?_));rw[Ys4 PySem.F.plain_proto_collect _];show wpAny _ A.in1 (newList []>>=λl=>again (.builtin "list.__iadd__" ⟨[l,.ref z],[]⟩)) _ _ s;refine Ja (wpAny_newObj_type ?_);refine Jd ⟨plainId_quiet PySem.F.plain_list_iadd _,codeAny_builtin PySem.F.entry_list_iadd ?_⟩;rw[Ys4 PySem.F.plain_list_iadd _];have push:∀ b o,s.heap.get? b=some o->(s.heap.push {cls:=.type "list",data:=.seq ([]:LU).toArray}).get? b=some o:=λb o e=>Yd _ e;have hz₁:=push _ _ hz;have hT:Shared.TypeIs {s with heap:=s.heap.push {cls:=.type "list",data:=.seq ([]:LU).toArray} } (.ref z) "zip":=⟨_,hz₁,Y⟩;show wpAny _ A.in1 (Builtin.List.listExtendWith (.ref s.heap.objs.size) (.ref z) (.ref s.heap.objs.size)) _ _ _;unfold Builtin.List.listExtendWith;refine Ja (wpAny_typeOf hT ?_);have e1:Builtin.List.listSameRef (.ref s.heap.objs.size) (.ref z)=false:=by simp[Builtin.List.listSameRef,nSz]
 have e2:(Value.type "zip" == Value.type "list")=false:=by decide
 have e3:(Value.type "zip" == Value.type "tuple")=false:=by decide
 simp only[e1,e2,e3,Bool.or_false,Yz5,if_false];refine Ja (wpAny_pyIter_zip (s:={s with heap:=s.heap.push {cls:=.type "list",data:=.seq ([]:LU).toArray} }) hz₁ ?_);refine Ja (Jj ?_);unfold Builtin.List.listLengthHint;refine Ja (wpAny_specialOf hT Ztf ?_);show wpAny _ A.in1 (specialOf (Value.ref z) (Str.ofString "__length_hint__")>>=_) _ _ _;refine Ja (wpAny_specialOf hT Zqh ?_);refine Jd ?_;show wpAny _ A.in1 (rule "list.extend.makes-room">>=λ_=>Builtin.List.listTouch (.ref s.heap.objs.size)>>=λ_ =>
  again (.builtin "list.extend.loop" ⟨[.ref s.heap.objs.size,.ref z,.ref s.heap.objs.size],[]⟩)) _ _ _
 refine Ja (wpAny_rule ?_);have hS₁:(s.heap.push {cls:=.type "list",data:=.seq ([]:LU).toArray}).get? s.heap.objs.size=some {cls:=.type "list",data:=.seq ([]:LU).toArray}:=Yp _ rfl;refine Ja ?_;show wpAny _ A.in1 (updateSeq s.heap.objs.size (·.push .none)>>=λ_=>updateSeq s.heap.objs.size (·.pop)) _ _ _;refine Ja (wpAny_updateSeq hS₁ rfl ?_);have hS₂:=Ym4 (Obj.mapSeq (·.push Value.none)) hS₁ rfl;refine wpAny_updateSeq hS₂ rfl ?_;have hS₃:=Ym4 (Obj.mapSeq (·.pop)) hS₂ rfl;have oth:∀ b o,b≠s.heap.objs.size->(s.heap.push {cls:=.type "list",data:=.seq ([]:LU).toArray}).get? b=some o ->
   (((s.heap.push {cls:=.type "list",data:=.seq ([]:LU).toArray}).update s.heap.objs.size (Obj.mapSeq (·.push Value.none))).update s.heap.objs.size (Obj.mapSeq (·.pop))).get? b=some o :=
  λb o hb e=>(Yk4 _ _ (Yu hb)).trans ((Yk4 _ _ (Yu hb)).trans e)
 have all:∀ b o,s.heap.get? b=some o->(((s.heap.push {cls:=.type "list",data:=.seq ([]:LU).toArray}).update s.heap.objs.size (Obj.mapSeq (·.push Value.none))).update s.heap.objs.size (Obj.mapSeq (·.pop))).get? b=some o:=λb o e=>oth b o (Yx (Yk e)) (push b o e);obtain⟨a,b,hto⟩:=hto;refine Jd ⟨plainId_quiet Yt4 _,Zzd (s:=s) (h₁:=s.heap) hh D L hn _ (λh' tk acc c as hk hS' hal hG hacc=>?_) _ 0 _ s.toks _ #[] [] rfl (Yj1 _)
  ⟨.inl (all _ _ hz),all _ _ hti,⟨a,b,all _ _ hto⟩,h1.at λo e=>all _ o e,h2.at λo e=>all _ o e,hl1.at λo e=>all _ o e,hl2.at λo e=>all _ o e⟩ (λb o _ _ _ _ _ e=>all b o e) hS₃ rfl rfl ⟨List.Pairwise.nil,(λ_ ha=>nomatch ha),(λj a hj=>by simp at hj)⟩⟩
 show wpAny _ A (load s.heap.objs.size>>=_) _ _ _;refine Ja (wpAny_load hS' ?_);refine Jd ?_;show Q acc.toList _;rw[hacc];exact hQ h' tk as (λb o n1 n2 n3 n4 e=>hk b o (Yx (Yk e)) n1 n2 n3 n4 e) hal hG
end
end L2
namespace L2
open PySem PySem.Spec
section
variable {prog:Program}{w:World}{A:Around}{E:EV}{s:Shared}
def Zm6{z TI TO i1 i2 l1 l2:Addr}{xs ys:Array Value}{Q₁:EV}(hh:A.handled=none)(D:ZipApart z TI TO i1 i2 l1 l2)(L:Z8h z TI TO i1 i2 l1 l2 s.heap.objs.size)(hz:IsZip s.heap z TI TO .none)(hti:IsPair s.heap TI (.ref i1) (.ref i2))(hto:∃ a b,IsPair s.heap TO a b)
  (h1:s.heap.IsListIter i1 l1 0) (h2:s.heap.IsListIter i2 l2 0) (hl1:s.heap.IsList l1 xs) (hl2:s.heap.IsList l2 ys) (hn:min xs.size ys.size<=sizeLine)
  (hQ:∀ h' tk as,(∀ b o,b≠z->b≠TO->b≠i1->b≠i2->s.heap.get? b=some o->h'.get? b=some o)->as.length=min xs.size ys.size->Z49 xs ys s.heap.objs.size h' as->Q₁ (.ref h'.objs.size) {s with heap:=h'.push {cls:=.type "tuple",data:=.seq (as.map Value.ref).toArray},toks:=tk}):
  codeAny (model prog w) A (.call (.builtin "tuple.__new__") ⟨[.type "tuple",.ref z],[]⟩) (wants Q₁ E) s:=by
 refine codeAny_of_tree ?_;show wpAny _ A.in1 (do checkBuiltinCall "tuple.__new__" ⟨[.type "tuple",.ref z],[]⟩;again (.builtin "tuple.__new__" ⟨[.type "tuple",.ref z],[]⟩)) _ _ s;refine Ja (wpAny_of_eq (F.newCall_tuple_1 _) (Jd ⟨plainId_quiet F.plain_tuple_new _,codeAny_builtin F.entry_tuple_new ?_⟩));rw[Ys4 F.plain_tuple_new _];have hsub:=sub_tuple_self;have hinit:=init_tuple_lookup;have hmh:=madeHere_tuple;have hTI:s.TypeIs (.ref z) "zip":=⟨_,hz,Y⟩
 wp_walk using wpAny_typeOf hTI,Zqi (by simp[hh]) D L hz hti hto h1 h2 hl1 hl2 hn
 intro h' tk as hk hal hG;show wpAny _ _ (Builtin.Tuple.tupleExact (as.map Value.ref).toArray>>=λv=>ret v) _ _ _;unfold Builtin.Tuple.tupleExact;refine Ja (wpAny_newObj_type ?_ (by show(as.map Value.ref).toArray.size<=sizeLine;rw[Yn,Ya,hal];exact hn));exact Jd (hQ h' tk as hk hal hG)
def Zlk{z TI TO i1 i2 l1 l2:Addr}{xs ys:Array Value}{Q:EV}(hh:A.handled=none)(D:ZipApart z TI TO i1 i2 l1 l2)(L:Z8h z TI TO i1 i2 l1 l2 s.heap.objs.size)(hz:IsZip s.heap z TI TO .none)(hti:IsPair s.heap TI (.ref i1) (.ref i2))(hto:∃ a b,IsPair s.heap TO a b)
  (h1:s.heap.IsListIter i1 l1 0) (h2:s.heap.IsListIter i2 l2 0) (hl1:s.heap.IsList l1 xs) (hl2:s.heap.IsList l2 ys) (hn:min xs.size ys.size<=sizeLine)
  (hQ:∀ h' tk as,(∀ b o,b≠z->b≠TO->b≠i1->b≠i2->s.heap.get? b=some o->h'.get? b=some o)->as.length=min xs.size ys.size->Z49 xs ys s.heap.objs.size h' as->Q (.ref h'.objs.size) {s with heap:=h'.push {cls:=.type "tuple",data:=.seq (as.map Value.ref).toArray},toks:=tk}):
  wpAny (model prog w) A (call (.type "tuple") [.ref z]) Q E s:=by
 refine callType_codes (Q₁:=λobj s₁=>s₁.TypeIs obj "tuple"/\Q obj s₁) F.called_tuple (F.typeCall_tuple_1 _) F.entry_object_init
  (Zm6 (by simp[hh]) D L hz hti hto h1 h2 hl1 hl2 hn λh' tk as hk hal hG=>⟨⟨_,Yp _ rfl,Y⟩,hQ h' tk as hk hal hG⟩) λobj s₁ h₁=>?_
 exact⟨h₁.1,F.args_object_init_2 obj _,object_init_meets F.called_tuple.init.lookup F.called_tuple.made (by decide) prog w A.in1 _ s₁ ⟨h₁.1,Y,h₁.2⟩⟩
end
end L2
namespace L2
open PySem PySem.Spec PyProof.Rows
section
variable {X:Cx}
def Z26(K:Fg)(ta:TA):TE:=λσ H Q=>ta σ H λvs H1=>∃(l1 l2:Addr) (xs ys:LV),vs=[.ref l1,.ref l2]/\SqL K H1 l1 xs/\SqL K H1 l2 ys /\
 ∀ t us H',H1 t=none->Zaj H1 H'->H' t=some (.tup us)->Paired (λ(p:V×V) v=>∃ q:Addr,v=.ref q/\H' q=some (.tup [p.1,p.2])) (xs.zip ys) us->Q (.ref t) H'
def Zqt{a b:Expr}{ta:TA}{p1 p2 pos1 pos2:Pos}(hc:X.calm=true)(hg1:Gl X "tuple")(hm1:X.mg "tuple"=none)(hg:Gl X "zip")(hm:X.mg "zip"=none)(ha:PA X [a,b] ta)
  (hs:starEach [a,b] X.env=[(false,eval a X.env),(false,eval b X.env)]:=by rfl) (hs2:starEach [b] X.env=[(false,eval b X.env)]:=by rfl)
  (hs3:starEach [.Call (.Name "zip" p2) [a,b] [] pos2] X.env=[(false,eval (.Call (.Name "zip" p2) [a,b] [] pos2) X.env)]:=by rfl):
  PE X (.Call (.Name "tuple" p1) [.Call (.Name "zip" p2) [a,b] [] pos2] [] pos1) (Z26 X.K ta):=by
 ac_rfl;refine wpAny_Call_Name_kw (Ze0 I hg1 hm1 Yu1 ?_ (by decide) (by decide));refine Yw1 ?_ hs3 rfl;refine Yv5 ?_;refine Call_ (Ze0 I hg hm boot_zip (Yw1 (thn (ha pos2 pins s σ H _ I h) λus s1 ⟨vs,H1,I1,r1,q1⟩=>?_) (by rw[hs,hs2]) (by rw[hs2];rfl)));obtain⟨l1,l2,xs,ys,e,t1,t2,q⟩:=q1;subst e;cases r1 with
 | cons r rr =>
  cases rr with
  | cons r' rr =>
   cases rr;obtain rfl:_=Value.ref l1:=r;obtain rfl:_=Value.ref l2:=r';obtain⟨its,rv,pa,hz1⟩:=I1.list t1;obtain⟨jts,rw',pb,hz2⟩:=I1.list t2;have b1:s1.heap.IsList l1 its.toArray:=pa.isList;have b2:s1.heap.IsList l2 jts.toArray:=pb.isList;have lt1:l1<s1.heap.objs.size:=let⟨_,e,_⟩:=b1;Yk e;have lt2:l2<s1.heap.objs.size:=let⟨_,e,_⟩:=b2;Yk e;refine Zpy b1 b2 λg st hk=>?_;have D:ZipApart (s1.heap.objs.size + 4) (s1.heap.objs.size + 2) (s1.heap.objs.size + 3) s1.heap.objs.size (s1.heap.objs.size + 1) l1 l2:=W.ktu_apart _ _ _ lt1 lt2;refine Calls.spliced_nil ?_;have zl:s1.heap.objs.size + 4<g.objs.size:=Yk st.z;have gl:s1.heap.objs.size<=g.objs.size:=by omega
   have n1:xs.length=its.length:=rv.length;have n2:ys.length=jts.length:=rw'.length;have hn:min its.toArray.size jts.toArray.size<=sizeLine:=by rw[Yn,Yn];omega
   refine Zlk (s:={s1 with heap:=g}) (I1.ok.hd hc) D ⟨zl,by show _<g.objs.size;omega,by show _<g.objs.size;omega,by show _<g.objs.size;omega,by show _<g.objs.size;omega,Yi1 lt1 gl,Yi1 lt2 gl⟩ st.z st.ti st.to st.i1 st.i2 (b1.at λo e=>hk _ o e) (b2.at λo e=>hk _ o e) hn λh' tk as hk' hal hG=>?_;have keep:∀ b o,s1.heap.get? b=some o->(h'.push {cls:=.type "tuple",data:=.seq (as.map Value.ref).toArray}).get? b=some o:=λb o e=>by
    have lt:b<s1.heap.objs.size:=Yk e;exact Yd _ (hk' b o (Yx (Yi1 lt (Yl2 _ _))) (Yx (Yi1 lt (Yl2 _ _))) (Yx lt) (Yx (Yi1 lt (Yl2 _ _))) (hk b o e))
   have ndas:as.Nodup:=Yo2.mpr (hG.rise.imp λh=>Yx h);have hl:as.length=(xs.zip ys).length:=by rw[hal,Yn,Yn,Yw4,n1,n2]
   have hG':∀ a∈as,s1.heap.objs.size<a:=λa ha=>Yy5 gl (hG.above a ha);have aT:∀ a∈as,a<h'.objs.size:=λa ha=>hG.there ha;have sT:s1.heap.objs.size<=h'.objs.size:=by
    have:s1.heap.objs.size + 2<h'.objs.size:=Yk (hk' _ _ D.TIz D.TITO D.TIi1 D.TIi2 st.ti);omega
   have hH':∀ b,b<s1.heap.objs.size->(λb=>if b=h'.objs.size then some (HO.tup (as.map V.ref))else match (as.zip (xs.zip ys)).lookup b with | some kv=>some (HO.tup [kv.1,kv.2]) | none=>H1 b:Hp) b=H1 b:=λb hb=>by
    show(if b=h'.objs.size then _ else _)=_;rw[if_neg (Yx (Yi1 hb sT))];cases e:(as.zip (xs.zip ys)).lookup b with
    | none=>rfl
    | some kv =>
     obtain⟨i,h1,_⟩:=Zc7 e;have:=hG' b (Yf h1);exact absurd (Yl3 hb this) (Yu3 _)
   have at_:∀(i:Nat) (b:Addr),as[i]?=some b->∃ kv:V×V,(xs.zip ys)[i]?=some kv/\(λb=>if b=h'.objs.size then some (HO.tup (as.map V.ref))else match (as.zip (xs.zip ys)).lookup b with | some kv=>some (HO.tup [kv.1,kv.2]) | none=>H1 b:Hp) b=some (.tup [kv.1,kv.2]):=λi b hi=>by
    have hlt:i<(xs.zip ys).length:=by
     have:=(Yi.mp hi).1;omega
    refine⟨(xs.zip ys)[i],Yb hlt,?_⟩;show(if b=h'.objs.size then _ else _)=_;rw[if_neg (Yx (aT b (Yf hi))),Zjb ndas hi (Yb hlt)]
   have I3:Inv X pins σ (λb=>if b=h'.objs.size then some (HO.tup (as.map V.ref))else match (as.zip (xs.zip ys)).lookup b with | some kv=>some (HO.tup [kv.1,kv.2]) | none=>H1 b:Hp) {s1 with heap:=h'.push {cls:=.type "tuple",data:=.seq (as.map Value.ref).toArray},toks:=tk}:=by
    refine I1.laidMany (t':=tk) keep hH' λb o hb e=>?_;have e:(if b=h'.objs.size then some (HO.tup (as.map V.ref))else match (as.zip (xs.zip ys)).lookup b with | some kv=>some (HO.tup [kv.1,kv.2]) | none=>H1 b)=some o:=e;by_cases hbT:b=h'.objs.size
    ·rw[if_pos hbT]at e;cases e;refine⟨by rw[Ya,hal];exact hn,as.map Value.ref,?_,?_⟩
     ·exact Zj5 (by simp) λi v u hv hu=>by
       rw[Yj]at hv hu;obtain⟨y,hy,ey⟩:=Yf1.mp hv;rw[hy]at hu;rw[<- ey];exact(Ym hu).symm
     ·rw[hbT];exact IsTup.new _ _
    ·rw[if_neg hbT]at e;cases el:(as.zip (xs.zip ys)).lookup b with
     | none =>
      rw[el]at e;have:=I1.hok.lt e;exact absurd (Yi1 this hb) (Yu3 _)
     | some kv =>
      rw[el]at e;cases e;obtain⟨i,hi1,hi2⟩:=Zc7 el;obtain⟨x,y,hx,hy,hget⟩:=hG.pairs i b hi1;obtain⟨hx2,hy2⟩:=Zh4 hi2;obtain⟨u,hu,ru⟩:=rv.get hx2;obtain⟨v,hv,rv'⟩:=rw'.get hy2;have ex:u=x:=by
       have hx':its[i]?=some x:=by simpa using hx
       rw[hu]at hx';exact Ym hx'
      have ey:v=y:=by
       have hy':jts[i]?=some y:=by simpa using hy
       rw[hv]at hy';exact Ym hy'
      subst ex ey;exact⟨U,[u,v],.cons ru (.cons rv' .nil),⟨_,Yd _ hget,Y,Z⟩⟩
   refine⟨.ref h'.objs.size,_,I3,Y,q h'.objs.size (as.map V.ref) _ (I1.hok.fresh sT) (λb o e=>?_) ?_ ?_⟩
   ·exact(hH' b (I1.hok.lt e)).trans e
   ·show(if h'.objs.size=h'.objs.size then _ else _)=_;rw[if_pos rfl]
   ·refine Zde (by rw[Ya,hl]) λi kv v h1 h2=>?_;rw[Yj]at h2;obtain⟨b,hb,eb⟩:=Yf1.mp h2;obtain⟨kv',hk1,hk2⟩:=at_ i b hb;rw[h1]at hk1;cases hk1;exact⟨b,eb.symm,hk2⟩
end
structure Tp(K:Fg)(x:Str)(st:Stmt)(f:Addr)(fd:FuncData):Prop where
 a:W.nsIn K mainGlobals x=some (some (.ref f))
 fn:Fun K x x st f fd
structure Mp(K:Fg)(C:Addr)(x q:Str)(st:Stmt)(f:Addr)(fd:FuncData):Prop where
 a:W.findIn K (.ref C) x=some (some (.ref f))
 i:W.isFn K (.ref f)=true
 fn:Fun K x q st f fd
structure Cp(K:Fg)(x:Str)(C:Addr):Prop where
 a:W.nsIn K mainGlobals x=some (some (.ref C))
 pg:W.plainGet K C Str.empty=true
 hd:W.hasDictIn K C=true
 po:W.plainOver K C=true
 sa:W.findIn K (.ref C) "__setattr__"=some (some (.builtin "object.__setattr__"))
 mx:W.makesIn K C=true
 kc:W.keepIn K (.ref C)=true
section
variable {K:Fg}{x q:Str}{st:Stmt}{f C:Addr}{oc:Value}{od an:Option Addr}{osl:Array (OU)}{kV doc pm cdv ct:Value}
def tp(a:W.nsIn K mainGlobals x=some (some (.ref f)))(l:K.lookup f=some ⟨oc,od,.func (W.fnOf x x (Zda st) (Zbo st) (Zad st) .none kV doc pm an cdv ct),osl⟩)(c:W.codeIn K cdv x=true)(k:W.keepIn K (.ref f)=true):
  Tp K x st f (W.fnOf x x (Zda st) (Zbo st) (Zad st) .none kV doc pm an cdv ct):=⟨a,Z2q l c k⟩
def mp(a:W.findIn K (.ref C) x=some (some (.ref f)))(i:W.isFn K (.ref f)=true)(l:K.lookup f=some ⟨oc,od,.func (W.fnOf x q (Zda st) (Zbo st) (Zad st) .none kV doc pm an cdv ct),osl⟩)(c:W.codeIn K cdv q=true)(k:W.keepIn K (.ref f)=true):
  Mp K C x q st f (W.fnOf x q (Zda st) (Zbo st) (Zad st) .none kV doc pm an cdv ct):=⟨a,i,Z2q l c k⟩
end
section
variable {K:Fg}{mg:Str->OU}{x q:Str}{st:Stmt}{f:Addr}{fd:FuncData}{h:Heap}
def ln1{us:LU}(h:us.length=1):∃ a,us=[a]:=List.length_eq_one_iff.mp h
def ln2{us:LU}(h:us.length=2):∃ a b,us=[a,b]:=by
 cases us with
 | nil=>cases h
 | cons a r=>obtain⟨_,rfl⟩:=ln1 (Nat.succ.inj h);exact⟨_,Z⟩
def ln3{us:LU}(h:us.length=3):∃ a b c,us=[a,b,c]:=by
 cases us with
 | nil=>cases h
 | cons a r=>obtain⟨_,_,rfl⟩:=ln2 (Nat.succ.inj h);exact⟨_,_,Z⟩
def ln4{us:LU}(h:us.length=4):∃ a b c d,us=[a,b,c,d]:=by
 cases us with
 | nil=>cases h
 | cons a r=>obtain⟨_,_,_,rfl⟩:=ln3 (Nat.succ.inj h);exact⟨_,_,_,Z⟩
def ln5{us:LU}(h:us.length=5):∃ a b c d e,us=[a,b,c,d,e]:=by
 cases us with
 | nil=>cases h
 | cons a r=>obtain⟨_,_,_,_,rfl⟩:=ln4 (Nat.succ.inj h);exact⟨_,_,_,_,Z⟩
def ln6{us:LU}(h:us.length=6):∃ a b c d e f,us=[a,b,c,d,e,f]:=by
 cases us with
 | nil=>cases h
 | cons a r=>obtain⟨_,_,_,_,_,rfl⟩:=ln5 (Nat.succ.inj h);exact⟨_,_,_,_,_,Z⟩
def ln7{us:LU}(h:us.length=7):∃ a b c d e f g,us=[a,b,c,d,e,f,g]:=by
 cases us with
 | nil=>cases h
 | cons a r=>obtain⟨_,_,_,_,_,_,rfl⟩:=ln6 (Nat.succ.inj h);exact⟨_,_,_,_,_,_,Z⟩
def bn1(a:Str)(F:Fun K x q st f fd)(e:∀(kV doc pm:Value) (an:Option Addr) (cdv ct u:Value),bindArgs (W.fnOf x q (Zda st) (Zbo st) (Zad st) .none kV doc pm an cdv ct) ⟨[u],[]⟩=pure ([a].zip [u]):=by intros;rfl):Zef K fd [a] [] :=
 F.binds λ_ _ _ _ _ _ us hl=>by
 obtain⟨_,rfl⟩:=ln1 hl;exact e ..
def bn2(a b:Str)(F:Fun K x q st f fd)(e:∀(kV doc pm:Value) (an:Option Addr) (cdv ct u v:Value),bindArgs (W.fnOf x q (Zda st) (Zbo st) (Zad st) .none kV doc pm an cdv ct) ⟨[u,v],[]⟩=pure ([a,b].zip [u,v]):=by intros;rfl):Zef K fd [a,b] [] :=
 F.binds λ_ _ _ _ _ _ us hl=>by
 obtain⟨_,_,rfl⟩:=ln2 hl;exact e ..
def bn3(a b c:Str)(F:Fun K x q st f fd)(e:∀(kV doc pm:Value) (an:Option Addr) (cdv ct u v w:Value),bindArgs (W.fnOf x q (Zda st) (Zbo st) (Zad st) .none kV doc pm an cdv ct) ⟨[u,v,w],[]⟩=pure ([a,b,c].zip [u,v,w]):=by intros;rfl):Zef K fd [a,b,c] [] :=
 F.binds λ_ _ _ _ _ _ us hl=>by
 obtain⟨_,_,_,rfl⟩:=ln3 hl;exact e ..
def bn4(a b c d:Str)(F:Fun K x q st f fd)(e:∀(kV doc pm:Value) (an:Option Addr) (cdv ct u v w y:Value),bindArgs (W.fnOf x q (Zda st) (Zbo st) (Zad st) .none kV doc pm an cdv ct) ⟨[u,v,w,y],[]⟩=pure ([a,b,c,d].zip [u,v,w,y]):=by intros;rfl):Zef K fd [a,b,c,d] [] :=
 F.binds λ_ _ _ _ _ _ us hl=>by
 obtain⟨_,_,_,_,rfl⟩:=ln4 hl;exact e ..
def bn5(a b c d g:Str)(F:Fun K x q st f fd)(e:∀(kV doc pm:Value) (an:Option Addr) (cdv ct u v w y z:Value),bindArgs (W.fnOf x q (Zda st) (Zbo st) (Zad st) .none kV doc pm an cdv ct) ⟨[u,v,w,y,z],[]⟩=pure ([a,b,c,d,g].zip [u,v,w,y,z]):=by intros;rfl):Zef K fd [a,b,c,d,g] [] :=
 F.binds λ_ _ _ _ _ _ us hl=>by
 obtain⟨_,_,_,_,_,rfl⟩:=ln5 hl;exact e ..
def bn7(a b c d g i j:Str)(F:Fun K x q st f fd)(e:∀(kV doc pm:Value) (an:Option Addr) (cdv ct u v w y z r s:Value),bindArgs (W.fnOf x q (Zda st) (Zbo st) (Zad st) .none kV doc pm an cdv ct) ⟨[u,v,w,y,z,r,s],[]⟩=pure ([a,b,c,d,g,i,j].zip [u,v,w,y,z,r,s]):=by intros;rfl):Zef K fd [a,b,c,d,g,i,j] [] :=
 F.binds λ_ _ _ _ _ _ us hl=>by
 obtain⟨_,_,_,_,_,_,_,rfl⟩:=ln7 hl;exact e ..
def df{ps:LS}(X:K.In h)(G:h.Ns mainGlobals mg)(T:Tp K x st f fd)(b:Zef K fd ps []):Def K mg x st ps f fd:=⟨T.fn,b,W.mg_of X G T.a⟩
theorem Tp.ex{x q:Str}(F:Fun K x q st f fd):∃(kV doc pm:Value) (an:Option Addr) (cdv ct:Value),fd=W.fnOf x q (Zda st) (Zbo st) (Zad st) .none kV doc pm an cdv ct:=by
 obtain⟨oc,od,kV,doc,pm,an,cdv,ct,osl,e,_⟩:=F.ex;exact⟨kV,doc,pm,an,cdv,ct,e⟩
end
abbrev TX1:=St->Hp->(Str->Hp->Prop)->Prop
abbrev TXs:=St->Hp->Str->(Str->Hp->Prop)->Prop
def PGx(X:Cx)(e:Expr)(t:TX1):Prop:=∀(pins:PL) (s:Shared) (σ:St) (H:Hp) (Q:Str->Hp->Prop),Inv X pins σ H s->t σ H Q ->
 wpAny (model X.prog X.w) X.A (eval e X.env) (λu s'=>∃ y tk H',u=.str y tk/\y.length<=100000/\Inv X pins σ H' s'/\Q y H') X.xe s
def Z8j(X:Cx)(es:List Expr)(t:TXs):Prop:=∀(pins:PL) (s:Shared) (σ:St) (H:Hp) (Q:Str->Hp->Prop) (acc:Str) (j:Nat),Inv X pins σ H s->acc.length<=100000 * j->j + es.length<=100->t σ H acc Q ->
 Joins (model X.prog X.w) X.A X.xe (evalEach es X.env) acc (λout s'=>∃ H',out.length<=10000000/\Inv X pins σ H' s'/\Q out H') s
section
variable {X:Cx}{e:Expr}{es:List Expr}{te:TE}{t:TX1}{u:TXs}{pos:Pos}
def Yai(x:Str):TX1:=λ_ H Q=>x.length<=100000/\Q x H
def Zse{x j}:PGx X (.Constant (.str x) j pos) (Yai x):=λ_ _ _ H _ I h=>Calls.Constant_str ⟨x,_,H,Y,h.1,I.tok _,h.2⟩
def Yah(te:TE):TX1:=λσ H Q=>te σ H λv H1=>∃ i:Int,v=.int i/\i.natAbs<2 ^ 64/\Q (Str.ofString (toString i)) H1
def Z6n(he:PE X e te):PGx X (.FormattedValue e (-1) none pos) (Yah te):=by
 ac_rfl;refine wpAny_FormattedValue_plain (thn (he pins s σ H _ I h) λv s1 ⟨x,H1,I1,r1,i,ex,hi,q⟩=>?_);subst ex;obtain⟨t,rfl⟩:=r1;exact wpAny_formatField_int (Zxz hi) ⟨_,_,H1,Y,Z4k hi,I1.tok _,q⟩
def Yae(te:TE):TX1:=λσ H Q=>te σ H λv H1=>∃ x:Str,v=.str x/\x.length<=100000/\Q x H1
def Zwi(he:PE X e te):PGx X (.FormattedValue e (-1) none pos) (Yae te):=by
 ac_rfl;refine wpAny_FormattedValue_plain (thn (he pins s σ H _ I h) λv s1 ⟨x,H1,I1,r1,y,ex,hi,q⟩=>?_);subst ex;obtain⟨t,rfl⟩:=r1;exact wpAny_formatField_str ⟨_,_,H1,Y,hi,I1,q⟩ ⟨_,_,H1,Y,hi,I1.tok _,q⟩ (Yv1 hi (by decide))
def Yag:TXs:=λ_ H acc Q=>Q acc H
def Yaf(t:TX1)(u:TXs):TXs:=λσ H acc Q=>t σ H λy H1=>u σ H1 (acc++y) Q
def Zwh:Z8j X [] Yag:=λpins s σ H Q acc j I ha hj h=>⟨H,by simp at hj;exact Yv1 ha (Yv1 (Nat.mul_le_mul_left _ hj) (by decide)),I,h⟩
def Zfi(h1:PGx X e t)(h2:Z8j X es u):Z8j X (e :: es) (Yaf t u):=by
 intro pins s σ H Q acc j I ha hj h;show wpAny _ _ (eval e X.env) _ _ s;refine thn (h1 pins s σ H _ I h) λv s1 ⟨y,tk,H1,ev,hy,I1,q⟩=>?_;have hl:(acc++y).length<=100000 * (j + 1):=by rw[strLen_append];omega
 have hj':j + 1 + es.length<=100:=by simp at hj;omega
 refine⟨y,tk,ev,Yv1 hl (Yv1 (Nat.mul_le_mul_left _ (show j + 1<=100 by omega)) (by decide)),?_⟩;exact h2 pins s1 σ H1 Q _ (j + 1) I1 hl hj' q
def tGx(t:TXs):TE:=λσ H Q=>t σ H Str.empty λx H1=>Q (.str x) H1
def Zsi{v1 v2:Expr}{Zlx:List Expr}{t:TXs}(h:Z8j X (v1 :: v2 :: Zlx) t)(hl:(v1 :: v2 :: Zlx).length<=100:=by decide):PE X (.JoinedStr (v1 :: v2 :: Zlx) pos) (tGx t):=by
 intro pins s σ H Q I hq;apply wpAny_JoinedStr;have z:=h pins s σ H _ Str.empty 0 I (Yj1 _) (by simpa using hl) hq;have mono:∀(l:List (Sem Value)) (acc:Str) (P P':Str->Shared->Prop) (s:Shared),(∀ o s',P o s'->P' o s')->Joins (model X.prog X.w) X.A X.xe l acc P s->Joins (model X.prog X.w) X.A X.xe l acc P' s:=by
  intro l
  induction l with
  | nil=>intro acc P P' s f q;exact f _ _ q
  | cons a r ih =>
   intro acc P P' s f q;exact thn (show wpAny _ _ a _ _ s from q) λv s1 ⟨y,tk,e1,e2,e3⟩=>⟨y,tk,e1,e2,ih _ P P' s1 f e3⟩
 exact mono _ _ _ _ _ (λo s' ⟨H',l,I',q'⟩=>⟨Yv1 l (by decide),⟨.str o,H',I'.tok _,⟨Z⟩,q'⟩⟩) z
end
section
variable {X:Cx}
theorem Zvd:∀ {xs:LS}{its:LU},Zb2 (xs.map V.str) its->∃ l:List (Str×Tok),its=strValues l/\l.map (·.1)=xs
 | [],_,.nil=>⟨[],Y,Y⟩
 | x :: xs,_,.cons r t=>by
  obtain⟨l,e,e2⟩:=Zvd t;obtain⟨tk,rfl⟩:=r;exact⟨(x,tk):: l,by rw[e];rfl,by rw[Yz,e2]⟩
def Z9i:V->LV->Hp->VK->Prop:=λx vs H Q=>∃ sep l xs B,x=.str sep/\vs=[.ref l]/\H l=some (.lst (xs.map V.str))/\(∀ y∈xs,y.length<=B)/\xs.length * B + xs.length * sep.length<=16777216/\Q (.str (Builtin.Str.glued sep xs)) H
def Zm8:MtM X "str.join" Z9i:=by
 intro pins s σ H x vs v us Q I rx rv h;obtain⟨sep,l,xs,B,rfl,rfl,hH,hB,hz,q⟩:=h;obtain⟨tk,rfl⟩:=rx;obtain⟨u,rfl,ru⟩:=rv.one;cases ru;obtain⟨z,its,n,r,hl,e⟩:=I.lstM hH;obtain⟨ps,rfl,e2⟩:=Zvd r;refine SC.join ⟨_,e,Y,Z⟩ e2 ?_ λt' k=>⟨.str _,H,I.tok _,⟨Z⟩,q⟩;unfold JoinOk;rw[StrLaws.joinFits hB hz];rfl
end
end L2
namespace PySem
open Builtin AutoSeq1
set_option maxRecDepth 8000 in
def Zjv(l:Addr)(items:Array Value)(n:Nat)(b:Addr)(items2:Array Value)(n2:Nat)(dt:Option Addr)(sl:Array (OU))(hs0:¬(!items.isEmpty&&Builtin.List.listTooLong (items.size + items2.size))=true)(hs1:items.size<=sizeLine)(hs2:items.size + items2.size<=sizeLine + 1):
  Meets (Builtin.«list.extend» ⟨[.ref l,.ref b],[]⟩) (λ_ R s=>s.heap.get? l=some {cls:=.type "list",dict:=none,data:=.seq items n,slots:=#[] }/\s.heap.get? b=some {cls:=.type "tuple",dict:=dt,data:=.seq items2 n2,slots:=sl}/\R (.ok (.ret Value.none)) {s with heap:=s.heap.update l (Obj.mapSeq λx=>x++items2),toks:=s.toks}):=
 .of_wp λprog w A R s h=>by
  obtain⟨hp,g,d,tk,os⟩:=s;obtain⟨hl,hb,h⟩:=h;have f1:=idx_int;have f2:=sub_tuple_tuple;have f3:=sub_list_list;have f4:=sub_tuple_list;have f5:=sub_list_tuple;have hz':(items++items2).size<=sizeLine + 1:=by rw[Array.size_append];exact hs2
  wp_walk using(wpAny_updateSeq hl rfl (hz:=hs1) (_hz':=hz')),wpAny_loadPart' hl,wpAny_loadPart' hb;exact⟨Z,h⟩
end PySem
namespace L2
open PySem PySem.Spec PyProof.Rows
section
variable {X:Cx}
def Z9k(K:Fg):V->LV->Hp->VK->Prop:=λx vs H Q=>∃ l b xs zs,x=.ref l/\vs=[.ref b]/\H l=some (.lst xs)/\SqT K H b zs/\xs.length + zs.length<=sizeLine/\Q .non (upd H l (.lst (xs++zs)))
def Z4e:MtM X "list.extend" (Z9k X.K):=by
 intro pins s σ H x vs v us Q I rx rv h;obtain⟨l,b,xs,zs,rfl,rfl,hH,hB,hz,q⟩:=h;cases rx;obtain⟨u,rfl,ru⟩:=rv.one;cases ru;obtain⟨z,its,n,r,hl,e⟩:=I.lstM hH;obtain⟨its2,r2,⟨⟨cl,dt,dat,sl⟩,e2,hc2,n2,hd2⟩,hl2⟩:=I.tuple hB;dsimp only at hc2 hd2;subst hc2 hd2;have l2:=r2.length;have hsz:its.toArray.size + its2.toArray.size<=sizeLine:=by rw[Yn,Yn];omega
 have hlong:¬ (!its.toArray.isEmpty&&Builtin.List.listTooLong (its.toArray.size + its2.toArray.size))=true:=by
  rw[Zsq hsz,Bool.and_false];exact Yq
 refine call_meets F.slot_list_extend ⟨_,e,Y⟩ F.entry_list_extend (F.args_list_extend_2 _ _)
  (Zjv l its.toArray n b its2.toArray n2 dt sl hlong (by rw[Yn];omega) (by omega)) ⟨e,e2,?_⟩
 refine⟨.non,_,I.lset (its':=its++its2) hH e (by simp) (r.append r2) ?_,Y,q⟩;rw[Yc];omega
def Z8q(K:Fg)(ta:TE):TE:=λσ H Q=>ta σ H λx H1=>∃ k,Yas K x H1 k/\Q (.bl (!k)) H1
def Zwp{a:Expr}{ta:TE}{pos:Pos}(ha:PE X a ta):PE X (.UnaryOp .Not a pos) (Z8q X.K ta):=by
 ac_rfl;refine UnaryOp_ (thn (ha pins s σ H _ I h) λv s1 ⟨x,H1,I1,r1,k,ty,q⟩=>?_);exact not_of (thn (Z10 pins s1 σ H1 x v (λc H2=>Q (.bl (!c)) H2) I1 r1 ⟨k,ty,q⟩) λc s2 ⟨H2,I2,q2⟩=>⟨.bl (!c),H2,I2,Y,q2⟩)
end
end L2
namespace L2
open PySem PySem.Spec PyProof.Rows PySem.W
section
variable {X:Cx}
def Ydv(K:Fg)(f:Bool->Bool):R2:=λx y H Q=>∃ d e,Rep K H x d/\Rep K H y e/\(kqdP d).canLay0=true/\(kqdP e).canLay0=true/\(kqdP e).depth<=60/\Q (.bl (f (PyData.eqv (kqdP d) (kqdP e)))) H
def Z6x(hu:X.A.units + 64<cLine):OpR X (compareOp .NotEq) (Ydv X.K Bool.not):=by
 exfalso;obtain⟨d,e,h1,h2,k1,k2,k3,q⟩:=h;obtain⟨as,ra⟩:=h1.reads I rx;obtain⟨bs,rb⟩:=h2.reads I ry;exact SeqAt.compareNe_reads ra rb k1 k2 (by have:=Nat.min_le_right (kqdP d).depth (kqdP e).depth;omega) (Zbf I q rfl)
end
end L2
namespace L2
open PySem PySem.Spec
section
variable {prog:Program}{w:World}{A:Around}{E:EV}{s:Shared}
end
end L2
namespace L2
open PySem PySem.Spec PyProof.Rows
section
variable {X:Cx}
end
section
variable {X:Cx}
def Z9j:V->LV->Hp->VK->Prop:=λx vs H Q=>∃ a b:Str,x=.str a/\vs=[.str b]/\Q (.int (Txt.find a b)) H
def Z4d:MtM X "str.find" Z9j:=by
 intro pins s σ H x vs v us Q I rx rv h;obtain⟨a,b,rfl,rfl,q⟩:=h;obtain⟨tk,rfl⟩:=rx;obtain⟨u,rfl,ru⟩:=rv.one;obtain⟨tu,rfl⟩:=ru;exact SC.find ⟨.int _,H,I.tok _,⟨Z⟩,q⟩
def Zp0:Zjk X (.type "int") (λxs H Q=>∃(x:Str) (n:Int),xs=[.str x]/\PySem.intText? x=some n/\x.length<=640/\Q (.int n) H):=by
 intro pins s σ H xs us Q I r h;obtain⟨x,n,rfl,hn,hl,q⟩:=h;obtain⟨u,rfl,t,rfl⟩:=Zix r;exact W.KIN.call_text hn hl ⟨.int _,H,I.tok _,⟨Z⟩,q⟩
end
def Zto(x:Str):strIterType x="str_ascii_iterator"\/strIterType x="str_iterator":=by
 unfold strIterType;split
 ·exact .inl rfl
 ·exact .inr rfl
def Zv1{h:Heap}{p:Addr}{ty:String}{x:Str}{t:Tok}{i:Nat}(st:h.IsStrIter p ty x t i):∃ o,h.get? p=some o/\∀ v,o.data≠.cell v:=by
 obtain⟨o,e,c,d⟩:=st;exact⟨o,e,λv z=>by rw[d]at z;cases z⟩
def Z2f{h h':Heap}{p:Addr}{ty:String}{x:Str}{t:Tok}{i:Nat}(st:h.IsStrIter p ty x t i)(k:∀ o,h.get? p=some o->h'.get? p=some o):h'.IsStrIter p ty x t i:=by
 obtain⟨o,e,r⟩:=st;exact⟨o,k o e,r⟩
def Ztk{P:Program}{w:World}{K:Fg}{elts:List Expr}{x1}{pos:Pos}(x:Str)(t:Tok)(e p:Addr)(ty:String)(hty:ty="str_ascii_iterator"\/ty="str_iterator")(ep:e≠p):
  Zqe P w K (.Tuple elts x1 pos) (Itp (Zg2 (Zb9 x)) λ_=>True) [e,p] e (λi h=>(∃ old,IsEnum h e p i old)/\h.IsStrIter p ty x t i) where
 mem:=by simp
 obj:=λi h st c hc=>by
  have hc':c=e\/c=p:=by simpa using hc
  obtain⟨⟨old,he⟩,si⟩:=st
  rcases hc' with rfl | rfl
  ·exact⟨_,he,λv q=>by cases q⟩
  ·exact Zv1 si
 keep:=λi h h' st k=>by
  obtain⟨⟨old,he⟩,si⟩:=st;exact⟨⟨old,k e (by simp) _ he⟩,Z2f si λo q=>k p (by simp) o q⟩
 item:=by
  intro X hP hw hK hc i pins s σ H E I hf st hg;subst hP hw hK;obtain⟨hi,_⟩:=hg;obtain⟨⟨old,he⟩,si⟩:=st;obtain⟨pr,hp⟩:∃ p,(Zg2 (Zb9 x))[i]?=some p:=⟨(Zg2 (Zb9 x))[i]'hi,Yb hi⟩;obtain⟨e1,hx⟩:=Ze2 hp;have hil:i<x.cps.size:=by rw[Zc8]at hi;unfold Zb9 at hi;rw[Ya,Yg3]at hi;exact hi
  have fin:∀(D:Draws X.prog X.w X.A.in1 p [p] x.cps.size (λi v=>∃ c t',x.cps[i]?=some c/\v=.str ⟨#[c]⟩ t') (λi h=>h.IsStrIter p ty x t i)),wpAny (model X.prog X.w) X.A (pyNext (.ref e)) (λv s1=>∃ u,v=some u/\wpAny (model X.prog X.w) X.A (letOwnedTupleGo (.Tuple elts x1 pos) (.ref e) u) (λ_ s2=>∃ y H',Inv X pins σ H' s2/\Zcm y u/\(Itp (Zg2 (Zb9 x)) λ_=>True).yld i H y H'/\((∃ old,IsEnum s2.heap e p (i + 1:Nat) old)/\s2.heap.IsStrIter p ty x t (i + 1))/\∀ b∈[e,p],H' b=none) E s1) E s:=λD=>by
   refine wpAny_pyNext_enum_itemD D he si hil ep (by simp;exact ep) λu g tk hPx ho hst hT _ hk=>?_;obtain⟨c,t',hc',rfl⟩:=hPx;refine⟨Z,?_⟩;refine wpAny_letOwnedTupleGo_enum (s:={s with heap:=g,toks:=tk + 1}) ho λg' he' sb=>?_;have elt:e<s.heap.objs.size:=Yk he;have plt:p<s.heap.objs.size:=let⟨o,q,_⟩:=Zv1 si;Yk q;have sb':Heap.ExtBut e g g':=sb.extBut;have hT':IsPair g' s.heap.objs.size (.int i tk) (.str ⟨#[c]⟩ t'):=sb' _ _ (Ys1 elt) hT;have e2:pr.2=.str ⟨#[c]⟩:=by
    unfold Zb9 at hx;rw[Yj,Yn4,hc']at hx;exact(Ym hx).symm
   have I1:Inv X pins σ (upd H s.heap.objs.size (.tup [pr.1,pr.2])) {s with heap:=g',toks:=tk + 1}:=I.turnedNewL (t':=tk + 1) (its:=[e,p]) (λc o hc q=>sb' c o (λz=>hc (by simp[z])) (hk c o (λz=>hc (by simp[z])) (λz=>hc (by simp[z])) q)) hf (Yg _)
    ⟨U,[.int i tk,.str ⟨#[c]⟩ t'],.cons (by rw[e1];exact⟨tk,Y⟩) (.cons (by rw[e2];exact⟨t',Y⟩) .nil),⟨_,hT',Y,Z⟩⟩
   refine⟨.ref s.heap.objs.size,_,I1,Y,⟨s.heap.objs.size,pr,hp,I.hok.fresh (Yg _),Y,Y⟩,⟨⟨_,by simpa using he'⟩,Z2f hst λo q=>sb' _ o (Yu ep) q⟩,λc hc=>?_⟩;have hc':c=e\/c=p:=by simpa using hc
   have ne:c≠s.heap.objs.size:=by
    rcases hc' with rfl | rfl
    ·exact Yx elt
    ·exact Yx plt
   rw[Zab ne];exact(hf c hc).1
  rcases hty with rfl | rfl
  ·exact fin (Draws.strAscii (A:=X.A.in1) (I.ok.hd hc) p x t)
  ·exact fin (Draws.strWide (A:=X.A.in1) (I.ok.hd hc) p x t)
 done:=by
  intro X hP hw hK hc i pins s σ H E I hf st hg;subst hP hw hK;obtain⟨hi,_⟩:=hg;obtain⟨⟨old,he⟩,si⟩:=st;rw[Zc8]at hi;have hx:x.cps[i]?=none:=by
   unfold Zb9 at hi;rw[Ya,Yg3]at hi;simp[hi]
  rcases hty with rfl | rfl
  ·refine Zk8 (I.ok.hd hc) he (λQ E hE=>wpAny_nextOf_ascii_end (I.ok.hd hc) si hx hE) λg eb=>⟨Y,I.turnedL (t':=s.toks) (its:=[e,p]) (λc o hc q=>eb c o (λz=>hc (by simp[z])) q) hf⟩
  ·refine Zk8 (I.ok.hd hc) he (λQ E hE=>wpAny_nextOf_wide_end (I.ok.hd hc) si hx hE) λg eb=>⟨Y,I.turnedL (t':=s.toks) (its:=[e,p]) (λc o hc q=>eb c o (λz=>hc (by simp[z])) q) hf⟩
 self:=λA i s Q E st h=>let⟨⟨_,he⟩,_⟩:=st;wpAny_pyIter_enum he h
section
variable {X:Cx}
def Z7w(ta:TA):TI:=λσ H R=>ta σ H λvs H1=>∃ x:Str,vs=[.str x]/\R (Itp (Zg2 (Zb9 x)) λ_=>True) H1
def Zzw{elts:List Expr}{x1}{tpos:Pos}{a:Expr}{ta:TA}{p pos:Pos}(hg:Gl X "enumerate")(hm:X.mg "enumerate"=none)(ha:PA X [a] ta)(hs:starEach [a] X.env=[(false,eval a X.env)]:=by rfl):
  PI X (.Tuple elts x1 tpos) (.Call (.Name "enumerate" p) [a] [] pos) (Z7w ta):=by
 intro pins s σ H R I h;refine Call_ (Ze0 I hg hm boot_enumerate (Yw1 (thn (ha pos pins s σ H _ I h) λus s1 ⟨vs,H1,I1,r1,q1⟩=>?_) hs rfl));obtain⟨x,e,q⟩:=q1;subst e;obtain⟨u,rfl,t,rfl⟩:=Zix r1;refine call_enumerate_str λg he si _ hk=>wpAny_pyIter_enum (s:={s1 with heap:=g}) he ?_;refine⟨_,[s1.heap.objs.size + 1,s1.heap.objs.size],_,_,H1,Y,I1.kept (t':=s1.toks) λb o e=>hk b o e,Ztk x t _ _ _ (Zto x) (Nat.succ_ne_self _),⟨⟨_,he⟩,si⟩,λc hc=>?_,q⟩;have hc':c=s1.heap.objs.size + 1\/c=s1.heap.objs.size:=by simpa using hc
 have ge:s1.heap.objs.size<=c:=by
  rcases hc' with rfl | rfl
  ·exact Yl2 _ _
  ·exact Yg _
 exact I1.fpOk ge (I1.hok.fresh ge)
end
end L2
namespace Md
open PySem L2
theorem Zs3(l:LN)(s:Nat):∀ m,s + m<=l.length->((List.range m).map λk=>s + k).filterMap (λi=>l.toArray[i]?)=(l.drop s).take m
 | 0,_=>by simp
 | m + 1,h=>by
  rw[List.range_succ,Yr,List.filterMap_append,Zs3 l s m (by omega),Ym1];have:s + m<l.length:=by omega
  simp[this]
def Z7u(s t n:Nat)(hst:s<=t):sliceRange (s:Int) (t:Int) 1=(List.range (t - s)).map λk=>s + k:=by
 unfold sliceRange;simp only[show(1:Int) > 0 by decide,if_true];have e:(if(s:Int)<(t:Int)then((t:Int) - (s:Int) + 1 - 1) / 1 else 0).toNat=t - s:=by
  split
  ·rw[Int.ediv_one];omega
  ·omega
 rw[e];refine Yt3 λk _=>?_;omega
def Zmr{x:Str}{lo hi:Option Int}{s t:Nat}(h:Builtin.Str.strSliceIndices lo hi 1 x.length=sliceRange (s:Int) (t:Int) 1)(hst:s<=t)(ht:t<=x.length):(Txt.slice x lo hi).cps.toList=(x.cps.toList.drop s).take (t - s):=by
 unfold Txt.slice;rw[h,Z7u s t x.length hst];have hl:=Zbx x;split
 ·rename_i hc
  have hc:t - s=x.length:=by simpa using hc
  have s0:s=0:=by omega
  rw[s0,List.drop_zero,Ym2 (by omega)]
 ·have q:=Zs3 x.cps.toList s (t - s) (by omega);have e:x.cps.toList.toArray=x.cps:=by simp
  rw[e]at q;show(((List.range (t - s)).map λk=>s + k).filterMap (x.cps[·]?)).toArray.toList=_;rw[List.toList_toArray,q]
def Zr6(x:Str)(a b:Nat)(hab:a<=b)(hb:b<=x.length):(Txt.slice x (some (a:Int)) (some (b:Int))).cps.toList=(x.cps.toList.drop a).take (b - a):=by
 refine Zmr ?_ hab hb;unfold Builtin.Str.strSliceIndices;have h1:¬ (a:Int)<0:=by omega
 have h2:¬ (b:Int)<0:=by omega
 simp only[show(1:Int) > 0 by decide,if_true,if_neg h1,if_neg h2];have e1:max (0:Int) (min (a:Int) (x.length:Int))=(a:Int):=by omega
 have e2:max (0:Int) (min (b:Int) (x.length:Int))=(b:Int):=by omega
 rw[e1,e2]
def Zv0(x:Str)(a:Nat)(ha:a<=x.length):(Txt.slice x (some (a:Int)) (some ((a:Int) + 2))).cps.toList=(x.cps.toList.drop a).take 2:=by
 by_cases h:a + 2<=x.length
 ·have:=Zr6 x a (a + 2) (by omega) h;rw[show((a + 2:Nat):Int)=(a:Int) + 2 by omega,show a + 2 - a=2 by omega]at this;exact this
 ·have e:(Txt.slice x (some (a:Int)) (some ((a:Int) + 2))).cps.toList=(x.cps.toList.drop a).take (x.length - a):=by
   refine Zmr (t:=x.length) ?_ ha (Yg _);unfold Builtin.Str.strSliceIndices;have h1:¬ (a:Int)<0:=by omega
   have h2:¬ (a:Int) + 2<0:=by omega
   simp only[show(1:Int) > 0 by decide,if_true,if_neg h1,if_neg h2];have e1:max (0:Int) (min (a:Int) (x.length:Int))=(a:Int):=by omega
   have e2:max (0:Int) (min ((a:Int) + 2) (x.length:Int))=(x.length:Int):=by omega
   rw[e1,e2]
  have hl:=Zbx x;rw[e,Ym2 (by rw[Yv2];omega),Ym2 (by rw[Yv2];omega)]
def Ztq(x:Str)(a:Nat)(ha:a + 1<=x.length):(Txt.slice x (some (a:Int)) (some (-1))).cps.toList=(x.cps.toList.drop a).take (x.length - 1 - a):=by
 refine Zmr (t:=x.length - 1) ?_ (by omega) (by omega);unfold Builtin.Str.strSliceIndices;have h1:¬ (a:Int)<0:=by omega
 simp only[show(1:Int) > 0 by decide,if_true,if_neg h1,show(-1:Int)<0 by decide];have e1:max (0:Int) (min (a:Int) (x.length:Int))=(a:Int):=by omega
 have e2:max (0:Int) (min (-1 + (x.length:Int)) (x.length:Int))=((x.length - 1:Nat):Int):=by omega
 rw[e1,e2]
def Zyw{x:Str}{c i:Nat}:StrLaws.At x ⟨#[c]⟩ x.length i↔x.cps.toList[i]?=some c:=by
 unfold StrLaws.At;rw[StrLaws.subAt_eq,beq_iff_eq];have hl:=Zbx x;show(i + 1<=x.length/\(x.cps.toList.drop i).take 1=[c])↔_;constructor
 ·rintro⟨h1,h2⟩;rw[Yj3 (by omega),Yo5,Yj2]at h2;injection h2 with h2;rw[Yb (by omega),h2]
 ·intro h;have hi:=(Yi.mp h).1;refine⟨W,?_⟩;rw[Yj3 hi,Yo5,Yj2];rw[Yb hi]at h;rw[Ym h]
def Z1h{x:Str}{pre post:LN}{c:Nat}(h:x.cps.toList=pre++c :: post)(hc:c∉pre):Txt.find x ⟨#[c]⟩=(pre.length:Int):=by
 have h0:x.cps.toList[pre.length]?=some c:=by rw[h,Yh2 (Yg _),Nat.sub_self];rfl
 rcases PyProof.Rows.find_whole x ⟨#[c]⟩with⟨_,hn⟩ | ⟨i,e,hi,hn⟩
 ·exact absurd (Zyw.mpr h0) (hn _)
 ·rw[e];have h1:=Zyw.mp hi;by_cases l1:i<pre.length
  ·rw[h,Yi3 l1]at h1;exact absurd (Yf h1) hc
  ·by_cases l2:pre.length<i
   ·exact absurd (Zyw.mpr h0) (hn _ l2)
   ·rw[show i=pre.length by omega]
abbrev figures:Str:="0123456789"
def Zh1(c:Nat):Bool:=decide (48<=c/\c<=57)
def Z4x:figures.cps.toList=(List.range 10).map (48 + ·):=by rfl'
def Z74(c:Nat):(!(Builtin.Str.occurrences figures ⟨#[c]⟩ 0 figures.length 1).isEmpty)=Zh1 c:=by
 rw[StrLaws.found_one,Z4x];unfold Zh1;rw[decide_eq_decide,Yh];constructor
 ·rintro⟨a,ha,rfl⟩;have:=Yt2.mp ha;omega
 ·intro h;exact⟨c - 48,Yt2.mpr (by omega),W⟩
def Z06:V->V
 | .str y=>.bl (!(Builtin.Str.occurrences figures y 0 figures.length 1).isEmpty)
 | _=>.non
def Zv3(x:Str):((Zb9 x).filter λ_=>true).map Z06=(x.cps.toList.map Zh1).map V.bl:=by
 rw[Yr2.mpr λ_ _=>rfl];unfold Zb9;rw[Ye2,Ye2];refine Yt3 λc _=>?_;show V.bl _=V.bl _;rw[Z74]
def Zya(n:Nat):LN:=(Nat.toDigits 10 n).map Char.toNat
def Zs7(n:Nat):(Str.ofString (toString ((n:Nat):Int))).cps.toList=Zya n:=W.KIN.signs_num n
def Z2t(l:LN):Bool:=decide (1<=l.length/\l.length<=2)&&l.all Zh1&&(decide (l.length=1) || !decide (l.head?=some 48))
def Z1n:∀ n:Fin 100,Z2t (Zya n)=true:=by rfl'
def Zuq{x:Str}{n:Nat}(h:x.cps.toList=Zya n)(hn:n<100):PySem.intText? x=some (n:Int):=by
 have e:x=Str.ofString (toString ((n:Nat):Int)):=Md.str_ext (by rw[h,Zs7]);rw[e];exact W.KIN.num_reads (by omega) (by omega)
def jn:List (LN)->LN
 | []=>[]
 | a :: r=>a++r.flatMap λb=>44 :: 32 :: b
def Z1a(xs:LS):(Builtin.Str.glued ", " xs).cps.toList=jn (xs.map λx=>x.cps.toList):=by
 cases xs with
 | nil=>rfl
 | cons x r =>
  show(r.foldl (λacc p=>acc++(", ":Str).cps++p.cps) x.cps).toList=_;have:∀(r:LS) (a:Array Nat),(r.foldl (λacc p=>acc++(", ":Str).cps++p.cps) a).toList=a.toList++(r.map λx=>x.cps.toList).flatMap λb=>44 :: 32 :: b:=λr=>by
   induction r with
   | nil=>intro a;simp
   | cons y r ih =>
    intro a;rw[List.foldl_cons,ih,Yn5,Yn5,Yz,Yy2];have e:(", ":Str).cps.toList=[44,32]:=by rfl'
    rw[e];simp
  rw[this];rfl
end Md
namespace L2
open PySem PySem.Spec PyProof.Rows
theorem Zny:∀(l:List (Str×Tok)),Zb2 ((l.map (·.1)).map V.str) (strValues l)
 | []=>.nil
 | (x,t):: l=>.cons ⟨t,Y⟩ (Zny l)
section
variable {prog:Program}{w:World}{A:Around}{E:EV}{s:Shared}{x y:Str}{t u:Tok}
def Zze{Q:EV}(hy:(y.length == 0)=false)(hx:x.length<=sizeLine)(hn:(Txt.split x y).length<=sizeLine)
  (q:∀(l:List (Str×Tok)) (tk:Nat),l.map (·.1)=Txt.split x y->Q (.ref s.heap.objs.size) {s with heap:=s.heap.push {cls:=.type "list",data:=.seq (strValues l).toArray},toks:=tk}):
  wpAny (model prog w) A (call (.builtin "str.split") [.str x t,.str y u]) Q E s:=by
 unfold Txt.split at hn q;by_cases c:(decide (x.length<y.length) || decide (Builtin.Str.strKind x<Builtin.Str.strKind y))=true
 ·rw[if_pos c]at q;exact call_meets F.slot_str_split (typeIs_str _ _ _) F.entry_str_split (F.args_str_split_2 _ _) (meets_str_split_cannot_occur x y t u c) (q [(x,t)] s.toks rfl)
 ·rw[if_neg c]at q hn;have c:=eq_false_of_ne_true c;by_cases f:(Builtin.Str.occurrences x y 0 x.length (x.length + 1)).isEmpty=true
  ·rw[if_pos f]at q;exact call_meets F.slot_str_split (typeIs_str _ _ _) F.entry_str_split (F.args_str_split_2 _ _) (meets_str_split_not_found x y t u c hy f) (q [(x,t)] s.toks rfl)
  ·rw[if_neg f]at q hn;refine call_meets F.slot_str_split (typeIs_str _ _ _) F.entry_str_split (F.args_str_split_2 _ _) (meets_str_split_sep x y t u c hy (eq_false_of_ne_true f) hx hn) ?_;have z:=q (numbered s.toks (Builtin.Str.partsBetween x (Builtin.Str.occurrences x y 0 x.length (x.length + 1)) y.length)) (s.toks + (Builtin.Str.partsBetween x (Builtin.Str.occurrences x y 0 x.length (x.length + 1)) y.length).length) (numbered_texts _ _);rw[<- strsFrom_eq]at z;exact z
end
section
variable {X:Cx}
def Z6l:V->LV->Hp->VK->Prop:=λx vs H Q=>∃ a b:Str,x=.str a/\vs=[.str b]/\(b.length == 0)=false/\a.length<=sizeLine/\(Txt.split a b).length<=sizeLine/\∀ p,H p=none->Q (.ref p) (upd H p (.lst ((Txt.split a b).map V.str)))
def Zst:MtM X "str.split" Z6l:=by
 intro pins s σ H x vs v us Q I rx rv h;obtain⟨a,b,rfl,rfl,hb,ha,hn,q⟩:=h;obtain⟨tk,rfl⟩:=rx;obtain⟨u,rfl,ru⟩:=rv.one;obtain⟨tu,rfl⟩:=ru;refine Zze hb ha hn λl tk' e=>?_;have hf:H s.heap.objs.size=none:=I.hok.fresh (Yg _);refine⟨.ref s.heap.objs.size,upd H s.heap.objs.size (.lst ((Txt.split a b).map V.str)),I.laid (t':=tk') (λb u e=>Yd _ e) (Yg _) ?_,Y,q _ hf⟩;rw[<- e];exact⟨by rw[Ya,e];exact hn,_,0,Zny l,Yp _ rfl⟩
end
end L2
namespace Md
open PySem L2
abbrev sgn(c:Nat):Str:=⟨#[c]⟩
theorem Z2x{c:Nat}:∀ {x y A B:LN},c∉x->c∉y->x++c :: A=y++c :: B->x=y/\A=B
 | [],[],_,_,_,_,h=>⟨Y,by simpa using h⟩
 | [],b :: y,_,_,_,hy,h=>by
  rw[Yu5,Yj5,List.cons.injEq]at h;exact absurd (by rw[h.1];exact Yh1) hy
 | a :: x,[],_,_,hx,_,h=>by
  rw[Yu5,Yj5,List.cons.injEq]at h;exact absurd (by rw[<- h.1];exact Yh1) hx
 | a :: x,b :: y,A,B,hx,hy,h=>by
  rw[Yj5,Yj5,List.cons.injEq]at h;obtain⟨e,h⟩:=h;obtain⟨e1,e2⟩:=Z2x (λz=>hx (Ys _ z)) (λz=>hy (Ys _ z)) h;exact⟨by rw[e,e1],e2⟩
def Zyj(a b:Str):(a++b).cps.toList=a.cps.toList++b.cps.toList:=Yn5
def Zio(c:Nat)(x y:Str)(r:LS):(Str.join (sgn c) (x :: y :: r)).cps.toList=x.cps.toList++c :: (Str.join (sgn c) (y :: r)).cps.toList:=by
 show(x++sgn c++Str.join (sgn c) (y :: r)).cps.toList=_;rw[Zyj,Zyj,Yx1];rfl
def Z15{x y:Str}(h:x.cps.toList=y.cps.toList):x=y:=by
 cases x;cases y;exact congrArg Str.mk (Array.toList_inj.mp h)
theorem Zs0{c:Nat}:∀ {xs ys:LS},xs≠[]->ys≠[]->(∀ p∈xs,c∉p.cps.toList)->(∀ p∈ys,c∉p.cps.toList)->Str.join (sgn c) xs=Str.join (sgn c) ys->xs=ys
 | [],_,h,_,_,_,_=>absurd rfl h
 | _ :: _,[],_,h,_,_,_=>absurd rfl h
 | [x],[y],_,_,_,_,h=>congrArg (λz=>[z]) (show x=y from h)
 | [x],y :: y2 :: r,_,_,hx,_,h=>by
  have h:=congrArg (λz:Str=>z.cps.toList) h
  try dsimp only at h
  rw[Zio]at h;exact absurd (show c∈x.cps.toList by rw[show x.cps.toList=_ from h];simp) (hx x Yh1)
 | x :: x2 :: r,[y],_,_,_,hy,h=>by
  have h:=congrArg (λz:Str=>z.cps.toList) h
  try dsimp only at h
  rw[Zio]at h;exact absurd (show c∈y.cps.toList by rw[show y.cps.toList=_ from h.symm];simp) (hy y Yh1)
 | x :: x2 :: r,y :: y2 :: r',_,_,hx,hy,h=>by
  have h:=congrArg (λz:Str=>z.cps.toList) h
  try dsimp only at h
  rw[Zio,Zio]at h;obtain⟨e1,e2⟩:=Z2x (hx x Yh1) (hy y Yh1) h;rw[Z15 e1,Zs0 (Yl5 _ _) (Yl5 _ _) (λp h=>hx p (Ys _ h)) (λp h=>hy p (Ys _ h)) (Z15 e2)]
def Zj7{c:Nat}{xs:LS}(h:xs≠[])(hf:∀ p∈xs,c∉p.cps.toList):Txt.split (Builtin.Str.glued (sgn c) xs) (sgn c)=xs:=by
 refine Zs0 (c:=c) ?_ h (StrLaws.split_free _ _) hf ?_
 ·intro z;have:=PyProof.Rows.split_pos (Builtin.Str.glued (sgn c) xs) (sgn c);rw[z]at this;exact absurd this (by decide)
 ·rw[StrLaws.join_split,StrLaws.glued_eq_join]
end Md
namespace L2
open PySem PySem.Spec PyProof.Rows
def Zzk(a b:Value):checkTypeCall "enumerate" ⟨[a],[("start",b)]⟩=pure ():=by kernel_rfl
def Z0s(a b:Value):checkBuiltinCall "enumerate.__new__" ⟨[.type "enumerate",a],[("start",b)]⟩=pure ():=by kernel_rfl
def Z0n(o a b:Value):argsOk "object.__init__" ⟨[o,a],[("start",b)]⟩:=by
 unfold argsOk
 kernel_rfl
def Zq5(l:Addr)(us:Array Value)(tk:Tok):Meets (Builtin.«enumerate.__new__» ⟨[.type "enumerate",.ref l],[("start",.int 1 tk)]⟩) (λ_ R s=>s.heap.IsList l us /\
   R (.ok (.ret (.ref (s.heap.push {cls:=.type "list_iterator",data:=.fields #[.ref l,.int 0 0] }).objs.size)))
    {s with heap:=(s.heap.push {cls:=.type "list_iterator",data:=.fields #[.ref l,.int 0 0] }).push {cls:=.type "enumerate",data:=.fields #[.none,.bool false,.ref s.heap.objs.size,rawInt 1,.none,.none] } }):=
 .of_wp λprog w A R s h=>by
  obtain⟨hp,g,d,tk,os⟩:=s;obtain⟨ht,h⟩:=h;have hsub:=sub_enumerate;obtain⟨⟨c,dct,dt,sl⟩,hl,hc,n,hd⟩:=id ht;replace hc:c=.type "list":=hc;replace hd:dt=.seq us n:=hd;subst hc hd;have hT:Heap.IsList (Shared.heap ⟨hp,g,d,tk,os⟩) l us:=ht
  wp_walk using Yq2 hl
  refine wpAny_stack_any λst=>Jd ?_;split
  ·rename_i c _ _ _ _ _
   cases(c == Value.type "enumerate")
   ·wp_walk using Yq2 hl,wpAny_pyIter_list hT
    exact⟨Z,h⟩
   ·wp_walk using Yq2 hl,wpAny_pyIter_list hT
    exact⟨Z,h⟩
  ·wp_walk using Yq2 hl,wpAny_pyIter_list hT
   exact⟨Z,h⟩
section
variable {prog:Program}{w:World}{A:Around}{E:EV}{s:Shared}
def Z9s{T nw:String}{o a:Value}{kw:List (Str×Value)}(hl:typeLookup (.type T) "__init__"=pure (some (.builtin "object.__init__")))(hm:Bind.madeBy (.type T)=pure (some nw))(hne:(some nw != some "object.__new__")=true):
  Meets (Builtin.«object.__init__» ⟨[o,a],kw⟩) (λ_ R s=>s.TypeIs o T/\R (.ok (.ret .none)) s):=
 .of_wp λprog w A R s hs=>by
  obtain⟨hT,hq⟩:=hs
  repeat any_goals first | assumption | wp_step
  exact⟨Z,hq⟩
def Zut{T nw:String}{B:Builtin}{a:Value}{kw:List (Str×Value)}{S:PySem.Spec}{Q:EV}(ft:TypeCalled T nw "object.__init__")(hne:(some nw != some "object.__new__")=true)
  (ct:checkTypeCall T ⟨[a],kw⟩=pure ()) (cn:checkBuiltinCall nw ⟨[.type T,a],kw⟩=pure ()) (ok:∀ o,argsOk "object.__init__" ⟨[o,a],kw⟩) (en:entryFor table nw=some B) (g:Meets (B ⟨[.type T,a],kw⟩) S)
  (h:S A.in1 (wants (λo s1=>s1.TypeIs o T/\Q o s1) E) s):wpAny (model prog w) A (call (.type T) [a] kw) Q E s:=by
 obtain⟨c,tl,mro⟩:=ft.mro;have md:=ft.made;have sb:=ft.sub;refine wpAny_call (codeAny_of_tree ?_);show wpAny _ _ (callAny (.type T) _) _ _ _;refine Jd ⟨Code.quiet_builtin _ (by rfl'),codeAny_builtin PySem.F.entry_type_call ?_⟩;rw[Around.under_plain (weight_type_call_type T [a] kw) (units_type_call_type T [a] kw)];have n1:=ft.notType;have n2:=ft.canCreate
 repeat any_goals first | assumption | wp_step
 refine codeAny_mono (codeAny_call_builtin ft.plain en (wpAny_of_eq cn (g prog w A.in1 _ s h))) λr s1 hr=>?_;cases r with
 | error e=>exact hr
 | ok fl =>
  cases fl with
  | ret o =>
   obtain⟨hT,hq⟩:=hr;have li:=ft.init.lookup;have bi:=ft.init.bind o
   repeat any_goals first | assumption | wp_step
   refine codeAny_mono (codeAny_call_builtin ft.init.plain PySem.F.entry_object_init (ft.init.check _ _ _ _ _ _ _ _ hT (ok o) (Z9s li md hne prog w A.in1 (wants (λr s2=>r=.none/\Q o s2) E) s1 ⟨hT,Y,hq⟩))) λr2 s2 hr2=>?_;cases r2 with
   | error e=>exact hr2
   | ok f2 =>
    cases f2 with
    | ret r =>
     obtain⟨rfl,q⟩:=hr2
     repeat any_goals first | assumption | wp_step
    | _=>exact hr2.elim
  | _=>exact hr.elim
def Zuu{l:Addr}{us:Array Value}{tk:Tok}{Q:EV}(hl:s.heap.IsList l us)
  (q:∀ g,IsEnum g (s.heap.objs.size + 1) s.heap.objs.size 1 .none->SIt true g s.heap.objs.size l 0->(∀ c o,s.heap.get? c=some o->g.get? c=some o)->Q (.ref (s.heap.objs.size + 1)) {s with heap:=g}):
  wpAny (model prog w) A (call (.type "enumerate") [.ref l] [("start",.int 1 tk)]) Q E s:=by
 refine Zut PySem.F.called_enumerate (by decide) (Zzk _ _) (Z0s _ _) (λo=>Z0n o _ _) PySem.F.entry_enumerate_new (Zq5 l us tk) ⟨hl,?_⟩;have n1:(s.heap.push {cls:=.type "list_iterator",data:=.fields #[.ref l,.int 0 0] }).objs.size=s.heap.objs.size + 1:=Yp3 ..;show _/\_;rw[n1];have he:IsEnum ((s.heap.push {cls:=.type "list_iterator",data:=.fields #[.ref l,.int 0 0] }).push {cls:=.type "enumerate",data:=.fields #[.none,.bool false,.ref s.heap.objs.size,rawInt 1,.none,.none] }) (s.heap.objs.size + 1) s.heap.objs.size 1 .none:=by
  have:=Yp (s.heap.push {cls:=.type "list_iterator",data:=.fields #[.ref l,.int 0 0] }) (o:={cls:=.type "enumerate",data:=.fields #[.none,.bool false,.ref s.heap.objs.size,rawInt 1,.none,.none] }) rfl;rw[n1]at this;exact this
 exact⟨⟨_,he,Y⟩,q _ he ⟨_,Yd _ (Yp _ rfl),Y,Y⟩ λc o x=>Yd _ (Yd _ x)⟩
end
def Z1m{prog:Program}{w:World}{A:Around}{p:Addr}{fp:List Addr}{n:Nat}{P:Nat->Value->Prop}{St:Nat->Heap->Prop}(D:Draws prog w A p fp n P St):
  Draws prog w A p fp (n + 1) (λj v=>P (j - 1) v) (λj h=>1<=j/\St (j - 1) h) where
 live:=λ_ _ st=>D.live _ _ st.2
 frame:=λ_ _ _ st hk=>⟨st.1,D.frame _ _ _ st.2 hk⟩
 item:=λi s Q E hi st q=>by
  obtain⟨h1,st⟩:=st;refine D.item (i - 1) s Q E (by omega) st λx g tk px st' sb=>q x g tk px ⟨W,?_⟩ sb;rw[show i + 1 - 1=i - 1 + 1 by omega];exact st'
 done:=λs Q E st q=>D.done s Q E st.2 q
def Zk7(xs:LV):List (V×V):=(Zdo 1 xs.length).zip xs
def Zjg(xs:LV):(Zk7 xs).length=xs.length:=by
 unfold Zk7;rw[Yw4,Za3,Nat.min_self]
def Zmd{xs:LV}{i:Nat}{p:V×V}(h:(Zk7 xs)[i]?=some p):p.1=.int ((i + 1:Nat):Int)/\xs[i]?=some p.2:=by
 obtain⟨h1,h2⟩:=Zh4 h;obtain⟨_,e⟩:=Za7 h1;exact⟨by rw[e,Int.natCast_add,Int.add_comm];rfl,h2⟩
def Ztl{P:Program}{w:World}{K:Fg}{elts:List Expr}{x1}{pos:Pos}{xs:LV}(a e p:Addr)(ep:e≠p)(ea:e≠a)(ap:a≠p):
  Zqe P w K (.Tuple elts x1 pos) (Itp (Zk7 xs) λH=>SqL K H a xs) [e,p] e (λi h=>(∃ old,IsEnum h e p ((i + 1:Nat):Int) old)/\h.IsListIter p a i) where
 mem:=by simp
 obj:=λi h st c hc=>by
  have hc':c=e\/c=p:=by simpa using hc
  obtain⟨⟨old,he⟩,si⟩:=st
  rcases hc' with rfl | rfl
  ·exact⟨_,he,λv q=>by cases q⟩
  ·exact SIt.obj (b:=true) si
 keep:=λi h h' st k=>by
  obtain⟨⟨old,he⟩,si⟩:=st;exact⟨⟨old,k e (by simp) _ he⟩,si.at λo q=>k p (by simp) o q⟩
 item:=by
  intro X hP hw hK hc i pins s σ H E I hf st hg;subst hP hw hK;obtain⟨hi,ha⟩:=hg;obtain⟨⟨old,he⟩,si⟩:=st;obtain⟨pr,hp⟩:∃ p,(Zk7 xs)[i]?=some p:=⟨(Zk7 xs)[i]'hi,Yb hi⟩;obtain⟨e1,hx⟩:=Zmd hp;obtain⟨its,rv,pl,_⟩:=I.list ha;have sq:=pl.isList;obtain⟨u,hu,ru⟩:=rv.get hx;have hil:i<its.toArray.size:=by rw[Zjg]at hi;have:=rv.length;simp;omega
  have D:=Z1m (Draws.list (prog:=X.prog) (w:=X.w) (A:=X.A.in1) (I.ok.hd hc) p a ap its.toArray);refine wpAny_pyNext_enum_itemD D he ⟨W,si,sq⟩ (by omega) ep (by simp;exact⟨ep,ea⟩) λx g tk hPx ho hst hT _ hk=>?_;have exu:x=u:=by
   have h1:its.toArray[i]?=some x:=hPx;have h2:its.toArray[i]?=some u:=by simpa using hu
   rw[h1]at h2;exact Ym h2
  subst exu;refine⟨Z,?_⟩;refine wpAny_letOwnedTupleGo_enum (s:={s with heap:=g,toks:=tk + 1}) ho λg' he' sb=>?_;have elt:e<s.heap.objs.size:=Yk he;have plt:p<s.heap.objs.size:=by
   obtain⟨o,q,_⟩:=SIt.obj (b:=true) si;exact Yk q
  have sb':Heap.ExtBut e g g':=sb.extBut;have hT':IsPair g' s.heap.objs.size (.int ((i + 1:Nat):Int) tk) x:=sb' _ _ (Ys1 elt) hT;have I1:Inv X pins σ (upd H s.heap.objs.size (.tup [pr.1,pr.2])) {s with heap:=g',toks:=tk + 1}:=I.turnedNewL (t':=tk + 1) (its:=[e,p]) (λc o hc q=>sb' c o (λz=>hc (by simp[z])) (hk c o (λz=>hc (by simp[z])) (λz=>hc (by simp[z])) q)) hf (Yg _)
   ⟨U,[.int ((i + 1:Nat):Int) tk,x],.cons (by rw[e1];exact⟨tk,Y⟩) (.cons ru .nil),⟨_,hT',Y,Z⟩⟩
  refine⟨.ref s.heap.objs.size,_,I1,Y,⟨s.heap.objs.size,pr,hp,I.hok.fresh (Yg _),Y,Y⟩,⟨⟨x,by simpa using he'⟩,hst.2.1.at λo q=>sb' _ o (Yu ep) q⟩,λc hc=>?_⟩;have hc':c=e\/c=p:=by simpa using hc
  have ne:c≠s.heap.objs.size:=by
   rcases hc' with rfl | rfl
   ·exact Yx elt
   ·exact Yx plt
  rw[Zab ne];exact(hf c hc).1
 done:=by
  intro X hP hw hK hc i pins s σ H E I hf st hg;subst hP hw hK;obtain⟨hi,ha⟩:=hg;obtain⟨⟨old,he⟩,si⟩:=st;obtain⟨its,rv,pl,_⟩:=I.list ha;have hl:=rv.length;rw[Zjg]at hi;refine Zk8 (I.ok.hd hc) he (λQ E hE=>wpAny_nextOf_list_end (I.ok.hd hc) si pl.isList (by simp;omega) hE) λg eb=>⟨Y,I.turnedL (t':=s.toks) (its:=[e,p]) (λc o hc q=>eb c o (λz=>hc (by simp[z])) q) hf⟩
 self:=λA i s Q E st h=>by
  obtain⟨⟨_,he⟩,_⟩:=st;exact wpAny_pyIter_enum he h
section
variable {M:Model}{A:Around}{E:EV}{s:Shared}{env:Env}
def Z1r{pos:Pos}{T:String}{e:Expr}{kws:List Keyword}{Q:EV}
  (h:wpAny M A (spliced (backTo pos (starEach [e] env))) (λvs s1=>wpAny M A (evalAll ((backToKw pos (keywordEach kws env)).map (·.2))) (λks s2=>wpAny M A (call (.type T) vs (((backToKw pos (keywordEach kws env)).filterMap (·.1)).zip ks)) Q E s2) E s1) E s)
  (he:backTo pos (starEach [e] env)=[(false,eval e env)]:=by rfl) (ha:(backToKw pos (keywordEach kws env)).all (·.1.isSome)=true:=by rfl) (hk:(backToKw pos (keywordEach kws env)).any (·.1.isNone)=false:=by rfl):
  wpAny M A (callWith pos (.type T) [] (backTo pos (starEach [e] env)) (backToKw pos (keywordEach kws env))) Q E s:=by
 unfold callWith;rw[he]at h ⊢;refine Ja (Jj (Jf (evalArgs_kwB (Q:=λa s1=>wpAny M A (call (.type T) ([]++a.pos) a.kw) Q E s1) ha h) (λa s1 h1=>Ja (wpAny_standAt ?_)) λ_ _ x=>x));simp only[hk,Bool.or_false];refine Ja (Jd ?_);exact Ja (Jf h1 (λr s2 hr=>Ja (Jj (wpAny_point (Jd hr)))) λ_ _ z=>z)
end
section
variable {X:Cx}
def Z7x(K:Fg)(ta:TA):TI:=λσ H R=>ta σ H λvs H1=>∃(a:Addr) (xs:LV),vs=[.ref a]/\SqL K H1 a xs/\R (Itp (Zk7 xs) λH=>SqL K H a xs) H1
def Zzx{elts:List Expr}{x1}{tpos:Pos}{a:Expr}{ta:TA}{p pos cp kp:Pos}{j}(hg:Gl X "enumerate")(hm:X.mg "enumerate"=none)(ha:PA X [a] ta)(hs:starEach [a] X.env=[(false,eval a X.env)]:=by rfl):
  PI X (.Tuple elts x1 tpos) (.Call (.Name "enumerate" p) [a] [⟨some "start",.Constant (.int 1) j cp,kp⟩] pos) (Z7x X.K ta):=by
 intro pins s σ H R I h;refine wpAny_Call_Name_kw (Ze0 I hg hm boot_enumerate ?_);refine Z1r ?_ (by rw[hs];rfl);refine thn (ha pos pins s σ H _ I h) λus s1 q1=>?_;obtain⟨vs,H1,I1,r1,l,xs,rfl,t1,q⟩:=q1;cases r1 with
 | cons r rr =>
  cases rr;obtain rfl:_=Value.ref l:=r;refine kws_cons (wpAny_Constant_int (kws_nil ?_));have I2:Inv X pins σ H1 {s1 with toks:=s1.toks + 1}:=I1.tok _;obtain⟨its,rv,pl,_⟩:=I2.list t1;have sq:=pl.isList;have lt1:l<s1.heap.objs.size:=by
   obtain⟨_,e,_⟩:=sq;exact Yk e
  refine Zuu sq λg he si hk=>wpAny_pyIter_enum (s:={s1 with heap:=g,toks:=s1.toks + 1}) he ?_;refine⟨_,[s1.heap.objs.size + 1,s1.heap.objs.size],_,_,H1,Y,I2.kept (t':=s1.toks + 1) λb o e=>hk b o e,Ztl l _ _ (Nat.succ_ne_self _) (Ys1 (Nat.lt_succ_of_lt lt1)) (Yx lt1),⟨⟨_,he⟩,si⟩,λc hc=>?_,q⟩;have hc':c=s1.heap.objs.size + 1\/c=s1.heap.objs.size:=by simpa using hc
  have ge:s1.heap.objs.size<=c:=by
   rcases hc' with rfl | rfl
   ·exact Yl2 _ _
   ·exact Yg _
  exact I1.fpOk ge (I1.hok.fresh ge)
end
end L2
namespace K76
open PySem L2
variable {P:Program}{w:World}{K:Fg}{mg:Str->OU}{base:Heap}
def top(i:Nat):Stmt:=PySem.Challenge.pw_manydeeds_k76_whole_books_there_and_back.main.body.getD i (.Pass ⟨0,0,0,0⟩)
abbrev Zd3:Stmt:=top 18
abbrev Zen:Stmt:=top 20
abbrev Zed:Stmt:=Zc2 (top 21) 0
abbrev Zeq:Stmt:=Zc2 (top 21) 1
abbrev Zd0:Stmt:=Zc2 (top 21) 2
abbrev Zer:Stmt:=Zc2 (top 21) 3
abbrev Zc5:Stmt:=top 27
abbrev Ze8:Stmt:=top 28
abbrev Zf8:Stmt:=top 29
abbrev Zcw:Stmt:=top 30
abbrev Zfw:Stmt:=top 31
abbrev Zf7:Stmt:=top 32
abbrev Zga:Stmt:=top 33
abbrev Zec:Stmt:=Zc2 (top 34) 0
abbrev Zgb:Stmt:=Zc2 (top 34) 1
abbrev Zcy:Stmt:=Zc2 (top 34) 2
abbrev Zd5:Stmt:=Zc2 (top 34) 4
abbrev Zep:Stmt:=Zc2 (top 34) 6
abbrev Zem:Stmt:=top 37
abbrev Zcp:Stmt:=Zc2 (top 38) 0
abbrev Zcz:Stmt:=Zc2 (top 38) 1
abbrev Zfg:Stmt:=Zc2 (top 38) 2
abbrev Zfd:Stmt:=Zc2 (top 38) 3
abbrev Zfh:Stmt:=Zc2 (top 38) 4
abbrev Zff:Stmt:=Zc2 (top 38) 5
abbrev Zfe:Stmt:=Zc2 (top 38) 6
abbrev Zdr:Stmt:=top 41
abbrev Zej:Stmt:=top 42
abbrev Zei:Stmt:=top 43
abbrev Zek:Stmt:=top 44
abbrev Zib:Stmt:=top 45
abbrev Zia:Stmt:=top 46
abbrev Zid:Stmt:=top 47
abbrev Ze9:Stmt:=top 49
abbrev Zg7:Stmt:=top 50
abbrev Zgq:Stmt:=top 51
abbrev Zcd:Stmt:=top 52
abbrev Zdh:Stmt:=top 53
abbrev Zh9:Stmt:=top 54
abbrev Zh8:Stmt:=top 55
abbrev Zr7:Stmt:=top 56
abbrev Zdp:Stmt:=top 61
abbrev Zhb:Stmt:=top 62
abbrev Zfv:Stmt:=top 63
abbrev Zhd:Stmt:=top 64
abbrev Zfu:Stmt:=top 65
abbrev Zdi:Stmt:=top 66
abbrev Zic:Stmt:=top 67
abbrev Ze7:Stmt:=top 68
abbrev Zha:Stmt:=top 69
abbrev Zg9:Stmt:=top 70
abbrev Zzq:Stmt:=top 71
abbrev Zhc:Stmt:=top 74
abbrev Zhe:Stmt:=top 75
abbrev Zdq:Stmt:=top 76
abbrev Zf9:Stmt:=top 77
abbrev Zel:Stmt:=top 78
abbrev Zf4:Stmt:=top 79
abbrev Zg8:Stmt:=top 80
abbrev Zf6:Stmt:=top 81
abbrev Zew:Stmt:=top 82
abbrev Zd2:Stmt:=top 83
abbrev Zcv:Stmt:=top 84
abbrev Zex:Stmt:=top 85
abbrev Zf5:Stmt:=top 86
abbrev Zfx:Stmt:=top 88
abbrev Zbb:Stmt:=top 89
abbrev Zce:Stmt:=top 90
abbrev Zba:Stmt:=top 91
abbrev Zfa:Stmt:=top 92
abbrev Zds:Stmt:=top 93
abbrev Zdu:Stmt:=top 94
abbrev Zfc:Stmt:=top 95
abbrev Zdd:Stmt:=top 96
abbrev Zeo:Stmt:=top 98
abbrev Zd4:Stmt:=top 99
abbrev Zdc:Stmt:=top 100
abbrev Zfb:Stmt:=top 101
abbrev Zdt:Stmt:=top 102
abbrev Zcx:Stmt:=top 103
abbrev Zc6:Stmt:=top 104
abbrev Zzr:Stmt:=top 105
end K76
namespace K76
open PySem L2 Md
variable {P:Program}{w:World}{K:Fg}{mg:Str->OU}{base:Heap}
def Z3b(K:Fg):Sp:=λvs H Q _=>∃(a:Addr) (k:Int) (ns:List Int),vs=[.ref a,.int k]/\SqL K H a (ns.map V.int)/\ns.length<=100/\0<=k/\k<=1000/\∀ p o,H p=none->Zj4 o->Q (.ref p) (upd H p o)
def Zgo:Sp:=λvs H Q _=>∃(p:Addr) (m:Int) (o:HO),vs=[.ref p,.int m]/\H p=some o/\Zj4 o/\0<m/\m<4611686018427387904/\∀(v:Int) o',0<=v->v<m->Zj4 o'->Q (.int v) (upd H p o')
def Zoa:Sp:=λvs H Q _=>∃ n:Nat,vs=[.int n]/\n<26 ^ 8/\Q (.str (Zb7 n)) H
def Zv9:Zah ["script","k","cell","rest"] ["script","k"] (Zad Zfx):=by nofun
def Zyt:(10:Int) ^ (64:Int).toNat * 10 ^ (64:Int).toNat * 10 ^ (64:Int).toNat * 10 ^ (64:Int).toNat=10 ^ 256:=by rfl'
def Z63(F:Def K mg "_law_pot" Zfx ["script","k"] f fd)(len:mg "len"=none):⋯ 1 f fd ["script","k"] (Z3b K):=by
 nomatch F.fn.ok Zv9
 ·obtain⟨a,k,ns,rfl,_⟩:=h;rfl
 ·obtain⟨a,k,ns,rfl,hS,hl,hk0,hk1,q⟩:=h;refine⟨_,pS (Zag (i:=2) Zv9.nd rfl (Or.inl rfl) Zaf)
   (Zgd (Za0 (Zan Zos (pv 1) (Zao Zb8 (by rfl) len Yg1 (pC (pv 0) Zaa)) (Zar _))
    (Zac (Zag (i:=2) Zv9.nd rfl (Or.inl rfl) (Zax Zgv (Za2 Zat (pv 0) (pv 1) (λ_ _=>rfl))
     (Zax Zqu (Zax Zqu (Zax Zqu (Zax Zl4 Zaf Zaf) (Zax Zl4 Zaf Zaf)) (Zax Zl4 Zaf Zaf)) (Zax Zl4 Zaf Zaf))))) Zal)
   (pS (Zag (i:=3) Zv9.nd rfl (Or.inl rfl) Zaf)
   (Zgd (Za0 (Zan Z6z (pv 2) (Zax Zl4 Zaf Zaf) (Zar _)) (Zac (Zag (i:=3) Zv9.nd rfl (Or.inl rfl) (pv 2))) Zal)
   (Zac (Zak (Zbd (pC (pv 3) (pC (Zax Zgv (Zax Zl5 (Zax Zcb (Zax Zcb (Zax Zgv (pv 2) Zaf) (Zax Zl5 Zaf (pv 1))) Zaf) Zaf) Zaf) Zaa)))))))),?_⟩
  refine⟨λσ' H'=>H'=H/\∃ c:Int,0<=c/\c<10 ^ 256/\σ'=[some (.ref a),some (.int k),some (.int c),none],?_,?_⟩
  ·refine⟨Z,Z,_,Z,.inl ⟨_,hS,Y⟩,_,Z,Y,Z,?_⟩;refine Ze1 (λh1=>?_) (λh1=>?_)
   ·have h1:k<((ns.map V.int).length:Int):=Je h1;rw[Ya]at h1;have hi:k.toNat<ns.length:=by omega
    have hat:atI (ns.map V.int) k=some (V.int ns[k.toNat]):=by
     have e:(ns.map V.int)[k.toNat]?=some (V.int ns[k.toNat]):=by rw[Yj,Yb hi];rfl
     have:=Zbl e
     rwa [Yg2 hk0]at this
    refine⟨Z,Z,_,_,_,Z,Y,hS,hat,_,Z,Y,⟨V,V,by rfl'⟩,_,Z,Y,⟨V,V,by rfl'⟩,_,Z,Y,⟨by rfl',by rfl'⟩,
     _,Z,Y,⟨V,V,by rfl'⟩,_,Z,Y,⟨by rfl',by rfl'⟩,_,Z,Y,⟨V,V,by rfl'⟩,_,Z,Y,⟨by rfl',by rfl'⟩,_,Z,Y,?_,Y,_,?_,?_,Y⟩
    ·show(0:Int)<_;rw[Zyt];rfl'
    ·rw[Zyt];exact Yo4 _ (by rfl')
    ·rw[Zyt];exact Yz3 _ (by rfl')
   ·exact⟨Y,0,V,by rfl',Y⟩
  ·rintro σ' H' ⟨rfl,c,hc0,hc1,rfl⟩;refine⟨λσ2 H2=>H2=H'/\∃ r:Int,0<=r/\r<10 ^ 256/\σ2=[some (.ref a),some (.int k),some (.int c),some (.int r)],?_,?_⟩
   ·refine⟨Z,_,Z,Y,⟨V,V,by rfl'⟩,_,Z,Y,Z,?_⟩;refine Ze1 (λh1=>?_) (λh1=>?_)
    ·exact⟨Z,Y,c,hc0,hc1,Y⟩
    ·exact⟨Y,0,V,by rfl',Y⟩
   ·rintro σ2 H2 ⟨rfl,r,hr0,hr1,rfl⟩;have m0:=Yo4 c (b:=2147483629) (by decide);have m1:=Yz3 c (b:=2147483629) (by decide);refine⟨Z,Z,_,Z,Y,(by show(0:Int)<2147483629;decide),Z,_,Z,Y,.inl ⟨V,V⟩,_,Z,Y,_,Z,Y,_,Z,Y,.inr ⟨V,V⟩,_,Z,Y,(by show(0:Int)<2147483647;decide),U,λp hp=>?_⟩;refine q p _ hp ⟨r,Z,hr0,hr1,Yo4 _ (by decide),Yz3 _ (by decide)⟩
def Z2i:Zah ["pot","many","found"] ["pot","many"] (Zad Zbb):=by nofun
def Zkv(F:Def K mg "_law_take" Zbb ["pot","many"] f fd):⋯ 1 f fd ["pot","many"] Zgo:=by
 nomatch F.fn.ok Z2i
 ·obtain⟨p,m,o,rfl,_⟩:=h;rfl
 ·obtain⟨p,m,o,rfl,hp,⟨r,b,rfl,hr0,hr1,hb0,hb1⟩,hm0,hm1,q⟩:=h;refine⟨_,pS (Za0 (Zan Zkt (Za2 Zat (pv 0) Zaf (λ_ _=>rfl)) Zaf (Zar _))
    (pS (Zag (i:=2) Z2i.nd rfl (Or.inl rfl) (Zax Zgv (Za2 Zat (pv 0) Zaf (λ_ _=>rfl)) (pv 1)))
    (pS (Zsf (Zax Zz1 (Za2 Zat (pv 0) Zaf (λ_ _=>rfl)) (pv 1)) (Zwn (pv 0) Zaf Zmt)) (Zac (Zak (pv 2))))) Zal)
   (pS (Zsf (Zax Zgv (Zax Zcb (Zax Zl5 (Za2 Zat (pv 0) Zaf (λ_ _=>rfl)) Zaf) Zaf) Zaf) (Zwn (pv 0) Zaf Zmt))
   (Zac (Zak (Zax Zgv (Zax Zqv (Zax Zgv (Zax Zl5 (Za2 Zat (pv 0) Zaf (λ_ _=>rfl)) (Za2 Zat (pv 0) Zaf (λ_ _=>rfl))) Zaf) Zaf) (pv 1))))),?_⟩
  refine⟨Z,p,_,_,Z,Y,SqL.of hp,Y,_,Z,Y,Z,?_⟩;refine Ze1 (λh1=>?_) (λh1=>?_)
  ·refine⟨Z,p,_,_,Z,Y,SqL.of hp,Y,Z,_,Z,Y,hm0,?_⟩;refine⟨Z,p,_,_,Z,Y,SqL.of hp,Y,Z,_,Z,Y,⟨hm0,hm1⟩,?_⟩;refine⟨Z,p,_,_,0,Y,Y,hp,Y,Z,?_⟩;have h1:0<r:=Je h1;exact q _ _ (Yo4 _ (by omega)) (Yz3 _ hm0) ⟨r / m,b,Y,Int.ediv_nonneg hr0 (by omega),Int.lt_of_le_of_lt (Int.ediv_le_self _ hr0) hr1,hb0,hb1⟩
  ·refine⟨Z,p,_,_,Z,Y,SqL.of hp,Y,_,Z,Y,.inr ⟨V,V⟩,_,Z,Y,_,Z,Y,(by show(0:Int)<2147483647;decide),?_⟩;refine⟨Z,p,_,_,1,Y,Y,hp,Y,?_⟩;have m0:=Yo4 (b * 69621 + 12345) (b:=2147483647) (by decide);have m1:=Yz3 (b * 69621 + 12345) (b:=2147483647) (by decide);refine⟨Z,p,_,_,Z,Y,SqL.of uS,Y,Z,p,_,_,Z,Y,SqL.of uS,Y,_,Z,Y,.inl ⟨W,W⟩,_,Z,Y,(by show(0:Int)<2147483629;decide),_,Z,Y,⟨V,V⟩,Z,_,Z,Y,hm0,?_⟩;exact q _ _ (Yo4 _ (by omega)) (Yz3 _ hm0) ⟨r,Z,hr0,hr1,m0,m1⟩
def Z6f:Zah ["number","word"] ["number"] (Zad Zce):=by nofun
def Zt0(F:Def K mg "_law_letters" Zce ["number"] f fd):⋯ 1 f fd ["number"] Zoa:=by
 nomatch F.fn.ok Z6f
 ·obtain⟨n,rfl,_⟩:=h;rfl
 ·obtain⟨n,rfl,hn,q⟩:=h;have nd:=Z6f.nd;refine⟨_,pS (sE 1 nd Zbp)
   (pS (Zhi Yw (Zhz (Zan Zdk (pv 1) Zbp (Zar _)) (Zgr (Zan Zkt (pv 0) Zaf (Zar _)))).pt
    (pS (sE 1 nd (Zax Zl7 (pv 1) (Za2 Zs1 Zbp (Zax Zgv (pv 0) Zaf) (λ_ _=>rfl))))
    (Zac (sE 0 nd (Zax Zqv (pv 0) Zaf)))))
   (Zac (Zak (pv 1)))),?_⟩
  have e0:("":Str).cps.toList=[]:=by rfl'
  have hlen:(Zbn n).length<=8:=Zgw 7 n hn;refine⟨λm σ H2=>H2=H/\∃(x:Str) (k:Nat),σ=[some (.int k),some (.str x)]/\m=k + (if x.cps.toList=[]then 1 else 0) /\
   ((x.cps.toList=[]/\k=n)\/(x.cps.toList≠[]/\k=0/\x.cps.toList=Zbn n)\/(x.cps.toList≠[]/\0<k/\x.cps.toList++Zbn k=Zbn n)),⟨Z,_,n,Y,Y,.inl ⟨e0,Y⟩⟩,?_⟩
  rintro m σ H2 ⟨rfl,x,k,rfl,rfl,inv⟩;have more:(x.cps.toList=[]\/0<k)->∃ N:SW,(∀ σ' H',N σ' H'->∃ m',m'<k + (if x.cps.toList=[]then 1 else 0)/\(H'=H2/\∃(y:Str) (j:Nat),σ'=[some (.int j),some (.str y)]/\m'=j + (if y.cps.toList=[]then 1 else 0) /\
    ((y.cps.toList=[]/\j=n)\/(y.cps.toList≠[]/\j=0/\y.cps.toList=Zbn n)\/(y.cps.toList≠[]/\0<j/\y.cps.toList++Zbn j=Zbn n)))) /\
    N [some (.int ((k:Int) / 26)),some (.str (x++⟨#[97 + k % 26]⟩))] H2:=λhk=>by
   refine⟨λσ' H'=>σ'=[some (.int ((k:Int) / 26)),some (.str (x++⟨#[97 + k % 26]⟩))]/\H'=H2,?_,Y,Y⟩;rintro σ' H' ⟨rfl,rfl⟩;have el:(x++⟨#[97 + k % 26]⟩:Str).cps.toList=x.cps.toList++[97 + k % 26]:=Zhr _ _;have ne:(x++⟨#[97 + k % 26]⟩:Str).cps.toList≠[]:=by rw[el];simp
   have kd:((k:Int) / 26)=((k / 26:Nat):Int):=by omega
   have whole:(x.cps.toList++[97 + k % 26])++(if k / 26=0 then[]else Zbn (k / 26))=Zbn n:=by
    rw[Yx1,List.singleton_append,<- Zdx]
    rcases inv with⟨h1,h2⟩ | ⟨h1,h2,_⟩ | ⟨_,_,h3⟩
    ·rw[h1,h2];rfl
    ·rcases hk with z | z
     ·exact absurd z h1
     ·omega
    ·exact h3
   refine⟨k / 26,?_,Y,_,k / 26,by rw[kd],by rw[if_neg ne];rfl,?_⟩
   ·rcases hk with z | z
    ·rw[if_pos z];omega
    ·have:k / 26<k:=by omega
     omega
   ·right;rw[el];by_cases z:k / 26=0
    ·rw[if_pos z,Yy1]at whole;exact .inl ⟨by simp,z,whole⟩
    ·rw[if_neg z]at whole;exact .inr ⟨by simp,W,whole⟩
  have xlen:x.length<=8:=by
   rw[<- Zbx]
   rcases inv with⟨h1,_⟩ | ⟨_,_,h3⟩ | ⟨_,_,h3⟩
   ·rw[h1];simp
   ·rw[h3];exact hlen
   ·have:=congrArg List.length h3;rw[Yc]at this;omega
  have at1:atI letters.cps.toList ((k:Int) % 26)=some (97 + k % 26):=by
   have:=Zbl (Zud (i:=k % 26) (by omega));have e:((k % 26:Nat):Int)=(k:Int) % 26:=by omega
   rwa [e]at this
  refine⟨Z,Y,Z,?_⟩;refine Ze1 (λh1=>?_) (λh1=>?_)
  ·have hx:x.cps.toList=[]:=by
    have:=Je h1;injection this with this;rw[this];exact e0
   obtain⟨N,hN,n0⟩:=more (.inl hx);refine Ze5 ⟨N,hN,?_⟩;exact⟨Z,Z,_,Z,Y,(by show(0:Int)<26;decide),_,_,Z,Y,sL (by rw[<- Zbx,Zhm];decide),at1,_,Z,Y,sL (by rw[Zxo];omega),Z,_,Z,Y,⟨V,V⟩,n0⟩
  ·have hx:x.cps.toList≠[]:=λz=>h1 (Jb (by rw[str_ext (z.trans e0.symm)]));refine⟨Z,_,Z,Y,Z,?_⟩;refine Ze1 (λh2=>?_) (λh2=>?_)
   ·have hk:0<k:=by have:(0:Int)<(k:Int):=Je h2;omega
    obtain⟨N,hN,n0⟩:=more (.inr hk);refine⟨N,hN,?_⟩;exact⟨Z,Z,_,Z,Y,(by show(0:Int)<26;decide),_,_,Z,Y,sL (by rw[<- Zbx,Zhm];decide),at1,_,Z,Y,sL (by rw[Zxo];omega),Z,_,Z,Y,⟨V,V⟩,n0⟩
   ·have hk:k=0:=by
     have:¬ (0:Int)<(k:Int):=λz=>h2 (Jb z);omega
    have hf:x=Zb7 n:=by
     refine str_ext ?_;rw[Zgg]
     rcases inv with⟨h1,_⟩ | ⟨_,_,h3⟩ | ⟨_,h2,_⟩
     ·exact absurd h1 hx
     ·exact h3
     ·omega
    rw[hf];exact⟨Z,q⟩
structure Znq(ws:LS):Prop where
 word:∀ x∈ws,Zam x=true
 nd:ws.Nodup
def Zvj:Sp:=λvs H Q _=>∃(p a:Addr) (ws:LS),vs=[.ref p,.ref a]/\p≠a/\(∃ o,H p=some o/\Zj4 o)/\H a=some (.lst (ws.map V.str))/\Znq ws/\ws.length<=24 /\
 ∀ x H',Drawn p H H'->Zam x=true->x∉ws->Q (.str x) H'
def Zvi:Sp:=λvs H Q _=>∃(p:Addr) (m:Nat),vs=[.ref p,.int m]/\(∃ o,H p=some o/\Zj4 o)/\m<=24 /\
 ∀ l (ws:LS) H',Drawn p H H'->H l=none->H' l=some (.lst (ws.map V.str))->Znq ws->ws.length=m->Q (.ref l) H'
def Zjn:LS:=["kind","under","name","deed","gives","with","none","clash","a","ab","abc","abcdefgh","even"]
def Zvx:Zjn.all Zam=true:=by rfl'
def Zrk{ws:LS}{v:Int}(h0:0<=v)(h1:v<ws.length):∃ x,x∈ws/\atI (ws.map V.str) v=some (.str x):=by
 have hi:v.toNat<ws.length:=by omega
 have e:(ws.map V.str)[v.toNat]?=some (V.str ws[v.toNat]):=by rw[Yj,Yb hi];rfl
 have:=Zbl e;rw[Yg2 h0]at this;exact⟨_,Yw3 hi,this⟩
def Zi9(ws:LS):(!dEq (.list (ws.map W.Dat.str)) (.list []))=true↔ws≠[]:=by
 cases ws with
 | nil=>simp[Zfp]
 | cons w r =>
  rw[Zni (by simp)];simp
def Zo3{ws:LS}(h:∀ x∈ws,Zam x=true):W.kqdOk 9 (.list (ws.map W.Dat.str))=true:=by
 show(ws.map W.Dat.str).all (W.kqdOk 8)=true;rw[Yq1];intro d hd;obtain⟨x,hx,e⟩:=Yh.mp hd;rw[<- e];exact Zgl (h x hx)
def Z2h:Zah ["pot","words","some","way","word","number"] ["pot","words"] (Zad Zba):=by nofun
def Zkk{x y:Str}{n:Nat}(hn:1<=n)(h:y.cps.toList=x.cps.toList.take n)(h1:1<=x.length)(h8:x.length<=8\/n<=8)(hl:∀ c∈x.cps.toList,Zjd c=true):Zam y=true:=by
 rw[Zb0,h,Yk1,Zbx];refine⟨⟨W,W⟩,λc hc=>hl c (Ye4 hc)⟩
def Zqk:Expr->Option (LS)
 | .Tuple es _ _=>Zrx es
 | _=>none
def Zzy{X:Cx}{ws:LS}:∀ {e:Expr},Zqk e=some ws->PE X e (Z8m (λ_ H Q=>Q (ws.map V.str) H)):=by
 intro e h;cases e with
 | Tuple es x p=>exact Zcs (Zwu h)
 | _=>cases h
def Z78:Stmt->Expr
 | .Assign _ e _=>e
 | _=>.Constant (.int 0) 0 ⟨0,0,0,0⟩
def hdS:List Stmt->Stmt
 | s :: _=>s
 | []=>.Pass ⟨0,0,0,0⟩
def e13:Zqk (Z78 (hdS (Zbo Zba)))=some Zjn:=by rfl'
def t13:TE:=Z8m (λ_ H Q=>Q (Zjn.map V.str) H)
def Z6w{X:Cx}{e:Expr}(h:Zqk e=some Zjn):PE X e t13:=Zzy h
def Z4j:Expr->Bool
 | .Tuple _ _ _=>true
 | _=>false
def Z53{e:Expr}{t:Option Expr}{l:Nat}{env:Env}(h:Z4j e=true):swapsWith e t l env=pure false:=by
 cases e with
 | Tuple es x p=>rfl
 | _=>cases h
def Yap:Stmt->Option (Str×Expr)
 | .Assign [.Name x _] e _=>some (x,e)
 | _=>none
def Z3p{X:Cx}{st:Stmt}{i:Nat}{x:Str}{e:Expr}{te:TE}(h:Yap st=some (x,e))(he:PE X e te)(ht:Z4j e=true)(hN:X.N.Nodup)(hi:X.N[i]?=some x)(hx:Loc X.env.scope x)(hf:X.fn x=true\/X.env.scope.names.lookup x=some .local):PS X st (Z14 te (Zgy i)):=by
 unfold Yap at h;split at h
 ·next x' p' e' p =>
  have h1:x'=x:=congrArg Prod.fst (Ym h);have h2:e'=e:=congrArg Prod.snd (Ym h);subst h1;subst h2;exact Zag hN hi hx he (Z53 ht) hf
 ·cases h
def s13:Stmt:=hdS (Zbo Zba)
def Z71:Expr:=Z78 s13
def a13:Yap s13=some (("some":Str),Z71):=by rfl
def u13:Z4j Z71=true:=by rfl'
def p13{X:Cx}:PE X Z71 t13:=@Z6w X Z71 e13
def Z9m{X:Cx}(hN:X.N.Nodup)(hi:X.N[2]?=some ("some":Str))(hx:Loc X.env.scope ("some":Str))(hf:X.fn ("some":Str)=true\/X.env.scope.names.lookup ("some":Str)=some NameKind.local):PS X s13 (Z14 t13 (Zgy 2)):=
 @Z3p X s13 2 ("some":Str) Z71 t13 a13 (@p13 X) u13 hN hi hx hf
def tlS:List Stmt->List Stmt
 | _ :: r=>r
 | []=>[]
def Z6o{X:Cx}{l:List Stmt}{t u:TS}(h0:l.isEmpty=false)(h1:PS X (hdS l) t)(h2:PSs X (tlS l) u):PSs X l (Zau t u):=by
 cases l with
 | nil=>cases h0
 | cons a r=>exact pS h1 h2
def n13:(Zbo Zba).isEmpty=false:=by rfl'
def Z6p{X:Cx}{u:TS}(hN:X.N.Nodup)(hi:X.N[2]?=some ("some":Str))(hx:Loc X.env.scope ("some":Str))(hf:X.fn ("some":Str)=true\/X.env.scope.names.lookup ("some":Str)=some NameKind.local)(h2:PSs X (tlS (Zbo Zba)) u):PSs X (Zbo Zba) (Zau (Z14 t13 (Zgy 2)) u):=
 @Z6o X (Zbo Zba) (Z14 t13 (Zgy 2)) u n13 (@Z9m X hN hi hx hf) h2
def Yal{X:Cx}{D:Zza}{σ:St}{H:Hp}(hN:X.N.Nodup)(hi:X.N[2]?=some ("some":Str))(hx:Loc X.env.scope ("some":Str))(hf:X.fn ("some":Str)=true\/X.env.scope.names.lookup ("some":Str)=some NameKind.local)
  (h:∃ u,PSs X (tlS (Zbo Zba)) u/\Zau (Z14 t13 (Zgy 2)) u D σ H):∃ t,PSs X (Zbo Zba) t/\t D σ H:=by
 obtain⟨u,h1,h2⟩:=h;exact⟨Zau (Z14 t13 (Zgy 2)) u,@Z6p X u hN hi hx hf h1,h2⟩
def Zwv(F:Def K mg "_law_word" Zba ["pot","words"] f fd)(DT:Def K mg "_law_take" Zbb ["pot","many"] fT fdT)(DL:Def K mg "_law_letters" Zce ["number"] fL fdL)(len:mg "len"=none):
  ⋯ 2 f fd ["pot","words"] Zvj:=by
 have GT:⋯ 1 fT fdT ["pot","many"] Zgo:=Zkv DT;have GL:⋯ 1 fL fdL ["number"] Zoa:=Zt0 DL
 nomatch F.fn.ok Z2h
 ·obtain⟨p,a,ws,rfl,_⟩:=h;rfl
 ·obtain⟨p,a,ws,rfl,hpa,hpot,ha,hw,hl24,q⟩:=h;have nd:=Z2h.nd;have hu:=hr.units;refine @Yal _ _ _ _ nd rfl (Or.inl rfl) (Or.inl rfl) ?_;refine⟨_,(pS (sE 3 nd (Zae DT GT hr (pC (pv 0) (pC Zaf Zaa))))
   (pS (sE 4 nd (Za2 Zch (pv 2) (Zae DT GT hr (pC (pv 0) (pC Zaf Zaa))) (λ_ _=>rfl)))
   (Zgd (Za0 (Zan Zdk (pv 3) Zaf (Zar _)) (Zac (sE 4 nd (Zae DL GL hr (pC (Zae DT GT hr (pC (pv 0) (pC (Zax Zhu (Zax Zl4 Zaf Zaf) Zaf) Zaa))) Zaa)))) Zal)
   (Zgd (Za0 (Zl0 (Zan Zdk (pv 3) Zaf (Zar _)) (Zi4 (Zan (Zkr hu) (pv 1) (Zbd Zaa) (Zar _)))).pt
    (pS (sE 4 nd (Za2 Zat (pv 1) (Zae DT GT hr (pC (pv 0) (pC (Zao Zb8 (by rfl) len Yg1 (pC (pv 1) Zaa)) Zaa))) (λ_ _=>rfl)))
    (Zac (sE 4 nd (Zbs Zkd (Zax Zl7 (pv 4) (Zae DL GL hr (pC (Zae DT GT hr (pC (pv 0) (pC Zaf Zaa))) Zaa))) Zdj (Zbt Zaf))))) Zal)
   (Zgd (Za0 (Zl0 (Zan Zdk (pv 3) Zaf (Zar _)) (Zi4 (Zan (Zkr hu) (pv 1) (Zbd Zaa) (Zar _)))).pt
    (pS (sE 4 nd (Za2 Zat (pv 1) (Zae DT GT hr (pC (pv 0) (pC (Zao Zb8 (by rfl) len Yg1 (pC (pv 1) Zaa)) Zaa))) (λ_ _=>rfl)))
    (Zac (sE 4 nd (Zbs Zkd (pv 4) Zdj (Zbt (Zax Zcb Zaf (Zae DT GT hr (pC (pv 0) (pC (Zao Zb8 (by rfl) len Yg1 (pC (pv 4) Zaa)) Zaa))))))))) Zal)
   (pS (sE 5 nd Zaf)
   (pS (Zhi Yw (Zan Zks (pv 4) (pv 1) (by with_unfolding_all rfl))
    (pS (sE 4 nd (Zae DL GL hr (pC (pv 5) Zaa)))
    (Zac (sE 5 nd (Zax Zcb (pv 5) Zaf)))))
   (Zac (Zak (pv 4)))))))))),?_⟩
  have hap:a≠p:=Yu hpa;obtain⟨o0,hp0,ho0⟩:=hpot;have wl:∀ {H':Hp},Drawn p H H'->SqL K H' a (ws.map V.str):=λd=>SqL.of (d.keep _ _ hap ha);refine⟨sL (by show 13<=100000;decide),λt ht=>?_⟩;have d1:Drawn p H (upd H t (.tup (Zjn.map V.str))):=(Drawn.refl ⟨o0,hp0,ho0⟩).new ht;have tp:t≠p:=λe=>by rw[e,hp0]at ht;cases ht
  refine⟨Z,p,4,o0,Y,(by rw[Zab (Yu tp)];exact hp0),ho0,V,V,λway o1 hw0 hw1 ho1=>?_⟩;refine⟨Z,Z,p,13,o1,Y,uS,ho1,V,V,λv o2 hv0 hv1 ho2=>?_⟩;obtain⟨x0,hx0,hat⟩:=Zrk (ws:=Zjn) hv0 (by show v<13;exact hv1);refine⟨t,Zjn.map V.str,_,Z,Y,SqT.of (by rw[Zab tp,Zab tp];exact uS),hat,?_⟩;have w0:Zam x0=true:=Yq1.mp Zvx x0 hx0;have d3:Drawn p H (upd (upd (upd H t (.tup (Zjn.map V.str))) p o1) p o2):=(d1.trans (Drawn.upd ho1)).trans (Drawn.upd ho2);refine⟨λσ' H'=>∃ x:Str,σ'=[some (.ref p),some (.ref a),some (.ref t),some (.int way),some (.str x),none]/\Zam x=true/\Drawn p H H',?_,?_⟩
  ·refine⟨Z,Y,Z,?_⟩;refine Ze1 (λ_=>?_) (λ_=>?_)
   ·obtain⟨o3,hp3,ho3⟩:=d3.pot;refine⟨Z,_,Z,Y,⟨V,V,by rfl'⟩,_,Z,Y,p,_,o3,Y,hp3,ho3,V,V,λv o4 hv0 hv1 ho4=>?_⟩;have hv1:v<208827064550:=hv1;refine⟨v.toNat,by rw[Yg2 hv0];rfl,W,Z,Zgf (by omega),d3.trans (Drawn.upd ho4)⟩
   ·exact⟨x0,Y,w0,d3⟩
  ·rintro σ' H1 ⟨x1,rfl,w1,d4⟩;refine⟨λσ' H'=>∃ x:Str,σ'=[some (.ref p),some (.ref a),some (.ref t),some (.int way),some (.str x),none]/\Zam x=true/\Drawn p H H',?_,?_⟩
   ·refine⟨Z,Y,Z,?_⟩;refine Ze1 (λ_=>?_) (λ_=>Zcg ⟨x1,Y,w1,d4⟩);refine⟨Z,Yj1 _,λt2 ht2=>⟨.list (ws.map W.Dat.str),.list [],.list ((wl d4).mono_new ht2) (Zd6 ws),.list (SqL.of uS) .nil,Zo3 hw.word,Y,Z,?_⟩⟩;have d5:Drawn p H (upd H1 t2 (.lst [])):=d4.new ht2;refine Ze1 (λhne=>?_) (λ_=>⟨x1,Y,w1,d5⟩);have hne:ws≠[]:=(Zi9 ws).mp hne;have hpos:0<ws.length:=Yk2.mpr hne;obtain⟨o5,hp5,ho5⟩:=d5.pot;refine⟨Z,Z,Z,_,Z,.inl ⟨_,wl d5,Y⟩,p,_,o5,Y,hp5,ho5,by rw[Ya];omega,by rw[Ya];omega,λv o6 hv0 hv1 ho6=>?_⟩;rw[Ya]at hv1;obtain⟨x2,hx2,hat2⟩:=Zrk (ws:=ws) hv0 hv1;have d6:Drawn p H (upd (upd H1 t2 (.lst [])) p o6):=d5.trans (Drawn.upd ho6);have w2:Zam x2=true:=hw.word x2 hx2;refine⟨a,ws.map V.str,_,Z,Y,wl d6,hat2,?_⟩;refine⟨Z,Z,p,26,o6,Y,uS,ho6,V,V,λv o7 hv0 hv1 ho7=>?_⟩;refine⟨v.toNat,by rw[Yg2 hv0];rfl,W,?_⟩;have wl3:Zam (Zb7 v.toNat)=true:=Zgf (by omega);have l2:=Zbu w2;have l3:=Zbu wl3;refine⟨_,Z,Y,sL (by omega),Z,Z,sL (by rw[Zxp];omega),?_⟩;refine⟨Z,?_,d6.trans (Drawn.upd ho7)⟩;refine Zkk (x:=x2++Zb7 v.toNat) (n:=8) (by decide) (Zi1 _ 8 (by decide)) (by rw[Zxp];omega) (.inr (Yg _)) λc hc=>?_;rw[Zhr]at hc
    rcases Yl.mp hc with hc | hc
    ·exact((Zb0 x2).mp w2).2 c hc
    ·exact((Zb0 _).mp wl3).2 c hc
   ·rintro σ' H2 ⟨x2,rfl,w2,d5⟩;refine⟨λσ' H'=>∃ x:Str,σ'=[some (.ref p),some (.ref a),some (.ref t),some (.int way),some (.str x),none]/\Zam x=true/\Drawn p H H',?_,?_⟩
    ·refine⟨Z,Y,Z,?_⟩;refine Ze1 (λ_=>?_) (λ_=>Zcg ⟨x2,Y,w2,d5⟩);refine⟨Z,Yj1 _,λt2 ht2=>⟨.list (ws.map W.Dat.str),.list [],.list ((wl d5).mono_new ht2) (Zd6 ws),.list (SqL.of uS) .nil,Zo3 hw.word,Y,Z,?_⟩⟩;have d6:Drawn p H (upd H2 t2 (.lst [])):=d5.new ht2;refine Ze1 (λhne=>?_) (λ_=>⟨x2,Y,w2,d6⟩);have hne:ws≠[]:=(Zi9 ws).mp hne;have hpos:0<ws.length:=Yk2.mpr hne;obtain⟨o6,hp6,ho6⟩:=d6.pot;refine⟨Z,Z,Z,_,Z,.inl ⟨_,wl d6,Y⟩,p,_,o6,Y,hp6,ho6,by rw[Ya];omega,by rw[Ya];omega,λv o7 hv0 hv1 ho7=>?_⟩;rw[Ya]at hv1;obtain⟨x3,hx3,hat3⟩:=Zrk (ws:=ws) hv0 hv1;have d7:Drawn p H (upd (upd H2 t2 (.lst [])) p o7):=d6.trans (Drawn.upd ho7);have w3:Zam x3=true:=hw.word x3 hx3;have l3:=Zbu w3;refine⟨a,ws.map V.str,_,Z,Y,wl d7,hat3,?_⟩;refine⟨Z,Z,Z,_,Z,⟨sL (by omega),Y⟩,p,_,o7,Y,uS,ho7,W,W,λv o8 hv0 hv1 ho8=>?_⟩;refine⟨_,Z,Y,Z,Z,sL (by omega),?_⟩;refine⟨Z,?_,d7.trans (Drawn.upd ho8)⟩;exact Zkk (x:=x3) (n:=(1 + v).toNat) (by omega) (Zi1 _ (1 + v) (by omega)) (by omega) (.inl (by omega)) ((Zb0 x3).mp w3).2
    ·rintro σ' H3 ⟨x3,rfl,w3,d6⟩;refine⟨λm σ H'=>∃(x:Str) (n:Nat),σ=[some (.ref p),some (.ref a),some (.ref t),some (.int way),some (.str x),some (.int n)]/\Zam x=true/\Drawn p H H'/\m=ws.length + 1 - n/\n<=ws.length + 1 /\
      (n=0\/x=Zb7 (n - 1))/\∀ j,j + 1<n->Zb7 j∈ws,⟨_,x3,0,Y,w3,d6,Y,W,.inl rfl,λj hj=>by omega⟩,?_⟩
     rintro m σ H4 ⟨x,n,rfl,wx,dx,rfl,hn,hxn,hall⟩;refine⟨Z,Z,a,Z,.inl (wl dx),Y,Zg1 ws,Z,?_⟩;show if inV (.str x) (ws.map V.str)=true then _ else _
     rw[Zje];refine Ze1 (λhin=>?_) (λhin=>?_)
     ·have hin:x∈ws:=Je hin;have all:∀ j,j<n->Zb7 j∈ws:=λj hj=>by
       by_cases z:j + 1<n
       ·exact hall j z
       ·rcases hxn with e | e
        ·omega
        ·have:j=n - 1:=by omega
         rw[this,<- e];exact hin
      have hle:n<=ws.length:=by
       have:=Graph.nodup_le (l:=(List.range n).map Zb7) (k:=ws) ?_ ?_
       ·simpa using this
       ·rw[Yo2,List.pairwise_map];exact(Yo2.mp List.nodup_range).imp λh e=>h (Zpi e)
       ·intro y hy;obtain⟨j,hj,e⟩:=Yh.mp hy;rw[<- e];exact all j (Yt2.mp hj)
      refine⟨λσ' H'=>σ'=[some (.ref p),some (.ref a),some (.ref t),some (.int way),some (.str (Zb7 n)),some (.int ((n:Int) + 1))]/\H'=H4,?_,?_⟩
      ·rintro σ' H' ⟨rfl,rfl⟩;exact⟨ws.length + 1 - (n + 1),W,Zb7 n,n + 1,Y,Zgf (by omega),dx,Y,W,.inr rfl,λj hj=>all j (by omega)⟩
      ·exact⟨Z,n,Y,W,Z,_,Z,Y,Y,Y⟩
     ·have hin:x∉ws:=λz=>hin (Jb z);exact⟨Z,q x H4 dx wx hin⟩
def Zv8:Zah ["pot","many","words","k"] ["pot","many"] (Zad Zfa):=by nofun
def Zz2(F:Def K mg "_law_words" Zfa ["pot","many"] f fd)(DW:Def K mg "_law_word" Zba ["pot","words"] fW fdW)(DT:Def K mg "_law_take" Zbb ["pot","many"] fT fdT)(DL:Def K mg "_law_letters" Zce ["number"] fL fdL)(len:mg "len"=none)(range:mg "range"=none):
  ⋯ 3 f fd ["pot","many"] Zvi:=by
 have GW:⋯ 2 fW fdW ["pot","words"] Zvj:=Zwv DW DT DL len
 nomatch F.fn.ok Zv8
 ·obtain⟨p,m,rfl,_⟩:=h;rfl
 ·obtain⟨p,m,rfl,⟨o0,hp0,ho0⟩,hm,q⟩:=h;have nd:=Zv8.nd;refine⟨_,pS (sE 2 nd (Zbd Zaa))
   (pS (Zbh Yw rfl (Zca rfl range (pC (pv 1) Zaa)) (gE 3 nd)
    (Zac (Za4 (Zdg Ye1 Yn1 Yo1 Zbc (pv 2) (pC (Zae DW GW hr (pC (pv 0) (pC (pv 2) Zaa))) Zaa)))))
   (Zac (Zak (pv 2)))),?_⟩
  refine⟨Yj1 _,λl hl=>?_⟩;have lp:p≠l:=nNo hp0 hl;let Iv1:NW:=λi σ H'=>∃(ws:LS) (kv:OV),σ=[some (.ref p),some (.int m),some (.ref l),kv]/\Drawn p H H'/\H' l=some (.lst (ws.map V.str))/\Znq ws/\ws.length=i;refine⟨Z,m,Y,W,W,Za1 Zbq Iv1
   ⟨[],none,Y,(Drawn.refl ⟨o0,hp0,ho0⟩).new hl,uS,⟨(λ_ h=>nomatch h),Yi4⟩,Y⟩ (λ_ _ _ _ _=>trivial) ?_ ?_⟩
  ·rintro i v σ H' hi ⟨ws,kv,rfl,d,hw,ok,rfl⟩;obtain⟨hi,rfl⟩:=Za7 hi;refine⟨Z,.inl ⟨Y,_,SqL.of hw⟩,Z,Z,p,l,ws,Y,lp,d.pot,hw,ok,W,λx H2 d2 wx nx=>?_⟩;have hw2:H2 l=some (.lst (ws.map V.str)):=d2.keep _ _ (Yu lp) hw;refine⟨l,_,Z,Y,hw2,Zav (by rw[Ya];omega),?_⟩;refine⟨ws++[x],Z,?_,by rw[uS,Yr];rfl,⟨λy hy=>?_,?_⟩,by simp⟩
   ·refine(d.trans d2).sub (q:=l) (o':=.lst []) (λb o hb e=>by rw[Zab hb];exact e) hl lp
   ·rcases Yl.mp hy with hy | hy
    ·exact ok.word y hy
    ·rw[Ye.mp hy];exact wx
   ·rw[List.nodup_append];exact⟨ok.nd,by simp,λa ha b hb e=>nx (by rw[<- Ye.mp hb,<- e];exact ha)⟩
  ·rintro σ H' ⟨ws,kv,rfl,d,hw,ok,hlen⟩;rw[Za3]at hlen;exact⟨Z,q l ws H' d hl hw ok (by simpa using hlen)⟩
def Zdy(js:LN):LV:=js.map λ(j:Nat)=>V.int (j:Int)
structure Z79(k:Nat)(js:LN):Prop where
 below:∀ j∈js,j<k
 nd:js.Nodup
 few:js.length<=8
def Z54:Sp:=λvs H Q _=>∃(p:Addr) (k sh:Nat),vs=[.ref p,.int k,.int sh]/\(∃ o,H p=some o/\Zj4 o)/\k<=24 /\
 ∀ l (js:LN) H',Drawn p H H'->H' l=some (.lst (Zdy js))->Z79 k js->Q (.ref l) H'
structure Yed(mg:Str->OU):Prop where
 range:mg "range"=none
 int:mg "int"=none
def Z6c:Zah ["pot","k","shape","one","other","bits"] ["pot","k","shape"] (Zad Zds):=by nofun
abbrev Z94:LS:=["pot","k","shape","one","other","bits"]
def Yca:(["j"]:LS).Nodup:=by rfl'
def Z93:(["j","bits"]:LS).Nodup:=by rfl'
def okJ(v:V):Bool:=match v with | .int i=>decide (0<=i) | _=>false
def Zun:LV:=[.int 1,.int 2,.int 4,.int 8,.int 16,.int 32,.int 64,.int 128]
def Z8g(bits:Int)(v:V):Bool:=match v with
 | .int j=>decide (j<8)&&(match atI Zun j with | some (.int e)=>decide (bits / e % 2=1) | _=>false)
 | _=>false
def Z1k{j:Int}(h0:0<=j)(h1:j<8):∃ e:Int,atI Zun j=some (.int e)/\0<e/\e<1000:=by
 have:∀ i:_root_.Fin 8,∃ e:Int,atI Zun (i.1:Int)=some (.int e)/\0<e/\e<1000:=by
  intro i
  match i with
  | ⟨0,_⟩=>exact⟨1,Y,V,V⟩
  | ⟨1,_⟩=>exact⟨2,Y,V,V⟩
  | ⟨2,_⟩=>exact⟨4,Y,V,V⟩
  | ⟨3,_⟩=>exact⟨8,Y,V,V⟩
  | ⟨4,_⟩=>exact⟨16,Y,V,V⟩
  | ⟨5,_⟩=>exact⟨32,Y,V,V⟩
  | ⟨6,_⟩=>exact⟨64,Y,V,V⟩
  | ⟨7,_⟩=>exact⟨128,Y,V,V⟩
 have q:=this ⟨j.toNat,W⟩
 rwa [Yg2 h0]at q
def Zul(k:Nat)(p:V->Bool):∃ js:LN,(Zdo 0 k).filter p=Zdy js/\(∀ j∈js,j<k/\p (.int (j:Int))=true)/\js.Nodup:=by
 refine⟨(List.range k).filter λj=>p (.int (j:Int)),?_,λj hj=>?_,List.nodup_range.filter _⟩
 ·unfold Zdo Zdy;rw[List.filter_map];have e:((λ(j:Nat)=>V.int (0 + (j:Int))))=λ(j:Nat)=>V.int (j:Int):=by
   funext j
   rw[Yz4]
  rw[e];rfl
 ·obtain⟨h1,h2⟩:=Yr3.mp hj;exact⟨Yt2.mp h1,h2⟩
theorem Zko:∀ {xs ys:LV},Paired (λx v=>v=x) xs ys->ys=xs
 | _,_,.nil=>rfl
 | _,_,.cons h t=>by rw[h,Zko t]
def Z61(F:Def K mg "_law_ups" Zds ["pot","k","shape"] f fd)(DT:Def K mg "_law_take" Zbb ["pot","many"] fT fdT)(T:Yed mg):⋯ 2 f fd ["pot","k","shape"] Z54:=by
 have GT:⋯ 1 fT fdT ["pot","many"] Zgo:=Zkv DT
 nomatch F.fn.ok Z6c
 ·obtain⟨p,k,sh,rfl,_⟩:=h;rfl
 ·obtain⟨p,k,sh,rfl,⟨o0,hp0,ho0⟩,hk,q⟩:=h;have nd:=Z6c.nd
  ac_nf
  refine⟨_,pS (Za0 (Zan Zdk (pv 1) Zaf (Zar _)) (Zac (Zak (Zbd Zaa))) Zal)
   (pS (sE 3 nd (Zae DT GT hr (pC (pv 0) (pC (pv 1) Zaa))))
   (pS (sE 4 nd (Zae DT GT hr (pC (pv 0) (pC (pv 1) Zaa))))
   (pS (Za0 (Zan Zdk (pv 2) Zaf (Zar _)) (Zac (Zak (Zbd (pC (pv 3) Zaa)))) Zal)
   (pS (Za0 (Zan Zdk (pv 2) Zaf (Zar _)) (Zac (Zak (Zbs Zi2
     (Zbk ["j"] [] [] (λ_=>Zaw (osc:=Zad Zds) (on:=Z94) (by rfl') rfl rfl rfl) (Zgi (Zcs (pC (pv 3) (pC (pv 4) Zaa)))) (λC s H fp=>Zai (i:=0) Yca rfl (Or.inl rfl) (Or.inr rfl)) (λC s H fp=>Zbj) (λC s H fp=>pv 0))
     Zdj (Zbt (Zax Zcb Zaf (Za5 Zyq (by rfl) T.int Ye5 (pC (Zc1 Zor (pv 3) (pv 4) (Zar _)) Zaa))))))) Zal)
   (pS (Za0 (Zan Zdk (pv 2) Zaf (Zar _)) (Zac (Zak
     (Zbk ["j"] [] [] (λ_=>Zaw (osc:=Zad Zds) (on:=Z94) (by rfl') rfl rfl rfl) (Zgi (Zcs (pC (Zax Zhu (Zax Zhu (pv 1) Zaf) (Zax Zgv (pv 1) Zaf)) (pC (Zax Zhu (Zax Zhu (pv 1) Zaf) (Zax Zgv (pv 1) Zaf)) Zaa)))) (λC s H fp=>Zai (i:=0) Yca rfl (Or.inl rfl) (Or.inr rfl))
      (λC s H fp=>Zi5 (Zan Z6z (pv 0) Zaf (Zar _))) (λC s H fp=>pv 0)))) Zal)
   (pS (Za0 (Zan Zdk (pv 2) Zaf (Zar _)) (Zac (Zak (Zbd (pC (Zax Zhu (pv 1) Zaf) Zaa)))) Zal)
   (pS (Zag (i:=5) nd rfl (Or.inr rfl) (Zae DT GT hr (pC (pv 0) (pC Zaf Zaa))))
   (Zac (Zak (Zbk ["j"] ["bits"] [5] (λ_=>Zaw (osc:=Zad Zds) (on:=Z94) (by rfl') rfl rfl rfl) (Zca rfl T.range (pC (pv 1) Zaa)) (λC s H fp=>Zai (i:=0) Z93 rfl (Or.inl rfl) (Or.inr rfl))
    (λC s H fp=>Zi5 (PW.pt (Zl0 (Zan Zos (pv 0) Zaf (Zar _)) (Zi4 (Zan Zdk (Zax Zgv (Zax Zqv (pv 1) (Za2 (r:=Zj0 K) Zch (Zcs (pC Zaf (pC Zaf (pC Zaf (pC Zaf (pC Zaf (pC Zaf (pC Zaf (pC Zaf Zaa))))))))) (pv 0) (λ_ _=>rfl))) Zaf) Zaf (Zar _)))))) (λC s H fp=>pv 0))))))))))),?_⟩
  exists let b:=Zau _ a;let c:=_;let e:=Zau (Zlg _ c _) b;let f:=_;let g:=Zau (Zlg _ f _) e;let h:=_;let i:=Zau (Zlg _ h _) g;let j:=Zau _ i;let k:=Zau _ j;let l:=Zau _ k;Zau _ l _ _ _
  have dr:Drawn p H H:=Drawn.refl ⟨o0,hp0,ho0⟩;refine⟨Z,Y,Z,?_⟩;refine Ze1 (λh0=>?_) (λh0=>?_)
  ·exact⟨Yj1 _,λl hl=>q l [] _ (dr.new hl) uS ⟨(λ_ h=>nomatch h),Yi4,Yj1 _⟩⟩
  have hk0:0<k:=by
   refine Nat.pos_of_ne_zero λz=>h0 (Jb ?_);rw[z];rfl
  refine⟨Z,Z,p,k,o0,Y,hp0,ho0,W,W,λone o1 h10 h11 ho1=>?_⟩;refine⟨Z,Z,p,k,o1,Y,uS,ho1,W,W,λoth o2 h20 h21 ho2=>?_⟩;rw[Zgm];have d2:Drawn p H (upd H p o2):=Drawn.upd ho2;refine⟨Z,Y,Z,?_⟩;refine Ze1 (λ_=>?_) (λ_=>?_)
  ·refine⟨Z,O,λl hl=>q l [one.toNat] _ (d2.new hl) ?_ ⟨λj hj=>?_,by simp,by simp⟩⟩
   ·rw[uS];show some (HO.lst [V.int one])=some (HO.lst [V.int ((one.toNat:Nat):Int)]);rw[Yg2 h10]
   ·rw[Ye.mp hj];omega
  refine⟨Z,Y,Z,?_⟩;refine Ze1 (λ_=>?_) (λ_=>?_)
  ·-- [j for j in(one,other)][:1 + int(one != other)]
   refine⟨Z,Z,U,λt ht=>⟨t,Y,⟨_,SqT.of uS⟩,Zd9 (Zc9 (xs:=[V.int one,V.int oth])) (sL (by show 2<=100000;decide)) (λ_=>true) (λv=>v) (λD ys hD=>SqT.of (by rw[Zab (nNo uS hD)];exact uS)) ?_ ?_ ?_⟩⟩
   ·intro D ys x R _ _ hR;exact hR
   ·intro D ys x R _ _ _ hR;exact⟨Z,hR⟩
   ·intro D hD;have e2:([V.int one,V.int oth].filter λ_=>true).map (λv=>v)=[V.int one,V.int oth]:=rfl;rw[e2];have d4:Drawn p H (upd (upd (upd H p o2) t (.tup [V.int one,V.int oth])) D (.lst [V.int one,V.int oth])):=(d2.new ht).new hD;refine⟨Z,Z,Y,.inr ⟨Z,_,Z,Y,Z,D,Z,SqL.of uS,λl hl=>?_⟩⟩;by_cases he:one=oth
    ·have e3:(!decide (V.int one=V.int oth))=false:=by rw[he];simp
     rw[e3];refine q l [one.toNat] _ (d4.new hl) ?_ ⟨λj hj=>by rw[Ye.mp hj];omega,by simp,by simp⟩;rw[uS];show some (HO.lst [V.int one])=some (HO.lst [V.int ((one.toNat:Nat):Int)]);rw[Yg2 h10]
    ·have e3:(!decide (V.int one=V.int oth))=true:=by
      rw[Jc (λz=>he (by injection z))];rfl
     rw[e3];refine q l [one.toNat,oth.toNat] _ (d4.new hl) ?_ ⟨λj hj=>?_,?_,by simp⟩
     ·rw[uS];show some (HO.lst [V.int one,V.int oth])=some (HO.lst [V.int ((one.toNat:Nat):Int),V.int ((oth.toNat:Nat):Int)]);rw[Yg2 h10,Yg2 h20]
     ·rcases Yt.mp hj with e | e
      ·rw[e];omega
      ·rw[Ye.mp e];omega
     ·refine Yt1.mpr ⟨λz=>he ?_,by simp⟩;have:=Ye.mp z;omega
  refine⟨Z,Y,Z,?_⟩;refine Ze1 (λ_=>?_) (λ_=>?_)
  ·-- diamonds
   have hm0:=Yo4 (k:Int) (b:=2) (by decide);have hm1:=Yz3 (k:Int) (b:=2) (by decide);refine⟨Z,_,Z,Y,Z,_,Z,Y,(by show(0:Int)<2;decide),_,Z,Y,Z,_,Z,Y,Z,_,Z,Y,(by show(0:Int)<2;decide),_,Z,Y,U,λt ht=>⟨t,Y,⟨_,SqT.of uS⟩,
    Zd9 (Zc9 (xs:=[V.int ((k:Int) - 2 - (k:Int) % 2),V.int ((k:Int) - 1 - (k:Int) % 2)])) (sL (by show 2<=100000;decide)) okJ (λv=>v) (λD ys hD=>SqT.of (by rw[Zab (nNo uS hD)];exact uS)) ?_ ?_ ?_⟩⟩
   ·intro D ys x R _ hx hR;obtain⟨i,rfl⟩:∃ i,x=V.int i:=by
     rcases Yt.mp hx with e | e
     ·exact⟨_,e⟩
     ·exact⟨_,Ye.mp e⟩
    exact⟨Z,_,Z,Y,Z,hR⟩
   ·intro D ys x R _ _ _ hR;exact⟨Z,hR⟩
   ·intro D hD;have d4:=(d2.new (o:=.tup [V.int ((k:Int) - 2 - (k:Int) % 2),V.int ((k:Int) - 1 - (k:Int) % 2)]) ht).new (o:=.lst (([V.int ((k:Int) - 2 - (k:Int) % 2),V.int ((k:Int) - 1 - (k:Int) % 2)].filter okJ).map λv=>v)) hD;by_cases h2:2<=(k:Int) - (k:Int) % 2
    ·refine q D [((k:Int) - 2 - (k:Int) % 2).toNat,((k:Int) - 1 - (k:Int) % 2).toNat] _ d4 ?_ ⟨λj hj=>?_,?_,by simp⟩
     ·rw[uS];have a1:okJ (V.int ((k:Int) - 2 - (k:Int) % 2))=true:=Jb (by omega);have a2:okJ (V.int ((k:Int) - 1 - (k:Int) % 2))=true:=Jb (by omega);rw[Yj4,a1,if_pos rfl,Yj4,a2,if_pos rfl];show some (HO.lst [V.int _,V.int _])=some (HO.lst [V.int ((Int.toNat _:Nat):Int),V.int ((Int.toNat _:Nat):Int)]);rw[Yg2 (by omega),Yg2 (by omega)]
     ·rcases Yt.mp hj with e | e
      ·rw[e];omega
      ·rw[Ye.mp e];omega
     ·refine Yt1.mpr ⟨λz=>?_,by simp⟩;have:=Ye.mp z;omega
    ·refine q D [] _ d4 ?_ ⟨(λ_ h=>nomatch h),Yi4,Yj1 _⟩;rw[uS];have a1:okJ (V.int ((k:Int) - 2 - (k:Int) % 2))=false:=Jc (by omega);have a2:okJ (V.int ((k:Int) - 1 - (k:Int) % 2))=false:=Jc (by omega);rw[Yj4,a1,if_neg Yq,Yj4,a2,if_neg Yq];rfl
  refine⟨Z,Y,Z,?_⟩;refine Ze1 (λ_=>?_) (λ_=>?_)
  ·refine⟨Z,_,Z,Y,O,λl hl=>q l [k - 1] _ (d2.new hl) ?_ ⟨λj hj=>?_,by simp,by simp⟩⟩
   ·rw[uS];show some (HO.lst [V.int ((k:Int) - 1)])=some (HO.lst [V.int ((k - 1:Nat):Int)]);have:((k - 1:Nat):Int)=(k:Int) - 1:=by omega
    rw[this]
   ·rw[Ye.mp hj];omega
  refine⟨Z,p,256,o2,Y,uS,ho2,V,V,λbits o3 hb0 hb1 ho3=>?_⟩;rw[Zgm];have d3:Drawn p H (upd H p o3):=Drawn.upd ho3;refine⟨Z,(k:Int),Y,W,W,?_⟩;rw[show((k:Int)).toNat=k from rfl];refine Zhq Zbq (sL (by rw[Za3];omega)) (Z8g bits) (λ_ x v _=>v=x) (λ_ _ _ _ _ _ h=>h) (λ_ _=>trivial) ?_ ?_ ?_
  ·intro x H2 R hs hx hR;obtain⟨i,hi⟩:=Yy3.mp hx;obtain⟨hik,rfl⟩:=Za7 hi;refine⟨Z,_,Z,Y,Z,?_⟩;refine Ze1 (λh8=>?_) (λh8=>?_)
   ·have h8:(0:Int) + (i:Int)<8:=Je h8;obtain⟨e,he,he0,he1⟩:=Z1k (j:=(0:Int) + (i:Int)) (by omega) h8;refine⟨Z,sL (by show 8<=100000;decide),λt ht=>⟨Z,t,Zun,_,Z,Y,SqT.of uS,he,_,Z,Y,⟨he0,W⟩,_,Z,Y,(by show(0:Int)<2;decide),Y,Z,?_⟩⟩;have e1:Z8g bits (V.int (0 + (i:Int)))=decide (V.int (bits / e % 2)=V.int 1):=by
     show(decide ((0:Int) + (i:Int)<8)&&(match atI Zun (0 + (i:Int))with | some (.int e)=>decide (bits / e % 2=1) | _=>false))=_;rw[he,Jb h8,Yi2];show decide (bits / e % 2=1)=_;rw[decide_eq_decide];constructor
     ·intro z;rw[z]
     ·intro z;injection z
    have:=hR (upd H2 t (.tup Zun)) λb o e=>by rw[Zab (nNo e ht)];exact e
    rw[e1]at this;exact this
   ·have h8:¬ ((0:Int) + (i:Int)<8):=λz=>h8 (Jb z);have e1:Z8g bits (V.int (0 + (i:Int)))=false:=by
     show(decide ((0:Int) + (i:Int)<8)&&_)=false;rw[Jc h8,Yo3]
    have:=hR H2 (Zaj.refl _);rw[e1]at this;exact this
  ·intro D x H2 R hs _ _ hx _ hR;exact⟨Z,hR x H2 (Zaj.refl _) rfl⟩
  ·intro D H2 ys hD hs hl hp;have e:=Zko hp;subst e;obtain⟨js,e,hj,hnd⟩:=Zul k (Z8g bits);refine q D js H2 (d3.same hs) (by rw[hl,e]) ⟨λj h=>(hj j h).1,hnd,?_⟩;have:=Graph.nodup_le (l:=js) (k:=List.range 8) hnd λj h=>by
    have h2:(decide ((j:Int)<8)&&_)=true:=(hj j h).2;have h3:=(Yl1 _ _ ▸ h2:_/\_).1;have h4:(j:Int)<8:=Je h3;exact Yt2.mpr (by omega)
   simpa using this
def Zvn:Sp:=λvs H Q _=>∃(p:Addr) (m:Nat),vs=[.ref p,.int m]/\(∃ o,H p=some o/\Zj4 o)/\1<=m/\m<=24 /\
 ∀ l (rows:RS) H',Drawn p H H'->H l=none->Ze3 H' l rows->Zc4 rows->rows.length<=m->Q (.ref l) H'
def wAt(ws:LS):V->V
 | .int j=>.str (ws.getD j.toNat "")
 | _=>.non
def Zzg(ws:LS)(js:LN):(Zdy js).map (wAt ws)=(js.map λi=>ws.getD i "").map V.str:=by
 unfold Zdy;rw[Ye2,Ye2];rfl
def Zyu{ws:LS}{j:Nat}(h:j<ws.length):atI (ws.map V.str) (j:Int)=some (.str (ws.getD j "")):=by
 have e:(ws.map V.str)[j]?=some (V.str (ws.getD j "")):=by
  rw[Yj,Yo,Yb h];rfl
 exact Zbl e
def Zrb(m:Nat):Zdo 0 m=Zdy (List.range m):=by
 unfold Zdo Zdy;refine Yt3 λj _=>?_;rw[Yz4]
def Znp{α:Type}(l:List α):l.filter (λ_=>true)=l:=Yr2.mpr λ_ _=>rfl
def UpV(ws:LS)(H:Hp)(js:LN)(v:V):Prop:=∃ t,v=.ref t/\H t=some (.tup ((js.map λi=>ws.getD i "").map V.str))
def UpV.mono{ws:LS}{H H':Hp}{js:LN}{v:V}(h:UpV ws H js v)(k:∀ b xs,H b=some (.tup xs)->H' b=some (.tup xs)):UpV ws H' js v:=by
 obtain⟨t,e,h⟩:=h;exact⟨t,e,k _ _ h⟩
theorem Zcf{α β:Type}{F:α->β->Prop}:∀ {l:List α}{k:List β},Paired F l k->∀ {i:Nat}{a:α},l[i]?=some a->∃ b,k[i]?=some b/\F a b
 | _,_,.nil,i,a,h=>by simp at h
 | _,_,.cons r t,0,a,h=>by simp at h;subst h;exact⟨Z,r⟩
 | _,_,.cons r t,i + 1,a,h=>by
  obtain⟨b,h1,h2⟩:=Zcf t (i:=i) (a:=a) (by simpa using h);exact⟨b,by simpa using h1,h2⟩
def Zna{H:Hp}{D b:Addr}{o u:HO}(hD:H D=none)(e:H b=some o):(upd H D u) b=some o:=by rw[Zab (nNo e hD)];exact e
theorem Zkp{ws:LS}{uf:List (LN)}{D:Addr}{H:Hp}:∀ {os:LN}{ys:LV},
  Paired (λx v=>∃(j:Nat) (t u:Addr),x=V.int (j:Int)/\v=.ref t/\t≠D/\u≠D/\H t=some (.tup [.str (ws.getD j ""),.ref u])/\H u=some (.tup (((uf.getD j []).map λi=>ws.getD i "").map V.str))) (Zdy os) ys->Paired (Z5e H) (Zie ws uf os) ys
 | [],_,h=>by cases h;exact .nil
 | j :: os,_,h=>by
  cases h with
  | cons r t =>
   obtain⟨i,a,u,e,rfl,_,_,h3,h4⟩:=r;have e':(j:Int)=(i:Int):=by injection e
   have e'':j=i:=by omega
   subst e'';exact .cons ⟨a,u,Y,h3,h4⟩ (Zkp t)
structure Yaw(p lw lo lu:Addr)(ws:LS)(H H':Hp)(i:Nat)(os:LN)(uf:List (LN))(us:LV):Prop where
 d:Drawn p H H'
 w:H' lw=some (.lst (ws.map V.str))
 o:H' lo=some (.lst (Zdy os))
 u:H' lu=some (.lst us)
 pu:Paired (UpV ws H') uf us
 ul:uf.length=i
 uok:∀(k:Nat) (js:LN),uf[k]?=some js->Z79 k js
 on:os.Nodup
 om:∀ j,j∈os↔j<i
 ol:os.length=i
def Z92:(["j","words"]:LS).Nodup:=by rfl'
def Z7e:(["k","words","ups"]:LS).Nodup:=by rfl'
structure Yck(mg:Str->OU):Prop where
 range:mg "range"=none
 int:mg "int"=none
 len:mg "len"=none
 tuple:mg "tuple"=none
 list:mg "list"=none
abbrev Z4c:LS:=["pot","most","many","words","shape","order","ups","k"]
def Z2j:Zah Z4c ["pot","most"] (Zad Zdu):=by nofun
def Zsm(F:Def K mg "_law_rows" Zdu ["pot","most"] f fd)(DT:Def K mg "_law_take" Zbb ["pot","many"] fT fdT)(DU:Def K mg "_law_ups" Zds ["pot","k","shape"] fU fdU)
  (DWs:Def K mg "_law_words" Zfa ["pot","many"] fWs fdWs) (DW:Def K mg "_law_word" Zba ["pot","words"] fW fdW) (DL:Def K mg "_law_letters" Zce ["number"] fL fdL) (T:Yck mg):⋯ 4 f fd ["pot","most"] Zvn:=by
 have GT:⋯ 1 fT fdT ["pot","many"] Zgo:=Zkv DT;have GU:⋯ 2 fU fdU ["pot","k","shape"] Z54:=Z61 DU DT ⟨T.range,T.int⟩;have GW:⋯ 3 fWs fdWs ["pot","many"] Zvi:=Zz2 DWs DW DT DL T.len T.range
 nomatch F.fn.ok Z2j
 ·obtain⟨p,m,rfl,_⟩:=h;rfl
 ·obtain⟨p,most,rfl,⟨o0,hp0,ho0⟩,hm1,hm24,q⟩:=h;have nd:=Z2j.nd;have hr1:Zci 1 _:=hr.mono (by decide);have hr2:Zci 2 _:=hr.mono (by decide)
  ac_nf
  refine⟨_,pS (sE 2 nd (Zax Zcb Zaf (Zae DT GT hr1 (pC (pv 0) (pC (pv 1) Zaa)))))
   (pS (Zag (i:=3) nd rfl (Or.inr rfl) (Zae DWs GW hr (pC (pv 0) (pC (pv 2) Zaa))))
   (pS (sE 4 nd (Zae DT GT hr1 (pC (pv 0) (pC Zaf Zaa))))
   (pS (sE 5 nd (Zbd Zaa))
   (pS (Zag (i:=6) nd rfl (Or.inr rfl) (Zbd Zaa))
   (pS (Zbh Yw rfl (Zca (by rfl) T.range (pC (pv 2) Zaa)) (gE 7 nd)
    (pS (Za4 (Zdg Ye1 Yn1 Yo1 Zbc (pv 6) (pC (Za5 Za9 (by rfl) T.tuple Yu1 (pC
     (Zbk ["j"] ["words"] [3] (λ_=>Zaw (osc:=Zad Zdu) (on:=Z4c) (by rfl') rfl rfl rfl) (Zbr (Zae DU GU hr2 (pC (pv 0) (pC (pv 7) (pC (pv 4) Zaa))))) (λC s H fp=>Zai (i:=0) Z92 rfl (Or.inl rfl) (Or.inr rfl)) (λC s H fp=>Zbj)
      (λC s H fp=>Za2 (r:=Zhs K) Zat (pv 1) (pv 0) (λ_ _=>rfl))) Zaa)) Zaa)))
    (Zac (Za4 (Zdg Ye1 PySem.F.slot_list_insert PySem.F.type_list_insert Zpc (pv 5) (pC (Zae DT GT hr1 (pC (pv 0) (pC (Zax Zcb (pv 7) Zaf) Zaa))) (pC (pv 7) Zaa)))))))
   (Zgd (Za0 (Zan Zdk (Zae DT GT hr1 (pC (pv 0) (pC Zaf Zaa))) Zaf (Zar _)) (Zac (sE 5 nd (Zom rfl (pv 2) (by rfl) T.list (by rfl) T.range))) Zal)
   (Zac (Zak (Zbk ["k"] ["words","ups"] [3,6] (λ_=>Zaw (osc:=Zad Zdu) (on:=Z4c) (by rfl') rfl rfl rfl) (Zbr (pv 5)) (λC s H fp=>Zai (i:=0) Z7e rfl (Or.inl rfl) (Or.inr rfl)) (λC s H fp=>Zbj)
    (λC s H fp=>Zcs (pC (Za2 (r:=Zhs K) Zat (pv 1) (pv 0) (λ_ _=>rfl)) (pC (Za2 (r:=Zhs K) Zat (pv 2) (pv 0) (λ_ _=>rfl)) Zaa)))))))))))),?_⟩
  exists let b:=_;let c:=Z51 (Zlg _ b _) a;let e:=_;let f:=Zau _ e;let g:=Zau (Zh3 _ _ f) c;let h:=Zau _ g;let i:=Zau _ h;let j:=Zau _ i;let k:=Zau _ j;Zau _ k _ _ _
  refine⟨Z,Z,p,most,o0,Y,hp0,ho0,W,W,λv o1 hv0 hv1 ho1=>⟨_,Z,Y,?_⟩⟩;have hv:(1:Int) + v=((1 + v.toNat:Nat):Int):=by omega
  have d1:Drawn p H (upd H p o1):=Drawn.upd ho1;refine⟨Z,Z,p,1 + v.toNat,(by show[V.ref p,V.int (1 + v)]=[V.ref p,V.int ((1 + v.toNat:Nat):Int)];rw[<- hv]),d1.pot,W,λlw ws H2 d2 hlw hw ok hwl=>?_⟩;have hlw0:H lw=none:=by
   cases e:H lw with
   | none=>rfl
   | some o =>
    by_cases z:lw=p
    ·rw[z]at hlw;rw[uS]at hlw;cases hlw
    ·rw[d1.keep lw o z e]at hlw;cases hlw
  have d12:=d1.trans d2;obtain⟨o2,hp2,ho2⟩:=d2.pot;have pw:p≠lw:=Z38 hp2 hw (by
   obtain⟨r,b,e,_⟩:=ho2;rw[e];intro z;injection z with z;have z2:=congrArg (λl=>l[0]?) z;cases ws with
   | nil=>simp at z2
   | cons x r=>simp at z2)
  refine⟨Z,p,5,o2,Y,hp2,ho2,V,V,λsh o3 hs0 hs1 ho3=>?_⟩;have d3:Drawn p H (upd H2 p o3):=d12.trans (Drawn.upd ho3);refine⟨Yj1 _,λlo hlo=>⟨Yj1 _,λlu hlu=>?_⟩⟩;have d5:Drawn p H (upd (upd (upd H2 p o3) lo (.lst [])) lu (.lst [])):=(d3.new hlo).new hlu;have w5:(upd (upd (upd H2 p o3) lo (.lst [])) lu (.lst [])) lw=some (.lst (ws.map V.str)):=by
   have a1:(upd H2 p o3) lw=some (.lst (ws.map V.str)):=by rw[Zab (Yu pw)];exact hw
   have a2:(upd (upd H2 p o3) lo (.lst [])) lw=some (.lst (ws.map V.str)):=by rw[Zab (nNo a1 hlo)];exact a1
   rw[Zab (nNo a2 hlu)];exact a2
  have o5:(upd (upd (upd H2 p o3) lo (.lst [])) lu (.lst [])) lo=some (.lst (Zdy [])):=by
   rw[Zab (nNo uS hlu)];exact uS
  have plo:p≠lo:=nNo (show(upd H2 p o3) p=some o3 from uS) hlo;have plu:p≠lu:=nNo (show(upd (upd H2 p o3) lo (.lst [])) p=some o3 by rw[Zab plo];exact uS) hlu;have lou:lo≠lu:=nNo uS hlu;have lwo:lw≠lo:=λz=>by
   have a1:(upd H2 p o3) lw=some (.lst (ws.map V.str)):=by rw[Zab (Yu pw)];exact hw
   rw[z,hlo]at a1;cases a1
  have lwu:lw≠lu:=λz=>by
   have a1:(upd H2 p o3) lw=some (.lst (ws.map V.str)):=by rw[Zab (Yu pw)];exact hw
   have a2:(upd (upd H2 p o3) lo (.lst [])) lw=some (.lst (ws.map V.str)):=by rw[Zab lwo];exact a1
   rw[z,hlu]at a2;cases a2
  have hloH:H lo=none:=by
   cases e:H lo with
   | none=>rfl
   | some o=>rw[d3.keep lo o (Yu plo) e]at hlo;cases hlo
  have hluH:H lu=none:=by
   cases e:H lu with
   | none=>rfl
   | some o=>rw[(d3.new (o:=.lst []) hlo).keep lu o (Yu plu) e]at hlu;cases hlu
  refine⟨Z,(1:Int) + v,Y,W,W,?_⟩;have hmn:((1:Int) + v).toNat=ws.length:=by omega
  rw[hmn];let Iv1:NW:=λi σ H'=>∃(os:LN) (uf:List (LN)) (us:LV) (kv:OV),σ=[some (.ref p),some (.int most),some (.int (1 + v)),some (.ref lw),some (.int sh),some (.ref lo),some (.ref lu),kv]/\Yaw p lw lo lu ws H H' i os uf us;refine Za1 Zbq Iv1
   ⟨[],[],[],none,Y,d5,w5,o5,uS,.nil,Y,λk js h=>by simp at h,Yi4,λj=>by simp,Y⟩ (λ_ _ _ _ _=>trivial) ?_ ?_
  ·rintro i x σ H' hi ⟨os,uf,us,kv,rfl,g⟩;obtain⟨hi,rfl⟩:=Za7 hi;have hul:us.length=i:=by rw[<- g.pu.length];exact g.ul
   refine⟨Z,.inl ⟨Y,_,SqL.of g.u⟩,Z,Z,Z,p,i,sh.toNat,by rw[Yz4,Yg2 hs0];rfl,g.d.pot,W,λl js H6 d6 hl uok=>⟨l,Y,⟨_,SqL.of hl⟩,?_⟩⟩;have w6:H6 lw=some (.lst (ws.map V.str)):=d6.keep _ _ (Yu pw) g.w;refine Zd9 (Za8 (xs:=Zdy js)) (sL (by unfold Zdy;rw[Ya];have:=uok.few;omega)) (λ_=>true) (wAt ws) (λD ys hD=>SqL.of (by rw[Zab (nNo hl hD)];exact hl)) ?_ ?_ ?_
   ·intro D ys y R _ _ hR;exact hR
   ·intro D ys y R hD hy _ hR;obtain⟨j,hj,rfl⟩:=Yh.mp hy;have hjl:j<ws.length:=by have:=uok.below j hj;omega
    exact⟨Z,Z,lw,_,_,Z,Y,SqL.of (by rw[Zab (nNo w6 hD)];exact w6),Zyu hjl,hR⟩
   ·intro D hD;rw[Znp,Zzg];refine⟨D,Z,.inl ⟨SqL.of uS,λt ht=>?_⟩⟩;have keepDt:∀ b o,H6 b=some o->(upd (upd H6 D (.lst ((js.map λi=>ws.getD i "").map V.str))) t (.tup ((js.map λi=>ws.getD i "").map V.str))) b=some o:=λb o e=>by
     have e1:(upd H6 D (.lst ((js.map λi=>ws.getD i "").map V.str))) b=some o:=by rw[Zab (nNo e hD)];exact e
     rw[Zab (nNo e1 ht)];exact e1
    have u6:H6 lu=some (.lst us):=d6.keep _ _ (Yu plu) g.u;have o6:H6 lo=some (.lst (Zdy os)):=d6.keep _ _ (Yu plo) g.o;refine⟨lu,us,Z,Y,keepDt _ _ u6,Zav (by omega),?_⟩;obtain⟨o7,hp7,ho7⟩:=d6.pot;refine⟨Z,.inl ⟨Y,_,SqL.of (by rw[Zab lou];exact keepDt _ _ o6)⟩,Z,Z,_,Z,Y,p,_,o7,Y,(by rw[Zab plu];exact keepDt _ _ hp7),ho7,W,W,λat_ o8 ha0 ha1 ho8=>?_⟩;refine⟨Z,lo,Zdy os,at_,Z,Y,(by rw[Zab (Yu plo),Zab lou];exact keepDt _ _ o6),ha0,(by unfold Zdy;rw[Ya,g.ol];omega),Zav (by unfold Zdy;rw[Ya,g.ol];omega),?_⟩;have tlu:t≠lu:=λz=>by rw[z]at ht;rw[Zna hD u6]at ht;cases ht
    have tlo:t≠lo:=λz=>by rw[z]at ht;rw[Zna hD o6]at ht;cases ht
    have tp:t≠p:=λz=>by rw[z]at ht;rw[Zna hD hp7]at ht;cases ht
    have all:∀ b o,b≠p->b≠lu->b≠lo->H6 b=some o->(upd (upd (upd (upd (upd H6 D (.lst ((js.map λi=>ws.getD i "").map V.str))) t (.tup ((js.map λi=>ws.getD i "").map V.str))) lu (.lst (us++[.ref t]))) p o8) lo (.lst ((Zdy os).take at_.toNat++V.int (0 + (i:Int)):: (Zdy os).drop at_.toNat))) b=some o:=λb o h1 h2 h3 e=>by
     rw[Zab h3,Zab h1,Zab h2];exact keepDt _ _ e
    have tt:(upd (upd (upd (upd (upd H6 D (.lst ((js.map λi=>ws.getD i "").map V.str))) t (.tup ((js.map λi=>ws.getD i "").map V.str))) lu (.lst (us++[.ref t]))) p o8) lo (.lst ((Zdy os).take at_.toNat++V.int (0 + (i:Int)):: (Zdy os).drop at_.toNat))) t=some (.tup ((js.map λi=>ws.getD i "").map V.str)):=by
     rw[Zab tlo,Zab tp,Zab tlu];exact uS
    have tups:∀ b xs,H' b=some (.tup xs)->(upd (upd (upd (upd (upd H6 D (.lst ((js.map λi=>ws.getD i "").map V.str))) t (.tup ((js.map λi=>ws.getD i "").map V.str))) lu (.lst (us++[.ref t]))) p o8) lo (.lst ((Zdy os).take at_.toNat++V.int (0 + (i:Int)):: (Zdy os).drop at_.toNat))) b=some (.tup xs):=λb xs e=>by
     obtain⟨oP,hP,r,b',eP,_⟩:=g.d.pot;have bp:b≠p:=λz=>by rw[z,hP,eP]at e;cases e
     have bu:b≠lu:=λz=>by rw[z,g.u]at e;cases e
     have bo:b≠lo:=λz=>by rw[z,g.o]at e;cases e
     exact all b _ bp bu bo (d6.keep b _ bp e)
    refine⟨os.take at_.toNat++i :: os.drop at_.toNat,uf++[js],us++[.ref t],Z,?_⟩;refine⟨⟨λb o hb e=>?_,?_⟩,?_,?_,?_,?_,by rw[Yc,g.ul];rfl,?_,?_,?_,?_⟩
    ·have e6:=(g.d.trans d6).keep b o hb e;exact all b o hb (λz=>by rw[z,hluH]at e;cases e) (λz=>by rw[z,hloH]at e;cases e) e6
    ·exact⟨o8,by rw[Zab plo];exact uS,ho8⟩
    ·exact all lw _ (Yu pw) lwu lwo w6
    ·rw[uS];unfold Zdy;rw[Yr,Yz,List.map_take,List.map_drop,Yz4]
    ·rw[Zab (Yu lou),Zab (Yu plu)];exact uS
    ·exact Yn2 (Paired.mapP g.pu λa b z=>z.mono tups) ⟨t,Y,tt⟩
    ·intro k js' hk;by_cases hki:k<uf.length
     ·rw[Yi3 hki]at hk;exact g.uok k js' hk
     ·rw[Yh2 (by omega)]at hk;have hk0:k - uf.length=0:=by
       have:=(Yi.mp hk).1;simp at this;omega
      rw[hk0]at hk;have e:js=js':=by simpa using hk
      have e2:k=i:=by have:=g.ul;omega
      rw[<- e,e2];exact uok
    ·have hperm:(os.take at_.toNat++i :: os.drop at_.toNat).Perm (i :: os):=by
      refine List.perm_middle.trans ?_;rw[Yk3]
     exact hperm.nodup_iff.mpr (Yt1.mpr ⟨λz=>by have:=(g.om i).mp z;omega,g.on⟩)
    ·intro j;have hperm:(os.take at_.toNat++i :: os.drop at_.toNat).Perm (i :: os):=by
      refine List.perm_middle.trans ?_;rw[Yk3]
     rw[hperm.mem_iff,Yt,g.om];omega
    ·have hperm:(os.take at_.toNat++i :: os.drop at_.toNat).Perm (i :: os):=by
      refine List.perm_middle.trans ?_;rw[Yk3]
     rw[hperm.length_eq,Yv,g.ol]
  ·rintro σ H' ⟨os,uf,us,kv,rfl,g⟩;rw[Za3]at g;let Hv1:SW:=λσ' H2=>∃(lo':Addr) (os':LN) (kv:OV),σ'=[some (.ref p),some (.int most),some (.int (1 + v)),some (.ref lw),some (.int sh),some (.ref lo'),some (.ref lu),kv]/\Drawn p H H2/\H2 lw=some (.lst (ws.map V.str))/\H2 lo'=some (.lst (Zdy os'))/\H2 lu=some (.lst us)/\Paired (UpV ws H2) uf us/\os'.Nodup/\(∀ j,j∈os'↔j<ws.length)/\os'.length=ws.length;refine⟨Hv1,?_,?_⟩
   ·obtain⟨oP,hP,hoP⟩:=g.d.pot;refine⟨Z,p,3,oP,Y,hP,hoP,V,V,λv3 o9 _ _ ho9=>⟨Y,Z,?_⟩⟩;have d9:Drawn p H (upd H' p o9):=g.d.trans (Drawn.upd ho9);have t9:∀ b xs,H' b=some (.tup xs)->(upd H' p o9) b=some (.tup xs):=λb xs e=>by
     obtain⟨r,b',eP,_⟩:=hoP;rw[Zab (λz=>by rw[z,hP,eP]at e;cases e)];exact e
    refine Ze1 (λ_=>?_) (λ_=>?_)
    ·refine⟨Z,(1:Int) + v,Y,W,W,λl hl=>?_⟩;rw[hmn,Zrb];have nn:∀ {b:Addr} {o:HO},(upd H' p o9) b=some o->(upd (upd H' p o9) l (.lst (Zdy (List.range ws.length)))) b=some o:=λ{b o} e=>by rw[Zab (nNo e hl)];exact e
     exact⟨l,List.range ws.length,Z,d9.new hl,nn (by rw[Zab (Yu pw)];exact g.w),uS,nn (by rw[Zab (Yu plu)];exact g.u),Paired.mapP g.pu λa b z=>(z.mono t9).mono λb xs e=>nn e,List.nodup_range,λj=>Yt2,by simp⟩
    ·exact⟨lo,os,Z,d9,by rw[Zab (Yu pw)];exact g.w,by rw[Zab (Yu plo)];exact g.o,by rw[Zab (Yu plu)];exact g.u,Paired.mapP g.pu λa b z=>z.mono t9,g.on,g.om,g.ol⟩
   ·rintro σ' H2 ⟨lo',os',kv',rfl,dE,wE,oE,uE,pE,on,om,ol⟩;refine⟨Z,lo',Y,⟨_,SqL.of oE⟩,?_⟩;refine Zhq (Za8 (xs:=Zdy os')) (sL (by unfold Zdy;rw[Ya];omega)) (λ_=>true)
     (λD x v H=>∃(j:Nat) (t u:Addr),x=.int (j:Int)/\v=.ref t/\t≠D/\u≠D/\H t=some (.tup [.str (ws.getD j ""),.ref u])/\H u=some (.tup (((uf.getD j []).map λi=>ws.getD i "").map V.str))) ?_ ?_ ?_ ?_ ?_
    ·rintro D x v H H'' hk ⟨j,t,u,e1,e2,h1,h2,h3,h4⟩;exact⟨j,t,u,e1,e2,h1,h2,hk _ _ h1 h3,hk _ _ h2 h4⟩
    ·intro H3 hs;exact hs.seq (SqL.of oE)
    ·intro x H3 R hs hx hR;exact hR H3 (Zaj.refl _)
    ·intro D x H3 R hs ⟨ys,hD⟩ hD0 hx _ hR;obtain⟨j,hj,rfl⟩:=Yh.mp hx;have hjl:j<ws.length:=(om j).mp hj;have huj:uf[j]?=some (uf.getD j []):=by
      have:j<uf.length:=by rw[g.ul];exact hjl
      rw[Yo,Yb this];rfl
     obtain⟨uv,hu1,t,rfl,hu2⟩:=Zcf pE huj;have hu3:=hs _ _ hu2;refine⟨Z,Z,lw,_,_,Z,Y,SqL.of (hs _ _ wE),Zyu hjl,Z,Z,lu,_,_,Z,Y,SqL.of (hs _ _ uE),Zbl hu1,U,λtn htn=>?_⟩;have tD:tn≠D:=λz=>by rw[z,hD]at htn;cases htn
     have uD:t≠D:=λz=>by rw[z,hD]at hu3;cases hu3
     exact hR _ _ (λb o e=>by rw[Zab (nNo e htn)];exact e) ⟨j,tn,t,Y,Y,tD,uD,uS,by rw[Zab (nNo hu3 htn)];exact hu3⟩
    ·intro D H3 ys hD hs hl hp;rw[Znp]at hp;have hDH:H D=none:=by
      cases e:H D with
      | none=>rfl
      | some o =>
       by_cases z:D=p
       ·obtain⟨oP,hP,_⟩:=dE.pot;rw[z,hP]at hD;cases hD
       ·rw[dE.keep D o z e]at hD;cases hD
     refine q D (Zie ws uf os') H3 (dE.same hs) hDH ⟨ys,hl,?_⟩ (Z4o (m:=ws.length) (by omega) (by omega) ok.word ok.nd rfl (λk js h=>⟨(g.uok k js h).below,(g.uok k js h).nd,(g.uok k js h).few⟩) g.ul on om ol) (by unfold Zie;rw[Ya];omega);exact Zkp hp
def Zg6:Sp:=λvs H Q _=>∃ x:Str,vs=[.str x]/\x.length<=1000/\∀ H',Zaj H H'->Q (.bl (Zam x)) H'
def Zj9(K:Fg):Sp:=λvs H Q _=>∃(l:Addr) (rows:RS),vs=[.ref l]/\Zrm K H l rows/\Zc4 rows/\∀ H',Zaj H H'->Q .non H'
structure Zln(H:Hp)(d:Addr)(o:Obj)(rows:RS)(kvs:KL):Prop where
 at_:H d=some (.frz o (.dK kvs))
 ups:Znv H rows kvs
theorem Zln.mono{H H':Hp}{d:Addr}{o:Obj}{rows:RS}{kvs:KL}(b:Zln H d o rows kvs)(s:Zaj H H'):Zln H' d o rows kvs:=⟨s _ _ b.at_,b.ups.mono λ_ _ e=>s _ _ e⟩
def Zlv:Sp:=λvs H Q _=>∃(d:Addr) (o:Obj) (rows:RS) (kvs:KL),vs=[.ref d]/\Zln H d o rows kvs/\Zc4 rows/\∀ H',Zaj H H'->Q .non H'
def Zjq(us left:LS):V:=match us.find? (λx=>decide (x∈left))with | some x=>.str x | none=>.non
def Zvr(K:Fg):Sp:=λvs H Q _=>∃(a b:Addr) (us left:LS),vs=[.ref a,.ref b]/\SqT K H a (us.map V.str)/\SqL K H b (left.map V.str)/\Q (Zjq us left) H
def Zoe:Sp:=λvs H Q _=>∃(d:Addr) (o:Obj) (rows:RS) (kvs:KL),vs=[.ref d]/\Zln H d o rows kvs/\Zc4 rows/\∀ l H',Zaj H H'->H' l=some (.lst [])->Q (.ref l) H'
def Z19:Sp:=λvs H Q _=>∃(d:Addr) (o:Obj) (rows:RS) (kvs:KL),vs=[.ref d]/\Zln H d o rows kvs/\Zc4 rows/\∀ H',Zaj H H'->Q .non H'
structure Z5b(mg:Str->OU):Prop where
 letters:∃ t,mg "LETTERS"=some (.str letters t)
 most:∃ t,mg "MOST_LETTERS"=some (.int 8 t)
 kinds:∃ t,mg "MOST_KINDS"=some (.int 24 t)
 ups:∃ t,mg "MOST_UPS"=some (.int 8 t)
 len:mg "len"=none
 all:mg "all"=none
 list:mg "list"=none
 tuple:mg "tuple"=none
def scW:Zah ["text"] ["text"] (Zad Zc5):=by nofun
def Zxe:(["sign"]:LS).Nodup:=by rfl'
def Zik(F:Def K mg "is_word" Zc5 ["text"] f fd)(T:Z5b mg):⋯ 1 f fd ["text"] Zg6:=by
 nomatch F.fn.ok scW
 ·obtain⟨x,rfl,_⟩:=h;rfl
 ·obtain⟨x,rfl,hx,k⟩:=h;obtain⟨t1,hl⟩:=T.letters;obtain⟨t2,hm⟩:=T.most
  ac_nf
  refine⟨_,pS (Za0 (Zcr (Zj1 Zjt Zjt Zaf (Zao Zb8 (by rfl) T.len Yg1 (pC (pv 0) Zaa)) (Zdw (v:=.int 8) (by rfl) hm ⟨Z⟩))) (Zac (Zak Zge)) Zal)
   (Zac (Zak (Zao (Zit rfl) (by rfl) T.all Yp4 (pC
    (Zbk ["sign"] [] [] (λ_=>Zaw (osc:=Zad Zc5) (on:=["text"]) (by rfl') rfl rfl rfl) (Z2k (pv 0)) (λC s H fp=>Zai (i:=0) Zxe rfl (Or.inl rfl) (Or.inr rfl)) (λC s H fp=>Zbj)
     (λC s H fp=>Zc1 Zot (pv 0) (Zdw (v:=.str letters) (by rfl) hl ⟨Z⟩) (by with_unfolding_all rfl))) Zaa)))),?_⟩
  exists Zau _ a _ _ _
  refine⟨Z,_,Z,⟨sL (by omega),Y⟩,_,Z,Y,Z,?_⟩;have no:¬ (1<=x.length/\x.length<=8)->Zam x=false:=λh=>by unfold Zam;rw[Jc h];rfl
  have same:Zaj H H:=Zaj.refl H;refine Ze1 (λh1=>?_) (λh1=>?_)
  ·have h1:(1:Int)<=(x.length:Int):=Je h1;refine⟨_,Z,Y,Z,?_⟩;refine Ze1 (λh2=>?_) (λh2=>?_)
   ·have h2:¬ ((x.length:Int)<=8):=by simpa using h2
    have q:=k H same;rw[no (by omega)]at q;exact q
   ·have h2:((x.length:Int)<=8):=by simpa using h2
    refine⟨Z,Z,Zd9 Zr8 (by unfold Zb9;rw[Ya,Zbx];exact sL (by omega)) (λ_=>true) Z4m (λ_ _ _=>trivial) ?_ ?_ ?_⟩
    ·intro D ys v R _ _ hR;exact hR
    ·intro D ys v R _ hv _ hR;obtain⟨c,_,e⟩:=Yh.mp hv;subst e;exact⟨Z,_,Z,Y,hR⟩
    ·intro D hD;refine⟨D,x.cps.toList.map Zjd,Y,SqL.of (by rw[<- Zv2];exact uS),?_⟩;have e:(x.cps.toList.map Zjd).all id=Zam x:=by
      unfold Zam;rw[Jb (by omega),Yi2,List.all_map];rfl
     have q:=k (upd H D (.lst (((Zb9 x).filter λ_=>true).map Z4m))) λb o hb=>by rw[Zab (nNo hb hD)];exact hb
     rw[<- e]at q;exact q
  ·have h1:¬ ((1:Int)<=(x.length:Int)):=λz=>h1 (Jb z);refine⟨Z,?_⟩;refine Ze5 ?_;have q:=k H same;rw[no (by omega)]at q;exact q
def Zm9{b:Bool}{H:Hp}{a:Addr}{xs:LV}(h:SqB K b H a xs):Yco K (.ref a) H xs.length:=by
 cases b with
 | true=>exact .inl ⟨xs,h,Y⟩
 | false=>exact .inr ⟨xs,h,Y⟩
def Yb2:Zah ["rows","seen","word","ups"] ["rows"] (Zad Ze8):=by nofun
def Zmy(F:Def K mg "check_rows" Ze8 ["rows"] f fd)(DW:Def K mg "is_word" Zc5 ["text"] fW fdW)(T:Z5b mg):⋯ 2 f fd ["rows"] (Zj9 K):=by
 have GW:⋯ 1 fW fdW ["text"] Zg6:=Zik DW T
 nomatch F.fn.ok Yb2
 ·obtain⟨l,rows,rfl,_⟩:=h;rfl
 ·obtain⟨l,rows,rfl,⟨b,vs,hl,hp⟩,g,q⟩:=h;obtain⟨t1,hK⟩:=T.kinds;obtain⟨t2,hU⟩:=T.ups;have nd:=Yb2.nd;have hu:=Zgx hr
  ac_nf
  refine⟨_,pS (Za0 (Zcr (Zj1 Zjt Zjt Zaf (Zao Zb8 (by rfl) T.len Yg1 (pC (pv 0) Zaa)) (Zdw (v:=.int 24) (by rfl) hK ⟨Z⟩))) Zay Zal)
   (pS (sE 1 nd Zfj)
   (Zac (Zbh Yw rfl (Zl1 (pv 0)) (Zeg rfl (gC (gE 2 nd) (gC (gE 3 nd) Zc0)))
    (pS (Za0 (Zcr (Zb1 (Zae DW GW hr (pC (pv 2) Zaa)))) Zay Zal)
    (pS (Za0 (Zii (Zl3 hu (pv 2) (pv 1))) Zay Zal)
    (pS (Za0 (Zan Zkt (Zao Zb8 (by rfl) T.len Yg1 (pC (pv 3) Zaa)) (Zdw (v:=.int 8) (by rfl) hU ⟨Z⟩) (Zar _)) Zay Zal)
    (Zac (Zft hu (pv 1) (pv 2) Zge rfl)))))))),?_⟩
  exists let b:=Zau _ a;let c:=Zau _ b;let e:=Zau _ c;let f:=Zh3 _ _ e;let g:=Zau _ f;Zau _ g _ _ _
  have hvl:=hp.length;have g1:=g.ne;have g2:=g.le;refine⟨Z,_,Z,Zm9 hl,_,Z,Y,Z,?_⟩;rw[show decide ((1:Int)<=(vs.length:Int))=true from Jb (by omega)];refine Ze5 ⟨_,Z,Y,Z,?_⟩;rw[show(decide ((vs.length:Int)<=24))=true from Jb (by omega)];refine Zcg ?_;intro d hd;have s0:Zaj H (upd H d (.dK [])):=λb o e=>by rw[Zab (nNo e hd)];exact e
  let Iv1:NW:=λi σ H'=>∃(kvs:KL) (a c:OV),σ=[some (.ref l),some (.ref d),a,c]/\Zaj H H'/\H' d=some (.dK kvs)/\kvs.map (·.1)=(rows.take i).map λr=>(Sum.inr r.1:Key);refine⟨Z,b,l,vs,Y,hl.mono s0,Za1 Zhf Iv1
   ⟨[],none,none,Y,s0,uS,by simp⟩ (λi σ H' _ h0=>by obtain⟨_,_,_,_,s,_⟩:=h0;exact hl.mono s) ?_ ?_⟩
  ·rintro i v σ H' hi ⟨kvs,a,c,rfl,s,hdk,hk⟩;obtain⟨r,hr',t,u,rfl,ht,hug⟩:=Zaz hp hi;obtain⟨b',hu'⟩:=hug.sq;have hmem:r∈rows:=Yf hr';have hw:=g.word r hmem;have hwl:=Zbu hw;refine⟨t,Z,s.tup ht,Y,_,Z,_,Z,Y,?_⟩;refine⟨Z,r.1,Y,W,λH2 s2=>⟨Z,?_⟩⟩;rw[hw];refine Zcg ?_;have hd2:H2 d=some (.dK kvs):=s2 _ _ hdk;refine⟨Z,Z,d,Z,Zht.k (k:=Sum.inr r.1) hd2,Z,?_⟩;have hnew:(Sum.inr r.1:Key)∉kvs.map (·.1):=by rw[hk];exact Zgn g.nd hr'
   rw[Zcn hnew];refine Zcg ?_;refine⟨Z,_,Z,Zm9 (hu'.mono (s.trans s2)),_,Z,Y,Z,?_⟩;rw[show decide ((8:Int)<((r.2.map V.str).length:Int))=false from Jc (by rw[Ya];have:=g.few r hmem;omega)];refine Zcg ?_;have hkl:kvs.length=(rows.take i).length:=by have:=congrArg List.length hk;simpa using this
   have hil:(rows.take i).length<=24:=by rw[Yk1];omega
   refine⟨Z,Z,d,Z,Zqc.k (k:=Sum.inr r.1) hd2 (Zav (by omega)),?_⟩;refine⟨_,_,Z,λb o e=>?_,uS,?_⟩
   ·rw[Zab (nNo e hd)];exact s2 _ _ (s _ _ e)
   ·rw[Zkj hnew,hk,Ym1,hr',Yr];rfl
  ·rintro σ H' ⟨kvs,a,c,rfl,s,hdk,hk⟩;exact q H' s
def Yb1:Zah ["ups_of","ups","seen","up"] ["ups_of"] (Zad Zf8):=by nofun
def Zmh{us:LS}{i:Nat}{v:V}(h:(us.map V.str)[i]?=some v):∃ x,us[i]?=some x/\v=.str x:=by
 rw[Yj]at h;obtain⟨x,hx,e⟩:=Yf1.mp h;exact⟨x,hx,e.symm⟩
def Zvb{us:LS}{i:Nat}{x:Str}(nd:us.Nodup)(h:us[i]?=some x):(Sum.inr x:Key)∉(us.take i).map λy=>(Sum.inr y:Key):=by
 intro m;obtain⟨y,hy,e⟩:=Yh.mp m;have e:y=x:=by injection e
 subst e;obtain⟨j,hj,ej⟩:=Yk5.mp hy;rw[Yk1]at hj;rw[List.getElem_take]at ej;have a:us[j]?=some y:=by rw[Yb (by omega),ej]
 have:=Zhk nd a h;omega
def Zo4(F:Def K mg "check_ups" Zf8 ["ups_of"] f fd):⋯ 1 f fd ["ups_of"] Zlv:=by
 nomatch F.fn.ok Yb1
 ·obtain⟨d,o,rows,kvs,rfl,_⟩:=h;rfl
 ·obtain⟨d,o,rows,kvs,rfl,bk,g,q⟩:=h;have nd:=Yb1.nd;have hu:=Zgx hr
  ac_nf
  refine⟨_,Zac (Zbh Yw rfl (Z3s (pv 0)) (gE 1 nd)
    (pS (sE 2 nd Zfj)
    (Zac (Zbh Yw rfl (Zgi (pv 1)) (gE 3 nd)
     (pS (Za0 (Zii (Zkn hu (pv 3) (pv 0))) Zay Zal)
     (pS (Za0 (Zii (Zl3 hu (pv 3) (pv 2))) Zay Zal)
     (Zac (Zft hu (pv 2) (pv 3) Zge rfl)))))))),?_⟩
  exists let b:=Zau _ a;let c:=Zau _ b;let e:=Zh3 _ _ c;let f:=Zau _ e;Zh3 _ _ f _ _ _
  let Iv2:NW:=λi σ H'=>∃(a b c:OV),σ=[some (.ref d),a,b,c]/\Zaj H H';refine⟨Z,d,o,kvs,Y,bk.at_,Za1 Zwa Iv2 ⟨none,none,none,Y,Zaj.refl H⟩ (λi σ H' _ h0=>by obtain⟨_,_,_,_,s⟩:=h0;exact s _ _ bk.at_) ?_ ?_⟩
  ·rintro i v σ H' hi ⟨a,b,c,rfl,s⟩;rw[Yj]at hi;obtain⟨p,hp,e⟩:=Yf1.mp hi;obtain⟨r,hr',hk,t,ht,htup⟩:=Zaz bk.ups hp;have hmem:r∈rows:=Yf hr';subst e;show Zgy 1 p.2 _ _ _;rw[ht];intro sd hsd;have s1:Zaj H (upd H' sd (.dK [])):=λb o e=>by rw[Zab (nNo (s _ _ e) hsd)];exact s _ _ e
   have t1:(upd H' sd (.dK [])) t=some (.tup (r.2.map V.str)):=s1 _ _ htup;let Iv3:NW:=λj σ H2=>∃(kvs':KL) (c:OV),σ=[some (.ref d),some (.ref t),some (.ref sd),c]/\Zaj H H2/\H2 sd=some (.dK kvs')/\kvs'.map (·.1)=(r.2.take j).map λy=>(Sum.inr y:Key);refine⟨Z,t,Y,⟨_,SqT.of t1⟩,Za1 (Zc9 (xs:=r.2.map V.str)) Iv3
    ⟨[],Z,s1,uS,by simp⟩ (λj σ H2 _ h0=>by obtain⟨_,_,_,s,_⟩:=h0;exact SqT.of (s _ _ htup)) ?_ ?_⟩
   ·rintro j v σ H2 hj ⟨kvs',c,rfl,s2,hsd2,hk'⟩;obtain⟨x,hx,rfl⟩:=Zmh hj;have xm:x∈r.2:=Yf hx;have known:=g.known r hmem x xm;refine⟨Z,Z,d,Z,Zht.f (k:=Sum.inr x) (s2 _ _ bk.at_),Z,?_⟩;obtain⟨r2,hr2,er2⟩:=Yh.mp known;obtain⟨t2,hv2,_⟩:=bk.ups.val g.nd hr2;rw[<- er2,hv2,er2];refine Zcg ?_;have hnew:(Sum.inr x:Key)∉kvs'.map (·.1):=by rw[hk'];exact Zvb (g.upnd r hmem) hx
    refine⟨Z,Z,sd,Z,Zht.k (k:=Sum.inr x) hsd2,Z,?_⟩;rw[Zcn hnew];refine Zcg ?_;have hkl:kvs'.length=(r.2.take j).length:=by have:=congrArg List.length hk';simpa using this
    have hjl:(r.2.take j).length<=8:=by rw[Yk1];have:=g.few r hmem;omega
    have hsH:H sd=none:=s.free hsd;refine⟨Z,Z,sd,Z,Zqc.k (k:=Sum.inr x) hsd2 (Zav (by omega)),_,Z,λb o e=>?_,uS,?_⟩
    ·rw[Zab (nNo e hsH)];exact s2 _ _ e
    ·rw[Zkj hnew,hk',Ym1,hx,Yr];rfl
   ·rintro σ H2 ⟨kvs',c,rfl,s2,hsd2,hk'⟩;exact⟨_,_,Z,s2⟩
  ·rintro σ H' ⟨a,b,c,rfl,s⟩;exact q H' s
def Ybx:Zah ["words","others","word"] ["words","others"] (Zad Zcw):=by nofun
def Z0h(F:Def K mg "first_among" Zcw ["words","others"] f fd):⋯ 1 f fd ["words","others"] (Zvr K):=by
 nomatch F.fn.ok Ybx
 ·obtain⟨a,b,us,left,rfl,_⟩:=h;rfl
 ·obtain⟨a,b,us,left,rfl,ha,hb,q⟩:=h;have nd:=Ybx.nd
  ac_nf
  refine⟨_,pS (Zbh Yw rfl (Zgi (pv 0)) (gE 2 nd) (Zac (Za0 (Zan Zks (pv 2) (pv 1) (by with_unfolding_all rfl)) (Zac (Zak (pv 2))) Zal)))
   (Zac (Zak Zsh)),?_⟩
  exists let b:=_;Zau (Zh3 _ _ b) a _ _ _
  let Iv4:NW:=λi σ H'=>H'=H/\(∃ c:OV,σ=[some (.ref a),some (.ref b),c])/\(us.take i).find? (λx=>decide (x∈left))=none;refine⟨Z,a,Y,⟨_,ha⟩,Za1 (Zc9 (xs:=us.map V.str)) Iv4 ⟨Y,⟨none,Y⟩,by simp⟩ (λi σ H' _ ⟨e,_⟩=>by rw[e];exact ha) ?_ ?_⟩
  ·rintro i v σ H' hi ⟨rfl,⟨c,rfl⟩,hf⟩;obtain⟨x,hx,rfl⟩:=Zmh hi;refine⟨Z,Z,b,Z,.inl hb,Y,Zg1 left,Z,?_⟩;show if inV (.str x) (left.map V.str)=true then _ else _
   rw[Zje];have split:us=us.take i++x :: us.drop (i + 1):=by
    have hlt:=(Yi.mp hx).1;have e:us[i]=x:=(Yi.mp hx).2;rw[<- e,List.getElem_cons_drop hlt,Yk3]
   refine Ze1 (λh=>?_) (λh=>?_)
   ·have fv:Zjq us left=.str x:=by
     unfold Zjq;rw[split,List.find?_append,hf,Ys3];simp only[h];rfl
    rw[fv]at q;exact⟨Z,q⟩
   ·refine⟨Y,⟨Z⟩,?_⟩;rw[Ym1,hx,List.find?_append,hf];have h':decide (x∈left)=false:=by simpa using h
    simp[h']
  ·rintro σ H' ⟨rfl,⟨c,rfl⟩,hf⟩;rw[Ya,Yp1]at hf;have fv:Zjq us left=.non:=by unfold Zjq;rw[hf]
   rw[fv]at q;exact q
def Z4g(rows:RS)(ls:LS):V->Bool
 | .str x=>(Zcl rows x).any λu=>decide (u∈ls)
 | _=>false
def Z02(rows:RS)(ls:LS):((ls.map V.str).filter (Z4g rows ls)).map (λv=>v)=(Graph.kept (Zcl rows) ls).map V.str:=by
 rw[List.map_id',List.filter_map];rfl
def Z1c(us ls:LS):(!decide (Zjq us ls=V.non))=us.any λu=>decide (u∈ls):=by
 unfold Zjq;cases e:us.find? λx=>decide (x∈ls)with
 | none =>
  have:∀ x∈us,¬ decide (x∈ls)=true:=List.find?_eq_none.mp e;rw[Yh3];constructor
  ·intro h;simp at h
  ·intro h;obtain⟨x,hx,h1⟩:=Ym3.mp h;exact absurd h1 (this x hx)
 | some x =>
  have h1:=List.find?_some e;have h2:=List.mem_of_find?_eq_some e;rw[Yh3];constructor
  ·intro _;exact Ym3.mpr ⟨x,h2,h1⟩
  ·intro _;rfl
abbrev Ycd:LS:=["ups_of","left","kept"]
def scE:Zah Ycd ["ups_of"] (Zad Zfw):=by nofun
def Z67:(["word","ups_of","left"]:LS).Nodup:=by rfl'
def Ze6{rows:RS}{x:Str}(h:x∈rows.map (·.1)):∃ r∈rows,r.1=x:=by
 obtain⟨r,hr,e⟩:=Yh.mp h;exact⟨r,hr,e⟩
def Zt4(F:Def K mg "endless" Zfw ["ups_of"] f fd)(DF:Def K mg "first_among" Zcw ["words","others"] fF fdF)(T:Z5b mg):⋯ 2 f fd ["ups_of"] Zoe:=by
 have GF:⋯ 1 fF fdF ["words","others"] (Zvr K):=Z0h DF
 nomatch F.fn.ok scE
 ·obtain⟨d,o,rows,kvs,rfl,_⟩:=h;rfl
 ·obtain⟨d,o,rows,kvs,rfl,bk,g,q⟩:=h;have nd:=scE.nd;have hu:=Zgx hr
  ac_nf
  refine⟨_,pS (Zag (i:=1) nd rfl (Or.inr rfl) (Za5 (Zhw rfl) (by rfl) T.list Yp2 (pC (pv 0) Zaa)))
   (Zac (Zhi Yw (Zb1 Zge)
    (pS (Zeu (k:=2) ["word"] ["ups_of","left"] [0,1] nd rfl rfl (λ_=>Zaw (osc:=Zad Zfw) (on:=Ycd) (by rfl') rfl rfl rfl) (Zbr (pv 1)) (λC s H fp=>Zai (i:=0) Z67 rfl (Or.inl rfl) (Or.inr rfl))
     (λC s H fp=>Zi5 (Zii (Zwq (Zae DF GF hr (pC (Zey hu (pv 1) (pv 0) (λ_ _=>rfl)) (pC (pv 2) Zaa)))))) (λC s H fp=>pv 0))
    (pS (Za0 (Zan Zdk (Zao Zb8 (by rfl) T.len Yg1 (pC (pv 2) Zaa)) (Zao Zb8 (by rfl) T.len Yg1 (pC (pv 1) Zaa)) (Zar _)) (Zac (Zak (pv 2))) Zal)
    (Zac (Zag (i:=1) nd rfl (Or.inr rfl) (pv 2))))))),?_⟩
  exists let b:=Zau _ a;let c:=Zau _ b;let e:=Zn5 _ c;Zau _ e _ _ _
  have wl:(rows.map (·.1)).length<=24:=by rw[Ya];exact g.le
  refine⟨Z,d,kvs,Y,.inr ⟨o,bk.at_⟩,λl0 hl0=>?_⟩;let Hv1:NW:=λm σ H'=>∃(ll:Addr) (ls:LS) (c:OV),σ=[some (.ref d),some (.ref ll),c]/\Zaj H H'/\H' ll=some (.lst (ls.map V.str))/\(∀ x∈ls,x∈rows.map (·.1))/\ls.length<=24/\m=ls.length;refine⟨Hv1,
   ⟨_,l0,rows.map (·.1),none,Y,λb o e=>by rw[Zab (nNo e hl0)];exact e,by rw[uS,Z96 bk.ups],λx h=>h,wl,Y⟩,?_⟩
  rintro m σ H' ⟨ll,ls,c,rfl,s1,hll,hsub,h24,rfl⟩;refine⟨true,Y,?_⟩;let Hv2:SW:=λσ' H2=>∃ m',m'<ls.length/\∃(ll:Addr) (ls:LS) (c:OV),σ'=[some (.ref d),some (.ref ll),c]/\Zaj H H2/\H2 ll=some (.lst (ls.map V.str))/\(∀ x∈ls,x∈rows.map (·.1))/\ls.length<=24/\m'=ls.length;refine Ze5 ⟨Hv2,λ_ _ h=>h,?_⟩;refine⟨Z,ll,Y,⟨_,SqL.of hll⟩,Zd9 (Za8 (xs:=ls.map V.str)) (sL (by rw[Ya];omega)) (Z4g rows ls) (λv=>v) (λD ys hD=>SqL.of (by rw[Zab (nNo hll hD)];exact hll)) ?_ ?_ ?_⟩
  ·intro D ys v R hD hv hR;obtain⟨x,hx,rfl⟩:=Yh.mp hv;obtain⟨r,hr',rfl⟩:=Ze6 (hsub x hx);obtain⟨t,hvt,ht⟩:=bk.ups.val g.nd hr';have kp:∀ b o,H b=some o->(upd H' D (.lst ys)) b=some o:=λb o e=>by rw[Zab (nNo (s1 _ _ e) hD)];exact s1 _ _ e
   refine⟨Z,Z,d,Z,(by rw[<- hvt];exact Zht.f (k:=Sum.inr r.1) (kp _ _ bk.at_)),Z,t,ll,r.2,ls,Y,SqT.of (kp _ _ ht),SqL.of (by rw[Zab (nNo hll hD)];exact hll),Z,?_⟩;have e:(!decide (Zjq r.2 ls=V.non))=Z4g rows ls (V.str r.1):=by
    rw[Z1c];show _=(Zcl rows r.1).any _;rw[Zh5 g.nd hr']
   rw[e];exact hR
  ·intro D ys v R hD hv _ hR;exact⟨Z,hR⟩
  ·intro D hD;rw[Z02];have hDl:(upd H' D (.lst ((Graph.kept (Zcl rows) ls).map V.str))) ll=some (.lst (ls.map V.str)):=by rw[Zab (nNo hll hD)];exact hll
   have s2:Zaj H (upd H' D (.lst ((Graph.kept (Zcl rows) ls).map V.str))):=λb o e=>by rw[Zab (nNo (s1 _ _ e) hD)];exact s1 _ _ e
   refine⟨Z,_,Z,.inl ⟨_,SqL.of uS,Y⟩,Z,_,Z,.inl ⟨_,SqL.of hDl,Y⟩,Y,Z,?_⟩;have kle:=Graph.kept_le (Zcl rows) ls;refine Ze1 (λh=>?_) (λh=>?_)
   ·have h:(Graph.kept (Zcl rows) ls).length=ls.length:=by
     have:=Je h;injection this with this;rw[Ya,Ya]at this;omega
    obtain⟨rk,hrk⟩:=g.rank;have nil:ls=[]:=Graph.kept_nil (rk:=rk) (λa ha b hb=>by
     obtain⟨r,hr',rfl⟩:=Ze6 (hsub a ha);rw[Zh5 g.nd hr']at hb;exact hrk r hr' b hb) h
    have kn:Graph.kept (Zcl rows) ls=[]:=by rw[nil];rfl
    refine⟨Z,q D _ s2 ?_⟩;rw[uS,kn];rfl
   ·have h:(Graph.kept (Zcl rows) ls).length≠ls.length:=λz=>h (Jb (by rw[Ya,Ya,z]));exact⟨Z,_,W,D,_,Z,s2,uS,λx hx=>hsub x (Graph.kept_sub hx),W,Y⟩
def scR:Zah ["ups_of","left","way","here"] ["ups_of"] (Zad Zf7):=by nofun
def Z30(F:Def K mg "find_ring" Zf7 ["ups_of"] f fd)(DE:Def K mg "endless" Zfw ["ups_of"] fE fdE)(DF:Def K mg "first_among" Zcw ["words","others"] fF fdF)(T:Z5b mg):⋯ 3 f fd ["ups_of"] Z19:=by
 have GE:⋯ 2 fE fdE ["ups_of"] Zoe:=Zt4 DE DF T
 nomatch F.fn.ok scR
 ·obtain⟨d,o,rows,kvs,rfl,_⟩:=h;rfl
 ·obtain⟨d,o,rows,kvs,rfl,bk,g,q⟩:=h;have nd:=scR.nd
  ac_nf
  refine⟨_,pS (sE 1 nd (Zae DE GE hr (pC (pv 0) Zaa)))
   (pS (Za0 (Zcr (Zih (pv 1) (λ_=>rfl))) (Zac (Zak Zsh)) Zal) Zay),?_⟩
  exists let b:=Zau _ a;Zau _ b _ _ _
  refine⟨Z,d,o,rows,kvs,Y,bk,g,λl H' s1 hl=>?_⟩;exact⟨Z,false,.inl ⟨[],SqL.of hl,Y⟩,Ze5 (q H' s1)⟩
def inK(x:Str):Key:=Sum.inr x
def Zvw:Sp:=λvs H Q _=>∃(d:Addr) (o:Obj) (rows:RS) (kvs:KL) (x:Str),vs=[.ref d,.str x]/\Zln H d o rows kvs/\Zc4 rows/\x∈rows.map (·.1) /\
 ∀ a o' fk H',H a=none->Zaj H H'->H' a=some (.frz o' (.dK fk))->(∀ y,(Sum.inr y:Key)∈fk.map (·.1)↔Graph.Reach (Zcl rows) x y)->Q (.ref a) H'
structure Z5j(rows:RS)(x:Str)(fs ws:LS):Prop where
 start:x∈fs
 sub:∀ y∈ws,y∈fs
 known:∀ y∈fs,y∈rows.map (·.1)
 nd:fs.Nodup
 reach:∀ y∈fs,Graph.Reach (Zcl rows) x y
 closed:∀ y∈fs,y∉ws->∀ u∈Zcl rows y,u∈fs
 few:ws.length<=fs.length
def scA:Zah ["ups_of","word","found","waiting","here","up"] ["ups_of","word"] (Zad Zga):=by nofun
def Zk3{fk:KL}{fs:LS}(h:fk.map (·.1)=fs.map inK)(y:Str):(Sum.inr y:Key)∈fk.map (·.1)↔y∈fs:=by
 rw[h];constructor
 ·intro m;obtain⟨z,hz,e⟩:=Yh.mp m;have e:z=y:=by
   unfold inK at e;injection e
  rw[<- e];exact hz
 ·intro m;exact Yh.mpr ⟨y,m,Y⟩
def Zf3{fk:KL}{k:Key}(h:k∈fk.map (·.1)):(Zf0 fk k).isSome=true:=by
 cases e:Zf0 fk k with
 | none=>exact absurd h (Zzi e)
 | some v=>rfl
def Z0m(F:Def K mg "all_above" Zga ["ups_of","word"] f fd):⋯ 1 f fd ["ups_of","word"] Zvw:=by
 nomatch F.fn.ok scA
 ·obtain⟨d,o,rows,kvs,x,rfl,_⟩:=h;rfl
 ·obtain⟨d,o,rows,kvs,x,rfl,bk,g,hx,q⟩:=h;have nd:=scA.nd;have hu:=Zgx hr
  ac_nf
  refine⟨_,pS (sE 2 nd (Z3u (Zzt (pv 1) Zge Z3q) rfl rfl (by simp) (by show 1<=15;decide)))
   (pS (sE 3 nd (Zbd (pC (pv 1) Zaa)))
   (pS (Zhi Yw (Zih (pv 3) (λ_=>rfl))
    (pS (sE 4 nd (Z6v Ye1 PySem.F.slot_list_pop PySem.F.type_list_pop Z7k (pv 3)))
    (Zac (Zbh Yw rfl (Zgi (Zey hu (pv 0) (pv 4) (λ_ _=>rfl))) (gE 5 nd)
     (Zac (Za0 (Zii (Zkn hu (pv 5) (pv 2))) (pS (Zft hu (pv 2) (pv 5) Zge rfl)
      (Zac (Za4 (Zdg Ye1 Yn1 Yo1 Zbc (pv 3) (pC (pv 5) Zaa))))) Zal))))))
   (Zmu (Zac (Zak (pv 2)))))),?_⟩
  exists let b:=_;let c:=Zau _ b;let e:=Zlg _ c _;let f:=Zh3 _ _ e;let g:=Zau _ f;let h:=Zau (Zn5 _ g) a;let i:=Zau _ h;Zau _ i _ _ _
  intro fa hfa;refine⟨Z,uS,[(Sum.inr x,.bl true)],Y,(by show 1<=15;decide),?_⟩;rw[Zgm];refine⟨Z,O,λwa hwa=>?_⟩;have fw:fa≠wa:=nNo uS hwa;have hwaH:H wa=none:=by
   cases e:H wa with
   | none=>rfl
   | some u=>rw[Zab (Yu fw),e]at hwa;cases hwa
  have bound:∀ {fs ws:LS},Z5j rows x fs ws->fs.length<=rows.length:=λ{fs ws} h=>by
   have:=Graph.nodup_le h.nd h.known
   rwa [Ya]at this
  have gle:=g.le;let Hv3:NW:=λm σ H'=>∃(fs ws:LS) (fk:KL) (a b:OV),σ=[some (.ref d),some (.str x),some (.ref fa),some (.ref wa),a,b]/\Zaj H H'/\H' fa=some (.dK fk)/\fk.map (·.1)=fs.map inK/\H' wa=some (.lst (ws.map V.str))/\Z5j rows x fs ws/\m + 2 * fs.length=2 * rows.length + ws.length;refine⟨Hv3,
   ⟨2 * rows.length - 1,[x],[x],[(Sum.inr x,.bl true)],none,none,Y,λb o e=>by rw[Zab (nNo e hwaH),Zab (nNo e hfa)];exact e,by rw[Zab fw];exact uS,Y,uS,
    ⟨by simp,λy h=>h,λy h=>by rw[Ye.mp h];exact hx,by simp,λy h=>by rw[Ye.mp h];exact .refl x,λy h n=>absurd h n,Yg _⟩,by have:=g.ne;simp;omega⟩,?_⟩
  rintro m σ H' ⟨fs,ws,fk,a,b,rfl,s1,hf,hk,hw,go,hm⟩;have flen:=bound go;refine⟨Z,_,.inl ⟨_,SqL.of hw,Y⟩,?_⟩;refine Ze1 (λhne=>?_) (λhne=>?_)
  ·-- here=waiting.pop()
   have wne:ws≠[]:=by
    intro z;rw[z]at hne;cases hne
   have hpos:0<ws.length:=Yk2.mpr wne;have split:ws=ws.dropLast++[ws.getLast wne]:=(List.dropLast_concat_getLast wne).symm;generalize hhere:ws.getLast wne=here at split;have hmem:here∈ws:=by rw[split];simp
   have hfs:here∈fs:=go.sub here hmem;obtain⟨r,hr',er⟩:=Ze6 (go.known here hfs);obtain⟨t,hvt,ht⟩:=bk.ups.val g.nd hr';have last:(ws.map V.str)[(ws.map V.str).length - 1]?=some (V.str here):=by
    rw[Yj,Ya];have:ws[ws.length - 1]?=some here:=by
     rw[<- hhere,List.getLast_eq_getElem,Yb (by omega)]
    rw[this];rfl
   let Hv4:SW:=λσ' H2=>∃ m',m'<m/\∃(fs ws:LS) (fk:KL) (a b:OV),σ'=[some (.ref d),some (.str x),some (.ref fa),some (.ref wa),a,b]/\Zaj H H2/\H2 fa=some (.dK fk)/\fk.map (·.1)=fs.map inK/\H2 wa=some (.lst (ws.map V.str))/\Z5j rows x fs ws/\m' + 2 * fs.length=2 * rows.length + ws.length;refine⟨Hv4,λ_ _ h=>h,?_⟩;refine⟨Z,.inl ⟨Y,_,SqL.of hw⟩,wa,_,Z,Y,hw,last,?_⟩;have s2:Zaj H (upd H' wa (.lst (ws.map V.str).dropLast)):=λb o e=>by rw[Zab (nNo e hwaH)];exact s1 _ _ e
   refine⟨Z,Z,d,Z,(by rw[<- hvt,er];exact Zht.f (k:=Sum.inr here) (s2 _ _ bk.at_)),t,Y,⟨_,SqT.of (s2 _ _ ht)⟩,?_⟩;have uo:Zcl rows here=r.2:=by rw[<- er];exact Zh5 g.nd hr'
   refine Za1 (Zc9 (xs:=r.2.map V.str)) (λj σ H2=>∃(fs' ws':LS) (fk':KL) (b:OV),σ=[some (.ref d),some (.str x),some (.ref fa),some (.ref wa),some (.str here),b]/\Zaj H H2/\H2 fa=some (.dK fk')/\fk'.map (·.1)=fs'.map inK/\H2 wa=some (.lst (ws'.map V.str)) /\
    (∀ y∈fs,y∈fs')/\(∀ y∈ws.dropLast,y∈ws')/\(∀ y∈ws',y∈fs')/\(∀ y∈fs',y∈rows.map (·.1))/\fs'.Nodup/\(∀ y∈fs',Graph.Reach (Zcl rows) x y)/\(∀ y∈fs',y∈fs\/y∈ws')/\(∀ u∈r.2.take j,u∈fs')/\ws'.length + 2 * fs.length + fs'.length<=ws.dropLast.length + 2 * fs'.length + fs.length)
    ⟨fs,ws.dropLast,fk,Z,s2,by rw[Zab fw];exact hf,hk,by rw[uS,List.map_dropLast],λy h=>h,λy h=>h,λy h=>go.sub y ((List.dropLast_sublist ws).subset h),go.known,go.nd,go.reach,λy h=>.inl h,λu h=>by simp at h,W⟩ (λj σ H2 _ h0=>by obtain⟨_,_,_,_,_,s,_⟩:=h0;exact SqT.of (s _ _ ht)) ?_ ?_
   ·rintro j v σ H2 hj ⟨fs',ws',fk',b,rfl,s3,hf3,hk3,hw3,c1,c2,c3,c4,c5,c6,c7,c8,c9⟩;obtain⟨u,hu',rfl⟩:=Zmh hj;have um:u∈r.2:=Yf hu';have fl3:fs'.length<=rows.length:=by
     have:=Graph.nodup_le c5 c4
     rwa [Ya]at this
    have kl:fk'.length=fs'.length:=by have:=congrArg List.length hk3;simpa using this
    refine⟨Z,Z,fa,Z,Zht.k (k:=Sum.inr u) hf3,Z,?_⟩;have dl:ws.dropLast.length=ws.length - 1:=List.length_dropLast;have gf:=go.few;by_cases nin:u∉fs'
    ·have nk:(Sum.inr u:Key)∉fk'.map (·.1):=λz=>nin ((Zk3 hk3 u).mp z);have wl3:ws'.length<=rows.length * 3:=by omega
     rw[Zcn nk];refine Ze5 ?_;refine⟨Z,Z,fa,Z,Zqc.k (k:=Sum.inr u) hf3 (Zav (by omega)),?_⟩;have hw4:(upd H2 fa (.dK (Zdv fk' (Sum.inr u) (.bl true)))) wa=some (.lst (ws'.map V.str)):=by rw[Zab (Yu fw)];exact hw3
     refine⟨Z,.inl ⟨Y,_,SqL.of hw4⟩,Z,wa,_,Z,Y,hw4,Zav (by rw[Ya];omega),?_⟩;refine⟨fs'++[u],ws'++[u],Zdv fk' (Sum.inr u) (.bl true),Z,λb o e=>by rw[Zab (nNo e hwaH),Zab (nNo e hfa)];exact s3 _ _ e,by rw[Zab fw];exact uS,?_,by rw[uS,Yr];rfl,λy h=>Yu2 _ (c1 y h),λy h=>Yu2 _ (c2 y h),λy h=>?_,λy h=>?_,?_,λy h=>?_,λy h=>?_,λy h=>?_,?_⟩
     ·rw[Zkj nk,hk3,Yr];rfl
     ·rcases Yl.mp h with h | h
      ·exact Yu2 _ (c3 y h)
      ·exact Yz1 _ h
     ·rcases Yl.mp h with h | h
      ·exact c4 y h
      ·rw[Ye.mp h];exact g.known r hr' u um
     ·rw[List.nodup_append];exact⟨c5,by simp,λa ha b hb e=>nin (by rw[<- Ye.mp hb,<- e];exact ha)⟩
     ·rcases Yl.mp h with h | h
      ·exact c6 y h
      ·rw[Ye.mp h];exact(go.reach here hfs).snoc (by rw[uo];exact um)
     ·rcases Yl.mp h with h | h
      ·rcases c7 y h with h | h
       ·exact .inl h
       ·exact .inr (Yu2 _ h)
      ·exact .inr (Yz1 _ h)
     ·rw[Ym1,hu']at h
      rcases Yl.mp h with h | h
      ·exact Yu2 _ (c8 y h)
      ·have:y=u:=by simpa using h
       rw[this];exact Yz1 _ (by simp)
     ·rw[Yc,Yc];simp only[Yr1];omega
    ·have yin:u∈fs':=Yr4 nin;rw[Zf3 ((Zk3 hk3 u).mpr yin)];refine Zcg ?_;refine⟨fs',ws',fk',Z,s3,hf3,hk3,hw3,c1,c2,c3,c4,c5,c6,c7,λy h=>?_,c9⟩;rw[Ym1,hu']at h
     rcases Yl.mp h with h | h
     ·exact c8 y h
     ·have:y=u:=by simpa using h
      rw[this];exact yin
   ·rintro σ H2 ⟨fs',ws',fk',b,rfl,s3,hf3,hk3,hw3,c1,c2,c3,c4,c5,c6,c7,c8,c9⟩;rw[Ya,Yp1]at c8;have fl3:fs'.length<=rows.length:=by
     have:=Graph.nodup_le c5 c4
     rwa [Ya]at this
    have dl:ws.dropLast.length=ws.length - 1:=List.length_dropLast;have fle:fs.length<=fs'.length:=Graph.nodup_le go.nd c1;have gf:=go.few;refine⟨2 * rows.length + ws'.length - 2 * fs'.length,W,fs',ws',fk',_,Z,s3,hf3,hk3,hw3,⟨c1 x go.start,c3,c4,c5,c6,λy hy hn u hu'=>?_,W⟩,W⟩
    rcases c7 y hy with hy' | hy'
    ·by_cases yh:y=here
     ·rw[yh,uo]at hu';exact c8 u hu'
     ·have nw:y∉ws:=λz=>by
       rw[split]at z
       rcases Yl.mp z with z | z
       ·exact hn (c2 y z)
       ·exact yh (Ye.mp z)
      exact c1 u (go.closed y hy' nw u hu')
    ·exact absurd hy' hn
  ·have wnil:ws=[]:=by
    cases ws with
    | nil=>rfl
    | cons y r=>exact absurd rfl hne
   refine⟨fa,fk,hf,λo'=>⟨Z,q fa o' fk _ hfa (λb o e=>by rw[Zab (nNo e hfa)];exact s1 _ _ e) uS λy=>?_⟩⟩;rw[Zk3 hk y];constructor
   ·exact λh=>go.reach y h
   ·intro h;refine Graph.closed_reach (S:=λy=>y∈fs) (λy hy u hu'=>go.closed y hy (by rw[wnil];simp) u hu') h go.start
def fne:¬ (("ups_of":Str)="above_of"):=by rfl'
def Zuz(d a:Addr):List (Str×V):=Zhh "above_of" (.ref a) (Zhh "ups_of" (.ref d) [])
def Z2s(d a:Addr):(Zuz d a).lookup ("ups_of":Str)=some (.ref d):=by
 unfold Zuz;rw[Zas,if_neg fne,Zas,if_pos rfl]
def Z7y(d a:Addr):(Zuz d a).lookup ("above_of":Str)=some (.ref a):=by
 unfold Zuz;rw[Zas,if_pos rfl]
def Znd(d a:Addr){m:Str}(h1:¬ m="above_of")(h2:¬ m="ups_of"):(Zuz d a).lookup m=none:=by
 unfold Zuz;rw[Zas,if_neg h1,Zas,if_neg h2];rfl
def Zg5(H:Hp)(all rows:RS)(avs:KL):Prop :=
 Paired (λr (p:Key×V)=>p.1=Sum.inr r.1/\∃ t o' fk,p.2=.ref t/\H t=some (.frz o' (.dK fk))/\∀ y,(Sum.inr y:Key)∈fk.map (·.1)↔Graph.Reach (Zcl all) r.1 y) rows avs
def Zg5.mono{H H':Hp}{all rows:RS}{avs:KL}(h:Zg5 H all rows avs)(s:∀ b o' fk,H b=some (.frz o' (.dK fk))->H' b=some (.frz o' (.dK fk))):Zg5 H' all rows avs :=
 Paired.mapP h λ_ _ z=>⟨z.1,let⟨t,o',fk,e,x,y⟩:=z.2;⟨t,o',fk,e,s _ _ _ x,y⟩⟩
theorem Zg5.keys:∀ {H:Hp}{all rows:RS}{kvs:KL},Zg5 H all rows kvs->kvs.map (·.1)=rows.map λr=>(Sum.inr r.1:Key)
 | _,_,_,_,.nil=>rfl
 | _,_,_,_,.cons r t=>by rw[Yz,Yz,r.1,Zg5.keys t]
theorem Zg5.val:∀ {H:Hp}{all rows:RS}{kvs:KL},Zg5 H all rows kvs->(rows.map (·.1)).Nodup->∀ {r:Str×LS},r∈rows->∃ t o' fk,Zf0 kvs (Sum.inr r.1)=some (.ref t)/\H t=some (.frz o' (.dK fk))/\∀ y,(Sum.inr y:Key)∈fk.map (·.1)↔Graph.Reach (Zcl all) r.1 y
 | _,_,_,_,.nil,_,r,h=>nomatch h
 | _,_,q :: rs,p :: ps,.cons z t,nd,r,h=>by
  have nd':(q.1 :: rs.map (·.1)).Nodup:=nd;obtain⟨n1,n2⟩:=Yt1.mp nd';obtain⟨z1,u,o',fk,z2,z3,z4⟩:=z
  rcases Yt.mp h with e | h
  ·subst e;exact⟨u,o',fk,by rw[Zb4 z1,z2],z3,z4⟩
  ·have ne:¬ p.1=(Sum.inr r.1:Key):=λe=>n1 (by
    rw[z1]at e;have e':q.1=r.1:=by injection e
    rw[e'];exact Yh.mpr ⟨r,h,Y⟩)
   obtain⟨u',o'',fk',h1,h2⟩:=Zg5.val t n2 h;exact⟨u',o'',fk',by rw[Zb5 ne];exact h1,h2⟩
structure Zbm(C:Addr)(H:Hp)(p:Addr)(rows:RS):Prop where
 ex:∃(dx d a:Addr) (o oa:Obj) (kvs avs:KL),H p=some (.ins C dx (Zuz d a))/\Zln H d o rows kvs/\H a=some (.frz oa (.dK avs))/\Zg5 H rows rows avs
theorem Zbm.mono{C:Addr}{H H':Hp}{p:Addr}{rows:RS}(h:Zbm C H p rows)(s:Zaj H H'):Zbm C H' p rows:=by
 obtain⟨dx,d,a,o,oa,kvs,avs,h1,h2,h3,h4⟩:=h.ex;exact⟨dx,d,a,o,oa,kvs,avs,s _ _ h1,h2.mono s,s _ _ h3,h4.mono λ_ _ _ e=>s _ _ e⟩
structure Zqd(K:Fg)(C:Addr):Prop where
 cl:Cls K C
 nU:Zfr K C "ups_of"
 nA:Zfr K C "above_of"
structure Zqb(K:Fg)(C:Addr)(m qual:Str)(st:Stmt)(ps:LS)(f:Addr)(fd:FuncData):Prop where
 fn:Fun K m qual st f fd
 b:Zef K fd ps []
 me:Z8k K C m f
def Zob(K:Fg)(C:Addr):Sp:=λvs H Q _=>∃(p dx l:Addr) (rows:RS),vs=[.ref p,.ref l]/\H p=some (.ins C dx [])/\Zrm K H l rows/\Zc4 rows /\
 ∀ H',Zbm C H' p rows->(∀ b o,b≠p->H b=some o->H' b=some o)->Q .non H'
def Zqm(C:Addr):Sp:=λvs H Q _=>∃(p:Addr) (rows:RS) (x:Str),vs=[.ref p,.str x]/\Zbm C H p rows/\Zc4 rows/\x∈rows.map (·.1)/\Q .non H
def Zzo(C:Addr):Sp:=λvs H Q _=>∃(p:Addr) (rows:RS) (x:Str),vs=[.ref p,.str x]/\Zbm C H p rows/\Zc4 rows/\Q (.bl (decide (x∈rows.map (·.1)))) H
def Zkh(rows:RS)(x y:Str):Bool:=@decide (Graph.Reach (Zcl rows) x y) (Classical.propDecidable _)
def Zvk(C:Addr):Sp:=λvs H Q _=>∃(p:Addr) (rows:RS) (x y:Str),vs=[.ref p,.str x,.str y]/\Zbm C H p rows/\Zc4 rows/\x∈rows.map (·.1)/\y∈rows.map (·.1)/\Q (.bl (Zkh rows x y)) H
def scI:Zah ["self","rows","ups_of","word","ups","ring","above_of"] ["self","rows"] (Zad Zec):=by nofun
def Z32(F:Fun K "__init__" "Kinds.__init__" Zec f fd)(T:Z5b mg)(TC:Zqd K C)(D1:Def K mg "check_rows" Ze8 ["rows"] f1 d1)(D2:Def K mg "is_word" Zc5 ["text"] f2 d2)
  (D3:Def K mg "check_ups" Zf8 ["ups_of"] f3 d3) (D4:Def K mg "find_ring" Zf7 ["ups_of"] f4 d4) (D5:Def K mg "endless" Zfw ["ups_of"] f5 d5) (D6:Def K mg "first_among" Zcw ["words","others"] f6 d6) (D7:Def K mg "all_above" Zga ["ups_of","word"] f7 d7):
  ⋯ 4 f fd ["self","rows"] (Zob K C):=by
 have G1:⋯ 2 f1 d1 ["rows"] (Zj9 K):=Zmy D1 D2 T;have G3:⋯ 1 f3 d3 ["ups_of"] Zlv:=Zo4 D3;have G4:⋯ 3 f4 d4 ["ups_of"] Z19:=Z30 D4 D5 D6 T;have G7:⋯ 1 f7 d7 ["ups_of","word"] Zvw:=Z0m D7
 nomatch F.ok scI
 ·obtain⟨p,dx,l,rows,rfl,_⟩:=h;rfl
 ·obtain⟨p,dx,l,rows,rfl,hp,hR,g,q⟩:=h;have nd:=scI.nd;have hu:=Zgx hr;have hr1:Zci 1 _:=hr.mono (by decide);have hr2:Zci 2 _:=hr.mono (by decide)
  ac_nf
  refine⟨_,pS (Za4 (Zae D1 G1 hr2 (pC (pv 1) Zaa)))
   (pS (sE 2 nd Zfj)
   (pS (Zbh Yw rfl (Zl1 (pv 1)) (Zeg rfl (gC (gE 3 nd) (gC (gE 4 nd) Zc0)))
    (Zac (Zft hu (pv 2) (pv 3) (Za5 Za9 (by rfl) T.tuple Yu1 (pC (pv 4) Zaa)) rfl)))
   (Zmu (pS (Za4 (Zae D3 G3 hr1 (pC (pv 2) Zaa)))
   (pS (sE 5 nd (Zae D4 G4 hr (pC (pv 2) Zaa)))
   (pS (Za0 (Zii (Zwq (pv 5))) Zay Zal)
   (pS (sE 6 nd Zfj)
   (pS (Zbh Yw rfl (Z3t (pv 2)) (gE 3 nd) (Zac (Zft hu (pv 6) (pv 3) (Zae D7 G7 hr1 (pC (pv 2) (pC (pv 3) Zaa))) rfl)))
   (Zmu (pS (Zjo (pv 0) (pv 2) rfl) (Zac (Zjo (pv 0) (pv 6) rfl)))))))))))),?_⟩
  exists let b:=_;let c:=Zau (Zh3 _ _ b) a;let e:=Zau _ c;Zau _ e _ _ _
  refine⟨Z,l,rows,Y,hR,g,λH1 s1=>?_⟩;intro d hd;have s2:Zaj H (upd H1 d (.dK [])):=λb o e=>by rw[Zab (nNo (s1 _ _ e) hd)];exact s1 _ _ e
  obtain⟨b,vs,hl,hpr⟩:=hR;let Iv1:NW:=λi σ H'=>∃(kvs:KL) (a c:OV),σ=[some (.ref p),some (.ref l),some (.ref d),a,c,none,none]/\Zaj H H'/\H' d=some (.dK kvs)/\Znv H' (rows.take i) kvs;refine⟨Z,b,l,vs,Y,hl.mono s2,Za1 Zhf Iv1
   ⟨[],none,none,Y,s2,uS,by rw[Yj2];exact .nil⟩ (λi σ H' _ h0=>by obtain⟨_,_,_,_,s,_⟩:=h0;exact hl.mono s) ?_ ?_⟩
  ·rintro i v σ H' hi ⟨kvs,a,c,rfl,s3,hdk,hU⟩;obtain⟨r,hr',t,u,rfl,ht,hug⟩:=Zaz hpr hi;have dH:H d=none:=s1.free hd;refine⟨t,Z,s3.tup ht,Y,_,Z,_,Z,Y,?_⟩;have hnew:(Sum.inr r.1:Key)∉kvs.map (·.1):=by rw[hU.keys];exact Zgn g.nd hr'
   have hil:(rows.take i).length<=24:=by rw[Yk1];have:=g.le;omega
   have hkl:kvs.length=(rows.take i).length:=(Yy hU).symm;have fin:∀(t2:Addr) (H2:Hp),Zaj H' H2->H2 t2=some (.tup (r.2.map V.str))->∃(kvs':KL) (a c:OV),[some (V.ref p),some (V.ref l),some (V.ref d),some (V.str r.1),some (V.ref u),none,none]=[some (V.ref p),some (V.ref l),some (V.ref d),a,c,none,none]/\Zaj H (upd H2 d (.dK (Zdv kvs (Sum.inr r.1) (.ref t2)))) /\
     (upd H2 d (.dK (Zdv kvs (Sum.inr r.1) (.ref t2)))) d=some (.dK kvs')/\Znv (upd H2 d (.dK (Zdv kvs (Sum.inr r.1) (.ref t2)))) (rows.take (i + 1)) kvs':=λt2 H2 s4 ht2=>by
    have d2:=s4 _ _ hdk;have tk:∀ b xs,H2 b=some (.tup xs)->(upd H2 d (.dK (Zdv kvs (Sum.inr r.1) (.ref t2)))) b=some (.tup xs):=λb xs e=>by
     rw[Zab (λz=>by rw[z,d2]at e;cases e)];exact e
    refine⟨_,_,Z,λb o e=>by rw[Zab (nNo e dH)];exact s4 _ _ (s3 _ _ e),uS,?_⟩;have sn:Znv (upd H2 d (.dK (Zdv kvs (Sum.inr r.1) (.ref t2)))) (rows.take i++[r]) (kvs++[(Sum.inr r.1,V.ref t2)]):=Yn2 ((hU.mono λb xs e=>s4 _ _ e).mono tk) ⟨Y,t2,Y,tk t2 _ ht2⟩;rw[<- Zgc _ (Zcn hnew)]at sn;rw[Ym1,hr'];exact sn
   rcases hug with hug | hug
   ·refine⟨Z,u,Z,.inr ⟨SqT.of (s3 _ _ hug),Z,Z,d,Z,Zqc.k (k:=Sum.inr r.1) hdk (Zav (by omega)),fin u H' (Zaj.refl _) (s3 _ _ hug)⟩⟩
   ·refine⟨Z,u,Z,.inl ⟨s3.seq hug,λt2 ht2=>?_⟩⟩;have s4:Zaj H' (upd H' t2 (.tup (r.2.map V.str))):=λb o e=>by rw[Zab (nNo e ht2)];exact e
    exact⟨Z,Z,d,Z,Zqc.k (k:=Sum.inr r.1) (s4 _ _ hdk) (Zav (by omega)),fin t2 _ s4 uS⟩
  ·rintro σ H2 ⟨kvs,a,c,rfl,s3,hdk,hU⟩;have hvl:=hpr.length;rw[<- hvl,Yp1]at hU;refine⟨d,kvs,hdk,λo=>?_⟩;have dH:H d=none:=s1.free hd;have s4:Zaj H (upd H2 d (.frz o (.dK kvs))):=λb u e=>by rw[Zab (nNo e dH)];exact s3 _ _ e
   have bk:Zln (upd H2 d (.frz o (.dK kvs))) d o rows kvs:=⟨uS,hU.mono λb xs e=>by rw[Zab (λz=>by rw[z,hdk]at e;cases e)];exact e⟩;refine⟨Z,d,o,rows,kvs,Y,bk,g,λH5 s5=>?_⟩;refine⟨Z,d,o,rows,kvs,Y,bk.mono s5,g,λH6 s6=>?_⟩;refine⟨Z,Z,Zcg ?_⟩;have s56:=s5.trans s6;have bk6:=bk.mono s56;have s7:Zaj H H6:=s4.trans s56;intro aa haa;have s8:Zaj H (upd H6 aa (.dK [])):=λb u e=>by rw[Zab (nNo (s7 _ _ e) haa)];exact s7 _ _ e
   have s68:Zaj H6 (upd H6 aa (.dK [])):=λb u e=>by rw[Zab (nNo e haa)];exact e
   let Iv2:NW:=λi σ H'=>∃(avs:KL) (a b c:OV),σ=[some (.ref p),some (.ref l),some (.ref d),a,b,c,some (.ref aa)]/\Zaj H H'/\Zln H' d o rows kvs/\H' aa=some (.dK avs)/\Zg5 H' rows (rows.take i) avs;refine⟨Z,d,o,kvs,Y,(bk6.mono s68).at_,Za1 Zwb Iv2
    ⟨[],_,_,Z,s8,bk6.mono s68,uS,by rw[Yj2];exact .nil⟩ (λi σ H' _ h0=>by obtain⟨_,_,_,_,_,_,b,_⟩:=h0;exact b.at_) ?_ ?_⟩
   ·rintro i v σ H' hi ⟨avs,a,b,c,rfl,s9,bk9,haa9,hA⟩;rw[Yj]at hi;obtain⟨pr,hpr',e⟩:=Yf1.mp hi;obtain⟨r,hr',hk,_⟩:=Zaz bk9.ups hpr';have hmem:r∈rows:=Yf hr';have ev:v=.str r.1:=by rw[<- e,hk];rfl
    subst ev;have aaH:H aa=none:=s7.free haa;refine⟨Z,Z,d,o,rows,kvs,r.1,Y,bk9,g,Yh.mpr ⟨r,hmem,Y⟩,λx o' fk H10 hx s10 hxk hreach=>?_⟩;have hnew:(Sum.inr r.1:Key)∉avs.map (·.1):=by rw[hA.keys];exact Zgn g.nd hr'
    have hil:(rows.take i).length<=24:=by rw[Yk1];have:=g.le;omega
    have hkl:avs.length=(rows.take i).length:=(Yy hA).symm;have aa10:=s10 _ _ haa9;refine⟨Z,Z,aa,Z,Zqc.k (k:=Sum.inr r.1) aa10 (Zav (by omega)),?_⟩;have kp:∀ b u,b≠aa->H10 b=some u->(upd H10 aa (.dK (Zdv avs (Sum.inr r.1) (.ref x)))) b=some u:=λb u hb e=>by rw[Zab hb];exact e
    refine⟨_,_,_,Z,λb u e=>kp b u (nNo e aaH) (s10 _ _ (s9 _ _ e)),⟨kp _ _ (λz=>?_) (s10 _ _ bk9.at_),(bk9.ups.mono λb xs e=>s10 _ _ e).mono λb xs e=>kp _ _ (λz=>by rw[z,aa10]at e;cases e) e⟩,uS,?_⟩
    ·have:=bk9.at_;rw[z,haa9]at this;cases this
    ·rw[Zgc _ (Zcn hnew),Ym1,hr'];have fz:∀ b o'' fk',H10 b=some (.frz o'' (.dK fk'))->(upd H10 aa (.dK (avs++[(Sum.inr r.1,V.ref x)]))) b=some (.frz o'' (.dK fk')):=λb o'' fk' e=>by rw[Zab (λz=>by rw[z,aa10]at e;cases e)];exact e
     exact Yn2 ((hA.mono λb o'' fk' e=>s10 _ _ e).mono fz) ⟨Y,x,o',fk,Y,fz _ _ _ hxk,hreach⟩
   ·rintro σ H' ⟨avs,a,b,c,rfl,s9,bk9,haa9,hA⟩;have hkv:kvs.length=rows.length:=(Yy bk9.ups).symm;rw[Ya,hkv,Yp1]at hA;have aaH:H aa=none:=s7.free haa;refine⟨aa,avs,haa9,λoa=>?_⟩;have hp9:H' p=some (.ins C dx []):=s9 _ _ hp;have pa:p≠aa:=nNo hp aaH;have pd:p≠d:=nNo hp dH;have da:d≠aa:=λz=>by have:=bk9.at_;rw[z,haa9]at this;cases this
    refine⟨Z,Z,p,C,dx,[],Y,(by rw[Zab pa];exact hp9),TC.cl,TC.nU,(by show 0<1000;decide),Z,Z,p,C,dx,Z,uS,TC.cl,TC.nA,(by show 1<1000;decide),?_⟩;rw[Zgm];have kp:∀ b u,b≠p->b≠aa->H' b=some u->(upd (upd H' aa (.frz oa (.dK avs))) p (.ins C dx (Zuz d aa))) b=some u:=λb u h1 h2 e=>by rw[Zab h1,Zab h2];exact e
    refine q _ ⟨dx,d,aa,o,oa,kvs,avs,uS,⟨kp _ _ (Yu pd) da bk9.at_,bk9.ups.mono λb xs e=>kp _ _ (λz=>by rw[z,hp9]at e;cases e) (λz=>by rw[z,haa9]at e;cases e) e⟩,by rw[Zab (Yu pa)];exact uS,hA.mono λb o'' fk' e=>kp _ _ (λz=>by rw[z,hp9]at e;cases e) (λz=>by rw[z,haa9]at e;cases e) e⟩ λb u hb e=>kp _ _ hb (nNo e aaH) (s9 _ _ e)
def Ydf:Zah ["self","word"] ["self","word"] (Zad Zgb):=by nofun
def Zw2(F:Fun K "has" "Kinds.has" Zgb f fd)(TC:Zqd K C):⋯ 1 f fd ["self","word"] (Zzo C):=by
 nomatch F.ok Ydf
 ·obtain⟨p,rows,x,rfl,_⟩:=h;rfl
 ·obtain⟨p,rows,x,rfl,⟨dx,d,a,o,oa,kvs,avs,h1,h2,h3,h4⟩,g,q⟩:=h;have hu:=Zgx hr
  ac_nf
  refine⟨_,Zac (Zak (Z2l (Zl3 hu (pv 1) (Zfy (pv 0) rfl)))),?_⟩;refine⟨Z,Z,p,C,dx,_,Z,h1,TC.cl,TC.nU,Z2s _ _,d,Z,Zht.f (k:=Sum.inr x) h2.at_,?_⟩;have e:(Zf0 kvs (Sum.inr x:Key)).isSome=decide (x∈rows.map (·.1)):=by
   have hk:(Sum.inr x:Key)∈kvs.map (·.1)↔x∈rows.map (·.1):=by
    rw[h2.ups.keys];constructor
    ·intro m;obtain⟨r,hr',e⟩:=Yh.mp m;exact Yh.mpr ⟨r,hr',by injection e⟩
    ·intro m;obtain⟨r,hr',e⟩:=Yh.mp m;exact Yh.mpr ⟨r,hr',by rw[e]⟩
   by_cases z:x∈rows.map (·.1)
   ·rw[Zf3 (hk.mpr z),Jb z]
   ·rw[Zcn λk=>z (hk.mp k),Jc z];rfl
  rw[e];exact q
abbrev Z1w(K:Fg)(C fH:Addr)(fdH:FuncData):Prop:=Zqb K C "has" "Kinds.has" Zgb ["self","word"] fH fdH
def Ydj:Zah ["self","word"] ["self","word"] (Zad Zcy):=by nofun
def Zxa(d a:Addr):(Zuz d a).lookup ("has":Str)=none:=Znd d a (by rfl') (by rfl')
def Zsp(F:Fun K "check" "Kinds.check" Zcy f fd)(TC:Zqd K C)(MH:Z1w K C fH fdH):⋯ 2 f fd ["self","word"] (Zqm C):=by
 have GH:⋯ 1 fH fdH ["self","word"] (Zzo C):=Zw2 MH.fn TC
 nomatch F.ok Ydj
 ·obtain⟨p,rows,x,rfl,_⟩:=h;rfl
 ·obtain⟨p,rows,x,rfl,kd,g,hx,q⟩:=h;obtain⟨dx,d,a,o,oa,kvs,avs,h1,h2,h3,h4⟩:=kd.ex
  ac_nf
  refine⟨_,Zac (Za0 (Zcr (Zb1 (Zee (pv 0) TC.cl MH.me GH hr MH.b .nil Zct (pC (pv 1) Zaa)))) Zay Zal),?_⟩;refine⟨Z,p,dx,Z,h1,Zxa _ _,Z,p,rows,x,Y,kd,g,Z,?_⟩;rw[Jb hx];exact Zcg q
def Zm1(d a:Addr):(Zuz d a).lookup ("check":Str)=none:=Znd d a (by rfl') (by rfl')
def Yc1:Zah ["self","one","other"] ["self","one","other"] (Zad Zep):=by nofun
def Zz3(F:Fun K "under" "Kinds.under" Zep f fd)(TC:Zqd K C)(MC:Zqb K C "check" "Kinds.check" Zcy ["self","word"] fC fdC)(MH:Z1w K C fH fdH):⋯ 3 f fd ["self","one","other"] (Zvk C):=by
 have GC:⋯ 2 fC fdC ["self","word"] (Zqm C):=Zsp MC.fn TC MH
 nomatch F.ok Yc1
 ·obtain⟨p,rows,x,y,rfl,_⟩:=h;rfl
 ·obtain⟨p,rows,x,y,rfl,kd,g,hx,hy,q⟩:=h;obtain⟨dx,d,a,o,oa,kvs,avs,h1,h2,h3,h4⟩:=kd.ex;have hu:=Zgx hr
  ac_nf
  refine⟨_,pS (Za4 (Zee (pv 0) TC.cl MC.me GC hr MC.b .nil Zct (pC (pv 1) Zaa)))
   (pS (Za4 (Zee (pv 0) TC.cl MC.me GC hr MC.b .nil Zct (pC (pv 2) Zaa)))
   (Zac (Zak (Z2l (Zl3 hu (pv 2) (Zey hu (Zfy (pv 0) rfl) (pv 1) (λ_ _=>rfl))))))),?_⟩
  exists let b:=Zau _ a;Zau _ b _ _ _
  obtain⟨r,hr',er⟩:=Ze6 hx;obtain⟨t,o',fk,hv,ht,hreach⟩:=h4.val g.nd hr';refine⟨Z,p,dx,Z,h1,Zm1 _ _,Z,p,rows,x,Y,kd,g,hx,?_⟩;refine⟨Z,p,dx,Z,h1,Zm1 _ _,Z,p,rows,y,Y,kd,g,hy,?_⟩;refine⟨Z,Z,p,C,dx,_,Z,h1,TC.cl,TC.nA,Z7y _ _,Z,a,Z,(by rw[<- hv,er];exact Zht.f (k:=Sum.inr x) h3),t,Z,Zht.f (k:=Sum.inr y) ht,?_⟩;have e:(Zf0 fk (Sum.inr y:Key)).isSome=Zkh rows x y:=by
   have hh:=hreach y;rw[er]at hh;unfold Zkh;by_cases z:Graph.Reach (Zcl rows) x y
   ·rw[Zf3 (hh.mpr z)];exact(@Jb _ (Classical.propDecidable _) z).symm
   ·rw[Zcn λk=>z (hh.mp k)];exact(@Jc _ (Classical.propDecidable _) z).symm
  rw[e];exact q
def Z0r(d a:Addr):(Zuz d a).lookup ("under":Str)=none:=Znd d a (by rfl') (by rfl')
abbrev Z20(K:Fg)(C fC:Addr)(fdC:FuncData):Prop:=Zqb K C "check" "Kinds.check" Zcy ["self","word"] fC fdC
abbrev Z2z(K:Fg)(C fU:Addr)(fdU:FuncData):Prop:=Zqb K C "under" "Kinds.under" Zep ["self","one","other"] fU fdU
def Zmi(C:Addr):Sp:=λvs H Q _=>∃(p:Addr) (rows:RS),vs=[.ref p]/\Zbm C H p rows/\Zc4 rows/\∀ l H',H l=none->Zaj H H'->Ze3 H' l rows->Q (.ref l) H'
def Zss(d a:Addr):(Zuz d a).lookup ("rows":Str)=none:=Znd d a (by rfl') (by rfl')
def Yc3:Zah ["self"] ["self"] (Zad Zd5):=by nofun
def Zov(F:Fun K "rows" "Kinds.rows" Zd5 f fd)(TC:Zqd K C)(list:mg "list"=none):⋯ 1 f fd ["self"] (Zmi C):=by
 nomatch F.ok Yc3
 ·obtain⟨p,rows,rfl,_⟩:=h;rfl
 ·obtain⟨p,rows,rfl,⟨dx,d,a,o,oa,kvs,avs,h1,h2,h3,h4⟩,g,q⟩:=h;refine⟨_,Zac (Zak (Zon rfl (Zfy (pv 0) rfl) (by rfl) list)),?_⟩;refine⟨Z,p,C,dx,_,Z,h1,TC.cl,TC.nU,Z2s _ _,d,kvs,Y,.inr ⟨o,h2.at_⟩,λl H' vs hl s1 hlv hp=>?_⟩;refine q l H' hl s1 ⟨vs,hlv,Zde ?_ λi r v hr' hv=>?_⟩
  ·rw[<- hp.length];exact Yy h2.ups
  ·obtain⟨kv,hk,t,e,ht⟩:=Zaz hp hv;obtain⟨r2,hr2,e1,t2,e2,ht2⟩:=Zaz h2.ups hk;rw[hr']at hr2;cases hr2;refine⟨t,t2,e,?_,s1 _ _ ht2⟩;rw[ht,e1,e2];rfl
def Zdn(H:Hp)(all rows:RS)(avs:KL):Prop :=
 Paired (λr (p:Key×V)=>p.1=Sum.inr r.1/\∃(t:Addr) (fs:LS),p.2=.ref t/\H t=some (.lst (fs.map V.str))/\(∀ y,y∈fs↔Graph.Reach (Zcl all) r.1 y)/\fs.length<=all.length) rows avs
def Zdn.mono{H H':Hp}{all rows:RS}{avs:KL}(h:Zdn H all rows avs)(s:∀ b xs,H b=some (.lst xs)->H' b=some (.lst xs)):Zdn H' all rows avs :=
 Paired.mapP h λ_ _ z=>⟨z.1,let⟨t,fs,e,x,y⟩:=z.2;⟨t,fs,e,s _ _ x,y⟩⟩
theorem Zdn.keys:∀ {H:Hp}{all rows:RS}{kvs:KL},Zdn H all rows kvs->kvs.map (·.1)=rows.map λr=>(Sum.inr r.1:Key)
 | _,_,_,_,.nil=>rfl
 | _,_,_,_,.cons r t=>by rw[Yz,Yz,r.1,Zdn.keys t]
theorem Zdn.val':∀ {H:Hp}{all rows:RS}{kvs:KL},Zdn H all rows kvs->(rows.map (·.1)).Nodup->∀ {r:Str×LS},r∈rows->∃(t:Addr) (fs:LS),Zf0 kvs (Sum.inr r.1)=some (.ref t)/\H t=some (.lst (fs.map V.str))/\(∀ y,y∈fs↔Graph.Reach (Zcl all) r.1 y)/\fs.length<=all.length
 | _,_,_,_,.nil,_,r,h=>nomatch h
 | _,_,q :: rs,p :: ps,.cons z t,nd,r,h=>by
  have nd':(q.1 :: rs.map (·.1)).Nodup:=nd;obtain⟨n1,n2⟩:=Yt1.mp nd';obtain⟨z1,u,fs,z2,z3,z4⟩:=z
  rcases Yt.mp h with e | h
  ·subst e;exact⟨u,fs,by rw[Zb4 z1,z2],z3,z4⟩
  ·have ne:¬ p.1=(Sum.inr r.1:Key):=λe=>n1 (by
    rw[z1]at e;have e':q.1=r.1:=by injection e
    rw[e'];exact Yh.mpr ⟨r,h,Y⟩)
   obtain⟨u',fs',h1,h2⟩:=Zdn.val' t n2 h;exact⟨u',fs',by rw[Zb5 ne];exact h1,h2⟩
def Zr1:Sp:=λvs H Q _=>∃(l:Addr) (rows:RS),vs=[.ref l]/\Ze3 H l rows/\Zc4 rows/\∀ a avs H',Zaj H H'->H' a=some (.dK avs)->Zdn H' rows rows avs->Q (.ref a) H'
structure GoL(rows:RS)(x:Str)(fs:LS)(k:Nat):Prop where
 start:x∈fs
 known:∀ y∈fs,y∈rows.map (·.1)
 nd:fs.Nodup
 reach:∀ y∈fs,Graph.Reach (Zcl rows) x y
 closed:∀ y∈fs.take k,∀ u∈Zcl rows y,u∈fs
def GoL.le{rows:RS}{x:Str}{fs:LS}{k:Nat}(h:GoL rows x fs k):fs.length<=rows.length:=by
 have:=Graph.nodup_le h.nd h.known
 rwa [Ya]at this
def GoL.all{rows:RS}{x:Str}{fs:LS}{k:Nat}(h:GoL rows x fs k)(hk:fs.length<=k)(y:Str):y∈fs↔Graph.Reach (Zcl rows) x y :=
 ⟨h.reach y,λr=>Graph.closed_reach (S:=λy=>y∈fs) (λz hz u hu=>h.closed z (by rw[Ym2 hk];exact hz) u hu) r h.start⟩
def Zkf{rows:RS}(g:Zc4 rows){y u:Str}(hy:y∈rows.map (·.1))(hu:u∈Zcl rows y):u∈rows.map (·.1):=by
 obtain⟨r,hr,e⟩:=Ze6 hy;rw[<- e,Zh5 g.nd hr]at hu;exact g.known r hr u hu
abbrev nLA:LS:=["rows","ups","word","some","above","found","at","up"]
def Ybq:Zah nLA ["rows"] (Zad Zfc):=by nofun
def Zoy(F:Def K mg "_law_above" Zfc ["rows"] f fd)(len:mg "len"=none):⋯ 1 f fd ["rows"] Zr1:=by
 nomatch F.fn.ok Ybq
 ·obtain⟨l,rows,rfl,_⟩:=h;rfl
 ·obtain⟨l,rows,rfl,hR,g,q⟩:=h;have nd:=Ybq.nd;have hu:=Zgx hr
  ac_nf
  refine⟨_,pS (sE 1 nd Zfj)
   (pS (Zbh Yw rfl (Zbr (pv 0)) (Zeg rfl (gC (gE 2 nd) (gC (gE 3 nd) Zc0)))
    (Zac (Zft hu (pv 1) (pv 2) (pv 3) rfl)))
   (pS (sE 4 nd Zfj)
   (pS (Zbh Yw rfl (Zbr (pv 0)) (Zeg rfl (gC (gE 2 nd) (gC (gE 3 nd) Zc0)))
    (pS (sE 5 nd (Zbd (pC (pv 2) Zaa)))
    (pS (sE 6 nd Zaf)
    (pS (Zhi Yw (Zan Zos (pv 6) (Zao Zb8 (by rfl) len Yg1 (pC (pv 5) Zaa)) (Zar _))
     (pS (Zbh Yw rfl (Zgi (Zey hu (pv 1) (Za2 Zat (pv 5) (pv 6) (λ_ _=>rfl)) (λ_ _=>rfl))) (gE 7 nd)
      (Zac (Za0 (Zan Zjp (pv 7) (pv 5) (by with_unfolding_all rfl)) (Zac (Za4 (Zdg Ye1 Yn1 Yo1 Zbc (pv 5) (pC (pv 7) Zaa)))) Zal)))
     (Zac (sE 6 nd (Zax Zcb (pv 6) Zaf)))))
    (Zac (Zft hu (pv 4) (pv 2) (pv 5) rfl))))))
   (Zac (Zak (pv 4)))))),?_⟩
  exists let b:=_;let c:=_;let e:=_;let f:=Zlg _ e _;let g:=Zau (Zh3 _ _ f) c;let h:=Zau (Zn5 _ g) b;let i:=Zau _ h;let j:=Zau _ i;let k:=Zau (Zh3 _ _ j) a;let l:=Zau _ k;let m:=Zau _ l;Zau _ m _ _ _
  have gle:=g.le;obtain⟨vs,hvs,hpr⟩:=hR;intro d hd;have s1:Zaj H (upd H d (.dK [])):=λb o e=>by rw[Zab (nNo e hd)];exact e
  let Iv1:NW:=λi σ H'=>∃(kvs:KL) (a c:OV),σ=[some (.ref l),some (.ref d),a,c,none,none,none,none]/\Zaj H H'/\H' d=some (.dK kvs)/\Znv H' (rows.take i) kvs;refine⟨Z,l,Y,⟨_,SqL.of (s1 _ _ hvs)⟩,Za1 (Za8 (xs:=vs)) Iv1
   ⟨[],none,none,Y,s1,uS,by rw[Yj2];exact .nil⟩ (λi σ H' _ h0=>by obtain⟨_,_,_,_,s,_⟩:=h0;exact SqL.of (s _ _ hvs)) ?_ ?_⟩
  ·rintro i v σ H' hi ⟨kvs,a,c,rfl,s3,hdk,hU⟩;obtain⟨r,hr',t,u,rfl,ht,hug⟩:=Zaz hpr hi;refine⟨t,Z,SqT.of (s3 _ _ ht),Y,_,Z,_,Z,Y,?_⟩;have hnew:(Sum.inr r.1:Key)∉kvs.map (·.1):=by rw[hU.keys];exact Zgn g.nd hr'
   have hil:(rows.take i).length<=24:=by rw[Yk1];omega
   have hkl:kvs.length=(rows.take i).length:=(Yy hU).symm;refine⟨Z,Z,Z,d,Z,Zqc.k (k:=Sum.inr r.1) hdk (Zav (by omega)),?_⟩;have tk:∀ b xs,H' b=some (.tup xs)->(upd H' d (.dK (Zdv kvs (Sum.inr r.1) (.ref u)))) b=some (.tup xs):=λb xs e=>by
    rw[Zab (λz=>by rw[z,hdk]at e;cases e)];exact e
   refine⟨_,_,Z,λb o e=>by rw[Zab (nNo e hd)];exact s3 _ _ e,uS,?_⟩;have sn:Znv (upd H' d (.dK (Zdv kvs (Sum.inr r.1) (.ref u)))) (rows.take i++[r]) (kvs++[(Sum.inr r.1,V.ref u)]):=Yn2 (hU.mono tk) ⟨Y,u,Y,tk u _ (s3 _ _ hug)⟩;rw[<- Zgc _ (Zcn hnew)]at sn;rw[Ym1,hr'];exact sn
  ·rintro σ H2 ⟨kvs,a,c,rfl,s3,hdk,hU⟩;have hvl:=hpr.length;rw[<- hvl,Yp1]at hU;intro aa haa;have s4:Zaj H2 (upd H2 aa (.dK [])):=λb o e=>by rw[Zab (nNo e haa)];exact e
   have aaH:H aa=none:=s3.free haa;have daa:d≠aa:=nNo hdk haa;have hU4:Znv (upd H2 aa (.dK [])) rows kvs:=hU.mono λb xs e=>s4 _ _ e;have hd4:=s4 _ _ hdk;have s04:=s3.trans s4;let Iv2:NW:=λi σ H'=>∃(avs:KL) (a b c e f:OV),σ=[some (.ref l),some (.ref d),a,b,some (.ref aa),c,e,f]/\(∀ b o,b≠aa->H2 b=some o->H' b=some o)/\H' aa=some (.dK avs)/\Zdn H' rows (rows.take i) avs;refine⟨Z,l,Y,⟨_,SqL.of (s04 _ _ hvs)⟩,Za1 (Za8 (xs:=vs)) Iv2
    ⟨[],_,_,_,_,Z,λb o hb e=>by rw[Zab hb];exact e,uS,by rw[Yj2];exact .nil⟩ (λi σ H' _ h0=>by obtain⟨_,_,_,_,_,_,_,k,_⟩:=h0;exact SqL.of (k _ _ (nNo hvs aaH) (s3 _ _ hvs))) ?_ ?_⟩
   ·rintro i v σ H' hi ⟨avs,a,b,c,e,f',rfl,k1,haa1,hA⟩;obtain⟨r,hr',t,u,rfl,ht,hug⟩:=Zaz hpr hi;have hmem:r∈rows:=Yf hr';have keep1:∀ b o,H b=some o->H' b=some o:=λb o e=>k1 b o (nNo e aaH) (s3 _ _ e);refine⟨t,Z,SqT.of (keep1 _ _ ht),Y,_,Z,_,Z,Y,?_⟩;refine⟨Z,O,λfa hfa=>?_⟩;have sF:∀ {H5:Hp},Zaj H' H5->Znv H5 rows kvs:=λ{H5} s=>hU.mono λb xs e=>s _ _ (k1 b _ (λz=>by rw[z,haa]at e;cases e) e);have dF:∀ {H5:Hp},Zaj H' H5->H5 d=some (.dK kvs):=λ{H5} s=>s _ _ (k1 _ _ daa hdk);let Hv1:NW:=λm σ H5=>∃(fs:LS) (k:Nat) (f:OV),σ=[some (.ref l),some (.ref d),some (.str r.1),some (.ref u),some (.ref aa),some (.ref fa),some (.int (k:Int)),f]/\Zaj H' H5/\H5 fa=some (.lst (fs.map V.str))/\GoL rows r.1 fs k/\k<=fs.length/\m + k=rows.length;refine⟨Hv1,
     ⟨rows.length,[r.1],0,Z,λb o e=>by rw[Zab (nNo e hfa)];exact e,uS,⟨by simp,λy h=>by rw[Ye.mp h];exact Yh.mpr ⟨r,hmem,Y⟩,by simp,λy h=>by rw[Ye.mp h];exact .refl _,λy h=>by simp at h⟩,by simp,Y⟩,?_⟩
    rintro m σ H5 ⟨fs,k,f2,rfl,s5,hf5,go,hk,hm⟩;have flen:=go.le;refine⟨Z,Z,_,Z,.inl ⟨_,SqL.of hf5,Y⟩,_,Z,Y,Z,?_⟩;rw[Ya];refine Ze1 (λhlt=>?_) (λhlt=>?_)
    ·have hlt:k<fs.length:=by have:=Je hlt;omega
     let Hv2:SW:=λσ' H6=>∃ m',m'<m/\∃(fs:LS) (k:Nat) (f:OV),σ'=[some (.ref l),some (.ref d),some (.str r.1),some (.ref u),some (.ref aa),some (.ref fa),some (.int (k:Int)),f]/\Zaj H' H6/\H6 fa=some (.lst (fs.map V.str))/\GoL rows r.1 fs k/\k<=fs.length/\m' + k=rows.length;refine⟨Hv2,λ_ _ h=>h,?_⟩;have hat:fs[k]?=some fs[k]:=Yb hlt;generalize hhere:fs[k]=here at hat;have hin:here∈fs:=Yf hat;obtain⟨r2,hr2,er⟩:=Ze6 (go.known here hin);obtain⟨t2,hvt,ht2⟩:=(sF s5).val g.nd hr2;rw[er]at hvt;have uo:Zcl rows here=r2.2:=by rw[<- er];exact Zh5 g.nd hr2
     have hix:atI (fs.map V.str) (k:Int)=some (V.str here):=Zbl (by rw[Yj,hat];rfl);refine⟨Z,Z,Z,fa,_,_,Z,Y,SqL.of hf5,hix,d,Z,(by rw[<- hvt];exact Zht.k (k:=Sum.inr here) (dF s5)),t2,Y,⟨_,SqT.of ht2⟩,?_⟩;have ht2f:t2≠fa:=λz=>by rw[z,hf5]at ht2;cases ht2
     refine Za1 (Zc9 (xs:=r2.2.map V.str)) (λj σ H6=>∃(ex:LS) (f:OV),σ=[some (.ref l),some (.ref d),some (.str r.1),some (.ref u),some (.ref aa),some (.ref fa),some (.int (k:Int)),f]/\(∀ b o,b≠fa->H5 b=some o->H6 b=some o)/\H6 fa=some (.lst ((fs++ex).map V.str)) /\
      (∀ y∈fs++ex,y∈rows.map (·.1))/\(fs++ex).Nodup/\(∀ y∈fs++ex,Graph.Reach (Zcl rows) r.1 y)/\∀ z∈r2.2.take j,z∈fs++ex)
      ⟨[],Z,λb o _ e=>e,by rw[Yy1];exact hf5,by rw[Yy1];exact go.known,by rw[Yy1];exact go.nd,by rw[Yy1];exact go.reach,λz h=>by simp at h⟩ (λj σ H6 _ h0=>by obtain⟨_,_,_,k6,_⟩:=h0;exact SqT.of (k6 _ _ ht2f ht2)) ?_ ?_
     ·rintro j v σ H6 hj ⟨ex,f3,rfl,k6,hf6,kn,ndx,rch,seen⟩;obtain⟨z,hz,rfl⟩:=Zmh hj;have hzu:z∈Zcl rows here:=by rw[uo];exact Yf hz
      have hle:(fs++ex).length<=24:=by
       have:=Graph.nodup_le ndx kn;rw[Ya]at this;omega
      refine⟨Z,Z,fa,Z,.inl (SqL.of hf6),Y,Zg1 _,Z,?_⟩;show if(!inV (.str z) ((fs++ex).map V.str))=true then _ else _
      rw[Zje];have sj:∀ y∈r2.2.take (j + 1),y∈r2.2.take j\/y=z:=λy h=>by
       rw[Ym1,hz]at h
       rcases Yl.mp h with h | h
       ·exact .inl h
       ·simp at h;exact .inr h
      refine Ze1 (λhn=>?_) (λhn=>?_)
      ·have hn:z∉fs++ex:=λc=>by rw[Jb c]at hn;cases hn
       refine⟨Z,.inl ⟨Y,_,SqL.of hf6⟩,Z,fa,_,Z,Y,hf6,Zav (by rw[Ya];omega),?_⟩;refine⟨ex++[z],Z,λb o hb e=>by rw[Zab hb];exact k6 b o hb e,?_,?_,?_,?_,?_⟩
       ·have e:(fs++(ex++[z])).map V.str=(fs++ex).map V.str++[V.str z]:=by simp
        rw[uS,e]
       ·intro y hy;rw[<- Yx1]at hy
        rcases Yl.mp hy with h | h
        ·exact kn y h
        ·rw[Ye.mp h];exact Zkf g (go.known here hin) hzu
       ·rw[<- Yx1];refine List.nodup_append.mpr ⟨ndx,by simp,λa ha b hb e=>?_⟩;rw[Ye.mp hb]at e;rw[e]at ha;exact hn ha
       ·intro y hy;rw[<- Yx1]at hy
        rcases Yl.mp hy with h | h
        ·exact rch y h
        ·rw[Ye.mp h];exact(go.reach here hin).snoc hzu
       ·intro y hy;rw[<- Yx1]
        rcases sj y hy with h | h
        ·exact Yl.mpr (.inl (seen y h))
        ·rw[h];simp
      ·have hn:z∈fs++ex:=Yr4 λc=>hn (by rw[Jc c];rfl);refine⟨ex,Z,k6,hf6,kn,ndx,rch,λy hy=>?_⟩
       rcases sj y hy with h | h
       ·exact seen y h
       ·rw[h];exact hn
     ·rintro σ H6 ⟨ex,f3,rfl,k6,hf6,kn,ndx,rch,seen⟩;rw[Ya,Yp1]at seen;refine⟨Z,_,Z,Y,m - 1,W,fs++ex,k + 1,Z,λb o e=>k6 b o (nNo e hfa) (s5 _ _ e),hf6,⟨Yl.mpr (.inl go.start),kn,ndx,rch,?_⟩,by rw[Yc];omega,W⟩;intro y hy z hz;have htk:(fs++ex).take (k + 1)=fs.take k++[here]:=by
       rw[List.take_append_of_le_length (by omega),Ym1,hat];rfl
      rw[htk]at hy
      rcases Yl.mp hy with h | h
      ·exact Yl.mpr (.inl (go.closed y h z hz))
      ·rw[Ye.mp h,uo]at hz;exact seen z hz
    ·have hge:fs.length<=k:=by
      have:¬ ((k:Int)<(fs.length:Int)):=λz=>hlt (Jb z);omega
     have aa5:=s5 _ _ haa1;have hnew:(Sum.inr r.1:Key)∉avs.map (·.1):=by rw[hA.keys];exact Zgn g.nd hr'
     have hil:(rows.take i).length<=24:=by rw[Yk1];omega
     have hkl:avs.length=(rows.take i).length:=(Yy hA).symm;refine⟨Z,Z,Z,aa,Z,Zqc.k (k:=Sum.inr r.1) aa5 (Zav (by omega)),?_⟩;have lk:∀ b xs,H5 b=some (.lst xs)->(upd H5 aa (.dK (Zdv avs (Sum.inr r.1) (.ref fa)))) b=some (.lst xs):=λb xs e=>by
      rw[Zab (λz=>by rw[z,aa5]at e;cases e)];exact e
     refine⟨_,_,_,_,_,Z,λb o hb e=>by rw[Zab hb];exact s5 _ _ (k1 b o hb e),uS,?_⟩;have sn:Zdn (upd H5 aa (.dK (Zdv avs (Sum.inr r.1) (.ref fa)))) rows (rows.take i++[r]) (avs++[(Sum.inr r.1,V.ref fa)]):=Yn2 ((hA.mono λb xs e=>s5 _ _ e).mono lk) ⟨Y,fa,fs,Y,lk _ _ hf5,go.all hge,go.le⟩;rw[<- Zgc _ (Zcn hnew)]at sn;rw[Ym1,hr'];exact sn
   ·rintro σ H' ⟨avs,a,b,c,e,f',rfl,k1,haa1,hA⟩;rw[<- hvl,Yp1]at hA;exact⟨Z,q aa avs H' (λb o e=>k1 b o (nNo e aaH) (s3 _ _ e)) haa1 hA⟩
def Zys(rows:RS)(n:Nat)(xs:LS):Bool:=decide (xs.length=n)&&xs.all λx=>decide (x∈rows.map (·.1))
structure Zcj(rows:RS)(n:Nat)(xs:LS):Prop where
 len:xs.length=n
 known:∀ x∈xs,x∈rows.map (·.1)
def Zcj.is{rows:RS}{n:Nat}{xs:LS}(h:Zcj rows n xs):Zys rows n xs=true:=by
 unfold Zys;rw[Jb h.len,Yi2,Yq1];exact λx hx=>Jb (h.known x hx)
def Zmp(C:Addr):Sp:=λvs H Q _=>∃(p t:Addr) (n:Nat) (rows:RS) (xs:LS),vs=[.ref p,.int n,.ref t]/\Zbm C H p rows/\Zc4 rows/\H t=some (.tup (xs.map V.str))/\xs.length<=1000/\∀ H',Zaj H H'->Q (.bl (Zys rows n xs)) H'
def Zxq(rows:RS):V->V
 | .str x=>.bl (decide (x∈rows.map (·.1)))
 | _=>.non
def Zue(rows:RS)(xs:LS):(((xs.map V.str).filter λ_=>true).map (Zxq rows))=(xs.map λx=>decide (x∈rows.map (·.1))).map V.bl:=by
 rw[Yr2.mpr (λ_ _=>rfl),Ye2,Ye2];rfl
def Z9z:(["word","kinds"]:LS).Nodup:=by rfl'
abbrev nIC:LS:=["kinds","places","call"]
def Yde:Zah nIC nIC (Zad Zd3):=by nofun
def Zl8(F:Def K mg "is_call" Zd3 nIC f fd)(len:mg "len"=none)(all:mg "all"=none)(TC:Zqd K C)(MH:Z1w K C fH fdH):⋯ 2 f fd nIC (Zmp C):=by
 have GH:⋯ 1 fH fdH ["self","word"] (Zzo C):=Zw2 MH.fn TC
 nomatch F.fn.ok Yde
 ·obtain⟨p,t,n,rows,xs,rfl,_⟩:=h;rfl
 ·obtain⟨p,t,n,rows,xs,rfl,kd,g,ht,hz,q⟩:=h;obtain⟨dx,d,a,o,oa,kvs,avs,h1,_⟩:=kd.ex;have hr1:Zci 1 _:=hr.mono (by decide);refine'⟨_,Zac (Zak (Zgt ?ea (Zgs ?eb))),?_⟩
  case ea=>exact Zc1 Zdk (Zao Zap (by rfl) len Yg1 (pC (pv 2) Zaa)) (pv 1) (Zar _)
  case eb=>exact Zao (Zit rfl) (by rfl) all Yp4 (pC
    (Zbk ["word"] ["kinds"] [0] (λ_=>Zaw (osc:=Zad Zd3) (on:=nIC) (by rfl') rfl rfl rfl) (Zgi (pv 2)) (λC s H fp=>Zai (i:=0) Z9z rfl (Or.inl rfl) (Or.inr rfl)) (λC s H fp=>Zbj)
     (λC s H fp=>Zee (pv 1) TC.cl MH.me GH hr1 MH.b .nil Zct (pC (pv 0) Zaa))) Zaa)
  refine⟨Z,t,Z,.inr (SqT.of ht),Z,Y,Z,?_⟩;have e:decide (V.int ((xs.map V.str).length:Nat)=V.int n)=decide (xs.length=n):=by
   rw[Ya];exact Yw2.mpr ⟨λz=>by injection z with z;omega,λz=>by rw[z]⟩
  rw[e];refine Ze1 (λh=>?_) (λh=>?_)
  ·refine⟨Z,t,Y,⟨_,SqT.of ht⟩,Zd9 (Zc9 (xs:=xs.map V.str)) (sL (by rw[Ya];omega)) (λ_=>true) (Zxq rows) (λD ys hD=>SqT.of (by rw[Zab (nNo ht hD)];exact ht)) ?_ ?_ ?_⟩
   ·intro D ys v R _ _ hR;exact hR
   ·intro D ys v R hD hv _ hR;obtain⟨x,hx,rfl⟩:=Yh.mp hv;have s2:Zaj H (upd H D (.lst ys)):=Zbg hD;exact⟨Z,p,dx,Z,s2 _ _ h1,Zxa _ _,Z,p,rows,x,Y,kd.mono s2,g,hR⟩
   ·intro D hD;refine⟨D,Z,SqL.of (by rw[uS,Zue]),?_⟩;have q':=q _ (Zbg (o:=.lst (((xs.map V.str).filter λ_=>true).map (Zxq rows))) hD);unfold Zys at q';rw[h,Yi2]at q';show Q (.bl ((xs.map λx=>decide (x∈rows.map (·.1))).all id)) _;rw[List.all_map];exact q'
  ·have q':=q H (Zaj.refl H);unfold Zys at q';rw[show decide (xs.length=n)=false by simpa using h,Yo3]at q';exact q'
def Zb3(H:Hp)(ds:List (LS))(vs:LV):Prop:=Paired (λ(d:LS) v=>∃ t,v=V.ref t/\H t=some (.tup (d.map V.str))) ds vs
def Zb3.mono{H H':Hp}{ds:List (LS)}{vs:LV}(h:Zb3 H ds vs)(s:Zaj H H'):Zb3 H' ds vs:=Paired.mapP h λ_ _ ⟨t,e,x⟩=>⟨t,e,s _ _ x⟩
structure Zbw(rows:RS)(n:Nat)(ds:List (LS)):Prop where
 call:∀ d∈ds,Zcj rows n d
 nd:ds.Nodup
 few:ds.length<=64
def Zuy(d:LS):List Key:=d.map Sum.inr
def Z00(d:LS):(Zuy d).map kV=d.map V.str:=by
 unfold Zuy;rw[Ye2];rfl
def Z01{d e:LS}(h:Zuy d=Zuy e):d=e:=by
 unfold Zuy at h;exact List.map_inj_right (λa b z=>by injection z) |>.mp h
def Ztm{ds:List (LS)}(nd:ds.Nodup){i:Nat}{d:LS}(h:ds[i]?=some d):Zuy d∉(ds.take i).map Zuy:=by
 intro m;obtain⟨e,he,q⟩:=Yh.mp m;rw[Z01 q]at he;exact Zo6 nd h he
def Zjm(K:Fg)(C:Addr):Sp:=λvs H Q _=>∃(p l:Addr) (n:Nat) (b:Bool) (rows:RS) (ds:List (LS)) (us:LV),vs=[.ref p,.int n,.ref l]/\Zbm C H p rows/\Zc4 rows/\SqB K b H l us/\Zb3 H ds us/\Zbw rows n ds/\n<=4/\∀ H',Zaj H H'->Q .non H'
abbrev nCD:LS:=["kinds","places","deeds","seen","number","call"]
def Yb5:Zah nCD ["kinds","places","deeds"] (Zad Zen):=by nofun
def Zlj(F:Def K mg "check_deeds" Zen ["kinds","places","deeds"] f fd)(DI:Def K mg "is_call" Zd3 nIC fI fdI)(enum:mg "enumerate"=none)(len:mg "len"=none)(all:mg "all"=none)(TC:Zqd K C)(MH:Z1w K C fH fdH):
  ⋯ 3 f fd ["kinds","places","deeds"] (Zjm K C):=by
 have GI:⋯ 2 fI fdI nIC (Zmp C):=Zl8 DI len all TC MH
 nomatch F.fn.ok Yb5
 ·obtain⟨p,l,n,b,rows,ds,us,rfl,_⟩:=h;rfl
 ·obtain⟨p,l,n,b,rows,ds,us,rfl,kd,g,hl,hD,gd,hn,q⟩:=h;have nd:=Yb5.nd;have hu:=Zgx hr;refine⟨_,pS (sE 3 nd Zzz)
   (Zac (Zbh Yw rfl (Zqs (by rfl) enum (pC (pv 2) Zaa)) (Zeg rfl (gC (gE 4 nd) (gC (gE 5 nd) Zc0)))
    (pS (Za0 (Zcr (Zb1 (Zae DI GI hr (pC (pv 0) (pC (pv 1) (pC (pv 5) Zaa)))))) Zay Zal)
    (pS (Za0 (Zii (Zl3 hu (pv 5) (pv 3))) Zay Zal)
    (Zac (Zft hu (pv 3) (pv 5) Zge rfl)))))),?_⟩
  intro d hd;have s0:Zaj H (upd H d (.dT [])):=Zbg hd;have hvl:=hD.length;have few:=gd.few;let Iv1:NW:=λi σ H'=>∃(kvs:List (List Key×V)) (a c:OV),σ=[some (.ref p),some (.int n),some (.ref l),some (.ref d),a,c]/\Zaj H H'/\H' d=some (.dT kvs)/\kvs.map (·.1)=(ds.take i).map Zuy;refine⟨Z,b,l,us,Y,hl.mono s0,Zgz Iv1
   ⟨[],none,none,Y,s0,uS,by simp⟩ (λi σ H' _ h0=>by obtain⟨_,_,_,_,s,_⟩:=h0;exact hl.mono s) ?_ ?_⟩
  ·rintro i pr t σ H' hi ⟨kvs,a,c,rfl,s1,hdk,hk⟩ ht0;obtain⟨e1,hx⟩:=Ze2 hi;obtain⟨dd,hdd,t2,e2,ht2⟩:=Zaz hD hx;refine Zpp ?_;have s2:Zaj H' (upd H' t (.tup [pr.1,pr.2])):=Zbg ht0;have hmem:dd∈ds:=Yf hdd;have gc:=gd.call dd hmem;rw[e2];show Zau _ _ _ [some (.ref p),some (.int n),some (.ref l),some (.ref d),some pr.1,some (.ref t2)] _;have s02:=s1.trans s2;refine⟨Z,Z,Z,p,t2,n,rows,dd,Y,kd.mono ?_,g,?_,by have:=gc.len;omega,λH3 s3=>⟨Z,?_⟩⟩
   ·rw[<- e2];exact s02
   ·rw[<- e2];exact s02 _ _ ht2
   rw[gc.is];refine Zcg ?_;rw[<- e2]at s3;have s03:=s02.trans s3;have hd3:H3 d=some (.dT kvs):=s3 _ _ (s2 _ _ hdk);have ht3:H3 t2=some (.tup ((Zuy dd).map kV)):=by rw[Z00];exact s03 _ _ ht2
   refine⟨Z,Z,d,Z,Zht.t (k:=Zuy dd) hd3 ht3,Z,?_⟩;have hnew:Zuy dd∉kvs.map (·.1):=by rw[hk];exact Ztm gd.nd hdd
   rw[Zlp hnew];refine Zcg ?_;have hkl:kvs.length=(ds.take i).length:=by have:=congrArg List.length hk;simpa using this
   have hil:(ds.take i).length<=64:=by rw[Yk1];omega
   refine⟨Z,Z,d,Z,Zqc.t (k:=Zuy dd) hd3 ht3 (Zav (by omega)),?_⟩;refine⟨_,_,Z,λb o e=>?_,uS,?_⟩
   ·rw[Zab (nNo e hd)];exact s03 _ _ e
   ·rw[Ztt hnew,hk,Ym1,hdd,Yr];rfl
  ·rintro σ H' ⟨kvs,a,c,rfl,s1,hdk,hk⟩;exact q H' s1
def Yeb:¬ (("book":Str)="stands"):=by rfl'
def Yea:¬ (("book":Str)="width"):=by rfl'
def Yd9:¬ (("width":Str)="stands"):=by rfl'
def Ziq(k t:Addr)(n:Nat):List (Str×V):=Zhh "stands" (.ref t) (Zhh "width" (.int n) (Zhh "book" (.ref k) []))
def Z4v(k t:Addr)(n:Nat):(Ziq k t n).lookup ("book":Str)=some (.ref k):=by
 unfold Ziq;rw[Zas,if_neg Yeb,Zas,if_neg Yea,Zas,if_pos rfl]
def Z4t(k t:Addr)(n:Nat):(Ziq k t n).lookup ("width":Str)=some (.int n):=by
 unfold Ziq;rw[Zas,if_neg Yd9,Zas,if_pos rfl]
def Z4u(k t:Addr)(n:Nat):(Ziq k t n).lookup ("stands":Str)=some (.ref t):=by
 unfold Ziq;rw[Zas,if_pos rfl]
def Znf(k t:Addr)(n:Nat){m:Str}(h1:¬ m="stands")(h2:¬ m="width")(h3:¬ m="book"):(Ziq k t n).lookup m=none:=by
 unfold Ziq;rw[Zas,if_neg h1,Zas,if_neg h2,Zas,if_neg h3];rfl
def Zpb(k t:Addr)(n:Nat):(Ziq k t n).lookup ("kinds":Str)=none:=Znf k t n (by rfl') (by rfl') (by rfl')
def Zi8(k t:Addr)(n:Nat):(Ziq k t n).lookup ("places":Str)=none:=Znf k t n (by rfl') (by rfl') (by rfl')
def Zk0(k t:Addr)(n:Nat):(Ziq k t n).lookup ("deeds":Str)=none:=Znf k t n (by rfl') (by rfl') (by rfl')
structure Zc3(C B:Addr)(H:Hp)(p k:Addr)(rows:RS)(n:Nat)(ds:List (LS)):Prop where
 ex:∃(dx t:Addr) (us:LV),H p=some (.ins B dx (Ziq k t n))/\Zbm C H k rows/\H t=some (.tup us)/\Zb3 H ds us
theorem Zc3.mono{C B:Addr}{H H':Hp}{p k:Addr}{rows:RS}{n:Nat}{ds:List (LS)}(h:Zc3 C B H p k rows n ds)(s:Zaj H H'):Zc3 C B H' p k rows n ds:=by
 obtain⟨dx,t,us,h1,h2,h3,h4⟩:=h.ex;exact⟨dx,t,us,s _ _ h1,h2.mono s,s _ _ h3,h4.mono s⟩
structure Znr(K:Fg)(B:Addr):Prop where
 cl:Cls K B
 nB:Zfr K B "book"
 nW:Zfr K B "width"
 nS:Zfr K B "stands"
structure Z5d(mg:Str->OU):Prop where
 places:∃ t,mg "MOST_PLACES"=some (.int 4 t)
 deeds:∃ t,mg "MOST_DEEDS"=some (.int 64 t)
 len:mg "len"=none
 all:mg "all"=none
 tuple:mg "tuple"=none
 list:mg "list"=none
 enum:mg "enumerate"=none
def Zqn(K:Fg)(C B:Addr):Sp:=λvs H Q _=>∃(p dx k l:Addr) (n:Nat) (rows:RS) (ds:List (LS)) (us:LV),vs=[.ref p,.ref k,.int n,.ref l]/\H p=some (.ins B dx [])/\Zbm C H k rows/\Zc4 rows/\(SqL K H l us\/H l=some (.tup us))/\Zb3 H ds us/\Zbw rows n ds/\1<=n/\n<=4 /\
 ∀ H',Zc3 C B H' p k rows n ds->(∀ b o,b≠p->H b=some o->H' b=some o)->Q .non H'
def Zhn{C p:Addr}{H H':Hp}{k:Addr}{rows:RS}{o:HO}(h:Zbm C H k rows)(hp:H p=some o)(s:∀ b o,b≠p->H b=some o->H' b=some o)(nk:k≠p)(no:∀ o' u,o≠.frz o' u)(nt:∀ xs,o≠.tup xs):Zbm C H' k rows:=by
 obtain⟨dx,d,a,o1,oa,kvs,avs,h1,h2,h3,h4⟩:=h.ex;have ne:∀ {b o' u},H b=some (.frz o' u)->b≠p:=λ{b o' u} e z=>by rw[z,hp]at e;exact no _ _ (Ym e)
 have net:∀ {b xs},H b=some (.tup xs)->b≠p:=λ{b xs} e z=>by rw[z,hp]at e;exact nt _ (Ym e)
 exact⟨dx,d,a,o1,oa,kvs,avs,s _ _ nk h1,⟨s _ _ (ne h2.at_) h2.at_,h2.ups.mono λb xs e=>s _ _ (net e) e⟩,s _ _ (ne h3) h3,h4.mono λb o' fk e=>s _ _ (ne e) e⟩
abbrev nBI:LS:=["self","kinds","places","deeds"]
def Ydo:Zah nBI nBI (Zad Zed):=by nofun
def Z0l(F:Fun K "__init__" "Board.__init__" Zed f fd)(T:Z5d mg)(TB:Znr K B)(TC:Zqd K C)(DD:Def K mg "check_deeds" Zen ["kinds","places","deeds"] fD fdD)(DI:Def K mg "is_call" Zd3 nIC fI fdI)(MH:Z1w K C fH fdH)(hBC:B≠C):
  ⋯ 4 f fd nBI (Zqn K C B):=by
 have GD:⋯ 3 fD fdD ["kinds","places","deeds"] (Zjm K C):=Zlj DD DI T.enum T.len T.all TC MH
 nomatch F.ok Ydo
 ·obtain⟨p,dx,k,l,n,rows,ds,us,rfl,_⟩:=h;rfl
 ·obtain⟨p,dx,k,l,n,rows,ds,us,rfl,hp,kd,g,hl,hD,gd,n1,n4,q⟩:=h;obtain⟨b,hl,hb0⟩:∃ b,SqB K b H l us/\(b=false->H l=some (.tup us)):=by
   rcases hl with hl | hl
   ·exact⟨true,hl,λz=>by cases z⟩
   ·exact⟨false,SqT.of hl,λ_=>hl⟩
  obtain⟨t1,hP⟩:=T.places;obtain⟨t2,hM⟩:=T.deeds;have hr3:Zci 3 _:=hr.mono (by decide);refine⟨_,pS (Za0 (Zcr (Zj1 Zjt Zjt Zaf (pv 2) (Zdw (v:=.int 4) (by rfl) hP ⟨Z⟩))) Zay Zal)
   (pS (Za0 (Zan Zkt (Zao Zb8 (by rfl) T.len Yg1 (pC (pv 3) Zaa)) (Zdw (v:=.int 64) (by rfl) hM ⟨Z⟩) (Zar _)) Zay Zal)
   (pS (Za4 (Zae DD GD hr3 (pC (pv 1) (pC (pv 2) (pC (pv 3) Zaa)))))
   (pS (Zjo (pv 0) (pv 1) rfl) (pS (Zjo (pv 0) (pv 2) rfl)
   (Zac (Zjo (pv 0) (Za5 Za9 (by rfl) T.tuple Yu1 (pC (pv 3) Zaa)) rfl)))))),?_⟩
  refine⟨Z,_,Z,Y,Z,?_⟩;rw[show decide ((1:Int)<=(n:Int))=true from Jb (by omega)];refine Ze5 ⟨_,Z,Y,Z,?_⟩;rw[show(decide ((n:Int)<=4))=true from Jb (by omega)];refine Zcg ?_;have hul:=hD.length;have few:=gd.few;refine⟨Z,_,Z,Zm9 hl,_,Z,Y,Z,?_⟩;rw[show decide ((64:Int)<(us.length:Int))=false from Jc (by omega)];refine Zcg ?_;refine⟨Z,Z,Z,p |> λ_=>k,l,n,b,rows,ds,us,Y,kd,g,hl,hD,gd,n4,λH1 s1=>?_⟩;have hp1:=s1 _ _ hp;have kd1:=kd.mono s1;have nkp:k≠p:=by
   intro z;obtain⟨dx',d,a,o,oa,kvs,avs,h1,_⟩:=kd.ex;rw[z,hp]at h1;injection h1 with h1;injection h1 with h1;exact hBC h1
  refine⟨Z,Z,p,B,dx,[],Y,hp1,TB.cl,TB.nB,(by show 0<1000;decide),?_⟩;refine⟨Z,Z,p,B,dx,Z,uS,TB.cl,TB.nW,(by show 1<1000;decide),?_⟩;rw[Zgm];have kp:∀ {fs:List (Str×V)} (b:Addr) (o:HO),b≠p->H b=some o->(upd H1 p (.ins B dx fs)) b=some o:=λb o hb e=>by rw[Zab hb];exact s1 _ _ e
  have hlp:∀ {fs:List (Str×V)},SqB K b (upd H1 p (.ins B dx fs)) l us:=λ{fs}=>by
   have hl1:=hl.mono s1;cases b with
   | true =>
    rcases(show SqL K H1 l us from hl1)with(e | ⟨o,e⟩) | e
    ·exact .inl (.inl (by rw[Zab (λz=>by rw[z,hp1]at e;cases e)];exact e))
    ·exact .inl (.inr ⟨o,by rw[Zab (λz=>by rw[z,hp1]at e;cases e)];exact e⟩)
    ·exact .inr e
   | false =>
    rcases(show SqT K H1 l us from hl1)with(e | ⟨o,e⟩) | e
    ·exact .inl (.inl (by rw[Zab (λz=>by rw[z,hp1]at e;cases e)];exact e))
    ·exact .inl (.inr ⟨o,by rw[Zab (λz=>by rw[z,hp1]at e;cases e)];exact e⟩)
    ·exact .inr e
  have fin:∀(t:Addr) (H2:Hp),Zaj (upd H1 p (.ins B dx (Zhh "width" (.int n) (Zhh "book" (.ref k) [])))) H2->H2 t=some (.tup us)->Q .non (upd H2 p (.ins B dx (Ziq k t n))):=λt H2 s2 ht=>by
   have hp2:H2 p=some (.ins B dx (Zhh "width" (.int n) (Zhh "book" (.ref k) []))):=s2 _ _ uS;have k2:∀ b o,b≠p->H b=some o->(upd H2 p (.ins B dx (Ziq k t n))) b=some o:=λb o hb e=>by rw[Zab hb];exact s2 _ _ (kp b o hb e)
   refine q _ ⟨dx,t,us,uS,Zhn kd hp k2 nkp (λ_ _ z=>by cases z) (λ_ z=>by cases z),by rw[Zab (λz=>by rw[z,hp2]at ht;cases ht)];exact ht,Paired.mapP hD λd v ⟨t',e,x⟩=>⟨t',e,k2 _ _ (λz=>by rw[z,hp]at x;cases x) x⟩⟩ k2
  refine⟨Z,l,us,Y,?_⟩;have no:=hlp (fs:=Zhh "width" (.int n) (Zhh "book" (.ref k) []));have wd:(Zhh "width" (V.int n) (Zhh "book" (V.ref k) [])).length<1000:=by show 2<1000;decide
  cases b with
  | true =>
   refine .inl ⟨no,λt ht=>⟨Z,p,B,dx,Z,(Zbg ht) _ _ uS,TB.cl,TB.nS,wd,fin t _ (Zbg ht) uS⟩⟩
  | false =>
   have e:(upd H1 p (.ins B dx (Zhh "width" (.int n) (Zhh "book" (.ref k) [])))) l=some (.tup us):=by
    have e0:=s1 _ _ (hb0 rfl);rw[Zab (λz=>by rw[z,hp1]at e0;cases e0)];exact e0
   exact .inr ⟨no,Z,p,B,dx,Z,uS,TB.cl,TB.nS,wd,fin l _ (Zaj.refl _) e⟩
def Zmq(C B:Addr):Sp:=λvs H Q _=>∃(p k:Addr) (rows:RS) (n:Nat) (ds:List (LS)),vs=[.ref p]/\Zc3 C B H p k rows n ds/\Q (.ref k) H
def Zh6(C B:Addr):Sp:=λvs H Q _=>∃(p k:Addr) (rows:RS) (n:Nat) (ds:List (LS)),vs=[.ref p]/\Zc3 C B H p k rows n ds/\Q (.int n) H
def Zjz(C B:Addr):Sp:=λvs H Q _=>∃(p k:Addr) (rows:RS) (n:Nat) (ds:List (LS)),vs=[.ref p]/\Zc3 C B H p k rows n ds/\∀ l us,H l=none->Zb3 H ds us->Q (.ref l) (upd H l (.lst us))
def Ydn:Zah ["self"] ["self"] (Zad Zeq):=by nofun
def Zo5(F:Fun K "kinds" "Board.kinds" Zeq f fd)(TB:Znr K B):⋯ 1 f fd ["self"] (Zmq C B):=by
 nomatch F.ok Ydn
 ·obtain⟨p,k,rows,n,ds,rfl,_⟩:=h;rfl
 ·obtain⟨p,k,rows,n,ds,rfl,⟨dx,t,us,h1,h2,h3,h4⟩,q⟩:=h;exact⟨_,Zac (Zak (Zfy (pv 0) rfl)),Z,p,B,dx,_,Z,h1,TB.cl,TB.nB,Z4v _ _ _,q⟩
def Ydm:Zah ["self"] ["self"] (Zad Zd0):=by nofun
def Zi7(F:Fun K "places" "Board.places" Zd0 f fd)(TB:Znr K B):⋯ 1 f fd ["self"] (Zh6 C B):=by
 nomatch F.ok Ydm
 ·obtain⟨p,k,rows,n,ds,rfl,_⟩:=h;rfl
 ·obtain⟨p,k,rows,n,ds,rfl,⟨dx,t,us,h1,h2,h3,h4⟩,q⟩:=h;exact⟨_,Zac (Zak (Zfy (pv 0) rfl)),Z,p,B,dx,_,Z,h1,TB.cl,TB.nW,Z4t _ _ _,q⟩
def Ydp:Zah ["self"] ["self"] (Zad Zer):=by nofun
def Zky(F:Fun K "deeds" "Board.deeds" Zer f fd)(TB:Znr K B)(list:mg "list"=none):⋯ 1 f fd ["self"] (Zjz C B):=by
 nomatch F.ok Ydp
 ·obtain⟨p,k,rows,n,ds,rfl,_⟩:=h;rfl
 ·obtain⟨p,k,rows,n,ds,rfl,⟨dx,t,us,h1,h2,h3,h4⟩,q⟩:=h;exact⟨_,Zac (Zak (Za5 Zeb (by rfl) list Yp2 (pC (Zfy (pv 0) rfl) Zaa))),Z,p,B,dx,_,Z,h1,TB.cl,TB.nS,Z4u _ _ _,t,us,Y,.inr (SqT.of h3),λl hl=>q l us hl h4⟩
abbrev Zy8(K:Fg)(B f:Addr)(fd:FuncData):Prop:=Zqb K B "kinds" "Board.kinds" Zeq ["self"] f fd
abbrev Znt(K:Fg)(B f:Addr)(fd:FuncData):Prop:=Zqb K B "places" "Board.places" Zd0 ["self"] f fd
abbrev Zrp(K:Fg)(B f:Addr)(fd:FuncData):Prop:=Zqb K B "deeds" "Board.deeds" Zer ["self"] f fd
def Zbz(rows:RS)(xs ys:LS):Bool:=(xs.zip ys).all λp=>Zkh rows p.1 p.2
def Z8y(p:Str×Str):V×V:=(V.str p.1,V.str p.2)
def Zu2(xs ys:LS):(xs.map V.str).zip (ys.map V.str)=(xs.zip ys).map Z8y:=by rw[List.zip_map];rfl
def Zpf{α β:Type}{f:α->β}{l:List α}{i:Nat}{y:β}(h:(l.map f)[i]?=some y):∃ x,l[i]?=some x/\f x=y:=by
 rw[Yj]at h;exact Yf1.mp h
def Zjx(C:Addr):Sp:=λvs H Q _=>∃(p a b:Addr) (rows:RS) (xs ys:LS),vs=[.ref p,.ref a,.ref b]/\Zbm C H p rows/\Zc4 rows/\H a=some (.tup (xs.map V.str))/\H b=some (.tup (ys.map V.str))/\(∀ x∈xs,x∈rows.map (·.1))/\(∀ y∈ys,y∈rows.map (·.1)) /\
 ∀ H',Zaj H H'->Q (.bl (Zbz rows xs ys)) H'
def Zka(C:Addr):Sp:=λvs H Q _=>∃(p t:Addr) (n:Nat) (rows:RS) (xs:LS),vs=[.ref p,.int n,.ref t]/\Zbm C H p rows/\Zc4 rows/\H t=some (.tup (xs.map V.str))/\Zcj rows n xs/\n<=4/\∀ H',Zaj H H'->Q .non H'
def Z1f(rows:RS)(ds:List (LS))(xs:LS):LN:=(List.range ds.length).filter λi=>Zbz rows xs (ds.getD i [])
def Zod(C B:Addr):Sp:=λvs H Q _=>∃(p k t:Addr) (rows:RS) (n:Nat) (ds:List (LS)) (xs:LS),vs=[.ref p,.ref t]/\Zc3 C B H p k rows n ds/\Zc4 rows/\Zbw rows n ds/\n<=4/\H t=some (.tup (xs.map V.str))/\Zcj rows n xs /\
 ∀ l H',H l=none->Zaj H H'->H' l=some (.lst ((Z1f rows ds xs).map λi=>V.int (i:Nat)))->Q (.ref l) H'
abbrev nWi:LS:=["kinds","one","other","low","high"]
def Ybe:Zah nWi ["kinds","one","other"] (Zad Zg7):=by nofun
def Zou(F:Def K mg "within" Zg7 ["kinds","one","other"] f fd)(zip:mg "zip"=none)(TC:Zqd K C)(MU:Z2z K C fU fdU)(MC:Z20 K C fC fdC)(MH:Z1w K C fH fdH):
  ⋯ 4 f fd ["kinds","one","other"] (Zjx C):=by
 have GU:⋯ 3 fU fdU ["self","one","other"] (Zvk C):=Zz3 MU.fn TC MC MH
 nomatch F.fn.ok Ybe
 ·obtain⟨p,a,b,rows,xs,ys,rfl,_⟩:=h;rfl
 ·obtain⟨p,a,b,rows,xs,ys,rfl,kd,g,ha,hb,hx,hy,q⟩:=h;obtain⟨dx,d,a1,o,oa,kvs,avs,h1,_⟩:=kd.ex;have nd:=Ybe.nd
  ac_nf
  refine⟨_,pS (Zbh Yw rfl (Z6r (by rfl) zip (pC (pv 1) (pC (pv 2) Zaa))) (Zeg rfl (gC (gE 3 nd) (gC (gE 4 nd) Zc0)))
    (Zac (Za0 (Zcr (Zb1 (Zee (pv 0) TC.cl MU.me GU hr MU.b .nil Zct (pC (pv 3) (pC (pv 4) Zaa))))) (Zac (Zak Zge)) Zal)))
   (Zac (Zak Zge)),?_⟩
  exists let b:=_;Zau (Zh3 _ _ b) a _ _ _
  let Iv1:NW:=λi σ H'=>∃(u v:OV),σ=[some (.ref p),some (.ref a),some (.ref b),u,v]/\Zaj H H'/\∀ z∈(xs.zip ys).take i,Zkh rows z.1 z.2=true;refine⟨Z,Z,a,b,_,Z,SqT.of ha,SqT.of hb,Zgz Iv1
   ⟨none,none,Y,Zaj.refl H,by simp⟩ (λi σ H' _ h0=>by obtain⟨_,_,_,s,_⟩:=h0;exact⟨SqT.of (s _ _ ha),SqT.of (s _ _ hb)⟩) ?_ ?_⟩
  ·rintro i pr t σ H' hi ⟨u,v,rfl,s1,hall⟩ ht0;rw[Zu2]at hi;obtain⟨z,hz,rfl⟩:=Zpf hi;refine Zpp ?_;have s2:=s1.trans (Zbg (o:=.tup [(Z8y z).1,(Z8y z).2]) ht0);have zm:=Yf hz;have hzx:=hx _ (Yp5 zm).1;have hzy:=hy _ (Yp5 zm).2;refine⟨Z,p,dx,Z,s2 _ _ h1,Z0r _ _,Z,Z,p,rows,z.1,z.2,Y,kd.mono s2,g,hzx,hzy,Z,?_⟩;refine Ze1 (λh=>?_) (λh=>?_)
   ·have e:Zbz rows xs ys=false:=by
     unfold Zbz;rw[List.all_eq_false];exact⟨z,zm,by simpa using h⟩
    have q':=q _ s2;rw[e]at q';exact q'
   ·refine⟨_,Z,s2,λy hy'=>?_⟩;rw[Ym1,hz]at hy'
    rcases Yl.mp hy' with m | m
    ·exact hall y m
    ·have:y=z:=by simpa using m
     rw[this];simpa using h
  ·rintro σ H' ⟨u,v,rfl,s1,hall⟩;rw[Zu2,Ya,Yp1]at hall;have e:Zbz rows xs ys=true:=by
    unfold Zbz;rw[Yq1];exact hall
   have q':=q _ s1;rw[e]at q';exact q'
def Ydk:Zah nIC nIC (Zad Ze9):=by nofun
def Zmz(F:Def K mg "check_call" Ze9 nIC f fd)(DI:Def K mg "is_call" Zd3 nIC fI fdI)(len:mg "len"=none)(all:mg "all"=none)(TC:Zqd K C)(MH:Z1w K C fH fdH):⋯ 3 f fd nIC (Zka C):=by
 have GI:⋯ 2 fI fdI nIC (Zmp C):=Zl8 DI len all TC MH
 nomatch F.fn.ok Ydk
 ·obtain⟨p,t,n,rows,xs,rfl,_⟩:=h;rfl
 ·obtain⟨p,t,n,rows,xs,rfl,kd,g,ht,gc,hn,q⟩:=h
  ac_nf
  refine⟨_,Zac (Za0 (Zcr (Zb1 (Zae DI GI hr (pC (pv 0) (pC (pv 1) (pC (pv 2) Zaa)))))) Zay Zal),?_⟩;refine⟨Z,Z,Z,p,t,n,rows,xs,Y,kd,g,ht,by have:=gc.len;omega,λH' s'=>⟨Z,?_⟩⟩;rw[gc.is];exact Zcg (q H' s')
abbrev nFi:LS:=["board","call","kinds"]
def Ybv:Zah nFi ["board","call"] (Zad Zgq):=by nofun
def Z4a:(["number","deed","kinds","call"]:LS).Nodup:=by rfl'
def Yb9(p:V×V):V:=p.1
def Z1d{rows:RS}{ds:List (LS)}{xs:LS}{us:LV}{p:V×V->Bool}(hl:ds.length=us.length)(h:∀ i (d:LS) v,ds[i]?=some d->us[i]?=some v->p (.int (i:Nat),v)=Zbz rows xs d):
  ((Zg2 us).filter p).map Yb9=(Z1f rows ds xs).map λi=>V.int (i:Nat):=by
 have e1:Zg2 us=(List.range us.length).map λ(i:Nat)=>(V.int (i:Nat),us.getD i .non):=by
  refine List.ext_getElem? λi=>?_;by_cases hi:i<us.length
  ·have h1:(Zg2 us)[i]?=some ((Zg2 us)[i]'(by rw[Zc8];exact hi)):=Yb (by rw[Zc8];exact hi);obtain⟨a,b⟩:=Ze2 h1;rw[h1,Yj,List.getElem?_range hi];refine congrArg some (Prod.ext a ?_);show _=us.getD i .non;rw[Yo,b];rfl
  ·rw[List.getElem?_eq_none (by rw[Zc8];omega),List.getElem?_eq_none (by simp;omega)]
 rw[e1,List.filter_map,Ye2];unfold Z1f;rw[hl];have e2:(List.range us.length).filter (p ∘ λ(i:Nat)=>(V.int (i:Nat),us.getD i .non))=(List.range us.length).filter λi=>Zbz rows xs (ds.getD i []):=by
  refine List.filter_congr λi hi=>?_;have hi:i<us.length:=Yt2.mp hi;have d1:ds[i]?=some (ds.getD i []):=by rw[Yo,Yb (by omega)];rfl
  have u1:us[i]?=some (us.getD i .non):=by rw[Yo,Yb hi];rfl
  exact h i _ _ d1 u1
 rw[e2];rfl
def Ycj(rows:RS)(ds:List (LS))(xs:LS):V×V->Bool
 | (.int i,_)=>Zbz rows xs (ds.getD i.toNat [])
 | _=>false
def Zt3(F:Def K mg "fitting" Zgq ["board","call"] f fd)(T:Z5d mg)(zip:mg "zip"=none)(TC:Zqd K C)(TB:Znr K B)(MK:Zy8 K B fK fdK)(MP:Znt K B fPl fdPl)(MD:Zrp K B fDe fdDe)
  (DCk:Def K mg "check_call" Ze9 nIC fCk fdCk) (DW:Def K mg "within" Zg7 ["kinds","one","other"] fW fdW) (DI:Def K mg "is_call" Zd3 nIC fI fdI) (MU:Z2z K C fU fdU) (MC:Z20 K C fC fdC) (MH:Z1w K C fH fdH):
  ⋯ 5 f fd ["board","call"] (Zod C B):=by
 have GK:⋯ 1 fK fdK ["self"] (Zmq C B):=Zo5 MK.fn TB;have GP:⋯ 1 fPl fdPl ["self"] (Zh6 C B):=Zi7 MP.fn TB;have GD:⋯ 1 fDe fdDe ["self"] (Zjz C B):=Zky MD.fn TB T.list;have GC:⋯ 3 fCk fdCk nIC (Zka C):=Zmz DCk DI T.len T.all TC MH;have GW:⋯ 4 fW fdW ["kinds","one","other"] (Zjx C):=Zou DW zip TC MU MC MH
 nomatch F.fn.ok Ybv
 ·obtain⟨p,k,t,rows,n,ds,xs,rfl,_⟩:=h;rfl
 ·obtain⟨p,k,t,rows,n,ds,xs,rfl,bd,g,gd,hn,ht,gc,q⟩:=h;obtain⟨dx,ts,us,h1,h2,h3,h4⟩:=bd.ex;have nd:=Ybv.nd;have hr1:Zci 1 _:=hr.mono (by decide);have hr3:Zci 3 _:=hr.mono (by decide)
  ac_nf
  refine'⟨_,pS (Zag (i:=2) nd rfl (Or.inr rfl) (Zbv (pv 0) TB.cl MK.me GK hr1 MK.b .nil Zct))
   (pS (Za4 (Zae DCk GC hr3 (pC (pv 2) (pC (Zbv (pv 0) TB.cl MP.me GP hr1 MP.b .nil Zct) (pC (pv 1) Zaa)))))
   (Zac (Zak ?ea))),?_⟩
  case ea=>exact(Zbk ["number","deed"] ["kinds","call"] [2,1] (λ_=>Zaw (osc:=Zad Zgq) (on:=nFi) (by rfl') rfl rfl rfl) (Zqs (by rfl) T.enum (pC (Zbv (pv 0) TB.cl MD.me GD hr1 MD.b .nil Zct) Zaa))
    (λC s H fp=>Zl2 (K:=K) (i:=0) (j:=1) rfl rfl Z4a rfl rfl (Or.inl rfl) (Or.inl rfl) (Or.inr rfl) (Or.inr rfl))
    (λC s H fp=>Zi5 (Zb1 (Zae DW GW hr (pC (pv 2) (pC (pv 3) (pC (pv 1) Zaa)))))) (λC s H fp=>pv 0))
  exists let b:=Zau _ a;Zau _ b _ _ _
  refine⟨Z,p,dx,Z,h1,Zpb _ _ _,p,k,rows,n,ds,Y,bd,?_⟩;refine⟨Z,Z,p,dx,Z,h1,Zi8 _ _ _,p,k,rows,n,ds,Y,bd,Z,k,t,n,rows,xs,Y,h2,g,ht,gc,hn,λH1 s1=>?_⟩;refine⟨Z,p,dx,Z,s1 _ _ h1,Zk0 _ _ _,p,k,rows,n,ds,Y,bd.mono s1,λl us' hl hD=>?_⟩;have s2:Zaj H1 (upd H1 l (.lst us')):=Zbg hl;have hul:=hD.length;have few:=gd.few;refine⟨true,l,us',Y,SqL.of uS,Zpu (sL (by rw[Zc8];omega)) (Ycj rows ds xs) Yb9 (λH' s'=>SqL.of (s' _ _ uS)) ?_ ?_ ?_⟩
  ·intro x H' R s' hx hR;obtain⟨i,hi⟩:=List.getElem?_of_mem hx;obtain⟨e1,hu⟩:=Ze2 hi;obtain⟨dd,hdd,t2,e2,ht2⟩:=Zaz hD hu;have s02:=s1.trans (s2.trans s');have gcd:=gd.call dd (Yf hdd);rw[e2];refine⟨Z,Z,Z,k,t,t2,rows,xs,dd,Y,h2.mono s02,g,s02 _ _ ht,s' _ _ (s2 _ _ ht2),gc.known,gcd.known,λH3 s3=>⟨Z,?_⟩⟩;have e:Ycj rows ds xs x=Zbz rows xs dd:=by
    obtain⟨x1,x2⟩:=x;have e1:x1=.int (i:Nat):=e1;rw[e1];show Zbz rows xs (ds.getD ((i:Nat):Int).toNat [])=_;rw[Yf4,Yo,hdd];rfl
   rw[<- e];exact hR H3 s3
  ·intro x H' R s' hx _ hR;exact⟨Z,hR H' (Zaj.refl _)⟩
  ·intro D H' hD0 s' hl';have s02:=s1.trans (s2.trans s');refine q D H' ?_ s02 ?_
   ·cases e:H D with
    | none=>rfl
    | some u=>have:=s2 _ _ (s1 _ _ e);rw[this]at hD0;cases hD0
   ·rw[hl',Z1d hul λi d v hd hv=>?_];show Zbz rows xs (ds.getD ((i:Nat):Int).toNat [])=_;rw[Yf4,Yo,hd];rfl
def Zij{H:Hp}{p a:Addr}{o:HO}{ws:LS}(h:H p=some o)(ho:Zj4 o)(ha:H a=some (.lst (ws.map V.str))):p≠a:=Z38 h ha (by
 obtain⟨r,b,e,_⟩:=ho;rw[e];intro z;injection z with z;have z2:=congrArg (λl=>l[0]?) z;cases ws with
 | nil=>simp at z2
 | cons x r=>simp at z2)
theorem Drawn.tup{p:Addr}{H H':Hp}(d:Drawn p H H'){o:HO}(h:H p=some o)(ho:Zj4 o){t:Addr}{xs:LV}(e:H t=some (.tup xs)):H' t=some (.tup xs):=
 d.keep _ _ (λz=>by rw[z,h]at e;obtain⟨_,_,q,_⟩:=ho;rw[q]at e;cases e) e
def Zcq{H H':Hp}{l:Addr}{rows:RS}(h:Ze3 H l rows)(s:Zaj H H'):Ze3 H' l rows:=by
 obtain⟨vs,a,p⟩:=h;exact⟨vs,s _ _ a,Paired.mapP p λr v ⟨t,u,e,h1,h2⟩=>⟨t,u,e,s _ _ h1,s _ _ h2⟩⟩
def Ziw{K:Fg}{l:Addr}{H2:Hp}{rows:RS}{σ:St}{te:TE}{Q:VK}(hR:Ze3 H2 l rows)(few:rows.length<=100)
  (he:∀(t u:Addr) (x:Str) H' (R:VK),H' t=some (.tup [.str x,.ref u])->R (.str x) H'->te [some (.ref t)] H' R)
  (hd:∀ D H3,H2 D=none->Zaj H2 H3->H3 D=some (.lst ((rows.map (·.1)).map V.str))->Q (.ref D) H3):compBody 1 [] (Zgy 0) Ztn te σ Q (Itl K l) H2:=by
 obtain⟨vs,hvs,hpr⟩:=hR;refine Zhq (Za8 (xs:=vs)) (sL (by rw[<- hpr.length];omega)) (λ_=>true) (λ_ x v _=>∀ r,Z5e H2 r x->v=.str r.1) (λ_ _ _ _ _ _ h=>h) (λH' s=>s.seq (SqL.of hvs)) ?_ ?_ ?_
 ·intro x H3 R _ _ hR';exact hR' H3 (Zaj.refl _)
 ·intro D x H3 R s3 _ _ hx _ hR';obtain⟨i,hi⟩:=Yy3.mp hx;obtain⟨r,hr',t,u,rfl,ht,hu'⟩:=Zaz hpr hi;refine he t u r.1 H3 R (s3 _ _ ht) (hR' _ _ (Zaj.refl _) λr' h'=>?_);obtain⟨t',u',e1,e2,_⟩:=h';cases e1;rw[ht]at e2;have e2:=Ym e2;injection e2 with e2;injection e2 with e2 _
 ·intro D H3 ys hD s23 hlD hpD;rw[Znp]at hpD;have eys:ys=(rows.map (·.1)).map V.str:=by
   have:∀ {rows:RS} {vs ys:LV},Paired (Z5e H2) rows vs->Paired (λx v=>∀ r,Z5e H2 r x->v=.str r.1) vs ys->ys=(rows.map (·.1)).map V.str:=by
    intro rows vs ys a
    induction a generalizing ys with
    | nil=>intro b;cases b;rfl
    | cons h t ih =>
     intro b;cases b with
     | cons h' t'=>rw[Yz,Yz,h' _ h,ih t']
   exact this hpr hpD
  subst eys;exact hd D H3 hD s23 hlD
def Zdz{ws:LS}{v:Int}(h0:0<=v)(h1:v<(ws.map V.str).length):∃ x∈ws,atI (ws.map V.str) v=some (.str x):=by
 have hl:v.toNat<ws.length:=by rw[Ya]at h1;omega
 refine⟨ws[v.toNat],Yw3 hl,?_⟩;have e:((v.toNat:Nat):Int)=v:=by omega
 have q:atI (ws.map V.str) ((v.toNat:Nat):Int)=some (.str ws[v.toNat]):=by
  refine Zbl ?_;rw[Yj,Yb (by omega)];rfl
 rw[e]at q;exact q
abbrev Dt:=W.Dat
def Znu(d:LS):Dt:=.tuple (d.map W.Dat.str)
def Z1o{d e:LS}(h:Znu d=Znu e):d=e:=by
 unfold Znu at h;injection h with h;exact List.map_inj_right (λa b z=>by injection z) |>.mp h
def Zif{K:Fg}{H:Hp}{t:Addr}{d:LS}(h:H t=some (.tup (d.map V.str))):Rep K H (.ref t) (Znu d):=.tuple (SqT.of h) (Zd6 d)
theorem Zi3{K:Fg}{H:Hp}:∀ {ds:List (LS)}{vs:LV},Zb3 H ds vs->Reps K H vs (ds.map Znu)
 | _,_,.nil=>.nil
 | _,_,.cons ⟨t,e,h⟩ r=>by rw[e];exact .cons (Zif h) (Zi3 r)
def Zbi{rows:RS}(g:Zc4 rows):∀ x∈rows.map (·.1),Zam x=true:=λx hx=>by
 obtain⟨r,hr,e⟩:=Yh.mp hx;rw[<- e];exact g.word r hr
def Zsc{rows:RS}(g:Zc4 rows){x y:Str}(hx:x∈rows.map (·.1))(h:Graph.Reach (Zcl rows) x y):y∈rows.map (·.1):=
 Graph.closed_reach (S:=λy=>y∈rows.map (·.1)) (λz hz u hu=>Zkf g hz hu) h hx
def Zsk(n:Nat){x:Str}(h:Zam x=true):W.kqdOk n (.str x)=true:=by
 have q:=Zo3 (ws:=[x]) (λy hy=>by rw[Ye.mp hy];exact h);rw[W.kqdOk]at q;have q2:W.kqdOk 8 (.str x)=true:=by simpa using q
 rw[W.kqdOk]at q2;rw[W.kqdOk];exact q2
def Zkx(n:Nat){d:LS}(h:∀ x∈d,Zam x=true):W.kqdOk (n + 1) (Znu d)=true:=by
 unfold Znu;rw[W.kqdOk,Yq1];intro z hz;obtain⟨x,hx,rfl⟩:=Yh.mp hz;exact Zsk n (h x hx)
def Zso(n:Nat){ds:List (LS)}(h:∀ d∈ds,∀ x∈d,Zam x=true):(ds.map Znu).all (W.kqdOk (n + 1))=true:=by
 rw[Yq1];intro z hz;obtain⟨d,hd,rfl⟩:=Yh.mp hz;exact Zkx n (h d hd)
def Ztd(ds:List (LS))(d:LS):((ds.map Znu).any λe=>dEq e (Znu d))=decide (d∈ds):=by
 by_cases h:d∈ds
 ·rw[Jb h,Ym3];exact⟨Znu d,Yh.mpr ⟨d,h,Y⟩,Zfp _⟩
 ·rw[Jc h,List.any_eq_false];intro z hz;obtain⟨e,he,rfl⟩:=Yh.mp hz;rw[Zni λq=>h (by rw[<- Z1o q];exact he)];exact Yq
def Zvs:Sp:=λvs H Q _=>∃(p l aa:Addr) (n m:Nat) (rows:RS) (avs:KL),vs=[.ref p,.ref l,.ref aa,.int n,.int m]/\(∃ o,H p=some o/\Zj4 o)/\Ze3 H l rows/\Zc4 rows/\H aa=some (.dK avs)/\Zdn H rows rows avs/\1<=n/\n<=4/\m<=63 /\
 ∀(ld:Addr) (ds:List (LS)) (us:LV) (H':Hp),Drawn p H H'->H ld=none->H' ld=some (.lst us)->Zb3 H' ds us->Zbw rows n ds->ds.length<=m->Q (.ref ld) H'
abbrev Z3l(K:Fg):LV->Hp->VK->Prop:=λxs H Q=>∃ p ys,xs=[.ref p]/\(SqL K H p ys\/SqT K H p ys)/\Q (.int ys.length) H
structure Z5c(mg:Str->OU):Prop where
 len:mg "len"=none
 range:mg "range"=none
 tuple:mg "tuple"=none
abbrev nDe:LS:=["pot","rows","above","places","most","words","base","deeds","k","deed","near","place","some"]
def Yby:Zah nDe ["pot","rows","above","places","most"] (Zad Zdd):=by nofun
def Zq0:(["row"]:LS).Nodup:=by rfl'
def Z2m:(["k","words","pot"]:LS).Nodup:=by rfl'
def Zb3.drawn{p:Addr}{H H':Hp}{o:HO}{ds:List (LS)}{us:LV}(h:Zb3 H ds us)(k:∀ b xs,H b=some (.tup xs)->H' b=some (.tup xs)):Zb3 H' ds us:=Paired.mapP h λ_ _ ⟨t,e,x⟩=>⟨t,e,k _ _ x⟩
set_option maxHeartbeats 8000000 in
def Zo2(F:Def K mg "_law_deeds" Zdd ["pot","rows","above","places","most"] f fd)(DT:Def K mg "_law_take" Zbb ["pot","many"] fT fdT)(T:Z5c mg):
  ⋯ 2 f fd ["pot","rows","above","places","most"] Zvs:=by
 have GT:⋯ 1 fT fdT ["pot","many"] Zgo:=Zkv DT
 nomatch F.fn.ok Yby
 ·obtain⟨p,l,aa,n,m,rows,avs,rfl,_⟩:=h;rfl
 ·obtain⟨p,l,aa,n,m,rows,avs,rfl,⟨o0,hp0,ho0⟩,hR,g,haa,hA,n1,n4,hm,q⟩:=h;have nd:=Yby.nd;have hu:=Zgx hr;have hr1:Zci 1 _:=hr.mono (by decide);have gle:=g.le
  ac_nf
  refine'⟨_,pS (Zag (i:=5) nd rfl (Or.inr rfl) ?e1)
   (pS ?e2
   (pS (sE 7 nd (Zbd Zaa))
   (pS (Zbh Yw rfl (Zca (by rfl) T.range (pC (Zae DT GT hr1 (pC (pv 0) (pC (Zax Zcb (pv 4) Zaf) Zaa))) Zaa)) (gE 8 nd)
    (pS (sE 9 nd (Zbd Zaa))
    (pS (sE 10 nd (Zae DT GT hr1 (pC (pv 0) (pC Zaf Zaa))))
    (pS (Zbh Yw rfl (Zca (by rfl) T.range (pC (pv 3) Zaa)) (gE 11 nd)
     (pS (sE 12 nd (pv 5))
     (Zgd (Za0 (Zan Zkt (pv 10) Zaf (Zar _)) (Zac (sE 12 nd (Zey hu (pv 2) (Za2 Zat (pv 6) (pv 11) (λ_ _=>rfl)) (λ_ _=>rfl)))) Zal)
     (Zac (Za4 (Zdg Ye1 Yn1 Yo1 Zbc (pv 9) (pC (Za2 Zat (pv 12) (Zae DT GT hr1 (pC (pv 0) (pC (Zao Zap (by rfl) T.len Yg1 (pC (pv 12) Zaa)) Zaa))) (λ_ _=>rfl)) Zaa)))))))
    (Zac (Za0 (Zan (Zoq (Yce hr)) (Za5 Za9 (by rfl) T.tuple Yu1 (pC (pv 9) Zaa)) (pv 7) (by with_unfolding_all rfl))
     (Zac (Za4 (Zdg Ye1 Yn1 Yo1 Zbc (pv 7) (pC (Za5 Za9 (by rfl) T.tuple Yu1 (pC (pv 9) Zaa)) Zaa)))) Zal))))))
   (Zac (Zak (pv 7)))))),?_⟩
  case e1=>exact(Zbk ["row"] [] [] (λ_=>Zaw (osc:=Zad Zdd) (on:=nDe) (by rfl') rfl rfl rfl) (Zbr (pv 1)) (λC s H fp=>Zai (i:=0) Zq0 rfl (Or.inl rfl) (Or.inr rfl)) (λC s H fp=>Zbj) (λC s H fp=>Za2 (r:=Zj0 K) Zch (pv 0) Zaf (λ_ _=>rfl)))
  case e2=>exact(Zeu (k:=6) ["k"] ["words","pot"] [5,0] nd rfl rfl (λ_=>Zaw (osc:=Zad Zdd) (on:=nDe) (by rfl') rfl rfl rfl) (Zca (by rfl) T.range (pC (pv 3) Zaa)) (λC s H fp=>Zai (i:=0) Z2m rfl (Or.inl rfl) (Or.inr rfl)) (λC s H fp=>Zbj)
    (λC s H fp=>Za2 (r:=Zhs K) Zat (pv 1) (Zae DT GT hr1 (pC (pv 2) (pC (Zao (r:=Z3l K) Zap (by rfl) T.len Yg1 (pC (pv 1) Zaa)) Zaa))) (λ_ _=>rfl)))
  exists let b:=_;let c:=Zlg _ b _;let e:=_;let f:=_;let g:=Z51 (Zlg _ f _) e;let h:=Zau _ g;let i:=Zau (Zh3 _ _ h) c;let j:=Zau _ i;let k:=Zau _ j;let l:=Zau (Zh3 _ _ k) a;let m:=Zau _ l;let n:=Zau _ m;Zau _ n _ _ _
  obtain⟨vs0,hvs0,hpr0⟩:=id hR;refine⟨Z,l,Y,⟨_,SqL.of hvs0⟩,Ziw hR (by omega) (λt u x H' R ht hRx=>⟨Z,t,_,_,Z,Y,SqT.of ht,Y,hRx⟩) λlw H1 hlw s1 hw=>?_⟩;have hp1:=s1 _ _ hp0;have lwp:lw≠p:=Yu (Zij hp1 ho0 hw);have lwH:H lw=none:=hlw;have wne:rows.map (·.1)≠[]:=by
   have:=g.ne;intro z;have z2:=congrArg List.length z;rw[Ya]at z2;simp at z2;rw[z2]at this;simp at this
  have wpos:0<(rows.map (·.1)).length:=Yk2.mpr wne;have wl:(rows.map (·.1)).length<=24:=by rw[Ya];exact gle
  let Iv1:Addr->Nat->LV->St->Hp->Prop:=λD i ys σ' H'=>Drawn p H1 H'/\H' D=some (.lst ys)/\∃(bs:LS) (o:OV),ys=bs.map V.str/\bs.length=i/\(∀ x∈bs,x∈rows.map (·.1))/\σ'=[o,some (.ref lw),some (.ref p)];refine⟨Z,n,Y,W,W,Zcc Zbq (by rw[Za3];exact sL (by omega)) Iv1
   (λD hD=>⟨(Drawn.refl ⟨o0,hp1,ho0⟩).new hD,uS,[],none,Y,Y,(λx h=>nomatch h),Y⟩) (λD i ys σ' H' _ h0=>by obtain⟨_,_,bs,_,e,el,_⟩:=h0;exact⟨trivial,by rw[e,Ya];omega⟩) ?_ ?_⟩
  ·rintro D i v ys σ' H' hD hi ⟨d,hl,bs,o,rfl,rfl,hb,rfl⟩;obtain⟨hi,rfl⟩:=Za7 hi;obtain⟨o1,hpp,hoo⟩:=d.pot;have hw1:=d.keep _ _ lwp hw;have pD:p≠D:=nNo hp1 hD;refine⟨Z,Z,Z,lw,Z,.inl (SqL.of hw1),p,_,o1,Y,hpp,hoo,by rw[Ya];omega,by rw[Ya];omega,λv o2 hv0 hv1 ho2=>?_⟩;obtain⟨x,hxm,hat⟩:=Zdz hv0 hv1;have d2:Drawn p H' (upd H' p o2):=Drawn.upd ho2;refine⟨lw,_,_,Z,Y,SqL.of (d2.keep _ _ lwp hw1),hat,d2.keep _ _ (Yu pD) hl,(d.trans d2).sub (o':=.lst []) (q:=D) (λb o hb e=>by rw[Zab hb];exact e) hD pD,uS,bs++[x],_,by rw[Yr];rfl,by simp,λy hy=>?_,Y⟩
   rcases Yl.mp hy with z | z
   ·exact hb y z
   ·rw[Ye.mp z];exact hxm
  rintro lb ys σ' H2 hlb ⟨d2,hlb2,bs,o,rfl,hbl,hb,rfl⟩;rw[Za3]at hbl;have hbl:bs.length=n:=by simpa using hbl
  have dH2:Drawn p H H2:=⟨λb o hb e=>d2.keep b o hb (s1 _ _ e),d2.pot⟩;have hw2:=d2.keep _ _ lwp hw;have lbH:H lb=none:=s1.free hlb;have pb:p≠lb:=nNo hp0 lbH;have wb:lw≠lb:=nNo hw hlb;refine⟨Yj1 _,λld hld=>?_⟩;have d3:=dH2.new (o:=.lst []) hld;have keep3:∀ b o,H2 b=some o->(upd H2 ld (.lst [])) b=some o:=Zbg hld;have ldH:H ld=none:=by
   cases e:H ld with
   | none=>rfl
   | some u =>
    by_cases z:ld=p
    ·obtain⟨o1,h1,_⟩:=d2.pot;rw[z,h1]at hld;cases hld
    ·rw[dH2.keep _ _ z e]at hld;cases hld
  have pd:p≠ld:=nNo hp0 ldH;have wd:lw≠ld:=nNo hw2 hld;have bd:lb≠ld:=nNo hlb2 hld;obtain⟨o3,hp3,ho3⟩:=d3.pot;refine⟨Z,Z,_,Z,Y,p,_,o3,Y,hp3,ho3,W,W,λv o4 hv0 hv1 ho4=>⟨v,Y,W,W,?_⟩⟩;have d4:Drawn p H (upd (upd H2 ld (.lst [])) p o4):=d3.trans (Drawn.upd ho4);let Hv1:NW:=λi σ H'=>∃(ds:List (LS)) (us:LV) (a b c d e:OV),σ=[some (.ref p),some (.ref l),some (.ref aa),some (.int n),some (.int m),some (.ref lw),some (.ref lb),some (.ref ld),a,b,c,d,e]/\Drawn p H H'/\H' lw=some (.lst ((rows.map (·.1)).map V.str))/\H' lb=some (.lst (bs.map V.str))/\H' ld=some (.lst us)/\Zb3 H' ds us/\(∀ d∈ds,Zcj rows n d)/\ds.Nodup/\ds.length<=i;refine Za1 Zbq Hv1
   ⟨[],[],none,none,none,none,none,Y,d4,by rw[Zab lwp];exact keep3 _ _ hw2,by rw[Zab (Yu pb)];exact keep3 _ _ hlb2,by rw[Zab (Yu pd)];exact uS,.nil,(λd h=>nomatch h),Yi4,Yg _⟩ (λ_ _ _ _ _=>trivial) ?_ ?_
  ·rintro i v' σ H5 hi ⟨ds,us,a5,b5,c5,e5,f5,rfl,d5,hw5,hb5,hd5,hD5,gc5,nd5,len5⟩;obtain⟨hi,rfl⟩:=Za7 hi;obtain⟨o5,hp5,ho5⟩:=d5.pot;refine⟨Yj1 _,λlq hlq=>?_⟩;have d6:=(Drawn.refl (p:=p) ⟨o5,hp5,ho5⟩).new (o:=.lst []) hlq;obtain⟨o6,hp6,ho6⟩:=d6.pot;refine⟨Z,p,3,o6,Y,hp6,ho6,V,V,λnr o7 hn0 hn1 ho7=>?_⟩;have pq:p≠lq:=nNo hp5 hlq;have d7:Drawn p H5 (upd (upd H5 lq (.lst [])) p o7):=d6.trans (Drawn.upd ho7);let Iv2:NW:=λj σ H'=>∃(xs:LS) (d e:OV),σ=[some (.ref p),some (.ref l),some (.ref aa),some (.int n),some (.int m),some (.ref lw),some (.ref lb),some (.ref ld),some (.int (0 + (i:Nat))),some (.ref lq),some (.int nr),d,e]/\Drawn p H5 H'/\H' lq=some (.lst (xs.map V.str))/\xs.length=j/\∀ x∈xs,x∈rows.map (·.1);refine⟨Z,n,Y,W,W,Za1 Zbq Iv2
    ⟨[],_,Z,d7,by rw[Zab (Yu pq)];exact uS,Y,(λx h=>nomatch h)⟩ (λ_ _ _ _ _=>trivial) ?_ ?_⟩
   ·rintro j v2 σ H8 hj ⟨xs,d8,e8,rfl,dr8,hq8,rfl,hx8⟩;obtain⟨hj,rfl⟩:=Za7 hj;have hj:xs.length<n:=by omega
    obtain⟨o8,hp8,ho8⟩:=dr8.pot;have dr08:=d5.trans dr8;have hw8:=dr8.keep _ _ lwp hw5;have hb8:=dr8.keep _ _ (Yu pb) hb5;refine⟨Z,?_⟩;let Hv2:SW:=λσ' H'=>∃(as:Addr) (fs:LS),σ'=[some (.ref p),some (.ref l),some (.ref aa),some (.int n),some (.int m),some (.ref lw),some (.ref lb),some (.ref ld),some (.int (0 + (i:Nat))),some (.ref lq),some (.int nr),some (.int (0 + (xs.length:Nat))),some (.ref as)]/\H'=H8/\H8 as=some (.lst (fs.map V.str))/\fs≠[]/\fs.length<=24/\∀ x∈fs,x∈rows.map (·.1);refine⟨Hv2,?_,?_⟩
    ·refine⟨Z,_,Z,Y,Z,Ze1 (λh=>?_) (λh=>?_)⟩
     ·have hbx:bs[xs.length]?=some (bs[xs.length]'(by omega)):=Yb (by omega);generalize bs[xs.length]'(by omega)=x at hbx;have hxm:=hb x (Yf hbx);obtain⟨r,hr',er⟩:=Ze6 hxm;obtain⟨t,fs,hv,ht,hfs,fl⟩:=hA.val' g.nd hr';have xfs:x∈fs:=(hfs x).mpr (by rw[er];exact .refl x);have tp:t≠p:=Yu (Zij hp0 ho0 ht);have aap:aa≠p:=λz=>by rw[z,hp0]at haa;obtain⟨_,_,q',_⟩:=ho0;rw[q']at haa;cases haa
      have hat:atI (bs.map V.str) (0 + (xs.length:Nat):Int)=some (.str x):=by
       rw[Yz4];refine Zbl ?_;rw[Yj,hbx];rfl
      have kn:∀ y∈fs,y∈rows.map (·.1):=λy hy=>Zsc g hxm (by rw[<- er];exact(hfs y).mp hy);exact⟨Z,Z,Z,lb,_,_,Z,Y,SqL.of hb8,hat,aa,Z,(by rw[<- hv,er];exact Zht.k (k:=Sum.inr x) (dr08.keep _ _ aap haa)),t,fs,Y,Y,dr08.keep _ _ tp ht,(λz=>by rw[z]at xfs;cases xfs),W,kn⟩
     ·exact⟨lw,Z,Y,hw8,wne,wl,λx h=>h⟩
    ·rintro σ' H' ⟨as,fs,rfl,e8',has,fne,fl,fk⟩;have e9:=e8'.symm;subst e9;have fpos:0<fs.length:=Yk2.mpr fne;have ap:as≠p:=Yu (Zij hp8 ho8 has);refine⟨Z,.inl ⟨Y,_,SqL.of hq8⟩,Z,Z,Z,as,Z,.inl (SqL.of has),p,_,o8,Y,hp8,ho8,by rw[Ya];omega,by rw[Ya];omega,λv o9 hv0 hv1 ho9=>?_⟩;obtain⟨x,hxm,hat⟩:=Zdz hv0 hv1;have d9:Drawn p H8 (upd H8 p o9):=Drawn.upd ho9;have hq9:=d9.keep _ _ (Yu pq) hq8;refine⟨as,_,_,Z,Y,SqL.of (d9.keep _ _ ap has),hat,lq,_,Z,Y,hq9,Zav (by rw[Ya];omega),xs++[x],_,Z,(dr8.trans d9).sub (o':=.lst []) (q:=lq) (λb o hb e=>by rw[Zab hb];exact e) hlq pq,by rw[uS,Yr];rfl,by simp,λy hy=>?_⟩
     rcases Yl.mp hy with z | z
     ·exact hx8 y z
     ·rw[Ye.mp z];exact fk x hxm
   ·rintro σ H8 ⟨xs,d8,e8,rfl,dr8,hq8,hxl,hx8⟩;rw[Za3]at hxl;have hxl:xs.length=n:=by simpa using hxl
    have ldp:ld≠p:=Yu pd;have hd8:=dr8.keep _ _ ldp hd5;have hD8:Zb3 H8 ds us:=hD5.drawn (p:=p) (o:=.lst []) λb zs e=>Drawn.tup dr8 hp5 ho5 e;have okx:∀ y∈xs,Zam y=true:=λy hy=>Zbi g y (hx8 y hy);have okd:∀ d∈ds,∀ y∈d,Zam y=true:=λd hd y hy=>Zbi g y ((gc5 d hd).known y hy);have dr08:=d5.trans dr8;have ldq:ld≠lq:=nNo hd5 hlq;have lwq:lw≠lq:=nNo hw5 hlq;have lbq:lb≠lq:=nNo hb5 hlq;have hi':i<m + 1:=by omega
    refine⟨Z,lq,Z,.inl ⟨SqL.of hq8,λt ht=>?_⟩⟩;have s9:Zaj H8 (upd H8 t (.tup (xs.map V.str))):=Zbg ht;refine⟨Z,Znu xs,ds.map Znu,Zif uS,.list (SqL.of (s9 _ _ hd8)) (Zi3 (hD8.mono s9)),Zkx 8 okx,Zso 7 okd,Z,?_⟩;rw[Ztd];refine Ze1 (λh=>?_) (λh=>?_)
    ·have hn:xs∉ds:=by simpa using h
     refine⟨Z,.inl ⟨Y,_,SqL.of (s9 _ _ hd8)⟩,Z,lq,Z,.inl ⟨SqL.of (s9 _ _ hq8),λt2 ht2=>?_⟩⟩;have s10:=s9.trans (Zbg (o:=.tup (xs.map V.str)) ht2);have hd10:=s10 _ _ hd8;have hul:=hD8.length;refine⟨ld,_,Z,Y,hd10,Zav (by omega),ds++[xs],us++[.ref t2],_,_,_,_,Z,?_,?_,?_,uS,?_,?_,?_,?_⟩
     ·exact(dr08.same s10).sub (o':=.lst []) (q:=ld) (λb o hb e=>by rw[Zab hb];exact e) ldH pd
     ·rw[Zab wd];exact s10 _ _ (dr8.keep _ _ lwp hw5)
     ·rw[Zab bd];exact s10 _ _ (dr8.keep _ _ (Yu pb) hb5)
     ·have tk:∀ b zs,(upd (upd H8 t (.tup (xs.map V.str))) t2 (.tup (xs.map V.str))) b=some (.tup zs)->(upd (upd (upd H8 t (.tup (xs.map V.str))) t2 (.tup (xs.map V.str))) ld (.lst (us++[V.ref t2]))) b=some (.tup zs):=λb zs e=>by
       rw[Zab (λz=>by rw[z,hd10]at e;cases e)];exact e
      exact Yn2 ((hD8.mono s10).drawn (p:=p) (o:=.lst []) tk) ⟨t2,Y,tk _ _ uS⟩
     ·intro d hd
      rcases Yl.mp hd with z | z
      ·exact gc5 d z
      ·rw[Ye.mp z];exact⟨hxl,hx8⟩
     ·rw[List.nodup_append];exact⟨nd5,by simp,λa ha b hb e=>hn (by rw[<- Ye.mp hb,<- e];exact ha)⟩
     ·rw[Yc];show ds.length + 1<=i + 1;omega
    ·exact⟨ds,us,_,_,_,_,Z,dr08.same s9,s9 _ _ (dr8.keep _ _ lwp hw5),s9 _ _ (dr8.keep _ _ (Yu pb) hb5),s9 _ _ hd8,hD8.mono s9,gc5,nd5,W⟩
  ·rintro σ H6 ⟨ds,us,a5,b5,c5,e5,f5,rfl,d6,hw6,hb6,hd6,hD6,gc6,nd6,len6⟩;rw[Za3]at len6;exact⟨Z,q ld ds us H6 d6 ldH hd6 hD6 ⟨gc6,nd6,W⟩ (by omega)⟩
def wB(rows:RS)(ds:List (LS))(j k:Nat):Bool:=Zbz rows (ds.getD j []) (ds.getD k [])
def Ztp(W:Nat->Nat->Bool)(near:LN)(x:Nat):LN:=if near.any (λk=>W k x)=true then near else near.filter (λk=>!W x k)++[x]
def Z8f(W:Nat->Nat->Bool)(l:LN):LN:=l.filter λk=>!(l.any λj=>!decide (j=k)&&W j k)
structure Zg4(W:Nat->Nat->Bool)(l near:LN):Prop where
 sub:near.Sublist l
 min:∀ k∈near,∀ j∈l,W j k=true->j=k
 dom:∀ j∈l,∃ k∈near,k=j\/W k j=true
def Zg4.nil(W:Nat->Nat->Bool):Zg4 W [] []:=⟨.slnil,(λk h=>nomatch h),(λk h=>nomatch h)⟩
def Zg4.step{W:Nat->Nat->Bool}{l near:LN}{x:Nat}{S:Nat->Prop}(tr:∀ a b c,S a->S b->S c->W a b=true->W b c=true->W a c=true)(an:∀ a b,S a->S b->W a b=true->W b a=true->a=b)(hl:∀ k∈l,S k)(hx:S x)(h:Zg4 W l near):Zg4 W (l++[x]) (Ztp W near x):=by
 have ns:∀ k∈near,S k:=λk hk=>hl k (h.sub.subset hk);unfold Ztp;by_cases c:near.any (λk=>W k x)=true
 ·rw[if_pos c];obtain⟨k0,hk0,w0⟩:=Ym3.mp c;refine⟨h.sub.trans (List.sublist_append_left _ _),λk hk j hj w=>?_,λj hj=>?_⟩
  ·rcases Yl.mp hj with z | z
   ·exact h.min k hk j z w
   ·have e:j=x:=Ye.mp z;subst e;have e1:=h.min k hk k0 (h.sub.subset hk0) (tr k0 j k (ns _ hk0) hx (ns _ hk) w0 w);rw[e1]at w0;exact an j k hx (ns _ hk) w w0
  ·rcases Yl.mp hj with z | z
   ·exact h.dom j z
   ·rw[Ye.mp z];exact⟨k0,hk0,.inr w0⟩
 ·rw[if_neg c];have nc:∀ k∈near,¬ W k x=true:=λk hk w=>c (Ym3.mpr ⟨k,hk,w⟩);refine⟨List.Sublist.append (List.filter_sublist.trans h.sub) (List.Sublist.refl _),λk hk j hj w=>?_,λj hj=>?_⟩
  ·rcases Yl.mp hk with y | y
   ·obtain⟨y1,y2⟩:=Yr3.mp y
    rcases Yl.mp hj with z | z
    ·exact h.min k y1 j z w
    ·rw[Ye.mp z]at w;rw[w]at y2;cases y2
   ·have e:k=x:=Ye.mp y;subst e
    rcases Yl.mp hj with z | z
    ·obtain⟨k0,hk0,d⟩:=h.dom j z
     rcases d with d | d
     ·rw[d]at hk0;exact absurd w (nc j hk0)
     ·exact absurd (tr k0 j k (ns _ hk0) (hl _ z) hx d w) (nc k0 hk0)
    ·exact Ye.mp z
  ·rcases Yl.mp hj with z | z
   ·obtain⟨k0,hk0,d⟩:=h.dom j z;by_cases wx:W x k0=true
    ·refine⟨x,by simp,.inr ?_⟩
     rcases d with d | d
     ·rw[<- d];exact wx
     ·exact tr x k0 j hx (ns _ hk0) (hl _ z) wx d
    ·exact⟨k0,Yu2 _ (Yr3.mpr ⟨hk0,by simpa using wx⟩),d⟩
   ·rw[Ye.mp z];exact⟨x,by simp,.inl rfl⟩
theorem Ziy{α:Type}[DecidableEq α]:∀ {near l:List α},near.Sublist l->l.Nodup->near=l.filter λk=>decide (k∈near)
 | _,_,.slnil,_=>rfl
 | _,_,.cons a h,nd=>by
  obtain⟨n1,n2⟩:=Yt1.mp nd;rw[Yj4,if_neg (by simpa using λm=>n1 (h.subset m))];exact Ziy h n2
 | _,_,.cons₂ (l₁:=n) (l₂:=l) a h,nd=>by
  obtain⟨n1,n2⟩:=Yt1.mp nd;rw[Yj4,if_pos (by simp)]
  congr 1
  have e:(l.filter λk=>decide (k∈a :: n))=l.filter λk=>decide (k∈n):=List.filter_congr λk hk=>by
   have:k≠a:=λz=>n1 (by rw[<- z];exact hk);simp[this]
  rw[e];exact Ziy h n2
def Zg4.is{W:Nat->Nat->Bool}{l near:LN}(nd:l.Nodup)(h:Zg4 W l near):near=Z8f W l:=by
 refine(Ziy h.sub nd).trans ?_;unfold Z8f;refine List.filter_congr λk hk=>?_;rw[Yh3,decide_eq_true_iff,Bool.not_eq_true',List.any_eq_false];constructor
 ·intro hm j hj z;rw[Yl1]at z;have:=h.min k hm j hj z.2;simp[this]at z
 ·intro hm;obtain⟨k0,hk0,d⟩:=h.dom k hk
  rcases d with d | d
  ·rw[<- d];exact hk0
  ·by_cases e:k0=k
   ·rw[<- e];exact hk0
   ·exact absurd (by rw[Yl1];exact⟨by simp[e],d⟩) (hm k0 (h.sub.subset hk0))
def Zkg{rows:RS}{x y:Str}:Zkh rows x y=true↔Graph.Reach (Zcl rows) x y:=by
 unfold Zkh;exact @decide_eq_true_iff _ (Classical.propDecidable _)
def Z3i{rows:RS}(g:Zc4 rows):∃ rk:Str->Nat,∀ a b,b∈Zcl rows a->rk b<rk a:=by
 obtain⟨rk,hrk⟩:=g.rank;refine⟨rk,λa b hb=>?_⟩;unfold Zcl at hb;cases e:rows.lookup a with
 | none=>rw[e]at hb;simp at hb
 | some us =>
  rw[e]at hb;have hm:(a,us)∈rows:=Yx2 e;exact hrk (a,us) hm b hb
def Zts{rows:RS}(g:Zc4 rows){x y:Str}(h1:Graph.Reach (Zcl rows) x y)(h2:Graph.Reach (Zcl rows) y x):x=y:=by
 obtain⟨rk,hrk⟩:=Z3i g;refine Yr4 λne=>?_;have a:=Graph.Reach.rank_lt hrk h1 ne;have b:=Graph.Reach.rank hrk h2;omega
def Zqr{ups:Str->LS}{x y z:Str}(h1:Graph.Reach ups x y)(h2:Graph.Reach ups y z):Graph.Reach ups x z:=h1.trans h2
def Zlo{rows:RS}{xs ys:LS}:Zbz rows xs ys=true↔∀(i:Nat) (x y:Str),xs[i]?=some x->ys[i]?=some y->Graph.Reach (Zcl rows) x y:=by
 unfold Zbz;rw[Yq1];constructor
 ·intro h i x y hx hy;have hz:(xs.zip ys)[i]?=some (x,y):=by rw[Yt5];exact⟨hx,hy⟩
  exact Zkg.mp (h _ (Yf hz))
 ·intro h p hp;obtain⟨i,hi⟩:=List.getElem?_of_mem hp;rw[Yt5]at hi;exact Zkg.mpr (h i _ _ hi.1 hi.2)
def Znx{rows:RS}{n:Nat}{xs ys zs:LS}(h1:xs.length=n)(h2:ys.length=n)(h3:zs.length=n)(a:Zbz rows xs ys=true)(b:Zbz rows ys zs=true):Zbz rows xs zs=true:=by
 rw[Zlo]at a b ⊢;intro i x z hx hz;have hi:i<ys.length:=by have:=(Yi.mp hx).1;omega
 exact Zqr (a i x _ hx (Yb hi)) (b i _ z (Yb hi) hz)
def Zqj{rows:RS}(g:Zc4 rows){n:Nat}{xs ys:LS}(h1:xs.length=n)(h2:ys.length=n)(a:Zbz rows xs ys=true)(b:Zbz rows ys xs=true):xs=ys:=by
 rw[Zlo]at a b;refine List.ext_getElem (h1.trans h2.symm) λi i1 i2=>?_;exact Zts g (a i _ _ (Yb i1) (Yb i2)) (b i _ _ (Yb i2) (Yb i1))
def Zg3{ds:List (LS)}{j:Nat}(h:j<ds.length):ds[j]?=some (ds.getD j []):=by
 rw[Yo,Yb h];rfl
section
variable {rows:RS}{n:Nat}{ds:List (LS)}(g:Zc4 rows)(gd:Zbw rows n ds)
include gd in
def Zzf(a b c:Nat)(ha:a<ds.length)(hb:b<ds.length)(hc:c<ds.length)(h1:wB rows ds a b=true)(h2:wB rows ds b c=true):wB rows ds a c=true :=
 Znx (gd.call _ (Yf (Zg3 ha))).len (gd.call _ (Yf (Zg3 hb))).len (gd.call _ (Yf (Zg3 hc))).len h1 h2
include g gd in
def Z22(a b:Nat)(ha:a<ds.length)(hb:b<ds.length)(h1:wB rows ds a b=true)(h2:wB rows ds b a=true):a=b:=by
 have e:=Zqj g (gd.call _ (Yf (Zg3 ha))).len (gd.call _ (Yf (Zg3 hb))).len h1 h2;have h3:=Zg3 ha;have h4:=Zg3 hb;rw[e]at h3;exact(List.getElem?_inj ha gd.nd).mp (h3.trans h4.symm)
include g gd in
def Zxc{l near:LN}{x:Nat}(hl:∀ k∈l,k<ds.length)(hx:x<ds.length)(h:Zg4 (wB rows ds) l near):Zg4 (wB rows ds) (l++[x]) (Ztp (wB rows ds) near x):=
 h.step (S:=λk=>k<ds.length) (Zzf gd) (Z22 g gd) hl hx
end
def Zlu(C:Addr):Sp:=λvs H Q _=>∃(p ld ln:Addr) (x n:Nat) (rows:RS) (ds:List (LS)) (us:LV) (near:LN),vs=[.ref p,.ref ld,.ref ln,.int x]/\Zbm C H p rows/\Zc4 rows/\H ld=some (.lst us)/\Zb3 H ds us/\Zbw rows n ds/\H ln=some (.lst (near.map Zd7))/\(∀ k∈near,k<ds.length)/\x<ds.length/\near.length<=64 /\
 ∀ l H',Zaj H H'->(l=ln\/H l=none)->H' l=some (.lst ((Ztp (wB rows ds) near x).map Zd7))->Q (.ref l) H'
def wV(rows:RS)(ds:List (LS))(x:Nat):V->V
 | .int j=>.bl (wB rows ds j.toNat x)
 | _=>.non
def nwV(rows:RS)(ds:List (LS))(x:Nat):V->Bool
 | .int j=>!wB rows ds x j.toNat
 | _=>false
def Z5r(rows:RS)(ds:List (LS))(x:Nat)(near:LN):((near.map Zd7).filter λ_=>true).map (wV rows ds x)=(near.map λk=>wB rows ds k x).map V.bl:=by
 rw[Yr2.mpr (λ_ _=>rfl),Ye2,Ye2];rfl
def Z36(rows:RS)(ds:List (LS))(x:Nat)(near:LN):((near.map Zd7).filter (nwV rows ds x)).map (λv=>v)=(near.filter λk=>!wB rows ds x k).map Zd7:=by
 rw[List.map_id',List.filter_map];rfl
def Zxf:(["kept","kinds","deeds","number"]:LS).Nodup:=by rfl'
abbrev nNW:LS:=["kinds","deeds","near","number"]
def Yc5:Zah nNW nNW (Zad Zcd):=by nofun
def Zow(F:Def K mg "nearest_with" Zcd nNW f fd)(any:mg "any"=none)(DW:Def K mg "within" Zg7 ["kinds","one","other"] fW fdW)(GW:⋯ 4 fW fdW ["kinds","one","other"] (Zjx C)):
  ⋯ 5 f fd nNW (Zlu C):=by
 nomatch F.fn.ok Yc5
 ·obtain⟨p,ld,ln,x,n,rows,ds,us,near,rfl,_⟩:=h;rfl
 ·obtain⟨p,ld,ln,x,n,rows,ds,us,near,rfl,kd,g,hld,hD,gd,hln,hk,hx,hn,q⟩:=h
  ac_nf
  refine'⟨_,pS (Za0 (Zb1 (Zao (Z1u rfl) (by rfl) any PyProof.Rows.boot_any (pC ?ea Zaa))) (Zac (Zak (pv 2))) Zal) (Zac (Zak (Zax Zl6 ?eb (Zbd (pC (pv 3) Zaa))))),?_⟩
  case ea=>exact(Zbk ["kept"] ["kinds","deeds","number"] [0,1,3] (λ_=>Zaw (osc:=Zad Zcd) (on:=nNW) (by rfl') rfl rfl rfl) (Zbr (pv 2)) (λC s H fp=>Zai (i:=0) Zxf rfl (Or.inl rfl) (Or.inr rfl)) (λC s H fp=>Zbj)
    (λC s H fp=>Zae DW GW hr (pC (pv 1) (pC (Za2 (r:=Zhs K) Zat (pv 2) (pv 0) (λ_ _=>rfl)) (pC (Za2 (r:=Zhs K) Zat (pv 2) (pv 3) (λ_ _=>rfl)) Zaa)))))
  case eb=>exact(Zbk ["kept"] ["kinds","deeds","number"] [0,1,3] (λ_=>Zaw (osc:=Zad Zcd) (on:=nNW) (by rfl') rfl rfl rfl) (Zbr (pv 2)) (λC s H fp=>Zai (i:=0) Zxf rfl (Or.inl rfl) (Or.inr rfl))
    (λC s H fp=>Zi5 (Zcr (Zb1 (Zae DW GW hr (pC (pv 1) (pC (Za2 (r:=Zhs K) Zat (pv 2) (pv 3) (λ_ _=>rfl)) (pC (Za2 (r:=Zhs K) Zat (pv 2) (pv 0) (λ_ _=>rfl)) Zaa))))))) (λC s H fp=>pv 0))
  exists Zau _ a _ _ _
  have hul:=hD.length;have at_:∀(H':Hp) (k:Nat),Zaj H H'->k<ds.length->∃ t,atI us ((k:Nat):Int)=some (.ref t)/\H' t=some (.tup ((ds.getD k []).map V.str)):=λH' k s' hk=>by
   have hk':k<us.length:=by omega
   obtain⟨dd,hdd,t,e,ht⟩:=Zaz hD (Yb hk');refine⟨t,Zbl ((Yb hk').trans (congrArg some e)),?_⟩;have e2:ds.getD k []=dd:=by rw[Yo,hdd];rfl
   rw[e2];exact s' _ _ ht
  have kn:∀ k,k<ds.length->∀ y∈ds.getD k [],y∈rows.map (·.1):=λk hk=>(gd.call _ (Yf (Zg3 hk))).known;refine⟨Z,ln,Y,⟨_,SqL.of hln⟩,Zs9 (Za8 (xs:=near.map Zd7)) (sL (by rw[Ya];omega)) (λ_=>true) (wV rows ds x) (λH' s'=>s'.seq (SqL.of hln)) ?_ ?_ ?_⟩
  ·intro v H' R s' _ hR;exact hR H' (Zaj.refl _)
  ·intro v H' R s' hv _ hR;obtain⟨k,hk',rfl⟩:=Yh.mp hv;obtain⟨t1,a1,h1⟩:=at_ H' k s' (hk k hk');obtain⟨t2,a2,h2⟩:=at_ H' x s' hx;exact⟨Z,Z,Z,ld,_,_,Z,Y,SqL.of (s' _ _ hld),a1,Z,Z,ld,_,_,Z,Y,SqL.of (s' _ _ hld),a2,p,t1,t2,rows,_,Z,kd.mono s',g,h1,h2,kn k (hk k hk'),kn x hx,λH'' s''=>hR H'' s''⟩
  ·intro D H1 hD0 s1 hl1;rw[Z5r]at hl1;have eA:(near.map λk=>wB rows ds k x).any id=near.any λk=>wB rows ds k x:=by rw[List.any_map];rfl
   refine⟨D,Z,SqL.of hl1,_,congrArg V.bl eA,?_⟩;refine Ze1 (λh=>?_) (λh=>?_)
   ·refine⟨Z,q ln H1 s1 (.inl rfl) ?_⟩;unfold Ztp;rw[if_pos h];exact s1 _ _ hln
   ·refine⟨Z,ln,Y,⟨_,SqL.of (s1 _ _ hln)⟩,Zs9 (Za8 (xs:=near.map Zd7)) (sL (by rw[Ya];omega)) (nwV rows ds x) (λv=>v) (λH' s'=>s'.seq (SqL.of (s1 _ _ hln))) ?_ ?_ ?_⟩
    ·intro v H' R s' hv hR;obtain⟨k,hk',rfl⟩:=Yh.mp hv;have s2:=s1.trans s';obtain⟨t1,a1,h1⟩:=at_ H' k s2 (hk k hk');obtain⟨t2,a2,h2⟩:=at_ H' x s2 hx;exact⟨Z,Z,Z,ld,_,_,Z,Y,SqL.of (s2 _ _ hld),a2,Z,Z,ld,_,_,Z,Y,SqL.of (s2 _ _ hld),a1,p,t2,t1,rows,_,Z,kd.mono s2,g,h2,h1,kn x hx,kn k (hk k hk'),λH'' s''=>⟨Z,hR H'' s''⟩⟩
    ·intro v H' R s' hv _ hR;exact⟨Z,hR H' (Zaj.refl _)⟩
    ·intro D2 H2 hD2 s2 hl2;rw[Z36]at hl2;have fl:(near.filter λk=>!wB rows ds x k).length<=64:=Yv1 (Yz2 _ _) hn;refine⟨Z,O,λl3 hl3=>⟨D2,l3,_,Z,Y,(Zbg hl3) _ _ hl2,uS,sL (by rw[Ya];show _ + 1<=100000;omega),λl4 hl4=>?_⟩⟩;have s12:=s1.trans s2;have s3:=s12.trans (Zbg (o:=.lst [.int x]) hl3);refine q l4 _ (s3.trans (Zbg hl4)) (.inr (s3.free hl4)) ?_;rw[uS];unfold Ztp;rw[if_neg h,Yr];rfl
def Zj8(C B:Addr):Sp:=λvs H Q _=>∃(p k l:Addr) (rows:RS) (n:Nat) (ds:List (LS)) (ms:LN),vs=[.ref p,.ref l]/\Zc3 C B H p k rows n ds/\Zc4 rows/\Zbw rows n ds/\H l=some (.lst (ms.map Zd7))/\(∀ j∈ms,j<ds.length)/\ms.Nodup/\ms.length<=64 /\
 ∀ l' H',Zaj H H'->H l'=none->H' l'=some (.lst ((Z8f (wB rows ds) ms).map Zd7))->Q (.ref l') H'
abbrev nNA:LS:=["board","numbers","kinds","deeds","near","number"]
def Ybp:Zah nNA ["board","numbers"] (Zad Zdh):=by nofun
def Z4b{ms:LN}{i:Nat}{v:V}(h:(ms.map Zd7)[i]?=some v):∃ x,ms[i]?=some x/\v=.int (x:Nat):=by
 obtain⟨x,h1,h2⟩:=Zpf h;exact⟨x,h1,h2.symm⟩
def Zmv(F:Def K mg "nearest_among" Zdh ["board","numbers"] f fd)(list:mg "list"=none)(any:mg "any"=none)(TB:Znr K B)(MK:Zy8 K B fK fdK)(MD:Zrp K B fDe fdDe)(DN:Def K mg "nearest_with" Zcd nNW fN fdN)
  (DW:Def K mg "within" Zg7 ["kinds","one","other"] fW fdW) (GW:⋯ 4 fW fdW ["kinds","one","other"] (Zjx C)):⋯ 6 f fd ["board","numbers"] (Zj8 C B):=by
 have GK:⋯ 1 fK fdK ["self"] (Zmq C B):=Zo5 MK.fn TB;have GD:⋯ 1 fDe fdDe ["self"] (Zjz C B):=Zky MD.fn TB list;have GN:⋯ 5 fN fdN nNW (Zlu C):=Zow DN any DW GW
 nomatch F.fn.ok Ybp
 ·obtain⟨p,k,l,rows,n,ds,ms,rfl,_⟩:=h;rfl
 ·obtain⟨p,k,l,rows,n,ds,ms,rfl,bd,g,gd,hl,hms,nd',hml,q⟩:=h;obtain⟨dx,ts,us0,h1,h2,h3,h4⟩:=bd.ex;have nd:=Ybp.nd;have hr1:Zci 1 _:=hr.mono (by decide)
  ac_nf
  refine⟨_,(pS (sE 2 nd (Zbv (pv 0) TB.cl MK.me GK hr1 MK.b .nil Zct))
   (pS (sE 3 nd (Zbv (pv 0) TB.cl MD.me GD hr1 MD.b .nil Zct))
   (pS (sE 4 nd (Zbd Zaa))
   (pS (Zbh Yw rfl (Zbr (pv 1)) (gE 5 nd) (Zac (sE 4 nd (Zae DN GN hr (pC (pv 2) (pC (pv 3) (pC (pv 4) (pC (pv 5) Zaa))))))))
   (Zac (Zak (pv 4))))))),?_⟩
  exists let b:=_;let c:=Zau (Zh3 _ _ b) a;let e:=Zau _ c;let f:=Zau _ e;Zau _ f _ _ _
  refine⟨Z,p,dx,Z,h1,Zpb _ _ _,p,k,rows,n,ds,Y,bd,?_⟩;refine⟨Z,p,dx,Z,h1,Zk0 _ _ _,p,k,rows,n,ds,Y,bd,λld us hld hD=>?_⟩;have s1:Zaj H (upd H ld (.lst us)):=Zbg hld;refine⟨Yj1 _,λl0 hl0=>?_⟩;have s2:Zaj H (upd (upd H ld (.lst us)) l0 (.lst [])):=s1.trans (Zbg hl0);have hld2:(upd (upd H ld (.lst us)) l0 (.lst [])) ld=some (.lst us):=(Zbg hl0) _ _ uS;have hl0H:H l0=none:=s1.free hl0;let Iv1:NW:=λi σ H'=>∃(ln:Addr) (near:LN) (x:OV),σ=[some (.ref p),some (.ref l),some (.ref k),some (.ref ld),some (.ref ln),x]/\Zaj H H'/\H' ld=some (.lst us)/\H ln=none/\H' ln=some (.lst (near.map Zd7))/\Zg4 (wB rows ds) (ms.take i) near;refine⟨Z,l,Y,⟨_,SqL.of (s2 _ _ hl)⟩,Za1 (Za8 (xs:=ms.map Zd7)) Iv1
   ⟨l0,[],none,Y,s2,hld2,hl0H,uS,Zg4.nil _⟩ (λi σ H' _ h0=>by obtain⟨_,_,_,_,s',_⟩:=h0;exact SqL.of (s' _ _ hl)) ?_ ?_⟩
  ·rintro i v σ H' hi ⟨ln,near,x0,rfl,s',hld',hlnH,hln,ok⟩;obtain⟨x,hx,rfl⟩:=Z4b hi;have nl:near.length<=ms.length:=Yv1 ok.sub.length_le (by rw[Yk1];omega);refine⟨Z,Z,Z,Z,k,ld,ln,x,n,rows,ds,us,near,Y,h2.mono s',g,hld',hD.mono s',gd,hln,λj hj=>hms j (Ye4 (ok.sub.subset hj)),hms x (Yf hx),W,λl' H2 s'' hor hl'=>?_⟩;refine⟨l',_,Z,s'.trans s'',s'' _ _ hld',?_,hl',?_⟩
   ·rcases hor with z | z
    ·rw[z];exact hlnH
    ·exact s'.free z
   ·rw[Ym1,hx];exact Zxc g gd (λj hj=>hms j (Ye4 hj)) (hms x (Yf hx)) ok
  ·rintro σ H' ⟨ln,near,x0,rfl,s',hld',hlnH,hln,ok⟩;rw[Ya,Yp1]at ok;refine⟨Z,q ln H' s' hlnH ?_⟩;rw[hln,ok.is nd']
def Zqz(rows:RS)(ds:List (LS))(xs:LS):LN:=Z8f (wB rows ds) (Z1f rows ds xs)
def Zn9(C B:Addr):Sp:=λvs H Q _=>∃(p k t:Addr) (rows:RS) (n:Nat) (ds:List (LS)) (xs:LS),vs=[.ref p,.ref t]/\Zc3 C B H p k rows n ds/\Zc4 rows/\Zbw rows n ds/\n<=4/\H t=some (.tup (xs.map V.str))/\Zcj rows n xs /\
 ∀ l H',H l=none->Zaj H H'->H' l=some (.lst ((Zqz rows ds xs).map Zd7))->Q (.ref l) H'
def Zx6{rows:RS}{ds:List (LS)}{xs:LS}:∀ k∈Z1f rows ds xs,k<ds.length:=λk hk=>Yt2.mp (Yr3.mp hk).1
def Z4w(rows:RS)(ds:List (LS))(xs:LS):(Z1f rows ds xs).Nodup:=List.nodup_range.filter _
def Z1e(rows:RS)(ds:List (LS))(xs:LS):(Z1f rows ds xs).length<=ds.length:=by
 unfold Z1f;refine Yv1 (Yz2 _ _) ?_;rw[List.length_range];exact Yg _
def Yc4:Zah ["board","call"] ["board","call"] (Zad Zh9):=by nofun
def Zty(F:Def K mg "nearest" Zh9 ["board","call"] f fd)(DA:Def K mg "nearest_among" Zdh ["board","numbers"] fA fdA)(GA:⋯ 6 fA fdA ["board","numbers"] (Zj8 C B))(DF:Def K mg "fitting" Zgq ["board","call"] fF fdF)(GF:⋯ 5 fF fdF ["board","call"] (Zod C B)):
  ⋯ 7 f fd ["board","call"] (Zn9 C B):=by
 nomatch F.fn.ok Yc4
 ·obtain⟨p,k,t,rows,n,ds,xs,rfl,_⟩:=h;rfl
 ·obtain⟨p,k,t,rows,n,ds,xs,rfl,bd,g,gd,hn,ht,gc,q⟩:=h;have hr5:Zci 5 _:=hr.mono (by decide);have few:=gd.few;have fl:=Z1e rows ds xs
  ac_nf
  refine⟨_,Zac (Zak (Zae DA GA hr (pC (pv 0) (pC (Zae DF GF hr5 (pC (pv 0) (pC (pv 1) Zaa))) Zaa)))),?_⟩;refine⟨Z,Z,Z,p,k,t,rows,n,ds,xs,Y,bd,g,gd,hn,ht,gc,λl H1 hl s1 hl1=>?_⟩;exact⟨p,k,l,rows,n,ds,Z1f rows ds xs,Y,bd.mono s1,g,gd,hl1,Zx6,Z4w _ _ _,W,λl' H2 s2 hl' h2=>q l' H2 (s1.free hl') (s1.trans s2) h2⟩
def Z24:LN->LV
 | []=>[.str "none"]
 | [k]=>[.str "deed",Zd7 k]
 | k :: j :: _=>[.str "clash",Zd7 k,Zd7 j]
def Zrz:Sp:=λvs H Q _=>∃(l:Addr) (near:LN),vs=[.ref l]/\H l=some (.lst (near.map Zd7))/\∀ t H',H t=none->Zaj H H'->H' t=some (.tup (Z24 near))->Q (.ref t) H'
def Z84:Zah ["near"] ["near"] (Zad Zh8):=by nofun
def Ztv(F:Def K mg "told_of" Zh8 ["near"] f fd)(len:mg "len"=none):⋯ 1 f fd ["near"] Zrz:=by
 nomatch F.fn.ok Z84
 ·obtain⟨l,near,rfl,_⟩:=h;rfl
 ·obtain⟨l,near,rfl,hl,q⟩:=h
  ac_nf
  refine⟨_,pS (Za0 (Zcr (Zih (pv 0) (λ_=>rfl))) (Zac (Zak (Zcs (pC Zbp Zaa)))) Zal)
   (pS (Za0 (Zan Zdk (Zao Zap (by rfl) len Yg1 (pC (pv 0) Zaa)) Zaf (Zar _)) (Zac (Zak (Zcs (pC Zbp (pC (Za2 Zat (pv 0) Zaf (λ_ _=>rfl)) Zaa))))) Zal)
   (Zac (Zak (Zcs (pC Zbp (pC (Za2 Zat (pv 0) Zaf (λ_ _=>rfl)) (pC (Za2 Zat (pv 0) Zaf (λ_ _=>rfl)) Zaa))))))),?_⟩
  exists let b:=_;let c:=Zau (Zlg _ b _) a;Zau _ c _ _ _
  cases near with
  | nil=>exact⟨Z,false,.inl ⟨[],SqL.of hl,Y⟩,Ze5 ⟨O,λt ht=>q t _ ht (Zbg ht) uS⟩⟩
  | cons k r =>
   refine⟨Z,true,.inl ⟨_,SqL.of hl,Y⟩,Zcg ?_⟩;refine⟨Z,l,Z,.inl (SqL.of hl),Y,Z,?_⟩;cases r with
   | nil =>
    refine Ze1 (λ_=>?_) (λh=>absurd (by rfl) h);exact⟨Z,l,_,_,Z,Y,SqL.of hl,Y,U,λt ht=>q t _ ht (Zbg ht) uS⟩
   | cons j r =>
    refine Ze1 (λh=>?_) (λ_=>?_)
    ·have h:=Je h;injection h with h;simp at h;omega
    ·exact⟨Z,l,_,_,Z,Y,SqL.of hl,Zbl (j:=0) rfl,Z,l,_,_,Z,Y,SqL.of hl,Zbl (j:=1) rfl,sL (by show 3<=100000;decide),λt ht=>q t _ ht (Zbg ht) uS⟩
def Z16(C B:Addr):Sp:=λvs H Q _=>∃(p k t:Addr) (rows:RS) (n:Nat) (ds:List (LS)) (xs:LS),vs=[.ref p,.ref t]/\Zc3 C B H p k rows n ds/\Zc4 rows/\Zbw rows n ds/\n<=4/\H t=some (.tup (xs.map V.str))/\Zcj rows n xs /\
 ∀ l H',H l=none->Zaj H H'->H' l=some (.tup (Z24 (Zqz rows ds xs)))->Q (.ref l) H'
def Yc2:Zah ["board","call"] ["board","call"] (Zad Zr7):=by nofun
def Z3x(F:Def K mg "told" Zr7 ["board","call"] f fd)(DN:Def K mg "nearest" Zh9 ["board","call"] fN fdN)(GN:⋯ 7 fN fdN ["board","call"] (Zn9 C B))(DO:Def K mg "told_of" Zh8 ["near"] fO fdO)(len:mg "len"=none):
  ⋯ 8 f fd ["board","call"] (Z16 C B):=by
 have GO:⋯ 1 fO fdO ["near"] Zrz:=Ztv DO len
 nomatch F.fn.ok Yc2
 ·obtain⟨p,k,t,rows,n,ds,xs,rfl,_⟩:=h;rfl
 ·obtain⟨p,k,t,rows,n,ds,xs,rfl,bd,g,gd,hn,ht,gc,q⟩:=h;have hr1:Zci 1 _:=hr.mono (by decide)
  ac_nf
  refine⟨_,Zac (Zak (Zae DO GO hr1 (pC (Zae DN GN hr (pC (pv 0) (pC (pv 1) Zaa))) Zaa))),?_⟩;refine⟨Z,Z,p,k,t,rows,n,ds,xs,Y,bd,g,gd,hn,ht,gc,λl H1 hl s1 hl1=>?_⟩;exact⟨l,Z,hl1,λt' H2 ht' s2 h2=>q t' H2 (s1.free ht') (s1.trans s2) h2⟩
def Zzn(K:Fg):Sp:=λvs H Q _=>∃(a:Addr) (ns:List Int),vs=[.ref a]/\SqL K H a (ns.map V.int)/\ns.length<=63/\∀ H',Q (.bl true) H'
def Z9n(n:Nat):W.kqdOk n (.str "none")=true:=by rw[W.kqdOk];rfl'
def Z9p(n:Nat):W.kqdOk n (.str "clash")=true:=by rw[W.kqdOk];rfl'
def Z64(n k:Nat):W.kqdOk n (Zxg k)=true:=by unfold Zxg;rw[W.kqdOk]
def Zug(r:Str×LS):W.Dat:=.tuple [.str r.1,.tuple (r.2.map W.Dat.str)]
theorem Zlz{K:Fg}{H:Hp}:∀ {rows:RS}{vs:LV},Paired (Z5e H) rows vs->Reps K H vs (rows.map Zug)
 | _,_,.nil=>.nil
 | _,_,.cons h t=>by
  obtain⟨a,u,rfl,h1,h2⟩:=h;exact .cons (.tuple (SqT.of h1) (.cons (.str _) (.cons (.tuple (SqT.of h2) (Zd6 _)) .nil))) (Zlz t)
def Z23{rows:RS}(g:Zc4 rows){r:Str×LS}(hr:r∈rows):∀ u∈r.2,Zam u=true:=λu hu=>by
 obtain⟨q,hq,e⟩:=Yh.mp (g.known r hr u hu);rw[<- e];exact g.word q hq
def Z0f{rows:RS}(g:Zc4 rows):W.kqdOk 9 (.list (rows.map Zug))=true:=by
 show(rows.map Zug).all (W.kqdOk 8)=true;rw[Yq1];intro d hd;obtain⟨r,hr,rfl⟩:=Yh.mp hd;show([W.Dat.str r.1,.tuple (r.2.map W.Dat.str)].all (W.kqdOk 7))=true;rw[Yn3,Yn3,List.all_nil,Bool.and_true,Yl1];refine⟨Zgl (g.word r hr),?_⟩;show(r.2.map W.Dat.str).all (W.kqdOk 6)=true;rw[Yq1];intro d hd;obtain⟨x,hx,rfl⟩:=Yh.mp hd;exact Zgl (Z23 g hr x hx)
def Z0w{K:Fg}{C:Addr}{Hx:Hp}{xb dx l:Addr}{rows:RS}{R:Hp->Prop}{E:XK}(nx:Hx xb=none)(ndx:Hx dx=none)(hR:Ze3 Hx l rows)(g:Zc4 rows)(h:∀ H',Zaj Hx H'->Zbm C H' xb rows->R H'):
  Zob K C [.ref xb,.ref l] (upd (upd Hx dx (.own xb)) xb (.ins C dx [])) (λv H3=>v=.non/\R H3) E:=by
 have s34:Zaj Hx (upd (upd Hx dx (.own xb)) xb (.ins C dx [])):=λb o e=>by
  have e1:(upd Hx dx (.own xb)) b=some o:=by rw[Zab (nNo e ndx)];exact e
  rw[Zab (nNo e nx)];exact e1
 exact⟨xb,dx,l,rows,Y,uS,(Ze3.g (Zcq hR s34)),g,λH4 kd keep=>⟨Y,h H4 (λb o e=>keep b o (nNo e nx) (s34 _ _ e)) kd⟩⟩
def Z0x{K:Fg}{C B:Addr}{Hx:Hp}{xb yb dy lz:Addr}{n:Nat}{rows:RS}{ds:List (LS)}{us:LV}{R:Hp->Prop}{E:XK}(ny:Hx yb=none)(ndy:Hx dy=none)(kd:Zbm C Hx xb rows)(g:Zc4 rows)(hz:Hx lz=some (.lst us)\/Hx lz=some (.tup us))(hD:Zb3 Hx ds us)(gd:Zbw rows n ds)(n1:1<=n)(n4:n<=4)(h:∀ H',Zaj Hx H'->Zc3 C B H' yb xb rows n ds->R H'):
  Zqn K C B [.ref yb,.ref xb,.int n,.ref lz] (upd (upd Hx dy (.own yb)) yb (.ins B dy [])) (λv H3=>v=.non/\R H3) E:=by
 have s34:Zaj Hx (upd (upd Hx dy (.own yb)) yb (.ins B dy [])):=λb o e=>by
  have e1:(upd Hx dy (.own yb)) b=some o:=by rw[Zab (nNo e ndy)];exact e
  rw[Zab (nNo e ny)];exact e1
 exact⟨yb,dy,xb,lz,n,rows,ds,us,Y,uS,kd.mono s34,g,hz.elim (λe=>.inl (SqL.of (s34 _ _ e))) (λe=>.inr (s34 _ _ e)),hD.mono s34,gd,n1,n4,λH5 bd keep5=>⟨Y,h H5 (λb o e=>keep5 b o (nNo e ny) (s34 _ _ e)) bd⟩⟩
abbrev Nam:=Str×Nat×List (LS×Str)
def PrV(H:Hp)(p:LS×Str)(v:V):Prop:=∃ t tc:Addr,v=V.ref t/\H t=some (.tup [.ref tc,.str p.2])/\H tc=some (.tup (p.1.map V.str))
def Zns(H:Hp)(ps:List (LS×Str))(vs:LV):Prop:=Paired (PrV H) ps vs
def Zns.mono{H H':Hp}{ps:List (LS×Str)}{vs:LV}(h:Zns H ps vs)(k:∀ b xs,H b=some (.tup xs)->H' b=some (.tup xs)):Zns H' ps vs:=Paired.mapP h λ_ _ ⟨t,tc,e,h1,h2⟩=>⟨t,tc,e,k _ _ h1,k _ _ h2⟩
def Zco{H H':Hp}(s:Zaj H H'):∀ b xs,H b=some (.tup xs)->H' b=some (.tup xs):=λ_ _ e=>s _ _ e
def Zy4(K:Fg)(H:Hp)(n:Nam)(v:V):Prop:=∃(t tp:Addr) (b:Bool) (vs:LV),v=V.ref t/\H t=some (.tup [.str n.1,.int n.2.1,.ref tp])/\SqB K b H tp vs/\Zns H n.2.2 vs
theorem Zy4.mono{K:Fg}{H H':Hp}{n:Nam}{v:V}(h:Zy4 K H n v)(s:Zaj H H'):Zy4 K H' n v:=by
 obtain⟨t,tp,b,vs,e,h1,h2,h3⟩:=h;exact⟨t,tp,b,vs,e,s _ _ h1,h2.mono s,h3.mono (Zco s)⟩
structure Zfs(rows:RS)(n:Nam):Prop where
 word:Zam n.1=true
 one:1<=n.2.1
 four:n.2.1<=4
 deeds:Zbw rows n.2.1 (n.2.2.map (·.1))
 made:∀ p∈n.2.2,p.2∈rows.map (·.1)
structure Za6(rows:RS)(ns:List Nam):Prop where
 few:ns.length<=8
 each:∀ n∈ns,Zfs rows n
 nd:(ns.map (·.1)).Nodup
def Yd0:¬ (("book":Str)="made_of"):=by rfl'
def Ydz:¬ (("book":Str)="board_of"):=by rfl'
def Ydy:¬ (("board_of":Str)="made_of"):=by rfl'
def Zg0(k bo mo:Addr):List (Str×V):=Zhh "made_of" (.ref mo) (Zhh "board_of" (.ref bo) (Zhh "book" (.ref k) []))
def Z4s(k bo mo:Addr):(Zg0 k bo mo).lookup ("book":Str)=some (.ref k):=by
 unfold Zg0;rw[Zas,if_neg Yd0,Zas,if_neg Ydz,Zas,if_pos rfl]
def Zne(k bo mo:Addr):(Zg0 k bo mo).lookup ("board_of":Str)=some (.ref bo):=by
 unfold Zg0;rw[Zas,if_neg Ydy,Zas,if_pos rfl]
def Zx5(k bo mo:Addr):(Zg0 k bo mo).lookup ("made_of":Str)=some (.ref mo):=by
 unfold Zg0;rw[Zas,if_pos rfl]
def Zhp(k bo mo:Addr){m:Str}(h1:¬ m="made_of")(h2:¬ m="board_of")(h3:¬ m="book"):(Zg0 k bo mo).lookup m=none:=by
 unfold Zg0;rw[Zas,if_neg h1,Zas,if_neg h2,Zas,if_neg h3];rfl
def Zck(R:Nam->V->Prop)(ns:List Nam)(kvs:KL):Prop:=Paired (λ(n:Nam) (p:Key×V)=>p.1=Sum.inr n.1/\R n p.2) ns kvs
def Zck.imp{R S:Nam->V->Prop}{ns:List Nam}{kvs:KL}(h:Zck R ns kvs)(f:∀ n v,R n v->S n v):Zck S ns kvs:=Paired.mapP h λ_ _ z=>⟨z.1,f _ _ z.2⟩
theorem Zck.keys{R:Nam->V->Prop}:∀ {ns:List Nam}{kvs:KL},Zck R ns kvs->kvs.map (·.1)=ns.map λn=>(Sum.inr n.1:Key)
 | _,_,.nil=>rfl
 | _,_,.cons r t=>by rw[Yz,Yz,r.1,Zck.keys t]
theorem Zck.val{R:Nam->V->Prop}:∀ {ns:List Nam}{kvs:KL},Zck R ns kvs->(ns.map (·.1)).Nodup->∀ {n:Nam},n∈ns->∃ v,Zf0 kvs (Sum.inr n.1)=some v/\R n v
 | _,_,.nil,_,n,h=>nomatch h
 | q :: rs,p :: ps,.cons z t,nd,n,h=>by
  have nd':(q.1 :: rs.map (·.1)).Nodup:=nd;obtain⟨n1,n2⟩:=Yt1.mp nd';obtain⟨z1,z2⟩:=z
  rcases Yt.mp h with e | h
  ·subst e;exact⟨p.2,by rw[Zb4 z1],z2⟩
  ·have ne:¬ p.1=(Sum.inr n.1:Key):=λe=>n1 (by
    rw[z1]at e;have e':q.1=n.1:=by injection e
    rw[e'];exact Yh.mpr ⟨n,h,Y⟩)
   obtain⟨v,h1,h2⟩:=Zck.val t n2 h;exact⟨v,by rw[Zb5 ne];exact h1,h2⟩
def Zck.not{R:Nam->V->Prop}{ns:List Nam}{kvs:KL}(h:Zck R ns kvs){x:Str}(hx:x∉ns.map (·.1)):Zf0 kvs (Sum.inr x)=none:=Zcn λz=>hx (by
 rw[h.keys]at z;obtain⟨n,hn,e⟩:=Yh.mp z;have e':n.1=x:=by injection e
 exact Yh.mpr ⟨n,hn,e'⟩)
def Zck.some{R:Nam->V->Prop}{ns:List Nam}{kvs:KL}(h:Zck R ns kvs){x:Str}(hx:x∈ns.map (·.1)):(Zf0 kvs (Sum.inr x)).isSome=true:=Zf3 (by
 rw[h.keys];obtain⟨n,hn,e⟩:=Yh.mp hx;exact Yh.mpr ⟨n,hn,by rw[e]⟩)
def BoR(C B:Addr)(H:Hp)(k:Addr)(rows:RS):Nam->V->Prop:=λn v=>∃ y,v=.ref y/\Zc3 C B H y k rows n.2.1 (n.2.2.map (·.1))
def MaR(Z:Addr->Prop)(H:Hp):Nam->V->Prop:=λn v=>∃ l,v=.ref l/\H l=some (.lst ((n.2.2.map (·.2)).map V.str))/\¬ Z l
structure Zjw(Z:Addr->Prop)(C B D:Addr)(H:Hp)(p k:Addr)(rows:RS)(ns:List Nam):Prop where
 ex:∃(dx bo mo:Addr) (o:Obj) (bvs mvs:KL),H p=some (.ins D dx (Zg0 k bo mo))/\Zbm C H k rows/\H bo=some (.frz o (.dK bvs))/\Zck (BoR C B H k rows) ns bvs/\H mo=some (.dK mvs)/\Zck (MaR Z H) ns mvs
abbrev Zeh:=Zjw λ_=>False
def Zjw.at_{Z:Addr->Prop}{C B D:Addr}{H:Hp}{p k:Addr}{rows:RS}{ns:List Nam}(h:Zjw Z C B D H p k rows ns):Zeh C B D H p k rows ns:=by
 obtain⟨dx,bo,mo,o,bvs,mvs,h1,h2,h3,h4,h5,h6⟩:=h.ex;exact⟨dx,bo,mo,o,bvs,mvs,h1,h2,h3,h4,h5,h6.imp λn v ⟨l,e,b,_⟩=>⟨l,e,b,id⟩⟩
theorem Zjw.mono{Z:Addr->Prop}{C B D:Addr}{H H':Hp}{p k:Addr}{rows:RS}{ns:List Nam}(h:Zjw Z C B D H p k rows ns)(s:Zaj H H'):Zjw Z C B D H' p k rows ns:=by
 obtain⟨dx,bo,mo,o,bvs,mvs,h1,h2,h3,h4,h5,h6⟩:=h.ex;exact⟨dx,bo,mo,o,bvs,mvs,s _ _ h1,h2.mono s,s _ _ h3,h4.imp λn v ⟨y,e,b⟩=>⟨y,e,b.mono s⟩,s _ _ h5,h6.imp λn v ⟨l,e,b,z⟩=>⟨l,e,s _ _ b,z⟩⟩
def Zuv{C B:Addr}{H H':Hp}{p k q:Addr}{o:HO}{rows:RS}{n:Nat}{ds:List (LS)}(h:Zc3 C B H p k rows n ds)(hq:H q=some o)(no:∀ o' u,o≠.frz o' u)(nt:∀ xs,o≠.tup xs)(ni:∀ c d f,o≠.ins c d f)(s:∀ b o,b≠q->H b=some o->H' b=some o):Zc3 C B H' p k rows n ds:=by
 obtain⟨dx,t,us,h1,h2,h3,h4⟩:=h.ex;have ne:∀ {b u},H b=some u->o≠u->b≠q:=λ{b u} e n z=>by rw[z,hq]at e;exact n (Ym e)
 have nk:k≠q:=by
  obtain⟨_,_,_,_,_,_,_,e,_⟩:=h2.ex;exact ne e (ni _ _ _)
 exact⟨dx,t,us,s _ _ (ne h1 (ni _ _ _)) h1,Zhn h2 hq s nk no nt,s _ _ (ne h3 (nt _)) h3,Paired.mapP h4 λ_ _ ⟨t',e,x⟩=>⟨t',e,s _ _ (ne x (nt _)) x⟩⟩
def fsP(H:Hp):V->V
 | .ref t=>match H t with
  | some (.tup [x,_])=>x
  | _=>.non
 | _=>.non
def snP(H:Hp):V->V
 | .ref t=>match H t with
  | some (.tup [_,x])=>x
  | _=>.non
 | _=>.non
def Z2r{H:Hp}{t:Addr}{x y:V}(h:H t=some (.tup [x,y])):fsP H (.ref t)=x:=by show(match H t with | some (.tup [x,_])=>x | _=>.non)=x;rw[h]
def Z2e{H:Hp}{t:Addr}{x y:V}(h:H t=some (.tup [x,y])):snP H (.ref t)=y:=by show(match H t with | some (.tup [_,x])=>x | _=>.non)=y;rw[h]
def Zws{H:Hp}{p:LS×Str}{v:V}(h:PrV H p v):∃ tc,fsP H v=.ref tc/\H tc=some (.tup (p.1.map V.str)):=by
 obtain⟨t,tc,rfl,h1,h2⟩:=h;exact⟨tc,Z2r h1,h2⟩
def Zwr{H:Hp}{p:LS×Str}{v:V}(h:PrV H p v):snP H v=.str p.2:=by
 obtain⟨t,tc,rfl,h1,h2⟩:=h;exact Z2e h1
theorem Zop{H:Hp}:∀ {ps:List (LS×Str)}{vs:LV},Zns H ps vs->Zb3 H (ps.map (·.1)) (vs.map (fsP H))
 | _,_,.nil=>.nil
 | _,_,.cons h t=>by
  obtain⟨tc,e,h2⟩:=Zws h;exact .cons ⟨tc,e,h2⟩ (Zop t)
theorem Zoo{H:Hp}:∀ {ps:List (LS×Str)}{vs:LV},Zns H ps vs->vs.map (snP H)=(ps.map (·.2)).map V.str
 | _,_,.nil=>rfl
 | _,_,.cons h t=>by rw[Yz,Yz,Yz,Zwr h,Zoo t]
def Zpv{K:Fg}{J:It}{vs:LV}{Ok:Hp->Prop}(R:Zqf J vs Ok)(i:Nat)(f:V->V){σ:St}{Q:VK}{H1:Hp}{ps:List (LS×Str)}(hz:vs.length<=1000)(hp:Zns H1 ps vs)(hf:∀ v,[some (fsP H1 v),some (snP H1 v)][i]?=some (some (f v)))(hok:∀ H,Zaj H1 H->Ok H)
  (hd:∀ D H',H1 D=none->Zaj H1 H'->H' D=some (.lst (vs.map f))->Q (.ref D) H'):compBody 2 [] (g2 K 0 1) Ztn (Z8l i) σ Q J H1:=by
 refine Zyk R (sL (by omega)) (λ_=>true) (λ_ x v _=>v=f x) (fsP H1) (snP H1) (λ_ _ _ _ _ _ z=>z) hok (λx hx=>?_) ?_ ?_ ?_
 ·obtain⟨j,hj⟩:=List.getElem?_of_mem hx;obtain⟨p,_,t,tc,rfl,h1,_⟩:=Zaz hp hj;exact⟨t,Y,by rw[Z2r h1,Z2e h1];exact h1⟩
 ·intro x H' R' _ _ hR';exact hR' H' (Zaj.refl _)
 ·intro D x H' R' _ _ _ _ _ hR';exact⟨f x,hf x,hR' _ H' (Zaj.refl _) rfl⟩
 ·intro D H' ys hD s hl hq;rw[Yr2.mpr (λ_ _=>rfl)]at hq;rw[Zgu hq]at hl;exact hd D H' hD s hl
def Zjl(C:Addr):Sp:=λvs H Q _=>∃(p l:Addr) (rows:RS) (xs:LS),vs=[.ref p,.ref l]/\Zbm C H p rows/\Zc4 rows/\H l=some (.lst (xs.map V.str))/\(∀ x∈xs,x∈rows.map (·.1))/\Q .non H
def Zy3(K:Fg)(H:Hp)(l:Addr)(ns:List Nam):Prop:=∃(b:Bool) (vs:LV),SqB K b H l vs/\Paired (Zy4 K H) ns vs
def Zml(K:Fg)(C B D:Addr):Sp:=λvs H Q _=>∃(p dx k l:Addr) (rows:RS) (ns:List Nam),vs=[.ref p,.ref k,.ref l]/\H p=some (.ins D dx [])/\Zbm C H k rows/\Zc4 rows/\Zy3 K H l ns/\Za6 rows ns /\
 ∀ H',Zjw (λb=>∃ o,H b=some o) C B D H' p k rows ns->(∀ b o,b≠p->H b=some o->H' b=some o)->Q .non H'
structure Zjj(K:Fg)(D:Addr):Prop where
 cl:Cls K D
 nB:Zfr K D "book"
 nO:Zfr K D "board_of"
 nM:Zfr K D "made_of"
def Z7g:(["call","made"]:LS).Nodup:=by rfl'
abbrev nCM:LS:=["kinds","makes","made"]
def Yb3:Zah nCM ["kinds","makes"] (Zad Zem):=by nofun
def Zw4(F:Def K mg "check_makes" Zem ["kinds","makes"] f fd)(TC:Zqd K C)(MH:Z1w K C fH fdH):⋯ 2 f fd ["kinds","makes"] (Zjl C):=by
 have GH:⋯ 1 fH fdH ["self","word"] (Zzo C):=Zw2 MH.fn TC
 nomatch F.fn.ok Yb3
 ·obtain⟨p,l,rows,xs,rfl,_⟩:=h;rfl
 ·obtain⟨p,l,rows,xs,rfl,kd,g,hl,kn,q⟩:=h;have nd:=Yb3.nd;have hr1:Zci 1 _:=hr.mono (by decide);obtain⟨dx,d,a,o,oa,kvs,avs,h1,_⟩:=kd.ex;refine⟨_,(Zac (Zbh Yw rfl (Zbr (pv 1)) (gE 2 nd) (Zac (Za0 (Zcr (Zb1 (Zee (pv 0) TC.cl MH.me GH hr1 MH.b .nil Zct (pC (pv 2) Zaa)))) Zay Zal)))),?_⟩;let Iv1:NW:=λi σ H'=>∃ x,σ=[some (.ref p),some (.ref l),x]/\H'=H;refine⟨Z,l,Y,⟨_,SqL.of hl⟩,Za1 (Za8 (xs:=xs.map V.str)) Iv1 ⟨none,Y,Y⟩ (λi σ H' _ ⟨_,_,e⟩=>by rw[e];exact SqL.of hl) ?_ ?_⟩
  ·rintro i v σ H' hi ⟨x,rfl,e⟩;have e2:=e.symm;subst e2;rw[Yj]at hi;cases hx:xs[i]? with
   | none=>rw[hx]at hi;cases hi
   | some y =>
    rw[hx]at hi;cases hi;refine⟨Z,p,dx,Z,h1,Zxa _ _,Z,p,rows,y,Y,kd,g,?_⟩;rw[Jb (kn y (Yf hx))];exact⟨Z,Zcg ⟨Z,Y⟩⟩
  ·rintro σ H' ⟨x,rfl,e⟩;rw[e];exact q
def Z21{x:Str}(h:Zam x=true):x.length<=1000:=by have:=Zbu h;omega
def Z0q{kvs:KL}:∀(o':Obj) (u:HO),HO.dK kvs≠.frz o' u:=λ_ _ z=>by cases z
def Z0o{kvs:KL}:∀ xs:LV,HO.dK kvs≠.tup xs:=λ_ z=>by cases z
def Z0p{kvs:KL}:∀(c d:Addr) (f:List (Str×V)),HO.dK kvs≠.ins c d f:=λ_ _ _ z=>by cases z
def Zj3{C B:Addr}{H:Hp}{q k:Addr}{kvs:KL}{o:HO}{rows:RS}{n:Nam}{v:V}(h:BoR C B H k rows n v)(hq:H q=some (.dK kvs)):BoR C B (upd H q o) k rows n v:=by
 obtain⟨y,e,b⟩:=h;exact⟨y,e,Zuv b hq Z0q Z0o Z0p λb o hb e=>by rw[Zab hb];exact e⟩
def Zj2{Z:Addr->Prop}{H:Hp}{q:Addr}{kvs:KL}{o:HO}{n:Nam}{v:V}(h:MaR Z H n v)(hq:H q=some (.dK kvs)):MaR Z (upd H q o) n v:=by
 obtain⟨l,e,b,z⟩:=h;exact⟨l,e,by rw[Zab (λz=>by rw[z,hq]at b;cases b)];exact b,z⟩
def Zrj{C B:Addr}{H H':Hp}{k:Addr}{rows:RS}{n:Nam}{v:V}(h:BoR C B H k rows n v)(s:Zaj H H'):BoR C B H' k rows n v:=let⟨y,e,b⟩:=h;⟨y,e,b.mono s⟩
def Zq6{Z:Addr->Prop}{H H':Hp}{n:Nam}{v:V}(h:MaR Z H n v)(s:Zaj H H'):MaR Z H' n v:=let⟨l,e,b,z⟩:=h;⟨l,e,s _ _ b,z⟩
def Zlc{R:Nam->V->Prop}{ns:List Nam}{kvs:KL}{n:Nam}{v:V}(h:Zck R ns kvs)(hn:n.1∉ns.map (·.1))(hv:R n v):Zck R (ns++[n]) (Zdv kvs (Sum.inr n.1) v):=by
 rw[Zgc _ (h.not hn)];exact Yn2 h ⟨Y,hv⟩
abbrev nKI:LS:=["self","kinds","names","board_of","made_of","word","places","deeds"]
abbrev pKI:LS:=["self","kinds","names"]
def Ybt:Zah nKI pKI (Zad Zcp):=by nofun
def Z0g(F:Fun K "__init__" "Book.__init__" Zcp f fd)(T:Z5b mg)(most:∃ t,mg "MOST_NAMES"=some (.int 8 t))(TD:Zjj K D)(hDC:D≠C)(hDB:D≠B)
  (DW:Def K mg "is_word" Zc5 ["text"] fW fdW) (MB:Mk K B fBI) (mgB:mg "Board"=some (.ref B)) (bB:Zef K fdBI nBI []) (GB:⋯ 4 fBI fdBI nBI (Zqn K C B))
  (DM:Def K mg "check_makes" Zem ["kinds","makes"] fM fdM) (GM:⋯ 2 fM fdM ["kinds","makes"] (Zjl C)):
  ⋯ 6 f fd pKI (Zml K C B D):=by
 have GW:⋯ 1 fW fdW ["text"] Zg6:=Zik DW T
 nomatch F.ok Ybt
 ·obtain⟨p,dx,k,l,rows,ns,rfl,_⟩:=h;rfl
 ·obtain⟨p,dx,k,l,rows,ns,rfl,hp,kd,g,⟨b,vs,hl,hN⟩,gn,q⟩:=h;have nd:=Ybt.nd;have hu:=Zgx hr;have hr1:Zci 1 _:=hr.mono (by decide);have hr2:Zci 2 _:=hr.mono (by decide);obtain⟨t1,hM8⟩:=most;have hvl:=hN.length;have few:=gn.few
  ac_nf
  refine'⟨_,(pS (Za0 (Zan Zkt (Zao Zb8 (by rfl) T.len Yg1 (pC (pv 2) Zaa)) (Zdw (v:=.int 8) (by rfl) hM8 ⟨Z⟩) (Zar _)) Zay Zal)
   (pS (sE 3 nd Zfj)
   (pS (sE 4 nd Zfj)
   (pS (Zbh Yw rfl (Zl1 (pv 2)) (Zeg rfl (gC (gE 5 nd) (gC (gE 6 nd) (gC (gE 7 nd) Zc0))))
    (pS (Za0 (Zcr (Zb1 (Zae DW GW hr1 (pC (pv 5) Zaa)))) Zay Zal)
   (pS (Za0 (Zii (Zl3 hu (pv 5) (pv 3))) Zay Zal)
   (pS (Zft hu (pv 3) (pv 5) (Zkl MB GB hr rfl mgB bB .nil Zct (pC (pv 1) (pC (pv 6) (pC ?eC Zaa)))) rfl)
   (pS (Zft hu (pv 4) (pv 5) ?eM rfl)
   (Zac (Za4 (Zae DM GM hr2 (pC (pv 1) (pC (Zey hu (pv 4) (pv 5) (λ_ _=>rfl)) Zaa))))))))))
   (Zmu (pS (Zjo (pv 0) (pv 1) rfl)
   (pS (Zjo (pv 0) (pv 3) rfl)
   (Zac (Zjo (pv 0) (pv 4) rfl))))))))),?_⟩
  case eC=>exact Zbk ["call","made"] [] [] (λ_=>Zaw (osc:=Zad Zcp) (on:=nKI) (by rfl') rfl rfl rfl) (Zl1 (pv 7)) (λC s H fp=>Zl2 (K:=K) (i:=0) (j:=1) rfl rfl Z7g rfl rfl (Or.inl rfl) (Or.inl rfl) (Or.inr rfl) (Or.inr rfl)) (λC s H fp=>Zbj) (λC s H fp=>pv 0)
  case eM=>exact Zbk ["call","made"] [] [] (λ_=>Zaw (osc:=Zad Zcp) (on:=nKI) (by rfl') rfl rfl rfl) (Zl1 (pv 7)) (λC s H fp=>Zl2 (K:=K) (i:=0) (j:=1) rfl rfl Z7g rfl rfl (Or.inl rfl) (Or.inl rfl) (Or.inr rfl) (Or.inr rfl)) (λC s H fp=>Zbj) (λC s H fp=>pv 1)
  exists let b:=_;let c:=Zau _ b;let e:=Zau _ c;let f:=Zau _ e;let g:=Zau _ f;let h:=Zau (Zh3 _ _ g) a;let i:=Zau _ h;let j:=Zau _ i;Zau _ j _ _ _
  refine⟨Z,_,Z,Zm9 hl,_,Z,Y,Z,?_⟩;rw[show decide ((8:Int)<(vs.length:Int))=false from Jc (by omega)];refine Zcg ?_;intro bo hbo;have s1:Zaj H (upd H bo (.dK [])):=Zbg hbo;intro mo hmo;have s2:Zaj (upd H bo (.dK [])) (upd (upd H bo (.dK [])) mo (.dK [])):=Zbg hmo;have hmoH:H mo=none:=s1.free hmo;have bm:bo≠mo:=λz=>by rw[<- z,uS]at hmo;cases hmo
  let Iv1:NW:=λi σ H'=>∃(bvs mvs:KL) (x y z:OV),σ=[some (.ref p),some (.ref k),some (.ref l),some (.ref bo),some (.ref mo),x,y,z]/\Zaj H H'/\H' bo=some (.dK bvs)/\H' mo=some (.dK mvs)/\Zck (BoR C B H' k rows) (ns.take i) bvs/\Zck (MaR (λb=>∃ o,H b=some o) H') (ns.take i) mvs;refine⟨Z,b,l,vs,Y,(hl.mono s1).mono s2,Za1 Zhf Iv1
   ⟨[],[],none,none,none,Y,s1.trans s2,s2 _ _ uS,uS,by rw[Yj2];exact .nil,by rw[Yj2];exact .nil⟩ (λi σ H' _ h0=>by obtain⟨_,_,_,_,_,_,s,_⟩:=h0;exact hl.mono s) ?_ ?_⟩
  ·rintro i v σ H' hi ⟨bvs,mvs,x,y,z,rfl,s3,hb3,hm3,hB,hM⟩;obtain⟨nm,hnm,t,tp,bb,ws,rfl,ht,htp,hps⟩:=Zaz hN hi;have hmem:nm∈ns:=Yf hnm;have gnm:=gn.each nm hmem;have hnew:nm.1∉(ns.take i).map (·.1):=by
    rw[List.map_take];exact Zo6 gn.nd (by rw[Yj,hnm];rfl)
   have ht3:=s3 _ _ ht;refine⟨t,Z,SqT.of ht3,Y,_,Z,_,Z,_,Z,Y,?_⟩;refine⟨Z,nm.1,Y,Z21 gnm.word,λH4 s4=>⟨Z,?_⟩⟩;rw[gnm.word];refine Zcg ?_;have hb4:=s4 _ _ hb3;have hm4:=s4 _ _ hm3;have hB4:=hB.imp λn v h=>Zrj h s4;have hM4:=hM.imp λn v h=>Zq6 h s4;have s04:=s3.trans s4;refine⟨Z,Z,bo,Z,Zht.k (k:=Sum.inr nm.1) hb4,Z,?_⟩;rw[hB4.not hnew];refine Zcg ?_;have htp4:=htp.mono s04;have hps4:Zns H4 nm.2.2 ws:=hps.mono (Zco s04);have wl:ws.length<=64:=by
    have h1:=Yy hps;have h2:=gnm.deeds.few;rw[Ya]at h2;omega
   refine⟨Z,Z,Z,bb,tp,ws,Y,htp4,Zpv Zhf 0 (fsP H4) (by omega) hps4 (λ_=>rfl) (λH' s'=>htp4.mono s') λlc H5 hlc s45 hl5=>?_⟩;intro yb dyb ny ndy ney;refine Z0x ny ndy ((kd.mono s04).mono s45) g (.inl hl5) ((Zop hps4).mono s45) gnm.deeds gnm.one gnm.four λH6 s56 bd6=>?_;have s46:=s45.trans s56;have s06:=s04.trans s46;have hb6:=s46 _ _ hb4;have hm6:=s46 _ _ hm4;have bl:bvs.length=i:=by
    have h1:=Yy hB;rw[Yk1]at h1;have h2:=(Yi.mp hnm).1;omega
   have ml:mvs.length=i:=by
    have h1:=Yy hM;rw[Yk1]at h1;have h2:=(Yi.mp hnm).1;omega
   have il:i<8:=by
    have h2:=(Yi.mp hnm).1;omega
   refine⟨Z,Z,bo,Z,Zqc.k (k:=Sum.inr nm.1) hb6 (Zav (by omega)),?_⟩;have hB7:Zck (BoR C B (upd H6 bo (.dK (Zdv bvs (Sum.inr nm.1) (.ref yb)))) k rows) (ns.take i++[nm]) (Zdv bvs (Sum.inr nm.1) (.ref yb)):=
    Zlc (hB4.imp λn v h=>Zj3 (Zrj h s46) hb6) hnew (Zj3 ⟨yb,Y,bd6⟩ hb6)
   have hM7:Zck (MaR (λb=>∃ o,H b=some o) (upd H6 bo (.dK (Zdv bvs (Sum.inr nm.1) (.ref yb))))) (ns.take i) mvs:=hM4.imp λn v h=>Zj2 (Zq6 h s46) hb6;have s07:Zaj H (upd H6 bo (.dK (Zdv bvs (Sum.inr nm.1) (.ref yb)))):=λb o e=>by rw[Zab (nNo e hbo)];exact s06 _ _ e
   have hb7:(upd H6 bo (.dK (Zdv bvs (Sum.inr nm.1) (.ref yb)))) bo=some (.dK (Zdv bvs (Sum.inr nm.1) (.ref yb))):=uS;have hm7:(upd H6 bo (.dK (Zdv bvs (Sum.inr nm.1) (.ref yb)))) mo=some (.dK mvs):=by rw[Zab (Yu bm)];exact hm6
   generalize upd H6 bo (.dK (Zdv bvs (Sum.inr nm.1) (.ref yb)))=H7 at hB7 hM7 s07 hb7 hm7;generalize Zdv bvs (Sum.inr nm.1) (.ref yb)=bvs' at hB7 hb7;have htp7:=htp.mono s07;have hps7:Zns H7 nm.2.2 ws:=hps.mono (Zco s07);refine⟨Z,bb,tp,ws,Y,htp7,Zpv Zhf 1 (snP H7) (by omega) hps7 (λ_=>rfl) (λH' s'=>htp7.mono s') λlm H8 hlm s78 hl8=>?_⟩;rw[Zoo hps7]at hl8;have hm8:=s78 _ _ hm7;refine⟨Z,Z,mo,Z,Zqc.k (k:=Sum.inr nm.1) hm8 (Zav (by omega)),?_⟩;have lmo:lm≠mo:=λz=>by rw[z,hm7]at hlm;cases hlm
   have hM9:Zck (MaR (λb=>∃ o,H b=some o) (upd H8 mo (.dK (Zdv mvs (Sum.inr nm.1) (.ref lm))))) (ns.take i++[nm]) (Zdv mvs (Sum.inr nm.1) (.ref lm)):=
    Zlc (hM7.imp λn v h=>Zj2 (Zq6 h s78) hm8) hnew (Zj2 ⟨lm,Y,hl8,λ⟨_,z⟩=>by rw[s07.free hlm]at z;cases z⟩ hm8)
   have hB9:Zck (BoR C B (upd H8 mo (.dK (Zdv mvs (Sum.inr nm.1) (.ref lm)))) k rows) (ns.take i++[nm]) bvs':=hB7.imp λn v h=>Zj3 (Zrj h s78) hm8;have s09:Zaj H (upd H8 mo (.dK (Zdv mvs (Sum.inr nm.1) (.ref lm)))):=λb o e=>by rw[Zab (nNo e hmoH)];exact s78 _ _ (s07 _ _ e)
   have hm9:(upd H8 mo (.dK (Zdv mvs (Sum.inr nm.1) (.ref lm)))) mo=some (.dK (Zdv mvs (Sum.inr nm.1) (.ref lm))):=uS;have hb9:(upd H8 mo (.dK (Zdv mvs (Sum.inr nm.1) (.ref lm)))) bo=some (.dK bvs'):=by rw[Zab bm];exact s78 _ _ hb7
   have hl9:(upd H8 mo (.dK (Zdv mvs (Sum.inr nm.1) (.ref lm)))) lm=some (.lst ((nm.2.2.map (·.2)).map V.str)):=by rw[Zab lmo];exact hl8
   have hv9:Zf0 (Zdv mvs (Sum.inr nm.1) (.ref lm)) (Sum.inr nm.1)=some (.ref lm):=by rw[Zzh,if_pos rfl]
   generalize upd H8 mo (.dK (Zdv mvs (Sum.inr nm.1) (.ref lm)))=H9 at hM9 hB9 s09 hm9 hb9 hl9;generalize Zdv mvs (Sum.inr nm.1) (.ref lm)=mvs' at hM9 hm9 hv9;refine⟨Z,Z,Z,mo,Z,(by rw[<- hv9];exact Zht.k (k:=Sum.inr nm.1) hm9),k,lm,rows,nm.2.2.map (·.2),Y,kd.mono s09,g,hl9,λx hx=>?_,?_⟩
   ·obtain⟨pr,hpr,e⟩:=Yh.mp hx;rw[<- e];exact gnm.made pr hpr
   refine⟨bvs',mvs',_,_,Z,s09,hb9,hm9,?_,?_⟩
   ·rw[Ym1,hnm];exact hB9
   ·rw[Ym1,hnm];exact hM9
  ·rintro σ H3 ⟨bvs,mvs,x,y,z,rfl,s3,hb3,hm3,hB,hM⟩;rw[<- hvl,Yp1]at hB hM;refine⟨bo,bvs,hb3,λo=>?_⟩;have s4:Zaj H (upd H3 bo (.frz o (.dK bvs))):=λb u e=>by rw[Zab (nNo e hbo)];exact s3 _ _ e
   have hB4:=hB.imp λn v h=>Zj3 (o:=.frz o (.dK bvs)) h hb3;have hM4:=hM.imp λn v h=>Zj2 (o:=.frz o (.dK bvs)) h hb3;have hb4:(upd H3 bo (.frz o (.dK bvs))) bo=some (.frz o (.dK bvs)):=uS;have hm4:(upd H3 bo (.frz o (.dK bvs))) mo=some (.dK mvs):=by rw[Zab (Yu bm)];exact hm3
   generalize upd H3 bo (.frz o (.dK bvs))=H4 at s4 hB4 hM4 hb4 hm4;have hp4:=s4 _ _ hp;have pbo:bo≠p:=λz=>by rw[z,hp]at hbo;cases hbo
   have pmo:mo≠p:=λz=>by rw[z,hp]at hmoH;cases hmoH
   refine⟨Z,Z,p,D,dx,[],Y,hp4,TD.cl,TD.nB,(by show 0<1000;decide),?_⟩;refine⟨Z,Z,p,D,dx,Z,uS,TD.cl,TD.nO,(by show 1<1000;decide),?_⟩;rw[Zgm];refine⟨Z,Z,p,D,dx,Z,uS,TD.cl,TD.nM,(by show 2<1000;decide),?_⟩;rw[Zgm];have keep:∀ b o,b≠p->H b=some o->(upd H4 p (.ins D dx (Zg0 k bo mo))) b=some o:=λb o hb e=>by rw[Zab hb];exact s4 _ _ e
   have kp:∀ b o,b≠p->H4 b=some o->(upd H4 p (.ins D dx (Zg0 k bo mo))) b=some o:=λb o hb e=>by rw[Zab hb];exact e
   have nkp:k≠p:=by
    intro z;obtain⟨dx',d,a,o,oa,kvs,avs,h1,_⟩:=kd.ex;rw[z,hp]at h1;injection h1 with h1;injection h1 with h1;exact hDC h1
   refine q _ ⟨dx,bo,mo,o,bvs,mvs,uS,Zhn kd hp keep nkp (λ_ _ z=>by cases z) (λ_ z=>by cases z),kp _ _ pbo hb4,hB4.imp λn v h=>?_,kp _ _ pmo hm4,hM4.imp λn v h=>?_⟩ keep
   ·obtain⟨y,e,bd⟩:=h;obtain⟨dxb,t,us,h1,h2,h3,h4⟩:=bd.ex;have yp:y≠p:=by
     intro z;rw[z,hp4]at h1;injection h1 with h1;injection h1 with h1;exact hDB h1
    exact⟨y,e,dxb,t,us,kp _ _ yp h1,Zhn h2 hp4 kp nkp (λ_ _ z=>by cases z) (λ_ z=>by cases z),kp _ _ (λz=>by rw[z,hp4]at h3;cases h3) h3,Paired.mapP h4 λd v ⟨t',e,x⟩=>⟨t',e,kp _ _ (λz=>by rw[z,hp4]at x;cases x) x⟩⟩
   ·obtain⟨l',e,x,z⟩:=h;exact⟨l',e,kp _ _ (λz=>by rw[z,hp4]at x;cases x) x,z⟩
def Zkz(k bo mo:Addr):(Zg0 k bo mo).lookup ("kinds":Str)=none:=Zhp k bo mo (by rfl') (by rfl') (by rfl')
def Zo7(k bo mo:Addr):(Zg0 k bo mo).lookup ("words":Str)=none:=Zhp k bo mo (by rfl') (by rfl') (by rfl')
def Zpa(k bo mo:Addr):(Zg0 k bo mo).lookup ("board":Str)=none:=Zhp k bo mo (by rfl') (by rfl') (by rfl')
def Zw9(k bo mo:Addr):(Zg0 k bo mo).lookup ("makes":Str)=none:=Zhp k bo mo (by rfl') (by rfl') (by rfl')
def Zo8(k bo mo:Addr):(Zg0 k bo mo).lookup ("names":Str)=none:=Zhp k bo mo (by rfl') (by rfl') (by rfl')
def Zo9(k bo mo:Addr):(Zg0 k bo mo).lookup ("check_name":Str)=none:=Zhp k bo mo (by rfl') (by rfl') (by rfl')
abbrev Zro(K:Fg)(D f:Addr)(fd:FuncData):Prop:=Zqb K D "check_name" "Book.check_name" Zcz ["self","word"] f fd
abbrev Zy7(K:Fg)(D f:Addr)(fd:FuncData):Prop:=Zqb K D "board" "Book.board" Zfh ["self","word"] f fd
abbrev Z5i(K:Fg)(D f:Addr)(fd:FuncData):Prop:=Zqb K D "makes" "Book.makes" Zff ["self","word"] f fd
abbrev Zy5(K:Fg)(D f:Addr)(fd:FuncData):Prop:=Zqb K D "words" "Book.words" Zfd ["self"] f fd
abbrev Zrn(K:Fg)(D f:Addr)(fd:FuncData):Prop:=Zqb K D "kinds" "Book.kinds" Zfg ["self"] f fd
structure Yel(P:Program)(w:World)(K:Fg)(mg:Str->OU)(base:Heap)(x:Str)(C:Addr)(a:Str)(sp:Sp)(f:Addr)(fd:FuncData):Prop where
 m:mg x=some (.ref C)
 ex:ExC K C
 ini:W.findIn K (.ref C) "__init__"=some (some (.ref f))
 ty:W.typeIn K (.ref f)=some (.type "function")
 b:Zef K fd ["self",a] []
 go:⋯ 1 f fd ["self",a] sp
def Zmm(C B D:Addr):Sp:=λvs H Q _=>∃(p k:Addr) (rows:RS) (ns:List Nam) (x:Str),vs=[.ref p,.str x]/\Zeh C B D H p k rows ns/\x∈ns.map (·.1)/\Q .non H
def Zjy(C B D:Addr):Sp:=λvs H Q _=>∃(p k:Addr) (rows:RS) (ns:List Nam),vs=[.ref p]/\Zeh C B D H p k rows ns/\Q (.ref k) H
def Zmj(C B D:Addr):Sp:=λvs H Q _=>∃(p k:Addr) (rows:RS) (ns:List Nam),vs=[.ref p]/\Zeh C B D H p k rows ns/\∀ l,H l=none->Q (.ref l) (upd H l (.lst ((ns.map (·.1)).map V.str)))
def Zmn(C B D:Addr):Sp:=λvs H Q _=>∃(p k:Addr) (rows:RS) (ns:List Nam) (n:Nam),vs=[.ref p,.str n.1]/\Zeh C B D H p k rows ns/\(ns.map (·.1)).Nodup/\n∈ns/\∀ y,Zc3 C B H y k rows n.2.1 (n.2.2.map (·.1))->Q (.ref y) H
def Zr2(C B D:Addr):Sp:=λvs H Q _=>∃(p k:Addr) (rows:RS) (ns:List Nam) (n:Nam),vs=[.ref p,.str n.1]/\Zeh C B D H p k rows ns/\(ns.map (·.1)).Nodup/\n∈ns/\∀ l,H l=none->Q (.ref l) (upd H l (.lst ((n.2.2.map (·.2)).map V.str)))
theorem Zjs{R:Nam->V->Prop}:∀ {ns:List Nam}{kvs:KL},Zck R ns kvs->(kvs.map λp=>kV p.1)=(ns.map (·.1)).map V.str
 | _,_,.nil=>rfl
 | _,_,.cons r t=>by
  rw[Yz,Yz,Yz,r.1,Zjs t];rfl
def Z89:Zah ["self","word"] ["self","word"] (Zad Zcz):=by nofun
def Zo0(F:Fun K "check_name" "Book.check_name" Zcz f fd)(TD:Zjj K D):⋯ 1 f fd ["self","word"] (Zmm C B D):=by
 nomatch F.ok Z89
 ·obtain⟨p,k,rows,ns,x,rfl,_⟩:=h;rfl
 ·obtain⟨p,k,rows,ns,x,rfl,bk,hx,q⟩:=h;obtain⟨dx,bo,mo,o,bvs,mvs,h1,h2,h3,h4,h5,h6⟩:=bk.ex;have hu:=Zgx hr
  ac_nf
  refine⟨_,(Zac (Za0 (Zii (Zkn hu (pv 1) (Zfy (pv 0) rfl))) Zay Zal)),?_⟩;refine⟨Z,Z,p,D,dx,_,Z,h1,TD.cl,TD.nO,Zne _ _ _,bo,Z,Zht.f (k:=Sum.inr x) h3,Z,?_⟩;rw[h4.some hx];exact Zcg q
def Yda:Zah ["self"] ["self"] (Zad Zfg):=by nofun
def Zkw(F:Fun K "kinds" "Book.kinds" Zfg f fd)(TD:Zjj K D):⋯ 1 f fd ["self"] (Zjy C B D):=by
 nomatch F.ok Yda
 ·obtain⟨p,k,rows,ns,rfl,_⟩:=h;rfl
 ·obtain⟨p,k,rows,ns,rfl,bk,q⟩:=h;obtain⟨dx,bo,mo,o,bvs,mvs,h1,h2,h3,h4,h5,h6⟩:=bk.ex;exact⟨_,Zac (Zak (Zfy (pv 0) rfl)),Z,p,D,dx,_,Z,h1,TD.cl,TD.nB,Z4s _ _ _,q⟩
def Yc7:Zah ["self"] ["self"] (Zad Zfd):=by nofun
def Zoz(F:Fun K "words" "Book.words" Zfd f fd)(TD:Zjj K D)(list:mg "list"=none):⋯ 1 f fd ["self"] (Zmj C B D):=by
 nomatch F.ok Yc7
 ·obtain⟨p,k,rows,ns,rfl,_⟩:=h;rfl
 ·obtain⟨p,k,rows,ns,rfl,bk,q⟩:=h;obtain⟨dx,bo,mo,o,bvs,mvs,h1,h2,h3,h4,h5,h6⟩:=bk.ex;refine⟨_,Zac (Zak (Za5 (Zhw rfl) (by rfl) list Yp2 (pC (Zfy (pv 0) rfl) Zaa))),Z,p,D,dx,_,Z,h1,TD.cl,TD.nO,Zne _ _ _,bo,bvs,Y,.inr ⟨o,h3⟩,λl hl=>?_⟩;rw[Zjs h4];exact q l hl
def Ydb:Zah ["self","word"] ["self","word"] (Zad Zfh):=by nofun
def Zo1(F:Fun K "board" "Book.board" Zfh f fd)(TD:Zjj K D)(MC:Zro K D fC fdC):⋯ 2 f fd ["self","word"] (Zmn C B D):=by
 have GC:⋯ 1 fC fdC ["self","word"] (Zmm C B D):=Zo0 MC.fn TD
 nomatch F.ok Ydb
 ·obtain⟨p,k,rows,ns,n,rfl,_⟩:=h;rfl
 ·obtain⟨p,k,rows,ns,n,rfl,bk,nd,hn,q⟩:=h;obtain⟨dx,bo,mo,o,bvs,mvs,h1,h2,h3,h4,h5,h6⟩:=bk.ex;have hu:=Zgx hr;obtain⟨v,hv,y,rfl,by_⟩:=h4.val nd hn
  ac_nf
  refine⟨_,(pS (Za4 (Zee (pv 0) TD.cl MC.me GC hr MC.b .nil Zct (pC (pv 1) Zaa)))
   (Zac (Zak (Zey hu (Zfy (pv 0) rfl) (pv 1) (λ_ _=>rfl))))),?_⟩
  exists Zau _ a _ _ _
  refine⟨Z,p,dx,Z,h1,Zo9 _ _ _,Z,p,k,rows,ns,n.1,Y,bk,Yh.mpr ⟨n,hn,Y⟩,?_⟩;exact⟨Z,p,D,dx,_,Z,h1,TD.cl,TD.nO,Zne _ _ _,Z,bo,Z,(by rw[<- hv];exact Zht.f (k:=Sum.inr n.1) h3),q y by_⟩
def Yc9:Zah ["self","word"] ["self","word"] (Zad Zff):=by nofun
def Zwz(F:Fun K "makes" "Book.makes" Zff f fd)(TD:Zjj K D)(MC:Zro K D fC fdC)(list:mg "list"=none):⋯ 2 f fd ["self","word"] (Zr2 C B D):=by
 have GC:⋯ 1 fC fdC ["self","word"] (Zmm C B D):=Zo0 MC.fn TD
 nomatch F.ok Yc9
 ·obtain⟨p,k,rows,ns,n,rfl,_⟩:=h;rfl
 ·obtain⟨p,k,rows,ns,n,rfl,bk,nd,hn,q⟩:=h;obtain⟨dx,bo,mo,o,bvs,mvs,h1,h2,h3,h4,h5,h6⟩:=bk.ex;have hu:=Zgx hr;obtain⟨v,hv,l,rfl,hl,_⟩:=h6.val nd hn
  ac_nf
  refine⟨_,(pS (Za4 (Zee (pv 0) TD.cl MC.me GC hr MC.b .nil Zct (pC (pv 1) Zaa)))
   (Zac (Zak (Za5 Zeb (by rfl) list Yp2 (pC (Zey hu (Zfy (pv 0) rfl) (pv 1) (λ_ _=>rfl)) Zaa))))),?_⟩
  exists Zau _ a _ _ _
  refine⟨Z,p,dx,Z,h1,Zo9 _ _ _,Z,p,k,rows,ns,n.1,Y,bk,Yh.mpr ⟨n,hn,Y⟩,?_⟩;exact⟨Z,p,D,dx,_,Z,h1,TD.cl,TD.nM,Zx5 _ _ _,Z,mo,Z,(by rw[<- hv];exact Zht.k (k:=Sum.inr n.1) h5),l,Z,.inl (SqL.of hl),λl' hl'=>q l' hl'⟩
abbrev Z3j(K:Fg):LV->Hp->VK->Prop:=λxs H Q=>∃ p ys,xs=[.ref p]/\((SqL K H p ys/\∀ l,H l=none->Q (.ref l) (upd H l (.tup ys)))\/(SqT K H p ys/\Q (.ref p) H))
def Zr0:Sp:=λvs H Q _=>∃(p:Addr) (m mo:Nat),vs=[.ref p,.int m,.int mo]/\(∃ o,H p=some o/\Zj4 o)/\1<=m/\m<=24/\mo<=1000000/\∀(n:Nat) H',Drawn p H H'->1<=n->n<=4->(n=1\/m ^ n<=mo)->Q (.int n) H'
def Zvt:Sp:=λvs H Q _=>∃(p aa t:Addr) (n m:Nat) (rows:RS) (avs:KL) (c:LS),vs=[.ref p,.ref aa,.ref t,.int m]/\(∃ o,H p=some o/\Zj4 o)/\Zc4 rows/\H aa=some (.dK avs)/\Zdn H rows rows avs/\H t=some (.tup (c.map V.str))/\Zcj rows n c/\n<=4/\m<=63 /\
 ∀(ld:Addr) (ds:List (LS)) (us:LV) (H':Hp),Drawn p H H'->H ld=none->H' ld=some (.lst us)->Zb3 H' ds us->Zbw rows n ds->ds.length<=m->Q (.ref ld) H'
theorem Zwj{α β:Type}{F:α->β->Prop}:∀ {l:List α}{m:List β}(k:Nat),Paired F l m->Paired F (l.take k) (m.take k)
 | _,_,0,_=>by rw[Yj2,Yj2];exact .nil
 | _,_,_ + 1,.nil=>.nil
 | _,_,k + 1,.cons r t=>.cons r (Zwj k t)
theorem Zwk{α β:Type}{F:α->β->Prop}:∀ {l:List α}{m:List β}(k:Nat),Paired F l m->Paired F (l.drop k) (m.drop k)
 | _,_,0,r=>r
 | _,_,_ + 1,.nil=>.nil
 | _,_,k + 1,.cons _ t=>Zwk k t
theorem Zsg{α β:Type}{F:α->β->Prop}:∀ {l l':List α}{m m':List β},Paired F l m->Paired F l' m'->Paired F (l++l') (m++m')
 | _,_,_,_,.nil,h=>h
 | _,_,_,_,.cons r t,h=>.cons r (Zsg t h)
def Z68:(["word","above","pot"]:LS).Nodup:=by rfl'
def Zup{p:Addr}{H H':Hp}(d:Drawn p H H'){b:Addr}(h:H' b=none):H b=none:=by
 cases z:H b with
 | none=>rfl
 | some u =>
  by_cases e:b=p
  ·obtain⟨op,hpp,_⟩:=d.pot;rw[e,hpp]at h;cases h
  ·rw[d.keep _ _ e z]at h;cases h
abbrev nPl:LS:=["pot","many","most","size","greatest"]
def Ybl:Zah nPl ["pot","many","most"] (Zad Zeo):=by nofun
def Zww(F:Def K mg "_law_places" Zeo ["pot","many","most"] f fd)(DT:Def K mg "_law_take" Zbb ["pot","many"] fT fdT)(GT:⋯ 1 fT fdT ["pot","many"] Zgo):
  ⋯ 2 f fd ["pot","many","most"] Zr0:=by
 nomatch F.fn.ok Ybl
 ·obtain⟨p,m,mo,rfl,_⟩:=h;rfl
 ·obtain⟨p,m,mo,rfl,⟨o,hp,ho⟩,m1,m24,hmo,q⟩:=h;have nd:=Ybl.nd
  ac_nf
  refine'⟨_,(pS (sE 3 nd (pv 1))
   (pS (sE 4 nd Zaf)
   (pS (Zhi Yw (PW.pt (Zl0 (Zan Zos (pv 4) Zaf (Zar _)) (Zi4 (Zan Zjt (Zax Zl5 (pv 3) (pv 1)) (pv 2) (Zar _)))))
    (pS (sE 3 nd (Zax Zl5 (pv 3) (pv 1)))
   (Zac (sE 4 nd (Zax Zcb (pv 4) Zaf)))))
   (Zac (Zak (Zax Zcb Zaf (Zae DT GT hr (pC (pv 0) (pC (pv 4) Zaa))))))))),?_⟩
  exists let b:=_;let c:=Zau _ b;let e:=Zau (Zn5 _ c) a;let f:=Zau _ e;Zau _ f _ _ _
  refine⟨Z,?_⟩;let Hv1:NW:=λk σ H'=>H'=H/\∃ g:Nat,σ=[some (.ref p),some (.int m),some (.int mo),some (.int ((m ^ g:Nat):Int)),some (.int g)]/\k=4 - g/\1<=g/\g<=4/\(g=1\/m ^ g<=mo);refine⟨Hv1,
   ⟨3,Y,1,by rw[Nat.pow_one];rfl,Y,V,V,.inl rfl⟩,?_⟩
  rintro k σ H' ⟨rfl,g,rfl,rfl,g1,g4,hg⟩;have bound:m ^ g<=1000000:=by
   rcases hg with e | e
   ·rw[e,Nat.pow_one];omega
   ·omega
  have fin:∀(v:Int) (o':HO),0<=v->v<(g:Int)->Zj4 o'->Q (.int (1 + v)) (upd H' p o'):=λv o' hv0 hv1 ho'=>by
   obtain⟨k,rfl⟩:∃ k:Nat,v=(k:Int):=⟨v.toNat,W⟩;have e:(1 + (k:Int))=((k + 1:Nat):Int):=by omega
   rw[e];refine q (k + 1) _ (Drawn.upd ho') (by omega) (by omega) ?_;by_cases k0:k=0
   ·exact .inl (by omega)
   ·rcases hg with z | z
    ·omega
    ·exact .inr (Yv1 (Nat.pow_le_pow_right m1 (by omega)) z)
  refine⟨Z,_,Z,Y,Z,?_⟩;refine Ze1 (λh1=>?_) (λh1=>?_)
  rotate_left
  ·refine Zcg ?_;exact⟨Z,Z,p,(g:Int),o,Y,hp,ho,W,W,λv o' hv0 hv1 ho'=>⟨_,Z,Y,fin v o' hv0 hv1 ho'⟩⟩
  ·refine⟨Z,Z,_,Z,Y,.inl ⟨W,W⟩,Z,_,Z,Y,Z,?_⟩;have em:((m ^ g:Nat):Int) * ((m:Nat):Int)=((m ^ (g + 1):Nat):Int):=by rw[Nat.pow_succ,Int.natCast_mul]
   rw[em];refine Ze1 (λh2=>?_) (λh2=>?_)
   ·have hn:(g:Int)<4:=Je h1;have h2:((m ^ (g + 1):Nat):Int)<=(mo:Int):=Je h2;let Hv2:SW:=λσ' H4=>σ'=[some (.ref p),some (.int m),some (.int mo),some (.int ((m ^ (g + 1):Nat):Int)),some (.int ((g + 1:Nat):Int))]/\H4=H';refine⟨Hv2,?_,?_⟩
    ·rintro σ' H4 ⟨rfl,rfl⟩;exact⟨4 - (g + 1),W,Y,g + 1,Y,Y,W,W,.inr (by omega)⟩
    ·refine⟨Z,Z,_,Z,Y,.inl ⟨W,W⟩,?_⟩;refine⟨Z,_,Z,Y,?_,Y⟩;show([some (.ref p),some (.int m),some (.int mo),some (.int (((m ^ g:Nat):Int) * ((m:Nat):Int))),some (.int ((g:Int) + 1))]:St)=_;rw[em];rfl
   ·exact⟨Z,Z,p,(g:Int),o,Y,hp,ho,W,W,λv o' hv0 hv1 ho'=>⟨_,Z,Y,fin v o' hv0 hv1 ho'⟩⟩
abbrev nCh:LS:=["pot","above","call","most","found","k"]
def Yb0:Zah nCh ["pot","above","call","most"] (Zad Zd4):=by nofun
set_option maxHeartbeats 8000000 in
def Z0i(F:Def K mg "_law_chain" Zd4 ["pot","above","call","most"] f fd)(T:Z5c mg)(DT:Def K mg "_law_take" Zbb ["pot","many"] fT fdT)(GT:⋯ 1 fT fdT ["pot","many"] Zgo):
  ⋯ 2 f fd ["pot","above","call","most"] Zvt:=by
 nomatch F.fn.ok Yb0
 ·obtain⟨p,aa,t,n,m,rows,avs,c,rfl,_⟩:=h;rfl
 ·obtain⟨p,aa,t,n,m,rows,avs,c,rfl,⟨o,hp,ho⟩,g,haa,hA,ht,gc,n4,hm,q⟩:=h;have nd:=Yb0.nd;have hu:=Zgx hr
  ac_nf
  refine'⟨_,(pS (sE 4 nd (Zbd Zaa))
   (pS (Zbh Yw rfl (Zca (by rfl) T.range (pC (Zae DT GT hr (pC (pv 0) (pC (Zax Zcb (pv 3) Zaf) Zaa))) Zaa)) (gE 5 nd)
    (Zgd (Za0 (Zan (Zoq (Yce hr)) (pv 2) (pv 4) (by with_unfolding_all rfl))
     (Zac (Za4 (Zdg Ye1 PySem.F.slot_list_insert PySem.F.type_list_insert Zpc (pv 4) (pC (Zae DT GT hr (pC (pv 0) (pC (Zax Zcb (Zao Zap (by rfl) T.len Yg1 (pC (pv 4) Zaa)) Zaf) Zaa))) (pC (pv 2) Zaa))))) Zal)
   (Zac (sE 2 nd (Za5 (r:=Z3j K) Za9 (by rfl) T.tuple Yu1 (pC ?eC Zaa))))))
   (Zac (Zak (pv 4))))),?_⟩
  case eC=>exact(Zbk ["word"] ["above","pot"] [1,0] (λ_=>Zaw (osc:=Zad Zd4) (on:=nCh) (by rfl') rfl rfl rfl) (Zgi (pv 2)) (λC s H fp=>Zai (i:=0) Z68 rfl (Or.inl rfl) (Or.inr rfl)) (λC s H fp=>Zbj) (λC s H fp=>Za2 (r:=Zhs K) Zat (Zey hu (pv 1) (pv 0) (λ_ _=>rfl)) (Zae DT GT hr (pC (pv 2) (pC (Zao (r:=Z3l K) Zap (by rfl) T.len Yg1 (pC (Zey hu (pv 1) (pv 0) (λ_ _=>rfl)) Zaa)) Zaa))) (λ_ _=>rfl)))
  exists let b:=_;let c:=_;let e:=Z51 (Zlg _ c _) b;let f:=Zau (Zh3 _ _ e) a;Zau _ f _ _ _
  refine⟨Yj1 _,λld hld=>?_⟩;have pd:p≠ld:=nNo hp hld;have d1:=(Drawn.refl (p:=p) ⟨o,hp,ho⟩).new (o:=.lst []) hld;obtain⟨o1,hp1,ho1⟩:=d1.pot;have aap:aa≠p:=λz=>by rw[z,hp]at haa;obtain⟨_,_,q',_⟩:=ho;rw[q']at haa;cases haa
  refine⟨Z,Z,_,Z,Y,p,_,o1,Y,hp1,ho1,W,W,λv o2 hv0 hv1 ho2=>⟨v,Y,W,W,?_⟩⟩;have d2:Drawn p H (upd (upd H ld (.lst [])) p o2):=d1.trans (Drawn.upd ho2);let Hv3:NW:=λi σ H'=>∃(ds:List (LS)) (us:LV) (c':LS) (t':Addr) (x:OV),σ=[some (.ref p),some (.ref aa),some (.ref t'),some (.int m),some (.ref ld),x]/\Drawn p H H'/\H' ld=some (.lst us)/\Zb3 H' ds us/\(∀ d∈ds,Zcj rows n d)/\ds.Nodup/\ds.length<=i/\H' t'=some (.tup (c'.map V.str))/\Zcj rows n c';refine Za1 Zbq Hv3
   ⟨[],[],c,t,none,Y,d2,by rw[Zab (Yu pd)];exact uS,.nil,(λd h=>nomatch h),Yi4,Yg _,Drawn.tup d2 hp ho ht,gc⟩ (λ_ _ _ _ _=>trivial) ?_ ?_
  ·rintro i v' σ H5 hi ⟨ds,us,c5,t5,x5,rfl,d5,hd5,hD5,gc5,nd5,len5,ht5,gt5⟩;obtain⟨hi,rfl⟩:=Za7 hi;obtain⟨o5,hp5,ho5⟩:=d5.pot;have okc:∀ y∈c5,Zam y=true:=λy hy=>Zbi g y (gt5.known y hy);have okd:∀ d∈ds,∀ y∈d,Zam y=true:=λd hd y hy=>Zbi g y ((gc5 d hd).known y hy);have hul:=hD5.length;let Hv4:SW:=λσ' H'=>∃(ds':List (LS)) (us':LV),σ'=[some (.ref p),some (.ref aa),some (.ref t5),some (.int m),some (.ref ld),some (.int (0 + (i:Nat)))]/\Drawn p H H'/\H' ld=some (.lst us')/\Zb3 H' ds' us'/\(∀ d∈ds',Zcj rows n d)/\ds'.Nodup/\ds'.length<=i + 1/\H' t5=some (.tup (c5.map V.str));refine⟨Hv4,?_,?_⟩
   ·refine⟨Z,Z,Znu c5,ds.map Znu,Zif ht5,.list (SqL.of hd5) (Zi3 hD5),Zkx 8 okc,Zso 7 okd,Z,?_⟩;rw[Ztd];refine Ze1 (λh=>?_) (λh=>?_)
    ·have hn:c5∉ds:=by simpa using h
     refine⟨Z,.inl ⟨Y,_,SqL.of hd5⟩,Z,Z,ld,us,Y,.inl (SqL.of hd5),_,Z,Y,p,_,o5,Y,hp5,ho5,W,W,λa o6 ha0 ha1 ho6=>?_⟩;obtain⟨j,rfl⟩:∃ j:Nat,a=(j:Int):=⟨a.toNat,W⟩;have d6:Drawn p H5 (upd H5 p o6):=Drawn.upd ho6;have hd6:=d6.keep _ _ (Yu pd) hd5;refine⟨Z,ld,us,_,Z,Y,hd6,W,W,Zav (by omega),ds.take j++c5 :: ds.drop j,us.take j++V.ref t5 :: us.drop j,Y,?_,?_,?_,?_,?_,?_,?_⟩
     ·exact(d5.trans d6).sub (o':=.lst []) (q:=ld) (λb o hb e=>by rw[Zab hb];exact e) hld pd
     ·exact uS
     ·have tk:∀ b zs,H5 b=some (.tup zs)->(upd (upd H5 p o6) ld (.lst (us.take j++V.ref t5 :: us.drop j))) b=some (.tup zs):=λb zs e=>by
       rw[Zab (λz=>by rw[z,hd5]at e;cases e)];exact Drawn.tup d6 hp5 ho5 e
      exact Zsg (Zwj j (hD5.drawn (p:=p) (o:=.lst []) tk)) (.cons ⟨t5,Y,tk _ _ ht5⟩ (Zwk j (hD5.drawn (p:=p) (o:=.lst []) tk)))
     ·intro d hd
      rcases Yl.mp hd with z | z
      ·exact gc5 d (Ye4 z)
      ·rcases Yt.mp z with z | z
       ·rw[z];exact gt5
       ·exact gc5 d (List.mem_of_mem_drop z)
     ·have pm:(ds.take j++c5 :: ds.drop j).Perm (c5 :: ds):=by
       have:=List.perm_middle (a:=c5) (l₁:=ds.take j) (l₂:=ds.drop j)
       rwa [Yk3]at this
      exact pm.nodup_iff.mpr (Yt1.mpr ⟨hn,nd5⟩)
     ·rw[Yc,Yv,Yk1,Yv2];omega
     ·rw[Zab (λz=>by rw[z,hd5]at ht5;cases ht5)];exact Drawn.tup d6 hp5 ho5 ht5
    ·exact⟨ds,us,Y,d5,hd5,hD5,gc5,nd5,W,ht5⟩
   ·rintro σ' H6 ⟨ds',us',rfl,d6,hd6,hD6,gc6,nd6,len6,ht6⟩;obtain⟨o6,hp6,ho6⟩:=d6.pot;let Iv1:Addr->Nat->LV->St->Hp->Prop:=λD j ys σ' H'=>Drawn p H6 H'/\H' D=some (.lst ys)/\∃(bs:LS) (x:OV),ys=bs.map V.str/\bs.length=j/\(∀ x∈bs,x∈rows.map (·.1))/\σ'=[x,some (.ref aa),some (.ref p)];refine⟨Z,t5,Y,⟨_,SqT.of ht6⟩,Zcc (Zc9 (xs:=c5.map V.str)) (sL (by rw[Ya];have:=gt5.len;omega)) Iv1
     (λD hD=>⟨(Drawn.refl ⟨o6,hp6,ho6⟩).new hD,uS,[],none,Y,Y,(λx h=>nomatch h),Y⟩) (λD j ys σ' H' _ h0=>by obtain⟨d,_,bs,_,e,el,_⟩:=h0;exact⟨SqT.of (Drawn.tup d hp6 ho6 ht6),by rw[e,Ya];have:=gt5.len;omega⟩) ?_ ?_⟩
    ·rintro D j v ys σ' H7 hD hj ⟨d7,hl7,bs,x7,rfl,rfl,hb,rfl⟩;rw[Yj]at hj;cases hx:c5[bs.length]? with
     | none=>rw[hx]at hj;cases hj
     | some x =>
      rw[hx]at hj;cases hj;obtain⟨o7,hp7,ho7⟩:=d7.pot;have pD:p≠D:=nNo hp6 hD;have hxm:=gt5.known x (Yf hx);obtain⟨r,hr',er⟩:=Ze6 hxm;obtain⟨tf,fs,hv,htf,hfs,fl⟩:=hA.val' g.nd hr';have xfs:x∈fs:=(hfs x).mpr (by rw[er];exact .refl x);have fpos:0<fs.length:=Yk2.mpr λz=>by rw[z]at xfs;cases xfs
      have tp:tf≠p:=Yu (Zij hp ho htf);have d07:=d6.trans d7;have haa7:=d07.keep _ _ aap haa;have htf7:=d07.keep _ _ tp htf;have gle:=g.le;have get:∀ {H':Hp},H' aa=some (.dK avs)->Zht H' aa (.str x) (some (.ref tf)):=λ{H'} e=>by rw[<- hv,er];exact Zht.k (k:=Sum.inr x) e
      refine⟨Z,Z,aa,Z,get haa7,Z,Z,Z,aa,Z,get haa7,tf,Z,.inl (SqL.of htf7),p,_,o7,Y,hp7,ho7,by rw[Ya];omega,by rw[Ya];omega,λv o8 hv0 hv1 ho8=>?_⟩;obtain⟨y,hym,hat⟩:=Zdz hv0 hv1;have d8:Drawn p H7 (upd H7 p o8):=Drawn.upd ho8;refine⟨tf,_,_,Z,Y,SqL.of (d8.keep _ _ tp htf7),hat,d8.keep _ _ (Yu pD) hl7,(d7.trans d8).sub (o':=.lst []) (q:=D) (λb o hb e=>by rw[Zab hb];exact e) hD pD,uS,bs++[y],_,by rw[Yr];rfl,by simp,λz hz=>?_,Y⟩
      rcases Yl.mp hz with z | z
      ·exact hb _ z
      ·rw[Ye.mp z];exact Zsc g hxm (by rw[<- er];exact(hfs y).mp hym)
    ·rintro D ys σ' H7 hD ⟨d7,hl7,bs,x7,rfl,hbl,hb,rfl⟩;rw[Ya,gt5.len]at hbl;refine⟨D,Z,.inl ⟨SqL.of hl7,λt8 ht8=>?_⟩⟩;have s8:Zaj H7 (upd H7 t8 (.tup (bs.map V.str))):=Zbg ht8;have d08:=(d6.trans d7).same s8;refine⟨ds',us',bs,t8,Z,d08,s8 _ _ (d7.keep _ _ (Yu pd) hd6),(hD6.drawn (p:=p) (o:=.lst []) λb zs e=>s8 _ _ (Drawn.tup d7 hp6 ho6 e)),gc6,nd6,len6,uS,hbl,hb⟩
  ·rintro σ H6 ⟨ds,us,c5,t5,x5,rfl,d6,hd6,hD6,gc6,nd6,len6,_⟩;rw[Za3]at len6;exact⟨Z,q ld ds us H6 d6 hld hd6 hD6 ⟨gc6,nd6,W⟩ (by omega)⟩
def Zp9{p:Addr}{H H':Hp}{o:HO}{all rows:RS}{avs:KL}(h:Zdn H all rows avs)(hp:H p=some o)(ho:Zj4 o)(d:Drawn p H H'):Zdn H' all rows avs :=
 Paired.mapP h λ_ _ z=>⟨z.1,let⟨t,fs,e,x,y⟩:=z.2;⟨t,fs,e,d.keep _ _ (Yu (Zij hp ho x)) x,y⟩⟩
def Z56:Sp:=λvs H Q _=>∃(p l aa:Addr) (n m:Nat) (rows:RS) (avs:KL),vs=[.ref p,.ref l,.ref aa,.int n,.int m]/\(∃ o,H p=some o/\Zj4 o)/\Ze3 H l rows/\Zc4 rows/\H aa=some (.dK avs)/\Zdn H rows rows avs/\1<=n/\n<=4/\m<=63 /\
 ∀(t:Addr) (ps:List (LS×Str)) (us:LV) (H':Hp),Drawn p H H'->H' t=some (.tup us)->Zns H' ps us->Zbw rows n (ps.map (·.1))->(∀ q∈ps,q.2∈rows.map (·.1))->ps.length<=m->Q (.ref t) H'
def at4{a b c d:V}{v:Int}(h0:0<=v)(h1:v<4):∃ x,atI [a,b,c,d] v=some x/\(x=a\/x=b\/x=c\/x=d):=by
 obtain⟨k,rfl⟩:∃ k:Nat,v=(k:Int):=⟨v.toNat,W⟩;have hk:k<4:=by omega
 match k,hk with
 | 0,_=>exact⟨a,Y,.inl rfl⟩
 | 1,_=>exact⟨b,Y,.inr (.inl rfl)⟩
 | 2,_=>exact⟨c,Y,.inr (.inr (.inl rfl))⟩
 | 3,_=>exact⟨d,Y,.inr (.inr (.inr rfl))⟩
abbrev nPa:LS:=["pot","rows","above","places","most","words","deeds","start","way","place","word","pairs","deed","made"]
abbrev pPa:LS:=["pot","rows","above","places","most"]
def Ybm:Zah nPa pPa (Zad Zdc):=by nofun
set_option maxHeartbeats 8000000 in
def Z0a(F:Def K mg "_law_pairs" Zdc pPa f fd)(T:Z5c mg)(DT:Def K mg "_law_take" Zbb ["pot","many"] fT fdT)(GT:⋯ 1 fT fdT ["pot","many"] Zgo)
  (DD:Def K mg "_law_deeds" Zdd ["pot","rows","above","places","most"] fD fdD) (GD:⋯ 2 fD fdD ["pot","rows","above","places","most"] Zvs) (DC:Def K mg "_law_chain" Zd4 ["pot","above","call","most"] fC fdC) (GC:⋯ 2 fC fdC ["pot","above","call","most"] Zvt):
  ⋯ 3 f fd pPa Z56:=by
 nomatch F.fn.ok Ybm
 ·obtain⟨p,l,aa,n,m,rows,avs,rfl,_⟩:=h;rfl
 ·obtain⟨p,l,aa,n,m,rows,avs,rfl,⟨o0,hp0,ho0⟩,hR,g,haa,hA,n1,n4,hm,q⟩:=h;have nd:=Ybm.nd;have hu:=Zgx hr;have hr1:Zci 1 _:=hr.mono (by decide);have gle:=g.le
  ac_nf
  refine'⟨_,(pS (Zag (i:=5) nd rfl (Or.inr rfl) ?e1)
   (pS (sE 6 nd (Zae DD GD hr (pC (pv 0) (pC (pv 1) (pC (pv 2) (pC (pv 3) (pC (pv 4) Zaa)))))))
   (Zgd (Za0 (Zan Zdk (Zae DT GT hr1 (pC (pv 0) (pC Zaf Zaa))) Zaf (Zar _))
    (pS (sE 7 nd (Za5 (r:=Z3j K) Za9 (by rfl) T.tuple Yu1 (pC ?e2 Zaa)))
   (Zac (sE 6 nd (Zae DC GC hr (pC (pv 0) (pC (pv 2) (pC (pv 7) (pC (pv 4) Zaa)))))))) Zal)
   (pS (sE 8 nd (Zae DT GT hr1 (pC (pv 0) (pC Zaf Zaa))))
   (pS (sE 9 nd (Zae DT GT hr1 (pC (pv 0) (pC (pv 3) Zaa))))
   (pS (sE 10 nd (Za2 (r:=Zhs K) Zat (pv 5) (Zae DT GT hr1 (pC (pv 0) (pC (Zao Zap (by rfl) T.len Yg1 (pC (pv 5) Zaa)) Zaa))) (λ_ _=>rfl)))
   (pS (sE 11 nd (Zbd Zaa))
   (pS (Zbh Yw rfl (Zbr (pv 6)) (gE 12 nd)
    (pS (sE 13 nd (Za2 (r:=Zj0 K) Zch (Zcs (pC (Za2 (r:=Zhs K) Zat (pv 5) (Zae DT GT hr1 (pC (pv 0) (pC (Zao Zap (by rfl) T.len Yg1 (pC (pv 5) Zaa)) Zaa))) (λ_ _=>rfl)) (pC (pv 10) (pC (Za2 (r:=Zj0 K) Zch (pv 12) (pv 9) (λ_ _=>rfl)) (pC (Za2 (r:=Zj0 K) Zch (pv 12) (pv 9) (λ_ _=>rfl)) Zaa))))) (pv 8) (λ_ _=>rfl)))
   (Zac (Za4 (Zdg Ye1 Yn1 Yo1 Zbc (pv 11) (pC (Zcs (pC (pv 12) (pC (pv 13) Zaa))) Zaa))))))
   (Zac (Zak (Za5 (r:=Z3j K) Za9 (by rfl) T.tuple Yu1 (pC (pv 11) Zaa)))))))))))),?_⟩
  case e1=>exact(Zbk ["row"] [] [] (λ_=>Zaw (osc:=Zad Zdc) (on:=nPa) (by rfl') rfl rfl rfl) (Zbr (pv 1)) (λC s H fp=>Zai (i:=0) Zq0 rfl (Or.inl rfl) (Or.inr rfl)) (λC s H fp=>Zbj) (λC s H fp=>Za2 (r:=Zj0 K) Zch (pv 0) Zaf (λ_ _=>rfl)))
  case e2=>exact(Zbk ["k"] ["words","pot"] [5,0] (λ_=>Zaw (osc:=Zad Zdc) (on:=nPa) (by rfl') rfl rfl rfl) (Zca (by rfl) T.range (pC (pv 3) Zaa)) (λC s H fp=>Zai (i:=0) Z2m rfl (Or.inl rfl) (Or.inr rfl)) (λC s H fp=>Zbj) (λC s H fp=>Za2 (r:=Zhs K) Zat (pv 1) (Zae DT GT hr1 (pC (pv 2) (pC (Zao (r:=Z3l K) Zap (by rfl) T.len Yg1 (pC (pv 1) Zaa)) Zaa))) (λ_ _=>rfl)))
  exists let b:=_;let c:=Zau _ b;let e:=Zau (Zh3 _ _ c) a;let f:=Zau _ e;let g:=Zau _ f;let h:=Zau _ g;let i:=Zau _ h;let j:=_;let k:=Zau _ j;let l:=Z51 (Zlg _ k _) i;let m:=Zau _ l;Zau _ m _ _ _
  obtain⟨vs0,hvs0,hpr0⟩:=id hR;refine⟨Z,l,Y,⟨_,SqL.of hvs0⟩,Ziw hR (by omega) (λt u x H' R ht hRx=>⟨Z,t,_,_,Z,Y,SqT.of ht,Y,hRx⟩) λlw H1 hlw s1 hw=>?_⟩;have hp1:=s1 _ _ hp0;have lwp:lw≠p:=Yu (Zij hp1 ho0 hw);have wne:rows.map (·.1)≠[]:=by
   have:=g.ne;intro z;have z2:=congrArg List.length z;rw[Ya]at z2;simp at z2;rw[z2]at this;simp at this
  have wpos:0<(rows.map (·.1)).length:=Yk2.mpr wne;have wl:(rows.map (·.1)).length<=24:=by rw[Ya];exact gle
  have haa1:=s1 _ _ haa;have aap:aa≠p:=λz=>by rw[z,hp0]at haa;obtain⟨_,_,q',_⟩:=ho0;rw[q']at haa;cases haa
  have hA1:Zdn H1 rows rows avs:=hA.mono λb xs e=>s1 _ _ e;refine⟨Z,Z,Z,Z,Z,p,l,aa,n,m,rows,avs,Y,⟨o0,hp1,ho0⟩,Zcq hR s1,g,haa1,hA1,n1,n4,hm,λld ds us H2 d12 hld hus hD gd dl=>?_⟩;obtain⟨o2,hp2,ho2⟩:=id d12.pot;have hw2:=d12.keep _ _ lwp hw;let Hv1:SW:=λσ' H'=>∃(ld:Addr) (ds:List (LS)) (us:LV) (x:OV),σ'=[some (.ref p),some (.ref l),some (.ref aa),some (.int n),some (.int m),some (.ref lw),some (.ref ld),x,none,none,none,none,none,none]/\Drawn p H1 H'/\ld≠p/\H' ld=some (.lst us)/\Zb3 H' ds us/\Zbw rows n ds/\ds.length<=m;refine⟨Hv1,?_,?_⟩
  ·refine⟨Z,p,3,o2,Y,hp2,ho2,V,V,λv o3 hv0 hv1 ho3=>⟨Y,Z,?_⟩⟩;have d23:Drawn p H2 (upd H2 p o3):=Drawn.upd ho3;have d13:=d12.trans d23;have ldp:ld≠p:=λz=>by rw[z,hp1]at hld;cases hld
   have hus3:=d23.keep _ _ ldp hus;have hD3:Zb3 (upd H2 p o3) ds us:=hD.drawn (p:=p) (o:=.lst []) λb zs e=>Drawn.tup d23 hp2 ho2 e;generalize upd H2 p o3=H3 at d23 d13 hus3 hD3;refine Ze1 (λ_=>?_) (λ_=>⟨ld,ds,us,none,Y,d13,ldp,hus3,hD3,gd,dl⟩);obtain⟨o3',hp3,ho3'⟩:=id d13.pot;have hw3:=d13.keep _ _ lwp hw;let Iv1:Addr->Nat->LV->St->Hp->Prop:=λD i ys σ' H'=>Drawn p H3 H'/\H' D=some (.lst ys)/\∃(bs:LS) (o:OV),ys=bs.map V.str/\bs.length=i/\(∀ x∈bs,x∈rows.map (·.1))/\σ'=[o,some (.ref lw),some (.ref p)];refine⟨Z,n,Y,W,W,Zcc Zbq (by rw[Za3];exact sL (by omega)) Iv1
    (λD hD=>⟨(Drawn.refl ⟨o3',hp3,ho3'⟩).new hD,uS,[],none,Y,Y,(λx h=>nomatch h),Y⟩) (λD i ys σ' H' _ h0=>by obtain⟨_,_,bs,_,e,el,_⟩:=h0;exact⟨trivial,by rw[e,Ya];omega⟩) ?_ ?_⟩
   ·rintro D i v ys σ' H' hD' hi ⟨d,hl,bs,o,rfl,rfl,hb,rfl⟩;obtain⟨hi,rfl⟩:=Za7 hi;obtain⟨o1,hpp,hoo⟩:=d.pot;have hw1:=d.keep _ _ lwp hw3;have pD:p≠D:=nNo hp3 hD';refine⟨Z,Z,Z,lw,Z,.inl (SqL.of hw1),p,_,o1,Y,hpp,hoo,by rw[Ya];omega,by rw[Ya];omega,λv o2 hv0 hv1 ho2=>?_⟩;obtain⟨x,hxm,hat⟩:=Zdz hv0 hv1;have d2:Drawn p H' (upd H' p o2):=Drawn.upd ho2;refine⟨lw,_,_,Z,Y,SqL.of (d2.keep _ _ lwp hw1),hat,d2.keep _ _ (Yu pD) hl,(d.trans d2).sub (o':=.lst []) (q:=D) (λb o hb e=>by rw[Zab hb];exact e) hD' pD,uS,bs++[x],_,by rw[Yr];rfl,by simp,λy hy=>?_,Y⟩
    rcases Yl.mp hy with z | z
    ·exact hb y z
    ·rw[Ye.mp z];exact hxm
   rintro lb ys σ' H4 hlb ⟨d34,hlb4,bs,o,rfl,hbl,hb,rfl⟩;rw[Za3]at hbl;have hbl:bs.length=n:=by simpa using hbl
   refine⟨lb,Z,.inl ⟨SqL.of hlb4,λts hts=>?_⟩⟩;have s45:Zaj H4 (upd H4 ts (.tup (bs.map V.str))):=Zbg hts;have d15:=(d13.trans d34).same s45;obtain⟨o5,hp5,ho5⟩:=id d15.pot;refine⟨Z,Z,Z,Z,p,aa,ts,n,m,rows,avs,bs,Y,⟨o5,hp5,ho5⟩,g,d15.keep _ _ aap haa1,Zp9 hA1 hp1 ho0 d15,uS,⟨hbl,hb⟩,n4,hm,λld' ds' us' H6 d56 hld' hus' hD' gd' dl'=>?_⟩;exact⟨ld',ds',us',Z,d15.trans d56,(λz=>by rw[z,hp5]at hld';cases hld'),hus',hD',gd',dl'⟩
  ·rintro σ' H3 ⟨ld,ds,us,x,rfl,d13,ldp,hus,hD,gd,dl⟩;obtain⟨o3,hp3,ho3⟩:=id d13.pot;have hul:=hD.length;refine⟨Z,p,4,o3,Y,hp3,ho3,V,V,λwy o4 hw0 hw1 ho4=>?_⟩;refine⟨Z,Z,p,(n:Int),o4,Y,uS,ho4,W,W,λpl o5 hl0 hl1 ho5=>?_⟩;have d35:Drawn p H3 (upd (upd H3 p o4) p o5):=(Drawn.upd ho4).trans (Drawn.upd ho5);generalize upd (upd H3 p o4) p o5=H5 at d35;have d15:=d13.trans d35;obtain⟨o5',hp5,ho5'⟩:=id d15.pot;have hw5:=d15.keep _ _ lwp hw;refine⟨Z,Z,Z,lw,Z,.inl (SqL.of hw5),p,_,o5',Y,hp5,ho5',by rw[Ya];omega,by rw[Ya];omega,λv o6 hv0 hv1 ho6=>?_⟩;obtain⟨y,hym,hat⟩:=Zdz hv0 hv1;have d56:Drawn p H5 (upd H5 p o6):=Drawn.upd ho6;refine⟨lw,_,_,Z,Y,SqL.of (d56.keep _ _ lwp hw5),hat,?_⟩;have d36:=d35.trans d56;have d16:=d15.trans d56;generalize upd H5 p o6=H6 at d56 d36 d16;have hus6:=d36.keep _ _ ldp hus;have hD6:Zb3 H6 ds us:=hD.drawn (p:=p) (o:=.lst []) λb zs e=>Drawn.tup d36 hp3 ho3 e;obtain⟨o6',hp6,ho6'⟩:=id d16.pot;refine⟨Yj1 _,λlp hlp=>?_⟩;have plp:p≠lp:=nNo hp6 hlp;have ldlp:ld≠lp:=nNo hus6 hlp;have lwlp:lw≠lp:=nNo (d16.keep _ _ lwp hw) hlp;have lpH1:H1 lp=none:=Zup d16 hlp;have lpH:H lp=none:=s1.free lpH1;have s67:Zaj H6 (upd H6 lp (.lst [])):=Zbg hlp;let Iv2:NW:=λi σ H'=>∃(ps:List (LS×Str)) (ws:LV) (x12 x13:OV),σ=[some (.ref p),some (.ref l),some (.ref aa),some (.int n),some (.int m),some (.ref lw),some (.ref ld),x,some (.int wy),some (.int pl),some (.str y),some (.ref lp),x12,x13]/\Drawn p H1 H'/\H' ld=some (.lst us)/\Zb3 H' ds us/\H' lp=some (.lst ws)/\Zns H' ps ws/\ps.map (·.1)=ds.take i/\∀ q∈ps,q.2∈rows.map (·.1);refine⟨Z,ld,Y,⟨_,SqL.of (s67 _ _ hus6)⟩,Za1 (Za8 (xs:=us)) Iv2
    ⟨[],[],none,none,Y,d16.same s67,s67 _ _ hus6,hD6.mono s67,uS,.nil,by rw[Yj2];rfl,λq h=>nomatch h⟩ (λi σ H' _ h0=>by obtain⟨_,_,_,_,_,_,e,_⟩:=h0;exact SqL.of e) ?_ ?_⟩
   ·rintro i v σ H7 hi ⟨ps,ws,x12,x13,rfl,d17,hus7,hD7,hlp7,hP7,ep,kn⟩;obtain⟨d,hd,td,rfl,htd⟩:=Zaz hD7 hi;have gcd:=gd.call d (Yf hd);obtain⟨o7,hp7,ho7⟩:=id d17.pot;have hw7:=d17.keep _ _ lwp hw;refine⟨Z,Z,Z,lw,Z,.inl (SqL.of hw7),p,_,o7,Y,hp7,ho7,by rw[Ya];omega,by rw[Ya];omega,λv o8 hv0 hv1 ho8=>?_⟩;obtain⟨y',hym',hat'⟩:=Zdz hv0 hv1;have d78:Drawn p H7 (upd H7 p o8):=Drawn.upd ho8;refine⟨lw,_,_,Z,Y,SqL.of (d78.keep _ _ lwp hw7),hat',?_⟩;have htd8:=Drawn.tup d78 hp7 ho7 htd;have hlp8:=d78.keep _ _ (Yu plp) hlp7;have hP8:Zns (upd H7 p o8) ps ws:=hP7.mono λb xs e=>Drawn.tup d78 hp7 ho7 e;have hD8:Zb3 (upd H7 p o8) ds us:=hD7.drawn (p:=p) (o:=.lst []) λb zs e=>Drawn.tup d78 hp7 ho7 e;have hus8:=d78.keep _ _ ldp hus7;have d18:=d17.trans d78;generalize upd H7 p o8=H8 at d78 htd8 hlp8 hP8 hD8 hus8 d18;have dlen:d.length=n:=gcd.len;have hl1':pl<((d.map V.str).length:Int):=by rw[Ya];omega
    obtain⟨z,hzm,hatz⟩:=Zdz hl0 hl1';have hzk:=gcd.known z hzm;refine⟨Z,Z,Z,td,_,_,Z,Y,SqT.of htd8,hatz,Z,Z,td,_,_,Z,Y,SqT.of htd8,hatz,?_⟩;refine⟨sL (by show 4<=100000;decide),λtt htt=>?_⟩;have s89:Zaj H8 (upd H8 tt (.tup [.str y',.str y,.str z,.str z])):=Zbg htt;obtain⟨mv,hmv,hmc⟩:=at4 (a:=.str y') (b:=.str y) (c:=.str z) (d:=.str z) hw0 hw1;obtain⟨mx,rfl,hmx⟩:∃ mx:Str,mv=.str mx/\mx∈rows.map (·.1):=by
     rcases hmc with e | e | e | e
     ·exact⟨y',e,hym'⟩
     ·exact⟨y,e,hym⟩
     ·exact⟨z,e,hzk⟩
     ·exact⟨z,e,hzk⟩
    refine⟨Z,tt,_,_,Z,Y,SqT.of uS,hmv,?_⟩;refine⟨Z,.inl ⟨Y,_,SqL.of (s89 _ _ hlp8)⟩,Z,Z,U,λtp htp=>?_⟩;have s9:Zaj H8 (upd (upd H8 tt (.tup [.str y',.str y,.str z,.str z])) tp (.tup [.ref td,.str mx])):=s89.trans (Zbg htp);have htp9:(upd (upd H8 tt (.tup [.str y',.str y,.str z,.str z])) tp (.tup [.ref td,.str mx])) tp=some (.tup [.ref td,.str mx]):=uS;generalize upd (upd H8 tt (.tup [.str y',.str y,.str z,.str z])) tp (.tup [.ref td,.str mx])=H9 at s9 htp9;have hlp9:=s9 _ _ hlp8;have wsl:ws.length<=64:=by
     have h1:=Yy hP7;have h2:=congrArg List.length ep;rw[Ya,Yk1]at h2;have h3:=gd.few;omega
    refine⟨lp,_,Z,Y,hlp9,Zav (by omega),ps++[(d,mx)],ws++[.ref tp],_,Z,?_,?_,?_,uS,?_,?_,?_⟩
    ·exact((d18.same s9)).sub (o':=.lst []) (q:=lp) (λb o hb e=>by rw[Zab hb];exact e) lpH1 plp
    ·rw[Zab ldlp];exact s9 _ _ hus8
    ·have tk:∀ b zs,H9 b=some (.tup zs)->(upd H9 lp (.lst (ws++[V.ref tp]))) b=some (.tup zs):=λb zs e=>by
      rw[Zab (λz=>by rw[z,hlp9]at e;cases e)];exact e
     exact(hD8.mono s9).drawn (p:=p) (o:=.lst []) tk
    ·have tk:∀ b zs,H9 b=some (.tup zs)->(upd H9 lp (.lst (ws++[V.ref tp]))) b=some (.tup zs):=λb zs e=>by
      rw[Zab (λz=>by rw[z,hlp9]at e;cases e)];exact e
     exact Yn2 ((hP8.mono (Zco s9)).mono tk) ⟨tp,td,Y,tk _ _ htp9,tk _ _ (s9 _ _ htd8)⟩
    ·rw[Yr,ep,Ym1,hd];rfl
    ·intro q' hq'
     rcases Yl.mp hq' with z | z
     ·exact kn q' z
     ·rw[Ye.mp z];exact hmx
   ·rintro σ H7 ⟨ps,ws,x12,x13,rfl,d17,hus7,hD7,hlp7,hP7,ep,kn⟩;rw[<- hul,Yp1]at ep;refine⟨Z,lp,Z,.inl ⟨SqL.of hlp7,λt ht=>?_⟩⟩;have s78:Zaj H7 (upd H7 t (.tup ws)):=Zbg ht;have dH:Drawn p H (upd H7 t (.tup ws)):=⟨λb o hb e=>s78 _ _ (d17.keep b o hb (s1 _ _ e)),(d17.same s78).pot⟩;refine q t ps ws _ dH uS (hP7.mono (Zco s78)) (by rw[ep];exact gd) kn ?_;have:=congrArg List.length ep;rw[Ya]at this;omega
def Zqa(H:Hp)(n:Nam)(v:V):Prop:=∃(t tp:Addr) (vs:LV),v=V.ref t/\H t=some (.tup [.str n.1,.int n.2.1,.ref tp])/\H tp=some (.tup vs)/\Zns H n.2.2 vs
theorem Zqa.mono{H H':Hp}{n:Nam}{v:V}(h:Zqa H n v)(k:∀ b xs,H b=some (.tup xs)->H' b=some (.tup xs)):Zqa H' n v:=by
 obtain⟨t,tp,vs,e,h1,h2,h3⟩:=h;exact⟨t,tp,vs,e,k _ _ h1,k _ _ h2,h3.mono k⟩
def Zqa.v{K:Fg}{H:Hp}{n:Nam}{v:V}(h:Zqa H n v):Zy4 K H n v:=by
 obtain⟨t,tp,vs,e,h1,h2,h3⟩:=h;exact⟨t,tp,false,vs,e,h1,SqT.of h2,h3⟩
def Ze4(H:Hp)(ns:List Nam)(vs:LV):Prop:=Paired (Zqa H) ns vs
theorem Ze4.mono{H H':Hp}{ns:List Nam}{vs:LV}(h:Ze4 H ns vs)(k:∀ b xs,H b=some (.tup xs)->H' b=some (.tup xs)):Ze4 H' ns vs:=Paired.mapP h λ_ _ z=>z.mono k
structure Z8a(rows:RS)(few calls:Nat)(ns:List Nam):Prop where
 each:∀ n∈ns,Zfs rows n
 nd:(ns.map (·.1)).Nodup
 few:∀ n∈ns,n.2.2.length<=few
 calls:∀ n∈ns,n.2.1=1\/rows.length ^ n.2.1<=calls
def Zvq(K:Fg):Sp:=λvs H Q _=>∃(a l aa:Addr) (at' mo few calls:Nat) (ns:List Int) (rows:RS) (avs:KL),vs=[.ref a,.int at',.ref l,.ref aa,.int mo,.int few,.int calls]/\SqL K H a (ns.map V.int)/\ns.length<=100/\at'<=100/\Ze3 H l rows/\Zc4 rows/\H aa=some (.dK avs)/\Zdn H rows rows avs/\mo<=8/\few<=63/\calls<=1000000 /\
 ∀(ln:Addr) (nms:List Nam) (us:LV) (H':Hp),Zaj H H'->H ln=none->H' ln=some (.lst us)->Ze4 H' nms us->Z8a rows few calls nms->nms.length<=mo->Q (.ref ln) H'
abbrev nNs:LS:=["script","at","rows","above","most","few","calls","names","words","k","pot","places"]
abbrev pNs:LS:=["script","at","rows","above","most","few","calls"]
def Ybo:Zah nNs pNs (Zad Zfb):=by nofun
set_option maxHeartbeats 8000000 in
def Z0d(F:Def K mg "_law_names" Zfb pNs f fd)(T:Z5c mg)(DP:Def K mg "_law_pot" Zfx ["script","k"] fP fdP)(GP:⋯ 1 fP fdP ["script","k"] (Z3b K))(DT:Def K mg "_law_take" Zbb ["pot","many"] fT fdT)(GT:⋯ 1 fT fdT ["pot","many"] Zgo)
  (DW:Def K mg "_law_word" Zba ["pot","words"] fW fdW) (GW:⋯ 2 fW fdW ["pot","words"] Zvj) (DL:Def K mg "_law_places" Zeo ["pot","many","most"] fL fdL) (GL:⋯ 2 fL fdL ["pot","many","most"] Zr0) (DA:Def K mg "_law_pairs" Zdc pPa fA fdA) (GA:⋯ 3 fA fdA pPa Z56):
  ⋯ 4 f fd pNs (Zvq K):=by
 nomatch F.fn.ok Ybo
 ·obtain⟨a,l,aa,at',mo,few,calls,ns,rows,avs,rfl,_⟩:=h;rfl
 ·obtain⟨a,l,aa,at',mo,few,calls,ns,rows,avs,rfl,hS,hlen,hat,hR,g,haa,hA,hmo,hfew,hcalls,q⟩:=h;have nd:=Ybo.nd;have hr1:Zci 1 _:=hr.mono (by decide);have hr2:Zci 2 _:=hr.mono (by decide);have gle:=g.le;have gne:1<=rows.length:=by have:=g.ne;omega
  ac_nf
  refine'⟨_,(pS (sE 7 nd (Zbd Zaa))
   (pS (sE 8 nd (Zbd Zaa))
   (pS (Zbh Yw rfl (Zca (by rfl) T.range (pC (Zae DT GT hr1 (pC (Zae DP GP hr1 (pC (pv 0) (pC (pv 1) Zaa))) (pC (Zax Zcb (pv 4) Zaf) Zaa))) Zaa)) (gE 9 nd)
    (pS (sE 10 nd (Zae DP GP hr1 (pC (pv 0) (pC (Zax Zcb (Zax Zcb (pv 1) Zaf) (pv 9)) Zaa))))
   (pS (Za4 (Zdg Ye1 Yn1 Yo1 Zbc (pv 8) (pC (Zae DW GW hr2 (pC (pv 10) (pC (pv 8) Zaa))) Zaa)))
   (pS (sE 11 nd (Zae DL GL hr2 (pC (pv 10) (pC (Zao Zap (by rfl) T.len Yg1 (pC (pv 2) Zaa)) (pC (pv 6) Zaa)))))
   (Zac (Za4 (Zdg Ye1 Yn1 Yo1 Zbc (pv 7) (pC (Zcs (pC (Za2 (r:=Zhs K) Zat (pv 8) (pv 9) (λ_ _=>rfl)) (pC (pv 11) (pC (Zae DA GA hr (pC (pv 10) (pC (pv 2) (pC (pv 3) (pC (pv 11) (pC (pv 5) Zaa)))))) Zaa)))) Zaa))))))))
   (Zac (Zak (pv 7)))))),?_⟩
  exists let b:=_;let c:=Zau _ b;let e:=Zau _ c;let f:=Zau _ e;let g:=Zau (Zh3 _ _ f) a;let h:=Zau _ g;Zau _ h _ _ _
  refine⟨Yj1 _,λln hln=>⟨Yj1 _,λlw hlw=>?_⟩⟩;have s1:Zaj H (upd H ln (.lst [])):=Zbg hln;have s2:Zaj (upd H ln (.lst [])) (upd (upd H ln (.lst [])) lw (.lst [])):=Zbg hlw;have lwH:H lw=none:=s1.free hlw;have nw:ln≠lw:=λz=>by rw[<- z,uS]at hlw;cases hlw
  have hln2:=s2 ln _ uS;have hlw2:(upd (upd H ln (.lst [])) lw (.lst [])) lw=some (.lst []):=uS;have s02:=s1.trans s2;generalize upd (upd H ln (.lst [])) lw (.lst [])=H2 at s02 hln2 hlw2;refine⟨Z,Z,a,(at':Int),ns,Y,s02.seq hS,hlen,W,W,λp0 o0 hp0 ho0=>⟨Z,_,Z,Y,p0,_,o0,Y,uS,ho0,W,W,λv o1 hv0 hv1 ho1=>⟨v,Y,W,W,?_⟩⟩⟩;have s23:Zaj H2 (upd (upd H2 p0 o0) p0 o1):=λb o e=>by rw[Zab (nNo e hp0),Zab (nNo e hp0)];exact e
  generalize upd (upd H2 p0 o0) p0 o1=H3 at s23;let Iv1:NW:=λi σ H'=>∃(nms:List Nam) (us:LV) (x9 x10 x11:OV),σ=[some (.ref a),some (.int at'),some (.ref l),some (.ref aa),some (.int mo),some (.int few),some (.int calls),some (.ref ln),some (.ref lw),x9,x10,x11]/\Zaj H H'/\H' ln=some (.lst us)/\Ze4 H' nms us/\H' lw=some (.lst ((nms.map (·.1)).map V.str))/\Z8a rows few calls nms/\nms.length=i;refine Za1 Zbq Iv1
   ⟨[],[],none,none,none,Y,s02.trans s23,s23 _ _ hln2,.nil,s23 _ _ hlw2,⟨(λn h=>nomatch h),Yi4,(λn h=>nomatch h),(λn h=>nomatch h)⟩,Y⟩ (λ_ _ _ _ _=>trivial) ?_ ?_
  ·rintro i v' σ H4 hi ⟨nms,us,x9,x10,x11,rfl,s4,hln4,hN4,hlw4,gn4,nl⟩;obtain⟨hi,rfl⟩:=Za7 hi;have hi8:i<9:=by omega
   refine⟨Z,Z,_,Z,Y,Z,_,Z,Y,a,(at' + 1 + (0 + (i:Int)):Int),ns,Y,s4.seq hS,hlen,W,W,λp o hp ho=>?_⟩;have s45:Zaj H4 (upd H4 p o):=Zbg hp;have hp5:(upd H4 p o) p=some o:=uS;have pH:H p=none:=s4.free hp;have hln5:=s45 _ _ hln4;have hlw5:=s45 _ _ hlw4;have hN5:=hN4.mono (Zco s45);have s5:=s4.trans s45;generalize upd H4 p o=H5 at s45 hp5 hln5 hlw5 hN5 s5;have plw:p≠lw:=nNo hlw4 hp |> Yu
   have pln:p≠ln:=nNo hln4 hp |> Yu
   have wok:Znq (nms.map (·.1)):=⟨λx hx=>by
    obtain⟨n,hn,e⟩:=Yh.mp hx;rw[<- e];exact(gn4.each n hn).word,gn4.nd⟩
   have wl:(nms.map (·.1)).length<=8:=by rw[Ya];omega
   refine⟨Z,.inl ⟨Y,_,SqL.of hlw5⟩,Z,Z,p,lw,nms.map (·.1),Y,plw,⟨o,hp5,ho⟩,hlw5,wok,W,λx H6 d56 wx nx=>?_⟩;have hlw6:=d56.keep _ _ (Yu plw) hlw5;refine⟨lw,_,Z,Y,hlw6,Zav (by rw[Ya];omega),?_⟩;have e7:(nms.map (·.1)).map V.str++[V.str x]=((nms.map (·.1))++[x]).map V.str:=by rw[Yr];rfl
   have d57:∀ b u,b≠p->b≠lw->H5 b=some u->(upd H6 lw (.lst (((nms.map (·.1)).map V.str)++[V.str x]))) b=some u:=λb u h1 h2 e=>by rw[Zab h2];exact d56.keep _ _ h1 e
   obtain⟨o6,hp6,ho6⟩:=id d56.pot;have hp7:(upd H6 lw (.lst (((nms.map (·.1)).map V.str)++[V.str x]))) p=some o6:=by rw[Zab plw];exact hp6
   have hlw7:(upd H6 lw (.lst (((nms.map (·.1)).map V.str)++[V.str x]))) lw=some (.lst (((nms.map (·.1))++[x]).map V.str)):=by rw[uS,e7]
   have s7:Zaj H (upd H6 lw (.lst (((nms.map (·.1)).map V.str)++[V.str x]))):=λb u e=>d57 b u (nNo e pH) (nNo e lwH) (s5 _ _ e);have hln7:=d57 _ _ (Yu pln) nw hln5;have tk7:∀ b zs,H5 b=some (.tup zs)->(upd H6 lw (.lst (((nms.map (·.1)).map V.str)++[V.str x]))) b=some (.tup zs):=λb zs e=>d57 _ _ (λz=>by rw[z,hp5]at e;obtain⟨_,_,q',_⟩:=ho;rw[q']at e;cases e) (λz=>by rw[z,hlw5]at e;cases e) e;have hN7:=hN5.mono tk7;generalize upd H6 lw (.lst (((nms.map (·.1)).map V.str)++[V.str x]))=H7 at hp7 hlw7 s7 hln7 hN7;obtain⟨vs0,hvs0,hpr0⟩:=id hR;have hvl:vs0.length=rows.length:=hpr0.length.symm;refine⟨Z,Z,l,vs0,Y,.inl (SqL.of (s7 _ _ hvs0)),Z,p,rows.length,calls,by rw[hvl];rfl,⟨o6,hp7,ho6⟩,gne,gle,hcalls,λn H8 d78 n1 n4 hc=>?_⟩;obtain⟨o8,hp8,ho8⟩:=id d78.pot;have hlw8:=d78.keep _ _ (Yu plw) hlw7;have hln8:=d78.keep _ _ (Yu pln) hln7;have s8:Zaj H H8:=λb u e=>d78.keep _ _ (nNo e pH) (s7 _ _ e);have hN8:Ze4 H8 nms us:=hN7.mono λb xs e=>Drawn.tup d78 hp7 ho6 e;have hxi:atI (((nms.map (·.1))++[x]).map V.str) (0 + (i:Nat):Int)=some (.str x):=by
    rw[Yz4];refine Zbl ?_;rw[Yj,Yh2 (by rw[Ya];omega),Ya,nl,Nat.sub_self];rfl
   refine⟨Z,.inl ⟨Y,_,SqL.of hln8⟩,Z,Z,lw,_,_,Z,Y,SqL.of hlw8,hxi,Z,Z,Z,Z,Z,Z,p,l,aa,n,few,rows,avs,Y,⟨o8,hp8,ho8⟩,Zcq hR s8,g,s8 _ _ haa,hA.mono (λb xs e=>s8 _ _ e),n1,n4,hfew,λtp ps ws H9 d89 htp hPs gdp kn pl=>⟨sL (by show 3<=100000;decide),λt ht=>?_⟩⟩;have s910:Zaj H9 (upd H9 t (.tup [.str x,.int n,.ref tp])):=Zbg ht;have ht10:(upd H9 t (.tup [.str x,.int n,.ref tp])) t=some (.tup [.str x,.int n,.ref tp]):=uS;generalize upd H9 t (.tup [.str x,.int n,.ref tp])=H10 at s910 ht10;have hln10:=s910 _ _ (d89.keep _ _ (Yu pln) hln8);have usl:us.length<=8:=by have:=Yy hN4;omega
   refine⟨ln,_,Z,Y,hln10,Zav (by omega),nms++[(x,n,ps)],us++[.ref t],_,_,Z,?_,uS,?_,?_,?_,?_⟩
   ·exact λb u e=>by rw[Zab (nNo e hln)];exact s910 _ _ (d89.keep _ _ (nNo e pH) (s8 _ _ e))
   ·have tk:∀ b zs,H10 b=some (.tup zs)->(upd H10 ln (.lst (us++[V.ref t]))) b=some (.tup zs):=λb zs e=>by
     rw[Zab (λz=>by rw[z,hln10]at e;cases e)];exact e
    exact Yn2 (((hN8.mono λb xs e=>Drawn.tup d89 hp8 ho8 e).mono (Zco s910)).mono tk) ⟨t,tp,ws,Y,tk _ _ ht10,tk _ _ (s910 _ _ htp),(hPs.mono (Zco s910)).mono tk⟩
   ·rw[Zab (Yu nw),Yr];exact s910 _ _ (d89.keep _ _ (Yu plw) hlw8)
   ·refine⟨λn' hn'=>?_,?_,λn' hn'=>?_,λn' hn'=>?_⟩
    ·rcases Yl.mp hn' with z | z
     ·exact gn4.each _ z
     ·rw[Ye.mp z];exact⟨wx,n1,n4,gdp,kn⟩
    ·rw[Yr,List.nodup_append];exact⟨gn4.nd,by simp,λa ha b hb e=>nx (by have z:b=x:=Ye.mp hb;rw[<- z,<- e];exact ha)⟩
    ·rcases Yl.mp hn' with z | z
     ·exact gn4.few _ z
     ·rw[Ye.mp z];exact pl
    ·rcases Yl.mp hn' with z | z
     ·exact gn4.calls _ z
     ·rw[Ye.mp z];exact hc
   ·rw[Yc,nl];rfl
  ·rintro σ H4 ⟨nms,us,x9,x10,x11,rfl,s4,hln4,hN4,hlw4,gn4,nl⟩;rw[Za3]at nl;exact⟨Z,q ln nms us H4 s4 hln hln4 hN4 gn4 (by omega)⟩
abbrev Zy6(K:Fg)(D f:Addr)(fd:FuncData):Prop:=Zqb K D "names" "Book.names" Zfe ["self"] f fd
def Zmk(C B D:Addr):Sp:=λvs H Q _=>∃(p k:Addr) (rows:RS) (ns:List Nam),vs=[.ref p]/\Zeh C B D H p k rows ns/\Za6 rows ns/\∀(l:Addr) (us:LV) (H':Hp),H l=none->Zaj H H'->H' l=some (.lst us)->Ze4 H' ns us->Q (.ref l) H'
theorem Zsj{H:Hp}:∀ {ps:List (LS×Str)}{us ws:LV},Zb3 H (ps.map (·.1)) us->Paired (λ(p:V×V) v=>∃ q:Addr,v=.ref q/\H q=some (.tup [p.1,p.2])) (us.zip ((ps.map (·.2)).map V.str)) ws->Zns H ps ws
 | [],_,_,.nil,.nil=>.nil
 | p :: ps,_,_,.cons ⟨t,e,h⟩ r,.cons ⟨q,e2,h2⟩ r2=>by
  subst e;exact .cons ⟨q,t,e2,h2,h⟩ (Zsj r r2)
abbrev nKN:LS:=["self","triples","word","board","deeds"]
def Ybs:Zah nKN ["self"] (Zad Zfe):=by nofun
def Zwy(F:Fun K "names" "Book.names" Zfe f fd)(TD:Zjj K D)(TB:Znr K B)(MP:Znt K B fP fdP)(MD:Zrp K B fD fdD)(list:mg "list"=none)(tuple:mg "tuple"=none)(zip:mg "zip"=none):⋯ 2 f fd ["self"] (Zmk C B D):=by
 have GP:⋯ 1 fP fdP ["self"] (Zh6 C B):=Zi7 MP.fn TB;have GD:⋯ 1 fD fdD ["self"] (Zjz C B):=Zky MD.fn TB list
 nomatch F.ok Ybs
 ·obtain⟨p,k,rows,ns,rfl,_⟩:=h;rfl
 ·obtain⟨p,k,rows,ns,rfl,bk,gn,q⟩:=h;have nd:=Ybs.nd;have hu:=Zgx hr;obtain⟨dx,bo,mo,o,bvs,mvs,h1,h2,h3,h4,h5,h6⟩:=bk.ex
  ac_nf
  refine'⟨_,(pS (sE 1 nd (Zbd Zaa))
   (pS (Zbh Yw rfl (Zzv (Zfy (pv 0) rfl)) (Zeg rfl (gC (gE 2 nd) (gC (gE 3 nd) Zc0)))
    (pS (sE 4 nd (Zqt rfl (by rfl) tuple (by rfl) zip (pC (Zbv (pv 3) TB.cl MD.me GD hr MD.b .nil Zct) (pC (Zey hu (Zfy (pv 0) rfl) (pv 2) (λ_ _=>rfl)) Zaa))))
   (Zac (Za4 (Zdg Ye1 Yn1 Yo1 Zbc (pv 1) (pC (Zcs (pC (pv 2) (pC (Zbv (pv 3) TB.cl MP.me GP hr MP.b .nil Zct) (pC (pv 4) Zaa)))) Zaa))))))
   (Zac (Zak (pv 1))))),?_⟩
  exists let b:=_;let c:=Zau _ b;let e:=Zau (Zh3 _ _ c) a;Zau _ e _ _ _
  refine⟨Yj1 _,λl hl=>?_⟩;have s1:Zaj H (upd H l (.lst [])):=Zbg hl;let Hv1:NW:=λi σ H'=>∃(us:LV) (x y z:OV),σ=[some (.ref p),some (.ref l),x,y,z]/\Zaj H H'/\H' l=some (.lst us)/\Ze4 H' (ns.take i) us;refine⟨Z,p,D,dx,_,Z,s1 _ _ h1,TD.cl,TD.nO,Zne _ _ _,bo,o,bvs,Y,s1 _ _ h3,Zx4 Hv1
   ⟨[],none,none,none,Y,s1,uS,by rw[Yj2];exact .nil⟩ (λi σ H' _ h0=>by obtain⟨_,_,_,_,_,s,_⟩:=h0;exact s _ _ h3) ?_ ?_⟩
  ·rintro i pr t σ H2 hi ⟨us,x,y,z,rfl,s2,hl2,hN2⟩ ht;obtain⟨n,hn,e1,yb,e2,bd⟩:=Zaz h4 hi;have hmem:n∈ns:=Yf hn;have gnn:=gn.each n hmem;have s23:Zaj H2 (upd H2 t (.tup [kV pr.1,pr.2])):=Zbg ht;have ht3:(upd H2 t (.tup [kV pr.1,pr.2])) t=some (.tup [.str n.1,.ref yb]):=by rw[uS,e1,e2];rfl
   generalize upd H2 t (.tup [kV pr.1,pr.2])=H3 at s23 ht3;have s3:=s2.trans s23;refine⟨t,Z,SqT.of ht3,Y,_,Z,_,Z,Y,?_⟩;have bd3:=bd.mono s3;obtain⟨dxb,tb,usb,hb1,_⟩:=bd3.ex;obtain⟨mv,hmv,lm,rfl,hlm,_⟩:=h6.val gn.nd hmem;refine⟨Z,yb,dxb,Z,hb1,Zk0 _ _ _,yb,k,rows,n.2.1,Z,bd3,λld us4 hld hD4=>?_⟩;have s34:Zaj H3 (upd H3 ld (.lst us4)):=Zbg hld;have hld4:(upd H3 ld (.lst us4)) ld=some (.lst us4):=uS;have hD4':=hD4.mono s34;generalize upd H3 ld (.lst us4)=H4 at s34 hld4 hD4';have s4:=s3.trans s34;refine⟨Z,p,D,dx,_,Z,s4 _ _ h1,TD.cl,TD.nM,Zx5 _ _ _,Z,mo,Z,(by rw[<- hmv];exact Zht.k (k:=Sum.inr n.1) (s4 _ _ h5)),ld,lm,_,Z,SqL.of hld4,SqL.of (s4 _ _ hlm),λtz ws H5 htz s45 htz5 hz5=>?_⟩;have s5:=s4.trans s45;have hP5:Zns H5 n.2.2 ws:=Zsj (hD4'.mono s45) hz5;have bd5:=bd.mono s5;obtain⟨dxb5,tb5,usb5,hb5,_⟩:=bd5.ex;have hl5:=s45 _ _ (s34 _ _ (s23 _ _ hl2));refine⟨Z,.inl ⟨Y,_,SqL.of hl5⟩,Z,Z,yb,dxb5,Z,hb5,Zi8 _ _ _,yb,k,rows,n.2.1,Z,bd5,Z,sL (by show 3<=100000;decide),λt6 ht6=>?_⟩;have s56:Zaj H5 (upd H5 t6 (.tup [.str n.1,.int n.2.1,.ref tz])):=Zbg ht6;have ht6':(upd H5 t6 (.tup [.str n.1,.int n.2.1,.ref tz])) t6=some (.tup [.str n.1,.int n.2.1,.ref tz]):=uS;generalize upd H5 t6 (.tup [.str n.1,.int n.2.1,.ref tz])=H6 at s56 ht6';have hl6:=s56 _ _ hl5;have ul:us.length<=8:=by
    have a:=Yy hN2;rw[Yk1]at a;have b:=gn.few;omega
   have s26:=(s23.trans s34).trans (s45.trans s56);have tk:∀ b zs,H6 b=some (.tup zs)->(upd H6 l (.lst (us++[V.ref t6]))) b=some (.tup zs):=λb zs e=>by
    rw[Zab (λz=>by rw[z,hl6]at e;cases e)];exact e
   refine⟨l,_,Z,Y,hl6,Zav (by omega),us++[.ref t6],_,_,Z,λb u e=>?_,uS,?_⟩
   ·rw[Zab (nNo e hl)];exact s56 _ _ (s5 _ _ e)
   ·rw[Ym1,hn];exact Yn2 ((hN2.mono (Zco s26)).mono tk) ⟨t6,tz,ws,Y,tk _ _ ht6',tk _ _ (s56 _ _ htz5),(hP5.mono (Zco s56)).mono tk⟩
  ·rintro σ H2 ⟨us,x,y,z,rfl,s2,hl2,hN2⟩;have bl:bvs.length=ns.length:=(Yy h4).symm;rw[bl,Yp1]at hN2;exact⟨Z,q l us H2 hl s2 hl2 hN2⟩
structure Zu1(H:Hp)(a:Addr)(ws:LS):Prop where
 at_:H a=some (.lst (ws.map V.str))
 few:ws.length<=1000
 sh:∀ x∈ws,x.length<=1000
def Zu1.mono{H H':Hp}{a:Addr}{ws:LS}(h:Zu1 H a ws)(s:Zaj H H'):Zu1 H' a ws:=⟨s _ _ h.at_,h.few,h.sh⟩
def Z4i:V->Bool
 | .str x=>Zam x
 | _=>false
def Zes:LS->Bool
 | w :: r=>decide (w="kind")&&(r.all Zam&&(decide (r.length=1) || (decide (2<r.length)&&decide (r.getD 1 ""="under"))))
 | []=>false
def Zd8(w:Str)(r:LS):Zes (w :: r)=(decide (w="kind")&&(r.all Zam&&(decide (r.length=1) || (decide (2<r.length)&&decide (r.getD 1 ""="under"))))):=rfl
def Zu0:LS:=["1","2","3","4"]
def Zfm:LS->Bool
 | [a,b,c]=>decide (a="name")&&(Zam b&&decide (c∈Zu0))
 | _=>false
def Zfo(ws:LS):Bool:=decide (ws.getD 0 ""="deed")&&(decide (5<=ws.length)&&(decide (ws.getD (ws.length - 2) ""="gives")&&(ws.drop 1).all Zam))
def Z81:Sp:=λvs H Q _=>∃(a:Addr) (ws:LS),vs=[.ref a]/\Zu1 H a ws/\∀ H',Zaj H H'->Q (.bl (ws.all Zam)) H'
def Ya8:Sp:=λvs H Q _=>∃(a:Addr) (ws:LS),vs=[.ref a]/\Zu1 H a ws/\ws≠[]/\∀ H',Zaj H H'->Q (.bl (Zes ws)) H'
def Ya6:Sp:=λvs H Q _=>∃(a:Addr) (ws:LS),vs=[.ref a]/\Zu1 H a ws/\ws≠[]/\∀ H',Zaj H H'->Q (.bl (Zfm ws)) H'
def Ybb:Sp:=λvs H Q _=>∃(a:Addr) (ws:LS),vs=[.ref a]/\Zu1 H a ws/\ws≠[]/\∀ H',Zaj H H'->Q (.bl (Zfo ws)) H'
def Zlm{ws:LS}{k:Nat}{x:Str}(h:ws[k]?=some x):atI (ws.map V.str) (k:Int)=some (.str x):=Zbl (by rw[Yj,h];rfl)
def Z2y{ws:LS}{k:Nat}{x:Str}(h1:1<=k)(h2:k<=ws.length)(h:ws[ws.length - k]?=some x):atI (ws.map V.str) (-(k:Int))=some (.str x):=by
 have e:ixN (ws.map V.str).length (-(k:Int))=some (ws.length - k):=by
  unfold ixN;rw[Ya,if_neg (by omega),if_pos (by omega)]
  congr 1
  omega
 unfold atI;rw[e];show(ws.map V.str)[ws.length - k]?=_;rw[Yj,h];rfl
def Z42(ws:LS)(j k:Nat)(h:j + k<=ws.length)(hk:1<=k):Ziv (ws.map V.str) (some (j:Int)) (some (-(k:Int)))=((ws.drop j).take (ws.length - (j + k))).map V.str:=by
 unfold Ziv;rw[HT.sIx_nat,<- List.map_drop,<- List.map_take,Ya];have e:HT.sIx ws.length ws.length (some (-(k:Int)))=ws.length - k:=by
  show(if -(k:Int)<0 then(-(k:Int) + (ws.length:Int)).toNat else min (-(k:Int)).toNat ws.length)=_;rw[if_pos (by omega)];omega
 rw[e,Ys5 (by omega),show ws.length - k - j=ws.length - (j + k) by omega]
def Znj(ws:LS)(k:Nat):Ziv (ws.map V.str) (some (k:Int)) none=(ws.drop k).map V.str:=by
 unfold Ziv;rw[HT.sIx_nat,HT.sIx_none,<- List.map_drop,<- List.map_take,Ya]
 congr 1
 by_cases h:k<=ws.length
 ·rw[Ys5 h,Ym2 (by rw[Yv2];exact Yg _)]
 ·rw[Nat.min_eq_right (by omega),List.drop_of_length_le (Yg _),List.drop_of_length_le (by omega),List.take_nil]
def Z90:(["text"]:LS).Nodup:=by rfl'
def Z9d:Zah ["texts"] ["texts"] (Zad Zdr):=by nofun
def Zqy(F:Def K mg "are_words" Zdr ["texts"] f fd)(all:mg "all"=none)(DW:Def K mg "is_word" Zc5 ["text"] fW fdW)(GW:⋯ 1 fW fdW ["text"] Zg6):⋯ 2 f fd ["texts"] Z81:=by
 nomatch F.fn.ok Z9d
 ·obtain⟨a,ws,rfl,_⟩:=h;rfl
 ·obtain⟨a,ws,rfl,hw,q⟩:=h;refine'⟨_,Zac (Zak (Zao (Zit rfl) (by rfl) all Yp4 (pC ?eC Zaa))),?_⟩
  case eC=>exact(Zbk ["text"] [] [] (λ_=>Zaw (osc:=Zad Zdr) (on:=["texts"]) (by rfl') rfl rfl rfl) (Zbr (pv 0)) (λC s H fp=>Zai (i:=0) Z90 rfl (Or.inl rfl) (Or.inr rfl)) (λC s H fp=>Zbj) (λC s H fp=>Zae DW GW hr (pC (pv 0) Zaa)))
  refine⟨Z,a,Y,⟨_,SqL.of hw.at_⟩,Zhq (Za8 (xs:=ws.map V.str)) (sL (by rw[Ya];have:=hw.few;omega)) (λ_=>true) (λ_ x v _=>v=.bl (Z4i x)) (λ_ _ _ _ _ _ z=>z) (λH' s'=>SqL.of (s' _ _ hw.at_)) (λx H' R s' hx hR=>hR H' (Zaj.refl _)) ?_ ?_⟩
  ·intro D x H' R s' _ _ hx _ hR;obtain⟨y,hy,rfl⟩:=Yh.mp hx;exact⟨Z,y,Y,hw.sh y hy,λH2 s2=>hR _ H2 s2 rfl⟩
  ·intro D H' ys hD s' hl hP;rw[Yr2.mpr (λ_ _=>rfl)]at hP;have e:=Zgu hP;rw[Ye2]at e;refine⟨D,ws.map Zam,Y,SqL.of (by rw[hl,e,Ye2];rfl),?_⟩;have e2:(ws.map Zam).all id=ws.all Zam:=by rw[List.all_map];rfl
   show Q (.bl ((ws.map Zam).all id)) H';rw[e2];exact q H' s'
def Z9b:Zah ["words"] ["words"] (Zad Zej):=by nofun
def Zt1(F:Def K mg "is_kind_row" Zej ["words"] f fd)(len:mg "len"=none)(DA:Def K mg "are_words" Zdr ["texts"] fA fdA)(GA:⋯ 2 fA fdA ["texts"] Z81):⋯ 3 f fd ["words"] Ya8:=by
 nomatch F.fn.ok Z9b
 ·obtain⟨a,ws,rfl,_⟩:=h;rfl
 ·obtain⟨a,ws,rfl,hw,hn,q⟩:=h;refine'⟨_,(pS (Za0 (PW.pt (Zhz (Zan Zor (Za2 (r:=Zhs K) Zat (pv 0) Zaf (λ_ _=>rfl)) Zbp (Zar _)) (Zgr (Zcr (Zb1 (Zae DA GA hr (pC (Zbs (r:=Z5m K) Zi2 (pv 0) (Zbt Zaf) Zdj) Zaa))))))) (Zac (Zak Zge)) Zal)
   (Zac (Zak (Z6t (Zc1 Zdk (Zao Zap (by rfl) len Yg1 (pC (pv 0) Zaa)) Zaf (Zar _)) (Zgs (Zgt (Zc1 Zkt (Zao Zap (by rfl) len Yg1 (pC (pv 0) Zaa)) Zaf (Zar _)) (Zgs (Zc1 Zdk (Za2 (r:=Zhs K) Zat (pv 0) Zaf (λ_ _=>rfl)) Zbp (Zar _))))))))),?_⟩
  rcases ws with _ | ⟨x,r⟩
  ·exact absurd rfl hn
  have a0:atI ((x :: r).map V.str) 0=some (.str x):=Zlm (ws:=x :: r) (k:=0) rfl;refine⟨Z,a,_,_,Z,Y,SqL.of hw.at_,a0,Y,Z,?_⟩;by_cases h1:x="kind"
  ·rw[show(!decide (V.str x=V.str "kind"))=false by rw[h1,Jb rfl];rfl];refine Zcg ⟨Z,Z,a,Z,SqL.of hw.at_,λp hp=>?_⟩;have s1:Zaj H (upd H p (.lst (Ziv ((x :: r).map V.str) (some 1) none))):=Zbg hp;have h2:(upd H p (.lst (Ziv ((x :: r).map V.str) (some 1) none))) p=some (.lst (r.map V.str)):=by rw[uS];exact congrArg (λz=>some (HO.lst z)) (Znj (x :: r) 1)
   generalize upd H p (.lst (Ziv ((x :: r).map V.str) (some 1) none))=H1 at s1 h2 ⊢;refine⟨p,r,Y,⟨h2,by have:=hw.few;rw[Yv]at this;omega,λy hy=>hw.sh y (Ys _ hy)⟩,λH2 s2=>⟨Z,?_⟩⟩;have s02:=s1.trans s2;have q:=q H2 s02;rw[Zd8]at q;rw[Jb h1,Yi2]at q;cases ha:r.all Zam with
   | false =>
    rw[ha]at q;exact Ze5 q
   | true =>
    rw[ha,Yi2]at q;have hl2:=SqL.of (K:=K) (s02 _ _ hw.at_);have hln:((x :: r).map V.str).length=r.length + 1:=by rw[Ya,Yv]
    refine Zcg ⟨Z,a,Z,.inl hl2,Y,Z,?_⟩;rw[hln];by_cases e2:r.length=1
    ·rw[Jb e2,Bool.true_or]at q;rw[Jb (show V.int ((r.length + 1:Nat):Int)=V.int 2 by rw[e2];rfl)];exact Ze5 q
    ·rw[Jc e2,Bool.false_or]at q;rw[Jc (λz=>e2 (by have:=V.int.inj z;omega))];refine Zcg ⟨Z,a,Z,.inl hl2,_,Z,Y,Z,?_⟩;rw[hln];by_cases e3:2<r.length
     ·rw[Jb e3,Yi2]at q;rw[Jb (show(3:Int)<((r.length + 1:Nat):Int) by omega)];obtain⟨y,hy⟩:∃ y,r[1]?=some y:=⟨r[1],Yb (by omega)⟩;rw[Yo,hy]at q;refine Ze5 ⟨Z,a,_,_,Z,Y,hl2,Zlm (ws:=x :: r) (k:=2) (by rw[Yg4];exact hy),Y,?_⟩;rw[show decide (V.str y=V.str "under")=decide (y="under")from Yw2.mpr ⟨λz=>V.str.inj z,λz=>by rw[z]⟩];exact q
     ·rw[Jc e3,Yo3]at q;rw[Jc (show ¬ (3:Int)<((r.length + 1:Nat):Int) by omega)];exact Zcg q
  ·rw[show(!decide (V.str x=V.str "kind"))=true by rw[Jc (λz=>h1 (V.str.inj z))];rfl];have q:=q H (Zaj.refl _);rw[Zd8]at q;rw[Jc h1,Yo3]at q;exact Ze5 q
def Ycq(K:Fg)(mg:Str->OU):Prop:=∃ a,mg "FIGURES"=some (.ref a)/\∀ H,SqT K H a (Zu0.map V.str)
def Z9a:Zah ["words"] ["words"] (Zad Zei):=by nofun
def Z4l(c:Str):inV (.str c) (Zu0.map V.str)=decide (c∈Zu0):=Zje c Zu0
def Zq1{ws:LS}(h:ws.length≠3):Zfm ws=false:=by
 rcases ws with _ | ⟨a,_ | ⟨b,_ | ⟨c,_ | ⟨d,r⟩⟩⟩⟩
 ·rfl
 ·rfl
 ·rfl
 ·exact absurd rfl h
 ·rfl
def Ztz(F:Def K mg "is_name_row" Zei ["words"] f fd)(len:mg "len"=none)(FG:Ycq K mg)(DW:Def K mg "is_word" Zc5 ["text"] fW fdW)(GW:⋯ 1 fW fdW ["text"] Zg6):⋯ 2 f fd ["words"] Ya6:=by
 nomatch F.fn.ok Z9a
 ·obtain⟨a,ws,rfl,_⟩:=h;rfl
 ·obtain⟨a,ws,rfl,hw,hn,q⟩:=h;obtain⟨fg,mgF,hF⟩:=FG;refine'⟨_,(Zac (Zak (Zgt (Zc1 Zdk (Zao Zap (by rfl) len Yg1 (pC (pv 0) Zaa)) Zaf (Zar _)) (Zgt (Zc1 Zdk (Za2 (r:=Zhs K) Zat (pv 0) Zaf (λ_ _=>rfl)) Zbp (Zar _)) (Zgt (Zae DW GW hr (pC (Za2 (r:=Zhs K) Zat (pv 0) Zaf (λ_ _=>rfl)) Zaa)) (Zgs (Zc1 (r:=rIn K false) Zks (Za2 (r:=Zhs K) Zat (pv 0) Zaf (λ_ _=>rfl)) (Zdw (v:=.ref fg) (by rfl) mgF rfl) (by with_unfolding_all rfl)))))))),?_⟩;have hl:=SqL.of (K:=K) hw.at_;refine⟨Z,a,Z,.inl hl,Y,Z,?_⟩;rw[Ya];by_cases e:ws.length=3
  ·obtain⟨x,y,z,rfl⟩:∃ x y z,ws=[x,y,z]:=by
    rcases ws with _ | ⟨x,_ | ⟨y,_ | ⟨z,_ | ⟨d,r⟩⟩⟩⟩
    ·cases e
    ·cases e
    ·cases e
    ·exact⟨x,y,z,Y⟩
    ·simp at e
   have q1:∀ H',Zaj H H'->Q (.bl (decide (x="name")&&(Zam y&&decide (z∈Zu0)))) H':=q;rw[Jb (show V.int (([x,y,z]:LS).length:Int)=V.int 3 from rfl)];refine Ze5 ⟨Z,a,_,_,Z,Y,hl,Zlm (ws:=[x,y,z]) (k:=0) rfl,Y,Z,?_⟩;rw[show decide (V.str x=V.str "name")=decide (x="name")from Yw2.mpr ⟨λz=>V.str.inj z,λz=>by rw[z]⟩];by_cases h1:x="name"
   ·rw[Jb h1]at q1 ⊢;rw[Yi2]at q1;refine Ze5 ⟨Z,a,_,_,Z,Y,hl,Zlm (ws:=[x,y,z]) (k:=1) rfl,y,Y,hw.sh y (by simp),λH1 s1=>⟨Z,?_⟩⟩;have q1:=q1 H1 s1;cases hy:Zam y with
    | false =>
     rw[hy]at q1;exact Zcg q1
    | true =>
     rw[hy,Yi2,<- Z4l]at q1;exact Ze5 ⟨Z,a,_,_,Z,Y,SqL.of (s1 _ _ hw.at_),Zlm (ws:=[x,y,z]) (k:=2) rfl,fg,Z,.inr (hF H1),Y,by rfl',q1⟩
   ·rw[Jc h1]at q1 ⊢;exact Zcg (q1 H (Zaj.refl _))
  ·have q:=q H (Zaj.refl _);rw[Zq1 e]at q;rw[Jc (λz=>e (by have:=V.int.inj z;omega))];exact Zcg q
def Z9c:Zah ["words"] ["words"] (Zad Zek):=by nofun
def Zt5(F:Def K mg "is_deed_row" Zek ["words"] f fd)(len:mg "len"=none)(DA:Def K mg "are_words" Zdr ["texts"] fA fdA)(GA:⋯ 2 fA fdA ["texts"] Z81):⋯ 3 f fd ["words"] Ybb:=by
 nomatch F.fn.ok Z9c
 ·obtain⟨a,ws,rfl,_⟩:=h;rfl
 ·obtain⟨a,ws,rfl,hw,hn,q⟩:=h;refine'⟨_,(pS (Za0 (PW.pt (Zhz (Zan Zor (Za2 (r:=Zhs K) Zat (pv 0) Zaf (λ_ _=>rfl)) Zbp (Zar _)) (Zgr (Zan Zos (Zao Zap (by rfl) len Yg1 (pC (pv 0) Zaa)) Zaf (Zar _))))) (Zac (Zak Zge)) Zal)
   (Zac (Zak (Zgt (Zc1 Zdk (Za2 (r:=Zhs K) Zat (pv 0) (Zwo Zn1 Zaf) (λ_ _=>rfl)) Zbp (Zar _)) (Zgs (Zae DA GA hr (pC (Zbs (r:=Z5m K) Zi2 (pv 0) (Zbt Zaf) Zdj) Zaa))))))),?_⟩
  have hl:=SqL.of (K:=K) hw.at_;obtain⟨x,hx⟩:∃ x,ws[0]?=some x:=⟨ws[0]'(Yk2.mpr hn),Yb _⟩;unfold Zfo at q;rw[Yo,hx,Yv3]at q;refine⟨Z,a,_,_,Z,Y,hl,Zlm (k:=0) hx,Y,Z,?_⟩;by_cases h1:x="deed"
  ·rw[show(!decide (V.str x=V.str "deed"))=false by rw[h1,Jb rfl];rfl];rw[Jb h1,Yi2]at q;refine Zcg ⟨Z,a,Z,.inl hl,_,Z,Y,Z,?_⟩;rw[Ya];by_cases h5:5<=ws.length
   ·rw[Jb h5,Yi2]at q;rw[Jc (show ¬ ((ws.length:Nat):Int)<5 by omega)];obtain⟨y,hy⟩:∃ y,ws[ws.length - 2]?=some y:=⟨ws[ws.length - 2]'(by omega),Yb _⟩;rw[Yo,hy,Yv3]at q;refine Zcg ⟨Z,Z,a,_,_,Z,Y,hl,Z2y (k:=2) (by decide) (by omega) hy,Y,Z,?_⟩;rw[show decide (V.str y=V.str "gives")=decide (y="gives")from Yw2.mpr ⟨λz=>V.str.inj z,λz=>by rw[z]⟩];by_cases h2:y="gives"
    ·rw[Jb h2]at q ⊢;rw[Yi2]at q;refine Ze5 ⟨Z,Z,a,Z,hl,λp hp=>?_⟩;have s1:Zaj H (upd H p (.lst (Ziv (ws.map V.str) (some 1) none))):=Zbg hp;have h3:(upd H p (.lst (Ziv (ws.map V.str) (some 1) none))) p=some (.lst ((ws.drop 1).map V.str)):=by rw[uS];exact congrArg (λz=>some (HO.lst z)) (Znj ws 1)
     generalize upd H p (.lst (Ziv (ws.map V.str) (some 1) none))=H1 at s1 h3 ⊢;exact⟨p,ws.drop 1,Y,⟨h3,by rw[Yv2];have:=hw.few;omega,λy hy=>hw.sh y (List.mem_of_mem_drop hy)⟩,λH2 s2=>q H2 (s1.trans s2)⟩
    ·rw[Jc h2]at q ⊢;exact Zcg (q H (Zaj.refl _))
   ·rw[Jc h5,Yo3]at q;rw[Jb (show((ws.length:Nat):Int)<5 by omega)];exact Ze5 (q H (Zaj.refl _))
  ·rw[show(!decide (V.str x=V.str "deed"))=true by rw[Jc (λz=>h1 (V.str.inj z))];rfl];rw[Jc h1,Yo3]at q;exact Ze5 (q H (Zaj.refl _))
def Ya9:Sp:=λvs H Q _=>∃(a:Addr) (ws:LS) (x:Str),vs=[.ref a]/\Zu1 H a ws/\ws[1]?=some x/\∀ t u H',Zaj H H'->H' t=some (.tup [.str x,.ref u])->H' u=some (.lst ((ws.drop 3).map V.str))->H u=none->Q (.ref t) H'
def Ya7:Sp:=λvs H Q _=>∃(a:Addr) (ws:LS) (x c:Str) (n:Int),vs=[.ref a]/\Zu1 H a ws/\ws[1]?=some x/\ws[2]?=some c/\PySem.intText? c=some n/\c.length<=640/\∀ t H',Zaj H H'->H' t=some (.tup [.str x,.int n])->Q (.ref t) H'
def Ybc:Sp:=λvs H Q _=>∃(a:Addr) (ws:LS) (m:Str),vs=[.ref a]/\Zu1 H a ws/\4<=ws.length/\ws[ws.length - 1]?=some m/\∀ t c H',Zaj H H'->H' t=some (.tup [.ref c,.str m])->H' c=some (.tup (((ws.drop 2).take (ws.length - 4)).map V.str))->Q (.ref t) H'
def Yc8:Zah ["words"] ["words"] (Zad Zib):=by nofun
def Zw0(F:Def K mg "kind_of" Zib ["words"] f fd):⋯ 1 f fd ["words"] Ya9:=by
 nomatch F.fn.ok Yc8
 ·obtain⟨a,ws,x,rfl,_⟩:=h;rfl
 ·obtain⟨a,ws,x,rfl,hw,hx,q⟩:=h;refine'⟨_,(Zac (Zak (Zcs (pC (Za2 (r:=Zhs K) Zat (pv 0) Zaf (λ_ _=>rfl)) (pC (Zbs (r:=Z5m K) Zi2 (pv 0) (Zbt Zaf) Zdj) Zaa))))),?_⟩;have hl:=SqL.of (K:=K) hw.at_;refine⟨Z,a,_,_,Z,Y,hl,Zlm (k:=1) hx,Z,Z,a,Z,hl,λu hu=>⟨U,λt ht=>?_⟩⟩;have s1:Zaj H (upd H u (.lst (Ziv (ws.map V.str) (some 3) none))):=Zbg hu;have h3:(upd H u (.lst (Ziv (ws.map V.str) (some 3) none))) u=some (.lst ((ws.drop 3).map V.str)):=by rw[uS];exact congrArg (λz=>some (HO.lst z)) (Znj ws 3)
  exact q t u _ (s1.trans (Zbg ht)) uS (Zbg ht _ _ h3) hu
def Yc6:Zah ["words"] ["words"] (Zad Zia):=by nofun
def Zwx(F:Def K mg "name_of" Zia ["words"] f fd)(int:mg "int"=none):⋯ 1 f fd ["words"] Ya7:=by
 nomatch F.fn.ok Yc6
 ·obtain⟨a,ws,x,c,n,rfl,_⟩:=h;rfl
 ·obtain⟨a,ws,x,c,n,rfl,hw,hx,hc,hn,hz,q⟩:=h;refine'⟨_,(Zac (Zak (Zcs (pC (Za2 (r:=Zhs K) Zat (pv 0) Zaf (λ_ _=>rfl)) (pC (Za5 Zp0 (by rfl) int Ye5 (pC (Za2 (r:=Zhs K) Zat (pv 0) Zaf (λ_ _=>rfl)) Zaa)) Zaa))))),?_⟩;have hl:=SqL.of (K:=K) hw.at_;exact⟨Z,a,_,_,Z,Y,hl,Zlm (k:=1) hx,Z,a,_,_,Z,Y,hl,Zlm (k:=2) hc,c,n,Y,hn,hz,U,λt ht=>q t _ (Zbg ht) uS⟩
def Ydi:Zah ["words"] ["words"] (Zad Zid):=by nofun
def Zw3(F:Def K mg "deed_of" Zid ["words"] f fd)(tuple:mg "tuple"=none):⋯ 1 f fd ["words"] Ybc:=by
 nomatch F.fn.ok Ydi
 ·obtain⟨a,ws,m,rfl,_⟩:=h;rfl
 ·obtain⟨a,ws,m,rfl,hw,h4,hm,q⟩:=h;refine'⟨_,(Zac (Zak (Zcs (pC (Za5 Za9 (by rfl) tuple Yu1 (pC (Zbs (r:=Z5m K) Zi2 (pv 0) (Zbt Zaf) (Zbt (Zwo Zn1 Zaf))) Zaa)) (pC (Za2 (r:=Zhs K) Zat (pv 0) (Zwo Zn1 Zaf) (λ_ _=>rfl)) Zaa))))),?_⟩;have hl:=SqL.of (K:=K) hw.at_;refine⟨Z,Z,Z,Z,a,Z,hl,λp hp=>?_⟩;have s1:Zaj H (upd H p (.lst (Ziv (ws.map V.str) (some 2) (some (-2))))):=Zbg hp;have h3:(upd H p (.lst (Ziv (ws.map V.str) (some 2) (some (-2))))) p=some (.lst (((ws.drop 2).take (ws.length - 4)).map V.str)):=by rw[uS];exact congrArg (λz=>some (HO.lst z)) (Z42 ws 2 2 (by omega) (by decide))
  generalize upd H p (.lst (Ziv (ws.map V.str) (some 2) (some (-2))))=H1 at s1 h3;refine⟨p,Z,.inl ⟨SqL.of h3,λc hc=>?_⟩⟩;have s2:Zaj H1 (upd H1 c (.tup (((ws.drop 2).take (ws.length - 4)).map V.str))):=Zbg hc;have h4:(upd H1 c (.tup (((ws.drop 2).take (ws.length - 4)).map V.str))) c=some (.tup (((ws.drop 2).take (ws.length - 4)).map V.str)):=uS;generalize upd H1 c (.tup (((ws.drop 2).take (ws.length - 4)).map V.str))=H2 at s2 h4 ⊢;exact⟨Z,Z,a,_,_,Z,Y,SqL.of (s2 _ _ (s1 _ _ hw.at_)),Z2y (k:=1) (by decide) (by omega) hm,U,λt ht=>q t c _ ((s1.trans s2).trans (Zbg ht)) uS (Zbg ht _ _ h4)⟩
abbrev Row:=Str×LS
def Zy9(x:Str)(c:LS)(m:Str):List Nam->Option (List Nam)
 | []=>none
 | n :: r=>if n.1=x then(if c.length=n.2.1 then some ((n.1,n.2.1,n.2.2++[(c,m)]):: r)else none)else(Zy9 x c m r).map (n :: ·)
theorem Zy0{x:Str}{c:LS}{m:Str}:∀ {ns ns':List Nam},Zy9 x c m ns=some ns'->∃(j:Nat) (n:Nam),ns[j]?=some n/\n.1=x/\(∀ i,i<j->∀ n',ns[i]?=some n'->n'.1≠x)/\c.length=n.2.1/\ns'=ns.set j (n.1,n.2.1,n.2.2++[(c,m)])
 | [],_,h=>by cases h
 | n :: r,ns',h=>by
  unfold Zy9 at h;by_cases e:n.1=x
  ·rw[if_pos e]at h;by_cases e2:c.length=n.2.1
   ·rw[if_pos e2]at h;exact⟨0,n,Y,e,λi hi=>absurd hi (Nat.not_lt_zero _),e2,(Ym h).symm⟩
   ·rw[if_neg e2]at h;cases h
  ·rw[if_neg e]at h;obtain⟨r',h1,h2⟩:=Yf1.mp h;obtain⟨j,n',a1,a2,a3,a4,a5⟩:=Zy0 h1;refine⟨j + 1,n',by rw[Yg4];exact a1,a2,λi hi n2 h3=>?_,a4,by rw[<- h2,a5];rfl⟩
   rcases i with _ | i
   ·rw[List.getElem?_cons_zero]at h3;rw[<- Ym h3];exact e
   ·rw[Yg4]at h3;exact a3 i (by omega) n2 h3
def Z5n(c:Str):Nat:=if c="1" then 1 else if c="2" then 2 else if c="3" then 3 else 4
def Z4y{c:Str}(h:c∈Zu0):PySem.intText? c=some ((Z5n c:Nat):Int)/\c.length<=640:=by
 have h:c="1"\/c="2"\/c="3"\/c="4":=by
  unfold Zu0 at h;simpa using h
 rcases h with rfl | rfl | rfl | rfl <;> exact⟨by rfl',by rfl'⟩
def Zgk(rows:List Row)(ns:List Nam)(ws:LS):Option (List Row×List Nam):=
 if Zes ws=true then(if ns=[]then some (rows++[(ws.getD 1 "",ws.drop 3)],ns)else none)
 else if Zfm ws=true then(if rows=[]then none else some (rows,ns++[(ws.getD 1 "",Z5n (ws.getD 2 ""),[])]))
 else if Zfo ws=true then(Zy9 (ws.getD 1 "") ((ws.drop 2).take (ws.length - 4)) (ws.getD (ws.length - 1) "") ns).map λz=>(rows,z)
 else none
def Zlh:List Row->List Nam->List (LS)->Option (List Row×List Nam)
 | rows,ns,[]=>some (rows,ns)
 | rows,ns,ws :: r=>(Zgk rows ns ws).bind λz=>Zlh z.1 z.2 r
theorem Zhj{α β:Type}{F G:α->β->Prop}:∀ {l:List α}{m:List β},Paired F l m->(∀ x v,x∈l->F x v->G x v)->Paired G l m
 | _,_,.nil,_=>.nil
 | _,_,.cons r t,h=>.cons (h _ _ Yh1 r) (Zhj t λx v hx=>h x v (Ys _ hx))
def Z2g{α:Type}{l:List α}{j:Nat}{a:α}(h:l[j]?=some a):l.set j a=l:=by
 refine List.ext_getElem? λi=>?_;by_cases e:j=i
 ·subst e;rw[Yx4 (Yi.mp h).1,h]
 ·rw[Yi5 e]
def Ycl(O:List Addr)(H:Hp)(r:Row)(v:V):Prop:=∃ t u,v=.ref t/\H t=some (.tup [.str r.1,.ref u])/\H u=some (.lst (r.2.map V.str))/\u∉O
def NmR(H:Hp)(n:Nam×Addr)(v:V):Prop:=∃ t us,v=.ref t/\H t=some (.tup [.str n.1.1,.int n.1.2.1,.ref n.2])/\H n.2=some (.lst us)/\Zns H n.1.2.2 us
structure RdS(H0 H:Hp)(lr ln:Addr)(rows:List Row)(nds:List (Nam×Addr))(vr vn:LV):Prop where
 sm:Zaj H0 H
 own:∀ d∈lr :: ln :: nds.map (·.2),H0 d=none
 nd:(lr :: ln :: nds.map (·.2)).Nodup
 hr:H lr=some (.lst vr)
 hn:H ln=some (.lst vn)
 rw_:Paired (Ycl (lr :: ln :: nds.map (·.2)) H) rows vr
 nm:Paired (NmR H) nds vn
section
variable {H0 H H':Hp}{lr ln:Addr}{rows:List Row}{nds:List (Nam×Addr)}{vr vn:LV}
def RdS.some_(h:RdS H0 H lr ln rows nds vr vn){d:Addr}(hd:d∈lr :: ln :: nds.map (·.2)):∃ us,H d=some (.lst us):=by
 rcases Yt.mp hd with rfl | hd
 ·exact⟨_,h.hr⟩
 rcases Yt.mp hd with rfl | hd
 ·exact⟨_,h.hn⟩
 obtain⟨x,hx,rfl⟩:=Yh.mp hd;obtain⟨j,hj⟩:=Yy3.mp hx;obtain⟨v,_,t,us,_,_,e,_⟩:=Zcf h.nm hj;exact⟨us,e⟩
theorem RdS.mono(h:RdS H0 H lr ln rows nds vr vn)(s:Zaj H H'):RdS H0 H' lr ln rows nds vr vn :=
 ⟨h.sm.trans s,h.own,h.nd,s _ _ h.hr,s _ _ h.hn,Paired.mapP h.rw_ λ_ _ z=>(by
  obtain⟨t,u,e,a,b,c⟩:=z;exact⟨t,u,e,s _ _ a,s _ _ b,c⟩),Paired.mapP h.nm λ_ _ z=>(by
  obtain⟨t,us,e,a,b,c⟩:=z;exact⟨t,us,e,s _ _ a,s _ _ b,c.mono (Zco s)⟩)⟩
def RdS.keepT(h:RdS H0 H lr ln rows nds vr vn){q:Addr}(hq:q∈lr :: ln :: nds.map (·.2))(xs:LV):∀ b ys,H b=some (.tup ys)->upd H q (.lst xs) b=some (.tup ys):=by
 obtain⟨us,e⟩:=h.some_ hq;intro b ys hb;rw[Zab (λz=>by rw[z,e]at hb;cases hb)];exact hb
def RdS.sm_upd(h:RdS H0 H lr ln rows nds vr vn){q:Addr}(hq:q∈lr :: ln :: nds.map (·.2))(o:HO):Zaj H0 (upd H q o):=λb u e=>by
 rw[Zab (λz=>by rw[z,h.own q hq]at e;cases e)];exact h.sm _ _ e
def RdS.rows_upd(h:RdS H0 H lr ln rows nds vr vn){q:Addr}(hq:q∈lr :: ln :: nds.map (·.2))(xs:LV):Paired (Ycl (lr :: ln :: nds.map (·.2)) (upd H q (.lst xs))) rows vr:=Paired.mapP h.rw_ λ_ _ z=>by
 obtain⟨t,u,e,a,b,c⟩:=z;exact⟨t,u,e,h.keepT hq xs _ _ a,by rw[Zab (λz=>c (by rw[z];exact hq))];exact b,c⟩
def RdS.addRow(h:RdS H0 H lr ln rows nds vr vn){r:Row}{t u:Addr}(ht:H t=some (.tup [.str r.1,.ref u]))(hu:H u=some (.lst (r.2.map V.str)))(nu:u∉lr :: ln :: nds.map (·.2)):RdS H0 (upd H lr (.lst (vr++[.ref t]))) lr ln (rows++[r]) nds (vr++[.ref t]) vn:=by
 have m:lr∈lr :: ln :: nds.map (·.2):=Yh1;obtain⟨n1,n2⟩:=Yt1.mp h.nd;refine⟨h.sm_upd m _,h.own,h.nd,uS,by rw[Zab (λz=>n1 (by rw[<- z];exact Yh1))];exact h.hn,Yn2 (h.rows_upd m _) ⟨t,u,Y,h.keepT m _ _ _ ht,by rw[Zab (λz=>nu (by rw[z];exact m))];exact hu,nu⟩,?_⟩;refine Zhj h.nm λx v hx z=>?_;obtain⟨t,us,e,a,b,c⟩:=z;exact⟨t,us,e,h.keepT m _ _ _ a,by rw[Zab (λz=>n1 (by rw[<- z];exact Ys _ (Yh.mpr ⟨x,hx,Y⟩)))];exact b,c.mono (h.keepT m _)⟩
def RdS.addName{Hb:Hp}(h:RdS H0 Hb lr ln rows nds vr vn)(s:Zaj Hb H){e t:Addr}{x:Str}{k:Nat}(ne:Hb e=none)(ht:H t=some (.tup [.str x,.int k,.ref e]))(he:H e=some (.lst [])):
  RdS H0 (upd H ln (.lst (vn++[.ref t]))) lr ln rows (nds++[((x,k,[]),e)]) vr (vn++[.ref t]):=by
 have h':=h.mono s;have m:ln∈lr :: ln :: nds.map (·.2):=Ys _ Yh1;have no:e∉lr :: ln :: nds.map (·.2):=λz=>by
  obtain⟨us,q⟩:=h.some_ z;rw[ne]at q;cases q
 have eO:lr :: ln :: (nds++[(((x,k,[]):Nam),e)]).map (·.2)=(lr :: ln :: nds.map (·.2))++[e]:=by rw[Yr];rfl
 obtain⟨n1,n2⟩:=Yt1.mp h.nd;have nln:lr≠ln:=λz=>n1 (by rw[z];exact Yh1);have eln:e≠ln:=λz=>no (by rw[z];exact m);have e0:H0 e=none:=h.sm.free ne;refine⟨h'.sm_upd m _,?_,?_,by rw[Zab nln];exact h'.hr,uS,?_,Yn2 (Zhj h'.nm λy v hy z=>?_) ⟨t,[],Y,h'.keepT m _ _ _ ht,by rw[Zab eln];exact he,.nil⟩⟩
 ·rw[eO];intro d hd
  rcases Yl.mp hd with hd | hd
  ·exact h.own d hd
  ·rw[Ye.mp hd];exact e0
 ·rw[eO];exact List.nodup_append.mpr ⟨h.nd,by simp,λa ha b hb z=>no (by rw[<- Ye.mp hb,<- z];exact ha)⟩
 ·rw[eO];have hb:=h.rw_;refine Zde (Yy hb) λi r v hr hv=>?_;obtain⟨v',hv',t',u,e1,a,b,c⟩:=Zcf hb hr;rw[hv]at hv';cases hv';refine⟨t',u,e1,h'.keepT m _ _ _ (s _ _ a),by rw[Zab (λz=>c (by rw[z];exact m))];exact s _ _ b,λz=>?_⟩
  rcases Yl.mp z with z | z
  ·exact c z
  ·rw[Ye.mp z,ne]at b;cases b
 ·obtain⟨t',us,e1,a,b,c⟩:=z;exact⟨t',us,e1,h'.keepT m _ _ _ a,by rw[Zab (λz=>(Yt1.mp n2).1 (by rw[<- z];exact Yh.mpr ⟨y,hy,Y⟩))];exact b,c.mono (h'.keepT m _)⟩
def RdS.addDeed(h:RdS H0 H lr ln rows nds vr vn){j:Nat}{n:Nam}{d t:Addr}{us:LV}{p:LS×Str}(hj:nds[j]?=some (n,d))(hd:H d=some (.lst us))(hp:Zns H n.2.2 us)(ht:PrV H p (.ref t)):
  RdS H0 (upd H d (.lst (us++[.ref t]))) lr ln rows (nds.set j ((n.1,n.2.1,n.2.2++[p]),d)) vr vn:=by
 have hjl:j<nds.length:=(Yi.mp hj).1;have md:d∈nds.map (·.2):=Yh.mpr ⟨_,Yf hj,Y⟩;have m:d∈lr :: ln :: nds.map (·.2):=Ys _ (Ys _ md);have eM:(nds.set j ((n.1,n.2.1,n.2.2++[p]),d)).map (·.2)=nds.map (·.2):=by
  rw[List.map_set];exact Z2g (by rw[Yj,hj];rfl)
 obtain⟨n1,n2⟩:=Yt1.mp h.nd;obtain⟨n3,n4⟩:=Yt1.mp n2;refine⟨h.sm_upd m _,by rw[eM];exact h.own,by rw[eM];exact h.nd,by rw[Zab (λz=>n1 (by rw[z];exact Ys _ md))];exact h.hr,by rw[Zab (λz=>n3 (by rw[z];exact md))];exact h.hn,by rw[eM];exact h.rows_upd m _,?_⟩;have hl:=Yy h.nm;refine Zde (by rw[Yq5];exact hl) λi x v hx hv=>?_;obtain⟨t',us',e1,a,b,c⟩:NmR H (nds[i]'(by have:=(Yi.mp hx).1;rw[Yq5]at this;exact this)) v:=by
  obtain⟨v',hv',z⟩:=Zcf h.nm (Yb (by have:=(Yi.mp hx).1;rw[Yq5]at this;exact this));rw[hv]at hv';cases hv';exact z
 have hil:i<nds.length:=by have:=(Yi.mp hx).1;rw[Yq5]at this;exact this
 by_cases e:i=j
 ·subst e;have e2:nds[i]=(n,d):=by rw[Yb hil]at hj;exact Ym hj
  rw[Yx4 hil]at hx;cases hx;rw[e2]at a b c;refine⟨t',us++[.ref t],e1,h.keepT m _ _ _ a,uS,?_⟩;exact Yn2 (hp.mono (h.keepT m _)) (by
   obtain⟨t2,tc,z1,z2,z3⟩:=ht;exact⟨t2,tc,z1,h.keepT m _ _ _ z2,h.keepT m _ _ _ z3⟩)
 ·rw[Yi5 (λz=>e z.symm),Yb hil]at hx;cases hx;refine⟨t',us',e1,h.keepT m _ _ _ a,?_,c.mono (h.keepT m _)⟩;rw[Zab (λz=>e ?_)]
  ·exact b
  ·have e3:(nds.map (·.2))[i]?=(nds.map (·.2))[j]?:=by
    rw[Yj,Yj,hj,Yb hil];show some (nds[i].2)=some d;rw[z]
   exact(List.getElem?_inj (by rw[Ya];exact hil) n4).mp e3
end
def Yav(H:Hp)(y:Str)(v:V):Prop:=∃ t r,v=.ref t/\H t=some (.tup (.str y :: r))
def Yba:Sp:=λvs H Q _=>∃(l:Addr) (x:Str) (ys:LS) (us:LV) (j:Nat) (v:V),vs=[.ref l,.str x]/\H l=some (.lst us)/\us.length<=100000/\Paired (Yav H) ys us/\ys[j]?=some x/\(∀ i,i<j->ys[i]?≠some x)/\us[j]?=some v/\Q v H
abbrev nFN:LS:=["names","word","name"]
def Ybw:Zah nFN ["names","word"] (Zad Zel):=by nofun
def Zmx(F:Def K mg "first_named" Zel ["names","word"] f fd):⋯ 1 f fd ["names","word"] Yba:=by
 nomatch F.fn.ok Ybw
 ·obtain⟨l,x,ys,us,j,v,rfl,_⟩:=h;rfl
 ·obtain⟨l,x,ys,us,j,v,rfl,hl,few,hP,hj,hf,hv,q⟩:=h;have nd:=Ybw.nd;refine'⟨_,(pS (Zbh Yw rfl (Zbr (pv 0)) (gE 2 nd) (Zac (Za0 (Zan Zdk (Za2 (r:=Zj0 K) Zch (pv 2) Zaf (λ_ _=>rfl)) (pv 1) (Zar _)) (Zac (Zak (pv 2))) Zal)))
   (Zac (Zak Zsh))),?_⟩
  let Iv:NW:=λi σ H'=>H'=H/\i<=j/\∃ nv:OV,σ=[some (.ref l),some (.str x),nv];refine⟨Z,l,Y,⟨_,SqL.of hl⟩,Za1 (Za8 (xs:=us)) Iv ⟨Y,Yj1 _,none,Y⟩ (λi σ H' _ h0=>by obtain⟨rfl,_⟩:=h0;exact SqL.of hl) ?_ ?_⟩
  ·rintro i u σ H' hi ⟨rfl,hij,nv,rfl⟩;obtain⟨y,hy,t,r,rfl,ht⟩:=Zaz hP hi;refine⟨Z,t,_,_,Z,Y,SqT.of ht,Zbl (j:=0) rfl,Z,Y,Z,?_⟩;rw[show decide (V.str y=V.str x)=decide (y=x)from Yw2.mpr ⟨λz=>V.str.inj z,λz=>by rw[z]⟩];by_cases e:y=x
   ·rw[Jb e];have eij:i=j:=by
     by_cases c:i<j
     ·exact absurd (by rw[hy,e]) (hf i c)
     ·omega
    subst eij;rw[hi]at hv;cases hv;exact Ze5 ⟨Z,q⟩
   ·rw[Jc e];refine Zcg ⟨Y,?_,Z⟩;by_cases c:i=j
    ·subst c;rw[hy]at hj;exact absurd (Ym hj) e
    ·omega
  ·rintro σ H' ⟨rfl,hlj,_⟩;have:=(Yi.mp hv).1;omega
def Zps:List Nam->Nat
 | []=>0
 | n :: r=>n.2.2.length + Zps r
theorem Zte{x:Str}{c:LS}{m:Str}:∀ {ns ns':List Nam},Zy9 x c m ns=some ns'->Zps ns'=Zps ns + 1/\ns'.length=ns.length
 | [],_,h=>by cases h
 | n :: r,ns',h=>by
  unfold Zy9 at h;by_cases e:n.1=x
  ·rw[if_pos e]at h;by_cases e2:c.length=n.2.1
   ·rw[if_pos e2]at h;rw[<- Ym h];exact⟨by show(n.2.2++[(c,m)]).length + Zps r=n.2.2.length + Zps r + 1;rw[Yc];show n.2.2.length + 1 + Zps r=_;omega,Y⟩
   ·rw[if_neg e2]at h;cases h
  ·rw[if_neg e]at h;obtain⟨r',h1,h2⟩:=Yf1.mp h;obtain⟨a,b⟩:=Zte h1;rw[<- h2];exact⟨by show n.2.2.length + Zps r'=n.2.2.length + Zps r + 1;omega,by rw[Yv,Yv,b]⟩
theorem Zs4:∀ {ns:List Nam}{n:Nam},n∈ns->n.2.2.length<=Zps ns
 | [],_,h=>nomatch h
 | m :: r,n,h=>by
  rcases Yt.mp h with rfl | h
  ·exact Yl2 _ _
  ·have:=Zs4 h;show _<=m.2.2.length + Zps r;omega
theorem Zs5(n:Nam):∀ ns:List Nam,Zps (ns++[n])=Zps ns + n.2.2.length
 | []=>by show n.2.2.length + 0=0 + n.2.2.length;omega
 | m :: r=>by show m.2.2.length + Zps (r++[n])=m.2.2.length + Zps r + n.2.2.length;rw[Zs5 n r];omega
def tot(rows:List Row)(ns:List Nam):Nat:=rows.length + ns.length + Zps ns
def Zzm{rows rows':List Row}{ns ns':List Nam}{ws:LS}(h:Zgk rows ns ws=some (rows',ns')):tot rows' ns'=tot rows ns + 1:=by
 unfold Zgk at h;unfold tot;split at h
 ·split at h
  ·cases h;rw[Yc];show rows.length + 1 + _ + _=_;omega
  ·cases h
 ·split at h
  ·split at h
   ·cases h
   ·cases h;rw[Yc,Zs5];show rows.length + (ns.length + 1) + (Zps ns + 0)=_;omega
  ·split at h
   ·obtain⟨z,h1,h2⟩:=Yf1.mp h;cases h2;obtain⟨a,b⟩:=Zte h1;omega
   ·cases h
def Kp(O:List Addr)(H H':Hp):Prop:=∀ b o,b∉O->H b=some o->H' b=some o
def Kp.same{O:List Addr}{H H':Hp}(s:Zaj H H'):Kp O H H':=λb o _ e=>s b o e
def Kp.trans{O:List Addr}{H H' H2:Hp}(a:Kp O H H')(b:Kp O H' H2):Kp O H H2:=λc o n e=>b c o n (a c o n e)
def Kp.upd_{O:List Addr}{H:Hp}{q:Addr}{o:HO}(hq:q∈O):Kp O H (upd H q o):=λb u n e=>by rw[Zab (λz=>n (by rw[z];exact hq))];exact e
abbrev own(lr ln:Addr)(nds:List (Nam×Addr)):List Addr:=lr :: ln :: nds.map (·.2)
def Ya2:Sp:=λvs H Q _=>∃(He:Hp) (lr ln a:Addr) (rows:List Row) (nds:List (Nam×Addr)) (vr vn:LV) (ws:LS) (ns':List Nam),vs=[.ref ln,.ref a]/\RdS He H lr ln rows nds vr vn/\Zu1 H a ws/\5<=ws.length /\
 Zy9 (ws.getD 1 "") ((ws.drop 2).take (ws.length - 4)) (ws.getD (ws.length - 1) "") (nds.map (·.1))=some ns'/\tot rows (nds.map (·.1))<=10000 /\
 ∀ H' nds',RdS He H' lr ln rows nds' vr vn->nds'.map (·.1)=ns'->nds'.map (·.2)=nds.map (·.2)->Kp (own lr ln nds) H H'->Q (.bl true) H'
abbrev nTD:LS:=["names","words","name","deed"]
def Ybg:Zah nTD ["names","words"] (Zad Zf4):=by nofun
def Zqw(F:Def K mg "take_deed" Zf4 ["names","words"] f fd)(len:mg "len"=none)(DF:Def K mg "first_named" Zel ["names","word"] fF fdF)(GF:⋯ 1 fF fdF ["names","word"] Yba)
  (DD:Def K mg "deed_of" Zid ["words"] fD fdD) (GD:⋯ 1 fD fdD ["words"] Ybc):⋯ 2 f fd ["names","words"] Ya2:=by
 nomatch F.fn.ok Ybg
 ·obtain⟨He,lr,ln,a,rows,nds,vr,vn,ws,ns',rfl,_⟩:=h;rfl
 ·obtain⟨He,lr,ln,a,rows,nds,vr,vn,ws,ns',rfl,hR,hw,h5,hA,ht,q⟩:=h;have nd:=Ybg.nd;refine'⟨_,(pS (sE 2 nd (Zae DF GF hr (pC (pv 0) (pC (Za2 (r:=Zhs K) Zat (pv 1) Zaf (λ_ _=>rfl)) Zaa))))
   (pS (sE 3 nd (Zae DD GD hr (pC (pv 1) Zaa)))
   (pS (Za0 (PW.pt (Zhz (Zan Z6y (pv 2) Zsh (Zar _)) (Zgr (Zan Zor (Zao Zap (by rfl) len Yg1 (pC (Za2 (r:=Zj0 K) Zch (pv 3) Zaf (λ_ _=>rfl)) Zaa)) (Za2 (r:=Zj0 K) Zch (pv 2) Zaf (λ_ _=>rfl)) (Zar _))))) (Zac (Zak Zge)) Zal)
   (pS (Za4 (Zdg Ye1 Yn1 Yo1 Zbc (Za2 (r:=Zj0 K) Zch (pv 2) Zaf (λ_ _=>rfl)) (pC (pv 3) Zaa)))
   (Zac (Zak Zge)))))),?_⟩
  obtain⟨x,hx⟩:∃ x,ws[1]?=some x:=⟨ws[1]'(by omega),Yb _⟩;obtain⟨m,hm⟩:∃ m,ws[ws.length - 1]?=some m:=⟨ws[ws.length - 1]'(by omega),Yb _⟩;rw[Yo,hx,Yv3,Yo,hm,Yv3]at hA;obtain⟨j,n,a1,a2,a3,a4,a5⟩:=Zy0 hA;obtain⟨⟨n',d⟩,hj,e1⟩:∃ z,nds[j]?=some z/\z.1=n:=by
   rw[Yj]at a1;exact Yf1.mp a1
  dsimp only at e1;subst e1;obtain⟨v,hv,t,us,rfl,h1,h2,h3⟩:=Zcf hR.nm hj;have hl:=SqL.of (K:=K) hw.at_;have few:=Yy hR.nm;have tt:=ht;unfold tot at tt;rw[Ya]at tt;refine⟨Z,Z,a,_,_,Z,Y,hl,Zlm (k:=1) hx,ln,x,(nds.map (·.1)).map (·.1),vn,j,Z,hR.hn,W,?_,?_,?_,hv,?_⟩
  ·refine Zde (by rw[Ya,Ya];exact few) λi y v hy hv=>?_;rw[Ye2,Yj]at hy;obtain⟨z,hz,rfl⟩:=Yf1.mp hy;obtain⟨v',hv',t,us,e,h1,_⟩:=Zcf hR.nm hz;rw[hv]at hv';cases hv';exact⟨t,_,e,h1⟩
  ·rw[Yj,a1];exact congrArg some a2
  ·intro i hi z;rw[Yj]at z;obtain⟨n2,hn2,e2⟩:=Yf1.mp z;exact a3 i hi n2 hn2 e2
  refine⟨Z,a,ws,m,Y,hw,W,hm,λt2 c H1 s1 g1 g2=>?_⟩;refine⟨Z,Y,Z,Zcg ⟨Z,t2,_,_,Z,Y,SqT.of g1,Zbl (j:=0) rfl,c,Z,.inr (SqT.of g2),Z,t,_,_,Z,Y,SqT.of (s1 _ _ h1),Zbl (j:=1) rfl,Y,Z,?_⟩⟩;rw[Ya,Jb (by rw[a4])];have hR1:=hR.mono s1;have h31:=h3.mono (Zco s1);have ul:us.length<sizeLine:=Zav (by
   have l1:n'.2.2.length=us.length:=Yy h3;have l2:n'.2.2.length<=Zps (nds.map (·.1)):=Zs4 (Yf a1);omega)
  have g3:=hR1.addDeed (t:=t2) (p:=((ws.drop 2).take (ws.length - 4),m)) hj (s1 _ _ h2) h31 ⟨t2,c,Y,g1,g2⟩;have md:d∈own lr ln nds:=Ys _ (Ys _ (Yh.mpr ⟨_,Yf hj,Y⟩));refine Zcg ⟨Z,t,_,_,Z,Y,SqT.of (s1 _ _ h1),Zbl (j:=2) rfl,.inl ⟨Y,_,SqL.of (s1 _ _ h2)⟩,Z,d,us,Z,Y,s1 _ _ h2,ul,q _ _ g3 ?_ ?_ ((Kp.same s1).trans (Kp.upd_ md))⟩
  ·rw[List.map_set,a5]
  ·rw[List.map_set];exact Z2g (by rw[Yj,hj];rfl)
def Ya1:Sp:=λvs H Q _=>∃(He:Hp) (lr ln a:Addr) (rows rows':List Row) (nds:List (Nam×Addr)) (vr vn:LV) (ws:LS) (ns':List Nam),vs=[.ref lr,.ref ln,.ref a]/\RdS He H lr ln rows nds vr vn/\Zu1 H a ws/\ws≠[] /\
 Zgk rows (nds.map (·.1)) ws=some (rows',ns')/\tot rows (nds.map (·.1))<=10000 /\
 ∀ H' nds' vr' vn',RdS He H' lr ln rows' nds' vr' vn'->nds'.map (·.1)=ns'->(∀ d∈own lr ln nds',d∈own lr ln nds\/H d=none)->Kp (own lr ln nds) H H'->Q (.bl true) H'
abbrev pTR:LS:=["rows","names","words"]
def Ybf:Zah pTR pTR (Zad Zg8):=by nofun
def Zq9{ws:LS}(h:Zes ws=true):2<=ws.length:=by
 rcases ws with _ | ⟨x,r⟩
 ·cases h
 rw[Zd8,Yl1,Yl1,Bool.or_eq_true,Yl1]at h;have h:=h.2.2;rw[Yv]
 rcases h with h | h
 ·have:=Je h;omega
 ·have:=Je h.1;omega
def Zt7{ws:LS}(h:Zfm ws=true):∃ x y z,ws=[x,y,z]/\z∈Zu0:=by
 rcases ws with _ | ⟨x,_ | ⟨y,_ | ⟨z,_ | ⟨d,r⟩⟩⟩⟩
 ·cases h
 ·cases h
 ·cases h
 ·have h:(decide (x="name")&&(Zam y&&decide (z∈Zu0)))=true:=h;rw[Yl1,Yl1]at h;exact⟨x,y,z,Y,Je h.2.2⟩
 ·cases h
def Zre{ws:LS}(h:Zfo ws=true):5<=ws.length:=by
 unfold Zfo at h;rw[Yl1,Yl1]at h;exact Je h.2.1
def Ztw(F:Def K mg "take_row" Zg8 pTR f fd)(len:mg "len"=none)
  (DK:Def K mg "is_kind_row" Zej ["words"] fK fdK) (GK:⋯ 3 fK fdK ["words"] Ya8) (DKo:Def K mg "kind_of" Zib ["words"] fKo fdKo) (GKo:⋯ 1 fKo fdKo ["words"] Ya9)
  (DN:Def K mg "is_name_row" Zei ["words"] fN fdN) (GN:⋯ 2 fN fdN ["words"] Ya6) (DNo:Def K mg "name_of" Zia ["words"] fNo fdNo) (GNo:⋯ 1 fNo fdNo ["words"] Ya7)
  (DD:Def K mg "is_deed_row" Zek ["words"] fD fdD) (GD:⋯ 3 fD fdD ["words"] Ybb) (DT:Def K mg "take_deed" Zf4 ["names","words"] fT fdT) (GT:⋯ 2 fT fdT ["names","words"] Ya2):⋯ 4 f fd pTR Ya1:=by
 nomatch F.fn.ok Ybf
 ·obtain⟨He,lr,ln,a,rows,rows',nds,vr,vn,ws,ns',rfl,_⟩:=h;rfl
 ·obtain⟨He,lr,ln,a,rows,rows',nds,vr,vn,ws,ns',rfl,hR,hw,hne,hS,ht,q⟩:=h;have nd:=Ybf.nd;have hr1:Zci 1 _:=hr.mono (by decide);have hr2:Zci 2 _:=hr.mono (by decide);refine'⟨_,(pS (Za0 (Zb1 (Zae DK GK hr (pC (pv 2) Zaa))) (pS (Za4 (Zdg Ye1 Yn1 Yo1 Zbc (pv 0) (pC (Zae DKo GKo hr1 (pC (pv 2) Zaa)) Zaa)))
   (Zac (Zak (Zwp (pv 1))))) Zal)
   (pS (Za0 (Zb1 (Zae DN GN hr2 (pC (pv 2) Zaa))) (pS (Za4 (Zdg Ye1 Yn1 Yo1 Zbc (pv 1) (pC (Zax Zku (Zae DNo GNo hr1 (pC (pv 2) Zaa)) (Zcs (pC (Zbd Zaa) Zaa))) Zaa)))
   (Zac (Zak (Zc1 Zkt (Zao Zap (by rfl) len Yg1 (pC (pv 0) Zaa)) Zaf (Zar _))))) Zal)
   (Zac (Zak (Zgt (Zae DD GD hr (pC (pv 2) Zaa)) (Zgs (Zae DT GT hr2 (pC (pv 1) (pC (pv 2) Zaa))))))))),?_⟩
  have tt:=ht;unfold tot at tt;rw[Ya]at tt;have fr:=Yy hR.rw_;have fn:=Yy hR.nm;unfold Zgk at hS;refine⟨Z,a,ws,Y,hw,hne,λH1 s1=>⟨Z,?_⟩⟩;have hR1:=hR.mono s1;have hw1:=hw.mono s1;by_cases k1:Zes ws=true
  ·rw[if_pos k1]at hS;rw[k1];have k2:=Zq9 k1;obtain⟨x,hx⟩:∃ x,ws[1]?=some x:=⟨ws[1]'(by omega),Yb _⟩;by_cases ne:nds.map (·.1)=[]
   ·rw[if_pos ne,Yo,hx,Yv3]at hS;have nE:nds=[]:=List.map_eq_nil_iff.mp ne;cases hS;refine Ze5 ⟨Z,.inl ⟨Y,_,SqL.of hR1.hr⟩,Z,a,ws,x,Y,hw1,hx,λt u H2 s2 g1 g2 gu=>?_⟩;have hR2:=hR1.mono s2;have nu:u∉own lr ln nds:=λz=>by
     obtain⟨us,e⟩:=hR1.some_ z;rw[gu]at e;cases e
    have hR3:=hR2.addRow (r:=(x,ws.drop 3)) g1 g2 nu;refine⟨lr,vr,Z,Y,hR2.hr,Zav (by omega),Z,_,.inl ⟨vn,SqL.of hR3.hn,Y⟩,?_⟩;have vE:vn=[]:=by rw[nE]at fn;exact List.length_eq_zero_iff.mp fn.symm
    rw[vE];exact q _ nds _ _ hR3 rfl (λd hd=>.inl hd) ((Kp.same (s1.trans s2)).trans (Kp.upd_ Yh1))
   ·rw[if_neg ne]at hS;cases hS
  ·rw[if_neg k1]at hS;have k1:=eq_false_of_ne_true k1;rw[k1];refine Zcg ⟨Z,a,ws,Y,hw1,hne,λH2 s2=>⟨Z,?_⟩⟩;have s02:=s1.trans s2;have hR2:=hR1.mono s2;have hw2:=hw1.mono s2;by_cases k2:Zfm ws=true
   ·rw[if_pos k2]at hS;rw[k2];obtain⟨x,y,z,rfl,hz⟩:=Zt7 k2;by_cases re:rows=[]
    ·rw[if_pos re]at hS;cases hS
    rw[if_neg re]at hS;cases hS;obtain⟨i1,i2⟩:=Z4y hz;refine Ze5 ⟨Z,.inl ⟨Y,_,SqL.of hR2.hn⟩,Z,a,[x,y,z],y,z,Z,hw2,Y,Y,i1,i2,λt H3 s3 g1=>⟨Yj1 _,λe he=>⟨O,λt2 ht2=>?_⟩⟩⟩;have hR3:=hR2.mono s3;have s34:Zaj H3 (upd H3 e (.lst [])):=Zbg he;have g2:(upd H3 e (.lst [])) e=some (.lst []):=uS;generalize upd H3 e (.lst [])=H4 at s34 g2 ht2 ⊢;have s45:Zaj H4 (upd H4 t2 (.tup [.ref e])):=Zbg ht2;have g3:(upd H4 t2 (.tup [.ref e])) t2=some (.tup [.ref e]):=uS;generalize upd H4 t2 (.tup [.ref e])=H5 at s45 g3 ⊢;refine Zig (K:=K) (s45 _ _ (s34 _ _ g1)) g3 (sL (by show 2 + 1<=100000;decide)) λp H6 s56 g4=>?_;have s36:=s34.trans (s45.trans s56);have hR6:=hR3.addName (e:=e) (t:=p) (x:=y) (k:=Z5n z) s36 he g4 (s56 _ _ (s45 _ _ g2));refine⟨ln,vn,Z,Y,(hR3.mono s36).hn,Zav (by omega),Z,lr,vr,Y,.inl (SqL.of hR6.hr),_,Z,Y,?_⟩;have vE:0<vr.length:=by rw[<- fr];exact Yk2.mpr re
    show Q (.bl (decide ((0:Int)<((vr.length:Nat):Int)))) _;rw[Jb (show(0:Int)<((vr.length:Nat):Int) by omega)];refine q _ _ _ _ hR6 ?_ ?_ ((Kp.same (s02.trans (s3.trans s36))).trans (Kp.upd_ (Ys _ Yh1)))
    ·rw[Yr];rfl
    ·intro d hd;have eO:own lr ln (nds++[(((y,Z5n z,[]):Nam),e)])=own lr ln nds++[e]:=by show lr :: ln :: (nds++_).map _=_;rw[Yr];rfl
     rw[eO]at hd
     rcases Yl.mp hd with hd | hd
     ·exact .inl hd
     ·rw[Ye.mp hd];exact .inr ((s02.trans s3).free he)
   ·rw[if_neg k2]at hS;have k2:=eq_false_of_ne_true k2;rw[k2];by_cases k3:Zfo ws=true
    ·rw[if_pos k3]at hS;obtain⟨z,hz,e⟩:=Yf1.mp hS;cases e;refine Zcg ⟨Z,a,ws,Y,hw2,hne,λH3 s3=>⟨Z,?_⟩⟩;rw[k3];refine Ze5 ⟨Z,Z,He,lr,ln,a,rows,nds,vr,vn,ws,Z,hR2.mono s3,hw2.mono s3,Zre k3,hz,ht,λH4 nds' r1 r2 r3 r4=>?_⟩;exact q H4 nds' _ _ r1 r2 (λd hd=>.inl (by rw[show own lr ln nds'=own lr ln nds by unfold own;rw[r3]]at hd;exact hd)) ((Kp.same (s02.trans s3)).trans r4)
    ·rw[if_neg k3]at hS;cases hS
def Zxh{K:Fg}{C:Addr}{Hx:Hp}{xb dx l:Addr}{rows:RS}{R:Hp->Prop}{E:XK}(nx:Hx xb=none)(ndx:Hx dx=none)(hR:Zrm K Hx l rows)(g:Zc4 rows)(h:∀ H',Zaj Hx H'->Zbm C H' xb rows->R H'):
  Zob K C [.ref xb,.ref l] (upd (upd Hx dx (.own xb)) xb (.ins C dx [])) (λv H3=>v=.non/\R H3) E:=by
 have s34:Zaj Hx (upd (upd Hx dx (.own xb)) xb (.ins C dx [])):=λb o e=>by
  have e1:(upd Hx dx (.own xb)) b=some o:=by rw[Zab (nNo e ndx)];exact e
  rw[Zab (nNo e nx)];exact e1
 exact⟨xb,dx,l,rows,Y,uS,hR.mono s34,g,λH4 kd keep=>⟨Y,h H4 (λb o e=>keep b o (nNo e nx) (s34 _ _ e)) kd⟩⟩
def Zjw.sub{Z Z':Addr->Prop}{C B D:Addr}{H:Hp}{p k:Addr}{rows:RS}{ns:List Nam}(h:Zjw Z C B D H p k rows ns)(s:∀ b,Z' b->Z b):Zjw Z' C B D H p k rows ns:=by
 obtain⟨dx,bo,mo,o,bvs,mvs,h1,h2,h3,h4,h5,h6⟩:=h.ex;exact⟨dx,bo,mo,o,bvs,mvs,h1,h2,h3,h4,h5,h6.imp λn v z=>by
  obtain⟨l,e,b,c⟩:=z;exact⟨l,e,b,λy=>c (s _ y)⟩⟩
def Zsu{K:Fg}{C B D:Addr}{Hx:Hp}{pb db k l:Addr}{rows:RS}{ns:List Nam}{R:Hp->Prop}{E:XK}(nb:Hx pb=none)(ndb:Hx db=none)(kd:Zbm C Hx k rows)(g:Zc4 rows)(hN:Zy3 K Hx l ns)(gn:Za6 rows ns)(h:∀ H',Zaj Hx H'->Zjw (λb=>∃ o,Hx b=some o) C B D H' pb k rows ns->R H'):
  Zml K C B D [.ref pb,.ref k,.ref l] (upd (upd Hx db (.own pb)) pb (.ins D db [])) (λv H3=>v=.non/\R H3) E:=by
 have s34:Zaj Hx (upd (upd Hx db (.own pb)) pb (.ins D db [])):=λb o e=>by
  have e1:(upd Hx db (.own pb)) b=some o:=by rw[Zab (nNo e ndb)];exact e
  rw[Zab (nNo e nb)];exact e1
 obtain⟨b,vs,hl,hp⟩:=hN;exact⟨pb,db,k,l,rows,ns,Y,uS,kd.mono s34,g,⟨b,vs,hl.mono s34,Paired.mapP hp λ_ _ z=>z.mono s34⟩,gn,λH4 bk keep=>⟨Y,h H4 (λb o e=>keep b o (nNo e nb) (s34 _ _ e)) (bk.sub λb z=>by
  obtain⟨o,e⟩:=z;exact⟨o,s34 _ _ e⟩)⟩⟩
structure Z5f(t:Str)(ws:LS):Prop where
 sp:Txt.split t " "=ws
 ne:ws≠[]
 few:ws.length<=1000
 sh:∀ x∈ws,x.length<=1000
 len:t.length<=1000
structure Zy2(x:Str)(rows:List Row)(ns:List Nam)(ts:LS)(wss:List (LS)):Prop where
 sp:Txt.split x "\n"=ts
 len:x.length<=100000
 few:ts.length<=9000
 rw_:Paired Z5f ts wss
 run:Zlh [] [] wss=some (rows,ns)
def Ya5(C B D:Addr):Sp:=λvs H Q _=>∃(x:Str) (rows:List Row) (ns:List Nam) (ts:LS) (wss:List (LS)),vs=[.str x]/\Zy2 x rows ns ts wss/\Zc4 rows/\Za6 rows ns /\
 ∀ H' p k,Zaj H H'->H p=none->Zjw (λb=>∃ o,H b=some o) C B D H' p k rows ns->Q (.ref p) H'
def Z8z:(("\n":Str).length == 0)=false:=by rfl'
def Z80:((" ":Str).length == 0)=false:=by rfl'
abbrev nRB:LS:=["text","rows","names","number","row"]
def Ybk:Zah nRB ["text"] (Zad Zf6):=by nofun
set_option maxHeartbeats 8000000 in
def Zqx(F:Def K mg "read_book" Zf6 ["text"] f fd)(enum:mg "enumerate"=none)
  (DT:Def K mg "take_row" Zg8 pTR fT fdT) (GT:⋯ 4 fT fdT pTR Ya1)
  (M:Mk K C fI) (mgC:mg "Kinds"=some (.ref C)) (bI:Zef K fdI ["self","rows"] []) (GI:⋯ 4 fI fdI ["self","rows"] (Zob K C))
  (MD:Mk K D fKI) (mgD:mg "Book"=some (.ref D)) (bD:Zef K fdKI pKI []) (GD:⋯ 6 fKI fdKI pKI (Zml K C B D)):
  ⋯ 8 f fd ["text"] (Ya5 C B D):=by
 nomatch F.fn.ok Ybk
 ·obtain⟨x,rows,ns,ts,wss,rfl,_⟩:=h;rfl
 ·obtain⟨x,rows,ns,ts,wss,rfl,tx,g,gn,q⟩:=h;have nd:=Ybk.nd;have hr4:Zci 4 _:=hr.mono (by decide);have hr5:Zci 5 _:=hr.mono (by decide);have hr7:Zci 7 _:=hr.mono (by decide)
  ac_nf
  refine'⟨_,(pS (sE 1 nd (Zbd Zaa))
   (pS (sE 2 nd (Zbd Zaa))
   (pS (Zbh Yw rfl (Zzx (by rfl) enum (pC (Zdg Yf3 PySem.F.slot_str_split PySem.F.type_str_split Zst (pv 0) (pC Zbp Zaa)) Zaa)) (Zeg rfl (gC (gE 3 nd) (gC (gE 4 nd) Zc0)))
    (Zac (Za0 (Zcr (Zb1 (Zae DT GT hr4 (pC (pv 1) (pC (pv 2) (pC (Zdg Yf3 PySem.F.slot_str_split PySem.F.type_str_split Zst (pv 4) (pC Zbp Zaa)) Zaa)))))) Zay Zal)))
   (Zac (Zak (Zkl MD GD hr7 rfl mgD bD .nil Zct (pC (Zkl M GI hr5 rfl mgC bI .nil Zct (pC (pv 1) Zaa)) (pC (pv 2) Zaa)))))))),?_⟩
  exists let b:=_;let c:=Zau (Zh3 _ _ b) a;let e:=Zau _ c;Zau _ e _ _ _
  refine⟨Yj1 _,λlr hlr=>⟨Yj1 _,λln hln=>?_⟩⟩;have s1:Zaj H (upd H lr (.lst [])):=Zbg hlr;have s2:Zaj (upd H lr (.lst [])) (upd (upd H lr (.lst [])) ln (.lst [])):=Zbg hln;have h1:(upd (upd H lr (.lst [])) ln (.lst [])) lr=some (.lst []):=s2 _ _ uS;have h2:(upd (upd H lr (.lst [])) ln (.lst [])) ln=some (.lst []):=uS;have nrn:lr≠ln:=λz=>by rw[<- z,uS]at hln;cases hln
  have lnH:H ln=none:=s1.free hln;have s02:=s1.trans s2;generalize upd (upd H lr (.lst [])) ln (.lst [])=H2 at s2 h1 h2 s02 ⊢;have R2:RdS H H2 lr ln [] [] [] []:=⟨s02,λd hd=>by
   rcases Yt.mp hd with rfl | hd
   ·exact hlr
   rw[Ye.mp hd];exact lnH,by simp[nrn],h1,h2,.nil,.nil⟩
  have xl:=tx.len;have tf:=tx.few;have tw:=Yy tx.rw_;refine⟨Z,Y,x,"\n",Y,Y,Z8z,sL (by omega),by rw[tx.sp];exact sL (by omega),λls hls=>?_⟩;rw[tx.sp];have s3:Zaj H2 (upd H2 ls (.lst (ts.map V.str))):=Zbg hls;have h3:(upd H2 ls (.lst (ts.map V.str))) ls=some (.lst (ts.map V.str)):=uS;generalize upd H2 ls (.lst (ts.map V.str))=H3 at s3 h3 ⊢;have nls:ls∉own lr ln []:=λz=>by
   obtain⟨us,e⟩:=R2.some_ z;rw[hls]at e;cases e
  let Iv1:NW:=λi σ H'=>∃(rs:List Row) (nds:List (Nam×Addr)) (vr vn:LV) (a b:OV),σ=[some (.str x),some (.ref lr),some (.ref ln),a,b]/\RdS H H' lr ln rs nds vr vn/\H' ls=some (.lst (ts.map V.str))/\ls∉own lr ln nds/\Zlh rs (nds.map (·.1)) (wss.drop i)=some (rows,ns)/\tot rs (nds.map (·.1))=i;refine⟨ls,Z,SqL.of h3,Zgz Iv1
   ⟨[],[],[],[],none,none,Y,R2.mono s3,h3,nls,tx.run,Y⟩ (λi σ H' _ z=>by obtain⟨_,_,_,_,_,_,_,_,e,_⟩:=z;exact SqL.of e) ?_ ?_⟩
  ·rintro i pr t σ H4 hi ⟨rs,nds,vr,vn,a,b,rfl,R4,h4,n4,run4,tot4⟩ ht;obtain⟨e1,e2⟩:=Zmd hi;rw[Yj]at e2;obtain⟨y,hy,e2⟩:=Yf1.mp e2;obtain⟨ws,hws,rt⟩:=Zcf tx.rw_ hy;have s45:Zaj H4 (upd H4 t (.tup [pr.1,pr.2])):=Zbg ht;have h5:(upd H4 t (.tup [pr.1,pr.2])) t=some (.tup [pr.1,.str y]):=by rw[uS,e2]
   generalize upd H4 t (.tup [pr.1,pr.2])=H5 at s45 h5 ⊢;refine⟨t,Z,SqT.of h5,Y,_,Z,_,Z,Y,?_⟩;have yl:=rt.len;refine⟨Z,Z,Z,Y,y," ",Y,Y,Z80,sL (by omega),by rw[rt.sp];have:=rt.few;exact sL (by omega),λpw hpw=>?_⟩;rw[rt.sp];have s56:Zaj H5 (upd H5 pw (.lst (ws.map V.str))):=Zbg hpw;have h6:(upd H5 pw (.lst (ws.map V.str))) pw=some (.lst (ws.map V.str)):=uS;generalize upd H5 pw (.lst (ws.map V.str))=H6 at s56 h6 ⊢;have R6:=(R4.mono s45).mono s56;rw[Yj3 (by have:=(Yi.mp hws).1;exact this)]at run4;have ew:wss[i]'((Yi.mp hws).1)=ws:=(Yi.mp hws).2;rw[ew]at run4;obtain⟨⟨rs',ns'⟩,st,run5⟩:=Option.bind_eq_some_iff.mp (show(Zgk rs (nds.map (·.1)) ws).bind (λz=>Zlh z.1 z.2 (wss.drop (i + 1)))=some (rows,ns)from run4);have il:i<ts.length:=(Yi.mp hy).1;refine⟨H,lr,ln,pw,rs,rs',nds,vr,vn,ws,ns',Y,R6,⟨h6,rt.few,rt.sh⟩,rt.ne,st,W,λH7 nds' vr' vn' R7 e7 ow kp=>⟨Z,Zcg ?_⟩⟩;have h46:=s56 _ _ (s45 _ _ h4);refine⟨rs',nds',vr',vn',_,Z,R7,kp _ _ n4 h46,λz=>?_,by rw[e7];exact run5,?_⟩
   ·rcases ow _ z with z | z
    ·exact n4 z
    ·rw[h46]at z;cases z
   ·rw[e7,Zzm st,tot4]
  ·rintro σ H4 ⟨rs,nds,vr,vn,a,b,rfl,R4,h4,n4,run4,tot4⟩;rw[Zjg,Ya,tw,List.drop_length]at run4;cases run4;refine⟨Z,?_⟩;intro xb dxb nx ndx nex;refine Zxh nx ndx ⟨true,vr,SqL.of R4.hr,Paired.mapP R4.rw_ λr v z=>?_⟩ g λH5 s45 kd=>?_
   ·obtain⟨t,u,e,h1,h2,_⟩:=z;exact⟨t,u,e,SqT.of h1,.inr (SqL.of h2)⟩
   refine⟨Z,?_⟩;intro pb db nb ndb neb;have R5:=R4.mono s45;refine Zsu nb ndb kd g ⟨true,vn,SqL.of R5.hn,?_⟩ gn λH6 s56 bk=>?_
   ·refine Zde (by rw[Ya];exact Yy R5.nm) λi n v hn hv=>?_;rw[Yj]at hn;obtain⟨z,hz,rfl⟩:=Yf1.mp hn;obtain⟨v',hv',t,us,e,h1,h2,h3⟩:=Zcf R5.nm hz;rw[hv]at hv';cases hv';exact⟨t,z.2,true,us,e,h1,SqL.of h2,h3⟩
   ·have s05:=R4.sm.trans s45;exact q H6 pb xb (s05.trans s56) (s05.free nb) (bk.sub λb z=>by
     obtain⟨o,e⟩:=z;exact⟨o,s05 _ _ e⟩)
def Zj6(a b c:Str):(a++b)++c=a++(b++c):=by
 show(⟨(a.cps++b.cps)++c.cps⟩:Str)=⟨a.cps++(b.cps++c.cps)⟩;rw[Array.append_assoc]
def fRo(r:Str)(us:LS):Str:=us.foldl (λr u=>(r++" ")++u) r
theorem Zip:∀(us:LS) (x:Str),Builtin.Str.glued " " (x :: us)=fRo x us
 | [],x=>rfl
 | u :: us,x=>Zip us ((x++" ")++u)
def Zk5(w:Str)(ups:LS):Str:=if ups.isEmpty then "kind "++w else fRo (("kind "++w)++" under") ups
def Zk9(w:Str)(c:LS)(m:Str):Str:=(fRo ("deed "++w) c++" gives ")++m
def Zju(n:Nam):Str:=(("name "++n.1)++" ")++Str.ofString (toString (n.2.1:Int))
def Zsz(w:Str):Builtin.Str.glued " " ["kind",w]="kind "++w:=by
 rw[Zip];show((("kind":Str)++" ")++w)=_;rw[show(("kind":Str)++" ")="kind " by rfl']
def Zsy(w:Str)(ups:LS):Builtin.Str.glued " " (((["kind",w]:LS)++(["under"]:LS))++ups)=fRo (("kind "++w)++" under") ups:=by
 show Builtin.Str.glued " " ("kind" :: w :: "under" :: ups)=_;rw[Zip];show fRo (((((("kind":Str)++" ")++w)++" ")++"under")) ups=_;rw[show(("kind":Str)++" ")="kind " by rfl',Zj6 ("kind "++w) " " "under",show((" ":Str)++"under")=" under" by rfl']
def Zyg(w:Str)(c:LS)(m:Str):Builtin.Str.glued " " (((["deed",w]:LS)++c)++(["gives",m]:LS))=Zk9 w c m:=by
 show Builtin.Str.glued " " ("deed" :: w :: (c++(["gives",m]:LS)))=_;rw[Zip];show fRo ((("deed":Str)++" ")++w) (c++(["gives",m]:LS))=_;rw[show(("deed":Str)++" ")="deed " by rfl'];unfold fRo Zk9;rw[List.foldl_append];show((((fRo ("deed "++w) c++" ")++"gives")++" ")++m)=_;rw[Zj6 (fRo ("deed "++w) c) " " "gives",Zj6 (fRo ("deed "++w) c) (" "++"gives") " ",show(((" ":Str)++"gives")++" ")=" gives " by rfl']
theorem Zx7:∀ {us:LS}{r:Str},(∀ u∈us,u.length<=8)->(fRo r us).length<=r.length + 9 * us.length
 | [],r,_=>by show r.length<=_;omega
 | u :: us,r,h=>by
  have h1:=Zx7 (us:=us) (r:=(r++" ")++u) λx hx=>h x (.tail _ hx);have h2:=h u (.head _);rw[strLen_append,strLen_append]at h1;have h3:(" ":Str).length=1:=by rfl'
  show(fRo ((r++" ")++u) us).length<=_;rw[Yv];omega
def Z04{w:Str}{ups:LS}(hw:w.length<=8)(hl:ups.length<=8)(h:∀ u∈ups,u.length<=8):(Zk5 w ups).length<=100:=by
 have h3:("kind ":Str).length=5:=by rfl'
 have h4:(" under":Str).length=6:=by rfl'
 unfold Zk5;split
 ·rw[strLen_append];omega
 ·have h1:=Zx7 (r:=("kind "++w)++" under") h;rw[strLen_append,strLen_append]at h1;omega
def Z1q{w m:Str}{c:LS}(hw:w.length<=8)(hm:m.length<=8)(hl:c.length<=4)(h:∀ u∈c,u.length<=8):(Zk9 w c m).length<=100:=by
 have h3:("deed ":Str).length=5:=by rfl'
 have h4:(" gives ":Str).length=7:=by rfl'
 have h1:=Zx7 (r:="deed "++w) h;unfold Zk9;rw[strLen_append]at h1;rw[strLen_append,strLen_append];omega
def Z37:∀ {n:Nat},1<=n->n<=4->(Str.ofString (toString (n:Int))).length<=1
 | 1,_,_=>by rfl'
 | 2,_,_=>by rfl'
 | 3,_,_=>by rfl'
 | 4,_,_=>by rfl'
 | 0,h,_=>by omega
 | n + 5,_,h=>by omega
def Z0v{n:Nam}(hw:n.1.length<=8)(h1:1<=n.2.1)(h4:n.2.1<=4):(Zju n).length<=100:=by
 have a:=Z37 h1 h4;have h3:("name ":Str).length=5:=by rfl'
 have h5:(" ":Str).length=1:=by rfl'
 unfold Zju;rw[strLen_append,strLen_append,strLen_append];omega
def Zhy(n:Nam):LS:=Zju n :: n.2.2.map λp=>Zk9 n.1 p.1 p.2
def Zjc(rows:RS):LS:=rows.map λr=>Zk5 r.1 r.2
def Zll(rows:RS)(ns:List Nam):LS:=Zjc rows++ns.flatMap Zhy
def Zwd{rows:RS}(g:Zc4 rows){n:Nam}(h:Zfs rows n):(Zhy n).length<=65/\∀ y∈Zhy n,y.length<=100:=by
 have hf:=h.deeds.few;rw[Ya]at hf;refine⟨by unfold Zhy;rw[Yv,Ya];omega,λy hy=>?_⟩
 rcases Yt.mp hy with e | hy
 ·rw[e];exact Z0v (Zbu h.word).2 h.one h.four
 ·obtain⟨p,hp,e⟩:=Yh.mp hy;have gc:=h.deeds.call p.1 (Yh.mpr ⟨p,hp,Y⟩);have wd:∀ x∈rows.map (·.1),x.length<=8:=λx hx=>by
   obtain⟨r,hr,e⟩:=Yh.mp hx;rw[<- e];exact(Zbu (g.word r hr)).2
  rw[<- e];exact Z1q (Zbu h.word).2 (wd _ (h.made p hp)) (by rw[gc.len];exact h.four) λu hu=>wd _ (gc.known u hu)
theorem Zng{rows:RS}(g:Zc4 rows):∀ {ns:List Nam},(∀ n∈ns,Zfs rows n)->(ns.flatMap Zhy).length<=65 * ns.length/\∀ y∈ns.flatMap Zhy,y.length<=100
 | [],_=>⟨Yg _,λ_ h=>nomatch h⟩
 | n :: ns,h=>by
  obtain⟨a,b⟩:=Zwd g (h n (.head _));obtain⟨c,d⟩:=Zng g (ns:=ns) λm hm=>h m (.tail _ hm);rw[Yy2,Yc,Yv];exact⟨W,λy hy=>(Yl.mp hy).elim (b y) (d y)⟩
def Zxu{rows:RS}(g:Zc4 rows):∀ y∈Zjc rows,y.length<=100:=λy hy=>by
 obtain⟨r,hr,e⟩:=Yh.mp hy;rw[<- e];refine Z04 (Zbu (g.word r hr)).2 (g.few r hr) λu hu=>?_;obtain⟨r',hr',e'⟩:=Yh.mp (g.known r hr u hu);rw[<- e'];exact(Zbu (g.word r' hr')).2
def Zp6{rows:RS}{ns:List Nam}(g:Zc4 rows)(h:Za6 rows ns):(Zll rows ns).length<=544/\∀ y∈Zll rows ns,y.length<=100:=by
 obtain⟨a,b⟩:=Zng g h.each;have c:=h.few;have d:=g.le;unfold Zll;rw[Yc];refine⟨by unfold Zjc;rw[Ya];omega,λy hy=>(Yl.mp hy).elim (Zxu g y) (b y)⟩
def Z2a:Sp:=λvs H Q _=>∃(w:Str) (t:Addr) (ups:LS),vs=[.str w,.ref t]/\H t=some (.tup (ups.map V.str))/\w.length<=8/\ups.length<=8/\(∀ u∈ups,u.length<=8)/\∀ H',Zaj H H'->Q (.str (Zk5 w ups)) H'
def Z2c:Sp:=λvs H Q _=>∃(w m:Str) (t:Addr) (c:LS),vs=[.str w,.ref t,.str m]/\H t=some (.tup (c.map V.str))/\w.length<=8/\m.length<=8/\c.length<=4/\(∀ u∈c,u.length<=8)/\∀ H',Zaj H H'->Q (.str (Zk9 w c m)) H'
def Ybr:Zah ["word","ups","words"] ["word","ups"] (Zad Zhc):=by nofun
def Z31(F:Def K mg "kind_row" Zhc ["word","ups"] f fd)(list:mg "list"=none):⋯ 1 f fd ["word","ups"] Z2a:=by
 nomatch F.fn.ok Ybr
 ·obtain⟨x,t,ups,rfl,_⟩:=h;rfl
 ·obtain⟨x,t,ups,rfl,ht,hx,hl,hu8,q⟩:=h;have nd:=Ybr.nd;refine'⟨_,(pS (sE 2 nd (Zbd (pC Zbp (pC (pv 0) Zaa))))
   (pS (Za0 (Zih (pv 1) (λ_=>rfl)) (Zac (sE 2 nd (Zax Zl6 (Zax Zl6 (pv 2) (Zbd (pC Zbp Zaa))) (Za5 Zeb (by rfl) list Yp2 (pC (pv 1) Zaa))))) Zal)
   (Zac (Zak (Zdg Yf3 Yf5 Yg5 Zm8 Zbp (pC (pv 2) Zaa)))))),?_⟩
  have e1:(" ":Str).length=1:=by rfl'
  have ek:("kind":Str).length=4:=by rfl'
  have eu:("under":Str).length=5:=by rfl'
  refine⟨Z,U,λl hl0=>?_⟩;have s1:Zaj H (upd H l (.lst [.str "kind",.str x])):=Zbg hl0;have hl1:(upd H l (.lst [.str "kind",.str x])) l=some (.lst [.str "kind",.str x]):=uS;generalize upd H l (.lst [.str "kind",.str x])=H1 at s1 hl1;refine⟨Z,_,.inr (.inl ⟨_,SqT.of (s1 _ _ ht),Y⟩),Ze1 (λz=>?_) (λz=>?_)⟩
  ·have ne:ups.isEmpty=false:=by
    cases ups with
    | nil=>cases z
    | cons=>rfl
   refine⟨Z,O,λl2 hl2=>?_⟩;have s12:Zaj H1 (upd H1 l2 (.lst [.str "under"])):=Zbg hl2;have hl22:(upd H1 l2 (.lst [.str "under"])) l2=some (.lst [.str "under"]):=uS;generalize upd H1 l2 (.lst [.str "under"])=H2 at s12 hl22;refine⟨l,l2,_,Z,Y,s12 _ _ hl1,hl22,sL (by show 3<=100000;decide),λl3 hl3=>?_⟩;have s23:Zaj H2 (upd H2 l3 (.lst ([.str "kind",.str x]++[.str "under"]))):=Zbg hl3;have hl33:(upd H2 l3 (.lst ([.str "kind",.str x]++[.str "under"]))) l3=some (.lst ([.str "kind",.str x]++[.str "under"])):=uS;generalize upd H2 l3 (.lst ([.str "kind",.str x]++[.str "under"]))=H3 at s23 hl33;have s3:=(s1.trans s12).trans s23;refine⟨Z,t,Z,.inr (SqT.of (s3 _ _ ht)),λl4 hl4=>?_⟩;have s34:Zaj H3 (upd H3 l4 (.lst (ups.map V.str))):=Zbg hl4;have hl44:(upd H3 l4 (.lst (ups.map V.str))) l4=some (.lst (ups.map V.str)):=uS;generalize upd H3 l4 (.lst (ups.map V.str))=H4 at s34 hl44;refine⟨l3,l4,_,Z,Y,s34 _ _ hl33,hl44,sL (by rw[Ya];show 3 + _<=_;omega),λl5 hl5=>?_⟩;have s45:Zaj H4 (upd H4 l5 (.lst (([.str "kind",.str x]++[.str "under"])++ups.map V.str))):=Zbg hl5;have hl55:(upd H4 l5 (.lst (([.str "kind",.str x]++[.str "under"])++ups.map V.str))) l5=some (.lst ((((["kind",x]:LS)++(["under"]:LS))++ups).map V.str)):=uS;generalize upd H4 l5 (.lst (([.str "kind",.str x]++[.str "under"])++ups.map V.str))=H5 at s45 hl55;refine⟨Y,Z,_,l5,_,8,Y,Y,hl55,λy hy=>?_,?_,?_⟩
   ·rcases Yl.mp hy with hy | hy
    ·rcases Yl.mp hy with hy | hy
     ·rcases Yt.mp hy with e | hy
      ·rw[e];omega
      ·rw[Ye.mp hy];exact hx
     ·rw[Ye.mp hy];omega
    ·exact hu8 y hy
   ·rw[Yc,e1];show(3 + _) * 8 + (3 + _) * 1<=_;omega
   ·rw[Zsy];have:Zk5 x ups=fRo (("kind "++x)++" under") ups:=by unfold Zk5;rw[ne];rfl
    rw[<- this];exact q _ ((s3.trans s34).trans s45)
  ·have e:ups=[]:=by
    cases ups with
    | nil=>rfl
    | cons=>exact absurd rfl z
   subst e;refine⟨Y,Z,_,l,(["kind",x]:LS),8,Y,Y,hl1,λy hy=>?_,?_,?_⟩
   ·rcases Yt.mp hy with e | hy
    ·rw[e];omega
    ·rw[Ye.mp hy];exact hx
   ·rw[e1];show 2 * 8 + 2 * 1<=_;omega
   ·rw[Zsz];exact q _ s1
def Ybz:Zah ["word","call","made"] ["word","call","made"] (Zad Zhe):=by nofun
def Z34(F:Def K mg "deed_row" Zhe ["word","call","made"] f fd)(list:mg "list"=none):⋯ 1 f fd ["word","call","made"] Z2c:=by
 nomatch F.fn.ok Ybz
 ·obtain⟨x,m,t,c,rfl,_⟩:=h;rfl
 ·obtain⟨x,m,t,c,rfl,ht,hx,hm,hl,hu8,q⟩:=h;have nd:=Ybz.nd;refine'⟨_,Zac (Zak (Zdg Yf3 Yf5 Yg5 Zm8 Zbp (pC (Zax Zl6 (Zax Zl6 (Zbd (pC Zbp (pC (pv 0) Zaa))) (Za5 Zeb (by rfl) list Yp2 (pC (pv 1) Zaa))) (Zbd (pC Zbp (pC (pv 2) Zaa)))) Zaa))),?_⟩;have e1:(" ":Str).length=1:=by rfl'
  have ek:("deed":Str).length=4:=by rfl'
  have eu:("gives":Str).length=5:=by rfl'
  refine⟨Y,Z,U,λl hl0=>?_⟩;have s1:Zaj H (upd H l (.lst [.str "deed",.str x])):=Zbg hl0;have hl1:(upd H l (.lst [.str "deed",.str x])) l=some (.lst [.str "deed",.str x]):=uS;generalize upd H l (.lst [.str "deed",.str x])=H1 at s1 hl1;refine⟨Z,t,Z,.inr (SqT.of (s1 _ _ ht)),λl2 hl2=>?_⟩;have s12:Zaj H1 (upd H1 l2 (.lst (c.map V.str))):=Zbg hl2;have hl22:(upd H1 l2 (.lst (c.map V.str))) l2=some (.lst (c.map V.str)):=uS;generalize upd H1 l2 (.lst (c.map V.str))=H2 at s12 hl22;refine⟨l,l2,_,Z,Y,s12 _ _ hl1,hl22,sL (by rw[Ya];show 2 + _<=_;omega),λl3 hl3=>?_⟩;have s23:Zaj H2 (upd H2 l3 (.lst ([.str "deed",.str x]++c.map V.str))):=Zbg hl3;have hl33:(upd H2 l3 (.lst ([.str "deed",.str x]++c.map V.str))) l3=some (.lst ([.str "deed",.str x]++c.map V.str)):=uS;generalize upd H2 l3 (.lst ([.str "deed",.str x]++c.map V.str))=H3 at s23 hl33;refine⟨Z,U,λl4 hl4=>?_⟩;have s34:Zaj H3 (upd H3 l4 (.lst [.str "gives",.str m])):=Zbg hl4;have hl44:(upd H3 l4 (.lst [.str "gives",.str m])) l4=some (.lst [.str "gives",.str m]):=uS;generalize upd H3 l4 (.lst [.str "gives",.str m])=H4 at s34 hl44;refine⟨l3,l4,_,Z,Y,s34 _ _ hl33,hl44,sL (by rw[Yc,Ya];show 2 + _ + 2<=_;omega),λl5 hl5=>?_⟩;have s45:Zaj H4 (upd H4 l5 (.lst (([.str "deed",.str x]++c.map V.str)++[.str "gives",.str m]))):=Zbg hl5;have hl55:(upd H4 l5 (.lst (([.str "deed",.str x]++c.map V.str)++[.str "gives",.str m]))) l5=some (.lst ((((["deed",x]:LS)++c)++(["gives",m]:LS)).map V.str)):=by rw[uS,Yr,Yr];rfl
  generalize upd H4 l5 (.lst (([.str "deed",.str x]++c.map V.str)++[.str "gives",.str m]))=H5 at s45 hl55;refine⟨_,l5,_,8,Y,Y,hl55,λy hy=>?_,?_,?_⟩
  ·rcases Yl.mp hy with hy | hy
   ·rcases Yl.mp hy with hy | hy
    ·rcases Yt.mp hy with e | hy
     ·rw[e];omega
     ·rw[Ye.mp hy];exact hx
    ·exact hu8 y hy
   ·rcases Yt.mp hy with e | hy
    ·rw[e];omega
    ·rw[Ye.mp hy];exact hm
  ·rw[Yc,Yc,e1];show(2 + _ + 2) * 8 + (2 + _ + 2) * 1<=_;omega
  ·rw[Zyg];exact q _ (((s1.trans s12).trans s23).trans (s34.trans s45))
def Zta{α:Type}{K:Fg}{J:It}{vs:LV}{Ok:Hp->Prop}(R:Zqf J vs Ok){js:LN}{te:TE}{σ:St}{Q:VK}{H1:Hp}(hz:vs.length<=1000){xs:List α}(F:α->Str)(Pa:α->V->V->Prop)
  (hp:Paired (λx v=>∃ t a b,v=.ref t/\H1 t=some (.tup [a,b])/\Pa x a b) xs vs) (hok:∀ H,Zaj H1 H->Ok H)
  (he:∀ x a b H' (R:VK),Zaj H1 H'->x∈xs->Pa x a b->(∀ H'',Zaj H' H''->R (.str (F x)) H'')->te (some a :: some b :: js.map λj=>(σ[j]?).join) H' R)
  (hd:∀ D H',H1 D=none->Zaj H1 H'->H' D=some (.lst ((xs.map F).map V.str))->Q (.ref D) H'):compBody 2 js (g2 K 0 1) Ztn te σ Q J H1:=by
 have vl:=Yy hp;let Iv1:Addr->Nat->LV->St->Hp->Prop:=λD i ys σ' H=>H1 D=none/\Zaj H1 H/\H D=some (.lst ys)/\ys=((xs.take i).map F).map V.str/\∃ o u,σ'=o :: u :: js.map λj=>(σ[j]?).join;refine Zcc R (sL (by omega)) Iv1 ?_ ?_ ?_ ?_
 ·intro D hD;exact⟨hD,Zbg hD,uS,by rw[Yj2];rfl,none,none,Y⟩
 ·rintro D i ys σ' H hi ⟨hD,hs,hl,q,_⟩;refine⟨hok H hs,?_⟩;rw[q,Ya,Ya,Yk1];omega
 ·rintro D i v ys σ' H hD hx ⟨_,hs,hl,q,o,u,rfl⟩;obtain⟨x,hxi,t,a,b,rfl,hxt,pa⟩:=Zaz hp hx;refine Z4r (SqT.of (hs _ _ hxt)) ?_;refine he x a b H _ hs (Yf hxi) pa λH4 s4=>?_;have hD4:=s4 _ _ hl;refine⟨hD4,hD,λb o e=>by rw[Zab (nNo e hD)];exact s4 _ _ (hs _ _ e),uS,?_,_,Z⟩;rw[Ym1,hxi,q,Yr,Yr];rfl
 ·rintro D ys σ' H hD ⟨_,hs,hl,q,_⟩;rw[<- vl,Yp1]at q;exact hd D H hD hs (by rw[hl,q])
def Zvv(C B D:Addr):Sp:=λvs H Q _=>∃(p k:Addr) (rows:RS) (ns:List Nam),vs=[.ref p]/\Zeh C B D H p k rows ns/\Zc4 rows/\Za6 rows ns/\∀ l H',H l=none->Zaj H H'->H' l=some (.lst ((Zll rows ns).map V.str))->Q (.ref l) H'
def Zvu(C B D:Addr):Sp:=λvs H Q _=>∃(p k:Addr) (rows:RS) (ns:List Nam),vs=[.ref p]/\Zeh C B D H p k rows ns/\Zc4 rows/\Za6 rows ns/\∀ H',Zaj H H'->Q (.str (Builtin.Str.glued "\n" (Zll rows ns))) H'
def KPa(H:Hp)(r:Str×LS)(a b:V):Prop:=a=.str r.1/\∃ t,b=.ref t/\H t=some (.tup (r.2.map V.str))
def DPa(H:Hp)(r:LS×Str)(a b:V):Prop:=b=.str r.2/\∃ t,a=.ref t/\H t=some (.tup (r.1.map V.str))
def Z3h{H:Hp}{rows:RS}{vs:LV}(h:Paired (Z5e H) rows vs):Paired (λx v=>∃ t a b,v=V.ref t/\H t=some (.tup [a,b])/\KPa H x a b) rows vs:=Paired.mapP h λr v ⟨t,t2,e,h1,h2⟩=>⟨t,_,_,e,h1,Y,t2,Y,h2⟩
def Z6q{H:Hp}{ps:List (LS×Str)}{vs:LV}(h:Zns H ps vs):Paired (λx v=>∃ t a b,v=V.ref t/\H t=some (.tup [a,b])/\DPa H x a b) ps vs:=Paired.mapP h λr v ⟨t,tc,e,h1,h2⟩=>⟨t,_,_,e,h1,Y,tc,Y,h2⟩
def Z5k{rows:RS}(g:Zc4 rows):∀ x∈rows.map (·.1),x.length<=8:=λx hx=>by
 obtain⟨r,hr,e⟩:=Yh.mp hx;rw[<- e];exact(Zbu (g.word r hr)).2
def Z7j(n:Nam):((((Str.empty++"name ")++n.1)++" ")++Str.ofString (toString (n.2.1:Int)))=Zju n:=by
 rw[show(Str.empty++("name ":Str))="name " by rfl'];rfl
def Z9y:(["word","ups"]:LS).Nodup:=by rfl'
def Z7f:(["call","made","word"]:LS).Nodup:=by rfl'
abbrev nBR:LS:=["book","rows","word","places","deeds"]
def Yb6:Zah nBR ["book"] (Zad Zdq):=by nofun
set_option maxHeartbeats 8000000 in
def Z0k(F:Def K mg "book_rows" Zdq ["book"] f fd)(TD:Zjj K D)(TC:Zqd K C)(list:mg "list"=none)
  (MK:Zrn K D fK fdK) (MN:Zy6 K D fN fdN) (GN:⋯ 2 fN fdN ["self"] (Zmk C B D)) (MR:Zqb K C "rows" "Kinds.rows" Zd5 ["self"] fR fdR)
  (DK:Def K mg "kind_row" Zhc ["word","ups"] fKR fdKR) (DD:Def K mg "deed_row" Zhe ["word","call","made"] fDR fdDR):⋯ 3 f fd ["book"] (Zvv C B D):=by
 have GK:⋯ 1 fK fdK ["self"] (Zjy C B D):=Zkw MK.fn TD;have GR:⋯ 1 fR fdR ["self"] (Zmi C):=Zov MR.fn TC list;have GKR:⋯ 1 fKR fdKR ["word","ups"] Z2a:=Z31 DK list;have GDR:⋯ 1 fDR fdDR ["word","call","made"] Z2c:=Z34 DD list
 nomatch F.fn.ok Yb6
 ·obtain⟨p,k,rows,ns,rfl,_⟩:=h;rfl
 ·obtain⟨p,k,rows,ns,rfl,bk,g,gn,q⟩:=h;have nd:=Yb6.nd;have hr1:Zci 1 _:=hr.mono (by decide);have hr2:Zci 2 _:=hr.mono (by decide)
  ac_nf
  refine'⟨_,(pS ?eK
   (pS (Zbh Yw rfl (Zbr (Zbv (pv 0) TD.cl MN.me GN hr MN.b .nil Zct)) (Zeg rfl (gC (Zai (i:=2) nd rfl (Or.inr rfl)) (gC (gE 3 nd) (gC (gE 4 nd) Zc0))))
    (pS (Za4 (Zdg Ye1 Yn1 Yo1 Zbc (pv 1) (pC (Zsi (Zfi Zse (Zfi (Zwi (pv 2)) (Zfi Zse (Zfi (Z6n (pv 3)) Zwh))))) Zaa)))
   (Zac (Za4 (Zdg Ye1 Ye6 Yf6 Zpd (pv 1) (pC ?eD Zaa))))))
   (Zac (Zak (pv 1))))),?_⟩
  case eK=>exact(Zeu (k:=1) ["word","ups"] [] [] nd rfl rfl (λ_=>Zaw (osc:=Zad Zdq) (on:=nBR) (by rfl') rfl rfl rfl) (Zbr (Zbv (Zbv (pv 0) TD.cl MK.me GK hr1 MK.b .nil Zct) TC.cl MR.me GR hr1 MR.b .nil Zct)) (λC s H fp=>Zl2 (K:=K) (i:=0) (j:=1) rfl rfl Z9y rfl rfl (Or.inl rfl) (Or.inl rfl) (Or.inr rfl) (Or.inr rfl)) (λC s H fp=>Zbj) (λC s H fp=>Zae DK GKR hr1 (pC (pv 0) (pC (pv 1) Zaa))))
  case eD=>exact(Zbk ["call","made"] ["word"] [2] (λ_=>Zaw (osc:=Zad Zdq) (on:=nBR) (by rfl') rfl rfl rfl) (Zgi (pv 4)) (λC s H fp=>Zl2 (K:=K) (i:=0) (j:=1) rfl rfl Z7f rfl rfl (Or.inl rfl) (Or.inl rfl) (Or.inr rfl) (Or.inr rfl)) (λC s H fp=>Zbj) (λC s H fp=>Zae DD GDR hr1 (pC (pv 2) (pC (pv 0) (pC (pv 1) Zaa)))))
  exists let b:=_;let c:=Zau _ b;let e:=Zau (Zh3 _ _ c) a;Zau _ e _ _ _
  obtain⟨dx,bo,mo,o,bvs,mvs,h1,h2,h3,h4,h5,h6⟩:=bk.ex;obtain⟨dxk,dk,ak,okk,oak,kvs,avs,hk1,_⟩:=h2.ex;refine⟨Z,p,dx,Z,h1,Zkz _ _ _,p,k,rows,ns,Y,bk,k,dxk,Z,hk1,Zss _ _,k,rows,Y,h2,g,λlr H1 hlr s1 hR1=>?_⟩;obtain⟨vs,hvs,hP⟩:=hR1;have vl:=Yy hP;have gle:=g.le;have few:=gn.few;refine⟨lr,Y,⟨_,SqL.of hvs⟩,Zta (Za8 (xs:=vs)) (by omega) (λr=>Zk5 r.1 r.2) (KPa H1) (Z3h hP) (λH' s=>SqL.of (s _ _ hvs)) ?_ λl H2 hl s12 hl2=>?_⟩
  ·rintro x a b H' R s' hx ⟨rfl,t,rfl,ht⟩ hR;exact⟨Z,Z,x.1,t,x.2,Y,s' _ _ ht,(Zbu (g.word x hx)).2,g.few x hx,λu hu=>Z5k g u (g.known x hx u hu),hR⟩
  have s2:=s1.trans s12;have hlH:H l=none:=s1.free hl;refine⟨Z,p,dx,Z,s2 _ _ h1,Zo8 _ _ _,p,k,rows,ns,Y,bk.mono s2,gn,λlf fs H3 hlf s23 hlf3 hN3=>?_⟩;have hl3:=s23 _ _ hl2;have lfl:lf≠l:=λz=>by rw[z,hl2]at hlf;cases hlf
  have fl:=Yy hN3;let Iv2:NW:=λi σ H'=>∃ x2 x3 x4:OV,σ=[some (.ref p),some (.ref l),x2,x3,x4]/\(∀ b o,b≠l->H3 b=some o->H' b=some o)/\H' l=some (.lst ((Zjc rows++(ns.take i).flatMap Zhy).map V.str));refine⟨lf,Y,⟨_,SqL.of hlf3⟩,Za1 (Za8 (xs:=fs)) Iv2
   ⟨none,none,none,Y,λ_ _ _ e=>e,by rw[Yj2,List.flatMap_nil,Yy1];exact hl3⟩ (λi σ H' _ h0=>by obtain⟨_,_,_,_,s,_⟩:=h0;exact SqL.of (s _ _ lfl hlf3)) ?_ ?_⟩
  ·rintro i v σ H4 hi ⟨x2,x3,x4,rfl,s34,hl4⟩;obtain⟨n,hn,t,tp,ws,rfl,ht,htp,hD⟩:=Zaz hN3 hi;have hmem:n∈ns:=Yf hn;have gnn:=gn.each n hmem;have tk:∀ b xs,H3 b=some (.tup xs)->H4 b=some (.tup xs):=λb xs e=>s34 _ _ (λz=>by rw[z,hl3]at e;cases e) e;have pl:(Zjc rows++(ns.take i).flatMap Zhy).length<=544:=by
    have:=(Zng g (ns:=ns.take i) λm hm=>gn.each m (Ye4 hm)).1;rw[Yk1]at this;rw[Yc];unfold Zjc;rw[Ya];omega
   have n1:=gnn.one;have n4:=gnn.four;have nw:=(Zbu gnn.word).2;have wl:=Yy hD;have dl:=gnn.deeds.few;rw[Ya]at dl;refine⟨t,Z,SqT.of (tk _ _ ht),Y,_,Z,_,Z,_,Z,Y,?_⟩;refine⟨Z,.inl ⟨Y,_,SqL.of hl4⟩,by rfl',Z,n.1,Y,W,by rfl',Z,(n.2.1:Int),Y,W,l,_,Z,Y,hl4,Zav (by rw[Ya];omega),?_⟩;rw[Z7j];have s45:∀ b o,b≠l->H4 b=some o->(upd H4 l (.lst ((Zjc rows++(ns.take i).flatMap Zhy).map V.str++[V.str (Zju n)]))) b=some o:=λb o hb e=>by rw[Zab hb];exact e
   have hl5:(upd H4 l (.lst ((Zjc rows++(ns.take i).flatMap Zhy).map V.str++[V.str (Zju n)]))) l=some (.lst ((Zjc rows++(ns.take i).flatMap Zhy).map V.str++[V.str (Zju n)])):=uS;generalize upd H4 l (.lst ((Zjc rows++(ns.take i).flatMap Zhy).map V.str++[V.str (Zju n)]))=H5 at s45 hl5;have tk5:∀ b xs,H3 b=some (.tup xs)->H5 b=some (.tup xs):=λb xs e=>s45 _ _ (λz=>by rw[z,hl3]at e;cases e) (tk _ _ e);refine⟨Z,.inl ⟨Y,_,SqL.of hl5⟩,Z,tp,Y,⟨_,SqT.of (tk5 _ _ htp)⟩,Zta (Zc9 (xs:=ws)) (by omega) (λx=>Zk9 n.1 x.1 x.2) (DPa H5) (Z6q (hD.mono tk5)) (λH' s=>SqT.of (s _ _ (tk5 _ _ htp))) ?_ λlc H6 hlc s56 hlc6=>?_⟩
   ·rintro x a b H' R s' hx ⟨rfl,tc,rfl,htc⟩ hR;have gc:=gnn.deeds.call x.1 (Yh.mpr ⟨x,hx,Y⟩);exact⟨Z,Z,Z,n.1,x.2,tc,x.1,Y,s' _ _ htc,nw,Z5k g _ (gnn.made x hx),by rw[gc.len];exact n4,λu hu=>Z5k g u (gc.known u hu),hR⟩
   ·have hl6:=s56 _ _ hl5;have e6:((Zjc rows++(ns.take i).flatMap Zhy).map V.str++[V.str (Zju n)])++(n.2.2.map λx=>Zk9 n.1 x.1 x.2).map V.str=(Zjc rows++(ns.take (i + 1)).flatMap Zhy).map V.str:=by
     rw[Ym1,hn];simp[Zhy,List.flatMap_append]
    refine⟨l,lc,_,Z,Y,hl6,hlc6,sL (by simp only[Yc,Ya,Yv,List.length_nil]at pl ⊢;omega),?_⟩;rw[e6];exact⟨_,_,Z,λb o hb e=>by rw[Zab hb];exact s56 _ _ (s45 _ _ hb (s34 _ _ hb e)),uS⟩
  ·rintro σ H4 ⟨x2,x3,x4,rfl,s34,hl4⟩;rw[<- fl,Yp1]at hl4;exact⟨Z,q l H4 hlH (λb o e=>s34 _ _ (nNo e hlH) (s23 _ _ (s2 _ _ e))) hl4⟩
def Ydl:Zah ["book"] ["book"] (Zad Zf9):=by nofun
def Z0j(F:Def K mg "book_text" Zf9 ["book"] f fd)(DR:Def K mg "book_rows" Zdq ["book"] fR fdR)(GR:⋯ 3 fR fdR ["book"] (Zvv C B D)):⋯ 4 f fd ["book"] (Zvu C B D):=by
 nomatch F.fn.ok Ydl
 ·obtain⟨p,k,rows,ns,rfl,_⟩:=h;rfl
 ·obtain⟨p,k,rows,ns,rfl,bk,g,gn,q⟩:=h
  ac_nf
  refine'⟨_,Zac (Zak (Zdg Yf3 Yf5 Yg5 Zm8 Zbp (pC (Zae DR GR hr (pC (pv 0) Zaa)) Zaa))),?_⟩;have e1:("\n":Str).length=1:=by rfl'
  obtain⟨bl,b100⟩:=Zp6 g gn;refine⟨Y,Z,p,k,rows,ns,Y,bk,g,gn,λl H1 hl s1 hl1=>?_⟩;exact⟨_,l,_,100,Y,Y,hl1,b100,by rw[e1];omega,q H1 s1⟩
def Z4z(n:Nat):Str:=Str.ofString (toString (n:Int))
def kW(r:Row):LS:="kind" :: r.1 :: (if r.2.isEmpty then[]else "under" :: r.2)
def nW(n:Nam):LS:=["name",n.1,Z4z n.2.1]
def dW(x:Str)(c:LS)(m:Str):LS:=((["deed",x]:LS)++c)++(["gives",m]:LS)
def Z03(r:Row):Zk5 r.1 r.2=Builtin.Str.glued " " (kW r):=by
 unfold Zk5 kW;cases h:r.2.isEmpty with
 | true=>exact(Zsz r.1).symm
 | false=>exact(Zsy r.1 r.2).symm
def Z0u(n:Nam):Zju n=Builtin.Str.glued " " (nW n):=by
 unfold nW;rw[Zip];show _=(((("name":Str)++" ")++n.1)++" ")++Z4z n.2.1;rw[show(("name":Str)++" ")="name " by rfl'];rfl
def Z1p(x:Str)(c:LS)(m:Str):Zk9 x c m=Builtin.Str.glued " " (dW x c m):=(Zyg x c m).symm
def Zxl{c:Nat}(h:¬ (97<=c/\c<=122)){x:Str}(hx:Zam x=true):c∉x.cps.toList:=λz=>by
 have:=((Zb0 x).mp hx).2 c z;unfold Zjd at this;exact h (Je this)
def Z1x(x:Str):Prop:=32∉x.cps.toList/\10∉x.cps.toList/\x.length<=8
def Zfz{x:Str}(h:Zam x=true):Z1x x:=⟨Zxl (by decide) h,Zxl (by decide) h,(Zbu h).2⟩
def Z1g{n:Nat}(h1:1<=n)(h4:n<=4):Z1x (Z4z n):=by
 have h:n=1\/n=2\/n=3\/n=4:=by omega
 unfold Z1x
 rcases h with rfl | rfl | rfl | rfl <;> rfl'
def Z7z{n:Nat}(h1:1<=n)(h4:n<=4):Z4z n∈Zu0/\Z5n (Z4z n)=n:=by
 have h:n=1\/n=2\/n=3\/n=4:=by omega
 rcases h with rfl | rfl | rfl | rfl <;> exact⟨by rfl',by rfl'⟩
def Zuj{c d:Nat}(cd:d≠c):∀ {xs:LS},(∀ x∈xs,d∉x.cps.toList)->d∉(Builtin.Str.glued (sgn c) xs).cps.toList:=by
 intro xs h;rw[StrLaws.glued_eq_join]
 induction xs with
 | nil=>exact λz=>nomatch z
 | cons x r ih =>
  cases r with
  | nil=>exact h x Yh1
  | cons y r =>
   rw[Zio];intro z
   rcases Yl.mp z with z | z
   ·exact h x Yh1 z
   rcases Yt.mp z with z | z
   ·exact cd z
   ·exact ih (λu hu=>h u (Ys _ hu)) z
def Zpo{c B:Nat}:∀ {xs:LS},(∀ x∈xs,x.length<=B)->(Builtin.Str.glued (sgn c) xs).length<=xs.length * (B + 1):=by
 intro xs h;rw[StrLaws.glued_eq_join]
 induction xs with
 | nil=>exact Yj1 _
 | cons x r ih =>
  have hx:=h x Yh1;cases r with
  | nil =>
   show x.length<=1 * (B + 1);omega
  | cons y r =>
   have e:(Str.join (sgn c) (x :: y :: r)).length=x.length + 1 + (Str.join (sgn c) (y :: r)).length:=by
    show(x++sgn c++Str.join (sgn c) (y :: r)).length=_;rw[strLen_append,strLen_append];rfl
   have:=ih (λu hu=>h u (Ys _ hu));rw[e,Yv,Nat.succ_mul];omega
def Zwe{t:Str}{ws:LS}(e:t=Builtin.Str.glued " " ws)(hne:ws≠[])(few:ws.length<=100)(h:∀ x∈ws,Z1x x):Z5f t ws/\10∉t.cps.toList:=by
 have b:(" ":Str)=sgn 32:=rfl;have l8:∀ x∈ws,x.length<=8:=λx hx=>(h x hx).2.2;rw[e,b];refine⟨⟨Zj7 hne λp hp=>(h p hp).1,hne,W,λx hx=>by have:=l8 x hx;omega,?_⟩,Zuj (by decide) λx hx=>(h x hx).2.1⟩;have:=Zpo (c:=32) l8;omega
def Z7s{r:Row}(hw:Zam r.1=true)(hl:r.2.length<=8)(hu:∀ u∈r.2,Zam u=true):Z5f (Zk5 r.1 r.2) (kW r)/\10∉(Zk5 r.1 r.2).cps.toList:=by
 refine Zwe (Z03 r) (Yl5 _ _) ?_ λx hx=>?_
 ·unfold kW;split
  ·show 2<=100;decide
  ·show r.2.length + 1 + 1 + 1<=100;omega
 ·rcases Yt.mp hx with rfl | hx
  ·unfold Z1x;rfl'
  rcases Yt.mp hx with rfl | hx
  ·exact Zfz hw
  split at hx
  ·exact nomatch hx
  ·rcases Yt.mp hx with rfl | hx
   ·unfold Z1x;rfl'
   ·exact Zfz (hu x hx)
def Z7i{n:Nam}(hw:Zam n.1=true)(h1:1<=n.2.1)(h4:n.2.1<=4):Z5f (Zju n) (nW n)/\10∉(Zju n).cps.toList:=by
 refine Zwe (Z0u n) (Yl5 _ _) (by show 3<=100;decide) λx hx=>?_
 rcases Yt.mp hx with rfl | hx
 ·unfold Z1x;rfl'
 rcases Yt.mp hx with rfl | hx
 ·exact Zfz hw
 rw[Ye.mp hx];exact Z1g h1 h4
def Z75{x m:Str}{c:LS}(hw:Zam x=true)(hl:c.length<=4)(hc:∀ u∈c,Zam u=true)(hm:Zam m=true):Z5f (Zk9 x c m) (dW x c m)/\10∉(Zk9 x c m).cps.toList:=by
 refine Zwe (Z1p x c m) (by unfold dW;exact List.append_ne_nil_of_right_ne_nil _ (Yl5 _ _)) (by unfold dW;rw[Yc,Yc];show 2 + c.length + 2<=100;omega) λy hy=>?_
 rcases Yl.mp hy with hy | hy
 ·rcases Yl.mp hy with hy | hy
  ·rcases Yt.mp hy with rfl | hy
   ·unfold Z1x;rfl'
   ·rw[Ye.mp hy];exact Zfz hw
  ·exact Zfz (hc y hy)
 ·rcases Yt.mp hy with rfl | hy
  ·unfold Z1x;rfl'
  ·rw[Ye.mp hy];exact Zfz hm
def Ztg:Zam "under"=true:=by rfl'
def Zth:Zam "gives"=true:=by rfl'
def Z9t:¬ (("name":Str)="kind"):=by rfl'
def Z9w:¬ (("deed":Str)="kind"):=by rfl'
def Z9v:¬ (("deed":Str)="name"):=by rfl'
def Z4h{r:Row}(hw:Zam r.1=true)(hu:∀ u∈r.2,Zam u=true):Zes (kW r)=true:=by
 unfold kW;rw[Zd8,Jb rfl,Yi2,Yl1];cases h:r.2 with
 | nil=>exact⟨by show([r.1].all Zam)=true;rw[Yn3,hw];rfl,Y⟩
 | cons a l =>
  rw[h]at hu;refine⟨?_,?_⟩
  ·show((r.1 :: "under" :: a :: l).all Zam)=true;rw[Yq1];intro x hx
   rcases Yt.mp hx with rfl | hx
   ·exact hw
   rcases Yt.mp hx with rfl | hx
   ·exact Ztg
   ·exact hu x hx
  ·rw[Bool.or_eq_true,Yl1];refine .inr ⟨Jb ?_,Jb rfl⟩;show 2<l.length + 1 + 1 + 1;omega
def Zvf{rows:List Row}{r:Row}(hw:Zam r.1=true)(hu:∀ u∈r.2,Zam u=true):Zgk rows [] (kW r)=some (rows++[r],[]):=by
 unfold Zgk;rw[if_pos (Z4h hw hu),if_pos rfl];unfold kW
 rcases r with⟨x,us⟩
 cases us with
 | nil=>rfl
 | cons a l=>rfl
def Zxr{w:Str}(h:¬ w="kind")(r:LS):Zes (w :: r)=false:=by rw[Zd8,Jc h,Yo3]
def Zve{rows:List Row}{ns:List Nam}{n:Nam}(hr:rows≠[])(hw:Zam n.1=true)(h1:1<=n.2.1)(h4:n.2.1<=4):Zgk rows ns (nW n)=some (rows,ns++[(n.1,n.2.1,[])]):=by
 obtain⟨a,b⟩:=Z7z h1 h4;have k:Zfm (nW n)=true:=by
  show(decide (("name":Str)="name")&&(Zam n.1&&decide (Z4z n.2.1∈Zu0)))=true;rw[Jb rfl,hw,Jb a];rfl
 unfold Zgk;rw[show Zes (nW n)=false from Zxr Z9t _,if_neg (by decide),if_pos k,if_neg hr];show some (rows,ns++[(n.1,Z5n (Z4z n.2.1),[])])=_;rw[b]
def Yan(x m:Str)(c:LS):(dW x c m).getD 1 ""=x/\((dW x c m).drop 2).take ((dW x c m).length - 4)=c/\(dW x c m).getD ((dW x c m).length - 1) ""=m/\(dW x c m).length=c.length + 4/\(dW x c m).getD ((dW x c m).length - 2) ""="gives":=by
 have l:(dW x c m).length=c.length + 4:=by
  unfold dW;rw[Yc,Yc];show 2 + c.length + 2=_;omega
 have e:dW x c m=(("deed" :: x :: (c++(["gives",m]:LS))):LS):=rfl;refine⟨Y,?_,?_,l,?_⟩
 ·rw[l,e];show(c++(["gives",m]:LS)).take (c.length + 4 - 4)=c;rw[Nat.add_sub_cancel,List.take_left'];rfl
 ·rw[l,e,Yo,show c.length + 4 - 1=c.length + 1 + 2 by omega];show((c++(["gives",m]:LS))[c.length + 1]?).getD ""=m;rw[Yh2 (by omega),show c.length + 1 - c.length=1 by omega];rfl
 ·rw[l,e,Yo,show c.length + 4 - 2=c.length + 2 by omega];show((c++(["gives",m]:LS))[c.length]?).getD ""="gives";rw[Yh2 (by omega),Nat.sub_self];rfl
def Z0t{w:Str}(h:¬ w="name")(r:LS):Zfm (w :: r)=false:=by
 rcases r with _ | ⟨b,_ | ⟨c,_ | ⟨d,r⟩⟩⟩
 ·rfl
 ·rfl
 ·show(decide (w="name")&&_)=false;rw[Jc h,Yo3]
 ·rfl
def Zvh{rows:List Row}{ns ns':List Nam}{x m:Str}{c:LS}(hw:Zam x=true)(hc:∀ u∈c,Zam u=true)(hm:Zam m=true)(h1:1<=c.length)(ha:Zy9 x c m ns=some ns'):Zgk rows ns (dW x c m)=some (rows,ns'):=by
 obtain⟨a1,a2,a3,a4,a5⟩:=Yan x m c;have k:Zfo (dW x c m)=true:=by
  unfold Zfo;rw[Yl1,Yl1,Yl1];refine⟨Jb rfl,Jb (by rw[a4];omega),Jb a5,?_⟩;show((x :: (c++(["gives",m]:LS))).all Zam)=true;rw[Yq1];intro y hy
  rcases Yt.mp hy with rfl | hy
  ·exact hw
  rcases Yl.mp hy with hy | hy
  ·exact hc y hy
  rcases Yt.mp hy with rfl | hy
  ·exact Zth
  ·rw[Ye.mp hy];exact hm
 unfold Zgk;rw[show Zes (dW x c m)=false from Zxr Z9w _,if_neg (by decide),show Zfm (dW x c m)=false from Z0t Z9v _,if_neg (by decide),if_pos k,a1,a2,a3,ha];rfl
theorem Zqq:∀(l:List (LS)) {rows:List Row}{ns:List Nam}{m:List (LS)},Zlh rows ns (l++m)=(Zlh rows ns l).bind λz=>Zlh z.1 z.2 m
 | [],_,_,_=>rfl
 | a :: l,rows,ns,m=>by
  show(Zgk rows ns a).bind (λz=>Zlh z.1 z.2 (l++m))=((Zgk rows ns a).bind λz=>Zlh z.1 z.2 l).bind λz=>Zlh z.1 z.2 m;cases Zgk rows ns a with
  | none=>rfl
  | some z=>exact Zqq l
theorem Zoi:∀ {rs:List Row}{rows:List Row},(∀ r∈rs,Zam r.1=true/\∀ u∈r.2,Zam u=true)->Zlh rows [] (rs.map kW)=some (rows++rs,[])
 | [],rows,_=>by rw[Yy1];rfl
 | r :: rs,rows,h=>by
  obtain⟨a,b⟩:=h r Yh1;show(Zgk rows [] (kW r)).bind (λz=>Zlh z.1 z.2 (rs.map kW))=_;rw[Zvf a b];show Zlh (rows++[r]) [] (rs.map kW)=_;rw[Zoi λx hx=>h x (Ys _ hx),Yx1];rfl
def Z25{rows:List Row}{ns:List Nam}{ts:LS}{wss:List (LS)}(hne:ts≠[])(few:ts.length<=900)(h:Paired (λt ws=>(Z5f t ws/\10∉t.cps.toList)/\t.length<=100) ts wss)(run:Zlh [] [] wss=some (rows,ns)):Zy2 (Builtin.Str.glued "\n" ts) rows ns ts wss:=by
 have b:("\n":Str)=sgn 10:=rfl;have all:∀ t∈ts,10∉t.cps.toList/\t.length<=100:=λt ht=>by
  obtain⟨i,hi⟩:=Yy3.mp ht;obtain⟨ws,_,z⟩:=Zcf h hi;exact⟨z.1.2,z.2⟩
 rw[b];have:=Zpo (c:=10) λt ht=>(all t ht).2;exact⟨Zj7 hne λt ht=>(all t ht).1,W,W,Paired.mapP h λ_ _ z=>z.1.1,run⟩
def Zsa{K:Fg}{H:Hp}{l:Addr}{rows:RS}(h:Ze3 H l rows):Rep K H (.ref l) (.list (rows.map Zug)):=by
 obtain⟨vs,a,q⟩:=h;exact .list (SqL.of a) (Zlz q)
def Zt6{K:Fg}{l:Addr}{H1:Hp}{ns:List Nam}{us:LV}{σ:St}{Q:VK}{te:TE}(hl:H1 l=some (.lst us))(hN:Ze4 H1 ns us)(few:ns.length<=100)
  (he:∀(t tp:Addr) (x:Str) (m:Nat) H' (R:VK),H' t=some (.tup [.str x,.int m,.ref tp])->R (.str x) H'->te [some (.ref t)] H' R)
  (hd:∀ D H',H1 D=none->Zaj H1 H'->H' D=some (.lst ((ns.map (·.1)).map V.str))->Q (.ref D) H'):compBody 1 [] (Zgy 0) Ztn te σ Q (Itl K l) H1:=by
 have ul:us.length<=100:=by have:=Yy hN;omega
 refine Zhq (Za8 (xs:=us)) (sL (by omega)) (λ_=>true) (λ_ x v _=>∀ n,Zqa H1 n x->v=.str n.1) (λ_ _ _ _ _ _ h=>h) (λH' s=>s.seq (SqL.of hl)) ?_ ?_ ?_
 ·intro x H3 R _ _ hR';exact hR' H3 (Zaj.refl _)
 ·intro D x H3 R s3 _ _ hx _ hR';obtain⟨i,hi⟩:=Yy3.mp hx;obtain⟨n,hn,t,tp,vs,rfl,ht,_⟩:=Zaz hN hi;refine he t tp n.1 n.2.1 H3 R (s3 _ _ ht) (hR' _ _ (Zaj.refl _) λn' h'=>?_);obtain⟨t',tp',vs',e1,e2,_⟩:=h';cases e1;rw[ht]at e2;have e2:=Ym e2;injection e2 with e2;injection e2 with e2 _
 ·intro D H3 ys hD s23 hlD hpD;rw[Yr2.mpr (λ_ _=>rfl)]at hpD;have eys:ys=(ns.map (·.1)).map V.str:=by
   have:∀ {ns:List Nam} {vs ys:LV},Ze4 H1 ns vs->Paired (λx v=>∀ n,Zqa H1 n x->v=.str n.1) vs ys->ys=(ns.map (·.1)).map V.str:=by
    intro ns vs ys a
    induction a generalizing ys with
    | nil=>intro b;cases b;rfl
    | cons h t ih =>
     intro b;cases b with
     | cons h' t'=>rw[Yz,Yz,h' _ h,ih t']
   exact this hN hpD
  subst eys;exact hd D H3 hD s23 hlD
mutual
inductive TmV(H:Hp):Dt->V->Prop
 | int (i:Int):TmV H (.int i) (.int i)
 | str (x:Str) (hx:PyData.strOk x=true):TmV H (.str x) (.str x)
 | tup {a:Addr} {vs:LV} {ds:List Dt}:H a=some (.tup vs)->TmsV H ds vs->TmV H (.tuple ds) (.ref a)
inductive TmsV(H:Hp):List Dt->LV->Prop
 | nil:TmsV H [] []
 | cons {d:Dt} {ds:List Dt} {v:V} {vs:LV}:TmV H d v->TmsV H ds vs->TmsV H (d :: ds) (v :: vs)
end
mutual
theorem TmV.keep{H H':Hp}(k:∀ b xs,H b=some (.tup xs)->H' b=some (.tup xs)):∀ {d:Dt}{v:V},TmV H d v->TmV H' d v
 | _,_,.int i=>.int i
 | _,_,.str x hx=>.str x hx
 | _,_,.tup h t=>.tup (k _ _ h) (t.keep k)
theorem TmsV.keep{H H':Hp}(k:∀ b xs,H b=some (.tup xs)->H' b=some (.tup xs)):∀ {ds:List Dt}{vs:LV},TmsV H ds vs->TmsV H' ds vs
 | _,_,.nil=>.nil
 | _,_,.cons h t=>.cons (h.keep k) (t.keep k)
end
mutual
theorem TmV.rep{K:Fg}{H:Hp}:∀ {d:Dt}{v:V},TmV H d v->Rep K H v d
 | _,_,.int i=>.int i
 | _,_,.str x _=>.str x
 | _,_,.tup h t=>.tuple (SqT.of h) t.reps
theorem TmsV.reps{K:Fg}{H:Hp}:∀ {ds:List Dt}{vs:LV},TmsV H ds vs->Reps K H vs ds
 | _,_,.nil=>.nil
 | _,_,.cons h t=>.cons h.rep t.reps
end
mutual
theorem TmV.lay{H:Hp}:∀ {d:Dt}{v:V},TmV H d v->(W.kqdP d).canLay0=true
 | _,_,.int i=>by rw[W.kqdP];rfl
 | _,_,.str x hx=>by rw[W.kqdP];exact hx
 | _,_,.tup h t=>by rw[W.kqdP];exact t.lays
theorem TmsV.lays{H:Hp}:∀ {ds:List Dt}{vs:LV},TmsV H ds vs->PyData.canLayAll0 (W.kqdPs ds)=true
 | _,_,.nil=>by rw[W.kqdPs];rfl
 | _,_,.cons h t=>by
  rw[W.kqdPs];show(_&&_)=true;rw[h.lay,t.lays];rfl
end
theorem TmsV.length{H:Hp}:∀ {ds:List Dt}{vs:LV},TmsV H ds vs->ds.length=vs.length
 | _,_,.nil=>rfl
 | _,_,.cons _ t=>by rw[Yv,Yv,t.length]
theorem TmsV.append{H:Hp}:∀ {ds es:List Dt}{vs us:LV},TmsV H ds vs->TmsV H es us->TmsV H (ds++es) (vs++us)
 | _,_,_,_,.nil,h=>h
 | _,_,_,_,.cons a t,h=>.cons a (t.append h)
theorem TmsV.at_{H:Hp}:∀ {ds:List Dt}{vs:LV},TmsV H ds vs->∀ {i:Nat}{v:V},vs[i]?=some v->∃ d,ds[i]?=some d/\TmV H d v
 | _,_,.cons h t,0,v,e=>by
  rw[List.getElem?_cons_zero]at e;cases e;exact⟨Z,h⟩
 | _,_,.cons h t,i + 1,v,e=>by
  rw[Yg4]at e;exact t.at_ e
 | _,_,.nil,i,v,e=>by simp at e
theorem TmsV.drop{H:Hp}:∀ {ds:List Dt}{vs:LV},TmsV H ds vs->∀ n,TmsV H (ds.drop n) (vs.drop n)
 | _,_,h,0=>h
 | _,_,.nil,n + 1=>.nil
 | _,_,.cons _ t,n + 1=>t.drop n
def Ziu:Dt->List Dt
 | .tuple ds=>ds.drop 1
 | _=>[]
def Zxj:∃ f:Nat->List Dt->List Dt,(∀ l,f 0 l=l)/\∀ k l,f (k + 1) l=(f k l).flatMap Ziu:=⟨λk l=>Nat.rec l (λ_ r=>r.flatMap Ziu) k,λ_=>rfl,λ_ _=>rfl⟩
def lvl:Nat->List Dt->List Dt:=Classical.choose Zxj
def Zb6(l:List Dt):lvl 0 l=l:=(Yh5 Zxj).1 l
def Zd1(k:Nat)(l:List Dt):lvl (k + 1) l=(lvl k l).flatMap Ziu:=(Yh5 Zxj).2 k l
def Zym:∃ f:Nat->List Dt->Nat,(∀ l,f 0 l=0)/\∀ k l,f (k + 1) l=f k l + (lvl k l).length:=⟨λk l=>Nat.rec 0 (λk r=>r + (lvl k l).length) k,λ_=>rfl,λ_ _=>rfl⟩
def Zfq:Nat->List Dt->Nat:=Classical.choose Zym
def Zdm(l:List Dt):Zfq 0 l=0:=(Yh5 Zym).1 l
def Zea(k:Nat)(l:List Dt):Zfq (k + 1) l=Zfq k l + (lvl k l).length:=(Yh5 Zym).2 k l
def Zh7(d:Dt):Bool:=(lvl 12 [d]).isEmpty&&decide (Zfq 12 [d]<=40)
def Z5p(xs:LV):Ziv xs (some 1) none=xs.drop 1:=by
 unfold Ziv;have e:HT.sIx xs.length 0 (some (1:Int))=min 1 xs.length:=HT.sIx_nat xs.length 0 1;rw[e,HT.sIx_none];cases xs with
 | nil=>rfl
 | cons x r =>
  have e2:min 1 (x :: r).length=1:=by rw[Yv];omega
  rw[e2];exact Ym2 (by rw[Yv2];omega)
def Zmo:Sp:=λvs H Q _=>∃(d:Dt) (v:V),vs=[v]/\TmV H d v/\Q (.bl (match d with | .int _=>true | _=>false)) H
def Zvo:Sp:=λvs H Q _=>∃(l:Addr) (ds:List Dt) (us:LV),vs=[.ref l]/\H l=some (.lst us)/\TmsV H ds us/\(ds.flatMap Ziu).length<=1000/\∀ l' us' H',H l'=none->Zaj H H'->H' l'=some (.lst us')->TmsV H' (ds.flatMap Ziu) us'->Q (.ref l') H'
def Zql:Sp:=λvs H Q _=>∃(d:Dt) (v:V),vs=[v]/\TmV H d v/\(∀ k,(lvl k [d]).length<=1000)/\∀ H',Zaj H H'->Q (.bl (Zh7 d)) H'
structure Zy1(mg:Str->OU):Prop where
 isi:mg "isinstance"=none
 int:mg "int"=none
 bool:mg "bool"=none
 tuple:mg "tuple"=none
 len:mg "len"=none
 range:mg "range"=none
theorem Zpq{α β:Type}(f:α->List β):∀(l:List α) (i:Nat),((l.take i).flatMap f).length<=(l.flatMap f).length
 | [],i=>by rw[List.take_nil];exact Yg _
 | a :: l,0=>Yj1 _
 | a :: l,i + 1=>by
  have:=Zpq f l i;rw[Yo5,Yy2,Yy2,Yc,Yc];omega
def Ydd:Zah ["thing"] ["thing"] (Zad Zdp):=by nofun
def Zmw(F:Def K mg "is_number" Zdp ["thing"] f fd)(T:Zy1 mg):⋯ 1 f fd ["thing"] Zmo:=by
 nomatch F.fn.ok Ydd
 ·obtain⟨d,v,rfl,_⟩:=h;rfl
 ·obtain⟨d,v,rfl,hv,q⟩:=h
  ac_nf
  refine'⟨_,Zac (Zak (Zgt (Zao Zis (by rfl) T.isi Yq3 (pC (pv 0) (pC (Zkm (v:=.ty "int") (by rfl) T.int Ye5 rfl) Zaa))) (Zgs (Z6u (Zao Zis (by rfl) T.isi Yq3 (pC (pv 0) (pC (Zkm (v:=.ty "bool") (by rfl) T.bool PyProof.Rows.boot_bool rfl) Zaa))))))),?_⟩;cases hv with
  | int i=>exact⟨Z,_,_,_,Z,.int i,Y,Z,Ze5 ⟨Z,_,_,_,Z,.int i,Y,Z,q⟩⟩
  | str x hx=>exact⟨Z,_,_,_,Z,.str x,Y,Z,Zcg q⟩
  | tup h t=>exact⟨Z,_,_,_,Z,.tup h,Y,Z,Zcg q⟩
abbrev nPO:LS:=["level","parts","part"]
def Ybn:Zah nPO ["level"] (Zad Zhb):=by nofun
def Zz9(F:Def K mg "parts_of" Zhb ["level"] f fd)(T:Zy1 mg):⋯ 1 f fd ["level"] Zvo:=by
 nomatch F.fn.ok Ybn
 ·obtain⟨l,ds,us,rfl,_⟩:=h;rfl
 ·obtain⟨l,ds,us,rfl,hl,hT,hz,q⟩:=h;have nd:=Ybn.nd
  ac_nf
  refine'⟨_,(pS (sE 1 nd (Zbd Zaa))
   (pS (Zbh Yw rfl (Zbr (pv 0)) (gE 2 nd)
    (Zac (Za0 (Zb1 (Zao Zis (by rfl) T.isi Yq3 (pC (pv 2) (pC (Zkm (v:=.ty "tuple") (by rfl) T.tuple Yu1 rfl) Zaa))))
     (Zac (Za4 (Zdg Ye1 Ye6 Yf6 Z4e (pv 1) (pC (Zbs (r:=Z3k K) Zkc (pv 2) (Zbt Zaf) Zdj) Zaa)))) Zal)))
   (Zac (Zak (pv 1))))),?_⟩
  exists let b:=_;let c:=Zlg _ b _;let e:=Zau (Zh3 _ _ c) a;Zau _ e _ _ _
  refine⟨Yj1 _,λp hp=>?_⟩;have s1:Zaj H (upd H p (.lst [])):=Zbg hp;have lp:l≠p:=nNo hl hp;have dl:=hT.length;let Iv1:NW:=λi σ H'=>∃(x:OV) (ws:LV),σ=[some (.ref l),some (.ref p),x]/\Zaj H H'/\H' p=some (.lst ws)/\TmsV H' ((ds.take i).flatMap Ziu) ws;refine⟨Z,l,Y,⟨_,SqL.of (s1 _ _ hl)⟩,Za1 (Za8 (xs:=us)) Iv1
   ⟨none,[],Y,s1,uS,by rw[Yj2];exact .nil⟩ (λi σ H' _ h0=>by obtain⟨_,_,_,s,_⟩:=h0;exact SqL.of (s _ _ hl)) ?_ ?_⟩
  ·rintro i v σ H2 hi ⟨x,ws,rfl,s2,hp2,hW⟩;obtain⟨d,hd,hv⟩:=hT.at_ hi;have e:(ds.take (i + 1)).flatMap Ziu=(ds.take i).flatMap Ziu++Ziu d:=by
    rw[Ym1,hd];simp[List.flatMap_append]
   have lz:=Zpq Ziu ds (i + 1);rw[e,Yc]at lz;have wl:=hW.length;cases hv with
   | int j=>exact⟨Z,_,_,_,Z,.int j,Y,Z,Zcg ⟨_,ws,Y,s2,hp2,by rw[e];show TmsV H2 (_++[]) ws;rw[Yy1];exact hW⟩⟩
   | str j hj=>exact⟨Z,_,_,_,Z,.str j,Y,Z,Zcg ⟨_,ws,Y,s2,hp2,by rw[e];show TmsV H2 (_++[]) ws;rw[Yy1];exact hW⟩⟩
   | @tup a vs es ha ht =>
    refine⟨Z,_,_,_,Z,.tup (s2 _ _ ha),Y,Z,Ze5 ⟨Z,.inl ⟨Y,_,SqL.of hp2⟩,Z,Z,?_⟩⟩;unfold Zhx;refine Zki (K:=K) (lo:=some 1) (hi:=none) (s2 _ _ ha) λb H3 s3 hb=>?_;rw[Z5p]at hb;have hp3:=s3 _ _ hp2;have bp:b≠p:=λz=>by rw[z,hp3]at hb;cases hb
    have kd:TmsV H3 (Ziu (.tuple es)) (vs.drop 1):=(ht.keep λb xs e=>s3 _ _ (s2 _ _ e)).drop 1;have kl:=kd.length;refine⟨p,b,_,Z,Y,hp3,SqT.of hb,sL (by omega),_,Z,λb' o e'=>by rw[Zab (nNo e' hp)];exact s3 _ _ (s2 _ _ e'),uS,?_⟩;rw[e];have tk:∀ b xs,H3 b=some (.tup xs)->(upd H3 p (.lst (ws++vs.drop 1))) b=some (.tup xs):=λb xs e=>by rw[Zab (λz=>by rw[z,hp3]at e;cases e)];exact e
    exact((hW.keep (Zco s3)).keep tk).append (kd.keep tk)
  ·rintro σ H2 ⟨x,ws,rfl,s2,hp2,hW⟩;rw[<- dl,Yp1]at hW;exact⟨Z,q p ws H2 hp s2 hp2 hW⟩
abbrev nSm:LS:=["term","level","number","deep"]
def Ybh:Zah nSm ["term"] (Zad Zfv):=by nofun
def Zz6{T1 T2:Tok}(F:Def K mg "is_small" Zfv ["term"] f fd)(T:Zy1 mg)(c1:mg "MOST_DEEP"=some (.int 12 T1))(c2:mg "MOST_PARTS"=some (.int 40 T2))(DP:Def K mg "parts_of" Zhb ["level"] fP fdP):⋯ 2 f fd ["term"] Zql:=by
 have GP:⋯ 1 fP fdP ["level"] Zvo:=Zz9 DP T
 nomatch F.fn.ok Ybh
 ·obtain⟨d,v,rfl,_⟩:=h;rfl
 ·obtain⟨d,v,rfl,hv,hz,q⟩:=h;have nd:=Ybh.nd
  ac_nf
  refine'⟨_,(pS (sE 1 nd (Zbd (pC (pv 0) Zaa)))
   (pS (sE 2 nd Zaf)
   (pS (Zbh Yw rfl (Zca (by rfl) T.range (pC (Zdw (v:=.int 12) (by rfl) c1 ⟨Z⟩) Zaa)) (gE 3 nd)
    (pS (sE 2 nd (Zax Zcb (pv 2) (Zao Zap (by rfl) T.len Yg1 (pC (pv 1) Zaa))))
   (Zac (sE 1 nd (Zae DP GP hr (pC (pv 1) Zaa))))))
   (Zac (Zak (Zgt (Zwp (pv 1)) (Zgs (Zc1 Zjt (pv 2) (Zdw (v:=.int 40) (by rfl) c2 ⟨Z⟩) (Zar _))))))))),?_⟩
  exists let b:=_;let c:=Zau _ b;let e:=Zau (Zh3 _ _ c) a;let f:=Zau _ e;Zau _ f _ _ _
  refine⟨Z,O,λp hp=>?_⟩;have s1:Zaj H (upd H p (.lst [v])):=Zbg hp;let Iv2:NW:=λi σ H'=>∃(x:OV) (l:Addr) (us:LV),σ=[some v,some (.ref l),some (.int (Zfq i [d]:Nat)),x]/\Zaj H H'/\H' l=some (.lst us)/\TmsV H' (lvl i [d]) us;refine⟨12,Y,V,V,Za1 Zbq Iv2
   ⟨none,p,[v],by rw[Zdm];rfl,s1,uS,by rw[Zb6];exact .cons (hv.keep (Zco s1)) .nil⟩ (λ_ _ _ _ _=>trivial) ?_ ?_⟩
  ·rintro i v' σ H2 hi ⟨x,l,us,rfl,s2,hl2,hT2⟩;obtain⟨hi,rfl⟩:=Za7 hi;have ll:=hT2.length;have hz1:=hz (i + 1);rw[Zd1]at hz1;refine⟨Z,Z,l,us,Y,.inl (SqL.of hl2),_,Z,Y,?_⟩;refine⟨Z,l,_,us,Y,hl2,hT2,hz1,λl' us' H3 hl' s3 hl3 hT3=>⟨some (.int (0 + (i:Int))),l',us',?_,s2.trans s3,hl3,by rw[Zd1];exact hT3⟩⟩;have e:((Zfq i [d]:Nat):Int) + (us.length:Int)=((Zfq (i + 1) [d]:Nat):Int):=by
    rw[Zea,ll];omega
   rw[<- e];rfl
  ·rintro σ H2 ⟨x,l,us,rfl,s2,hl2,hT2⟩;have ll:=hT2.length;have len12:(Zdo 0 (12:Int).toNat).length=12:=by decide
   rw[len12]at hT2 ll;rw[len12];have q2:=q H2 s2;unfold Zh7 at q2;have e:(lvl 12 [d]).isEmpty=us.isEmpty:=by
    cases us with
    | nil=>exact List.isEmpty_iff.mpr (List.length_eq_zero_iff.mp ll)
    | cons u r =>
     cases hh:lvl 12 [d]with
     | nil=>rw[hh]at ll;cases ll
     | cons=>rfl
   rw[e]at q2;refine⟨Z,_,.inl ⟨us,SqL.of hl2,Y⟩,Z,?_⟩;cases us with
   | nil =>
    refine Ze5 ⟨Z,_,Z,Y,?_⟩;have z:decide (((Zfq 12 [d]:Nat):Int)<=40)=decide (Zfq 12 [d]<=40):=by
     congr 1
     exact propext ⟨λh=>by omega,λh=>by omega⟩
    show Q (.bl (decide (((Zfq 12 [d]:Nat):Int)<=40))) H2;rw[z];exact q2
   | cons u r=>exact Zcg q2
def Zyy(ns:List Nam)(x:Str):Option Nat:=(ns.find? λn=>decide (n.1=x)).map (·.2.1)
def Zhv(ns:List Nam):Dt->Bool
 | .tuple (.str x :: r)=>match Zyy ns x with
  | some k=>decide (r.length=k)
  | none=>false
 | _=>false
def Zja{ns:List Nam}{x:Str}{k:Nat}(r:List Dt)(h:Zyy ns x=some k):Zhv ns (.tuple (.str x :: r))=decide (r.length=k):=by
 show(match Zyy ns x with | some k=>decide (r.length=k) | none=>false)=_;rw[h]
def Zl9{ns:List Nam}{x:Str}(r:List Dt)(h:Zyy ns x=none):Zhv ns (.tuple (.str x :: r))=false:=by
 show(match Zyy ns x with | some k=>decide (r.length=k) | none=>false)=_;rw[h]
def Zi0(ns:List Nam)(m:Nat):Nat->Dt->Bool
 | 0,_=>false
 | k + 1,d=>match d with
  | .int i=>decide (0<=i)&&decide (i<m)
  | d=>Zhv ns d&&(Ziu d).all (Zi0 ns m k)
def Z4n:Dt->Bool
 | .tuple (.int _ :: _)=>true
 | .tuple (.str _ :: _)=>true
 | .tuple (_ :: _)=>false
 | _=>true
theorem Zdf:∀(k:Nat) (a b:List Dt),lvl k (a++b)=lvl k a++lvl k b
 | 0,a,b=>by rw[Zb6,Zb6,Zb6]
 | k + 1,a,b=>by rw[Zd1,Zd1,Zd1,Zdf k,List.flatMap_append]
theorem Zim:∀(k:Nat) (l:List Dt),lvl (k + 1) l=lvl k (l.flatMap Ziu)
 | 0,l=>by rw[Zd1,Zb6,Zb6]
 | k + 1,l=>by rw[Zd1,Zim k,Zd1]
def Zxi{k:Nat}{d c:Dt}(h:c∈Ziu d):∀ e∈lvl k [c],e∈lvl (k + 1) [d]:=λe he=>by
 rw[Zim];have e1:[d].flatMap Ziu=Ziu d:=by simp
 rw[e1];obtain⟨a,b,z⟩:=List.append_of_mem h;rw[z,show a++c :: b=a++([c]++b)from rfl,Zdf,Zdf];exact Yz1 _ (Yu2 _ he)
def Z4f{k:Nat}{d c:Dt}(h:c∈Ziu d)(z:lvl (k + 1) [d]=[]):lvl k [c]=[]:=by
 cases hh:lvl k [c]with
 | nil=>rfl
 | cons e r =>
  have:=Zxi (k:=k) h e (by rw[hh];exact .head _);rw[z]at this;cases this
def Wf(d:Dt):Prop:=∀ k,∀ e∈lvl k [d],Z4n e=true
def Wf.kid{d c:Dt}(w:Wf d)(h:c∈Ziu d):Wf c:=λk e he=>w (k + 1) e (Zxi h e he)
theorem Wf.head{d:Dt}(w:Wf d):Z4n d=true:=w 0 d (by rw[Zb6];exact .head _)
def Zp7{ns:List Nam}{n:Nam}(nd:(ns.map (·.1)).Nodup)(h:n∈ns):Zyy ns n.1=some n.2.1:=by
 unfold Zyy
 induction ns with
 | nil=>cases h
 | cons m ms ih =>
  rw[Yz,Yt1]at nd;rw[Ys3]
  rcases Yt.mp h with e | h
  ·rw[e,Jb rfl];rfl
  ·have ne:¬ m.1=n.1:=λz=>nd.1 (by rw[z];exact Yh.mpr ⟨n,h,Y⟩);rw[Jc ne];exact ih nd.2 h
def Zyx{ns:List Nam}{x:Str}(h:x∉ns.map (·.1)):Zyy ns x=none:=by
 unfold Zyy;rw[List.find?_eq_none.mpr λn hn z=>h (Yh.mpr ⟨n,hn,Je z⟩)];rfl
def at0(v:V)(vs:LV):atI (v :: vs) 0=some v:=Zbl (j:=0) rfl
theorem Z2o(i:Int):∀ ws:LS,inV (.int i) (ws.map V.str)=false
 | []=>rfl
 | x :: r=>by
  show(eqV (.str x) (.int i) || inV (.int i) (r.map V.str))=false;rw[Z2o i r];rfl
def Zoc(C B D:Addr):Sp:=λvs H Q _=>∃(p k:Addr) (rows:RS) (ns:List Nam) (d:Dt) (v:V),vs=[.ref p,v]/\Zeh C B D H p k rows ns/\Za6 rows ns/\TmV H d v/\Z4n d=true/\∀ H',Zaj H H'->Q (.bl (Zhv ns d)) H'
def Ydg:Zah ["book","term"] ["book","term"] (Zad Zhd):=by nofun
def Zt2(F:Def K mg "has_name" Zhd ["book","term"] f fd)(T:Zy1 mg)(TD:Zjj K D)(TB:Znr K B)
  (MW:Zy5 K D fW fdW) (GW:⋯ 1 fW fdW ["self"] (Zmj C B D)) (MB:Zy7 K D fB fdB) (GB:⋯ 2 fB fdB ["self","word"] (Zmn C B D)) (MP:Znt K B fP fdP):⋯ 3 f fd ["book","term"] (Zoc C B D):=by
 have GP:⋯ 1 fP fdP ["self"] (Zh6 C B):=Zi7 MP.fn TB
 nomatch F.fn.ok Ydg
 ·obtain⟨p,k,rows,ns,d,v,rfl,_⟩:=h;rfl
 ·obtain⟨p,k,rows,ns,d,v,rfl,bk,gn,hv,hd,q⟩:=h;have hr1:Zci 1 _:=hr.mono (by decide)
  ac_nf
  refine'⟨_,(pS (Za0 (PW.pt (Zhz (Zcr (Zb1 (Zao Zis (by rfl) T.isi Yq3 (pC (pv 1) (pC (Zkm (v:=.ty "tuple") (by rfl) T.tuple Yu1 rfl) Zaa))))) (Zhz (Zcr (Zih (pv 1) (λ_=>rfl))) (Zgr (Zan (r:=rIn K true) Zjp (Za2 (r:=Zj0 K) Zch (pv 1) Zaf (λ_ _=>rfl)) (Zbv (pv 0) TD.cl MW.me GW hr1 MW.b .nil Zct) (by with_unfolding_all rfl)))))) (Zac (Zak Zge)) Zal)
   (Zac (Zak (Zc1 Zdk (Zao Zap (by rfl) T.len Yg1 (pC (pv 1) Zaa)) (Zax Zcb (Zbv (Zee (pv 0) TD.cl MB.me GB hr MB.b .nil Zct (pC (Za2 (r:=Zj0 K) Zch (pv 1) Zaf (λ_ _=>rfl)) Zaa)) TB.cl MP.me GP hr1 MP.b .nil Zct) Zaf) (Zar _))))),?_⟩
  exists Zau _ a _ _ _
  obtain⟨dx,bo,mo,o,bvs,mvs,h1,h2,h3,h4,h5,h6⟩:=bk.ex;cases hv with
  | int i=>exact⟨Z,_,_,_,Z,.int i,Y,Z,Ze5 (q _ (Zaj.refl _))⟩
  | str x hx=>exact⟨Z,_,_,_,Z,.str x,Y,Z,Ze5 (q _ (Zaj.refl _))⟩
  | @tup a vs ds ha ht =>
   refine⟨Z,_,_,_,Z,.tup ha,Y,Z,Zcg ⟨Z,_,.inr (.inl ⟨_,SqT.of ha,Y⟩),?_⟩⟩;cases ht with
   | nil=>exact Ze5 (q _ (Zaj.refl _))
   | @cons d0 ds v0 vs h0 ht =>
    refine Zcg ⟨Z,a,_,_,Z,Y,SqT.of ha,at0 _ _,Z,p,dx,Z,h1,Zo7 _ _ _,p,k,rows,ns,Y,bk,λlw hlw=>?_⟩;have s1:Zaj H (upd H lw (.lst ((ns.map (·.1)).map V.str))):=Zbg hlw;have hlw1:(upd H lw (.lst ((ns.map (·.1)).map V.str))) lw=some (.lst ((ns.map (·.1)).map V.str)):=uS;generalize upd H lw (.lst ((ns.map (·.1)).map V.str))=H1 at s1 hlw1;cases h0 with
    | int i =>
     refine⟨lw,Z,.inl (SqL.of hlw1),Y,Zg1 _,Z,?_⟩;rw[Z2o];exact Ze5 (q _ s1)
    | tup=>cases hd
    | str x hxo =>
     refine⟨lw,Z,.inl (SqL.of hlw1),Y,Zg1 _,Z,?_⟩;rw[Zje];by_cases hx:x∈ns.map (·.1)
     ·rw[Jb hx];obtain⟨n,hn,rfl⟩:=Yh.mp hx;refine Zcg ⟨Z,a,Z,.inr (SqT.of (s1 _ _ ha)),Z,p,dx,Z,s1 _ _ h1,Zpa _ _ _,Z,a,_,_,Z,Y,SqT.of (s1 _ _ ha),at0 _ _,p,k,rows,ns,n,Y,bk.mono s1,gn.nd,hn,λy bd=>?_⟩;obtain⟨dxb,tb,usb,hb1,_⟩:=bd.ex;refine⟨y,dxb,Z,hb1,Zi8 _ _ _,y,k,rows,n.2.1,Z,bd,_,Z,Y,Y,?_⟩;have q1:=q H1 s1;rw[Zja _ (Zp7 gn.nd hn)]at q1;have e:decide (V.int (((V.str n.1 :: vs).length:Nat):Int)=V.int ((n.2.1:Int) + 1))=decide (ds.length=n.2.1):=by
       rw[ht.length,Yv];exact Yw2.mpr ⟨λz=>by injection z with z;omega,λz=>by rw[z];rfl⟩
      show Q (.bl (decide (V.int (((V.str n.1 :: vs).length:Nat):Int)=V.int ((n.2.1:Int) + 1)))) H1;rw[e];exact q1
     ·rw[Jc hx];have q1:=q H1 s1;rw[Zl9 _ (Zyx hx)]at q1;exact Ze5 q1
def Zvm(C B D:Addr)(j:Nat):Sp:=λvs H Q _=>∃(p k:Addr) (rows:RS) (ns:List Nam) (d:Dt) (v:V) (m:Nat),vs=[.ref p,.int m,v]/\Zeh C B D H p k rows ns/\Za6 rows ns/\TmV H d v/\Wf d/\lvl j [d]=[]/\(∀ i,(lvl i [d]).length<=1000)/\∀ H',Zaj H H'->Q (.bl (Zi0 ns m j d)) H'
def Z7l{k:Nat}{d c:Dt}(h:c∈Ziu d)(z:(lvl (k + 1) [d]).length<=1000):(lvl k [c]).length<=1000:=by
 rw[Zim]at z;have e1:[d].flatMap Ziu=Ziu d:=by simp
 obtain⟨a,b,e⟩:=List.append_of_mem h;rw[e1,e,show a++c :: b=a++([c]++b)from rfl,Zdf,Zdf,Yc,Yc]at z;omega
def Zus{J:It}{vs:LV}{Ok:Hp->Prop}(R:Zqf J vs Ok){js:LN}{te:TE}{σ:St}{Q:VK}{H1:Hp}(hz:vs.length<=1000){ds:List Dt}(F:Dt->Bool)
  (hp:TmsV H1 ds vs) (hok:∀ H,Zaj H1 H->Ok H)
  (he:∀ d v H' (R:VK),Zaj H1 H'->d∈ds->TmV H1 d v->(∀ H'',Zaj H' H''->R (.bl (F d)) H'')->te (some v :: js.map λj=>(σ[j]?).join) H' R)
  (hd:∀ D H',H1 D=none->Zaj H1 H'->H' D=some (.lst ((ds.map F).map V.bl))->Q (.ref D) H'):compBody 1 js (Zgy 0) Ztn te σ Q J H1:=by
 have vl:=hp.length;let Iv1:Addr->Nat->LV->St->Hp->Prop:=λD i ys σ' H=>H1 D=none/\Zaj H1 H/\H D=some (.lst ys)/\ys=((ds.take i).map F).map V.bl/\∃ o,σ'=o :: js.map λj=>(σ[j]?).join;refine Zcc R (sL (by omega)) Iv1 ?_ ?_ ?_ ?_
 ·intro D hD;exact⟨hD,Zbg hD,uS,by rw[Yj2];rfl,none,Y⟩
 ·rintro D i ys σ' H hi ⟨hD,hs,hl,q,_⟩;refine⟨hok H hs,?_⟩;rw[q,Ya,Ya,Yk1];omega
 ·rintro D i v ys σ' H hD hx ⟨_,hs,hl,q,o,rfl⟩;obtain⟨d,hdi,hv⟩:=hp.at_ hx;refine he d v H _ hs (Yf hdi) hv λH4 s4=>?_;have hD4:=s4 _ _ hl;refine⟨hD4,hD,λb o e=>by rw[Zab (nNo e hD)];exact s4 _ _ (hs _ _ e),uS,?_,Z⟩;rw[Ym1,hdi,q,Yr,Yr];rfl
 ·rintro D ys σ' H hD ⟨_,hs,hl,q,_⟩;rw[<- vl,Yp1]at q;exact hd D H hD hs (by rw[hl,q])
def Z7b:(["part","book","length"]:LS).Nodup:=by rfl'
abbrev nIS:LS:=["book","length","term"]
def Ybu:Zah nIS nIS (Zad Zfu):=by nofun
theorem Zsl(F:Def K mg "is_sound" Zfu nIS f fd)(T:Zy1 mg)(all:mg "all"=none)
  (DN:Def K mg "is_number" Zdp ["thing"] fN fdN) (DH:Def K mg "has_name" Zhd ["book","term"] fH fdH) (GH:⋯ 3 fH fdH ["book","term"] (Zoc C B D)):
  ∀ j,⋯ (4 + j) f fd nIS (Zvm C B D j)
 | 0=>by
  nomatch F.fn.ok Ybu
  ·obtain⟨p,k,rows,ns,d,v,m,rfl,_⟩:=h;rfl
  ·obtain⟨p,k,rows,ns,d,v,m,rfl,_,_,_,_,z,_⟩:=h;rw[Zb6]at z;cases z
 | j + 1=>by
  have GS:=Zsl F T all DN DH GH j;have GN:⋯ 1 fN fdN ["thing"] Zmo:=Zmw DN T
  nomatch F.fn.ok Ybu
  ·obtain⟨p,k,rows,ns,d,v,m,rfl,_⟩:=h;rfl
  ·obtain⟨p,k,rows,ns,d,v,m,rfl,bk,gn,hv,wf,z,lz,q⟩:=h;have hr1:Zci 1 _:=hr.mono (show 1<=4 + j by omega);have hr3:Zci 3 _:=hr.mono (show 3<=4 + j by omega);refine'⟨_,(pS (Za0 (Zb1 (Zae DN GN hr1 (pC (pv 2) Zaa))) (Zac (Zak (Zz0 Zjt Zos Zaf (pv 2) (pv 1)))) Zal)
   (Zac (Zak (Zgt (Zae DH GH hr3 (pC (pv 0) (pC (pv 2) Zaa))) (Zgs (Zao (r:=Z8d K λbs=>bs.all id) (Zit rfl) (by rfl) all Yp4 (pC ?eC Zaa))))))),?_⟩
   case eC=>exact(Zbk ["part"] ["book","length"] [0,1] (λ_=>Zaw (osc:=Zad Zfu) (on:=nIS) (by rfl') rfl rfl rfl) (Zgi (Zbs (r:=Z3k K) Zkc (pv 2) (Zbt Zaf) Zdj)) (λC s H fp=>Zai (i:=0) Z7b rfl (Or.inl rfl) (Or.inr rfl)) (λC s H fp=>Zbj) (λC s H fp=>Zae F GS hr (pC (pv 1) (pC (pv 2) (pC (pv 0) Zaa)))))
   have hz:∀ c∈Ziu d,lvl j [c]=[]:=λc hc=>Z4f hc z;cases hv with
   | int i =>
    refine⟨Z,.int i,Z,.int i,Z,Ze5 ?_⟩;refine⟨Z,_,Z,Y,Z,?_⟩;have q1:Q (.bl (decide (0<=i)&&decide (i<(m:Int)))) H:=q H (Zaj.refl _);by_cases h0:(0:Int)<=i
    ·rw[Jb h0]at q1 ⊢;exact Ze5 ⟨Z,_,Z,Y,q1⟩
    ·rw[Jc h0]at q1 ⊢;exact Zcg q1
   | str x hx =>
    refine⟨Z,.str x,Z,.str x hx,Z,Zcg ?_⟩;refine⟨Z,Z,p,k,rows,ns,.str x,Z,bk,gn,.str x hx,Y,λH1 s1=>⟨Z,Zcg (q H1 s1)⟩⟩
   | @tup a vs ds ha ht =>
    refine⟨Z,.tuple ds,Z,.tup ha ht,Z,Zcg ?_⟩;refine⟨Z,Z,p,k,rows,ns,.tuple ds,Z,bk,gn,.tup ha ht,wf.head,λH1 s1=>⟨Z,?_⟩⟩;have eq:Zi0 ns m (j + 1) (.tuple ds)=(Zhv ns (.tuple ds)&&(ds.drop 1).all (Zi0 ns m j)):=rfl;rw[eq]at q;cases hn:Zhv ns (.tuple ds)with
    | false =>
     rw[hn]at q;exact Zcg (q H1 s1)
    | true =>
     rw[hn,Yi2]at q;refine Ze5 ⟨Z,Z,?_⟩;unfold Zhx;refine Zki (K:=K) (lo:=some 1) (hi:=none) (s1 _ _ ha) λb H2 s12 hb=>?_;rw[Z5p]at hb;have s2:=s1.trans s12;have kd:TmsV H2 (ds.drop 1) (vs.drop 1):=(ht.keep (Zco s2)).drop 1;have kl:=kd.length;have l1:=lz 1;have e1:lvl 1 [(.tuple ds:Dt)]=ds.drop 1:=by rw[Zim,Zb6];simp[Ziu]
     rw[e1]at l1;refine⟨b,Y,⟨_,SqT.of hb⟩,Zus (Zc9 (xs:=vs.drop 1)) (by omega) (Zi0 ns m j) kd (λH' s=>SqT.of (s _ _ hb)) ?_ λlb H3 hlb s23 hlb3=>?_⟩
     ·intro c v H' R s' hc hv hR;have hc:c∈Ziu (.tuple ds):=hc;have s02:=s2.trans s';exact⟨Z,Z,Z,p,k,rows,ns,c,v,m,Y,bk.mono s02,gn,hv.keep (Zco s'),wf.kid hc,hz c hc,λi=>Z7l hc (lz (i + 1)),hR⟩
     ·refine⟨lb,Z,SqL.of hlb3,?_⟩;have q3:=q H3 (s2.trans s23);show Q (.bl (((ds.drop 1).map (Zi0 ns m j)).all id)) H3;rw[List.all_map];exact q3
def Zn4(ns:List Nam)(m:Nat)(d:Dt):Bool:=Zh7 d&&Zi0 ns m 12 d
def Zr5(K:Fg)(C:Addr):Sp:=λvs H Q _=>∃(p l:Addr) (rows:RS) (b:Bool) (xs:LS),vs=[.ref p,.ref l]/\Zbm C H p rows/\Zc4 rows/\SqB K b H l (xs.map V.str)/\xs.length<=12/\(∀ x∈xs,x∈rows.map (·.1))/\Q .non H
def Zr3(K:Fg)(C B D:Addr):Sp:=λvs H Q _=>∃(p k l:Addr) (rows:RS) (ns:List Nam) (b:Bool) (xs:LS) (d:Dt) (v:V),vs=[.ref p,.ref l,v]/\Zeh C B D H p k rows ns/\Zc4 rows/\Za6 rows ns/\SqB K b H l (xs.map V.str)/\xs.length<=12/\(∀ x∈xs,x∈rows.map (·.1)) /\
 TmV H d v/\Wf d/\(∀ i,(lvl i [d]).length<=1000)/\∀ H',Zaj H H'->Q (.bl (Zn4 ns xs.length d)) H'
def Zvz{d:Dt}(h:Zh7 d=true):lvl 12 [d]=[]:=by
 unfold Zh7 at h;rw[Yl1]at h;exact List.isEmpty_iff.mp h.1
abbrev nCF:LS:=["kinds","filling","word"]
def Yb4:Zah nCF ["kinds","filling"] (Zad Zdi):=by nofun
def Zw6{T1:Tok}(F:Def K mg "check_filling" Zdi ["kinds","filling"] f fd)(T:Zy1 mg)(TC:Zqd K C)(c1:mg "MOST_THINGS"=some (.int 12 T1))
  (MC:Zqb K C "check" "Kinds.check" Zcy ["self","word"] fC fdC) (GC:⋯ 2 fC fdC ["self","word"] (Zqm C)):⋯ 3 f fd ["kinds","filling"] (Zr5 K C):=by
 nomatch F.fn.ok Yb4
 ·obtain⟨p,l,rows,b,xs,rfl,_⟩:=h;rfl
 ·obtain⟨p,l,rows,b,xs,rfl,kd,g,hS,hl,hx,q⟩:=h;have nd:=Yb4.nd
  ac_nf
  refine'⟨_,(pS (Za0 (Zan Zkt (Zao Zap (by rfl) T.len Yg1 (pC (pv 1) Zaa)) (Zdw (v:=.int 12) (by rfl) c1 ⟨Z⟩) (Zar _)) Zay Zal)
   (Zac (Zbh Yw rfl (Zl1 (pv 1)) (gE 2 nd) (Zac (Za4 (Zee (pv 0) TC.cl MC.me GC hr MC.b .nil Zct (pC (pv 2) Zaa))))))),?_⟩
  exists let b:=Zh3 _ _ a;Zau _ b _ _ _
  obtain⟨dx,d,a,o,oa,kvs,avs,h1,_⟩:=kd.ex;have hq:SqL K H l (xs.map V.str)\/SqT K H l (xs.map V.str):=by
   cases b with
   | true=>exact .inl hS
   | false=>exact .inr hS
  refine⟨Z,l,Z,hq,_,Z,Y,Z,?_⟩;rw[Ya,Jc (by omega)];let Iv1:NW:=λi σ H'=>∃ x,σ=[some (.ref p),some (.ref l),x]/\H'=H;refine Zcg ⟨Z,b,l,Z,hS,Za1 Zhf Iv1 ⟨none,Y,Y⟩ (λi σ H' _ ⟨_,_,e⟩=>by rw[e];exact hS) ?_ ?_⟩
  ·rintro i v σ H' hi ⟨x,rfl,e⟩;have e2:=e.symm;subst e2;rw[Yj]at hi;obtain⟨y,hy,rfl⟩:=Yf1.mp hi;exact⟨Z,p,dx,Z,h1,Zm1 _ _,Z,p,rows,y,Y,kd,g,hx y (Yf hy),Z,Y⟩
  ·rintro σ H' ⟨x,rfl,e⟩;rw[e];exact q
def Ydc:Zah ["book","filling","term"] ["book","filling","term"] (Zad Zic):=by nofun
def Zw1(F:Def K mg "is_term" Zic ["book","filling","term"] f fd)(T:Zy1 mg)(TD:Zjj K D)
  (MK:Zrn K D fK fdK) (DF:Def K mg "check_filling" Zdi ["kinds","filling"] fF fdF) (GF:⋯ 3 fF fdF ["kinds","filling"] (Zr5 K C))
  (DS:Def K mg "is_small" Zfv ["term"] fS fdS) (GS:⋯ 2 fS fdS ["term"] Zql) (DO:Def K mg "is_sound" Zfu nIS fO fdO) (GO:⋯ 16 fO fdO nIS (Zvm C B D 12)):⋯ 17 f fd ["book","filling","term"] (Zr3 K C B D):=by
 have GK:⋯ 1 fK fdK ["self"] (Zjy C B D):=Zkw MK.fn TD
 nomatch F.fn.ok Ydc
 ·obtain⟨p,k,l,rows,ns,b,xs,d,v,rfl,_⟩:=h;rfl
 ·obtain⟨p,k,l,rows,ns,b,xs,d,v,rfl,bk,g,gn,hS,hl,hx,hv,wf,lz,q⟩:=h;have hr1:Zci 1 _:=hr.mono (by decide);have hr2:Zci 2 _:=hr.mono (by decide);have hr3:Zci 3 _:=hr.mono (by decide)
  ac_nf
  refine'⟨_,(pS (Za4 (Zae DF GF hr3 (pC (Zbv (pv 0) TD.cl MK.me GK hr1 MK.b .nil Zct) (pC (pv 1) Zaa))))
   (Zac (Zak (Zgt (Zae DS GS hr2 (pC (pv 2) Zaa)) (Zgs (Zae DO GO hr (pC (pv 0) (pC (Zao Zap (by rfl) T.len Yg1 (pC (pv 1) Zaa)) (pC (pv 2) Zaa))))))))),?_⟩
  exists Zau _ a _ _ _
  obtain⟨dx,bo,mo,o,bvs,mvs,h1,h2,h3,h4,h5,h6⟩:=bk.ex;refine⟨Z,p,dx,Z,h1,Zkz _ _ _,p,k,rows,ns,Y,bk,Z,k,l,rows,b,xs,Y,h2,g,hS,hl,hx,?_⟩;refine⟨Z,d,v,Y,hv,lz,λH1 s1=>⟨Z,?_⟩⟩;have hS1:=hS.mono s1;have hq:SqL K H1 l (xs.map V.str)\/SqT K H1 l (xs.map V.str):=by
   cases b with
   | true=>exact .inl hS1
   | false=>exact .inr hS1
  unfold Zn4 at q;cases hs:Zh7 d with
  | false =>
   rw[hs]at q;exact Zcg (q H1 s1)
  | true =>
   rw[hs,Yi2]at q;refine Ze5 ⟨Z,Z,l,Z,hq,Z,p,k,rows,ns,d,v,xs.length,by rw[Ya];rfl,bk.mono s1,gn,hv.keep (Zco s1),wf,Zvz hs,lz,λH2 s2=>q H2 (s1.trans s2)⟩
def Zvp(rows:RS):Sp:=λvs H Q _=>∃(ln:Addr) (ns:List Nam) (us:LV),vs=[.ref ln]/\H ln=some (.lst us)/\Ze4 H ns us/\Za6 rows ns/\∀(l:Addr) (ws:LS) (H':Hp),H l=none->Zaj H H'->H' l=some (.lst (ws.map V.str))->(∀ x∈ws,x∈rows.map (·.1))->ws.length<=2048->Q (.ref l) H'
abbrev Ydx:LS:=["names","found","word","places","pairs","deed","made"]
def Z6e:Zah Ydx ["names"] (Zad Zcx):=by nofun
def Z0c(rows:RS)(F:Def K mg "_law_near_words" Zcx ["names"] f fd)(list:mg "list"=none):⋯ 1 f fd ["names"] (Zvp rows):=by
 nomatch F.fn.ok Z6e
 ·obtain⟨ln,ns,us,rfl,_⟩:=h;rfl
 ·obtain⟨ln,ns,us,rfl,hln,hN,gn,q⟩:=h;have nd:=Z6e.nd
  ac_nf
  refine'⟨_,(pS (sE 1 nd (Zbd Zaa))
   (pS (Zbh Yw rfl (Zbr (pv 0)) (Zeg rfl (gC (gE 2 nd) (gC (gE 3 nd) (gC (gE 4 nd) Zc0))))
    (Zac (Zbh Yw rfl (Zgi (pv 4)) (Zeg rfl (gC (gE 5 nd) (gC (gE 6 nd) Zc0)))
     (Zac (Za4 (Zdg Ye1 Ye6 Yf6 Zpd (pv 1) (pC (Za5 Zeb (by rfl) list Yp2 (pC (pv 5) Zaa)) Zaa)))))))
   (Zac (Zak (pv 1))))),?_⟩
  exists let b:=_;let c:=Zh3 _ _ b;let e:=Zau (Zh3 _ _ c) a;Zau _ e _ _ _
  refine⟨Yj1 _,λl hl=>?_⟩;have s1:Zaj H (upd H l (.lst [])):=Zbg hl;have few:=gn.few;have nl:=Yy hN;have lnl:ln≠l:=nNo hln hl;let Iv1:NW:=λi σ H'=>∃(x2 x3 x4 x5 x6:OV) (ws:LS),σ=[some (.ref ln),some (.ref l),x2,x3,x4,x5,x6]/\Zaj H H'/\H' l=some (.lst (ws.map V.str))/\(∀ x∈ws,x∈rows.map (·.1))/\ws.length<=256 * i;refine⟨Z,ln,Y,⟨_,SqL.of (s1 _ _ hln)⟩,Za1 (Za8 (xs:=us)) Iv1
   ⟨none,none,none,none,none,[],Y,s1,uS,(λ_ h=>nomatch h),Yj1 _⟩ (λi σ H' _ h0=>by obtain⟨_,_,_,_,_,_,_,s,_⟩:=h0;exact SqL.of (s _ _ hln)) ?_ ?_⟩
  ·rintro i v σ H2 hi ⟨x2,x3,x4,x5,x6,ws,rfl,s2,hl2,hw2,wl2⟩;obtain⟨n,hn,t,tp,ps,rfl,ht,htp,hD⟩:=Zaz hN hi;have gnn:=gn.each n (Yf hn);have i8:i<8:=by have:=(Yi.mp hi).1;omega
   have n4:=gnn.four;have pl:=Yy hD;have dl:=gnn.deeds.few;rw[Ya]at dl;refine⟨t,Z,SqT.of (s2 _ _ ht),Y,_,Z,_,Z,_,Z,Y,?_⟩;let Iv2:NW:=λj σ H'=>∃(y5 y6:OV) (ws:LS),σ=[some (.ref ln),some (.ref l),some (.str n.1),some (.int n.2.1),some (.ref tp),y5,y6]/\Zaj H H'/\H' l=some (.lst (ws.map V.str))/\(∀ x∈ws,x∈rows.map (·.1))/\ws.length<=256 * i + 4 * j;refine⟨Z,tp,Y,⟨_,SqT.of (s2 _ _ htp)⟩,Za1 (Zc9 (xs:=ps)) Iv2
    ⟨x5,x6,ws,Y,s2,hl2,hw2,W⟩ (λj σ H' _ h0=>by obtain⟨_,_,_,_,s,_⟩:=h0;exact SqT.of (s _ _ htp)) ?_ ?_⟩
   ·rintro j v σ H3 hj ⟨y5,y6,ws,rfl,s3,hl3,hw3,wl3⟩;obtain⟨x,hx,t',tc,rfl,ht',htc⟩:=Zaz hD hj;have j64:j<64:=by have:=(Yi.mp hj).1;omega
    have gc:=gnn.deeds.call x.1 (Yh.mpr ⟨x,Yf hx,Y⟩);have cl:=gc.len;refine⟨t',Z,SqT.of (s3 _ _ ht'),Y,_,Z,_,Z,Y,?_⟩;refine⟨Z,.inl ⟨Y,_,SqL.of hl3⟩,Z,tc,Z,.inr (SqT.of (s3 _ _ htc)),λlc hlc=>?_⟩;have s34:Zaj H3 (upd H3 lc (.lst (x.1.map V.str))):=Zbg hlc;have hlc4:(upd H3 lc (.lst (x.1.map V.str))) lc=some (.lst (x.1.map V.str)):=uS;generalize upd H3 lc (.lst (x.1.map V.str))=H4 at s34 hlc4;refine⟨l,lc,_,Z,Y,s34 _ _ hl3,hlc4,sL (by rw[Ya,Ya];omega),_,_,ws++x.1,Y,λb o e=>by rw[Zab (nNo e hl)];exact s34 _ _ (s3 _ _ e),by rw[uS,Yr],λy hy=>(Yl.mp hy).elim (hw3 y) (gc.known y),by rw[Yc];omega⟩
   ·rintro σ H3 ⟨y5,y6,ws,rfl,s3,hl3,hw3,wl3⟩;exact⟨_,_,_,_,_,ws,Y,s3,hl3,hw3,W⟩
  ·rintro σ H2 ⟨x2,x3,x4,x5,x6,ws,rfl,s2,hl2,hw2,wl2⟩;exact⟨Z,q l ws H2 hl s2 hl2 hw2 (by omega)⟩
def Zyv{zs:LS}{v:Int}(h0:0<=v)(h1:v<(zs.length:Nat)):∃ x∈zs,atI (zs.map V.str) v=some (V.str x):=by
 obtain⟨j,rfl⟩:=Int.eq_ofNat_of_zero_le h0;have hj:j<zs.length:=by omega
 refine⟨zs[j],Yw3 hj,Zbl ?_⟩;rw[Yj,Yb hj];rfl
def Z2b:Sp:=λvs H Q _=>∃(p l ln:Addr) (mo:Nat) (rows:RS) (ns:List Nam) (us:LV),vs=[.ref p,.ref l,.ref ln,.int mo]/\(∃ o,H p=some o/\Zj4 o)/\Ze3 H l rows/\Zc4 rows/\H ln=some (.lst us)/\Ze4 H ns us/\Za6 rows ns/\1<=mo/\mo<=12 /\
 ∀(lf:Addr) (xs:LS) (H':Hp),H lf=none->Drawn p H H'->H' lf=some (.lst (xs.map V.str))->(∀ x∈xs,x∈rows.map (·.1))->1<=xs.length->xs.length<=mo->Q (.ref lf) H'
abbrev Ycc:LS:=["pot","rows","names","most","words","near","filling","k"]
abbrev pFi:LS:=["pot","rows","names","most"]
def Z6h:Zah Ycc pFi (Zad Zc6):=by nofun
set_option maxHeartbeats 8000000 in
def Z33(F:Def K mg "_law_filling" Zc6 pFi f fd)(T:Z5c mg)(list:mg "list"=none)(DT:Def K mg "_law_take" Zbb ["pot","many"] fT fdT)(GT:⋯ 1 fT fdT ["pot","many"] Zgo)
  (DN:Def K mg "_law_near_words" Zcx ["names"] fN fdN):⋯ 2 f fd pFi Z2b:=by
 nomatch F.fn.ok Z6h
 ·obtain⟨p,l,ln,mo,rows,ns,us,rfl,_⟩:=h;rfl
 ·obtain⟨p,l,ln,mo,rows,ns,us,rfl,⟨o,hp,ho⟩,hR,g,hln,hN,gn,m1,m12,q⟩:=h;have nd:=Z6h.nd;have hu:=hr.units;have GN:⋯ 1 fN fdN ["names"] (Zvp rows):=Z0c rows DN list
  ac_nf
  refine'⟨_,(pS ?eW
   (pS (sE 5 nd (Zae DN GN hr (pC (pv 2) Zaa)))
   (pS (sE 6 nd (Zbd Zaa))
   (pS (Zbh Yw rfl (Zca (by rfl) T.range (pC (Zax Zcb Zaf (Zae DT GT hr (pC (pv 0) (pC (pv 3) Zaa)))) Zaa)) (gE 7 nd)
    (Zac (Za0 (PW.pt (Zl0 (Zan (Zkr hu) (pv 5) (Zbd Zaa) (Zar _)) (Zi4 (Zan Zkt (Zae DT GT hr (pC (pv 0) (pC Zaf Zaa))) Zaf (Zar _)))))
     (Zac (Za4 (Zdg Ye1 Yn1 Yo1 Zbc (pv 6) (pC (Za2 (r:=Zhs K) Zat (pv 5) (Zae DT GT hr (pC (pv 0) (pC (Zao Zap (by rfl) T.len Yg1 (pC (pv 5) Zaa)) Zaa))) (λ_ _=>rfl)) Zaa))))
     (Zac (Za4 (Zdg Ye1 Yn1 Yo1 Zbc (pv 6) (pC (Za2 (r:=Zhs K) Zat (pv 4) (Zae DT GT hr (pC (pv 0) (pC (Zao Zap (by rfl) T.len Yg1 (pC (pv 4) Zaa)) Zaa))) (λ_ _=>rfl)) Zaa)))))))
   (Zac (Zak (pv 6))))))),?_⟩
  case eW=>exact(Zeu (k:=4) ["row"] [] [] nd rfl rfl (λ_=>Zaw (osc:=Zad Zc6) (on:=Ycc) (by rfl') rfl rfl rfl) (Zbr (pv 1)) (λC s H fp=>Zai (i:=0) Zq0 rfl (Or.inl rfl) (Or.inr rfl)) (λC s H fp=>Zbj) (λC s H fp=>Za2 (r:=Zj0 K) Zch (pv 0) Zaf (λ_ _=>rfl)))
  exists let b:=_;let c:=_;let e:=Zlg _ b c;let f:=Zau (Zh3 _ _ e) a;let g:=Zau _ f;let h:=Zau _ g;Zau _ h _ _ _
  obtain⟨vs0,hvs0,hpr0⟩:=id hR;have gle:=g.le;have gne:=g.ne;have vl0:=Yy hpr0;refine⟨Z,l,Y,⟨_,SqL.of hvs0⟩,Ziw hR (by omega) (λt u x H' R ht hRx=>⟨Z,t,_,_,Z,Y,SqT.of ht,Y,hRx⟩) λlw H1 hlw s1 hw=>?_⟩;refine⟨Z,ln,ns,us,Y,s1 _ _ hln,hN.mono (Zco s1),gn,λlN ws H2 hlN s12 hN2 kw wl=>?_⟩;refine⟨Yj1 _,λlf hlf=>?_⟩;have s2:=s1.trans s12;have s23:Zaj H2 (upd H2 lf (.lst [])):=Zbg hlf;have hf3:(upd H2 lf (.lst [])) lf=some (.lst (([]:LS).map V.str)):=uS;generalize upd H2 lf (.lst [])=H3 at s23 hf3;have s3:=s2.trans s23;have hp3:=s3 _ _ hp;have hw3:=s23 _ _ (s12 _ _ hw);have hN3:=s23 _ _ hN2;have lfH:H lf=none:=s2.free hlf;have lwp:lw≠p:=Yu (Zij hp3 ho hw3);have lNp:lN≠p:=Yu (Zij hp3 ho hN3);have lfp:lf≠p:=Yu (Zij hp3 ho hf3);have lfw:lw≠lf:=nNo (s12 _ _ hw) hlf;have lfN:lN≠lf:=nNo hN2 hlf;have wne:rows.map (·.1)≠[]:=λz=>by
   have z2:=congrArg List.length z;rw[Ya,List.length_nil]at z2;omega
  have Z5k:(rows.map (·.1)).length<=24:=by rw[Ya];exact gle
  refine⟨Z,Z,p,(mo:Int),o,Y,hp3,ho,W,W,λv0 o4 hv0 hv1 ho4=>⟨_,Z,Y,1 + v0,Y,W,W,?_⟩⟩;have d4:Drawn p H (upd H3 p o4):=((Drawn.refl ⟨o,hp,ho⟩).same s3).trans (Drawn.upd ho4);have u4:∀ b u,b≠p->H3 b=some u->(upd H3 p o4) b=some u:=λb u hb e=>by rw[Zab hb];exact e
  generalize upd H3 p o4=H4 at d4 u4;let Iv1:NW:=λi σ H'=>∃(x:OV) (xs:LS),σ=[some (.ref p),some (.ref l),some (.ref ln),some (.int mo),some (.ref lw),some (.ref lN),some (.ref lf),x]/\Drawn p H H'/\H' lw=some (.lst ((rows.map (·.1)).map V.str))/\H' lN=some (.lst (ws.map V.str))/\H' lf=some (.lst (xs.map V.str))/\(∀ x∈xs,x∈rows.map (·.1))/\xs.length=i;refine Za1 Zbq Iv1
   ⟨none,[],Y,d4,u4 _ _ lwp hw3,u4 _ _ lNp hN3,u4 _ _ lfp hf3,(λ_ h=>nomatch h),Y⟩ (λ_ _ _ _ _=>trivial) ?_ ?_
  ·rintro i v' σ H5 hi ⟨x7,xs,rfl,d5,hw5,hN5,hf5,kx,xl⟩;obtain⟨hi,rfl⟩:=Za7 hi;have i12:i<13:=by omega
   refine⟨Z,Yj1 _,λt2 ht2=>⟨.list (ws.map W.Dat.str),.list [],.list (SqL.of (by rw[Zab (nNo hN5 ht2)];exact hN5)) (Zd6 ws),.list (SqL.of uS) .nil,Zo3 (λx hx=>Zbi g x (kw x hx)),Y,Z,?_⟩⟩;have s56:Zaj H5 (upd H5 t2 (.lst [])):=Zbg ht2;generalize upd H5 t2 (.lst [])=H6 at s56;have d6:=d5.same s56;have hw6:=s56 _ _ hw5;have hN6:=s56 _ _ hN5;have hf6:=s56 _ _ hf5;obtain⟨o6,hp6,ho6⟩:=id d6.pot;refine Ze1 (λz=>?_) (λz=>?_)
   ·have hz:ws≠[]:=(Zi9 ws).mp z;refine⟨Z,p,4,o6,Y,hp6,ho6,V,V,λv7 o7 _ _ ho7=>⟨_,Z,Y,Z,?_⟩⟩;have d7:Drawn p H (upd H6 p o7):=d6.trans (Drawn.upd ho7);have u7:∀ b u,b≠p->H6 b=some u->(upd H6 p o7) b=some u:=λb u hb e=>by rw[Zab hb];exact e
    have hp7:(upd H6 p o7) p=some o7:=uS;generalize upd H6 p o7=H7 at d7 u7 hp7;have hw7:=u7 _ _ lwp hw6;have hN7:=u7 _ _ lNp hN6;have hf7:=u7 _ _ lfp hf6;refine Ze1 (λ_=>?_) (λ_=>?_)
    ·refine⟨Z,.inl ⟨Y,_,SqL.of hf7⟩,Z,Z,Z,lN,Z,.inl (SqL.of hN7),p,_,Z,hp7,ho7,by rw[Ya];have:=Yk2.mpr hz;omega,by rw[Ya];have:=wl;omega,λv o9 hv0 hv1 ho9=>?_⟩;obtain⟨x,hx,at9⟩:=Zyv (zs:=ws) hv0 (by rw[Ya]at hv1;exact hv1);have d9:Drawn p H (upd H7 p o9):=d7.trans (Drawn.upd ho9);have u9:∀ b u,b≠p->H7 b=some u->(upd H7 p o9) b=some u:=λb u hb e=>by rw[Zab hb];exact e
     generalize upd H7 p o9=H9 at d9 u9;refine⟨lN,_,_,Z,Y,SqL.of (u9 _ _ lNp hN7),at9,lf,_,Z,Y,u9 _ _ lfp hf7,Zav (by rw[Ya];omega),_,xs++[x],Y,d9.sub (o':=.lst []) (q:=lf) (λb u hb e=>by rw[Zab hb];exact e) lfH (Yu lfp),by rw[Zab lfw];exact u9 _ _ lwp hw7,by rw[Zab lfN];exact u9 _ _ lNp hN7,by rw[uS,Yr];rfl,λy hy=>(Yl.mp hy).elim (kx y) λz=>by rw[Ye.mp z];exact(kw x hx),by rw[Yc,Yr1];omega⟩
    ·refine⟨Z,.inl ⟨Y,_,SqL.of hf7⟩,Z,Z,Z,lw,Z,.inl (SqL.of hw7),p,_,Z,hp7,ho7,by rw[Ya];have:=Yk2.mpr wne;omega,by rw[Ya];have:=Z5k;omega,λv o9 hv0 hv1 ho9=>?_⟩;obtain⟨x,hx,at9⟩:=Zyv (zs:=(rows.map (·.1))) hv0 (by rw[Ya]at hv1;exact hv1);have d9:Drawn p H (upd H7 p o9):=d7.trans (Drawn.upd ho9);have u9:∀ b u,b≠p->H7 b=some u->(upd H7 p o9) b=some u:=λb u hb e=>by rw[Zab hb];exact e
     generalize upd H7 p o9=H9 at d9 u9;refine⟨lw,_,_,Z,Y,SqL.of (u9 _ _ lwp hw7),at9,lf,_,Z,Y,u9 _ _ lfp hf7,Zav (by rw[Ya];omega),_,xs++[x],Y,d9.sub (o':=.lst []) (q:=lf) (λb u hb e=>by rw[Zab hb];exact e) lfH (Yu lfp),by rw[Zab lfw];exact u9 _ _ lwp hw7,by rw[Zab lfN];exact u9 _ _ lNp hN7,by rw[uS,Yr];rfl,λy hy=>(Yl.mp hy).elim (kx y) λz=>by rw[Ye.mp z];exact hx,by rw[Yc,Yr1];omega⟩
   ·refine⟨Z,.inl ⟨Y,_,SqL.of hf6⟩,Z,Z,Z,lw,Z,.inl (SqL.of hw6),p,_,Z,hp6,ho6,by rw[Ya];have:=Yk2.mpr wne;omega,by rw[Ya];have:=Z5k;omega,λv o9 hv0 hv1 ho9=>?_⟩;obtain⟨x,hx,at9⟩:=Zyv (zs:=(rows.map (·.1))) hv0 (by rw[Ya]at hv1;exact hv1);have d9:Drawn p H (upd H6 p o9):=d6.trans (Drawn.upd ho9);have u9:∀ b u,b≠p->H6 b=some u->(upd H6 p o9) b=some u:=λb u hb e=>by rw[Zab hb];exact e
    generalize upd H6 p o9=H9 at d9 u9;refine⟨lw,_,_,Z,Y,SqL.of (u9 _ _ lwp hw6),at9,lf,_,Z,Y,u9 _ _ lfp hf6,Zav (by rw[Ya];omega),_,xs++[x],Y,d9.sub (o':=.lst []) (q:=lf) (λb u hb e=>by rw[Zab hb];exact e) lfH (Yu lfp),by rw[Zab lfw];exact u9 _ _ lwp hw6,by rw[Zab lfN];exact u9 _ _ lNp hN6,by rw[uS,Yr];rfl,λy hy=>(Yl.mp hy).elim (kx y) λz=>by rw[Ye.mp z];exact hx,by rw[Yc,Yr1];omega⟩
  ·rintro σ H5 ⟨x7,xs,rfl,d5,hw5,hN5,hf5,kx,xl⟩;have e:(Zdo 0 (1 + v0).toNat).length=(1 + v0).toNat:=Za3 ..;rw[e]at xl;exact⟨Z,q lf xs H5 lfH d5 hf5 kx (by omega) (by omega)⟩
def Zwt(p:LS×Str):Dt:=.tuple [Znu p.1,.str p.2]
def Zm7(n:Nam):Dt:=.tuple [.str n.1,.int n.2.1,.tuple (n.2.2.map Zwt)]
theorem Zly{K:Fg}{H:Hp}:∀ {ps:List (LS×Str)}{vs:LV},Zns H ps vs->Reps K H vs (ps.map Zwt)
 | _,_,.nil=>.nil
 | _,_,.cons ⟨t,tc,e,h1,h2⟩ r=>by
  subst e;exact .cons (.tuple (SqT.of h1) (.cons (Zif h2) (.cons (.str _) .nil))) (Zly r)
theorem Zhg{K:Fg}{H:Hp}:∀ {ns:List Nam}{vs:LV},Ze4 H ns vs->Reps K H vs (ns.map Zm7)
 | _,_,.nil=>.nil
 | _,_,.cons ⟨t,tp,vs,e,h1,h2,h3⟩ r=>by
  subst e;exact .cons (.tuple (SqT.of h1) (.cons (.str _) (.cons (.int _) (.cons (.tuple (SqT.of h2) (Zly h3)) .nil)))) (Zhg r)
def Z0b(n:Nat){p:LS×Str}(h:∀ x∈p.1,Zam x=true)(h2:Zam p.2=true):W.kqdOk (n + 2) (Zwt p)=true:=by
 unfold Zwt;rw[W.kqdOk];simp[Zkx n h,Zsk (n + 1) h2]
def Z0e(n:Nat){rows:RS}(g:Zc4 rows){m:Nam}(h:Zfs rows m):W.kqdOk (n + 4) (Zm7 m)=true:=by
 unfold Zm7;rw[W.kqdOk];have hp:W.kqdOk (n + 3) (.tuple (m.2.2.map Zwt))=true:=by
  rw[W.kqdOk,Yq1];intro z hz;obtain⟨p,hp,rfl⟩:=Yh.mp hz;exact Z0b n (λx hx=>Zbi g x ((h.deeds.call p.1 (Yh.mpr ⟨p,hp,Y⟩)).known x hx)) (Zbi g _ (h.made p hp))
 have hi:W.kqdOk (n + 3) (.int m.2.1)=true:=by rw[W.kqdOk]
 simp[Zsk (n + 3) h.word,hp,hi]
def Zox{rows:RS}(g:Zc4 rows){ns:List Nam}(h:∀ n∈ns,Zfs rows n):W.kqdOk 9 (.list (ns.map Zm7))=true:=by
 show(ns.map Zm7).all (W.kqdOk 8)=true;rw[Yq1];intro z hz;obtain⟨m,hm,rfl⟩:=Yh.mp hz;exact Z0e 4 g (h m hm)
def Zpr(ns:List Nam):dEq (.list (ns.map Zm7)) (.list [])=true↔ns=[]:=by
 cases ns with
 | nil=>simp[Zfp]
 | cons n r =>
  rw[Zni (by simp)];simp
theorem Zdb:∀(k:Nat) (a b:List Dt),Zfq k (a++b)=Zfq k a + Zfq k b
 | 0,a,b=>by rw[Zdm,Zdm,Zdm]
 | k + 1,a,b=>by rw[Zea,Zea,Zea,Zdb k,Zdf,Yc];omega
theorem Zjh:∀(k:Nat) (l:List Dt),Zfq (k + 1) l=l.length + Zfq k (l.flatMap Ziu)
 | 0,l=>by rw[Zea,Zdm,Zdm,Zb6];omega
 | k + 1,l=>by rw[Zea,Zjh k,Zea,Zim];omega
def Zxk(k:Nat)(l:List Dt):(lvl k l).length<=Zfq (k + 1) l:=by rw[Zea];omega
def drN:Dt->Bool
 | .int _=>true
 | .tuple (.str _ :: _ :: _)=>true
 | _=>false
def Dr(l:List Dt):Prop:=∀ k,∀ e∈lvl k l,drN e=true
def Dr.append{a b:List Dt}(h:Dr a)(g:Dr b):Dr (a++b):=λk e he=>by
 rw[Zdf]at he;exact(Yl.mp he).elim (h k e) (g k e)
def Dr.nil:Dr []:=λk e he=>by
 have:∀ k,lvl k []=[]:=λk=>by
  induction k with
  | zero=>rw[Zb6]
  | succ k ih=>rw[Zd1,ih];rfl
 rw[this]at he;cases he
def Zho(d:Dt):[d].flatMap Ziu=Ziu d:=by simp
theorem Dr.int(i:Int):Dr [.int i]
 | 0,e,he=>by rw[Zb6]at he;rw[Ye.mp he];rfl
 | k + 1,e,he=>by rw[Zim,Zho]at he;exact Dr.nil k e he
def Dr.tup{x:Str}{d:Dt}{ds:List Dt}(h:Dr (d :: ds)):Dr [.tuple (.str x :: d :: ds)]
 | 0,e,he=>by rw[Zb6]at he;rw[Ye.mp he];rfl
 | k + 1,e,he=>by rw[Zim,Zho]at he;exact h k e he
theorem Znl:∀ k,Zfq k []=0
 | 0=>Zdm _
 | k + 1=>by rw[Zjh];show 0 + Zfq k []=0;rw[Znl k]
def Z45(i:Int):∀ k,Zfq k [.int i]<=1
 | 0=>by rw[Zdm];omega
 | k + 1=>by rw[Zjh,Zho];show 1 + Zfq k []<=1;rw[Znl];exact Yg _
def Znk(h:Dt)(ds:List Dt):∀ k,Zfq (k + 1) [.tuple (h :: ds)]=1 + Zfq k ds:=λk=>by rw[Zjh,Zho];rfl
structure Yeg(p r:Addr)(H H':Hp)(ρ:Nat):Prop where
 keep:∀ b o,b≠p->b≠r->H b=some o->H' b=some o
 pot:∃ o,H' p=some o/\Zj4 o
 room:H' r=some (.lst [.int ρ])
def Z17(rows:RS)(j:Nat):Sp:=λvs H Q _=>∃(p ln r:Addr) (m ρ dp:Nat) (ns:List Nam) (us:LV),vs=[.ref p,.ref ln,.int m,.ref r,.int dp]/\1<=dp/\dp<=j/\(∃ o,H p=some o/\Zj4 o)/\H r=some (.lst [.int ρ])/\p≠r/\H ln=some (.lst us)/\Ze4 H ns us/\Za6 rows ns/\1<=m/\m<=12/\ρ<=100 /\
 ∀(v:V) (d:Dt) (ρ':Nat) (H':Hp),Yeg p r H H' ρ'->TmV H' d v->Dr [d]->(∀ k,Zfq k [d] + ρ'<=1 + ρ)->Zi0 ns m dp d=true->Q v H'
def Z3d{ns:List Nam}{m dp:Nat}{v:Int}(h:1<=dp)(h0:0<=v)(h1:v<(m:Int)):Zi0 ns m dp (.int v)=true:=by
 obtain⟨k,rfl⟩:∃ k,dp=k + 1:=⟨dp - 1,W⟩;show(decide (0<=v)&&decide (v<(m:Int)))=true;rw[Jb h0,Jb h1];rfl
def Z3c{ns:List Nam}{m dp:Nat}{n:Nam}{ds:List Dt}(h:2<=dp)(nd:(ns.map (·.1)).Nodup)(hn:n∈ns)(hl:ds.length=n.2.1)(hk:∀ c∈ds,Zi0 ns m (dp - 1) c=true):Zi0 ns m dp (.tuple (.str n.1 :: ds))=true:=by
 obtain⟨k,rfl⟩:∃ k,dp=k + 1:=⟨dp - 1,W⟩;show(Zhv ns (.tuple (.str n.1 :: ds))&&ds.all (Zi0 ns m k))=true;rw[Zja ds (Zp7 nd hn),Jb hl,Yi2,Yq1];exact hk
def Z7c:(["name","room"]:LS).Nodup:=by rfl'
abbrev nTm:LS:=["pot","names","many","room","deep","some","word","places","pairs"]
abbrev pTm:LS:=["pot","names","many","room","deep"]
abbrev cTm:LS:=["k","deep","many","names","pot","room"]
def Z7h:cTm.Nodup:=by rfl'
def Z85:Zah nTm pTm (Zad Zdt):=by nofun
set_option maxHeartbeats 8000000 in
def Z3y{rows:RS}(g:Zc4 rows)(F:Def K mg "_law_term" Zdt pTm f fd)(T:Z5c mg)(DT:Def K mg "_law_take" Zbb ["pot","many"] fT fdT)(GT:⋯ 1 fT fdT ["pot","many"] Zgo):
  ∀ j,⋯ (2 + j) f fd pTm (Z17 rows j):=by
 intro j
 induction j with
 | zero =>
  nomatch F.fn.ok Z85
  ·obtain⟨p,ln,r,m,ρ,dp,ns,us,rfl,_⟩:=h;rfl
  ·obtain⟨p,ln,r,m,ρ,dp,ns,us,rfl,h1,h2,_⟩:=h;omega
 | succ j GS =>
  nomatch F.fn.ok Z85
  ·obtain⟨p,ln,r,m,ρ,dp,ns,us,rfl,_⟩:=h;rfl
  ·obtain⟨p,ln,r,m,ρ,dp,ns,us,rfl,dp1,hdp,⟨o,hp,ho⟩,hr0,hpr,hln,hN,gn,m1,m12,hρ,q⟩:=h;have nd:=Z85.nd;have hu:=hr.units;have hr1:Zci 1 _:=hr.mono (show 1<=2 + j by omega)
   ac_nf
   refine'⟨_,(pS ?eS
   (pS (Za0 (PW.pt (Zhz (Zan (Z60 hu) (pv 5) (Zbd Zaa) (Zar _)) (Zhz (Zan Zos (pv 4) Zaf (Zar _)) (Zgr (Zan Zdk (Zae DT GT hr1 (pC (pv 0) (pC Zaf Zaa))) Zaf (Zar _)))))) (Zac (Zak (Zae DT GT hr1 (pC (pv 0) (pC (pv 2) Zaa))))) Zal)
   (pS (Zsf (Za2 (r:=Zhs K) Zat (pv 5) (Zae DT GT hr1 (pC (pv 0) (pC (Zao Zap (by rfl) T.len Yg1 (pC (pv 5) Zaa)) Zaa))) (λ_ _=>rfl)) (Zeg rfl (gC (gE 6 nd) (gC (gE 7 nd) (gC (gE 8 nd) Zc0)))))
   (pS (Zsf (Zax Zhu (Za2 (r:=Zhs K) Zat (pv 3) Zaf (λ_ _=>rfl)) (pv 7)) (Zwn (pv 3) Zaf Zmt))
   (Zac (Zak (Zax Zku (Zcs (pC (pv 6) Zaa)) (Za5 Za9 (by rfl) T.tuple Yu1 (pC ?eC Zaa))))))))),?_⟩
   case eS=>exact(Zeu (k:=5) ["name"] ["room"] [3] nd rfl rfl (λ_=>Zaw (osc:=Zad Zdt) (on:=nTm) (by rfl') rfl rfl rfl) (Zbr (pv 1)) (λC s H fp=>Zai (i:=0) Z7c rfl (Or.inl rfl) (Or.inr rfl)) (λC s H fp=>Zi5 (Zan Zjt (Za2 (r:=Zj0 K) Zch (pv 0) Zaf (λ_ _=>rfl)) (Za2 (r:=Zhs K) Zat (pv 1) Zaf (λ_ _=>rfl)) (Zar _))) (λC s H fp=>pv 0))
   case eC=>exact(Zbk ["k"] ["deep","many","names","pot","room"] [4,2,1,0,3] (λ_=>Zaw (osc:=Zad Zdt) (on:=nTm) (by rfl') rfl rfl rfl) (Zca (by rfl) T.range (pC (pv 7) Zaa)) (λC s H fp=>Zai (i:=0) Z7h rfl (Or.inl rfl) (Or.inr rfl)) (λC s H fp=>Zbj) (λC s H fp=>Zae F GS hr (pC (pv 4) (pC (pv 3) (pC (pv 2) (pC (pv 5) (pC (Zax Zhu (pv 1) Zaf) Zaa)))))))
   exists let b:=Zau _ a;let c:=Zau _ b;let e:=_;let f:=Zau (Zlg _ e _) c;Zau _ f _ _ _
   have few:=gn.few;have nl:=Yy hN;have fin:∀(HX:Hp) (oX:HO),(∀ b o,b≠p->b≠r->H b=some o->HX b=some o)->HX p=some oX->Zj4 oX->HX r=some (.lst [.int ρ])->∀(v:Int) (o':HO),0<=v->v<(m:Int)->Zj4 o'->Q (.int v) (upd HX p o'):=λHX oX kX _ _ rX v o' a0 a1 ho' =>
    q (.int v) (.int v) ρ _ ⟨λb u hb hb2 e=>by rw[Zab hb];exact kX b u hb hb2 e,⟨o',uS,ho'⟩,by rw[Zab (Yu hpr)];exact rX⟩ (.int v) (Dr.int v) (λk=>by have:=Z45 v k;omega) (Z3d dp1 a0 a1)
   let Iv1:Addr->Nat->LV->St->Hp->Prop:=λD i ys σ' H'=>H D=none/\Zaj H H'/\H' D=some (.lst ys)/\(∃ ns':List Nam,Ze4 H ns' ys/\(∀ n∈ns',n∈ns/\n.2.1<=ρ)/\ns'.length<=i)/\∃ x,σ'=[x,some (.ref r)];refine⟨Z,ln,Y,⟨_,SqL.of hln⟩,Zcc (Za8 (xs:=us)) (sL (by omega)) Iv1
    (λD hD=>⟨hD,Zbg hD,uS,⟨[],.nil,(λ_ h=>nomatch h),Yg _⟩,Z⟩) (λD i ys σ' H' hi h0=>by obtain⟨_,s,_,⟨ns',hN',_,hl'⟩,_⟩:=h0;exact⟨SqL.of (s _ _ hln),by have:=Yy hN';omega⟩) ?_ ?_⟩
   ·rintro D i v ys σ' H2 hD hi ⟨hDn,s2,hD2,⟨ns',hN',hm',hl'⟩,x,rfl⟩;obtain⟨n,hn,t,tp,ps,rfl,ht,htp,hP⟩:=Zaz hN hi;refine⟨Z,t,_,_,Z,Y,SqT.of (s2 _ _ ht),Y,Z,r,_,_,Z,Y,SqL.of (s2 _ _ hr0),Y,_,Z,Y,Z,Ze1 (λz=>?_) (λz=>?_)⟩
    ·have z:=Je z;refine⟨Z,hD2,hDn,λb u e=>by rw[Zab (nNo e hDn)];exact s2 _ _ e,uS,⟨ns'++[n],Yn2 hN' ⟨t,tp,ps,Y,ht,htp,hP⟩,λm hm=>?_,by rw[Yc,Yr1];omega⟩,Z⟩
     rcases Yl.mp hm with e | e
     ·exact hm' m e
     ·rw[Ye.mp e];exact⟨Yf hn,W⟩
    ·exact⟨hDn,s2,hD2,⟨ns',hN',hm',W⟩,Z⟩
   ·rintro ls ys σ' H2 hD ⟨lsn,s2,hl2,⟨ns',hN',hm',hl'⟩,_⟩;have yl:=Yy hN';refine⟨Z,Yj1 _,λt2 ht2=>⟨.list (ns'.map Zm7),.list [],.list (SqL.of (by rw[Zab (nNo hl2 ht2)];exact hl2)) (Zhg (hN'.mono λb xs e=>by rw[Zab (nNo (s2 _ _ e) ht2)];exact s2 _ _ e)),.list (SqL.of uS) .nil,Zox g (λn hn=>gn.each n (hm' n hn).1),Y,Z,?_⟩⟩;have s3:Zaj H (upd H2 t2 (.lst [])):=s2.trans (Zbg ht2);have hl3:(upd H2 t2 (.lst [])) ls=some (.lst ys):=by rw[Zab (nNo hl2 ht2)];exact hl2
    generalize upd H2 t2 (.lst [])=H3 at s3 hl3;have hp3:=s3 _ _ hp;have hr3:=s3 _ _ hr0;have k3:∀ b u,b≠p->b≠r->H b=some u->H3 b=some u:=λb u _ _ e=>s3 _ _ e;refine Ze1 (λ_=>?_) (λhz=>?_)
    ·exact⟨Z,Z,p,(m:Int),o,Y,hp3,ho,W,W,λv o' a0 a1 ho'=>fin H3 o k3 hp3 ho hr3 v o' a0 a1 ho'⟩
    have hne:ns'≠[]:=λz=>hz ((Zpr ns').mpr z);refine⟨Z,_,Z,Y,Z,Ze1 (λ_=>?_) (λhz2=>?_)⟩
    ·exact⟨Z,Z,p,(m:Int),o,Y,hp3,ho,W,W,λv o' a0 a1 ho'=>fin H3 o k3 hp3 ho hr3 v o' a0 a1 ho'⟩
    have dp2:2<=dp:=by
     have:¬ ((dp:Int)<2):=λz=>hz2 (Jb z);omega
    refine⟨Z,p,4,o,Y,hp3,ho,V,V,λv4 o4 _ _ ho4=>⟨Y,Z,?_⟩⟩;have k4:∀ b u,b≠p->b≠r->H b=some u->(upd H3 p o4) b=some u:=λb u hb _ e=>by rw[Zab hb];exact s3 _ _ e
    have hp4:(upd H3 p o4) p=some o4:=uS;have hr4:(upd H3 p o4) r=some (.lst [.int ρ]):=by rw[Zab (Yu hpr)];exact hr3
    have lsp:ls≠p:=λz=>by rw[z,hp]at lsn;cases lsn
    have hl4:(upd H3 p o4) ls=some (.lst ys):=by rw[Zab lsp];exact hl3
    generalize upd H3 p o4=H4 at k4 hp4 hr4 hl4;refine Ze1 (λ_=>?_) (λ_=>?_)
    ·exact⟨Z,Z,p,(m:Int),o4,Y,hp4,ho4,W,W,λv o' a0 a1 ho'=>fin H4 o4 k4 hp4 ho4 hr4 v o' a0 a1 ho'⟩
    have np:∀ {b:Addr} {xs:LV},H b=some (.tup xs)->b≠p:=λe z=>by rw[z,hp]at e;obtain⟨_,_,q',_⟩:=ho;rw[q']at e;cases e
    have nr:∀ {b:Addr} {xs:LV},H b=some (.tup xs)->b≠r:=λe z=>by rw[z,hr0]at e;cases e
    have lnp:ln≠p:=λz=>by
     rw[z,hp]at hln;obtain⟨_,_,q',_⟩:=ho;rw[q']at hln;cases hln;cases hN with
     | cons h _=>obtain⟨_,_,_,e,_⟩:=h;cases e
    have lnr:ln≠r:=λz=>by
     rw[z,hr0]at hln;cases hln;cases hN with
     | cons h _=>obtain⟨_,_,_,e,_⟩:=h;cases e
    have ypos:0<ys.length:=by rw[<- yl];exact Yk2.mpr hne
    refine⟨Z,Z,Z,ls,Z,.inl (SqL.of hl4),p,_,o4,Y,hp4,ho4,W,W,λv5 o5 h50 h51 ho5=>?_⟩;obtain⟨j5,rfl⟩:=Int.eq_ofNat_of_zero_le h50;have hj5:j5<ys.length:=by omega
    have hy5:ys[j5]?=some ys[j5]:=Yb hj5;obtain⟨n,hn,t,tp,ps,et,ht,htp,hP⟩:=Zaz hN' hy5;have hn2:=hm' n (Yf hn);have gnn:=gn.each n hn2.1;have n1:=gnn.one;have n4:=gnn.four;have nρ:=hn2.2;rw[et]at hy5;have k5:∀ b u,b≠p->b≠r->H b=some u->(upd H4 p o5) b=some u:=λb u hb hb2 e=>by rw[Zab hb];exact k4 _ _ hb hb2 e
    have hp5:(upd H4 p o5) p=some o5:=uS;have hr5:(upd H4 p o5) r=some (.lst [.int ρ]):=by rw[Zab (Yu hpr)];exact hr4
    have hl5:(upd H4 p o5) ls=some (.lst ys):=by rw[Zab lsp];exact hl4
    generalize upd H4 p o5=H5 at k5 hp5 hr5 hl5;refine⟨ls,_,_,Z,Y,SqL.of hl5,Zbl hy5,t,Z,SqT.of (k5 _ _ (np ht) (nr ht) ht),Y,_,Z,_,Z,_,Z,Y,?_⟩;refine⟨Z,r,_,_,Z,Y,SqL.of hr5,Y,Z,_,Z,Y,Z,r,_,_,0,Y,Y,hr5,Y,?_⟩;have er:((ρ:Int) - (n.2.1:Int))=((ρ - n.2.1:Nat):Int):=by omega
    have k6:∀ b u,b≠p->b≠r->H b=some u->(upd H5 r (.lst [.int ((ρ - n.2.1:Nat):Int)])) b=some u:=λb u hb hb2 e=>by rw[Zab hb2];exact k5 _ _ hb hb2 e
    have hp6:(upd H5 r (.lst [.int ((ρ - n.2.1:Nat):Int)])) p=some o5:=by rw[Zab hpr];exact hp5
    have hr6:(upd H5 r (.lst [.int ((ρ - n.2.1:Nat):Int)])) r=some (.lst [.int ((ρ - n.2.1:Nat):Int)]):=uS;rw[<- er]at k6 hp6 hr6;dsimp only[List.set_cons_zero];generalize upd H5 r (.lst [.int ((ρ:Int) - (n.2.1:Int))])=H6 at k6 hp6 hr6 ⊢;rw[er]at hr6;refine⟨Z,O,λt1 ht1=>?_⟩;have s67:Zaj H6 (upd H6 t1 (.tup [.str n.1])):=Zbg ht1;have ht17:(upd H6 t1 (.tup [.str n.1])) t1=some (.tup [.str n.1]):=uS;generalize upd H6 t1 (.tup [.str n.1])=H7 at s67 ht17;have hp7:=s67 _ _ hp6;have hr7:=s67 _ _ hr6;have k7:∀ b u,b≠p->b≠r->H b=some u->H7 b=some u:=λb u hb hb2 e=>s67 _ _ (k6 _ _ hb hb2 e);let Iv2:Addr->Nat->LV->St->Hp->Prop:=λD i ys σ' H'=>H7 D=none/\(∀ b o,b≠p->b≠r->b≠D->H7 b=some o->H' b=some o)/\(∃ o,H' p=some o/\Zj4 o)/\H' D=some (.lst ys)/\∃(x:OV) (ds:List Dt) (ρi:Nat),σ'=[x,some (.int dp),some (.int m),some (.ref ln),some (.ref p),some (.ref r)]/\H' r=some (.lst [.int ρi])/\TmsV H' ds ys/\Dr ds/\(∀ k,Zfq k ds + ρi<=i + (ρ - n.2.1))/\ds.length=i/\∀ c∈ds,Zi0 ns m (dp - 1) c=true;refine⟨Z,(n.2.1:Int),Y,W,W,Zcc Zbq (sL (by rw[Za3];omega)) Iv2
     (λD hD=>⟨hD,λb o _ _ _ e=>Zbg hD _ _ e,⟨o5,Zbg hD _ _ hp7,ho5⟩,uS,none,[],ρ - n.2.1,Y,Zbg hD _ _ hr7,.nil,Dr.nil,(λk=>by rw[Znl];omega),Y,(λ_ h=>nomatch h)⟩) (λD i ys σ' H' hi h0=>by obtain⟨_,_,_,_,_,ds,_,_,_,ht,_,_,dl,_⟩:=h0;exact⟨trivial,by have:=ht.length;omega⟩) ?_ ?_⟩
    ·rintro D i v' ys' σ' H8 hD hi ⟨hDn,k8,⟨o8,hp8,ho8⟩,hD8,x8,ds,ρi,rfl,hr8,hT8,dr8,cn8,dl8,sn8⟩;obtain⟨hi,rfl⟩:=Za7 hi;have Dp:D≠p:=λz=>by rw[z,hp7]at hDn;cases hDn
     have Dr':D≠r:=λz=>by rw[z,hr7]at hDn;cases hDn
     have lnD:ln≠D:=nNo (k7 _ _ lnp lnr hln) hDn;have c0:=cn8 0;have kN:∀ b xs,H b=some (.tup xs)->H8 b=some (.tup xs):=λb xs e=>k8 _ _ (np e) (nr e) (nNo (k7 _ _ (np e) (nr e) e) hDn) (k7 _ _ (np e) (nr e) e);refine⟨Z,Z,Z,Z,Z,_,Z,Y,p,ln,r,m,ρi,dp - 1,ns,us,by rw[show((dp - 1:Nat):Int)=(dp:Int) - 1 by omega];rfl,W,W,⟨o8,hp8,ho8⟩,hr8,hpr,k8 _ _ lnp lnr lnD (k7 _ _ lnp lnr hln),hN.mono kN,gn,m1,m12,W,λv d ρ' H9 st hv dr cn sd=>?_⟩;have hD9:=st.keep _ _ Dp Dr' hD8;have tk:∀ b xs,H9 b=some (.tup xs)->(upd H9 D (.lst (ys'++[v]))) b=some (.tup xs):=λb xs e=>by rw[Zab (λz=>by rw[z,hD9]at e;cases e)];exact e
     have t89:∀ b xs,H8 b=some (.tup xs)->H9 b=some (.tup xs):=λb xs e=>st.keep _ _ (λz=>by rw[z,hp8]at e;obtain⟨_,_,q',_⟩:=ho8;rw[q']at e;cases e) (λz=>by rw[z,hr8]at e;cases e) e;obtain⟨o9,hp9,ho9⟩:=st.pot;refine⟨hD9,hDn,λb u hb hb2 hb3 e=>by rw[Zab hb3];exact st.keep _ _ hb hb2 (k8 _ _ hb hb2 hb3 e),⟨o9,by rw[Zab (Yu Dp)];exact hp9,ho9⟩,uS,_,ds++[d],ρ',Y,by rw[Zab (Yu Dr')];exact st.room,((hT8.keep t89).keep tk).append (.cons (hv.keep tk) .nil),dr8.append dr,λk=>?_,by rw[Yc,Yr1];omega,λc hc=>(Yl.mp hc).elim (sn8 c) λz=>by rw[Ye.mp z];exact sd⟩;have a1:=cn8 k;have a2:=cn k;rw[Zdb];omega
    ·rintro D ys' σ' H8 hD ⟨hDn,k8,⟨o8,hp8,ho8⟩,hD8,x8,ds,ρi,rfl,hr8,hT8,dr8,cn8,dl8,sn8⟩;rw[Za3]at cn8 dl8;have t1D:t1≠D:=nNo ht17 hDn;have t1p:t1≠p:=λz=>by rw[z,hp6]at ht1;cases ht1
     have t1r:t1≠r:=λz=>by rw[z,hr6]at ht1;cases ht1
     have yl8:=hT8.length;refine⟨D,Z,.inl ⟨SqL.of hD8,λtt htt=>?_⟩⟩;have s89:Zaj H8 (upd H8 tt (.tup ys')):=Zbg htt;have htt9:(upd H8 tt (.tup ys')) tt=some (.tup ys'):=uS;generalize upd H8 tt (.tup ys')=H9 at s89 htt9;have c0:=cn8 0;refine Zig (K:=K) (s89 _ _ (k8 _ _ t1p t1r t1D ht17)) htt9 (sL (by show 1 + _<=_;omega)) λpR HR sR hR=>?_;cases ds with
     | nil=>exact absurd dl8 (by show ¬ 0=_;omega)
     | cons d0 dr0 =>
      refine q (.ref pR) (.tuple (.str n.1 :: d0 :: dr0)) ρi HR ⟨λb u hb hb2 e=>sR _ _ (s89 _ _ (k8 _ _ hb hb2 (nNo (k7 _ _ hb hb2 e) hDn) (k7 _ _ hb hb2 e))),⟨o8,sR _ _ (s89 _ _ hp8),ho8⟩,sR _ _ (s89 _ _ hr8)⟩ (.tup hR (.cons (.str _ (Zgl gnn.word)) ((hT8.keep (Zco s89)).keep (Zco sR)))) (Dr.tup dr8) (λk=>?_) (Z3c dp2 gn.nd hn2.1 dl8 sn8);cases k with
      | zero=>rw[Zdm]at c0 ⊢;omega
      | succ k =>
       have a1:=cn8 k;rw[Znk];omega
inductive Rs
 | kind (x:Str)
 | bad (b:Bool) (sp:LN) (c:LS) (ks:LN)
def sB:Bool->Str
 | true=>"clash"
 | false=>"none"
def Z9g(b:Bool):¬ (sB b="kind"):=by cases b <;> rfl'
def RsV(H:Hp):Rs->Addr->Prop
 | .kind x,a=>H a=some (.tup [.str "kind",.str x])
 | .bad b sp c ks,a=>∃ t u,H a=some (.tup (.str (sB b):: .ref t :: .ref u :: ks.map Zd7))/\H t=some (.tup (sp.map Zd7))/\H u=some (.tup (c.map V.str))
def RsV.keep{H H':Hp}(k:∀ b xs,H b=some (.tup xs)->H' b=some (.tup xs)):∀ {r:Rs}{a:Addr},RsV H r a->RsV H' r a
 | .kind _,_,h=>k _ _ h
 | .bad ..,_,⟨t,u,h1,h2,h3⟩=>⟨t,u,k _ _ h1,k _ _ h2,k _ _ h3⟩
def rsD:Rs->Dt
 | .kind x=>.tuple [.str "kind",.str x]
 | .bad b sp c ks=>.tuple (.str (sB b):: .tuple (sp.map Zxg):: Znu c :: ks.map Zxg)
def RsV.rep{K:Fg}{H:Hp}:∀ {r:Rs}{a:Addr},RsV H r a->Rep K H (.ref a) (rsD r)
 | .kind _,_,h=>.tuple (SqT.of h) (.cons (.str _) (.cons (.str _) .nil))
 | .bad ..,_,⟨t,u,h1,h2,h3⟩=>.tuple (SqT.of h1) (.cons (.str _) (.cons (.tuple (SqT.of h2) (Zke _)) (.cons (Zif h3) (Zke _))))
def rkN:LN->LN
 | k :: j :: _=>[k,j]
 | _=>[]
def Z77(mk:LS)(near:LN)(sp:LN)(c:LS):Rs :=
 match near with
 | [k]=>.kind (mk.getD k "")
 | near=>.bad (!near.isEmpty) sp c (rkN near)
def Zlr(near:LN):(∃ k,near=[k])\/∃ b ks,Z24 near=.str (sB b):: ks.map Zd7/\ks.length<=2/\∀ mk sp c,Z77 mk near sp c=.bad b sp c ks:=by
 match near with
 | []=>exact .inr ⟨false,[],Y,V,λ_ _ _=>rfl⟩
 | [k]=>exact .inl ⟨k,Y⟩
 | k :: j :: r=>exact .inr ⟨true,[k,j],Y,Yg 2,λ_ _ _=>rfl⟩
def Zno(rows:RS)(n:Nam)(sp:LN)(c:LS):Rs:=Z77 (n.2.2.map (·.2)) (Zqz rows (n.2.2.map (·.1)) c) sp c
def Zri(rows:RS)(ns:List Nam)(w:Str)(sp:LN)(c:LS):Rs :=
 match ns.find? (λn=>decide (n.1=w))with
 | some n=>Zno rows n sp c
 | none=>.kind ""
def Z1i{ns:List Nam}{n:Nam}(nd:(ns.map (·.1)).Nodup)(h:n∈ns):ns.find? (λm=>decide (m.1=n.1))=some n:=by
 induction ns with
 | nil=>cases h
 | cons m ms ih =>
  rw[Yz,Yt1]at nd;rw[Ys3]
  rcases Yt.mp h with e | h
  ·rw[e,Jb rfl]
  ·have ne:¬ m.1=n.1:=λz=>nd.1 (by rw[z];exact Yh.mpr ⟨n,h,Y⟩);rw[Jc ne];exact ih nd.2 h
def Znn{rows:RS}{ns:List Nam}{n:Nam}(nd:(ns.map (·.1)).Nodup)(h:n∈ns)(sp:LN)(c:LS):Zri rows ns n.1 sp c=Zno rows n sp c:=by
 unfold Zri;rw[Z1i nd h]
def goR(f:Dt->Nat->Rs):List Dt->Nat->LS->Sum Rs (LS)
 | [],_,acc=>.inr acc
 | c :: cs,i,acc=>match f c i with
  | .kind x=>goR f cs (i + 1) (acc++[x])
  | .bad b sp cl ks=>.inl (.bad b sp cl ks)
def Ycf{f:Dt->Nat->Rs}{c:Dt}{cs:List Dt}{i:Nat}{acc:LS}{x:Str}(h:f c i=.kind x):goR f (c :: cs) i acc=goR f cs (i + 1) (acc++[x]):=by rw[goR,h]
def Ycg{f:Dt->Nat->Rs}{c:Dt}{cs:List Dt}{i:Nat}{acc:LS}{b:Bool}{sp:LN}{cl:LS}{ks:LN}(h:f c i=.bad b sp cl ks):goR f (c :: cs) i acc=.inl (.bad b sp cl ks):=by rw[goR,h]
def Zok(rows:RS)(ns:List Nam)(xs:LS):Nat->Dt->LN->Rs
 | 0,_,_=>.kind ""
 | k + 1,d,sp=>match d with
  | .int i=>.kind (xs.getD i.toNat "")
  | .tuple (.str w :: ds)=>match goR (λc i=>Zok rows ns xs k c (sp++[i])) ds 0 []with
   | .inl r=>r
   | .inr call=>Zri rows ns w sp call
  | _=>.kind ""
def Zqp{rows:RS}{ns:List Nam}{xs:LS}(k:Nat)(w:Str)(ds:List Dt)(sp:LN):Zok rows ns xs (k + 1) (.tuple (.str w :: ds)) sp=(match goR (λc i=>Zok rows ns xs k c (sp++[i])) ds 0 []with
   | .inl r=>r
   | .inr call=>Zri rows ns w sp call):=rfl
def Z3g{rows:RS}{ns:List Nam}{xs:LS}(k:Nat)(i:Int)(sp:LN):Zok rows ns xs (k + 1) (.int i) sp=.kind (xs.getD i.toNat ""):=rfl
def Zkb{ns:List Nam}{m j:Nat}{d:Dt}(h:Zi0 ns m (j + 1) d=true):(∃ i:Nat,d=.int i/\i<m)\/∃ n∈ns,∃ ds,d=.tuple (.str n.1 :: ds)/\ds.length=n.2.1/\∀ c∈ds,Zi0 ns m j c=true:=by
 have no:∀(e:Dt),Zhv ns e=false->Zi0 ns m (j + 1) e=(Zhv ns e&&(Ziu e).all (Zi0 ns m j))->Zi0 ns m (j + 1) e=true->False:=λe z y w=>by rw[y,z]at w;cases w
 cases d with
 | int i =>
  have h:(decide (0<=i)&&decide (i<(m:Int)))=true:=h;rw[Yl1]at h;have h1:=Je h.1;have h2:=Je h.2;exact .inl ⟨i.toNat,by rw[Yg2 h1],W⟩
 | tuple ds =>
  cases ds with
  | nil=>exact(no _ rfl rfl h).elim
  | cons x r =>
   cases x with
   | str w =>
    have h:(Zhv ns (.tuple (.str w :: r))&&r.all (Zi0 ns m j))=true:=h;rw[Yl1,Yq1]at h;cases ha:Zyy ns w with
    | none=>rw[Zl9 r ha]at h;cases h.1
    | some k =>
     rw[Zja r ha]at h;unfold Zyy at ha;obtain⟨n,hn,ek⟩:=Yf1.mp ha;have hm:=List.mem_of_find?_eq_some hn;have hw:n.1=w:=Je (List.find?_some (p:=λn:Nam=>decide (n.1=w)) hn);exact .inr ⟨n,hm,r,by rw[hw],by rw[Je h.1,ek],h.2⟩
   | _=>exact(no _ rfl rfl h).elim
 | _=>exact(no _ rfl rfl h).elim
def Zxd{rows:RS}{ds:List (LS)}{xs:LS}:∀ k∈Zqz rows ds xs,k<ds.length:=λk hk=>Zx6 k (Yr3.mp hk).1
def Zlb{rows:RS}{n:Nam}(gn:Zfs rows n){sp:LN}{c:LS}{x:Str}(h:Zno rows n sp c=.kind x):x∈rows.map (·.1):=by
 unfold Zno at h;have lt:=Zxd (rows:=rows) (ds:=n.2.2.map (·.1)) (xs:=c);generalize Zqz rows (n.2.2.map (·.1)) c=near at h lt
 match near,h,lt with
 | [k],h,lt =>
  injection h with h;have:=lt k (.head _);rw[Ya]at this;rw[<- h,Yo,Yj,Yb this];exact gn.made _ (Yw3 this)
 | [],h,_=>cases h
 | _ :: _ :: _,h,_=>cases h
theorem Zs2{f:Dt->Nat->Rs}{W:LS}:∀ {ds:List Dt}{i:Nat}{acc call:LS},(∀ c∈ds,∀ i x,f c i=.kind x->x∈W)->(∀ x∈acc,x∈W)->goR f ds i acc=.inr call->(∀ x∈call,x∈W)/\call.length=acc.length + ds.length
 | [],i,acc,call,_,ha,h=>by
  injection h with h;rw[<- h];exact⟨ha,Y⟩
 | c :: cs,i,acc,call,hf,ha,h=>by
  unfold goR at h;cases hc:f c i with
  | bad b sp cl ks=>rw[hc]at h;cases h
  | kind x =>
   rw[hc]at h;have:=Zs2 (λc hc=>hf c (.tail _ hc)) (λy hy=>(Yl.mp hy).elim (ha y) λz=>by rw[Ye.mp z];exact hf c (.head _) i x hc) h;refine⟨this.1,?_⟩;rw[this.2,Yc,Yr1,Yv];omega
theorem Z2p{f:Dt->Nat->Rs}:∀ {ds:List Dt}{i:Nat}{acc:LS}{r:Rs},goR f ds i acc=.inl r->∃ b sp cl ks,r=.bad b sp cl ks
 | [],i,acc,r,h=>by cases h
 | c :: cs,i,acc,r,h=>by
  unfold goR at h;cases hc:f c i with
  | bad b sp cl ks=>rw[hc]at h;injection h with h;exact⟨b,sp,cl,ks,h.symm⟩
  | kind x=>rw[hc]at h;exact Z2p h
def Zoh{rows:RS}{ns:List Nam}{xs:LS}(gn:Za6 rows ns)(hx:∀ x∈xs,x∈rows.map (·.1)):∀(j:Nat) (d:Dt),Zi0 ns xs.length j d=true->∀ sp x,Zok rows ns xs j d sp=.kind x->x∈rows.map (·.1)
 | 0,d,h,sp,x,e=>by cases h
 | j + 1,d,h,sp,x,e=>by
  rcases Zkb h with⟨i,rfl,hi⟩ | ⟨n,hn,ds,rfl,hl,hk⟩
  ·rw[Z3g]at e;injection e with e;rw[<- e,show((i:Int)).toNat=i from rfl,Yo,Yb hi];exact hx _ (Yw3 hi)
  ·rw[Zqp]at e;cases hg:goR (λc i=>Zok rows ns xs j c (sp++[i])) ds 0 []with
   | inl r=>rw[hg]at e;obtain⟨_,_,_,_,z⟩:=Z2p hg;rw[z]at e;cases e
   | inr call =>
    rw[hg]at e;have e:Zri rows ns n.1 sp call=.kind x:=e;rw[Znn gn.nd hn]at e;exact Zlb (gn.each n hn) e
def Zx3{rows:RS}{ns:List Nam}{xs:LS}(gn:Za6 rows ns)(hx:∀ x∈xs,x∈rows.map (·.1)){j:Nat}{n:Nam}{ds:List Dt}{sp:LN}{call:LS}(hl:ds.length=n.2.1)(hk:∀ c∈ds,Zi0 ns xs.length j c=true)(h:goR (λc i=>Zok rows ns xs j c (sp++[i])) ds 0 []=.inr call):Zcj rows n.2.1 call:=by
 have:=Zs2 (W:=rows.map (·.1)) (λc hc i x e=>Zoh gn hx j c (hk c hc) _ x e) (acc:=[]) (λx z=>by cases z) h;exact⟨by rw[this.2,hl];exact Nat.zero_add _,this.1⟩
theorem Zxb:∀ k,lvl k []=[]
 | 0=>Zb6 _
 | k + 1=>by rw[Zd1,Zxb k];rfl
theorem Zvy{ns:List Nam}{m:Nat}:∀(j:Nat) (d:Dt),Zi0 ns m j d=true->lvl j [d]=[]
 | 0,d,h=>by cases h
 | j + 1,d,h=>by
  rw[Zim,Zho];have all:∀ l:List Dt,(∀ c∈l,Zi0 ns m j c=true)->lvl j l=[]:=λl=>by
   induction l with
   | nil=>exact λ_=>Zxb j
   | cons c r ih =>
    intro hc;rw[show c :: r=[c]++r from rfl,Zdf,Zvy j c (hc c (.head _)),ih λc h=>hc c (.tail _ h)];rfl
  rcases Zkb h with⟨i,rfl,hi⟩ | ⟨n,hn,ds,rfl,hl,hk⟩
  ·exact all [] λ_ h=>nomatch h
  ·exact all ds hk
def Zva{ns:List Nam}{m:Nat}{d:Dt}(h:Zi0 ns m 12 d=true)(hc:∀ k,Zfq k [d]<=40):Zn4 ns m d=true:=by
 unfold Zn4 Zh7;rw[Zvy 12 d h,Jb (hc 12),h];rfl
def Z72{d:Dt}(h:Dr [d]):Wf d:=λk e he=>by
 have:=h k e he
 match e,this with
 | .int _,_=>rfl
 | .tuple (.str _ :: _ :: _),_=>rfl
def Zn8(C B D:Addr):Sp:=λvs H Q _=>∃(p k ts tc:Addr) (rows:RS) (ns:List Nam) (n:Nam) (sp:LN) (c:LS),vs=[.ref p,.str n.1,.ref ts,.ref tc]/\Zeh C B D H p k rows ns/\Zc4 rows/\Za6 rows ns/\n∈ns/\H ts=some (.tup (sp.map Zd7))/\H tc=some (.tup (c.map V.str))/\Zcj rows n.2.1 c /\
 ∀(a:Addr) (H':Hp),Zaj H H'->RsV H' (Zno rows n sp c) a->Q (.ref a) H'
def Z18(K:Fg)(C B D:Addr)(j:Nat):Sp:=λvs H Q _=>∃(p k l ts:Addr) (rows:RS) (ns:List Nam) (b:Bool) (xs:LS) (d:Dt) (v:V) (sp:LN),vs=[.ref p,.ref l,v,.ref ts]/\Zeh C B D H p k rows ns/\Zc4 rows/\Za6 rows ns/\SqB K b H l (xs.map V.str)/\(∀ x∈xs,x∈rows.map (·.1))/\TmV H d v/\Zi0 ns xs.length j d=true/\H ts=some (.tup (sp.map Zd7))/\sp.length + j<=50 /\
 ∀(a:Addr) (H':Hp),Zaj H H'->RsV H' (Zok rows ns xs j d sp) a->Q (.ref a) H'
def Zr4(K:Fg)(C B D:Addr):Sp:=λvs H Q _=>∃(p k l:Addr) (rows:RS) (ns:List Nam) (b:Bool) (xs:LS) (d:Dt) (v:V),vs=[.ref p,.ref l,v]/\Zeh C B D H p k rows ns/\Zc4 rows/\Za6 rows ns/\SqB K b H l (xs.map V.str)/\xs.length<=12/\(∀ x∈xs,x∈rows.map (·.1)) /\
 TmV H d v/\Wf d/\(∀ i,(lvl i [d]).length<=1000)/\Zn4 ns xs.length d=true/\∀ H',Zaj H H'->Q .non H'
def Z9u:¬ (V.str "none"=V.str "deed"):=λz=>by injection z with z;exact absurd z (by rfl')
def Z9x:¬ (V.str "clash"=V.str "deed"):=λz=>by injection z with z;exact absurd z (by rfl')
def Z6j(b:Bool):¬ (V.str (sB b)=V.str "kind"):=λz=>by injection z with z;exact Z9g b z
abbrev nRC:LS:=["book","word","spot","call","answer"]
abbrev pRC:LS:=["book","word","spot","call"]
def Ybj:Zah nRC pRC (Zad Zha):=by nofun
def Ztx(F:Def K mg "run_call" Zha pRC f fd)(TD:Zjj K D)(list:mg "list"=none)
  (DT:Def K mg "told" Zr7 ["board","call"] fT fdT) (GT:⋯ 8 fT fdT ["board","call"] (Z16 C B)) (MB:Zy7 K D fB fdB) (MM:Z5i K D fM fdM) (MC:Zro K D fC fdC):⋯ 9 f fd pRC (Zn8 C B D):=by
 have GB:⋯ 2 fB fdB ["self","word"] (Zmn C B D):=Zo1 MB.fn TD MC;have GM:⋯ 2 fM fdM ["self","word"] (Zr2 C B D):=Zwz MM.fn TD MC list
 nomatch F.fn.ok Ybj
 ·obtain⟨p,k,ts,tc,rows,ns,n,sp,c,rfl,_⟩:=h;rfl
 ·obtain⟨p,k,ts,tc,rows,ns,n,sp,c,rfl,bk,g,gn,hn,hts,htc,gc,q⟩:=h;have nd:=Ybj.nd;have hr2:Zci 2 _:=hr.mono (by decide);have gnn:=gn.each n hn
  ac_nf
  refine'⟨_,(pS (sE 4 nd (Zae DT GT hr (pC (Zee (pv 0) TD.cl MB.me GB hr2 MB.b .nil Zct (pC (pv 1) Zaa)) (pC (pv 3) Zaa))))
   (pS (Za0 (Zan Zdk (Za2 (r:=Zj0 K) Zch (pv 4) Zaf (λ_ _=>rfl)) Zbp (Zar _)) (Zac (Zak (Zcs (pC Zbp (pC (Za2 (r:=Zhs K) Zat (Zee (pv 0) TD.cl MM.me GM hr2 MM.b .nil Zct (pC (pv 1) Zaa)) (Za2 (r:=Zj0 K) Zch (pv 4) Zaf (λ_ _=>rfl)) (λ_ _=>rfl)) Zaa))))) Zal)
   (Zac (Zak (Zax Zku (Zcs (pC (Za2 (r:=Zj0 K) Zch (pv 4) Zaf (λ_ _=>rfl)) (pC (pv 2) (pC (pv 3) Zaa)))) (Zbs (r:=Z3k K) Zkc (pv 4) (Zbt Zaf) Zdj)))))),?_⟩
  exists let b:=_;let c:=Zau (Zlg _ b _) a;Zau _ c _ _ _
  obtain⟨dx,bo,mo,o,bvs,mvs,h1,_⟩:=bk.ex;refine⟨Z,p,dx,Z,h1,Zpa _ _ _,Z,p,k,rows,ns,n,Y,bk,gn.nd,hn,λy bd=>?_⟩;refine⟨Z,y,k,tc,rows,n.2.1,_,c,Y,bd,g,gnn.deeds,gnn.four,htc,gc,λl H1 hl s1 hl1=>?_⟩;have lt:=Zxd (rows:=rows) (ds:=n.2.2.map (·.1)) (xs:=c);unfold Zno at q;generalize Zqz rows (n.2.2.map (·.1)) c=near at q hl1 lt
  rcases Zlr near with⟨i,rfl⟩ | ⟨b,ks,ev,kl,ec⟩
  ·have li:=lt i (.head _);rw[Ya]at li;refine⟨Z,l,_,_,Z,Y,SqT.of hl1,at0 _ _,Y,Z,?_⟩;rw[Jb rfl];refine Ze5 ⟨Z,p,dx,Z,s1 _ _ h1,Zw9 _ _ _,Z,p,k,rows,ns,n,Y,bk.mono s1,gn.nd,hn,λlm hlm=>?_⟩;have s12:Zaj H1 (upd H1 lm (.lst ((n.2.2.map (·.2)).map V.str))):=Zbg hlm;have hl2:(upd H1 lm (.lst ((n.2.2.map (·.2)).map V.str))) lm=some (.lst ((n.2.2.map (·.2)).map V.str)):=uS;generalize upd H1 lm (.lst ((n.2.2.map (·.2)).map V.str))=H2 at s12 hl2;have hi2:(n.2.2.map (·.2))[i]?=some ((n.2.2.map (·.2)).getD i ("":Str)):=by
    rw[Yo,Yj,Yb li];rfl
   refine⟨Z,l,_,_,Z,Y,SqT.of (s12 _ _ hl1),Zbl (j:=1) rfl,lm,_,_,Z,Y,SqL.of hl2,Zbl (j:=i) (by rw[Yj,hi2];rfl),U,λt ht=>q t _ ((s1.trans s12).trans (Zbg ht)) uS⟩
  ·rw[ev]at hl1;rw[ec]at q;refine⟨Z,l,_,_,Z,Y,SqT.of hl1,at0 _ _,Y,Z,?_⟩;rw[Jc (show ¬ (V.str (sB b)=V.str "deed")from by cases b;exact Z9u;exact Z9x)];refine Zcg ⟨Z,l,_,_,Z,Y,SqT.of hl1,at0 _ _,Z,Z,sL (by show 3<=100000;decide),λt ht=>?_⟩;have s12:Zaj H1 (upd H1 t (.tup [.str (sB b),.ref ts,.ref tc])):=Zbg ht;have ht2:(upd H1 t (.tup [.str (sB b),.ref ts,.ref tc])) t=some (.tup [.str (sB b),.ref ts,.ref tc]):=uS;generalize upd H1 t (.tup [.str (sB b),.ref ts,.ref tc])=H2 at s12 ht2;refine⟨Z,Z,?_⟩;unfold Zhx;refine Zki (K:=K) (lo:=some 1) (hi:=none) (s12 _ _ hl1) λu H3 s23 hu=>?_;rw[Z5p]at hu;have hu:H3 u=some (.tup (ks.map Zd7)):=hu;refine Zig (K:=K) (s23 _ _ ht2) hu (sL (by rw[Ya];show 3 + _<=_;omega)) λa H4 s34 ha=>?_;have s4:=(s1.trans s12).trans (s23.trans s34);exact q a H4 s4 ⟨ts,tc,ha,s4 _ _ hts,s4 _ _ htc⟩
abbrev nRP:LS:=["book","filling","term","spot","made","number","part","answer"]
abbrev pRP:LS:=["book","filling","term","spot"]
def Z88:Zah nRP pRP (Zad Zg9):=by nofun
def Z3z(F:Def K mg "run_part" Zg9 pRP f fd)(T:Zy1 mg)(enum:mg "enumerate"=none)
  (DN:Def K mg "is_number" Zdp ["thing"] fN fdN) (DC:Def K mg "run_call" Zha pRC fC fdC) (GC:⋯ 9 fC fdC pRC (Zn8 C B D)):
  ∀ j,⋯ (10 + j) f fd pRP (Z18 K C B D j):=by
 intro j
 induction j with
 | zero =>
  nomatch F.fn.ok Z88
  ·obtain⟨p,k,l,ts,rows,ns,b,xs,d,v,sp,rfl,_⟩:=h;rfl
  ·obtain⟨p,k,l,ts,rows,ns,b,xs,d,v,sp,rfl,_,_,_,_,_,_,z,_⟩:=h;cases z
 | succ j GS =>
  have GN:⋯ 1 fN fdN ["thing"] Zmo:=Zmw DN T
  nomatch F.fn.ok Z88
  ·obtain⟨p,k,l,ts,rows,ns,b,xs,d,v,sp,rfl,_⟩:=h;rfl
  ·obtain⟨p,k,l,ts,rows,ns,b,xs,d,v,sp,rfl,bk,g,gn,hS,hx,hv,sd,hts,hsp,q⟩:=h;have nd:=Z88.nd;have hr1:Zci 1 _:=hr.mono (show 1<=10 + j by omega);have hr9:Zci 9 _:=hr.mono (show 9<=10 + j by omega)
   ac_nf
   refine'⟨_,(pS (Za0 (Zb1 (Zae DN GN hr1 (pC (pv 2) Zaa))) (Zac (Zak (Zcs (pC Zbp (pC (Za2 (r:=rIx K) Z7t (pv 1) (pv 2) (λ_ _=>rfl)) Zaa))))) Zal)
   (pS (sE 4 nd (Zbd Zaa))
   (pS (Zbh Yw rfl (Zqs (by rfl) enum (pC (Zbs (r:=Z3k K) Zkc (pv 2) (Zbt Zaf) Zdj) Zaa)) (Zeg rfl (gC (gE 5 nd) (gC (gE 6 nd) Zc0)))
     (pS (sE 7 nd (Zae F GS hr (pC (pv 0) (pC (pv 1) (pC (pv 6) (pC (Zax Zku (pv 3) (Zcs (pC (pv 5) Zaa))) Zaa))))))
   (pS (Za0 (Zan Zor (Za2 (r:=Zj0 K) Zch (pv 7) Zaf (λ_ _=>rfl)) Zbp (Zar _)) (Zac (Zak (pv 7))) Zal)
   (Zac (Za4 (Zdg Ye1 Yn1 Yo1 Zbc (pv 4) (pC (Za2 (r:=Zj0 K) Zch (pv 7) Zaf (λ_ _=>rfl)) Zaa)))))))
   (Zac (Zak (Zae DC GC hr9 (pC (pv 0) (pC (Za2 (r:=Zj0 K) Zch (pv 2) Zaf (λ_ _=>rfl)) (pC (pv 3) (pC (Za5 Za9 (by rfl) T.tuple Yu1 (pC (pv 4) Zaa)) Zaa)))))))))),?_⟩
   exists let b:=_;let c:=Zau _ b;let e:=Zau _ c;let f:=Zau (Zh3 _ _ e) a;let g:=Zau _ f;let h:=_;Zau (Zlg _ h _) g _ _ _
   rcases Zkb sd with⟨i,rfl,hi⟩ | ⟨n,hn,ds,rfl,hl,hk⟩
   ·cases hv;refine⟨Z,.int i,Z,.int _,Z,Ze5 ⟨Z,Z,?_⟩⟩;have ea:atI (xs.map V.str) (i:Int)=some (.str (xs.getD i ("":Str))):=Zbl (by
     rw[Yj,Yo,Yb hi];rfl)
    cases b with
    | true=>exact .inl ⟨l,_,_,Z,Y,hS,ea,U,λt ht=>q t _ (Zbg ht) uS⟩
    | false=>exact .inr (.inl ⟨l,_,_,Z,Y,hS,ea,U,λt ht=>q t _ (Zbg ht) uS⟩)
   ·cases hv with
    | @tup a vs _ ha ht =>
    cases ht with
    | @cons _ _ v0 vs h0 ht =>
    cases h0;have gnn:=gn.each n hn;have n4:=gnn.four;rw[Zqp]at q;refine⟨Z,.tuple (.str n.1 :: ds),Z,.tup ha (.cons (.str _ (Zgl gnn.word)) ht),Z,Zcg ⟨Yj1 _,λlm hlm=>?_⟩⟩;have s1:Zaj H (upd H lm (.lst [])):=Zbg hlm;have hm1:(upd H lm (.lst [])) lm=some (.lst []):=uS;generalize upd H lm (.lst [])=H1 at s1 hm1;refine⟨Z,Z,?_⟩;unfold Zhx;refine Zki (K:=K) (lo:=some 1) (hi:=none) (s1 _ _ ha) λt2 H2 s12 ht2=>?_;rw[Z5p]at ht2;have ht2:H2 t2=some (.tup vs):=ht2;have s2:=s1.trans s12;have hm2:=s12 _ _ hm1;have vl:=ht.length;have tm:t2≠lm:=λz=>by rw[z,hm2]at ht2;cases ht2
    let Iv1:NW:=λi σ H'=>∃(mk:LS) (x5 x6 x7:OV),σ=[some (.ref p),some (.ref l),some (.ref a),some (.ref ts),some (.ref lm),x5,x6,x7]/\Zaj H H'/\H' t2=some (.tup vs)/\H' lm=some (.lst (mk.map V.str))/\mk.length=i/\goR (λc i=>Zok rows ns xs j c (sp++[i])) (ds.drop i) i mk=goR (λc i=>Zok rows ns xs j c (sp++[i])) ds 0 [];refine⟨false,t2,vs,Y,SqT.of ht2,Zgz Iv1
     ⟨[],none,none,none,Y,s2,ht2,hm2,Y,Y⟩ (λi σ H' _ h0=>by obtain⟨_,_,_,_,_,_,h,_⟩:=h0;exact SqT.of h) ?_ ?_⟩
    ·rintro i pr t σ H3 hi ⟨mk,x5,x6,x7,rfl,s3,ht3,hm3,ml,hg⟩ ht0;obtain⟨e1,hi⟩:=Ze2 hi;obtain⟨c,hc,hvc⟩:=ht.at_ hi;have hcm:=Yf hc;have il:i<ds.length:=(Yi.mp hc).1;refine Zpp ?_;have s34:Zaj H3 (upd H3 t (.tup [pr.1,pr.2])):=Zbg ht0;generalize upd H3 t (.tup [pr.1,pr.2])=H4 at s34;rw[e1];have s4:=s3.trans s34;refine⟨Z,Z,Z,Z,Z,O,λt5 ht5=>?_⟩;have s45:Zaj H4 (upd H4 t5 (.tup [.int i])):=Zbg ht5;have h55:(upd H4 t5 (.tup [.int i])) t5=some (.tup [.int i]):=uS;generalize upd H4 t5 (.tup [.int i])=H5 at s45 h55;have s5:=s4.trans s45;refine Zig (K:=K) (s5 _ _ hts) h55 (sL (by rw[Ya];show _ + 1<=_;omega)) λt6 H6 s56 ht6=>?_;have s6:=s5.trans s56;have e6:sp.map Zd7++[.int (i:Int)]=(sp++[i]).map Zd7:=by rw[Yr];rfl
     rw[e6]at ht6;refine⟨p,k,l,t6,rows,ns,b,xs,c,pr.2,sp++[i],Y,bk.mono s6,g,gn,hS.mono s6,hx,hvc.keep (Zco s6),hk c hcm,ht6,by rw[Yc,Yr1];omega,λar H7 s67 hr7=>?_⟩;have s36:=(s34.trans s45).trans s56;have s37:=s36.trans s67;have s7:=s3.trans s37;have ed:ds.drop i=c :: ds.drop (i + 1):=by
      rw[Yj3 il];rw[Yb il]at hc;rw[Ym hc]
     rw[ed]at hg;cases hrr:Zok rows ns xs j c (sp++[i])with
     | kind x =>
      rw[Ycf (f:=λc i=>Zok rows ns xs j c (sp++[i])) hrr]at hg;rw[hrr]at hr7;have hr7:H7 ar=some (.tup [.str "kind",.str x]):=hr7;refine⟨Z,ar,_,_,Z,Y,SqT.of hr7,at0 _ _,Y,Z,?_⟩;rw[Jb rfl];have hm7:=s37 _ _ hm3;refine Zcg ⟨Z,.inl ⟨Y,_,SqL.of hm7⟩,Z,ar,_,_,Z,Y,SqT.of hr7,Zbl (j:=1) rfl,lm,_,Z,Y,hm7,Zav (by rw[Ya];omega),mk++[x],_,_,Z,λb o e=>by rw[Zab (nNo e hlm)];exact s7 _ _ e,by rw[Zab tm];exact s37 _ _ ht3,by rw[uS,Yr];rfl,by rw[Yc,ml];rfl,hg⟩
     | bad b' sp' cl ks =>
      rw[Ycg (f:=λc i=>Zok rows ns xs j c (sp++[i])) hrr]at hg;rw[hrr]at hr7;obtain⟨u1,u2,hb1,hb2,hb3⟩:=hr7;refine⟨Z,ar,_,_,Z,Y,SqT.of hb1,at0 _ _,Y,Z,?_⟩;rw[Jc (Z6j b')];rw[<- hg]at q;exact Ze5 ⟨Z,q ar H7 s7 ⟨u1,u2,hb1,hb2,hb3⟩⟩
    ·rintro σ H3 ⟨mk,x5,x6,x7,rfl,s3,ht3,hm3,ml,hg⟩;rw[Zc8,<- vl,List.drop_length]at hg;have hg:(Sum.inr mk:Sum Rs (LS))=_:=hg;refine⟨Z,Z,a,_,_,Z,Y,SqT.of (s3 _ _ ha),at0 _ _,Z,Z,lm,Z,.inl ⟨SqL.of hm3,λtc htc=>?_⟩⟩;have s34:Zaj H3 (upd H3 tc (.tup (mk.map V.str))):=Zbg htc;have hc4:(upd H3 tc (.tup (mk.map V.str))) tc=some (.tup (mk.map V.str)):=uS;generalize upd H3 tc (.tup (mk.map V.str))=H4 at s34 hc4;have s4:=s3.trans s34;rw[<- hg]at q;refine⟨p,k,ts,tc,rows,ns,n,sp,mk,Y,bk.mono s4,g,gn,hn,s4 _ _ hts,hc4,Zx3 gn hx hl hk hg.symm,λar H5 s45 hr5=>q ar H5 (s4.trans s45) ?_⟩;show RsV H5 (Zri rows ns n.1 sp mk) ar;rw[Znn gn.nd hn];exact hr5
def Z9e:Zah ["book","filling","term"] ["book","filling","term"] (Zad Ze7):=by nofun
def Zw5(F:Def K mg "check_term" Ze7 ["book","filling","term"] f fd)(DI:Def K mg "is_term" Zic ["book","filling","term"] fI fdI)(GI:⋯ 17 fI fdI ["book","filling","term"] (Zr3 K C B D)):⋯ 18 f fd ["book","filling","term"] (Zr4 K C B D):=by
 nomatch F.fn.ok Z9e
 ·obtain⟨p,k,l,rows,ns,b,xs,d,v,rfl,_⟩:=h;rfl
 ·obtain⟨p,k,l,rows,ns,b,xs,d,v,rfl,bk,g,gn,hS,hl,hx,hv,wf,lz,ht,q⟩:=h
  ac_nf
  refine'⟨_,Zac (Za0 (Zcr (Zb1 (Zae DI GI hr (pC (pv 0) (pC (pv 1) (pC (pv 2) Zaa)))))) Zay Zal),?_⟩;refine⟨Z,Z,Z,p,k,l,rows,ns,b,xs,d,v,Y,bk,g,gn,hS,hl,hx,hv,wf,lz,λH1 s1=>⟨Z,?_⟩⟩;rw[ht];exact Zcg (q H1 s1)
def Z55(K:Fg)(C B D:Addr):Sp:=λvs H Q _=>∃(p k l:Addr) (rows:RS) (ns:List Nam) (b:Bool) (xs:LS) (d:Dt) (v:V),vs=[.ref p,.ref l,v]/\Zeh C B D H p k rows ns/\Zc4 rows/\Za6 rows ns/\SqB K b H l (xs.map V.str)/\xs.length<=12/\(∀ x∈xs,x∈rows.map (·.1)) /\
 TmV H d v/\Wf d/\(∀ i,(lvl i [d]).length<=1000)/\Zn4 ns xs.length d=true/\∀(a:Addr) (H':Hp),Zaj H H'->RsV H' (Zok rows ns xs 12 d []) a->Q (.ref a) H'
def Z86:Zah ["book","filling","term"] ["book","filling","term"] (Zad Zzq):=by nofun
def Z62(F:Def K mg "run" Zzq ["book","filling","term"] f fd)(DI:Def K mg "check_term" Ze7 ["book","filling","term"] fI fdI)(GI:⋯ 18 fI fdI ["book","filling","term"] (Zr4 K C B D))
  (DP:Def K mg "run_part" Zg9 pRP fP fdP) (GP:⋯ 22 fP fdP pRP (Z18 K C B D 12)):⋯ 23 f fd ["book","filling","term"] (Z55 K C B D):=by
 nomatch F.fn.ok Z86
 ·obtain⟨p,k,l,rows,ns,b,xs,d,v,rfl,_⟩:=h;rfl
 ·obtain⟨p,k,l,rows,ns,b,xs,d,v,rfl,bk,g,gn,hS,hl,hx,hv,wf,lz,ht,q⟩:=h;have hr18:Zci 18 _:=hr.mono (by decide);refine'⟨_,(pS (Za4 (Zae DI GI hr18 (pC (pv 0) (pC (pv 1) (pC (pv 2) Zaa)))))
   (Zac (Zak (Zae DP GP hr (pC (pv 0) (pC (pv 1) (pC (pv 2) (pC (Zcs Zaa) Zaa)))))))),?_⟩
  refine⟨Z,Z,Z,p,k,l,rows,ns,b,xs,d,v,Y,bk,g,gn,hS,hl,hx,hv,wf,lz,ht,λH1 s1=>?_⟩;refine⟨Z,Z,Z,Yj1 _,λt0 ht0=>?_⟩;have s12:Zaj H1 (upd H1 t0 (.tup [])):=Zbg ht0;have h02:(upd H1 t0 (.tup [])) t0=some (.tup []):=uS;generalize upd H1 t0 (.tup [])=H2 at s12 h02;have s2:=s1.trans s12;unfold Zn4 at ht;rw[Yl1]at ht;exact⟨p,k,l,t0,rows,ns,b,xs,d,v,[],Y,bk.mono s2,g,gn,hS.mono s2,hx,hv.keep (Zco s2),ht.2,h02,V,λa H3 s3 h3=>q a H3 (s2.trans s3) h3⟩
theorem Zx2{f:Dt->Nat->Rs}{G:Rs->Prop}:∀ {ds:List Dt}{i:Nat}{acc:LS}{r:Rs},(∀ c∈ds,∀ i,G (f c i))->goR f ds i acc=.inl r->G r
 | [],i,acc,r,_,h=>by cases h
 | c :: cs,i,acc,r,hf,h=>by
  cases hc:f c i with
  | bad b sp cl ks=>rw[Ycg hc]at h;injection h with h;rw[<- h,<- hc];exact hf c (.head _) i
  | kind x=>rw[Ycf hc]at h;exact Zx2 (λc hc=>hf c (.tail _ hc)) h
def RsG(rows:RS):Rs->Prop
 | .kind x=>x∈rows.map (·.1)
 | .bad _ sp c ks=>sp.length<=50/\ks.length<=2/\∀ x∈c,x∈rows.map (·.1)
theorem Zr9{rows:RS}{ns:List Nam}{xs:LS}(gn:Za6 rows ns)(hx:∀ x∈xs,x∈rows.map (·.1)):∀(j:Nat) (d:Dt),Zi0 ns xs.length j d=true->∀ sp:LN,sp.length + j<=50->RsG rows (Zok rows ns xs j d sp)
 | 0,d,h,sp,hs=>by cases h
 | j + 1,d,h,sp,hs=>by
  rcases Zkb h with⟨i,rfl,hi⟩ | ⟨n,hn,ds,rfl,hl,hk⟩
  ·exact Zoh gn hx (j + 1) _ h sp _ rfl
  ·rw[Zqp];cases hg:goR (λc i=>Zok rows ns xs j c (sp++[i])) ds 0 []with
   | inl r=>exact Zx2 (λc hc i=>Zr9 gn hx j c (hk c hc) _ (by rw[Yc,Yr1];omega)) hg
   | inr call =>
    show RsG rows (Zri rows ns n.1 sp call);rw[Znn gn.nd hn]
    rcases Zlr (Zqz rows (n.2.2.map (·.1)) call)with⟨i,e⟩ | ⟨b,ks,ev,kl,ec⟩
    ·have:Zno rows n sp call=.kind ((n.2.2.map (·.2)).getD i ("":Str)):=by unfold Zno;rw[e];rfl
     rw[this];exact Zlb (gn.each n hn) this
    ·unfold Zno;rw[ec];exact⟨W,kl,(Zx3 gn hx hl hk hg).known⟩
def Zsn(n:Nat)(ns:LN):(ns.map Zxg).all (W.kqdOk n)=true:=by
 rw[Yq1];intro z hz;obtain⟨k,_,rfl⟩:=Yh.mp hz;exact Z64 n k
def Z9q(n:Nat)(b:Bool):W.kqdOk n (.str (sB b))=true:=by
 cases b
 ·exact Z9n n
 ·exact Z9p n
def Z9o(n:Nat):W.kqdOk n (.str "kind")=true:=by rw[W.kqdOk];rfl'
def Z9r{rows:RS}(g:Zc4 rows):∀ {r:Rs},RsG rows r->W.kqdOk 9 (rsD r)=true
 | .kind x,h=>by
  show([.str "kind",.str x]:List Dt).all (W.kqdOk 8)=true;rw[Yn3,Yn3,Z9o,Zsk 8 (Zbi g x h)];rfl
 | .bad b sp c ks,⟨_,_,h⟩=>by
  show((.str (sB b):: .tuple (sp.map Zxg):: Znu c :: ks.map Zxg):List Dt).all (W.kqdOk 8)=true;rw[Yn3,Yn3,Yn3,Z9q,Zsn,Zkx 7 λx hx=>Zbi g x (h x hx)];show(true&&(W.kqdOk 8 (.tuple (sp.map Zxg))&&(true&&true)))=true;have:W.kqdOk 8 (.tuple (sp.map Zxg))=true:=by
   show(sp.map Zxg).all (W.kqdOk 7)=true;exact Zsn 7 sp
  rw[this];rfl
def tkB:Nat->Dt->Bool
 | 0,_=>false
 | k + 1,d=>match d with
  | .int i=>decide (0<=i)&&decide (i<100)
  | .tuple (.str w :: c :: cs)=>Zam w&&(c :: cs).all (tkB k)
  | _=>false
def Z5v{dp:Nat}{v:Int}(h:1<=dp)(h0:0<=v)(h1:v<100):tkB dp (.int v)=true:=by
 obtain⟨k,rfl⟩:∃ k,dp=k + 1:=⟨dp - 1,W⟩;show(decide (0<=v)&&decide (v<100))=true;rw[Jb h0,Jb h1];rfl
def Z5u{dp:Nat}{x:Str}{c:Dt}{cs:List Dt}(h:2<=dp)(hw:Zam x=true)(hk:∀ d∈c :: cs,tkB (dp - 1) d=true):tkB dp (.tuple (.str x :: c :: cs))=true:=by
 obtain⟨k,rfl⟩:∃ k,dp=k + 1:=⟨dp - 1,W⟩;show(Zam x&&(c :: cs).all (tkB k))=true;rw[hw,Yi2,Yq1];exact hk
def Zls{k:Nat}{d:Dt}(h:tkB (k + 1) d=true):(∃ i:Nat,d=.int i/\i<100)\/∃ x c cs,d=.tuple (.str x :: c :: cs)/\Zam x=true/\∀ e∈c :: cs,tkB k e=true:=by
 cases d with
 | int i =>
  have h:(decide (0<=i)&&decide (i<(100:Int)))=true:=h;rw[Yl1]at h;have h1:=Je h.1;have h2:=Je h.2;exact .inl ⟨i.toNat,by rw[Yg2 h1],W⟩
 | tuple ds =>
  match ds,h with
  | .str x :: c :: cs,h =>
   have h:(Zam x&&(c :: cs).all (tkB k))=true:=h;rw[Yl1,Yq1]at h;exact .inr ⟨x,c,cs,Y,h.1,h.2⟩
 | _=>cases h
def tx:Nat->Dt->LN
 | 0,_=>[]
 | k + 1,d=>match d with
  | .int i=>Zya i.toNat
  | .tuple (.str w :: cs)=>w.cps.toList++40 :: (jn (cs.map (tx k))++[41])
  | _=>[]
def Zrv(k:Nat)(i:Nat):tx (k + 1) (.int i)=Zya i:=rfl
def Zrt(k:Nat)(w:Str)(cs:List Dt):tx (k + 1) (.tuple (.str w :: cs))=w.cps.toList++40 :: (jn (cs.map (tx k))++[41]):=rfl
def Zs8:∀ n:Fin 100,1<=(Zya n).length/\(Zya n).length<=2:=by rfl'
def Zur:∀ n:Fin 100,(Zya n).all Zh1=true:=by rfl'
def Z2n:∀ l:List (LN),(jn l).length + 2<=(l.map λa=>a.length + 2).sum + 2
 | []=>by simp[jn]
 | a :: r=>by
  show(a++r.flatMap λb=>44 :: 32 :: b).length + 2<=_;rw[Yc,Yz,List.sum_cons];have:(r.flatMap λb=>44 :: 32 :: b).length=(r.map λa=>a.length + 2).sum:=by
   rw[List.length_flatMap]
   congr 1
  omega
theorem Zru:∀(k:Nat) (d:Dt),tkB k d=true->(tx k d).length + 2<=13 * Zfq k [d]
 | 0,d,h=>by cases h
 | k + 1,d,h=>by
  rcases Zls h with⟨i,rfl,hi⟩ | ⟨x,c,cs,rfl,hx,hk⟩
  ·rw[Zrv];have:=(Zs8 ⟨i,hi⟩).2;have e:Zfq (k + 1) [(.int i:Dt)]=1:=by
    rw[Zjh,Zho];show 1 + Zfq k []=1;rw[Znl]
   rw[e];have:(Zya i).length<=2:=this;omega
  ·rw[Zrt,Znk];have wl:=Zbu hx;have sl:=Zbx x;have jl:=Z2n ((c :: cs).map (tx k));have ls:∀ l:List Dt,(∀ e∈l,tkB k e=true)->((l.map (tx k)).map λa=>a.length + 2).sum<=13 * Zfq k l:=λl=>by
    induction l with
    | nil=>intro _;exact Yj1 _
    | cons e r ih =>
     intro hl;rw[Yz,Yz,List.sum_cons,show e :: r=[e]++r from rfl,Zdb];have h1:=Zru k e (hl e (.head _));have h2:=ih λz hz=>hl z (.tail _ hz);omega
   have l1:=ls (c :: cs) hk;rw[Yc,Yv,Yc,Yr1];omega
def step(full:LN)(i:Nat)(s:Int×LN):Int×LN :=
 if full[i]?=some 40 then(s.1 + 1,s.2)else if full[i]?=some 41 then(s.1 - 1,s.2)else if s.1=0/\(full.drop i).take 2=[44,32]then(s.1,s.2++[i + 2])else s
def sg(full:LN):Nat->Nat->Int×LN->Int×LN
 | _,0,s=>s
 | i,m + 1,s=>sg full (i + 1) m (step full i s)
theorem Zgp(full:LN):∀(m i m':Nat) (s:Int×LN),sg full i (m + m') s=sg full (i + m) m' (sg full i m s)
 | 0,i,m',s=>by rw[Nat.zero_add];rfl
 | m + 1,i,m',s=>by
  rw[show m + 1 + m'=(m + m') + 1 by omega];show sg full (i + 1) (m + m') (step full i s)=_;rw[Zgp full m (i + 1) m',show i + 1 + m=i + (m + 1) by omega];rfl
def Zv5(full:LN)(i m:Nat)(s:Int×LN):sg full i (m + 1) s=step full (i + m) (sg full i m s):=by rw[Zgp];rfl
def plain(c:Nat):Prop:=c≠40/\c≠41/\c≠44
def Ziz{full:LN}{i c:Nat}(h:full[i]?=some c)(hc:plain c)(s:Int×LN):step full i s=s:=by
 obtain⟨h1,h2,h3⟩:=hc;have hi:=(Yi.mp h).1;unfold step;rw[h,if_neg (λz=>h1 (Ym z)),if_neg (λz=>h2 (Ym z)),if_neg];rintro⟨_,z⟩;rw[Yj3 hi,Yo5]at z;injection z with z;rw[Yb hi]at h;exact h3 ((Ym h).symm.trans z)
def Zvg{full:LN}{i:Nat}(h:full[i]?=some 44){s:Int×LN}(hs:s.1≠0):step full i s=s:=by
 unfold step;rw[h,if_neg (by decide),if_neg (by decide),if_neg (λz=>hs z.1)]
def Zn7{full:LN}{i:Nat}(h:full[i]?=some 40)(s:Int×LN):step full i s=(s.1 + 1,s.2):=by
 unfold step;rw[h,if_pos rfl]
def Zlt{full:LN}{i:Nat}(h:full[i]?=some 41)(s:Int×LN):step full i s=(s.1 - 1,s.2):=by
 unfold step;rw[h,if_neg (by decide),if_pos rfl]
def Zld{full pre p post:LN}(h:full=pre++(p++post)){j:Nat}{c:Nat}(hj:p[j]?=some c):full[pre.length + j]?=some c:=by
 have hl:=(Yi.mp hj).1;rw[h,Yh2 (by omega),show pre.length + j - pre.length=j by omega,Yi3 hl];exact hj
def Cl(p:LN):Prop:=∀(full pre post:LN),full=pre++(p++post)->∀ s:Int×LN,0<=s.1->sg full pre.length p.length s=s
def Ztb{p:LN}(h:∀ c∈p,plain c):Cl p:=λfull pre post e s _=>by
 have:∀ m,m<=p.length->sg full pre.length m s=s:=λm=>by
  induction m with
  | zero=>intro _;rfl
  | succ m ih =>
   intro hm;rw[Zv5,ih (by omega)];have hp:p[m]?=some p[m]:=Yb (by omega);exact Ziz (Zld e hp) (h _ (Yf hp)) s
 exact this p.length (Yg _)
def Zyo{p q:LN}(hp:Cl p)(hq:Cl q):Cl (p++q):=λfull pre post e s hs=>by
 rw[Yc,Zgp,hp full pre (q++post) (by rw[e,Yx1]) s hs];have:=hq full (pre++p) post (by rw[e,Yx1,Yx1]) s hs;rw[Yc]at this;exact this
def Z6b{full pre q post:LN}(e:full=pre++((44 :: 32 :: q)++post))(hq:Cl q){s:Int×LN}(h0:0<=s.1)(hs:s.1≠0):sg full pre.length (44 :: 32 :: q).length s=s:=by
 have h1:full[pre.length]?=some 44:=Zld (j:=0) e rfl;have h2:full[pre.length + 1]?=some 32:=Zld (j:=1) e rfl;rw[show(44 :: 32 :: q).length=2 + q.length by rw[Yv,Yv];omega,Zgp];have s2:sg full pre.length 2 s=s:=by
  show step full (pre.length + 1) (step full pre.length s)=s;rw[Zvg h1 hs,Ziz h2 ⟨V,V,V⟩]
 rw[s2];have:=hq full (pre++[44,32]) post (by rw[e];simp) s h0;rw[Yc]at this;exact this
def Z82{full:LN}:∀ {qs:List (LN)}{pre post:LN},full=pre++(jn qs++post)->(∀ q∈qs,Cl q)->∀ {s:Int×LN},0<=s.1->s.1≠0->sg full pre.length (jn qs).length s=s:=by
 have sep:∀ {r:List (LN)} {pre post:LN},full=pre++((r.flatMap λb=>44 :: 32 :: b)++post)->(∀ q∈r,Cl q)->∀ {s:Int×LN},0<=s.1->s.1≠0->sg full pre.length (r.flatMap λb=>44 :: 32 :: b).length s=s:=λ{r}=>by
  induction r with
  | nil=>intro pre post _ _ s _ _;rfl
  | cons q r ih =>
   intro pre post e hq s h0 hs;rw[Yy2]at e ⊢;rw[Yc,Zgp,Z6b (post:=(r.flatMap λb=>44 :: 32 :: b)++post) (by rw[e,Yx1]) (hq q (.head _)) h0 hs];have:=ih (pre:=pre++(44 :: 32 :: q)) (post:=post) (by rw[e];simp) (λq hq'=>hq q (.tail _ hq')) h0 hs;rw[Yc]at this;exact this
 intro qs pre post e hq s h0 hs;cases qs with
 | nil=>rfl
 | cons a r =>
  have e:full=pre++((a++r.flatMap λb=>44 :: 32 :: b)++post):=e;show sg full pre.length (a++r.flatMap λb=>44 :: 32 :: b).length s=s;rw[Yc,Zgp,hq a (.head _) full pre ((r.flatMap λb=>44 :: 32 :: b)++post) (by rw[e,Yx1]) s h0];have:=sep (r:=r) (pre:=pre++a) (post:=post) (by rw[e];simp) (λq hq'=>hq q (.tail _ hq')) h0 hs;rw[Yc]at this;exact this
def Zpg{c:Nat}(h:Zjd c=true):plain c:=by
 unfold Zjd at h;have:=Je h;exact⟨W,W,W⟩
def Zyb{c:Nat}(h:Zh1 c=true):plain c:=by
 unfold Zh1 at h;have:=Je h;exact⟨W,W,W⟩
theorem Zn2:∀(k:Nat) (d:Dt),tkB k d=true->Cl (tx k d)
 | 0,d,h=>by cases h
 | k + 1,d,h=>by
  rcases Zls h with⟨i,rfl,hi⟩ | ⟨x,c,cs,rfl,hx,hk⟩
  ·rw[Zrv];exact Ztb λz hz=>Zyb (Yq1.mp (Zur ⟨i,hi⟩) z hz)
  ·rw[Zrt];have hw:=((Zb0 x).mp hx).2;refine Zyo (Ztb λz hz=>Zpg (hw z hz)) λfull pre post e s hs=>?_;have h1:full[pre.length]?=some 40:=Zld (j:=0) e rfl;have hc:∀ q∈(c :: cs).map (tx k),Cl q:=λq hq=>by
    obtain⟨d,hd,rfl⟩:=Yh.mp hq;exact Zn2 k d (hk d hd)
   generalize(c :: cs).map (tx k)=qs at e hc ⊢;have e2:full=(pre++[40])++(jn qs++([41]++post)):=by rw[e];simp
   have m:=Z82 e2 hc (s:=(s.1 + 1,s.2)) (by show 0<=s.1 + 1;omega) (by show s.1 + 1≠0;omega);rw[Yc,Yr1]at m;have h3:full[pre.length + (1 + (jn qs).length)]?=some 41:=Zld e (by
    rw[show 1 + (jn qs).length=(jn qs).length + 1 by omega,Yg4,Yh2 (Yg _),Nat.sub_self];rfl)
   rw[show(40 :: (jn qs++[41])).length=1 + ((jn qs).length + 1) by rw[Yv,Yc,Yr1];omega,Zgp,Zgp];have s1:sg full pre.length 1 s=(s.1 + 1,s.2):=Zn7 h1 s;rw[s1,m];show step full (pre.length + 1 + (jn qs).length) (s.1 + 1,s.2)=s;rw[Zlt (by rw[<- h3,show pre.length + 1 + (jn qs).length=pre.length + (1 + (jn qs).length) by omega])];show(s.1 + 1 - 1,s.2)=s;rw[show s.1 + 1 - 1=s.1 by omega]
def Zm0:Nat->List (LN)->LN
 | _,[]=>[]
 | o,p :: r=>o :: Zm0 (o + p.length + 2) r
theorem Zv6{full:LN}:∀ {r:List (LN)}{pre post:LN}{ss:LN},full=pre++((r.flatMap λb=>44 :: 32 :: b)++post)->(∀ q∈r,Cl q)->sg full pre.length (r.flatMap λb=>44 :: 32 :: b).length (0,ss)=(0,ss++Zm0 (pre.length + 2) r)
 | [],pre,post,ss,_,_=>by
  show(0,ss)=(0,ss++[]);rw[Yy1]
 | q :: r,pre,post,ss,e,hq=>by
  rw[Yy2]at e ⊢;have e0:full=pre++((44 :: 32 :: q)++((r.flatMap λb=>44 :: 32 :: b)++post)):=by rw[e,Yx1]
  have h2:full[pre.length + 1]?=some 32:=Zld (j:=1) e0 rfl;have h1:full[pre.length]?=some 44:=Zld (j:=0) e0 rfl;have hd:(full.drop pre.length).take 2=[44,32]:=by rw[e0,List.drop_left];rfl
  have st:step full pre.length (0,ss)=(0,ss++[pre.length + 2]):=by
   unfold step;rw[h1,if_neg (by decide),if_neg (by decide),if_pos ⟨Y,hd⟩]
  rw[Yc,Zgp,show(44 :: 32 :: q).length=2 + q.length by rw[Yv,Yv];omega,Zgp];have s2:sg full pre.length 2 (0,ss)=(0,ss++[pre.length + 2]):=by
   show step full (pre.length + 1) (step full pre.length (0,ss))=_;rw[st,Ziz h2 ⟨V,V,V⟩]
  rw[s2];have cq:=hq q (.head _) full (pre++[44,32]) ((r.flatMap λb=>44 :: 32 :: b)++post) (by rw[e0];simp) (0,ss++[pre.length + 2]) (Int.le_refl _);rw[Yc]at cq;have cq:sg full (pre.length + 2) q.length (0,ss++[pre.length + 2])=(0,ss++[pre.length + 2]):=cq;rw[cq];have ih:=Zv6 (full:=full) (r:=r) (pre:=pre++(44 :: 32 :: q)) (post:=post) (ss:=ss++[pre.length + 2]) (by rw[e0];simp) λz hz=>hq z (.tail _ hz);rw[Yc,show(44 :: 32 :: q).length=2 + q.length by rw[Yv,Yv];omega]at ih;rw[ih,Yx1];show(0,ss++((pre.length + 2):: Zm0 (pre.length + (2 + q.length) + 2) r))=(0,ss++((pre.length + 2):: Zm0 (pre.length + 2 + q.length + 2) r));rw[show pre.length + (2 + q.length) + 2=pre.length + 2 + q.length + 2 by omega]
def Z6a{p:LN}{r:List (LN)}(h:∀ q∈p :: r,Cl q):sg (jn (p :: r)) 0 (jn (p :: r)).length (0,[0])=(0,Zm0 0 (p :: r)):=by
 have e:jn (p :: r)=[]++(p++((r.flatMap λb=>44 :: 32 :: b)++[])):=by rw[Yy1];rfl
 have l:(jn (p :: r)).length=p.length + (r.flatMap λb=>44 :: 32 :: b).length:=Yc;rw[l,Zgp];have c:=h p (.head _) _ [] _ e (0,[0]) (Int.le_refl _);have c:sg (jn (p :: r)) 0 p.length (0,[0])=(0,[0]):=c;rw[c];have o:=Zv6 (full:=jn (p :: r)) (r:=r) (pre:=p) (post:=[]) (ss:=[0]) (by rw[e];rfl) λq hq=>h q (.tail _ hq);rw[Nat.zero_add,o];show(0,[0]++Zm0 (p.length + 2) r)=(0,0 :: Zm0 (0 + p.length + 2) r);rw[Nat.zero_add];rfl
def zz(ss:LN)(n:Nat):List (Nat×Nat):=ss.zip ((ss.drop 1).map (· - 2)++[n])
theorem Zrr{full:LN}:∀ {r:List (LN)}{p pre:LN},full=pre++jn (p :: r)->(zz (Zm0 pre.length (p :: r)) full.length).map (λab=>(full.drop ab.1).take (ab.2 - ab.1))=p :: r/\∀ ab∈zz (Zm0 pre.length (p :: r)) full.length,ab.1<=ab.2/\ab.2<=full.length
 | [],p,pre,e=>by
  have e:full=pre++(p++[]):=e;have ez:zz (Zm0 pre.length [p]) full.length=[(pre.length,full.length)]:=rfl;rw[ez];have l:full.length=pre.length + p.length:=by rw[e,Yy1,Yc]
  refine⟨?_,λab h=>by rw[Ye.mp h];exact⟨W,Yg _⟩⟩;show[(full.drop pre.length).take (full.length - pre.length)]=[p];rw[l,show pre.length + p.length - pre.length=p.length by omega,e,List.drop_left,Yy1,Yp1]
 | q :: r,p,pre,e=>by
  have e1:full=(pre++p++[44,32])++jn (q :: r):=by
   rw[e];show pre++(p++(q :: r).flatMap λb=>44 :: 32 :: b)=_;rw[Yy2];show pre++(p++((44 :: 32 :: q)++_))=(pre++p++[44,32])++(q++_);simp
  have l1:(pre++p++[44,32]).length=pre.length + p.length + 2:=by rw[Yc,Yc];rfl
  have ih:=Zrr (r:=r) (p:=q) (pre:=pre++p++[44,32]) e1;rw[l1]at ih;have ez:zz (Zm0 pre.length (p :: q :: r)) full.length=(pre.length,pre.length + p.length):: zz (Zm0 (pre.length + p.length + 2) (q :: r)) full.length:=rfl;have ll:full.length=pre.length + p.length + 2 + (jn (q :: r)).length:=by
   have:=congrArg List.length e1;rw[Yc,l1]at this;exact this
  rw[ez];refine⟨?_,λab h=>?_⟩
  ·rw[Yz,ih.1]
   congr 1
   show(full.drop pre.length).take (pre.length + p.length - pre.length)=p;rw[show pre.length + p.length - pre.length=p.length by omega,e1,Yx1,Yx1,List.drop_left,List.take_left]
  ·rcases Yt.mp h with z | z
   ·rw[z];exact⟨by show pre.length<=pre.length + p.length;omega,by show pre.length + p.length<=full.length;omega⟩
   ·exact ih.2 ab z
theorem Z1z{k:Nat}:∀ l:List Dt,(∀ e∈l,tkB k e=true)->((l.map (tx k)).map λa=>a.length + 2).sum<=13 * Zfq k l
 | [],_=>Yj1 _
 | e :: r,hl=>by
  rw[Yz,Yz,List.sum_cons,show e :: r=[e]++r from rfl,Zdb];have h1:=Zru k e (hl e (.head _));have h2:=Z1z r λz hz=>hl z (.tail _ hz);omega
def Z1t(k:Nat)(l:List Dt)(i:Nat):Zfq k (l.take i)<=Zfq k l:=by
 have:Zfq k l=Zfq k (l.take i) + Zfq k (l.drop i):=by rw[<- Zdb,Yk3]
 omega
def Z05{k:Nat}{l:List Dt}(h:∀ e∈l,tkB k e=true)(i:Nat):(jn ((l.take i).map (tx k))).length<=13 * Zfq k l:=by
 have h1:=Z2n ((l.take i).map (tx k));have h2:=Z1z (l.take i) λe he=>h e (Ye4 he);have h3:=Z1t k l i;omega
def Zrg{k:Nat}{l:List Dt}{d:Dt}(h:d∈l):Zfq k [d]<=Zfq k l:=by
 obtain⟨a,b,e⟩:=List.append_of_mem h;rw[e,show a++d :: b=a++([d]++b)from rfl,Zdb,Zdb];omega
def Z57(j:Nat):Sp:=λvs H Q _=>∃(d:Dt) (v:V),vs=[v]/\TmV H d v/\tkB j d=true/\Zfq j [d]<=60/\∀(s:Str) (H':Hp),Zaj H H'->s.cps.toList=tx j d->Q (.str s) H'
structure Yee(mg:Str->OU):Prop where
 isi:mg "isinstance"=none
 tuple:mg "tuple"=none
 str:mg "str"=none
 len:mg "len"=none
 range:mg "range"=none
def Zxn{i:Nat}(h:i<100):((i:Int)).natAbs.log2<1920:=by
 have:((i:Int)).natAbs=i:=by omega
 rw[this];exact Yy5 (Nat.log2_le_self i) (by omega)
def Z1s:("(":Str).cps.toList=[40]:=by rfl'
def Zyi:(")":Str).cps.toList=[41]:=by rfl'
def Z44:(", ":Str).cps.toList=[44,32]:=by rfl'
def Z39:(["part"]:LS).Nodup:=by rfl'
def Zsx{k:Nat}{ds:List Dt}(hk:∀ e∈ds,tkB k e=true)(hc:Zfq k ds<=60):ds.length<=60:=by
 cases k with
 | zero =>
  cases ds with
  | nil=>exact Yj1 _
  | cons e r=>exact absurd (hk e (.head _)) (λz=>by cases z)
 | succ k =>
  have:ds.length<=Zfq (k + 1) ds:=by rw[Zjh];omega
  omega
abbrev nTx:LS:=["term","word","parts"]
def Z83:Zah nTx ["term"] (Zad Zew):=by nofun
def Zz4(F:Def K mg "term_text" Zew ["term"] f fd)(T:Zy1 mg)(str:mg "str"=none)(DN:Def K mg "is_number" Zdp ["thing"] fN fdN):∀ j,⋯ (2 + j) f fd ["term"] (Z57 j):=by
 have GN:⋯ 1 fN fdN ["thing"] Zmo:=Zmw DN T;intro j
 induction j with
 | zero =>
  nomatch F.fn.ok Z83
  ·obtain⟨d,v,rfl,_⟩:=h;rfl
  ·obtain⟨d,v,rfl,_,z,_⟩:=h;cases z
 | succ j GS =>
  nomatch F.fn.ok Z83
  ·obtain⟨d,v,rfl,_⟩:=h;rfl
  ·obtain⟨d,v,rfl,hv,ht,hc,q⟩:=h;have nd:=Z83.nd;have hr1:Zci 1 _:=hr.mono (show 1<=2 + j by omega)
   ac_nf
   refine'⟨_,(pS (Za0 (Zb1 (Zae DN GN hr1 (pC (pv 0) Zaa))) (Zac (Zak (Za5 Zpz (by rfl) str PyProof.Rows.boot_str (pC (pv 0) Zaa)))) Zal)
   (pS (sE 1 nd (Za2 (r:=Zj0 K) Zch (pv 0) Zaf (λ_ _=>rfl)))
   (pS (sE 2 nd (Zdg Yf3 Yf5 Yg5 Zm8 Zbp (pC ?eC Zaa)))
   (Zac (Zak (Zsi (Zfi (Zwi (pv 1)) (Zfi Zse (Zfi (Zwi (pv 2)) (Zfi Zse Zwh)))))))))),?_⟩
   case eC=>exact(Zbk ["part"] [] [] (λ_=>Zaw (osc:=Zad Zew) (on:=nTx) (by rfl') rfl rfl rfl) (Zgi (Zbs (r:=Z3k K) Zkc (pv 0) (Zbt Zaf) Zdj)) (λC s H fp=>Zai (i:=0) Z39 rfl (Or.inl rfl) (Or.inr rfl)) (λC s H fp=>Zbj) (λC s H fp=>Zae F GS hr (pC (pv 0) Zaa)))
   exists let b:=Zau _ a;let c:=Zau _ b;let e:=_;Zau (Zlg _ e _) c _ _ _
   rcases Zls ht with⟨i,rfl,hi⟩ | ⟨x,c,cs,rfl,hx,hk⟩
   ·cases hv;exact⟨Z,.int i,Z,.int _,Z,Ze5 ⟨Z,Z,Zxn hi,q _ H (Zaj.refl _) (by rw[Zrv];exact Zs7 i)⟩⟩
   ·cases hv with
    | @tup a vs _ ha hts =>
    cases hts with
    | @cons _ _ v0 vs h0 hts =>
    cases h0;rw[Znk]at hc;have wl:=Zbu hx;have vl:=hts.length;refine⟨Z,.tuple (.str x :: c :: cs),Z,.tup ha (.cons (.str _ (Zgl hx)) hts),Z,Zcg ⟨Z,a,_,_,Z,Y,SqT.of ha,at0 _ _,?_⟩⟩;generalize c :: cs=ds at hk hts hc q vl;have d60:=Zsx hk (by omega);refine⟨Y,Z,Z,?_⟩;unfold Zhx;refine Zki (K:=K) (lo:=some 1) (hi:=none) ha λb H1 s1 hb=>?_;rw[Z5p]at hb;have hb:H1 b=some (.tup vs):=hb;let Iv1:Addr->Nat->LV->St->Hp->Prop:=λD i ys σ' H'=>H1 D=none/\Zaj H1 H'/\H' D=some (.lst ys)/\∃(xs:LS) (o:OV),ys=xs.map V.str/\xs.map (λx=>x.cps.toList)=(ds.take i).map (tx j)/\σ'=[o];refine⟨b,Y,⟨_,SqT.of hb⟩,Zcc (Zc9 (xs:=vs)) (sL (by omega)) Iv1 ?_ ?_ ?_ ?_⟩
    ·intro D hD;exact⟨hD,Zbg hD,uS,[],none,Y,by rw[Yj2];rfl,Y⟩
    ·rintro D i ys σ' H' hi ⟨hD,hs,hl,xs,o,rfl,hxs,_⟩;refine⟨SqT.of (hs _ _ hb),?_⟩;have:=congrArg List.length hxs;rw[Ya,Ya,Yk1]at this;rw[Ya];omega
    ·rintro D i v ys σ' H' hD hx' ⟨_,hs,hl,xs,o,rfl,hxs,rfl⟩;obtain⟨d,hd,hvd⟩:=hts.at_ hx';have hdm:=Yf hd;have ck:=Zrg (k:=j) hdm;refine⟨Z,d,v,Y,hvd.keep (Zco (s1.trans hs)),hk d hdm,W,λs2 H2 s12 hs2=>?_⟩;have hD2:=s12 _ _ hl;refine⟨hD2,hD,λb o e=>by rw[Zab (nNo e hD)];exact s12 _ _ (hs _ _ e),uS,xs++[s2],_,by rw[Yr];rfl,?_,Y⟩;rw[Yr,hxs,Ym1,hd,Yr];show _++[s2.cps.toList]=_++[tx j d];rw[hs2]
    ·rintro D ys σ' H' hD ⟨_,hs,hl,xs,o,rfl,hxs,_⟩;rw[<- vl,Yp1]at hxs;have xl:=congrArg List.length hxs;rw[Ya,Ya]at xl;have xb:∀ y∈xs,y.length<=780:=λy hy=>by
      have:y.cps.toList∈ds.map (tx j):=by rw[<- hxs];exact Yh.mpr ⟨y,hy,Y⟩
      obtain⟨d,hd,e⟩:=Yh.mp this;have tl:=Zru j d (hk d hd);have ck:=Zrg (k:=j) hd;have:=congrArg List.length e;rw[Zbx]at this;omega
     refine⟨_,D,xs,780,Y,Y,hl,xb,?_,?_⟩
     ·have:(", ":Str).length=2:=rfl;rw[this];omega
     have gl:=Z1a xs;rw[hxs]at gl;have gb:(Builtin.Str.glued ", " xs).length<=780:=by
      have:=congrArg List.length gl;rw[Zbx]at this;have jb:=Z05 hk ds.length;rw[Yp1]at jb;omega
     refine⟨Z,x,Y,W,V,Z,Z,W,V,?_⟩;refine q _ H' (s1.trans hs) ?_;rw[Zhr,Zhr,Zhr,Zhr,gl,Zrt];show((([]++x.cps.toList)++("(":Str).cps.toList)++jn (ds.map (tx j)))++(")":Str).cps.toList=_;rw[Z1s,Zyi];simp
def Z58:Sp:=λvs H Q _=>∃ x:Str,vs=[.str x]/\x.length<=1000/\∀ H',Zaj H H'->Q (.bl (Z2t x.cps.toList)) H'
def Zvl:Sp:=λvs H Q _=>∃(x:Str) (p:LN) (r:List (LN)),vs=[.str x]/\x.length<=1000/\x.cps.toList=jn (p :: r)/\(∀ q∈p :: r,Cl q) /\
 ∀(l:Addr) (xs:LS) (H':Hp),H l=none->Zaj H H'->H' l=some (.lst (xs.map V.str))->xs.map (λx=>x.cps.toList)=p :: r->Q (.ref l) H'
def Zv4(c d:Nat):decide (V.str ⟨#[c]⟩=V.str ⟨#[d]⟩)=decide (c=d):=Yw2.mpr ⟨λz=>by injection z with z;injection z with z;have:=congrArg (λa=>a.toList) z;simpa using this,λz=>by rw[z]⟩
def Zsw:("(":Str)=⟨#[40]⟩:=by rfl'
def Zph:(")":Str)=⟨#[41]⟩:=by rfl'
def Zuc:("0":Str)=⟨#[48]⟩:=by rfl'
def Z3a{x y:Str}:(V.str x=V.str y)↔x.cps.toList=y.cps.toList:=⟨λz=>by injection z with z;rw[z],λz=>by rw[Md.str_ext z]⟩
theorem Zw7:∀(l:List (LN)) (o:Nat),∀ s∈Zm0 o l,o<=s
 | [],o,s,h=>by cases h
 | p :: r,o,s,h=>by
  rcases Yt.mp h with z | z
  ·omega
  ·have:=Zw7 r _ s z;omega
def Z7n:V->V
 | .int i=>.int (i - 2)
 | v=>v
def Yd8(x:Str):V×V->V
 | (.int a,.int b)=>.str (Txt.slice x (some a) (some b))
 | _=>.non
def Z69:(["start"]:LS).Nodup:=by rfl'
def Z7a:(["start","end","text"]:LS).Nodup:=by rfl'
structure Yaq(mg:Str->OU):Prop where
 enum:mg "enumerate"=none
 len:mg "len"=none
 zip:mg "zip"=none
def Ydh:Zah ["text"] ["text"] (Zad Zd2):=by nofun
def Z66{T1:Tok}(F:Def K mg "is_figures" Zd2 ["text"] f fd)(len:mg "len"=none)(all:mg "all"=none)(hl:mg "DIGITS"=some (.str figures T1)):⋯ 1 f fd ["text"] Z58:=by
 nomatch F.fn.ok Ydh
 ·obtain⟨x,rfl,_⟩:=h;rfl
 ·obtain⟨x,rfl,hx,k⟩:=h
  ac_nf
  refine'⟨_,(pS (Za0 (PW.pt (Zhz (Zcr (Zj1 Zjt Zjt Zaf (Zao Zb8 (by rfl) len Yg1 (pC (pv 0) Zaa)) Zaf)) (Zgr (Zcr (Zb1 (Zao (r:=Z8d K λbs=>bs.all id) (Zit rfl) (by rfl) all Yp4 (pC ?eC Zaa))))))) (Zac (Zak Zge)) Zal)
   (Zac (Zak (Z6t (Zc1 Zdk (Zao Zb8 (by rfl) len Yg1 (pC (pv 0) Zaa)) Zaf (Zar _)) (Zgs (Zc1 Zor (Za2 (r:=Z8c) Zs1 (pv 0) Zaf (λ_ _=>rfl)) Zbp (Zar _))))))),?_⟩
  case eC=>exact(Zbk ["sign"] [] [] (λ_=>Zaw (osc:=Zad Zd2) (on:=["text"]) (by rfl') rfl rfl rfl) (Z2k (pv 0)) (λC s H fp=>Zai (i:=0) Zxe rfl (Or.inl rfl) (Or.inr rfl)) (λC s H fp=>Zbj)
     (λC s H fp=>Zc1 Zot (pv 0) (Zdw (v:=.str figures) (by rfl) hl ⟨Z⟩) (by with_unfolding_all rfl)))
  exists Zau _ a _ _ _
  have sl:=Zbx x;have same:Zaj H H:=Zaj.refl H;have no:¬ (1<=x.length/\x.length<=2)->Z2t x.cps.toList=false:=λh=>by unfold Z2t;rw[sl,Jc h];rfl
  refine⟨Z,_,Z,⟨sL (by omega),Y⟩,_,Z,Y,Z,?_⟩;refine Ze1 (λh1=>?_) (λh1=>?_)
  ·have h1:(1:Int)<=(x.length:Int):=Je h1;refine⟨_,Z,Y,Z,?_⟩;refine Ze1 (λh2=>?_) (λh2=>?_)
   ·have h2:¬ ((x.length:Int)<=2):=by simpa using h2
    have q:=k H same;rw[no (by omega)]at q;exact q
   ·have h2:((x.length:Int)<=2):=by simpa using h2
    refine⟨Z,Z,Zd9 Zr8 (by unfold Zb9;rw[Ya,Zbx];exact sL (by omega)) (λ_=>true) Z06 (λ_ _ _=>trivial) ?_ ?_ ?_⟩
    ·intro D ys v R _ _ hR;exact hR
    ·intro D ys v R _ hv _ hR;obtain⟨c,_,e⟩:=Yh.mp hv;subst e;exact⟨Z,_,Z,Y,hR⟩
    ·intro D hD;refine⟨D,x.cps.toList.map Zh1,Y,SqL.of (by rw[<- Zv3];exact uS),Z,?_⟩;have s1:Zaj H (upd H D (.lst (((Zb9 x).filter λ_=>true).map Z06))):=Zbg hD;generalize upd H D (.lst (((Zb9 x).filter λ_=>true).map Z06))=H1 at s1;have k1:=k H1 s1;unfold Z2t at k1;rw[sl,Jb (show 1<=x.length/\x.length<=2 by omega),Yi2]at k1;have e:(x.cps.toList.map Zh1).all id=x.cps.toList.all Zh1:=by rw[List.all_map];rfl
     show(if(!((x.cps.toList.map Zh1).all id))=true then _ else _);rw[e];cases ha:x.cps.toList.all Zh1 with
     | false =>
      rw[ha]at k1;exact Ze5 k1
     | true =>
      rw[ha,Yi2]at k1;refine Zcg ⟨Z,_,Z,⟨sL (by omega),Y⟩,Y,Z,?_⟩;have el:decide (V.int (x.length:Int)=V.int 1)=decide (x.length=1):=Yw2.mpr ⟨λz=>by injection z with z;omega,λz=>by rw[z];rfl⟩;rw[el];cases hx1:decide (x.length=1)with
      | true =>
       rw[hx1]at k1;exact Ze5 k1
      | false =>
       rw[hx1,Bool.false_or]at k1;obtain⟨c,hc⟩:∃ c,x.cps.toList[0]?=some c:=⟨x.cps.toList[0],Yb (by omega)⟩;have hh:x.cps.toList.head?=some c:=by rw[List.head?_eq_getElem?];exact hc
       refine Zcg ⟨Z,x,0,c,Y,Y,sL (by omega),Zbl (j:=0) hc,Y,?_⟩;rw[hh]at k1;show Q (.bl (!decide (V.str ⟨#[c]⟩=V.str ("0":Str)))) H1;rw[Zuc,Zv4];have e2:decide (some c=some 48)=decide (c=48):=Yw2.mpr ⟨λz=>Ym z,λz=>by rw[z]⟩;rw[e2]at k1;exact k1
  ·have h1:¬ ((1:Int)<=(x.length:Int)):=λz=>h1 (Jb z);refine⟨Z,?_⟩;refine Ze5 ?_;have q:=k H same;rw[no (by omega)]at q;exact q
abbrev Z95:LS:=["text","starts","depth","spot","sign","ends"]
def Z6d:Zah Z95 ["text"] (Zad Zcv):=by nofun
def Zz5(F:Def K mg "split_parts" Zcv ["text"] f fd)(T:Yaq mg):⋯ 1 f fd ["text"] Zvl:=by
 nomatch F.fn.ok Z6d
 ·obtain⟨x,p,r,rfl,_⟩:=h;rfl
 ·obtain⟨x,p,r,rfl,hx,hj,hcl,q⟩:=h;have nd:=Z6d.nd
  ac_nf
  refine'⟨_,(pS (sE 1 nd (Zbd (pC Zaf Zaa)))
   (pS (sE 2 nd Zaf)
   (pS (Zbh Yw rfl (Zzw (by rfl) T.enum (pC (pv 0) Zaa)) (Zeg rfl (gC (gE 3 nd) (gC (gE 4 nd) Zc0)))
    (Zac (Za0 (Zan Zdk (pv 4) Zbp (Zar _)) (Zac (sE 2 nd (Zax Zcb (pv 2) Zaf)))
     (Zac (Za0 (Zan Zdk (pv 4) Zbp (Zar _)) (Zac (sE 2 nd (Zax Zhu (pv 2) Zaf)))
      (Zac (Za0 (PW.pt (Zl0 (Zan Zdk (pv 2) Zaf (Zar _)) (Zi4 (Zan Zdk (Zbs (r:=Z5l) Zkd (pv 0) (Zbt (pv 3)) (Zbt (Zax Zcb (pv 3) Zaf))) Zbp (Zar _))))) (Zac (Za4 (Zdg Ye1 Yn1 Yo1 Zbc (pv 1) (pC (Zax Zcb (pv 3) Zaf) Zaa)))) Zal)))))))
   (pS (sE 5 nd (Zax Zl6 ?eE (Zbd (pC (Zao Zb8 (by rfl) T.len Yg1 (pC (pv 0) Zaa)) Zaa))))
   (Zac (Zak ?eP)))))),?_⟩
  case eE=>exact(Zbk ["start"] [] [] (λ_=>Zaw (osc:=Zad Zcv) (on:=Z95) (by rfl') rfl rfl rfl) (Zbr (Zbs (r:=Z5m K) Zi2 (pv 1) (Zbt Zaf) Zdj)) (λC s H fp=>Zai (i:=0) Z69 rfl (Or.inl rfl) (Or.inr rfl)) (λC s H fp=>Zbj) (λC s H fp=>Zax Zhu (pv 0) Zaf))
  case eP=>exact(Zbk ["start","end"] ["text"] [0] (λ_=>Zaw (osc:=Zad Zcv) (on:=Z95) (by rfl') rfl rfl rfl) (Z3r (by rfl) T.zip (pC (pv 1) (pC (pv 5) Zaa))) (λC s H fp=>Zl2 (K:=K) (i:=0) (j:=1) rfl rfl Z7a rfl rfl (Or.inl rfl) (Or.inl rfl) (Or.inr rfl) (Or.inr rfl)) (λC s H fp=>Zbj) (λC s H fp=>Zbs (r:=Z5l) Zkd (pv 2) (Zbt (pv 0)) (Zbt (pv 1))))
  exists let b:=Zau _ a;let c:=_;let e:=_;let f:=_;let g:=Zlg _ f _;let h:=Zlg _ e g;let i:=Zlg _ c h;let j:=Zau (Zh3 _ _ i) b;let k:=Zau _ j;Zau _ k _ _ _
  have sl:=Zbx x;refine⟨O,λls hls=>?_⟩;have s1:Zaj H (upd H ls (.lst [.int 0])):=Zbg hls;have h11:(upd H ls (.lst [.int 0])) ls=some (.lst (([0]:LN).map Zd7)):=uS;generalize upd H ls (.lst [.int 0])=H1 at s1 h11;refine⟨Z,x,Y,Zgz (λi σ H'=>∃ y3 y4:OV,σ=[some (.str x),some (.ref ls),some (.int (sg x.cps.toList 0 i (0,[0])).1),y3,y4,none]/\Zaj H H'/\H' ls=some (.lst ((sg x.cps.toList 0 i (0,[0])).2.map Zd7))/\(sg x.cps.toList 0 i (0,[0])).2.length<=i + 1)
   ⟨none,none,Y,s1,h11,Yg _⟩ (λ_ _ _ _ _=>trivial) ?_ ?_⟩
  ·rintro i pr t σ H2 hi ⟨y3,y4,rfl,s2,h2,sl2⟩ ht0;obtain⟨e1,hx'⟩:=Ze2 hi;unfold Zb9 at hx';rw[Yj]at hx';obtain⟨c,hc,e2⟩:=Yf1.mp hx';have il:i<x.cps.toList.length:=(Yi.mp hc).1;refine Zpp ?_;have s23:Zaj H2 (upd H2 t (.tup [pr.1,pr.2])):=Zbg ht0;generalize upd H2 t (.tup [pr.1,pr.2])=H3 at s23;rw[e1,<- e2];have es:sg x.cps.toList 0 (i + 1) (0,[0])=step x.cps.toList i (sg x.cps.toList 0 i (0,[0])):=by rw[Zv5,Nat.zero_add]
   rw[es];have h3:=s23 _ _ h2;have s3:=s2.trans s23;generalize sg x.cps.toList 0 i (0,[0])=st at h3 sl2 ⊢;refine⟨Z,Y,Z,?_⟩;have lo:decide (V.str ⟨#[c]⟩=V.str ("(":Str))=decide (c=40):=by rw[Zsw];exact Zv4 c 40
   have lc:decide (V.str ⟨#[c]⟩=V.str (")":Str))=decide (c=41):=by rw[Zph];exact Zv4 c 41
   rw[lo];by_cases c40:c=40
   ·rw[Jb c40];have:step x.cps.toList i st=(st.1 + 1,st.2):=Zn7 (by rw[hc,c40]) st;rw[this];exact Ze5 ⟨Z,_,Z,Y,_,Z,s3,h3,by show st.2.length<=i + 1 + 1;omega⟩
   ·rw[Jc c40];refine Zcg ⟨Z,Y,Z,?_⟩;rw[lc];by_cases c41:c=41
    ·rw[Jb c41];have:step x.cps.toList i st=(st.1 - 1,st.2):=Zlt (by rw[hc,c41]) st;rw[this];exact Ze5 ⟨Z,_,Z,Y,_,Z,s3,h3,by show st.2.length<=i + 1 + 1;omega⟩
    ·rw[Jc c41];have est:step x.cps.toList i st=if st.1=0/\(x.cps.toList.drop i).take 2=[44,32]then(st.1,st.2++[i + 2])else st:=by
      unfold step;rw[hc,if_neg (λz=>c40 (Ym z)),if_neg (λz=>c41 (Ym z))]
     have d0:decide (V.int st.1=V.int 0)=decide (st.1=0):=Yw2.mpr ⟨λz=>by injection z,λz=>by rw[z]⟩;refine Zcg ⟨Z,Y,Z,?_⟩;rw[d0];by_cases z0:st.1=0
     ·rw[Jb z0];refine Ze5 ⟨Z,Z,Z,Z,_,Z,Y,Z,x,Y,sL (by omega),Y,Z,?_⟩;have dt:decide (V.str (Txt.slice x (some (i:Int)) (some ((i:Int) + 2)))=V.str (", ":Str))=decide ((x.cps.toList.drop i).take 2=[44,32]):=Yw2.mpr (by rw[Z3a,Zv0 x i (by omega),Z44]);rw[dt];by_cases zt:(x.cps.toList.drop i).take 2=[44,32]
      ·rw[Jb zt,est,if_pos ⟨z0,zt⟩];refine Ze5 ⟨Z,.inl ⟨Y,_,SqL.of h3⟩,Z,_,Z,Y,ls,_,Z,Y,h3,Zav (by rw[Ya];omega),_,Z,λb o e=>by rw[Zab (nNo e hls)];exact s3 _ _ e,?_,by show(st.2++[i + 2]).length<=i + 1 + 1;rw[Yc,Yr1];omega⟩;rw[uS];show _=some (HO.lst ((st.2++[i + 2]).map Zd7));rw[Yr];rfl
      ·rw[Jc zt,est,if_neg (λz=>zt z.2)];exact Zcg ⟨_,Z,s3,h3,W⟩
     ·rw[Jc z0,est,if_neg (λz=>z0 z.1)];exact Zcg ⟨_,Z,s3,h3,W⟩
  ·rintro σ H2 ⟨y3,y4,rfl,s2,h2,sl2⟩;have el:(Zg2 (Zb9 x)).length=x.cps.toList.length:=by rw[Zc8];unfold Zb9;rw[Ya]
   rw[el]at h2 sl2;have top:=Z6a hcl;rw[<- hj]at top;rw[top]at h2 sl2;have h2:H2 ls=some (.lst ((Zm0 0 (p :: r)).map Zd7)):=h2;have zp:=Zrr (full:=x.cps.toList) (r:=r) (p:=p) (pre:=[]) hj;have zp1:(zz (Zm0 0 (p :: r)) x.cps.toList.length).map (λab=>(x.cps.toList.drop ab.1).take (ab.2 - ab.1))=p :: r:=zp.1;have zp2:∀ ab∈zz (Zm0 0 (p :: r)) x.cps.toList.length,ab.1<=ab.2/\ab.2<=x.cps.toList.length:=zp.2;have ge:∀ s∈(Zm0 0 (p :: r)).drop 1,2<=s:=λs hs=>by
    have:=Zw7 r (0 + p.length + 2) s hs;omega
   have sl2:(Zm0 0 (p :: r)).length<=x.cps.toList.length + 1:=sl2;generalize Zm0 0 (p :: r)=ss at h2 sl2 zp1 zp2 ge;refine⟨Z,Z,?_⟩;unfold Zhx;refine⟨ls,Z,SqL.of h2,λlr hlr=>?_⟩;have ec:Ziv (ss.map Zd7) (some (1:Int)) none=(ss.drop 1).map Zd7:=by rw[Z5p,List.map_drop]
   rw[ec];have s23:Zaj H2 (upd H2 lr (.lst ((ss.drop 1).map Zd7))):=Zbg hlr;have h33:(upd H2 lr (.lst ((ss.drop 1).map Zd7))) lr=some (.lst ((ss.drop 1).map Zd7)):=uS;generalize upd H2 lr (.lst ((ss.drop 1).map Zd7))=H3 at s23 h33;have dl:(ss.drop 1).length<=1001:=by rw[Yv2];omega
   refine⟨lr,Y,⟨_,SqL.of h33⟩,Zd9 (Za8 (xs:=(ss.drop 1).map Zd7)) (sL (by rw[Ya];omega)) (λ_=>true) Z7n (λD ys hD=>SqL.of (by rw[Zab (nNo h33 hD)];exact h33)) ?_ ?_ ?_⟩
   ·intro D ys v R _ _ hR;exact hR
   ·intro D ys v R _ hv _ hR;obtain⟨z,_,e⟩:=Yh.mp hv;subst e;exact⟨Z,_,Z,Y,hR⟩
   ·intro le hle;have ee:(((ss.drop 1).map Zd7).filter λ_=>true).map Z7n=((ss.drop 1).map (· - 2)).map Zd7:=by
     rw[Yr2.mpr λ_ _=>rfl,Ye2,Ye2];refine Yt3 λz hz=>?_;have:=ge z hz;show V.int ((z:Int) - 2)=V.int ((z - 2:Nat):Int);rw[show((z - 2:Nat):Int)=(z:Int) - 2 by omega]
    rw[ee];have s34:Zaj H3 (upd H3 le (.lst (((ss.drop 1).map (· - 2)).map Zd7))):=Zbg hle;have h44:(upd H3 le (.lst (((ss.drop 1).map (· - 2)).map Zd7))) le=some (.lst (((ss.drop 1).map (· - 2)).map Zd7)):=uS;generalize upd H3 le (.lst (((ss.drop 1).map (· - 2)).map Zd7))=H4 at s34 h44;refine⟨Z,_,Z,⟨sL (by omega),Y⟩,O,λl1 hl1=>?_⟩;have s45:Zaj H4 (upd H4 l1 (.lst [.int (x.length:Int)])):=Zbg hl1;have h55:(upd H4 l1 (.lst [.int (x.length:Int)])) l1=some (.lst [.int (x.length:Int)]):=uS;generalize upd H4 l1 (.lst [.int (x.length:Int)])=H5 at s45 h55;refine⟨le,l1,_,Z,Y,s45 _ _ h44,h55,sL (by rw[Ya,Ya];show _ + 1<=_;omega),λl6 hl6=>?_⟩;have e6:((ss.drop 1).map (· - 2)).map Zd7++[.int (x.length:Int)]=((ss.drop 1).map (· - 2)++[x.cps.toList.length]).map Zd7:=by
     rw[Yr,sl];rfl
    rw[e6];have s56:Zaj H5 (upd H5 l6 (.lst (((ss.drop 1).map (· - 2)++[x.cps.toList.length]).map Zd7))):=Zbg hl6;have h66:(upd H5 l6 (.lst (((ss.drop 1).map (· - 2)++[x.cps.toList.length]).map Zd7))) l6=some (.lst (((ss.drop 1).map (· - 2)++[x.cps.toList.length]).map Zd7)):=uS;generalize upd H5 l6 (.lst (((ss.drop 1).map (· - 2)++[x.cps.toList.length]).map Zd7))=H6 at s56 h66;have s26:=(s23.trans s34).trans (s45.trans s56);have s6:=s2.trans s26;have h26:=s26 _ _ h2;have ez:(ss.map Zd7).zip (((ss.drop 1).map (· - 2)++[x.cps.toList.length]).map Zd7)=(zz ss x.cps.toList.length).map λab=>(Zd7 ab.1,Zd7 ab.2):=by
     rw[List.zip_map];rfl
    have zl:(zz ss x.cps.toList.length).length<=1001:=by
     unfold zz;rw[Yw4];omega
    refine⟨Z,Z,ls,l6,_,Z,SqL.of h26,SqL.of h66,?_⟩;rw[ez];refine Zpu (sL (by rw[Ya];omega)) (λ_=>true) (Yd8 x) (λH' s'=>⟨SqL.of (s' _ _ h26),SqL.of (s' _ _ h66)⟩) ?_ ?_ ?_
    ·intro y H' R _ _ hR;exact hR H' (Zaj.refl _)
    ·intro y H' R _ hy _ hR;obtain⟨ab,hab,rfl⟩:=Yh.mp hy;exact⟨Z,Z,Z,Z,Z,x,Y,sL (by omega),hR H' (Zaj.refl _)⟩
    ·intro D H' hD s' hl';rw[Yr2.mpr λ_ _=>rfl,Ye2]at hl';refine q D ((zz ss x.cps.toList.length).map λab=>Txt.slice x (some (ab.1:Int)) (some (ab.2:Int))) H' (s6.free hD) (s6.trans s') ?_ ?_
     ·rw[hl',Ye2];rfl
     ·rw[Ye2,<- zp1];refine Yt3 λab hab=>?_;have h:=zp2 ab hab;exact Zr6 x ab.1 ab.2 h.1 (by omega)
def Z1j{l p:LN}{x:Str}(hx:Zam x=true)(h:l=x.cps.toList++p):Z2t l=false:=by
 have hw:=(Zb0 x).mp hx;have sl:=Zbx x;obtain⟨c,hc⟩:∃ c,x.cps.toList[0]?=some c:=⟨x.cps.toList[0]'(by omega),Yb (by omega)⟩;have cl:=hw.2 c (Yf hc);have hd:Zh1 c=false:=by
  unfold Zjd at cl;unfold Zh1;have:=Je cl;exact Jc (by omega)
 have ha:l.all Zh1=false:=by
  rw[List.all_eq_false];exact⟨c,by rw[h];exact Yl.mpr (.inl (Yf hc)),by rw[hd];decide⟩
 unfold Z2t;rw[ha,Bool.and_false,Yo3]
def Ya4(j:Nat):Sp:=λvs H Q _=>∃(x:Str) (d:Dt) (dp:Nat),vs=[.str x,.int dp]/\x.cps.toList=tx j d/\tkB j d=true/\Zfq j [d]<=60/\dp + j<=13/\∀(v:V) (H':Hp),Zaj H H'->TmV H' d v->Q v H'
def Z91:(["part","deep"]:LS).Nodup:=by rfl'
abbrev nRp:LS:=["text","deep","spot","parts"]
def Z87:Zah nRp ["text","deep"] (Zad Zex):=by nofun
def Zz8{T1:Tok}(F:Def K mg "read_part" Zex ["text","deep"] f fd)(T:Zy1 mg)(c1:mg "MOST_DEEP"=some (.int 12 T1))
  (DF:Def K mg "is_figures" Zd2 ["text"] fF fdF) (GF:⋯ 1 fF fdF ["text"] Z58) (DW:Def K mg "is_word" Zc5 ["text"] fW fdW) (GW:⋯ 1 fW fdW ["text"] Zg6)
  (DS:Def K mg "split_parts" Zcv ["text"] fS fdS) (GS:⋯ 1 fS fdS ["text"] Zvl):∀ j,⋯ (2 + j) f fd ["text","deep"] (Ya4 j):=by
 intro j
 induction j with
 | zero =>
  nomatch F.fn.ok Z87
  ·obtain⟨x,d,dp,rfl,_⟩:=h;rfl
  ·obtain⟨x,d,dp,rfl,_,z,_⟩:=h;cases z
 | succ j GR =>
  nomatch F.fn.ok Z87
  ·obtain⟨x,d,dp,rfl,_⟩:=h;rfl
  ·obtain⟨x,d,dp,rfl,hx,ht,hc,hdp,q⟩:=h;have nd:=Z87.nd;have hr1:Zci 1 _:=hr.mono (show 1<=2 + j by omega)
   ac_nf
   refine'⟨_,(pS (Za0 (Zan Zkt (pv 1) (Zdw (v:=.int 12) (by rfl) c1 ⟨Z⟩) (Zar _)) Zay Zal)
   (pS (Za0 (Zb1 (Zae DF GF hr1 (pC (pv 0) Zaa))) (Zac (Zak (Za5 Zp0 (by rfl) T.int Ye5 (pC (pv 0) Zaa)))) Zal)
   (pS (sE 2 nd (Zdg Yf3 PySem.F.slot_str_find PySem.F.type_str_find Z4d (pv 0) (pC Zbp Zaa)))
   (pS (Za0 (PW.pt (Zhz (Zan Zos (pv 2) Zaf (Zar _)) (Zhz (Zcr (Zb1 (Zae DW GW hr1 (pC (Zbs (r:=Z5l) Zkd (pv 0) Zdj (Zbt (pv 2))) Zaa)))) (Zgr (Zan Zor (Za2 (r:=Z8c) Zs1 (pv 0) (Zwo Zn1 Zaf) (λ_ _=>rfl)) Zbp (Zar _)))))) Zay Zal)
   (pS (Zeu (k:=3) ["part"] ["deep"] [1] nd rfl rfl (λ_=>Zaw (osc:=Zad Zex) (on:=nRp) (by rfl') rfl rfl rfl) (Zbr (Zae DS GS hr1 (pC (Zbs (r:=Z5l) Zkd (pv 0) (Zbt (Zax Zcb (pv 2) Zaf)) (Zbt (Zwo Zn1 Zaf))) Zaa))) (λC s H fp=>Zai (i:=0) Z91 rfl (Or.inl rfl) (Or.inr rfl)) (λC s H fp=>Zbj) (λC s H fp=>Zae F GR hr (pC (pv 0) (pC (Zax Zcb (pv 1) Zaf) Zaa))))
   (Zac (Zak (Zax Zku (Zcs (pC (Zbs (r:=Z5l) Zkd (pv 0) Zdj (Zbt (pv 2))) Zaa)) (Za5 Za9 (by rfl) T.tuple Yu1 (pC (pv 3) Zaa)))))))))),?_⟩
   exists let b:=Zau _ a;let c:=Zau _ b;let e:=Zau _ c;let f:=_;let g:=Zau (Zlg _ f _) e;Zau _ g _ _ _
   have sl:=Zbx x;have tl:=Zru (j + 1) d ht;rw[<- hx]at tl;refine⟨Z,_,Z,Y,Z,Ze1 (λz=>absurd (Je z) (by show ¬ ((dp:Int) > 12);omega)) (λ_=>⟨Z,x,Y,W,λH1 s1=>⟨Z,?_⟩⟩)⟩
   rcases Zls ht with⟨i,rfl,hi⟩ | ⟨y,c,cs,rfl,hy,hk⟩
   ·rw[Zrv]at hx;rw[hx,show Z2t (Zya i)=true from Z1n ⟨i,hi⟩];have l2:(Zya i).length<=2:=(Zs8 ⟨i,hi⟩).2;rw[<- hx]at l2;exact Ze5 ⟨Z,_,Z,Zuq hx hi,W,q _ H1 s1 (.int _)⟩
   ·rw[Zrt]at hx;rw[Znk]at hc tl;have wl:=Zbu hy;have wy:=(Zb0 y).mp hy;have sly:=Zbx y;rw[Z1j hy hx];have tc:∀ p∈(c :: cs).map (tx j),Cl p:=λp hp=>by
     obtain⟨e,he,rfl⟩:=Yh.mp hp;exact Zn2 j e (hk e he)
    have es:(c :: cs).map (tx j)=tx j c :: cs.map (tx j):=rfl;have xl:x.length=y.length + 1 + (jn ((c :: cs).map (tx j))).length + 1:=by
     have:=congrArg List.length hx;rw[Yc,Yv,Yc,Yr1]at this;omega
    have hfind:Txt.find x ("(":Str)=(y.cps.toList.length:Int):=by
     rw[Zsw];exact Z1h hx λz=>(Zpg (wy.2 _ z)).1 rfl
    rw[sly]at hfind;have hsl:Txt.slice x none (some (y.length:Int))=y:=Md.str_ext (by
     rw[Zi1 x _ (by omega),hx,show(y.length:Int).toNat=y.cps.toList.length by omega,List.take_left])
    refine Zcg ⟨Z,Y,_,Z,Y,?_⟩;rw[hfind];refine⟨Z,_,Z,Y,Z,Ze1 (λz=>absurd (Je z) (by show ¬ ((y.length:Int)<0);omega)) (λ_=>⟨Z,Z,Z,x,Y,sL (by omega),?_⟩)⟩;rw[hsl];refine⟨y,Y,W,λH2 s2=>⟨Z,?_⟩⟩;rw[hy];have he:atI x.cps.toList (-1)=some 41:=by
     rw[hx,show y.cps.toList++40 :: (jn ((c :: cs).map (tx j))++[41])=(y.cps.toList++40 :: jn ((c :: cs).map (tx j)))++[41] by simp];exact Z1v _ _
    refine Zcg ⟨Z,Z,x,-1,41,Y,Y,sL (by omega),he,Y,Z,?_⟩;have e41:decide (V.str ⟨#[41]⟩=V.str (")":Str))=true:=by rw[Zph];exact Jb rfl
    rw[e41];refine Zcg ⟨Z,Z,_,Z,Y,Z,Z,Z,x,Y,sL (by omega),?_⟩;have hin:(Txt.slice x (some ((y.length:Int) + 1)) (some (-1))).cps.toList=jn (tx j c :: cs.map (tx j)):=by
     have:=Ztq x (y.length + 1) (by omega);rw[show((y.length + 1:Nat):Int)=(y.length:Int) + 1 by omega]at this;rw[this,hx,show y.cps.toList++40 :: (jn ((c :: cs).map (tx j))++[41])=(y.cps.toList++[40])++(jn ((c :: cs).map (tx j))++[41]) by simp,
      show y.length + 1=(y.cps.toList++[40]).length by rw[Yc,Yr1];omega,List.drop_left]
     exact List.take_left' (by rw[Yc,Yr1];omega)
    refine⟨_,_,Z,by have:=congrArg List.length hin;rw[Zbx]at this;have e:=es;rw[<- es]at this;omega,hin,by rw[<- es];exact tc,λl xs H3 _ s3 hl hxs=>?_⟩;rw[<- es]at hxs;have xb:x.length<=1000:=by omega
    generalize c :: cs=ds at hxs hk hc q;have d60:=Zsx hk (by omega);have xsl:=congrArg List.length hxs;rw[Ya,Ya]at xsl;let Iv1:Addr->Nat->LV->St->Hp->Prop:=λD i ys σ' H'=>H3 D=none/\Zaj H3 H'/\H' D=some (.lst ys)/\∃ o:OV,σ'=[o,some (.int dp)]/\TmsV H' (ds.take i) ys;refine⟨l,Y,⟨_,SqL.of hl⟩,Zcc (Za8 (xs:=xs.map V.str)) (sL (by rw[Ya];omega)) Iv1 ?_ ?_ ?_ ?_⟩
    ·intro D hD;exact⟨hD,Zbg hD,uS,none,Y,by rw[Yj2];exact .nil⟩
    ·rintro D i ys σ' H' hi ⟨hD,hs,hl',o,rfl,hT⟩;refine⟨SqL.of (hs _ _ hl),?_⟩;have:=hT.length;rw[Yk1]at this;omega
    ·rintro D i v ys σ' H' hD hx' ⟨_,hs,hl',o,rfl,hT⟩;rw[Yj]at hx';obtain⟨xi,hxi,rfl⟩:=Yf1.mp hx';have hi:i<xs.length:=(Yi.mp hxi).1;obtain⟨d,hd⟩:∃ d,ds[i]?=some d:=⟨ds[i]'(by omega),Yb (by omega)⟩;have exi:xi.cps.toList=tx j d:=by
      have:=congrArg (λl=>l[i]?) hxs;simp only[Yj,hxi,hd]at this;exact Ym this
     have hdm:=Yf hd;have ck:=Zrg (k:=j) hdm;refine⟨Z,Z,_,Z,Y,xi,d,dp + 1,Y,exi,hk d hdm,W,W,λv2 H2 s12 hv2=>?_⟩;have hD2:=s12 _ _ hl';have tk:∀ b xs,H2 b=some (.tup xs)->(upd H2 D (.lst (ys++[v2]))) b=some (.tup xs):=λb xs e=>by rw[Zab (λz=>by rw[z,hD2]at e;cases e)];exact e
     refine⟨hD2,hD,λb o e=>by rw[Zab (nNo e hD)];exact s12 _ _ (hs _ _ e),uS,Z,?_⟩;rw[Ym1,hd];exact((hT.keep (Zco s12)).keep tk).append (.cons (hv2.keep tk) .nil)
    ·rintro D ys σ' H' hD ⟨_,hs,hl',o,rfl,hT⟩;rw[Ya,xsl,Yp1]at hT;have yl:=hT.length;refine⟨Z,Z,Z,x,Y,sL (by omega),?_⟩;rw[hsl];refine⟨O,λt1 ht1=>?_⟩;have s4:Zaj H' (upd H' t1 (.tup [.str y])):=Zbg ht1;have ht14:(upd H' t1 (.tup [.str y])) t1=some (.tup [.str y]):=uS;generalize upd H' t1 (.tup [.str y])=H4 at s4 ht14;refine⟨Z,D,Z,.inl ⟨SqL.of (s4 _ _ hl'),λtt htt=>?_⟩⟩;have s5:Zaj H4 (upd H4 tt (.tup ys)):=Zbg htt;have htt5:(upd H4 tt (.tup ys)) tt=some (.tup ys):=uS;generalize upd H4 tt (.tup ys)=H5 at s5 htt5;refine Zig (K:=K) (s5 _ _ ht14) htt5 (sL (by show 1 + _<=_;omega)) λpR HR sR hR=>?_;have s6:=(s4.trans s5).trans sR;exact q (.ref pR) HR ((s1.trans s2).trans ((s3.trans hs).trans s6)) (.tup hR (.cons (.str _ (Zgl hy)) (hT.keep (Zco s6))))
def Ya3:Sp:=λvs H Q _=>∃(x:Str) (d:Dt),vs=[.str x]/\x.cps.toList=tx 12 d/\tkB 12 d=true/\(∀ k,Zfq k [d]<=40)/\∀(v:V) (H':Hp),Zaj H H'->TmV H' d v->Q v H'
abbrev nRt:LS:=["text","term"]
def Ybi:Zah nRt ["text"] (Zad Zf5):=by nofun
theorem Z11:∀(k:Nat) (l:List Dt),(∀ e∈l,tkB k e=true)->lvl k l=[]
 | 0,l,h=>by
  cases l with
  | nil=>exact Zb6 _
  | cons e r=>exact absurd (h e (.head _)) (λz=>by cases z)
 | k + 1,l,h=>by
  rw[Zim];refine Z11 k _ λe he=>?_;obtain⟨d,hd,hk⟩:=List.mem_flatMap.mp he
  rcases Zls (h d hd)with⟨i,rfl,_⟩ | ⟨y,c,cs,rfl,_,hks⟩
  ·cases hk
  ·exact hks e hk
def Zz7(F:Def K mg "read_term" Zf5 ["text"] f fd)(DR:Def K mg "read_part" Zex ["text","deep"] fR fdR)(GR:⋯ 14 fR fdR ["text","deep"] (Ya4 12))(DS:Def K mg "is_small" Zfv ["term"] fS fdS)(GS:⋯ 2 fS fdS ["term"] Zql):⋯ 15 f fd ["text"] Ya3:=by
 nomatch F.fn.ok Ybi
 ·obtain⟨x,d,rfl,_⟩:=h;rfl
 ·obtain⟨x,d,rfl,hx,ht,hc,q⟩:=h;have nd:=Ybi.nd;have hr2:Zci 2 _:=hr.mono (show 2<=14 by decide)
  ac_nf
  refine'⟨_,(pS (sE 1 nd (Zae DR GR hr (pC (pv 0) (pC Zaf Zaa))))
   (pS (Za0 (Zcr (Zb1 (Zae DS GS hr2 (pC (pv 1) Zaa)))) Zay Zal)
   (Zac (Zak (pv 1))))),?_⟩
  exists let b:=Zau _ a;Zau _ b _ _ _
  have c12:=hc 12;refine⟨Z,x,d,1,Y,hx,ht,W,V,λv H1 s1 hv=>⟨Z,d,v,Y,hv,λk=>?_,λH2 s2=>⟨Z,?_⟩⟩⟩
  ·have:=Zxk k [d];have:=hc (k + 1);omega
  ·have e:Zh7 d=true:=by
    unfold Zh7;rw[Z11 12 [d] (λe he=>by rw[Ye.mp he];exact ht),Jb c12];rfl
   rw[e];exact Zcg ⟨Z,q v H2 (s1.trans s2) (hv.keep (Zco s2))⟩
theorem Zi6{α β γ:Type}{F:β->γ->Prop}(f:α->β)(h:α->γ):∀ {l:List α},(∀ x∈l,F (f x) (h x))->Paired F (l.map f) (l.map h)
 | [],_=>.nil
 | x :: r,z=>.cons (z x Yh1) (Zi6 f h λy hy=>z y (Ys _ hy))
theorem Zkq{α β γ:Type}{F:β->γ->Prop}(f:α->List β)(h:α->List γ):∀ {l:List α},(∀ x∈l,Paired F (f x) (h x))->Paired F (l.flatMap f) (l.flatMap h)
 | [],_=>.nil
 | x :: r,z=>by
  rw[Yy2,Yy2];exact Zsg (z x Yh1) (Zkq f h λy hy=>z y (Ys _ hy))
theorem Zp8{x:Str}{c:LS}{m:Str}{k:Nat}{ps:List (LS×Str)}:∀ {ns:List Nam},(∀ n∈ns,n.1≠x)->c.length=k->Zy9 x c m (ns++[(x,k,ps)])=some (ns++[(x,k,ps++[(c,m)])])
 | [],_,h=>by
  show(if x=x then(if c.length=k then _ else _)else _)=_;rw[if_pos rfl,if_pos h];rfl
 | n :: r,hn,h=>by
  show(if n.1=x then _ else(Zy9 x c m (r++[(x,k,ps)])).map (n :: ·))=_;rw[if_neg (hn n Yh1),Zp8 (λy hy=>hn y (Ys _ hy)) h];rfl
def nWs(n:Nam):List (LS):=nW n :: n.2.2.map λp=>dW n.1 p.1 p.2
theorem Zoj{rows:List Row}{ns:List Nam}{x:Str}{k:Nat}(hx:Zam x=true)(hk:1<=k)(hn:∀ n∈ns,n.1≠x):∀ {qs ps:List (LS×Str)},(∀ q∈qs,q.1.length=k/\(∀ u∈q.1,Zam u=true)/\Zam q.2=true)->Zlh rows (ns++[(x,k,ps)]) (qs.map λp=>dW x p.1 p.2)=some (rows,ns++[(x,k,ps++qs)])
 | [],ps,_=>by rw[Yy1];rfl
 | q :: r,ps,h=>by
  obtain⟨h1,h2,h3⟩:=h q Yh1;show(Zgk rows (ns++[(x,k,ps)]) (dW x q.1 q.2)).bind (λz=>Zlh z.1 z.2 (r.map λp=>dW x p.1 p.2))=_;rw[Zvh hx h2 h3 (by omega) (Zp8 hn h1)];show Zlh rows (ns++[(x,k,ps++[(q.1,q.2)])]) (r.map λp=>dW x p.1 p.2)=_;rw[Zoj hx hk hn λy hy=>h y (Ys _ hy),Yx1];rfl
theorem Zog{rows:List Row}(g:Zc4 rows):∀ {l ns:List Nam},(∀ n∈l,Zfs rows n)->((ns++l).map (·.1)).Nodup->Zlh rows ns (l.flatMap nWs)=some (rows,ns++l)
 | [],ns,_,_=>by rw[Yy1];rfl
 | n :: r,ns,h,nd=>by
  have gn:=h n Yh1;have hr:rows≠[]:=λz=>by have:=g.ne;rw[z]at this;exact absurd this (by decide)
  have e:(ns++n :: r)=(ns++[n])++r:=by rw[Yx1];rfl
  have hn:∀ m∈ns,m.1≠n.1:=λm hm z=>by
   rw[Yr,Yz]at nd;exact(List.nodup_append.mp nd).2.2 _ (Yh.mpr ⟨m,hm,Y⟩) _ Yh1 z
  rw[Yy2];show(Zgk rows ns (nW n)).bind (λz=>Zlh z.1 z.2 ((n.2.2.map λp=>dW n.1 p.1 p.2)++r.flatMap nWs))=_;rw[Zve hr gn.word gn.one gn.four];show Zlh rows (ns++[(n.1,n.2.1,[])]) ((n.2.2.map λp=>dW n.1 p.1 p.2)++r.flatMap nWs)=_;rw[Zqq,Zoj gn.word gn.one hn λq hq=>?_,e]
  ·show Zlh rows (ns++[(n.1,n.2.1,[]++n.2.2)]) (r.flatMap nWs)=_;rw[Yu5];exact Zog g (λm hm=>h m (Ys _ hm)) (by rw[<- e];exact nd)
  ·have gc:=gn.deeds.call q.1 (Yh.mpr ⟨q,hq,Y⟩);exact⟨gc.len,λu hu=>Zbi g u (gc.known u hu),Zbi g _ (gn.made q hq)⟩
def Z46{rows:List Row}{ns:List Nam}(g:Zc4 rows)(gn:Za6 rows ns):Zy2 (Builtin.Str.glued "\n" (Zll rows ns)) rows ns (Zll rows ns) (rows.map kW++ns.flatMap nWs):=by
 have up:∀ r∈rows,∀ u∈r.2,Zam u=true:=λr hr u hu=>Zbi g u (g.known r hr u hu);obtain⟨bl,b100⟩:=Zp6 g gn;refine Z25 ?_ (by omega) ?_ ?_
 ·intro z;have:=congrArg List.length z;have h:=g.ne;unfold Zll Zjc at this;rw[Yc,Ya]at this;have:rows.length + _=0:=this;omega
 ·have p:Paired (λt ws=>Z5f t ws/\10∉t.cps.toList) (Zll rows ns) (rows.map kW++ns.flatMap nWs):=by
   refine Zsg (Zi6 _ _ λr hr=>Z7s (g.word r hr) (g.few r hr) (up r hr)) (Zkq _ _ λn hn=>?_);have gN:=gn.each n hn;refine .cons (Z7i gN.word gN.one gN.four) (Zi6 _ _ λq hq=>?_);have gc:=gN.deeds.call q.1 (Yh.mpr ⟨q,hq,Y⟩);exact Z75 gN.word (by rw[gc.len];exact gN.four) (λu hu=>Zbi g u (gc.known u hu)) (Zbi g _ (gN.made q hq))
  exact Zhj p λt ws ht z=>⟨z,b100 t ht⟩
 ·rw[Zqq,Zoi λr hr=>⟨g.word r hr,up r hr⟩];show Zlh rows [] (ns.flatMap nWs)=_;rw[Zog g gn.each (by rw[Yu5];exact gn.nd),Yu5]
def Yc0(sp:RS->Sp):Sp:=λvs H Q E=>∃ rows,Zc4 rows/\sp rows vs H Q E
def Yak{P:Program}{w:World}{K:Fg}{mg:Str->OU}{base:Heap}{k:Nat}{ps:LS}{sp:RS->Sp}(h:∀ rows,Zc4 rows->⋯ k f fd ps (sp rows)):⋯ k f fd ps (Yc0 sp):=
 ⟨λvs H Q E ⟨r,g,z⟩=>(h r g).len vs H Q E z,λA outer s H args us vs Q E hr he hb hv ⟨r,g,z⟩=>(h r g).run A outer s H args us vs Q E hr he hb hv z⟩
theorem Z12:∀(k:Nat) (d:Dt),tkB k d=true->W.kqdOk k d=true
 | 0,d,h=>by cases h
 | k + 1,d,h=>by
  rcases Zls h with⟨i,rfl,_⟩ | ⟨x,c,cs,rfl,hx,hk⟩
  ·rfl
  ·show(W.Dat.str x :: c :: cs).all (W.kqdOk k)=true;rw[Yq1];intro e he
   rcases Yt.mp he with z | z
   ·rw[z];cases k <;> exact Zgl hx
   ·exact Z12 k e (hk e z)
theorem Z2d{rows:RS}{ns:List Nam}{m:Nat}(gn:Za6 rows ns)(hm:m<=12):∀(j:Nat) (d:Dt),Zi0 ns m j d=true->tkB j d=true
 | 0,d,h=>by cases h
 | j + 1,d,h=>by
  rcases Zkb h with⟨i,rfl,hi⟩ | ⟨n,hn,ds,rfl,hl,hk⟩
  ·exact Z5v (by omega) (by omega) (by omega)
  ·have g:=gn.each n hn;have h1:=g.one;cases ds with
   | nil =>
    have hl:0=n.2.1:=hl;omega
   | cons c cs =>
    cases j with
    | zero=>exact absurd (hk c Yh1) (λz=>by cases z)
    | succ j=>exact Z5u (by omega) g.word λe he=>Z2d gn hm (j + 1) e (hk e he)
structure Yar(mg:Str->OU):Prop where
 isi:mg "isinstance"=none
 str:mg "str"=none
 list:mg "list"=none
 len:mg "len"=none
 range:mg "range"=none
def Z7d:(["name"]:LS).Nodup:=by rfl'
abbrev Ycb:LS:=["script","pot","rows","names","book","text","other","k","filling","term","back"]
def Z6g:Zah Ycb ["script"] (Zad Zzr):=by nofun
set_option maxHeartbeats 16000000 in
def Z65(F:Def K mg "law" Zzr ["script"] f fd)(T:Yar mg)(TD:Zjj K D)(TC:Zqd K C)
  (M:Mk K C fI) (mgC:mg "Kinds"=some (.ref C)) (bI:Zef K fdI ["self","rows"] []) (GI:⋯ 4 fI fdI ["self","rows"] (Zob K C))
  (MD:Mk K D fKI) (mgD:mg "Book"=some (.ref D)) (bD:Zef K fdKI pKI []) (GD:⋯ 6 fKI fdKI pKI (Zml K C B D))
  (DP:Def K mg "_law_pot" Zfx ["script","k"] fP fdP) (GP:⋯ 1 fP fdP ["script","k"] (Z3b K))
  (DR:Def K mg "_law_rows" Zdu ["pot","most"] fR fdR) (GR:⋯ 4 fR fdR ["pot","most"] Zvn) (DA:Def K mg "_law_above" Zfc ["rows"] fA fdA) (GA:⋯ 1 fA fdA ["rows"] Zr1)
  (DN:Def K mg "_law_names" Zfb pNs fN fdN) (GN:⋯ 4 fN fdN pNs (Zvq K)) (DF:Def K mg "_law_filling" Zc6 pFi fF fdF) (GF:⋯ 2 fF fdF pFi Z2b)
  (DTm:Def K mg "_law_term" Zdt pTm fTm fdTm) (GTm:∀ rows,Zc4 rows->⋯ 14 fTm fdTm pTm (Z17 rows 12))
  (DRu:Def K mg "run" Zzq ["book","filling","term"] fRu fdRu) (GRu:⋯ 23 fRu fdRu ["book","filling","term"] (Z55 K C B D))
  (DTT:Def K mg "term_text" Zew ["term"] fTT fdTT) (GTT:⋯ 14 fTT fdTT ["term"] (Z57 12)) (DRT:Def K mg "read_term" Zf5 ["text"] fRT fdRT) (GRT:⋯ 15 fRT fdRT ["text"] Ya3)
  (DBT:Def K mg "book_text" Zf9 ["book"] fBT fdBT) (GBT:⋯ 4 fBT fdBT ["book"] (Zvu C B D)) (DB:Def K mg "read_book" Zf6 ["text"] fB fdB) (GB:⋯ 8 fB fdB ["text"] (Ya5 C B D))
  (MW:Zy5 K D fKW fdKW) (GW:⋯ 1 fKW fdKW ["self"] (Zmj C B D)) (MN:Zy6 K D fKN fdKN) (GNm:⋯ 2 fKN fdKN ["self"] (Zmk C B D)) (MK:Zrn K D fKK fdKK) (GK:⋯ 1 fKK fdKK ["self"] (Zjy C B D))
  (MR:Zqb K C "rows" "Kinds.rows" Zd5 ["self"] fRw fdRw):
  ⋯ 24 f fd ["script"] (Zzn K):=by
 have GTm:=Yak GTm;have GRw:⋯ 1 fRw fdRw ["self"] (Zmi C):=Zov MR.fn TC T.list
 nomatch F.fn.ok Z6g
 ·obtain⟨a,ns,rfl,_⟩:=h;rfl
 ·obtain⟨a,ns,rfl,hS,hlen,q⟩:=h;have nd:=Z6g.nd;have hu:=hr.units;have hr1:Zci 1 _:=hr.mono (by decide);have hr2:Zci 2 _:=hr.mono (by decide);have hr4:Zci 4 _:=hr.mono (by decide);have hr5:Zci 5 _:=hr.mono (by decide);have hr7:Zci 7 _:=hr.mono (by decide);have hr8:Zci 8 _:=hr.mono (by decide);have hr14:Zci 14 _:=hr.mono (by decide);have hr15:Zci 15 _:=hr.mono (by decide)
  ac_nf
  refine'⟨_,(pS (sE 1 nd (Zae DP GP hr1 (pC (pv 0) (pC Zaf Zaa))))
   (pS (sE 2 nd (Zae DR GR hr4 (pC (pv 1) (pC Zaf Zaa))))
   (pS (sE 3 nd (Zae DN GN hr4 (pC (pv 0) (pC Zaf (pC (pv 2) (pC (Zae DA GA hr1 (pC (pv 2) Zaa)) (pC Zaf (pC Zaf (pC Zaf Zaa)))))))))
   (pS (sE 4 nd (Zkl MD GD hr7 rfl mgD bD .nil Zct (pC (Zkl M GI hr5 rfl mgC bI .nil Zct (pC (pv 2) Zaa)) (pC (pv 3) Zaa))))
   (pS (sE 5 nd (Zae DBT GBT hr4 (pC (pv 4) Zaa)))
   (pS (sE 6 nd (Zae DB GB hr8 (pC (pv 5) Zaa)))
   (pS (Za0 (PW.pt (Zhz (Zcr (Zb1 (Zao Zis (by rfl) T.isi Yq3 (pC (pv 5) (pC (Zkm (v:=.ty "str") (by rfl) T.str PyProof.Rows.boot_str rfl) Zaa))))) (Zhz (Zan (Zkr hu) (Zbv (Zbv (pv 6) TD.cl MK.me GK hr1 MK.b .nil Zct) TC.cl MR.me GRw hr1 MR.b .nil Zct) (pv 2) (Zar _)) (Zgr (Zan (Zkr hu) (Zbv (pv 6) TD.cl MN.me GNm hr2 MN.b .nil Zct) (pv 3) (Zar _)))))) (Zac (Zak Zge)) Zal)
   (pS (Za0 (PW.pt (Zhz (Zan Zor (Zae DBT GBT hr4 (pC (pv 6) Zaa)) (pv 5) (Zar _)) (Zgr (Zan (Zkr hu) (Zbv (pv 6) TD.cl MW.me GW hr1 MW.b .nil Zct) ?e1 (Zar _))))) (Zac (Zak Zge)) Zal)
   (pS (Zbh Yw rfl (Zwm (by rfl) T.range (pC Zaf (pC Zaf Zaa))) (gE 7 nd)
    (pS (sE 1 nd (Zae DP GP hr1 (pC (pv 0) (pC (pv 7) Zaa))))
   (pS (sE 8 nd (Zae DF GF hr2 (pC (pv 1) (pC (pv 2) (pC (pv 3) (pC Zaf Zaa))))))
   (pS (sE 9 nd (Zae DTm GTm hr14 (pC (pv 1) (pC (pv 3) (pC (Zao Zap (by rfl) T.len Yg1 (pC (pv 8) Zaa)) (pC (Zbd (pC Zaf Zaa)) (pC Zaf Zaa)))))))
   (pS (sE 10 nd (Zae DRT GRT hr15 (pC (Zae DTT GTT hr14 (pC (pv 9) Zaa)) Zaa)))
   (Zac (Za0 (PW.pt (Zhz (Zan (Z6x hu) (pv 10) (pv 9) (Zar _)) (Zgr (Zan (Zkr hu) (Zae DRu GRu hr (pC (pv 6) (pC (pv 8) (pC (pv 10) Zaa)))) (Zae DRu GRu hr (pC (pv 4) (pC (pv 8) (pC (pv 9) Zaa)))) (Zar _))))) (Zac (Zak Zge)) Zal)))))))
   (Zac (Zak Zge))))))))))),?_⟩
  case e1=>exact(Zbk ["name"] [] [] (λ_=>Zaw (osc:=Zad Zzr) (on:=Ycb) (by rfl') rfl rfl rfl) (Zbr (pv 3)) (λC s H fp=>Zai (i:=0) Z7d rfl (Or.inl rfl) (Or.inr rfl)) (λC s H fp=>Zbj) (λC s H fp=>Za2 (r:=Zj0 K) Zch (pv 0) Zaf (λ_ _=>rfl)))
  exists let b:=_;let c:=Zau _ b;let e:=Zau _ c;let f:=Zau _ e;let g:=Zau _ f;let h:=Zau (Zh3 _ _ g) a;let i:=Zau _ h;let j:=Zau _ i;let k:=Zau _ j;let l:=Zau _ k;let m:=Zau _ l;let n:=Zau _ m;let o:=Zau _ n;Zau _ o _ _ _
  refine⟨Z,a,0,ns,Y,hS,W,V,V,λp o hp ho=>?_⟩;have s1:Zaj H (upd H p o):=Zbg hp;have hp1:(upd H p o) p=some o:=uS;generalize upd H p o=H1 at s1 hp1;refine⟨Z,p,8,Y,⟨o,hp1,ho⟩,V,V,λl rows H2 d12 hl hR2 g _=>?_⟩;have s02:Zaj H H2:=λb u e=>d12.keep _ _ (nNo e hp) (s1 _ _ e);refine⟨Z,Z,Z,l,rows,Y,hR2,g,λaa avs H3 s23 haa hA=>?_⟩;have s03:=s02.trans s23;have hR3:=Zcq hR2 s23;refine⟨a,l,aa,1,6,6,4096,ns,rows,avs,Y,s03.seq hS,W,V,hR3,g,haa,hA,V,V,V,λln nms us H4 s34 hln hln4 hN4 nm4 nl=>?_⟩;have gn:Za6 rows nms:=⟨W,nm4.each,nm4.nd⟩;have hR4:=Zcq hR3 s34;have s04:=s03.trans s34;refine⟨Z,?_⟩;intro xb dxb nx ndx nex;refine Z0w nx ndx hR4 g λH5 s45 kd5=>?_;refine⟨Z,?_⟩;intro pb db nb ndb neb;refine Zsu nb ndb kd5 g ⟨true,us,SqL.of (s45 _ _ hln4),Paired.mapP (hN4.mono (Zco s45)) λn v h=>h.v⟩ gn λH6 s56 bkz=>?_;have bk:=bkz.at_;have s46:=s45.trans s56;refine⟨Z,pb,xb,rows,nms,Y,bk,g,gn,λH7 s67=>?_⟩;refine⟨Z,_,rows,nms,_,Z,Z46 g gn,g,gn,λH8 qb k s78 _ bqz=>?_⟩;have bq:=bqz.at_;have s68:=s67.trans s78;have s48:=s46.trans s68;have hln8:=s48 _ _ hln4;have hN8:=hN4.mono (Zco s48);have hR8:=Zcq hR4 s48;obtain⟨dx,bo,mo,o9,bvs,mvs,h1,h2,h3,h4,h5,h6⟩:=bq.ex;obtain⟨dxk,dk,ak,okk,oak,kvs,avs',hk1,_⟩:=h2.ex;have okw:W.kqdOk 9 (.list ((nms.map (·.1)).map W.Dat.str))=true:=Zo3 λx hx=>by
   obtain⟨n,hn,e⟩:=Yh.mp hx;rw[<- e];exact(gn.each n hn).word
  have okn:=Zox g gn.each;have okr:=Z0f g;refine⟨Z,_,_,_,Z,.str _,Y,Z,Zcg ?_⟩;refine⟨Z,qb,dx,Z,h1,Zkz _ _ _,qb,k,rows,nms,Y,bq,k,dxk,Z,hk1,Zss _ _,k,rows,Y,h2,g,λlq H9 hlq s89 hR9=>?_⟩;refine⟨Z,.list (rows.map Zug),.list (rows.map Zug),Zsa hR9,Zsa (Zcq hR8 s89),okr,okr,Z,?_⟩;rw[Zfp];refine Zcg ?_;refine⟨Z,qb,dx,Z,s89 _ _ h1,Zo8 _ _ _,qb,k,rows,nms,Y,bq.mono s89,gn,λlf fs H10 hlf s910 hlf10 hN10=>?_⟩;have s810:=s89.trans s910;refine⟨Z,.list (nms.map Zm7),.list (nms.map Zm7),.list (SqL.of hlf10) (Zhg hN10),.list (SqL.of (s810 _ _ hln8)) (Zhg (hN8.mono (Zco s810))),okn,okn,Z,?_⟩;rw[Zfp];refine Zcg ?_;refine⟨Z,qb,k,rows,nms,Y,bq.mono s810,g,gn,λH11 s1011=>⟨Z,Y,Z,?_⟩⟩;have s811:=s810.trans s1011;rw[Jb rfl];refine Zcg ?_;refine⟨Z,qb,dx,Z,s811 _ _ h1,Zo7 _ _ _,qb,k,rows,nms,Y,bq.mono s811,λlw hlw=>?_⟩;have s1112:Zaj H11 (upd H11 lw (.lst ((nms.map (·.1)).map V.str))):=Zbg hlw;have hlw12:(upd H11 lw (.lst ((nms.map (·.1)).map V.str))) lw=some (.lst ((nms.map (·.1)).map V.str)):=uS;generalize upd H11 lw (.lst ((nms.map (·.1)).map V.str))=H12 at s1112 hlw12;have s812:=s811.trans s1112;refine⟨Z,ln,Y,⟨_,SqL.of (s812 _ _ hln8)⟩,Zt6 (s812 _ _ hln8) (hN8.mono (Zco s812)) (by have:=gn.few;omega) (λt tp x m H' R ht hRx=>⟨Z,t,_,_,Z,Y,SqT.of ht,Y,hRx⟩) λlc H13 hlc s1213 hlc13=>?_⟩;refine⟨.list ((nms.map (·.1)).map W.Dat.str),.list ((nms.map (·.1)).map W.Dat.str),.list (SqL.of (s1213 _ _ hlw12)) (Zd6 _),.list (SqL.of hlc13) (Zd6 _),okw,okw,Z,?_⟩;rw[Zfp];refine Zcg ?_;have s813:=s812.trans s1213;let Iv1:NW:=λi σ H'=>∃ x1 x7 x8 x9 x10:OV,σ=[some (.ref a),x1,some (.ref l),some (.ref ln),some (.ref pb),some (.str (Builtin.Str.glued "\n" (Zll rows nms))),some (.ref qb),x7,x8,x9,x10]/\Zaj H8 H';refine⟨8,14,Y,⟨V,V,V,V⟩,Za1 Zbq Iv1
   ⟨some (.ref p),none,none,none,none,Y,s813⟩ (λ_ _ _ _ _=>trivial) ?_ ?_⟩
  ·rintro i v' σ H12 hi ⟨x1,x7,x8,x9,x10,rfl,s12⟩;obtain⟨hi8,rfl⟩:=Za7 hi;have hi8:i<6:=hi8;have s412:=s48.trans s12;refine⟨Z,Z,a,(8 + (i:Int)),ns,Y,(s04.trans s412).seq hS,W,W,W,λpk ok hpk hok=>?_⟩;have s1213:Zaj H12 (upd H12 pk ok):=Zbg hpk;have hpk13:(upd H12 pk ok) pk=some ok:=uS;generalize upd H12 pk ok=H13 at s1213 hpk13;have s813:=s12.trans s1213;refine⟨Z,Z,Z,pk,l,ln,12,rows,nms,us,Y,⟨ok,hpk13,hok⟩,Zcq hR8 s813,g,s813 _ _ hln8,hN8.mono (Zco s813),gn,V,V,λlf xs H14 hlf d1314 hf14 kx x1 xl=>?_⟩;have s1214:Zaj H12 H14:=λb u e=>d1314.keep _ _ (nNo e hpk) (s1213 _ _ e);obtain⟨o14,hpk14,ho14⟩:=d1314.pot;have fpk:lf≠pk:=λz=>by rw[z,hpk13]at hlf;cases hlf
   refine⟨Z,Z,Z,lf,Z,.inl (SqL.of hf14),O,λr hr'=>?_⟩;have s1416:Zaj H14 (upd H14 r (.lst [.int 39])):=Zbg hr';have hr16:(upd H14 r (.lst [.int 39])) r=some (.lst [.int ((39:Nat):Int)]):=uS;generalize upd H14 r (.lst [.int 39])=H16 at s1416 hr16;have s1216:=s1214.trans s1416;have s816:=s12.trans s1216;have r12:H12 r=none:=s1214.free hr';have hpk16:=s1416 _ _ hpk14;have pkr:pk≠r:=nNo hpk14 hr';have fr:lf≠r:=nNo hf14 hr';refine⟨rows,g,pk,ln,r,xs.length,39,12,nms,us,by rw[Ya];rfl,V,V,⟨o14,hpk16,ho14⟩,hr16,pkr,s816 _ _ hln8,hN8.mono (Zco s816),gn,x1,xl,V,λv d ρ' H17 st hv dr cn sd=>?_⟩;have s1217:Zaj H12 H17:=λb u e=>st.keep _ _ (nNo e hpk) (nNo e r12) (s1216 _ _ e);have s817:=s12.trans s1217;have hf17:=st.keep _ _ fpk fr (s1416 _ _ hf14);have cn40:∀ k,Zfq k [d]<=40:=λk=>by have:=cn k;omega
   have wf:Wf d:=Z72 dr;have lz:∀ i,(lvl i [d]).length<=1000:=λi=>by have:=Zxk i [d];have:=cn40 (i + 1);omega
   have tt:Zn4 nms xs.length d=true:=Zva sd cn40;have tk:=Z2d gn xl 12 d sd;refine⟨Z,d,v,Y,hv,tk,by have:=cn40 12;omega,λtx0 H18 s1718 htx=>?_⟩;refine⟨tx0,d,Y,htx,tk,cn40,λv2 H19 s1819 hv2=>?_⟩;have s1719:=s1718.trans s1819;have hv19:=hv.keep (Zco s1719);have lay:=W.kqd_lay 12 d (Z12 12 d tk);refine⟨Z,Z,d,d,hv2.rep,hv19.rep,lay.1,lay.1,by have:=lay.2;omega,Z,?_⟩;rw[PySem.SeqAt.eqv_refl _ lay.1];have rg:RsG rows (Zok rows nms xs 12 d []):=Zr9 gn kx 12 d sd [] (by decide);have okq:=Z9r g rg;have s819:=s817.trans s1719;refine Zcg ⟨Z,Z,Z,qb,k,lf,rows,nms,true,xs,d,v2,Y,bq.mono s819,g,gn,SqL.of (s1719 _ _ hf17),xl,kx,hv2,wf,lz,tt,λa1 H20 s1920 r1=>?_⟩;have s1720:=s1719.trans s1920;have s620:=s68.trans (s817.trans s1720);refine⟨Z,Z,Z,pb,xb,lf,rows,nms,true,xs,d,v,Y,bk.mono s620,g,gn,SqL.of (s1720 _ _ hf17),xl,kx,hv.keep (Zco s1720),wf,lz,tt,λa2 H21 s2021 r2=>?_⟩;refine⟨rsD _,rsD _,(r1.keep (Zco s2021)).rep,r2.rep,okq,okq,Z,?_⟩;rw[Zfp];exact Zcg ⟨_,_,_,_,Z,s817.trans (s1720.trans s2021)⟩
  ·rintro σ H12 ⟨x1,x7,x8,x9,x10,rfl,_⟩;exact q H12
end K76
namespace K76
open PySem L2
variable {P:Program}{w:World}{K:Fg}{mg:Str->OU}{base:Heap}
def md{K:Fg}{m q:Str}{st:Stmt}{ps:LS}(T:Mp K C m q st f fd)(b:Zef K fd ps []):Zqb K C m q st ps f fd:=⟨T.fn,b,T.a,T.i,T.fn.kp⟩
set_option maxHeartbeats 4000000 in
def all_mk{l:W.OpenLaw}{w:World}{K:Fg}{h:Heap}{mg:Str->OU}(X:K.In h)(G:h.Ns mainGlobals mg)(hfa:mg "law"=some (.ref fa))
  {T_LETTERS T_MOST_LETTERS T_MOST_KINDS T_MOST_UPS T_MOST_PLACES T_MOST_DEEDS T_MOST_NAMES T_MOST_THINGS T_MOST_PARTS T_MOST_DEEP T_DIGITS:Tok}
  (TC:Cp K "Kinds" C)
  (TB:Cp K "Board" B)
  (TD:Cp K "Book" D)
  (T_mI:Mp K C "__init__" "Kinds.__init__" Zec f_mI d_mI)
  (T_mH:Mp K C "has" "Kinds.has" Zgb f_mH d_mH)
  (T_mC:Mp K C "check" "Kinds.check" Zcy f_mC d_mC)
  (T_mUn:Mp K C "under" "Kinds.under" Zep f_mUn d_mUn)
  (T_mR:Mp K C "rows" "Kinds.rows" Zd5 f_mR d_mR)
  (T_bI:Mp K B "__init__" "Board.__init__" Zed f_bI d_bI)
  (T_bK:Mp K B "kinds" "Board.kinds" Zeq f_bK d_bK)
  (T_bP:Mp K B "places" "Board.places" Zd0 f_bP d_bP)
  (T_bD:Mp K B "deeds" "Board.deeds" Zer f_bD d_bD)
  (T_kI:Mp K D "__init__" "Book.__init__" Zcp f_kI d_kI)
  (T_kC:Mp K D "check_name" "Book.check_name" Zcz f_kC d_kC)
  (T_kK:Mp K D "kinds" "Book.kinds" Zfg f_kK d_kK)
  (T_kW:Mp K D "words" "Book.words" Zfd f_kW d_kW)
  (T_kB:Mp K D "board" "Book.board" Zfh f_kB d_kB)
  (T_kM:Mp K D "makes" "Book.makes" Zff f_kM d_kM)
  (T_kN:Mp K D "names" "Book.names" Zfe f_kN d_kN)
  (T_w:Tp K "is_word" Zc5 f_w d_w)
  (T_cr:Tp K "check_rows" Ze8 f_cr d_cr)
  (T_cu:Tp K "check_ups" Zf8 f_cu d_cu)
  (T_fa:Tp K "first_among" Zcw f_fa d_fa)
  (T_en:Tp K "endless" Zfw f_en d_en)
  (T_fr:Tp K "find_ring" Zf7 f_fr d_fr)
  (T_aa:Tp K "all_above" Zga f_aa d_aa)
  (T_P:Tp K "_law_pot" Zfx f_P d_P)
  (T_T:Tp K "_law_take" Zbb f_T d_T)
  (T_Le:Tp K "_law_letters" Zce f_Le d_Le)
  (T_W:Tp K "_law_word" Zba f_W d_W)
  (T_Ws:Tp K "_law_words" Zfa f_Ws d_Ws)
  (T_U:Tp K "_law_ups" Zds f_U d_U)
  (T_R:Tp K "_law_rows" Zdu f_R d_R)
  (T_A:Tp K "_law_above" Zfc f_A d_A)
  (T_ic:Tp K "is_call" Zd3 f_ic d_ic)
  (T_cd:Tp K "check_deeds" Zen f_cd d_cd)
  (T_cc:Tp K "check_call" Ze9 f_cc d_cc)
  (T_wi:Tp K "within" Zg7 f_wi d_wi)
  (T_fi:Tp K "fitting" Zgq f_fi d_fi)
  (T_de:Tp K "_law_deeds" Zdd f_de d_de)
  (T_nw:Tp K "nearest_with" Zcd f_nw d_nw)
  (T_na:Tp K "nearest_among" Zdh f_na d_na)
  (T_ne:Tp K "nearest" Zh9 f_ne d_ne)
  (T_to:Tp K "told_of" Zh8 f_to d_to)
  (T_td:Tp K "told" Zr7 f_td d_td)
  (T_pl:Tp K "_law_places" Zeo f_pl d_pl)
  (T_ch:Tp K "_law_chain" Zd4 f_ch d_ch)
  (T_pa:Tp K "_law_pairs" Zdc f_pa d_pa)
  (T_ns:Tp K "_law_names" Zfb f_ns d_ns)
  (T_cm:Tp K "check_makes" Zem f_cm d_cm)
  (T_isn:Tp K "is_number" Zdp f_isn d_isn)
  (T_po:Tp K "parts_of" Zhb f_po d_po)
  (T_sm:Tp K "is_small" Zfv f_sm d_sm)
  (T_hn:Tp K "has_name" Zhd f_hn d_hn)
  (T_is:Tp K "is_sound" Zfu f_is d_is)
  (T_cf:Tp K "check_filling" Zdi f_cf d_cf)
  (T_it:Tp K "is_term" Zic f_it d_it)
  (T_ckt:Tp K "check_term" Ze7 f_ckt d_ckt)
  (T_rc:Tp K "run_call" Zha f_rc d_rc)
  (T_rp:Tp K "run_part" Zg9 f_rp d_rp)
  (T_run:Tp K "run" Zzq f_run d_run)
  (T_arw:Tp K "are_words" Zdr f_arw d_arw)
  (T_fkr:Tp K "is_kind_row" Zej f_fkr d_fkr)
  (T_fnr:Tp K "is_name_row" Zei f_fnr d_fnr)
  (T_fdr:Tp K "is_deed_row" Zek f_fdr d_fdr)
  (T_kof:Tp K "kind_of" Zib f_kof d_kof)
  (T_nof:Tp K "name_of" Zia f_nof d_nof)
  (T_dof:Tp K "deed_of" Zid f_dof d_dof)
  (T_fnm:Tp K "first_named" Zel f_fnm d_fnm)
  (T_tkd:Tp K "take_deed" Zf4 f_tkd d_tkd)
  (T_tkr:Tp K "take_row" Zg8 f_tkr d_tkr)
  (T_rdb:Tp K "read_book" Zf6 f_rdb d_rdb)
  (T_kr:Tp K "kind_row" Zhc f_kr d_kr)
  (T_dr:Tp K "deed_row" Zhe f_dr d_dr)
  (T_br:Tp K "book_rows" Zdq f_br d_br)
  (T_bt:Tp K "book_text" Zf9 f_bt d_bt)
  (T_tt:Tp K "term_text" Zew f_tt d_tt)
  (T_fg:Tp K "is_figures" Zd2 f_fg d_fg)
  (T_spl:Tp K "split_parts" Zcv f_spl d_spl)
  (T_rdp:Tp K "read_part" Zex f_rdp d_rdp)
  (T_rdt:Tp K "read_term" Zf5 f_rdt d_rdt)
  (T_tm:Tp K "_law_term" Zdt f_tm d_tm)
  (T_nrw:Tp K "_law_near_words" Zcx f_nrw d_nrw)
  (T_flg:Tp K "_law_filling" Zc6 f_flg d_flg)
  (T_L:Tp K "law" Zzr f_L d_L)
  (n_ups_of:W.findIn K (.ref C) "ups_of"=some none)
  (n_above_of:W.findIn K (.ref C) "above_of"=some none)
  (n_book_B:W.findIn K (.ref B) "book"=some none)
  (n_width_B:W.findIn K (.ref B) "width"=some none)
  (n_stands_B:W.findIn K (.ref B) "stands"=some none)
  (n_has_B:W.findIn K (.ref B) "has"=some none)
  (n_book_D:W.findIn K (.ref D) "book"=some none)
  (n_board_of_D:W.findIn K (.ref D) "board_of"=some none)
  (n_made_of_D:W.findIn K (.ref D) "made_of"=some none)
  (n_has_D:W.findIn K (.ref D) "has"=some none)
  (n_deeds_D:W.findIn K (.ref D) "deeds"=some none)
  (g_FG:W.nsIn K mainGlobals "FIGURES"=some (some (.ref FG)))
  (l_FG:K.lookup FG=some {cls:=.type "tuple",dict:=dd_FG,data:=.seq #[.str "1" t1_FG,.str "2" t2_FG,.str "3" t3_FG,.str "4" t4_FG] n_FG,slots:=sl_FG})
  (g_LETTERS:W.nsIn K mainGlobals "LETTERS"=some (some (.str Md.letters T_LETTERS)))
  (g_MOST_LETTERS:W.nsIn K mainGlobals "MOST_LETTERS"=some (some (.int 8 T_MOST_LETTERS)))
  (g_MOST_KINDS:W.nsIn K mainGlobals "MOST_KINDS"=some (some (.int 24 T_MOST_KINDS)))
  (g_MOST_UPS:W.nsIn K mainGlobals "MOST_UPS"=some (some (.int 8 T_MOST_UPS)))
  (g_MOST_PLACES:W.nsIn K mainGlobals "MOST_PLACES"=some (some (.int 4 T_MOST_PLACES)))
  (g_MOST_DEEDS:W.nsIn K mainGlobals "MOST_DEEDS"=some (some (.int 64 T_MOST_DEEDS)))
  (g_MOST_NAMES:W.nsIn K mainGlobals "MOST_NAMES"=some (some (.int 8 T_MOST_NAMES)))
  (g_MOST_THINGS:W.nsIn K mainGlobals "MOST_THINGS"=some (some (.int 12 T_MOST_THINGS)))
  (g_MOST_PARTS:W.nsIn K mainGlobals "MOST_PARTS"=some (some (.int 40 T_MOST_PARTS)))
  (g_MOST_DEEP:W.nsIn K mainGlobals "MOST_DEEP"=some (some (.int 12 T_MOST_DEEP)))
  (g_DIGITS:W.nsIn K mainGlobals "DIGITS"=some (some (.str Md.figures T_DIGITS)))
  (z_len:W.nsIn K mainGlobals "len"=some none)
  (z_all:W.nsIn K mainGlobals "all"=some none)
  (z_any:W.nsIn K mainGlobals "any"=some none)
  (z_list:W.nsIn K mainGlobals "list"=some none)
  (z_tuple:W.nsIn K mainGlobals "tuple"=some none)
  (z_range:W.nsIn K mainGlobals "range"=some none)
  (z_int:W.nsIn K mainGlobals "int"=some none)
  (z_bool:W.nsIn K mainGlobals "bool"=some none)
  (z_str:W.nsIn K mainGlobals "str"=some none)
  (z_isinstance:W.nsIn K mainGlobals "isinstance"=some none)
  (z_enumerate:W.nsIn K mainGlobals "enumerate"=some none)
  (z_zip:W.nsIn K mainGlobals "zip"=some none)
  : ∃ fd:FuncData,(∀(s:Shared) (v:Value),BindsTo s fd ⟨[v],[]⟩ [("script",v)])/\∀ base:Heap,K.In base->base.Ns mainGlobals mg->Zaq l.prog w K mg base CX0 24 fa fd ["script"] (Zzn K):=by
 have e:=hfa.symm.trans (W.mg_of X G T_L.a);cases e;obtain⟨_,_,_,_,_,_,rfl⟩:=Tp.ex T_L.fn;have mgC_LETTERS:=W.mg_of X G g_LETTERS;have mgC_MOST_LETTERS:=W.mg_of X G g_MOST_LETTERS;have mgC_MOST_KINDS:=W.mg_of X G g_MOST_KINDS;have mgC_MOST_UPS:=W.mg_of X G g_MOST_UPS;have mgC_MOST_PLACES:=W.mg_of X G g_MOST_PLACES;have mgC_MOST_DEEDS:=W.mg_of X G g_MOST_DEEDS;have mgC_MOST_NAMES:=W.mg_of X G g_MOST_NAMES;have mgC_MOST_THINGS:=W.mg_of X G g_MOST_THINGS;have mgC_MOST_PARTS:=W.mg_of X G g_MOST_PARTS;have mgC_MOST_DEEP:=W.mg_of X G g_MOST_DEEP;have mgC_DIGITS:=W.mg_of X G g_DIGITS;have mgN_len:=W.mg_none_of X G z_len;have mgN_all:=W.mg_none_of X G z_all;have mgN_any:=W.mg_none_of X G z_any;have mgN_list:=W.mg_none_of X G z_list;have mgN_tuple:=W.mg_none_of X G z_tuple;have mgN_range:=W.mg_none_of X G z_range;have mgN_int:=W.mg_none_of X G z_int;have mgN_bool:=W.mg_none_of X G z_bool;have mgN_str:=W.mg_none_of X G z_str;have mgN_isinstance:=W.mg_none_of X G z_isinstance;have mgN_enumerate:=W.mg_none_of X G z_enumerate;have mgN_zip:=W.mg_none_of X G z_zip;obtain⟨aC,pg,hd,po,sa,mk,kc⟩:=TC;have mgC:=W.mg_of X G aC;have M:Mk K C f_mI:=⟨mk,T_mI.a,T_mI.i,kc⟩;obtain⟨aB,pg_B,hd_B,po_B,sa_B,mk_B,kc_B⟩:=TB;have mgB:=W.mg_of X G aB;have M_B:Mk K B f_bI:=⟨mk_B,T_bI.a,T_bI.i,kc_B⟩;obtain⟨aD,pg_D,hd_D,po_D,sa_D,mk_D,kc_D⟩:=TD;have mgD:=W.mg_of X G aD;have M_D:Mk K D f_kI:=⟨mk_D,T_kI.a,T_kI.i,kc_D⟩;have F_mI:=T_mI.fn;have b_mI:=bn2 "self" "rows" T_mI.fn;have a_mH:=T_mH.a;have M_mH:=md T_mH (bn2 "self" "word" T_mH.fn);have M_mC:=md T_mC (bn2 "self" "word" T_mC.fn);have M_mUn:=md T_mUn (bn3 "self" "one" "other" T_mUn.fn);have M_mR:=md T_mR (bn1 "self" T_mR.fn);have F_bI:=T_bI.fn;have b_bI:=bn4 "self" "kinds" "places" "deeds" T_bI.fn;have M_bK:=md T_bK (bn1 "self" T_bK.fn);have M_bP:=md T_bP (bn1 "self" T_bP.fn);have a_bD:=T_bD.a;have M_bD:=md T_bD (bn1 "self" T_bD.fn);have F_kI:=T_kI.fn;have b_kI:=bn3 "self" "kinds" "names" T_kI.fn;have M_kC:=md T_kC (bn2 "self" "word" T_kC.fn);have M_kK:=md T_kK (bn1 "self" T_kK.fn);have M_kW:=md T_kW (bn1 "self" T_kW.fn);have M_kB:=md T_kB (bn2 "self" "word" T_kB.fn);have M_kM:=md T_kM (bn2 "self" "word" T_kM.fn);have M_kN:=md T_kN (bn1 "self" T_kN.fn);have D_w:=df X G T_w (bn1 "text" T_w.fn);have D_cr:=df X G T_cr (bn1 "rows" T_cr.fn);have D_cu:=df X G T_cu (bn1 "ups_of" T_cu.fn);have D_fa:=df X G T_fa (bn2 "words" "others" T_fa.fn);have D_en:=df X G T_en (bn1 "ups_of" T_en.fn);have D_fr:=df X G T_fr (bn1 "ups_of" T_fr.fn);have D_aa:=df X G T_aa (bn2 "ups_of" "word" T_aa.fn);have D_P:=df X G T_P (bn2 "script" "k" T_P.fn);have D_T:=df X G T_T (bn2 "pot" "many" T_T.fn);have D_Le:=df X G T_Le (bn1 "number" T_Le.fn);have D_W:=df X G T_W (bn2 "pot" "words" T_W.fn);have D_Ws:=df X G T_Ws (bn2 "pot" "many" T_Ws.fn);have D_U:=df X G T_U (bn3 "pot" "k" "shape" T_U.fn);have D_R:=df X G T_R (bn2 "pot" "most" T_R.fn);have D_A:=df X G T_A (bn1 "rows" T_A.fn);have D_ic:=df X G T_ic (bn3 "kinds" "places" "call" T_ic.fn);have D_cd:=df X G T_cd (bn3 "kinds" "places" "deeds" T_cd.fn);have D_cc:=df X G T_cc (bn3 "kinds" "places" "call" T_cc.fn);have D_wi:=df X G T_wi (bn3 "kinds" "one" "other" T_wi.fn);have D_fi:=df X G T_fi (bn2 "board" "call" T_fi.fn);have D_de:=df X G T_de (bn5 "pot" "rows" "above" "places" "most" T_de.fn);have D_nw:=df X G T_nw (bn4 "kinds" "deeds" "near" "number" T_nw.fn);have D_na:=df X G T_na (bn2 "board" "numbers" T_na.fn);have D_ne:=df X G T_ne (bn2 "board" "call" T_ne.fn);have D_to:=df X G T_to (bn1 "near" T_to.fn);have D_td:=df X G T_td (bn2 "board" "call" T_td.fn);have D_pl:=df X G T_pl (bn3 "pot" "many" "most" T_pl.fn);have D_ch:=df X G T_ch (bn4 "pot" "above" "call" "most" T_ch.fn);have D_pa:=df X G T_pa (bn5 "pot" "rows" "above" "places" "most" T_pa.fn);have D_ns:=df X G T_ns (bn7 "script" "at" "rows" "above" "most" "few" "calls" T_ns.fn);have D_cm:=df X G T_cm (bn2 "kinds" "makes" T_cm.fn);have D_isn:=df X G T_isn (bn1 "thing" T_isn.fn);have D_po:=df X G T_po (bn1 "level" T_po.fn);have D_sm:=df X G T_sm (bn1 "term" T_sm.fn);have D_hn:=df X G T_hn (bn2 "book" "term" T_hn.fn);have D_is:=df X G T_is (bn3 "book" "length" "term" T_is.fn);have D_cf:=df X G T_cf (bn2 "kinds" "filling" T_cf.fn);have D_it:=df X G T_it (bn3 "book" "filling" "term" T_it.fn);have D_ckt:=df X G T_ckt (bn3 "book" "filling" "term" T_ckt.fn);have D_rc:=df X G T_rc (bn4 "book" "word" "spot" "call" T_rc.fn);have D_rp:=df X G T_rp (bn4 "book" "filling" "term" "spot" T_rp.fn);have D_run:=df X G T_run (bn3 "book" "filling" "term" T_run.fn);have D_arw:=df X G T_arw (bn1 "texts" T_arw.fn);have D_fkr:=df X G T_fkr (bn1 "words" T_fkr.fn);have D_fnr:=df X G T_fnr (bn1 "words" T_fnr.fn);have D_fdr:=df X G T_fdr (bn1 "words" T_fdr.fn);have D_kof:=df X G T_kof (bn1 "words" T_kof.fn);have D_nof:=df X G T_nof (bn1 "words" T_nof.fn);have D_dof:=df X G T_dof (bn1 "words" T_dof.fn);have D_fnm:=df X G T_fnm (bn2 "names" "word" T_fnm.fn);have D_tkd:=df X G T_tkd (bn2 "names" "words" T_tkd.fn);have D_tkr:=df X G T_tkr (bn3 "rows" "names" "words" T_tkr.fn);have D_rdb:=df X G T_rdb (bn1 "text" T_rdb.fn);have D_kr:=df X G T_kr (bn2 "word" "ups" T_kr.fn);have D_dr:=df X G T_dr (bn3 "word" "call" "made" T_dr.fn);have D_br:=df X G T_br (bn1 "book" T_br.fn);have D_bt:=df X G T_bt (bn1 "book" T_bt.fn);have D_tt:=df X G T_tt (bn1 "term" T_tt.fn);have D_fg:=df X G T_fg (bn1 "text" T_fg.fn);have D_spl:=df X G T_spl (bn1 "text" T_spl.fn);have D_rdp:=df X G T_rdp (bn2 "text" "deep" T_rdp.fn);have D_rdt:=df X G T_rdt (bn1 "text" T_rdt.fn);have D_tm:=df X G T_tm (bn5 "pot" "names" "many" "room" "deep" T_tm.fn);have D_nrw:=df X G T_nrw (bn1 "names" T_nrw.fn);have D_flg:=df X G T_flg (bn4 "pot" "rows" "names" "most" T_flg.fn);have D_L:=df X G T_L (bn1 "script" T_L.fn);have TK:Z5b mg:=⟨⟨_,mgC_LETTERS⟩,⟨_,mgC_MOST_LETTERS⟩,⟨_,mgC_MOST_KINDS⟩,⟨_,mgC_MOST_UPS⟩,mgN_len,mgN_all,mgN_list,mgN_tuple⟩;have TR:Yck mg:=⟨mgN_range,mgN_int,mgN_len,mgN_tuple,mgN_list⟩;have TC:Zqd K C:=⟨⟨pg,hd,po,sa⟩,n_ups_of,n_above_of⟩;have TBd:Znr K B:=⟨⟨pg_B,hd_B,po_B,sa_B⟩,n_book_B,n_width_B,n_stands_B⟩;have TBm:Z5d mg:=⟨⟨_,mgC_MOST_PLACES⟩,⟨_,mgC_MOST_DEEDS⟩,mgN_len,mgN_all,mgN_tuple,mgN_list,mgN_enumerate⟩;have hBC:B≠C:=λz=>by rw[z,a_mH]at n_has_B;cases n_has_B
 have TKn:Zjj K D:=⟨⟨pg_D,hd_D,po_D,sa_D⟩,n_book_D,n_board_of_D,n_made_of_D⟩;have hDC:D≠C:=λz=>by rw[z,a_mH]at n_has_D;cases n_has_D
 have hDB:D≠B:=λz=>by rw[z,a_bD]at n_deeds_D;cases n_deeds_D
 have TDd:Z5c mg:=⟨mgN_len,mgN_range,mgN_tuple⟩;have TT:Zy1 mg:=⟨mgN_isinstance,mgN_int,mgN_bool,mgN_tuple,mgN_len,mgN_range⟩;have TFG:Ycq K mg:=⟨FG,W.mg_of X G g_FG,λH=>.inr ⟨_,_,_,l_FG,Y,Y,sL (by show 4<=100000;decide),.cons ⟨Z⟩ (.cons ⟨Z⟩ (.cons ⟨Z⟩ (.cons ⟨Z⟩ .nil)))⟩⟩;exact⟨_,λs v=>.of_eq rfl,λbase _ _=>have GW:=Zou (P:=l.prog) (w:=w) (base:=base) D_wi mgN_zip TC M_mUn M_mC M_mH;have GF:=Zt3 (P:=l.prog) (w:=w) (base:=base) D_fi TBm mgN_zip TC TBd M_bK M_bP M_bD D_cc D_wi D_ic M_mUn M_mC M_mH;have GA:=Zmv D_na mgN_list mgN_any TBd M_bK M_bD D_nw D_wi GW;have GN:=Zty D_ne D_na GA D_fi GF;have GTd:=Z3x D_td D_ne GN D_to mgN_len;have GB:=Z0l (P:=l.prog) (w:=w) (base:=base) F_bI TBm TBd TC D_cd D_ic M_mH hBC;have GI:=Z32 (P:=l.prog) (w:=w) (base:=base) F_mI TK TC D_cr D_w D_cu D_fr D_en D_fa D_aa;have GR:=Zsm (P:=l.prog) (w:=w) (base:=base) D_R D_T D_U D_Ws D_W D_Le TR;have GP:=Z63 (P:=l.prog) (w:=w) (base:=base) D_P mgN_len;have GT:=Zkv (P:=l.prog) (w:=w) (base:=base) D_T;have GLA:=Zoy (P:=l.prog) (w:=w) (base:=base) D_A mgN_len;have GDe:=Zo2 (P:=l.prog) (w:=w) (base:=base) D_de D_T ⟨mgN_len,mgN_range,mgN_tuple⟩;have GR:=Zsm (P:=l.prog) (w:=w) (base:=base) D_R D_T D_U D_Ws D_W D_Le TR;have GW:=Zwv (P:=l.prog) (w:=w) (base:=base) D_W D_T D_Le mgN_len;have GLA:=Zoy (P:=l.prog) (w:=w) (base:=base) D_A mgN_len;have GDe:=Zo2 (P:=l.prog) (w:=w) (base:=base) D_de D_T TDd;have GPl:=Zww D_pl D_T GT;have GCh:=Z0i D_ch TDd D_T GT;have GPa:=Z0a D_pa TDd D_T GT D_de GDe D_ch GCh;have GNs:=Z0d D_ns TDd D_P GP D_T GT D_W GW D_pl GPl D_pa GPa;have GKI:=Z0g F_kI TK ⟨_,mgC_MOST_NAMES⟩ TKn hDC hDB D_w M_B mgB b_bI GB D_cm (Zw4 D_cm TC M_mH);have GKW:=Zoz (C:=C) (B:=B) M_kW.fn TKn mgN_list;have GKB:=Zo1 (C:=C) (B:=B) M_kB.fn TKn M_kC;have GHN:=Zt2 D_hn TT TKn TBd M_kW GKW M_kB GKB M_bP;have GSo:=Zsl D_is TT mgN_all D_isn D_hn GHN 12;have GCk:=Zsp M_mC.fn TC M_mH;have GCF:=Zw6 D_cf TT TC mgC_MOST_THINGS M_mC GCk;have GSm:=Zz6 D_sm TT mgC_MOST_DEEP mgC_MOST_PARTS D_po;have GIT:=Zw1 D_it TT TKn M_kK D_cf GCF D_sm GSm D_is GSo;have GCT:=Zw5 D_ckt D_it GIT;have GRC:=Ztx D_rc TKn mgN_list D_td GTd M_kB M_kM M_kC;have GRP:=Z3z D_rp TT mgN_enumerate D_isn D_rc GRC 12;have GRu:=Z62 D_run D_ckt GCT D_rp GRP;have GIW:=Zik D_w TK;have GAW:=Zqy D_arw mgN_all D_w GIW;have GFK:=Zt1 D_fkr mgN_len D_arw GAW;have GFN:=Ztz D_fnr mgN_len TFG D_w GIW;have GFD:=Zt5 D_fdr mgN_len D_arw GAW;have GKO:=Zw0 D_kof;have GNO:=Zwx D_nof mgN_int;have GDO:=Zw3 D_dof mgN_tuple;have GF1:=Zmx D_fnm;have GTD:=Zqw D_tkd mgN_len D_fnm GF1 D_dof GDO;have GTR:=Ztw D_tkr mgN_len D_fkr GFK D_kof GKO D_fnr GFN D_nof GNO D_fdr GFD D_tkd GTD;have GRB:=Zqx D_rdb mgN_enumerate D_tkr GTR M mgC b_mI GI M_D mgD b_kI GKI;have GKN:=Zwy (C:=C) (B:=B) M_kN.fn TKn TBd M_bP M_bD mgN_list mgN_tuple mgN_zip;have GBR:=Z0k D_br TKn TC mgN_list M_kK M_kN GKN M_mR D_kr D_dr;have GBT:=Z0j D_bt D_br GBR;have GRp:=Zz8 (P:=l.prog) (w:=w) (base:=base) D_rdp TT mgC_MOST_DEEP D_fg (Z66 D_fg mgN_len mgN_all mgC_DIGITS) D_w (Zik D_w TK) D_spl (Zz5 D_spl ⟨mgN_enumerate,mgN_len,mgN_zip⟩) 12;have GTT:=Zz4 D_tt TT mgN_str D_isn 12;have GRT:=Zz7 D_rdt D_rdp GRp D_sm GSm;have GFi:=Z33 D_flg TDd mgN_list D_T GT D_nrw;Z65 D_L ⟨mgN_isinstance,mgN_str,mgN_list,mgN_len,mgN_range⟩ TKn TC M mgC b_mI GI M_D mgD b_kI GKI D_P GP D_R GR D_A GLA D_ns GNs D_flg GFi D_tm (λrows g=>Z3y g D_tm TDd D_T GT 12) D_run GRu D_tt GTT D_rdt GRT D_bt GBT D_rdb GRB M_kW (Zoz M_kW.fn TKn mgN_list) M_kN GKN M_kK (Zkw M_kK.fn TKn) M_mR⟩
def walk{l:W.OpenLaw}{q:Program}{loose:LS}{XP:(Str->OU)->Heap->Prop}{YP:World->Heap->Prop}{d:DefRec}{K:Params->Fg}(hn:l.most=some 63)(hdf:d.params.defaults=[])
  (hY:∀(w:World) (h:Heap),YP w h->(K w.params).In h)
  (F:∀(w:World) (mg:Str->OU) (fa:Addr) (h:Heap),(K w.params).In h->h.Ns mainGlobals mg->mg d.name=some (.ref fa) ->
   ∃ fd:FuncData,(∀(s:Shared) (u:Value),BindsTo s fd ⟨[u],[]⟩ [("script",u)])/\∀ base:Heap,(K w.params).In base->base.Ns mainGlobals mg->Zaq l.prog w (K w.params) mg base CX0 24 fa fd ["script"] (Zzn (K w.params))):
  W.WalkO q loose XP YP l.row.toRowW d [] (λf vs=>PySem.call f vs):=
 L2.walk_of (n:=63) (k:=24) (x:="script") (CX:=λ_=>CX0) (sp:=λw=>Zzn (K w.params)) hn (by decide) hdf ⟨Y,V,V,Y⟩ hY F (λ_ _ a ns hl _ hS=>⟨a,ns,Y,hS,hl,λ_=>rfl⟩) λ_ _ _ _ _ z=>z
end K76
namespace PySem.W.Fast
def tw16423075388862640779:=0
def tw14923247048374095985:=0
def tw3158607716978972086:=0
def tw6485285959873997097:=0
def tw3900095002686707085:=0
def tw7642391272909768067:=0
def tw17707002255209183985:=0
def tw17353147120486496667:=0
def tw5824054596016115630:=0
def tw8697692839810328152:=0
def tw260761189122182272:=0
def tw5723230441149560483:=0
def tw9858601537192569317:=0
def tw4129972665207910374:=0
def tw9982148363694135443:=0
def tw9620696489272496136:=0
def tw2939487231656258725:=0
def tw16181436382795289396:=0
def tw16264770253615260937:=0
def tw12392723757260393135:=0
def tw14008152490629734199:=0
def tw2597560486048506631:=0
def tw13023735062793383189:=0
def tw7729923497992025266:=0
def tw18251162392738832276:=0
def tw3241989620409669856:=0
def tw2640430176629008241:=0
def tw7183647475448889768:=0
def tw16200195097306699600:=0
def tw5468303301973277167:=0
def tw10462245596836945913:=0
def tw4925091282381006362:=0
def tw850823281148426966:=0
def tw13660687020322644647:=0
def tw216052905763271635:=0
def tw4584193106722480402:=0
def tw14634805362288332934:=0
def tw10320199531651699991:=0
def tw6504581963166568111:=0
def tw11016844998036951973:=0
def tw2836002914984851374:=0
def tw7407788759388733731:=0
def tw8648847115513781195:=0
def tw10092613032896157154:=0
def tw4421212349722499318:=0
def tw12278498774252901489:=0
def tw484794987290339724:=0
def tw6551155841232655437:=0
def tw15794633108834582250:=0
def tw9254075861377370029:=0
def tw10686544651397798032:=0
def tw12642504500943086647:=0
def tw17431005784308625316:=0
def tw3215702253677439552:=0
def tw10091583811667052744:=0
def tw7816586511583867428:=0
def tw17917773195774896297:=0
def tw2881834400007442407:=0
def tw16150333164155921482:=0
def tw17822498105083840468:=0
def tw5685990964495281477:=0
def tw4879823251734508088:=0
def tw13251076998520011590:=0
def tw12575182864861806252:=0
def tw16091941559975693954:=0
def tw3394999763102794446:=0
def tw5416580107552188485:=0
def tw9345887280998618596:=0
def tw14080656597317212820:=0
def tw2170397913421608564:=0
def tw8743126595484860843:=0
def tw3394557678693038838:=0
def tw14689363619096347679:=0
def tw412561459373159711:=0
def tw8422165463229084449:=0
def tw3946796126021685676:=0
def tw13912514731401516799:=0
def tw17248722572097615515:=0
def tw1718217791205638278:=0
def tw5822479234266977611:=0
def tw16529156999446941764:=0
def tw9798413691879808777:=0
def tw11371359231474473636:=0
def tw3846595090653428715:=0
def tw4010555676352888121:=0
def tw3004013148473352756:=0
def tw6344132310211354596:=0
def tw16152358430095581897:=0
def tw3024677836391843216:=0
def tw5693160642516852140:=0
def tw4722616388525656333:=0
def tw17050257344066247856:=0
def tw13135039608325407660:=0
def tw8143121195033953065:=0
def tw7787860672835102116:=0
def tw2460427562598886011:=0
def tw5781662419848639527:=0
def tw9959900706776707984:=0
def tw6136429273505006641:=0
def tw6552276133928759627:=0
def tw2490675316696692865:=0
def tw13151009685118591973:=0
def tw693012562269841042:=0
def tw908072092924023617:=0
def tw14013838805810371169:=0
def tw15025222370656322135:=0
def tw11709860969816341840:=0
def tw5815473766415321142:=0
def tw5131261308581138433:=0
def tw12186227898765408939:=0
def tw14397823807842688306:=0
def tw7073888608621585889:=0
def tw1084455603026767265:=0
def tw944883514598002739:=0
def tw2352147380668827972:=0
def tw11060335925162972115:=0
def tw3031321410311167572:=0
def tw2323808069404129358:=0
def tw1934397353839020212:=0
def tw9867305779029916477:=0
def tw8819133784679223498:=0
def tw15848688165416577784:=0
def tw12351594972822335831:=0
def tw12170520108021931686:=0
def tw11094092420480909718:=0
def tw6654427927583136341:=0
def tw4096118343882885839:=0
def tw17457106620973231287:=0
def tw17263799063731849912:=0
def tw9815505791930878030:=0
def tw10895484043542021510:=0
def tw11005325582254748889:=0
def tw7998276099261204290:=0
def tw9998885079383343609:=0
def tw5958734173389421334:=0
def tw1840773001969501498:=0
def tw5821211991728252440:=0
def tw10186157178119662868:=0
def tw1674247330855030987:=0
def tw15378650977171724250:=0
def tw6133352328467320823:=0
def tw10362446732306947249:=0
def tw7487721101398163460:=0
def tw3889298900698979103:=0
def tw1181754705019027138:=0
def tw8853296632073843039:=0
def tw5866338588165232408:=0
def tw7216368516535054480:=0
def tw14063179681485444745:=0
def tw3522010448316777738:=0
def tw16518676400556246186:=0
def tw7446673186669083675:=0
def tw12655558927428347819:=0
def tw3678714176020747851:=0
def tw1268663934602295467:=0
def tw3741494809021388655:=0
def tw2145166083990421793:=0
def tw4887623143572878440:=0
def tw11837233831233160431:=0
def tw16004631163185747804:=0
def tw9279436226703327586:=0
def tw12655349605194689086:=0
def tw12267188163896598571:=0
def tw11628388828777747467:=0
def tw6976663243846720193:=0
def tw8857402573418629010:=0
def tw13436224093306823253:=0
def tw7914087932068347744:=0
def tw4141713393030641928:=0
def tw15649729911956717449:=0
def tw1632472638919865563:=0
def tw206512491959031102:=0
def tw4203527043755754272:=0
def tw16962901776505337009:=0
def tw4603771036390313983:=0
def tw8385724798770031060:=0
def tw2321997902038085213:=0
def tw14987079235568654266:=0
def tw13322659941944525027:=0
def tw12344240010079880354:=0
def tw3659967308479926621:=0
def tw7406013432668262595:=0
def tw5131485438400388429:=0
def tw6891737596128704000:=0
def tw10379040481170071810:=0
def tw3827497383781920827:=0
def tw6902239576378080783:=0
def tw1627014393593214088:=0
def tw3235411301941798050:=0
def tw9825979572249108422:=0
def tw9381357411707438732:=0
def tw2422973333126921243:=0
def tw16683111502686629789:=0
def tw5036253959041534795:=0
def tw11374977524483944832:=0
def tw3144878285893588034:=0
def tw1517564179008843546:=0
def tw10222608484944556272:=0
def tw14036469778109207778:=0
def tw8772541478307273862:=0
def tw6212268276473374505:=0
def tw8400914646632637299:=0
def tw6664745611514071627:=0
def tw8549295145581107953:=0
def tw15722281180305574361:=0
def tw581642010015436895:=0
def tw488188636279840982:=0
def tw14517019303361340312:=0
def tw13725880121699912360:=0
def tw14616421052130549147:=0
def tw13263726230013664033:=0
def tw16904231405019030485:=0
def tw2915382598783658789:=0
def tw17740107291615064433:=0
def tw1330062733250485370:=0
def tw13568555598626530578:=0
def tw17563298697810596038:=0
def tw17319905632212336699:=0
def tw2580442103133749507:=0
def tw6819206793651153509:=0
def tw16656749357657682687:=0
def tw17204993258720317524:=0
def tw16567409425359950170:=0
def tw6510348925843651063:=0
def tw5082316654489629748:=0
def tw3797324723834383295:=0
def tw10730720070539087757:=0
def tw9373332705245814647:=0
def tw11297582910105371110:=0
def tw3899104445331505290:=0
def tw14261680355184061863:=0
def tw4665267068538169720:=0
def tw7090762994738467021:=0
def tw15014309470487338744:=0
def tw6739177163515041816:=0
def tw4505105864490235627:=0
def tw16414215481319381842:=0
def tw16351685612026863784:=0
def tw18276108351718107551:=0
def tw10891725233557228756:=0
def tw13343899341451452964:=0
def tw13061551675660961865:=0
def tw8142601833206816324:=0
def tw2455648959189513952:=0
def tw17017134160844548033:=0
def tw6131616618799922895:=0
def tw12038765968954272452:=0
def tw10776018147379965449:=0
def tw7263290901448903655:=0
def tw16249500735808111994:=0
def tw11893397527528686029:=0
def tw1125200039755160950:=0
def tw11081539931144868523:=0
def tw14622713433163563070:=0
def tw14088227881159422324:=0
def tw8728313273489834246:=0
def tw3140342390526961474:=0
def tw14905057252660082088:=0
def tw48707701619975685:=0
def tw4072294331197161359:=0
def tw17465253114285928615:=0
def tw12470943817329298882:=0
def tw10851537390335235066:=0
def tw14411925267836640782:=0
def tw13243638866690470604:=0
def tw13121476616512210077:=0
def tw9017308629383720946:=0
def tw8949652295495474806:=0
def tw4971191120931150281:=0
def tw8563211493290788855:=0
def tw15543899312467657911:=0
def tw17908444434937804283:=0
def tw8332913000217346301:=0
def tw5461261443249859810:=0
def tw7896501464818819469:=0
def tw191312443290259474:=0
def tw13923148348976606903:=0
def tw9975404071616133264:=0
def tw2863186545564513021:=0
def tw16645260898585529176:=0
def tw14475634039694254378:=0
def tw13869026551947175772:=0
def tw12912159495154454382:=0
def tw11517069362121851270:=0
def tw11245460994628139910:=0
def tw8300199253168128448:=0
def tw7603538867698325944:=0
def tw14963051555249608410:=0
def tw14418880050973085944:=0
def tw2385374263495829849:=0
def tw4414800038112764910:=0
def tw9090912533055543732:=0
def tw6543416338317627304:=0
def tw13642676820725696188:=0
def tw6245572638773250103:=0
def tw4135444885272416332:=0
def tw9759718619190284439:=0
def tw11380480600814340292:=0
def tw6172314396222823050:=0
def tw4632328492778377958:=0
def tw15579340806425427512:=0
def tw6228790266211788649:=0
def tw6099877492242509136:=0
def tw12035534340371548646:=0
def tw14258080880539234568:=0
def tw12074931361686639889:=0
def tw2038097191078058648:=0
def tw6326374085875580999:=0
def tw7967444758695646970:=0
def tw12716073101602358084:=0
def tw7363573004714420848:=0
def tw11358984841065610365:=0
def tw5517350429784667044:=0
def tw4041861481303719488:=0
def tw15502453952726615463:=0
def tw386433176235090746:=0
def tw16852809128346656643:=0
def tw14901092882538354487:=0
def tw8915811377187960867:=0
def tw4998706165535716233:=0
def tw10815364412803883968:=0
def tw14367940095399946997:=0
def tw14004331640639480386:=0
def tw10093502960474942309:=0
def tw15784761150114576701:=0
def tw4121879520715228147:=0
def tw263619537262371799:=0
def tw12688558390300401547:=0
def tw11250659852859089472:=0
def tw8041945823999235700:=0
def tw14205583285023152022:=0
def tw4076080070800896320:=0
def tw6467650624378414739:=0
def tw17278704814301530045:=0
def tw1581531497898410919:=0
def tw11314709962807909595:=0
def tw6755679078573844241:=0
def tw3611826363986678496:=0
def tw7243687838850246358:=0
def tw16918707312127672994:=0
def tw15806041177648649605:=0
def tw7943022931033729622:=0
def tw7766823347642678059:=0
def tw6819091879056818994:=0
def tw12150251543087450381:=0
def tw4428450799442688137:=0
def tw16588086614503933547:=0
def tw15911091859981301563:=0
def tw1302733053647485053:=0
def tw12625970041786838716:=0
def tw12276092208146981414:=0
def tw10290233466245870492:=0
def tw16113970867025846431:=0
def tw7158744347453380901:=0
def tw16342995925127409413:=0
def tw8644567060512175542:=0
def tw6354468265626619680:=0
def tw3273114196823550068:=0
def tw11921748413866705363:=0
def tw4554745369310541677:=0
def tw5375960501991294243:=0
def tw5076631639295733629:=0
def tw18165984292307392109:=0
def tw5302790701181495681:=0
def tw9067531680678222085:=0
def tw9014977072399333995:=0
def tw11377554801718842878:=0
def tw6607894463789471435:=0
def tw9843819780145843862:=0
def tw16845871332840508006:=0
def tw1990658604514623488:=0
def tw13860327930120408452:=0
def tw6877240499367437219:=0
def tw13365390261557462471:=0
def tw5307587128137860868:=0
def tw16413029209907899715:=0
def tw12368921995615489841:=0
def tw1917204196162392967:=0
def tw3910757956592379132:=0
def tw3808988603589194588:=0
def tw17347209640072589508:=0
def tw13105055458560010870:=0
def tw3390578702972696596:=0
def tw7531486944096714597:=0
def tw1472955765145429373:=0
def tw13077827299493165374:=0
def tw12598369130996944162:=0
def tw8665143116065416700:=0
def tw8373344391871413733:=0
def tw13640342621543855985:=0
def tw11472784670023097339:=0
def tw16219014953800473964:=0
def tw15556291493788150340:=0
def tw8607725678565070876:=0
def tw6606123819072433748:=0
def tw4796254550091360540:=0
def tw15153869885455192107:=0
def tw13297042562017696986:=0
def tw2435647778376333626:=0
def tw14197625526709635277:=0
def tw8234045956504403535:=0
def tw3878379951233686721:=0
def tw2757579689432999981:=0
def tw17538141636328401384:=0
def tw16386480038603271957:=0
def tw15601923103138971410:=0
def tw14727871534350938298:=0
def tw12343327919030340554:=0
def tw7699129158170119517:=0
def tw18325348839770022825:=0
def tw10244163247793835510:=0
def tw9908792548200602358:=0
def tw10622932382657879403:=0
def tw9268663936324708116:=0
def tw1976868923789093343:=0
def tw11908427944751081663:=0
def tw16078664679548596013:=0
def tw7656218771504642069:=0
def tw7436878063427270337:=0
def tw5977683368960090525:=0
def tw13046931528518092131:=0
def tw16837812148065564491:=0
def tw7454819329351756266:=0
def tw594808399904078578:=0
def tw18240986493073227351:=0
def tw14431017136980038400:=0
def tw11158196868279029496:=0
def tw2246694831590447918:=0
def tw15089388948739339387:=0
def tw1398410249150938175:=0
def tw13704770184032100174:=0
def tw10278676913407552395:=0
def tw5567166310515554561:=0
def tw16625599234362736525:=0
def tw9858642959561671482:=0
def tw16350392953373946876:=0
def tw2458183769112509411:=0
def tw14735823663021204828:=0
def tw9289896224700471284:=0
def tw6736936845684458313:=0
def tw3589917876908766332:=0
def tw6366407105590994662:=0
def tw16867638527376428117:=0
def tw11295929148549796909:=0
def tw15762085260445805427:=0
def tw15477238584340629321:=0
def tw15976541496787102562:=0
def tw11350932913000816203:=0
def tw4873501047946691670:=0
def tw2854642883471721941:=0
def tw2242394704279955685:=0
def tw1980954195092212029:=0
def tw11330542022096766081:=0
def tw4694884834822038636:=0
def tw2909280922751866499:=0
def tw5245138279241103121:=0
def tw5456945335179011406:=0
def tw12790972613148468045:=0
def tw10316189561087639627:=0
def tw1017486348299501358:=0
def tw9087864639591152685:=0
def tw739820141692198333:=0
def tw13990585412930224812:=0
def tw8915916746172064848:=0
def tw16496716818275014022:=0
def tw10541042528147176311:=0
def tw17948070975753221869:=0
def tw16419770465338481203:=0
def tw10987748502581570:=0
def tw2076838002122864217:=0
def tw16383927089749001934:=0
def tw12957746793109885308:=0
def tw9402317284966474531:=0
def tw4701936262426919657:=0
def tw10442944144323219265:=0
def tw10295841599018140393:=0
def tw9616826030376260491:=0
def tw11691366994877220155:=0
def tw1525315492725656750:=0
def tw13265509788915504829:=0
def tw11993905112133547107:=0
def tw17727630081652687737:=0
def tw6430119285510754629:=0
def tw5257372805455060680:=0
def tw5127308137014088659:=0
def tw4124200401086397309:=0
def tw2229365000946873664:=0
def tw17586201940240189882:=0
def tw12022652489096562331:=0
def tw10726975040670304116:=0
def tw12126319228764901874:=0
def tw11950831245144029310:=0
def tw4331899904362432803:=0
def tw8054186074831482626:=0
def tw4642178164700724981:=0
def tw6735001597472114933:=0
def tw5392896558750526971:=0
def tw1145867770567597541:=0
def tw4223721868630499711:=0
def tw6326911676360592715:=0
def tw5975246317383263033:=0
def tw13589464466810046949:=0
def tw12249979810566394957:=0
def tw1521383697258051635:=0
def tw8280690050445338367:=0
def tw6143045100249071088:=0
def tw4833895704054632732:=0
def tw3004652185513238490:=0
def tw1976498937890518049:=0
def tw1924228772181361235:=0
def tw16934724667329846522:=0
def tw16613492079602925951:=0
def tw14810986785610884285:=0
def tw13440804173301945053:=0
def tw872480725754208174:=0
def tw7926291205889163925:=0
def tw7644364219961957433:=0
def tw7607220028609452101:=0
def tw7181641624278665216:=0
def tw6819167931888173000:=0
def tw4266977881621297430:=0
def tw3628938736881770493:=0
def tw18317762134768383986:=0
def tw17771740293973604860:=0
def tw15740833126298423648:=0
def tw14509491755726917630:=0
def tw14260730844390592971:=0
def tw13077842846938688611:=0
def tw12100138793001555594:=0
def tw5543641230156554974:=0
def tw1355961914386497002:=0
def tw9985655964190431565:=0
def tw6919308886860158505:=0
def tw14286208767565835792:=0
def tw10968366502628359754:=0
def tw1819011291025294099:=0
def tw2756518013326365716:=0
def tw8299985575448941987:=0
def tw4142755353588063446:=0
def tw11182347694772855734:=0
def tw6459896637618091628:=0
def tw8859613007855604693:=0
def tw11175898880325740391:=0
def tw6937609028949120193:=0
def tw4373256708412735859:=0
def tw4197906700709797088:=0
def tw2898916870048218262:=0
def tw18412551624188931270:=0
def tw11391060623043830869:=0
def tw11131930912399447503:=0
def tw6676907828560523394:=0
def tw5174505402427457956:=0
def tw3486691640258985226:=0
def tw3474444937057632983:=0
def tw17157091002881689656:=0
def tw15211765716091964802:=0
def tw15131388473809522410:=0
def tw13417866726413597030:=0
def tw13171562924795057450:=0
def tw12547609888266295663:=0
def tw1141368342908095540:=0
def tw10955936379240021771:=0
def tw10656211430826866780:=0
def tw13635703483654009918:=0
def tw2692814314868717545:=0
def tw6979213826452374242:=0
def tw9682174095405507878:=0
def tw8781561240489283091:=0
def tw8304655121205276221:=0
def tw7774281964691764291:=0
def tw6169140017986053073:=0
def tw4880960303948652042:=0
def tw3915213351820866665:=0
def tw3292294576983938344:=0
def tw16840525600130171992:=0
def tw1667208635080375887:=0
def tw16166049066588285736:=0
def tw1512848086905869508:=0
def tw13909201385485635811:=0
def tw13113297109937759362:=0
def tw10210833828140427067:=0
def tw8900267479075892995:=0
def tw8263970260405414446:=0
def tw5515728902951761623:=0
def tw5499086580264888600:=0
def tw4984331025735145794:=0
def tw478255220767528366:=0
def tw4288742235955889842:=0
def tw18175335330978796715:=0
def tw1683534911057453672:=0
def tw16384501470179531178:=0
def tw15216257559104991186:=0
def tw12969512875525458347:=0
def tw12072470881444852340:=0
def tw11326213230410817258:=0
def tw10623925413547787027:=0
def tw4290431816315660086:=0
def tw9011636612946104685:=0
def tw8683460088786684339:=0
def tw8456531759109666167:=0
end PySem.W.Fast
open PySem PySem.W PyProof.Rows
set_option maxRecDepth 100000 in
set_option maxHeartbeats 0 in
theorem PySem.Challenge.cw_manydeeds_k76_whole_books_there_and_back_holds : PySem.Challenge.rw_manydeeds_k76_whole_books_there_and_back.Holds := by
 w_on;o_law;k_head;(case hw=>w_witness2)
 k_fill
 refine K76.walk (l:=PySem.Challenge.rw_manydeeds_k76_whole_books_there_and_back) rfl rfl (λw h Y=>W.kIn_of Y) ?F
 case F =>
  intro w mg fa h KX G hmg;refine' K76.all_mk KX G hmg ?_ ?_ ?_ ?_ ?_ ?_ ?_ ?_ ?_ ?_ ?_ ?_ ?_ ?_ ?_ ?_ ?_ ?_ ?_ ?_ ?_ ?_ ?_ ?_ ?_ ?_ ?_ ?_ ?_ ?_ ?_ ?_ ?_ ?_ ?_ ?_ ?_ ?_ ?_ ?_ ?_ ?_ ?_ ?_ ?_ ?_ ?_ ?_ ?_ ?_ ?_ ?_ ?_ ?_ ?_ ?_ ?_ ?_ ?_ ?_ ?_ ?_ ?_ ?_ ?_ ?_ ?_ ?_ ?_ ?_ ?_ ?_ ?_ ?_ ?_ ?_ ?_ ?_ ?_ ?_ ?_ ?_ ?_ ?_ ?_ ?_ ?_ ?_ ?_ ?_ ?_ ?_ ?_ ?_ ?_ ?_ ?_ ?_ ?_ ?_ ?_ ?_ ?_ ?_ ?_ ?_ ?_ ?_ ?_ ?_ ?_ ?_ ?_ ?_ ?_ ?_ ?_ ?_ ?_ ?_ ?_
  skip
  any_goals first | exact L2.tp (by k_is) (by k_is) (by k_is) (by k_is) | exact L2.mp (by k_is) (by k_is) (by k_is) (by k_is) (by k_is) | exact⟨by k_is,by k_is,by k_is,by k_is,by k_is,by k_is,by k_is⟩ | k_is
