import PyProof.Rows.All
import Wide.All
import OpenK.AllK
import Wide.FinOn
import Lean
import PyProof.EqAt
import PyProof.EqKinds
import PyProof.TupleCall
import PySem.Challenge.RW_manydeeds_k64_fillings_refused
set_option Elab.async false
set_option linter.all false
set_option maxRecDepth 100000
abbrev EV:=PySem.Value->PySem.Shared->Prop
abbrev PL:=List (PySem.Addr×PySem.Obj)
abbrev LU:=List PySem.Value
abbrev OU:=Option PySem.Value
abbrev LN:=List Nat
def Ja:=@PySem.wpAny_bind
def Jb:=@decide_eq_true
def Jc:=@decide_eq_false
def Jd:=@PySem.wpAny_pure
def Je:=@of_decide_eq_true
def Jf:=@PySem.wpAny_mono
def Jg:=@PySem.wpAny_field
def Jh:=@PySem.wpAny_truthy_bool
def Ji:=@PySem.wpAny_loadPart_at
def Jj:=@PySem.wpAny_holding
set_option hygiene false
local macro_rules|`(tactic|rfl')=>`(tactic|decide +kernel)
local macro_rules|`(tactic|ac_rfl)=>`(tactic|intro pins s σ H Q I h)
local macro_rules|`(tactic|exfalso)=>`(tactic|intro pins s σ H x y v u Q I rx ry h)
abbrev RS:=List (PySem.Str×List PySem.Str)
abbrev LS:=List PySem.Str
abbrev Fg:=PySem.W.Frag
def Ya:=@List.length_map
def Yb:=@PySem.Heap.get?_push_of_some
def Yc:=@List.mem_singleton
def Yd:=@Nat.le_refl
def Ye:=@List.mem_map
def Yf:=@List.mem_of_getElem?
def Yg:=@Bool.false_ne_true
def Yh:=@List.getElem?_eq_getElem
def Yi:=@List.length_append
def Yj:=@PySem.Heap.lt_size
def Yk:=@PySem.PassesOwn.never
def Yl:=@List.size_toArray
def Ym:=@Ne.symm
def Yn:=@List.getElem?_eq_some_iff
def Yo:=@List.mem_append
def Yp:=@List.getElem?_map
def Yq:=@Option.some.inj
def Yr:=@PySem.boot_len
def Ys:=@PySem.Heap.get?_push_size
def Yt:=@List.take_add_one
def Yu:=@PySem.F.plainAttrs_list
def Yv:=@Nat.zero_le
def Yw:=@List.getD_eq_getElem?_getD
def Yx:=@Nat.le_trans
def Yy:=@List.map_cons
def Yz:=@PySem.Paired.length
def Ya1:=@Nat.lt_of_lt_of_le
def Yb1:=@List.map_append
def Yc1:=@Nat.ne_of_lt
def Yd1:=@List.length_take
def Ye1:=@List.take_length
def Yf1:=@List.length_cons
def Yg1:=@List.mem_cons
def Yh1:=@PyProof.Rows.boot_tuple
def Yi1:=@PySem.F.slot_list_append
def Yj1:=@PySem.F.type_list_append
def Yk1:=@Option.map_eq_some_iff
def Yl1:=@List.mem_append_right
def Ym1:=@List.take_zero
def Yn1:=@List.append_nil
def Yo1:=@PyProof.Rows.boot_isinstance
def Yp1:=@Int.toNat_of_nonneg
def Yq1:=@List.lookup_cons
def Yr1:=@List.all_eq_true
def Ys1:=@List.nodup_cons
def Yt1:=@Bool.and_eq_true
def Yu1:=@PySem.Heap.get?_update_self
def Yv1:=@List.length_singleton
def Yw1:=@List.length_filter_le
def Yx1:=@List.length_pos_iff
def Yy1:=@List.map_map
def Yz1:=@List.mem_cons_of_mem
def Ya2:=@List.take_of_length_le
def Yb2:=@PyProof.Rows.boot_list
def Yc2:=@PyProof.Rows.callWith_type1
def Yd2:=@PyProof.Rows.slot_tuple_getitem
def Ye2:=@PySem.Heap.size_push
def Yf2:=@List.mem_append_left
def Yg2:=@PySem.Heap.get?_update_other
def Yh2:=@PySem.Paired.snoc
def Yi2:=@List.filter_eq_self
def Yj2:=@List.mem_filter
def Yk2:=@List.nodup_iff_pairwise_ne
def Yl2:=@List.mem_range
def Ym2:=@PySem.mem_of_lookup
def Yn2:=@List.take_append_drop
def Yo2:=@List.mem_iff_getElem?
def Yp2:=@List.mem_cons_self
def Yq2:=@List.length_drop
def Yr2:=@List.getElem_mem
def Ys2:=@Bool.eq_iff_iff
def Yt2:=@List.replicate_succ
def Yu2:=@List.getElem?_append_right
def Yv2:=@PySem.F.slot_tuple_iterator_next
def Yw2:=@Int.emod_lt_of_pos
def Yx2:=@Classical.byContradiction
def Yy2:=@List.find?_cons
def Yz2:=@List.filter_map
def Ya3:=@PySem.F.slot_list_extend
def Yb3:=@PySem.F.type_list_extend
def Yc3:=@List.nodup_append
def Yd3:=@Nat.lt_irrefl
def Ye3:=@Bool.true_and
def Yf3:=@List.nodup_nil
def Yg3:=@List.any_eq_true
def Yh3:=@PySem.Obj.data_mapFields
def Yi3:=@PySem.Obj.isFreed_of_fields
def Yj3:=@Int.emod_nonneg
def Yk3:=@List.any_cons
def Yl3:=@Array.getElem?_eq_some_iff
def Ym3:=@Int.toNat_natCast
def Yn3:=@List.append_assoc
def Yo3:=@List.mem_of_find?_eq_some
def Yp3:=@Nat.le_succ
def Yq3:=@Nat.ne_of_gt
def Yr3:=@PySem.AutoSeq1.wpAny_loadPart'
def Ys3:=@Array.length_toList
def Yt3:=@List.getElem?_set_self
def Yu3:=@List.flatten_cons
def Yv3:=@List.length_replicate
def Yw3:=@Array.getElem?_toList
def Yx3:=@PySem.F.slot_zip_next
def Yy3:=@Int.zero_add
def Yz3:=@Classical.choose_spec
def Ya4:=@List.mem_iff_getElem
def Yb4:=@List.filter_cons
def Yc4:=@Nat.le_add_right
def Yd4:=@PySem.F.excBase_ValueError
def Ye4:=@List.flatMap_append
def Yf4:=@List.of_mem_zip
def Yg4:=@List.getElem?_append_left
def Yh4:=@Nat.min_eq_left
def Yi4:=@Option.isSome_iff_exists
def Yj4:=@PySem.F.args_tuple_add_2
def Yk4:=@Nat.succ.inj
def Yl4:=@PySem.F.slot_list_insert
def Ym4:=@PySem.F.type_list_insert
def Yn4:=@List.find?_eq_none
def Yo4:=@PySem.F.entry_tuple_add
def Yp4:=@Int.eq_ofNat_of_zero_le
def Yq4:=@PySem.Heap.get?_push_at
def Yr4:=@PySem.F.slot_tuple_add
def Ys4:=@Nat.min_eq_right
def Yt4:=@List.perm_middle
def Yu4:=@List.isEmpty_iff
def Yv4:=@List.getElem?_eq_none
def Yw4:=@PyProof.Rows.boot_int
def Yx4:=@PyProof.Rows.boot_all
def Yy4:=@List.getElem?_set_ne
def Yz4:=@List.length_dropLast
def Ya5:=@Option.map_some
def Yb5:=@List.length_nil
def Yc5:=@List.mem_of_mem_take
def Yd5:=@Int.natCast_mul
def Ye5:=@List.mem_of_mem_drop
def Yf5:=@Bool.false_and
local macro_rules|`(tactic|nofun)=>`(tactic|exact ⟨rfl,rfl,rfl,by decide +kernel,rfl,by decide +kernel,by decide +kernel⟩)
set_option hygiene false
local macro_rules|`(tactic|nomatch $t)=>`(tactic|refine $t (fun vs H Q E h=>?_) (fun cdv A outer s H vs Q E hr h=>?_))
local macro_rules|`(⋯)=>`(Zap P w K mg base CX0)
noncomputable section
local macro_rules | `(tactic| ac_nf)=>`(tactic| (with_reducible show let X:=_;let d:=_;∃ t,PSs X _ t∧t d _ _);intros)
local macro_rules | `(tactic|exists $t)=>`(tactic|(with_reducible show let a:=_;$t);intros)
namespace L2
open PySem PySem.Spec PyProof.Rows
abbrev Key:=Sum Int Str
def Zp0:Key->Value->Bool
 | .inl k,v=>Value.isInt k v
 | .inr x,v=>Value.isStrOf x v
def Z9y(w:World):Key->Int
 | .inl k=>hashInt k
 | .inr x=>hashStr w x
def Zby:∀ {k:Key}{v:Value},Zp0 k v=true->(∃ i t,k=Sum.inl i/\v=Value.int i t)\/(∃ x t,k=Sum.inr x/\v=Value.str x t)
 | .inl i,v,h=>by
  obtain⟨t,e⟩:=Value.isInt_shape (k:=i) (v:=v) h
  exact .inl ⟨i,t,rfl,e⟩
 | .inr x,v,h=>by
  obtain⟨t,e⟩:=Value.isStrOf_shape (x:=x) (v:=v) h
  exact .inr ⟨x,t,rfl,e⟩
def Zvv(i:Int)(t:Tok):Zp0 (.inl i) (.int i t)=true:=by simp[Zp0,Value.isInt]
def Zvu(x:Str)(t:Tok):Zp0 (.inr x) (.str x t)=true:=by simp[Zp0,Value.isStrOf]
def Z4w(a b:Int):decide ((Sum.inl a:Key)=Sum.inl b)=(a == b):=by
 by_cases e:a=b
 ·subst e;simp
 ·have h:¬ (Sum.inl a:Key)=Sum.inl b:=λq=>e (Sum.inl.inj q)
  rw[Jc h]
  exact(beq_eq_false_iff_ne.mpr e).symm
def Z4t(a b:Str):decide ((Sum.inr a:Key)=Sum.inr b)=decide (a=b):=by
 by_cases e:a=b
 ·subst e;simp
 ·have h:¬ (Sum.inr a:Key)=Sum.inr b:=λq=>e (Sum.inr.inj q)
  rw[Jc h,Jc e]
def Z4v(a:Int)(b:Str):decide ((Sum.inl a:Key)=Sum.inr b)=false:=Jc (λq=>nomatch q)
def Z4u(a:Str)(b:Int):decide ((Sum.inr a:Key)=Sum.inl b)=false:=Jc (λq=>nomatch q)
def Zbu(prog:Program)(w:World):PySem.KeyKind prog w Key where
 is:=Zp0
 hash:=Z9y w
 inj:=λv a b ha hb=>by
  rcases Zby ha with⟨i,t,rfl,rfl⟩ | ⟨x,t,rfl,rfl⟩
  ·rcases Zby hb with⟨j,u,rfl,e⟩ | ⟨y,u,rfl,e⟩
   ·injection e with e1 _;rw[e1]
   ·exact nomatch e
  ·rcases Zby hb with⟨j,u,rfl,e⟩ | ⟨y,u,rfl,e⟩
   ·exact nomatch e
   ·injection e with e1 _;rw[e1]
 byValue:=λk v h=>by
  rcases Zby h with⟨i,t,rfl,rfl⟩ | ⟨x,t,rfl,rfl⟩ <;> rfl
 pyHash:=λhv h=>by
  rcases Zby hv with⟨i,t,rfl,rfl⟩ | ⟨x,t,rfl,rfl⟩
  ·exact wpAny_pyHash_int h
  ·exact wpAny_pyHash_str h
 eqBool:=λhu hv h=>by
  rcases Zby hu with⟨i,t,rfl,rfl⟩ | ⟨x,t,rfl,rfl⟩
  ·rcases Zby hv with⟨j,u,rfl,rfl⟩ | ⟨y,u,rfl,rfl⟩
   ·rw[Z4w]at h;exact wpAny_eqBool_int h
   ·rw[Z4v]at h;exact SeqAt.EqAt.int_str i t y u _ _ _ _ h
  ·rcases Zby hv with⟨j,u,rfl,rfl⟩ | ⟨y,u,rfl,rfl⟩
   ·rw[Z4u]at h;exact SeqAt.EqAt.str_int x t j u _ _ _ _ h
   ·rw[Z4t]at h;exact wpAny_eqBool_str h
 «strs»:=λk x t v h=>by
  rcases Zby h with⟨i,u,rfl,e⟩ | ⟨y,u,rfl,e⟩
  ·exact nomatch e
  ·injection e with e1 _
   subst e1
   cases v <;> rfl
def Zpt(prog:Program)(w:World)(i:Int)(t:Tok):(Zbu prog w).is (.inl i) (.int i t)=true:=Zvv i t
def Zps(prog:Program)(w:World)(x:Str)(t:Tok):(Zbu prog w).is (.inr x) (.str x t)=true:=Zvu x t
inductive V where
 | non | bl (b:Bool) | int (i:Int) | str (x:Str) | byt (b:Array UInt8) | flt (b:UInt64) | ref (a:Addr) | ty (n:String)
 deriving DecidableEq
abbrev _root_.LV:=List V
abbrev _root_.OV:=Option V
abbrev _root_.KL:=List (Key×V)
def Zcl:V->Value->Prop
 | .non,u=>u=Value.none
 | .bl b,u=>u=Value.bool b
 | .int i,u=>∃ t,u=Value.int i t
 | .str x,u=>∃ t,u=Value.str x t
 | .byt b,u=>∃ t,u=Value.bytes b t
 | .flt b,u=>∃ t,u=Value.float b t
 | .ref a,u=>u=Value.ref a
 | .ty n,u=>u=Value.type n
abbrev Zb0:LV->LU->Prop:=Paired Zcl
theorem Zb0.length{xs:LV}{us:LU}(r:Zb0 xs us):xs.length=us.length:=Yz r
theorem Zb0.get:∀ {xs:LV}{us:LU}{i:Nat}{x:V},Zb0 xs us->xs[i]?=some x->∃ u,us[i]?=some u/\Zcl x u
 | _,_,_,_,.nil,e=>by simp at e
 | _,_,0,_,.cons r _,e=>by simp at e;subst e;exact⟨_,rfl,r⟩
 | _,_,i + 1,x,.cons _ t,e=>by
  obtain⟨u,h1,h2⟩:=Zb0.get (i:=i) (x:=x) t (by simpa using e)
  exact⟨u,by simpa using h1,h2⟩
theorem Zb0.set{x:V}{u:Value}(r:Zcl x u):∀ {xs:LV}{us:LU}(i:Nat),Zb0 xs us->Zb0 (xs.set i x) (us.set i u)
 | _,_,_,.nil=>.nil
 | _,_,0,.cons _ t=>.cons r t
 | _,_,i + 1,.cons q t=>.cons q (Zb0.set r i t)
theorem Zb0.append:∀ {xs ys:LV}{us ws:LU},Zb0 xs us->Zb0 ys ws->Zb0 (xs++ys) (us++ws)
 | _,_,_,_,.nil,s=>s
 | _,_,_,_,.cons r t,s=>.cons r (Zb0.append t s)
theorem Zb0.take:∀ {xs:LV}{us:LU}(n:Nat),Zb0 xs us->Zb0 (xs.take n) (us.take n)
 | _,_,0,_=>.nil
 | _,_,_ + 1,.nil=>.nil
 | _,_,n + 1,.cons r t=>.cons r (Zb0.take n t)
theorem Zb0.drop:∀ {xs:LV}{us:LU}(n:Nat),Zb0 xs us->Zb0 (xs.drop n) (us.drop n)
 | _,_,0,r=>r
 | _,_,_ + 1,.nil=>.nil
 | _,_,n + 1,.cons _ t=>Zb0.drop n t
def Zo3:OV->OU->Prop
 | some v,some u=>Zcl v u
 | none,none=>True
 | _,_=>False
def KV{κ:Type}:List (κ×V)->List (κ×Value)->Prop:=Paired λ(p:κ×V) (q:κ×Value)=>p.1=q.1/\Zcl p.2 q.2
def kV:Key->V
 | .inl i=>.int i
 | .inr x=>.str x
inductive HO where
 | lst (xs:LV)
 | tup (xs:LV)
 | dK (kvs:KL) | dT (kvs:List (List Key×V))
 | set (S:Int->Bool) (n:Nat)
 | ins (C dx:Addr) (fs:List (Str×V))
 | own (x:Addr)
 | xd (fs:List (Str×V))
 | met (f x:Addr)
 | rng (lo hi:Int)
 | frz (o:Obj) (u:HO)
 | tbl (ps:Array Value)
 | ext (φ:Heap->Prop)
abbrev Hp:=Addr->Option HO
def upd(H:Hp)(a:Addr)(o:HO):Hp:=λb=>if b=a then some o else H b
def uS{H:Hp}{a:Addr}{o:HO}:upd H a o a=some o:=by unfold upd;rw[if_pos rfl]
def Zab{H:Hp}{a b:Addr}{o:HO}(h:b≠a):upd H a o b=H b:=by unfold upd;rw[if_neg h]
def Zgz{H:Hp}{a:Addr}{o u:HO}:upd (upd H a o) a u=upd H a u:=by
 funext b;unfold upd;split <;> rfl
def Z1l{H:Hp}{a b:Addr}{o u:HO}(h:H a=some o)(h':H b=some u)(d:o≠u):a≠b:=by
 intro e;subst e;rw[h]at h';exact d (Yq h')
def nNo{H:Hp}{a b:Addr}{o:HO}(h:H a=some o)(h':H b=none):a≠b:=by
 intro e;subst e;rw[h]at h';cases h'
section
variable (P:Program)(w:World)
def Zb6(H:Hp)(h:Heap)(a:Addr):HO->Prop
 | .lst xs=>xs.length<=sizeLine/\∃(its:LU) (n:Nat),Zb0 xs its/\h.get? a=some {cls:=.type "list",data:=.seq its.toArray n}
 | .tup xs=>xs.length<=sizeLine/\∃ its:LU,Zb0 xs its/\IsTup h a its.toArray
 | .dK kvs=>kvs.length<=sizeLine/\(a == sysModules)=false/\∃ vs,KV kvs vs/\h.DictOf (Zbu P w) a vs
 | .dT kvs=>kvs.length<=sizeLine/\(a == sysModules)=false/\∃ xs:List (List Key×Addr×Value),
   Paired (λ(p:List Key×V) (q:List Key×Addr×Value)=>p.1=q.1/\H q.2.1=some (.tup (p.1.map kV))/\Zcl p.2 q.2.2) kvs xs /\
   ∃ o es ep,h.get? a=some o/\o.ExactDict/\o.data=.dict es ep/\es.toList=xs.map (entryOfKey (tupleKind (Zbu P w)))/\(xs.map (·.1)).Nodup
 | .set S n=>h.SetOf (intKind P w) a S n
 | .ins C dx fs=>H dx=some (.own a)/\fs.length<=1000/\dx≠a/\h.get? a=some (W.instObj C dx) /\
   ∃ mA,h.Ns1 dx mA/\(∀ f,Zo3 (fs.lookup f) (mA f))/\PySem.Within mA (fs.map (·.1))
 | .own _=>∃ o,h.get? a=some o
 | .xd fs=>∃ mA,h.Ns1 a mA/\∀ f,Zo3 (fs.lookup f) (mA f)
 | .rng lo hi=>∃ t u v,h.get? a=some {cls:=.type "range",data:=.fields #[.int lo t,.int hi u,.int 1 v] }
 | .frz o u=>h.get? a=some o/\Zb6 H h a u
 | .tbl ps=>h.get? a=some {cls:=.none,data:=.fields ps}
 | .met f x=>h.get? a=some (W.methodObj (.ref f) (.ref x))
 | .ext φ=>φ h/\(∃ o,h.get? a=some o)/\∀ h1 h2:Heap,φ h1->(∀ o,h1.get? a=some o->h2.get? a=some o)->φ h2
def HOk(H:Hp)(h:Heap):Prop:=∀ a o,H a=some o->Zb6 P w H h a o
end
section
variable {P:Program}{w:World}{H H':Hp}{h h':Heap}{a:Addr}{o:HO}
theorem Zb6.lt(x:Zb6 P w H h a o):a<h.objs.size:=by
 cases o with
 | lst xs=>obtain⟨_,_,_,_,e⟩:=x;exact Yj e
 | tup xs=>obtain⟨_,_,_,p⟩:=x;exact p.lt
 | dK kvs=>obtain⟨_,_,_,_,o,_,_,e,_⟩:=x;exact Yj e
 | dT kvs=>obtain⟨_,_,_,_,o,_,_,e,_⟩:=x;exact Yj e
 | set S n=>obtain⟨o,_,_,_,e,_⟩:=x;exact Yj e
 | ins C dx fs=>obtain⟨_,_,_,e,_⟩:=x;exact Yj e
 | own y=>obtain⟨_,e⟩:=x;exact Yj e
 | xd fs=>obtain⟨_,⟨_,_,_,e,_⟩,_⟩:=x;exact Yj e
 | rng lo hi=>obtain⟨_,_,_,e⟩:=x;exact Yj e
 | frz ob u=>obtain⟨e,_⟩:=x;exact Yj e
 | tbl ps=>exact Yj (show h.get? a=some _ from x)
 | met f y=>exact Yj (show h.get? a=some _ from x)
 | ext φ=>obtain⟨_,⟨_,e⟩,_⟩:=x;exact Yj e
theorem Paired.mapP{α β:Type}{F G:α->β->Prop}:∀ {l₁:List α}{l₂:List β},Paired F l₁ l₂->(∀ a b,F a b->G a b)->Paired G l₁ l₂
 | _,_,.nil,_=>.nil
 | _,_,.cons r t,f=>.cons (f _ _ r) (Paired.mapP t f)
def Paired.imp'{α β:Type}{F G:α->β->Prop}(f:∀ a b,F a b->G a b){l₁:List α}{l₂:List β}(r:Paired F l₁ l₂):Paired G l₁ l₂:=Paired.mapP r f
def Zb6.stay(x:Zb6 P w H h a o)(k:∀ b u,(b=a\/H b=some (.own a))->h.get? b=some u->h'.get? b=some u)
  (ho:∀ b,H b=some (.own a)->H' b=some (.own a)) (ht:∀ b xs,H b=some (.tup xs)->H' b=some (.tup xs)):Zb6 P w H' h' a o:=by
 induction o with
 | lst xs=>obtain⟨z,its,n,r,e⟩:=x;exact⟨z,its,n,r,k _ _ (.inl rfl) e⟩
 | tup xs=>obtain⟨z,its,r,ob,e,c⟩:=x;exact⟨z,its,r,ob,k _ _ (.inl rfl) e,c⟩
 | dK kvs=>obtain⟨z,y,vs,r,ob,es,ep,e,c⟩:=x;exact⟨z,y,vs,r,ob,es,ep,k _ _ (.inl rfl) e,c⟩
 | dT kvs =>
  obtain⟨z,y,xs,r,ob,es,ep,e,c⟩:=x
  exact⟨z,y,xs,Paired.mapP r λp q z=>⟨z.1,ht _ _ z.2.1,z.2.2⟩,ob,es,ep,k _ _ (.inl rfl) e,c⟩
 | set S n=>obtain⟨ob,es,ep,t,e,c⟩:=x;exact⟨ob,es,ep,t,k _ _ (.inl rfl) e,c⟩
 | ins C dx fs =>
  obtain⟨d,z,ne,e,mA,⟨od,es,ep,e2,c⟩,r⟩:=x
  exact⟨ho _ d,z,ne,k _ _ (.inl rfl) e,mA,⟨od,es,ep,k _ _ (.inr d) e2,c⟩,r⟩
 | own y=>obtain⟨ob,e⟩:=x;exact⟨ob,k _ _ (.inl rfl) e⟩
 | xd fs=>obtain⟨mA,⟨od,es,ep,e,c⟩,r⟩:=x;exact⟨mA,⟨od,es,ep,k _ _ (.inl rfl) e,c⟩,r⟩
 | rng lo hi=>obtain⟨t,u,v,e⟩:=x;exact⟨t,u,v,k _ _ (.inl rfl) e⟩
 | frz ob u ih=>obtain⟨e,q⟩:=x;exact⟨k _ _ (.inl rfl) e,ih q⟩
 | tbl ps =>
  have e:h.get? a=some {cls:=.none,data:=.fields ps}:=x
  show h'.get? a=some {cls:=.none,data:=.fields ps}
  exact k a _ (.inl rfl) e
 | met f y =>
  have e:h.get? a=some (W.methodObj (.ref f) (.ref y)):=x
  show h'.get? a=some (W.methodObj (.ref f) (.ref y))
  exact k a _ (.inl rfl) e
 | ext φ=>obtain⟨p,⟨o,e⟩,st⟩:=x;exact⟨st _ _ p λo q=>k _ _ (.inl rfl) q,⟨o,k _ _ (.inl rfl) e⟩,st⟩
theorem HOk.lt(x:HOk P w H h)(e:H a=some o):a<h.objs.size:=(x a o e).lt
def HOk.fresh(x:HOk P w H h)(e:h.objs.size<=a):H a=none:=by
 cases q:H a with
 | none=>rfl
 | some u=>exact absurd (Ya1 (x.lt q) e) (Yd3 _)
def HOk.kept(x:HOk P w H h)(k:∀ b u,h.get? b=some u->h'.get? b=some u):HOk P w H h':=λa o e =>
 (x a o e).stay (λb u _ q=>k b u q) (λ_ q=>q) λ_ _ q=>q
def HOk.laid(x:HOk P w H h)(k:∀ b u,h.get? b=some u->h'.get? b=some u)(hp:h.objs.size<=a)(new:Zb6 P w (upd H a o) h' a o):HOk P w (upd H a o) h':=λb u e=>by
 have hn:=x.fresh hp
 by_cases hb:b=a
 ·subst hb;rw[uS]at e;cases e;exact new
 ·rw[Zab hb]at e
  exact(x b u e).stay (λc v _ q=>k c v q) (λc q=>by rw[Zab (nNo q hn)];exact q) λc xs q=>by rw[Zab (nNo q hn)];exact q
end
def Rd(H:Hp)(a:Addr)(u:HO):Prop:=H a=some u\/∃ o,H a=some (.frz o u)
def Rd.ok{P:Program}{w:World}{H:Hp}{h:Heap}{a:Addr}{u:HO}(r:Rd H a u)(x:HOk P w H h):Zb6 P w H h a u:=by
 rcases r with r | ⟨o,r⟩
 ·exact x a u r
 ·obtain⟨_,q⟩:=x a _ r
  exact q
def Mut:Option HO->Prop
 | some (.lst _)=>True
 | some (.dK _)=>True
 | some (.dT _)=>True
 | some (.set _ _)=>True
 | some (.ins _ _ _)=>True
 | some (.ext _)=>True
 | _=>False
section
variable {P:Program}{w:World}{H:Hp}{h h':Heap}{x e:Addr}{o':HO}
def HOk.write(ok:HOk P w H h)(mu:Mut (H x))(he:e=x\/H e=some (.own x))(k:∀ b u,b≠e->h.get? b=some u->h'.get? b=some u)(heo:∃ u,h'.get? e=some u)
  (new:Zb6 P w (upd H x o') h' x o'):HOk P w (upd H x o') h':=λb u q=>by
 have nown:∀ c y,H c=some (.own y)->c≠x:=λc y r z=>by subst z;rw[r]at mu;exact mu
 have ntup:∀ c xs,H c=some (.tup xs)->c≠x:=λc xs r z=>by subst z;rw[r]at mu;exact mu
 by_cases hb:b=x
 ·subst hb;rw[uS]at q;cases q;exact new
 ·rw[Zab hb]at q
  by_cases hbe:b=e
  ·have q':H b=some (.own x):=by
    rcases he with z | z
    ·exact absurd (hbe.trans z) hb
    ·rw[hbe];exact z
   rw[q]at q';cases q'
   obtain⟨v,hv⟩:=heo
   exact⟨v,by rw[hbe];exact hv⟩
  ·refine(ok b u q).stay (λc v hc r=>k c v ?_ r) (λc r=>by rw[Zab (nown c b r)];exact r) λc xs r=>by rw[Zab (ntup c xs r)];exact r
   rcases hc with rfl | hc
   ·exact hbe
   ·rintro rfl
    rcases he with z | z
    ·exact nown c b hc z
    ·rw[hc]at z;cases z;exact hb rfl
end
structure Un(fs ex:List Addr)(H H':Hp)(h h':Heap):Prop where
 keep:∀ b o,h.get? b=some o->H b=none->b∉fs->b∉ex->h'.get? b=some o
 slot:∀ b o,h.get? b=some o->H b=none->b∈fs->b∉ex->∃ sl,h'.get? b=some {o with slots:=sl}
 free:∀ b o,h.get? b=some o->H b=none->b∉ex->H' b=none
 there:∀ b o,h.get? b=some o->b∉ex->∃ o',h'.get? b=some o'
 tups:∀ b xs,H b=some (.tup xs)->H' b=some (.tup xs)
 frzs:∀ b o u,H b=some (.frz o u)->H' b=some (.frz o u)
 tbls:∀ b ps,H b=some (.tbl ps)->∃ more,H' b=some (.tbl (ps++more))
section
variable {fs fs' ex ex':List Addr}{H H1 H2:Hp}{h h1 h2 h':Heap}{a x e:Addr}{o:HO}
def Un.any(u:Un fs ex H H1 h h1){b:Addr}{ob:Obj}(q:h.get? b=some ob)(n:H b=none)(hx:b∉ex):∃ sl,h1.get? b=some {ob with slots:=sl}:=by
 by_cases hb:b∈fs
 ·exact u.slot b ob q n hb hx
 ·exact⟨ob.slots,u.keep b ob q n hb hx⟩
def Un.kept(k:∀ b u,h.get? b=some u->h'.get? b=some u):Un fs ex H H h h' :=
 ⟨λb ob q _ _ _=>k b ob q,λb ob q _ _ _=>⟨ob.slots,k b ob q⟩,λ_ _ _ n _=>n,λb ob q _=>⟨ob,k b ob q⟩,λ_ _ q=>q,λ_ _ _ q=>q,λ_ ps q=>⟨#[],by rw[q];simp⟩⟩
def Un.refl:Un fs ex H H h h:=Un.kept λ_ _ q=>q
def Un.laid(k:∀ b u,h.get? b=some u->h'.get? b=some u)(hp:h.objs.size<=a)(hn:H a=none):Un fs ex H (upd H a o) h h' where
 keep:=λb u q _ _ _=>k b u q
 slot:=λb u q _ _ _=>⟨u.slots,k b u q⟩
 free:=λb u q n _=>by rw[Zab (Yc1 (Ya1 (Yj q) hp))];exact n
 there:=λb u q _=>⟨u,k b u q⟩
 tups:=λb xs q=>by rw[Zab (nNo q hn)];exact q
 frzs:=λb u xs q=>by rw[Zab (nNo q hn)];exact q
 tbls:=λb ps q=>⟨#[],by rw[Zab (nNo q hn),q];simp⟩
def Un.write(mu:Mut (H x))(he:e=x\/H e=some (.own x))(k:∀ b u,b≠e->h.get? b=some u->h'.get? b=some u)(heo:∃ u,h'.get? e=some u):Un fs ex H (upd H x o) h h':=by
 have hx:∀ b,H b=none->b≠x:=λb n z=>by subst z;rw[n]at mu;exact mu
 have hb:∀ b,H b=none->b≠e:=λb n z=>by
  subst z
  rcases he with r | r
  ·exact hx b n r
  ·rw[n]at r;cases r
 have hm:∀ b u,H b=some u->¬ Mut (some u)->b≠x:=λb u q nm z=>by subst z;rw[q]at mu;exact nm mu
 refine⟨λb u q n _ _=>k b u (hb b n) q,λb u q n _ _=>⟨u.slots,k b u (hb b n) q⟩,λb u q n _=>by rw[Zab (hx b n)];exact n,λb u q _=>?_,
  λb xs q=>by rw[Zab (hm b _ q λz=>z)];exact q,λb u xs q=>by rw[Zab (hm b _ q λz=>z)];exact q,λb ps q=>⟨#[],by rw[Zab (hm b _ q λz=>z),q];simp⟩⟩
 by_cases hbe:b=e
 ·subst hbe;exact heo
 ·exact⟨u,k b u hbe q⟩
end
def trk(h:Heap)(H:Hp):List Addr:=(List.range h.objs.size).filter λa=>(H a).isSome
def Zyq(h:Heap)(H:Hp):Heap:=W.hideAll h (trk h H)
def Zv0(h:Heap)(H:Hp):(Zyq h H).objs.size=h.objs.size:=W.hideAll_size _ _
def Zyp{h:Heap}{H:Hp}{b:Addr}{o:Obj}(e:h.get? b=some o)(n:H b=none):(Zyq h H).get? b=some o :=
 W.hideAll_get _ e λhm=>by
  have q:(H b).isSome=true:=(Yj2.mp hm).2
  rw[n]at q;simp at q
def Z1j{h:Heap}{H:Hp}{b:Addr}{o:Obj}(e:(Zyq h H).get? b=some o):h.get? b=some o/\H b=none:=by
 have e':h.get? b=some o:=W.of_hideAll (trk h H) e
 refine⟨e',?_⟩
 cases q:H b with
 | none=>rfl
 | some x =>
  have hm:b∈trk h H:=Yj2.mpr ⟨Yl2.mpr (Yj e'),by simp[q]⟩
  have z:(Zyq h H).get? b=none:=W.hideAll_none (trk h H) hm
  rw[z]at e;cases e
def Z2l(g h:Heap)(L:Addr):PL:=(List.range h.objs.size).filterMap λa=>if a=L\/(g.get? a).isSome=true then none else(h.get? a).map λo=>(a,o)
def Zf3(g h:Heap)(L d:Addr):PL:=(Z2l g h L).filter λp=>decide (p.1≠d)
structure Mod(K:Fg)(mg:Str->OU)(base:Heap):Prop where
 kin:K.In base
 glob:base.Ns mainGlobals mg
 blt:∃ mb,base.Ns builtinsNs mb/\∀ x:Str,x≠"__name__"->mb x=bootBuiltins x
 nolimit:base.NoLimit
structure Cx where
 prog:Program
 w:World
 K:Fg
 mg:Str->OU
 base:Heap
 A:Around
 N:LS
 s₀:Shared
 H₀:Hp
 env:Env
 outer:List Env
 stack:List Env
 ex:List Addr
 fn:Str->Bool
 calm:Bool
 pn:PL
 xe:EV
def frs(l:List Env):List Addr:=l.filterMap (·.frame)
abbrev Cx.fs(X:Cx):List Addr:=frs X.outer
def Vis(sc:Scope)(x:Str):Prop:=sc.names.lookup x=some .local\/sc.names.lookup x=some .cell\/sc.names.lookup x=some .free
def Loc(sc:Scope)(x:Str):Prop:=sc.names.lookup x=some .local\/sc.names.lookup x=some .cell
def Yah(env:Env)(h:Heap)(m:Str->OU)(x:Str)(u:Value):Prop :=
 (env.kindOf x=some .local/\m x=some u)\/((env.kindOf x=some .cell\/env.kindOf x=some .free)/\∃ c,env.cells.lookup x=some c/\h.IsCell c (some u))
structure Cx.Ok(X:Cx):Prop where
 mod:Mod X.K X.mg X.base
 kind:X.env.scope.kind=.function
 glob:X.env.globals=mainGlobals
 blt:X.env.builtins=builtinsNs
 above:X.s₀.heap.objs.size<=X.env.locals
 inj:∀ x y c,X.env.cells.lookup x=some c->X.env.cells.lookup y=some c->x=y
 has:∀ x,(X.env.kindOf x=some .cell\/X.env.kindOf x=some .free)->∃ c,X.env.cells.lookup x=some c
 cab:∀ x c,X.fn x=true->X.env.cells.lookup x=some c->X.s₀.heap.objs.size<=c
 hd:X.calm=true->X.A.handled=none
 frames:X.A.frames=some X.stack
 stk:X.stack=X.outer\/(X.stack=X.env :: X.outer/\X.env.frame=some X.env.locals)
 exf:∀ b∈X.ex,b≠X.env.locals/\∀ x c,X.env.cells.lookup x=some c->c≠b
 bs:∀ b o,X.base.get? b=some o->X.s₀.heap.get? b=some o/\X.H₀ b=none
 bsz:X.base.objs.size<=X.s₀.heap.objs.size
 noex:∀ b o,X.base.get? b=some o->b∉X.ex
 exfs:∀ b∈X.ex,b∉X.fs
 funs:X.s₀.heap.FunFrames X.base X.outer
 frf:∀ b∈X.fs,X.H₀ b=none
structure Inv(X:Cx)(pins:PL)(σ:List (OV))(H:Hp)(s:Shared):Prop where
 ok:X.Ok
 os:s.os=X.s₀.os
 bare:AllBare s.gens
 base:Un X.fs X.ex X.H₀ H X.s₀.heap s.heap
 loc:∃ m,s.heap.Ns X.env.locals m/\∀(i:Nat) (x:Str) (v:V),X.N[i]?=some x->σ[i]?=some (some v)->Vis X.env.scope x->∃ u,Zcl v u/\Yah X.env s.heap m x u
 cell:∀ x c,X.env.cells.lookup x=some c->∃ v,s.heap.IsCell c v
 free:H X.env.locals=none
 freeC:∀ x c,X.env.cells.lookup x=some c->H c=none
 pin:∀ p∈X.pn++pins,s.heap.get? p.1=some p.2/\H p.1=none/\p.1≠X.env.locals/\p.1∉X.fs/\∀ v,p.2.data≠.cell v
 hok:HOk X.prog X.w H s.heap
 len:σ.length=X.N.length
section
variable {X:Cx}{pins:PL}{σ:List (OV)}{H H':Hp}{s:Shared}{h':Heap}
def Cx.Ok.nofr(ok:X.Ok){b:Addr}{o:Obj}(e:X.base.get? b=some o):b∉X.fs:=λhb=>by
 have:=(ok.funs.mem hb).1
 rw[e]at this;cases this
theorem Inv.bs(I:Inv X pins σ H s):∀ b o,X.base.get? b=some o->s.heap.get? b=some o/\H b=none:=λb o e =>
 ⟨I.base.keep b o (I.ok.bs b o e).1 (I.ok.bs b o e).2 (I.ok.nofr e) (I.ok.noex b o e),I.base.free b o (I.ok.bs b o e).1 (I.ok.bs b o e).2 (I.ok.noex b o e)⟩
def Inv.bk(I:Inv X pins σ H s):∀ b o,X.base.get? b=some o->s.heap.get? b=some o:=λb o e=>(I.bs b o e).1
theorem Inv.mod(I:Inv X pins σ H s):Mod X.K X.mg X.base:=I.ok.mod
def Inv.kIn(I:Inv X pins σ H s):X.K.In s.heap:=I.ok.mod.kin.keeps I.bk
theorem Inv.lt(I:Inv X pins σ H s):X.env.locals<s.heap.objs.size:=let⟨_,hn,_⟩:=I.loc;hn.lt
def Inv.sz(I:Inv X pins σ H s):X.s₀.heap.objs.size<=s.heap.objs.size:=Yx I.ok.above (Nat.le_of_lt I.lt)
def Inv.nofs(I:Inv X pins σ H s){a:Addr}(h:s.heap.objs.size<=a):a∉X.fs:=λhb=>by
 obtain⟨_,o,ho,_⟩:=I.ok.funs.mem hb
 exact absurd (Ya1 (Yj ho) (Yx I.sz h)) (Yd3 _)
def Inv.cne(I:Inv X pins σ H s):∀ x c,X.env.cells.lookup x=some c->c≠X.env.locals:=λx c e z=>by
 obtain⟨v,o,ho,hd⟩:=I.cell x c e
 obtain⟨m,⟨o',es,ep,ho',hd',_⟩,_⟩:=I.loc
 rw[z,ho']at ho;cases ho;rw[hd']at hd;cases hd
theorem Inv.funs(I:Inv X pins σ H s):s.heap.FunFrames X.base X.outer:=by
 have all:∀(l:List Env),(∀ b∈frs l,b∈X.fs)->X.s₀.heap.FunFrames X.base l->s.heap.FunFrames X.base l:=by
  intro l
  induction l with
  | nil=>intro _ _;trivial
  | cons env r ih =>
   intro hs hl
   obtain⟨hk,⟨L,o,hf,hn,ho,hd⟩,hr⟩:=hl
   have hL:L∈X.fs:=hs L (by unfold frs;rw[List.filterMap_cons,hf];exact Yp2)
   obtain⟨sl,e⟩:=I.base.slot L o ho (I.ok.frf L hL) hL λz=>I.ok.exfs L z hL
   exact⟨hk,⟨L,_,hf,hn,e,hd⟩,ih (λb hb=>hs b (by unfold frs;rw[List.filterMap_cons,hf];exact Yz1 _ hb)) hr⟩
 exact all X.outer (λ_ hb=>hb) I.ok.funs
theorem Inv.stack(I:Inv X pins σ H s):s.heap.FunFrames X.base X.stack:=by
 rcases I.ok.stk with e | ⟨e,hf⟩
 ·rw[e];exact I.funs
 ·rw[e]
  obtain⟨m,hn,_⟩:=I.loc
  refine .cons (by rw[I.ok.kind];decide) hf hn ?_ I.funs
  exact Heap.get?_none_of_le (Yx I.ok.bsz I.ok.above)
def Inv.stkSub(I:Inv X pins σ H s):∀ b∈frs X.stack,b∈X.env.locals :: X.fs:=λb hb=>by
 rcases I.ok.stk with e | ⟨e,hf⟩
 ·rw[e]at hb;exact Yz1 _ hb
 ·rw[e]at hb
  unfold frs at hb
  rw[List.filterMap_cons,hf]at hb
  exact hb
def Inv.stkFree(I:Inv X pins σ H s):∀ b∈frs X.stack,H b=none:=λb hb=>by
 rcases Yg1.mp (I.stkSub b hb)with e | hb
 ·rw[e];exact I.free
 ·obtain⟨_,o,ho,_⟩:=I.ok.funs.mem hb
  exact I.base.free b o ho (I.ok.frf b hb) λz=>I.ok.exfs b z hb
def Inv.step{g':Array GenState}{t':Nat}{d':Drawn}{ch:List Addr}(I:Inv X pins σ H s)
  (hch:∀ b∈ch,(b∈X.ex\/X.s₀.heap.objs.size<=b)/\b≠X.env.locals/\(∀ x c,X.env.cells.lookup x=some c->c≠b)/\∀ p∈X.pn++pins,p.1≠b)
  (keep:∀ b o,b≠X.env.locals->b∉X.fs->b∉ch->s.heap.get? b=some o->H b=none->h'.get? b=some o)
  (slot:∀ b o,b≠X.env.locals->b∈X.fs->b∉ch->s.heap.get? b=some o->H b=none->∃ sl,h'.get? b=some {o with slots:=sl}) (free:∀ b o,b∉ch->s.heap.get? b=some o->H b=none->H' b=none)
  (there:∀ b o,b∉ch->s.heap.get? b=some o->∃ o',h'.get? b=some o')
  (tups:∀ b xs,H b=some (.tup xs)->H' b=some (.tup xs)) (frzs:∀ b o u,H b=some (.frz o u)->H' b=some (.frz o u)) (tbls:∀ b ps,H b=some (.tbl ps)->∃ more,H' b=some (.tbl (ps++more)))
  (ns:∀ m,s.heap.Ns X.env.locals m->h'.Ns X.env.locals m) (hok:HOk X.prog X.w H' h') (hg:AllBare g'):
  Inv X pins σ H' {s with heap:=h',gens:=g',drawn:=d',toks:=t' }:=by
 have neL:∀ b o,X.s₀.heap.get? b=some o->b≠X.env.locals:=λb o e=>Yc1 (Ya1 (Yj e) I.ok.above)
 have neC:∀ b o,X.s₀.heap.get? b=some o->b∉X.ex->b∉ch:=λb o e hx hb=>by
  rcases(hch b hb).1 with z | z
  ·exact hx z
  ·exact absurd (Ya1 (Yj e) z) (Yd3 _)
 have cellK:∀ x c,X.env.cells.lookup x=some c->∀ v,s.heap.IsCell c v->h'.IsCell c v:=λx c e v ⟨o,ho,hd⟩=>by
  have nch:c∉ch:=λz=>(hch c z).2.2.1 x c e rfl
  by_cases hc:c∈X.fs
  ·obtain⟨sl,q⟩:=slot c o (I.cne x c e) hc nch ho (I.freeC x c e)
   exact⟨_,q,hd⟩
  ·exact⟨o,keep c o (I.cne x c e) hc nch ho (I.freeC x c e),hd⟩
 refine⟨I.ok,I.os,hg,⟨λb o e n hb hx=>?_,λb o e n hb hx=>?_,λb o e n hx=>?_,λb o e hx=>?_,λb xs e=>tups b xs (I.base.tups b xs e),λb o xs e=>frzs b o xs (I.base.frzs b o xs e),λb ps e=>?_⟩,?_,λx c e=>?_,?_,λx c e=>?_,λp hp=>?_,hok,I.len⟩
 ·exact keep b o (neL b o e) hb (neC b o e hx) (I.base.keep b o e n hb hx) (I.base.free b o e n hx)
 ·obtain⟨sl,e1⟩:=I.base.slot b o e n hb hx
  obtain⟨sl',e2⟩:=slot b _ (neL b o e) hb (neC b o e hx) e1 (I.base.free b o e n hx)
  exact⟨sl',e2⟩
 ·obtain⟨o',e1⟩:=I.base.there b o e hx
  exact free b o' (neC b o e hx) e1 (I.base.free b o e n hx)
 ·obtain⟨o',e1⟩:=I.base.there b o e hx
  exact there b o' (neC b o e hx) e1
 ·obtain⟨m1,e1⟩:=I.base.tbls b ps e
  obtain⟨m2,e2⟩:=tbls b _ e1
  exact⟨m1++m2,by rw[e2,Array.append_assoc]⟩
 ·obtain⟨m,hn,hl⟩:=I.loc
  refine⟨m,ns m hn,λi x v e1 e2 e3=>?_⟩
  obtain⟨u,r,l⟩:=hl i x v e1 e2 e3
  refine⟨u,r,?_⟩
  rcases l with l | ⟨k,c,e,z⟩
  ·exact .inl l
  ·exact .inr ⟨k,c,e,cellK x c e _ z⟩
 ·obtain⟨v,z⟩:=I.cell x c e
  exact⟨v,cellK x c e v z⟩
 ·obtain⟨m,⟨o,_,_,ho,_⟩,_⟩:=I.loc
  exact free _ o (λz=>(hch _ z).2.1 rfl) ho I.free
 ·obtain⟨v,o,ho,hd⟩:=I.cell x c e
  exact free c o (λz=>(hch c z).2.2.1 x c e rfl) ho (I.freeC x c e)
 ·obtain⟨e,n,ne,nf,d⟩:=I.pin p hp
  have nch:p.1∉ch:=λz=>(hch p.1 z).2.2.2 p hp rfl
  exact⟨keep p.1 p.2 ne nf nch e n,free p.1 p.2 nch e n,ne,nf,d⟩
def Inv.un{t':Nat}(I:Inv X pins σ H s)(u:Un X.fs [] H H' s.heap h')(hok:HOk X.prog X.w H' h'):Inv X pins σ H' {s with heap:=h',toks:=t' }:=by
 obtain⟨m,⟨o,es,ep,ho,r⟩,_⟩:=id I.loc
 obtain⟨sl,hL⟩:=u.any ho I.free (by simp)
 exact I.step (g':=s.gens) (d':=s.drawn) (ch:=[]) (λ_ z=>nomatch z) (λb o _ hb _ e n=>u.keep b o e n hb (by simp)) (λb o _ hb _ e n=>u.slot b o e n hb (by simp)) (λb o _ e n=>u.free b o e n (by simp)) (λb o _ e=>u.there b o e (by simp)) u.tups u.frzs u.tbls (λm' hm=>by
  obtain⟨o',es',ep',ho',r'⟩:=hm
  rw[ho]at ho';cases ho'
  exact⟨_,es',ep',hL,r'⟩) hok I.bare
def Inv.call{g':Array GenState}{t':Nat}{d':Drawn}{ch:List Addr}(I:Inv X pins σ H s)(u:Un (frs X.stack) ch H H' s.heap h')(hok:HOk X.prog X.w H' h')(hg:AllBare g')
  (hch:∀ b∈ch,(b∈X.ex\/X.s₀.heap.objs.size<=b)/\b≠X.env.locals/\(∀ x c,X.env.cells.lookup x=some c->c≠b)/\∀ p∈X.pn++pins,p.1≠b):
  Inv X pins σ H' {s with heap:=h',gens:=g',drawn:=d',toks:=t' }:=by
 obtain⟨m,⟨o,es,ep,ho,r⟩,_⟩:=id I.loc
 obtain⟨sl,hL⟩:=u.any ho I.free λz=>(hch _ z).2.1 rfl
 exact I.step (ch:=ch) hch (λb o hL hb hc e n=>u.keep b o e n (λz=>(Yg1.mp (I.stkSub b z)).elim hL hb) hc) (λb o _ _ hc e n=>u.any e n hc) (λb o hc e n=>u.free b o e n hc) (λb o hc e=>u.there b o e hc) u.tups u.frzs u.tbls (λm' hm=>by
  obtain⟨o',es',ep',ho',r'⟩:=hm
  rw[ho]at ho';cases ho'
  exact⟨_,es',ep',hL,r'⟩) hok hg
def Inv.turned{t':Nat}{it:Addr}(I:Inv X pins σ H s)(k:∀ b o,b≠it->s.heap.get? b=some o->h'.get? b=some o)(hn:H it=none)(hL:it≠X.env.locals)
  (h1:it∈X.ex\/X.s₀.heap.objs.size<=it) (h2:∀ x c,X.env.cells.lookup x=some c->c≠it) (h3:∀ p∈X.pn++pins,p.1≠it):Inv X pins σ H {s with heap:=h',toks:=t' }:=by
 have nit:∀ b u,H b=some u->b≠it:=λb u e z=>by rw[z,hn]at e;cases e
 refine I.step (g':=s.gens) (d':=s.drawn) (ch:=[it]) (λb hb=>?_) (λb o _ _ hc e _=>k b o (λz=>hc (by simp[z])) e) (λb o _ _ hc e _=>⟨o.slots,k b o (λz=>hc (by simp[z])) e⟩) (λ_ _ _ _ n=>n)
  (λb o hc e=>⟨o,k b o (λz=>hc (by simp[z])) e⟩) (λ_ _ e=>e) (λ_ _ _ e=>e) (λb ps e=>⟨#[],by rw[e];simp⟩) (λm hm=>?_) (λb u e=>?_) I.bare
 ·have e:b=it:=by simpa using hb
  subst e
  exact⟨h1,hL,h2,h3⟩
 ·obtain⟨o,es,ep,ho,r⟩:=hm
  exact⟨o,es,ep,k _ o (Ym hL) ho,r⟩
 ·refine(I.hok b u e).stay (λc v hc q=>k c v ?_ q) (λ_ q=>q) λ_ _ q=>q
  rcases hc with z | z
  ·rw[z];exact nit b u e
  ·exact nit c _ z
def Inv.tok(I:Inv X pins σ H s)(t:Nat):Inv X pins σ H {s with toks:=t}:=I.un (h':=s.heap) (t':=t) Un.refl I.hok
theorem Inv.kept{t':Nat}(I:Inv X pins σ H s)(k:∀ b u,s.heap.get? b=some u->h'.get? b=some u):Inv X pins σ H {s with heap:=h',toks:=t' }:=I.un (Un.kept k) (I.hok.kept k)
theorem Inv.laid{a:Addr}{o:HO}{t':Nat}(I:Inv X pins σ H s)(k:∀ b u,s.heap.get? b=some u->h'.get? b=some u)(hp:s.heap.objs.size<=a)(new:Zb6 X.prog X.w (upd H a o) h' a o):
  Inv X pins σ (upd H a o) {s with heap:=h',toks:=t' }:=I.un (Un.laid k hp (I.hok.fresh hp)) (I.hok.laid k hp new)
theorem Inv.write{x e:Addr}{o:HO}{t':Nat}(I:Inv X pins σ H s)(mu:Mut (H x))(he:e=x\/H e=some (.own x))(k:∀ b u,b≠e->s.heap.get? b=some u->h'.get? b=some u)(heo:∃ u,h'.get? e=some u)
  (new:Zb6 X.prog X.w (upd H x o) h' x o):Inv X pins σ (upd H x o) {s with heap:=h',toks:=t' }:=I.un (Un.write mu he k heo) (I.hok.write mu he k heo new)
def Inv.pins_of{pins':PL}(I:Inv X pins σ H s)(h:∀ p∈pins',s.heap.get? p.1=some p.2/\H p.1=none/\p.1≠X.env.locals/\p.1∉X.fs/\∀ v,p.2.data≠.cell v):Inv X pins' σ H s :=
 ⟨I.ok,I.os,I.bare,I.base,I.loc,I.cell,I.free,I.freeC,λp hp=>(Yo.mp hp).elim (λz=>I.pin p (Yf2 _ z)) (h p),I.hok,I.len⟩
def Zgq{N:LS}(hN:N.Nodup){i j:Nat}{x:Str}(a:N[i]?=some x)(b:N[j]?=some x):i=j:=by
 obtain⟨h1,e1⟩:=Yn.mp a
 obtain⟨h2,e2⟩:=Yn.mp b
 exact(List.getElem_inj hN).mp (e1.trans e2.symm)
def Zm7{M:Model}{A:Around}{E:EV}{i:Nat}{x:Str}{v:V}{u:Value}{Q:Unit->Shared->Prop}(I:Inv X pins σ H s)(hN:X.N.Nodup)(hi:X.N[i]?=some x)(hx:Loc X.env.scope x)(r:Zcl v u)
  (h:∀ s',Inv X pins (σ.set i (some v)) H s'->(∃ a,Heap.SameBut a s.heap s'.heap/\(a=X.env.locals\/X.env.cells.lookup x=some a))->Q () s') (hf:X.fn x=true\/X.env.scope.names.lookup x=some .local:=by first | exact .inl rfl | exact .inr rfl | assumption):wpAny M A (storeName X.env x u) Q E s:=by
 obtain⟨m,hn,hl⟩:=id I.loc
 have hcls:(X.env.scope.kind == .class || (X.env.scope.kind == .module&&X.env.locals != X.env.globals))=false:=by rw[I.ok.kind];rfl
 have hiσ:i<σ.length:=by rw[I.len];exact(Yn.mp hi).1
 have cne:=I.cne
 have tracked:∀ {a:Addr} {h':Heap},(∃ o,s.heap.get? a=some o/\H a=none)->Heap.SameBut a s.heap h'->HOk X.prog X.w H h':=λ{a h'} ha hs b ob e=>by
  obtain⟨_,_,hfree⟩:=ha
  refine(I.hok b ob e).stay (λc w' hc q=>(hs.2 c ?_).trans q) (λ_ q=>q) λ_ _ q=>q
  rintro rfl
  rcases hc with rfl | hc
  ·rw[hfree]at e;cases e
  ·rw[hfree]at hc;cases hc
 rcases hx with hk | hk
 ·refine wpAny_storeName_local hk hn (λh' hn' hs=>?_) hcls
  obtain⟨oL,_,_,hoL,_⟩:=id hn
  refine h _ ⟨I.ok,I.os,I.bare,⟨λb o e n hb hx=>?_,λb o e n hb hx=>?_,I.base.free,λb o e hx=>?_,I.base.tups,I.base.frzs,I.base.tbls⟩,⟨_,hn',λj y v' e1 e2 e3=>?_⟩,λy c e=>?_,I.free,I.freeC,λp hp=>?_,tracked ⟨oL,hoL,I.free⟩ hs,by simpa using I.len⟩ ⟨_,hs,.inl rfl⟩
  ·exact(hs.2 b (Yc1 (Ya1 (Yj e) I.ok.above))).trans (I.base.keep b o e n hb hx)
  ·obtain⟨sl,e1⟩:=I.base.slot b o e n hb hx
   exact⟨sl,(hs.2 b (Yc1 (Ya1 (Yj e) I.ok.above))).trans e1⟩
  ·obtain⟨o',e1⟩:=I.base.there b o e hx
   exact⟨o',(hs.2 b (Yc1 (Ya1 (Yj e) I.ok.above))).trans e1⟩
  ·by_cases hj:j=i
   ·subst hj
    rw[hi]at e1;cases e1
    rw[Yt3 hiσ]at e2
    cases e2
    exact⟨u,r,.inl ⟨hk,by simp⟩⟩
   ·rw[Yy4 (Ym hj)]at e2
    obtain⟨u',r',q⟩:=hl j y v' e1 e2 e3
    refine⟨u',r',?_⟩
    rcases q with⟨k,e⟩ | ⟨k,c,e,z⟩
    ·refine .inl ⟨k,?_⟩
     have:y≠x:=λe=>hj (Zgq hN e1 (e ▸ hi))
     simp[this,e]
    ·exact .inr ⟨k,c,e,z.sameBut hs (cne y c e)⟩
  ·obtain⟨w',z⟩:=I.cell y c e
   exact⟨w',z.sameBut hs (cne y c e)⟩
  ·obtain⟨e,n,ne,nf,d⟩:=I.pin p hp
   exact⟨(hs.2 p.1 ne).trans e,n,ne,nf,d⟩
 ·have hfn:X.fn x=true:=by
   rcases hf with z | z
   ·exact z
   ·rw[z]at hk;cases hk
  obtain⟨c,hc⟩:=I.ok.has x (.inl hk)
  obtain⟨w',z⟩:=I.cell x c hc
  refine wpAny_storeName_cell I.ok.kind hk hc z (λh' hc' hs=>?_)
  obtain⟨oc,hoc,hocd⟩:=id z
  refine h {s with heap:=h' } ⟨I.ok,I.os,I.bare,⟨λb o e n hb hx=>?_,λb o e n hb hx=>?_,I.base.free,λb o e hx=>?_,I.base.tups,I.base.frzs,I.base.tbls⟩,⟨m,hn.sameBut hs (Ym (cne x c hc)),λj y v' e1 e2 e3=>?_⟩,λy c' e=>?_,I.free,I.freeC,λp hp=>?_,tracked ⟨oc,hoc,I.freeC x c hc⟩ hs,by simpa using I.len⟩ ⟨c,hs,.inr hc⟩
  ·exact(hs.2 b (Yc1 (Ya1 (Yj e) (I.ok.cab x c hfn hc)))).trans (I.base.keep b o e n hb hx)
  ·obtain⟨sl,e1⟩:=I.base.slot b o e n hb hx
   exact⟨sl,(hs.2 b (Yc1 (Ya1 (Yj e) (I.ok.cab x c hfn hc)))).trans e1⟩
  ·obtain⟨o',e1⟩:=I.base.there b o e hx
   exact⟨o',(hs.2 b (Yc1 (Ya1 (Yj e) (I.ok.cab x c hfn hc)))).trans e1⟩
  ·by_cases hj:j=i
   ·subst hj
    rw[hi]at e1;cases e1
    rw[Yt3 hiσ]at e2
    cases e2
    exact⟨u,r,.inr ⟨.inl hk,c,hc,hc'⟩⟩
   ·rw[Yy4 (Ym hj)]at e2
    obtain⟨u',r',q⟩:=hl j y v' e1 e2 e3
    refine⟨u',r',?_⟩
    rcases q with q | ⟨k,c',e,z'⟩
    ·exact .inl q
    ·refine .inr ⟨k,c',e,z'.sameBut hs ?_⟩
     rintro rfl
     exact hj (Zgq hN e1 (I.ok.inj _ _ _ e hc ▸ hi))
  ·by_cases hcc:c'=c
   ·subst hcc;exact⟨_,hc'⟩
   ·obtain⟨w2,z2⟩:=I.cell y c' e
    exact⟨w2,z2.sameBut hs hcc⟩
  ·obtain⟨e,n,ne,nf,d⟩:=I.pin p hp
   refine⟨(hs.2 p.1 ?_).trans e,n,ne,nf,d⟩
   intro q
   rw[q,hoc]at e
   have q':oc=p.2:=Yq e
   exact d w' (by rw[<- q'];exact hocd)
def Zlt{M:Model}{A:Around}{E:EV}{i:Nat}{x:Str}{v:V}{u:Value}{Q:Unit->Shared->Prop}(I:Inv X pins σ H s)(hN:X.N.Nodup)(hi:X.N[i]?=some x)(hx:Loc X.env.scope x)(r:Zcl v u)
  (h:∀ s',Inv X pins (σ.set i (some v)) H s'->Q () s') (hf:X.fn x=true\/X.env.scope.names.lookup x=some .local:=by first | exact .inl rfl | exact .inr rfl | assumption):wpAny M A (storeName X.env x u) Q E s :=
 Zm7 I hN hi hx r (λs' I' _=>h s' I') hf
def Inv.call'{s':Shared}{ch:List Addr}(I:Inv X pins σ H s)(ho:s'.os=s.os)(u:Un (frs X.stack) ch H H' s.heap s'.heap)(hok:HOk X.prog X.w H' s'.heap)(hg:AllBare s'.gens)
  (hch:∀ b∈ch,(b∈X.ex\/X.s₀.heap.objs.size<=b)/\b≠X.env.locals/\(∀ x c,X.env.cells.lookup x=some c->c≠b)/\∀ p∈X.pn++pins,p.1≠b):Inv X pins σ H' s':=by
 obtain⟨h',g',d',t',o'⟩:=s'
 have e:o'=s.os:=ho
 subst e
 exact I.call (g':=g') (t':=t') (d':=d') u hok hg hch
end
abbrev XK:=Value->Option Addr->Hp->Prop
abbrev St:=List (OV)
abbrev VK:=V->Hp->Prop
abbrev _root_.SW:=St->Hp->Prop
abbrev _root_.NW:=Nat->St->Hp->Prop
abbrev TE:=St->Hp->VK->Prop
abbrev TT:=St->Hp->(Bool->Hp->Prop)->Prop
abbrev TA:=St->Hp->(LV->Hp->Prop)->Prop
structure Ztf where
 nx:SW
 rt:VK
 bk:SW:=λ_ _=>False
 ct:SW:=λ_ _=>False
abbrev TS:=Ztf->St->Hp->Prop
def EP(X:Cx)(pins:PL)(σ:St)(Q:VK)(u:Value)(s':Shared):Prop:=∃ v H',Inv X pins σ H' s'/\Zcl v u/\Q v H'
def TP(X:Cx)(pins:PL)(σ:St)(Q:Bool->Hp->Prop)(b:Bool)(s':Shared):Prop:=∃ H',Inv X pins σ H' s'/\Q b H'
def AP(X:Cx)(pins:PL)(σ:St)(Q:LV->Hp->Prop)(us:LU)(s':Shared):Prop:=∃ vs H',Inv X pins σ H' s'/\Zb0 vs us/\Q vs H'
def SP(X:Cx)(pins:PL)(D:Ztf)(f:Flow)(s':Shared):Prop :=
 match f with
 | .next=>∃ σ' H',Inv X pins σ' H' s'/\D.nx σ' H'
 | .brk=>∃ σ' H',Inv X pins σ' H' s'/\D.bk σ' H'
 | .cont=>∃ σ' H',Inv X pins σ' H' s'/\D.ct σ' H'
 | .ret u=>∃ v σ' H',Inv X pins σ' H' s'/\Zcl v u/\D.rt v H'
def PE(X:Cx)(e:Expr)(t:TE):Prop :=
 ∀(pins:PL) (s:Shared) (σ:St) (H:Hp) (Q:VK),Inv X pins σ H s->t σ H Q->wpAny (model X.prog X.w) X.A (eval e X.env) (EP X pins σ Q) X.xe s
def PT(X:Cx)(e:Expr)(t:TT):Prop :=
 ∀(pins:PL) (s:Shared) (σ:St) (H:Hp) (Q:Bool->Hp->Prop),Inv X pins σ H s->t σ H Q->wpAny (model X.prog X.w) X.A (isTrue e X.env (eval e X.env)) (TP X pins σ Q) X.xe s
def PW(X:Cx)(e:Expr)(t:TT):Prop :=
 ∀(whole:Sem Value) (pins:PL) (s:Shared) (σ:St) (H:Hp) (Q:Bool->Hp->Prop),Inv X pins σ H s->t σ H Q->wpAny (model X.prog X.w) X.A (isTrue e X.env whole) (TP X pins σ Q) X.xe s
def PW.pt{X:Cx}{e:Expr}{t:TT}(h:PW X e t):PT X e t:=h _
def PA(X:Cx)(es:List Expr)(t:TA):Prop :=
 ∀(pos:Pos) (pins:PL) (s:Shared) (σ:St) (H:Hp) (Q:LV->Hp->Prop),Inv X pins σ H s->t σ H Q->wpAny (model X.prog X.w) X.A (spliced (backTo pos (starEach es X.env))) (AP X pins σ Q) X.xe s
def PS(X:Cx)(st:Stmt)(t:TS):Prop :=
 ∀(pins:PL) (s:Shared) (σ:St) (H:Hp) (D:Ztf),Inv X pins σ H s->t D σ H->wpAny (model X.prog X.w) X.A (exec st X.env) (SP X pins D) X.xe s
def PSs(X:Cx)(st:List Stmt)(t:TS):Prop :=
 ∀(pins:PL) (s:Shared) (σ:St) (H:Hp) (D:Ztf),Inv X pins σ H s->t D σ H->wpAny (model X.prog X.w) X.A (execs st X.env) (SP X pins D) X.xe s
def thn{α:Type}{t:Sem α}{Q Q':α->Shared->Prop}{M:Model}{A:Around}{E:EV}{s:Shared}(h:wpAny M A t Q E s)(hQ:∀ a s,Q a s->Q' a s):wpAny M A t Q' E s:=Jf h hQ λ_ _ x=>x
section
variable {X:Cx}
def Z5e(i:Nat):TE:=λσ H Q=>∃ v,σ[i]?=some (some v)/\Q v H
def tC(v:V):TE:=λ_ H Q=>Q v H
def Zzt{i:Nat}{x:Str}{pos:Pos}(hN:X.N[i]?=some x)(hv:Vis X.env.scope x)(hd:(x == ("__debug__":Str))=false:=by decide)(hcd:(x == ("__classdict__":Str))=false:=by decide):PE X (.Name x pos) (Z5e i):=by
 ac_rfl
 obtain⟨v,e,h⟩:=h
 obtain⟨m,hn,hl⟩:=I.loc
 obtain⟨u,r,l⟩:=hl i x v hN e hv
 have fin:EP X pins σ Q u s:=⟨v,H,I,r,h⟩
 rcases l with⟨hk,hm⟩ | ⟨hk,c,hc,hcell⟩
 ·exact wpAny_Name (wpAny_loadName_local I.ok.kind hk hn hm fin) hd
 ·rcases hk with hk | hk
  ·exact wpAny_Name (wpAny_loadName_cell I.ok.kind hk hc hcell fin) hd
  ·exact wpAny_Name (wpAny_loadName_free I.ok.kind hk hc hcell fin hcd) hd
def Zae{i j pos}:PE X (.Constant (.int i) j pos) (tC (.int i)):=λ_ _ _ H _ I h=>wpAny_Constant_int ⟨.int i,H,I.tok _,⟨_,rfl⟩,h⟩
def Zht{b j pos}:PE X (.Constant (.bool b) j pos) (tC (.bl b)):=λ_ _ _ H _ I h=>Constant_bool ⟨.bl b,H,I,rfl,h⟩
def Zhx{j pos}:PE X (.Constant .none j pos) (tC .non):=λ_ _ _ H _ I h=>Constant_none ⟨.non,H,I,rfl,h⟩
def Zca{x j pos}:PE X (.Constant (.str x) j pos) (tC (.str x)):=λ_ _ _ H _ I h=>Calls.Constant_str ⟨.str x,H,I.tok _,⟨_,rfl⟩,h⟩
def Gl(X:Cx)(x:Str):Prop:=X.env.kindOf x=some .globalImplicit
def Zha{E:EV}{pins:PL}{s:Shared}{σ:St}{H:Hp}{x:Str}{u:Value}{pos:Pos}{Q:EV}(I:Inv X pins σ H s)(hg:Gl X x)(hm:X.mg x=some u)(h:Q u s)
  (hd:(x == ("__debug__":Str))=false:=by decide):wpAny (model X.prog X.w) X.A (eval (.Name x pos) X.env) Q E s :=
 Calls.Name_function_global I.ok.kind hg (Calls.loadGlobal_global (by rw[I.ok.glob];exact I.mod.glob.keeps I.bk) hm h) hd
def Zip{E:EV}{pins:PL}{s:Shared}{σ:St}{H:Hp}{x:Str}{u:Value}{pos:Pos}{Q:EV}(I:Inv X pins σ H s)(hg:Gl X x)(hm:X.mg x=none)(hv:bootBuiltins x=some u)(h:Q u s)
  (hn:x≠"__name__":=by decide) (hd:(x == ("__debug__":Str))=false:=by decide):wpAny (model X.prog X.w) X.A (eval (.Name x pos) X.env) Q E s:=by
 obtain⟨mb,h1,h2⟩:=I.mod.blt
 exact Calls.Name_function_global I.ok.kind hg (Calls.loadGlobal_builtin (by rw[I.ok.glob];exact I.mod.glob.keeps I.bk) hm (by rw[I.ok.blt];exact h1.keeps I.bk) ((h2 x hn).trans hv) h) hd
def Zc4{x:Str}{v:V}{u:Value}{pos:Pos}(hg:Gl X x)(hm:X.mg x=some u)(r:Zcl v u)(hd:(x == ("__debug__":Str))=false:=by decide):PE X (.Name x pos) (tC v):=
 λ_ _ _ H _ I h=>Zha I hg hm ⟨v,H,I,r,h⟩ hd
def Zg5{x:Str}{v:V}{u:Value}{pos:Pos}(hg:Gl X x)(hm:X.mg x=none)(hv:bootBuiltins x=some u)(r:Zcl v u)(hn:x≠"__name__":=by decide)(hd:(x == ("__debug__":Str))=false:=by decide):PE X (.Name x pos) (tC v):=
 λ_ _ _ H _ I h=>Zip I hg hm hv ⟨v,H,I,r,h⟩ hn hd
variable {a b:Expr}{ta tb:TE}{pos:Pos}
def PC(X:Cx)(op:CmpOp)(a b:Expr)(t:TE):Prop :=
 ∀(pins:PL) (s:Shared) (σ:St) (H:Hp) (Q:VK),Inv X pins σ H s->t σ H Q ->
  wpAny (model X.prog X.w) X.A (eval a X.env) (λv s₁=>wpAny (model X.prog X.w) X.A (eval b X.env) (λu s₂=>wpAny (model X.prog X.w) X.A (compareOp op v u) (EP X pins σ Q) X.xe s₂) X.xe s₁) X.xe s
def Zrd(b:Expr){op:CmpOp}(h:op≠.In)(h2:op≠.NotIn):behindInMarks op b=false:=by
 have e1:(op == CmpOp.In)=false:=by cases op <;> first | rfl | exact absurd rfl h
 have e2:(op == CmpOp.NotIn)=false:=by cases op <;> first | rfl | exact absurd rfl h2
 cases b <;> simp[behindInMarks,e1,e2]
def Z5v(ta:TE):TE:=λσ H Q=>ta σ H λx H1=>Q (.bl (!decide (x=.non))) H1
def Zcl.none_iff{x:V}{v:Value}(r:Zcl x v):(v == Value.none)=decide (x=.non):=by
 cases x with
 | non=>cases r;rfl
 | bl _=>cases r;rfl
 | int _=>obtain⟨t,rfl⟩:=r;rfl
 | str _=>obtain⟨t,rfl⟩:=r;rfl
 | byt _=>obtain⟨t,rfl⟩:=r;rfl
 | flt _=>obtain⟨t,rfl⟩:=r;rfl
 | ref _=>cases r;rfl
 | ty _=>cases r;rfl
def Zuq{j pos'}(ha:PE X a ta):PC X .IsNot a (.Constant .none j pos') (Z5v ta):=by
 ac_rfl
 refine thn (ha pins s σ H _ I h) λv s1 ⟨x,H1,I1,r1,q1⟩=>?_
 exact Constant_none (isnot_none_gen ⟨.bl _,H1,I1,by rw[r1.none_iff];rfl,q1⟩)
def tB(t:TE):TT:=λσ H Q=>t σ H λx H1=>∃ c,x=.bl c/\Q c H1
def Zzu{op:CmpOp}{t:TE}(h:PC X op a b t)(h1:behindInMarks op b=false:=by first | exact Zrd _ (by decide) (by decide) | rfl):PE X (.Compare a [op] [b] pos) t:=λpins s σ H Q I hw=>wpAny_Compare1 (h pins s σ H Q I hw) h1
def Zf9{op:CmpOp}{t:TE}(h:PC X op a b t)(h1:behindInMarks op b=false:=by first | exact Zrd _ (by decide) (by decide) | rfl):PT X (.Compare a [op] [b] pos) (tB t):=by
 intro pins s σ H Q I hw
 refine wpAny_isTrue_Compare1 (thn (h pins s σ H _ I hw) λv s1 h1=>thn h1 λu s2 h2=>thn h2 λc s3 ⟨x,H1,I1,r1,q1⟩=>?_) h1
 obtain⟨d,rfl,q⟩:=q1
 cases r1
 exact Jh ⟨H1,I1,q⟩
def Zcm{e:Expr}{t:TE}(h:PE X e t)(he:∀ whole,isTrue e X.env whole=(do let v <- whole;standAt e.pos;holding [v] (truthy v)):=by intro _;rfl):PT X e (tB t):=by
 intro pins s σ H Q I hw
 refine isTrue_plain (thn (h pins s σ H _ I hw) λv s1 ⟨x,H1,I1,r1,q1⟩=>?_) (he _)
 obtain⟨d,rfl,q⟩:=q1
 cases r1
 exact Jh ⟨H1,I1,q⟩
variable {tA tB':TT}{Zf3:List Expr}
def Z8y(t u:TT):TT:=λσ H Q=>t σ H λc H1=>if c=true then u σ H1 Q else Q false H1
def tOr(t u:TT):TT:=λσ H Q=>t σ H λc H1=>if c=true then Q true H1 else u σ H1 Q
def Z8t(t:TT):TT:=λσ H Q=>t σ H λc H1=>Q (!c) H1
def Zgp(ha:PT X a tA):PW X (.BoolOp .And [a] pos) tA:=by
 intro wh pins s σ H Q I h
 refine isTrue_and (thn (ha pins s σ H Q I h) λc s1 e=>?_)
 cases c with
 | true=>exact isTrue_and_nil e
 | false=>exact e
def Znn(ha:PT X a tA):PW X (.BoolOp .Or [a] pos) tA:=by
 intro wh pins s σ H Q I h
 refine isTrue_or (thn (ha pins s σ H Q I h) λc s1 e=>?_)
 cases c with
 | false=>exact isTrue_or_nil e
 | true=>exact e
def Zia(ha:PT X a tA)(hb:PW X (.BoolOp .And (b :: Zf3) pos) tB'):PW X (.BoolOp .And (a :: b :: Zf3) pos) (Z8y tA tB'):=by
 intro wh pins s σ H Q I h
 refine isTrue_and (thn (ha pins s σ H _ I h) λc s1 ⟨H1,I1,q1⟩=>?_)
 cases c with
 | true=>exact hb wh pins s1 σ H1 Q I1 q1
 | false=>exact⟨H1,I1,q1⟩
def Zno(ha:PT X a tA)(hb:PW X (.BoolOp .Or (b :: Zf3) pos) tB'):PW X (.BoolOp .Or (a :: b :: Zf3) pos) (tOr tA tB'):=by
 intro wh pins s σ H Q I h
 refine isTrue_or (thn (ha pins s σ H _ I h) λc s1 ⟨H1,I1,q1⟩=>?_)
 cases c with
 | true=>exact⟨H1,I1,q1⟩
 | false=>exact hb wh pins s1 σ H1 Q I1 q1
def Zdh(ha:PT X a tA):PT X (.UnaryOp .Not a pos) (Z8t tA):=by
 ac_rfl
 exact isTrue_not (ha pins s σ H (λc H1=>Q (!c) H1) I h)
def Z54(ta tb:TE):TE:=λσ H Q=>ta σ H λx H1=>∃ c,x=.bl c/\if c=true then tb σ H1 Q else Q (.bl false) H1
def Z5u(ta:TE):TE:=λσ H Q=>ta σ H λx H1=>∃ c,x=.bl c/\Q (.bl (!c)) H1
def Zk8{op}{t:TE}(h:PE X a t):PE X (.BoolOp op [a] pos) t:=λpins s σ H Q I hw=>BoolOp_one (h pins s σ H Q I hw)
def Zk9(ha:PE X a ta)(hb:PE X (.BoolOp .And (b :: Zf3) pos) tb):PE X (.BoolOp .And (a :: b :: Zf3) pos) (Z54 ta tb):=by
 ac_rfl
 refine BoolOp_and (thn (ha pins s σ H _ I h) λv s1 ⟨x,H1,I1,r1,q1⟩=>?_)
 obtain⟨c,rfl,q1⟩:=q1
 cases r1
 refine Jh ?_
 cases c with
 | true=>exact hb pins s1 σ H1 Q I1 q1
 | false=>exact⟨.bl false,H1,I1,rfl,q1⟩
def Z30(ha:PE X a ta):PE X (.UnaryOp .Not a pos) (Z5u ta):=by
 ac_rfl
 refine UnaryOp_ (thn (ha pins s σ H _ I h) λv s1 ⟨x,H1,I1,r1,q1⟩=>?_)
 obtain⟨c,rfl,q1⟩:=q1
 cases r1
 exact not_of (Jh ⟨.bl (!c),H1,I1,rfl,q1⟩)
end
def SqL(K:Fg)(H:Hp)(a:Addr)(xs:LV):Prop :=
 Rd H a (.lst xs) \/
  ∃(o:Obj) (its:Array Value) (n:Nat),K.lookup a=some o/\o.cls=.type "list"/\o.dict=none/\o.data=.seq its n/\its.size<=sizeLine/\Zb0 xs its.toList
def SqT(K:Fg)(H:Hp)(a:Addr)(xs:LV):Prop :=
 Rd H a (.tup xs) \/
  ∃(o:Obj) (its:Array Value) (n:Nat),K.lookup a=some o/\o.cls=.type "tuple"/\o.data=.seq its n/\its.size<=sizeLine/\Zb0 xs its.toList
def Yac:Value->OV
 | .none=>some .non
 | .bool b=>some (.bl b)
 | .int i _=>some (.int i)
 | .str x _=>some (.str x)
 | .bytes b _=>some (.byt b)
 | .float b _=>some (.flt b)
 | .ref a=>some (.ref a)
 | .type n=>some (.ty n)
 | _=>none
def Zcl.abs{x:V}{u:Value}(r:Zcl x u):Yac u=some x:=by
 cases x with
 | non=>cases r;rfl
 | bl _=>cases r;rfl
 | int _=>obtain⟨t,rfl⟩:=r;rfl
 | str _=>obtain⟨t,rfl⟩:=r;rfl
 | byt _=>obtain⟨t,rfl⟩:=r;rfl
 | flt _=>obtain⟨t,rfl⟩:=r;rfl
 | ref _=>cases r;rfl
 | ty _=>cases r;rfl
theorem Zcl.inj{x y:V}{u:Value}(r:Zcl x u)(q:Zcl y u):x=y:=Yq (r.abs.symm.trans q.abs)
theorem Zb0.inj:∀ {xs ys:LV}{us:LU},Zb0 xs us->Zb0 ys us->xs=ys
 | _,_,_,.nil,.nil=>rfl
 | _,_,_,.cons r t,.cons r' t'=>by rw[r.inj r',Zb0.inj t t']
section
variable {X:Cx}{pins:PL}{σ:St}{H:Hp}{s:Shared}{a:Addr}{xs ys:LV}
def SqL.of{K:Fg}(h:H a=some (.lst xs)):SqL K H a xs:=.inl (.inl h)
def SqT.of{K:Fg}(h:H a=some (.tup xs)):SqT K H a xs:=.inl (.inl h)
def Inv.list(I:Inv X pins σ H s)(h:SqL X.K H a xs):∃ its:LU,Zb0 xs its/\PlainL s.heap a its.toArray/\xs.length<=sizeLine:=by
 rcases h with h | ⟨o,its,n,hk,hc,hd,hs,hz,r⟩
 ·obtain⟨z,its,n,r,e⟩:=h.ok I.hok
  exact⟨its,r,⟨_,n,e,rfl,rfl,rfl⟩,z⟩
 ·refine⟨its.toList,r,⟨o,n,I.kIn a o hk,hc,hd,by simpa using hs⟩,?_⟩
  have e:=r.length
  simp only[Ys3]at e
  omega
def Inv.tuple(I:Inv X pins σ H s)(h:SqT X.K H a xs):∃ its:LU,Zb0 xs its/\IsTup s.heap a its.toArray/\xs.length<=sizeLine:=by
 rcases h with h | ⟨o,its,n,hk,hc,hs,hz,r⟩
 ·obtain⟨z,its,r,p⟩:=h.ok I.hok
  exact⟨its,r,p,z⟩
 ·refine⟨its.toList,r,⟨o,I.kIn a o hk,hc,n,by simpa using hs⟩,?_⟩
  have e:=r.length
  simp only[Ys3]at e
  omega
def Inv.list_inj(I:Inv X pins σ H s)(h:SqL X.K H a xs)(h':SqL X.K H a ys):xs=ys:=by
 obtain⟨its,r,⟨o,n,e,_,_,d⟩,_⟩:=I.list h
 obtain⟨its',r',⟨o',n',e',_,_,d'⟩,_⟩:=I.list h'
 rw[e]at e';cases e'
 rw[d]at d'
 injection d' with d1 _
 have:its=its':=by simpa using congrArg Array.toList d1
 subst this
 exact r.inj r'
def Inv.tuple_inj(I:Inv X pins σ H s)(h:SqT X.K H a xs)(h':SqT X.K H a ys):xs=ys:=by
 obtain⟨its,r,⟨o,e,_,n,d⟩,_⟩:=I.tuple h
 obtain⟨its',r',⟨o',e',_,n',d'⟩,_⟩:=I.tuple h'
 rw[e]at e';cases e'
 rw[d]at d'
 injection d' with d1 _
 have:its=its':=by simpa using congrArg Array.toList d1
 subst this
 exact r.inj r'
end
abbrev Cx.wish(X:Cx)(E:EV):Cx:={X with xe:=E}
abbrev Cx.nox(X:Cx):Cx:=X.wish λ_ _=>False
theorem Cx.Ok.wish{X:Cx}(ok:X.Ok)(E:EV):(X.wish E).Ok :=
 ⟨ok.mod,ok.kind,ok.glob,ok.blt,ok.above,ok.inj,ok.has,ok.cab,ok.hd,ok.frames,ok.stk,ok.exf,ok.bs,ok.bsz,ok.noex,ok.exfs,ok.funs,ok.frf⟩
def Cx.Ok.unwish{X:Cx}{E:EV}(ok:(X.wish E).Ok):X.Ok :=
 ⟨ok.mod,ok.kind,ok.glob,ok.blt,ok.above,ok.inj,ok.has,ok.cab,ok.hd,ok.frames,ok.stk,ok.exf,ok.bs,ok.bsz,ok.noex,ok.exfs,ok.funs,ok.frf⟩
section
variable {X:Cx}{pins:PL}{σ:St}{H:Hp}{s:Shared}{E:EV}
theorem Inv.wish(I:Inv X pins σ H s)(E:EV):Inv (X.wish E) pins σ H s:=⟨I.ok.wish E,I.os,I.bare,I.base,I.loc,I.cell,I.free,I.freeC,I.pin,I.hok,I.len⟩
theorem Inv.unwish(I:Inv (X.wish E) pins σ H s):Inv X pins σ H s:=⟨I.ok.unwish,I.os,I.bare,I.base,I.loc,I.cell,I.free,I.freeC,I.pin,I.hok,I.len⟩
theorem SP.unwish{D:Ztf}{f:Flow}{s':Shared}(h:SP (X.wish E) pins D f s'):SP X pins D f s':=by
 cases f with
 | next=>obtain⟨σ',H',I,q⟩:=h;exact⟨σ',H',I.unwish,q⟩
 | brk=>obtain⟨σ',H',I,q⟩:=h;exact⟨σ',H',I.unwish,q⟩
 | cont=>obtain⟨σ',H',I,q⟩:=h;exact⟨σ',H',I.unwish,q⟩
 | ret u=>obtain⟨v,σ',H',I,r,q⟩:=h;exact⟨v,σ',H',I.unwish,r,q⟩
theorem PSs.nox{st:List Stmt}{t:TS}(h:PSs X.nox st t):PSs X st t:=λpins s σ H D I hw =>
 Jf (h pins s σ H D (I.wish _) hw) (λ_ _ q=>q.unwish) λ_ _ z=>False.elim z
end
section
variable {X:Cx}{st:Stmt}{Zf3:List Stmt}{t u:TS}{e:Expr}{te:TE}{pos:Pos}
def Z5x:TS:=λD σ H=>D.nx σ H
def Zar(t u:TS):TS:=λD σ H=>t {D with nx:=u D} σ H
def Zai:PSs X [] Z5x:=λ_ _ σ H _ I h=>wpAny_execs_nil ⟨σ,H,I,h⟩
def pS(h1:PS X st t)(h2:PSs X Zf3 u):PSs X (st :: Zf3) (Zar t u):=by
 intro pins s σ H D I h
 refine wpAny_execs_cons (thn (h1 pins s σ H {D with nx:=u D} I h) λf s1 q=>?_)
 cases f with
 | next =>
  obtain⟨σ',H',I',q⟩:=q
  exact h2 pins s1 σ' H' D I' q
 | ret v=>exact q
 | brk=>exact q
 | cont=>exact q
def Zac(h1:PS X st t):PSs X [st] t:=by
 intro pins s σ H D I h
 refine wpAny_execs_cons (thn (h1 pins s σ H D I h) λf s1 q=>?_)
 cases f with
 | next=>exact wpAny_execs_nil q
 | ret v=>exact q
 | brk=>exact q
 | cont=>exact q
def Inv.quiet{pins:PL}{σ:St}{H:Hp}{s:Shared}(I:Inv X pins σ H s):interactive X.env=false:=by simp[interactive,I.ok.kind]
def Z5z(te:TE):TS:=λD σ H=>te σ H λ_ H1=>D.nx σ H1
def Zax(he:PE X e te)(hs:swapsWith e none pos.line X.env=pure false:=by rfl):PS X (.Expr e pos) (Z5z te):=by
 intro pins s σ H D I h
 exact wpAny_Expr_any (thn (he pins s σ H _ I h) λv s1 ⟨x,H1,I1,r1,q1⟩=>⟨σ,H1,I1,q1⟩) I.quiet hs
def Z8s(te:TE):TS:=λD σ H=>te σ H D.rt
def Zao(he:PE X e te):PS X (.Return (some e) pos) (Z8s te):=by
 intro pins s σ H D I h
 exact wpAny_Return_some (thn (he pins s σ H _ I h) λv s1 ⟨x,H1,I1,r1,q1⟩=>⟨x,σ,H1,I1,r1,q1⟩)
def Zhf(c:TT)(t u:TS):TS:=λD σ H=>c σ H λb H1=>if b=true then t D σ H1 else u D σ H1
def Zaz{c:Expr}{a b:List Stmt}{tc:TT}(hc:PT X c tc)(ha:PSs X a t)(hb:PSs X b u):PS X (.If c a b pos) (Zhf tc t u):=by
 intro pins s σ H D I h
 refine wpAny_If (thn (hc pins s σ H _ I h) λd s1 ⟨H1,I1,q1⟩=>?_)
 cases d with
 | true=>exact ha pins s1 σ H1 D I1 q1
 | false=>exact hb pins s1 σ H1 D I1 q1
def Z27:TS:=λ_ _ _=>False
def Zaw{sts:List Stmt}:PSs X sts Z27:=λ_ _ _ _ _ _ h=>h.elim
end
abbrev TG:=V->St->Hp->(St->Hp->Prop)->Prop
abbrev TGs:=LV->St->Hp->(St->Hp->Prop)->Prop
def PG(X:Cx)(target:Expr)(t:TG):Prop :=
 ∀(pins:PL) (s:Shared) (σ:St) (H:Hp) (v:V) (u:Value) (Q:SW),Inv X pins σ H s->Zcl v u->t v σ H Q ->
  wpAny (model X.prog X.w) X.A (assign target X.env u) (λ_ s'=>∃ σ' H',Inv X pins σ' H' s'/\Q σ' H') X.xe s
def PGs(X:Cx)(ts:List Expr)(t:TGs):Prop :=
 ∀(pins:PL) (s:Shared) (σ:St) (H:Hp) (vs:LV) (us:LU) (Q:SW),Inv X pins σ H s->Zb0 vs us->t vs σ H Q ->
  wpAny (model X.prog X.w) X.A (assignInOrder ((assignEach ts X.env).map (·.2)) us) (λ_ s'=>∃ σ' H',Inv X pins σ' H' s'/\Q σ' H') X.xe s
abbrev Z64:=V->V->V->Hp->(Hp->Prop)->Prop
def Z8l(X:Cx)(t:Z64):Prop :=
 ∀(pins:PL) (s:Shared) (σ:St) (H:Hp) (o i v:V) (ov iv u:Value) (Q:Hp->Prop),Inv X pins σ H s->Zcl o ov->Zcl i iv->Zcl v u->t o i v H Q ->
  wpAny (model X.prog X.w) X.A (setItem ov iv u) (λ_ s'=>∃ H',Inv X pins σ H' s'/\Q H') X.xe s
section
variable {X:Cx}{pos:Pos}
def Zff(i:Nat):TG:=λv σ H Q=>Q (σ.set i (some v)) H
def Zah{i:Nat}{x:Str}(hN:X.N.Nodup)(hi:X.N[i]?=some x)(hx:Loc X.env.scope x)(hf:X.fn x=true\/X.env.scope.names.lookup x=some .local:=by first | exact .inl rfl | exact .inr rfl | assumption):PG X (.Name x pos) (Zff i):=by
 intro pins s σ H v u Q I r h
 exact wpAny_assign_Name (Zlt I hN hi hx r (λs' I'=>⟨_,H,I',h⟩) hf)
def gE(i:Nat){x:Str}(hN:X.N.Nodup)(hi:X.N[i]?=some x:=by rfl)(hx:Loc X.env.scope x:=by exact Or.inl rfl)(hf:X.fn x=true\/X.env.scope.names.lookup x=some .local:=by first | exact .inl rfl | exact .inr rfl | assumption):PG X (.Name x pos) (Zff i):=Zah hN hi hx hf
def Z8i:TGs:=λvs σ H Q=>vs=[]/\Q σ H
def Z1z(t:TG)(u:TGs):TGs:=λvs σ H Q=>∃ v r,vs=v :: r/\t v σ H λσ' H'=>u r σ' H' Q
def Zem:PGs X [] Z8i:=by
 intro pins s σ H vs us Q I r h
 obtain⟨e,h⟩:=h
 subst e
 cases r
 exact assignInOrder_nil ⟨σ,H,I,h⟩
def gC{e:Expr}{es:List Expr}{t:TG}{u:TGs}(h1:PG X e t)(h2:PGs X es u)
  (hs:(assignEach (e :: es) X.env).map (·.2)=assign e X.env :: (assignEach es X.env).map (·.2):=by rfl):PGs X (e :: es) (Z1z t u):=by
 intro pins s σ H vs us Q I r h
 obtain⟨v,vr,e1,h⟩:=h
 subst e1
 cases r with
 | cons r rr =>
  rw[hs]
  refine assignInOrder_cons (thn (h1 pins s σ H _ _ _ I r h) λ_ s1 ⟨σ1,H1,I1,q1⟩=>?_)
  exact h2 pins s1 σ1 H1 _ _ Q I1 rr q1
def Z8h(K:Fg)(n:Nat)(t:TGs):TG:=λv σ H Q=>∃ a xs,v=.ref a/\SqT K H a xs/\xs.length=n/\t xs σ H Q
def Zgx{es:List Expr}{k:Nat}{t:TGs}{n:Nat}(hc:X.calm=true)(h:PGs X es t)
  (hn:(assignEach es X.env).length=n:=by rfl) (hst:(assignEach es X.env).findIdx? (·.1)=none:=by rfl):PG X (.Tuple es k pos) (Z8h X.K n t):=by
 intro pins s σ H v u Q I r hw
 obtain⟨a,xs,e1,hq,hl,hw⟩:=hw
 subst e1
 cases r
 obtain⟨its,rv,ht,hz⟩:=I.tuple hq
 refine assign_Tuple_tuple (I.ok.hd hc) ht (by simp[hn,<- hl,rv.length]) hst λh' hx=>?_
 have I1:Inv X pins σ H {s with heap:=h' }:=I.kept (t':=s.toks) λb o e=>hx b o (Yc1 (Yj e)) e
 exact h pins _ σ H xs _ Q I1 (by simpa using rv) hw
def Z93(to ti:TE)(t:Z64):TG:=λv σ H Q=>to σ H λo H1=>ti σ H1 λi H2=>t o i v H2 λH3=>Q σ H3
def Zup{o i:Expr}{to ti:TE}{t:Z64}(ho:PE X o to)(hi:PE X i ti)(hs:Z8l X t)
  (ha:∀ v,assign (.Subscript o i pos) X.env v=(do
   let ov <- holding [v] (eval o X.env)
   let iv <- holding [v,ov] (eval i X.env)
   standAt pos
   holding [v,ov,iv] (setItem ov iv v)
   release [v,ov,iv] []):=by intro _;rfl):PG X (.Subscript o i pos) (Z93 to ti t):=by
 intro pins s σ H v u Q I r h
 rw[ha]
 refine Ja (Jj (thn (ho pins s σ H _ I h) λov s1 ⟨x,H1,I1,r1,q1⟩=>?_))
 refine Ja (Jj (thn (hi pins s1 σ H1 _ I1 q1) λiv s2 ⟨y,H2,I2,r2,q2⟩=>?_))
 refine Ja (wpAny_standAt (Ja (Jj (thn (hs pins s2 σ H2 x y v ov iv u _ I2 r1 r2 r q2) λ_ s3 ⟨H3,I3,q3⟩=>?_))))
 exact wpAny_release ⟨σ,H3,I3,q3⟩
def Zr3(te:TE)(g:TG):TS:=λD σ H=>te σ H λx H1=>g x σ H1 D.nx
def Zq3{tg e:Expr}{te:TE}{g:TG}(he:PE X e te)(hg:PG X tg g)(hs:swapsWithSole [tg] e pos.line X.env=pure false:=by rfl)(hw:swappedStores [tg] e X.env=pure none:=by rfl)
  (h1:(assignEach [tg] X.env).map (·.2)=[assign tg X.env]:=by rfl):PS X (.Assign [tg] e pos) (Zr3 te g):=by
 intro pins s σ H D I h
 refine wpAny_Assign_stores (thn (he pins s σ H _ I h) λv s1 ⟨x,H1,I1,r1,q1⟩=>?_) hs hw
 rw[h1]
 exact thn (hg pins s1 σ H1 x v _ I1 r1 q1) λ_ s2 q=>q
def Zag{i:Nat}{x:Str}{e:Expr}{te:TE}{pos':Pos}(hN:X.N.Nodup)(hi:X.N[i]?=some x)(hx:Loc X.env.scope x)(he:PE X e te)(hs:swapsWith e (some (.Name x pos')) pos.line X.env=pure false:=by rfl)(hf:X.fn x=true\/X.env.scope.names.lookup x=some .local:=by first | exact .inl rfl | exact .inr rfl | assumption):
  PS X (.Assign [.Name x pos'] e pos) (Zr3 te (Zff i)):=by
 intro pins s σ H D I h
 refine wpAny_Assign_Name (thn (he pins s σ H _ I h) λv s1 ⟨y,H1,I1,r1,q1⟩=>?_) hs
 exact Zlt I1 hN hi hx r1 (λs2 I2=>⟨_,H1,I2,q1⟩) hf
def sE(i:Nat){x:Str}{e:Expr}{te:TE}{pos':Pos}(hN:X.N.Nodup)(he:PE X e te)(hi:X.N[i]?=some x:=by rfl)(hx:Loc X.env.scope x:=by exact Or.inl rfl)(hs:swapsWith e (some (.Name x pos')) pos.line X.env=pure false:=by rfl)(hf:X.fn x=true\/X.env.scope.names.lookup x=some .local:=by first | exact .inl rfl | exact .inr rfl | assumption):PS X (.Assign [.Name x pos'] e pos) (Zr3 te (Zff i)):=Zag hN hi hx he hs hf
end
section
variable {X:Cx}{pos:Pos}
def Zju(c:TT)(tb:TS):TS:=λD σ H=>∃ W:NW,(∃ m,W m σ H)/\∀ m σ H,W m σ H ->
 c σ H λb H1=>if b=true then ∃ N:SW,(∀ σ' H',N σ' H'->∃ m',m'<m/\W m' σ' H')/\tb {D with nx:=N,ct:=N,bk:=D.nx} σ H1 else D.nx σ H1
def Zfs{c:Expr}{body:List Stmt}{tc:TT}{tb:TS}(hp:PassesOwn (model X.prog X.w) X.A X.env X.xe)(hc:PT X c tc)(hb:PSs X body tb):PS X (.While c body [] pos) (Zju tc tb):=by
 intro pins s σ H D I h
 obtain⟨W,⟨m0,w0⟩,turn⟩:=h
 refine wpAny_While (codeAny_whileLoop (λn s'=>∃ σ' H',Inv X pins σ' H' s'/\W n σ' H') ?_ m0 ⟨σ,H,I,w0⟩)
 rintro n s1 ⟨σ1,H1,I1,w1⟩
 refine wpAny_passesOwn hp (thn (hc pins s1 σ1 H1 _ I1 (turn n σ1 H1 w1)) λb s2 ⟨H2,I2,q2⟩=>?_)
 cases b with
 | true =>
  obtain⟨N,hN,q2⟩:=q2
  rw[if_pos rfl]
  refine wpAny_passesOwn hp (thn (hb pins s2 σ1 H2 _ I2 q2) λf s3 q3=>?_)
  cases f with
  | next =>
   obtain⟨σ3,H3,I3,n3⟩:=q3
   obtain⟨m',hm,w3⟩:=hN σ3 H3 n3
   exact⟨m',hm,σ3,H3,I3,w3⟩
  | cont =>
   obtain⟨σ3,H3,I3,n3⟩:=q3
   obtain⟨m',hm,w3⟩:=hN σ3 H3 n3
   exact⟨m',hm,σ3,H3,I3,w3⟩
  | brk=>exact q3
  | ret v=>exact q3
 | false =>
  rw[if_neg Yg]
  exact wpAny_execs_nil ⟨σ1,H2,I2,q2⟩
end
structure It where
 go:Nat->Hp->Prop
 yld:Nat->Hp->V->Hp->Prop
 stop:Nat->Hp->Prop
def Zkx(X:Cx)(pins:PL)(H:Hp)(b:Addr):Prop :=
 H b=none/\b≠X.env.locals/\b∉X.fs/\(b∈X.ex\/X.s₀.heap.objs.size<=b)/\(∀ x c,X.env.cells.lookup x=some c->c≠b)/\∀ p∈X.pn++pins,p.1≠b
def Inv.fpOk{X:Cx}{pins:PL}{σ:St}{H H':Hp}{s:Shared}{b:Addr}(I:Inv X pins σ H s)(hb:s.heap.objs.size<=b)(hn:H' b=none):Zkx X pins H' b:=by
 refine⟨hn,Yq3 (Ya1 I.lt hb),I.nofs hb,.inr (Yx I.sz hb),λx c e z=>?_,λp hp z=>?_⟩
 ·obtain⟨v,q⟩:=I.cell x c e
  exact absurd (Ya1 q.lt (by rw[z];exact hb)) (Yd3 _)
 ·exact absurd (Ya1 (Yj (I.pin p hp).1) (by rw[z];exact hb)) (Yd3 _)
structure Zte(P:Program)(w:World)(K:Fg)(tg:Expr)(J:It)(fp:List Addr)(it:Addr)(tn:Nat->Heap->Prop):Prop where
 mem:it∈fp
 obj:∀ i h,tn i h->∀ b∈fp,∃ o,h.get? b=some o/\∀ v,o.data≠.cell v
 keep:∀ i h h',tn i h->(∀ b∈fp,∀ o,h.get? b=some o->h'.get? b=some o)->tn i h'
 item:∀(X:Cx),X.prog=P->X.w=w->X.K=K->X.calm=true->∀(i:Nat) (pins:PL) (s:Shared) (σ:St) (H:Hp) (E:EV),Inv X pins σ H s->(∀ b∈fp,Zkx X pins H b)->tn i s.heap->J.go i H ->
  wpAny (model P w) X.A (pyNext (.ref it)) (λr s1=>∃ u,r=some u /\
   wpAny (model P w) X.A (letOwnedTupleGo tg (.ref it) u) (λ_ s2=>∃ x H',Inv X pins σ H' s2/\Zcl x u/\J.yld i H x H'/\tn (i + 1) s2.heap/\∀ b∈fp,H' b=none) E s1) E s
 done:∀(X:Cx),X.prog=P->X.w=w->X.K=K->X.calm=true->∀(i:Nat) (pins:PL) (s:Shared) (σ:St) (H:Hp) (E:EV),Inv X pins σ H s->(∀ b∈fp,Zkx X pins H b)->tn i s.heap->J.stop i H ->
  wpAny (model P w) X.A (pyNext (.ref it)) (λr s1=>r=none/\Inv X pins σ H s1) E s
 self:∀(A:Around) (i:Nat) (s:Shared) (Q:EV) (E:EV),tn i s.heap->Q (.ref it) s->wpAny (model P w) A (pyIter (.ref it)) Q E s
abbrev TI:=St->Hp->(It->Hp->Prop)->Prop
def PIE(X:Cx)(pins:PL)(σ:St)(tg:Expr)(R:It->Hp->Prop)(itv:Value)(s2:Shared):Prop :=
 ∃(it:Addr) (fp:List Addr) (tn:Nat->Heap->Prop) (J:It) (H':Hp),itv=.ref it/\Inv X pins σ H' s2/\Zte X.prog X.w X.K tg J fp it tn/\tn 0 s2.heap/\(∀ b∈fp,Zkx X pins H' b)/\R J H'
def PI(X:Cx)(tg iter:Expr)(wi:TI):Prop :=
 ∀(pins:PL) (s:Shared) (σ:St) (H:Hp) (R:It->Hp->Prop),Inv X pins σ H s->wi σ H R ->
  wpAny (model X.prog X.w) X.A (eval iter X.env) (λv s1=>wpAny (model X.prog X.w) X.A (pyIter v) (PIE X pins σ tg R) X.xe s1) X.xe s
def Zsy{M:Model}{A:Around}{E:EV}{s:Shared}{tg:Expr}{it:Addr}{u:Value}{o:Obj}{n:String}{vs:Array Value}{Q:Unit->Shared->Prop}(ho:s.heap.get? it=some o)(hc:o.cls=.type n)(hd:o.data=.fields vs)
  (hn:["enumerate","zip","dict_itemiterator","dict_reverseitemiterator","odict_iterator","itertools.zip_longest","itertools.pairwise"].contains n=false) (hQ:Q () s):wpAny M A (letOwnedTupleGo tg (.ref it) u) Q E s:=by
 unfold letOwnedTupleGo
 cases tg <;> first
  | exact Jd hQ
  | (cases u <;> first
    | exact Jd hQ
    | (refine Ja (wpAny_load ho ?_)
       rw[hc,hd]
       show wpAny M A (if(["enumerate","zip","dict_itemiterator","dict_reverseitemiterator","odict_iterator","itertools.zip_longest","itertools.pairwise"].contains n&&vs[0]? == some (rawInt _))=true then _ else _) Q E s
       rw[if_neg (by intro h;rw[hn,Yf5]at h;cases h)]
       exact Jd hQ))
def Itl(K:Fg)(a:Addr):It :=
 ⟨λi H=>∃ xs x,SqL K H a xs/\xs[i]?=some x,λi H x H'=>H'=H/\∀ xs,SqL K H a xs->xs[i]?=some x,λi H=>∃ xs,SqL K H a xs/\xs.length<=i⟩
def Itt(K:Fg)(a:Addr):It :=
 ⟨λi H=>∃ xs x,SqT K H a xs/\xs[i]?=some x,λi H x H'=>H'=H/\∀ xs,SqT K H a xs->xs[i]?=some x,λi H=>∃ xs,SqT K H a xs/\xs.length<=i⟩
def Itr(lo:Int)(n:Nat):It:=⟨λi _=>i<n,λi H x H'=>H'=H/\x=.int (lo + i),λi _=>n<=i⟩
def Zm6{P:Program}{w:World}{K:Fg}{tg:Expr}(a it:Addr):Zte P w K tg (Itl K a) [it] it (λi h=>h.IsListIter it a i) where
 mem:=by simp
 obj:=λi h st b hb=>by
  have e:b=it:=by simpa using hb
  subst e
  obtain⟨o,e,c,d⟩:=st
  exact⟨o,e,λv z=>by rw[d]at z;cases z⟩
 keep:=λi h h' st k=>st.at λo e=>k it (by simp) o e
 item:=by
  intro X hP hw hK hc i pins s σ H E I hf st hg
  subst hP hw hK
  obtain⟨xs,x,hq,hx⟩:=hg
  obtain⟨its,rv,p,hz⟩:=I.list hq
  obtain⟨u,hu,ru⟩:=rv.get hx
  obtain⟨f0,f1,f2,f3,f4,f5⟩:=hf it (by simp)
  refine wpAny_pyNext_list_item st p.isList (x:=u) (by simpa using hu) λh' st' sb=>?_
  have I1:Inv X pins σ H {s with heap:=h' }:=I.turned (t':=s.toks) (λb o hb e=>(sb.2 b hb).trans e) f0 f1 f3 f4 f5
  obtain⟨o,e,c,d⟩:=id st'
  exact⟨u,rfl,Zsy (s:={s with heap:=h' }) e c d (by decide) ⟨x,H,I1,ru,⟨rfl,λys hy=>by rw[I.list_inj hy hq];exact hx⟩,st',λb hb=>(hf b hb).1⟩⟩
 done:=by
  intro X hP hw hK hc i pins s σ H E I hf st hg
  subst hP hw hK
  obtain⟨xs,hq,hx⟩:=hg
  obtain⟨its,rv,p,hz⟩:=I.list hq
  obtain⟨f0,f1,f2,f3,f4,f5⟩:=hf it (by simp)
  have hl:=rv.length
  exact wpAny_pyNext_list_end (I.ok.hd hc) st p.isList (by simp;omega) λh' eb=>⟨rfl,I.turned (t':=s.toks) (λb o hb e=>eb b o hb e) f0 f1 f3 f4 f5⟩
 self:=λ_ _ _ _ _ st h=>wpAny_pyIter_listiter st h
def Zk0{P:Program}{w:World}{K:Fg}{tg:Expr}(a it:Addr):Zte P w K tg (Itt K a) [it] it (λi h=>h.IsTupleIter it a i) where
 mem:=by simp
 obj:=λi h st b hb=>by
  have e:b=it:=by simpa using hb
  subst e
  obtain⟨o,e,c,d⟩:=st
  exact⟨o,e,λv z=>by rw[d]at z;cases z⟩
 keep:=λi h h' st k=>st.at λo e=>k it (by simp) o e
 item:=by
  intro X hP hw hK hc i pins s σ H E I hf st hg
  subst hP hw hK
  obtain⟨xs,x,hq,hx⟩:=hg
  obtain⟨its,rv,p,hz⟩:=I.tuple hq
  obtain⟨u,hu,ru⟩:=rv.get hx
  obtain⟨f0,f1,f2,f3,f4,f5⟩:=hf it (by simp)
  refine wpAny_pyNext_tuple_item st (show s.heap.IsTuple a its.toArray from p) (x:=u) (by simpa using hu) λh' st' sb=>?_
  have I1:Inv X pins σ H {s with heap:=h' }:=I.turned (t':=s.toks) (λb o hb e=>(sb.2 b hb).trans e) f0 f1 f3 f4 f5
  obtain⟨o,e,c,d⟩:=id st'
  exact⟨u,rfl,Zsy (s:={s with heap:=h' }) e c d (by decide) ⟨x,H,I1,ru,⟨rfl,λys hy=>by rw[I.tuple_inj hy hq];exact hx⟩,st',λb hb=>(hf b hb).1⟩⟩
 done:=by
  intro X hP hw hK hc i pins s σ H E I hf st hg
  subst hP hw hK
  obtain⟨xs,hq,hx⟩:=hg
  obtain⟨its,rv,p,hz⟩:=I.tuple hq
  obtain⟨f0,f1,f2,f3,f4,f5⟩:=hf it (by simp)
  have hl:=rv.length
  exact wpAny_pyNext_tuple_end (I.ok.hd hc) st (show s.heap.IsTuple a its.toArray from p) (by simp;omega) λh' eb=>⟨rfl,I.turned (t':=s.toks) (λb o hb e=>eb b o hb e) f0 f1 f3 f4 f5⟩
 self:=λ_ _ _ _ _ st h=>wpAny_pyIter_tupleiter st h
def Zr0{P:Program}{w:World}{K:Fg}{tg:Expr}(it:Addr)(lo:Int)(n:Nat):Zte P w K tg (Itr lo n) [it] it (λi h=>IsRangeIter h it (lo + (i:Nat) * 1) ((n:Int) - (i:Nat)) 1) where
 mem:=by simp
 obj:=λi h st b hb=>by
  have e:b=it:=by simpa using hb
  subst e
  exact⟨_,st,λv z=>by
   have z':Data.fields _=Data.cell v:=z
   cases z'⟩
 keep:=λi h h' st k=>k it (by simp) _ st
 item:=by
  intro X hP hw hK hc i pins s σ H E I hf st hg
  subst hP hw hK
  obtain⟨f0,f1,f2,f3,f4,f5⟩:=hf it (by simp)
  have W:=Walks.range (prog:=X.prog) (w:=X.w) (I.ok.hd hc) it lo 1 n
  refine W.item i s _ _ hg st λv h' tk hv st' kk=>?_
  obtain⟨t,rfl⟩:=hv
  have I1:Inv X pins σ H {s with heap:=h',toks:=tk}:=I.turned (λb o hb e=>kk b o (by simpa using hb) e) f0 f1 f3 f4 f5
  refine⟨_,rfl,Zsy (s:={s with heap:=h',toks:=tk}) (n:="range_iterator") st' rfl rfl (by decide) ⟨.int (lo + i),H,I1,⟨t,?_⟩,⟨rfl,rfl⟩,st',λb hb=>(hf b hb).1⟩⟩
  rw[Int.mul_one]
 done:=by
  intro X hP hw hK hc i pins s σ H E I hf st hg
  subst hP hw hK
  obtain⟨f0,f1,f2,f3,f4,f5⟩:=hf it (by simp)
  exact wpAny_pyNext_range_end (I.ok.hd hc) st (by have:n<=i:=hg;omega) λh' eb=>⟨rfl,I.turned (t':=s.toks) (λb o hb e=>eb b o hb e) f0 f1 f3 f4 f5⟩
 self:=λ_ _ _ _ _ st h=>wpAny_pyIter_rangeiter st h
section
variable {X:Cx}{tg:Expr}
def Z6r(K:Fg)(tl:TE):TI:=λσ H R=>tl σ H λx H1=>∃ a,x=.ref a/\(∃ xs,SqL K H1 a xs)/\R (Itl K a) H1
def Z90(K:Fg)(tl:TE):TI:=λσ H R=>tl σ H λx H1=>∃ a,x=.ref a/\(∃ xs,SqT K H1 a xs)/\R (Itt K a) H1
def Zbb{l:Expr}{tl:TE}(hl:PE X l tl):PI X tg l (Z6r X.K tl):=by
 intro pins s σ H R I h
 refine thn (hl pins s σ H _ I h) λv s1 ⟨x,H1,I1,r1,q1⟩=>?_
 obtain⟨a,e,⟨xs,hq⟩,q⟩:=q1
 subst e
 cases r1
 obtain⟨its,rv,p,hz⟩:=I1.list hq
 refine wpAny_pyIter_list p.isList ?_
 refine⟨s1.heap.objs.size,[s1.heap.objs.size],_,_,H1,rfl,I1.kept (t':=s1.toks) λb o e=>Yb _ e,Zm6 a _,⟨_,Ys _ rfl,rfl,rfl⟩,λb hb=>?_,q⟩
 have e:b=s1.heap.objs.size:=by simpa using hb
 subst e
 exact I1.fpOk (Yd _) (I1.hok.fresh (Yd _))
def Zhw{l:Expr}{tl:TE}(hl:PE X l tl):PI X tg l (Z90 X.K tl):=by
 intro pins s σ H R I h
 refine thn (hl pins s σ H _ I h) λv s1 ⟨x,H1,I1,r1,q1⟩=>?_
 obtain⟨a,e,⟨xs,hq⟩,q⟩:=q1
 subst e
 cases r1
 obtain⟨its,rv,p,hz⟩:=I1.tuple hq
 refine wpAny_pyIter_tuple (show s1.heap.IsTuple a its.toArray from p) ?_
 refine⟨s1.heap.objs.size,[s1.heap.objs.size],_,_,H1,rfl,I1.kept (t':=s1.toks) λb o e=>Yb _ e,Zk0 a _,⟨_,Ys _ rfl,rfl,rfl⟩,λb hb=>?_,q⟩
 have e:b=s1.heap.objs.size:=by simpa using hb
 subst e
 exact I1.fpOk (Yd _) (I1.hok.fresh (Yd _))
def Zq2{pins:PL}{σ:St}{H:Hp}{s:Shared}{R:It->Hp->Prop}{E:EV}{lo hi:Int}{t u v:Tok}{tk:Nat}(I:Inv X pins σ H s)(h1:-(2 ^ 62)<=lo)(h2:lo<2 ^ 62)(h3:-(2 ^ 62)<=hi)(h4:hi<2 ^ 62)
  (q:R (Itr lo (hi - lo).toNat) H):wpAny (model X.prog X.w) X.A (pyIter (.ref s.heap.objs.size)) (PIE X pins σ tg R) E {s with heap:=s.heap.push {cls:=.type "range",data:=.fields #[.int lo t,.int hi u,.int 1 v] },toks:=tk}:=by
 refine wpAny_pyIter_range (IsRange.new ..) (small_one h1 h2 h3 h4) ?_
 have I1:Inv X pins σ H {s with heap:=s.heap.push {cls:=.type "range",data:=.fields #[.int lo t,.int hi u,.int 1 v] },toks:=tk}:=I.kept λb o e=>Yb _ e
 refine⟨(s.heap.push {cls:=.type "range",data:=.fields #[.int lo t,.int hi u,.int 1 v] }).objs.size,[(s.heap.push {cls:=.type "range",data:=.fields #[.int lo t,.int hi u,.int 1 v] }).objs.size],_,_,H,rfl,
  I1.kept (t':=tk) λb o e=>Yb _ e,Zr0 _ lo (hi - lo).toNat,?_,λb hb=>?_,q⟩
 ·have e1:lo + ((0:Nat):Int) * 1=lo:=by simp
  have e2:(((hi - lo).toNat:Nat):Int) - ((0:Nat):Int)=Builtin.Range.rangeSize lo hi 1:=by rw[rangeSize_one];split <;> omega
  show IsRangeIter _ _ (lo + ((0:Nat):Int) * 1) ((((hi - lo).toNat:Nat):Int) - ((0:Nat):Int)) 1
  rw[e1,e2]
  exact Ys _ rfl
 ·have e:b=(s.heap.push {cls:=.type "range",data:=.fields #[.int lo t,.int hi u,.int 1 v] }).objs.size:=by simpa using hb
  subst e
  exact I1.fpOk (Yd _) (I1.hok.fresh (Yd _))
def Z6q(ta:TA):TI:=λσ H R=>ta σ H λvs H1=>∃ j:Int,vs=[.int j]/\-(2 ^ 62)<=j/\j<2 ^ 62/\R (Itr 0 j.toNat) H1
def Z6p(ta:TA):TI:=λσ H R=>ta σ H λvs H1=>∃ i j:Int,vs=[.int i,.int j]/\(-(2 ^ 62)<=i/\i<2 ^ 62/\-(2 ^ 62)<=j/\j<2 ^ 62)/\R (Itr i (j - i).toNat) H1
def Zbv{a:Expr}{ta:TA}{p pos:Pos}(hg:Gl X "range")(hm:X.mg "range"=none)(ha:PA X [a] ta)(hs:starEach [a] X.env=[(false,eval a X.env)]:=by rfl):PI X tg (.Call (.Name "range" p) [a] [] pos) (Z6q ta):=by
 intro pins s σ H R I h
 refine Call_ (Zip I hg hm boot_range (Yc2 (thn (ha pos pins s σ H _ I h) λus s1 ⟨vs,H1,I1,r1,q1⟩=>?_) hs rfl))
 obtain⟨j,e,q1,q2,q⟩:=q1
 subst e
 cases r1 with
 | cons r rr =>
  cases rr
  obtain⟨t,rfl⟩:=r
  exact call_range_1 (Zq2 I1 (by omega) (by omega) q1 q2 (by simpa using q))
def Zun{a b:Expr}{ta:TA}{p pos:Pos}(hg:Gl X "range")(hm:X.mg "range"=none)(ha:PA X [a,b] ta)(hs:starEach [a,b] X.env=[(false,eval a X.env),(false,eval b X.env)]:=by rfl)(hs2:starEach [b] X.env=[(false,eval b X.env)]:=by rfl):
  PI X tg (.Call (.Name "range" p) [a,b] [] pos) (Z6p ta):=by
 intro pins s σ H R I h
 refine Call_ (Zip I hg hm boot_range (Yc2 (thn (ha pos pins s σ H _ I h) λus s1 ⟨vs,H1,I1,r1,q1⟩=>?_) (by rw[hs,hs2]) (by rw[hs2];rfl)))
 obtain⟨i,j,e,⟨q1,q2,q3,q4⟩,q⟩:=q1
 subst e
 cases r1 with
 | cons r rr =>
  cases rr with
  | cons r' rr =>
   cases rr
   obtain⟨t,rfl⟩:=r
   obtain⟨t',rfl⟩:=r'
   exact call_range_2 (Zq2 I1 q1 q2 q3 q4 q)
def Zgf(wi:TI)(g:TG)(tb:TS):TS:=λD σ H=>wi σ H λJ H1=>∃ W:Nat->Nat->St->Hp->Prop,(∃ m,W 0 m σ H1)/\∀ i m σ H,W i m σ H ->
 (J.stop i H/\D.nx σ H)\/(J.go i H/\∃ N:SW,(∀ σ' H',N σ' H'->∃ m',m'<m/\W (i + 1) m' σ' H')/\∀ x H',J.yld i H x H'->g x σ H' λσ2 H2=>tb {D with nx:=N,ct:=N,bk:=D.nx} σ2 H2)
def Znp(fp:List Addr)(h:Heap):PL:=fp.filterMap λb=>(h.get? b).map λo=>(b,o)
def Zho{fp:List Addr}{h:Heap}{b:Addr}{o:Obj}(hb:b∈fp)(e:h.get? b=some o):(b,o)∈Znp fp h:=List.mem_filterMap.mpr ⟨b,hb,by rw[e];rfl⟩
def Zvd{fp:List Addr}{h:Heap}{p:Addr×Obj}(hp:p∈Znp fp h):p.1∈fp/\h.get? p.1=some p.2:=by
 obtain⟨b,hb,e⟩:=List.mem_filterMap.mp hp
 cases q:h.get? b with
 | none=>rw[q]at e;cases e
 | some o =>
  rw[q]at e
  have e':(b,o)=p:=Yq e
  subst e'
  exact⟨hb,q⟩
def Inv.pinned{pins:PL}{σ:St}{H:Hp}{s:Shared}{fp:List Addr}(I:Inv X pins σ H s)(hf:∀ b∈fp,Zkx X pins H b)(ho:∀ b∈fp,∃ o,s.heap.get? b=some o/\∀ v,o.data≠.cell v):Inv X (pins++Znp fp s.heap) σ H s :=
 I.pins_of λp hp=>(Yo.mp hp).elim (λz=>I.pin p (Yl1 _ z)) λz=>by
  obtain⟨hb,e⟩:=Zvd z
  obtain⟨f0,f1,f2,_⟩:=hf p.1 hb
  obtain⟨o,e',d⟩:=ho p.1 hb
  rw[e]at e';cases e'
  exact⟨e,f0,f1,f2,d⟩
def Inv.unpinned{pins pl:PL}{σ:St}{H:Hp}{s:Shared}(I:Inv X (pins++pl) σ H s):Inv X pins σ H s:=I.pins_of λp hp=>I.pin p (Yl1 _ (Yf2 _ hp))
def Zbc{iter:Expr}{body:List Stmt}{wi:TI}{g:TG}{tb:TS}{pos:Pos}(hp:PassesOwn (model X.prog X.w) X.A X.env X.xe)(hc:X.calm=true)(hi:PI X tg iter wi)(hg:PG X tg g)(hb:PSs X body tb)
  (hs:∀ x,foldedSetIterable iter X.env x=pure x:=by intro _;rfl):PS X (.For tg iter body [] pos) (Zgf wi g tb):=by
 intro pins s σ H D I h
 refine wpAny_For (thn (hi pins s σ H _ I h) λv s1 h1=>thn h1 λitv s2 h2=>?_) hs
 obtain⟨it,fp,tn,J,H2,e,I2,T,st2,f2,W,⟨m0,w0⟩,turn⟩:=h2
 subst e
 have stat:∀ {H':Hp},(∀ b∈fp,H' b=none)->∀ b∈fp,Zkx X pins H' b:=λhn b hb=>⟨hn b hb,(f2 b hb).2⟩
 refine codeAny_forLoop_any (λn s'=>∃ i σ' H',Inv X pins σ' H' s'/\tn i s'.heap/\(∀ b∈fp,H' b=none)/\W i n σ' H') ?_ m0 ⟨0,σ,H2,I2,st2,λb hb=>(f2 b hb).1,w0⟩
 rintro n s3 ⟨i,σ3,H3,I3,st3,fr3,w3⟩
 rcases turn i n σ3 H3 w3 with⟨stop,qn⟩ | ⟨go,N,hN,step⟩
 ·refine wpAny_passesOwn hp (thn (T.done X rfl rfl rfl hc i pins s3 σ3 H3 X.xe I3 (stat fr3) st3 stop) λr s4 ⟨hr,I4⟩=>?_)
  subst hr
  exact wpAny_execs_nil ⟨σ3,H3,I4,qn⟩
 ·refine wpAny_passesOwn hp (thn (T.item X rfl rfl rfl hc i pins s3 σ3 H3 X.xe I3 (stat fr3) st3 go) λr s4 ⟨u,hr,h4⟩=>?_)
  subst hr
  refine wpAny_passesOwn hp (thn h4 λ_ s5 ⟨x,H5,I5,r5,y5,st5,fr5⟩=>?_)
  have I5':=I5.pinned (stat fr5) (T.obj _ _ st5)
  refine wpAny_passesOwn hp (thn (hg _ s5 σ3 H5 x u _ I5' r5 (step x H5 y5)) λ_ s6 ⟨σ6,H6,I6,q6⟩=>?_)
  refine wpAny_passesOwn hp (thn (hb _ s6 σ6 H6 _ I6 q6) λf s7 q7=>?_)
  have again:∀ {σ7:St} {H7:Hp},Inv X (pins++Znp fp s5.heap) σ7 H7 s7->N σ7 H7->∃ m,m<n/\∃ i σ' H',Inv X pins σ' H' s7/\tn i s7.heap/\(∀ b∈fp,H' b=none)/\W i m σ' H':=λ{σ7 H7} I7 n7=>by
   obtain⟨m',hm,w7⟩:=hN σ7 H7 n7
   refine⟨m',hm,i + 1,σ7,H7,I7.unpinned,T.keep _ _ _ st5 λb hb o e=>(I7.pin (b,o) (Yl1 _ (Yl1 _ (Zho hb e)))).1,λb hb=>?_,w7⟩
   obtain⟨o,e,d⟩:=T.obj _ _ st5 b hb
   exact(I7.pin (b,o) (Yl1 _ (Yl1 _ (Zho hb e)))).2.1
  cases f with
  | next=>obtain⟨σ7,H7,I7,n7⟩:=q7;exact again I7 n7
  | cont=>obtain⟨σ7,H7,I7,n7⟩:=q7;exact again I7 n7
  | brk=>obtain⟨σ7,H7,I7,q7⟩:=q7;exact⟨σ7,H7,I7.unpinned,q7⟩
  | ret v=>obtain⟨x7,σ7,H7,I7,r7,q7⟩:=q7;exact⟨x7,σ7,H7,I7.unpinned,r7,q7⟩
end
abbrev R2:=V->V->Hp->VK->Prop
def OpR(X:Cx)(f:Value->Value->Sem Value)(r:R2):Prop :=
 ∀(pins:PL) (s:Shared) (σ:St) (H:Hp) (x y:V) (v u:Value) (Q:VK),Inv X pins σ H s->Zcl x v->Zcl y u->r x y H Q ->
  wpAny (model X.prog X.w) X.A (f v u) (EP X pins σ Q) X.xe s
def UnR(X:Cx)(f:Value->Sem Value)(r:V->Hp->VK->Prop):Prop :=
 ∀(pins:PL) (s:Shared) (σ:St) (H:Hp) (x:V) (v:Value) (Q:VK),Inv X pins σ H s->Zcl x v->r x H Q ->
  wpAny (model X.prog X.w) X.A (f v) (EP X pins σ Q) X.xe s
def Zi6(X:Cx)(f:Value)(r:LV->Hp->VK->Prop):Prop :=
 ∀(pins:PL) (s:Shared) (σ:St) (H:Hp) (xs:LV) (us:LU) (Q:VK),Inv X pins σ H s->Zb0 xs us->r xs H Q ->
  wpAny (model X.prog X.w) X.A (call f us) (EP X pins σ Q) X.xe s
def Yae(X:Cx)(r:V->Hp->(Bool->Hp->Prop)->Prop):Prop :=
 ∀(pins:PL) (s:Shared) (σ:St) (H:Hp) (x:V) (v:Value) (Q:Bool->Hp->Prop),Inv X pins σ H s->Zcl x v->r x H Q ->
  wpAny (model X.prog X.w) X.A (truthy v) (TP X pins σ Q) X.xe s
def tOp(r:R2)(ta tb:TE):TE:=λσ H Q=>ta σ H λx H1=>tb σ H1 λy H2=>r x y H2 Q
def tUn(r:V->Hp->VK->Prop)(ta:TE):TE:=λσ H Q=>ta σ H λx H1=>r x H1 Q
def rI(C:Int->Int->Prop)(g:Int->Int->V):R2:=λx y H Q=>∃ i j,x=.int i/\y=.int j/\C i j/\Q (g i j) H
def rI0(g:Int->Int->V):R2:=λx y H Q=>∃ i j,x=.int i/\y=.int j/\Q (g i j) H
def rU(g:Int->V):V->Hp->VK->Prop:=λx H Q=>∃ i,x=.int i/\Q (g i) H
section
variable {X:Cx}{a b c:Expr}{ta tb tc:TE}{pos:Pos}
def Z60(ha:PE X a ta)(hb:PE X b tb){pins:PL}{s:Shared}{σ:St}{H:Hp}{R:V->V->Hp->Prop}(I:Inv X pins σ H s)
  (h:ta σ H λx H1=>tb σ H1 λy H2=>R x y H2) {Q:EV} {f:Value->Value->Sem Value}
  (hf:∀ v u s2 x y H2,Inv X pins σ H2 s2->Zcl x v->Zcl y u->R x y H2->wpAny (model X.prog X.w) X.A (f v u) Q X.xe s2):
  wpAny (model X.prog X.w) X.A (eval a X.env) (λv s₁=>wpAny (model X.prog X.w) X.A (eval b X.env) (λu s₂=>wpAny (model X.prog X.w) X.A (f v u) Q X.xe s₂) X.xe s₁) X.xe s:=by
 refine thn (ha pins s σ H _ I h) λv s1 ⟨x,H1,I1,r1,q1⟩=>?_
 refine thn (hb pins s1 σ H1 _ I1 q1) λu s2 ⟨y,H2,I2,r2,q2⟩=>?_
 exact hf v u s2 x y H2 I2 r1 r2 q2
def Za0{op:Operator}{r:R2}(ho:OpR X (binaryOp op) r)(ha:PE X a ta)(hb:PE X b tb):PE X (.BinOp a op b pos) (tOp r ta tb):=by
 ac_rfl
 exact wpAny_BinOp (Z60 ha hb I h λv u s2 x y H2 I2 rx ry q=>ho pins s2 σ H2 x y v u Q I2 rx ry q)
def Z6i{op:UnaryOp}{r:V->Hp->VK->Prop}(ho:UnR X (unaryOp op) r)(ha:PE X a ta):PE X (.UnaryOp op a pos) (tUn r ta):=by
 ac_rfl
 exact UnaryOp_ (thn (ha pins s σ H _ I h) λv s1 ⟨x,H1,I1,r1,q1⟩=>ho pins s1 σ H1 x v Q I1 r1 q1)
def opI{f:Value->Value->Sem Value}{C:Int->Int->Prop}{g:Int->Int->Int}
  (rule:∀(i j:Int) (t u:Tok) (s:Shared) (Q:EV) (E:EV),C i j->Q (.int (g i j) s.toks) {s with toks:=s.toks + 1}->wpAny (model X.prog X.w) X.A (f (.int i t) (.int j u)) Q E s):
  OpR X f (rI C λi j=>.int (g i j)):=by
 exfalso
 obtain⟨i,j,rfl,rfl,hc,q⟩:=h
 obtain⟨t,rfl⟩:=rx
 obtain⟨t',rfl⟩:=ry
 exact rule i j t t' s _ _ hc ⟨.int (g i j),H,I.tok _,⟨_,rfl⟩,q⟩
def Z8a{f:Value->Value->Sem Value}{g:Int->Int->Int}
  (rule:∀(i j:Int) (t u:Tok) (s:Shared) (Q:EV) (E:EV),Q (.int (g i j) s.toks) {s with toks:=s.toks + 1}->wpAny (model X.prog X.w) X.A (f (.int i t) (.int j u)) Q E s):
  OpR X f (rI0 λi j=>.int (g i j)):=by
 exfalso
 obtain⟨i,j,rfl,rfl,q⟩:=h
 obtain⟨t,rfl⟩:=rx
 obtain⟨t',rfl⟩:=ry
 exact rule i j t t' s _ _ ⟨.int (g i j),H,I.tok _,⟨_,rfl⟩,q⟩
def Z5k{f:Value->Value->Sem Value}{g:Int->Int->Bool}
  (rule:∀(i j:Int) (t u:Tok) (s:Shared) (Q:EV) (E:EV),Q (.bool (g i j)) s->wpAny (model X.prog X.w) X.A (f (.int i t) (.int j u)) Q E s):
  OpR X f (rI0 λi j=>.bl (g i j)):=by
 exfalso
 obtain⟨i,j,rfl,rfl,q⟩:=h
 obtain⟨t,rfl⟩:=rx
 obtain⟨t',rfl⟩:=ry
 exact rule i j t t' s _ _ ⟨.bl (g i j),H,I,rfl,q⟩
def Yak(i j:Int):Prop:=0<j/\j<1073741824
def Yaj(i j:Int):Prop:=0<=j/\j<=1000000/\i.natAbs<2 ^ 64
def Z7a(i j:Int):Prop:=(-(2 ^ 64)<i/\i<2 ^ 64)\/(-(2 ^ 64)<j/\j<2 ^ 64)
def Z7a.ok{i j:Int}(h:Z7a i j):IntMulOk i j:=by
 rcases h with⟨h1,h2⟩ | ⟨h1,h2⟩
 ·exact .of_left (intBits_le_64 h1 h2)
 ·exact .of_right (intBits_le_64 h1 h2)
def Zbz:OpR X (binaryOp .Add) (rI0 λi j=>.int (i + j)):=Z8a λ_ _ _ _ _ _ _ q=>add_int q
def Zif:OpR X (binaryOp .Sub) (rI0 λi j=>.int (i - j)):=Z8a λ_ _ _ _ _ _ _ q=>sub_int q
def Zig:OpR X (binaryOp .Mult) (rI Z7a λi j=>.int (i * j)):=opI λ_ _ _ _ _ _ _ hc q=>mul_int q hc.ok
def Zpo:OpR X (binaryOp .FloorDiv) (rI Yak λi j=>.int (i / j)):=opI λi j _ _ _ _ _ hc q=>by
 have h1:(0:Int)<j:=hc.1
 have h2:j<1073741824:=hc.2
 exact floordiv_int (by omega) (by rw[Int.fdiv_eq_ediv_of_nonneg i (by omega)];exact q) (.inl (PyProof.noPylong_small (by omega)))
def Zg8:OpR X (binaryOp .Mod) (rI (λ_ j=>0<j) λi j=>.int (i % j)):=opI λi j _ _ _ _ _ hc q=>by
 have h1:(0:Int)<j:=hc
 exact mod_int' (by omega) (by rw[Int.fmod_eq_emod_of_nonneg i (by omega)];exact q)
def Zjc:OpR X (binaryOp .Pow) (rI Yaj λi j=>.int (i ^ j.toNat)):=opI λ_ _ _ _ _ _ _ hc q=>pow_int_small hc.1 hc.2.1 hc.2.2 q
def unI{f:Value->Sem Value}{g:Int->Int}
  (rule:∀(i:Int) (t:Tok) (s:Shared) (Q:EV) (E:EV),Q (.int (g i) s.toks) {s with toks:=s.toks + 1}->wpAny (model X.prog X.w) X.A (f (.int i t)) Q E s):
  UnR X f (rU λi=>.int (g i)):=by
 intro pins s σ H x v Q I rx h
 obtain⟨i,rfl,q⟩:=h
 obtain⟨t,rfl⟩:=rx
 exact rule i t s _ _ ⟨.int (g i),H,I.tok _,⟨_,rfl⟩,q⟩
def Z25:UnR X (unaryOp .USub) (rU λi=>.int (-i)):=unI λ_ _ _ _ _ q=>neg_int q
end
def Z7d:V->V->Bool
 | .non,.non=>true | .non,.int _=>true | .int _,.non=>true | .non,.bl _=>true | .bl _,.non=>true | .non,.str _=>true | .str _,.non=>true
 | .int _,.int _=>true | .bl _,.bl _=>true | .str _,.str _=>true | .byt _,.byt _=>true
 | .int _,.str _=>true | .str _,.int _=>true | .bl _,.str _=>true | .str _,.bl _=>true
 | _,_=>false
def rEq:R2:=λx y H Q=>Z7d x y=true/\Q (.bl (decide (x=y))) H
def rNe:R2:=λx y H Q=>Z7d x y=true/\Q (.bl (!decide (x=y))) H
def Zwb{i j:Int}:decide (V.int i=V.int j)=(i == j):=by
 rw[Ys2]
 simp
def Z0a{i j:Bool}:decide (V.bl i=V.bl j)=(i == j):=by
 rw[Ys2]
 simp
def Zwa{i j:Str}:decide (V.str i=V.str j)=(i == j):=by
 rw[Ys2]
 simp
def Zwc{i j:Array UInt8}:decide (V.byt i=V.byt j)=(i.toList == j.toList):=by
 rw[Ys2]
 cases i
 cases j
 simp
section
variable {X:Cx}{a b c:Expr}{ta tb tc:TE}{pos:Pos}
def Zbl{pins:PL}{σ:St}{H:Hp}{s:Shared}{Q:VK}{k k':Bool}(I:Inv X pins σ H s)(q:Q (.bl k) H)(e:k=k'):EP X pins σ Q (.bool k') s:=by
 subst e
 exact⟨.bl k,H,I,rfl,q⟩
def Zds:OpR X (compareOp .Eq) rEq:=by
 exfalso
 obtain⟨hs,q⟩:=h
 cases x with
 | non =>
  cases rx
  cases y with
  | non=>cases ry;exact PySem.EqNone.eq_none_none (Zbl I q (by simp))
  | bl j=>cases ry;exact PySem.EqNone.eq_none_bool (Zbl I q (by simp))
  | int j=>obtain⟨t',rfl⟩:=ry;exact PySem.EqNone.eq_none_int (Zbl I q (by simp))
  | str j=>obtain⟨t',rfl⟩:=ry;exact PySem.EqNone.eq_none_str (Zbl I q (by simp))
  | _=>exact absurd (show false=true from hs) Yg
 | bl i =>
  cases rx
  cases y with
  | non=>cases ry;exact PySem.EqNone.eq_bool_none (Zbl I q (by simp))
  | bl j=>cases ry;exact eq_bool (Zbl I q Z0a)
  | str j=>obtain⟨t',rfl⟩:=ry;exact PySem.EqMixed.eq_bool_str (Zbl I q (by simp))
  | _=>exact absurd (show false=true from hs) Yg
 | int i =>
  obtain⟨t,rfl⟩:=rx
  cases y with
  | non=>cases ry;exact PySem.EqNone.eq_int_none (Zbl I q (by simp))
  | int j=>obtain⟨t',rfl⟩:=ry;exact eq_int (Zbl I q Zwb)
  | str j=>obtain⟨t',rfl⟩:=ry;exact PySem.EqMixed.eq_int_str (Zbl I q (by simp))
  | _=>exact absurd (show false=true from hs) Yg
 | str i =>
  obtain⟨t,rfl⟩:=rx
  cases y with
  | non=>cases ry;exact PySem.EqNone.eq_str_none (Zbl I q (by simp))
  | bl j=>cases ry;exact PySem.EqMixed.eq_str_bool (Zbl I q (by simp))
  | int j=>obtain⟨t',rfl⟩:=ry;exact PySem.EqMixed.eq_str_int (Zbl I q (by simp))
  | str j=>obtain⟨t',rfl⟩:=ry;exact eq_str (Zbl I q Zwa)
  | _=>exact absurd (show false=true from hs) Yg
 | byt i =>
  obtain⟨t,rfl⟩:=rx
  cases y with
  | byt j=>obtain⟨t',rfl⟩:=ry;exact W.eq_bytes (Zbl I q Zwc)
  | _=>exact absurd (show false=true from hs) Yg
 | _=>cases y <;> exact absurd (show false=true from hs) Yg
def Zuv:OpR X (compareOp .NotEq) rNe:=by
 exfalso
 obtain⟨hs,q⟩:=h
 cases x with
 | non =>
  cases rx
  cases y with
  | non=>cases ry;exact PySem.EqNone.ne_none_none (Zbl I q (by simp))
  | bl j=>cases ry;exact PySem.EqNone.ne_none_bool (Zbl I q (by simp))
  | int j=>obtain⟨t',rfl⟩:=ry;exact PySem.EqNone.ne_none_int (Zbl I q (by simp))
  | str j=>obtain⟨t',rfl⟩:=ry;exact PySem.EqNone.ne_none_str (Zbl I q (by simp))
  | _=>exact absurd (show false=true from hs) Yg
 | bl i =>
  cases rx
  cases y with
  | non=>cases ry;exact PySem.EqNone.ne_bool_none (Zbl I q (by simp))
  | bl j=>cases ry;exact ne_bool (Zbl I q (congrArg not Z0a))
  | str j=>obtain⟨t',rfl⟩:=ry;exact PySem.EqMixed.ne_bool_str (Zbl I q (by simp))
  | _=>exact absurd (show false=true from hs) Yg
 | int i =>
  obtain⟨t,rfl⟩:=rx
  cases y with
  | non=>cases ry;exact PySem.EqNone.ne_int_none (Zbl I q (by simp))
  | int j=>obtain⟨t',rfl⟩:=ry;exact ne_int (Zbl I q (congrArg not Zwb))
  | str j=>obtain⟨t',rfl⟩:=ry;exact PySem.EqMixed.ne_int_str (Zbl I q (by simp))
  | _=>exact absurd (show false=true from hs) Yg
 | str i =>
  obtain⟨t,rfl⟩:=rx
  cases y with
  | non=>cases ry;exact PySem.EqNone.ne_str_none (Zbl I q (by simp))
  | bl j=>cases ry;exact PySem.EqMixed.ne_str_bool (Zbl I q (by simp))
  | int j=>obtain⟨t',rfl⟩:=ry;exact PySem.EqMixed.ne_str_int (Zbl I q (by simp))
  | str j=>obtain⟨t',rfl⟩:=ry;exact ne_str (Zbl I q (congrArg not Zwa))
  | _=>exact absurd (show false=true from hs) Yg
 | byt i =>
  obtain⟨t,rfl⟩:=rx
  cases y with
  | byt j=>obtain⟨t',rfl⟩:=ry;exact W.ne_bytes (Zbl I q (congrArg not Zwc))
  | _=>exact absurd (show false=true from hs) Yg
 | _=>cases y <;> exact absurd (show false=true from hs) Yg
def Zmc:OpR X (compareOp .Lt) (rI0 λi j=>.bl (decide (i<j))):=Z5k λ_ _ _ _ _ _ _ q=>lt_int q
def Zjk:OpR X (compareOp .LtE) (rI0 λi j=>.bl (decide (i<=j))):=Z5k λ_ _ _ _ _ _ _ q=>le_int q
def Zih:OpR X (compareOp .Gt) (rI0 λi j=>.bl (decide (j<i))):=Z5k λ_ _ _ _ _ _ _ q=>gt_int q
def Z07:OpR X (compareOp .GtE) (rI0 λi j=>.bl (decide (j<=i))):=Z5k λ_ _ _ _ _ _ _ q=>ge_int q
def Zuw:OpR X (compareOp .In) (λx y H Q=>∃ i j,x=.str i/\y=.str j/\Q (.bl (!(Builtin.Str.occurrences j i 0 j.length 1).isEmpty)) H):=by
 exfalso
 obtain⟨i,j,rfl,rfl,q⟩:=h
 obtain⟨t,rfl⟩:=rx
 obtain⟨t',rfl⟩:=ry
 exact in_str (Zbl I q rfl)
def Z34:OpR X (compareOp .Is) (λx y H Q=>y=.non/\Q (.bl (decide (x=.non))) H):=by
 exfalso
 obtain⟨rfl,q⟩:=h
 cases ry
 refine is_none_gen (Zbl I q ?_)
 cases x <;> first
  | (cases rx;rfl)
  | (obtain⟨t,rfl⟩:=rx;rfl)
def Zaq(b:Expr){op:CmpOp}(h:op≠.In:=by decide)(h2:op≠.NotIn:=by decide):behindInMarks op b=false:=by
 have e1:(op == CmpOp.In)=false:=by cases op <;> first | rfl | exact absurd rfl h
 have e2:(op == CmpOp.NotIn)=false:=by cases op <;> first | rfl | exact absurd rfl h2
 cases b <;> simp[behindInMarks,e1,e2]
def Zhz{op:CmpOp}{r:R2}(ho:OpR X (compareOp op) r)(ha:PE X a ta)(hb:PE X b tb)(hm:behindInMarks op b=false):PE X (.Compare a [op] [b] pos) (tOp r ta tb):=by
 ac_rfl
 exact wpAny_Compare1 (Z60 ha hb I h λv u s2 x y H2 I2 rx ry q=>ho pins s2 σ H2 x y v u Q I2 rx ry q) hm
def Z26(t:TE):TT:=λσ H Q=>t σ H λx H'=>∃ k,x=.bl k/\Q k H'
def Zal{op:CmpOp}{r:R2}(ho:OpR X (compareOp op) r)(ha:PE X a ta)(hb:PE X b tb)(hm:behindInMarks op b=false):PT X (.Compare a [op] [b] pos) (Z26 (tOp r ta tb)):=by
 ac_rfl
 refine wpAny_isTrue_Compare1 (thn (ha pins s σ H _ I h) λv s1 ⟨x,H1,I1,r1,q1⟩=>thn (hb pins s1 σ H1 _ I1 q1) λu s2 ⟨y,H2,I2,r2,q2⟩ =>
  thn (ho pins s2 σ H2 x y v u _ I2 r1 r2 q2) λc s3 ⟨z,H3,I3,r3,k,e,q3⟩=>?_) hm
 subst e
 cases r3
 exact Jh ⟨H3,I3,q3⟩
def Zzb(r r':R2)(ta tb tc:TE):TE:=λσ H Q=>ta σ H λx H1=>tb σ H1 λy H2=>r x y H2 λz H3=>∃ k,z=.bl k /\
 (if k=true then tc σ H3 λw' H4=>r' y w' H4 Q else Q (.bl false) H3)
def Zxp{op op':CmpOp}{r r':R2}(ho:OpR X (compareOp op) r)(ho':OpR X (compareOp op') r')(ha:PE X a ta)(hb:PE X b tb)(hc:PE X c tc)
  (hm:lastMarks [op,op'] [b,c]=false:=by with_unfolding_all rfl):PE X (.Compare a [op,op'] [b,c] pos) (Zzb r r' ta tb tc):=by
 ac_rfl
 refine Compare_chain (thn (ha pins s σ H _ I h) λv s1 ⟨x,H1,I1,r1,q1⟩=>chain_link (thn (hb pins s1 σ H1 _ I1 q1) λu s2 ⟨y,H2,I2,r2,q2⟩ =>
  thn (ho pins s2 σ H2 x y v u _ I2 r1 r2 q2) λd s3 ⟨z,H3,I3,r3,k,e,q3⟩=>?_)) hm
 subst e
 cases r3
 refine Jh ?_
 cases k with
 | false=>exact ite_ff ⟨.bl false,H3,I3,rfl,q3⟩
 | true=>exact ite_tt (chain_last (thn (hc pins s3 σ H3 _ I3 q3) λw' s4 ⟨z',H4,I4,r4,q4⟩=>ho' pins s4 σ H4 y z' u w' Q I4 r2 r4 q4))
def Zl6{op op':CmpOp}{r r':R2}(ho:OpR X (compareOp op) r)(ho':OpR X (compareOp op') r')(ha:PE X a ta)(hb:PE X b tb)(hc:PE X c tc)
  (hm:lastMarks [op,op'] [b,c]=false:=by with_unfolding_all rfl):PT X (.Compare a [op,op'] [b,c] pos) (Z26 (Zzb r r' ta tb tc)):=by
 ac_rfl
 refine isTrue_chain (thn (ha pins s σ H _ I h) λv s1 ⟨x,H1,I1,r1,q1⟩=>test_link (thn (hb pins s1 σ H1 _ I1 q1) λu s2 ⟨y,H2,I2,r2,q2⟩ =>
  thn (ho pins s2 σ H2 x y v u _ I2 r1 r2 q2) λd s3 ⟨z,H3,I3,r3,k,e,q3⟩=>?_)) hm
 subst e
 cases r3
 refine Jh ?_
 cases k with
 | false =>
  obtain⟨k',e',q'⟩:=q3
  cases e'
  exact ite_ff ⟨H3,I3,q'⟩
 | true =>
  refine ite_tt (test_last (thn (hc pins s3 σ H3 _ I3 q3) λw' s4 ⟨z',H4,I4,r4,q4⟩=>thn (ho' pins s4 σ H4 y z' u w' _ I4 r2 r4 q4) λd' s5 ⟨z2,H5,I5,r5,k2,e2,q5⟩=>?_))
  subst e2
  cases r5
  exact Jh ⟨H5,I5,q5⟩
def Z63(K:Fg)(x:V)(H:Hp)(k:Bool):Prop :=
 match x with
 | .non=>k=false
 | .bl b=>k=b
 | .int i=>k=(i != 0)
 | .str y=>y.length<=sizeLine/\k=((y.length:Int) != 0)
 | .byt y=>y.size<=sizeLine/\k=((y.size:Int) != 0)
 | .ref p=>(∃ xs,SqL K H p xs/\k=!xs.isEmpty)\/(∃ xs,SqT K H p xs/\k=!xs.isEmpty)\/∃ kvs,H p=some (.dK kvs)/\k=!kvs.isEmpty
 | _=>False
def Zsx{κ:Type}{kvs:List (κ×V)}{vs:List (κ×Value)}(r:KV kvs vs):(!vs.isEmpty)=!kvs.isEmpty:=by
 cases r <;> rfl
def Zli{xs:LV}{its:LU}(r:Zb0 xs its):(!its.toArray.isEmpty)=!xs.isEmpty:=by
 cases r <;> simp
def Zka:(sizeLine:Nat)<2 ^ 63:=by rw[sizeLine_eq];decide
def Zza:Yae X (λx H Q=>∃ k,Z63 X.K x H k/\Q k H):=by
 intro pins s σ H x v Q I rx h
 obtain⟨k,e,q⟩:=h
 have hl:=Zka
 have hs:sizeLine=16777216:=sizeLine_eq
 cases x with
 | non =>
  cases rx
  have e':k=false:=e
  subst e'
  exact truthy_none ⟨H,I,q⟩
 | bl b =>
  cases rx
  have e':k=b:=e
  subst e'
  exact Jh ⟨H,I,q⟩
 | int i =>
  obtain⟨t,rfl⟩:=rx
  have e':k=(i != 0):=e
  subst e'
  exact PySem.P.truthy_int ⟨H,I,q⟩
 | str y =>
  obtain⟨t,rfl⟩:=rx
  obtain⟨hy,e'⟩:y.length<=sizeLine/\k=((y.length:Int) != 0):=e
  subst e'
  exact PySem.P.truthy_str (by omega) ⟨H,I.tok _,q⟩
 | byt y =>
  obtain⟨t,rfl⟩:=rx
  obtain⟨hy,e'⟩:y.size<=sizeLine/\k=((y.size:Int) != 0):=e
  subst e'
  exact W.truthy_bytes (by omega) ⟨H,I.tok _,q⟩
 | ref p =>
  cases rx
  have e':(∃ xs,SqL X.K H p xs/\k=!xs.isEmpty)\/(∃ xs,SqT X.K H p xs/\k=!xs.isEmpty)\/∃ kvs,H p=some (.dK kvs)/\k=!kvs.isEmpty:=e
  rcases e' with⟨xs,hx,e'⟩ | ⟨xs,hx,e'⟩ | ⟨kvs,hx,e'⟩
  ·subst e'
   obtain⟨its,r,pl,hz⟩:=I.list hx
   have hlen:=r.length
   exact wpAny_truthy_list pl.isList (by simp only[Yl];omega) ⟨H,I.tok _,by rw[Zli r];exact q⟩
  ·subst e'
   obtain⟨its,r,pl,hz⟩:=I.tuple hx
   have hlen:=r.length
   exact truthy_tuple pl (by simp only[Yl];omega) ⟨H,I.tok _,by rw[Zli r];exact q⟩
  ·subst e'
   obtain⟨hz,hS,vs,r,m⟩:kvs.length<=sizeLine/\(p == sysModules)=false/\∃ vs,KV kvs vs/\s.heap.DictOf (Zbu X.prog X.w) p vs:=I.hok p _ hx
   have hlen:kvs.length=vs.length:=Yz r
   exact wpAny_truthy_dict hS m (by omega) ⟨H,I.tok _,by rw[Zsx r];exact q⟩
 | _=>exact(show False from e).elim
def Zjq(ha:PE X a ta)(he:∀ whole,isTrue a X.env whole=(do let v <- whole;standAt a.pos;holding [v] (truthy v))):
  PT X a (λσ H Q=>ta σ H λx H'=>∃ k,Z63 X.K x H' k/\Q k H'):=by
 ac_rfl
 exact isTrue_plain (thn (ha pins s σ H _ I h) λv s1 ⟨x,H1,I1,r1,q1⟩=>Zza pins s1 σ H1 x v Q I1 r1 q1) (he _)
def Zlc:OpR X (binaryOp .Add) (λx y H Q=>∃ i j,x=.str i/\y=.str j/\i.length + j.length<=sizeLine/\Q (.str (i++j)) H):=by
 exfalso
 obtain⟨i,j,rfl,rfl,hz,q⟩:=h
 obtain⟨t,rfl⟩:=rx
 obtain⟨t',rfl⟩:=ry
 exact add_str (λt' tk=>⟨.str (i++j),H,I.tok _,⟨_,rfl⟩,q⟩) hz
def Zks{x:V}{us:LU}(r:Zb0 [x] us):∃ u,us=[u]/\Zcl x u:=by
 cases r with
 | cons r1 r2=>cases r2;exact⟨_,rfl,r1⟩
def Zw8{x y:V}{us:LU}(r:Zb0 [x,y] us):∃ u w',us=[u,w']/\Zcl x u/\Zcl y w':=by
 cases r with
 | cons r1 r2 =>
  cases r2 with
  | cons r3 r4=>cases r4;exact⟨_,_,rfl,r1,r3⟩
def Zwm(hc:X.calm=true):Zi6 X (.builtin "max") (λxs H Q=>∃ i j,xs=[.int i,.int j]/\Q (.int (if j > i then j else i)) H):=by
 intro pins s σ H xs us Q I r h
 obtain⟨i,j,rfl,q⟩:=h
 obtain⟨u,w',rfl,⟨t,rfl⟩,⟨t',rfl⟩⟩:=Zw8 r
 refine max_two_ints (I.ok.hd hc) λh' tk k=>⟨_,H,I.kept k,?_,q⟩
 by_cases hj:j > i
 ·rw[if_pos hj,if_pos hj];exact⟨_,rfl⟩
 ·rw[if_neg hj,if_neg hj];exact⟨_,rfl⟩
def Zwn:Zi6 X (.type "int") (λxs H Q=>(∃ i,xs=[.int i]/\Q (.int i) H)\/∃ k,xs=[.bl k]/\Q (.int (if k then 1 else 0)) H):=by
 intro pins s σ H xs us Q I r h
 rcases h with⟨i,rfl,q⟩ | ⟨k,rfl,q⟩
 ·obtain⟨u,rfl,t,rfl⟩:=Zks r
  exact call_int_int ⟨.int i,H,I,⟨_,rfl⟩,q⟩
 ·obtain⟨u,rfl,r1⟩:=Zks r
  cases r1
  exact call_int_bool ⟨.int (if k then 1 else 0),H,I.tok _,⟨_,rfl⟩,q⟩
def Z8n(K:Fg)(x:V)(H:Hp)(n:Nat):Prop :=
 match x with
 | .str y=>y.length<=sizeLine/\n=y.length
 | .byt y=>y.size<=sizeLine/\n=y.size
 | .ref p=>(∃ xs,SqL K H p xs/\n=xs.length)\/∃ xs,SqT K H p xs/\n=xs.length
 | _=>False
def Zdc:Zi6 X (.builtin "len") (λxs H Q=>∃ x n,xs=[x]/\Z8n X.K x H n/\Q (.int n) H):=by
 intro pins s σ H xs us Q I r h
 obtain⟨x,n,rfl,e,q⟩:=h
 obtain⟨u,rfl,rx⟩:=Zks r
 have hl:=Zka
 have hs:sizeLine=16777216:=sizeLine_eq
 cases x with
 | str y =>
  obtain⟨t,rfl⟩:=rx
  obtain⟨hy,e'⟩:y.length<=sizeLine/\n=y.length:=e
  subst e'
  exact len_str (by omega) ⟨.int _,H,I.tok _,⟨_,rfl⟩,q⟩
 | byt y =>
  obtain⟨t,rfl⟩:=rx
  obtain⟨hy,e'⟩:y.size<=sizeLine/\n=y.size:=e
  subst e'
  exact W.len_bytes (by omega) ⟨.int _,H,I.tok _,⟨_,rfl⟩,q⟩
 | ref p =>
  cases rx
  have e':(∃ xs,SqL X.K H p xs/\n=xs.length)\/∃ xs,SqT X.K H p xs/\n=xs.length:=e
  rcases e' with⟨xs,hx,e'⟩ | ⟨xs,hx,e'⟩
  ·subst e'
   obtain⟨its,r',pl,hz⟩:=I.list hx
   have hlen:=r'.length
   exact Calls.call_len_list pl.isList (by simp only[Yl];omega) ⟨.int xs.length,H,I.tok _,⟨_,by simp only[Yl];rw[hlen]⟩,q⟩
  ·subst e'
   obtain⟨its,r',pl,hz⟩:=I.tuple hx
   have hlen:=r'.length
   exact len_tuple pl (by simp only[Yl];omega) ⟨.int xs.length,H,I.tok _,⟨_,by simp only[Yl];rw[hlen]⟩,q⟩
 | _=>exact(show False from e).elim
end
structure Z2r(h:Heap)(x dx C:Addr)(mA:Str->OU):Prop where
 obj:h.get? x=some (W.instObj C dx)
 ns:h.Ns1 dx mA
 ne:dx≠x
def Zod{h:Heap}{dx:Addr}{mA:Str->OU}(n:h.Ns1 dx mA):∃ od,h.get? dx=some od/\∀ name,W.lookIn name od=some (mA name):=by
 obtain⟨o,es,ep,ho,hd,hk,_,hm⟩:=n
 refine⟨o,ho,λname=>?_⟩
 have e:=hm name
 unfold nsFind findBy at e
 rw[<- Array.find?_toList]at e
 unfold W.lookIn
 rw[hd]
 dsimp only
 split
 ·rename_i y q
  rw[q]at e
  exact congrArg some e
 ·rename_i q
  rw[q]at e
  have a:es.toList.any (·.refKey)=false:=by
   rw[List.any_eq_false]
   intro y hy
   obtain⟨z,t,hkey⟩:=hk y (Array.mem_toList_iff.mp hy)
   simp[DictEntry.refKey,hkey]
  have a':¬ es.toList.any (·.refKey)=true:=by rw[a];exact Yg
  rw[if_neg a']
  exact congrArg some e
def Z2r.look{h:Heap}{x dx C:Addr}{mA:Str->OU}(I:Z2r h x dx C mA):∃ od,W.InstAt h x (W.instObj C dx) C (some od)/\∀ name,W.lookIn name od=some (mA name):=
 let⟨od,ho,hl⟩:=Zod I.ns
 ⟨od,⟨I.obj,rfl,rfl,ho⟩,hl⟩
section
variable {prog:Program}{w:World}{A:Around}{E:EV}{s:Shared}{K:Fg}{x dx C f:Addr}{mA:Str->OU}{name:Str}{v:Value}
def Z1y{expr:Bool}{Q:EV}(X:K.In s.heap)(I:Z2r s.heap x dx C mA)(hg:W.plainGet K C name=true)(hh:W.hasDictIn K C=true)
  (ha:W.findIn K (.ref C) name=some none) (hv:mA name=some v) (hv':W.handedIn v=true) (h:Q v {s with toks:=s.toks + 1}):
  wpAny (model prog w) A (getAttr (.ref x) name expr) Q E s:=by
 obtain⟨od,J,hl⟩:=I.look
 exact W.get_value X J (W.plainGet_of hg).1 (W.findObj_own hh ha rfl (by rw[hl,hv])) hv' h
def Zys{pl:Sem Bool}{Q:Value×LU->Shared->Prop}(X:K.In s.heap)(I:Z2r s.heap x dx C mA)(hg:W.plainGet K C name=true)
  (hf:W.findIn K (.ref C) name=some (some (.ref f))) (ht:W.isFn K (.ref f)=true) (hv:mA name=none) (h:Q (.ref f,[.ref x]) s):
  wpAny (model prog w) A (getMethod (.ref x) name pl) Q E s:=by
 obtain⟨od,J,hl⟩:=I.look
 exact W.method_fn X J (W.plainGet_of hg).1 (W.plainGet_of hg).2 hf (beq_iff_eq.mp ht) (by show(W.lookIn name od).map (·.isSome)=some false;rw[hl,hv];rfl) h
def Z0q{ns:LS}{Q:Unit->Shared->Prop}(X:K.In s.heap)(I:Z2r s.heap x dx C mA)
  (hs:W.findIn K (.ref C) "__setattr__"=some (some (.builtin "object.__setattr__"))) (hp:W.plainOver K C=true) (ht:W.takerIn K C name=some none) (hh:W.hasDictIn K C=true)
  (hw:PySem.Within mA ns) (hsz:ns.length<=sizeLine)
  (h:∀ h',Z2r h' x dx C (λy=>if y=name then some v else mA y)->Heap.SameBut dx s.heap h'->Q () {s with heap:=h',toks:=s.toks + 2}):
  wpAny (model prog w) A (setAttr (.ref x) name v) Q E s:=by
 obtain⟨od,J,hl⟩:=I.look
 refine W.set_plain X J hs (W.osa_open (s:={s with toks:=s.toks + 1}) (r:=none) X J hp ht λb=>?_)
 obtain⟨cd,hc,hd'⟩:=W.any_some hh
 have hx:s.heap.get? x=some ⟨.ref C,some dx,.plain,#[]⟩:=I.obj
 refine Ja (Jd (Ja (Ja (wpAny_loadPart hx (Ja (W.Looks.here (s:={s with toks:=s.toks + 1}) (W.looks_clsIn X hc) ?_))))))
 rw[hd']
 refine Jd (a:=some dx) (Ja (Jd (Ja ?_)))
 refine wpAny_nsSet1 (s:={s with toks:=s.toks + 1}) I.ns λh' hn2 hs2=>?_
 obtain⟨oD,esD,epD,hoD,hdD,hcD⟩:=hn2.count (PySem.Within.cons name v hw)
 refine Ja (wpAny_lookBehind hoD (by rw[hdD];exact pastItsLine_dict (Yx hcD (by rw[Yf1];omega))) ?_)
 exact Jd (h _ ⟨(hs2.2 _ (Ym I.ne)).trans I.obj,hn2,I.ne⟩ hs2)
def Zye{R:Result->Shared->Prop}{vs:LU}{kw:List (Str×Value)}(X:K.In s.heap)(hm:W.makesIn K C=true)
  (hi:W.findIn K (.ref C) "__init__"=some (some (.ref f))) (hf:W.typeIn K (.ref f)=some (.type "function"))
  (h:codeAny (model prog w) (A.under (.builtin "type.__call__" ⟨.ref C :: vs,kw⟩)) (.call (.ref f) ⟨.ref (s.heap.objs.size + 1):: vs,kw⟩) (W.InitBack (s.heap.objs.size + 1) R)
   {s with heap:=(s.heap.push W.emptyDict).push (W.instObj C s.heap.objs.size) }):
  codeAny (model prog w) A (.call (.ref C) ⟨vs,kw⟩) R s:=by
 obtain⟨hh,g,d,t,os⟩:=s
 exact W.make_core (W.makes_of X hm) (W.looks_findIn X hi) (λself=>W.bind_fn X self hf) (.inl rfl) h
end
def Zhl(f:Str)(v:V):List (Str×V)->List (Str×V)
 | []=>[(f,v)]
 | (g,x):: r=>if g=f then(g,v):: r else(g,x):: Zhl f v r
theorem Zas(f g:Str)(v:V):∀ fs:List (Str×V),(Zhl f v fs).lookup g=if g=f then some v else fs.lookup g
 | []=>by
  show List.lookup g [(f,v)]=_
  by_cases h:g=f
  ·have hb:(g == f)=true:=beq_iff_eq.mpr h
   simp only[List.lookup,hb,if_pos h]
  ·have hb:(g == f)=false:=beq_eq_false_iff_ne.mpr h
   simp only[List.lookup,hb,if_neg h]
 | (k,x):: r=>by
  have ih:=Zas f g v r
  rw[show Zhl f v ((k,x):: r)=(if k=f then(k,v):: r else(k,x):: Zhl f v r)from rfl]
  by_cases hk:k=f
  ·rw[if_pos hk]
   by_cases h:g=k
   ·have hb:(g == k)=true:=beq_iff_eq.mpr h
    simp only[List.lookup,hb,if_pos (h.trans hk)]
   ·have hb:(g == k)=false:=beq_eq_false_iff_ne.mpr h
    simp only[List.lookup,hb,if_neg (λe:g=f=>h (e.trans hk.symm))]
  ·rw[if_neg hk]
   by_cases h:g=k
   ·have hb:(g == k)=true:=beq_iff_eq.mpr h
    simp only[List.lookup,hb,if_neg (λe:g=f=>hk (h.symm.trans e))]
   ·have hb:(g == k)=false:=beq_eq_false_iff_ne.mpr h
    simp only[List.lookup,hb]
    exact ih
theorem Zkd(f:Str)(v:V):∀ fs:List (Str×V),f∈(Zhl f v fs).map (·.1)/\∀ g,g∈fs.map (·.1)->g∈(Zhl f v fs).map (·.1)
 | []=>⟨by simp[Zhl],λg h=>by simp at h⟩
 | (k,x):: r=>by
  obtain⟨i1,i2⟩:=Zkd f v r
  rw[show Zhl f v ((k,x):: r)=(if k=f then(k,v):: r else(k,x):: Zhl f v r)from rfl]
  by_cases hk:k=f
  ·rw[if_pos hk]
   subst hk
   exact⟨by simp,λg h=>by simpa using h⟩
  ·rw[if_neg hk]
   refine⟨?_,λg h=>?_⟩
   ·rw[Yy]
    exact Yz1 _ i1
   ·rw[Yy]at h ⊢
    rcases Yg1.mp h with e | e
    ·exact Yg1.mpr (.inl e)
    ·exact Yz1 _ (i2 g e)
theorem Zkb(f:Str)(v:V):∀ fs:List (Str×V),(Zhl f v fs).length<=fs.length + 1
 | []=>by simp[Zhl]
 | (k,x):: r=>by
  have ih:=Zkb f v r
  rw[show Zhl f v ((k,x):: r)=(if k=f then(k,v):: r else(k,x):: Zhl f v r)from rfl]
  by_cases hk:k=f
  ·rw[if_pos hk,Yf1,Yf1];omega
  ·rw[if_neg hk,Yf1,Yf1];omega
def Zo3.some_of{v:V}{o:OU}(r:Zo3 (some v) o):∃ u,o=some u/\Zcl v u:=by
 cases o with
 | none=>exact(show False from r).elim
 | some u=>exact⟨u,rfl,r⟩
def Zo3.none_of{o:OU}(r:Zo3 none o):o=none:=by
 cases o with
 | none=>rfl
 | some u=>exact(show False from r).elim
def Zok{v:V}{u:Value}(r:Zcl v u):W.handedIn u=true:=by
 cases v with
 | non=>cases(show u=Value.none from r);rfl
 | bl b=>cases(show u=Value.bool b from r);rfl
 | int i=>obtain⟨t,e⟩:=(show ∃ t,u=Value.int i t from r);cases e;rfl
 | str x=>obtain⟨t,e⟩:=(show ∃ t,u=Value.str x t from r);cases e;rfl
 | byt b=>obtain⟨t,e⟩:=(show ∃ t,u=Value.bytes b t from r);cases e;rfl
 | flt b=>obtain⟨t,e⟩:=(show ∃ t,u=Value.float b t from r);cases e;rfl
 | ref a=>cases(show u=Value.ref a from r);rfl
 | ty n=>cases(show u=Value.type n from r);rfl
section
variable {P:Program}{w:World}{H H':Hp}{h h':Heap}{a C dx:Addr}{fs fs':List (Str×V)}
def Zmq(hok:HOk P w H h)(e:H a=some (.ins C dx fs)):∃ mA,Z2r h a dx C mA/\(∀ f,Zo3 (fs.lookup f) (mA f))/\PySem.Within mA (fs.map (·.1))/\fs.length<=1000/\H dx=some (.own a):=by
 obtain⟨d,z,ne,ob,mA,n,r,q⟩:=(show Zb6 P w H h a (.ins C dx fs)from hok a _ e)
 exact⟨mA,⟨ob,n,ne⟩,r,q,z,d⟩
end
structure Cls(K:Fg)(C:Addr):Prop where
 pg:W.plainGet K C Str.empty=true
 hd:W.hasDictIn K C=true
 po:W.plainOver K C=true
 sa:W.findIn K (.ref C) "__setattr__"=some (some (.builtin "object.__setattr__"))
def Cls.get{K:Fg}{C:Addr}(c:Cls K C)(f:Str):W.plainGet K C f=true:=c.pg
def Zfz(K:Fg)(C:Addr)(f:Str):Prop:=W.findIn K (.ref C) f=some none
def Zfz.taker{K:Fg}{C:Addr}{f:Str}(n:Zfz K C f):W.takerIn K C f=some none:=by
 unfold W.takerIn
 rw[show W.findIn K (.ref C) f=some none from n]
 rfl
structure Con(K:Fg)(C:Addr)(f:Str)(v:V)(u:Value):Prop where
 at_:W.findIn K (.ref C) f=some (some u)
 rel:Zcl v u
 get:W.specialIn K u "__get__"=some none
 cp:W.copiedNames.contains f=false
structure Z5p(K:Fg)(C:Addr)(m:Str)(f:Addr):Prop where
 at_:W.findIn K (.ref C) m=some (some (.ref f))
 fn:W.isFn K (.ref f)=true
 kp:W.keepIn K (.ref f)=true
section
variable {X:Cx}{pins:PL}{σ:St}{H:Hp}{s:Shared}{a C dx:Addr}{fs:List (Str×V)}{f:Str}{v:V}{A:Around}{E:EV}
def Zsz{b:Bool}{Q:EV}(I:Inv X pins σ H s)(e:H a=some (.ins C dx fs))(c:Cls X.K C)(n:Zfz X.K C f)(l:fs.lookup f=some v)
  (h:∀ u s',Inv X pins σ H s'->Zcl v u->Q u s'):wpAny (model X.prog X.w) A (getAttr (.ref a) f b) Q E s:=by
 obtain⟨mA,O,r,_,_,_⟩:=Zmq I.hok e
 obtain⟨u,hu,ru⟩:=Zo3.some_of (v:=v) (o:=mA f) (by rw[<- l];exact r f)
 exact Z1y I.kIn O (c.get f) c.hd n hu (Zok ru) (h u _ (I.tok _) ru)
def Zlj{m:Str}{g:Addr}{pl:Sem Bool}{Q:Value×LU->Shared->Prop}(I:Inv X pins σ H s)(e:H a=some (.ins C dx fs))(c:Cls X.K C)(k:Z5p X.K C m g)(l:fs.lookup m=none)
  (h:Q (.ref g,[.ref a]) s):wpAny (model X.prog X.w) A (getMethod (.ref a) m pl) Q E s:=by
 obtain⟨mA,O,r,_,_,_⟩:=Zmq I.hok e
 have hn:mA m=none:=Zo3.none_of (by rw[<- l];exact r m)
 exact Zys I.kIn O (c.get m) k.at_ k.fn hn h
def Zr6{y:V}{u:Value}{Q:Unit->Shared->Prop}(I:Inv X pins σ H s)(e:H a=some (.ins C dx fs))(c:Cls X.K C)(n:Zfz X.K C f)(hl:fs.length<1000)(ry:Zcl y u)
  (h:∀ s',Inv X pins σ (upd H a (.ins C dx (Zhl f y fs))) s'->Q () s'):wpAny (model X.prog X.w) A (setAttr (.ref a) f u) Q E s:=by
 obtain⟨mA,O,r,wi,_,ho⟩:=Zmq I.hok e
 have hz:(fs.map (·.1)).length<=sizeLine:=by rw[Ya,sizeLine_eq];omega
 refine Z0q I.kIn O c.sa c.po n.taker c.hd wi hz λh' O' sb=>h _ ?_
 have hd:∃ o,h'.get? dx=some o:=let⟨o,_,_,e',_⟩:=O'.ns;⟨o,e'⟩
 refine I.write (x:=a) (e:=dx) (by rw[e];exact True.intro) (.inr ho) (λb q hb z=>(sb.2 b hb).trans z) hd ?_
 refine⟨by rw[Zab O.ne];exact ho,?_,O.ne,O'.obj,_,O'.ns,λg=>?_,λg hg=>?_⟩
 ·have:=Zkb f y fs;omega
 ·show Zo3 ((Zhl f y fs).lookup g) (if g=f then some u else mA g)
  rw[Zas]
  by_cases q:g=f
  ·rw[if_pos q,if_pos q];exact ry
  ·rw[if_neg q,if_neg q];exact r g
 ·by_cases q:g=f
  ·rw[q];exact(Zkd f y fs).1
  ·refine(Zkd f y fs).2 g (wi g λz=>hg ?_)
   show(if g=f then some u else mA g)=none
   rw[if_neg q];exact z
def Inv.made(I:Inv X pins σ H s):Inv X pins σ (upd (upd H s.heap.objs.size (.own (s.heap.objs.size + 1))) (s.heap.objs.size + 1) (.ins C s.heap.objs.size []))
  {s with heap:=(s.heap.push W.emptyDict).push (W.instObj C s.heap.objs.size) }:=by
 have e1:(s.heap.push W.emptyDict).get? s.heap.objs.size=some W.emptyDict:=Ys s.heap rfl
 have e2:((s.heap.push W.emptyDict).push (W.instObj C s.heap.objs.size)).get? (s.heap.objs.size + 1)=some (W.instObj C s.heap.objs.size):=by
  have:=Ys (s.heap.push W.emptyDict) (o:=W.instObj C s.heap.objs.size) rfl
  rwa [Ye2]at this
 have e3:(s.heap.push W.emptyDict).Ns s.heap.objs.size (λ_=>none):=⟨W.emptyDict,#[],_,e1,rfl,(λe he=>absurd he (by simp)),λ_=>rfl⟩
 have I1:=I.laid (a:=s.heap.objs.size) (o:=.own (s.heap.objs.size + 1)) (h':=s.heap.push W.emptyDict) (t':=s.toks) (λb u q=>Yb _ q) (Yd _) ⟨_,e1⟩
 refine I1.laid (a:=s.heap.objs.size + 1) (o:=.ins C s.heap.objs.size []) (t':=s.toks) (λb u q=>Yb _ q) (Nat.le_of_eq (Ye2 _ _)) ?_
 have ne:s.heap.objs.size≠s.heap.objs.size + 1:=Yc1 (Nat.lt_succ_self _)
 refine⟨by rw[Zab ne,uS],Yv _,ne,e2,λ_=>none,(Heap.Ns1.of_empty e3).at λo q=>Yb _ q,λ_=>True.intro,λy hy=>absurd rfl hy⟩
def Zws{prog:Program}{w:World}{env:Env}{e:Expr}{f:Str}{pos:Pos}{s:Shared}{Q:EV}(hb:attributeBase e f env (eval e env)=eval e env)
  (h:wpAny (model prog w) A (eval e env) (λo s₁=>wpAny (model prog w) A (getAttr o f true) Q E s₁) E s):wpAny (model prog w) A (eval (.Attribute e f pos) env) Q E s :=
 Attribute_any_ h (by rw[arm_eval_Attribute,hb])
end
def Z7c(K:Fg)(ta:TE)(f:Str):TE:=λσ H Q=>ta σ H λx H1=>∃ a C dx fs v,x=.ref a/\H1 a=some (.ins C dx fs)/\Cls K C/\Zfz K C f/\fs.lookup f=some v/\Q v H1
def Z9l(K:Fg)(ta tv:TE)(f:Str):TS:=λD σ H=>tv σ H λy H1=>ta σ H1 λx H2=>∃ a C dx fs,x=.ref a/\H2 a=some (.ins C dx fs)/\Cls K C/\Zfz K C f/\fs.length<1000 /\
 D.nx σ (upd H2 a (.ins C dx (Zhl f y fs)))
section
variable {X:Cx}{o e value:Expr}{f:Str}{pos pos' tpos:Pos}{ta tv:TE}
def Zga(he:PE X e ta)(hb:attributeBase e f X.env (eval e X.env)=eval e X.env):PE X (.Attribute e f pos) (Z7c X.K ta f):=by
 ac_rfl
 refine Zws hb (thn (he pins s σ H _ I h) λu s1 ⟨x,H1,I1,rx,a,C,dx,fs,v,ex,ea,c,n,l,q⟩=>?_)
 subst ex
 obtain rfl:u=Value.ref a:=rx
 exact Zsz I1 ea c n l λu' s2 I2 ru=>⟨v,H1,I2,ru,q⟩
def Zja(ha:PE X o ta)(hv:PE X value tv)(hs:swapsWith value (some (.Attribute o f pos')) pos.line X.env=pure false):PS X (.Assign [.Attribute o f pos'] value pos) (Z9l X.K ta tv f):=by
 intro pins s σ H D I h
 refine plainObj_wpAny_Assign_Attribute (thn (hv pins s σ H _ I h) λu s1 ⟨y,H1,I1,ry,q⟩=>thn (ha pins s1 σ H1 _ I1 q) λov s2 ⟨x,H2,I2,rx,a,C,dx,fs,ex,ea,c,n,l,q2⟩=>?_) hs
 subst ex
 obtain rfl:ov=Value.ref a:=rx
 exact Zr6 I2 ea c n l ry λs3 I3=>⟨σ,_,I3,q2⟩
end
section
variable {X:Cx}{pins:PL}{σ:St}{H:Hp}{s:Shared}{A:Around}{E:EV}{Q:EV}{c:Value}{b:Bool}
inductive Zs8(K:Fg)(H:Hp):V->Value->Prop where
 | non:Zs8 K H .non (.type "NoneType")
 | bl (x:Bool):Zs8 K H (.bl x) (.type "bool")
 | int (i:Int):Zs8 K H (.int i) (.type "int")
 | str (x:Str):Zs8 K H (.str x) (.type "str")
 | flt (x:UInt64):Zs8 K H (.flt x) (.type "float")
 | lst {a:Addr} {xs:LV} (e:H a=some (.lst xs)):Zs8 K H (.ref a) (.type "list")
 | frz {a:Addr} {o:Obj} {xs:LV} (e:H a=some (.frz o (.lst xs))):Zs8 K H (.ref a) (.type "list")
 | tup {a:Addr} {xs:LV} (e:H a=some (.tup xs)):Zs8 K H (.ref a) (.type "tuple")
 | dK {a:Addr} {kvs:KL} (e:H a=some (.dK kvs)):Zs8 K H (.ref a) (.type "dict")
 | dT {a:Addr} {kvs:List (List Key×V)} (e:H a=some (.dT kvs)):Zs8 K H (.ref a) (.type "dict")
 | ins {a C dx:Addr} {fs:List (Str×V)} (e:H a=some (.ins C dx fs)) (cl:Cls K C) (ha:W.findIn K (.ref C) "__class__"=some (some (.builtin "object.__class__")))
   (hn:W.specialIn K (.builtin "object.__class__") "__get__"=some (some (.builtin "getset_descriptor.__get__"))) (htk:W.takesIn K (.builtin "object.__class__")=some true)
   (hm:W.mroIn K C (.type "object")=some true):Zs8 K H (.ref a) (.ref C)
def Zvx{x:V}{u t:Value}(I:Inv X pins σ H s)(rx:Zcl x u)(ty:Zs8 X.K H x t)(e:W.kitOne X.K t c=some b)(h:∀ tk,Q (.bool b) {s with toks:=tk}):
  wpAny (model X.prog X.w) A (call (.builtin "isinstance") [u,c]) Q E s:=by
 cases ty with
 | non=>cases(show u=Value.none from rx);exact W.kia_one W.kitx_none I.kIn True.intro e (λz=>nomatch z) h
 | bl y=>cases(show u=Value.bool y from rx);exact W.kia_one W.kitx_bool I.kIn True.intro e (λz=>nomatch z) h
 | int i=>obtain⟨t,q⟩:=(show ∃ t,u=Value.int i t from rx);cases q;exact W.kia_one W.kitx_int I.kIn True.intro e (λz=>nomatch z) h
 | str y=>obtain⟨t,q⟩:=(show ∃ t,u=Value.str y t from rx);cases q;exact W.kia_one W.kitx_str I.kIn True.intro e (λz=>nomatch z) h
 | flt y=>obtain⟨t,q⟩:=(show ∃ t,u=Value.float y t from rx);cases q;exact W.kia_one W.kitx_float I.kIn True.intro e (λz=>nomatch z) h
 | @lst a xs ea =>
  cases(show u=Value.ref a from rx)
  obtain⟨_,_,n,_,h1⟩:=(show Zb6 X.prog X.w H s.heap a (.lst xs)from I.hok a _ ea)
  exact W.kia_one W.kitx_list I.kIn ⟨_,h1,rfl⟩ e (λz=>nomatch z) h
 | @frz a ob xs ea =>
  cases(show u=Value.ref a from rx)
  obtain⟨_,_,_,n,_,h1⟩:=(show Zb6 X.prog X.w H s.heap a (.frz ob (.lst xs))from I.hok a _ ea)
  exact W.kia_one W.kitx_list I.kIn ⟨_,h1,rfl⟩ e (λz=>nomatch z) h
 | @tup a xs ea =>
  cases(show u=Value.ref a from rx)
  obtain⟨_,_,_,p⟩:=(show Zb6 X.prog X.w H s.heap a (.tup xs)from I.hok a _ ea)
  obtain⟨o,h1,h2,_⟩:=p
  exact W.kia_one W.kitx_tuple I.kIn ⟨o,h1,h2⟩ e (λz=>nomatch z) h
 | @dK a kvs ea =>
  cases(show u=Value.ref a from rx)
  obtain⟨_,_,vs,_,p⟩:=(show Zb6 X.prog X.w H s.heap a (.dK kvs)from I.hok a _ ea)
  obtain⟨o,es,ep,h1,h2,_⟩:=p
  exact W.kia_one W.kitx_dict I.kIn ⟨o,h1,h2.1⟩ e (λz=>nomatch z) h
 | @dT a kvs ea =>
  cases(show u=Value.ref a from rx)
  obtain⟨_,_,xs,_,o,es,ep,h1,h2,_⟩:=(show Zb6 X.prog X.w H s.heap a (.dT kvs)from I.hok a _ ea)
  exact W.kia_one W.kitx_dict I.kIn ⟨o,h1,h2.1⟩ e (λz=>nomatch z) h
 | @ins a C dx fs ea cl ha hn htk hm =>
  cases(show u=Value.ref a from rx)
  obtain⟨mA,O,_⟩:=Zmq I.hok ea
  obtain⟨od,J,_⟩:=O.look
  exact W.kia_one (W.kitx_own (cl.get _) cl.hd ha hn htk hm) I.kIn J e (λz=>nomatch z) h
end
structure Zcb(k:Nat)(A:Around):Prop where
 hd:A.handled=none
 dp:A.depth + 3 * k + 5<recursionLimit
 un:A.units + 16 * k + 200<cLine
 gd:A.guards=some []
def Zcb.mono{j k:Nat}{A:Around}(r:Zcb k A)(h:j<=k):Zcb j A:=⟨r.hd,by have:=r.dp;omega,by have:=r.un;omega,r.gd⟩
theorem Zcb.deeper{k:Nat}{A:Around}(r:Zcb (k + 1) A)(env:Env):Zcb k (A.deeper env):=
 ⟨r.hd,by have:=r.dp;show A.depth + 1 + 3 * k + 5<_;omega,by have:=r.un;show A.units + 3 + 16 * k + 200<_;omega,r.gd⟩
def Zss{A:Around}{C:Addr}{us:LU}{kw:List (Str×Value)}:(A.under (.builtin "type.__call__" ⟨.ref C :: us,kw⟩)).depth=A.depth + 1:=by
 first | rfl | simp[Around.under,Code.weight,Code.isCreation,Code.isGuard,Code.isCaller,Code.frames,Code.isFrame,guardIds]
def Zsr{A:Around}{C:Addr}{us:LU}{kw:List (Str×Value)}:(A.under (.builtin "type.__call__" ⟨.ref C :: us,kw⟩)).units=A.units + 1:=by
 first | rfl | simp[Around.under,Code.cUnits,Code.frames,Code.isFrame]
def Zcb.make{k:Nat}{A:Around}(r:Zcb (k + 1) A)(C:Addr)(us:LU)(kw:List (Str×Value)):Zcb k (A.under (.builtin "type.__call__" ⟨.ref C :: us,kw⟩)):=
 ⟨r.hd,by have:=r.dp;rw[Zss];omega,by have:=r.un;rw[Zsr];omega,by first | exact r.gd | simpa[Around.under,Code.guards,Code.isGuard,guardIds,pushGuards]using r.gd⟩
theorem Zcb.depth{k:Nat}{A:Around}(r:Zcb k A):A.depth<recursionLimit:=by have:=r.dp;omega
theorem Zcb.units{k:Nat}{A:Around}(r:Zcb k A):A.units + 64<cLine:=by have:=r.un;omega
def Z5g:TA:=λ_ H Q=>Q [] H
def Z0l(ta:TE)(tr:TA):TA:=λσ H Q=>ta σ H λx H1=>tr σ H1 λxs H2=>Q (x :: xs) H2
section
variable {X:Cx}{e:Expr}{es:List Expr}{te:TE}{t:TA}{pos:Pos}
def Zaa:PA X [] Z5g:=λ_ _ _ _ H Q I h=>Calls.spliced_nil ⟨[],H,I,.nil,h⟩
def pC(ha:PE X e te)(hr:PA X es t)(hs:starEach (e :: es) X.env=(false,eval e X.env):: starEach es X.env:=by rfl):PA X (e :: es) (Z0l te t):=by
 intro pos pins s σ H Q I h
 rw[hs]
 show wpAny _ _ (spliced ((false,eval e X.env):: backTo pos (starEach es X.env))) _ _ s
 refine Calls.spliced_cons (thn (ha pins s σ H _ I h) λu s1 ⟨x,H1,I1,r1,q1⟩=>?_)
 exact thn (hr pos pins s1 σ H1 _ I1 q1) λus s2 ⟨xs,H2,I2,r2,q2⟩=>⟨x :: xs,H2,I2,.cons r1 r2,q2⟩
def Z5f(t:TA):TE:=λσ H Q=>t σ H λxs H1=>xs.length<=sizeLine/\∀ p,H1 p=none->Q (.ref p) (upd H1 p (.tup xs))
def Z8u(t:TA):TE:=λσ H Q=>t σ H λxs H1=>xs.length<=sizeLine/\∀ p,H1 p=none->Q (.ref p) (upd H1 p (.lst xs))
def Zbi{x1}(h:PA X es t):PE X (.Tuple es x1 pos) (Z5f t):=by
 intro pins s σ H Q I hq
 refine wpAny_Tuple_spliced (thn (h pos pins s σ H _ I hq) λus s1 ⟨xs,H1,I1,r,z,q⟩=>⟨by rw[<- r.length];exact z,?_⟩)
 have hf:H1 s1.heap.objs.size=none:=I1.hok.fresh (Yd _)
 refine⟨.ref s1.heap.objs.size,upd H1 s1.heap.objs.size (.tup xs),I1.laid (t':=s1.toks) (λb u e=>Yb _ e) (Yd _) ?_,rfl,q _ hf⟩
 exact⟨z,us,r,⟨_,Ys _ rfl,rfl,_,rfl⟩⟩
def Zbj(h:PA X es t):PE X (.List es pos) (Z8u t):=by
 intro pins s σ H Q I hq
 refine wpAny_List_spliced (thn (h pos pins s σ H _ I hq) λus s1 ⟨xs,H1,I1,r,z,q⟩=>⟨by rw[<- r.length];exact z,?_⟩)
 have hf:H1 s1.heap.objs.size=none:=I1.hok.fresh (Yd _)
 refine⟨.ref s1.heap.objs.size,upd H1 s1.heap.objs.size (.lst xs),I1.laid (t':=s1.toks) (λb u e=>Yb _ e) (Yd _) ?_,rfl,q _ hf⟩
 exact⟨z,us,0,r,Ys _ rfl⟩
end
abbrev Sp:=LV->Hp->VK->XK->Prop
abbrev CXT:=List Env->Hp->Shared->XK->Value->Shared->Prop
structure Env0(P:Program)(w:World)(K:Fg)(mg:Str->OU)(base:Heap)(A:Around)(outer:List Env)(s:Shared)(H:Hp):Prop where
 frames:A.frames=some outer
 mod:Mod K mg base
 bs:∀ b o,base.get? b=some o->s.heap.get? b=some o/\H b=none
 bsz:base.objs.size<=s.heap.objs.size
 funs:s.heap.FunFrames base outer
 frf:∀ b∈frs outer,H b=none
 hok:HOk P w H s.heap
 bare:AllBare s.gens
def CE(outer:List Env)(P:Program)(w:World)(H:Hp)(s:Shared)(Q:VK)(u:Value)(s':Shared):Prop :=
 ∃ v H',s'.os=s.os/\AllBare s'.gens/\Un (frs outer) [] H H' s.heap s'.heap/\HOk P w H' s'.heap/\Zcl v u/\Q v H'
def CR(CX:CXT)(outer:List Env)(P:Program)(w:World)(H:Hp)(s:Shared)(Q:VK)(E:XK)(r:Result)(s':Shared):Prop :=
 match r with
 | .ok (.ret u)=>CE outer P w H s Q u s'
 | .ok _=>False
 | .error e=>CX outer H s E e s'
structure Zap(P:Program)(w:World)(K:Fg)(mg:Str->OU)(base:Heap)(CX:CXT)(k:Nat)(f:Addr)(fd:FuncData)(ps:LS)(sp:Sp):Prop where
 len:∀ vs H Q E,sp vs H Q E->vs.length=ps.length
 run:∀(A:Around) (outer:List Env) (s:Shared) (H:Hp) (args:Args) (us:LU) (vs:LV) (Q:VK) (E:XK),Zcb k A->Env0 P w K mg base A outer s H->BindsTo s fd args (ps.zip us)->Zb0 vs us->sp vs H Q E ->
  codeAny (model P w) A (.call (.ref f) args) (CR CX outer P w H s Q E) s
def Env0.make{P:Program}{w:World}{K:Fg}{mg:Str->OU}{base:Heap}{A:Around}{outer:List Env}{s:Shared}{H:Hp}(e:Env0 P w K mg base A outer s H)(C:Addr)(us:LU)(kw:List (Str×Value)):
  Env0 P w K mg base (A.under (.builtin "type.__call__" ⟨.ref C :: us,kw⟩)) outer s H:=⟨by first | exact e.frames | (simpa[Around.under,Code.envs,Code.isFrame,pushEnvs]using e.frames),e.mod,e.bs,e.bsz,e.funs,e.frf,e.hok,e.bare⟩
section
variable {X:Cx}{pins:PL}{σ:St}{H:Hp}{s s':Shared}
def Inv.env0(I:Inv X pins σ H s):Env0 X.prog X.w X.K X.mg X.base X.A X.stack s H :=
 ⟨I.ok.frames,I.ok.mod,I.bs,Yx I.ok.bsz I.sz,I.stack,I.stkFree,I.hok,I.bare⟩
def Inv.after{Q:VK}{u:Value}(I:Inv X pins σ H s)(h:CE X.stack X.prog X.w H s Q u s'):EP X pins σ Q u s':=by
 obtain⟨v,H',os,bare,un,hok,r,q⟩:=h
 obtain⟨hh,g,d,t,os'⟩:=s'
 obtain rfl:os'=s.os:=os
 exact⟨v,H',I.call (h':=hh) (g':=g) (d':=d) (t':=t) (ch:=[]) un hok bare (λb z=>absurd z (by simp)),r,q⟩
end
def Z3b(sp:Sp)(dvs:LV)(E:XK)(t:TA):TE:=λσ H Q=>t σ H λvs H1=>sp (vs++dvs) H1 Q E
def Z28(C:Addr)(m:Str)(sp:Sp)(dvs:LV)(E:XK)(ta:TE)(t:TA):TE:=λσ H Q=>ta σ H λx H1=>∃ a dx fs,x=.ref a/\H1 a=some (.ins C dx fs)/\fs.lookup m=none /\
 t σ H1 λvs H2=>sp (x :: (vs++dvs)) H2 Q E
def Z5y(C:Addr)(sp:Sp)(dvs:LV)(E:XK)(t:TA):TE:=λσ H Q=>t σ H λvs H1=>∀ x dx,H1 x=none->H1 dx=none->dx≠x ->
 sp (.ref x :: (vs++dvs)) (upd (upd H1 dx (.own x)) x (.ins C dx [])) (λv H2=>v=.non/\Q (.ref x) H2) E
def Zeh(K:Fg)(fd:FuncData)(ps:LS)(ds:LU):Prop :=
 ∀(s:Shared) (us:LU),K.In s.heap->(us++ds).length=ps.length->BindsTo s fd ⟨us,[]⟩ (ps.zip (us++ds))
def Zeh.all{K:Fg}{ps:LS}(h:∀ us:LU,us.length=ps.length->bindArgs fd ⟨us,[]⟩=pure (ps.zip us)):Zeh K fd ps []:=λs us _ hl=>by
 rw[Yn1]at hl ⊢
 exact .of_eq (h us hl)
def Zjj(CX:CXT)(X:Cx)(E:XK):Prop:=∀(pins:PL) (σ:St) (H:Hp) (s:Shared) (e:Value) (s':Shared),Inv X pins σ H s->CX X.stack H s E e s'->X.xe e s'
section
variable {X:Cx}{CX:CXT}{k:Nat}{f C:Addr}{fd:FuncData}{ps:LS}{sp:Sp}{dvs:LV}{ds:LU}{E:XK}{x m:Str}{p pos apos:Pos}{e o:Expr}{es:List Expr}{ta:TE}{t:TA}
def Zue{pins:PL}{σ:St}{H:Hp}{s:Shared}{Q:VK}{us:LU}{vs:LV}(F:Zap X.prog X.w X.K X.mg X.base CX k f fd ps sp)(hr:Zcb k X.A)(hb:Zeh X.K fd ps ds)(hd:Zb0 dvs ds)(hx:Zjj CX X E)
  (I:Inv X pins σ H s) (r:Zb0 vs us) (h:sp (vs++dvs) H Q E):wpAny (model X.prog X.w) X.A (call (.ref f) us) (EP X pins σ Q) X.xe s:=by
 have r2:Zb0 (vs++dvs) (us++ds):=r.append hd
 have hl:(us++ds).length=ps.length:=by rw[<- r2.length];exact F.len _ _ _ _ h
 refine wpAny_call (codeAny_mono (F.run X.A X.stack s H ⟨us,[]⟩ (us++ds) (vs++dvs) Q E hr I.env0 (hb s us I.kIn hl) r2 h) λr s' hq=>?_)
 cases r with
 | error e=>exact hx pins σ H s e s' I hq
 | ok fl =>
  cases fl with
  | ret u=>exact I.after hq
  | next=>exact False.elim hq
  | brk=>exact False.elim hq
  | cont=>exact False.elim hq
def Ziz(F:Zap X.prog X.w X.K X.mg X.base CX k f fd ps sp)(hr:Zcb k X.A)(hg:Gl X x)(hm:X.mg x=some (.ref f))(hk:W.keepIn X.K (.ref f)=true)(hb:Zeh X.K fd ps ds)(hd:Zb0 dvs ds)(hx:Zjj CX X E)
  (ha:PA X (e :: es) t) (hdb:(x == ("__debug__":Str))=false:=by decide) (he:starEach (e :: es) X.env=(false,eval e X.env):: starEach es X.env:=by rfl) (hpl:(backTo pos (starEach es X.env)).any (·.1)=false:=by rfl):
  PE X (.Call (.Name x p) (e :: es) [] pos) (Z3b sp dvs E t):=by
 ac_rfl
 refine wpAny_Call_Name_kw (Zha I hg hm ?_ hdb)
 refine W.callWith_K (h₀:=X.base) I.ok.mod.kin hk (thn (ha pos pins s σ H _ I h) λus s1 ⟨vs,H1,I1,r,q⟩=>⟨I1.kIn,?_⟩) he hpl
 exact Zue F hr hb hd hx I1 r q
def Zcs{pl:Sem Bool}(he:PE X o ta)(c:Cls X.K C)(hm:Z5p X.K C m f)(F:Zap X.prog X.w X.K X.mg X.base CX k f fd ps sp)(hr:Zcb k X.A)(hb:Zeh X.K fd ps ds)(hd:Zb0 dvs ds)(hx:Zjj CX X E)(ha:PA X (e :: es) t)
  (hst:starEach (e :: es) X.env=(false,eval e X.env):: starEach es X.env:=by rfl) (hpl:(backTo pos (starEach es X.env)).any (·.1)=false:=by rfl)
  (ht:eval (.Call (.Attribute o m apos) (e :: es) [] pos) X.env=(do
   let ov <- eval o X.env
   standAt apos.atName
   let(f,first) <- holding [ov] (getMethod ov m pl)
   callWith pos f first (backTo pos (starEach (e :: es) X.env)) (backToKw pos (keywordEach [] X.env))):=by rfl):
  PE X (.Call (.Attribute o m apos) (e :: es) [] pos) (Z28 C m sp dvs E ta t):=by
 ac_rfl
 refine W.methodCall_KW (pl:=pl) (thn (he pins s σ H _ I h) λu s1 ⟨x,H1,I1,rx,a,dx,fs,ex,ea,l,q⟩=>?_) ht
 subst ex
 obtain rfl:u=Value.ref a:=rx
 refine Zlj I1 ea c hm l ?_
 refine W.callWith_K (first:=[.ref a]) (h₀:=X.base) I.ok.mod.kin hm.kp (thn (ha pos pins s1 σ H1 _ I1 q) λus s2 ⟨vs,H2,I2,r,q2⟩=>⟨I2.kIn,?_⟩) hst hpl
 exact Zue (us:=.ref a :: us) (vs:=.ref a :: vs) F hr hb hd hx I2 (.cons rfl r) q2
def Zdb{pl:Sem Bool}(he:PE X o ta)(c:Cls X.K C)(hm:Z5p X.K C m f)(F:Zap X.prog X.w X.K X.mg X.base CX k f fd ps sp)(hr:Zcb k X.A)(hb:Zeh X.K fd ps ds)(hd:Zb0 dvs ds)(hx:Zjj CX X E)
  (ht:eval (.Call (.Attribute o m apos) [] [] pos) X.env=(do
   let ov <- eval o X.env
   standAt apos.atName
   let(f,first) <- holding [ov] (getMethod ov m pl)
   callWith pos f first (backTo pos (starEach [] X.env)) (backToKw pos (keywordEach [] X.env))):=by rfl):
  PE X (.Call (.Attribute o m apos) [] [] pos) (Z28 C m sp dvs E ta Z5g):=by
 ac_rfl
 refine W.methodCall_KW (pl:=pl) (thn (he pins s σ H _ I h) λu s1 ⟨x,H1,I1,rx,a,dx,fs,ex,ea,l,q⟩=>?_) ht
 subst ex
 obtain rfl:u=Value.ref a:=rx
 refine Zlj I1 ea c hm l ?_
 exact W.callWith_K0 (first:=[.ref a]) I1.kIn hm.kp (Zue (us:=[.ref a]) (vs:=[.ref a]) F hr hb hd hx I1 (.cons rfl .nil) q)
structure Mk(K:Fg)(C f:Addr):Prop where
 makes:W.makesIn K C=true
 init:W.findIn K (.ref C) "__init__"=some (some (.ref f))
 fn:W.isFn K (.ref f)=true
 kp:W.keepIn K (.ref C)=true
def Zxh{pins:PL}{σ:St}{H:Hp}{s:Shared}{Q:VK}{us:LU}{vs:LV}(M:Mk X.K C f)(F:Zap X.prog X.w X.K X.mg X.base CX k f fd ps sp)(hr:Zcb (k + 1) X.A)(hb:Zeh X.K fd ps ds)(hd:Zb0 dvs ds)
  (hx:Zjj CX X E) (I:Inv X pins σ H s) (r:Zb0 vs us)
  (h:∀ x dx,H x=none->H dx=none->dx≠x->sp (.ref x :: (vs++dvs)) (upd (upd H dx (.own x)) x (.ins C dx [])) (λv H2=>v=.non/\Q (.ref x) H2) E):
  wpAny (model X.prog X.w) X.A (call (.ref C) us) (EP X pins σ Q) X.xe s:=by
 have hq:=h (s.heap.objs.size + 1) s.heap.objs.size (I.hok.fresh (Yp3 _)) (I.hok.fresh (Yd _)) (Yc1 (Nat.lt_succ_self _))
 have I2:=Inv.made (C:=C) I
 have r2:Zb0 (V.ref (s.heap.objs.size + 1):: (vs++dvs)) (Value.ref (s.heap.objs.size + 1):: (us++ds)):=.cons rfl (r.append hd)
 have hl:(Value.ref (s.heap.objs.size + 1):: us++ds).length=ps.length:=by
  have e:=r2.length
  rw[F.len _ _ _ _ hq]at e
  exact e.symm
 refine wpAny_call (Zye (f:=f) I.kIn M.makes M.init (beq_iff_eq.mp M.fn) (codeAny_mono (F.run _ X.stack _ _ ⟨Value.ref (s.heap.objs.size + 1):: us,[]⟩ (Value.ref (s.heap.objs.size + 1):: (us++ds)) _ _ E (hr.make C us [])
  (I2.env0.make C us []) (hb _ (Value.ref (s.heap.objs.size + 1):: us) I2.kIn hl) r2 hq) λr s' hq'=>?_))
 cases r with
 | error e=>exact hx pins σ _ _ e s' I2 hq'
 | ok fl =>
  cases fl with
  | ret u =>
   obtain⟨v,H',I3,rv,ev,q3⟩:=I2.after hq'
   subst ev
   exact⟨rv,⟨V.ref (s.heap.objs.size + 1),H',I3,rfl,q3⟩⟩
  | next=>exact False.elim hq'
  | brk=>exact False.elim hq'
  | cont=>exact False.elim hq'
def Zpl(M:Mk X.K C f)(F:Zap X.prog X.w X.K X.mg X.base CX k f fd ps sp)(hr:Zcb (k + 1) X.A)(hg:Gl X x)(hm:X.mg x=some (.ref C))(hb:Zeh X.K fd ps ds)(hd:Zb0 dvs ds)(hx:Zjj CX X E)
  (ha:PA X (e :: es) t) (hdb:(x == ("__debug__":Str))=false:=by decide) (he:starEach (e :: es) X.env=(false,eval e X.env):: starEach es X.env:=by rfl) (hpl:(backTo pos (starEach es X.env)).any (·.1)=false:=by rfl):
  PE X (.Call (.Name x p) (e :: es) [] pos) (Z5y C sp dvs E t):=by
 ac_rfl
 refine wpAny_Call_Name_kw (Zha I hg hm ?_ hdb)
 refine W.callWith_K (h₀:=X.base) I.ok.mod.kin M.kp (thn (ha pos pins s σ H _ I h) λus s1 ⟨vs,H1,I1,r,q⟩=>⟨I1.kIn,?_⟩) he hpl
 exact Zxh M F hr hb hd hx I1 r q
end
section
variable {X:Cx}{CX:CXT}{k:Nat}{f C:Addr}{fd:FuncData}{ps ks:LS}{sp:Sp}{E:XK}{x m:Str}{p pos apos kpos:Pos}{e o:Expr}{es:List Expr}{kws:List Keyword}{te ta:TE}{t tk:TA}{nm:Option Str}
structure Z8o(K:Fg)(fd:FuncData)(ps ks:LS)(g:LU->LU->LU)(gV:LV->LV->LV):Prop where
 to:∀(s:Shared) (us ws:LU),K.In s.heap->(g us ws).length=ps.length->BindsTo s fd ⟨us,ks.zip ws⟩ (ps.zip (g us ws))
 rel:∀ {vs:LV} {us:LU} {zs:LV} {ws:LU},Zb0 vs us->Zb0 zs ws->Zb0 (gV vs zs) (g us ws)
variable {g:LU->LU->LU}{gV:LV->LV->LV}
end
structure Zak(N P:LS)(sc:Scope):Prop where
 kind:sc.kind=.function
 co:sc.isCoroutine=false
 gen:sc.isGenerator=false
 nd:N.Nodup
 pre:N.take P.length=P
 par:∀ x∈P,sc.names.lookup x=some .local\/sc.names.lookup x=some .cell
 nofree:∀ y∈sc.names,y.2≠.free
theorem Zov{kindOf:Str->Option NameKind}{x:Str}:∀ {binds:List (Str×Value)}{m:Str->OU},(∀ v,(x,v)∉binds)->bindL kindOf binds m x=m x
 | [],_,_=>rfl
 | (n,v):: r,m,h=>by
  unfold bindL
  rw[Zov λw hw=>h w (Yz1 _ hw)]
  split
  ·have:x≠n:=by rintro rfl;exact h v Yp2
   simp[this]
  ·rfl
theorem Zox{kindOf:Str->Option NameKind}{x:Str}:∀ {binds:List (Str×Value)}{m:Str->OU},(∀ v,(x,v)∉binds)->bindC kindOf binds m x=m x
 | [],_,_=>rfl
 | (n,v):: r,m,h=>by
  unfold bindC
  rw[Zox λw hw=>h w (Yz1 _ hw)]
  split
  ·rfl
  ·have:x≠n:=by rintro rfl;exact h v Yp2
   simp[this]
theorem Zow{kindOf:Str->Option NameKind}{x:Str}{v:Value}:∀ {P:LS}{vs:LU}{i:Nat}{m:Str->OU},P.Nodup->P[i]?=some x->vs[i]?=some v->kindOf x=some .local ->
  bindL kindOf (P.zip vs) m x=some v
 | [],_,_,_,_,h,_,_=>by simp at h
 | _ :: _,[],_,_,_,_,h,_=>by simp at h
 | p :: P,w :: vs,0,m,nd,h1,h2,hk=>by
  simp at h1 h2;subst h1;subst h2
  show bindL kindOf ((p,w):: P.zip vs) m p=_
  unfold bindL
  rw[Zov λv hv=>(Ys1.mp nd).1 (Yf4 hv).1,if_pos hk]
  simp
 | p :: P,w :: vs,i + 1,m,nd,h1,h2,hk=>by
  show bindL kindOf ((p,w):: P.zip vs) m x=_
  unfold bindL
  exact Zow (i:=i) (Ys1.mp nd).2 (by simpa using h1) (by simpa using h2) hk
theorem Zoy{kindOf:Str->Option NameKind}{x:Str}{v:Value}:∀ {P:LS}{vs:LU}{i:Nat}{m:Str->OU},P.Nodup->P[i]?=some x->vs[i]?=some v->kindOf x≠some .local ->
  bindC kindOf (P.zip vs) m x=some v
 | [],_,_,_,_,h,_,_=>by simp at h
 | _ :: _,[],_,_,_,_,h,_=>by simp at h
 | p :: P,w :: vs,0,m,nd,h1,h2,hk=>by
  simp at h1 h2;subst h1;subst h2
  show bindC kindOf ((p,w):: P.zip vs) m p=_
  unfold bindC
  rw[Zox λv hv=>(Ys1.mp nd).1 (Yf4 hv).1,if_neg hk]
  simp
 | p :: P,w :: vs,i + 1,m,nd,h1,h2,hk=>by
  show bindC kindOf ((p,w):: P.zip vs) m x=_
  unfold bindC
  exact Zoy (i:=i) (Ys1.mp nd).2 (by simpa using h1) (by simpa using h2) hk
def start(N:LS)(vs:LV):St:=vs.map some++List.replicate (N.length - vs.length) none
def Z0b(CX:CXT)(P:Program)(w:World)(K:Fg)(mg:Str->OU)(base:Heap)(N:LS)(qual:Str)(scope:Scope)(f:Addr)(cd:Value)(A:Around)(outer:List Env)(s:Shared)(H:Hp)(E:XK):Cx where
 prog:=P
 w:=w
 K:=K
 mg:=mg
 base:=base
 A:=A.deeper (envOfC qual scope s.heap.objs.size f cd)
 N:=N
 s₀:=s
 H₀:=H
 env:=envOfC qual scope s.heap.objs.size f cd
 outer:=outer
 stack:=envOfC qual scope s.heap.objs.size f cd :: outer
 ex:=[]
 calm:=true
 fn:=λ_=>true
 pn:=[]
 xe:=λe s'=>wpAny (model P w) (A.deeper (envOfC qual scope s.heap.objs.size f cd)) (leaving (envOfC qual scope s.heap.objs.size f cd) e) (λ_ s''=>CX outer H s E e s'') (λe' s''=>CX outer H s E e' s'') s'
def Zrt{sc:Scope}{n:Nat}{x:Str}(h:sc.names.lookup x=some .cell):∃ c,(cellsFrom n sc.names []).lookup x=some c:=by
 have q:=W.cellsFrom_some sc.names n [] (.inl h)
 exact Yi4.mp q
def Zvy{CX:CXT}{P:Program}{w:World}{K:Fg}{mg:Str->OU}{base:Heap}{N ps:LS}{qual:Str}{scope:Scope}{f:Addr}{cd:Value}{A:Around}{outer:List Env}{s s1:Shared}{H:Hp}{E:XK}{us:LU}{vs:LV}
  (S:Zak N ps scope) (hd:A.handled=none) (e0:Env0 P w K mg base A outer s H) (hl:vs.length=ps.length) (r:Zb0 vs us)
  (x:InCallC s s.heap.objs.size (bindL (envOfC qual scope s.heap.objs.size f cd).kindOf (ps.zip us) λ_=>none) (cellsFrom (s.heap.objs.size + 1) scope.names []) (bindC (envOfC qual scope s.heap.objs.size f cd).kindOf (ps.zip us) λ_=>none) s1):
  Inv (Z0b CX P w K mg base N qual scope f cd A outer s H E) [] (start N vs) H s1:=by
 have hpl:ps.length<=N.length:=by have:=congrArg List.length S.pre;rw[Yd1]at this;omega
 obtain⟨h1,tk,rfl,hk⟩:=x.done
 have noA:∀ b:Addr,b∉(Z0b CX P w K mg base N qual scope f cd A outer s H E).ex:=λb z=>absurd (show b∈([]:List Addr)from z) (by simp)
 refine⟨⟨e0.mod,S.kind,rfl,rfl,Yd _,λy z c h1 h2=>?_,λy hy=>?_,λy c _ h=>?_,λ_=>hd,Around.frames_deeper e0.frames,.inr ⟨rfl,rfl⟩,λb z=>absurd z (noA b),e0.bs,e0.bsz,λb _ _=>noA b,λb z=>absurd z (noA b),e0.funs,e0.frf⟩,
  rfl,e0.bare,Un.kept hk,⟨_,x.toInCall.ns,λi y v h1 h2 h3=>?_⟩,λy c h=>⟨_,x.cell y c h⟩,e0.hok.fresh (Yd _),λy c h=>?_,λp hp=>absurd (show p∈([]:PL)from hp) (by simp),e0.hok.kept hk,?_⟩
 ·exact name_of_addr x.apart (Ym2 h1) (Ym2 h2)
 ·have hy:scope.names.lookup y=some .cell\/scope.names.lookup y=some .free:=hy
  rcases hy with hy | hy
  ·exact Zrt hy
  ·exact absurd rfl (S.nofree _ (Ym2 hy))
 ·exact Nat.le_of_lt (x.above y c (Ym2 h))
 ·have hi:i<vs.length:=by
   unfold start at h2
   by_cases hi:i<vs.length
   ·exact hi
   ·rw[Yu2 (by simpa using hi)]at h2
    rw[List.getElem?_replicate]at h2
    split at h2 <;> cases h2
  have ha:vs[i]?=some v:=by
   unfold start at h2
   rw[Yg4 (by simpa using hi),Yp]at h2
   cases e:vs[i]? with
   | none=>rw[e]at h2;cases h2
   | some a=>rw[e]at h2;cases h2;rfl
  obtain⟨u,hu,rv⟩:=r.get ha
  have hp:ps[i]?=some y:=by
   rw[<- S.pre,List.getElem?_take_of_lt (by omega)];exact h1
  have ndP:ps.Nodup:=by rw[<- S.pre];exact S.nd.sublist (List.take_sublist _ _)
  refine⟨u,rv,?_⟩
  rcases S.par y (Yf hp)with k | k
  ·exact .inl ⟨k,Zow ndP hp hu k⟩
  ·obtain⟨c,e⟩:=Zrt (n:=s.heap.objs.size + 1) k
   refine .inr ⟨.inl k,c,e,?_⟩
   have q:=x.cell y c e
   rw[Zoy ndP hp hu (by show scope.names.lookup y≠_;rw[k];decide)]at q
   exact q
 ·exact e0.hok.fresh (Nat.le_of_lt (x.above y c (Ym2 h)))
 ·unfold start
  show _=N.length
  rw[Yi,Ya,Yv3]
  omega
def Z40{CX:CXT}{P:Program}{w:World}{K:Fg}{mg:Str->OU}{base:Heap}{k:Nat}{f:Addr}{name qual:Str}{params:Arguments}{body:List Stmt}{scope:Scope}{dV kV doc pm cdv ct oc:Value}{an od:Option Addr}
  {osl:Array (OU)} {N ps:LS} {sp:Sp} (lk:K.lookup f=some ⟨oc,od,.func (W.fnOf name qual params body scope dV kV doc pm an cdv ct),osl⟩) (hcd:W.codeIn K cdv qual=true) (S:Zak N ps scope)
  (len:∀ vs H Q E,sp vs H Q E->vs.length=ps.length)
  (hbody:∀(A:Around) (outer:List Env) (s:Shared) (H:Hp) (vs:LV) (Q:VK) (E:XK),Zcb k (A.deeper (envOfC qual scope s.heap.objs.size f cdv))->sp vs H Q E ->
   ∃ t,PSs (Z0b CX P w K mg base N qual scope f cdv A outer s H E) body t/\t {nx:=λ_ H'=>Q .non H',rt:=Q} (start N vs) H):
  Zap P w K mg base CX (k + 1) f (W.fnOf name qual params body scope dV kV doc pm an cdv ct) ps sp:=by
 refine⟨len,λA outer s H args us vs Q E hr e0 hb r hsp=>?_⟩
 have hl:=len _ _ _ _ hsp
 have KX:K.In s.heap:=e0.mod.kin.keeps λb o e=>(e0.bs b o e).1
 have lim:s.heap.NoLimit:=e0.mod.nolimit.keeps λb o e=>(e0.bs b o e).1
 have hkind:∀ y∈ps.zip us,scope.names.lookup y.1=some .local\/(scope.names.lookup y.1=some .cell/\((cellsFrom (s.heap.objs.size + 1) scope.names []).lookup y.1).isSome=true):=λ⟨n,v⟩ hy=>by
  rcases S.par n (Yf4 hy).1 with q | q
  ·exact .inl q
  ·exact .inr ⟨q,W.cellsFrom_some _ _ _ (.inl q)⟩
 refine codeAny_call_function hr.depth (KX _ _ lk) rfl S.co S.gen rfl (W.codeRec_of KX hcd) (hb _ _ _ _ ?_)
 refine wpAny_newFunctionEnv_cells S.kind hkind λenv he s1 x=>?_
 subst he
 refine⟨lim.keeps x.toInCall.keep,codeAny_func ?_⟩
 obtain⟨t,ht,hq⟩:=hbody A outer s H vs Q E (hr.deeper _) hsp
 have I:Inv (Z0b CX P w K mg base N qual scope f cdv A outer s H E) [] (start N vs) H s1:=Zvy S hr.hd e0 hl r x
 refine Jf (ht [] s1 (start N vs) H _ I hq) (λfl s' hs=>?_) λe s' hs=>hs
 have fin:∀ {σ':St} {H':Hp} {v:V} {u:Value},Inv (Z0b CX P w K mg base N qual scope f cdv A outer s H E) [] σ' H' s'->Zcl v u->Q v H'->CE outer P w H s Q u s' :=
  λ{σ' H' v u} J rv q=>⟨v,H',J.os,J.bare,J.base,J.hok,rv,q⟩
 cases fl with
 | ret u =>
  obtain⟨v,σ',H',J,rv,q⟩:=hs
  exact fin J rv q
 | next =>
  obtain⟨σ',H',J,q⟩:=hs
  exact fin (v:=V.non) (u:=Value.none) J rfl q
 | brk =>
  obtain⟨_,_,_,q⟩:=hs
  exact False.elim q
 | cont =>
  obtain⟨_,_,_,q⟩:=hs
  exact False.elim q
section
variable {X:Cx}{x:Str}{p pos:Pos}{e:Expr}{es:List Expr}{t:TA}{id T:String}{r:LV->Hp->VK->Prop}
def tCB(r:LV->Hp->VK->Prop)(t:TA):TE:=λσ H Q=>t σ H λvs H1=>r vs H1 Q
def Zam(hc:Zi6 X (.builtin id) r)(hg:Gl X x)(hm:X.mg x=none)(hv:bootBuiltins x=some (.builtin id))(ha:PA X (e :: es) t)(hn:x≠"__name__":=by decide)(hdb:(x == ("__debug__":Str))=false:=by decide)
  (he:starEach (e :: es) X.env=(false,eval e X.env):: starEach es X.env:=by rfl) (hpl:(backTo pos (starEach es X.env)).any (·.1)=false:=by rfl):PE X (.Call (.Name x p) (e :: es) [] pos) (tCB r t):=by
 ac_rfl
 refine wpAny_Call_Name_kw (Zip I hg hm hv ?_ hn hdb)
 exact PyProof.Rows.callWith_builtin1 (thn (ha pos pins s σ H _ I h) λus s1 ⟨vs,H1,I1,r1,q1⟩=>hc pins s1 σ H1 vs us Q I1 r1 q1) he hpl
def Zbd(hc:Zi6 X (.type T) r)(hg:Gl X x)(hm:X.mg x=none)(hv:bootBuiltins x=some (.type T))(ha:PA X (e :: es) t)(hn:x≠"__name__":=by decide)(hdb:(x == ("__debug__":Str))=false:=by decide)
  (he:starEach (e :: es) X.env=(false,eval e X.env):: starEach es X.env:=by rfl) (hpl:(backTo pos (starEach es X.env)).any (·.1)=false:=by rfl):PE X (.Call (.Name x p) (e :: es) [] pos) (tCB r t):=by
 ac_rfl
 refine wpAny_Call_Name_kw (Zip I hg hm hv ?_ hn hdb)
 exact Yc2 (thn (ha pos pins s σ H _ I h) λus s1 ⟨vs,H1,I1,r1,q1⟩=>hc pins s1 σ H1 vs us Q I1 r1 q1) he hpl
end
end L2
namespace HT
open PySem PyProof.Rows
section
open PySem.SeqAt
open PySem.AutoSeq1 (wpAny_loadPart')
open PySem.MeetsSeq PySem.MeetsSeq2 PySem.MeetsSeq3
end
section
variable {prog:Program}{w:World}{A:Around}{E:EV}{s:Shared}
def cat_tup{t b:Addr}{vs ws:LU}{Q:EV}(ht:IsTup s.heap t vs.toArray)(hb:IsTup s.heap b ws.toArray)(hv:vs≠[])
  (h1:ws=[]->Q (.ref t) s) (h2:ws≠[]->Q (.ref s.heap.objs.size) {s with heap:=s.heap.push {cls:=.type "tuple",data:=.seq (vs++ws).toArray} })
  (hsz:vs.length + ws.length<=sizeLine):wpAny (model prog w) A (binaryOp .Add (.ref t) (.ref b)) Q E s:=by
 obtain⟨⟨cls,dd,data,sl⟩,ho,hc,n,hd⟩:=id ht
 obtain⟨⟨cls2,dd2,data2,sl2⟩,ho2,hc2,n2,hd2⟩:=id hb
 simp only at hc hd hc2 hd2
 subst hc hd hc2 hd2
 have e:vs.toArray++ws.toArray=(vs++ws).toArray:=by simp
 by_cases hw:ws=[]
 ·exact concat_meets ⟨_,ho,rfl⟩ ⟨_,ho2,rfl⟩ noFill_tuple_add seq_tuple_add Yr4 Yo4 (Yj4 _ _)
   (tuple_addW1 t b vs.toArray ws.toArray n n2 dd dd2 sl sl2 (by simpa using hv) (by simp[hw])) ⟨ho,ho2,h1 hw⟩
 ·refine concat_meets ⟨_,ho,rfl⟩ ⟨_,ho2,rfl⟩ noFill_tuple_add seq_tuple_add Yr4 Yo4 (Yj4 _ _)
   (tuple_addW2 t b vs.toArray ws.toArray n n2 dd dd2 sl sl2 (by simpa using hv) (by simpa using hw) (by rw[Yl,Yl];exact hsz)) ⟨ho,ho2,?_⟩
  rw[e]
  exact h2 hw
def sIx(n d:Nat):Option Int->Nat
 | none=>d
 | some v=>if v<0 then(v + (n:Int)).toNat else min v.toNat n
def sIx_none(n d:Nat):sIx n d none=d:=rfl
def sIx_nat(n d k:Nat):sIx n d (some (k:Int))=min k n:=by
 show(if(k:Int)<0 then((k:Int) + (n:Int)).toNat else min (k:Int).toNat n)=min k n
 rw[if_neg (by omega),Ym3]
def Z3s(n d:Nat)(hd:d<=n)(o:Option Int):sIx n d o<=n:=by
 cases o with
 | none=>exact hd
 | some v =>
  show(if v<0 then(v + (n:Int)).toNat else min v.toNat n)<=n
  by_cases hv:v<0
  ·rw[if_pos hv];omega
  ·rw[if_neg hv];exact Nat.min_le_right _ _
def Zwk(v:Int)(n d:Nat):(if v<0 then max (v + (n:Int)) 0 else min v (n:Int))=((sIx n d (some v):Nat):Int):=by
 show(if v<0 then max (v + (n:Int)) 0 else min v (n:Int))=(((if v<0 then(v + (n:Int)).toNat else min v.toNat n):Nat):Int)
 by_cases hv:v<0
 ·simp only[if_pos hv];omega
 ·simp only[if_neg hv];omega
def Zs7(lo hi:Option Int)(n:Nat):Builtin.Slice.sliceAdjust lo hi 1 (n:Int)=(((sIx n 0 lo:Nat):Int),((sIx n n hi:Nat):Int)):=by
 have h1:¬ ((1:Int)<0):=by omega
 unfold Builtin.Slice.sliceAdjust
 simp only[h1,if_false]
 refine Prod.ext ?_ ?_
 ·cases lo with
  | none=>rfl
  | some v=>exact Zwk v n 0
 ·cases hi with
  | none=>rfl
  | some v=>exact Zwk v n n
def Zr8(i j:Nat):Builtin.Slice.slicePlaces (i:Int) (j:Int) 1=j - i:=by
 unfold Builtin.Slice.slicePlaces
 have h1:(1:Int) > 0:=by omega
 simp only[h1,if_true,Int.ediv_one]
 split <;> omega
def Zk4{v:Value}{o:Option Int}{Q:Option Int->Shared->Prop}(p:IsPart v o)(h:Q o s):wpAny (model prog w) A (Builtin.Slice.slicePartIndex v) Q E s:=by
 cases p with
 | none=>exact slicePart_none h
 | int i t=>exact slicePart_int h
def Zgw{sl:Addr}{vl vu:Value}{lo hi:Option Int}{n:Nat}{Q:Int×Int×Nat->Shared->Prop}(hs:s.heap.IsSliceOf sl vl vu .none)(pl:IsPart vl lo)(pu:IsPart vu hi)
  (h:Q (((sIx n 0 lo:Nat):Int),1,sIx n n hi - sIx n 0 lo) s):wpAny (model prog w) A (Builtin.Slice.sliceApplied (.ref sl) (pure (n:Int))) Q E s:=by
 obtain⟨os,hos,hcs,hds⟩:=id hs
 unfold Builtin.Slice.sliceApplied Builtin.Slice.sliceFields
 refine Ja (Ja (Jg hos hds (x:=vl) rfl (Ja (Jg hos hds (x:=vu) rfl (Ja (Jg hos hds (x:=.none) rfl (Jd ?_)))))))
 refine Ja (slicePart_none ?_)
 show wpAny _ _ (if((1:Int) == 0)=true then _ else _) _ _ s
 rw[if_neg (by decide)]
 refine Ja (Zk4 pl (Ja (Zk4 pu (Ja (Jd ?_)))))
 show wpAny _ _ (match Builtin.Slice.sliceAdjust lo hi 1 (n:Int)with | (lo,hi)=>pure (lo,(1:Int),Builtin.Slice.slicePlaces lo hi 1)) _ _ s
 rw[Zs7 lo hi n]
 show wpAny _ _ (pure (((sIx n 0 lo:Nat):Int),(1:Int),Builtin.Slice.slicePlaces ((sIx n 0 lo:Nat):Int) ((sIx n n hi:Nat):Int) 1)) _ _ s
 rw[Zr8]
 exact Jd h
def Zxm(xs:Array Value)(i k:Nat):((List.range k).filterMap λ(m:Nat)=>xs[((i:Int) + (m:Int) * 1).toNat]?).toArray=((xs.toList.drop i).take k).toArray:=by
 have e:(λ(m:Nat)=>xs[((i:Int) + (m:Int) * 1).toNat]?)=λm=>xs[i + m]?:=by
  funext m
  have:((i:Int) + (m:Int) * 1).toNat=i + m:=by omega
  rw[this]
 rw[e]
 have:=pick_run xs i k
 rw[List.filterMap_map]at this
 have e2:((λx=>xs[x]?) ∘ λx=>i + x)=λm=>xs[i + m]?:=rfl
 rw[e2]at this
 rw[this]
def getItem_tuple_cut{t sl:Addr}{items:Array Value}{vl vu:Value}{lo hi:Option Int}{Q:EV}(ht:IsTup s.heap t items)(hs:s.heap.IsSliceOf sl vl vu .none)(pl:IsPart vl lo)(pu:IsPart vu hi)
  (hw:¬ (sIx items.size 0 lo=0/\sIx items.size items.size hi=items.size))
  (h:Q (.ref s.heap.objs.size) {s with heap:=s.heap.push {cls:=.type "tuple",data:=.seq ((items.toList.drop (sIx items.size 0 lo)).take (sIx items.size items.size hi - sIx items.size 0 lo)).toArray} })
  (hsz:items.size<=sizeLine):wpAny (model prog w) A (getItem (.ref t) (.ref sl)) Q E s:=by
 have htake:sizeOk (.seq ((items.toList.drop (sIx items.size 0 lo)).take (sIx items.size items.size hi - sIx items.size 0 lo)).toArray):=by
  show((items.toList.drop (sIx items.size 0 lo)).take (sIx items.size items.size hi - sIx items.size 0 lo)).toArray.size<=sizeLine
  rw[Yl,Yd1,Yq2,Ys3]
  omega
 have hj:sIx items.size items.size hi<=items.size:=Z3s _ _ (Yd _) hi
 obtain⟨os,hos,hcs,hds⟩:=id hs
 have hTs:s.TypeIs (.ref sl) "slice":=⟨os,hos,hcs⟩
 unfold getItem
 try with_reducible refine Jj ?_
 first | refine Ja (Jd ?_) | skip
 refine Ja (wpAny_sequenceKey ht.typeIs (by decide) ?_)
 refine Ja (wpAny_callSpecial?_slot (name:=Str.ofString "__getitem__") ht.typeIs Yd2
  (wpAny_call_entry Yd2 ht.typeIs entry_tuple_getitem ?_ (args_tuple_getitem _ _)))
 show wpAny _ _ (Builtin.Tuple.tupleItemsOf (.ref t)>>=_) _ _ s
 refine Ja (tupleItemsOf_ ht ?_)
 refine Ja (wpAny_typeOf hTs ?_)
 rw[if_pos (by decide)]
 refine Ja (Zgw hs pl pu ?_)
 have hno:¬ ((((sIx items.size 0 lo:Nat):Int) == 0&&(1:Int) == 1&&(sIx items.size items.size hi - sIx items.size 0 lo) == items.size)=true):=by
  intro q
  rw[Yt1,Yt1]at q
  have q1:((sIx items.size 0 lo:Nat):Int)=0:=eq_of_beq q.1.1
  have q2:sIx items.size items.size hi - sIx items.size 0 lo=items.size:=eq_of_beq q.2
  exact hw ⟨by omega,by omega⟩
 show wpAny _ _ (if(((sIx items.size 0 lo:Nat):Int) == 0&&(1:Int) == 1&&(sIx items.size items.size hi - sIx items.size 0 lo) == items.size)=true then _ else _) _ _ s
 rw[if_neg hno,Zxm]
 first
  | exact Ja (m:=Builtin.Tuple.tupleExact _) (wpAny_newObj_type (Jd ⟨_,rfl,Jd h⟩) htake)
  | exact Ja (m:=Builtin.Tuple.tupleExact _) (wpAny_newObj_type (Ja (Jd (Jd ⟨_,rfl,Jd h⟩))) htake)
  | exact Ja (Ja (m:=Builtin.Tuple.tupleExact _) (wpAny_newObj_type (Jd (Jd ⟨_,rfl,Jd h⟩)) htake))
  | exact Ja (Ja (m:=Builtin.Tuple.tupleExact _) (wpAny_newObj_type (Jd ⟨_,rfl,Jd h⟩) htake))
end
end HT
namespace L2
open PySem PySem.Spec PyProof.Rows
abbrev TO:=St->Hp->(Option Int->Hp->Prop)->Prop
def PO(X:Cx)(e:Option Expr)(t:TO):Prop :=
 ∀(pins:PL) (s:Shared) (σ:St) (H:Hp) (Q:Option Int->Hp->Prop),Inv X pins σ H s->t σ H Q ->
  wpAny (model X.prog X.w) X.A (evalPart e X.env) (λu s'=>∃ o H',Inv X pins σ H' s'/\IsPart u o/\Q o H') X.xe s
def Zg1:TO:=λ_ H Q=>Q none H
def Z5t(t:TE):TO:=λσ H Q=>t σ H λx H1=>∃ i,x=.int i/\Q (some i) H1
section
variable {X:Cx}{e:Expr}{te:TE}{lo hi:Option Expr}{tl th:TO}{pos p2:Pos}
def Zfa:PO X none Zg1:=by
 ac_rfl
 rw[evalPart_none]
 exact Jd ⟨none,H,I,.none,h⟩
def Ze9(h:PE X e te):PO X (some e) (Z5t te):=by
 intro pins s σ H Q I hw
 rw[evalPart_some]
 refine thn (h pins s σ H _ I hw) λu s1 ⟨x,H1,I1,r1,q1⟩=>?_
 obtain⟨i,rfl,q⟩:=q1
 obtain⟨t,rfl⟩:=r1
 exact⟨some i,H1,I1,.int i t,q⟩
def SlR(X:Cx)(r:V->Option Int->Option Int->Hp->VK->Prop):Prop :=
 ∀(pins:PL) (s:Shared) (σ:St) (H:Hp) (x:V) (v vl vu:Value) (lo hi:Option Int) (sl:Addr) (Q:VK),Inv X pins σ H s->Zcl x v->s.heap.IsSliceOf sl vl vu .none->IsPart vl lo->IsPart vu hi->r x lo hi H Q ->
  ∃ T id,typeLookup (.type T) "__getitem__"=pure (some (.builtin id))/\s.TypeIs v T/\wpAny (model X.prog X.w) X.A (getItem v (.ref sl)) (EP X pins σ Q) X.xe s
def tSl(r:V->Option Int->Option Int->Hp->VK->Prop)(te:TE)(tl th:TO):TE:=λσ H Q=>te σ H λx H1=>tl σ H1 λl H2=>th σ H2 λu H3=>r x l u H3 Q
def Zdm{r:V->Option Int->Option Int->Hp->VK->Prop}(hr:SlR X r)(he:PE X e te)(hl:PO X lo tl)(hu:PO X hi th):PE X (.Subscript e (.Slice lo hi none p2) pos) (tSl r te tl th):=by
 ac_rfl
 refine Subscript_ (thn (he pins s σ H _ I h) λv s1 ⟨x,H1,I1,r1,q1⟩=>?_)
 refine wpAny_Slice (thn (hl pins s1 σ H1 _ I1 q1) λvl s2 ⟨l,H2,I2,pl,q2⟩=>thn (hu pins s2 σ H2 _ I2 q2) λvu s3 ⟨u,H3,I3,pu,q3⟩=>?_)
 rw[evalPart_none]
 refine Jd ?_
 have I4:Inv X pins σ H3 {s3 with heap:=s3.heap.push {cls:=.type "slice",data:=.fields #[vl,vu,.none] } }:=I3.kept (t':=s3.toks) λb ob q=>Yb _ q
 obtain⟨T,id,hT,ht,hg⟩:=hr pins {s3 with heap:=s3.heap.push {cls:=.type "slice",data:=.fields #[vl,vu,.none] } } σ H3 x v vl vu l u s3.heap.objs.size Q I4 r1 (Heap.IsSliceOf.new ..) pl pu q3
 show wpAny (model X.prog X.w) X.A (subscriptTail e (.Slice lo hi none p2) v (.ref s3.heap.objs.size)) (EP X pins σ Q) X.xe {s3 with heap:=s3.heap.push {cls:=.type "slice",data:=.fields #[vl,vu,.none] } }
 exact tail_any (ops:=[.ref s3.heap.objs.size,v]) ht hT hg (by with_unfolding_all rfl)
def Zoo(xs:LV)(lo hi:Option Int):LV:=(xs.drop (HT.sIx xs.length 0 lo)).take (HT.sIx xs.length xs.length hi - HT.sIx xs.length 0 lo)
def Zkn(xs:LV)(lo hi:Option Int):(Zoo xs lo hi).length<=xs.length:=by
 unfold Zoo
 rw[Yd1,Yq2]
 omega
def Z9m(K:Fg):V->Option Int->Option Int->Hp->VK->Prop:=λx lo hi H Q=>∃ a xs,x=.ref a/\SqT K H a xs /\
 ¬ (HT.sIx xs.length 0 lo=0/\HT.sIx xs.length xs.length hi=xs.length)/\∀ p,H p=none->Q (.ref p) (upd H p (.tup (Zoo xs lo hi)))
def Z3j:SlR X (Z9m X.K):=by
 intro pins s σ H x v vl vu lo hi sl Q I rx hs pl pu h
 obtain⟨a,xs,rfl,hx,hw,q⟩:=h
 cases rx
 obtain⟨its,r,ht,hz⟩:=I.tuple hx
 have hlen:its.toArray.size=xs.length:=by rw[Yl];exact r.length.symm
 refine⟨"tuple",_,Yd2.lookup,ht.typeIs,?_⟩
 refine HT.getItem_tuple_cut ht hs pl pu (by rw[hlen];exact hw) ?_ (by rw[hlen];exact hz)
 rw[hlen]
 refine⟨.ref s.heap.objs.size,_,I.laid (t':=s.toks) (o:=.tup (Zoo xs lo hi)) (λb ob q=>Yb _ q) (Yd _) ?_,rfl,q _ (I.hok.fresh (Yd _))⟩
 exact⟨Yx (Zkn xs lo hi) hz,_,(r.drop (HT.sIx xs.length 0 lo)).take (HT.sIx xs.length xs.length hi - HT.sIx xs.length 0 lo),IsTup.new _ _⟩
def Z6e(K:Fg):R2:=λx y H Q=>∃ a b xs ys,x=.ref a/\y=.ref b/\SqT K H a xs/\SqT K H b ys/\xs≠[]/\xs.length + ys.length<=sizeLine /\
 (ys=[]->Q (.ref a) H)/\(ys≠[]->∀ p,H p=none->Q (.ref p) (upd H p (.tup (xs++ys))))
def Zb0.nil_iff{xs:LV}{us:LU}(r:Zb0 xs us):us=[]↔xs=[]:=by
 cases r with
 | nil=>simp
 | cons _ _=>simp
def Z08:OpR X (binaryOp .Add) (Z6e X.K):=by
 exfalso
 obtain⟨a,b,xs,ys,rfl,rfl,ha,hb,hx,hz,q1,q2⟩:=h
 cases rx
 cases ry
 obtain⟨its,r1,p1,_⟩:=I.tuple ha
 obtain⟨its2,r2,p2,_⟩:=I.tuple hb
 refine HT.cat_tup p1 p2 (λz=>hx (r1.nil_iff.mp z)) (λz=>⟨.ref a,H,I,rfl,q1 (r2.nil_iff.mp z)⟩) (λz=>?_) (by rw[<- r1.length,<- r2.length];exact hz)
 refine⟨.ref s.heap.objs.size,_,I.laid (t':=s.toks) (o:=.tup (xs++ys)) (λb ob q=>Yb _ q) (Yd _) ?_,rfl,q2 (λw=>z (r2.nil_iff.mpr w)) _ (I.hok.fresh (Yd _))⟩
 exact⟨by rw[Yi];exact hz,_,r1.append r2,IsTup.new _ _⟩
end
def ixN(n:Nat)(i:Int):Option Nat:=if 0<=i then(if i<n then some i.toNat else none)else if -(n:Int)<=i then some (i + n).toNat else none
def atI{α:Type}(xs:List α)(i:Int):Option α:=(ixN xs.length i).bind λj=>xs[j]?
def Zvw{n:Nat}{i:Int}{j:Nat}(h:ixN n i=some j):seqIndex? i n=some j/\j<n/\-(n:Int)<=i/\i<n:=by
 unfold ixN at h
 by_cases h0:0<=i
 ·rw[if_pos h0]at h
  by_cases h1:i<n
  ·rw[if_pos h1]at h
   have e:i.toNat=j:=Yq h
   exact⟨by rw[seqIndex_of h0 h1,e],by omega,by omega,h1⟩
  ·rw[if_neg h1]at h;cases h
 ·rw[if_neg h0]at h
  by_cases h1:-(n:Int)<=i
  ·rw[if_pos h1]at h
   have e:(i + n).toNat=j:=Yq h
   exact⟨by rw[seqIndex_neg (by omega) h1,e],by omega,h1,by omega⟩
  ·rw[if_neg h1]at h;cases h
def Zqe{α:Type}{xs:List α}{i:Int}{v:α}(h:atI xs i=some v):∃ j,seqIndex? i xs.length=some j/\xs[j]?=some v/\j<xs.length/\-(xs.length:Int)<=i/\i<xs.length:=by
 unfold atI at h
 cases e:ixN xs.length i with
 | none=>rw[e]at h;cases h
 | some j =>
  rw[e]at h
  obtain⟨h1,h2,h3,h4⟩:=Zvw e
  exact⟨j,h1,h,h2,h3,h4⟩
def Zb5{α:Type}{xs:List α}{j:Nat}{v:α}(h:xs[j]?=some v):atI xs (j:Int)=some v:=by
 have hj:j<xs.length:=(Yn.mp h).1
 have e:ixN xs.length (j:Int)=some j:=by
  unfold ixN
  rw[if_pos (by omega),if_pos (by omega)];simp
 unfold atI;rw[e];exact h
def Z2q(b:Expr):Prop:=∀ o i,subscripted b false o i=operate [o,i] (getItem o i)
def IxR(X:Cx)(r:R2):Prop :=
 ∀(value slice:Expr) (pins:PL) (s:Shared) (σ:St) (H:Hp) (x y:V) (v u:Value) (Q:VK),Inv X pins σ H s->Zcl x v->Zcl y u->r x y H Q ->
  subscripted slice false v u=operate [v,u] (getItem v u)->wpAny (model X.prog X.w) X.A (subscriptTail value slice v u) (EP X pins σ Q) X.xe s
def MtR(X:Cx)(id:String)(r:V->LV->Hp->VK->Prop):Prop :=
 ∀(pins:PL) (s:Shared) (σ:St) (H:Hp) (x:V) (xs:LV) (v:Value) (us:LU) (Q:VK),Inv X pins σ H s->Zcl x v->Zb0 xs us->r x xs H Q ->
  wpAny (model X.prog X.w) X.A (call (.builtin id) (v :: us)) (EP X pins σ Q) X.xe s
section
variable {X:Cx}{a b:Expr}{ta tb:TE}{pos:Pos}
def IxR.or{r r':R2}(h:IxR X r)(h':IxR X r'):IxR X (λx y H Q=>r x y H Q\/r' x y H Q):=by
 intro value slice pins s σ H x y v u Q I rx ry q hs
 rcases q with q | q
 ·exact h value slice pins s σ H x y v u Q I rx ry q hs
 ·exact h' value slice pins s σ H x y v u Q I rx ry q hs
def Za3{r:R2}(hr:IxR X r)(ha:PE X a ta)(hb:PE X b tb)(hs:Z2q b):PE X (.Subscript a b pos) (tOp r ta tb):=by
 ac_rfl
 exact Subscript_ (Z60 ha hb I h λv u s2 x y H2 I2 rx ry q=>hr a b pins s2 σ H2 x y v u Q I2 rx ry q (hs _ _))
def Ziu(K:Fg):R2:=λx y H Q=>∃ p xs i v,x=.ref p/\y=.int i/\SqL K H p xs/\atI xs i=some v/\Q v H
def Zhv(K:Fg):R2:=λx y H Q=>∃ p xs i v,x=.ref p/\y=.int i/\SqT K H p xs/\atI xs i=some v/\Q v H
def Z77:R2:=λx y H Q=>∃ z i c,x=.str z/\y=.int i/\z.length<=sizeLine/\atI z.cps.toList i=some c/\Q (.str ⟨#[c]⟩) H
def Zay:IxR X (Ziu X.K):=by
 intro value slice pins s σ H x y v u Q I rx ry h hs
 obtain⟨p,xs,i,z,rfl,rfl,hq,he,q⟩:=h
 cases rx
 obtain⟨t,rfl⟩:=ry
 obtain⟨its,r,pl,hz⟩:=I.list hq
 obtain⟨j,h1,h2,h3,h4,h5⟩:=Zqe he
 obtain⟨w,ew,rw'⟩:=r.get h2
 have hl:=r.length
 have hn:=Zka
 have fin:EP X pins σ Q w s:=⟨z,H,I,rw',q⟩
 by_cases h0:0<=i
 ·have hj:i.toNat=j:=by
   rw[seqIndex_of h0 h5]at h1
   exact Yq h1
  exact item_listR pl.isList h0 (by omega) (by rw[hj];simpa using ew) fin hs
 ·have hj:(i + (its.toArray.size:Int)).toNat=j:=by
   rw[seqIndex_neg (by omega) h4]at h1
   rw[Yl,<- hl]
   exact Yq h1
  exact subscriptTail_builtinR (x:=w) pl.isList.typeIs slot_list_getitem.lookup
   (wpAny_getItem_list_neg (Q:=λr s'=>r=w/\EP X pins σ Q r s') pl.isList (by omega) (by rw[Yl] <;> omega) (by omega) (by rw[hj];simpa using ew) ⟨rfl,fin⟩) hs
def Zbr:IxR X (Zhv X.K):=by
 intro value slice pins s σ H x y v u Q I rx ry h hs
 obtain⟨p,xs,i,z,rfl,rfl,hq,he,q⟩:=h
 cases rx
 obtain⟨t,rfl⟩:=ry
 obtain⟨its,r,pl,hz⟩:=I.tuple hq
 obtain⟨j,h1,h2,h3,h4,h5⟩:=Zqe he
 obtain⟨w,ew,rw'⟩:=r.get h2
 have hl:=r.length
 have hn:=Zka
 have fin:EP X pins σ Q w s:=⟨z,H,I,rw',q⟩
 exact subscriptTail_builtinR (x:=w) pl.typeIs slot_tuple_getitem.lookup
  (getItem_tuple (j:=j) (Q:=λr s'=>r=w/\EP X pins σ Q r s') pl (by omega) (by omega) (by rw[Yl,<- hl];exact h1) (by simpa using ew) ⟨rfl,fin⟩) hs
def Zz2:IxR X Z77:=by
 intro value slice pins s σ H x y v u Q I rx ry h hs
 obtain⟨z,i,c,rfl,rfl,hz,he,q⟩:=h
 obtain⟨t,rfl⟩:=rx
 obtain⟨t',rfl⟩:=ry
 obtain⟨j,h1,h2,h3,h4,h5⟩:=Zqe he
 have hl:z.cps.toList.length=z.length:=by simp[Str.length]
 rw[hl]at h1 h4 h5
 have hn:=Zka
 exact tail_any (typeIs_str s z t) slot_str_getitem.lookup (getItem_str (c:=c) (by
  have e1:decide (i < -(2 ^ 63:Int))=false:=Jc (by omega)
  have e2:decide (i ≥ 2 ^ 63)=false:=Jc (by omega)
  rw[e1,e2,Bool.or_false]) (by rw[h1];simpa using h2) ⟨.str ⟨#[c]⟩,H,I.tok _,⟨_,rfl⟩,q⟩) hs
def rIx(K:Fg):R2:=λx y H Q=>Ziu K x y H Q\/Zhv K x y H Q\/Z77 x y H Q
def Z4x:IxR X (rIx X.K):=Zay.or (Zbr.or Zz2)
def Zsq(its:LU)(n j:Nat)(u:Value):Obj.mapSeq (·.setIfInBounds j u) {cls:=.type "list",data:=.seq its.toArray n}={cls:=.type "list",data:=.seq (its.set j u).toArray n}:=by
 simp[Obj.mapSeq]
theorem Inv.lst{pins:PL}{σ:St}{H:Hp}{s:Shared}{p:Addr}{xs:LV}(I:Inv X pins σ H s)(h:H p=some (.lst xs)):
  ∃(its:LU) (n:Nat),Zb0 xs its/\s.heap.get? p=some {cls:=.type "list",data:=.seq its.toArray n}/\xs.length<=sizeLine:=by
 obtain⟨z,its,n,r,e⟩:=I.hok p _ h
 exact⟨its,n,r,e,z⟩
def Inv.lstUpd{pins:PL}{σ:St}{H:Hp}{s:Shared}{p:Addr}{xs ys:LV}{its its':LU}{n n':Nat}{f:Obj->Obj}(I:Inv X pins σ H s)(h:H p=some (.lst xs))
  (ho:s.heap.get? p=some {cls:=.type "list",data:=.seq its.toArray n}) (hf:f {cls:=.type "list",data:=.seq its.toArray n}={cls:=.type "list",data:=.seq its'.toArray n' }) (r:Zb0 ys its') (hz:ys.length<=sizeLine) (t:Nat):
  Inv X pins σ (upd H p (.lst ys)) {s with heap:=s.heap.update p f,toks:=t}:=by
 have e:(s.heap.update p f).get? p=some {cls:=.type "list",data:=.seq its'.toArray n' }:=by
  rw[Yu1 f ho (by rw[hf] <;> rfl),hf]
 refine I.write (x:=p) (e:=p) (by rw[h];trivial) (.inl rfl) (λb u hb q=>(Yg2 _ _ (Ym hb)).trans q) ⟨_,e⟩ ?_
 exact⟨hz,its',n',r,e⟩
def Z6c:V->V->V->Hp->(Hp->Prop)->Prop:=λo i v H Q=>∃ p xs k j,o=.ref p/\i=.int k/\H p=some (.lst xs)/\ixN xs.length k=some j/\Q (upd H p (.lst (xs.set j v)))
def Zl4:Z8l X Z6c:=by
 intro pins s σ H o i v ov iv u Q I ro ri rv h
 obtain⟨p,xs,k,j,rfl,rfl,hp,hj,q⟩:=h
 cases ro
 obtain⟨t,rfl⟩:=ri
 obtain⟨its,n,r,ho,hz⟩:=I.lst hp
 obtain⟨h1,h2,h3,h4⟩:=Zvw hj
 have hl:=r.length
 have hn:=Zka
 have I':Inv X pins σ (upd H p (.lst (xs.set j v))) {s with heap:=s.heap.update p (Obj.mapSeq (·.setIfInBounds j u)) } :=
  I.lstUpd hp ho (Zsq its n j u) (r.set rv j) (by rw[List.length_set];exact hz) s.toks
 by_cases h0:0<=k
 ·have hk:k.toNat=j:=by
   rw[seqIndex_of h0 h4]at h1
   exact Yq h1
  exact W.ki_setAt ho h0 (by omega) (by rw[Yl,<- hl];exact h4) (by rw[hk];exact⟨_,I',q⟩)
 ·have hk:(k + (its.toArray.size:Int)).toNat=j:=by
   rw[seqIndex_neg (by omega) h3]at h1
   rw[Yl,<- hl]
   exact Yq h1
  exact W.ki_setBack ho (by omega) (by rw[Yl,<- hl];exact h3) (by omega) (by rw[hk];exact⟨_,I',q⟩)
def Znk(lo hi:Option Int)(n:Nat):(sliceBounds lo hi none n).1=((HT.sIx n 0 lo:Nat):Int)/\(sliceBounds lo hi none n).2.1=((HT.sIx n n hi:Nat):Int)/\(sliceBounds lo hi none n).2.2=1:=by
 refine⟨?_,?_,rfl⟩
 ·cases lo with
  | none=>simp[sliceBounds,HT.sIx]
  | some i =>
   simp only[sliceBounds,HT.sIx,Option.getD_none,show(1:Int) > 0 by decide,if_true]
   by_cases h:i<0
   ·simp only[h,if_true] <;> omega
   ·simp only[h,if_false] <;> omega
 ·cases hi with
  | none=>simp[sliceBounds,HT.sIx]
  | some i =>
   simp only[sliceBounds,HT.sIx,Option.getD_none,show(1:Int) > 0 by decide,if_true]
   by_cases h:i<0
   ·simp only[h,if_true] <;> omega
   ·simp only[h,if_false] <;> omega
def Zl3(its:LU)(lo hi:Option Int):slicePick its.toArray lo hi none=((its.drop (HT.sIx its.length 0 lo)).take (HT.sIx its.length its.length hi - HT.sIx its.length 0 lo)).toArray:=by
 obtain⟨h1,h2,h3⟩:=Znk lo hi its.toArray.size
 unfold slicePick
 rw[h1,h2,h3]
 simp only[sliceRange_one,pick_run,Yl] <;> rfl
def Z6b(K:Fg):V->Option Int->Option Int->Hp->VK->Prop:=λx lo hi H Q=>∃ a xs,x=.ref a/\SqL K H a xs/\∀ p,H p=none->Q (.ref p) (upd H p (.lst (Zoo xs lo hi)))
def Zpi:SlR X (Z6b X.K):=by
 intro pins s σ H x v vl vu lo hi sl Q I rx hs pl pu h
 obtain⟨a,xs,rfl,hx,q⟩:=h
 cases rx
 obtain⟨its,r,ht,hz⟩:=I.list hx
 have hlen:=r.length
 refine⟨"list",_,slot_list_getitem.lookup,ht.isList.typeIs,?_⟩
 refine wpAny_getItem_list_slice ht.isList hs pl pu .none (by simp) ?_ (by rw[Yl] <;> omega)
 rw[Zl3,<- hlen]
 refine⟨.ref s.heap.objs.size,_,I.laid (t':=s.toks) (o:=.lst (Zoo xs lo hi)) (λb ob q=>Yb _ q) (Yd _) ?_,rfl,q _ (I.hok.fresh (Yd _))⟩
 exact⟨Yx (Zkn xs lo hi) hz,_,0,(r.drop (HT.sIx xs.length 0 lo)).take (HT.sIx xs.length xs.length hi - HT.sIx xs.length 0 lo),Ys _ rfl⟩
def Zms:V->Bool
 | .non=>true
 | .bl _=>true
 | .int _=>true
 | .str _=>true
 | _=>false
def eqV:V->V->Bool
 | .non,.non=>true
 | .bl a,.bl b=>a == b
 | .bl a,.int b=>(if a then 1 else 0) == b
 | .int a,.bl b=>a == (if b then 1 else 0)
 | .int a,.int b=>a == b
 | .str a,.str b=>a == b
 | _,_=>false
def Z42{A:Around}{s:Shared}{y x:V}{u v:Value}(ry:Zcl y u)(rx:Zcl x v)(fy:Zms y=true)(fx:Zms x=true):SeqAt.EqAt A s u v (eqV y x):=by
 cases y with
 | non =>
  cases ry
  cases x with
  | non=>cases rx;exact SeqAt.EqAt.same _
  | bl b=>cases rx;exact SeqAt.EqAt.none_bool b
  | int b=>obtain⟨t,rfl⟩:=rx;exact SeqAt.EqAt.none_int b t
  | str b=>obtain⟨t,rfl⟩:=rx;exact SeqAt.EqAt.none_str b t
  | _=>exact absurd (show false=true from fx) Yg
 | bl a =>
  cases ry
  cases x with
  | non=>cases rx;exact SeqAt.EqAt.bool_none a
  | bl b=>cases rx;exact SeqAt.EqAt.bool_bool a b
  | int b=>obtain⟨t,rfl⟩:=rx;exact SeqAt.EqAt.bool_int a b t
  | str b=>obtain⟨t,rfl⟩:=rx;exact SeqAt.EqAt.bool_str a b t
  | _=>exact absurd (show false=true from fx) Yg
 | int a =>
  obtain⟨t',rfl⟩:=ry
  cases x with
  | non=>cases rx;exact SeqAt.EqAt.int_none a t'
  | bl b=>cases rx;exact SeqAt.EqAt.int_bool a t' b
  | int b=>obtain⟨t,rfl⟩:=rx;exact SeqAt.EqAt.int_int a t' b t
  | str b=>obtain⟨t,rfl⟩:=rx;exact SeqAt.EqAt.int_str a t' b t
  | _=>exact absurd (show false=true from fx) Yg
 | str a =>
  obtain⟨t',rfl⟩:=ry
  cases x with
  | non=>cases rx;exact SeqAt.EqAt.str_none a t'
  | bl b=>cases rx;exact SeqAt.EqAt.str_bool a t' b
  | int b=>obtain⟨t,rfl⟩:=rx;exact SeqAt.EqAt.str_int a t' b t
  | str b=>obtain⟨t,rfl⟩:=rx;exact SeqAt.EqAt.str_str a t' b t
  | _=>exact absurd (show false=true from fx) Yg
 | _=>exact absurd (show false=true from fy) Yg
def eqU(x:V)(u:Value):Bool:=match u with
 | .none=>eqV .non x
 | .bool b=>eqV (.bl b) x
 | .int i _=>eqV (.int i) x
 | .str z _=>eqV (.str z) x
 | _=>false
def Zz7{x y:V}{u:Value}(r:Zcl y u)(f:Zms y=true):eqU x u=eqV y x:=by
 cases y with
 | non=>cases r;rfl
 | bl b=>cases r;rfl
 | int i=>obtain⟨t,rfl⟩:=r;rfl
 | str z=>obtain⟨t,rfl⟩:=r;rfl
 | _=>exact absurd (show false=true from f) Yg
theorem Zkq{x:V}:∀ {xs:LV}{us:LU},Zb0 xs us->xs.all Zms=true->us.any (eqU x)=xs.any λy=>eqV y x
 | _,_,.nil,_=>rfl
 | y :: xs,u :: us,.cons r t,f=>by
  rw[List.all_cons,Yt1]at f
  rw[Yk3,Yk3,Zz7 r f.1,Zkq t f.2]
theorem Zim{A:Around}{s:Shared}{x:V}{v:Value}(rx:Zcl x v)(fx:Zms x=true):∀ {xs:LV}{us:LU},Zb0 xs us->xs.all Zms=true->∀ u∈us,SeqAt.EqAt A s u v (eqU x u)
 | _,_,.nil,_=>λu hu=>by cases hu
 | y :: xs,u :: us,.cons r t,f=>λu' hu=>by
  rw[List.all_cons,Yt1]at f
  rcases Yg1.mp hu with rfl | hu
  ·rw[Zz7 r f.1];exact Z42 r rx f.1 fx
  ·exact Zim rx fx t f.2 u' hu
def inV(x:V)(xs:LV):Bool:=xs.any λy=>eqV y x
def rIn(K:Fg)(neg:Bool):R2:=λx y H Q=>∃ p xs,y=.ref p/\(SqL K H p xs\/SqT K H p xs)/\Zms x=true/\xs.all Zms=true/\Q (.bl (if neg then !inV x xs else inV x xs)) H
def Zg9:OpR X (compareOp .In) (rIn X.K false):=by
 exfalso
 obtain⟨p,xs,rfl,hq,fx,fs,q⟩:=h
 cases ry
 rcases hq with hq | hq
 ·obtain⟨its,r,pl,hz⟩:=I.list hq
  refine SeqAt.in_listAt (eqU x) pl.isList (λw hw=>Zim rx fx r fs w (by simpa using hw)) ⟨.bl _,H,I,rfl,?_⟩
  rw[show its.toArray.any (eqU x)=its.any (eqU x) by simp,Zkq r fs]
  exact q
 ·obtain⟨its,r,pl,hz⟩:=I.tuple hq
  refine SeqAt.in_tupleAt (eqU x) pl (λw hw=>Zim rx fx r fs w (by simpa using hw)) ⟨.bl _,H,I,rfl,?_⟩
  rw[show its.toArray.any (eqU x)=its.any (eqU x) by simp,Zkq r fs]
  exact q
def Zjd:OpR X (compareOp .NotIn) (rIn X.K true):=by
 exfalso
 obtain⟨p,xs,rfl,hq,fx,fs,q⟩:=h
 cases ry
 rcases hq with hq | hq
 ·obtain⟨its,r,pl,hz⟩:=I.list hq
  refine SeqAt.notIn_listAt (eqU x) pl.isList (λw hw=>Zim rx fx r fs w (by simpa using hw)) ⟨.bl _,H,I,rfl,?_⟩
  rw[show its.toArray.any (eqU x)=its.any (eqU x) by simp,Zkq r fs]
  exact q
 ·obtain⟨its,r,pl,hz⟩:=I.tuple hq
  refine SeqAt.notIn_tupleAt (eqU x) pl (λw hw=>Zim rx fx r fs w (by simpa using hw)) ⟨.bl _,H,I,rfl,?_⟩
  rw[show its.toArray.any (eqU x)=its.any (eqU x) by simp,Zkq r fs]
  exact q
def Zan:Zi6 X (.builtin "len") (λxs H Q=>∃ p ys,xs=[.ref p]/\(SqL X.K H p ys\/SqT X.K H p ys)/\Q (.int ys.length) H):=by
 intro pins s σ H xs us Q I r h
 obtain⟨p,ys,rfl,hq,q⟩:=h
 obtain⟨u,rfl,rx⟩:=Zks r
 cases rx
 have hn:=Zka
 rcases hq with hq | hq
 ·obtain⟨its,r',pl,hz⟩:=I.list hq
  have hlen:=r'.length
  exact Calls.call_len_list pl.isList (by simp only[Yl] <;> omega) ⟨.int ys.length,H,I.tok _,⟨s.toks + 1,by rw[Yl,hlen]⟩,q⟩
 ·obtain⟨its,r',pl,hz⟩:=I.tuple hq
  have hlen:=r'.length
  exact len_tuple pl (by simp only[Yl] <;> omega) ⟨.int ys.length,H,I.tok _,⟨s.toks + 1,by rw[Yl,hlen]⟩,q⟩
def Zef:Zi6 X (.type "list") (λxs H Q=>∃ p ys,xs=[.ref p]/\(SqL X.K H p ys\/SqT X.K H p ys)/\∀ l,H l=none->Q (.ref l) (upd H l (.lst ys))):=by
 intro pins s σ H xs us Q I r h
 obtain⟨p,ys,rfl,hq,q⟩:=h
 obtain⟨u,rfl,rx⟩:=Zks r
 cases rx
 have fin:∀(its:LU),Zb0 ys its->ys.length<=sizeLine->∀(h':Heap) (c':Nat),(∀ b o',s.heap.get? b=some o'->h'.get? b=some o') ->
   h'.get? s.heap.objs.size=some {cls:=.type "list",dict:=none,data:=.seq its.toArray c',slots:=#[] }->EP X pins σ Q (.ref s.heap.objs.size) {s with heap:=h' }:=λits r' hz h' c' kp e =>
  ⟨.ref s.heap.objs.size,_,I.laid (t':=s.toks) kp (Yd _) (show Zb6 X.prog X.w _ h' _ (.lst ys)from⟨hz,its,c',r',e⟩),rfl,q _ (I.hok.fresh (Yd _))⟩
 rcases hq with hq | hq
 ·obtain⟨its,r',pl,hz⟩:=I.list hq
  have hlen:=r'.length
  obtain⟨o,ho,hc,n,hd⟩:=pl.isList
  exact call_list_seq p (.inl rfl) ho hc hd (λh' c' kp e=>fin its r' hz h' c' kp e) (by simp only[Yl] <;> omega)
 ·obtain⟨its,r',pl,hz⟩:=I.tuple hq
  have hlen:=r'.length
  obtain⟨o,ho,hc,n,hd⟩:=pl
  exact call_list_seq p (.inr rfl) ho hc hd (λh' c' kp e=>fin its r' hz h' c' kp e) (by simp only[Yl] <;> omega)
def Zbg:Zi6 X (.type "tuple") (λxs H Q=>∃ p ys,xs=[.ref p]/\((SqL X.K H p ys/\∀ l,H l=none->Q (.ref l) (upd H l (.tup ys)))\/(SqT X.K H p ys/\Q (.ref p) H))):=by
 intro pins s σ H xs us Q I r h
 obtain⟨p,ys,rfl,h⟩:=h
 obtain⟨u,rfl,rx⟩:=Zks r
 cases rx
 rcases h with⟨hq,q⟩ | ⟨hq,q⟩
 ·obtain⟨its,r',pl,hz⟩:=I.list hq
  have hlen:=r'.length
  refine call_tuple_list pl.isList (λh' kp=>?_) (by simp only[Yl] <;> omega)
  have I1:Inv X pins σ H {s with heap:=h' }:=I.kept (t':=s.toks) kp
  have I2:Inv X pins σ (upd H h'.objs.size (.tup ys)) {s with heap:=h'.push {cls:=.type "tuple",data:=.seq its.toArray} } :=
   I1.laid (t':=s.toks) (λb o e=>Yb _ e) (Yd _) (show Zb6 X.prog X.w _ _ _ (.tup ys)from⟨hz,its,r',IsTup.new _ _⟩)
  exact⟨.ref h'.objs.size,_,I2,rfl,q _ (I1.hok.fresh (Yd _))⟩
 ·obtain⟨its,r',pl,hz⟩:=I.tuple hq
  exact call_tuple_same pl ⟨.ref p,H,I,rfl,q⟩
def tyV(K:Fg)(T:String)(x:V)(H:Hp):Prop:=match x with
 | .str _=>T="str"
 | .int _=>T="int"
 | .ref p=>(T="list"/\∃ xs,SqL K H p xs)\/(T="tuple"/\∃ o,K.lookup p=some o/\o.cls=.type "tuple"/\o.dict=none) \/
   (T="dict"/\((∃ kvs,H p=some (.dK kvs))\/∃ kvs,H p=some (.dT kvs)))\/(T="set"/\∃ S n,H p=some (.set S n))
 | _=>False
def Zy9{pins:PL}{σ:St}{H:Hp}{s:Shared}{T:String}{x:V}{v:Value}(I:Inv X pins σ H s)(r:Zcl x v)(ty:tyV X.K T x H):
  s.TypeIs v T/\∀ a,v=.ref a->∃ ob,s.heap.get? a=some ob/\ob.dict=none:=by
 cases x with
 | str z =>
  obtain⟨t,rfl⟩:=r
  cases(show T="str" from ty)
  exact⟨typeIs_str s z t,λ_ e=>nomatch e⟩
 | int i =>
  obtain⟨t,rfl⟩:=r
  cases(show T="int" from ty)
  exact⟨typeIs_int s i t,λ_ e=>nomatch e⟩
 | ref p =>
  cases r
  rcases ty with⟨rfl,xs,hq⟩ | ⟨rfl,o,hk,hc,hd⟩ | ⟨rfl,hk⟩ | ⟨rfl,S,n,hk⟩
  ·obtain⟨its,_,pl,_⟩:=I.list hq
   refine⟨pl.isList.typeIs,λa e=>?_⟩
   cases e
   obtain⟨o,n,e,c,hd,_⟩:=pl
   exact⟨o,e,hd⟩
  ·refine⟨⟨o,I.kIn p o hk,hc⟩,λa e=>?_⟩
   cases e
   exact⟨o,I.kIn _ o hk,hd⟩
  ·have z:∃ o,s.heap.get? p=some o/\o.ExactDict:=by
    rcases hk with⟨kvs,hk⟩ | ⟨kvs,hk⟩
    ·obtain⟨_,_,_,_,o,_,_,e,ex,_⟩:=I.hok p _ hk
     exact⟨o,e,ex⟩
    ·obtain⟨_,_,_,_,o,_,_,e,ex,_⟩:=I.hok p _ hk
     exact⟨o,e,ex⟩
   obtain⟨o,e,ex⟩:=z
   refine⟨⟨o,e,ex.1⟩,λa e2=>?_⟩
   cases e2
   exact⟨o,e,ex.2.1⟩
  ·obtain⟨o,_,_,_,e,ex,_⟩:=I.hok p _ hk
   refine⟨⟨o,e,ex.1⟩,λa e2=>?_⟩
   cases e2
   exact⟨o,e,ex.2.1⟩
 | _=>exact False.elim ty
def Z8x(K:Fg)(T:String)(r:V->LV->Hp->VK->Prop)(to:TE):TE:=λσ H Q=>to σ H λx H1=>tyV K T x H1/\r x [] H1 Q
def tBM(K:Fg)(T:String)(r:V->LV->Hp->VK->Prop)(to:TE)(t:TA):TE:=λσ H Q=>to σ H λx H1=>tyV K T x H1/\t σ H1 λxs H2=>r x xs H2 Q
variable {o e:Expr}{es:List Expr}{to:TE}{t:TA}{name:Str}{apos cpos:Pos}{T id:String}{r:V->LV->Hp->VK->Prop}
def Zzv(pa:PlainAttrs T)(slot:Slot T name id)(hty:typeOf (.builtin id)=pure (.type "method_descriptor"))(hm:MtR X id r)(ho:PE X o to)
  (hbase:attributeBase o name X.env (eval o X.env)=eval o X.env:=by rfl) (hline:(apos.endLine == cpos.line)=true:=by rfl):PE X (.Call (.Attribute o name apos) [] [] cpos) (Z8x X.K T r to):=by
 ac_rfl
 refine wpAny_Call_method0_late hbase hline (thn (ho pins s σ H _ I h) λv s1 ⟨x,H1,I1,r1,ty,q1⟩=>?_)
 obtain⟨h1,h2⟩:=Zy9 I1 r1 ty
 exact⟨T,id,pa,slot,hty,h1,h2,Calls.callWith_builtin rfl (PySem.evalArgs_none (hm pins s1 σ H1 x [] v [] Q I1 r1 .nil q1))⟩
def Zf0(pa:PlainAttrs T)(slot:Slot T name id)(hty:typeOf (.builtin id)=pure (.type "method_descriptor"))(hm:MtR X id r)(ho:PE X o to)(ha:PA X (e :: es) t)
  (hbase:attributeBase o name X.env (eval o X.env)=eval o X.env:=by rfl)
  (hfew:((backTo cpos (starEach (e :: es) X.env)).all (λx=>!x.1)&&(backToKw cpos (keywordEach [] X.env)).all (λx=>x.1.isSome)
   && decide ((e :: es).length + ([]:List Keyword).length + (if([]:List Keyword).isEmpty then 0 else 1)<30))=true:=by rfl)
  (hline:(apos.endLine == cpos.line)=true:=by rfl) (hs:starEach (e :: es) X.env=(false,eval e X.env):: starEach es X.env:=by rfl) (hplain:(backTo cpos (starEach es X.env)).any (·.1)=false:=by rfl):
  PE X (.Call (.Attribute o name apos) (e :: es) [] cpos) (tBM X.K T r to t):=by
 ac_rfl
 refine wpAny_Call_method_late hbase hfew hline rfl (thn (ho pins s σ H _ I h) λv s1 ⟨x,H1,I1,r1,ty,q1⟩=>?_)
 obtain⟨h1,h2⟩:=Zy9 I1 r1 ty
 refine⟨T,id,pa,slot,hty,h1,h2,?_⟩
 have hA:=ha cpos pins s1 σ H1 _ I1 q1
 rw[hs]at hA ⊢
 refine Calls.callWith_builtin (by show(false || (backTo cpos (starEach es X.env)).any (·.1))=false;rw[hplain] <;> rfl) (Calls.evalArgs_plain ?_)
 exact thn hA λus s2 ⟨vs,H2,I2,r2,q2⟩=>hm pins s2 σ H2 x vs v us Q I2 r1 r2 q2
end
def MtM(X:Cx)(id:String)(r:V->LV->Hp->VK->Prop):Prop :=
 ∀(pins:PL) (s:Shared) (σ:St) (H:Hp) (x:V) (xs:LV) (v:Value) (us:LU) (Q:VK),Inv X pins σ H s->Zcl x v->Zb0 xs us->r x xs H Q ->
  wpAny (model X.prog X.w) X.A (call (.builtin id) (v :: us)) (EP X pins σ Q) X.xe s
def Zb0.one:∀ {x:V}{us:LU},Zb0 [x] us->∃ u,us=[u]/\Zcl x u
 | _,_,.cons r .nil=>⟨_,rfl,r⟩
def Zb0.zero:∀ {us:LU},Zb0 [] us->us=[]
 | _,.nil=>rfl
theorem Zb0.dropLast{xs:LV}{us:LU}(h:Zb0 xs us):Zb0 xs.dropLast us.dropLast:=by
 induction h with
 | nil=>exact .nil
 | cons r t ih =>
  cases t with
  | nil=>exact .nil
  | cons q t'=>exact .cons r ih
theorem Zb0.rep{xs:LV}{us:LU}(h:Zb0 xs us):∀ k:Nat,Zb0 (List.replicate k xs).flatten (List.replicate k us).flatten
 | 0=>.nil
 | k + 1=>by
  rw[Yt2,Yt2,Yu3,Yu3]
  exact Zb0.append h (Zb0.rep h k)
def Zs1{α:Type}(l:List α):l.eraseIdx (l.length - 1)=l.dropLast:=by
 induction l with
 | nil=>rfl
 | cons a r ih =>
  cases r with
  | nil=>rfl
  | cons b r =>
   have e:(a :: b :: r).length - 1=((b :: r).length - 1) + 1:=by
    have h1:(a :: b :: r).length=r.length + 2:=rfl
    have h2:(b :: r).length=r.length + 1:=rfl
    omega
   rw[e,List.eraseIdx_cons_succ,ih]
   all_goals rfl
theorem Zol(its:LU):∀(k:Nat) (acc:LU),
  List.foldl (λx1 x2=>x1++x2) acc.toArray (List.replicate k its.toArray)=(acc++(List.replicate k its).flatten).toArray
 | 0,acc=>by simp
 | k + 1,acc=>by
  have e:acc.toArray++its.toArray=(acc++its).toArray:=by simp
  have e2:(acc++its)++(List.replicate k its).flatten=acc++(List.replicate (k + 1) its).flatten:=by
   rw[Yt2,Yu3,Yn3]
  rw[<- e2,<- Zol its k (acc++its),<- e,Yt2,List.foldl_cons]
section
variable {X:Cx}{pins:PL}{σ:St}{H:Hp}{s:Shared}{l b:Addr}{xs ys zs:LV}
def Inv.lset{its its':LU}{n:Nat}{f:Array Value->Array Value}{t':Nat}(I:Inv X pins σ H s)(hH:H l=some (.lst xs))
  (e:s.heap.get? l=some {cls:=.type "list",data:=.seq its.toArray n}) (hf:f its.toArray=its'.toArray) (hv:Zb0 ys its') (hz:ys.length<=sizeLine):
  Inv X pins σ (upd H l (.lst ys)) {s with heap:=s.heap.update l (Obj.mapSeq f),toks:=t' }:=by
 have q:=PySem.IsL.update e f
 rw[hf]at q
 refine I.write (x:=l) (e:=l) (by rw[hH];exact trivial) (.inl rfl) (λb' u hb hu=>(Yg2 s.heap (Obj.mapSeq f) (Ym hb)).trans hu) ⟨_,q⟩ ?_
 exact⟨hz,its',_,hv,q⟩
def Inv.lnew{its:LU}{t':Nat}(I:Inv X pins σ H s)(hv:Zb0 ys its)(hz:ys.length<=sizeLine):
  Inv X pins σ (upd H s.heap.objs.size (.lst ys)) {s with heap:=s.heap.push {cls:=.type "list",data:=.seq its.toArray},toks:=t' } :=
 I.laid (λ_ _ q=>Yb _ q) (Yd _) ⟨hz,its,0,hv,Ys _ rfl⟩
theorem Inv.fresh(I:Inv X pins σ H s):H s.heap.objs.size=none:=I.hok.fresh (Yd _)
def Inv.lstM(I:Inv X pins σ H s)(hH:H l=some (.lst xs)):xs.length<=sizeLine/\∃(its:LU) (n:Nat),Zb0 xs its/\xs.length=its.length/\s.heap.get? l=some {cls:=.type "list",data:=.seq its.toArray n}:=by
 obtain⟨z,its,n,r,e⟩:=I.hok l _ hH
 exact⟨z,its,n,r,r.length,e⟩
def Zmj{n:Nat}(h:n<=sizeLine):Builtin.List.listTooLong n=false:=by
 unfold Builtin.List.listTooLong
 exact Jc (by omega)
end
section
variable {X:Cx}
def Z0x:V->LV->Hp->VK->Prop:=λx vs H Q=>∃ l xs y,x=.ref l/\vs=[y]/\H l=some (.lst xs)/\xs.length<sizeLine/\Q .non (upd H l (.lst (xs++[y])))
def Zbw:MtM X "list.append" Z0x:=by
 intro pins s σ H x vs v us Q I rx rv h
 obtain⟨l,xs,y,rfl,rfl,hH,hz,q⟩:=h
 cases rx
 obtain⟨u,rfl,ru⟩:=rv.one
 obtain⟨z,its,n,r,hl,e⟩:=I.lstM hH
 refine call_meets F.slot_list_append ⟨_,e,rfl⟩ F.entry_list_append (F.args_list_append_2 _ _) (PySem.list_append l its.toArray n u (by rw[Yl];omega)) ⟨e,?_⟩
 refine⟨.non,_,I.lset (its':=its++[u]) hH e (by simp) (r.append (.cons ru .nil)) ?_,rfl,q⟩
 rw[Yi,Yv1]
 omega
def Z0v:V->LV->Hp->VK->Prop:=λx vs H Q=>∃ l b xs zs,x=.ref l/\vs=[.ref b]/\H l=some (.lst xs)/\H b=some (.lst zs)/\xs.length + zs.length<=sizeLine/\Q .non (upd H l (.lst (xs++zs)))
def Zil:MtM X "list.extend" Z0v:=by
 intro pins s σ H x vs v us Q I rx rv h
 obtain⟨l,b,xs,zs,rfl,rfl,hH,hB,hz,q⟩:=h
 cases rx
 obtain⟨u,rfl,ru⟩:=rv.one
 cases ru
 obtain⟨z,its,n,r,hl,e⟩:=I.lstM hH
 obtain⟨z2,its2,n2,r2,hl2,e2⟩:=I.lstM hB
 have hsz:its.toArray.size + its2.toArray.size<=sizeLine:=by rw[Yl,Yl];omega
 have hlong:¬ (!its.toArray.isEmpty&&Builtin.List.listTooLong (its.toArray.size + its2.toArray.size))=true:=by
  rw[Zmj hsz,Bool.and_false]
  exact Yg
 refine call_meets F.slot_list_extend ⟨_,e,rfl⟩ F.entry_list_extend (F.args_list_extend_2 _ _)
  (AutoSeq1.list_extend_list_list_0 l its.toArray n b its2.toArray n2 hlong (by rw[Yl];omega) (by omega)) ⟨e,e2,?_⟩
 refine⟨.non,_,I.lset (its':=its++its2) hH e (by simp) (r.append r2) ?_,rfl,q⟩
 rw[Yi]
 omega
def Z9p:V->LV->Hp->VK->Prop:=λx vs H Q=>∃ l xs y,x=.ref l/\vs=[]/\H l=some (.lst xs)/\xs[xs.length - 1]?=some y/\Q y (upd H l (.lst xs.dropLast))
def Zz1:MtM X "list.pop" Z9p:=by
 intro pins s σ H x vs v us Q I rx rv h
 obtain⟨l,xs,y,rfl,rfl,hH,hy,q⟩:=h
 cases rx
 have hus:=rv.zero
 subst hus
 obtain⟨z,its,n,r,hl,e⟩:=I.lstM hH
 obtain⟨u,hu,ru⟩:=r.get hy
 have hy':its.toArray[its.toArray.size - 1]?=some u:=by
  show its.toArray[its.length - 1]?=some u
  rw[<- Yw3,<- hl]
  exact hu
 refine call_meets F.slot_list_pop ⟨_,e,rfl⟩ F.entry_list_pop (F.args_list_pop_1 _) (MeetsSeq.list_pop_last l its.toArray n u hy' (by rw[Yl];omega)) ⟨e,?_⟩
 refine⟨y,_,I.lset (its':=its.dropLast) hH e ?_ r.dropLast ?_,ru,q⟩
 ·show its.toArray.eraseIdxIfInBounds (its.toArray.size - 1)=its.dropLast.toArray
  rw[Yl,List.eraseIdxIfInBounds_toArray,Zs1]
 ·rw[Yz4]
  omega
def Z9s:R2:=λx y H Q=>∃ l b xs zs,x=.ref l/\y=.ref b/\H l=some (.lst xs)/\H b=some (.lst zs)/\xs.length + zs.length<=sizeLine/\∀ p,H p=none->Q (.ref p) (upd H p (.lst (xs++zs)))
def Zzy:OpR X (binaryOp .Add) Z9s:=by
 exfalso
 obtain⟨l,b,xs,zs,rfl,rfl,hH,hB,hz,q⟩:=h
 cases rx
 cases ry
 obtain⟨z,its,n,r,hl,e⟩:=I.lstM hH
 obtain⟨z2,its2,n2,r2,hl2,e2⟩:=I.lstM hB
 refine PySem.P.add_list e e2 ?_ (by rw[Yl,Yl];omega)
 have ea:its.toArray++its2.toArray=(its++its2).toArray:=by simp
 rw[ea]
 exact⟨.ref _,_,I.lnew (t':=s.toks) (r.append r2) (by rw[Yi];omega),rfl,q _ I.fresh⟩
def Z9o:R2:=λx y H Q=>∃ l k xs,x=.ref l/\y=.int k/\H l=some (.lst xs)/\-(2 ^ 63)<=k/\k<2 ^ 63/\xs.length * k.toNat<=sizeLine /\
 ∀ p,H p=none->Q (.ref p) (upd H p (.lst (List.replicate k.toNat xs).flatten))
def Z1t{α:Type}(xs:List α)(k:Nat):(List.replicate k xs).flatten.length=k * xs.length:=by
 induction k with
 | zero=>simp
 | succ k ih=>rw[Yt2,Yu3,Yi,ih,Nat.succ_mul,Nat.add_comm]
def Zzw:OpR X (binaryOp .Mult) Z9o:=by
 exfalso
 obtain⟨l,k,xs,rfl,rfl,hH,h1,h2,hz,q⟩:=h
 cases rx
 obtain⟨t,rfl⟩:=ry
 obtain⟨z,its,n,r,hl,e⟩:=I.lstM hH
 have hlen:its.toArray.size * k.toNat<=sizeLine:=by rw[Yl,<- hl];exact hz
 have hcap:¬ its.toArray.size * k.toNat > (2 ^ 63 - 1) / 8:=by
  have:(sizeLine:Nat)<=(2 ^ 63 - 1) / 8:=by decide
  omega
 have hfit:¬ (!Builtin.List.listFitsIndex k)=true:=by
  rw[fitsIndex_both h1 h2]
  exact Yg
 have hlong:¬ Builtin.List.listTooLong (its.toArray.size * k.toNat)=true:=by
  rw[Zmj hlen]
  exact Yg
 have hnew:List.foldl (λx1 x2=>x1++x2) #[] (List.replicate (if its.toArray.isEmpty=true then 0 else k.toNat) its.toArray)=(List.replicate k.toNat its).flatten.toArray:=by
  have f0:∀ m:Nat,List.foldl (λx1 x2=>x1++x2) #[] (List.replicate m its.toArray)=(List.replicate m its).flatten.toArray:=λm=>by
   have:=Zol its m []
   rw[List.nil_append]at this
   exact this
  rw[f0]
  cases its with
  | nil=>simp
  | cons a r'=>rw[if_neg (by simp)]
 refine wpAny_binaryOp_repeat_ref (T:="list") (U:="int") (by decide) ⟨_,e,rfl⟩ (λs'=>typeIs_int s' k t) noFill_list_mul F.fills_int_mul F.slot_int_rmul repeat_list F.slot_int_index.lookup
  (call_meets F.slot_int_rmul (typeIs_int s k t) F.entry_int_rmul (F.args_int_rmul_2 _ _) (int___rmul___int_list k t l its.toArray n)
   ⟨e,rfl,⟨_,e,rfl⟩,call_meets F.slot_list_mul ⟨_,e,rfl⟩ F.entry_list_mul (F.args_list_mul_2 _ _) (AutoListH.list___mul___list_int_3 l its.toArray n k t hfit hcap hlong) ⟨e,?_⟩⟩)
 rw[hnew]
 exact⟨.ref _,_,I.lnew (t':=s.toks) (r.rep k.toNat) (by rw[Z1t,Nat.mul_comm];exact hz),rfl,q _ I.fresh⟩
end
section
variable {prog:Program}{w:World}{A:Around}{E:EV}{s:Shared}
end
section
variable {X:Cx}
end
section
variable {κ:Type}[DecidableEq κ]
def Zex(kvs:List (κ×V))(k:κ):OV:=(kvs.find? λkv=>decide (kv.1=k)).map (·.2)
def Zdt(kvs:List (κ×V))(k:κ)(v:V):List (κ×V):=
 if(kvs.any λkv=>decide (kv.1=k))=true then kvs.map (λkv=>if kv.1=k then(kv.1,v)else kv)else kvs++[(k,v)]
def Zcc{p:κ×V}{r:List (κ×V)}{k:κ}(e:p.1=k):Zex (p :: r) k=some p.2:=by simp[Zex,Yy2,e]
def Zcd{p:κ×V}{r:List (κ×V)}{k:κ}(e:¬ p.1=k):Zex (p :: r) k=Zex r k:=by simp[Zex,Yy2,e]
theorem Zgh(k:κ):∀ kvs:List (κ×V),(kvs.any λkv=>decide (kv.1=k))=(Zex kvs k).isSome
 | []=>rfl
 | p :: r=>by
  rw[Yk3]
  by_cases e:p.1=k
  ·simp only[Zcc e,Jb e,Bool.true_or,Option.isSome_some]
  ·rw[Zcd e,Jc e,Bool.false_or];exact Zgh k r
theorem Zqk(k j:κ)(y:V):∀ kvs:List (κ×V),Zex (kvs.map λkv=>if kv.1=k then(kv.1,y)else kv) j=(Zex kvs j).map λx=>if j=k then y else x
 | []=>rfl
 | p :: r=>by
  have ih:=Zqk k j y r
  rw[Yy]
  by_cases h:p.1=k
  ·rw[if_pos h]
   by_cases e:p.1=j
   ·rw[Zcc (p:=(p.1,y)) e,Zcc e,Ya5,if_pos (e.symm.trans h)]
   ·rw[Zcd (p:=(p.1,y)) e,Zcd e,ih]
  ·rw[if_neg h]
   by_cases e:p.1=j
   ·rw[Zcc (p:=p) e,Zcc e,Ya5,if_neg (λz=>h (e.trans z))]
   ·rw[Zcd (p:=p) e,Zcd e,ih]
theorem Zm5(k j:κ)(y:V):∀ kvs:List (κ×V),Zex kvs k=none->Zex (kvs++[(k,y)]) j=if j=k then some y else Zex kvs j
 | [],_=>by
  by_cases e:k=j
  ·rw[if_pos e.symm];exact Zcc (p:=(k,y)) e
  ·rw[if_neg (λz=>e z.symm)];exact Zcd (p:=(k,y)) e
 | p :: r,hn=>by
  rw[List.cons_append]
  have hk:¬ p.1=k:=λz=>by rw[Zcc z]at hn;cases hn
  rw[Zcd hk]at hn
  have ih:=Zm5 k j y r hn
  by_cases e:p.1=j
  ·rw[Zcc e,Zcc e,if_neg (λz=>hk (e.trans z))]
  ·rw[Zcd e,Zcd e,ih]
def Zlq(kvs:List (κ×V))(k j:κ)(y:V):Zex (Zdt kvs k y) j=if j=k then some y else Zex kvs j:=by
 unfold Zdt
 by_cases a:(kvs.any λkv=>decide (kv.1=k))=true
 ·rw[if_pos a,Zqk]
  rw[Zgh]at a
  by_cases e:j=k
  ·obtain⟨x,hx⟩:=Yi4.mp a
   rw[if_pos e,e,hx,Ya5,if_pos rfl]
  ·rw[if_neg e]
   cases Zex kvs j with
   | none=>rfl
   | some x=>rw[Ya5,if_neg e]
 ·rw[if_neg a]
  refine Zm5 k j y kvs ?_
  rw[Zgh]at a
  cases q:Zex kvs k with
  | none=>rfl
  | some x=>rw[q]at a;exact(a rfl).elim
def Zgs(kvs:List (κ×V))(k:κ)(v:V):(Zdt kvs k v).length<=kvs.length + 1:=by
 unfold Zdt
 split
 ·rw[Ya];omega
 ·rw[Yi,Yf1,Yb5];omega
def Zfr{kvs:List (κ×V)}{k:κ}(v:V)(h:Zex kvs k=none):Zdt kvs k v=kvs++[(k,v)]:=by
 unfold Zdt
 rw[Zgh,h]
 exact if_neg (by decide)
def Zo3.isSome_eq{o:OV}{u:OU}(r:Zo3 o u):o.isSome=u.isSome:=by
 cases o with
 | none=>cases u with
  | none=>rfl
  | some _=>exact(show False from r).elim
 | some _=>cases u with
  | none=>exact(show False from r).elim
  | some _=>rfl
def KV.val{kvs:List (κ×V)}{vs:List (κ×Value)}(r:KV kvs vs)(k:κ):Zo3 (Zex kvs k) (valueAt vs k):=by
 unfold KV at r
 induction r with
 | nil=>exact True.intro
 | @cons p q ps qs h t ih =>
  obtain⟨h1,h2⟩:=h
  by_cases e:p.1=k
  ·have e':q.1=k:=h1.symm.trans e
   have b:valueAt (q :: qs) k=some q.2:=by simp[valueAt,Yy2,e']
   rw[Zcc e,b];exact h2
  ·have e':¬ q.1=k:=λz=>e (h1.trans z)
   have b:valueAt (q :: qs) k=valueAt qs k:=by simp[valueAt,Yy2,e']
   rw[Zcd e,b];exact ih
theorem KV.any{kvs:List (κ×V)}{vs:List (κ×Value)}(r:KV kvs vs)(k:κ):(kvs.any λkv=>decide (kv.1=k))=vs.any λkv=>decide (kv.1=k):=by
 unfold KV at r
 induction r with
 | nil=>rfl
 | cons h t ih=>rw[Yk3,Yk3,ih,h.1]
def KV.repl{kvs:List (κ×V)}{vs:List (κ×Value)}(r:KV kvs vs)(k:κ){y:V}{u:Value}(ry:Zcl y u):
  KV (kvs.map λkv=>if kv.1=k then(kv.1,y)else kv) (vs.map λkv=>if kv.1=k then(kv.1,u)else kv):=by
 unfold KV at r ⊢
 induction r with
 | nil=>exact .nil
 | @cons p q ps qs h t ih =>
  rw[Yy,Yy]
  refine .cons ?_ ih
  obtain⟨h1,h2⟩:=h
  by_cases e:p.1=k
  ·rw[if_pos e,if_pos (h1.symm.trans e)];exact⟨h1,ry⟩
  ·rw[if_neg e,if_neg (λz=>e (h1.trans z))];exact⟨h1,h2⟩
def KV.put{kvs:List (κ×V)}{vs:List (κ×Value)}(r:KV kvs vs)(k:κ){y:V}{u:Value}(ry:Zcl y u):KV (Zdt kvs k y) (stored vs k u):=by
 unfold Zdt stored
 rw[r.any k]
 by_cases e:(vs.any λkv=>decide (kv.1=k))=true
 ·rw[if_pos e,if_pos e];exact r.repl k ry
 ·rw[if_neg e,if_neg e];exact Yh2 r ⟨rfl,ry⟩
theorem KV.length{kvs:List (κ×V)}{vs:List (κ×Value)}(r:KV kvs vs):kvs.length=vs.length:=Yz r
end
def Zsv{P:Program}{w:World}{k:Key}{u:Value}(r:Zcl (kV k) u):(Zbu P w).is k u=true:=by
 cases k with
 | inl i=>obtain⟨t,e⟩:=(show ∃ t,u=Value.int i t from r);subst e;exact Zpt P w i t
 | inr x=>obtain⟨t,e⟩:=(show ∃ t,u=Value.str x t from r);subst e;exact Zps P w x t
theorem Zoi{P:Program}{w:World}:∀ {ks:List Key}{us:LU},Zb0 (ks.map kV) us->ItemsAre (Zbu P w) ks us
 | [],_,r=>by rw[List.map_nil]at r;cases r;exact .nil
 | k :: ks,_,r=>by
  rw[Yy]at r
  cases r with
  | cons h t=>exact .cons (Zsv h) (Zoi t)
abbrev KT(H:Hp):List (List Key×V)->List (List Key×Addr×Value)->Prop:=Paired λp q=>p.1=q.1/\H q.2.1=some (.tup (p.1.map kV))/\Zcl p.2 q.2.2
def KT.val{H:Hp}{kvs:List (List Key×V)}{xs:List (List Key×Addr×Value)}(r:KT H kvs xs)(k:List Key):Zo3 (Zex kvs k) ((atKey xs k).map (·.2)):=by
 induction r with
 | nil=>exact True.intro
 | @cons p q ps qs h t ih =>
  obtain⟨h1,_,h2⟩:=h
  by_cases e:p.1=k
  ·have e':q.1=k:=h1.symm.trans e
   have b:atKey (q :: qs) k=some q.2:=by simp[atKey,Yy2,e']
   rw[Zcc e,b];exact h2
  ·have e':¬ q.1=k:=λz=>e (h1.trans z)
   have b:atKey (q :: qs) k=atKey qs k:=by simp[atKey,Yy2,e']
   rw[Zcd e,b];exact ih
def KT.repl{H:Hp}{kvs:List (List Key×V)}{xs:List (List Key×Addr×Value)}(r:KT H kvs xs)(k:List Key){y:V}{u:Value}(ry:Zcl y u):
  KT H (kvs.map λkv=>if kv.1=k then(kv.1,y)else kv) (xs.map (putAt k u)):=by
 induction r with
 | nil=>exact .nil
 | @cons p q ps qs h t ih =>
  rw[Yy,Yy]
  refine .cons ?_ ih
  obtain⟨h1,h2,h3⟩:=h
  unfold putAt
  by_cases e:p.1=k
  ·rw[if_pos e,if_pos (h1.symm.trans e)];exact⟨h1,h2,ry⟩
  ·rw[if_neg e,if_neg (λz=>e (h1.trans z))];exact⟨h1,h2,h3⟩
def KT.put{H:Hp}{kvs:List (List Key×V)}{xs:List (List Key×Addr×Value)}(r:KT H kvs xs)(k:List Key){b:Addr}{y:V}{u:Value}(hb:H b=some (.tup (k.map kV)))(ry:Zcl y u):
  KT H (Zdt kvs k y) (storedH xs k b u):=by
 have e:(kvs.any λkv=>decide (kv.1=k))=(atKey xs k).isSome:=by
  rw[Zgh,(r.val k).isSome_eq,Option.isSome_map]
 unfold Zdt storedH
 rw[e]
 by_cases q:(atKey xs k).isSome=true
 ·rw[if_pos q,if_pos q];exact r.repl k ry
 ·rw[if_neg q,if_neg q];exact Yh2 r ⟨rfl,hb,ry⟩
def KT.keeps{H H':Hp}{kvs:List (List Key×V)}{xs:List (List Key×Addr×Value)}(r:KT H kvs xs)(ht:∀ b ys,H b=some (.tup ys)->H' b=some (.tup ys)):KT H' kvs xs :=
 Paired.mapP r λ_ _ z=>⟨z.1,ht _ _ z.2.1,z.2.2⟩
section
variable {P:Program}{w:World}{H:Hp}{h:Heap}{a:Addr}
def Z3t{u:HO}(ok:HOk P w H h)(e:Rd H a u):Zb6 P w H h a u:=e.ok ok
def Zp7{kvs:KL}(ok:HOk P w H h)(e:Rd H a (.dK kvs)):kvs.length<=sizeLine/\(a == sysModules)=false/\∃ vs,KV kvs vs/\h.DictOf (Zbu P w) a vs :=
 show Zb6 P w H h a (.dK kvs)from Z3t ok e
def Z45{kvs:KL}(ok:HOk P w H h)(e:H a=some (.dK kvs)):kvs.length<=sizeLine/\(a == sysModules)=false/\∃ vs,KV kvs vs/\h.DictOf (Zbu P w) a vs:=Zp7 ok (.inl e)
def Zoh{ks:List Key}(ok:HOk P w H h)(e:H a=some (.tup (ks.map kV))):(tupleKind (Zbu P w)).is h ks a:=by
 obtain⟨_,its,r,o,h1,h2,n,h3⟩:=(show Zb6 P w H h a (.tup (ks.map kV))from ok a _ e)
 exact⟨o,its.toArray,n,h1,h2,h3,by simpa using Zoi r⟩
def Zs3{kvs:List (List Key×V)}(ok:HOk P w H h)(e:Rd H a (.dT kvs)):kvs.length<=sizeLine/\(a == sysModules)=false /\
  ∃ xs,KT H kvs xs/\h.DictOfH (tupleKind (Zbu P w)) a xs:=by
 obtain⟨z,y,xs,r,o,es,ep,h1,h2,h3,h4,h5⟩:=(show Zb6 P w H h a (.dT kvs)from Z3t ok e)
 refine⟨z,y,xs,r,o,es,ep,h1,h2,h3,h4,λx hx=>?_,h5⟩
 have all:∀ {l:List (List Key×V)} {m:List (List Key×Addr×Value)},KT H l m->∀ x∈m,(tupleKind (Zbu P w)).is h x.1 x.2.1:=by
  intro l m q
  induction q with
  | nil=>intro x hx;exact nomatch hx
  | @cons p q ps qs hq t ih =>
   intro x hx
   rcases Yg1.mp hx with e | hx
   ·subst e
    exact Zoh ok (by rw[<- hq.1];exact hq.2.1)
   ·exact ih x hx
 exact all r x hx
def Z6y{kvs:List (List Key×V)}(ok:HOk P w H h)(e:H a=some (.dT kvs)):kvs.length<=sizeLine/\(a == sysModules)=false /\
  ∃ xs,KT H kvs xs/\h.DictOfH (tupleKind (Zbu P w)) a xs:=Zs3 ok (.inl e)
end
def Zgg(H:Hp)(a:Addr)(y:V)(r:OV):Prop :=
 (∃ kvs k,Rd H a (.dK kvs)/\y=kV k/\r=Zex kvs k)\/∃ kvs k b,Rd H a (.dT kvs)/\y=.ref b/\H b=some (.tup (k.map kV))/\r=Zex kvs k
def Zm3(H:Hp)(a:Addr)(y v:V)(H':Hp):Prop :=
 (∃ kvs k,H a=some (.dK kvs)/\y=kV k/\kvs.length<sizeLine/\H'=upd H a (.dK (Zdt kvs k v))) \/
 ∃ kvs k b,H a=some (.dT kvs)/\y=.ref b/\H b=some (.tup (k.map kV))/\kvs.length<sizeLine/\H'=upd H a (.dT (Zdt kvs k v))
def Zgg.k{H:Hp}{a:Addr}{kvs:KL}{k:Key}(e:H a=some (.dK kvs)):Zgg H a (kV k) (Zex kvs k):=.inl ⟨kvs,k,.inl e,rfl,rfl⟩
def Zgg.t{H:Hp}{a b:Addr}{kvs:List (List Key×V)}{k:List Key}(e:H a=some (.dT kvs))(eb:H b=some (.tup (k.map kV))):Zgg H a (.ref b) (Zex kvs k):=.inr ⟨kvs,k,b,.inl e,rfl,eb,rfl⟩
def Zm3.k{H:Hp}{a:Addr}{kvs:KL}{k:Key}{v:V}(e:H a=some (.dK kvs))(hl:kvs.length<sizeLine):Zm3 H a (kV k) v (upd H a (.dK (Zdt kvs k v))):=.inl ⟨kvs,k,e,rfl,hl,rfl⟩
def Zm3.t{H:Hp}{a b:Addr}{kvs:List (List Key×V)}{k:List Key}{v:V}(e:H a=some (.dT kvs))(eb:H b=some (.tup (k.map kV)))(hl:kvs.length<sizeLine):
  Zm3 H a (.ref b) v (upd H a (.dT (Zdt kvs k v))):=.inr ⟨kvs,k,b,e,rfl,eb,hl,rfl⟩
section
variable {X:Cx}{pins:PL}{σ:St}{H:Hp}{s:Shared}{a:Addr}{y v:V}{u r:Value}{o:OV}{A:Around}{E:EV}
def Inv.big(I:Inv X pins σ H s):sysModules<s.heap.objs.size:=by
 have h:mainGlobals<s.heap.objs.size:=(I.mod.glob.keeps I.bk).lt
 exact Nat.lt_trans (by decide) h
def Zwe{Q:EV}(hu:A.units + 1<cLine)(I:Inv X pins σ H s)(g:Zgg H a y (some v))(ry:Zcl y u)(h:∀ w' s',Inv X pins σ H s'->Zcl v w'->Q w' s'):
  wpAny (model X.prog X.w) A (getItem (.ref a) u) Q E s:=by
 rcases g with⟨kvs,k,e,ey,l⟩ | ⟨kvs,k,b,e,ey,eb,l⟩
 ·subst ey
  obtain⟨z,hd,vs,rel,dd⟩:=Zp7 I.hok e
  obtain⟨w',hw,rw'⟩:=Zo3.some_of (v:=v) (o:=valueAt vs k) (by rw[l];exact rel.val k)
  exact wpAny_getItem_of (Zsv ry) dd.mapOf hw (h w' _ (I.tok _) rw')
 ·subst ey
  cases(show u=Value.ref b from ry)
  obtain⟨z,hd,xs,rel,dd⟩:=Zs3 I.hok e
  obtain⟨w',hw,rw'⟩:=Zo3.some_of (v:=v) (o:=(atKey xs k).map (·.2)) (by rw[l];exact rel.val k)
  obtain⟨p,hp,hp2⟩:=Yk1.mp hw
  refine wpAny_getItem_heap (tupleKind_room_in1 hu) (Zoh I.hok eb) dd hp ?_
  rw[hp2]
  exact h w' _ (I.tok _) rw'
def Z98{Q:EV}(hu:A.units + 1<cLine)(I:Inv X pins σ H s)(g:Zgg H a y o)(ry:Zcl y u)(h:∀ s',Inv X pins σ H s'->Q (.bool o.isSome) s'):
  wpAny (model X.prog X.w) A (compareOp .In u (.ref a)) Q E s:=by
 rcases g with⟨kvs,k,e,ey,l⟩ | ⟨kvs,k,b,e,ey,eb,l⟩
 ·subst ey
  obtain⟨z,hd,vs,rel,dd⟩:=Zp7 I.hok e
  refine wpAny_in_of (Zsv ry) hd dd.mapOf ?_
  rw[<- (rel.val k).isSome_eq,<- l]
  exact h _ (I.tok _)
 ·subst ey
  cases(show u=Value.ref b from ry)
  obtain⟨z,hd,xs,rel,dd⟩:=Zs3 I.hok e
  refine wpAny_in_heap (tupleKind_room_in1 hu) (Zoh I.hok eb) hd dd ?_
  have q:=(rel.val k).isSome_eq
  rw[Option.isSome_map]at q
  rw[<- q,<- l]
  exact h _ (I.tok _)
def Z2e{Q:EV}(hu:A.units + 1<cLine)(I:Inv X pins σ H s)(g:Zgg H a y o)(ry:Zcl y u)(h:∀ s',Inv X pins σ H s'->Q (.bool (!o.isSome)) s'):
  wpAny (model X.prog X.w) A (compareOp .NotIn u (.ref a)) Q E s:=by
 rcases g with⟨kvs,k,e,ey,l⟩ | ⟨kvs,k,b,e,ey,eb,l⟩
 ·subst ey
  obtain⟨z,hd,vs,rel,dd⟩:=Zp7 I.hok e
  refine wpAny_notIn_of (Zsv ry) hd dd.mapOf ?_
  rw[<- (rel.val k).isSome_eq,<- l]
  exact h _ (I.tok _)
 ·subst ey
  cases(show u=Value.ref b from ry)
  obtain⟨z,hd,xs,rel,dd⟩:=Zs3 I.hok e
  refine wpAny_notIn_heap (tupleKind_room_in1 hu) (Zoh I.hok eb) hd dd ?_
  have q:=(rel.val k).isSome_eq
  rw[Option.isSome_map]at q
  rw[<- q,<- l]
  exact h _ (I.tok _)
def Zp9{h':Heap}{t':Nat}{ob:HO}(I:Inv X pins σ H s)(mu:Mut (H a))(hs:Heap.SameBut a s.heap h')(he:∃ q,h'.get? a=some q)(new:Zb6 X.prog X.w (upd H a ob) h' a ob):
  Inv X pins σ (upd H a ob) {s with heap:=h',toks:=t' } :=
 I.write (x:=a) (e:=a) mu (.inl rfl) (λb q hb z=>(hs.2 b hb).trans z) he new
def Zz9{P:Program}{w:World}{H':Hp}{h':Heap}{kvs:KL}{vs:List (Key×Value)}(z:kvs.length<=sizeLine)(hd:(a == sysModules)=false)(rel:KV kvs vs)(dd:h'.DictOf (Zbu P w) a vs):
  Zb6 P w H' h' a (.dK kvs):=⟨z,hd,vs,rel,dd⟩
def Zwd{H':Hp}{Q:Unit->Shared->Prop}(hu:A.units + 1<cLine)(I:Inv X pins σ H s)(g:Zm3 H a y v H')(ry:Zcl y u)(rv:Zcl v r)(h:∀ s',Inv X pins σ H' s'->Q () s'):
  wpAny (model X.prog X.w) A (setItem (.ref a) u r) Q E s:=by
 rcases g with⟨kvs,k,e,ey,l,eH⟩ | ⟨kvs,k,b,e,ey,eb,l,eH⟩
 ·subst ey eH
  obtain⟨z,hd,vs,rel,dd⟩:=Z45 I.hok e
  have hz:vs.length<=sizeLine:=by rw[<- rel.length];exact z
  have hl:(Zdt kvs k v).length<=sizeLine:=by have:=Zgs kvs k v;omega
  refine wpAny_setItem_pairs (hsz:=hz) (Zsv ry) dd λh' dd' hs=>h _ ?_
  have he:∃ q,h'.get? a=some q:=let⟨q,_,_,hq,_⟩:=dd';⟨q,hq⟩
  exact Zp9 I (by rw[e];exact True.intro) hs he (Zz9 hl hd (rel.put k rv) dd')
 ·subst ey eH
  cases(show u=Value.ref b from ry)
  obtain⟨z,hd,xs,rel,dd⟩:=Z6y I.hok e
  have hz:xs.length<=sizeLine:=by rw[<- Yz rel];exact z
  have hl:(Zdt kvs k v).length<=sizeLine:=by have:=Zgs kvs k v;omega
  refine wpAny_setItem_heap (hsz:=hz) (tupleKind_room_in1 hu) (Zoh I.hok eb) dd λh' dd' hs=>h _ ?_
  obtain⟨q,es,ep,hq,h2,h3,h4,_,h5⟩:=dd'
  refine Zp9 I (by rw[e];exact True.intro) hs ⟨q,hq⟩ ⟨hl,hd,_,(rel.put k eb rv).keeps λc ys ec=>?_,q,es,ep,hq,h2,h3,h4,h5⟩
  rw[Zab (Z1l ec e (λz=>nomatch z))]
  exact ec
end
section
variable {X:Cx}{pins:PL}{σ:St}{H:Hp}{s:Shared}{a:Addr}{kvs:KL}{k:Key}{u:Value}{A:Around}{E:EV}
end
def Z8m(i:Expr):Prop:=∀ ov iv,subscripted i false ov iv=operate [ov,iv] (getItem ov iv)
def Z0m{prog:Program}{w:World}{A:Around}{E:EV}{s:Shared}{env:Env}{value slice:Expr}{pos:Pos}{T id:String}{Q:EV}
  (hl:typeLookup (.type T) "__getitem__"=pure (some (.builtin id))) (hs:Z8m slice)
  (h:wpAny (model prog w) A (eval value env) (λo s₁=>wpAny (model prog w) A (eval slice env) (λi s₂=>s₂.TypeIs o T/\wpAny (model prog w) A (getItem o i) Q E s₂) E s₁) E s):
  wpAny (model prog w) A (eval (.Subscript value slice pos) env) Q E s:=by
 refine Subscript_ (Jf h (λo s₁ h₁=>Jf h₁ (λi s₂ h₂=>?_) λ_ _ x=>x) λ_ _ x=>x)
 obtain⟨hT,h₂⟩:=h₂
 unfold subscriptTail
 refine Ja ?_
 rw[getitemInPython_of_ne hT.not_modules]
 refine Ja (wpAny_specialOf hT hl ?_)
 have fin:wpAny (model prog w) A (subscripted slice false o i) (λr s₃=>wpAny (model prog w) A (letTemporaryGo value o r>>=λ_=>pure r) Q E s₃) E s₂:=by
  rw[hs o i]
  exact wpAny_operating (Jf h₂ (λr s₃ h₃=>Ja (wpAny_letTemporaryGo (Jd h₃))) λ_ _ x=>x)
 first
  | exact Jd (Ja fin)
  | exact Ja (Jd (Ja fin))
  | exact Ja fin
def Zp8{X:Cx}{pins:PL}{σ:St}{H:Hp}{s:Shared}{a:Addr}{y:V}{o:OV}(I:Inv X pins σ H s)(g:Zgg H a y o):s.TypeIs (.ref a) "dict":=by
 rcases g with⟨kvs,k,e,_,_⟩ | ⟨kvs,k,b,e,_,_,_⟩
 ·obtain⟨_,_,vs,_,dd⟩:=Zp7 I.hok e
  exact dd.typeIs
 ·obtain⟨_,_,xs,_,dd⟩:=Zs3 I.hok e
  exact dd.typeIs
def Z51(td ty:TE):TE:=λσ H Q=>td σ H λx H1=>ty σ H1 λy H2=>∃ a v,x=.ref a/\Zgg H2 a y (some v)/\Q v H2
def Z8w(ty td:TE):TE:=λσ H Q=>ty σ H λy H1=>td σ H1 λx H2=>∃ a o,x=.ref a/\Zgg H2 a y o/\Q (.bl o.isSome) H2
def Z0k(ty td:TE):TE:=λσ H Q=>ty σ H λy H1=>td σ H1 λx H2=>∃ a o,x=.ref a/\Zgg H2 a y o/\Q (.bl (!o.isSome)) H2
def Z6a(td ty tv:TE):TS:=λD σ H=>tv σ H λv H1=>td σ H1 λx H2=>ty σ H2 λy H3=>∃ a H4,x=.ref a/\Zm3 H3 a y v H4/\D.nx σ H4
section
variable {X:Cx}{o i e value:Expr}{pos pos' tpos:Pos}{td ty tv:TE}
def Zd1(hu:X.A.units + 1<cLine)(ho:PE X o td)(hi:PE X i ty)(hs:Z8m i):PE X (.Subscript o i pos) (Z51 td ty):=by
 ac_rfl
 refine Z0m PySem.F.slot_dict_getitem.lookup hs (thn (ho pins s σ H _ I h) λu s1 ⟨x,H1,I1,rx,q1⟩=>thn (hi pins s1 σ H1 _ I1 q1) λiv s2 ⟨y,H2,I2,ry,a,v,ex,g,q2⟩=>?_)
 subst ex
 obtain rfl:u=Value.ref a:=rx
 exact⟨Zp8 I2 g,Zwe hu I2 g ry λw' s3 I3 rw'=>⟨v,H2,I3,rw',q2⟩⟩
def Zjb(hu:X.A.units + 1<cLine)(hi:PE X i ty)(ho:PE X o td):PC X .In i o (Z8w ty td):=by
 ac_rfl
 refine thn (hi pins s σ H _ I h) λiv s1 ⟨y,H1,I1,ry,q1⟩=>thn (ho pins s1 σ H1 _ I1 q1) λu s2 ⟨x,H2,I2,rx,a,ov,ex,g,q2⟩=>?_
 subst ex
 obtain rfl:u=Value.ref a:=rx
 exact Z98 hu I2 g ry λs3 I3=>⟨.bl ov.isSome,H2,I3,rfl,q2⟩
def Zg6(hu:X.A.units + 1<cLine)(hi:PE X i ty)(ho:PE X o td):PC X .NotIn i o (Z0k ty td):=by
 ac_rfl
 refine thn (hi pins s σ H _ I h) λiv s1 ⟨y,H1,I1,ry,q1⟩=>thn (ho pins s1 σ H1 _ I1 q1) λu s2 ⟨x,H2,I2,rx,a,ov,ex,g,q2⟩=>?_
 subst ex
 obtain rfl:u=Value.ref a:=rx
 exact Z2e hu I2 g ry λs3 I3=>⟨.bl (!ov.isSome),H2,I3,rfl,q2⟩
def Zel(hu:X.A.units + 1<cLine)(ho:PE X o td)(hi:PE X i ty)(hv:PE X value tv)(hs:swapsWith value (some (.Subscript o i pos')) pos.line X.env=pure false):
  PS X (.Assign [.Subscript o i pos'] value pos) (Z6a td ty tv):=by
 intro pins s σ H D I h
 refine wpAny_Assign_Subscript (thn (hv pins s σ H _ I h) λr s1 ⟨v,H1,I1,rv,q1⟩=>thn (ho pins s1 σ H1 _ I1 q1) λu s2 ⟨x,H2,I2,rx,q2⟩=>thn (hi pins s2 σ H2 _ I2 q2) λiv s3 ⟨y,H3,I3,ry,a,H4,ex,g,q3⟩=>?_) hs
 subst ex
 obtain rfl:u=Value.ref a:=rx
 exact Zwd hu I3 g ry rv λs4 I4=>⟨σ,H4,I4,q3⟩
end
def Zrq{P:Program}{w:World}{H:Hp}(h:Heap)(hb:sysModules<h.objs.size):Zb6 P w H (h.push {cls:=.type "dict",data:=.dict #[] }) h.objs.size (.dK []):=
 ⟨Yv _,beq_eq_false_iff_ne.mpr (Ym (Yc1 hb)),[],.nil,Heap.DictOf.new h⟩
def Zyz{P:Program}{w:World}{H:Hp}(h:Heap)(hb:sysModules<h.objs.size):Zb6 P w H (h.push {cls:=.type "dict",data:=.dict #[] }) h.objs.size (.dT []):=
 ⟨Yv _,beq_eq_false_iff_ne.mpr (Ym (Yc1 hb)),[],.nil,_,#[],0,Ys _ rfl,⟨rfl,rfl,rfl⟩,rfl,rfl,Yf3⟩
def Z3a:TE:=λ_ H Q=>∀ p,H p=none->Q (.ref p) (upd H p (.dK []))
def Z29:TE:=λ_ H Q=>∀ p,H p=none->Q (.ref p) (upd H p (.dT []))
section
variable {X:Cx}{pos:Pos}
def Zeb:PE X (.Dict [] [] pos) Z3a:=λpins s σ H Q I h =>
 wpAny_Dict_empty ⟨.ref s.heap.objs.size,_,I.laid (a:=s.heap.objs.size) (o:=.dK []) (t':=s.toks) (λ_ _ q=>Yb _ q) (Yd _) (Zrq s.heap I.big),rfl,h _ (I.hok.fresh (Yd _))⟩
def Zxn:PE X (.Dict [] [] pos) Z29:=λpins s σ H Q I h =>
 wpAny_Dict_empty ⟨.ref s.heap.objs.size,_,I.laid (a:=s.heap.objs.size) (o:=.dT []) (t':=s.toks) (λ_ _ q=>Yb _ q) (Yd _) (Zyz s.heap I.big),rfl,h _ (I.hok.fresh (Yd _))⟩
end
def Zto:List (TE×TE)->St->Hp->(List (V×V)->Hp->Prop)->Prop
 | [],_,H,Q=>Q [] H
 | (tk,tv):: r,σ,H,Q=>tk σ H λx H1=>tv σ H1 λy H2=>Zto r σ H2 λps H3=>Q ((x,y):: ps) H3
abbrev VV:List (V×V)->List (Value×Value)->Prop:=Paired λp q=>Zcl p.1 q.1/\Zcl p.2 q.2
def PPs(X:Cx)(pos:Pos)(keys:List (Option Expr))(values:List Expr)(trs:List (TE×TE)):Prop :=
 ∀(pins:PL) (s:Shared) (σ:St) (H:Hp) (Q:List (V×V)->Hp->Prop),Inv X pins σ H s->Zto trs σ H Q ->
  wpAny (model X.prog X.w) X.A (evalPairs (pairTrees keys values X.env pos)) (λvs s'=>∃ ps H',Inv X pins σ H' s'/\VV ps vs/\Q ps H') X.xe s
def Z0z{X:Cx}{pos:Pos}:PPs X pos [] [] []:=λpins s σ H Q I h=>pairTrees_nil_walk ⟨[],H,I,.nil,h⟩
def Zxl{X:Cx}{pos:Pos}{k v:Expr}{ks:List (Option Expr)}{vs:List Expr}{tk tv:TE}{trs:List (TE×TE)}(hk:PE X k tk)(hv:PE X v tv)(hr:PPs X pos ks vs trs):
  PPs X pos (some k :: ks) (v :: vs) ((tk,tv):: trs):=λpins s σ H Q I h =>
 pairTrees_cons_walk (thn (hk pins s σ H _ I h) λu s1 ⟨x,H1,I1,rx,q1⟩=>thn (hv pins s1 σ H1 _ I1 q1) λw2 s2 ⟨y,H2,I2,ry,q2⟩ =>
  thn (hr pins s2 σ H2 _ I2 q2) λws s3 ⟨ps,H3,I3,rel,q3⟩=>⟨(x,y):: ps,H3,I3,.cons ⟨rx,ry⟩ rel,q3⟩)
def Zob(kvs more:KL):KL:=more.foldl (λacc kv=>Zdt acc kv.1 kv.2) kvs
def KV.merge:∀ {more:KL}{rs:List (Key×Value)}{kvs:KL}{vs:List (Key×Value)},KV more rs->KV kvs vs->KV (Zob kvs more) (merged vs rs):=by
 intro more rs kvs vs r
 unfold KV at r
 induction r generalizing kvs vs with
 | nil=>intro q;exact q
 | @cons p q ps qs h t ih =>
  intro r0
  have e:KV (Zdt kvs p.1 p.2) (stored vs q.1 q.2):=by
   have:=r0.put p.1 h.2
   rw[<- h.1];exact this
  exact ih e
theorem Zio:∀(more kvs:KL),(Zob kvs more).length<=kvs.length + more.length
 | [],kvs=>by show kvs.length<=kvs.length + 0;omega
 | p :: r,kvs=>by
  have h1:=Zio r (Zdt kvs p.1 p.2)
  have h2:=Zgs kvs p.1 p.2
  show(Zob (Zdt kvs p.1 p.2) r).length<=_
  rw[Yf1];omega
theorem Zlo{P:Program}{w:World}:∀ {kvs:KL}{ws:List (Value×Value)},VV (kvs.map λkv=>(kV kv.1,kv.2)) ws->∃ rs,Carries (Zbu P w) ws rs/\KV kvs rs
 | [],_,r=>by rw[List.map_nil]at r;cases r;exact⟨[],True.intro,.nil⟩
 | p :: kvs,_,r=>by
  rw[Yy]at r
  cases r with
  | @cons a b as bs h t =>
   obtain⟨rs,c,q⟩:=Zlo (P:=P) (w:=w) t
   obtain⟨b1,b2⟩:=b
   exact⟨(p.1,b2):: rs,⟨Zsv h.1,rfl,c⟩,.cons ⟨rfl,h.2⟩ q⟩
def Z50(trs:List (TE×TE)):TE:=λσ H Q=>∀ p,H p=none->Zto trs σ (upd H p (.dK [])) λps H2=>H2 p=some (.dK [])/\∃ kvs:KL,ps=kvs.map (λkv=>(kV kv.1,kv.2))/\kvs.length<=15/\Q (.ref p) (upd H2 p (.dK (Zob [] kvs)))
def Z05{X:Cx}{pos:Pos}{keys:List (Option Expr)}{values:List Expr}{trs:List (TE×TE)}(h:PPs X pos keys values trs)(hall:keys.all (·.isSome)=true)(hl:keys.length=values.length)(h0:keys≠[])
  (h15:keys.length<=15):PE X (.Dict keys values pos) (Z50 trs):=by
 intro pins s σ H Q I q
 have hn:=I.hok.fresh (Yd s.heap.objs.size)
 have I1:=I.laid (a:=s.heap.objs.size) (o:=.dK []) (h':=s.heap.push {cls:=.type "dict",data:=.dict #[] }) (t':=s.toks) (λ_ _ q=>Yb _ q) (Yd _) (Zrq s.heap I.big)
 refine wpAny_Dict_walk (knd:=Zbu X.prog X.w) hall hl h0 h15 (thn (h pins _ σ _ _ I1 (q _ hn)) λws s2 ⟨ps,H2,I2,rel,e,kvs,ep,lk,q2⟩=>?_)
 subst ep
 obtain⟨rs,c,rk⟩:=Zlo (P:=X.prog) (w:=X.w) rel
 obtain⟨z,hd,vs0,r0,dd⟩:=Z45 I2.hok e
 cases r0
 refine⟨rs,c,dd,λh' dd' hs=>⟨.ref s.heap.objs.size,_,?_,rfl,q2⟩⟩
 have hz:(Zob [] kvs).length<=sizeLine:=by
  have h1:=Zio kvs []
  rw[Yb5]at h1
  rw[sizeLine_eq];omega
 have he:∃ q,h'.get? s.heap.objs.size=some q:=let⟨q,_,_,hq,_⟩:=dd';⟨q,hq⟩
 exact Zp9 I2 (by rw[e];exact True.intro) hs he (Zz9 hz hd (rk.merge .nil) dd')
structure M1(X:Cx)(o:Expr)(m:Str)(apos:Pos)(e:Expr)(cpos:Pos):Prop where
 base:attributeBase o m X.env (eval o X.env)=eval o X.env
 few:((backTo cpos (starEach [e] X.env)).all (λx=>!x.1)&&(backToKw cpos (keywordEach [] X.env)).all (λx=>x.1.isSome)
  && decide (([e]:List Expr).length + ([]:List Keyword).length + (if([]:List Keyword).isEmpty then 0 else 1)<30))=true
 line:(apos.endLine == cpos.line)=true
 trees:backTo cpos (starEach [e] X.env)=[(false,eval e X.env)]
structure M2(X:Cx)(o:Expr)(m:Str)(apos:Pos)(e f:Expr)(cpos:Pos):Prop where
 base:attributeBase o m X.env (eval o X.env)=eval o X.env
 few:((backTo cpos (starEach [e,f] X.env)).all (λx=>!x.1)&&(backToKw cpos (keywordEach [] X.env)).all (λx=>x.1.isSome)
  && decide (([e,f]:List Expr).length + ([]:List Keyword).length + (if([]:List Keyword).isEmpty then 0 else 1)<30))=true
 line:(apos.endLine == cpos.line)=true
 trees:backTo cpos (starEach [e,f] X.env)=[(false,eval e X.env),(false,eval f X.env)]
def IsD(H:Hp)(a:Addr):Prop:=(∃ kvs,Rd H a (.dK kvs))\/∃ kvs,Rd H a (.dT kvs)
def Z4y{X:Cx}{pins:PL}{σ:St}{H:Hp}{s:Shared}{a:Addr}(I:Inv X pins σ H s)(d:IsD H a):
  s.TypeIs (.ref a) "dict"/\(∀ b,Value.ref a=.ref b->∃ ob,s.heap.get? b=some ob/\ob.dict=none)/\(a == sysModules)=false:=by
 rcases d with⟨kvs,e⟩ | ⟨kvs,e⟩
 ·obtain⟨_,hd,vs,_,dd⟩:=Zp7 I.hok e
  refine⟨dd.typeIs,λb q=>?_,hd⟩
  cases q
  obtain⟨ob,_,_,h1,h2,_⟩:=dd
  exact⟨ob,h1,h2.2.1⟩
 ·obtain⟨_,hd,xs,_,dd⟩:=Zs3 I.hok e
  refine⟨dd.typeIs,λb q=>?_,hd⟩
  cases q
  obtain⟨ob,_,_,h1,h2,_⟩:=dd
  exact⟨ob,h1,h2.2.1⟩
section
variable {X:Cx}{pins:PL}{σ:St}{H:Hp}{s:Shared}{a:Addr}{y d:V}{u r:Value}{o:OV}{A:Around}{E:EV}
end
section
variable {X:Cx}{o e f:Expr}{apos cpos:Pos}{td ty tx:TE}
end
section
variable {X:Cx}{pins:PL}{σ:St}{H:Hp}{s:Shared}{a:Addr}{kvs:KL}{A:Around}{E:EV}
end
section
variable {X:Cx}{pins:PL}{σ:St}{H:Hp}{s:Shared}{a:Addr}{y:V}{u:Value}{A:Around}{E:EV}
end
end L2
namespace Att
open PySem PySem.W PySem.Calls PyProof.Rows
def Zkf{P:Params}{h:Heap}:∀(ns:List Int) (vs:LU),WellAll P h vs (ns.map WData.int)->IntsAre vs ns:=by
 intro ns
 induction ns with
 | nil =>
  intro vs w
  rw[List.map_nil]at w
  cases w
  exact .nil
 | cons n ns ih =>
  intro vs w
  rw[Yy]at w
  cases w with
  | cons a b =>
   cases a
   exact .cons _ _ (ih _ b)
def Zt9{l:OpenLaw}{n:Nat}(hn:l.most=some n){P:Params}{h:Heap}{args:List WData}{vals:LU}
  (hpre:l.row.toRowW.claim.pre args=true) (hwl:WellAll P h vals args):
  ∃ a vs ns,vals=[Value.ref a]/\args=[WData.list (ns.map WData.int)]/\h.get? a=some {cls:=.type "list",data:=.seq vs.toArray}/\IntsAre vs ns/\ns.length<=n:=by
 have hsh:WShape.hasAll [] args [.list .int]=true:=(pre_splitW hpre).1
 have hc:l.pre.holds [] {args:=args}=true:=(pre_splitW hpre).2
 obtain⟨d,r,rfl,h1,h2⟩:=hasAllW_cons hsh
 obtain rfl:=hasAllW_nil h2
 obtain⟨xs,rfl,h3⟩:=hasW_list h1
 obtain⟨ns,rfl⟩:=items_int h3
 have hlen:ns.length<=n:=by
  unfold OpenLaw.pre at hc
  have h4:(WTm.not (.lt (.lit (.int (n:Int))) (.len (.arg 0)))).holds [] {args:=[.list (ns.map .int)] }=true:=by
   have h4:=(holds_andW hc).1
   rw[hn]at h4
   exact h4
  have h5:=condW_of h4 (w_not (w_lt w_lit (w_len_list (w_arg rfl))))
  rw[Ya]at h5
  refine Nat.le_of_not_lt λq=>?_
  have q':(n:Int)<((ns.length:Nat):Int):=by omega
  first
   | (rw[Jb q']at h5;exact absurd h5 (by decide))
   | (simp at h5;omega)
 cases hwl with
 | cons w1 w2 =>
  cases w2
  cases w1 with
  | list ho hall=>exact⟨_,_,ns,rfl,rfl,ho,Zkf ns _ hall,hlen⟩
def Zum(l:OpenLaw)(args:List WData):l.row.toRowW.claim.post args (.bool true) args=true :=
 postW_of (r:=l.row.toRowW) (X:=(true == true))
  (show WShape.has [] (.bool true) .bool=true by first | rfl | decide | simp[WShape.has,WShape.arms,WShape.armsAll])
  (show(WTm.eq .res (.lit (.bool true))).value [] {args:=args,res:=some (.bool true),after:=args}=some (.bool (true == true))from w_eq_bool (w_res rfl) w_lit) rfl
def attach_call{l:OpenLaw}{n:Nat}{q:Program}{loose:LS}{XP:(Str->OU)->Heap->Prop}{YP:World->Heap->Prop}{d:DefRec}
  (hn:l.most=some n) (hdf:d.params.defaults=[])
  (call:∀(w:World) (s₀ s₁:Shared) (mg mb:Str->OU) (fa:Addr) (o:Obj) (pm cd doc:Value) (a:Addr) (vs:LU) (ns:List Int),
   Ground q loose [] XP w s₀ mg mb s₁.heap->YP w s₁.heap ->
   s₁.heap.get? fa=some o->o.data=.func (docDef d.name d.params d.body d.scope pm cd doc)->s₁.heap.CodeRec cd d.name->mg d.name=some (.ref fa) ->
   s₁.heap.get? a=some {cls:=.type "list",data:=.seq vs.toArray}->IntsAre vs ns->ns.length<=n->s₁.gens=#[] ->
   codeAny (model l.prog w) callerA (.call (.ref fa) ⟨[.ref a],[]⟩) (λr s'=>r=.ok (.ret (.bool true))/\OldK s₁.heap s'.heap/\s'.os=s₁.os/\AllBare s'.gens) s₁):
  WalkO q loose XP YP l.row.toRowW d [] (λf vs=>PySem.call f vs):=by
 intro w s₀ s₁ mg mb G Y fa o pm cd doc dV kV ho hd hcd hD hmg hg args vals as hpre hlay hrd hwl hlo
 obtain rfl:dV=.none:=Dflts.none hD hdf
 obtain rfl:kV=.none:=Dflts.noKw hD
 obtain⟨a,vs,ns,rfl,rfl,hobj,hints,hlen⟩:=Zt9 hn hpre hwl
 refine enter_call (codeAny_mono (call w s₀ s₁ mg mb fa o pm cd doc a vs ns G Y ho (fd_plain hd) hcd hmg hobj hints hlen hg) λr s' hq=>?_)
 obtain⟨rfl,h2,h3,h4⟩:=hq
 exact⟨.inl ⟨.bool true,.bool true,[],rfl,λ_=>rfl,.bool true,Zum l _,λ_=>⟨List.Pairwise.nil,λ_ hm=>(nomatch hm)⟩⟩,h2,h3,h4⟩
section
variable {prog:Program}{w:World}{A:Around}{E:EV}{s:Shared}{K:Frag}
end
end Att
namespace L2
open PySem PySem.Spec PyProof.Rows
theorem Zm4:∀ {vs:LU}{ns:List Int},IntsAre vs ns->Zb0 (ns.map V.int) vs
 | _,_,.nil=>.nil
 | _,_,.cons n t h=>.cons ⟨t,rfl⟩ (Zm4 h)
def Z65(H:Hp):Prop:=∀ b,H b=none\/∃ o xs,H b=some (.frz o (.lst xs))
def Zyh{P:Program}{w:World}{K:Fg}{mg mb:Str->OU}{CX:CXT}{k:Nat}{x:Str}{sp:Sp}{s₁:Shared}{vs:LU}{ns:List Int}
  (KX:K.In s₁.heap) (hns:s₁.heap.Ns mainGlobals mg) (hb:s₁.heap.Ns builtinsNs mb) (hbb:∀ x:Str,x≠"__name__"->mb x=bootBuiltins x) (hlim:s₁.heap.NoLimit) (hg:s₁.gens=#[])
  (ha:s₁.heap.get? a=some {cls:=.type "list",data:=.seq vs.toArray}) (hi:IntsAre vs ns) (hl:ns.length<=sizeLine) (hr:Zcb k callerA)
  (F:∀ base:Heap,K.In base->base.Ns mainGlobals mg->Zap P w K mg base CX k fa fd [x] sp) (hbind:∀(s:Shared) (u:Value),BindsTo s fd ⟨[u],[]⟩ [(x,u)])
  (hsp:∀ H:Hp,Z65 H->SqL K H a (ns.map V.int)->sp [.ref a] H (λv _=>v=.bl true) λ_ _ _=>False)
  (hCX:∀ H e s',CX [] H s₁ (λ_ _ _=>False) e s'->False):
  codeAny (model P w) callerA (.call (.ref fa) ⟨[.ref a],[]⟩) (λr s'=>r=.ok (.ret (.bool true))/\OldK s₁.heap s'.heap/\s'.os=s₁.os/\AllBare s'.gens) s₁:=by
 have rv:=Zm4 hi
 have lenV:=hi.length
 have core:∀ H:Hp,Z65 H->SqL K H a (ns.map V.int)->HOk P w H s₁.heap->(∀ b,H b≠none->b=a)->(H a≠none->K.lookup a=none) ->
   codeAny (model P w) callerA (.call (.ref fa) ⟨[.ref a],[]⟩) (λr s'=>r=.ok (.ret (.bool true))/\OldK s₁.heap s'.heap/\s'.os=s₁.os/\AllBare s'.gens) s₁:=by
  intro H hO hS hok hA hK
  have base_of:∀ {b:Addr} {o:Obj},s₁.heap.get? b=some o->H b=none->(Zyq s₁.heap H).get? b=some o:=λe n=>Zyp e n
  have noA:∀ {b:Addr} {o:Obj} {es:Array DictEntry} {ep:Nat},s₁.heap.get? b=some o->o.data=.dict es ep->H b=none:=λ{b o es ep} e d=>by
   cases q:H b with
   | none=>rfl
   | some u =>
    have e':b=a:=hA b (by rw[q];simp)
    subst e'
    rw[ha]at e;cases e
    have d':Data.seq vs.toArray _=Data.dict es ep:=d
    cases d'
  have nsK:∀ {b:Addr} {m:Str->OU},s₁.heap.Ns b m->(Zyq s₁.heap H).Ns b m:=λ{b m} ⟨o,es,ep,e,d,r⟩=>⟨o,es,ep,base_of e (noA e d),d,r⟩
  have hKb:K.In (Zyq s₁.heap H):=λb o e=>base_of (KX b o e) (by
   cases q:H b with
   | none=>rfl
   | some u =>
    have e':b=a:=hA b (by rw[q];simp)
    subst e'
    rw[hK (by rw[q];simp)]at e;cases e)
  have hM:Mod K mg (Zyq s₁.heap H):=⟨hKb,nsK hns,⟨mb,nsK hb,hbb⟩,let⟨mc,h1,h2⟩:=hlim;⟨mc,nsK h1,h2⟩⟩
  have e0:Env0 P w K mg (Zyq s₁.heap H) callerA [] s₁ H:=⟨rfl,hM,λb o e=>Z1j e,Nat.le_of_eq (Zv0 _ _),trivial,λb hb=>absurd (show b∈([]:List Addr)from hb) (by simp),hok,.of_eq hg⟩
  refine codeAny_mono ((F _ hKb (nsK hns)).run callerA [] s₁ H ⟨[.ref a],[]⟩ [.ref a] [.ref a] _ _ hr e0 (hbind s₁ (.ref a)) (.cons rfl .nil) (hsp H hO hS)) λr s' h=>?_
  cases r with
  | error e=>exact(hCX H e s' h).elim
  | ok fl =>
   cases fl with
   | next=>exact False.elim h
   | brk=>exact False.elim h
   | cont=>exact False.elim h
   | ret u =>
    obtain⟨v,H',os,bare,un,hok',r',q⟩:=h
    have q':v=.bl true:=q
    subst q'
    obtain rfl:u=Value.bool true:=r'
    refine⟨rfl,OldK.of_keep λb o e=>?_,os,bare⟩
    cases q:H b with
    | none=>exact un.keep b o e q (by intro z;exact absurd (show b∈([]:List Addr)from z) (by simp)) (by simp)
    | some u =>
     rcases hO b with z | ⟨ob,xs,z⟩
     ·rw[q]at z;cases z
     ·have z2:=un.frzs b ob _ z
      obtain⟨e1,_⟩:=hok b _ z
      obtain⟨e2,_⟩:=hok' b _ z2
      rw[e]at e1;cases e1
      exact e2
 cases hk:K.lookup a with
 | some o =>
  have e:=KX a o hk
  rw[ha]at e
  cases e
  refine core (λ_=>none) (λ_=>.inl rfl) (.inr ⟨_,vs.toArray,_,hk,rfl,rfl,rfl,by rw[Yl,lenV];exact hl,by simpa using rv⟩) (λb u z=>by have z':(none:Option HO)=some u:=z;cases z') (λb z=>absurd rfl z) λz=>absurd rfl z
 | none =>
  refine core (λb=>if b=a then some (.frz {cls:=.type "list",data:=.seq vs.toArray} (.lst (ns.map V.int)))else none) (λb=>?_) (.inl (.inr ⟨{cls:=.type "list",data:=.seq vs.toArray},if_pos rfl⟩)) (λb u z=>?_) (λb z=>?_) λ_=>hk
  ·by_cases hb:b=a
   ·exact .inr ⟨_,_,if_pos hb⟩
   ·exact .inl (if_neg hb)
  ·by_cases hb:b=a
   ·have z':=(if_pos hb).symm.trans z
    cases z'
    subst hb
    exact⟨ha,by rw[Ya];exact hl,vs,_,rv,ha⟩
   ·have z':=(if_neg hb).symm.trans z
    cases z'
  ·by_cases hb:b=a
   ·exact hb
   ·exact absurd (if_neg hb) z
def walk_of{l:W.OpenLaw}{n k:Nat}{q:Program}{loose:LS}{XP:(Str->OU)->Heap->Prop}{YP:World->Heap->Prop}{d:DefRec}{K:Params->Fg}{CX:World->CXT}{sp:World->Sp}{x:Str}
  (hn:l.most=some n) (hn2:n<=sizeLine) (hdf:d.params.defaults=[]) (hr:Zcb k callerA)
  (hY:∀(w:World) (h:Heap),YP w h->(K w.params).In h)
  (F:∀(w:World) (mg:Str->OU) (fa:Addr) (h:Heap),(K w.params).In h->h.Ns mainGlobals mg->mg d.name=some (.ref fa) ->
   ∃ fd:FuncData,(∀(s:Shared) (u:Value),BindsTo s fd ⟨[u],[]⟩ [(x,u)]) /\
    ∀ base:Heap,(K w.params).In base->base.Ns mainGlobals mg->Zap l.prog w (K w.params) mg base (CX w) k fa fd [x] (sp w))
  (hsp:∀(w:World) (H:Hp) (a:Addr) (ns:List Int),ns.length<=n->Z65 H->SqL (K w.params) H a (ns.map V.int)->sp w [.ref a] H (λv _=>v=.bl true) λ_ _ _=>False)
  (hCX:∀(w:World) (H:Hp) (s:Shared) (e:Value) (s':Shared),CX w [] H s (λ_ _ _=>False) e s'->False):
  W.WalkO q loose XP YP l.row.toRowW d [] (λf vs=>PySem.call f vs):=by
 refine Att.attach_call hn hdf λw s₀ s₁ mg mb fa o pm cd doc a vs ns G Y ho hd hcd hmg hobj hints hlen hg=>?_
 have KX:=hY w _ Y
 obtain⟨fd,hb,hF⟩:=F w mg fa _ KX G.T.g hmg
 exact Zyh KX G.T.g G.T.b G.T.builtins G.T.nolimit hg hobj hints (Yx hlen hn2) hr hF hb (λH hO hS=>hsp w H a ns hlen hO hS) λH e s'=>hCX w H s₁ e s'
def Zct(s:Stmt)(j:Nat):Stmt:=match s with
 | .ClassDef _ _ _ body _ _ _ _ _ _ _=>body.getD j (.Pass ⟨0,0,0,0⟩)
 | _=>.Pass ⟨0,0,0,0⟩
def Zc5(s:Stmt):Arguments:=match s with
 | .FunctionDef _ a _ _ _ _ _ _ _ _=>a
 | _=>{posonlyargs:=[],args:=[],vararg:=none,kwonlyargs:=[],kw_defaults:=[],kwarg:=none,defaults:=[] }
def Za7(s:Stmt):List Stmt:=match s with
 | .FunctionDef _ _ b _ _ _ _ _ _ _=>b
 | _=>[]
def Zad(s:Stmt):Scope:=match s with
 | .FunctionDef _ _ _ _ _ _ sc _ _ _=>sc
 | _=>{kind:=.function,names:=[],isGenerator:=false,isCoroutine:=false}
abbrev CX0:CXT:=λ_ _ _ _ _ _=>False
abbrev E0:XK:=λ_ _ _=>False
def Zdn{X:Cx}:Zjj CX0 X E0:=λ_ _ _ _ _ _ _ h=>h.elim
structure Fun(K:Fg)(x qual:Str)(st:Stmt)(f:Addr)(fd:FuncData):Prop where
 ex:∃(oc:Value) (od:Option Addr) (kV doc pm:Value) (an:Option Addr) (cdv ct:Value) (osl:Array (OU)),
  fd=W.fnOf x qual (Zc5 st) (Za7 st) (Zad st) .none kV doc pm an cdv ct/\K.lookup f=some ⟨oc,od,.func fd,osl⟩/\W.codeIn K cdv qual=true
 kp:W.keepIn K (.ref f)=true
section
variable {P:Program}{w:World}{K:Fg}{mg:Str->OU}{base:Heap}
def Fun.ok{x qual:Str}{st:Stmt}{N ps:LS}{k:Nat}{sp:Sp}(F:Fun K x qual st f fd)(S:Zak N ps (Zad st))(len:∀ vs H Q E,sp vs H Q E->vs.length=ps.length)
  (hbody:∀(cdv:Value) (A:Around) (outer:List Env) (s:Shared) (H:Hp) (vs:LV) (Q:VK) (E:XK),Zcb k (A.deeper (envOfC qual (Zad st) s.heap.objs.size f cdv))->sp vs H Q E ->
   ∃ t,PSs (Z0b CX0 P w K mg base N qual (Zad st) f cdv A outer s H E).nox (Za7 st) t/\t {nx:=λ_ H'=>Q .non H',rt:=Q} (start N vs) H):Zap P w K mg base CX0 (k + 1) f fd ps sp:=by
 obtain⟨oc,od,kV,doc,pm,an,cdv,ct,osl,rfl,lk,hcd⟩:=F.ex
 refine Z40 lk hcd S len λA outer s H vs Q E hr hsp=>?_
 obtain⟨t,h,q⟩:=hbody cdv A outer s H vs Q E hr hsp
 exact⟨t,h.nox,q⟩
def Fun.binds{x qual:Str}{st:Stmt}{ps:LS}(F:Fun K x qual st f fd)
  (h:∀(kV doc pm:Value) (an:Option Addr) (cdv ct:Value) (us:LU),us.length=ps.length->bindArgs (W.fnOf x qual (Zc5 st) (Za7 st) (Zad st) .none kV doc pm an cdv ct) ⟨us,[]⟩=pure (ps.zip us)):Zeh K fd ps []:=by
 obtain⟨oc,od,kV,doc,pm,an,cdv,ct,osl,rfl,lk,hcd⟩:=F.ex
 exact .all (h kV doc pm an cdv ct)
def Zz4{x qual:Str}{st:Stmt}{f:Addr}{oc:Value}{od an:Option Addr}{osl:Array (OU)}{kV doc pm cdv ct:Value}(l:K.lookup f=some ⟨oc,od,.func (W.fnOf x qual (Zc5 st) (Za7 st) (Zad st) .none kV doc pm an cdv ct),osl⟩)
  (c:W.codeIn K cdv qual=true) (k:W.keepIn K (.ref f)=true):Fun K x qual st f (W.fnOf x qual (Zc5 st) (Za7 st) (Zad st) .none kV doc pm an cdv ct):=⟨⟨oc,od,kV,doc,pm,an,cdv,ct,osl,rfl,l,c⟩,k⟩
end
def Zf1{A:Around}{k:Nat}(hr:Zcb k A):A.units + 1<cLine:=Nat.lt_of_le_of_lt (Nat.add_le_add_left (by decide:1<=64) _) hr.units
section
variable {X:Cx}
def pv(i:Nat){x:Str}{pos:Pos}(hN:X.N[i]?=some x:=by rfl)(hv:Vis X.env.scope x:=by first | exact Or.inl rfl | exact Or.inr (Or.inl rfl) | exact Or.inr (Or.inr rfl))(hd:(x == ("__debug__":Str))=false:=by decide)
  (hcd:(x == ("__classdict__":Str))=false:=by decide):PE X (.Name x pos) (Z5e i):=Zzt hN hv hd hcd
end
def Zcu{A B:Prop}(h:B):if false=true then A else B:=by
 rw[if_neg Yg]
 exact h
def Zfe{A B:Prop}(h:A):if true=true then A else B:=by
 rw[if_pos rfl]
 exact h
def Zdu{c A B:Prop}[Decidable c](h1:c->A)(h2:¬ c->B):if c then A else B:=by
 by_cases h:c
 ·rw[if_pos h]
  exact h1 h
 ·rw[if_neg h]
  exact h2 h
def Zaj(H H':Hp):Prop:=∀ b o,H b=some o->H' b=some o
def Zaj.refl(H:Hp):Zaj H H:=λ_ _ h=>h
def Zaj.trans{H H1 H2:Hp}(a:Zaj H H1)(b:Zaj H1 H2):Zaj H H2:=λc o h=>b c o (a c o h)
def Zaj.free{H H':Hp}(e:Zaj H H'){l:Addr}(h:H' l=Option.none):H l=Option.none:=by
 cases q:H l with
 | none=>rfl
 | some o =>
  rw[e l o q]at h
  cases h
def Zaj.seq{K:Fg}{H H':Hp}{a:Addr}{xs:LV}(e:Zaj H H')(h:SqL K H a xs):SqL K H' a xs:=by
 rcases h with(h | ⟨o,h⟩) | h
 ·exact .inl (.inl (e _ _ h))
 ·exact .inl (.inr ⟨o,e _ _ h⟩)
 ·exact .inr h
section
variable {X:Cx}
end
section
variable {κ:Type}[DecidableEq κ]
def Zqj{kvs:List (κ×V)}{k:κ}(h:Zex kvs k=none):¬ k∈kvs.map (·.1):=by
 intro m
 obtain⟨p,hp,e⟩:=Ye.mp m
 have q:(kvs.any λkv=>decide (kv.1=k))=true:=Yg3.mpr ⟨p,hp,Jb e⟩
 rw[Zgh,h]at q
 exact absurd q (by simp)
def Ztj{kvs:List (κ×V)}{k:κ}{v:V}(h:Zex kvs k=some v):k∈kvs.map (·.1):=by
 have q:(kvs.any λkv=>decide (kv.1=k))=true:=by
  rw[Zgh,h]
  all_goals rfl
 obtain⟨p,hp,e⟩:=Yg3.mp q
 exact Ye.mpr ⟨p,hp,Je e⟩
end
end L2
set_option maxHeartbeats 4000000
namespace HT
open PySem PyProof.Rows
open PySem.SeqAt
open PySem.AutoSeq1 (wpAny_loadPart')
open PySem.MeetsSeq PySem.MeetsSeq2 PySem.MeetsSeq3
section
variable {prog:Program}{w:World}{A:Around}{E:EV}{s:Shared}
end
end HT
namespace L2
open PySem PySem.Spec PyProof.Rows
structure Zqf(J:It)(xs:LV)(Ok:Hp->Prop):Prop where
 go:∀(i:Nat) (x:V) (H:Hp),Ok H->xs[i]?=some x->J.go i H
 yld:∀(i:Nat) (x:V) (H:Hp) (y:V) (H':Hp),Ok H->xs[i]?=some x->J.yld i H y H'->y=x/\H'=H
 stop:∀(H:Hp),Ok H->J.stop xs.length H
def Zav{K:Fg}{a:Addr}{xs:LV}:Zqf (Itl K a) xs (λH=>SqL K H a xs) where
 go:=λi x H ok hx=>⟨xs,x,ok,hx⟩
 yld:=λi x H y H' ok hx h=>by
  obtain⟨e,h⟩:=h
  have q:=h xs ok
  rw[hx]at q
  exact⟨(Yq q).symm,e⟩
 stop:=λH ok=>⟨xs,ok,Yd _⟩
def Zea{K:Fg}{a:Addr}{xs:LV}:Zqf (Itt K a) xs (λH=>SqT K H a xs) where
 go:=λi x H ok hx=>⟨xs,x,ok,hx⟩
 yld:=λi x H y H' ok hx h=>by
  obtain⟨e,h⟩:=h
  have q:=h xs ok
  rw[hx]at q
  exact⟨(Yq q).symm,e⟩
 stop:=λH ok=>⟨xs,ok,Yd _⟩
def Zee(lo:Int)(n:Nat):LV:=(List.range n).map λ(k:Nat)=>V.int (lo + (k:Int))
def Za4(lo:Int)(n:Nat):(Zee lo n).length=n:=by unfold Zee;rw[Ya,List.length_range]
def Za6{lo:Int}{n i:Nat}{x:V}(h:(Zee lo n)[i]?=some x):i<n/\x=V.int (lo + (i:Int)):=by
 have hi:i<n:=by
  have:=(Yn.mp h).1
  rwa [Za4]at this
 refine⟨hi,?_⟩
 unfold Zee at h
 rw[Yp,List.getElem?_range hi]at h
 exact(Yq h).symm
def Zbm{lo:Int}{n:Nat}:Zqf (Itr lo n) (Zee lo n) (λ_=>True) where
 go:=λi x H _ hx=>(Za6 hx).1
 yld:=λi x H y H' _ hx h=>by
  obtain⟨e,h⟩:=h
  exact⟨h.trans (Za6 hx).2.symm,e⟩
 stop:=λH _=>by
  show n<=(Zee lo n).length
  rw[Za4]
  exact Yd _
def Zat{J:It}{xs:LV}{Ok:Hp->Prop}(R:Zqf J xs Ok){g:TG}{tb:TS}{D:Ztf}{σ:St}{H:Hp}(Pv:NW)(h0:Pv 0 σ H)(hl:∀ i σ H,i<=xs.length->Pv i σ H->Ok H)
  (hs:∀ i x σ H,xs[i]?=some x->Pv i σ H->g x σ H λσ2 H2=>tb {D with nx:=Pv (i + 1),ct:=Pv (i + 1),bk:=D.nx} σ2 H2) (hd:∀ σ H,Pv xs.length σ H->D.nx σ H):
  ∃ W:Nat->Nat->St->Hp->Prop,(∃ m,W 0 m σ H)/\∀ i m σ H,W i m σ H ->
   (J.stop i H/\D.nx σ H)\/(J.go i H/\∃ N:SW,(∀ σ' H',N σ' H'->∃ m',m'<m/\W (i + 1) m' σ' H')/\∀ x H',J.yld i H x H'->g x σ H' λσ2 H2=>tb {D with nx:=N,ct:=N,bk:=D.nx} σ2 H2):=by
 refine⟨λi m σ H=>m=xs.length - i/\i<=xs.length/\Pv i σ H,⟨xs.length,by simp,Yv _,h0⟩,?_⟩
 rintro i m σ H ⟨rfl,hi,p⟩
 have q:=hl i σ H hi p
 by_cases hlt:i<xs.length
 ·have hx:xs[i]?=some xs[i]:=by simp[hlt]
  refine .inr ⟨R.go i _ H q hx,Pv (i + 1),λσ' H' p'=>⟨xs.length - (i + 1),by omega,rfl,hlt,p'⟩,λx H' y=>?_⟩
  obtain⟨e1,e2⟩:=R.yld i _ H x H' q hx y
  rw[e2]
  exact hs i x σ H (by rw[e1];exact hx) p
 ·have e:i=xs.length:=by omega
  subst e
  exact .inl ⟨R.stop H q,hd σ H p⟩
def Its(x:Str):It:=⟨λi _=>i<x.cps.size,λi H v H'=>H'=H/\∃ c,x.cps[i]?=some c/\v=.str ⟨#[c]⟩,λi _=>x.cps.size<=i⟩
def Zh6(x:Str):LV:=x.cps.toList.map λc=>V.str ⟨#[c]⟩
def Zxg{x:Str}:Zqf (Its x) (Zh6 x) (λ_=>True) where
 go:=λi y H _ hx=>by
  have:=(Yn.mp hx).1
  unfold Zh6 at this
  rw[Ya]at this
  show i<x.cps.size
  simpa using this
 yld:=λi y H z H' _ hx h=>by
  obtain⟨e,c,hc,hz⟩:=h
  refine⟨?_,e⟩
  unfold Zh6 at hx
  rw[Yp,Yw3,hc]at hx
  rw[hz]
  exact Yq hx
 stop:=λH _=>by
  show x.cps.size<=(Zh6 x).length
  unfold Zh6
  simp
def Zql{P:Program}{w:World}{K:Fg}{tg:Expr}(x:Str)(t:Tok)(it:Addr)(ty:String)(hty:ty="str_ascii_iterator"\/ty="str_iterator"):
  Zte P w K tg (Its x) [it] it (λi h=>h.IsStrIter it ty x t i) where
 mem:=by simp
 obj:=λi h st b hb=>by
  have e:b=it:=by simpa using hb
  subst e
  obtain⟨o,e,c,d⟩:=st
  exact⟨o,e,λv z=>by rw[d]at z;cases z⟩
 keep:=λi h h' st k=>by
  obtain⟨o,ho,r⟩:=st
  exact⟨o,k it (by simp) o ho,r⟩
 item:=by
  intro X hP hw hK hc i pins s σ H E I hf st hg
  subst hP hw hK
  obtain⟨f0,f1,f2,f3,f4,f5⟩:=hf it (by simp)
  have hi:i<x.cps.size:=hg
  have hx:x.cps[i]?=some x.cps[i]:=by simp[hi]
  have fin:∀ h':Heap,h'.IsStrIter it ty x t (i + 1)->Heap.SameBut it s.heap h'->∃ u,some (Value.str ⟨#[x.cps[i]]⟩ s.toks)=some u /\
    wpAny (model X.prog X.w) X.A (letOwnedTupleGo tg (.ref it) u) (λ_ s2=>∃ y H',Inv X pins σ H' s2/\Zcl y u/\(Its x).yld i H y H'/\s2.heap.IsStrIter it ty x t (i + 1)/\∀ b∈[it],H' b=none) E {s with heap:=h',toks:=s.toks + 1}:=λh' st' sb=>by
   have I1:Inv X pins σ H {s with heap:=h',toks:=s.toks + 1}:=I.turned (λb o hb e=>(sb.2 b hb).trans e) f0 f1 f3 f4 f5
   obtain⟨o,e,c,d⟩:=id st'
   refine⟨_,rfl,Zsy (s:={s with heap:=h',toks:=s.toks + 1}) e c d ?_ ⟨.str ⟨#[x.cps[i]]⟩,H,I1,⟨_,rfl⟩,⟨rfl,_,hx,rfl⟩,st',λb hb=>(hf b hb).1⟩⟩
   rcases hty with rfl | rfl <;> decide
  rcases hty with rfl | rfl
  ·exact wpAny_pyNext_ascii_item st hx λh' st' sb=>fin h' st' sb
  ·exact wpAny_pyNext_wide_item st hx λh' st' sb=>fin h' st' sb
 done:=by
  intro X hP hw hK hc i pins s σ H E I hf st hg
  subst hP hw hK
  obtain⟨f0,f1,f2,f3,f4,f5⟩:=hf it (by simp)
  have hi:x.cps.size<=i:=hg
  have hx:x.cps[i]?=none:=by simp[hi]
  rcases hty with rfl | rfl
  ·exact wpAny_pyNext_ascii_end (I.ok.hd hc) st hx λh' eb=>⟨rfl,I.turned (t':=s.toks) (λb o hb e=>eb b o hb e) f0 f1 f3 f4 f5⟩
  ·exact wpAny_pyNext_wide_end (I.ok.hd hc) st hx λh' eb=>⟨rfl,I.turned (t':=s.toks) (λb o hb e=>eb b o hb e) f0 f1 f3 f4 f5⟩
 self:=λ_ _ _ _ _ st h=>by
  rcases hty with rfl | rfl
  ·exact wpAny_pyIter_striter_ascii st h
  ·exact wpAny_pyIter_striter_wide st h
section
variable {X:Cx}{tg:Expr}
def Z91(tl:TE):TI:=λσ H R=>tl σ H λx H1=>∃ z,x=.str z/\R (Its z) H1
def Z3z{l:Expr}{tl:TE}(hl:PE X l tl):PI X tg l (Z91 tl):=by
 intro pins s σ H R I h
 refine thn (hl pins s σ H _ I h) λv s1 ⟨x,H1,I1,r1,q1⟩=>?_
 obtain⟨z,e,q⟩:=q1
 subst e
 obtain⟨t,rfl⟩:=r1
 have fp:∀ b∈[s1.heap.objs.size],Zkx X pins H1 b:=λb hb=>by
  have e:b=s1.heap.objs.size:=by simpa using hb
  subst e
  exact I1.fpOk (Yd _) (I1.hok.fresh (Yd _))
 cases ha:z.cps.all (·<128)with
 | false =>
  refine wpAny_pyIter_wide ha ?_
  exact⟨s1.heap.objs.size,[s1.heap.objs.size],_,_,H1,rfl,I1.kept (t':=s1.toks) λb o e=>Yb _ e,Zql z t _ "str_iterator" (.inr rfl),⟨_,Ys _ rfl,rfl,rfl⟩,fp,q⟩
 | true =>
  refine wpAny_pyIter_ascii ha ?_
  exact⟨s1.heap.objs.size,[s1.heap.objs.size],_,_,H1,rfl,I1.kept (t':=s1.toks) λb o e=>Yb _ e,Zql z t _ "str_ascii_iterator" (.inl rfl),⟨_,Ys _ rfl,rfl,rfl⟩,fp,q⟩
end
def Zos(env:Env):List (Str×NameKind)->List (Str×Addr)->List (Str×Addr)
 | [],acc=>acc
 | (n,k):: r,acc=>if(k == NameKind.free)=true then Zos env r ((n,(env.cells.lookup n).getD 0):: acc)else Zos env r acc
def Zqb{env:Env}{n:Str}{c:Addr}(h:env.cells.lookup n=some c):cellOf env n=pure c:=by
 unfold cellOf
 rw[h]
def Zis{scope:Scope}{env:Env}(h:∀ y∈scope.names,y.2=.free->∃ c,env.cells.lookup y.1=some c):closureFor scope env=pure (Zos env scope.names []):=by
 have key:∀(l:List (Str×NameKind)) (acc:List (Str×Addr)),(∀ y∈l,y.2=.free->∃ c,env.cells.lookup y.1=some c) ->
   (forIn l acc λ(x:Str×NameKind) (r:List (Str×Addr))=>(match x with
    | (name,kind)=>if(kind == NameKind.free)=true then(do let a <- cellOf env name;pure (ForInStep.yield ((name,a):: r)))else pure (ForInStep.yield r):Sem (ForInStep (List (Str×Addr)))))=pure (Zos env l acc):=by
  intro l
  induction l with
  | nil=>intro acc _;rfl
  | cons y r ih =>
   intro acc hy
   obtain⟨n,k⟩:=y
   have ih':=λacc=>ih acc λz hz=>hy z (Yz1 _ hz)
   rw[List.forIn_cons]
   by_cases hk:(k == NameKind.free)=true
   ·obtain⟨c,hc⟩:=hy (n,k) Yp2 (by simpa using hk)
    have hc:env.cells.lookup n=some c:=hc
    simp only[hk,if_true,Zqb hc]
    unfold Zos
    rw[if_pos hk,hc]
    exact ih' _
   ·simp only[hk]
    unfold Zos
    rw[if_neg hk]
    exact ih' _
 unfold closureFor
 have q:=key scope.names [] h
 show((forIn scope.names [] _:Sem (List (Str×Addr)))>>=λr=>pure r)=_
 first
  | (rw[show(forIn scope.names [] _:Sem (List (Str×Addr)))=_ from q];rfl)
  | (refine(congrArg (λm=>m>>=λr=>pure r) q).trans ?_;rfl)
theorem Zh1{env:Env}:∀(l:List (Str×NameKind)) (acc:List (Str×Addr)) (x:Str) (c:Addr),(∀ y∈l,y.2=.free->∃ c,env.cells.lookup y.1=some c) ->
  (∀ x c,acc.lookup x=some c->env.cells.lookup x=some c)->(Zos env l acc).lookup x=some c->env.cells.lookup x=some c
 | [],acc,x,c,_,ha,h=>ha x c h
 | (n,k):: r,acc,x,c,hy,ha,h=>by
  have hr:∀ y∈r,y.2=.free->∃ c,env.cells.lookup y.1=some c:=λy hy'=>hy y (Yz1 _ hy')
  unfold Zos at h
  by_cases hk:(k == NameKind.free)=true
  ·rw[if_pos hk]at h
   refine Zh1 r _ x c hr (λz d hz=>?_) h
   obtain⟨c',hc'⟩:=hy (n,k) Yp2 (by simpa using hk)
   have hc':env.cells.lookup n=some c':=hc'
   rw[Yq1]at hz
   by_cases e:(z == n)=true
   ·simp only[e]at hz
    have e':z=n:=by simpa using e
    rw[e',hc']
    rw[hc']at hz
    exact hz
   ·have e':(z == n)=false:=by simpa using e
    simp only[e']at hz
    exact ha z d hz
  ·rw[if_neg hk]at h
   exact Zh1 r acc x c hr ha h
theorem Zi4{env:Env}:∀(l:List (Str×NameKind)) (acc:List (Str×Addr)) (x:Str),(acc.lookup x).isSome=true->((Zos env l acc).lookup x).isSome=true
 | [],acc,x,h=>h
 | (n,k):: r,acc,x,h=>by
  unfold Zos
  by_cases hk:(k == NameKind.free)=true
  ·rw[if_pos hk]
   refine Zi4 r _ x ?_
   rw[Yq1]
   cases e:(x == n)with
   | true=>rfl
   | false=>exact h
  ·rw[if_neg hk]
   exact Zi4 r acc x h
theorem Zmw{env:Env}:∀(l:List (Str×NameKind)) (acc:List (Str×Addr)) (x:Str),(x,NameKind.free)∈l->((Zos env l acc).lookup x).isSome=true
 | [],acc,x,h=>nomatch h
 | (n,k):: r,acc,x,h=>by
  unfold Zos
  rcases Yg1.mp h with e | h
  ·injection e with e1 e2
   subst e1
   subst e2
   rw[if_pos (by decide)]
   refine Zi4 r _ x ?_
   rw[Yq1]
   simp
  ·by_cases hk:(k == NameKind.free)=true
   ·rw[if_pos hk]
    exact Zmw r _ x h
   ·rw[if_neg hk]
    exact Zmw r _ x h
theorem Zfb{env:Env}:∀ {names:List (Str×NameKind)}{x:Str},names.lookup x=some .free ->
  (names.map λ(n,k)=>if(k == NameKind.free&&env.scope.kind == .function&&env.kindOf n == some .cell)then(n,NameKind.cell)else(n,k)).lookup x=some .cell \/
  (names.map λ(n,k)=>if(k == NameKind.free&&env.scope.kind == .function&&env.kindOf n == some .cell)then(n,NameKind.cell)else(n,k)).lookup x=some .free
 | [],_,h=>by simp at h
 | (n,k):: r,x,h=>by
  have ih:=@Zfb env r x
  rw[Yy]
  show List.lookup x ((if(k == NameKind.free&&env.scope.kind == .function&&env.kindOf n == some .cell)=true then(n,NameKind.cell)else(n,k)):: _)=_\/List.lookup x ((if(k == NameKind.free&&env.scope.kind == .function&&env.kindOf n == some .cell)=true then(n,NameKind.cell)else(n,k)):: _)=_
  cases hx:x == n with
  | true =>
   simp only[Yq1,hx]at h
   cases h
   by_cases hc:(NameKind.free == NameKind.free&&env.scope.kind == .function&&env.kindOf n == some .cell)=true
   ·rw[if_pos hc];simp only[Yq1,hx];exact .inl trivial
   ·rw[if_neg hc];simp only[Yq1,hx];exact .inr trivial
  | false =>
   simp only[Yq1,hx]at h
   by_cases hc:(k == NameKind.free&&env.scope.kind == .function&&env.kindOf n == some .cell)=true
   ·rw[if_pos hc];simp only[Yq1,hx];exact ih h
   ·rw[if_neg hc];simp only[Yq1,hx];exact ih h
theorem Zfx{env:Env}:∀ {names:List (Str×NameKind)}{x:Str},
  ((names.map λ(n,k)=>if(k == NameKind.free&&env.scope.kind == .function&&env.kindOf n == some .cell)then(n,NameKind.cell)else(n,k)).lookup x=some .cell \/
  (names.map λ(n,k)=>if(k == NameKind.free&&env.scope.kind == .function&&env.kindOf n == some .cell)then(n,NameKind.cell)else(n,k)).lookup x=some .free) ->
  names.lookup x=some .free\/names.lookup x=some .cell
 | [],_,h=>by simp at h
 | (n,k):: r,x,h=>by
  have ih:=@Zfx env r x
  rw[Yy]at h
  change List.lookup x ((if(k == NameKind.free&&env.scope.kind == .function&&env.kindOf n == some .cell)=true then(n,NameKind.cell)else(n,k)):: _)=_\/List.lookup x ((if(k == NameKind.free&&env.scope.kind == .function&&env.kindOf n == some .cell)=true then(n,NameKind.cell)else(n,k)):: _)=_ at h
  cases hx:x == n with
  | true =>
   simp only[Yq1,hx]
   by_cases hc:(k == NameKind.free&&env.scope.kind == .function&&env.kindOf n == some .cell)=true
   ·left
    have:(k == NameKind.free)=true:=by
     cases hk:(k == NameKind.free)with
     | true=>rfl
     | false=>rw[hk]at hc;simp at hc
    have:k=NameKind.free:=by simpa using this
    rw[this]
   ·rw[if_neg hc]at h
    simp only[Yq1,hx]at h
    rcases h with h | h
    ·exact .inr h
    ·exact .inl h
  | false =>
   simp only[Yq1,hx]
   apply ih
   by_cases hc:(k == NameKind.free&&env.scope.kind == .function&&env.kindOf n == some .cell)=true
   ·rw[if_pos hc]at h;simp only[Yq1,hx]at h;exact h
   ·rw[if_neg hc]at h;simp only[Yq1,hx]at h;exact h
abbrev Zdp(X:Cx)(scope:Scope)(N:LS)(C:Addr)(s:Shared)(H:Hp)(fp:List Addr):Cx :=
 {X with N:=N,s₀:=s,H₀:=H,env:=compEnvC scope (Zos X.env scope.names []) C X.env,outer:=X.stack,ex:=fp,fn:=λ_=>false,pn:=[],xe:=λ_ _=>False}
def sgC(n:Nat)(js:LN)(σ:St):St:=List.replicate n none++js.map λj=>(σ[j]?).join
def Z0p(n:Nat)(js:LN)(σ:St):(sgC n js σ).length=n + js.length:=by unfold sgC;simp
structure Zgy(X:Cx)(scope:Scope)(own frees:LS)(js:LN):Prop where
 calm:X.calm=true
 kind:scope.kind=.function
 nocell:∀ y∈scope.names,y.2≠.cell
 locals:∀ y∈scope.names,y.2=.local->scope.names.lookup y.1=some .local
 fr:∀ y∈scope.names,y.2=.free->X.env.scope.names.lookup y.1=some .cell\/X.env.scope.names.lookup y.1=some .free
 fre:∀ x∈frees,scope.names.lookup x=some .free
 slots:js.map (λj=>X.N[j]?)=frees.map some
def PTs(X:Cx)(ifs:List Expr)(t:TT):Prop :=
 ∀(pins:PL) (s:Shared) (σ:St) (H:Hp) (Q:Bool->Hp->Prop),Inv X pins σ H s->t σ H Q ->
  wpAny (model X.prog X.w) X.A (forIn ifs true λc r=>if r=true then do let ok <- isTrue c X.env (eval c X.env);pure (ForInStep.yield ok)else pure (ForInStep.yield r)) (TP X pins σ Q) X.xe s
def Zxa:TT:=λ_ H Q=>Q true H
def Zb3{X:Cx}:PTs X [] Zxa:=λ_ _ _ H _ I h=>wpAny_tests_nil ⟨H,I,h⟩
def Zek{X:Cx}{c:Expr}{t:TT}(h:PT X c t):PTs X [c] t:=λpins s σ H Q I q=>wpAny_tests_one (h pins s σ H Q I q)
def compBody(n:Nat)(js:LN)(g:TG)(tt:TT)(te:TE)(σ:St)(Q:VK)(J:It)(H1:Hp):Prop:=∀ D,H1 D=none ->
 ∃ W:Nat->Nat->LV->St->Hp->Prop,(∃ m,W 0 m [] (sgC n js σ) (upd H1 D (.lst [])))/\∀ i m ys σ' H',W i m ys σ' H' ->
  (J.stop i H'/\Q (.ref D) H') \/
  (J.go i H'/\ys.length<sizeLine/\∃ N:LV->St->Hp->Prop,(∀ ys3 σ3 H3,N ys3 σ3 H3->∃ m',m'<m/\W (i + 1) m' ys3 σ3 H3)/\∀ x H2,J.yld i H' x H2->g x σ' H2 λσ3 H3=>tt σ3 H3 λb H4 =>
   if b=true then te σ3 H4 λv H5=>H5 D=some (.lst ys)/\N (ys++[v]) σ3 (upd H5 D (.lst (ys++[v])))
   else N ys σ3 H4)
section
variable {prog:Program}{w:World}{A:Around}{E:EV}{R:Result->Shared->Prop}{s:Shared}
def Zor{elt target iter:Expr}{ifs:List Expr}{scope:Scope}{pos:Pos}{it acc:Value}{env:Env}(I:Nat->Shared->Prop)
  (turn:∀ n s,I n s->∀ E:EV,wpAny (model prog w) A (pyNext it) (λr s₁=>match r with
   | none=>R (.ok .next) s₁
   | some v=>wpAny (model prog w) A (letOwnedTupleGo target it v) (λ_ s₁'=>wpAny (model prog w) A (assign target env v) (λ_ s₂ =>
     wpAny (model prog w) A (forIn ifs true λc r=>if r=true then do let ok <- isTrue c env (eval c env);pure (ForInStep.yield ok)else pure (ForInStep.yield r)) (λok s₃ =>
      if ok=true then wpAny (model prog w) A (eval elt env) (λx s₄ =>
       wpAny (model prog w) A (call (.builtin "list.append") [acc,x]) (λ_ s₅=>∃ m,m<n/\I m s₅) E s₄) E s₃
      else ∃ m,m<n/\I m s₃) E s₂) E s₁') E s₁) E s)
  (n:Nat) (h:I n s):
  codeAny (model prog w) A (.compLoop (.ListComp elt [⟨target,iter,ifs,0⟩] scope pos) 0 it acc env) R s:=by
 refine codeAny_loop rfl I (λn s hI=>?_) n h
 show wpAny _ A ((compTurn (.ListComp elt [⟨target,iter,ifs,0⟩] scope pos) 0 it acc env).onRaise (λx=>do noteFrame x env;theTreesLotGoes x)) _ _ s
 refine wpAny_noted ?_
 rw[compTurn_list]
 refine Ja (wpAny_standAt (Ja (Jf (turn n s hI _) (λr s₁ h₁=>?_) λ_ _ h'=>h')))
 cases r with
 | none=>exact Jd h₁
 | some v =>
  refine Ja (Jf h₁ (λ_ s₁' h₁'=>?_) λ_ _ h'=>h')
  refine Ja (Jf h₁' (λ_ s₂ h₂=>Ja (Jf h₂ (λok s₃ h₃=>?_) λ_ _ h'=>h')) λ_ _ h'=>h')
  cases ok with
  | false=>exact Jd ⟨rfl,h₃⟩
  | true =>
   exact Ja (Ja (Jf h₃ (λx s₄ h₄=>Ja (Jf h₄ (λ_ s₅ h₅=>Jd (Jd ⟨rfl,h₅⟩)) λ_ _ h'=>h')) λ_ _ h'=>h'))
end
section
variable {X:Cx}{pins:PL}{σ:St}{scope:Scope}{own frees:LS}{js:LN}
theorem Zgy.cells(c:Zgy X scope own frees js)(ok:X.Ok):∀ y∈scope.names,y.2=.free->∃ a,X.env.cells.lookup y.1=some a:=λy hy e=>by
 rcases c.fr y hy e with h | h
 ·exact ok.has y.1 (.inl h)
 ·exact ok.has y.1 (.inr h)
def Zgy.cl(c:Zgy X scope own frees js)(ok:X.Ok){x:Str}{a:Addr}(h:(Zos X.env scope.names []).lookup x=some a):X.env.cells.lookup x=some a :=
 Zh1 scope.names [] x a (c.cells ok) (λ_ _ z=>by simp at z) h
def Zgy.has(c:Zgy X scope own frees js){x:Str}(h:scope.names.lookup x=some .free):∃ a,(Zos X.env scope.names []).lookup x=some a :=
 Yi4.mp (Zmw scope.names [] x (Ym2 h))
theorem Zgy.ok{s2:Shared}{H2:Hp}{fp:List Addr}{C:Addr}(c:Zgy X scope own frees js)(I:Inv X pins σ H2 s2)(f2:∀ b∈fp,Zkx X pins H2 b)(hlt:∀ b∈fp,b<s2.heap.objs.size)(hC:s2.heap.objs.size<=C)(N:LS):
  (Zdp X scope N C s2 H2 fp).Ok where
 mod:=I.ok.mod
 kind:=c.kind
 glob:=I.ok.glob
 blt:=I.ok.blt
 above:=hC
 inj:=λx y a h1 h2=>I.ok.inj x y a (c.cl I.ok h1) (c.cl I.ok h2)
 has:=λx h=>by
  have h':scope.names.lookup x=some .free\/scope.names.lookup x=some .cell:=Zfx (env:=X.env) h
  rcases h' with h' | h'
  ·exact c.has h'
  ·exact absurd rfl (c.nocell _ (Ym2 h'))
 cab:=λx a h=>absurd (show false=true from h) Yg
 hd:=λh=>I.ok.hd h
 frames:=I.ok.frames
 stk:=.inl rfl
 exf:=λb hb=>⟨Yc1 (Ya1 (hlt b hb) hC),λx a h=>(f2 b hb).2.2.2.2.1 x a (c.cl I.ok h)⟩
 bs:=I.bs
 bsz:=Yx I.ok.bsz I.sz
 noex:=λb o e hb=>by
  rcases(f2 b hb).2.2.2.1 with z | z
  ·exact I.ok.noex b o e z
  ·exact absurd (Ya1 (Yj e) (Yx I.ok.bsz z)) (Yd3 _)
 exfs:=λb hb z=>by
  rcases Yg1.mp (I.stkSub b z)with e | e
  ·exact(f2 b hb).2.1 e
  ·exact(f2 b hb).2.2.1 e
 funs:=I.stack
 frf:=I.stkFree
def Zlm{s2:Shared}{tg iter elt:Expr}{ifs:List Expr}{pos:Pos}{g:TG}{tt:TT}{te:TE}{Q:VK}{RR:Value->Addr->Result->Shared->Prop}{itv:Value}{E:EV}
  (c:Zgy X scope own frees js)
  (hg:∀ C s H fp,PG (Zdp X scope (own++frees) C s H fp) tg g) (ht:∀ C s H fp,PTs (Zdp X scope (own++frees) C s H fp) ifs tt) (he:∀ C s H fp,PE (Zdp X scope (own++frees) C s H fp) elt te)
  (h:PIE X pins σ tg (compBody own.length js g tt te σ Q) itv s2)
  (hR:∀ D C H' s',Inv X pins σ H' s'->Zkx X pins H' C->(∃ m,s'.heap.Ns C m)->Q (.ref D) H'->RR (.ref D) C (.ok .next) s'):
  wpAny (model X.prog X.w) X.A (newList []) (λacc s₃=>wpAny (model X.prog X.w) X.A (newFunctionEnv scope X.env.globals (Zos X.env scope.names []) [] X.env.qual none .none (some X.env)) (λcenv s₄ =>
   codeAny (model X.prog X.w) X.A (.compStart (.ListComp elt [⟨tg,iter,ifs,0⟩] scope pos) 0 itv acc {cenv with scope:=relabel scope X.env}) (RR acc cenv.locals) s₄) E s₃) E s2:=by
 obtain⟨it,fp,tn,J,H2,e,I2,T,st2,f2,hq⟩:=h
 subst e
 refine wpAny_newObj_type (wpAny_newFunctionEnv c.nocell (by intro y hy;simp at hy) (λh₁ hns₁ hsb₁=>?_) c.kind)
 dsimp only at hns₁ hsb₁ ⊢
 generalize hH2:s2.heap.push {cls:=.type "list",dict:=none,data:=.seq ([]:LU).toArray}=G2 at hns₁ hsb₁ ⊢
 have hC:G2.objs.size=s2.heap.objs.size + 1:=by rw[<- hH2,Ye2]
 have hDC:s2.heap.objs.size≠G2.objs.size:=by rw[hC];exact Yc1 (Nat.lt_succ_self _)
 have hCle:s2.heap.objs.size<=G2.objs.size:=by rw[hC];exact Yp3 _
 have old:∀ b o,s2.heap.get? b=some o->h₁.get? b=some o:=λb o e=>by
  have hb:=Yj e
  exact hsb₁.extBut b o (by rw[hC];exact Yc1 (Nat.lt_succ_of_lt hb)) (Yb _ (hH2 ▸ Yb _ e))
 have hD:H2 s2.heap.objs.size=none:=I2.hok.fresh (Yd _)
 have hlt:∀ b∈fp,b<s2.heap.objs.size:=λb hb=>by
  obtain⟨o,e,_⟩:=T.obj _ _ st2 b hb
  exact Yj e
 have hacc:h₁.get? s2.heap.objs.size=some {cls:=.type "list",data:=.seq ([]:LU).toArray}:=hsb₁.extBut _ _ hDC (Yb _ (hH2 ▸ Ys _ rfl))
 obtain⟨W,⟨m0,w0⟩,turn⟩:=hq _ hD
 have I0:∀ tk,Inv (Zdp X scope (own++frees) G2.objs.size s2 H2 fp) [] (sgC own.length js σ) (upd H2 s2.heap.objs.size (.lst [])) {s2 with heap:=h₁,toks:=tk}:=λtk=>by
  refine⟨c.ok I2 f2 hlt hCle _,rfl,I2.bare,Un.laid old (Yd _) hD,⟨_,hns₁,λi x v h1 h2 h3=>?_⟩,λx a h=>?_,?_,λx a h=>?_,λp hp=>absurd (show p∈([]:PL)from hp) (by simp),I2.hok.laid old (Yd _) ⟨Yv _,[],0,.nil,hacc⟩,?_⟩
  ·have hi:own.length<=i:=by
    by_cases hi:i<own.length
    ·unfold sgC at h2
     rw[Yg4 (by simpa using hi),List.getElem?_replicate]at h2
     rw[if_pos hi]at h2
     cases h2
    ·omega
   have hx:frees[i - own.length]?=some x:=by
    have h1':(own++frees)[i]?=some x:=h1
    rwa [Yu2 hi]at h1'
   have h2':(js.map λj=>(σ[j]?).join)[i - own.length]?=some (some v):=by
    unfold sgC at h2
    rw[Yu2 (by simpa using hi)]at h2
    simpa using h2
   rw[Yp]at h2'
   obtain⟨j,hj,hjv⟩:=Yk1.mp h2'
   have hs:=congrArg (λl=>l[i - own.length]?) c.slots
   rw[Yp,Yp,hj,hx]at hs
   have hNj:X.N[j]?=some x:=Yq hs
   have hσ:σ[j]?=some (some v):=by
    cases q:σ[j]? with
    | none=>rw[q]at hjv;cases hjv
    | some o =>
     rw[q]at hjv
     have:o=some v:=hjv
     rw[this]
   have hfree:=c.fre x (Yf hx)
   have hXk:=c.fr (x,.free) (Ym2 hfree) rfl
   obtain⟨m,hn,hl⟩:=I2.loc
   have vis:Vis X.env.scope x:=by rcases hXk with k | k;exact .inr (.inl k);exact .inr (.inr k)
   obtain⟨u,r,l⟩:=hl j x v hNj hσ vis
   refine⟨u,r,.inr ⟨Zfb (env:=X.env) hfree,?_⟩⟩
   rcases l with⟨hk,_⟩ | ⟨_,a,ha,hcell⟩
   ·rcases hXk with k | k
    ·have hk:X.env.scope.names.lookup x=some .local:=hk
     rw[show X.env.scope.names.lookup x=some .cell from k]at hk;cases hk
    ·have hk:X.env.scope.names.lookup x=some .local:=hk
     rw[show X.env.scope.names.lookup x=some .free from k]at hk;cases hk
   ·obtain⟨a',ha'⟩:=c.has hfree
    have e:=c.cl I2.ok ha'
    rw[ha]at e
    cases e
    obtain⟨o,ho,hd⟩:=hcell
    exact⟨a,ha',o,old a o ho,hd⟩
  ·obtain⟨v,o,ho,hd⟩:=I2.cell x a (c.cl I2.ok h)
   exact⟨v,o,old a o ho,hd⟩
  ·show upd H2 s2.heap.objs.size (.lst []) G2.objs.size=none
   rw[Zab (Ym hDC)]
   exact I2.hok.fresh hCle
  ·obtain⟨v,o,ho,hd⟩:=I2.cell x a (c.cl I2.ok h)
   rw[Zab (Yc1 (Yj ho))]
   exact I2.freeC x a (c.cl I2.ok h)
  ·rw[Z0p,Yi]
   have:=congrArg List.length c.slots
   rw[Ya,Ya]at this
   omega
 have stat:∀ {H':Hp},(∀ b∈fp,H' b=none)->∀ b∈fp,Zkx (Zdp X scope (own++frees) G2.objs.size s2 H2 fp) [] H' b:=λ{H'} hn b hb=>by
  obtain⟨f0,f1,f3,f4,f5,f6⟩:=f2 b hb
  refine⟨hn b hb,Yc1 (Ya1 (hlt b hb) hCle),λz=>?_,.inl hb,λx a h=>f5 x a (c.cl I2.ok h),λp hp=>absurd (show p∈([]:PL)from hp) (by simp)⟩
  rcases Yg1.mp (I2.stkSub b z)with e | e
  ·exact f1 e
  ·exact f3 e
 have loop:∀ s₃:Shared,s₃={s2 with heap:=h₁,toks:=s2.toks + ([]:List (Str×Value)).length} ->
   codeAny (model X.prog X.w) X.A (.compLoop (.ListComp elt [⟨tg,iter,ifs,0⟩] scope pos) 0 (.ref it) (.ref s2.heap.objs.size) (compEnvC scope (Zos X.env scope.names []) G2.objs.size X.env))
    (RR (.ref s2.heap.objs.size) G2.objs.size) s₃:=by
  rintro s₃ rfl
  refine Zor (λn s'=>∃ i ys σ' H',Inv (Zdp X scope (own++frees) G2.objs.size s2 H2 fp) [] σ' H' s'/\tn i s'.heap/\(∀ b∈fp,H' b=none)/\W i n ys σ' H') ?_ m0
   ⟨0,[],_,_,I0 _,T.keep _ _ _ st2 λb _ o e=>old b o e,λb hb=>by rw[Zab (Yc1 (hlt b hb))];exact(f2 b hb).1,w0⟩
  rintro n s3 ⟨i,ys,σ3,H3,I3,st3,fr3,w3⟩ E'
  rcases turn i n ys σ3 H3 w3 with⟨stop,qn⟩ | ⟨go,hz,N,hN,step⟩
  ·refine thn (T.done (Zdp X scope (own++frees) G2.objs.size s2 H2 fp) rfl rfl rfl c.calm i [] s3 σ3 H3 E' I3 (stat fr3) st3 stop) λr s4 ⟨hr,I4⟩=>?_
   subst hr
   have back:Inv X pins σ H3 s4:=I2.call' (ch:=fp) I4.os I4.base I4.hok I4.bare λb hb=>⟨(f2 b hb).2.2.2.1,(f2 b hb).2.1,(f2 b hb).2.2.2.2.1,(f2 b hb).2.2.2.2.2⟩
   exact hR _ _ H3 s4 back (I2.fpOk hCle I4.free) ⟨_,I4.loc.choose_spec.1⟩ qn
  ·refine thn (T.item (Zdp X scope (own++frees) G2.objs.size s2 H2 fp) rfl rfl rfl c.calm i [] s3 σ3 H3 E' I3 (stat fr3) st3 go) λr s4 ⟨u,hr,h4⟩=>?_
   subst hr
   refine thn h4 λ_ s5 ⟨x,H5,I5,r5,y5,st5,fr5⟩=>?_
   have I5':=I5.pinned (stat fr5) (T.obj _ _ st5)
   have nof:∀(e:Value) (s':Shared),(Zdp X scope (own++frees) G2.objs.size s2 H2 fp).xe e s'->E' e s':=λ_ _ z=>False.elim z
   refine Jf (hg _ _ _ _ _ s5 σ3 H5 x u _ I5' r5 (step x H5 y5)) (λ_ s6 ⟨σ6,H6,I6,q6⟩=>?_) nof
   refine Jf (ht _ _ _ _ _ s6 σ6 H6 _ I6 q6) (λb s7 ⟨H7,I7,q7⟩=>?_) nof
   have again:∀ {σ7:St} {H7:Hp} {s7:Shared} {ys':LV},Inv (Zdp X scope (own++frees) G2.objs.size s2 H2 fp) ([]++Znp fp s5.heap) σ7 H7 s7->N ys' σ7 H7 ->
     ∃ m,m<n/\∃ i ys σ' H',Inv (Zdp X scope (own++frees) G2.objs.size s2 H2 fp) [] σ' H' s7/\tn i s7.heap/\(∀ b∈fp,H' b=none)/\W i m ys σ' H':=λ{σ7 H7 s7 ys'} I7 n7=>by
    obtain⟨m',hm,w7⟩:=hN _ _ _ n7
    refine⟨m',hm,i + 1,ys',σ7,H7,I7.unpinned,T.keep _ _ _ st5 λb hb o e=>(I7.pin (b,o) (Yl1 _ (Yl1 _ (Zho hb e)))).1,λb hb=>?_,w7⟩
    obtain⟨o,e,d⟩:=T.obj _ _ st5 b hb
    exact(I7.pin (b,o) (Yl1 _ (Yl1 _ (Zho hb e)))).2.1
   cases b with
   | false =>
    rw[if_neg Yg]at q7 ⊢
    exact again I7 q7
   | true =>
    rw[if_pos rfl]at q7 ⊢
    refine Jf (he _ _ _ _ _ s7 σ6 H7 _ I7 q7) (λv s8 ⟨y,H8,I8,r8,hD8,w8⟩=>?_) nof
    refine Jf (Zbw (X:=Zdp X scope (own++frees) G2.objs.size s2 H2 fp) _ s8 σ6 H8 (.ref s2.heap.objs.size) [y] (.ref s2.heap.objs.size) [v] (λ_ H9=>H9=upd H8 s2.heap.objs.size (.lst (ys++[y]))) I8 rfl (.cons r8 .nil) ⟨_,ys,y,rfl,rfl,hD8,hz,rfl⟩) (λz s9 ⟨_,H9,I9,_,e9⟩=>?_) nof
    subst e9
    exact again I9 w8
 exact codeAny_compStart_list (loop _ rfl) (T.self X.A 0 _ _ _ (T.keep _ _ _ st2 λb _ o e=>old b o e) (loop _ rfl))
end
section
variable {X:Cx}{scope:Scope}{own frees:LS}{js:LN}{tg iter elt:Expr}{ifs:List Expr}{wi:TI}{g:TG}{tt:TT}{te:TE}{pos:Pos}
def Z52(n:Nat)(js:LN)(wi:TI)(g:TG)(tt:TT)(te:TE):TE:=λσ H Q=>wi σ H (compBody n js g tt te σ Q)
def Zbt(own frees:LS)(js:LN)(hc:X.Ok->Zgy X scope own frees js)(hi:PI X tg iter wi)
  (hg:∀ C s H fp,PG (Zdp X scope (own++frees) C s H fp) tg g) (ht:∀ C s H fp,PTs (Zdp X scope (own++frees) C s H fp) ifs tt) (he:∀ C s H fp,PE (Zdp X scope (own++frees) C s H fp) elt te)
  (hs:∀ x,foldedSetIterable iter X.env x=pure x:=by intro _;rfl):
  PE X (.ListComp elt [⟨tg,iter,ifs,0⟩] scope pos) (Z52 own.length js wi g tt te):=by
 ac_rfl
 have c:=hc I.ok
 rw[eval_ListComp]
 refine wpAny_comprehension_free (use:=none) rfl hs (Zis (c.cells I.ok)) c.kind c.locals (thn (hi pins s σ H _ I h) λxv s₁ h₁=>thn h₁ λit s₂ h₂=>?_)
 refine Zlm (RR:=λacc C=>compPost (model X.prog X.w) X.A X.xe none (EP X pins σ Q) acc C) c hg ht he h₂ λD C H' s' J F n q=>?_
 obtain⟨m,hn⟩:=n
 obtain⟨f0,f1,f2,f3,f4,f5⟩:=F
 exact⟨m,hn,λh' hs'=>⟨.ref D,H',J.turned (t':=s'.toks) (λb o hb e=>hs'.extBut b o hb e) f0 f1 f3 f4 f5,rfl,q⟩⟩
def Zxb(k n:Nat)(js:LN)(wi:TI)(g:TG)(tt:TT)(te:TE):TS:=λD σ H=>wi σ H (compBody n js g tt te σ λv H1=>D.nx (σ.set k (some v)) H1)
def Zcz{k:Nat}{y:Str}{py spos:Pos}(own frees:LS)(js:LN)(hN:X.N.Nodup)(hk:X.N[k]?=some y)(hy:X.env.scope.names.lookup y=some .local)(hc:X.Ok->Zgy X scope own frees js)(hi:PI X tg iter wi)
  (hg:∀ C s H fp,PG (Zdp X scope (own++frees) C s H fp) tg g) (ht:∀ C s H fp,PTs (Zdp X scope (own++frees) C s H fp) ifs tt) (he:∀ C s H fp,PE (Zdp X scope (own++frees) C s H fp) elt te)
  (hsw:swapsWith (.ListComp elt [⟨tg,iter,ifs,0⟩] scope pos) (some (.Name y py)) spos.line X.env=pure true:=by rfl)
  (hs:∀ x,foldedSetIterable iter X.env x=pure x:=by intro _;rfl):
  PS X (.Assign [.Name y py] (.ListComp elt [⟨tg,iter,ifs,0⟩] scope pos) spos) (Zxb k own.length js wi g tt te):=by
 intro pins s σ H D I h
 have c:=hc I.ok
 rw[exec_Assign_Name_used _ _ _ _ hsw]
 refine Ja (wpAny_standAt (Ja ?_))
 show wpAny _ X.A (do let _ <- comprehension (.ListComp elt [⟨tg,iter,ifs,0⟩] scope pos) scope X.env _ (newList []) false (eval iter X.env) (some (assign (.Name y py) X.env))) _ _ s
 refine Ja (Jf (wpAny_comprehension_free (use:=some (assign (.Name y py) X.env)) (Q:=λ_ s'=>SP X pins D .next s') rfl hs (Zis (c.cells I.ok)) c.kind c.locals
  (thn (hi pins s σ H _ I h) λxv s₁ h₁=>thn h₁ λit s₂ h₂=>?_)) (λ_ s' hq=>Jd (Jd hq)) λ_ _ e=>e)
 refine Zlm (RR:=λacc C=>compPost (model X.prog X.w) X.A X.xe (some (assign (.Name y py) X.env)) (λ_ s'=>SP X pins D .next s') acc C) c hg ht he h₂ λA' C H' s' J F n q=>?_
 obtain⟨m,hn⟩:=n
 obtain⟨f0,f1,f2,f3,f4,f5⟩:=F
 show wpAny _ X.A (assign (.Name y py) X.env (.ref A')) _ _ _
 refine wpAny_assign_Name (Zm7 J hN hk (.inl hy) (v:=.ref A') rfl (λs'' J' ⟨a,sb,ha⟩=>?_) (.inr hy))
 have hne:a≠C:=by
  rcases ha with e | e
  ·rw[e];exact Ym f1
  ·exact f4 y a e
 refine⟨m,hn.sameBut sb (Ym hne),λh' hs'=>⟨_,H',J'.turned (t':=s''.toks) (λb o hb e=>hs'.extBut b o hb e) f0 f1 f3 f4 f5,q⟩⟩
end
def Zdq{J:It}{xs:LV}{Ok:Hp->Prop}(R:Zqf J xs Ok){n:Nat}{js:LN}{g:TG}{tt:TT}{te:TE}{σ:St}{Q:VK}{H1:Hp}(hz:xs.length<=sizeLine)
  (Pv:Addr->Nat->LV->St->Hp->Prop) (h0:∀ D,H1 D=none->Pv D 0 [] (sgC n js σ) (upd H1 D (.lst [])))
  (hok:∀ D i ys σ' H,i<=xs.length->Pv D i ys σ' H->Ok H/\ys.length<=i)
  (hs:∀ D i x ys σ' H,H1 D=none->xs[i]?=some x->Pv D i ys σ' H->g x σ' H λσ3 H3=>tt σ3 H3 λb H4 =>
   if b=true then te σ3 H4 λv H5=>H5 D=some (.lst ys)/\Pv D (i + 1) (ys++[v]) σ3 (upd H5 D (.lst (ys++[v])))else Pv D (i + 1) ys σ3 H4)
  (hd:∀ D ys σ' H,H1 D=none->Pv D xs.length ys σ' H->Q (.ref D) H):
  compBody n js g tt te σ Q J H1:=by
 intro D hD
 refine⟨λi m ys σ' H=>m=xs.length - i/\i<=xs.length/\Pv D i ys σ' H,⟨xs.length,by simp,Yv _,h0 D hD⟩,?_⟩
 rintro i m ys σ' H ⟨rfl,hi,p⟩
 obtain⟨q,hy⟩:=hok D i ys σ' H hi p
 by_cases hlt:i<xs.length
 ·have hx:xs[i]?=some xs[i]:=by simp[hlt]
  refine .inr ⟨R.go i _ H q hx,by omega,Pv D (i + 1),λys3 σ3 H3 p3=>⟨xs.length - (i + 1),by omega,rfl,hlt,p3⟩,λx H' y=>?_⟩
  obtain⟨e1,e2⟩:=R.yld i _ H x H' q hx y
  rw[e2]
  exact hs D i x ys σ' H hD (by rw[e1];exact hx) p
 ·have e:i=xs.length:=by omega
  subst e
  exact .inl ⟨R.stop H q,hd D ys σ' H hD p⟩
def Zda{J:It}{xs:LV}{Ok:Hp->Prop}(R:Zqf J xs Ok){js:LN}{tt:TT}{te:TE}{σ:St}{Q:VK}{H1:Hp}(hz:xs.length<=sizeLine)(p:V->Bool)(f:V->V)
  (hok:∀ D ys,H1 D=none->Ok (upd H1 D (.lst ys)))
  (ht:∀ D ys x (R:Bool->Hp->Prop),H1 D=none->x∈xs->R (p x) (upd H1 D (.lst ys))->tt (some x :: js.map λj=>(σ[j]?).join) (upd H1 D (.lst ys)) R)
  (he:∀ D ys x (R:V->Hp->Prop),H1 D=none->x∈xs->p x=true->R (f x) (upd H1 D (.lst ys))->te (some x :: js.map λj=>(σ[j]?).join) (upd H1 D (.lst ys)) R)
  (hd:∀ D,H1 D=none->Q (.ref D) (upd H1 D (.lst ((xs.filter p).map f)))):
  compBody 1 js (Zff 0) tt te σ Q J H1:=by
 refine Zdq R hz (λD i ys σ' H=>H1 D=none/\ys=((xs.take i).filter p).map f/\(∃ o,σ'=o :: js.map λj=>(σ[j]?).join)/\H=upd H1 D (.lst ys)) ?_ ?_ ?_ ?_
 ·intro D hD
  exact⟨hD,by simp,⟨none,rfl⟩,rfl⟩
 ·rintro D i ys σ' H hi ⟨hD,e,_,rfl⟩
  refine⟨hok D ys hD,?_⟩
  rw[e,Ya]
  exact Yx (Yw1 _ _) (by rw[Yd1];omega)
 ·rintro D i x ys σ' H hD hx ⟨_,e,⟨o,rfl⟩,rfl⟩
  show tt (some x :: js.map λj=>(σ[j]?).join) (upd H1 D (.lst ys)) _
  have hm:x∈xs:=Yf hx
  refine ht D ys x _ hD hm ?_
  cases hp:p x with
  | true =>
   rw[if_pos rfl]
   refine he D ys x _ hD hm hp ⟨uS,hD,?_,⟨_,rfl⟩,Zgz⟩
   rw[take_succ_filter p xs i x hx,hp,Yb1,e]
   rfl
  | false =>
   rw[if_neg Yg]
   refine⟨hD,?_,⟨_,rfl⟩,rfl⟩
   rw[take_succ_filter p xs i x hx,hp,Yb1,e]
   simp
 ·rintro D ys σ' H hD ⟨_,e,_,rfl⟩
  rw[Ye1]at e
  rw[e]
  exact hd D hD
section
variable {X:Cx}
def Zou{bs:List Bool}{its:LU}(r:Zb0 (bs.map V.bl) its):∀(i:Nat) (v:Value),its[i]?=some v->v=Value.bool (bs.getD i false):=λi v h=>by
 have hl:=r.length
 rw[Ya]at hl
 have hi:i<its.length:=(Yn.mp h).1
 have hb:(bs.map V.bl)[i]?=some (V.bl (bs.getD i false)):=by
  rw[Yp,Yw]
  have:i<bs.length:=by omega
  simp[this]
 obtain⟨u,hu,ru⟩:=r.get hb
 rw[h]at hu
 cases hu
 exact ru
def Zuh{bs:List Bool}:(List.range bs.length).all (λi=>bs.getD i false)=bs.all id:=by
 rw[Ys2]
 simp only[Yr1,Yl2,id]
 constructor
 ·intro h b hb
  obtain⟨i,hi,e⟩:=Ya4.mp hb
  have:=h i hi
  rw[Yw]at this
  simpa[hi,e]using this
 ·intro h i hi
  rw[Yw]
  simp only[Yh hi,Option.getD_some]
  exact h _ (Yr2 hi)
def Zug{bs:List Bool}:(List.range bs.length).any (λi=>bs.getD i false)=bs.any id:=by
 rw[Ys2]
 simp only[Yg3,Yl2,id]
 constructor
 ·rintro⟨i,hi,e⟩
  rw[Yw]at e
  simp only[Yh hi,Option.getD_some]at e
  exact⟨_,Yr2 hi,e⟩
 ·rintro⟨b,hb,e⟩
  obtain⟨i,hi,e'⟩:=Ya4.mp hb
  refine⟨i,hi,?_⟩
  rw[Yw]
  simp only[Yh hi,Option.getD_some]
  rw[e',e]
def Z6f(K:Fg)(f:List Bool->Bool):LV->Hp->VK->Prop:=λxs H Q=>∃ a bs,xs=[.ref a]/\SqL K H a (bs.map V.bl)/\Q (.bl (f bs)) H
def Zmx(hc:X.calm=true):Zi6 X (.builtin "all") (Z6f X.K λbs=>bs.all id):=by
 intro pins s σ H xs us Q I r h
 obtain⟨a,bs,rfl,ha,q⟩:=h
 obtain⟨u,rfl,ru⟩:=Zks r
 cases ru
 obtain⟨its,rv,p,hz⟩:=I.list ha
 have hl:=rv.length
 rw[Ya]at hl
 refine call_all_walk (wpAny_pyIter_list p.isList ?_)
 have hne:a≠s.heap.objs.size:=by
  obtain⟨o,ho,_⟩:=p.isList
  exact Yc1 (Yj ho)
 refine⟨s.heap.objs.size,_,_,_,_,_,λi=>bs.getD i false,rfl,Walks.list (A:=X.A.in1) (I.ok.hd hc) s.heap.objs.size a hne its.toArray,⟨⟨_,Ys _ rfl,rfl,rfl⟩,?_⟩,?_,?_⟩
 ·obtain⟨o,ho,r'⟩:=p.isList
  exact⟨o,Yb _ ho,r'⟩
 ·intro i v s' Q' E' hv hq
  have e:=Zou rv i v (by simpa using hv)
  subst e
  exact Jh hq
 ·intro h' tk hk
  refine⟨.bl (bs.all id),H,I.kept λb o e=>hk b o ?_ (Yb _ e),?_,q⟩
  ·have hb:=Yj e
   intro z
   have z':b=s.heap.objs.size:=by simpa using z
   exact Yc1 hb z'
  ·have:its.toArray.size=bs.length:=by simp[hl]
   rw[this,Zuh]
   rfl
def Zy5(hc:X.calm=true):Zi6 X (.builtin "any") (Z6f X.K λbs=>bs.any id):=by
 intro pins s σ H xs us Q I r h
 obtain⟨a,bs,rfl,ha,q⟩:=h
 obtain⟨u,rfl,ru⟩:=Zks r
 cases ru
 obtain⟨its,rv,p,hz⟩:=I.list ha
 have hl:=rv.length
 rw[Ya]at hl
 refine call_any_walk (wpAny_pyIter_list p.isList ?_)
 have hne:a≠s.heap.objs.size:=by
  obtain⟨o,ho,_⟩:=p.isList
  exact Yc1 (Yj ho)
 refine⟨s.heap.objs.size,_,_,_,_,_,λi=>bs.getD i false,rfl,Walks.list (A:=X.A.in1) (I.ok.hd hc) s.heap.objs.size a hne its.toArray,⟨⟨_,Ys _ rfl,rfl,rfl⟩,?_⟩,?_,?_⟩
 ·obtain⟨o,ho,r'⟩:=p.isList
  exact⟨o,Yb _ ho,r'⟩
 ·intro i v s' Q' E' hv hq
  have e:=Zou rv i v (by simpa using hv)
  subst e
  exact Jh hq
 ·intro h' tk hk
  refine⟨.bl (bs.any id),H,I.kept λb o e=>hk b o ?_ (Yb _ e),?_,q⟩
  ·have hb:=Yj e
   intro z
   have z':b=s.heap.objs.size:=by simpa using z
   exact Yc1 hb z'
  ·have:its.toArray.size=bs.length:=by simp[hl]
   rw[this,Zug]
   rfl
def Z69(i j:Int):Prop:=Builtin.Int.intBits i<=2 ^ 20/\Builtin.Int.intBits j<=2 ^ 20
def Zpn:OpR X (binaryOp .Mult) (rI Z69 λi j=>.int (i * j)):=opI λ_ _ _ _ _ _ _ hc q=>mul_int q (IntMulOk.of_bits hc.1 hc.2)
def Z7b(i j:Int):Prop:=0<j/\j<4611686018427387904
def Zxq:OpR X (binaryOp .FloorDiv) (rI Z7b λi j=>.int (i / j)):=opI λi j _ _ _ _ _ hc q=>by
 have h1:(0:Int)<j:=hc.1
 have h2:j<4611686018427387904:=hc.2
 refine floordiv_int (by omega) (by rw[Int.fdiv_eq_ediv_of_nonneg i (by omega)];exact q) (.inl (PyProof.noPylong_of_log2 ?_))
 have h3:j.natAbs.log2<62:=(Nat.log2_lt (by omega)).mpr (by omega)
 omega
def Z9n:V->Option Int->Option Int->Hp->VK->Prop:=λx lo hi H Q=>∃ z,x=.str z/\z.length<=sizeLine/\Q (.str (Txt.slice z lo hi)) H
def Zzj:SlR X Z9n:=by
 intro pins s σ H x v vl vu lo hi sl Q I rx hs pl pu h
 obtain⟨z,rfl,hz,q⟩:=h
 obtain⟨t,rfl⟩:=rx
 refine⟨"str",_,F.slot_str_getitem.lookup,typeIs_str _ _ _,?_⟩
 have fin:∀ t' k,EP X pins σ Q (.str (Txt.slice z lo hi) t') {s with toks:=k}:=λt' k=>⟨.str _,H,I.tok _,⟨_,rfl⟩,q⟩
 have hsz:=Yx (Txt.slice_le z lo hi) hz
 obtain⟨o,h1,h2,h3⟩:=hs
 cases pl with
 | none =>
  cases pu with
  | none=>exact wpAny_getItem_str_slice (l:=none) (u:=none) (st:=none) ⟨o,h1,h2,h3⟩ rfl (post_val_or_str ⟨hsz,fin⟩)
  | int j uj=>exact wpAny_getItem_str_slice (l:=none) (u:=some (j,uj)) (st:=none) ⟨o,h1,h2,h3⟩ rfl (post_val_or_str ⟨hsz,fin⟩)
 | int i ui =>
  cases pu with
  | none=>exact wpAny_getItem_str_slice (l:=some (i,ui)) (u:=none) (st:=none) ⟨o,h1,h2,h3⟩ rfl (post_val_or_str ⟨hsz,fin⟩)
  | int j uj=>exact wpAny_getItem_str_slice (l:=some (i,ui)) (u:=some (j,uj)) (st:=none) ⟨o,h1,h2,h3⟩ rfl (post_val_or_str ⟨hsz,fin⟩)
def Z9q(K:Fg):LV->Hp->VK->Prop:=λxs H Q=>∃ x n t b,xs=[x,.ty n]/\Zs8 K H x t/\W.kitOne K t (.type n)=some b/\Q (.bl b) H
def Zgv:Zi6 X (.builtin "isinstance") (Z9q X.K):=by
 intro pins s σ H xs us Q I r h
 obtain⟨x,n,t,b,rfl,ty,e,q⟩:=h
 obtain⟨u,w',rfl,r1,r2⟩:=Zw8 r
 cases r2
 exact Zvx I r1 ty e λtk=>⟨.bl b,H,I.tok _,rfl,q⟩
end
def Z48(osc:Scope)(on:LS)(scope:Scope)(frees:LS)(js:LN):Bool :=
 (scope.kind == .function)&&scope.names.all (λy=>y.2 != .cell)&&scope.names.all (λy=>y.2 != .local || scope.names.lookup y.1 == some .local) &&
 scope.names.all (λy=>y.2 != .free || (osc.names.lookup y.1 == some .cell || osc.names.lookup y.1 == some .free))&&frees.all (λx=>scope.names.lookup x == some .free)&&decide (js.map (λj=>on[j]?)=frees.map some)
def Za1{X:Cx}{osc scope:Scope}{on own frees:LS}{js:LN}(h:Z48 osc on scope frees js=true)(h1:X.env.scope=osc)(h2:X.N=on)(h3:X.calm=true):Zgy X scope own frees js:=by
 subst h1
 subst h2
 unfold Z48 at h
 simp only[Yt1,Yr1,decide_eq_true_eq,Bool.or_eq_true,bne_iff_ne,beq_iff_eq,ne_eq]at h
 obtain⟨⟨⟨⟨⟨a,b⟩,c⟩,d⟩,e⟩,f⟩:=h
 exact⟨h3,a,b,λy hy z=>(c y hy).resolve_left (λq=>q z),λy hy z=>(d y hy).resolve_left (λq=>q z),e,f⟩
def Zqn(t u:TS):TS:=λD σ H=>∃ M:SW,t {D with nx:=M} σ H/\∀ σ' H',M σ' H'->u D σ' H'
def Zc3{X:Cx}{st:Stmt}{Zf3:List Stmt}{t u:TS}(h1:PS X st t)(h2:PSs X Zf3 u):PSs X (st :: Zf3) (Zqn t u):=by
 intro pins s σ H D I h
 obtain⟨M,h,hM⟩:=h
 refine wpAny_execs_cons (thn (h1 pins s σ H {D with nx:=M} I h) λf s1 q=>?_)
 cases f with
 | next =>
  obtain⟨σ',H',I',q⟩:=q
  exact h2 pins s1 σ' H' D I' (hM _ _ q)
 | ret v=>exact q
 | brk=>exact q
 | cont=>exact q
structure Def(K:Fg)(mg:Str->OU)(x:Str)(st:Stmt)(ps:LS)(f:Addr)(fd:FuncData):Prop where
 fn:Fun K x x st f fd
 b:Zeh K fd ps []
 m:mg x=some (.ref f)
def Zaf{X:Cx}{k:Nat}{ps:LS}{sp:Sp}{x:Str}{st:Stmt}{p pos:Pos}{e:Expr}{es:List Expr}{t:TA}(d:Def X.K X.mg x st ps f fd)(F:Zap X.prog X.w X.K X.mg X.base CX0 k f fd ps sp)(hr:Zcb k X.A)
  (ha:PA X (e :: es) t) (hg:Gl X x:=by rfl) (hdb:(x == ("__debug__":Str))=false:=by decide) (he:starEach (e :: es) X.env=(false,eval e X.env):: starEach es X.env:=by rfl) (hpl:(backTo pos (starEach es X.env)).any (·.1)=false:=by rfl):
  PE X (.Call (.Name x p) (e :: es) [] pos) (Z3b sp [] E0 t):=Ziz F hr hg d.m d.fn.kp d.b .nil Zdn ha hdb he hpl
def sL{n:Nat}(h:n<=100000):n<=sizeLine:=by rw[sizeLine_eq];omega
end L2
namespace L2
open PySem PySem.Spec PyProof.Rows PySem.W
mutual
inductive Rep(K:Fg)(H:Hp):V->Dat->Prop
 | none:Rep K H .non .none
 | bool (b:Bool):Rep K H (.bl b) (.bool b)
 | int (i:Int):Rep K H (.int i) (.int i)
 | str (x:Str):Rep K H (.str x) (.str x)
 | tuple {a:Addr} {xs:LV} {ds:List Dat}:SqT K H a xs->Reps K H xs ds->Rep K H (.ref a) (.tuple ds)
 | list {a:Addr} {xs:LV} {ds:List Dat}:SqL K H a xs->Reps K H xs ds->Rep K H (.ref a) (.list ds)
inductive Reps(K:Fg)(H:Hp):LV->List Dat->Prop
 | nil:Reps K H [] []
 | cons {v:V} {vs:LV} {d:Dat} {ds:List Dat}:Rep K H v d->Reps K H vs ds->Reps K H (v :: vs) (d :: ds)
end
def Zaj.tup{K:Fg}{H H':Hp}{a:Addr}{xs:LV}(e:Zaj H H')(h:SqT K H a xs):SqT K H' a xs:=by
 rcases h with(h | ⟨o,h⟩) | h
 ·exact .inl (.inl (e _ _ h))
 ·exact .inl (.inr ⟨o,e _ _ h⟩)
 ·exact .inr h
mutual
theorem Rep.mono{K:Fg}{H H':Hp}(e:Zaj H H'):∀ {v:V}{d:Dat},Rep K H v d->Rep K H' v d
 | _,_,.none=>.none
 | _,_,.bool b=>.bool b
 | _,_,.int i=>.int i
 | _,_,.str x=>.str x
 | _,_,.tuple h r=>.tuple (e.tup h) (Reps.mono e r)
 | _,_,.list h r=>.list (e.seq h) (Reps.mono e r)
theorem Reps.mono{K:Fg}{H H':Hp}(e:Zaj H H'):∀ {vs:LV}{ds:List Dat},Reps K H vs ds->Reps K H' vs ds
 | _,_,.nil=>.nil
 | _,_,.cons h r=>.cons (Rep.mono e h) (Reps.mono e r)
end
section
variable {X:Cx}{pins:PL}{σ:St}{H:Hp}{s:Shared}
mutual
theorem Rep.reads(I:Inv X pins σ H s):∀ {v:V}{d:Dat}{u:Value},Rep X.K H v d->Zcl v u->∃ as,Reads s.heap u (kqdP d) as
 | _,_,_,.none,r=>by cases(show _=Value.none from r);rw[kqdP];exact⟨_,Reads.none⟩
 | _,_,_,.bool b,r=>by cases(show _=Value.bool b from r);rw[kqdP];exact⟨_,Reads.bool b⟩
 | _,_,_,.int i,r=>by obtain⟨t,e⟩:=(show ∃ t,_=Value.int i t from r);cases e;rw[kqdP];exact⟨_,Reads.int i t⟩
 | _,_,_,.str x,r=>by obtain⟨t,e⟩:=(show ∃ t,_=Value.str x t from r);cases e;rw[kqdP];exact⟨_,Reads.str x t⟩
 | _,_,_,.tuple (a:=a) h q,r=>by
  cases(show _=Value.ref a from r)
  obtain⟨its,rv,⟨o,e,c,n,d⟩,_⟩:=I.tuple h
  obtain⟨as,p⟩:=Reps.reads I q rv
  rw[kqdP]
  exact⟨as,reads_tuple_at e c d (by simpa using p)⟩
 | _,_,_,.list (a:=a) h q,r=>by
  cases(show _=Value.ref a from r)
  obtain⟨its,rv,⟨o,n,e,c,_,d⟩,_⟩:=I.list h
  obtain⟨as,p⟩:=Reps.reads I q rv
  rw[kqdP]
  exact⟨_,reads_list_at e c d (by simpa using p)⟩
theorem Reps.reads(I:Inv X pins σ H s):∀ {vs:LV}{ds:List Dat}{us:LU},Reps X.K H vs ds->Zb0 vs us->∃ as,ReadsAll s.heap us (kqdPs ds) as
 | _,_,_,.nil,r=>by cases r;rw[kqdPs];exact⟨_,ReadsAll.nil⟩
 | _,_,_,.cons h q,r=>by
  cases r with
  | cons r1 r2 =>
   obtain⟨as,p⟩:=Rep.reads I h r1
   obtain⟨bs,t⟩:=Reps.reads I q r2
   rw[kqdPs]
   exact⟨_,ReadsAll.cons p t⟩
end
end
def dEq(d e:Dat):Bool:=@decide (d=e) (Classical.propDecidable _)
def Zhs(d:Dat):dEq d d=true:=by unfold dEq;exact @Jb _ (Classical.propDecidable _) rfl
def Z2f{d e:Dat}(h:d=e):dEq d e=true:=by rw[h];exact Zhs e
def Zkm{d e:Dat}(h:d≠e):dEq d e=false:=by unfold dEq;exact @Jc _ (Classical.propDecidable _) h
def Zp6{d e:Dat}{n k:Nat}(h1:kqdOk n d=true)(h2:kqdOk k e=true):PyData.eqv (kqdP d) (kqdP e)=dEq d e:=by
 have q:=kqd_eqv n d e k h1 h2
 by_cases h:d=e
 ·rw[Z2f h];exact q.mpr h
 ·rw[Zkm h];exact Bool.eq_false_iff.mpr λx=>h (q.mp x)
def Ze2{d:Dat}(h:kqdOk 9 d=true):SeqAt.shaped (kqdP d)=true:=by
 have l:=kqd_lay 9 d h
 unfold SeqAt.shaped
 rw[l.1,Ye3]
 exact Jb (Yx l.2 (by decide))
section
variable {X:Cx}
def Z79(K:Fg)(f:Bool->Bool):R2:=λx y H Q=>∃ d e,Rep K H x d/\Rep K H y e/\kqdOk 9 d=true/\kqdOk 9 e=true/\Q (.bl (f (dEq d e))) H
def Z36(hu:X.A.units + 64<cLine):OpR X (compareOp .Eq) (Z79 X.K id):=by
 exfalso
 obtain⟨d,e,h1,h2,k1,k2,q⟩:=h
 obtain⟨as,ra⟩:=h1.reads I rx
 obtain⟨bs,rb⟩:=h2.reads I ry
 exact eq_dataH ra rb (Ze2 k1) (Ze2 k2) hu (Zbl I q (by rw[Zp6 k1 k2];rfl))
def Zlb(hu:X.A.units + 64<cLine):OpR X (compareOp .NotEq) (Z79 X.K Bool.not):=by
 exfalso
 obtain⟨d,e,h1,h2,k1,k2,q⟩:=h
 obtain⟨as,ra⟩:=h1.reads I rx
 obtain⟨bs,rb⟩:=h2.reads I ry
 exact ne_dataH ra rb (Ze2 k1) (Ze2 k2) hu (Zbl I q (by rw[Zp6 k1 k2]))
end
end L2
namespace L2
open PySem PySem.Spec PyProof.Rows
section
variable {X:Cx}{pins:PL}{σ:St}{H H':Hp}{s:Shared}{a:Addr}{kvs:KL}{o:Obj}
def Inv.reH(I:Inv X pins σ H s)(base:Un X.fs X.ex X.H₀ H' X.s₀.heap s.heap)(hn:∀ b,H b=none->H' b=none)(hok:HOk X.prog X.w H' s.heap):Inv X pins σ H' s :=
 ⟨I.ok,I.os,I.bare,base,I.loc,I.cell,hn _ I.free,λx c e=>hn _ (I.freeC x c e),λp hp=>by
  obtain⟨e,n,r⟩:=I.pin p hp
  exact⟨e,hn _ n,r⟩,hok,I.len⟩
def Inv.reAt{u u':HO}(I:Inv X pins σ H s)(h:H a=some u)(nt:∀ xs,u≠.tup xs)(no:∀ y,u≠.own y)(nb:∀ ps,u≠.tbl ps)(nf:∀ o v,X.H₀ a≠some (.frz o v))
  (ok:Zb6 X.prog X.w H s.heap a u->Zb6 X.prog X.w (upd H a u') s.heap a u'):Inv X pins σ (upd H a u') s:=by
 have hn:∀ b,H b=none->upd H a u' b=none:=λb e=>by
  rw[Zab]
  ·exact e
  ·rintro rfl;rw[h]at e;cases e
 refine I.reH ⟨I.base.keep,I.base.slot,λb ob e n hx=>hn b (I.base.free b ob e n hx),I.base.there,λb xs e=>?_,λb ob v e=>?_,λb ps e=>?_⟩ hn ?_
 ·have q:=I.base.tups b xs e
  rw[Zab]
  ·exact q
  ·rintro rfl;rw[h]at q;exact nt xs (Yq q)
 ·have q:=I.base.frzs b ob v e
  rw[Zab]
  ·exact q
  ·rintro rfl;exact nf ob v e
 ·obtain⟨m,q⟩:=I.base.tbls b ps e
  refine⟨m,?_⟩
  rw[Zab]
  ·exact q
  ·rintro rfl;rw[h]at q;exact nb _ (Yq q)
 ·intro b v e
  by_cases hb:b=a
  ·subst hb
   rw[uS]at e
   cases e
   exact ok (I.hok b u h)
  ·rw[Zab hb]at e
   refine(I.hok b v e).stay (λ_ _ _ q=>q) (λc q=>?_) λc xs q=>?_
   ·rw[Zab]
    ·exact q
    ·rintro rfl;rw[h]at q;exact no _ (Yq q)
   ·rw[Zab]
    ·exact q
    ·rintro rfl;rw[h]at q;exact nt _ (Yq q)
def Inv.freeze(I:Inv X pins σ H s)(h:H a=some (.dK kvs))(ho:s.heap.get? a=some o):Inv X pins σ (upd H a (.frz o (.dK kvs))) s/\∀ o' v,X.H₀ a≠some (.frz o' v):=by
 have nf:∀ o' v,X.H₀ a≠some (.frz o' v):=λo' v e=>by
  have q:=I.base.frzs a o' v e
  rw[h]at q
  cases q
 refine⟨I.reAt h (λ_ z=>nomatch z) (λ_ z=>nomatch z) (λ_ z=>nomatch z) nf λk=>⟨ho,k.stay (λ_ _ _ q=>q) (λc q=>?_) λc xs q=>?_⟩,nf⟩
 ·rw[Zab]
  ·exact q
  ·rintro rfl;rw[h]at q;cases q
 ·rw[Zab]
  ·exact q
  ·rintro rfl;rw[h]at q;cases q
def Zzn{P:Program}{w:World}{k:Key}{u:Value}(h:(Zbu P w).is k u=true):Zcl (kV k) u:=by
 rcases Zby (show Zp0 k u=true from h)with⟨i,t,rfl,rfl⟩ | ⟨x,t,rfl,rfl⟩
 ·exact⟨t,rfl⟩
 ·exact⟨t,rfl⟩
end
def Itk(a:Addr)(o:Obj)(kvs:KL):It :=
 ⟨λi H=>i<kvs.length/\H a=some (.frz o (.dK kvs)),λi H v H'=>H'=H/\∃ p,kvs[i]?=some p/\v=kV p.1,λi H=>kvs.length<=i/\H a=some (.frz o (.dK kvs))⟩
def Itv(a:Addr)(o:Obj)(kvs:KL):It :=
 ⟨λi H=>i<kvs.length/\H a=some (.frz o (.dK kvs)),λi H v H'=>H'=H/\∃ p,kvs[i]?=some p/\v=p.2,λi H=>kvs.length<=i/\H a=some (.frz o (.dK kvs))⟩
theorem KV.get{κ:Type}:∀ {kvs:List (κ×V)}{vs:List (κ×Value)},KV kvs vs->∀ {i:Nat}{p:κ×V},kvs[i]?=some p->∃ u,vs[i]?=some (p.1,u)/\Zcl p.2 u
 | _,_,.nil,i,p,h=>by simp at h
 | _,_,.cons r t,0,p,h=>by
  simp at h
  subst h
  exact⟨_,by simp[r.1],r.2⟩
 | _,_,.cons r t,i + 1,p,h=>by
  obtain⟨u,h1,h2⟩:=KV.get t (i:=i) (p:=p) (by simpa using h)
  exact⟨u,by simpa using h1,h2⟩
def Zhr{P:Program}{w:World}{H:Hp}{h:Heap}{a:Addr}{o:Obj}{kvs:KL}{es:Array DictEntry}{ep:Nat}(ok:Zb6 P w H h a (.frz o (.dK kvs)))(hd:o.data=.dict es ep):
  (a == sysModules)=false/\∃ vs,KV kvs vs/\h.DictAt (Zbu P w) a vs ep:=by
 obtain⟨ho,z,hs,vs,r,o',es',ep',h1,h2,h3,h4,h5,h6⟩:=ok
 rw[ho]at h1
 cases h1
 rw[hd]at h3
 cases h3
 exact⟨hs,vs,r,o,es,ho,h2,hd,h4,h5,h6⟩
def Ztl{P:Program}{w:World}{K:Fg}{tg:Expr}(a it:Addr)(o:Obj)(kvs:KL)(es:Array DictEntry)(ep:Nat)(hd:o.data=.dict es ep):
  Zte P w K tg (Itk a o kvs) [it] it (λi h=>h.IsKeyIter it a i kvs.length ep) where
 mem:=by simp
 obj:=λi h st b hb=>by
  have e:b=it:=by simpa using hb
  subst e
  obtain⟨o,e,c,d⟩:=st
  exact⟨o,e,λv z=>by rw[d]at z;cases z⟩
 keep:=λi h h' st k=>by
  obtain⟨o,ho,r⟩:=st
  exact⟨o,k it (by simp) o ho,r⟩
 item:=by
  intro X hP hw hK hc i pins s σ H E I hf st hg
  subst hP hw hK
  obtain⟨f0,f1,f2,f3,f4,f5⟩:=hf it (by simp)
  obtain⟨hi,ha⟩:=hg
  obtain⟨_,vs,r,dd⟩:=Zhr (I.hok a _ ha) hd
  obtain⟨p,hp⟩:∃ p,kvs[i]?=some p:=⟨kvs[i],by simp[hi]⟩
  obtain⟨u,hu,ru⟩:=r.get hp
  have hl:kvs.length=vs.length:=Yz r
  rw[hl]at st
  refine wpAny_pyNext_dict_item st dd hu λkey h' hk st' sb=>?_
  have I1:Inv X pins σ H {s with heap:=h' }:=I.turned (t':=s.toks) (λb o hb e=>(sb.2 b hb).trans e) f0 f1 f3 f4 f5
  obtain⟨o',e,c,d⟩:=id st'
  rw[<- hl]at st'
  exact⟨key,rfl,Zsy (s:={s with heap:=h' }) e c d (by decide) ⟨kV p.1,H,I1,Zzn hk,⟨rfl,p,hp,rfl⟩,st',λb hb=>(hf b hb).1⟩⟩
 done:=by
  intro X hP hw hK hc i pins s σ H E I hf st hg
  subst hP hw hK
  obtain⟨f0,f1,f2,f3,f4,f5⟩:=hf it (by simp)
  obtain⟨hi,ha⟩:=hg
  obtain⟨_,vs,r,dd⟩:=Zhr (I.hok a _ ha) hd
  have hl:kvs.length=vs.length:=Yz r
  rw[hl]at st
  exact wpAny_pyNext_dict_end (I.ok.hd hc) st dd (by simp;omega) λh' eb=>⟨rfl,I.turned (t':=s.toks) (λb o hb e=>eb b o hb e) f0 f1 f3 f4 f5⟩
 self:=λ_ _ _ _ _ st h=>wpAny_pyIter_keyiter st h
def Ztk{P:Program}{w:World}{K:Fg}{tg:Expr}(a it:Addr)(o:Obj)(kvs:KL)(es:Array DictEntry)(ep:Nat)(hd:o.data=.dict es ep):
  Zte P w K tg (Itv a o kvs) [it] it (λi h=>h.IsValIter it a i kvs.length ep) where
 mem:=by simp
 obj:=λi h st b hb=>by
  have e:b=it:=by simpa using hb
  subst e
  obtain⟨o,e,c,d⟩:=st
  exact⟨o,e,λv z=>by rw[d]at z;cases z⟩
 keep:=λi h h' st k=>by
  obtain⟨o,ho,r⟩:=st
  exact⟨o,k it (by simp) o ho,r⟩
 item:=by
  intro X hP hw hK hc i pins s σ H E I hf st hg
  subst hP hw hK
  obtain⟨f0,f1,f2,f3,f4,f5⟩:=hf it (by simp)
  obtain⟨hi,ha⟩:=hg
  obtain⟨_,vs,r,dd⟩:=Zhr (I.hok a _ ha) hd
  obtain⟨p,hp⟩:∃ p,kvs[i]?=some p:=⟨kvs[i],by simp[hi]⟩
  obtain⟨u,hu,ru⟩:=r.get hp
  have hl:kvs.length=vs.length:=Yz r
  rw[hl]at st
  refine wpAny_pyNext_values_item st dd hu λh' st' sb=>?_
  have I1:Inv X pins σ H {s with heap:=h' }:=I.turned (t':=s.toks) (λb o hb e=>(sb.2 b hb).trans e) f0 f1 f3 f4 f5
  obtain⟨o',e,c,d⟩:=id st'
  rw[<- hl]at st'
  exact⟨u,rfl,Zsy (s:={s with heap:=h' }) e c d (by decide) ⟨p.2,H,I1,ru,⟨rfl,p,hp,rfl⟩,st',λb hb=>(hf b hb).1⟩⟩
 done:=by
  intro X hP hw hK hc i pins s σ H E I hf st hg
  subst hP hw hK
  obtain⟨f0,f1,f2,f3,f4,f5⟩:=hf it (by simp)
  obtain⟨hi,ha⟩:=hg
  obtain⟨_,vs,r,dd⟩:=Zhr (I.hok a _ ha) hd
  have hl:kvs.length=vs.length:=Yz r
  rw[hl]at st
  exact wpAny_pyNext_values_end (I.ok.hd hc) st dd (by simp;omega) λh' eb=>⟨rfl,I.turned (t':=s.toks) (λb o hb e=>eb b o hb e) f0 f1 f3 f4 f5⟩
 self:=λ_ _ _ _ _ st h=>wpAny_pyIter_valiter st h
def Z8v(t:TS):TS:=λD σ H=>∃ a kvs,H a=some (.dK kvs)/\∀ o,t D σ (upd H a (.frz o (.dK kvs)))
def Zl8{X:Cx}{sts:List Stmt}{t:TS}(h:PSs X sts t):PSs X sts (Z8v t):=by
 intro pins s σ H D I q
 obtain⟨a,kvs,ha,q⟩:=q
 obtain⟨o,ho⟩:∃ o,s.heap.get? a=some o:=by
  obtain⟨_,_,vs,_,o,_,_,e,_⟩:=I.hok a _ ha
  exact⟨o,e⟩
 exact h pins s σ _ D (I.freeze ha ho).1 (q o)
def Zrk{P:Program}{w:World}{H:Hp}{h:Heap}{a:Addr}{o:Obj}{kvs:KL}(ok:Zb6 P w H h a (.frz o (.dK kvs))):∃ es ep,o.data=.dict es ep:=by
 obtain⟨ho,z,hs,vs,r,o',es',ep',h1,h2,h3,_⟩:=ok
 rw[ho]at h1
 cases h1
 exact⟨es',ep',h3⟩
def Znl{a:Addr}{o:Obj}{kvs:KL}:Zqf (Itk a o kvs) (kvs.map λp=>kV p.1) (λH=>H a=some (.frz o (.dK kvs))) where
 go:=λi x H ok hx=>by
  have:=(Yn.mp hx).1
  rw[Ya]at this
  exact⟨this,ok⟩
 yld:=λi x H y H' ok hx h=>by
  obtain⟨e,p,hp,hy⟩:=h
  rw[Yp,hp]at hx
  exact⟨hy.trans (Yq hx),e⟩
 stop:=λH ok=>⟨by rw[Ya];exact Yd _,ok⟩
def Zud{a:Addr}{o:Obj}{kvs:KL}:Zqf (Itv a o kvs) (kvs.map λp=>p.2) (λH=>H a=some (.frz o (.dK kvs))) where
 go:=λi x H ok hx=>by
  have:=(Yn.mp hx).1
  rw[Ya]at this
  exact⟨this,ok⟩
 yld:=λi x H y H' ok hx h=>by
  obtain⟨e,p,hp,hy⟩:=h
  rw[Yp,hp]at hx
  exact⟨hy.trans (Yq hx),e⟩
 stop:=λH ok=>⟨by rw[Ya];exact Yd _,ok⟩
section
variable {X:Cx}{tg:Expr}
def Z6s(tl:TE):TI:=λσ H R=>tl σ H λx H1=>∃ a o kvs,x=.ref a/\H1 a=some (.frz o (.dK kvs))/\R (Itk a o kvs) H1
def Zuo{l:Expr}{tl:TE}(hl:PE X l tl):PI X tg l (Z6s tl):=by
 intro pins s σ H R I h
 refine thn (hl pins s σ H _ I h) λv s1 ⟨x,H1,I1,r1,q1⟩=>?_
 obtain⟨a,o,kvs,e,ha,q⟩:=q1
 subst e
 cases r1
 obtain⟨es,ep,hd⟩:=Zrk (I1.hok a _ ha)
 obtain⟨hs,vs,r,dd⟩:=Zhr (I1.hok a _ ha) hd
 have hl:kvs.length=vs.length:=Yz r
 refine wpAny_pyIter_dict hs dd ?_
 refine⟨s1.heap.objs.size,[s1.heap.objs.size],_,_,H1,rfl,I1.kept (t':=s1.toks) λb o e=>Yb _ e,Ztl a _ o kvs es ep hd,⟨_,Ys _ rfl,rfl,by rw[hl];rfl⟩,λb hb=>?_,q⟩
 have e:b=s1.heap.objs.size:=by simpa using hb
 subst e
 exact I1.fpOk (Yd _) (I1.hok.fresh (Yd _))
end
def Zph{n:Nat}(h:n<=10000000):n<=sizeLine:=by rw[sizeLine_eq];omega
theorem Zpa:∀ {xs:LV}{us:LU},xs.length=us.length->(∀(i:Nat) (v:V) (u:Value),xs[i]?=some v->us[i]?=some u->Zcl v u)->Zb0 xs us
 | [],[],_,_=>.nil
 | [],_ :: _,h,_=>by simp at h
 | _ :: _,[],h,_=>by simp at h
 | x :: xs,u :: us,h,k=>.cons (k 0 x u rfl rfl) (Zpa (by simpa using h) λi v w hv hw=>k (i + 1) v w (by simpa using hv) (by simpa using hw))
def Zgt{J:It}{xs:LV}{Ok:Hp->Prop}(R:Zqf J xs Ok){js:LN}{tt:TT}{te:TE}{σ:St}{Q:VK}{H1:Hp}(hz:xs.length<=sizeLine)(p:V->Bool)(F:Addr->V->V->Hp->Prop)
  (hF:∀ D x v H H',(∀ b o,b≠D->H b=some o->H' b=some o)->F D x v H->F D x v H')
  (hok:∀ H,Zaj H1 H->Ok H)
  (ht:∀ x H (R:Bool->Hp->Prop),Zaj H1 H->x∈xs->(∀ H',Zaj H H'->R (p x) H')->tt (some x :: js.map λj=>(σ[j]?).join) H R)
  (he:∀ D x H (R:V->Hp->Prop),Zaj H1 H->(∃ ys,H D=some (.lst ys))->H1 D=none->x∈xs->p x=true->(∀ v H',Zaj H H'->F D x v H'->R v H')->te (some x :: js.map λj=>(σ[j]?).join) H R)
  (hd:∀ D H' ys,H1 D=none->Zaj H1 H'->H' D=some (.lst ys)->Paired (λx v=>F D x v H') (xs.filter p) ys->Q (.ref D) H'):
  compBody 1 js (Zff 0) tt te σ Q J H1:=by
 refine Zdq R hz (λD i ys σ' H=>H1 D=none/\Zaj H1 H/\H D=some (.lst ys)/\Paired (λx v=>F D x v H) ((xs.take i).filter p) ys/\∃ o,σ'=o :: js.map λj=>(σ[j]?).join) ?_ ?_ ?_ ?_
 ·intro D hD
  exact⟨hD,λb o e=>by rw[Zab (nNo e hD)];exact e,uS,by simpa using Paired.nil,none,rfl⟩
 ·rintro D i ys σ' H hi ⟨hD,hs,hl,hp,_⟩
  refine⟨hok H hs,?_⟩
  rw[<- hp.length]
  exact Yx (Yw1 _ _) (by rw[Yd1];omega)
 ·rintro D i x ys σ' H hD hx ⟨_,hs,hl,hp,o,rfl⟩
  show tt (some x :: js.map λj=>(σ[j]?).join) H _
  have hm:x∈xs:=Yf hx
  refine ht x H _ hs hm λH4 s4=>?_
  have hs4:Zaj H1 H4:=hs.trans s4
  have mono:∀ {H H':Hp},(∀ b o,b≠D->H b=some o->H' b=some o)->Paired (λx v=>F D x v H) ((xs.take i).filter p) ys->Paired (λx v=>F D x v H') ((xs.take i).filter p) ys:=λh q=>Paired.mapP q λa b z=>hF D a b _ _ h z
  cases hpx:p x with
  | true =>
   rw[if_pos rfl]
   refine he D x H4 _ hs4 ⟨_,s4 _ _ hl⟩ hD hm hpx λv H5 s5 f5=>⟨s5 _ _ (s4 _ _ hl),hD,λb o e=>?_,uS,?_,_,rfl⟩
   ·rw[Zab (nNo e hD)]
    exact s5 _ _ (hs4 _ _ e)
   ·rw[take_succ_filter p xs i x hx,hpx,if_pos rfl]
    refine Yh2 (mono (λb o hb e=>by rw[Zab hb];exact s5 _ _ (s4 _ _ e)) hp) (hF D _ _ _ _ (λb o hb e=>by rw[Zab hb];exact e) f5)
  | false =>
   rw[if_neg Yg]
   refine⟨hD,hs4,s4 _ _ hl,?_,_,rfl⟩
   rw[take_succ_filter p xs i x hx,hpx,if_neg Yg,Yn1]
   exact mono (λb o _ e=>s4 _ _ e) hp
 ·rintro D ys σ' H hD ⟨_,hs,hl,hp,_⟩
  rw[Ye1]at hp
  exact hd D H ys hD hs hl hp
section
variable {X:Cx}
def Z0u:V->LV->Hp->VK->Prop:=λx vs H Q=>∃ l xs i y,x=.ref l/\vs=[.int i,y]/\H l=some (.lst xs)/\0<=i/\i<=xs.length/\xs.length<sizeLine/\Q .non (upd H l (.lst (xs.take i.toNat++y :: xs.drop i.toNat)))
def Zj9:MtM X "list.insert" Z0u:=by
 intro pins s σ H x vs v us Q I rx rv h
 obtain⟨l,xs,i,y,rfl,rfl,hH,h0,h1,hz,q⟩:=h
 cases rx
 obtain⟨u,w',rfl,⟨t,rfl⟩,ru⟩:=Zw8 rv
 obtain⟨z,its,n,r,hl,e⟩:=I.lstM hH
 have hs:sizeLine=16777216:=sizeLine_eq
 have hc:¬ (!Builtin.List.listFitsIndex i)=true:=by
  have:Builtin.List.listFitsIndex i=true:=by
   unfold Builtin.List.listFitsIndex
   simp
   omega
  rw[this]
  decide
 refine call_meets F.slot_list_insert ⟨_,e,rfl⟩ F.entry_list_insert (F.args_list_insert_3 _ _ _) (PySem.AutoSeq1.list_insert_list_int_val_1 l its.toArray n i t w' hc (by rw[Yl];omega)) ⟨e,?_⟩
 have hk:(if i<0 then(i + (its.toArray.size:Int)).toNat else min i.toNat its.toArray.size)=i.toNat:=by
  rw[if_neg (by omega),Yl]
  omega
 refine⟨.non,_,I.lset (its':=its.take i.toNat++w' :: its.drop i.toNat) hH e ?_ ?_ ?_,rfl,q⟩
 ·show(its.toArray.extract 0 (if i<0 then(i + (its.toArray.size:Int)).toNat else min i.toNat its.toArray.size)).push w'++its.toArray.extract (if i<0 then(i + (its.toArray.size:Int)).toNat else min i.toNat its.toArray.size)=_
  rw[hk]
  apply Array.ext'
  simp
  exact Ya2 (by rw[Yq2];exact Yd _)
 ·exact(r.take _).append (.cons ru (r.drop _))
 ·rw[Yi,Yf1,Yd1,Yq2]
  omega
def Znr{a:Expr}{ta:TE}{p1 p2 pos1 pos2:Pos}(hc:X.calm=true)(ha:PE X a ta)(hg1:Gl X "list")(hm1:X.mg "list"=none)(hg2:Gl X "range")(hm2:X.mg "range"=none)
  (hs:starEach [a] X.env=[(false,eval a X.env)]:=by rfl)
  (hs2:starEach [.Call (.Name "range" p2) [a] [] pos2] X.env=[(false,eval (.Call (.Name "range" p2) [a] [] pos2) X.env)]:=by rfl):
  PE X (.Call (.Name "list" p1) [.Call (.Name "range" p2) [a] [] pos2] [] pos1) (λσ H Q=>Z0l ta Z5g σ H λvs H1=>∃ j:Int,vs=[.int j]/\0<=j/\j<=1000000/\∀ l,H1 l=none->Q (.ref l) (upd H1 l (.lst (Zee 0 j.toNat)))):=by
 ac_rfl
 refine wpAny_Call_Name_kw (Zip I hg1 hm1 Yb2 ?_ (by decide) (by decide))
 refine Yc2 ?_ hs2 rfl
 refine Calls.spliced_cons ?_
 refine wpAny_Call_Name_kw (Zip I hg2 hm2 boot_range ?_ (by decide) (by decide))
 refine Yc2 ?_ hs rfl
 have pa:PA X [a] (Z0l ta Z5g):=pC ha Zaa hs
 refine thn (pa pos2 pins s σ H (λvs H1=>∃ j:Int,vs=[.int j]/\0<=j/\j<=1000000/\∀ l,H1 l=none->Q (.ref l) (upd H1 l (.lst (Zee 0 j.toNat)))) I h) λus s1 ⟨vs,H1,I1,r1,q1⟩=>?_
 obtain⟨j,e,h0,h1,q⟩:=q1
 subst e
 obtain⟨u,rfl,t,rfl⟩:=Zks r1
 refine call_range_1 (Calls.spliced_nil ?_)
 have I2:Inv X pins σ H1 {s1 with heap:=s1.heap.push {cls:=.type "range",data:=.fields #[.int 0 s1.toks,.int j t,.int 1 (s1.toks + 1)] },toks:=s1.toks + 1 + 1}:=I1.kept λb o e=>Yb _ e
 refine call_list_range (n:=j.toNat) (I1.ok.hd hc) (IsRange.new ..) (small_one (by decide) (by decide) (by omega) (by omega)) (by rw[rangeSize_one];split <;> omega) (by omega) λh' tk acc' c' hk hS' hacc=>?_
 obtain⟨a1,a2⟩:=hacc
 have hnew:H1 (s1.heap.push {cls:=.type "range",data:=.fields #[.int 0 s1.toks,.int j t,.int 1 (s1.toks + 1)] }).objs.size=none:=I2.hok.fresh (Yd _)
 refine⟨.ref _,_,I2.laid (o:=.lst (Zee 0 j.toNat)) hk (Yd _) ⟨?_,acc'.toList,c',?_,by simpa using hS'⟩,rfl,q _ hnew⟩
 ·rw[Za4]
  exact Zph (by omega)
 ·have len:(Zee 0 j.toNat).length=acc'.toList.length:=by rw[Za4,Ys3,a1]
  exact Zpa len λi v u hv hu=>by
   obtain⟨hi,e⟩:=Za6 hv
   obtain⟨t',e'⟩:=a2 i u (by rw[<- Yw3];exact hu)
   rw[e,e']
   exact⟨t',by rw[Int.mul_one]⟩
end
end L2
namespace Graph
variable {α:Type}[DecidableEq α]
inductive Reach(ups:α->List α):α->α->Prop
 | refl (a:α):Reach ups a a
 | step {a b c:α}:b∈ups a->Reach ups b c->Reach ups a c
def Reach.trans{ups:α->List α}{a b c:α}(h:Reach ups a b)(k:Reach ups b c):Reach ups a c:=by
 induction h with
 | refl=>exact k
 | step m _ ih=>exact .step m (ih k)
def Reach.one{ups:α->List α}{a b:α}(h:b∈ups a):Reach ups a b:=.step h (.refl b)
def Reach.snoc{ups:α->List α}{a b c:α}(h:Reach ups a b)(k:c∈ups b):Reach ups a c:=h.trans (.one k)
def kept(ups:α->List α)(left:List α):List α:=left.filter λw=>(ups w).any λu=>decide (u∈left)
def kept_sub{ups:α->List α}{left:List α}{w:α}(h:w∈kept ups left):w∈left:=(Yj2.mp h).1
def kept_le(ups:α->List α)(left:List α):(kept ups left).length<=left.length:=Yw1 _ _
theorem Zlk{p:α->Bool}:∀ {l:List α},(l.filter p).length=l.length->l.filter p=l
 | [],_=>rfl
 | a :: r,h=>by
  have hle:=Yw1 p r
  rw[Yb4]at h ⊢
  cases hp:p a with
  | true =>
   rw[hp,if_pos rfl,Yf1,Yf1]at h
   rw[if_pos rfl,Zlk (by omega)]
  | false =>
   rw[hp,if_neg Yg,Yf1]at h
   omega
theorem Zrg(rk:α->Nat):∀(l:List α),l≠[]->∃ m,m∈l/\∀ x∈l,rk m<=rk x
 | [],h=>absurd rfl h
 | a :: r,_=>by
  by_cases hr:r=[]
  ·subst hr
   exact⟨a,by simp,λx hx=>by simp at hx;subst hx;exact Yd _⟩
  ·obtain⟨m,hm,hx⟩:=Zrg rk r hr
   by_cases hc:rk a<=rk m
   ·refine⟨a,by simp,λx hx'=>?_⟩
    rcases Yg1.mp hx' with e | e
    ·subst e;exact Yd _
    ·exact Yx hc (hx x e)
   ·refine⟨m,Yz1 _ hm,λx hx'=>?_⟩
    rcases Yg1.mp hx' with e | e
    ·subst e;omega
    ·exact hx x e
def kept_nil{ups:α->List α}{left:List α}{rk:α->Nat}(hr:∀ a∈left,∀ b∈ups a,rk b<rk a)(h:(kept ups left).length=left.length):left=[]:=by
 refine Yx2 λhne=>?_
 obtain⟨m,hm,hx⟩:=Zrg rk left hne
 have e:kept ups left=left:=Zlk h
 rw[<- e]at hm
 obtain⟨h1,h2⟩:=Yj2.mp hm
 obtain⟨u,hu,hd⟩:=Yg3.mp h2
 have hl:u∈left:=Je hd
 have a:=hr m h1 u hu
 have b:=hx u hl
 omega
theorem nodup_le:∀ {l k:List α},l.Nodup->(∀ x∈l,x∈k)->l.length<=k.length
 | [],k,_,_=>Yv _
 | a :: r,k,hn,hs=>by
  obtain⟨h1,h2⟩:=Ys1.mp hn
  have ha:a∈k:=hs a (by simp)
  have:=nodup_le (k:=k.erase a) h2 λx hx=>(List.mem_erase_of_ne (λ(e:x=a)=>h1 (by rw[<- e];exact hx))).mpr (hs x (Yz1 _ hx))
  rw[List.length_erase_of_mem ha]at this
  have hpos:0<k.length:=List.length_pos_of_mem ha
  rw[Yf1]
  omega
def closed_reach{ups:α->List α}{S:α->Prop}(hc:∀ x,S x->∀ y∈ups x,S y){a b:α}(h:Reach ups a b)(ha:S a):S b:=by
 induction h with
 | refl=>exact ha
 | step m _ ih=>exact ih (hc _ ha _ m)
end Graph
namespace Md
open PySem L2
abbrev letters:Str:="abcdefghijklmnopqrstuvwxyz"
def Zke(c:Nat):Bool:=decide (97<=c/\c<=122)
def Zbf(x:Str):Bool:=decide (1<=x.length/\x.length<=8)&&x.cps.toList.all Zke
def Zhp:letters.cps.toList=[97,98,99,100,101,102,103,104,105,106,107,108,109,110,111,112,113,114,115,116,117,118,119,120,121,122]:=by rfl'
def Zst{i:Nat}(h:i<26):letters.cps.toList[i]?=some (97 + i):=by
 rw[Zhp]
 have:∀ i:_root_.Fin 26,([97,98,99,100,101,102,103,104,105,106,107,108,109,110,111,112,113,114,115,116,117,118,119,120,121,122]:LN)[i.1]?=some (97 + i.1):=by decide
 exact this ⟨i,h⟩
def Zpy:letters.cps.toList=(List.range 26).map (97 + ·):=by rw[Zhp];rfl
def Z4s(c:Nat):(!(Builtin.Str.occurrences letters ⟨#[c]⟩ 0 letters.length 1).isEmpty)=Zke c:=by
 rw[StrLaws.found_one,Zpy]
 unfold Zke
 rw[decide_eq_decide,Ye]
 constructor
 ·rintro⟨a,ha,rfl⟩
  have:=Yl2.mp ha
  omega
 ·intro h
  exact⟨c - 97,Yl2.mpr (by omega),by omega⟩
def Zgk(x:Str):x.cps.toList.length=x.length:=by simp[Str.length]
def Zvp(c:Nat):(⟨#[c]⟩:Str).length=1:=rfl
def Zvq(x y:Str):(x++y).length=x.length + y.length:=by
 show(x.cps++y.cps).size=_
 rw[Array.size_append]
 rfl
def Zrv(x y:Str):(x++y).cps.toList=x.cps.toList++y.cps.toList:=by
 show(x.cps++y.cps).toList=_
 rw[Array.toList_append]
def Ztp{x y:Str}(h:x.cps.toList=y.cps.toList):x=y:=by
 cases x;cases y
 congr 1
 exact Array.ext' h
def Z1w:V->V
 | .str y=>.bl (!(Builtin.Str.occurrences letters y 0 letters.length 1).isEmpty)
 | _=>.non
def Zt8(x:Str):((Zh6 x).filter λ_=>true).map Z1w=(x.cps.toList.map Zke).map V.bl:=by
 rw[Yi2.mpr λ_ _=>rfl]
 unfold Zh6
 rw[Yy1,Yy1]
 refine List.map_congr_left λc _=>?_
 show V.bl _=V.bl _
 rw[Z4s]
def Zdi(x:Str):Zbf x=true↔(1<=x.cps.toList.length/\x.cps.toList.length<=8)/\∀ c∈x.cps.toList,Zke c=true:=by
 unfold Zbf
 rw[Yt1,decide_eq_true_eq,Yr1,Zgk]
def Zhe{x:Str}(h:Zbf x=true):1<=x.length/\x.length<=8:=by
 have:=((Zdi x).mp h).1
 rwa [Zgk]at this
def Zo9{x:Str}(h:Zbf x=true):PyData.strOk x=true:=by
 unfold PyData.strOk
 rw[Array.all_eq_true']
 intro c hc
 have:=((Zdi x).mp h).2 c (by simpa using hc)
 have:=Je this
 exact Jb (by omega)
def Zbq(n:Nat):LN:=(97 + n % 26):: (if h:n / 26=0 then[]else Zbq (n / 26))
termination_by n
decreasing_by omega
def Zd3(n:Nat):Zbq n=(97 + n % 26):: (if n / 26=0 then[]else Zbq (n / 26)):=by
 rw[Zbq]
 by_cases h:n / 26=0
 ·rw[dif_pos h,if_pos h]
 ·rw[dif_neg h,if_neg h]
theorem Zfy:∀(k n:Nat),n<26 ^ (k + 1)->(Zbq n).length<=k + 1
 | 0,n,h=>by
  rw[Zd3,if_pos (by have:n<26:=h;omega)]
  exact Yd _
 | k + 1,n,h=>by
  rw[Zd3]
  by_cases h0:n / 26=0
  ·rw[if_pos h0];simp
  ·rw[if_neg h0,Yf1]
   have:=Zfy k (n / 26) (Nat.div_lt_of_lt_mul (by rw[Nat.pow_succ]at h;omega))
   omega
def Zjf(n:Nat):∀ c∈Zbq n,Zke c=true:=by
 induction n using Nat.strongRecOn with
 | ind n ih =>
  rw[Zd3]
  intro c hc
  rcases Yg1.mp hc with e | hc
  ·rw[e]
   exact Jb (by omega)
  ·by_cases h0:n / 26=0
   ·rw[if_pos h0]at hc;cases hc
   ·rw[if_neg h0]at hc
    exact ih (n / 26) (by omega) c hc
def Z23:LN->Nat
 | []=>0
 | c :: r=>(c - 97) + 26 * Z23 r
def Zof(n:Nat):Z23 (Zbq n)=n:=by
 induction n using Nat.strongRecOn with
 | ind n ih =>
  rw[Zd3]
  unfold Z23
  by_cases h0:n / 26=0
  ·rw[if_pos h0]
   unfold Z23
   omega
  ·rw[if_neg h0,ih (n / 26) (by omega)]
   omega
def Zcf(n:Nat):Str:=⟨(Zbq n).toArray⟩
def Zdo(n:Nat):(Zcf n).cps.toList=Zbq n:=by simp[Zcf]
def Zoe{a b:Nat}(h:Zcf a=Zcf b):a=b:=by
 have:=congrArg (λs:Str=>Z23 s.cps.toList) h
 simpa[Zdo,Zof]using this
def Zog(n:Nat):1<=(Zbq n).length:=by rw[Zd3];simp
def Zgr{n:Nat}(h:n<26 ^ 8):Zbf (Zcf n)=true:=by
 rw[Zdi,Zdo]
 exact⟨⟨Zog n,Zfy 7 n h⟩,Zjf n⟩
def Zyo(j:Int)(n:Nat)(h:0<=j):Builtin.Str.strSliceIndices none (some j) 1 n=List.range (min j.toNat n):=by
 unfold Builtin.Str.strSliceIndices sliceRange
 have h1:¬ j<0:=by omega
 simp only[show(1:Int) > 0 by decide,if_true,if_neg h1]
 have e:(max (0:Int) (min j (n:Int)))=((min j.toNat n:Nat):Int):=by omega
 rw[e]
 have e2:(if(0:Int)<((min j.toNat n:Nat):Int)then(((min j.toNat n:Nat):Int) - 0 + 1 - 1) / 1 else 0)=((min j.toNat n:Nat):Int):=by
  split
  ·rw[Int.ediv_one];omega
  ·omega
 rw[e2,Ym3]
 have:∀ l:LN,l.map (λ(k:Nat)=>((0:Int) + 1 * (k:Int)).toNat)=l:=λl=>by
  conv=>rhs;rw[<- List.map_id l]
  refine List.map_congr_left λk _=>?_
  show _=k
  omega
 exact this _
theorem Zjh(l:LN):∀ m,m<=l.length->(List.range m).filterMap (λi=>l.toArray[i]?)=l.take m
 | 0,_=>by simp
 | m + 1,h=>by
  rw[List.range_succ,List.filterMap_append,Zjh l m (by omega),Yt]
  have:m<l.length:=h
  simp[this]
def Zk3(x:Str)(j:Int)(h:0<=j):(Txt.slice x none (some j)).cps.toList=x.cps.toList.take j.toNat:=by
 unfold Txt.slice
 rw[Zyo j x.length h]
 have hl:=Zgk x
 split
 ·rename_i hc
  have:min j.toNat x.length=x.length:=by simpa using hc
  rw[Ya2 (by omega)]
 ·have q:=Zjh x.cps.toList (min j.toNat x.length) (by omega)
  have e:x.cps.toList.toArray=x.cps:=by simp
  rw[e]at q
  show((List.range (min j.toNat x.length)).filterMap (x.cps[·]?)).toArray.toList=_
  rw[List.toList_toArray,q]
  by_cases hj:j.toNat<=x.length
  ·rw[Yh4 hj]
  ·rw[Ys4 (by omega),Ya2 (by omega),Ya2 (by omega)]
def Zh2(o:HO):Prop:=∃ r b:Int,o=.lst [.int r,.int b]/\0<=r/\r<10 ^ 256/\0<=b/\b<2147483647
structure Drawn(p:Addr)(H H':Hp):Prop where
 keep:∀ b o,b≠p->H b=some o->H' b=some o
 pot:∃ o,H' p=some o/\Zh2 o
def Drawn.refl{p:Addr}{H:Hp}(h:∃ o,H p=some o/\Zh2 o):Drawn p H H:=⟨λ_ _ _ e=>e,h⟩
def Drawn.trans{p:Addr}{H H1 H2:Hp}(a:Drawn p H H1)(b:Drawn p H1 H2):Drawn p H H2:=⟨λc o hc e=>b.keep c o hc (a.keep c o hc e),b.pot⟩
theorem Drawn.upd{p:Addr}{H:Hp}{o:HO}(h:Zh2 o):Drawn p H (L2.upd H p o):=⟨λb u hb e=>by rw[Zab hb];exact e,_,uS,h⟩
def Drawn.new{p q:Addr}{H H':Hp}{o:HO}(d:Drawn p H H')(hq:H' q=none):Drawn p H (L2.upd H' q o):=
 ⟨λb u hb e=>by rw[Zab (nNo (d.keep b u hb e) hq)];exact d.keep b u hb e,by
  obtain⟨u,h1,h2⟩:=d.pot
  exact⟨u,by rw[Zab (nNo h1 hq)];exact h1,h2⟩⟩
def Drawn.same{p:Addr}{H H1 H2:Hp}(d:Drawn p H H1)(s:Zaj H1 H2):Drawn p H H2 :=
 ⟨λb u hb e=>s _ _ (d.keep b u hb e),by obtain⟨u,h1,h2⟩:=d.pot;exact⟨u,s _ _ h1,h2⟩⟩
def Drawn.sub{p q:Addr}{H H1 H2:Hp}{o':HO}(d:Drawn p H H1)(k:∀ b o,b≠q->H1 b=some o->H2 b=some o)(hq:H q=none)(hp:p≠q):Drawn p H H2 :=
 ⟨λb u hb e=>k _ _ (nNo e hq) (d.keep b u hb e),by obtain⟨u,h1,h2⟩:=d.pot;exact⟨u,k _ _ hp h1,h2⟩⟩
def _root_.L2.SqL.mono_new{K:Fg}{H:Hp}{a q:Addr}{xs:LV}{o:HO}(h:SqL K H a xs)(hq:H q=none):SqL K (L2.upd H q o) a xs :=
 Zaj.seq (λb u e=>by rw[Zab (nNo e hq)];exact e) h
def Za2{n:Nat}(h:n<=100000):n<sizeLine:=by rw[sizeLine_eq];omega
def Zqo:List Expr->Option (LS)
 | []=>some []
 | .Constant (.str x) _ _ :: r=>(Zqo r).map (x :: ·)
 | _=>none
def Zuu{X:Cx}:∀ {es:List Expr}{ws:LS},Zqo es=some ws->PA X es (λ_ H Q=>Q (ws.map V.str) H):=by
 intro es
 induction es with
 | nil =>
  intro ws h
  have e:ws=[]:=(Yq h).symm
  subst e
  exact Zaa
 | cons e r ih =>
  intro ws h
  cases e with
  | Constant c j p =>
   cases c with
   | str x =>
    have h':(Zqo r).map (x :: ·)=some ws:=h
    obtain⟨vs,h1,h2⟩:=Yk1.mp h'
    subst h2
    exact pC Zca (ih h1) rfl
   | _=>exact nomatch (show(none:Option (LS))=some ws from h)
  | _=>exact nomatch (show(none:Option (LS))=some ws from h)
theorem Zi2(x:Str):∀ ws:LS,inV (.str x) (ws.map V.str)=decide (x∈ws)
 | []=>rfl
 | w :: r=>by
  have ih:=Zi2 x r
  unfold inV at ih ⊢
  rw[Yy,Yk3,ih]
  show((w == x) || decide (x∈r))=decide (x∈w :: r)
  rw[Ys2]
  simp only[Bool.or_eq_true,beq_iff_eq,decide_eq_true_eq,Yg1]
  constructor
  ·rintro(h | h)
   ·exact .inl h.symm
   ·exact .inr h
  ·rintro(h | h)
   ·exact .inl h.symm
   ·exact .inr h
def Zgc(ws:LS):(ws.map V.str).all Zms=true:=by
 rw[Yr1]
 intro v hv
 obtain⟨w,_,e⟩:=Ye.mp hv
 rw[<- e]
 rfl
theorem Ze7{K:Fg}{H:Hp}:∀ ws:LS,Reps K H (ws.map V.str) (ws.map W.Dat.str)
 | []=>.nil
 | w :: r=>.cons (.str w) (Ze7 r)
def Z21(H:Hp)(r:Str×LS)(v:V):Prop:=∃ t u,v=.ref t/\H t=some (.tup [.str r.1,.ref u])/\H u=some (.tup (r.2.map V.str))
def Zeg(H:Hp)(l:Addr)(rows:RS):Prop:=∃ vs,H l=some (.lst vs)/\Paired (Z21 H) rows vs
structure Zdr(rows:RS):Prop where
 ne:1<=rows.length
 le:rows.length<=24
 word:∀ r∈rows,Zbf r.1=true
 nd:(rows.map (·.1)).Nodup
 few:∀ r∈rows,r.2.length<=8
 known:∀ r∈rows,∀ u∈r.2,u∈rows.map (·.1)
 upnd:∀ r∈rows,r.2.Nodup
 rank:∃ rk:Str->Nat,∀ r∈rows,∀ u∈r.2,rk u<rk r.1
def Zh9(ws:LS)(uf:List (LN))(os:LN):RS:=os.map λj=>(ws.getD j "",(uf.getD j []).map λi=>ws.getD i "")
def Z1x{ws:LS}{uf:List (LN)}{os:LN}{m:Nat}(hm0:1<=m)(hm:m<=24)(hw:∀ x∈ws,Zbf x=true)(hn:ws.Nodup)(hl:ws.length=m)(hu:∀(k:Nat) (js:LN),uf[k]?=some js->(∀ j∈js,j<k)/\js.Nodup/\js.length<=8)(hul:uf.length=m)
  (on:os.Nodup) (om:∀ j,j∈os↔j<m) (ol:os.length=m):Zdr (Zh9 ws uf os):=by
 have at_:∀ {j:Nat},j<m->ws.getD j ""∈ws/\ws[j]?=some (ws.getD j ""):=λ{j} h=>by
  have hj:j<ws.length:=by omega
  rw[Yw,Yh hj]
  exact⟨Yr2 hj,rfl⟩
 have inj:∀ {i j:Nat},i<m->j<m->ws.getD i ""=ws.getD j ""->i=j:=λ{i j} hi hj e=>by
  have a:=(at_ hi).2
  have b:=(at_ hj).2
  rw[e]at a
  exact Zgq hn a b
 have ups:∀ {j:Nat},j<m->∃ js,uf.getD j []=js/\(∀ i∈js,i<j)/\js.Nodup/\js.length<=8:=λ{j} h=>by
  have hj:j<uf.length:=by omega
  have e:uf[j]?=some (uf.getD j []):=by rw[Yw,Yh hj];rfl
  exact⟨_,rfl,hu j _ e⟩
 have mem:∀ {r:Str×LS},r∈Zh9 ws uf os->∃ j,j<m/\r=(ws.getD j "",(uf.getD j []).map λi=>ws.getD i ""):=λ{r} h=>by
  obtain⟨j,hj,e⟩:=Ye.mp h
  exact⟨j,(om j).mp hj,e.symm⟩
 have words:(Zh9 ws uf os).map (·.1)=os.map λj=>ws.getD j "":=by
  unfold Zh9
  rw[Yy1]
  rfl
 refine⟨by unfold Zh9;rw[Ya];omega,by unfold Zh9;rw[Ya];omega,λr hr=>?_,?_,λr hr=>?_,λr hr u hu'=>?_,λr hr=>?_,λx=>ws.idxOf x,λr hr u hu'=>?_⟩
 ·obtain⟨j,hj,rfl⟩:=mem hr
  exact hw _ (at_ hj).1
 ·rw[words,Yk2,List.pairwise_map]
  refine(Yk2.mp on).imp_of_mem λ{a b} ha hb h e=>h (inj ((om a).mp ha) ((om b).mp hb) e)
 ·obtain⟨j,hj,rfl⟩:=mem hr
  obtain⟨js,e,_,_,h8⟩:=ups hj
  show((uf.getD j []).map λi=>ws.getD i "").length<=8
  rw[Ya,e]
  exact h8
 ·obtain⟨j,hj,rfl⟩:=mem hr
  obtain⟨i,hi,e⟩:=Ye.mp hu'
  obtain⟨js,e',hb,_⟩:=ups hj
  rw[e']at hi
  have hij:=hb i hi
  rw[words]
  exact Ye.mpr ⟨i,(om i).mpr (by omega),e⟩
 ·obtain⟨j,hj,rfl⟩:=mem hr
  obtain⟨js,e',hb,hnd,_⟩:=ups hj
  show((uf.getD j []).map λi=>ws.getD i "").Nodup
  rw[e',Yk2,List.pairwise_map]
  refine(Yk2.mp hnd).imp_of_mem λ{a b} ha hb' h e=>h (inj (by have:=hb a ha;omega) (by have:=hb b hb';omega) e)
 ·obtain⟨j,hj,rfl⟩:=mem hr
  obtain⟨i,hi,e⟩:=Ye.mp hu'
  obtain⟨js,e',hb,_⟩:=ups hj
  rw[e']at hi
  have hij:=hb i hi
  have ix:∀ {j:Nat},j<m->ws.idxOf (ws.getD j "")=j:=λ{j} h=>by
   have a:=(at_ h).1
   have lt:ws.idxOf (ws.getD j "")<ws.length:=List.idxOf_lt_length_iff.mpr a
   have g:ws[ws.idxOf (ws.getD j "")]?=some (ws.getD j ""):=by rw[Yh lt,List.getElem_idxOf lt]
   exact Zgq hn g (at_ h).2
  show ws.idxOf u<ws.idxOf (ws.getD j "")
  rw[<- e,ix hj,ix (by omega)]
  exact hij
end Md
namespace L2
open PySem PySem.Spec PyProof.Rows
section
variable {X:Cx}{tg:Expr}
def SqB(K:Fg)(b:Bool)(H:Hp)(a:Addr)(xs:LV):Prop:=if b=true then SqL K H a xs else SqT K H a xs
def SqB.mono{K:Fg}{b:Bool}{H H':Hp}{a:Addr}{xs:LV}(h:SqB K b H a xs)(s:Zaj H H'):SqB K b H' a xs:=by
 cases b with
 | true=>exact s.seq (show SqL K H a xs from h)
 | false=>exact s.tup (show SqT K H a xs from h)
def Itq(K:Fg)(b:Bool)(a:Addr)(xs:LV):It:=⟨λi H=>i<xs.length/\SqB K b H a xs,λi H x H'=>H'=H/\xs[i]?=some x,λi H=>xs.length<=i/\SqB K b H a xs⟩
def Zew{K:Fg}{b:Bool}{a:Addr}{xs:LV}:Zqf (Itq K b a xs) xs (λH=>SqB K b H a xs) where
 go:=λi x H ok hx=>⟨(Yn.mp hx).1,ok⟩
 yld:=λi x H y H' ok hx h=>by
  obtain⟨e,h⟩:=h
  rw[hx]at h
  exact⟨(Yq h).symm,e⟩
 stop:=λH ok=>⟨Yd _,ok⟩
def Zte.imp{P:Program}{w:World}{K:Fg}{tg:Expr}{J J':It}{fp:List Addr}{it:Addr}{tn:Nat->Heap->Prop}(T:Zte P w K tg J fp it tn)(hgo:∀ i H,J'.go i H->J.go i H)
  (hy:∀ i H x H',J'.go i H->J.yld i H x H'->J'.yld i H x H') (hs:∀ i H,J'.stop i H->J.stop i H):Zte P w K tg J' fp it tn where
 mem:=T.mem
 obj:=T.obj
 keep:=T.keep
 item:=λX h1 h2 h3 h4 i pins s σ H E I hf st g=>thn (T.item X h1 h2 h3 h4 i pins s σ H E I hf st (hgo i H g)) λr s1 ⟨u,e,h⟩=>⟨u,e,thn h λ_ s2 ⟨x,H',I',r',y,t,f⟩=>⟨x,H',I',r',hy i H x H' g y,t,f⟩⟩
 done:=λX h1 h2 h3 h4 i pins s σ H E I hf st g=>T.done X h1 h2 h3 h4 i pins s σ H E I hf st (hs i H g)
 self:=T.self
def Z92(K:Fg)(tl:TE):TI:=λσ H R=>tl σ H λx H1=>∃ b a xs,x=.ref a/\SqB K b H1 a xs/\R (Itq K b a xs) H1
def Zid{l:Expr}{tl:TE}(hl:PE X l tl):PI X tg l (Z92 X.K tl):=by
 intro pins s σ H R I h
 refine thn (hl pins s σ H _ I h) λv s1 ⟨x,H1,I1,r1,q1⟩=>?_
 obtain⟨b,a,xs,e,hq,q⟩:=q1
 subst e
 cases r1
 have fp:∀ b∈[s1.heap.objs.size],Zkx X pins H1 b:=λb hb=>by
  have e:b=s1.heap.objs.size:=by simpa using hb
  subst e
  exact I1.fpOk (Yd _) (I1.hok.fresh (Yd _))
 have get:∀ {i:Nat} {ys:LV},i<ys.length->∃ y,ys[i]?=some y:=λ{i ys} h=>⟨ys[i],by simp[h]⟩
 cases b with
 | true =>
  have hq:SqL X.K H1 a xs:=hq
  obtain⟨its,rv,p,hz⟩:=I1.list hq
  refine wpAny_pyIter_list p.isList ?_
  refine⟨s1.heap.objs.size,[s1.heap.objs.size],_,Itq X.K true a xs,H1,rfl,I1.kept (t':=s1.toks) λb o e=>Yb _ e,(Zm6 a _).imp (λi H g=>?_) (λi H x H' g y=>⟨y.1,y.2 xs g.2⟩) (λi H g=>⟨xs,g.2,g.1⟩),⟨_,Ys _ rfl,rfl,rfl⟩,fp,q⟩
  obtain⟨y,hy⟩:=get g.1
  exact⟨xs,y,g.2,hy⟩
 | false =>
  have hq:SqT X.K H1 a xs:=hq
  obtain⟨its,rv,p,hz⟩:=I1.tuple hq
  refine wpAny_pyIter_tuple (show s1.heap.IsTuple a its.toArray from p) ?_
  refine⟨s1.heap.objs.size,[s1.heap.objs.size],_,Itq X.K false a xs,H1,rfl,I1.kept (t':=s1.toks) λb o e=>Yb _ e,(Zk0 a _).imp (λi H g=>?_) (λi H x H' g y=>⟨y.1,y.2 xs g.2⟩) (λi H g=>⟨xs,g.2,g.1⟩),⟨_,Ys _ rfl,rfl,rfl⟩,fp,q⟩
  obtain⟨y,hy⟩:=get g.1
  exact⟨xs,y,g.2,hy⟩
def Z6o(to:TE):TI:=λσ H R=>to σ H λx H1=>∃ a ob kvs,x=.ref a/\H1 a=some (.frz ob (.dK kvs))/\R (Itv a ob kvs) H1
def Z00{o:Expr}{to:TE}{apos cpos:Pos}(ho:PE X o to)(hbase:attributeBase o "values" X.env (eval o X.env)=eval o X.env:=by rfl)(hline:(apos.endLine == cpos.line)=true:=by rfl):
  PI X tg (.Call (.Attribute o "values" apos) [] [] cpos) (Z6o to):=by
 intro pins s σ H R I h
 refine wpAny_Call_method0_late hbase hline (thn (ho pins s σ H _ I h) λv s1 ⟨x,H1,I1,r1,q1⟩=>?_)
 obtain⟨a,ob,kvs,e,ha,q⟩:=q1
 subst e
 obtain rfl:v=Value.ref a:=r1
 obtain⟨t1,t2,t3⟩:=Z4y I1 (.inl ⟨kvs,.inr ⟨ob,ha⟩⟩)
 obtain⟨es,ep,hd⟩:=Zrk (I1.hok a _ ha)
 obtain⟨hs,vs,r,dd⟩:=Zhr (I1.hok a _ ha) hd
 have hl:kvs.length=vs.length:=Yz r
 refine⟨"dict","dict.values",PySem.F.plainAttrs_dict,PySem.F.slot_dict_values,PySem.F.type_dict_values,t1,t2,Calls.callWith_builtin rfl (PySem.evalArgs_none ?_)⟩
 refine call_meetsIn PySem.F.slot_dict_values t1 PySem.F.entry_dict_values (PySem.F.args_dict_values_1 _) (meets_dict_values (Zbu X.prog X.w) a t3) ⟨⟨vs,dd.dictOf⟩,?_⟩
 have I2:Inv X pins σ H1 {s1 with heap:=s1.heap.push {cls:=.type "dict_values",data:=.fields #[.ref a] } }:=I1.kept (t':=s1.toks) λb o e=>Yb _ e
 refine wpAny_pyIter_values (kvs:=vs) (ep:=ep) (knd:=Zbu X.prog X.w) ⟨_,Ys _ rfl,rfl,rfl⟩ (dd.at' λo e=>Yb _ e) ?_
 refine⟨_,[_],_,_,H1,rfl,I2.kept (t':=s1.toks) λb o e=>Yb _ e,Ztk a _ ob kvs es ep hd,⟨_,Ys _ rfl,rfl,by rw[hl];rfl⟩,λb hb=>?_,q⟩
 have e:b=_:=Yc.mp hb
 subst e
 exact I2.fpOk (Yd _) (I2.hok.fresh (Yd _))
def Zf2(hc:X.calm=true):Zi6 X (.type "list") (λxs H Q=>∃ a kvs,xs=[.ref a]/\Rd H a (.dK kvs)/\∀ l,H l=none->Q (.ref l) (upd H l (.lst (kvs.map λp=>kV p.1)))):=by
 intro pins s σ H xs us Q I r h
 obtain⟨a,kvs,rfl,ha,q⟩:=h
 obtain⟨u,rfl,ru⟩:=Zks r
 cases ru
 obtain⟨hz,hs,vs,rv,o,es,ep,h1,h2,h3,h4,h5,h6⟩:=Zp7 I.hok ha
 have hl:kvs.length=vs.length:=Yz rv
 have dd:s.heap.DictAt (Zbu X.prog X.w) a vs ep:=⟨o,es,h1,h2,h3,h4,h5,h6⟩
 refine W.kdl_call (W.kdl_dict (knd:=Zbu X.prog X.w) (kvs:=vs) (ep:=ep) hs) (I.ok.hd hc) dd (by rw[<- hl];exact hz) λh' tk acc' c' hk hS' hacc=>?_
 obtain⟨a1,a2⟩:=hacc
 refine⟨.ref _,_,I.laid (o:=.lst (kvs.map λp=>kV p.1)) hk (Yd _) ⟨by rw[Ya];exact hz,acc'.toList,c',?_,by simpa using hS'⟩,rfl,q _ (I.hok.fresh (Yd _))⟩
 refine Zpa (by have z:acc'.toList.length=acc'.size:=Ys3;rw[Ya];omega) λi v u hv hu=>?_
 rw[Yp]at hv
 obtain⟨p,hp,e⟩:=Yk1.mp hv
 obtain⟨w',hw,_⟩:=rv.get hp
 obtain⟨k,x,hk1,hk2⟩:=a2 i u (by rw[<- Yw3];exact hu)
 rw[hw]at hk1
 injection hk1 with hk1
 injection hk1 with hk1 _
 rw[<- e,hk1]
 exact Zzn hk2
def Zgg.f{H:Hp}{a:Addr}{o:Obj}{kvs:KL}{k:Key}(e:H a=some (.frz o (.dK kvs))):Zgg H a (kV k) (Zex kvs k):=.inl ⟨kvs,k,.inr ⟨o,e⟩,rfl,rfl⟩
end
end L2
namespace Md
open PySem L2
def Z61(K:Fg)(H:Hp)(u:Addr)(us:LS):Prop:=H u=some (.tup (us.map V.str))\/SqL K H u (us.map V.str)
def Z61.sq{K:Fg}{H:Hp}{u:Addr}{us:LS}(h:Z61 K H u us):∃ b,SqB K b H u (us.map V.str):=by
 rcases h with h | h
 ·exact⟨false,SqT.of h⟩
 ·exact⟨true,h⟩
def Yag(K:Fg)(H:Hp)(r:Str×LS)(v:V):Prop:=∃ t u,v=.ref t/\SqT K H t [.str r.1,.ref u]/\Z61 K H u r.2
def Z2p(K:Fg)(H:Hp)(l:Addr)(rows:RS):Prop:=∃ b vs,SqB K b H l vs/\Paired (Yag K H) rows vs
def Zeg.g{K:Fg}{H:Hp}{l:Addr}{rows:RS}(h:Zeg H l rows):Z2p K H l rows:=by
 obtain⟨vs,a,p⟩:=h
 refine⟨true,vs,SqL.of a,Paired.mapP p λr v z=>?_⟩
 obtain⟨t,u,e,h1,h2⟩:=z
 exact⟨t,u,e,SqT.of h1,.inl h2⟩
theorem Zau{α β:Type}{F:α->β->Prop}:∀ {l:List α}{k:List β},Paired F l k->∀ {i:Nat}{b:β},k[i]?=some b->∃ a,l[i]?=some a/\F a b
 | _,_,.nil,i,b,h=>by simp at h
 | _,_,.cons r t,0,b,h=>by simp at h;subst h;exact⟨_,rfl,r⟩
 | _,_,.cons r t,i + 1,b,h=>by
  obtain⟨a,h1,h2⟩:=Zau t (i:=i) (b:=b) (by simpa using h)
  exact⟨a,by simpa using h1,h2⟩
def Zb1{kvs:KL}{k:Key}(h:k∉kvs.map (·.1)):Zex kvs k=none:=by
 cases e:Zex kvs k with
 | none=>rfl
 | some v=>exact absurd (Ztj e) h
def Zj3{kvs:KL}{k:Key}{v:V}(h:k∉kvs.map (·.1)):(Zdt kvs k v).map (·.1)=kvs.map (·.1)++[k]:=by
 rw[Zfr v (Zb1 h),Yb1]
 rfl
def Zg0{rows:RS}{i:Nat}{r:Str×LS}(nd:(rows.map (·.1)).Nodup)(h:rows[i]?=some r):(Sum.inr r.1:Key)∉(rows.take i).map λr=>(Sum.inr r.1:Key):=by
 intro m
 obtain⟨q,hq,e⟩:=Ye.mp m
 have e:q.1=r.1:=by injection e
 obtain⟨j,hj,ej⟩:=Ya4.mp hq
 rw[Yd1]at hj
 have hj2:rows[j]?=some q:=by
  rw[List.getElem_take]at ej
  rw[Yh (by omega),ej]
 have a:(rows.map (·.1))[j]?=some r.1:=by rw[Yp,hj2,<- e];rfl
 have b:(rows.map (·.1))[i]?=some r.1:=by rw[Yp,h];rfl
 have:=Zgq nd a b
 omega
def Zm2(H:Hp)(rows:RS)(kvs:KL):Prop:=Paired (λr (p:Key×V)=>p.1=Sum.inr r.1/\∃ t,p.2=.ref t/\H t=some (.tup (r.2.map V.str))) rows kvs
def Zm2.mono{H H':Hp}{rows:RS}{kvs:KL}(h:Zm2 H rows kvs)(s:∀ b xs,H b=some (.tup xs)->H' b=some (.tup xs)):Zm2 H' rows kvs :=
 Paired.mapP h λ_ _ z=>⟨z.1,let⟨t,e,x⟩:=z.2;⟨t,e,s _ _ x⟩⟩
theorem Zm2.keys:∀ {H:Hp}{rows:RS}{kvs:KL},Zm2 H rows kvs->kvs.map (·.1)=rows.map λr=>(Sum.inr r.1:Key)
 | _,_,_,.nil=>rfl
 | _,_,_,.cons r t=>by rw[Yy,Yy,r.1,Zm2.keys t]
def Zcq(rows:RS)(x:Str):LS:=(rows.lookup x).getD []
def Zh3{rows:RS}(nd:(rows.map (·.1)).Nodup){r:Str×LS}(h:r∈rows):Zcq rows r.1=r.2:=by
 unfold Zcq
 induction rows with
 | nil=>cases h
 | cons q rs ih =>
  have nd':(q.1 :: rs.map (·.1)).Nodup:=nd
  obtain⟨n1,n2⟩:=Ys1.mp nd'
  obtain⟨a,b⟩:=q
  rw[Yq1]
  rcases Yg1.mp h with e | h
  ·subst e
   simp
  ·have ne:(r.1 == a)=false:=by
    rw[beq_eq_false_iff_ne]
    intro e
    exact n1 (Ye.mpr ⟨r,h,e⟩)
   rw[ne]
   exact ih n2 h
theorem Zm2.val:∀ {H:Hp}{rows:RS}{kvs:KL},Zm2 H rows kvs->(rows.map (·.1)).Nodup->∀ {r:Str×LS},r∈rows->∃ t,Zex kvs (Sum.inr r.1)=some (.ref t)/\H t=some (.tup (r.2.map V.str))
 | _,_,_,.nil,_,r,h=>nomatch h
 | _,q :: rs,p :: ps,.cons z t,nd,r,h=>by
  have nd':(q.1 :: rs.map (·.1)).Nodup:=nd
  obtain⟨n1,n2⟩:=Ys1.mp nd'
  obtain⟨z1,u,z2,z3⟩:=z
  rcases Yg1.mp h with e | h
  ·subst e
   exact⟨u,by rw[Zcc z1,z2],z3⟩
  ·have ne:¬ p.1=(Sum.inr r.1:Key):=λe=>n1 (by
    rw[z1]at e
    have e':q.1=r.1:=by injection e
    rw[e']
    exact Ye.mpr ⟨r,h,rfl⟩)
   obtain⟨u',h1,h2⟩:=Zm2.val t n2 h
   exact⟨u',by rw[Zcd ne];exact h1,h2⟩
def Zyj{H:Hp}{rows:RS}{kvs:KL}(h:Zm2 H rows kvs):(kvs.map λp=>kV p.1)=(rows.map (·.1)).map V.str:=by
 have e:(kvs.map λp=>kV p.1)=(kvs.map (·.1)).map kV:=by rw[Yy1];rfl
 rw[e,h.keys,Yy1,Yy1]
 rfl
end Md
namespace L2
open PySem PySem.Spec PyProof.Rows
section
variable {X:Cx}{pins:PL}{σ:St}{H H':Hp}{s:Shared}{h':Heap}
end
section
variable {X:Cx}
def Z0w(K:Fg):R2:=λx y H Q=>∃ a b xs ys,x=.ref a/\y=.ref b/\SqT K H a xs/\SqT K H b ys/\xs.length + ys.length<=sizeLine /\
 (xs=[]->Q (.ref b) H)/\(xs≠[]->ys=[]->Q (.ref a) H)/\(xs≠[]->ys≠[]->∀ p,H p=none->Q (.ref p) (upd H p (.tup (xs++ys))))
def Zmd:OpR X (binaryOp .Add) (Z0w X.K):=by
 exfalso
 obtain⟨a,b,xs,ys,rfl,rfl,ha,hb,hz,q0,q1,q2⟩:=h
 by_cases hx:xs=[]
 ·cases rx
  cases ry
  obtain⟨its,r1,p1,_⟩:=I.tuple ha
  obtain⟨its2,r2,p2,_⟩:=I.tuple hb
  have e:its=[]:=r1.nil_iff.mpr hx
  obtain⟨⟨cls,dd,data,sl⟩,ho,hc,n,hd⟩:=id p1
  obtain⟨⟨cls2,dd2,data2,sl2⟩,ho2,hc2,n2,hd2⟩:=id p2
  simp only at hc hd hc2 hd2
  subst hc hd hc2 hd2
  exact concat_meets ⟨_,ho,rfl⟩ ⟨_,ho2,rfl⟩ noFill_tuple_add seq_tuple_add Yr4 Yo4 (Yj4 _ _)
   (tuple_addW0 a b its.toArray its2.toArray n n2 dd dd2 sl sl2 (by simp[e])) ⟨ho,ho2,⟨.ref b,H,I,rfl,q0 hx⟩⟩
 ·exact Z08 pins s σ H _ _ v u Q I rx ry ⟨a,b,xs,ys,rfl,rfl,ha,hb,hx,hz,q1 hx,q2 hx⟩
end
section
variable {X:Cx}{pins:PL}{σ:St}{H:Hp}{s:Shared}{h':Heap}
end
section
variable {X:Cx}
end
section
variable {X:Cx}
end
section
variable {prog:Program}{w:World}{A:Around}{E:EV}{s:Shared}
def Zfu{p t:Addr}{k:Nat}{us:Array Value}{u:Value}{Q:EV}(hp:s.heap.IsTupleIter p t k)(ht:s.heap.IsTuple t us)(hu:us[k]?=some u)
  (q:∀ g,g.IsTupleIter p t (k + 1)->Heap.SameBut p s.heap g->Q u {s with heap:=g}):wpAny (model prog w) A (Builtin.SmallTypes.nextOf (.ref p)) Q E s:=by
 obtain⟨ob,h1,h2,h3⟩:=id hp
 obtain⟨ot,h4,_,nt,h5⟩:=ht
 unfold Builtin.SmallTypes.nextOf
 refine Ja (wpAny_callSpecial?_slot (name:=Str.ofString "__next__") hp.typeIs Yv2 (wpAny_call_entry Yv2 hp.typeIs PySem.F.entry_tuple_iterator_next ?_ (PySem.F.args_tuple_iterator_next_1 _)))
 show wpAny _ _ (field (.ref p) 0>>=_) _ _ s
 refine Ja (Jg h1 h3 (x:=.ref t) rfl ?_)
 show wpAny _ _ (if(Value.ref t == Value.none)=true then _ else _) _ _ s
 rw[if_neg (show ¬ ((Value.ref t == Value.none)=true)from Yg)]
 show wpAny _ _ (field (.ref p) 1>>=_) _ _ s
 refine Ja (Jg h1 h3 (x:=.int k 0) rfl ?_)
 show wpAny _ _ (seqItems? (.ref t)>>=_) _ _ s
 refine Ja (wpAny_seqItems h4 h5 ?_)
 simp only[Ym3,hu]
 refine Ja (wpAny_setField h1 h3 (by simp) (Jd ⟨u,rfl,Jd (q _ ?_ (Heap.SameBut.update ..))⟩))
 exact⟨_,Yu1 _ h1 (Yi3 (Yh3 h3 _)),(Obj.cls_mapFields ..).trans h2,by rw[Yh3 h3];simp[rawInt]⟩
def Zfv{p t:Addr}{k:Nat}{us:Array Value}{Q:EV}(hh:A.handled=none)(hp:s.heap.IsTupleIter p t k)(ht:s.heap.IsTuple t us)(hu:us[k]?=none)
  (q:∀ g e,Heap.ExtBut p s.heap g->(∃ o,g.get? e=some o/\o.cls=.type "StopIteration")->E (.ref e) {s with heap:=g}):wpAny (model prog w) A (Builtin.SmallTypes.nextOf (.ref p)) Q E s:=by
 obtain⟨ob,h1,h2,h3⟩:=id hp
 obtain⟨ot,h4,_,nt,h5⟩:=ht
 unfold Builtin.SmallTypes.nextOf
 refine Ja (wpAny_callSpecial?_slot (name:=Str.ofString "__next__") hp.typeIs Yv2 (wpAny_call_entry Yv2 hp.typeIs PySem.F.entry_tuple_iterator_next ?_ (PySem.F.args_tuple_iterator_next_1 _)))
 show wpAny _ _ (field (.ref p) 0>>=_) _ _ s
 refine Ja (Jg h1 h3 (x:=.ref t) rfl ?_)
 show wpAny _ _ (if(Value.ref t == Value.none)=true then _ else _) _ _ s
 rw[if_neg (show ¬ ((Value.ref t == Value.none)=true)from Yg)]
 show wpAny _ _ (field (.ref p) 1>>=_) _ _ s
 refine Ja (Jg h1 h3 (x:=.int k 0) rfl ?_)
 show wpAny _ _ (seqItems? (.ref t)>>=_) _ _ s
 refine Ja (wpAny_seqItems h4 h5 ?_)
 simp only[Ym3,hu]
 refine Ja (wpAny_rule (Ja (wpAny_setField h1 h3 (by simp) ?_)))
 show wpAny _ _ (newExc (.type "StopIteration") []>>=_) _ _ _
 refine Ja ?_
 simp only[newExc,newTuple]
 refine Ja (wpAny_newObj_type ?_ (by size_fits))
 refine Ja (m:=firstArgMember _ _) (wpAny_of_eq (a:=Value.none) (by first | rfl | (simp only[firstArgMember];rfl)) ?_)
 refine wpAny_newObj_type ?_ (by size_fits)
 simp only[raiseNew]
 refine Ja (wpAny_handled ?_)
 first | rw[show A.in1.handled=none from hh] | rw[hh]
 refine Ja (Jd (wpAny_throw ?_))
 exact q _ _ (((Heap.SameBut.update ..).extBut.push _).push _) ⟨_,Ys _ rfl,rfl⟩
structure ZAt(h:Heap)(z ti to i1 i2 l1 l2:Addr)(k:Nat)(f:Value):Prop where
 z:IsZip h z ti to f
 ti:IsPair h ti (.ref i1) (.ref i2)
 to:∃ a b,IsPair h to a b
 i1:h.IsTupleIter i1 l1 k
 i2:h.IsTupleIter i2 l2 k
theorem ZAt.at{h h':Heap}{z ti to i1 i2 l1 l2:Addr}{k:Nat}{f:Value}(x:ZAt h z ti to i1 i2 l1 l2 k f)(e:∀ b∈[z,ti,to,i1,i2],∀ o,h.get? b=some o->h'.get? b=some o):ZAt h' z ti to i1 i2 l1 l2 k f :=
 ⟨e z (by simp) _ x.z,e ti (by simp) _ x.ti,let⟨a,b,y⟩:=x.to;⟨a,b,e to (by simp) _ y⟩,x.i1.at λo q=>e i1 (by simp) o q,x.i2.at λo q=>e i2 (by simp) o q⟩
def Zth{z ti to i1 i2 l1 l2:Addr}{k:Nat}{xs ys:Array Value}{x y:Value}{Q:EV}(D:ZipApart z ti to i1 i2 l1 l2)(st:ZAt s.heap z ti to i1 i2 l1 l2 k .none)
  (t1:s.heap.IsTuple l1 xs) (t2:s.heap.IsTuple l2 ys) (hx:xs[k]?=some x) (hy:ys[k]?=some y)
  (q:∀ g,ZAt g z ti to i1 i2 l1 l2 (k + 1) (rawInt s.heap.objs.size)->IsPair g s.heap.objs.size x y->(∀ c o,c≠z->c≠to->c≠i1->c≠i2->s.heap.get? c=some o->g.get? c=some o)->Q (.ref s.heap.objs.size) {s with heap:=g}):
  wpAny (model prog w) A (Builtin.«zip.__next__» ⟨[.ref z],[]⟩) (λfin s'=>∃ v,fin=.done (.ret v)/\Q v s') E s:=by
 obtain⟨hz,hti,⟨a,b,hto⟩,hi1,hi2⟩:=st
 show wpAny _ _ (field (.ref z) 2>>=_) _ _ _
 refine Ja (Jg hz rfl (x:=.bool false) rfl ?_)
 show wpAny _ _ (field (.ref z) 3>>=_) _ _ _
 refine Ja (Jg hz rfl (x:=.ref ti) rfl (Ja (wpAny_seqItems hti rfl ?_)))
 show wpAny _ _ (Builtin.SmallTypes.ownedTupleIsFree (.ref z)>>=_) _ _ _
 refine Ja ?_
 unfold Builtin.SmallTypes.ownedTupleIsFree
 refine Ja (Jg hz rfl (x:=.none) rfl (Jd ?_))
 simp only[if_true]
 refine Ja (wpAny_rule (Ja (Jg hz rfl (x:=.ref to) rfl (Ja (wpAny_setField_rec hz (by simp) λg1 z1 e1=>?_)))))
 replace z1:IsZip g1 z ti to .ellipsis:=z1
 refine Ja ?_
 simp only[List.zipIdx_cons,List.zipIdx_nil,List.forIn_cons,List.forIn_nil]
 refine Ja (Ja (wpAny_onRaise ?_))
 show wpAny _ _ (Builtin.SmallTypes.nextOf (.ref i1)>>=_) _ _ _
 refine Ja (Zfu (hi1.extBut e1.extBut D.i1z) (t1.extBut e1.extBut D.l1z) hx λg2 j1 e2=>Jd ?_)
 have to2:IsPair g2 to a b:=e2.extBut _ _ D.TOi1 (e1.extBut _ _ D.TOz hto)
 refine Ja (wpAny_seqItems to2 rfl (Ja (wpAny_updateSeq_pair to2 λg3 to3 e3=>?_)))
 replace to3:IsPair g3 to x b:=to3
 refine Ja (wpAny_letGo (Jd (Ja (Ja (wpAny_onRaise ?_)))))
 show wpAny _ _ (Builtin.SmallTypes.nextOf (.ref i2)>>=_) _ _ _
 refine Ja (Zfu (((hi2.extBut e1.extBut D.i2z).extBut e2.extBut D.i12.symm).extBut e3.extBut D.TOi2.symm) (((t2.extBut e1.extBut D.l2z).extBut e2.extBut D.l2i1).extBut e3.extBut D.l2TO) hy λg4 j2 e4=>Jd ?_)
 have to4:IsPair g4 to x b:=e4.extBut _ _ D.TOi2 to3
 refine Ja (wpAny_seqItems to4 rfl (Ja (wpAny_updateSeq_pair to4 λg5 to5 e5=>?_)))
 replace to5:IsPair g5 to x y:=to5
 refine Ja (wpAny_letGo (Jd (Jd (Ja (wpAny_seqItems to5 rfl (Ja (wpAny_newTuple ?_)))))))
 have sz:g5.objs.size=s.heap.objs.size:=by rw[e5.1,e4.1,e3.1,e2.1,e1.1]
 have z5:IsZip g5 z ti to .ellipsis:=e5.extBut _ _ D.TOz.symm (e4.extBut _ _ D.i2z.symm (e3.extBut _ _ D.TOz.symm (e2.extBut _ _ D.i1z.symm z1)))
 have k5:∀ c o,c≠z->c≠to->c≠i1->c≠i2->s.heap.get? c=some o->g5.get? c=some o:=λc o c1 c2 c3 c4 e=>e5.extBut _ _ c2 (e4.extBut _ _ c4 (e3.extBut _ _ c2 (e2.extBut _ _ c3 (e1.extBut _ _ c1 e))))
 have j15:g5.IsTupleIter i1 l1 (k + 1):=((j1.extBut e3.extBut D.TOi1.symm).extBut e4.extBut D.i12).extBut e5.extBut D.TOi1.symm
 have j25:g5.IsTupleIter i2 l2 (k + 1):=j2.extBut e5.extBut D.TOi2.symm
 have zlt:z<g5.objs.size:=Yj z5
 show wpAny _ _ (Builtin.SmallTypes.ownedTupleHandOut (.ref z) (.ref g5.objs.size)>>=_) _ _ _
 refine Ja ?_
 unfold Builtin.SmallTypes.ownedTupleHandOut
 have z6:IsZip (g5.push {cls:=.type "tuple",data:=.seq #[x,y] }) z ti to .ellipsis:=Yb _ z5
 refine Ja (wpAny_setField_rec z6 (by simp) λg7 z7 e7=>?_)
 replace z7:IsZip g7 z ti to (rawInt g5.objs.size):=z7
 refine wpAny_setField_rec z7 (by simp) λg8 z8 e8=>?_
 replace z8:IsZip g8 z ti to (rawInt g5.objs.size):=z8
 have up:∀ c o,c≠z->g5.get? c=some o->g8.get? c=some o:=λc o c1 e=>e8.extBut _ _ c1 (e7.extBut _ _ c1 (Yb _ e))
 have p8:IsPair g8 g5.objs.size x y:=e8.extBut _ _ (Yq3 zlt) (e7.extBut _ _ (Yq3 zlt) (Ys _ rfl))
 rw[sz]at z8 p8
 refine Jd ⟨_,rfl,?_⟩
 show Q (.ref g5.objs.size) _
 rw[sz]
 exact q g8 ⟨z8,up _ _ D.TIz (k5 _ _ D.TIz D.TITO D.TIi1 D.TIi2 hti),⟨x,y,up _ _ D.TOz to5⟩,j15.at λo e=>up _ o D.i1z e,j25.at λo e=>up _ o D.i2z e⟩ p8 λc o c1 c2 c3 c4 e=>up c o c1 (k5 c o c1 c2 c3 c4 e)
def Zti{z ti to i1 i2 l1 l2:Addr}{k:Nat}{xs ys:Array Value}{Q:Fin->Shared->Prop}(hh:A.handled=none)(D:ZipApart z ti to i1 i2 l1 l2)(st:ZAt s.heap z ti to i1 i2 l1 l2 k .none)
  (t1:s.heap.IsTuple l1 xs) (t2:s.heap.IsTuple l2 ys) (hend:xs[k]?=none\/ys[k]?=none)
  (q:∀ g e,(∀ c o,c≠z->c≠to->c≠i1->c≠i2->s.heap.get? c=some o->g.get? c=some o)->(∃ o,g.get? e=some o/\o.cls=.type "StopIteration")->E (.ref e) {s with heap:=g}):
  wpAny (model prog w) A (Builtin.«zip.__next__» ⟨[.ref z],[]⟩) Q E s:=by
 obtain⟨hz,hti,⟨a,b,hto⟩,hi1,hi2⟩:=st
 show wpAny _ _ (field (.ref z) 2>>=_) _ _ _
 refine Ja (Jg hz rfl (x:=.bool false) rfl ?_)
 show wpAny _ _ (field (.ref z) 3>>=_) _ _ _
 refine Ja (Jg hz rfl (x:=.ref ti) rfl (Ja (wpAny_seqItems hti rfl ?_)))
 show wpAny _ _ (Builtin.SmallTypes.ownedTupleIsFree (.ref z)>>=_) _ _ _
 refine Ja ?_
 unfold Builtin.SmallTypes.ownedTupleIsFree
 refine Ja (Jg hz rfl (x:=.none) rfl (Jd ?_))
 simp only[if_true]
 refine Ja (wpAny_rule (Ja (Jg hz rfl (x:=.ref to) rfl (Ja (wpAny_setField_rec hz (by simp) λg1 z1 e1=>?_)))))
 replace z1:IsZip g1 z ti to .ellipsis:=z1
 refine Ja ?_
 simp only[List.zipIdx_cons,List.zipIdx_nil,List.forIn_cons,List.forIn_nil]
 refine Ja (Ja (wpAny_onRaise ?_))
 show wpAny _ _ (Builtin.SmallTypes.nextOf (.ref i1)>>=_) _ _ _
 cases hx:xs[k]? with
 | none =>
  refine Ja (Zfv hh (hi1.extBut e1.extBut D.i1z) (t1.extBut e1.extBut D.l1z) hx λg2 e e2 he=>?_)
  obtain⟨oe,ho,hc⟩:=he
  have z2:IsZip g2 z ti to .ellipsis:=e2 _ _ D.i1z.symm z1
  have ez:e≠z:=λx=>by subst x;rw[z2]at ho;cases ho;simp at hc
  exact wpAny_setField_rec z2 (by simp) λg3 _ e3=>q g3 e (λc o c1 _ c3 _ x=>e3.extBut _ _ c1 (e2 _ _ c3 (e1.extBut _ _ c1 x))) ⟨oe,e3.extBut _ _ ez ho,hc⟩
 | some x =>
  have hy:ys[k]?=none:=by rcases hend with h | h;rw[hx]at h;cases h;exact h
  refine Ja (Zfu (hi1.extBut e1.extBut D.i1z) (t1.extBut e1.extBut D.l1z) hx λg2 j1 e2=>Jd ?_)
  have to2:IsPair g2 to a b:=e2.extBut _ _ D.TOi1 (e1.extBut _ _ D.TOz hto)
  refine Ja (wpAny_seqItems to2 rfl (Ja (wpAny_updateSeq_pair to2 λg3 to3 e3=>?_)))
  refine Ja (wpAny_letGo (Jd (Ja (Ja (wpAny_onRaise ?_)))))
  show wpAny _ _ (Builtin.SmallTypes.nextOf (.ref i2)>>=_) _ _ _
  refine Ja (Zfv hh (((hi2.extBut e1.extBut D.i2z).extBut e2.extBut D.i12.symm).extBut e3.extBut D.TOi2.symm) (((t2.extBut e1.extBut D.l2z).extBut e2.extBut D.l2i1).extBut e3.extBut D.l2TO) hy λg4 e e4 he=>?_)
  obtain⟨oe,ho,hc⟩:=he
  have z4:IsZip g4 z ti to .ellipsis:=e4 _ _ D.i2z.symm (e3.extBut _ _ D.TOz.symm (e2.extBut _ _ D.i1z.symm z1))
  have ez:e≠z:=λx=>by subst x;rw[z4]at ho;cases ho;simp at hc
  exact wpAny_setField_rec z4 (by simp) λg5 _ e5=>q g5 e (λc o c1 c2 c3 c4 x=>e5.extBut _ _ c1 (e4 _ _ c4 (e3.extBut _ _ c2 (e2.extBut _ _ c3 (e1.extBut _ _ c1 x))))) ⟨oe,e5.extBut _ _ ez ho,hc⟩
def Zmk{z ti to i1 i2 l1 l2:Addr}{k:Nat}{xs ys:Array Value}{x y:Value}{Q:OU->Shared->Prop}(D:ZipApart z ti to i1 i2 l1 l2)(st:ZAt s.heap z ti to i1 i2 l1 l2 k .none)
  (t1:s.heap.IsTuple l1 xs) (t2:s.heap.IsTuple l2 ys) (hx:xs[k]?=some x) (hy:ys[k]?=some y)
  (q:∀ g,ZAt g z ti to i1 i2 l1 l2 (k + 1) (rawInt s.heap.objs.size)->IsPair g s.heap.objs.size x y->(∀ c o,c≠z->c≠to->c≠i1->c≠i2->s.heap.get? c=some o->g.get? c=some o)->Q (some (.ref s.heap.objs.size)) {s with heap:=g}):
  wpAny (model prog w) A (pyNext (.ref z)) Q E s:=by
 have hT:s.TypeIs (.ref z) "zip":=⟨_,st.z,rfl⟩
 unfold pyNext
 exact Ja (wpAny_attempt (wpAny_callSpecial?_slot (name:=Str.ofString "__next__") hT Yx3 (wpAny_call_entry Yx3 hT PySem.F.entry_zip_next (Zth D st t1 t2 hx hy λg a1 a2 a3=>Jd (q g a1 a2 a3)) (PySem.F.args_zip_next_1 _))))
def Zml{z ti to i1 i2 l1 l2:Addr}{k:Nat}{xs ys:Array Value}{Q:OU->Shared->Prop}(hh:A.handled=none)(D:ZipApart z ti to i1 i2 l1 l2)(st:ZAt s.heap z ti to i1 i2 l1 l2 k .none)
  (t1:s.heap.IsTuple l1 xs) (t2:s.heap.IsTuple l2 ys) (hend:xs[k]?=none\/ys[k]?=none)
  (q:∀ g,(∀ c o,c≠z->c≠to->c≠i1->c≠i2->s.heap.get? c=some o->g.get? c=some o)->Q none {s with heap:=g}):wpAny (model prog w) A (pyNext (.ref z)) Q E s:=by
 have hT:s.TypeIs (.ref z) "zip":=⟨_,st.z,rfl⟩
 unfold pyNext
 refine Ja (wpAny_attempt (wpAny_callSpecial?_slot (name:=Str.ofString "__next__") hT Yx3 (wpAny_call_entry Yx3 hT PySem.F.entry_zip_next (Zti hh D st t1 t2 hend λg e hk he=>?_) (PySem.F.args_zip_next_1 _))))
 obtain⟨o,ho,hc⟩:=he
 refine Ja (wpAny_isInstance (T:="StopIteration") (b:=true) ⟨o,ho,hc⟩ isSubtype_stop ?_)
 exact Jd (q _ hk)
end
def Itp(ps:List (V×V))(Ok:Hp->Prop):It :=
 ⟨λi H=>i<ps.length/\Ok H,λi H v H'=>∃ t p,ps[i]?=some p/\H t=none/\v=.ref t/\H'=upd H t (.tup [p.1,p.2]),λi H=>ps.length<=i/\Ok H⟩
section
variable {prog:Program}{w:World}{A:Around}{E:EV}{s:Shared}
abbrev zg1(h:Heap)(l1:Addr):Heap:=h.push {cls:=.type "tuple_iterator",data:=.fields #[.ref l1,.int 0 0] }
abbrev zg2(h:Heap)(l1 l2:Addr):Heap:=(zg1 h l1).push {cls:=.type "tuple_iterator",data:=.fields #[.ref l2,.int 0 0] }
abbrev zg3(h:Heap)(l1 l2:Addr):Heap:=(zg2 h l1 l2).push {cls:=.type "tuple",data:=.seq #[.ref h.objs.size,.ref (zg1 h l1).objs.size] }
abbrev zg4(h:Heap)(l1 l2:Addr):Heap:=(zg3 h l1 l2).push {cls:=.type "tuple",data:=.seq #[.none,.none] }
abbrev zg5(h:Heap)(l1 l2:Addr):Heap:=(zg4 h l1 l2).push {cls:=.type "zip",data:=.fields #[.none,.bool false,.bool false,.ref (zg2 h l1 l2).objs.size,.ref (zg3 h l1 l2).objs.size] }
def Zsp(l1 l2:Addr)(xs ys:Array Value):Meets (Builtin.«zip.__new__» ⟨[.type "zip",.ref l1,.ref l2],[]⟩) (λ_ R s=>s.heap.IsTuple l1 xs/\s.heap.IsTuple l2 ys /\
   R (.ok (.ret (.ref (zg4 s.heap l1 l2).objs.size))) {s with heap:=zg5 s.heap l1 l2}):=
 .of_wp λprog w A R s h=>by
  obtain⟨hp,g,d,tk,os⟩:=s
  obtain⟨t1,t2,h⟩:=h
  have hsub:=sub_zip
  have T1:Heap.IsTuple (Shared.heap ⟨hp,g,d,tk,os⟩) l1 xs:=t1
  have T2:Heap.IsTuple (Shared.heap ⟨hp.push {cls:=.type "tuple_iterator",data:=.fields #[.ref l1,.int 0 0] },g,d,tk,os⟩) l2 ys:=Heap.IsTuple.push t2 _
  wp_walk using wpAny_pyIter_tuple T1,wpAny_pyIter_tuple T2
  exact⟨_,rfl,h⟩
def Zwl{l1 l2:Addr}{xs ys:Array Value}{Q:EV}(t1:s.heap.IsTuple l1 xs)(t2:s.heap.IsTuple l2 ys)
  (q:∀ g,ZAt g (s.heap.objs.size + 4) (s.heap.objs.size + 2) (s.heap.objs.size + 3) s.heap.objs.size (s.heap.objs.size + 1) l1 l2 0 .none->(∀ c o,s.heap.get? c=some o->g.get? c=some o)->Q (.ref (s.heap.objs.size + 4)) {s with heap:=g}):
  wpAny (model prog w) A (call (.type "zip") [.ref l1,.ref l2]) Q E s:=by
 refine callType_new PySem.F.called_zip (by decide) (PySem.F.typeCall_zip_2 _ _) (PySem.F.newCall_zip_2 _ _) (λobj=>PySem.F.args_object_init_3 obj _ _) PySem.F.entry_zip_new (Zsp l1 l2 xs ys) ⟨t1,t2,?_⟩
 have n1:(zg1 s.heap l1).objs.size=s.heap.objs.size + 1:=Ye2 ..
 have n2:(zg2 s.heap l1 l2).objs.size=s.heap.objs.size + 2:=by rw[Ye2,n1]
 have n3:(zg3 s.heap l1 l2).objs.size=s.heap.objs.size + 3:=by rw[Ye2,n2]
 have n4:(zg4 s.heap l1 l2).objs.size=s.heap.objs.size + 4:=by rw[Ye2,n3]
 have up:∀ {h:Heap} {a:Addr} {o:Obj} (x:Obj),h.get? a=some o->(h.push x).get? a=some o:=λx e=>Yb _ e
 have f5:(zg5 s.heap l1 l2).get? (zg4 s.heap l1 l2).objs.size=some _:=Ys _ rfl
 have f4:(zg5 s.heap l1 l2).get? (zg3 s.heap l1 l2).objs.size=some _:=up _ (Ys _ rfl)
 have f3:(zg5 s.heap l1 l2).get? (zg2 s.heap l1 l2).objs.size=some _:=up _ (up _ (Ys _ rfl))
 have f2:(zg5 s.heap l1 l2).get? (zg1 s.heap l1).objs.size=some _:=up _ (up _ (up _ (Ys _ rfl)))
 have f1:(zg5 s.heap l1 l2).get? s.heap.objs.size=some _:=up _ (up _ (up _ (up _ (Ys _ rfl))))
 show _/\_
 rw[n2,n3,n4]at f5
 rw[n1,n2]at f3
 rw[n3]at f4
 rw[n1]at f2
 rw[n4]
 exact⟨⟨_,f5,rfl⟩,q _ ⟨f5,f3,⟨_,_,f4⟩,⟨_,f1,rfl,rfl⟩,⟨_,f2,rfl,rfl⟩⟩ λc o x=>up _ (up _ (up _ (up _ (up _ x))))⟩
end
def Zqi{xs ys:LV}{i:Nat}{p:V×V}(h:(xs.zip ys)[i]?=some p):xs[i]?=some p.1/\ys[i]?=some p.2:=by
 rw[List.getElem?_zip_eq_some]at h
 exact h
def Inv.turnedNewL{X:Cx}{pins:PL}{σ:St}{H:Hp}{s:Shared}{h':Heap}{t':Nat}{its:List Addr}{a:Addr}{o:HO}(I:Inv X pins σ H s)(k:∀ b u,b∉its->s.heap.get? b=some u->h'.get? b=some u)
  (f:∀ b∈its,Zkx X pins H b) (ha:s.heap.objs.size<=a) (new:Zb6 X.prog X.w (upd H a o) h' a o):Inv X pins σ (upd H a o) {s with heap:=h',toks:=t' }:=by
 have nit:∀ b u,H b=some u->b∉its:=λb u e z=>by have:=(f b z).1;rw[this]at e;cases e
 have na:∀ b u,H b=some u->b≠a:=λb u e=>Yc1 (Ya1 (I.hok.lt e) ha)
 have low:∀ {b u},H b=some u->(upd H a o) b=some u:=λ{b u} e=>by rw[Zab (na b u e)];exact e
 refine I.step (g':=s.gens) (d':=s.drawn) (ch:=its) (λb hb=>?_) (λb u _ _ hc e _=>k b u hc e) (λb u _ _ hc e _=>⟨u.slots,k b u hc e⟩)
  (λb u _ e n=>by rw[Zab (Yc1 (Ya1 (Yj e) ha))];exact n)
  (λb u hc e=>⟨u,k b u hc e⟩) (λ_ _ e=>low e) (λ_ _ _ e=>low e) (λb ps e=>⟨#[],by rw[low e];simp⟩) (λm hm=>?_) (λb u e=>?_) I.bare
 ·obtain⟨f0,f1,f2,f3,f4,f5⟩:=f b hb
  exact⟨f3,f1,f4,f5⟩
 ·obtain⟨o',es,ep,ho,r⟩:=hm
  exact⟨o',es,ep,k _ o' (λz=>(f _ z).2.1 rfl) ho,r⟩
 ·by_cases hb:b=a
  ·subst hb
   rw[uS]at e
   cases e
   exact new
  ·rw[Zab hb]at e
   refine(I.hok b u e).stay (λc v hc q=>k c v ?_ q) (λ_ q=>low q) λ_ _ q=>low q
   rcases hc with z | z
   ·rw[z];exact nit b u e
   ·exact nit c _ z
def Inv.turnedL{X:Cx}{pins:PL}{σ:St}{H:Hp}{s:Shared}{h':Heap}{t':Nat}{its:List Addr}(I:Inv X pins σ H s)(k:∀ b u,b∉its->s.heap.get? b=some u->h'.get? b=some u)
  (f:∀ b∈its,Zkx X pins H b):Inv X pins σ H {s with heap:=h',toks:=t' }:=by
 have nit:∀ b u,H b=some u->b∉its:=λb u e z=>by have:=(f b z).1;rw[this]at e;cases e
 refine I.step (g':=s.gens) (d':=s.drawn) (ch:=its) (λb hb=>?_) (λb u _ _ hc e _=>k b u hc e) (λb u _ _ hc e _=>⟨u.slots,k b u hc e⟩)
  (λb u _ e n=>n) (λb u hc e=>⟨u,k b u hc e⟩) (λ_ _ e=>e) (λ_ _ _ e=>e) (λb ps e=>⟨#[],by rw[e];simp⟩) (λm hm=>?_) (λb u e=>?_) I.bare
 ·obtain⟨f0,f1,f2,f3,f4,f5⟩:=f b hb
  exact⟨f3,f1,f4,f5⟩
 ·obtain⟨o',es,ep,ho,r⟩:=hm
  exact⟨o',es,ep,k _ o' (λz=>(f _ z).2.1 rfl) ho,r⟩
 ·refine(I.hok b u e).stay (λc v hc q=>k c v ?_ q) (λ_ q=>q) λ_ _ q=>q
  rcases hc with z | z
  ·rw[z];exact nit b u e
  ·exact nit c _ z
def Zw9{P:Program}{w:World}{K:Fg}{elts:List Expr}{x1}{pos:Pos}{xs ys:LV}(a b z ti to i1 i2:Addr)(D:ZipApart z ti to i1 i2 a b):
  Zte P w K (.Tuple elts x1 pos) (Itp (xs.zip ys) λH=>SqT K H a xs/\SqT K H b ys) [z,ti,to,i1,i2] z (λi h=>ZAt h z ti to i1 i2 a b i .none) where
 mem:=by simp
 obj:=λi h st c hc=>by
  have hc':c=z\/c=ti\/c=to\/c=i1\/c=i2:=by simpa using hc
  obtain⟨x,y,h3⟩:=st.to
  obtain⟨o1,e1,_,d1⟩:=st.i1
  obtain⟨o2,e2,_,d2⟩:=st.i2
  rcases hc' with rfl | rfl | rfl | rfl | rfl
  ·exact⟨_,st.z,λv q=>by cases q⟩
  ·exact⟨_,st.ti,λv q=>by cases q⟩
  ·exact⟨_,h3,λv q=>by cases q⟩
  ·exact⟨_,e1,λv q=>by rw[d1]at q;cases q⟩
  ·exact⟨_,e2,λv q=>by rw[d2]at q;cases q⟩
 keep:=λi h h' st k=>st.at k
 item:=by
  intro X hP hw hK hc i pins s σ H E I hf st hg
  subst hP hw hK
  obtain⟨hi,ha,hb⟩:=hg
  obtain⟨p,hp⟩:∃ p,(xs.zip ys)[i]?=some p:=⟨(xs.zip ys)[i]'hi,Yh hi⟩
  obtain⟨hx,hy⟩:=Zqi hp
  obtain⟨its,rv,pa,_⟩:=I.tuple ha
  obtain⟨jts,rw',pb,_⟩:=I.tuple hb
  obtain⟨u,hu,ru⟩:=rv.get hx
  obtain⟨v,hv,rv'⟩:=rw'.get hy
  refine Zmk D st (show s.heap.IsTuple a its.toArray from pa) (show s.heap.IsTuple b jts.toArray from pb) (by simpa using hu) (by simpa using hv) λg st' hpr hk=>?_
  refine⟨_,rfl,?_⟩
  refine wpAny_letOwnedTupleGo_zip (s:={s with heap:=g}) st'.z λg' z' sb=>?_
  have zlt:z<s.heap.objs.size:=Yj st.z
  have nz:s.heap.objs.size≠z:=Yq3 zlt
  have sb':Heap.ExtBut z g g':=sb.extBut
  have hT:IsPair g' s.heap.objs.size u v:=sb' _ _ nz hpr
  have I1:Inv X pins σ (upd H s.heap.objs.size (.tup [p.1,p.2])) {s with heap:=g' }:=I.turnedNewL (t':=s.toks) (its:=[z,ti,to,i1,i2]) (λc o hc e=>sb' c o (λq=>hc (by simp[q])) (hk c o (λq=>hc (by simp[q])) (λq=>hc (by simp[q])) (λq=>hc (by simp[q])) (λq=>hc (by simp[q])) e)) hf (Yd _)
   ⟨sL (by show 2<=100000;decide),[u,v],.cons ru (.cons rv' .nil),⟨_,hT,rfl,_,rfl⟩⟩
  have st2:ZAt g' z ti to i1 i2 a b (i + 1) .none:=by
   obtain⟨a1,a2,a3⟩:=st'.to
   exact⟨z',sb' _ _ D.TIz st'.ti,⟨a1,a2,sb' _ _ D.TOz a3⟩,st'.i1.extBut sb' D.i1z,st'.i2.extBut sb' D.i2z⟩
  refine⟨.ref s.heap.objs.size,_,I1,rfl,⟨s.heap.objs.size,p,hp,I.hok.fresh (Yd _),rfl,rfl⟩,st2,λc hc=>?_⟩
  have lt:∀ c∈[z,ti,to,i1,i2],c<s.heap.objs.size:=λc hc=>by
   have hc':c=z\/c=ti\/c=to\/c=i1\/c=i2:=by simpa using hc
   obtain⟨a1,a2,a3⟩:=st.to
   obtain⟨o1,e1,_⟩:=st.i1
   obtain⟨o2,e2,_⟩:=st.i2
   rcases hc' with rfl | rfl | rfl | rfl | rfl
   ·exact zlt
   ·exact Yj st.ti
   ·exact Yj a3
   ·exact Yj e1
   ·exact Yj e2
  rw[Zab (Yc1 (lt c hc))]
  exact(hf c hc).1
 done:=by
  intro X hP hw hK hc i pins s σ H E I hf st hg
  subst hP hw hK
  obtain⟨hi,ha,hb⟩:=hg
  obtain⟨its,rv,pa,_⟩:=I.tuple ha
  obtain⟨jts,rw',pb,_⟩:=I.tuple hb
  have l1:=rv.length
  have l2:=rw'.length
  have hend:its.toArray[i]?=none\/jts.toArray[i]?=none:=by
   rw[List.length_zip]at hi
   rcases Nat.le_total xs.length ys.length with h | h
   ·rw[Yh4 h]at hi
    exact .inl (by simp;omega)
   ·rw[Ys4 h]at hi
    exact .inr (by simp;omega)
  exact Zml (I.ok.hd hc) D st (show s.heap.IsTuple a its.toArray from pa) (show s.heap.IsTuple b jts.toArray from pb) hend λg hk=>⟨rfl,I.turnedL (t':=s.toks) (its:=[z,ti,to,i1,i2]) (λc o hc e=>hk c o (λq=>hc (by simp[q])) (λq=>hc (by simp[q])) (λq=>hc (by simp[q])) (λq=>hc (by simp[q])) e) hf⟩
 self:=λA i s Q E st h=>wpAny_pyIter_zip st.z h
section
variable {X:Cx}
def Z9z(K:Fg)(ta:TA):TI:=λσ H R=>ta σ H λvs H1=>∃(a b:Addr) (xs ys:LV),vs=[.ref a,.ref b]/\SqT K H1 a xs/\SqT K H1 b ys/\R (Itp (xs.zip ys) λH=>SqT K H a xs/\SqT K H b ys) H1
def Z3y{elts:List Expr}{x1}{tpos:Pos}{a b:Expr}{ta:TA}{p pos:Pos}(hg:Gl X "zip")(hm:X.mg "zip"=none)(ha:PA X [a,b] ta)(hs:starEach [a,b] X.env=[(false,eval a X.env),(false,eval b X.env)]:=by rfl)(hs2:starEach [b] X.env=[(false,eval b X.env)]:=by rfl):
  PI X (.Tuple elts x1 tpos) (.Call (.Name "zip" p) [a,b] [] pos) (Z9z X.K ta):=by
 intro pins s σ H R I h
 refine Call_ (Zip I hg hm boot_zip (Yc2 (thn (ha pos pins s σ H _ I h) λus s1 ⟨vs,H1,I1,r1,q1⟩=>?_) (by rw[hs,hs2]) (by rw[hs2];rfl)))
 obtain⟨l1,l2,xs,ys,e,t1,t2,q⟩:=q1
 subst e
 cases r1 with
 | cons r rr =>
  cases rr with
  | cons r' rr =>
   cases rr
   obtain rfl:_=Value.ref l1:=r
   obtain rfl:_=Value.ref l2:=r'
   obtain⟨its,rv,pa,_⟩:=I1.tuple t1
   obtain⟨jts,rw',pb,_⟩:=I1.tuple t2
   have b1:s1.heap.IsTuple l1 its.toArray:=pa
   have b2:s1.heap.IsTuple l2 jts.toArray:=pb
   have lt1:l1<s1.heap.objs.size:=let⟨_,e,_⟩:=b1;Yj e
   have lt2:l2<s1.heap.objs.size:=let⟨_,e,_⟩:=b2;Yj e
   refine Zwl b1 b2 λg st hk=>wpAny_pyIter_zip (s:={s1 with heap:=g}) st.z ?_
   have D:ZipApart (s1.heap.objs.size + 4) (s1.heap.objs.size + 2) (s1.heap.objs.size + 3) s1.heap.objs.size (s1.heap.objs.size + 1) l1 l2:=W.ktu_apart _ _ _ lt1 lt2
   refine⟨_,[s1.heap.objs.size + 4,s1.heap.objs.size + 2,s1.heap.objs.size + 3,s1.heap.objs.size,s1.heap.objs.size + 1],_,_,H1,rfl,I1.kept (t':=s1.toks) λb o e=>hk b o e,Zw9 l1 l2 _ _ _ _ _ D,st,λc hc=>?_,q⟩
   have hc':c=s1.heap.objs.size + 4\/c=s1.heap.objs.size + 2\/c=s1.heap.objs.size + 3\/c=s1.heap.objs.size\/c=s1.heap.objs.size + 1:=by simpa using hc
   have ge:s1.heap.objs.size<=c:=by
    rcases hc' with rfl | rfl | rfl | rfl | rfl
    ·exact Yc4 _ _
    ·exact Yc4 _ _
    ·exact Yc4 _ _
    ·exact Yd _
    ·exact Yc4 _ _
   exact I1.fpOk ge (I1.hok.fresh ge)
end
def Zv8{prog:Program}{w:World}{A:Around}(hh:A.handled=none)(p t:Addr)(ne:t≠p)(us:Array Value):Draws prog w A p [p,t] us.size (λi v=>us[i]?=some v) (λi h=>h.IsTupleIter p t i/\h.IsTuple t us) where
 live:=λ_ _ st=>let⟨o,ho,_⟩:=st.1;⟨o,ho⟩
 frame:=λ_ _ _ st hk=>⟨st.1.at λo e=>hk p (by simp) o e,let⟨o,ho,r⟩:=st.2;⟨o,hk t (by simp) o ho,r⟩⟩
 item:=λi s Q E hi st q=>Zfu st.1 st.2 (u:=us[i]) (by simp[hi]) λg st' sb=>q _ g s.toks (by simp[hi]) ⟨st',st.2.extBut sb.extBut ne⟩ sb
 done:=λs Q E st q=>Zfv hh st.1 st.2 (by simp) q
def SIt(b:Bool)(h:Heap)(p a:Addr)(i:Nat):Prop:=if b=true then h.IsListIter p a i else h.IsTupleIter p a i
def SSq(b:Bool)(h:Heap)(a:Addr)(us:Array Value):Prop:=if b=true then h.IsList a us else h.IsTuple a us
theorem SIt.at{b:Bool}{h h':Heap}{p a:Addr}{i:Nat}(x:SIt b h p a i)(e:∀ o,h.get? p=some o->h'.get? p=some o):SIt b h' p a i:=by
 cases b with
 | true=>exact Heap.IsListIter.at (show h.IsListIter p a i from x) e
 | false=>exact Heap.IsTupleIter.at (show h.IsTupleIter p a i from x) e
def SIt.obj{b:Bool}{h:Heap}{p a:Addr}{i:Nat}(x:SIt b h p a i):∃ o,h.get? p=some o/\∀ v,o.data≠.cell v:=by
 cases b with
 | true =>
  obtain⟨o,e,_,d⟩:=(show h.IsListIter p a i from x)
  exact⟨o,e,λv z=>by rw[d]at z;cases z⟩
 | false =>
  obtain⟨o,e,_,d⟩:=(show h.IsTupleIter p a i from x)
  exact⟨o,e,λv z=>by rw[d]at z;cases z⟩
def Zv9{prog:Program}{w:World}{A:Around}(b:Bool)(hh:A.handled=none)(p t:Addr)(ne:t≠p)(us:Array Value):Draws prog w A p [p,t] us.size (λi v=>us[i]?=some v) (λi h=>SIt b h p t i/\SSq b h t us):=by
 cases b with
 | true=>exact Draws.list hh p t ne us
 | false=>exact Zv8 hh p t ne us
def Inv.sseq{X:Cx}{pins:PL}{σ:St}{H:Hp}{s:Shared}{b:Bool}{a:Addr}{xs:LV}(I:Inv X pins σ H s)(h:SqB X.K b H a xs):∃ its:LU,Zb0 xs its/\SSq b s.heap a its.toArray:=by
 cases b with
 | true =>
  obtain⟨its,rv,p,_⟩:=I.list (show SqL X.K H a xs from h)
  exact⟨its,rv,p.isList⟩
 | false =>
  obtain⟨its,rv,p,_⟩:=I.tuple (show SqT X.K H a xs from h)
  exact⟨its,rv,p⟩
def Zkj(xs:LV):List (V×V):=(Zee 0 xs.length).zip xs
def Zfc(xs:LV):(Zkj xs).length=xs.length:=by
 unfold Zkj
 rw[List.length_zip,Za4,Nat.min_self]
def Zhb{xs:LV}{i:Nat}{p:V×V}(h:(Zkj xs)[i]?=some p):p.1=.int i/\xs[i]?=some p.2:=by
 obtain⟨h1,h2⟩:=Zqi h
 obtain⟨_,e⟩:=Za6 h1
 exact⟨by rw[e,Yy3],h2⟩
section
variable {prog:Program}{w:World}{A:Around}{E:EV}{s:Shared}
def Zpv(l:Addr)(us:Array Value):Meets (Builtin.«enumerate.__new__» ⟨[.type "enumerate",.ref l],[]⟩) (λ_ R s=>s.heap.IsTuple l us /\
   R (.ok (.ret (.ref (s.heap.push {cls:=.type "tuple_iterator",data:=.fields #[.ref l,.int 0 0] }).objs.size)))
    {s with heap:=(s.heap.push {cls:=.type "tuple_iterator",data:=.fields #[.ref l,.int 0 0] }).push {cls:=.type "enumerate",data:=.fields #[.none,.bool false,.ref s.heap.objs.size,rawInt 0,.none,.none] } }):=
 .of_wp λprog w A R s h=>by
  obtain⟨hp,g,d,tk,os⟩:=s
  obtain⟨ht,h⟩:=h
  have hsub:=sub_enumerate
  obtain⟨⟨c,dct,dt,sl⟩,hl,hc,n,hd⟩:=id ht
  replace hc:c=.type "tuple":=hc
  replace hd:dt=.seq us n:=hd
  subst hc hd
  have hT:Heap.IsTuple (Shared.heap ⟨hp,g,d,tk,os⟩) l us:=ht
  wp_walk using Yr3 hl
  refine wpAny_stack_any λst=>Jd ?_
  split
  ·rename_i c _ _ _ _ _
   cases(c == Value.type "enumerate")
   ·wp_walk using Yr3 hl,wpAny_pyIter_tuple hT
    exact⟨_,rfl,h⟩
   ·wp_walk using Yr3 hl,wpAny_pyIter_tuple hT
    exact⟨_,rfl,h⟩
  ·wp_walk using Yr3 hl,wpAny_pyIter_tuple hT
   exact⟨_,rfl,h⟩
def Zwo(b:Bool){l:Addr}{us:Array Value}{Q:EV}(hl:SSq b s.heap l us)
  (q:∀ g,IsEnum g (s.heap.objs.size + 1) s.heap.objs.size 0 .none->SIt b g s.heap.objs.size l 0->(∀ c o,s.heap.get? c=some o->g.get? c=some o)->Q (.ref (s.heap.objs.size + 1)) {s with heap:=g}):
  wpAny (model prog w) A (call (.type "enumerate") [.ref l]) Q E s:=by
 cases b with
 | true=>exact call_enumerate_list (show s.heap.IsList l us from hl) λg h1 h2 _ h4=>q g h1 h2 h4
 | false =>
  refine callType_new PySem.F.called_enumerate (by decide) (PySem.F.typeCall_enumerate_1 _) (PySem.F.newCall_enumerate_1 _) (λobj=>PySem.F.args_object_init_2 obj _) PySem.F.entry_enumerate_new (Zpv l us) ⟨hl,?_⟩
  have n1:(zg1 s.heap l).objs.size=s.heap.objs.size + 1:=Ye2 ..
  show _/\_
  rw[n1]
  have he:IsEnum ((zg1 s.heap l).push {cls:=.type "enumerate",data:=.fields #[.none,.bool false,.ref s.heap.objs.size,rawInt 0,.none,.none] }) (s.heap.objs.size + 1) s.heap.objs.size 0 .none:=by
   have:=Ys (zg1 s.heap l) (o:={cls:=.type "enumerate",data:=.fields #[.none,.bool false,.ref s.heap.objs.size,rawInt 0,.none,.none] }) rfl
   rw[n1]at this
   exact this
  exact⟨⟨_,he,rfl⟩,q _ he ⟨_,Yb _ (Ys _ rfl),rfl,rfl⟩ λc o x=>Yb _ (Yb _ x)⟩
end
def Zv7{prog:Program}{w:World}{A:Around}{E:EV}{s:Shared}{e p:Addr}{i:Int}{old:Value}{Q:OU->Shared->Prop}(hh:A.handled=none)(he:IsEnum s.heap e p i old)
  (nx:∀(Q:EV) (E:EV),(∀ g e,Heap.ExtBut p s.heap g->(∃ o,g.get? e=some o/\o.cls=.type "StopIteration")->E (.ref e) {s with heap:=g})->wpAny (model prog w) A.in1 (Builtin.SmallTypes.nextOf (.ref p)) Q E s)
  (q:∀ g,Heap.ExtBut p s.heap g->Q none {s with heap:=g}):wpAny (model prog w) A (pyNext (.ref e)) Q E s:=by
 have hT:s.TypeIs (.ref e) "enumerate":=⟨_,he,rfl⟩
 unfold pyNext
 refine Ja (wpAny_attempt (wpAny_callSpecial?_slot (name:=Str.ofString "__next__") hT PySem.F.slot_enumerate_next (wpAny_call_entry PySem.F.slot_enumerate_next hT PySem.F.entry_enumerate_next ?_ (PySem.F.args_enumerate_next_1 _))))
 show wpAny _ _ (field (.ref e) 2>>=_) _ _ _
 refine Ja (Jg he rfl (x:=.ref p) rfl (Ja (nx _ _ λg x eb hx=>?_)))
 obtain⟨o,ho,hc⟩:=hx
 refine Ja (wpAny_isInstance (T:="StopIteration") (b:=true) ⟨o,ho,hc⟩ isSubtype_stop ?_)
 exact Jd (q _ eb)
def Ztm{P:Program}{w:World}{K:Fg}{elts:List Expr}{x1}{pos:Pos}{xs:LV}(b:Bool)(a e p:Addr)(ep:e≠p)(ea:e≠a)(ap:a≠p):
  Zte P w K (.Tuple elts x1 pos) (Itp (Zkj xs) λH=>SqB K b H a xs) [e,p] e (λi h=>(∃ old,IsEnum h e p i old)/\SIt b h p a i) where
 mem:=by simp
 obj:=λi h st c hc=>by
  have hc':c=e\/c=p:=by simpa using hc
  obtain⟨⟨old,he⟩,si⟩:=st
  rcases hc' with rfl | rfl
  ·exact⟨_,he,λv q=>by cases q⟩
  ·exact si.obj
 keep:=λi h h' st k=>by
  obtain⟨⟨old,he⟩,si⟩:=st
  exact⟨⟨old,k e (by simp) _ he⟩,si.at λo q=>k p (by simp) o q⟩
 item:=by
  intro X hP hw hK hc i pins s σ H E I hf st hg
  subst hP hw hK
  obtain⟨hi,ha⟩:=hg
  obtain⟨⟨old,he⟩,si⟩:=st
  obtain⟨pr,hp⟩:∃ p,(Zkj xs)[i]?=some p:=⟨(Zkj xs)[i]'hi,Yh hi⟩
  obtain⟨e1,hx⟩:=Zhb hp
  obtain⟨its,rv,sq⟩:=I.sseq ha
  obtain⟨u,hu,ru⟩:=rv.get hx
  have hil:i<its.toArray.size:=by rw[Zfc]at hi;have:=rv.length;simp;omega
  have D:=Zv9 (prog:=X.prog) (w:=X.w) (A:=X.A.in1) b (I.ok.hd hc) p a ap its.toArray
  refine wpAny_pyNext_enum_itemD D he ⟨si,sq⟩ hil ep (by simp;exact⟨ep,ea⟩) λx g tk hPx ho hst hT _ hk=>?_
  have exu:x=u:=by
   have h1:its.toArray[i]?=some x:=hPx
   have h2:its.toArray[i]?=some u:=by simpa using hu
   rw[h1]at h2
   exact Yq h2
  subst exu
  refine⟨_,rfl,?_⟩
  refine wpAny_letOwnedTupleGo_enum (s:={s with heap:=g,toks:=tk + 1}) ho λg' he' sb=>?_
  have elt:e<s.heap.objs.size:=Yj he
  have plt:p<s.heap.objs.size:=let⟨o,q,_⟩:=si.obj;Yj q
  have sb':Heap.ExtBut e g g':=sb.extBut
  have hT':IsPair g' s.heap.objs.size (.int i tk) x:=sb' _ _ (Yq3 elt) hT
  have I1:Inv X pins σ (upd H s.heap.objs.size (.tup [pr.1,pr.2])) {s with heap:=g',toks:=tk + 1}:=I.turnedNewL (t':=tk + 1) (its:=[e,p]) (λc o hc q=>sb' c o (λz=>hc (by simp[z])) (hk c o (λz=>hc (by simp[z])) (λz=>hc (by simp[z])) q)) hf (Yd _)
   ⟨sL (by show 2<=100000;decide),[.int i tk,x],.cons (by rw[e1];exact⟨tk,rfl⟩) (.cons ru .nil),⟨_,hT',rfl,_,rfl⟩⟩
  refine⟨.ref s.heap.objs.size,_,I1,rfl,⟨s.heap.objs.size,pr,hp,I.hok.fresh (Yd _),rfl,rfl⟩,⟨⟨x,by simpa using he'⟩,hst.1.at λo q=>sb' _ o (Ym ep) q⟩,λc hc=>?_⟩
  have hc':c=e\/c=p:=by simpa using hc
  have ne:c≠s.heap.objs.size:=by
   rcases hc' with rfl | rfl
   ·exact Yc1 elt
   ·exact Yc1 plt
  rw[Zab ne]
  exact(hf c hc).1
 done:=by
  intro X hP hw hK hc i pins s σ H E I hf st hg
  subst hP hw hK
  obtain⟨hi,ha⟩:=hg
  obtain⟨⟨old,he⟩,si⟩:=st
  obtain⟨its,rv,sq⟩:=I.sseq ha
  have hl:=rv.length
  rw[Zfc]at hi
  cases b with
  | true =>
   have si:s.heap.IsListIter p a i:=si
   have sq:s.heap.IsList a its.toArray:=sq
   refine Zv7 (I.ok.hd hc) he (λQ E hE=>wpAny_nextOf_list_end (I.ok.hd hc) si sq (by simp;omega) hE) λg eb=>⟨rfl,I.turnedL (t':=s.toks) (its:=[e,p]) (λc o hc q=>eb c o (λz=>hc (by simp[z])) q) hf⟩
  | false =>
   have si:s.heap.IsTupleIter p a i:=si
   have sq:s.heap.IsTuple a its.toArray:=sq
   refine Zv7 (I.ok.hd hc) he (λQ E hE=>Zfv (I.ok.hd hc) si sq (by simp;omega) hE) λg eb=>⟨rfl,I.turnedL (t':=s.toks) (its:=[e,p]) (λc o hc q=>eb c o (λz=>hc (by simp[z])) q) hf⟩
 self:=λA i s Q E st h=>let⟨⟨_,he⟩,_⟩:=st;wpAny_pyIter_enum he h
section
variable {X:Cx}
def Z6t(K:Fg)(ta:TA):TI:=λσ H R=>ta σ H λvs H1=>∃(b:Bool) (a:Addr) (xs:LV),vs=[.ref a]/\SqB K b H1 a xs/\R (Itp (Zkj xs) λH=>SqB K b H a xs) H1
def Zpj{elts:List Expr}{x1}{tpos:Pos}{a:Expr}{ta:TA}{p pos:Pos}(hg:Gl X "enumerate")(hm:X.mg "enumerate"=none)(ha:PA X [a] ta)(hs:starEach [a] X.env=[(false,eval a X.env)]:=by rfl):
  PI X (.Tuple elts x1 tpos) (.Call (.Name "enumerate" p) [a] [] pos) (Z6t X.K ta):=by
 intro pins s σ H R I h
 refine Call_ (Zip I hg hm boot_enumerate (Yc2 (thn (ha pos pins s σ H _ I h) λus s1 ⟨vs,H1,I1,r1,q1⟩=>?_) hs rfl))
 obtain⟨b,l,xs,e,t1,q⟩:=q1
 subst e
 cases r1 with
 | cons r rr =>
  cases rr
  obtain rfl:_=Value.ref l:=r
  obtain⟨its,rv,sq⟩:=I1.sseq t1
  have lt1:l<s1.heap.objs.size:=by
   cases b with
   | true=>obtain⟨_,e,_⟩:=(show s1.heap.IsList l its.toArray from sq);exact Yj e
   | false=>obtain⟨_,e,_⟩:=(show s1.heap.IsTuple l its.toArray from sq);exact Yj e
  refine Zwo b sq λg he si hk=>wpAny_pyIter_enum (s:={s1 with heap:=g}) he ?_
  refine⟨_,[s1.heap.objs.size + 1,s1.heap.objs.size],_,_,H1,rfl,I1.kept (t':=s1.toks) λb o e=>hk b o e,Ztm b l _ _ (Nat.succ_ne_self _) (Yq3 (Nat.lt_succ_of_lt lt1)) (Yc1 lt1),⟨⟨_,he⟩,si⟩,λc hc=>?_,q⟩
  have hc':c=s1.heap.objs.size + 1\/c=s1.heap.objs.size:=by simpa using hc
  have ge:s1.heap.objs.size<=c:=by
   rcases hc' with rfl | rfl
   ·exact Yc4 _ _
   ·exact Yd _
  exact I1.fpOk ge (I1.hok.fresh ge)
end
end L2
namespace L2
open PySem PySem.Spec PyProof.Rows PySem.W
def Z8g{A:Around}{k:Nat}(hr:Zcb k A):A.units + 65<cLine:=by have:=hr.un;omega
def Zkz{κ:Type}[DecidableEq κ]{kvs:List (κ×V)}{k:κ}(h:k∉kvs.map (·.1)):Zex kvs k=none:=by
 cases e:Zex kvs k with
 | none=>rfl
 | some v=>exact absurd (Ztj e) h
def Zr7{κ:Type}[DecidableEq κ]{kvs:List (κ×V)}{k:κ}{v:V}(h:k∉kvs.map (·.1)):(Zdt kvs k v).map (·.1)=kvs.map (·.1)++[k]:=by
 rw[Zfr v (Zkz h),Yb1]
 rfl
def Zn6{α:Type}{l:List α}(nd:l.Nodup){i:Nat}{x:α}(h:l[i]?=some x):x∉l.take i:=by
 intro m
 have hi:=(Yn.mp h).1
 have e:=(Yn.mp h).2
 have sp:l=l.take i++l.drop i:=(Yn2 i l).symm
 rw[sp]at nd
 have q:=(Yc3.mp nd).2.2 x m
 refine q x ?_ rfl
 rw[List.drop_eq_getElem_cons hi,e]
 exact Yp2
def Zkg{ps:List (V×V)}{Ok:Hp->Prop}{g:TG}{tb:TS}{D:Ztf}{σ:St}{H:Hp}(Pv:NW)(h0:Pv 0 σ H)(hl:∀ i σ H,i<=ps.length->Pv i σ H->Ok H)
  (hs:∀ i p t σ H,ps[i]?=some p->Pv i σ H->H t=none->g (.ref t) σ (upd H t (.tup [p.1,p.2])) λσ2 H2=>tb {D with nx:=Pv (i + 1),ct:=Pv (i + 1),bk:=D.nx} σ2 H2) (hd:∀ σ H,Pv ps.length σ H->D.nx σ H):
  ∃ W:Nat->Nat->St->Hp->Prop,(∃ m,W 0 m σ H)/\∀ i m σ H,W i m σ H ->
   ((Itp ps Ok).stop i H/\D.nx σ H)\/((Itp ps Ok).go i H/\∃ N:SW,(∀ σ' H',N σ' H'->∃ m',m'<m/\W (i + 1) m' σ' H')/\∀ x H',(Itp ps Ok).yld i H x H'->g x σ H' λσ2 H2=>tb {D with nx:=N,ct:=N,bk:=D.nx} σ2 H2):=by
 refine⟨λi m σ H=>m=ps.length - i/\i<=ps.length/\Pv i σ H,⟨ps.length,by simp,Yv _,h0⟩,?_⟩
 rintro i m σ H ⟨rfl,hi,p⟩
 have q:=hl i σ H hi p
 by_cases hlt:i<ps.length
 ·refine .inr ⟨⟨hlt,q⟩,Pv (i + 1),λσ' H' p'=>⟨ps.length - (i + 1),by omega,rfl,hlt,p'⟩,λx H' y=>?_⟩
  obtain⟨t,pr,hp,ht,rfl,rfl⟩:=y
  exact hs i pr t σ H hp p ht
 ·have e:i=ps.length:=by omega
  subst e
  exact .inl ⟨⟨Yd _,q⟩,hd σ H p⟩
abbrev g2(K:Fg)(i j:Nat):TG:=Z8h K 2 (Z1z (Zff i) (Z1z (Zff j) Z8i))
def Z4z{K:Fg}{i j:Nat}{t:Addr}{x y:V}{σ:St}{H:Hp}{R:SW}(h:SqT K H t [x,y])(q:R ((σ.set i (some x)).set j (some y)) H):g2 K i j (.ref t) σ H R :=
 ⟨t,[x,y],rfl,h,rfl,x,[y],rfl,y,[],rfl,rfl,q⟩
def Zri{K:Fg}{i j:Nat}{t:Addr}{x y:V}{σ:St}{H:Hp}{R:SW}(q:R ((σ.set i (some x)).set j (some y)) (upd H t (.tup [x,y]))):g2 K i j (.ref t) σ (upd H t (.tup [x,y])) R :=
 Z4z (SqT.of uS) q
def Zq5{X:Cx}{K:Fg}{i j:Nat}{x y:Str}{p q pos:Pos}{c:Nat}(hK:X.K=K)(hc:X.calm=true)(hN:X.N.Nodup)(hi:X.N[i]?=some x)(hj:X.N[j]?=some y)(hx:Loc X.env.scope x)(hy:Loc X.env.scope y)
  (fx:X.fn x=true\/X.env.scope.names.lookup x=some .local) (fy:X.fn y=true\/X.env.scope.names.lookup y=some .local):PG X (.Tuple [.Name x p,.Name y q] c pos) (g2 K i j):=by
 subst hK
 exact Zgx hc (gC (Zah (i:=i) hN hi hx fx) (gC (Zah (i:=j) hN hj hy fy) Zem))
def Za9{H:Hp}{t:Addr}{o:HO}(h:H t=none):Zaj H (upd H t o):=λb u e=>by rw[Zab (nNo e h)];exact e
def Zgi{α:Type}(p:α->Bool):∀(xs:List α) (i:Nat) (x:α),xs[i]?=some x->(xs.take (i + 1)).filter p=(xs.take i).filter p++if p x=true then[x]else[]:=by
 intro xs i x h
 rw[Yt,h,List.filter_append]
 congr 1
 cases e:p x <;> simp[List.filter,e]
def Zwg{K:Fg}{ps:List (V×V)}{Ok:Hp->Prop}{js:LN}{tt:TT}{te:TE}{σ:St}{Q:VK}{H1:Hp}(hz:ps.length<=sizeLine)(p:V×V->Bool)(F:Addr->V×V->V->Hp->Prop)
  (hF:∀ D x v H H',(∀ b o,b≠D->H b=some o->H' b=some o)->F D x v H->F D x v H')
  (hok:∀ H,Zaj H1 H->Ok H)
  (ht:∀ x H (R:Bool->Hp->Prop),Zaj H1 H->x∈ps->(∀ H',Zaj H H'->R (p x) H')->tt (some x.1 :: some x.2 :: js.map λj=>(σ[j]?).join) H R)
  (he:∀ D x H (R:V->Hp->Prop),Zaj H1 H->(∃ ys,H D=some (.lst ys))->H1 D=none->x∈ps->p x=true->(∀ v H',Zaj H H'->F D x v H'->R v H')->te (some x.1 :: some x.2 :: js.map λj=>(σ[j]?).join) H R)
  (hd:∀ D H' ys,H1 D=none->Zaj H1 H'->H' D=some (.lst ys)->Paired (λx v=>F D x v H') (ps.filter p) ys->Q (.ref D) H'):
  compBody 2 js (g2 K 0 1) tt te σ Q (Itp ps Ok) H1:=by
 intro D hD
 refine⟨λi m ys σ' H=>m=ps.length - i/\i<=ps.length/\Zaj H1 H/\H D=some (.lst ys)/\Paired (λx v=>F D x v H) ((ps.take i).filter p) ys/\∃ o u,σ'=o :: u :: js.map λj=>(σ[j]?).join,
  ⟨ps.length,by simp,Yv _,Za9 hD,uS,by simpa using Paired.nil,none,none,rfl⟩,?_⟩
 rintro i m ys σ' H ⟨rfl,hi,hs,hl,hp,o,u,rfl⟩
 have mono:∀ {H H':Hp},(∀ b o,b≠D->H b=some o->H' b=some o)->Paired (λx v=>F D x v H) ((ps.take i).filter p) ys->Paired (λx v=>F D x v H') ((ps.take i).filter p) ys:=λh q=>Paired.mapP q λa b z=>hF D a b _ _ h z
 by_cases hlt:i<ps.length
 ·have yl:ys.length<sizeLine:=by
   rw[<- hp.length]
   refine Nat.lt_of_le_of_lt (Yw1 _ _) ?_
   rw[Yd1]
   omega
  refine .inr ⟨⟨hlt,hok H hs⟩,yl,λys3 σ3 H3=>Zaj H1 H3/\H3 D=some (.lst ys3)/\Paired (λx v=>F D x v H3) ((ps.take (i + 1)).filter p) ys3/\∃ o u,σ3=o :: u :: js.map λj=>(σ[j]?).join,
   λys3 σ3 H3 z=>⟨ps.length - (i + 1),by omega,rfl,hlt,z⟩,λx H2 y=>?_⟩
  obtain⟨t,x,hx,ht0,rfl,rfl⟩:=y
  refine Zri ?_
  show tt (some x.1 :: some x.2 :: js.map λj=>(σ[j]?).join) (upd H t (.tup [x.1,x.2])) _
  have hm:x∈ps:=Yf hx
  have st:Zaj H (upd H t (.tup [x.1,x.2])):=Za9 ht0
  refine ht x _ _ (hs.trans st) hm λH4 s4=>?_
  have s04:Zaj H H4:=st.trans s4
  have hs4:Zaj H1 H4:=hs.trans s04
  cases hpx:p x with
  | true =>
   rw[if_pos rfl]
   refine he D x H4 _ hs4 ⟨_,s04 _ _ hl⟩ hD hm hpx λv H5 s5 f5=>⟨s5 _ _ (s04 _ _ hl),λb o e=>?_,uS,?_,_,_,rfl⟩
   ·rw[Zab (nNo e hD)]
    exact s5 _ _ (hs4 _ _ e)
   ·rw[Zgi p ps i x hx,hpx,if_pos rfl]
    refine Yh2 (mono (λb o hb e=>by rw[Zab hb];exact s5 _ _ (s04 _ _ e)) hp) (hF D _ _ _ _ (λb o hb e=>by rw[Zab hb];exact e) f5)
  | false =>
   rw[if_neg Yg]
   refine⟨hs4,s04 _ _ hl,?_,_,_,rfl⟩
   rw[Zgi p ps i x hx,hpx,if_neg Yg,Yn1]
   exact mono (λb o _ e=>s04 _ _ e) hp
 ·have e:i=ps.length:=by omega
  subst e
  rw[Ye1]at hp
  exact .inl ⟨⟨Yd _,hok H hs⟩,hd D H ys hD hs hl hp⟩
theorem Zg7{α:Type}{f:α->V}:∀ {xs:List α}{ys:LV},Paired (λx v=>v=f x) xs ys->ys=xs.map f
 | _,_,.nil=>rfl
 | _,_,.cons r t=>by rw[Yy,r,Zg7 t]
def Zwf{K:Fg}{ps:List (V×V)}{Ok:Hp->Prop}{js:LN}{tt:TT}{te:TE}{σ:St}{Q:VK}{H1:Hp}(hz:ps.length<=sizeLine)(p:V×V->Bool)(f:V×V->V)
  (hok:∀ H,Zaj H1 H->Ok H)
  (ht:∀ x H (R:Bool->Hp->Prop),Zaj H1 H->x∈ps->(∀ H',Zaj H H'->R (p x) H')->tt (some x.1 :: some x.2 :: js.map λj=>(σ[j]?).join) H R)
  (he:∀ x H (R:V->Hp->Prop),Zaj H1 H->x∈ps->p x=true->(∀ H',Zaj H H'->R (f x) H')->te (some x.1 :: some x.2 :: js.map λj=>(σ[j]?).join) H R)
  (hd:∀ D H',H1 D=none->Zaj H1 H'->H' D=some (.lst ((ps.filter p).map f))->Q (.ref D) H'):
  compBody 2 js (g2 K 0 1) tt te σ Q (Itp ps Ok) H1 :=
 Zwg hz p (λ_ x v _=>v=f x) (λ_ _ _ _ _ _ z=>z) hok ht (λD x H R hs _ _ hx hp k=>he x H R hs hx hp λH' s'=>k _ _ s' rfl)
  λD H' ys hD hs hl hp=>hd D H' hD hs (by rw[hl,Zg7 hp])
def Zmu{J:It}{xs:LV}{Ok:Hp->Prop}(R:Zqf J xs Ok){js:LN}{tt:TT}{te:TE}{σ:St}{Q:VK}{H1:Hp}(hz:xs.length<=sizeLine)(p:V->Bool)(f:V->V)
  (hok:∀ H,Zaj H1 H->Ok H)
  (ht:∀ x H (R:Bool->Hp->Prop),Zaj H1 H->x∈xs->(∀ H',Zaj H H'->R (p x) H')->tt (some x :: js.map λj=>(σ[j]?).join) H R)
  (he:∀ x H (R:V->Hp->Prop),Zaj H1 H->x∈xs->p x=true->(∀ H',Zaj H H'->R (f x) H')->te (some x :: js.map λj=>(σ[j]?).join) H R)
  (hd:∀ D H',H1 D=none->Zaj H1 H'->H' D=some (.lst ((xs.filter p).map f))->Q (.ref D) H'):
  compBody 1 js (Zff 0) tt te σ Q J H1 :=
 Zgt R hz p (λ_ x v _=>v=f x) (λ_ _ _ _ _ _ z=>z) hok ht (λD x H R hs _ _ hx hp k=>he x H R hs hx hp λH' s'=>k _ _ s' rfl)
  λD H' ys hD hs hl hp=>hd D H' hD hs (by rw[hl,Zg7 hp])
section
variable {X:Cx}
theorem Zww{d:Dat}{n:Nat}(h2:kqdOk n d=true):∀ {ds:List Dat},ds.all (kqdOk 8)=true->((kqdPs ds).any λy=>PyData.eqv y (kqdP d))=ds.any λe=>dEq e d
 | [],_=>by rw[kqdPs];rfl
 | e :: ds,h=>by
  rw[List.all_cons,Yt1]at h
  rw[kqdPs,Yk3,Yk3,Zp6 h.1 h2,Zww h2 h.2]
def Z9r(K:Fg)(f:Bool->Bool):R2:=λx y H Q=>∃ d ds,Rep K H x d/\Rep K H y (.list ds)/\kqdOk 9 d=true/\ds.all (kqdOk 8)=true/\Q (.bl (f (ds.any λe=>dEq e d))) H
def Zxe{ds:List Dat}(h:ds.all (kqdOk 8)=true):SeqAt.shaped (PyData.list (kqdPs ds))=true:=by
 have:=Ze2 (d:=.list ds) (by rw[kqdOk];exact h)
 rw[kqdP]at this
 exact this
def Znv(hu:X.A.units + 65<cLine):OpR X (compareOp .NotIn) (Z9r X.K Bool.not):=by
 exfalso
 obtain⟨d,ds,h1,h2,k1,k2,q⟩:=h
 obtain⟨as,ra⟩:=h1.reads I rx
 obtain⟨bs,rb⟩:=h2.reads I ry
 rw[kqdP]at rb
 exact SeqAt.notIn_list_reads rb ra (SeqAt.canLay_of_shaped (Zxe k2)) (SeqAt.canLay_of_shaped (Ze2 k1)) (room_in_shaped (Ze2 k1) hu) (Zbl I q (by rw[Zww k1 k2]))
end
def Zmm(i:Nat):V:=.int (i:Nat)
end L2
namespace L2
open PySem PySem.Spec PyProof.Rows
section
variable {X:Cx}
end
end L2
namespace L2
open PySem PySem.W PySem.Spec PyProof.Rows
section
variable {X:Cx}
end
end L2
namespace L2
open PySem PySem.Spec PyProof.Rows
section
variable {prog:Program}{w:World}{A:Around}{E:EV}{s:Shared}{d it:Addr}{es:Array DictEntry}{ep i:Nat}
end
section
variable {X:Cx}{pins:PL}{σ:St}{H H':Hp}{s:Shared}{a:Addr}{kvs:List (List Key×V)}{o:Obj}
end
section
variable {X:Cx}{tg:Expr}
end
def Zoq{K:Fg}{J:It}{xs:LV}{Ok:Hp->Prop}(R:Zqf J xs Ok){js:LN}{tt:TT}{te:TE}{σ:St}{Q:VK}{H1:Hp}(hz:xs.length<=sizeLine)(p:V->Bool)(F:Addr->V->V->Hp->Prop)(l r:V->V)
  (hF:∀ D x v H H',(∀ b o,b≠D->H b=some o->H' b=some o)->F D x v H->F D x v H')
  (hok:∀ H,Zaj H1 H->Ok H) (hp:∀ x∈xs,∃ t,x=.ref t/\H1 t=some (.tup [l x,r x]))
  (ht:∀ x H (R:Bool->Hp->Prop),Zaj H1 H->x∈xs->(∀ H',Zaj H H'->R (p x) H')->tt (some (l x):: some (r x):: js.map λj=>(σ[j]?).join) H R)
  (he:∀ D x H (R:V->Hp->Prop),Zaj H1 H->(∃ ys,H D=some (.lst ys))->H1 D=none->x∈xs->p x=true->(∀ v H',Zaj H H'->F D x v H'->R v H')->te (some (l x):: some (r x):: js.map λj=>(σ[j]?).join) H R)
  (hd:∀ D H' ys,H1 D=none->Zaj H1 H'->H' D=some (.lst ys)->Paired (λx v=>F D x v H') (xs.filter p) ys->Q (.ref D) H'):
  compBody 2 js (g2 K 0 1) tt te σ Q J H1:=by
 refine Zdq R hz (λD i ys σ' H=>H1 D=none/\Zaj H1 H/\H D=some (.lst ys)/\Paired (λx v=>F D x v H) ((xs.take i).filter p) ys/\∃ o u,σ'=o :: u :: js.map λj=>(σ[j]?).join) ?_ ?_ ?_ ?_
 ·intro D hD
  exact⟨hD,Za9 hD,uS,by simpa using Paired.nil,none,none,rfl⟩
 ·rintro D i ys σ' H hi ⟨hD,hs,hl,q,_⟩
  refine⟨hok H hs,?_⟩
  rw[<- q.length]
  exact Yx (Yw1 _ _) (by rw[Yd1];omega)
 ·rintro D i x ys σ' H hD hx ⟨_,hs,hl,q,o,u,rfl⟩
  have mono:∀ {H H':Hp},(∀ b o,b≠D->H b=some o->H' b=some o)->Paired (λx v=>F D x v H) ((xs.take i).filter p) ys->Paired (λx v=>F D x v H') ((xs.take i).filter p) ys:=λh q=>Paired.mapP q λa b z=>hF D a b _ _ h z
  have hm:x∈xs:=Yf hx
  obtain⟨t,rfl,hxt⟩:=hp x hm
  refine Z4z (SqT.of (hs _ _ hxt)) ?_
  show tt (some (l (.ref t)):: some (r (.ref t)):: js.map λj=>(σ[j]?).join) H _
  refine ht (.ref t) H _ hs hm λH4 s4=>?_
  have hs4:=hs.trans s4
  cases hpx:p (.ref t)with
  | true =>
   rw[if_pos rfl]
   refine he D (.ref t) H4 _ hs4 ⟨_,s4 _ _ hl⟩ hD hm hpx λv H5 s5 f5=>⟨s5 _ _ (s4 _ _ hl),hD,λb o e=>?_,uS,?_,_,_,rfl⟩
   ·rw[Zab (nNo e hD)]
    exact s5 _ _ (hs4 _ _ e)
   ·rw[Zgi p xs i _ hx,hpx,if_pos rfl]
    exact Yh2 (mono (λb o hb e=>by rw[Zab hb];exact s5 _ _ (s4 _ _ e)) q) (hF D _ _ _ _ (λb o hb e=>by rw[Zab hb];exact e) f5)
  | false =>
   rw[if_neg Yg]
   refine⟨hD,hs4,s4 _ _ hl,?_,_,_,rfl⟩
   rw[Zgi p xs i _ hx,hpx,if_neg Yg,Yn1]
   exact mono (λb o _ e=>s4 _ _ e) q
 ·rintro D ys σ' H hD ⟨_,hs,hl,q,_⟩
  rw[Ye1]at q
  exact hd D H ys hD hs hl q
structure Air(h:Heap)(e T:Addr)(cls:Value)(dx:Option Addr)(fl:Value):Prop where
 ne:T≠e
 obj:∃ oe vs,h.get? e=some oe/\oe.cls=cls/\oe.dict=dx/\oe.data=.fields vs/\vs[1]?=some (.ref T)
 tb:∃ oT ts,h.get? T=some oT/\oT.data=.fields ts/\ts[3]?=some fl
structure Chg(S R:List Addr)(h h':Heap):Prop where
 sz:h.objs.size<=h'.objs.size
 keep:∀ b o,h.get? b=some o->b∉S->b∉R->h'.get? b=some o
 slot:∀ b o,h.get? b=some o->b∉R->∃ sl,h'.get? b=some {o with slots:=sl}
 there:∀ b o,h.get? b=some o->∃ o',h'.get? b=some o'
def Chg.mono{S S' R R':List Addr}{h h':Heap}(c:Chg S R h h')(hs:∀ b∈S,b∈S')(hr:∀ b∈R,b∈R'):Chg S' R' h h' :=
 ⟨c.sz,λb o e n1 n2=>c.keep b o e (λz=>n1 (hs b z)) λz=>n2 (hr b z),λb o e n=>c.slot b o e λz=>n (hr b z),c.there⟩
def Chg.trans{S R:List Addr}{h h1 h2:Heap}(a:Chg S R h h1)(b:Chg S R h1 h2):Chg S R h h2 :=
 ⟨Yx a.sz b.sz,λc o e n1 n2=>b.keep c o (a.keep c o e n1 n2) n1 n2,λc o e n=>by
  obtain⟨sl,e1⟩:=a.slot c o e n
  obtain⟨sl',e2⟩:=b.slot c _ e1 n
  exact⟨sl',e2⟩,λc o e=>by
  obtain⟨o1,e1⟩:=a.there c o e
  exact b.there c o1 e1⟩
def Chg.drop{S R:List Addr}{h h':Heap}{t:Addr}(c:Chg S (t :: R) h h')(ht:h.objs.size<=t):Chg S R h h' :=
 ⟨c.sz,λb o e n1 n2=>c.keep b o e n1 λz=>(Yg1.mp z).elim (λq=>absurd (Yj e) (by rw[q];exact Nat.not_lt.mpr ht)) n2,
  λb o e n=>c.slot b o e λz=>(Yg1.mp z).elim (λq=>absurd (Yj e) (by rw[q];exact Nat.not_lt.mpr ht)) n,c.there⟩
def Zku(f:Array Value->Array Value)(o:Obj):(Obj.mapFields f o).dict=o.dict:=by
 obtain⟨c,d,dt,sl⟩:=o
 cases dt <;> rfl
def Chg.setF{h:Heap}{T:Addr}{oT:Obj}{ts:Array Value}{f:Array Value->Array Value}(hT:h.get? T=some oT)(hd:oT.data=.fields ts):Chg [] [T] h (h.update T (Obj.mapFields f)):=by
 have other:∀ b,b≠T->(h.update T (Obj.mapFields f)).get? b=h.get? b:=λb hb=>Yg2 _ _ (Ym hb)
 refine⟨Nat.le_of_eq (Heap.size_after_update ..).symm,λb o e _ n=>(other b λz=>n (by simp[z])).trans e,λb o e n=>⟨o.slots,(other b λz=>n (by simp[z])).trans e⟩,λb o e=>?_⟩
 by_cases hb:b=T
 ·subst hb
  exact⟨_,Yu1 _ hT (Yi3 (Yh3 hd _))⟩
 ·exact⟨o,(other b hb).trans e⟩
def Chg.entry{S:List Addr}{h g:Heap}{e:Addr}{oe nb:Obj}{vs ts:Array Value}{fl:Value}(sl:Heap.SlotsOnly S h g)(ns:e∉S)(he:h.get? e=some oe)(hd:oe.data=.fields vs)(hsz:1<vs.size)(hnb:nb.data=.fields ts)(h3:ts[3]?=some fl):
  Air ((g.push nb).update e (Obj.mapFields λr=>r.setIfInBounds 1 (.ref g.objs.size))) e g.objs.size oe.cls oe.dict fl/\Chg S [e] h ((g.push nb).update e (Obj.mapFields λr=>r.setIfInBounds 1 (.ref g.objs.size))):=by
 have ge:g.get? e=some oe:=(sl.2.1 e ns).trans he
 have apart:g.objs.size≠e:=Yq3 (Yj ge)
 have pe:(g.push nb).get? e=some oe:=Yb nb ge
 have data:=Yh3 hd λr=>r.setIfInBounds 1 (Value.ref g.objs.size)
 have self:=Yu1 (Obj.mapFields λr=>r.setIfInBounds 1 (Value.ref g.objs.size)) pe (Yi3 data)
 have Zf3:∀ b o,b≠e->g.get? b=some o->((g.push nb).update e (Obj.mapFields λr=>r.setIfInBounds 1 (.ref g.objs.size))).get? b=some o:=λb o n q =>
  (Yg2 _ _ λz=>n z.symm).trans (Yb nb q)
 have tnew:(g.push nb).get? g.objs.size=some nb:=Ys g (Yi3 hnb)
 refine⟨⟨apart,⟨_,_,self,Obj.cls_mapFields _ _,Zku _ _,data,by simp[hsz]⟩,⟨nb,ts,(Yg2 _ _ λz=>apart z.symm).trans tnew,hnb,h3⟩⟩,⟨?_,λb o q n1 n2=>?_,λb o q n=>?_,λb o q=>?_⟩⟩
 ·rw[Heap.size_after_update,Ye2,sl.1]
  omega
 ·exact Zf3 b o (λz=>n2 (z ▸ Yp2)) ((sl.2.1 b n1).trans q)
 ·obtain⟨k,r⟩:=sl.2.2 b o q
  exact⟨k,Zf3 b _ (λz=>n (z ▸ Yp2)) r⟩
 ·obtain⟨k,r⟩:=sl.2.2 b o q
  by_cases z:b=e
  ·subst z;exact⟨_,self⟩
  ·exact⟨_,Zf3 b _ z r⟩
section
variable {M:Model}{A:Around}{E:EV}{s:Shared}
def Zrc{base:Heap}{env:Env}{outer:List Env}{L e:Addr}{oe:Obj}{vs:Array Value}{head:Value}{hadNext:Bool}{Q:Unit->Shared->Prop}
  (hfr:A.frames=some (env :: outer)) (hl:s.heap.FunFrames base (env :: outer)) (hf:env.frame=some L) (he:s.heap.get? e=some oe) (hd:oe.data=.fields vs) (hsz:1<vs.size)
  (h:∀ h' T,s.heap.objs.size<=T->Air h' e T oe.cls oe.dict (rawInt L)->Chg (frs (env :: outer)) [e] s.heap h'->Q () {s with heap:=h' }):
  wpAny M A (frameOf env>>=λa=>entryPlaceOf L hadNext>>=λpl=>EntryCells.newEntry head a .none (rawInt L) .none pl>>=λb=>setField (.ref e) 1 b) Q E s:=by
 have nf:e∉frs (env :: outer):=λm=>by
  have q:=(hl.mem m).2
  rw[he]at q
  obtain⟨_,r1,r2⟩:=q
  cases r1
  exact r2 vs hd
 apply Ja
 refine wpAny_frameOf_fun hfr hl hf λg1 sl1=>Ja (wpAny_entryPlaceOf λpl place=>Ja ?_)
 have three:∀ xs:LU,IsPlace xs->([head,Value.ref L,.none,rawInt L,.none]++(if xs.isEmpty then List.replicate 6 Value.none else xs)).toArray[3]?=some (rawInt L):=λxs _=>by simp
 have laid:=Chg.entry (nb:={cls:=.type "traceback",data:=.fields ([head,.ref L,.none,rawInt L,.none]++(if pl.isEmpty then List.replicate 6 Value.none else pl)).toArray}) sl1 nf he hd hsz rfl (three pl place)
 refine wpAny_newObj_type (wpAny_setField (Yb _ ((sl1.2.1 e nf).trans he)) hd hsz ?_) (place.sizeOk5 _ _ _ _ _)
 exact h _ _ (Nat.le_of_eq sl1.1.symm) laid.1 laid.2
def Zit{e T:Addr}{cls fl:Value}{dx:Option Addr}{Q:Unit->Shared->Prop}(a:Air s.heap e T cls dx fl)
  (h:∀ h',Air h' e T cls dx .none->Chg [] [T] s.heap h'->Q () {s with heap:=h' }):wpAny M A (setFlight (.ref e) none) Q E s:=by
 obtain⟨ne,⟨oe,vs,he,hc,hdx,hd,h1⟩,⟨oT,ts,hT,hdT,h3⟩⟩:=a
 obtain⟨hsz3,_⟩:=Yl3.mp h3
 have some_:(Value.ref T != Value.none)=true:=by simp
 unfold setFlight
 apply Ja
 apply Jg he hd h1
 rw[if_pos some_]
 refine wpAny_setField hT hdT hsz3 (h _ ⟨ne,⟨oe,vs,(Yg2 _ _ ne).trans he,hc,hdx,hd,h1⟩,⟨_,_,Yu1 _ hT (Yi3 (Yh3 hdT _)),Yh3 hdT _,by simp[hsz3]⟩⟩ (Chg.setF hT hdT))
def Zo0{base:Heap}{env:Env}{outer:List Env}{L e T:Addr}{cls:Value}{dx:Option Addr}{Q:Unit->Shared->Prop}
  (hfr:A.frames=some (env :: outer)) (hl:s.heap.FunFrames base (env :: outer)) (hf:env.frame=some L) (a:Air s.heap e T cls dx .none)
  (h:∀ h' T',s.heap.objs.size<=T'->Air h' e T' cls dx (rawInt L)->Chg (frs (env :: outer)) [e,T] s.heap h'->Q () {s with heap:=h' }):wpAny M A (noteFrame (.ref e) env) Q E s:=by
 obtain⟨ne,⟨oe,vs,he,hc,hdx,hd,h1⟩,⟨oT,ts,hT,hdT,h3⟩⟩:=a
 subst hc hdx
 have some_:(Value.ref T != Value.none)=true:=by simp
 have apart:¬ (Value.none == rawInt L)=true:=by simp[rawInt]
 have c1:Chg [] [T] s.heap (s.heap.update T (Obj.mapFields λr=>r.setIfInBounds 3 Value.none)):=Chg.setF hT hdT
 have kept:∀ b o,s.heap.get? b=some o->b≠T->(s.heap.update T (Obj.mapFields λr=>r.setIfInBounds 3 Value.none)).get? b=some o:=λb o q n=>c1.keep b o q (λz=>nomatch z) λz=>n (Yc.mp z)
 unfold noteFrame
 simp only[hf]
 apply Ja
 apply Jg he hd h1
 rw[if_pos some_]
 apply Ja
 apply Jg hT hdT h3
 rw[if_neg apart]
 apply Ja
 refine wpAny_setField hT hdT (Yl3.mp h3).1 ?_
 refine Zrc hfr (hl.of_keeps λb o q nf=>⟨o,kept b o q λz=>by subst z;rw[hT]at q;cases q;exact nf ts hdT,rfl⟩) hf (kept e oe he λz=>ne z.symm) hd (Yl3.mp h1).1 λh' T' hT' a' c'=>?_
 exact h h' T' (Yx c1.sz hT') a' ((c1.mono (λb z=>nomatch z) λb z=>by simp at z;simp[z]).trans (c'.mono (λb z=>z) λb z=>by simp at z;simp[z]))
def Zwy{base:Heap}{env:Env}{outer:List Env}{L e:Addr}{oe:Obj}{vs:Array Value}{Q:Unit->Shared->Prop}
  (hfr:A.frames=some (env :: outer)) (hl:s.heap.FunFrames base (env :: outer)) (hf:env.frame=some L) (he:s.heap.get? e=some oe) (hd:oe.data=.fields vs) (h1:vs[1]?=some .none)
  (h:∀ h' T,s.heap.objs.size<=T->Air h' e T oe.cls oe.dict .none->Chg (frs (env :: outer)) [e] s.heap h'->Q () {s with heap:=h' }):wpAny M A (leaving env (.ref e)) Q E s:=by
 unfold leaving noteFrame
 simp only[hf]
 apply Ja
 apply Ja
 apply Jg he hd h1
 rw[if_neg (by decide)]
 refine Zrc hfr hl hf he hd (Yl3.mp h1).1 λh' T hT a c=>?_
 refine Zit a λh2 a2 c2=>h h2 T hT a2 ?_
 have c3:Chg (frs (env :: outer)) [T,e] s.heap h2:=(c.mono (λb z=>z) λb z=>by simp at z;simp[z]).trans (c2.mono (λb z=>nomatch z) λb z=>by simp at z;simp[z])
 exact c3.drop hT
def Zy7{base:Heap}{env:Env}{outer:List Env}{L e T:Addr}{cls:Value}{dx:Option Addr}{Q:Unit->Shared->Prop}
  (hfr:A.frames=some (env :: outer)) (hl:s.heap.FunFrames base (env :: outer)) (hf:env.frame=some L) (a:Air s.heap e T cls dx .none)
  (h:∀ h' T',s.heap.objs.size<=T'->Air h' e T' cls dx .none->Chg (frs (env :: outer)) [e,T] s.heap h'->Q () {s with heap:=h' }):wpAny M A (leaving env (.ref e)) Q E s:=by
 unfold leaving
 refine Ja (Zo0 hfr hl hf a λh' T' hT a' c=>?_)
 refine Zit a' λh2 a2 c2=>h h2 T' hT a2 ?_
 have c3:Chg (frs (env :: outer)) [T',e,T] s.heap h2:=(c.mono (λb z=>z) λb z=>by simp at z;rcases z with z | z <;> simp[z]).trans (c2.mono (λb z=>nomatch z) λb z=>by simp at z;simp[z])
 exact c3.drop hT
end
def HOk.chg{P:Program}{w:World}{H:Hp}{h h':Heap}{S R:List Addr}(x:HOk P w H h)(c:Chg S R h h')(hS:∀ b∈S,H b=none)(hR:∀ b∈R,H b=none):HOk P w H h':=λa o e =>
 (x a o e).stay (λb u hb q=>by
  have hn:H b≠none:=by
   rcases hb with z | z
   ·rw[z,e];simp
   ·rw[z];simp
  exact c.keep b u q (λz=>hn (hS b z)) λz=>hn (hR b z)) (λ_ q=>q) λ_ _ q=>q
def Un.chg{fs ex S R:List Addr}{H:Hp}{h h':Heap}(c:Chg S R h h')(hS:∀ b∈S,b∈fs)(hR:∀ b∈R,b∈ex):Un fs ex H H h h' :=
 ⟨λb o e n hb hx=>c.keep b o e (λz=>hb (hS b z)) λz=>hx (hR b z),λb o e n hb hx=>c.slot b o e λz=>hx (hR b z),λ_ _ _ n _=>n,λb o e _=>c.there b o e,λ_ _ q=>q,λ_ _ _ q=>q,λ_ ps q=>⟨#[],by rw[q];simp⟩⟩
def CX1(P:Program)(w:World):CXT:=λouter H s E ev s'=>∃(e T:Addr) (cls:Value) (dx:Option Addr) (H':Hp),ev=.ref e/\s'.os=s.os/\AllBare s'.gens/\Un (frs outer) [] H H' s.heap s'.heap/\HOk P w H' s'.heap /\
 H' e=none/\H' T=none/\s.heap.objs.size<=e/\s.heap.objs.size<=T/\Air s'.heap e T cls dx .none/\E cls dx H'
structure Fns(X:Cx)(E:XK):Prop where
 xe:X.xe=λe s'=>wpAny (model X.prog X.w) X.A (leaving X.env e) (λ_ s''=>CX1 X.prog X.w X.outer X.H₀ X.s₀ E e s'') (λe' s''=>CX1 X.prog X.w X.outer X.H₀ X.s₀ E e' s'') s'
 stk:X.stack=X.env :: X.outer
 fr:X.env.frame=some X.env.locals
 ex:X.ex=[]
def Fns.of{P:Program}{w:World}{K:Fg}{mg:Str->OU}{base:Heap}{N:LS}{qual:Str}{scope:Scope}{f:Addr}{cd:Value}{A:Around}{outer:List Env}{s:Shared}{H:Hp}{E:XK} :
  Fns (Z0b (CX1 P w) P w K mg base N qual scope f cd A outer s H E) E:=⟨rfl,rfl,rfl,rfl⟩
section
variable {X:Cx}{pins:PL}{σ:St}{H:Hp}{s:Shared}{E:XK}{e T:Addr}{cls:Value}{dx:Option Addr}
def Fns.old(F:Fns X E)(f:Zkx X pins H e):X.s₀.heap.objs.size<=e:=by
 rcases f.2.2.2.1 with z | z
 ·rw[F.ex]at z;cases z
 ·exact z
def Fns.un{h':Heap}{R:List Addr}(F:Fns X E)(I:Inv X pins σ H s)(c:Chg (frs X.stack) R s.heap h')(hR:∀ b∈R,X.s₀.heap.objs.size<=b):Un X.fs [] X.H₀ H X.s₀.heap h':=by
 have B:=I.base
 have hx:∀ b,b∉X.ex:=λb z=>by rw[F.ex]at z;cases z
 have ns:∀ b o,X.s₀.heap.get? b=some o->b∉X.fs->b∉frs X.stack:=λb o q n z=>by
  rcases Yg1.mp (I.stkSub b z)with r | r
  ·exact absurd (Ya1 (Yj q) (by rw[r];exact I.ok.above)) (Yd3 _)
  ·exact n r
 have nr:∀ b o,X.s₀.heap.get? b=some o->b∉R:=λb o q z=>absurd (Ya1 (Yj q) (hR b z)) (Yd3 _)
 refine⟨λb o q n hb _=>c.keep b o (B.keep b o q n hb (hx b)) (ns b o q hb) (nr b o q),λb o q n hb _=>?_,λb o q n _=>B.free b o q n (hx b),λb o q _=>?_,B.tups,B.frzs,B.tbls⟩
 ·obtain⟨sl,e1⟩:=B.slot b o q n hb (hx b)
  obtain⟨sl',e2⟩:=c.slot b _ e1 (nr b o q)
  exact⟨sl',e2⟩
 ·obtain⟨o1,e1⟩:=B.there b o q (hx b)
  exact c.there b o1 e1
def Fns.leave(F:Fns X E)(I:Inv X pins σ H s)(fe:Zkx X pins H e)(fT:Zkx X pins H T)(a:Air s.heap e T cls dx .none)(h:E cls dx H):X.xe (.ref e) s:=by
 rw[F.xe]
 have hfr:X.A.frames=some (X.env :: X.outer):=by rw[<- F.stk];exact I.ok.frames
 have hl:s.heap.FunFrames X.base (X.env :: X.outer):=by rw[<- F.stk];exact I.stack
 refine Zy7 hfr hl F.fr a λh' T' hT' a' c=>?_
 rw[<- F.stk]at c
 exact⟨e,T',cls,dx,H,rfl,I.os,I.bare,F.un I c λb z=>by simp at z;rcases z with z | z <;> rw[z];exact F.old fe;exact F.old fT,
  I.hok.chg c I.stkFree (λb z=>by simp at z;rcases z with z | z <;> rw[z];exact fe.1;exact fT.1),fe.1,I.hok.fresh hT',F.old fe,Yx I.sz hT',a',h⟩
def Fns.raised{oe:Obj}{vs:Array Value}(F:Fns X E)(I:Inv X pins σ H s)(fe:Zkx X pins H e)(he:s.heap.get? e=some oe)(hd:oe.data=.fields vs)(h1:vs[1]?=some .none)(h:E oe.cls oe.dict H):X.xe (.ref e) s:=by
 rw[F.xe]
 have hfr:X.A.frames=some (X.env :: X.outer):=by rw[<- F.stk];exact I.ok.frames
 have hl:s.heap.FunFrames X.base (X.env :: X.outer):=by rw[<- F.stk];exact I.stack
 refine Zwy hfr hl F.fr he hd h1 λh' T' hT' a' c=>?_
 rw[<- F.stk]at c
 exact⟨e,T',oe.cls,oe.dict,H,rfl,I.os,I.bare,F.un I c λb z=>by simp at z;rw[z];exact F.old fe,
  I.hok.chg c I.stkFree (λb z=>by simp at z;rw[z];exact fe.1),fe.1,I.hok.fresh hT',F.old fe,Yx I.sz hT',a',h⟩
def Zmb(F:Fns X E):Zjj (CX1 X.prog X.w) X E:=by
 rintro pins σ H s ev s' I ⟨e,T,cls,dx,H',rfl,os,bare,un,hok,he,hT,se,sT,a,h⟩
 have I':Inv X pins σ H' s':=I.call' (ch:=[]) os un hok bare λb z=>nomatch z
 exact F.leave I' (I.fpOk se he) (I.fpOk sT hT) a h
end
def Zap.any{P:Program}{w:World}{K:Fg}{mg:Str->OU}{base:Heap}{CX:CXT}{k:Nat}{ps:LS}{sp:Sp}(F:Zap P w K mg base CX0 k f fd ps sp):Zap P w K mg base CX k f fd ps sp :=
 ⟨F.len,λA outer s H args us vs Q E hr he hb hv hs=>codeAny_mono (F.run A outer s H args us vs Q E hr he hb hv hs) λr s' hq=>by
  cases r with
  | error e=>exact False.elim hq
  | ok fl=>cases fl <;> exact hq⟩
def Fun.ok1{P:Program}{w:World}{K:Fg}{mg:Str->OU}{base:Heap}{x qual:Str}{st:Stmt}{N ps:LS}{k:Nat}{sp:Sp}(F:Fun K x qual st f fd)(S:Zak N ps (Zad st))(len:∀ vs H Q E,sp vs H Q E->vs.length=ps.length)
  (hbody:∀(cdv:Value) (A:Around) (outer:List Env) (s:Shared) (H:Hp) (vs:LV) (Q:VK) (E:XK),Zcb k (A.deeper (envOfC qual (Zad st) s.heap.objs.size f cdv))->sp vs H Q E ->
   ∃ t,PSs (Z0b (CX1 P w) P w K mg base N qual (Zad st) f cdv A outer s H E) (Za7 st) t/\t {nx:=λ_ H'=>Q .non H',rt:=Q} (start N vs) H):Zap P w K mg base (CX1 P w) (k + 1) f fd ps sp:=by
 obtain⟨oc,od,kV,doc,pm,an,cdv,ct,osl,rfl,lk,hcd⟩:=F.ex
 refine Z40 lk hcd S len λA outer s H vs Q E hr hsp=>?_
 exact hbody cdv A outer s H vs Q E hr hsp
end L2
namespace L2
open PySem PySem.Spec
structure ExC(K:Fg)(C:Addr):Prop where
 obj:∃ nm q N bs bm hdct sn sub ab col dd k0 k1 k2 k3 k5,K.lookup C=some (excClassObj nm q C N bs bm hdct sn sub ab col dd k0 k1 k2 k3 k5 "ValueError.__new__")
 val:W.subIn K (.ref C) (.type "ValueError")=some true
 bas:W.subIn K (.ref C) (.type "BaseException")=some true
 att:W.subIn K (.ref C) (.type "AttributeError")=some false
 nam:W.subIn K (.ref C) (.type "NameError")=some false
 kp:W.keepIn K (.ref C)=true
abbrev Zco(C t:Addr):Obj:={cls:=.ref C,data:=.fields #[.ref t,.none,.none,.none,.bool false,.none] }
abbrev Ze0(us:LU):Obj:={cls:=.type "tuple",data:=.seq us.toArray}
section
variable {K:Fg}{prog:Program}{w:World}{A:Around}{E:EV}{h:Heap}{g:Array GenState}{d:Drawn}{t:Nat}{os:OsState}{C:Addr}
def Zgj{nm q:Str}{N:Addr}{bs bm:LU}{hdct:Bool}{sn:LS}{sub:LU}{ab:Bool}{col:Option Bool}{dd:Option Addr}{k0 k1 k2 k3 k5:OU}{nid:String}{x:Value}{b:Bool}
  (l:K.lookup C=some (excClassObj nm q C N bs bm hdct sn sub ab col dd k0 k1 k2 k3 k5 nid)) (e:W.subIn K (.ref C) x=some b):(Value.ref C :: bm).contains x=b:=by
 have e2:((W.clsIn K C).bind λcd=>if cd.mro.isEmpty=true then none else some (cd.mro.contains x))=some b:=e
 have e3:W.clsIn K C=some {name:=nm,bases:=bs,mro:=.ref C :: bm,ns:=N,qualname:=q,hasDict:=hdct,slotNames:=sn,subclasses:=sub,abstract:=ab,collection:=col,hasDel:=false}:=by
  unfold W.clsIn
  rw[l]
 rw[e3]at e2
 exact Yq e2
def Z19{Zf3:LU}{R:Result->Shared->Prop}(X:K.In h)(c:ExC K C)(hrest:Zf3.length<=sizeLine)
  (hq:R (.ok (.ret (.ref (h.objs.size + 1)))) ⟨(h.push (Ze0 Zf3)).push (Zco C h.objs.size),g,d,t,os⟩):
  codeAny (model prog w) A (.builtin "ValueError.__new__" ⟨.ref C :: Zf3,[]⟩) R ⟨h,g,d,t,os⟩:=by
 obtain⟨nm,q,N,bs,bm,hdct,sn,sub,ab,col,dd,k0,k1,k2,k3,k5,lk⟩:=c.obj
 have Fv:=Yd4
 have cV:=Zgj lk c.val
 have cA:=Zgj lk c.att
 have cN:=Zgj lk c.nam
 have hC:=X _ _ lk
 have hends:=Fv.ends
 refine codeAny_builtinAt Fv.entry ?_
 unfold Builtin.«BaseException.__new__»
 apply PySem.wpAt_bind
 show PySem.wpAt _ _ _ (stack>>=_) _ _ _
 apply PySem.wpAt_bind
 refine PySem.wpAt_stack λp below=>PySem.wpAt_of_wpAny ?_
 wp_walk
 apply PySem.wpAt_of_wpAny
 rw[Fv.owner]
 repeat (first | with_reducible refine wpAny_madeHere_exc Fv.canon hC ?_ | with_reducible refine Ji hC ?_ | (with_reducible refine wpAny_isSubtype_exc hC ?_;first | rw[cV] | rw[cA] | rw[cN]) | wp_step)
 show R _ _
 rw[Ye2]
 exact hq
def Zro{Zf3:LU}{i:Value}{Q:EV}(X:K.In h)(c:ExC K C)(hi:W.findIn K (.ref C) "__init__"=some (some i))
  (hb:∀ self,W.Looks (model prog w) ((h.push (Ze0 Zf3)).push (Zco C h.objs.size)) (bindSpecial i self) (i,[self])) (hrest:Zf3.length<=sizeLine)
  (hq:codeAny (model prog w) (A.under (.builtin "type.__call__" ⟨.ref C :: Zf3,[]⟩)) (.call i ⟨.ref (h.objs.size + 1):: Zf3,[]⟩)
   (λr s'=>match r with | .ok (.ret v)=>v=.none/\Q (.ref (h.objs.size + 1)) s' | .ok _=>False | .error e=>E e s') ⟨(h.push (Ze0 Zf3)).push (Zco C h.objs.size),g,d,t,os⟩):
  wpAny (model prog w) A (call (.ref C) Zf3) Q E ⟨h,g,d,t,os⟩:=by
 obtain⟨nm,q,N,bs,bm,hdct,sn,sub,ab,col,dd,k0,k1,k2,k3,k5,lk⟩:=c.obj
 have Fv:=Yd4
 have cV:=Zgj lk c.val
 have cS:(Value.ref C :: bm).contains (.ref C)=true:=by simp
 have hC:=X _ _ lk
 have up:∀ b o,h.get? b=some o->((h.push (Ze0 Zf3)).push (Zco C h.objs.size)).get? b=some o:=λb o e=>Yb _ (Yb _ e)
 have X1:K.In ((h.push (Ze0 Zf3)).push (Zco C h.objs.size)):=X.keeps up
 have hC1:=X1 _ _ lk
 have got:((h.push (Ze0 Zf3)).push (Zco C h.objs.size)).get? (h.objs.size + 1)=some (Zco C h.objs.size):=Yq4 (by rw[Ye2]) rfl
 have f1:=tc_lookup
 have f2:=tc_bind (.ref C)
 have hT:(⟨h,g,d,t,os⟩:Shared).TypeIs (.ref C) "type":=⟨_,hC,rfl⟩
 have hstar:=Fv.noStar
 apply wpAny_call
 apply codeAny_of_tree
 show wpAny _ _ (callAny (.ref C) _) _ _ _
 repeat (any_goals (first | assumption | with_reducible refine Ji hC ?_ | wp_step))
 constructor
 ·rfl
 apply codeAny_call_builtin_at (Code.quiet_builtin _ (by rfl')) entry_typeCall
 apply wpAny_check_type_call_sub hC
 repeat (first | with_reducible refine Ji hC ?_ | with_reducible refine wpAny_madeBy_exc hC ?_ | wp_step)
 apply codeAny_call_builtin_code (Code.quiet_builtin _ Fv.quiet)
 simp only[checkBuiltinCall,Fv.newKind,Fv.newSplit,Fv.newRow]
 repeat (first | refine Ji hC ?_ | (refine wpAny_isSubtype_exc hC ?_;rw[cV]) | refine wpAny_staticBase_exc hC ?_ | refine wpAny_madeBy_exc hC ?_ | simp only[bne_self_eq_false,Bool.false_eq_true,if_false] | wp_step)
 apply Z19 X c hrest
 show wpAny _ _ _ _ _ _
 apply Ja
 unfold isInstance
 repeat (first | with_reducible refine Ji got ?_ | (with_reducible refine wpAny_isSubtype_exc hC1 ?_;rw[cS]) | wp_step)
 refine(W.looks_findIn (M:=model prog w) X1 hi).here ?_
 apply Jj
 apply Ja
 refine(hb (.ref (h.objs.size + 1))).here ?_
 apply Ja
 apply wpAny_call
 refine codeAny_mono hq λr s' q=>?_
 cases r with
 | error e=>exact q
 | ok f =>
  cases f with
  | ret v =>
   obtain⟨rfl,q⟩:=q
   apply Jd
   show wpAny _ _ (ret (.ref (h.objs.size + 1))) _ _ _
   exact Jd q
  | next=>exact q.elim
  | brk=>exact q.elim
  | cont=>exact q.elim
def Zom{Zf3:LU}{R:Result->Shared->Prop}{e t0:Addr}(X:K.In h)(c:ExC K C)(he:h.get? e=some (Zco C t0))(hrest:Zf3.length<=sizeLine)
  (hq:R (.ok (.ret .none)) ⟨(h.push (Ze0 Zf3)).update e (Obj.mapFields (·.setIfInBounds 0 (.ref h.objs.size))),g,d,t,os⟩):
  codeAny (model prog w) A (.call (.builtin "ValueError.__init__") ⟨.ref e :: Zf3,[]⟩) R ⟨h,g,d,t,os⟩:=by
 obtain⟨nm,q,N,bs,bm,hdct,sn,sub,ab,col,dd,k0,k1,k2,k3,k5,lk⟩:=c.obj
 have Fv:=Yd4
 have cV:=Zgj lk c.val
 have hC:=X _ _ lk
 have hshort:=Fv.noStar
 have chk:∀(a b:String) (n:Nat),Bind.check ⟨.positional,"*","ValueError",.self,[⟨"args",.varPos,false⟩]⟩ a b n (List.map (λx=>x.fst) ({pos:=Value.ref e :: Zf3}:Args).kw)=pure ():=λa b n=>check_star_args _ _ _ _ _ _
 have he1:(h.push (Ze0 Zf3)).get? e=some (Zco C t0):=Yb _ he
 apply codeAny_call_builtin Fv.init.plain Fv.initEntry
 simp only[checkBuiltinCall,Fv.initKind,Fv.initSplit,Fv.initRow]
 repeat (first | with_reducible refine Ji he ?_ | with_reducible refine Ji hC ?_ | (with_reducible refine wpAny_isSubtype_exc hC ?_;rw[cV]) | wp_step)
 apply wpAny_onRaise
 rw[chk]
 apply Jd
 wp_walk
 exact hq
def Zk7{env:Env}{x:Str}{np cpos pos:Pos}{args:List Expr}{s:Shared}{Q:Flow->Shared->Prop}(c:ExC K C)(hh:A.handled=none)
  (h1:wpAny (model prog w) A (eval (.Call (.Name x np) args [] cpos) env) (λv s₁=>∃ e t0 dx sl,v=.ref e/\K.In s₁.heap /\
   s₁.heap.get? e=some ⟨.ref C,dx,.fields #[.ref t0,.none,.none,.none,.bool false,.none],sl⟩/\E (.ref e) s₁) E s):
  wpAny (model prog w) A (exec (.Raise (some (.Call (.Name x np) args [] cpos)) none pos) env) Q E s:=by
 obtain⟨nm,q,N,bs,bm,hdct,sn,sub,ab,col,dd,k0,k1,k2,k3,k5,lk⟩:=c.obj
 have cB:=Zgj lk c.bas
 rw[arm_exec_Raise]
 apply Ja
 apply wpAny_standAt
 unfold raiseStmt
 apply Ja
 show wpAny _ _ (do let v <- eval (.Call (.Name x np) args [] cpos) env;standAt pos;pure v) _ _ _
 apply Ja
 refine Jf h1 (λv s₁ h₁=>?_) λ_ _ z=>z
 apply Ja
 apply wpAny_standAt
 apply Jd
 obtain⟨e,t0,dx,sl,rfl,X,he,hE⟩:=h₁
 obtain⟨hp,g,d,tk,os⟩:=s₁
 have hC:=X _ _ lk
 repeat (first | with_reducible refine Ji he ?_ | with_reducible refine Ji hC ?_ | (with_reducible refine wpAny_isSubtype_exc hC ?_;rw[cB]) | wp_step)
 exact wpAny_raiseNew_none hh hE
end
end L2
namespace L2
open PySem PySem.Spec PySem.Builtin PySem.Builtin.ObjectAttr PySem.W
structure ExA(K:Fg)(C:Addr):Prop extends ExC K C where
 ga:W.findIn K (.ref C) "__getattribute__"=some (some (.builtin "BaseException.__getattribute__"))
 gt:W.findIn K (.ref C) "__getattr__"=some none
 ca:W.findIn K (.ref C) "__class__"=some (some (.builtin "object.__class__"))
 cg:W.specialIn K (.builtin "object.__class__") "__get__"=some (some (.builtin "getset_descriptor.__get__"))
 ct:W.takesIn K (.builtin "object.__class__")=some true
 ob:W.mroIn K C (.type "object")=some true
section
variable {K:Fg}{prog:Program}{w:World}{A:Around}{E:EV}{h:Heap}{g:Array GenState}{d:Drawn}{t:Nat}{os:OsState}{x C:Addr}{ox:Obj}{od:Option Obj}{name:Str}
def Zv6{nameV:Value}{M:Model}{Q:Unit->Shared->Prop}(X:K.In h)(c:ExC K C)(I:W.InstAt h x ox C od)(hq:Q () ⟨h,g,d,t,os⟩):
  wpAny M A (checkBuiltinCall "BaseException.__getattribute__" ⟨[.ref x,nameV],[]⟩) Q E ⟨h,g,d,t,os⟩:=by
 have hk:builtinKind "BaseException.__getattribute__"=some .slot:=by rfl'
 have hs:splitId "BaseException.__getattribute__"=some ("BaseException","__getattribute__"):=by rfl'
 have ha:=PySem.F.args_bexc_ga (.ref x) nameV
 have hi:W.Looks M h (isInstance (.ref x) (.type "BaseException")) true:=I.type.andThen (W.looks_subIn X c.bas)
 simp only[checkBuiltinCall,hk,hs]
 apply Ja
 apply hi.at
 simp only[Bool.not_true,Bool.false_eq_true,if_false]
 exact wpAny_of_eq ha hq
def Zv5{tk:Tok}{Q:Fin->Shared->Prop}{f:Found}(X:K.In h)(I:W.InstAt h x ox C od)(hf:W.Looks (model prog w) h (find (.ref x) (.ref C) name) f)
  (hq:wpAny (model prog w) A (match f with | .value v=>ret v | .bind g a=>bindTo g a (.ref x) (.ref C) | .missing=>unsupported "") Q E ⟨h,g,d,t,os⟩) (hm:f≠.missing):
  wpAny (model prog w) A (Builtin.«object.__getattribute__» ⟨[.ref x,.str name tk],[]⟩) Q E ⟨h,g,d,t,os⟩:=by
 have L0:=I.type (M:=model prog w)
 unfold Builtin.«object.__getattribute__»
 apply Ja
 apply Jd
 apply Ja
 apply Jd
 apply Ja
 apply L0.at
 apply Ja
 apply hf.at
 cases f with
 | value v=>exact hq
 | bind a b=>exact hq
 | missing=>exact absurd rfl hm
def Zz6{tk:Tok}{fill expr:Bool}{Q:EV}{f:Found}{v:Value}(X:K.In h)(c:ExA K C)(I:W.InstAt h x ox C od)(hf:W.Looks (model prog w) h (find (.ref x) (.ref C) name) f)(hm:f≠.missing)
  (hq:∀ {A:Around} {E:EV} {Q:Fin->Shared->Prop},Q (.done (.ret v)) ⟨h,g,d,t,os⟩->wpAny (model prog w) A (match f with | .value v=>ret v | .bind g a=>bindTo g a (.ref x) (.ref C) | .missing=>unsupported "") Q E ⟨h,g,d,t,os⟩)
  (hh:handedIn v=true) (hv:Q v ⟨h,g,d,t,os⟩):wpAny (model prog w) A (getAttrBy (.ref x) (.str name tk) fill expr) Q E ⟨h,g,d,t,os⟩:=by
 have L0:=I.type (M:=model prog w)
 have L1:=looks_findIn (M:=model prog w) X c.ga
 have L2:=looks_findIn (M:=model prog w) X c.gt
 have hx0:(expr&&onTheHeap (Value.builtin "BaseException.__getattribute__"))=false:=by cases expr <;> rfl
 have apart:(onTheHeap (Value.ref C)&&Value.builtin "BaseException.__getattribute__" == Value.builtin "object.__getattribute__")=false:=by
  rw[show(Value.builtin "BaseException.__getattribute__" == Value.builtin "object.__getattribute__")=false from by rfl'];rfl
 have f3:=PySem.F.attrBase_ValueError.ga.bind (.ref x)
 have body:∀ {A:Around} {R:Result->Shared->Prop},R (.ok (.ret v)) ⟨h,g,d,t,os⟩->codeAny (model prog w) A (.call (.builtin "BaseException.__getattribute__") ⟨[.ref x,.str name tk],[]⟩) R ⟨h,g,d,t,os⟩:=λ{A R} r =>
  codeAny_call_builtin PySem.F.attrBase_ValueError.ga.plain PySem.F.entry_bexc_ga (Zv6 X c.toExC I (Zv5 X I hf (hq r) hm))
 unfold getAttrBy
 apply Jj
 apply Ja
 apply L0.at
 apply Ja
 apply L1.at
 show wpAny _ _ (if(onTheHeap (Value.ref C)&&Value.builtin "BaseException.__getattribute__" == Value.builtin "object.__getattribute__")=true then _ else getAttrByItsOwn (.ref x) (.str name tk) (.ref C) (.builtin "BaseException.__getattribute__") fill expr) _ _ _
 rw[if_neg (by rw[apart];exact Yg)]
 unfold getAttrByItsOwn
 apply Ja
 show wpAny _ _ (typeLookup (.ref C) "__getattr__") _ _ _
 apply L2.at
 apply Ja
 apply wpAny_attempt
 apply Jj
 unfold callGetattribute
 rw[if_neg (by rw[hx0];exact Yg)]
 unfold boundAndCalled
 apply Ja
 refine wpAny_of_eq f3 ?_
 refine wpAny_call (body ?_)
 show wpAny _ _ (handedOut v) _ _ _
 rw[handedOut_of hh]
 exact Jd hv
def Z2a(c:ExA K C):KitX K (.ref x) (.ref C) (λh=>InstAt h x ox C od) where
 ty:=λ_ _ _ I=>I.type
 it:=λ_ _ X _=>by
  obtain⟨nm,q,N,bs,bm,hdct,sn,sub,ab,col,dd,k0,k1,k2,k3,k5,lk⟩:=c.obj
  intro A' Q' E' s' k q
  unfold isType loadHead
  apply Ja
  apply wpAny_loadPart (k _ _ (X _ _ lk))
  exact Jd q
 ne:=λh tp dd its n sl X e=>by
  obtain⟨nm,q,N,bs,bm,hdct,sn,sub,ab,col,dd,k0,k1,k2,k3,k5,lk⟩:=c.obj
  have hC:=X _ _ lk
  refine Bool.eq_false_iff.mpr λz=>?_
  have z:C=tp:=Value.ref.inj (beq_iff_eq.mp z)
  rw[z,e]at hC
  have q1:Value.type "tuple"=Value.type "type":=congrArg (λo=>Option.elim o Value.none Obj.cls) hC
  exact absurd q1 (by decide)
 ca:=λ{prog w A E Q s} X I q=>by
  obtain⟨hh,g,d,t,os⟩:=s
  have hcls:∃ cd,clsIn K C=some cd:=by
   obtain⟨nm,q,N,bs,bm,hdct,sn,sub,ab,col,dd,k0,k1,k2,k3,k5,lk⟩:=c.obj
   unfold clsIn
   rw[lk]
   exact⟨_,rfl⟩
  obtain⟨cd,hcd⟩:=hcls
  have hf:findObj K C od "__class__"=some (.bind (.builtin "getset_descriptor.__get__") (.builtin "object.__class__")):=by
   unfold findObj
   rw[hcd,c.ca]
   dsimp only[Option.bind]
   rw[c.cg]
   dsimp only
   rw[c.ct]
  unfold getAttr? getAttrBy?
  apply Ja
  apply wpAny_mkText
  apply Ja
  apply wpAny_attempt
  refine Zz6 X c I (looks_find X I hf) (λz=>nomatch z) (λ{A E Q} r=>?_) rfl (Jd q)
  show wpAny _ _ (bindTo (.builtin "getset_descriptor.__get__") (.builtin "object.__class__") (.ref x) (.ref C)) _ _ _
  unfold bindTo
  show wpAny _ _ (holding [.builtin "object.__class__"] (call (.builtin "getset_descriptor.__get__") [.builtin "object.__class__",.ref x,.ref C])>>=ret) _ _ _
  apply Ja
  apply Jj
  exact wpAny_call (class_get (ox:=ox) (od:=od) X I c.ob (Jd r))
end
end L2
namespace L2
open PySem PySem.Spec PyProof.Rows
def XO(e C:Addr)(dx:Option Addr):HO:=.ext λh=>∃ o,h.get? e=some o/\o.cls=.ref C/\o.dict=dx/\W.notCls o=true
abbrev TF:=St->Hp->(Hp->Prop)->Prop
def PF(X:Cx)(e:Expr)(t:TF):Prop:=∀(pins:PL) (s:Shared) (σ:St) (H:Hp) (Q:Hp->Prop),Inv X pins σ H s->t σ H Q ->
 wpAny (model X.prog X.w) X.A (eval e X.env) (λu s'=>∃ y tk H',u=.str y tk/\y.length<=100000/\Inv X pins σ H' s'/\Q H') X.xe s
def PFs(X:Cx)(es:List Expr)(t:TF):Prop:=∀(pins:PL) (s:Shared) (σ:St) (H:Hp) (Q:Hp->Prop) (acc:Str) (j:Nat),Inv X pins σ H s->acc.length<=100000 * j->j + es.length<=100->t σ H Q ->
 Joins (model X.prog X.w) X.A X.xe (evalEach es X.env) acc (λout s'=>∃ H',out.length<=10000000/\Inv X pins σ H' s'/\Q H') s
section
variable {X:Cx}{e:Expr}{es:List Expr}{te:TE}{t u:TF}{pos:Pos}
def Z97(x:Str):TF:=λ_ H Q=>x.length<=100000/\Q H
def Znq{x j}:PF X (.Constant (.str x) j pos) (Z97 x):=λ_ _ _ H _ I h=>Calls.Constant_str ⟨x,_,H,rfl,h.1,I.tok _,h.2⟩
def Z96(te:TE):TF:=λσ H Q=>te σ H λv H1=>∃ i:Int,v=.int i/\i.natAbs<2 ^ 64/\Q H1
def Zvz{i:Int}(h:i.natAbs<2 ^ 64):i.natAbs.log2<1920:=by
 by_cases z:i.natAbs=0
 ·rw[z];decide
 ·exact Nat.lt_trans ((Nat.log2_lt z).mpr h) (by decide)
def Z1v{i:Int}(h:i.natAbs<2 ^ 64):(Str.ofString (toString i)).length<=100000:=by
 have e:=PySem.int_text_length_le (k:=1920) (by decide) (Zvz h)
 rw[PySem.ofString_length]
 omega
def Zzs(he:PE X e te):PF X (.FormattedValue e (-1) none pos) (Z96 te):=by
 ac_rfl
 refine wpAny_FormattedValue_plain (thn (he pins s σ H _ I h) λv s1 ⟨x,H1,I1,r1,i,ex,hi,q⟩=>?_)
 subst ex
 obtain⟨t,rfl⟩:=r1
 exact wpAny_formatField_int (Zvz hi) ⟨_,_,H1,rfl,Z1v hi,I1.tok _,q⟩
def Z6u(te:TE):TF:=λσ H Q=>te σ H λv H1=>∃ x:Str,v=.str x/\x.length<=1000/\(∀ c∈x.cps.toList,c<16 ^ 8)/\Q H1
def Z01(he:PE X e te):PF X (.FormattedValue e 114 none pos) (Z6u te):=by
 ac_rfl
 refine wpAny_FormattedValue_repr (thn (he pins s σ H _ I h) λv s1 ⟨x,H1,I1,r1,y,ex,hl,hc,q⟩=>?_)
 subst ex
 obtain⟨t,rfl⟩:=r1
 have b:=StrLaws.reprText_len y hc
 have b1:(reprText y).length<=100000:=by omega
 have b2:(reprText y).length<=sizeLine:=Yx b1 (by decide)
 refine pyReprObj_str (wpAny_formatField_str ?_ ?_ b2) b2
 ·exact⟨_,_,H1,rfl,b1,I1.tok _,q⟩
 ·exact⟨_,_,H1,rfl,b1,I1.tok _,q⟩
def Z95:TF:=λ_ H Q=>Q H
def Z94(t u:TF):TF:=λσ H Q=>t σ H λH1=>u σ H1 Q
def Zpk:PFs X [] Z95:=λpins s σ H Q acc j I ha hj h=>⟨H,by simp at hj;exact Yx ha (Yx (Nat.mul_le_mul_left _ hj) (by decide)),I,h⟩
def Zft(h1:PF X e t)(h2:PFs X es u):PFs X (e :: es) (Z94 t u):=by
 intro pins s σ H Q acc j I ha hj h
 show wpAny _ _ (eval e X.env) _ _ s
 refine thn (h1 pins s σ H _ I h) λv s1 ⟨y,tk,H1,ev,hy,I1,q⟩=>?_
 have hl:(acc++y).length<=100000 * (j + 1):=by rw[strLen_append];omega
 have hj':j + 1 + es.length<=100:=by simp at hj;omega
 refine⟨y,tk,ev,Yx hl (Yx (Nat.mul_le_mul_left _ (show j + 1<=100 by omega)) (by decide)),?_⟩
 exact h2 pins s1 σ H1 Q _ (j + 1) I1 hl hj' q
def tFs(t:TF):TE:=λσ H Q=>t σ H λH1=>∀ x:Str,Q (.str x) H1
def Zpm{v1 v2:Expr}{Zf3:List Expr}(h:PFs X (v1 :: v2 :: Zf3) t)(hl:(v1 :: v2 :: Zf3).length<=100:=by decide):PE X (.JoinedStr (v1 :: v2 :: Zf3) pos) (tFs t):=by
 intro pins s σ H Q I hq
 apply wpAny_JoinedStr
 have z:=h pins s σ H _ Str.empty 0 I (Yv _) (by simpa using hl) hq
 have mono:∀(l:List (Sem Value)) (acc:Str) (P P':Str->Shared->Prop) (s:Shared),(∀ o s',P o s'->P' o s')->Joins (model X.prog X.w) X.A X.xe l acc P s->Joins (model X.prog X.w) X.A X.xe l acc P' s:=by
  intro l
  induction l with
  | nil=>intro acc P P' s f q;exact f _ _ q
  | cons a r ih =>
   intro acc P P' s f q
   exact thn (show wpAny _ _ a _ _ s from q) λv s1 ⟨y,tk,e1,e2,e3⟩=>⟨y,tk,e1,e2,ih _ P P' s1 f e3⟩
 exact mono _ _ _ _ _ (λo s' ⟨H',l,I',q'⟩=>⟨Yx l (by decide),⟨.str o,H',I'.tok _,⟨_,rfl⟩,q' o⟩⟩) z
end
section
variable {X:Cx}{E:XK}{C:Addr}{x:Str}{np cpos pos:Pos}{e:Expr}{es:List Expr}{t:TA}
def tRz(E:XK)(C:Addr)(t:TA):TS:=λ_ σ H=>t σ H λvs H1=>vs.length<=sizeLine/\E (.ref C) none H1
def Zyw{K:Fg}{prog:Program}{w:World}{A:Around}{E:EV}{s:Shared}{us:LU}{Q:EV}(X:K.In s.heap)(c:ExC K C)(hi:W.findIn K (.ref C) "__init__"=some (some (.builtin "ValueError.__init__")))(hl:us.length<=sizeLine)
  (h:∀ h' t0,(∀ b o,s.heap.get? b=some o->h'.get? b=some o)->h'.get? (s.heap.objs.size + 1)=some (Zco C t0)->Q (.ref (s.heap.objs.size + 1)) {s with heap:=h' }):
  wpAny (model prog w) A (call (.ref C) us) Q E s:=by
 obtain⟨hp,g,d,tk,os⟩:=s
 dsimp only at X h ⊢
 refine Zro X c hi (λself=>W.Looks.of_pure (PySem.F.excBase_ValueError.init.bind self)) hl ?_
 have up:∀ b o,hp.get? b=some o->((hp.push (Ze0 us)).push (Zco C hp.objs.size)).get? b=some o:=λb o q=>Yb _ (Yb _ q)
 have got:((hp.push (Ze0 us)).push (Zco C hp.objs.size)).get? (hp.objs.size + 1)=some (Zco C hp.objs.size):=Yq4 (by rw[Ye2]) rfl
 refine Zom (t0:=hp.objs.size) (X.keeps up) c got hl ⟨rfl,h _ ((hp.push (Ze0 us)).push (Zco C hp.objs.size)).objs.size (λb o q=>?_) ?_⟩
 ·have nb:b≠hp.objs.size + 1:=Yc1 (Nat.lt_succ_of_lt (Yj q))
  rw[Yg2 _ _ (Ym nb)]
  exact Yb _ (up b o q)
 ·rw[Yu1 _ (Yb _ got) rfl]
  rfl
def Zl9(F:Fns X E)(hh:X.A.handled=none)(c:ExC X.K C)(hi:W.findIn X.K (.ref C) "__init__"=some (some (.builtin "ValueError.__init__")))(hg:Gl X x)(hm:X.mg x=some (.ref C))(ha:PA X (e :: es) t)
  (hdb:(x == ("__debug__":Str))=false:=by decide) (he:starEach (e :: es) X.env=(false,eval e X.env):: starEach es X.env:=by rfl) (hpl:(backTo cpos (starEach es X.env)).any (·.1)=false:=by rfl):
  PS X (.Raise (some (.Call (.Name x np) (e :: es) [] cpos)) none pos) (tRz E C t):=by
 intro pins s σ H D I h
 refine Zk7 c hh (wpAny_Call_Name_kw (Zha I hg hm ?_ hdb))
 refine W.callWith_K (h₀:=X.base) I.ok.mod.kin c.kp (thn (ha cpos pins s σ H _ I h) λus s1 ⟨vs,H1,I1,r,hl,q⟩=>⟨I1.kIn,?_⟩) he hpl
 refine Zyw I1.kIn c hi (by rw[List.nil_append,<- r.length];exact hl) λh' t0 k got=>?_
 have I2:Inv X pins σ H1 {s1 with heap:=h' }:=I1.kept (t':=s1.toks) k
 refine⟨_,t0,none,#[],rfl,I2.kIn,got,?_⟩
 exact F.raised I2 (I1.fpOk (Yp3 _) (I1.hok.fresh (Yp3 _))) got rfl rfl q
end
section
variable {X:Cx}{pins:PL}{σ:St}{H:Hp}{s:Shared}{A:Around}{E:EV}{Q:EV}{e C:Addr}{dx:Option Addr}{cv:Value}{b:Bool}
def Zkv(H:Hp)(dx:Option Addr):Prop:=dx=none\/∃ a fs,dx=some a/\H a=some (.xd fs)
def Z0g(I:Inv X pins σ H s)(hx:H e=some (XO e C dx))(hd:Zkv H dx):∃ ox od,W.InstAt s.heap e ox C od:=by
 have q:Zb6 X.prog X.w H s.heap e (XO e C dx):=I.hok e _ hx
 obtain⟨⟨o,h1,h2,h3,h4⟩,_⟩:=q
 rcases hd with hd | ⟨a,fs,hd,ha⟩
 ·exact⟨o,none,⟨h1,h2,h4,by rw[h3,hd];trivial⟩⟩
 ·have q:Zb6 X.prog X.w H s.heap a (.xd fs):=I.hok a _ ha
  obtain⟨mA,⟨oa,es,ep,e1,_⟩,_⟩:=q
  exact⟨o,some oa,⟨h1,h2,h4,by rw[h3,hd];exact e1⟩⟩
def Zsw(I:Inv X pins σ H s)(hx:H e=some (XO e C dx))(hd:Zkv H dx)(c:ExA X.K C)(k:W.kitOne X.K (.ref C) cv=some b)(h:∀ tk,Q (.bool b) {s with toks:=tk}):
  wpAny (model X.prog X.w) A (call (.builtin "isinstance") [.ref e,cv]) Q E s:=by
 obtain⟨ox,od,J⟩:=Z0g I hx hd
 exact W.kia_one (Z2a (ox:=ox) (od:=od) c) I.kIn J k (λz=>nomatch z) h
end
abbrev XKs:=Value->Option Addr->St->Hp->Prop
abbrev TSx:=Ztf->XKs->St->Hp->Prop
abbrev TEx:=St->Hp->VK->XK->Prop
def XP(X:Cx)(pins:PL)(E:XKs)(ev:Value)(s':Shared):Prop:=∃(e T:Addr) (cls:Value) (dx:Option Addr) (σ':St) (H':Hp),ev=.ref e/\Inv X pins σ' H' s'/\Zkx X pins H' e/\Zkx X pins H' T/\Air s'.heap e T cls dx .none/\E cls dx σ' H'
def PEx(X:Cx)(e:Expr)(t:TEx):Prop:=∀(pins:PL) (s:Shared) (σ:St) (H:Hp) (Q:VK) (E:XK),Inv X pins σ H s->t σ H Q E ->
 wpAny (model X.prog X.w) X.A (eval e X.env) (EP X pins σ Q) (XP X pins λc d σ' H'=>σ'=σ/\E c d H') s
def PSx(X:Cx)(st:Stmt)(t:TSx):Prop:=∀(pins:PL) (s:Shared) (σ:St) (H:Hp) (D:Ztf) (E:XKs),Inv X pins σ H s->t D E σ H->wpAny (model X.prog X.w) X.A (exec st X.env) (SP X pins D) (XP X pins E) s
def Z5n(X:Cx)(st:List Stmt)(t:TSx):Prop:=∀(pins:PL) (s:Shared) (σ:St) (H:Hp) (D:Ztf) (E:XKs),Inv X pins σ H s->t D E σ H->wpAny (model X.prog X.w) X.A (execs st X.env) (SP X pins D) (XP X pins E) s
section
variable {X:Cx}{st:Stmt}{Zf3:List Stmt}{t u:TSx}{e:Expr}{te:TEx}{pos:Pos}
def Zib(h1:PSx X st t):Z5n X [st] t:=by
 intro pins s σ H D E I h
 refine wpAny_execs_cons (thn (h1 pins s σ H D E I h) λf s1 q=>?_)
 cases f with
 | next=>exact wpAny_execs_nil q
 | ret v=>exact q
 | brk=>exact q
 | cont=>exact q
def Z5q(te:TEx):TSx:=λD E σ H=>te σ H (λ_ H1=>D.nx σ H1) λc d H1=>E c d σ H1
def Z0f{pins:PL}{E E':XKs}(f:∀ c d σ H,E c d σ H->E' c d σ H){ev:Value}{s':Shared}(h:XP X pins E ev s'):XP X pins E' ev s':=by
 obtain⟨e,T,cls,dx,σ',H',r,I,fe,fT,a,q⟩:=h
 exact⟨e,T,cls,dx,σ',H',r,I,fe,fT,a,f _ _ _ _ q⟩
def Zl7(he:PEx X e te)(hs:swapsWith e none pos.line X.env=pure false:=by rfl):PSx X (.Expr e pos) (Z5q te):=by
 intro pins s σ H D E I h
 refine wpAny_Expr_any (Jf (he pins s σ H _ _ I h) (λv s1 ⟨x,H1,I1,r1,q1⟩=>⟨σ,H1,I1,q1⟩) λev s1 z=>Z0f (λc d σ' H' q=>?_) z) I.quiet hs
 obtain⟨rfl,q⟩:=q
 exact q
def xIf(c:TT)(t u:TSx):TSx:=λD E σ H=>c σ H λb H1=>if b=true then t D E σ H1 else u D E σ H1
def Zzp{c:Expr}{a b:List Stmt}{tc:TT}(hc:PT X.nox c tc)(ha:Z5n X a t)(hb:Z5n X b u):PSx X (.If c a b pos) (xIf tc t u):=by
 intro pins s σ H D E I h
 refine wpAny_If (Jf (hc pins s σ H _ (I.wish _) h) (λd s1 ⟨H1,I1,q1⟩=>?_) λ_ _ z=>False.elim z)
 cases d with
 | true=>exact ha pins s1 σ H1 D E I1.unwish q1
 | false=>exact hb pins s1 σ H1 D E I1.unwish q1
end
section
variable {X:Cx}{k:Nat}{f C:Addr}{fd:FuncData}{ps:LS}{sp:Sp}{dvs:LV}{ds:LU}{x m:Str}{p pos apos:Pos}{e o:Expr}{es:List Expr}{ta:TE}{t:TA}
def Z0r{pins:PL}{σ:St}{H:Hp}{s:Shared}{Q:VK}{E:XK}{us:LU}{vs:LV}(F:Zap X.prog X.w X.K X.mg X.base (CX1 X.prog X.w) k f fd ps sp)(hr:Zcb k X.A)(hb:Zeh X.K fd ps [])
  (I:Inv X pins σ H s) (r:Zb0 vs us) (h:sp vs H Q E):wpAny (model X.prog X.w) X.A (call (.ref f) us) (EP X pins σ Q) (XP X pins λc d σ' H'=>σ'=σ/\E c d H') s:=by
 have hl:(us++[]).length=ps.length:=by rw[Yn1,<- r.length];exact F.len _ _ _ _ h
 have b:=hb s us I.kIn hl
 rw[Yn1]at b
 refine wpAny_call (codeAny_mono (F.run X.A X.stack s H ⟨us,[]⟩ us vs Q E hr I.env0 b r h) λr s' hq=>?_)
 cases r with
 | error e =>
  obtain⟨e,T,cls,dx,H',rfl,os,bare,un,hok,he,hT,se,sT,a,q⟩:=hq
  exact⟨e,T,cls,dx,σ,H',rfl,I.call' (ch:=[]) os un hok bare (λb z=>nomatch z),I.fpOk se he,I.fpOk sT hT,a,rfl,q⟩
 | ok fl =>
  cases fl with
  | ret u=>exact I.after hq
  | next=>exact False.elim hq
  | brk=>exact False.elim hq
  | cont=>exact False.elim hq
def Z5r(sp:Sp)(t:TA):TEx:=λσ H Q E=>t σ H λvs H1=>sp vs H1 Q E
def Z06{pins:PL}{s:Shared}{σ:St}{H:Hp}{Q:LV->Hp->Prop}{E:EV}(ha:PA X.nox es t)(I:Inv X pins σ H s)(h:t σ H Q):
  wpAny (model X.prog X.w) X.A (spliced (backTo pos (starEach es X.env))) (AP X pins σ Q) E s :=
 Jf (ha pos pins s σ H Q (I.wish _) h) (λ_ _ ⟨vs,H',I',r,q⟩=>⟨vs,H',I'.unwish,r,q⟩) λ_ _ z=>False.elim z
def Zma{st:Stmt}(d:Def X.K X.mg x st ps f fd)(F:Zap X.prog X.w X.K X.mg X.base (CX1 X.prog X.w) k f fd ps sp)(hr:Zcb k X.A)(hg:Gl X x)(ha:PA X.nox (e :: es) t)(hdb:(x == ("__debug__":Str))=false:=by decide)
  (he:starEach (e :: es) X.env=(false,eval e X.env):: starEach es X.env:=by rfl) (hpl:(backTo pos (starEach es X.env)).any (·.1)=false:=by rfl):PEx X (.Call (.Name x p) (e :: es) [] pos) (Z5r sp t):=by
 intro pins s σ H Q E I h
 refine wpAny_Call_Name_kw (Zha I hg d.m ?_ hdb)
 refine W.callWith_K (h₀:=X.base) I.ok.mod.kin d.fn.kp (thn (Z06 ha I h) λus s1 ⟨vs,H1,I1,r,q⟩=>⟨I1.kIn,?_⟩) he hpl
 exact Z0r F hr d.b I1 r q
end
section
variable {K:Fg}{M:Model}{A:Around}{E:EV}{h:Heap}{g:Array GenState}{d:Drawn}{t:Nat}{os:OsState}{e C D:Addr}
def Zp4{oe:Obj}{Q:Bool->Shared->Prop}(X:K.In h)(cD:ExC K D)(he:h.get? e=some oe)(hcls:oe.cls=.ref C)(cC:ExC K C)(hs:W.subIn K (.ref C) (.ref D)=some true)(hq:Q true ⟨h,g,d,t,os⟩):
  wpAny M A (excMatches (.ref e) (.ref D)) Q E ⟨h,g,d,t,os⟩:=by
 obtain⟨nm,q,N,bs,bm,hdct,sn,sub,ab,col,dd,k0,k1,k2,k3,k5,lk⟩:=cD.obj
 obtain⟨nm',q',N',bs',bm',hdct',sn',sub',ab',col',dd',k0',k1',k2',k3',k5',lk'⟩:=cC.obj
 have cB:=Zgj lk cD.bas
 have cS:=Zgj lk' hs
 have hD:=X _ _ lk
 have hC:=X _ _ lk'
 have f:=tc_notTuple
 unfold excMatches
 repeat (first | (with_reducible refine Ji he ?_;rw[hcls]) | with_reducible refine Ji hD ?_ | (with_reducible refine wpAny_isSubtype_exc hD ?_;rw[cB]) | (with_reducible refine wpAny_isSubtype_exc hC ?_;rw[cS]) | wp_step)
 exact hq
end
section
variable {X:Cx}{pins:PL}{σ:St}{H:Hp}{s:Shared}
def Inv.track{a:Addr}{o:HO}(I:Inv X pins σ H s)(f:Zkx X pins H a)(ok:Zb6 X.prog X.w (upd H a o) s.heap a o):Inv X pins σ (upd H a o) s:=by
 obtain⟨f0,f1,f2,f3,f4,f5⟩:=f
 have ne:∀ b u,H b=some u->b≠a:=λb u q z=>by rw[z,f0]at q;cases q
 have old:∀ b u,X.s₀.heap.get? b=some u->b∉X.ex->b≠a:=λb u q n z=>by
  rcases f3 with r | r
  ·rw[z]at n;exact n r
  ·exact absurd (Ya1 (Yj q) (by rw[z];exact r)) (Yd3 _)
 refine⟨I.ok,I.os,I.bare,⟨I.base.keep,I.base.slot,λb u q n hx=>by rw[Zab (old b u q hx)];exact I.base.free b u q n hx,I.base.there,λb xs q=>by have z:=I.base.tups b xs q;rw[Zab (ne b _ z)];exact z,
  λb u xs q=>by have z:=I.base.frzs b u xs q;rw[Zab (ne b _ z)];exact z,λb ps q=>by obtain⟨m,z⟩:=I.base.tbls b ps q;exact⟨m,by rw[Zab (ne b _ z)];exact z⟩⟩,
  I.loc,I.cell,by rw[Zab (Ym f1)];exact I.free,λx c q=>by rw[Zab (f4 x c q)];exact I.freeC x c q,λp hp=>?_,λb u q=>?_,I.len⟩
 ·obtain⟨p1,p2,p3,p4,p5⟩:=I.pin p hp
  exact⟨p1,by rw[Zab (f5 p hp)];exact p2,p3,p4,p5⟩
 ·by_cases hb:b=a
  ·subst hb;rw[uS]at q;cases q;exact ok
  ·rw[Zab hb]at q
   exact(I.hok b u q).stay (λ_ _ _ z=>z) (λc z=>by rw[Zab (ne c _ z)];exact z) λc xs z=>by rw[Zab (ne c _ z)];exact z
def Inv.gone{i:Nat}{x:Str}{m:Str->OU}{v:OU}{h':Heap}{tk:Nat}(I:Inv X pins σ H s)(hN:X.N.Nodup)(hi:X.N[i]?=some x)(hx:X.env.scope.names.lookup x=some .local)
  (hm:s.heap.Ns X.env.locals m) (hn:h'.Ns X.env.locals λy=>if y=x then v else m y) (hs:Heap.SameBut X.env.locals s.heap h'):Inv X pins (σ.set i none) H {s with heap:=h',toks:=tk}:=by
 obtain⟨m0,hm0,hl⟩:=id I.loc
 have hmm:m0=m:=by
  obtain⟨o1,es1,ep1,a1,a2,_,a3⟩:=hm0
  obtain⟨o2,es2,ep2,b1,b2,_,b3⟩:=hm
  rw[a1]at b1
  cases b1
  rw[a2]at b2
  cases b2
  funext y
  rw[<- a3,<- b3]
 subst hmm
 have cne:=I.cne
 obtain⟨oL,_,_,hoL,_⟩:=id hm
 refine⟨I.ok,I.os,I.bare,⟨λb o e n hb hx=>?_,λb o e n hb hx=>?_,I.base.free,λb o e hx=>?_,I.base.tups,I.base.frzs,I.base.tbls⟩,⟨_,hn,λj y v' e1 e2 e3=>?_⟩,λy c e=>?_,I.free,I.freeC,λp hp=>?_,λb ob e=>?_,by simpa using I.len⟩
 ·exact(hs.2 b (Yc1 (Ya1 (Yj e) I.ok.above))).trans (I.base.keep b o e n hb hx)
 ·obtain⟨sl,e1⟩:=I.base.slot b o e n hb hx
  exact⟨sl,(hs.2 b (Yc1 (Ya1 (Yj e) I.ok.above))).trans e1⟩
 ·obtain⟨o',e1⟩:=I.base.there b o e hx
  exact⟨o',(hs.2 b (Yc1 (Ya1 (Yj e) I.ok.above))).trans e1⟩
 ·have hj:j≠i:=λz=>by
   subst z
   by_cases hb:j<σ.length
   ·rw[Yt3 hb]at e2;cases e2
   ·rw[Yv4 (by simpa using hb)]at e2;cases e2
  rw[Yy4 (Ym hj)]at e2
  obtain⟨u',r',q⟩:=hl j y v' e1 e2 e3
  refine⟨u',r',?_⟩
  rcases q with⟨k,e⟩ | ⟨k,c,e,z⟩
  ·refine .inl ⟨k,?_⟩
   have:y≠x:=λe=>hj (Zgq hN e1 (e ▸ hi))
   simp[this,e]
  ·exact .inr ⟨k,c,e,z.sameBut hs (cne y c e)⟩
 ·obtain⟨w',z⟩:=I.cell y c e
  exact⟨w',z.sameBut hs (cne y c e)⟩
 ·obtain⟨e,n,ne,nf,d⟩:=I.pin p hp
  exact⟨(hs.2 p.1 ne).trans e,n,ne,nf,d⟩
 ·refine(I.hok b ob e).stay (λc w' hc q=>(hs.2 c ?_).trans q) (λ_ q=>q) λ_ _ q=>q
  rintro rfl
  rcases hc with rfl | hc
  ·rw[I.free]at e;cases e
  ·rw[I.free]at hc;cases hc
abbrev Cx.marked(X:Cx)(v:Value):Cx:={X with A:=X.A.mark (some v),calm:=false,xe:=λ_ _=>False}
def Inv.mark(I:Inv X pins σ H s)(v:Value):Inv (X.marked v) pins σ H s :=
 ⟨⟨I.ok.mod,I.ok.kind,I.ok.glob,I.ok.blt,I.ok.above,I.ok.inj,I.ok.has,I.ok.cab,λz=>absurd z Yg,I.ok.frames,I.ok.stk,I.ok.exf,I.ok.bs,I.ok.bsz,I.ok.noex,I.ok.exfs,I.ok.funs,I.ok.frf⟩,
  I.os,I.bare,I.base,I.loc,I.cell,I.free,I.freeC,I.pin,I.hok,I.len⟩
def Inv.unmark{v:Value}(J:Inv (X.marked v) pins σ H s)(ok:X.Ok):Inv X pins σ H s :=
 ⟨ok,J.os,J.bare,J.base,J.loc,J.cell,J.free,J.freeC,J.pin,J.hok,J.len⟩
end
section
variable {X:Cx}{D:Addr}{body:List Stmt}{t:TSx}{x n dn:Str}{np xp ep ap hp pos:Pos}{i j:Nat}
def Z8q(K:Fg)(D:Addr)(i j:Nat)(t:TSx):TS:=λB σ H=>t B (λcls dx σ' H'=>∃ C,cls=.ref C/\ExC K C/\W.subIn K (.ref C) (.ref D)=some true /\
 ∀ e,H' e=none->B.nx (((σ'.set j (some (.ref e))).set i (some (.ref e))).set j none) (upd H' e (XO e C dx))) σ H
def Z3x(hst:X.stack=X.env :: X.outer)(hf:X.env.frame=some X.env.locals)(cD:ExC X.K D)(hN:X.N.Nodup)(hg:Gl X dn)(hm:X.mg dn=some (.ref D))(hi:X.N[i]?=some x)(hx:Loc X.env.scope x)(hj:X.N[j]?=some n)
  (hn:X.env.scope.names.lookup n=some .local) (hb:Z5n X body t) (hfx:X.fn x=true\/X.env.scope.names.lookup x=some .local:=by first | exact .inl rfl | exact .inr rfl | assumption) (hdb:(dn == ("__debug__":Str))=false:=by decide)
  (hd2:(n == ("__debug__":Str))=false:=by decide) (hd3:(n == ("__classdict__":Str))=false:=by decide) (hs:∀ v,swapsWith (.Name n ep) (some (.Name x xp)) ap.line (X.marked v).env=pure false:=by intro;rfl):
  PS X (.Try body [.ExceptHandler (some (.Name dn np)) (some n) [.Assign [.Name x xp] (.Name n ep) ap] hp] [] [] pos) (Z8q X.K D i j t):=by
 intro pins s σ H B I h
 refine wpAny_Try_except (Jf (hb pins s σ H B _ I h) (λf s1 q=>?_) λev s1 z=>?_)
 ·cases f with
  | next=>exact wpAny_execs_nil q
  | ret v=>exact q
  | brk=>exact q
  | cont=>exact q
 ·obtain⟨e,T,cls,dx,σ',H',rfl,I1,fe,fT,a,C,rfl,cC,csub,q⟩:=z
  have hfr:X.A.frames=some (X.env :: X.outer):=by rw[<- hst];exact I1.ok.frames
  have hl:s1.heap.FunFrames X.base (X.env :: X.outer):=by rw[<- hst];exact I1.stack
  refine Zo0 hfr hl hf a λh1 T1 hT1 a1 c1=>?_
  refine Zit a1 λh2 a2 c2=>?_
  rw[<- hst]at c1
  have c3:Chg (frs X.stack) [T1,e,T] s1.heap h2:=(c1.mono (λb z=>z) λb z=>by simp at z;rcases z with z | z <;> simp[z]).trans (c2.mono (λb z=>nomatch z) λb z=>by simp at z;simp[z])
  have I2:Inv X pins σ' H' {s1 with heap:=h2}:=I1.call (ch:=[e,T]) (t':=s1.toks) (d':=s1.drawn) (g':=s1.gens) (Un.chg (c3.drop hT1) (λb z=>z) λb z=>z) (I1.hok.chg (c3.drop hT1) I1.stkFree λb z=>by
   simp at z;rcases z with z | z <;> rw[z];exact fe.1;exact fT.1) I1.bare λb z=>by
   simp at z;rcases z with z | z <;> rw[z];exact⟨fe.2.2.2.1,fe.2.1,fe.2.2.2.2.1,fe.2.2.2.2.2⟩;exact⟨fT.2.2.2.1,fT.2.1,fT.2.2.2.2.1,fT.2.2.2.2.2⟩
  have fT1:Zkx X pins H' T1:=I1.fpOk hT1 (I1.hok.fresh hT1)
  have M2:=I2.mark (.ref e)
  refine wpAny_handleBy_cons (codeAny_handlers_test (Zha (X:=X.marked (.ref e)) M2 hg hm ?_ hdb)) (by intro q;cases q)
  obtain⟨oe,vs,he,hc,hdx,hd,hv1⟩:=a2.obj
  refine Zp4 I2.kIn cD he hc cC csub (codeAny_handlers_suite_as ?_)
  refine Zit a2 λh3 a3 c4=>?_
  have c5:Chg (frs X.stack) [T1] h2 h3:=c4.mono (λb z=>nomatch z) λb z=>z
  have I3:Inv X pins σ' H' {s1 with heap:=h3}:=I2.call (s:={s1 with heap:=h2}) (h':=h3) (ch:=[T1]) (t':=s1.toks) (d':=s1.drawn) (g':=s1.gens) (Un.chg c5 (λb z=>z) λb z=>z) (I2.hok.chg c4 (λb z=>(nomatch z:H' b=none)) λb z=>by simp at z;rw[z];exact fT1.1) I2.bare λb z=>by
   simp at z;rw[z];exact⟨fT1.2.2.2.1,fT1.2.1,fT1.2.2.2.2.1,fT1.2.2.2.2.2⟩
  obtain⟨oe3,vs3,he3,hc3,hdx3,hd3',hv3⟩:=a3.obj
  have I4:Inv X pins σ' (upd H' e (XO e C dx)) {s1 with heap:=h3}:=I3.track fe ⟨⟨oe3,he3,hc3,hdx3,by unfold W.notCls;rw[hd3']⟩,⟨oe3,he3⟩,λh1 h2 ⟨o,q1,q2⟩ k=>⟨o,k o q1,q2⟩⟩
  have M4:=I4.mark (.ref e)
  refine Zlt (X:=X.marked (.ref e)) (i:=j) M4 hN hj (.inl hn) (v:=.ref e) rfl (λs5 M5=>?_) (.inr hn)
  have L5:(σ'.set j (some (.ref e)))[j]?=some (some (.ref e)):=by
   have:j<σ'.length:=by rw[I3.len];exact(Yn.mp hj).1
   rw[Yt3 this]
  have R:=(Zac (Zag (X:=X.marked (.ref e)) (i:=i) (pos:=ap) (pos':=xp) hN hi hx (Zzt (X:=X.marked (.ref e)) (pos:=ep) hj (.inl hn) hd2 hd3) (hs _) hfx)) pins s5 _ _
   {nx:=λσ6 H6=>σ6=(σ'.set j (some (.ref e))).set i (some (.ref e))/\H6=upd H' e (XO e C dx),rt:=λ_ _=>False} M5 ⟨_,L5,rfl,rfl⟩
  refine Jf R (λf s6 q6=>?_) λ_ _ z=>False.elim z
  cases f with
  | ret v=>obtain⟨_,_,_,_,_,z⟩:=q6;exact z.elim
  | brk=>obtain⟨_,_,_,z⟩:=q6;exact z.elim
  | cont=>obtain⟨_,_,_,z⟩:=q6;exact z.elim
  | next =>
   obtain⟨σ6,H6,M6,rfl,rfl⟩:=q6
   have I6:=M6.unmark I.ok
   obtain⟨m,hm6,_⟩:=id I6.loc
   refine wpAny_nameGoes_keeps hn hm6 (by rw[I.ok.kind];rfl) λh7 v hn7 hs7=>?_
   exact⟨_,_,I6.gone hN hj hn hm6 hn7 hs7,q e fe.1⟩
end
section
variable {X:Cx}{k:Nat}{f C:Addr}{fd:FuncData}{ps:LS}{sp:Sp}{x m:Str}{p pos apos:Pos}{e o:Expr}{es:List Expr}{ta:TE}{t:TA}
end
def Zyi{K:Fg}{C D:Addr}{b:Bool}(h1:W.isClsIn K D=true)(h2:W.typeIn K (.ref D)=some (.type "type"))(c:ExC K C)(h:W.subIn K (.ref C) (.ref D)=some b):W.kitOne K (.ref C) (.ref D)=some b:=by
 unfold W.kitOne
 by_cases z:C=D
 ·subst z
  obtain⟨nm,q,N,bs,bm,hdct,sn,sub,ab,col,dd,k0,k1,k2,k3,k5,lk⟩:=c.obj
  have:=Zgj lk h
  rw[if_pos (by simp)]
  rw[<- this]
  simp
 ·rw[if_neg (by simpa using z)]
  unfold W.kitCls
  have h1':(W.clsIn K D).isSome=true:=h1
  show(if((W.clsIn K D).isSome&&W.typeIn K (.ref D) == some (.type "type"))=true then W.subIn K (.ref C) (.ref D)else none)=some b
  rw[if_pos (by rw[h1',h2];rfl)]
  exact h
def Zvs{K:Fg}{C:Addr}(c:ExC K C):W.kitOne K (.ref C) (.type "ValueError")=some true:=by
 unfold W.kitOne
 rw[if_neg (by simp)]
 unfold W.kitCls
 show(if W.kitMeta "ValueError"=true then W.subIn K (.ref C) (.type "ValueError")else none)=some true
 rw[if_pos (by rfl')]
 exact c.val
def Z3u(K:Fg):LV->Hp->VK->Prop:=λxs H Q=>∃(e C:Addr) (dx:Option Addr) (y:V) (cv:Value) (b:Bool),xs=[.ref e,y]/\Zcl y cv/\(∀ u,Zcl y u->u=cv)/\H e=some (XO e C dx)/\Zkv H dx/\ExA K C/\W.kitOne K (.ref C) cv=some b/\Q (.bl b) H
def Zot{X:Cx}:Zi6 X (.builtin "isinstance") (Z3u X.K):=by
 intro pins s σ H xs us Q I r h
 obtain⟨e,C,dx,y,cv,b,rfl,ry,hy,hx,hd,c,k,q⟩:=h
 obtain⟨u,w',rfl,r1,r2⟩:=Zw8 r
 cases r1
 rw[hy w' r2]
 exact Zsw I hx hd c k λtk=>⟨.bl b,H,I.tok _,rfl,q⟩
def Zaj.xdict{H H':Hp}{dx:Option Addr}(h:Zkv H dx)(s:Zaj H H'):Zkv H' dx:=h.elim .inl λ⟨a,fs,e,x⟩=>.inr ⟨a,fs,e,s _ _ x⟩
section
variable {X:Cx}
end
end L2
namespace L2
open PySem PySem.W PySem.Spec PyProof.Rows
section
variable {X:Cx}{e:Expr}{te:TE}{pos:Pos}{k:Nat}
def Zwz(x:Str):Prop:=x.length<=50/\∀ c∈x.cps.toList,c<16 ^ 8
end
def Zap.or{P:Program}{w:World}{K:Fg}{mg:Str->OU}{base:Heap}{CX:CXT}{k:Nat}{ps:LS}{sp sp':Sp}(F:Zap P w K mg base CX k f fd ps sp)(G:Zap P w K mg base CX k f fd ps sp'):
  Zap P w K mg base CX k f fd ps (λvs H Q E=>sp vs H Q E\/sp' vs H Q E):=
 ⟨λvs H Q E h=>h.elim (F.len vs H Q E) (G.len vs H Q E),λA outer s H args us vs Q E hr he hb hv hs=>hs.elim (F.run A outer s H args us vs Q E hr he hb hv) (G.run A outer s H args us vs Q E hr he hb hv)⟩
end L2
namespace L2
open PySem PySem.Spec PyProof.Rows HT
section
variable {prog:Program}{w:World}{A:Around}{E:EV}{s:Shared}
def Zi3{t sl:Addr}{items:Array Value}{vl vu:Value}{lo hi:Option Int}{Q:EV}(ht:IsTup s.heap t items)(hs:s.heap.IsSliceOf sl vl vu .none)(pl:IsPart vl lo)(pu:IsPart vu hi)
  (hw:sIx items.size 0 lo=0/\sIx items.size items.size hi=items.size) (h:Q (.ref t) s):wpAny (model prog w) A (getItem (.ref t) (.ref sl)) Q E s:=by
 obtain⟨os,hos,hcs,hds⟩:=id hs
 have hTs:s.TypeIs (.ref sl) "slice":=⟨os,hos,hcs⟩
 unfold getItem
 try with_reducible refine Jj ?_
 first | refine Ja (Jd ?_) | skip
 refine Ja (wpAny_sequenceKey ht.typeIs (by decide) ?_)
 refine Ja (wpAny_callSpecial?_slot (name:=Str.ofString "__getitem__") ht.typeIs Yd2
  (wpAny_call_entry Yd2 ht.typeIs entry_tuple_getitem ?_ (args_tuple_getitem _ _)))
 show wpAny _ _ (Builtin.Tuple.tupleItemsOf (.ref t)>>=_) _ _ s
 refine Ja (tupleItemsOf_ ht ?_)
 refine Ja (wpAny_typeOf hTs ?_)
 rw[if_pos (by decide)]
 refine Ja (Zgw hs pl pu ?_)
 have yes:(((sIx items.size 0 lo:Nat):Int) == 0&&(1:Int) == 1&&(sIx items.size items.size hi - sIx items.size 0 lo) == items.size)=true:=by
  rw[hw.1,hw.2]
  simp
 show wpAny _ _ (if(((sIx items.size 0 lo:Nat):Int) == 0&&(1:Int) == 1&&(sIx items.size items.size hi - sIx items.size 0 lo) == items.size)=true then _ else _) _ _ s
 rw[if_pos yes]
 apply Ja
 unfold Builtin.Tuple.tupleIsExact
 refine Ja (wpAny_typeOf ht.typeIs ?_)
 apply Jd
 rw[if_pos (by decide)]
 refine Ja (wpAny_rule ?_)
 refine Jd ?_
 exact⟨_,rfl,Jd h⟩
end
def Zzo(K:Fg):V->Option Int->Option Int->Hp->VK->Prop:=λx lo hi H Q=>∃ a xs,x=.ref a/\SqT K H a xs /\
 ((sIx xs.length 0 lo=0/\sIx xs.length xs.length hi=xs.length)->Q (.ref a) H)/\(¬ (sIx xs.length 0 lo=0/\sIx xs.length xs.length hi=xs.length)->∀ p,H p=none->Q (.ref p) (upd H p (.tup (Zoo xs lo hi))))
def Ziw{X:Cx}:SlR X (Zzo X.K):=by
 intro pins s σ H x v vl vu lo hi sl Q I rx hs pl pu h
 obtain⟨a,xs,ex,hx,q1,q2⟩:=h
 by_cases hw:sIx xs.length 0 lo=0/\sIx xs.length xs.length hi=xs.length
 ·subst ex
  cases rx
  obtain⟨its,r,ht,hz⟩:=I.tuple hx
  have hlen:its.toArray.size=xs.length:=by rw[Yl];exact r.length.symm
  refine⟨"tuple",_,Yd2.lookup,ht.typeIs,?_⟩
  exact Zi3 ht hs pl pu (by rw[hlen];exact hw) ⟨.ref a,H,I,rfl,q1 hw⟩
 ·exact Z3j pins s σ H x v vl vu lo hi sl Q I rx hs pl pu ⟨a,xs,ex,hx,hw,q2 hw⟩
def Z2g{xs:LV}{lo hi:Option Int}(h:sIx xs.length 0 lo=0/\sIx xs.length xs.length hi=xs.length):Zoo xs lo hi=xs:=by
 unfold Zoo
 rw[h.1,h.2,List.drop_zero,Nat.sub_zero,Ye1]
def Ziy{K:Fg}{H:Hp}{a:Addr}{xs:LV}{lo hi:Option Int}{Q:VK}(hx:H a=some (.tup xs))(q:∀ p H',Zaj H H'->H' p=some (.tup (Zoo xs lo hi))->Q (.ref p) H'):Zzo K (.ref a) lo hi H Q :=
 ⟨a,xs,rfl,SqT.of hx,λh=>q a H (Zaj.refl _) (by rw[Z2g h];exact hx),λ_ p hp=>q p _ (λb o e=>by rw[Zab (nNo e hp)];exact e) uS⟩
def Zl5{K:Fg}{H:Hp}{a b:Addr}{xs ys:LV}{Q:VK}(hx:H a=some (.tup xs))(hy:H b=some (.tup ys))(hz:xs.length + ys.length<=sizeLine)(q:∀ p H',Zaj H H'->H' p=some (.tup (xs++ys))->Q (.ref p) H'):Z0w K (.ref a) (.ref b) H Q :=
 ⟨a,b,xs,ys,rfl,rfl,SqT.of hx,SqT.of hy,hz,λe=>q b H (Zaj.refl _) (by rw[e];exact hy),λ_ e=>q a H (Zaj.refl _) (by rw[e,Yn1];exact hx),λ_ _ p hp=>q p _ (λc o e=>by rw[Zab (nNo e hp)];exact e) uS⟩
end L2
namespace L2
open PySem PySem.Spec PyProof.Rows
def Z0j:Expr->Option Str
 | .Constant (.str x) _ _=>some x
 | _=>none
def Zqm:List Expr->Option (LS)
 | []=>some []
 | e :: r=>match Z0j e,Zqm r with
  | some p,some l=>some (p :: l)
  | _,_=>none
def Z3d:Expr->Option (LS)
 | .Tuple es _ _=>Zqm es
 | _=>none
def Z5s(l:LS):TE:=λ_ H Q=>∀ p,H p=none->Q (.ref p) (upd H p (.tup (l.map V.str)))
section
variable {X:Cx}
def Zpb{e:Expr}{x:Str}(h:Z0j e=some x):∃ k pos,e=.Constant (.str x) k pos:=by
 unfold Z0j at h
 split at h
 ·cases h
  exact⟨_,_,rfl⟩
 ·cases h
theorem Znu:∀ {es:List Expr}{l:LS},Zqm es=some l->PA X es (λ_ H Q=>Q (l.map V.str) H)
 | [],l,h=>by
  cases h
  exact Zaa
 | e :: r,l,h=>by
  unfold Zqm at h
  split at h
  ·rename_i p l' h1 h2
   cases h
   obtain⟨k,pos,rfl⟩:=Zpb h1
   exact pC Zca (Znu h2)
  ·cases h
def Zq7{e:Expr}(l:LS)(h:Z3d e=some l)(hl:l.length<=100000):PE X e (Z5s l):=by
 unfold Z3d at h
 split at h
 ·intro pins s σ H Q I q
  exact Zbi (Znu h) pins s σ H Q I ⟨sL (by rw[Ya];exact hl),q⟩
 ·cases h
end
end L2
namespace L2
open PySem PySem.Spec PySem.Builtin PySem.Builtin.ObjectAttr PySem.W
structure ExI(K:Fg)(C D:Addr)(a:Str):Prop extends ExA K C where
 lk:∃ nm q N bs sn sub ab col dd k0 k1 k2 k3 k5,K.lookup C=some (excClassObj nm q C N bs [.ref D,.type "ValueError",.type "Exception",.type "BaseException",.type "object"] true sn sub ab col dd k0 k1 k2 k3 k5 "ValueError.__new__")
 sa:W.findIn K (.ref C) "__setattr__"=some (some (.builtin "object.__setattr__"))
 na:W.findIn K (.ref C) a=some none
abbrev Zp5(C t:Addr)(dx:Option Addr):Obj:={cls:=.ref C,dict:=dx,data:=.fields #[.ref t,.none,.none,.none,.bool false,.none] }
section
variable {K:Fg}{prog:Program}{w:World}{A:Around}{E:EV}{s:Shared}{C D e t0:Addr}{a:Str}{v:Value}
def Z18{tk:Tok}{R:Result->Shared->Prop}(X:K.In s.heap)(c:ExI K C D a)(he:s.heap.get? e=some (Zco C t0))
  (h:∀ h' dx,s.heap.objs.size<=dx->h'.get? e=some (Zp5 C t0 (some dx))->h'.Ns1 dx (λy=>if y=a then some v else none)->(∀ b o,b≠e->s.heap.get? b=some o->h'.get? b=some o)->R (.ok (.ret .none)) {s with heap:=h',toks:=s.toks + 1}):
  codeAny (model prog w) A (.call (.builtin "object.__setattr__") ⟨[.ref e,.str a tk,v],[]⟩) R s:=by
 obtain⟨nm,q,N,bs,sn,sub,ab,col,dd,k0,k1,k2,k3,k5,lk⟩:=c.lk
 have SF:=PySem.F.store_object
 have I:InstAt s.heap e (Zco C t0) C none:=⟨he,rfl,rfl,trivial⟩
 have hcd:clsIn K C=some {name:=nm,bases:=bs,mro:=.ref C :: [.ref D,.type "ValueError",.type "Exception",.type "BaseException",.type "object"],ns:=N,qualname:=q,hasDict:=true,slotNames:=sn,subclasses:=sub,abstract:=ab,collection:=col,hasDel:=false}:=by
  unfold W.clsIn
  rw[lk]
 have sb:Looks (model prog w) s.heap (isInstance (.ref e) (.type "object")) true:=I.type.andThen (looks_mroIn X c.ob)
 refine codeAny_call_builtin SF.slot.plain SF.entry (@check_slot (model prog w) _ _ s "object.__setattr__" "object" "__setattr__" (.ref e) [.str a tk,v] [] _ SF.kind SF.split sb (SF.args (.ref e) (.str a tk) v) ?_)
 have hm:Looks (model prog w) s.heap (mroOf (.ref C)) (.ref C :: [.ref D,.type "ValueError",.type "Exception",.type "BaseException",.type "object"]):=(looks_clsIn X hcd).andThen .now
 rw[osa_eq,refuse_eq]
 refine Ja (Ja (I.type.here (Ja (hm.here ?_))))
 rw[refuseLoop_ref,refuseLoop_ref,PySem.F.store_ValueError.passes]
 refine Jd (Ja (I.type.here (Ja ((looks_findIn X c.na).here (Ja (Jd ?_))))))
 show wpAny _ _ (storeInOwnDict (.ref e) (.ref C) (.str a tk) a v false) _ _ _
 refine Ja (Jd (Ja (Ja (wpAny_loadPart he (Ja ((looks_clsIn X hcd).here ?_))))))
 have hes:e≠s.heap.objs.size:=Yc1 (Yj he)
 have he1:(s.heap.push {cls:=.type "dict",data:=.dict #[] }).get? e=some (Zco C t0):=Yb _ he
 obtain⟨hh,g,d,t,os⟩:=s
 dsimp only at he he1 hes h ⊢
 refine Ja (wpAny_alloc' (Ja (wpAny_update' he1 (Jd ?_))))
 have hgd:((hh.push {cls:=.type "dict",data:=.dict #[] }).update e λo=>{cls:=o.cls,dict:=some hh.objs.size,data:=o.data,slots:=o.slots}).get? hh.objs.size=some {cls:=.type "dict",data:=.dict #[] } :=
  (Heap.get?_update_ne _ _ _ _ hes.symm).trans (Yq4 rfl rfl)
 have hnd:((hh.push {cls:=.type "dict",data:=.dict #[] }).update e λo=>{cls:=o.cls,dict:=some hh.objs.size,data:=o.data,slots:=o.slots}).Ns hh.objs.size (λ_=>none):=
  ⟨_,#[],_,hgd,rfl,λe he=>absurd he (by simp),λ_=>rfl⟩
 show wpAny _ _ (storeInDict hh.objs.size (.str a tk) a v) _ _ _
 unfold storeInDict newKeyGuard
 refine Ja (Jd (Ja (wpAny_nsSet1 (Heap.Ns1.of_empty hnd) λh' hn' hs=>?_)))
 obtain⟨oD,esD,epD,hoD,hdD,hcD⟩:=hn'.count (Within.cons a v Within.nil)
 refine Ja (wpAny_lookBehind hoD (by rw[hdD];exact pastItsLine_dict (Yx hcD (by rw[Yf1,Yb5,sizeLine_eq];omega))) ?_)
 refine Jd (h h' hh.objs.size (Yd _) ?_ hn' λb o hb q=>?_)
 ·exact(hs.2 e hes).trans (Yu1 _ he1 rfl)
 ·exact(hs.2 b (Yc1 (Yj q))).trans ((Heap.get?_update_ne _ _ _ _ hb).trans (Yb _ q))
def Z17{Q:Unit->Shared->Prop}(X:K.In s.heap)(c:ExI K C D a)(he:s.heap.get? e=some (Zco C t0))
  (h:∀ h' dx,s.heap.objs.size<=dx->h'.get? e=some (Zp5 C t0 (some dx))->h'.Ns1 dx (λy=>if y=a then some v else none)->(∀ b o,b≠e->s.heap.get? b=some o->h'.get? b=some o)->Q () {s with heap:=h',toks:=s.toks + 2}):
  wpAny (model prog w) A (setAttr (.ref e) a v) Q E s :=
 set_plain X (⟨he,rfl,rfl,trivial⟩:InstAt s.heap e (Zco C t0) C none) c.sa (Z18 (s:={s with toks:=s.toks + 1}) X c he λh' dx a1 a2 a3 a4=>h h' dx a1 a2 a3 a4)
def Z2b{ox od:Obj}{Q:EV}{expr:Bool}(X:K.In s.heap)(c:ExI K C D a)(I:InstAt s.heap e ox C (some od))(hl:lookIn a od=some (some v))(hv:handedIn v=true)(h:Q v {s with toks:=s.toks + 1}):
  wpAny (model prog w) A (getAttr (.ref e) a expr) Q E s:=by
 obtain⟨nm,q,N,bs,sn,sub,ab,col,dd,k0,k1,k2,k3,k5,lk⟩:=c.lk
 have hd:hasDictIn K C=true:=by
  unfold hasDictIn clsIn
  rw[lk]
  rfl
 obtain⟨hh,g,d,t,os⟩:=s
 unfold getAttr
 refine Ja (wpAny_mkText ?_)
 exact Zz6 X c.toExA I (looks_find X I (findObj_own hd c.na rfl hl)) (λz=>nomatch z) (λ{A E Q} r=>Jd r) hv h
end
end L2
namespace L2
open PySem PySem.Spec PyProof.Rows
def XN(e C:Addr):HO:=.ext λh=>∃ t0,h.get? e=some (Zco C t0)
def XM(e C dx:Addr):HO:=.ext λh=>∃ t0,h.get? e=some (Zp5 C t0 (some dx))
def del(H:Hp)(a:Addr):Hp:=λb=>if b=a then none else H b
def Zmt{H:Hp}{a:Addr}:del H a a=none:=by unfold del;rw[if_pos rfl]
def Zkl{H:Hp}{a b:Addr}(h:b≠a):del H a b=H b:=by unfold del;rw[if_neg h]
structure DIn(K:Fg)(D:Addr):Prop where
 ga:W.specialIn K (.ref D) "__getattribute__"=some (some (.builtin "type.__getattribute__"))
 rd:W.readsIn K D (.type "type")=true
 fi:W.findCls K (.ref D) (.type "type") "__init__"=some (.val (.builtin "ValueError.__init__"))
section
variable {X:Cx}{pins:PL}{σ:St}{H:Hp}{s:Shared}{a:Addr}{φ:Heap->Prop}
def Inv.untrack(I:Inv X pins σ H s)(ha:H a=some (.ext φ))(f:X.s₀.heap.objs.size<=a):Inv X pins σ (del H a) s:=by
 have ne:∀ b u,H b=some u->(∀ ψ,u≠.ext ψ)->b≠a:=λb u q n z=>by rw[z,ha]at q;cases q;exact n _ rfl
 have none':∀ b,H b=none->del H a b=none:=λb q=>by
  unfold del
  split
  ·rfl
  ·exact q
 refine⟨I.ok,I.os,I.bare,⟨I.base.keep,I.base.slot,λb u q n hx=>none' b (I.base.free b u q n hx),I.base.there,λb xs q=>?_,λb u xs q=>?_,λb ps q=>?_⟩,
  I.loc,I.cell,none' _ I.free,λx c q=>none' _ (I.freeC x c q),λp hp=>?_,λb u q=>?_,I.len⟩
 ·have z:=I.base.tups b xs q;rw[Zkl (ne b _ z λ_ q=>nomatch q)];exact z
 ·have z:=I.base.frzs b u xs q;rw[Zkl (ne b _ z λ_ q=>nomatch q)];exact z
 ·obtain⟨m,z⟩:=I.base.tbls b ps q;exact⟨m,by rw[Zkl (ne b _ z λ_ q=>nomatch q)];exact z⟩
 ·obtain⟨p1,p2,p3,p4,p5⟩:=I.pin p hp
  exact⟨p1,none' _ p2,p3,p4,p5⟩
 ·have hb:b≠a:=λz=>by rw[z,Zmt]at q;cases q
  rw[Zkl hb]at q
  exact(I.hok b u q).stay (λ_ _ _ z=>z) (λc z=>by rw[Zkl (ne c _ z λ_ q=>nomatch q)];exact z) λc xs z=>by rw[Zkl (ne c _ z λ_ q=>nomatch q)];exact z
end
section
variable {X:Cx}{C D f:Addr}{fd:FuncData}{k:Nat}{x dn a:Str}{np cpos pos apos pos':Pos}{e o value:Expr}{es:List Expr}{t:TA}{ta tv:TE}{ps:LS}
def tDI(K:Fg)(t:TA):TE:=λσ H Q=>t σ H λvs H1=>∃ x C ws,vs=.ref x :: ws/\ws.length<=100/\ExC K C/\H1 x=some (XN x C)/\Q .non H1
def Zxo{pl:Sem Bool}(d:DIn X.K D)(hg:Gl X dn)(hm:X.mg dn=some (.ref D))(ha:PA X (e :: es) t)(hdb:(dn == ("__debug__":Str))=false:=by decide)
  (hst:starEach (e :: es) X.env=(false,eval e X.env):: starEach es X.env:=by rfl) (hpl:(backTo cpos (starEach es X.env)).any (·.1)=false:=by rfl)
  (ht:eval (.Call (.Attribute (.Name dn np) "__init__" apos) (e :: es) [] cpos) X.env=(eval (.Name dn np) X.env>>=λov=>standAt apos.atName>>=λ_=>holding [ov] (getMethod ov "__init__" pl)>>=λr=>callWith cpos r.1 r.2 (backTo cpos (starEach (e :: es) X.env)) (backToKw cpos (keywordEach [] X.env))):=by rfl):
  PE X (.Call (.Attribute (.Name dn np) "__init__" apos) (e :: es) [] cpos) (tDI X.K t):=by
 ac_rfl
 refine W.methodCall_KW (pl:=pl) (Zha I hg hm ?_ hdb) ht
 refine W.method_cls I.kIn d.ga (W.cls_value I.kIn d.rd d.fi rfl ?_)
 have I0:Inv X pins σ H {s with toks:=s.toks + 1}:=I.tok _
 refine PyProof.Rows.callWith_builtin1 (thn (ha cpos pins _ σ H _ I0 h) λus s1 ⟨vs,H1,I1,r,x,C,ws,ev,hl,c,hx,q⟩=>?_) hst hpl
 subst ev
 obtain⟨u,us',eu,r1,r2⟩:∃ u us',us=u :: us'/\Zcl (.ref x) u/\Zb0 ws us':=by cases r with | cons a b=>exact⟨_,_,rfl,a,b⟩
 subst eu
 obtain rfl:u=Value.ref x:=r1
 ·skip
  have ok:Zb6 X.prog X.w H1 s1.heap x (XN x C):=I1.hok x _ hx
  obtain⟨⟨t0,he⟩,_,_⟩:=ok
  obtain⟨hp,g,dr,tk,os⟩:=s1
  dsimp only at he
  refine wpAny_call (Zom (t0:=t0) I1.kIn c he (by rw[<- r2.length,sizeLine_eq];omega) ?_)
  refine⟨.non,H1,?_,rfl,q⟩
  have hs:x≠hp.objs.size:=Yc1 (Yj he)
  have he1:(hp.push (Ze0 us')).get? x=some (Zco C t0):=Yb _ he
  have up:upd H1 x (XN x C)=H1:=by
   funext b
   unfold upd
   split
   ·rename_i z;rw[z];exact hx.symm
   ·rfl
  have W:=I1.write (x:=x) (e:=x) (o:=XN x C) (t':=tk) (h':=(hp.push (Ze0 us')).update x (Obj.mapFields (·.setIfInBounds 0 (.ref hp.objs.size)))) (by rw[hx];exact True.intro) (.inl rfl)
   (λb u hb z=>(Yg2 _ _ (Ym hb)).trans (Yb _ z)) ⟨_,Yu1 _ he1 rfl⟩
   ⟨⟨hp.objs.size,Yu1 _ he1 rfl⟩,⟨_,Yu1 _ he1 rfl⟩,λh1 h2 ⟨t1,q1⟩ k=>⟨t1,k _ q1⟩⟩
  rw[up]at W
  exact W
def sXF(K:Fg)(D:Addr)(ta tv:TE)(a:Str):TS:=λB σ H=>tv σ H λy H1=>ta σ H1 λx H2=>∃ e C,x=.ref e/\H2 e=some (XN e C)/\ExI K C D a /\
 ∀ dx,H2 dx=none->B.nx σ (upd (upd H2 e (XM e C dx)) dx (.xd [(a,y)]))
def Z0y(ha:PE X o ta)(hv:PE X value tv)(hs:swapsWith value (some (.Attribute o a pos')) pos.line X.env=pure false:=by rfl):PS X (.Assign [.Attribute o a pos'] value pos) (sXF X.K D ta tv a):=by
 intro pins s σ H B I h
 refine plainObj_wpAny_Assign_Attribute (thn (hv pins s σ H _ I h) λu s1 ⟨y,H1,I1,ry,q⟩=>thn (ha pins s1 σ H1 _ I1 q) λov s2 ⟨x,H2,I2,rx,e,C,ex,hx,c,q2⟩=>?_) hs
 subst ex
 obtain rfl:ov=Value.ref e:=rx
 have ok:Zb6 X.prog X.w H2 s2.heap e (XN e C):=I2.hok e _ hx
 obtain⟨⟨t0,he⟩,_,_⟩:=ok
 refine Z17 I2.kIn c he λh' dx hdx he' hn k=>?_
 have hd0:H2 dx=none:=I2.hok.fresh hdx
 have hde:dx≠e:=Yq3 (Ya1 (Yj he) hdx)
 refine⟨σ,_,?_,q2 dx hd0⟩
 have W:=I2.write (x:=e) (e:=e) (o:=XM e C dx) (t':=s2.toks + 2) (h':=h') (by rw[hx];exact True.intro) (.inl rfl) (λb u hb z=>k b u hb z) ⟨_,he'⟩ ⟨⟨t0,he'⟩,⟨_,he'⟩,λh1 h2 ⟨t1,q1⟩ k=>⟨t1,k _ q1⟩⟩
 refine W.track ?_ ⟨_,hn,λf=>?_⟩
 ·refine I2.fpOk hdx ?_
  rw[Zab hde];exact hd0
 ·by_cases q:f=a
  ·subst q
   simp only[List.lookup,beq_self_eq_true,if_true]
   exact ry
  ·have hb:(f == a)=false:=beq_eq_false_iff_ne.mpr q
   simp only[List.lookup,hb,if_neg q]
   exact True.intro
def Z2y(C:Addr)(a:Str)(ok:V->Hp->Prop):Sp:=λvs H Q _=>∃ x y,vs=[.ref x,y]/\ok y H/\H x=some (XN x C)/\∀ dx,H dx=none->Q .non (upd (upd H x (XM x C dx)) dx (.xd [(a,y)]))
def Z8r(E:XK)(C:Addr)(a:Str)(ok:V->Hp->Prop)(t:TA):TS:=λ_ σ H=>t σ H λvs H1=>∃ y,vs=[y]/\(∀ x,H1 x=none->ok y (upd H1 x (XN x C)))/\∀ dx,H1 dx=none->E (.ref C) (some dx) (upd H1 dx (.xd [(a,y)]))
def Zui{E:XK}{ok:V->Hp->Prop}(Fx:Fns X E)(hh:X.A.handled=none)(c:ExC X.K C)(hi:W.findIn X.K (.ref C) "__init__"=some (some (.ref f)))(hf:W.typeIn X.K (.ref f)=some (.type "function"))
  (F:Zap X.prog X.w X.K X.mg X.base CX0 k f fd ps (Z2y C a ok)) (hr:Zcb (k + 1) X.A) (hb:Zeh X.K fd ps []) (hg:Gl X x) (hm:X.mg x=some (.ref C)) (ha:PA X (e :: es) t)
  (hdb:(x == ("__debug__":Str))=false:=by decide) (he:starEach (e :: es) X.env=(false,eval e X.env):: starEach es X.env:=by rfl) (hpl:(backTo cpos (starEach es X.env)).any (·.1)=false:=by rfl):
  PS X (.Raise (some (.Call (.Name x np) (e :: es) [] cpos)) none pos) (Z8r E C a ok t):=by
 intro pins s σ H B I h
 refine Zk7 c hh (wpAny_Call_Name_kw (Zha I hg hm ?_ hdb))
 refine W.callWith_K (h₀:=X.base) I.ok.mod.kin c.kp (thn (ha cpos pins s σ H _ I h) λus s1 ⟨vs,H1,I1,r,y,ev,hy,q⟩=>⟨I1.kIn,?_⟩) he hpl
 subst ev
 rw[List.nil_append]
 have rl:us.length=1:=r.length.symm
 obtain⟨hp,g,dr,tk,os⟩:=s1
 refine Zro I1.kIn c hi (λself=>W.bind_fn (I1.kIn.keeps λb o q=>Yb _ (Yb _ q)) self hf) (by rw[rl,sizeLine_eq];decide) ?_
 have got:((hp.push (Ze0 us)).push (Zco C hp.objs.size)).get? (hp.objs.size + 1)=some (Zco C hp.objs.size):=Yq4 (by rw[Ye2]) rfl
 have n0:H1 (hp.objs.size + 1)=none:=I1.hok.fresh (Yp3 _)
 have I2:Inv X pins σ (upd H1 (hp.objs.size + 1) (XN (hp.objs.size + 1) C)) ⟨(hp.push (Ze0 us)).push (Zco C hp.objs.size),g,dr,tk,os⟩ :=
  I1.laid (t':=tk) (λb u q=>Yb _ (Yb _ q)) (Yp3 _) ⟨⟨_,got⟩,⟨_,got⟩,λh1 h2 ⟨t1,q1⟩ k=>⟨t1,k _ q1⟩⟩
 have r2:Zb0 [V.ref (hp.objs.size + 1),y] (Value.ref (hp.objs.size + 1):: us):=.cons rfl r
 have hq:Z2y C a ok [V.ref (hp.objs.size + 1),y] (upd H1 (hp.objs.size + 1) (XN (hp.objs.size + 1) C)) (λv H2=>v=.non/\∃ dx,H1 dx=none/\dx≠hp.objs.size + 1/\H2=upd (upd (upd H1 (hp.objs.size + 1) (XN (hp.objs.size + 1) C)) (hp.objs.size + 1) (XM (hp.objs.size + 1) C dx)) dx (.xd [(a,y)])) (λ_ _ _=>False):=by
  refine⟨_,y,rfl,hy _ n0,uS,λdx hd=>⟨rfl,dx,?_,?_,rfl⟩⟩
  ·by_cases z:dx=hp.objs.size + 1
   ·rw[z];exact n0
   ·rw[Zab z]at hd;exact hd
  ·intro z;rw[z,uS]at hd;cases hd
 have hl:(Value.ref (hp.objs.size + 1):: us++[]).length=ps.length:=by rw[Yn1,<- r2.length];exact F.len _ _ _ _ hq
 have b:=hb _ (Value.ref (hp.objs.size + 1):: us) I2.kIn hl
 rw[Yn1]at b
 refine codeAny_mono (F.run _ X.stack _ _ ⟨Value.ref (hp.objs.size + 1):: us,[]⟩ (Value.ref (hp.objs.size + 1):: us) _ _ (λ_ _ _=>False) (hr.make C us []) (I2.env0.make C us []) b r2 hq) λr s' hq'=>?_
 cases r with
 | error ev=>exact False.elim hq'
 | ok fl =>
  cases fl with
  | ret u =>
   obtain⟨v,H',I3,rv,ev,dx,d1,d2,eH⟩:=I2.after hq'
   subst ev
   have hx:H' (hp.objs.size + 1)=some (XM (hp.objs.size + 1) C dx):=by rw[eH,Zab (Ym d2),uS]
   have ok3:Zb6 X.prog X.w H' s'.heap _ (XM (hp.objs.size + 1) C dx):=I3.hok _ _ hx
   obtain⟨⟨t0,g0⟩,_,_⟩:=ok3
   have eq:del H' (hp.objs.size + 1)=upd H1 dx (.xd [(a,y)]):=by
    funext b
    by_cases z:b=hp.objs.size + 1
    ·rw[z,Zmt,Zab (Ym d2),n0]
    ·rw[Zkl z,eH]
     by_cases z':b=dx
     ·rw[z',uS,uS]
     ·rw[Zab z',Zab z',Zab z,Zab z]
   have I4:=I3.untrack hx (Yx I1.sz (Yp3 _))
   refine⟨rv,hp.objs.size + 1,t0,some dx,#[],rfl,I4.kIn,g0,?_⟩
   exact Fx.raised I4 (I1.fpOk (Yp3 _) Zmt) g0 rfl rfl (by rw[eq];exact q dx d1)
  | next=>exact False.elim hq'
  | brk=>exact False.elim hq'
  | cont=>exact False.elim hq'
def tXF(K:Fg)(D:Addr)(ta:TE)(a:Str):TE:=λσ H Q=>ta σ H λx H1=>∃ e C dx fs v,x=.ref e/\H1 e=some (XO e C (some dx))/\H1 dx=some (.xd fs)/\ExI K C D a/\fs.lookup a=some v/\Q v H1
def Z02(ha:PE X o ta)(hb:attributeBase o a X.env (eval o X.env)=eval o X.env:=by rfl):PE X (.Attribute o a pos) (tXF X.K D ta a):=by
 ac_rfl
 refine Zws hb (thn (ha pins s σ H _ I h) λu s1 ⟨x,H1,I1,rx,e,C,dx,fs,v,ex,hx,hd,c,l,q⟩=>?_)
 subst ex
 obtain rfl:u=Value.ref e:=rx
 have ok:Zb6 X.prog X.w H1 s1.heap e (XO e C (some dx)):=I1.hok e _ hx
 obtain⟨⟨oe,h1,h2,h3,h4⟩,_,_⟩:=ok
 have okd:Zb6 X.prog X.w H1 s1.heap dx (.xd fs):=I1.hok dx _ hd
 obtain⟨mA,n,r⟩:=okd
 obtain⟨od,ho,hl⟩:=Zod n
 obtain⟨u,hu,ru⟩:=Zo3.some_of (v:=v) (o:=mA a) (by rw[<- l];exact r a)
 exact Z2b (ox:=oe) (od:=od) I1.kIn c ⟨h1,h2,h4,by rw[h3];exact ho⟩ (by rw[hl,hu]) (Zok ru) ⟨v,H1,I1.tok _,ru,q⟩
end
structure Z68(X:Cx)(scope:Scope)(own frees:LS)(js:LN):Prop where
 calm:X.calm=true
 kind:scope.kind=.function
 cells:∀ y∈scope.names,y.2=.cell->scope.names.lookup y.1=some .cell
 locals:∀ y∈scope.names,y.2=.local->scope.names.lookup y.1=some .local
 fr:∀ y∈scope.names,y.2=.free->X.env.scope.names.lookup y.1=some .cell\/X.env.scope.names.lookup y.1=some .free
 fre:∀ x∈frees,scope.names.lookup x=some .free
 slots:js.map (λj=>X.N[j]?)=frees.map some
section
variable {X:Cx}{pins:PL}{σ:St}{scope:Scope}{own frees:LS}{js:LN}
end
section
variable {X:Cx}{scope:Scope}{own frees:LS}{js:LN}{tg iter elt:Expr}{ifs:List Expr}{wi:TI}{g:TG}{tt:TT}{te:TE}{pos:Pos}
end
section
variable {prog:Program}{w:World}{A:Around}{E:EV}{s:Shared}{r:Addr}
end
section
variable {X:Cx}
end
structure Yai(K:Fg)(D:Addr):Prop where
 ha:W.findIn K (.ref D) "__class__"=some (some (.builtin "object.__class__"))
 hn:W.specialIn K (.builtin "object.__class__") "__get__"=some (some (.builtin "getset_descriptor.__get__"))
 ht:W.takesIn K (.builtin "object.__class__")=some true
 hm:W.mroIn K D (.type "object")=some true
 ki:W.kitOne K (.ref D) (.ref D)=some true
section
variable {prog:Program}{w:World}{A:Around}
end
section
variable {X:Cx}
end
section
variable {X:Cx}{pins:PL}{σ:St}{H:Hp}{s:Shared}{a:Addr}{o:Obj}{kvs:List (List Key×V)}
end
end L2
namespace L2
open PySem PySem.Spec PySem.Builtin
section
variable {X:Cx}
end
end L2
namespace L2
open PySem PySem.Spec PyProof.Rows
section
variable {X:Cx}{C D f:Addr}{fd:FuncData}{k:Nat}{x dn a:Str}{np cpos pos apos pos':Pos}{e o value:Expr}{es:List Expr}{t:TA}{ta tv:TE}{ps:LS}
end
end L2
namespace L2
open PySem PySem.Spec PySem.Builtin
section
variable {X:Cx}
end
section
variable {X:Cx}
end
end L2
namespace L2
open PySem PySem.Spec PyProof.Rows
structure ZLt(h:Heap)(z ti to i1 i2 l1 l2:Addr)(k:Nat)(f:Value):Prop where
 z:IsZip h z ti to f
 ti:IsPair h ti (.ref i1) (.ref i2)
 to:∃ a b,IsPair h to a b
 i1:h.IsListIter i1 l1 k
 i2:h.IsListIter i2 l2 k
section
variable {prog:Program}{w:World}{A:Around}{E:EV}{s:Shared}
end
section
variable {X:Cx}
end
structure Tp(K:Fg)(x:Str)(st:Stmt)(f:Addr)(fd:FuncData):Prop where
 a:W.nsIn K mainGlobals x=some (some (.ref f))
 fn:Fun K x x st f fd
structure Mp(K:Fg)(C:Addr)(x q:Str)(st:Stmt)(f:Addr)(fd:FuncData):Prop where
 a:W.findIn K (.ref C) x=some (some (.ref f))
 i:W.isFn K (.ref f)=true
 fn:Fun K x q st f fd
structure Cp(K:Fg)(x:Str)(C:Addr):Prop where
 a:W.nsIn K mainGlobals x=some (some (.ref C))
 pg:W.plainGet K C Str.empty=true
 hd:W.hasDictIn K C=true
 po:W.plainOver K C=true
 sa:W.findIn K (.ref C) "__setattr__"=some (some (.builtin "object.__setattr__"))
 mx:W.makesIn K C=true
 kc:W.keepIn K (.ref C)=true
section
variable {K:Fg}{x q:Str}{st:Stmt}{f C:Addr}{oc:Value}{od an:Option Addr}{osl:Array (OU)}{kV doc pm cdv ct:Value}
def tp(a:W.nsIn K mainGlobals x=some (some (.ref f)))(l:K.lookup f=some ⟨oc,od,.func (W.fnOf x x (Zc5 st) (Za7 st) (Zad st) .none kV doc pm an cdv ct),osl⟩)(c:W.codeIn K cdv x=true)(k:W.keepIn K (.ref f)=true):
  Tp K x st f (W.fnOf x x (Zc5 st) (Za7 st) (Zad st) .none kV doc pm an cdv ct):=⟨a,Zz4 l c k⟩
def mp(a:W.findIn K (.ref C) x=some (some (.ref f)))(i:W.isFn K (.ref f)=true)(l:K.lookup f=some ⟨oc,od,.func (W.fnOf x q (Zc5 st) (Za7 st) (Zad st) .none kV doc pm an cdv ct),osl⟩)(c:W.codeIn K cdv q=true)(k:W.keepIn K (.ref f)=true):
  Mp K C x q st f (W.fnOf x q (Zc5 st) (Za7 st) (Zad st) .none kV doc pm an cdv ct):=⟨a,i,Zz4 l c k⟩
end
section
variable {K:Fg}{mg:Str->OU}{x q:Str}{st:Stmt}{f:Addr}{fd:FuncData}{h:Heap}
def ln1{us:LU}(h:us.length=1):∃ a,us=[a]:=List.length_eq_one_iff.mp h
def ln2{us:LU}(h:us.length=2):∃ a b,us=[a,b]:=by
 cases us with
 | nil=>cases h
 | cons a r=>obtain⟨_,rfl⟩:=ln1 (Yk4 h);exact⟨_,_,rfl⟩
def ln3{us:LU}(h:us.length=3):∃ a b c,us=[a,b,c]:=by
 cases us with
 | nil=>cases h
 | cons a r=>obtain⟨_,_,rfl⟩:=ln2 (Yk4 h);exact⟨_,_,_,rfl⟩
def ln4{us:LU}(h:us.length=4):∃ a b c d,us=[a,b,c,d]:=by
 cases us with
 | nil=>cases h
 | cons a r=>obtain⟨_,_,_,rfl⟩:=ln3 (Yk4 h);exact⟨_,_,_,_,rfl⟩
def ln5{us:LU}(h:us.length=5):∃ a b c d e,us=[a,b,c,d,e]:=by
 cases us with
 | nil=>cases h
 | cons a r=>obtain⟨_,_,_,_,rfl⟩:=ln4 (Yk4 h);exact⟨_,_,_,_,_,rfl⟩
def ln6{us:LU}(h:us.length=6):∃ a b c d e f,us=[a,b,c,d,e,f]:=by
 cases us with
 | nil=>cases h
 | cons a r=>obtain⟨_,_,_,_,_,rfl⟩:=ln5 (Yk4 h);exact⟨_,_,_,_,_,_,rfl⟩
def ln7{us:LU}(h:us.length=7):∃ a b c d e f g,us=[a,b,c,d,e,f,g]:=by
 cases us with
 | nil=>cases h
 | cons a r=>obtain⟨_,_,_,_,_,_,rfl⟩:=ln6 (Yk4 h);exact⟨_,_,_,_,_,_,_,rfl⟩
def bn1(a:Str)(F:Fun K x q st f fd)(e:∀(kV doc pm:Value) (an:Option Addr) (cdv ct u:Value),bindArgs (W.fnOf x q (Zc5 st) (Za7 st) (Zad st) .none kV doc pm an cdv ct) ⟨[u],[]⟩=pure ([a].zip [u]):=by intros;rfl):Zeh K fd [a] [] :=
 F.binds λ_ _ _ _ _ _ us hl=>by
 obtain⟨_,rfl⟩:=ln1 hl
 exact e ..
def bn2(a b:Str)(F:Fun K x q st f fd)(e:∀(kV doc pm:Value) (an:Option Addr) (cdv ct u v:Value),bindArgs (W.fnOf x q (Zc5 st) (Za7 st) (Zad st) .none kV doc pm an cdv ct) ⟨[u,v],[]⟩=pure ([a,b].zip [u,v]):=by intros;rfl):Zeh K fd [a,b] [] :=
 F.binds λ_ _ _ _ _ _ us hl=>by
 obtain⟨_,_,rfl⟩:=ln2 hl
 exact e ..
def bn3(a b c:Str)(F:Fun K x q st f fd)(e:∀(kV doc pm:Value) (an:Option Addr) (cdv ct u v w:Value),bindArgs (W.fnOf x q (Zc5 st) (Za7 st) (Zad st) .none kV doc pm an cdv ct) ⟨[u,v,w],[]⟩=pure ([a,b,c].zip [u,v,w]):=by intros;rfl):Zeh K fd [a,b,c] [] :=
 F.binds λ_ _ _ _ _ _ us hl=>by
 obtain⟨_,_,_,rfl⟩:=ln3 hl
 exact e ..
def bn4(a b c d:Str)(F:Fun K x q st f fd)(e:∀(kV doc pm:Value) (an:Option Addr) (cdv ct u v w y:Value),bindArgs (W.fnOf x q (Zc5 st) (Za7 st) (Zad st) .none kV doc pm an cdv ct) ⟨[u,v,w,y],[]⟩=pure ([a,b,c,d].zip [u,v,w,y]):=by intros;rfl):Zeh K fd [a,b,c,d] [] :=
 F.binds λ_ _ _ _ _ _ us hl=>by
 obtain⟨_,_,_,_,rfl⟩:=ln4 hl
 exact e ..
def bn5(a b c d g:Str)(F:Fun K x q st f fd)(e:∀(kV doc pm:Value) (an:Option Addr) (cdv ct u v w y z:Value),bindArgs (W.fnOf x q (Zc5 st) (Za7 st) (Zad st) .none kV doc pm an cdv ct) ⟨[u,v,w,y,z],[]⟩=pure ([a,b,c,d,g].zip [u,v,w,y,z]):=by intros;rfl):Zeh K fd [a,b,c,d,g] [] :=
 F.binds λ_ _ _ _ _ _ us hl=>by
 obtain⟨_,_,_,_,_,rfl⟩:=ln5 hl
 exact e ..
def bn6(a b c d g i:Str)(F:Fun K x q st f fd)(e:∀(kV doc pm:Value) (an:Option Addr) (cdv ct u v w y z r:Value),bindArgs (W.fnOf x q (Zc5 st) (Za7 st) (Zad st) .none kV doc pm an cdv ct) ⟨[u,v,w,y,z,r],[]⟩=pure ([a,b,c,d,g,i].zip [u,v,w,y,z,r]):=by intros;rfl):Zeh K fd [a,b,c,d,g,i] [] :=
 F.binds λ_ _ _ _ _ _ us hl=>by
 obtain⟨_,_,_,_,_,_,rfl⟩:=ln6 hl
 exact e ..
def bn7(a b c d g i j:Str)(F:Fun K x q st f fd)(e:∀(kV doc pm:Value) (an:Option Addr) (cdv ct u v w y z r s:Value),bindArgs (W.fnOf x q (Zc5 st) (Za7 st) (Zad st) .none kV doc pm an cdv ct) ⟨[u,v,w,y,z,r,s],[]⟩=pure ([a,b,c,d,g,i,j].zip [u,v,w,y,z,r,s]):=by intros;rfl):Zeh K fd [a,b,c,d,g,i,j] [] :=
 F.binds λ_ _ _ _ _ _ us hl=>by
 obtain⟨_,_,_,_,_,_,_,rfl⟩:=ln7 hl
 exact e ..
def df{ps:LS}(X:K.In h)(G:h.Ns mainGlobals mg)(T:Tp K x st f fd)(b:Zeh K fd ps []):Def K mg x st ps f fd:=⟨T.fn,b,W.mg_of X G T.a⟩
theorem Tp.ex{x q:Str}(F:Fun K x q st f fd):∃(kV doc pm:Value) (an:Option Addr) (cdv ct:Value),fd=W.fnOf x q (Zc5 st) (Za7 st) (Zad st) .none kV doc pm an cdv ct:=by
 obtain⟨oc,od,kV,doc,pm,an,cdv,ct,osl,e,_⟩:=F.ex
 exact⟨kV,doc,pm,an,cdv,ct,e⟩
end
end L2
namespace PySem
open Builtin AutoSeq1
set_option maxRecDepth 8000 in
def Zjl(l:Addr)(items:Array Value)(n:Nat)(b:Addr)(items2:Array Value)(n2:Nat)(dt:Option Addr)(sl:Array (OU))(hs0:¬(!items.isEmpty&&Builtin.List.listTooLong (items.size + items2.size))=true)(hs1:items.size<=sizeLine)(hs2:items.size + items2.size<=sizeLine + 1):
  Meets (Builtin.«list.extend» ⟨[.ref l,.ref b],[]⟩) (λ_ R s=>s.heap.get? l=some {cls:=.type "list",dict:=none,data:=.seq items n,slots:=#[] }/\s.heap.get? b=some {cls:=.type "tuple",dict:=dt,data:=.seq items2 n2,slots:=sl}/\R (.ok (.ret Value.none)) {s with heap:=s.heap.update l (Obj.mapSeq λx=>x++items2),toks:=s.toks}):=
 .of_wp λprog w A R s h=>by
  obtain⟨hp,g,d,tk,os⟩:=s;obtain⟨hl,hb,h⟩:=h;have f1:=idx_int;have f2:=sub_tuple_tuple;have f3:=sub_list_list;have f4:=sub_tuple_list;have f5:=sub_list_tuple;
  have hz':(items++items2).size<=sizeLine + 1:=by rw[Array.size_append];exact hs2
  wp_walk using(wpAny_updateSeq hl rfl (hz:=hs1) (_hz':=hz')),wpAny_loadPart' hl,wpAny_loadPart' hb;exact⟨_,rfl,h⟩
end PySem
namespace L2
open PySem PySem.Spec PyProof.Rows
section
variable {X:Cx}
def Z6d(K:Fg):V->LV->Hp->VK->Prop:=λx vs H Q=>∃ l b xs zs,x=.ref l/\vs=[.ref b]/\H l=some (.lst xs)/\SqT K H b zs/\xs.length + zs.length<=sizeLine/\Q .non (upd H l (.lst (xs++zs)))
def Z1q:MtM X "list.extend" (Z6d X.K):=by
 intro pins s σ H x vs v us Q I rx rv h
 obtain⟨l,b,xs,zs,rfl,rfl,hH,hB,hz,q⟩:=h
 cases rx
 obtain⟨u,rfl,ru⟩:=rv.one
 cases ru
 obtain⟨z,its,n,r,hl,e⟩:=I.lstM hH
 obtain⟨its2,r2,⟨⟨cl,dt,dat,sl⟩,e2,hc2,n2,hd2⟩,hl2⟩:=I.tuple hB
 dsimp only at hc2 hd2
 subst hc2 hd2
 have l2:=r2.length
 have hsz:its.toArray.size + its2.toArray.size<=sizeLine:=by rw[Yl,Yl];omega
 have hlong:¬ (!its.toArray.isEmpty&&Builtin.List.listTooLong (its.toArray.size + its2.toArray.size))=true:=by
  rw[Zmj hsz,Bool.and_false]
  exact Yg
 refine call_meets F.slot_list_extend ⟨_,e,rfl⟩ F.entry_list_extend (F.args_list_extend_2 _ _)
  (Zjl l its.toArray n b its2.toArray n2 dt sl hlong (by rw[Yl];omega) (by omega)) ⟨e,e2,?_⟩
 refine⟨.non,_,I.lset (its':=its++its2) hH e (by simp) (r.append r2) ?_,rfl,q⟩
 rw[Yi]
 omega
def Z5w(K:Fg)(ta:TE):TE:=λσ H Q=>ta σ H λx H1=>∃ k,Z63 K x H1 k/\Q (.bl (!k)) H1
def Z03{a:Expr}{ta:TE}{pos:Pos}(ha:PE X a ta):PE X (.UnaryOp .Not a pos) (Z5w X.K ta):=by
 ac_rfl
 refine UnaryOp_ (thn (ha pins s σ H _ I h) λv s1 ⟨x,H1,I1,r1,k,ty,q⟩=>?_)
 exact not_of (thn (Zza pins s1 σ H1 x v (λc H2=>Q (.bl (!c)) H2) I1 r1 ⟨k,ty,q⟩) λc s2 ⟨H2,I2,q2⟩=>⟨.bl (!c),H2,I2,rfl,q2⟩)
end
end L2
namespace L2
open PySem PySem.Spec PyProof.Rows PySem.W
section
variable {X:Cx}
def Z78(K:Fg)(f:Bool->Bool):R2:=λx y H Q=>∃ d e,Rep K H x d/\Rep K H y e/\(kqdP d).canLay0=true/\(kqdP e).canLay0=true/\(kqdP e).depth<=60/\Q (.bl (f (PyData.eqv (kqdP d) (kqdP e)))) H
def Z35(hu:X.A.units + 64<cLine):OpR X (compareOp .Eq) (Z78 X.K id):=by
 exfalso
 obtain⟨d,e,h1,h2,k1,k2,k3,q⟩:=h
 obtain⟨as,ra⟩:=h1.reads I rx
 obtain⟨bs,rb⟩:=h2.reads I ry
 exact SeqAt.compareEq_reads ra rb k1 k2 (by have:=Nat.min_le_right (kqdP d).depth (kqdP e).depth;omega) (Zbl I q rfl)
def Zzx(hu:X.A.units + 64<cLine):OpR X (compareOp .NotEq) (Z78 X.K Bool.not):=by
 exfalso
 obtain⟨d,e,h1,h2,k1,k2,k3,q⟩:=h
 obtain⟨as,ra⟩:=h1.reads I rx
 obtain⟨bs,rb⟩:=h2.reads I ry
 exact SeqAt.compareNe_reads ra rb k1 k2 (by have:=Nat.min_le_right (kqdP d).depth (kqdP e).depth;omega) (Zbl I q rfl)
def Zrp(ds:List Dat):PyData.eqv (kqdP (.list ds)) (kqdP (.list []))=ds.isEmpty:=by
 rw[kqdP,kqdP,kqdPs]
 cases ds with
 | nil=>rw[kqdPs];rfl
 | cons d r=>rw[kqdPs];rfl
def Zyx(ds:List Dat):PyData.eqv (kqdP (.tuple ds)) (kqdP (.tuple []))=ds.isEmpty:=by
 rw[kqdP,kqdP,kqdPs]
 cases ds with
 | nil=>rw[kqdPs];rfl
 | cons d r=>rw[kqdPs];rfl
def Zrh:(kqdP (.list [])).canLay0=true:=by rw[kqdP,kqdPs];rfl
def Zyg:(kqdP (.tuple [])).canLay0=true:=by rw[kqdP,kqdPs];rfl
def Zrr:(kqdP (.list [])).depth<=60:=by rw[kqdP,kqdPs];decide
def Zy2:(kqdP (.tuple [])).depth<=60:=by rw[kqdP,kqdPs];decide
end
end L2
namespace L2
open PySem PySem.Spec PyProof.Rows
structure Qp(K:Fg)(x:Str)(C:Addr):Prop where
 a:W.nsIn K mainGlobals x=some (some (.ref C))
 cl:W.isClsIn K C=true
 ty:W.typeIn K (.ref C)=some (.type "type")
structure S15(K:Fg)(q Q0 Q1 Q2 Q3 Q4 Q5 Q6 Q7 Q8 Q9 Q10 Q11 Q12 Q13 Q14:Addr)(b0 b1 b2 b3 b4 b5 b6 b7 b8 b9 b10 b11 b12 b13 b14:Bool):Prop where
 f0:W.subIn K (.ref q) (.ref Q0)=some b0
 f1:W.subIn K (.ref q) (.ref Q1)=some b1
 f2:W.subIn K (.ref q) (.ref Q2)=some b2
 f3:W.subIn K (.ref q) (.ref Q3)=some b3
 f4:W.subIn K (.ref q) (.ref Q4)=some b4
 f5:W.subIn K (.ref q) (.ref Q5)=some b5
 f6:W.subIn K (.ref q) (.ref Q6)=some b6
 f7:W.subIn K (.ref q) (.ref Q7)=some b7
 f8:W.subIn K (.ref q) (.ref Q8)=some b8
 f9:W.subIn K (.ref q) (.ref Q9)=some b9
 f10:W.subIn K (.ref q) (.ref Q10)=some b10
 f11:W.subIn K (.ref q) (.ref Q11)=some b11
 f12:W.subIn K (.ref q) (.ref Q12)=some b12
 f13:W.subIn K (.ref q) (.ref Q13)=some b13
 f14:W.subIn K (.ref q) (.ref Q14)=some b14
section
variable {K:Fg}{C D N:Addr}{nm q a:Str}{bs sub bm:LU}{hd ab:Bool}{sn:LS}{col:Option Bool}{dd:Option Addr}{k0 k1 k2 k3 k5:OU}
def qc(l:K.lookup C=some (excClassObj nm q C N bs bm hd sn sub ab col dd k0 k1 k2 k3 k5 "ValueError.__new__"))(v:W.subIn K (.ref C) (.type "ValueError")=some true)(b:W.subIn K (.ref C) (.type "BaseException")=some true)(t:W.subIn K (.ref C) (.type "AttributeError")=some false)(n:W.subIn K (.ref C) (.type "NameError")=some false)(k:W.keepIn K (.ref C)=true):ExC K C :=
 ⟨⟨_,_,_,_,_,_,_,_,_,_,_,_,_,_,_,_,l⟩,v,b,t,n,k⟩
def qa(l:K.lookup C=some (excClassObj nm q C N bs bm hd sn sub ab col dd k0 k1 k2 k3 k5 "ValueError.__new__"))(v:W.subIn K (.ref C) (.type "ValueError")=some true)(b:W.subIn K (.ref C) (.type "BaseException")=some true)(t:W.subIn K (.ref C) (.type "AttributeError")=some false)(n:W.subIn K (.ref C) (.type "NameError")=some false)(k:W.keepIn K (.ref C)=true)
  (ga:W.findIn K (.ref C) "__getattribute__"=some (some (.builtin "BaseException.__getattribute__"))) (gt:W.findIn K (.ref C) "__getattr__"=some none) (ca:W.findIn K (.ref C) "__class__"=some (some (.builtin "object.__class__"))) (cg:W.specialIn K (.builtin "object.__class__") "__get__"=some (some (.builtin "getset_descriptor.__get__"))) (ct:W.takesIn K (.builtin "object.__class__")=some true) (ob:W.mroIn K C (.type "object")=some true):ExA K C:=⟨qc l v b t n k,ga,gt,ca,cg,ct,ob⟩
def qi(l:K.lookup C=some (excClassObj nm q C N bs [.ref D,.type "ValueError",.type "Exception",.type "BaseException",.type "object"] true sn sub ab col dd k0 k1 k2 k3 k5 "ValueError.__new__"))(v:W.subIn K (.ref C) (.type "ValueError")=some true)(b:W.subIn K (.ref C) (.type "BaseException")=some true)(t:W.subIn K (.ref C) (.type "AttributeError")=some false)(n:W.subIn K (.ref C) (.type "NameError")=some false)(k:W.keepIn K (.ref C)=true)
  (ga:W.findIn K (.ref C) "__getattribute__"=some (some (.builtin "BaseException.__getattribute__"))) (gt:W.findIn K (.ref C) "__getattr__"=some none) (ca:W.findIn K (.ref C) "__class__"=some (some (.builtin "object.__class__"))) (cg:W.specialIn K (.builtin "object.__class__") "__get__"=some (some (.builtin "getset_descriptor.__get__"))) (ct:W.takesIn K (.builtin "object.__class__")=some true) (ob:W.mroIn K C (.type "object")=some true) (sa:W.findIn K (.ref C) "__setattr__"=some (some (.builtin "object.__setattr__"))) (na:W.findIn K (.ref C) a=some none):ExI K C D a:=⟨qa l v b t n k ga gt ca cg ct ob,⟨_,_,_,_,_,_,_,_,_,_,_,_,_,_,l⟩,sa,na⟩
end
end L2
namespace K64
open PySem L2
variable {P:Program}{w:World}{K:Fg}{mg:Str->OU}{base:Heap}
def top(i:Nat):Stmt:=PySem.Challenge.pw_manydeeds_k64_fillings_refused.main.body.getD i (.Pass ⟨0,0,0,0⟩)
abbrev Zdz:Stmt:=Zct (top 3) 0
abbrev Zec:Stmt:=top 22
abbrev Zdj:Stmt:=top 23
abbrev Zeq:Stmt:=top 24
abbrev Zej:Stmt:=Zct (top 25) 0
abbrev Zeu:Stmt:=Zct (top 25) 1
abbrev Zd9:Stmt:=Zct (top 25) 2
abbrev Zev:Stmt:=Zct (top 25) 3
abbrev Zfi:Stmt:=top 27
abbrev Zhg:Stmt:=top 28
abbrev Zg3:Stmt:=top 29
abbrev Zci:Stmt:=top 30
abbrev Zdk:Stmt:=top 31
abbrev Zh8:Stmt:=top 32
abbrev Zh7:Stmt:=top 33
abbrev Zq0:Stmt:=top 34
abbrev Ze5:Stmt:=top 39
abbrev Zhi:Stmt:=top 40
abbrev Zhj:Stmt:=top 41
abbrev Zhk:Stmt:=top 42
abbrev Zf5:Stmt:=top 43
abbrev Zb2:Stmt:=top 44
abbrev Ze4:Stmt:=top 45
abbrev Zb9:Stmt:=top 46
abbrev Zhh:Stmt:=top 47
abbrev Zf4:Stmt:=top 48
abbrev Zuc:Stmt:=top 49
abbrev Ze3:Stmt:=top 55
abbrev Zfh:Stmt:=top 56
abbrev Zgm:Stmt:=top 57
abbrev Zcv:Stmt:=top 58
abbrev Zf6:Stmt:=top 59
abbrev Zgl:Stmt:=top 60
abbrev Zgn:Stmt:=top 61
abbrev Zei:Stmt:=Zct (top 62) 0
abbrev Zgo:Stmt:=Zct (top 62) 1
abbrev Zce:Stmt:=Zct (top 62) 2
abbrev Zes:Stmt:=Zct (top 62) 3
abbrev Zet:Stmt:=Zct (top 62) 6
abbrev Zdl:Stmt:=Zct (top 62) 9
abbrev Zep:Stmt:=top 65
abbrev Zcr:Stmt:=Zct (top 66) 0
abbrev Zcy:Stmt:=Zct (top 66) 1
abbrev Zfp:Stmt:=Zct (top 66) 2
abbrev Zfn:Stmt:=Zct (top 66) 3
abbrev Zfq:Stmt:=Zct (top 66) 4
abbrev Zfo:Stmt:=Zct (top 66) 5
abbrev Zcj:Stmt:=top 69
abbrev Zg4:Stmt:=top 70
abbrev Zf7:Stmt:=top 72
abbrev Za5:Stmt:=top 73
abbrev Zbx:Stmt:=top 74
abbrev Zba:Stmt:=top 75
abbrev Zfj:Stmt:=top 76
abbrev Zdw:Stmt:=top 77
abbrev Zdy:Stmt:=top 78
abbrev Zfm:Stmt:=top 79
abbrev Zdf:Stmt:=top 80
abbrev Zer:Stmt:=top 82
abbrev Zed:Stmt:=top 83
abbrev Zde:Stmt:=top 84
abbrev Zfl:Stmt:=top 85
abbrev Zc9:Stmt:=top 86
abbrev Zd7:Stmt:=top 87
abbrev Za8:Stmt:=top 89
abbrev Zdx:Stmt:=top 90
abbrev Zcw:Stmt:=top 91
abbrev Zc8:Stmt:=top 92
abbrev Zfk:Stmt:=top 93
abbrev Zd8:Stmt:=top 94
abbrev Zdg:Stmt:=top 95
abbrev Zcx:Stmt:=top 96
abbrev Zf8:Stmt:=top 97
abbrev Ze6:Stmt:=top 98
abbrev Zxf:Stmt:=top 99
end K64
namespace K64
open PySem L2 Md
variable {P:Program}{w:World}{K:Fg}{mg:Str->OU}{base:Heap}
def Z0n(K:Fg):Sp:=λvs H Q _=>∃(a:Addr) (k:Int) (ns:List Int),vs=[.ref a,.int k]/\SqL K H a (ns.map V.int)/\ns.length<=100/\0<=k/\k<=1000/\∀ p o,H p=none->Zh2 o->Q (.ref p) (upd H p o)
def Zfg:Sp:=λvs H Q _=>∃(p:Addr) (m:Int) (o:HO),vs=[.ref p,.int m]/\H p=some o/\Zh2 o/\0<m/\m<4611686018427387904/\∀(v:Int) o',0<=v->v<m->Zh2 o'->Q (.int v) (upd H p o')
def Zjx:Sp:=λvs H Q _=>∃ n:Nat,vs=[.int n]/\n<26 ^ 9/\Q (.str (Zcf n)) H
def Zub:Zak ["script","k","cell","rest"] ["script","k"] (Zad Zf7):=by nofun
def Zwq:(10:Int) ^ (64:Int).toNat * 10 ^ (64:Int).toNat * 10 ^ (64:Int).toNat * 10 ^ (64:Int).toNat=10 ^ 256:=by rfl'
def Z4a(F:Def K mg "_law_pot" Zf7 ["script","k"] f fd)(len:mg "len"=none):⋯ 1 f fd ["script","k"] (Z0n K):=by
 nomatch F.fn.ok Zub
 ·obtain⟨a,k,ns,rfl,_⟩:=h
  rfl
 ·obtain⟨a,k,ns,rfl,hS,hl,hk0,hk1,q⟩:=h
  ac_nf
  refine⟨_,pS (Zag (i:=2) Zub.nd rfl (Or.inl rfl) Zae)
   (Zc3 (Zaz (Zal Zmc (pv 1) (Zam Zdc (by rfl) len Yr (pC (pv 0) Zaa)) (Zaq _))
    (Zac (Zag (i:=2) Zub.nd rfl (Or.inl rfl) (Za0 Zg8 (Za3 Zay (pv 0) (pv 1) (λ_ _=>rfl))
     (Za0 Zpn (Za0 Zpn (Za0 Zpn (Za0 Zjc Zae Zae) (Za0 Zjc Zae Zae)) (Za0 Zjc Zae Zae)) (Za0 Zjc Zae Zae))))) Zai)
   (pS (Zag (i:=3) Zub.nd rfl (Or.inl rfl) Zae)
   (Zc3 (Zaz (Zal Z07 (pv 2) (Za0 Zjc Zae Zae) (Zaq _)) (Zac (Zag (i:=3) Zub.nd rfl (Or.inl rfl) (pv 2))) Zai)
   (Zac (Zao (Zbj (pC (pv 3) (pC (Za0 Zg8 (Za0 Zig (Za0 Zbz (Za0 Zbz (Za0 Zg8 (pv 2) Zae) (Za0 Zig Zae (pv 1))) Zae) Zae) Zae) Zaa)))))))),?_⟩
  exists let b:=Zqn _ a;let c:=Zar _ b;let e:=_;let f:=Zqn (Zhf _ e _) c;Zar _ f _ _ _
  let Hv1:SW:=λσ' H'=>H'=H/\∃ c:Int,0<=c/\c<10 ^ 256/\σ'=[some (.ref a),some (.int k),some (.int c),none]
  refine⟨Hv1,?_,?_⟩
  ·refine⟨_,rfl,_,rfl,_,_,rfl,.inl ⟨_,hS,rfl⟩,_,_,rfl,rfl,_,rfl,?_⟩
   refine Zdu (λh1=>?_) (λh1=>?_)
   ·have h1:k<((ns.map V.int).length:Int):=Je h1
    rw[Ya]at h1
    have hi:k.toNat<ns.length:=by omega
    have hat:atI (ns.map V.int) k=some (V.int ns[k.toNat]):=by
     have e:(ns.map V.int)[k.toNat]?=some (V.int ns[k.toNat]):=by rw[Yp,Yh hi];rfl
     have:=Zb5 e
     rwa [Yp1 hk0]at this
    refine⟨_,rfl,_,rfl,_,_,_,_,rfl,rfl,hS,hat,_,_,rfl,rfl,⟨by decide,by decide,by rfl'⟩,_,_,rfl,rfl,⟨by decide,by decide,by rfl'⟩,_,_,rfl,rfl,⟨by rfl',by rfl'⟩,
     _,_,rfl,rfl,⟨by decide,by decide,by rfl'⟩,_,_,rfl,rfl,⟨by rfl',by rfl'⟩,_,_,rfl,rfl,⟨by decide,by decide,by rfl'⟩,_,_,rfl,rfl,⟨by rfl',by rfl'⟩,_,_,rfl,rfl,?_,rfl,_,?_,?_,rfl⟩
    ·show(0:Int)<_
     rw[Zwq];rfl'
    ·rw[Zwq];exact Yj3 _ (by rfl')
    ·rw[Zwq];exact Yw2 _ (by rfl')
   ·exact⟨rfl,0,by decide,by rfl',rfl⟩
  ·rintro σ' H' ⟨rfl,c,hc0,hc1,rfl⟩
   let Hv2:SW:=λσ2 H2=>H2=H'/\∃ r:Int,0<=r/\r<10 ^ 256/\σ2=[some (.ref a),some (.int k),some (.int c),some (.int r)]
   refine⟨Hv2,?_,?_⟩
   ·refine⟨_,rfl,_,_,rfl,rfl,⟨by decide,by decide,by rfl'⟩,_,_,rfl,rfl,_,rfl,?_⟩
    refine Zdu (λh1=>?_) (λh1=>?_)
    ·exact⟨_,rfl,rfl,c,hc0,hc1,rfl⟩
    ·exact⟨rfl,0,by decide,by rfl',rfl⟩
   ·rintro σ2 H2 ⟨rfl,r,hr0,hr1,rfl⟩
    have m0:=Yj3 c (b:=2147483629) (by decide)
    have m1:=Yw2 c (b:=2147483629) (by decide)
    refine⟨_,rfl,_,rfl,_,_,rfl,rfl,(by show(0:Int)<2147483629;decide),_,rfl,_,_,rfl,rfl,.inl ⟨by decide,by decide⟩,_,_,rfl,rfl,_,_,rfl,rfl,_,_,rfl,rfl,.inr ⟨by decide,by decide⟩,_,_,rfl,rfl,(by show(0:Int)<2147483647;decide),sL (by show 2<=100000;decide),λp hp=>?_⟩
    refine q p _ hp ⟨r,_,rfl,hr0,hr1,Yj3 _ (by decide),Yw2 _ (by decide)⟩
def Zzl:Zak ["pot","many","found"] ["pot","many"] (Zad Za5):=by nofun
def Zj7(F:Def K mg "_law_take" Za5 ["pot","many"] f fd):⋯ 1 f fd ["pot","many"] Zfg:=by
 nomatch F.fn.ok Zzl
 ·obtain⟨p,m,o,rfl,_⟩:=h
  rfl
 ·obtain⟨p,m,o,rfl,hp,⟨r,b,rfl,hr0,hr1,hb0,hb1⟩,hm0,hm1,q⟩:=h
  ac_nf
  refine⟨_,pS (Zaz (Zal Zih (Za3 Zay (pv 0) Zae (λ_ _=>rfl)) Zae (Zaq _))
    (pS (Zag (i:=2) Zzl.nd rfl (Or.inl rfl) (Za0 Zg8 (Za3 Zay (pv 0) Zae (λ_ _=>rfl)) (pv 1)))
    (pS (Zq3 (Za0 Zxq (Za3 Zay (pv 0) Zae (λ_ _=>rfl)) (pv 1)) (Zup (pv 0) Zae Zl4)) (Zac (Zao (pv 2))))) Zai)
   (pS (Zq3 (Za0 Zg8 (Za0 Zbz (Za0 Zig (Za3 Zay (pv 0) Zae (λ_ _=>rfl)) Zae) Zae) Zae) (Zup (pv 0) Zae Zl4))
   (Zac (Zao (Za0 Zg8 (Za0 Zpo (Za0 Zg8 (Za0 Zig (Za3 Zay (pv 0) Zae (λ_ _=>rfl)) (Za3 Zay (pv 0) Zae (λ_ _=>rfl))) Zae) Zae) (pv 1))))),?_⟩
  exists let b:=Zar _ a;let c:=_;let e:=Zar _ c;let f:=Zar _ e;Zar (Zhf _ f _) b _ _ _
  refine⟨_,rfl,p,_,_,_,rfl,rfl,SqL.of hp,rfl,_,_,rfl,rfl,_,rfl,?_⟩
  refine Zdu (λh1=>?_) (λh1=>?_)
  ·refine⟨_,rfl,p,_,_,_,rfl,rfl,SqL.of hp,rfl,_,rfl,_,_,rfl,rfl,hm0,?_⟩
   refine⟨_,rfl,p,_,_,_,rfl,rfl,SqL.of hp,rfl,_,rfl,_,_,rfl,rfl,⟨hm0,hm1⟩,?_⟩
   refine⟨_,rfl,p,_,_,0,rfl,rfl,hp,rfl,_,rfl,?_⟩
   have h1:0<r:=Je h1
   exact q _ _ (Yj3 _ (by omega)) (Yw2 _ hm0) ⟨r / m,b,rfl,Int.ediv_nonneg hr0 (by omega),Int.lt_of_le_of_lt (Int.ediv_le_self _ hr0) hr1,hb0,hb1⟩
  ·refine⟨_,rfl,p,_,_,_,rfl,rfl,SqL.of hp,rfl,_,_,rfl,rfl,.inr ⟨by decide,by decide⟩,_,_,rfl,rfl,_,_,rfl,rfl,(by show(0:Int)<2147483647;decide),?_⟩
   refine⟨_,rfl,p,_,_,1,rfl,rfl,hp,rfl,?_⟩
   have m0:=Yj3 (b * 69621 + 12345) (b:=2147483647) (by decide)
   have m1:=Yw2 (b * 69621 + 12345) (b:=2147483647) (by decide)
   refine⟨_,rfl,p,_,_,_,rfl,rfl,SqL.of uS,rfl,_,rfl,p,_,_,_,rfl,rfl,SqL.of uS,rfl,_,_,rfl,rfl,.inl ⟨by omega,by omega⟩,_,_,rfl,rfl,(by show(0:Int)<2147483629;decide),_,_,rfl,rfl,⟨by decide,by decide⟩,_,rfl,_,_,rfl,rfl,hm0,?_⟩
   exact q _ _ (Yj3 _ (by omega)) (Yw2 _ hm0) ⟨r,_,rfl,hr0,hr1,m0,m1⟩
def Z3n:Zak ["number","word"] ["number"] (Zad Zbx):=by nofun
def Zld(F:Def K mg "_law_letters" Zbx ["number"] f fd):⋯ 1 f fd ["number"] Zjx:=by
 nomatch F.fn.ok Z3n
 ·obtain⟨n,rfl,_⟩:=h
  rfl
 ·obtain⟨n,rfl,hn,q⟩:=h
  have nd:=Z3n.nd
  ac_nf
  refine⟨_,pS (sE 1 nd Zca)
   (pS (Zfs Yk (Zno (Zal Zds (pv 1) Zca (Zaq _)) (Znn (Zal Zih (pv 0) Zae (Zaq _)))).pt
    (pS (sE 1 nd (Za0 Zlc (pv 1) (Za3 Zz2 Zca (Za0 Zg8 (pv 0) Zae) (λ_ _=>rfl))))
    (Zac (sE 0 nd (Za0 Zpo (pv 0) Zae)))))
   (Zac (Zao (pv 1)))),?_⟩
  exists let b:=Zar _ a;Zar _ b _ _ _
  have e0:("":Str).cps.toList=[]:=by rfl'
  have hlen:(Zbq n).length<=9:=Zfy 8 n hn
  let Hv3:NW:=λm σ H2=>H2=H/\∃(x:Str) (k:Nat),σ=[some (.int k),some (.str x)]/\m=k + (if x.cps.toList=[]then 1 else 0)/\((x.cps.toList=[]/\k=n)\/(x.cps.toList≠[]/\k=0/\x.cps.toList=Zbq n)\/(x.cps.toList≠[]/\0<k/\x.cps.toList++Zbq k=Zbq n))
  refine⟨Hv3,⟨_,rfl,_,n,rfl,rfl,.inl ⟨e0,rfl⟩⟩,?_⟩
  rintro m σ H2 ⟨rfl,x,k,rfl,rfl,inv⟩
  have more:(x.cps.toList=[]\/0<k)->∃ N:SW,(∀ σ' H',N σ' H'->∃ m',m'<k + (if x.cps.toList=[]then 1 else 0)/\(H'=H2/\∃(y:Str) (j:Nat),σ'=[some (.int j),some (.str y)]/\m'=j + (if y.cps.toList=[]then 1 else 0) /\
    ((y.cps.toList=[]/\j=n)\/(y.cps.toList≠[]/\j=0/\y.cps.toList=Zbq n)\/(y.cps.toList≠[]/\0<j/\y.cps.toList++Zbq j=Zbq n)))) /\
    N [some (.int ((k:Int) / 26)),some (.str (x++⟨#[97 + k % 26]⟩))] H2:=λhk=>by
   let Hv4:SW:=λσ' H'=>σ'=[some (.int ((k:Int) / 26)),some (.str (x++⟨#[97 + k % 26]⟩))]/\H'=H2
   refine⟨Hv4,?_,rfl,rfl⟩
   rintro σ' H' ⟨rfl,rfl⟩
   have el:(x++⟨#[97 + k % 26]⟩:Str).cps.toList=x.cps.toList++[97 + k % 26]:=Zrv _ _
   have ne:(x++⟨#[97 + k % 26]⟩:Str).cps.toList≠[]:=by rw[el];simp
   have kd:((k:Int) / 26)=((k / 26:Nat):Int):=by omega
   have whole:(x.cps.toList++[97 + k % 26])++(if k / 26=0 then[]else Zbq (k / 26))=Zbq n:=by
    rw[Yn3,List.singleton_append,<- Zd3]
    rcases inv with⟨h1,h2⟩ | ⟨h1,h2,_⟩ | ⟨_,_,h3⟩
    ·rw[h1,h2];rfl
    ·rcases hk with z | z
     ·exact absurd z h1
     ·omega
    ·exact h3
   refine⟨k / 26,?_,rfl,_,k / 26,by rw[kd],by rw[if_neg ne];rfl,?_⟩
   ·rcases hk with z | z
    ·rw[if_pos z];omega
    ·have:k / 26<k:=by omega
     omega
   ·right
    rw[el]
    by_cases z:k / 26=0
    ·rw[if_pos z,Yn1]at whole
     exact .inl ⟨by simp,z,whole⟩
    ·rw[if_neg z]at whole
     exact .inr ⟨by simp,by omega,whole⟩
  have xlen:x.length<=9:=by
   rw[<- Zgk]
   rcases inv with⟨h1,_⟩ | ⟨_,_,h3⟩ | ⟨_,_,h3⟩
   ·rw[h1];simp
   ·rw[h3];exact hlen
   ·have:=congrArg List.length h3
    rw[Yi]at this
    omega
  have at1:atI letters.cps.toList ((k:Int) % 26)=some (97 + k % 26):=by
   have:=Zb5 (Zst (i:=k % 26) (by omega))
   have e:((k % 26:Nat):Int)=(k:Int) % 26:=by omega
   rwa [e]at this
  refine⟨_,rfl,rfl,_,rfl,?_⟩
  refine Zdu (λh1=>?_) (λh1=>?_)
  ·have hx:x.cps.toList=[]:=by
    have:=Je h1
    injection this with this
    rw[this];exact e0
   obtain⟨N,hN,n0⟩:=more (.inl hx)
   refine Zfe ⟨N,hN,?_⟩
   exact⟨_,rfl,_,rfl,_,_,rfl,rfl,(by show(0:Int)<26;decide),_,_,_,rfl,rfl,sL (by rw[<- Zgk,Zhp];decide),at1,_,_,rfl,rfl,sL (by rw[Zvp];omega),_,rfl,_,_,rfl,rfl,⟨by decide,by decide⟩,n0⟩
  ·have hx:x.cps.toList≠[]:=λz=>h1 (Jb (by rw[Ztp (z.trans e0.symm)]))
   refine⟨_,rfl,_,_,rfl,rfl,_,rfl,?_⟩
   refine Zdu (λh2=>?_) (λh2=>?_)
   ·have hk:0<k:=by have:(0:Int)<(k:Int):=Je h2;omega
    obtain⟨N,hN,n0⟩:=more (.inr hk)
    refine⟨N,hN,?_⟩
    exact⟨_,rfl,_,rfl,_,_,rfl,rfl,(by show(0:Int)<26;decide),_,_,_,rfl,rfl,sL (by rw[<- Zgk,Zhp];decide),at1,_,_,rfl,rfl,sL (by rw[Zvp];omega),_,rfl,_,_,rfl,rfl,⟨by decide,by decide⟩,n0⟩
   ·have hk:k=0:=by
     have:¬ (0:Int)<(k:Int):=λz=>h2 (Jb z)
     omega
    have hf:x=Zcf n:=by
     refine Ztp ?_
     rw[Zdo]
     rcases inv with⟨h1,_⟩ | ⟨_,_,h3⟩ | ⟨_,h2,_⟩
     ·exact absurd h1 hx
     ·exact h3
     ·omega
    rw[hf]
    exact⟨_,rfl,q⟩
structure Zkr(ws:LS):Prop where
 word:∀ x∈ws,Zbf x=true
 nd:ws.Nodup
def Zqp:Sp:=λvs H Q _=>∃(p a:Addr) (ws:LS),vs=[.ref p,.ref a]/\p≠a/\(∃ o,H p=some o/\Zh2 o)/\H a=some (.lst (ws.map V.str))/\Zkr ws/\ws.length<=24 /\
 ∀ x H',Drawn p H H'->Zbf x=true->x∉ws->Q (.str x) H'
def Ztq:Sp:=λvs H Q _=>∃(p:Addr) (m:Nat),vs=[.ref p,.int m]/\(∃ o,H p=some o/\Zh2 o)/\m<=24 /\
 ∀ l (ws:LS) H',Drawn p H H'->H l=none->H' l=some (.lst (ws.map V.str))->Zkr ws->ws.length=m->Q (.ref l) H'
def Zi9:LS:=["kind","under","name","deed","gives","with","none","clash","a","ab","abc","abcdefgh","even"]
def Zt7:Zi9.all Zbf=true:=by rfl'
def Zqd{ws:LS}{v:Int}(h0:0<=v)(h1:v<ws.length):∃ x,x∈ws/\atI (ws.map V.str) v=some (.str x):=by
 have hi:v.toNat<ws.length:=by omega
 have e:(ws.map V.str)[v.toNat]?=some (V.str ws[v.toNat]):=by rw[Yp,Yh hi];rfl
 have:=Zb5 e
 rw[Yp1 h0]at this
 exact⟨_,Yr2 hi,this⟩
def Zhm(ws:LS):(!dEq (.list (ws.map W.Dat.str)) (.list []))=true↔ws≠[]:=by
 cases ws with
 | nil=>simp[Zhs]
 | cons w r =>
  rw[Zkm (by simp)]
  simp
def Zn2{ws:LS}(h:∀ x∈ws,Zbf x=true):W.kqdOk 9 (.list (ws.map W.Dat.str))=true:=by
 show(ws.map W.Dat.str).all (W.kqdOk 8)=true
 rw[Yr1]
 intro d hd
 obtain⟨x,hx,e⟩:=Ye.mp hd
 rw[<- e]
 exact Zo9 (h x hx)
def Zzk:Zak ["pot","words","some","way","word","number"] ["pot","words"] (Zad Zba):=by nofun
def Zj4{x y:Str}{n:Nat}(hn:1<=n)(h:y.cps.toList=x.cps.toList.take n)(h1:1<=x.length)(h8:x.length<=8\/n<=8)(hl:∀ c∈x.cps.toList,Zke c=true):Zbf y=true:=by
 rw[Zdi,h,Yd1,Zgk]
 refine⟨⟨by omega,by omega⟩,λc hc=>hl c (Yc5 hc)⟩
def Zlr:Expr->Option (LS)
 | .Tuple es _ _=>Zqo es
 | _=>none
def Zq6{X:Cx}{ws:LS}:∀ {e:Expr},Zlr e=some ws->PE X e (Z5f (λ_ H Q=>Q (ws.map V.str) H)):=by
 intro e h
 cases e with
 | Tuple es x p=>exact Zbi (Zuu h)
 | _=>cases h
def Z2k:Stmt->Expr
 | .Assign _ e _=>e
 | _=>.Constant (.int 0) 0 ⟨0,0,0,0⟩
def hdS:List Stmt->Stmt
 | s :: _=>s
 | []=>.Pass ⟨0,0,0,0⟩
def e13:Zlr (Z2k (hdS (Za7 Zba)))=some Zi9:=by rfl'
def t13:TE:=Z5f (λ_ H Q=>Q (Zi9.map V.str) H)
def Z31{X:Cx}{e:Expr}(h:Zlr e=some Zi9):PE X e t13:=Zq6 h
def Zyn:Expr->Bool
 | .Tuple _ _ _=>true
 | _=>false
def Z3c{e:Expr}{t:Option Expr}{l:Nat}{env:Env}(h:Zyn e=true):swapsWith e t l env=pure false:=by
 cases e with
 | Tuple es x p=>rfl
 | _=>cases h
def Z5m:Stmt->Option (Str×Expr)
 | .Assign [.Name x _] e _=>some (x,e)
 | _=>none
def Zuj{X:Cx}{st:Stmt}{i:Nat}{x:Str}{e:Expr}{te:TE}(h:Z5m st=some (x,e))(he:PE X e te)(ht:Zyn e=true)(hN:X.N.Nodup)(hi:X.N[i]?=some x)(hx:Loc X.env.scope x)(hf:X.fn x=true\/X.env.scope.names.lookup x=some .local):PS X st (Zr3 te (Zff i)):=by
 unfold Z5m at h
 split at h
 ·next x' p' e' p =>
  have h1:x'=x:=congrArg Prod.fst (Yq h)
  have h2:e'=e:=congrArg Prod.snd (Yq h)
  subst h1
  subst h2
  exact Zag hN hi hx he (Z3c ht) hf
 ·cases h
def s13:Stmt:=hdS (Za7 Zba)
def Z43:Expr:=Z2k s13
def a13:Z5m s13=some (("some":Str),Z43):=by rfl
def u13:Zyn Z43=true:=by rfl'
def p13{X:Cx}:PE X Z43 t13:=@Z31 X Z43 e13
def Z6g{X:Cx}(hN:X.N.Nodup)(hi:X.N[2]?=some ("some":Str))(hx:Loc X.env.scope ("some":Str))(hf:X.fn ("some":Str)=true\/X.env.scope.names.lookup ("some":Str)=some NameKind.local):PS X s13 (Zr3 t13 (Zff 2)):=
 @Zuj X s13 2 ("some":Str) Z43 t13 a13 (@p13 X) u13 hN hi hx hf
def tlS:List Stmt->List Stmt
 | _ :: r=>r
 | []=>[]
def Zzq{X:Cx}{l:List Stmt}{t u:TS}(h0:l.isEmpty=false)(h1:PS X (hdS l) t)(h2:PSs X (tlS l) u):PSs X l (Zar t u):=by
 cases l with
 | nil=>cases h0
 | cons a r=>exact pS h1 h2
def n13:(Za7 Zba).isEmpty=false:=by rfl'
def Z3v{X:Cx}{u:TS}(hN:X.N.Nodup)(hi:X.N[2]?=some ("some":Str))(hx:Loc X.env.scope ("some":Str))(hf:X.fn ("some":Str)=true\/X.env.scope.names.lookup ("some":Str)=some NameKind.local)(h2:PSs X (tlS (Za7 Zba)) u):PSs X (Za7 Zba) (Zar (Zr3 t13 (Zff 2)) u):=
 @Zzq X (Za7 Zba) (Zr3 t13 (Zff 2)) u n13 (@Z6g X hN hi hx hf) h2
def Z6v{X:Cx}{D:Ztf}{σ:St}{H:Hp}(hN:X.N.Nodup)(hi:X.N[2]?=some ("some":Str))(hx:Loc X.env.scope ("some":Str))(hf:X.fn ("some":Str)=true\/X.env.scope.names.lookup ("some":Str)=some NameKind.local)
  (h:∃ u,PSs X (tlS (Za7 Zba)) u/\Zar (Zr3 t13 (Zff 2)) u D σ H):∃ t,PSs X (Za7 Zba) t/\t D σ H:=by
 obtain⟨u,h1,h2⟩:=h
 exact⟨Zar (Zr3 t13 (Zff 2)) u,@Z3v X u hN hi hx hf h1,h2⟩
def Zux(F:Def K mg "_law_word" Zba ["pot","words"] f fd)(DT:Def K mg "_law_take" Za5 ["pot","many"] fT fdT)(DL:Def K mg "_law_letters" Zbx ["number"] fL fdL)(len:mg "len"=none):
  ⋯ 2 f fd ["pot","words"] Zqp:=by
 have GT:⋯ 1 fT fdT ["pot","many"] Zfg:=Zj7 DT
 have GL:⋯ 1 fL fdL ["number"] Zjx:=Zld DL
 nomatch F.fn.ok Zzk
 ·obtain⟨p,a,ws,rfl,_⟩:=h
  rfl
 ·obtain⟨p,a,ws,rfl,hpa,hpot,ha,hw,hl24,q⟩:=h
  have nd:=Zzk.nd
  have hu:=hr.units
  refine @Z6v _ _ _ _ nd rfl (Or.inl rfl) (Or.inl rfl) ?_
  ac_nf
  refine⟨_,(pS (sE 3 nd (Zaf DT GT hr (pC (pv 0) (pC Zae Zaa))))
   (pS (sE 4 nd (Za3 Zbr (pv 2) (Zaf DT GT hr (pC (pv 0) (pC Zae Zaa))) (λ_ _=>rfl)))
   (Zc3 (Zaz (Zal Zds (pv 3) Zae (Zaq _)) (Zac (sE 4 nd (Zaf DL GL hr (pC (Zaf DT GT hr (pC (pv 0) (pC (Za0 Zif (Za0 Zjc Zae Zae) Zae) Zaa))) Zaa)))) Zai)
   (Zc3 (Zaz (Zia (Zal Zds (pv 3) Zae (Zaq _)) (Zgp (Zal (Zlb hu) (pv 1) (Zbj Zaa) (Zaq _)))).pt
    (pS (sE 4 nd (Za3 Zay (pv 1) (Zaf DT GT hr (pC (pv 0) (pC (Zam Zdc (by rfl) len Yr (pC (pv 1) Zaa)) Zaa))) (λ_ _=>rfl)))
    (Zac (sE 4 nd (Zdm Zzj (Za0 Zlc (pv 4) (Zaf DL GL hr (pC (Zaf DT GT hr (pC (pv 0) (pC Zae Zaa))) Zaa))) Zfa (Ze9 Zae))))) Zai)
   (Zc3 (Zaz (Zia (Zal Zds (pv 3) Zae (Zaq _)) (Zgp (Zal (Zlb hu) (pv 1) (Zbj Zaa) (Zaq _)))).pt
    (pS (sE 4 nd (Za3 Zay (pv 1) (Zaf DT GT hr (pC (pv 0) (pC (Zam Zdc (by rfl) len Yr (pC (pv 1) Zaa)) Zaa))) (λ_ _=>rfl)))
    (Zac (sE 4 nd (Zdm Zzj (pv 4) Zfa (Ze9 (Za0 Zbz Zae (Zaf DT GT hr (pC (pv 0) (pC (Zam Zdc (by rfl) len Yr (pC (pv 4) Zaa)) Zaa))))))))) Zai)
   (pS (sE 5 nd Zae)
   (pS (Zfs Yk (Zal Zg9 (pv 4) (pv 1) (by with_unfolding_all rfl))
    (pS (sE 4 nd (Zaf DL GL hr (pC (pv 5) Zaa)))
    (Zac (sE 5 nd (Za0 Zbz (pv 5) Zae)))))
   (Zac (Zao (pv 4)))))))))),?_⟩
  have hap:a≠p:=Ym hpa
  obtain⟨o0,hp0,ho0⟩:=hpot
  have wl:∀ {H':Hp},Drawn p H H'->SqL K H' a (ws.map V.str):=λd=>SqL.of (d.keep _ _ hap ha)
  refine⟨sL (by show 13<=100000;decide),λt ht=>?_⟩
  have d1:Drawn p H (upd H t (.tup (Zi9.map V.str))):=(Drawn.refl ⟨o0,hp0,ho0⟩).new ht
  have tp:t≠p:=λe=>by rw[e,hp0]at ht;cases ht
  refine⟨_,rfl,p,4,o0,rfl,(by rw[Zab (Ym tp)];exact hp0),ho0,by decide,by decide,λway o1 hw0 hw1 ho1=>?_⟩
  refine⟨_,rfl,_,rfl,p,13,o1,rfl,uS,ho1,by decide,by decide,λv o2 hv0 hv1 ho2=>?_⟩
  obtain⟨x0,hx0,hat⟩:=Zqd (ws:=Zi9) hv0 (by show v<13;exact hv1)
  refine⟨t,Zi9.map V.str,_,_,rfl,rfl,SqT.of (by rw[Zab tp,Zab tp];exact uS),hat,?_⟩
  have w0:Zbf x0=true:=Yr1.mp Zt7 x0 hx0
  have d3:Drawn p H (upd (upd (upd H t (.tup (Zi9.map V.str))) p o1) p o2):=(d1.trans (Drawn.upd ho1)).trans (Drawn.upd ho2)
  let Hv1:SW:=λσ' H'=>∃ x:Str,σ'=[some (.ref p),some (.ref a),some (.ref t),some (.int way),some (.str x),none]/\Zbf x=true/\Drawn p H H'
  refine⟨Hv1,?_,?_⟩
  ·refine⟨_,rfl,rfl,_,rfl,?_⟩
   refine Zdu (λ_=>?_) (λ_=>?_)
   ·obtain⟨o3,hp3,ho3⟩:=d3.pot
    refine⟨_,rfl,_,_,rfl,rfl,⟨by decide,by decide,by rfl'⟩,_,_,rfl,rfl,p,_,o3,rfl,hp3,ho3,by decide,by decide,λv o4 hv0 hv1 ho4=>?_⟩
    have hv1:v<208827064550:=hv1
    refine⟨v.toNat,by rw[Yp1 hv0];rfl,by omega,_,rfl,Zgr (by omega),d3.trans (Drawn.upd ho4)⟩
   ·exact⟨x0,rfl,w0,d3⟩
  ·rintro σ' H1 ⟨x1,rfl,w1,d4⟩
   let Hv2:SW:=λσ' H'=>∃ x:Str,σ'=[some (.ref p),some (.ref a),some (.ref t),some (.int way),some (.str x),none]/\Zbf x=true/\Drawn p H H'
   refine⟨Hv2,?_,?_⟩
   ·refine⟨_,rfl,rfl,_,rfl,?_⟩
    refine Zdu (λ_=>?_) (λ_=>Zcu ⟨x1,rfl,w1,d4⟩)
    refine⟨_,rfl,Yv _,λt2 ht2=>⟨.list (ws.map W.Dat.str),.list [],.list ((wl d4).mono_new ht2) (Ze7 ws),.list (SqL.of uS) .nil,Zn2 hw.word,rfl,_,rfl,?_⟩⟩
    have d5:Drawn p H (upd H1 t2 (.lst [])):=d4.new ht2
    refine Zdu (λhne=>?_) (λ_=>⟨x1,rfl,w1,d5⟩)
    have hne:ws≠[]:=(Zhm ws).mp hne
    have hpos:0<ws.length:=Yx1.mpr hne
    obtain⟨o5,hp5,ho5⟩:=d5.pot
    refine⟨_,rfl,_,rfl,_,rfl,_,_,rfl,.inl ⟨_,wl d5,rfl⟩,p,_,o5,rfl,hp5,ho5,by rw[Ya];omega,by rw[Ya];omega,λv o6 hv0 hv1 ho6=>?_⟩
    rw[Ya]at hv1
    obtain⟨x2,hx2,hat2⟩:=Zqd (ws:=ws) hv0 hv1
    have d6:Drawn p H (upd (upd H1 t2 (.lst [])) p o6):=d5.trans (Drawn.upd ho6)
    have w2:Zbf x2=true:=hw.word x2 hx2
    refine⟨a,ws.map V.str,_,_,rfl,rfl,wl d6,hat2,?_⟩
    refine⟨_,rfl,_,rfl,p,26,o6,rfl,uS,ho6,by decide,by decide,λv o7 hv0 hv1 ho7=>?_⟩
    refine⟨v.toNat,by rw[Yp1 hv0];rfl,by omega,?_⟩
    have wl3:Zbf (Zcf v.toNat)=true:=Zgr (by omega)
    have l2:=Zhe w2
    have l3:=Zhe wl3
    refine⟨_,_,rfl,rfl,sL (by omega),_,rfl,_,rfl,sL (by rw[Zvq];omega),?_⟩
    refine⟨_,rfl,?_,d6.trans (Drawn.upd ho7)⟩
    refine Zj4 (x:=x2++Zcf v.toNat) (n:=8) (by decide) (Zk3 _ 8 (by decide)) (by rw[Zvq];omega) (.inr (Yd _)) λc hc=>?_
    rw[Zrv]at hc
    rcases Yo.mp hc with hc | hc
    ·exact((Zdi x2).mp w2).2 c hc
    ·exact((Zdi _).mp wl3).2 c hc
   ·rintro σ' H2 ⟨x2,rfl,w2,d5⟩
    let Hv3:SW:=λσ' H'=>∃ x:Str,σ'=[some (.ref p),some (.ref a),some (.ref t),some (.int way),some (.str x),none]/\Zbf x=true/\Drawn p H H'
    refine⟨Hv3,?_,?_⟩
    ·refine⟨_,rfl,rfl,_,rfl,?_⟩
     refine Zdu (λ_=>?_) (λ_=>Zcu ⟨x2,rfl,w2,d5⟩)
     refine⟨_,rfl,Yv _,λt2 ht2=>⟨.list (ws.map W.Dat.str),.list [],.list ((wl d5).mono_new ht2) (Ze7 ws),.list (SqL.of uS) .nil,Zn2 hw.word,rfl,_,rfl,?_⟩⟩
     have d6:Drawn p H (upd H2 t2 (.lst [])):=d5.new ht2
     refine Zdu (λhne=>?_) (λ_=>⟨x2,rfl,w2,d6⟩)
     have hne:ws≠[]:=(Zhm ws).mp hne
     have hpos:0<ws.length:=Yx1.mpr hne
     obtain⟨o6,hp6,ho6⟩:=d6.pot
     refine⟨_,rfl,_,rfl,_,rfl,_,_,rfl,.inl ⟨_,wl d6,rfl⟩,p,_,o6,rfl,hp6,ho6,by rw[Ya];omega,by rw[Ya];omega,λv o7 hv0 hv1 ho7=>?_⟩
     rw[Ya]at hv1
     obtain⟨x3,hx3,hat3⟩:=Zqd (ws:=ws) hv0 hv1
     have d7:Drawn p H (upd (upd H2 t2 (.lst [])) p o7):=d6.trans (Drawn.upd ho7)
     have w3:Zbf x3=true:=hw.word x3 hx3
     have l3:=Zhe w3
     refine⟨a,ws.map V.str,_,_,rfl,rfl,wl d7,hat3,?_⟩
     refine⟨_,rfl,_,rfl,_,rfl,_,_,rfl,⟨sL (by omega),rfl⟩,p,_,o7,rfl,uS,ho7,by omega,by omega,λv o8 hv0 hv1 ho8=>?_⟩
     refine⟨_,_,rfl,rfl,_,rfl,_,rfl,sL (by omega),?_⟩
     refine⟨_,rfl,?_,d7.trans (Drawn.upd ho8)⟩
     exact Zj4 (x:=x3) (n:=(1 + v).toNat) (by omega) (Zk3 _ (1 + v) (by omega)) (by omega) (.inl (by omega)) ((Zdi x3).mp w3).2
    ·rintro σ' H3 ⟨x3,rfl,w3,d6⟩
     let Hv4:NW:=λm σ H'=>∃(x:Str) (n:Nat),σ=[some (.ref p),some (.ref a),some (.ref t),some (.int way),some (.str x),some (.int n)]/\Zbf x=true/\Drawn p H H'/\m=ws.length + 1 - n/\n<=ws.length + 1/\(n=0\/x=Zcf (n - 1))/\∀ j,j + 1<n->Zcf j∈ws
     refine⟨Hv4,⟨_,x3,0,rfl,w3,d6,rfl,by omega,.inl rfl,λj hj=>by omega⟩,?_⟩
     rintro m σ H4 ⟨x,n,rfl,wx,dx,rfl,hn,hxn,hall⟩
     refine⟨_,rfl,_,rfl,a,_,rfl,.inl (wl dx),rfl,Zgc ws,_,rfl,?_⟩
     show if inV (.str x) (ws.map V.str)=true then _ else _
     rw[Zi2]
     refine Zdu (λhin=>?_) (λhin=>?_)
     ·have hin:x∈ws:=Je hin
      have all:∀ j,j<n->Zcf j∈ws:=λj hj=>by
       by_cases z:j + 1<n
       ·exact hall j z
       ·rcases hxn with e | e
        ·omega
        ·have:j=n - 1:=by omega
         rw[this,<- e];exact hin
      have hle:n<=ws.length:=by
       have:=Graph.nodup_le (l:=(List.range n).map Zcf) (k:=ws) ?_ ?_
       ·simpa using this
       ·rw[Yk2,List.pairwise_map]
        exact(Yk2.mp List.nodup_range).imp λh e=>h (Zoe e)
       ·intro y hy
        obtain⟨j,hj,e⟩:=Ye.mp hy
        rw[<- e]
        exact all j (Yl2.mp hj)
      let Hv5:SW:=λσ' H'=>σ'=[some (.ref p),some (.ref a),some (.ref t),some (.int way),some (.str (Zcf n)),some (.int ((n:Int) + 1))]/\H'=H4
      refine⟨Hv5,?_,?_⟩
      ·rintro σ' H' ⟨rfl,rfl⟩
       exact⟨ws.length + 1 - (n + 1),by omega,Zcf n,n + 1,rfl,Zgr (by omega),dx,rfl,by omega,.inr rfl,λj hj=>all j (by omega)⟩
      ·exact⟨_,rfl,n,rfl,by omega,_,rfl,_,_,rfl,rfl,rfl,rfl⟩
     ·have hin:x∉ws:=λz=>hin (Jb z)
      exact⟨_,rfl,q x H4 dx wx hin⟩
def Zua:Zak ["pot","many","words","k"] ["pot","many"] (Zad Zfj):=by nofun
def Zxr(F:Def K mg "_law_words" Zfj ["pot","many"] f fd)(DW:Def K mg "_law_word" Zba ["pot","words"] fW fdW)(DT:Def K mg "_law_take" Za5 ["pot","many"] fT fdT)(DL:Def K mg "_law_letters" Zbx ["number"] fL fdL)(len:mg "len"=none)(range:mg "range"=none):
  ⋯ 3 f fd ["pot","many"] Ztq:=by
 have GW:⋯ 2 fW fdW ["pot","words"] Zqp:=Zux DW DT DL len
 nomatch F.fn.ok Zua
 ·obtain⟨p,m,rfl,_⟩:=h
  rfl
 ·obtain⟨p,m,rfl,⟨o0,hp0,ho0⟩,hm,q⟩:=h
  have nd:=Zua.nd
  ac_nf
  refine⟨_,pS (sE 2 nd (Zbj Zaa))
   (pS (Zbc Yk rfl (Zbv rfl range (pC (pv 1) Zaa)) (gE 3 nd)
    (Zac (Zax (Zf0 Yu Yi1 Yj1 Zbw (pv 2) (pC (Zaf DW GW hr (pC (pv 0) (pC (pv 2) Zaa))) Zaa)))))
   (Zac (Zao (pv 2)))),?_⟩
  exists let b:=_;let c:=Zar (Zgf _ _ b) a;Zar _ c _ _ _
  refine⟨Yv _,λl hl=>?_⟩
  have lp:p≠l:=nNo hp0 hl
  let Iv1:NW:=λi σ H'=>∃(ws:LS) (kv:OV),σ=[some (.ref p),some (.int m),some (.ref l),kv]/\Drawn p H H'/\H' l=some (.lst (ws.map V.str))/\Zkr ws/\ws.length=i
  refine⟨_,rfl,m,rfl,by omega,by omega,Zat Zbm Iv1
   ⟨[],none,rfl,(Drawn.refl ⟨o0,hp0,ho0⟩).new hl,uS,⟨(λ_ h=>nomatch h),Yf3⟩,rfl⟩ (λ_ _ _ _ _=>trivial) ?_ ?_⟩
  ·rintro i v σ H' hi ⟨ws,kv,rfl,d,hw,ok,rfl⟩
   obtain⟨hi,rfl⟩:=Za6 hi
   refine⟨_,rfl,.inl ⟨rfl,_,SqL.of hw⟩,_,rfl,_,rfl,p,l,ws,rfl,lp,d.pot,hw,ok,by omega,λx H2 d2 wx nx=>?_⟩
   have hw2:H2 l=some (.lst (ws.map V.str)):=d2.keep _ _ (Ym lp) hw
   refine⟨l,_,_,rfl,rfl,hw2,Za2 (by rw[Ya];omega),?_⟩
   refine⟨ws++[x],_,rfl,?_,by rw[uS,Yb1];rfl,⟨λy hy=>?_,?_⟩,by simp⟩
   ·refine(d.trans d2).sub (q:=l) (o':=.lst []) (λb o hb e=>by rw[Zab hb];exact e) hl lp
   ·rcases Yo.mp hy with hy | hy
    ·exact ok.word y hy
    ·rw[Yc.mp hy];exact wx
   ·rw[Yc3]
    exact⟨ok.nd,by simp,λa ha b hb e=>nx (by rw[<- Yc.mp hb,<- e];exact ha)⟩
  ·rintro σ H' ⟨ws,kv,rfl,d,hw,ok,hlen⟩
   rw[Za4]at hlen
   exact⟨_,rfl,q l ws H' d hl hw ok (by simpa using hlen)⟩
def Zd4(js:LN):LV:=js.map λ(j:Nat)=>V.int (j:Int)
structure Z5a(k:Nat)(js:LN):Prop where
 below:∀ j∈js,j<k
 nd:js.Nodup
 few:js.length<=8
def Z3e:Sp:=λvs H Q _=>∃(p:Addr) (k sh:Nat),vs=[.ref p,.int k,.int sh]/\(∃ o,H p=some o/\Zh2 o)/\k<=24 /\
 ∀ l (js:LN) H',Drawn p H H'->H' l=some (.lst (Zd4 js))->Z5a k js->Q (.ref l) H'
structure Yad(mg:Str->OU):Prop where
 range:mg "range"=none
 int:mg "int"=none
def Z3k:Zak ["pot","k","shape","one","other","bits"] ["pot","k","shape"] (Zad Zdw):=by nofun
abbrev Z6n:LS:=["pot","k","shape","one","other","bits"]
def Z8c:(["j"]:LS).Nodup:=by rfl'
def Z6m:(["j","bits"]:LS).Nodup:=by rfl'
def okJ(v:V):Bool:=match v with | .int i=>decide (0<=i) | _=>false
def Zs2:LV:=[.int 1,.int 2,.int 4,.int 8,.int 16,.int 32,.int 64,.int 128]
def Z5l(bits:Int)(v:V):Bool:=match v with
 | .int j=>decide (j<8)&&(match atI Zs2 j with | some (.int e)=>decide (bits / e % 2=1) | _=>false)
 | _=>false
def Zyy{j:Int}(h0:0<=j)(h1:j<8):∃ e:Int,atI Zs2 j=some (.int e)/\0<e/\e<1000:=by
 have:∀ i:_root_.Fin 8,∃ e:Int,atI Zs2 (i.1:Int)=some (.int e)/\0<e/\e<1000:=by
  intro i
  match i with
  | ⟨0,_⟩=>exact⟨1,rfl,by decide,by decide⟩
  | ⟨1,_⟩=>exact⟨2,rfl,by decide,by decide⟩
  | ⟨2,_⟩=>exact⟨4,rfl,by decide,by decide⟩
  | ⟨3,_⟩=>exact⟨8,rfl,by decide,by decide⟩
  | ⟨4,_⟩=>exact⟨16,rfl,by decide,by decide⟩
  | ⟨5,_⟩=>exact⟨32,rfl,by decide,by decide⟩
  | ⟨6,_⟩=>exact⟨64,rfl,by decide,by decide⟩
  | ⟨7,_⟩=>exact⟨128,rfl,by decide,by decide⟩
 have q:=this ⟨j.toNat,by omega⟩
 rwa [Yp1 h0]at q
def Zs0(k:Nat)(p:V->Bool):∃ js:LN,(Zee 0 k).filter p=Zd4 js/\(∀ j∈js,j<k/\p (.int (j:Int))=true)/\js.Nodup:=by
 refine⟨(List.range k).filter λj=>p (.int (j:Int)),?_,λj hj=>?_,List.nodup_range.filter _⟩
 ·unfold Zee Zd4
  rw[Yz2]
  have e:((λ(j:Nat)=>V.int (0 + (j:Int))))=λ(j:Nat)=>V.int (j:Int):=by
   funext j
   rw[Yy3]
  rw[e]
  rfl
 ·obtain⟨h1,h2⟩:=Yj2.mp hj
  exact⟨Yl2.mp h1,h2⟩
theorem Zj5:∀ {xs ys:LV},Paired (λx v=>v=x) xs ys->ys=xs
 | _,_,.nil=>rfl
 | _,_,.cons h t=>by rw[h,Zj5 t]
def Z38(F:Def K mg "_law_ups" Zdw ["pot","k","shape"] f fd)(DT:Def K mg "_law_take" Za5 ["pot","many"] fT fdT)(T:Yad mg):⋯ 2 f fd ["pot","k","shape"] Z3e:=by
 have GT:⋯ 1 fT fdT ["pot","many"] Zfg:=Zj7 DT
 nomatch F.fn.ok Z3k
 ·obtain⟨p,k,sh,rfl,_⟩:=h
  rfl
 ·obtain⟨p,k,sh,rfl,⟨o0,hp0,ho0⟩,hk,q⟩:=h
  have nd:=Z3k.nd
  ac_nf
  refine⟨_,pS (Zaz (Zal Zds (pv 1) Zae (Zaq _)) (Zac (Zao (Zbj Zaa))) Zai)
   (pS (sE 3 nd (Zaf DT GT hr (pC (pv 0) (pC (pv 1) Zaa))))
   (pS (sE 4 nd (Zaf DT GT hr (pC (pv 0) (pC (pv 1) Zaa))))
   (pS (Zaz (Zal Zds (pv 2) Zae (Zaq _)) (Zac (Zao (Zbj (pC (pv 3) Zaa)))) Zai)
   (pS (Zaz (Zal Zds (pv 2) Zae (Zaq _)) (Zac (Zao (Zdm Zpi
     (Zbt ["j"] [] [] (λ_=>Za1 (osc:=Zad Zdw) (on:=Z6n) (by rfl') rfl rfl rfl) (Zhw (Zbi (pC (pv 3) (pC (pv 4) Zaa)))) (λC s H fp=>Zah (i:=0) Z8c rfl (Or.inl rfl) (Or.inr rfl)) (λC s H fp=>Zb3) (λC s H fp=>pv 0))
     Zfa (Ze9 (Za0 Zbz Zae (Zbd Zwn (by rfl) T.int Yw4 (pC (Zhz Zuv (pv 3) (pv 4) (Zaq _)) Zaa))))))) Zai)
   (pS (Zaz (Zal Zds (pv 2) Zae (Zaq _)) (Zac (Zao
     (Zbt ["j"] [] [] (λ_=>Za1 (osc:=Zad Zdw) (on:=Z6n) (by rfl') rfl rfl rfl) (Zhw (Zbi (pC (Za0 Zif (Za0 Zif (pv 1) Zae) (Za0 Zg8 (pv 1) Zae)) (pC (Za0 Zif (Za0 Zif (pv 1) Zae) (Za0 Zg8 (pv 1) Zae)) Zaa)))) (λC s H fp=>Zah (i:=0) Z8c rfl (Or.inl rfl) (Or.inr rfl))
      (λC s H fp=>Zek (Zal Z07 (pv 0) Zae (Zaq _))) (λC s H fp=>pv 0)))) Zai)
   (pS (Zaz (Zal Zds (pv 2) Zae (Zaq _)) (Zac (Zao (Zbj (pC (Za0 Zif (pv 1) Zae) Zaa)))) Zai)
   (pS (Zag (i:=5) nd rfl (Or.inr rfl) (Zaf DT GT hr (pC (pv 0) (pC Zae Zaa))))
   (Zac (Zao (Zbt ["j"] ["bits"] [5] (λ_=>Za1 (osc:=Zad Zdw) (on:=Z6n) (by rfl') rfl rfl rfl) (Zbv rfl T.range (pC (pv 1) Zaa)) (λC s H fp=>Zah (i:=0) Z6m rfl (Or.inl rfl) (Or.inr rfl))
    (λC s H fp=>Zek (PW.pt (Zia (Zal Zmc (pv 0) Zae (Zaq _)) (Zgp (Zal Zds (Za0 Zg8 (Za0 Zpo (pv 1) (Za3 (r:=Zhv K) Zbr (Zbi (pC Zae (pC Zae (pC Zae (pC Zae (pC Zae (pC Zae (pC Zae (pC Zae Zaa))))))))) (pv 0) (λ_ _=>rfl))) Zae) Zae (Zaq _)))))) (λC s H fp=>pv 0))))))))))),?_⟩
  exists let b:=Zar _ a;let c:=_;let e:=Zar (Zhf _ c _) b;let f:=_;let g:=Zar (Zhf _ f _) e;let h:=_;let i:=Zar (Zhf _ h _) g;let j:=Zar _ i;let k:=Zar _ j;let l:=Zar _ k;Zar _ l _ _ _
  have dr:Drawn p H H:=Drawn.refl ⟨o0,hp0,ho0⟩
  refine⟨_,rfl,rfl,_,rfl,?_⟩
  refine Zdu (λh0=>?_) (λh0=>?_)
  ·exact⟨Yv _,λl hl=>q l [] _ (dr.new hl) uS ⟨(λ_ h=>nomatch h),Yf3,Yv _⟩⟩
  have hk0:0<k:=by
   refine Nat.pos_of_ne_zero λz=>h0 (Jb ?_)
   rw[z]
   rfl
  refine⟨_,rfl,_,rfl,p,k,o0,rfl,hp0,ho0,by omega,by omega,λone o1 h10 h11 ho1=>?_⟩
  refine⟨_,rfl,_,rfl,p,k,o1,rfl,uS,ho1,by omega,by omega,λoth o2 h20 h21 ho2=>?_⟩
  rw[Zgz]
  have d2:Drawn p H (upd H p o2):=Drawn.upd ho2
  refine⟨_,rfl,rfl,_,rfl,?_⟩
  refine Zdu (λ_=>?_) (λ_=>?_)
  ·refine⟨_,rfl,sL (by show 1<=100000;decide),λl hl=>q l [one.toNat] _ (d2.new hl) ?_ ⟨λj hj=>?_,by simp,by simp⟩⟩
   ·rw[uS]
    show some (HO.lst [V.int one])=some (HO.lst [V.int ((one.toNat:Nat):Int)])
    rw[Yp1 h10]
   ·rw[Yc.mp hj];omega
  refine⟨_,rfl,rfl,_,rfl,?_⟩
  refine Zdu (λ_=>?_) (λ_=>?_)
  ·-- [j for j in(one,other)][:1 + int(one != other)]
   refine⟨_,rfl,_,rfl,sL (by show 2<=100000;decide),λt ht=>⟨t,rfl,⟨_,SqT.of uS⟩,Zda (Zea (xs:=[V.int one,V.int oth])) (sL (by show 2<=100000;decide)) (λ_=>true) (λv=>v) (λD ys hD=>SqT.of (by rw[Zab (nNo uS hD)];exact uS)) ?_ ?_ ?_⟩⟩
   ·intro D ys x R _ _ hR
    exact hR
   ·intro D ys x R _ _ _ hR
    exact⟨_,rfl,hR⟩
   ·intro D hD
    have e2:([V.int one,V.int oth].filter λ_=>true).map (λv=>v)=[V.int one,V.int oth]:=rfl
    rw[e2]
    have d4:Drawn p H (upd (upd (upd H p o2) t (.tup [V.int one,V.int oth])) D (.lst [V.int one,V.int oth])):=(d2.new ht).new hD
    refine⟨_,rfl,_,rfl,rfl,.inr ⟨_,rfl,_,_,rfl,rfl,_,rfl,D,_,rfl,SqL.of uS,λl hl=>?_⟩⟩
    by_cases he:one=oth
    ·have e3:(!decide (V.int one=V.int oth))=false:=by rw[he];simp
     rw[e3]
     refine q l [one.toNat] _ (d4.new hl) ?_ ⟨λj hj=>by rw[Yc.mp hj];omega,by simp,by simp⟩
     rw[uS]
     show some (HO.lst [V.int one])=some (HO.lst [V.int ((one.toNat:Nat):Int)])
     rw[Yp1 h10]
    ·have e3:(!decide (V.int one=V.int oth))=true:=by
      rw[Jc (λz=>he (by injection z))]
      rfl
     rw[e3]
     refine q l [one.toNat,oth.toNat] _ (d4.new hl) ?_ ⟨λj hj=>?_,?_,by simp⟩
     ·rw[uS]
      show some (HO.lst [V.int one,V.int oth])=some (HO.lst [V.int ((one.toNat:Nat):Int),V.int ((oth.toNat:Nat):Int)])
      rw[Yp1 h10,Yp1 h20]
     ·rcases Yg1.mp hj with e | e
      ·rw[e];omega
      ·rw[Yc.mp e];omega
     ·refine Ys1.mpr ⟨λz=>he ?_,by simp⟩
      have:=Yc.mp z
      omega
  refine⟨_,rfl,rfl,_,rfl,?_⟩
  refine Zdu (λ_=>?_) (λ_=>?_)
  ·-- diamonds
   have hm0:=Yj3 (k:Int) (b:=2) (by decide)
   have hm1:=Yw2 (k:Int) (b:=2) (by decide)
   refine⟨_,rfl,_,_,rfl,rfl,_,rfl,_,_,rfl,rfl,(by show(0:Int)<2;decide),_,_,rfl,rfl,_,rfl,_,_,rfl,rfl,_,rfl,_,_,rfl,rfl,(by show(0:Int)<2;decide),_,_,rfl,rfl,sL (by show 2<=100000;decide),λt ht=>⟨t,rfl,⟨_,SqT.of uS⟩,
    Zda (Zea (xs:=[V.int ((k:Int) - 2 - (k:Int) % 2),V.int ((k:Int) - 1 - (k:Int) % 2)])) (sL (by show 2<=100000;decide)) okJ (λv=>v) (λD ys hD=>SqT.of (by rw[Zab (nNo uS hD)];exact uS)) ?_ ?_ ?_⟩⟩
   ·intro D ys x R _ hx hR
    obtain⟨i,rfl⟩:∃ i,x=V.int i:=by
     rcases Yg1.mp hx with e | e
     ·exact⟨_,e⟩
     ·exact⟨_,Yc.mp e⟩
    exact⟨_,rfl,_,_,rfl,rfl,_,rfl,hR⟩
   ·intro D ys x R _ _ _ hR
    exact⟨_,rfl,hR⟩
   ·intro D hD
    have d4:=(d2.new (o:=.tup [V.int ((k:Int) - 2 - (k:Int) % 2),V.int ((k:Int) - 1 - (k:Int) % 2)]) ht).new (o:=.lst (([V.int ((k:Int) - 2 - (k:Int) % 2),V.int ((k:Int) - 1 - (k:Int) % 2)].filter okJ).map λv=>v)) hD
    by_cases h2:2<=(k:Int) - (k:Int) % 2
    ·refine q D [((k:Int) - 2 - (k:Int) % 2).toNat,((k:Int) - 1 - (k:Int) % 2).toNat] _ d4 ?_ ⟨λj hj=>?_,?_,by simp⟩
     ·rw[uS]
      have a1:okJ (V.int ((k:Int) - 2 - (k:Int) % 2))=true:=Jb (by omega)
      have a2:okJ (V.int ((k:Int) - 1 - (k:Int) % 2))=true:=Jb (by omega)
      rw[Yb4,a1,if_pos rfl,Yb4,a2,if_pos rfl]
      show some (HO.lst [V.int _,V.int _])=some (HO.lst [V.int ((Int.toNat _:Nat):Int),V.int ((Int.toNat _:Nat):Int)])
      rw[Yp1 (by omega),Yp1 (by omega)]
     ·rcases Yg1.mp hj with e | e
      ·rw[e];omega
      ·rw[Yc.mp e];omega
     ·refine Ys1.mpr ⟨λz=>?_,by simp⟩
      have:=Yc.mp z
      omega
    ·refine q D [] _ d4 ?_ ⟨(λ_ h=>nomatch h),Yf3,Yv _⟩
     rw[uS]
     have a1:okJ (V.int ((k:Int) - 2 - (k:Int) % 2))=false:=Jc (by omega)
     have a2:okJ (V.int ((k:Int) - 1 - (k:Int) % 2))=false:=Jc (by omega)
     rw[Yb4,a1,if_neg Yg,Yb4,a2,if_neg Yg]
     rfl
  refine⟨_,rfl,rfl,_,rfl,?_⟩
  refine Zdu (λ_=>?_) (λ_=>?_)
  ·refine⟨_,rfl,_,_,rfl,rfl,sL (by show 1<=100000;decide),λl hl=>q l [k - 1] _ (d2.new hl) ?_ ⟨λj hj=>?_,by simp,by simp⟩⟩
   ·rw[uS]
    show some (HO.lst [V.int ((k:Int) - 1)])=some (HO.lst [V.int ((k - 1:Nat):Int)])
    have:((k - 1:Nat):Int)=(k:Int) - 1:=by omega
    rw[this]
   ·rw[Yc.mp hj];omega
  refine⟨_,rfl,p,256,o2,rfl,uS,ho2,by decide,by decide,λbits o3 hb0 hb1 ho3=>?_⟩
  rw[Zgz]
  have d3:Drawn p H (upd H p o3):=Drawn.upd ho3
  refine⟨_,rfl,(k:Int),rfl,by omega,by omega,?_⟩
  rw[show((k:Int)).toNat=k from rfl]
  refine Zgt Zbm (sL (by rw[Za4];omega)) (Z5l bits) (λ_ x v _=>v=x) (λ_ _ _ _ _ _ h=>h) (λ_ _=>trivial) ?_ ?_ ?_
  ·intro x H2 R hs hx hR
   obtain⟨i,hi⟩:=Yo2.mp hx
   obtain⟨hik,rfl⟩:=Za6 hi
   refine⟨_,rfl,_,_,rfl,rfl,_,rfl,?_⟩
   refine Zdu (λh8=>?_) (λh8=>?_)
   ·have h8:(0:Int) + (i:Int)<8:=Je h8
    obtain⟨e,he,he0,he1⟩:=Zyy (j:=(0:Int) + (i:Int)) (by omega) h8
    refine⟨_,rfl,sL (by show 8<=100000;decide),λt ht=>⟨_,rfl,t,Zs2,_,_,rfl,rfl,SqT.of uS,he,_,_,rfl,rfl,⟨he0,by omega⟩,_,_,rfl,rfl,(by show(0:Int)<2;decide),rfl,_,rfl,?_⟩⟩
    have e1:Z5l bits (V.int (0 + (i:Int)))=decide (V.int (bits / e % 2)=V.int 1):=by
     show(decide ((0:Int) + (i:Int)<8)&&(match atI Zs2 (0 + (i:Int))with | some (.int e)=>decide (bits / e % 2=1) | _=>false))=_
     rw[he,Jb h8,Ye3]
     show decide (bits / e % 2=1)=_
     rw[decide_eq_decide]
     constructor
     ·intro z;rw[z]
     ·intro z;injection z
    have:=hR (upd H2 t (.tup Zs2)) λb o e=>by rw[Zab (nNo e ht)];exact e
    rw[e1]at this
    exact this
   ·have h8:¬ ((0:Int) + (i:Int)<8):=λz=>h8 (Jb z)
    have e1:Z5l bits (V.int (0 + (i:Int)))=false:=by
     show(decide ((0:Int) + (i:Int)<8)&&_)=false
     rw[Jc h8,Yf5]
    have:=hR H2 (Zaj.refl _)
    rw[e1]at this
    exact this
  ·intro D x H2 R hs _ _ hx _ hR
   exact⟨_,rfl,hR x H2 (Zaj.refl _) rfl⟩
  ·intro D H2 ys hD hs hl hp
   have e:=Zj5 hp
   subst e
   obtain⟨js,e,hj,hnd⟩:=Zs0 k (Z5l bits)
   refine q D js H2 (d3.same hs) (by rw[hl,e]) ⟨λj h=>(hj j h).1,hnd,?_⟩
   have:=Graph.nodup_le (l:=js) (k:=List.range 8) hnd λj h=>by
    have h2:(decide ((j:Int)<8)&&_)=true:=(hj j h).2
    have h3:=(Yt1 _ _ ▸ h2:_/\_).1
    have h4:(j:Int)<8:=Je h3
    exact Yl2.mpr (by omega)
   simpa using this
def Ztv:Sp:=λvs H Q _=>∃(p:Addr) (m:Nat),vs=[.ref p,.int m]/\(∃ o,H p=some o/\Zh2 o)/\1<=m/\m<=24 /\
 ∀ l (rows:RS) H',Drawn p H H'->H l=none->Zeg H' l rows->Zdr rows->rows.length<=m->Q (.ref l) H'
def wAt(ws:LS):V->V
 | .int j=>.str (ws.getD j.toNat "")
 | _=>.non
def Zw7(ws:LS)(js:LN):(Zd4 js).map (wAt ws)=(js.map λi=>ws.getD i "").map V.str:=by
 unfold Zd4
 rw[Yy1,Yy1]
 rfl
def Zwt{ws:LS}{j:Nat}(h:j<ws.length):atI (ws.map V.str) (j:Int)=some (.str (ws.getD j "")):=by
 have e:(ws.map V.str)[j]?=some (V.str (ws.getD j "")):=by
  rw[Yp,Yw,Yh h]
  rfl
 exact Zb5 e
def Zp1(m:Nat):Zee 0 m=Zd4 (List.range m):=by
 unfold Zee Zd4
 refine List.map_congr_left λj _=>?_
 rw[Yy3]
def Zmy{α:Type}(l:List α):l.filter (λ_=>true)=l:=Yi2.mpr λ_ _=>rfl
def UpV(ws:LS)(H:Hp)(js:LN)(v:V):Prop:=∃ t,v=.ref t/\H t=some (.tup ((js.map λi=>ws.getD i "").map V.str))
def UpV.mono{ws:LS}{H H':Hp}{js:LN}{v:V}(h:UpV ws H js v)(k:∀ b xs,H b=some (.tup xs)->H' b=some (.tup xs)):UpV ws H' js v:=by
 obtain⟨t,e,h⟩:=h
 exact⟨t,e,k _ _ h⟩
theorem Zla{α β:Type}{F:α->β->Prop}:∀ {l:List α}{k:List β},Paired F l k->∀ {i:Nat}{a:α},l[i]?=some a->∃ b,k[i]?=some b/\F a b
 | _,_,.nil,i,a,h=>by simp at h
 | _,_,.cons r t,0,a,h=>by simp at h;subst h;exact⟨_,rfl,r⟩
 | _,_,.cons r t,i + 1,a,h=>by
  obtain⟨b,h1,h2⟩:=Zla t (i:=i) (a:=a) (by simpa using h)
  exact⟨b,by simpa using h1,h2⟩
def Zmp{H:Hp}{D b:Addr}{o u:HO}(hD:H D=none)(e:H b=some o):(upd H D u) b=some o:=by rw[Zab (nNo e hD)];exact e
theorem Zj6{ws:LS}{uf:List (LN)}{D:Addr}{H:Hp}:∀ {os:LN}{ys:LV},
  Paired (λx v=>∃(j:Nat) (t u:Addr),x=V.int (j:Int)/\v=.ref t/\t≠D/\u≠D/\H t=some (.tup [.str (ws.getD j ""),.ref u])/\H u=some (.tup (((uf.getD j []).map λi=>ws.getD i "").map V.str))) (Zd4 os) ys->Paired (Z21 H) (Zh9 ws uf os) ys
 | [],_,h=>by cases h;exact .nil
 | j :: os,_,h=>by
  cases h with
  | cons r t =>
   obtain⟨i,a,u,e,rfl,_,_,h3,h4⟩:=r
   have e':(j:Int)=(i:Int):=by injection e
   have e'':j=i:=by omega
   subst e''
   exact .cons ⟨a,u,rfl,h3,h4⟩ (Zj6 t)
structure Z66(p lw lo lu:Addr)(ws:LS)(H H':Hp)(i:Nat)(os:LN)(uf:List (LN))(us:LV):Prop where
 d:Drawn p H H'
 w:H' lw=some (.lst (ws.map V.str))
 o:H' lo=some (.lst (Zd4 os))
 u:H' lu=some (.lst us)
 pu:Paired (UpV ws H') uf us
 ul:uf.length=i
 uok:∀(k:Nat) (js:LN),uf[k]?=some js->Z5a k js
 on:os.Nodup
 om:∀ j,j∈os↔j<i
 ol:os.length=i
def Z6l:(["j","words"]:LS).Nodup:=by rfl'
def Z4o:(["k","words","ups"]:LS).Nodup:=by rfl'
structure Z8k(mg:Str->OU):Prop where
 range:mg "range"=none
 int:mg "int"=none
 len:mg "len"=none
 tuple:mg "tuple"=none
 list:mg "list"=none
abbrev Z1p:LS:=["pot","most","many","words","shape","order","ups","k"]
def Zzm:Zak Z1p ["pot","most"] (Zad Zdy):=by nofun
def Zxu(F:Def K mg "_law_rows" Zdy ["pot","most"] f fd)(DT:Def K mg "_law_take" Za5 ["pot","many"] fT fdT)(DU:Def K mg "_law_ups" Zdw ["pot","k","shape"] fU fdU)
  (DWs:Def K mg "_law_words" Zfj ["pot","many"] fWs fdWs) (DW:Def K mg "_law_word" Zba ["pot","words"] fW fdW) (DL:Def K mg "_law_letters" Zbx ["number"] fL fdL) (T:Z8k mg):⋯ 4 f fd ["pot","most"] Ztv:=by
 have GT:⋯ 1 fT fdT ["pot","many"] Zfg:=Zj7 DT
 have GU:⋯ 2 fU fdU ["pot","k","shape"] Z3e:=Z38 DU DT ⟨T.range,T.int⟩
 have GW:⋯ 3 fWs fdWs ["pot","many"] Ztq:=Zxr DWs DW DT DL T.len T.range
 nomatch F.fn.ok Zzm
 ·obtain⟨p,m,rfl,_⟩:=h
  rfl
 ·obtain⟨p,most,rfl,⟨o0,hp0,ho0⟩,hm1,hm24,q⟩:=h
  have nd:=Zzm.nd
  have hr1:Zcb 1 _:=hr.mono (by decide)
  have hr2:Zcb 2 _:=hr.mono (by decide)
  ac_nf
  refine⟨_,pS (sE 2 nd (Za0 Zbz Zae (Zaf DT GT hr1 (pC (pv 0) (pC (pv 1) Zaa)))))
   (pS (Zag (i:=3) nd rfl (Or.inr rfl) (Zaf DWs GW hr (pC (pv 0) (pC (pv 2) Zaa))))
   (pS (sE 4 nd (Zaf DT GT hr1 (pC (pv 0) (pC Zae Zaa))))
   (pS (sE 5 nd (Zbj Zaa))
   (pS (Zag (i:=6) nd rfl (Or.inr rfl) (Zbj Zaa))
   (pS (Zbc Yk rfl (Zbv (by rfl) T.range (pC (pv 2) Zaa)) (gE 7 nd)
    (pS (Zax (Zf0 Yu Yi1 Yj1 Zbw (pv 6) (pC (Zbd Zbg (by rfl) T.tuple Yh1 (pC
     (Zbt ["j"] ["words"] [3] (λ_=>Za1 (osc:=Zad Zdy) (on:=Z1p) (by rfl') rfl rfl rfl) (Zbb (Zaf DU GU hr2 (pC (pv 0) (pC (pv 7) (pC (pv 4) Zaa))))) (λC s H fp=>Zah (i:=0) Z6l rfl (Or.inl rfl) (Or.inr rfl)) (λC s H fp=>Zb3)
      (λC s H fp=>Za3 (r:=Ziu K) Zay (pv 1) (pv 0) (λ_ _=>rfl))) Zaa)) Zaa)))
    (Zac (Zax (Zf0 Yu Yl4 Ym4 Zj9 (pv 5) (pC (Zaf DT GT hr1 (pC (pv 0) (pC (Za0 Zbz (pv 7) Zae) Zaa))) (pC (pv 7) Zaa)))))))
   (Zc3 (Zaz (Zal Zds (Zaf DT GT hr1 (pC (pv 0) (pC Zae Zaa))) Zae (Zaq _)) (Zac (sE 5 nd (Znr rfl (pv 2) (by rfl) T.list (by rfl) T.range))) Zai)
   (Zac (Zao (Zbt ["k"] ["words","ups"] [3,6] (λ_=>Za1 (osc:=Zad Zdy) (on:=Z1p) (by rfl') rfl rfl rfl) (Zbb (pv 5)) (λC s H fp=>Zah (i:=0) Z4o rfl (Or.inl rfl) (Or.inr rfl)) (λC s H fp=>Zb3)
    (λC s H fp=>Zbi (pC (Za3 (r:=Ziu K) Zay (pv 1) (pv 0) (λ_ _=>rfl)) (pC (Za3 (r:=Ziu K) Zay (pv 2) (pv 0) (λ_ _=>rfl)) Zaa)))))))))))),?_⟩
  exists let b:=_;let c:=Zqn (Zhf _ b _) a;let e:=_;let f:=Zar _ e;let g:=Zar (Zgf _ _ f) c;let h:=Zar _ g;let i:=Zar _ h;let j:=Zar _ i;let k:=Zar _ j;Zar _ k _ _ _
  refine⟨_,rfl,_,rfl,p,most,o0,rfl,hp0,ho0,by omega,by omega,λv o1 hv0 hv1 ho1=>⟨_,_,rfl,rfl,?_⟩⟩
  have hv:(1:Int) + v=((1 + v.toNat:Nat):Int):=by omega
  have d1:Drawn p H (upd H p o1):=Drawn.upd ho1
  refine⟨_,rfl,_,rfl,p,1 + v.toNat,(by show[V.ref p,V.int (1 + v)]=[V.ref p,V.int ((1 + v.toNat:Nat):Int)];rw[<- hv]),d1.pot,by omega,λlw ws H2 d2 hlw hw ok hwl=>?_⟩
  have hlw0:H lw=none:=by
   cases e:H lw with
   | none=>rfl
   | some o =>
    by_cases z:lw=p
    ·rw[z]at hlw
     rw[uS]at hlw
     cases hlw
    ·rw[d1.keep lw o z e]at hlw
     cases hlw
  have d12:=d1.trans d2
  obtain⟨o2,hp2,ho2⟩:=d2.pot
  have pw:p≠lw:=Z1l hp2 hw (by
   obtain⟨r,b,e,_⟩:=ho2
   rw[e]
   intro z
   injection z with z
   have z2:=congrArg (λl=>l[0]?) z
   cases ws with
   | nil=>simp at z2
   | cons x r=>simp at z2)
  refine⟨_,rfl,p,5,o2,rfl,hp2,ho2,by decide,by decide,λsh o3 hs0 hs1 ho3=>?_⟩
  have d3:Drawn p H (upd H2 p o3):=d12.trans (Drawn.upd ho3)
  refine⟨Yv _,λlo hlo=>⟨Yv _,λlu hlu=>?_⟩⟩
  have d5:Drawn p H (upd (upd (upd H2 p o3) lo (.lst [])) lu (.lst [])):=(d3.new hlo).new hlu
  have w5:(upd (upd (upd H2 p o3) lo (.lst [])) lu (.lst [])) lw=some (.lst (ws.map V.str)):=by
   have a1:(upd H2 p o3) lw=some (.lst (ws.map V.str)):=by rw[Zab (Ym pw)];exact hw
   have a2:(upd (upd H2 p o3) lo (.lst [])) lw=some (.lst (ws.map V.str)):=by rw[Zab (nNo a1 hlo)];exact a1
   rw[Zab (nNo a2 hlu)];exact a2
  have o5:(upd (upd (upd H2 p o3) lo (.lst [])) lu (.lst [])) lo=some (.lst (Zd4 [])):=by
   rw[Zab (nNo uS hlu)];exact uS
  have plo:p≠lo:=nNo (show(upd H2 p o3) p=some o3 from uS) hlo
  have plu:p≠lu:=nNo (show(upd (upd H2 p o3) lo (.lst [])) p=some o3 by rw[Zab plo];exact uS) hlu
  have lou:lo≠lu:=nNo uS hlu
  have lwo:lw≠lo:=λz=>by
   have a1:(upd H2 p o3) lw=some (.lst (ws.map V.str)):=by rw[Zab (Ym pw)];exact hw
   rw[z,hlo]at a1;cases a1
  have lwu:lw≠lu:=λz=>by
   have a1:(upd H2 p o3) lw=some (.lst (ws.map V.str)):=by rw[Zab (Ym pw)];exact hw
   have a2:(upd (upd H2 p o3) lo (.lst [])) lw=some (.lst (ws.map V.str)):=by rw[Zab lwo];exact a1
   rw[z,hlu]at a2;cases a2
  have hloH:H lo=none:=by
   cases e:H lo with
   | none=>rfl
   | some o=>rw[d3.keep lo o (Ym plo) e]at hlo;cases hlo
  have hluH:H lu=none:=by
   cases e:H lu with
   | none=>rfl
   | some o=>rw[(d3.new (o:=.lst []) hlo).keep lu o (Ym plu) e]at hlu;cases hlu
  refine⟨_,rfl,(1:Int) + v,rfl,by omega,by omega,?_⟩
  have hmn:((1:Int) + v).toNat=ws.length:=by omega
  rw[hmn]
  let Iv1:NW:=λi σ H'=>∃(os:LN) (uf:List (LN)) (us:LV) (kv:OV),σ=[some (.ref p),some (.int most),some (.int (1 + v)),some (.ref lw),some (.int sh),some (.ref lo),some (.ref lu),kv]/\Z66 p lw lo lu ws H H' i os uf us
  refine Zat Zbm Iv1
   ⟨[],[],[],none,rfl,d5,w5,o5,uS,.nil,rfl,λk js h=>by simp at h,Yf3,λj=>by simp,rfl⟩ (λ_ _ _ _ _=>trivial) ?_ ?_
  ·rintro i x σ H' hi ⟨os,uf,us,kv,rfl,g⟩
   obtain⟨hi,rfl⟩:=Za6 hi
   have hul:us.length=i:=by rw[<- g.pu.length];exact g.ul
   refine⟨_,rfl,.inl ⟨rfl,_,SqL.of g.u⟩,_,rfl,_,rfl,_,rfl,p,i,sh.toNat,by rw[Yy3,Yp1 hs0];rfl,g.d.pot,by omega,λl js H6 d6 hl uok=>⟨l,rfl,⟨_,SqL.of hl⟩,?_⟩⟩
   have w6:H6 lw=some (.lst (ws.map V.str)):=d6.keep _ _ (Ym pw) g.w
   refine Zda (Zav (xs:=Zd4 js)) (sL (by unfold Zd4;rw[Ya];have:=uok.few;omega)) (λ_=>true) (wAt ws) (λD ys hD=>SqL.of (by rw[Zab (nNo hl hD)];exact hl)) ?_ ?_ ?_
   ·intro D ys y R _ _ hR
    exact hR
   ·intro D ys y R hD hy _ hR
    obtain⟨j,hj,rfl⟩:=Ye.mp hy
    have hjl:j<ws.length:=by have:=uok.below j hj;omega
    exact⟨_,rfl,_,rfl,lw,_,_,_,rfl,rfl,SqL.of (by rw[Zab (nNo w6 hD)];exact w6),Zwt hjl,hR⟩
   ·intro D hD
    rw[Zmy,Zw7]
    refine⟨D,_,rfl,.inl ⟨SqL.of uS,λt ht=>?_⟩⟩
    have keepDt:∀ b o,H6 b=some o->(upd (upd H6 D (.lst ((js.map λi=>ws.getD i "").map V.str))) t (.tup ((js.map λi=>ws.getD i "").map V.str))) b=some o:=λb o e=>by
     have e1:(upd H6 D (.lst ((js.map λi=>ws.getD i "").map V.str))) b=some o:=by rw[Zab (nNo e hD)];exact e
     rw[Zab (nNo e1 ht)];exact e1
    have u6:H6 lu=some (.lst us):=d6.keep _ _ (Ym plu) g.u
    have o6:H6 lo=some (.lst (Zd4 os)):=d6.keep _ _ (Ym plo) g.o
    refine⟨lu,us,_,rfl,rfl,keepDt _ _ u6,Za2 (by omega),?_⟩
    obtain⟨o7,hp7,ho7⟩:=d6.pot
    refine⟨_,rfl,.inl ⟨rfl,_,SqL.of (by rw[Zab lou];exact keepDt _ _ o6)⟩,_,rfl,_,rfl,_,_,rfl,rfl,p,_,o7,rfl,(by rw[Zab plu];exact keepDt _ _ hp7),ho7,by omega,by omega,λat_ o8 ha0 ha1 ho8=>?_⟩
    refine⟨_,rfl,lo,Zd4 os,at_,_,rfl,rfl,(by rw[Zab (Ym plo),Zab lou];exact keepDt _ _ o6),ha0,(by unfold Zd4;rw[Ya,g.ol];omega),Za2 (by unfold Zd4;rw[Ya,g.ol];omega),?_⟩
    have tlu:t≠lu:=λz=>by rw[z]at ht;rw[Zmp hD u6]at ht;cases ht
    have tlo:t≠lo:=λz=>by rw[z]at ht;rw[Zmp hD o6]at ht;cases ht
    have tp:t≠p:=λz=>by rw[z]at ht;rw[Zmp hD hp7]at ht;cases ht
    have all:∀ b o,b≠p->b≠lu->b≠lo->H6 b=some o->(upd (upd (upd (upd (upd H6 D (.lst ((js.map λi=>ws.getD i "").map V.str))) t (.tup ((js.map λi=>ws.getD i "").map V.str))) lu (.lst (us++[.ref t]))) p o8) lo (.lst ((Zd4 os).take at_.toNat++V.int (0 + (i:Int)):: (Zd4 os).drop at_.toNat))) b=some o:=λb o h1 h2 h3 e=>by
     rw[Zab h3,Zab h1,Zab h2];exact keepDt _ _ e
    have tt:(upd (upd (upd (upd (upd H6 D (.lst ((js.map λi=>ws.getD i "").map V.str))) t (.tup ((js.map λi=>ws.getD i "").map V.str))) lu (.lst (us++[.ref t]))) p o8) lo (.lst ((Zd4 os).take at_.toNat++V.int (0 + (i:Int)):: (Zd4 os).drop at_.toNat))) t=some (.tup ((js.map λi=>ws.getD i "").map V.str)):=by
     rw[Zab tlo,Zab tp,Zab tlu];exact uS
    have tups:∀ b xs,H' b=some (.tup xs)->(upd (upd (upd (upd (upd H6 D (.lst ((js.map λi=>ws.getD i "").map V.str))) t (.tup ((js.map λi=>ws.getD i "").map V.str))) lu (.lst (us++[.ref t]))) p o8) lo (.lst ((Zd4 os).take at_.toNat++V.int (0 + (i:Int)):: (Zd4 os).drop at_.toNat))) b=some (.tup xs):=λb xs e=>by
     obtain⟨oP,hP,r,b',eP,_⟩:=g.d.pot
     have bp:b≠p:=λz=>by rw[z,hP,eP]at e;cases e
     have bu:b≠lu:=λz=>by rw[z,g.u]at e;cases e
     have bo:b≠lo:=λz=>by rw[z,g.o]at e;cases e
     exact all b _ bp bu bo (d6.keep b _ bp e)
    refine⟨os.take at_.toNat++i :: os.drop at_.toNat,uf++[js],us++[.ref t],_,rfl,?_⟩
    refine⟨⟨λb o hb e=>?_,?_⟩,?_,?_,?_,?_,by rw[Yi,g.ul];rfl,?_,?_,?_,?_⟩
    ·have e6:=(g.d.trans d6).keep b o hb e
     exact all b o hb (λz=>by rw[z,hluH]at e;cases e) (λz=>by rw[z,hloH]at e;cases e) e6
    ·exact⟨o8,by rw[Zab plo];exact uS,ho8⟩
    ·exact all lw _ (Ym pw) lwu lwo w6
    ·rw[uS]
     unfold Zd4
     rw[Yb1,Yy,List.map_take,List.map_drop,Yy3]
    ·rw[Zab (Ym lou),Zab (Ym plu)];exact uS
    ·exact Yh2 (Paired.mapP g.pu λa b z=>z.mono tups) ⟨t,rfl,tt⟩
    ·intro k js' hk
     by_cases hki:k<uf.length
     ·rw[Yg4 hki]at hk
      exact g.uok k js' hk
     ·rw[Yu2 (by omega)]at hk
      have hk0:k - uf.length=0:=by
       have:=(Yn.mp hk).1
       simp at this
       omega
      rw[hk0]at hk
      have e:js=js':=by simpa using hk
      have e2:k=i:=by have:=g.ul;omega
      rw[<- e,e2]
      exact uok
    ·have hperm:(os.take at_.toNat++i :: os.drop at_.toNat).Perm (i :: os):=by
      refine Yt4.trans ?_
      rw[Yn2]
     exact hperm.nodup_iff.mpr (Ys1.mpr ⟨λz=>by have:=(g.om i).mp z;omega,g.on⟩)
    ·intro j
     have hperm:(os.take at_.toNat++i :: os.drop at_.toNat).Perm (i :: os):=by
      refine Yt4.trans ?_
      rw[Yn2]
     rw[hperm.mem_iff,Yg1,g.om]
     omega
    ·have hperm:(os.take at_.toNat++i :: os.drop at_.toNat).Perm (i :: os):=by
      refine Yt4.trans ?_
      rw[Yn2]
     rw[hperm.length_eq,Yf1,g.ol]
  ·rintro σ H' ⟨os,uf,us,kv,rfl,g⟩
   rw[Za4]at g
   let Hv1:SW:=λσ' H2=>∃(lo':Addr) (os':LN) (kv:OV),σ'=[some (.ref p),some (.int most),some (.int (1 + v)),some (.ref lw),some (.int sh),some (.ref lo'),some (.ref lu),kv]/\Drawn p H H2/\H2 lw=some (.lst (ws.map V.str))/\H2 lo'=some (.lst (Zd4 os'))/\H2 lu=some (.lst us)/\Paired (UpV ws H2) uf us/\os'.Nodup/\(∀ j,j∈os'↔j<ws.length)/\os'.length=ws.length
   refine⟨Hv1,?_,?_⟩
   ·obtain⟨oP,hP,hoP⟩:=g.d.pot
    refine⟨_,rfl,p,3,oP,rfl,hP,hoP,by decide,by decide,λv3 o9 _ _ ho9=>⟨rfl,_,rfl,?_⟩⟩
    have d9:Drawn p H (upd H' p o9):=g.d.trans (Drawn.upd ho9)
    have t9:∀ b xs,H' b=some (.tup xs)->(upd H' p o9) b=some (.tup xs):=λb xs e=>by
     obtain⟨r,b',eP,_⟩:=hoP
     rw[Zab (λz=>by rw[z,hP,eP]at e;cases e)];exact e
    refine Zdu (λ_=>?_) (λ_=>?_)
    ·refine⟨_,rfl,(1:Int) + v,rfl,by omega,by omega,λl hl=>?_⟩
     rw[hmn,Zp1]
     have nn:∀ {b:Addr} {o:HO},(upd H' p o9) b=some o->(upd (upd H' p o9) l (.lst (Zd4 (List.range ws.length)))) b=some o:=λ{b o} e=>by rw[Zab (nNo e hl)];exact e
     exact⟨l,List.range ws.length,_,rfl,d9.new hl,nn (by rw[Zab (Ym pw)];exact g.w),uS,nn (by rw[Zab (Ym plu)];exact g.u),Paired.mapP g.pu λa b z=>(z.mono t9).mono λb xs e=>nn e,List.nodup_range,λj=>Yl2,by simp⟩
    ·exact⟨lo,os,_,rfl,d9,by rw[Zab (Ym pw)];exact g.w,by rw[Zab (Ym plo)];exact g.o,by rw[Zab (Ym plu)];exact g.u,Paired.mapP g.pu λa b z=>z.mono t9,g.on,g.om,g.ol⟩
   ·rintro σ' H2 ⟨lo',os',kv',rfl,dE,wE,oE,uE,pE,on,om,ol⟩
    refine⟨_,rfl,lo',rfl,⟨_,SqL.of oE⟩,?_⟩
    refine Zgt (Zav (xs:=Zd4 os')) (sL (by unfold Zd4;rw[Ya];omega)) (λ_=>true)
     (λD x v H=>∃(j:Nat) (t u:Addr),x=.int (j:Int)/\v=.ref t/\t≠D/\u≠D/\H t=some (.tup [.str (ws.getD j ""),.ref u])/\H u=some (.tup (((uf.getD j []).map λi=>ws.getD i "").map V.str))) ?_ ?_ ?_ ?_ ?_
    ·rintro D x v H H'' hk ⟨j,t,u,e1,e2,h1,h2,h3,h4⟩
     exact⟨j,t,u,e1,e2,h1,h2,hk _ _ h1 h3,hk _ _ h2 h4⟩
    ·intro H3 hs
     exact hs.seq (SqL.of oE)
    ·intro x H3 R hs hx hR
     exact hR H3 (Zaj.refl _)
    ·intro D x H3 R hs ⟨ys,hD⟩ hD0 hx _ hR
     obtain⟨j,hj,rfl⟩:=Ye.mp hx
     have hjl:j<ws.length:=(om j).mp hj
     have huj:uf[j]?=some (uf.getD j []):=by
      have:j<uf.length:=by rw[g.ul];exact hjl
      rw[Yw,Yh this]
      rfl
     obtain⟨uv,hu1,t,rfl,hu2⟩:=Zla pE huj
     have hu3:=hs _ _ hu2
     refine⟨_,rfl,_,rfl,lw,_,_,_,rfl,rfl,SqL.of (hs _ _ wE),Zwt hjl,_,rfl,_,rfl,lu,_,_,_,rfl,rfl,SqL.of (hs _ _ uE),Zb5 hu1,sL (by show 2<=100000;decide),λtn htn=>?_⟩
     have tD:tn≠D:=λz=>by rw[z,hD]at htn;cases htn
     have uD:t≠D:=λz=>by rw[z,hD]at hu3;cases hu3
     exact hR _ _ (λb o e=>by rw[Zab (nNo e htn)];exact e) ⟨j,tn,t,rfl,rfl,tD,uD,uS,by rw[Zab (nNo hu3 htn)];exact hu3⟩
    ·intro D H3 ys hD hs hl hp
     rw[Zmy]at hp
     have hDH:H D=none:=by
      cases e:H D with
      | none=>rfl
      | some o =>
       by_cases z:D=p
       ·obtain⟨oP,hP,_⟩:=dE.pot
        rw[z,hP]at hD;cases hD
       ·rw[dE.keep D o z e]at hD;cases hD
     refine q D (Zh9 ws uf os') H3 (dE.same hs) hDH ⟨ys,hl,?_⟩ (Z1x (m:=ws.length) (by omega) (by omega) ok.word ok.nd rfl (λk js h=>⟨(g.uok k js h).below,(g.uok k js h).nd,(g.uok k js h).few⟩) g.ul on om ol) (by unfold Zh9;rw[Ya];omega)
     exact Zj6 hp
def Zlx:Sp:=λvs H Q _=>∃ x:Str,vs=[.str x]/\x.length<=1000/\∀ H',Zaj H H'->Q (.bl (Zbf x)) H'
def Zjy(K:Fg):Sp:=λvs H Q _=>∃(l:Addr) (rows:RS),vs=[.ref l]/\Z2p K H l rows/\Zdr rows/\∀ H',Zaj H H'->Q .non H'
structure Zky(H:Hp)(d:Addr)(o:Obj)(rows:RS)(kvs:KL):Prop where
 at_:H d=some (.frz o (.dK kvs))
 ups:Zm2 H rows kvs
theorem Zky.mono{H H':Hp}{d:Addr}{o:Obj}{rows:RS}{kvs:KL}(b:Zky H d o rows kvs)(s:Zaj H H'):Zky H' d o rows kvs:=⟨s _ _ b.at_,b.ups.mono λ_ _ e=>s _ _ e⟩
def Zk2:Sp:=λvs H Q _=>∃(d:Addr) (o:Obj) (rows:RS) (kvs:KL),vs=[.ref d]/\Zky H d o rows kvs/\Zdr rows/\∀ H',Zaj H H'->Q .non H'
def Zjg(us left:LS):V:=match us.find? (λx=>decide (x∈left))with | some x=>.str x | none=>.non
def Zt1(K:Fg):Sp:=λvs H Q _=>∃(a b:Addr) (us left:LS),vs=[.ref a,.ref b]/\SqT K H a (us.map V.str)/\SqL K H b (left.map V.str)/\Q (Zjg us left) H
def Zne:Sp:=λvs H Q _=>∃(d:Addr) (o:Obj) (rows:RS) (kvs:KL),vs=[.ref d]/\Zky H d o rows kvs/\Zdr rows/\∀ l H',Zaj H H'->H' l=some (.lst [])->Q (.ref l) H'
def Zze:Sp:=λvs H Q _=>∃(d:Addr) (o:Obj) (rows:RS) (kvs:KL),vs=[.ref d]/\Zky H d o rows kvs/\Zdr rows/\∀ H',Zaj H H'->Q .non H'
structure Z2m(mg:Str->OU):Prop where
 letters:∃ t,mg "LETTERS"=some (.str letters t)
 most:∃ t,mg "MOST_LETTERS"=some (.int 8 t)
 kinds:∃ t,mg "MOST_KINDS"=some (.int 24 t)
 ups:∃ t,mg "MOST_UPS"=some (.int 8 t)
 len:mg "len"=none
 all:mg "all"=none
 list:mg "list"=none
 tuple:mg "tuple"=none
def scW:Zak ["text"] ["text"] (Zad Ze3):=by nofun
def Z1m:(["sign"]:LS).Nodup:=by rfl'
def Zn1(F:Def K mg "is_word" Ze3 ["text"] f fd)(T:Z2m mg):⋯ 1 f fd ["text"] Zlx:=by
 nomatch F.fn.ok scW
 ·obtain⟨x,rfl,_⟩:=h
  rfl
 ·obtain⟨x,rfl,hx,k⟩:=h
  obtain⟨t1,hl⟩:=T.letters
  obtain⟨t2,hm⟩:=T.most
  ac_nf
  refine⟨_,pS (Zaz (Zdh (Zl6 Zjk Zjk Zae (Zam Zdc (by rfl) T.len Yr (pC (pv 0) Zaa)) (Zc4 (v:=.int 8) (by rfl) hm ⟨_,rfl⟩))) (Zac (Zao Zht)) Zai)
   (Zac (Zao (Zam (Zmx rfl) (by rfl) T.all Yx4 (pC
    (Zbt ["sign"] [] [] (λ_=>Za1 (osc:=Zad Ze3) (on:=["text"]) (by rfl') rfl rfl rfl) (Z3z (pv 0)) (λC s H fp=>Zah (i:=0) Z1m rfl (Or.inl rfl) (Or.inr rfl)) (λC s H fp=>Zb3)
     (λC s H fp=>Zhz Zuw (pv 0) (Zc4 (v:=.str letters) (by rfl) hl ⟨_,rfl⟩) (by with_unfolding_all rfl))) Zaa)))),?_⟩
  exists Zar _ a _ _ _
  refine⟨_,rfl,_,_,rfl,⟨sL (by omega),rfl⟩,_,_,rfl,rfl,_,rfl,?_⟩
  have no:¬ (1<=x.length/\x.length<=8)->Zbf x=false:=λh=>by unfold Zbf;rw[Jc h];rfl
  have same:Zaj H H:=Zaj.refl H
  refine Zdu (λh1=>?_) (λh1=>?_)
  ·have h1:(1:Int)<=(x.length:Int):=Je h1
   refine⟨_,_,rfl,rfl,_,rfl,?_⟩
   refine Zdu (λh2=>?_) (λh2=>?_)
   ·have h2:¬ ((x.length:Int)<=8):=by simpa using h2
    have q:=k H same
    rw[no (by omega)]at q
    exact q
   ·have h2:((x.length:Int)<=8):=by simpa using h2
    refine⟨_,rfl,_,rfl,Zda Zxg (by unfold Zh6;rw[Ya,Zgk];exact sL (by omega)) (λ_=>true) Z1w (λ_ _ _=>trivial) ?_ ?_ ?_⟩
    ·intro D ys v R _ _ hR
     exact hR
    ·intro D ys v R _ hv _ hR
     obtain⟨c,_,e⟩:=Ye.mp hv
     subst e
     exact⟨_,rfl,_,_,rfl,rfl,hR⟩
    ·intro D hD
     refine⟨D,x.cps.toList.map Zke,rfl,SqL.of (by rw[<- Zt8];exact uS),?_⟩
     have e:(x.cps.toList.map Zke).all id=Zbf x:=by
      unfold Zbf
      rw[Jb (by omega),Ye3,List.all_map]
      rfl
     have q:=k (upd H D (.lst (((Zh6 x).filter λ_=>true).map Z1w))) λb o hb=>by rw[Zab (nNo hb hD)];exact hb
     rw[<- e]at q
     exact q
  ·have h1:¬ ((1:Int)<=(x.length:Int)):=λz=>h1 (Jb z)
   refine⟨_,rfl,?_⟩
   refine Zfe ?_
   have q:=k H same
   rw[no (by omega)]at q
   exact q
def Zmo{b:Bool}{H:Hp}{a:Addr}{xs:LV}(h:SqB K b H a xs):Z8n K (.ref a) H xs.length:=by
 cases b with
 | true=>exact .inl ⟨xs,h,rfl⟩
 | false=>exact .inr ⟨xs,h,rfl⟩
def Z73:Zak ["rows","seen","word","ups"] ["rows"] (Zad Zfh):=by nofun
def Zmf(F:Def K mg "check_rows" Zfh ["rows"] f fd)(DW:Def K mg "is_word" Ze3 ["text"] fW fdW)(T:Z2m mg):⋯ 2 f fd ["rows"] (Zjy K):=by
 have GW:⋯ 1 fW fdW ["text"] Zlx:=Zn1 DW T
 nomatch F.fn.ok Z73
 ·obtain⟨l,rows,rfl,_⟩:=h
  rfl
 ·obtain⟨l,rows,rfl,⟨b,vs,hl,hp⟩,g,q⟩:=h
  obtain⟨t1,hK⟩:=T.kinds
  obtain⟨t2,hU⟩:=T.ups
  have nd:=Z73.nd
  have hu:=Zf1 hr
  ac_nf
  refine⟨_,pS (Zaz (Zdh (Zl6 Zjk Zjk Zae (Zam Zdc (by rfl) T.len Yr (pC (pv 0) Zaa)) (Zc4 (v:=.int 24) (by rfl) hK ⟨_,rfl⟩))) Zaw Zai)
   (pS (sE 1 nd Zeb)
   (Zac (Zbc Yk rfl (Zid (pv 0)) (Zgx rfl (gC (gE 2 nd) (gC (gE 3 nd) Zem)))
    (pS (Zaz (Zdh (Zcm (Zaf DW GW hr (pC (pv 2) Zaa)))) Zaw Zai)
    (pS (Zaz (Zf9 (Zjb hu (pv 2) (pv 1))) Zaw Zai)
    (pS (Zaz (Zal Zih (Zam Zdc (by rfl) T.len Yr (pC (pv 3) Zaa)) (Zc4 (v:=.int 8) (by rfl) hU ⟨_,rfl⟩) (Zaq _)) Zaw Zai)
    (Zac (Zel hu (pv 1) (pv 2) Zht rfl)))))))),?_⟩
  exists let b:=Zar _ a;let c:=Zar _ b;let e:=Zar _ c;let f:=Zgf _ _ e;let g:=Zar _ f;Zar _ g _ _ _
  have hvl:=hp.length
  have g1:=g.ne
  have g2:=g.le
  refine⟨_,rfl,_,_,rfl,Zmo hl,_,_,rfl,rfl,_,rfl,?_⟩
  rw[show decide ((1:Int)<=(vs.length:Int))=true from Jb (by omega)]
  refine Zfe ⟨_,_,rfl,rfl,_,rfl,?_⟩
  rw[show(decide ((vs.length:Int)<=24))=true from Jb (by omega)]
  refine Zcu ?_
  intro d hd
  have s0:Zaj H (upd H d (.dK [])):=λb o e=>by rw[Zab (nNo e hd)];exact e
  let Iv1:NW:=λi σ H'=>∃(kvs:KL) (a c:OV),σ=[some (.ref l),some (.ref d),a,c]/\Zaj H H'/\H' d=some (.dK kvs)/\kvs.map (·.1)=(rows.take i).map λr=>(Sum.inr r.1:Key)
  refine⟨_,rfl,b,l,vs,rfl,hl.mono s0,Zat Zew Iv1
   ⟨[],none,none,rfl,s0,uS,by simp⟩ (λi σ H' _ h0=>by obtain⟨_,_,_,_,s,_⟩:=h0;exact hl.mono s) ?_ ?_⟩
  ·rintro i v σ H' hi ⟨kvs,a,c,rfl,s,hdk,hk⟩
   obtain⟨r,hr',t,u,rfl,ht,hug⟩:=Zau hp hi
   obtain⟨b',hu'⟩:=hug.sq
   have hmem:r∈rows:=Yf hr'
   have hw:=g.word r hmem
   have hwl:=Zhe hw
   refine⟨t,_,rfl,s.tup ht,rfl,_,_,rfl,_,_,rfl,rfl,?_⟩
   refine⟨_,rfl,r.1,rfl,by omega,λH2 s2=>⟨_,rfl,?_⟩⟩
   rw[hw]
   refine Zcu ?_
   have hd2:H2 d=some (.dK kvs):=s2 _ _ hdk
   refine⟨_,rfl,_,rfl,d,_,rfl,Zgg.k (k:=Sum.inr r.1) hd2,_,rfl,?_⟩
   have hnew:(Sum.inr r.1:Key)∉kvs.map (·.1):=by rw[hk];exact Zg0 g.nd hr'
   rw[Zb1 hnew]
   refine Zcu ?_
   refine⟨_,rfl,_,_,rfl,Zmo (hu'.mono (s.trans s2)),_,_,rfl,rfl,_,rfl,?_⟩
   rw[show decide ((8:Int)<((r.2.map V.str).length:Int))=false from Jc (by rw[Ya];have:=g.few r hmem;omega)]
   refine Zcu ?_
   have hkl:kvs.length=(rows.take i).length:=by have:=congrArg List.length hk;simpa using this
   have hil:(rows.take i).length<=24:=by rw[Yd1];omega
   refine⟨_,rfl,_,rfl,d,_,rfl,Zm3.k (k:=Sum.inr r.1) hd2 (Za2 (by omega)),?_⟩
   refine⟨_,_,_,rfl,λb o e=>?_,uS,?_⟩
   ·rw[Zab (nNo e hd)];exact s2 _ _ (s _ _ e)
   ·rw[Zj3 hnew,hk,Yt,hr',Yb1]
    rfl
  ·rintro σ H' ⟨kvs,a,c,rfl,s,hdk,hk⟩
   exact q H' s
def Z72:Zak ["ups_of","ups","seen","up"] ["ups_of"] (Zad Zgm):=by nofun
def Zls{us:LS}{i:Nat}{v:V}(h:(us.map V.str)[i]?=some v):∃ x,us[i]?=some x/\v=.str x:=by
 rw[Yp]at h
 obtain⟨x,hx,e⟩:=Yk1.mp h
 exact⟨x,hx,e.symm⟩
def Ztn{us:LS}{i:Nat}{x:Str}(nd:us.Nodup)(h:us[i]?=some x):(Sum.inr x:Key)∉(us.take i).map λy=>(Sum.inr y:Key):=by
 intro m
 obtain⟨y,hy,e⟩:=Ye.mp m
 have e:y=x:=by injection e
 subst e
 obtain⟨j,hj,ej⟩:=Ya4.mp hy
 rw[Yd1]at hj
 rw[List.getElem_take]at ej
 have a:us[j]?=some y:=by rw[Yh (by omega),ej]
 have:=Zgq nd a h
 omega
def Zn3(F:Def K mg "check_ups" Zgm ["ups_of"] f fd):⋯ 1 f fd ["ups_of"] Zk2:=by
 nomatch F.fn.ok Z72
 ·obtain⟨d,o,rows,kvs,rfl,_⟩:=h
  rfl
 ·obtain⟨d,o,rows,kvs,rfl,bk,g,q⟩:=h
  have nd:=Z72.nd
  have hu:=Zf1 hr
  ac_nf
  refine⟨_,Zac (Zbc Yk rfl (Z00 (pv 0)) (gE 1 nd)
    (pS (sE 2 nd Zeb)
    (Zac (Zbc Yk rfl (Zhw (pv 1)) (gE 3 nd)
     (pS (Zaz (Zf9 (Zg6 hu (pv 3) (pv 0))) Zaw Zai)
     (pS (Zaz (Zf9 (Zjb hu (pv 3) (pv 2))) Zaw Zai)
     (Zac (Zel hu (pv 2) (pv 3) Zht rfl)))))))),?_⟩
  exists let b:=Zar _ a;let c:=Zar _ b;let e:=Zgf _ _ c;let f:=Zar _ e;Zgf _ _ f _ _ _
  let Iv2:NW:=λi σ H'=>∃(a b c:OV),σ=[some (.ref d),a,b,c]/\Zaj H H'
  refine⟨_,rfl,d,o,kvs,rfl,bk.at_,Zat Zud Iv2 ⟨none,none,none,rfl,Zaj.refl H⟩ (λi σ H' _ h0=>by obtain⟨_,_,_,_,s⟩:=h0;exact s _ _ bk.at_) ?_ ?_⟩
  ·rintro i v σ H' hi ⟨a,b,c,rfl,s⟩
   rw[Yp]at hi
   obtain⟨p,hp,e⟩:=Yk1.mp hi
   obtain⟨r,hr',hk,t,ht,htup⟩:=Zau bk.ups hp
   have hmem:r∈rows:=Yf hr'
   subst e
   show Zff 1 p.2 _ _ _
   rw[ht]
   intro sd hsd
   have s1:Zaj H (upd H' sd (.dK [])):=λb o e=>by rw[Zab (nNo (s _ _ e) hsd)];exact s _ _ e
   have t1:(upd H' sd (.dK [])) t=some (.tup (r.2.map V.str)):=s1 _ _ htup
   let Iv3:NW:=λj σ H2=>∃(kvs':KL) (c:OV),σ=[some (.ref d),some (.ref t),some (.ref sd),c]/\Zaj H H2/\H2 sd=some (.dK kvs')/\kvs'.map (·.1)=(r.2.take j).map λy=>(Sum.inr y:Key)
   refine⟨_,rfl,t,rfl,⟨_,SqT.of t1⟩,Zat (Zea (xs:=r.2.map V.str)) Iv3
    ⟨[],_,rfl,s1,uS,by simp⟩ (λj σ H2 _ h0=>by obtain⟨_,_,_,s,_⟩:=h0;exact SqT.of (s _ _ htup)) ?_ ?_⟩
   ·rintro j v σ H2 hj ⟨kvs',c,rfl,s2,hsd2,hk'⟩
    obtain⟨x,hx,rfl⟩:=Zls hj
    have xm:x∈r.2:=Yf hx
    have known:=g.known r hmem x xm
    refine⟨_,rfl,_,rfl,d,_,rfl,Zgg.f (k:=Sum.inr x) (s2 _ _ bk.at_),_,rfl,?_⟩
    obtain⟨r2,hr2,er2⟩:=Ye.mp known
    obtain⟨t2,hv2,_⟩:=bk.ups.val g.nd hr2
    rw[<- er2,hv2,er2]
    refine Zcu ?_
    have hnew:(Sum.inr x:Key)∉kvs'.map (·.1):=by rw[hk'];exact Ztn (g.upnd r hmem) hx
    refine⟨_,rfl,_,rfl,sd,_,rfl,Zgg.k (k:=Sum.inr x) hsd2,_,rfl,?_⟩
    rw[Zb1 hnew]
    refine Zcu ?_
    have hkl:kvs'.length=(r.2.take j).length:=by have:=congrArg List.length hk';simpa using this
    have hjl:(r.2.take j).length<=8:=by rw[Yd1];have:=g.few r hmem;omega
    have hsH:H sd=none:=s.free hsd
    refine⟨_,rfl,_,rfl,sd,_,rfl,Zm3.k (k:=Sum.inr x) hsd2 (Za2 (by omega)),_,_,rfl,λb o e=>?_,uS,?_⟩
    ·rw[Zab (nNo e hsH)];exact s2 _ _ e
    ·rw[Zj3 hnew,hk',Yt,hx,Yb1]
     rfl
   ·rintro σ H2 ⟨kvs',c,rfl,s2,hsd2,hk'⟩
    exact⟨_,_,_,rfl,s2⟩
  ·rintro σ H' ⟨a,b,c,rfl,s⟩
   exact q H' s
def Z7v:Zak ["words","others","word"] ["words","others"] (Zad Zcv):=by nofun
def Zx2(F:Def K mg "first_among" Zcv ["words","others"] f fd):⋯ 1 f fd ["words","others"] (Zt1 K):=by
 nomatch F.fn.ok Z7v
 ·obtain⟨a,b,us,left,rfl,_⟩:=h
  rfl
 ·obtain⟨a,b,us,left,rfl,ha,hb,q⟩:=h
  have nd:=Z7v.nd
  ac_nf
  refine⟨_,pS (Zbc Yk rfl (Zhw (pv 0)) (gE 2 nd) (Zac (Zaz (Zal Zg9 (pv 2) (pv 1) (by with_unfolding_all rfl)) (Zac (Zao (pv 2))) Zai)))
   (Zac (Zao Zhx)),?_⟩
  exists let b:=_;Zar (Zgf _ _ b) a _ _ _
  let Iv4:NW:=λi σ H'=>H'=H/\(∃ c:OV,σ=[some (.ref a),some (.ref b),c])/\(us.take i).find? (λx=>decide (x∈left))=none
  refine⟨_,rfl,a,rfl,⟨_,ha⟩,Zat (Zea (xs:=us.map V.str)) Iv4 ⟨rfl,⟨none,rfl⟩,by simp⟩ (λi σ H' _ ⟨e,_⟩=>by rw[e];exact ha) ?_ ?_⟩
  ·rintro i v σ H' hi ⟨rfl,⟨c,rfl⟩,hf⟩
   obtain⟨x,hx,rfl⟩:=Zls hi
   refine⟨_,rfl,_,rfl,b,_,rfl,.inl hb,rfl,Zgc left,_,rfl,?_⟩
   show if inV (.str x) (left.map V.str)=true then _ else _
   rw[Zi2]
   have split:us=us.take i++x :: us.drop (i + 1):=by
    have hlt:=(Yn.mp hx).1
    have e:us[i]=x:=(Yn.mp hx).2
    rw[<- e,List.getElem_cons_drop hlt,Yn2]
   refine Zdu (λh=>?_) (λh=>?_)
   ·have fv:Zjg us left=.str x:=by
     unfold Zjg
     rw[split,List.find?_append,hf,Yy2]
     simp only[h]
     rfl
    rw[fv]at q
    exact⟨_,rfl,q⟩
   ·refine⟨rfl,⟨_,rfl⟩,?_⟩
    rw[Yt,hx,List.find?_append,hf]
    have h':decide (x∈left)=false:=by simpa using h
    simp[h']
  ·rintro σ H' ⟨rfl,⟨c,rfl⟩,hf⟩
   rw[Ya,Ye1]at hf
   have fv:Zjg us left=.non:=by unfold Zjg;rw[hf]
   rw[fv]at q
   exact q
def Z1u(rows:RS)(ls:LS):V->Bool
 | .str x=>(Zcq rows x).any λu=>decide (u∈ls)
 | _=>false
def Zym(rows:RS)(ls:LS):((ls.map V.str).filter (Z1u rows ls)).map (λv=>v)=(Graph.kept (Zcq rows) ls).map V.str:=by
 rw[List.map_id',Yz2]
 rfl
def Zyt(us ls:LS):(!decide (Zjg us ls=V.non))=us.any λu=>decide (u∈ls):=by
 unfold Zjg
 cases e:us.find? λx=>decide (x∈ls)with
 | none =>
  have:∀ x∈us,¬ decide (x∈ls)=true:=Yn4.mp e
  rw[Ys2]
  constructor
  ·intro h;simp at h
  ·intro h
   obtain⟨x,hx,h1⟩:=Yg3.mp h
   exact absurd h1 (this x hx)
 | some x =>
  have h1:=List.find?_some e
  have h2:=Yo3 e
  rw[Ys2]
  constructor
  ·intro _;exact Yg3.mpr ⟨x,h2,h1⟩
  ·intro _;rfl
abbrev Z8f:LS:=["ups_of","left","kept"]
def scE:Zak Z8f ["ups_of"] (Zad Zf6):=by nofun
def Z4d:(["word","ups_of","left"]:LS).Nodup:=by rfl'
def Zd6{rows:RS}{x:Str}(h:x∈rows.map (·.1)):∃ r∈rows,r.1=x:=by
 obtain⟨r,hr,e⟩:=Ye.mp h
 exact⟨r,hr,e⟩
def Zsj(F:Def K mg "endless" Zf6 ["ups_of"] f fd)(DF:Def K mg "first_among" Zcv ["words","others"] fF fdF)(T:Z2m mg):⋯ 2 f fd ["ups_of"] Zne:=by
 have GF:⋯ 1 fF fdF ["words","others"] (Zt1 K):=Zx2 DF
 nomatch F.fn.ok scE
 ·obtain⟨d,o,rows,kvs,rfl,_⟩:=h
  rfl
 ·obtain⟨d,o,rows,kvs,rfl,bk,g,q⟩:=h
  have nd:=scE.nd
  have hu:=Zf1 hr
  ac_nf
  refine⟨_,pS (Zag (i:=1) nd rfl (Or.inr rfl) (Zbd (Zf2 rfl) (by rfl) T.list Yb2 (pC (pv 0) Zaa)))
   (Zac (Zfs Yk (Zcm Zht)
    (pS (Zcz (k:=2) ["word"] ["ups_of","left"] [0,1] nd rfl rfl (λ_=>Za1 (osc:=Zad Zf6) (on:=Z8f) (by rfl') rfl rfl rfl) (Zbb (pv 1)) (λC s H fp=>Zah (i:=0) Z4d rfl (Or.inl rfl) (Or.inr rfl))
     (λC s H fp=>Zek (Zf9 (Zuq (Zaf DF GF hr (pC (Zd1 hu (pv 1) (pv 0) (λ_ _=>rfl)) (pC (pv 2) Zaa)))))) (λC s H fp=>pv 0))
    (pS (Zaz (Zal Zds (Zam Zdc (by rfl) T.len Yr (pC (pv 2) Zaa)) (Zam Zdc (by rfl) T.len Yr (pC (pv 1) Zaa)) (Zaq _)) (Zac (Zao (pv 2))) Zai)
    (Zac (Zag (i:=1) nd rfl (Or.inr rfl) (pv 2))))))),?_⟩
  exists let b:=Zar _ a;let c:=Zar _ b;let e:=Zju _ c;Zar _ e _ _ _
  have wl:(rows.map (·.1)).length<=24:=by rw[Ya];exact g.le
  refine⟨_,rfl,d,kvs,rfl,.inr ⟨o,bk.at_⟩,λl0 hl0=>?_⟩
  let Hv1:NW:=λm σ H'=>∃(ll:Addr) (ls:LS) (c:OV),σ=[some (.ref d),some (.ref ll),c]/\Zaj H H'/\H' ll=some (.lst (ls.map V.str))/\(∀ x∈ls,x∈rows.map (·.1))/\ls.length<=24/\m=ls.length
  refine⟨Hv1,
   ⟨_,l0,rows.map (·.1),none,rfl,λb o e=>by rw[Zab (nNo e hl0)];exact e,by rw[uS,Zyj bk.ups],λx h=>h,wl,rfl⟩,?_⟩
  rintro m σ H' ⟨ll,ls,c,rfl,s1,hll,hsub,h24,rfl⟩
  refine⟨true,rfl,?_⟩
  let Hv2:SW:=λσ' H2=>∃ m',m'<ls.length/\∃(ll:Addr) (ls:LS) (c:OV),σ'=[some (.ref d),some (.ref ll),c]/\Zaj H H2/\H2 ll=some (.lst (ls.map V.str))/\(∀ x∈ls,x∈rows.map (·.1))/\ls.length<=24/\m'=ls.length
  refine Zfe ⟨Hv2,λ_ _ h=>h,?_⟩
  refine⟨_,rfl,ll,rfl,⟨_,SqL.of hll⟩,Zda (Zav (xs:=ls.map V.str)) (sL (by rw[Ya];omega)) (Z1u rows ls) (λv=>v) (λD ys hD=>SqL.of (by rw[Zab (nNo hll hD)];exact hll)) ?_ ?_ ?_⟩
  ·intro D ys v R hD hv hR
   obtain⟨x,hx,rfl⟩:=Ye.mp hv
   obtain⟨r,hr',rfl⟩:=Zd6 (hsub x hx)
   obtain⟨t,hvt,ht⟩:=bk.ups.val g.nd hr'
   have kp:∀ b o,H b=some o->(upd H' D (.lst ys)) b=some o:=λb o e=>by rw[Zab (nNo (s1 _ _ e) hD)];exact s1 _ _ e
   refine⟨_,rfl,_,rfl,d,_,rfl,(by rw[<- hvt];exact Zgg.f (k:=Sum.inr r.1) (kp _ _ bk.at_)),_,rfl,t,ll,r.2,ls,rfl,SqT.of (kp _ _ ht),SqL.of (by rw[Zab (nNo hll hD)];exact hll),_,rfl,?_⟩
   have e:(!decide (Zjg r.2 ls=V.non))=Z1u rows ls (V.str r.1):=by
    rw[Zyt]
    show _=(Zcq rows r.1).any _
    rw[Zh3 g.nd hr']
   rw[e]
   exact hR
  ·intro D ys v R hD hv _ hR
   exact⟨_,rfl,hR⟩
  ·intro D hD
   rw[Zym]
   have hDl:(upd H' D (.lst ((Graph.kept (Zcq rows) ls).map V.str))) ll=some (.lst (ls.map V.str)):=by rw[Zab (nNo hll hD)];exact hll
   have s2:Zaj H (upd H' D (.lst ((Graph.kept (Zcq rows) ls).map V.str))):=λb o e=>by rw[Zab (nNo (s1 _ _ e) hD)];exact s1 _ _ e
   refine⟨_,rfl,_,_,rfl,.inl ⟨_,SqL.of uS,rfl⟩,_,rfl,_,_,rfl,.inl ⟨_,SqL.of hDl,rfl⟩,rfl,_,rfl,?_⟩
   have kle:=Graph.kept_le (Zcq rows) ls
   refine Zdu (λh=>?_) (λh=>?_)
   ·have h:(Graph.kept (Zcq rows) ls).length=ls.length:=by
     have:=Je h
     injection this with this
     rw[Ya,Ya]at this
     omega
    obtain⟨rk,hrk⟩:=g.rank
    have nil:ls=[]:=Graph.kept_nil (rk:=rk) (λa ha b hb=>by
     obtain⟨r,hr',rfl⟩:=Zd6 (hsub a ha)
     rw[Zh3 g.nd hr']at hb
     exact hrk r hr' b hb) h
    have kn:Graph.kept (Zcq rows) ls=[]:=by rw[nil];rfl
    refine⟨_,rfl,q D _ s2 ?_⟩
    rw[uS,kn]
    rfl
   ·have h:(Graph.kept (Zcq rows) ls).length≠ls.length:=λz=>h (Jb (by rw[Ya,Ya,z]))
    exact⟨_,rfl,_,by omega,D,_,_,rfl,s2,uS,λx hx=>hsub x (Graph.kept_sub hx),by omega,rfl⟩
def scR:Zak ["ups_of","left","way","here"] ["ups_of"] (Zad Zgl):=by nofun
def Z1d(F:Def K mg "find_ring" Zgl ["ups_of"] f fd)(DE:Def K mg "endless" Zf6 ["ups_of"] fE fdE)(DF:Def K mg "first_among" Zcv ["words","others"] fF fdF)(T:Z2m mg):⋯ 3 f fd ["ups_of"] Zze:=by
 have GE:⋯ 2 fE fdE ["ups_of"] Zne:=Zsj DE DF T
 nomatch F.fn.ok scR
 ·obtain⟨d,o,rows,kvs,rfl,_⟩:=h
  rfl
 ·obtain⟨d,o,rows,kvs,rfl,bk,g,q⟩:=h
  have nd:=scR.nd
  ac_nf
  refine⟨_,pS (sE 1 nd (Zaf DE GE hr (pC (pv 0) Zaa)))
   (pS (Zaz (Zdh (Zjq (pv 1) (λ_=>rfl))) (Zac (Zao Zhx)) Zai) Zaw),?_⟩
  exists let b:=Zar _ a;Zar _ b _ _ _
  refine⟨_,rfl,d,o,rows,kvs,rfl,bk,g,λl H' s1 hl=>?_⟩
  exact⟨_,rfl,false,.inl ⟨[],SqL.of hl,rfl⟩,Zfe (q H' s1)⟩
def inK(x:Str):Key:=Sum.inr x
def Zt6:Sp:=λvs H Q _=>∃(d:Addr) (o:Obj) (rows:RS) (kvs:KL) (x:Str),vs=[.ref d,.str x]/\Zky H d o rows kvs/\Zdr rows/\x∈rows.map (·.1) /\
 ∀ a o' fk H',H a=none->Zaj H H'->H' a=some (.frz o' (.dK fk))->(∀ y,(Sum.inr y:Key)∈fk.map (·.1)↔Graph.Reach (Zcq rows) x y)->Q (.ref a) H'
structure Z2w(rows:RS)(x:Str)(fs ws:LS):Prop where
 start:x∈fs
 sub:∀ y∈ws,y∈fs
 known:∀ y∈fs,y∈rows.map (·.1)
 nd:fs.Nodup
 reach:∀ y∈fs,Graph.Reach (Zcq rows) x y
 closed:∀ y∈fs,y∉ws->∀ u∈Zcq rows y,u∈fs
 few:ws.length<=fs.length
def scA:Zak ["ups_of","word","found","waiting","here","up"] ["ups_of","word"] (Zad Zgn):=by nofun
def Zkc{fk:KL}{fs:LS}(h:fk.map (·.1)=fs.map inK)(y:Str):(Sum.inr y:Key)∈fk.map (·.1)↔y∈fs:=by
 rw[h]
 constructor
 ·intro m
  obtain⟨z,hz,e⟩:=Ye.mp m
  have e:z=y:=by
   unfold inK at e
   injection e
  rw[<- e];exact hz
 ·intro m
  exact Ye.mpr ⟨y,m,rfl⟩
def Ze1{fk:KL}{k:Key}(h:k∈fk.map (·.1)):(Zex fk k).isSome=true:=by
 cases e:Zex fk k with
 | none=>exact absurd h (Zqj e)
 | some v=>rfl
def Zx7(F:Def K mg "all_above" Zgn ["ups_of","word"] f fd):⋯ 1 f fd ["ups_of","word"] Zt6:=by
 nomatch F.fn.ok scA
 ·obtain⟨d,o,rows,kvs,x,rfl,_⟩:=h
  rfl
 ·obtain⟨d,o,rows,kvs,x,rfl,bk,g,hx,q⟩:=h
  have nd:=scA.nd
  have hu:=Zf1 hr
  ac_nf
  refine⟨_,pS (sE 2 nd (Z05 (Zxl (pv 1) Zht Z0z) rfl rfl (by simp) (by show 1<=15;decide)))
   (pS (sE 3 nd (Zbj (pC (pv 1) Zaa)))
   (pS (Zfs Yk (Zjq (pv 3) (λ_=>rfl))
    (pS (sE 4 nd (Zzv Yu PySem.F.slot_list_pop PySem.F.type_list_pop Zz1 (pv 3)))
    (Zac (Zbc Yk rfl (Zhw (Zd1 hu (pv 0) (pv 4) (λ_ _=>rfl))) (gE 5 nd)
     (Zac (Zaz (Zf9 (Zg6 hu (pv 5) (pv 2))) (pS (Zel hu (pv 2) (pv 5) Zht rfl)
      (Zac (Zax (Zf0 Yu Yi1 Yj1 Zbw (pv 3) (pC (pv 5) Zaa))))) Zai))))))
   (Zl8 (Zac (Zao (pv 2)))))),?_⟩
  exists let b:=_;let c:=Zar _ b;let e:=Zhf _ c _;let f:=Zgf _ _ e;let g:=Zar _ f;let h:=Zar (Zju _ g) a;let i:=Zar _ h;Zar _ i _ _ _
  intro fa hfa
  refine⟨_,rfl,uS,[(Sum.inr x,.bl true)],rfl,(by show 1<=15;decide),?_⟩
  rw[Zgz]
  refine⟨_,rfl,sL (by show 1<=100000;decide),λwa hwa=>?_⟩
  have fw:fa≠wa:=nNo uS hwa
  have hwaH:H wa=none:=by
   cases e:H wa with
   | none=>rfl
   | some u=>rw[Zab (Ym fw),e]at hwa;cases hwa
  have bound:∀ {fs ws:LS},Z2w rows x fs ws->fs.length<=rows.length:=λ{fs ws} h=>by
   have:=Graph.nodup_le h.nd h.known
   rwa [Ya]at this
  have gle:=g.le
  let Hv3:NW:=λm σ H'=>∃(fs ws:LS) (fk:KL) (a b:OV),σ=[some (.ref d),some (.str x),some (.ref fa),some (.ref wa),a,b]/\Zaj H H'/\H' fa=some (.dK fk)/\fk.map (·.1)=fs.map inK/\H' wa=some (.lst (ws.map V.str))/\Z2w rows x fs ws/\m + 2 * fs.length=2 * rows.length + ws.length
  refine⟨Hv3,
   ⟨2 * rows.length - 1,[x],[x],[(Sum.inr x,.bl true)],none,none,rfl,λb o e=>by rw[Zab (nNo e hwaH),Zab (nNo e hfa)];exact e,by rw[Zab fw];exact uS,rfl,uS,
    ⟨by simp,λy h=>h,λy h=>by rw[Yc.mp h];exact hx,by simp,λy h=>by rw[Yc.mp h];exact .refl x,λy h n=>absurd h n,Yd _⟩,by have:=g.ne;simp;omega⟩,?_⟩
  rintro m σ H' ⟨fs,ws,fk,a,b,rfl,s1,hf,hk,hw,go,hm⟩
  have flen:=bound go
  refine⟨_,rfl,_,.inl ⟨_,SqL.of hw,rfl⟩,?_⟩
  refine Zdu (λhne=>?_) (λhne=>?_)
  ·-- here=waiting.pop()
   have wne:ws≠[]:=by
    intro z
    rw[z]at hne
    cases hne
   have hpos:0<ws.length:=Yx1.mpr wne
   have split:ws=ws.dropLast++[ws.getLast wne]:=(List.dropLast_concat_getLast wne).symm
   generalize hhere:ws.getLast wne=here at split
   have hmem:here∈ws:=by rw[split];simp
   have hfs:here∈fs:=go.sub here hmem
   obtain⟨r,hr',er⟩:=Zd6 (go.known here hfs)
   obtain⟨t,hvt,ht⟩:=bk.ups.val g.nd hr'
   have last:(ws.map V.str)[(ws.map V.str).length - 1]?=some (V.str here):=by
    rw[Yp,Ya]
    have:ws[ws.length - 1]?=some here:=by
     rw[<- hhere,List.getLast_eq_getElem,Yh (by omega)]
    rw[this]
    rfl
   let Hv4:SW:=λσ' H2=>∃ m',m'<m/\∃(fs ws:LS) (fk:KL) (a b:OV),σ'=[some (.ref d),some (.str x),some (.ref fa),some (.ref wa),a,b]/\Zaj H H2/\H2 fa=some (.dK fk)/\fk.map (·.1)=fs.map inK/\H2 wa=some (.lst (ws.map V.str))/\Z2w rows x fs ws/\m' + 2 * fs.length=2 * rows.length + ws.length
   refine⟨Hv4,λ_ _ h=>h,?_⟩
   refine⟨_,rfl,.inl ⟨rfl,_,SqL.of hw⟩,wa,_,_,rfl,rfl,hw,last,?_⟩
   have s2:Zaj H (upd H' wa (.lst (ws.map V.str).dropLast)):=λb o e=>by rw[Zab (nNo e hwaH)];exact s1 _ _ e
   refine⟨_,rfl,_,rfl,d,_,rfl,(by rw[<- hvt,er];exact Zgg.f (k:=Sum.inr here) (s2 _ _ bk.at_)),t,rfl,⟨_,SqT.of (s2 _ _ ht)⟩,?_⟩
   have uo:Zcq rows here=r.2:=by rw[<- er];exact Zh3 g.nd hr'
   refine Zat (Zea (xs:=r.2.map V.str)) (λj σ H2=>∃(fs' ws':LS) (fk':KL) (b:OV),σ=[some (.ref d),some (.str x),some (.ref fa),some (.ref wa),some (.str here),b]/\Zaj H H2/\H2 fa=some (.dK fk')/\fk'.map (·.1)=fs'.map inK/\H2 wa=some (.lst (ws'.map V.str)) /\
    (∀ y∈fs,y∈fs')/\(∀ y∈ws.dropLast,y∈ws')/\(∀ y∈ws',y∈fs')/\(∀ y∈fs',y∈rows.map (·.1))/\fs'.Nodup/\(∀ y∈fs',Graph.Reach (Zcq rows) x y)/\(∀ y∈fs',y∈fs\/y∈ws')/\(∀ u∈r.2.take j,u∈fs')/\ws'.length + 2 * fs.length + fs'.length<=ws.dropLast.length + 2 * fs'.length + fs.length)
    ⟨fs,ws.dropLast,fk,_,rfl,s2,by rw[Zab fw];exact hf,hk,by rw[uS,List.map_dropLast],λy h=>h,λy h=>h,λy h=>go.sub y ((List.dropLast_sublist ws).subset h),go.known,go.nd,go.reach,λy h=>.inl h,λu h=>by simp at h,by omega⟩ (λj σ H2 _ h0=>by obtain⟨_,_,_,_,_,s,_⟩:=h0;exact SqT.of (s _ _ ht)) ?_ ?_
   ·rintro j v σ H2 hj ⟨fs',ws',fk',b,rfl,s3,hf3,hk3,hw3,c1,c2,c3,c4,c5,c6,c7,c8,c9⟩
    obtain⟨u,hu',rfl⟩:=Zls hj
    have um:u∈r.2:=Yf hu'
    have fl3:fs'.length<=rows.length:=by
     have:=Graph.nodup_le c5 c4
     rwa [Ya]at this
    have kl:fk'.length=fs'.length:=by have:=congrArg List.length hk3;simpa using this
    refine⟨_,rfl,_,rfl,fa,_,rfl,Zgg.k (k:=Sum.inr u) hf3,_,rfl,?_⟩
    have dl:ws.dropLast.length=ws.length - 1:=Yz4
    have gf:=go.few
    by_cases nin:u∉fs'
    ·have nk:(Sum.inr u:Key)∉fk'.map (·.1):=λz=>nin ((Zkc hk3 u).mp z)
     have wl3:ws'.length<=rows.length * 3:=by omega
     rw[Zb1 nk]
     refine Zfe ?_
     refine⟨_,rfl,_,rfl,fa,_,rfl,Zm3.k (k:=Sum.inr u) hf3 (Za2 (by omega)),?_⟩
     have hw4:(upd H2 fa (.dK (Zdt fk' (Sum.inr u) (.bl true)))) wa=some (.lst (ws'.map V.str)):=by rw[Zab (Ym fw)];exact hw3
     refine⟨_,rfl,.inl ⟨rfl,_,SqL.of hw4⟩,_,rfl,wa,_,_,rfl,rfl,hw4,Za2 (by rw[Ya];omega),?_⟩
     refine⟨fs'++[u],ws'++[u],Zdt fk' (Sum.inr u) (.bl true),_,rfl,λb o e=>by rw[Zab (nNo e hwaH),Zab (nNo e hfa)];exact s3 _ _ e,by rw[Zab fw];exact uS,?_,by rw[uS,Yb1];rfl,λy h=>Yf2 _ (c1 y h),λy h=>Yf2 _ (c2 y h),λy h=>?_,λy h=>?_,?_,λy h=>?_,λy h=>?_,λy h=>?_,?_⟩
     ·rw[Zj3 nk,hk3,Yb1]
      rfl
     ·rcases Yo.mp h with h | h
      ·exact Yf2 _ (c3 y h)
      ·exact Yl1 _ h
     ·rcases Yo.mp h with h | h
      ·exact c4 y h
      ·rw[Yc.mp h];exact g.known r hr' u um
     ·rw[Yc3]
      exact⟨c5,by simp,λa ha b hb e=>nin (by rw[<- Yc.mp hb,<- e];exact ha)⟩
     ·rcases Yo.mp h with h | h
      ·exact c6 y h
      ·rw[Yc.mp h];exact(go.reach here hfs).snoc (by rw[uo];exact um)
     ·rcases Yo.mp h with h | h
      ·rcases c7 y h with h | h
       ·exact .inl h
       ·exact .inr (Yf2 _ h)
      ·exact .inr (Yl1 _ h)
     ·rw[Yt,hu']at h
      rcases Yo.mp h with h | h
      ·exact Yf2 _ (c8 y h)
      ·have:y=u:=by simpa using h
       rw[this];exact Yl1 _ (by simp)
     ·rw[Yi,Yi]
      simp only[Yv1]
      omega
    ·have yin:u∈fs':=Yx2 nin
     rw[Ze1 ((Zkc hk3 u).mpr yin)]
     refine Zcu ?_
     refine⟨fs',ws',fk',_,rfl,s3,hf3,hk3,hw3,c1,c2,c3,c4,c5,c6,c7,λy h=>?_,c9⟩
     rw[Yt,hu']at h
     rcases Yo.mp h with h | h
     ·exact c8 y h
     ·have:y=u:=by simpa using h
      rw[this];exact yin
   ·rintro σ H2 ⟨fs',ws',fk',b,rfl,s3,hf3,hk3,hw3,c1,c2,c3,c4,c5,c6,c7,c8,c9⟩
    rw[Ya,Ye1]at c8
    have fl3:fs'.length<=rows.length:=by
     have:=Graph.nodup_le c5 c4
     rwa [Ya]at this
    have dl:ws.dropLast.length=ws.length - 1:=Yz4
    have fle:fs.length<=fs'.length:=Graph.nodup_le go.nd c1
    have gf:=go.few
    refine⟨2 * rows.length + ws'.length - 2 * fs'.length,by omega,fs',ws',fk',_,_,rfl,s3,hf3,hk3,hw3,⟨c1 x go.start,c3,c4,c5,c6,λy hy hn u hu'=>?_,by omega⟩,by omega⟩
    rcases c7 y hy with hy' | hy'
    ·by_cases yh:y=here
     ·rw[yh,uo]at hu'
      exact c8 u hu'
     ·have nw:y∉ws:=λz=>by
       rw[split]at z
       rcases Yo.mp z with z | z
       ·exact hn (c2 y z)
       ·exact yh (Yc.mp z)
      exact c1 u (go.closed y hy' nw u hu')
    ·exact absurd hy' hn
  ·have wnil:ws=[]:=by
    cases ws with
    | nil=>rfl
    | cons y r=>exact absurd rfl hne
   refine⟨fa,fk,hf,λo'=>⟨_,rfl,q fa o' fk _ hfa (λb o e=>by rw[Zab (nNo e hfa)];exact s1 _ _ e) uS λy=>?_⟩⟩
   rw[Zkc hk y]
   constructor
   ·exact λh=>go.reach y h
   ·intro h
    refine Graph.closed_reach (S:=λy=>y∈fs) (λy hy u hu'=>go.closed y hy (by rw[wnil];simp) u hu') h go.start
def fne:¬ (("ups_of":Str)="above_of"):=by rfl'
def Zrn(d a:Addr):List (Str×V):=Zhl "above_of" (.ref a) (Zhl "ups_of" (.ref d) [])
def Zv4(d a:Addr):(Zrn d a).lookup ("ups_of":Str)=some (.ref d):=by
 unfold Zrn
 rw[Zas,if_neg fne,Zas,if_pos rfl]
def Zz5(d a:Addr):(Zrn d a).lookup ("above_of":Str)=some (.ref a):=by
 unfold Zrn
 rw[Zas,if_pos rfl]
def Zkh(d a:Addr){m:Str}(h1:¬ m="above_of")(h2:¬ m="ups_of"):(Zrn d a).lookup m=none:=by
 unfold Zrn
 rw[Zas,if_neg h1,Zas,if_neg h2]
 rfl
def Zhd(H:Hp)(all rows:RS)(avs:KL):Prop :=
 Paired (λr (p:Key×V)=>p.1=Sum.inr r.1/\∃ t o' fk,p.2=.ref t/\H t=some (.frz o' (.dK fk))/\∀ y,(Sum.inr y:Key)∈fk.map (·.1)↔Graph.Reach (Zcq all) r.1 y) rows avs
def Zhd.mono{H H':Hp}{all rows:RS}{avs:KL}(h:Zhd H all rows avs)(s:∀ b o' fk,H b=some (.frz o' (.dK fk))->H' b=some (.frz o' (.dK fk))):Zhd H' all rows avs :=
 Paired.mapP h λ_ _ z=>⟨z.1,let⟨t,o',fk,e,x,y⟩:=z.2;⟨t,o',fk,e,s _ _ _ x,y⟩⟩
theorem Zhd.keys:∀ {H:Hp}{all rows:RS}{kvs:KL},Zhd H all rows kvs->kvs.map (·.1)=rows.map λr=>(Sum.inr r.1:Key)
 | _,_,_,_,.nil=>rfl
 | _,_,_,_,.cons r t=>by rw[Yy,Yy,r.1,Zhd.keys t]
theorem Zhd.val:∀ {H:Hp}{all rows:RS}{kvs:KL},Zhd H all rows kvs->(rows.map (·.1)).Nodup->∀ {r:Str×LS},r∈rows->∃ t o' fk,Zex kvs (Sum.inr r.1)=some (.ref t)/\H t=some (.frz o' (.dK fk))/\∀ y,(Sum.inr y:Key)∈fk.map (·.1)↔Graph.Reach (Zcq all) r.1 y
 | _,_,_,_,.nil,_,r,h=>nomatch h
 | _,_,q :: rs,p :: ps,.cons z t,nd,r,h=>by
  have nd':(q.1 :: rs.map (·.1)).Nodup:=nd
  obtain⟨n1,n2⟩:=Ys1.mp nd'
  obtain⟨z1,u,o',fk,z2,z3,z4⟩:=z
  rcases Yg1.mp h with e | h
  ·subst e
   exact⟨u,o',fk,by rw[Zcc z1,z2],z3,z4⟩
  ·have ne:¬ p.1=(Sum.inr r.1:Key):=λe=>n1 (by
    rw[z1]at e
    have e':q.1=r.1:=by injection e
    rw[e']
    exact Ye.mpr ⟨r,h,rfl⟩)
   obtain⟨u',o'',fk',h1,h2⟩:=Zhd.val t n2 h
   exact⟨u',o'',fk',by rw[Zcd ne];exact h1,h2⟩
structure Zbk(C:Addr)(H:Hp)(p:Addr)(rows:RS):Prop where
 ex:∃(dx d a:Addr) (o oa:Obj) (kvs avs:KL),H p=some (.ins C dx (Zrn d a))/\Zky H d o rows kvs/\H a=some (.frz oa (.dK avs))/\Zhd H rows rows avs
theorem Zbk.mono{C:Addr}{H H':Hp}{p:Addr}{rows:RS}(h:Zbk C H p rows)(s:Zaj H H'):Zbk C H' p rows:=by
 obtain⟨dx,d,a,o,oa,kvs,avs,h1,h2,h3,h4⟩:=h.ex
 exact⟨dx,d,a,o,oa,kvs,avs,s _ _ h1,h2.mono s,s _ _ h3,h4.mono λ_ _ _ e=>s _ _ e⟩
structure Zmz(K:Fg)(C:Addr):Prop where
 cl:Cls K C
 nU:Zfz K C "ups_of"
 nA:Zfz K C "above_of"
structure Zo7(K:Fg)(C:Addr)(m qual:Str)(st:Stmt)(ps:LS)(f:Addr)(fd:FuncData):Prop where
 fn:Fun K m qual st f fd
 b:Zeh K fd ps []
 me:Z5p K C m f
def Ztz(K:Fg)(C:Addr):Sp:=λvs H Q _=>∃(p dx l:Addr) (rows:RS),vs=[.ref p,.ref l]/\H p=some (.ins C dx [])/\Z2p K H l rows/\Zdr rows /\
 ∀ H',Zbk C H' p rows->(∀ b o,b≠p->H b=some o->H' b=some o)->Q .non H'
def Zlz(C:Addr):Sp:=λvs H Q _=>∃(p:Addr) (rows:RS) (x:Str),vs=[.ref p,.str x]/\Zbk C H p rows/\Zdr rows/\x∈rows.map (·.1)/\Q .non H
def Zt0(C:Addr):Sp:=λvs H Q _=>∃(p:Addr) (rows:RS) (x:Str),vs=[.ref p,.str x]/\Zbk C H p rows/\Zdr rows/\Q (.bl (decide (x∈rows.map (·.1)))) H
def Zm8(C:Addr):Sp:=λvs H Q _=>∃(p:Addr) (rows:RS),vs=[.ref p]/\Zbk C H p rows/\Zdr rows/\∀ l,H l=none->Q (.ref l) (upd H l (.lst ((rows.map (·.1)).map V.str)))
def Ze8(rows:RS)(x y:Str):Bool:=@decide (Graph.Reach (Zcq rows) x y) (Classical.propDecidable _)
def Ztr(C:Addr):Sp:=λvs H Q _=>∃(p:Addr) (rows:RS) (x y:Str),vs=[.ref p,.str x,.str y]/\Zbk C H p rows/\Zdr rows/\x∈rows.map (·.1)/\y∈rows.map (·.1)/\Q (.bl (Ze8 rows x y)) H
def scI:Zak ["self","rows","ups_of","word","ups","ring","above_of"] ["self","rows"] (Zad Zei):=by nofun
def Z1e(F:Fun K "__init__" "Kinds.__init__" Zei f fd)(T:Z2m mg)(TC:Zmz K C)(D1:Def K mg "check_rows" Zfh ["rows"] f1 d1)(D2:Def K mg "is_word" Ze3 ["text"] f2 d2)
  (D3:Def K mg "check_ups" Zgm ["ups_of"] f3 d3) (D4:Def K mg "find_ring" Zgl ["ups_of"] f4 d4) (D5:Def K mg "endless" Zf6 ["ups_of"] f5 d5) (D6:Def K mg "first_among" Zcv ["words","others"] f6 d6) (D7:Def K mg "all_above" Zgn ["ups_of","word"] f7 d7):
  ⋯ 4 f fd ["self","rows"] (Ztz K C):=by
 have G1:⋯ 2 f1 d1 ["rows"] (Zjy K):=Zmf D1 D2 T
 have G3:⋯ 1 f3 d3 ["ups_of"] Zk2:=Zn3 D3
 have G4:⋯ 3 f4 d4 ["ups_of"] Zze:=Z1d D4 D5 D6 T
 have G7:⋯ 1 f7 d7 ["ups_of","word"] Zt6:=Zx7 D7
 nomatch F.ok scI
 ·obtain⟨p,dx,l,rows,rfl,_⟩:=h
  rfl
 ·obtain⟨p,dx,l,rows,rfl,hp,hR,g,q⟩:=h
  have nd:=scI.nd
  have hu:=Zf1 hr
  have hr1:Zcb 1 _:=hr.mono (by decide)
  have hr2:Zcb 2 _:=hr.mono (by decide)
  ac_nf
  refine⟨_,pS (Zax (Zaf D1 G1 hr2 (pC (pv 1) Zaa)))
   (pS (sE 2 nd Zeb)
   (pS (Zbc Yk rfl (Zid (pv 1)) (Zgx rfl (gC (gE 3 nd) (gC (gE 4 nd) Zem)))
    (Zac (Zel hu (pv 2) (pv 3) (Zbd Zbg (by rfl) T.tuple Yh1 (pC (pv 4) Zaa)) rfl)))
   (Zl8 (pS (Zax (Zaf D3 G3 hr1 (pC (pv 2) Zaa)))
   (pS (sE 5 nd (Zaf D4 G4 hr (pC (pv 2) Zaa)))
   (pS (Zaz (Zf9 (Zuq (pv 5))) Zaw Zai)
   (pS (sE 6 nd Zeb)
   (pS (Zbc Yk rfl (Zuo (pv 2)) (gE 3 nd) (Zac (Zel hu (pv 6) (pv 3) (Zaf D7 G7 hr1 (pC (pv 2) (pC (pv 3) Zaa))) rfl)))
   (Zl8 (pS (Zja (pv 0) (pv 2) rfl) (Zac (Zja (pv 0) (pv 6) rfl)))))))))))),?_⟩
  exists let b:=_;let c:=Zar (Zgf _ _ b) a;let e:=Zar _ c;Zar _ e _ _ _
  refine⟨_,rfl,l,rows,rfl,hR,g,λH1 s1=>?_⟩
  intro d hd
  have s2:Zaj H (upd H1 d (.dK [])):=λb o e=>by rw[Zab (nNo (s1 _ _ e) hd)];exact s1 _ _ e
  obtain⟨b,vs,hl,hpr⟩:=hR
  let Iv1:NW:=λi σ H'=>∃(kvs:KL) (a c:OV),σ=[some (.ref p),some (.ref l),some (.ref d),a,c,none,none]/\Zaj H H'/\H' d=some (.dK kvs)/\Zm2 H' (rows.take i) kvs
  refine⟨_,rfl,b,l,vs,rfl,hl.mono s2,Zat Zew Iv1
   ⟨[],none,none,rfl,s2,uS,by rw[Ym1];exact .nil⟩ (λi σ H' _ h0=>by obtain⟨_,_,_,_,s,_⟩:=h0;exact hl.mono s) ?_ ?_⟩
  ·rintro i v σ H' hi ⟨kvs,a,c,rfl,s3,hdk,hU⟩
   obtain⟨r,hr',t,u,rfl,ht,hug⟩:=Zau hpr hi
   have dH:H d=none:=s1.free hd
   refine⟨t,_,rfl,s3.tup ht,rfl,_,_,rfl,_,_,rfl,rfl,?_⟩
   have hnew:(Sum.inr r.1:Key)∉kvs.map (·.1):=by rw[hU.keys];exact Zg0 g.nd hr'
   have hil:(rows.take i).length<=24:=by rw[Yd1];have:=g.le;omega
   have hkl:kvs.length=(rows.take i).length:=(Yz hU).symm
   have fin:∀(t2:Addr) (H2:Hp),Zaj H' H2->H2 t2=some (.tup (r.2.map V.str))->∃(kvs':KL) (a c:OV),[some (V.ref p),some (V.ref l),some (V.ref d),some (V.str r.1),some (V.ref u),none,none]=[some (V.ref p),some (V.ref l),some (V.ref d),a,c,none,none]/\Zaj H (upd H2 d (.dK (Zdt kvs (Sum.inr r.1) (.ref t2)))) /\
     (upd H2 d (.dK (Zdt kvs (Sum.inr r.1) (.ref t2)))) d=some (.dK kvs')/\Zm2 (upd H2 d (.dK (Zdt kvs (Sum.inr r.1) (.ref t2)))) (rows.take (i + 1)) kvs':=λt2 H2 s4 ht2=>by
    have d2:=s4 _ _ hdk
    have tk:∀ b xs,H2 b=some (.tup xs)->(upd H2 d (.dK (Zdt kvs (Sum.inr r.1) (.ref t2)))) b=some (.tup xs):=λb xs e=>by
     rw[Zab (λz=>by rw[z,d2]at e;cases e)];exact e
    refine⟨_,_,_,rfl,λb o e=>by rw[Zab (nNo e dH)];exact s4 _ _ (s3 _ _ e),uS,?_⟩
    have sn:Zm2 (upd H2 d (.dK (Zdt kvs (Sum.inr r.1) (.ref t2)))) (rows.take i++[r]) (kvs++[(Sum.inr r.1,V.ref t2)]):=Yh2 ((hU.mono λb xs e=>s4 _ _ e).mono tk) ⟨rfl,t2,rfl,tk t2 _ ht2⟩
    rw[<- Zfr _ (Zb1 hnew)]at sn
    rw[Yt,hr']
    exact sn
   rcases hug with hug | hug
   ·refine⟨_,rfl,u,_,rfl,.inr ⟨SqT.of (s3 _ _ hug),_,rfl,_,rfl,d,_,rfl,Zm3.k (k:=Sum.inr r.1) hdk (Za2 (by omega)),fin u H' (Zaj.refl _) (s3 _ _ hug)⟩⟩
   ·refine⟨_,rfl,u,_,rfl,.inl ⟨s3.seq hug,λt2 ht2=>?_⟩⟩
    have s4:Zaj H' (upd H' t2 (.tup (r.2.map V.str))):=λb o e=>by rw[Zab (nNo e ht2)];exact e
    exact⟨_,rfl,_,rfl,d,_,rfl,Zm3.k (k:=Sum.inr r.1) (s4 _ _ hdk) (Za2 (by omega)),fin t2 _ s4 uS⟩
  ·rintro σ H2 ⟨kvs,a,c,rfl,s3,hdk,hU⟩
   have hvl:=hpr.length
   rw[<- hvl,Ye1]at hU
   refine⟨d,kvs,hdk,λo=>?_⟩
   have dH:H d=none:=s1.free hd
   have s4:Zaj H (upd H2 d (.frz o (.dK kvs))):=λb u e=>by rw[Zab (nNo e dH)];exact s3 _ _ e
   have bk:Zky (upd H2 d (.frz o (.dK kvs))) d o rows kvs:=⟨uS,hU.mono λb xs e=>by rw[Zab (λz=>by rw[z,hdk]at e;cases e)];exact e⟩
   refine⟨_,rfl,d,o,rows,kvs,rfl,bk,g,λH5 s5=>?_⟩
   refine⟨_,rfl,d,o,rows,kvs,rfl,bk.mono s5,g,λH6 s6=>?_⟩
   refine⟨_,rfl,_,rfl,Zcu ?_⟩
   have s56:=s5.trans s6
   have bk6:=bk.mono s56
   have s7:Zaj H H6:=s4.trans s56
   intro aa haa
   have s8:Zaj H (upd H6 aa (.dK [])):=λb u e=>by rw[Zab (nNo (s7 _ _ e) haa)];exact s7 _ _ e
   have s68:Zaj H6 (upd H6 aa (.dK [])):=λb u e=>by rw[Zab (nNo e haa)];exact e
   let Iv2:NW:=λi σ H'=>∃(avs:KL) (a b c:OV),σ=[some (.ref p),some (.ref l),some (.ref d),a,b,c,some (.ref aa)]/\Zaj H H'/\Zky H' d o rows kvs/\H' aa=some (.dK avs)/\Zhd H' rows (rows.take i) avs
   refine⟨_,rfl,d,o,kvs,rfl,(bk6.mono s68).at_,Zat Znl Iv2
    ⟨[],_,_,_,rfl,s8,bk6.mono s68,uS,by rw[Ym1];exact .nil⟩ (λi σ H' _ h0=>by obtain⟨_,_,_,_,_,_,b,_⟩:=h0;exact b.at_) ?_ ?_⟩
   ·rintro i v σ H' hi ⟨avs,a,b,c,rfl,s9,bk9,haa9,hA⟩
    rw[Yp]at hi
    obtain⟨pr,hpr',e⟩:=Yk1.mp hi
    obtain⟨r,hr',hk,_⟩:=Zau bk9.ups hpr'
    have hmem:r∈rows:=Yf hr'
    have ev:v=.str r.1:=by rw[<- e,hk];rfl
    subst ev
    have aaH:H aa=none:=s7.free haa
    refine⟨_,rfl,_,rfl,d,o,rows,kvs,r.1,rfl,bk9,g,Ye.mpr ⟨r,hmem,rfl⟩,λx o' fk H10 hx s10 hxk hreach=>?_⟩
    have hnew:(Sum.inr r.1:Key)∉avs.map (·.1):=by rw[hA.keys];exact Zg0 g.nd hr'
    have hil:(rows.take i).length<=24:=by rw[Yd1];have:=g.le;omega
    have hkl:avs.length=(rows.take i).length:=(Yz hA).symm
    have aa10:=s10 _ _ haa9
    refine⟨_,rfl,_,rfl,aa,_,rfl,Zm3.k (k:=Sum.inr r.1) aa10 (Za2 (by omega)),?_⟩
    have kp:∀ b u,b≠aa->H10 b=some u->(upd H10 aa (.dK (Zdt avs (Sum.inr r.1) (.ref x)))) b=some u:=λb u hb e=>by rw[Zab hb];exact e
    refine⟨_,_,_,_,rfl,λb u e=>kp b u (nNo e aaH) (s10 _ _ (s9 _ _ e)),⟨kp _ _ (λz=>?_) (s10 _ _ bk9.at_),(bk9.ups.mono λb xs e=>s10 _ _ e).mono λb xs e=>kp _ _ (λz=>by rw[z,aa10]at e;cases e) e⟩,uS,?_⟩
    ·have:=bk9.at_
     rw[z,haa9]at this
     cases this
    ·rw[Zfr _ (Zb1 hnew),Yt,hr']
     have fz:∀ b o'' fk',H10 b=some (.frz o'' (.dK fk'))->(upd H10 aa (.dK (avs++[(Sum.inr r.1,V.ref x)]))) b=some (.frz o'' (.dK fk')):=λb o'' fk' e=>by rw[Zab (λz=>by rw[z,aa10]at e;cases e)];exact e
     exact Yh2 ((hA.mono λb o'' fk' e=>s10 _ _ e).mono fz) ⟨rfl,x,o',fk,rfl,fz _ _ _ hxk,hreach⟩
   ·rintro σ H' ⟨avs,a,b,c,rfl,s9,bk9,haa9,hA⟩
    have hkv:kvs.length=rows.length:=(Yz bk9.ups).symm
    rw[Ya,hkv,Ye1]at hA
    have aaH:H aa=none:=s7.free haa
    refine⟨aa,avs,haa9,λoa=>?_⟩
    have hp9:H' p=some (.ins C dx []):=s9 _ _ hp
    have pa:p≠aa:=nNo hp aaH
    have pd:p≠d:=nNo hp dH
    have da:d≠aa:=λz=>by have:=bk9.at_;rw[z,haa9]at this;cases this
    refine⟨_,rfl,_,rfl,p,C,dx,[],rfl,(by rw[Zab pa];exact hp9),TC.cl,TC.nU,(by show 0<1000;decide),_,rfl,_,rfl,p,C,dx,_,rfl,uS,TC.cl,TC.nA,(by show 1<1000;decide),?_⟩
    rw[Zgz]
    have kp:∀ b u,b≠p->b≠aa->H' b=some u->(upd (upd H' aa (.frz oa (.dK avs))) p (.ins C dx (Zrn d aa))) b=some u:=λb u h1 h2 e=>by rw[Zab h1,Zab h2];exact e
    refine q _ ⟨dx,d,aa,o,oa,kvs,avs,uS,⟨kp _ _ (Ym pd) da bk9.at_,bk9.ups.mono λb xs e=>kp _ _ (λz=>by rw[z,hp9]at e;cases e) (λz=>by rw[z,haa9]at e;cases e) e⟩,by rw[Zab (Ym pa)];exact uS,hA.mono λb o'' fk' e=>kp _ _ (λz=>by rw[z,hp9]at e;cases e) (λz=>by rw[z,haa9]at e;cases e) e⟩ λb u hb e=>kp _ _ hb (nNo e aaH) (s9 _ _ e)
def Z9d:Zak ["self","word"] ["self","word"] (Zad Zgo):=by nofun
def Zra(F:Fun K "has" "Kinds.has" Zgo f fd)(TC:Zmz K C):⋯ 1 f fd ["self","word"] (Zt0 C):=by
 nomatch F.ok Z9d
 ·obtain⟨p,rows,x,rfl,_⟩:=h
  rfl
 ·obtain⟨p,rows,x,rfl,⟨dx,d,a,o,oa,kvs,avs,h1,h2,h3,h4⟩,g,q⟩:=h
  have hu:=Zf1 hr
  ac_nf
  refine⟨_,Zac (Zao (Zzu (Zjb hu (pv 1) (Zga (pv 0) rfl)))),?_⟩
  refine⟨_,rfl,_,rfl,p,C,dx,_,_,rfl,h1,TC.cl,TC.nU,Zv4 _ _,d,_,rfl,Zgg.f (k:=Sum.inr x) h2.at_,?_⟩
  have e:(Zex kvs (Sum.inr x:Key)).isSome=decide (x∈rows.map (·.1)):=by
   have hk:(Sum.inr x:Key)∈kvs.map (·.1)↔x∈rows.map (·.1):=by
    rw[h2.ups.keys]
    constructor
    ·intro m
     obtain⟨r,hr',e⟩:=Ye.mp m
     exact Ye.mpr ⟨r,hr',by injection e⟩
    ·intro m
     obtain⟨r,hr',e⟩:=Ye.mp m
     exact Ye.mpr ⟨r,hr',by rw[e]⟩
   by_cases z:x∈rows.map (·.1)
   ·rw[Ze1 (hk.mpr z),Jb z]
   ·rw[Zb1 λk=>z (hk.mp k),Jc z]
    rfl
  rw[e]
  exact q
abbrev Zry(K:Fg)(C fH:Addr)(fdH:FuncData):Prop:=Zo7 K C "has" "Kinds.has" Zgo ["self","word"] fH fdH
def Z70:Zak ["self","word"] ["self","word"] (Zad Zce):=by nofun
def Zre(d a:Addr):(Zrn d a).lookup ("has":Str)=none:=Zkh d a (by rfl') (by rfl')
def Zmh(F:Fun K "check" "Kinds.check" Zce f fd)(TC:Zmz K C)(MH:Zry K C fH fdH):⋯ 2 f fd ["self","word"] (Zlz C):=by
 have GH:⋯ 1 fH fdH ["self","word"] (Zt0 C):=Zra MH.fn TC
 nomatch F.ok Z70
 ·obtain⟨p,rows,x,rfl,_⟩:=h
  rfl
 ·obtain⟨p,rows,x,rfl,kd,g,hx,q⟩:=h
  obtain⟨dx,d,a,o,oa,kvs,avs,h1,h2,h3,h4⟩:=kd.ex
  ac_nf
  refine⟨_,Zac (Zaz (Zdh (Zcm (Zcs (pv 0) TC.cl MH.me GH hr MH.b .nil Zdn (pC (pv 1) Zaa)))) Zaw Zai),?_⟩
  refine⟨_,rfl,p,dx,_,rfl,h1,Zre _ _,_,rfl,p,rows,x,rfl,kd,g,_,rfl,?_⟩
  rw[Jb hx]
  exact Zcu q
def Z81:Zak ["self"] ["self"] (Zad Zes):=by nofun
def Zr9(F:Fun K "words" "Kinds.words" Zes f fd)(TC:Zmz K C)(list:mg "list"=none):⋯ 1 f fd ["self"] (Zm8 C):=by
 nomatch F.ok Z81
 ·obtain⟨p,rows,rfl,_⟩:=h
  rfl
 ·obtain⟨p,rows,rfl,⟨dx,d,a,o,oa,kvs,avs,h1,h2,h3,h4⟩,g,q⟩:=h
  ac_nf
  refine⟨_,Zac (Zao (Zbd (Zf2 rfl) (by rfl) list Yb2 (pC (Zga (pv 0) rfl) Zaa))),?_⟩
  refine⟨_,rfl,p,C,dx,_,_,rfl,h1,TC.cl,TC.nU,Zv4 _ _,d,kvs,rfl,.inr ⟨o,h2.at_⟩,λl hl=>?_⟩
  rw[Zyj h2.ups]
  exact q l hl
def Zik(d a:Addr):(Zrn d a).lookup ("check":Str)=none:=Zkh d a (by rfl') (by rfl')
def Z82:Zak ["self","one","other"] ["self","one","other"] (Zad Zet):=by nofun
def Zxs(F:Fun K "under" "Kinds.under" Zet f fd)(TC:Zmz K C)(MC:Zo7 K C "check" "Kinds.check" Zce ["self","word"] fC fdC)(MH:Zry K C fH fdH):⋯ 3 f fd ["self","one","other"] (Ztr C):=by
 have GC:⋯ 2 fC fdC ["self","word"] (Zlz C):=Zmh MC.fn TC MH
 nomatch F.ok Z82
 ·obtain⟨p,rows,x,y,rfl,_⟩:=h
  rfl
 ·obtain⟨p,rows,x,y,rfl,kd,g,hx,hy,q⟩:=h
  obtain⟨dx,d,a,o,oa,kvs,avs,h1,h2,h3,h4⟩:=kd.ex
  have hu:=Zf1 hr
  ac_nf
  refine⟨_,pS (Zax (Zcs (pv 0) TC.cl MC.me GC hr MC.b .nil Zdn (pC (pv 1) Zaa)))
   (pS (Zax (Zcs (pv 0) TC.cl MC.me GC hr MC.b .nil Zdn (pC (pv 2) Zaa)))
   (Zac (Zao (Zzu (Zjb hu (pv 2) (Zd1 hu (Zga (pv 0) rfl) (pv 1) (λ_ _=>rfl))))))),?_⟩
  exists let b:=Zar _ a;Zar _ b _ _ _
  obtain⟨r,hr',er⟩:=Zd6 hx
  obtain⟨t,o',fk,hv,ht,hreach⟩:=h4.val g.nd hr'
  refine⟨_,rfl,p,dx,_,rfl,h1,Zik _ _,_,rfl,p,rows,x,rfl,kd,g,hx,?_⟩
  refine⟨_,rfl,p,dx,_,rfl,h1,Zik _ _,_,rfl,p,rows,y,rfl,kd,g,hy,?_⟩
  refine⟨_,rfl,_,rfl,p,C,dx,_,_,rfl,h1,TC.cl,TC.nA,Zz5 _ _,_,rfl,a,_,rfl,(by rw[<- hv,er];exact Zgg.f (k:=Sum.inr x) h3),t,_,rfl,Zgg.f (k:=Sum.inr y) ht,?_⟩
  have e:(Zex fk (Sum.inr y:Key)).isSome=Ze8 rows x y:=by
   have hh:=hreach y
   rw[er]at hh
   unfold Ze8
   by_cases z:Graph.Reach (Zcq rows) x y
   ·rw[Ze1 (hh.mpr z)]
    exact(@Jb _ (Classical.propDecidable _) z).symm
   ·rw[Zb1 λk=>z (hh.mp k)]
    exact(@Jc _ (Classical.propDecidable _) z).symm
  rw[e]
  exact q
def Zd2(rows:RS)(x:Str):LS:=(rows.map (·.1)).filter λy=>Ze8 rows y x
def Zj0(C:Addr):Sp:=λvs H Q _=>∃(p:Addr) (rows:RS) (x:Str),vs=[.ref p,.str x]/\Zbk C H p rows/\Zdr rows/\x∈rows.map (·.1)/\∀ l,H l=none->Q (.ref l) (upd H l (.lst ((Zd2 rows x).map V.str)))
def Z44(rows:RS)(x:Str):V->Bool
 | .str y=>Ze8 rows y x
 | _=>false
def Zyf(rows:RS)(x:Str):(((rows.map (·.1)).map V.str).filter (Z44 rows x)).map (λv=>v)=(Zd2 rows x).map V.str:=by
 rw[List.map_id',Yz2]
 rfl
def Zvt{fk:KL}{rows:RS}{x:Str}(h:∀ y,(Sum.inr y:Key)∈fk.map (·.1)↔Graph.Reach (Zcq rows) x y)(y:Str):(Zex fk (Sum.inr y:Key)).isSome=Ze8 rows x y:=by
 unfold Ze8
 by_cases z:Graph.Reach (Zcq rows) x y
 ·rw[Ze1 ((h y).mpr z)]
  exact(@Jb _ (Classical.propDecidable _) z).symm
 ·rw[Zb1 λk=>z ((h y).mp k)]
  exact(@Jc _ (Classical.propDecidable _) z).symm
def Zyb(d a:Addr):(Zrn d a).lookup ("under":Str)=none:=Zkh d a (by rfl') (by rfl')
def Zrf(d a:Addr):(Zrn d a).lookup ("below":Str)=none:=Zkh d a (by rfl') (by rfl')
def Z4n:(["low","self","word"]:LS).Nodup:=by rfl'
abbrev Zlp(K:Fg)(C fC:Addr)(fdC:FuncData):Prop:=Zo7 K C "check" "Kinds.check" Zce ["self","word"] fC fdC
abbrev Z0d(K:Fg)(C fU:Addr)(fdU:FuncData):Prop:=Zo7 K C "under" "Kinds.under" Zet ["self","one","other"] fU fdU
def Z04{X:Cx}{e:Expr}{ta:TE}{f:Str}{pos:Pos}{K:Fg}(hK:X.K=K)(he:PE X e ta)(hb:attributeBase e f X.env (eval e X.env)=eval e X.env):PE X (.Attribute e f pos) (Z7c K ta f):=by
 subst hK
 exact Zga he hb
def Z9g:Zak ["self","word"] ["self","word"] (Zad Zdl):=by nofun
def Zlg(F:Fun K "below" "Kinds.below" Zdl f fd)(TC:Zmz K C)(MC:Zlp K C fC fdC)(MH:Zry K C fH fdH):⋯ 3 f fd ["self","word"] (Zj0 C):=by
 have GC:⋯ 2 fC fdC ["self","word"] (Zlz C):=Zmh MC.fn TC MH
 nomatch F.ok Z9g
 ·obtain⟨p,rows,x,rfl,_⟩:=h
  rfl
 ·obtain⟨p,rows,x,rfl,kd,g,hx,q⟩:=h
  obtain⟨dx,d,a,o,oa,kvs,avs,h1,h2,h3,h4⟩:=kd.ex
  have hu:=Zf1 hr
  ac_nf
  refine⟨_,pS (Zax (Zcs (pv 0) TC.cl MC.me GC hr MC.b .nil Zdn (pC (pv 1) Zaa)))
   (Zac (Zao (Zbt ["low"] ["self","word"] [0,1] (λ_=>Za1 (osc:=Zad Zdl) (on:=["self","word"]) (by rfl') rfl rfl rfl) (Zuo (Zga (pv 0) rfl)) (λC s H fp=>Zah (i:=0) Z4n rfl (Or.inl rfl) (Or.inr rfl))
    (λC s H fp=>Zek (Zf9 (Zjb hu (pv 2) (Zd1 hu (Z04 (K:=K) rfl (pv 1) rfl) (pv 0) (λ_ _=>rfl))))) (λC s H fp=>pv 0)))),?_⟩
  exists Zar _ a _ _ _
  have hkv:kvs.length<=24:=by rw[<- Yz h2.ups];exact g.le
  refine⟨_,rfl,p,dx,_,rfl,h1,Zik _ _,_,rfl,p,rows,x,rfl,kd,g,hx,?_⟩
  refine⟨_,rfl,p,C,dx,_,_,rfl,h1,TC.cl,TC.nU,Zv4 _ _,d,o,kvs,rfl,h2.at_,Zda Znl (sL (by rw[Ya];omega)) (Z44 rows x) (λv=>v) (λD ys hD=>by rw[Zab (nNo h2.at_ hD)];exact h2.at_) ?_ ?_ ?_⟩
  ·intro D ys v R hD hv' hR
   rw[Zyj h2.ups]at hv'
   obtain⟨y,hy,rfl⟩:=Ye.mp hv'
   obtain⟨r,hr',er⟩:=Zd6 hy
   obtain⟨t,o',fk,hv,ht,hreach⟩:=h4.val g.nd hr'
   rw[er]at hv hreach
   have kp:∀ b o,H b=some o->(upd H D (.lst ys)) b=some o:=λb o e=>by rw[Zab (nNo e hD)];exact e
   refine⟨_,rfl,_,rfl,p,C,dx,_,_,rfl,kp _ _ h1,TC.cl,TC.nA,Zz5 _ _,_,rfl,a,_,rfl,(by rw[<- hv];exact Zgg.f (k:=Sum.inr y) (kp _ _ h3)),t,_,rfl,Zgg.f (k:=Sum.inr x) (kp _ _ ht),_,rfl,?_⟩
   rw[Zvt hreach x]
   exact hR
  ·intro D ys v R hD hv' _ hR
   exact⟨_,rfl,hR⟩
  ·intro D hD
   rw[Zyj h2.ups,Zyf]
   exact q D hD
def Zb8(H:Hp)(all rows:RS)(avs:KL):Prop :=
 Paired (λr (p:Key×V)=>p.1=Sum.inr r.1/\∃(t:Addr) (fs:LS),p.2=.ref t/\H t=some (.lst (fs.map V.str))/\(∀ y,y∈fs↔Graph.Reach (Zcq all) r.1 y)/\fs.length<=all.length) rows avs
def Zb8.mono{H H':Hp}{all rows:RS}{avs:KL}(h:Zb8 H all rows avs)(s:∀ b xs,H b=some (.lst xs)->H' b=some (.lst xs)):Zb8 H' all rows avs :=
 Paired.mapP h λ_ _ z=>⟨z.1,let⟨t,fs,e,x,y⟩:=z.2;⟨t,fs,e,s _ _ x,y⟩⟩
theorem Zb8.keys:∀ {H:Hp}{all rows:RS}{kvs:KL},Zb8 H all rows kvs->kvs.map (·.1)=rows.map λr=>(Sum.inr r.1:Key)
 | _,_,_,_,.nil=>rfl
 | _,_,_,_,.cons r t=>by rw[Yy,Yy,r.1,Zb8.keys t]
theorem Zb8.val':∀ {H:Hp}{all rows:RS}{kvs:KL},Zb8 H all rows kvs->(rows.map (·.1)).Nodup->∀ {r:Str×LS},r∈rows->∃(t:Addr) (fs:LS),Zex kvs (Sum.inr r.1)=some (.ref t)/\H t=some (.lst (fs.map V.str))/\(∀ y,y∈fs↔Graph.Reach (Zcq all) r.1 y)/\fs.length<=all.length
 | _,_,_,_,.nil,_,r,h=>nomatch h
 | _,_,q :: rs,p :: ps,.cons z t,nd,r,h=>by
  have nd':(q.1 :: rs.map (·.1)).Nodup:=nd
  obtain⟨n1,n2⟩:=Ys1.mp nd'
  obtain⟨z1,u,fs,z2,z3,z4⟩:=z
  rcases Yg1.mp h with e | h
  ·subst e
   exact⟨u,fs,by rw[Zcc z1,z2],z3,z4⟩
  ·have ne:¬ p.1=(Sum.inr r.1:Key):=λe=>n1 (by
    rw[z1]at e
    have e':q.1=r.1:=by injection e
    rw[e']
    exact Ye.mpr ⟨r,h,rfl⟩)
   obtain⟨u',fs',h1,h2⟩:=Zb8.val' t n2 h
   exact⟨u',fs',by rw[Zcd ne];exact h1,h2⟩
def Zb8.val{H:Hp}{all rows:RS}{kvs:KL}(h:Zb8 H all rows kvs)(nd:(rows.map (·.1)).Nodup){r:Str×LS}(hr:r∈rows):∃(t:Addr) (fs:LS),Zex kvs (Sum.inr r.1)=some (.ref t)/\H t=some (.lst (fs.map V.str))/\∀ y,y∈fs↔Graph.Reach (Zcq all) r.1 y :=
 let⟨u,fs,h1,h2,h3,_⟩:=h.val' nd hr;⟨u,fs,h1,h2,h3⟩
def Zvi{rows:RS}{x:Str}{fs:LS}(h:∀ y,y∈fs↔Graph.Reach (Zcq rows) x y)(y:Str):decide (y∈fs)=Ze8 rows x y:=by
 unfold Ze8
 by_cases z:Graph.Reach (Zcq rows) x y
 ·rw[Jb ((h y).mpr z)]
  exact(@Jb _ (Classical.propDecidable _) z).symm
 ·rw[Jc λk=>z ((h y).mp k)]
  exact(@Jc _ (Classical.propDecidable _) z).symm
def Zqt:Sp:=λvs H Q _=>∃(l:Addr) (rows:RS),vs=[.ref l]/\Zeg H l rows/\Zdr rows/\∀ a avs H',Zaj H H'->H' a=some (.dK avs)->Zb8 H' rows rows avs->Q (.ref a) H'
structure GoL(rows:RS)(x:Str)(fs:LS)(k:Nat):Prop where
 start:x∈fs
 known:∀ y∈fs,y∈rows.map (·.1)
 nd:fs.Nodup
 reach:∀ y∈fs,Graph.Reach (Zcq rows) x y
 closed:∀ y∈fs.take k,∀ u∈Zcq rows y,u∈fs
def GoL.le{rows:RS}{x:Str}{fs:LS}{k:Nat}(h:GoL rows x fs k):fs.length<=rows.length:=by
 have:=Graph.nodup_le h.nd h.known
 rwa [Ya]at this
def GoL.all{rows:RS}{x:Str}{fs:LS}{k:Nat}(h:GoL rows x fs k)(hk:fs.length<=k)(y:Str):y∈fs↔Graph.Reach (Zcq rows) x y :=
 ⟨h.reach y,λr=>Graph.closed_reach (S:=λy=>y∈fs) (λz hz u hu=>h.closed z (by rw[Ya2 hk];exact hz) u hu) r h.start⟩
def Zj2{rows:RS}(g:Zdr rows){y u:Str}(hy:y∈rows.map (·.1))(hu:u∈Zcq rows y):u∈rows.map (·.1):=by
 obtain⟨r,hr,e⟩:=Zd6 hy
 rw[<- e,Zh3 g.nd hr]at hu
 exact g.known r hr u hu
abbrev nLA:LS:=["rows","ups","word","some","above","found","at","up"]
def Z7q:Zak nLA ["rows"] (Zad Zfm):=by nofun
def Zu2(F:Def K mg "_law_above" Zfm ["rows"] f fd)(len:mg "len"=none):⋯ 1 f fd ["rows"] Zqt:=by
 nomatch F.fn.ok Z7q
 ·obtain⟨l,rows,rfl,_⟩:=h
  rfl
 ·obtain⟨l,rows,rfl,hR,g,q⟩:=h
  have nd:=Z7q.nd
  have hu:=Zf1 hr
  ac_nf
  refine⟨_,pS (sE 1 nd Zeb)
   (pS (Zbc Yk rfl (Zbb (pv 0)) (Zgx rfl (gC (gE 2 nd) (gC (gE 3 nd) Zem)))
    (Zac (Zel hu (pv 1) (pv 2) (pv 3) rfl)))
   (pS (sE 4 nd Zeb)
   (pS (Zbc Yk rfl (Zbb (pv 0)) (Zgx rfl (gC (gE 2 nd) (gC (gE 3 nd) Zem)))
    (pS (sE 5 nd (Zbj (pC (pv 2) Zaa)))
    (pS (sE 6 nd Zae)
    (pS (Zfs Yk (Zal Zmc (pv 6) (Zam Zdc (by rfl) len Yr (pC (pv 5) Zaa)) (Zaq _))
     (pS (Zbc Yk rfl (Zhw (Zd1 hu (pv 1) (Za3 Zay (pv 5) (pv 6) (λ_ _=>rfl)) (λ_ _=>rfl))) (gE 7 nd)
      (Zac (Zaz (Zal Zjd (pv 7) (pv 5) (by with_unfolding_all rfl)) (Zac (Zax (Zf0 Yu Yi1 Yj1 Zbw (pv 5) (pC (pv 7) Zaa)))) Zai)))
     (Zac (sE 6 nd (Za0 Zbz (pv 6) Zae)))))
    (Zac (Zel hu (pv 4) (pv 2) (pv 5) rfl))))))
   (Zac (Zao (pv 4)))))),?_⟩
  exists let b:=_;let c:=_;let e:=_;let f:=Zhf _ e _;let g:=Zar (Zgf _ _ f) c;let h:=Zar (Zju _ g) b;let i:=Zar _ h;let j:=Zar _ i;let k:=Zar (Zgf _ _ j) a;let l:=Zar _ k;let m:=Zar _ l;Zar _ m _ _ _
  have gle:=g.le
  obtain⟨vs,hvs,hpr⟩:=hR
  intro d hd
  have s1:Zaj H (upd H d (.dK [])):=λb o e=>by rw[Zab (nNo e hd)];exact e
  let Iv1:NW:=λi σ H'=>∃(kvs:KL) (a c:OV),σ=[some (.ref l),some (.ref d),a,c,none,none,none,none]/\Zaj H H'/\H' d=some (.dK kvs)/\Zm2 H' (rows.take i) kvs
  refine⟨_,rfl,l,rfl,⟨_,SqL.of (s1 _ _ hvs)⟩,Zat (Zav (xs:=vs)) Iv1
   ⟨[],none,none,rfl,s1,uS,by rw[Ym1];exact .nil⟩ (λi σ H' _ h0=>by obtain⟨_,_,_,_,s,_⟩:=h0;exact SqL.of (s _ _ hvs)) ?_ ?_⟩
  ·rintro i v σ H' hi ⟨kvs,a,c,rfl,s3,hdk,hU⟩
   obtain⟨r,hr',t,u,rfl,ht,hug⟩:=Zau hpr hi
   refine⟨t,_,rfl,SqT.of (s3 _ _ ht),rfl,_,_,rfl,_,_,rfl,rfl,?_⟩
   have hnew:(Sum.inr r.1:Key)∉kvs.map (·.1):=by rw[hU.keys];exact Zg0 g.nd hr'
   have hil:(rows.take i).length<=24:=by rw[Yd1];omega
   have hkl:kvs.length=(rows.take i).length:=(Yz hU).symm
   refine⟨_,rfl,_,rfl,_,rfl,d,_,rfl,Zm3.k (k:=Sum.inr r.1) hdk (Za2 (by omega)),?_⟩
   have tk:∀ b xs,H' b=some (.tup xs)->(upd H' d (.dK (Zdt kvs (Sum.inr r.1) (.ref u)))) b=some (.tup xs):=λb xs e=>by
    rw[Zab (λz=>by rw[z,hdk]at e;cases e)];exact e
   refine⟨_,_,_,rfl,λb o e=>by rw[Zab (nNo e hd)];exact s3 _ _ e,uS,?_⟩
   have sn:Zm2 (upd H' d (.dK (Zdt kvs (Sum.inr r.1) (.ref u)))) (rows.take i++[r]) (kvs++[(Sum.inr r.1,V.ref u)]):=Yh2 (hU.mono tk) ⟨rfl,u,rfl,tk u _ (s3 _ _ hug)⟩
   rw[<- Zfr _ (Zb1 hnew)]at sn
   rw[Yt,hr']
   exact sn
  ·rintro σ H2 ⟨kvs,a,c,rfl,s3,hdk,hU⟩
   have hvl:=hpr.length
   rw[<- hvl,Ye1]at hU
   intro aa haa
   have s4:Zaj H2 (upd H2 aa (.dK [])):=λb o e=>by rw[Zab (nNo e haa)];exact e
   have aaH:H aa=none:=s3.free haa
   have daa:d≠aa:=nNo hdk haa
   have hU4:Zm2 (upd H2 aa (.dK [])) rows kvs:=hU.mono λb xs e=>s4 _ _ e
   have hd4:=s4 _ _ hdk
   have s04:=s3.trans s4
   let Iv2:NW:=λi σ H'=>∃(avs:KL) (a b c e f:OV),σ=[some (.ref l),some (.ref d),a,b,some (.ref aa),c,e,f]/\(∀ b o,b≠aa->H2 b=some o->H' b=some o)/\H' aa=some (.dK avs)/\Zb8 H' rows (rows.take i) avs
   refine⟨_,rfl,l,rfl,⟨_,SqL.of (s04 _ _ hvs)⟩,Zat (Zav (xs:=vs)) Iv2
    ⟨[],_,_,_,_,_,rfl,λb o hb e=>by rw[Zab hb];exact e,uS,by rw[Ym1];exact .nil⟩ (λi σ H' _ h0=>by obtain⟨_,_,_,_,_,_,_,k,_⟩:=h0;exact SqL.of (k _ _ (nNo hvs aaH) (s3 _ _ hvs))) ?_ ?_⟩
   ·rintro i v σ H' hi ⟨avs,a,b,c,e,f',rfl,k1,haa1,hA⟩
    obtain⟨r,hr',t,u,rfl,ht,hug⟩:=Zau hpr hi
    have hmem:r∈rows:=Yf hr'
    have keep1:∀ b o,H b=some o->H' b=some o:=λb o e=>k1 b o (nNo e aaH) (s3 _ _ e)
    refine⟨t,_,rfl,SqT.of (keep1 _ _ ht),rfl,_,_,rfl,_,_,rfl,rfl,?_⟩
    refine⟨_,rfl,sL (by show 1<=100000;decide),λfa hfa=>?_⟩
    have sF:∀ {H5:Hp},Zaj H' H5->Zm2 H5 rows kvs:=λ{H5} s=>hU.mono λb xs e=>s _ _ (k1 b _ (λz=>by rw[z,haa]at e;cases e) e)
    have dF:∀ {H5:Hp},Zaj H' H5->H5 d=some (.dK kvs):=λ{H5} s=>s _ _ (k1 _ _ daa hdk)
    let Hv1:NW:=λm σ H5=>∃(fs:LS) (k:Nat) (f:OV),σ=[some (.ref l),some (.ref d),some (.str r.1),some (.ref u),some (.ref aa),some (.ref fa),some (.int (k:Int)),f]/\Zaj H' H5/\H5 fa=some (.lst (fs.map V.str))/\GoL rows r.1 fs k/\k<=fs.length/\m + k=rows.length
    refine⟨Hv1,
     ⟨rows.length,[r.1],0,_,rfl,λb o e=>by rw[Zab (nNo e hfa)];exact e,uS,⟨by simp,λy h=>by rw[Yc.mp h];exact Ye.mpr ⟨r,hmem,rfl⟩,by simp,λy h=>by rw[Yc.mp h];exact .refl _,λy h=>by simp at h⟩,by simp,rfl⟩,?_⟩
    rintro m σ H5 ⟨fs,k,f2,rfl,s5,hf5,go,hk,hm⟩
    have flen:=go.le
    refine⟨_,rfl,_,rfl,_,_,rfl,.inl ⟨_,SqL.of hf5,rfl⟩,_,_,rfl,rfl,_,rfl,?_⟩
    rw[Ya]
    refine Zdu (λhlt=>?_) (λhlt=>?_)
    ·have hlt:k<fs.length:=by have:=Je hlt;omega
     let Hv2:SW:=λσ' H6=>∃ m',m'<m/\∃(fs:LS) (k:Nat) (f:OV),σ'=[some (.ref l),some (.ref d),some (.str r.1),some (.ref u),some (.ref aa),some (.ref fa),some (.int (k:Int)),f]/\Zaj H' H6/\H6 fa=some (.lst (fs.map V.str))/\GoL rows r.1 fs k/\k<=fs.length/\m' + k=rows.length
     refine⟨Hv2,λ_ _ h=>h,?_⟩
     have hat:fs[k]?=some fs[k]:=Yh hlt
     generalize hhere:fs[k]=here at hat
     have hin:here∈fs:=Yf hat
     obtain⟨r2,hr2,er⟩:=Zd6 (go.known here hin)
     obtain⟨t2,hvt,ht2⟩:=(sF s5).val g.nd hr2
     rw[er]at hvt
     have uo:Zcq rows here=r2.2:=by rw[<- er];exact Zh3 g.nd hr2
     have hix:atI (fs.map V.str) (k:Int)=some (V.str here):=Zb5 (by rw[Yp,hat];rfl)
     refine⟨_,rfl,_,rfl,_,rfl,fa,_,_,_,rfl,rfl,SqL.of hf5,hix,d,_,rfl,(by rw[<- hvt];exact Zgg.k (k:=Sum.inr here) (dF s5)),t2,rfl,⟨_,SqT.of ht2⟩,?_⟩
     have ht2f:t2≠fa:=λz=>by rw[z,hf5]at ht2;cases ht2
     refine Zat (Zea (xs:=r2.2.map V.str)) (λj σ H6=>∃(ex:LS) (f:OV),σ=[some (.ref l),some (.ref d),some (.str r.1),some (.ref u),some (.ref aa),some (.ref fa),some (.int (k:Int)),f]/\(∀ b o,b≠fa->H5 b=some o->H6 b=some o)/\H6 fa=some (.lst ((fs++ex).map V.str)) /\
      (∀ y∈fs++ex,y∈rows.map (·.1))/\(fs++ex).Nodup/\(∀ y∈fs++ex,Graph.Reach (Zcq rows) r.1 y)/\∀ z∈r2.2.take j,z∈fs++ex)
      ⟨[],_,rfl,λb o _ e=>e,by rw[Yn1];exact hf5,by rw[Yn1];exact go.known,by rw[Yn1];exact go.nd,by rw[Yn1];exact go.reach,λz h=>by simp at h⟩ (λj σ H6 _ h0=>by obtain⟨_,_,_,k6,_⟩:=h0;exact SqT.of (k6 _ _ ht2f ht2)) ?_ ?_
     ·rintro j v σ H6 hj ⟨ex,f3,rfl,k6,hf6,kn,ndx,rch,seen⟩
      obtain⟨z,hz,rfl⟩:=Zls hj
      have hzu:z∈Zcq rows here:=by rw[uo];exact Yf hz
      have hle:(fs++ex).length<=24:=by
       have:=Graph.nodup_le ndx kn
       rw[Ya]at this
       omega
      refine⟨_,rfl,_,rfl,fa,_,rfl,.inl (SqL.of hf6),rfl,Zgc _,_,rfl,?_⟩
      show if(!inV (.str z) ((fs++ex).map V.str))=true then _ else _
      rw[Zi2]
      have sj:∀ y∈r2.2.take (j + 1),y∈r2.2.take j\/y=z:=λy h=>by
       rw[Yt,hz]at h
       rcases Yo.mp h with h | h
       ·exact .inl h
       ·simp at h;exact .inr h
      refine Zdu (λhn=>?_) (λhn=>?_)
      ·have hn:z∉fs++ex:=λc=>by rw[Jb c]at hn;cases hn
       refine⟨_,rfl,.inl ⟨rfl,_,SqL.of hf6⟩,_,rfl,fa,_,_,rfl,rfl,hf6,Za2 (by rw[Ya];omega),?_⟩
       refine⟨ex++[z],_,rfl,λb o hb e=>by rw[Zab hb];exact k6 b o hb e,?_,?_,?_,?_,?_⟩
       ·have e:(fs++(ex++[z])).map V.str=(fs++ex).map V.str++[V.str z]:=by simp
        rw[uS,e]
       ·intro y hy
        rw[<- Yn3]at hy
        rcases Yo.mp hy with h | h
        ·exact kn y h
        ·rw[Yc.mp h]
         exact Zj2 g (go.known here hin) hzu
       ·rw[<- Yn3]
        refine Yc3.mpr ⟨ndx,by simp,λa ha b hb e=>?_⟩
        rw[Yc.mp hb]at e
        rw[e]at ha
        exact hn ha
       ·intro y hy
        rw[<- Yn3]at hy
        rcases Yo.mp hy with h | h
        ·exact rch y h
        ·rw[Yc.mp h]
         exact(go.reach here hin).snoc hzu
       ·intro y hy
        rw[<- Yn3]
        rcases sj y hy with h | h
        ·exact Yo.mpr (.inl (seen y h))
        ·rw[h];simp
      ·have hn:z∈fs++ex:=Yx2 λc=>hn (by rw[Jc c];rfl)
       refine⟨ex,_,rfl,k6,hf6,kn,ndx,rch,λy hy=>?_⟩
       rcases sj y hy with h | h
       ·exact seen y h
       ·rw[h];exact hn
     ·rintro σ H6 ⟨ex,f3,rfl,k6,hf6,kn,ndx,rch,seen⟩
      rw[Ya,Ye1]at seen
      refine⟨_,rfl,_,_,rfl,rfl,m - 1,by omega,fs++ex,k + 1,_,rfl,λb o e=>k6 b o (nNo e hfa) (s5 _ _ e),hf6,⟨Yo.mpr (.inl go.start),kn,ndx,rch,?_⟩,by rw[Yi];omega,by omega⟩
      intro y hy z hz
      have htk:(fs++ex).take (k + 1)=fs.take k++[here]:=by
       rw[List.take_append_of_le_length (by omega),Yt,hat]
       rfl
      rw[htk]at hy
      rcases Yo.mp hy with h | h
      ·exact Yo.mpr (.inl (go.closed y h z hz))
      ·rw[Yc.mp h,uo]at hz
       exact seen z hz
    ·have hge:fs.length<=k:=by
      have:¬ ((k:Int)<(fs.length:Int)):=λz=>hlt (Jb z)
      omega
     have aa5:=s5 _ _ haa1
     have hnew:(Sum.inr r.1:Key)∉avs.map (·.1):=by rw[hA.keys];exact Zg0 g.nd hr'
     have hil:(rows.take i).length<=24:=by rw[Yd1];omega
     have hkl:avs.length=(rows.take i).length:=(Yz hA).symm
     refine⟨_,rfl,_,rfl,_,rfl,aa,_,rfl,Zm3.k (k:=Sum.inr r.1) aa5 (Za2 (by omega)),?_⟩
     have lk:∀ b xs,H5 b=some (.lst xs)->(upd H5 aa (.dK (Zdt avs (Sum.inr r.1) (.ref fa)))) b=some (.lst xs):=λb xs e=>by
      rw[Zab (λz=>by rw[z,aa5]at e;cases e)];exact e
     refine⟨_,_,_,_,_,_,rfl,λb o hb e=>by rw[Zab hb];exact s5 _ _ (k1 b o hb e),uS,?_⟩
     have sn:Zb8 (upd H5 aa (.dK (Zdt avs (Sum.inr r.1) (.ref fa)))) rows (rows.take i++[r]) (avs++[(Sum.inr r.1,V.ref fa)]):=Yh2 ((hA.mono λb xs e=>s5 _ _ e).mono lk) ⟨rfl,fa,fs,rfl,lk _ _ hf5,go.all hge,go.le⟩
     rw[<- Zfr _ (Zb1 hnew)]at sn
     rw[Yt,hr']
     exact sn
   ·rintro σ H' ⟨avs,a,b,c,e,f',rfl,k1,haa1,hA⟩
    rw[<- hvl,Ye1]at hA
    exact⟨_,rfl,q aa avs H' (λb o e=>k1 b o (nNo e aaH) (s3 _ _ e)) haa1 hA⟩
def Zwp(rows:RS)(n:Nat)(xs:LS):Bool:=decide (xs.length=n)&&xs.all λx=>decide (x∈rows.map (·.1))
structure Zc2(rows:RS)(n:Nat)(xs:LS):Prop where
 len:xs.length=n
 known:∀ x∈xs,x∈rows.map (·.1)
def Zc2.is{rows:RS}{n:Nat}{xs:LS}(h:Zc2 rows n xs):Zwp rows n xs=true:=by
 unfold Zwp
 rw[Jb h.len,Ye3,Yr1]
 exact λx hx=>Jb (h.known x hx)
def Zly(C:Addr):Sp:=λvs H Q _=>∃(p t:Addr) (n:Nat) (rows:RS) (xs:LS),vs=[.ref p,.int n,.ref t]/\Zbk C H p rows/\Zdr rows/\H t=some (.tup (xs.map V.str))/\xs.length<=1000/\∀ H',Zaj H H'->Q (.bl (Zwp rows n xs)) H'
def Zvr(rows:RS):V->V
 | .str x=>.bl (decide (x∈rows.map (·.1)))
 | _=>.non
def Zsu(rows:RS)(xs:LS):(((xs.map V.str).filter λ_=>true).map (Zvr rows))=(xs.map λx=>decide (x∈rows.map (·.1))).map V.bl:=by
 rw[Yi2.mpr (λ_ _=>rfl),Yy1,Yy1]
 rfl
def Z6j:(["word","kinds"]:LS).Nodup:=by rfl'
abbrev nIC:LS:=["kinds","places","call"]
def Z9c:Zak nIC nIC (Zad Zec):=by nofun
def Zle(F:Def K mg "is_call" Zec nIC f fd)(len:mg "len"=none)(all:mg "all"=none)(TC:Zmz K C)(MH:Zry K C fH fdH):⋯ 2 f fd nIC (Zly C):=by
 have GH:⋯ 1 fH fdH ["self","word"] (Zt0 C):=Zra MH.fn TC
 nomatch F.fn.ok Z9c
 ·obtain⟨p,t,n,rows,xs,rfl,_⟩:=h
  rfl
 ·obtain⟨p,t,n,rows,xs,rfl,kd,g,ht,hz,q⟩:=h
  obtain⟨dx,d,a,o,oa,kvs,avs,h1,_⟩:=kd.ex
  have hr1:Zcb 1 _:=hr.mono (by decide)
  ac_nf
  refine'⟨_,Zac (Zao (Zk9 ?ea (Zk8 ?eb))),?_⟩
  case ea=>exact Zhz Zds (Zam Zan (by rfl) len Yr (pC (pv 2) Zaa)) (pv 1) (Zaq _)
  case eb=>exact Zam (Zmx rfl) (by rfl) all Yx4 (pC
    (Zbt ["word"] ["kinds"] [0] (λ_=>Za1 (osc:=Zad Zec) (on:=nIC) (by rfl') rfl rfl rfl) (Zhw (pv 2)) (λC s H fp=>Zah (i:=0) Z6j rfl (Or.inl rfl) (Or.inr rfl)) (λC s H fp=>Zb3)
     (λC s H fp=>Zcs (pv 1) TC.cl MH.me GH hr1 MH.b .nil Zdn (pC (pv 0) Zaa))) Zaa)
  refine⟨_,rfl,t,_,rfl,.inr (SqT.of ht),_,rfl,rfl,_,rfl,?_⟩
  have e:decide (V.int ((xs.map V.str).length:Nat)=V.int n)=decide (xs.length=n):=by
   rw[Ya]
   exact decide_eq_decide.mpr ⟨λz=>by injection z with z;omega,λz=>by rw[z]⟩
  rw[e]
  refine Zdu (λh=>?_) (λh=>?_)
  ·refine⟨_,rfl,t,rfl,⟨_,SqT.of ht⟩,Zda (Zea (xs:=xs.map V.str)) (sL (by rw[Ya];omega)) (λ_=>true) (Zvr rows) (λD ys hD=>SqT.of (by rw[Zab (nNo ht hD)];exact ht)) ?_ ?_ ?_⟩
   ·intro D ys v R _ _ hR
    exact hR
   ·intro D ys v R hD hv _ hR
    obtain⟨x,hx,rfl⟩:=Ye.mp hv
    have s2:Zaj H (upd H D (.lst ys)):=Za9 hD
    exact⟨_,rfl,p,dx,_,rfl,s2 _ _ h1,Zre _ _,_,rfl,p,rows,x,rfl,kd.mono s2,g,hR⟩
   ·intro D hD
    refine⟨D,_,rfl,SqL.of (by rw[uS,Zsu]),?_⟩
    have q':=q _ (Za9 (o:=.lst (((xs.map V.str).filter λ_=>true).map (Zvr rows))) hD)
    unfold Zwp at q'
    rw[h,Ye3]at q'
    show Q (.bl ((xs.map λx=>decide (x∈rows.map (·.1))).all id)) _
    rw[List.all_map]
    exact q'
  ·have q':=q H (Zaj.refl H)
   unfold Zwp at q'
   rw[show decide (xs.length=n)=false by simpa using h,Yf5]at q'
   exact q'
def Zbh(H:Hp)(ds:List (LS))(vs:LV):Prop:=Paired (λ(d:LS) v=>∃ t,v=V.ref t/\H t=some (.tup (d.map V.str))) ds vs
def Zbh.mono{H H':Hp}{ds:List (LS)}{vs:LV}(h:Zbh H ds vs)(s:Zaj H H'):Zbh H' ds vs:=Paired.mapP h λ_ _ ⟨t,e,x⟩=>⟨t,e,s _ _ x⟩
structure Zb7(rows:RS)(n:Nat)(ds:List (LS)):Prop where
 call:∀ d∈ds,Zc2 rows n d
 nd:ds.Nodup
 few:ds.length<=64
def Ztc(d:LS):List Key:=d.map Sum.inr
def Zyk(d:LS):(Ztc d).map kV=d.map V.str:=by
 unfold Ztc
 rw[Yy1]
 rfl
def Zyl{d e:LS}(h:Ztc d=Ztc e):d=e:=by
 unfold Ztc at h
 exact List.map_inj_right (λa b z=>by injection z) |>.mp h
def Zr2{ds:List (LS)}(nd:ds.Nodup){i:Nat}{d:LS}(h:ds[i]?=some d):Ztc d∉(ds.take i).map Ztc:=by
 intro m
 obtain⟨e,he,q⟩:=Ye.mp m
 rw[Zyl q]at he
 exact Zn6 nd h he
def Zi8(K:Fg)(C:Addr):Sp:=λvs H Q _=>∃(p l:Addr) (n:Nat) (b:Bool) (rows:RS) (ds:List (LS)) (us:LV),vs=[.ref p,.int n,.ref l]/\Zbk C H p rows/\Zdr rows/\SqB K b H l us/\Zbh H ds us/\Zb7 rows n ds/\n<=4/\∀ H',Zaj H H'->Q .non H'
abbrev nCD:LS:=["kinds","places","deeds","seen","number","call"]
def Z75:Zak nCD ["kinds","places","deeds"] (Zad Zeq):=by nofun
def Zkt(F:Def K mg "check_deeds" Zeq ["kinds","places","deeds"] f fd)(DI:Def K mg "is_call" Zec nIC fI fdI)(enum:mg "enumerate"=none)(len:mg "len"=none)(all:mg "all"=none)(TC:Zmz K C)(MH:Zry K C fH fdH):
  ⋯ 3 f fd ["kinds","places","deeds"] (Zi8 K C):=by
 have GI:⋯ 2 fI fdI nIC (Zly C):=Zle DI len all TC MH
 nomatch F.fn.ok Z75
 ·obtain⟨p,l,n,b,rows,ds,us,rfl,_⟩:=h
  rfl
 ·obtain⟨p,l,n,b,rows,ds,us,rfl,kd,g,hl,hD,gd,hn,q⟩:=h
  have nd:=Z75.nd
  have hu:=Zf1 hr
  ac_nf
  refine⟨_,pS (sE 3 nd Zxn)
   (Zac (Zbc Yk rfl (Zpj (by rfl) enum (pC (pv 2) Zaa)) (Zgx rfl (gC (gE 4 nd) (gC (gE 5 nd) Zem)))
    (pS (Zaz (Zdh (Zcm (Zaf DI GI hr (pC (pv 0) (pC (pv 1) (pC (pv 5) Zaa)))))) Zaw Zai)
    (pS (Zaz (Zf9 (Zjb hu (pv 5) (pv 3))) Zaw Zai)
    (Zac (Zel hu (pv 3) (pv 5) Zht rfl)))))),?_⟩
  exists let b:=Zar _ a;let c:=Zar _ b;let e:=Zgf _ _ c;Zar _ e _ _ _
  intro d hd
  have s0:Zaj H (upd H d (.dT [])):=Za9 hd
  have hvl:=hD.length
  have few:=gd.few
  let Iv1:NW:=λi σ H'=>∃(kvs:List (List Key×V)) (a c:OV),σ=[some (.ref p),some (.int n),some (.ref l),some (.ref d),a,c]/\Zaj H H'/\H' d=some (.dT kvs)/\kvs.map (·.1)=(ds.take i).map Ztc
  refine⟨_,rfl,b,l,us,rfl,hl.mono s0,Zkg Iv1
   ⟨[],none,none,rfl,s0,uS,by simp⟩ (λi σ H' _ h0=>by obtain⟨_,_,_,_,s,_⟩:=h0;exact hl.mono s) ?_ ?_⟩
  ·rintro i pr t σ H' hi ⟨kvs,a,c,rfl,s1,hdk,hk⟩ ht0
   obtain⟨e1,hx⟩:=Zhb hi
   obtain⟨dd,hdd,t2,e2,ht2⟩:=Zau hD hx
   refine Zri ?_
   have s2:Zaj H' (upd H' t (.tup [pr.1,pr.2])):=Za9 ht0
   have hmem:dd∈ds:=Yf hdd
   have gc:=gd.call dd hmem
   rw[e2]
   show Zar _ _ _ [some (.ref p),some (.int n),some (.ref l),some (.ref d),some pr.1,some (.ref t2)] _
   have s02:=s1.trans s2
   refine⟨_,rfl,_,rfl,_,rfl,p,t2,n,rows,dd,rfl,kd.mono ?_,g,?_,by have:=gc.len;omega,λH3 s3=>⟨_,rfl,?_⟩⟩
   ·rw[<- e2];exact s02
   ·rw[<- e2];exact s02 _ _ ht2
   rw[gc.is]
   refine Zcu ?_
   rw[<- e2]at s3
   have s03:=s02.trans s3
   have hd3:H3 d=some (.dT kvs):=s3 _ _ (s2 _ _ hdk)
   have ht3:H3 t2=some (.tup ((Ztc dd).map kV)):=by rw[Zyk];exact s03 _ _ ht2
   refine⟨_,rfl,_,rfl,d,_,rfl,Zgg.t (k:=Ztc dd) hd3 ht3,_,rfl,?_⟩
   have hnew:Ztc dd∉kvs.map (·.1):=by rw[hk];exact Zr2 gd.nd hdd
   rw[Zkz hnew]
   refine Zcu ?_
   have hkl:kvs.length=(ds.take i).length:=by have:=congrArg List.length hk;simpa using this
   have hil:(ds.take i).length<=64:=by rw[Yd1];omega
   refine⟨_,rfl,_,rfl,d,_,rfl,Zm3.t (k:=Ztc dd) hd3 ht3 (Za2 (by omega)),?_⟩
   refine⟨_,_,_,rfl,λb o e=>?_,uS,?_⟩
   ·rw[Zab (nNo e hd)];exact s03 _ _ e
   ·rw[Zr7 hnew,hk,Yt,hdd,Yb1]
    rfl
  ·rintro σ H' ⟨kvs,a,c,rfl,s1,hdk,hk⟩
   exact q H' s1
def Yab:¬ (("book":Str)="stands"):=by rfl'
def Yaa:¬ (("book":Str)="width"):=by rfl'
def Z99:¬ (("width":Str)="stands"):=by rfl'
def Zir(k t:Addr)(n:Nat):List (Str×V):=Zhl "stands" (.ref t) (Zhl "width" (.int n) (Zhl "book" (.ref k) []))
def Z14(k t:Addr)(n:Nat):(Zir k t n).lookup ("book":Str)=some (.ref k):=by
 unfold Zir
 rw[Zas,if_neg Yab,Zas,if_neg Yaa,Zas,if_pos rfl]
def Z12(k t:Addr)(n:Nat):(Zir k t n).lookup ("width":Str)=some (.int n):=by
 unfold Zir
 rw[Zas,if_neg Z99,Zas,if_pos rfl]
def Z13(k t:Addr)(n:Nat):(Zir k t n).lookup ("stands":Str)=some (.ref t):=by
 unfold Zir
 rw[Zas,if_pos rfl]
def Zmr(k t:Addr)(n:Nat){m:Str}(h1:¬ m="stands")(h2:¬ m="width")(h3:¬ m="book"):(Zir k t n).lookup m=none:=by
 unfold Zir
 rw[Zas,if_neg h1,Zas,if_neg h2,Zas,if_neg h3]
 rfl
def Zn9(k t:Addr)(n:Nat):(Zir k t n).lookup ("kinds":Str)=none:=Zmr k t n (by rfl') (by rfl') (by rfl')
def Zlh(k t:Addr)(n:Nat):(Zir k t n).lookup ("places":Str)=none:=Zmr k t n (by rfl') (by rfl') (by rfl')
def Zoa(k t:Addr)(n:Nat):(Zir k t n).lookup ("deeds":Str)=none:=Zmr k t n (by rfl') (by rfl') (by rfl')
structure Zc6(C B:Addr)(H:Hp)(p k:Addr)(rows:RS)(n:Nat)(ds:List (LS)):Prop where
 ex:∃(dx t:Addr) (us:LV),H p=some (.ins B dx (Zir k t n))/\Zbk C H k rows/\H t=some (.tup us)/\Zbh H ds us
theorem Zc6.mono{C B:Addr}{H H':Hp}{p k:Addr}{rows:RS}{n:Nat}{ds:List (LS)}(h:Zc6 C B H p k rows n ds)(s:Zaj H H'):Zc6 C B H' p k rows n ds:=by
 obtain⟨dx,t,us,h1,h2,h3,h4⟩:=h.ex
 exact⟨dx,t,us,s _ _ h1,h2.mono s,s _ _ h3,h4.mono s⟩
structure Zo2(K:Fg)(B:Addr):Prop where
 cl:Cls K B
 nB:Zfz K B "book"
 nW:Zfz K B "width"
 nS:Zfz K B "stands"
structure Z2o(mg:Str->OU):Prop where
 places:∃ t,mg "MOST_PLACES"=some (.int 4 t)
 deeds:∃ t,mg "MOST_DEEDS"=some (.int 64 t)
 len:mg "len"=none
 all:mg "all"=none
 tuple:mg "tuple"=none
 list:mg "list"=none
 enum:mg "enumerate"=none
def Zpg(K:Fg)(C B:Addr):Sp:=λvs H Q _=>∃(p dx k l:Addr) (n:Nat) (rows:RS) (ds:List (LS)) (us:LV),vs=[.ref p,.ref k,.int n,.ref l]/\H p=some (.ins B dx [])/\Zbk C H k rows/\Zdr rows/\(SqL K H l us\/H l=some (.tup us))/\Zbh H ds us/\Zb7 rows n ds/\1<=n/\n<=4 /\
 ∀ H',Zc6 C B H' p k rows n ds->(∀ b o,b≠p->H b=some o->H' b=some o)->Q .non H'
def Zhq{C p:Addr}{H H':Hp}{k:Addr}{rows:RS}{o:HO}(h:Zbk C H k rows)(hp:H p=some o)(s:∀ b o,b≠p->H b=some o->H' b=some o)(nk:k≠p)(no:∀ o' u,o≠.frz o' u)(nt:∀ xs,o≠.tup xs):Zbk C H' k rows:=by
 obtain⟨dx,d,a,o1,oa,kvs,avs,h1,h2,h3,h4⟩:=h.ex
 have ne:∀ {b o' u},H b=some (.frz o' u)->b≠p:=λ{b o' u} e z=>by rw[z,hp]at e;exact no _ _ (Yq e)
 have net:∀ {b xs},H b=some (.tup xs)->b≠p:=λ{b xs} e z=>by rw[z,hp]at e;exact nt _ (Yq e)
 exact⟨dx,d,a,o1,oa,kvs,avs,s _ _ nk h1,⟨s _ _ (ne h2.at_) h2.at_,h2.ups.mono λb xs e=>s _ _ (net e) e⟩,s _ _ (ne h3) h3,h4.mono λb o' fk e=>s _ _ (ne e) e⟩
abbrev nBI:LS:=["self","kinds","places","deeds"]
def Z9j:Zak nBI nBI (Zad Zej):=by nofun
def Zx5(F:Fun K "__init__" "Board.__init__" Zej f fd)(T:Z2o mg)(TB:Zo2 K B)(TC:Zmz K C)(DD:Def K mg "check_deeds" Zeq ["kinds","places","deeds"] fD fdD)(DI:Def K mg "is_call" Zec nIC fI fdI)(MH:Zry K C fH fdH)(hBC:B≠C):
  ⋯ 4 f fd nBI (Zpg K C B):=by
 have GD:⋯ 3 fD fdD ["kinds","places","deeds"] (Zi8 K C):=Zkt DD DI T.enum T.len T.all TC MH
 nomatch F.ok Z9j
 ·obtain⟨p,dx,k,l,n,rows,ds,us,rfl,_⟩:=h
  rfl
 ·obtain⟨p,dx,k,l,n,rows,ds,us,rfl,hp,kd,g,hl,hD,gd,n1,n4,q⟩:=h
  obtain⟨b,hl,hb0⟩:∃ b,SqB K b H l us/\(b=false->H l=some (.tup us)):=by
   rcases hl with hl | hl
   ·exact⟨true,hl,λz=>by cases z⟩
   ·exact⟨false,SqT.of hl,λ_=>hl⟩
  obtain⟨t1,hP⟩:=T.places
  obtain⟨t2,hM⟩:=T.deeds
  have hr3:Zcb 3 _:=hr.mono (by decide)
  ac_nf
  refine⟨_,pS (Zaz (Zdh (Zl6 Zjk Zjk Zae (pv 2) (Zc4 (v:=.int 4) (by rfl) hP ⟨_,rfl⟩))) Zaw Zai)
   (pS (Zaz (Zal Zih (Zam Zdc (by rfl) T.len Yr (pC (pv 3) Zaa)) (Zc4 (v:=.int 64) (by rfl) hM ⟨_,rfl⟩) (Zaq _)) Zaw Zai)
   (pS (Zax (Zaf DD GD hr3 (pC (pv 1) (pC (pv 2) (pC (pv 3) Zaa)))))
   (pS (Zja (pv 0) (pv 1) rfl) (pS (Zja (pv 0) (pv 2) rfl)
   (Zac (Zja (pv 0) (Zbd Zbg (by rfl) T.tuple Yh1 (pC (pv 3) Zaa)) rfl)))))),?_⟩
  exists let b:=Zar _ a;let c:=Zar _ b;let e:=Zar _ c;let f:=Zar _ e;Zar _ f _ _ _
  refine⟨_,rfl,_,_,rfl,rfl,_,rfl,?_⟩
  rw[show decide ((1:Int)<=(n:Int))=true from Jb (by omega)]
  refine Zfe ⟨_,_,rfl,rfl,_,rfl,?_⟩
  rw[show(decide ((n:Int)<=4))=true from Jb (by omega)]
  refine Zcu ?_
  have hul:=hD.length
  have few:=gd.few
  refine⟨_,rfl,_,_,rfl,Zmo hl,_,_,rfl,rfl,_,rfl,?_⟩
  rw[show decide ((64:Int)<(us.length:Int))=false from Jc (by omega)]
  refine Zcu ?_
  refine⟨_,rfl,_,rfl,_,rfl,p |> λ_=>k,l,n,b,rows,ds,us,rfl,kd,g,hl,hD,gd,n4,λH1 s1=>?_⟩
  have hp1:=s1 _ _ hp
  have kd1:=kd.mono s1
  have nkp:k≠p:=by
   intro z
   obtain⟨dx',d,a,o,oa,kvs,avs,h1,_⟩:=kd.ex
   rw[z,hp]at h1
   injection h1 with h1
   injection h1 with h1
   exact hBC h1
  refine⟨_,rfl,_,rfl,p,B,dx,[],rfl,hp1,TB.cl,TB.nB,(by show 0<1000;decide),?_⟩
  refine⟨_,rfl,_,rfl,p,B,dx,_,rfl,uS,TB.cl,TB.nW,(by show 1<1000;decide),?_⟩
  rw[Zgz]
  have kp:∀ {fs:List (Str×V)} (b:Addr) (o:HO),b≠p->H b=some o->(upd H1 p (.ins B dx fs)) b=some o:=λb o hb e=>by rw[Zab hb];exact s1 _ _ e
  have hlp:∀ {fs:List (Str×V)},SqB K b (upd H1 p (.ins B dx fs)) l us:=λ{fs}=>by
   have hl1:=hl.mono s1
   cases b with
   | true =>
    rcases(show SqL K H1 l us from hl1)with(e | ⟨o,e⟩) | e
    ·exact .inl (.inl (by rw[Zab (λz=>by rw[z,hp1]at e;cases e)];exact e))
    ·exact .inl (.inr ⟨o,by rw[Zab (λz=>by rw[z,hp1]at e;cases e)];exact e⟩)
    ·exact .inr e
   | false =>
    rcases(show SqT K H1 l us from hl1)with(e | ⟨o,e⟩) | e
    ·exact .inl (.inl (by rw[Zab (λz=>by rw[z,hp1]at e;cases e)];exact e))
    ·exact .inl (.inr ⟨o,by rw[Zab (λz=>by rw[z,hp1]at e;cases e)];exact e⟩)
    ·exact .inr e
  have fin:∀(t:Addr) (H2:Hp),Zaj (upd H1 p (.ins B dx (Zhl "width" (.int n) (Zhl "book" (.ref k) [])))) H2->H2 t=some (.tup us)->Q .non (upd H2 p (.ins B dx (Zir k t n))):=λt H2 s2 ht=>by
   have hp2:H2 p=some (.ins B dx (Zhl "width" (.int n) (Zhl "book" (.ref k) []))):=s2 _ _ uS
   have k2:∀ b o,b≠p->H b=some o->(upd H2 p (.ins B dx (Zir k t n))) b=some o:=λb o hb e=>by rw[Zab hb];exact s2 _ _ (kp b o hb e)
   refine q _ ⟨dx,t,us,uS,Zhq kd hp k2 nkp (λ_ _ z=>by cases z) (λ_ z=>by cases z),by rw[Zab (λz=>by rw[z,hp2]at ht;cases ht)];exact ht,Paired.mapP hD λd v ⟨t',e,x⟩=>⟨t',e,k2 _ _ (λz=>by rw[z,hp]at x;cases x) x⟩⟩ k2
  refine⟨_,rfl,l,us,rfl,?_⟩
  have no:=hlp (fs:=Zhl "width" (.int n) (Zhl "book" (.ref k) []))
  have wd:(Zhl "width" (V.int n) (Zhl "book" (V.ref k) [])).length<1000:=by show 2<1000;decide
  cases b with
  | true =>
   refine .inl ⟨no,λt ht=>⟨_,rfl,p,B,dx,_,rfl,(Za9 ht) _ _ uS,TB.cl,TB.nS,wd,fin t _ (Za9 ht) uS⟩⟩
  | false =>
   have e:(upd H1 p (.ins B dx (Zhl "width" (.int n) (Zhl "book" (.ref k) [])))) l=some (.tup us):=by
    have e0:=s1 _ _ (hb0 rfl)
    rw[Zab (λz=>by rw[z,hp1]at e0;cases e0)]
    exact e0
   exact .inr ⟨no,_,rfl,p,B,dx,_,rfl,uS,TB.cl,TB.nS,wd,fin l _ (Zaj.refl _) e⟩
def Zl0(C B:Addr):Sp:=λvs H Q _=>∃(p k:Addr) (rows:RS) (n:Nat) (ds:List (LS)),vs=[.ref p]/\Zc6 C B H p k rows n ds/\Q (.ref k) H
def Zj1(C B:Addr):Sp:=λvs H Q _=>∃(p k:Addr) (rows:RS) (n:Nat) (ds:List (LS)),vs=[.ref p]/\Zc6 C B H p k rows n ds/\Q (.int n) H
def Zl1(C B:Addr):Sp:=λvs H Q _=>∃(p k:Addr) (rows:RS) (n:Nat) (ds:List (LS)),vs=[.ref p]/\Zc6 C B H p k rows n ds/\∀ l us,H l=none->Zbh H ds us->Q (.ref l) (upd H l (.lst us))
def Z9i:Zak ["self"] ["self"] (Zad Zeu):=by nofun
def Zn4(F:Fun K "kinds" "Board.kinds" Zeu f fd)(TB:Zo2 K B):⋯ 1 f fd ["self"] (Zl0 C B):=by
 nomatch F.ok Z9i
 ·obtain⟨p,k,rows,n,ds,rfl,_⟩:=h
  rfl
 ·obtain⟨p,k,rows,n,ds,rfl,⟨dx,t,us,h1,h2,h3,h4⟩,q⟩:=h
  exact⟨_,Zac (Zao (Zga (pv 0) rfl)),_,rfl,p,B,dx,_,_,rfl,h1,TB.cl,TB.nB,Z14 _ _ _,q⟩
def Z9h:Zak ["self"] ["self"] (Zad Zd9):=by nofun
def Zlf(F:Fun K "places" "Board.places" Zd9 f fd)(TB:Zo2 K B):⋯ 1 f fd ["self"] (Zj1 C B):=by
 nomatch F.ok Z9h
 ·obtain⟨p,k,rows,n,ds,rfl,_⟩:=h
  rfl
 ·obtain⟨p,k,rows,n,ds,rfl,⟨dx,t,us,h1,h2,h3,h4⟩,q⟩:=h
  exact⟨_,Zac (Zao (Zga (pv 0) rfl)),_,rfl,p,B,dx,_,_,rfl,h1,TB.cl,TB.nW,Z12 _ _ _,q⟩
def Z9k:Zak ["self"] ["self"] (Zad Zev):=by nofun
def Zn5(F:Fun K "deeds" "Board.deeds" Zev f fd)(TB:Zo2 K B)(list:mg "list"=none):⋯ 1 f fd ["self"] (Zl1 C B):=by
 nomatch F.ok Z9k
 ·obtain⟨p,k,rows,n,ds,rfl,_⟩:=h
  rfl
 ·obtain⟨p,k,rows,n,ds,rfl,⟨dx,t,us,h1,h2,h3,h4⟩,q⟩:=h
  exact⟨_,Zac (Zao (Zbd Zef (by rfl) list Yb2 (pC (Zga (pv 0) rfl) Zaa))),_,rfl,p,B,dx,_,_,rfl,h1,TB.cl,TB.nS,Z13 _ _ _,t,us,rfl,.inr (SqT.of h3),λl hl=>q l us hl h4⟩
abbrev Zw4(K:Fg)(B f:Addr)(fd:FuncData):Prop:=Zo7 K B "kinds" "Board.kinds" Zeu ["self"] f fd
abbrev Zrz(K:Fg)(B f:Addr)(fd:FuncData):Prop:=Zo7 K B "places" "Board.places" Zd9 ["self"] f fd
abbrev Zw5(K:Fg)(B f:Addr)(fd:FuncData):Prop:=Zo7 K B "deeds" "Board.deeds" Zev ["self"] f fd
def Zdv(rows:RS)(xs ys:LS):Bool:=(xs.zip ys).all λp=>Ze8 rows p.1 p.2
def Z55(p:Str×Str):V×V:=(V.str p.1,V.str p.2)
def Ztg(xs ys:LS):(xs.map V.str).zip (ys.map V.str)=(xs.zip ys).map Z55:=by rw[List.zip_map];rfl
def Zoc{α β:Type}{f:α->β}{l:List α}{i:Nat}{y:β}(h:(l.map f)[i]?=some y):∃ x,l[i]?=some x/\f x=y:=by
 rw[Yp]at h
 exact Yk1.mp h
def Zjm(C:Addr):Sp:=λvs H Q _=>∃(p a b:Addr) (rows:RS) (xs ys:LS),vs=[.ref p,.ref a,.ref b]/\Zbk C H p rows/\Zdr rows/\H a=some (.tup (xs.map V.str))/\H b=some (.tup (ys.map V.str))/\(∀ x∈xs,x∈rows.map (·.1))/\(∀ y∈ys,y∈rows.map (·.1)) /\
 ∀ H',Zaj H H'->Q (.bl (Zdv rows xs ys)) H'
def Zjz(C:Addr):Sp:=λvs H Q _=>∃(p t:Addr) (n:Nat) (rows:RS) (xs:LS),vs=[.ref p,.int n,.ref t]/\Zbk C H p rows/\Zdr rows/\H t=some (.tup (xs.map V.str))/\Zc2 rows n xs/\n<=4/\∀ H',Zaj H H'->Q .non H'
def Z16(rows:RS)(ds:List (LS))(xs:LS):LN:=(List.range ds.length).filter λi=>Zdv rows xs (ds.getD i [])
def Znd(C B:Addr):Sp:=λvs H Q _=>∃(p k t:Addr) (rows:RS) (n:Nat) (ds:List (LS)) (xs:LS),vs=[.ref p,.ref t]/\Zc6 C B H p k rows n ds/\Zdr rows/\Zb7 rows n ds/\n<=4/\H t=some (.tup (xs.map V.str))/\Zc2 rows n xs /\
 ∀ l H',H l=none->Zaj H H'->H' l=some (.lst ((Z16 rows ds xs).map λi=>V.int (i:Nat)))->Q (.ref l) H'
abbrev nWi:LS:=["kinds","one","other","low","high"]
def Z7e:Zak nWi ["kinds","one","other"] (Zad Zhg):=by nofun
def Znw(F:Def K mg "within" Zhg ["kinds","one","other"] f fd)(zip:mg "zip"=none)(TC:Zmz K C)(MU:Z0d K C fU fdU)(MC:Zlp K C fC fdC)(MH:Zry K C fH fdH):
  ⋯ 4 f fd ["kinds","one","other"] (Zjm C):=by
 have GU:⋯ 3 fU fdU ["self","one","other"] (Ztr C):=Zxs MU.fn TC MC MH
 nomatch F.fn.ok Z7e
 ·obtain⟨p,a,b,rows,xs,ys,rfl,_⟩:=h
  rfl
 ·obtain⟨p,a,b,rows,xs,ys,rfl,kd,g,ha,hb,hx,hy,q⟩:=h
  obtain⟨dx,d,a1,o,oa,kvs,avs,h1,_⟩:=kd.ex
  have nd:=Z7e.nd
  ac_nf
  refine⟨_,pS (Zbc Yk rfl (Z3y (by rfl) zip (pC (pv 1) (pC (pv 2) Zaa))) (Zgx rfl (gC (gE 3 nd) (gC (gE 4 nd) Zem)))
    (Zac (Zaz (Zdh (Zcm (Zcs (pv 0) TC.cl MU.me GU hr MU.b .nil Zdn (pC (pv 3) (pC (pv 4) Zaa))))) (Zac (Zao Zht)) Zai)))
   (Zac (Zao Zht)),?_⟩
  exists let b:=_;Zar (Zgf _ _ b) a _ _ _
  let Iv1:NW:=λi σ H'=>∃(u v:OV),σ=[some (.ref p),some (.ref a),some (.ref b),u,v]/\Zaj H H'/\∀ z∈(xs.zip ys).take i,Ze8 rows z.1 z.2=true
  refine⟨_,rfl,_,rfl,a,b,_,_,rfl,SqT.of ha,SqT.of hb,Zkg Iv1
   ⟨none,none,rfl,Zaj.refl H,by simp⟩ (λi σ H' _ h0=>by obtain⟨_,_,_,s,_⟩:=h0;exact⟨SqT.of (s _ _ ha),SqT.of (s _ _ hb)⟩) ?_ ?_⟩
  ·rintro i pr t σ H' hi ⟨u,v,rfl,s1,hall⟩ ht0
   rw[Ztg]at hi
   obtain⟨z,hz,rfl⟩:=Zoc hi
   refine Zri ?_
   have s2:=s1.trans (Za9 (o:=.tup [(Z55 z).1,(Z55 z).2]) ht0)
   have zm:=Yf hz
   have hzx:=hx _ (Yf4 zm).1
   have hzy:=hy _ (Yf4 zm).2
   refine⟨_,rfl,p,dx,_,rfl,s2 _ _ h1,Zyb _ _,_,rfl,_,rfl,p,rows,z.1,z.2,rfl,kd.mono s2,g,hzx,hzy,_,rfl,?_⟩
   refine Zdu (λh=>?_) (λh=>?_)
   ·have e:Zdv rows xs ys=false:=by
     unfold Zdv
     rw[List.all_eq_false]
     exact⟨z,zm,by simpa using h⟩
    have q':=q _ s2
    rw[e]at q'
    exact q'
   ·refine⟨_,_,rfl,s2,λy hy'=>?_⟩
    rw[Yt,hz]at hy'
    rcases Yo.mp hy' with m | m
    ·exact hall y m
    ·have:y=z:=by simpa using m
     rw[this]
     simpa using h
  ·rintro σ H' ⟨u,v,rfl,s1,hall⟩
   rw[Ztg,Ya,Ye1]at hall
   have e:Zdv rows xs ys=true:=by
    unfold Zdv
    rw[Yr1]
    exact hall
   have q':=q _ s1
   rw[e]at q'
   exact q'
def Z9f:Zak nIC nIC (Zad Zfi):=by nofun
def Zmg(F:Def K mg "check_call" Zfi nIC f fd)(DI:Def K mg "is_call" Zec nIC fI fdI)(len:mg "len"=none)(all:mg "all"=none)(TC:Zmz K C)(MH:Zry K C fH fdH):⋯ 3 f fd nIC (Zjz C):=by
 have GI:⋯ 2 fI fdI nIC (Zly C):=Zle DI len all TC MH
 nomatch F.fn.ok Z9f
 ·obtain⟨p,t,n,rows,xs,rfl,_⟩:=h
  rfl
 ·obtain⟨p,t,n,rows,xs,rfl,kd,g,ht,gc,hn,q⟩:=h
  ac_nf
  refine⟨_,Zac (Zaz (Zdh (Zcm (Zaf DI GI hr (pC (pv 0) (pC (pv 1) (pC (pv 2) Zaa)))))) Zaw Zai),?_⟩
  refine⟨_,rfl,_,rfl,_,rfl,p,t,n,rows,xs,rfl,kd,g,ht,by have:=gc.len;omega,λH' s'=>⟨_,rfl,?_⟩⟩
  rw[gc.is]
  exact Zcu (q H' s')
abbrev nFi:LS:=["board","call","kinds"]
def Z7u:Zak nFi ["board","call"] (Zad Zg3):=by nofun
def Z1n:(["number","deed","kinds","call"]:LS).Nodup:=by rfl'
def Z8b(p:V×V):V:=p.1
def Zyu{rows:RS}{ds:List (LS)}{xs:LS}{us:LV}{p:V×V->Bool}(hl:ds.length=us.length)(h:∀ i (d:LS) v,ds[i]?=some d->us[i]?=some v->p (.int (i:Nat),v)=Zdv rows xs d):
  ((Zkj us).filter p).map Z8b=(Z16 rows ds xs).map λi=>V.int (i:Nat):=by
 have e1:Zkj us=(List.range us.length).map λ(i:Nat)=>(V.int (i:Nat),us.getD i .non):=by
  refine List.ext_getElem? λi=>?_
  by_cases hi:i<us.length
  ·have h1:(Zkj us)[i]?=some ((Zkj us)[i]'(by rw[Zfc];exact hi)):=Yh (by rw[Zfc];exact hi)
   obtain⟨a,b⟩:=Zhb h1
   rw[h1,Yp,List.getElem?_range hi]
   refine congrArg some (Prod.ext a ?_)
   show _=us.getD i .non
   rw[Yw,b]
   rfl
  ·rw[Yv4 (by rw[Zfc];omega),Yv4 (by simp;omega)]
 rw[e1,Yz2,Yy1]
 unfold Z16
 rw[hl]
 have e2:(List.range us.length).filter (p ∘ λ(i:Nat)=>(V.int (i:Nat),us.getD i .non))=(List.range us.length).filter λi=>Zdv rows xs (ds.getD i []):=by
  refine List.filter_congr λi hi=>?_
  have hi:i<us.length:=Yl2.mp hi
  have d1:ds[i]?=some (ds.getD i []):=by rw[Yw,Yh (by omega)];rfl
  have u1:us[i]?=some (us.getD i .non):=by rw[Yw,Yh hi];rfl
  exact h i _ _ d1 u1
 rw[e2]
 rfl
def Z8j(rows:RS)(ds:List (LS))(xs:LS):V×V->Bool
 | (.int i,_)=>Zdv rows xs (ds.getD i.toNat [])
 | _=>false
def Zsi(F:Def K mg "fitting" Zg3 ["board","call"] f fd)(T:Z2o mg)(zip:mg "zip"=none)(TC:Zmz K C)(TB:Zo2 K B)(MK:Zw4 K B fK fdK)(MP:Zrz K B fPl fdPl)(MD:Zw5 K B fDe fdDe)
  (DCk:Def K mg "check_call" Zfi nIC fCk fdCk) (DW:Def K mg "within" Zhg ["kinds","one","other"] fW fdW) (DI:Def K mg "is_call" Zec nIC fI fdI) (MU:Z0d K C fU fdU) (MC:Zlp K C fC fdC) (MH:Zry K C fH fdH):
  ⋯ 5 f fd ["board","call"] (Znd C B):=by
 have GK:⋯ 1 fK fdK ["self"] (Zl0 C B):=Zn4 MK.fn TB
 have GP:⋯ 1 fPl fdPl ["self"] (Zj1 C B):=Zlf MP.fn TB
 have GD:⋯ 1 fDe fdDe ["self"] (Zl1 C B):=Zn5 MD.fn TB T.list
 have GC:⋯ 3 fCk fdCk nIC (Zjz C):=Zmg DCk DI T.len T.all TC MH
 have GW:⋯ 4 fW fdW ["kinds","one","other"] (Zjm C):=Znw DW zip TC MU MC MH
 nomatch F.fn.ok Z7u
 ·obtain⟨p,k,t,rows,n,ds,xs,rfl,_⟩:=h
  rfl
 ·obtain⟨p,k,t,rows,n,ds,xs,rfl,bd,g,gd,hn,ht,gc,q⟩:=h
  obtain⟨dx,ts,us,h1,h2,h3,h4⟩:=bd.ex
  have nd:=Z7u.nd
  have hr1:Zcb 1 _:=hr.mono (by decide)
  have hr3:Zcb 3 _:=hr.mono (by decide)
  ac_nf
  refine'⟨_,pS (Zag (i:=2) nd rfl (Or.inr rfl) (Zdb (pv 0) TB.cl MK.me GK hr1 MK.b .nil Zdn))
   (pS (Zax (Zaf DCk GC hr3 (pC (pv 2) (pC (Zdb (pv 0) TB.cl MP.me GP hr1 MP.b .nil Zdn) (pC (pv 1) Zaa)))))
   (Zac (Zao ?ea))),?_⟩
  case ea=>exact(Zbt ["number","deed"] ["kinds","call"] [2,1] (λ_=>Za1 (osc:=Zad Zg3) (on:=nFi) (by rfl') rfl rfl rfl) (Zpj (by rfl) T.enum (pC (Zdb (pv 0) TB.cl MD.me GD hr1 MD.b .nil Zdn) Zaa))
    (λC s H fp=>Zq5 (K:=K) (i:=0) (j:=1) rfl rfl Z1n rfl rfl (Or.inl rfl) (Or.inl rfl) (Or.inr rfl) (Or.inr rfl))
    (λC s H fp=>Zek (Zcm (Zaf DW GW hr (pC (pv 2) (pC (pv 3) (pC (pv 1) Zaa)))))) (λC s H fp=>pv 0))
  exists let b:=Zar _ a;Zar _ b _ _ _
  refine⟨_,rfl,p,dx,_,rfl,h1,Zn9 _ _ _,p,k,rows,n,ds,rfl,bd,?_⟩
  refine⟨_,rfl,_,rfl,p,dx,_,rfl,h1,Zlh _ _ _,p,k,rows,n,ds,rfl,bd,_,rfl,k,t,n,rows,xs,rfl,h2,g,ht,gc,hn,λH1 s1=>?_⟩
  refine⟨_,rfl,p,dx,_,rfl,s1 _ _ h1,Zoa _ _ _,p,k,rows,n,ds,rfl,bd.mono s1,λl us' hl hD=>?_⟩
  have s2:Zaj H1 (upd H1 l (.lst us')):=Za9 hl
  have hul:=hD.length
  have few:=gd.few
  refine⟨true,l,us',rfl,SqL.of uS,Zwf (sL (by rw[Zfc];omega)) (Z8j rows ds xs) Z8b (λH' s'=>SqL.of (s' _ _ uS)) ?_ ?_ ?_⟩
  ·intro x H' R s' hx hR
   obtain⟨i,hi⟩:=List.getElem?_of_mem hx
   obtain⟨e1,hu⟩:=Zhb hi
   obtain⟨dd,hdd,t2,e2,ht2⟩:=Zau hD hu
   have s02:=s1.trans (s2.trans s')
   have gcd:=gd.call dd (Yf hdd)
   rw[e2]
   refine⟨_,rfl,_,rfl,_,rfl,k,t,t2,rows,xs,dd,rfl,h2.mono s02,g,s02 _ _ ht,s' _ _ (s2 _ _ ht2),gc.known,gcd.known,λH3 s3=>⟨_,rfl,?_⟩⟩
   have e:Z8j rows ds xs x=Zdv rows xs dd:=by
    obtain⟨x1,x2⟩:=x
    have e1:x1=.int (i:Nat):=e1
    rw[e1]
    show Zdv rows xs (ds.getD ((i:Nat):Int).toNat [])=_
    rw[Ym3,Yw,hdd]
    rfl
   rw[<- e]
   exact hR H3 s3
  ·intro x H' R s' hx _ hR
   exact⟨_,rfl,hR H' (Zaj.refl _)⟩
  ·intro D H' hD0 s' hl'
   have s02:=s1.trans (s2.trans s')
   refine q D H' ?_ s02 ?_
   ·cases e:H D with
    | none=>rfl
    | some u=>have:=s2 _ _ (s1 _ _ e);rw[this]at hD0;cases hD0
   ·rw[hl',Zyu hul λi d v hd hv=>?_]
    show Zdv rows xs (ds.getD ((i:Nat):Int).toNat [])=_
    rw[Ym3,Yw,hd]
    rfl
def Zic{H:Hp}{p a:Addr}{o:HO}{ws:LS}(h:H p=some o)(ho:Zh2 o)(ha:H a=some (.lst (ws.map V.str))):p≠a:=Z1l h ha (by
 obtain⟨r,b,e,_⟩:=ho
 rw[e]
 intro z
 injection z with z
 have z2:=congrArg (λl=>l[0]?) z
 cases ws with
 | nil=>simp at z2
 | cons x r=>simp at z2)
theorem Drawn.tup{p:Addr}{H H':Hp}(d:Drawn p H H'){o:HO}(h:H p=some o)(ho:Zh2 o){t:Addr}{xs:LV}(e:H t=some (.tup xs)):H' t=some (.tup xs):=
 d.keep _ _ (λz=>by rw[z,h]at e;obtain⟨_,_,q,_⟩:=ho;rw[q]at e;cases e) e
def Zbn{H H':Hp}{l:Addr}{rows:RS}(h:Zeg H l rows)(s:Zaj H H'):Zeg H' l rows:=by
 obtain⟨vs,a,p⟩:=h
 exact⟨vs,s _ _ a,Paired.mapP p λr v ⟨t,u,e,h1,h2⟩=>⟨t,u,e,s _ _ h1,s _ _ h2⟩⟩
def Ziv{K:Fg}{l:Addr}{H2:Hp}{rows:RS}{σ:St}{te:TE}{Q:VK}(hR:Zeg H2 l rows)(few:rows.length<=100)
  (he:∀(t u:Addr) (x:Str) H' (R:VK),H' t=some (.tup [.str x,.ref u])->R (.str x) H'->te [some (.ref t)] H' R)
  (hd:∀ D H3,H2 D=none->Zaj H2 H3->H3 D=some (.lst ((rows.map (·.1)).map V.str))->Q (.ref D) H3):compBody 1 [] (Zff 0) Zxa te σ Q (Itl K l) H2:=by
 obtain⟨vs,hvs,hpr⟩:=hR
 refine Zgt (Zav (xs:=vs)) (sL (by rw[<- hpr.length];omega)) (λ_=>true) (λ_ x v _=>∀ r,Z21 H2 r x->v=.str r.1) (λ_ _ _ _ _ _ h=>h) (λH' s=>s.seq (SqL.of hvs)) ?_ ?_ ?_
 ·intro x H3 R _ _ hR'
  exact hR' H3 (Zaj.refl _)
 ·intro D x H3 R s3 _ _ hx _ hR'
  obtain⟨i,hi⟩:=Yo2.mp hx
  obtain⟨r,hr',t,u,rfl,ht,hu'⟩:=Zau hpr hi
  refine he t u r.1 H3 R (s3 _ _ ht) (hR' _ _ (Zaj.refl _) λr' h'=>?_)
  obtain⟨t',u',e1,e2,_⟩:=h'
  cases e1
  rw[ht]at e2
  have e2:=Yq e2
  injection e2 with e2
  injection e2 with e2 _
 ·intro D H3 ys hD s23 hlD hpD
  rw[Zmy]at hpD
  have eys:ys=(rows.map (·.1)).map V.str:=by
   have:∀ {rows:RS} {vs ys:LV},Paired (Z21 H2) rows vs->Paired (λx v=>∀ r,Z21 H2 r x->v=.str r.1) vs ys->ys=(rows.map (·.1)).map V.str:=by
    intro rows vs ys a
    induction a generalizing ys with
    | nil=>intro b;cases b;rfl
    | cons h t ih =>
     intro b
     cases b with
     | cons h' t'=>rw[Yy,Yy,h' _ h,ih t']
   exact this hpr hpD
  subst eys
  exact hd D H3 hD s23 hlD
def Zc0{ws:LS}{v:Int}(h0:0<=v)(h1:v<(ws.map V.str).length):∃ x∈ws,atI (ws.map V.str) v=some (.str x):=by
 have hl:v.toNat<ws.length:=by rw[Ya]at h1;omega
 refine⟨ws[v.toNat],Yr2 hl,?_⟩
 have e:((v.toNat:Nat):Int)=v:=by omega
 have q:atI (ws.map V.str) ((v.toNat:Nat):Int)=some (.str ws[v.toNat]):=by
  refine Zb5 ?_
  rw[Yp,Yh (by omega)]
  rfl
 rw[e]at q
 exact q
abbrev Dt:=W.Dat
def Zo6(d:LS):Dt:=.tuple (d.map W.Dat.str)
def Zy3{d e:LS}(h:Zo6 d=Zo6 e):d=e:=by
 unfold Zo6 at h
 injection h with h
 exact List.map_inj_right (λa b z=>by injection z) |>.mp h
def Zjp{K:Fg}{H:Hp}{t:Addr}{d:LS}(h:H t=some (.tup (d.map V.str))):Rep K H (.ref t) (Zo6 d):=.tuple (SqT.of h) (Ze7 d)
theorem Zix{K:Fg}{H:Hp}:∀ {ds:List (LS)}{vs:LV},Zbh H ds vs->Reps K H vs (ds.map Zo6)
 | _,_,.nil=>.nil
 | _,_,.cons ⟨t,e,h⟩ r=>by rw[e];exact .cons (Zjp h) (Zix r)
def Zd5{rows:RS}(g:Zdr rows):∀ x∈rows.map (·.1),Zbf x=true:=λx hx=>by
 obtain⟨r,hr,e⟩:=Ye.mp hx
 rw[<- e]
 exact g.word r hr
def Zq1{rows:RS}(g:Zdr rows){x y:Str}(hx:x∈rows.map (·.1))(h:Graph.Reach (Zcq rows) x y):y∈rows.map (·.1):=
 Graph.closed_reach (S:=λy=>y∈rows.map (·.1)) (λz hz u hu=>Zj2 g hz hu) h hx
def Zuy(n:Nat){x:Str}(h:Zbf x=true):W.kqdOk n (.str x)=true:=by
 have q:=Zn2 (ws:=[x]) (λy hy=>by rw[Yc.mp hy];exact h)
 rw[W.kqdOk]at q
 have q2:W.kqdOk 8 (.str x)=true:=by simpa using q
 rw[W.kqdOk]at q2
 rw[W.kqdOk]
 exact q2
def Zmi(n:Nat){d:LS}(h:∀ x∈d,Zbf x=true):W.kqdOk (n + 1) (Zo6 d)=true:=by
 unfold Zo6
 rw[W.kqdOk,Yr1]
 intro z hz
 obtain⟨x,hx,rfl⟩:=Ye.mp hz
 exact Zuy n (h x hx)
def Zrb(n:Nat){ds:List (LS)}(h:∀ d∈ds,∀ x∈d,Zbf x=true):(ds.map Zo6).all (W.kqdOk (n + 1))=true:=by
 rw[Yr1]
 intro z hz
 obtain⟨d,hd,rfl⟩:=Ye.mp hz
 exact Zmi n (h d hd)
def Zrw(ds:List (LS))(d:LS):((ds.map Zo6).any λe=>dEq e (Zo6 d))=decide (d∈ds):=by
 by_cases h:d∈ds
 ·rw[Jb h,Yg3]
  exact⟨Zo6 d,Ye.mpr ⟨d,h,rfl⟩,Zhs _⟩
 ·rw[Jc h,List.any_eq_false]
  intro z hz
  obtain⟨e,he,rfl⟩:=Ye.mp hz
  rw[Zkm λq=>h (by rw[<- Zy3 q];exact he)]
  exact Yg
def Zt2:Sp:=λvs H Q _=>∃(p l aa:Addr) (n m:Nat) (rows:RS) (avs:KL),vs=[.ref p,.ref l,.ref aa,.int n,.int m]/\(∃ o,H p=some o/\Zh2 o)/\Zeg H l rows/\Zdr rows/\H aa=some (.dK avs)/\Zb8 H rows rows avs/\1<=n/\n<=4/\m<=63 /\
 ∀(ld:Addr) (ds:List (LS)) (us:LV) (H':Hp),Drawn p H H'->H ld=none->H' ld=some (.lst us)->Zbh H' ds us->Zb7 rows n ds->ds.length<=m->Q (.ref ld) H'
abbrev Z0t(K:Fg):LV->Hp->VK->Prop:=λxs H Q=>∃ p ys,xs=[.ref p]/\(SqL K H p ys\/SqT K H p ys)/\Q (.int ys.length) H
structure Z2n(mg:Str->OU):Prop where
 len:mg "len"=none
 range:mg "range"=none
 tuple:mg "tuple"=none
abbrev nDe:LS:=["pot","rows","above","places","most","words","base","deeds","k","deed","near","place","some"]
def Z7y:Zak nDe ["pot","rows","above","places","most"] (Zad Zdf):=by nofun
def Zpq:(["row"]:LS).Nodup:=by rfl'
def Zz0:(["k","words","pot"]:LS).Nodup:=by rfl'
def Zbh.drawn{p:Addr}{H H':Hp}{o:HO}{ds:List (LS)}{us:LV}(h:Zbh H ds us)(k:∀ b xs,H b=some (.tup xs)->H' b=some (.tup xs)):Zbh H' ds us:=Paired.mapP h λ_ _ ⟨t,e,x⟩=>⟨t,e,k _ _ x⟩
set_option maxHeartbeats 8000000 in
def Zu6(F:Def K mg "_law_deeds" Zdf ["pot","rows","above","places","most"] f fd)(DT:Def K mg "_law_take" Za5 ["pot","many"] fT fdT)(T:Z2n mg):
  ⋯ 2 f fd ["pot","rows","above","places","most"] Zt2:=by
 have GT:⋯ 1 fT fdT ["pot","many"] Zfg:=Zj7 DT
 nomatch F.fn.ok Z7y
 ·obtain⟨p,l,aa,n,m,rows,avs,rfl,_⟩:=h
  rfl
 ·obtain⟨p,l,aa,n,m,rows,avs,rfl,⟨o0,hp0,ho0⟩,hR,g,haa,hA,n1,n4,hm,q⟩:=h
  have nd:=Z7y.nd
  have hu:=Zf1 hr
  have hr1:Zcb 1 _:=hr.mono (by decide)
  have gle:=g.le
  ac_nf
  refine'⟨_,pS (Zag (i:=5) nd rfl (Or.inr rfl) ?e1)
   (pS ?e2
   (pS (sE 7 nd (Zbj Zaa))
   (pS (Zbc Yk rfl (Zbv (by rfl) T.range (pC (Zaf DT GT hr1 (pC (pv 0) (pC (Za0 Zbz (pv 4) Zae) Zaa))) Zaa)) (gE 8 nd)
    (pS (sE 9 nd (Zbj Zaa))
    (pS (sE 10 nd (Zaf DT GT hr1 (pC (pv 0) (pC Zae Zaa))))
    (pS (Zbc Yk rfl (Zbv (by rfl) T.range (pC (pv 3) Zaa)) (gE 11 nd)
     (pS (sE 12 nd (pv 5))
     (Zc3 (Zaz (Zal Zih (pv 10) Zae (Zaq _)) (Zac (sE 12 nd (Zd1 hu (pv 2) (Za3 Zay (pv 6) (pv 11) (λ_ _=>rfl)) (λ_ _=>rfl)))) Zai)
     (Zac (Zax (Zf0 Yu Yi1 Yj1 Zbw (pv 9) (pC (Za3 Zay (pv 12) (Zaf DT GT hr1 (pC (pv 0) (pC (Zam Zan (by rfl) T.len Yr (pC (pv 12) Zaa)) Zaa))) (λ_ _=>rfl)) Zaa)))))))
    (Zac (Zaz (Zal (Znv (Z8g hr)) (Zbd Zbg (by rfl) T.tuple Yh1 (pC (pv 9) Zaa)) (pv 7) (by with_unfolding_all rfl))
     (Zac (Zax (Zf0 Yu Yi1 Yj1 Zbw (pv 7) (pC (Zbd Zbg (by rfl) T.tuple Yh1 (pC (pv 9) Zaa)) Zaa)))) Zai))))))
   (Zac (Zao (pv 7)))))),?_⟩
  case e1=>exact(Zbt ["row"] [] [] (λ_=>Za1 (osc:=Zad Zdf) (on:=nDe) (by rfl') rfl rfl rfl) (Zbb (pv 1)) (λC s H fp=>Zah (i:=0) Zpq rfl (Or.inl rfl) (Or.inr rfl)) (λC s H fp=>Zb3) (λC s H fp=>Za3 (r:=Zhv K) Zbr (pv 0) Zae (λ_ _=>rfl)))
  case e2=>exact(Zcz (k:=6) ["k"] ["words","pot"] [5,0] nd rfl rfl (λ_=>Za1 (osc:=Zad Zdf) (on:=nDe) (by rfl') rfl rfl rfl) (Zbv (by rfl) T.range (pC (pv 3) Zaa)) (λC s H fp=>Zah (i:=0) Zz0 rfl (Or.inl rfl) (Or.inr rfl)) (λC s H fp=>Zb3)
    (λC s H fp=>Za3 (r:=Ziu K) Zay (pv 1) (Zaf DT GT hr1 (pC (pv 2) (pC (Zam (r:=Z0t K) Zan (by rfl) T.len Yr (pC (pv 1) Zaa)) Zaa))) (λ_ _=>rfl)))
  exists let b:=_;let c:=Zhf _ b _;let e:=_;let f:=_;let g:=Zqn (Zhf _ f _) e;let h:=Zar _ g;let i:=Zar (Zgf _ _ h) c;let j:=Zar _ i;let k:=Zar _ j;let l:=Zar (Zgf _ _ k) a;let m:=Zar _ l;let n:=Zar _ m;Zar _ n _ _ _
  obtain⟨vs0,hvs0,hpr0⟩:=id hR
  refine⟨_,rfl,l,rfl,⟨_,SqL.of hvs0⟩,Ziv hR (by omega) (λt u x H' R ht hRx=>⟨_,rfl,t,_,_,_,rfl,rfl,SqT.of ht,rfl,hRx⟩) λlw H1 hlw s1 hw=>?_⟩
  have hp1:=s1 _ _ hp0
  have lwp:lw≠p:=Ym (Zic hp1 ho0 hw)
  have lwH:H lw=none:=hlw
  have wne:rows.map (·.1)≠[]:=by
   have:=g.ne
   intro z
   have z2:=congrArg List.length z
   rw[Ya]at z2
   simp at z2
   rw[z2]at this
   simp at this
  have wpos:0<(rows.map (·.1)).length:=Yx1.mpr wne
  have wl:(rows.map (·.1)).length<=24:=by rw[Ya];exact gle
  let Iv1:Addr->Nat->LV->St->Hp->Prop:=λD i ys σ' H'=>Drawn p H1 H'/\H' D=some (.lst ys)/\∃(bs:LS) (o:OV),ys=bs.map V.str/\bs.length=i/\(∀ x∈bs,x∈rows.map (·.1))/\σ'=[o,some (.ref lw),some (.ref p)]
  refine⟨_,rfl,n,rfl,by omega,by omega,Zdq Zbm (by rw[Za4];exact sL (by omega)) Iv1
   (λD hD=>⟨(Drawn.refl ⟨o0,hp1,ho0⟩).new hD,uS,[],none,rfl,rfl,(λx h=>nomatch h),rfl⟩) (λD i ys σ' H' _ h0=>by obtain⟨_,_,bs,_,e,el,_⟩:=h0;exact⟨trivial,by rw[e,Ya];omega⟩) ?_ ?_⟩
  ·rintro D i v ys σ' H' hD hi ⟨d,hl,bs,o,rfl,rfl,hb,rfl⟩
   obtain⟨hi,rfl⟩:=Za6 hi
   obtain⟨o1,hpp,hoo⟩:=d.pot
   have hw1:=d.keep _ _ lwp hw
   have pD:p≠D:=nNo hp1 hD
   refine⟨_,rfl,_,rfl,_,rfl,lw,_,rfl,.inl (SqL.of hw1),p,_,o1,rfl,hpp,hoo,by rw[Ya];omega,by rw[Ya];omega,λv o2 hv0 hv1 ho2=>?_⟩
   obtain⟨x,hxm,hat⟩:=Zc0 hv0 hv1
   have d2:Drawn p H' (upd H' p o2):=Drawn.upd ho2
   refine⟨lw,_,_,_,rfl,rfl,SqL.of (d2.keep _ _ lwp hw1),hat,d2.keep _ _ (Ym pD) hl,(d.trans d2).sub (o':=.lst []) (q:=D) (λb o hb e=>by rw[Zab hb];exact e) hD pD,uS,bs++[x],_,by rw[Yb1];rfl,by simp,λy hy=>?_,rfl⟩
   rcases Yo.mp hy with z | z
   ·exact hb y z
   ·rw[Yc.mp z];exact hxm
  rintro lb ys σ' H2 hlb ⟨d2,hlb2,bs,o,rfl,hbl,hb,rfl⟩
  rw[Za4]at hbl
  have hbl:bs.length=n:=by simpa using hbl
  have dH2:Drawn p H H2:=⟨λb o hb e=>d2.keep b o hb (s1 _ _ e),d2.pot⟩
  have hw2:=d2.keep _ _ lwp hw
  have lbH:H lb=none:=s1.free hlb
  have pb:p≠lb:=nNo hp0 lbH
  have wb:lw≠lb:=nNo hw hlb
  refine⟨Yv _,λld hld=>?_⟩
  have d3:=dH2.new (o:=.lst []) hld
  have keep3:∀ b o,H2 b=some o->(upd H2 ld (.lst [])) b=some o:=Za9 hld
  have ldH:H ld=none:=by
   cases e:H ld with
   | none=>rfl
   | some u =>
    by_cases z:ld=p
    ·obtain⟨o1,h1,_⟩:=d2.pot
     rw[z,h1]at hld
     cases hld
    ·rw[dH2.keep _ _ z e]at hld
     cases hld
  have pd:p≠ld:=nNo hp0 ldH
  have wd:lw≠ld:=nNo hw2 hld
  have bd:lb≠ld:=nNo hlb2 hld
  obtain⟨o3,hp3,ho3⟩:=d3.pot
  refine⟨_,rfl,_,rfl,_,_,rfl,rfl,p,_,o3,rfl,hp3,ho3,by omega,by omega,λv o4 hv0 hv1 ho4=>⟨v,rfl,by omega,by omega,?_⟩⟩
  have d4:Drawn p H (upd (upd H2 ld (.lst [])) p o4):=d3.trans (Drawn.upd ho4)
  let Hv1:NW:=λi σ H'=>∃(ds:List (LS)) (us:LV) (a b c d e:OV),σ=[some (.ref p),some (.ref l),some (.ref aa),some (.int n),some (.int m),some (.ref lw),some (.ref lb),some (.ref ld),a,b,c,d,e]/\Drawn p H H'/\H' lw=some (.lst ((rows.map (·.1)).map V.str))/\H' lb=some (.lst (bs.map V.str))/\H' ld=some (.lst us)/\Zbh H' ds us/\(∀ d∈ds,Zc2 rows n d)/\ds.Nodup/\ds.length<=i
  refine Zat Zbm Hv1
   ⟨[],[],none,none,none,none,none,rfl,d4,by rw[Zab lwp];exact keep3 _ _ hw2,by rw[Zab (Ym pb)];exact keep3 _ _ hlb2,by rw[Zab (Ym pd)];exact uS,.nil,(λd h=>nomatch h),Yf3,Yd _⟩ (λ_ _ _ _ _=>trivial) ?_ ?_
  ·rintro i v' σ H5 hi ⟨ds,us,a5,b5,c5,e5,f5,rfl,d5,hw5,hb5,hd5,hD5,gc5,nd5,len5⟩
   obtain⟨hi,rfl⟩:=Za6 hi
   obtain⟨o5,hp5,ho5⟩:=d5.pot
   refine⟨Yv _,λlq hlq=>?_⟩
   have d6:=(Drawn.refl (p:=p) ⟨o5,hp5,ho5⟩).new (o:=.lst []) hlq
   obtain⟨o6,hp6,ho6⟩:=d6.pot
   refine⟨_,rfl,p,3,o6,rfl,hp6,ho6,by decide,by decide,λnr o7 hn0 hn1 ho7=>?_⟩
   have pq:p≠lq:=nNo hp5 hlq
   have d7:Drawn p H5 (upd (upd H5 lq (.lst [])) p o7):=d6.trans (Drawn.upd ho7)
   let Iv2:NW:=λj σ H'=>∃(xs:LS) (d e:OV),σ=[some (.ref p),some (.ref l),some (.ref aa),some (.int n),some (.int m),some (.ref lw),some (.ref lb),some (.ref ld),some (.int (0 + (i:Nat))),some (.ref lq),some (.int nr),d,e]/\Drawn p H5 H'/\H' lq=some (.lst (xs.map V.str))/\xs.length=j/\∀ x∈xs,x∈rows.map (·.1)
   refine⟨_,rfl,n,rfl,by omega,by omega,Zat Zbm Iv2
    ⟨[],_,_,rfl,d7,by rw[Zab (Ym pq)];exact uS,rfl,(λx h=>nomatch h)⟩ (λ_ _ _ _ _=>trivial) ?_ ?_⟩
   ·rintro j v2 σ H8 hj ⟨xs,d8,e8,rfl,dr8,hq8,rfl,hx8⟩
    obtain⟨hj,rfl⟩:=Za6 hj
    have hj:xs.length<n:=by omega
    obtain⟨o8,hp8,ho8⟩:=dr8.pot
    have dr08:=d5.trans dr8
    have hw8:=dr8.keep _ _ lwp hw5
    have hb8:=dr8.keep _ _ (Ym pb) hb5
    refine⟨_,rfl,?_⟩
    let Hv2:SW:=λσ' H'=>∃(as:Addr) (fs:LS),σ'=[some (.ref p),some (.ref l),some (.ref aa),some (.int n),some (.int m),some (.ref lw),some (.ref lb),some (.ref ld),some (.int (0 + (i:Nat))),some (.ref lq),some (.int nr),some (.int (0 + (xs.length:Nat))),some (.ref as)]/\H'=H8/\H8 as=some (.lst (fs.map V.str))/\fs≠[]/\fs.length<=24/\∀ x∈fs,x∈rows.map (·.1)
    refine⟨Hv2,?_,?_⟩
    ·refine⟨_,rfl,_,_,rfl,rfl,_,rfl,Zdu (λh=>?_) (λh=>?_)⟩
     ·have hbx:bs[xs.length]?=some (bs[xs.length]'(by omega)):=Yh (by omega)
      generalize bs[xs.length]'(by omega)=x at hbx
      have hxm:=hb x (Yf hbx)
      obtain⟨r,hr',er⟩:=Zd6 hxm
      obtain⟨t,fs,hv,ht,hfs,fl⟩:=hA.val' g.nd hr'
      have xfs:x∈fs:=(hfs x).mpr (by rw[er];exact .refl x)
      have tp:t≠p:=Ym (Zic hp0 ho0 ht)
      have aap:aa≠p:=λz=>by rw[z,hp0]at haa;obtain⟨_,_,q',_⟩:=ho0;rw[q']at haa;cases haa
      have hat:atI (bs.map V.str) (0 + (xs.length:Nat):Int)=some (.str x):=by
       rw[Yy3]
       refine Zb5 ?_
       rw[Yp,hbx]
       rfl
      have kn:∀ y∈fs,y∈rows.map (·.1):=λy hy=>Zq1 g hxm (by rw[<- er];exact(hfs y).mp hy)
      exact⟨_,rfl,_,rfl,_,rfl,lb,_,_,_,rfl,rfl,SqL.of hb8,hat,aa,_,rfl,(by rw[<- hv,er];exact Zgg.k (k:=Sum.inr x) (dr08.keep _ _ aap haa)),t,fs,rfl,rfl,dr08.keep _ _ tp ht,(λz=>by rw[z]at xfs;cases xfs),by omega,kn⟩
     ·exact⟨lw,_,rfl,rfl,hw8,wne,wl,λx h=>h⟩
    ·rintro σ' H' ⟨as,fs,rfl,e8',has,fne,fl,fk⟩
     have e9:=e8'.symm
     subst e9
     have fpos:0<fs.length:=Yx1.mpr fne
     have ap:as≠p:=Ym (Zic hp8 ho8 has)
     refine⟨_,rfl,.inl ⟨rfl,_,SqL.of hq8⟩,_,rfl,_,rfl,_,rfl,as,_,rfl,.inl (SqL.of has),p,_,o8,rfl,hp8,ho8,by rw[Ya];omega,by rw[Ya];omega,λv o9 hv0 hv1 ho9=>?_⟩
     obtain⟨x,hxm,hat⟩:=Zc0 hv0 hv1
     have d9:Drawn p H8 (upd H8 p o9):=Drawn.upd ho9
     have hq9:=d9.keep _ _ (Ym pq) hq8
     refine⟨as,_,_,_,rfl,rfl,SqL.of (d9.keep _ _ ap has),hat,lq,_,_,rfl,rfl,hq9,Za2 (by rw[Ya];omega),xs++[x],_,_,rfl,(dr8.trans d9).sub (o':=.lst []) (q:=lq) (λb o hb e=>by rw[Zab hb];exact e) hlq pq,by rw[uS,Yb1];rfl,by simp,λy hy=>?_⟩
     rcases Yo.mp hy with z | z
     ·exact hx8 y z
     ·rw[Yc.mp z];exact fk x hxm
   ·rintro σ H8 ⟨xs,d8,e8,rfl,dr8,hq8,hxl,hx8⟩
    rw[Za4]at hxl
    have hxl:xs.length=n:=by simpa using hxl
    have ldp:ld≠p:=Ym pd
    have hd8:=dr8.keep _ _ ldp hd5
    have hD8:Zbh H8 ds us:=hD5.drawn (p:=p) (o:=.lst []) λb zs e=>Drawn.tup dr8 hp5 ho5 e
    have okx:∀ y∈xs,Zbf y=true:=λy hy=>Zd5 g y (hx8 y hy)
    have okd:∀ d∈ds,∀ y∈d,Zbf y=true:=λd hd y hy=>Zd5 g y ((gc5 d hd).known y hy)
    have dr08:=d5.trans dr8
    have ldq:ld≠lq:=nNo hd5 hlq
    have lwq:lw≠lq:=nNo hw5 hlq
    have lbq:lb≠lq:=nNo hb5 hlq
    have hi':i<m + 1:=by omega
    refine⟨_,rfl,lq,_,rfl,.inl ⟨SqL.of hq8,λt ht=>?_⟩⟩
    have s9:Zaj H8 (upd H8 t (.tup (xs.map V.str))):=Za9 ht
    refine⟨_,rfl,Zo6 xs,ds.map Zo6,Zjp uS,.list (SqL.of (s9 _ _ hd8)) (Zix (hD8.mono s9)),Zmi 8 okx,Zrb 7 okd,_,rfl,?_⟩
    rw[Zrw]
    refine Zdu (λh=>?_) (λh=>?_)
    ·have hn:xs∉ds:=by simpa using h
     refine⟨_,rfl,.inl ⟨rfl,_,SqL.of (s9 _ _ hd8)⟩,_,rfl,lq,_,rfl,.inl ⟨SqL.of (s9 _ _ hq8),λt2 ht2=>?_⟩⟩
     have s10:=s9.trans (Za9 (o:=.tup (xs.map V.str)) ht2)
     have hd10:=s10 _ _ hd8
     have hul:=hD8.length
     refine⟨ld,_,_,rfl,rfl,hd10,Za2 (by omega),ds++[xs],us++[.ref t2],_,_,_,_,_,rfl,?_,?_,?_,uS,?_,?_,?_,?_⟩
     ·exact(dr08.same s10).sub (o':=.lst []) (q:=ld) (λb o hb e=>by rw[Zab hb];exact e) ldH pd
     ·rw[Zab wd];exact s10 _ _ (dr8.keep _ _ lwp hw5)
     ·rw[Zab bd];exact s10 _ _ (dr8.keep _ _ (Ym pb) hb5)
     ·have tk:∀ b zs,(upd (upd H8 t (.tup (xs.map V.str))) t2 (.tup (xs.map V.str))) b=some (.tup zs)->(upd (upd (upd H8 t (.tup (xs.map V.str))) t2 (.tup (xs.map V.str))) ld (.lst (us++[V.ref t2]))) b=some (.tup zs):=λb zs e=>by
       rw[Zab (λz=>by rw[z,hd10]at e;cases e)];exact e
      exact Yh2 ((hD8.mono s10).drawn (p:=p) (o:=.lst []) tk) ⟨t2,rfl,tk _ _ uS⟩
     ·intro d hd
      rcases Yo.mp hd with z | z
      ·exact gc5 d z
      ·rw[Yc.mp z];exact⟨hxl,hx8⟩
     ·rw[Yc3]
      exact⟨nd5,by simp,λa ha b hb e=>hn (by rw[<- Yc.mp hb,<- e];exact ha)⟩
     ·rw[Yi]
      show ds.length + 1<=i + 1
      omega
    ·exact⟨ds,us,_,_,_,_,_,rfl,dr08.same s9,s9 _ _ (dr8.keep _ _ lwp hw5),s9 _ _ (dr8.keep _ _ (Ym pb) hb5),s9 _ _ hd8,hD8.mono s9,gc5,nd5,by omega⟩
  ·rintro σ H6 ⟨ds,us,a5,b5,c5,e5,f5,rfl,d6,hw6,hb6,hd6,hD6,gc6,nd6,len6⟩
   rw[Za4]at len6
   exact⟨_,rfl,q ld ds us H6 d6 ldH hd6 hD6 ⟨gc6,nd6,by omega⟩ (by omega)⟩
def wB(rows:RS)(ds:List (LS))(j k:Nat):Bool:=Zdv rows (ds.getD j []) (ds.getD k [])
def Zr4(W:Nat->Nat->Bool)(near:LN)(x:Nat):LN:=if near.any (λk=>W k x)=true then near else near.filter (λk=>!W x k)++[x]
def Zxc{W:Nat->Nat->Bool}{near:LN}{x m:Nat}(h:∀ k∈near,k<m)(hx:x<m):(∀ k∈Zr4 W near x,k<m)/\(Zr4 W near x).length<=near.length + 1:=by
 unfold Zr4
 by_cases c:near.any (λk=>W k x)=true
 ·rw[if_pos c];exact⟨h,Yp3 _⟩
 ·rw[if_neg c]
  refine⟨λk hk=>?_,?_⟩
  ·rcases Yo.mp hk with z | z
   ·exact h k (Yj2.mp z).1
   ·rw[Yc.mp z];exact hx
  ·rw[Yi]
   exact Nat.add_le_add (Yw1 _ _) (Yd _)
def Z2d{ds:List (LS)}{j:Nat}(h:j<ds.length):ds[j]?=some (ds.getD j []):=by
 rw[Yw,Yh h]
 rfl
def Zk1(C:Addr):Sp:=λvs H Q _=>∃(p ld ln:Addr) (x n:Nat) (rows:RS) (ds:List (LS)) (us:LV) (near:LN),vs=[.ref p,.ref ld,.ref ln,.int x]/\Zbk C H p rows/\Zdr rows/\H ld=some (.lst us)/\Zbh H ds us/\Zb7 rows n ds/\H ln=some (.lst (near.map Zmm))/\(∀ k∈near,k<ds.length)/\x<ds.length/\near.length<=64 /\
 ∀ l H',Zaj H H'->(l=ln\/H l=none)->H' l=some (.lst ((Zr4 (wB rows ds) near x).map Zmm))->Q (.ref l) H'
def wV(rows:RS)(ds:List (LS))(x:Nat):V->V
 | .int j=>.bl (wB rows ds j.toNat x)
 | _=>.non
def nwV(rows:RS)(ds:List (LS))(x:Nat):V->Bool
 | .int j=>!wB rows ds x j.toNat
 | _=>false
def Z22(rows:RS)(ds:List (LS))(x:Nat)(near:LN):((near.map Zmm).filter λ_=>true).map (wV rows ds x)=(near.map λk=>wB rows ds k x).map V.bl:=by
 rw[Yi2.mpr (λ_ _=>rfl),Yy1,Yy1]
 rfl
def Z1k(rows:RS)(ds:List (LS))(x:Nat)(near:LN):((near.map Zmm).filter (nwV rows ds x)).map (λv=>v)=(near.filter λk=>!wB rows ds x k).map Zmm:=by
 rw[List.map_id',Yz2]
 rfl
def Zvh:(["kept","kinds","deeds","number"]:LS).Nodup:=by rfl'
abbrev nNW:LS:=["kinds","deeds","near","number"]
def Z85:Zak nNW nNW (Zad Zci):=by nofun
def Znx(F:Def K mg "nearest_with" Zci nNW f fd)(any:mg "any"=none)(DW:Def K mg "within" Zhg ["kinds","one","other"] fW fdW)(GW:⋯ 4 fW fdW ["kinds","one","other"] (Zjm C)):
  ⋯ 5 f fd nNW (Zk1 C):=by
 nomatch F.fn.ok Z85
 ·obtain⟨p,ld,ln,x,n,rows,ds,us,near,rfl,_⟩:=h
  rfl
 ·obtain⟨p,ld,ln,x,n,rows,ds,us,near,rfl,kd,g,hld,hD,gd,hln,hk,hx,hn,q⟩:=h
  ac_nf
  refine'⟨_,pS (Zaz (Zcm (Zam (Zy5 rfl) (by rfl) any PyProof.Rows.boot_any (pC ?ea Zaa))) (Zac (Zao (pv 2))) Zai) (Zac (Zao (Za0 Zzy ?eb (Zbj (pC (pv 3) Zaa))))),?_⟩
  case ea=>exact(Zbt ["kept"] ["kinds","deeds","number"] [0,1,3] (λ_=>Za1 (osc:=Zad Zci) (on:=nNW) (by rfl') rfl rfl rfl) (Zbb (pv 2)) (λC s H fp=>Zah (i:=0) Zvh rfl (Or.inl rfl) (Or.inr rfl)) (λC s H fp=>Zb3)
    (λC s H fp=>Zaf DW GW hr (pC (pv 1) (pC (Za3 (r:=Ziu K) Zay (pv 2) (pv 0) (λ_ _=>rfl)) (pC (Za3 (r:=Ziu K) Zay (pv 2) (pv 3) (λ_ _=>rfl)) Zaa)))))
  case eb=>exact(Zbt ["kept"] ["kinds","deeds","number"] [0,1,3] (λ_=>Za1 (osc:=Zad Zci) (on:=nNW) (by rfl') rfl rfl rfl) (Zbb (pv 2)) (λC s H fp=>Zah (i:=0) Zvh rfl (Or.inl rfl) (Or.inr rfl))
    (λC s H fp=>Zek (Zdh (Zcm (Zaf DW GW hr (pC (pv 1) (pC (Za3 (r:=Ziu K) Zay (pv 2) (pv 3) (λ_ _=>rfl)) (pC (Za3 (r:=Ziu K) Zay (pv 2) (pv 0) (λ_ _=>rfl)) Zaa))))))) (λC s H fp=>pv 0))
  exists Zar _ a _ _ _
  have hul:=hD.length
  have at_:∀(H':Hp) (k:Nat),Zaj H H'->k<ds.length->∃ t,atI us ((k:Nat):Int)=some (.ref t)/\H' t=some (.tup ((ds.getD k []).map V.str)):=λH' k s' hk=>by
   have hk':k<us.length:=by omega
   obtain⟨dd,hdd,t,e,ht⟩:=Zau hD (Yh hk')
   refine⟨t,Zb5 ((Yh hk').trans (congrArg some e)),?_⟩
   have e2:ds.getD k []=dd:=by rw[Yw,hdd];rfl
   rw[e2]
   exact s' _ _ ht
  have kn:∀ k,k<ds.length->∀ y∈ds.getD k [],y∈rows.map (·.1):=λk hk=>(gd.call _ (Yf (Z2d hk))).known
  refine⟨_,rfl,ln,rfl,⟨_,SqL.of hln⟩,Zmu (Zav (xs:=near.map Zmm)) (sL (by rw[Ya];omega)) (λ_=>true) (wV rows ds x) (λH' s'=>s'.seq (SqL.of hln)) ?_ ?_ ?_⟩
  ·intro v H' R s' _ hR
   exact hR H' (Zaj.refl _)
  ·intro v H' R s' hv _ hR
   obtain⟨k,hk',rfl⟩:=Ye.mp hv
   obtain⟨t1,a1,h1⟩:=at_ H' k s' (hk k hk')
   obtain⟨t2,a2,h2⟩:=at_ H' x s' hx
   exact⟨_,rfl,_,rfl,_,rfl,ld,_,_,_,rfl,rfl,SqL.of (s' _ _ hld),a1,_,rfl,_,rfl,ld,_,_,_,rfl,rfl,SqL.of (s' _ _ hld),a2,p,t1,t2,rows,_,_,rfl,kd.mono s',g,h1,h2,kn k (hk k hk'),kn x hx,λH'' s''=>hR H'' s''⟩
  ·intro D H1 hD0 s1 hl1
   rw[Z22]at hl1
   have eA:(near.map λk=>wB rows ds k x).any id=near.any λk=>wB rows ds k x:=by rw[List.any_map];rfl
   refine⟨D,_,rfl,SqL.of hl1,_,congrArg V.bl eA,?_⟩
   refine Zdu (λh=>?_) (λh=>?_)
   ·refine⟨_,rfl,q ln H1 s1 (.inl rfl) ?_⟩
    unfold Zr4
    rw[if_pos h]
    exact s1 _ _ hln
   ·refine⟨_,rfl,ln,rfl,⟨_,SqL.of (s1 _ _ hln)⟩,Zmu (Zav (xs:=near.map Zmm)) (sL (by rw[Ya];omega)) (nwV rows ds x) (λv=>v) (λH' s'=>s'.seq (SqL.of (s1 _ _ hln))) ?_ ?_ ?_⟩
    ·intro v H' R s' hv hR
     obtain⟨k,hk',rfl⟩:=Ye.mp hv
     have s2:=s1.trans s'
     obtain⟨t1,a1,h1⟩:=at_ H' k s2 (hk k hk')
     obtain⟨t2,a2,h2⟩:=at_ H' x s2 hx
     exact⟨_,rfl,_,rfl,_,rfl,ld,_,_,_,rfl,rfl,SqL.of (s2 _ _ hld),a2,_,rfl,_,rfl,ld,_,_,_,rfl,rfl,SqL.of (s2 _ _ hld),a1,p,t2,t1,rows,_,_,rfl,kd.mono s2,g,h2,h1,kn x hx,kn k (hk k hk'),λH'' s''=>⟨_,rfl,hR H'' s''⟩⟩
    ·intro v H' R s' hv _ hR
     exact⟨_,rfl,hR H' (Zaj.refl _)⟩
    ·intro D2 H2 hD2 s2 hl2
     rw[Z1k]at hl2
     have fl:(near.filter λk=>!wB rows ds x k).length<=64:=Yx (Yw1 _ _) hn
     refine⟨_,rfl,sL (by show 1<=100000;decide),λl3 hl3=>⟨D2,l3,_,_,rfl,rfl,(Za9 hl3) _ _ hl2,uS,sL (by rw[Ya];show _ + 1<=100000;omega),λl4 hl4=>?_⟩⟩
     have s12:=s1.trans s2
     have s3:=s12.trans (Za9 (o:=.lst [.int x]) hl3)
     refine q l4 _ (s3.trans (Za9 hl4)) (.inr (s3.free hl4)) ?_
     rw[uS]
     unfold Zr4
     rw[if_neg h,Yb1]
     rfl
def Zjw(C B:Addr):Sp:=λvs H Q _=>∃(p k l:Addr) (rows:RS) (n:Nat) (ds:List (LS)) (ms:LN),vs=[.ref p,.ref l]/\Zc6 C B H p k rows n ds/\Zdr rows/\Zb7 rows n ds/\H l=some (.lst (ms.map Zmm))/\(∀ j∈ms,j<ds.length)/\ms.length<=64 /\
 ∀ l' (near:LN) H',Zaj H H'->H l'=none->H' l'=some (.lst (near.map Zmm))->(∀ k∈near,k<ds.length)->Q (.ref l') H'
abbrev nNA:LS:=["board","numbers","kinds","deeds","near","number"]
def Z7p:Zak nNA ["board","numbers"] (Zad Zdk):=by nofun
def Z1o{ms:LN}{i:Nat}{v:V}(h:(ms.map Zmm)[i]?=some v):∃ x,ms[i]?=some x/\v=.int (x:Nat):=by
 obtain⟨x,h1,h2⟩:=Zoc h
 exact⟨x,h1,h2.symm⟩
def Zme(F:Def K mg "nearest_among" Zdk ["board","numbers"] f fd)(list:mg "list"=none)(any:mg "any"=none)(TB:Zo2 K B)(MK:Zw4 K B fK fdK)(MD:Zw5 K B fDe fdDe)(DN:Def K mg "nearest_with" Zci nNW fN fdN)
  (DW:Def K mg "within" Zhg ["kinds","one","other"] fW fdW) (GW:⋯ 4 fW fdW ["kinds","one","other"] (Zjm C)):⋯ 6 f fd ["board","numbers"] (Zjw C B):=by
 have GK:⋯ 1 fK fdK ["self"] (Zl0 C B):=Zn4 MK.fn TB
 have GD:⋯ 1 fDe fdDe ["self"] (Zl1 C B):=Zn5 MD.fn TB list
 have GN:⋯ 5 fN fdN nNW (Zk1 C):=Znx DN any DW GW
 nomatch F.fn.ok Z7p
 ·obtain⟨p,k,l,rows,n,ds,ms,rfl,_⟩:=h
  rfl
 ·obtain⟨p,k,l,rows,n,ds,ms,rfl,bd,g,gd,hl,hms,hml,q⟩:=h
  obtain⟨dx,ts,us0,h1,h2,h3,h4⟩:=bd.ex
  have nd:=Z7p.nd
  have hr1:Zcb 1 _:=hr.mono (by decide)
  ac_nf
  refine⟨_,(pS (sE 2 nd (Zdb (pv 0) TB.cl MK.me GK hr1 MK.b .nil Zdn))
   (pS (sE 3 nd (Zdb (pv 0) TB.cl MD.me GD hr1 MD.b .nil Zdn))
   (pS (sE 4 nd (Zbj Zaa))
   (pS (Zbc Yk rfl (Zbb (pv 1)) (gE 5 nd) (Zac (sE 4 nd (Zaf DN GN hr (pC (pv 2) (pC (pv 3) (pC (pv 4) (pC (pv 5) Zaa))))))))
   (Zac (Zao (pv 4))))))),?_⟩
  exists let b:=_;let c:=Zar (Zgf _ _ b) a;let e:=Zar _ c;let f:=Zar _ e;Zar _ f _ _ _
  refine⟨_,rfl,p,dx,_,rfl,h1,Zn9 _ _ _,p,k,rows,n,ds,rfl,bd,?_⟩
  refine⟨_,rfl,p,dx,_,rfl,h1,Zoa _ _ _,p,k,rows,n,ds,rfl,bd,λld us hld hD=>?_⟩
  have s1:Zaj H (upd H ld (.lst us)):=Za9 hld
  refine⟨Yv _,λl0 hl0=>?_⟩
  have s2:Zaj H (upd (upd H ld (.lst us)) l0 (.lst [])):=s1.trans (Za9 hl0)
  have hld2:(upd (upd H ld (.lst us)) l0 (.lst [])) ld=some (.lst us):=(Za9 hl0) _ _ uS
  have hl0H:H l0=none:=s1.free hl0
  let Iv1:NW:=λi σ H'=>∃(ln:Addr) (near:LN) (x:OV),σ=[some (.ref p),some (.ref l),some (.ref k),some (.ref ld),some (.ref ln),x]/\Zaj H H'/\H' ld=some (.lst us)/\H ln=none/\H' ln=some (.lst (near.map Zmm))/\(∀ k∈near,k<ds.length)/\near.length<=i
  refine⟨_,rfl,l,rfl,⟨_,SqL.of (s2 _ _ hl)⟩,Zat (Zav (xs:=ms.map Zmm)) Iv1
   ⟨l0,[],none,rfl,s2,hld2,hl0H,uS,(λ_ h=>nomatch h),Yd _⟩ (λi σ H' _ h0=>by obtain⟨_,_,_,_,s',_⟩:=h0;exact SqL.of (s' _ _ hl)) ?_ ?_⟩
  ·rintro i v σ H' hi ⟨ln,near,x0,rfl,s',hld',hlnH,hln,nk,nl⟩
   obtain⟨x,hx,rfl⟩:=Z1o hi
   have il:i<ms.length:=(Yn.mp hx).1
   obtain⟨sk,sl⟩:=Zxc (W:=wB rows ds) nk (hms x (Yf hx))
   refine⟨_,rfl,_,rfl,_,rfl,_,rfl,k,ld,ln,x,n,rows,ds,us,near,rfl,h2.mono s',g,hld',hD.mono s',gd,hln,nk,hms x (Yf hx),by omega,λl' H2 s'' hor hl'=>?_⟩
   refine⟨l',_,_,rfl,s'.trans s'',s'' _ _ hld',?_,hl',sk,by omega⟩
   rcases hor with z | z
   ·rw[z];exact hlnH
   ·exact s'.free z
  ·rintro σ H' ⟨ln,near,x0,rfl,s',hld',hlnH,hln,nk,nl⟩
   exact⟨_,rfl,q ln near H' s' hlnH hln nk⟩
def Znb(C B:Addr):Sp:=λvs H Q _=>∃(p k t:Addr) (rows:RS) (n:Nat) (ds:List (LS)) (xs:LS),vs=[.ref p,.ref t]/\Zc6 C B H p k rows n ds/\Zdr rows/\Zb7 rows n ds/\n<=4/\H t=some (.tup (xs.map V.str))/\Zc2 rows n xs /\
 ∀ l (near:LN) H',H l=none->Zaj H H'->H' l=some (.lst (near.map Zmm))->(∀ k∈near,k<ds.length)->Q (.ref l) H'
def Z15{rows:RS}{ds:List (LS)}{xs:LS}:∀ k∈Z16 rows ds xs,k<ds.length:=λk hk=>Yl2.mp (Yj2.mp hk).1
def Zyv(rows:RS)(ds:List (LS))(xs:LS):(Z16 rows ds xs).length<=ds.length:=by
 unfold Z16
 refine Yx (Yw1 _ _) ?_
 rw[List.length_range]
 exact Yd _
def Z84:Zak ["board","call"] ["board","call"] (Zad Zh8):=by nofun
def Zse(F:Def K mg "nearest" Zh8 ["board","call"] f fd)(DA:Def K mg "nearest_among" Zdk ["board","numbers"] fA fdA)(GA:⋯ 6 fA fdA ["board","numbers"] (Zjw C B))(DF:Def K mg "fitting" Zg3 ["board","call"] fF fdF)(GF:⋯ 5 fF fdF ["board","call"] (Znd C B)):
  ⋯ 7 f fd ["board","call"] (Znb C B):=by
 nomatch F.fn.ok Z84
 ·obtain⟨p,k,t,rows,n,ds,xs,rfl,_⟩:=h
  rfl
 ·obtain⟨p,k,t,rows,n,ds,xs,rfl,bd,g,gd,hn,ht,gc,q⟩:=h
  have hr5:Zcb 5 _:=hr.mono (by decide)
  have few:=gd.few
  have fl:=Zyv rows ds xs
  ac_nf
  refine⟨_,Zac (Zao (Zaf DA GA hr (pC (pv 0) (pC (Zaf DF GF hr5 (pC (pv 0) (pC (pv 1) Zaa))) Zaa)))),?_⟩
  refine⟨_,rfl,_,rfl,_,rfl,p,k,t,rows,n,ds,xs,rfl,bd,g,gd,hn,ht,gc,λl H1 hl s1 hl1=>?_⟩
  exact⟨p,k,l,rows,n,ds,Z16 rows ds xs,rfl,bd.mono s1,g,gd,hl1,Z15,by omega,λl' near H2 s2 hl' h2 nk=>q l' near H2 (s1.free hl') (s1.trans s2) h2 nk⟩
def Z0i:LN->LV
 | []=>[.str "none"]
 | [k]=>[.str "deed",Zmm k]
 | k :: j :: _=>[.str "clash",Zmm k,Zmm j]
def Zqq:Sp:=λvs H Q _=>∃(l:Addr) (near:LN),vs=[.ref l]/\H l=some (.lst (near.map Zmm))/\∀ t H',H t=none->Zaj H H'->H' t=some (.tup (Z0i near))->Q (.ref t) H'
def Z56:Zak ["near"] ["near"] (Zad Zh7):=by nofun
def Zsa(F:Def K mg "told_of" Zh7 ["near"] f fd)(len:mg "len"=none):⋯ 1 f fd ["near"] Zqq:=by
 nomatch F.fn.ok Z56
 ·obtain⟨l,near,rfl,_⟩:=h
  rfl
 ·obtain⟨l,near,rfl,hl,q⟩:=h
  ac_nf
  refine⟨_,pS (Zaz (Zdh (Zjq (pv 0) (λ_=>rfl))) (Zac (Zao (Zbi (pC Zca Zaa)))) Zai)
   (pS (Zaz (Zal Zds (Zam Zan (by rfl) len Yr (pC (pv 0) Zaa)) Zae (Zaq _)) (Zac (Zao (Zbi (pC Zca (pC (Za3 Zay (pv 0) Zae (λ_ _=>rfl)) Zaa))))) Zai)
   (Zac (Zao (Zbi (pC Zca (pC (Za3 Zay (pv 0) Zae (λ_ _=>rfl)) (pC (Za3 Zay (pv 0) Zae (λ_ _=>rfl)) Zaa))))))),?_⟩
  exists let b:=_;let c:=Zar (Zhf _ b _) a;Zar _ c _ _ _
  cases near with
  | nil=>exact⟨_,rfl,false,.inl ⟨[],SqL.of hl,rfl⟩,Zfe ⟨sL (by show 1<=100000;decide),λt ht=>q t _ ht (Za9 ht) uS⟩⟩
  | cons k r =>
   refine⟨_,rfl,true,.inl ⟨_,SqL.of hl,rfl⟩,Zcu ?_⟩
   refine⟨_,rfl,l,_,rfl,.inl (SqL.of hl),rfl,_,rfl,?_⟩
   cases r with
   | nil =>
    refine Zdu (λ_=>?_) (λh=>absurd (by rfl) h)
    exact⟨_,rfl,l,_,_,_,rfl,rfl,SqL.of hl,rfl,sL (by show 2<=100000;decide),λt ht=>q t _ ht (Za9 ht) uS⟩
   | cons j r =>
    refine Zdu (λh=>?_) (λ_=>?_)
    ·have h:=Je h
     injection h with h
     simp at h
     omega
    ·exact⟨_,rfl,l,_,_,_,rfl,rfl,SqL.of hl,Zb5 (j:=0) rfl,_,rfl,l,_,_,_,rfl,rfl,SqL.of hl,Zb5 (j:=1) rfl,sL (by show 3<=100000;decide),λt ht=>q t _ ht (Za9 ht) uS⟩
def Zzc(C B:Addr):Sp:=λvs H Q _=>∃(p k t:Addr) (rows:RS) (n:Nat) (ds:List (LS)) (xs:LS),vs=[.ref p,.ref t]/\Zc6 C B H p k rows n ds/\Zdr rows/\Zb7 rows n ds/\n<=4/\H t=some (.tup (xs.map V.str))/\Zc2 rows n xs /\
 ∀ l (near:LN) H',H l=none->Zaj H H'->H' l=some (.tup (Z0i near))->(∀ k∈near,k<ds.length)->Q (.ref l) H'
def Z83:Zak ["board","call"] ["board","call"] (Zad Zq0):=by nofun
def Z09(F:Def K mg "told" Zq0 ["board","call"] f fd)(DN:Def K mg "nearest" Zh8 ["board","call"] fN fdN)(GN:⋯ 7 fN fdN ["board","call"] (Znb C B))(DO:Def K mg "told_of" Zh7 ["near"] fO fdO)(len:mg "len"=none):
  ⋯ 8 f fd ["board","call"] (Zzc C B):=by
 have GO:⋯ 1 fO fdO ["near"] Zqq:=Zsa DO len
 nomatch F.fn.ok Z83
 ·obtain⟨p,k,t,rows,n,ds,xs,rfl,_⟩:=h
  rfl
 ·obtain⟨p,k,t,rows,n,ds,xs,rfl,bd,g,gd,hn,ht,gc,q⟩:=h
  have hr1:Zcb 1 _:=hr.mono (by decide)
  ac_nf
  refine⟨_,Zac (Zao (Zaf DO GO hr1 (pC (Zaf DN GN hr (pC (pv 0) (pC (pv 1) Zaa))) Zaa))),?_⟩
  refine⟨_,rfl,_,rfl,p,k,t,rows,n,ds,xs,rfl,bd,g,gd,hn,ht,gc,λl near H1 hl s1 hl1 nk=>?_⟩
  exact⟨l,_,rfl,hl1,λt' H2 ht' s2 h2=>q t' near H2 (s1.free ht') (s1.trans s2) h2 nk⟩
def Zgb(cs:List (LS))(ws:LS):List (LS):=cs.flatMap λc=>ws.map λx=>c++[x]
def Zbp(wss:List (LS)):List (LS):=wss.foldl Zgb [[]]
def Zd0(wss:List (LS))(ws:LS):Zbp (wss++[ws])=Zgb (Zbp wss) ws:=by
 unfold Zbp
 rw[List.foldl_append]
 rfl
def Zey(cs:List (LS))(ws:LS):(Zgb cs ws).length=cs.length * ws.length:=by
 unfold Zgb
 induction cs with
 | nil=>simp
 | cons c r ih =>
  rw[List.flatMap_cons,Yi,ih,Ya,Yf1,Nat.add_mul,Nat.one_mul,Nat.add_comm]
def Zpx(cs:List (LS))(ws:LS){i:Nat}{c:LS}(h:cs[i]?=some c):Zgb (cs.take (i + 1)) ws=Zgb (cs.take i) ws++ws.map λx=>c++[x]:=by
 unfold Zgb
 rw[Yt,h,Ye4]
 simp
theorem Zrm:∀(wss cs:List (LS)) (acc:List (LS)) (m:Nat),(∀ c∈acc,c.length=m)->∀ c∈wss.foldl Zgb acc,c.length=m + wss.length
 | [],_,acc,m,h,c,hc=>h c hc
 | ws :: r,cs,acc,m,h,c,hc=>by
  have:=Zrm r cs (Zgb acc ws) (m + 1) (λd hd=>by
   obtain⟨e,he,hd⟩:=List.mem_flatMap.mp hd
   obtain⟨x,_,rfl⟩:=Ye.mp hd
   rw[Yi,h e he]
   rfl) c hc
  rw[this,Yf1]
  omega
def Zq4{wss:List (LS)}{c:LS}(h:c∈Zbp wss):c.length=wss.length:=by
 have:=Zrm wss [] [[]] 0 (λd hd=>by rw[Yc.mp hd];rfl) c h
 omega
theorem Zrl:∀(wss:List (LS)) (acc:List (LS)) (S:Str->Prop),(∀ ws∈wss,∀ x∈ws,S x)->(∀ c∈acc,∀ x∈c,S x)->∀ c∈wss.foldl Zgb acc,∀ x∈c,S x
 | [],acc,S,_,h,c,hc=>h c hc
 | ws :: r,acc,S,hw,h,c,hc=>Zrl r (Zgb acc ws) S (λws' hws'=>hw ws' (by simp[hws'])) (λd hd=>by
   obtain⟨e,he,hd⟩:=List.mem_flatMap.mp hd
   obtain⟨y,hy,rfl⟩:=Ye.mp hd
   intro x hx
   rcases Yo.mp hx with z | z
   ·exact h e he x z
   ·rw[Yc.mp z];exact hw ws (by simp) y hy) c hc
def Zbh.append{H:Hp}{ds es:List (LS)}{us vs:LV}(h:Zbh H ds us)(k:Zbh H es vs):Zbh H (ds++es) (us++vs):=by
 unfold Zbh at *
 induction h with
 | nil=>exact k
 | cons r t ih=>exact .cons r ih
def Zbh.len{H:Hp}{ds:List (LS)}{us:LV}(h:Zbh H ds us):ds.length=us.length:=Yz h
def Z5d(c:LS)(x v:V)(H:Hp):Prop:=∃(t:Addr) (z:Str),x=.str z/\v=.ref t/\H t=some (.tup ((c++[z]).map V.str))
theorem Zru{H:Hp}{c:LS}:∀ {ws:LS}{ys:LV},Paired (λx v=>Z5d c x v H) (ws.map V.str) ys->Zbh H (ws.map λx=>c++[x]) ys
 | [],_,h=>by cases h;exact .nil
 | x :: r,_,h=>by
  cases h with
  | cons a b =>
   obtain⟨t,z,e1,e2,e3⟩:=a
   injection e1 with e1
   subst e1
   exact .cons ⟨t,e2,e3⟩ (Zru b)
def Z6k:(["thing","start"]:LS).Nodup:=by rfl'
def Zkw(H:Hp)(wss:List (LS))(vs:LV):Prop:=Paired (λ(ws:LS) v=>∃ r,v=V.ref r/\H r=some (.lst (ws.map V.str))) wss vs
def Zkw.mono{H H':Hp}{wss:List (LS)}{vs:LV}(h:Zkw H wss vs)(s:Zaj H H'):Zkw H' wss vs:=Paired.mapP h λ_ _ ⟨t,e,x⟩=>⟨t,e,s _ _ x⟩
def Zna:Sp:=λvs H Q _=>∃(l:Addr) (wss:List (LS)) (us:LV),vs=[.ref l]/\H l=some (.lst us)/\Zkw H wss us/\(∀ i,(Zbp (wss.take i)).length<=10000)/\(∀ ws∈wss,ws.length<=1000)/\wss.length<=100 /\
 ∀(lf:Addr) (ys:LV) (H':Hp),H lf=none->Zaj H H'->H' lf=some (.lst ys)->Zbh H' (Zbp wss) ys->Q (.ref lf) H'
abbrev nOE:LS:=["rows","found","row","longer","start"]
def Z7m:Zak nOE ["rows"] (Zad Zdj):=by nofun
def Zpp(F:Def K mg "one_of_each" Zdj ["rows"] f fd):⋯ 1 f fd ["rows"] Zna:=by
 nomatch F.fn.ok Z7m
 ·obtain⟨l,wss,us,rfl,_⟩:=h
  rfl
 ·obtain⟨l,wss,us,rfl,hl,hR,hb,hw,hn,q⟩:=h
  have nd:=Z7m.nd
  have hul:wss.length=us.length:=Yz hR
  ac_nf
  refine'⟨_,(pS (sE 1 nd (Zbj (pC (Zbi Zaa) Zaa)))
   (pS (Zbc Yk rfl (Zbb (pv 0)) (gE 2 nd)
    (pS (sE 3 nd (Zbj Zaa))
   (pS (Zbc Yk rfl (Zbb (pv 1)) (Zah (i:=4) nd rfl (Or.inr rfl)) (Zac (Zax (Zf0 Yu Ya3 Yb3 Zil (pv 3) (pC ?ea Zaa)))))
   (Zac (sE 1 nd (pv 3))))))
   (Zac (Zao (pv 1))))),?_⟩
  case ea=>exact(Zbt ["thing"] ["start"] [4] (λ_=>Za1 (osc:=Zad Zdj) (on:=nOE) (by rfl') rfl rfl rfl) (Zbb (pv 2)) (λC s H fp=>Zah (i:=0) Z6k rfl (Or.inl rfl) (Or.inr rfl)) (λC s H fp=>Zb3)
    (λC s H fp=>Za0 (r:=Z0w K) Zmd (pv 1) (Zbi (pC (pv 0) Zaa))))
  exists let b:=_;let c:=_;let e:=Zar (Zgf _ _ c) b;let f:=Zar _ e;let g:=Zar (Zgf _ _ f) a;Zar _ g _ _ _
  refine⟨Yv _,λt0 ht0=>⟨sL (by show 1<=100000;decide),λl0 hl0=>?_⟩⟩
  have s0:Zaj H (upd (upd H t0 (.tup [])) l0 (.lst [.ref t0])):=(Za9 ht0).trans (Za9 hl0)
  have l0H:H l0=none:=(Za9 (o:=.tup []) ht0).free hl0
  let Iv1:NW:=λi σ H'=>∃(lf:Addr) (ys:LV) (x1 x2 x3:OV),σ=[some (.ref l),some (.ref lf),x1,x2,x3]/\Zaj H H'/\H lf=none/\H' lf=some (.lst ys)/\Zbh H' (Zbp (wss.take i)) ys
  refine⟨_,rfl,l,rfl,⟨_,SqL.of (s0 _ _ hl)⟩,Zat (Zav (xs:=us)) Iv1
   ⟨l0,[.ref t0],none,none,none,rfl,s0,l0H,uS,.cons ⟨t0,rfl,(Za9 hl0) _ _ uS⟩ .nil⟩ (λi σ H' _ h0=>by obtain⟨_,_,_,_,_,_,s',_⟩:=h0;exact SqL.of (s' _ _ hl)) ?_ ?_⟩
  ·rintro i v σ H' hi ⟨lf,ys,x1,x2,x3,rfl,s',hlfH,hlf,hD⟩
   obtain⟨ws,hws,rw',rfl,hrw⟩:=Zau hR hi
   have hb1:=hb (i + 1)
   rw[Yt,hws]at hb1
   have hb1:(Zbp (wss.take i++[ws])).length<=10000:=hb1
   rw[Zd0]at hb1
   have hwl:=hw ws (Yf hws)
   have hyl:=hD.len
   refine⟨Yv _,λln hln=>?_⟩
   have s1:Zaj H' (upd H' ln (.lst [])):=Za9 hln
   have lnH:H ln=none:=s'.free hln
   have lfn:lf≠ln:=nNo hlf hln
   have rwn:rw'≠ln:=nNo (s' _ _ hrw) hln
   let Iv2:NW:=λj σ H2=>∃(zs:LV) (x3:OV),σ=[some (.ref l),some (.ref lf),some (.ref rw'),some (.ref ln),x3]/\Zaj H' H2/\H2 ln=some (.lst zs)/\Zbh H2 (Zgb ((Zbp (wss.take i)).take j) ws) zs
   refine⟨_,rfl,lf,rfl,⟨_,SqL.of (s1 _ _ hlf)⟩,Zat (Zav (xs:=ys)) Iv2
    ⟨[],x3,rfl,s1,uS,by rw[Ym1];exact .nil⟩ (λj σ H2 _ h0=>by obtain⟨_,_,_,s2,_⟩:=h0;exact SqL.of (s2 _ _ hlf)) ?_ ?_⟩
   ·rintro j v σ H2 hj ⟨zs,x3',rfl,s2,hlnz,hZ⟩
    obtain⟨c,hc,tc,rfl,htc⟩:=Zau hD hj
    have s02:=s'.trans s2
    have hrw2:=s02 _ _ hrw
    refine⟨_,rfl,.inl ⟨rfl,_,SqL.of hlnz⟩,_,rfl,rw',rfl,⟨_,SqL.of hrw2⟩,Zgt (Zav (xs:=ws.map V.str)) (sL (by rw[Ya];omega)) (λ_=>true) (λD x v H=>Z5d c x v H/\∀ t,v=.ref t->t≠D) (λD x v Ha Hb k h=>?_) (λH' s'=>s'.seq (SqL.of hrw2)) ?_ ?_ ?_⟩
    ·obtain⟨⟨t,z,e1,e2,e3⟩,ne⟩:=h
     exact⟨⟨t,z,e1,e2,k _ _ (ne t e2) e3⟩,ne⟩
    ·intro x H3 R _ _ hR'
     exact hR' H3 (Zaj.refl _)
    ·intro D x H3 R s3 hDx hDn hx _ hR'
     obtain⟨z,hz,rfl⟩:=Ye.mp hx
     obtain⟨ys',hys'⟩:=hDx
     have htc3:=s3 _ _ (s2 _ _ htc)
     refine⟨_,rfl,_,rfl,sL (by show 1<=100000;decide),λt1 ht1=>?_⟩
     have s4:Zaj H3 (upd H3 t1 (.tup [.str z])):=Za9 ht1
     have t1D:t1≠D:=Ym (nNo hys' ht1)
     have cl:c.length<=1000:=by
      have:=Zq4 (Yf hc)
      rw[Yd1]at this
      omega
     refine⟨tc,t1,_,_,rfl,rfl,SqT.of (s4 _ _ htc3),SqT.of uS,sL (by rw[Ya];show c.length + 1<=100000;omega),λe=>?_,(λ_ e=>nomatch e),λ_ _ t2 ht2=>?_⟩
     ·have e0:c=[]:=by cases c with | nil=>rfl | cons a r=>cases e
      subst e0
      exact hR' _ _ s4 ⟨⟨t1,z,rfl,rfl,uS⟩,λt e=>by injection e with e;rw[<- e];exact t1D⟩
     ·have t2D:t2≠D:=Ym (nNo (s4 _ _ hys') ht2)
      exact hR' _ _ (s4.trans (Za9 ht2)) ⟨⟨t2,z,rfl,rfl,by rw[uS,Yb1];rfl⟩,λt e=>by injection e with e;rw[<- e];exact t2D⟩
    ·intro D H3 vs3 hD3 s3 hl3 hp3
     rw[Yi2.mpr (λ_ _=>rfl)]at hp3
     have hC:=Zru (Paired.mapP hp3 λ_ _ z=>z.1)
     have hlnz3:=s3 _ _ hlnz
     have zl:=hZ.len
     have vl:=hC.len
     rw[Ya]at vl
     have hj':j<(Zbp (wss.take i)).length:=(Yn.mp hc).1
     have lz:(Zgb ((Zbp (wss.take i)).take j) ws).length + ws.length<=10000:=by
      rw[Zey]at hb1 ⊢
      rw[Yd1,Yh4 (by omega)]
      refine Yx ?_ hb1
      rw[<- Nat.succ_mul]
      exact Nat.mul_le_mul_right _ hj'
     refine⟨ln,D,_,_,rfl,rfl,hlnz3,hl3,sL (by omega),zs++vs3,_,rfl,λb o e=>by rw[Zab (nNo e hln)];exact s3 _ _ (s2 _ _ e),uS,?_⟩
     rw[Zpx _ _ hc]
     have kp:∀ b o,b≠ln->H3 b=some o->(upd H3 ln (.lst (zs++vs3))) b=some o:=λb o hb e=>by rw[Zab hb];exact e
     have dk:∀ {ds:List (LS)} {us:LV},Zbh H3 ds us->Zbh (upd H3 ln (.lst (zs++vs3))) ds us:=λh=>Paired.mapP h λ_ _ ⟨t,e,x⟩=>⟨t,e,kp _ _ (λz=>by rw[z,hlnz3]at x;cases x) x⟩
     exact(dk (hZ.mono s3)).append (dk hC)
   ·rintro σ H2 ⟨zs,x3',rfl,s2,hlnz,hZ⟩
    have el:(Zbp (wss.take i)).take ys.length=Zbp (wss.take i):=by rw[<- hyl,Ye1]
    rw[el]at hZ
    refine⟨_,rfl,ln,zs,_,_,_,rfl,s'.trans s2,lnH,hlnz,?_⟩
    rw[Yt,hws]
    show Zbh H2 (Zbp (wss.take i++[ws])) zs
    rw[Zd0]
    exact hZ
  ·rintro σ H' ⟨lf,ys,x1,x2,x3,rfl,s',hlfH,hlf,hD⟩
   rw[<- hul,Ye1]at hD
   exact⟨_,rfl,q lf ys H' hlfH s' hlf hD⟩
def Zyc{K:Fg}{C:Addr}{Hx:Hp}{xb dx l:Addr}{rows:RS}{R:Hp->Prop}{E:XK}(nx:Hx xb=none)(ndx:Hx dx=none)(hR:Zeg Hx l rows)(g:Zdr rows)(h:∀ H',Zaj Hx H'->Zbk C H' xb rows->R H'):
  Ztz K C [.ref xb,.ref l] (upd (upd Hx dx (.own xb)) xb (.ins C dx [])) (λv H3=>v=.non/\R H3) E:=by
 have s34:Zaj Hx (upd (upd Hx dx (.own xb)) xb (.ins C dx [])):=λb o e=>by
  have e1:(upd Hx dx (.own xb)) b=some o:=by rw[Zab (nNo e ndx)];exact e
  rw[Zab (nNo e nx)];exact e1
 exact⟨xb,dx,l,rows,rfl,uS,(Zeg.g (Zbn hR s34)),g,λH4 kd keep=>⟨rfl,h H4 (λb o e=>keep b o (nNo e nx) (s34 _ _ e)) kd⟩⟩
def Zyd{K:Fg}{C B:Addr}{Hx:Hp}{xb yb dy lz:Addr}{n:Nat}{rows:RS}{ds:List (LS)}{us:LV}{R:Hp->Prop}{E:XK}(ny:Hx yb=none)(ndy:Hx dy=none)(kd:Zbk C Hx xb rows)(g:Zdr rows)(hz:Hx lz=some (.lst us)\/Hx lz=some (.tup us))(hD:Zbh Hx ds us)(gd:Zb7 rows n ds)(n1:1<=n)(n4:n<=4)(h:∀ H',Zaj Hx H'->Zc6 C B H' yb xb rows n ds->R H'):
  Zpg K C B [.ref yb,.ref xb,.int n,.ref lz] (upd (upd Hx dy (.own yb)) yb (.ins B dy [])) (λv H3=>v=.non/\R H3) E:=by
 have s34:Zaj Hx (upd (upd Hx dy (.own yb)) yb (.ins B dy [])):=λb o e=>by
  have e1:(upd Hx dy (.own yb)) b=some o:=by rw[Zab (nNo e ndy)];exact e
  rw[Zab (nNo e ny)];exact e1
 exact⟨yb,dy,xb,lz,n,rows,ds,us,rfl,uS,kd.mono s34,g,hz.elim (λe=>.inl (SqL.of (s34 _ _ e))) (λe=>.inr (s34 _ _ e)),hD.mono s34,gd,n1,n4,λH5 bd keep5=>⟨rfl,h H5 (λb o e=>keep5 b o (nNo e ny) (s34 _ _ e)) bd⟩⟩
abbrev Nam:=Str×Nat×List (LS×Str)
def PrV(H:Hp)(p:LS×Str)(v:V):Prop:=∃ t tc:Addr,v=V.ref t/\H t=some (.tup [.ref tc,.str p.2])/\H tc=some (.tup (p.1.map V.str))
def Zrx(H:Hp)(ps:List (LS×Str))(vs:LV):Prop:=Paired (PrV H) ps vs
def Zrx.mono{H H':Hp}{ps:List (LS×Str)}{vs:LV}(h:Zrx H ps vs)(k:∀ b xs,H b=some (.tup xs)->H' b=some (.tup xs)):Zrx H' ps vs:=Paired.mapP h λ_ _ ⟨t,tc,e,h1,h2⟩=>⟨t,tc,e,k _ _ h1,k _ _ h2⟩
def Zbs{H H':Hp}(s:Zaj H H'):∀ b xs,H b=some (.tup xs)->H' b=some (.tup xs):=λ_ _ e=>s _ _ e
def Zw2(K:Fg)(H:Hp)(n:Nam)(v:V):Prop:=∃(t tp:Addr) (b:Bool) (vs:LV),v=V.ref t/\H t=some (.tup [.str n.1,.int n.2.1,.ref tp])/\SqB K b H tp vs/\Zrx H n.2.2 vs
theorem Zw2.mono{K:Fg}{H H':Hp}{n:Nam}{v:V}(h:Zw2 K H n v)(s:Zaj H H'):Zw2 K H' n v:=by
 obtain⟨t,tp,b,vs,e,h1,h2,h3⟩:=h
 exact⟨t,tp,b,vs,e,s _ _ h1,h2.mono s,h3.mono (Zbs s)⟩
structure Zjt(rows:RS)(n:Nam):Prop where
 word:Zbf n.1=true
 one:1<=n.2.1
 four:n.2.1<=4
 deeds:Zb7 rows n.2.1 (n.2.2.map (·.1))
 made:∀ p∈n.2.2,p.2∈rows.map (·.1)
structure Zbo(rows:RS)(ns:List Nam):Prop where
 few:ns.length<=8
 each:∀ n∈ns,Zjt rows n
 nd:(ns.map (·.1)).Nodup
def Z9x:¬ (("book":Str)="made_of"):=by rfl'
def Z9w:¬ (("book":Str)="board_of"):=by rfl'
def Z9v:¬ (("board_of":Str)="made_of"):=by rfl'
def Zhu(k bo mo:Addr):List (Str×V):=Zhl "made_of" (.ref mo) (Zhl "board_of" (.ref bo) (Zhl "book" (.ref k) []))
def Z11(k bo mo:Addr):(Zhu k bo mo).lookup ("book":Str)=some (.ref k):=by
 unfold Zhu
 rw[Zas,if_neg Z9x,Zas,if_neg Z9w,Zas,if_pos rfl]
def Zp3(k bo mo:Addr):(Zhu k bo mo).lookup ("board_of":Str)=some (.ref bo):=by
 unfold Zhu
 rw[Zas,if_neg Z9v,Zas,if_pos rfl]
def Z10(k bo mo:Addr):(Zhu k bo mo).lookup ("made_of":Str)=some (.ref mo):=by
 unfold Zhu
 rw[Zas,if_pos rfl]
def Ziq(k bo mo:Addr){m:Str}(h1:¬ m="made_of")(h2:¬ m="board_of")(h3:¬ m="book"):(Zhu k bo mo).lookup m=none:=by
 unfold Zhu
 rw[Zas,if_neg h1,Zas,if_neg h2,Zas,if_neg h3]
 rfl
def Zcp(R:Nam->V->Prop)(ns:List Nam)(kvs:KL):Prop:=Paired (λ(n:Nam) (p:Key×V)=>p.1=Sum.inr n.1/\R n p.2) ns kvs
def Zcp.imp{R S:Nam->V->Prop}{ns:List Nam}{kvs:KL}(h:Zcp R ns kvs)(f:∀ n v,R n v->S n v):Zcp S ns kvs:=Paired.mapP h λ_ _ z=>⟨z.1,f _ _ z.2⟩
theorem Zcp.keys{R:Nam->V->Prop}:∀ {ns:List Nam}{kvs:KL},Zcp R ns kvs->kvs.map (·.1)=ns.map λn=>(Sum.inr n.1:Key)
 | _,_,.nil=>rfl
 | _,_,.cons r t=>by rw[Yy,Yy,r.1,Zcp.keys t]
theorem Zcp.val{R:Nam->V->Prop}:∀ {ns:List Nam}{kvs:KL},Zcp R ns kvs->(ns.map (·.1)).Nodup->∀ {n:Nam},n∈ns->∃ v,Zex kvs (Sum.inr n.1)=some v/\R n v
 | _,_,.nil,_,n,h=>nomatch h
 | q :: rs,p :: ps,.cons z t,nd,n,h=>by
  have nd':(q.1 :: rs.map (·.1)).Nodup:=nd
  obtain⟨n1,n2⟩:=Ys1.mp nd'
  obtain⟨z1,z2⟩:=z
  rcases Yg1.mp h with e | h
  ·subst e
   exact⟨p.2,by rw[Zcc z1],z2⟩
  ·have ne:¬ p.1=(Sum.inr n.1:Key):=λe=>n1 (by
    rw[z1]at e
    have e':q.1=n.1:=by injection e
    rw[e']
    exact Ye.mpr ⟨n,h,rfl⟩)
   obtain⟨v,h1,h2⟩:=Zcp.val t n2 h
   exact⟨v,by rw[Zcd ne];exact h1,h2⟩
def Zcp.not{R:Nam->V->Prop}{ns:List Nam}{kvs:KL}(h:Zcp R ns kvs){x:Str}(hx:x∉ns.map (·.1)):Zex kvs (Sum.inr x)=none:=Zb1 λz=>hx (by
 rw[h.keys]at z
 obtain⟨n,hn,e⟩:=Ye.mp z
 have e':n.1=x:=by injection e
 exact Ye.mpr ⟨n,hn,e'⟩)
def Zcp.some{R:Nam->V->Prop}{ns:List Nam}{kvs:KL}(h:Zcp R ns kvs){x:Str}(hx:x∈ns.map (·.1)):(Zex kvs (Sum.inr x)).isSome=true:=Ze1 (by
 rw[h.keys]
 obtain⟨n,hn,e⟩:=Ye.mp hx
 exact Ye.mpr ⟨n,hn,by rw[e]⟩)
def BoR(C B:Addr)(H:Hp)(k:Addr)(rows:RS):Nam->V->Prop:=λn v=>∃ y,v=.ref y/\Zc6 C B H y k rows n.2.1 (n.2.2.map (·.1))
def MaR(Z:Addr->Prop)(H:Hp):Nam->V->Prop:=λn v=>∃ l,v=.ref l/\H l=some (.lst ((n.2.2.map (·.2)).map V.str))/\¬ Z l
structure Zqh(Z:Addr->Prop)(C B D:Addr)(H:Hp)(p k:Addr)(rows:RS)(ns:List Nam):Prop where
 ex:∃(dx bo mo:Addr) (o:Obj) (bvs mvs:KL),H p=some (.ins D dx (Zhu k bo mo))/\Zbk C H k rows/\H bo=some (.frz o (.dK bvs))/\Zcp (BoR C B H k rows) ns bvs/\H mo=some (.dK mvs)/\Zcp (MaR Z H) ns mvs
abbrev Zen:=Zqh λ_=>False
def Zqh.at_{Z:Addr->Prop}{C B D:Addr}{H:Hp}{p k:Addr}{rows:RS}{ns:List Nam}(h:Zqh Z C B D H p k rows ns):Zen C B D H p k rows ns:=by
 obtain⟨dx,bo,mo,o,bvs,mvs,h1,h2,h3,h4,h5,h6⟩:=h.ex
 exact⟨dx,bo,mo,o,bvs,mvs,h1,h2,h3,h4,h5,h6.imp λn v ⟨l,e,b,_⟩=>⟨l,e,b,id⟩⟩
theorem Zqh.mono{Z:Addr->Prop}{C B D:Addr}{H H':Hp}{p k:Addr}{rows:RS}{ns:List Nam}(h:Zqh Z C B D H p k rows ns)(s:Zaj H H'):Zqh Z C B D H' p k rows ns:=by
 obtain⟨dx,bo,mo,o,bvs,mvs,h1,h2,h3,h4,h5,h6⟩:=h.ex
 exact⟨dx,bo,mo,o,bvs,mvs,s _ _ h1,h2.mono s,s _ _ h3,h4.imp λn v ⟨y,e,b⟩=>⟨y,e,b.mono s⟩,s _ _ h5,h6.imp λn v ⟨l,e,b,z⟩=>⟨l,e,s _ _ b,z⟩⟩
def Zs6{C B:Addr}{H H':Hp}{p k q:Addr}{o:HO}{rows:RS}{n:Nat}{ds:List (LS)}(h:Zc6 C B H p k rows n ds)(hq:H q=some o)(no:∀ o' u,o≠.frz o' u)(nt:∀ xs,o≠.tup xs)(ni:∀ c d f,o≠.ins c d f)(s:∀ b o,b≠q->H b=some o->H' b=some o):Zc6 C B H' p k rows n ds:=by
 obtain⟨dx,t,us,h1,h2,h3,h4⟩:=h.ex
 have ne:∀ {b u},H b=some u->o≠u->b≠q:=λ{b u} e n z=>by rw[z,hq]at e;exact n (Yq e)
 have nk:k≠q:=by
  obtain⟨_,_,_,_,_,_,_,e,_⟩:=h2.ex
  exact ne e (ni _ _ _)
 exact⟨dx,t,us,s _ _ (ne h1 (ni _ _ _)) h1,Zhq h2 hq s nk no nt,s _ _ (ne h3 (nt _)) h3,Paired.mapP h4 λ_ _ ⟨t',e,x⟩=>⟨t',e,s _ _ (ne x (nt _)) x⟩⟩
def fsP(H:Hp):V->V
 | .ref t=>match H t with
  | some (.tup [x,_])=>x
  | _=>.non
 | _=>.non
def snP(H:Hp):V->V
 | .ref t=>match H t with
  | some (.tup [_,x])=>x
  | _=>.non
 | _=>.non
def Zrj{H:Hp}{t:Addr}{x y:V}(h:H t=some (.tup [x,y])):fsP H (.ref t)=x:=by show(match H t with | some (.tup [x,_])=>x | _=>.non)=x;rw[h]
def Zni{H:Hp}{t:Addr}{x y:V}(h:H t=some (.tup [x,y])):snP H (.ref t)=y:=by show(match H t with | some (.tup [_,x])=>x | _=>.non)=y;rw[h]
def Zus{H:Hp}{p:LS×Str}{v:V}(h:PrV H p v):∃ tc,fsP H v=.ref tc/\H tc=some (.tup (p.1.map V.str)):=by
 obtain⟨t,tc,rfl,h1,h2⟩:=h
 exact⟨tc,Zrj h1,h2⟩
def Zur{H:Hp}{p:LS×Str}{v:V}(h:PrV H p v):snP H v=.str p.2:=by
 obtain⟨t,tc,rfl,h1,h2⟩:=h
 exact Zni h1
theorem Znt{H:Hp}:∀ {ps:List (LS×Str)}{vs:LV},Zrx H ps vs->Zbh H (ps.map (·.1)) (vs.map (fsP H))
 | _,_,.nil=>.nil
 | _,_,.cons h t=>by
  obtain⟨tc,e,h2⟩:=Zus h
  exact .cons ⟨tc,e,h2⟩ (Znt t)
theorem Zns{H:Hp}:∀ {ps:List (LS×Str)}{vs:LV},Zrx H ps vs->vs.map (snP H)=(ps.map (·.2)).map V.str
 | _,_,.nil=>rfl
 | _,_,.cons h t=>by rw[Yy,Yy,Yy,Zur h,Zns t]
def Zop{K:Fg}{J:It}{vs:LV}{Ok:Hp->Prop}(R:Zqf J vs Ok)(i:Nat)(f:V->V){σ:St}{Q:VK}{H1:Hp}{ps:List (LS×Str)}(hz:vs.length<=1000)(hp:Zrx H1 ps vs)(hf:∀ v,[some (fsP H1 v),some (snP H1 v)][i]?=some (some (f v)))(hok:∀ H,Zaj H1 H->Ok H)
  (hd:∀ D H',H1 D=none->Zaj H1 H'->H' D=some (.lst (vs.map f))->Q (.ref D) H'):compBody 2 [] (g2 K 0 1) Zxa (Z5e i) σ Q J H1:=by
 refine Zoq R (sL (by omega)) (λ_=>true) (λ_ x v _=>v=f x) (fsP H1) (snP H1) (λ_ _ _ _ _ _ z=>z) hok (λx hx=>?_) ?_ ?_ ?_
 ·obtain⟨j,hj⟩:=List.getElem?_of_mem hx
  obtain⟨p,_,t,tc,rfl,h1,_⟩:=Zau hp hj
  exact⟨t,rfl,by rw[Zrj h1,Zni h1];exact h1⟩
 ·intro x H' R' _ _ hR'
  exact hR' H' (Zaj.refl _)
 ·intro D x H' R' _ _ _ _ _ hR'
  exact⟨f x,hf x,hR' _ H' (Zaj.refl _) rfl⟩
 ·intro D H' ys hD s hl hq
  rw[Yi2.mpr (λ_ _=>rfl)]at hq
  rw[Zg7 hq]at hl
  exact hd D H' hD s hl
def Zi7(C:Addr):Sp:=λvs H Q _=>∃(p l:Addr) (rows:RS) (xs:LS),vs=[.ref p,.ref l]/\Zbk C H p rows/\Zdr rows/\H l=some (.lst (xs.map V.str))/\(∀ x∈xs,x∈rows.map (·.1))/\Q .non H
def Zw1(K:Fg)(H:Hp)(l:Addr)(ns:List Nam):Prop:=∃(b:Bool) (vs:LV),SqB K b H l vs/\Paired (Zw2 K H) ns vs
def Zpd(K:Fg)(C B D:Addr):Sp:=λvs H Q _=>∃(p dx k l:Addr) (rows:RS) (ns:List Nam),vs=[.ref p,.ref k,.ref l]/\H p=some (.ins D dx [])/\Zbk C H k rows/\Zdr rows/\Zw1 K H l ns/\Zbo rows ns /\
 ∀ H',Zqh (λb=>∃ o,H b=some o) C B D H' p k rows ns->(∀ b o,b≠p->H b=some o->H' b=some o)->Q .non H'
structure Zi5(K:Fg)(D:Addr):Prop where
 cl:Cls K D
 nB:Zfz K D "book"
 nO:Zfz K D "board_of"
 nM:Zfz K D "made_of"
def Z4p:(["call","made"]:LS).Nodup:=by rfl'
abbrev nCM:LS:=["kinds","makes","made"]
def Z74:Zak nCM ["kinds","makes"] (Zad Zep):=by nofun
def Zu8(F:Def K mg "check_makes" Zep ["kinds","makes"] f fd)(TC:Zmz K C)(MH:Zry K C fH fdH):⋯ 2 f fd ["kinds","makes"] (Zi7 C):=by
 have GH:⋯ 1 fH fdH ["self","word"] (Zt0 C):=Zra MH.fn TC
 nomatch F.fn.ok Z74
 ·obtain⟨p,l,rows,xs,rfl,_⟩:=h
  rfl
 ·obtain⟨p,l,rows,xs,rfl,kd,g,hl,kn,q⟩:=h
  have nd:=Z74.nd
  have hr1:Zcb 1 _:=hr.mono (by decide)
  obtain⟨dx,d,a,o,oa,kvs,avs,h1,_⟩:=kd.ex
  ac_nf
  refine⟨_,(Zac (Zbc Yk rfl (Zbb (pv 1)) (gE 2 nd) (Zac (Zaz (Zdh (Zcm (Zcs (pv 0) TC.cl MH.me GH hr1 MH.b .nil Zdn (pC (pv 2) Zaa)))) Zaw Zai)))),?_⟩
  exists Zgf _ _ a _ _ _
  let Iv1:NW:=λi σ H'=>∃ x,σ=[some (.ref p),some (.ref l),x]/\H'=H
  refine⟨_,rfl,l,rfl,⟨_,SqL.of hl⟩,Zat (Zav (xs:=xs.map V.str)) Iv1 ⟨none,rfl,rfl⟩ (λi σ H' _ ⟨_,_,e⟩=>by rw[e];exact SqL.of hl) ?_ ?_⟩
  ·rintro i v σ H' hi ⟨x,rfl,e⟩
   have e2:=e.symm
   subst e2
   rw[Yp]at hi
   cases hx:xs[i]? with
   | none=>rw[hx]at hi;cases hi
   | some y =>
    rw[hx]at hi
    cases hi
    refine⟨_,rfl,p,dx,_,rfl,h1,Zre _ _,_,rfl,p,rows,y,rfl,kd,g,?_⟩
    rw[Jb (kn y (Yf hx))]
    exact⟨_,rfl,Zcu ⟨_,rfl,rfl⟩⟩
  ·rintro σ H' ⟨x,rfl,e⟩
   rw[e]
   exact q
def Z0h{x:Str}(h:Zbf x=true):x.length<=1000:=by have:=Zhe h;omega
def Zya{kvs:KL}:∀(o':Obj) (u:HO),HO.dK kvs≠.frz o' u:=λ_ _ z=>by cases z
def Zx8{kvs:KL}:∀ xs:LV,HO.dK kvs≠.tup xs:=λ_ z=>by cases z
def Zx9{kvs:KL}:∀(c d:Addr) (f:List (Str×V)),HO.dK kvs≠.ins c d f:=λ_ _ _ z=>by cases z
def Zjs{C B:Addr}{H:Hp}{q k:Addr}{kvs:KL}{o:HO}{rows:RS}{n:Nam}{v:V}(h:BoR C B H k rows n v)(hq:H q=some (.dK kvs)):BoR C B (upd H q o) k rows n v:=by
 obtain⟨y,e,b⟩:=h
 exact⟨y,e,Zs6 b hq Zya Zx8 Zx9 λb o hb e=>by rw[Zab hb];exact e⟩
def Zjr{Z:Addr->Prop}{H:Hp}{q:Addr}{kvs:KL}{o:HO}{n:Nam}{v:V}(h:MaR Z H n v)(hq:H q=some (.dK kvs)):MaR Z (upd H q o) n v:=by
 obtain⟨l,e,b,z⟩:=h
 exact⟨l,e,by rw[Zab (λz=>by rw[z,hq]at b;cases b)];exact b,z⟩
def Zqc{C B:Addr}{H H':Hp}{k:Addr}{rows:RS}{n:Nam}{v:V}(h:BoR C B H k rows n v)(s:Zaj H H'):BoR C B H' k rows n v:=let⟨y,e,b⟩:=h;⟨y,e,b.mono s⟩
def Zpw{Z:Addr->Prop}{H H':Hp}{n:Nam}{v:V}(h:MaR Z H n v)(s:Zaj H H'):MaR Z H' n v:=let⟨l,e,b,z⟩:=h;⟨l,e,s _ _ b,z⟩
def Zko{R:Nam->V->Prop}{ns:List Nam}{kvs:KL}{n:Nam}{v:V}(h:Zcp R ns kvs)(hn:n.1∉ns.map (·.1))(hv:R n v):Zcp R (ns++[n]) (Zdt kvs (Sum.inr n.1) v):=by
 rw[Zfr _ (h.not hn)]
 exact Yh2 h ⟨rfl,hv⟩
abbrev nKI:LS:=["self","kinds","names","board_of","made_of","word","places","deeds"]
abbrev pKI:LS:=["self","kinds","names"]
def Z7r:Zak nKI pKI (Zad Zcr):=by nofun
def Zx1(F:Fun K "__init__" "Book.__init__" Zcr f fd)(T:Z2m mg)(most:∃ t,mg "MOST_NAMES"=some (.int 8 t))(TD:Zi5 K D)(hDC:D≠C)(hDB:D≠B)
  (DW:Def K mg "is_word" Ze3 ["text"] fW fdW) (MB:Mk K B fBI) (mgB:mg "Board"=some (.ref B)) (bB:Zeh K fdBI nBI []) (GB:⋯ 4 fBI fdBI nBI (Zpg K C B))
  (DM:Def K mg "check_makes" Zep ["kinds","makes"] fM fdM) (GM:⋯ 2 fM fdM ["kinds","makes"] (Zi7 C)):
  ⋯ 6 f fd pKI (Zpd K C B D):=by
 have GW:⋯ 1 fW fdW ["text"] Zlx:=Zn1 DW T
 nomatch F.ok Z7r
 ·obtain⟨p,dx,k,l,rows,ns,rfl,_⟩:=h
  rfl
 ·obtain⟨p,dx,k,l,rows,ns,rfl,hp,kd,g,⟨b,vs,hl,hN⟩,gn,q⟩:=h
  have nd:=Z7r.nd
  have hu:=Zf1 hr
  have hr1:Zcb 1 _:=hr.mono (by decide)
  have hr2:Zcb 2 _:=hr.mono (by decide)
  obtain⟨t1,hM8⟩:=most
  have hvl:=hN.length
  have few:=gn.few
  ac_nf
  refine'⟨_,(pS (Zaz (Zal Zih (Zam Zdc (by rfl) T.len Yr (pC (pv 2) Zaa)) (Zc4 (v:=.int 8) (by rfl) hM8 ⟨_,rfl⟩) (Zaq _)) Zaw Zai)
   (pS (sE 3 nd Zeb)
   (pS (sE 4 nd Zeb)
   (pS (Zbc Yk rfl (Zid (pv 2)) (Zgx rfl (gC (gE 5 nd) (gC (gE 6 nd) (gC (gE 7 nd) Zem))))
    (pS (Zaz (Zdh (Zcm (Zaf DW GW hr1 (pC (pv 5) Zaa)))) Zaw Zai)
   (pS (Zaz (Zf9 (Zjb hu (pv 5) (pv 3))) Zaw Zai)
   (pS (Zel hu (pv 3) (pv 5) (Zpl MB GB hr rfl mgB bB .nil Zdn (pC (pv 1) (pC (pv 6) (pC ?eC Zaa)))) rfl)
   (pS (Zel hu (pv 4) (pv 5) ?eM rfl)
   (Zac (Zax (Zaf DM GM hr2 (pC (pv 1) (pC (Zd1 hu (pv 4) (pv 5) (λ_ _=>rfl)) Zaa))))))))))
   (Zl8 (pS (Zja (pv 0) (pv 1) rfl)
   (pS (Zja (pv 0) (pv 3) rfl)
   (Zac (Zja (pv 0) (pv 4) rfl))))))))),?_⟩
  case eC=>exact Zbt ["call","made"] [] [] (λ_=>Za1 (osc:=Zad Zcr) (on:=nKI) (by rfl') rfl rfl rfl) (Zid (pv 7)) (λC s H fp=>Zq5 (K:=K) (i:=0) (j:=1) rfl rfl Z4p rfl rfl (Or.inl rfl) (Or.inl rfl) (Or.inr rfl) (Or.inr rfl)) (λC s H fp=>Zb3) (λC s H fp=>pv 0)
  case eM=>exact Zbt ["call","made"] [] [] (λ_=>Za1 (osc:=Zad Zcr) (on:=nKI) (by rfl') rfl rfl rfl) (Zid (pv 7)) (λC s H fp=>Zq5 (K:=K) (i:=0) (j:=1) rfl rfl Z4p rfl rfl (Or.inl rfl) (Or.inl rfl) (Or.inr rfl) (Or.inr rfl)) (λC s H fp=>Zb3) (λC s H fp=>pv 1)
  exists let b:=_;let c:=Zar _ b;let e:=Zar _ c;let f:=Zar _ e;let g:=Zar _ f;let h:=Zar (Zgf _ _ g) a;let i:=Zar _ h;let j:=Zar _ i;Zar _ j _ _ _
  refine⟨_,rfl,_,_,rfl,Zmo hl,_,_,rfl,rfl,_,rfl,?_⟩
  rw[show decide ((8:Int)<(vs.length:Int))=false from Jc (by omega)]
  refine Zcu ?_
  intro bo hbo
  have s1:Zaj H (upd H bo (.dK [])):=Za9 hbo
  intro mo hmo
  have s2:Zaj (upd H bo (.dK [])) (upd (upd H bo (.dK [])) mo (.dK [])):=Za9 hmo
  have hmoH:H mo=none:=s1.free hmo
  have bm:bo≠mo:=λz=>by rw[<- z,uS]at hmo;cases hmo
  let Iv1:NW:=λi σ H'=>∃(bvs mvs:KL) (x y z:OV),σ=[some (.ref p),some (.ref k),some (.ref l),some (.ref bo),some (.ref mo),x,y,z]/\Zaj H H'/\H' bo=some (.dK bvs)/\H' mo=some (.dK mvs)/\Zcp (BoR C B H' k rows) (ns.take i) bvs/\Zcp (MaR (λb=>∃ o,H b=some o) H') (ns.take i) mvs
  refine⟨_,rfl,b,l,vs,rfl,(hl.mono s1).mono s2,Zat Zew Iv1
   ⟨[],[],none,none,none,rfl,s1.trans s2,s2 _ _ uS,uS,by rw[Ym1];exact .nil,by rw[Ym1];exact .nil⟩ (λi σ H' _ h0=>by obtain⟨_,_,_,_,_,_,s,_⟩:=h0;exact hl.mono s) ?_ ?_⟩
  ·rintro i v σ H' hi ⟨bvs,mvs,x,y,z,rfl,s3,hb3,hm3,hB,hM⟩
   obtain⟨nm,hnm,t,tp,bb,ws,rfl,ht,htp,hps⟩:=Zau hN hi
   have hmem:nm∈ns:=Yf hnm
   have gnm:=gn.each nm hmem
   have hnew:nm.1∉(ns.take i).map (·.1):=by
    rw[List.map_take]
    exact Zn6 gn.nd (by rw[Yp,hnm];rfl)
   have ht3:=s3 _ _ ht
   refine⟨t,_,rfl,SqT.of ht3,rfl,_,_,rfl,_,_,rfl,_,_,rfl,rfl,?_⟩
   refine⟨_,rfl,nm.1,rfl,Z0h gnm.word,λH4 s4=>⟨_,rfl,?_⟩⟩
   rw[gnm.word]
   refine Zcu ?_
   have hb4:=s4 _ _ hb3
   have hm4:=s4 _ _ hm3
   have hB4:=hB.imp λn v h=>Zqc h s4
   have hM4:=hM.imp λn v h=>Zpw h s4
   have s04:=s3.trans s4
   refine⟨_,rfl,_,rfl,bo,_,rfl,Zgg.k (k:=Sum.inr nm.1) hb4,_,rfl,?_⟩
   rw[hB4.not hnew]
   refine Zcu ?_
   have htp4:=htp.mono s04
   have hps4:Zrx H4 nm.2.2 ws:=hps.mono (Zbs s04)
   have wl:ws.length<=64:=by
    have h1:=Yz hps
    have h2:=gnm.deeds.few
    rw[Ya]at h2
    omega
   refine⟨_,rfl,_,rfl,_,rfl,bb,tp,ws,rfl,htp4,Zop Zew 0 (fsP H4) (by omega) hps4 (λ_=>rfl) (λH' s'=>htp4.mono s') λlc H5 hlc s45 hl5=>?_⟩
   intro yb dyb ny ndy ney
   refine Zyd ny ndy ((kd.mono s04).mono s45) g (.inl hl5) ((Znt hps4).mono s45) gnm.deeds gnm.one gnm.four λH6 s56 bd6=>?_
   have s46:=s45.trans s56
   have s06:=s04.trans s46
   have hb6:=s46 _ _ hb4
   have hm6:=s46 _ _ hm4
   have bl:bvs.length=i:=by
    have h1:=Yz hB
    rw[Yd1]at h1
    have h2:=(Yn.mp hnm).1
    omega
   have ml:mvs.length=i:=by
    have h1:=Yz hM
    rw[Yd1]at h1
    have h2:=(Yn.mp hnm).1
    omega
   have il:i<8:=by
    have h2:=(Yn.mp hnm).1
    omega
   refine⟨_,rfl,_,rfl,bo,_,rfl,Zm3.k (k:=Sum.inr nm.1) hb6 (Za2 (by omega)),?_⟩
   have hB7:Zcp (BoR C B (upd H6 bo (.dK (Zdt bvs (Sum.inr nm.1) (.ref yb)))) k rows) (ns.take i++[nm]) (Zdt bvs (Sum.inr nm.1) (.ref yb)):=
    Zko (hB4.imp λn v h=>Zjs (Zqc h s46) hb6) hnew (Zjs ⟨yb,rfl,bd6⟩ hb6)
   have hM7:Zcp (MaR (λb=>∃ o,H b=some o) (upd H6 bo (.dK (Zdt bvs (Sum.inr nm.1) (.ref yb))))) (ns.take i) mvs:=hM4.imp λn v h=>Zjr (Zpw h s46) hb6
   have s07:Zaj H (upd H6 bo (.dK (Zdt bvs (Sum.inr nm.1) (.ref yb)))):=λb o e=>by rw[Zab (nNo e hbo)];exact s06 _ _ e
   have hb7:(upd H6 bo (.dK (Zdt bvs (Sum.inr nm.1) (.ref yb)))) bo=some (.dK (Zdt bvs (Sum.inr nm.1) (.ref yb))):=uS
   have hm7:(upd H6 bo (.dK (Zdt bvs (Sum.inr nm.1) (.ref yb)))) mo=some (.dK mvs):=by rw[Zab (Ym bm)];exact hm6
   generalize upd H6 bo (.dK (Zdt bvs (Sum.inr nm.1) (.ref yb)))=H7 at hB7 hM7 s07 hb7 hm7
   generalize Zdt bvs (Sum.inr nm.1) (.ref yb)=bvs' at hB7 hb7
   have htp7:=htp.mono s07
   have hps7:Zrx H7 nm.2.2 ws:=hps.mono (Zbs s07)
   refine⟨_,rfl,bb,tp,ws,rfl,htp7,Zop Zew 1 (snP H7) (by omega) hps7 (λ_=>rfl) (λH' s'=>htp7.mono s') λlm H8 hlm s78 hl8=>?_⟩
   rw[Zns hps7]at hl8
   have hm8:=s78 _ _ hm7
   refine⟨_,rfl,_,rfl,mo,_,rfl,Zm3.k (k:=Sum.inr nm.1) hm8 (Za2 (by omega)),?_⟩
   have lmo:lm≠mo:=λz=>by rw[z,hm7]at hlm;cases hlm
   have hM9:Zcp (MaR (λb=>∃ o,H b=some o) (upd H8 mo (.dK (Zdt mvs (Sum.inr nm.1) (.ref lm))))) (ns.take i++[nm]) (Zdt mvs (Sum.inr nm.1) (.ref lm)):=
    Zko (hM7.imp λn v h=>Zjr (Zpw h s78) hm8) hnew (Zjr ⟨lm,rfl,hl8,λ⟨_,z⟩=>by rw[s07.free hlm]at z;cases z⟩ hm8)
   have hB9:Zcp (BoR C B (upd H8 mo (.dK (Zdt mvs (Sum.inr nm.1) (.ref lm)))) k rows) (ns.take i++[nm]) bvs':=hB7.imp λn v h=>Zjs (Zqc h s78) hm8
   have s09:Zaj H (upd H8 mo (.dK (Zdt mvs (Sum.inr nm.1) (.ref lm)))):=λb o e=>by rw[Zab (nNo e hmoH)];exact s78 _ _ (s07 _ _ e)
   have hm9:(upd H8 mo (.dK (Zdt mvs (Sum.inr nm.1) (.ref lm)))) mo=some (.dK (Zdt mvs (Sum.inr nm.1) (.ref lm))):=uS
   have hb9:(upd H8 mo (.dK (Zdt mvs (Sum.inr nm.1) (.ref lm)))) bo=some (.dK bvs'):=by rw[Zab bm];exact s78 _ _ hb7
   have hl9:(upd H8 mo (.dK (Zdt mvs (Sum.inr nm.1) (.ref lm)))) lm=some (.lst ((nm.2.2.map (·.2)).map V.str)):=by rw[Zab lmo];exact hl8
   have hv9:Zex (Zdt mvs (Sum.inr nm.1) (.ref lm)) (Sum.inr nm.1)=some (.ref lm):=by rw[Zlq,if_pos rfl]
   generalize upd H8 mo (.dK (Zdt mvs (Sum.inr nm.1) (.ref lm)))=H9 at hM9 hB9 s09 hm9 hb9 hl9
   generalize Zdt mvs (Sum.inr nm.1) (.ref lm)=mvs' at hM9 hm9 hv9
   refine⟨_,rfl,_,rfl,_,rfl,mo,_,rfl,(by rw[<- hv9];exact Zgg.k (k:=Sum.inr nm.1) hm9),k,lm,rows,nm.2.2.map (·.2),rfl,kd.mono s09,g,hl9,λx hx=>?_,?_⟩
   ·obtain⟨pr,hpr,e⟩:=Ye.mp hx
    rw[<- e];exact gnm.made pr hpr
   refine⟨bvs',mvs',_,_,_,rfl,s09,hb9,hm9,?_,?_⟩
   ·rw[Yt,hnm];exact hB9
   ·rw[Yt,hnm];exact hM9
  ·rintro σ H3 ⟨bvs,mvs,x,y,z,rfl,s3,hb3,hm3,hB,hM⟩
   rw[<- hvl,Ye1]at hB hM
   refine⟨bo,bvs,hb3,λo=>?_⟩
   have s4:Zaj H (upd H3 bo (.frz o (.dK bvs))):=λb u e=>by rw[Zab (nNo e hbo)];exact s3 _ _ e
   have hB4:=hB.imp λn v h=>Zjs (o:=.frz o (.dK bvs)) h hb3
   have hM4:=hM.imp λn v h=>Zjr (o:=.frz o (.dK bvs)) h hb3
   have hb4:(upd H3 bo (.frz o (.dK bvs))) bo=some (.frz o (.dK bvs)):=uS
   have hm4:(upd H3 bo (.frz o (.dK bvs))) mo=some (.dK mvs):=by rw[Zab (Ym bm)];exact hm3
   generalize upd H3 bo (.frz o (.dK bvs))=H4 at s4 hB4 hM4 hb4 hm4
   have hp4:=s4 _ _ hp
   have pbo:bo≠p:=λz=>by rw[z,hp]at hbo;cases hbo
   have pmo:mo≠p:=λz=>by rw[z,hp]at hmoH;cases hmoH
   refine⟨_,rfl,_,rfl,p,D,dx,[],rfl,hp4,TD.cl,TD.nB,(by show 0<1000;decide),?_⟩
   refine⟨_,rfl,_,rfl,p,D,dx,_,rfl,uS,TD.cl,TD.nO,(by show 1<1000;decide),?_⟩
   rw[Zgz]
   refine⟨_,rfl,_,rfl,p,D,dx,_,rfl,uS,TD.cl,TD.nM,(by show 2<1000;decide),?_⟩
   rw[Zgz]
   have keep:∀ b o,b≠p->H b=some o->(upd H4 p (.ins D dx (Zhu k bo mo))) b=some o:=λb o hb e=>by rw[Zab hb];exact s4 _ _ e
   have kp:∀ b o,b≠p->H4 b=some o->(upd H4 p (.ins D dx (Zhu k bo mo))) b=some o:=λb o hb e=>by rw[Zab hb];exact e
   have nkp:k≠p:=by
    intro z
    obtain⟨dx',d,a,o,oa,kvs,avs,h1,_⟩:=kd.ex
    rw[z,hp]at h1
    injection h1 with h1
    injection h1 with h1
    exact hDC h1
   refine q _ ⟨dx,bo,mo,o,bvs,mvs,uS,Zhq kd hp keep nkp (λ_ _ z=>by cases z) (λ_ z=>by cases z),kp _ _ pbo hb4,hB4.imp λn v h=>?_,kp _ _ pmo hm4,hM4.imp λn v h=>?_⟩ keep
   ·obtain⟨y,e,bd⟩:=h
    obtain⟨dxb,t,us,h1,h2,h3,h4⟩:=bd.ex
    have yp:y≠p:=by
     intro z
     rw[z,hp4]at h1
     injection h1 with h1
     injection h1 with h1
     exact hDB h1
    exact⟨y,e,dxb,t,us,kp _ _ yp h1,Zhq h2 hp4 kp nkp (λ_ _ z=>by cases z) (λ_ z=>by cases z),kp _ _ (λz=>by rw[z,hp4]at h3;cases h3) h3,Paired.mapP h4 λd v ⟨t',e,x⟩=>⟨t',e,kp _ _ (λz=>by rw[z,hp4]at x;cases x) x⟩⟩
   ·obtain⟨l',e,x,z⟩:=h
    exact⟨l',e,kp _ _ (λz=>by rw[z,hp4]at x;cases x) x,z⟩
def Zij(k bo mo:Addr):(Zhu k bo mo).lookup ("kinds":Str)=none:=Ziq k bo mo (by rfl') (by rfl') (by rfl')
def Zvf(k bo mo:Addr):(Zhu k bo mo).lookup ("words":Str)=none:=Ziq k bo mo (by rfl') (by rfl') (by rfl')
def Zn8(k bo mo:Addr):(Zhu k bo mo).lookup ("board":Str)=none:=Ziq k bo mo (by rfl') (by rfl') (by rfl')
def Zvg(k bo mo:Addr):(Zhu k bo mo).lookup ("makes":Str)=none:=Ziq k bo mo (by rfl') (by rfl') (by rfl')
def Zn7(k bo mo:Addr):(Zhu k bo mo).lookup ("check_name":Str)=none:=Ziq k bo mo (by rfl') (by rfl') (by rfl')
abbrev Zqg(K:Fg)(D f:Addr)(fd:FuncData):Prop:=Zo7 K D "check_name" "Book.check_name" Zcy ["self","word"] f fd
abbrev Zw3(K:Fg)(D f:Addr)(fd:FuncData):Prop:=Zo7 K D "board" "Book.board" Zfq ["self","word"] f fd
abbrev Z2u(K:Fg)(D f:Addr)(fd:FuncData):Prop:=Zo7 K D "makes" "Book.makes" Zfo ["self","word"] f fd
abbrev Z2t(K:Fg)(D f:Addr)(fd:FuncData):Prop:=Zo7 K D "words" "Book.words" Zfn ["self"] f fd
abbrev Zm0(K:Fg)(D f:Addr)(fd:FuncData):Prop:=Zo7 K D "kinds" "Book.kinds" Zfp ["self"] f fd
structure Z67(P:Program)(w:World)(K:Fg)(mg:Str->OU)(base:Heap)(x:Str)(C:Addr)(a:Str)(sp:Sp)(f:Addr)(fd:FuncData):Prop where
 m:mg x=some (.ref C)
 ex:ExC K C
 ini:W.findIn K (.ref C) "__init__"=some (some (.ref f))
 ty:W.typeIn K (.ref f)=some (.type "function")
 b:Zeh K fd ["self",a] []
 go:⋯ 1 f fd ["self",a] sp
def okS:V->Hp->Prop:=λv _=>∃ x:Str,v=.str x/\Zwz x
def Zlv(C B D:Addr):Sp:=λvs H Q _=>∃(p k:Addr) (rows:RS) (ns:List Nam) (x:Str),vs=[.ref p,.str x]/\Zen C B D H p k rows ns/\x∈ns.map (·.1)/\Q .non H
def Zh4(C B D:Addr):Sp:=λvs H Q _=>∃(p k:Addr) (rows:RS) (ns:List Nam),vs=[.ref p]/\Zen C B D H p k rows ns/\Q (.ref k) H
def Zqu(C B D:Addr):Sp:=λvs H Q _=>∃(p k:Addr) (rows:RS) (ns:List Nam),vs=[.ref p]/\Zen C B D H p k rows ns/\∀ l,H l=none->Q (.ref l) (upd H l (.lst ((ns.map (·.1)).map V.str)))
def Zlw(C B D:Addr):Sp:=λvs H Q _=>∃(p k:Addr) (rows:RS) (ns:List Nam) (n:Nam),vs=[.ref p,.str n.1]/\Zen C B D H p k rows ns/\(ns.map (·.1)).Nodup/\n∈ns/\∀ y,Zc6 C B H y k rows n.2.1 (n.2.2.map (·.1))->Q (.ref y) H
def Zqv(C B D:Addr):Sp:=λvs H Q _=>∃(p k:Addr) (rows:RS) (ns:List Nam) (n:Nam),vs=[.ref p,.str n.1]/\Zen C B D H p k rows ns/\(ns.map (·.1)).Nodup/\n∈ns/\∀ l,H l=none->Q (.ref l) (upd H l (.lst ((n.2.2.map (·.2)).map V.str)))
theorem Zji{R:Nam->V->Prop}:∀ {ns:List Nam}{kvs:KL},Zcp R ns kvs->(kvs.map λp=>kV p.1)=(ns.map (·.1)).map V.str
 | _,_,.nil=>rfl
 | _,_,.cons r t=>by
  rw[Yy,Yy,Yy,r.1,Zji t]
  rfl
def Z59:Zak ["self","word"] ["self","word"] (Zad Zcy):=by nofun
def Znz(F:Fun K "check_name" "Book.check_name" Zcy f fd)(TD:Zi5 K D):⋯ 1 f fd ["self","word"] (Zlv C B D):=by
 nomatch F.ok Z59
 ·obtain⟨p,k,rows,ns,x,rfl,_⟩:=h
  rfl
 ·obtain⟨p,k,rows,ns,x,rfl,bk,hx,q⟩:=h
  obtain⟨dx,bo,mo,o,bvs,mvs,h1,h2,h3,h4,h5,h6⟩:=bk.ex
  have hu:=Zf1 hr
  ac_nf
  refine⟨_,(Zac (Zaz (Zf9 (Zg6 hu (pv 1) (Zga (pv 0) rfl))) Zaw Zai)),?_⟩
  refine⟨_,rfl,_,rfl,p,D,dx,_,_,rfl,h1,TD.cl,TD.nO,Zp3 _ _ _,bo,_,rfl,Zgg.f (k:=Sum.inr x) h3,_,rfl,?_⟩
  rw[h4.some hx]
  exact Zcu q
def Z89:Zak ["self"] ["self"] (Zad Zfp):=by nofun
def Zii(F:Fun K "kinds" "Book.kinds" Zfp f fd)(TD:Zi5 K D):⋯ 1 f fd ["self"] (Zh4 C B D):=by
 nomatch F.ok Z89
 ·obtain⟨p,k,rows,ns,rfl,_⟩:=h
  rfl
 ·obtain⟨p,k,rows,ns,rfl,bk,q⟩:=h
  obtain⟨dx,bo,mo,o,bvs,mvs,h1,h2,h3,h4,h5,h6⟩:=bk.ex
  exact⟨_,Zac (Zao (Zga (pv 0) rfl)),_,rfl,p,D,dx,_,_,rfl,h1,TD.cl,TD.nB,Z11 _ _ _,q⟩
def Z87:Zak ["self"] ["self"] (Zad Zfn):=by nofun
def Zu3(F:Fun K "words" "Book.words" Zfn f fd)(TD:Zi5 K D)(list:mg "list"=none):⋯ 1 f fd ["self"] (Zqu C B D):=by
 nomatch F.ok Z87
 ·obtain⟨p,k,rows,ns,rfl,_⟩:=h
  rfl
 ·obtain⟨p,k,rows,ns,rfl,bk,q⟩:=h
  obtain⟨dx,bo,mo,o,bvs,mvs,h1,h2,h3,h4,h5,h6⟩:=bk.ex
  refine⟨_,Zac (Zao (Zbd (Zf2 rfl) (by rfl) list Yb2 (pC (Zga (pv 0) rfl) Zaa))),_,rfl,p,D,dx,_,_,rfl,h1,TD.cl,TD.nO,Zp3 _ _ _,bo,bvs,rfl,.inr ⟨o,h3⟩,λl hl=>?_⟩
  rw[Zji h4]
  exact q l hl
def Z9a:Zak ["self","word"] ["self","word"] (Zad Zfq):=by nofun
def Zn0(F:Fun K "board" "Book.board" Zfq f fd)(TD:Zi5 K D)(MC:Zqg K D fC fdC):⋯ 2 f fd ["self","word"] (Zlw C B D):=by
 have GC:⋯ 1 fC fdC ["self","word"] (Zlv C B D):=Znz MC.fn TD
 nomatch F.ok Z9a
 ·obtain⟨p,k,rows,ns,n,rfl,_⟩:=h
  rfl
 ·obtain⟨p,k,rows,ns,n,rfl,bk,nd,hn,q⟩:=h
  obtain⟨dx,bo,mo,o,bvs,mvs,h1,h2,h3,h4,h5,h6⟩:=bk.ex
  have hu:=Zf1 hr
  obtain⟨v,hv,y,rfl,by_⟩:=h4.val nd hn
  ac_nf
  refine⟨_,(pS (Zax (Zcs (pv 0) TD.cl MC.me GC hr MC.b .nil Zdn (pC (pv 1) Zaa)))
   (Zac (Zao (Zd1 hu (Zga (pv 0) rfl) (pv 1) (λ_ _=>rfl))))),?_⟩
  exists Zar _ a _ _ _
  refine⟨_,rfl,p,dx,_,rfl,h1,Zn7 _ _ _,_,rfl,p,k,rows,ns,n.1,rfl,bk,Ye.mpr ⟨n,hn,rfl⟩,?_⟩
  exact⟨_,rfl,p,D,dx,_,_,rfl,h1,TD.cl,TD.nO,Zp3 _ _ _,_,rfl,bo,_,rfl,(by rw[<- hv];exact Zgg.f (k:=Sum.inr n.1) h3),q y by_⟩
def Z88:Zak ["self","word"] ["self","word"] (Zad Zfo):=by nofun
def Zu4(F:Fun K "makes" "Book.makes" Zfo f fd)(TD:Zi5 K D)(MC:Zqg K D fC fdC)(list:mg "list"=none):⋯ 2 f fd ["self","word"] (Zqv C B D):=by
 have GC:⋯ 1 fC fdC ["self","word"] (Zlv C B D):=Znz MC.fn TD
 nomatch F.ok Z88
 ·obtain⟨p,k,rows,ns,n,rfl,_⟩:=h
  rfl
 ·obtain⟨p,k,rows,ns,n,rfl,bk,nd,hn,q⟩:=h
  obtain⟨dx,bo,mo,o,bvs,mvs,h1,h2,h3,h4,h5,h6⟩:=bk.ex
  have hu:=Zf1 hr
  obtain⟨v,hv,l,rfl,hl,_⟩:=h6.val nd hn
  ac_nf
  refine⟨_,(pS (Zax (Zcs (pv 0) TD.cl MC.me GC hr MC.b .nil Zdn (pC (pv 1) Zaa)))
   (Zac (Zao (Zbd Zef (by rfl) list Yb2 (pC (Zd1 hu (Zga (pv 0) rfl) (pv 1) (λ_ _=>rfl)) Zaa))))),?_⟩
  exists Zar _ a _ _ _
  refine⟨_,rfl,p,dx,_,rfl,h1,Zn7 _ _ _,_,rfl,p,k,rows,ns,n.1,rfl,bk,Ye.mpr ⟨n,hn,rfl⟩,?_⟩
  exact⟨_,rfl,p,D,dx,_,_,rfl,h1,TD.cl,TD.nM,Z10 _ _ _,_,rfl,mo,_,rfl,(by rw[<- hv];exact Zgg.k (k:=Sum.inr n.1) h5),l,_,rfl,.inl (SqL.of hl),λl' hl'=>q l' hl'⟩
abbrev Z0s(K:Fg):LV->Hp->VK->Prop:=λxs H Q=>∃ p ys,xs=[.ref p]/\((SqL K H p ys/\∀ l,H l=none->Q (.ref l) (upd H l (.tup ys)))\/(SqT K H p ys/\Q (.ref p) H))
def Zqr:Sp:=λvs H Q _=>∃(p:Addr) (m mo:Nat),vs=[.ref p,.int m,.int mo]/\(∃ o,H p=some o/\Zh2 o)/\1<=m/\m<=24/\mo<=1000000/\∀(n:Nat) H',Drawn p H H'->1<=n->n<=4->(n=1\/m ^ n<=mo)->Q (.int n) H'
def Zt4:Sp:=λvs H Q _=>∃(p aa t:Addr) (n m:Nat) (rows:RS) (avs:KL) (c:LS),vs=[.ref p,.ref aa,.ref t,.int m]/\(∃ o,H p=some o/\Zh2 o)/\Zdr rows/\H aa=some (.dK avs)/\Zb8 H rows rows avs/\H t=some (.tup (c.map V.str))/\Zc2 rows n c/\n<=4/\m<=63 /\
 ∀(ld:Addr) (ds:List (LS)) (us:LV) (H':Hp),Drawn p H H'->H ld=none->H' ld=some (.lst us)->Zbh H' ds us->Zb7 rows n ds->ds.length<=m->Q (.ref ld) H'
theorem Zuk{α β:Type}{F:α->β->Prop}:∀ {l:List α}{m:List β}(k:Nat),Paired F l m->Paired F (l.take k) (m.take k)
 | _,_,0,_=>by rw[Ym1,Ym1];exact .nil
 | _,_,_ + 1,.nil=>.nil
 | _,_,k + 1,.cons r t=>.cons r (Zuk k t)
theorem Zul{α β:Type}{F:α->β->Prop}:∀ {l:List α}{m:List β}(k:Nat),Paired F l m->Paired F (l.drop k) (m.drop k)
 | _,_,0,r=>r
 | _,_,_ + 1,.nil=>.nil
 | _,_,k + 1,.cons _ t=>Zul k t
theorem Zzr{α β:Type}{F:α->β->Prop}:∀ {l l':List α}{m m':List β},Paired F l m->Paired F l' m'->Paired F (l++l') (m++m')
 | _,_,_,_,.nil,h=>h
 | _,_,_,_,.cons r t,h=>.cons r (Zzr t h)
def Z4f:(["word","above","pot"]:LS).Nodup:=by rfl'
def Zs4{p:Addr}{H H':Hp}(d:Drawn p H H'){b:Addr}(h:H' b=none):H b=none:=by
 cases z:H b with
 | none=>rfl
 | some u =>
  by_cases e:b=p
  ·obtain⟨op,hpp,_⟩:=d.pot
   rw[e,hpp]at h;cases h
  ·rw[d.keep _ _ e z]at h;cases h
abbrev nPl:LS:=["pot","many","most","size","greatest"]
def Z7j:Zak nPl ["pot","many","most"] (Zad Zer):=by nofun
def Zuz(F:Def K mg "_law_places" Zer ["pot","many","most"] f fd)(DT:Def K mg "_law_take" Za5 ["pot","many"] fT fdT)(GT:⋯ 1 fT fdT ["pot","many"] Zfg):
  ⋯ 2 f fd ["pot","many","most"] Zqr:=by
 nomatch F.fn.ok Z7j
 ·obtain⟨p,m,mo,rfl,_⟩:=h
  rfl
 ·obtain⟨p,m,mo,rfl,⟨o,hp,ho⟩,m1,m24,hmo,q⟩:=h
  have nd:=Z7j.nd
  ac_nf
  refine'⟨_,(pS (sE 3 nd (pv 1))
   (pS (sE 4 nd Zae)
   (pS (Zfs Yk (PW.pt (Zia (Zal Zmc (pv 4) Zae (Zaq _)) (Zgp (Zal Zjk (Za0 Zig (pv 3) (pv 1)) (pv 2) (Zaq _)))))
    (pS (sE 3 nd (Za0 Zig (pv 3) (pv 1)))
   (Zac (sE 4 nd (Za0 Zbz (pv 4) Zae)))))
   (Zac (Zao (Za0 Zbz Zae (Zaf DT GT hr (pC (pv 0) (pC (pv 4) Zaa))))))))),?_⟩
  exists let b:=_;let c:=Zar _ b;let e:=Zar (Zju _ c) a;let f:=Zar _ e;Zar _ f _ _ _
  refine⟨_,rfl,?_⟩
  let Hv1:NW:=λk σ H'=>H'=H/\∃ g:Nat,σ=[some (.ref p),some (.int m),some (.int mo),some (.int ((m ^ g:Nat):Int)),some (.int g)]/\k=4 - g/\1<=g/\g<=4/\(g=1\/m ^ g<=mo)
  refine⟨Hv1,
   ⟨3,rfl,1,by rw[Nat.pow_one];rfl,rfl,by decide,by decide,.inl rfl⟩,?_⟩
  rintro k σ H' ⟨rfl,g,rfl,rfl,g1,g4,hg⟩
  have bound:m ^ g<=1000000:=by
   rcases hg with e | e
   ·rw[e,Nat.pow_one];omega
   ·omega
  have fin:∀(v:Int) (o':HO),0<=v->v<(g:Int)->Zh2 o'->Q (.int (1 + v)) (upd H' p o'):=λv o' hv0 hv1 ho'=>by
   obtain⟨k,rfl⟩:∃ k:Nat,v=(k:Int):=⟨v.toNat,by omega⟩
   have e:(1 + (k:Int))=((k + 1:Nat):Int):=by omega
   rw[e]
   refine q (k + 1) _ (Drawn.upd ho') (by omega) (by omega) ?_
   by_cases k0:k=0
   ·exact .inl (by omega)
   ·rcases hg with z | z
    ·omega
    ·exact .inr (Yx (Nat.pow_le_pow_right m1 (by omega)) z)
  refine⟨_,rfl,_,_,rfl,rfl,_,rfl,?_⟩
  refine Zdu (λh1=>?_) (λh1=>?_)
  rotate_left
  ·refine Zcu ?_
   exact⟨_,rfl,_,rfl,p,(g:Int),o,rfl,hp,ho,by omega,by omega,λv o' hv0 hv1 ho'=>⟨_,_,rfl,rfl,fin v o' hv0 hv1 ho'⟩⟩
  ·refine⟨_,rfl,_,rfl,_,_,rfl,rfl,.inl ⟨by omega,by omega⟩,_,rfl,_,_,rfl,rfl,_,rfl,?_⟩
   have em:((m ^ g:Nat):Int) * ((m:Nat):Int)=((m ^ (g + 1):Nat):Int):=by rw[Nat.pow_succ,Yd5]
   rw[em]
   refine Zdu (λh2=>?_) (λh2=>?_)
   ·have hn:(g:Int)<4:=Je h1
    have h2:((m ^ (g + 1):Nat):Int)<=(mo:Int):=Je h2
    let Hv2:SW:=λσ' H4=>σ'=[some (.ref p),some (.int m),some (.int mo),some (.int ((m ^ (g + 1):Nat):Int)),some (.int ((g + 1:Nat):Int))]/\H4=H'
    refine⟨Hv2,?_,?_⟩
    ·rintro σ' H4 ⟨rfl,rfl⟩
     exact⟨4 - (g + 1),by omega,rfl,g + 1,rfl,rfl,by omega,by omega,.inr (by omega)⟩
    ·refine⟨_,rfl,_,rfl,_,_,rfl,rfl,.inl ⟨by omega,by omega⟩,?_⟩
     refine⟨_,rfl,_,_,rfl,rfl,?_,rfl⟩
     show([some (.ref p),some (.int m),some (.int mo),some (.int (((m ^ g:Nat):Int) * ((m:Nat):Int))),some (.int ((g:Int) + 1))]:St)=_
     rw[em]
     rfl
   ·exact⟨_,rfl,_,rfl,p,(g:Int),o,rfl,hp,ho,by omega,by omega,λv o' hv0 hv1 ho'=>⟨_,_,rfl,rfl,fin v o' hv0 hv1 ho'⟩⟩
abbrev nCh:LS:=["pot","above","call","most","found","k"]
def Z71:Zak nCh ["pot","above","call","most"] (Zad Zed):=by nofun
set_option maxHeartbeats 8000000 in
def Zx4(F:Def K mg "_law_chain" Zed ["pot","above","call","most"] f fd)(T:Z2n mg)(DT:Def K mg "_law_take" Za5 ["pot","many"] fT fdT)(GT:⋯ 1 fT fdT ["pot","many"] Zfg):
  ⋯ 2 f fd ["pot","above","call","most"] Zt4:=by
 nomatch F.fn.ok Z71
 ·obtain⟨p,aa,t,n,m,rows,avs,c,rfl,_⟩:=h
  rfl
 ·obtain⟨p,aa,t,n,m,rows,avs,c,rfl,⟨o,hp,ho⟩,g,haa,hA,ht,gc,n4,hm,q⟩:=h
  have nd:=Z71.nd
  have hu:=Zf1 hr
  ac_nf
  refine'⟨_,(pS (sE 4 nd (Zbj Zaa))
   (pS (Zbc Yk rfl (Zbv (by rfl) T.range (pC (Zaf DT GT hr (pC (pv 0) (pC (Za0 Zbz (pv 3) Zae) Zaa))) Zaa)) (gE 5 nd)
    (Zc3 (Zaz (Zal (Znv (Z8g hr)) (pv 2) (pv 4) (by with_unfolding_all rfl))
     (Zac (Zax (Zf0 Yu Yl4 Ym4 Zj9 (pv 4) (pC (Zaf DT GT hr (pC (pv 0) (pC (Za0 Zbz (Zam Zan (by rfl) T.len Yr (pC (pv 4) Zaa)) Zae) Zaa))) (pC (pv 2) Zaa))))) Zai)
   (Zac (sE 2 nd (Zbd (r:=Z0s K) Zbg (by rfl) T.tuple Yh1 (pC ?eC Zaa))))))
   (Zac (Zao (pv 4))))),?_⟩
  case eC=>exact(Zbt ["word"] ["above","pot"] [1,0] (λ_=>Za1 (osc:=Zad Zed) (on:=nCh) (by rfl') rfl rfl rfl) (Zhw (pv 2)) (λC s H fp=>Zah (i:=0) Z4f rfl (Or.inl rfl) (Or.inr rfl)) (λC s H fp=>Zb3) (λC s H fp=>Za3 (r:=Ziu K) Zay (Zd1 hu (pv 1) (pv 0) (λ_ _=>rfl)) (Zaf DT GT hr (pC (pv 2) (pC (Zam (r:=Z0t K) Zan (by rfl) T.len Yr (pC (Zd1 hu (pv 1) (pv 0) (λ_ _=>rfl)) Zaa)) Zaa))) (λ_ _=>rfl)))
  exists let b:=_;let c:=_;let e:=Zqn (Zhf _ c _) b;let f:=Zar (Zgf _ _ e) a;Zar _ f _ _ _
  refine⟨Yv _,λld hld=>?_⟩
  have pd:p≠ld:=nNo hp hld
  have d1:=(Drawn.refl (p:=p) ⟨o,hp,ho⟩).new (o:=.lst []) hld
  obtain⟨o1,hp1,ho1⟩:=d1.pot
  have aap:aa≠p:=λz=>by rw[z,hp]at haa;obtain⟨_,_,q',_⟩:=ho;rw[q']at haa;cases haa
  refine⟨_,rfl,_,rfl,_,_,rfl,rfl,p,_,o1,rfl,hp1,ho1,by omega,by omega,λv o2 hv0 hv1 ho2=>⟨v,rfl,by omega,by omega,?_⟩⟩
  have d2:Drawn p H (upd (upd H ld (.lst [])) p o2):=d1.trans (Drawn.upd ho2)
  let Hv3:NW:=λi σ H'=>∃(ds:List (LS)) (us:LV) (c':LS) (t':Addr) (x:OV),σ=[some (.ref p),some (.ref aa),some (.ref t'),some (.int m),some (.ref ld),x]/\Drawn p H H'/\H' ld=some (.lst us)/\Zbh H' ds us/\(∀ d∈ds,Zc2 rows n d)/\ds.Nodup/\ds.length<=i/\H' t'=some (.tup (c'.map V.str))/\Zc2 rows n c'
  refine Zat Zbm Hv3
   ⟨[],[],c,t,none,rfl,d2,by rw[Zab (Ym pd)];exact uS,.nil,(λd h=>nomatch h),Yf3,Yd _,Drawn.tup d2 hp ho ht,gc⟩ (λ_ _ _ _ _=>trivial) ?_ ?_
  ·rintro i v' σ H5 hi ⟨ds,us,c5,t5,x5,rfl,d5,hd5,hD5,gc5,nd5,len5,ht5,gt5⟩
   obtain⟨hi,rfl⟩:=Za6 hi
   obtain⟨o5,hp5,ho5⟩:=d5.pot
   have okc:∀ y∈c5,Zbf y=true:=λy hy=>Zd5 g y (gt5.known y hy)
   have okd:∀ d∈ds,∀ y∈d,Zbf y=true:=λd hd y hy=>Zd5 g y ((gc5 d hd).known y hy)
   have hul:=hD5.length
   let Hv4:SW:=λσ' H'=>∃(ds':List (LS)) (us':LV),σ'=[some (.ref p),some (.ref aa),some (.ref t5),some (.int m),some (.ref ld),some (.int (0 + (i:Nat)))]/\Drawn p H H'/\H' ld=some (.lst us')/\Zbh H' ds' us'/\(∀ d∈ds',Zc2 rows n d)/\ds'.Nodup/\ds'.length<=i + 1/\H' t5=some (.tup (c5.map V.str))
   refine⟨Hv4,?_,?_⟩
   ·refine⟨_,rfl,_,rfl,Zo6 c5,ds.map Zo6,Zjp ht5,.list (SqL.of hd5) (Zix hD5),Zmi 8 okc,Zrb 7 okd,_,rfl,?_⟩
    rw[Zrw]
    refine Zdu (λh=>?_) (λh=>?_)
    ·have hn:c5∉ds:=by simpa using h
     refine⟨_,rfl,.inl ⟨rfl,_,SqL.of hd5⟩,_,rfl,_,rfl,ld,us,rfl,.inl (SqL.of hd5),_,_,rfl,rfl,p,_,o5,rfl,hp5,ho5,by omega,by omega,λa o6 ha0 ha1 ho6=>?_⟩
     obtain⟨j,rfl⟩:∃ j:Nat,a=(j:Int):=⟨a.toNat,by omega⟩
     have d6:Drawn p H5 (upd H5 p o6):=Drawn.upd ho6
     have hd6:=d6.keep _ _ (Ym pd) hd5
     refine⟨_,rfl,ld,us,_,_,rfl,rfl,hd6,by omega,by omega,Za2 (by omega),ds.take j++c5 :: ds.drop j,us.take j++V.ref t5 :: us.drop j,rfl,?_,?_,?_,?_,?_,?_,?_⟩
     ·exact(d5.trans d6).sub (o':=.lst []) (q:=ld) (λb o hb e=>by rw[Zab hb];exact e) hld pd
     ·exact uS
     ·have tk:∀ b zs,H5 b=some (.tup zs)->(upd (upd H5 p o6) ld (.lst (us.take j++V.ref t5 :: us.drop j))) b=some (.tup zs):=λb zs e=>by
       rw[Zab (λz=>by rw[z,hd5]at e;cases e)];exact Drawn.tup d6 hp5 ho5 e
      exact Zzr (Zuk j (hD5.drawn (p:=p) (o:=.lst []) tk)) (.cons ⟨t5,rfl,tk _ _ ht5⟩ (Zul j (hD5.drawn (p:=p) (o:=.lst []) tk)))
     ·intro d hd
      rcases Yo.mp hd with z | z
      ·exact gc5 d (Yc5 z)
      ·rcases Yg1.mp z with z | z
       ·rw[z];exact gt5
       ·exact gc5 d (Ye5 z)
     ·have pm:(ds.take j++c5 :: ds.drop j).Perm (c5 :: ds):=by
       have:=Yt4 (a:=c5) (l₁:=ds.take j) (l₂:=ds.drop j)
       rwa [Yn2]at this
      exact pm.nodup_iff.mpr (Ys1.mpr ⟨hn,nd5⟩)
     ·rw[Yi,Yf1,Yd1,Yq2]
      omega
     ·rw[Zab (λz=>by rw[z,hd5]at ht5;cases ht5)];exact Drawn.tup d6 hp5 ho5 ht5
    ·exact⟨ds,us,rfl,d5,hd5,hD5,gc5,nd5,by omega,ht5⟩
   ·rintro σ' H6 ⟨ds',us',rfl,d6,hd6,hD6,gc6,nd6,len6,ht6⟩
    obtain⟨o6,hp6,ho6⟩:=d6.pot
    let Iv1:Addr->Nat->LV->St->Hp->Prop:=λD j ys σ' H'=>Drawn p H6 H'/\H' D=some (.lst ys)/\∃(bs:LS) (x:OV),ys=bs.map V.str/\bs.length=j/\(∀ x∈bs,x∈rows.map (·.1))/\σ'=[x,some (.ref aa),some (.ref p)]
    refine⟨_,rfl,t5,rfl,⟨_,SqT.of ht6⟩,Zdq (Zea (xs:=c5.map V.str)) (sL (by rw[Ya];have:=gt5.len;omega)) Iv1
     (λD hD=>⟨(Drawn.refl ⟨o6,hp6,ho6⟩).new hD,uS,[],none,rfl,rfl,(λx h=>nomatch h),rfl⟩) (λD j ys σ' H' _ h0=>by obtain⟨d,_,bs,_,e,el,_⟩:=h0;exact⟨SqT.of (Drawn.tup d hp6 ho6 ht6),by rw[e,Ya];have:=gt5.len;omega⟩) ?_ ?_⟩
    ·rintro D j v ys σ' H7 hD hj ⟨d7,hl7,bs,x7,rfl,rfl,hb,rfl⟩
     rw[Yp]at hj
     cases hx:c5[bs.length]? with
     | none=>rw[hx]at hj;cases hj
     | some x =>
      rw[hx]at hj
      cases hj
      obtain⟨o7,hp7,ho7⟩:=d7.pot
      have pD:p≠D:=nNo hp6 hD
      have hxm:=gt5.known x (Yf hx)
      obtain⟨r,hr',er⟩:=Zd6 hxm
      obtain⟨tf,fs,hv,htf,hfs,fl⟩:=hA.val' g.nd hr'
      have xfs:x∈fs:=(hfs x).mpr (by rw[er];exact .refl x)
      have fpos:0<fs.length:=Yx1.mpr λz=>by rw[z]at xfs;cases xfs
      have tp:tf≠p:=Ym (Zic hp ho htf)
      have d07:=d6.trans d7
      have haa7:=d07.keep _ _ aap haa
      have htf7:=d07.keep _ _ tp htf
      have gle:=g.le
      have get:∀ {H':Hp},H' aa=some (.dK avs)->Zgg H' aa (.str x) (some (.ref tf)):=λ{H'} e=>by rw[<- hv,er];exact Zgg.k (k:=Sum.inr x) e
      refine⟨_,rfl,_,rfl,aa,_,rfl,get haa7,_,rfl,_,rfl,_,rfl,aa,_,rfl,get haa7,tf,_,rfl,.inl (SqL.of htf7),p,_,o7,rfl,hp7,ho7,by rw[Ya];omega,by rw[Ya];omega,λv o8 hv0 hv1 ho8=>?_⟩
      obtain⟨y,hym,hat⟩:=Zc0 hv0 hv1
      have d8:Drawn p H7 (upd H7 p o8):=Drawn.upd ho8
      refine⟨tf,_,_,_,rfl,rfl,SqL.of (d8.keep _ _ tp htf7),hat,d8.keep _ _ (Ym pD) hl7,(d7.trans d8).sub (o':=.lst []) (q:=D) (λb o hb e=>by rw[Zab hb];exact e) hD pD,uS,bs++[y],_,by rw[Yb1];rfl,by simp,λz hz=>?_,rfl⟩
      rcases Yo.mp hz with z | z
      ·exact hb _ z
      ·rw[Yc.mp z]
       exact Zq1 g hxm (by rw[<- er];exact(hfs y).mp hym)
    ·rintro D ys σ' H7 hD ⟨d7,hl7,bs,x7,rfl,hbl,hb,rfl⟩
     rw[Ya,gt5.len]at hbl
     refine⟨D,_,rfl,.inl ⟨SqL.of hl7,λt8 ht8=>?_⟩⟩
     have s8:Zaj H7 (upd H7 t8 (.tup (bs.map V.str))):=Za9 ht8
     have d08:=(d6.trans d7).same s8
     refine⟨ds',us',bs,t8,_,rfl,d08,s8 _ _ (d7.keep _ _ (Ym pd) hd6),(hD6.drawn (p:=p) (o:=.lst []) λb zs e=>s8 _ _ (Drawn.tup d7 hp6 ho6 e)),gc6,nd6,len6,uS,hbl,hb⟩
  ·rintro σ H6 ⟨ds,us,c5,t5,x5,rfl,d6,hd6,hD6,gc6,nd6,len6,_⟩
   rw[Za4]at len6
   exact⟨_,rfl,q ld ds us H6 d6 hld hd6 hD6 ⟨gc6,nd6,by omega⟩ (by omega)⟩
def Zo1{p:Addr}{H H':Hp}{o:HO}{all rows:RS}{avs:KL}(h:Zb8 H all rows avs)(hp:H p=some o)(ho:Zh2 o)(d:Drawn p H H'):Zb8 H' all rows avs :=
 Paired.mapP h λ_ _ z=>⟨z.1,let⟨t,fs,e,x,y⟩:=z.2;⟨t,fs,e,d.keep _ _ (Ym (Zic hp ho x)) x,y⟩⟩
def Z3g:Sp:=λvs H Q _=>∃(p l aa:Addr) (n m:Nat) (rows:RS) (avs:KL),vs=[.ref p,.ref l,.ref aa,.int n,.int m]/\(∃ o,H p=some o/\Zh2 o)/\Zeg H l rows/\Zdr rows/\H aa=some (.dK avs)/\Zb8 H rows rows avs/\1<=n/\n<=4/\m<=63 /\
 ∀(t:Addr) (ps:List (LS×Str)) (us:LV) (H':Hp),Drawn p H H'->H' t=some (.tup us)->Zrx H' ps us->Zb7 rows n (ps.map (·.1))->(∀ q∈ps,q.2∈rows.map (·.1))->ps.length<=m->Q (.ref t) H'
def at4{a b c d:V}{v:Int}(h0:0<=v)(h1:v<4):∃ x,atI [a,b,c,d] v=some x/\(x=a\/x=b\/x=c\/x=d):=by
 obtain⟨k,rfl⟩:∃ k:Nat,v=(k:Int):=⟨v.toNat,by omega⟩
 have hk:k<4:=by omega
 match k,hk with
 | 0,_=>exact⟨a,rfl,.inl rfl⟩
 | 1,_=>exact⟨b,rfl,.inr (.inl rfl)⟩
 | 2,_=>exact⟨c,rfl,.inr (.inr (.inl rfl))⟩
 | 3,_=>exact⟨d,rfl,.inr (.inr (.inr rfl))⟩
abbrev nPa:LS:=["pot","rows","above","places","most","words","deeds","start","way","place","word","pairs","deed","made"]
abbrev pPa:LS:=["pot","rows","above","places","most"]
def Z7k:Zak nPa pPa (Zad Zde):=by nofun
set_option maxHeartbeats 8000000 in
def Zxw(F:Def K mg "_law_pairs" Zde pPa f fd)(T:Z2n mg)(DT:Def K mg "_law_take" Za5 ["pot","many"] fT fdT)(GT:⋯ 1 fT fdT ["pot","many"] Zfg)
  (DD:Def K mg "_law_deeds" Zdf ["pot","rows","above","places","most"] fD fdD) (GD:⋯ 2 fD fdD ["pot","rows","above","places","most"] Zt2) (DC:Def K mg "_law_chain" Zed ["pot","above","call","most"] fC fdC) (GC:⋯ 2 fC fdC ["pot","above","call","most"] Zt4):
  ⋯ 3 f fd pPa Z3g:=by
 nomatch F.fn.ok Z7k
 ·obtain⟨p,l,aa,n,m,rows,avs,rfl,_⟩:=h
  rfl
 ·obtain⟨p,l,aa,n,m,rows,avs,rfl,⟨o0,hp0,ho0⟩,hR,g,haa,hA,n1,n4,hm,q⟩:=h
  have nd:=Z7k.nd
  have hu:=Zf1 hr
  have hr1:Zcb 1 _:=hr.mono (by decide)
  have gle:=g.le
  ac_nf
  refine'⟨_,(pS (Zag (i:=5) nd rfl (Or.inr rfl) ?e1)
   (pS (sE 6 nd (Zaf DD GD hr (pC (pv 0) (pC (pv 1) (pC (pv 2) (pC (pv 3) (pC (pv 4) Zaa)))))))
   (Zc3 (Zaz (Zal Zds (Zaf DT GT hr1 (pC (pv 0) (pC Zae Zaa))) Zae (Zaq _))
    (pS (sE 7 nd (Zbd (r:=Z0s K) Zbg (by rfl) T.tuple Yh1 (pC ?e2 Zaa)))
   (Zac (sE 6 nd (Zaf DC GC hr (pC (pv 0) (pC (pv 2) (pC (pv 7) (pC (pv 4) Zaa)))))))) Zai)
   (pS (sE 8 nd (Zaf DT GT hr1 (pC (pv 0) (pC Zae Zaa))))
   (pS (sE 9 nd (Zaf DT GT hr1 (pC (pv 0) (pC (pv 3) Zaa))))
   (pS (sE 10 nd (Za3 (r:=Ziu K) Zay (pv 5) (Zaf DT GT hr1 (pC (pv 0) (pC (Zam Zan (by rfl) T.len Yr (pC (pv 5) Zaa)) Zaa))) (λ_ _=>rfl)))
   (pS (sE 11 nd (Zbj Zaa))
   (pS (Zbc Yk rfl (Zbb (pv 6)) (gE 12 nd)
    (pS (sE 13 nd (Za3 (r:=Zhv K) Zbr (Zbi (pC (Za3 (r:=Ziu K) Zay (pv 5) (Zaf DT GT hr1 (pC (pv 0) (pC (Zam Zan (by rfl) T.len Yr (pC (pv 5) Zaa)) Zaa))) (λ_ _=>rfl)) (pC (pv 10) (pC (Za3 (r:=Zhv K) Zbr (pv 12) (pv 9) (λ_ _=>rfl)) (pC (Za3 (r:=Zhv K) Zbr (pv 12) (pv 9) (λ_ _=>rfl)) Zaa))))) (pv 8) (λ_ _=>rfl)))
   (Zac (Zax (Zf0 Yu Yi1 Yj1 Zbw (pv 11) (pC (Zbi (pC (pv 12) (pC (pv 13) Zaa))) Zaa))))))
   (Zac (Zao (Zbd (r:=Z0s K) Zbg (by rfl) T.tuple Yh1 (pC (pv 11) Zaa)))))))))))),?_⟩
  case e1=>exact(Zbt ["row"] [] [] (λ_=>Za1 (osc:=Zad Zde) (on:=nPa) (by rfl') rfl rfl rfl) (Zbb (pv 1)) (λC s H fp=>Zah (i:=0) Zpq rfl (Or.inl rfl) (Or.inr rfl)) (λC s H fp=>Zb3) (λC s H fp=>Za3 (r:=Zhv K) Zbr (pv 0) Zae (λ_ _=>rfl)))
  case e2=>exact(Zbt ["k"] ["words","pot"] [5,0] (λ_=>Za1 (osc:=Zad Zde) (on:=nPa) (by rfl') rfl rfl rfl) (Zbv (by rfl) T.range (pC (pv 3) Zaa)) (λC s H fp=>Zah (i:=0) Zz0 rfl (Or.inl rfl) (Or.inr rfl)) (λC s H fp=>Zb3) (λC s H fp=>Za3 (r:=Ziu K) Zay (pv 1) (Zaf DT GT hr1 (pC (pv 2) (pC (Zam (r:=Z0t K) Zan (by rfl) T.len Yr (pC (pv 1) Zaa)) Zaa))) (λ_ _=>rfl)))
  exists let b:=_;let c:=Zar _ b;let e:=Zar (Zgf _ _ c) a;let f:=Zar _ e;let g:=Zar _ f;let h:=Zar _ g;let i:=Zar _ h;let j:=_;let k:=Zar _ j;let l:=Zqn (Zhf _ k _) i;let m:=Zar _ l;Zar _ m _ _ _
  obtain⟨vs0,hvs0,hpr0⟩:=id hR
  refine⟨_,rfl,l,rfl,⟨_,SqL.of hvs0⟩,Ziv hR (by omega) (λt u x H' R ht hRx=>⟨_,rfl,t,_,_,_,rfl,rfl,SqT.of ht,rfl,hRx⟩) λlw H1 hlw s1 hw=>?_⟩
  have hp1:=s1 _ _ hp0
  have lwp:lw≠p:=Ym (Zic hp1 ho0 hw)
  have wne:rows.map (·.1)≠[]:=by
   have:=g.ne
   intro z
   have z2:=congrArg List.length z
   rw[Ya]at z2
   simp at z2
   rw[z2]at this
   simp at this
  have wpos:0<(rows.map (·.1)).length:=Yx1.mpr wne
  have wl:(rows.map (·.1)).length<=24:=by rw[Ya];exact gle
  have haa1:=s1 _ _ haa
  have aap:aa≠p:=λz=>by rw[z,hp0]at haa;obtain⟨_,_,q',_⟩:=ho0;rw[q']at haa;cases haa
  have hA1:Zb8 H1 rows rows avs:=hA.mono λb xs e=>s1 _ _ e
  refine⟨_,rfl,_,rfl,_,rfl,_,rfl,_,rfl,p,l,aa,n,m,rows,avs,rfl,⟨o0,hp1,ho0⟩,Zbn hR s1,g,haa1,hA1,n1,n4,hm,λld ds us H2 d12 hld hus hD gd dl=>?_⟩
  obtain⟨o2,hp2,ho2⟩:=id d12.pot
  have hw2:=d12.keep _ _ lwp hw
  let Hv1:SW:=λσ' H'=>∃(ld:Addr) (ds:List (LS)) (us:LV) (x:OV),σ'=[some (.ref p),some (.ref l),some (.ref aa),some (.int n),some (.int m),some (.ref lw),some (.ref ld),x,none,none,none,none,none,none]/\Drawn p H1 H'/\ld≠p/\H' ld=some (.lst us)/\Zbh H' ds us/\Zb7 rows n ds/\ds.length<=m
  refine⟨Hv1,?_,?_⟩
  ·refine⟨_,rfl,p,3,o2,rfl,hp2,ho2,by decide,by decide,λv o3 hv0 hv1 ho3=>⟨rfl,_,rfl,?_⟩⟩
   have d23:Drawn p H2 (upd H2 p o3):=Drawn.upd ho3
   have d13:=d12.trans d23
   have ldp:ld≠p:=λz=>by rw[z,hp1]at hld;cases hld
   have hus3:=d23.keep _ _ ldp hus
   have hD3:Zbh (upd H2 p o3) ds us:=hD.drawn (p:=p) (o:=.lst []) λb zs e=>Drawn.tup d23 hp2 ho2 e
   generalize upd H2 p o3=H3 at d23 d13 hus3 hD3
   refine Zdu (λ_=>?_) (λ_=>⟨ld,ds,us,none,rfl,d13,ldp,hus3,hD3,gd,dl⟩)
   obtain⟨o3',hp3,ho3'⟩:=id d13.pot
   have hw3:=d13.keep _ _ lwp hw
   let Iv1:Addr->Nat->LV->St->Hp->Prop:=λD i ys σ' H'=>Drawn p H3 H'/\H' D=some (.lst ys)/\∃(bs:LS) (o:OV),ys=bs.map V.str/\bs.length=i/\(∀ x∈bs,x∈rows.map (·.1))/\σ'=[o,some (.ref lw),some (.ref p)]
   refine⟨_,rfl,n,rfl,by omega,by omega,Zdq Zbm (by rw[Za4];exact sL (by omega)) Iv1
    (λD hD=>⟨(Drawn.refl ⟨o3',hp3,ho3'⟩).new hD,uS,[],none,rfl,rfl,(λx h=>nomatch h),rfl⟩) (λD i ys σ' H' _ h0=>by obtain⟨_,_,bs,_,e,el,_⟩:=h0;exact⟨trivial,by rw[e,Ya];omega⟩) ?_ ?_⟩
   ·rintro D i v ys σ' H' hD' hi ⟨d,hl,bs,o,rfl,rfl,hb,rfl⟩
    obtain⟨hi,rfl⟩:=Za6 hi
    obtain⟨o1,hpp,hoo⟩:=d.pot
    have hw1:=d.keep _ _ lwp hw3
    have pD:p≠D:=nNo hp3 hD'
    refine⟨_,rfl,_,rfl,_,rfl,lw,_,rfl,.inl (SqL.of hw1),p,_,o1,rfl,hpp,hoo,by rw[Ya];omega,by rw[Ya];omega,λv o2 hv0 hv1 ho2=>?_⟩
    obtain⟨x,hxm,hat⟩:=Zc0 hv0 hv1
    have d2:Drawn p H' (upd H' p o2):=Drawn.upd ho2
    refine⟨lw,_,_,_,rfl,rfl,SqL.of (d2.keep _ _ lwp hw1),hat,d2.keep _ _ (Ym pD) hl,(d.trans d2).sub (o':=.lst []) (q:=D) (λb o hb e=>by rw[Zab hb];exact e) hD' pD,uS,bs++[x],_,by rw[Yb1];rfl,by simp,λy hy=>?_,rfl⟩
    rcases Yo.mp hy with z | z
    ·exact hb y z
    ·rw[Yc.mp z];exact hxm
   rintro lb ys σ' H4 hlb ⟨d34,hlb4,bs,o,rfl,hbl,hb,rfl⟩
   rw[Za4]at hbl
   have hbl:bs.length=n:=by simpa using hbl
   refine⟨lb,_,rfl,.inl ⟨SqL.of hlb4,λts hts=>?_⟩⟩
   have s45:Zaj H4 (upd H4 ts (.tup (bs.map V.str))):=Za9 hts
   have d15:=(d13.trans d34).same s45
   obtain⟨o5,hp5,ho5⟩:=id d15.pot
   refine⟨_,rfl,_,rfl,_,rfl,_,rfl,p,aa,ts,n,m,rows,avs,bs,rfl,⟨o5,hp5,ho5⟩,g,d15.keep _ _ aap haa1,Zo1 hA1 hp1 ho0 d15,uS,⟨hbl,hb⟩,n4,hm,λld' ds' us' H6 d56 hld' hus' hD' gd' dl'=>?_⟩
   exact⟨ld',ds',us',_,rfl,d15.trans d56,(λz=>by rw[z,hp5]at hld';cases hld'),hus',hD',gd',dl'⟩
  ·rintro σ' H3 ⟨ld,ds,us,x,rfl,d13,ldp,hus,hD,gd,dl⟩
   obtain⟨o3,hp3,ho3⟩:=id d13.pot
   have hul:=hD.length
   refine⟨_,rfl,p,4,o3,rfl,hp3,ho3,by decide,by decide,λwy o4 hw0 hw1 ho4=>?_⟩
   refine⟨_,rfl,_,rfl,p,(n:Int),o4,rfl,uS,ho4,by omega,by omega,λpl o5 hl0 hl1 ho5=>?_⟩
   have d35:Drawn p H3 (upd (upd H3 p o4) p o5):=(Drawn.upd ho4).trans (Drawn.upd ho5)
   generalize upd (upd H3 p o4) p o5=H5 at d35
   have d15:=d13.trans d35
   obtain⟨o5',hp5,ho5'⟩:=id d15.pot
   have hw5:=d15.keep _ _ lwp hw
   refine⟨_,rfl,_,rfl,_,rfl,lw,_,rfl,.inl (SqL.of hw5),p,_,o5',rfl,hp5,ho5',by rw[Ya];omega,by rw[Ya];omega,λv o6 hv0 hv1 ho6=>?_⟩
   obtain⟨y,hym,hat⟩:=Zc0 hv0 hv1
   have d56:Drawn p H5 (upd H5 p o6):=Drawn.upd ho6
   refine⟨lw,_,_,_,rfl,rfl,SqL.of (d56.keep _ _ lwp hw5),hat,?_⟩
   have d36:=d35.trans d56
   have d16:=d15.trans d56
   generalize upd H5 p o6=H6 at d56 d36 d16
   have hus6:=d36.keep _ _ ldp hus
   have hD6:Zbh H6 ds us:=hD.drawn (p:=p) (o:=.lst []) λb zs e=>Drawn.tup d36 hp3 ho3 e
   obtain⟨o6',hp6,ho6'⟩:=id d16.pot
   refine⟨Yv _,λlp hlp=>?_⟩
   have plp:p≠lp:=nNo hp6 hlp
   have ldlp:ld≠lp:=nNo hus6 hlp
   have lwlp:lw≠lp:=nNo (d16.keep _ _ lwp hw) hlp
   have lpH1:H1 lp=none:=Zs4 d16 hlp
   have lpH:H lp=none:=s1.free lpH1
   have s67:Zaj H6 (upd H6 lp (.lst [])):=Za9 hlp
   let Iv2:NW:=λi σ H'=>∃(ps:List (LS×Str)) (ws:LV) (x12 x13:OV),σ=[some (.ref p),some (.ref l),some (.ref aa),some (.int n),some (.int m),some (.ref lw),some (.ref ld),x,some (.int wy),some (.int pl),some (.str y),some (.ref lp),x12,x13]/\Drawn p H1 H'/\H' ld=some (.lst us)/\Zbh H' ds us/\H' lp=some (.lst ws)/\Zrx H' ps ws/\ps.map (·.1)=ds.take i/\∀ q∈ps,q.2∈rows.map (·.1)
   refine⟨_,rfl,ld,rfl,⟨_,SqL.of (s67 _ _ hus6)⟩,Zat (Zav (xs:=us)) Iv2
    ⟨[],[],none,none,rfl,d16.same s67,s67 _ _ hus6,hD6.mono s67,uS,.nil,by rw[Ym1];rfl,λq h=>nomatch h⟩ (λi σ H' _ h0=>by obtain⟨_,_,_,_,_,_,e,_⟩:=h0;exact SqL.of e) ?_ ?_⟩
   ·rintro i v σ H7 hi ⟨ps,ws,x12,x13,rfl,d17,hus7,hD7,hlp7,hP7,ep,kn⟩
    obtain⟨d,hd,td,rfl,htd⟩:=Zau hD7 hi
    have gcd:=gd.call d (Yf hd)
    obtain⟨o7,hp7,ho7⟩:=id d17.pot
    have hw7:=d17.keep _ _ lwp hw
    refine⟨_,rfl,_,rfl,_,rfl,lw,_,rfl,.inl (SqL.of hw7),p,_,o7,rfl,hp7,ho7,by rw[Ya];omega,by rw[Ya];omega,λv o8 hv0 hv1 ho8=>?_⟩
    obtain⟨y',hym',hat'⟩:=Zc0 hv0 hv1
    have d78:Drawn p H7 (upd H7 p o8):=Drawn.upd ho8
    refine⟨lw,_,_,_,rfl,rfl,SqL.of (d78.keep _ _ lwp hw7),hat',?_⟩
    have htd8:=Drawn.tup d78 hp7 ho7 htd
    have hlp8:=d78.keep _ _ (Ym plp) hlp7
    have hP8:Zrx (upd H7 p o8) ps ws:=hP7.mono λb xs e=>Drawn.tup d78 hp7 ho7 e
    have hD8:Zbh (upd H7 p o8) ds us:=hD7.drawn (p:=p) (o:=.lst []) λb zs e=>Drawn.tup d78 hp7 ho7 e
    have hus8:=d78.keep _ _ ldp hus7
    have d18:=d17.trans d78
    generalize upd H7 p o8=H8 at d78 htd8 hlp8 hP8 hD8 hus8 d18
    have dlen:d.length=n:=gcd.len
    have hl1':pl<((d.map V.str).length:Int):=by rw[Ya];omega
    obtain⟨z,hzm,hatz⟩:=Zc0 hl0 hl1'
    have hzk:=gcd.known z hzm
    refine⟨_,rfl,_,rfl,_,rfl,td,_,_,_,rfl,rfl,SqT.of htd8,hatz,_,rfl,_,rfl,td,_,_,_,rfl,rfl,SqT.of htd8,hatz,?_⟩
    refine⟨sL (by show 4<=100000;decide),λtt htt=>?_⟩
    have s89:Zaj H8 (upd H8 tt (.tup [.str y',.str y,.str z,.str z])):=Za9 htt
    obtain⟨mv,hmv,hmc⟩:=at4 (a:=.str y') (b:=.str y) (c:=.str z) (d:=.str z) hw0 hw1
    obtain⟨mx,rfl,hmx⟩:∃ mx:Str,mv=.str mx/\mx∈rows.map (·.1):=by
     rcases hmc with e | e | e | e
     ·exact⟨y',e,hym'⟩
     ·exact⟨y,e,hym⟩
     ·exact⟨z,e,hzk⟩
     ·exact⟨z,e,hzk⟩
    refine⟨_,rfl,tt,_,_,_,rfl,rfl,SqT.of uS,hmv,?_⟩
    refine⟨_,rfl,.inl ⟨rfl,_,SqL.of (s89 _ _ hlp8)⟩,_,rfl,_,rfl,sL (by show 2<=100000;decide),λtp htp=>?_⟩
    have s9:Zaj H8 (upd (upd H8 tt (.tup [.str y',.str y,.str z,.str z])) tp (.tup [.ref td,.str mx])):=s89.trans (Za9 htp)
    have htp9:(upd (upd H8 tt (.tup [.str y',.str y,.str z,.str z])) tp (.tup [.ref td,.str mx])) tp=some (.tup [.ref td,.str mx]):=uS
    generalize upd (upd H8 tt (.tup [.str y',.str y,.str z,.str z])) tp (.tup [.ref td,.str mx])=H9 at s9 htp9
    have hlp9:=s9 _ _ hlp8
    have wsl:ws.length<=64:=by
     have h1:=Yz hP7
     have h2:=congrArg List.length ep
     rw[Ya,Yd1]at h2
     have h3:=gd.few
     omega
    refine⟨lp,_,_,rfl,rfl,hlp9,Za2 (by omega),ps++[(d,mx)],ws++[.ref tp],_,_,rfl,?_,?_,?_,uS,?_,?_,?_⟩
    ·exact((d18.same s9)).sub (o':=.lst []) (q:=lp) (λb o hb e=>by rw[Zab hb];exact e) lpH1 plp
    ·rw[Zab ldlp];exact s9 _ _ hus8
    ·have tk:∀ b zs,H9 b=some (.tup zs)->(upd H9 lp (.lst (ws++[V.ref tp]))) b=some (.tup zs):=λb zs e=>by
      rw[Zab (λz=>by rw[z,hlp9]at e;cases e)];exact e
     exact(hD8.mono s9).drawn (p:=p) (o:=.lst []) tk
    ·have tk:∀ b zs,H9 b=some (.tup zs)->(upd H9 lp (.lst (ws++[V.ref tp]))) b=some (.tup zs):=λb zs e=>by
      rw[Zab (λz=>by rw[z,hlp9]at e;cases e)];exact e
     exact Yh2 ((hP8.mono (Zbs s9)).mono tk) ⟨tp,td,rfl,tk _ _ htp9,tk _ _ (s9 _ _ htd8)⟩
    ·rw[Yb1,ep,Yt,hd];rfl
    ·intro q' hq'
     rcases Yo.mp hq' with z | z
     ·exact kn q' z
     ·rw[Yc.mp z];exact hmx
   ·rintro σ H7 ⟨ps,ws,x12,x13,rfl,d17,hus7,hD7,hlp7,hP7,ep,kn⟩
    rw[<- hul,Ye1]at ep
    refine⟨_,rfl,lp,_,rfl,.inl ⟨SqL.of hlp7,λt ht=>?_⟩⟩
    have s78:Zaj H7 (upd H7 t (.tup ws)):=Za9 ht
    have dH:Drawn p H (upd H7 t (.tup ws)):=⟨λb o hb e=>s78 _ _ (d17.keep b o hb (s1 _ _ e)),(d17.same s78).pot⟩
    refine q t ps ws _ dH uS (hP7.mono (Zbs s78)) (by rw[ep];exact gd) kn ?_
    have:=congrArg List.length ep
    rw[Ya]at this
    omega
def Zs9(H:Hp)(n:Nam)(v:V):Prop:=∃(t tp:Addr) (vs:LV),v=V.ref t/\H t=some (.tup [.str n.1,.int n.2.1,.ref tp])/\H tp=some (.tup vs)/\Zrx H n.2.2 vs
theorem Zs9.mono{H H':Hp}{n:Nam}{v:V}(h:Zs9 H n v)(k:∀ b xs,H b=some (.tup xs)->H' b=some (.tup xs)):Zs9 H' n v:=by
 obtain⟨t,tp,vs,e,h1,h2,h3⟩:=h
 exact⟨t,tp,vs,e,k _ _ h1,k _ _ h2,h3.mono k⟩
def Zs9.v{K:Fg}{H:Hp}{n:Nam}{v:V}(h:Zs9 H n v):Zw2 K H n v:=by
 obtain⟨t,tp,vs,e,h1,h2,h3⟩:=h
 exact⟨t,tp,false,vs,e,h1,SqT.of h2,h3⟩
def Zge(H:Hp)(ns:List Nam)(vs:LV):Prop:=Paired (Zs9 H) ns vs
theorem Zge.mono{H H':Hp}{ns:List Nam}{vs:LV}(h:Zge H ns vs)(k:∀ b xs,H b=some (.tup xs)->H' b=some (.tup xs)):Zge H' ns vs:=Paired.mapP h λ_ _ z=>z.mono k
structure Z5b(rows:RS)(few calls:Nat)(ns:List Nam):Prop where
 each:∀ n∈ns,Zjt rows n
 nd:(ns.map (·.1)).Nodup
 few:∀ n∈ns,n.2.2.length<=few
 calls:∀ n∈ns,n.2.1=1\/rows.length ^ n.2.1<=calls
def Zty(K:Fg):Sp:=λvs H Q _=>∃(a l aa:Addr) (at' mo few calls:Nat) (ns:List Int) (rows:RS) (avs:KL),vs=[.ref a,.int at',.ref l,.ref aa,.int mo,.int few,.int calls]/\SqL K H a (ns.map V.int)/\ns.length<=100/\at'<=100/\Zeg H l rows/\Zdr rows/\H aa=some (.dK avs)/\Zb8 H rows rows avs/\mo<=8/\few<=63/\calls<=1000000 /\
 ∀(ln:Addr) (nms:List Nam) (us:LV) (H':Hp),Zaj H H'->H ln=none->H' ln=some (.lst us)->Zge H' nms us->Z5b rows few calls nms->nms.length<=mo->Q (.ref ln) H'
abbrev nNs:LS:=["script","at","rows","above","most","few","calls","names","words","k","pot","places"]
abbrev pNs:LS:=["script","at","rows","above","most","few","calls"]
def Z7o:Zak nNs pNs (Zad Zfl):=by nofun
set_option maxHeartbeats 8000000 in
def Zxz(F:Def K mg "_law_names" Zfl pNs f fd)(T:Z2n mg)(DP:Def K mg "_law_pot" Zf7 ["script","k"] fP fdP)(GP:⋯ 1 fP fdP ["script","k"] (Z0n K))(DT:Def K mg "_law_take" Za5 ["pot","many"] fT fdT)(GT:⋯ 1 fT fdT ["pot","many"] Zfg)
  (DW:Def K mg "_law_word" Zba ["pot","words"] fW fdW) (GW:⋯ 2 fW fdW ["pot","words"] Zqp) (DL:Def K mg "_law_places" Zer ["pot","many","most"] fL fdL) (GL:⋯ 2 fL fdL ["pot","many","most"] Zqr) (DA:Def K mg "_law_pairs" Zde pPa fA fdA) (GA:⋯ 3 fA fdA pPa Z3g):
  ⋯ 4 f fd pNs (Zty K):=by
 nomatch F.fn.ok Z7o
 ·obtain⟨a,l,aa,at',mo,few,calls,ns,rows,avs,rfl,_⟩:=h
  rfl
 ·obtain⟨a,l,aa,at',mo,few,calls,ns,rows,avs,rfl,hS,hlen,hat,hR,g,haa,hA,hmo,hfew,hcalls,q⟩:=h
  have nd:=Z7o.nd
  have hr1:Zcb 1 _:=hr.mono (by decide)
  have hr2:Zcb 2 _:=hr.mono (by decide)
  have gle:=g.le
  have gne:1<=rows.length:=by have:=g.ne;omega
  ac_nf
  refine'⟨_,(pS (sE 7 nd (Zbj Zaa))
   (pS (sE 8 nd (Zbj Zaa))
   (pS (Zbc Yk rfl (Zbv (by rfl) T.range (pC (Zaf DT GT hr1 (pC (Zaf DP GP hr1 (pC (pv 0) (pC (pv 1) Zaa))) (pC (Za0 Zbz (pv 4) Zae) Zaa))) Zaa)) (gE 9 nd)
    (pS (sE 10 nd (Zaf DP GP hr1 (pC (pv 0) (pC (Za0 Zbz (Za0 Zbz (pv 1) Zae) (pv 9)) Zaa))))
   (pS (Zax (Zf0 Yu Yi1 Yj1 Zbw (pv 8) (pC (Zaf DW GW hr2 (pC (pv 10) (pC (pv 8) Zaa))) Zaa)))
   (pS (sE 11 nd (Zaf DL GL hr2 (pC (pv 10) (pC (Zam Zan (by rfl) T.len Yr (pC (pv 2) Zaa)) (pC (pv 6) Zaa)))))
   (Zac (Zax (Zf0 Yu Yi1 Yj1 Zbw (pv 7) (pC (Zbi (pC (Za3 (r:=Ziu K) Zay (pv 8) (pv 9) (λ_ _=>rfl)) (pC (pv 11) (pC (Zaf DA GA hr (pC (pv 10) (pC (pv 2) (pC (pv 3) (pC (pv 11) (pC (pv 5) Zaa)))))) Zaa)))) Zaa))))))))
   (Zac (Zao (pv 7)))))),?_⟩
  exists let b:=_;let c:=Zar _ b;let e:=Zar _ c;let f:=Zar _ e;let g:=Zar (Zgf _ _ f) a;let h:=Zar _ g;Zar _ h _ _ _
  refine⟨Yv _,λln hln=>⟨Yv _,λlw hlw=>?_⟩⟩
  have s1:Zaj H (upd H ln (.lst [])):=Za9 hln
  have s2:Zaj (upd H ln (.lst [])) (upd (upd H ln (.lst [])) lw (.lst [])):=Za9 hlw
  have lwH:H lw=none:=s1.free hlw
  have nw:ln≠lw:=λz=>by rw[<- z,uS]at hlw;cases hlw
  have hln2:=s2 ln _ uS
  have hlw2:(upd (upd H ln (.lst [])) lw (.lst [])) lw=some (.lst []):=uS
  have s02:=s1.trans s2
  generalize upd (upd H ln (.lst [])) lw (.lst [])=H2 at s02 hln2 hlw2
  refine⟨_,rfl,_,rfl,a,(at':Int),ns,rfl,s02.seq hS,hlen,by omega,by omega,λp0 o0 hp0 ho0=>⟨_,rfl,_,_,rfl,rfl,p0,_,o0,rfl,uS,ho0,by omega,by omega,λv o1 hv0 hv1 ho1=>⟨v,rfl,by omega,by omega,?_⟩⟩⟩
  have s23:Zaj H2 (upd (upd H2 p0 o0) p0 o1):=λb o e=>by rw[Zab (nNo e hp0),Zab (nNo e hp0)];exact e
  generalize upd (upd H2 p0 o0) p0 o1=H3 at s23
  let Iv1:NW:=λi σ H'=>∃(nms:List Nam) (us:LV) (x9 x10 x11:OV),σ=[some (.ref a),some (.int at'),some (.ref l),some (.ref aa),some (.int mo),some (.int few),some (.int calls),some (.ref ln),some (.ref lw),x9,x10,x11]/\Zaj H H'/\H' ln=some (.lst us)/\Zge H' nms us/\H' lw=some (.lst ((nms.map (·.1)).map V.str))/\Z5b rows few calls nms/\nms.length=i
  refine Zat Zbm Iv1
   ⟨[],[],none,none,none,rfl,s02.trans s23,s23 _ _ hln2,.nil,s23 _ _ hlw2,⟨(λn h=>nomatch h),Yf3,(λn h=>nomatch h),(λn h=>nomatch h)⟩,rfl⟩ (λ_ _ _ _ _=>trivial) ?_ ?_
  ·rintro i v' σ H4 hi ⟨nms,us,x9,x10,x11,rfl,s4,hln4,hN4,hlw4,gn4,nl⟩
   obtain⟨hi,rfl⟩:=Za6 hi
   have hi8:i<9:=by omega
   refine⟨_,rfl,_,rfl,_,_,rfl,rfl,_,rfl,_,_,rfl,rfl,a,(at' + 1 + (0 + (i:Int)):Int),ns,rfl,s4.seq hS,hlen,by omega,by omega,λp o hp ho=>?_⟩
   have s45:Zaj H4 (upd H4 p o):=Za9 hp
   have hp5:(upd H4 p o) p=some o:=uS
   have pH:H p=none:=s4.free hp
   have hln5:=s45 _ _ hln4
   have hlw5:=s45 _ _ hlw4
   have hN5:=hN4.mono (Zbs s45)
   have s5:=s4.trans s45
   generalize upd H4 p o=H5 at s45 hp5 hln5 hlw5 hN5 s5
   have plw:p≠lw:=nNo hlw4 hp |> Ym
   have pln:p≠ln:=nNo hln4 hp |> Ym
   have wok:Zkr (nms.map (·.1)):=⟨λx hx=>by
    obtain⟨n,hn,e⟩:=Ye.mp hx
    rw[<- e];exact(gn4.each n hn).word,gn4.nd⟩
   have wl:(nms.map (·.1)).length<=8:=by rw[Ya];omega
   refine⟨_,rfl,.inl ⟨rfl,_,SqL.of hlw5⟩,_,rfl,_,rfl,p,lw,nms.map (·.1),rfl,plw,⟨o,hp5,ho⟩,hlw5,wok,by omega,λx H6 d56 wx nx=>?_⟩
   have hlw6:=d56.keep _ _ (Ym plw) hlw5
   refine⟨lw,_,_,rfl,rfl,hlw6,Za2 (by rw[Ya];omega),?_⟩
   have e7:(nms.map (·.1)).map V.str++[V.str x]=((nms.map (·.1))++[x]).map V.str:=by rw[Yb1];rfl
   have d57:∀ b u,b≠p->b≠lw->H5 b=some u->(upd H6 lw (.lst (((nms.map (·.1)).map V.str)++[V.str x]))) b=some u:=λb u h1 h2 e=>by rw[Zab h2];exact d56.keep _ _ h1 e
   obtain⟨o6,hp6,ho6⟩:=id d56.pot
   have hp7:(upd H6 lw (.lst (((nms.map (·.1)).map V.str)++[V.str x]))) p=some o6:=by rw[Zab plw];exact hp6
   have hlw7:(upd H6 lw (.lst (((nms.map (·.1)).map V.str)++[V.str x]))) lw=some (.lst (((nms.map (·.1))++[x]).map V.str)):=by rw[uS,e7]
   have s7:Zaj H (upd H6 lw (.lst (((nms.map (·.1)).map V.str)++[V.str x]))):=λb u e=>d57 b u (nNo e pH) (nNo e lwH) (s5 _ _ e)
   have hln7:=d57 _ _ (Ym pln) nw hln5
   have tk7:∀ b zs,H5 b=some (.tup zs)->(upd H6 lw (.lst (((nms.map (·.1)).map V.str)++[V.str x]))) b=some (.tup zs):=λb zs e=>d57 _ _ (λz=>by rw[z,hp5]at e;obtain⟨_,_,q',_⟩:=ho;rw[q']at e;cases e) (λz=>by rw[z,hlw5]at e;cases e) e
   have hN7:=hN5.mono tk7
   generalize upd H6 lw (.lst (((nms.map (·.1)).map V.str)++[V.str x]))=H7 at hp7 hlw7 s7 hln7 hN7
   obtain⟨vs0,hvs0,hpr0⟩:=id hR
   have hvl:vs0.length=rows.length:=hpr0.length.symm
   refine⟨_,rfl,_,rfl,l,vs0,rfl,.inl (SqL.of (s7 _ _ hvs0)),_,rfl,p,rows.length,calls,by rw[hvl];rfl,⟨o6,hp7,ho6⟩,gne,gle,hcalls,λn H8 d78 n1 n4 hc=>?_⟩
   obtain⟨o8,hp8,ho8⟩:=id d78.pot
   have hlw8:=d78.keep _ _ (Ym plw) hlw7
   have hln8:=d78.keep _ _ (Ym pln) hln7
   have s8:Zaj H H8:=λb u e=>d78.keep _ _ (nNo e pH) (s7 _ _ e)
   have hN8:Zge H8 nms us:=hN7.mono λb xs e=>Drawn.tup d78 hp7 ho6 e
   have hxi:atI (((nms.map (·.1))++[x]).map V.str) (0 + (i:Nat):Int)=some (.str x):=by
    rw[Yy3]
    refine Zb5 ?_
    rw[Yp,Yu2 (by rw[Ya];omega),Ya,nl,Nat.sub_self]
    rfl
   refine⟨_,rfl,.inl ⟨rfl,_,SqL.of hln8⟩,_,rfl,_,rfl,lw,_,_,_,rfl,rfl,SqL.of hlw8,hxi,_,rfl,_,rfl,_,rfl,_,rfl,_,rfl,_,rfl,p,l,aa,n,few,rows,avs,rfl,⟨o8,hp8,ho8⟩,Zbn hR s8,g,s8 _ _ haa,hA.mono (λb xs e=>s8 _ _ e),n1,n4,hfew,λtp ps ws H9 d89 htp hPs gdp kn pl=>⟨sL (by show 3<=100000;decide),λt ht=>?_⟩⟩
   have s910:Zaj H9 (upd H9 t (.tup [.str x,.int n,.ref tp])):=Za9 ht
   have ht10:(upd H9 t (.tup [.str x,.int n,.ref tp])) t=some (.tup [.str x,.int n,.ref tp]):=uS
   generalize upd H9 t (.tup [.str x,.int n,.ref tp])=H10 at s910 ht10
   have hln10:=s910 _ _ (d89.keep _ _ (Ym pln) hln8)
   have usl:us.length<=8:=by have:=Yz hN4;omega
   refine⟨ln,_,_,rfl,rfl,hln10,Za2 (by omega),nms++[(x,n,ps)],us++[.ref t],_,_,_,rfl,?_,uS,?_,?_,?_,?_⟩
   ·exact λb u e=>by rw[Zab (nNo e hln)];exact s910 _ _ (d89.keep _ _ (nNo e pH) (s8 _ _ e))
   ·have tk:∀ b zs,H10 b=some (.tup zs)->(upd H10 ln (.lst (us++[V.ref t]))) b=some (.tup zs):=λb zs e=>by
     rw[Zab (λz=>by rw[z,hln10]at e;cases e)];exact e
    exact Yh2 (((hN8.mono λb xs e=>Drawn.tup d89 hp8 ho8 e).mono (Zbs s910)).mono tk) ⟨t,tp,ws,rfl,tk _ _ ht10,tk _ _ (s910 _ _ htp),(hPs.mono (Zbs s910)).mono tk⟩
   ·rw[Zab (Ym nw),Yb1]
    exact s910 _ _ (d89.keep _ _ (Ym plw) hlw8)
   ·refine⟨λn' hn'=>?_,?_,λn' hn'=>?_,λn' hn'=>?_⟩
    ·rcases Yo.mp hn' with z | z
     ·exact gn4.each _ z
     ·rw[Yc.mp z];exact⟨wx,n1,n4,gdp,kn⟩
    ·rw[Yb1,Yc3]
     exact⟨gn4.nd,by simp,λa ha b hb e=>nx (by have z:b=x:=Yc.mp hb;rw[<- z,<- e];exact ha)⟩
    ·rcases Yo.mp hn' with z | z
     ·exact gn4.few _ z
     ·rw[Yc.mp z];exact pl
    ·rcases Yo.mp hn' with z | z
     ·exact gn4.calls _ z
     ·rw[Yc.mp z];exact hc
   ·rw[Yi,nl];rfl
  ·rintro σ H4 ⟨nms,us,x9,x10,x11,rfl,s4,hln4,hN4,hlw4,gn4,nl⟩
   rw[Za4]at nl
   exact⟨_,rfl,q ln nms us H4 s4 hln hln4 hN4 gn4 (by omega)⟩
mutual
inductive TmV(H:Hp):Dt->V->Prop
 | int (i:Int):TmV H (.int i) (.int i)
 | str (x:Str) (hx:PyData.strOk x=true):TmV H (.str x) (.str x)
 | tup {a:Addr} {vs:LV} {ds:List Dt}:H a=some (.tup vs)->TmsV H ds vs->TmV H (.tuple ds) (.ref a)
inductive TmsV(H:Hp):List Dt->LV->Prop
 | nil:TmsV H [] []
 | cons {d:Dt} {ds:List Dt} {v:V} {vs:LV}:TmV H d v->TmsV H ds vs->TmsV H (d :: ds) (v :: vs)
end
mutual
theorem TmV.keep{H H':Hp}(k:∀ b xs,H b=some (.tup xs)->H' b=some (.tup xs)):∀ {d:Dt}{v:V},TmV H d v->TmV H' d v
 | _,_,.int i=>.int i
 | _,_,.str x hx=>.str x hx
 | _,_,.tup h t=>.tup (k _ _ h) (t.keep k)
theorem TmsV.keep{H H':Hp}(k:∀ b xs,H b=some (.tup xs)->H' b=some (.tup xs)):∀ {ds:List Dt}{vs:LV},TmsV H ds vs->TmsV H' ds vs
 | _,_,.nil=>.nil
 | _,_,.cons h t=>.cons (h.keep k) (t.keep k)
end
mutual
theorem TmV.rep{K:Fg}{H:Hp}:∀ {d:Dt}{v:V},TmV H d v->Rep K H v d
 | _,_,.int i=>.int i
 | _,_,.str x _=>.str x
 | _,_,.tup h t=>.tuple (SqT.of h) t.reps
theorem TmsV.reps{K:Fg}{H:Hp}:∀ {ds:List Dt}{vs:LV},TmsV H ds vs->Reps K H vs ds
 | _,_,.nil=>.nil
 | _,_,.cons h t=>.cons h.rep t.reps
end
mutual
theorem TmV.lay{H:Hp}:∀ {d:Dt}{v:V},TmV H d v->(W.kqdP d).canLay0=true
 | _,_,.int i=>by rw[W.kqdP];rfl
 | _,_,.str x hx=>by rw[W.kqdP];exact hx
 | _,_,.tup h t=>by rw[W.kqdP];exact t.lays
theorem TmsV.lays{H:Hp}:∀ {ds:List Dt}{vs:LV},TmsV H ds vs->PyData.canLayAll0 (W.kqdPs ds)=true
 | _,_,.nil=>by rw[W.kqdPs];rfl
 | _,_,.cons h t=>by
  rw[W.kqdPs]
  show(_&&_)=true
  rw[h.lay,t.lays]
  rfl
end
def TmsV.layL{H:Hp}{ds:List Dt}{vs:LV}(h:TmsV H ds vs):(W.kqdP (.list ds)).canLay0=true:=by rw[W.kqdP];exact h.lays
theorem TmsV.length{H:Hp}:∀ {ds:List Dt}{vs:LV},TmsV H ds vs->ds.length=vs.length
 | _,_,.nil=>rfl
 | _,_,.cons _ t=>by rw[Yf1,Yf1,t.length]
theorem TmsV.append{H:Hp}:∀ {ds es:List Dt}{vs us:LV},TmsV H ds vs->TmsV H es us->TmsV H (ds++es) (vs++us)
 | _,_,_,_,.nil,h=>h
 | _,_,_,_,.cons a t,h=>.cons a (t.append h)
theorem TmsV.at_{H:Hp}:∀ {ds:List Dt}{vs:LV},TmsV H ds vs->∀ {i:Nat}{v:V},vs[i]?=some v->∃ d,ds[i]?=some d/\TmV H d v
 | _,_,.cons h t,0,v,e=>by
  rw[List.getElem?_cons_zero]at e
  cases e
  exact⟨_,rfl,h⟩
 | _,_,.cons h t,i + 1,v,e=>by
  rw[List.getElem?_cons_succ]at e
  exact t.at_ e
 | _,_,.nil,i,v,e=>by simp at e
theorem TmsV.drop{H:Hp}:∀ {ds:List Dt}{vs:LV},TmsV H ds vs->∀ n,TmsV H (ds.drop n) (vs.drop n)
 | _,_,h,0=>h
 | _,_,.nil,n + 1=>.nil
 | _,_,.cons _ t,n + 1=>t.drop n
def Zfd:Dt->List Dt
 | .tuple ds=>ds.drop 1
 | _=>[]
def Zvm:∃ f:Nat->List Dt->List Dt,(∀ l,f 0 l=l)/\∀ k l,f (k + 1) l=(f k l).flatMap Zfd:=⟨λk l=>Nat.rec l (λ_ r=>r.flatMap Zfd) k,λ_=>rfl,λ_ _=>rfl⟩
def lvl:Nat->List Dt->List Dt:=Classical.choose Zvm
def Zbe(l:List Dt):lvl 0 l=l:=(Yz3 Zvm).1 l
def Zcn(k:Nat)(l:List Dt):lvl (k + 1) l=(lvl k l).flatMap Zfd:=(Yz3 Zvm).2 k l
def Zwi:∃ f:Nat->List Dt->Nat,(∀ l,f 0 l=0)/\∀ k l,f (k + 1) l=f k l + (lvl k l).length:=⟨λk l=>Nat.rec 0 (λk r=>r + (lvl k l).length) k,λ_=>rfl,λ_ _=>rfl⟩
def Zc7:Nat->List Dt->Nat:=Classical.choose Zwi
def Zb4(l:List Dt):Zc7 0 l=0:=(Yz3 Zwi).1 l
def Zch(k:Nat)(l:List Dt):Zc7 (k + 1) l=Zc7 k l + (lvl k l).length:=(Yz3 Zwi).2 k l
def Zh5(d:Dt):Bool:=(lvl 12 [d]).isEmpty&&decide (Zc7 12 [d]<=40)
def Z20(xs:LV):Zoo xs (some 1) none=xs.drop 1:=by
 unfold Zoo
 have e:HT.sIx xs.length 0 (some (1:Int))=min 1 xs.length:=HT.sIx_nat xs.length 0 1
 rw[e,HT.sIx_none]
 cases xs with
 | nil=>rfl
 | cons x r =>
  have e2:min 1 (x :: r).length=1:=by rw[Yf1];omega
  rw[e2]
  exact Ya2 (by rw[Yq2];omega)
def Zpe:Sp:=λvs H Q _=>∃(d:Dt) (v:V),vs=[v]/\TmV H d v/\Q (.bl (match d with | .int _=>true | _=>false)) H
def Ztw:Sp:=λvs H Q _=>∃(l:Addr) (ds:List Dt) (us:LV),vs=[.ref l]/\H l=some (.lst us)/\TmsV H ds us/\(ds.flatMap Zfd).length<=1000/\∀ l' us' H',H l'=none->Zaj H H'->H' l'=some (.lst us')->TmsV H' (ds.flatMap Zfd) us'->Q (.ref l') H'
def Ztt:Sp:=λvs H Q _=>∃(d:Dt) (v:V),vs=[v]/\TmV H d v/\(∀ k,(lvl k [d]).length<=1000)/\∀ H',Zaj H H'->Q (.bl (Zh5 d)) H'
structure Ztd(mg:Str->OU):Prop where
 isi:mg "isinstance"=none
 int:mg "int"=none
 bool:mg "bool"=none
 tuple:mg "tuple"=none
 len:mg "len"=none
 range:mg "range"=none
theorem Zki{α β:Type}(f:α->List β):∀(l:List α) (i:Nat),((l.take i).flatMap f).length<=(l.flatMap f).length
 | [],i=>by rw[List.take_nil];exact Yd _
 | a :: l,0=>Yv _
 | a :: l,i + 1=>by
  have:=Zki f l i
  rw[List.take_succ_cons,List.flatMap_cons,List.flatMap_cons,Yi,Yi]
  omega
def Z9b:Zak ["thing"] ["thing"] (Zad Ze5):=by nofun
def Zq9(F:Def K mg "is_number" Ze5 ["thing"] f fd)(T:Ztd mg):⋯ 1 f fd ["thing"] Zpe:=by
 nomatch F.fn.ok Z9b
 ·obtain⟨d,v,rfl,_⟩:=h
  rfl
 ·obtain⟨d,v,rfl,hv,q⟩:=h
  ac_nf
  refine'⟨_,Zac (Zao (Zk9 (Zam Zgv (by rfl) T.isi Yo1 (pC (pv 0) (pC (Zg5 (v:=.ty "int") (by rfl) T.int Yw4 rfl) Zaa))) (Zk8 (Z30 (Zam Zgv (by rfl) T.isi Yo1 (pC (pv 0) (pC (Zg5 (v:=.ty "bool") (by rfl) T.bool PyProof.Rows.boot_bool rfl) Zaa))))))),?_⟩
  cases hv with
  | int i=>exact⟨_,rfl,_,_,_,_,rfl,.int i,rfl,_,rfl,Zfe ⟨_,rfl,_,_,_,_,rfl,.int i,rfl,_,rfl,q⟩⟩
  | str x hx=>exact⟨_,rfl,_,_,_,_,rfl,.str x,rfl,_,rfl,Zcu q⟩
  | tup h t=>exact⟨_,rfl,_,_,_,_,rfl,.tup h,rfl,_,rfl,Zcu q⟩
abbrev nPO:LS:=["level","parts","part"]
def Z7l:Zak nPO ["level"] (Zad Zhi):=by nofun
def Zxv(F:Def K mg "parts_of" Zhi ["level"] f fd)(T:Ztd mg):⋯ 1 f fd ["level"] Ztw:=by
 nomatch F.fn.ok Z7l
 ·obtain⟨l,ds,us,rfl,_⟩:=h
  rfl
 ·obtain⟨l,ds,us,rfl,hl,hT,hz,q⟩:=h
  have nd:=Z7l.nd
  ac_nf
  refine'⟨_,(pS (sE 1 nd (Zbj Zaa))
   (pS (Zbc Yk rfl (Zbb (pv 0)) (gE 2 nd)
    (Zac (Zaz (Zcm (Zam Zgv (by rfl) T.isi Yo1 (pC (pv 2) (pC (Zg5 (v:=.ty "tuple") (by rfl) T.tuple Yh1 rfl) Zaa))))
     (Zac (Zax (Zf0 Yu Ya3 Yb3 Z1q (pv 1) (pC (Zdm (r:=Zzo K) Ziw (pv 2) (Ze9 Zae) Zfa) Zaa)))) Zai)))
   (Zac (Zao (pv 1))))),?_⟩
  exists let b:=_;let c:=Zhf _ b _;let e:=Zar (Zgf _ _ c) a;Zar _ e _ _ _
  refine⟨Yv _,λp hp=>?_⟩
  have s1:Zaj H (upd H p (.lst [])):=Za9 hp
  have lp:l≠p:=nNo hl hp
  have dl:=hT.length
  let Iv1:NW:=λi σ H'=>∃(x:OV) (ws:LV),σ=[some (.ref l),some (.ref p),x]/\Zaj H H'/\H' p=some (.lst ws)/\TmsV H' ((ds.take i).flatMap Zfd) ws
  refine⟨_,rfl,l,rfl,⟨_,SqL.of (s1 _ _ hl)⟩,Zat (Zav (xs:=us)) Iv1
   ⟨none,[],rfl,s1,uS,by rw[Ym1];exact .nil⟩ (λi σ H' _ h0=>by obtain⟨_,_,_,s,_⟩:=h0;exact SqL.of (s _ _ hl)) ?_ ?_⟩
  ·rintro i v σ H2 hi ⟨x,ws,rfl,s2,hp2,hW⟩
   obtain⟨d,hd,hv⟩:=hT.at_ hi
   have e:(ds.take (i + 1)).flatMap Zfd=(ds.take i).flatMap Zfd++Zfd d:=by
    rw[Yt,hd]
    simp[Ye4]
   have lz:=Zki Zfd ds (i + 1)
   rw[e,Yi]at lz
   have wl:=hW.length
   cases hv with
   | int j=>exact⟨_,rfl,_,_,_,_,rfl,.int j,rfl,_,rfl,Zcu ⟨_,ws,rfl,s2,hp2,by rw[e];show TmsV H2 (_++[]) ws;rw[Yn1];exact hW⟩⟩
   | str j hj=>exact⟨_,rfl,_,_,_,_,rfl,.str j,rfl,_,rfl,Zcu ⟨_,ws,rfl,s2,hp2,by rw[e];show TmsV H2 (_++[]) ws;rw[Yn1];exact hW⟩⟩
   | @tup a vs es ha ht =>
    refine⟨_,rfl,_,_,_,_,rfl,.tup (s2 _ _ ha),rfl,_,rfl,Zfe ⟨_,rfl,.inl ⟨rfl,_,SqL.of hp2⟩,_,rfl,_,rfl,?_⟩⟩
    unfold Zg1
    refine Ziy (K:=K) (lo:=some 1) (hi:=none) (s2 _ _ ha) λb H3 s3 hb=>?_
    rw[Z20]at hb
    have hp3:=s3 _ _ hp2
    have bp:b≠p:=λz=>by rw[z,hp3]at hb;cases hb
    have kd:TmsV H3 (Zfd (.tuple es)) (vs.drop 1):=(ht.keep λb xs e=>s3 _ _ (s2 _ _ e)).drop 1
    have kl:=kd.length
    refine⟨p,b,_,_,rfl,rfl,hp3,SqT.of hb,sL (by omega),_,_,rfl,λb' o e'=>by rw[Zab (nNo e' hp)];exact s3 _ _ (s2 _ _ e'),uS,?_⟩
    rw[e]
    have tk:∀ b xs,H3 b=some (.tup xs)->(upd H3 p (.lst (ws++vs.drop 1))) b=some (.tup xs):=λb xs e=>by rw[Zab (λz=>by rw[z,hp3]at e;cases e)];exact e
    exact((hW.keep (Zbs s3)).keep tk).append (kd.keep tk)
  ·rintro σ H2 ⟨x,ws,rfl,s2,hp2,hW⟩
   rw[<- dl,Ye1]at hW
   exact⟨_,rfl,q p ws H2 hp s2 hp2 hW⟩
abbrev nSm:LS:=["term","level","number","deep"]
def Z7f:Zak nSm ["term"] (Zad Zhj):=by nofun
def Zxt{T1 T2:Tok}(F:Def K mg "is_small" Zhj ["term"] f fd)(T:Ztd mg)(c1:mg "MOST_DEEP"=some (.int 12 T1))(c2:mg "MOST_PARTS"=some (.int 40 T2))(DP:Def K mg "parts_of" Zhi ["level"] fP fdP):⋯ 2 f fd ["term"] Ztt:=by
 have GP:⋯ 1 fP fdP ["level"] Ztw:=Zxv DP T
 nomatch F.fn.ok Z7f
 ·obtain⟨d,v,rfl,_⟩:=h
  rfl
 ·obtain⟨d,v,rfl,hv,hz,q⟩:=h
  have nd:=Z7f.nd
  ac_nf
  refine'⟨_,(pS (sE 1 nd (Zbj (pC (pv 0) Zaa)))
   (pS (sE 2 nd Zae)
   (pS (Zbc Yk rfl (Zbv (by rfl) T.range (pC (Zc4 (v:=.int 12) (by rfl) c1 ⟨_,rfl⟩) Zaa)) (gE 3 nd)
    (pS (sE 2 nd (Za0 Zbz (pv 2) (Zam Zan (by rfl) T.len Yr (pC (pv 1) Zaa))))
   (Zac (sE 1 nd (Zaf DP GP hr (pC (pv 1) Zaa))))))
   (Zac (Zao (Zk9 (Z03 (pv 1)) (Zk8 (Zhz Zjk (pv 2) (Zc4 (v:=.int 40) (by rfl) c2 ⟨_,rfl⟩) (Zaq _))))))))),?_⟩
  exists let b:=_;let c:=Zar _ b;let e:=Zar (Zgf _ _ c) a;let f:=Zar _ e;Zar _ f _ _ _
  refine⟨_,rfl,sL (by show 1<=100000;decide),λp hp=>?_⟩
  have s1:Zaj H (upd H p (.lst [v])):=Za9 hp
  let Iv2:NW:=λi σ H'=>∃(x:OV) (l:Addr) (us:LV),σ=[some v,some (.ref l),some (.int (Zc7 i [d]:Nat)),x]/\Zaj H H'/\H' l=some (.lst us)/\TmsV H' (lvl i [d]) us
  refine⟨12,rfl,by decide,by decide,Zat Zbm Iv2
   ⟨none,p,[v],by rw[Zb4];rfl,s1,uS,by rw[Zbe];exact .cons (hv.keep (Zbs s1)) .nil⟩ (λ_ _ _ _ _=>trivial) ?_ ?_⟩
  ·rintro i v' σ H2 hi ⟨x,l,us,rfl,s2,hl2,hT2⟩
   obtain⟨hi,rfl⟩:=Za6 hi
   have ll:=hT2.length
   have hz1:=hz (i + 1)
   rw[Zcn]at hz1
   refine⟨_,rfl,_,rfl,l,us,rfl,.inl (SqL.of hl2),_,_,rfl,rfl,?_⟩
   refine⟨_,rfl,l,_,us,rfl,hl2,hT2,hz1,λl' us' H3 hl' s3 hl3 hT3=>⟨some (.int (0 + (i:Int))),l',us',?_,s2.trans s3,hl3,by rw[Zcn];exact hT3⟩⟩
   have e:((Zc7 i [d]:Nat):Int) + (us.length:Int)=((Zc7 (i + 1) [d]:Nat):Int):=by
    rw[Zch,ll]
    omega
   rw[<- e]
   rfl
  ·rintro σ H2 ⟨x,l,us,rfl,s2,hl2,hT2⟩
   have ll:=hT2.length
   have len12:(Zee 0 (12:Int).toNat).length=12:=by decide
   rw[len12]at hT2 ll
   rw[len12]
   have q2:=q H2 s2
   unfold Zh5 at q2
   have e:(lvl 12 [d]).isEmpty=us.isEmpty:=by
    cases us with
    | nil=>exact Yu4.mpr (List.length_eq_zero_iff.mp ll)
    | cons u r =>
     cases hh:lvl 12 [d]with
     | nil=>rw[hh]at ll;cases ll
     | cons=>rfl
   rw[e]at q2
   refine⟨_,rfl,_,.inl ⟨us,SqL.of hl2,rfl⟩,_,rfl,?_⟩
   cases us with
   | nil =>
    refine Zfe ⟨_,rfl,_,_,rfl,rfl,?_⟩
    have z:decide (((Zc7 12 [d]:Nat):Int)<=40)=decide (Zc7 12 [d]<=40):=by
     congr 1
     exact propext ⟨λh=>by omega,λh=>by omega⟩
    show Q (.bl (decide (((Zc7 12 [d]:Nat):Int)<=40))) H2
    rw[z]
    exact q2
   | cons u r=>exact Zcu q2
def Zwv(ns:List Nam)(x:Str):Option Nat:=(ns.find? λn=>decide (n.1=x)).map (·.2.1)
def Zhy(ns:List Nam):Dt->Bool
 | .tuple (.str x :: r)=>match Zwv ns x with
  | some k=>decide (r.length=k)
  | none=>false
 | _=>false
def Zhn{ns:List Nam}{x:Str}{k:Nat}(r:List Dt)(h:Zwv ns x=some k):Zhy ns (.tuple (.str x :: r))=decide (r.length=k):=by
 show(match Zwv ns x with | some k=>decide (r.length=k) | none=>false)=_
 rw[h]
def Zi0{ns:List Nam}{x:Str}(r:List Dt)(h:Zwv ns x=none):Zhy ns (.tuple (.str x :: r))=false:=by
 show(match Zwv ns x with | some k=>decide (r.length=k) | none=>false)=_
 rw[h]
def Zm1(ns:List Nam)(m:Nat):Nat->Dt->Bool
 | 0,_=>false
 | k + 1,d=>match d with
  | .int i=>decide (0<=i)&&decide (i<m)
  | d=>Zhy ns d&&(Zfd d).all (Zm1 ns m k)
def Zv2:Dt->Bool
 | .tuple (.int _ :: _)=>true
 | .tuple (.str _ :: _)=>true
 | .tuple (_ :: _)=>false
 | _=>true
theorem Zck:∀(k:Nat) (a b:List Dt),lvl k (a++b)=lvl k a++lvl k b
 | 0,a,b=>by rw[Zbe,Zbe,Zbe]
 | k + 1,a,b=>by rw[Zcn,Zcn,Zcn,Zck k,Ye4]
theorem Zfw:∀(k:Nat) (l:List Dt),lvl (k + 1) l=lvl k (l.flatMap Zfd)
 | 0,l=>by rw[Zcn,Zbe,Zbe]
 | k + 1,l=>by rw[Zcn,Zfw k,Zcn]
def Zvl{k:Nat}{d c:Dt}(h:c∈Zfd d):∀ e∈lvl k [c],e∈lvl (k + 1) [d]:=λe he=>by
 rw[Zfw]
 have e1:[d].flatMap Zfd=Zfd d:=by simp
 rw[e1]
 obtain⟨a,b,z⟩:=List.append_of_mem h
 rw[z,show a++c :: b=a++([c]++b)from rfl,Zck,Zck]
 exact Yl1 _ (Yf2 _ he)
def Zvj{k:Nat}{d c:Dt}(h:c∈Zfd d)(z:lvl (k + 1) [d]=[]):lvl k [c]=[]:=by
 cases hh:lvl k [c]with
 | nil=>rfl
 | cons e r =>
  have:=Zvl (k:=k) h e (by rw[hh];exact .head _)
  rw[z]at this
  cases this
def Wf(d:Dt):Prop:=∀ k,∀ e∈lvl k [d],Zv2 e=true
def Wf.kid{d c:Dt}(w:Wf d)(h:c∈Zfd d):Wf c:=λk e he=>w (k + 1) e (Zvl h e he)
theorem Wf.head{d:Dt}(w:Wf d):Zv2 d=true:=w 0 d (by rw[Zbe];exact .head _)
def Zkp{ns:List Nam}{n:Nam}(nd:(ns.map (·.1)).Nodup)(h:n∈ns):Zwv ns n.1=some n.2.1:=by
 unfold Zwv
 induction ns with
 | nil=>cases h
 | cons m ms ih =>
  rw[Yy,Ys1]at nd
  rw[Yy2]
  rcases Yg1.mp h with e | h
  ·rw[e,Jb rfl];rfl
  ·have ne:¬ m.1=n.1:=λz=>nd.1 (by rw[z];exact Ye.mpr ⟨n,h,rfl⟩)
   rw[Jc ne]
   exact ih nd.2 h
def Zoz{ns:List Nam}{x:Str}(h:x∉ns.map (·.1)):Zwv ns x=none:=by
 unfold Zwv
 rw[Yn4.mpr λn hn z=>h (Ye.mpr ⟨n,hn,Je z⟩)]
 rfl
def at0(v:V)(vs:LV):atI (v :: vs) 0=some v:=Zb5 (j:=0) rfl
theorem Zz3(i:Int):∀ ws:LS,inV (.int i) (ws.map V.str)=false
 | []=>rfl
 | x :: r=>by
  show(eqV (.str x) (.int i) || inV (.int i) (r.map V.str))=false
  rw[Zz3 i r]
  rfl
def Znc(C B D:Addr):Sp:=λvs H Q _=>∃(p k:Addr) (rows:RS) (ns:List Nam) (d:Dt) (v:V),vs=[.ref p,v]/\Zen C B D H p k rows ns/\Zbo rows ns/\TmV H d v/\Zv2 d=true/\∀ H',Zaj H H'->Q (.bl (Zhy ns d)) H'
def Z9e:Zak ["book","term"] ["book","term"] (Zad Zhk):=by nofun
def Zsh(F:Def K mg "has_name" Zhk ["book","term"] f fd)(T:Ztd mg)(TD:Zi5 K D)(TB:Zo2 K B)
  (MW:Z2t K D fW fdW) (GW:⋯ 1 fW fdW ["self"] (Zqu C B D)) (MB:Zw3 K D fB fdB) (GB:⋯ 2 fB fdB ["self","word"] (Zlw C B D)) (MP:Zrz K B fP fdP):⋯ 3 f fd ["book","term"] (Znc C B D):=by
 have GP:⋯ 1 fP fdP ["self"] (Zj1 C B):=Zlf MP.fn TB
 nomatch F.fn.ok Z9e
 ·obtain⟨p,k,rows,ns,d,v,rfl,_⟩:=h
  rfl
 ·obtain⟨p,k,rows,ns,d,v,rfl,bk,gn,hv,hd,q⟩:=h
  have hr1:Zcb 1 _:=hr.mono (by decide)
  ac_nf
  refine'⟨_,(pS (Zaz (PW.pt (Zno (Zdh (Zcm (Zam Zgv (by rfl) T.isi Yo1 (pC (pv 1) (pC (Zg5 (v:=.ty "tuple") (by rfl) T.tuple Yh1 rfl) Zaa))))) (Zno (Zdh (Zjq (pv 1) (λ_=>rfl))) (Znn (Zal (r:=rIn K true) Zjd (Za3 (r:=Zhv K) Zbr (pv 1) Zae (λ_ _=>rfl)) (Zdb (pv 0) TD.cl MW.me GW hr1 MW.b .nil Zdn) (by with_unfolding_all rfl)))))) (Zac (Zao Zht)) Zai)
   (Zac (Zao (Zhz Zds (Zam Zan (by rfl) T.len Yr (pC (pv 1) Zaa)) (Za0 Zbz (Zdb (Zcs (pv 0) TD.cl MB.me GB hr MB.b .nil Zdn (pC (Za3 (r:=Zhv K) Zbr (pv 1) Zae (λ_ _=>rfl)) Zaa)) TB.cl MP.me GP hr1 MP.b .nil Zdn) Zae) (Zaq _))))),?_⟩
  exists Zar _ a _ _ _
  obtain⟨dx,bo,mo,o,bvs,mvs,h1,h2,h3,h4,h5,h6⟩:=bk.ex
  cases hv with
  | int i=>exact⟨_,rfl,_,_,_,_,rfl,.int i,rfl,_,rfl,Zfe (q _ (Zaj.refl _))⟩
  | str x hx=>exact⟨_,rfl,_,_,_,_,rfl,.str x,rfl,_,rfl,Zfe (q _ (Zaj.refl _))⟩
  | @tup a vs ds ha ht =>
   refine⟨_,rfl,_,_,_,_,rfl,.tup ha,rfl,_,rfl,Zcu ⟨_,rfl,_,.inr (.inl ⟨_,SqT.of ha,rfl⟩),?_⟩⟩
   cases ht with
   | nil=>exact Zfe (q _ (Zaj.refl _))
   | @cons d0 ds v0 vs h0 ht =>
    refine Zcu ⟨_,rfl,a,_,_,_,rfl,rfl,SqT.of ha,at0 _ _,_,rfl,p,dx,_,rfl,h1,Zvf _ _ _,p,k,rows,ns,rfl,bk,λlw hlw=>?_⟩
    have s1:Zaj H (upd H lw (.lst ((ns.map (·.1)).map V.str))):=Za9 hlw
    have hlw1:(upd H lw (.lst ((ns.map (·.1)).map V.str))) lw=some (.lst ((ns.map (·.1)).map V.str)):=uS
    generalize upd H lw (.lst ((ns.map (·.1)).map V.str))=H1 at s1 hlw1
    cases h0 with
    | int i =>
     refine⟨lw,_,rfl,.inl (SqL.of hlw1),rfl,Zgc _,_,rfl,?_⟩
     rw[Zz3]
     exact Zfe (q _ s1)
    | tup=>cases hd
    | str x hxo =>
     refine⟨lw,_,rfl,.inl (SqL.of hlw1),rfl,Zgc _,_,rfl,?_⟩
     rw[Zi2]
     by_cases hx:x∈ns.map (·.1)
     ·rw[Jb hx]
      obtain⟨n,hn,rfl⟩:=Ye.mp hx
      refine Zcu ⟨_,rfl,a,_,rfl,.inr (SqT.of (s1 _ _ ha)),_,rfl,p,dx,_,rfl,s1 _ _ h1,Zn8 _ _ _,_,rfl,a,_,_,_,rfl,rfl,SqT.of (s1 _ _ ha),at0 _ _,p,k,rows,ns,n,rfl,bk.mono s1,gn.nd,hn,λy bd=>?_⟩
      obtain⟨dxb,tb,usb,hb1,_⟩:=bd.ex
      refine⟨y,dxb,_,rfl,hb1,Zlh _ _ _,y,k,rows,n.2.1,_,rfl,bd,_,_,rfl,rfl,rfl,?_⟩
      have q1:=q H1 s1
      rw[Zhn _ (Zkp gn.nd hn)]at q1
      have e:decide (V.int (((V.str n.1 :: vs).length:Nat):Int)=V.int ((n.2.1:Int) + 1))=decide (ds.length=n.2.1):=by
       rw[ht.length,Yf1]
       exact decide_eq_decide.mpr ⟨λz=>by injection z with z;omega,λz=>by rw[z];rfl⟩
      show Q (.bl (decide (V.int (((V.str n.1 :: vs).length:Nat):Int)=V.int ((n.2.1:Int) + 1)))) H1
      rw[e]
      exact q1
     ·rw[Jc hx]
      have q1:=q H1 s1
      rw[Zi0 _ (Zoz hx)]at q1
      exact Zfe q1
def Zts(C B D:Addr)(j:Nat):Sp:=λvs H Q _=>∃(p k:Addr) (rows:RS) (ns:List Nam) (d:Dt) (v:V) (m:Nat),vs=[.ref p,.int m,v]/\Zen C B D H p k rows ns/\Zbo rows ns/\TmV H d v/\Wf d/\lvl j [d]=[]/\(∀ i,(lvl i [d]).length<=1000)/\∀ H',Zaj H H'->Q (.bl (Zm1 ns m j d)) H'
def Z4r{k:Nat}{d c:Dt}(h:c∈Zfd d)(z:(lvl (k + 1) [d]).length<=1000):(lvl k [c]).length<=1000:=by
 rw[Zfw]at z
 have e1:[d].flatMap Zfd=Zfd d:=by simp
 obtain⟨a,b,e⟩:=List.append_of_mem h
 rw[e1,e,show a++c :: b=a++([c]++b)from rfl,Zck,Zck,Yi,Yi]at z
 omega
def Zs5{J:It}{vs:LV}{Ok:Hp->Prop}(R:Zqf J vs Ok){js:LN}{te:TE}{σ:St}{Q:VK}{H1:Hp}(hz:vs.length<=1000){ds:List Dt}(F:Dt->Bool)
  (hp:TmsV H1 ds vs) (hok:∀ H,Zaj H1 H->Ok H)
  (he:∀ d v H' (R:VK),Zaj H1 H'->d∈ds->TmV H1 d v->(∀ H'',Zaj H' H''->R (.bl (F d)) H'')->te (some v :: js.map λj=>(σ[j]?).join) H' R)
  (hd:∀ D H',H1 D=none->Zaj H1 H'->H' D=some (.lst ((ds.map F).map V.bl))->Q (.ref D) H'):compBody 1 js (Zff 0) Zxa te σ Q J H1:=by
 have vl:=hp.length
 let Iv1:Addr->Nat->LV->St->Hp->Prop:=λD i ys σ' H=>H1 D=none/\Zaj H1 H/\H D=some (.lst ys)/\ys=((ds.take i).map F).map V.bl/\∃ o,σ'=o :: js.map λj=>(σ[j]?).join
 refine Zdq R (sL (by omega)) Iv1 ?_ ?_ ?_ ?_
 ·intro D hD
  exact⟨hD,Za9 hD,uS,by rw[Ym1];rfl,none,rfl⟩
 ·rintro D i ys σ' H hi ⟨hD,hs,hl,q,_⟩
  refine⟨hok H hs,?_⟩
  rw[q,Ya,Ya,Yd1]
  omega
 ·rintro D i v ys σ' H hD hx ⟨_,hs,hl,q,o,rfl⟩
  obtain⟨d,hdi,hv⟩:=hp.at_ hx
  refine he d v H _ hs (Yf hdi) hv λH4 s4=>?_
  have hD4:=s4 _ _ hl
  refine⟨hD4,hD,λb o e=>by rw[Zab (nNo e hD)];exact s4 _ _ (hs _ _ e),uS,?_,_,rfl⟩
  rw[Yt,hdi,q,Yb1,Yb1]
  rfl
 ·rintro D ys σ' H hD ⟨_,hs,hl,q,_⟩
  rw[<- vl,Ye1]at q
  exact hd D H hD hs (by rw[hl,q])
def Z4k:(["part","book","length"]:LS).Nodup:=by rfl'
abbrev nIS:LS:=["book","length","term"]
def Z7t:Zak nIS nIS (Zad Zf5):=by nofun
theorem Zq8(F:Def K mg "is_sound" Zf5 nIS f fd)(T:Ztd mg)(all:mg "all"=none)
  (DN:Def K mg "is_number" Ze5 ["thing"] fN fdN) (DH:Def K mg "has_name" Zhk ["book","term"] fH fdH) (GH:⋯ 3 fH fdH ["book","term"] (Znc C B D)):
  ∀ j,⋯ (4 + j) f fd nIS (Zts C B D j)
 | 0=>by
  nomatch F.fn.ok Z7t
  ·obtain⟨p,k,rows,ns,d,v,m,rfl,_⟩:=h
   rfl
  ·obtain⟨p,k,rows,ns,d,v,m,rfl,_,_,_,_,z,_⟩:=h
   rw[Zbe]at z
   cases z
 | j + 1=>by
  have GS:=Zq8 F T all DN DH GH j
  have GN:⋯ 1 fN fdN ["thing"] Zpe:=Zq9 DN T
  nomatch F.fn.ok Z7t
  ·obtain⟨p,k,rows,ns,d,v,m,rfl,_⟩:=h
   rfl
  ·obtain⟨p,k,rows,ns,d,v,m,rfl,bk,gn,hv,wf,z,lz,q⟩:=h
   have hr1:Zcb 1 _:=hr.mono (show 1<=4 + j by omega)
   have hr3:Zcb 3 _:=hr.mono (show 3<=4 + j by omega)
   ac_nf
   refine'⟨_,(pS (Zaz (Zcm (Zaf DN GN hr1 (pC (pv 2) Zaa))) (Zac (Zao (Zxp Zjk Zmc Zae (pv 2) (pv 1)))) Zai)
   (Zac (Zao (Zk9 (Zaf DH GH hr3 (pC (pv 0) (pC (pv 2) Zaa))) (Zk8 (Zam (r:=Z6f K λbs=>bs.all id) (Zmx rfl) (by rfl) all Yx4 (pC ?eC Zaa))))))),?_⟩
   case eC=>exact(Zbt ["part"] ["book","length"] [0,1] (λ_=>Za1 (osc:=Zad Zf5) (on:=nIS) (by rfl') rfl rfl rfl) (Zhw (Zdm (r:=Zzo K) Ziw (pv 2) (Ze9 Zae) Zfa)) (λC s H fp=>Zah (i:=0) Z4k rfl (Or.inl rfl) (Or.inr rfl)) (λC s H fp=>Zb3) (λC s H fp=>Zaf F GS hr (pC (pv 1) (pC (pv 2) (pC (pv 0) Zaa)))))
   exists Zar _ a _ _ _
   have hz:∀ c∈Zfd d,lvl j [c]=[]:=λc hc=>Zvj hc z
   cases hv with
   | int i =>
    refine⟨_,rfl,.int i,_,rfl,.int i,_,rfl,Zfe ?_⟩
    refine⟨_,rfl,_,_,rfl,rfl,_,rfl,?_⟩
    have q1:Q (.bl (decide (0<=i)&&decide (i<(m:Int)))) H:=q H (Zaj.refl _)
    by_cases h0:(0:Int)<=i
    ·rw[Jb h0]at q1 ⊢
     exact Zfe ⟨_,rfl,_,_,rfl,rfl,q1⟩
    ·rw[Jc h0]at q1 ⊢
     exact Zcu q1
   | str x hx =>
    refine⟨_,rfl,.str x,_,rfl,.str x hx,_,rfl,Zcu ?_⟩
    refine⟨_,rfl,_,rfl,p,k,rows,ns,.str x,_,rfl,bk,gn,.str x hx,rfl,λH1 s1=>⟨_,rfl,Zcu (q H1 s1)⟩⟩
   | @tup a vs ds ha ht =>
    refine⟨_,rfl,.tuple ds,_,rfl,.tup ha ht,_,rfl,Zcu ?_⟩
    refine⟨_,rfl,_,rfl,p,k,rows,ns,.tuple ds,_,rfl,bk,gn,.tup ha ht,wf.head,λH1 s1=>⟨_,rfl,?_⟩⟩
    have eq:Zm1 ns m (j + 1) (.tuple ds)=(Zhy ns (.tuple ds)&&(ds.drop 1).all (Zm1 ns m j)):=rfl
    rw[eq]at q
    cases hn:Zhy ns (.tuple ds)with
    | false =>
     rw[hn]at q
     exact Zcu (q H1 s1)
    | true =>
     rw[hn,Ye3]at q
     refine Zfe ⟨_,rfl,_,rfl,?_⟩
     unfold Zg1
     refine Ziy (K:=K) (lo:=some 1) (hi:=none) (s1 _ _ ha) λb H2 s12 hb=>?_
     rw[Z20]at hb
     have s2:=s1.trans s12
     have kd:TmsV H2 (ds.drop 1) (vs.drop 1):=(ht.keep (Zbs s2)).drop 1
     have kl:=kd.length
     have l1:=lz 1
     have e1:lvl 1 [(.tuple ds:Dt)]=ds.drop 1:=by rw[Zfw,Zbe];simp[Zfd]
     rw[e1]at l1
     refine⟨b,rfl,⟨_,SqT.of hb⟩,Zs5 (Zea (xs:=vs.drop 1)) (by omega) (Zm1 ns m j) kd (λH' s=>SqT.of (s _ _ hb)) ?_ λlb H3 hlb s23 hlb3=>?_⟩
     ·intro c v H' R s' hc hv hR
      have hc:c∈Zfd (.tuple ds):=hc
      have s02:=s2.trans s'
      exact⟨_,rfl,_,rfl,_,rfl,p,k,rows,ns,c,v,m,rfl,bk.mono s02,gn,hv.keep (Zbs s'),wf.kid hc,hz c hc,λi=>Z4r hc (lz (i + 1)),hR⟩
     ·refine⟨lb,_,rfl,SqL.of hlb3,?_⟩
      have q3:=q H3 (s2.trans s23)
      show Q (.bl (((ds.drop 1).map (Zm1 ns m j)).all id)) H3
      rw[List.all_map]
      exact q3
def Zeo(ns:List Nam)(m:Nat)(d:Dt):Bool:=Zh5 d&&Zm1 ns m 12 d
def Zqy(K:Fg)(C:Addr):Sp:=λvs H Q _=>∃(p l:Addr) (rows:RS) (b:Bool) (xs:LS),vs=[.ref p,.ref l]/\Zbk C H p rows/\Zdr rows/\SqB K b H l (xs.map V.str)/\xs.length<=12/\(∀ x∈xs,x∈rows.map (·.1))/\Q .non H
def Zjn(K:Fg)(C B D:Addr):Sp:=λvs H Q _=>∃(p k l:Addr) (rows:RS) (ns:List Nam) (b:Bool) (xs:LS) (d:Dt) (v:V),vs=[.ref p,.ref l,v]/\Zen C B D H p k rows ns/\Zdr rows/\Zbo rows ns/\SqB K b H l (xs.map V.str)/\xs.length<=12/\(∀ x∈xs,x∈rows.map (·.1)) /\
 TmV H d v/\Wf d/\(∀ i,(lvl i [d]).length<=1000)/\∀ H',Zaj H H'->Q (.bl (Zeo ns xs.length d)) H'
def Znj{d:Dt}(h:Zh5 d=true):lvl 12 [d]=[]:=by
 unfold Zh5 at h
 rw[Yt1]at h
 exact Yu4.mp h.1
abbrev nCF:LS:=["kinds","filling","word"]
def Z5j:Zak nCF ["kinds","filling"] (Zad Zb2):=by nofun
def Zvb{T1:Tok}(F:Def K mg "check_filling" Zb2 ["kinds","filling"] f fd)(T:Ztd mg)(TC:Zmz K C)(c1:mg "MOST_THINGS"=some (.int 12 T1))
  (MC:Zo7 K C "check" "Kinds.check" Zce ["self","word"] fC fdC) (GC:⋯ 2 fC fdC ["self","word"] (Zlz C)):⋯ 3 f fd ["kinds","filling"] (Zqy K C):=by
 nomatch F.fn.ok Z5j
 ·obtain⟨p,l,rows,b,xs,rfl,_⟩:=h
  rfl
 ·obtain⟨p,l,rows,b,xs,rfl,kd,g,hS,hl,hx,q⟩:=h
  have nd:=Z5j.nd
  ac_nf
  refine'⟨_,(pS (Zaz (Zal Zih (Zam Zan (by rfl) T.len Yr (pC (pv 1) Zaa)) (Zc4 (v:=.int 12) (by rfl) c1 ⟨_,rfl⟩) (Zaq _)) Zaw Zai)
   (Zac (Zbc Yk rfl (Zid (pv 1)) (gE 2 nd) (Zac (Zax (Zcs (pv 0) TC.cl MC.me GC hr MC.b .nil Zdn (pC (pv 2) Zaa))))))),?_⟩
  exists let b:=Zgf _ _ a;Zar _ b _ _ _
  obtain⟨dx,d,a,o,oa,kvs,avs,h1,_⟩:=kd.ex
  have hq:SqL K H l (xs.map V.str)\/SqT K H l (xs.map V.str):=by
   cases b with
   | true=>exact .inl hS
   | false=>exact .inr hS
  refine⟨_,rfl,l,_,rfl,hq,_,_,rfl,rfl,_,rfl,?_⟩
  rw[Ya,Jc (by omega)]
  let Iv1:NW:=λi σ H'=>∃ x,σ=[some (.ref p),some (.ref l),x]/\H'=H
  refine Zcu ⟨_,rfl,b,l,_,rfl,hS,Zat Zew Iv1 ⟨none,rfl,rfl⟩ (λi σ H' _ ⟨_,_,e⟩=>by rw[e];exact hS) ?_ ?_⟩
  ·rintro i v σ H' hi ⟨x,rfl,e⟩
   have e2:=e.symm
   subst e2
   rw[Yp]at hi
   obtain⟨y,hy,rfl⟩:=Yk1.mp hi
   exact⟨_,rfl,p,dx,_,rfl,h1,Zik _ _,_,rfl,p,rows,y,rfl,kd,g,hx y (Yf hy),_,rfl,rfl⟩
  ·rintro σ H' ⟨x,rfl,e⟩
   rw[e]
   exact q
def Z7s:Zak ["book","filling","term"] ["book","filling","term"] (Zad Ze4):=by nofun
def Zu5(F:Def K mg "is_term" Ze4 ["book","filling","term"] f fd)(T:Ztd mg)(TD:Zi5 K D)
  (MK:Zm0 K D fK fdK) (DF:Def K mg "check_filling" Zb2 ["kinds","filling"] fF fdF) (GF:⋯ 3 fF fdF ["kinds","filling"] (Zqy K C))
  (DS:Def K mg "is_small" Zhj ["term"] fS fdS) (GS:⋯ 2 fS fdS ["term"] Ztt) (DO:Def K mg "is_sound" Zf5 nIS fO fdO) (GO:⋯ 16 fO fdO nIS (Zts C B D 12)):⋯ 17 f fd ["book","filling","term"] (Zjn K C B D):=by
 have GK:⋯ 1 fK fdK ["self"] (Zh4 C B D):=Zii MK.fn TD
 nomatch F.fn.ok Z7s
 ·obtain⟨p,k,l,rows,ns,b,xs,d,v,rfl,_⟩:=h
  rfl
 ·obtain⟨p,k,l,rows,ns,b,xs,d,v,rfl,bk,g,gn,hS,hl,hx,hv,wf,lz,q⟩:=h
  have hr1:Zcb 1 _:=hr.mono (by decide)
  have hr2:Zcb 2 _:=hr.mono (by decide)
  have hr3:Zcb 3 _:=hr.mono (by decide)
  ac_nf
  refine'⟨_,(pS (Zax (Zaf DF GF hr3 (pC (Zdb (pv 0) TD.cl MK.me GK hr1 MK.b .nil Zdn) (pC (pv 1) Zaa))))
   (Zac (Zao (Zk9 (Zaf DS GS hr2 (pC (pv 2) Zaa)) (Zk8 (Zaf DO GO hr (pC (pv 0) (pC (Zam Zan (by rfl) T.len Yr (pC (pv 1) Zaa)) (pC (pv 2) Zaa))))))))),?_⟩
  exists Zar _ a _ _ _
  obtain⟨dx,bo,mo,o,bvs,mvs,h1,h2,h3,h4,h5,h6⟩:=bk.ex
  refine⟨_,rfl,p,dx,_,rfl,h1,Zij _ _ _,p,k,rows,ns,rfl,bk,_,rfl,k,l,rows,b,xs,rfl,h2,g,hS,hl,hx,?_⟩
  refine⟨_,rfl,d,v,rfl,hv,lz,λH1 s1=>⟨_,rfl,?_⟩⟩
  have hS1:=hS.mono s1
  have hq:SqL K H1 l (xs.map V.str)\/SqT K H1 l (xs.map V.str):=by
   cases b with
   | true=>exact .inl hS1
   | false=>exact .inr hS1
  unfold Zeo at q
  cases hs:Zh5 d with
  | false =>
   rw[hs]at q
   exact Zcu (q H1 s1)
  | true =>
   rw[hs,Ye3]at q
   refine Zfe ⟨_,rfl,_,rfl,l,_,rfl,hq,_,rfl,p,k,rows,ns,d,v,xs.length,by rw[Ya];rfl,bk.mono s1,gn,hv.keep (Zbs s1),wf,Znj hs,lz,λH2 s2=>q H2 (s1.trans s2)⟩
def Ztx(rows:RS):Sp:=λvs H Q _=>∃(ln:Addr) (ns:List Nam) (us:LV),vs=[.ref ln]/\H ln=some (.lst us)/\Zge H ns us/\Zbo rows ns/\∀(l:Addr) (ws:LS) (H':Hp),H l=none->Zaj H H'->H' l=some (.lst (ws.map V.str))->(∀ x∈ws,x∈rows.map (·.1))->ws.length<=2048->Q (.ref l) H'
abbrev Z9t:LS:=["names","found","word","places","pairs","deed","made"]
def Z3m:Zak Z9t ["names"] (Zad Zcw):=by nofun
def Zxy(rows:RS)(F:Def K mg "_law_near_words" Zcw ["names"] f fd)(list:mg "list"=none):⋯ 1 f fd ["names"] (Ztx rows):=by
 nomatch F.fn.ok Z3m
 ·obtain⟨ln,ns,us,rfl,_⟩:=h
  rfl
 ·obtain⟨ln,ns,us,rfl,hln,hN,gn,q⟩:=h
  have nd:=Z3m.nd
  ac_nf
  refine'⟨_,(pS (sE 1 nd (Zbj Zaa))
   (pS (Zbc Yk rfl (Zbb (pv 0)) (Zgx rfl (gC (gE 2 nd) (gC (gE 3 nd) (gC (gE 4 nd) Zem))))
    (Zac (Zbc Yk rfl (Zhw (pv 4)) (Zgx rfl (gC (gE 5 nd) (gC (gE 6 nd) Zem)))
     (Zac (Zax (Zf0 Yu Ya3 Yb3 Zil (pv 1) (pC (Zbd Zef (by rfl) list Yb2 (pC (pv 5) Zaa)) Zaa)))))))
   (Zac (Zao (pv 1))))),?_⟩
  exists let b:=_;let c:=Zgf _ _ b;let e:=Zar (Zgf _ _ c) a;Zar _ e _ _ _
  refine⟨Yv _,λl hl=>?_⟩
  have s1:Zaj H (upd H l (.lst [])):=Za9 hl
  have few:=gn.few
  have nl:=Yz hN
  have lnl:ln≠l:=nNo hln hl
  let Iv1:NW:=λi σ H'=>∃(x2 x3 x4 x5 x6:OV) (ws:LS),σ=[some (.ref ln),some (.ref l),x2,x3,x4,x5,x6]/\Zaj H H'/\H' l=some (.lst (ws.map V.str))/\(∀ x∈ws,x∈rows.map (·.1))/\ws.length<=256 * i
  refine⟨_,rfl,ln,rfl,⟨_,SqL.of (s1 _ _ hln)⟩,Zat (Zav (xs:=us)) Iv1
   ⟨none,none,none,none,none,[],rfl,s1,uS,(λ_ h=>nomatch h),Yv _⟩ (λi σ H' _ h0=>by obtain⟨_,_,_,_,_,_,_,s,_⟩:=h0;exact SqL.of (s _ _ hln)) ?_ ?_⟩
  ·rintro i v σ H2 hi ⟨x2,x3,x4,x5,x6,ws,rfl,s2,hl2,hw2,wl2⟩
   obtain⟨n,hn,t,tp,ps,rfl,ht,htp,hD⟩:=Zau hN hi
   have gnn:=gn.each n (Yf hn)
   have i8:i<8:=by have:=(Yn.mp hi).1;omega
   have n4:=gnn.four
   have pl:=Yz hD
   have dl:=gnn.deeds.few
   rw[Ya]at dl
   refine⟨t,_,rfl,SqT.of (s2 _ _ ht),rfl,_,_,rfl,_,_,rfl,_,_,rfl,rfl,?_⟩
   let Iv2:NW:=λj σ H'=>∃(y5 y6:OV) (ws:LS),σ=[some (.ref ln),some (.ref l),some (.str n.1),some (.int n.2.1),some (.ref tp),y5,y6]/\Zaj H H'/\H' l=some (.lst (ws.map V.str))/\(∀ x∈ws,x∈rows.map (·.1))/\ws.length<=256 * i + 4 * j
   refine⟨_,rfl,tp,rfl,⟨_,SqT.of (s2 _ _ htp)⟩,Zat (Zea (xs:=ps)) Iv2
    ⟨x5,x6,ws,rfl,s2,hl2,hw2,by omega⟩ (λj σ H' _ h0=>by obtain⟨_,_,_,_,s,_⟩:=h0;exact SqT.of (s _ _ htp)) ?_ ?_⟩
   ·rintro j v σ H3 hj ⟨y5,y6,ws,rfl,s3,hl3,hw3,wl3⟩
    obtain⟨x,hx,t',tc,rfl,ht',htc⟩:=Zau hD hj
    have j64:j<64:=by have:=(Yn.mp hj).1;omega
    have gc:=gnn.deeds.call x.1 (Ye.mpr ⟨x,Yf hx,rfl⟩)
    have cl:=gc.len
    refine⟨t',_,rfl,SqT.of (s3 _ _ ht'),rfl,_,_,rfl,_,_,rfl,rfl,?_⟩
    refine⟨_,rfl,.inl ⟨rfl,_,SqL.of hl3⟩,_,rfl,tc,_,rfl,.inr (SqT.of (s3 _ _ htc)),λlc hlc=>?_⟩
    have s34:Zaj H3 (upd H3 lc (.lst (x.1.map V.str))):=Za9 hlc
    have hlc4:(upd H3 lc (.lst (x.1.map V.str))) lc=some (.lst (x.1.map V.str)):=uS
    generalize upd H3 lc (.lst (x.1.map V.str))=H4 at s34 hlc4
    refine⟨l,lc,_,_,rfl,rfl,s34 _ _ hl3,hlc4,sL (by rw[Ya,Ya];omega),_,_,ws++x.1,rfl,λb o e=>by rw[Zab (nNo e hl)];exact s34 _ _ (s3 _ _ e),by rw[uS,Yb1],λy hy=>(Yo.mp hy).elim (hw3 y) (gc.known y),by rw[Yi];omega⟩
   ·rintro σ H3 ⟨y5,y6,ws,rfl,s3,hl3,hw3,wl3⟩
    exact⟨_,_,_,_,_,ws,rfl,s3,hl3,hw3,by omega⟩
  ·rintro σ H2 ⟨x2,x3,x4,x5,x6,ws,rfl,s2,hl2,hw2,wl2⟩
   exact⟨_,rfl,q l ws H2 hl s2 hl2 hw2 (by omega)⟩
def Zwu{zs:LS}{v:Int}(h0:0<=v)(h1:v<(zs.length:Nat)):∃ x∈zs,atI (zs.map V.str) v=some (V.str x):=by
 obtain⟨j,rfl⟩:=Yp4 h0
 have hj:j<zs.length:=by omega
 refine⟨zs[j],Yr2 hj,Zb5 ?_⟩
 rw[Yp,Yh hj]
 rfl
def Zzg:Sp:=λvs H Q _=>∃(p l ln:Addr) (mo:Nat) (rows:RS) (ns:List Nam) (us:LV),vs=[.ref p,.ref l,.ref ln,.int mo]/\(∃ o,H p=some o/\Zh2 o)/\Zeg H l rows/\Zdr rows/\H ln=some (.lst us)/\Zge H ns us/\Zbo rows ns/\1<=mo/\mo<=12 /\
 ∀(lf:Addr) (xs:LS) (H':Hp),H lf=none->Drawn p H H'->H' lf=some (.lst (xs.map V.str))->(∀ x∈xs,x∈rows.map (·.1))->1<=xs.length->xs.length<=mo->Q (.ref lf) H'
abbrev Z8e:LS:=["pot","rows","names","most","words","near","filling","k"]
abbrev pFi:LS:=["pot","rows","names","most"]
def Z3q:Zak Z8e pFi (Zad Zc8):=by nofun
set_option maxHeartbeats 8000000 in
def Z1g(F:Def K mg "_law_filling" Zc8 pFi f fd)(T:Z2n mg)(list:mg "list"=none)(DT:Def K mg "_law_take" Za5 ["pot","many"] fT fdT)(GT:⋯ 1 fT fdT ["pot","many"] Zfg)
  (DN:Def K mg "_law_near_words" Zcw ["names"] fN fdN):⋯ 2 f fd pFi Zzg:=by
 nomatch F.fn.ok Z3q
 ·obtain⟨p,l,ln,mo,rows,ns,us,rfl,_⟩:=h
  rfl
 ·obtain⟨p,l,ln,mo,rows,ns,us,rfl,⟨o,hp,ho⟩,hR,g,hln,hN,gn,m1,m12,q⟩:=h
  have nd:=Z3q.nd
  have hu:=hr.units
  have GN:⋯ 1 fN fdN ["names"] (Ztx rows):=Zxy rows DN list
  ac_nf
  refine'⟨_,(pS ?eW
   (pS (sE 5 nd (Zaf DN GN hr (pC (pv 2) Zaa)))
   (pS (sE 6 nd (Zbj Zaa))
   (pS (Zbc Yk rfl (Zbv (by rfl) T.range (pC (Za0 Zbz Zae (Zaf DT GT hr (pC (pv 0) (pC (pv 3) Zaa)))) Zaa)) (gE 7 nd)
    (Zac (Zaz (PW.pt (Zia (Zal (Zlb hu) (pv 5) (Zbj Zaa) (Zaq _)) (Zgp (Zal Zih (Zaf DT GT hr (pC (pv 0) (pC Zae Zaa))) Zae (Zaq _)))))
     (Zac (Zax (Zf0 Yu Yi1 Yj1 Zbw (pv 6) (pC (Za3 (r:=Ziu K) Zay (pv 5) (Zaf DT GT hr (pC (pv 0) (pC (Zam Zan (by rfl) T.len Yr (pC (pv 5) Zaa)) Zaa))) (λ_ _=>rfl)) Zaa))))
     (Zac (Zax (Zf0 Yu Yi1 Yj1 Zbw (pv 6) (pC (Za3 (r:=Ziu K) Zay (pv 4) (Zaf DT GT hr (pC (pv 0) (pC (Zam Zan (by rfl) T.len Yr (pC (pv 4) Zaa)) Zaa))) (λ_ _=>rfl)) Zaa)))))))
   (Zac (Zao (pv 6))))))),?_⟩
  case eW=>exact(Zcz (k:=4) ["row"] [] [] nd rfl rfl (λ_=>Za1 (osc:=Zad Zc8) (on:=Z8e) (by rfl') rfl rfl rfl) (Zbb (pv 1)) (λC s H fp=>Zah (i:=0) Zpq rfl (Or.inl rfl) (Or.inr rfl)) (λC s H fp=>Zb3) (λC s H fp=>Za3 (r:=Zhv K) Zbr (pv 0) Zae (λ_ _=>rfl)))
  exists let b:=_;let c:=_;let e:=Zhf _ b c;let f:=Zar (Zgf _ _ e) a;let g:=Zar _ f;let h:=Zar _ g;Zar _ h _ _ _
  obtain⟨vs0,hvs0,hpr0⟩:=id hR
  have gle:=g.le
  have gne:=g.ne
  have vl0:=Yz hpr0
  refine⟨_,rfl,l,rfl,⟨_,SqL.of hvs0⟩,Ziv hR (by omega) (λt u x H' R ht hRx=>⟨_,rfl,t,_,_,_,rfl,rfl,SqT.of ht,rfl,hRx⟩) λlw H1 hlw s1 hw=>?_⟩
  refine⟨_,rfl,ln,ns,us,rfl,s1 _ _ hln,hN.mono (Zbs s1),gn,λlN ws H2 hlN s12 hN2 kw wl=>?_⟩
  refine⟨Yv _,λlf hlf=>?_⟩
  have s2:=s1.trans s12
  have s23:Zaj H2 (upd H2 lf (.lst [])):=Za9 hlf
  have hf3:(upd H2 lf (.lst [])) lf=some (.lst (([]:LS).map V.str)):=uS
  generalize upd H2 lf (.lst [])=H3 at s23 hf3
  have s3:=s2.trans s23
  have hp3:=s3 _ _ hp
  have hw3:=s23 _ _ (s12 _ _ hw)
  have hN3:=s23 _ _ hN2
  have lfH:H lf=none:=s2.free hlf
  have lwp:lw≠p:=Ym (Zic hp3 ho hw3)
  have lNp:lN≠p:=Ym (Zic hp3 ho hN3)
  have lfp:lf≠p:=Ym (Zic hp3 ho hf3)
  have lfw:lw≠lf:=nNo (s12 _ _ hw) hlf
  have lfN:lN≠lf:=nNo hN2 hlf
  have wne:rows.map (·.1)≠[]:=λz=>by
   have z2:=congrArg List.length z
   rw[Ya,Yb5]at z2
   omega
  have wlen:(rows.map (·.1)).length<=24:=by rw[Ya];exact gle
  refine⟨_,rfl,_,rfl,p,(mo:Int),o,rfl,hp3,ho,by omega,by omega,λv0 o4 hv0 hv1 ho4=>⟨_,_,rfl,rfl,1 + v0,rfl,by omega,by omega,?_⟩⟩
  have d4:Drawn p H (upd H3 p o4):=((Drawn.refl ⟨o,hp,ho⟩).same s3).trans (Drawn.upd ho4)
  have u4:∀ b u,b≠p->H3 b=some u->(upd H3 p o4) b=some u:=λb u hb e=>by rw[Zab hb];exact e
  generalize upd H3 p o4=H4 at d4 u4
  let Iv1:NW:=λi σ H'=>∃(x:OV) (xs:LS),σ=[some (.ref p),some (.ref l),some (.ref ln),some (.int mo),some (.ref lw),some (.ref lN),some (.ref lf),x]/\Drawn p H H'/\H' lw=some (.lst ((rows.map (·.1)).map V.str))/\H' lN=some (.lst (ws.map V.str))/\H' lf=some (.lst (xs.map V.str))/\(∀ x∈xs,x∈rows.map (·.1))/\xs.length=i
  refine Zat Zbm Iv1
   ⟨none,[],rfl,d4,u4 _ _ lwp hw3,u4 _ _ lNp hN3,u4 _ _ lfp hf3,(λ_ h=>nomatch h),rfl⟩ (λ_ _ _ _ _=>trivial) ?_ ?_
  ·rintro i v' σ H5 hi ⟨x7,xs,rfl,d5,hw5,hN5,hf5,kx,xl⟩
   obtain⟨hi,rfl⟩:=Za6 hi
   have i12:i<13:=by omega
   refine⟨_,rfl,Yv _,λt2 ht2=>⟨.list (ws.map W.Dat.str),.list [],.list (SqL.of (by rw[Zab (nNo hN5 ht2)];exact hN5)) (Ze7 ws),.list (SqL.of uS) .nil,Zn2 (λx hx=>Zd5 g x (kw x hx)),rfl,_,rfl,?_⟩⟩
   have s56:Zaj H5 (upd H5 t2 (.lst [])):=Za9 ht2
   generalize upd H5 t2 (.lst [])=H6 at s56
   have d6:=d5.same s56
   have hw6:=s56 _ _ hw5
   have hN6:=s56 _ _ hN5
   have hf6:=s56 _ _ hf5
   obtain⟨o6,hp6,ho6⟩:=id d6.pot
   refine Zdu (λz=>?_) (λz=>?_)
   ·have hz:ws≠[]:=(Zhm ws).mp z
    refine⟨_,rfl,p,4,o6,rfl,hp6,ho6,by decide,by decide,λv7 o7 _ _ ho7=>⟨_,_,rfl,rfl,_,rfl,?_⟩⟩
    have d7:Drawn p H (upd H6 p o7):=d6.trans (Drawn.upd ho7)
    have u7:∀ b u,b≠p->H6 b=some u->(upd H6 p o7) b=some u:=λb u hb e=>by rw[Zab hb];exact e
    have hp7:(upd H6 p o7) p=some o7:=uS
    generalize upd H6 p o7=H7 at d7 u7 hp7
    have hw7:=u7 _ _ lwp hw6
    have hN7:=u7 _ _ lNp hN6
    have hf7:=u7 _ _ lfp hf6
    refine Zdu (λ_=>?_) (λ_=>?_)
    ·refine⟨_,rfl,.inl ⟨rfl,_,SqL.of hf7⟩,_,rfl,_,rfl,_,rfl,lN,_,rfl,.inl (SqL.of hN7),p,_,_,rfl,hp7,ho7,by rw[Ya];have:=Yx1.mpr hz;omega,by rw[Ya];have:=wl;omega,λv o9 hv0 hv1 ho9=>?_⟩
     obtain⟨x,hx,at9⟩:=Zwu (zs:=ws) hv0 (by rw[Ya]at hv1;exact hv1)
     have d9:Drawn p H (upd H7 p o9):=d7.trans (Drawn.upd ho9)
     have u9:∀ b u,b≠p->H7 b=some u->(upd H7 p o9) b=some u:=λb u hb e=>by rw[Zab hb];exact e
     generalize upd H7 p o9=H9 at d9 u9
     refine⟨lN,_,_,_,rfl,rfl,SqL.of (u9 _ _ lNp hN7),at9,lf,_,_,rfl,rfl,u9 _ _ lfp hf7,Za2 (by rw[Ya];omega),_,xs++[x],rfl,d9.sub (o':=.lst []) (q:=lf) (λb u hb e=>by rw[Zab hb];exact e) lfH (Ym lfp),by rw[Zab lfw];exact u9 _ _ lwp hw7,by rw[Zab lfN];exact u9 _ _ lNp hN7,by rw[uS,Yb1];rfl,λy hy=>(Yo.mp hy).elim (kx y) λz=>by rw[Yc.mp z];exact(kw x hx),by rw[Yi,Yv1];omega⟩
    ·refine⟨_,rfl,.inl ⟨rfl,_,SqL.of hf7⟩,_,rfl,_,rfl,_,rfl,lw,_,rfl,.inl (SqL.of hw7),p,_,_,rfl,hp7,ho7,by rw[Ya];have:=Yx1.mpr wne;omega,by rw[Ya];have:=wlen;omega,λv o9 hv0 hv1 ho9=>?_⟩
     obtain⟨x,hx,at9⟩:=Zwu (zs:=(rows.map (·.1))) hv0 (by rw[Ya]at hv1;exact hv1)
     have d9:Drawn p H (upd H7 p o9):=d7.trans (Drawn.upd ho9)
     have u9:∀ b u,b≠p->H7 b=some u->(upd H7 p o9) b=some u:=λb u hb e=>by rw[Zab hb];exact e
     generalize upd H7 p o9=H9 at d9 u9
     refine⟨lw,_,_,_,rfl,rfl,SqL.of (u9 _ _ lwp hw7),at9,lf,_,_,rfl,rfl,u9 _ _ lfp hf7,Za2 (by rw[Ya];omega),_,xs++[x],rfl,d9.sub (o':=.lst []) (q:=lf) (λb u hb e=>by rw[Zab hb];exact e) lfH (Ym lfp),by rw[Zab lfw];exact u9 _ _ lwp hw7,by rw[Zab lfN];exact u9 _ _ lNp hN7,by rw[uS,Yb1];rfl,λy hy=>(Yo.mp hy).elim (kx y) λz=>by rw[Yc.mp z];exact hx,by rw[Yi,Yv1];omega⟩
   ·refine⟨_,rfl,.inl ⟨rfl,_,SqL.of hf6⟩,_,rfl,_,rfl,_,rfl,lw,_,rfl,.inl (SqL.of hw6),p,_,_,rfl,hp6,ho6,by rw[Ya];have:=Yx1.mpr wne;omega,by rw[Ya];have:=wlen;omega,λv o9 hv0 hv1 ho9=>?_⟩
    obtain⟨x,hx,at9⟩:=Zwu (zs:=(rows.map (·.1))) hv0 (by rw[Ya]at hv1;exact hv1)
    have d9:Drawn p H (upd H6 p o9):=d6.trans (Drawn.upd ho9)
    have u9:∀ b u,b≠p->H6 b=some u->(upd H6 p o9) b=some u:=λb u hb e=>by rw[Zab hb];exact e
    generalize upd H6 p o9=H9 at d9 u9
    refine⟨lw,_,_,_,rfl,rfl,SqL.of (u9 _ _ lwp hw6),at9,lf,_,_,rfl,rfl,u9 _ _ lfp hf6,Za2 (by rw[Ya];omega),_,xs++[x],rfl,d9.sub (o':=.lst []) (q:=lf) (λb u hb e=>by rw[Zab hb];exact e) lfH (Ym lfp),by rw[Zab lfw];exact u9 _ _ lwp hw6,by rw[Zab lfN];exact u9 _ _ lNp hN6,by rw[uS,Yb1];rfl,λy hy=>(Yo.mp hy).elim (kx y) λz=>by rw[Yc.mp z];exact hx,by rw[Yi,Yv1];omega⟩
  ·rintro σ H5 ⟨x7,xs,rfl,d5,hw5,hN5,hf5,kx,xl⟩
   have e:(Zee 0 (1 + v0).toNat).length=(1 + v0).toNat:=Za4 ..
   rw[e]at xl
   exact⟨_,rfl,q lf xs H5 lfH d5 hf5 kx (by omega) (by omega)⟩
def Zut(p:LS×Str):Dt:=.tuple [Zo6 p.1,.str p.2]
def Zpr(n:Nam):Dt:=.tuple [.str n.1,.int n.2.1,.tuple (n.2.2.map Zut)]
theorem Zk5{K:Fg}{H:Hp}:∀ {ps:List (LS×Str)}{vs:LV},Zrx H ps vs->Reps K H vs (ps.map Zut)
 | _,_,.nil=>.nil
 | _,_,.cons ⟨t,tc,e,h1,h2⟩ r=>by
  subst e
  exact .cons (.tuple (SqT.of h1) (.cons (Zjp h2) (.cons (.str _) .nil))) (Zk5 r)
theorem Zk6{K:Fg}{H:Hp}:∀ {ns:List Nam}{vs:LV},Zge H ns vs->Reps K H vs (ns.map Zpr)
 | _,_,.nil=>.nil
 | _,_,.cons ⟨t,tp,vs,e,h1,h2,h3⟩ r=>by
  subst e
  exact .cons (.tuple (SqT.of h1) (.cons (.str _) (.cons (.int _) (.cons (.tuple (SqT.of h2) (Zk5 h3)) .nil)))) (Zk6 r)
def Zxx(n:Nat){p:LS×Str}(h:∀ x∈p.1,Zbf x=true)(h2:Zbf p.2=true):W.kqdOk (n + 2) (Zut p)=true:=by
 unfold Zut
 rw[W.kqdOk]
 simp[Zmi n h,Zuy (n + 1) h2]
def Zx0(n:Nat){rows:RS}(g:Zdr rows){m:Nam}(h:Zjt rows m):W.kqdOk (n + 4) (Zpr m)=true:=by
 unfold Zpr
 rw[W.kqdOk]
 have hp:W.kqdOk (n + 3) (.tuple (m.2.2.map Zut))=true:=by
  rw[W.kqdOk,Yr1]
  intro z hz
  obtain⟨p,hp,rfl⟩:=Ye.mp hz
  exact Zxx n (λx hx=>Zd5 g x ((h.deeds.call p.1 (Ye.mpr ⟨p,hp,rfl⟩)).known x hx)) (Zd5 g _ (h.made p hp))
 have hi:W.kqdOk (n + 3) (.int m.2.1)=true:=by rw[W.kqdOk]
 simp[Zuy (n + 3) h.word,hp,hi]
def Zu0{rows:RS}(g:Zdr rows){ns:List Nam}(h:∀ n∈ns,Zjt rows n):W.kqdOk 9 (.list (ns.map Zpr))=true:=by
 show(ns.map Zpr).all (W.kqdOk 8)=true
 rw[Yr1]
 intro z hz
 obtain⟨m,hm,rfl⟩:=Ye.mp hz
 exact Zx0 4 g (h m hm)
def Zon(ns:List Nam):dEq (.list (ns.map Zpr)) (.list [])=true↔ns=[]:=by
 cases ns with
 | nil=>simp[Zhs]
 | cons n r =>
  rw[Zkm (by simp)]
  simp
theorem Zdd:∀(k:Nat) (a b:List Dt),Zc7 k (a++b)=Zc7 k a + Zc7 k b
 | 0,a,b=>by rw[Zb4,Zb4,Zb4]
 | k + 1,a,b=>by rw[Zch,Zch,Zch,Zdd k,Zck,Yi];omega
theorem Zgu:∀(k:Nat) (l:List Dt),Zc7 (k + 1) l=l.length + Zc7 k (l.flatMap Zfd)
 | 0,l=>by rw[Zch,Zb4,Zb4,Zbe];omega
 | k + 1,l=>by rw[Zch,Zgu k,Zch,Zfw];omega
def Zwj(k:Nat)(l:List Dt):Zc7 k l<=Zc7 (k + 1) l:=by rw[Zch];omega
def Zvn(k:Nat)(l:List Dt):(lvl k l).length<=Zc7 (k + 1) l:=by rw[Zch];omega
def drN:Dt->Bool
 | .int _=>true
 | .tuple (.str _ :: _ :: _)=>true
 | _=>false
def Dr(l:List Dt):Prop:=∀ k,∀ e∈lvl k l,drN e=true
def Dr.append{a b:List Dt}(h:Dr a)(g:Dr b):Dr (a++b):=λk e he=>by
 rw[Zck]at he
 exact(Yo.mp he).elim (h k e) (g k e)
def Dr.nil:Dr []:=λk e he=>by
 have:∀ k,lvl k []=[]:=λk=>by
  induction k with
  | zero=>rw[Zbe]
  | succ k ih=>rw[Zcn,ih];rfl
 rw[this]at he
 cases he
def Zcg(d:Dt):[d].flatMap Zfd=Zfd d:=by simp
theorem Dr.int(i:Int):Dr [.int i]
 | 0,e,he=>by rw[Zbe]at he;rw[Yc.mp he];rfl
 | k + 1,e,he=>by rw[Zfw,Zcg]at he;exact Dr.nil k e he
def Dr.tup{x:Str}{d:Dt}{ds:List Dt}(h:Dr (d :: ds)):Dr [.tuple (.str x :: d :: ds)]
 | 0,e,he=>by rw[Zbe]at he;rw[Yc.mp he];rfl
 | k + 1,e,he=>by rw[Zfw,Zcg]at he;exact h k e he
theorem Zhc:∀ k,Zc7 k []=0
 | 0=>Zb4 _
 | k + 1=>by rw[Zgu];show 0 + Zc7 k []=0;rw[Zhc k]
def Zmv(i:Int):∀ k,Zc7 k [.int i]<=1
 | 0=>by rw[Zb4];omega
 | k + 1=>by rw[Zgu,Zcg];show 1 + Zc7 k []<=1;rw[Zhc];exact Yd _
def Zwh(h:Dt)(ds:List Dt):∀ k,Zc7 (k + 1) [.tuple (h :: ds)]=1 + Zc7 k ds:=λk=>by rw[Zgu,Zcg];rfl
structure Yaf(p r:Addr)(H H':Hp)(ρ:Nat):Prop where
 keep:∀ b o,b≠p->b≠r->H b=some o->H' b=some o
 pot:∃ o,H' p=some o/\Zh2 o
 room:H' r=some (.lst [.int ρ])
def Zzd(rows:RS)(j:Nat):Sp:=λvs H Q _=>∃(p ln r:Addr) (m ρ dp:Nat) (ns:List Nam) (us:LV),vs=[.ref p,.ref ln,.int m,.ref r,.int dp]/\1<=dp/\dp<=j/\(∃ o,H p=some o/\Zh2 o)/\H r=some (.lst [.int ρ])/\p≠r/\H ln=some (.lst us)/\Zge H ns us/\Zbo rows ns/\1<=m/\m<=100/\ρ<=100 /\
 ∀(v:V) (d:Dt) (ρ':Nat) (H':Hp),Yaf p r H H' ρ'->TmV H' d v->Dr [d]->(∀ k,Zc7 k [d] + ρ'<=1 + ρ)->Q v H'
def Z4m:(["name","room"]:LS).Nodup:=by rfl'
abbrev nTm:LS:=["pot","names","many","room","deep","some","word","places","pairs"]
abbrev pTm:LS:=["pot","names","many","room","deep"]
abbrev cTm:LS:=["k","deep","many","names","pot","room"]
def Z4q:cTm.Nodup:=by rfl'
def Z57:Zak nTm pTm (Zad Zdx):=by nofun
set_option maxHeartbeats 8000000 in
def Z1a{rows:RS}(g:Zdr rows)(F:Def K mg "_law_term" Zdx pTm f fd)(T:Z2n mg)(DT:Def K mg "_law_take" Za5 ["pot","many"] fT fdT)(GT:⋯ 1 fT fdT ["pot","many"] Zfg):
  ∀ j,⋯ (2 + j) f fd pTm (Zzd rows j):=by
 intro j
 induction j with
 | zero =>
  nomatch F.fn.ok Z57
  ·obtain⟨p,ln,r,m,ρ,dp,ns,us,rfl,_⟩:=h
   rfl
  ·obtain⟨p,ln,r,m,ρ,dp,ns,us,rfl,h1,h2,_⟩:=h
   omega
 | succ j GS =>
  nomatch F.fn.ok Z57
  ·obtain⟨p,ln,r,m,ρ,dp,ns,us,rfl,_⟩:=h
   rfl
  ·obtain⟨p,ln,r,m,ρ,dp,ns,us,rfl,dp1,hdp,⟨o,hp,ho⟩,hr0,hpr,hln,hN,gn,m1,m12,hρ,q⟩:=h
   have nd:=Z57.nd
   have hu:=hr.units
   have hr1:Zcb 1 _:=hr.mono (show 1<=2 + j by omega)
   ac_nf
   refine'⟨_,(pS ?eS
   (pS (Zaz (PW.pt (Zno (Zal (Z36 hu) (pv 5) (Zbj Zaa) (Zaq _)) (Zno (Zal Zmc (pv 4) Zae (Zaq _)) (Znn (Zal Zds (Zaf DT GT hr1 (pC (pv 0) (pC Zae Zaa))) Zae (Zaq _)))))) (Zac (Zao (Zaf DT GT hr1 (pC (pv 0) (pC (pv 2) Zaa))))) Zai)
   (pS (Zq3 (Za3 (r:=Ziu K) Zay (pv 5) (Zaf DT GT hr1 (pC (pv 0) (pC (Zam Zan (by rfl) T.len Yr (pC (pv 5) Zaa)) Zaa))) (λ_ _=>rfl)) (Zgx rfl (gC (gE 6 nd) (gC (gE 7 nd) (gC (gE 8 nd) Zem)))))
   (pS (Zq3 (Za0 Zif (Za3 (r:=Ziu K) Zay (pv 3) Zae (λ_ _=>rfl)) (pv 7)) (Zup (pv 3) Zae Zl4))
   (Zac (Zao (Za0 Zmd (Zbi (pC (pv 6) Zaa)) (Zbd Zbg (by rfl) T.tuple Yh1 (pC ?eC Zaa))))))))),?_⟩
   case eS=>exact(Zcz (k:=5) ["name"] ["room"] [3] nd rfl rfl (λ_=>Za1 (osc:=Zad Zdx) (on:=nTm) (by rfl') rfl rfl rfl) (Zbb (pv 1)) (λC s H fp=>Zah (i:=0) Z4m rfl (Or.inl rfl) (Or.inr rfl)) (λC s H fp=>Zek (Zal Zjk (Za3 (r:=Zhv K) Zbr (pv 0) Zae (λ_ _=>rfl)) (Za3 (r:=Ziu K) Zay (pv 1) Zae (λ_ _=>rfl)) (Zaq _))) (λC s H fp=>pv 0))
   case eC=>exact(Zbt ["k"] ["deep","many","names","pot","room"] [4,2,1,0,3] (λ_=>Za1 (osc:=Zad Zdx) (on:=nTm) (by rfl') rfl rfl rfl) (Zbv (by rfl) T.range (pC (pv 7) Zaa)) (λC s H fp=>Zah (i:=0) Z4q rfl (Or.inl rfl) (Or.inr rfl)) (λC s H fp=>Zb3) (λC s H fp=>Zaf F GS hr (pC (pv 4) (pC (pv 3) (pC (pv 2) (pC (pv 5) (pC (Za0 Zif (pv 1) Zae) Zaa)))))))
   exists let b:=Zar _ a;let c:=Zar _ b;let e:=_;let f:=Zar (Zhf _ e _) c;Zar _ f _ _ _
   have few:=gn.few
   have nl:=Yz hN
   have fin:∀(HX:Hp) (oX:HO),(∀ b o,b≠p->b≠r->H b=some o->HX b=some o)->HX p=some oX->Zh2 oX->HX r=some (.lst [.int ρ])->∀(v:Int) (o':HO),Zh2 o'->Q (.int v) (upd HX p o'):=λHX oX kX _ _ rX v o' ho' =>
    q (.int v) (.int v) ρ _ ⟨λb u hb hb2 e=>by rw[Zab hb];exact kX b u hb hb2 e,⟨o',uS,ho'⟩,by rw[Zab (Ym hpr)];exact rX⟩ (.int v) (Dr.int v) λk=>by have:=Zmv v k;omega
   let Iv1:Addr->Nat->LV->St->Hp->Prop:=λD i ys σ' H'=>H D=none/\Zaj H H'/\H' D=some (.lst ys)/\(∃ ns':List Nam,Zge H ns' ys/\(∀ n∈ns',n∈ns/\n.2.1<=ρ)/\ns'.length<=i)/\∃ x,σ'=[x,some (.ref r)]
   refine⟨_,rfl,ln,rfl,⟨_,SqL.of hln⟩,Zdq (Zav (xs:=us)) (sL (by omega)) Iv1
    (λD hD=>⟨hD,Za9 hD,uS,⟨[],.nil,(λ_ h=>nomatch h),Yd _⟩,_,rfl⟩) (λD i ys σ' H' hi h0=>by obtain⟨_,s,_,⟨ns',hN',_,hl'⟩,_⟩:=h0;exact⟨SqL.of (s _ _ hln),by have:=Yz hN';omega⟩) ?_ ?_⟩
   ·rintro D i v ys σ' H2 hD hi ⟨hDn,s2,hD2,⟨ns',hN',hm',hl'⟩,x,rfl⟩
    obtain⟨n,hn,t,tp,ps,rfl,ht,htp,hP⟩:=Zau hN hi
    refine⟨_,rfl,t,_,_,_,rfl,rfl,SqT.of (s2 _ _ ht),rfl,_,rfl,r,_,_,_,rfl,rfl,SqL.of (s2 _ _ hr0),rfl,_,_,rfl,rfl,_,rfl,Zdu (λz=>?_) (λz=>?_)⟩
    ·have z:=Je z
     refine⟨_,rfl,hD2,hDn,λb u e=>by rw[Zab (nNo e hDn)];exact s2 _ _ e,uS,⟨ns'++[n],Yh2 hN' ⟨t,tp,ps,rfl,ht,htp,hP⟩,λm hm=>?_,by rw[Yi,Yv1];omega⟩,_,rfl⟩
     rcases Yo.mp hm with e | e
     ·exact hm' m e
     ·rw[Yc.mp e]
      exact⟨Yf hn,by omega⟩
    ·exact⟨hDn,s2,hD2,⟨ns',hN',hm',by omega⟩,_,rfl⟩
   ·rintro ls ys σ' H2 hD ⟨lsn,s2,hl2,⟨ns',hN',hm',hl'⟩,_⟩
    have yl:=Yz hN'
    refine⟨_,rfl,Yv _,λt2 ht2=>⟨.list (ns'.map Zpr),.list [],.list (SqL.of (by rw[Zab (nNo hl2 ht2)];exact hl2)) (Zk6 (hN'.mono λb xs e=>by rw[Zab (nNo (s2 _ _ e) ht2)];exact s2 _ _ e)),.list (SqL.of uS) .nil,Zu0 g (λn hn=>gn.each n (hm' n hn).1),rfl,_,rfl,?_⟩⟩
    have s3:Zaj H (upd H2 t2 (.lst [])):=s2.trans (Za9 ht2)
    have hl3:(upd H2 t2 (.lst [])) ls=some (.lst ys):=by rw[Zab (nNo hl2 ht2)];exact hl2
    generalize upd H2 t2 (.lst [])=H3 at s3 hl3
    have hp3:=s3 _ _ hp
    have hr3:=s3 _ _ hr0
    have k3:∀ b u,b≠p->b≠r->H b=some u->H3 b=some u:=λb u _ _ e=>s3 _ _ e
    refine Zdu (λ_=>?_) (λhz=>?_)
    ·exact⟨_,rfl,_,rfl,p,(m:Int),o,rfl,hp3,ho,by omega,by omega,λv o' _ _ ho'=>fin H3 o k3 hp3 ho hr3 v o' ho'⟩
    have hne:ns'≠[]:=λz=>hz ((Zon ns').mpr z)
    refine⟨_,rfl,_,_,rfl,rfl,_,rfl,Zdu (λ_=>?_) (λhz2=>?_)⟩
    ·exact⟨_,rfl,_,rfl,p,(m:Int),o,rfl,hp3,ho,by omega,by omega,λv o' _ _ ho'=>fin H3 o k3 hp3 ho hr3 v o' ho'⟩
    have dp2:2<=dp:=by
     have:¬ ((dp:Int)<2):=λz=>hz2 (Jb z)
     omega
    refine⟨_,rfl,p,4,o,rfl,hp3,ho,by decide,by decide,λv4 o4 _ _ ho4=>⟨rfl,_,rfl,?_⟩⟩
    have k4:∀ b u,b≠p->b≠r->H b=some u->(upd H3 p o4) b=some u:=λb u hb _ e=>by rw[Zab hb];exact s3 _ _ e
    have hp4:(upd H3 p o4) p=some o4:=uS
    have hr4:(upd H3 p o4) r=some (.lst [.int ρ]):=by rw[Zab (Ym hpr)];exact hr3
    have lsp:ls≠p:=λz=>by rw[z,hp]at lsn;cases lsn
    have hl4:(upd H3 p o4) ls=some (.lst ys):=by rw[Zab lsp];exact hl3
    generalize upd H3 p o4=H4 at k4 hp4 hr4 hl4
    refine Zdu (λ_=>?_) (λ_=>?_)
    ·exact⟨_,rfl,_,rfl,p,(m:Int),o4,rfl,hp4,ho4,by omega,by omega,λv o' _ _ ho'=>fin H4 o4 k4 hp4 ho4 hr4 v o' ho'⟩
    have np:∀ {b:Addr} {xs:LV},H b=some (.tup xs)->b≠p:=λe z=>by rw[z,hp]at e;obtain⟨_,_,q',_⟩:=ho;rw[q']at e;cases e
    have nr:∀ {b:Addr} {xs:LV},H b=some (.tup xs)->b≠r:=λe z=>by rw[z,hr0]at e;cases e
    have lnp:ln≠p:=λz=>by
     rw[z,hp]at hln
     obtain⟨_,_,q',_⟩:=ho
     rw[q']at hln
     cases hln
     cases hN with
     | cons h _=>obtain⟨_,_,_,e,_⟩:=h;cases e
    have lnr:ln≠r:=λz=>by
     rw[z,hr0]at hln
     cases hln
     cases hN with
     | cons h _=>obtain⟨_,_,_,e,_⟩:=h;cases e
    have ypos:0<ys.length:=by rw[<- yl];exact Yx1.mpr hne
    refine⟨_,rfl,_,rfl,_,rfl,ls,_,rfl,.inl (SqL.of hl4),p,_,o4,rfl,hp4,ho4,by omega,by omega,λv5 o5 h50 h51 ho5=>?_⟩
    obtain⟨j5,rfl⟩:=Yp4 h50
    have hj5:j5<ys.length:=by omega
    have hy5:ys[j5]?=some ys[j5]:=Yh hj5
    obtain⟨n,hn,t,tp,ps,et,ht,htp,hP⟩:=Zau hN' hy5
    have hn2:=hm' n (Yf hn)
    have gnn:=gn.each n hn2.1
    have n1:=gnn.one
    have n4:=gnn.four
    have nρ:=hn2.2
    rw[et]at hy5
    have k5:∀ b u,b≠p->b≠r->H b=some u->(upd H4 p o5) b=some u:=λb u hb hb2 e=>by rw[Zab hb];exact k4 _ _ hb hb2 e
    have hp5:(upd H4 p o5) p=some o5:=uS
    have hr5:(upd H4 p o5) r=some (.lst [.int ρ]):=by rw[Zab (Ym hpr)];exact hr4
    have hl5:(upd H4 p o5) ls=some (.lst ys):=by rw[Zab lsp];exact hl4
    generalize upd H4 p o5=H5 at k5 hp5 hr5 hl5
    refine⟨ls,_,_,_,rfl,rfl,SqL.of hl5,Zb5 hy5,t,_,rfl,SqT.of (k5 _ _ (np ht) (nr ht) ht),rfl,_,_,rfl,_,_,rfl,_,_,rfl,rfl,?_⟩
    refine⟨_,rfl,r,_,_,_,rfl,rfl,SqL.of hr5,rfl,_,rfl,_,_,rfl,rfl,_,rfl,r,_,_,0,rfl,rfl,hr5,rfl,?_⟩
    have er:((ρ:Int) - (n.2.1:Int))=((ρ - n.2.1:Nat):Int):=by omega
    have k6:∀ b u,b≠p->b≠r->H b=some u->(upd H5 r (.lst [.int ((ρ - n.2.1:Nat):Int)])) b=some u:=λb u hb hb2 e=>by rw[Zab hb2];exact k5 _ _ hb hb2 e
    have hp6:(upd H5 r (.lst [.int ((ρ - n.2.1:Nat):Int)])) p=some o5:=by rw[Zab hpr];exact hp5
    have hr6:(upd H5 r (.lst [.int ((ρ - n.2.1:Nat):Int)])) r=some (.lst [.int ((ρ - n.2.1:Nat):Int)]):=uS
    rw[<- er]at k6 hp6 hr6
    dsimp only[List.set_cons_zero]
    generalize upd H5 r (.lst [.int ((ρ:Int) - (n.2.1:Int))])=H6 at k6 hp6 hr6 ⊢
    rw[er]at hr6
    refine⟨_,rfl,sL (by show 1<=100000;decide),λt1 ht1=>?_⟩
    have s67:Zaj H6 (upd H6 t1 (.tup [.str n.1])):=Za9 ht1
    have ht17:(upd H6 t1 (.tup [.str n.1])) t1=some (.tup [.str n.1]):=uS
    generalize upd H6 t1 (.tup [.str n.1])=H7 at s67 ht17
    have hp7:=s67 _ _ hp6
    have hr7:=s67 _ _ hr6
    have k7:∀ b u,b≠p->b≠r->H b=some u->H7 b=some u:=λb u hb hb2 e=>s67 _ _ (k6 _ _ hb hb2 e)
    let Iv2:Addr->Nat->LV->St->Hp->Prop:=λD i ys σ' H'=>H7 D=none/\(∀ b o,b≠p->b≠r->b≠D->H7 b=some o->H' b=some o)/\(∃ o,H' p=some o/\Zh2 o)/\H' D=some (.lst ys)/\∃(x:OV) (ds:List Dt) (ρi:Nat),σ'=[x,some (.int dp),some (.int m),some (.ref ln),some (.ref p),some (.ref r)]/\H' r=some (.lst [.int ρi])/\TmsV H' ds ys/\Dr ds/\(∀ k,Zc7 k ds + ρi<=i + (ρ - n.2.1))/\ds.length=i
    refine⟨_,rfl,(n.2.1:Int),rfl,by omega,by omega,Zdq Zbm (sL (by rw[Za4];omega)) Iv2
     (λD hD=>⟨hD,λb o _ _ _ e=>Za9 hD _ _ e,⟨o5,Za9 hD _ _ hp7,ho5⟩,uS,none,[],ρ - n.2.1,rfl,Za9 hD _ _ hr7,.nil,Dr.nil,λk=>by rw[Zhc];omega,rfl⟩) (λD i ys σ' H' hi h0=>by obtain⟨_,_,_,_,_,ds,_,_,_,ht,_,_,dl⟩:=h0;exact⟨trivial,by have:=ht.length;omega⟩) ?_ ?_⟩
    ·rintro D i v' ys' σ' H8 hD hi ⟨hDn,k8,⟨o8,hp8,ho8⟩,hD8,x8,ds,ρi,rfl,hr8,hT8,dr8,cn8,dl8⟩
     obtain⟨hi,rfl⟩:=Za6 hi
     have Dp:D≠p:=λz=>by rw[z,hp7]at hDn;cases hDn
     have Dr':D≠r:=λz=>by rw[z,hr7]at hDn;cases hDn
     have lnD:ln≠D:=nNo (k7 _ _ lnp lnr hln) hDn
     have c0:=cn8 0
     have kN:∀ b xs,H b=some (.tup xs)->H8 b=some (.tup xs):=λb xs e=>k8 _ _ (np e) (nr e) (nNo (k7 _ _ (np e) (nr e) e) hDn) (k7 _ _ (np e) (nr e) e)
     refine⟨_,rfl,_,rfl,_,rfl,_,rfl,_,rfl,_,_,rfl,rfl,p,ln,r,m,ρi,dp - 1,ns,us,by rw[show((dp - 1:Nat):Int)=(dp:Int) - 1 by omega];rfl,by omega,by omega,⟨o8,hp8,ho8⟩,hr8,hpr,k8 _ _ lnp lnr lnD (k7 _ _ lnp lnr hln),hN.mono kN,gn,m1,m12,by omega,λv d ρ' H9 st hv dr cn=>?_⟩
     have hD9:=st.keep _ _ Dp Dr' hD8
     have tk:∀ b xs,H9 b=some (.tup xs)->(upd H9 D (.lst (ys'++[v]))) b=some (.tup xs):=λb xs e=>by rw[Zab (λz=>by rw[z,hD9]at e;cases e)];exact e
     have t89:∀ b xs,H8 b=some (.tup xs)->H9 b=some (.tup xs):=λb xs e=>st.keep _ _ (λz=>by rw[z,hp8]at e;obtain⟨_,_,q',_⟩:=ho8;rw[q']at e;cases e) (λz=>by rw[z,hr8]at e;cases e) e
     obtain⟨o9,hp9,ho9⟩:=st.pot
     refine⟨hD9,hDn,λb u hb hb2 hb3 e=>by rw[Zab hb3];exact st.keep _ _ hb hb2 (k8 _ _ hb hb2 hb3 e),⟨o9,by rw[Zab (Ym Dp)];exact hp9,ho9⟩,uS,_,ds++[d],ρ',rfl,by rw[Zab (Ym Dr')];exact st.room,((hT8.keep t89).keep tk).append (.cons (hv.keep tk) .nil),dr8.append dr,λk=>?_,by rw[Yi,Yv1];omega⟩
     have a1:=cn8 k
     have a2:=cn k
     rw[Zdd]
     omega
    ·rintro D ys' σ' H8 hD ⟨hDn,k8,⟨o8,hp8,ho8⟩,hD8,x8,ds,ρi,rfl,hr8,hT8,dr8,cn8,dl8⟩
     rw[Za4]at cn8 dl8
     have t1D:t1≠D:=nNo ht17 hDn
     have t1p:t1≠p:=λz=>by rw[z,hp6]at ht1;cases ht1
     have t1r:t1≠r:=λz=>by rw[z,hr6]at ht1;cases ht1
     have yl8:=hT8.length
     refine⟨D,_,rfl,.inl ⟨SqL.of hD8,λtt htt=>?_⟩⟩
     have s89:Zaj H8 (upd H8 tt (.tup ys')):=Za9 htt
     have htt9:(upd H8 tt (.tup ys')) tt=some (.tup ys'):=uS
     generalize upd H8 tt (.tup ys')=H9 at s89 htt9
     have c0:=cn8 0
     refine Zl5 (K:=K) (s89 _ _ (k8 _ _ t1p t1r t1D ht17)) htt9 (sL (by show 1 + _<=_;omega)) λpR HR sR hR=>?_
     cases ds with
     | nil=>exact absurd dl8 (by show ¬ 0=_;omega)
     | cons d0 dr0 =>
      refine q (.ref pR) (.tuple (.str n.1 :: d0 :: dr0)) ρi HR ⟨λb u hb hb2 e=>sR _ _ (s89 _ _ (k8 _ _ hb hb2 (nNo (k7 _ _ hb hb2 e) hDn) (k7 _ _ hb hb2 e))),⟨o8,sR _ _ (s89 _ _ hp8),ho8⟩,sR _ _ (s89 _ _ hr8)⟩ (.tup hR (.cons (.str _ (Zo9 gnn.word)) ((hT8.keep (Zbs s89)).keep (Zbs sR)))) (Dr.tup dr8) λk=>?_
      cases k with
      | zero=>rw[Zb4]at c0 ⊢;omega
      | succ k =>
       have a1:=cn8 k
       rw[Zwh]
       omega
def Zqa{z:Nat}{e:Dt}(h:lvl z [e]=[]):Zc7 z [e]=1 + Zc7 z (Zfd e):=by
 cases z with
 | zero=>rw[Zbe]at h;cases h
 | succ k =>
  rw[Zfw,Zcg]at h
  rw[Zgu,Zcg,Zch,h]
  rfl
def Zje{z:Nat}{e:Dt}(h:lvl z [e]=[]):lvl z (Zfd e)=[]:=by
 cases z with
 | zero=>rw[Zbe]at h;cases h
 | succ k =>
  rw[Zfw,Zcg]at h
  rw[Zcn,h]
  rfl
def Zpz{z:Nat}{ds:List Dt}(h:lvl z ds=[]):ds.length<=Zc7 z ds:=by
 cases z with
 | zero=>rw[Zbe]at h;rw[h];exact Yv _
 | succ k=>rw[Zgu];omega
theorem TmsV.last{H:Hp}:∀ {ds:List Dt}{vs:LV},TmsV H ds vs->ds≠[]->∃ ds' e vs' y,ds=ds'++[e]/\vs=vs'++[y]/\TmsV H ds' vs'/\TmV H e y
 | _,_,.nil,h=>absurd rfl h
 | [d],[v],.cons h .nil,_=>⟨[],d,[],v,rfl,rfl,.nil,h⟩
 | d :: d2 :: ds,v :: v2 :: vs,.cons h (.cons h2 t),_=>by
  obtain⟨ds',e,vs',y,e1,e2,t',h'⟩:=TmsV.last (.cons h2 t) (by simp)
  exact⟨d :: ds',e,v :: vs',y,by rw[e1];rfl,by rw[e2];rfl,.cons h t',h'⟩
def PtW(v:V)(H:Hp)(l:Addr)(z T:Nat)(m:Nat)(σ:St)(H':Hp):Prop:=∃(c:Nat) (x:OV) (ds:List Dt) (us:LV),σ=[some v,some (.int c),some (.ref l),x]/\Zaj H H'/\H' l=some (.lst us)/\TmsV H' ds us/\lvl z ds=[]/\c + Zc7 z ds=T/\m=Zc7 z ds
def Z3h:Sp:=λvs H Q _=>∃(d:Dt) (v:V) (z:Nat),vs=[v]/\TmV H d v/\lvl z [d]=[]/\Zc7 z [d]<=1000/\∀ H',Zaj H H'->Q (.int (Zc7 z [d]:Nat)) H'
abbrev nPt:LS:=["term","count","left","part"]
def Z7i:Zak nPt ["term"] (Zad Zfk):=by nofun
set_option maxHeartbeats 8000000 in
def Zu1(F:Def K mg "_law_parts" Zfk ["term"] f fd)(T:Ztd mg)(list:mg "list"=none):⋯ 1 f fd ["term"] Z3h:=by
 nomatch F.fn.ok Z7i
 ·obtain⟨d,v,z,rfl,_⟩:=h
  rfl
 ·obtain⟨d,v,z,rfl,hv,hz,hc,q⟩:=h
  have nd:=Z7i.nd
  have hu:=hr.units
  ac_nf
  refine'⟨_,(pS (sE 1 nd Zae)
   (pS (sE 2 nd (Zbj (pC (pv 0) Zaa)))
   (pS (Zfs Yk (Zal (Zzx hu) (pv 2) (Zbj Zaa) (Zaq _))
    (pS (sE 3 nd (Zzv Yu PySem.F.slot_list_pop PySem.F.type_list_pop Zz1 (pv 2)))
   (pS (sE 1 nd (Za0 Zbz (pv 1) Zae))
   (Zac (Zaz (Zcm (Zam Zgv (by rfl) T.isi Yo1 (pC (pv 3) (pC (Zg5 (v:=.ty "tuple") (by rfl) T.tuple Yh1 rfl) Zaa))))
     (Zac (Zax (Zf0 Yu Ya3 Yb3 Zil (pv 2) (pC (Zbd Zef (by rfl) list Yb2 (pC (Zdm (r:=Zzo K) Ziw (pv 3) (Ze9 Zae) Zfa) Zaa)) Zaa)))) Zai)))))
   (Zac (Zao (pv 1)))))),?_⟩
  exists let b:=_;let c:=Zhf _ b _;let e:=Zar _ c;let f:=Zar _ e;let g:=Zar (Zju _ f) a;let h:=Zar _ g;Zar _ h _ _ _
  refine⟨_,rfl,sL (by show 1<=100000;decide),λl hl=>?_⟩
  have s1:Zaj H (upd H l (.lst [v])):=Za9 hl
  refine⟨PtW v H l z (Zc7 z [d]),⟨_,0,none,[d],[v],rfl,s1,uS,.cons (hv.keep (Zbs s1)) .nil,hz,by omega,rfl⟩,?_⟩
  rintro m σ H2 ⟨c,x,ds,us,rfl,s2,hl2,hT2,hz2,hc2,rfl⟩
  refine⟨_,rfl,Yv _,λt2 ht2=>?_⟩
  have s23:Zaj H2 (upd H2 t2 (.lst [])):=Za9 ht2
  have ht3:(upd H2 t2 (.lst [])) t2=some (.lst []):=uS
  generalize upd H2 t2 (.lst [])=H3 at s23 ht3
  have hl3:=s23 _ _ hl2
  have hT3:=hT2.keep (Zbs s23)
  have s3:=s2.trans s23
  refine⟨.list ds,.list [],.list (SqL.of hl3) hT3.reps,.list (SqL.of ht3) .nil,hT3.layL,Zrh,Zrr,_,rfl,?_⟩
  rw[Zrp]
  have lc:=Zpz hz2
  cases hds:ds.isEmpty with
  | true =>
   have e:ds=[]:=Yu4.mp hds
   subst e
   rw[Zhc]at hc2
   refine Zcu ⟨_,rfl,?_⟩
   rw[show c=Zc7 z [d] by omega]
   exact q H3 s3
  | false =>
   refine Zfe ⟨λσ' H'=>∃ m',m'<Zc7 z ds/\PtW v H l z (Zc7 z [d]) m' σ' H',λ_ _ h=>h,?_⟩
   obtain⟨ds',e,us',y,rfl,rfl,hT',he⟩:=hT3.last (λz=>by rw[z]at hds;cases hds)
   rw[Zck,List.append_eq_nil_iff]at hz2
   rw[Zdd,Zqa hz2.2]at hc2
   rw[Yi,Yv1]at lc
   have ul:=hT'.length
   refine⟨_,rfl,.inl ⟨rfl,_,SqL.of hl3⟩,l,_,y,rfl,rfl,hl3,by simp,?_⟩
   rw[List.dropLast_concat]
   have s4:Zaj H (upd H3 l (.lst us')):=λb o e=>by rw[Zab (nNo e hl)];exact s3 _ _ e
   have hl4:(upd H3 l (.lst us')) l=some (.lst us'):=uS
   have tk:∀ b xs,H3 b=some (.tup xs)->(upd H3 l (.lst us')) b=some (.tup xs):=λb xs e=>by rw[Zab (λz=>by rw[z,hl3]at e;cases e)];exact e
   have hT4:=hT'.keep tk
   have he4:=he.keep tk
   generalize upd H3 l (.lst us')=H4 at s4 hl4 hT4 he4
   have fin:∀ {k:Nat},Zfd e=[]->k=c + 1->∃ m',m'<Zc7 z (ds'++[e])/\PtW v H l z (Zc7 z [d]) m' [some v,some (.int (k:Nat)),some (.ref l),some y] H4:=λhk e1=>⟨Zc7 z ds',by rw[Zdd,Zqa hz2.2];omega,_,_,ds',us',rfl,s4,hl4,hT4,hz2.1,by rw[hk,Zhc]at hc2;omega,rfl⟩
   have ec:((c:Int) + 1)=((c + 1:Nat):Int):=rfl
   refine⟨_,rfl,_,_,rfl,rfl,?_⟩
   cases he4 with
   | int j=>exact⟨_,rfl,_,_,_,_,rfl,.int j,rfl,_,rfl,Zcu (fin (k:=c + 1) rfl rfl)⟩
   | str j hj=>exact⟨_,rfl,_,_,_,_,rfl,.str j,rfl,_,rfl,Zcu (fin (k:=c + 1) rfl rfl)⟩
   | @tup a ws es ha ht =>
    refine⟨_,rfl,_,_,_,_,rfl,.tup ha,rfl,_,rfl,Zfe ⟨_,rfl,.inl ⟨rfl,_,SqL.of hl4⟩,_,rfl,_,rfl,?_⟩⟩
    unfold Zg1
    refine Ziy (K:=K) (lo:=some 1) (hi:=none) ha λb H5 s5 hb=>?_
    rw[Z20]at hb
    refine⟨b,_,rfl,.inr (SqT.of hb),λlb hlb=>?_⟩
    have s56:Zaj H5 (upd H5 lb (.lst (ws.drop 1))):=Za9 hlb
    have hlb6:(upd H5 lb (.lst (ws.drop 1))) lb=some (.lst (ws.drop 1)):=uS
    generalize upd H5 lb (.lst (ws.drop 1))=H6 at s56 hlb6
    have s46:=s5.trans s56
    have hl6:=s46 _ _ hl4
    have kd:TmsV H6 (Zfd (.tuple es)) (ws.drop 1):=(ht.keep (Zbs s46)).drop 1
    have kl:=kd.length
    have lk:=Zpz (Zje hz2.2)
    have lk1:=Zpz hz2.1
    refine⟨l,lb,_,_,rfl,rfl,hl6,hlb6,sL (by omega),Zc7 z (ds'++Zfd (.tuple es)),by rw[Zdd,Zdd,Zqa hz2.2];omega,c + 1,_,ds'++Zfd (.tuple es),us'++ws.drop 1,rfl,λb o e=>by rw[Zab (nNo e hl)];exact s46 _ _ (s4 _ _ e),uS,?_,by rw[Zck,hz2.1,Zje hz2.2];rfl,by rw[Zdd];omega,rfl⟩
    have tk6:∀ b xs,H6 b=some (.tup xs)->(upd H6 l (.lst (us'++ws.drop 1))) b=some (.tup xs):=λb xs e=>by rw[Zab (λz=>by rw[z,hl6]at e;cases e)];exact e
    exact((hT4.keep (Zbs s46)).keep tk6).append (kd.keep tk6)
def Zj8(ns:List Nam)(m:Nat):Dt->Bool
 | .int i=>decide (0<=i)&&decide (i<m)
 | d=>Zhy ns d
theorem Zi1:∀ k,lvl k []=[]
 | 0=>Zbe _
 | k + 1=>by rw[Zcn,Zi1 k];rfl
theorem Zpu(j:Nat)(e:Dt):∀ l:List Dt,e∈lvl j l↔∃ c∈l,e∈lvl j [c]
 | []=>by rw[Zi1];simp
 | c :: r=>by
  rw[show c :: r=[c]++r from rfl,Zck,Yo,Zpu j e r]
  constructor
  ·rintro(h | ⟨c',h1,h2⟩)
   ·exact⟨c,.head _,h⟩
   ·exact⟨c',.tail _ h1,h2⟩
  ·rintro⟨c',h1,h2⟩
   rcases Yg1.mp h1 with e' | h1
   ·rw[e']at h2;exact .inl h2
   ·exact .inr ⟨c',h1,h2⟩
theorem Zl2(ns:List Nam)(m:Nat):∀(k:Nat) (d:Dt),lvl k [d]=[]->(Zm1 ns m k d=true↔∀ j,∀ e∈lvl j [d],Zj8 ns m e=true)
 | 0,d,h=>by rw[Zbe]at h;cases h
 | k + 1,d,h=>by
  have hk:∀ c∈Zfd d,lvl k [c]=[]:=λc hc=>Zvj hc h
  have e1:Zm1 ns m (k + 1) d=(Zj8 ns m d&&(Zfd d).all (Zm1 ns m k)):=by
   cases d <;> first | rfl | simp[Zm1,Zj8,Zfd]
  rw[e1,Yt1,Yr1]
  constructor
  ·rintro⟨h1,h2⟩ j e he
   cases j with
   | zero=>rw[Zbe]at he;rw[Yc.mp he];exact h1
   | succ j =>
    rw[Zfw,Zcg]at he
    obtain⟨c,hc,he⟩:=(Zpu j e (Zfd d)).mp he
    exact(Zl2 ns m k c (hk c hc)).mp (h2 c hc) j e he
  ·intro h2
   refine⟨h2 0 d (by rw[Zbe];exact .head _),λc hc=>(Zl2 ns m k c (hk c hc)).mpr λj e he=>h2 (j + 1) e ?_⟩
   rw[Zfw,Zcg]
   exact(Zpu j e (Zfd d)).mpr ⟨c,hc,he⟩
def Zwr{ns:List Nam}{m:Nat}{d e:Dt}{i:Nat}(he:e∈lvl i [d])(hb:Zj8 ns m e=false):Zeo ns m d=false:=by
 unfold Zeo
 cases hs:Zh5 d with
 | false=>rfl
 | true =>
  rw[Ye3]
  refine Bool.eq_false_iff.mpr λh=>?_
  have:=(Zl2 ns m 12 d (Znj hs)).mp h i e he
  rw[hb]at this
  cases this
def Zin{a b:Nat}{l:List Dt}(h:lvl a l=[])(hab:a<=b):lvl b l=[]:=by
 induction b with
 | zero=>rw[show a=0 by omega]at h;exact h
 | succ b ih =>
  by_cases e:a=b + 1
  ·rw[<- e];exact h
  ·rw[Zcn,ih (by omega)];rfl
def Zrs{a b:Nat}{l:List Dt}(h:lvl a l=[])(hab:a<=b):Zc7 b l=Zc7 a l:=by
 induction b with
 | zero=>rw[show a=0 by omega]
 | succ b ih =>
  by_cases e:a=b + 1
  ·rw[e]
  ·rw[Zch,Zin h (by omega),ih (by omega)];rfl
def Z49(a:Nat){b:Nat}(l:List Dt)(hab:a<=b):Zc7 a l<=Zc7 b l:=by
 induction b with
 | zero=>rw[show a=0 by omega];exact Yd _
 | succ b ih =>
  by_cases e:a=b + 1
  ·rw[e];exact Yd _
  ·exact Yx (ih (by omega)) (Zwj _ _)
def Zvk{z:Nat}{l:List Dt}(h:lvl z l=[])(i:Nat):(lvl i l).length<=Zc7 z l:=by
 by_cases hi:i<z
 ·exact Yx (Zvn i l) (Z49 _ _ hi)
 ·rw[Zin h (by omega)];exact Yv _
def Zv3{ns:List Nam}{m:Nat}{d:Dt}{i z:Nat}(hz:lvl z [d]=[])(hi:lvl i [d]=[])(hf:∀ j,j<i->lvl j [d]≠[])(hg:∀ j,j<i->∀ e∈lvl j [d],Zj8 ns m e=true):Zeo ns m d=(decide (i<=12)&&decide (Zc7 z [d]<=40)):=by
 have hg':∀ j,∀ e∈lvl j [d],Zj8 ns m e=true:=λj e he=>by
  by_cases hj:j<i
  ·exact hg j hj e he
  ·rw[Zin hi (by omega)]at he;cases he
 by_cases h12:i<=12
 ·have l12:=Zin hi h12
  have ec:Zc7 12 [d]=Zc7 z [d]:=by
   rw[<- Zrs l12 (Nat.le_max_left 12 z),<- Zrs hz (Nat.le_max_right 12 z)]
  unfold Zeo Zh5
  rw[(Zl2 ns m 12 d l12).mpr hg',Bool.and_true,l12,ec,Jb h12]
  rfl
 ·have n12:=hf 12 (by omega)
  unfold Zeo Zh5
  rw[Jc h12,show(lvl 12 [d]).isEmpty=false from by
   cases hh:lvl 12 [d]with
   | nil=>exact absurd hh n12
   | cons=>rfl]
  rfl
structure PlD(ns:List Nam)(kvs:KL):Prop where
 get:∀ n∈ns,Zex kvs (Sum.inr n.1)=some (.int n.2.1)
 non:∀ k:Key,(∀ n∈ns,k≠Sum.inr n.1)->Zex kvs k=none
 len:kvs.length<=ns.length
def PlD.snoc{ns:List Nam}{n:Nam}{kvs:KL}(h:PlD ns kvs)(nd:((ns++[n]).map (·.1)).Nodup):PlD (ns++[n]) (Zdt kvs (Sum.inr n.1) (.int n.2.1)):=by
 rw[Yb1,Yc3]at nd
 have nn:∀ n'∈ns,n'.1≠n.1:=λn' hn' e=>nd.2.2 n'.1 (Ye.mpr ⟨n',hn',rfl⟩) n.1 (by simp) e
 refine⟨λn' hn'=>?_,λk hk=>?_,?_⟩
 ·rw[Zlq]
  rcases Yo.mp hn' with e | e
  ·rw[if_neg (λz=>nn n' e (by injection z))];exact h.get n' e
  ·rw[Yc.mp e,if_pos rfl]
 ·rw[Zlq,if_neg (hk n (by simp))]
  exact h.non k λn' hn'=>hk n' (Yf2 _ hn')
 ·rw[Zfr _ (h.non _ λn' hn' z=>nn n' hn' (by injection z with z;exact z.symm)),Yi,Yi]
  have:=h.len
  simp only[Yv1]
  omega
def PlD.nil:PlD [] []:=⟨(λ_ h=>nomatch h),(λ_ _=>rfl),Yd _⟩
def ITW(ln pd:Addr)(v:V)(mn:Nat)(H:Hp)(kvs:KL)(ns:List Nam)(d:Dt)(z:Nat)(m:Nat)(σ:St)(H':Hp):Prop:=∃(i:Nat) (lv:Addr) (us:LV) (x4 x7 x8:OV),σ=[some (.ref ln),some (.int mn),some v,some (.ref pd),x4,some (.ref lv),some (.int i),x7,x8]/\Zaj H H'/\H' pd=some (.dK kvs)/\H' lv=some (.lst us)/\TmsV H' (lvl i [d]) us/\(∀ j,j<i->lvl j [d]≠[])/\(∀ j,j<i->∀ e∈lvl j [d],Zj8 ns mn e=true)/\m=z - i/\i<=z
def Z3i(rows:RS):Sp:=λvs H Q _=>∃(ln:Addr) (m z:Nat) (ns:List Nam) (us:LV) (d:Dt) (v:V),vs=[.ref ln,.int m,v]/\H ln=some (.lst us)/\Zge H ns us/\Zbo rows ns/\TmV H d v/\Wf d/\lvl z [d]=[]/\Zc7 z [d]<=1000/\∀ H',Zaj H H'->Q (.bl (Zeo ns m d)) H'
abbrev Z9u:LS:=["names","many","term","places","name","level","deep","below","part"]
abbrev Z33:LS:=["names","many","term"]
def Z3p:Zak Z9u Z33 (Zad Zd8):=by nofun
set_option maxHeartbeats 16000000 in
def Zsf(rows:RS)(F:Def K mg "_law_is_term" Zd8 Z33 f fd)(T:Ztd mg)(list:mg "list"=none)(DP:Def K mg "_law_parts" Zfk ["term"] fP fdP):⋯ 2 f fd Z33 (Z3i rows):=by
 have GP:⋯ 1 fP fdP ["term"] Z3h:=Zu1 DP T list
 nomatch F.fn.ok Z3p
 ·obtain⟨ln,m,z,ns,us,d,v,rfl,_⟩:=h
  rfl
 ·obtain⟨ln,mn,z,ns,us,d,v,rfl,hln,hN,gn,hv,wf,hz,hc,q⟩:=h
  have nd:=Z3p.nd
  have hu:=hr.units
  have hu1:=Zf1 hr
  ac_nf
  refine'⟨_,(pS (sE 3 nd Zeb)
   (pS (Zbc Yk rfl (Zbb (pv 0)) (gE 4 nd) (Zac (Zel hu1 (pv 3) (Za3 (r:=Zhv K) Zbr (pv 4) Zae (λ_ _=>rfl)) (Za3 (r:=Zhv K) Zbr (pv 4) Zae (λ_ _=>rfl)) rfl)))
   (pS (sE 5 nd (Zbj (pC (pv 2) Zaa)))
   (pS (sE 6 nd Zae)
   (pS (Zfs Yk (Zal (Zzx hu) (pv 5) (Zbj Zaa) (Zaq _))
    (pS (sE 6 nd (Za0 Zbz (pv 6) Zae))
   (pS (sE 7 nd (Zbj Zaa))
   (pS (Zbc Yk rfl (Zbb (pv 5)) (gE 8 nd)
     (Zac (Zaz (Zcm (Zam Zgv (by rfl) T.isi Yo1 (pC (pv 8) (pC (Zg5 (v:=.ty "tuple") (by rfl) T.tuple Yh1 rfl) Zaa))))
      (pS (Zaz (PW.pt (Zno (Zal (Z35 hu) (pv 8) (Zbi Zaa) (Zaq _)) (Znn (Zf9 (Zg6 hu1 (Za3 (r:=Zhv K) Zbr (pv 8) Zae (λ_ _=>rfl)) (pv 3)))))) (Zac (Zao Zht)) Zai)
   (pS (Zaz (Zal Zuv (Zam Zan (by rfl) T.len Yr (pC (pv 8) Zaa)) (Za0 Zbz Zae (Zd1 hu1 (pv 3) (Za3 (r:=Zhv K) Zbr (pv 8) Zae (λ_ _=>rfl)) (λ_ _=>rfl))) (Zaq _)) (Zac (Zao Zht)) Zai)
   (Zac (Zax (Zf0 Yu Ya3 Yb3 Zil (pv 7) (pC (Zbd Zef (by rfl) list Yb2 (pC (Zdm (r:=Zzo K) Ziw (pv 8) (Ze9 Zae) Zfa) Zaa)) Zaa))))))
      (Zac (Zaz (PW.pt (Zno (Zdh (Zcm (Zam Zgv (by rfl) T.isi Yo1 (pC (pv 8) (pC (Zg5 (v:=.ty "int") (by rfl) T.int Yw4 rfl) Zaa))))) (Zno (Zal Zmc (pv 8) Zae (Zaq _)) (Znn (Zal Z07 (pv 8) (pv 1) (Zaq _)))))) (Zac (Zao Zht)) Zai)))))
   (Zac (sE 5 nd (pv 7)))))))
   (Zac (Zao (Zk9 (Zhz Zjk (pv 6) Zae (Zaq _)) (Zk8 (Zhz Zjk (Zaf DP GP hr (pC (pv 2) Zaa)) Zae (Zaq _))))))))))),?_⟩
  exists let b:=_;let c:=_;let e:=Zar _ c;let f:=Zar _ e;let g:=_;let h:=Zhf _ f g;let i:=Zar (Zgf _ _ h) b;let j:=Zar _ i;let k:=Zar _ j;let l:=Zar (Zju _ k) a;let m:=Zar _ l;let n:=Zar _ m;let o:=_;let p:=Zar (Zgf _ _ o) n;Zar _ p _ _ _
  intro pd hpd
  have s1:Zaj H (upd H pd (.dK [])):=Za9 hpd
  have nl:=Yz hN
  have few:=gn.few
  let Iv1:NW:=λi σ H'=>∃(x4:OV) (kvs:KL),σ=[some (.ref ln),some (.int mn),some v,some (.ref pd),x4,none,none,none,none]/\Zaj H H'/\H' pd=some (.dK kvs)/\PlD (ns.take i) kvs
  refine⟨_,rfl,ln,rfl,⟨_,SqL.of (s1 _ _ hln)⟩,Zat (Zav (xs:=us)) Iv1
   ⟨none,[],rfl,s1,uS,by rw[Ym1];exact PlD.nil⟩ (λi σ H' _ h0=>by obtain⟨_,_,_,s,_⟩:=h0;exact SqL.of (s _ _ hln)) ?_ ?_⟩
  ·rintro i v' σ H2 hi ⟨x4,kvs,rfl,s2,hpd2,pl2⟩
   obtain⟨n,hn,t,tp,ps,rfl,ht,htp,hP⟩:=Zau hN hi
   have kl:=pl2.len
   rw[Yd1]at kl
   refine⟨_,rfl,t,_,_,_,rfl,rfl,SqT.of (s2 _ _ ht),rfl,_,rfl,_,rfl,t,_,_,_,rfl,rfl,SqT.of (s2 _ _ ht),rfl,pd,_,rfl,.inl ⟨kvs,Sum.inr n.1,hpd2,rfl,Za2 (by omega),rfl⟩,_,_,rfl,λb o e=>by rw[Zab (nNo e hpd)];exact s2 _ _ e,uS,?_⟩
   have e:ns.take (i + 1)=ns.take i++[n]:=by rw[Yt,hn];rfl
   rw[e]
   refine pl2.snoc ?_
   rw[<- e]
   exact(List.Sublist.map _ (List.take_sublist _ _)).nodup gn.nd
  rintro σ H1 ⟨x4,kvs,rfl,s1,hpd1,pl⟩
  rw[<- nl,Ye1]at pl
  refine⟨_,rfl,sL (by show 1<=100000;decide),λlv0 hlv0=>?_⟩
  have s12:Zaj H1 (upd H1 lv0 (.lst [v])):=Za9 hlv0
  refine⟨ITW ln pd v mn H kvs ns d z,⟨_,0,lv0,[v],x4,none,none,rfl,s1.trans s12,s12 _ _ hpd1,uS,by rw[Zbe];exact .cons (hv.keep (Zbs (s1.trans s12))) .nil,λj h=>absurd h (Nat.not_lt_zero _),λj h=>absurd h (Nat.not_lt_zero _),rfl,Yv _⟩,?_⟩
  rintro m σ H2 ⟨i,lv,us2,y4,y7,y8,rfl,s2,hpd2,hlv2,hT2,hf2,hg2,rfl,iz⟩
  refine⟨_,rfl,Yv _,λt2 ht2=>?_⟩
  have s23:Zaj H2 (upd H2 t2 (.lst [])):=Za9 ht2
  have ht3:(upd H2 t2 (.lst [])) t2=some (.lst []):=uS
  generalize upd H2 t2 (.lst [])=H3 at s23 ht3
  have hlv3:=s23 _ _ hlv2
  have hpd3:=s23 _ _ hpd2
  have hT3:=hT2.keep (Zbs s23)
  have s3:=s2.trans s23
  refine⟨.list (lvl i [d]),.list [],.list (SqL.of hlv3) hT3.reps,.list (SqL.of ht3) .nil,hT3.layL,Zrh,Zrr,_,rfl,?_⟩
  rw[Zrp]
  have ll:=Zvk hz i
  have ll1:=Zvk hz (i + 1)
  rw[Zcn]at ll1
  have ul:=hT3.length
  cases hds:(lvl i [d]).isEmpty with
  | true =>
   have e:lvl i [d]=[]:=Yu4.mp hds
   have qe:=Zv3 (ns:=ns) (m:=mn) hz e hf2 hg2
   rw[qe]at q
   refine Zcu ⟨_,rfl,_,_,rfl,rfl,_,rfl,?_⟩
   by_cases h12:i<=12
   ·rw[Jb h12,Ye3]at q
    rw[Jb (show((i:Nat):Int)<=12 by omega)]
    refine Zfe ⟨_,rfl,d,v,z,rfl,hv.keep (Zbs s3),hz,hc,λH4 s4=>⟨_,_,rfl,rfl,?_⟩⟩
    have z1:decide (((Zc7 z [d]:Nat):Int)<=40)=decide (Zc7 z [d]<=40):=decide_eq_decide.mpr ⟨λh=>by omega,λh=>by omega⟩
    show Q (.bl (decide (((Zc7 z [d]:Nat):Int)<=40))) H4
    rw[z1]
    exact q H4 (s3.trans s4)
   ·rw[Jc h12,Yf5]at q
    rw[Jc (show ¬ ((i:Nat):Int)<=12 by omega)]
    exact Zcu (q H3 s3)
  | false =>
   have hne:lvl i [d]≠[]:=λz=>by rw[z]at hds;cases hds
   have iz':i<z:=by
    by_cases h:i=z
    ·rw[h]at hne;exact absurd hz hne
    ·omega
   refine Zfe ⟨λσ' H'=>∃ m',m'<z - i/\ITW ln pd v mn H kvs ns d z m' σ' H',λ_ _ h=>h,?_⟩
   refine⟨_,rfl,_,_,rfl,rfl,Yv _,λlb hlb=>?_⟩
   have s34:Zaj H3 (upd H3 lb (.lst [])):=Za9 hlb
   have hlb4:(upd H3 lb (.lst [])) lb=some (.lst []):=uS
   generalize upd H3 lb (.lst [])=H4 at s34 hlb4
   have lbH:H lb=none:=s3.free hlb
   have lvb:lv≠lb:=nNo hlv3 hlb
   have pdb:pd≠lb:=nNo hpd3 hlb
   have s4:=s3.trans s34
   let Iv2:NW:=λj σ H'=>∃(x8:OV) (ws:LV),σ=[some (.ref ln),some (.int mn),some v,some (.ref pd),y4,some (.ref lv),some (.int ((i:Int) + 1)),some (.ref lb),x8]/\Zaj H H'/\H' pd=some (.dK kvs)/\H' lv=some (.lst us2)/\H' lb=some (.lst ws)/\TmsV H' (lvl i [d]) us2/\TmsV H' (((lvl i [d]).take j).flatMap Zfd) ws/\∀ e∈(lvl i [d]).take j,Zj8 ns mn e=true
   refine⟨_,rfl,lv,rfl,⟨_,SqL.of (s34 _ _ hlv3)⟩,Zat (Zav (xs:=us2)) Iv2
    ⟨y8,[],rfl,s4,s34 _ _ hpd3,s34 _ _ hlv3,hlb4,hT3.keep (Zbs s34),by rw[Ym1];exact .nil,by rw[Ym1];exact λ_ h=>nomatch h⟩ (λj σ H' _ h0=>by obtain⟨_,_,_,_,_,e,_⟩:=h0;exact SqL.of e) ?_ ?_⟩
   ·rintro j v' σ H5 hj ⟨x8,ws,rfl,s5,hpd5,hlv5,hlb5,hT5,hW5,hg5⟩
    obtain⟨e,he,hv'⟩:=hT5.at_ hj
    have hm:e∈lvl i [d]:=Yf he
    have bad:∀ {H':Hp},Zaj H H'->Zj8 ns mn e=false->Q (.bl false) H':=λ{H'} sb hb=>by have:=q H' sb;rw[Zwr hm hb]at this;exact this
    have et:((lvl i [d]).take (j + 1)).flatMap Zfd=((lvl i [d]).take j).flatMap Zfd++Zfd e:=by
     rw[Yt,he]
     simp[Ye4]
    have gd:Zj8 ns mn e=true->∀ e'∈(lvl i [d]).take (j + 1),Zj8 ns mn e'=true:=λhb e' h'=>by
     rw[Yt,he]at h'
     rcases Yo.mp h' with h' | h'
     ·exact hg5 e' h'
     ·rw[Yc.mp h'];exact hb
    have lz:=Zki Zfd (lvl i [d]) (j + 1)
    rw[et,Yi]at lz
    have wl:=hW5.length
    cases hv' with
    | str x hx =>
     refine⟨_,rfl,_,_,_,_,rfl,.str x,rfl,_,rfl,Zcu ⟨_,rfl,_,_,_,_,rfl,.str x,rfl,_,rfl,Zfe (bad s5 rfl)⟩⟩
    | int k =>
     refine⟨_,rfl,_,_,_,_,rfl,.int k,rfl,_,rfl,Zcu ⟨_,rfl,_,_,_,_,rfl,.int k,rfl,_,rfl,Zcu ⟨_,rfl,_,_,rfl,rfl,_,rfl,Zdu (λh=>?_) (λh=>⟨_,rfl,_,rfl,_,_,rfl,rfl,_,rfl,Zdu (λh2=>?_) (λh2=>?_)⟩)⟩⟩⟩
     ·have h:=Je h
      exact bad s5 (by show(decide (0<=k)&&_)=false;rw[Jc (by omega)];rfl)
     ·have h2:=Je h2
      exact bad s5 (by show(_&&decide (k<(mn:Int)))=false;rw[Jc (show ¬ k<(mn:Int) by omega),Bool.and_false])
     ·have h:¬ k<0:=λz=>h (Jb z)
      have h2:¬ (mn:Int)<=k:=λz=>h2 (Jb z)
      refine⟨_,ws,rfl,s5,hpd5,hlv5,hlb5,hT5,by rw[et];show TmsV H5 (_++[]) ws;rw[Yn1];exact hW5,gd ?_⟩
      show(decide (0<=k)&&decide (k<(mn:Int)))=true
      rw[Jb (show 0<=k by omega),Jb (show k<(mn:Int) by omega)]
      rfl
    | @tup a vs es ha ht =>
     refine⟨_,rfl,_,_,_,_,rfl,.tup ha,rfl,_,rfl,Zfe ⟨_,rfl,Yv _,λt6 ht6=>?_⟩⟩
     have s56:Zaj H5 (upd H5 t6 (.tup [])):=Za9 ht6
     have h66:(upd H5 t6 (.tup [])) t6=some (.tup []):=uS
     generalize upd H5 t6 (.tup [])=H6 at s56 h66
     have ha6:=s56 _ _ ha
     have ht6':=ht.keep (Zbs s56)
     have s6:=s5.trans s56
     have hpd6:=s56 _ _ hpd5
     refine⟨.tuple es,.tuple [],.tuple (SqT.of ha6) ht6'.reps,.tuple (SqT.of h66) .nil,(TmV.tup ha6 ht6').lay,Zyg,Zy2,_,rfl,?_⟩
     rw[Zyx]
     have hh:=wf i _ hm
     cases ht6' with
     | nil=>exact Zfe (bad s6 rfl)
     | @cons e0 es v0 vs h0 ht0 =>
      refine Zcu ⟨_,rfl,a,_,_,_,rfl,rfl,SqT.of ha6,at0 _ _,_,rfl,pd,?_⟩
      cases h0 with
      | tup=>cases hh
      | int k0 =>
       refine⟨_,rfl,Zgg.k (k:=Sum.inl k0) hpd6,_,rfl,?_⟩
       rw[pl.non (Sum.inl k0) (λn _ z=>by cases z)]
       exact Zfe (bad s6 rfl)
      | str x hxo =>
       refine⟨_,rfl,Zgg.k (k:=Sum.inr x) hpd6,_,rfl,?_⟩
       by_cases hx:x∈ns.map (·.1)
       ·obtain⟨n,hn,rfl⟩:=Ye.mp hx
        rw[pl.get n hn]
        refine Zcu ⟨_,rfl,a,_,rfl,.inr (SqT.of ha6),_,rfl,_,rfl,a,_,_,_,rfl,rfl,SqT.of ha6,at0 _ _,pd,.int n.2.1,rfl,(by rw[<- pl.get n hn];exact Zgg.k (k:=Sum.inr n.1) hpd6),_,_,rfl,rfl,rfl,_,rfl,?_⟩
        have el:=ht0.length
        have en:decide (V.int (((V.str n.1 :: vs).length:Nat):Int)=V.int ((1:Int) + (n.2.1:Int)))=decide (es.length=n.2.1):=decide_eq_decide.mpr ⟨λz=>by injection z with z;rw[Yf1]at z;omega,λz=>by rw[Yf1];congr 1;omega⟩
        dsimp only
        rw[en]
        by_cases hl:es.length=n.2.1
        ·rw[Jb hl]
         have gde:=gd ((Zhn _ (Zkp gn.nd hn)).trans (Jb hl))
         have hlb6:=s56 _ _ hlb5
         refine Zcu ⟨_,rfl,.inl ⟨rfl,_,SqL.of hlb6⟩,_,rfl,_,rfl,?_⟩
         unfold Zg1
         refine Ziy (K:=K) (lo:=some 1) (hi:=none) ha6 λb H7 s7 hb=>?_
         rw[Z20]at hb
         refine⟨b,_,rfl,.inr (SqT.of hb),λlc hlc=>?_⟩
         have s78:Zaj H7 (upd H7 lc (.lst ((V.str n.1 :: vs).drop 1))):=Za9 hlc
         have hlc8:(upd H7 lc (.lst ((V.str n.1 :: vs).drop 1))) lc=some (.lst ((V.str n.1 :: vs).drop 1)):=uS
         generalize upd H7 lc (.lst ((V.str n.1 :: vs).drop 1))=H8 at s78 hlc8
         have s68:=s7.trans s78
         have s58:=s56.trans s68
         have hlb8:=s58 _ _ hlb5
         have tk:∀ b xs,H8 b=some (.tup xs)->(upd H8 lb (.lst (ws++(V.str n.1 :: vs).drop 1))) b=some (.tup xs):=λb xs e=>by rw[Zab (λz=>by rw[z,hlb8]at e;cases e)];exact e
         have kl:(Zfd (.tuple (.str n.1 :: es):Dt)).length=es.length:=rfl
         refine⟨lb,lc,_,_,rfl,rfl,hlb8,hlc8,sL (by show _ + vs.length<=_;omega),_,_,rfl,λb o e=>by rw[Zab (nNo e lbH)];exact s58 _ _ (s5 _ _ e),by rw[Zab pdb];exact s58 _ _ hpd5,by rw[Zab lvb];exact s58 _ _ hlv5,uS,(hT5.keep (Zbs s58)).keep tk,?_,gde⟩
         rw[et]
         exact((hW5.keep (Zbs s58)).keep tk).append ((ht0.keep (Zbs s68)).keep tk)
        ·rw[Jc hl]
         exact Zfe (bad s6 ((Zhn _ (Zkp gn.nd hn)).trans (Jc hl)))
       ·rw[pl.non (Sum.inr x) (λn hn z=>hx (by injection z with z;rw[z];exact Ye.mpr ⟨n,hn,rfl⟩))]
        exact Zfe (bad s6 (Zi0 _ (Zoz hx)))
   ·rintro σ H5 ⟨x8,ws,rfl,s5,hpd5,hlv5,hlb5,hT5,hW5,hg5⟩
    rw[<- ul,Ye1]at hW5 hg5
    refine⟨_,rfl,z - (i + 1),by omega,i + 1,lb,ws,y4,_,x8,rfl,s5,hpd5,hlb5,by rw[Zcn];exact hW5,λj hj=>?_,λj hj=>?_,rfl,by omega⟩
    ·by_cases h:j=i
     ·rw[h];exact hne
     ·exact hf2 j (by omega)
    ·by_cases h:j=i
     ·rw[h];exact hg5
     ·exact hg2 j (by omega)
def WfL(l:List Dt):Prop:=∀ k,∀ e∈lvl k l,Zv2 e=true
def WfL.nil:WfL []:=λk e he=>by rw[Zi1]at he;cases he
theorem WfL.int(i:Int):WfL [.int i]
 | 0,e,he=>by rw[Zbe]at he;rw[Yc.mp he];rfl
 | k + 1,e,he=>by rw[Zfw,Zcg]at he;exact WfL.nil k e he
theorem WfL.str(x:Str):WfL [.str x]
 | 0,e,he=>by rw[Zbe]at he;rw[Yc.mp he];rfl
 | k + 1,e,he=>by rw[Zfw,Zcg]at he;exact WfL.nil k e he
def WfL.tup{d:Dt}(h:Zv2 d=true)(g:WfL (Zfd d)):WfL [d]
 | 0,e,he=>by rw[Zbe]at he;rw[Yc.mp he];exact h
 | k + 1,e,he=>by rw[Zfw,Zcg]at he;exact g k e he
def Z6z{l:List Dt}(h:Dr l):WfL l:=λk e he=>by
 have:=h k e he
 match e,this with
 | .int _,_=>rfl
 | .tuple (.str _ :: _ :: _),_=>rfl
def Z2i(x:Str):∀ k,Zc7 k [.str x]<=1
 | 0=>by rw[Zb4];omega
 | k + 1=>by rw[Zgu,Zcg];show 1 + Zc7 k []<=1;rw[Zhc];exact Yd _
def Zy4:∀ k,Zc7 k [.tuple []]<=1
 | 0=>by rw[Zb4];omega
 | k + 1=>by rw[Zgu,Zcg];show 1 + Zc7 k []<=1;rw[Zhc];exact Yd _
def Z2h(h:Dt)(i:Int):∀ k,Zc7 k [.tuple [h,.int i]]<=2
 | 0=>by rw[Zb4];omega
 | k + 1=>by rw[Zwh];have:=Zmv i k;omega
def Z2c{N:Nat}{l:List Dt}(h:∀ k,Zc7 k l<=N):lvl N l=[]:=by
 cases hh:lvl N l with
 | nil=>rfl
 | cons e r =>
  have ne:∀ j,j<=N->1<=(lvl j l).length:=λj hj=>by
   cases hz:lvl j l with
   | nil=>rw[Zin hz hj]at hh;cases hh
   | cons=>rw[Yf1];omega
  have up:∀ j,j<=N + 1->j<=Zc7 j l:=λj=>by
   induction j with
   | zero=>intro _;exact Yv _
   | succ j ih=>intro hj;have a:=ih (by omega);have b:=ne j (by omega);rw[Zch];omega
  have:=up (N + 1) (Yd _)
  have:=h (N + 1)
  omega
def Z46(xs:LV)(k:Nat):Zoo xs none (some (k:Int))=xs.take k:=by
 unfold Zoo
 rw[HT.sIx_none,HT.sIx_nat,List.drop_zero,Nat.sub_zero]
 by_cases h:k<=xs.length
 ·rw[Yh4 h]
 ·rw[Ys4 (by omega),Ye1,Ya2 (by omega)]
def Z47(xs:LV)(k:Nat):Zoo xs (some (k:Int)) none=xs.drop k:=by
 unfold Zoo
 rw[HT.sIx_none,HT.sIx_nat]
 by_cases h:k<=xs.length
 ·rw[Yh4 h];exact Ya2 (by rw[Yq2];omega)
 ·rw[Ys4 (by omega),List.drop_length,List.drop_of_length_le (by omega)];exact List.take_nil
def RsW(rows:RS)(H:Hp)(a:Addr):Prop:=(∃ x,x∈rows.map (·.1)/\H a=some (.tup [.str "kind",.str x]))\/∃(s:Str) (r:LV),¬ s="kind"/\H a=some (.tup (.str s :: r))
def Zr1(near:LN):(∃ k,near=[k])\/∃(s:Str) (ks:LV),Z0i near=.str s :: ks/\ks.length<=2/\¬ s="deed"/\¬ s="kind":=by
 match near with
 | []=>exact .inr ⟨"none",[],rfl,by decide,by rfl',by rfl'⟩
 | [k]=>exact .inl ⟨k,rfl⟩
 | k :: j :: _=>exact .inr ⟨"clash",[Zmm k,Zmm j],rfl,by show 2<=2;decide,by rfl',by rfl'⟩
def Z0o{ns:List Nam}{m j:Nat}{d:Dt}(h:Zm1 ns m (j + 1) d=true):(∃ i:Nat,d=.int i/\i<m)\/∃ n∈ns,∃ ds,d=.tuple (.str n.1 :: ds)/\ds.length=n.2.1/\∀ c∈ds,Zm1 ns m j c=true:=by
 have no:∀(e:Dt),Zhy ns e=false->Zm1 ns m (j + 1) e=(Zhy ns e&&(Zfd e).all (Zm1 ns m j))->Zm1 ns m (j + 1) e=true->False:=λe z y w=>by rw[y,z]at w;cases w
 cases d with
 | int i =>
  have h:(decide (0<=i)&&decide (i<(m:Int)))=true:=h
  rw[Yt1]at h
  have h1:=Je h.1
  have h2:=Je h.2
  exact .inl ⟨i.toNat,by rw[Yp1 h1],by omega⟩
 | tuple ds =>
  cases ds with
  | nil=>exact(no _ rfl rfl h).elim
  | cons x r =>
   cases x with
   | str w =>
    have h:(Zhy ns (.tuple (.str w :: r))&&r.all (Zm1 ns m j))=true:=h
    rw[Yt1,Yr1]at h
    cases ha:Zwv ns w with
    | none=>rw[Zi0 r ha]at h;cases h.1
    | some k =>
     rw[Zhn r ha]at h
     unfold Zwv at ha
     obtain⟨n,hn,ek⟩:=Yk1.mp ha
     have hm:=Yo3 hn
     have hw:n.1=w:=Je (List.find?_some (p:=λn:Nam=>decide (n.1=w)) hn)
     exact .inr ⟨n,hm,r,by rw[hw],by rw[Je h.1,ek],h.2⟩
   | _=>exact(no _ rfl rfl h).elim
 | _=>exact(no _ rfl rfl h).elim
def Zm9(C B D:Addr):Sp:=λvs H Q _=>∃(p k tc:Addr) (vt:V) (rows:RS) (ns:List Nam) (n:Nam) (c:LS),vs=[.ref p,.str n.1,vt,.ref tc]/\Zen C B D H p k rows ns/\Zdr rows/\Zbo rows ns/\n∈ns/\H tc=some (.tup (c.map V.str))/\Zc2 rows n.2.1 c /\
 ∀(a:Addr) (H':Hp),Zaj H H'->RsW rows H' a->Q (.ref a) H'
def Ztu(K:Fg)(C B D:Addr)(j:Nat):Sp:=λvs H Q _=>∃(p k l ts:Addr) (rows:RS) (ns:List Nam) (b:Bool) (xs:LS) (d:Dt) (v:V) (us:LV),vs=[.ref p,.ref l,v,.ref ts]/\Zen C B D H p k rows ns/\Zdr rows/\Zbo rows ns/\SqB K b H l (xs.map V.str)/\(∀ x∈xs,x∈rows.map (·.1))/\TmV H d v/\Zm1 ns xs.length j d=true/\H ts=some (.tup us)/\us.length + j<=50 /\
 ∀(a:Addr) (H':Hp),Zaj H H'->RsW rows H' a->Q (.ref a) H'
def Zjo(K:Fg)(C B D:Addr):Sp:=λvs H Q _=>∃(p k l:Addr) (rows:RS) (ns:List Nam) (b:Bool) (xs:LS) (d:Dt) (v:V),vs=[.ref p,.ref l,v]/\Zen C B D H p k rows ns/\Zdr rows/\Zbo rows ns/\SqB K b H l (xs.map V.str)/\xs.length<=12/\(∀ x∈xs,x∈rows.map (·.1)) /\
 TmV H d v/\Wf d/\(∀ i,(lvl i [d]).length<=1000)/\Zeo ns xs.length d=true/\∀ H',Zaj H H'->Q .non H'
def Z3f(K:Fg)(C B D:Addr):Sp:=λvs H Q _=>∃(p k l:Addr) (rows:RS) (ns:List Nam) (b:Bool) (xs:LS) (d:Dt) (v:V),vs=[.ref p,.ref l,v]/\Zen C B D H p k rows ns/\Zdr rows/\Zbo rows ns/\SqB K b H l (xs.map V.str)/\xs.length<=12/\(∀ x∈xs,x∈rows.map (·.1)) /\
 TmV H d v/\Wf d/\(∀ i,(lvl i [d]).length<=1000)/\Zeo ns xs.length d=true/\∀(a:Addr) (H':Hp),Zaj H H'->Q (.ref a) H'
abbrev nRC:LS:=["book","word","spot","call","answer"]
abbrev pRC:LS:=["book","word","spot","call"]
def Z7h:Zak nRC pRC (Zad Zhh):=by nofun
def Zsb(F:Def K mg "run_call" Zhh pRC f fd)(TD:Zi5 K D)(list:mg "list"=none)
  (DT:Def K mg "told" Zq0 ["board","call"] fT fdT) (GT:⋯ 8 fT fdT ["board","call"] (Zzc C B)) (MB:Zw3 K D fB fdB) (MM:Z2u K D fM fdM) (MC:Zqg K D fC fdC):⋯ 9 f fd pRC (Zm9 C B D):=by
 have GB:⋯ 2 fB fdB ["self","word"] (Zlw C B D):=Zn0 MB.fn TD MC
 have GM:⋯ 2 fM fdM ["self","word"] (Zqv C B D):=Zu4 MM.fn TD MC list
 nomatch F.fn.ok Z7h
 ·obtain⟨p,k,tc,vt,rows,ns,n,c,rfl,_⟩:=h
  rfl
 ·obtain⟨p,k,tc,vt,rows,ns,n,c,rfl,bk,g,gn,hn,htc,gc,q⟩:=h
  have nd:=Z7h.nd
  have hr2:Zcb 2 _:=hr.mono (by decide)
  have gnn:=gn.each n hn
  ac_nf
  refine'⟨_,(pS (sE 4 nd (Zaf DT GT hr (pC (Zcs (pv 0) TD.cl MB.me GB hr2 MB.b .nil Zdn (pC (pv 1) Zaa)) (pC (pv 3) Zaa))))
   (pS (Zaz (Zal Zds (Za3 (r:=Zhv K) Zbr (pv 4) Zae (λ_ _=>rfl)) Zca (Zaq _)) (Zac (Zao (Zbi (pC Zca (pC (Za3 (r:=Ziu K) Zay (Zcs (pv 0) TD.cl MM.me GM hr2 MM.b .nil Zdn (pC (pv 1) Zaa)) (Za3 (r:=Zhv K) Zbr (pv 4) Zae (λ_ _=>rfl)) (λ_ _=>rfl)) Zaa))))) Zai)
   (Zac (Zao (Za0 Zmd (Zbi (pC (Za3 (r:=Zhv K) Zbr (pv 4) Zae (λ_ _=>rfl)) (pC (pv 2) (pC (pv 3) Zaa)))) (Zdm (r:=Zzo K) Ziw (pv 4) (Ze9 Zae) Zfa)))))),?_⟩
  exists let b:=_;let c:=Zar (Zhf _ b _) a;Zar _ c _ _ _
  obtain⟨dx,bo,mo,o,bvs,mvs,h1,_⟩:=bk.ex
  refine⟨_,rfl,p,dx,_,rfl,h1,Zn8 _ _ _,_,rfl,p,k,rows,ns,n,rfl,bk,gn.nd,hn,λy bd=>?_⟩
  refine⟨_,rfl,y,k,tc,rows,n.2.1,_,c,rfl,bd,g,gnn.deeds,gnn.four,htc,gc,λl near H1 hl s1 hl1 lt=>?_⟩
  rcases Zr1 near with⟨i,rfl⟩ | ⟨b,ks,ev,kl,nd1,nd2⟩
  ·have li:=lt i (.head _)
   rw[Ya]at li
   refine⟨_,rfl,l,_,_,_,rfl,rfl,SqT.of hl1,at0 _ _,rfl,_,rfl,?_⟩
   rw[Jb rfl]
   refine Zfe ⟨_,rfl,p,dx,_,rfl,s1 _ _ h1,Zvg _ _ _,_,rfl,p,k,rows,ns,n,rfl,bk.mono s1,gn.nd,hn,λlm hlm=>?_⟩
   have s12:Zaj H1 (upd H1 lm (.lst ((n.2.2.map (·.2)).map V.str))):=Za9 hlm
   have hl2:(upd H1 lm (.lst ((n.2.2.map (·.2)).map V.str))) lm=some (.lst ((n.2.2.map (·.2)).map V.str)):=uS
   generalize upd H1 lm (.lst ((n.2.2.map (·.2)).map V.str))=H2 at s12 hl2
   have hi2:(n.2.2.map (·.2))[i]?=some ((n.2.2.map (·.2)).getD i ("":Str)):=by
    rw[Yw,Yp,Yh li]
    rfl
   refine⟨_,rfl,l,_,_,_,rfl,rfl,SqT.of (s12 _ _ hl1),Zb5 (j:=1) rfl,lm,_,_,_,rfl,rfl,SqL.of hl2,Zb5 (j:=i) (by rw[Yp,hi2];rfl),sL (by show 2<=100000;decide),λt ht=>q t _ ((s1.trans s12).trans (Za9 ht)) (.inl ⟨_,?_,uS⟩)⟩
   rw[Yw,Yp,Yh li]
   exact gnn.made _ (Yr2 li)
  ·rw[ev]at hl1
   refine⟨_,rfl,l,_,_,_,rfl,rfl,SqT.of hl1,at0 _ _,rfl,_,rfl,?_⟩
   rw[Jc (show ¬ (V.str b=V.str "deed")from λz=>by injection z with z;exact nd1 z)]
   refine Zcu ⟨_,rfl,l,_,_,_,rfl,rfl,SqT.of hl1,at0 _ _,_,rfl,_,rfl,sL (by show 3<=100000;decide),λt ht=>?_⟩
   have s12:Zaj H1 (upd H1 t (.tup [.str b,vt,.ref tc])):=Za9 ht
   have ht2:(upd H1 t (.tup [.str b,vt,.ref tc])) t=some (.tup [.str b,vt,.ref tc]):=uS
   generalize upd H1 t (.tup [.str b,vt,.ref tc])=H2 at s12 ht2
   refine⟨_,rfl,_,rfl,?_⟩
   unfold Zg1
   refine Ziy (K:=K) (lo:=some 1) (hi:=none) (s12 _ _ hl1) λu H3 s23 hu=>?_
   rw[Z20]at hu
   have hu:H3 u=some (.tup ks):=hu
   exact Zl5 (K:=K) (s23 _ _ ht2) hu (sL (by show 3 + _<=_;omega)) λa H4 s34 ha=>q a H4 ((s1.trans s12).trans (s23.trans s34)) (.inr ⟨b,_,nd2,ha⟩)
abbrev nRP:LS:=["book","filling","term","spot","made","number","part","answer"]
abbrev pRP:LS:=["book","filling","term","spot"]
def Z58:Zak nRP pRP (Zad Zf4):=by nofun
def Z1b(F:Def K mg "run_part" Zf4 pRP f fd)(T:Ztd mg)(enum:mg "enumerate"=none)
  (DN:Def K mg "is_number" Ze5 ["thing"] fN fdN) (DC:Def K mg "run_call" Zhh pRC fC fdC) (GC:⋯ 9 fC fdC pRC (Zm9 C B D)):
  ∀ j,⋯ (10 + j) f fd pRP (Ztu K C B D j):=by
 intro j
 induction j with
 | zero =>
  nomatch F.fn.ok Z58
  ·obtain⟨p,k,l,ts,rows,ns,b,xs,d,v,us,rfl,_⟩:=h
   rfl
  ·obtain⟨p,k,l,ts,rows,ns,b,xs,d,v,us,rfl,_,_,_,_,_,_,z,_⟩:=h
   cases z
 | succ j GS =>
  have GN:⋯ 1 fN fdN ["thing"] Zpe:=Zq9 DN T
  nomatch F.fn.ok Z58
  ·obtain⟨p,k,l,ts,rows,ns,b,xs,d,v,us,rfl,_⟩:=h
   rfl
  ·obtain⟨p,k,l,ts,rows,ns,b,xs,d,v,us,rfl,bk,g,gn,hS,hx,hv,sd,hts,hsp,q⟩:=h
   have nd:=Z58.nd
   have hr1:Zcb 1 _:=hr.mono (show 1<=10 + j by omega)
   have hr9:Zcb 9 _:=hr.mono (show 9<=10 + j by omega)
   ac_nf
   refine'⟨_,(pS (Zaz (Zcm (Zaf DN GN hr1 (pC (pv 2) Zaa))) (Zac (Zao (Zbi (pC Zca (pC (Za3 (r:=rIx K) Z4x (pv 1) (pv 2) (λ_ _=>rfl)) Zaa))))) Zai)
   (pS (sE 4 nd (Zbj Zaa))
   (pS (Zbc Yk rfl (Zpj (by rfl) enum (pC (Zdm (r:=Zzo K) Ziw (pv 2) (Ze9 Zae) Zfa) Zaa)) (Zgx rfl (gC (gE 5 nd) (gC (gE 6 nd) Zem)))
     (pS (sE 7 nd (Zaf F GS hr (pC (pv 0) (pC (pv 1) (pC (pv 6) (pC (Za0 Zmd (pv 3) (Zbi (pC (pv 5) Zaa))) Zaa))))))
   (pS (Zaz (Zal Zuv (Za3 (r:=Zhv K) Zbr (pv 7) Zae (λ_ _=>rfl)) Zca (Zaq _)) (Zac (Zao (pv 7))) Zai)
   (Zac (Zax (Zf0 Yu Yi1 Yj1 Zbw (pv 4) (pC (Za3 (r:=Zhv K) Zbr (pv 7) Zae (λ_ _=>rfl)) Zaa)))))))
   (Zac (Zao (Zaf DC GC hr9 (pC (pv 0) (pC (Za3 (r:=Zhv K) Zbr (pv 2) Zae (λ_ _=>rfl)) (pC (pv 3) (pC (Zbd Zbg (by rfl) T.tuple Yh1 (pC (pv 4) Zaa)) Zaa)))))))))),?_⟩
   exists let b:=_;let c:=Zar _ b;let e:=Zar _ c;let f:=Zar (Zgf _ _ e) a;let g:=Zar _ f;let h:=_;Zar (Zhf _ h _) g _ _ _
   rcases Z0o sd with⟨i,rfl,hi⟩ | ⟨n,hn,ds,rfl,hl,hk⟩
   ·cases hv
    refine⟨_,rfl,.int i,_,rfl,.int _,_,rfl,Zfe ⟨_,rfl,_,rfl,?_⟩⟩
    have ea:atI (xs.map V.str) (i:Int)=some (.str (xs.getD i ("":Str))):=Zb5 (by
     rw[Yp,Yw,Yh hi]
     rfl)
    have xm:xs.getD i ("":Str)∈xs:=by
     rw[Yw,Yh hi]
     exact Yr2 hi
    cases b with
    | true=>exact .inl ⟨l,_,_,_,rfl,rfl,hS,ea,sL (by show 2<=100000;decide),λt ht=>q t _ (Za9 ht) (.inl ⟨_,hx _ xm,uS⟩)⟩
    | false=>exact .inr (.inl ⟨l,_,_,_,rfl,rfl,hS,ea,sL (by show 2<=100000;decide),λt ht=>q t _ (Za9 ht) (.inl ⟨_,hx _ xm,uS⟩)⟩)
   ·cases hv with
    | @tup a vs _ ha ht =>
    cases ht with
    | @cons _ _ v0 vs h0 ht =>
    cases h0
    have gnn:=gn.each n hn
    have n4:=gnn.four
    refine⟨_,rfl,.tuple (.str n.1 :: ds),_,rfl,.tup ha (.cons (.str _ (Zo9 gnn.word)) ht),_,rfl,Zcu ⟨Yv _,λlm hlm=>?_⟩⟩
    have s1:Zaj H (upd H lm (.lst [])):=Za9 hlm
    have hm1:(upd H lm (.lst [])) lm=some (.lst []):=uS
    generalize upd H lm (.lst [])=H1 at s1 hm1
    refine⟨_,rfl,_,rfl,?_⟩
    unfold Zg1
    refine Ziy (K:=K) (lo:=some 1) (hi:=none) (s1 _ _ ha) λt2 H2 s12 ht2=>?_
    rw[Z20]at ht2
    have ht2:H2 t2=some (.tup vs):=ht2
    have s2:=s1.trans s12
    have hm2:=s12 _ _ hm1
    have vl:=ht.length
    have tm:t2≠lm:=λz=>by rw[z,hm2]at ht2;cases ht2
    let Iv1:NW:=λi σ H'=>∃(mk:LS) (x5 x6 x7:OV),σ=[some (.ref p),some (.ref l),some (.ref a),some (.ref ts),some (.ref lm),x5,x6,x7]/\Zaj H H'/\H' t2=some (.tup vs)/\H' lm=some (.lst (mk.map V.str))/\mk.length=i/\∀ x∈mk,x∈rows.map (·.1)
    refine⟨false,t2,vs,rfl,SqT.of ht2,Zkg Iv1
     ⟨[],none,none,none,rfl,s2,ht2,hm2,rfl,λ_ h=>nomatch h⟩ (λi σ H' _ h0=>by obtain⟨_,_,_,_,_,_,h,_⟩:=h0;exact SqT.of h) ?_ ?_⟩
    ·rintro i pr t σ H3 hi ⟨mk,x5,x6,x7,rfl,s3,ht3,hm3,ml,hg⟩ ht0
     obtain⟨e1,hi⟩:=Zhb hi
     obtain⟨c,hc,hvc⟩:=ht.at_ hi
     have hcm:=Yf hc
     have il:i<ds.length:=(Yn.mp hc).1
     refine Zri ?_
     have s34:Zaj H3 (upd H3 t (.tup [pr.1,pr.2])):=Za9 ht0
     generalize upd H3 t (.tup [pr.1,pr.2])=H4 at s34
     rw[e1]
     have s4:=s3.trans s34
     refine⟨_,rfl,_,rfl,_,rfl,_,rfl,_,rfl,sL (by show 1<=100000;decide),λt5 ht5=>?_⟩
     have s45:Zaj H4 (upd H4 t5 (.tup [.int i])):=Za9 ht5
     have h55:(upd H4 t5 (.tup [.int i])) t5=some (.tup [.int i]):=uS
     generalize upd H4 t5 (.tup [.int i])=H5 at s45 h55
     have s5:=s4.trans s45
     refine Zl5 (K:=K) (s5 _ _ hts) h55 (sL (by show _ + 1<=_;omega)) λt6 H6 s56 ht6=>?_
     have s6:=s5.trans s56
     refine⟨p,k,l,t6,rows,ns,b,xs,c,pr.2,_,rfl,bk.mono s6,g,gn,hS.mono s6,hx,hvc.keep (Zbs s6),hk c hcm,ht6,by rw[Yi,Yv1];omega,λar H7 s67 hr7=>?_⟩
     have s36:=(s34.trans s45).trans s56
     have s37:=s36.trans s67
     have s7:=s3.trans s37
     rcases hr7 with⟨x,xk,hr7⟩ | ⟨s',r',ns',hr7⟩
     ·refine⟨_,rfl,ar,_,_,_,rfl,rfl,SqT.of hr7,at0 _ _,rfl,_,rfl,?_⟩
      rw[Jb rfl]
      have hm7:=s37 _ _ hm3
      refine Zcu ⟨_,rfl,.inl ⟨rfl,_,SqL.of hm7⟩,_,rfl,ar,_,_,_,rfl,rfl,SqT.of hr7,Zb5 (j:=1) rfl,lm,_,_,rfl,rfl,hm7,Za2 (by rw[Ya];omega),mk++[x],_,_,_,rfl,λb o e=>by rw[Zab (nNo e hlm)];exact s7 _ _ e,by rw[Zab tm];exact s37 _ _ ht3,by rw[uS,Yb1];rfl,by rw[Yi,ml];rfl,λy hy=>?_⟩
      rcases Yo.mp hy with z | z
      ·exact hg y z
      ·rw[Yc.mp z];exact xk
     ·refine⟨_,rfl,ar,_,_,_,rfl,rfl,SqT.of hr7,at0 _ _,rfl,_,rfl,?_⟩
      rw[Jc (show ¬ (V.str s'=V.str "kind")from λz=>by injection z with z;exact ns' z)]
      exact Zfe ⟨_,rfl,q ar H7 s7 (.inr ⟨s',r',ns',hr7⟩)⟩
    ·rintro σ H3 ⟨mk,x5,x6,x7,rfl,s3,ht3,hm3,ml,hg⟩
     rw[Zfc,<- vl]at ml
     refine⟨_,rfl,_,rfl,a,_,_,_,rfl,rfl,SqT.of (s3 _ _ ha),at0 _ _,_,rfl,_,rfl,lm,_,rfl,.inl ⟨SqL.of hm3,λtc htc=>?_⟩⟩
     have s34:Zaj H3 (upd H3 tc (.tup (mk.map V.str))):=Za9 htc
     exact⟨p,k,tc,_,rows,ns,n,mk,rfl,bk.mono (s3.trans s34),g,gn,hn,uS,⟨by rw[ml,hl],hg⟩,λar H5 s45 hr5=>q ar H5 ((s3.trans s34).trans s45) hr5⟩
def Z3r:Zak ["book","filling","term"] ["book","filling","term"] (Zad Zb9):=by nofun
def Zu9(F:Def K mg "check_term" Zb9 ["book","filling","term"] f fd)(DI:Def K mg "is_term" Ze4 ["book","filling","term"] fI fdI)(GI:⋯ 17 fI fdI ["book","filling","term"] (Zjn K C B D)):⋯ 18 f fd ["book","filling","term"] (Zjo K C B D):=by
 nomatch F.fn.ok Z3r
 ·obtain⟨p,k,l,rows,ns,b,xs,d,v,rfl,_⟩:=h
  rfl
 ·obtain⟨p,k,l,rows,ns,b,xs,d,v,rfl,bk,g,gn,hS,hl,hx,hv,wf,lz,ht,q⟩:=h
  ac_nf
  refine'⟨_,Zac (Zaz (Zdh (Zcm (Zaf DI GI hr (pC (pv 0) (pC (pv 1) (pC (pv 2) Zaa)))))) Zaw Zai),?_⟩
  refine⟨_,rfl,_,rfl,_,rfl,p,k,l,rows,ns,b,xs,d,v,rfl,bk,g,gn,hS,hl,hx,hv,wf,lz,λH1 s1=>⟨_,rfl,?_⟩⟩
  rw[ht]
  exact Zcu (q H1 s1)
def Z3l:Zak ["book","filling","term"] ["book","filling","term"] (Zad Zuc):=by nofun
def Z39(F:Def K mg "run" Zuc ["book","filling","term"] f fd)(DI:Def K mg "check_term" Zb9 ["book","filling","term"] fI fdI)(GI:⋯ 18 fI fdI ["book","filling","term"] (Zjo K C B D))
  (DP:Def K mg "run_part" Zf4 pRP fP fdP) (GP:⋯ 22 fP fdP pRP (Ztu K C B D 12)):⋯ 23 f fd ["book","filling","term"] (Z3f K C B D):=by
 nomatch F.fn.ok Z3l
 ·obtain⟨p,k,l,rows,ns,b,xs,d,v,rfl,_⟩:=h
  rfl
 ·obtain⟨p,k,l,rows,ns,b,xs,d,v,rfl,bk,g,gn,hS,hl,hx,hv,wf,lz,ht,q⟩:=h
  have hr18:Zcb 18 _:=hr.mono (by decide)
  ac_nf
  refine'⟨_,(pS (Zax (Zaf DI GI hr18 (pC (pv 0) (pC (pv 1) (pC (pv 2) Zaa)))))
   (Zac (Zao (Zaf DP GP hr (pC (pv 0) (pC (pv 1) (pC (pv 2) (pC (Zbi Zaa) Zaa)))))))),?_⟩
  exists Zar _ a _ _ _
  refine⟨_,rfl,_,rfl,_,rfl,p,k,l,rows,ns,b,xs,d,v,rfl,bk,g,gn,hS,hl,hx,hv,wf,lz,ht,λH1 s1=>?_⟩
  refine⟨_,rfl,_,rfl,_,rfl,Yv _,λt0 ht0=>?_⟩
  have s12:Zaj H1 (upd H1 t0 (.tup [])):=Za9 ht0
  have h02:(upd H1 t0 (.tup [])) t0=some (.tup []):=uS
  generalize upd H1 t0 (.tup [])=H2 at s12 h02
  have s2:=s1.trans s12
  unfold Zeo at ht
  rw[Yt1]at ht
  exact⟨p,k,l,t0,rows,ns,b,xs,d,v,[],rfl,bk.mono s2,g,gn,hS.mono s2,hx,hv.keep (Zbs s2),ht.2,h02,by decide,λa H3 s3 _=>q a H3 (s2.trans s3)⟩
def Zmn(rows:RS)(x:Str):(Zd2 rows x).length<=rows.length:=by
 have:=Yw1 (λy=>Ze8 rows y x) (rows.map (·.1))
 rw[Ya]at this
 exact this
def Z1s{rows:RS}{x y:Str}(h:y∈Zd2 rows x):y∈rows.map (·.1):=(Yj2.mp h).1
def Zqx:Sp:=λvs H Q _=>∃(l:Addr) (wss:List (LS)) (us:LV),vs=[.ref l]/\H l=some (.lst us)/\Zkw H wss us/\(∀ i,(Zbp (wss.take i)).length<=512)/\(∀ ws∈wss,ws.length<=1000)/\Q .non H
def Zt3(K:Fg)(C B D:Addr):Sp:=λvs H Q _=>∃(p k l:Addr) (rows:RS) (ns:List Nam) (b:Bool) (xs:LS) (d:Dt) (v:V),vs=[.ref p,.ref l,v]/\Zen C B D H p k rows ns/\Zdr rows/\Zbo rows ns/\SqB K b H l (xs.map V.str)/\xs.length<=12/\(∀ x∈xs,x∈rows.map (·.1)) /\
 TmV H d v/\Wf d/\(∀ i,(lvl i [d]).length<=1000)/\Zeo ns xs.length d=true/\(∀ i,(Zbp ((xs.map (Zd2 rows)).take i)).length<=512) /\
 ∀(a:Addr) (H':Hp),Zaj H H'->Q (.ref a) H'
def Zso{rows:RS}{xs:LS}{c:LS}(h:c∈Zbp (xs.map (Zd2 rows))):c.length=xs.length/\∀ x∈c,x∈rows.map (·.1):=by
 refine⟨by rw[Zq4 h,Ya],?_⟩
 exact Zrl (xs.map (Zd2 rows)) [[]] (λx=>x∈rows.map (·.1)) (λws hws x hx=>by
  obtain⟨y,_,rfl⟩:=Ye.mp hws
  exact Z1s hx) (λc hc x hx=>by rw[Yc.mp hc]at hx;cases hx) c h
def Zzz:(["word","kinds"]:LS).Nodup:=by rfl'
def Z4e:(["word","made"]:LS).Nodup:=by rfl'
def Zve(d a:Addr):(Zrn d a).lookup ("words":Str)=none:=Zkh d a (by rfl') (by rfl')
abbrev Z2s(K:Fg)(C f:Addr)(fd:FuncData):Prop:=Zo7 K C "words" "Kinds.words" Zes ["self"] f fd
abbrev Z0e(K:Fg)(C f:Addr)(fd:FuncData):Prop:=Zo7 K C "below" "Kinds.below" Zdl ["self","word"] f fd
abbrev nCN:LS:=["rows","number","row"]
def Z5i:Zak nCN ["rows"] (Zad Zcj):=by nofun
def Zva{T1:Tok}(F:Def K mg "check_nearer" Zcj ["rows"] f fd)(len:mg "len"=none)(c1:mg "MOST_NEARER"=some (.int 512 T1)):⋯ 1 f fd ["rows"] Zqx:=by
 nomatch F.fn.ok Z5i
 ·obtain⟨l,wss,us,rfl,_⟩:=h
  rfl
 ·obtain⟨l,wss,us,rfl,hl,hR,hb,hw,q⟩:=h
  have nd:=Z5i.nd
  have hul:wss.length=us.length:=Yz hR
  ac_nf
  refine'⟨_,(pS (sE 1 nd Zae)
   (pS (Zbc Yk rfl (Zbb (pv 0)) (gE 2 nd) (Zac (sE 1 nd (Za0 Zig (pv 1) (Zam Zan (by rfl) len Yr (pC (pv 2) Zaa))))))
   (Zac (Zaz (Zal Zih (pv 1) (Zc4 (v:=.int 512) (by rfl) c1 ⟨_,rfl⟩) (Zaq _)) Zaw Zai)))),?_⟩
  exists let b:=_;let c:=Zar (Zgf _ _ b) a;Zar _ c _ _ _
  let Iv1:NW:=λi σ H'=>∃ x:OV,σ=[some (.ref l),some (.int ((Zbp (wss.take i)).length:Nat)),x]/\H'=H
  refine⟨_,rfl,l,rfl,⟨_,SqL.of hl⟩,Zat (Zav (xs:=us)) Iv1
   ⟨none,by rw[Ym1];rfl,rfl⟩ (λi σ H' _ ⟨_,_,e⟩=>by rw[e];exact SqL.of hl) ?_ ?_⟩
  ·rintro i v σ H' hi ⟨x,rfl,e⟩
   have e:=e.symm
   subst e
   obtain⟨ws,hws,r,rfl,hr'⟩:=Zau hR hi
   have b1:=hb i
   have b2:=hw ws (Yf hws)
   refine⟨_,rfl,_,rfl,r,_,rfl,.inl (SqL.of hr'),_,_,rfl,rfl,.inl ⟨by omega,by omega⟩,some (.ref r),?_,rfl⟩
   show[some (V.ref l),some (V.int ((((Zbp (wss.take i)).length:Nat):Int) * (((ws.map V.str).length:Nat):Int))),_]=_
   rw[Ya,<- Yd5,Yt,hws]
   show _=[some (V.ref l),some (V.int (((Zbp (wss.take i++[ws])).length:Nat):Int)),_]
   rw[Zd0,Zey]
  ·rintro σ H' ⟨x,rfl,e⟩
   have e:=e.symm
   subst e
   have b1:=hb us.length
   refine⟨_,rfl,_,_,rfl,rfl,_,rfl,?_⟩
   rw[show decide ((512:Int)<(((Zbp (wss.take us.length)).length:Nat):Int))=false from Jc (by omega)]
   exact Zcu q
abbrev nCo:LS:=["book","filling","term","kinds","rows","made","nearer","answer"]
abbrev pCo:LS:=["book","filling","term"]
def Z5h:Zak nCo pCo (Zad Zg4):=by nofun
def Zx3(F:Def K mg "comes" Zg4 pCo f fd)(TC:Zmz K C)(TD:Zi5 K D)(list:mg "list"=none)(MK:Zm0 K D fK fdK)(ML:Z0e K C fL fdL)(MW:Z2s K C fW fdW)(MC:Zlp K C fCk fdCk)(MH:Zry K C fH fdH)
  (DT:Def K mg "check_term" Zb9 pCo fT fdT) (GT:⋯ 18 fT fdT pCo (Zjo K C B D)) (DN:Def K mg "check_nearer" Zcj ["rows"] fN fdN) (GN:⋯ 1 fN fdN ["rows"] Zqx) (DO:Def K mg "one_of_each" Zdj ["rows"] fO fdO)
  (DP:Def K mg "run_part" Zf4 pRP fP fdP) (GP:⋯ 22 fP fdP pRP (Ztu K C B D 12)):⋯ 23 f fd pCo (Zt3 K C B D):=by
 have GK:⋯ 1 fK fdK ["self"] (Zh4 C B D):=Zii MK.fn TD
 have GL:⋯ 3 fL fdL ["self","word"] (Zj0 C):=Zlg ML.fn TC MC MH
 have GO:⋯ 1 fO fdO ["rows"] Zna:=Zpp DO
 have GW:⋯ 1 fW fdW ["self"] (Zm8 C):=Zr9 MW.fn TC list
 nomatch F.fn.ok Z5h
 ·obtain⟨p,k,l,rows,ns,b,xs,d,v,rfl,_⟩:=h
  rfl
 ·obtain⟨p,k,l,rows,ns,b,xs,d,v,rfl,bk,g,gn,hS,hl,hx,hv,wf,lz,ht,hb,q⟩:=h
  have nd:=Z5h.nd
  have hu:=Zf1 hr
  have hr1:Zcb 1 _:=hr.mono (by decide)
  have hr3:Zcb 3 _:=hr.mono (by decide)
  have hr18:Zcb 18 _:=hr.mono (by decide)
  ac_nf
  refine'⟨_,(pS (Zax (Zaf DT GT hr18 (pC (pv 0) (pC (pv 1) (pC (pv 2) Zaa)))))
   (pS (Zag (i:=3) nd rfl (Or.inr rfl) (Zdb (pv 0) TD.cl MK.me GK hr1 MK.b .nil Zdn))
   (pS ?eR
   (pS (Zax (Zaf DN GN hr1 (pC (pv 4) Zaa)))
   (pS (Zag (i:=5) nd rfl (Or.inr rfl) Zeb)
   (pS (Zbc Yk rfl (Zbb (Zaf DO GO hr1 (pC (pv 4) Zaa))) (gE 6 nd)
    (pS (sE 7 nd (Zaf DP GP hr (pC (pv 0) (pC (pv 6) (pC (pv 2) (pC (Zbi Zaa) Zaa))))))
   (pS (Zaz (Zal Zuv (Za3 (r:=Zhv K) Zbr (pv 7) Zae (λ_ _=>rfl)) Zca (Zaq _)) (Zac (Zao (Zbi (pC Zca (pC (pv 6) (pC (pv 7) Zaa)))))) Zai)
   (Zac (Zel hu (pv 5) (Za3 (r:=Zhv K) Zbr (pv 7) Zae (λ_ _=>rfl)) Zht rfl)))))
   (Zac (Zao (Zbi (pC Zca (pC ?eC Zaa))))))))))),?_⟩
  case eR=>exact(Zcz (k:=4) ["word"] ["kinds"] [3] nd rfl rfl (λ_=>Za1 (osc:=Zad Zg4) (on:=nCo) (by rfl') rfl rfl rfl) (Zid (pv 1)) (λC s H fp=>Zah (i:=0) Zzz rfl (Or.inl rfl) (Or.inr rfl)) (λC s H fp=>Zb3) (λC s H fp=>Zcs (pv 1) TC.cl ML.me GL hr3 ML.b .nil Zdn (pC (pv 0) Zaa)))
  case eC=>exact(Zbt ["word"] ["made"] [5] (λ_=>Za1 (osc:=Zad Zg4) (on:=nCo) (by rfl') rfl rfl rfl) (Zbb (Zdb (pv 3) TC.cl MW.me GW hr1 MW.b .nil Zdn)) (λC s H fp=>Zah (i:=0) Z4e rfl (Or.inl rfl) (Or.inr rfl)) (λC s H fp=>Zek (Zf9 (Zjb hu (pv 0) (pv 1)))) (λC s H fp=>pv 0))
  exists let b:=_;let c:=_;let e:=Zar (Zhf _ c _) b;let f:=Zar _ e;let g:=Zar (Zgf _ _ f) a;let h:=Zar _ g;let i:=Zar _ h;let j:=Zar _ i;let k:=Zar _ j;Zar _ k _ _ _
  refine⟨_,rfl,_,rfl,_,rfl,p,k,l,rows,ns,b,xs,d,v,rfl,bk,g,gn,hS,hl,hx,hv,wf,lz,ht,λH1 s1=>?_⟩
  have bk1:=bk.mono s1
  obtain⟨dx,bo,mo,o,bvs,mvs,h1,h2,_⟩:=bk1.ex
  obtain⟨dxk,dk,ak,okk,oak,kvs,avs,hk1,_⟩:=h2.ex
  have hS1:=hS.mono s1
  have gle:=g.le
  refine⟨_,rfl,p,dx,_,rfl,h1,Zij _ _ _,p,k,rows,ns,rfl,bk1,?_⟩
  refine⟨_,rfl,b,l,_,rfl,hS1,Zgt Zew (sL (by rw[Ya];omega)) (λ_=>true) (λD x v H=>∃ r y,x=.str y/\v=.ref r/\r≠D/\H1 r=none/\H r=some (.lst ((Zd2 rows y).map V.str))) (λD x v Ha Hb kk h0=>by obtain⟨r,y,e1,e2,e3,e4,e5⟩:=h0;exact⟨r,y,e1,e2,e3,e4,kk _ _ e3 e5⟩) (λH' s=>hS1.mono s) ?_ ?_ ?_⟩
  ·intro x H3 R _ _ hR'
   exact hR' H3 (Zaj.refl _)
  ·intro D x H3 R s3 ⟨ys,hD⟩ hDn hx' _ hR'
   obtain⟨y,hy,rfl⟩:=Ye.mp hx'
   exact⟨_,rfl,k,dxk,_,rfl,s3 _ _ hk1,Zrf _ _,_,rfl,k,rows,y,rfl,h2.mono s3,g,hx y hy,λr hr'=>hR' _ _ (Za9 hr') ⟨r,y,rfl,rfl,Ym (nNo hD hr'),s3.free hr',uS⟩⟩
  intro lr H2 us hlr s12 hl2 hp2
  rw[Yi2.mpr (λ_ _=>rfl)]at hp2
  have hRW:Zkw H2 (xs.map (Zd2 rows)) us:=by
   have:∀ {xs:LS} {us:LV},Paired (λx v=>∃ r y,x=.str y/\v=.ref r/\r≠lr/\H1 r=none/\H2 r=some (.lst ((Zd2 rows y).map V.str))) (xs.map V.str) us->Zkw H2 (xs.map (Zd2 rows)) us:=λ{xs us} h=>by
    induction xs generalizing us with
    | nil=>cases h;exact .nil
    | cons x r ih =>
     cases h with
     | cons a c =>
      obtain⟨r',y,e1,e2,_,_,e5⟩:=a
      injection e1 with e1
      subst e1
      exact .cons ⟨r',e2,e5⟩ (ih c)
   exact this hp2
  have hwl:∀ ws∈xs.map (Zd2 rows),ws.length<=1000:=λws hws=>by
   obtain⟨y,_,rfl⟩:=Ye.mp hws
   have:=Zmn rows y
   omega
  refine⟨_,rfl,lr,_,us,rfl,hl2,hRW,hb,hwl,?_⟩
  intro md hmd
  have s23:Zaj H2 (upd H2 md (.dK [])):=Za9 hmd
  have hm3:(upd H2 md (.dK [])) md=some (.dK []):=uS
  generalize upd H2 md (.dK [])=H3 at s23 hm3
  have s2:=s1.trans s12
  have s3:=s2.trans s23
  have md0:H md=none:=s2.free hmd
  refine⟨_,rfl,lr,_,us,rfl,s23 _ _ hl2,hRW.mono s23,(λi=>Yx (hb i) (by decide)),hwl,by rw[Ya];omega,λlf ys H4 hlf s34 hlf4 hD4=>?_⟩
  have s4:=s3.trans s34
  have hm4:=s34 _ _ hm3
  have dl:=hD4.len
  have fl:(Zbp (xs.map (Zd2 rows))).length<=512:=by
   have:=hb (xs.map (Zd2 rows)).length
   rw[Ye1]at this
   exact this
  unfold Zeo at ht
  rw[Yt1]at ht
  have hlm:lf≠md:=λz=>by rw[z,hm3]at hlf;cases hlf
  let Iv2:NW:=λi σ H'=>∃(kv:KL) (x6 x7:OV),σ=[some (.ref p),some (.ref l),some v,some (.ref k),some (.ref lr),some (.ref md),x6,x7]/\(∀ b o,b≠md->H4 b=some o->H' b=some o)/\H' md=some (.dK kv)/\kv.length<=i
  refine⟨lf,rfl,⟨_,SqL.of hlf4⟩,Zat (Zav (xs:=ys)) Iv2
   ⟨[],none,none,rfl,(λ_ _ _ e=>e),hm4,Yd _⟩ (λi σ H' _ h0=>by obtain⟨_,_,_,_,kk,_⟩:=h0;exact SqL.of (kk _ _ hlm hlf4)) ?_ ?_⟩
  ·rintro i v' σ H5 hi ⟨kv,x6,x7,rfl,k5,hm5,kvl⟩
   obtain⟨c,hc,tc,rfl,htc⟩:=Zau hD4 hi
   have hcm:=Yf hc
   obtain⟨cl,ck⟩:=Zso hcm
   have il:i<(Zbp (xs.map (Zd2 rows))).length:=(Yn.mp hc).1
   have s5:Zaj H H5:=λb o e=>k5 _ _ (nNo e md0) (s4 _ _ e)
   have tcm:tc≠md:=λz=>by rw[z,hm4]at htc;cases htc
   refine⟨_,rfl,_,rfl,_,rfl,Yv _,λt0 ht0=>?_⟩
   have s56:Zaj H5 (upd H5 t0 (.tup [])):=Za9 ht0
   have h06:(upd H5 t0 (.tup [])) t0=some (.tup []):=uS
   generalize upd H5 t0 (.tup [])=H6 at s56 h06
   have s6:=s5.trans s56
   refine⟨p,k,tc,t0,rows,ns,false,c,d,v,[],rfl,bk.mono s6,g,gn,SqT.of (s56 _ _ (k5 _ _ tcm htc)),ck,hv.keep (Zbs s6),by rw[cl];exact ht.2,h06,by decide,λar H7 s67 hr7=>?_⟩
   have s57:=s56.trans s67
   have s7:=s5.trans s57
   have hm7:=s57 _ _ hm5
   rcases hr7 with⟨x,xk,hr7⟩ | ⟨s',r',ns',hr7⟩
   ·refine⟨_,rfl,ar,_,_,_,rfl,rfl,SqT.of hr7,at0 _ _,rfl,_,rfl,?_⟩
    rw[Jb rfl]
    refine Zcu ⟨_,rfl,_,rfl,ar,_,_,_,rfl,rfl,SqT.of hr7,Zb5 (j:=1) rfl,md,_,rfl,Zm3.k (k:=Sum.inr x) hm7 (Za2 (by omega)),_,_,_,rfl,λb o hb e=>by rw[Zab hb];exact s57 _ _ (k5 _ _ hb e),uS,?_⟩
    have:=Zgs kv (Sum.inr x:Key) (.bl true)
    omega
   ·refine⟨_,rfl,ar,_,_,_,rfl,rfl,SqT.of hr7,at0 _ _,rfl,_,rfl,?_⟩
    rw[Jc (show ¬ (V.str s'=V.str "kind")from λz=>by injection z with z;exact ns' z)]
    exact Zfe ⟨_,rfl,_,rfl,sL (by show 3<=100000;decide),λa8 ha8=>q a8 _ (s7.trans (Za9 ha8))⟩
  ·rintro σ H5 ⟨kv,x6,x7,rfl,k5,hm5,kvl⟩
   have s5:Zaj H H5:=λb o e=>k5 _ _ (nNo e md0) (s4 _ _ e)
   have kd5:Zbk C H5 k rows:=by
    obtain⟨_,_,_,_,_,_,_,h2',_⟩:=(bk.mono s5).ex
    exact h2'
   have hk5:H5 k=some (.ins C dxk (Zrn dk ak)):=by
    obtain⟨_,_,_,_,_,_,hz,h2z,_⟩:=bk.ex
    obtain⟨_,_,_,_,_,_,_,hz1,_⟩:=h2z.ex
    have e1:=s1 _ _ hz1
    rw[hk1]at e1
    rw[Yq e1]
    exact s5 _ _ hz1
   refine⟨_,rfl,k,dxk,_,rfl,hk5,Zve _ _,k,rows,rfl,kd5,g,λlw hlw=>?_⟩
   have s56:Zaj H5 (upd H5 lw (.lst ((rows.map (·.1)).map V.str))):=Za9 hlw
   have hw6:(upd H5 lw (.lst ((rows.map (·.1)).map V.str))) lw=some (.lst ((rows.map (·.1)).map V.str)):=uS
   generalize upd H5 lw (.lst ((rows.map (·.1)).map V.str))=H6 at s56 hw6
   have s6:=s5.trans s56
   have hm6:=s56 _ _ hm5
   refine⟨lw,rfl,⟨_,SqL.of hw6⟩,Zda (Zav (xs:=(rows.map (·.1)).map V.str)) (sL (by rw[Ya,Ya];omega)) (λv=>match v with | .str y=>(Zex kv (Sum.inr y)).isSome | _=>false) (λv=>v) (λD ys hD=>SqL.of (by rw[Zab (nNo hw6 hD)];exact hw6)) ?_ ?_ ?_⟩
   ·intro D ys v R hD hv' hR
    obtain⟨y,hy,rfl⟩:=Ye.mp hv'
    have kp:∀ b o,H6 b=some o->(upd H6 D (.lst ys)) b=some o:=λb o e=>by rw[Zab (nNo e hD)];exact e
    exact⟨_,rfl,_,rfl,md,_,rfl,Zgg.k (k:=Sum.inr y) (kp _ _ hm6),_,rfl,hR⟩
   ·intro D ys v R hD hv' _ hR
    exact⟨_,rfl,hR⟩
   ·intro D hD
    exact⟨sL (by show 2<=100000;decide),λa8 ha8=>q a8 _ ((s6.trans (Za9 hD)).trans (Za9 ha8))⟩
structure Z8p(K:Fg)(mg:Str->OU)(D:Addr):Prop where
 m:mg "DeedError"=some (.ref D)
 ex:ExC K D
 cl:W.isClsIn K D=true
 ty:W.typeIn K (.ref D)=some (.type "type")
structure Zw6(K:Fg)(mg:Str->OU)(Ds:Nat->Addr):Prop where
 m0:mg "NoKind"=some (.ref (Ds 0))
 m1:mg "Twice"=some (.ref (Ds 1))
 m2:mg "NoName"=some (.ref (Ds 2))
 m3:mg "Ring"=some (.ref (Ds 3))
 m4:mg "NoDeed"=some (.ref (Ds 4))
 m5:mg "Same"=some (.ref (Ds 5))
 m6:mg "NoText"=some (.ref (Ds 6))
 m7:mg "TooMany"=some (.ref (Ds 7))
 m8:mg "NoBoard"=some (.ref (Ds 8))
 m9:mg "NoCall"=some (.ref (Ds 9))
 m10:mg "NoLine"=some (.ref (Ds 10))
 m11:mg "NoPlace"=some (.ref (Ds 11))
 m12:mg "NoWeights"=some (.ref (Ds 12))
 m13:mg "NoTerm"=some (.ref (Ds 13))
 m14:mg "NoRow"=some (.ref (Ds 14))
 cl:∀ k,k<15->W.isClsIn K (Ds k)=true
 ty:∀ k,k<15->W.typeIn K (.ref (Ds k))=some (.type "type")
structure Zo4(K:Fg)(D:Addr)(Ds:Nat->Addr)(i:Nat):Prop where
 ex:ExA K (Ds i)
 sub:W.subIn K (.ref (Ds i)) (.ref D)=some true
 one:∀ k,k<15->W.subIn K (.ref (Ds i)) (.ref (Ds k))=some (decide (k=i))
def Zwx{P:Nat->Prop}(h0:P 0)(h1:P 1)(h2:P 2)(h3:P 3)(h4:P 4)(h5:P 5)(h6:P 6)(h7:P 7)(h8:P 8)(h9:P 9)(h10:P 10)(h11:P 11)(h12:P 12)(h13:P 13)(h14:P 14):∀ k,k<15->P k:=λk h=>by
 rcases k with _ | _ | _ | _ | _ | _ | _ | _ | _ | _ | _ | _ | _ | _ | _ | k
 ·exact h0
 ·exact h1
 ·exact h2
 ·exact h3
 ·exact h4
 ·exact h5
 ·exact h6
 ·exact h7
 ·exact h8
 ·exact h9
 ·exact h10
 ·exact h11
 ·exact h12
 ·exact h13
 ·exact h14
 ·omega
def fif(a0 a1 a2 a3 a4 a5 a6 a7 a8 a9 a10 a11 a12 a13 a14:Addr):Nat->Addr
 | 0=>a0 | 1=>a1 | 2=>a2 | 3=>a3 | 4=>a4 | 5=>a5 | 6=>a6 | 7=>a7 | 8=>a8 | 9=>a9 | 10=>a10 | 11=>a11 | 12=>a12 | 13=>a13 | _=>a14
def L15:List (Str×Nat):=[("TooMany",7),("NoKind",0),("Twice",1),("NoName",2),("Ring",3),("NoBoard",8),("NoDeed",4),("Same",5),("NoCall",9),("NoTerm",13),("NoText",6),("NoRow",14),("NoLine",10),("NoPlace",11),("NoWeights",12)]
def Ztb:Nat->Str
 | 0=>"NoKind"
 | 1=>"Twice"
 | 2=>"NoName"
 | 3=>"Ring"
 | 4=>"NoDeed"
 | 5=>"Same"
 | 6=>"NoText"
 | 7=>"TooMany"
 | 8=>"NoBoard"
 | 9=>"NoCall"
 | 10=>"NoLine"
 | 11=>"NoPlace"
 | 12=>"NoWeights"
 | 13=>"NoTerm"
 | _=>"NoRow"
def Z2v:∀ i,i<15->(L15.filter λq=>decide (q.2=i)).map (·.1)=[Ztb i]:=by rfl'
abbrev clT(n:Str)(k i:Nat):HO:=.tup [.str n,.bl (decide (k=i))]
def ClV(i:Nat)(H:Hp)(q:Str×Nat)(v:V):Prop:=∃ t,v=.ref t/\H t=some (clT q.1 q.2 i)
def blV:V->Bool
 | .bl b=>b
 | _=>false
theorem Zln{i:Nat}{H:Hp}:∀ {L:List (Str×Nat)}{xs:LV},Paired (ClV i H) L xs->(xs.filter λx=>blV (snP H x)).map (fsP H)=((L.filter λq=>decide (q.2=i)).map (·.1)).map V.str
 | _,_,.nil=>rfl
 | q :: L,x :: xs,.cons ⟨t,e,h⟩ r=>by
  have ih:=Zln r
  have e1:fsP H x=.str q.1:=by rw[e];exact Zrj h
  have e2:snP H x=.bl (decide (q.2=i)):=by rw[e];exact Zni h
  have e3:blV (snP H x)=decide (q.2=i):=by rw[e2];rfl
  by_cases z:q.2=i
  ·rw[List.filter_cons_of_pos (by rw[e3];exact Jb z),List.filter_cons_of_pos (by exact Jb z),Yy,Yy,Yy,ih,e1]
  ·rw[List.filter_cons_of_neg (by rw[e3,Jc z];decide),List.filter_cons_of_neg (by rw[Jc z];decide),ih]
def Z0c{i:Nat}{H:Hp}{L:List (Str×Nat)}{xs:LV}(h:Paired (ClV i H) L xs){x:V}(hx:x∈xs):∃ t k n,x=.ref t/\H t=some (clT n k i):=by
 obtain⟨j,hj⟩:=Yo2.mp hx
 obtain⟨q,_,t,e,ht⟩:=Zau h hj
 exact⟨t,q.2,q.1,e,ht⟩
def XAt(Ds:Nat->Addr)(i:Nat)(σ:St)(H:Hp):Prop:=∃(e:Addr) (dx:Option Addr),σ[0]?=some (some (.ref e))/\H e=some (XO e (Ds i) dx)/\Zkv H dx
def XAt.same{Ds:Nat->Addr}{i:Nat}{σ:St}{H H':Hp}(h:XAt Ds i σ H)(s:Zaj H H'):XAt Ds i σ H':=by
 obtain⟨e,dx,a,b,c⟩:=h
 exact⟨e,dx,a,s _ _ b,Zaj.xdict c s⟩
def tCl(Ds:Nat->Addr)(i:Nat)(n:Str)(k:Nat):TE:=λσ H Q=>XAt Ds i σ H/\∀ t,H t=none->Q (.ref t) (upd H t (clT n k i))
def Z53(Ds:Nat->Addr)(i:Nat)(L:List (Str×Nat)):TA:=λσ H Q=>XAt Ds i σ H/\∀ ts H',Zaj H H'->Paired (ClV i H') L ts->Q ts H'
section
variable {X:Cx}{Ds:Nat->Addr}{i k:Nat}{n c:Str}
def Zh0{p p1 p2 p3 p4 p5:Pos}{j x1}(ex:ExA X.K (Ds i))(isi:X.mg "isinstance"=none)(gi:Gl X "isinstance")(v:∀ p,PE X (.Name "e" p) (Z5e 0))(one:W.kitOne X.K (.ref (Ds i)) (.ref (Ds k))=some (decide (k=i)))(m:X.mg c=some (.ref (Ds k)))(g:Gl X c:=by rfl)(hd:(c == ("__debug__":Str))=false:=by decide):PE X (.Tuple [.Constant (.str n) j p,.Call (.Name "isinstance" p2) [.Name "e" p1,.Name c p3] [] p4] x1 p5) (tCl Ds i n k):=by
 ac_rfl
 refine Zbi (pC Zca (pC (Zam Zot gi isi Yo1 (pC (v _) (pC (Zc4 (v:=.ref (Ds k)) g m rfl hd) Zaa))) Zaa)) pins s σ H Q I ?_
 obtain⟨⟨e,dx,h0,hx,hd⟩,q⟩:=h
 exact⟨_,h0,e,Ds i,dx,_,_,_,rfl,rfl,λu z=>z,hx,hd,ex,one,sL (by show 2<=100000;decide),q⟩
def Z32:PA X [] (Z53 Ds i []):=λpos pins s σ H Q I h=>Zaa pos pins s σ H Q I (h.2 [] H (Zaj.refl _) .nil)
def Zie{e:Expr}{es:List Expr}{L:List (Str×Nat)}(he:PE X e (tCl Ds i n k))(r:PA X es (Z53 Ds i L))(hs:starEach (e :: es) X.env=(false,eval e X.env):: starEach es X.env:=by rfl):PA X (e :: es) (Z53 Ds i ((n,k):: L)):=by
 intro pos pins s σ H Q I h
 refine pC he r hs pos pins s σ H Q I ?_
 obtain⟨z,q⟩:=h
 exact⟨z,λt n=>⟨z.same (Za9 n),λts H' s' p=>q (.ref t :: ts) H' ((Za9 n).trans s') (.cons ⟨t,rfl,s' _ _ uS⟩ p)⟩⟩
end
def Znf(K:Fg)(D:Addr)(Ds:Nat->Addr):Sp:=λvs H Q _=>∃(e:Addr) (i:Nat) (dx:Option Addr),vs=[.ref e]/\H e=some (XO e (Ds i) dx)/\Zkv H dx/\Zo4 K D Ds i/\i<15/\∀ l H',Zaj H H'->H' l=some (.lst [.str (Ztb i)])->Q (.ref l) H'
def Z4l:(["name","takes","e"]:LS).Nodup:=by rfl'
abbrev nCs:LS:=["e","some"]
def Z7z:Zak nCs ["e"] (Zad Zc9):=by nofun
def Zsk{Ds:Nat->Addr}(F:Def K mg "_law_classes" Zc9 ["e"] f fd)(TF:Zw6 K mg Ds)(isi:mg "isinstance"=none)(vr:mg "ValueError"=none):⋯ 1 f fd ["e"] (Znf K D Ds):=by
 nomatch F.fn.ok Z7z
 ·obtain⟨e,i,dx,rfl,_⟩:=h
  rfl
 ·obtain⟨e,i,dx,rfl,hx,hd,O,i15,q⟩:=h
  have nd:=Z7z.nd
  have one:∀ k,k<15->W.kitOne K (.ref (Ds i)) (.ref (Ds k))=some (decide (k=i)):=λk hk=>Zyi (TF.cl k hk) (TF.ty k hk) O.ex.toExC (O.one k hk)
  ac_nf
  refine'⟨_,(pS (sE 1 nd (Zbj (Zie (Zh0 O.ex isi rfl (λ_=>pv 0) (one 7 (by decide)) TF.m7) (Zie (Zh0 O.ex isi rfl (λ_=>pv 0) (one 0 (by decide)) TF.m0) (Zie (Zh0 O.ex isi rfl (λ_=>pv 0) (one 1 (by decide)) TF.m1) (Zie (Zh0 O.ex isi rfl (λ_=>pv 0) (one 2 (by decide)) TF.m2) (Zie (Zh0 O.ex isi rfl (λ_=>pv 0) (one 3 (by decide)) TF.m3) (Zie (Zh0 O.ex isi rfl (λ_=>pv 0) (one 8 (by decide)) TF.m8) (Zie (Zh0 O.ex isi rfl (λ_=>pv 0) (one 4 (by decide)) TF.m4) (Zie (Zh0 O.ex isi rfl (λ_=>pv 0) (one 5 (by decide)) TF.m5) (Zie (Zh0 O.ex isi rfl (λ_=>pv 0) (one 9 (by decide)) TF.m9) (Zie (Zh0 O.ex isi rfl (λ_=>pv 0) (one 13 (by decide)) TF.m13) (Zie (Zh0 O.ex isi rfl (λ_=>pv 0) (one 6 (by decide)) TF.m6) (Zie (Zh0 O.ex isi rfl (λ_=>pv 0) (one 14 (by decide)) TF.m14) (Zie (Zh0 O.ex isi rfl (λ_=>pv 0) (one 10 (by decide)) TF.m10) (Zie (Zh0 O.ex isi rfl (λ_=>pv 0) (one 11 (by decide)) TF.m11) Z32))))))))))))))))
   (pS (Zax (Zf0 Yu Yi1 Yj1 Zbw (pv 1) (pC (Zh0 O.ex isi rfl (λ_=>pv 0) (one 12 (by decide)) TF.m12) Zaa)))
   (Zac (Zao ?c)))),?_⟩
  case c=>exact(Zbt ["name","takes"] ["e"] [0] (λ_=>Za1 (osc:=Zad Zc9) (on:=nCs) (by rfl') rfl rfl rfl) (Zbb (pv 1)) (λC s H fp=>Zq5 (K:=K) (i:=0) (j:=1) rfl rfl Z4l rfl rfl (Or.inl rfl) (Or.inl rfl) (Or.inr rfl) (Or.inr rfl)) (λC s H fp=>Zek (PW.pt (Zia (Zcm (pv 1)) (Zgp (Zcm (Zam (r:=Z3u K) Zot (by rfl) isi Yo1 (pC (pv 2) (pC (Zg5 (v:=.ty "ValueError") (by rfl) vr (by rfl') rfl) Zaa)))))))) (λC s H fp=>pv 0))
  exists let b:=Zar _ a;Zar _ b _ _ _
  refine⟨⟨e,dx,rfl,hx,hd⟩,λts H1 s1 P1=>⟨sL (by rw[<- Yz P1];show 14<=100000;decide),λl hl=>?_⟩⟩
  have sl:Zaj H1 (upd H1 l (.lst ts)):=Za9 hl
  have hll:(upd H1 l (.lst ts)) l=some (.lst ts):=uS
  generalize upd H1 l (.lst ts)=H2 at sl hll ⊢
  have s2:=s1.trans sl
  refine⟨_,rfl,.inl ⟨rfl,_,SqL.of hll⟩,⟨e,dx,rfl,s2 _ _ hx,Zaj.xdict hd s2⟩,λt nt=>?_⟩
  have st:Zaj H2 (upd H2 t (clT "NoWeights" 12 i)):=Za9 nt
  have htt:(upd H2 t (clT "NoWeights" 12 i)) t=some (clT "NoWeights" 12 i):=uS
  generalize upd H2 t (clT "NoWeights" 12 i)=H3 at st htt ⊢
  have hl3:=st _ _ hll
  refine⟨l,_,_,rfl,rfl,hl3,Za2 (by rw[<- Yz P1];show 14<=100000;decide),?_⟩
  have P15:Paired (ClV i (upd H3 l (.lst (ts++[.ref t])))) L15 (ts++[.ref t]):=by
   have tk:∀ {b:Addr} {o:LV},H3 b=some (.tup o)->(upd H3 l (.lst (ts++[.ref t]))) b=some (.tup o):=λ{b o} e=>by
    rw[Zab (λz=>by rw[z,hl3]at e;cases e)];exact e
   exact Yh2 (Paired.imp' (λq v ⟨t,e,h⟩=>⟨t,e,tk ((sl.trans st) _ _ h)⟩) P1) ⟨_,rfl,tk htt⟩
  have sU:Zaj H (upd H3 l (.lst (ts++[.ref t]))):=λb o e=>by rw[Zab (nNo e (s1.free hl))];exact st _ _ (s2 _ _ e)
  have hlU:(upd H3 l (.lst (ts++[.ref t]))) l=some (.lst (ts++[.ref t])):=uS
  generalize ts++[V.ref t]=xs at P15 hlU sU ⊢
  generalize upd H3 l (.lst xs)=HU at P15 sU hlU ⊢
  have xl:xs.length=15:=by rw[<- Yz P15];rfl
  refine⟨_,rfl,l,rfl,⟨_,SqL.of hlU⟩,Zoq (Zav (xs:=xs)) (sL (by omega)) (λx=>blV (snP HU x)) (λ_ x v _=>v=fsP HU x) (fsP HU) (snP HU) (λ_ _ _ _ _ _ z=>z) (λH' s'=>SqL.of (s' _ _ hlU)) (λx hx'=>?_) ?_ ?_ ?_⟩
  ·obtain⟨t,k,n,e1,e2⟩:=Z0c P15 hx'
   rw[e1]
   exact⟨t,rfl,by rw[Zrj e2,Zni e2];exact e2⟩
  ·intro x H' R s' hx' hR
   obtain⟨t,k,n,e1,e2⟩:=Z0c P15 hx'
   have e3:snP HU x=.bl (decide (k=i)):=by rw[e1];exact Zni e2
   rw[e3]at hR ⊢
   refine⟨_,rfl,_,rfl,Zdu (λz=>?_) (λz=>?_)⟩
   ·refine⟨_,rfl,e,Ds i,dx,_,_,_,rfl,rfl,λu z=>z,s' _ _ (sU _ _ hx),Zaj.xdict (Zaj.xdict hd sU) s',O.ex,Zvs O.ex.toExC,_,rfl,?_⟩
    rw[show decide (k=i)=true from z]at hR
    exact hR H' (Zaj.refl _)
   ·rw[show decide (k=i)=false from by simpa using z]at hR
    exact hR H' (Zaj.refl _)
  ·intro D x H' R s' _ _ hx' _ hR
   exact⟨_,rfl,hR _ H' (Zaj.refl _) rfl⟩
  ·intro D H' ys _ s' hD hP
   refine q D H' (sU.trans s') ?_
   rw[hD,Zg7 hP,Zln P15,Z2v i i15]
   rfl
structure Z5c(K:Fg)(mg:Str->OU)(x:Str)(C:Addr):Prop where
 m:mg x=some (.ref C)
 ex:ExC K C
 ini:W.findIn K (.ref C) "__init__"=some (some (.builtin "ValueError.__init__"))
def NoW(Ds:Nat->Addr)(E:XK)(H:Hp)(x:Str):Prop:=∀ dx H',Zaj H H'->H' dx=some (.xd [("word",.str x)])->E (.ref (Ds 0)) (some dx) H'
def NoW.mono{Ds:Nat->Addr}{E:XK}{H H':Hp}{x:Str}(h:NoW Ds E H x)(s:Zaj H H'):NoW Ds E H' x:=λdx H'' s' e=>h dx H'' (s.trans s') e
def Zqz(C:Addr)(Ds:Nat->Addr):Sp:=λvs H Q E=>∃(p:Addr) (rows:RS) (x:Str),vs=[.ref p,.str x]/\Zbk C H p rows/\Zdr rows/\Zwz x/\(x∈rows.map (·.1)->Q .non H)/\(x∉rows.map (·.1)->NoW Ds E H x)
inductive Du
 | many
 | noK (w:Str)
 | noT
def Zw0(Ds:Nat->Addr)(E:XK)(H:Hp):Du->Prop
 | .many=>∀ H',Zaj H H'->E (.ref (Ds 7)) none H'
 | .noK w=>NoW Ds E H w
 | .noT=>∀ H',Zaj H H'->E (.ref (Ds 13)) none H'
theorem Zw0.mono{Ds:Nat->Addr}{E:XK}{H H':Hp}(s:Zaj H H'):∀ {e:Du},Zw0 Ds E H e->Zw0 Ds E H' e
 | .many,h=>λH'' s'=>h H'' (s.trans s')
 | .noK w,h=>NoW.mono (Ds:=Ds) h s
 | .noT,h=>λH'' s'=>h H'' (s.trans s')
def Zgd(rows:RS)(xs:LS):Option Du:=if 12<xs.length then some .many else(xs.find? λx=>decide (x∉rows.map (·.1))).map Du.noK
def Zez{rows:RS}{xs:LS}(h:Zgd rows xs=none):xs.length<=12/\∀ x∈xs,x∈rows.map (·.1):=by
 unfold Zgd at h
 by_cases z:12<xs.length
 ·rw[if_pos z]at h;cases h
 ·rw[if_neg z]at h
  refine⟨by omega,λx hx=>?_⟩
  have h:=Yn4.mp (Option.map_eq_none_iff.mp h) x hx
  exact Yx2 λc=>h (Jb c)
def Zc1(door:Nat)(rows:RS)(ns:List Nam)(xs:LS)(d:Dt):Option Du :=
 match Zgd rows xs with
 | some e=>some e
 | none=>if 0<door/\Zeo ns xs.length d=false then some .noT else if door=2/\512<(Zbp (xs.map (Zd2 rows))).length then some .many else none
structure Zo5(K:Fg)(C B D:Addr)(H:Hp)(p k l:Addr)(rows:RS)(ns:List Nam)(b:Bool)(xs:LS)(d:Dt)(v:V):Prop where
 bk:Zen C B D H p k rows ns
 g:Zdr rows
 gn:Zbo rows ns
 hS:SqB K b H l (xs.map V.str)
 le:xs.length<=100
 sh:∀ x∈xs,Zwz x
 hv:TmV H d v
 wf:Wf d
 lz:∀ i,(lvl i [d]).length<=1000
def Znh(K:Fg)(C:Addr)(Ds:Nat->Addr):Sp:=λvs H _ E=>∃(p l:Addr) (rows:RS) (b:Bool) (xs:LS) (e:Du),vs=[.ref p,.ref l]/\Zbk C H p rows/\Zdr rows/\SqB K b H l (xs.map V.str)/\(∀ x∈xs,Zwz x)/\Zgd rows xs=some e/\Zw0 Ds E H e
def Zpf(K:Fg)(C B D:Addr)(Ds:Nat->Addr):Sp:=λvs H _ E=>∃(p k l:Addr) (rows:RS) (ns:List Nam) (b:Bool) (xs:LS) (d:Dt) (v:V) (e:Du),vs=[.ref p,.ref l,v]/\Zo5 K C B D H p k l rows ns b xs d v/\Zgd rows xs=some e/\Zw0 Ds E H e
def Zjv(K:Fg)(C B D:Addr)(Ds:Nat->Addr):Sp:=λvs H _ E=>∃(p k l:Addr) (rows:RS) (ns:List Nam) (b:Bool) (xs:LS) (d:Dt) (v:V) (e:Du),vs=[.ref p,.ref l,v]/\Zo5 K C B D H p k l rows ns b xs d v/\Zc1 1 rows ns xs d=some e/\Zw0 Ds E H e
def Zqw(K:Fg)(C B D:Addr)(Ds:Nat->Addr):Sp:=λvs H _ E=>∃(p k l:Addr) (rows:RS) (ns:List Nam) (b:Bool) (xs:LS) (d:Dt) (v:V) (e:Du),vs=[.ref p,.ref l,v]/\Zo5 K C B D H p k l rows ns b xs d v/\rows.length<=8/\Zc1 2 rows ns xs d=some e/\Zw0 Ds E H e
def Zng(Ds:Nat->Addr):Sp:=λvs H _ E=>∃(l:Addr) (wss:List (LS)) (us:LV),vs=[.ref l]/\H l=some (.lst us)/\Zkw H wss us/\(∀ i,(Zbp (wss.take i)).length<=8 ^ i)/\wss.length<=12/\(∀ ws∈wss,ws.length<=1000)/\512<(Zbp wss).length/\Zw0 Ds E H .many
def Z80:Zak ["self","word"] ["self","word"] (Zad Zdz):=by nofun
def Z37(F:Fun K "__init__" "NoKind.__init__" Zdz f fd)(I:ExI K C D "word")(dd:DIn K D)(mD:mg "DeedError"=some (.ref D)):⋯ 1 f fd ["self","word"] (Z2y C "word" okS):=by
 nomatch F.ok Z80
 ·obtain⟨x,y,rfl,_⟩:=h
  rfl
 ·obtain⟨x,y,rfl,⟨z,rfl,hz⟩,hx,q⟩:=h
  ac_nf
  refine⟨_,pS (Zax (Zxo dd (by rfl) mD (pC (pv 0) (pC (Zpm (Zft (Z01 (pv 1)) (Zft Znq Zpk))) Zaa)))) (Zac (Z0y (D:=D) (pv 0) (pv 1))),?_⟩
  exists Zar _ a _ _ _
  refine⟨_,rfl,_,rfl,z,rfl,by have:=hz.1;omega,hz.2,by rfl',λt=>⟨x,C,[.str t],rfl,by show 1<=100;decide,I.toExA.toExC,hx,?_⟩⟩
  exact⟨_,rfl,_,rfl,x,C,rfl,hx,I,λdx hdx=>q dx hdx⟩
def Zvc{Ds:Nat->Addr}(F:Fun K "check" "Kinds.check" Zce f fd)(TC:Zmz K C)(MH:Zry K C fH fdH)(E0:Z67 P w K mg base "NoKind" (Ds 0) "word" (Z2y (Ds 0) "word" okS) f0 fd0):Zap P w K mg base (CX1 P w) 3 f fd ["self","word"] (Zqz C Ds):=by
 have GH:Zap P w K mg base (CX1 P w) 1 fH fdH ["self","word"] (Zt0 C):=(Zra MH.fn TC).any
 nomatch F.ok1 Z70
 ·obtain⟨p,rows,x,rfl,_⟩:=h
  rfl
 ·obtain⟨p,rows,x,rfl,kd,g,sx,q,re⟩:=h
  obtain⟨dx,d,a,o,oa,kvs,avs,h1,h2,h3,h4⟩:=kd.ex
  have hr1:Zcb 1 _:=hr.mono (by decide)
  ac_nf
  refine⟨_,Zac (Zaz (Zdh (Zcm (Zcs (pv 0) TC.cl MH.me GH hr1 MH.b .nil (Zmb Fns.of) (pC (pv 1) Zaa)))) (Zac (Zui (C:=Ds 0) Fns.of hr.hd E0.ex E0.ini E0.ty E0.go hr E0.b (by rfl) E0.m (pC (pv 1) Zaa))) Zai),?_⟩
  exists Zhf _ a _ _ _ _
  refine⟨_,rfl,p,dx,_,rfl,h1,Zre _ _,_,rfl,p,rows,x,rfl,kd,g,_,rfl,?_⟩
  by_cases hx:x∈rows.map (·.1)
  ·rw[Jb hx]
   exact Zcu (q hx)
  ·rw[Jc hx]
   exact Zfe ⟨_,rfl,_,rfl,(λy _=>⟨x,rfl,sx⟩),λdx hdx=>re hx dx _ (Za9 hdx) uS⟩
def Zsn{Ds:Nat->Addr}{T1:Tok}(F:Def K mg "check_filling" Zb2 ["kinds","filling"] f fd)(T:Ztd mg)(TC:Zmz K C)(c1:mg "MOST_THINGS"=some (.int 12 T1))(TM:Z5c K mg "TooMany" (Ds 7))
  (MC:Zlp K C fC fdC) (MH:Zry K C fH fdH) (E0:Z67 P w K mg base "NoKind" (Ds 0) "word" (Z2y (Ds 0) "word" okS) f0 fd0):Zap P w K mg base (CX1 P w) 4 f fd ["kinds","filling"] (Znh K C Ds):=by
 have GC:Zap P w K mg base (CX1 P w) 3 fC fdC ["self","word"] (Zqz C Ds):=Zvc MC.fn TC MH E0
 nomatch F.fn.ok1 Z5j
 ·obtain⟨p,l,rows,b,xs,e,rfl,_⟩:=h
  rfl
 ·obtain⟨p,l,rows,b,xs,e,rfl,kd,g,hS,sh,hD,re⟩:=h
  have nd:=Z5j.nd
  ac_nf
  refine'⟨_,(pS (Zaz (Zal Zih (Zam Zan (by rfl) T.len Yr (pC (pv 1) Zaa)) (Zc4 (v:=.int 12) (by rfl) c1 ⟨_,rfl⟩) (Zaq _)) (Zac (Zl9 (C:=Ds 7) Fns.of hr.hd TM.ex TM.ini (by rfl) TM.m (pC (Zpm (Zft Znq (Zft (Zzs (Zc4 (v:=.int 12) (by rfl) c1 ⟨_,rfl⟩)) (Zft Znq Zpk)))) Zaa))) Zai)
   (Zac (Zbc PassesOwn.leaving rfl (Zid (pv 1)) (gE 2 nd) (Zac (Zax (Zcs (pv 0) TC.cl MC.me GC hr MC.b .nil (Zmb Fns.of) (pC (pv 2) Zaa))))))),?_⟩
  exists let b:=Zgf _ _ a;let c:=_;Zar (Zhf _ c _) b _ _ _
  obtain⟨dx,d,a,o,oa,kvs,avs,h1,_⟩:=kd.ex
  have hq:SqL K H l (xs.map V.str)\/SqT K H l (xs.map V.str):=by
   cases b with
   | true=>exact .inl hS
   | false=>exact .inr hS
  refine⟨_,rfl,l,_,rfl,hq,_,_,rfl,rfl,_,rfl,?_⟩
  rw[Ya]
  unfold Zgd at hD
  by_cases z:12<xs.length
  ·rw[if_pos z]at hD
   rw[Jb (show(12:Int)<((xs.length:Nat):Int) by omega)]
   have e1:=Yq hD
   rw[<- e1]at re
   refine Zfe ⟨by rfl',12,rfl,by decide,by rfl',λx=>⟨sL (by show 1<=100000;decide),re H (Zaj.refl _)⟩⟩
  rw[if_neg z]at hD
  obtain⟨wd,hw,rfl⟩:=Yk1.mp hD
  rw[Jc (by omega)]
  let Iv1:NW:=λi σ H'=>∃ x,σ=[some (.ref p),some (.ref l),x]/\H'=H/\∀ y∈xs.take i,y∈rows.map (·.1)
  refine Zcu ⟨_,rfl,b,l,_,rfl,hS,Zat Zew Iv1 ⟨none,rfl,rfl,λy hy=>by rw[Ym1]at hy;cases hy⟩ (λi σ H' _ h0=>by obtain⟨_,_,e,_⟩:=h0;exact by rw[e];exact hS) ?_ ?_⟩
  ·rintro i v σ H' hi ⟨x,rfl,e,ah⟩
   have e2:=e.symm
   subst e2
   rw[Yp]at hi
   obtain⟨y,hy,rfl⟩:=Yk1.mp hi
   have hm:=Yf hy
   refine⟨_,rfl,p,dx,_,rfl,h1,Zik _ _,_,rfl,p,rows,y,rfl,kd,g,sh y hm,λhk=>⟨_,rfl,rfl,λu hu=>?_⟩,λhn=>?_⟩
   ·rw[Yt,hy]at hu
    rcases Yo.mp hu with c | c
    ·exact ah u c
    ·rw[Yc.mp c];exact hk
   ·have e:xs.find? (λx=>decide (x∉rows.map (·.1)))=some y:=by
     have il:=(Yn.mp hy).1
     have es:xs=xs.take i++y :: xs.drop (i + 1):=by
      rw[Yh il]at hy
      rw[<- Yq hy,<- List.drop_eq_getElem_cons il,Yn2]
     rw[es,List.find?_append,Yn4.mpr (λu hu=>by rw[decide_eq_true_iff];exact λc=>c (ah u hu)),Option.none_or]
     exact List.find?_cons_of_pos (show(λx=>decide (x∉rows.map (·.1))) y=true from Jb hn)
    rw[e]at hw
    have e3:=Yq hw
    rw[e3]
    exact re
  ·rintro σ H' ⟨x,rfl,e,ah⟩
   rw[Ya,Ye1]at ah
   have h1:=Yo3 hw
   have h2:=List.find?_some hw
   exact absurd (ah _ h1) (Je h2)
def Zsg{Ds:Nat->Addr}(F:Def K mg "is_term" Ze4 ["book","filling","term"] f fd)(TD:Zi5 K D)
  (MK:Zm0 K D fK fdK) (DF:Def K mg "check_filling" Zb2 ["kinds","filling"] fF fdF) (GF:Zap P w K mg base (CX1 P w) 4 fF fdF ["kinds","filling"] (Znh K C Ds)):Zap P w K mg base (CX1 P w) 17 f fd ["book","filling","term"] (Zpf K C B D Ds):=by
 have GK:Zap P w K mg base (CX1 P w) 1 fK fdK ["self"] (Zh4 C B D):=(Zii MK.fn TD).any
 nomatch F.fn.ok1 Z7s
 ·obtain⟨p,k,l,rows,ns,b,xs,d,v,e,rfl,_⟩:=h
  rfl
 ·obtain⟨p,k,l,rows,ns,b,xs,d,v,e,rfl,hh,hD,re⟩:=h
  have hr1:Zcb 1 _:=hr.mono (by decide)
  have hr4:Zcb 4 _:=hr.mono (by decide)
  ac_nf
  refine'⟨_,pS (Zax (Ziz GF hr4 (by rfl) DF.m DF.fn.kp DF.b .nil (Zmb Fns.of) (pC (Zdb (pv 0) TD.cl MK.me GK hr1 MK.b .nil (Zmb Fns.of)) (pC (pv 1) Zaa)))) Zaw,?_⟩
  exists Zar _ a _ _ _
  obtain⟨dx,bo,mo,o,bvs,mvs,h1,h2,h3,h4,h5,h6⟩:=hh.bk.ex
  exact⟨_,rfl,p,dx,_,rfl,h1,Zij _ _ _,p,k,rows,ns,rfl,hh.bk,_,rfl,k,l,rows,b,xs,e,rfl,h2,hh.g,hh.hS,hh.sh,hD,re⟩
def Zsl{Ds:Nat->Addr}(F:Def K mg "check_term" Zb9 ["book","filling","term"] f fd)(TT:Z5c K mg "NoTerm" (Ds 13))(DI:Def K mg "is_term" Ze4 ["book","filling","term"] fI fdI)
  (GI:⋯ 17 fI fdI ["book","filling","term"] (Zjn K C B D)) (XI:Zap P w K mg base (CX1 P w) 17 fI fdI ["book","filling","term"] (Zpf K C B D Ds)):Zap P w K mg base (CX1 P w) 18 f fd ["book","filling","term"] (Zjv K C B D Ds):=by
 have GI2:=Zap.or (Zap.any (CX:=CX1 P w) GI) XI
 nomatch F.fn.ok1 Z3r
 ·obtain⟨p,k,l,rows,ns,b,xs,d,v,e,rfl,_⟩:=h
  rfl
 ·obtain⟨p,k,l,rows,ns,b,xs,d,v,e,rfl,hh,hD,re⟩:=h
  ac_nf
  refine'⟨_,Zac (Zaz (Zdh (Zcm (Ziz GI2 hr (by rfl) DI.m DI.fn.kp DI.b .nil (Zmb Fns.of) (pC (pv 0) (pC (pv 1) (pC (pv 2) Zaa)))))) (Zac (Zl9 (C:=Ds 13) Fns.of hr.hd TT.ex TT.ini (by rfl) TT.m (pC Zca Zaa))) Zai),?_⟩
  exists Zhf _ a _ _ _ _
  refine⟨_,rfl,_,rfl,_,rfl,?_⟩
  unfold Zc1 at hD
  cases hf:Zgd rows xs with
  | some e' =>
   rw[hf]at hD
   have e1:=Yq hD
   rw[<- e1]at re
   exact .inr ⟨p,k,l,rows,ns,b,xs,d,v,e',rfl,hh,hf,re⟩
  | none =>
   rw[hf]at hD
   obtain⟨x12,kx⟩:=Zez hf
   have ht:Zeo ns xs.length d=false:=by
    cases z:Zeo ns xs.length d with
    | false=>rfl
    | true =>
     simp only[z]at hD
     rw[if_neg (λc=>by cases c.2),if_neg (λc=>by cases c.1)]at hD
     cases hD
   simp only[ht]at hD
   rw[if_pos ⟨by decide,trivial⟩]at hD
   have e1:=Yq hD
   rw[<- e1]at re
   refine .inl ⟨p,k,l,rows,ns,b,xs,d,v,rfl,hh.bk,hh.g,hh.gn,hh.hS,x12,kx,hh.hv,hh.wf,hh.lz,λH1 s1=>⟨_,rfl,?_⟩⟩
   rw[ht]
   exact Zfe ⟨sL (by show 1<=100000;decide),re H1 s1⟩
def Z1c{Ds:Nat->Addr}(F:Def K mg "run" Zuc ["book","filling","term"] f fd)(DI:Def K mg "check_term" Zb9 ["book","filling","term"] fI fdI)(XI:Zap P w K mg base (CX1 P w) 18 fI fdI ["book","filling","term"] (Zjv K C B D Ds)):Zap P w K mg base (CX1 P w) 23 f fd ["book","filling","term"] (Zjv K C B D Ds):=by
 nomatch F.fn.ok1 Z3l
 ·obtain⟨p,k,l,rows,ns,b,xs,d,v,e,rfl,_⟩:=h
  rfl
 ·obtain⟨p,k,l,rows,ns,b,xs,d,v,e,rfl,r⟩:=h
  have hr18:Zcb 18 _:=hr.mono (by decide)
  ac_nf
  refine'⟨_,pS (Zax (Ziz XI hr18 (by rfl) DI.m DI.fn.kp DI.b .nil (Zmb Fns.of) (pC (pv 0) (pC (pv 1) (pC (pv 2) Zaa))))) Zaw,?_⟩
  exists Zar _ a _ _ _
  exact⟨_,rfl,_,rfl,_,rfl,p,k,l,rows,ns,b,xs,d,v,e,rfl,r⟩
def Zsm{Ds:Nat->Addr}{T1:Tok}(F:Def K mg "check_nearer" Zcj ["rows"] f fd)(len:mg "len"=none)(c1:mg "MOST_NEARER"=some (.int 512 T1))(TM:Z5c K mg "TooMany" (Ds 7)):Zap P w K mg base (CX1 P w) 1 f fd ["rows"] (Zng Ds):=by
 nomatch F.fn.ok1 Z5i
 ·obtain⟨l,wss,us,rfl,_⟩:=h
  rfl
 ·obtain⟨l,wss,us,rfl,hl,hR,hb,w12,hw,big,re⟩:=h
  have nd:=Z5i.nd
  have hul:wss.length=us.length:=Yz hR
  ac_nf
  refine'⟨_,(pS (sE 1 nd Zae)
   (pS (Zbc PassesOwn.leaving rfl (Zbb (pv 0)) (gE 2 nd) (Zac (sE 1 nd (Za0 Zig (pv 1) (Zam Zan (by rfl) len Yr (pC (pv 2) Zaa))))))
   (Zac (Zaz (Zal Zih (pv 1) (Zc4 (v:=.int 512) (by rfl) c1 ⟨_,rfl⟩) (Zaq _)) (Zac (Zl9 (C:=Ds 7) Fns.of hr.hd TM.ex TM.ini (by rfl) TM.m (pC (Zpm (Zft Znq (Zft (Zzs (Zc4 (v:=.int 512) (by rfl) c1 ⟨_,rfl⟩)) (Zft Znq Zpk)))) Zaa))) Zai)))),?_⟩
  exists let b:=Zhf _ a _;let c:=_;let e:=Zar (Zgf _ _ c) b;Zar _ e _ _ _
  let Iv2:NW:=λi σ H'=>∃ x:OV,σ=[some (.ref l),some (.int ((Zbp (wss.take i)).length:Nat)),x]/\H'=H
  refine⟨_,rfl,l,rfl,⟨_,SqL.of hl⟩,Zat (Zav (xs:=us)) Iv2
   ⟨none,by rw[Ym1];rfl,rfl⟩ (λi σ H' _ ⟨_,_,e⟩=>by rw[e];exact SqL.of hl) ?_ ?_⟩
  ·rintro i v σ H' hi ⟨x,rfl,e⟩
   have e:=e.symm
   subst e
   obtain⟨ws,hws,r,rfl,hr'⟩:=Zau hR hi
   have il:i<wss.length:=(Yn.mp hws).1
   have b1:(Zbp (wss.take i)).length<=8 ^ 12:=Yx (hb i) (Nat.pow_le_pow_right (by decide) (by omega))
   have b2:=hw ws (Yf hws)
   refine⟨_,rfl,_,rfl,r,_,rfl,.inl (SqL.of hr'),_,_,rfl,rfl,.inl ⟨by omega,by omega⟩,some (.ref r),?_,rfl⟩
   show[some (V.ref l),some (V.int ((((Zbp (wss.take i)).length:Nat):Int) * (((ws.map V.str).length:Nat):Int))),_]=_
   rw[Ya,<- Yd5,Yt,hws]
   show _=[some (V.ref l),some (V.int (((Zbp (wss.take i++[ws])).length:Nat):Int)),_]
   rw[Zd0,Zey]
  ·rintro σ H' ⟨x,rfl,e⟩
   have e:=e.symm
   subst e
   rw[<- hul,Ye1]
   refine⟨_,rfl,_,_,rfl,rfl,_,rfl,?_⟩
   rw[show decide ((512:Int)<(((Zbp wss).length:Nat):Int))=true from Jb (by omega)]
   exact Zfe ⟨by rfl',512,rfl,by decide,by rfl',λx=>⟨sL (by show 1<=100000;decide),re _ (Zaj.refl _)⟩⟩
def Zxj{rows:RS}(h:rows.length<=8)(xs:LS):∀ i,(Zbp ((xs.map (Zd2 rows)).take i)).length<=8 ^ i:=λi=>by
 induction i with
 | zero=>rw[Ym1];decide
 | succ i ih =>
  rw[Yt]
  cases hx:(xs.map (Zd2 rows))[i]? with
  | none =>
   show(Zbp ((xs.map (Zd2 rows)).take i++[])).length<=_
   rw[Yn1,Nat.pow_succ]
   omega
  | some ws =>
   show(Zbp ((xs.map (Zd2 rows)).take i++[ws])).length<=_
   rw[Zd0,Zey,Nat.pow_succ]
   refine Nat.mul_le_mul ih ?_
   obtain⟨y,_,rfl⟩:=Ye.mp (Yf hx)
   have:=Zmn rows y
   omega
def Zu7{Ds:Nat->Addr}(F:Def K mg "comes" Zg4 pCo f fd)(TC:Zmz K C)(TD:Zi5 K D)(MK:Zm0 K D fK fdK)(ML:Z0e K C fL fdL)(MC:Zlp K C fCk fdCk)(MH:Zry K C fH fdH)
  (DT:Def K mg "check_term" Zb9 pCo fT fdT) (GT:⋯ 18 fT fdT pCo (Zjo K C B D)) (XT:Zap P w K mg base (CX1 P w) 18 fT fdT pCo (Zjv K C B D Ds)) (DN:Def K mg "check_nearer" Zcj ["rows"] fN fdN) (XN:Zap P w K mg base (CX1 P w) 1 fN fdN ["rows"] (Zng Ds)):Zap P w K mg base (CX1 P w) 23 f fd pCo (Zqw K C B D Ds):=by
 have GK:Zap P w K mg base (CX1 P w) 1 fK fdK ["self"] (Zh4 C B D):=(Zii MK.fn TD).any
 have GL:⋯ 3 fL fdL ["self","word"] (Zj0 C):=Zlg ML.fn TC MC MH
 have GT2:=Zap.or (Zap.any (CX:=CX1 P w) GT) XT
 nomatch F.fn.ok1 Z5h
 ·obtain⟨p,k,l,rows,ns,b,xs,d,v,e,rfl,_⟩:=h
  rfl
 ·obtain⟨p,k,l,rows,ns,b,xs,d,v,e,rfl,hh,r8,hD,re⟩:=h
  have nd:=Z5h.nd
  have hr1:Zcb 1 _:=hr.mono (by decide)
  have hr3:Zcb 3 _:=hr.mono (by decide)
  have hr18:Zcb 18 _:=hr.mono (by decide)
  ac_nf
  refine'⟨_,pS (Zax (Ziz GT2 hr18 (by rfl) DT.m DT.fn.kp DT.b .nil (Zmb Fns.of) (pC (pv 0) (pC (pv 1) (pC (pv 2) Zaa)))))
   (pS (Zag (i:=3) nd rfl (Or.inr rfl) (Zdb (pv 0) TD.cl MK.me GK hr1 MK.b .nil (Zmb Fns.of)))
   (pS ?eR (pS (Zax (Ziz XN hr1 (by rfl) DN.m DN.fn.kp DN.b .nil (Zmb Fns.of) (pC (pv 4) Zaa))) Zaw))),?_⟩
  case eR=>exact(Zcz (k:=4) ["word"] ["kinds"] [3] nd rfl rfl (λ_=>Za1 (osc:=Zad Zg4) (on:=nCo) (by rfl') rfl rfl rfl) (Zid (pv 1)) (λC s H fp=>Zah (i:=0) Zzz rfl (Or.inl rfl) (Or.inr rfl)) (λC s H fp=>Zb3) (λC s H fp=>Zcs (pv 1) TC.cl ML.me GL hr3 ML.b .nil Zdn (pC (pv 0) Zaa)))
  exists let b:=Zar _ a;let c:=Zar _ b;let e:=Zar _ c;Zar _ e _ _ _
  refine⟨_,rfl,_,rfl,_,rfl,?_⟩
  cases h1:Zc1 1 rows ns xs d with
  | some e' =>
   have e1:e'=e:=by
    unfold Zc1 at h1 hD
    cases hf:Zgd rows xs with
    | some e2 =>
     rw[hf]at h1 hD
     exact Yq (h1.symm.trans hD)
    | none =>
     rw[hf]at h1 hD
     simp only at h1 hD
     by_cases z:Zeo ns xs.length d=false
     ·rw[if_pos ⟨by decide,z⟩]at h1 hD
      exact Yq (h1.symm.trans hD)
     ·rw[if_neg (λc=>z c.2),if_neg (λc=>absurd c.1 (by decide))]at h1
      cases h1
   exact .inr ⟨p,k,l,rows,ns,b,xs,d,v,e',rfl,hh,h1,by rw[e1];exact re⟩
  | none =>
   unfold Zc1 at h1 hD
   cases hf:Zgd rows xs with
   | some e2=>rw[hf]at h1;cases h1
   | none =>
    rw[hf]at h1 hD
    simp only at h1 hD
    obtain⟨x12,kx⟩:=Zez hf
    have ht:Zeo ns xs.length d=true:=by
     cases z:Zeo ns xs.length d with
     | true=>rfl
     | false =>
      rw[if_pos ⟨by decide,z⟩]at h1
      cases h1
    rw[if_neg (λc=>by rw[ht]at c;cases c.2)]at hD
    have big:512<(Zbp (xs.map (Zd2 rows))).length/\e=.many:=by
     by_cases z:512<(Zbp (xs.map (Zd2 rows))).length
     ·rw[if_pos ⟨trivial,z⟩]at hD
      exact⟨z,(Yq hD).symm⟩
     ·rw[if_neg (λc=>z c.2)]at hD
      cases hD
    obtain⟨big,rfl⟩:=big
    refine .inl ⟨p,k,l,rows,ns,b,xs,d,v,rfl,hh.bk,hh.g,hh.gn,hh.hS,x12,kx,hh.hv,hh.wf,hh.lz,ht,λH1 s1=>?_⟩
    have bk1:=hh.bk.mono s1
    obtain⟨dx,bo,mo,o,bvs,mvs,hb1,h2,_⟩:=bk1.ex
    obtain⟨dxk,dk,ak,okk,oak,kvs,avs,hk1,_⟩:=h2.ex
    have hS1:=hh.hS.mono s1
    have g:=hh.g
    have gle:=g.le
    refine⟨_,rfl,p,dx,_,rfl,hb1,Zij _ _ _,p,k,rows,ns,rfl,bk1,?_⟩
    refine⟨_,rfl,b,l,_,rfl,hS1,Zgt Zew (sL (by rw[Ya];omega)) (λ_=>true) (λD x v H=>∃ r y,x=.str y/\v=.ref r/\r≠D/\H1 r=none/\H r=some (.lst ((Zd2 rows y).map V.str))) (λD x v Ha Hb kk h0=>by obtain⟨r,y,e1,e2,e3,e4,e5⟩:=h0;exact⟨r,y,e1,e2,e3,e4,kk _ _ e3 e5⟩) (λH' s=>hS1.mono s) ?_ ?_ ?_⟩
    ·intro x H3 R _ _ hR'
     exact hR' H3 (Zaj.refl _)
    ·intro D x H3 R s3 ⟨ys,hD⟩ hDn hx' _ hR'
     obtain⟨y,hy,rfl⟩:=Ye.mp hx'
     exact⟨_,rfl,k,dxk,_,rfl,s3 _ _ hk1,Zrf _ _,_,rfl,k,rows,y,rfl,h2.mono s3,g,kx y hy,λr hr'=>hR' _ _ (Za9 hr') ⟨r,y,rfl,rfl,Ym (nNo hD hr'),s3.free hr',uS⟩⟩
    intro lr H2 us hlr s12 hl2 hp2
    rw[Yi2.mpr (λ_ _=>rfl)]at hp2
    have hRW:Zkw H2 (xs.map (Zd2 rows)) us:=by
     have:∀ {xs:LS} {us:LV},Paired (λx v=>∃ r y,x=.str y/\v=.ref r/\r≠lr/\H1 r=none/\H2 r=some (.lst ((Zd2 rows y).map V.str))) (xs.map V.str) us->Zkw H2 (xs.map (Zd2 rows)) us:=λ{xs us} h=>by
      induction xs generalizing us with
      | nil=>cases h;exact .nil
      | cons x r ih =>
       cases h with
       | cons a c =>
        obtain⟨r',y,e1,e2,_,_,e5⟩:=a
        injection e1 with e1
        subst e1
        exact .cons ⟨r',e2,e5⟩ (ih c)
     exact this hp2
    have hwl:∀ ws∈xs.map (Zd2 rows),ws.length<=1000:=λws hws=>by
     obtain⟨y,_,rfl⟩:=Ye.mp hws
     have:=Zmn rows y
     omega
    exact⟨_,rfl,lr,_,us,rfl,hl2,hRW,Zxj r8 xs,by rw[Ya];omega,hwl,big,Zw0.mono (s1.trans s12) (e:=.many) re⟩
def duV:Option Du->LV
 | none=>[.str "none",.non]
 | some .many=>[.str "TooMany",.non]
 | some (.noK w)=>[.str "NoKind",.str w]
 | some .noT=>[.str "NoTerm",.non]
def Zta(Ds:Nat->Addr)(H:Hp)(wv:V):Option Du->Prop
 | none=>wv=.non
 | some .many=>∃ e dx,wv=.ref e/\H e=some (XO e (Ds 7) dx)/\Zkv H dx
 | some (.noK w)=>∃ e dx,wv=.ref e/\H e=some (XO e (Ds 0) (some dx))/\H dx=some (.xd [("word",.str w)])
 | some .noT=>∃ e dx,wv=.ref e/\H e=some (XO e (Ds 13) dx)/\Zkv H dx
structure Z5o(K:Fg)(D:Addr)(Ds:Nat->Addr):Prop where
 o0:Zo4 K D Ds 0
 o7:Zo4 K D Ds 7
 o13:Zo4 K D Ds 13
 i0:ExI K (Ds 0) D "word"
def Zv1{K:Fg}{D:Addr}{Ds:Nat->Addr}(O:Z5o K D Ds){H:Hp}{R:V->Hp->Prop}:∀ {du:Du},(∀ wv H',Zaj H H'->Zta Ds H' wv (some du)->R wv H') ->
  Zw0 Ds (λcls dx H1=>∃ C,cls=.ref C/\ExC K C/\W.subIn K (.ref C) (.ref D)=some true/\∀ e,H1 e=none->R (.ref e) (upd H1 e (XO e C dx))) H du
 | .many,h=>λH' s=>⟨_,rfl,O.o7.ex.toExC,O.o7.sub,λe he=>h _ _ (s.trans (Za9 he)) ⟨e,none,rfl,uS,.inl rfl⟩⟩
 | .noK w,h=>λdx H' s hd=>⟨_,rfl,O.o0.ex.toExC,O.o0.sub,λe he=>h _ _ (s.trans (Za9 he)) ⟨e,dx,rfl,uS,(Za9 he) _ _ hd⟩⟩
 | .noT,h=>λH' s=>⟨_,rfl,O.o13.ex.toExC,O.o13.sub,λe he=>h _ _ (s.trans (Za9 he)) ⟨e,none,rfl,uS,.inl rfl⟩⟩
def Zzf(Ds:Nat->Addr):Sp:=λvs H Q _=>∃(wv:V) (du:Du),vs=[wv]/\Zta Ds H wv (some du)/\∀ a H',Zaj H H'->H' a=some (.tup (duV (some du)))->Q (.ref a) H'
def Zzi(K:Fg)(C B D:Addr):Sp:=λvs H Q _=>∃(door:Nat) (p k l:Addr) (rows:RS) (ns:List Nam) (b:Bool) (xs:LS) (d:Dt) (v:V),vs=[.int door,.ref p,.ref l,v]/\door<=2/\Zo5 K C B D H p k l rows ns b xs d v/\rows.length<=8/\∀ a H',Zaj H H'->H' a=some (.tup (duV (Zc1 door rows ns xs d)))->Q (.ref a) H'
abbrev nRu:LS:=["e","taken_by"]
def Z7g:Zak nRu ["e"] (Zad Zd7):=by nofun
def Zsc{Ds:Nat->Addr}(F:Def K mg "_law_refusal" Zd7 ["e"] f fd)(len:mg "len"=none)(O:Z5o K D Ds)(DC:Def K mg "_law_classes" Zc9 ["e"] fC fdC)(GC:⋯ 1 fC fdC ["e"] (Znf K D Ds)):⋯ 2 f fd ["e"] (Zzf Ds):=by
 nomatch F.fn.ok Z7g
 ·obtain⟨wv,du,rfl,_⟩:=h
  rfl
 ·obtain⟨wv,du,rfl,hh,q⟩:=h
  have nd:=Z7g.nd
  ac_nf
  refine'⟨_,(pS (sE 1 nd (Zaf DC GC hr (pC (pv 0) Zaa)))
   (pS (Zaz (Zal Zuv (Zam Zan (by rfl) len Yr (pC (pv 1) Zaa)) Zae (Zaq _)) Zaw Zai)
   (pS (Zaz (Zal (r:=rIn K false) Zg9 (Za3 (r:=Ziu K) Zay (pv 1) Zae (λ_ _=>rfl)) (Zq7 ["NoName","Twice","NoKind"] rfl (by decide)) (by with_unfolding_all rfl)) (Zac (Zao (Zbi (pC (Za3 (r:=Ziu K) Zay (pv 1) Zae (λ_ _=>rfl)) (pC (Z02 (D:=D) (pv 0)) Zaa))))) Zai)
   (pS (Zaz (Zal (r:=rIn K false) Zg9 (Za3 (r:=Ziu K) Zay (pv 1) Zae (λ_ _=>rfl)) (Zq7 ["NoDeed","Same"] rfl (by decide)) (by with_unfolding_all rfl)) Zaw Zai)
   (pS (Zaz (Zal Zds (Za3 (r:=Ziu K) Zay (pv 1) Zae (λ_ _=>rfl)) Zca (Zaq _)) Zaw Zai)
   (Zac (Zao (Zbi (pC (Za3 (r:=Ziu K) Zay (pv 1) Zae (λ_ _=>rfl)) (pC Zhx Zaa)))))))))),?_⟩
  exists let b:=Zar _ a;let c:=Zar _ b;let e:=_;let f:=Zar (Zhf _ e _) c;let g:=Zar _ f;Zar _ g _ _ _
  have cs:(∃(e:Addr) (i:Nat) (dx:Option Addr),wv=.ref e/\H e=some (XO e (Ds i) dx)/\Zkv H dx/\Zo4 K D Ds i/\i<15/\inV (.str (Ztb i)) ((["NoName","Twice","NoKind"]:LS).map V.str)=false/\inV (.str (Ztb i)) ((["NoDeed","Same"]:LS).map V.str)=false/\decide (V.str (Ztb i)=V.str "NoText")=false/\∀ a H',Zaj H H'->H' a=some (.tup [.str (Ztb i),.non])->Q (.ref a) H')\/∃(wd:Str) (e dx:Addr),wv=.ref e/\H e=some (XO e (Ds 0) (some dx))/\H dx=some (.xd [("word",.str wd)])/\∀ a H',Zaj H H'->H' a=some (.tup [.str "NoKind",.str wd])->Q (.ref a) H':=by
   cases du with
   | many =>
    obtain⟨e,dx,ew,he,hd⟩:=hh
    exact .inl ⟨e,7,dx,ew,he,hd,O.o7,by decide,by rfl',by rfl',by rfl',q⟩
   | noT =>
    obtain⟨e,dx,ew,he,hd⟩:=hh
    exact .inl ⟨e,13,dx,ew,he,hd,O.o13,by decide,by rfl',by rfl',by rfl',q⟩
   | noK wd =>
    obtain⟨e,dx,ew,he,hd⟩:=hh
    exact .inr ⟨wd,e,dx,ew,he,hd,q⟩
  clear q hh
  rcases cs with⟨e,i,dx,ew,he,hd,Oi,i15,n1,n2,n3,q'⟩ | ⟨wd,e,dx,rfl,he,hd,q⟩
  ·rw[ew]
   refine⟨_,rfl,e,i,dx,rfl,he,hd,Oi,i15,λl H1 s1 hl=>?_⟩
   refine⟨_,rfl,l,_,rfl,.inl (SqL.of hl),rfl,_,rfl,Zcu ?_⟩
   refine⟨_,rfl,l,_,_,_,rfl,rfl,SqL.of hl,at0 _ _,λt1 ht1=>⟨t1,_,rfl,.inr (SqT.of uS),rfl,rfl,_,rfl,?_⟩⟩
   rw[show(if false=true then !inV (.str (Ztb i)) ((["NoName","Twice","NoKind"]:LS).map V.str)else inV (.str (Ztb i)) ((["NoName","Twice","NoKind"]:LS).map V.str))=false from n1]
   have s2:=s1.trans (Za9 (o:=.tup ((["NoName","Twice","NoKind"]:LS).map V.str)) ht1)
   have hl2:=(Za9 (o:=.tup ((["NoName","Twice","NoKind"]:LS).map V.str)) ht1) _ _ hl
   generalize upd H1 t1 (.tup ((["NoName","Twice","NoKind"]:LS).map V.str))=H2 at s2 hl2 ⊢
   refine Zcu ⟨_,rfl,l,_,_,_,rfl,rfl,SqL.of hl2,at0 _ _,λt2 ht2=>⟨t2,_,rfl,.inr (SqT.of uS),rfl,rfl,_,rfl,?_⟩⟩
   rw[show(if false=true then !inV (.str (Ztb i)) ((["NoDeed","Same"]:LS).map V.str)else inV (.str (Ztb i)) ((["NoDeed","Same"]:LS).map V.str))=false from n2]
   have s3:=s2.trans (Za9 (o:=.tup ((["NoDeed","Same"]:LS).map V.str)) ht2)
   have hl3:=(Za9 (o:=.tup ((["NoDeed","Same"]:LS).map V.str)) ht2) _ _ hl2
   generalize upd H2 t2 (.tup ((["NoDeed","Same"]:LS).map V.str))=H3 at s3 hl3 ⊢
   refine Zcu ⟨_,rfl,l,_,_,_,rfl,rfl,SqL.of hl3,at0 _ _,rfl,_,rfl,?_⟩
   rw[n3]
   refine Zcu ⟨_,rfl,l,_,_,_,rfl,rfl,SqL.of hl3,at0 _ _,sL (by show 2<=100000;decide),λa ha=>q' a _ (s3.trans (Za9 ha)) uS⟩
  ·refine⟨_,rfl,e,0,some dx,rfl,he,.inr ⟨dx,_,rfl,hd⟩,O.o0,by decide,λl H1 s1 hl=>?_⟩
   refine⟨_,rfl,l,_,rfl,.inl (SqL.of hl),rfl,_,rfl,Zcu ?_⟩
   refine⟨_,rfl,l,_,_,_,rfl,rfl,SqL.of hl,at0 _ _,λt1 ht1=>⟨t1,_,rfl,.inr (SqT.of uS),rfl,rfl,_,rfl,?_⟩⟩
   rw[show(if false=true then !inV (.str (Ztb 0)) ((["NoName","Twice","NoKind"]:LS).map V.str)else inV (.str (Ztb 0)) ((["NoName","Twice","NoKind"]:LS).map V.str))=true from by rfl']
   have s2:=s1.trans (Za9 (o:=.tup ((["NoName","Twice","NoKind"]:LS).map V.str)) ht1)
   have hl2:=(Za9 (o:=.tup ((["NoName","Twice","NoKind"]:LS).map V.str)) ht1) _ _ hl
   generalize upd H1 t1 (.tup ((["NoName","Twice","NoKind"]:LS).map V.str))=H2 at s2 hl2 ⊢
   refine Zfe ⟨_,rfl,l,_,_,_,rfl,rfl,SqL.of hl2,at0 _ _,_,rfl,e,Ds 0,dx,_,_,rfl,s2 _ _ he,s2 _ _ hd,O.i0,rfl,sL (by show 2<=100000;decide),λa ha=>q a _ (s2.trans (Za9 ha)) uS⟩
abbrev nDh:LS:=["door","book","filling","term","wrong","e"]
abbrev pDh:LS:=["door","book","filling","term"]
def Z7x:Zak nDh pDh (Zad Zcx):=by nofun
def Zll{rows:RS}{ns:List Nam}{xs:LS}{d:Dt}:Zc1 0 rows ns xs d=Zgd rows xs:=by
 unfold Zc1
 cases Zgd rows xs with
 | some e=>rfl
 | none =>
  show(if 0<0/\_ then _ else if 0=2/\_ then _ else _)=_
  rw[if_neg (λc=>absurd c.1 (by decide)),if_neg (λc=>absurd c.1 (by decide))]
def Zkk{j:Nat}(hj:0<j){rows:RS}{ns:List Nam}{xs:LS}{d:Dt}(h:Zc1 j rows ns xs d=none):Zgd rows xs=none/\Zeo ns xs.length d=true:=by
 unfold Zc1 at h
 cases hf:Zgd rows xs with
 | some e=>rw[hf]at h;cases h
 | none =>
  rw[hf]at h
  refine⟨rfl,?_⟩
  cases z:Zeo ns xs.length d with
  | true=>rfl
  | false =>
   simp only[z]at h
   rw[if_pos ⟨hj,trivial⟩]at h
   cases h
def Zy1{rows:RS}{ns:List Nam}{xs:LS}{d:Dt}(h:Zc1 2 rows ns xs d=none):(Zbp (xs.map (Zd2 rows))).length<=512:=by
 obtain⟨hf,ht⟩:=Zkk (by decide) h
 unfold Zc1 at h
 rw[hf]at h
 simp only[ht]at h
 rw[if_neg (λc=>by cases c.2)]at h
 by_cases z:512<(Zbp (xs.map (Zd2 rows))).length
 ·rw[if_pos ⟨trivial,z⟩]at h
  cases h
 ·omega
def Zvo{rows:RS}{x:Str}(h:x∈rows.map (·.1)):1<=(Zd2 rows x).length:=by
 have:x∈Zd2 rows x:=Yj2.mpr ⟨h,by unfold Ze8;exact @Jb _ (Classical.propDecidable _) (.refl _)⟩
 exact List.length_pos_of_mem this
def Zxi{rows:RS}:∀ {xs:LS},(∀ x∈xs,x∈rows.map (·.1))->∀ j,(Zbp ((xs.map (Zd2 rows)).take (xs.length - j))).length<=(Zbp (xs.map (Zd2 rows))).length:=λ{xs} h j=>by
 induction j with
 | zero=>rw[Nat.sub_zero,<- Ya (Zd2 rows),Ye1];exact Yd _
 | succ j ih =>
  refine Yx ?_ ih
  by_cases z:xs.length<=j
  ·rw[show xs.length - (j + 1)=xs.length - j by omega];exact Yd _
  ·have e:xs.length - j=(xs.length - (j + 1)) + 1:=by omega
   have il:xs.length - (j + 1)<xs.length:=by omega
   rw[e,Yt,Yp,Yh il]
   show _<=(Zbp (_++[Zd2 rows xs[xs.length - (j + 1)]])).length
   rw[Zd0,Zey]
   exact Nat.le_mul_of_pos_right _ (Zvo (h _ (Yr2 il)))
def Zxk{rows:RS}{xs:LS}(h:∀ x∈xs,x∈rows.map (·.1))(b:(Zbp (xs.map (Zd2 rows))).length<=512)(i:Nat):(Zbp ((xs.map (Zd2 rows)).take i)).length<=512:=by
 by_cases z:xs.length<=i
 ·rw[Ya2 (by rw[Ya];exact z)];exact b
 ·have:=Zxi h (xs.length - i)
  rw[show xs.length - (xs.length - i)=i by omega]at this
  omega
def Z1i{Ds:Nat->Addr}(F:Def K mg "_law_door_heard" Zcx pDh f fd)(TD:Z8p K mg DE)(O:Z5o K DE Ds)
  (DI:Def K mg "is_term" Ze4 ["book","filling","term"] fI fdI) (GI:⋯ 17 fI fdI ["book","filling","term"] (Zjn K C B D)) (XI:Zap P w K mg base (CX1 P w) 17 fI fdI ["book","filling","term"] (Zpf K C B D Ds))
  (DR:Def K mg "run" Zuc ["book","filling","term"] fR fdR) (GR:⋯ 23 fR fdR ["book","filling","term"] (Z3f K C B D)) (XR:Zap P w K mg base (CX1 P w) 23 fR fdR ["book","filling","term"] (Zjv K C B D Ds))
  (DC:Def K mg "comes" Zg4 pCo fC fdC) (GC:⋯ 23 fC fdC pCo (Zt3 K C B D)) (XC:Zap P w K mg base (CX1 P w) 23 fC fdC pCo (Zqw K C B D Ds))
  (DU:Def K mg "_law_refusal" Zd7 ["e"] fU fdU) (GU:⋯ 2 fU fdU ["e"] (Zzf Ds)):⋯ 24 f fd pDh (Zzi K C B D):=by
 have GI2:=Zap.or (Zap.any (CX:=CX1 P w) GI) XI
 have GR2:=Zap.or (Zap.any (CX:=CX1 P w) GR) XR
 have GC2:=Zap.or (Zap.any (CX:=CX1 P w) GC) XC
 nomatch F.fn.ok Z7x
 ·obtain⟨door,p,k,l,rows,ns,b,xs,d,v,rfl,_⟩:=h
  rfl
 ·obtain⟨door,p,k,l,rows,ns,b,xs,d,v,rfl,d2,hh,r8,q⟩:=h
  have nd:=Z7x.nd
  have hr2:Zcb 2 _:=hr.mono (by decide)
  have hr17:Zcb 17 _:=hr.mono (by decide)
  ac_nf
  refine'⟨_,(pS (sE 4 nd Zhx)
   (Zc3 (Z3x (i:=4) (j:=5) rfl rfl TD.ex nd (by rfl) TD.m rfl (Or.inl rfl) rfl rfl (Zib (Zzp (Zal Zds (pv 0) Zae (Zaq _)) (Zib (Zl7 (Zma DI GI2 hr17 (by rfl) (pC (pv 1) (pC (pv 2) (pC (pv 3) Zaa))))))
     (Zib (Zzp (Zal Zds (pv 0) Zae (Zaq _)) (Zib (Zl7 (Zma DR GR2 hr (by rfl) (pC (pv 1) (pC (pv 2) (pC (pv 3) Zaa)))))) (Zib (Zl7 (Zma DC GC2 hr (by rfl) (pC (pv 1) (pC (pv 2) (pC (pv 3) Zaa)))))))))))
   (pS (Zaz (Zal Z34 (pv 4) Zhx (Zaq _)) (Zac (Zao (Zbi (pC Zca (pC Zhx Zaa))))) Zai)
   (Zac (Zao (Zaf DU GU hr2 (pC (pv 4) Zaa))))))),?_⟩
  exists let b:=Zar _ a;let c:=Zqn _ b;Zar _ c _ _ _
  let Hv1:SW:=λσ' H'=>∃(wv:V) (x5:OV),σ'=[some (.int door),some (.ref p),some (.ref l),some v,some wv,x5]/\Zaj H H'/\Zta Ds H' wv (Zc1 door rows ns xs d)
  refine⟨Hv1,?_,?_⟩
  ·have fine:Zc1 door rows ns xs d=none->∀ H1,Zaj H H1->∃(wv:V) (x5:OV),[some (V.int door),some (.ref p),some (.ref l),some v,some .non,none]=[some (.int door),some (.ref p),some (.ref l),some v,some wv,x5]/\Zaj H H1/\Zta Ds H1 wv (Zc1 door rows ns xs d):=λe H1 s1=>⟨.non,none,rfl,s1,by rw[e];rfl⟩
   have bad:∀ {du:Du},Zc1 door rows ns xs d=some du->Zw0 Ds (λcls dx H1=>∃ C,cls=.ref C/\ExC K C/\W.subIn K (.ref C) (.ref DE)=some true/\∀ e,H1 e=none->∃(wv:V) (x5:OV),[some (V.int door),some (.ref p),some (.ref l),some v,some (.ref e),none]=[some (.int door),some (.ref p),some (.ref l),some v,some wv,x5]/\Zaj H (upd H1 e (XO e C dx))/\Zta Ds (upd H1 e (XO e C dx)) wv (Zc1 door rows ns xs d)) H du:=λ{du} e =>
    Zv1 (R:=λwv' H'=>∃(wv:V) (x5:OV),[some (V.int door),some (.ref p),some (.ref l),some v,some wv',none]=[some (.int door),some (.ref p),some (.ref l),some v,some wv,x5]/\Zaj H H'/\Zta Ds H' wv (Zc1 door rows ns xs d)) O λwv H' s' hw=>⟨wv,none,rfl,s',by rw[e];exact hw⟩
   have dc:door=0\/door=1\/door=2:=by omega
   rcases dc with rfl | rfl | rfl
   ·refine⟨_,rfl,rfl,_,rfl,?_⟩
    rw[show decide (V.int ((0:Nat):Int)=V.int 0)=true from Jb rfl]
    refine Zfe ⟨_,rfl,_,rfl,_,rfl,?_⟩
    cases hf:Zgd rows xs with
    | none =>
     obtain⟨x12,kx⟩:=Zez hf
     exact .inl ⟨p,k,l,rows,ns,b,xs,d,v,rfl,hh.bk,hh.g,hh.gn,hh.hS,x12,kx,hh.hv,hh.wf,hh.lz,λH1 s1=>fine (Zll.trans hf) H1 s1⟩
    | some du=>exact .inr ⟨p,k,l,rows,ns,b,xs,d,v,du,rfl,hh,hf,bad (Zll.trans hf)⟩
   ·refine⟨_,rfl,rfl,_,rfl,?_⟩
    rw[show decide (V.int ((1:Nat):Int)=V.int 0)=false from Jc (λz=>by injection z with z;omega)]
    refine Zcu ⟨_,rfl,rfl,_,rfl,?_⟩
    rw[show decide (V.int ((1:Nat):Int)=V.int 1)=true from Jb rfl]
    refine Zfe ⟨_,rfl,_,rfl,_,rfl,?_⟩
    obtain⟨dd,hd⟩:∃ dd,Zc1 1 rows ns xs d=dd:=⟨_,rfl⟩
    cases dd with
    | none =>
     obtain⟨hf,ht⟩:=Zkk (by decide) hd
     obtain⟨x12,kx⟩:=Zez hf
     exact .inl ⟨p,k,l,rows,ns,b,xs,d,v,rfl,hh.bk,hh.g,hh.gn,hh.hS,x12,kx,hh.hv,hh.wf,hh.lz,ht,λa H1 s1=>fine hd H1 s1⟩
    | some du=>exact .inr ⟨p,k,l,rows,ns,b,xs,d,v,du,rfl,hh,hd,bad hd⟩
   ·refine⟨_,rfl,rfl,_,rfl,?_⟩
    rw[show decide (V.int ((2:Nat):Int)=V.int 0)=false from Jc (λz=>by injection z with z;omega)]
    refine Zcu ⟨_,rfl,rfl,_,rfl,?_⟩
    rw[show decide (V.int ((2:Nat):Int)=V.int 1)=false from Jc (λz=>by injection z with z;omega)]
    refine Zcu ⟨_,rfl,_,rfl,_,rfl,?_⟩
    obtain⟨dd,hd⟩:∃ dd,Zc1 2 rows ns xs d=dd:=⟨_,rfl⟩
    cases dd with
    | none =>
     obtain⟨hf,ht⟩:=Zkk (by decide) hd
     obtain⟨x12,kx⟩:=Zez hf
     exact .inl ⟨p,k,l,rows,ns,b,xs,d,v,rfl,hh.bk,hh.g,hh.gn,hh.hS,x12,kx,hh.hv,hh.wf,hh.lz,ht,Zxk kx (Zy1 hd),λa H1 s1=>fine hd H1 s1⟩
    | some du=>exact .inr ⟨p,k,l,rows,ns,b,xs,d,v,du,rfl,hh,r8,hd,bad hd⟩
  ·rintro σ' H1 ⟨wv,x5,rfl,s1,hw⟩
   cases hd:Zc1 door rows ns xs d with
   | none =>
    rw[hd]at hw
    have hw:wv=.non:=hw
    rw[hw]
    refine⟨_,rfl,rfl,_,rfl,Zfe ⟨sL (by show 2<=100000;decide),λa ha=>q a _ (s1.trans (Za9 ha)) (by rw[hd];exact uS)⟩⟩
   | some du =>
    rw[hd]at hw
    have hn:wv≠.non:=by
     cases du with
     | many=>obtain⟨e,dx,ew,_⟩:=hw;rw[ew];exact λz=>by cases z
     | noT=>obtain⟨e,dx,ew,_⟩:=hw;rw[ew];exact λz=>by cases z
     | noK wd=>obtain⟨e,dx,ew,_⟩:=hw;rw[ew];exact λz=>by cases z
    refine⟨_,rfl,rfl,_,rfl,?_⟩
    rw[Jc hn]
    exact Zcu ⟨_,rfl,wv,du,rfl,hw,λa H2 s2 ha=>q a H2 (s1.trans s2) (by rw[hd];exact ha)⟩
def hdR(H:Hp):V->Str
 | .ref t=>match H t with
  | some (.tup (.str x :: _))=>x
  | _=>""
 | _=>""
def Zoj{H:Hp}{t:Addr}{x:Str}{r:LV}(h:H t=some (.tup (.str x :: r))):hdR H (.ref t)=x:=by
 show(match H t with | some (.tup (.str x :: _))=>x | _=>"")=x
 rw[h]
theorem Zp2{H:Hp}:∀ {rows:RS}{vs:LV},Paired (Z21 H) rows vs->vs.map (hdR H)=rows.map (·.1)
 | _,_,.nil=>rfl
 | _,_,.cons ⟨t,u,e,h1,_⟩ r=>by
  subst e
  rw[Yy,Yy,Zoj h1,Zp2 r]
def Znm{K:Fg}{l:Addr}{H1:Hp}{rows:RS}{js:LN}{σ:St}{tt:TT}{te:TE}{Q:VK}(hR:Zeg H1 l rows)(few:rows.length<=100)(f:Str->Bool)
  (ht:∀(t u:Addr) (x:Str) H' (R:Bool->Hp->Prop),Zaj H1 H'->x∈rows.map (·.1)->H' t=some (.tup [.str x,.ref u])->R (f x) H'->tt (some (.ref t):: js.map λj=>(σ[j]?).join) H' R)
  (he:∀(t u:Addr) (x:Str) H' (R:VK),H' t=some (.tup [.str x,.ref u])->R (.str x) H'->te (some (.ref t):: js.map λj=>(σ[j]?).join) H' R)
  (hd:∀ D,H1 D=none->Q (.ref D) (upd H1 D (.lst (((rows.map (·.1)).filter f).map V.str)))):compBody 1 js (Zff 0) tt te σ Q (Itl K l) H1:=by
 obtain⟨vs,hvs,hpr⟩:=hR
 have kp:∀ {D:Addr} {ys:LV},H1 D=none->Zaj H1 (upd H1 D (.lst ys)):=λh=>Za9 h
 refine Zda (Zav (xs:=vs)) (sL (by rw[<- hpr.length];omega)) (λv=>f (hdR H1 v)) (λv=>.str (hdR H1 v)) (λD ys hD=>SqL.of (kp hD _ _ hvs)) ?_ ?_ ?_
 ·intro D ys v R hD hv hR
  obtain⟨i,hi⟩:=Yo2.mp hv
  obtain⟨r,hr',t,u,rfl,h1,h2⟩:=Zau hpr hi
  rw[Zoj h1]at hR
  exact ht t u r.1 _ R (kp hD) (Ye.mpr ⟨r,Yf hr',rfl⟩) (kp hD _ _ h1) hR
 ·intro D ys v R hD hv _ hR
  obtain⟨i,hi⟩:=Yo2.mp hv
  obtain⟨r,hr',t,u,rfl,h1,h2⟩:=Zau hpr hi
  rw[Zoj h1]at hR
  exact he t u r.1 _ R (kp hD _ _ h1) hR
 ·intro D hD
  have e:(vs.filter λv=>f (hdR H1 v)).map (λv=>V.str (hdR H1 v))=((rows.map (·.1)).filter f).map V.str:=by
   rw[<- Zp2 hpr,Yz2,Yy1]
   rfl
  rw[e]
  exact hd D hD
def Zlu:Sp:=λvs H Q _=>∃(l aa:Addr) (rows:RS) (avs:KL) (x:Str),vs=[.ref l,.ref aa,.str x]/\Zeg H l rows/\Zdr rows/\H aa=some (.dK avs)/\Zb8 H rows rows avs/\∀ lb,H lb=none->Q (.ref lb) (upd H lb (.lst ((Zd2 rows x).map V.str)))
def Z4i:(["row","above","word"]:LS).Nodup:=by rfl'
def Z24{H H':Hp}{rows:RS}{avs:KL}(g:Zdr rows)(hA:Zb8 H rows rows avs)(s:Zaj H H'){x:Str}(hx:x∈rows.map (·.1)):∃(t:Addr) (fs:LS),Zex avs (Sum.inr x)=some (.ref t)/\H' t=some (.lst (fs.map V.str))/\∀ y,inV (V.str y) (fs.map V.str)=Ze8 rows x y:=by
 obtain⟨r,hr',er⟩:=Zd6 hx
 obtain⟨t,fs,hv,ht,hfs⟩:=hA.val g.nd hr'
 refine⟨t,fs,by rw[<- er];exact hv,s _ _ ht,λy=>?_⟩
 rw[Zi2]
 exact Zvi (by rw[er]at hfs;exact hfs) y
def Zo8(x:Str):Prop:=x.length<=20/\∀ c∈x.cps.toList,c<128
instance (x:Str):Decidable (Zo8 x):=by unfold Zo8;infer_instance
def Zo8.shows{x:Str}(h:Zo8 x):Zwz x:=⟨by have:=h.1;omega,λc hc=>by have:=h.2 c hc;exact Nat.lt_trans this (by decide)⟩
def Zo8.ok{x:Str}(h:Zo8 x):PyData.strOk x=true:=by
 unfold PyData.strOk
 rw[Array.all_eq_true']
 intro c hc
 have:=h.2 c (Array.mem_toList_iff.mpr hc)
 exact Jb (by omega)
def Zo8.word{x:Str}(h:Zbf x=true):Zo8 x:=by
 have l:=(Zhe h).2
 refine⟨by omega,λc hc=>?_⟩
 have:=((Zdi x).mp h).2 c hc
 unfold Zke at this
 have:=Je this
 omega
def Z2x(ys:LS):Prop:=∀ y∈ys,Zo8 y
def Zg2:LS:=["","abcdefghi","Abc","a b","a1","-","a_b"," a","a ","kinD","{","`a"]
def Zr5:∀ x∈Zg2,Zo8 x:=by rfl'
def Zqs:Sp:=λvs H Q _=>∃(p:Addr),vs=[.ref p]/\(∃ o,H p=some o/\Zh2 o)/\∀ x H',Drawn p H H'->Zo8 x->Q (.str x) H'
structure Bnt(p lf:Addr)(H H':Hp)(la:Addr)(ys:LS):Prop where
 keep:∀ b o,b≠p->b≠lf->H b=some o->H' b=some o
 pot:∃ o,H' p=some o/\Zh2 o
 old:la=lf\/H la=none
 at_:H' la=some (.lst (ys.map V.str))
 fit:Z2x ys
def Zt5:Sp:=λvs H Q _=>∃(p l lf:Addr) (rows:RS) (xs:LS),vs=[.ref p,.ref l,.ref lf]/\(∃ o,H p=some o/\Zh2 o)/\p≠lf/\lf≠l/\Zeg H l rows/\Zdr rows/\H lf=some (.lst (xs.map V.str))/\Z2x xs/\xs.length<=12 /\
 ∀ la ys H',Bnt p lf H H' la ys->ys.length<=93->Q (.ref la) H'
def Bnt.ne{p lf:Addr}{H H':Hp}{la:Addr}{ys:LS}{o:HO}(b:Bnt p lf H H' la ys)(h:p≠lf)(hp:H p=some o):la≠p:=by
 rcases b.old with e | e
 ·rw[e];exact Ym h
 ·exact λz=>by rw[z,hp]at e;cases e
def Bnt.draw{p lf:Addr}{H H1 H2:Hp}{la:Addr}{ys:LS}(b:Bnt p lf H H1 la ys)(n:la≠p)(d:Drawn p H1 H2):Bnt p lf H H2 la ys :=
 ⟨λc o h1 h2 e=>d.keep _ _ h1 (b.keep c o h1 h2 e),d.pot,b.old,d.keep _ _ n b.at_,b.fit⟩
def Bnt.set{p lf:Addr}{H H1:Hp}{la:Addr}{ys zs:LS}(b:Bnt p lf H H1 la ys)(n:la≠p)(fz:Z2x zs):Bnt p lf H (upd H1 la (.lst (zs.map V.str))) la zs :=
 ⟨λc o h1 h2 e=>by
  rw[Zab]
  ·exact b.keep c o h1 h2 e
  ·rcases b.old with z | z
   ·rw[z];exact h2
   ·exact nNo e z,by
  obtain⟨o,h1,h2⟩:=b.pot
  exact⟨o,by rw[Zab (Ym n)];exact h1,h2⟩,b.old,uS,fz⟩
def Zuf(x:Str)(k:Nat):(List.replicate k [V.str x]).flatten=(List.replicate k x).map V.str:=by
 induction k with
 | zero=>rfl
 | succ k ih=>rw[Yt2,Yu3,ih,Yt2];rfl
def Zy6{v:Int}(h0:0<=v)(h1:v<3):∃ m:Int,atI [V.int 13,V.int 14,V.int 90] v=some (.int m)/\13<=m/\m<=90:=by
 have:v=0\/v=1\/v=2:=by omega
 rcases this with rfl | rfl | rfl
 ·exact⟨13,rfl,by decide,by decide⟩
 ·exact⟨14,rfl,by decide,by decide⟩
 ·exact⟨90,rfl,by decide,by decide⟩
def Zyr{rows:RS}(g:Zdr rows):Zkr (rows.map (·.1)):=⟨λx hx=>by
 obtain⟨r,hr,rfl⟩:=Ye.mp hx
 exact g.word r hr,g.nd⟩
abbrev nLB:LS:=["rows","above","word"]
def Z86:Zak nLB nLB (Zad Zdg):=by nofun
def Zny(F:Def K mg "_law_below" Zdg nLB f fd):⋯ 1 f fd nLB Zlu:=by
 nomatch F.fn.ok Z86
 ·obtain⟨l,aa,rows,avs,x,rfl,_⟩:=h
  rfl
 ·obtain⟨l,aa,rows,avs,x,rfl,hR,g,haa,hA,q⟩:=h
  have hu:=Zf1 hr
  ac_nf
  refine'⟨_,Zac (Zao ?eC),?_⟩
  case eC=>exact(Zbt ["row"] ["above","word"] [1,2] (λ_=>Za1 (osc:=Zad Zdg) (on:=nLB) (by rfl') rfl rfl rfl) (Zbb (pv 0)) (λC s H fp=>Zah (i:=0) Z4i rfl (Or.inl rfl) (Or.inr rfl)) (λC s H fp=>Zek (Zal (r:=rIn K false) Zg9 (pv 2) (Zd1 hu (pv 1) (Za3 (r:=Zhv K) Zbr (pv 0) Zae (λ_ _=>rfl)) (λ_ _=>rfl)) (by with_unfolding_all rfl))) (λC s H fp=>Za3 (r:=Zhv K) Zbr (pv 0) Zae (λ_ _=>rfl)))
  have gle:=g.le
  obtain⟨vs,hvs,hpr⟩:=id hR
  refine⟨_,rfl,l,rfl,⟨_,SqL.of hvs⟩,Znm hR (by omega) (λy=>Ze8 rows y x) ?_ ?_ q⟩
  ·intro t u y H' R s' hy ht hR'
   obtain⟨t2,fs,hv,ht2,hin⟩:=Z24 g hA s' hy
   refine⟨_,rfl,_,rfl,_,rfl,t,_,_,_,rfl,rfl,SqT.of ht,at0 _ _,aa,_,rfl,(by rw[<- hv];exact Zgg.k (k:=Sum.inr y) (s' _ _ haa)),t2,_,rfl,.inl (SqL.of ht2),rfl,Zgc fs,_,rfl,?_⟩
   rw[if_neg (by decide),hin x]
   exact hR'
  ·intro t u y H' R ht hR'
   exact⟨_,rfl,t,_,_,_,rfl,rfl,SqT.of ht,at0 _ _,hR'⟩
abbrev nNw:LS:=["pot","some","way"]
def Z7n:Zak nNw ["pot"] (Zad Za8):=by nofun
def t12:TE:=Z5f (λ_ H Q=>Q (Zg2.map V.str) H)
def s12:Stmt:=hdS (Za7 Za8)
def Z2z:Expr:=Z2k s12
def e12:Zlr Z2z=some Zg2:=by rfl'
def a12:Z5m s12=some (("some":Str),Z2z):=by rfl
def u12:Zyn Z2z=true:=by rfl'
def p12{X:Cx}:PE X Z2z t12:=@Zq6 X Zg2 Z2z e12
def Z6h{X:Cx}(hN:X.N.Nodup)(hi:X.N[1]?=some ("some":Str))(hx:Loc X.env.scope ("some":Str))(hf:X.fn ("some":Str)=true\/X.env.scope.names.lookup ("some":Str)=some NameKind.local):PS X s12 (Zr3 t12 (Zff 1)):=
 @Zuj X s12 1 ("some":Str) Z2z t12 a12 (@p12 X) u12 hN hi hx hf
def n12:(Za7 Za8).isEmpty=false:=by rfl'
def Z3w{X:Cx}{u:TS}(hN:X.N.Nodup)(hi:X.N[1]?=some ("some":Str))(hx:Loc X.env.scope ("some":Str))(hf:X.fn ("some":Str)=true\/X.env.scope.names.lookup ("some":Str)=some NameKind.local)(h2:PSs X (tlS (Za7 Za8)) u):PSs X (Za7 Za8) (Zar (Zr3 t12 (Zff 1)) u):=
 @Zzq X (Za7 Za8) (Zr3 t12 (Zff 1)) u n12 (@Z6h X hN hi hx hf) h2
def Z6w{X:Cx}{D:Ztf}{σ:St}{H:Hp}(hN:X.N.Nodup)(hi:X.N[1]?=some ("some":Str))(hx:Loc X.env.scope ("some":Str))(hf:X.fn ("some":Str)=true\/X.env.scope.names.lookup ("some":Str)=some NameKind.local)
  (h:∃ u,PSs X (tlS (Za7 Za8)) u/\Zar (Zr3 t12 (Zff 1)) u D σ H):∃ t,PSs X (Za7 Za8) t/\t D σ H:=by
 obtain⟨u,h1,h2⟩:=h
 exact⟨Zar (Zr3 t12 (Zff 1)) u,@Z3w X u hN hi hx hf h1,h2⟩
def Zsd(F:Def K mg "_law_no_word" Za8 ["pot"] f fd)(DT:Def K mg "_law_take" Za5 ["pot","many"] fT fdT)(GT:⋯ 1 fT fdT ["pot","many"] Zfg)(DL:Def K mg "_law_letters" Zbx ["number"] fL fdL)(GL:⋯ 1 fL fdL ["number"] Zjx):⋯ 2 f fd ["pot"] Zqs:=by
 nomatch F.fn.ok Z7n
 ·obtain⟨p,rfl,_⟩:=h
  rfl
 ·obtain⟨p,rfl,⟨o,hp,ho⟩,q⟩:=h
  have nd:=Z7n.nd
  refine @Z6w _ _ _ _ nd rfl (Or.inl rfl) (Or.inl rfl) ?_
  ac_nf
  refine'⟨_,(pS (sE 2 nd (Zaf DT GT hr (pC (pv 0) (pC Zae Zaa))))
   (pS (Zaz (Zal Zmc (pv 2) Zae (Zaq _)) (Zac (Zao (Za3 (r:=Zhv K) Zbr (pv 1) (pv 2) (λ_ _=>rfl)))) Zai)
   (Zac (Zao (Zaf DL GL hr (pC (Za0 Zbz (Za0 Zjc Zae Zae) (Zaf DT GT hr (pC (pv 0) (pC (Za0 Zjc Zae Zae) Zaa)))) Zaa)))))),?_⟩
  refine⟨sL (by show 12<=100000;decide),λt ht=>?_⟩
  have d1:Drawn p H (upd H t (.tup (Zg2.map V.str))):=(Drawn.refl ⟨o,hp,ho⟩).new ht
  have ht1:(upd H t (.tup (Zg2.map V.str))) t=some (.tup (Zg2.map V.str)):=uS
  have tp:t≠p:=λe=>by rw[e,hp]at ht;cases ht
  have hp1:(upd H t (.tup (Zg2.map V.str))) p=some o:=by rw[Zab (Ym tp)];exact hp
  generalize upd H t (.tup (Zg2.map V.str))=H1 at d1 ht1 hp1 ⊢
  refine⟨_,rfl,p,13,o,rfl,hp1,ho,by decide,by decide,λv o2 v0 v1 ho2=>?_⟩
  have d2:Drawn p H (upd H1 p o2):=d1.trans (Drawn.upd ho2)
  have ht2:(upd H1 p o2) t=some (.tup (Zg2.map V.str)):=by rw[Zab tp];exact ht1
  have hp2:(upd H1 p o2) p=some o2:=uS
  generalize upd H1 p o2=H2 at d2 ht2 hp2 ⊢
  refine⟨_,rfl,_,_,rfl,rfl,_,rfl,Zdu (λz=>?_) (λ_=>?_)⟩
  ·have z:v<12:=Je z
   obtain⟨x,hx,hat⟩:=Zc0 (ws:=Zg2) v0 z
   exact⟨_,rfl,_,rfl,t,_,v,_,rfl,rfl,SqT.of ht2,hat,q x H2 d2 (Zr5 x hx)⟩
  ·refine⟨_,_,rfl,rfl,⟨by decide,by decide,by rfl'⟩,_,rfl,_,_,rfl,rfl,⟨by decide,by decide,by rfl'⟩,p,_,o2,rfl,hp2,ho2,by decide,by decide,λu o3 u0 u1 ho3=>?_⟩
   have u1:u<1000000000:=u1
   have e8:(26:Int) ^ (8:Int).toNat=208827064576:=by rfl'
   refine⟨_,_,rfl,rfl,?_⟩
   rw[e8]
   obtain⟨n,hn⟩:∃ n:Nat,(208827064576:Int) + u=(n:Int):=⟨(208827064576 + u).toNat,by omega⟩
   have hl:n<26 ^ 9:=by
    have e9:(26:Nat) ^ 9=5429503678976:=by rfl'
    rw[e9];omega
   refine⟨n,by show[V.int (208827064576 + u)]=_;rw[hn],hl,q _ _ (d2.trans (Drawn.upd ho3)) ?_⟩
   ·have h1:=Zfy 8 n hl
    refine⟨?_,λc hc=>?_⟩
    ·rw[<- Zgk,Zdo];omega
    ·rw[Zdo]at hc
     have:=Zjf n c hc
     unfold Zke at this
     have:=Je this
     omega
def Z4h:(["row"]:LS).Nodup:=by rfl'
abbrev nBe:LS:=["pot","rows","filling","words","way","more","k","word"]
abbrev pBe:LS:=["pot","rows","filling"]
def Z76:Zak nBe pBe (Zad Ze6):=by nofun
def Zx6(F:Def K mg "_law_bent" Ze6 pBe f fd)(len:mg "len"=none)(range:mg "range"=none)(DT:Def K mg "_law_take" Za5 ["pot","many"] fT fdT)(GT:⋯ 1 fT fdT ["pot","many"] Zfg)
  (DW:Def K mg "_law_word" Zba ["pot","words"] fW fdW) (GW:⋯ 2 fW fdW ["pot","words"] Zqp) (DN:Def K mg "_law_no_word" Za8 ["pot"] fN fdN) (GN:⋯ 2 fN fdN ["pot"] Zqs):⋯ 3 f fd pBe Zt5:=by
 nomatch F.fn.ok Z76
 ·obtain⟨p,l,lf,rows,xs,rfl,_⟩:=h
  rfl
 ·obtain⟨p,l,lf,rows,xs,rfl,⟨o,hp,ho⟩,plf,lfl,hR,g,hlf,fx,x12,q⟩:=h
  have nd:=Z76.nd
  have hr1:Zcb 1 _:=hr.mono (by decide)
  have gle:=g.le
  have gne:=g.ne
  ac_nf
  refine'⟨_,(pS (Zcz (k:=3) ["row"] [] [] nd rfl rfl (λ_=>Za1 (osc:=Zad Ze6) (on:=nBe) (by rfl') rfl rfl rfl) (Zbb (pv 1)) (λC s H fp=>Zah (i:=0) Z4h rfl (Or.inl rfl) (Or.inr rfl)) (λC s H fp=>Zb3) (λC s H fp=>Za3 (r:=Zhv K) Zbr (pv 0) Zae (λ_ _=>rfl)))
   (pS (sE 4 nd (Zaf DT GT hr1 (pC (pv 0) (pC Zae Zaa))))
   (Zc3 (Zaz (Zal Zds (pv 4) Zae (Zaq _))
    (pS (sE 5 nd (Za0 Zif (Za3 (r:=Zhv K) Zbr (Zbi (pC Zae (pC Zae (pC Zae Zaa)))) (Zaf DT GT hr1 (pC (pv 0) (pC Zae Zaa))) (λ_ _=>rfl)) (Zam Zan (by rfl) len Yr (pC (pv 2) Zaa))))
   (Zac (sE 2 nd (Za0 Zzy (pv 2) (Za0 Zzw (Zbj (pC (Za3 (r:=Ziu K) Zay (pv 3) (Zaf DT GT hr1 (pC (pv 0) (pC (Zam Zan (by rfl) len Yr (pC (pv 3) Zaa)) Zaa))) (λ_ _=>rfl)) Zaa)) (pv 5)))))) Zai)
   (pS (Zaz (Zal Zmc (pv 4) Zae (Zaq _)) (Zac (Zbc Yk rfl (Zbv (by rfl) range (pC (Za0 Zbz Zae (Zaf DT GT hr1 (pC (pv 0) (pC Zae Zaa)))) Zaa)) (gE 6 nd)
     (pS (sE 7 nd (Zaf DW GW hr (pC (pv 0) (pC (pv 3) Zaa))))
   (Zc3 (Zaz (Zal Zds (Zaf DT GT hr1 (pC (pv 0) (pC Zae Zaa))) Zae (Zaq _)) (Zac (sE 7 nd (Zaf DN GN hr (pC (pv 0) Zaa)))) Zai)
   (Zac (Zax (Zf0 Yu Yl4 Ym4 Zj9 (pv 2) (pC (Zaf DT GT hr1 (pC (pv 0) (pC (Za0 Zbz (Zam Zan (by rfl) len Yr (pC (pv 2) Zaa)) Zae) Zaa))) (pC (pv 7) Zaa))))))))) Zai)
   (Zac (Zao (pv 2))))))),?_⟩
  exists let b:=_;let c:=_;let e:=Zqn (Zhf _ c _) b;let f:=Zar _ e;let g:=Zgf _ _ f;let h:=Zar (Zhf _ g _) a;let i:=_;let j:=Zar _ i;let k:=Zqn (Zhf _ j _) h;let l:=Zar _ k;Zar _ l _ _ _
  obtain⟨vs,hvs,hpr⟩:=id hR
  refine⟨_,rfl,l,rfl,⟨_,SqL.of hvs⟩,Znm hR (by omega) (λ_=>true) (λt u x H' R _ _ _ hR'=>hR') (λt u y H' R ht hR'=>⟨_,rfl,t,_,_,_,rfl,rfl,SqT.of ht,at0 _ _,hR'⟩) λlw hlw=>?_⟩
  rw[Yi2.mpr (λ_ _=>rfl)]
  have s1:Zaj H (upd H lw (.lst ((rows.map (·.1)).map V.str))):=Za9 hlw
  have hw1:(upd H lw (.lst ((rows.map (·.1)).map V.str))) lw=some (.lst ((rows.map (·.1)).map V.str)):=uS
  generalize upd H lw (.lst ((rows.map (·.1)).map V.str))=H1 at s1 hw1 ⊢
  have wok:=Zyr g
  have wl:(rows.map (·.1)).length=rows.length:=Ya _
  generalize rows.map (·.1)=ws at hw1 wok wl ⊢
  have hp1:=s1 _ _ hp
  refine⟨_,rfl,p,4,o,rfl,hp1,ho,by decide,by decide,λway o2 w0 w1 ho2=>?_⟩
  have d2:Drawn p H1 (upd H1 p o2):=Drawn.upd ho2
  have hp2:(upd H1 p o2) p=some o2:=uS
  generalize upd H1 p o2=H2 at d2 hp2 ⊢
  have lwp:lw≠p:=λz=>by rw[z,hp]at hlw;cases hlw
  have lwf:lw≠lf:=λz=>by rw[z,hlf]at hlw;cases hlw
  have hw2:=d2.keep _ _ lwp hw1
  have hlf2:=d2.keep _ _ (Ym plf) (s1 _ _ hlf)
  have k2:∀ b u,b≠p->b≠lf->H b=some u->H2 b=some u:=λb u h1 _ e=>d2.keep _ _ h1 (s1 _ _ e)
  let Hv1:SW:=λσ' H'=>∃(la:Addr) (ys:LS) (x5:OV),σ'=[some (.ref p),some (.ref l),some (.ref la),some (.ref lw),some (.int way),x5,none,none]/\Bnt p lf H H' la ys/\H' lw=some (.lst (ws.map V.str))/\lw≠la/\ys.length<=90
  refine⟨Hv1,?_,?_⟩
  ·refine⟨_,rfl,rfl,_,rfl,Zdu (λ_=>?_) (λ_=>⟨lf,xs,none,rfl,⟨k2,⟨o2,hp2,ho2⟩,.inl rfl,hlf2,fx⟩,hw2,lwf,by omega⟩)⟩
   refine⟨sL (by show 3<=100000;decide),λt3 ht3=>?_⟩
   have s3:Zaj H2 (upd H2 t3 (.tup [.int 13,.int 14,.int 90])):=Za9 ht3
   have h33:(upd H2 t3 (.tup [.int 13,.int 14,.int 90])) t3=some (.tup [.int 13,.int 14,.int 90]):=uS
   generalize upd H2 t3 (.tup [.int 13,.int 14,.int 90])=H3 at s3 h33 ⊢
   refine⟨_,rfl,p,3,o2,rfl,s3 _ _ hp2,ho2,by decide,by decide,λv o4 v0 v1 ho4=>?_⟩
   have d4:Drawn p H3 (upd H3 p o4):=Drawn.upd ho4
   have hp4:(upd H3 p o4) p=some o4:=uS
   generalize upd H3 p o4=H4 at d4 hp4 ⊢
   have t3p:t3≠p:=λz=>by rw[z,hp2]at ht3;cases ht3
   obtain⟨m,hm,m13,m90⟩:=Zy6 v0 v1
   have hlf4:=d4.keep _ _ (Ym plf) (s3 _ _ hlf2)
   have hw4:=d4.keep _ _ lwp (s3 _ _ hw2)
   refine⟨t3,_,v,_,rfl,rfl,SqT.of (d4.keep _ _ t3p h33),hm,_,rfl,lf,_,rfl,.inl (SqL.of hlf4),_,_,rfl,rfl,?_⟩
   rw[Ya]
   refine⟨_,rfl,_,rfl,_,rfl,_,rfl,lw,_,rfl,.inl (SqL.of hw4),p,_,o4,rfl,hp4,ho4,by rw[Ya];omega,by rw[Ya];omega,λu o5 u0 u1 ho5=>?_⟩
   obtain⟨x,hx,hat⟩:=Zc0 u0 u1
   have d5:Drawn p H4 (upd H4 p o5):=Drawn.upd ho5
   have hp5:(upd H4 p o5) p=some o5:=uS
   generalize upd H4 p o5=H5 at d5 hp5 ⊢
   have hw5:=d5.keep _ _ lwp hw4
   have hlf5:=d5.keep _ _ (Ym plf) hlf4
   refine⟨lw,_,u,_,rfl,rfl,SqL.of hw5,hat,sL (by show 1<=100000;decide),λl6 hl6=>?_⟩
   have s6:Zaj H5 (upd H5 l6 (.lst [.str x])):=Za9 hl6
   have h66:(upd H5 l6 (.lst [.str x])) l6=some (.lst [.str x]):=uS
   generalize upd H5 l6 (.lst [.str x])=H6 at s6 h66 ⊢
   refine⟨_,rfl,l6,m - (xs.length:Int),_,rfl,rfl,h66,by omega,by omega,sL (by show 1 * _<=100000;omega),λl7 hl7=>?_⟩
   rw[Zuf]
   have s7:=Za9 (o:=.lst ((List.replicate (m - (xs.length:Int)).toNat x).map V.str)) hl7
   have h77:(upd H6 l7 (.lst ((List.replicate (m - (xs.length:Int)).toNat x).map V.str))) l7=some (.lst ((List.replicate (m - (xs.length:Int)).toNat x).map V.str)):=uS
   generalize upd H6 l7 (.lst ((List.replicate (m - (xs.length:Int)).toNat x).map V.str))=H7 at s7 h77 ⊢
   have s57:=s6.trans s7
   refine⟨lf,l7,_,_,rfl,rfl,s57 _ _ hlf5,h77,sL (by rw[Ya,Ya,Yv3];omega),λl8 hl8=>?_⟩
   rw[<- Yb1]
   have s8:=Za9 (o:=.lst ((xs++List.replicate (m - (xs.length:Int)).toNat x).map V.str)) hl8
   have s58:=s57.trans s8
   have n8:H l8=none:=by
    have e5:=s57.free hl8
    cases z:H l8 with
    | none=>rfl
    | some u' =>
     by_cases c:l8=p
     ·rw[c,hp5]at e5;cases e5
     ·rw[d5.keep _ _ c (d4.keep _ _ c (s3 _ _ (d2.keep _ _ c (s1 _ _ z))))]at e5;cases e5
   refine⟨l8,xs++List.replicate (m - (xs.length:Int)).toNat x,_,rfl,⟨λb u' h1 _ e=>s58 _ _ (d5.keep _ _ h1 (d4.keep _ _ h1 (s3 _ _ (d2.keep _ _ h1 (s1 _ _ e))))),⟨o5,s58 _ _ hp5,ho5⟩,.inr n8,uS,λy hy=>?_⟩,s58 _ _ hw5,λz=>?_,?_⟩
   ·rcases Yo.mp hy with c | c
    ·exact fx y c
    ·rw[List.eq_of_mem_replicate c]
     exact Zo8.word (wok.word x hx)
   ·rw[<- z,s57 _ _ hw5]at hl8;cases hl8
   ·rw[Yi,Yv3];omega
  ·rintro σ' H3 ⟨la,ys,x5,rfl,bn,hw3,lwa,y90⟩
   have lap:=bn.ne plf hp
   obtain⟨o3,hp3,ho3⟩:=bn.pot
   refine⟨_,rfl,_,_,rfl,rfl,_,rfl,Zdu (λ_=>?_) (λ_=>⟨_,rfl,q la ys H3 bn (by omega)⟩)⟩
   refine⟨_,rfl,p,3,o3,rfl,hp3,ho3,by decide,by decide,λv o4 v0 v1 ho4=>?_⟩
   have d4:Drawn p H3 (upd H3 p o4):=Drawn.upd ho4
   generalize upd H3 p o4=H4 at d4 ⊢
   have bn4:=bn.draw lap d4
   have hw4:=d4.keep _ _ lwp hw3
   obtain⟨m,em⟩:∃ m:Nat,(1:Int) + v=(m:Int):=⟨(1 + v).toNat,by omega⟩
   let Iv1:NW:=λi σ H'=>∃(zs:LS) (x6 x7:OV),σ=[some (.ref p),some (.ref l),some (.ref la),some (.ref lw),some (.int way),x5,x6,x7]/\Bnt p lf H H' la zs/\H' lw=some (.lst (ws.map V.str))/\zs.length<=90 + i
   refine⟨_,_,rfl,rfl,m,by show[V.int (1 + v)]=_;rw[em],by omega,by omega,Zat Zbm Iv1
    ⟨ys,none,none,rfl,bn4,hw4,by omega⟩ (λ_ _ _ _ _=>trivial) ?_ ?_⟩
   ·rintro i v' σ H5 hi ⟨zs,x6,x7,rfl,bn5,hw5,z90⟩
    obtain⟨hi8,rfl⟩:=Za6 hi
    obtain⟨o5,hp5,ho5⟩:=bn5.pot
    refine⟨_,rfl,_,rfl,p,lw,ws,rfl,Ym lwp,⟨o5,hp5,ho5⟩,hw5,wok,by omega,λx H6 d6 wx _=>?_⟩
    let Hv2:SW:=λσ' H'=>∃(z:Str),σ'=[some (.ref p),some (.ref l),some (.ref la),some (.ref lw),some (.int way),x5,some (.int (0 + (i:Int))),some (.str z)]/\Drawn p H5 H'/\Zo8 z
    refine⟨Hv2,?_,?_⟩
    ·obtain⟨o6,hp6,ho6⟩:=id d6.pot
     refine⟨_,rfl,p,2,o6,rfl,hp6,ho6,by decide,by decide,λu o7 u0 u1 ho7=>⟨rfl,_,rfl,?_⟩⟩
     have d7:Drawn p H5 (upd H6 p o7):=d6.trans (Drawn.upd ho7)
     generalize upd H6 p o7=H7 at d7 ⊢
     exact Zdu (λ_=>⟨_,rfl,p,rfl,d7.pot,λz H8 d8 fz=>⟨z,rfl,d7.trans d8,fz⟩⟩) (λ_=>⟨x,rfl,d7,Zo8.word wx⟩)
    ·rintro σ' H7 ⟨z,rfl,d7,fz⟩
     have bn7:=bn5.draw lap d7
     have hw7:=d7.keep _ _ lwp hw5
     obtain⟨o7,hp7,ho7⟩:=bn7.pot
     refine⟨_,rfl,.inl ⟨rfl,_,SqL.of bn7.at_⟩,_,rfl,_,rfl,la,_,rfl,.inl (SqL.of bn7.at_),_,_,rfl,rfl,p,_,o7,rfl,hp7,ho7,by rw[Ya];omega,by rw[Ya];omega,λj o8 j0 j1 ho8=>?_⟩
     rw[Ya]at j1
     have d8:Drawn p H7 (upd H7 p o8):=Drawn.upd ho8
     generalize upd H7 p o8=H8 at d8 ⊢
     have bn8:=bn7.draw lap d8
     have hw8:=d8.keep _ _ lwp hw7
     refine⟨_,rfl,la,_,j,_,rfl,rfl,bn8.at_,j0,by rw[Ya];omega,Za2 (by rw[Ya];omega),?_⟩
     have e:(zs.map V.str).take j.toNat++V.str z :: (zs.map V.str).drop j.toNat=(zs.take j.toNat++z :: zs.drop j.toNat).map V.str:=by
      rw[Yb1,Yy,List.map_take,List.map_drop]
     rw[e]
     refine⟨zs.take j.toNat++z :: zs.drop j.toNat,_,_,rfl,bn8.set lap λy hy=>?_,by rw[Zab lwa];exact hw8,?_⟩
     ·rcases Yo.mp hy with c | c
      ·exact bn5.fit y (Yc5 c)
      ·rcases Yg1.mp c with c | c
       ·rw[c];exact fz
       ·exact bn5.fit y (Ye5 c)
     ·rw[Yi,Yf1,Yd1,Yq2]
      omega
   ·rintro σ H5 ⟨zs,x6,x7,rfl,bn5,hw5,z90⟩
    exact⟨_,rfl,q la zs H5 bn5 (by rw[Za4]at z90;omega)⟩
def Z4g:(["word","above"]:LS).Nodup:=by rfl'
def Z4c(rows:RS):V->Bool
 | .str x=>decide (x∉rows.map (·.1))
 | _=>false
def Zy8{H:Hp}{rows:RS}{avs:KL}(h:Zb8 H rows rows avs)(x:Str):(Zex avs (Sum.inr x)).isSome=decide (x∈rows.map (·.1)):=by
 have e:avs.map (·.1)=(rows.map (·.1)).map (Sum.inr:Str->Key):=by rw[h.keys,Yy1];rfl
 cases z:Zex avs (Sum.inr x)with
 | some v =>
  refine(Jb ?_).symm
  have:(Sum.inr x:Key)∈avs.map (·.1):=Yx2 λc=>by
   have:=Zb1 c
   rw[z]at this
   cases this
  rw[e]at this
  obtain⟨y,hy,ey⟩:=Ye.mp this
  injection ey with ey
  rw[<- ey]
  exact hy
 | none =>
  refine(Jc λc=>?_).symm
  have:=Zqj z
  rw[e]at this
  exact this (Ye.mpr ⟨x,c,rfl⟩)
def Zpc(rows:RS)(xs:LS):((xs.map V.str).filter (Z4c rows)).map (λv=>v)=(xs.filter λx=>decide (x∉rows.map (·.1))).map V.str:=by
 rw[List.map_id',Yz2]
 rfl
def Z1f{l:LS}(h:Z2x l):W.kqdOk 9 (.list (l.map W.Dat.str))=true:=by
 show(l.map W.Dat.str).all (W.kqdOk 8)=true
 rw[Yr1]
 intro d hd
 obtain⟨x,hx,rfl⟩:=Ye.mp hd
 exact(h x hx).ok
def Zzh:Sp:=λvs H Q _=>∃(door:Nat) (l aa ln lf:Addr) (rows:RS) (avs:KL) (ns:List Nam) (us:LV) (xs:LS) (d:Dt) (v:V) (z:Nat),vs=[.int door,.ref l,.ref aa,.ref ln,.ref lf,v]/\Zeg H l rows/\Zdr rows/\H aa=some (.dK avs)/\Zb8 H rows rows avs/\H ln=some (.lst us)/\Zge H ns us/\Zbo rows ns/\H lf=some (.lst (xs.map V.str))/\Z2x xs/\xs.length<=100/\TmV H d v/\Wf d/\lvl z [d]=[]/\Zc7 z [d]<=1000 /\
 ∀ a H',Zaj H H'->H' a=some (.tup (duV (Zc1 door rows ns xs d)))->Q (.ref a) H'
abbrev nDu:LS:=["door","rows","above","names","filling","term","strange","many","word"]
abbrev pDu:LS:=["door","rows","above","names","filling","term"]
def Z7w:Zak nDu pDu (Zad Zf8):=by nofun
def Z8z(sp:RS->Sp):Sp:=λvs H Q E=>∃ rows,Zdr rows/\sp rows vs H Q E
def Z41{P:Program}{w:World}{K:Fg}{mg:Str->OU}{base:Heap}{k:Nat}{ps:LS}{sp:RS->Sp}(h:∀ rows,Zdr rows->⋯ k f fd ps (sp rows)):⋯ k f fd ps (Z8z sp):=
 ⟨λvs H Q E ⟨r,g,z⟩=>(h r g).len vs H Q E z,λA outer s H args us vs Q E hr he hb hv ⟨r,g,z⟩=>(h r g).run A outer s H args us vs Q E hr he hb hv z⟩
def Z1h(F:Def K mg "_law_due" Zf8 pDu f fd)(len:mg "len"=none)(DLI:Def K mg "_law_is_term" Zd8 Z33 fLI fdLI)(GLI:∀ rows,⋯ 2 fLI fdLI Z33 (Z3i rows))(DB:Def K mg "_law_below" Zdg nLB fB fdB):⋯ 3 f fd pDu Zzh:=by
 have GB:⋯ 1 fB fdB nLB Zlu:=Zny DB
 have GLI:=Z41 (λrows _=>GLI rows)
 nomatch F.fn.ok Z7w
 ·obtain⟨door,l,aa,ln,lf,rows,avs,ns,us,xs,d,v,z,rfl,_⟩:=h
  rfl
 ·obtain⟨door,l,aa,ln,lf,rows,avs,ns,us,xs,d,v,z,rfl,hR,g,haa,hA,hln,hN,gn,hlf,fx,x100,hv,wf,hz,hc,q⟩:=h
  have nd:=Z7w.nd
  have hu:=hr.units
  have hu1:=Zf1 hr
  have hr1:Zcb 1 _:=hr.mono (by decide)
  have gle:=g.le
  ac_nf
  refine'⟨_,(pS (Zaz (Zal Zih (Zam Zan (by rfl) len Yr (pC (pv 4) Zaa)) Zae (Zaq _)) (Zac (Zao (Zbi (pC Zca (pC Zhx Zaa))))) Zai)
   (pS ?eS
   (pS (Zaz (Zal (Zlb hu) (pv 6) (Zbj Zaa) (Zaq _)) (Zac (Zao (Zbi (pC Zca (pC (Za3 (r:=Ziu K) Zay (pv 6) Zae (λ_ _=>rfl)) Zaa))))) Zai)
   (Zc3 (Zaz (PW.pt (Zia (Zal Zih (pv 0) Zae (Zaq _)) (Zgp (Zdh (Zcm (Zaf DLI GLI hr (pC (pv 3) (pC (Zam Zan (by rfl) len Yr (pC (pv 4) Zaa)) (pC (pv 5) Zaa))))))))) (Zac (Zao (Zbi (pC Zca (pC Zhx Zaa))))) Zai)
   (pS (sE 7 nd Zae)
   (pS (Zbc Yk rfl (Zbb (pv 4)) (gE 8 nd) (Zac (sE 7 nd (Za0 Zig (pv 7) (Zam Zan (by rfl) len Yr (pC (Zaf DB GB hr1 (pC (pv 1) (pC (pv 2) (pC (pv 8) Zaa)))) Zaa))))))
   (pS (Zaz (PW.pt (Zia (Zal Zds (pv 0) Zae (Zaq _)) (Zgp (Zal Zih (pv 7) Zae (Zaq _))))) (Zac (Zao (Zbi (pC Zca (pC Zhx Zaa))))) Zai)
   (Zac (Zao (Zbi (pC Zca (pC Zhx Zaa)))))))))))),?_⟩
  case eS=>exact(Zcz (k:=6) ["word"] ["above"] [2] nd rfl rfl (λ_=>Za1 (osc:=Zad Zf8) (on:=nDu) (by rfl') rfl rfl rfl) (Zbb (pv 4)) (λC s H fp=>Zah (i:=0) Z4g rfl (Or.inl rfl) (Or.inr rfl)) (λC s H fp=>Zek (Zf9 (Zg6 hu1 (pv 0) (pv 1)))) (λC s H fp=>pv 0))
  exists let b:=Zar _ a;let c:=_;let e:=Zar (Zgf _ _ c) b;let f:=Zar _ e;let g:=Zqn _ f;let h:=_;let i:=Zar (Zhf _ h _) g;let j:=Zar _ i;Zar _ j _ _ _
  refine⟨_,rfl,lf,_,rfl,.inl (SqL.of hlf),_,_,rfl,rfl,_,rfl,?_⟩
  rw[Ya]
  by_cases big:12<xs.length
  ·have e:Zc1 door rows ns xs d=some .many:=by unfold Zc1 Zgd;rw[if_pos big]
   rw[Jb (show(12:Int)<((xs.length:Nat):Int) by omega)]
   exact Zfe ⟨sL (by show 2<=100000;decide),λa ha=>q a _ (Za9 ha) (by rw[e];exact uS)⟩
  rw[Jc (by omega)]
  refine Zcu ⟨_,rfl,lf,rfl,⟨_,SqL.of hlf⟩,Zda (Zav (xs:=xs.map V.str)) (sL (by rw[Ya];omega)) (Z4c rows) (λv=>v) (λD ys hD=>SqL.of (by rw[Zab (nNo hlf hD)];exact hlf)) ?_ ?_ ?_⟩
  ·intro D ys v' R hD hv' hR'
   obtain⟨y,hy,rfl⟩:=Ye.mp hv'
   have kp:∀ b o,H b=some o->(upd H D (.lst ys)) b=some o:=λb o e=>by rw[Zab (nNo e hD)];exact e
   refine⟨_,rfl,_,rfl,aa,_,rfl,Zgg.k (k:=Sum.inr y) (kp _ _ haa),_,rfl,?_⟩
   rw[Zy8 hA y,<- decide_not]
   exact hR'
  ·intro D ys v' R hD hv' _ hR'
   exact⟨_,rfl,hR'⟩
  intro ls hls
  rw[Zpc]
  have s1:Zaj H (upd H ls (.lst ((xs.filter λx=>decide (x∉rows.map (·.1))).map V.str))):=Za9 hls
  have h1:(upd H ls (.lst ((xs.filter λx=>decide (x∉rows.map (·.1))).map V.str))) ls=some (.lst ((xs.filter λx=>decide (x∉rows.map (·.1))).map V.str)):=uS
  have fD:Zgd rows xs=(xs.filter λx=>decide (x∉rows.map (·.1))).head?.map Du.noK:=by
   unfold Zgd
   rw[if_neg big,List.head?_filter]
  have fy:Z2x (xs.filter λx=>decide (x∉rows.map (·.1))):=λy hy=>fx y (Yj2.mp hy).1
  generalize upd H ls (.lst ((xs.filter λx=>decide (x∉rows.map (·.1))).map V.str))=H1 at s1 h1 ⊢
  generalize(xs.filter λx=>decide (x∉rows.map (·.1)))=ys at h1 fD fy
  refine⟨_,rfl,Yv _,λle hle=>?_⟩
  have s2:Zaj H1 (upd H1 le (.lst [])):=Za9 hle
  have h2:(upd H1 le (.lst [])) le=some (.lst []):=uS
  generalize upd H1 le (.lst [])=H2 at s2 h2 ⊢
  have s02:=s1.trans s2
  refine⟨.list (ys.map W.Dat.str),.list [],.list (SqL.of (s2 _ _ h1)) (Ze7 ys),.list (SqL.of h2) .nil,Z1f fy,by decide,_,rfl,?_⟩
  cases ys with
  | cons y r =>
   rw[Zkm (by simp)]
   have e:Zc1 door rows ns xs d=some (.noK y):=by unfold Zc1;rw[fD];rfl
   exact Zfe ⟨_,rfl,ls,_,_,_,rfl,rfl,SqL.of (s2 _ _ h1),at0 _ _,sL (by show 2<=100000;decide),λa ha=>q a _ (s02.trans (Za9 ha)) (by rw[e];exact uS)⟩
  | nil =>
   rw[show W.Dat.list (([]:LS).map W.Dat.str)=.list []from rfl,Zhs]
   have fD:Zgd rows xs=none:=fD
   obtain⟨x12,kx⟩:=Zez fD
   refine Zcu ⟨(λσ' H'=>∃ x7 x8:OV,σ'=[some (.int door),some (.ref l),some (.ref aa),some (.ref ln),some (.ref lf),some v,some (.ref ls),x7,x8]/\Zaj H H'/\¬ (0<door/\Zeo ns xs.length d=false)),?_,?_⟩
   ·refine⟨_,rfl,_,_,rfl,rfl,_,rfl,Zdu (λz1=>?_) (λz1=>⟨none,none,rfl,s02,λc=>z1 (Jb (show(0:Int)<(door:Int) by have:=c.1;omega))⟩)⟩
    have z1:(0:Int)<(door:Int):=Je z1
    refine⟨_,rfl,_,rfl,lf,_,rfl,.inl (SqL.of (s02 _ _ hlf)),_,rfl,rows,g,ln,xs.length,z,ns,us,d,v,by rw[Ya];rfl,s02 _ _ hln,hN.mono (Zbs s02),gn,hv.keep (Zbs s02),wf,hz,hc,λH3 s3=>⟨_,rfl,?_⟩⟩
    cases ht:Zeo ns xs.length d with
    | true=>exact Zcu ⟨none,none,rfl,s02.trans s3,λc=>by cases c.2⟩
    | false =>
     have e:Zc1 door rows ns xs d=some .noT:=by
      unfold Zc1
      rw[fD]
      exact if_pos ⟨by omega,ht⟩
     exact Zfe ⟨sL (by show 2<=100000;decide),λa ha=>q a _ ((s02.trans s3).trans (Za9 ha)) (by rw[e];exact uS)⟩
   ·rintro σ' H3 ⟨x7,x8,rfl,s3,nt⟩
    have eD:Zc1 door rows ns xs d=if door=2/\512<(Zbp (xs.map (Zd2 rows))).length then some .many else none:=by
     unfold Zc1
     rw[fD]
     exact if_neg nt
    let Iv1:NW:=λi σ H'=>∃ x8:OV,σ=[some (.int door),some (.ref l),some (.ref aa),some (.ref ln),some (.ref lf),some v,some (.ref ls),some (.int ((Zbp ((xs.map (Zd2 rows)).take i)).length:Nat)),x8]/\Zaj H H'
    refine⟨_,rfl,lf,rfl,⟨_,SqL.of (s3 _ _ hlf)⟩,Zat (Zav (xs:=xs.map V.str)) Iv1
     ⟨x8,by rw[Ym1];rfl,s3⟩ (λi σ H' _ ⟨_,_,s⟩=>SqL.of (s _ _ hlf)) ?_ ?_⟩
    ·rintro i v' σ H4 hi ⟨x8',rfl,s4⟩
     rw[Yp]at hi
     obtain⟨y,hy,rfl⟩:=Yk1.mp hi
     refine⟨_,rfl,_,rfl,_,rfl,_,rfl,l,aa,rows,avs,y,rfl,Zbn hR s4,g,s4 _ _ haa,hA.mono (λb xs e=>s4 _ _ e),λlb hlb=>?_⟩
     have lw:=Zmn rows y
     refine⟨lb,_,rfl,.inl (SqL.of uS),_,_,rfl,rfl,.inr ⟨by rw[Ya];omega,by rw[Ya];omega⟩,some (.str y),?_,s4.trans (Za9 hlb)⟩
     show[_,_,_,_,_,_,_,some (V.int ((((Zbp ((xs.map (Zd2 rows)).take i)).length:Nat):Int) * ((((Zd2 rows y).map V.str).length:Nat):Int))),_]=_
     rw[Ya,<- Yd5,Yt,Yp,hy]
     show _=[_,_,_,_,_,_,_,some (V.int (((Zbp ((xs.map (Zd2 rows)).take i++[Zd2 rows y])).length:Nat):Int)),_]
     rw[Zd0,Zey]
    ·rintro σ H4 ⟨x8',rfl,s4⟩
     rw[Ya,<- Ya (Zd2 rows),Ye1]
     have e1:decide (V.int (door:Int)=V.int 2)=decide (door=2):=decide_eq_decide.mpr ⟨λz=>by injection z with z;omega,λz=>by rw[z];rfl⟩
     refine⟨_,rfl,rfl,_,rfl,Zdu (λz2=>?_) (λz2=>?_)⟩
     ·rw[e1]at z2
      have z2:=Je z2
      refine⟨_,rfl,_,_,rfl,rfl,_,rfl,Zdu (λz3=>?_) (λz3=>?_)⟩
      ·have z3:(512:Int)<(((Zbp (xs.map (Zd2 rows))).length:Nat):Int):=Je z3
       rw[if_pos ⟨z2,by omega⟩]at eD
       exact⟨sL (by show 2<=100000;decide),λa ha=>q a _ (s4.trans (Za9 ha)) (by rw[eD];exact uS)⟩
      ·rw[if_neg (λc=>z3 (Jb (show(512:Int)<(((Zbp (xs.map (Zd2 rows))).length:Nat):Int) by have:=c.2;omega)))]at eD
       exact⟨sL (by show 2<=100000;decide),λa ha=>q a _ (s4.trans (Za9 ha)) (by rw[eD];exact uS)⟩
     ·rw[e1]at z2
      rw[if_neg (λc=>z2 (Jb c.1))]at eD
      exact⟨sL (by show 2<=100000;decide),λa ha=>q a _ (s4.trans (Za9 ha)) (by rw[eD];exact uS)⟩
def Z1r{K:Fg}{C B D:Addr}{Hx:Hp}{pb db k l:Addr}{rows:RS}{ns:List Nam}{R:Hp->Prop}{E:XK}(nb:Hx pb=none)(ndb:Hx db=none)(kd:Zbk C Hx k rows)(g:Zdr rows)(hN:Zw1 K Hx l ns)(gn:Zbo rows ns)(h:∀ H',Zaj Hx H'->Zen C B D H' pb k rows ns->R H'):
  Zpd K C B D [.ref pb,.ref k,.ref l] (upd (upd Hx db (.own pb)) pb (.ins D db [])) (λv H3=>v=.non/\R H3) E:=by
 have s34:Zaj Hx (upd (upd Hx db (.own pb)) pb (.ins D db [])):=λb o e=>by
  have e1:(upd Hx db (.own pb)) b=some o:=by rw[Zab (nNo e ndb)];exact e
  rw[Zab (nNo e nb)];exact e1
 obtain⟨b,vs,hl,hp⟩:=hN
 exact⟨pb,db,k,l,rows,ns,rfl,uS,kd.mono s34,g,⟨b,vs,hl.mono s34,Paired.mapP hp λ_ _ z=>z.mono s34⟩,gn,λH4 bk keep=>⟨rfl,h H4 (λb o e=>keep b o (nNo e nb) (s34 _ _ e)) bk.at_⟩⟩
def Z2j(h:Dt):∀ k,Zc7 k [.tuple [h]]<=1
 | 0=>by rw[Zb4];omega
 | k + 1=>by rw[Zgu,Zcg];show 1 + Zc7 k []<=1;rw[Zhc];exact Yd _
def duD:Option Du->Dt
 | none=>.tuple [.str "none",.none]
 | some .many=>.tuple [.str "TooMany",.none]
 | some (.noK w)=>.tuple [.str "NoKind",.str w]
 | some .noT=>.tuple [.str "NoTerm",.none]
def Zz8{K:Fg}{H:Hp}{a:Addr}:∀ {o:Option Du},H a=some (.tup (duV o))->Rep K H (.ref a) (duD o)
 | none,h=>.tuple (SqT.of h) (.cons (.str _) (.cons .none .nil))
 | some .many,h=>.tuple (SqT.of h) (.cons (.str _) (.cons .none .nil))
 | some (.noK w),h=>.tuple (SqT.of h) (.cons (.str _) (.cons (.str _) .nil))
 | some .noT,h=>.tuple (SqT.of h) (.cons (.str _) (.cons .none .nil))
def Z6x:∀ {o:Option Du},(∀ w,o=some (.noK w)->PyData.strOk w=true)->W.kqdOk 9 (duD o)=true
 | none,_=>by rfl'
 | some .many,_=>by rfl'
 | some (.noK w),h=>by
  show(W.kqdOk 8 (.str "NoKind")&&(W.kqdOk 8 (.str w)&&true))=true
  rw[show W.kqdOk 8 (.str "NoKind")=true by rfl',show W.kqdOk 8 (.str w)=true from h w rfl]
  rfl
 | some .noT,_=>by rfl'
def Zy0{j:Nat}{rows:RS}{ns:List Nam}{xs:LS}{d:Dt}{w:Str}(h:Zc1 j rows ns xs d=some (.noK w)):w∈xs:=by
 unfold Zc1 at h
 cases hf:Zgd rows xs with
 | some e =>
  rw[hf]at h
  have e1:=Yq h
  rw[e1]at hf
  unfold Zgd at hf
  by_cases z:12<xs.length
  ·rw[if_pos z]at hf;cases hf
  ·rw[if_neg z]at hf
   obtain⟨y,hy,ey⟩:=Yk1.mp hf
   injection ey with ey
   rw[<- ey]
   exact Yo3 hy
 | none =>
  rw[hf]at h
  simp only at h
  by_cases z:0<j/\Zeo ns xs.length d=false
  ·rw[if_pos z]at h;cases h
  ·rw[if_neg z]at h
   by_cases z2:j=2/\512<(Zbp (xs.map (Zd2 rows))).length
   ·rw[if_pos z2]at h;cases h
   ·rw[if_neg z2]at h;cases h
def rLn(K:Fg):LV->Hp->VK->Prop:=λxs H Q=>∃ p ys,xs=[V.ref p]/\(SqL K H p ys\/SqT K H p ys)/\Q (.int ((ys.length:Nat):Int)) H
def Z4j:(["row","above","rows"]:LS).Nodup:=by rfl'
def Zxd(K:Fg):Sp:=λvs H Q _=>∃(a:Addr) (ns:List Int),vs=[.ref a]/\SqL K H a (ns.map V.int)/\ns.length<=63/\∀ H',Q (.bl true) H'
structure Z62(mg:Str->OU):Prop where
 tuple:mg "tuple"=none
 max:mg "max"=none
 len:mg "len"=none
 range:mg "range"=none
abbrev Z8d:LS:=["script","pot","rows","above","names","book","k","filling","term","twos","given","door"]
def Z3o:Zak Z8d ["script"] (Zad Zxf):=by nofun
set_option maxHeartbeats 16000000 in
def Z4b(F:Def K mg "law" Zxf ["script"] f fd)(T:Z62 mg)
  (M:Mk K C fI) (mgC:mg "Kinds"=some (.ref C)) (bI:Zeh K fdI ["self","rows"] []) (GI:⋯ 4 fI fdI ["self","rows"] (Ztz K C))
  (MD:Mk K D fKI) (mgD:mg "Book"=some (.ref D)) (bD:Zeh K fdKI pKI []) (GD:⋯ 6 fKI fdKI pKI (Zpd K C B D))
  (DP:Def K mg "_law_pot" Zf7 ["script","k"] fP fdP) (GP:⋯ 1 fP fdP ["script","k"] (Z0n K)) (DT:Def K mg "_law_take" Za5 ["pot","many"] fT fdT) (GT:⋯ 1 fT fdT ["pot","many"] Zfg)
  (DR:Def K mg "_law_rows" Zdy ["pot","most"] fR fdR) (GR:⋯ 4 fR fdR ["pot","most"] Ztv) (DA:Def K mg "_law_above" Zfm ["rows"] fA fdA) (GA:⋯ 1 fA fdA ["rows"] Zqt)
  (DN:Def K mg "_law_names" Zfl pNs fN fdN) (GN:⋯ 4 fN fdN pNs (Zty K)) (DF:Def K mg "_law_filling" Zc8 pFi fF fdF) (GF:⋯ 2 fF fdF pFi Zzg)
  (DTm:Def K mg "_law_term" Zdx pTm fTm fdTm) (GTm:∀ rows,Zdr rows->⋯ 5 fTm fdTm pTm (Zzd rows 3)) (DBe:Def K mg "_law_bent" Ze6 pBe fBe fdBe) (GBe:⋯ 3 fBe fdBe pBe Zt5)
  (DLB:Def K mg "_law_below" Zdg nLB fLB fdLB) (GLB:⋯ 1 fLB fdLB nLB Zlu) (DDh:Def K mg "_law_door_heard" Zcx pDh fDh fdDh) (GDh:⋯ 24 fDh fdDh pDh (Zzi K C B D))
  (DDu:Def K mg "_law_due" Zf8 pDu fDu fdDu) (GDu:⋯ 3 fDu fdDu pDu Zzh):
  ⋯ 25 f fd ["script"] (Zxd K):=by
 have GTm:=Z41 GTm
 nomatch F.fn.ok Z3o
 ·obtain⟨a,ns,rfl,_⟩:=h
  rfl
 ·obtain⟨a,ns,rfl,hS,hlen,q⟩:=h
  have nd:=Z3o.nd
  have hu:=hr.units
  have hr1:Zcb 1 _:=hr.mono (by decide)
  have hr2:Zcb 2 _:=hr.mono (by decide)
  have hr3:Zcb 3 _:=hr.mono (by decide)
  have hr4:Zcb 4 _:=hr.mono (by decide)
  have hr5:Zcb 5 _:=hr.mono (by decide)
  have hr6:Zcb 7 _:=hr.mono (by decide)
  ac_nf
  refine'⟨_,(pS (sE 1 nd (Zaf DP GP hr1 (pC (pv 0) (pC Zae Zaa))))
   (pS (Zag (i:=2) nd rfl (Or.inr rfl) (Zaf DR GR hr4 (pC (pv 1) (pC Zae Zaa))))
   (pS (Zag (i:=3) nd rfl (Or.inr rfl) (Zaf DA GA hr1 (pC (pv 2) Zaa)))
   (pS (sE 4 nd (Zaf DN GN hr4 (pC (pv 0) (pC Zae (pC (pv 2) (pC (pv 3) (pC Zae (pC Zae (pC Zae Zaa)))))))))
   (pS (sE 5 nd (Zpl MD GD hr6 rfl mgD bD .nil Zdn (pC (Zpl M GI hr5 rfl mgC bI .nil Zdn (pC (pv 2) Zaa)) (pC (pv 4) Zaa))))
   (pS (Zbc Yk rfl (Zun (by rfl) T.range (pC Zae (pC Zae Zaa))) (gE 6 nd)
    (pS (sE 1 nd (Zaf DP GP hr1 (pC (pv 0) (pC (pv 6) Zaa))))
   (pS (sE 7 nd (Zaf DBe GBe hr3 (pC (pv 1) (pC (pv 2) (pC (Zdm (r:=Z6b K) Zpi (Zaf DF GF hr2 (pC (pv 1) (pC (pv 2) (pC (pv 4) (pC Zae Zaa))))) (Ze9 (Zaf DT GT hr1 (pC (pv 1) (pC Zae Zaa)))) Zfa) Zaa)))))
   (pS (sE 8 nd (Zaf DTm GTm hr5 (pC (pv 1) (pC (pv 4) (pC (Zam (Zwm rfl) (by rfl) T.max PyProof.Rows.boot_max (pC Zae (pC (Zam Zan (by rfl) T.len Yr (pC (pv 7) Zaa)) Zaa))) (pC (Zbj (pC (Za0 Zbz Zae (Zaf DT GT hr1 (pC (pv 1) (pC Zae Zaa)))) Zaa)) (pC Zae Zaa)))))))
   (Zc3 (Zaz (Zal Zds (Zaf DT GT hr1 (pC (pv 1) (pC Zae Zaa))) Zae (Zaq _)) (Zac (sE 8 nd (Za3 (r:=Zhv K) Zbr (Zbi (pC (Zam Zan (by rfl) T.len Yr (pC (pv 7) Zaa)) (pC (Z6i Z25 Zae) (pC (Zbi Zaa) (pC Zca (pC (Zbi (pC Zca Zaa)) (pC (Zbi (pC Zae (pC Zae Zaa))) Zaa))))))) (Zaf DT GT hr1 (pC (pv 1) (pC Zae Zaa))) (λ_ _=>rfl)))) Zai)
   (pS ?eT
   (Zc3 (Zaz (PW.pt (Zia (Zal (Zlb hu) (pv 9) (Zbj Zaa) (Zaq _)) (Zgp (Zal Zds (Zaf DT GT hr1 (pC (pv 1) (pC Zae Zaa))) Zae (Zaq _))))) (Zac (sE 7 nd (Za0 Zzw (Zdm (r:=Z6b K) Zpi (pv 9) Zfa (Ze9 Zae)) (Za0 Zbz Zae (Zaf DT GT hr1 (pC (pv 1) (pC Zae Zaa))))))) Zai)
   (pS (sE 10 nd (pv 7))
   (Zc3 (Zaz (Zal Zds (Zaf DT GT hr1 (pC (pv 1) (pC Zae Zaa))) Zae (Zaq _)) (Zac (sE 10 nd (Zbd Zbg (by rfl) T.tuple Yh1 (pC (pv 7) Zaa)))) Zai)
   (Zac (Zbc Yk rfl (Zbv (by rfl) T.range (pC Zae Zaa)) (gE 11 nd) (Zac (Zaz (Zal (Zlb hu) (Zaf DDh GDh hr (pC (pv 11) (pC (pv 5) (pC (pv 10) (pC (pv 8) Zaa))))) (Zaf DDu GDu hr3 (pC (pv 11) (pC (pv 2) (pC (pv 3) (pC (pv 4) (pC (pv 7) (pC (pv 8) Zaa))))))) (Zaq _)) (Zac (Zao Zht)) Zai)))))))))))))
   (Zac (Zao Zht)))))))),?_⟩
  case eT=>exact(Zcz (k:=9) ["row"] ["above","rows"] [3,2] nd rfl rfl (λ_=>Za1 (osc:=Zad Zxf) (on:=Z8d) (by rfl') rfl rfl rfl) (Zbb (pv 2)) (λC s H fp=>Zah (i:=0) Z4j rfl (Or.inl rfl) (Or.inr rfl)) (λC s H fp=>Zek (Zal Zds (Zam (r:=rLn K) Zan (by rfl) T.len Yr (pC (Zaf DLB GLB hr1 (pC (pv 2) (pC (pv 1) (pC (Za3 (r:=Zhv K) Zbr (pv 0) Zae (λ_ _=>rfl)) Zaa)))) Zaa)) Zae (Zaq _))) (λC s H fp=>Za3 (r:=Zhv K) Zbr (pv 0) Zae (λ_ _=>rfl)))
  exists let b:=_;let c:=Zgf _ _ b;let e:=_;let f:=Zqn (Zhf _ e _) c;let g:=Zar _ f;let h:=_;let i:=Zqn (Zhf _ h _) g;let j:=Zar _ i;let k:=_;let l:=Zqn (Zhf _ k _) j;let m:=Zar _ l;let n:=Zar _ m;let o:=Zar _ n;let p:=Zar (Zgf _ _ o) a;let q:=Zar _ p;let r:=Zar _ q;let s:=Zar _ r;let t:=Zar _ s;Zar _ t _ _ _
  refine⟨_,rfl,a,0,ns,rfl,hS,by omega,by decide,by decide,λp o hp ho=>?_⟩
  have s1:Zaj H (upd H p o):=Za9 hp
  have hp1:(upd H p o) p=some o:=uS
  generalize upd H p o=H1 at s1 hp1
  refine⟨_,rfl,p,8,rfl,⟨o,hp1,ho⟩,by decide,by decide,λl rows H3 d13 hl hR3 g r8=>?_⟩
  have s03:Zaj H H3:=λb u e=>d13.keep _ _ (nNo e hp) (s1 _ _ e)
  refine⟨_,rfl,l,rows,rfl,hR3,g,λaa avs H4 s34 haa hA=>?_⟩
  have s04:=s03.trans s34
  have hR4:=Zbn hR3 s34
  refine⟨_,rfl,_,rfl,_,rfl,a,l,aa,1,4,4,4096,ns,rows,avs,rfl,s04.seq hS,by omega,by decide,hR4,g,haa,hA,by decide,by decide,by decide,λln nms us H5 s45 hln hln5 hN5 nm5 nl=>?_⟩
  have gn:Zbo rows nms:=⟨by omega,nm5.each,nm5.nd⟩
  have hR5:=Zbn hR4 s45
  refine⟨_,rfl,?_⟩
  intro xb dxb nx ndx nex
  refine Zyc nx ndx hR5 g λH6 s56 kd6=>?_
  refine⟨_,rfl,?_⟩
  intro pb db nb ndb neb
  refine Z1r nb ndb kd6 g ⟨true,us,SqL.of (s56 _ _ hln5),Paired.mapP (hN5.mono (Zbs s56)) λn v h=>h.v⟩ gn λH7 s67 bk=>?_
  have s57:=s56.trans s67
  have s07:=(s04.trans s45).trans s57
  have hln7:=s57 _ _ hln5
  have hN7:=hN5.mono (Zbs s57)
  have hR7:=Zbn hR5 s57
  have haa7:=s57 _ _ (s45 _ _ haa)
  have hA7:Zb8 H7 rows rows avs:=hA.mono λb xs e=>s57 _ _ (s45 _ _ e)
  let Iv1:NW:=λi σ H'=>∃ x1 x6 x7 x8 x9 x10 x11:OV,σ=[some (.ref a),x1,some (.ref l),some (.ref aa),some (.ref ln),some (.ref pb),x6,x7,x8,x9,x10,x11]/\Zaj H7 H'
  refine⟨10,15,rfl,⟨by decide,by decide,by decide,by decide⟩,Zat Zbm Iv1
   ⟨some (.ref p),none,none,none,none,none,none,rfl,Zaj.refl _⟩ (λ_ _ _ _ _=>trivial) ?_ ?_⟩
  ·rintro i v' σ H12 hi ⟨x1,x6,x7,x8,x9,x10,x11,rfl,s12⟩
   obtain⟨hi5,rfl⟩:=Za6 hi
   have hi5:i<5:=hi5
   refine⟨_,rfl,_,rfl,a,(10 + (i:Int)),ns,rfl,(s07.trans s12).seq hS,by omega,by omega,by omega,λpk ok hpk hok=>?_⟩
   have s13:Zaj H12 (upd H12 pk ok):=Za9 hpk
   have hpk13:(upd H12 pk ok) pk=some ok:=uS
   generalize upd H12 pk ok=H13 at s13 hpk13
   have s713:=s12.trans s13
   have hR12:=Zbn hR7 s12
   refine⟨_,rfl,_,rfl,_,rfl,_,rfl,_,rfl,pk,l,ln,12,rows,nms,us,rfl,⟨ok,hpk13,hok⟩,Zbn hR7 s713,g,s713 _ _ hln7,hN7.mono (Zbs s713),gn,by decide,by decide,λlf xs H14 hlf d14 hf14 kx xe1 xe12=>?_⟩
   obtain⟨o14,hp14,ho14⟩:=id d14.pot
   refine⟨_,rfl,pk,2,o14,rfl,hp14,ho14,by decide,by decide,λvc o15 c0 c1 ho15=>⟨vc,rfl,?_⟩⟩
   obtain⟨c,rfl⟩:=Yp4 c0
   have d15:Drawn pk H13 (upd H14 pk o15):=d14.trans (Drawn.upd ho15)
   have lfp:lf≠pk:=λz=>by rw[z,hpk13]at hlf;cases hlf
   have hf15:(upd H14 pk o15) lf=some (.lst (xs.map V.str)):=by rw[Zab lfp];exact hf14
   have hp15:(upd H14 pk o15) pk=some o15:=uS
   generalize upd H14 pk o15=H15 at d15 hf15 hp15
   have s1215:Zaj H12 H15:=λb u e=>d15.keep _ _ (nNo e hpk) (s13 _ _ e)
   unfold Zg1
   refine⟨lf,_,rfl,SqL.of hf15,λlc hlc=>?_⟩
   rw[Z47,<- List.map_drop]
   have s16:Zaj H15 (upd H15 lc (.lst ((xs.drop c).map V.str))):=Za9 hlc
   have hc16:(upd H15 lc (.lst ((xs.drop c).map V.str))) lc=some (.lst ((xs.drop c).map V.str)):=uS
   generalize upd H15 lc (.lst ((xs.drop c).map V.str))=H16 at s16 hc16
   have s1216:=s1215.trans s16
   have hp16:=s16 _ _ hp15
   have lcp:pk≠lc:=λz=>by rw[<- z,hp15]at hlc;cases hlc
   have nlc:H12 lc=none:=s1215.free hlc
   have lcl:lc≠l:=λz=>by
    obtain⟨vs,hvs,_⟩:=hR12
    rw[z,hvs]at nlc;cases nlc
   refine⟨pk,l,lc,rows,xs.drop c,rfl,⟨o15,hp16,ho15⟩,lcp,lcl,Zbn hR12 s1216,g,hc16,λy hy=>Zo8.word ?_,by rw[Yq2];omega,λla ys H17 bn yle=>?_⟩
   ·obtain⟨r,hr',e⟩:=Ye.mp (kx y (Ye5 hy))
    rw[<- e];exact g.word r hr'
   have s1217:Zaj H12 H17:=λb u e=>bn.keep _ _ (nNo e hpk) (nNo e nlc) (s1216 _ _ e)
   obtain⟨o17,hp17,ho17⟩:=bn.pot
   have lap:la≠pk:=bn.ne lcp hp16
   have nla:H12 la=none:=by
    rcases bn.old with e | e
    ·rw[e];exact nlc
    ·exact s1216.free e
   have hla17:=bn.at_
   have fy:=bn.fit
   clear bn
   have s717:=s12.trans s1217
   obtain⟨mx,emx,mx1,mx100⟩:∃ mx:Nat,(if((ys.map V.str).length:Int) > 1 then((ys.map V.str).length:Int)else 1)=(mx:Int)/\1<=mx/\mx<=100:=by
    rw[Ya]
    by_cases h:(ys.length:Int) > 1
    ·rw[if_pos h];exact⟨ys.length,rfl,by omega,by omega⟩
    ·rw[if_neg h];exact⟨1,rfl,by decide,by decide⟩
   refine⟨_,rfl,_,rfl,_,rfl,la,_,rfl,.inl (SqL.of hla17),_,_,rfl,_,rfl,pk,5,o17,rfl,hp17,ho17,by decide,by decide,λvr o18 r0 r1 ho18=>⟨_,_,rfl,rfl,sL (by show 1<=100000;decide),λr hr'=>?_⟩⟩
   have s1218:Zaj H12 (upd H17 pk o18):=λb u e=>by rw[Zab (nNo e hpk)];exact s1217 _ _ e
   have hp18:(upd H17 pk o18) pk=some o18:=uS
   have hla18:(upd H17 pk o18) la=some (.lst (ys.map V.str)):=by rw[Zab lap];exact hla17
   generalize upd H17 pk o18=H18 at s1218 hp18 hla18 hr'
   obtain⟨ρ,eρ⟩:∃ ρ:Nat,(1:Int) + vr=(ρ:Int):=⟨(1 + vr).toNat,by omega⟩
   have s19:Zaj H18 (upd H18 r (.lst [.int (1 + vr)])):=Za9 hr'
   have hr19:(upd H18 r (.lst [.int (1 + vr)])) r=some (.lst [.int (1 + vr)]):=uS
   generalize upd H18 r (.lst [.int (1 + vr)])=H19 at s19 hr19
   rw[eρ]at hr19
   have s1219:=s1218.trans s19
   have s719:=s12.trans s1219
   have pkr:pk≠r:=nNo hp18 hr'
   have lar:la≠r:=nNo hla18 hr'
   have nr:H12 r=none:=s1218.free hr'
   refine⟨rows,g,pk,ln,r,mx,ρ,3,nms,us,by rw[<- emx];rfl,by decide,by decide,⟨o18,s19 _ _ hp18,ho18⟩,hr19,pkr,s719 _ _ hln7,hN7.mono (Zbs s719),gn,mx1,mx100,by omega,λv d ρ' H20 st hv dr cn=>?_⟩
   have s1220:Zaj H12 H20:=λb u e=>st.keep _ _ (nNo e hpk) (nNo e nr) (s1219 _ _ e)
   have hla20:=st.keep _ _ lap lar (s19 _ _ hla18)
   obtain⟨o20,hp20,ho20⟩:=st.pot
   let Hv1:SW:=λσ' H'=>∃(v:V) (d:Dt),σ'=[some (.ref a),some (.ref pk),some (.ref l),some (.ref aa),some (.ref ln),some (.ref pb),some (.int (10 + (i:Int))),some (.ref la),some v,x9,x10,x11]/\Zaj H12 H'/\(∃ o,H' pk=some o/\Zh2 o)/\H' la=some (.lst (ys.map V.str))/\TmV H' d v/\WfL [d]/\∀ k,Zc7 k [d]<=100
   refine⟨Hv1,?_,?_⟩
   ·refine⟨_,rfl,pk,3,o20,rfl,hp20,ho20,by decide,by decide,λu o21 u0 u1 ho21=>⟨rfl,_,rfl,?_⟩⟩
    have d21:Drawn pk H20 (upd H20 pk o21):=Drawn.upd ho21
    have hp21:(upd H20 pk o21) pk=some o21:=uS
    generalize upd H20 pk o21=H21 at d21 hp21
    have s1221:Zaj H12 H21:=λb u e=>d21.keep _ _ (nNo e hpk) (s1220 _ _ e)
    have hla21:=d21.keep _ _ lap hla20
    refine Zdu (λ_=>?_) (λ_=>⟨v,d,rfl,s1221,⟨o21,hp21,ho21⟩,hla21,hv.keep λb xs e=>Drawn.tup d21 hp20 ho20 e,Z6z dr,λk=>by have:=cn k;omega⟩)
    refine⟨_,rfl,la,_,rfl,.inl (SqL.of hla21),_,rfl,Yv _,λta hta=>⟨sL (by show 1<=100000;decide),λtb htb=>⟨sL (by show 2<=100000;decide),λtc htc=>⟨sL (by show 6<=100000;decide),λt ht=>?_⟩⟩⟩⟩
    have sa:=Za9 (o:=.tup []) hta
    have sb:=Za9 (o:=.tup [.str "a"]) htb
    have sc:=Za9 (o:=.tup [.int 0,.int 0]) htc
    have sd:=Za9 (o:=.tup [.int ((ys.map V.str).length:Int),.int (-1),.ref ta,.str "a",.ref tb,.ref tc]) ht
    have ha1:=sd _ _ (sc _ _ (sb _ _ (uS (H:=H21) (a:=ta) (o:=.tup []))))
    have hb1:=sd _ _ (sc _ _ (uS (H:=upd H21 ta (.tup [])) (a:=tb) (o:=.tup [.str "a"])))
    have hc1:=sd _ _ (uS (H:=upd (upd H21 ta (.tup [])) tb (.tup [.str "a"])) (a:=tc) (o:=.tup [.int 0,.int 0]))
    have hd1:=uS (H:=upd (upd (upd H21 ta (.tup [])) tb (.tup [.str "a"])) tc (.tup [.int 0,.int 0])) (a:=t) (o:=.tup [.int ((ys.map V.str).length:Int),.int (-1),.ref ta,.str "a",.ref tb,.ref tc])
    have s22:=((sa.trans sb).trans sc).trans sd
    generalize upd (upd (upd (upd H21 ta (.tup [])) tb (.tup [.str "a"])) tc (.tup [.int 0,.int 0])) t (.tup [.int ((ys.map V.str).length:Int),.int (-1),.ref ta,.str "a",.ref tb,.ref tc])=H22 at ha1 hb1 hc1 hd1 s22 ⊢
    clear sa sb sc sd
    have hp22:=s22 _ _ hp21
    refine⟨_,rfl,pk,6,o21,rfl,hp22,ho21,by decide,by decide,λw o23 w0 w1 ho23=>?_⟩
    have d23:Drawn pk H22 (upd H22 pk o23):=Drawn.upd ho23
    have hp23:(upd H22 pk o23) pk=some o23:=uS
    generalize upd H22 pk o23=H23 at d23 hp23 ⊢
    have s1223:Zaj H12 H23:=λb u e=>d23.keep _ _ (nNo e hpk) (s22 _ _ (s1221 _ _ e))
    have hla23:=d23.keep _ _ lap (s22 _ _ hla21)
    have tk:∀ {b:Addr} {xs:LV},H22 b=some (.tup xs)->H23 b=some (.tup xs):=λe=>Drawn.tup d23 hp22 ho21 e
    have fin:∀ {v':V} {d':Dt},TmV H23 d' v'->WfL [d']->(∀ k,Zc7 k [d']<=2)->∃(v:V) (d:Dt),[some (V.ref a),some (.ref pk),some (.ref l),some (.ref aa),some (.ref ln),some (.ref pb),some (.int (10 + (i:Int))),some (.ref la),some v',x9,x10,x11]=[some (.ref a),some (.ref pk),some (.ref l),some (.ref aa),some (.ref ln),some (.ref pb),some (.int (10 + (i:Int))),some (.ref la),some v,x9,x10,x11]/\Zaj H12 H23/\(∃ o,H23 pk=some o/\Zh2 o)/\H23 la=some (.lst (ys.map V.str))/\TmV H23 d v/\WfL [d]/\∀ k,Zc7 k [d]<=100:=λ{v' d'} h1 h2 h3=>⟨v',d',rfl,s1223,⟨o23,hp23,ho23⟩,hla23,h1,h2,λk=>by have:=h3 k;omega⟩
    rcases(show w=0\/w=1\/w=2\/w=3\/w=4\/w=5 by omega)with e | e | e | e | e | e <;> subst e
    ·exact⟨t,_,_,_,rfl,rfl,SqT.of (tk hd1),rfl,fin (.int _) (WfL.int _) λk=>Yx (Zmv _ k) (by decide)⟩
    ·exact⟨t,_,_,_,rfl,rfl,SqT.of (tk hd1),rfl,fin (.int _) (WfL.int _) λk=>Yx (Zmv _ k) (by decide)⟩
    ·exact⟨t,_,_,_,rfl,rfl,SqT.of (tk hd1),rfl,fin (.tup (tk ha1) .nil) (WfL.tup rfl WfL.nil) λk=>Yx (Zy4 k) (by decide)⟩
    ·exact⟨t,_,_,_,rfl,rfl,SqT.of (tk hd1),rfl,fin (.str "a" (by rfl')) (WfL.str _) λk=>Yx (Z2i _ k) (by decide)⟩
    ·exact⟨t,_,_,_,rfl,rfl,SqT.of (tk hd1),rfl,fin (.tup (tk hb1) (.cons (.str "a" (by rfl')) .nil)) (WfL.tup rfl WfL.nil) λk=>Yx (Z2j _ k) (by decide)⟩
    ·exact⟨t,_,_,_,rfl,rfl,SqT.of (tk hd1),rfl,fin (.tup (tk hc1) (.cons (.int 0) (.cons (.int 0) .nil))) (WfL.tup rfl (WfL.int _)) λk=>Z2h _ _ k⟩
   clear hv dr cn hla20 hp20 ho20 s1220 st hr19 s19 s1219 s719 hp18 hla18 s1218 hla17 hp17 ho17 s1217 s717
   rintro σ' H24 ⟨v,d,rfl,s24,⟨o24,hp24,ho24⟩,hla24,hv24,wf24,cn24⟩
   have hR24:=Zbn hR12 s24
   have s724:=s12.trans s24
   have hA24:Zb8 H24 rows rows avs:=hA7.mono λb xs e=>s724 _ _ e
   have haa24:=s724 _ _ haa7
   obtain⟨rvs,hrvs,hrp⟩:=id hR24
   refine⟨_,rfl,l,rfl,⟨_,SqL.of hrvs⟩,Zmu (Zav (xs:=rvs)) (sL (by rw[<- hrp.length];have:=g.le;omega)) (λv=>decide ((Zd2 rows (hdR H24 v)).length=2)) (λv=>.str (hdR H24 v)) (λH' s=>SqL.of (s _ _ hrvs)) ?_ ?_ ?_⟩
   ·intro x H' R s' hx hR'
    obtain⟨j,hj⟩:=Yo2.mp hx
    obtain⟨rw',hrw,t,u,rfl,h1,h2⟩:=Zau hrp hj
    rw[Zoj h1]at hR'
    refine⟨_,rfl,_,rfl,_,rfl,t,_,_,_,rfl,rfl,SqT.of (s' _ _ h1),at0 _ _,l,aa,rows,avs,rw'.1,rfl,Zbn hR24 s',g,s' _ _ haa24,hA24.mono (λb xs e=>s' _ _ e),λlb hlb=>⟨lb,_,rfl,.inl (SqL.of uS),rfl,_,rfl,?_⟩⟩
    rw[show decide (V.int ((((Zd2 rows rw'.1).map V.str).length:Nat):Int)=V.int 2)=decide ((Zd2 rows rw'.1).length=2)from decide_eq_decide.mpr ⟨λz=>by injection z with z;rw[Ya]at z;omega,λz=>by rw[Ya,z];rfl⟩]
    exact hR' _ (Za9 hlb)
   ·intro x H' R s' hx _ hR'
    obtain⟨j,hj⟩:=Yo2.mp hx
    obtain⟨rw',hrw,t,u,rfl,h1,h2⟩:=Zau hrp hj
    rw[Zoj h1]at hR'
    exact⟨_,rfl,t,_,_,_,rfl,rfl,SqT.of (s' _ _ h1),at0 _ _,hR' _ (Zaj.refl _)⟩
   intro lt H25 hlt s25 hlt25
   have e25:(rvs.filter λv=>decide ((Zd2 rows (hdR H24 v)).length=2)).map (λv=>V.str (hdR H24 v))=((rows.map (·.1)).filter λx=>decide ((Zd2 rows x).length=2)).map V.str:=by
    rw[<- Zp2 hrp,Yz2,Yy1]
    rfl
   rw[e25]at hlt25
   have fw:∀ x∈(rows.map (·.1)).filter (λx=>decide ((Zd2 rows x).length=2)),Zbf x=true:=λx hx=>by
    obtain⟨r',hr',e⟩:=Ye.mp (Yj2.mp hx).1
    rw[<- e];exact g.word r' hr'
   generalize(rows.map (·.1)).filter (λx=>decide ((Zd2 rows x).length=2))=tw at hlt25 fw
   have s1225:=s24.trans s25
   have hp25:=s25 _ _ hp24
   have hla25:=s25 _ _ hla24
   have hv25:=hv24.keep (Zbs s25)
   have ltp:lt≠pk:=λz=>by rw[z,hp24]at hlt;cases hlt
   let Hv2:SW:=λσ' H'=>∃(lz:Addr) (zs:LS),σ'=[some (.ref a),some (.ref pk),some (.ref l),some (.ref aa),some (.ref ln),some (.ref pb),some (.int (10 + (i:Int))),some (.ref lz),some v,some (.ref lt),x10,x11]/\Zaj H12 H'/\(∃ o,H' pk=some o/\Zh2 o)/\H' lz=some (.lst (zs.map V.str))/\lz≠pk/\Z2x zs/\zs.length<=100/\TmV H' d v
   refine⟨Hv2,?_,?_⟩
   ·refine⟨_,rfl,Yv _,λle hle=>?_⟩
    have s26:Zaj H25 (upd H25 le (.lst [])):=Za9 hle
    have h26:(upd H25 le (.lst [])) le=some (.lst []):=uS
    generalize upd H25 le (.lst [])=H26 at s26 h26 ⊢
    have s1226:=s1225.trans s26
    have hp26:=s26 _ _ hp25
    refine⟨.list (tw.map W.Dat.str),.list [],.list (SqL.of (s26 _ _ hlt25)) (Ze7 tw),.list (SqL.of h26) .nil,Zn2 fw,by decide,_,rfl,Zdu (λnz=>?_) (λ_=>⟨la,ys,rfl,s1226,⟨o24,hp26,ho24⟩,s26 _ _ hla25,lap,fy,by omega,hv25.keep (Zbs s26)⟩)⟩
    have nz:=(Zhm tw).mp nz
    refine⟨_,rfl,pk,6,o24,rfl,hp26,ho24,by decide,by decide,λu o27 u0 u1 ho27=>⟨rfl,_,rfl,?_⟩⟩
    have d27:Drawn pk H26 (upd H26 pk o27):=Drawn.upd ho27
    have hp27:(upd H26 pk o27) pk=some o27:=uS
    generalize upd H26 pk o27=H27 at d27 hp27 ⊢
    have s1227:Zaj H12 H27:=λb u e=>d27.keep _ _ (nNo e hpk) (s1226 _ _ e)
    have hv27:=(hv25.keep (Zbs s26)).keep λb xs e=>Drawn.tup d27 hp26 ho24 e
    have hla27:=d27.keep _ _ lap (s26 _ _ hla25)
    have hlt27:=d27.keep _ _ ltp (s26 _ _ hlt25)
    refine Zdu (λ_=>?_) (λ_=>⟨la,ys,rfl,s1227,⟨o27,hp27,ho27⟩,hla27,lap,fy,by omega,hv27⟩)
    cases tw with
    | nil=>exact absurd rfl nz
    | cons y tw' =>
     refine⟨_,rfl,1,rfl,lt,_,rfl,SqL.of hlt27,λl28 hl28=>?_⟩
     rw[show Zoo ((y :: tw').map V.str) none (some 1)=[V.str y]from(Z46 _ 1).trans rfl]
     have s28:Zaj H27 (upd H27 l28 (.lst [.str y])):=Za9 hl28
     have h28:(upd H27 l28 (.lst [.str y])) l28=some (.lst [.str y]):=uS
     generalize upd H27 l28 (.lst [.str y])=H28 at s28 h28 ⊢
     refine⟨_,rfl,pk,2,o27,rfl,s28 _ _ hp27,ho27,by decide,by decide,λu2 o29 z0 z1 ho29=>⟨_,_,rfl,rfl,?_⟩⟩
     have d29:Drawn pk H28 (upd H28 pk o29):=Drawn.upd ho29
     have hp29:(upd H28 pk o29) pk=some o29:=uS
     generalize upd H28 pk o29=H29 at d29 hp29 ⊢
     have l28p:l28≠pk:=λz=>by rw[z,hp27]at hl28;cases hl28
     refine⟨l28,9 + u2,_,rfl,rfl,d29.keep _ _ l28p h28,by omega,by omega,sL (by show 1 * _<=100000;omega),λl30 hl30=>?_⟩
     rw[Zuf]
     have s30:=Za9 (o:=.lst ((List.replicate (9 + u2).toNat y).map V.str)) hl30
     exact⟨l30,List.replicate (9 + u2).toNat y,rfl,λb u e=>s30 _ _ (d29.keep _ _ (nNo e hpk) (s28 _ _ (s1227 _ _ e))),⟨o29,s30 _ _ hp29,ho29⟩,uS,(λz=>by rw[z,hp29]at hl30;cases hl30),(λz hz=>by rw[List.eq_of_mem_replicate hz];exact Zo8.word (fw y (.head _))),by rw[Yv3];omega,((hv27.keep (Zbs s28)).keep λb xs e=>Drawn.tup d29 (s28 _ _ hp27) ho27 e).keep (Zbs s30)⟩
   clear hla24 hla25 hp24 hp25 ho24 hv25 fy yle hv24
   rintro σ' H31 ⟨lz,zs,rfl,s31,⟨o31,hp31,ho31⟩,hlz31,lzp,fz,z100,hv31⟩
   refine⟨_,rfl,?_⟩
   let Hv3:SW:=λσ' H'=>∃(gv:Addr) (b:Bool),σ'=[some (.ref a),some (.ref pk),some (.ref l),some (.ref aa),some (.ref ln),some (.ref pb),some (.int (10 + (i:Int))),some (.ref lz),some v,some (.ref lt),some (.ref gv),x11]/\Zaj H12 H'/\H' lz=some (.lst (zs.map V.str))/\SqB K b H' gv (zs.map V.str)/\TmV H' d v
   refine⟨Hv3,?_,?_⟩
   ·refine⟨_,rfl,pk,2,o31,rfl,hp31,ho31,by decide,by decide,λu o32 u0 u1 ho32=>⟨rfl,_,rfl,?_⟩⟩
    have d32:Drawn pk H31 (upd H31 pk o32):=Drawn.upd ho32
    generalize upd H31 pk o32=H32 at d32 ⊢
    have s1232:Zaj H12 H32:=λb u e=>d32.keep _ _ (nNo e hpk) (s31 _ _ e)
    have hlz32:=d32.keep _ _ lzp hlz31
    have hv32:=hv31.keep λb xs e=>Drawn.tup d32 hp31 ho31 e
    refine Zdu (λ_=>?_) (λ_=>⟨lz,true,rfl,s1232,hlz32,SqL.of hlz32,hv32⟩)
    refine⟨_,rfl,lz,_,rfl,.inl ⟨SqL.of hlz32,λtf htf=>?_⟩⟩
    have s33:=Za9 (o:=.tup (zs.map V.str)) htf
    exact⟨tf,false,rfl,s1232.trans s33,s33 _ _ hlz32,SqT.of uS,hv32.keep (Zbs s33)⟩
   rintro σ' H33 ⟨gv,b,rfl,s33,hlz33,hgv,hv33⟩
   have s733:=s12.trans s33
   have lzz:∀ i,(lvl i [d]).length<=1000:=λi=>by have:=Zvn i [d];have:=cn24 (i + 1);omega
   let Iv2:NW:=λj σ H'=>∃ x11:OV,σ=[some (.ref a),some (.ref pk),some (.ref l),some (.ref aa),some (.ref ln),some (.ref pb),some (.int (10 + (i:Int))),some (.ref lz),some v,some (.ref lt),some (.ref gv),x11]/\Zaj H33 H'
   refine⟨3,rfl,by decide,by decide,Zat Zbm Iv2
    ⟨x11,rfl,Zaj.refl _⟩ (λ_ _ _ _ _=>trivial) ?_ ?_⟩
   ·rintro j v'' σ H34 hj ⟨x11',rfl,s34'⟩
    obtain⟨hj3,rfl⟩:=Za6 hj
    have hj3:j<3:=hj3
    have s734:=s733.trans s34'
    have ej:(0 + (j:Int))=((j:Nat):Int):=by omega
    have hh:Zo5 K C B D H34 pb xb gv rows nms b zs d v:=⟨bk.mono s734,g,gn,hgv.mono s34',z100,λx hx=>(fz x hx).shows,hv33.keep (Zbs s34'),wf24,lzz⟩
    refine⟨_,rfl,_,rfl,_,rfl,_,rfl,j,pb,xb,gv,rows,nms,b,zs,d,v,by rw[ej];rfl,by omega,hh,r8,λa1 H35 s35 ha1=>?_⟩
    have s735:=s734.trans s35
    refine⟨_,rfl,_,rfl,_,rfl,_,rfl,_,rfl,_,rfl,j,l,aa,ln,lz,rows,avs,nms,us,zs,d,v,100,by rw[ej];rfl,Zbn hR7 s735,g,s735 _ _ haa7,hA7.mono (λb xs e=>s735 _ _ e),s735 _ _ hln7,hN7.mono (Zbs s735),gn,s35 _ _ (s34' _ _ hlz33),fz,z100,(hv33.keep (Zbs s34')).keep (Zbs s35),wf24,Z2c cn24,by have:=cn24 100;omega,λa2 H36 s36 ha2=>?_⟩
    have okd:W.kqdOk 9 (duD (Zc1 j rows nms zs d))=true:=Z6x λw hw=>(fz w (Zy0 hw)).ok
    refine⟨_,_,Zz8 (s36 _ _ ha1),Zz8 ha2,okd,okd,_,rfl,?_⟩
    rw[Zhs]
    exact Zcu ⟨_,rfl,(s34'.trans s35).trans s36⟩
   ·rintro σ H34 ⟨x11',rfl,s34'⟩
    exact⟨_,_,_,_,_,_,_,rfl,s733.trans s34'⟩
  ·rintro σ H12 ⟨x1,x6,x7,x8,x9,x10,x11,rfl,s12⟩
   exact q H12
end K64
namespace K64
open PySem L2
variable {P:Program}{w:World}{K:Fg}{mg:Str->OU}{base:Heap}
def md{K:Fg}{m q:Str}{st:Stmt}{ps:LS}(T:Mp K C m q st f fd)(b:Zeh K fd ps []):Zo7 K C m q st ps f fd:=⟨T.fn,b,T.a,T.i,T.fn.kp⟩
set_option maxHeartbeats 4000000 in
def all_mk{l:W.OpenLaw}{w:World}{K:Fg}{h:Heap}{mg:Str->OU}(X:K.In h)(G:h.Ns mainGlobals mg)(hfa:mg "law"=some (.ref fa))
  {T_LETTERS T_MOST_LETTERS T_MOST_KINDS T_MOST_UPS T_MOST_PLACES T_MOST_DEEDS T_MOST_NAMES T_MOST_THINGS T_MOST_PARTS T_MOST_DEEP T_MOST_NEARER:Tok}
  (p_QD:Qp K "DeedError" QD)
  (e_QD:ExC K QD)
  (p_Q0:Qp K "NoKind" Q0)
  (p_Q1:Qp K "Twice" Q1)
  (p_Q2:Qp K "NoName" Q2)
  (p_Q3:Qp K "Ring" Q3)
  (p_Q4:Qp K "NoDeed" Q4)
  (p_Q5:Qp K "Same" Q5)
  (p_Q6:Qp K "NoText" Q6)
  (p_Q7:Qp K "TooMany" Q7)
  (p_Q8:Qp K "NoBoard" Q8)
  (p_Q9:Qp K "NoCall" Q9)
  (p_Q10:Qp K "NoLine" Q10)
  (p_Q11:Qp K "NoPlace" Q11)
  (p_Q12:Qp K "NoWeights" Q12)
  (p_Q13:Qp K "NoTerm" Q13)
  (p_Q14:Qp K "NoRow" Q14)
  (r_Q0:ExI K Q0 QD "word")
  (sd_Q0:W.subIn K (.ref Q0) (.ref QD)=some true)
  (s_Q0:S15 K Q0 Q0 Q1 Q2 Q3 Q4 Q5 Q6 Q7 Q8 Q9 Q10 Q11 Q12 Q13 Q14 true false false false false false false false false false false false false false false)
  (r_Q7:ExA K Q7)
  (sd_Q7:W.subIn K (.ref Q7) (.ref QD)=some true)
  (s_Q7:S15 K Q7 Q0 Q1 Q2 Q3 Q4 Q5 Q6 Q7 Q8 Q9 Q10 Q11 Q12 Q13 Q14 false false false false false false false true false false false false false false false)
  (in_Q7:W.findIn K (.ref Q7) "__init__"=some (some (.builtin "ValueError.__init__")))
  (r_Q13:ExA K Q13)
  (sd_Q13:W.subIn K (.ref Q13) (.ref QD)=some true)
  (s_Q13:S15 K Q13 Q0 Q1 Q2 Q3 Q4 Q5 Q6 Q7 Q8 Q9 Q10 Q11 Q12 Q13 Q14 false false false false false false false false false false false false false true false)
  (in_Q13:W.findIn K (.ref Q13) "__init__"=some (some (.builtin "ValueError.__init__")))
  (ga_QD:W.specialIn K (.ref QD) "__getattribute__"=some (some (.builtin "type.__getattribute__")))
  (rd_QD:W.readsIn K QD (.type "type")=true)
  (fi_QD:W.findCls K (.ref QD) (.type "type") "__init__"=some (.val (.builtin "ValueError.__init__")))
  (TC:Cp K "Kinds" C)
  (TB:Cp K "Board" B)
  (TD:Cp K "Book" D)
  (T_mI:Mp K C "__init__" "Kinds.__init__" Zei f_mI d_mI)
  (T_mH:Mp K C "has" "Kinds.has" Zgo f_mH d_mH)
  (T_mC:Mp K C "check" "Kinds.check" Zce f_mC d_mC)
  (T_mUn:Mp K C "under" "Kinds.under" Zet f_mUn d_mUn)
  (T_mW:Mp K C "words" "Kinds.words" Zes f_mW d_mW)
  (T_mL:Mp K C "below" "Kinds.below" Zdl f_mL d_mL)
  (T_bI:Mp K B "__init__" "Board.__init__" Zej f_bI d_bI)
  (T_bK:Mp K B "kinds" "Board.kinds" Zeu f_bK d_bK)
  (T_bP:Mp K B "places" "Board.places" Zd9 f_bP d_bP)
  (T_bD:Mp K B "deeds" "Board.deeds" Zev f_bD d_bD)
  (T_kI:Mp K D "__init__" "Book.__init__" Zcr f_kI d_kI)
  (T_kC:Mp K D "check_name" "Book.check_name" Zcy f_kC d_kC)
  (T_kK:Mp K D "kinds" "Book.kinds" Zfp f_kK d_kK)
  (T_kW:Mp K D "words" "Book.words" Zfn f_kW d_kW)
  (T_kB:Mp K D "board" "Book.board" Zfq f_kB d_kB)
  (T_kM:Mp K D "makes" "Book.makes" Zfo f_kM d_kM)
  (T_x0:Mp K Q0 "__init__" "NoKind.__init__" Zdz f_x0 d_x0)
  (tf_x0:W.typeIn K (.ref f_x0)=some (.type "function"))
  (T_w:Tp K "is_word" Ze3 f_w d_w)
  (T_cr:Tp K "check_rows" Zfh f_cr d_cr)
  (T_cu:Tp K "check_ups" Zgm f_cu d_cu)
  (T_fa:Tp K "first_among" Zcv f_fa d_fa)
  (T_en:Tp K "endless" Zf6 f_en d_en)
  (T_fr:Tp K "find_ring" Zgl f_fr d_fr)
  (T_aa:Tp K "all_above" Zgn f_aa d_aa)
  (T_P:Tp K "_law_pot" Zf7 f_P d_P)
  (T_T:Tp K "_law_take" Za5 f_T d_T)
  (T_Le:Tp K "_law_letters" Zbx f_Le d_Le)
  (T_W:Tp K "_law_word" Zba f_W d_W)
  (T_Ws:Tp K "_law_words" Zfj f_Ws d_Ws)
  (T_U:Tp K "_law_ups" Zdw f_U d_U)
  (T_R:Tp K "_law_rows" Zdy f_R d_R)
  (T_A:Tp K "_law_above" Zfm f_A d_A)
  (T_ic:Tp K "is_call" Zec f_ic d_ic)
  (T_cd:Tp K "check_deeds" Zeq f_cd d_cd)
  (T_cc:Tp K "check_call" Zfi f_cc d_cc)
  (T_wi:Tp K "within" Zhg f_wi d_wi)
  (T_fi:Tp K "fitting" Zg3 f_fi d_fi)
  (T_de:Tp K "_law_deeds" Zdf f_de d_de)
  (T_nw:Tp K "nearest_with" Zci f_nw d_nw)
  (T_na:Tp K "nearest_among" Zdk f_na d_na)
  (T_ne:Tp K "nearest" Zh8 f_ne d_ne)
  (T_to:Tp K "told_of" Zh7 f_to d_to)
  (T_td:Tp K "told" Zq0 f_td d_td)
  (T_pl:Tp K "_law_places" Zer f_pl d_pl)
  (T_ch:Tp K "_law_chain" Zed f_ch d_ch)
  (T_pa:Tp K "_law_pairs" Zde f_pa d_pa)
  (T_ns:Tp K "_law_names" Zfl f_ns d_ns)
  (T_cm:Tp K "check_makes" Zep f_cm d_cm)
  (T_isn:Tp K "is_number" Ze5 f_isn d_isn)
  (T_po:Tp K "parts_of" Zhi f_po d_po)
  (T_sm:Tp K "is_small" Zhj f_sm d_sm)
  (T_hn:Tp K "has_name" Zhk f_hn d_hn)
  (T_is:Tp K "is_sound" Zf5 f_is d_is)
  (T_cf:Tp K "check_filling" Zb2 f_cf d_cf)
  (T_it:Tp K "is_term" Ze4 f_it d_it)
  (T_ckt:Tp K "check_term" Zb9 f_ckt d_ckt)
  (T_rc:Tp K "run_call" Zhh f_rc d_rc)
  (T_rp:Tp K "run_part" Zf4 f_rp d_rp)
  (T_run:Tp K "run" Zuc f_run d_run)
  (T_oe:Tp K "one_of_each" Zdj f_oe d_oe)
  (T_cn:Tp K "check_nearer" Zcj f_cn d_cn)
  (T_co:Tp K "comes" Zg4 f_co d_co)
  (T_lb:Tp K "_law_below" Zdg f_lb d_lb)
  (T_tm:Tp K "_law_term" Zdx f_tm d_tm)
  (T_nrw:Tp K "_law_near_words" Zcw f_nrw d_nrw)
  (T_flg:Tp K "_law_filling" Zc8 f_flg d_flg)
  (T_lp:Tp K "_law_parts" Zfk f_lp d_lp)
  (T_li:Tp K "_law_is_term" Zd8 f_li d_li)
  (T_cls:Tp K "_law_classes" Zc9 f_cls d_cls)
  (T_rfu:Tp K "_law_refusal" Zd7 f_rfu d_rfu)
  (T_nwd:Tp K "_law_no_word" Za8 f_nwd d_nwd)
  (T_dhe:Tp K "_law_door_heard" Zcx f_dhe d_dhe)
  (T_due:Tp K "_law_due" Zf8 f_due d_due)
  (T_bef:Tp K "_law_bent" Ze6 f_bef d_bef)
  (T_L:Tp K "law" Zxf f_L d_L)
  (n_ups_of:W.findIn K (.ref C) "ups_of"=some none)
  (n_above_of:W.findIn K (.ref C) "above_of"=some none)
  (n_book_B:W.findIn K (.ref B) "book"=some none)
  (n_width_B:W.findIn K (.ref B) "width"=some none)
  (n_stands_B:W.findIn K (.ref B) "stands"=some none)
  (n_has_B:W.findIn K (.ref B) "has"=some none)
  (n_book_D:W.findIn K (.ref D) "book"=some none)
  (n_board_of_D:W.findIn K (.ref D) "board_of"=some none)
  (n_made_of_D:W.findIn K (.ref D) "made_of"=some none)
  (n_has_D:W.findIn K (.ref D) "has"=some none)
  (n_deeds_D:W.findIn K (.ref D) "deeds"=some none)
  (g_LETTERS:W.nsIn K mainGlobals "LETTERS"=some (some (.str Md.letters T_LETTERS)))
  (g_MOST_LETTERS:W.nsIn K mainGlobals "MOST_LETTERS"=some (some (.int 8 T_MOST_LETTERS)))
  (g_MOST_KINDS:W.nsIn K mainGlobals "MOST_KINDS"=some (some (.int 24 T_MOST_KINDS)))
  (g_MOST_UPS:W.nsIn K mainGlobals "MOST_UPS"=some (some (.int 8 T_MOST_UPS)))
  (g_MOST_PLACES:W.nsIn K mainGlobals "MOST_PLACES"=some (some (.int 4 T_MOST_PLACES)))
  (g_MOST_DEEDS:W.nsIn K mainGlobals "MOST_DEEDS"=some (some (.int 64 T_MOST_DEEDS)))
  (g_MOST_NAMES:W.nsIn K mainGlobals "MOST_NAMES"=some (some (.int 8 T_MOST_NAMES)))
  (g_MOST_THINGS:W.nsIn K mainGlobals "MOST_THINGS"=some (some (.int 12 T_MOST_THINGS)))
  (g_MOST_PARTS:W.nsIn K mainGlobals "MOST_PARTS"=some (some (.int 40 T_MOST_PARTS)))
  (g_MOST_DEEP:W.nsIn K mainGlobals "MOST_DEEP"=some (some (.int 12 T_MOST_DEEP)))
  (g_MOST_NEARER:W.nsIn K mainGlobals "MOST_NEARER"=some (some (.int 512 T_MOST_NEARER)))
  (z_len:W.nsIn K mainGlobals "len"=some none)
  (z_all:W.nsIn K mainGlobals "all"=some none)
  (z_any:W.nsIn K mainGlobals "any"=some none)
  (z_list:W.nsIn K mainGlobals "list"=some none)
  (z_tuple:W.nsIn K mainGlobals "tuple"=some none)
  (z_range:W.nsIn K mainGlobals "range"=some none)
  (z_int:W.nsIn K mainGlobals "int"=some none)
  (z_bool:W.nsIn K mainGlobals "bool"=some none)
  (z_max:W.nsIn K mainGlobals "max"=some none)
  (z_isinstance:W.nsIn K mainGlobals "isinstance"=some none)
  (z_enumerate:W.nsIn K mainGlobals "enumerate"=some none)
  (z_zip:W.nsIn K mainGlobals "zip"=some none)
  (z_ValueError:W.nsIn K mainGlobals "ValueError"=some none)
  : ∃ fd:FuncData,(∀(s:Shared) (v:Value),BindsTo s fd ⟨[v],[]⟩ [("script",v)])/\∀ base:Heap,K.In base->base.Ns mainGlobals mg->Zap l.prog w K mg base CX0 25 fa fd ["script"] (Zxd K):=by
 have e:=hfa.symm.trans (W.mg_of X G T_L.a)
 cases e
 obtain⟨_,_,_,_,_,_,rfl⟩:=Tp.ex T_L.fn
 have mgC_LETTERS:=W.mg_of X G g_LETTERS
 have mgC_MOST_LETTERS:=W.mg_of X G g_MOST_LETTERS
 have mgC_MOST_KINDS:=W.mg_of X G g_MOST_KINDS
 have mgC_MOST_UPS:=W.mg_of X G g_MOST_UPS
 have mgC_MOST_PLACES:=W.mg_of X G g_MOST_PLACES
 have mgC_MOST_DEEDS:=W.mg_of X G g_MOST_DEEDS
 have mgC_MOST_NAMES:=W.mg_of X G g_MOST_NAMES
 have mgC_MOST_THINGS:=W.mg_of X G g_MOST_THINGS
 have mgC_MOST_PARTS:=W.mg_of X G g_MOST_PARTS
 have mgC_MOST_DEEP:=W.mg_of X G g_MOST_DEEP
 have mgC_MOST_NEARER:=W.mg_of X G g_MOST_NEARER
 have mgN_len:=W.mg_none_of X G z_len
 have mgN_all:=W.mg_none_of X G z_all
 have mgN_any:=W.mg_none_of X G z_any
 have mgN_list:=W.mg_none_of X G z_list
 have mgN_tuple:=W.mg_none_of X G z_tuple
 have mgN_range:=W.mg_none_of X G z_range
 have mgN_int:=W.mg_none_of X G z_int
 have mgN_bool:=W.mg_none_of X G z_bool
 have mgN_max:=W.mg_none_of X G z_max
 have mgN_isinstance:=W.mg_none_of X G z_isinstance
 have mgN_enumerate:=W.mg_none_of X G z_enumerate
 have mgN_zip:=W.mg_none_of X G z_zip
 have mgN_ValueError:=W.mg_none_of X G z_ValueError
 obtain⟨aC,pg,hd,po,sa,mk,kc⟩:=TC
 have mgC:=W.mg_of X G aC
 have M:Mk K C f_mI:=⟨mk,T_mI.a,T_mI.i,kc⟩
 obtain⟨aB,pg_B,hd_B,po_B,sa_B,mk_B,kc_B⟩:=TB
 have mgB:=W.mg_of X G aB
 have M_B:Mk K B f_bI:=⟨mk_B,T_bI.a,T_bI.i,kc_B⟩
 obtain⟨aD,pg_D,hd_D,po_D,sa_D,mk_D,kc_D⟩:=TD
 have mgD:=W.mg_of X G aD
 have M_D:Mk K D f_kI:=⟨mk_D,T_kI.a,T_kI.i,kc_D⟩
 have F_mI:=T_mI.fn
 have b_mI:=bn2 "self" "rows" T_mI.fn
 have a_mH:=T_mH.a
 have M_mH:=md T_mH (bn2 "self" "word" T_mH.fn)
 have M_mC:=md T_mC (bn2 "self" "word" T_mC.fn)
 have M_mUn:=md T_mUn (bn3 "self" "one" "other" T_mUn.fn)
 have M_mW:=md T_mW (bn1 "self" T_mW.fn)
 have M_mL:=md T_mL (bn2 "self" "word" T_mL.fn)
 have F_bI:=T_bI.fn
 have b_bI:=bn4 "self" "kinds" "places" "deeds" T_bI.fn
 have M_bK:=md T_bK (bn1 "self" T_bK.fn)
 have M_bP:=md T_bP (bn1 "self" T_bP.fn)
 have a_bD:=T_bD.a
 have M_bD:=md T_bD (bn1 "self" T_bD.fn)
 have F_kI:=T_kI.fn
 have b_kI:=bn3 "self" "kinds" "names" T_kI.fn
 have M_kC:=md T_kC (bn2 "self" "word" T_kC.fn)
 have M_kK:=md T_kK (bn1 "self" T_kK.fn)
 have M_kW:=md T_kW (bn1 "self" T_kW.fn)
 have M_kB:=md T_kB (bn2 "self" "word" T_kB.fn)
 have M_kM:=md T_kM (bn2 "self" "word" T_kM.fn)
 have F_x0:=T_x0.fn
 have a_x0:=T_x0.a
 have b_x0:=bn2 "self" "word" T_x0.fn
 have D_w:=df X G T_w (bn1 "text" T_w.fn)
 have D_cr:=df X G T_cr (bn1 "rows" T_cr.fn)
 have D_cu:=df X G T_cu (bn1 "ups_of" T_cu.fn)
 have D_fa:=df X G T_fa (bn2 "words" "others" T_fa.fn)
 have D_en:=df X G T_en (bn1 "ups_of" T_en.fn)
 have D_fr:=df X G T_fr (bn1 "ups_of" T_fr.fn)
 have D_aa:=df X G T_aa (bn2 "ups_of" "word" T_aa.fn)
 have D_P:=df X G T_P (bn2 "script" "k" T_P.fn)
 have D_T:=df X G T_T (bn2 "pot" "many" T_T.fn)
 have D_Le:=df X G T_Le (bn1 "number" T_Le.fn)
 have D_W:=df X G T_W (bn2 "pot" "words" T_W.fn)
 have D_Ws:=df X G T_Ws (bn2 "pot" "many" T_Ws.fn)
 have D_U:=df X G T_U (bn3 "pot" "k" "shape" T_U.fn)
 have D_R:=df X G T_R (bn2 "pot" "most" T_R.fn)
 have D_A:=df X G T_A (bn1 "rows" T_A.fn)
 have D_ic:=df X G T_ic (bn3 "kinds" "places" "call" T_ic.fn)
 have D_cd:=df X G T_cd (bn3 "kinds" "places" "deeds" T_cd.fn)
 have D_cc:=df X G T_cc (bn3 "kinds" "places" "call" T_cc.fn)
 have D_wi:=df X G T_wi (bn3 "kinds" "one" "other" T_wi.fn)
 have D_fi:=df X G T_fi (bn2 "board" "call" T_fi.fn)
 have D_de:=df X G T_de (bn5 "pot" "rows" "above" "places" "most" T_de.fn)
 have D_nw:=df X G T_nw (bn4 "kinds" "deeds" "near" "number" T_nw.fn)
 have D_na:=df X G T_na (bn2 "board" "numbers" T_na.fn)
 have D_ne:=df X G T_ne (bn2 "board" "call" T_ne.fn)
 have D_to:=df X G T_to (bn1 "near" T_to.fn)
 have D_td:=df X G T_td (bn2 "board" "call" T_td.fn)
 have D_pl:=df X G T_pl (bn3 "pot" "many" "most" T_pl.fn)
 have D_ch:=df X G T_ch (bn4 "pot" "above" "call" "most" T_ch.fn)
 have D_pa:=df X G T_pa (bn5 "pot" "rows" "above" "places" "most" T_pa.fn)
 have D_ns:=df X G T_ns (bn7 "script" "at" "rows" "above" "most" "few" "calls" T_ns.fn)
 have D_cm:=df X G T_cm (bn2 "kinds" "makes" T_cm.fn)
 have D_isn:=df X G T_isn (bn1 "thing" T_isn.fn)
 have D_po:=df X G T_po (bn1 "level" T_po.fn)
 have D_sm:=df X G T_sm (bn1 "term" T_sm.fn)
 have D_hn:=df X G T_hn (bn2 "book" "term" T_hn.fn)
 have D_is:=df X G T_is (bn3 "book" "length" "term" T_is.fn)
 have D_cf:=df X G T_cf (bn2 "kinds" "filling" T_cf.fn)
 have D_it:=df X G T_it (bn3 "book" "filling" "term" T_it.fn)
 have D_ckt:=df X G T_ckt (bn3 "book" "filling" "term" T_ckt.fn)
 have D_rc:=df X G T_rc (bn4 "book" "word" "spot" "call" T_rc.fn)
 have D_rp:=df X G T_rp (bn4 "book" "filling" "term" "spot" T_rp.fn)
 have D_run:=df X G T_run (bn3 "book" "filling" "term" T_run.fn)
 have D_oe:=df X G T_oe (bn1 "rows" T_oe.fn)
 have D_cn:=df X G T_cn (bn1 "rows" T_cn.fn)
 have D_co:=df X G T_co (bn3 "book" "filling" "term" T_co.fn)
 have D_lb:=df X G T_lb (bn3 "rows" "above" "word" T_lb.fn)
 have D_tm:=df X G T_tm (bn5 "pot" "names" "many" "room" "deep" T_tm.fn)
 have D_nrw:=df X G T_nrw (bn1 "names" T_nrw.fn)
 have D_flg:=df X G T_flg (bn4 "pot" "rows" "names" "most" T_flg.fn)
 have D_lp:=df X G T_lp (bn1 "term" T_lp.fn)
 have D_li:=df X G T_li (bn3 "names" "many" "term" T_li.fn)
 have D_cls:=df X G T_cls (bn1 "e" T_cls.fn)
 have D_rfu:=df X G T_rfu (bn1 "e" T_rfu.fn)
 have D_nwd:=df X G T_nwd (bn1 "pot" T_nwd.fn)
 have D_dhe:=df X G T_dhe (bn4 "door" "book" "filling" "term" T_dhe.fn)
 have D_due:=df X G T_due (bn6 "door" "rows" "above" "names" "filling" "term" T_due.fn)
 have D_bef:=df X G T_bef (bn3 "pot" "rows" "filling" T_bef.fn)
 have D_L:=df X G T_L (bn1 "script" T_L.fn)
 have DD:DIn K QD:=⟨ga_QD,rd_QD,fi_QD⟩
 have TD:Z8p K mg QD:=⟨W.mg_of X G p_QD.a,e_QD,p_QD.cl,p_QD.ty⟩
 have TF:Zw6 K mg (fif Q0 Q1 Q2 Q3 Q4 Q5 Q6 Q7 Q8 Q9 Q10 Q11 Q12 Q13 Q14):=⟨W.mg_of X G p_Q0.a,W.mg_of X G p_Q1.a,W.mg_of X G p_Q2.a,W.mg_of X G p_Q3.a,W.mg_of X G p_Q4.a,W.mg_of X G p_Q5.a,W.mg_of X G p_Q6.a,W.mg_of X G p_Q7.a,W.mg_of X G p_Q8.a,W.mg_of X G p_Q9.a,W.mg_of X G p_Q10.a,W.mg_of X G p_Q11.a,W.mg_of X G p_Q12.a,W.mg_of X G p_Q13.a,W.mg_of X G p_Q14.a,Zwx p_Q0.cl p_Q1.cl p_Q2.cl p_Q3.cl p_Q4.cl p_Q5.cl p_Q6.cl p_Q7.cl p_Q8.cl p_Q9.cl p_Q10.cl p_Q11.cl p_Q12.cl p_Q13.cl p_Q14.cl,Zwx p_Q0.ty p_Q1.ty p_Q2.ty p_Q3.ty p_Q4.ty p_Q5.ty p_Q6.ty p_Q7.ty p_Q8.ty p_Q9.ty p_Q10.ty p_Q11.ty p_Q12.ty p_Q13.ty p_Q14.ty⟩
 obtain⟨f0,f1,f2,f3,f4,f5,f6,f7,f8,f9,f10,f11,f12,f13,f14⟩:=s_Q0
 have O0:Zo4 K QD (fif Q0 Q1 Q2 Q3 Q4 Q5 Q6 Q7 Q8 Q9 Q10 Q11 Q12 Q13 Q14) 0:=⟨r_Q0.toExA,sd_Q0,Zwx f0 f1 f2 f3 f4 f5 f6 f7 f8 f9 f10 f11 f12 f13 f14⟩
 have I0:=r_Q0
 have mgQ0:=W.mg_of X G p_Q0.a
 obtain⟨f0,f1,f2,f3,f4,f5,f6,f7,f8,f9,f10,f11,f12,f13,f14⟩:=s_Q7
 have O7:Zo4 K QD (fif Q0 Q1 Q2 Q3 Q4 Q5 Q6 Q7 Q8 Q9 Q10 Q11 Q12 Q13 Q14) 7:=⟨r_Q7,sd_Q7,Zwx f0 f1 f2 f3 f4 f5 f6 f7 f8 f9 f10 f11 f12 f13 f14⟩
 have TP7:Z5c K mg "TooMany" Q7:=⟨W.mg_of X G p_Q7.a,r_Q7.toExC,in_Q7⟩
 obtain⟨f0,f1,f2,f3,f4,f5,f6,f7,f8,f9,f10,f11,f12,f13,f14⟩:=s_Q13
 have O13:Zo4 K QD (fif Q0 Q1 Q2 Q3 Q4 Q5 Q6 Q7 Q8 Q9 Q10 Q11 Q12 Q13 Q14) 13:=⟨r_Q13,sd_Q13,Zwx f0 f1 f2 f3 f4 f5 f6 f7 f8 f9 f10 f11 f12 f13 f14⟩
 have TP13:Z5c K mg "NoTerm" Q13:=⟨W.mg_of X G p_Q13.a,r_Q13.toExC,in_Q13⟩
 have TK:Z2m mg:=⟨⟨_,mgC_LETTERS⟩,⟨_,mgC_MOST_LETTERS⟩,⟨_,mgC_MOST_KINDS⟩,⟨_,mgC_MOST_UPS⟩,mgN_len,mgN_all,mgN_list,mgN_tuple⟩
 have TR:Z8k mg:=⟨mgN_range,mgN_int,mgN_len,mgN_tuple,mgN_list⟩
 have TC:Zmz K C:=⟨⟨pg,hd,po,sa⟩,n_ups_of,n_above_of⟩
 have TBd:Zo2 K B:=⟨⟨pg_B,hd_B,po_B,sa_B⟩,n_book_B,n_width_B,n_stands_B⟩
 have TBm:Z2o mg:=⟨⟨_,mgC_MOST_PLACES⟩,⟨_,mgC_MOST_DEEDS⟩,mgN_len,mgN_all,mgN_tuple,mgN_list,mgN_enumerate⟩
 have hBC:B≠C:=λz=>by rw[z,a_mH]at n_has_B;cases n_has_B
 have TKn:Zi5 K D:=⟨⟨pg_D,hd_D,po_D,sa_D⟩,n_book_D,n_board_of_D,n_made_of_D⟩
 have hDC:D≠C:=λz=>by rw[z,a_mH]at n_has_D;cases n_has_D
 have hDB:D≠B:=λz=>by rw[z,a_bD]at n_deeds_D;cases n_deeds_D
 have TDd:Z2n mg:=⟨mgN_len,mgN_range,mgN_tuple⟩
 have TT:Ztd mg:=⟨mgN_isinstance,mgN_int,mgN_bool,mgN_tuple,mgN_len,mgN_range⟩
 exact⟨_,λs v=>.of_eq rfl,λbase _ _=>have GW:=Znw (P:=l.prog) (w:=w) (base:=base) D_wi mgN_zip TC M_mUn M_mC M_mH;have GF:=Zsi (P:=l.prog) (w:=w) (base:=base) D_fi TBm mgN_zip TC TBd M_bK M_bP M_bD D_cc D_wi D_ic M_mUn M_mC M_mH;have GA:=Zme D_na mgN_list mgN_any TBd M_bK M_bD D_nw D_wi GW;have GN:=Zse D_ne D_na GA D_fi GF;have GTd:=Z09 D_td D_ne GN D_to mgN_len;have GB:=Zx5 (P:=l.prog) (w:=w) (base:=base) F_bI TBm TBd TC D_cd D_ic M_mH hBC;have GI:=Z1e (P:=l.prog) (w:=w) (base:=base) F_mI TK TC D_cr D_w D_cu D_fr D_en D_fa D_aa;have GP:=Z4a (P:=l.prog) (w:=w) (base:=base) D_P mgN_len;have GT:=Zj7 (P:=l.prog) (w:=w) (base:=base) D_T;have GR:=Zxu (P:=l.prog) (w:=w) (base:=base) D_R D_T D_U D_Ws D_W D_Le TR;have GW:=Zux (P:=l.prog) (w:=w) (base:=base) D_W D_T D_Le mgN_len;have GLA:=Zu2 (P:=l.prog) (w:=w) (base:=base) D_A mgN_len;have GDe:=Zu6 (P:=l.prog) (w:=w) (base:=base) D_de D_T TDd;have GPl:=Zuz D_pl D_T GT;have GCh:=Zx4 D_ch TDd D_T GT;have GPa:=Zxw D_pa TDd D_T GT D_de GDe D_ch GCh;have GNs:=Zxz D_ns TDd D_P GP D_T GT D_W GW D_pl GPl D_pa GPa;have GKI:=Zx1 F_kI TK ⟨_,mgC_MOST_NAMES⟩ TKn hDC hDB D_w M_B mgB b_bI GB D_cm (Zu8 D_cm TC M_mH);have GKW:=Zu3 (C:=C) (B:=B) M_kW.fn TKn mgN_list;have GKB:=Zn0 (C:=C) (B:=B) M_kB.fn TKn M_kC;have GHN:=Zsh D_hn TT TKn TBd M_kW GKW M_kB GKB M_bP;have GSo:=Zq8 D_is TT mgN_all D_isn D_hn GHN 12;have GCk:=Zmh M_mC.fn TC M_mH;have GCF:=Zvb D_cf TT TC mgC_MOST_THINGS M_mC GCk;have GSm:=Zxt D_sm TT mgC_MOST_DEEP mgC_MOST_PARTS D_po;have GIT:=Zu5 D_it TT TKn M_kK D_cf GCF D_sm GSm D_is GSo;have GCT:=Zu9 D_ckt D_it GIT;have GRC:=Zsb D_rc TKn mgN_list D_td GTd M_kB M_kM M_kC;have GRP:=Z1b D_rp TT mgN_enumerate D_isn D_rc GRC 12;have GRu:=Z39 D_run D_ckt GCT D_rp GRP;have GFi:=Z1g D_flg TDd mgN_list D_T GT D_nrw;have GLe:=Zld (P:=l.prog) (w:=w) (base:=base) D_Le;have GCN:=Zva (P:=l.prog) (w:=w) (base:=base) D_cn mgN_len mgC_MOST_NEARER;have GCo:=Zx3 D_co TC TKn mgN_list M_kK M_mL M_mW M_mC M_mH D_ckt GCT D_cn GCN D_oe D_rp GRP;have E0:Z67 l.prog w K mg base "NoKind" ((fif Q0 Q1 Q2 Q3 Q4 Q5 Q6 Q7 Q8 Q9 Q10 Q11 Q12 Q13 Q14) 0) "word" (Z2y ((fif Q0 Q1 Q2 Q3 Q4 Q5 Q6 Q7 Q8 Q9 Q10 Q11 Q12 Q13 Q14) 0) "word" okS) f_x0 _:=⟨mgQ0,I0.toExA.toExC,a_x0,tf_x0,b_x0,Z37 F_x0 I0 DD TD.m⟩;have XCF:=Zsn (Ds:=(fif Q0 Q1 Q2 Q3 Q4 Q5 Q6 Q7 Q8 Q9 Q10 Q11 Q12 Q13 Q14)) D_cf TT TC mgC_MOST_THINGS TP7 M_mC M_mH E0;have XI:=Zsg (B:=B) D_it TKn M_kK D_cf XCF;have XT:=Zsl D_ckt TP13 D_it GIT XI;have XR:=Z1c D_run D_ckt XT;have XN:=Zsm (P:=l.prog) (w:=w) (base:=base) (Ds:=(fif Q0 Q1 Q2 Q3 Q4 Q5 Q6 Q7 Q8 Q9 Q10 Q11 Q12 Q13 Q14)) D_cn mgN_len mgC_MOST_NEARER TP7;have XC:=Zu7 D_co TC TKn M_kK M_mL M_mC M_mH D_ckt GCT XT D_cn XN;have OO:Z5o K QD (fif Q0 Q1 Q2 Q3 Q4 Q5 Q6 Q7 Q8 Q9 Q10 Q11 Q12 Q13 Q14):=⟨O0,O7,O13,I0⟩;have GCl:=Zsk (P:=l.prog) (w:=w) (base:=base) (D:=QD) D_cls TF mgN_isinstance mgN_ValueError;have GRf:=Zsc D_rfu mgN_len OO D_cls GCl;have GDr:=Z1i D_dhe TD OO D_it GIT XI D_run GRu XR D_co GCo XC D_rfu GRf;have GNW:=Zsd D_nwd D_T GT D_Le GLe;Z4b D_L ⟨mgN_tuple,mgN_max,mgN_len,mgN_range⟩ M mgC b_mI GI M_D mgD b_kI GKI D_P GP D_T GT D_R GR D_A GLA D_ns GNs D_flg GFi D_tm (λrows g=>Z1a g D_tm TDd D_T GT 3) D_bef (Zx6 D_bef mgN_len mgN_range D_T GT D_W GW D_nwd GNW) D_lb (Zny D_lb) D_dhe GDr D_due (Z1h D_due mgN_len D_li (λrows=>Zsf rows D_li TT mgN_list D_lp) D_lb)⟩
def walk{l:W.OpenLaw}{q:Program}{loose:LS}{XP:(Str->OU)->Heap->Prop}{YP:World->Heap->Prop}{d:DefRec}{K:Params->Fg}(hn:l.most=some 63)(hdf:d.params.defaults=[])
  (hY:∀(w:World) (h:Heap),YP w h->(K w.params).In h)
  (F:∀(w:World) (mg:Str->OU) (fa:Addr) (h:Heap),(K w.params).In h->h.Ns mainGlobals mg->mg d.name=some (.ref fa) ->
   ∃ fd:FuncData,(∀(s:Shared) (u:Value),BindsTo s fd ⟨[u],[]⟩ [("script",u)])/\∀ base:Heap,(K w.params).In base->base.Ns mainGlobals mg->Zap l.prog w (K w.params) mg base CX0 25 fa fd ["script"] (Zxd (K w.params))):
  W.WalkO q loose XP YP l.row.toRowW d [] (λf vs=>PySem.call f vs):=
 L2.walk_of (n:=63) (k:=25) (x:="script") (CX:=λ_=>CX0) (sp:=λw=>Zxd (K w.params)) hn (by decide) hdf ⟨rfl,by decide,by decide,rfl⟩ hY F (λ_ _ a ns hl _ hS=>⟨a,ns,rfl,hS,hl,λ_=>rfl⟩) λ_ _ _ _ _ z=>z
end K64
namespace PySem.W.Fast
def tw6163235669612449702:=0
def tw17933349193158609184:=0
def tw5246496787296032221:=0
def tw10417316724969577508:=0
def tw13235715517030686555:=0
def tw11955630504602707939:=0
def tw8981020184305326593:=0
def tw2786350325164979791:=0
def tw11036231379411303945:=0
def tw7676557146229704813:=0
def tw4704842549518006155:=0
def tw3156472526851913919:=0
def tw11173741399958000692:=0
def tw5008990914740810022:=0
def tw3798708526865207443:=0
def tw13700643254357823741:=0
def tw4073218388263385439:=0
def tw5547713302351954558:=0
def tw3352424560992862643:=0
def tw2802967196020897814:=0
def tw11788810668502408119:=0
def tw7684025231149195704:=0
def tw18052914031586476358:=0
def tw9515919417383426341:=0
def tw16477425618928357498:=0
def tw17039121512597850442:=0
def tw5504476260174145703:=0
def tw2126914095942056807:=0
def tw9082760514166232884:=0
def tw16153937086798438130:=0
def tw17223730392677117001:=0
def tw15567523271373574768:=0
def tw13948838919387397602:=0
def tw933158478740531267:=0
def tw9893405933597077379:=0
def tw17504863365752668304:=0
def tw5103443918365125228:=0
def tw14850174576329712432:=0
def tw4739156133323072600:=0
def tw3536300556449338614:=0
def tw3519353640068373275:=0
def tw16359535910417415216:=0
def tw8006618618150711982:=0
def tw5651740994791599578:=0
def tw14495119654031136566:=0
def tw16915590190769786605:=0
def tw12389102596923885584:=0
def tw3208555057765986096:=0
def tw11535354721836646085:=0
def tw4932368233149884221:=0
def tw7114565672874168965:=0
def tw14748490634630380100:=0
def tw21960209644577145:=0
def tw7787968840951967938:=0
def tw5219188022761280547:=0
def tw14029486746012022319:=0
def tw17491315286432851688:=0
def tw4777340515923178533:=0
def tw3628388865132944882:=0
def tw8645375031564310297:=0
def tw13254576185405952807:=0
def tw15006805419712268825:=0
def tw1002409637870460180:=0
def tw11458005278191546273:=0
def tw2099215083491090428:=0
def tw17186603303726974965:=0
def tw14015374028671249148:=0
def tw17719780473033554670:=0
def tw8839263578386422047:=0
def tw1091188899027080965:=0
def tw18087245185875150467:=0
def tw9104555734215513828:=0
def tw17578748473411361797:=0
def tw4224126752160268641:=0
def tw6331138094102432992:=0
def tw7122748608357298726:=0
def tw12577174852250592128:=0
def tw11541409340028519747:=0
def tw9269565219425970726:=0
def tw6264093720975856972:=0
def tw11710887922434512539:=0
def tw17206408082896027922:=0
def tw2132911487828532925:=0
def tw12699720000328743921:=0
def tw9533192812634666351:=0
def tw2856514449175728638:=0
def tw16344731011936401637:=0
def tw16202488050983963742:=0
def tw6556344953750417618:=0
def tw692111853518281796:=0
def tw7620239727957694239:=0
def tw17522947626281390143:=0
def tw13622395363159103572:=0
def tw3154881082186680010:=0
def tw7895262292980594390:=0
def tw16194748155581410288:=0
def tw11978304663325364454:=0
def tw5661208574384428958:=0
def tw3298194562452270681:=0
def tw4508828027430872938:=0
def tw5879611899367043159:=0
def tw17447477408190539508:=0
def tw2472059634329457222:=0
def tw15239041500793203736:=0
def tw2847799694484351578:=0
def tw10019790788754856286:=0
def tw16979193886921756723:=0
def tw17454561089116963694:=0
def tw12717261456272573573:=0
def tw6319050303825853526:=0
def tw313924551011079178:=0
def tw11972734520088283503:=0
def tw11574127040665442197:=0
def tw3415038050439676355:=0
def tw6062564984098614638:=0
def tw4848923918845049982:=0
def tw1497318404831200778:=0
def tw3535762779791203715:=0
def tw8843811979041028066:=0
def tw1697810350242325108:=0
def tw5478746128161588875:=0
def tw7380575364456980001:=0
def tw13568973117212626757:=0
def tw12742197138123676818:=0
def tw1389454414705027393:=0
def tw14317279904121878385:=0
def tw2465246533031974703:=0
def tw10509929180415266049:=0
def tw7750398427980648622:=0
def tw1632035239231208544:=0
def tw14597361396251500830:=0
def tw1082298680535900079:=0
def tw12822925877024571717:=0
def tw7385979686319564358:=0
def tw13592796236334795322:=0
def tw15754169708160634306:=0
def tw4314392996886331200:=0
def tw17202979691297763995:=0
def tw4610014572843448029:=0
def tw16425305972762915211:=0
def tw3942619558538191285:=0
def tw12499029386712348008:=0
def tw4257336734957578788:=0
def tw17868081163504262900:=0
def tw4869605648451507879:=0
def tw11210965796723509614:=0
def tw3294842759531325322:=0
def tw12298543178162961661:=0
def tw18231563549077034251:=0
def tw14780461422705303409:=0
def tw11366373708827277981:=0
def tw7882719429987179127:=0
def tw15771486913792775461:=0
def tw2603003294947815585:=0
def tw8718082840544571202:=0
def tw3275338100217473533:=0
def tw312415059810483120:=0
def tw13248807776603088096:=0
def tw9596092903733870009:=0
def tw15967371136457377924:=0
def tw14178210419086313452:=0
def tw6793009887901593923:=0
def tw16418547217915449629:=0
def tw5156344363589367391:=0
def tw5479583963567062863:=0
def tw14120801671180431033:=0
def tw14734783371999705763:=0
def tw3630315167874864658:=0
def tw6819558074073293218:=0
def tw9897299983008297756:=0
def tw13895591768151615648:=0
def tw5951941969025028739:=0
def tw17092973923253319136:=0
def tw8935637787156603482:=0
def tw14120201363663410831:=0
def tw4672896813106421248:=0
def tw1334961191499669479:=0
def tw6803389894722911292:=0
def tw3740382347268337156:=0
def tw17860787592295189248:=0
def tw15827126943626228461:=0
def tw7904803765752281377:=0
def tw8954981793615167845:=0
def tw6249242159426537980:=0
def tw9423595976434387584:=0
def tw8865729760733847439:=0
def tw3768098210646332449:=0
def tw6529411261453142223:=0
def tw6946472077109033848:=0
def tw16419433432968825247:=0
def tw16508355495505556432:=0
def tw342063238548523791:=0
def tw16400321021021568408:=0
def tw5505150440229353840:=0
def tw2656221995889081453:=0
def tw2657887558907161006:=0
def tw17987501147144714787:=0
def tw9509709779401118506:=0
def tw16284849251778626740:=0
def tw862416632744486420:=0
def tw1402989179296406367:=0
def tw12017679930210564537:=0
def tw15392703775497866919:=0
def tw13603986668413068848:=0
def tw7241008100641581113:=0
def tw3411649350925060101:=0
def tw16971243340211952190:=0
def tw16431100566389967926:=0
def tw9355711020909144891:=0
def tw17714751678079288369:=0
def tw17455972020642665487:=0
def tw6543451375816924339:=0
def tw18037768493665448043:=0
def tw4879039519429300843:=0
def tw3306379141488302811:=0
def tw14485618072230001161:=0
def tw14992814697566970194:=0
def tw6939029648010482151:=0
def tw12326200973478665527:=0
def tw9603160742093390225:=0
def tw12683253964731444987:=0
def tw8757035722960001409:=0
def tw8590080852944600556:=0
def tw16278246242159361915:=0
def tw6994493979740164797:=0
def tw17834672519385557403:=0
def tw578305509444981076:=0
def tw1254617812561493605:=0
def tw15062389117240922182:=0
def tw6150720285538228330:=0
def tw8461586533518956636:=0
def tw17103428302164343135:=0
def tw8322616815708252414:=0
def tw662962387016480584:=0
def tw5573459576984258581:=0
def tw703266294667496378:=0
def tw13333385093073976953:=0
def tw473546948483868394:=0
def tw5291622646567859188:=0
def tw11338355601730909352:=0
def tw10724285364880805778:=0
def tw8077911620628952681:=0
def tw8425569403428541968:=0
def tw16781616073129074284:=0
def tw1583037665270917290:=0
def tw15472283960821294166:=0
def tw15196011448160735142:=0
def tw5410929800273555936:=0
def tw15746276137533010116:=0
def tw12928376767465013316:=0
def tw9734060443875506164:=0
def tw17296227514261747634:=0
def tw10561179974502178573:=0
def tw11135214470566994424:=0
def tw7184653632177230681:=0
def tw654919291013369779:=0
def tw12065587191241903165:=0
def tw3267200989633673111:=0
def tw3339195535498147093:=0
def tw18091335574943000781:=0
def tw4860308541955792048:=0
def tw2993176280350708024:=0
def tw1219423713297028044:=0
def tw5289865201649172238:=0
def tw10632731770016689752:=0
def tw8691284238909562092:=0
def tw6285517253726325261:=0
def tw1665208963606405221:=0
def tw6503051593624929436:=0
def tw1203099533160234089:=0
def tw3889497845523117930:=0
def tw3730086923793236828:=0
def tw11791259660830527570:=0
def tw16222112139463153359:=0
def tw6218819070177114571:=0
def tw12498176673817071215:=0
def tw7861639761815036264:=0
def tw4476663476585664202:=0
def tw3999854800613199642:=0
def tw2224166277445622004:=0
def tw16359011852929922988:=0
def tw15436422761003741887:=0
def tw13708132115798815476:=0
def tw1346445411492347042:=0
def tw13291626539599366565:=0
def tw13017494847424199966:=0
def tw2578927189165619971:=0
def tw15318757230775327610:=0
def tw1811010915502046448:=0
def tw16000871023209018264:=0
def tw442907146967315514:=0
def tw6501033974276538967:=0
def tw713737221370759977:=0
def tw2853259009838681577:=0
def tw18285106118747902603:=0
def tw259780034999891684:=0
def tw13831668696054516020:=0
def tw7092960719154882661:=0
def tw17716003458341089678:=0
def tw17089707580868095237:=0
def tw18379825027552529601:=0
def tw9322303280687090643:=0
def tw9023146591207296328:=0
def tw3911006820136616711:=0
def tw1699212472660581064:=0
def tw11957012567978497786:=0
def tw11521052805773007712:=0
def tw10206883500861631572:=0
def tw4550125253767940859:=0
def tw10536490855722412002:=0
def tw12127578346380898247:=0
def tw6355396767744118099:=0
def tw12148671576468754394:=0
def tw4073616777935510197:=0
def tw7776725678686436920:=0
def tw3656937836067214294:=0
def tw9842755981741650215:=0
def tw3149674021557637122:=0
def tw1643923596861876543:=0
def tw11801595066447756806:=0
def tw8891243473295044150:=0
def tw4083881918974772306:=0
def tw1137044006837903381:=0
def tw5543382011167090758:=0
def tw17519900577381466616:=0
def tw16517746584789799205:=0
def tw108199201429588673:=0
def tw9505481654139192347:=0
def tw8976620010526256353:=0
def tw2445611818157678458:=0
def tw8001649201967181831:=0
def tw323904538807207984:=0
def tw378500729318341879:=0
def tw18305795036166528807:=0
def tw6297225079976198811:=0
def tw18300517348483376049:=0
def tw17488376238863288773:=0
def tw3810986909624840701:=0
def tw4448443429293855062:=0
def tw2345009972420466872:=0
def tw5514170887525053412:=0
def tw9047523672347221756:=0
def tw1660778191034364556:=0
def tw7621468538205780945:=0
def tw7791675757728254586:=0
def tw12329758031315942464:=0
def tw11521144350962445001:=0
def tw16319990508546661203:=0
def tw6147458346497724251:=0
def tw12745565371390349968:=0
def tw636982744686196997:=0
def tw7807664479799613853:=0
def tw2261960481881372569:=0
def tw18321504485589606169:=0
def tw10195765435423935628:=0
def tw4588633619316397647:=0
def tw2857100273409270745:=0
def tw2224975970379327487:=0
def tw1834075601318414462:=0
def tw1766604968432837273:=0
def tw16948721563902142974:=0
def tw14863966105621307933:=0
def tw10039378849732033087:=0
def tw12303519957021162726:=0
def tw11226987138645663143:=0
def tw1926920572562936093:=0
def tw18016469513032108998:=0
def tw13185145531826692240:=0
def tw1295290031141801761:=0
def tw3925322417559247055:=0
def tw2312561934989865908:=0
def tw17383073724976568111:=0
def tw11354063587870957201:=0
def tw15828449816363827974:=0
def tw7963504472027294012:=0
def tw12091930101085073891:=0
def tw3699493744221522948:=0
def tw2152666270699975502:=0
def tw101195453828246762:=0
def tw6332447585993860514:=0
def tw2372425294384679309:=0
def tw16298692144197968330:=0
def tw14499321681421070115:=0
def tw14651949191407705152:=0
def tw6942026731540317367:=0
def tw2794552368960915439:=0
def tw9027777107572905111:=0
def tw14410048006113766468:=0
def tw272107806405342374:=0
def tw11535334770972483387:=0
def tw10543859255749098767:=0
def tw4812853049871791390:=0
def tw18315418019727475139:=0
def tw13488890800328547869:=0
def tw16358643248636510438:=0
def tw12929070967867636301:=0
def tw11778690363576606212:=0
def tw8076809133295399977:=0
def tw18296629079841886774:=0
def tw701038739528788864:=0
def tw15458091098192709171:=0
def tw14454367439672138643:=0
def tw10593681544447527942:=0
def tw14484036293320127457:=0
def tw9547416519479677889:=0
def tw6418308178996073838:=0
def tw15229079712848714171:=0
def tw10871846080852995855:=0
def tw4057051783456939955:=0
def tw2087264055907121337:=0
def tw17348947534440433411:=0
def tw13653057784730762903:=0
def tw11932348857579124241:=0
def tw15396037595071000778:=0
def tw11844620533494323260:=0
def tw16195721926077308379:=0
def tw9351942804047503053:=0
def tw8224696492333927473:=0
def tw3476750906332212097:=0
def tw1525369815502534510:=0
def tw12713748525957685598:=0
def tw9151864439574634641:=0
def tw6881390478881398040:=0
def tw9412919885678951808:=0
def tw17061697652538842769:=0
def tw1141565538450332185:=0
def tw13794980087522700517:=0
def tw4138017150991528872:=0
def tw14248956774894288650:=0
def tw3523114242351120633:=0
def tw2780721143128005247:=0
def tw5698556269580117350:=0
def tw15734388263328448268:=0
def tw9963115078839094775:=0
def tw586691249582663658:=0
def tw1416394917664212631:=0
def tw13252440416229590:=0
def tw5824032451980700321:=0
def tw17168485067434425374:=0
def tw11157584494495076042:=0
def tw12690607785888101467:=0
def tw9650354681793325758:=0
def tw7266446180160046925:=0
def tw9237013767287483201:=0
def tw1262524304242488410:=0
def tw9273460154510204727:=0
def tw6924390931385231142:=0
def tw10636037293682516059:=0
def tw9393654899959622052:=0
def tw11819697479951810427:=0
def tw4792799211276547769:=0
def tw9197270717828197503:=0
def tw8500798888494141303:=0
def tw8038472110990078660:=0
def tw505242548568061088:=0
def tw13155934197566383555:=0
def tw2764522945836550055:=0
def tw2414487520971744376:=0
def tw16398721297642344832:=0
def tw13108028397251636051:=0
def tw6067373108764601713:=0
def tw3849365474754181751:=0
def tw16795071282705421938:=0
def tw1580786213689295972:=0
def tw11063384976631452850:=0
def tw6133180296921952623:=0
def tw16646710853457616667:=0
def tw11700845562428277870:=0
def tw529315852256764130:=0
def tw7579473633517596404:=0
def tw6895315922341984491:=0
def tw2782137596286826159:=0
def tw9427121225465491360:=0
def tw2484333502121171147:=0
def tw11883558698582751656:=0
def tw15767425621709249292:=0
def tw6210005662364695633:=0
def tw5779464281716554911:=0
def tw4406281889173832320:=0
def tw1378333976067937775:=0
def tw17810188490379188032:=0
def tw18085093870702699897:=0
def tw17895411953953922347:=0
def tw9353419528745909325:=0
def tw11093858125012163134:=0
def tw9737613254956166559:=0
def tw7439457237975113962:=0
def tw4673751139686112315:=0
def tw1911776261457771667:=0
def tw15588651857623821629:=0
def tw14635672647646425016:=0
def tw1549845896088297108:=0
def tw11835826371635777878:=0
def tw1662915983753041938:=0
def tw11468268545462728380:=0
def tw11927382496170458081:=0
def tw10553511991601551437:=0
def tw287557002366554931:=0
def tw14676171231318870896:=0
def tw4934589192621579271:=0
def tw7632533669343225575:=0
def tw8771895754862946570:=0
def tw7499000200078044324:=0
def tw4168098841033332850:=0
def tw14867192318933653784:=0
def tw3549152582898101879:=0
def tw16562873616691745807:=0
def tw15784170504305427328:=0
def tw11670337436012454407:=0
def tw14089693405919124035:=0
def tw9181444878210295204:=0
def tw8431409979969991741:=0
def tw7232360052618381343:=0
def tw5010946130386808509:=0
def tw4647293616158837890:=0
def tw4613925308064849817:=0
def tw2970076060896324248:=0
def tw2813768743437665471:=0
def tw2505470749978134584:=0
def tw2286630695398940689:=0
def tw2109455635831862110:=0
def tw15808810034887001273:=0
def tw14305326519830487267:=0
def tw12388394617818067199:=0
def tw8731680182109529964:=0
def tw5723429347380980617:=0
def tw3123903778778760977:=0
def tw11942446874918345124:=0
def tw876469147397597082:=0
def tw732142575171365025:=0
def tw5131081598570385182:=0
def tw3637735741508289854:=0
def tw1960580094073075722:=0
def tw1574214799843984732:=0
def tw15587565195906622339:=0
def tw138545380251505935:=0
def tw12800241766718562326:=0
def tw12779889080952196924:=0
def tw11196378135003493823:=0
def tw1680780121803273076:=0
def tw12840412001747967316:=0
def tw8173410819005120060:=0
def tw5588321282752235298:=0
def tw18229987556661278967:=0
def tw16629025008523519792:=0
end PySem.W.Fast
open PySem PySem.W PyProof.Rows
set_option maxRecDepth 100000 in
set_option maxHeartbeats 0 in
theorem PySem.Challenge.cw_manydeeds_k64_fillings_refused_holds : PySem.Challenge.rw_manydeeds_k64_fillings_refused.Holds := by
 w_on;o_law;k_head;(case hw=>w_witness2)
 k_fill
 refine K64.walk (l:=PySem.Challenge.rw_manydeeds_k64_fillings_refused) rfl rfl (λw h Y=>W.kIn_of Y) ?F
 case F =>
  intro w mg fa h KX G hmg
  refine' K64.all_mk KX G hmg ?_ ?_ ?_ ?_ ?_ ?_ ?_ ?_ ?_ ?_ ?_ ?_ ?_ ?_ ?_ ?_ ?_ ?_ ?_ ?_ ?_ ?_ ?_ ?_ ?_ ?_ ?_ ?_ ?_ ?_ ?_ ?_ ?_ ?_ ?_ ?_ ?_ ?_ ?_ ?_ ?_ ?_ ?_ ?_ ?_ ?_ ?_ ?_ ?_ ?_ ?_ ?_ ?_ ?_ ?_ ?_ ?_ ?_ ?_ ?_ ?_ ?_ ?_ ?_ ?_ ?_ ?_ ?_ ?_ ?_ ?_ ?_ ?_ ?_ ?_ ?_ ?_ ?_ ?_ ?_ ?_ ?_ ?_ ?_ ?_ ?_ ?_ ?_ ?_ ?_ ?_ ?_ ?_ ?_ ?_ ?_ ?_ ?_ ?_ ?_ ?_ ?_ ?_ ?_ ?_ ?_ ?_ ?_ ?_ ?_ ?_ ?_ ?_ ?_ ?_ ?_ ?_ ?_ ?_ ?_ ?_ ?_ ?_ ?_ ?_ ?_ ?_ ?_ ?_ ?_ ?_ ?_ ?_ ?_ ?_ ?_ ?_ ?_ ?_ ?_ ?_ ?_ ?_ ?_ ?_
  any_goals first | exact L2.qc (by k_is) (by k_is) (by k_is) (by k_is) (by k_is) (by k_is) | exact L2.qa (by k_is) (by k_is) (by k_is) (by k_is) (by k_is) (by k_is) (by k_is) (by k_is) (by k_is) (by k_is) (by k_is) (by k_is) | exact L2.qi (by k_is) (by k_is) (by k_is) (by k_is) (by k_is) (by k_is) (by k_is) (by k_is) (by k_is) (by k_is) (by k_is) (by k_is) (by k_is) (by k_is) | exact⟨by k_is,by k_is,by k_is⟩ | exact⟨by k_is,by k_is,by k_is,by k_is,by k_is,by k_is,by k_is,by k_is,by k_is,by k_is,by k_is,by k_is,by k_is,by k_is,by k_is⟩ | skip
  any_goals first | exact L2.tp (by k_is) (by k_is) (by k_is) (by k_is) | exact L2.mp (by k_is) (by k_is) (by k_is) (by k_is) (by k_is) | exact⟨by k_is,by k_is,by k_is,by k_is,by k_is,by k_is,by k_is⟩ | k_is
