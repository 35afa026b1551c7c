import PyProof.Rows.All
import Wide.All
import OpenK.AllK
import Wide.FinOn
import Lean
import PyProof.EqAt
import PyProof.EqKinds
import PyProof.TupleCall
import PySem.Challenge.RW_manydeeds_k46_walkers_judged
set_option Elab.async false
set_option linter.all false
set_option maxRecDepth 100000
namespace L2
open PySem PySem.Spec PyProof.Rows
abbrev Key:=Sum Int Str
def Zns:Key→Value→Bool
 | .inl k,v=>Value.isInt k v
 | .inr x,v=>Value.isStrOf x v
def Z40 (w:World):Key→Int
 | .inl k=>hashInt k
 | .inr x=>hashStr w x
theorem Zcm:∀ {k:Key}{v:Value},Zns k v=true→(∃ i t,k=Sum.inl i∧v=Value.int i t)∨(∃ x t,k=Sum.inr x∧v=Value.str x t)
 | .inl i,v,h=>by
  obtain ⟨t,e⟩:=Value.isInt_shape (k:=i) (v:=v) h
  exact .inl ⟨i,t,rfl,e⟩
 | .inr x,v,h=>by
  obtain ⟨t,e⟩:=Value.isStrOf_shape (x:=x) (v:=v) h
  exact .inr ⟨x,t,rfl,e⟩
theorem Zs8 (i:Int) (t:Tok):Zns (.inl i) (.int i t)=true:=by simp [Zns,Value.isInt]
theorem Zs7 (x:Str) (t:Tok):Zns (.inr x) (.str x t)=true:=by simp [Zns,Value.isStrOf]
theorem Z0l (a b:Int):decide ((Sum.inl a:Key)=Sum.inl b)=(a == b):=by
 by_cases e:a=b
 ·subst e;simp
 ·have h:¬ (Sum.inl a:Key)=Sum.inl b:=fun q=>e (Sum.inl.inj q)
  rw [decide_eq_false h]
  exact (beq_eq_false_iff_ne.mpr e).symm
theorem Z0i (a b:Str):decide ((Sum.inr a:Key)=Sum.inr b)=decide (a=b):=by
 by_cases e:a=b
 ·subst e;simp
 ·have h:¬ (Sum.inr a:Key)=Sum.inr b:=fun q=>e (Sum.inr.inj q)
  rw [decide_eq_false h,decide_eq_false e]
theorem Z0k (a:Int) (b:Str):decide ((Sum.inl a:Key)=Sum.inr b)=false:=decide_eq_false (fun q=>nomatch q)
theorem Z0j (a:Str) (b:Int):decide ((Sum.inr a:Key)=Sum.inl b)=false:=decide_eq_false (fun q=>nomatch q)
def Zca (prog:Program) (w:World):PySem.KeyKind prog w Key where
 is:=Zns
 hash:=Z40 w
 inj:=fun v a b ha hb=>by
  rcases Zcm ha with ⟨i,t,rfl,rfl⟩ | ⟨x,t,rfl,rfl⟩
  ·rcases Zcm hb with ⟨j,u,rfl,e⟩ | ⟨y,u,rfl,e⟩
   ·injection e with e1 _;rw [e1]
   ·exact nomatch e
  ·rcases Zcm hb with ⟨j,u,rfl,e⟩ | ⟨y,u,rfl,e⟩
   ·exact nomatch e
   ·injection e with e1 _;rw [e1]
 byValue:=fun k v h=>by
  rcases Zcm h with ⟨i,t,rfl,rfl⟩ | ⟨x,t,rfl,rfl⟩ <;> rfl
 pyHash:=fun hv h=>by
  rcases Zcm hv with ⟨i,t,rfl,rfl⟩ | ⟨x,t,rfl,rfl⟩
  ·exact wpAny_pyHash_int h
  ·exact wpAny_pyHash_str h
 eqBool:=fun hu hv h=>by
  rcases Zcm hu with ⟨i,t,rfl,rfl⟩ | ⟨x,t,rfl,rfl⟩
  ·rcases Zcm hv with ⟨j,u,rfl,rfl⟩ | ⟨y,u,rfl,rfl⟩
   ·rw [Z0l] at h;exact wpAny_eqBool_int h
   ·rw [Z0k] at h;exact SeqAt.EqAt.int_str i t y u _ _ _ _ h
  ·rcases Zcm hv with ⟨j,u,rfl,rfl⟩ | ⟨y,u,rfl,rfl⟩
   ·rw [Z0j] at h;exact SeqAt.EqAt.str_int x t j u _ _ _ _ h
   ·rw [Z0i] at h;exact wpAny_eqBool_str h
 «strs»:=fun k x t v h=>by
  rcases Zcm h with ⟨i,u,rfl,e⟩ | ⟨y,u,rfl,e⟩
  ·exact nomatch e
  ·injection e with e1 _
   subst e1
   cases v <;> rfl
theorem Znm (prog:Program) (w:World) (i:Int) (t:Tok):(Zca prog w).is (.inl i) (.int i t)=true:=Zs8 i t
theorem Znl (prog:Program) (w:World) (x:Str) (t:Tok):(Zca prog w).is (.inr x) (.str x t)=true:=Zs7 x t
end L2
namespace L2
open PySem PySem.Spec PyProof.Rows
inductive V where
 | non | bl (b:Bool) | int (i:Int) | str (x:Str) | byt (b:Array UInt8) | flt (b:UInt64) | ref (a:Addr) | ty (n:String)
 deriving DecidableEq
def Zc4:V→Value→Prop
 | .non,u=>u=Value.none
 | .bl b,u=>u=Value.bool b
 | .int i,u=>∃ t,u=Value.int i t
 | .str x,u=>∃ t,u=Value.str x t
 | .byt b,u=>∃ t,u=Value.bytes b t
 | .flt b,u=>∃ t,u=Value.float b t
 | .ref a,u=>u=Value.ref a
 | .ty n,u=>u=Value.type n
abbrev Zcn:List V→List Value→Prop:=Paired Zc4
theorem Zcn.length {xs:List V}{us:List Value}(r:Zcn xs us):xs.length=us.length:=Paired.length r
theorem Zcn.get:∀ {xs:List V}{us:List Value}{i:Nat}{x:V},Zcn xs us→xs[i]?=some x→∃ u,us[i]?=some u∧Zc4 x u
 | _,_,_,_,.nil,e=>by simp at e
 | _,_,0,_,.cons r _,e=>by simp at e;subst e;exact ⟨_,rfl,r⟩
 | _,_,i + 1,x,.cons _ t,e=>by
  obtain ⟨u,h1,h2⟩:=Zcn.get (i:=i) (x:=x) t (by simpa using e)
  exact ⟨u,by simpa using h1,h2⟩
theorem Zcn.set {x:V}{u:Value}(r:Zc4 x u):∀ {xs:List V}{us:List Value}(i:Nat),Zcn xs us→Zcn (xs.set i x) (us.set i u)
 | _,_,_,.nil=>.nil
 | _,_,0,.cons _ t=>.cons r t
 | _,_,i + 1,.cons q t=>.cons q (Zcn.set r i t)
theorem Zcn.append:∀ {xs ys:List V}{us ws:List Value},Zcn xs us→Zcn ys ws→Zcn (xs++ys) (us++ws)
 | _,_,_,_,.nil,s=>s
 | _,_,_,_,.cons r t,s=>.cons r (Zcn.append t s)
theorem Zcn.take:∀ {xs:List V}{us:List Value}(n:Nat),Zcn xs us→Zcn (xs.take n) (us.take n)
 | _,_,0,_=>.nil
 | _,_,_ + 1,.nil=>.nil
 | _,_,n + 1,.cons r t=>.cons r (Zcn.take n t)
theorem Zcn.drop:∀ {xs:List V}{us:List Value}(n:Nat),Zcn xs us→Zcn (xs.drop n) (us.drop n)
 | _,_,0,r=>r
 | _,_,_ + 1,.nil=>.nil
 | _,_,n + 1,.cons _ t=>Zcn.drop n t
def Zm0:Option V→Option Value→Prop
 | some v,some u=>Zc4 v u
 | none,none=>True
 | _,_=>False
def KV {κ:Type}:List (κ×V)→List (κ×Value)→Prop:=Paired fun (p:κ×V) (q:κ×Value)=>p.1=q.1∧Zc4 p.2 q.2
def kV:Key→V
 | .inl i=>.int i
 | .inr x=>.str x
inductive HO where
 | lst (xs:List V)
 | tup (xs:List V)
 | dK (kvs:List (Key×V)) | dT (kvs:List (List Key×V))
 | set (S:Int→Bool) (n:Nat)
 | ins (C dx:Addr) (fs:List (Str×V))
 | own (x:Addr)
 | xd (fs:List (Str×V))
 | met (f x:Addr)
 | rng (lo hi:Int)
 | frz (o:Obj) (u:HO)
 | tbl (ps:Array Value)
 | ext (φ:Heap→Prop)
abbrev Hp:=Addr→Option HO
def upd (H:Hp) (a:Addr) (o:HO):Hp:=fun b=>if b=a then some o else H b
theorem uS {H:Hp}{a:Addr}{o:HO}:upd H a o a=some o:=by unfold upd;rw [if_pos rfl]
theorem Zac {H:Hp}{a b:Addr}{o:HO}(h:b≠a):upd H a o b=H b:=by unfold upd;rw [if_neg h]
theorem Zhf {H:Hp}{a:Addr}{o u:HO}:upd (upd H a o) a u=upd H a u:=by
 funext b;unfold upd;split <;> rfl
theorem Zxu {H:Hp}{a b:Addr}{o u:HO}(h:H a=some o) (h':H b=some u) (d:o≠u):a≠b:=by
 intro e;subst e;rw [h] at h';exact d (Option.some.inj h')
theorem nNo {H:Hp}{a b:Addr}{o:HO}(h:H a=some o) (h':H b=none):a≠b:=by
 intro e;subst e;rw [h] at h';cases h'
section
variable (P:Program) (w:World)
def Zc5 (H:Hp) (h:Heap) (a:Addr):HO→Prop
 | .lst xs=>xs.length≤sizeLine∧∃ (its:List Value) (n:Nat),Zcn xs its∧h.get? a=some { cls:=.type "list",data:=.seq its.toArray n }
 | .tup xs=>xs.length≤sizeLine∧∃ its:List Value,Zcn xs its∧IsTup h a its.toArray
 | .dK kvs=>kvs.length≤sizeLine∧(a == sysModules)=false∧∃ vs,KV kvs vs∧h.DictOf (Zca P w) a vs
 | .dT kvs=>kvs.length≤sizeLine∧(a == sysModules)=false∧∃ xs:List (List Key×Addr×Value),
   Paired (fun (p:List Key×V) (q:List Key×Addr×Value)=>p.1=q.1∧H q.2.1=some (.tup (p.1.map kV))∧Zc4 p.2 q.2.2) kvs xs ∧
   ∃ o es ep,h.get? a=some o∧o.ExactDict∧o.data=.dict es ep∧es.toList=xs.map (entryOfKey (tupleKind (Zca P w)))∧(xs.map (·.1)).Nodup
 | .set S n=>h.SetOf (intKind P w) a S n
 | .ins C dx fs=>H dx=some (.own a)∧fs.length≤1000∧dx≠a∧h.get? a=some (PySem.W.instObj C dx) ∧
   ∃ mA,h.Ns1 dx mA∧(∀ f,Zm0 (fs.lookup f) (mA f))∧PySem.Within mA (fs.map (·.1))
 | .own _=>∃ o,h.get? a=some o
 | .xd fs=>∃ mA,h.Ns1 a mA∧∀ f,Zm0 (fs.lookup f) (mA f)
 | .rng lo hi=>∃ t u v,h.get? a=some { cls:=.type "range",data:=.fields #[.int lo t,.int hi u,.int 1 v] }
 | .frz o u=>h.get? a=some o∧Zc5 H h a u
 | .tbl ps=>h.get? a=some { cls:=.none,data:=.fields ps }
 | .met f x=>h.get? a=some (PySem.W.methodObj (.ref f) (.ref x))
 | .ext φ=>φ h∧(∃ o,h.get? a=some o)∧∀ h1 h2:Heap,φ h1→(∀ o,h1.get? a=some o→h2.get? a=some o)→φ h2
def HOk (H:Hp) (h:Heap):Prop:=∀ a o,H a=some o→Zc5 P w H h a o
end
section
variable {P:Program} {w:World} {H H':Hp} {h h':Heap} {a:Addr} {o:HO}
theorem Zc5.lt (x:Zc5 P w H h a o):a<h.objs.size:=by
 cases o with
 | lst xs=>obtain ⟨_,_,_,_,e⟩:=x;exact Heap.lt_size e
 | tup xs=>obtain ⟨_,_,_,p⟩:=x;exact p.lt
 | dK kvs=>obtain ⟨_,_,_,_,o,_,_,e,_⟩:=x;exact Heap.lt_size e
 | dT kvs=>obtain ⟨_,_,_,_,o,_,_,e,_⟩:=x;exact Heap.lt_size e
 | set S n=>obtain ⟨o,_,_,_,e,_⟩:=x;exact Heap.lt_size e
 | ins C dx fs=>obtain ⟨_,_,_,e,_⟩:=x;exact Heap.lt_size e
 | own y=>obtain ⟨_,e⟩:=x;exact Heap.lt_size e
 | xd fs=>obtain ⟨_,⟨_,_,_,e,_⟩,_⟩:=x;exact Heap.lt_size e
 | rng lo hi=>obtain ⟨_,_,_,e⟩:=x;exact Heap.lt_size e
 | frz ob u=>obtain ⟨e,_⟩:=x;exact Heap.lt_size e
 | tbl ps=>exact Heap.lt_size (show h.get? a=some _ from x)
 | met f y=>exact Heap.lt_size (show h.get? a=some _ from x)
 | ext φ=>obtain ⟨_,⟨_,e⟩,_⟩:=x;exact Heap.lt_size e
theorem Paired.mapP {α β:Type}{F G:α→β→Prop}:∀ {l₁:List α}{l₂:List β},Paired F l₁ l₂→(∀ a b,F a b→G a b)→Paired G l₁ l₂
 | _,_,.nil,_=>.nil
 | _,_,.cons r t,f=>.cons (f _ _ r) (Paired.mapP t f)
theorem Zc5.stay (x:Zc5 P w H h a o) (k:∀ b u,(b=a∨H b=some (.own a))→h.get? b=some u→h'.get? b=some u)
  (ho:∀ b,H b=some (.own a)→H' b=some (.own a)) (ht:∀ b xs,H b=some (.tup xs)→H' b=some (.tup xs)):Zc5 P w H' h' a o:=by
 induction o with
 | lst xs=>obtain ⟨z,its,n,r,e⟩:=x;exact ⟨z,its,n,r,k _ _ (.inl rfl) e⟩
 | tup xs=>obtain ⟨z,its,r,ob,e,c⟩:=x;exact ⟨z,its,r,ob,k _ _ (.inl rfl) e,c⟩
 | dK kvs=>obtain ⟨z,y,vs,r,ob,es,ep,e,c⟩:=x;exact ⟨z,y,vs,r,ob,es,ep,k _ _ (.inl rfl) e,c⟩
 | dT kvs =>
  obtain ⟨z,y,xs,r,ob,es,ep,e,c⟩:=x
  exact ⟨z,y,xs,Paired.mapP r fun p q z=>⟨z.1,ht _ _ z.2.1,z.2.2⟩,ob,es,ep,k _ _ (.inl rfl) e,c⟩
 | set S n=>obtain ⟨ob,es,ep,t,e,c⟩:=x;exact ⟨ob,es,ep,t,k _ _ (.inl rfl) e,c⟩
 | ins C dx fs =>
  obtain ⟨d,z,ne,e,mA,⟨od,es,ep,e2,c⟩,r⟩:=x
  exact ⟨ho _ d,z,ne,k _ _ (.inl rfl) e,mA,⟨od,es,ep,k _ _ (.inr d) e2,c⟩,r⟩
 | own y=>obtain ⟨ob,e⟩:=x;exact ⟨ob,k _ _ (.inl rfl) e⟩
 | xd fs=>obtain ⟨mA,⟨od,es,ep,e,c⟩,r⟩:=x;exact ⟨mA,⟨od,es,ep,k _ _ (.inl rfl) e,c⟩,r⟩
 | rng lo hi=>obtain ⟨t,u,v,e⟩:=x;exact ⟨t,u,v,k _ _ (.inl rfl) e⟩
 | frz ob u ih=>obtain ⟨e,q⟩:=x;exact ⟨k _ _ (.inl rfl) e,ih q⟩
 | tbl ps =>
  have e:h.get? a=some { cls:=.none,data:=.fields ps }:=x
  show h'.get? a=some { cls:=.none,data:=.fields ps }
  exact k a _ (.inl rfl) e
 | met f y =>
  have e:h.get? a=some (PySem.W.methodObj (.ref f) (.ref y)):=x
  show h'.get? a=some (PySem.W.methodObj (.ref f) (.ref y))
  exact k a _ (.inl rfl) e
 | ext φ=>obtain ⟨p,⟨o,e⟩,st⟩:=x;exact ⟨st _ _ p fun o q=>k _ _ (.inl rfl) q,⟨o,k _ _ (.inl rfl) e⟩,st⟩
theorem HOk.lt (x:HOk P w H h) (e:H a=some o):a<h.objs.size:=(x a o e).lt
theorem HOk.fresh (x:HOk P w H h) (e:h.objs.size≤a):H a=none:=by
 cases q:H a with
 | none=>rfl
 | some u=>exact absurd (Nat.lt_of_lt_of_le (x.lt q) e) (Nat.lt_irrefl _)
theorem HOk.kept (x:HOk P w H h) (k:∀ b u,h.get? b=some u→h'.get? b=some u):HOk P w H h':=fun a o e =>
 (x a o e).stay (fun b u _ q=>k b u q) (fun _ q=>q) fun _ _ q=>q
theorem HOk.laid (x:HOk P w H h) (k:∀ b u,h.get? b=some u→h'.get? b=some u) (hp:h.objs.size≤a) (new:Zc5 P w (upd H a o) h' a o):HOk P w (upd H a o) h':=fun b u e=>by
 have hn:=x.fresh hp
 by_cases hb:b=a
 ·subst hb;rw [uS] at e;cases e;exact new
 ·rw [Zac hb] at e
  exact (x b u e).stay (fun c v _ q=>k c v q) (fun c q=>by rw [Zac (nNo q hn)];exact q) fun c xs q=>by rw [Zac (nNo q hn)];exact q
end
def Rd (H:Hp) (a:Addr) (u:HO):Prop:=H a=some u∨∃ o,H a=some (.frz o u)
theorem Rd.ok {P:Program}{w:World}{H:Hp}{h:Heap}{a:Addr}{u:HO}(r:Rd H a u) (x:HOk P w H h):Zc5 P w H h a u:=by
 rcases r with r | ⟨o,r⟩
 ·exact x a u r
 ·obtain ⟨_,q⟩:=x a _ r
  exact q
def Mut:Option HO→Prop
 | some (.lst _)=>True
 | some (.dK _)=>True
 | some (.dT _)=>True
 | some (.set _ _)=>True
 | some (.ins _ _ _)=>True
 | some (.ext _)=>True
 | _=>False
section
variable {P:Program} {w:World} {H:Hp} {h h':Heap} {x e:Addr} {o':HO}
theorem HOk.write (ok:HOk P w H h) (mu:Mut (H x)) (he:e=x∨H e=some (.own x)) (k:∀ b u,b≠e→h.get? b=some u→h'.get? b=some u) (heo:∃ u,h'.get? e=some u)
  (new:Zc5 P w (upd H x o') h' x o'):HOk P w (upd H x o') h':=fun b u q=>by
 have nown:∀ c y,H c=some (.own y)→c≠x:=fun c y r z=>by subst z;rw [r] at mu;exact mu
 have ntup:∀ c xs,H c=some (.tup xs)→c≠x:=fun c xs r z=>by subst z;rw [r] at mu;exact mu
 by_cases hb:b=x
 ·subst hb;rw [uS] at q;cases q;exact new
 ·rw [Zac hb] at q
  by_cases hbe:b=e
  ·have q':H b=some (.own x):=by
    rcases he with z | z
    ·exact absurd (hbe.trans z) hb
    ·rw [hbe];exact z
   rw [q] at q';cases q'
   obtain ⟨v,hv⟩:=heo
   exact ⟨v,by rw [hbe];exact hv⟩
  ·refine (ok b u q).stay (fun c v hc r=>k c v ?_ r) (fun c r=>by rw [Zac (nown c b r)];exact r) fun c xs r=>by rw [Zac (ntup c xs r)];exact r
   rcases hc with rfl | hc
   ·exact hbe
   ·rintro rfl
    rcases he with z | z
    ·exact nown c b hc z
    ·rw [hc] at z;cases z;exact hb rfl
end
structure Un (fs ex:List Addr) (H H':Hp) (h h':Heap):Prop where
 keep:∀ b o,h.get? b=some o→H b=none→b∉fs→b∉ex→h'.get? b=some o
 slot:∀ b o,h.get? b=some o→H b=none→b∈fs→b∉ex→∃ sl,h'.get? b=some { o with slots:=sl }
 free:∀ b o,h.get? b=some o→H b=none→b∉ex→H' b=none
 there:∀ b o,h.get? b=some o→b∉ex→∃ o',h'.get? b=some o'
 tups:∀ b xs,H b=some (.tup xs)→H' b=some (.tup xs)
 frzs:∀ b o u,H b=some (.frz o u)→H' b=some (.frz o u)
 tbls:∀ b ps,H b=some (.tbl ps)→∃ more,H' b=some (.tbl (ps++more))
section
variable {fs fs' ex ex':List Addr} {H H1 H2:Hp} {h h1 h2 h':Heap} {a x e:Addr} {o:HO}
theorem Un.any (u:Un fs ex H H1 h h1) {b:Addr}{ob:Obj}(q:h.get? b=some ob) (n:H b=none) (hx:b∉ex):∃ sl,h1.get? b=some { ob with slots:=sl }:=by
 by_cases hb:b∈fs
 ·exact u.slot b ob q n hb hx
 ·exact ⟨ob.slots,u.keep b ob q n hb hx⟩
theorem Un.kept (k:∀ b u,h.get? b=some u→h'.get? b=some u):Un fs ex H H h h' :=
 ⟨fun b ob q _ _ _=>k b ob q,fun b ob q _ _ _=>⟨ob.slots,k b ob q⟩,fun _ _ _ n _=>n,fun b ob q _=>⟨ob,k b ob q⟩,fun _ _ q=>q,fun _ _ _ q=>q,fun _ ps q=>⟨#[],by rw [q];simp⟩⟩
theorem Un.refl:Un fs ex H H h h:=Un.kept fun _ _ q=>q
theorem Un.laid (k:∀ b u,h.get? b=some u→h'.get? b=some u) (hp:h.objs.size≤a) (hn:H a=none):Un fs ex H (upd H a o) h h' where
 keep:=fun b u q _ _ _=>k b u q
 slot:=fun b u q _ _ _=>⟨u.slots,k b u q⟩
 free:=fun b u q n _=>by rw [Zac (Nat.ne_of_lt (Nat.lt_of_lt_of_le (Heap.lt_size q) hp))];exact n
 there:=fun b u q _=>⟨u,k b u q⟩
 tups:=fun b xs q=>by rw [Zac (nNo q hn)];exact q
 frzs:=fun b u xs q=>by rw [Zac (nNo q hn)];exact q
 tbls:=fun b ps q=>⟨#[],by rw [Zac (nNo q hn),q];simp⟩
theorem Un.write (mu:Mut (H x)) (he:e=x∨H e=some (.own x)) (k:∀ b u,b≠e→h.get? b=some u→h'.get? b=some u) (heo:∃ u,h'.get? e=some u):Un fs ex H (upd H x o) h h':=by
 have hx:∀ b,H b=none→b≠x:=fun b n z=>by subst z;rw [n] at mu;exact mu
 have hb:∀ b,H b=none→b≠e:=fun b n z=>by
  subst z
  rcases he with r | r
  ·exact hx b n r
  ·rw [n] at r;cases r
 have hm:∀ b u,H b=some u→¬ Mut (some u)→b≠x:=fun b u q nm z=>by subst z;rw [q] at mu;exact nm mu
 refine ⟨fun b u q n _ _=>k b u (hb b n) q,fun b u q n _ _=>⟨u.slots,k b u (hb b n) q⟩,fun b u q n _=>by rw [Zac (hx b n)];exact n,fun b u q _=>?_,
  fun b xs q=>by rw [Zac (hm b _ q fun z=>z)];exact q,fun b u xs q=>by rw [Zac (hm b _ q fun z=>z)];exact q,fun b ps q=>⟨#[],by rw [Zac (hm b _ q fun z=>z),q];simp⟩⟩
 by_cases hbe:b=e
 ·subst hbe;exact heo
 ·exact ⟨u,k b u hbe q⟩
end
def trk (h:Heap) (H:Hp):List Addr:=(List.range h.objs.size).filter fun a=>(H a).isSome
def Zvm (h:Heap) (H:Hp):Heap:=PySem.W.hideAll h (trk h H)
theorem Ztc (h:Heap) (H:Hp):(Zvm h H).objs.size=h.objs.size:=PySem.W.hideAll_size _ _
theorem Zvl {h:Heap}{H:Hp}{b:Addr}{o:Obj}(e:h.get? b=some o) (n:H b=none):(Zvm h H).get? b=some o :=
 PySem.W.hideAll_get _ e fun hm=>by
  have q:(H b).isSome=true:=(List.mem_filter.mp hm).2
  rw [n] at q;simp at q
theorem Zxs {h:Heap}{H:Hp}{b:Addr}{o:Obj}(e:(Zvm h H).get? b=some o):h.get? b=some o∧H b=none:=by
 have e':h.get? b=some o:=PySem.W.of_hideAll (trk h H) e
 refine ⟨e',?_⟩
 cases q:H b with
 | none=>rfl
 | some x =>
  have hm:b∈trk h H:=List.mem_filter.mpr ⟨List.mem_range.mpr (Heap.lt_size e'),by simp [q]⟩
  have z:(Zvm h H).get? b=none:=PySem.W.hideAll_none (trk h H) hm
  rw [z] at e;cases e
def Zym (g h:Heap) (L:Addr):List (Addr×Obj):=(List.range h.objs.size).filterMap fun a=>if a=L∨(g.get? a).isSome=true then none else (h.get? a).map fun o=>(a,o)
def Zor (g h:Heap) (L d:Addr):List (Addr×Obj):=(Zym g h L).filter fun p=>decide (p.1≠d)
end L2
namespace L2
open PySem PySem.Spec PyProof.Rows
structure Mod (K:PySem.W.Frag) (mg:Str→Option Value) (base:Heap):Prop where
 kin:K.In base
 glob:base.Ns mainGlobals mg
 blt:∃ mb,base.Ns builtinsNs mb∧∀ x:Str,x≠"__name__"→mb x=bootBuiltins x
 nolimit:base.NoLimit
structure Cx where
 prog:Program
 w:World
 K:PySem.W.Frag
 mg:Str→Option Value
 base:Heap
 A:Around
 N:List Str
 s₀:Shared
 H₀:Hp
 env:Env
 outer:List Env
 stack:List Env
 ex:List Addr
 fn:Str→Bool
 calm:Bool
 pn:List (Addr×Obj)
 xe:Value→Shared→Prop
def frs (l:List Env):List Addr:=l.filterMap (·.frame)
abbrev Cx.fs (X:Cx):List Addr:=frs X.outer
def Vis (sc:Scope) (x:Str):Prop:=sc.names.lookup x=some .local∨sc.names.lookup x=some .cell∨sc.names.lookup x=some .free
def Loc (sc:Scope) (x:Str):Prop:=sc.names.lookup x=some .local∨sc.names.lookup x=some .cell
def Z5k (env:Env) (h:Heap) (m:Str→Option Value) (x:Str) (u:Value):Prop :=
 (env.kindOf x=some .local∧m x=some u)∨((env.kindOf x=some .cell∨env.kindOf x=some .free)∧∃ c,env.cells.lookup x=some c∧h.IsCell c (some u))
structure Cx.Ok (X:Cx):Prop where
 mod:Mod X.K X.mg X.base
 kind:X.env.scope.kind=.function
 glob:X.env.globals=mainGlobals
 blt:X.env.builtins=builtinsNs
 above:X.s₀.heap.objs.size≤X.env.locals
 inj:∀ x y c,X.env.cells.lookup x=some c→X.env.cells.lookup y=some c→x=y
 has:∀ x,(X.env.kindOf x=some .cell∨X.env.kindOf x=some .free)→∃ c,X.env.cells.lookup x=some c
 cab:∀ x c,X.fn x=true→X.env.cells.lookup x=some c→X.s₀.heap.objs.size≤c
 hd:X.calm=true→X.A.handled=none
 frames:X.A.frames=some X.stack
 stk:X.stack=X.outer∨(X.stack=X.env :: X.outer∧X.env.frame=some X.env.locals)
 exf:∀ b∈X.ex,b≠X.env.locals∧∀ x c,X.env.cells.lookup x=some c→c≠b
 bs:∀ b o,X.base.get? b=some o→X.s₀.heap.get? b=some o∧X.H₀ b=none
 bsz:X.base.objs.size≤X.s₀.heap.objs.size
 noex:∀ b o,X.base.get? b=some o→b∉X.ex
 exfs:∀ b∈X.ex,b∉X.fs
 funs:X.s₀.heap.FunFrames X.base X.outer
 frf:∀ b∈X.fs,X.H₀ b=none
structure Inv (X:Cx) (pins:List (Addr×Obj)) (σ:List (Option V)) (H:Hp) (s:Shared):Prop where
 ok:X.Ok
 os:s.os=X.s₀.os
 bare:AllBare s.gens
 base:Un X.fs X.ex X.H₀ H X.s₀.heap s.heap
 loc:∃ m,s.heap.Ns X.env.locals m∧∀ (i:Nat) (x:Str) (v:V),X.N[i]?=some x→σ[i]?=some (some v)→Vis X.env.scope x→∃ u,Zc4 v u∧Z5k X.env s.heap m x u
 cell:∀ x c,X.env.cells.lookup x=some c→∃ v,s.heap.IsCell c v
 free:H X.env.locals=none
 freeC:∀ x c,X.env.cells.lookup x=some c→H c=none
 pin:∀ p∈X.pn++pins,s.heap.get? p.1=some p.2∧H p.1=none∧p.1≠X.env.locals∧p.1∉X.fs∧∀ v,p.2.data≠.cell v
 hok:HOk X.prog X.w H s.heap
 len:σ.length=X.N.length
section
variable {X:Cx} {pins:List (Addr×Obj)} {σ:List (Option V)} {H H':Hp} {s:Shared} {h':Heap}
theorem Cx.Ok.nofr (ok:X.Ok) {b:Addr}{o:Obj}(e:X.base.get? b=some o):b∉X.fs:=fun hb=>by
 have:=(ok.funs.mem hb).1
 rw [e] at this;cases this
theorem Inv.bs (I:Inv X pins σ H s):∀ b o,X.base.get? b=some o→s.heap.get? b=some o∧H b=none:=fun b o e =>
 ⟨I.base.keep b o (I.ok.bs b o e).1 (I.ok.bs b o e).2 (I.ok.nofr e) (I.ok.noex b o e),I.base.free b o (I.ok.bs b o e).1 (I.ok.bs b o e).2 (I.ok.noex b o e)⟩
theorem Inv.bk (I:Inv X pins σ H s):∀ b o,X.base.get? b=some o→s.heap.get? b=some o:=fun b o e=>(I.bs b o e).1
theorem Inv.mod (I:Inv X pins σ H s):Mod X.K X.mg X.base:=I.ok.mod
theorem Inv.kIn (I:Inv X pins σ H s):X.K.In s.heap:=I.ok.mod.kin.keeps I.bk
theorem Inv.lt (I:Inv X pins σ H s):X.env.locals<s.heap.objs.size:=let ⟨_,hn,_⟩:=I.loc;hn.lt
theorem Inv.sz (I:Inv X pins σ H s):X.s₀.heap.objs.size≤s.heap.objs.size:=Nat.le_trans I.ok.above (Nat.le_of_lt I.lt)
theorem Inv.nofs (I:Inv X pins σ H s) {a:Addr}(h:s.heap.objs.size≤a):a∉X.fs:=fun hb=>by
 obtain ⟨_,o,ho,_⟩:=I.ok.funs.mem hb
 exact absurd (Nat.lt_of_lt_of_le (Heap.lt_size ho) (Nat.le_trans I.sz h)) (Nat.lt_irrefl _)
theorem Inv.cne (I:Inv X pins σ H s):∀ x c,X.env.cells.lookup x=some c→c≠X.env.locals:=fun x c e z=>by
 obtain ⟨v,o,ho,hd⟩:=I.cell x c e
 obtain ⟨m,⟨o',es,ep,ho',hd',_⟩,_⟩:=I.loc
 rw [z,ho'] at ho;cases ho;rw [hd'] at hd;cases hd
theorem Inv.funs (I:Inv X pins σ H s):s.heap.FunFrames X.base X.outer:=by
 have all:∀ (l:List Env),(∀ b∈frs l,b∈X.fs)→X.s₀.heap.FunFrames X.base l→s.heap.FunFrames X.base l:=by
  intro l
  induction l with
  | nil=>intro _ _;trivial
  | cons env r ih =>
   intro hs hl
   obtain ⟨hk,⟨L,o,hf,hn,ho,hd⟩,hr⟩:=hl
   have hL:L∈X.fs:=hs L (by unfold frs;rw [List.filterMap_cons,hf];exact List.mem_cons_self)
   obtain ⟨sl,e⟩:=I.base.slot L o ho (I.ok.frf L hL) hL fun z=>I.ok.exfs L z hL
   exact ⟨hk,⟨L,_,hf,hn,e,hd⟩,ih (fun b hb=>hs b (by unfold frs;rw [List.filterMap_cons,hf];exact List.mem_cons_of_mem _ hb)) hr⟩
 exact all X.outer (fun _ hb=>hb) I.ok.funs
theorem Inv.stack (I:Inv X pins σ H s):s.heap.FunFrames X.base X.stack:=by
 rcases I.ok.stk with e | ⟨e,hf⟩
 ·rw [e];exact I.funs
 ·rw [e]
  obtain ⟨m,hn,_⟩:=I.loc
  refine .cons (by rw [I.ok.kind];decide) hf hn ?_ I.funs
  exact Heap.get?_none_of_le (Nat.le_trans I.ok.bsz I.ok.above)
theorem Inv.stkSub (I:Inv X pins σ H s):∀ b∈frs X.stack,b∈X.env.locals :: X.fs:=fun b hb=>by
 rcases I.ok.stk with e | ⟨e,hf⟩
 ·rw [e] at hb;exact List.mem_cons_of_mem _ hb
 ·rw [e] at hb
  unfold frs at hb
  rw [List.filterMap_cons,hf] at hb
  exact hb
theorem Inv.stkFree (I:Inv X pins σ H s):∀ b∈frs X.stack,H b=none:=fun b hb=>by
 rcases List.mem_cons.mp (I.stkSub b hb) with e | hb
 ·rw [e];exact I.free
 ·obtain ⟨_,o,ho,_⟩:=I.ok.funs.mem hb
  exact I.base.free b o ho (I.ok.frf b hb) fun z=>I.ok.exfs b z hb
theorem Inv.step {g':Array GenState}{t':Nat}{d':Drawn}{ch:List Addr}(I:Inv X pins σ H s)
  (hch:∀ b∈ch,(b∈X.ex∨X.s₀.heap.objs.size≤b)∧b≠X.env.locals∧(∀ x c,X.env.cells.lookup x=some c→c≠b)∧∀ p∈X.pn++pins,p.1≠b)
  (keep:∀ b o,b≠X.env.locals→b∉X.fs→b∉ch→s.heap.get? b=some o→H b=none→h'.get? b=some o)
  (slot:∀ b o,b≠X.env.locals→b∈X.fs→b∉ch→s.heap.get? b=some o→H b=none→∃ sl,h'.get? b=some { o with slots:=sl }) (free:∀ b o,b∉ch→s.heap.get? b=some o→H b=none→H' b=none)
  (there:∀ b o,b∉ch→s.heap.get? b=some o→∃ o',h'.get? b=some o')
  (tups:∀ b xs,H b=some (.tup xs)→H' b=some (.tup xs)) (frzs:∀ b o u,H b=some (.frz o u)→H' b=some (.frz o u)) (tbls:∀ b ps,H b=some (.tbl ps)→∃ more,H' b=some (.tbl (ps++more)))
  (ns:∀ m,s.heap.Ns X.env.locals m→h'.Ns X.env.locals m) (hok:HOk X.prog X.w H' h') (hg:AllBare g'):
  Inv X pins σ H' { s with heap:=h',gens:=g',drawn:=d',toks:=t' }:=by
 have neL:∀ b o,X.s₀.heap.get? b=some o→b≠X.env.locals:=fun b o e=>Nat.ne_of_lt (Nat.lt_of_lt_of_le (Heap.lt_size e) I.ok.above)
 have neC:∀ b o,X.s₀.heap.get? b=some o→b∉X.ex→b∉ch:=fun b o e hx hb=>by
  rcases (hch b hb).1 with z | z
  ·exact hx z
  ·exact absurd (Nat.lt_of_lt_of_le (Heap.lt_size e) z) (Nat.lt_irrefl _)
 have cellK:∀ x c,X.env.cells.lookup x=some c→∀ v,s.heap.IsCell c v→h'.IsCell c v:=fun x c e v ⟨o,ho,hd⟩=>by
  have nch:c∉ch:=fun z=>(hch c z).2.2.1 x c e rfl
  by_cases hc:c∈X.fs
  ·obtain ⟨sl,q⟩:=slot c o (I.cne x c e) hc nch ho (I.freeC x c e)
   exact ⟨_,q,hd⟩
  ·exact ⟨o,keep c o (I.cne x c e) hc nch ho (I.freeC x c e),hd⟩
 refine ⟨I.ok,I.os,hg,⟨fun b o e n hb hx=>?_,fun b o e n hb hx=>?_,fun b o e n hx=>?_,fun b o e hx=>?_,fun b xs e=>tups b xs (I.base.tups b xs e),fun b o xs e=>frzs b o xs (I.base.frzs b o xs e),fun b ps e=>?_⟩,?_,fun x c e=>?_,?_,fun x c e=>?_,fun p hp=>?_,hok,I.len⟩
 ·exact keep b o (neL b o e) hb (neC b o e hx) (I.base.keep b o e n hb hx) (I.base.free b o e n hx)
 ·obtain ⟨sl,e1⟩:=I.base.slot b o e n hb hx
  obtain ⟨sl',e2⟩:=slot b _ (neL b o e) hb (neC b o e hx) e1 (I.base.free b o e n hx)
  exact ⟨sl',e2⟩
 ·obtain ⟨o',e1⟩:=I.base.there b o e hx
  exact free b o' (neC b o e hx) e1 (I.base.free b o e n hx)
 ·obtain ⟨o',e1⟩:=I.base.there b o e hx
  exact there b o' (neC b o e hx) e1
 ·obtain ⟨m1,e1⟩:=I.base.tbls b ps e
  obtain ⟨m2,e2⟩:=tbls b _ e1
  exact ⟨m1++m2,by rw [e2,Array.append_assoc]⟩
 ·obtain ⟨m,hn,hl⟩:=I.loc
  refine ⟨m,ns m hn,fun i x v e1 e2 e3=>?_⟩
  obtain ⟨u,r,l⟩:=hl i x v e1 e2 e3
  refine ⟨u,r,?_⟩
  rcases l with l | ⟨k,c,e,z⟩
  ·exact .inl l
  ·exact .inr ⟨k,c,e,cellK x c e _ z⟩
 ·obtain ⟨v,z⟩:=I.cell x c e
  exact ⟨v,cellK x c e v z⟩
 ·obtain ⟨m,⟨o,_,_,ho,_⟩,_⟩:=I.loc
  exact free _ o (fun z=>(hch _ z).2.1 rfl) ho I.free
 ·obtain ⟨v,o,ho,hd⟩:=I.cell x c e
  exact free c o (fun z=>(hch c z).2.2.1 x c e rfl) ho (I.freeC x c e)
 ·obtain ⟨e,n,ne,nf,d⟩:=I.pin p hp
  have nch:p.1∉ch:=fun z=>(hch p.1 z).2.2.2 p hp rfl
  exact ⟨keep p.1 p.2 ne nf nch e n,free p.1 p.2 nch e n,ne,nf,d⟩
theorem Inv.un {t':Nat}(I:Inv X pins σ H s) (u:Un X.fs [] H H' s.heap h') (hok:HOk X.prog X.w H' h'):Inv X pins σ H' { s with heap:=h',toks:=t' }:=by
 obtain ⟨m,⟨o,es,ep,ho,r⟩,_⟩:=id I.loc
 obtain ⟨sl,hL⟩:=u.any ho I.free (by simp)
 exact I.step (g':=s.gens) (d':=s.drawn) (ch:=[]) (fun _ z=>nomatch z) (fun b o _ hb _ e n=>u.keep b o e n hb (by simp)) (fun b o _ hb _ e n=>u.slot b o e n hb (by simp)) (fun b o _ e n=>u.free b o e n (by simp)) (fun b o _ e=>u.there b o e (by simp)) u.tups u.frzs u.tbls (fun m' hm=>by
  obtain ⟨o',es',ep',ho',r'⟩:=hm
  rw [ho] at ho';cases ho'
  exact ⟨_,es',ep',hL,r'⟩) hok I.bare
theorem Inv.call {g':Array GenState}{t':Nat}{d':Drawn}{ch:List Addr}(I:Inv X pins σ H s) (u:Un (frs X.stack) ch H H' s.heap h') (hok:HOk X.prog X.w H' h') (hg:AllBare g')
  (hch:∀ b∈ch,(b∈X.ex∨X.s₀.heap.objs.size≤b)∧b≠X.env.locals∧(∀ x c,X.env.cells.lookup x=some c→c≠b)∧∀ p∈X.pn++pins,p.1≠b):
  Inv X pins σ H' { s with heap:=h',gens:=g',drawn:=d',toks:=t' }:=by
 obtain ⟨m,⟨o,es,ep,ho,r⟩,_⟩:=id I.loc
 obtain ⟨sl,hL⟩:=u.any ho I.free fun z=>(hch _ z).2.1 rfl
 exact I.step (ch:=ch) hch (fun b o hL hb hc e n=>u.keep b o e n (fun z=>(List.mem_cons.mp (I.stkSub b z)).elim hL hb) hc) (fun b o _ _ hc e n=>u.any e n hc) (fun b o hc e n=>u.free b o e n hc) (fun b o hc e=>u.there b o e hc) u.tups u.frzs u.tbls (fun m' hm=>by
  obtain ⟨o',es',ep',ho',r'⟩:=hm
  rw [ho] at ho';cases ho'
  exact ⟨_,es',ep',hL,r'⟩) hok hg
theorem Inv.turned {t':Nat}{it:Addr}(I:Inv X pins σ H s) (k:∀ b o,b≠it→s.heap.get? b=some o→h'.get? b=some o) (hn:H it=none) (hL:it≠X.env.locals)
  (h1:it∈X.ex∨X.s₀.heap.objs.size≤it) (h2:∀ x c,X.env.cells.lookup x=some c→c≠it) (h3:∀ p∈X.pn++pins,p.1≠it):Inv X pins σ H { s with heap:=h',toks:=t' }:=by
 have nit:∀ b u,H b=some u→b≠it:=fun b u e z=>by rw [z,hn] at e;cases e
 refine I.step (g':=s.gens) (d':=s.drawn) (ch:=[it]) (fun b hb=>?_) (fun b o _ _ hc e _=>k b o (fun z=>hc (by simp [z])) e) (fun b o _ _ hc e _=>⟨o.slots,k b o (fun z=>hc (by simp [z])) e⟩) (fun _ _ _ _ n=>n)
  (fun b o hc e=>⟨o,k b o (fun z=>hc (by simp [z])) e⟩) (fun _ _ e=>e) (fun _ _ _ e=>e) (fun b ps e=>⟨#[],by rw [e];simp⟩) (fun m hm=>?_) (fun b u e=>?_) I.bare
 ·have e:b=it:=by simpa using hb
  subst e
  exact ⟨h1,hL,h2,h3⟩
 ·obtain ⟨o,es,ep,ho,r⟩:=hm
  exact ⟨o,es,ep,k _ o (Ne.symm hL) ho,r⟩
 ·refine (I.hok b u e).stay (fun c v hc q=>k c v ?_ q) (fun _ q=>q) fun _ _ q=>q
  rcases hc with z | z
  ·rw [z];exact nit b u e
  ·exact nit c _ z
theorem Inv.tok (I:Inv X pins σ H s) (t:Nat):Inv X pins σ H { s with toks:=t }:=I.un (h':=s.heap) (t':=t) Un.refl I.hok
theorem Inv.kept {t':Nat}(I:Inv X pins σ H s) (k:∀ b u,s.heap.get? b=some u→h'.get? b=some u):Inv X pins σ H { s with heap:=h',toks:=t' }:=I.un (Un.kept k) (I.hok.kept k)
theorem Inv.laid {a:Addr}{o:HO}{t':Nat}(I:Inv X pins σ H s) (k:∀ b u,s.heap.get? b=some u→h'.get? b=some u) (hp:s.heap.objs.size≤a) (new:Zc5 X.prog X.w (upd H a o) h' a o):
  Inv X pins σ (upd H a o) { s with heap:=h',toks:=t' }:=I.un (Un.laid k hp (I.hok.fresh hp)) (I.hok.laid k hp new)
theorem Inv.write {x e:Addr}{o:HO}{t':Nat}(I:Inv X pins σ H s) (mu:Mut (H x)) (he:e=x∨H e=some (.own x)) (k:∀ b u,b≠e→s.heap.get? b=some u→h'.get? b=some u) (heo:∃ u,h'.get? e=some u)
  (new:Zc5 X.prog X.w (upd H x o) h' x o):Inv X pins σ (upd H x o) { s with heap:=h',toks:=t' }:=I.un (Un.write mu he k heo) (I.hok.write mu he k heo new)
theorem Inv.pins_of {pins':List (Addr×Obj)}(I:Inv X pins σ H s) (h:∀ p∈pins',s.heap.get? p.1=some p.2∧H p.1=none∧p.1≠X.env.locals∧p.1∉X.fs∧∀ v,p.2.data≠.cell v):Inv X pins' σ H s :=
 ⟨I.ok,I.os,I.bare,I.base,I.loc,I.cell,I.free,I.freeC,fun p hp=>(List.mem_append.mp hp).elim (fun z=>I.pin p (List.mem_append_left _ z)) (h p),I.hok,I.len⟩
theorem Zf8 {N:List Str}(hN:N.Nodup) {i j:Nat}{x:Str}(a:N[i]?=some x) (b:N[j]?=some x):i=j:=by
 obtain ⟨h1,e1⟩:=List.getElem?_eq_some_iff.mp a
 obtain ⟨h2,e2⟩:=List.getElem?_eq_some_iff.mp b
 exact (List.getElem_inj hN).mp (e1.trans e2.symm)
theorem Zlf {M:Model}{A:Around}{E:Value→Shared→Prop}{i:Nat}{x:Str}{v:V}{u:Value}{Q:Unit→Shared→Prop}(I:Inv X pins σ H s) (hN:X.N.Nodup) (hi:X.N[i]?=some x) (hx:Loc X.env.scope x) (r:Zc4 v u)
  (h:∀ s',Inv X pins (σ.set i (some v)) H s'→(∃ a,Heap.SameBut a s.heap s'.heap∧(a=X.env.locals∨X.env.cells.lookup x=some a))→Q () s') (hf:X.fn x=true∨X.env.scope.names.lookup x=some .local:=by first | exact .inl rfl | exact .inr rfl | assumption):wpAny M A (storeName X.env x u) Q E s:=by
 obtain ⟨m,hn,hl⟩:=id I.loc
 have hcls:(X.env.scope.kind == .class || (X.env.scope.kind == .module&&X.env.locals != X.env.globals))=false:=by rw [I.ok.kind];rfl
 have hiσ:i<σ.length:=by rw [I.len];exact (List.getElem?_eq_some_iff.mp hi).1
 have cne:=I.cne
 have tracked:∀ {a:Addr} {h':Heap},(∃ o,s.heap.get? a=some o∧H a=none)→Heap.SameBut a s.heap h'→HOk X.prog X.w H h':=fun {a h'} ha hs b ob e=>by
  obtain ⟨_,_,hfree⟩:=ha
  refine (I.hok b ob e).stay (fun c w' hc q=>(hs.2 c ?_).trans q) (fun _ q=>q) fun _ _ q=>q
  rintro rfl
  rcases hc with rfl | hc
  ·rw [hfree] at e;cases e
  ·rw [hfree] at hc;cases hc
 rcases hx with hk | hk
 ·refine wpAny_storeName_local hk hn (fun h' hn' hs=>?_) hcls
  obtain ⟨oL,_,_,hoL,_⟩:=id hn
  refine h _ ⟨I.ok,I.os,I.bare,⟨fun b o e n hb hx=>?_,fun b o e n hb hx=>?_,I.base.free,fun b o e hx=>?_,I.base.tups,I.base.frzs,I.base.tbls⟩,⟨_,hn',fun j y v' e1 e2 e3=>?_⟩,fun y c e=>?_,I.free,I.freeC,fun p hp=>?_,tracked ⟨oL,hoL,I.free⟩ hs,by simpa using I.len⟩ ⟨_,hs,.inl rfl⟩
  ·exact (hs.2 b (Nat.ne_of_lt (Nat.lt_of_lt_of_le (Heap.lt_size e) I.ok.above))).trans (I.base.keep b o e n hb hx)
  ·obtain ⟨sl,e1⟩:=I.base.slot b o e n hb hx
   exact ⟨sl,(hs.2 b (Nat.ne_of_lt (Nat.lt_of_lt_of_le (Heap.lt_size e) I.ok.above))).trans e1⟩
  ·obtain ⟨o',e1⟩:=I.base.there b o e hx
   exact ⟨o',(hs.2 b (Nat.ne_of_lt (Nat.lt_of_lt_of_le (Heap.lt_size e) I.ok.above))).trans e1⟩
  ·by_cases hj:j=i
   ·subst hj
    rw [hi] at e1;cases e1
    rw [List.getElem?_set_self hiσ] at e2
    cases e2
    exact ⟨u,r,.inl ⟨hk,by simp⟩⟩
   ·rw [List.getElem?_set_ne (Ne.symm hj)] at e2
    obtain ⟨u',r',q⟩:=hl j y v' e1 e2 e3
    refine ⟨u',r',?_⟩
    rcases q with ⟨k,e⟩ | ⟨k,c,e,z⟩
    ·refine .inl ⟨k,?_⟩
     have:y≠x:=fun e=>hj (Zf8 hN e1 (e ▸ hi))
     simp [this,e]
    ·exact .inr ⟨k,c,e,z.sameBut hs (cne y c e)⟩
  ·obtain ⟨w',z⟩:=I.cell y c e
   exact ⟨w',z.sameBut hs (cne y c e)⟩
  ·obtain ⟨e,n,ne,nf,d⟩:=I.pin p hp
   exact ⟨(hs.2 p.1 ne).trans e,n,ne,nf,d⟩
 ·have hfn:X.fn x=true:=by
   rcases hf with z | z
   ·exact z
   ·rw [z] at hk;cases hk
  obtain ⟨c,hc⟩:=I.ok.has x (.inl hk)
  obtain ⟨w',z⟩:=I.cell x c hc
  refine wpAny_storeName_cell I.ok.kind hk hc z (fun h' hc' hs=>?_)
  obtain ⟨oc,hoc,hocd⟩:=id z
  refine h { s with heap:=h' } ⟨I.ok,I.os,I.bare,⟨fun b o e n hb hx=>?_,fun b o e n hb hx=>?_,I.base.free,fun b o e hx=>?_,I.base.tups,I.base.frzs,I.base.tbls⟩,⟨m,hn.sameBut hs (Ne.symm (cne x c hc)),fun j y v' e1 e2 e3=>?_⟩,fun y c' e=>?_,I.free,I.freeC,fun p hp=>?_,tracked ⟨oc,hoc,I.freeC x c hc⟩ hs,by simpa using I.len⟩ ⟨c,hs,.inr hc⟩
  ·exact (hs.2 b (Nat.ne_of_lt (Nat.lt_of_lt_of_le (Heap.lt_size e) (I.ok.cab x c hfn hc)))).trans (I.base.keep b o e n hb hx)
  ·obtain ⟨sl,e1⟩:=I.base.slot b o e n hb hx
   exact ⟨sl,(hs.2 b (Nat.ne_of_lt (Nat.lt_of_lt_of_le (Heap.lt_size e) (I.ok.cab x c hfn hc)))).trans e1⟩
  ·obtain ⟨o',e1⟩:=I.base.there b o e hx
   exact ⟨o',(hs.2 b (Nat.ne_of_lt (Nat.lt_of_lt_of_le (Heap.lt_size e) (I.ok.cab x c hfn hc)))).trans e1⟩
  ·by_cases hj:j=i
   ·subst hj
    rw [hi] at e1;cases e1
    rw [List.getElem?_set_self hiσ] at e2
    cases e2
    exact ⟨u,r,.inr ⟨.inl hk,c,hc,hc'⟩⟩
   ·rw [List.getElem?_set_ne (Ne.symm hj)] at e2
    obtain ⟨u',r',q⟩:=hl j y v' e1 e2 e3
    refine ⟨u',r',?_⟩
    rcases q with q | ⟨k,c',e,z'⟩
    ·exact .inl q
    ·refine .inr ⟨k,c',e,z'.sameBut hs ?_⟩
     rintro rfl
     exact hj (Zf8 hN e1 (I.ok.inj _ _ _ e hc ▸ hi))
  ·by_cases hcc:c'=c
   ·subst hcc;exact ⟨_,hc'⟩
   ·obtain ⟨w2,z2⟩:=I.cell y c' e
    exact ⟨w2,z2.sameBut hs hcc⟩
  ·obtain ⟨e,n,ne,nf,d⟩:=I.pin p hp
   refine ⟨(hs.2 p.1 ?_).trans e,n,ne,nf,d⟩
   intro q
   rw [q,hoc] at e
   have q':oc=p.2:=Option.some.inj e
   exact d w' (by rw [← q'];exact hocd)
theorem Zoi {M:Model}{A:Around}{E:Value→Shared→Prop}{i:Nat}{x:Str}{v:V}{u:Value}{Q:Unit→Shared→Prop}(I:Inv X pins σ H s) (hN:X.N.Nodup) (hi:X.N[i]?=some x) (hx:Loc X.env.scope x) (r:Zc4 v u)
  (h:∀ s',Inv X pins (σ.set i (some v)) H s'→Q () s') (hf:X.fn x=true∨X.env.scope.names.lookup x=some .local:=by first | exact .inl rfl | exact .inr rfl | assumption):wpAny M A (storeName X.env x u) Q E s :=
 Zlf I hN hi hx r (fun s' I' _=>h s' I') hf
theorem Inv.call' {s':Shared}{ch:List Addr}(I:Inv X pins σ H s) (ho:s'.os=s.os) (u:Un (frs X.stack) ch H H' s.heap s'.heap) (hok:HOk X.prog X.w H' s'.heap) (hg:AllBare s'.gens)
  (hch:∀ b∈ch,(b∈X.ex∨X.s₀.heap.objs.size≤b)∧b≠X.env.locals∧(∀ x c,X.env.cells.lookup x=some c→c≠b)∧∀ p∈X.pn++pins,p.1≠b):Inv X pins σ H' s':=by
 obtain ⟨h',g',d',t',o'⟩:=s'
 have e:o'=s.os:=ho
 subst e
 exact I.call (g':=g') (t':=t') (d':=d') u hok hg hch
end
abbrev XK:=Value→Option Addr→Hp→Prop
abbrev St:=List (Option V)
abbrev VK:=V→Hp→Prop
abbrev TE:=St→Hp→VK→Prop
abbrev TT:=St→Hp→(Bool→Hp→Prop)→Prop
abbrev TA:=St→Hp→(List V→Hp→Prop)→Prop
structure Zt5 where
 nx:St→Hp→Prop
 rt:VK
 bk:St→Hp→Prop:=fun _ _=>False
 ct:St→Hp→Prop:=fun _ _=>False
abbrev TS:=Zt5→St→Hp→Prop
def EP (X:Cx) (pins:List (Addr×Obj)) (σ:St) (Q:VK) (u:Value) (s':Shared):Prop:=∃ v H',Inv X pins σ H' s'∧Zc4 v u∧Q v H'
def TP (X:Cx) (pins:List (Addr×Obj)) (σ:St) (Q:Bool→Hp→Prop) (b:Bool) (s':Shared):Prop:=∃ H',Inv X pins σ H' s'∧Q b H'
def AP (X:Cx) (pins:List (Addr×Obj)) (σ:St) (Q:List V→Hp→Prop) (us:List Value) (s':Shared):Prop:=∃ vs H',Inv X pins σ H' s'∧Zcn vs us∧Q vs H'
def SP (X:Cx) (pins:List (Addr×Obj)) (D:Zt5) (f:Flow) (s':Shared):Prop :=
 match f with
 | .next=>∃ σ' H',Inv X pins σ' H' s'∧D.nx σ' H'
 | .brk=>∃ σ' H',Inv X pins σ' H' s'∧D.bk σ' H'
 | .cont=>∃ σ' H',Inv X pins σ' H' s'∧D.ct σ' H'
 | .ret u=>∃ v σ' H',Inv X pins σ' H' s'∧Zc4 v u∧D.rt v H'
def PE (X:Cx) (e:Expr) (t:TE):Prop :=
 ∀ (pins:List (Addr×Obj)) (s:Shared) (σ:St) (H:Hp) (Q:VK),Inv X pins σ H s→t σ H Q→wpAny (model X.prog X.w) X.A (eval e X.env) (EP X pins σ Q) X.xe s
def PT (X:Cx) (e:Expr) (t:TT):Prop :=
 ∀ (pins:List (Addr×Obj)) (s:Shared) (σ:St) (H:Hp) (Q:Bool→Hp→Prop),Inv X pins σ H s→t σ H Q→wpAny (model X.prog X.w) X.A (isTrue e X.env (eval e X.env)) (TP X pins σ Q) X.xe s
def PW (X:Cx) (e:Expr) (t:TT):Prop :=
 ∀ (whole:Sem Value) (pins:List (Addr×Obj)) (s:Shared) (σ:St) (H:Hp) (Q:Bool→Hp→Prop),Inv X pins σ H s→t σ H Q→wpAny (model X.prog X.w) X.A (isTrue e X.env whole) (TP X pins σ Q) X.xe s
theorem PW.pt {X:Cx}{e:Expr}{t:TT}(h:PW X e t):PT X e t:=h _
def PA (X:Cx) (es:List Expr) (t:TA):Prop :=
 ∀ (pos:Pos) (pins:List (Addr×Obj)) (s:Shared) (σ:St) (H:Hp) (Q:List V→Hp→Prop),Inv X pins σ H s→t σ H Q→wpAny (model X.prog X.w) X.A (spliced (backTo pos (starEach es X.env))) (AP X pins σ Q) X.xe s
def PS (X:Cx) (st:Stmt) (t:TS):Prop :=
 ∀ (pins:List (Addr×Obj)) (s:Shared) (σ:St) (H:Hp) (D:Zt5),Inv X pins σ H s→t D σ H→wpAny (model X.prog X.w) X.A (exec st X.env) (SP X pins D) X.xe s
def PSs (X:Cx) (st:List Stmt) (t:TS):Prop :=
 ∀ (pins:List (Addr×Obj)) (s:Shared) (σ:St) (H:Hp) (D:Zt5),Inv X pins σ H s→t D σ H→wpAny (model X.prog X.w) X.A (execs st X.env) (SP X pins D) X.xe s
theorem thn {α:Type}{t:Sem α}{Q Q':α→Shared→Prop}{M:Model}{A:Around}{E:Value→Shared→Prop}{s:Shared}(h:wpAny M A t Q E s) (hQ:∀ a s,Q a s→Q' a s):wpAny M A t Q' E s:=wpAny_mono h hQ fun _ _ x=>x
end L2
namespace L2
open PySem PySem.Spec PyProof.Rows
section
variable {X:Cx}
def Zog (i:Nat):TE:=fun σ H Q=>∃ v,σ[i]?=some (some v)∧Q v H
def tC (v:V):TE:=fun _ H Q=>Q v H
theorem Zzu {i:Nat}{x:Str}{pos:Pos}(hN:X.N[i]?=some x) (hv:Vis X.env.scope x) (hd:(x == ("__debug__":Str))=false:=by decide) (hcd:(x == ("__classdict__":Str))=false:=by decide):PE X (.Name x pos) (Zog i):=by
 intro pins s σ H Q I h
 obtain ⟨v,e,h⟩:=h
 obtain ⟨m,hn,hl⟩:=I.loc
 obtain ⟨u,r,l⟩:=hl i x v hN e hv
 have fin:EP X pins σ Q u s:=⟨v,H,I,r,h⟩
 rcases l with ⟨hk,hm⟩ | ⟨hk,c,hc,hcell⟩
 ·exact wpAny_Name (wpAny_loadName_local I.ok.kind hk hn hm fin) hd
 ·rcases hk with hk | hk
  ·exact wpAny_Name (wpAny_loadName_cell I.ok.kind hk hc hcell fin) hd
  ·exact wpAny_Name (wpAny_loadName_free I.ok.kind hk hc hcell fin hcd) hd
theorem Zae {i j pos}:PE X (.Constant (.int i) j pos) (tC (.int i)):=fun _ _ _ H _ I h=>wpAny_Constant_int ⟨.int i,H,I.tok _,⟨_,rfl⟩,h⟩
theorem Zgz {b j pos}:PE X (.Constant (.bool b) j pos) (tC (.bl b)):=fun _ _ _ H _ I h=>Constant_bool ⟨.bl b,H,I,rfl,h⟩
theorem Zjq {j pos}:PE X (.Constant .none j pos) (tC .non):=fun _ _ _ H _ I h=>Constant_none ⟨.non,H,I,rfl,h⟩
theorem Zey {x j pos}:PE X (.Constant (.str x) j pos) (tC (.str x)):=fun _ _ _ H _ I h=>Calls.Constant_str ⟨.str x,H,I.tok _,⟨_,rfl⟩,h⟩
def Gl (X:Cx) (x:Str):Prop:=X.env.kindOf x=some .globalImplicit
theorem Znr {E:Value→Shared→Prop}{pins:List (Addr×Obj)}{s:Shared}{σ:St}{H:Hp}{x:Str}{u:Value}{pos:Pos}{Q:Value→Shared→Prop}(I:Inv X pins σ H s) (hg:Gl X x) (hm:X.mg x=some u) (h:Q u s)
  (hd:(x == ("__debug__":Str))=false:=by decide):wpAny (model X.prog X.w) X.A (eval (.Name x pos) X.env) Q E s :=
 Calls.Name_function_global I.ok.kind hg (Calls.loadGlobal_global (by rw [I.ok.glob];exact I.mod.glob.keeps I.bk) hm h) hd
theorem Zg5 {E:Value→Shared→Prop}{pins:List (Addr×Obj)}{s:Shared}{σ:St}{H:Hp}{x:Str}{u:Value}{pos:Pos}{Q:Value→Shared→Prop}(I:Inv X pins σ H s) (hg:Gl X x) (hm:X.mg x=none) (hv:bootBuiltins x=some u) (h:Q u s)
  (hn:x≠"__name__":=by decide) (hd:(x == ("__debug__":Str))=false:=by decide):wpAny (model X.prog X.w) X.A (eval (.Name x pos) X.env) Q E s:=by
 obtain ⟨mb,h1,h2⟩:=I.mod.blt
 exact Calls.Name_function_global I.ok.kind hg (Calls.loadGlobal_builtin (by rw [I.ok.glob];exact I.mod.glob.keeps I.bk) hm (by rw [I.ok.blt];exact h1.keeps I.bk) ((h2 x hn).trans hv) h) hd
theorem Zgo {x:Str}{v:V}{u:Value}{pos:Pos}(hg:Gl X x) (hm:X.mg x=some u) (r:Zc4 v u) (hd:(x == ("__debug__":Str))=false:=by decide):PE X (.Name x pos) (tC v):=
 fun _ _ _ H _ I h=>Znr I hg hm ⟨v,H,I,r,h⟩ hd
theorem Zxl {x:Str}{v:V}{u:Value}{pos:Pos}(hg:Gl X x) (hm:X.mg x=none) (hv:bootBuiltins x=some u) (r:Zc4 v u) (hn:x≠"__name__":=by decide) (hd:(x == ("__debug__":Str))=false:=by decide):PE X (.Name x pos) (tC v):=
 fun _ _ _ H _ I h=>Zg5 I hg hm hv ⟨v,H,I,r,h⟩ hn hd
variable {a b:Expr} {ta tb:TE} {pos:Pos}
def PC (X:Cx) (op:CmpOp) (a b:Expr) (t:TE):Prop :=
 ∀ (pins:List (Addr×Obj)) (s:Shared) (σ:St) (H:Hp) (Q:VK),Inv X pins σ H s→t σ H Q →
  wpAny (model X.prog X.w) X.A (eval a X.env) (fun v s₁=>wpAny (model X.prog X.w) X.A (eval b X.env) (fun u s₂=>wpAny (model X.prog X.w) X.A (compareOp op v u) (EP X pins σ Q) X.xe s₂) X.xe s₁) X.xe s
theorem Zo0 (b:Expr) {op:CmpOp}(h:op≠.In) (h2:op≠.NotIn):behindInMarks op b=false:=by
 have e1:(op == CmpOp.In)=false:=by cases op <;> first | rfl | exact absurd rfl h
 have e2:(op == CmpOp.NotIn)=false:=by cases op <;> first | rfl | exact absurd rfl h2
 cases b <;> simp [behindInMarks,e1,e2]
def Z1e (ta:TE):TE:=fun σ H Q=>ta σ H fun x H1=>Q (.bl (!decide (x=.non))) H1
theorem Zc4.none_iff {x:V}{v:Value}(r:Zc4 x v):(v == Value.none)=decide (x=.non):=by
 cases x with
 | non=>cases r;rfl
 | bl _=>cases r;rfl
 | int _=>obtain ⟨t,rfl⟩:=r;rfl
 | str _=>obtain ⟨t,rfl⟩:=r;rfl
 | byt _=>obtain ⟨t,rfl⟩:=r;rfl
 | flt _=>obtain ⟨t,rfl⟩:=r;rfl
 | ref _=>cases r;rfl
 | ty _=>cases r;rfl
theorem Zsf {j pos'}(ha:PE X a ta):PC X .IsNot a (.Constant .none j pos') (Z1e ta):=by
 intro pins s σ H Q I h
 refine thn (ha pins s σ H _ I h) fun v s1 ⟨x,H1,I1,r1,q1⟩=>?_
 exact Constant_none (isnot_none_gen ⟨.bl _,H1,I1,by rw [r1.none_iff];rfl,q1⟩)
def tB (t:TE):TT:=fun σ H Q=>t σ H fun x H1=>∃ c,x=.bl c∧Q c H1
theorem Zwi {op:CmpOp}{t:TE}(h:PC X op a b t) (h1:behindInMarks op b=false:=by first | exact Zo0 _ (by decide) (by decide) | rfl):PE X (.Compare a [op] [b] pos) t:=fun pins s σ H Q I hw=>wpAny_Compare1 (h pins s σ H Q I hw) h1
theorem Zii {op:CmpOp}{t:TE}(h:PC X op a b t) (h1:behindInMarks op b=false:=by first | exact Zo0 _ (by decide) (by decide) | rfl):PT X (.Compare a [op] [b] pos) (tB t):=by
 intro pins s σ H Q I hw
 refine wpAny_isTrue_Compare1 (thn (h pins s σ H _ I hw) fun v s1 h1=>thn h1 fun u s2 h2=>thn h2 fun c s3 ⟨x,H1,I1,r1,q1⟩=>?_) h1
 obtain ⟨d,rfl,q⟩:=q1
 cases r1
 exact wpAny_truthy_bool ⟨H1,I1,q⟩
theorem Zfl {e:Expr}{t:TE}(h:PE X e t) (he:∀ whole,isTrue e X.env whole=(do let v ← whole;standAt e.pos;holding [v] (truthy v)):=by intro _;rfl):PT X e (tB t):=by
 intro pins s σ H Q I hw
 refine isTrue_plain (thn (h pins s σ H _ I hw) fun v s1 ⟨x,H1,I1,r1,q1⟩=>?_) (he _)
 obtain ⟨d,rfl,q⟩:=q1
 cases r1
 exact wpAny_truthy_bool ⟨H1,I1,q⟩
variable {tA tB':TT} {Zor:List Expr}
def Z37 (t u:TT):TT:=fun σ H Q=>t σ H fun c H1=>if c=true then u σ H1 Q else Q false H1
def tOr (t u:TT):TT:=fun σ H Q=>t σ H fun c H1=>if c=true then Q true H1 else u σ H1 Q
def Z2x (t:TT):TT:=fun σ H Q=>t σ H fun c H1=>Q (!c) H1
theorem Zkc (ha:PT X a tA):PW X (.BoolOp .And [a] pos) tA:=by
 intro wh pins s σ H Q I h
 refine isTrue_and (thn (ha pins s σ H Q I h) fun c s1 e=>?_)
 cases c with
 | true=>exact isTrue_and_nil e
 | false=>exact e
theorem Zot (ha:PT X a tA):PW X (.BoolOp .Or [a] pos) tA:=by
 intro wh pins s σ H Q I h
 refine isTrue_or (thn (ha pins s σ H Q I h) fun c s1 e=>?_)
 cases c with
 | false=>exact isTrue_or_nil e
 | true=>exact e
theorem Zou (ha:PT X a tA) (hb:PW X (.BoolOp .And (b :: Zor) pos) tB'):PW X (.BoolOp .And (a :: b :: Zor) pos) (Z37 tA tB'):=by
 intro wh pins s σ H Q I h
 refine isTrue_and (thn (ha pins s σ H _ I h) fun c s1 ⟨H1,I1,q1⟩=>?_)
 cases c with
 | true=>exact hb wh pins s1 σ H1 Q I1 q1
 | false=>exact ⟨H1,I1,q1⟩
theorem Zum (ha:PT X a tA) (hb:PW X (.BoolOp .Or (b :: Zor) pos) tB'):PW X (.BoolOp .Or (a :: b :: Zor) pos) (tOr tA tB'):=by
 intro wh pins s σ H Q I h
 refine isTrue_or (thn (ha pins s σ H _ I h) fun c s1 ⟨H1,I1,q1⟩=>?_)
 cases c with
 | true=>exact ⟨H1,I1,q1⟩
 | false=>exact hb wh pins s1 σ H1 Q I1 q1
theorem Zef (ha:PT X a tA):PT X (.UnaryOp .Not a pos) (Z2x tA):=by
 intro pins s σ H Q I h
 exact isTrue_not (ha pins s σ H (fun c H1=>Q (!c) H1) I h)
def Z1l (ta tb:TE):TE:=fun σ H Q=>ta σ H fun x H1=>∃ c,x=.bl c∧if c=true then tb σ H1 Q else Q (.bl false) H1
theorem Zsc {op}{t:TE}(h:PE X a t):PE X (.BoolOp op [a] pos) t:=fun pins s σ H Q I hw=>BoolOp_one (h pins s σ H Q I hw)
theorem Zse (ha:PE X a ta) (hb:PE X (.BoolOp .And (b :: Zor) pos) tb):PE X (.BoolOp .And (a :: b :: Zor) pos) (Z1l ta tb):=by
 intro pins s σ H Q I h
 refine BoolOp_and (thn (ha pins s σ H _ I h) fun v s1 ⟨x,H1,I1,r1,q1⟩=>?_)
 obtain ⟨c,rfl,q1⟩:=q1
 cases r1
 refine wpAny_truthy_bool ?_
 cases c with
 | true=>exact hb pins s1 σ H1 Q I1 q1
 | false=>exact ⟨.bl false,H1,I1,rfl,q1⟩
def tIf (t:TT) (ta tb:TE):TE:=fun σ H Q=>t σ H fun c H1=>if c=true then ta σ H1 Q else tb σ H1 Q
theorem Zus {c:Expr}(hc:PT X c tA) (ha:PE X a ta) (hb:PE X b tb):PE X (.IfExp c a b pos) (tIf tA ta tb):=by
 intro pins s σ H Q I h
 refine wpAny_IfExp (thn (hc pins s σ H _ I h) fun d s1 ⟨H1,I1,q1⟩=>?_)
 cases d with
 | true=>exact ha pins s1 σ H1 Q I1 q1
 | false=>exact hb pins s1 σ H1 Q I1 q1
end
end L2
namespace L2
open PySem PySem.Spec PyProof.Rows
def SqL (K:PySem.W.Frag) (H:Hp) (a:Addr) (xs:List V):Prop :=
 Rd H a (.lst xs) ∨
  ∃ (o:Obj) (its:Array Value) (n:Nat),K.lookup a=some o∧o.cls=.type "list"∧o.dict=none∧o.data=.seq its n∧its.size≤sizeLine∧Zcn xs its.toList
def SqT (K:PySem.W.Frag) (H:Hp) (a:Addr) (xs:List V):Prop :=
 Rd H a (.tup xs) ∨
  ∃ (o:Obj) (its:Array Value) (n:Nat),K.lookup a=some o∧o.cls=.type "tuple"∧o.data=.seq its n∧its.size≤sizeLine∧Zcn xs its.toList
def Z5c:Value→Option V
 | .none=>some .non
 | .bool b=>some (.bl b)
 | .int i _=>some (.int i)
 | .str x _=>some (.str x)
 | .bytes b _=>some (.byt b)
 | .float b _=>some (.flt b)
 | .ref a=>some (.ref a)
 | .type n=>some (.ty n)
 | _=>none
theorem Zc4.abs {x:V}{u:Value}(r:Zc4 x u):Z5c u=some x:=by
 cases x with
 | non=>cases r;rfl
 | bl _=>cases r;rfl
 | int _=>obtain ⟨t,rfl⟩:=r;rfl
 | str _=>obtain ⟨t,rfl⟩:=r;rfl
 | byt _=>obtain ⟨t,rfl⟩:=r;rfl
 | flt _=>obtain ⟨t,rfl⟩:=r;rfl
 | ref _=>cases r;rfl
 | ty _=>cases r;rfl
theorem Zc4.inj {x y:V}{u:Value}(r:Zc4 x u) (q:Zc4 y u):x=y:=Option.some.inj (r.abs.symm.trans q.abs)
theorem Zcn.inj:∀ {xs ys:List V}{us:List Value},Zcn xs us→Zcn ys us→xs=ys
 | _,_,_,.nil,.nil=>rfl
 | _,_,_,.cons r t,.cons r' t'=>by rw [r.inj r',Zcn.inj t t']
section
variable {X:Cx} {pins:List (Addr×Obj)} {σ:St} {H:Hp} {s:Shared} {a:Addr} {xs ys:List V}
theorem SqL.of {K:PySem.W.Frag}(h:H a=some (.lst xs)):SqL K H a xs:=.inl (.inl h)
theorem SqT.of {K:PySem.W.Frag}(h:H a=some (.tup xs)):SqT K H a xs:=.inl (.inl h)
theorem Inv.list (I:Inv X pins σ H s) (h:SqL X.K H a xs):∃ its:List Value,Zcn xs its∧PlainL s.heap a its.toArray∧xs.length≤sizeLine:=by
 rcases h with h | ⟨o,its,n,hk,hc,hd,hs,hz,r⟩
 ·obtain ⟨z,its,n,r,e⟩:=h.ok I.hok
  exact ⟨its,r,⟨_,n,e,rfl,rfl,rfl⟩,z⟩
 ·refine ⟨its.toList,r,⟨o,n,I.kIn a o hk,hc,hd,by simpa using hs⟩,?_⟩
  have e:=r.length
  simp only [Array.length_toList] at e
  omega
theorem Inv.tuple (I:Inv X pins σ H s) (h:SqT X.K H a xs):∃ its:List Value,Zcn xs its∧IsTup s.heap a its.toArray∧xs.length≤sizeLine:=by
 rcases h with h | ⟨o,its,n,hk,hc,hs,hz,r⟩
 ·obtain ⟨z,its,r,p⟩:=h.ok I.hok
  exact ⟨its,r,p,z⟩
 ·refine ⟨its.toList,r,⟨o,I.kIn a o hk,hc,n,by simpa using hs⟩,?_⟩
  have e:=r.length
  simp only [Array.length_toList] at e
  omega
theorem Inv.list_inj (I:Inv X pins σ H s) (h:SqL X.K H a xs) (h':SqL X.K H a ys):xs=ys:=by
 obtain ⟨its,r,⟨o,n,e,_,_,d⟩,_⟩:=I.list h
 obtain ⟨its',r',⟨o',n',e',_,_,d'⟩,_⟩:=I.list h'
 rw [e] at e';cases e'
 rw [d] at d'
 injection d' with d1 _
 have:its=its':=by simpa using congrArg Array.toList d1
 subst this
 exact r.inj r'
theorem Inv.tuple_inj (I:Inv X pins σ H s) (h:SqT X.K H a xs) (h':SqT X.K H a ys):xs=ys:=by
 obtain ⟨its,r,⟨o,e,_,n,d⟩,_⟩:=I.tuple h
 obtain ⟨its',r',⟨o',e',_,n',d'⟩,_⟩:=I.tuple h'
 rw [e] at e';cases e'
 rw [d] at d'
 injection d' with d1 _
 have:its=its':=by simpa using congrArg Array.toList d1
 subst this
 exact r.inj r'
end
abbrev Cx.wish (X:Cx) (E:Value→Shared→Prop):Cx:={ X with xe:=E }
abbrev Cx.nox (X:Cx):Cx:=X.wish fun _ _=>False
theorem Cx.Ok.wish {X:Cx}(ok:X.Ok) (E:Value→Shared→Prop):(X.wish E).Ok :=
 ⟨ok.mod,ok.kind,ok.glob,ok.blt,ok.above,ok.inj,ok.has,ok.cab,ok.hd,ok.frames,ok.stk,ok.exf,ok.bs,ok.bsz,ok.noex,ok.exfs,ok.funs,ok.frf⟩
theorem Cx.Ok.unwish {X:Cx}{E:Value→Shared→Prop}(ok:(X.wish E).Ok):X.Ok :=
 ⟨ok.mod,ok.kind,ok.glob,ok.blt,ok.above,ok.inj,ok.has,ok.cab,ok.hd,ok.frames,ok.stk,ok.exf,ok.bs,ok.bsz,ok.noex,ok.exfs,ok.funs,ok.frf⟩
section
variable {X:Cx} {pins:List (Addr×Obj)} {σ:St} {H:Hp} {s:Shared} {E:Value→Shared→Prop}
theorem Inv.wish (I:Inv X pins σ H s) (E:Value→Shared→Prop):Inv (X.wish E) pins σ H s:=⟨I.ok.wish E,I.os,I.bare,I.base,I.loc,I.cell,I.free,I.freeC,I.pin,I.hok,I.len⟩
theorem Inv.unwish (I:Inv (X.wish E) pins σ H s):Inv X pins σ H s:=⟨I.ok.unwish,I.os,I.bare,I.base,I.loc,I.cell,I.free,I.freeC,I.pin,I.hok,I.len⟩
theorem SP.unwish {D:Zt5}{f:Flow}{s':Shared}(h:SP (X.wish E) pins D f s'):SP X pins D f s':=by
 cases f with
 | next=>obtain ⟨σ',H',I,q⟩:=h;exact ⟨σ',H',I.unwish,q⟩
 | brk=>obtain ⟨σ',H',I,q⟩:=h;exact ⟨σ',H',I.unwish,q⟩
 | cont=>obtain ⟨σ',H',I,q⟩:=h;exact ⟨σ',H',I.unwish,q⟩
 | ret u=>obtain ⟨v,σ',H',I,r,q⟩:=h;exact ⟨v,σ',H',I.unwish,r,q⟩
theorem PSs.nox {st:List Stmt}{t:TS}(h:PSs X.nox st t):PSs X st t:=fun pins s σ H D I hw =>
 wpAny_mono (h pins s σ H D (I.wish _) hw) (fun _ _ q=>q.unwish) fun _ _ z=>False.elim z
end
section
variable {X:Cx} {st:Stmt} {Zor:List Stmt} {t u:TS} {e:Expr} {te:TE} {pos:Pos}
def Zy3:TS:=fun D σ H=>D.nx σ H
def Zw0 (t u:TS):TS:=fun D σ H=>t { D with nx:=u D } σ H
theorem Zas:PSs X [] Zy3:=fun _ _ σ H _ I h=>wpAny_execs_nil ⟨σ,H,I,h⟩
theorem pS (h1:PS X st t) (h2:PSs X Zor u):PSs X (st :: Zor) (Zw0 t u):=by
 intro pins s σ H D I h
 refine wpAny_execs_cons (thn (h1 pins s σ H { D with nx:=u D } I h) fun f s1 q=>?_)
 cases f with
 | next =>
  obtain ⟨σ',H',I',q⟩:=q
  exact h2 pins s1 σ' H' D I' q
 | ret v=>exact q
 | brk=>exact q
 | cont=>exact q
theorem Zad (h1:PS X st t):PSs X [st] t:=by
 intro pins s σ H D I h
 refine wpAny_execs_cons (thn (h1 pins s σ H D I h) fun f s1 q=>?_)
 cases f with
 | next=>exact wpAny_execs_nil q
 | ret v=>exact q
 | brk=>exact q
 | cont=>exact q
theorem Inv.quiet {pins:List (Addr×Obj)}{σ:St}{H:Hp}{s:Shared}(I:Inv X pins σ H s):interactive X.env=false:=by simp [interactive,I.ok.kind]
def Z1h (te:TE):TS:=fun D σ H=>te σ H fun _ H1=>D.nx σ H1
theorem Za9 (he:PE X e te) (hs:swapsWith e none pos.line X.env=pure false:=by rfl):PS X (.Expr e pos) (Z1h te):=by
 intro pins s σ H D I h
 exact wpAny_Expr_any (thn (he pins s σ H _ I h) fun v s1 ⟨x,H1,I1,r1,q1⟩=>⟨σ,H1,I1,q1⟩) I.quiet hs
def Z2w (te:TE):TS:=fun D σ H=>te σ H D.rt
theorem Zat (he:PE X e te):PS X (.Return (some e) pos) (Z2w te):=by
 intro pins s σ H D I h
 exact wpAny_Return_some (thn (he pins s σ H _ I h) fun v s1 ⟨x,H1,I1,r1,q1⟩=>⟨x,σ,H1,I1,r1,q1⟩)
def Z2y (c:TT) (t u:TS):TS:=fun D σ H=>c σ H fun b H1=>if b=true then t D σ H1 else u D σ H1
theorem Zbe {c:Expr}{a b:List Stmt}{tc:TT}(hc:PT X c tc) (ha:PSs X a t) (hb:PSs X b u):PS X (.If c a b pos) (Z2y tc t u):=by
 intro pins s σ H D I h
 refine wpAny_If (thn (hc pins s σ H _ I h) fun d s1 ⟨H1,I1,q1⟩=>?_)
 cases d with
 | true=>exact ha pins s1 σ H1 D I1 q1
 | false=>exact hb pins s1 σ H1 D I1 q1
def Zy4:TS:=fun _ _ _=>False
theorem Zb4 {sts:List Stmt}:PSs X sts Zy4:=fun _ _ _ _ _ _ h=>h.elim
end
abbrev TG:=V→St→Hp→(St→Hp→Prop)→Prop
abbrev TGs:=List V→St→Hp→(St→Hp→Prop)→Prop
def PG (X:Cx) (target:Expr) (t:TG):Prop :=
 ∀ (pins:List (Addr×Obj)) (s:Shared) (σ:St) (H:Hp) (v:V) (u:Value) (Q:St→Hp→Prop),Inv X pins σ H s→Zc4 v u→t v σ H Q →
  wpAny (model X.prog X.w) X.A (assign target X.env u) (fun _ s'=>∃ σ' H',Inv X pins σ' H' s'∧Q σ' H') X.xe s
def PGs (X:Cx) (ts:List Expr) (t:TGs):Prop :=
 ∀ (pins:List (Addr×Obj)) (s:Shared) (σ:St) (H:Hp) (vs:List V) (us:List Value) (Q:St→Hp→Prop),Inv X pins σ H s→Zcn vs us→t vs σ H Q →
  wpAny (model X.prog X.w) X.A (assignInOrder ((assignEach ts X.env).map (·.2)) us) (fun _ s'=>∃ σ' H',Inv X pins σ' H' s'∧Q σ' H') X.xe s
abbrev Z2n:=V→V→V→Hp→(Hp→Prop)→Prop
def Z3w (X:Cx) (t:Z2n):Prop :=
 ∀ (pins:List (Addr×Obj)) (s:Shared) (σ:St) (H:Hp) (o i v:V) (ov iv u:Value) (Q:Hp→Prop),Inv X pins σ H s→Zc4 o ov→Zc4 i iv→Zc4 v u→t o i v H Q →
  wpAny (model X.prog X.w) X.A (setItem ov iv u) (fun _ s'=>∃ H',Inv X pins σ H' s'∧Q H') X.xe s
section
variable {X:Cx} {pos:Pos}
def Zet (i:Nat):TG:=fun v σ H Q=>Q (σ.set i (some v)) H
theorem Zah {i:Nat}{x:Str}(hN:X.N.Nodup) (hi:X.N[i]?=some x) (hx:Loc X.env.scope x) (hf:X.fn x=true∨X.env.scope.names.lookup x=some .local:=by first | exact .inl rfl | exact .inr rfl | assumption):PG X (.Name x pos) (Zet i):=by
 intro pins s σ H v u Q I r h
 exact wpAny_assign_Name (Zoi I hN hi hx r (fun s' I'=>⟨_,H,I',h⟩) hf)
def Z2b:TGs:=fun vs σ H Q=>vs=[]∧Q σ H
def Ztf (t:TG) (u:TGs):TGs:=fun vs σ H Q=>∃ v r,vs=v :: r∧t v σ H fun σ' H'=>u r σ' H' Q
theorem Zee:PGs X [] Z2b:=by
 intro pins s σ H vs us Q I r h
 obtain ⟨e,h⟩:=h
 subst e
 cases r
 exact assignInOrder_nil ⟨σ,H,I,h⟩
theorem gC {e:Expr}{es:List Expr}{t:TG}{u:TGs} (h1:PG X e t) (h2:PGs X es u)
  (hs:(assignEach (e :: es) X.env).map (·.2)=assign e X.env :: (assignEach es X.env).map (·.2):=by rfl):PGs X (e :: es) (Ztf t u):=by
 intro pins s σ H vs us Q I r h
 obtain ⟨v,vr,e1,h⟩:=h
 subst e1
 cases r with
 | cons r rr =>
  rw [hs]
  refine assignInOrder_cons (thn (h1 pins s σ H _ _ _ I r h) fun _ s1 ⟨σ1,H1,I1,q1⟩=>?_)
  exact h2 pins s1 σ1 H1 _ _ Q I1 rr q1
def Z2a (K:PySem.W.Frag) (n:Nat) (t:TGs):TG:=fun v σ H Q=>∃ a xs,v=.ref a∧SqT K H a xs∧xs.length=n∧t xs σ H Q
theorem Zfm {es:List Expr}{k:Nat}{t:TGs}{n:Nat}(hc:X.calm=true) (h:PGs X es t)
  (hn:(assignEach es X.env).length=n:=by rfl) (hst:(assignEach es X.env).findIdx? (·.1)=none:=by rfl):PG X (.Tuple es k pos) (Z2a X.K n t):=by
 intro pins s σ H v u Q I r hw
 obtain ⟨a,xs,e1,hq,hl,hw⟩:=hw
 subst e1
 cases r
 obtain ⟨its,rv,ht,hz⟩:=I.tuple hq
 refine assign_Tuple_tuple (I.ok.hd hc) ht (by simp [hn,← hl,rv.length]) hst fun h' hx=>?_
 have I1:Inv X pins σ H { s with heap:=h' }:=I.kept (t':=s.toks) fun b o e=>hx b o (Nat.ne_of_lt (Heap.lt_size e)) e
 exact h pins _ σ H xs _ Q I1 (by simpa using rv) hw
def Z46 (to ti:TE) (t:Z2n):TG:=fun v σ H Q=>to σ H fun o H1=>ti σ H1 fun i H2=>t o i v H2 fun H3=>Q σ H3
theorem Zlu {o i:Expr}{to ti:TE}{t:Z2n}(ho:PE X o to) (hi:PE X i ti) (hs:Z3w X t)
  (ha:∀ v,assign (.Subscript o i pos) X.env v=(do
   let ov ← holding [v] (eval o X.env)
   let iv ← holding [v,ov] (eval i X.env)
   standAt pos
   holding [v,ov,iv] (setItem ov iv v)
   release [v,ov,iv] []):=by intro _;rfl):PG X (.Subscript o i pos) (Z46 to ti t):=by
 intro pins s σ H v u Q I r h
 rw [ha]
 refine wpAny_bind (wpAny_holding (thn (ho pins s σ H _ I h) fun ov s1 ⟨x,H1,I1,r1,q1⟩=>?_))
 refine wpAny_bind (wpAny_holding (thn (hi pins s1 σ H1 _ I1 q1) fun iv s2 ⟨y,H2,I2,r2,q2⟩=>?_))
 refine wpAny_bind (wpAny_standAt (wpAny_bind (wpAny_holding (thn (hs pins s2 σ H2 x y v ov iv u _ I2 r1 r2 r q2) fun _ s3 ⟨H3,I3,q3⟩=>?_))))
 exact wpAny_release ⟨σ,H3,I3,q3⟩
def Zuf (te:TE) (g:TG):TS:=fun D σ H=>te σ H fun x H1=>g x σ H1 D.nx
theorem Zhq {tg e:Expr}{te:TE}{g:TG}(he:PE X e te) (hg:PG X tg g) (hs:swapsWithSole [tg] e pos.line X.env=pure false:=by rfl) (hw:swappedStores [tg] e X.env=pure none:=by rfl)
  (h1:(assignEach [tg] X.env).map (·.2)=[assign tg X.env]:=by rfl):PS X (.Assign [tg] e pos) (Zuf te g):=by
 intro pins s σ H D I h
 refine wpAny_Assign_stores (thn (he pins s σ H _ I h) fun v s1 ⟨x,H1,I1,r1,q1⟩=>?_) hs hw
 rw [h1]
 exact thn (hg pins s1 σ H1 x v _ I1 r1 q1) fun _ s2 q=>q
theorem Zag {i:Nat}{x:Str}{e:Expr}{te:TE}{pos':Pos}(hN:X.N.Nodup) (hi:X.N[i]?=some x) (hx:Loc X.env.scope x) (he:PE X e te) (hs:swapsWith e (some (.Name x pos')) pos.line X.env=pure false:=by rfl) (hf:X.fn x=true∨X.env.scope.names.lookup x=some .local:=by first | exact .inl rfl | exact .inr rfl | assumption):
  PS X (.Assign [.Name x pos'] e pos) (Zuf te (Zet i)):=by
 intro pins s σ H D I h
 refine wpAny_Assign_Name (thn (he pins s σ H _ I h) fun v s1 ⟨y,H1,I1,r1,q1⟩=>?_) hs
 exact Zoi I1 hN hi hx r1 (fun s2 I2=>⟨_,H1,I2,q1⟩) hf
end
section
variable {X:Cx} {pos:Pos}
def Zy2 (c:TT) (tb:TS):TS:=fun D σ H=>∃ W:Nat→St→Hp→Prop,(∃ m,W m σ H)∧∀ m σ H,W m σ H →
 c σ H fun b H1=>if b=true then ∃ N:St→Hp→Prop,(∀ σ' H',N σ' H'→∃ m',m'<m∧W m' σ' H')∧tb { D with nx:=N,ct:=N,bk:=D.nx } σ H1 else D.nx σ H1
theorem Zgy {c:Expr}{body:List Stmt}{tc:TT}{tb:TS}(hp:PassesOwn (model X.prog X.w) X.A X.env X.xe) (hc:PT X c tc) (hb:PSs X body tb):PS X (.While c body [] pos) (Zy2 tc tb):=by
 intro pins s σ H D I h
 obtain ⟨W,⟨m0,w0⟩,turn⟩:=h
 refine wpAny_While (codeAny_whileLoop (fun n s'=>∃ σ' H',Inv X pins σ' H' s'∧W n σ' H') ?_ m0 ⟨σ,H,I,w0⟩)
 rintro n s1 ⟨σ1,H1,I1,w1⟩
 refine wpAny_passesOwn hp (thn (hc pins s1 σ1 H1 _ I1 (turn n σ1 H1 w1)) fun b s2 ⟨H2,I2,q2⟩=>?_)
 cases b with
 | true =>
  obtain ⟨N,hN,q2⟩:=q2
  rw [if_pos rfl]
  refine wpAny_passesOwn hp (thn (hb pins s2 σ1 H2 _ I2 q2) fun f s3 q3=>?_)
  cases f with
  | next =>
   obtain ⟨σ3,H3,I3,n3⟩:=q3
   obtain ⟨m',hm,w3⟩:=hN σ3 H3 n3
   exact ⟨m',hm,σ3,H3,I3,w3⟩
  | cont =>
   obtain ⟨σ3,H3,I3,n3⟩:=q3
   obtain ⟨m',hm,w3⟩:=hN σ3 H3 n3
   exact ⟨m',hm,σ3,H3,I3,w3⟩
  | brk=>exact q3
  | ret v=>exact q3
 | false =>
  rw [if_neg Bool.false_ne_true]
  exact wpAny_execs_nil ⟨σ1,H2,I2,q2⟩
end
structure It where
 go:Nat→Hp→Prop
 yld:Nat→Hp→V→Hp→Prop
 stop:Nat→Hp→Prop
def Zk9 (X:Cx) (pins:List (Addr×Obj)) (H:Hp) (b:Addr):Prop :=
 H b=none∧b≠X.env.locals∧b∉X.fs∧(b∈X.ex∨X.s₀.heap.objs.size≤b)∧(∀ x c,X.env.cells.lookup x=some c→c≠b)∧∀ p∈X.pn++pins,p.1≠b
theorem Inv.fpOk {X:Cx}{pins:List (Addr×Obj)}{σ:St}{H H':Hp}{s:Shared}{b:Addr}(I:Inv X pins σ H s) (hb:s.heap.objs.size≤b) (hn:H' b=none):Zk9 X pins H' b:=by
 refine ⟨hn,Nat.ne_of_gt (Nat.lt_of_lt_of_le I.lt hb),I.nofs hb,.inr (Nat.le_trans I.sz hb),fun x c e z=>?_,fun p hp z=>?_⟩
 ·obtain ⟨v,q⟩:=I.cell x c e
  exact absurd (Nat.lt_of_lt_of_le q.lt (by rw [z];exact hb)) (Nat.lt_irrefl _)
 ·exact absurd (Nat.lt_of_lt_of_le (Heap.lt_size (I.pin p hp).1) (by rw [z];exact hb)) (Nat.lt_irrefl _)
structure Zod (P:Program) (w:World) (K:PySem.W.Frag) (tg:Expr) (J:It) (fp:List Addr) (it:Addr) (tn:Nat→Heap→Prop):Prop where
 mem:it∈fp
 obj:∀ i h,tn i h→∀ b∈fp,∃ o,h.get? b=some o∧∀ v,o.data≠.cell v
 keep:∀ i h h',tn i h→(∀ b∈fp,∀ o,h.get? b=some o→h'.get? b=some o)→tn i h'
 item:∀ (X:Cx),X.prog=P→X.w=w→X.K=K→X.calm=true→∀ (i:Nat) (pins:List (Addr×Obj)) (s:Shared) (σ:St) (H:Hp) (E:Value→Shared→Prop),Inv X pins σ H s→(∀ b∈fp,Zk9 X pins H b)→tn i s.heap→J.go i H →
  wpAny (model P w) X.A (pyNext (.ref it)) (fun r s1=>∃ u,r=some u ∧
   wpAny (model P w) X.A (letOwnedTupleGo tg (.ref it) u) (fun _ s2=>∃ x H',Inv X pins σ H' s2∧Zc4 x u∧J.yld i H x H'∧tn (i + 1) s2.heap∧∀ b∈fp,H' b=none) E s1) E s
 done:∀ (X:Cx),X.prog=P→X.w=w→X.K=K→X.calm=true→∀ (i:Nat) (pins:List (Addr×Obj)) (s:Shared) (σ:St) (H:Hp) (E:Value→Shared→Prop),Inv X pins σ H s→(∀ b∈fp,Zk9 X pins H b)→tn i s.heap→J.stop i H →
  wpAny (model P w) X.A (pyNext (.ref it)) (fun r s1=>r=none∧Inv X pins σ H s1) E s
 self:∀ (A:Around) (i:Nat) (s:Shared) (Q:Value→Shared→Prop) (E:Value→Shared→Prop),tn i s.heap→Q (.ref it) s→wpAny (model P w) A (pyIter (.ref it)) Q E s
abbrev TI:=St→Hp→(It→Hp→Prop)→Prop
def PIE (X:Cx) (pins:List (Addr×Obj)) (σ:St) (tg:Expr) (R:It→Hp→Prop) (itv:Value) (s2:Shared):Prop :=
 ∃ (it:Addr) (fp:List Addr) (tn:Nat→Heap→Prop) (J:It) (H':Hp),itv=.ref it∧Inv X pins σ H' s2∧Zod X.prog X.w X.K tg J fp it tn∧tn 0 s2.heap∧(∀ b∈fp,Zk9 X pins H' b)∧R J H'
def PI (X:Cx) (tg iter:Expr) (wi:TI):Prop :=
 ∀ (pins:List (Addr×Obj)) (s:Shared) (σ:St) (H:Hp) (R:It→Hp→Prop),Inv X pins σ H s→wi σ H R →
  wpAny (model X.prog X.w) X.A (eval iter X.env) (fun v s1=>wpAny (model X.prog X.w) X.A (pyIter v) (PIE X pins σ tg R) X.xe s1) X.xe s
theorem Znv {M:Model}{A:Around}{E:Value→Shared→Prop}{s:Shared}{tg:Expr}{it:Addr}{u:Value}{o:Obj}{n:String}{vs:Array Value}{Q:Unit→Shared→Prop}(ho:s.heap.get? it=some o) (hc:o.cls=.type n) (hd:o.data=.fields vs)
  (hn:["enumerate","zip","dict_itemiterator","dict_reverseitemiterator","odict_iterator","itertools.zip_longest","itertools.pairwise"].contains n=false) (hQ:Q () s):wpAny M A (letOwnedTupleGo tg (.ref it) u) Q E s:=by
 unfold letOwnedTupleGo
 cases tg <;> first
  | exact wpAny_pure hQ
  | (cases u <;> first
    | exact wpAny_pure hQ
    | (refine wpAny_bind (wpAny_load ho ?_)
       rw [hc,hd]
       show wpAny M A (if (["enumerate","zip","dict_itemiterator","dict_reverseitemiterator","odict_iterator","itertools.zip_longest","itertools.pairwise"].contains n&&vs[0]? == some (rawInt _))=true then _ else _) Q E s
       rw [if_neg (by intro h;rw [hn,Bool.false_and] at h;cases h)]
       exact wpAny_pure hQ))
def Itl (K:PySem.W.Frag) (a:Addr):It :=
 ⟨fun i H=>∃ xs x,SqL K H a xs∧xs[i]?=some x,fun i H x H'=>H'=H∧∀ xs,SqL K H a xs→xs[i]?=some x,fun i H=>∃ xs,SqL K H a xs∧xs.length≤i⟩
def Itt (K:PySem.W.Frag) (a:Addr):It :=
 ⟨fun i H=>∃ xs x,SqT K H a xs∧xs[i]?=some x,fun i H x H'=>H'=H∧∀ xs,SqT K H a xs→xs[i]?=some x,fun i H=>∃ xs,SqT K H a xs∧xs.length≤i⟩
def Itr (lo:Int) (n:Nat):It:=⟨fun i _=>i<n,fun i H x H'=>H'=H∧x=.int (lo + i),fun i _=>n≤i⟩
theorem Zld {P:Program}{w:World}{K:PySem.W.Frag}{tg:Expr} (a it:Addr):Zod P w K tg (Itl K a) [it] it (fun i h=>h.IsListIter it a i) where
 mem:=by simp
 obj:=fun i h st b hb=>by
  have e:b=it:=by simpa using hb
  subst e
  obtain ⟨o,e,c,d⟩:=st
  exact ⟨o,e,fun v z=>by rw [d] at z;cases z⟩
 keep:=fun i h h' st k=>st.at fun o e=>k it (by simp) o e
 item:=by
  intro X hP hw hK hc i pins s σ H E I hf st hg
  subst hP hw hK
  obtain ⟨xs,x,hq,hx⟩:=hg
  obtain ⟨its,rv,p,hz⟩:=I.list hq
  obtain ⟨u,hu,ru⟩:=rv.get hx
  obtain ⟨f0,f1,f2,f3,f4,f5⟩:=hf it (by simp)
  refine wpAny_pyNext_list_item st p.isList (x:=u) (by simpa using hu) fun h' st' sb=>?_
  have I1:Inv X pins σ H { s with heap:=h' }:=I.turned (t':=s.toks) (fun b o hb e=>(sb.2 b hb).trans e) f0 f1 f3 f4 f5
  obtain ⟨o,e,c,d⟩:=id st'
  exact ⟨u,rfl,Znv (s:={ s with heap:=h' }) e c d (by decide) ⟨x,H,I1,ru,⟨rfl,fun ys hy=>by rw [I.list_inj hy hq];exact hx⟩,st',fun b hb=>(hf b hb).1⟩⟩
 done:=by
  intro X hP hw hK hc i pins s σ H E I hf st hg
  subst hP hw hK
  obtain ⟨xs,hq,hx⟩:=hg
  obtain ⟨its,rv,p,hz⟩:=I.list hq
  obtain ⟨f0,f1,f2,f3,f4,f5⟩:=hf it (by simp)
  have hl:=rv.length
  exact wpAny_pyNext_list_end (I.ok.hd hc) st p.isList (by simp;omega) fun h' eb=>⟨rfl,I.turned (t':=s.toks) (fun b o hb e=>eb b o hb e) f0 f1 f3 f4 f5⟩
 self:=fun _ _ _ _ _ st h=>wpAny_pyIter_listiter st h
theorem Zjj {P:Program}{w:World}{K:PySem.W.Frag}{tg:Expr} (a it:Addr):Zod P w K tg (Itt K a) [it] it (fun i h=>h.IsTupleIter it a i) where
 mem:=by simp
 obj:=fun i h st b hb=>by
  have e:b=it:=by simpa using hb
  subst e
  obtain ⟨o,e,c,d⟩:=st
  exact ⟨o,e,fun v z=>by rw [d] at z;cases z⟩
 keep:=fun i h h' st k=>st.at fun o e=>k it (by simp) o e
 item:=by
  intro X hP hw hK hc i pins s σ H E I hf st hg
  subst hP hw hK
  obtain ⟨xs,x,hq,hx⟩:=hg
  obtain ⟨its,rv,p,hz⟩:=I.tuple hq
  obtain ⟨u,hu,ru⟩:=rv.get hx
  obtain ⟨f0,f1,f2,f3,f4,f5⟩:=hf it (by simp)
  refine wpAny_pyNext_tuple_item st (show s.heap.IsTuple a its.toArray from p) (x:=u) (by simpa using hu) fun h' st' sb=>?_
  have I1:Inv X pins σ H { s with heap:=h' }:=I.turned (t':=s.toks) (fun b o hb e=>(sb.2 b hb).trans e) f0 f1 f3 f4 f5
  obtain ⟨o,e,c,d⟩:=id st'
  exact ⟨u,rfl,Znv (s:={ s with heap:=h' }) e c d (by decide) ⟨x,H,I1,ru,⟨rfl,fun ys hy=>by rw [I.tuple_inj hy hq];exact hx⟩,st',fun b hb=>(hf b hb).1⟩⟩
 done:=by
  intro X hP hw hK hc i pins s σ H E I hf st hg
  subst hP hw hK
  obtain ⟨xs,hq,hx⟩:=hg
  obtain ⟨its,rv,p,hz⟩:=I.tuple hq
  obtain ⟨f0,f1,f2,f3,f4,f5⟩:=hf it (by simp)
  have hl:=rv.length
  exact wpAny_pyNext_tuple_end (I.ok.hd hc) st (show s.heap.IsTuple a its.toArray from p) (by simp;omega) fun h' eb=>⟨rfl,I.turned (t':=s.toks) (fun b o hb e=>eb b o hb e) f0 f1 f3 f4 f5⟩
 self:=fun _ _ _ _ _ st h=>wpAny_pyIter_tupleiter st h
theorem Zpo {P:Program}{w:World}{K:PySem.W.Frag}{tg:Expr}(it:Addr) (lo:Int) (n:Nat):Zod P w K tg (Itr lo n) [it] it (fun i h=>IsRangeIter h it (lo + (i:Nat) * 1) ((n:Int) - (i:Nat)) 1) where
 mem:=by simp
 obj:=fun i h st b hb=>by
  have e:b=it:=by simpa using hb
  subst e
  exact ⟨_,st,fun v z=>by
   have z':Data.fields _=Data.cell v:=z
   cases z'⟩
 keep:=fun i h h' st k=>k it (by simp) _ st
 item:=by
  intro X hP hw hK hc i pins s σ H E I hf st hg
  subst hP hw hK
  obtain ⟨f0,f1,f2,f3,f4,f5⟩:=hf it (by simp)
  have W:=Walks.range (prog:=X.prog) (w:=X.w) (I.ok.hd hc) it lo 1 n
  refine W.item i s _ _ hg st fun v h' tk hv st' kk=>?_
  obtain ⟨t,rfl⟩:=hv
  have I1:Inv X pins σ H { s with heap:=h',toks:=tk }:=I.turned (fun b o hb e=>kk b o (by simpa using hb) e) f0 f1 f3 f4 f5
  refine ⟨_,rfl,Znv (s:={ s with heap:=h',toks:=tk }) (n:="range_iterator") st' rfl rfl (by decide) ⟨.int (lo + i),H,I1,⟨t,?_⟩,⟨rfl,rfl⟩,st',fun b hb=>(hf b hb).1⟩⟩
  rw [Int.mul_one]
 done:=by
  intro X hP hw hK hc i pins s σ H E I hf st hg
  subst hP hw hK
  obtain ⟨f0,f1,f2,f3,f4,f5⟩:=hf it (by simp)
  exact wpAny_pyNext_range_end (I.ok.hd hc) st (by have:n≤i:=hg;omega) fun h' eb=>⟨rfl,I.turned (t':=s.toks) (fun b o hb e=>eb b o hb e) f0 f1 f3 f4 f5⟩
 self:=fun _ _ _ _ _ st h=>wpAny_pyIter_rangeiter st h
end L2
namespace L2
open PySem PySem.Spec PyProof.Rows
section
variable {X:Cx} {tg:Expr}
def Zya (K:PySem.W.Frag) (tl:TE):TI:=fun σ H R=>tl σ H fun x H1=>∃ a,x=.ref a∧(∃ xs,SqL K H1 a xs)∧R (Itl K a) H1
def Z42 (K:PySem.W.Frag) (tl:TE):TI:=fun σ H R=>tl σ H fun x H1=>∃ a,x=.ref a∧(∃ xs,SqT K H1 a xs)∧R (Itt K a) H1
theorem Zbd {l:Expr}{tl:TE}(hl:PE X l tl):PI X tg l (Zya X.K tl):=by
 intro pins s σ H R I h
 refine thn (hl pins s σ H _ I h) fun v s1 ⟨x,H1,I1,r1,q1⟩=>?_
 obtain ⟨a,e,⟨xs,hq⟩,q⟩:=q1
 subst e
 cases r1
 obtain ⟨its,rv,p,hz⟩:=I1.list hq
 refine wpAny_pyIter_list p.isList ?_
 refine ⟨s1.heap.objs.size,[s1.heap.objs.size],_,_,H1,rfl,I1.kept (t':=s1.toks) fun b o e=>Heap.get?_push_of_some _ e,Zld a _,⟨_,Heap.get?_push_size _ rfl,rfl,rfl⟩,fun b hb=>?_,q⟩
 have e:b=s1.heap.objs.size:=by simpa using hb
 subst e
 exact I1.fpOk (Nat.le_refl _) (I1.hok.fresh (Nat.le_refl _))
theorem Zik {l:Expr}{tl:TE}(hl:PE X l tl):PI X tg l (Z42 X.K tl):=by
 intro pins s σ H R I h
 refine thn (hl pins s σ H _ I h) fun v s1 ⟨x,H1,I1,r1,q1⟩=>?_
 obtain ⟨a,e,⟨xs,hq⟩,q⟩:=q1
 subst e
 cases r1
 obtain ⟨its,rv,p,hz⟩:=I1.tuple hq
 refine wpAny_pyIter_tuple (show s1.heap.IsTuple a its.toArray from p) ?_
 refine ⟨s1.heap.objs.size,[s1.heap.objs.size],_,_,H1,rfl,I1.kept (t':=s1.toks) fun b o e=>Heap.get?_push_of_some _ e,Zjj a _,⟨_,Heap.get?_push_size _ rfl,rfl,rfl⟩,fun b hb=>?_,q⟩
 have e:b=s1.heap.objs.size:=by simpa using hb
 subst e
 exact I1.fpOk (Nat.le_refl _) (I1.hok.fresh (Nat.le_refl _))
theorem Zul {pins:List (Addr×Obj)}{σ:St}{H:Hp}{s:Shared}{R:It→Hp→Prop}{E:Value→Shared→Prop}{lo hi:Int}{t u v:Tok}{tk:Nat}(I:Inv X pins σ H s) (h1:-(2 ^ 62)≤lo) (h2:lo<2 ^ 62) (h3:-(2 ^ 62)≤hi) (h4:hi<2 ^ 62)
  (q:R (Itr lo (hi - lo).toNat) H):wpAny (model X.prog X.w) X.A (pyIter (.ref s.heap.objs.size)) (PIE X pins σ tg R) E { s with heap:=s.heap.push { cls:=.type "range",data:=.fields #[.int lo t,.int hi u,.int 1 v] },toks:=tk }:=by
 refine wpAny_pyIter_range (IsRange.new ..) (small_one h1 h2 h3 h4) ?_
 have I1:Inv X pins σ H { s with heap:=s.heap.push { cls:=.type "range",data:=.fields #[.int lo t,.int hi u,.int 1 v] },toks:=tk }:=I.kept fun b o e=>Heap.get?_push_of_some _ e
 refine ⟨(s.heap.push { cls:=.type "range",data:=.fields #[.int lo t,.int hi u,.int 1 v] }).objs.size,[(s.heap.push { cls:=.type "range",data:=.fields #[.int lo t,.int hi u,.int 1 v] }).objs.size],_,_,H,rfl,
  I1.kept (t':=tk) fun b o e=>Heap.get?_push_of_some _ e,Zpo _ lo (hi - lo).toNat,?_,fun b hb=>?_,q⟩
 ·have e1:lo + ((0:Nat):Int) * 1=lo:=by simp
  have e2:(((hi - lo).toNat:Nat):Int) - ((0:Nat):Int)=Builtin.Range.rangeSize lo hi 1:=by rw [rangeSize_one];split <;> omega
  show IsRangeIter _ _ (lo + ((0:Nat):Int) * 1) ((((hi - lo).toNat:Nat):Int) - ((0:Nat):Int)) 1
  rw [e1,e2]
  exact Heap.get?_push_size _ rfl
 ·have e:b=(s.heap.push { cls:=.type "range",data:=.fields #[.int lo t,.int hi u,.int 1 v] }).objs.size:=by simpa using hb
  subst e
  exact I1.fpOk (Nat.le_refl _) (I1.hok.fresh (Nat.le_refl _))
def Z0n (ta:TA):TI:=fun σ H R=>ta σ H fun vs H1=>∃ j:Int,vs=[.int j]∧-(2 ^ 62)≤j∧j<2 ^ 62∧R (Itr 0 j.toNat) H1
theorem Zb5 {a:Expr}{ta:TA}{p pos:Pos}(hg:Gl X "range") (hm:X.mg "range"=none) (ha:PA X [a] ta) (hs:starEach [a] X.env=[(false,eval a X.env)]:=by rfl):PI X tg (.Call (.Name "range" p) [a] [] pos) (Z0n ta):=by
 intro pins s σ H R I h
 refine Call_ (Zg5 I hg hm boot_range (PyProof.Rows.callWith_type1 (thn (ha pos pins s σ H _ I h) fun us s1 ⟨vs,H1,I1,r1,q1⟩=>?_) hs rfl))
 obtain ⟨j,e,q1,q2,q⟩:=q1
 subst e
 cases r1 with
 | cons r rr =>
  cases rr
  obtain ⟨t,rfl⟩:=r
  exact call_range_1 (Zul I1 (by omega) (by omega) q1 q2 (by simpa using q))
def Z32 (wi:TI) (g:TG) (tb:TS):TS:=fun D σ H=>wi σ H fun J H1=>∃ W:Nat→Nat→St→Hp→Prop,(∃ m,W 0 m σ H1)∧∀ i m σ H,W i m σ H →
 (J.stop i H∧D.nx σ H)∨(J.go i H∧∃ N:St→Hp→Prop,(∀ σ' H',N σ' H'→∃ m',m'<m∧W (i + 1) m' σ' H')∧∀ x H',J.yld i H x H'→g x σ H' fun σ2 H2=>tb { D with nx:=N,ct:=N,bk:=D.nx } σ2 H2)
def Zjp (fp:List Addr) (h:Heap):List (Addr×Obj):=fp.filterMap fun b=>(h.get? b).map fun o=>(b,o)
theorem Zem {fp:List Addr}{h:Heap}{b:Addr}{o:Obj}(hb:b∈fp) (e:h.get? b=some o):(b,o)∈Zjp fp h:=List.mem_filterMap.mpr ⟨b,hb,by rw [e];rfl⟩
theorem Zsv {fp:List Addr}{h:Heap}{p:Addr×Obj}(hp:p∈Zjp fp h):p.1∈fp∧h.get? p.1=some p.2:=by
 obtain ⟨b,hb,e⟩:=List.mem_filterMap.mp hp
 cases q:h.get? b with
 | none=>rw [q] at e;cases e
 | some o =>
  rw [q] at e
  have e':(b,o)=p:=Option.some.inj e
  subst e'
  exact ⟨hb,q⟩
theorem Inv.pinned {pins:List (Addr×Obj)}{σ:St}{H:Hp}{s:Shared}{fp:List Addr}(I:Inv X pins σ H s) (hf:∀ b∈fp,Zk9 X pins H b) (ho:∀ b∈fp,∃ o,s.heap.get? b=some o∧∀ v,o.data≠.cell v):Inv X (pins++Zjp fp s.heap) σ H s :=
 I.pins_of fun p hp=>(List.mem_append.mp hp).elim (fun z=>I.pin p (List.mem_append_right _ z)) fun z=>by
  obtain ⟨hb,e⟩:=Zsv z
  obtain ⟨f0,f1,f2,_⟩:=hf p.1 hb
  obtain ⟨o,e',d⟩:=ho p.1 hb
  rw [e] at e';cases e'
  exact ⟨e,f0,f1,f2,d⟩
theorem Inv.unpinned {pins pl:List (Addr×Obj)}{σ:St}{H:Hp}{s:Shared}(I:Inv X (pins++pl) σ H s):Inv X pins σ H s:=I.pins_of fun p hp=>I.pin p (List.mem_append_right _ (List.mem_append_left _ hp))
theorem Zbw {iter:Expr}{body:List Stmt}{wi:TI}{g:TG}{tb:TS}{pos:Pos}(hp:PassesOwn (model X.prog X.w) X.A X.env X.xe) (hc:X.calm=true) (hi:PI X tg iter wi) (hg:PG X tg g) (hb:PSs X body tb)
  (hs:∀ x,foldedSetIterable iter X.env x=pure x:=by intro _;rfl):PS X (.For tg iter body [] pos) (Z32 wi g tb):=by
 intro pins s σ H D I h
 refine wpAny_For (thn (hi pins s σ H _ I h) fun v s1 h1=>thn h1 fun itv s2 h2=>?_) hs
 obtain ⟨it,fp,tn,J,H2,e,I2,T,st2,f2,W,⟨m0,w0⟩,turn⟩:=h2
 subst e
 have stat:∀ {H':Hp},(∀ b∈fp,H' b=none)→∀ b∈fp,Zk9 X pins H' b:=fun hn b hb=>⟨hn b hb,(f2 b hb).2⟩
 refine codeAny_forLoop_any (fun n s'=>∃ i σ' H',Inv X pins σ' H' s'∧tn i s'.heap∧(∀ b∈fp,H' b=none)∧W i n σ' H') ?_ m0 ⟨0,σ,H2,I2,st2,fun b hb=>(f2 b hb).1,w0⟩
 rintro n s3 ⟨i,σ3,H3,I3,st3,fr3,w3⟩
 rcases turn i n σ3 H3 w3 with ⟨stop,qn⟩ | ⟨go,N,hN,step⟩
 ·refine wpAny_passesOwn hp (thn (T.done X rfl rfl rfl hc i pins s3 σ3 H3 X.xe I3 (stat fr3) st3 stop) fun r s4 ⟨hr,I4⟩=>?_)
  subst hr
  exact wpAny_execs_nil ⟨σ3,H3,I4,qn⟩
 ·refine wpAny_passesOwn hp (thn (T.item X rfl rfl rfl hc i pins s3 σ3 H3 X.xe I3 (stat fr3) st3 go) fun r s4 ⟨u,hr,h4⟩=>?_)
  subst hr
  refine wpAny_passesOwn hp (thn h4 fun _ s5 ⟨x,H5,I5,r5,y5,st5,fr5⟩=>?_)
  have I5':=I5.pinned (stat fr5) (T.obj _ _ st5)
  refine wpAny_passesOwn hp (thn (hg _ s5 σ3 H5 x u _ I5' r5 (step x H5 y5)) fun _ s6 ⟨σ6,H6,I6,q6⟩=>?_)
  refine wpAny_passesOwn hp (thn (hb _ s6 σ6 H6 _ I6 q6) fun f s7 q7=>?_)
  have again:∀ {σ7:St} {H7:Hp},Inv X (pins++Zjp fp s5.heap) σ7 H7 s7→N σ7 H7→∃ m,m<n∧∃ i σ' H',Inv X pins σ' H' s7∧tn i s7.heap∧(∀ b∈fp,H' b=none)∧W i m σ' H':=fun {σ7 H7} I7 n7=>by
   obtain ⟨m',hm,w7⟩:=hN σ7 H7 n7
   refine ⟨m',hm,i + 1,σ7,H7,I7.unpinned,T.keep _ _ _ st5 fun b hb o e=>(I7.pin (b,o) (List.mem_append_right _ (List.mem_append_right _ (Zem hb e)))).1,fun b hb=>?_,w7⟩
   obtain ⟨o,e,d⟩:=T.obj _ _ st5 b hb
   exact (I7.pin (b,o) (List.mem_append_right _ (List.mem_append_right _ (Zem hb e)))).2.1
  cases f with
  | next=>obtain ⟨σ7,H7,I7,n7⟩:=q7;exact again I7 n7
  | cont=>obtain ⟨σ7,H7,I7,n7⟩:=q7;exact again I7 n7
  | brk=>obtain ⟨σ7,H7,I7,q7⟩:=q7;exact ⟨σ7,H7,I7.unpinned,q7⟩
  | ret v=>obtain ⟨x7,σ7,H7,I7,r7,q7⟩:=q7;exact ⟨x7,σ7,H7,I7.unpinned,r7,q7⟩
end
end L2
namespace L2
open PySem PySem.Spec PyProof.Rows
abbrev R2:=V→V→Hp→VK→Prop
def OpR (X:Cx) (f:Value→Value→Sem Value) (r:R2):Prop :=
 ∀ (pins:List (Addr×Obj)) (s:Shared) (σ:St) (H:Hp) (x y:V) (v u:Value) (Q:VK),Inv X pins σ H s→Zc4 x v→Zc4 y u→r x y H Q →
  wpAny (model X.prog X.w) X.A (f v u) (EP X pins σ Q) X.xe s
def UnR (X:Cx) (f:Value→Sem Value) (r:V→Hp→VK→Prop):Prop :=
 ∀ (pins:List (Addr×Obj)) (s:Shared) (σ:St) (H:Hp) (x:V) (v:Value) (Q:VK),Inv X pins σ H s→Zc4 x v→r x H Q →
  wpAny (model X.prog X.w) X.A (f v) (EP X pins σ Q) X.xe s
def Zja (X:Cx) (f:Value) (r:List V→Hp→VK→Prop):Prop :=
 ∀ (pins:List (Addr×Obj)) (s:Shared) (σ:St) (H:Hp) (xs:List V) (us:List Value) (Q:VK),Inv X pins σ H s→Zcn xs us→r xs H Q →
  wpAny (model X.prog X.w) X.A (call f us) (EP X pins σ Q) X.xe s
def Z5i (X:Cx) (r:V→Hp→(Bool→Hp→Prop)→Prop):Prop :=
 ∀ (pins:List (Addr×Obj)) (s:Shared) (σ:St) (H:Hp) (x:V) (v:Value) (Q:Bool→Hp→Prop),Inv X pins σ H s→Zc4 x v→r x H Q →
  wpAny (model X.prog X.w) X.A (truthy v) (TP X pins σ Q) X.xe s
def tOp (r:R2) (ta tb:TE):TE:=fun σ H Q=>ta σ H fun x H1=>tb σ H1 fun y H2=>r x y H2 Q
def tUn (r:V→Hp→VK→Prop) (ta:TE):TE:=fun σ H Q=>ta σ H fun x H1=>r x H1 Q
def rI (C:Int→Int→Prop) (g:Int→Int→V):R2:=fun x y H Q=>∃ i j,x=.int i∧y=.int j∧C i j∧Q (g i j) H
def rI0 (g:Int→Int→V):R2:=fun x y H Q=>∃ i j,x=.int i∧y=.int j∧Q (g i j) H
def rU (g:Int→V):V→Hp→VK→Prop:=fun x H Q=>∃ i,x=.int i∧Q (g i) H
section
variable {X:Cx} {a b c:Expr} {ta tb tc:TE} {pos:Pos}
theorem Z2i (ha:PE X a ta) (hb:PE X b tb) {pins:List (Addr×Obj)}{s:Shared}{σ:St}{H:Hp}{R:V→V→Hp→Prop}(I:Inv X pins σ H s)
  (h:ta σ H fun x H1=>tb σ H1 fun y H2=>R x y H2) {Q:Value→Shared→Prop} {f:Value→Value→Sem Value}
  (hf:∀ v u s2 x y H2,Inv X pins σ H2 s2→Zc4 x v→Zc4 y u→R x y H2→wpAny (model X.prog X.w) X.A (f v u) Q X.xe s2):
  wpAny (model X.prog X.w) X.A (eval a X.env) (fun v s₁=>wpAny (model X.prog X.w) X.A (eval b X.env) (fun u s₂=>wpAny (model X.prog X.w) X.A (f v u) Q X.xe s₂) X.xe s₁) X.xe s:=by
 refine thn (ha pins s σ H _ I h) fun v s1 ⟨x,H1,I1,r1,q1⟩=>?_
 refine thn (hb pins s1 σ H1 _ I1 q1) fun u s2 ⟨y,H2,I2,r2,q2⟩=>?_
 exact hf v u s2 x y H2 I2 r1 r2 q2
theorem Zba {op:Operator}{r:R2}(ho:OpR X (binaryOp op) r) (ha:PE X a ta) (hb:PE X b tb):PE X (.BinOp a op b pos) (tOp r ta tb):=by
 intro pins s σ H Q I h
 exact wpAny_BinOp (Z2i ha hb I h fun v u s2 x y H2 I2 rx ry q=>ho pins s2 σ H2 x y v u Q I2 rx ry q)
theorem Zxi {op:UnaryOp}{r:V→Hp→VK→Prop}(ho:UnR X (unaryOp op) r) (ha:PE X a ta):PE X (.UnaryOp op a pos) (tUn r ta):=by
 intro pins s σ H Q I h
 exact UnaryOp_ (thn (ha pins s σ H _ I h) fun v s1 ⟨x,H1,I1,r1,q1⟩=>ho pins s1 σ H1 x v Q I1 r1 q1)
theorem opI {f:Value→Value→Sem Value}{C:Int→Int→Prop}{g:Int→Int→Int}
  (rule:∀ (i j:Int) (t u:Tok) (s:Shared) (Q:Value→Shared→Prop) (E:Value→Shared→Prop),C i j→Q (.int (g i j) s.toks) { s with toks:=s.toks + 1 }→wpAny (model X.prog X.w) X.A (f (.int i t) (.int j u)) Q E s):
  OpR X f (rI C fun i j=>.int (g i j)):=by
 intro pins s σ H x y v u Q I rx ry h
 obtain ⟨i,j,rfl,rfl,hc,q⟩:=h
 obtain ⟨t,rfl⟩:=rx
 obtain ⟨t',rfl⟩:=ry
 exact rule i j t t' s _ _ hc ⟨.int (g i j),H,I.tok _,⟨_,rfl⟩,q⟩
theorem Z3m {f:Value→Value→Sem Value}{g:Int→Int→Int}
  (rule:∀ (i j:Int) (t u:Tok) (s:Shared) (Q:Value→Shared→Prop) (E:Value→Shared→Prop),Q (.int (g i j) s.toks) { s with toks:=s.toks + 1 }→wpAny (model X.prog X.w) X.A (f (.int i t) (.int j u)) Q E s):
  OpR X f (rI0 fun i j=>.int (g i j)):=by
 intro pins s σ H x y v u Q I rx ry h
 obtain ⟨i,j,rfl,rfl,q⟩:=h
 obtain ⟨t,rfl⟩:=rx
 obtain ⟨t',rfl⟩:=ry
 exact rule i j t t' s _ _ ⟨.int (g i j),H,I.tok _,⟨_,rfl⟩,q⟩
theorem Z05 {f:Value→Value→Sem Value}{g:Int→Int→Bool}
  (rule:∀ (i j:Int) (t u:Tok) (s:Shared) (Q:Value→Shared→Prop) (E:Value→Shared→Prop),Q (.bool (g i j)) s→wpAny (model X.prog X.w) X.A (f (.int i t) (.int j u)) Q E s):
  OpR X f (rI0 fun i j=>.bl (g i j)):=by
 intro pins s σ H x y v u Q I rx ry h
 obtain ⟨i,j,rfl,rfl,q⟩:=h
 obtain ⟨t,rfl⟩:=rx
 obtain ⟨t',rfl⟩:=ry
 exact rule i j t t' s _ _ ⟨.bl (g i j),H,I,rfl,q⟩
def Z5n (i j:Int):Prop:=0<j∧j<1073741824
def Z5m (i j:Int):Prop:=0≤j∧j≤1000000∧i.natAbs<2 ^ 64
def Z2t (i j:Int):Prop:=(-(2 ^ 64)<i∧i<2 ^ 64)∨(-(2 ^ 64)<j∧j<2 ^ 64)
theorem Z2t.ok {i j:Int}(h:Z2t i j):IntMulOk i j:=by
 rcases h with ⟨h1,h2⟩ | ⟨h1,h2⟩
 ·exact .of_left (intBits_le_64 h1 h2)
 ·exact .of_right (intBits_le_64 h1 h2)
theorem Zdr:OpR X (binaryOp .Add) (rI0 fun i j=>.int (i + j)):=Z3m fun _ _ _ _ _ _ _ q=>add_int q
theorem Zhr:OpR X (binaryOp .Sub) (rI0 fun i j=>.int (i - j)):=Z3m fun _ _ _ _ _ _ _ q=>sub_int q
theorem Zjr:OpR X (binaryOp .Mult) (rI Z2t fun i j=>.int (i * j)):=opI fun _ _ _ _ _ _ _ hc q=>mul_int q hc.ok
theorem Zng:OpR X (binaryOp .FloorDiv) (rI Z5n fun i j=>.int (i / j)):=opI fun i j _ _ _ _ _ hc q=>by
 have h1:(0:Int)<j:=hc.1
 have h2:j<1073741824:=hc.2
 exact floordiv_int (by omega) (by rw [Int.fdiv_eq_ediv_of_nonneg i (by omega)];exact q) (.inl (PyProof.noPylong_small (by omega)))
theorem Zfu:OpR X (binaryOp .Mod) (rI (fun _ j=>0<j) fun i j=>.int (i % j)):=opI fun i j _ _ _ _ _ hc q=>by
 have h1:(0:Int)<j:=hc
 exact mod_int' (by omega) (by rw [Int.fmod_eq_emod_of_nonneg i (by omega)];exact q)
theorem Zhs:OpR X (binaryOp .Pow) (rI Z5m fun i j=>.int (i ^ j.toNat)):=opI fun _ _ _ _ _ _ _ hc q=>pow_int_small hc.1 hc.2.1 hc.2.2 q
theorem unI {f:Value→Sem Value}{g:Int→Int}
  (rule:∀ (i:Int) (t:Tok) (s:Shared) (Q:Value→Shared→Prop) (E:Value→Shared→Prop),Q (.int (g i) s.toks) { s with toks:=s.toks + 1 }→wpAny (model X.prog X.w) X.A (f (.int i t)) Q E s):
  UnR X f (rU fun i=>.int (g i)):=by
 intro pins s σ H x v Q I rx h
 obtain ⟨i,rfl,q⟩:=h
 obtain ⟨t,rfl⟩:=rx
 exact rule i t s _ _ ⟨.int (g i),H,I.tok _,⟨_,rfl⟩,q⟩
theorem Zq4:UnR X (unaryOp .USub) (rU fun i=>.int (-i)):=unI fun _ _ _ _ _ q=>neg_int q
end
def Z2z:V→V→Bool
 | .non,.non=>true | .non,.int _=>true | .int _,.non=>true | .non,.bl _=>true | .bl _,.non=>true | .non,.str _=>true | .str _,.non=>true
 | .int _,.int _=>true | .bl _,.bl _=>true | .str _,.str _=>true | .byt _,.byt _=>true
 | .int _,.str _=>true | .str _,.int _=>true | .bl _,.str _=>true | .str _,.bl _=>true
 | _,_=>false
def rEq:R2:=fun x y H Q=>Z2z x y=true∧Q (.bl (decide (x=y))) H
def rNe:R2:=fun x y H Q=>Z2z x y=true∧Q (.bl (!decide (x=y))) H
theorem Ztp {i j:Int}:decide (V.int i=V.int j)=(i == j):=by
 rw [Bool.eq_iff_iff]
 simp
theorem Zwt {i j:Bool}:decide (V.bl i=V.bl j)=(i == j):=by
 rw [Bool.eq_iff_iff]
 simp
theorem Zto {i j:Str}:decide (V.str i=V.str j)=(i == j):=by
 rw [Bool.eq_iff_iff]
 simp
theorem Ztq {i j:Array UInt8}:decide (V.byt i=V.byt j)=(i.toList == j.toList):=by
 rw [Bool.eq_iff_iff]
 cases i
 cases j
 simp
section
variable {X:Cx} {a b c:Expr} {ta tb tc:TE} {pos:Pos}
theorem Zbs {pins:List (Addr×Obj)}{σ:St}{H:Hp}{s:Shared}{Q:VK}{k k':Bool}(I:Inv X pins σ H s) (q:Q (.bl k) H) (e:k=k'):EP X pins σ Q (.bool k') s:=by
 subst e
 exact ⟨.bl k,H,I,rfl,q⟩
theorem Zd1:OpR X (compareOp .Eq) rEq:=by
 intro pins s σ H x y v u Q I rx ry h
 obtain ⟨hs,q⟩:=h
 cases x with
 | non =>
  cases rx
  cases y with
  | non=>cases ry;exact PySem.EqNone.eq_none_none (Zbs I q (by simp))
  | bl j=>cases ry;exact PySem.EqNone.eq_none_bool (Zbs I q (by simp))
  | int j=>obtain ⟨t',rfl⟩:=ry;exact PySem.EqNone.eq_none_int (Zbs I q (by simp))
  | str j=>obtain ⟨t',rfl⟩:=ry;exact PySem.EqNone.eq_none_str (Zbs I q (by simp))
  | _=>exact absurd (show false=true from hs) Bool.false_ne_true
 | bl i =>
  cases rx
  cases y with
  | non=>cases ry;exact PySem.EqNone.eq_bool_none (Zbs I q (by simp))
  | bl j=>cases ry;exact eq_bool (Zbs I q Zwt)
  | str j=>obtain ⟨t',rfl⟩:=ry;exact PySem.EqMixed.eq_bool_str (Zbs I q (by simp))
  | _=>exact absurd (show false=true from hs) Bool.false_ne_true
 | int i =>
  obtain ⟨t,rfl⟩:=rx
  cases y with
  | non=>cases ry;exact PySem.EqNone.eq_int_none (Zbs I q (by simp))
  | int j=>obtain ⟨t',rfl⟩:=ry;exact eq_int (Zbs I q Ztp)
  | str j=>obtain ⟨t',rfl⟩:=ry;exact PySem.EqMixed.eq_int_str (Zbs I q (by simp))
  | _=>exact absurd (show false=true from hs) Bool.false_ne_true
 | str i =>
  obtain ⟨t,rfl⟩:=rx
  cases y with
  | non=>cases ry;exact PySem.EqNone.eq_str_none (Zbs I q (by simp))
  | bl j=>cases ry;exact PySem.EqMixed.eq_str_bool (Zbs I q (by simp))
  | int j=>obtain ⟨t',rfl⟩:=ry;exact PySem.EqMixed.eq_str_int (Zbs I q (by simp))
  | str j=>obtain ⟨t',rfl⟩:=ry;exact eq_str (Zbs I q Zto)
  | _=>exact absurd (show false=true from hs) Bool.false_ne_true
 | byt i =>
  obtain ⟨t,rfl⟩:=rx
  cases y with
  | byt j=>obtain ⟨t',rfl⟩:=ry;exact PySem.W.eq_bytes (Zbs I q Ztq)
  | _=>exact absurd (show false=true from hs) Bool.false_ne_true
 | _=>cases y <;> exact absurd (show false=true from hs) Bool.false_ne_true
theorem Zpz:OpR X (compareOp .NotEq) rNe:=by
 intro pins s σ H x y v u Q I rx ry h
 obtain ⟨hs,q⟩:=h
 cases x with
 | non =>
  cases rx
  cases y with
  | non=>cases ry;exact PySem.EqNone.ne_none_none (Zbs I q (by simp))
  | bl j=>cases ry;exact PySem.EqNone.ne_none_bool (Zbs I q (by simp))
  | int j=>obtain ⟨t',rfl⟩:=ry;exact PySem.EqNone.ne_none_int (Zbs I q (by simp))
  | str j=>obtain ⟨t',rfl⟩:=ry;exact PySem.EqNone.ne_none_str (Zbs I q (by simp))
  | _=>exact absurd (show false=true from hs) Bool.false_ne_true
 | bl i =>
  cases rx
  cases y with
  | non=>cases ry;exact PySem.EqNone.ne_bool_none (Zbs I q (by simp))
  | bl j=>cases ry;exact ne_bool (Zbs I q (congrArg not Zwt))
  | str j=>obtain ⟨t',rfl⟩:=ry;exact PySem.EqMixed.ne_bool_str (Zbs I q (by simp))
  | _=>exact absurd (show false=true from hs) Bool.false_ne_true
 | int i =>
  obtain ⟨t,rfl⟩:=rx
  cases y with
  | non=>cases ry;exact PySem.EqNone.ne_int_none (Zbs I q (by simp))
  | int j=>obtain ⟨t',rfl⟩:=ry;exact ne_int (Zbs I q (congrArg not Ztp))
  | str j=>obtain ⟨t',rfl⟩:=ry;exact PySem.EqMixed.ne_int_str (Zbs I q (by simp))
  | _=>exact absurd (show false=true from hs) Bool.false_ne_true
 | str i =>
  obtain ⟨t,rfl⟩:=rx
  cases y with
  | non=>cases ry;exact PySem.EqNone.ne_str_none (Zbs I q (by simp))
  | bl j=>cases ry;exact PySem.EqMixed.ne_str_bool (Zbs I q (by simp))
  | int j=>obtain ⟨t',rfl⟩:=ry;exact PySem.EqMixed.ne_str_int (Zbs I q (by simp))
  | str j=>obtain ⟨t',rfl⟩:=ry;exact ne_str (Zbs I q (congrArg not Zto))
  | _=>exact absurd (show false=true from hs) Bool.false_ne_true
 | byt i =>
  obtain ⟨t,rfl⟩:=rx
  cases y with
  | byt j=>obtain ⟨t',rfl⟩:=ry;exact PySem.W.ne_bytes (Zbs I q (congrArg not Ztq))
  | _=>exact absurd (show false=true from hs) Bool.false_ne_true
 | _=>cases y <;> exact absurd (show false=true from hs) Bool.false_ne_true
theorem Zjc:OpR X (compareOp .Lt) (rI0 fun i j=>.bl (decide (i<j))):=Z05 fun _ _ _ _ _ _ _ q=>lt_int q
theorem Zjd:OpR X (compareOp .LtE) (rI0 fun i j=>.bl (decide (i≤j))):=Z05 fun _ _ _ _ _ _ _ q=>le_int q
theorem Zp0:OpR X (compareOp .Gt) (rI0 fun i j=>.bl (decide (j<i))):=Z05 fun _ _ _ _ _ _ _ q=>gt_int q
theorem Zzx:OpR X (compareOp .GtE) (rI0 fun i j=>.bl (decide (j≤i))):=Z05 fun _ _ _ _ _ _ _ q=>ge_int q
theorem Zsi:OpR X (compareOp .In) (fun x y H Q=>∃ i j,x=.str i∧y=.str j∧Q (.bl (!(Builtin.Str.occurrences j i 0 j.length 1).isEmpty)) H):=by
 intro pins s σ H x y v u Q I rx ry h
 obtain ⟨i,j,rfl,rfl,q⟩:=h
 obtain ⟨t,rfl⟩:=rx
 obtain ⟨t',rfl⟩:=ry
 exact in_str (Zbs I q rfl)
theorem Zaz (b:Expr) {op:CmpOp}(h:op≠.In:=by decide) (h2:op≠.NotIn:=by decide):behindInMarks op b=false:=by
 have e1:(op == CmpOp.In)=false:=by cases op <;> first | rfl | exact absurd rfl h
 have e2:(op == CmpOp.NotIn)=false:=by cases op <;> first | rfl | exact absurd rfl h2
 cases b <;> simp [behindInMarks,e1,e2]
theorem Zft {op:CmpOp}{r:R2}(ho:OpR X (compareOp op) r) (ha:PE X a ta) (hb:PE X b tb) (hm:behindInMarks op b=false):PE X (.Compare a [op] [b] pos) (tOp r ta tb):=by
 intro pins s σ H Q I h
 exact wpAny_Compare1 (Z2i ha hb I h fun v u s2 x y H2 I2 rx ry q=>ho pins s2 σ H2 x y v u Q I2 rx ry q) hm
def Zuc (t:TE):TT:=fun σ H Q=>t σ H fun x H'=>∃ k,x=.bl k∧Q k H'
theorem Zaq {op:CmpOp}{r:R2}(ho:OpR X (compareOp op) r) (ha:PE X a ta) (hb:PE X b tb) (hm:behindInMarks op b=false):PT X (.Compare a [op] [b] pos) (Zuc (tOp r ta tb)):=by
 intro pins s σ H Q I h
 refine wpAny_isTrue_Compare1 (thn (ha pins s σ H _ I h) fun v s1 ⟨x,H1,I1,r1,q1⟩=>thn (hb pins s1 σ H1 _ I1 q1) fun u s2 ⟨y,H2,I2,r2,q2⟩ =>
  thn (ho pins s2 σ H2 x y v u _ I2 r1 r2 q2) fun c s3 ⟨z,H3,I3,r3,k,e,q3⟩=>?_) hm
 subst e
 cases r3
 exact wpAny_truthy_bool ⟨H3,I3,q3⟩
def Zv2 (r r':R2) (ta tb tc:TE):TE:=fun σ H Q=>ta σ H fun x H1=>tb σ H1 fun y H2=>r x y H2 fun z H3=>∃ k,z=.bl k ∧
 (if k=true then tc σ H3 fun w' H4=>r' y w' H4 Q else Q (.bl false) H3)
theorem Zfe {op op':CmpOp}{r r':R2}(ho:OpR X (compareOp op) r) (ho':OpR X (compareOp op') r') (ha:PE X a ta) (hb:PE X b tb) (hc:PE X c tc)
  (hm:lastMarks [op,op'] [b,c]=false:=by with_unfolding_all rfl):PT X (.Compare a [op,op'] [b,c] pos) (Zuc (Zv2 r r' ta tb tc)):=by
 intro pins s σ H Q I h
 refine isTrue_chain (thn (ha pins s σ H _ I h) fun v s1 ⟨x,H1,I1,r1,q1⟩=>test_link (thn (hb pins s1 σ H1 _ I1 q1) fun u s2 ⟨y,H2,I2,r2,q2⟩ =>
  thn (ho pins s2 σ H2 x y v u _ I2 r1 r2 q2) fun d s3 ⟨z,H3,I3,r3,k,e,q3⟩=>?_)) hm
 subst e
 cases r3
 refine wpAny_truthy_bool ?_
 cases k with
 | false =>
  obtain ⟨k',e',q'⟩:=q3
  cases e'
  exact ite_ff ⟨H3,I3,q'⟩
 | true =>
  refine ite_tt (test_last (thn (hc pins s3 σ H3 _ I3 q3) fun w' s4 ⟨z',H4,I4,r4,q4⟩=>thn (ho' pins s4 σ H4 y z' u w' _ I4 r2 r4 q4) fun d' s5 ⟨z2,H5,I5,r5,k2,e2,q5⟩=>?_))
  subst e2
  cases r5
  exact wpAny_truthy_bool ⟨H5,I5,q5⟩
def Z3v (K:PySem.W.Frag) (x:V) (H:Hp) (k:Bool):Prop :=
 match x with
 | .non=>k=false
 | .bl b=>k=b
 | .int i=>k=(i != 0)
 | .str y=>y.length≤sizeLine∧k=((y.length:Int) != 0)
 | .byt y=>y.size≤sizeLine∧k=((y.size:Int) != 0)
 | .ref p=>(∃ xs,SqL K H p xs∧k=!xs.isEmpty)∨(∃ xs,SqT K H p xs∧k=!xs.isEmpty)∨∃ kvs,H p=some (.dK kvs)∧k=!kvs.isEmpty
 | _=>False
theorem Zqg {κ:Type}{kvs:List (κ×V)}{vs:List (κ×Value)}(r:KV kvs vs):(!vs.isEmpty)=!kvs.isEmpty:=by
 cases r <;> rfl
theorem Zjy {xs:List V}{its:List Value}(r:Zcn xs its):(!its.toArray.isEmpty)=!xs.isEmpty:=by
 cases r <;> simp
theorem Ziy:(sizeLine:Nat)<2 ^ 63:=by rw [sizeLine_eq];decide
theorem Zy1:Z5i X (fun x H Q=>∃ k,Z3v X.K x H k∧Q k H):=by
 intro pins s σ H x v Q I rx h
 obtain ⟨k,e,q⟩:=h
 have hl:=Ziy
 have hs:sizeLine=16777216:=sizeLine_eq
 cases x with
 | non =>
  cases rx
  have e':k=false:=e
  subst e'
  exact truthy_none ⟨H,I,q⟩
 | bl b =>
  cases rx
  have e':k=b:=e
  subst e'
  exact wpAny_truthy_bool ⟨H,I,q⟩
 | int i =>
  obtain ⟨t,rfl⟩:=rx
  have e':k=(i != 0):=e
  subst e'
  exact PySem.P.truthy_int ⟨H,I,q⟩
 | str y =>
  obtain ⟨t,rfl⟩:=rx
  obtain ⟨hy,e'⟩:y.length≤sizeLine∧k=((y.length:Int) != 0):=e
  subst e'
  exact PySem.P.truthy_str (by omega) ⟨H,I.tok _,q⟩
 | byt y =>
  obtain ⟨t,rfl⟩:=rx
  obtain ⟨hy,e'⟩:y.size≤sizeLine∧k=((y.size:Int) != 0):=e
  subst e'
  exact PySem.W.truthy_bytes (by omega) ⟨H,I.tok _,q⟩
 | ref p =>
  cases rx
  have e':(∃ xs,SqL X.K H p xs∧k=!xs.isEmpty)∨(∃ xs,SqT X.K H p xs∧k=!xs.isEmpty)∨∃ kvs,H p=some (.dK kvs)∧k=!kvs.isEmpty:=e
  rcases e' with ⟨xs,hx,e'⟩ | ⟨xs,hx,e'⟩ | ⟨kvs,hx,e'⟩
  ·subst e'
   obtain ⟨its,r,pl,hz⟩:=I.list hx
   have hlen:=r.length
   exact wpAny_truthy_list pl.isList (by simp only [List.size_toArray];omega) ⟨H,I.tok _,by rw [Zjy r];exact q⟩
  ·subst e'
   obtain ⟨its,r,pl,hz⟩:=I.tuple hx
   have hlen:=r.length
   exact truthy_tuple pl (by simp only [List.size_toArray];omega) ⟨H,I.tok _,by rw [Zjy r];exact q⟩
  ·subst e'
   obtain ⟨hz,hS,vs,r,m⟩:kvs.length≤sizeLine∧(p == sysModules)=false∧∃ vs,KV kvs vs∧s.heap.DictOf (Zca X.prog X.w) p vs:=I.hok p _ hx
   have hlen:kvs.length=vs.length:=Paired.length r
   exact wpAny_truthy_dict hS m (by omega) ⟨H,I.tok _,by rw [Zqg r];exact q⟩
 | _=>exact (show False from e).elim
theorem Zkd (ha:PE X a ta) (he:∀ whole,isTrue a X.env whole=(do let v ← whole;standAt a.pos;holding [v] (truthy v))):
  PT X a (fun σ H Q=>ta σ H fun x H'=>∃ k,Z3v X.K x H' k∧Q k H'):=by
 intro pins s σ H Q I h
 exact isTrue_plain (thn (ha pins s σ H _ I h) fun v s1 ⟨x,H1,I1,r1,q1⟩=>Zy1 pins s1 σ H1 x v Q I1 r1 q1) (he _)
theorem Zjs:OpR X (binaryOp .Add) (fun x y H Q=>∃ i j,x=.str i∧y=.str j∧i.length + j.length≤sizeLine∧Q (.str (i++j)) H):=by
 intro pins s σ H x y v u Q I rx ry h
 obtain ⟨i,j,rfl,rfl,hz,q⟩:=h
 obtain ⟨t,rfl⟩:=rx
 obtain ⟨t',rfl⟩:=ry
 exact add_str (fun t' tk=>⟨.str (i++j),H,I.tok _,⟨_,rfl⟩,q⟩) hz
theorem Zjb {x:V}{us:List Value}(r:Zcn [x] us):∃ u,us=[u]∧Zc4 x u:=by
 cases r with
 | cons r1 r2=>cases r2;exact ⟨_,rfl,r1⟩
theorem Zyy {x y:V}{us:List Value}(r:Zcn [x,y] us):∃ u w',us=[u,w']∧Zc4 x u∧Zc4 y w':=by
 cases r with
 | cons r1 r2 =>
  cases r2 with
  | cons r3 r4=>cases r4;exact ⟨_,_,rfl,r1,r3⟩
theorem Ztx:Zja X (.type "int") (fun xs H Q=>(∃ i,xs=[.int i]∧Q (.int i) H)∨∃ k,xs=[.bl k]∧Q (.int (if k then 1 else 0)) H):=by
 intro pins s σ H xs us Q I r h
 rcases h with ⟨i,rfl,q⟩ | ⟨k,rfl,q⟩
 ·obtain ⟨u,rfl,t,rfl⟩:=Zjb r
  exact call_int_int ⟨.int i,H,I,⟨_,rfl⟩,q⟩
 ·obtain ⟨u,rfl,r1⟩:=Zjb r
  cases r1
  exact call_int_bool ⟨.int (if k then 1 else 0),H,I.tok _,⟨_,rfl⟩,q⟩
def Z3y (K:PySem.W.Frag) (x:V) (H:Hp) (n:Nat):Prop :=
 match x with
 | .str y=>y.length≤sizeLine∧n=y.length
 | .byt y=>y.size≤sizeLine∧n=y.size
 | .ref p=>(∃ xs,SqL K H p xs∧n=xs.length)∨∃ xs,SqT K H p xs∧n=xs.length
 | _=>False
theorem Zdy:Zja X (.builtin "len") (fun xs H Q=>∃ x n,xs=[x]∧Z3y X.K x H n∧Q (.int n) H):=by
 intro pins s σ H xs us Q I r h
 obtain ⟨x,n,rfl,e,q⟩:=h
 obtain ⟨u,rfl,rx⟩:=Zjb r
 have hl:=Ziy
 have hs:sizeLine=16777216:=sizeLine_eq
 cases x with
 | str y =>
  obtain ⟨t,rfl⟩:=rx
  obtain ⟨hy,e'⟩:y.length≤sizeLine∧n=y.length:=e
  subst e'
  exact len_str (by omega) ⟨.int _,H,I.tok _,⟨_,rfl⟩,q⟩
 | byt y =>
  obtain ⟨t,rfl⟩:=rx
  obtain ⟨hy,e'⟩:y.size≤sizeLine∧n=y.size:=e
  subst e'
  exact PySem.W.len_bytes (by omega) ⟨.int _,H,I.tok _,⟨_,rfl⟩,q⟩
 | ref p =>
  cases rx
  have e':(∃ xs,SqL X.K H p xs∧n=xs.length)∨∃ xs,SqT X.K H p xs∧n=xs.length:=e
  rcases e' with ⟨xs,hx,e'⟩ | ⟨xs,hx,e'⟩
  ·subst e'
   obtain ⟨its,r',pl,hz⟩:=I.list hx
   have hlen:=r'.length
   exact Calls.call_len_list pl.isList (by simp only [List.size_toArray];omega) ⟨.int xs.length,H,I.tok _,⟨_,by simp only [List.size_toArray];rw [hlen]⟩,q⟩
  ·subst e'
   obtain ⟨its,r',pl,hz⟩:=I.tuple hx
   have hlen:=r'.length
   exact len_tuple pl (by simp only [List.size_toArray];omega) ⟨.int xs.length,H,I.tok _,⟨_,by simp only [List.size_toArray];rw [hlen]⟩,q⟩
 | _=>exact (show False from e).elim
end
end L2
namespace L2
open PySem PySem.Spec PyProof.Rows
structure Zyq (h:Heap) (x dx C:Addr) (mA:Str→Option Value):Prop where
 obj:h.get? x=some (PySem.W.instObj C dx)
 ns:h.Ns1 dx mA
 ne:dx≠x
theorem Zs3 {h:Heap}{dx:Addr}{mA:Str→Option Value}(n:h.Ns1 dx mA):∃ od,h.get? dx=some od∧∀ name,PySem.W.lookIn name od=some (mA name):=by
 obtain ⟨o,es,ep,ho,hd,hk,_,hm⟩:=n
 refine ⟨o,ho,fun name=>?_⟩
 have e:=hm name
 unfold nsFind findBy at e
 rw [← Array.find?_toList] at e
 unfold PySem.W.lookIn
 rw [hd]
 dsimp only
 split
 ·rename_i y q
  rw [q] at e
  exact congrArg some e
 ·rename_i q
  rw [q] at e
  have a:es.toList.any (·.refKey)=false:=by
   rw [List.any_eq_false]
   intro y hy
   obtain ⟨z,t,hkey⟩:=hk y (Array.mem_toList_iff.mp hy)
   simp [DictEntry.refKey,hkey]
  have a':¬ es.toList.any (·.refKey)=true:=by rw [a];exact Bool.false_ne_true
  rw [if_neg a']
  exact congrArg some e
theorem Zyq.look {h:Heap}{x dx C:Addr}{mA:Str→Option Value}(I:Zyq h x dx C mA):∃ od,PySem.W.InstAt h x (PySem.W.instObj C dx) C (some od)∧∀ name,PySem.W.lookIn name od=some (mA name):=
 let ⟨od,ho,hl⟩:=Zs3 I.ns
 ⟨od,⟨I.obj,rfl,rfl,ho⟩,hl⟩
section
variable {prog:Program} {w:World} {A:Around} {E:Value→Shared→Prop} {s:Shared} {K:PySem.W.Frag} {x dx C f:Addr} {mA:Str→Option Value} {name:Str} {v:Value}
theorem Zye {expr:Bool}{Q:Value→Shared→Prop}(X:K.In s.heap) (I:Zyq s.heap x dx C mA) (hg:PySem.W.plainGet K C name=true) (hh:PySem.W.hasDictIn K C=true)
  (ha:PySem.W.findIn K (.ref C) name=some none) (hv:mA name=some v) (hv':PySem.W.handedIn v=true) (h:Q v { s with toks:=s.toks + 1 }):
  wpAny (model prog w) A (getAttr (.ref x) name expr) Q E s:=by
 obtain ⟨od,J,hl⟩:=I.look
 exact PySem.W.get_value X J (PySem.W.plainGet_of hg).1 (PySem.W.findObj_own hh ha rfl (by rw [hl,hv])) hv' h
theorem Zvo {pl:Sem Bool}{Q:Value×List Value→Shared→Prop}(X:K.In s.heap) (I:Zyq s.heap x dx C mA) (hg:PySem.W.plainGet K C name=true)
  (hf:PySem.W.findIn K (.ref C) name=some (some (.ref f))) (ht:PySem.W.isFn K (.ref f)=true) (hv:mA name=none) (h:Q (.ref f,[.ref x]) s):
  wpAny (model prog w) A (getMethod (.ref x) name pl) Q E s:=by
 obtain ⟨od,J,hl⟩:=I.look
 exact PySem.W.method_fn X J (PySem.W.plainGet_of hg).1 (PySem.W.plainGet_of hg).2 hf (beq_iff_eq.mp ht) (by show (PySem.W.lookIn name od).map (·.isSome)=some false;rw [hl,hv];rfl) h
theorem Zw8 {ns:List Str}{Q:Unit→Shared→Prop}(X:K.In s.heap) (I:Zyq s.heap x dx C mA)
  (hs:PySem.W.findIn K (.ref C) "__setattr__"=some (some (.builtin "object.__setattr__"))) (hp:PySem.W.plainOver K C=true) (ht:PySem.W.takerIn K C name=some none) (hh:PySem.W.hasDictIn K C=true)
  (hw:PySem.Within mA ns) (hsz:ns.length≤sizeLine)
  (h:∀ h',Zyq h' x dx C (fun y=>if y=name then some v else mA y)→Heap.SameBut dx s.heap h'→Q () { s with heap:=h',toks:=s.toks + 2 }):
  wpAny (model prog w) A (setAttr (.ref x) name v) Q E s:=by
 obtain ⟨od,J,hl⟩:=I.look
 refine PySem.W.set_plain X J hs (PySem.W.osa_open (s:={ s with toks:=s.toks + 1 }) (r:=none) X J hp ht fun b=>?_)
 obtain ⟨cd,hc,hd'⟩:=PySem.W.any_some hh
 have hx:s.heap.get? x=some ⟨.ref C,some dx,.plain,#[]⟩:=I.obj
 refine wpAny_bind (wpAny_pure (wpAny_bind (wpAny_bind (wpAny_loadPart hx (wpAny_bind (PySem.W.Looks.here (s:={ s with toks:=s.toks + 1 }) (PySem.W.looks_clsIn X hc) ?_))))))
 rw [hd']
 refine wpAny_pure (a:=some dx) (wpAny_bind (wpAny_pure (wpAny_bind ?_)))
 refine wpAny_nsSet1 (s:={ s with toks:=s.toks + 1 }) I.ns fun h' hn2 hs2=>?_
 obtain ⟨oD,esD,epD,hoD,hdD,hcD⟩:=hn2.count (PySem.Within.cons name v hw)
 refine wpAny_bind (wpAny_lookBehind hoD (by rw [hdD];exact pastItsLine_dict (Nat.le_trans hcD (by rw [List.length_cons];omega))) ?_)
 exact wpAny_pure (h _ ⟨(hs2.2 _ (Ne.symm I.ne)).trans I.obj,hn2,I.ne⟩ hs2)
theorem Zve {R:Result→Shared→Prop}{vs:List Value}{kw:List (Str×Value)}(X:K.In s.heap) (hm:PySem.W.makesIn K C=true)
  (hi:PySem.W.findIn K (.ref C) "__init__"=some (some (.ref f))) (hf:PySem.W.typeIn K (.ref f)=some (.type "function"))
  (h:codeAny (model prog w) (A.under (.builtin "type.__call__" ⟨.ref C :: vs,kw⟩)) (.call (.ref f) ⟨.ref (s.heap.objs.size + 1):: vs,kw⟩) (PySem.W.InitBack (s.heap.objs.size + 1) R)
   { s with heap:=(s.heap.push PySem.W.emptyDict).push (PySem.W.instObj C s.heap.objs.size) }):
  codeAny (model prog w) A (.call (.ref C) ⟨vs,kw⟩) R s:=by
 obtain ⟨hh,g,d,t,os⟩:=s
 exact PySem.W.make_core (PySem.W.makes_of X hm) (PySem.W.looks_findIn X hi) (fun self=>PySem.W.bind_fn X self hf) (.inl rfl) h
end
def Zgn (f:Str) (v:V):List (Str×V)→List (Str×V)
 | []=>[(f,v)]
 | (g,x):: r=>if g=f then (g,v):: r else (g,x):: Zgn f v r
theorem Zbb (f g:Str) (v:V):∀ fs:List (Str×V),(Zgn f v fs).lookup g=if g=f then some v else fs.lookup g
 | []=>by
  show List.lookup g [(f,v)]=_
  by_cases h:g=f
  ·have hb:(g == f)=true:=beq_iff_eq.mpr h
   simp only [List.lookup,hb,if_pos h]
  ·have hb:(g == f)=false:=beq_eq_false_iff_ne.mpr h
   simp only [List.lookup,hb,if_neg h]
 | (k,x):: r=>by
  have ih:=Zbb f g v r
  rw [show Zgn f v ((k,x):: r)=(if k=f then (k,v):: r else (k,x):: Zgn f v r) from rfl]
  by_cases hk:k=f
  ·rw [if_pos hk]
   by_cases h:g=k
   ·have hb:(g == k)=true:=beq_iff_eq.mpr h
    simp only [List.lookup,hb,if_pos (h.trans hk)]
   ·have hb:(g == k)=false:=beq_eq_false_iff_ne.mpr h
    simp only [List.lookup,hb,if_neg (fun e:g=f=>h (e.trans hk.symm))]
  ·rw [if_neg hk]
   by_cases h:g=k
   ·have hb:(g == k)=true:=beq_iff_eq.mpr h
    simp only [List.lookup,hb,if_neg (fun e:g=f=>hk (h.symm.trans e))]
   ·have hb:(g == k)=false:=beq_eq_false_iff_ne.mpr h
    simp only [List.lookup,hb]
    exact ih
theorem Zi1 (f:Str) (v:V):∀ fs:List (Str×V),f∈(Zgn f v fs).map (·.1)∧∀ g,g∈fs.map (·.1)→g∈(Zgn f v fs).map (·.1)
 | []=>⟨by simp [Zgn],fun g h=>by simp at h⟩
 | (k,x):: r=>by
  obtain ⟨i1,i2⟩:=Zi1 f v r
  rw [show Zgn f v ((k,x):: r)=(if k=f then (k,v):: r else (k,x):: Zgn f v r) from rfl]
  by_cases hk:k=f
  ·rw [if_pos hk]
   subst hk
   exact ⟨by simp,fun g h=>by simpa using h⟩
  ·rw [if_neg hk]
   refine ⟨?_,fun g h=>?_⟩
   ·rw [List.map_cons]
    exact List.mem_cons_of_mem _ i1
   ·rw [List.map_cons] at h ⊢
    rcases List.mem_cons.mp h with e | e
    ·exact List.mem_cons.mpr (.inl e)
    ·exact List.mem_cons_of_mem _ (i2 g e)
theorem Ziz (f:Str) (v:V):∀ fs:List (Str×V),(Zgn f v fs).length≤fs.length + 1
 | []=>by simp [Zgn]
 | (k,x):: r=>by
  have ih:=Ziz f v r
  rw [show Zgn f v ((k,x):: r)=(if k=f then (k,v):: r else (k,x):: Zgn f v r) from rfl]
  by_cases hk:k=f
  ·rw [if_pos hk,List.length_cons,List.length_cons];omega
  ·rw [if_neg hk,List.length_cons,List.length_cons];omega
theorem Zm0.some_of {v:V}{o:Option Value}(r:Zm0 (some v) o):∃ u,o=some u∧Zc4 v u:=by
 cases o with
 | none=>exact (show False from r).elim
 | some u=>exact ⟨u,rfl,r⟩
theorem Zm0.none_of {o:Option Value}(r:Zm0 none o):o=none:=by
 cases o with
 | none=>rfl
 | some u=>exact (show False from r).elim
theorem Ztd {v:V}{u:Value}(r:Zc4 v u):PySem.W.handedIn u=true:=by
 cases v with
 | non=>cases (show u=Value.none from r);rfl
 | bl b=>cases (show u=Value.bool b from r);rfl
 | int i=>obtain ⟨t,e⟩:=(show ∃ t,u=Value.int i t from r);cases e;rfl
 | str x=>obtain ⟨t,e⟩:=(show ∃ t,u=Value.str x t from r);cases e;rfl
 | byt b=>obtain ⟨t,e⟩:=(show ∃ t,u=Value.bytes b t from r);cases e;rfl
 | flt b=>obtain ⟨t,e⟩:=(show ∃ t,u=Value.float b t from r);cases e;rfl
 | ref a=>cases (show u=Value.ref a from r);rfl
 | ty n=>cases (show u=Value.type n from r);rfl
section
variable {P:Program} {w:World} {H H':Hp} {h h':Heap} {a C dx:Addr} {fs fs':List (Str×V)}
theorem Zkw (hok:HOk P w H h) (e:H a=some (.ins C dx fs)):∃ mA,Zyq h a dx C mA∧(∀ f,Zm0 (fs.lookup f) (mA f))∧PySem.Within mA (fs.map (·.1))∧fs.length≤1000∧H dx=some (.own a):=by
 obtain ⟨d,z,ne,ob,mA,n,r,q⟩:=(show Zc5 P w H h a (.ins C dx fs) from hok a _ e)
 exact ⟨mA,⟨ob,n,ne⟩,r,q,z,d⟩
end
structure Cls (K:PySem.W.Frag) (C:Addr):Prop where
 pg:PySem.W.plainGet K C Str.empty=true
 hd:PySem.W.hasDictIn K C=true
 po:PySem.W.plainOver K C=true
 sa:PySem.W.findIn K (.ref C) "__setattr__"=some (some (.builtin "object.__setattr__"))
theorem Cls.get {K:PySem.W.Frag}{C:Addr}(c:Cls K C) (f:Str):PySem.W.plainGet K C f=true:=c.pg
def Zfz (K:PySem.W.Frag) (C:Addr) (f:Str):Prop:=PySem.W.findIn K (.ref C) f=some none
theorem Zfz.taker {K:PySem.W.Frag}{C:Addr}{f:Str}(n:Zfz K C f):PySem.W.takerIn K C f=some none:=by
 unfold PySem.W.takerIn
 rw [show PySem.W.findIn K (.ref C) f=some none from n]
 rfl
structure Con (K:PySem.W.Frag) (C:Addr) (f:Str) (v:V) (u:Value):Prop where
 at_:PySem.W.findIn K (.ref C) f=some (some u)
 rel:Zc4 v u
 get:PySem.W.specialIn K u "__get__"=some none
 cp:PySem.W.copiedNames.contains f=false
structure Z1a (K:PySem.W.Frag) (C:Addr) (m:Str) (f:Addr):Prop where
 at_:PySem.W.findIn K (.ref C) m=some (some (.ref f))
 fn:PySem.W.isFn K (.ref f)=true
 kp:PySem.W.keepIn K (.ref f)=true
section
variable {X:Cx} {pins:List (Addr×Obj)} {σ:St} {H:Hp} {s:Shared} {a C dx:Addr} {fs:List (Str×V)} {f:Str} {v:V} {A:Around} {E:Value→Shared→Prop}
theorem Zqh {b:Bool}{Q:Value→Shared→Prop}(I:Inv X pins σ H s) (e:H a=some (.ins C dx fs)) (c:Cls X.K C) (n:Zfz X.K C f) (l:fs.lookup f=some v)
  (h:∀ u s',Inv X pins σ H s'→Zc4 v u→Q u s'):wpAny (model X.prog X.w) A (getAttr (.ref a) f b) Q E s:=by
 obtain ⟨mA,O,r,_,_,_⟩:=Zkw I.hok e
 obtain ⟨u,hu,ru⟩:=Zm0.some_of (v:=v) (o:=mA f) (by rw [← l];exact r f)
 exact Zye I.kIn O (c.get f) c.hd n hu (Ztd ru) (h u _ (I.tok _) ru)
theorem Zjz {m:Str}{g:Addr}{pl:Sem Bool}{Q:Value×List Value→Shared→Prop}(I:Inv X pins σ H s) (e:H a=some (.ins C dx fs)) (c:Cls X.K C) (k:Z1a X.K C m g) (l:fs.lookup m=none)
  (h:Q (.ref g,[.ref a]) s):wpAny (model X.prog X.w) A (getMethod (.ref a) m pl) Q E s:=by
 obtain ⟨mA,O,r,_,_,_⟩:=Zkw I.hok e
 have hn:mA m=none:=Zm0.none_of (by rw [← l];exact r m)
 exact Zvo I.kIn O (c.get m) k.at_ k.fn hn h
theorem Zps {y:V}{u:Value}{Q:Unit→Shared→Prop}(I:Inv X pins σ H s) (e:H a=some (.ins C dx fs)) (c:Cls X.K C) (n:Zfz X.K C f) (hl:fs.length<1000) (ry:Zc4 y u)
  (h:∀ s',Inv X pins σ (upd H a (.ins C dx (Zgn f y fs))) s'→Q () s'):wpAny (model X.prog X.w) A (setAttr (.ref a) f u) Q E s:=by
 obtain ⟨mA,O,r,wi,_,ho⟩:=Zkw I.hok e
 have hz:(fs.map (·.1)).length≤sizeLine:=by rw [List.length_map,sizeLine_eq];omega
 refine Zw8 I.kIn O c.sa c.po n.taker c.hd wi hz fun h' O' sb=>h _ ?_
 have hd:∃ o,h'.get? dx=some o:=let ⟨o,_,_,e',_⟩:=O'.ns;⟨o,e'⟩
 refine I.write (x:=a) (e:=dx) (by rw [e];exact True.intro) (.inr ho) (fun b q hb z=>(sb.2 b hb).trans z) hd ?_
 refine ⟨by rw [Zac O.ne];exact ho,?_,O.ne,O'.obj,_,O'.ns,fun g=>?_,fun g hg=>?_⟩
 ·have:=Ziz f y fs;omega
 ·show Zm0 ((Zgn f y fs).lookup g) (if g=f then some u else mA g)
  rw [Zbb]
  by_cases q:g=f
  ·rw [if_pos q,if_pos q];exact ry
  ·rw [if_neg q,if_neg q];exact r g
 ·by_cases q:g=f
  ·rw [q];exact (Zi1 f y fs).1
  ·refine (Zi1 f y fs).2 g (wi g fun z=>hg ?_)
   show (if g=f then some u else mA g)=none
   rw [if_neg q];exact z
theorem Inv.made (I:Inv X pins σ H s):Inv X pins σ (upd (upd H s.heap.objs.size (.own (s.heap.objs.size + 1))) (s.heap.objs.size + 1) (.ins C s.heap.objs.size []))
  { s with heap:=(s.heap.push PySem.W.emptyDict).push (PySem.W.instObj C s.heap.objs.size) }:=by
 have e1:(s.heap.push PySem.W.emptyDict).get? s.heap.objs.size=some PySem.W.emptyDict:=Heap.get?_push_size s.heap rfl
 have e2:((s.heap.push PySem.W.emptyDict).push (PySem.W.instObj C s.heap.objs.size)).get? (s.heap.objs.size + 1)=some (PySem.W.instObj C s.heap.objs.size):=by
  have:=Heap.get?_push_size (s.heap.push PySem.W.emptyDict) (o:=PySem.W.instObj C s.heap.objs.size) rfl
  rwa [Heap.size_push] at this
 have e3:(s.heap.push PySem.W.emptyDict).Ns s.heap.objs.size (fun _=>none):=⟨PySem.W.emptyDict,#[],_,e1,rfl,(fun e he=>absurd he (by simp)),fun _=>rfl⟩
 have I1:=I.laid (a:=s.heap.objs.size) (o:=.own (s.heap.objs.size + 1)) (h':=s.heap.push PySem.W.emptyDict) (t':=s.toks) (fun b u q=>Heap.get?_push_of_some _ q) (Nat.le_refl _) ⟨_,e1⟩
 refine I1.laid (a:=s.heap.objs.size + 1) (o:=.ins C s.heap.objs.size []) (t':=s.toks) (fun b u q=>Heap.get?_push_of_some _ q) (Nat.le_of_eq (Heap.size_push _ _)) ?_
 have ne:s.heap.objs.size≠s.heap.objs.size + 1:=Nat.ne_of_lt (Nat.lt_succ_self _)
 refine ⟨by rw [Zac ne,uS],Nat.zero_le _,ne,e2,fun _=>none,(Heap.Ns1.of_empty e3).at fun o q=>Heap.get?_push_of_some _ q,fun _=>True.intro,fun y hy=>absurd rfl hy⟩
theorem Zyk {prog:Program}{w:World}{env:Env}{e:Expr}{f:Str}{pos:Pos}{s:Shared}{Q:Value→Shared→Prop}(hb:attributeBase e f env (eval e env)=eval e env)
  (h:wpAny (model prog w) A (eval e env) (fun o s₁=>wpAny (model prog w) A (getAttr o f true) Q E s₁) E s):wpAny (model prog w) A (eval (.Attribute e f pos) env) Q E s :=
 Attribute_any_ h (by rw [arm_eval_Attribute,hb])
end
def Z33 (K:PySem.W.Frag) (ta:TE) (f:Str):TE:=fun σ H Q=>ta σ H fun x H1=>∃ a C dx fs v,x=.ref a∧H1 a=some (.ins C dx fs)∧Cls K C∧Zfz K C f∧fs.lookup f=some v∧Q v H1
def Z4q (K:PySem.W.Frag) (ta tv:TE) (f:Str):TS:=fun D σ H=>tv σ H fun y H1=>ta σ H1 fun x H2=>∃ a C dx fs,x=.ref a∧H2 a=some (.ins C dx fs)∧Cls K C∧Zfz K C f∧fs.length<1000 ∧
 D.nx σ (upd H2 a (.ins C dx (Zgn f y fs)))
section
variable {X:Cx} {o e value:Expr} {f:Str} {pos pos' tpos:Pos} {ta tv:TE}
theorem Zgi (he:PE X e ta) (hb:attributeBase e f X.env (eval e X.env)=eval e X.env):PE X (.Attribute e f pos) (Z33 X.K ta f):=by
 intro pins s σ H Q I h
 refine Zyk hb (thn (he pins s σ H _ I h) fun u s1 ⟨x,H1,I1,rx,a,C,dx,fs,v,ex,ea,c,n,l,q⟩=>?_)
 subst ex
 obtain rfl:u=Value.ref a:=rx
 exact Zqh I1 ea c n l fun u' s2 I2 ru=>⟨v,H1,I2,ru,q⟩
theorem Zls (ha:PE X o ta) (hv:PE X value tv) (hs:swapsWith value (some (.Attribute o f pos')) pos.line X.env=pure false):PS X (.Assign [.Attribute o f pos'] value pos) (Z4q X.K ta tv f):=by
 intro pins s σ H D I h
 refine plainObj_wpAny_Assign_Attribute (thn (hv pins s σ H _ I h) fun u s1 ⟨y,H1,I1,ry,q⟩=>thn (ha pins s1 σ H1 _ I1 q) fun ov s2 ⟨x,H2,I2,rx,a,C,dx,fs,ex,ea,c,n,l,q2⟩=>?_) hs
 subst ex
 obtain rfl:ov=Value.ref a:=rx
 exact Zps I2 ea c n l ry fun s3 I3=>⟨σ,_,I3,q2⟩
end
section
variable {X:Cx} {pins:List (Addr×Obj)} {σ:St} {H:Hp} {s:Shared} {A:Around} {E:Value→Shared→Prop} {Q:Value→Shared→Prop} {c:Value} {b:Bool}
inductive Zqq (K:PySem.W.Frag) (H:Hp):V→Value→Prop where
 | non:Zqq K H .non (.type "NoneType")
 | bl (x:Bool):Zqq K H (.bl x) (.type "bool")
 | int (i:Int):Zqq K H (.int i) (.type "int")
 | str (x:Str):Zqq K H (.str x) (.type "str")
 | flt (x:UInt64):Zqq K H (.flt x) (.type "float")
 | lst {a:Addr} {xs:List V} (e:H a=some (.lst xs)):Zqq K H (.ref a) (.type "list")
 | frz {a:Addr} {o:Obj} {xs:List V} (e:H a=some (.frz o (.lst xs))):Zqq K H (.ref a) (.type "list")
 | tup {a:Addr} {xs:List V} (e:H a=some (.tup xs)):Zqq K H (.ref a) (.type "tuple")
 | dK {a:Addr} {kvs:List (Key×V)} (e:H a=some (.dK kvs)):Zqq K H (.ref a) (.type "dict")
 | dT {a:Addr} {kvs:List (List Key×V)} (e:H a=some (.dT kvs)):Zqq K H (.ref a) (.type "dict")
 | ins {a C dx:Addr} {fs:List (Str×V)} (e:H a=some (.ins C dx fs)) (cl:Cls K C) (ha:PySem.W.findIn K (.ref C) "__class__"=some (some (.builtin "object.__class__")))
   (hn:PySem.W.specialIn K (.builtin "object.__class__") "__get__"=some (some (.builtin "getset_descriptor.__get__"))) (htk:PySem.W.takesIn K (.builtin "object.__class__")=some true)
   (hm:PySem.W.mroIn K C (.type "object")=some true):Zqq K H (.ref a) (.ref C)
theorem Zs9 {x:V}{u t:Value}(I:Inv X pins σ H s) (rx:Zc4 x u) (ty:Zqq X.K H x t) (e:PySem.W.kitOne X.K t c=some b) (h:∀ tk,Q (.bool b) { s with toks:=tk }):
  wpAny (model X.prog X.w) A (call (.builtin "isinstance") [u,c]) Q E s:=by
 cases ty with
 | non=>cases (show u=Value.none from rx);exact PySem.W.kia_one PySem.W.kitx_none I.kIn True.intro e (fun z=>nomatch z) h
 | bl y=>cases (show u=Value.bool y from rx);exact PySem.W.kia_one PySem.W.kitx_bool I.kIn True.intro e (fun z=>nomatch z) h
 | int i=>obtain ⟨t,q⟩:=(show ∃ t,u=Value.int i t from rx);cases q;exact PySem.W.kia_one PySem.W.kitx_int I.kIn True.intro e (fun z=>nomatch z) h
 | str y=>obtain ⟨t,q⟩:=(show ∃ t,u=Value.str y t from rx);cases q;exact PySem.W.kia_one PySem.W.kitx_str I.kIn True.intro e (fun z=>nomatch z) h
 | flt y=>obtain ⟨t,q⟩:=(show ∃ t,u=Value.float y t from rx);cases q;exact PySem.W.kia_one PySem.W.kitx_float I.kIn True.intro e (fun z=>nomatch z) h
 | @lst a xs ea =>
  cases (show u=Value.ref a from rx)
  obtain ⟨_,_,n,_,h1⟩:=(show Zc5 X.prog X.w H s.heap a (.lst xs) from I.hok a _ ea)
  exact PySem.W.kia_one PySem.W.kitx_list I.kIn ⟨_,h1,rfl⟩ e (fun z=>nomatch z) h
 | @frz a ob xs ea =>
  cases (show u=Value.ref a from rx)
  obtain ⟨_,_,_,n,_,h1⟩:=(show Zc5 X.prog X.w H s.heap a (.frz ob (.lst xs)) from I.hok a _ ea)
  exact PySem.W.kia_one PySem.W.kitx_list I.kIn ⟨_,h1,rfl⟩ e (fun z=>nomatch z) h
 | @tup a xs ea =>
  cases (show u=Value.ref a from rx)
  obtain ⟨_,_,_,p⟩:=(show Zc5 X.prog X.w H s.heap a (.tup xs) from I.hok a _ ea)
  obtain ⟨o,h1,h2,_⟩:=p
  exact PySem.W.kia_one PySem.W.kitx_tuple I.kIn ⟨o,h1,h2⟩ e (fun z=>nomatch z) h
 | @dK a kvs ea =>
  cases (show u=Value.ref a from rx)
  obtain ⟨_,_,vs,_,p⟩:=(show Zc5 X.prog X.w H s.heap a (.dK kvs) from I.hok a _ ea)
  obtain ⟨o,es,ep,h1,h2,_⟩:=p
  exact PySem.W.kia_one PySem.W.kitx_dict I.kIn ⟨o,h1,h2.1⟩ e (fun z=>nomatch z) h
 | @dT a kvs ea =>
  cases (show u=Value.ref a from rx)
  obtain ⟨_,_,xs,_,o,es,ep,h1,h2,_⟩:=(show Zc5 X.prog X.w H s.heap a (.dT kvs) from I.hok a _ ea)
  exact PySem.W.kia_one PySem.W.kitx_dict I.kIn ⟨o,h1,h2.1⟩ e (fun z=>nomatch z) h
 | @ins a C dx fs ea cl ha hn htk hm =>
  cases (show u=Value.ref a from rx)
  obtain ⟨mA,O,_⟩:=Zkw I.hok ea
  obtain ⟨od,J,_⟩:=O.look
  exact PySem.W.kia_one (PySem.W.kitx_own (cl.get _) cl.hd ha hn htk hm) I.kIn J e (fun z=>nomatch z) h
end
end L2
namespace L2
open PySem PySem.Spec PyProof.Rows
structure Zec (k:Nat) (A:Around):Prop where
 hd:A.handled=none
 dp:A.depth + 3 * k + 5<recursionLimit
 un:A.units + 16 * k + 200<cLine
 gd:A.guards=some []
theorem Zec.mono {j k:Nat}{A:Around}(r:Zec k A) (h:j≤k):Zec j A:=⟨r.hd,by have:=r.dp;omega,by have:=r.un;omega,r.gd⟩
theorem Zec.deeper {k:Nat}{A:Around}(r:Zec (k + 1) A) (env:Env):Zec k (A.deeper env):=
 ⟨r.hd,by have:=r.dp;show A.depth + 1 + 3 * k + 5<_;omega,by have:=r.un;show A.units + 3 + 16 * k + 200<_;omega,r.gd⟩
theorem Zqc {A:Around}{C:Addr}{us:List Value}{kw:List (Str×Value)}:(A.under (.builtin "type.__call__" ⟨.ref C :: us,kw⟩)).depth=A.depth + 1:=by
 first | rfl | simp [Around.under,Code.weight,Code.isCreation,Code.isGuard,Code.isCaller,Code.frames,Code.isFrame,guardIds]
theorem Zqb {A:Around}{C:Addr}{us:List Value}{kw:List (Str×Value)}:(A.under (.builtin "type.__call__" ⟨.ref C :: us,kw⟩)).units=A.units + 1:=by
 first | rfl | simp [Around.under,Code.cUnits,Code.frames,Code.isFrame]
theorem Zec.make {k:Nat}{A:Around}(r:Zec (k + 1) A) (C:Addr) (us:List Value) (kw:List (Str×Value)):Zec k (A.under (.builtin "type.__call__" ⟨.ref C :: us,kw⟩)):=
 ⟨r.hd,by have:=r.dp;rw [Zqc];omega,by have:=r.un;rw [Zqb];omega,by first | exact r.gd | simpa [Around.under,Code.guards,Code.isGuard,guardIds,pushGuards] using r.gd⟩
theorem Zec.depth {k:Nat}{A:Around}(r:Zec k A):A.depth<recursionLimit:=by have:=r.dp;omega
theorem Zec.units {k:Nat}{A:Around}(r:Zec k A):A.units + 64<cLine:=by have:=r.un;omega
def Zue:TA:=fun _ H Q=>Q [] H
def Zle (ta:TE) (tr:TA):TA:=fun σ H Q=>ta σ H fun x H1=>tr σ H1 fun xs H2=>Q (x :: xs) H2
section
variable {X:Cx} {e:Expr} {es:List Expr} {te:TE} {t:TA} {pos:Pos}
theorem Zaa:PA X [] Zue:=fun _ _ _ _ H Q I h=>Calls.spliced_nil ⟨[],H,I,.nil,h⟩
theorem pC (ha:PE X e te) (hr:PA X es t) (hs:starEach (e :: es) X.env=(false,eval e X.env):: starEach es X.env:=by rfl):PA X (e :: es) (Zle te t):=by
 intro pos pins s σ H Q I h
 rw [hs]
 show wpAny _ _ (spliced ((false,eval e X.env):: backTo pos (starEach es X.env))) _ _ s
 refine Calls.spliced_cons (thn (ha pins s σ H _ I h) fun u s1 ⟨x,H1,I1,r1,q1⟩=>?_)
 exact thn (hr pos pins s1 σ H1 _ I1 q1) fun us s2 ⟨xs,H2,I2,r2,q2⟩=>⟨x :: xs,H2,I2,.cons r1 r2,q2⟩
def Z1c (t:TA):TE:=fun σ H Q=>t σ H fun xs H1=>xs.length≤sizeLine∧∀ p,H1 p=none→Q (.ref p) (upd H1 p (.tup xs))
def Z30 (t:TA):TE:=fun σ H Q=>t σ H fun xs H1=>xs.length≤sizeLine∧∀ p,H1 p=none→Q (.ref p) (upd H1 p (.lst xs))
theorem Zb8 {x1}(h:PA X es t):PE X (.Tuple es x1 pos) (Z1c t):=by
 intro pins s σ H Q I hq
 refine wpAny_Tuple_spliced (thn (h pos pins s σ H _ I hq) fun us s1 ⟨xs,H1,I1,r,z,q⟩=>⟨by rw [← r.length];exact z,?_⟩)
 have hf:H1 s1.heap.objs.size=none:=I1.hok.fresh (Nat.le_refl _)
 refine ⟨.ref s1.heap.objs.size,upd H1 s1.heap.objs.size (.tup xs),I1.laid (t':=s1.toks) (fun b u e=>Heap.get?_push_of_some _ e) (Nat.le_refl _) ?_,rfl,q _ hf⟩
 exact ⟨z,us,r,⟨_,Heap.get?_push_size _ rfl,rfl,_,rfl⟩⟩
theorem Zb9 (h:PA X es t):PE X (.List es pos) (Z30 t):=by
 intro pins s σ H Q I hq
 refine wpAny_List_spliced (thn (h pos pins s σ H _ I hq) fun us s1 ⟨xs,H1,I1,r,z,q⟩=>⟨by rw [← r.length];exact z,?_⟩)
 have hf:H1 s1.heap.objs.size=none:=I1.hok.fresh (Nat.le_refl _)
 refine ⟨.ref s1.heap.objs.size,upd H1 s1.heap.objs.size (.lst xs),I1.laid (t':=s1.toks) (fun b u e=>Heap.get?_push_of_some _ e) (Nat.le_refl _) ?_,rfl,q _ hf⟩
 exact ⟨z,us,0,r,Heap.get?_push_size _ rfl⟩
end
abbrev Sp:=List V→Hp→VK→XK→Prop
abbrev CXT:=List Env→Hp→Shared→XK→Value→Shared→Prop
structure Env0 (P:Program) (w:World) (K:PySem.W.Frag) (mg:Str→Option Value) (base:Heap) (A:Around) (outer:List Env) (s:Shared) (H:Hp):Prop where
 frames:A.frames=some outer
 mod:Mod K mg base
 bs:∀ b o,base.get? b=some o→s.heap.get? b=some o∧H b=none
 bsz:base.objs.size≤s.heap.objs.size
 funs:s.heap.FunFrames base outer
 frf:∀ b∈frs outer,H b=none
 hok:HOk P w H s.heap
 bare:AllBare s.gens
def CE (outer:List Env) (P:Program) (w:World) (H:Hp) (s:Shared) (Q:VK) (u:Value) (s':Shared):Prop :=
 ∃ v H',s'.os=s.os∧AllBare s'.gens∧Un (frs outer) [] H H' s.heap s'.heap∧HOk P w H' s'.heap∧Zc4 v u∧Q v H'
def CR (CX:CXT) (outer:List Env) (P:Program) (w:World) (H:Hp) (s:Shared) (Q:VK) (E:XK) (r:Result) (s':Shared):Prop :=
 match r with
 | .ok (.ret u)=>CE outer P w H s Q u s'
 | .ok _=>False
 | .error e=>CX outer H s E e s'
structure Za3 (P:Program) (w:World) (K:PySem.W.Frag) (mg:Str→Option Value) (base:Heap) (CX:CXT) (k:Nat) (f:Addr) (fd:FuncData) (ps:List Str) (sp:Sp):Prop where
 len:∀ vs H Q E,sp vs H Q E→vs.length=ps.length
 run:∀ (A:Around) (outer:List Env) (s:Shared) (H:Hp) (args:Args) (us:List Value) (vs:List V) (Q:VK) (E:XK),Zec k A→Env0 P w K mg base A outer s H→BindsTo s fd args (ps.zip us)→Zcn vs us→sp vs H Q E →
  codeAny (model P w) A (.call (.ref f) args) (CR CX outer P w H s Q E) s
theorem Env0.make {P:Program}{w:World}{K:PySem.W.Frag}{mg:Str→Option Value}{base:Heap}{A:Around}{outer:List Env}{s:Shared}{H:Hp}(e:Env0 P w K mg base A outer s H) (C:Addr) (us:List Value) (kw:List (Str×Value)):
  Env0 P w K mg base (A.under (.builtin "type.__call__" ⟨.ref C :: us,kw⟩)) outer s H:=⟨by first | exact e.frames | (simpa [Around.under,Code.envs,Code.isFrame,pushEnvs] using e.frames),e.mod,e.bs,e.bsz,e.funs,e.frf,e.hok,e.bare⟩
section
variable {X:Cx} {pins:List (Addr×Obj)} {σ:St} {H:Hp} {s s':Shared}
theorem Inv.env0 (I:Inv X pins σ H s):Env0 X.prog X.w X.K X.mg X.base X.A X.stack s H :=
 ⟨I.ok.frames,I.ok.mod,I.bs,Nat.le_trans I.ok.bsz I.sz,I.stack,I.stkFree,I.hok,I.bare⟩
theorem Inv.after {Q:VK}{u:Value}(I:Inv X pins σ H s) (h:CE X.stack X.prog X.w H s Q u s'):EP X pins σ Q u s':=by
 obtain ⟨v,H',os,bare,un,hok,r,q⟩:=h
 obtain ⟨hh,g,d,t,os'⟩:=s'
 obtain rfl:os'=s.os:=os
 exact ⟨v,H',I.call (h':=hh) (g':=g) (d':=d) (t':=t) (ch:=[]) un hok bare (fun b z=>absurd z (by simp)),r,q⟩
end
def Zy9 (sp:Sp) (dvs:List V) (E:XK) (t:TA):TE:=fun σ H Q=>t σ H fun vs H1=>sp (vs++dvs) H1 Q E
def Zy5 (C:Addr) (m:Str) (sp:Sp) (dvs:List V) (E:XK) (ta:TE) (t:TA):TE:=fun σ H Q=>ta σ H fun x H1=>∃ a dx fs,x=.ref a∧H1 a=some (.ins C dx fs)∧fs.lookup m=none ∧
 t σ H1 fun vs H2=>sp (x :: (vs++dvs)) H2 Q E
def Z1f (C:Addr) (sp:Sp) (dvs:List V) (E:XK) (t:TA):TE:=fun σ H Q=>t σ H fun vs H1=>∀ x dx,H1 x=none→H1 dx=none→dx≠x →
 sp (.ref x :: (vs++dvs)) (upd (upd H1 dx (.own x)) x (.ins C dx [])) (fun v H2=>v=.non∧Q (.ref x) H2) E
def Zhm (K:PySem.W.Frag) (fd:FuncData) (ps:List Str) (ds:List Value):Prop :=
 ∀ (s:Shared) (us:List Value),K.In s.heap→(us++ds).length=ps.length→BindsTo s fd ⟨us,[]⟩ (ps.zip (us++ds))
theorem Zhm.all {K:PySem.W.Frag}{fd:FuncData}{ps:List Str}(h:∀ us:List Value,us.length=ps.length→bindArgs fd ⟨us,[]⟩=pure (ps.zip us)):Zhm K fd ps []:=fun s us _ hl=>by
 rw [List.append_nil] at hl ⊢
 exact .of_eq (h us hl)
def Zi9 (CX:CXT) (X:Cx) (E:XK):Prop:=∀ (pins:List (Addr×Obj)) (σ:St) (H:Hp) (s:Shared) (e:Value) (s':Shared),Inv X pins σ H s→CX X.stack H s E e s'→X.xe e s'
section
variable {X:Cx} {CX:CXT} {k:Nat} {f C:Addr} {fd:FuncData} {ps:List Str} {sp:Sp} {dvs:List V} {ds:List Value} {E:XK} {x m:Str} {p pos apos:Pos} {e o:Expr} {es:List Expr} {ta:TE} {t:TA}
theorem Zrz {pins:List (Addr×Obj)}{σ:St}{H:Hp}{s:Shared}{Q:VK}{us:List Value}{vs:List V}(F:Za3 X.prog X.w X.K X.mg X.base CX k f fd ps sp) (hr:Zec k X.A) (hb:Zhm X.K fd ps ds) (hd:Zcn dvs ds) (hx:Zi9 CX X E)
  (I:Inv X pins σ H s) (r:Zcn vs us) (h:sp (vs++dvs) H Q E):wpAny (model X.prog X.w) X.A (call (.ref f) us) (EP X pins σ Q) X.xe s:=by
 have r2:Zcn (vs++dvs) (us++ds):=r.append hd
 have hl:(us++ds).length=ps.length:=by rw [← r2.length];exact F.len _ _ _ _ h
 refine wpAny_call (codeAny_mono (F.run X.A X.stack s H ⟨us,[]⟩ (us++ds) (vs++dvs) Q E hr I.env0 (hb s us I.kIn hl) r2 h) fun r s' hq=>?_)
 cases r with
 | error e=>exact hx pins σ H s e s' I hq
 | ok fl =>
  cases fl with
  | ret u=>exact I.after hq
  | next=>exact False.elim hq
  | brk=>exact False.elim hq
  | cont=>exact False.elim hq
theorem Zxk (F:Za3 X.prog X.w X.K X.mg X.base CX k f fd ps sp) (hr:Zec k X.A) (hg:Gl X x) (hm:X.mg x=some (.ref f)) (hk:PySem.W.keepIn X.K (.ref f)=true) (hb:Zhm X.K fd ps ds) (hd:Zcn dvs ds) (hx:Zi9 CX X E)
  (ha:PA X (e :: es) t) (hdb:(x == ("__debug__":Str))=false:=by decide) (he:starEach (e :: es) X.env=(false,eval e X.env):: starEach es X.env:=by rfl) (hpl:(backTo pos (starEach es X.env)).any (·.1)=false:=by rfl):
  PE X (.Call (.Name x p) (e :: es) [] pos) (Zy9 sp dvs E t):=by
 intro pins s σ H Q I h
 refine wpAny_Call_Name_kw (Znr I hg hm ?_ hdb)
 refine PySem.W.callWith_K (h₀:=X.base) I.ok.mod.kin hk (thn (ha pos pins s σ H _ I h) fun us s1 ⟨vs,H1,I1,r,q⟩=>⟨I1.kIn,?_⟩) he hpl
 exact Zrz F hr hb hd hx I1 r q
theorem Zil {pl:Sem Bool}(he:PE X o ta) (c:Cls X.K C) (hm:Z1a X.K C m f) (F:Za3 X.prog X.w X.K X.mg X.base CX k f fd ps sp) (hr:Zec k X.A) (hb:Zhm X.K fd ps ds) (hd:Zcn dvs ds) (hx:Zi9 CX X E) (ha:PA X (e :: es) t)
  (hst:starEach (e :: es) X.env=(false,eval e X.env):: starEach es X.env:=by rfl) (hpl:(backTo pos (starEach es X.env)).any (·.1)=false:=by rfl)
  (ht:eval (.Call (.Attribute o m apos) (e :: es) [] pos) X.env=(do
   let ov ← eval o X.env
   standAt apos.atName
   let (f,first) ← holding [ov] (getMethod ov m pl)
   callWith pos f first (backTo pos (starEach (e :: es) X.env)) (backToKw pos (keywordEach [] X.env))):=by rfl):
  PE X (.Call (.Attribute o m apos) (e :: es) [] pos) (Zy5 C m sp dvs E ta t):=by
 intro pins s σ H Q I h
 refine PySem.W.methodCall_KW (pl:=pl) (thn (he pins s σ H _ I h) fun u s1 ⟨x,H1,I1,rx,a,dx,fs,ex,ea,l,q⟩=>?_) ht
 subst ex
 obtain rfl:u=Value.ref a:=rx
 refine Zjz I1 ea c hm l ?_
 refine PySem.W.callWith_K (first:=[.ref a]) (h₀:=X.base) I.ok.mod.kin hm.kp (thn (ha pos pins s1 σ H1 _ I1 q) fun us s2 ⟨vs,H2,I2,r,q2⟩=>⟨I2.kIn,?_⟩) hst hpl
 exact Zrz (us:=.ref a :: us) (vs:=.ref a :: vs) F hr hb hd hx I2 (.cons rfl r) q2
theorem Zde {pl:Sem Bool}(he:PE X o ta) (c:Cls X.K C) (hm:Z1a X.K C m f) (F:Za3 X.prog X.w X.K X.mg X.base CX k f fd ps sp) (hr:Zec k X.A) (hb:Zhm X.K fd ps ds) (hd:Zcn dvs ds) (hx:Zi9 CX X E)
  (ht:eval (.Call (.Attribute o m apos) [] [] pos) X.env=(do
   let ov ← eval o X.env
   standAt apos.atName
   let (f,first) ← holding [ov] (getMethod ov m pl)
   callWith pos f first (backTo pos (starEach [] X.env)) (backToKw pos (keywordEach [] X.env))):=by rfl):
  PE X (.Call (.Attribute o m apos) [] [] pos) (Zy5 C m sp dvs E ta Zue):=by
 intro pins s σ H Q I h
 refine PySem.W.methodCall_KW (pl:=pl) (thn (he pins s σ H _ I h) fun u s1 ⟨x,H1,I1,rx,a,dx,fs,ex,ea,l,q⟩=>?_) ht
 subst ex
 obtain rfl:u=Value.ref a:=rx
 refine Zjz I1 ea c hm l ?_
 exact PySem.W.callWith_K0 (first:=[.ref a]) I1.kIn hm.kp (Zrz (us:=[.ref a]) (vs:=[.ref a]) F hr hb hd hx I1 (.cons rfl .nil) q)
structure Mk (K:PySem.W.Frag) (C f:Addr):Prop where
 makes:PySem.W.makesIn K C=true
 init:PySem.W.findIn K (.ref C) "__init__"=some (some (.ref f))
 fn:PySem.W.isFn K (.ref f)=true
 kp:PySem.W.keepIn K (.ref C)=true
theorem Zui {pins:List (Addr×Obj)}{σ:St}{H:Hp}{s:Shared}{Q:VK}{us:List Value}{vs:List V}(M:Mk X.K C f) (F:Za3 X.prog X.w X.K X.mg X.base CX k f fd ps sp) (hr:Zec (k + 1) X.A) (hb:Zhm X.K fd ps ds) (hd:Zcn dvs ds)
  (hx:Zi9 CX X E) (I:Inv X pins σ H s) (r:Zcn vs us)
  (h:∀ x dx,H x=none→H dx=none→dx≠x→sp (.ref x :: (vs++dvs)) (upd (upd H dx (.own x)) x (.ins C dx [])) (fun v H2=>v=.non∧Q (.ref x) H2) E):
  wpAny (model X.prog X.w) X.A (call (.ref C) us) (EP X pins σ Q) X.xe s:=by
 have hq:=h (s.heap.objs.size + 1) s.heap.objs.size (I.hok.fresh (Nat.le_succ _)) (I.hok.fresh (Nat.le_refl _)) (Nat.ne_of_lt (Nat.lt_succ_self _))
 have I2:=Inv.made (C:=C) I
 have r2:Zcn (V.ref (s.heap.objs.size + 1):: (vs++dvs)) (Value.ref (s.heap.objs.size + 1):: (us++ds)):=.cons rfl (r.append hd)
 have hl:(Value.ref (s.heap.objs.size + 1):: us++ds).length=ps.length:=by
  have e:=r2.length
  rw [F.len _ _ _ _ hq] at e
  exact e.symm
 refine wpAny_call (Zve (f:=f) I.kIn M.makes M.init (beq_iff_eq.mp M.fn) (codeAny_mono (F.run _ X.stack _ _ ⟨Value.ref (s.heap.objs.size + 1):: us,[]⟩ (Value.ref (s.heap.objs.size + 1):: (us++ds)) _ _ E (hr.make C us [])
  (I2.env0.make C us []) (hb _ (Value.ref (s.heap.objs.size + 1):: us) I2.kIn hl) r2 hq) fun r s' hq'=>?_))
 cases r with
 | error e=>exact hx pins σ _ _ e s' I2 hq'
 | ok fl =>
  cases fl with
  | ret u =>
   obtain ⟨v,H',I3,rv,ev,q3⟩:=I2.after hq'
   subst ev
   exact ⟨rv,⟨V.ref (s.heap.objs.size + 1),H',I3,rfl,q3⟩⟩
  | next=>exact False.elim hq'
  | brk=>exact False.elim hq'
  | cont=>exact False.elim hq'
theorem Zsd (M:Mk X.K C f) (F:Za3 X.prog X.w X.K X.mg X.base CX k f fd ps sp) (hr:Zec (k + 1) X.A) (hg:Gl X x) (hm:X.mg x=some (.ref C)) (hb:Zhm X.K fd ps ds) (hd:Zcn dvs ds) (hx:Zi9 CX X E)
  (ha:PA X (e :: es) t) (hdb:(x == ("__debug__":Str))=false:=by decide) (he:starEach (e :: es) X.env=(false,eval e X.env):: starEach es X.env:=by rfl) (hpl:(backTo pos (starEach es X.env)).any (·.1)=false:=by rfl):
  PE X (.Call (.Name x p) (e :: es) [] pos) (Z1f C sp dvs E t):=by
 intro pins s σ H Q I h
 refine wpAny_Call_Name_kw (Znr I hg hm ?_ hdb)
 refine PySem.W.callWith_K (h₀:=X.base) I.ok.mod.kin M.kp (thn (ha pos pins s σ H _ I h) fun us s1 ⟨vs,H1,I1,r,q⟩=>⟨I1.kIn,?_⟩) he hpl
 exact Zui M F hr hb hd hx I1 r q
end
section
variable {X:Cx} {CX:CXT} {k:Nat} {f C:Addr} {fd:FuncData} {ps ks:List Str} {sp:Sp} {E:XK} {x m:Str} {p pos apos kpos:Pos} {e o:Expr} {es:List Expr} {kws:List Keyword} {te ta:TE} {t tk:TA} {nm:Option Str}
structure Z3z (K:PySem.W.Frag) (fd:FuncData) (ps ks:List Str) (g:List Value→List Value→List Value) (gV:List V→List V→List V):Prop where
 to:∀ (s:Shared) (us ws:List Value),K.In s.heap→(g us ws).length=ps.length→BindsTo s fd ⟨us,ks.zip ws⟩ (ps.zip (g us ws))
 rel:∀ {vs:List V} {us:List Value} {zs:List V} {ws:List Value},Zcn vs us→Zcn zs ws→Zcn (gV vs zs) (g us ws)
variable {g:List Value→List Value→List Value} {gV:List V→List V→List V}
end
structure Zap (N P:List Str) (sc:Scope):Prop where
 kind:sc.kind=.function
 co:sc.isCoroutine=false
 gen:sc.isGenerator=false
 nd:N.Nodup
 pre:N.take P.length=P
 par:∀ x∈P,sc.names.lookup x=some .local∨sc.names.lookup x=some .cell
 nofree:∀ y∈sc.names,y.2≠.free
theorem Zmv {kindOf:Str→Option NameKind}{x:Str}:∀ {binds:List (Str×Value)}{m:Str→Option Value},(∀ v,(x,v)∉binds)→bindL kindOf binds m x=m x
 | [],_,_=>rfl
 | (n,v):: r,m,h=>by
  unfold bindL
  rw [Zmv fun w hw=>h w (List.mem_cons_of_mem _ hw)]
  split
  ·have:x≠n:=by rintro rfl;exact h v List.mem_cons_self
   simp [this]
  ·rfl
theorem Zmx {kindOf:Str→Option NameKind}{x:Str}:∀ {binds:List (Str×Value)}{m:Str→Option Value},(∀ v,(x,v)∉binds)→bindC kindOf binds m x=m x
 | [],_,_=>rfl
 | (n,v):: r,m,h=>by
  unfold bindC
  rw [Zmx fun w hw=>h w (List.mem_cons_of_mem _ hw)]
  split
  ·rfl
  ·have:x≠n:=by rintro rfl;exact h v List.mem_cons_self
   simp [this]
theorem Zmw {kindOf:Str→Option NameKind}{x:Str}{v:Value}:∀ {P:List Str}{vs:List Value}{i:Nat}{m:Str→Option Value},P.Nodup→P[i]?=some x→vs[i]?=some v→kindOf x=some .local →
  bindL kindOf (P.zip vs) m x=some v
 | [],_,_,_,_,h,_,_=>by simp at h
 | _ :: _,[],_,_,_,_,h,_=>by simp at h
 | p :: P,w :: vs,0,m,nd,h1,h2,hk=>by
  simp at h1 h2;subst h1;subst h2
  show bindL kindOf ((p,w):: P.zip vs) m p=_
  unfold bindL
  rw [Zmv fun v hv=>(List.nodup_cons.mp nd).1 (List.of_mem_zip hv).1,if_pos hk]
  simp
 | p :: P,w :: vs,i + 1,m,nd,h1,h2,hk=>by
  show bindL kindOf ((p,w):: P.zip vs) m x=_
  unfold bindL
  exact Zmw (i:=i) (List.nodup_cons.mp nd).2 (by simpa using h1) (by simpa using h2) hk
theorem Zmy {kindOf:Str→Option NameKind}{x:Str}{v:Value}:∀ {P:List Str}{vs:List Value}{i:Nat}{m:Str→Option Value},P.Nodup→P[i]?=some x→vs[i]?=some v→kindOf x≠some .local →
  bindC kindOf (P.zip vs) m x=some v
 | [],_,_,_,_,h,_,_=>by simp at h
 | _ :: _,[],_,_,_,_,h,_=>by simp at h
 | p :: P,w :: vs,0,m,nd,h1,h2,hk=>by
  simp at h1 h2;subst h1;subst h2
  show bindC kindOf ((p,w):: P.zip vs) m p=_
  unfold bindC
  rw [Zmx fun v hv=>(List.nodup_cons.mp nd).1 (List.of_mem_zip hv).1,if_neg hk]
  simp
 | p :: P,w :: vs,i + 1,m,nd,h1,h2,hk=>by
  show bindC kindOf ((p,w):: P.zip vs) m x=_
  unfold bindC
  exact Zmy (i:=i) (List.nodup_cons.mp nd).2 (by simpa using h1) (by simpa using h2) hk
def start (N:List Str) (vs:List V):St:=vs.map some++List.replicate (N.length - vs.length) none
def Zyu (CX:CXT) (P:Program) (w:World) (K:PySem.W.Frag) (mg:Str→Option Value) (base:Heap) (N:List Str) (qual:Str) (scope:Scope) (f:Addr) (cd:Value) (A:Around) (outer:List Env) (s:Shared) (H:Hp) (E:XK):Cx where
 prog:=P
 w:=w
 K:=K
 mg:=mg
 base:=base
 A:=A.deeper (envOfC qual scope s.heap.objs.size f cd)
 N:=N
 s₀:=s
 H₀:=H
 env:=envOfC qual scope s.heap.objs.size f cd
 outer:=outer
 stack:=envOfC qual scope s.heap.objs.size f cd :: outer
 ex:=[]
 calm:=true
 fn:=fun _=>true
 pn:=[]
 xe:=fun e s'=>wpAny (model P w) (A.deeper (envOfC qual scope s.heap.objs.size f cd)) (leaving (envOfC qual scope s.heap.objs.size f cd) e) (fun _ s''=>CX outer H s E e s'') (fun e' s''=>CX outer H s E e' s'') s'
theorem Zph {sc:Scope}{n:Nat}{x:Str}(h:sc.names.lookup x=some .cell):∃ c,(cellsFrom n sc.names []).lookup x=some c:=by
 have q:=PySem.W.cellsFrom_some sc.names n [] (.inl h)
 exact Option.isSome_iff_exists.mp q
theorem Zta {CX:CXT}{P:Program}{w:World}{K:PySem.W.Frag}{mg:Str→Option Value}{base:Heap}{N ps:List Str}{qual:Str}{scope:Scope}{f:Addr}{cd:Value}{A:Around}{outer:List Env}{s s1:Shared}{H:Hp}{E:XK}{us:List Value}{vs:List V}
  (S:Zap N ps scope) (hd:A.handled=none) (e0:Env0 P w K mg base A outer s H) (hl:vs.length=ps.length) (r:Zcn vs us)
  (x:InCallC s s.heap.objs.size (bindL (envOfC qual scope s.heap.objs.size f cd).kindOf (ps.zip us) fun _=>none) (cellsFrom (s.heap.objs.size + 1) scope.names []) (bindC (envOfC qual scope s.heap.objs.size f cd).kindOf (ps.zip us) fun _=>none) s1):
  Inv (Zyu CX P w K mg base N qual scope f cd A outer s H E) [] (start N vs) H s1:=by
 have hpl:ps.length≤N.length:=by have:=congrArg List.length S.pre;rw [List.length_take] at this;omega
 obtain ⟨h1,tk,rfl,hk⟩:=x.done
 have noA:∀ b:Addr,b∉(Zyu CX P w K mg base N qual scope f cd A outer s H E).ex:=fun b z=>absurd (show b∈([]:List Addr) from z) (by simp)
 refine ⟨⟨e0.mod,S.kind,rfl,rfl,Nat.le_refl _,fun y z c h1 h2=>?_,fun y hy=>?_,fun y c _ h=>?_,fun _=>hd,Around.frames_deeper e0.frames,.inr ⟨rfl,rfl⟩,fun b z=>absurd z (noA b),e0.bs,e0.bsz,fun b _ _=>noA b,fun b z=>absurd z (noA b),e0.funs,e0.frf⟩,
  rfl,e0.bare,Un.kept hk,⟨_,x.toInCall.ns,fun i y v h1 h2 h3=>?_⟩,fun y c h=>⟨_,x.cell y c h⟩,e0.hok.fresh (Nat.le_refl _),fun y c h=>?_,fun p hp=>absurd (show p∈([]:List (Addr×Obj)) from hp) (by simp),e0.hok.kept hk,?_⟩
 ·exact name_of_addr x.apart (PySem.mem_of_lookup h1) (PySem.mem_of_lookup h2)
 ·have hy:scope.names.lookup y=some .cell∨scope.names.lookup y=some .free:=hy
  rcases hy with hy | hy
  ·exact Zph hy
  ·exact absurd rfl (S.nofree _ (PySem.mem_of_lookup hy))
 ·exact Nat.le_of_lt (x.above y c (PySem.mem_of_lookup h))
 ·have hi:i<vs.length:=by
   unfold start at h2
   by_cases hi:i<vs.length
   ·exact hi
   ·rw [List.getElem?_append_right (by simpa using hi)] at h2
    rw [List.getElem?_replicate] at h2
    split at h2 <;> cases h2
  have ha:vs[i]?=some v:=by
   unfold start at h2
   rw [List.getElem?_append_left (by simpa using hi),List.getElem?_map] at h2
   cases e:vs[i]? with
   | none=>rw [e] at h2;cases h2
   | some a=>rw [e] at h2;cases h2;rfl
  obtain ⟨u,hu,rv⟩:=r.get ha
  have hp:ps[i]?=some y:=by
   rw [← S.pre,List.getElem?_take_of_lt (by omega)];exact h1
  have ndP:ps.Nodup:=by rw [← S.pre];exact S.nd.sublist (List.take_sublist _ _)
  refine ⟨u,rv,?_⟩
  rcases S.par y (List.mem_of_getElem? hp) with k | k
  ·exact .inl ⟨k,Zmw ndP hp hu k⟩
  ·obtain ⟨c,e⟩:=Zph (n:=s.heap.objs.size + 1) k
   refine .inr ⟨.inl k,c,e,?_⟩
   have q:=x.cell y c e
   rw [Zmy ndP hp hu (by show scope.names.lookup y≠_;rw [k];decide)] at q
   exact q
 ·exact e0.hok.fresh (Nat.le_of_lt (x.above y c (PySem.mem_of_lookup h)))
 ·unfold start
  show _=N.length
  rw [List.length_append,List.length_map,List.length_replicate]
  omega
theorem Z2d {CX:CXT}{P:Program}{w:World}{K:PySem.W.Frag}{mg:Str→Option Value}{base:Heap}{k:Nat}{f:Addr}{name qual:Str}{params:Arguments}{body:List Stmt}{scope:Scope}{dV kV doc pm cdv ct oc:Value}{an od:Option Addr}
  {osl:Array (Option Value)} {N ps:List Str} {sp:Sp} (lk:K.lookup f=some ⟨oc,od,.func (PySem.W.fnOf name qual params body scope dV kV doc pm an cdv ct),osl⟩) (hcd:PySem.W.codeIn K cdv qual=true) (S:Zap N ps scope)
  (len:∀ vs H Q E,sp vs H Q E→vs.length=ps.length)
  (hbody:∀ (A:Around) (outer:List Env) (s:Shared) (H:Hp) (vs:List V) (Q:VK) (E:XK),Zec k (A.deeper (envOfC qual scope s.heap.objs.size f cdv))→sp vs H Q E →
   ∃ t,PSs (Zyu CX P w K mg base N qual scope f cdv A outer s H E) body t∧t { nx:=fun _ H'=>Q .non H',rt:=Q } (start N vs) H):
  Za3 P w K mg base CX (k + 1) f (PySem.W.fnOf name qual params body scope dV kV doc pm an cdv ct) ps sp:=by
 refine ⟨len,fun A outer s H args us vs Q E hr e0 hb r hsp=>?_⟩
 have hl:=len _ _ _ _ hsp
 have KX:K.In s.heap:=e0.mod.kin.keeps fun b o e=>(e0.bs b o e).1
 have lim:s.heap.NoLimit:=e0.mod.nolimit.keeps fun b o e=>(e0.bs b o e).1
 have hkind:∀ y∈ps.zip us,scope.names.lookup y.1=some .local∨(scope.names.lookup y.1=some .cell∧((cellsFrom (s.heap.objs.size + 1) scope.names []).lookup y.1).isSome=true):=fun ⟨n,v⟩ hy=>by
  rcases S.par n (List.of_mem_zip hy).1 with q | q
  ·exact .inl q
  ·exact .inr ⟨q,PySem.W.cellsFrom_some _ _ _ (.inl q)⟩
 refine codeAny_call_function hr.depth (KX _ _ lk) rfl S.co S.gen rfl (PySem.W.codeRec_of KX hcd) (hb _ _ _ _ ?_)
 refine wpAny_newFunctionEnv_cells S.kind hkind fun env he s1 x=>?_
 subst he
 refine ⟨lim.keeps x.toInCall.keep,codeAny_func ?_⟩
 obtain ⟨t,ht,hq⟩:=hbody A outer s H vs Q E (hr.deeper _) hsp
 have I:Inv (Zyu CX P w K mg base N qual scope f cdv A outer s H E) [] (start N vs) H s1:=Zta S hr.hd e0 hl r x
 refine wpAny_mono (ht [] s1 (start N vs) H _ I hq) (fun fl s' hs=>?_) fun e s' hs=>hs
 have fin:∀ {σ':St} {H':Hp} {v:V} {u:Value},Inv (Zyu CX P w K mg base N qual scope f cdv A outer s H E) [] σ' H' s'→Zc4 v u→Q v H'→CE outer P w H s Q u s' :=
  fun {σ' H' v u} J rv q=>⟨v,H',J.os,J.bare,J.base,J.hok,rv,q⟩
 cases fl with
 | ret u =>
  obtain ⟨v,σ',H',J,rv,q⟩:=hs
  exact fin J rv q
 | next =>
  obtain ⟨σ',H',J,q⟩:=hs
  exact fin (v:=V.non) (u:=Value.none) J rfl q
 | brk =>
  obtain ⟨_,_,_,q⟩:=hs
  exact False.elim q
 | cont =>
  obtain ⟨_,_,_,q⟩:=hs
  exact False.elim q
end L2
namespace L2
open PySem PySem.Spec PyProof.Rows
section
variable {X:Cx} {x:Str} {p pos:Pos} {e:Expr} {es:List Expr} {t:TA} {id T:String} {r:List V→Hp→VK→Prop}
def tCB (r:List V→Hp→VK→Prop) (t:TA):TE:=fun σ H Q=>t σ H fun vs H1=>r vs H1 Q
theorem Zan (hc:Zja X (.builtin id) r) (hg:Gl X x) (hm:X.mg x=none) (hv:bootBuiltins x=some (.builtin id)) (ha:PA X (e :: es) t) (hn:x≠"__name__":=by decide) (hdb:(x == ("__debug__":Str))=false:=by decide)
  (he:starEach (e :: es) X.env=(false,eval e X.env):: starEach es X.env:=by rfl) (hpl:(backTo pos (starEach es X.env)).any (·.1)=false:=by rfl):PE X (.Call (.Name x p) (e :: es) [] pos) (tCB r t):=by
 intro pins s σ H Q I h
 refine wpAny_Call_Name_kw (Zg5 I hg hm hv ?_ hn hdb)
 exact PyProof.Rows.callWith_builtin1 (thn (ha pos pins s σ H _ I h) fun us s1 ⟨vs,H1,I1,r1,q1⟩=>hc pins s1 σ H1 vs us Q I1 r1 q1) he hpl
theorem Zc2 (hc:Zja X (.type T) r) (hg:Gl X x) (hm:X.mg x=none) (hv:bootBuiltins x=some (.type T)) (ha:PA X (e :: es) t) (hn:x≠"__name__":=by decide) (hdb:(x == ("__debug__":Str))=false:=by decide)
  (he:starEach (e :: es) X.env=(false,eval e X.env):: starEach es X.env:=by rfl) (hpl:(backTo pos (starEach es X.env)).any (·.1)=false:=by rfl):PE X (.Call (.Name x p) (e :: es) [] pos) (tCB r t):=by
 intro pins s σ H Q I h
 refine wpAny_Call_Name_kw (Zg5 I hg hm hv ?_ hn hdb)
 exact PyProof.Rows.callWith_type1 (thn (ha pos pins s σ H _ I h) fun us s1 ⟨vs,H1,I1,r1,q1⟩=>hc pins s1 σ H1 vs us Q I1 r1 q1) he hpl
end
end L2
namespace HT
open PySem PyProof.Rows
section
open PySem.SeqAt
open PySem.AutoSeq1 (wpAny_loadPart')
open PySem.MeetsSeq PySem.MeetsSeq2 PySem.MeetsSeq3
end
section
variable {prog:Program} {w:World} {A:Around} {E:Value→Shared→Prop} {s:Shared}
theorem cat_tup {t b:Addr}{vs ws:List Value}{Q:Value→Shared→Prop}(ht:IsTup s.heap t vs.toArray) (hb:IsTup s.heap b ws.toArray) (hv:vs≠[])
  (h1:ws=[]→Q (.ref t) s) (h2:ws≠[]→Q (.ref s.heap.objs.size) { s with heap:=s.heap.push { cls:=.type "tuple",data:=.seq (vs++ws).toArray } })
  (hsz:vs.length + ws.length≤sizeLine):wpAny (model prog w) A (binaryOp .Add (.ref t) (.ref b)) Q E s:=by
 obtain ⟨⟨cls,dd,data,sl⟩,ho,hc,n,hd⟩:=id ht
 obtain ⟨⟨cls2,dd2,data2,sl2⟩,ho2,hc2,n2,hd2⟩:=id hb
 simp only at hc hd hc2 hd2
 subst hc hd hc2 hd2
 have e:vs.toArray++ws.toArray=(vs++ws).toArray:=by simp
 by_cases hw:ws=[]
 ·exact concat_meets ⟨_,ho,rfl⟩ ⟨_,ho2,rfl⟩ noFill_tuple_add seq_tuple_add PySem.F.slot_tuple_add PySem.F.entry_tuple_add (PySem.F.args_tuple_add_2 _ _)
   (tuple_addW1 t b vs.toArray ws.toArray n n2 dd dd2 sl sl2 (by simpa using hv) (by simp [hw])) ⟨ho,ho2,h1 hw⟩
 ·refine concat_meets ⟨_,ho,rfl⟩ ⟨_,ho2,rfl⟩ noFill_tuple_add seq_tuple_add PySem.F.slot_tuple_add PySem.F.entry_tuple_add (PySem.F.args_tuple_add_2 _ _)
   (tuple_addW2 t b vs.toArray ws.toArray n n2 dd dd2 sl sl2 (by simpa using hv) (by simpa using hw) (by rw [List.size_toArray,List.size_toArray];exact hsz)) ⟨ho,ho2,?_⟩
  rw [e]
  exact h2 hw
def sIx (n d:Nat):Option Int→Nat
 | none=>d
 | some v=>if v<0 then (v + (n:Int)).toNat else min v.toNat n
end
end HT
namespace L2
open PySem PySem.Spec PyProof.Rows
abbrev TO:=St→Hp→(Option Int→Hp→Prop)→Prop
def PO (X:Cx) (e:Option Expr) (t:TO):Prop :=
 ∀ (pins:List (Addr×Obj)) (s:Shared) (σ:St) (H:Hp) (Q:Option Int→Hp→Prop),Inv X pins σ H s→t σ H Q →
  wpAny (model X.prog X.w) X.A (evalPart e X.env) (fun u s'=>∃ o H',Inv X pins σ H' s'∧IsPart u o∧Q o H') X.xe s
def Zw1:TO:=fun _ H Q=>Q none H
def Z1d (t:TE):TO:=fun σ H Q=>t σ H fun x H1=>∃ i,x=.int i∧Q (some i) H1
section
variable {X:Cx} {e:Expr} {te:TE} {lo hi:Option Expr} {tl th:TO} {pos p2:Pos}
theorem Zne:PO X none Zw1:=by
 intro pins s σ H Q I h
 rw [evalPart_none]
 exact wpAny_pure ⟨none,H,I,.none,h⟩
theorem Znd (h:PE X e te):PO X (some e) (Z1d te):=by
 intro pins s σ H Q I hw
 rw [evalPart_some]
 refine thn (h pins s σ H _ I hw) fun u s1 ⟨x,H1,I1,r1,q1⟩=>?_
 obtain ⟨i,rfl,q⟩:=q1
 obtain ⟨t,rfl⟩:=r1
 exact ⟨some i,H1,I1,.int i t,q⟩
def SlR (X:Cx) (r:V→Option Int→Option Int→Hp→VK→Prop):Prop :=
 ∀ (pins:List (Addr×Obj)) (s:Shared) (σ:St) (H:Hp) (x:V) (v vl vu:Value) (lo hi:Option Int) (sl:Addr) (Q:VK),Inv X pins σ H s→Zc4 x v→s.heap.IsSliceOf sl vl vu .none→IsPart vl lo→IsPart vu hi→r x lo hi H Q →
  ∃ T id,typeLookup (.type T) "__getitem__"=pure (some (.builtin id))∧s.TypeIs v T∧wpAny (model X.prog X.w) X.A (getItem v (.ref sl)) (EP X pins σ Q) X.xe s
def tSl (r:V→Option Int→Option Int→Hp→VK→Prop) (te:TE) (tl th:TO):TE:=fun σ H Q=>te σ H fun x H1=>tl σ H1 fun l H2=>th σ H2 fun u H3=>r x l u H3 Q
theorem Zkg {r:V→Option Int→Option Int→Hp→VK→Prop}(hr:SlR X r) (he:PE X e te) (hl:PO X lo tl) (hu:PO X hi th):PE X (.Subscript e (.Slice lo hi none p2) pos) (tSl r te tl th):=by
 intro pins s σ H Q I h
 refine Subscript_ (thn (he pins s σ H _ I h) fun v s1 ⟨x,H1,I1,r1,q1⟩=>?_)
 refine wpAny_Slice (thn (hl pins s1 σ H1 _ I1 q1) fun vl s2 ⟨l,H2,I2,pl,q2⟩=>thn (hu pins s2 σ H2 _ I2 q2) fun vu s3 ⟨u,H3,I3,pu,q3⟩=>?_)
 rw [evalPart_none]
 refine wpAny_pure ?_
 have I4:Inv X pins σ H3 { s3 with heap:=s3.heap.push { cls:=.type "slice",data:=.fields #[vl,vu,.none] } }:=I3.kept (t':=s3.toks) fun b ob q=>Heap.get?_push_of_some _ q
 obtain ⟨T,id,hT,ht,hg⟩:=hr pins { s3 with heap:=s3.heap.push { cls:=.type "slice",data:=.fields #[vl,vu,.none] } } σ H3 x v vl vu l u s3.heap.objs.size Q I4 r1 (Heap.IsSliceOf.new ..) pl pu q3
 show wpAny (model X.prog X.w) X.A (subscriptTail e (.Slice lo hi none p2) v (.ref s3.heap.objs.size)) (EP X pins σ Q) X.xe { s3 with heap:=s3.heap.push { cls:=.type "slice",data:=.fields #[vl,vu,.none] } }
 exact tail_any (ops:=[.ref s3.heap.objs.size,v]) ht hT hg (by with_unfolding_all rfl)
def Z07 (xs:List V) (lo hi:Option Int):List V:=(xs.drop (HT.sIx xs.length 0 lo)).take (HT.sIx xs.length xs.length hi - HT.sIx xs.length 0 lo)
theorem Zn5 (xs:List V) (lo hi:Option Int):(Z07 xs lo hi).length≤xs.length:=by
 unfold Z07
 rw [List.length_take,List.length_drop]
 omega
def Z1u (K:PySem.W.Frag):R2:=fun x y H Q=>∃ a b xs ys,x=.ref a∧y=.ref b∧SqT K H a xs∧SqT K H b ys∧xs≠[]∧xs.length + ys.length≤sizeLine ∧
 (ys=[]→Q (.ref a) H)∧(ys≠[]→∀ p,H p=none→Q (.ref p) (upd H p (.tup (xs++ys))))
theorem Zcn.nil_iff {xs:List V}{us:List Value}(r:Zcn xs us):us=[]↔xs=[]:=by
 cases r with
 | nil=>simp
 | cons _ _=>simp
theorem Zxm:OpR X (binaryOp .Add) (Z1u X.K):=by
 intro pins s σ H x y v u Q I rx ry h
 obtain ⟨a,b,xs,ys,rfl,rfl,ha,hb,hx,hz,q1,q2⟩:=h
 cases rx
 cases ry
 obtain ⟨its,r1,p1,_⟩:=I.tuple ha
 obtain ⟨its2,r2,p2,_⟩:=I.tuple hb
 refine HT.cat_tup p1 p2 (fun z=>hx (r1.nil_iff.mp z)) (fun z=>⟨.ref a,H,I,rfl,q1 (r2.nil_iff.mp z)⟩) (fun z=>?_) (by rw [← r1.length,← r2.length];exact hz)
 refine ⟨.ref s.heap.objs.size,_,I.laid (t':=s.toks) (o:=.tup (xs++ys)) (fun b ob q=>Heap.get?_push_of_some _ q) (Nat.le_refl _) ?_,rfl,q2 (fun w=>z (r2.nil_iff.mpr w)) _ (I.hok.fresh (Nat.le_refl _))⟩
 exact ⟨by rw [List.length_append];exact hz,_,r1.append r2,IsTup.new _ _⟩
end
end L2
namespace L2
open PySem PySem.Spec PyProof.Rows
def ixN (n:Nat) (i:Int):Option Nat:=if 0≤i then (if i<n then some i.toNat else none) else if -(n:Int)≤i then some (i + n).toNat else none
def atI {α:Type} (xs:List α) (i:Int):Option α:=(ixN xs.length i).bind fun j=>xs[j]?
theorem Znt {n:Nat}{i:Int}{j:Nat}(h:ixN n i=some j):seqIndex? i n=some j∧j<n∧-(n:Int)≤i∧i<n:=by
 unfold ixN at h
 by_cases h0:0≤i
 ·rw [if_pos h0] at h
  by_cases h1:i<n
  ·rw [if_pos h1] at h
   have e:i.toNat=j:=Option.some.inj h
   exact ⟨by rw [seqIndex_of h0 h1,e],by omega,by omega,h1⟩
  ·rw [if_neg h1] at h;cases h
 ·rw [if_neg h0] at h
  by_cases h1:-(n:Int)≤i
  ·rw [if_pos h1] at h
   have e:(i + n).toNat=j:=Option.some.inj h
   exact ⟨by rw [seqIndex_neg (by omega) h1,e],by omega,h1,by omega⟩
  ·rw [if_neg h1] at h;cases h
theorem Zob {α:Type}{xs:List α}{i:Int}{v:α}(h:atI xs i=some v):∃ j,seqIndex? i xs.length=some j∧xs[j]?=some v∧j<xs.length∧-(xs.length:Int)≤i∧i<xs.length:=by
 unfold atI at h
 cases e:ixN xs.length i with
 | none=>rw [e] at h;cases h
 | some j =>
  rw [e] at h
  obtain ⟨h1,h2,h3,h4⟩:=Znt e
  exact ⟨j,h1,h,h2,h3,h4⟩
theorem Zc0 {α:Type}{xs:List α}{j:Nat}{v:α}(h:xs[j]?=some v):atI xs (j:Int)=some v:=by
 have hj:j<xs.length:=(List.getElem?_eq_some_iff.mp h).1
 have e:ixN xs.length (j:Int)=some j:=by
  unfold ixN
  rw [if_pos (by omega),if_pos (by omega)];simp
 unfold atI;rw [e];exact h
def Zyp (b:Expr):Prop:=∀ o i,subscripted b false o i=operate [o,i] (getItem o i)
def IxR (X:Cx) (r:R2):Prop :=
 ∀ (value slice:Expr) (pins:List (Addr×Obj)) (s:Shared) (σ:St) (H:Hp) (x y:V) (v u:Value) (Q:VK),Inv X pins σ H s→Zc4 x v→Zc4 y u→r x y H Q →
  subscripted slice false v u=operate [v,u] (getItem v u)→wpAny (model X.prog X.w) X.A (subscriptTail value slice v u) (EP X pins σ Q) X.xe s
def MtR (X:Cx) (id:String) (r:V→List V→Hp→VK→Prop):Prop :=
 ∀ (pins:List (Addr×Obj)) (s:Shared) (σ:St) (H:Hp) (x:V) (xs:List V) (v:Value) (us:List Value) (Q:VK),Inv X pins σ H s→Zc4 x v→Zcn xs us→r x xs H Q →
  wpAny (model X.prog X.w) X.A (call (.builtin id) (v :: us)) (EP X pins σ Q) X.xe s
section
variable {X:Cx} {a b:Expr} {ta tb:TE} {pos:Pos}
theorem Za5 {r:R2}(hr:IxR X r) (ha:PE X a ta) (hb:PE X b tb) (hs:Zyp b):PE X (.Subscript a b pos) (tOp r ta tb):=by
 intro pins s σ H Q I h
 exact Subscript_ (Z2i ha hb I h fun v u s2 x y H2 I2 rx ry q=>hr a b pins s2 σ H2 x y v u Q I2 rx ry q (hs _ _))
def Zfd (K:PySem.W.Frag):R2:=fun x y H Q=>∃ p xs i v,x=.ref p∧y=.int i∧SqL K H p xs∧atI xs i=some v∧Q v H
def Zlr (K:PySem.W.Frag):R2:=fun x y H Q=>∃ p xs i v,x=.ref p∧y=.int i∧SqT K H p xs∧atI xs i=some v∧Q v H
def Z4v:R2:=fun x y H Q=>∃ z i c,x=.str z∧y=.int i∧z.length≤sizeLine∧atI z.cps.toList i=some c∧Q (.str ⟨#[c]⟩) H
theorem Zar:IxR X (Zfd X.K):=by
 intro value slice pins s σ H x y v u Q I rx ry h hs
 obtain ⟨p,xs,i,z,rfl,rfl,hq,he,q⟩:=h
 cases rx
 obtain ⟨t,rfl⟩:=ry
 obtain ⟨its,r,pl,hz⟩:=I.list hq
 obtain ⟨j,h1,h2,h3,h4,h5⟩:=Zob he
 obtain ⟨w,ew,rw'⟩:=r.get h2
 have hl:=r.length
 have hn:=Ziy
 have fin:EP X pins σ Q w s:=⟨z,H,I,rw',q⟩
 by_cases h0:0≤i
 ·have hj:i.toNat=j:=by
   rw [seqIndex_of h0 h5] at h1
   exact Option.some.inj h1
  exact item_listR pl.isList h0 (by omega) (by rw [hj];simpa using ew) fin hs
 ·have hj:(i + (its.toArray.size:Int)).toNat=j:=by
   rw [seqIndex_neg (by omega) h4] at h1
   rw [List.size_toArray,← hl]
   exact Option.some.inj h1
  exact subscriptTail_builtinR (x:=w) pl.isList.typeIs slot_list_getitem.lookup
   (wpAny_getItem_list_neg (Q:=fun r s'=>r=w∧EP X pins σ Q r s') pl.isList (by omega) (by rw [List.size_toArray] <;> omega) (by omega) (by rw [hj];simpa using ew) ⟨rfl,fin⟩) hs
theorem Zd0:IxR X (Zlr X.K):=by
 intro value slice pins s σ H x y v u Q I rx ry h hs
 obtain ⟨p,xs,i,z,rfl,rfl,hq,he,q⟩:=h
 cases rx
 obtain ⟨t,rfl⟩:=ry
 obtain ⟨its,r,pl,hz⟩:=I.tuple hq
 obtain ⟨j,h1,h2,h3,h4,h5⟩:=Zob he
 obtain ⟨w,ew,rw'⟩:=r.get h2
 have hl:=r.length
 have hn:=Ziy
 have fin:EP X pins σ Q w s:=⟨z,H,I,rw',q⟩
 exact subscriptTail_builtinR (x:=w) pl.typeIs slot_tuple_getitem.lookup
  (getItem_tuple (j:=j) (Q:=fun r s'=>r=w∧EP X pins σ Q r s') pl (by omega) (by omega) (by rw [List.size_toArray,← hl];exact h1) (by simpa using ew) ⟨rfl,fin⟩) hs
theorem Z0m:IxR X Z4v:=by
 intro value slice pins s σ H x y v u Q I rx ry h hs
 obtain ⟨z,i,c,rfl,rfl,hz,he,q⟩:=h
 obtain ⟨t,rfl⟩:=rx
 obtain ⟨t',rfl⟩:=ry
 obtain ⟨j,h1,h2,h3,h4,h5⟩:=Zob he
 have hl:z.cps.toList.length=z.length:=by simp [Str.length]
 rw [hl] at h1 h4 h5
 have hn:=Ziy
 exact tail_any (typeIs_str s z t) slot_str_getitem.lookup (getItem_str (c:=c) (by
  have e1:decide (i < -(2 ^ 63:Int))=false:=decide_eq_false (by omega)
  have e2:decide (i ≥ 2 ^ 63)=false:=decide_eq_false (by omega)
  rw [e1,e2,Bool.or_false]) (by rw [h1];simpa using h2) ⟨.str ⟨#[c]⟩,H,I.tok _,⟨_,rfl⟩,q⟩) hs
theorem Zqa (its:List Value) (n j:Nat) (u:Value):Obj.mapSeq (·.setIfInBounds j u) { cls:=.type "list",data:=.seq its.toArray n }={ cls:=.type "list",data:=.seq (its.set j u).toArray n }:=by
 simp [Obj.mapSeq]
theorem Inv.lst {pins:List (Addr×Obj)}{σ:St}{H:Hp}{s:Shared}{p:Addr}{xs:List V}(I:Inv X pins σ H s) (h:H p=some (.lst xs)):
  ∃ (its:List Value) (n:Nat),Zcn xs its∧s.heap.get? p=some { cls:=.type "list",data:=.seq its.toArray n }∧xs.length≤sizeLine:=by
 obtain ⟨z,its,n,r,e⟩:=I.hok p _ h
 exact ⟨its,n,r,e,z⟩
theorem Inv.lstUpd {pins:List (Addr×Obj)}{σ:St}{H:Hp}{s:Shared}{p:Addr}{xs ys:List V}{its its':List Value}{n n':Nat}{f:Obj→Obj}(I:Inv X pins σ H s) (h:H p=some (.lst xs))
  (ho:s.heap.get? p=some { cls:=.type "list",data:=.seq its.toArray n }) (hf:f { cls:=.type "list",data:=.seq its.toArray n }={ cls:=.type "list",data:=.seq its'.toArray n' }) (r:Zcn ys its') (hz:ys.length≤sizeLine) (t:Nat):
  Inv X pins σ (upd H p (.lst ys)) { s with heap:=s.heap.update p f,toks:=t }:=by
 have e:(s.heap.update p f).get? p=some { cls:=.type "list",data:=.seq its'.toArray n' }:=by
  rw [Heap.get?_update_self f ho (by rw [hf] <;> rfl),hf]
 refine I.write (x:=p) (e:=p) (by rw [h];trivial) (.inl rfl) (fun b u hb q=>(Heap.get?_update_other _ _ (Ne.symm hb)).trans q) ⟨_,e⟩ ?_
 exact ⟨hz,its',n',r,e⟩
def Z1q:V→V→V→Hp→(Hp→Prop)→Prop:=fun o i v H Q=>∃ p xs k j,o=.ref p∧i=.int k∧H p=some (.lst xs)∧ixN xs.length k=some j∧Q (upd H p (.lst (xs.set j v)))
theorem Zgw:Z3w X Z1q:=by
 intro pins s σ H o i v ov iv u Q I ro ri rv h
 obtain ⟨p,xs,k,j,rfl,rfl,hp,hj,q⟩:=h
 cases ro
 obtain ⟨t,rfl⟩:=ri
 obtain ⟨its,n,r,ho,hz⟩:=I.lst hp
 obtain ⟨h1,h2,h3,h4⟩:=Znt hj
 have hl:=r.length
 have hn:=Ziy
 have I':Inv X pins σ (upd H p (.lst (xs.set j v))) { s with heap:=s.heap.update p (Obj.mapSeq (·.setIfInBounds j u)) } :=
  I.lstUpd hp ho (Zqa its n j u) (r.set rv j) (by rw [List.length_set];exact hz) s.toks
 by_cases h0:0≤k
 ·have hk:k.toNat=j:=by
   rw [seqIndex_of h0 h4] at h1
   exact Option.some.inj h1
  exact PySem.W.ki_setAt ho h0 (by omega) (by rw [List.size_toArray,← hl];exact h4) (by rw [hk];exact ⟨_,I',q⟩)
 ·have hk:(k + (its.toArray.size:Int)).toNat=j:=by
   rw [seqIndex_neg (by omega) h3] at h1
   rw [List.size_toArray,← hl]
   exact Option.some.inj h1
  exact PySem.W.ki_setBack ho (by omega) (by rw [List.size_toArray,← hl];exact h3) (by omega) (by rw [hk];exact ⟨_,I',q⟩)
theorem Zlo (lo hi:Option Int) (n:Nat):(sliceBounds lo hi none n).1=((HT.sIx n 0 lo:Nat):Int)∧(sliceBounds lo hi none n).2.1=((HT.sIx n n hi:Nat):Int)∧(sliceBounds lo hi none n).2.2=1:=by
 refine ⟨?_,?_,rfl⟩
 ·cases lo with
  | none=>simp [sliceBounds,HT.sIx]
  | some i =>
   simp only [sliceBounds,HT.sIx,Option.getD_none,show (1:Int) > 0 by decide,if_true]
   by_cases h:i<0
   ·simp only [h,if_true] <;> omega
   ·simp only [h,if_false] <;> omega
 ·cases hi with
  | none=>simp [sliceBounds,HT.sIx]
  | some i =>
   simp only [sliceBounds,HT.sIx,Option.getD_none,show (1:Int) > 0 by decide,if_true]
   by_cases h:i<0
   ·simp only [h,if_true] <;> omega
   ·simp only [h,if_false] <;> omega
theorem Zka (its:List Value) (lo hi:Option Int):slicePick its.toArray lo hi none=((its.drop (HT.sIx its.length 0 lo)).take (HT.sIx its.length its.length hi - HT.sIx its.length 0 lo)).toArray:=by
 obtain ⟨h1,h2,h3⟩:=Zlo lo hi its.toArray.size
 unfold slicePick
 rw [h1,h2,h3]
 simp only [sliceRange_one,pick_run,List.size_toArray] <;> rfl
def Z4s (K:PySem.W.Frag):V→Option Int→Option Int→Hp→VK→Prop:=fun x lo hi H Q=>∃ a xs,x=.ref a∧SqL K H a xs∧∀ p,H p=none→Q (.ref p) (upd H p (.lst (Z07 xs lo hi)))
theorem Zw6:SlR X (Z4s X.K):=by
 intro pins s σ H x v vl vu lo hi sl Q I rx hs pl pu h
 obtain ⟨a,xs,rfl,hx,q⟩:=h
 cases rx
 obtain ⟨its,r,ht,hz⟩:=I.list hx
 have hlen:=r.length
 refine ⟨"list",_,slot_list_getitem.lookup,ht.isList.typeIs,?_⟩
 refine wpAny_getItem_list_slice ht.isList hs pl pu .none (by simp) ?_ (by rw [List.size_toArray] <;> omega)
 rw [Zka,← hlen]
 refine ⟨.ref s.heap.objs.size,_,I.laid (t':=s.toks) (o:=.lst (Z07 xs lo hi)) (fun b ob q=>Heap.get?_push_of_some _ q) (Nat.le_refl _) ?_,rfl,q _ (I.hok.fresh (Nat.le_refl _))⟩
 exact ⟨Nat.le_trans (Zn5 xs lo hi) hz,_,0,(r.drop (HT.sIx xs.length 0 lo)).take (HT.sIx xs.length xs.length hi - HT.sIx xs.length 0 lo),Heap.get?_push_size _ rfl⟩
def Zk0:V→Bool
 | .non=>true
 | .bl _=>true
 | .int _=>true
 | .str _=>true
 | _=>false
def eqV:V→V→Bool
 | .non,.non=>true
 | .bl a,.bl b=>a == b
 | .bl a,.int b=>(if a then 1 else 0) == b
 | .int a,.bl b=>a == (if b then 1 else 0)
 | .int a,.int b=>a == b
 | .str a,.str b=>a == b
 | _,_=>false
theorem Z0s {A:Around}{s:Shared}{y x:V}{u v:Value}(ry:Zc4 y u) (rx:Zc4 x v) (fy:Zk0 y=true) (fx:Zk0 x=true):SeqAt.EqAt A s u v (eqV y x):=by
 cases y with
 | non =>
  cases ry
  cases x with
  | non=>cases rx;exact SeqAt.EqAt.same _
  | bl b=>cases rx;exact SeqAt.EqAt.none_bool b
  | int b=>obtain ⟨t,rfl⟩:=rx;exact SeqAt.EqAt.none_int b t
  | str b=>obtain ⟨t,rfl⟩:=rx;exact SeqAt.EqAt.none_str b t
  | _=>exact absurd (show false=true from fx) Bool.false_ne_true
 | bl a =>
  cases ry
  cases x with
  | non=>cases rx;exact SeqAt.EqAt.bool_none a
  | bl b=>cases rx;exact SeqAt.EqAt.bool_bool a b
  | int b=>obtain ⟨t,rfl⟩:=rx;exact SeqAt.EqAt.bool_int a b t
  | str b=>obtain ⟨t,rfl⟩:=rx;exact SeqAt.EqAt.bool_str a b t
  | _=>exact absurd (show false=true from fx) Bool.false_ne_true
 | int a =>
  obtain ⟨t',rfl⟩:=ry
  cases x with
  | non=>cases rx;exact SeqAt.EqAt.int_none a t'
  | bl b=>cases rx;exact SeqAt.EqAt.int_bool a t' b
  | int b=>obtain ⟨t,rfl⟩:=rx;exact SeqAt.EqAt.int_int a t' b t
  | str b=>obtain ⟨t,rfl⟩:=rx;exact SeqAt.EqAt.int_str a t' b t
  | _=>exact absurd (show false=true from fx) Bool.false_ne_true
 | str a =>
  obtain ⟨t',rfl⟩:=ry
  cases x with
  | non=>cases rx;exact SeqAt.EqAt.str_none a t'
  | bl b=>cases rx;exact SeqAt.EqAt.str_bool a t' b
  | int b=>obtain ⟨t,rfl⟩:=rx;exact SeqAt.EqAt.str_int a t' b t
  | str b=>obtain ⟨t,rfl⟩:=rx;exact SeqAt.EqAt.str_str a t' b t
  | _=>exact absurd (show false=true from fx) Bool.false_ne_true
 | _=>exact absurd (show false=true from fy) Bool.false_ne_true
def eqU (x:V) (u:Value):Bool:=match u with
 | .none=>eqV .non x
 | .bool b=>eqV (.bl b) x
 | .int i _=>eqV (.int i) x
 | .str z _=>eqV (.str z) x
 | _=>false
theorem Zwr {x y:V}{u:Value}(r:Zc4 y u) (f:Zk0 y=true):eqU x u=eqV y x:=by
 cases y with
 | non=>cases r;rfl
 | bl b=>cases r;rfl
 | int i=>obtain ⟨t,rfl⟩:=r;rfl
 | str z=>obtain ⟨t,rfl⟩:=r;rfl
 | _=>exact absurd (show false=true from f) Bool.false_ne_true
theorem Zi6 {x:V}:∀ {xs:List V}{us:List Value},Zcn xs us→xs.all Zk0=true→us.any (eqU x)=xs.any fun y=>eqV y x
 | _,_,.nil,_=>rfl
 | y :: xs,u :: us,.cons r t,f=>by
  rw [List.all_cons,Bool.and_eq_true] at f
  rw [List.any_cons,List.any_cons,Zwr r f.1,Zi6 t f.2]
theorem Zg3 {A:Around}{s:Shared}{x:V}{v:Value}(rx:Zc4 x v) (fx:Zk0 x=true):∀ {xs:List V}{us:List Value},Zcn xs us→xs.all Zk0=true→∀ u∈us,SeqAt.EqAt A s u v (eqU x u)
 | _,_,.nil,_=>fun u hu=>by cases hu
 | y :: xs,u :: us,.cons r t,f=>fun u' hu=>by
  rw [List.all_cons,Bool.and_eq_true] at f
  rcases List.mem_cons.mp hu with rfl | hu
  ·rw [Zwr r f.1];exact Z0s r rx f.1 fx
  ·exact Zg3 rx fx t f.2 u' hu
def inV (x:V) (xs:List V):Bool:=xs.any fun y=>eqV y x
def rIn (K:PySem.W.Frag) (neg:Bool):R2:=fun x y H Q=>∃ p xs,y=.ref p∧(SqL K H p xs∨SqT K H p xs)∧Zk0 x=true∧xs.all Zk0=true∧Q (.bl (if neg then !inV x xs else inV x xs)) H
theorem Zip:OpR X (compareOp .In) (rIn X.K false):=by
 intro pins s σ H x y v u Q I rx ry h
 obtain ⟨p,xs,rfl,hq,fx,fs,q⟩:=h
 cases ry
 rcases hq with hq | hq
 ·obtain ⟨its,r,pl,hz⟩:=I.list hq
  refine SeqAt.in_listAt (eqU x) pl.isList (fun w hw=>Zg3 rx fx r fs w (by simpa using hw)) ⟨.bl _,H,I,rfl,?_⟩
  rw [show its.toArray.any (eqU x)=its.any (eqU x) by simp,Zi6 r fs]
  exact q
 ·obtain ⟨its,r,pl,hz⟩:=I.tuple hq
  refine SeqAt.in_tupleAt (eqU x) pl (fun w hw=>Zg3 rx fx r fs w (by simpa using hw)) ⟨.bl _,H,I,rfl,?_⟩
  rw [show its.toArray.any (eqU x)=its.any (eqU x) by simp,Zi6 r fs]
  exact q
theorem Zly:OpR X (compareOp .NotIn) (rIn X.K true):=by
 intro pins s σ H x y v u Q I rx ry h
 obtain ⟨p,xs,rfl,hq,fx,fs,q⟩:=h
 cases ry
 rcases hq with hq | hq
 ·obtain ⟨its,r,pl,hz⟩:=I.list hq
  refine SeqAt.notIn_listAt (eqU x) pl.isList (fun w hw=>Zg3 rx fx r fs w (by simpa using hw)) ⟨.bl _,H,I,rfl,?_⟩
  rw [show its.toArray.any (eqU x)=its.any (eqU x) by simp,Zi6 r fs]
  exact q
 ·obtain ⟨its,r,pl,hz⟩:=I.tuple hq
  refine SeqAt.notIn_tupleAt (eqU x) pl (fun w hw=>Zg3 rx fx r fs w (by simpa using hw)) ⟨.bl _,H,I,rfl,?_⟩
  rw [show its.toArray.any (eqU x)=its.any (eqU x) by simp,Zi6 r fs]
  exact q
theorem Zak:Zja X (.builtin "len") (fun xs H Q=>∃ p ys,xs=[.ref p]∧(SqL X.K H p ys∨SqT X.K H p ys)∧Q (.int ys.length) H):=by
 intro pins s σ H xs us Q I r h
 obtain ⟨p,ys,rfl,hq,q⟩:=h
 obtain ⟨u,rfl,rx⟩:=Zjb r
 cases rx
 have hn:=Ziy
 rcases hq with hq | hq
 ·obtain ⟨its,r',pl,hz⟩:=I.list hq
  have hlen:=r'.length
  exact Calls.call_len_list pl.isList (by simp only [List.size_toArray] <;> omega) ⟨.int ys.length,H,I.tok _,⟨s.toks + 1,by rw [List.size_toArray,hlen]⟩,q⟩
 ·obtain ⟨its,r',pl,hz⟩:=I.tuple hq
  have hlen:=r'.length
  exact len_tuple pl (by simp only [List.size_toArray] <;> omega) ⟨.int ys.length,H,I.tok _,⟨s.toks + 1,by rw [List.size_toArray,hlen]⟩,q⟩
theorem Zez:Zja X (.type "list") (fun xs H Q=>∃ p ys,xs=[.ref p]∧(SqL X.K H p ys∨SqT X.K H p ys)∧∀ l,H l=none→Q (.ref l) (upd H l (.lst ys))):=by
 intro pins s σ H xs us Q I r h
 obtain ⟨p,ys,rfl,hq,q⟩:=h
 obtain ⟨u,rfl,rx⟩:=Zjb r
 cases rx
 have fin:∀ (its:List Value),Zcn ys its→ys.length≤sizeLine→∀ (h':Heap) (c':Nat),(∀ b o',s.heap.get? b=some o'→h'.get? b=some o') →
   h'.get? s.heap.objs.size=some { cls:=.type "list",dict:=none,data:=.seq its.toArray c',slots:=#[] }→EP X pins σ Q (.ref s.heap.objs.size) { s with heap:=h' }:=fun its r' hz h' c' kp e =>
  ⟨.ref s.heap.objs.size,_,I.laid (t':=s.toks) kp (Nat.le_refl _) (show Zc5 X.prog X.w _ h' _ (.lst ys) from ⟨hz,its,c',r',e⟩),rfl,q _ (I.hok.fresh (Nat.le_refl _))⟩
 rcases hq with hq | hq
 ·obtain ⟨its,r',pl,hz⟩:=I.list hq
  have hlen:=r'.length
  obtain ⟨o,ho,hc,n,hd⟩:=pl.isList
  exact call_list_seq p (.inl rfl) ho hc hd (fun h' c' kp e=>fin its r' hz h' c' kp e) (by simp only [List.size_toArray] <;> omega)
 ·obtain ⟨its,r',pl,hz⟩:=I.tuple hq
  have hlen:=r'.length
  obtain ⟨o,ho,hc,n,hd⟩:=pl
  exact call_list_seq p (.inr rfl) ho hc hd (fun h' c' kp e=>fin its r' hz h' c' kp e) (by simp only [List.size_toArray] <;> omega)
theorem Zdx:Zja X (.type "tuple") (fun xs H Q=>∃ p ys,xs=[.ref p]∧((SqL X.K H p ys∧∀ l,H l=none→Q (.ref l) (upd H l (.tup ys)))∨(SqT X.K H p ys∧Q (.ref p) H))):=by
 intro pins s σ H xs us Q I r h
 obtain ⟨p,ys,rfl,h⟩:=h
 obtain ⟨u,rfl,rx⟩:=Zjb r
 cases rx
 rcases h with ⟨hq,q⟩ | ⟨hq,q⟩
 ·obtain ⟨its,r',pl,hz⟩:=I.list hq
  have hlen:=r'.length
  refine call_tuple_list pl.isList (fun h' kp=>?_) (by simp only [List.size_toArray] <;> omega)
  have I1:Inv X pins σ H { s with heap:=h' }:=I.kept (t':=s.toks) kp
  have I2:Inv X pins σ (upd H h'.objs.size (.tup ys)) { s with heap:=h'.push { cls:=.type "tuple",data:=.seq its.toArray } } :=
   I1.laid (t':=s.toks) (fun b o e=>Heap.get?_push_of_some _ e) (Nat.le_refl _) (show Zc5 X.prog X.w _ _ _ (.tup ys) from ⟨hz,its,r',IsTup.new _ _⟩)
  exact ⟨.ref h'.objs.size,_,I2,rfl,q _ (I1.hok.fresh (Nat.le_refl _))⟩
 ·obtain ⟨its,r',pl,hz⟩:=I.tuple hq
  exact call_tuple_same pl ⟨.ref p,H,I,rfl,q⟩
def tyV (K:PySem.W.Frag) (T:String) (x:V) (H:Hp):Prop:=match x with
 | .str _=>T="str"
 | .int _=>T="int"
 | .ref p=>(T="list"∧∃ xs,SqL K H p xs)∨(T="tuple"∧∃ o,K.lookup p=some o∧o.cls=.type "tuple"∧o.dict=none) ∨
   (T="dict"∧((∃ kvs,H p=some (.dK kvs))∨∃ kvs,H p=some (.dT kvs)))∨(T="set"∧∃ S n,H p=some (.set S n))
 | _=>False
theorem Zv1 {pins:List (Addr×Obj)}{σ:St}{H:Hp}{s:Shared}{T:String}{x:V}{v:Value}(I:Inv X pins σ H s) (r:Zc4 x v) (ty:tyV X.K T x H):
  s.TypeIs v T∧∀ a,v=.ref a→∃ ob,s.heap.get? a=some ob∧ob.dict=none:=by
 cases x with
 | str z =>
  obtain ⟨t,rfl⟩:=r
  cases (show T="str" from ty)
  exact ⟨typeIs_str s z t,fun _ e=>nomatch e⟩
 | int i =>
  obtain ⟨t,rfl⟩:=r
  cases (show T="int" from ty)
  exact ⟨typeIs_int s i t,fun _ e=>nomatch e⟩
 | ref p =>
  cases r
  rcases ty with ⟨rfl,xs,hq⟩ | ⟨rfl,o,hk,hc,hd⟩ | ⟨rfl,hk⟩ | ⟨rfl,S,n,hk⟩
  ·obtain ⟨its,_,pl,_⟩:=I.list hq
   refine ⟨pl.isList.typeIs,fun a e=>?_⟩
   cases e
   obtain ⟨o,n,e,c,hd,_⟩:=pl
   exact ⟨o,e,hd⟩
  ·refine ⟨⟨o,I.kIn p o hk,hc⟩,fun a e=>?_⟩
   cases e
   exact ⟨o,I.kIn _ o hk,hd⟩
  ·have z:∃ o,s.heap.get? p=some o∧o.ExactDict:=by
    rcases hk with ⟨kvs,hk⟩ | ⟨kvs,hk⟩
    ·obtain ⟨_,_,_,_,o,_,_,e,ex,_⟩:=I.hok p _ hk
     exact ⟨o,e,ex⟩
    ·obtain ⟨_,_,_,_,o,_,_,e,ex,_⟩:=I.hok p _ hk
     exact ⟨o,e,ex⟩
   obtain ⟨o,e,ex⟩:=z
   refine ⟨⟨o,e,ex.1⟩,fun a e2=>?_⟩
   cases e2
   exact ⟨o,e,ex.2.1⟩
  ·obtain ⟨o,_,_,_,e,ex,_⟩:=I.hok p _ hk
   refine ⟨⟨o,e,ex.1⟩,fun a e2=>?_⟩
   cases e2
   exact ⟨o,e,ex.2.1⟩
 | _=>exact False.elim ty
def Z36 (K:PySem.W.Frag) (T:String) (r:V→List V→Hp→VK→Prop) (to:TE):TE:=fun σ H Q=>to σ H fun x H1=>tyV K T x H1∧r x [] H1 Q
def tBM (K:PySem.W.Frag) (T:String) (r:V→List V→Hp→VK→Prop) (to:TE) (t:TA):TE:=fun σ H Q=>to σ H fun x H1=>tyV K T x H1∧t σ H1 fun xs H2=>r x xs H2 Q
variable {o e:Expr} {es:List Expr} {to:TE} {t:TA} {name:Str} {apos cpos:Pos} {T id:String} {r:V→List V→Hp→VK→Prop}
theorem Zow (pa:PlainAttrs T) (slot:Slot T name id) (hty:typeOf (.builtin id)=pure (.type "method_descriptor")) (hm:MtR X id r) (ho:PE X o to)
  (hbase:attributeBase o name X.env (eval o X.env)=eval o X.env:=by rfl) (hline:(apos.endLine == cpos.line)=true:=by rfl):PE X (.Call (.Attribute o name apos) [] [] cpos) (Z36 X.K T r to):=by
 intro pins s σ H Q I h
 refine wpAny_Call_method0_late hbase hline (thn (ho pins s σ H _ I h) fun v s1 ⟨x,H1,I1,r1,ty,q1⟩=>?_)
 obtain ⟨h1,h2⟩:=Zv1 I1 r1 ty
 exact ⟨T,id,pa,slot,hty,h1,h2,Calls.callWith_builtin rfl (PySem.evalArgs_none (hm pins s1 σ H1 x [] v [] Q I1 r1 .nil q1))⟩
theorem Zej (pa:PlainAttrs T) (slot:Slot T name id) (hty:typeOf (.builtin id)=pure (.type "method_descriptor")) (hm:MtR X id r) (ho:PE X o to) (ha:PA X (e :: es) t)
  (hbase:attributeBase o name X.env (eval o X.env)=eval o X.env:=by rfl)
  (hfew:((backTo cpos (starEach (e :: es) X.env)).all (fun x=>!x.1)&&(backToKw cpos (keywordEach [] X.env)).all (fun x=>x.1.isSome)
   && decide ((e :: es).length + ([]:List Keyword).length + (if ([]:List Keyword).isEmpty then 0 else 1)<30))=true:=by rfl)
  (hline:(apos.endLine == cpos.line)=true:=by rfl) (hs:starEach (e :: es) X.env=(false,eval e X.env):: starEach es X.env:=by rfl) (hplain:(backTo cpos (starEach es X.env)).any (·.1)=false:=by rfl):
  PE X (.Call (.Attribute o name apos) (e :: es) [] cpos) (tBM X.K T r to t):=by
 intro pins s σ H Q I h
 refine wpAny_Call_method_late hbase hfew hline rfl (thn (ho pins s σ H _ I h) fun v s1 ⟨x,H1,I1,r1,ty,q1⟩=>?_)
 obtain ⟨h1,h2⟩:=Zv1 I1 r1 ty
 refine ⟨T,id,pa,slot,hty,h1,h2,?_⟩
 have hA:=ha cpos pins s1 σ H1 _ I1 q1
 rw [hs] at hA ⊢
 refine Calls.callWith_builtin (by show (false || (backTo cpos (starEach es X.env)).any (·.1))=false;rw [hplain] <;> rfl) (Calls.evalArgs_plain ?_)
 exact thn hA fun us s2 ⟨vs,H2,I2,r2,q2⟩=>hm pins s2 σ H2 x vs v us Q I2 r1 r2 q2
end
end L2
namespace L2
open PySem PySem.Spec PyProof.Rows
def MtM (X:Cx) (id:String) (r:V→List V→Hp→VK→Prop):Prop :=
 ∀ (pins:List (Addr×Obj)) (s:Shared) (σ:St) (H:Hp) (x:V) (xs:List V) (v:Value) (us:List Value) (Q:VK),Inv X pins σ H s→Zc4 x v→Zcn xs us→r x xs H Q →
  wpAny (model X.prog X.w) X.A (call (.builtin id) (v :: us)) (EP X pins σ Q) X.xe s
theorem Zcn.one:∀ {x:V}{us:List Value},Zcn [x] us→∃ u,us=[u]∧Zc4 x u
 | _,_,.cons r .nil=>⟨_,rfl,r⟩
theorem Zcn.zero:∀ {us:List Value},Zcn [] us→us=[]
 | _,.nil=>rfl
theorem Zcn.dropLast {xs:List V}{us:List Value}(h:Zcn xs us):Zcn xs.dropLast us.dropLast:=by
 induction h with
 | nil=>exact .nil
 | cons r t ih =>
  cases t with
  | nil=>exact .nil
  | cons q t'=>exact .cons r ih
theorem Zcn.eraseIdx:∀ {xs:List V}{us:List Value}(i:Nat),Zcn xs us→Zcn (xs.eraseIdx i) (us.eraseIdx i)
 | _,_,_,.nil=>.nil
 | _,_,0,.cons _ t=>t
 | _,_,i + 1,.cons r t=>.cons r (Zcn.eraseIdx i t)
theorem Zcn.rep {xs:List V}{us:List Value}(h:Zcn xs us):∀ k:Nat,Zcn (List.replicate k xs).flatten (List.replicate k us).flatten
 | 0=>.nil
 | k + 1=>by
  rw [List.replicate_succ,List.replicate_succ,List.flatten_cons,List.flatten_cons]
  exact Zcn.append h (Zcn.rep h k)
theorem Zqj {α:Type}(l:List α):l.eraseIdx (l.length - 1)=l.dropLast:=by
 induction l with
 | nil=>rfl
 | cons a r ih =>
  cases r with
  | nil=>rfl
  | cons b r =>
   have e:(a :: b :: r).length - 1=((b :: r).length - 1) + 1:=by
    have h1:(a :: b :: r).length=r.length + 2:=rfl
    have h2:(b :: r).length=r.length + 1:=rfl
    omega
   rw [e,List.eraseIdx_cons_succ,ih]
   all_goals rfl
theorem Zmj {α:Type}:∀ (l:List α) (i:Nat),(l.eraseIdx i).length≤l.length
 | [],_=>Nat.le_refl _
 | _ :: _,0=>Nat.le_succ _
 | _ :: r,i + 1=>Nat.succ_le_succ (Zmj r i)
theorem Zmo (its:List Value):∀ (k:Nat) (acc:List Value),
  List.foldl (fun x1 x2=>x1++x2) acc.toArray (List.replicate k its.toArray)=(acc++(List.replicate k its).flatten).toArray
 | 0,acc=>by simp
 | k + 1,acc=>by
  have e:acc.toArray++its.toArray=(acc++its).toArray:=by simp
  have e2:(acc++its)++(List.replicate k its).flatten=acc++(List.replicate (k + 1) its).flatten:=by
   rw [List.replicate_succ,List.flatten_cons,List.append_assoc]
  rw [← e2,← Zmo its k (acc++its),← e,List.replicate_succ,List.foldl_cons]
section
variable {X:Cx} {pins:List (Addr×Obj)} {σ:St} {H:Hp} {s:Shared} {l b:Addr} {xs ys zs:List V}
theorem Inv.lset {its its':List Value}{n:Nat}{f:Array Value→Array Value}{t':Nat}(I:Inv X pins σ H s) (hH:H l=some (.lst xs))
  (e:s.heap.get? l=some { cls:=.type "list",data:=.seq its.toArray n }) (hf:f its.toArray=its'.toArray) (hv:Zcn ys its') (hz:ys.length≤sizeLine):
  Inv X pins σ (upd H l (.lst ys)) { s with heap:=s.heap.update l (Obj.mapSeq f),toks:=t' }:=by
 have q:=PySem.IsL.update e f
 rw [hf] at q
 refine I.write (x:=l) (e:=l) (by rw [hH];exact trivial) (.inl rfl) (fun b' u hb hu=>(Heap.get?_update_other s.heap (Obj.mapSeq f) (Ne.symm hb)).trans hu) ⟨_,q⟩ ?_
 exact ⟨hz,its',_,hv,q⟩
theorem Inv.lnew {its:List Value}{t':Nat}(I:Inv X pins σ H s) (hv:Zcn ys its) (hz:ys.length≤sizeLine):
  Inv X pins σ (upd H s.heap.objs.size (.lst ys)) { s with heap:=s.heap.push { cls:=.type "list",data:=.seq its.toArray },toks:=t' } :=
 I.laid (fun _ _ q=>Heap.get?_push_of_some _ q) (Nat.le_refl _) ⟨hz,its,0,hv,Heap.get?_push_size _ rfl⟩
theorem Inv.fresh (I:Inv X pins σ H s):H s.heap.objs.size=none:=I.hok.fresh (Nat.le_refl _)
theorem Inv.lstM (I:Inv X pins σ H s) (hH:H l=some (.lst xs)):xs.length≤sizeLine∧∃ (its:List Value) (n:Nat),Zcn xs its∧xs.length=its.length∧s.heap.get? l=some { cls:=.type "list",data:=.seq its.toArray n }:=by
 obtain ⟨z,its,n,r,e⟩:=I.hok l _ hH
 exact ⟨z,its,n,r,r.length,e⟩
theorem Zoz {n:Nat}(h:n≤sizeLine):Builtin.List.listTooLong n=false:=by
 unfold Builtin.List.listTooLong
 exact decide_eq_false (by omega)
end
section
variable {X:Cx}
def Zxd:V→List V→Hp→VK→Prop:=fun x vs H Q=>∃ l xs y,x=.ref l∧vs=[y]∧H l=some (.lst xs)∧xs.length<sizeLine∧Q .non (upd H l (.lst (xs++[y])))
theorem Zb6:MtM X "list.append" Zxd:=by
 intro pins s σ H x vs v us Q I rx rv h
 obtain ⟨l,xs,y,rfl,rfl,hH,hz,q⟩:=h
 cases rx
 obtain ⟨u,rfl,ru⟩:=rv.one
 obtain ⟨z,its,n,r,hl,e⟩:=I.lstM hH
 refine call_meets F.slot_list_append ⟨_,e,rfl⟩ F.entry_list_append (F.args_list_append_2 _ _) (PySem.list_append l its.toArray n u (by rw [List.size_toArray];omega)) ⟨e,?_⟩
 refine ⟨.non,_,I.lset (its':=its++[u]) hH e (by simp) (r.append (.cons ru .nil)) ?_,rfl,q⟩
 rw [List.length_append,List.length_singleton]
 omega
def Zxc:V→List V→Hp→VK→Prop:=fun x vs H Q=>∃ l b xs zs,x=.ref l∧vs=[.ref b]∧H l=some (.lst xs)∧H b=some (.lst zs)∧xs.length + zs.length≤sizeLine∧Q .non (upd H l (.lst (xs++zs)))
theorem Zma:MtM X "list.extend" Zxc:=by
 intro pins s σ H x vs v us Q I rx rv h
 obtain ⟨l,b,xs,zs,rfl,rfl,hH,hB,hz,q⟩:=h
 cases rx
 obtain ⟨u,rfl,ru⟩:=rv.one
 cases ru
 obtain ⟨z,its,n,r,hl,e⟩:=I.lstM hH
 obtain ⟨z2,its2,n2,r2,hl2,e2⟩:=I.lstM hB
 have hsz:its.toArray.size + its2.toArray.size≤sizeLine:=by rw [List.size_toArray,List.size_toArray];omega
 have hlong:¬ (!its.toArray.isEmpty&&Builtin.List.listTooLong (its.toArray.size + its2.toArray.size))=true:=by
  rw [Zoz hsz,Bool.and_false]
  exact Bool.false_ne_true
 refine call_meets F.slot_list_extend ⟨_,e,rfl⟩ F.entry_list_extend (F.args_list_extend_2 _ _)
  (AutoSeq1.list_extend_list_list_0 l its.toArray n b its2.toArray n2 hlong (by rw [List.size_toArray];omega) (by omega)) ⟨e,e2,?_⟩
 refine ⟨.non,_,I.lset (its':=its++its2) hH e (by simp) (r.append r2) ?_,rfl,q⟩
 rw [List.length_append]
 omega
def Z4u:V→List V→Hp→VK→Prop:=fun x vs H Q=>∃ l xs y,x=.ref l∧vs=[]∧H l=some (.lst xs)∧xs[xs.length - 1]?=some y∧Q y (upd H l (.lst xs.dropLast))
theorem Zwn:MtM X "list.pop" Z4u:=by
 intro pins s σ H x vs v us Q I rx rv h
 obtain ⟨l,xs,y,rfl,rfl,hH,hy,q⟩:=h
 cases rx
 have hus:=rv.zero
 subst hus
 obtain ⟨z,its,n,r,hl,e⟩:=I.lstM hH
 obtain ⟨u,hu,ru⟩:=r.get hy
 have hy':its.toArray[its.toArray.size - 1]?=some u:=by
  show its.toArray[its.length - 1]?=some u
  rw [← Array.getElem?_toList,← hl]
  exact hu
 refine call_meets F.slot_list_pop ⟨_,e,rfl⟩ F.entry_list_pop (F.args_list_pop_1 _) (MeetsSeq.list_pop_last l its.toArray n u hy' (by rw [List.size_toArray];omega)) ⟨e,?_⟩
 refine ⟨y,_,I.lset (its':=its.dropLast) hH e ?_ r.dropLast ?_,ru,q⟩
 ·show its.toArray.eraseIdxIfInBounds (its.toArray.size - 1)=its.dropLast.toArray
  rw [List.size_toArray,List.eraseIdxIfInBounds_toArray,Zqj]
 ·rw [List.length_dropLast]
  omega
def Zzo:V→List V→Hp→VK→Prop:=fun x vs H Q=>∃ l xs i k y,x=.ref l∧vs=[.int i]∧H l=some (.lst xs)∧-(2 ^ 63)≤i∧i<2 ^ 63∧seqIndex? i xs.length=some k∧xs[k]?=some y∧Q y (upd H l (.lst (xs.eraseIdx k)))
theorem Zo3:MtM X "list.pop" Zzo:=by
 intro pins s σ H x vs v us Q I rx rv h
 obtain ⟨l,xs,i,k,y,rfl,rfl,hH,h1,h2,hk,hy,q⟩:=h
 cases rx
 obtain ⟨u,rfl,ru⟩:=rv.one
 obtain ⟨t,rfl⟩:=ru
 obtain ⟨z,its,n,r,hl,e⟩:=I.lstM hH
 obtain ⟨w,hw,rw'⟩:=r.get hy
 refine call_meets F.slot_list_pop ⟨_,e,rfl⟩ F.entry_list_pop (F.args_list_pop_2 _ _)
  (MeetsSeq.list_pop_at l its.toArray n i t k w (fitsIndex_both h1 h2) (by rw [List.size_toArray,← hl];exact hk) (by rw [← Array.getElem?_toList];exact hw) (by rw [List.size_toArray];omega)) ⟨e,?_⟩
 refine ⟨y,_,I.lset (its':=its.eraseIdx k) hH e ?_ (r.eraseIdx k) ?_,rw',q⟩
 ·show its.toArray.eraseIdxIfInBounds k=(its.eraseIdx k).toArray
  rw [List.eraseIdxIfInBounds_toArray]
 ·have:=Zmj xs k
  omega
def Zzq:V→List V→Hp→VK→Prop:=fun x vs H Q=>∃ l xs,x=.ref l∧vs=[]∧H l=some (.lst xs)∧Q .non (upd H l (.lst []))
theorem Zo4:MtM X "list.clear" Zzq:=by
 intro pins s σ H x vs v us Q I rx rv h
 obtain ⟨l,xs,rfl,rfl,hH,q⟩:=h
 cases rx
 have hus:=rv.zero
 subst hus
 obtain ⟨z,its,n,r,hl,e⟩:=I.lstM hH
 refine call_meets F.slot_list_clear ⟨_,e,rfl⟩ F.entry_list_clear (F.args_list_clear_1 _) (AutoSeq1.list_clear_list_0 l its.toArray n (by rw [List.size_toArray];omega)) ⟨e,?_⟩
 exact ⟨.non,_,I.lset (its':=[]) (ys:=[]) hH e rfl .nil (Nat.zero_le _),rfl,q⟩
def Z4y:R2:=fun x y H Q=>∃ l b xs zs,x=.ref l∧y=.ref b∧H l=some (.lst xs)∧H b=some (.lst zs)∧xs.length + zs.length≤sizeLine∧∀ p,H p=none→Q (.ref p) (upd H p (.lst (xs++zs)))
theorem Zzy:OpR X (binaryOp .Add) Z4y:=by
 intro pins s σ H x y v u Q I rx ry h
 obtain ⟨l,b,xs,zs,rfl,rfl,hH,hB,hz,q⟩:=h
 cases rx
 cases ry
 obtain ⟨z,its,n,r,hl,e⟩:=I.lstM hH
 obtain ⟨z2,its2,n2,r2,hl2,e2⟩:=I.lstM hB
 refine PySem.P.add_list e e2 ?_ (by rw [List.size_toArray,List.size_toArray];omega)
 have ea:its.toArray++its2.toArray=(its++its2).toArray:=by simp
 rw [ea]
 exact ⟨.ref _,_,I.lnew (t':=s.toks) (r.append r2) (by rw [List.length_append];omega),rfl,q _ I.fresh⟩
def Z4t:R2:=fun x y H Q=>∃ l k xs,x=.ref l∧y=.int k∧H l=some (.lst xs)∧-(2 ^ 63)≤k∧k<2 ^ 63∧xs.length * k.toNat≤sizeLine ∧
 ∀ p,H p=none→Q (.ref p) (upd H p (.lst (List.replicate k.toNat xs).flatten))
theorem Zx4 {α:Type}(xs:List α) (k:Nat):(List.replicate k xs).flatten.length=k * xs.length:=by
 induction k with
 | zero=>simp
 | succ k ih=>rw [List.replicate_succ,List.flatten_cons,List.length_append,ih,Nat.succ_mul,Nat.add_comm]
theorem Zzw:OpR X (binaryOp .Mult) Z4t:=by
 intro pins s σ H x y v u Q I rx ry h
 obtain ⟨l,k,xs,rfl,rfl,hH,h1,h2,hz,q⟩:=h
 cases rx
 obtain ⟨t,rfl⟩:=ry
 obtain ⟨z,its,n,r,hl,e⟩:=I.lstM hH
 have hlen:its.toArray.size * k.toNat≤sizeLine:=by rw [List.size_toArray,← hl];exact hz
 have hcap:¬ its.toArray.size * k.toNat > (2 ^ 63 - 1) / 8:=by
  have:(sizeLine:Nat)≤(2 ^ 63 - 1) / 8:=by decide
  omega
 have hfit:¬ (!Builtin.List.listFitsIndex k)=true:=by
  rw [fitsIndex_both h1 h2]
  exact Bool.false_ne_true
 have hlong:¬ Builtin.List.listTooLong (its.toArray.size * k.toNat)=true:=by
  rw [Zoz hlen]
  exact Bool.false_ne_true
 have hnew:List.foldl (fun x1 x2=>x1++x2) #[] (List.replicate (if its.toArray.isEmpty=true then 0 else k.toNat) its.toArray)=(List.replicate k.toNat its).flatten.toArray:=by
  have f0:∀ m:Nat,List.foldl (fun x1 x2=>x1++x2) #[] (List.replicate m its.toArray)=(List.replicate m its).flatten.toArray:=fun m=>by
   have:=Zmo its m []
   rw [List.nil_append] at this
   exact this
  rw [f0]
  cases its with
  | nil=>simp
  | cons a r'=>rw [if_neg (by simp)]
 refine wpAny_binaryOp_repeat_ref (T:="list") (U:="int") (by decide) ⟨_,e,rfl⟩ (fun s'=>typeIs_int s' k t) noFill_list_mul F.fills_int_mul F.slot_int_rmul repeat_list F.slot_int_index.lookup
  (call_meets F.slot_int_rmul (typeIs_int s k t) F.entry_int_rmul (F.args_int_rmul_2 _ _) (int___rmul___int_list k t l its.toArray n)
   ⟨e,rfl,⟨_,e,rfl⟩,call_meets F.slot_list_mul ⟨_,e,rfl⟩ F.entry_list_mul (F.args_list_mul_2 _ _) (AutoListH.list___mul___list_int_3 l its.toArray n k t hfit hcap hlong) ⟨e,?_⟩⟩)
 rw [hnew]
 exact ⟨.ref _,_,I.lnew (t':=s.toks) (r.rep k.toNat) (by rw [Zx4,Nat.mul_comm];exact hz),rfl,q _ I.fresh⟩
end
section
variable {prog:Program} {w:World} {A:Around} {E:Value→Shared→Prop} {s:Shared}
end
section
variable {X:Cx}
end
end L2
namespace L2
open PySem PySem.Spec PyProof.Rows
section
variable {κ:Type} [DecidableEq κ]
def Zf2 (kvs:List (κ×V)) (k:κ):Option V:=(kvs.find? fun kv=>decide (kv.1=k)).map (·.2)
def Zgh (kvs:List (κ×V)) (k:κ) (v:V):List (κ×V):=
 if (kvs.any fun kv=>decide (kv.1=k))=true then kvs.map (fun kv=>if kv.1=k then (kv.1,v) else kv) else kvs++[(k,v)]
theorem Zfa {p:κ×V}{r:List (κ×V)}{k:κ}(e:p.1=k):Zf2 (p :: r) k=some p.2:=by simp [Zf2,List.find?_cons,e]
theorem Zfb {p:κ×V}{r:List (κ×V)}{k:κ}(e:¬ p.1=k):Zf2 (p :: r) k=Zf2 r k:=by simp [Zf2,List.find?_cons,e]
theorem Zgt (k:κ):∀ kvs:List (κ×V),(kvs.any fun kv=>decide (kv.1=k))=(Zf2 kvs k).isSome
 | []=>rfl
 | p :: r=>by
  rw [List.any_cons]
  by_cases e:p.1=k
  ·simp only [Zfa e,decide_eq_true e,Bool.true_or,Option.isSome_some]
  ·rw [Zfb e,decide_eq_false e,Bool.false_or];exact Zgt k r
theorem Zgr (kvs:List (κ×V)) (k:κ) (v:V):(Zgh kvs k v).length≤kvs.length + 1:=by
 unfold Zgh
 split
 ·rw [List.length_map];omega
 ·rw [List.length_append,List.length_cons,List.length_nil];omega
theorem Zeh {kvs:List (κ×V)}{k:κ}(v:V) (h:Zf2 kvs k=none):Zgh kvs k v=kvs++[(k,v)]:=by
 unfold Zgh
 rw [Zgt,h]
 exact if_neg (by decide)
theorem Zm0.isSome_eq {o:Option V}{u:Option Value}(r:Zm0 o u):o.isSome=u.isSome:=by
 cases o with
 | none=>cases u with
  | none=>rfl
  | some _=>exact (show False from r).elim
 | some _=>cases u with
  | none=>exact (show False from r).elim
  | some _=>rfl
theorem KV.val {kvs:List (κ×V)}{vs:List (κ×Value)}(r:KV kvs vs) (k:κ):Zm0 (Zf2 kvs k) (valueAt vs k):=by
 unfold KV at r
 induction r with
 | nil=>exact True.intro
 | @cons p q ps qs h t ih =>
  obtain ⟨h1,h2⟩:=h
  by_cases e:p.1=k
  ·have e':q.1=k:=h1.symm.trans e
   have b:valueAt (q :: qs) k=some q.2:=by simp [valueAt,List.find?_cons,e']
   rw [Zfa e,b];exact h2
  ·have e':¬ q.1=k:=fun z=>e (h1.trans z)
   have b:valueAt (q :: qs) k=valueAt qs k:=by simp [valueAt,List.find?_cons,e']
   rw [Zfb e,b];exact ih
theorem KV.any {kvs:List (κ×V)}{vs:List (κ×Value)}(r:KV kvs vs) (k:κ):(kvs.any fun kv=>decide (kv.1=k))=vs.any fun kv=>decide (kv.1=k):=by
 unfold KV at r
 induction r with
 | nil=>rfl
 | cons h t ih=>rw [List.any_cons,List.any_cons,ih,h.1]
theorem KV.repl {kvs:List (κ×V)}{vs:List (κ×Value)}(r:KV kvs vs) (k:κ) {y:V}{u:Value}(ry:Zc4 y u):
  KV (kvs.map fun kv=>if kv.1=k then (kv.1,y) else kv) (vs.map fun kv=>if kv.1=k then (kv.1,u) else kv):=by
 unfold KV at r ⊢
 induction r with
 | nil=>exact .nil
 | @cons p q ps qs h t ih =>
  rw [List.map_cons,List.map_cons]
  refine .cons ?_ ih
  obtain ⟨h1,h2⟩:=h
  by_cases e:p.1=k
  ·rw [if_pos e,if_pos (h1.symm.trans e)];exact ⟨h1,ry⟩
  ·rw [if_neg e,if_neg (fun z=>e (h1.trans z))];exact ⟨h1,h2⟩
theorem KV.put {kvs:List (κ×V)}{vs:List (κ×Value)}(r:KV kvs vs) (k:κ) {y:V}{u:Value}(ry:Zc4 y u):KV (Zgh kvs k y) (stored vs k u):=by
 unfold Zgh stored
 rw [r.any k]
 by_cases e:(vs.any fun kv=>decide (kv.1=k))=true
 ·rw [if_pos e,if_pos e];exact r.repl k ry
 ·rw [if_neg e,if_neg e];exact Paired.snoc r ⟨rfl,ry⟩
theorem KV.length {kvs:List (κ×V)}{vs:List (κ×Value)}(r:KV kvs vs):kvs.length=vs.length:=Paired.length r
end
theorem Zqf {P:Program}{w:World}{k:Key}{u:Value}(r:Zc4 (kV k) u):(Zca P w).is k u=true:=by
 cases k with
 | inl i=>obtain ⟨t,e⟩:=(show ∃ t,u=Value.int i t from r);subst e;exact Znm P w i t
 | inr x=>obtain ⟨t,e⟩:=(show ∃ t,u=Value.str x t from r);subst e;exact Znl P w x t
theorem Zmm {P:Program}{w:World}:∀ {ks:List Key}{us:List Value},Zcn (ks.map kV) us→ItemsAre (Zca P w) ks us
 | [],_,r=>by rw [List.map_nil] at r;cases r;exact .nil
 | k :: ks,_,r=>by
  rw [List.map_cons] at r
  cases r with
  | cons h t=>exact .cons (Zqf h) (Zmm t)
abbrev KT (H:Hp):List (List Key×V)→List (List Key×Addr×Value)→Prop:=Paired fun p q=>p.1=q.1∧H q.2.1=some (.tup (p.1.map kV))∧Zc4 p.2 q.2.2
theorem KT.val {H:Hp}{kvs:List (List Key×V)}{xs:List (List Key×Addr×Value)}(r:KT H kvs xs) (k:List Key):Zm0 (Zf2 kvs k) ((atKey xs k).map (·.2)):=by
 induction r with
 | nil=>exact True.intro
 | @cons p q ps qs h t ih =>
  obtain ⟨h1,_,h2⟩:=h
  by_cases e:p.1=k
  ·have e':q.1=k:=h1.symm.trans e
   have b:atKey (q :: qs) k=some q.2:=by simp [atKey,List.find?_cons,e']
   rw [Zfa e,b];exact h2
  ·have e':¬ q.1=k:=fun z=>e (h1.trans z)
   have b:atKey (q :: qs) k=atKey qs k:=by simp [atKey,List.find?_cons,e']
   rw [Zfb e,b];exact ih
theorem KT.repl {H:Hp}{kvs:List (List Key×V)}{xs:List (List Key×Addr×Value)}(r:KT H kvs xs) (k:List Key) {y:V}{u:Value}(ry:Zc4 y u):
  KT H (kvs.map fun kv=>if kv.1=k then (kv.1,y) else kv) (xs.map (putAt k u)):=by
 induction r with
 | nil=>exact .nil
 | @cons p q ps qs h t ih =>
  rw [List.map_cons,List.map_cons]
  refine .cons ?_ ih
  obtain ⟨h1,h2,h3⟩:=h
  unfold putAt
  by_cases e:p.1=k
  ·rw [if_pos e,if_pos (h1.symm.trans e)];exact ⟨h1,h2,ry⟩
  ·rw [if_neg e,if_neg (fun z=>e (h1.trans z))];exact ⟨h1,h2,h3⟩
theorem KT.put {H:Hp}{kvs:List (List Key×V)}{xs:List (List Key×Addr×Value)}(r:KT H kvs xs) (k:List Key) {b:Addr}{y:V}{u:Value}(hb:H b=some (.tup (k.map kV))) (ry:Zc4 y u):
  KT H (Zgh kvs k y) (storedH xs k b u):=by
 have e:(kvs.any fun kv=>decide (kv.1=k))=(atKey xs k).isSome:=by
  rw [Zgt,(r.val k).isSome_eq,Option.isSome_map]
 unfold Zgh storedH
 rw [e]
 by_cases q:(atKey xs k).isSome=true
 ·rw [if_pos q,if_pos q];exact r.repl k ry
 ·rw [if_neg q,if_neg q];exact Paired.snoc r ⟨rfl,hb,ry⟩
theorem KT.keeps {H H':Hp}{kvs:List (List Key×V)}{xs:List (List Key×Addr×Value)}(r:KT H kvs xs) (ht:∀ b ys,H b=some (.tup ys)→H' b=some (.tup ys)):KT H' kvs xs :=
 Paired.mapP r fun _ _ z=>⟨z.1,ht _ _ z.2.1,z.2.2⟩
section
variable {P:Program} {w:World} {H:Hp} {h:Heap} {a:Addr}
theorem Zna {u:HO}(ok:HOk P w H h) (e:Rd H a u):Zc5 P w H h a u:=e.ok ok
theorem Zn0 {kvs:List (Key×V)}(ok:HOk P w H h) (e:Rd H a (.dK kvs)):kvs.length≤sizeLine∧(a == sysModules)=false∧∃ vs,KV kvs vs∧h.DictOf (Zca P w) a vs :=
 show Zc5 P w H h a (.dK kvs) from Zna ok e
theorem Z0u {kvs:List (Key×V)}(ok:HOk P w H h) (e:H a=some (.dK kvs)):kvs.length≤sizeLine∧(a == sysModules)=false∧∃ vs,KV kvs vs∧h.DictOf (Zca P w) a vs:=Zn0 ok (.inl e)
theorem Zml {ks:List Key}(ok:HOk P w H h) (e:H a=some (.tup (ks.map kV))):(tupleKind (Zca P w)).is h ks a:=by
 obtain ⟨_,its,r,o,h1,h2,n,h3⟩:=(show Zc5 P w H h a (.tup (ks.map kV)) from ok a _ e)
 exact ⟨o,its.toArray,n,h1,h2,h3,by simpa using Zmm r⟩
theorem Zql {kvs:List (List Key×V)}(ok:HOk P w H h) (e:Rd H a (.dT kvs)):kvs.length≤sizeLine∧(a == sysModules)=false ∧
  ∃ xs,KT H kvs xs∧h.DictOfH (tupleKind (Zca P w)) a xs:=by
 obtain ⟨z,y,xs,r,o,es,ep,h1,h2,h3,h4,h5⟩:=(show Zc5 P w H h a (.dT kvs) from Zna ok e)
 refine ⟨z,y,xs,r,o,es,ep,h1,h2,h3,h4,fun x hx=>?_,h5⟩
 have all:∀ {l:List (List Key×V)} {m:List (List Key×Addr×Value)},KT H l m→∀ x∈m,(tupleKind (Zca P w)).is h x.1 x.2.1:=by
  intro l m q
  induction q with
  | nil=>intro x hx;exact nomatch hx
  | @cons p q ps qs hq t ih =>
   intro x hx
   rcases List.mem_cons.mp hx with e | hx
   ·subst e
    exact Zml ok (by rw [← hq.1];exact hq.2.1)
   ·exact ih x hx
 exact all r x hx
theorem Z2g {kvs:List (List Key×V)}(ok:HOk P w H h) (e:H a=some (.dT kvs)):kvs.length≤sizeLine∧(a == sysModules)=false ∧
  ∃ xs,KT H kvs xs∧h.DictOfH (tupleKind (Zca P w)) a xs:=Zql ok (.inl e)
end
def Zgf (H:Hp) (a:Addr) (y:V) (r:Option V):Prop :=
 (∃ kvs k,Rd H a (.dK kvs)∧y=kV k∧r=Zf2 kvs k)∨∃ kvs k b,Rd H a (.dT kvs)∧y=.ref b∧H b=some (.tup (k.map kV))∧r=Zf2 kvs k
def Zla (H:Hp) (a:Addr) (y v:V) (H':Hp):Prop :=
 (∃ kvs k,H a=some (.dK kvs)∧y=kV k∧kvs.length<sizeLine∧H'=upd H a (.dK (Zgh kvs k v))) ∨
 ∃ kvs k b,H a=some (.dT kvs)∧y=.ref b∧H b=some (.tup (k.map kV))∧kvs.length<sizeLine∧H'=upd H a (.dT (Zgh kvs k v))
theorem Zgf.k {H:Hp}{a:Addr}{kvs:List (Key×V)}{k:Key}(e:H a=some (.dK kvs)):Zgf H a (kV k) (Zf2 kvs k):=.inl ⟨kvs,k,.inl e,rfl,rfl⟩
theorem Zgf.t {H:Hp}{a b:Addr}{kvs:List (List Key×V)}{k:List Key}(e:H a=some (.dT kvs)) (eb:H b=some (.tup (k.map kV))):Zgf H a (.ref b) (Zf2 kvs k):=.inr ⟨kvs,k,b,.inl e,rfl,eb,rfl⟩
theorem Zla.k {H:Hp}{a:Addr}{kvs:List (Key×V)}{k:Key}{v:V}(e:H a=some (.dK kvs)) (hl:kvs.length<sizeLine):Zla H a (kV k) v (upd H a (.dK (Zgh kvs k v))):=.inl ⟨kvs,k,e,rfl,hl,rfl⟩
theorem Zla.t {H:Hp}{a b:Addr}{kvs:List (List Key×V)}{k:List Key}{v:V}(e:H a=some (.dT kvs)) (eb:H b=some (.tup (k.map kV))) (hl:kvs.length<sizeLine):
  Zla H a (.ref b) v (upd H a (.dT (Zgh kvs k v))):=.inr ⟨kvs,k,b,e,rfl,eb,hl,rfl⟩
section
variable {X:Cx} {pins:List (Addr×Obj)} {σ:St} {H:Hp} {s:Shared} {a:Addr} {y v:V} {u r:Value} {o:Option V} {A:Around} {E:Value→Shared→Prop}
theorem Inv.big (I:Inv X pins σ H s):sysModules<s.heap.objs.size:=by
 have h:mainGlobals<s.heap.objs.size:=(I.mod.glob.keeps I.bk).lt
 exact Nat.lt_trans (by decide) h
theorem Zts {Q:Value→Shared→Prop}(hu:A.units + 1<cLine) (I:Inv X pins σ H s) (g:Zgf H a y (some v)) (ry:Zc4 y u) (h:∀ w' s',Inv X pins σ H s'→Zc4 v w'→Q w' s'):
  wpAny (model X.prog X.w) A (getItem (.ref a) u) Q E s:=by
 rcases g with ⟨kvs,k,e,ey,l⟩ | ⟨kvs,k,b,e,ey,eb,l⟩
 ·subst ey
  obtain ⟨z,hd,vs,rel,dd⟩:=Zn0 I.hok e
  obtain ⟨w',hw,rw'⟩:=Zm0.some_of (v:=v) (o:=valueAt vs k) (by rw [l];exact rel.val k)
  exact wpAny_getItem_of (Zqf ry) dd.mapOf hw (h w' _ (I.tok _) rw')
 ·subst ey
  cases (show u=Value.ref b from ry)
  obtain ⟨z,hd,xs,rel,dd⟩:=Zql I.hok e
  obtain ⟨w',hw,rw'⟩:=Zm0.some_of (v:=v) (o:=(atKey xs k).map (·.2)) (by rw [l];exact rel.val k)
  obtain ⟨p,hp,hp2⟩:=Option.map_eq_some_iff.mp hw
  refine wpAny_getItem_heap (tupleKind_room_in1 hu) (Zml I.hok eb) dd hp ?_
  rw [hp2]
  exact h w' _ (I.tok _) rw'
theorem Z47 {Q:Value→Shared→Prop}(hu:A.units + 1<cLine) (I:Inv X pins σ H s) (g:Zgf H a y o) (ry:Zc4 y u) (h:∀ s',Inv X pins σ H s'→Q (.bool o.isSome) s'):
  wpAny (model X.prog X.w) A (compareOp .In u (.ref a)) Q E s:=by
 rcases g with ⟨kvs,k,e,ey,l⟩ | ⟨kvs,k,b,e,ey,eb,l⟩
 ·subst ey
  obtain ⟨z,hd,vs,rel,dd⟩:=Zn0 I.hok e
  refine wpAny_in_of (Zqf ry) hd dd.mapOf ?_
  rw [← (rel.val k).isSome_eq,← l]
  exact h _ (I.tok _)
 ·subst ey
  cases (show u=Value.ref b from ry)
  obtain ⟨z,hd,xs,rel,dd⟩:=Zql I.hok e
  refine wpAny_in_heap (tupleKind_room_in1 hu) (Zml I.hok eb) hd dd ?_
  have q:=(rel.val k).isSome_eq
  rw [Option.isSome_map] at q
  rw [← q,← l]
  exact h _ (I.tok _)
theorem Zyi {Q:Value→Shared→Prop}(hu:A.units + 1<cLine) (I:Inv X pins σ H s) (g:Zgf H a y o) (ry:Zc4 y u) (h:∀ s',Inv X pins σ H s'→Q (.bool (!o.isSome)) s'):
  wpAny (model X.prog X.w) A (compareOp .NotIn u (.ref a)) Q E s:=by
 rcases g with ⟨kvs,k,e,ey,l⟩ | ⟨kvs,k,b,e,ey,eb,l⟩
 ·subst ey
  obtain ⟨z,hd,vs,rel,dd⟩:=Zn0 I.hok e
  refine wpAny_notIn_of (Zqf ry) hd dd.mapOf ?_
  rw [← (rel.val k).isSome_eq,← l]
  exact h _ (I.tok _)
 ·subst ey
  cases (show u=Value.ref b from ry)
  obtain ⟨z,hd,xs,rel,dd⟩:=Zql I.hok e
  refine wpAny_notIn_heap (tupleKind_room_in1 hu) (Zml I.hok eb) hd dd ?_
  have q:=(rel.val k).isSome_eq
  rw [Option.isSome_map] at q
  rw [← q,← l]
  exact h _ (I.tok _)
theorem Zn4 {h':Heap}{t':Nat}{ob:HO}(I:Inv X pins σ H s) (mu:Mut (H a)) (hs:Heap.SameBut a s.heap h') (he:∃ q,h'.get? a=some q) (new:Zc5 X.prog X.w (upd H a ob) h' a ob):
  Inv X pins σ (upd H a ob) { s with heap:=h',toks:=t' } :=
 I.write (x:=a) (e:=a) mu (.inl rfl) (fun b q hb z=>(hs.2 b hb).trans z) he new
theorem Zws {P:Program}{w:World}{H':Hp}{h':Heap}{kvs:List (Key×V)}{vs:List (Key×Value)}(z:kvs.length≤sizeLine) (hd:(a == sysModules)=false) (rel:KV kvs vs) (dd:h'.DictOf (Zca P w) a vs):
  Zc5 P w H' h' a (.dK kvs):=⟨z,hd,vs,rel,dd⟩
theorem Ztr {H':Hp}{Q:Unit→Shared→Prop}(hu:A.units + 1<cLine) (I:Inv X pins σ H s) (g:Zla H a y v H') (ry:Zc4 y u) (rv:Zc4 v r) (h:∀ s',Inv X pins σ H' s'→Q () s'):
  wpAny (model X.prog X.w) A (setItem (.ref a) u r) Q E s:=by
 rcases g with ⟨kvs,k,e,ey,l,eH⟩ | ⟨kvs,k,b,e,ey,eb,l,eH⟩
 ·subst ey eH
  obtain ⟨z,hd,vs,rel,dd⟩:=Z0u I.hok e
  have hz:vs.length≤sizeLine:=by rw [← rel.length];exact z
  have hl:(Zgh kvs k v).length≤sizeLine:=by have:=Zgr kvs k v;omega
  refine wpAny_setItem_pairs (hsz:=hz) (Zqf ry) dd fun h' dd' hs=>h _ ?_
  have he:∃ q,h'.get? a=some q:=let ⟨q,_,_,hq,_⟩:=dd';⟨q,hq⟩
  exact Zn4 I (by rw [e];exact True.intro) hs he (Zws hl hd (rel.put k rv) dd')
 ·subst ey eH
  cases (show u=Value.ref b from ry)
  obtain ⟨z,hd,xs,rel,dd⟩:=Z2g I.hok e
  have hz:xs.length≤sizeLine:=by rw [← Paired.length rel];exact z
  have hl:(Zgh kvs k v).length≤sizeLine:=by have:=Zgr kvs k v;omega
  refine wpAny_setItem_heap (hsz:=hz) (tupleKind_room_in1 hu) (Zml I.hok eb) dd fun h' dd' hs=>h _ ?_
  obtain ⟨q,es,ep,hq,h2,h3,h4,_,h5⟩:=dd'
  refine Zn4 I (by rw [e];exact True.intro) hs ⟨q,hq⟩ ⟨hl,hd,_,(rel.put k eb rv).keeps fun c ys ec=>?_,q,es,ep,hq,h2,h3,h4,h5⟩
  rw [Zac (Zxu ec e (fun z=>nomatch z))]
  exact ec
end
section
variable {X:Cx} {pins:List (Addr×Obj)} {σ:St} {H:Hp} {s:Shared} {a:Addr} {kvs:List (Key×V)} {k:Key} {u:Value} {A:Around} {E:Value→Shared→Prop}
end
def Z3x (i:Expr):Prop:=∀ ov iv,subscripted i false ov iv=operate [ov,iv] (getItem ov iv)
theorem Zw3 {prog:Program}{w:World}{A:Around}{E:Value→Shared→Prop}{s:Shared}{env:Env}{value slice:Expr}{pos:Pos}{T id:String}{Q:Value→Shared→Prop}
  (hl:typeLookup (.type T) "__getitem__"=pure (some (.builtin id))) (hs:Z3x slice)
  (h:wpAny (model prog w) A (eval value env) (fun o s₁=>wpAny (model prog w) A (eval slice env) (fun i s₂=>s₂.TypeIs o T∧wpAny (model prog w) A (getItem o i) Q E s₂) E s₁) E s):
  wpAny (model prog w) A (eval (.Subscript value slice pos) env) Q E s:=by
 refine Subscript_ (wpAny_mono h (fun o s₁ h₁=>wpAny_mono h₁ (fun i s₂ h₂=>?_) fun _ _ x=>x) fun _ _ x=>x)
 obtain ⟨hT,h₂⟩:=h₂
 unfold subscriptTail
 refine wpAny_bind ?_
 rw [getitemInPython_of_ne hT.not_modules]
 refine wpAny_bind (wpAny_specialOf hT hl ?_)
 have fin:wpAny (model prog w) A (subscripted slice false o i) (fun r s₃=>wpAny (model prog w) A (letTemporaryGo value o r>>=fun _=>pure r) Q E s₃) E s₂:=by
  rw [hs o i]
  exact wpAny_operating (wpAny_mono h₂ (fun r s₃ h₃=>wpAny_bind (wpAny_letTemporaryGo (wpAny_pure h₃))) fun _ _ x=>x)
 first
  | exact wpAny_pure (wpAny_bind fin)
  | exact wpAny_bind (wpAny_pure (wpAny_bind fin))
  | exact wpAny_bind fin
theorem Zn1 {X:Cx}{pins:List (Addr×Obj)}{σ:St}{H:Hp}{s:Shared}{a:Addr}{y:V}{o:Option V}(I:Inv X pins σ H s) (g:Zgf H a y o):s.TypeIs (.ref a) "dict":=by
 rcases g with ⟨kvs,k,e,_,_⟩ | ⟨kvs,k,b,e,_,_,_⟩
 ·obtain ⟨_,_,vs,_,dd⟩:=Zn0 I.hok e
  exact dd.typeIs
 ·obtain ⟨_,_,xs,_,dd⟩:=Zql I.hok e
  exact dd.typeIs
def Z1j (td ty:TE):TE:=fun σ H Q=>td σ H fun x H1=>ty σ H1 fun y H2=>∃ a v,x=.ref a∧Zgf H2 a y (some v)∧Q v H2
def Z34 (ty td:TE):TE:=fun σ H Q=>ty σ H fun y H1=>td σ H1 fun x H2=>∃ a o,x=.ref a∧Zgf H2 a y o∧Q (.bl o.isSome) H2
def Zw2 (ty td:TE):TE:=fun σ H Q=>ty σ H fun y H1=>td σ H1 fun x H2=>∃ a o,x=.ref a∧Zgf H2 a y o∧Q (.bl (!o.isSome)) H2
def Z1o (td ty tv:TE):TS:=fun D σ H=>tv σ H fun v H1=>td σ H1 fun x H2=>ty σ H2 fun y H3=>∃ a H4,x=.ref a∧Zla H3 a y v H4∧D.nx σ H4
section
variable {X:Cx} {o i e value:Expr} {pos pos' tpos:Pos} {td ty tv:TE}
theorem Zer (hu:X.A.units + 1<cLine) (ho:PE X o td) (hi:PE X i ty) (hs:Z3x i):PE X (.Subscript o i pos) (Z1j td ty):=by
 intro pins s σ H Q I h
 refine Zw3 PySem.F.slot_dict_getitem.lookup hs (thn (ho pins s σ H _ I h) fun u s1 ⟨x,H1,I1,rx,q1⟩=>thn (hi pins s1 σ H1 _ I1 q1) fun iv s2 ⟨y,H2,I2,ry,a,v,ex,g,q2⟩=>?_)
 subst ex
 obtain rfl:u=Value.ref a:=rx
 exact ⟨Zn1 I2 g,Zts hu I2 g ry fun w' s3 I3 rw'=>⟨v,H2,I3,rw',q2⟩⟩
theorem Zlx (hu:X.A.units + 1<cLine) (hi:PE X i ty) (ho:PE X o td):PC X .In i o (Z34 ty td):=by
 intro pins s σ H Q I h
 refine thn (hi pins s σ H _ I h) fun iv s1 ⟨y,H1,I1,ry,q1⟩=>thn (ho pins s1 σ H1 _ I1 q1) fun u s2 ⟨x,H2,I2,rx,a,ov,ex,g,q2⟩=>?_
 subst ex
 obtain rfl:u=Value.ref a:=rx
 exact Z47 hu I2 g ry fun s3 I3=>⟨.bl ov.isSome,H2,I3,rfl,q2⟩
theorem Zlw (hu:X.A.units + 1<cLine) (hi:PE X i ty) (ho:PE X o td):PC X .NotIn i o (Zw2 ty td):=by
 intro pins s σ H Q I h
 refine thn (hi pins s σ H _ I h) fun iv s1 ⟨y,H1,I1,ry,q1⟩=>thn (ho pins s1 σ H1 _ I1 q1) fun u s2 ⟨x,H2,I2,rx,a,ov,ex,g,q2⟩=>?_
 subst ex
 obtain rfl:u=Value.ref a:=rx
 exact Zyi hu I2 g ry fun s3 I3=>⟨.bl (!ov.isSome),H2,I3,rfl,q2⟩
theorem Zeq (hu:X.A.units + 1<cLine) (ho:PE X o td) (hi:PE X i ty) (hv:PE X value tv) (hs:swapsWith value (some (.Subscript o i pos')) pos.line X.env=pure false):
  PS X (.Assign [.Subscript o i pos'] value pos) (Z1o td ty tv):=by
 intro pins s σ H D I h
 refine wpAny_Assign_Subscript (thn (hv pins s σ H _ I h) fun r s1 ⟨v,H1,I1,rv,q1⟩=>thn (ho pins s1 σ H1 _ I1 q1) fun u s2 ⟨x,H2,I2,rx,q2⟩=>thn (hi pins s2 σ H2 _ I2 q2) fun iv s3 ⟨y,H3,I3,ry,a,H4,ex,g,q3⟩=>?_) hs
 subst ex
 obtain rfl:u=Value.ref a:=rx
 exact Ztr hu I3 g ry rv fun s4 I4=>⟨σ,H4,I4,q3⟩
end
theorem Zpd {P:Program}{w:World}{H:Hp}(h:Heap) (hb:sysModules<h.objs.size):Zc5 P w H (h.push { cls:=.type "dict",data:=.dict #[] }) h.objs.size (.dK []):=
 ⟨Nat.zero_le _,beq_eq_false_iff_ne.mpr (Ne.symm (Nat.ne_of_lt hb)),[],.nil,Heap.DictOf.new h⟩
theorem Zvu {P:Program}{w:World}{H:Hp}(h:Heap) (hb:sysModules<h.objs.size):Zc5 P w H (h.push { cls:=.type "dict",data:=.dict #[] }) h.objs.size (.dT []):=
 ⟨Nat.zero_le _,beq_eq_false_iff_ne.mpr (Ne.symm (Nat.ne_of_lt hb)),[],.nil,_,#[],0,Heap.get?_push_size _ rfl,⟨rfl,rfl,rfl⟩,rfl,rfl,List.nodup_nil⟩
def Zy7:TE:=fun _ H Q=>∀ p,H p=none→Q (.ref p) (upd H p (.dK []))
def Zy6:TE:=fun _ H Q=>∀ p,H p=none→Q (.ref p) (upd H p (.dT []))
section
variable {X:Cx} {pos:Pos}
theorem Zf5:PE X (.Dict [] [] pos) Zy7:=fun pins s σ H Q I h =>
 wpAny_Dict_empty ⟨.ref s.heap.objs.size,_,I.laid (a:=s.heap.objs.size) (o:=.dK []) (t':=s.toks) (fun _ _ q=>Heap.get?_push_of_some _ q) (Nat.le_refl _) (Zpd s.heap I.big),rfl,h _ (I.hok.fresh (Nat.le_refl _))⟩
theorem Zh5:PE X (.Dict [] [] pos) Zy6:=fun pins s σ H Q I h =>
 wpAny_Dict_empty ⟨.ref s.heap.objs.size,_,I.laid (a:=s.heap.objs.size) (o:=.dT []) (t':=s.toks) (fun _ _ q=>Heap.get?_push_of_some _ q) (Nat.le_refl _) (Zvu s.heap I.big),rfl,h _ (I.hok.fresh (Nat.le_refl _))⟩
end
def Zra:List (TE×TE)→St→Hp→(List (V×V)→Hp→Prop)→Prop
 | [],_,H,Q=>Q [] H
 | (tk,tv):: r,σ,H,Q=>tk σ H fun x H1=>tv σ H1 fun y H2=>Zra r σ H2 fun ps H3=>Q ((x,y):: ps) H3
abbrev VV:List (V×V)→List (Value×Value)→Prop:=Paired fun p q=>Zc4 p.1 q.1∧Zc4 p.2 q.2
def PPs (X:Cx) (pos:Pos) (keys:List (Option Expr)) (values:List Expr) (trs:List (TE×TE)):Prop :=
 ∀ (pins:List (Addr×Obj)) (s:Shared) (σ:St) (H:Hp) (Q:List (V×V)→Hp→Prop),Inv X pins σ H s→Zra trs σ H Q →
  wpAny (model X.prog X.w) X.A (evalPairs (pairTrees keys values X.env pos)) (fun vs s'=>∃ ps H',Inv X pins σ H' s'∧VV ps vs∧Q ps H') X.xe s
theorem Zxf {X:Cx}{pos:Pos}:PPs X pos [] [] []:=fun pins s σ H Q I h=>pairTrees_nil_walk ⟨[],H,I,.nil,h⟩
theorem Zuo {X:Cx}{pos:Pos}{k v:Expr}{ks:List (Option Expr)}{vs:List Expr}{tk tv:TE}{trs:List (TE×TE)}(hk:PE X k tk) (hv:PE X v tv) (hr:PPs X pos ks vs trs):
  PPs X pos (some k :: ks) (v :: vs) ((tk,tv):: trs):=fun pins s σ H Q I h =>
 pairTrees_cons_walk (thn (hk pins s σ H _ I h) fun u s1 ⟨x,H1,I1,rx,q1⟩=>thn (hv pins s1 σ H1 _ I1 q1) fun w2 s2 ⟨y,H2,I2,ry,q2⟩ =>
  thn (hr pins s2 σ H2 _ I2 q2) fun ws s3 ⟨ps,H3,I3,rel,q3⟩=>⟨(x,y):: ps,H3,I3,.cons ⟨rx,ry⟩ rel,q3⟩)
def Zmb (kvs more:List (Key×V)):List (Key×V):=more.foldl (fun acc kv=>Zgh acc kv.1 kv.2) kvs
theorem KV.merge:∀ {more:List (Key×V)}{rs:List (Key×Value)}{kvs:List (Key×V)}{vs:List (Key×Value)},KV more rs→KV kvs vs→KV (Zmb kvs more) (merged vs rs):=by
 intro more rs kvs vs r
 unfold KV at r
 induction r generalizing kvs vs with
 | nil=>intro q;exact q
 | @cons p q ps qs h t ih =>
  intro r0
  have e:KV (Zgh kvs p.1 p.2) (stored vs q.1 q.2):=by
   have:=r0.put p.1 h.2
   rw [← h.1];exact this
  exact ih e
theorem Zg4:∀ (more kvs:List (Key×V)),(Zmb kvs more).length≤kvs.length + more.length
 | [],kvs=>by show kvs.length≤kvs.length + 0;omega
 | p :: r,kvs=>by
  have h1:=Zg4 r (Zgh kvs p.1 p.2)
  have h2:=Zgr kvs p.1 p.2
  show (Zmb (Zgh kvs p.1 p.2) r).length≤_
  rw [List.length_cons];omega
theorem Zj4 {P:Program}{w:World}:∀ {kvs:List (Key×V)}{ws:List (Value×Value)},VV (kvs.map fun kv=>(kV kv.1,kv.2)) ws→∃ rs,Carries (Zca P w) ws rs∧KV kvs rs
 | [],_,r=>by rw [List.map_nil] at r;cases r;exact ⟨[],True.intro,.nil⟩
 | p :: kvs,_,r=>by
  rw [List.map_cons] at r
  cases r with
  | @cons a b as bs h t =>
   obtain ⟨rs,c,q⟩:=Zj4 (P:=P) (w:=w) t
   obtain ⟨b1,b2⟩:=b
   exact ⟨(p.1,b2):: rs,⟨Zqf h.1,rfl,c⟩,.cons ⟨rfl,h.2⟩ q⟩
def Z1i (trs:List (TE×TE)):TE:=fun σ H Q=>∀ p,H p=none→Zra trs σ (upd H p (.dK [])) fun ps H2=>H2 p=some (.dK [])∧∃ kvs:List (Key×V),ps=kvs.map (fun kv=>(kV kv.1,kv.2))∧kvs.length≤15∧Q (.ref p) (upd H2 p (.dK (Zmb [] kvs)))
theorem Zxj {X:Cx}{pos:Pos}{keys:List (Option Expr)}{values:List Expr}{trs:List (TE×TE)}(h:PPs X pos keys values trs) (hall:keys.all (·.isSome)=true) (hl:keys.length=values.length) (h0:keys≠[])
  (h15:keys.length≤15):PE X (.Dict keys values pos) (Z1i trs):=by
 intro pins s σ H Q I q
 have hn:=I.hok.fresh (Nat.le_refl s.heap.objs.size)
 have I1:=I.laid (a:=s.heap.objs.size) (o:=.dK []) (h':=s.heap.push { cls:=.type "dict",data:=.dict #[] }) (t':=s.toks) (fun _ _ q=>Heap.get?_push_of_some _ q) (Nat.le_refl _) (Zpd s.heap I.big)
 refine wpAny_Dict_walk (knd:=Zca X.prog X.w) hall hl h0 h15 (thn (h pins _ σ _ _ I1 (q _ hn)) fun ws s2 ⟨ps,H2,I2,rel,e,kvs,ep,lk,q2⟩=>?_)
 subst ep
 obtain ⟨rs,c,rk⟩:=Zj4 (P:=X.prog) (w:=X.w) rel
 obtain ⟨z,hd,vs0,r0,dd⟩:=Z0u I2.hok e
 cases r0
 refine ⟨rs,c,dd,fun h' dd' hs=>⟨.ref s.heap.objs.size,_,?_,rfl,q2⟩⟩
 have hz:(Zmb [] kvs).length≤sizeLine:=by
  have h1:=Zg4 kvs []
  rw [List.length_nil] at h1
  rw [sizeLine_eq];omega
 have he:∃ q,h'.get? s.heap.objs.size=some q:=let ⟨q,_,_,hq,_⟩:=dd';⟨q,hq⟩
 exact Zn4 I2 (by rw [e];exact True.intro) hs he (Zws hz hd (rk.merge .nil) dd')
structure M1 (X:Cx) (o:Expr) (m:Str) (apos:Pos) (e:Expr) (cpos:Pos):Prop where
 base:attributeBase o m X.env (eval o X.env)=eval o X.env
 few:((backTo cpos (starEach [e] X.env)).all (fun x=>!x.1)&&(backToKw cpos (keywordEach [] X.env)).all (fun x=>x.1.isSome)
  && decide (([e]:List Expr).length + ([]:List Keyword).length + (if ([]:List Keyword).isEmpty then 0 else 1)<30))=true
 line:(apos.endLine == cpos.line)=true
 trees:backTo cpos (starEach [e] X.env)=[(false,eval e X.env)]
structure M2 (X:Cx) (o:Expr) (m:Str) (apos:Pos) (e f:Expr) (cpos:Pos):Prop where
 base:attributeBase o m X.env (eval o X.env)=eval o X.env
 few:((backTo cpos (starEach [e,f] X.env)).all (fun x=>!x.1)&&(backToKw cpos (keywordEach [] X.env)).all (fun x=>x.1.isSome)
  && decide (([e,f]:List Expr).length + ([]:List Keyword).length + (if ([]:List Keyword).isEmpty then 0 else 1)<30))=true
 line:(apos.endLine == cpos.line)=true
 trees:backTo cpos (starEach [e,f] X.env)=[(false,eval e X.env),(false,eval f X.env)]
def IsD (H:Hp) (a:Addr):Prop:=(∃ kvs,Rd H a (.dK kvs))∨∃ kvs,Rd H a (.dT kvs)
theorem Zwo {X:Cx}{pins:List (Addr×Obj)}{σ:St}{H:Hp}{s:Shared}{a:Addr}(I:Inv X pins σ H s) (d:IsD H a):
  s.TypeIs (.ref a) "dict"∧(∀ b,Value.ref a=.ref b→∃ ob,s.heap.get? b=some ob∧ob.dict=none)∧(a == sysModules)=false:=by
 rcases d with ⟨kvs,e⟩ | ⟨kvs,e⟩
 ·obtain ⟨_,hd,vs,_,dd⟩:=Zn0 I.hok e
  refine ⟨dd.typeIs,fun b q=>?_,hd⟩
  cases q
  obtain ⟨ob,_,_,h1,h2,_⟩:=dd
  exact ⟨ob,h1,h2.2.1⟩
 ·obtain ⟨_,hd,xs,_,dd⟩:=Zql I.hok e
  refine ⟨dd.typeIs,fun b q=>?_,hd⟩
  cases q
  obtain ⟨ob,_,_,h1,h2,_⟩:=dd
  exact ⟨ob,h1,h2.2.1⟩
section
variable {X:Cx} {pins:List (Addr×Obj)} {σ:St} {H:Hp} {s:Shared} {a:Addr} {y d:V} {u r:Value} {o:Option V} {A:Around} {E:Value→Shared→Prop}
end
section
variable {X:Cx} {o e f:Expr} {apos cpos:Pos} {td ty tx:TE}
end
section
variable {X:Cx} {pins:List (Addr×Obj)} {σ:St} {H:Hp} {s:Shared} {a:Addr} {kvs:List (Key×V)} {A:Around} {E:Value→Shared→Prop}
end
section
variable {X:Cx} {pins:List (Addr×Obj)} {σ:St} {H:Hp} {s:Shared} {a:Addr} {y:V} {u:Value} {A:Around} {E:Value→Shared→Prop}
end
end L2
namespace Att
open PySem PySem.W PySem.Calls PyProof.Rows
theorem Zi2 {P:Params}{h:Heap}:∀ (ns:List Int) (vs:List Value),WellAll P h vs (ns.map WData.int)→IntsAre vs ns:=by
 intro ns
 induction ns with
 | nil =>
  intro vs w
  rw [List.map_nil] at w
  cases w
  exact .nil
 | cons n ns ih =>
  intro vs w
  rw [List.map_cons] at w
  cases w with
  | cons a b =>
   cases a
   exact .cons _ _ (ih _ b)
theorem Zru {l:OpenLaw}{n:Nat}(hn:l.most=some n) {P:Params}{h:Heap}{args:List WData}{vals:List Value}
  (hpre:l.row.toRowW.claim.pre args=true) (hwl:WellAll P h vals args):
  ∃ a vs ns,vals=[Value.ref a]∧args=[WData.list (ns.map WData.int)]∧h.get? a=some { cls:=.type "list",data:=.seq vs.toArray }∧IntsAre vs ns∧ns.length≤n:=by
 have hsh:WShape.hasAll [] args [.list .int]=true:=(pre_splitW hpre).1
 have hc:l.pre.holds [] { args:=args }=true:=(pre_splitW hpre).2
 obtain ⟨d,r,rfl,h1,h2⟩:=hasAllW_cons hsh
 obtain rfl:=hasAllW_nil h2
 obtain ⟨xs,rfl,h3⟩:=hasW_list h1
 obtain ⟨ns,rfl⟩:=items_int h3
 have hlen:ns.length≤n:=by
  unfold OpenLaw.pre at hc
  have h4:(WTm.not (.lt (.lit (.int (n:Int))) (.len (.arg 0)))).holds [] { args:=[.list (ns.map .int)] }=true:=by
   have h4:=(holds_andW hc).1
   rw [hn] at h4
   exact h4
  have h5:=condW_of h4 (w_not (w_lt w_lit (w_len_list (w_arg rfl))))
  rw [List.length_map] at h5
  refine Nat.le_of_not_lt fun q=>?_
  have q':(n:Int)<((ns.length:Nat):Int):=by omega
  first
   | (rw [decide_eq_true q'] at h5;exact absurd h5 (by decide))
   | (simp at h5;omega)
 cases hwl with
 | cons w1 w2 =>
  cases w2
  cases w1 with
  | list ho hall=>exact ⟨_,_,ns,rfl,rfl,ho,Zi2 ns _ hall,hlen⟩
theorem Zr7 (l:OpenLaw) (args:List WData):l.row.toRowW.claim.post args (.bool true) args=true :=
 postW_of (r:=l.row.toRowW) (X:=(true == true))
  (show WShape.has [] (.bool true) .bool=true by first | rfl | decide | simp [WShape.has,WShape.arms,WShape.armsAll])
  (show (WTm.eq .res (.lit (.bool true))).value [] { args:=args,res:=some (.bool true),after:=args }=some (.bool (true == true)) from w_eq_bool (w_res rfl) w_lit) rfl
theorem attach_call {l:OpenLaw}{n:Nat}{q:Program}{loose:List Str}{XP:(Str→Option Value)→Heap→Prop}{YP:World→Heap→Prop}{d:DefRec}
  (hn:l.most=some n) (hdf:d.params.defaults=[])
  (call:∀ (w:World) (s₀ s₁:Shared) (mg mb:Str→Option Value) (fa:Addr) (o:Obj) (pm cd doc:Value) (a:Addr) (vs:List Value) (ns:List Int),
   Ground q loose [] XP w s₀ mg mb s₁.heap→YP w s₁.heap →
   s₁.heap.get? fa=some o→o.data=.func (docDef d.name d.params d.body d.scope pm cd doc)→s₁.heap.CodeRec cd d.name→mg d.name=some (.ref fa) →
   s₁.heap.get? a=some { cls:=.type "list",data:=.seq vs.toArray }→IntsAre vs ns→ns.length≤n→s₁.gens=#[] →
   codeAny (model l.prog w) callerA (.call (.ref fa) ⟨[.ref a],[]⟩) (fun r s'=>r=.ok (.ret (.bool true))∧OldK s₁.heap s'.heap∧s'.os=s₁.os∧AllBare s'.gens) s₁):
  WalkO q loose XP YP l.row.toRowW d [] (fun f vs=>PySem.call f vs):=by
 intro w s₀ s₁ mg mb G Y fa o pm cd doc dV kV ho hd hcd hD hmg hg args vals as hpre hlay hrd hwl hlo
 obtain rfl:dV=.none:=Dflts.none hD hdf
 obtain rfl:kV=.none:=Dflts.noKw hD
 obtain ⟨a,vs,ns,rfl,rfl,hobj,hints,hlen⟩:=Zru hn hpre hwl
 refine enter_call (codeAny_mono (call w s₀ s₁ mg mb fa o pm cd doc a vs ns G Y ho (fd_plain hd) hcd hmg hobj hints hlen hg) fun r s' hq=>?_)
 obtain ⟨rfl,h2,h3,h4⟩:=hq
 exact ⟨.inl ⟨.bool true,.bool true,[],rfl,fun _=>rfl,.bool true,Zr7 l _,fun _=>⟨List.Pairwise.nil,fun _ hm=>(nomatch hm)⟩⟩,h2,h3,h4⟩
section
variable {prog:Program} {w:World} {A:Around} {E:Value→Shared→Prop} {s:Shared} {K:Frag}
end
end Att
namespace L2
open PySem PySem.Spec PyProof.Rows
theorem Zlc:∀ {vs:List Value}{ns:List Int},IntsAre vs ns→Zcn (ns.map V.int) vs
 | _,_,.nil=>.nil
 | _,_,.cons n t h=>.cons ⟨t,rfl⟩ (Zlc h)
def Z2o (H:Hp):Prop:=∀ b,H b=none∨∃ o xs,H b=some (.frz o (.lst xs))
theorem Zvf {P:Program}{w:World}{K:PySem.W.Frag}{mg mb:Str→Option Value}{CX:CXT}{k:Nat}{fa a:Addr}{fd:FuncData}{x:Str}{sp:Sp}{s₁:Shared}{vs:List Value}{ns:List Int}
  (KX:K.In s₁.heap) (hns:s₁.heap.Ns mainGlobals mg) (hb:s₁.heap.Ns builtinsNs mb) (hbb:∀ x:Str,x≠"__name__"→mb x=bootBuiltins x) (hlim:s₁.heap.NoLimit) (hg:s₁.gens=#[])
  (ha:s₁.heap.get? a=some { cls:=.type "list",data:=.seq vs.toArray }) (hi:IntsAre vs ns) (hl:ns.length≤sizeLine) (hr:Zec k callerA)
  (F:∀ base:Heap,K.In base→base.Ns mainGlobals mg→Za3 P w K mg base CX k fa fd [x] sp) (hbind:∀ (s:Shared) (u:Value),BindsTo s fd ⟨[u],[]⟩ [(x,u)])
  (hsp:∀ H:Hp,Z2o H→SqL K H a (ns.map V.int)→sp [.ref a] H (fun v _=>v=.bl true) fun _ _ _=>False)
  (hCX:∀ H e s',CX [] H s₁ (fun _ _ _=>False) e s'→False):
  codeAny (model P w) callerA (.call (.ref fa) ⟨[.ref a],[]⟩) (fun r s'=>r=.ok (.ret (.bool true))∧OldK s₁.heap s'.heap∧s'.os=s₁.os∧AllBare s'.gens) s₁:=by
 have rv:=Zlc hi
 have lenV:=hi.length
 have core:∀ H:Hp,Z2o H→SqL K H a (ns.map V.int)→HOk P w H s₁.heap→(∀ b,H b≠none→b=a)→(H a≠none→K.lookup a=none) →
   codeAny (model P w) callerA (.call (.ref fa) ⟨[.ref a],[]⟩) (fun r s'=>r=.ok (.ret (.bool true))∧OldK s₁.heap s'.heap∧s'.os=s₁.os∧AllBare s'.gens) s₁:=by
  intro H hO hS hok hA hK
  have base_of:∀ {b:Addr} {o:Obj},s₁.heap.get? b=some o→H b=none→(Zvm s₁.heap H).get? b=some o:=fun e n=>Zvl e n
  have noA:∀ {b:Addr} {o:Obj} {es:Array DictEntry} {ep:Nat},s₁.heap.get? b=some o→o.data=.dict es ep→H b=none:=fun {b o es ep} e d=>by
   cases q:H b with
   | none=>rfl
   | some u =>
    have e':b=a:=hA b (by rw [q];simp)
    subst e'
    rw [ha] at e;cases e
    have d':Data.seq vs.toArray _=Data.dict es ep:=d
    cases d'
  have nsK:∀ {b:Addr} {m:Str→Option Value},s₁.heap.Ns b m→(Zvm s₁.heap H).Ns b m:=fun {b m} ⟨o,es,ep,e,d,r⟩=>⟨o,es,ep,base_of e (noA e d),d,r⟩
  have hKb:K.In (Zvm s₁.heap H):=fun b o e=>base_of (KX b o e) (by
   cases q:H b with
   | none=>rfl
   | some u =>
    have e':b=a:=hA b (by rw [q];simp)
    subst e'
    rw [hK (by rw [q];simp)] at e;cases e)
  have hM:Mod K mg (Zvm s₁.heap H):=⟨hKb,nsK hns,⟨mb,nsK hb,hbb⟩,let ⟨mc,h1,h2⟩:=hlim;⟨mc,nsK h1,h2⟩⟩
  have e0:Env0 P w K mg (Zvm s₁.heap H) callerA [] s₁ H:=⟨rfl,hM,fun b o e=>Zxs e,Nat.le_of_eq (Ztc _ _),trivial,fun b hb=>absurd (show b∈([]:List Addr) from hb) (by simp),hok,.of_eq hg⟩
  refine codeAny_mono ((F _ hKb (nsK hns)).run callerA [] s₁ H ⟨[.ref a],[]⟩ [.ref a] [.ref a] _ _ hr e0 (hbind s₁ (.ref a)) (.cons rfl .nil) (hsp H hO hS)) fun r s' h=>?_
  cases r with
  | error e=>exact (hCX H e s' h).elim
  | ok fl =>
   cases fl with
   | next=>exact False.elim h
   | brk=>exact False.elim h
   | cont=>exact False.elim h
   | ret u =>
    obtain ⟨v,H',os,bare,un,hok',r',q⟩:=h
    have q':v=.bl true:=q
    subst q'
    obtain rfl:u=Value.bool true:=r'
    refine ⟨rfl,OldK.of_keep fun b o e=>?_,os,bare⟩
    cases q:H b with
    | none=>exact un.keep b o e q (by intro z;exact absurd (show b∈([]:List Addr) from z) (by simp)) (by simp)
    | some u =>
     rcases hO b with z | ⟨ob,xs,z⟩
     ·rw [q] at z;cases z
     ·have z2:=un.frzs b ob _ z
      obtain ⟨e1,_⟩:=hok b _ z
      obtain ⟨e2,_⟩:=hok' b _ z2
      rw [e] at e1;cases e1
      exact e2
 cases hk:K.lookup a with
 | some o =>
  have e:=KX a o hk
  rw [ha] at e
  cases e
  refine core (fun _=>none) (fun _=>.inl rfl) (.inr ⟨_,vs.toArray,_,hk,rfl,rfl,rfl,by rw [List.size_toArray,lenV];exact hl,by simpa using rv⟩) (fun b u z=>by have z':(none:Option HO)=some u:=z;cases z') (fun b z=>absurd rfl z) fun z=>absurd rfl z
 | none =>
  refine core (fun b=>if b=a then some (.frz { cls:=.type "list",data:=.seq vs.toArray } (.lst (ns.map V.int))) else none) (fun b=>?_) (.inl (.inr ⟨{ cls:=.type "list",data:=.seq vs.toArray },if_pos rfl⟩)) (fun b u z=>?_) (fun b z=>?_) fun _=>hk
  ·by_cases hb:b=a
   ·exact .inr ⟨_,_,if_pos hb⟩
   ·exact .inl (if_neg hb)
  ·by_cases hb:b=a
   ·have z':=(if_pos hb).symm.trans z
    cases z'
    subst hb
    exact ⟨ha,by rw [List.length_map];exact hl,vs,_,rv,ha⟩
   ·have z':=(if_neg hb).symm.trans z
    cases z'
  ·by_cases hb:b=a
   ·exact hb
   ·exact absurd (if_neg hb) z
end L2
namespace L2
open PySem PySem.Spec PyProof.Rows
theorem walk_of {l:PySem.W.OpenLaw}{n k:Nat}{q:Program}{loose:List Str}{XP:(Str→Option Value)→Heap→Prop}{YP:World→Heap→Prop}{d:DefRec}{K:Params→PySem.W.Frag}{CX:World→CXT}{sp:World→Sp}{x:Str}
  (hn:l.most=some n) (hn2:n≤sizeLine) (hdf:d.params.defaults=[]) (hr:Zec k callerA)
  (hY:∀ (w:World) (h:Heap),YP w h→(K w.params).In h)
  (F:∀ (w:World) (mg:Str→Option Value) (fa:Addr) (h:Heap),(K w.params).In h→h.Ns mainGlobals mg→mg d.name=some (.ref fa) →
   ∃ fd:FuncData,(∀ (s:Shared) (u:Value),BindsTo s fd ⟨[u],[]⟩ [(x,u)]) ∧
    ∀ base:Heap,(K w.params).In base→base.Ns mainGlobals mg→Za3 l.prog w (K w.params) mg base (CX w) k fa fd [x] (sp w))
  (hsp:∀ (w:World) (H:Hp) (a:Addr) (ns:List Int),ns.length≤n→Z2o H→SqL (K w.params) H a (ns.map V.int)→sp w [.ref a] H (fun v _=>v=.bl true) fun _ _ _=>False)
  (hCX:∀ (w:World) (H:Hp) (s:Shared) (e:Value) (s':Shared),CX w [] H s (fun _ _ _=>False) e s'→False):
  PySem.W.WalkO q loose XP YP l.row.toRowW d [] (fun f vs=>PySem.call f vs):=by
 refine Att.attach_call hn hdf fun w s₀ s₁ mg mb fa o pm cd doc a vs ns G Y ho hd hcd hmg hobj hints hlen hg=>?_
 have KX:=hY w _ Y
 obtain ⟨fd,hb,hF⟩:=F w mg fa _ KX G.T.g hmg
 exact Zvf KX G.T.g G.T.b G.T.builtins G.T.nolimit hg hobj hints (Nat.le_trans hlen hn2) hr hF hb (fun H hO hS=>hsp w H a ns hlen hO hS) fun H e s'=>hCX w H s₁ e s'
end L2
namespace L2
open PySem PySem.Spec PyProof.Rows
def Zes (s:Stmt) (j:Nat):Stmt:=match s with
 | .ClassDef _ _ _ body _ _ _ _ _ _ _=>body.getD j (.Pass ⟨0,0,0,0⟩)
 | _=>.Pass ⟨0,0,0,0⟩
def Zao (s:Stmt):Arguments:=match s with
 | .FunctionDef _ a _ _ _ _ _ _ _ _=>a
 | _=>{ posonlyargs:=[],args:=[],vararg:=none,kwonlyargs:=[],kw_defaults:=[],kwarg:=none,defaults:=[] }
def Zai (s:Stmt):List Stmt:=match s with
 | .FunctionDef _ _ b _ _ _ _ _ _ _=>b
 | _=>[]
def Zab (s:Stmt):Scope:=match s with
 | .FunctionDef _ _ _ _ _ _ sc _ _ _=>sc
 | _=>{ kind:=.function,names:=[],isGenerator:=false,isCoroutine:=false }
abbrev CX0:CXT:=fun _ _ _ _ _ _=>False
abbrev E0:XK:=fun _ _ _=>False
theorem Ze1 {X:Cx}:Zi9 CX0 X E0:=fun _ _ _ _ _ _ _ h=>h.elim
structure Fun (K:PySem.W.Frag) (x qual:Str) (st:Stmt) (f:Addr) (fd:FuncData):Prop where
 ex:∃ (oc:Value) (od:Option Addr) (kV doc pm:Value) (an:Option Addr) (cdv ct:Value) (osl:Array (Option Value)),
  fd=PySem.W.fnOf x qual (Zao st) (Zai st) (Zab st) .none kV doc pm an cdv ct∧K.lookup f=some ⟨oc,od,.func fd,osl⟩∧PySem.W.codeIn K cdv qual=true
 kp:PySem.W.keepIn K (.ref f)=true
section
variable {P:Program} {w:World} {K:PySem.W.Frag} {mg:Str→Option Value} {base:Heap}
theorem Fun.ok {x qual:Str}{st:Stmt}{f:Addr}{fd:FuncData}{N ps:List Str}{k:Nat}{sp:Sp}(F:Fun K x qual st f fd) (S:Zap N ps (Zab st)) (len:∀ vs H Q E,sp vs H Q E→vs.length=ps.length)
  (hbody:∀ (cdv:Value) (A:Around) (outer:List Env) (s:Shared) (H:Hp) (vs:List V) (Q:VK) (E:XK),Zec k (A.deeper (envOfC qual (Zab st) s.heap.objs.size f cdv))→sp vs H Q E →
   ∃ t,PSs (Zyu CX0 P w K mg base N qual (Zab st) f cdv A outer s H E).nox (Zai st) t∧t { nx:=fun _ H'=>Q .non H',rt:=Q } (start N vs) H):Za3 P w K mg base CX0 (k + 1) f fd ps sp:=by
 obtain ⟨oc,od,kV,doc,pm,an,cdv,ct,osl,rfl,lk,hcd⟩:=F.ex
 refine Z2d lk hcd S len fun A outer s H vs Q E hr hsp=>?_
 obtain ⟨t,h,q⟩:=hbody cdv A outer s H vs Q E hr hsp
 exact ⟨t,h.nox,q⟩
theorem Fun.binds {x qual:Str}{st:Stmt}{f:Addr}{fd:FuncData}{ps:List Str}(F:Fun K x qual st f fd)
  (h:∀ (kV doc pm:Value) (an:Option Addr) (cdv ct:Value) (us:List Value),us.length=ps.length→bindArgs (PySem.W.fnOf x qual (Zao st) (Zai st) (Zab st) .none kV doc pm an cdv ct) ⟨us,[]⟩=pure (ps.zip us)):Zhm K fd ps []:=by
 obtain ⟨oc,od,kV,doc,pm,an,cdv,ct,osl,rfl,lk,hcd⟩:=F.ex
 exact .all (h kV doc pm an cdv ct)
theorem Zaw {x qual:Str}{st:Stmt}{f:Addr}{oc:Value}{od an:Option Addr}{osl:Array (Option Value)}{kV doc pm cdv ct:Value}(l:K.lookup f=some ⟨oc,od,.func (PySem.W.fnOf x qual (Zao st) (Zai st) (Zab st) .none kV doc pm an cdv ct),osl⟩)
  (c:PySem.W.codeIn K cdv qual=true) (k:PySem.W.keepIn K (.ref f)=true):Fun K x qual st f (PySem.W.fnOf x qual (Zao st) (Zai st) (Zab st) .none kV doc pm an cdv ct):=⟨⟨oc,od,kV,doc,pm,an,cdv,ct,osl,rfl,l,c⟩,k⟩
end
theorem Zfw {A:Around}{k:Nat}(hr:Zec k A):A.units + 1<cLine:=Nat.lt_of_le_of_lt (Nat.add_le_add_left (by decide:1≤64) _) hr.units
section
variable {X:Cx}
theorem pv (i:Nat) {x:Str}{pos:Pos}(hN:X.N[i]?=some x:=by rfl) (hv:Vis X.env.scope x:=by first | exact Or.inl rfl | exact Or.inr (Or.inl rfl) | exact Or.inr (Or.inr rfl)) (hd:(x == ("__debug__":Str))=false:=by decide)
  (hcd:(x == ("__classdict__":Str))=false:=by decide):PE X (.Name x pos) (Zog i):=Zzu hN hv hd hcd
end
theorem Zht {A B:Prop}(h:B):if false=true then A else B:=by
 rw [if_neg Bool.false_ne_true]
 exact h
theorem Zqt {A B:Prop}(h:A):if true=true then A else B:=by
 rw [if_pos rfl]
 exact h
theorem Zdu {c A B:Prop} [Decidable c] (h1:c→A) (h2:¬ c→B):if c then A else B:=by
 by_cases h:c
 ·rw [if_pos h]
  exact h1 h
 ·rw [if_neg h]
  exact h2 h
def Zal (H H':Hp):Prop:=∀ b o,H b=some o→H' b=some o
theorem Zal.refl (H:Hp):Zal H H:=fun _ _ h=>h
theorem Zal.trans {H H1 H2:Hp}(a:Zal H H1) (b:Zal H1 H2):Zal H H2:=fun c o h=>b c o (a c o h)
theorem Zal.free {H H':Hp}(e:Zal H H') {l:Addr}(h:H' l=Option.none):H l=Option.none:=by
 cases q:H l with
 | none=>rfl
 | some o =>
  rw [e l o q] at h
  cases h
theorem Zal.seq {K:PySem.W.Frag}{H H':Hp}{a:Addr}{xs:List V}(e:Zal H H') (h:SqL K H a xs):SqL K H' a xs:=by
 rcases h with (h | ⟨o,h⟩) | h
 ·exact .inl (.inl (e _ _ h))
 ·exact .inl (.inr ⟨o,e _ _ h⟩)
 ·exact .inr h
end L2
namespace L2
open PySem PySem.Spec PyProof.Rows
section
variable {X:Cx}
end
section
variable {κ:Type} [DecidableEq κ]
theorem Zua {kvs:List (κ×V)}{k:κ}(h:Zf2 kvs k=none):¬ k∈kvs.map (·.1):=by
 intro m
 obtain ⟨p,hp,e⟩:=List.mem_map.mp m
 have q:(kvs.any fun kv=>decide (kv.1=k))=true:=List.any_eq_true.mpr ⟨p,hp,decide_eq_true e⟩
 rw [Zgt,h] at q
 exact absurd q (by simp)
theorem Zq3 {kvs:List (κ×V)}{k:κ}{v:V}(h:Zf2 kvs k=some v):k∈kvs.map (·.1):=by
 have q:(kvs.any fun kv=>decide (kv.1=k))=true:=by
  rw [Zgt,h]
  all_goals rfl
 obtain ⟨p,hp,e⟩:=List.any_eq_true.mp q
 exact List.mem_map.mpr ⟨p,hp,of_decide_eq_true e⟩
end
end L2
set_option maxHeartbeats 4000000
namespace HT
open PySem PyProof.Rows
open PySem.SeqAt
open PySem.AutoSeq1 (wpAny_loadPart')
open PySem.MeetsSeq PySem.MeetsSeq2 PySem.MeetsSeq3
section
variable {prog:Program} {w:World} {A:Around} {E:Value→Shared→Prop} {s:Shared}
end
end HT
namespace L2
open PySem PySem.Spec PyProof.Rows
structure Zqr (J:It) (xs:List V) (Ok:Hp→Prop):Prop where
 go:∀ (i:Nat) (x:V) (H:Hp),Ok H→xs[i]?=some x→J.go i H
 yld:∀ (i:Nat) (x:V) (H:Hp) (y:V) (H':Hp),Ok H→xs[i]?=some x→J.yld i H y H'→y=x∧H'=H
 stop:∀ (H:Hp),Ok H→J.stop xs.length H
theorem Zav {K:PySem.W.Frag}{a:Addr}{xs:List V}:Zqr (Itl K a) xs (fun H=>SqL K H a xs) where
 go:=fun i x H ok hx=>⟨xs,x,ok,hx⟩
 yld:=fun i x H y H' ok hx h=>by
  obtain ⟨e,h⟩:=h
  have q:=h xs ok
  rw [hx] at q
  exact ⟨(Option.some.inj q).symm,e⟩
 stop:=fun H ok=>⟨xs,ok,Nat.le_refl _⟩
theorem Zfc {K:PySem.W.Frag}{a:Addr}{xs:List V}:Zqr (Itt K a) xs (fun H=>SqT K H a xs) where
 go:=fun i x H ok hx=>⟨xs,x,ok,hx⟩
 yld:=fun i x H y H' ok hx h=>by
  obtain ⟨e,h⟩:=h
  have q:=h xs ok
  rw [hx] at q
  exact ⟨(Option.some.inj q).symm,e⟩
 stop:=fun H ok=>⟨xs,ok,Nat.le_refl _⟩
def Zdg (lo:Int) (n:Nat):List V:=(List.range n).map fun (k:Nat)=>V.int (lo + (k:Int))
theorem Zau (lo:Int) (n:Nat):(Zdg lo n).length=n:=by unfold Zdg;rw [List.length_map,List.length_range]
theorem Za4 {lo:Int}{n i:Nat}{x:V}(h:(Zdg lo n)[i]?=some x):i<n∧x=V.int (lo + (i:Int)):=by
 have hi:i<n:=by
  have:=(List.getElem?_eq_some_iff.mp h).1
  rwa [Zau] at this
 refine ⟨hi,?_⟩
 unfold Zdg at h
 rw [List.getElem?_map,List.getElem?_range hi] at h
 exact (Option.some.inj h).symm
theorem Zbm {lo:Int}{n:Nat}:Zqr (Itr lo n) (Zdg lo n) (fun _=>True) where
 go:=fun i x H _ hx=>(Za4 hx).1
 yld:=fun i x H y H' _ hx h=>by
  obtain ⟨e,h⟩:=h
  exact ⟨h.trans (Za4 hx).2.symm,e⟩
 stop:=fun H _=>by
  show n≤(Zdg lo n).length
  rw [Zau]
  exact Nat.le_refl _
theorem Za6 {J:It}{xs:List V}{Ok:Hp→Prop}(R:Zqr J xs Ok) {g:TG}{tb:TS}{D:Zt5}{σ:St}{H:Hp}(Pv:Nat→St→Hp→Prop) (h0:Pv 0 σ H) (hl:∀ i σ H,i≤xs.length→Pv i σ H→Ok H)
  (hs:∀ i x σ H,xs[i]?=some x→Pv i σ H→g x σ H fun σ2 H2=>tb { D with nx:=Pv (i + 1),ct:=Pv (i + 1),bk:=D.nx } σ2 H2) (hd:∀ σ H,Pv xs.length σ H→D.nx σ H):
  ∃ W:Nat→Nat→St→Hp→Prop,(∃ m,W 0 m σ H)∧∀ i m σ H,W i m σ H →
   (J.stop i H∧D.nx σ H)∨(J.go i H∧∃ N:St→Hp→Prop,(∀ σ' H',N σ' H'→∃ m',m'<m∧W (i + 1) m' σ' H')∧∀ x H',J.yld i H x H'→g x σ H' fun σ2 H2=>tb { D with nx:=N,ct:=N,bk:=D.nx } σ2 H2):=by
 refine ⟨fun i m σ H=>m=xs.length - i∧i≤xs.length∧Pv i σ H,⟨xs.length,by simp,Nat.zero_le _,h0⟩,?_⟩
 rintro i m σ H ⟨rfl,hi,p⟩
 have q:=hl i σ H hi p
 by_cases hlt:i<xs.length
 ·have hx:xs[i]?=some xs[i]:=by simp [hlt]
  refine .inr ⟨R.go i _ H q hx,Pv (i + 1),fun σ' H' p'=>⟨xs.length - (i + 1),by omega,rfl,hlt,p'⟩,fun x H' y=>?_⟩
  obtain ⟨e1,e2⟩:=R.yld i _ H x H' q hx y
  rw [e2]
  exact hs i x σ H (by rw [e1];exact hx) p
 ·have e:i=xs.length:=by omega
  subst e
  exact .inl ⟨R.stop H q,hd σ H p⟩
def Its (x:Str):It:=⟨fun i _=>i<x.cps.size,fun i H v H'=>H'=H∧∃ c,x.cps[i]?=some c∧v=.str ⟨#[c]⟩,fun i _=>x.cps.size≤i⟩
def Zgv (x:Str):List V:=x.cps.toList.map fun c=>V.str ⟨#[c]⟩
theorem Zuh {x:Str}:Zqr (Its x) (Zgv x) (fun _=>True) where
 go:=fun i y H _ hx=>by
  have:=(List.getElem?_eq_some_iff.mp hx).1
  unfold Zgv at this
  rw [List.length_map] at this
  show i<x.cps.size
  simpa using this
 yld:=fun i y H z H' _ hx h=>by
  obtain ⟨e,c,hc,hz⟩:=h
  refine ⟨?_,e⟩
  unfold Zgv at hx
  rw [List.getElem?_map,Array.getElem?_toList,hc] at hx
  rw [hz]
  exact Option.some.inj hx
 stop:=fun H _=>by
  show x.cps.size≤(Zgv x).length
  unfold Zgv
  simp
theorem Zof {P:Program}{w:World}{K:PySem.W.Frag}{tg:Expr}(x:Str) (t:Tok) (it:Addr) (ty:String) (hty:ty="str_ascii_iterator"∨ty="str_iterator"):
  Zod P w K tg (Its x) [it] it (fun i h=>h.IsStrIter it ty x t i) where
 mem:=by simp
 obj:=fun i h st b hb=>by
  have e:b=it:=by simpa using hb
  subst e
  obtain ⟨o,e,c,d⟩:=st
  exact ⟨o,e,fun v z=>by rw [d] at z;cases z⟩
 keep:=fun i h h' st k=>by
  obtain ⟨o,ho,r⟩:=st
  exact ⟨o,k it (by simp) o ho,r⟩
 item:=by
  intro X hP hw hK hc i pins s σ H E I hf st hg
  subst hP hw hK
  obtain ⟨f0,f1,f2,f3,f4,f5⟩:=hf it (by simp)
  have hi:i<x.cps.size:=hg
  have hx:x.cps[i]?=some x.cps[i]:=by simp [hi]
  have fin:∀ h':Heap,h'.IsStrIter it ty x t (i + 1)→Heap.SameBut it s.heap h'→∃ u,some (Value.str ⟨#[x.cps[i]]⟩ s.toks)=some u ∧
    wpAny (model X.prog X.w) X.A (letOwnedTupleGo tg (.ref it) u) (fun _ s2=>∃ y H',Inv X pins σ H' s2∧Zc4 y u∧(Its x).yld i H y H'∧s2.heap.IsStrIter it ty x t (i + 1)∧∀ b∈[it],H' b=none) E { s with heap:=h',toks:=s.toks + 1 }:=fun h' st' sb=>by
   have I1:Inv X pins σ H { s with heap:=h',toks:=s.toks + 1 }:=I.turned (fun b o hb e=>(sb.2 b hb).trans e) f0 f1 f3 f4 f5
   obtain ⟨o,e,c,d⟩:=id st'
   refine ⟨_,rfl,Znv (s:={ s with heap:=h',toks:=s.toks + 1 }) e c d ?_ ⟨.str ⟨#[x.cps[i]]⟩,H,I1,⟨_,rfl⟩,⟨rfl,_,hx,rfl⟩,st',fun b hb=>(hf b hb).1⟩⟩
   rcases hty with rfl | rfl <;> decide
  rcases hty with rfl | rfl
  ·exact wpAny_pyNext_ascii_item st hx fun h' st' sb=>fin h' st' sb
  ·exact wpAny_pyNext_wide_item st hx fun h' st' sb=>fin h' st' sb
 done:=by
  intro X hP hw hK hc i pins s σ H E I hf st hg
  subst hP hw hK
  obtain ⟨f0,f1,f2,f3,f4,f5⟩:=hf it (by simp)
  have hi:x.cps.size≤i:=hg
  have hx:x.cps[i]?=none:=by simp [hi]
  rcases hty with rfl | rfl
  ·exact wpAny_pyNext_ascii_end (I.ok.hd hc) st hx fun h' eb=>⟨rfl,I.turned (t':=s.toks) (fun b o hb e=>eb b o hb e) f0 f1 f3 f4 f5⟩
  ·exact wpAny_pyNext_wide_end (I.ok.hd hc) st hx fun h' eb=>⟨rfl,I.turned (t':=s.toks) (fun b o hb e=>eb b o hb e) f0 f1 f3 f4 f5⟩
 self:=fun _ _ _ _ _ st h=>by
  rcases hty with rfl | rfl
  ·exact wpAny_pyIter_striter_ascii st h
  ·exact wpAny_pyIter_striter_wide st h
section
variable {X:Cx} {tg:Expr}
def Z43 (tl:TE):TI:=fun σ H R=>tl σ H fun x H1=>∃ z,x=.str z∧R (Its z) H1
theorem Zzt {l:Expr}{tl:TE}(hl:PE X l tl):PI X tg l (Z43 tl):=by
 intro pins s σ H R I h
 refine thn (hl pins s σ H _ I h) fun v s1 ⟨x,H1,I1,r1,q1⟩=>?_
 obtain ⟨z,e,q⟩:=q1
 subst e
 obtain ⟨t,rfl⟩:=r1
 have fp:∀ b∈[s1.heap.objs.size],Zk9 X pins H1 b:=fun b hb=>by
  have e:b=s1.heap.objs.size:=by simpa using hb
  subst e
  exact I1.fpOk (Nat.le_refl _) (I1.hok.fresh (Nat.le_refl _))
 cases ha:z.cps.all (·<128) with
 | false =>
  refine wpAny_pyIter_wide ha ?_
  exact ⟨s1.heap.objs.size,[s1.heap.objs.size],_,_,H1,rfl,I1.kept (t':=s1.toks) fun b o e=>Heap.get?_push_of_some _ e,Zof z t _ "str_iterator" (.inr rfl),⟨_,Heap.get?_push_size _ rfl,rfl,rfl⟩,fp,q⟩
 | true =>
  refine wpAny_pyIter_ascii ha ?_
  exact ⟨s1.heap.objs.size,[s1.heap.objs.size],_,_,H1,rfl,I1.kept (t':=s1.toks) fun b o e=>Heap.get?_push_of_some _ e,Zof z t _ "str_ascii_iterator" (.inl rfl),⟨_,Heap.get?_push_size _ rfl,rfl,rfl⟩,fp,q⟩
end
def Zhx (env:Env):List (Str×NameKind)→List (Str×Addr)→List (Str×Addr)
 | [],acc=>acc
 | (n,k):: r,acc=>if (k == NameKind.free)=true then Zhx env r ((n,(env.cells.lookup n).getD 0):: acc) else Zhx env r acc
theorem Zn9 {env:Env}{n:Str}{c:Addr}(h:env.cells.lookup n=some c):cellOf env n=pure c:=by
 unfold cellOf
 rw [h]
theorem Zfj {scope:Scope}{env:Env}(h:∀ y∈scope.names,y.2=.free→∃ c,env.cells.lookup y.1=some c):closureFor scope env=pure (Zhx env scope.names []):=by
 have key:∀ (l:List (Str×NameKind)) (acc:List (Str×Addr)),(∀ y∈l,y.2=.free→∃ c,env.cells.lookup y.1=some c) →
   (forIn l acc fun (x:Str×NameKind) (r:List (Str×Addr))=>(match x with
    | (name,kind)=>if (kind == NameKind.free)=true then (do let a ← cellOf env name;pure (ForInStep.yield ((name,a):: r))) else pure (ForInStep.yield r):Sem (ForInStep (List (Str×Addr)))))=pure (Zhx env l acc):=by
  intro l
  induction l with
  | nil=>intro acc _;rfl
  | cons y r ih =>
   intro acc hy
   obtain ⟨n,k⟩:=y
   have ih':=fun acc=>ih acc fun z hz=>hy z (List.mem_cons_of_mem _ hz)
   rw [List.forIn_cons]
   by_cases hk:(k == NameKind.free)=true
   ·obtain ⟨c,hc⟩:=hy (n,k) List.mem_cons_self (by simpa using hk)
    have hc:env.cells.lookup n=some c:=hc
    simp only [hk,if_true,Zn9 hc]
    unfold Zhx
    rw [if_pos hk,hc]
    exact ih' _
   ·simp only [hk]
    unfold Zhx
    rw [if_neg hk]
    exact ih' _
 unfold closureFor
 have q:=key scope.names [] h
 show ((forIn scope.names [] _:Sem (List (Str×Addr)))>>=fun r=>pure r)=_
 first
  | (rw [show (forIn scope.names [] _:Sem (List (Str×Addr)))=_ from q];rfl)
  | (refine (congrArg (fun m=>m>>=fun r=>pure r) q).trans ?_;rfl)
theorem Zeu {env:Env}:∀ (l:List (Str×NameKind)) (acc:List (Str×Addr)) (x:Str) (c:Addr),(∀ y∈l,y.2=.free→∃ c,env.cells.lookup y.1=some c) →
  (∀ x c,acc.lookup x=some c→env.cells.lookup x=some c)→(Zhx env l acc).lookup x=some c→env.cells.lookup x=some c
 | [],acc,x,c,_,ha,h=>ha x c h
 | (n,k):: r,acc,x,c,hy,ha,h=>by
  have hr:∀ y∈r,y.2=.free→∃ c,env.cells.lookup y.1=some c:=fun y hy'=>hy y (List.mem_cons_of_mem _ hy')
  unfold Zhx at h
  by_cases hk:(k == NameKind.free)=true
  ·rw [if_pos hk] at h
   refine Zeu r _ x c hr (fun z d hz=>?_) h
   obtain ⟨c',hc'⟩:=hy (n,k) List.mem_cons_self (by simpa using hk)
   have hc':env.cells.lookup n=some c':=hc'
   rw [List.lookup_cons] at hz
   by_cases e:(z == n)=true
   ·simp only [e] at hz
    have e':z=n:=by simpa using e
    rw [e',hc']
    rw [hc'] at hz
    exact hz
   ·have e':(z == n)=false:=by simpa using e
    simp only [e'] at hz
    exact ha z d hz
  ·rw [if_neg hk] at h
   exact Zeu r acc x c hr ha h
theorem Zhl {env:Env}:∀ (l:List (Str×NameKind)) (acc:List (Str×Addr)) (x:Str),(acc.lookup x).isSome=true→((Zhx env l acc).lookup x).isSome=true
 | [],acc,x,h=>h
 | (n,k):: r,acc,x,h=>by
  unfold Zhx
  by_cases hk:(k == NameKind.free)=true
  ·rw [if_pos hk]
   refine Zhl r _ x ?_
   rw [List.lookup_cons]
   cases e:(x == n) with
   | true=>rfl
   | false=>exact h
  ·rw [if_neg hk]
   exact Zhl r acc x h
theorem Zh7 {env:Env}:∀ (l:List (Str×NameKind)) (acc:List (Str×Addr)) (x:Str),(x,NameKind.free)∈l→((Zhx env l acc).lookup x).isSome=true
 | [],acc,x,h=>nomatch h
 | (n,k):: r,acc,x,h=>by
  unfold Zhx
  rcases List.mem_cons.mp h with e | h
  ·injection e with e1 e2
   subst e1
   subst e2
   rw [if_pos (by decide)]
   refine Zhl r _ x ?_
   rw [List.lookup_cons]
   simp
  ·by_cases hk:(k == NameKind.free)=true
   ·rw [if_pos hk]
    exact Zh7 r _ x h
   ·rw [if_neg hk]
    exact Zh7 r _ x h
theorem Zdl {env:Env}:∀ {names:List (Str×NameKind)}{x:Str},names.lookup x=some .free →
  (names.map fun (n,k)=>if (k == NameKind.free&&env.scope.kind == .function&&env.kindOf n == some .cell) then (n,NameKind.cell) else (n,k)).lookup x=some .cell ∨
  (names.map fun (n,k)=>if (k == NameKind.free&&env.scope.kind == .function&&env.kindOf n == some .cell) then (n,NameKind.cell) else (n,k)).lookup x=some .free
 | [],_,h=>by simp at h
 | (n,k):: r,x,h=>by
  have ih:=@Zdl env r x
  rw [List.map_cons]
  show List.lookup x ((if (k == NameKind.free&&env.scope.kind == .function&&env.kindOf n == some .cell)=true then (n,NameKind.cell) else (n,k)):: _)=_∨List.lookup x ((if (k == NameKind.free&&env.scope.kind == .function&&env.kindOf n == some .cell)=true then (n,NameKind.cell) else (n,k)):: _)=_
  cases hx:x == n with
  | true =>
   simp only [List.lookup_cons,hx] at h
   cases h
   by_cases hc:(NameKind.free == NameKind.free&&env.scope.kind == .function&&env.kindOf n == some .cell)=true
   ·rw [if_pos hc];simp only [List.lookup_cons,hx];exact .inl trivial
   ·rw [if_neg hc];simp only [List.lookup_cons,hx];exact .inr trivial
  | false =>
   simp only [List.lookup_cons,hx] at h
   by_cases hc:(k == NameKind.free&&env.scope.kind == .function&&env.kindOf n == some .cell)=true
   ·rw [if_pos hc];simp only [List.lookup_cons,hx];exact ih h
   ·rw [if_neg hc];simp only [List.lookup_cons,hx];exact ih h
end L2
namespace L2
open PySem PySem.Spec PyProof.Rows
theorem Zds {env:Env}:∀ {names:List (Str×NameKind)}{x:Str},
  ((names.map fun (n,k)=>if (k == NameKind.free&&env.scope.kind == .function&&env.kindOf n == some .cell) then (n,NameKind.cell) else (n,k)).lookup x=some .cell ∨
  (names.map fun (n,k)=>if (k == NameKind.free&&env.scope.kind == .function&&env.kindOf n == some .cell) then (n,NameKind.cell) else (n,k)).lookup x=some .free) →
  names.lookup x=some .free∨names.lookup x=some .cell
 | [],_,h=>by simp at h
 | (n,k):: r,x,h=>by
  have ih:=@Zds env r x
  rw [List.map_cons] at h
  change List.lookup x ((if (k == NameKind.free&&env.scope.kind == .function&&env.kindOf n == some .cell)=true then (n,NameKind.cell) else (n,k)):: _)=_∨List.lookup x ((if (k == NameKind.free&&env.scope.kind == .function&&env.kindOf n == some .cell)=true then (n,NameKind.cell) else (n,k)):: _)=_ at h
  cases hx:x == n with
  | true =>
   simp only [List.lookup_cons,hx]
   by_cases hc:(k == NameKind.free&&env.scope.kind == .function&&env.kindOf n == some .cell)=true
   ·left
    have:(k == NameKind.free)=true:=by
     cases hk:(k == NameKind.free) with
     | true=>rfl
     | false=>rw [hk] at hc;simp at hc
    have:k=NameKind.free:=by simpa using this
    rw [this]
   ·rw [if_neg hc] at h
    simp only [List.lookup_cons,hx] at h
    rcases h with h | h
    ·exact .inr h
    ·exact .inl h
  | false =>
   simp only [List.lookup_cons,hx]
   apply ih
   by_cases hc:(k == NameKind.free&&env.scope.kind == .function&&env.kindOf n == some .cell)=true
   ·rw [if_pos hc] at h;simp only [List.lookup_cons,hx] at h;exact h
   ·rw [if_neg hc] at h;simp only [List.lookup_cons,hx] at h;exact h
abbrev Zdw (X:Cx) (scope:Scope) (N:List Str) (C:Addr) (s:Shared) (H:Hp) (fp:List Addr):Cx :=
 { X with N:=N,s₀:=s,H₀:=H,env:=compEnvC scope (Zhx X.env scope.names []) C X.env,outer:=X.stack,ex:=fp,fn:=fun _=>false,pn:=[],xe:=fun _ _=>False }
def sgC (n:Nat) (js:List Nat) (σ:St):St:=List.replicate n none++js.map fun j=>(σ[j]?).join
theorem Zrt (n:Nat) (js:List Nat) (σ:St):(sgC n js σ).length=n + js.length:=by unfold sgC;simp
structure Zfn (X:Cx) (scope:Scope) (own frees:List Str) (js:List Nat):Prop where
 calm:X.calm=true
 kind:scope.kind=.function
 nocell:∀ y∈scope.names,y.2≠.cell
 locals:∀ y∈scope.names,y.2=.local→scope.names.lookup y.1=some .local
 fr:∀ y∈scope.names,y.2=.free→X.env.scope.names.lookup y.1=some .cell∨X.env.scope.names.lookup y.1=some .free
 fre:∀ x∈frees,scope.names.lookup x=some .free
 slots:js.map (fun j=>X.N[j]?)=frees.map some
def PTs (X:Cx) (ifs:List Expr) (t:TT):Prop :=
 ∀ (pins:List (Addr×Obj)) (s:Shared) (σ:St) (H:Hp) (Q:Bool→Hp→Prop),Inv X pins σ H s→t σ H Q →
  wpAny (model X.prog X.w) X.A (forIn ifs true fun c r=>if r=true then do let ok ← isTrue c X.env (eval c X.env);pure (ForInStep.yield ok) else pure (ForInStep.yield r)) (TP X pins σ Q) X.xe s
def Zpq:TT:=fun _ H Q=>Q true H
theorem Zbn {X:Cx}:PTs X [] Zpq:=fun _ _ _ H _ I h=>wpAny_tests_nil ⟨H,I,h⟩
theorem Zhh {X:Cx}{c:Expr}{t:TT}(h:PT X c t):PTs X [c] t:=fun pins s σ H Q I q=>wpAny_tests_one (h pins s σ H Q I q)
def compBody (n:Nat) (js:List Nat) (g:TG) (tt:TT) (te:TE) (σ:St) (Q:VK) (J:It) (H1:Hp):Prop:=∀ D,H1 D=none →
 ∃ W:Nat→Nat→List V→St→Hp→Prop,(∃ m,W 0 m [] (sgC n js σ) (upd H1 D (.lst [])))∧∀ i m ys σ' H',W i m ys σ' H' →
  (J.stop i H'∧Q (.ref D) H') ∨
  (J.go i H'∧ys.length<sizeLine∧∃ N:List V→St→Hp→Prop,(∀ ys3 σ3 H3,N ys3 σ3 H3→∃ m',m'<m∧W (i + 1) m' ys3 σ3 H3)∧∀ x H2,J.yld i H' x H2→g x σ' H2 fun σ3 H3=>tt σ3 H3 fun b H4 =>
   if b=true then te σ3 H4 fun v H5=>H5 D=some (.lst ys)∧N (ys++[v]) σ3 (upd H5 D (.lst (ys++[v])))
   else N ys σ3 H4)
section
variable {prog:Program} {w:World} {A:Around} {E:Value→Shared→Prop} {R:Result→Shared→Prop} {s:Shared}
theorem Zhw {elt target iter:Expr}{ifs:List Expr}{scope:Scope}{pos:Pos}{it acc:Value}{env:Env}(I:Nat→Shared→Prop)
  (turn:∀ n s,I n s→∀ E:Value→Shared→Prop,wpAny (model prog w) A (pyNext it) (fun r s₁=>match r with
   | none=>R (.ok .next) s₁
   | some v=>wpAny (model prog w) A (letOwnedTupleGo target it v) (fun _ s₁'=>wpAny (model prog w) A (assign target env v) (fun _ s₂ =>
     wpAny (model prog w) A (forIn ifs true fun c r=>if r=true then do let ok ← isTrue c env (eval c env);pure (ForInStep.yield ok) else pure (ForInStep.yield r)) (fun ok s₃ =>
      if ok=true then wpAny (model prog w) A (eval elt env) (fun x s₄ =>
       wpAny (model prog w) A (call (.builtin "list.append") [acc,x]) (fun _ s₅=>∃ m,m<n∧I m s₅) E s₄) E s₃
      else ∃ m,m<n∧I m s₃) E s₂) E s₁') E s₁) E s)
  (n:Nat) (h:I n s):
  codeAny (model prog w) A (.compLoop (.ListComp elt [⟨target,iter,ifs,0⟩] scope pos) 0 it acc env) R s:=by
 refine codeAny_loop rfl I (fun n s hI=>?_) n h
 show wpAny _ A ((compTurn (.ListComp elt [⟨target,iter,ifs,0⟩] scope pos) 0 it acc env).onRaise (fun x=>do noteFrame x env;theTreesLotGoes x)) _ _ s
 refine wpAny_noted ?_
 rw [compTurn_list]
 refine wpAny_bind (wpAny_standAt (wpAny_bind (wpAny_mono (turn n s hI _) (fun r s₁ h₁=>?_) fun _ _ h'=>h')))
 cases r with
 | none=>exact wpAny_pure h₁
 | some v =>
  refine wpAny_bind (wpAny_mono h₁ (fun _ s₁' h₁'=>?_) fun _ _ h'=>h')
  refine wpAny_bind (wpAny_mono h₁' (fun _ s₂ h₂=>wpAny_bind (wpAny_mono h₂ (fun ok s₃ h₃=>?_) fun _ _ h'=>h')) fun _ _ h'=>h')
  cases ok with
  | false=>exact wpAny_pure ⟨rfl,h₃⟩
  | true =>
   exact wpAny_bind (wpAny_bind (wpAny_mono h₃ (fun x s₄ h₄=>wpAny_bind (wpAny_mono h₄ (fun _ s₅ h₅=>wpAny_pure (wpAny_pure ⟨rfl,h₅⟩)) fun _ _ h'=>h')) fun _ _ h'=>h'))
end
section
variable {X:Cx} {pins:List (Addr×Obj)} {σ:St} {scope:Scope} {own frees:List Str} {js:List Nat}
theorem Zfn.cells (c:Zfn X scope own frees js) (ok:X.Ok):∀ y∈scope.names,y.2=.free→∃ a,X.env.cells.lookup y.1=some a:=fun y hy e=>by
 rcases c.fr y hy e with h | h
 ·exact ok.has y.1 (.inl h)
 ·exact ok.has y.1 (.inr h)
theorem Zfn.cl (c:Zfn X scope own frees js) (ok:X.Ok) {x:Str}{a:Addr}(h:(Zhx X.env scope.names []).lookup x=some a):X.env.cells.lookup x=some a :=
 Zeu scope.names [] x a (c.cells ok) (fun _ _ z=>by simp at z) h
theorem Zfn.has (c:Zfn X scope own frees js) {x:Str}(h:scope.names.lookup x=some .free):∃ a,(Zhx X.env scope.names []).lookup x=some a :=
 Option.isSome_iff_exists.mp (Zh7 scope.names [] x (PySem.mem_of_lookup h))
theorem Zfn.ok {s2:Shared}{H2:Hp}{fp:List Addr}{C:Addr}(c:Zfn X scope own frees js) (I:Inv X pins σ H2 s2) (f2:∀ b∈fp,Zk9 X pins H2 b) (hlt:∀ b∈fp,b<s2.heap.objs.size) (hC:s2.heap.objs.size≤C) (N:List Str):
  (Zdw X scope N C s2 H2 fp).Ok where
 mod:=I.ok.mod
 kind:=c.kind
 glob:=I.ok.glob
 blt:=I.ok.blt
 above:=hC
 inj:=fun x y a h1 h2=>I.ok.inj x y a (c.cl I.ok h1) (c.cl I.ok h2)
 has:=fun x h=>by
  have h':scope.names.lookup x=some .free∨scope.names.lookup x=some .cell:=Zds (env:=X.env) h
  rcases h' with h' | h'
  ·exact c.has h'
  ·exact absurd rfl (c.nocell _ (PySem.mem_of_lookup h'))
 cab:=fun x a h=>absurd (show false=true from h) Bool.false_ne_true
 hd:=fun h=>I.ok.hd h
 frames:=I.ok.frames
 stk:=.inl rfl
 exf:=fun b hb=>⟨Nat.ne_of_lt (Nat.lt_of_lt_of_le (hlt b hb) hC),fun x a h=>(f2 b hb).2.2.2.2.1 x a (c.cl I.ok h)⟩
 bs:=I.bs
 bsz:=Nat.le_trans I.ok.bsz I.sz
 noex:=fun b o e hb=>by
  rcases (f2 b hb).2.2.2.1 with z | z
  ·exact I.ok.noex b o e z
  ·exact absurd (Nat.lt_of_lt_of_le (Heap.lt_size e) (Nat.le_trans I.ok.bsz z)) (Nat.lt_irrefl _)
 exfs:=fun b hb z=>by
  rcases List.mem_cons.mp (I.stkSub b z) with e | e
  ·exact (f2 b hb).2.1 e
  ·exact (f2 b hb).2.2.1 e
 funs:=I.stack
 frf:=I.stkFree
theorem Zj3 {s2:Shared}{tg iter elt:Expr}{ifs:List Expr}{pos:Pos}{g:TG}{tt:TT}{te:TE}{Q:VK}{RR:Value→Addr→Result→Shared→Prop}{itv:Value}{E:Value→Shared→Prop}
  (c:Zfn X scope own frees js)
  (hg:∀ C s H fp,PG (Zdw X scope (own++frees) C s H fp) tg g) (ht:∀ C s H fp,PTs (Zdw X scope (own++frees) C s H fp) ifs tt) (he:∀ C s H fp,PE (Zdw X scope (own++frees) C s H fp) elt te)
  (h:PIE X pins σ tg (compBody own.length js g tt te σ Q) itv s2)
  (hR:∀ D C H' s',Inv X pins σ H' s'→Zk9 X pins H' C→(∃ m,s'.heap.Ns C m)→Q (.ref D) H'→RR (.ref D) C (.ok .next) s'):
  wpAny (model X.prog X.w) X.A (newList []) (fun acc s₃=>wpAny (model X.prog X.w) X.A (newFunctionEnv scope X.env.globals (Zhx X.env scope.names []) [] X.env.qual none .none (some X.env)) (fun cenv s₄ =>
   codeAny (model X.prog X.w) X.A (.compStart (.ListComp elt [⟨tg,iter,ifs,0⟩] scope pos) 0 itv acc { cenv with scope:=relabel scope X.env }) (RR acc cenv.locals) s₄) E s₃) E s2:=by
 obtain ⟨it,fp,tn,J,H2,e,I2,T,st2,f2,hq⟩:=h
 subst e
 refine wpAny_newObj_type (wpAny_newFunctionEnv c.nocell (by intro y hy;simp at hy) (fun h₁ hns₁ hsb₁=>?_) c.kind)
 dsimp only at hns₁ hsb₁ ⊢
 generalize hH2:s2.heap.push { cls:=.type "list",dict:=none,data:=.seq ([]:List Value).toArray }=G2 at hns₁ hsb₁ ⊢
 have hC:G2.objs.size=s2.heap.objs.size + 1:=by rw [← hH2,Heap.size_push]
 have hDC:s2.heap.objs.size≠G2.objs.size:=by rw [hC];exact Nat.ne_of_lt (Nat.lt_succ_self _)
 have hCle:s2.heap.objs.size≤G2.objs.size:=by rw [hC];exact Nat.le_succ _
 have old:∀ b o,s2.heap.get? b=some o→h₁.get? b=some o:=fun b o e=>by
  have hb:=Heap.lt_size e
  exact hsb₁.extBut b o (by rw [hC];exact Nat.ne_of_lt (Nat.lt_succ_of_lt hb)) (Heap.get?_push_of_some _ (hH2 ▸ Heap.get?_push_of_some _ e))
 have hD:H2 s2.heap.objs.size=none:=I2.hok.fresh (Nat.le_refl _)
 have hlt:∀ b∈fp,b<s2.heap.objs.size:=fun b hb=>by
  obtain ⟨o,e,_⟩:=T.obj _ _ st2 b hb
  exact Heap.lt_size e
 have hacc:h₁.get? s2.heap.objs.size=some { cls:=.type "list",data:=.seq ([]:List Value).toArray }:=hsb₁.extBut _ _ hDC (Heap.get?_push_of_some _ (hH2 ▸ Heap.get?_push_size _ rfl))
 obtain ⟨W,⟨m0,w0⟩,turn⟩:=hq _ hD
 have I0:∀ tk,Inv (Zdw X scope (own++frees) G2.objs.size s2 H2 fp) [] (sgC own.length js σ) (upd H2 s2.heap.objs.size (.lst [])) { s2 with heap:=h₁,toks:=tk }:=fun tk=>by
  refine ⟨c.ok I2 f2 hlt hCle _,rfl,I2.bare,Un.laid old (Nat.le_refl _) hD,⟨_,hns₁,fun i x v h1 h2 h3=>?_⟩,fun x a h=>?_,?_,fun x a h=>?_,fun p hp=>absurd (show p∈([]:List (Addr×Obj)) from hp) (by simp),I2.hok.laid old (Nat.le_refl _) ⟨Nat.zero_le _,[],0,.nil,hacc⟩,?_⟩
  ·have hi:own.length≤i:=by
    by_cases hi:i<own.length
    ·unfold sgC at h2
     rw [List.getElem?_append_left (by simpa using hi),List.getElem?_replicate] at h2
     rw [if_pos hi] at h2
     cases h2
    ·omega
   have hx:frees[i - own.length]?=some x:=by
    have h1':(own++frees)[i]?=some x:=h1
    rwa [List.getElem?_append_right hi] at h1'
   have h2':(js.map fun j=>(σ[j]?).join)[i - own.length]?=some (some v):=by
    unfold sgC at h2
    rw [List.getElem?_append_right (by simpa using hi)] at h2
    simpa using h2
   rw [List.getElem?_map] at h2'
   obtain ⟨j,hj,hjv⟩:=Option.map_eq_some_iff.mp h2'
   have hs:=congrArg (fun l=>l[i - own.length]?) c.slots
   rw [List.getElem?_map,List.getElem?_map,hj,hx] at hs
   have hNj:X.N[j]?=some x:=Option.some.inj hs
   have hσ:σ[j]?=some (some v):=by
    cases q:σ[j]? with
    | none=>rw [q] at hjv;cases hjv
    | some o =>
     rw [q] at hjv
     have:o=some v:=hjv
     rw [this]
   have hfree:=c.fre x (List.mem_of_getElem? hx)
   have hXk:=c.fr (x,.free) (PySem.mem_of_lookup hfree) rfl
   obtain ⟨m,hn,hl⟩:=I2.loc
   have vis:Vis X.env.scope x:=by rcases hXk with k | k;exact .inr (.inl k);exact .inr (.inr k)
   obtain ⟨u,r,l⟩:=hl j x v hNj hσ vis
   refine ⟨u,r,.inr ⟨Zdl (env:=X.env) hfree,?_⟩⟩
   rcases l with ⟨hk,_⟩ | ⟨_,a,ha,hcell⟩
   ·rcases hXk with k | k
    ·have hk:X.env.scope.names.lookup x=some .local:=hk
     rw [show X.env.scope.names.lookup x=some .cell from k] at hk;cases hk
    ·have hk:X.env.scope.names.lookup x=some .local:=hk
     rw [show X.env.scope.names.lookup x=some .free from k] at hk;cases hk
   ·obtain ⟨a',ha'⟩:=c.has hfree
    have e:=c.cl I2.ok ha'
    rw [ha] at e
    cases e
    obtain ⟨o,ho,hd⟩:=hcell
    exact ⟨a,ha',o,old a o ho,hd⟩
  ·obtain ⟨v,o,ho,hd⟩:=I2.cell x a (c.cl I2.ok h)
   exact ⟨v,o,old a o ho,hd⟩
  ·show upd H2 s2.heap.objs.size (.lst []) G2.objs.size=none
   rw [Zac (Ne.symm hDC)]
   exact I2.hok.fresh hCle
  ·obtain ⟨v,o,ho,hd⟩:=I2.cell x a (c.cl I2.ok h)
   rw [Zac (Nat.ne_of_lt (Heap.lt_size ho))]
   exact I2.freeC x a (c.cl I2.ok h)
  ·rw [Zrt,List.length_append]
   have:=congrArg List.length c.slots
   rw [List.length_map,List.length_map] at this
   omega
 have stat:∀ {H':Hp},(∀ b∈fp,H' b=none)→∀ b∈fp,Zk9 (Zdw X scope (own++frees) G2.objs.size s2 H2 fp) [] H' b:=fun {H'} hn b hb=>by
  obtain ⟨f0,f1,f3,f4,f5,f6⟩:=f2 b hb
  refine ⟨hn b hb,Nat.ne_of_lt (Nat.lt_of_lt_of_le (hlt b hb) hCle),fun z=>?_,.inl hb,fun x a h=>f5 x a (c.cl I2.ok h),fun p hp=>absurd (show p∈([]:List (Addr×Obj)) from hp) (by simp)⟩
  rcases List.mem_cons.mp (I2.stkSub b z) with e | e
  ·exact f1 e
  ·exact f3 e
 have loop:∀ s₃:Shared,s₃={ s2 with heap:=h₁,toks:=s2.toks + ([]:List (Str×Value)).length } →
   codeAny (model X.prog X.w) X.A (.compLoop (.ListComp elt [⟨tg,iter,ifs,0⟩] scope pos) 0 (.ref it) (.ref s2.heap.objs.size) (compEnvC scope (Zhx X.env scope.names []) G2.objs.size X.env))
    (RR (.ref s2.heap.objs.size) G2.objs.size) s₃:=by
  rintro s₃ rfl
  refine Zhw (fun n s'=>∃ i ys σ' H',Inv (Zdw X scope (own++frees) G2.objs.size s2 H2 fp) [] σ' H' s'∧tn i s'.heap∧(∀ b∈fp,H' b=none)∧W i n ys σ' H') ?_ m0
   ⟨0,[],_,_,I0 _,T.keep _ _ _ st2 fun b _ o e=>old b o e,fun b hb=>by rw [Zac (Nat.ne_of_lt (hlt b hb))];exact (f2 b hb).1,w0⟩
  rintro n s3 ⟨i,ys,σ3,H3,I3,st3,fr3,w3⟩ E'
  rcases turn i n ys σ3 H3 w3 with ⟨stop,qn⟩ | ⟨go,hz,N,hN,step⟩
  ·refine thn (T.done (Zdw X scope (own++frees) G2.objs.size s2 H2 fp) rfl rfl rfl c.calm i [] s3 σ3 H3 E' I3 (stat fr3) st3 stop) fun r s4 ⟨hr,I4⟩=>?_
   subst hr
   have back:Inv X pins σ H3 s4:=I2.call' (ch:=fp) I4.os I4.base I4.hok I4.bare fun b hb=>⟨(f2 b hb).2.2.2.1,(f2 b hb).2.1,(f2 b hb).2.2.2.2.1,(f2 b hb).2.2.2.2.2⟩
   exact hR _ _ H3 s4 back (I2.fpOk hCle I4.free) ⟨_,I4.loc.choose_spec.1⟩ qn
  ·refine thn (T.item (Zdw X scope (own++frees) G2.objs.size s2 H2 fp) rfl rfl rfl c.calm i [] s3 σ3 H3 E' I3 (stat fr3) st3 go) fun r s4 ⟨u,hr,h4⟩=>?_
   subst hr
   refine thn h4 fun _ s5 ⟨x,H5,I5,r5,y5,st5,fr5⟩=>?_
   have I5':=I5.pinned (stat fr5) (T.obj _ _ st5)
   have nof:∀ (e:Value) (s':Shared),(Zdw X scope (own++frees) G2.objs.size s2 H2 fp).xe e s'→E' e s':=fun _ _ z=>False.elim z
   refine wpAny_mono (hg _ _ _ _ _ s5 σ3 H5 x u _ I5' r5 (step x H5 y5)) (fun _ s6 ⟨σ6,H6,I6,q6⟩=>?_) nof
   refine wpAny_mono (ht _ _ _ _ _ s6 σ6 H6 _ I6 q6) (fun b s7 ⟨H7,I7,q7⟩=>?_) nof
   have again:∀ {σ7:St} {H7:Hp} {s7:Shared} {ys':List V},Inv (Zdw X scope (own++frees) G2.objs.size s2 H2 fp) ([]++Zjp fp s5.heap) σ7 H7 s7→N ys' σ7 H7 →
     ∃ m,m<n∧∃ i ys σ' H',Inv (Zdw X scope (own++frees) G2.objs.size s2 H2 fp) [] σ' H' s7∧tn i s7.heap∧(∀ b∈fp,H' b=none)∧W i m ys σ' H':=fun {σ7 H7 s7 ys'} I7 n7=>by
    obtain ⟨m',hm,w7⟩:=hN _ _ _ n7
    refine ⟨m',hm,i + 1,ys',σ7,H7,I7.unpinned,T.keep _ _ _ st5 fun b hb o e=>(I7.pin (b,o) (List.mem_append_right _ (List.mem_append_right _ (Zem hb e)))).1,fun b hb=>?_,w7⟩
    obtain ⟨o,e,d⟩:=T.obj _ _ st5 b hb
    exact (I7.pin (b,o) (List.mem_append_right _ (List.mem_append_right _ (Zem hb e)))).2.1
   cases b with
   | false =>
    rw [if_neg Bool.false_ne_true] at q7 ⊢
    exact again I7 q7
   | true =>
    rw [if_pos rfl] at q7 ⊢
    refine wpAny_mono (he _ _ _ _ _ s7 σ6 H7 _ I7 q7) (fun v s8 ⟨y,H8,I8,r8,hD8,w8⟩=>?_) nof
    refine wpAny_mono (Zb6 (X:=Zdw X scope (own++frees) G2.objs.size s2 H2 fp) _ s8 σ6 H8 (.ref s2.heap.objs.size) [y] (.ref s2.heap.objs.size) [v] (fun _ H9=>H9=upd H8 s2.heap.objs.size (.lst (ys++[y]))) I8 rfl (.cons r8 .nil) ⟨_,ys,y,rfl,rfl,hD8,hz,rfl⟩) (fun z s9 ⟨_,H9,I9,_,e9⟩=>?_) nof
    subst e9
    exact again I9 w8
 exact codeAny_compStart_list (loop _ rfl) (T.self X.A 0 _ _ _ (T.keep _ _ _ st2 fun b _ o e=>old b o e) (loop _ rfl))
end
section
variable {X:Cx} {scope:Scope} {own frees:List Str} {js:List Nat} {tg iter elt:Expr} {ifs:List Expr} {wi:TI} {g:TG} {tt:TT} {te:TE} {pos:Pos}
def Zy8 (n:Nat) (js:List Nat) (wi:TI) (g:TG) (tt:TT) (te:TE):TE:=fun σ H Q=>wi σ H (compBody n js g tt te σ Q)
theorem Zbr (own frees:List Str) (js:List Nat) (hc:X.Ok→Zfn X scope own frees js) (hi:PI X tg iter wi)
  (hg:∀ C s H fp,PG (Zdw X scope (own++frees) C s H fp) tg g) (ht:∀ C s H fp,PTs (Zdw X scope (own++frees) C s H fp) ifs tt) (he:∀ C s H fp,PE (Zdw X scope (own++frees) C s H fp) elt te)
  (hs:∀ x,foldedSetIterable iter X.env x=pure x:=by intro _;rfl):
  PE X (.ListComp elt [⟨tg,iter,ifs,0⟩] scope pos) (Zy8 own.length js wi g tt te):=by
 intro pins s σ H Q I h
 have c:=hc I.ok
 rw [eval_ListComp]
 refine wpAny_comprehension_free (use:=none) rfl hs (Zfj (c.cells I.ok)) c.kind c.locals (thn (hi pins s σ H _ I h) fun xv s₁ h₁=>thn h₁ fun it s₂ h₂=>?_)
 refine Zj3 (RR:=fun acc C=>compPost (model X.prog X.w) X.A X.xe none (EP X pins σ Q) acc C) c hg ht he h₂ fun D C H' s' J F n q=>?_
 obtain ⟨m,hn⟩:=n
 obtain ⟨f0,f1,f2,f3,f4,f5⟩:=F
 exact ⟨m,hn,fun h' hs'=>⟨.ref D,H',J.turned (t':=s'.toks) (fun b o hb e=>hs'.extBut b o hb e) f0 f1 f3 f4 f5,rfl,q⟩⟩
def Zud (k n:Nat) (js:List Nat) (wi:TI) (g:TG) (tt:TT) (te:TE):TS:=fun D σ H=>wi σ H (compBody n js g tt te σ fun v H1=>D.nx (σ.set k (some v)) H1)
theorem Zel {k:Nat}{y:Str}{py spos:Pos} (own frees:List Str) (js:List Nat) (hN:X.N.Nodup) (hk:X.N[k]?=some y) (hy:X.env.scope.names.lookup y=some .local) (hc:X.Ok→Zfn X scope own frees js) (hi:PI X tg iter wi)
  (hg:∀ C s H fp,PG (Zdw X scope (own++frees) C s H fp) tg g) (ht:∀ C s H fp,PTs (Zdw X scope (own++frees) C s H fp) ifs tt) (he:∀ C s H fp,PE (Zdw X scope (own++frees) C s H fp) elt te)
  (hsw:swapsWith (.ListComp elt [⟨tg,iter,ifs,0⟩] scope pos) (some (.Name y py)) spos.line X.env=pure true:=by rfl)
  (hs:∀ x,foldedSetIterable iter X.env x=pure x:=by intro _;rfl):
  PS X (.Assign [.Name y py] (.ListComp elt [⟨tg,iter,ifs,0⟩] scope pos) spos) (Zud k own.length js wi g tt te):=by
 intro pins s σ H D I h
 have c:=hc I.ok
 rw [exec_Assign_Name_used _ _ _ _ hsw]
 refine wpAny_bind (wpAny_standAt (wpAny_bind ?_))
 show wpAny _ X.A (do let _ ← comprehension (.ListComp elt [⟨tg,iter,ifs,0⟩] scope pos) scope X.env _ (newList []) false (eval iter X.env) (some (assign (.Name y py) X.env))) _ _ s
 refine wpAny_bind (wpAny_mono (wpAny_comprehension_free (use:=some (assign (.Name y py) X.env)) (Q:=fun _ s'=>SP X pins D .next s') rfl hs (Zfj (c.cells I.ok)) c.kind c.locals
  (thn (hi pins s σ H _ I h) fun xv s₁ h₁=>thn h₁ fun it s₂ h₂=>?_)) (fun _ s' hq=>wpAny_pure (wpAny_pure hq)) fun _ _ e=>e)
 refine Zj3 (RR:=fun acc C=>compPost (model X.prog X.w) X.A X.xe (some (assign (.Name y py) X.env)) (fun _ s'=>SP X pins D .next s') acc C) c hg ht he h₂ fun A' C H' s' J F n q=>?_
 obtain ⟨m,hn⟩:=n
 obtain ⟨f0,f1,f2,f3,f4,f5⟩:=F
 show wpAny _ X.A (assign (.Name y py) X.env (.ref A')) _ _ _
 refine wpAny_assign_Name (Zlf J hN hk (.inl hy) (v:=.ref A') rfl (fun s'' J' ⟨a,sb,ha⟩=>?_) (.inr hy))
 have hne:a≠C:=by
  rcases ha with e | e
  ·rw [e];exact Ne.symm f1
  ·exact f4 y a e
 refine ⟨m,hn.sameBut sb (Ne.symm hne),fun h' hs'=>⟨_,H',J'.turned (t':=s''.toks) (fun b o hb e=>hs'.extBut b o hb e) f0 f1 f3 f4 f5,q⟩⟩
end
theorem Zha {J:It}{xs:List V}{Ok:Hp→Prop}(R:Zqr J xs Ok) {n:Nat}{js:List Nat}{g:TG}{tt:TT}{te:TE}{σ:St}{Q:VK}{H1:Hp}(hz:xs.length≤sizeLine)
  (Pv:Addr→Nat→List V→St→Hp→Prop) (h0:∀ D,H1 D=none→Pv D 0 [] (sgC n js σ) (upd H1 D (.lst [])))
  (hok:∀ D i ys σ' H,i≤xs.length→Pv D i ys σ' H→Ok H∧ys.length≤i)
  (hs:∀ D i x ys σ' H,H1 D=none→xs[i]?=some x→Pv D i ys σ' H→g x σ' H fun σ3 H3=>tt σ3 H3 fun b H4 =>
   if b=true then te σ3 H4 fun v H5=>H5 D=some (.lst ys)∧Pv D (i + 1) (ys++[v]) σ3 (upd H5 D (.lst (ys++[v]))) else Pv D (i + 1) ys σ3 H4)
  (hd:∀ D ys σ' H,H1 D=none→Pv D xs.length ys σ' H→Q (.ref D) H):
  compBody n js g tt te σ Q J H1:=by
 intro D hD
 refine ⟨fun i m ys σ' H=>m=xs.length - i∧i≤xs.length∧Pv D i ys σ' H,⟨xs.length,by simp,Nat.zero_le _,h0 D hD⟩,?_⟩
 rintro i m ys σ' H ⟨rfl,hi,p⟩
 obtain ⟨q,hy⟩:=hok D i ys σ' H hi p
 by_cases hlt:i<xs.length
 ·have hx:xs[i]?=some xs[i]:=by simp [hlt]
  refine .inr ⟨R.go i _ H q hx,by omega,Pv D (i + 1),fun ys3 σ3 H3 p3=>⟨xs.length - (i + 1),by omega,rfl,hlt,p3⟩,fun x H' y=>?_⟩
  obtain ⟨e1,e2⟩:=R.yld i _ H x H' q hx y
  rw [e2]
  exact hs D i x ys σ' H hD (by rw [e1];exact hx) p
 ·have e:i=xs.length:=by omega
  subst e
  exact .inl ⟨R.stop H q,hd D ys σ' H hD p⟩
theorem Ze9 {J:It}{xs:List V}{Ok:Hp→Prop}(R:Zqr J xs Ok) {js:List Nat}{tt:TT}{te:TE}{σ:St}{Q:VK}{H1:Hp}(hz:xs.length≤sizeLine) (p:V→Bool) (f:V→V)
  (hok:∀ D ys,H1 D=none→Ok (upd H1 D (.lst ys)))
  (ht:∀ D ys x (R:Bool→Hp→Prop),H1 D=none→x∈xs→R (p x) (upd H1 D (.lst ys))→tt (some x :: js.map fun j=>(σ[j]?).join) (upd H1 D (.lst ys)) R)
  (he:∀ D ys x (R:V→Hp→Prop),H1 D=none→x∈xs→p x=true→R (f x) (upd H1 D (.lst ys))→te (some x :: js.map fun j=>(σ[j]?).join) (upd H1 D (.lst ys)) R)
  (hd:∀ D,H1 D=none→Q (.ref D) (upd H1 D (.lst ((xs.filter p).map f)))):
  compBody 1 js (Zet 0) tt te σ Q J H1:=by
 refine Zha R hz (fun D i ys σ' H=>H1 D=none∧ys=((xs.take i).filter p).map f∧(∃ o,σ'=o :: js.map fun j=>(σ[j]?).join)∧H=upd H1 D (.lst ys)) ?_ ?_ ?_ ?_
 ·intro D hD
  exact ⟨hD,by simp,⟨none,rfl⟩,rfl⟩
 ·rintro D i ys σ' H hi ⟨hD,e,_,rfl⟩
  refine ⟨hok D ys hD,?_⟩
  rw [e,List.length_map]
  exact Nat.le_trans (List.length_filter_le _ _) (by rw [List.length_take];omega)
 ·rintro D i x ys σ' H hD hx ⟨_,e,⟨o,rfl⟩,rfl⟩
  show tt (some x :: js.map fun j=>(σ[j]?).join) (upd H1 D (.lst ys)) _
  have hm:x∈xs:=List.mem_of_getElem? hx
  refine ht D ys x _ hD hm ?_
  cases hp:p x with
  | true =>
   rw [if_pos rfl]
   refine he D ys x _ hD hm hp ⟨uS,hD,?_,⟨_,rfl⟩,Zhf⟩
   rw [take_succ_filter p xs i x hx,hp,List.map_append,e]
   rfl
  | false =>
   rw [if_neg Bool.false_ne_true]
   refine ⟨hD,?_,⟨_,rfl⟩,rfl⟩
   rw [take_succ_filter p xs i x hx,hp,List.map_append,e]
   simp
 ·rintro D ys σ' H hD ⟨_,e,_,rfl⟩
  rw [List.take_length] at e
  rw [e]
  exact hd D hD
end L2
namespace L2
open PySem PySem.Spec PyProof.Rows
section
variable {X:Cx}
theorem Zmu {bs:List Bool}{its:List Value}(r:Zcn (bs.map V.bl) its):∀ (i:Nat) (v:Value),its[i]?=some v→v=Value.bool (bs.getD i false):=fun i v h=>by
 have hl:=r.length
 rw [List.length_map] at hl
 have hi:i<its.length:=(List.getElem?_eq_some_iff.mp h).1
 have hb:(bs.map V.bl)[i]?=some (V.bl (bs.getD i false)):=by
  rw [List.getElem?_map,List.getD_eq_getElem?_getD]
  have:i<bs.length:=by omega
  simp [this]
 obtain ⟨u,hu,ru⟩:=r.get hb
 rw [h] at hu
 cases hu
 exact ru
theorem Zr4 {bs:List Bool}:(List.range bs.length).all (fun i=>bs.getD i false)=bs.all id:=by
 rw [Bool.eq_iff_iff]
 simp only [List.all_eq_true,List.mem_range,id]
 constructor
 ·intro h b hb
  obtain ⟨i,hi,e⟩:=List.mem_iff_getElem.mp hb
  have:=h i hi
  rw [List.getD_eq_getElem?_getD] at this
  simpa [hi,e] using this
 ·intro h i hi
  rw [List.getD_eq_getElem?_getD]
  simp only [List.getElem?_eq_getElem hi,Option.getD_some]
  exact h _ (List.getElem_mem hi)
theorem Zr3 {bs:List Bool}:(List.range bs.length).any (fun i=>bs.getD i false)=bs.any id:=by
 rw [Bool.eq_iff_iff]
 simp only [List.any_eq_true,List.mem_range,id]
 constructor
 ·rintro ⟨i,hi,e⟩
  rw [List.getD_eq_getElem?_getD] at e
  simp only [List.getElem?_eq_getElem hi,Option.getD_some] at e
  exact ⟨_,List.getElem_mem hi,e⟩
 ·rintro ⟨b,hb,e⟩
  obtain ⟨i,hi,e'⟩:=List.mem_iff_getElem.mp hb
  refine ⟨i,hi,?_⟩
  rw [List.getD_eq_getElem?_getD]
  simp only [List.getElem?_eq_getElem hi,Option.getD_some]
  rw [e',e]
def Z1v (K:PySem.W.Frag) (f:List Bool→Bool):List V→Hp→VK→Prop:=fun xs H Q=>∃ a bs,xs=[.ref a]∧SqL K H a (bs.map V.bl)∧Q (.bl (f bs)) H
theorem Zh8 (hc:X.calm=true):Zja X (.builtin "all") (Z1v X.K fun bs=>bs.all id):=by
 intro pins s σ H xs us Q I r h
 obtain ⟨a,bs,rfl,ha,q⟩:=h
 obtain ⟨u,rfl,ru⟩:=Zjb r
 cases ru
 obtain ⟨its,rv,p,hz⟩:=I.list ha
 have hl:=rv.length
 rw [List.length_map] at hl
 refine call_all_walk (wpAny_pyIter_list p.isList ?_)
 have hne:a≠s.heap.objs.size:=by
  obtain ⟨o,ho,_⟩:=p.isList
  exact Nat.ne_of_lt (Heap.lt_size ho)
 refine ⟨s.heap.objs.size,_,_,_,_,_,fun i=>bs.getD i false,rfl,Walks.list (A:=X.A.in1) (I.ok.hd hc) s.heap.objs.size a hne its.toArray,⟨⟨_,Heap.get?_push_size _ rfl,rfl,rfl⟩,?_⟩,?_,?_⟩
 ·obtain ⟨o,ho,r'⟩:=p.isList
  exact ⟨o,Heap.get?_push_of_some _ ho,r'⟩
 ·intro i v s' Q' E' hv hq
  have e:=Zmu rv i v (by simpa using hv)
  subst e
  exact wpAny_truthy_bool hq
 ·intro h' tk hk
  refine ⟨.bl (bs.all id),H,I.kept fun b o e=>hk b o ?_ (Heap.get?_push_of_some _ e),?_,q⟩
  ·have hb:=Heap.lt_size e
   intro z
   have z':b=s.heap.objs.size:=by simpa using z
   exact Nat.ne_of_lt hb z'
  ·have:its.toArray.size=bs.length:=by simp [hl]
   rw [this,Zr4]
   rfl
theorem Zpi (hc:X.calm=true):Zja X (.builtin "any") (Z1v X.K fun bs=>bs.any id):=by
 intro pins s σ H xs us Q I r h
 obtain ⟨a,bs,rfl,ha,q⟩:=h
 obtain ⟨u,rfl,ru⟩:=Zjb r
 cases ru
 obtain ⟨its,rv,p,hz⟩:=I.list ha
 have hl:=rv.length
 rw [List.length_map] at hl
 refine call_any_walk (wpAny_pyIter_list p.isList ?_)
 have hne:a≠s.heap.objs.size:=by
  obtain ⟨o,ho,_⟩:=p.isList
  exact Nat.ne_of_lt (Heap.lt_size ho)
 refine ⟨s.heap.objs.size,_,_,_,_,_,fun i=>bs.getD i false,rfl,Walks.list (A:=X.A.in1) (I.ok.hd hc) s.heap.objs.size a hne its.toArray,⟨⟨_,Heap.get?_push_size _ rfl,rfl,rfl⟩,?_⟩,?_,?_⟩
 ·obtain ⟨o,ho,r'⟩:=p.isList
  exact ⟨o,Heap.get?_push_of_some _ ho,r'⟩
 ·intro i v s' Q' E' hv hq
  have e:=Zmu rv i v (by simpa using hv)
  subst e
  exact wpAny_truthy_bool hq
 ·intro h' tk hk
  refine ⟨.bl (bs.any id),H,I.kept fun b o e=>hk b o ?_ (Heap.get?_push_of_some _ e),?_,q⟩
  ·have hb:=Heap.lt_size e
   intro z
   have z':b=s.heap.objs.size:=by simpa using z
   exact Nat.ne_of_lt hb z'
  ·have:its.toArray.size=bs.length:=by simp [hl]
   rw [this,Zr3]
   rfl
def Z2s (i j:Int):Prop:=Builtin.Int.intBits i≤2 ^ 20∧Builtin.Int.intBits j≤2 ^ 20
theorem Znf:OpR X (binaryOp .Mult) (rI Z2s fun i j=>.int (i * j)):=opI fun _ _ _ _ _ _ _ hc q=>mul_int q (IntMulOk.of_bits hc.1 hc.2)
def Z2u (i j:Int):Prop:=0<j∧j<4611686018427387904
theorem Zuu:OpR X (binaryOp .FloorDiv) (rI Z2u fun i j=>.int (i / j)):=opI fun i j _ _ _ _ _ hc q=>by
 have h1:(0:Int)<j:=hc.1
 have h2:j<4611686018427387904:=hc.2
 refine floordiv_int (by omega) (by rw [Int.fdiv_eq_ediv_of_nonneg i (by omega)];exact q) (.inl (PyProof.noPylong_of_log2 ?_))
 have h3:j.natAbs.log2<62:=(Nat.log2_lt (by omega)).mpr (by omega)
 omega
def Z4r:V→Option Int→Option Int→Hp→VK→Prop:=fun x lo hi H Q=>∃ z,x=.str z∧z.length≤sizeLine∧Q (.str (Txt.slice z lo hi)) H
theorem Zv8:SlR X Z4r:=by
 intro pins s σ H x v vl vu lo hi sl Q I rx hs pl pu h
 obtain ⟨z,rfl,hz,q⟩:=h
 obtain ⟨t,rfl⟩:=rx
 refine ⟨"str",_,F.slot_str_getitem.lookup,typeIs_str _ _ _,?_⟩
 have fin:∀ t' k,EP X pins σ Q (.str (Txt.slice z lo hi) t') { s with toks:=k }:=fun t' k=>⟨.str _,H,I.tok _,⟨_,rfl⟩,q⟩
 have hsz:=Nat.le_trans (Txt.slice_le z lo hi) hz
 obtain ⟨o,h1,h2,h3⟩:=hs
 cases pl with
 | none =>
  cases pu with
  | none=>exact wpAny_getItem_str_slice (l:=none) (u:=none) (st:=none) ⟨o,h1,h2,h3⟩ rfl (post_val_or_str ⟨hsz,fin⟩)
  | int j uj=>exact wpAny_getItem_str_slice (l:=none) (u:=some (j,uj)) (st:=none) ⟨o,h1,h2,h3⟩ rfl (post_val_or_str ⟨hsz,fin⟩)
 | int i ui =>
  cases pu with
  | none=>exact wpAny_getItem_str_slice (l:=some (i,ui)) (u:=none) (st:=none) ⟨o,h1,h2,h3⟩ rfl (post_val_or_str ⟨hsz,fin⟩)
  | int j uj=>exact wpAny_getItem_str_slice (l:=some (i,ui)) (u:=some (j,uj)) (st:=none) ⟨o,h1,h2,h3⟩ rfl (post_val_or_str ⟨hsz,fin⟩)
def Z4w (K:PySem.W.Frag):List V→Hp→VK→Prop:=fun xs H Q=>∃ x n t b,xs=[x,.ty n]∧Zqq K H x t∧PySem.W.kitOne K t (.type n)=some b∧Q (.bl b) H
theorem Zvy:Zja X (.builtin "isinstance") (Z4w X.K):=by
 intro pins s σ H xs us Q I r h
 obtain ⟨x,n,t,b,rfl,ty,e,q⟩:=h
 obtain ⟨u,w',rfl,r1,r2⟩:=Zyy r
 cases r2
 exact Zs9 I r1 ty e fun tk=>⟨.bl b,H,I.tok _,rfl,q⟩
end
def Z0w (osc:Scope) (on:List Str) (scope:Scope) (frees:List Str) (js:List Nat):Bool :=
 (scope.kind == .function)&&scope.names.all (fun y=>y.2 != .cell)&&scope.names.all (fun y=>y.2 != .local || scope.names.lookup y.1 == some .local) &&
 scope.names.all (fun y=>y.2 != .free || (osc.names.lookup y.1 == some .cell || osc.names.lookup y.1 == some .free))&&frees.all (fun x=>scope.names.lookup x == some .free)&&decide (js.map (fun j=>on[j]?)=frees.map some)
theorem Za0 {X:Cx}{osc scope:Scope}{on own frees:List Str}{js:List Nat}(h:Z0w osc on scope frees js=true) (h1:X.env.scope=osc) (h2:X.N=on) (h3:X.calm=true):Zfn X scope own frees js:=by
 subst h1
 subst h2
 unfold Z0w at h
 simp only [Bool.and_eq_true,List.all_eq_true,decide_eq_true_eq,Bool.or_eq_true,bne_iff_ne,beq_iff_eq,ne_eq] at h
 obtain ⟨⟨⟨⟨⟨a,b⟩,c⟩,d⟩,e⟩,f⟩:=h
 exact ⟨h3,a,b,fun y hy z=>(c y hy).resolve_left (fun q=>q z),fun y hy z=>(d y hy).resolve_left (fun q=>q z),e,f⟩
def Z35 (t u:TS):TS:=fun D σ H=>∃ M:St→Hp→Prop,t { D with nx:=M } σ H∧∀ σ' H',M σ' H'→u D σ' H'
theorem Zep {X:Cx}{st:Stmt}{Zor:List Stmt}{t u:TS} (h1:PS X st t) (h2:PSs X Zor u):PSs X (st :: Zor) (Z35 t u):=by
 intro pins s σ H D I h
 obtain ⟨M,h,hM⟩:=h
 refine wpAny_execs_cons (thn (h1 pins s σ H { D with nx:=M } I h) fun f s1 q=>?_)
 cases f with
 | next =>
  obtain ⟨σ',H',I',q⟩:=q
  exact h2 pins s1 σ' H' D I' (hM _ _ q)
 | ret v=>exact q
 | brk=>exact q
 | cont=>exact q
structure Def (K:PySem.W.Frag) (mg:Str→Option Value) (x:Str) (st:Stmt) (ps:List Str) (f:Addr) (fd:FuncData):Prop where
 fn:Fun K x x st f fd
 b:Zhm K fd ps []
 m:mg x=some (.ref f)
theorem Zaf {X:Cx}{k:Nat}{f:Addr}{fd:FuncData}{ps:List Str}{sp:Sp}{x:Str}{st:Stmt}{p pos:Pos}{e:Expr}{es:List Expr}{t:TA}(d:Def X.K X.mg x st ps f fd) (F:Za3 X.prog X.w X.K X.mg X.base CX0 k f fd ps sp) (hr:Zec k X.A)
  (ha:PA X (e :: es) t) (hg:Gl X x:=by rfl) (hdb:(x == ("__debug__":Str))=false:=by decide) (he:starEach (e :: es) X.env=(false,eval e X.env):: starEach es X.env:=by rfl) (hpl:(backTo pos (starEach es X.env)).any (·.1)=false:=by rfl):
  PE X (.Call (.Name x p) (e :: es) [] pos) (Zy9 sp [] E0 t):=Zxk F hr hg d.m d.fn.kp d.b .nil Ze1 ha hdb he hpl
theorem sL {n:Nat}(h:n≤100000):n≤sizeLine:=by rw [sizeLine_eq];omega
end L2
namespace L2
open PySem PySem.Spec PyProof.Rows PySem.W
mutual
inductive Rep (K:PySem.W.Frag) (H:Hp):V→Dat→Prop
 | none:Rep K H .non .none
 | bool (b:Bool):Rep K H (.bl b) (.bool b)
 | int (i:Int):Rep K H (.int i) (.int i)
 | str (x:Str):Rep K H (.str x) (.str x)
 | tuple {a:Addr} {xs:List V} {ds:List Dat}:SqT K H a xs→Reps K H xs ds→Rep K H (.ref a) (.tuple ds)
 | list {a:Addr} {xs:List V} {ds:List Dat}:SqL K H a xs→Reps K H xs ds→Rep K H (.ref a) (.list ds)
inductive Reps (K:PySem.W.Frag) (H:Hp):List V→List Dat→Prop
 | nil:Reps K H [] []
 | cons {v:V} {vs:List V} {d:Dat} {ds:List Dat}:Rep K H v d→Reps K H vs ds→Reps K H (v :: vs) (d :: ds)
end
theorem Zal.tup {K:PySem.W.Frag}{H H':Hp}{a:Addr}{xs:List V}(e:Zal H H') (h:SqT K H a xs):SqT K H' a xs:=by
 rcases h with (h | ⟨o,h⟩) | h
 ·exact .inl (.inl (e _ _ h))
 ·exact .inl (.inr ⟨o,e _ _ h⟩)
 ·exact .inr h
mutual
theorem Rep.mono {K:PySem.W.Frag}{H H':Hp}(e:Zal H H'):∀ {v:V}{d:Dat},Rep K H v d→Rep K H' v d
 | _,_,.none=>.none
 | _,_,.bool b=>.bool b
 | _,_,.int i=>.int i
 | _,_,.str x=>.str x
 | _,_,.tuple h r=>.tuple (e.tup h) (Reps.mono e r)
 | _,_,.list h r=>.list (e.seq h) (Reps.mono e r)
theorem Reps.mono {K:PySem.W.Frag}{H H':Hp}(e:Zal H H'):∀ {vs:List V}{ds:List Dat},Reps K H vs ds→Reps K H' vs ds
 | _,_,.nil=>.nil
 | _,_,.cons h r=>.cons (Rep.mono e h) (Reps.mono e r)
end
section
variable {X:Cx} {pins:List (Addr×Obj)} {σ:St} {H:Hp} {s:Shared}
mutual
theorem Rep.reads (I:Inv X pins σ H s):∀ {v:V}{d:Dat}{u:Value},Rep X.K H v d→Zc4 v u→∃ as,Reads s.heap u (kqdP d) as
 | _,_,_,.none,r=>by cases (show _=Value.none from r);rw [kqdP];exact ⟨_,Reads.none⟩
 | _,_,_,.bool b,r=>by cases (show _=Value.bool b from r);rw [kqdP];exact ⟨_,Reads.bool b⟩
 | _,_,_,.int i,r=>by obtain ⟨t,e⟩:=(show ∃ t,_=Value.int i t from r);cases e;rw [kqdP];exact ⟨_,Reads.int i t⟩
 | _,_,_,.str x,r=>by obtain ⟨t,e⟩:=(show ∃ t,_=Value.str x t from r);cases e;rw [kqdP];exact ⟨_,Reads.str x t⟩
 | _,_,_,.tuple (a:=a) h q,r=>by
  cases (show _=Value.ref a from r)
  obtain ⟨its,rv,⟨o,e,c,n,d⟩,_⟩:=I.tuple h
  obtain ⟨as,p⟩:=Reps.reads I q rv
  rw [kqdP]
  exact ⟨as,reads_tuple_at e c d (by simpa using p)⟩
 | _,_,_,.list (a:=a) h q,r=>by
  cases (show _=Value.ref a from r)
  obtain ⟨its,rv,⟨o,n,e,c,_,d⟩,_⟩:=I.list h
  obtain ⟨as,p⟩:=Reps.reads I q rv
  rw [kqdP]
  exact ⟨_,reads_list_at e c d (by simpa using p)⟩
theorem Reps.reads (I:Inv X pins σ H s):∀ {vs:List V}{ds:List Dat}{us:List Value},Reps X.K H vs ds→Zcn vs us→∃ as,ReadsAll s.heap us (kqdPs ds) as
 | _,_,_,.nil,r=>by cases r;rw [kqdPs];exact ⟨_,ReadsAll.nil⟩
 | _,_,_,.cons h q,r=>by
  cases r with
  | cons r1 r2 =>
   obtain ⟨as,p⟩:=Rep.reads I h r1
   obtain ⟨bs,t⟩:=Reps.reads I q r2
   rw [kqdPs]
   exact ⟨_,ReadsAll.cons p t⟩
end
end
noncomputable def dEq (d e:Dat):Bool:=@decide (d=e) (Classical.propDecidable _)
theorem Zdv (d:Dat):dEq d d=true:=by unfold dEq;exact @decide_eq_true _ (Classical.propDecidable _) rfl
theorem Zyj {d e:Dat}(h:d=e):dEq d e=true:=by rw [h];exact Zdv e
theorem Zfi {d e:Dat}(h:d≠e):dEq d e=false:=by unfold dEq;exact @decide_eq_false _ (Classical.propDecidable _) h
theorem Zk3 {d e:Dat}{n k:Nat} (h1:kqdOk n d=true) (h2:kqdOk k e=true):PyData.eqv (kqdP d) (kqdP e)=dEq d e:=by
 have q:=kqd_eqv n d e k h1 h2
 by_cases h:d=e
 ·rw [Zyj h];exact q.mpr h
 ·rw [Zfi h];exact Bool.eq_false_iff.mpr fun x=>h (q.mp x)
theorem Zdp {d:Dat}(h:kqdOk 9 d=true):SeqAt.shaped (kqdP d)=true:=by
 have l:=kqd_lay 9 d h
 unfold SeqAt.shaped
 rw [l.1,Bool.true_and]
 exact decide_eq_true (Nat.le_trans l.2 (by decide))
section
variable {X:Cx}
noncomputable def Z1t (K:PySem.W.Frag) (f:Bool→Bool):R2:=fun x y H Q=>∃ d e,Rep K H x d∧Rep K H y e∧kqdOk 9 d=true∧kqdOk 9 e=true∧Q (.bl (f (dEq d e))) H
theorem Zsj (hu:X.A.units + 64<cLine):OpR X (compareOp .Eq) (Z1t X.K id):=by
 intro pins s σ H x y v u Q I rx ry h
 obtain ⟨d,e,h1,h2,k1,k2,q⟩:=h
 obtain ⟨as,ra⟩:=h1.reads I rx
 obtain ⟨bs,rb⟩:=h2.reads I ry
 exact eq_dataH ra rb (Zdp k1) (Zdp k2) hu (Zbs I q (by rw [Zk3 k1 k2];rfl))
theorem Zox (hu:X.A.units + 64<cLine):OpR X (compareOp .NotEq) (Z1t X.K Bool.not):=by
 intro pins s σ H x y v u Q I rx ry h
 obtain ⟨d,e,h1,h2,k1,k2,q⟩:=h
 obtain ⟨as,ra⟩:=h1.reads I rx
 obtain ⟨bs,rb⟩:=h2.reads I ry
 exact ne_dataH ra rb (Zdp k1) (Zdp k2) hu (Zbs I q (by rw [Zk3 k1 k2]))
end
end L2
namespace L2
open PySem PySem.Spec PyProof.Rows
section
variable {X:Cx} {pins:List (Addr×Obj)} {σ:St} {H H':Hp} {s:Shared} {a:Addr} {kvs:List (Key×V)} {o:Obj}
theorem Inv.reH (I:Inv X pins σ H s) (base:Un X.fs X.ex X.H₀ H' X.s₀.heap s.heap) (hn:∀ b,H b=none→H' b=none) (hok:HOk X.prog X.w H' s.heap):Inv X pins σ H' s :=
 ⟨I.ok,I.os,I.bare,base,I.loc,I.cell,hn _ I.free,fun x c e=>hn _ (I.freeC x c e),fun p hp=>by
  obtain ⟨e,n,r⟩:=I.pin p hp
  exact ⟨e,hn _ n,r⟩,hok,I.len⟩
theorem Inv.reAt {u u':HO}(I:Inv X pins σ H s) (h:H a=some u) (nt:∀ xs,u≠.tup xs) (no:∀ y,u≠.own y) (nb:∀ ps,u≠.tbl ps) (nf:∀ o v,X.H₀ a≠some (.frz o v))
  (ok:Zc5 X.prog X.w H s.heap a u→Zc5 X.prog X.w (upd H a u') s.heap a u'):Inv X pins σ (upd H a u') s:=by
 have hn:∀ b,H b=none→upd H a u' b=none:=fun b e=>by
  rw [Zac]
  ·exact e
  ·rintro rfl;rw [h] at e;cases e
 refine I.reH ⟨I.base.keep,I.base.slot,fun b ob e n hx=>hn b (I.base.free b ob e n hx),I.base.there,fun b xs e=>?_,fun b ob v e=>?_,fun b ps e=>?_⟩ hn ?_
 ·have q:=I.base.tups b xs e
  rw [Zac]
  ·exact q
  ·rintro rfl;rw [h] at q;exact nt xs (Option.some.inj q)
 ·have q:=I.base.frzs b ob v e
  rw [Zac]
  ·exact q
  ·rintro rfl;exact nf ob v e
 ·obtain ⟨m,q⟩:=I.base.tbls b ps e
  refine ⟨m,?_⟩
  rw [Zac]
  ·exact q
  ·rintro rfl;rw [h] at q;exact nb _ (Option.some.inj q)
 ·intro b v e
  by_cases hb:b=a
  ·subst hb
   rw [uS] at e
   cases e
   exact ok (I.hok b u h)
  ·rw [Zac hb] at e
   refine (I.hok b v e).stay (fun _ _ _ q=>q) (fun c q=>?_) fun c xs q=>?_
   ·rw [Zac]
    ·exact q
    ·rintro rfl;rw [h] at q;exact no _ (Option.some.inj q)
   ·rw [Zac]
    ·exact q
    ·rintro rfl;rw [h] at q;exact nt _ (Option.some.inj q)
theorem Inv.freeze (I:Inv X pins σ H s) (h:H a=some (.dK kvs)) (ho:s.heap.get? a=some o):Inv X pins σ (upd H a (.frz o (.dK kvs))) s∧∀ o' v,X.H₀ a≠some (.frz o' v):=by
 have nf:∀ o' v,X.H₀ a≠some (.frz o' v):=fun o' v e=>by
  have q:=I.base.frzs a o' v e
  rw [h] at q
  cases q
 refine ⟨I.reAt h (fun _ z=>nomatch z) (fun _ z=>nomatch z) (fun _ z=>nomatch z) nf fun k=>⟨ho,k.stay (fun _ _ _ q=>q) (fun c q=>?_) fun c xs q=>?_⟩,nf⟩
 ·rw [Zac]
  ·exact q
  ·rintro rfl;rw [h] at q;cases q
 ·rw [Zac]
  ·exact q
  ·rintro rfl;rw [h] at q;cases q
theorem Zwe {P:Program}{w:World}{k:Key}{u:Value}(h:(Zca P w).is k u=true):Zc4 (kV k) u:=by
 rcases Zcm (show Zns k u=true from h) with ⟨i,t,rfl,rfl⟩ | ⟨x,t,rfl,rfl⟩
 ·exact ⟨t,rfl⟩
 ·exact ⟨t,rfl⟩
end
def Itk (a:Addr) (o:Obj) (kvs:List (Key×V)):It :=
 ⟨fun i H=>i<kvs.length∧H a=some (.frz o (.dK kvs)),fun i H v H'=>H'=H∧∃ p,kvs[i]?=some p∧v=kV p.1,fun i H=>kvs.length≤i∧H a=some (.frz o (.dK kvs))⟩
def Itv (a:Addr) (o:Obj) (kvs:List (Key×V)):It :=
 ⟨fun i H=>i<kvs.length∧H a=some (.frz o (.dK kvs)),fun i H v H'=>H'=H∧∃ p,kvs[i]?=some p∧v=p.2,fun i H=>kvs.length≤i∧H a=some (.frz o (.dK kvs))⟩
theorem KV.get {κ:Type}:∀ {kvs:List (κ×V)}{vs:List (κ×Value)},KV kvs vs→∀ {i:Nat}{p:κ×V},kvs[i]?=some p→∃ u,vs[i]?=some (p.1,u)∧Zc4 p.2 u
 | _,_,.nil,i,p,h=>by simp at h
 | _,_,.cons r t,0,p,h=>by
  simp at h
  subst h
  exact ⟨_,by simp [r.1],r.2⟩
 | _,_,.cons r t,i + 1,p,h=>by
  obtain ⟨u,h1,h2⟩:=KV.get t (i:=i) (p:=p) (by simpa using h)
  exact ⟨u,by simpa using h1,h2⟩
theorem Zgb {P:Program}{w:World}{H:Hp}{h:Heap}{a:Addr}{o:Obj}{kvs:List (Key×V)}{es:Array DictEntry}{ep:Nat}(ok:Zc5 P w H h a (.frz o (.dK kvs))) (hd:o.data=.dict es ep):
  (a == sysModules)=false∧∃ vs,KV kvs vs∧h.DictAt (Zca P w) a vs ep:=by
 obtain ⟨ho,z,hs,vs,r,o',es',ep',h1,h2,h3,h4,h5,h6⟩:=ok
 rw [ho] at h1
 cases h1
 rw [hd] at h3
 cases h3
 exact ⟨hs,vs,r,o,es,ho,h2,hd,h4,h5,h6⟩
theorem Zq7 {P:Program}{w:World}{K:PySem.W.Frag}{tg:Expr} (a it:Addr) (o:Obj) (kvs:List (Key×V)) (es:Array DictEntry) (ep:Nat) (hd:o.data=.dict es ep):
  Zod P w K tg (Itk a o kvs) [it] it (fun i h=>h.IsKeyIter it a i kvs.length ep) where
 mem:=by simp
 obj:=fun i h st b hb=>by
  have e:b=it:=by simpa using hb
  subst e
  obtain ⟨o,e,c,d⟩:=st
  exact ⟨o,e,fun v z=>by rw [d] at z;cases z⟩
 keep:=fun i h h' st k=>by
  obtain ⟨o,ho,r⟩:=st
  exact ⟨o,k it (by simp) o ho,r⟩
 item:=by
  intro X hP hw hK hc i pins s σ H E I hf st hg
  subst hP hw hK
  obtain ⟨f0,f1,f2,f3,f4,f5⟩:=hf it (by simp)
  obtain ⟨hi,ha⟩:=hg
  obtain ⟨_,vs,r,dd⟩:=Zgb (I.hok a _ ha) hd
  obtain ⟨p,hp⟩:∃ p,kvs[i]?=some p:=⟨kvs[i],by simp [hi]⟩
  obtain ⟨u,hu,ru⟩:=r.get hp
  have hl:kvs.length=vs.length:=Paired.length r
  rw [hl] at st
  refine wpAny_pyNext_dict_item st dd hu fun key h' hk st' sb=>?_
  have I1:Inv X pins σ H { s with heap:=h' }:=I.turned (t':=s.toks) (fun b o hb e=>(sb.2 b hb).trans e) f0 f1 f3 f4 f5
  obtain ⟨o',e,c,d⟩:=id st'
  rw [← hl] at st'
  exact ⟨key,rfl,Znv (s:={ s with heap:=h' }) e c d (by decide) ⟨kV p.1,H,I1,Zwe hk,⟨rfl,p,hp,rfl⟩,st',fun b hb=>(hf b hb).1⟩⟩
 done:=by
  intro X hP hw hK hc i pins s σ H E I hf st hg
  subst hP hw hK
  obtain ⟨f0,f1,f2,f3,f4,f5⟩:=hf it (by simp)
  obtain ⟨hi,ha⟩:=hg
  obtain ⟨_,vs,r,dd⟩:=Zgb (I.hok a _ ha) hd
  have hl:kvs.length=vs.length:=Paired.length r
  rw [hl] at st
  exact wpAny_pyNext_dict_end (I.ok.hd hc) st dd (by simp;omega) fun h' eb=>⟨rfl,I.turned (t':=s.toks) (fun b o hb e=>eb b o hb e) f0 f1 f3 f4 f5⟩
 self:=fun _ _ _ _ _ st h=>wpAny_pyIter_keyiter st h
theorem Zq6 {P:Program}{w:World}{K:PySem.W.Frag}{tg:Expr} (a it:Addr) (o:Obj) (kvs:List (Key×V)) (es:Array DictEntry) (ep:Nat) (hd:o.data=.dict es ep):
  Zod P w K tg (Itv a o kvs) [it] it (fun i h=>h.IsValIter it a i kvs.length ep) where
 mem:=by simp
 obj:=fun i h st b hb=>by
  have e:b=it:=by simpa using hb
  subst e
  obtain ⟨o,e,c,d⟩:=st
  exact ⟨o,e,fun v z=>by rw [d] at z;cases z⟩
 keep:=fun i h h' st k=>by
  obtain ⟨o,ho,r⟩:=st
  exact ⟨o,k it (by simp) o ho,r⟩
 item:=by
  intro X hP hw hK hc i pins s σ H E I hf st hg
  subst hP hw hK
  obtain ⟨f0,f1,f2,f3,f4,f5⟩:=hf it (by simp)
  obtain ⟨hi,ha⟩:=hg
  obtain ⟨_,vs,r,dd⟩:=Zgb (I.hok a _ ha) hd
  obtain ⟨p,hp⟩:∃ p,kvs[i]?=some p:=⟨kvs[i],by simp [hi]⟩
  obtain ⟨u,hu,ru⟩:=r.get hp
  have hl:kvs.length=vs.length:=Paired.length r
  rw [hl] at st
  refine wpAny_pyNext_values_item st dd hu fun h' st' sb=>?_
  have I1:Inv X pins σ H { s with heap:=h' }:=I.turned (t':=s.toks) (fun b o hb e=>(sb.2 b hb).trans e) f0 f1 f3 f4 f5
  obtain ⟨o',e,c,d⟩:=id st'
  rw [← hl] at st'
  exact ⟨u,rfl,Znv (s:={ s with heap:=h' }) e c d (by decide) ⟨p.2,H,I1,ru,⟨rfl,p,hp,rfl⟩,st',fun b hb=>(hf b hb).1⟩⟩
 done:=by
  intro X hP hw hK hc i pins s σ H E I hf st hg
  subst hP hw hK
  obtain ⟨f0,f1,f2,f3,f4,f5⟩:=hf it (by simp)
  obtain ⟨hi,ha⟩:=hg
  obtain ⟨_,vs,r,dd⟩:=Zgb (I.hok a _ ha) hd
  have hl:kvs.length=vs.length:=Paired.length r
  rw [hl] at st
  exact wpAny_pyNext_values_end (I.ok.hd hc) st dd (by simp;omega) fun h' eb=>⟨rfl,I.turned (t':=s.toks) (fun b o hb e=>eb b o hb e) f0 f1 f3 f4 f5⟩
 self:=fun _ _ _ _ _ st h=>wpAny_pyIter_valiter st h
def Z31 (t:TS):TS:=fun D σ H=>∃ a kvs,H a=some (.dK kvs)∧∀ o,t D σ (upd H a (.frz o (.dK kvs)))
theorem Znb {X:Cx}{sts:List Stmt}{t:TS}(h:PSs X sts t):PSs X sts (Z31 t):=by
 intro pins s σ H D I q
 obtain ⟨a,kvs,ha,q⟩:=q
 obtain ⟨o,ho⟩:∃ o,s.heap.get? a=some o:=by
  obtain ⟨_,_,vs,_,o,_,_,e,_⟩:=I.hok a _ ha
  exact ⟨o,e⟩
 exact h pins s σ _ D (I.freeze ha ho).1 (q o)
theorem Zo9 {P:Program}{w:World}{H:Hp}{h:Heap}{a:Addr}{o:Obj}{kvs:List (Key×V)}(ok:Zc5 P w H h a (.frz o (.dK kvs))):∃ es ep,o.data=.dict es ep:=by
 obtain ⟨ho,z,hs,vs,r,o',es',ep',h1,h2,h3,_⟩:=ok
 rw [ho] at h1
 cases h1
 exact ⟨es',ep',h3⟩
theorem Zry {a:Addr}{o:Obj}{kvs:List (Key×V)}:Zqr (Itk a o kvs) (kvs.map fun p=>kV p.1) (fun H=>H a=some (.frz o (.dK kvs))) where
 go:=fun i x H ok hx=>by
  have:=(List.getElem?_eq_some_iff.mp hx).1
  rw [List.length_map] at this
  exact ⟨this,ok⟩
 yld:=fun i x H y H' ok hx h=>by
  obtain ⟨e,p,hp,hy⟩:=h
  rw [List.getElem?_map,hp] at hx
  exact ⟨hy.trans (Option.some.inj hx),e⟩
 stop:=fun H ok=>⟨by rw [List.length_map];exact Nat.le_refl _,ok⟩
theorem Zrx {a:Addr}{o:Obj}{kvs:List (Key×V)}:Zqr (Itv a o kvs) (kvs.map fun p=>p.2) (fun H=>H a=some (.frz o (.dK kvs))) where
 go:=fun i x H ok hx=>by
  have:=(List.getElem?_eq_some_iff.mp hx).1
  rw [List.length_map] at this
  exact ⟨this,ok⟩
 yld:=fun i x H y H' ok hx h=>by
  obtain ⟨e,p,hp,hy⟩:=h
  rw [List.getElem?_map,hp] at hx
  exact ⟨hy.trans (Option.some.inj hx),e⟩
 stop:=fun H ok=>⟨by rw [List.length_map];exact Nat.le_refl _,ok⟩
section
variable {X:Cx} {tg:Expr}
def Z18 (tl:TE):TI:=fun σ H R=>tl σ H fun x H1=>∃ a o kvs,x=.ref a∧H1 a=some (.frz o (.dK kvs))∧R (Itk a o kvs) H1
theorem Zxh {l:Expr}{tl:TE}(hl:PE X l tl):PI X tg l (Z18 tl):=by
 intro pins s σ H R I h
 refine thn (hl pins s σ H _ I h) fun v s1 ⟨x,H1,I1,r1,q1⟩=>?_
 obtain ⟨a,o,kvs,e,ha,q⟩:=q1
 subst e
 cases r1
 obtain ⟨es,ep,hd⟩:=Zo9 (I1.hok a _ ha)
 obtain ⟨hs,vs,r,dd⟩:=Zgb (I1.hok a _ ha) hd
 have hl:kvs.length=vs.length:=Paired.length r
 refine wpAny_pyIter_dict hs dd ?_
 refine ⟨s1.heap.objs.size,[s1.heap.objs.size],_,_,H1,rfl,I1.kept (t':=s1.toks) fun b o e=>Heap.get?_push_of_some _ e,Zq7 a _ o kvs es ep hd,⟨_,Heap.get?_push_size _ rfl,rfl,by rw [hl];rfl⟩,fun b hb=>?_,q⟩
 have e:b=s1.heap.objs.size:=by simpa using hb
 subst e
 exact I1.fpOk (Nat.le_refl _) (I1.hok.fresh (Nat.le_refl _))
end
end L2
namespace L2
open PySem PySem.Spec PyProof.Rows
theorem Zm8 {n:Nat}(h:n≤10000000):n≤sizeLine:=by rw [sizeLine_eq];omega
theorem Zm3:∀ {xs:List V}{us:List Value},xs.length=us.length→(∀ (i:Nat) (v:V) (u:Value),xs[i]?=some v→us[i]?=some u→Zc4 v u)→Zcn xs us
 | [],[],_,_=>.nil
 | [],_ :: _,h,_=>by simp at h
 | _ :: _,[],h,_=>by simp at h
 | x :: xs,u :: us,h,k=>.cons (k 0 x u rfl rfl) (Zm3 (by simpa using h) fun i v w hv hw=>k (i + 1) v w (by simpa using hv) (by simpa using hw))
theorem Zdf {J:It}{xs:List V}{Ok:Hp→Prop}(R:Zqr J xs Ok) {js:List Nat}{tt:TT}{te:TE}{σ:St}{Q:VK}{H1:Hp}(hz:xs.length≤sizeLine) (p:V→Bool) (F:Addr→V→V→Hp→Prop)
  (hF:∀ D x v H H',(∀ b o,b≠D→H b=some o→H' b=some o)→F D x v H→F D x v H')
  (hok:∀ H,Zal H1 H→Ok H)
  (ht:∀ x H (R:Bool→Hp→Prop),Zal H1 H→x∈xs→(∀ H',Zal H H'→R (p x) H')→tt (some x :: js.map fun j=>(σ[j]?).join) H R)
  (he:∀ D x H (R:V→Hp→Prop),Zal H1 H→(∃ ys,H D=some (.lst ys))→H1 D=none→x∈xs→p x=true→(∀ v H',Zal H H'→F D x v H'→R v H')→te (some x :: js.map fun j=>(σ[j]?).join) H R)
  (hd:∀ D H' ys,H1 D=none→Zal H1 H'→H' D=some (.lst ys)→Paired (fun x v=>F D x v H') (xs.filter p) ys→Q (.ref D) H'):
  compBody 1 js (Zet 0) tt te σ Q J H1:=by
 refine Zha R hz (fun D i ys σ' H=>H1 D=none∧Zal H1 H∧H D=some (.lst ys)∧Paired (fun x v=>F D x v H) ((xs.take i).filter p) ys∧∃ o,σ'=o :: js.map fun j=>(σ[j]?).join) ?_ ?_ ?_ ?_
 ·intro D hD
  exact ⟨hD,fun b o e=>by rw [Zac (nNo e hD)];exact e,uS,by simpa using Paired.nil,none,rfl⟩
 ·rintro D i ys σ' H hi ⟨hD,hs,hl,hp,_⟩
  refine ⟨hok H hs,?_⟩
  rw [← hp.length]
  exact Nat.le_trans (List.length_filter_le _ _) (by rw [List.length_take];omega)
 ·rintro D i x ys σ' H hD hx ⟨_,hs,hl,hp,o,rfl⟩
  show tt (some x :: js.map fun j=>(σ[j]?).join) H _
  have hm:x∈xs:=List.mem_of_getElem? hx
  refine ht x H _ hs hm fun H4 s4=>?_
  have hs4:Zal H1 H4:=hs.trans s4
  have mono:∀ {H H':Hp},(∀ b o,b≠D→H b=some o→H' b=some o)→Paired (fun x v=>F D x v H) ((xs.take i).filter p) ys→Paired (fun x v=>F D x v H') ((xs.take i).filter p) ys:=fun h q=>Paired.mapP q fun a b z=>hF D a b _ _ h z
  cases hpx:p x with
  | true =>
   rw [if_pos rfl]
   refine he D x H4 _ hs4 ⟨_,s4 _ _ hl⟩ hD hm hpx fun v H5 s5 f5=>⟨s5 _ _ (s4 _ _ hl),hD,fun b o e=>?_,uS,?_,_,rfl⟩
   ·rw [Zac (nNo e hD)]
    exact s5 _ _ (hs4 _ _ e)
   ·rw [take_succ_filter p xs i x hx,hpx,if_pos rfl]
    refine Paired.snoc (mono (fun b o hb e=>by rw [Zac hb];exact s5 _ _ (s4 _ _ e)) hp) (hF D _ _ _ _ (fun b o hb e=>by rw [Zac hb];exact e) f5)
  | false =>
   rw [if_neg Bool.false_ne_true]
   refine ⟨hD,hs4,s4 _ _ hl,?_,_,rfl⟩
   rw [take_succ_filter p xs i x hx,hpx,if_neg Bool.false_ne_true,List.append_nil]
   exact mono (fun b o _ e=>s4 _ _ e) hp
 ·rintro D ys σ' H hD ⟨_,hs,hl,hp,_⟩
  rw [List.take_length] at hp
  exact hd D H ys hD hs hl hp
section
variable {X:Cx}
def Zxb:V→List V→Hp→VK→Prop:=fun x vs H Q=>∃ l xs i y,x=.ref l∧vs=[.int i,y]∧H l=some (.lst xs)∧0≤i∧i≤xs.length∧xs.length<sizeLine∧Q .non (upd H l (.lst (xs.take i.toNat++y :: xs.drop i.toNat)))
theorem Zg2:MtM X "list.insert" Zxb:=by
 intro pins s σ H x vs v us Q I rx rv h
 obtain ⟨l,xs,i,y,rfl,rfl,hH,h0,h1,hz,q⟩:=h
 cases rx
 obtain ⟨u,w',rfl,⟨t,rfl⟩,ru⟩:=Zyy rv
 obtain ⟨z,its,n,r,hl,e⟩:=I.lstM hH
 have hs:sizeLine=16777216:=sizeLine_eq
 have hc:¬ (!Builtin.List.listFitsIndex i)=true:=by
  have:Builtin.List.listFitsIndex i=true:=by
   unfold Builtin.List.listFitsIndex
   simp
   omega
  rw [this]
  decide
 refine call_meets F.slot_list_insert ⟨_,e,rfl⟩ F.entry_list_insert (F.args_list_insert_3 _ _ _) (PySem.AutoSeq1.list_insert_list_int_val_1 l its.toArray n i t w' hc (by rw [List.size_toArray];omega)) ⟨e,?_⟩
 have hk:(if i<0 then (i + (its.toArray.size:Int)).toNat else min i.toNat its.toArray.size)=i.toNat:=by
  rw [if_neg (by omega),List.size_toArray]
  omega
 refine ⟨.non,_,I.lset (its':=its.take i.toNat++w' :: its.drop i.toNat) hH e ?_ ?_ ?_,rfl,q⟩
 ·show (its.toArray.extract 0 (if i<0 then (i + (its.toArray.size:Int)).toNat else min i.toNat its.toArray.size)).push w'++its.toArray.extract (if i<0 then (i + (its.toArray.size:Int)).toNat else min i.toNat its.toArray.size)=_
  rw [hk]
  apply Array.ext'
  simp
  exact List.take_of_length_le (by rw [List.length_drop];exact Nat.le_refl _)
 ·exact (r.take _).append (.cons ru (r.drop _))
 ·rw [List.length_append,List.length_cons,List.length_take,List.length_drop]
  omega
theorem Zlv {a:Expr}{ta:TE}{p1 p2 pos1 pos2:Pos}(hc:X.calm=true) (ha:PE X a ta) (hg1:Gl X "list") (hm1:X.mg "list"=none) (hg2:Gl X "range") (hm2:X.mg "range"=none)
  (hs:starEach [a] X.env=[(false,eval a X.env)]:=by rfl)
  (hs2:starEach [.Call (.Name "range" p2) [a] [] pos2] X.env=[(false,eval (.Call (.Name "range" p2) [a] [] pos2) X.env)]:=by rfl):
  PE X (.Call (.Name "list" p1) [.Call (.Name "range" p2) [a] [] pos2] [] pos1) (fun σ H Q=>Zle ta Zue σ H fun vs H1=>∃ j:Int,vs=[.int j]∧0≤j∧j≤1000000∧∀ l,H1 l=none→Q (.ref l) (upd H1 l (.lst (Zdg 0 j.toNat)))):=by
 intro pins s σ H Q I h
 refine wpAny_Call_Name_kw (Zg5 I hg1 hm1 PyProof.Rows.boot_list ?_ (by decide) (by decide))
 refine PyProof.Rows.callWith_type1 ?_ hs2 rfl
 refine Calls.spliced_cons ?_
 refine wpAny_Call_Name_kw (Zg5 I hg2 hm2 boot_range ?_ (by decide) (by decide))
 refine PyProof.Rows.callWith_type1 ?_ hs rfl
 have pa:PA X [a] (Zle ta Zue):=pC ha Zaa hs
 refine thn (pa pos2 pins s σ H (fun vs H1=>∃ j:Int,vs=[.int j]∧0≤j∧j≤1000000∧∀ l,H1 l=none→Q (.ref l) (upd H1 l (.lst (Zdg 0 j.toNat)))) I h) fun us s1 ⟨vs,H1,I1,r1,q1⟩=>?_
 obtain ⟨j,e,h0,h1,q⟩:=q1
 subst e
 obtain ⟨u,rfl,t,rfl⟩:=Zjb r1
 refine call_range_1 (Calls.spliced_nil ?_)
 have I2:Inv X pins σ H1 { s1 with heap:=s1.heap.push { cls:=.type "range",data:=.fields #[.int 0 s1.toks,.int j t,.int 1 (s1.toks + 1)] },toks:=s1.toks + 1 + 1 }:=I1.kept fun b o e=>Heap.get?_push_of_some _ e
 refine call_list_range (n:=j.toNat) (I1.ok.hd hc) (IsRange.new ..) (small_one (by decide) (by decide) (by omega) (by omega)) (by rw [rangeSize_one];split <;> omega) (by omega) fun h' tk acc' c' hk hS' hacc=>?_
 obtain ⟨a1,a2⟩:=hacc
 have hnew:H1 (s1.heap.push { cls:=.type "range",data:=.fields #[.int 0 s1.toks,.int j t,.int 1 (s1.toks + 1)] }).objs.size=none:=I2.hok.fresh (Nat.le_refl _)
 refine ⟨.ref _,_,I2.laid (o:=.lst (Zdg 0 j.toNat)) hk (Nat.le_refl _) ⟨?_,acc'.toList,c',?_,by simpa using hS'⟩,rfl,q _ hnew⟩
 ·rw [Zau]
  exact Zm8 (by omega)
 ·have len:(Zdg 0 j.toNat).length=acc'.toList.length:=by rw [Zau,Array.length_toList,a1]
  exact Zm3 len fun i v u hv hu=>by
   obtain ⟨hi,e⟩:=Za4 hv
   obtain ⟨t',e'⟩:=a2 i u (by rw [← Array.getElem?_toList];exact hu)
   rw [e,e']
   exact ⟨t',by rw [Int.mul_one]⟩
end
end L2
namespace Graph
variable {α:Type} [DecidableEq α]
inductive Reach (ups:α→List α):α→α→Prop
 | refl (a:α):Reach ups a a
 | step {a b c:α}:b∈ups a→Reach ups b c→Reach ups a c
theorem Reach.trans {ups:α→List α}{a b c:α}(h:Reach ups a b) (k:Reach ups b c):Reach ups a c:=by
 induction h with
 | refl=>exact k
 | step m _ ih=>exact .step m (ih k)
theorem Reach.one {ups:α→List α}{a b:α}(h:b∈ups a):Reach ups a b:=.step h (.refl b)
theorem Reach.snoc {ups:α→List α}{a b c:α}(h:Reach ups a b) (k:c∈ups b):Reach ups a c:=h.trans (.one k)
theorem Reach.rank {ups:α→List α}{rk:α→Nat}(hr:∀ a b,b∈ups a→rk b<rk a) {a b:α}(h:Reach ups a b):rk b≤rk a:=by
 induction h with
 | refl=>exact Nat.le_refl _
 | step m _ ih=>have:=hr _ _ m;omega
theorem Reach.rank_lt {ups:α→List α}{rk:α→Nat}(hr:∀ a b,b∈ups a→rk b<rk a) {a b:α}(h:Reach ups a b) (hne:a≠b):rk b<rk a:=by
 cases h with
 | refl=>exact absurd rfl hne
 | step m k =>
  have h1:=hr _ _ m
  have h2:=Reach.rank hr k
  omega
def kept (ups:α→List α) (left:List α):List α:=left.filter fun w=>(ups w).any fun u=>decide (u∈left)
theorem kept_sub {ups:α→List α}{left:List α}{w:α}(h:w∈kept ups left):w∈left:=(List.mem_filter.mp h).1
theorem kept_le (ups:α→List α) (left:List α):(kept ups left).length≤left.length:=List.length_filter_le _ _
theorem Zj0 {p:α→Bool}:∀ {l:List α},(l.filter p).length=l.length→l.filter p=l
 | [],_=>rfl
 | a :: r,h=>by
  have hle:=List.length_filter_le p r
  rw [List.filter_cons] at h ⊢
  cases hp:p a with
  | true =>
   rw [hp,if_pos rfl,List.length_cons,List.length_cons] at h
   rw [if_pos rfl,Zj0 (by omega)]
  | false =>
   rw [hp,if_neg Bool.false_ne_true,List.length_cons] at h
   omega
theorem Zo5 (rk:α→Nat):∀ (l:List α),l≠[]→∃ m,m∈l∧∀ x∈l,rk m≤rk x
 | [],h=>absurd rfl h
 | a :: r,_=>by
  by_cases hr:r=[]
  ·subst hr
   exact ⟨a,by simp,fun x hx=>by simp at hx;subst hx;exact Nat.le_refl _⟩
  ·obtain ⟨m,hm,hx⟩:=Zo5 rk r hr
   by_cases hc:rk a≤rk m
   ·refine ⟨a,by simp,fun x hx'=>?_⟩
    rcases List.mem_cons.mp hx' with e | e
    ·subst e;exact Nat.le_refl _
    ·exact Nat.le_trans hc (hx x e)
   ·refine ⟨m,List.mem_cons_of_mem _ hm,fun x hx'=>?_⟩
    rcases List.mem_cons.mp hx' with e | e
    ·subst e;omega
    ·exact hx x e
theorem kept_nil {ups:α→List α}{left:List α}{rk:α→Nat}(hr:∀ a∈left,∀ b∈ups a,rk b<rk a) (h:(kept ups left).length=left.length):left=[]:=by
 refine Classical.byContradiction fun hne=>?_
 obtain ⟨m,hm,hx⟩:=Zo5 rk left hne
 have e:kept ups left=left:=Zj0 h
 rw [← e] at hm
 obtain ⟨h1,h2⟩:=List.mem_filter.mp hm
 obtain ⟨u,hu,hd⟩:=List.any_eq_true.mp h2
 have hl:u∈left:=of_decide_eq_true hd
 have a:=hr m h1 u hu
 have b:=hx u hl
 omega
theorem nodup_le:∀ {l k:List α},l.Nodup→(∀ x∈l,x∈k)→l.length≤k.length
 | [],k,_,_=>Nat.zero_le _
 | a :: r,k,hn,hs=>by
  obtain ⟨h1,h2⟩:=List.nodup_cons.mp hn
  have ha:a∈k:=hs a (by simp)
  have:=nodup_le (k:=k.erase a) h2 fun x hx=>(List.mem_erase_of_ne (fun (e:x=a)=>h1 (by rw [← e];exact hx))).mpr (hs x (List.mem_cons_of_mem _ hx))
  rw [List.length_erase_of_mem ha] at this
  have hpos:0<k.length:=List.length_pos_of_mem ha
  rw [List.length_cons]
  omega
theorem closed_reach {ups:α→List α}{S:α→Prop}(hc:∀ x,S x→∀ y∈ups x,S y) {a b:α}(h:Reach ups a b) (ha:S a):S b:=by
 induction h with
 | refl=>exact ha
 | step m _ ih=>exact ih (hc _ ha _ m)
end Graph
namespace Md
open PySem L2
abbrev letters:Str:="abcdefghijklmnopqrstuvwxyz"
def Zkv (c:Nat):Bool:=decide (97≤c∧c≤122)
def Zb7 (x:Str):Bool:=decide (1≤x.length∧x.length≤8)&&x.cps.toList.all Zkv
theorem Zga:letters.cps.toList=[97,98,99,100,101,102,103,104,105,106,107,108,109,110,111,112,113,114,115,116,117,118,119,120,121,122]:=by decide +kernel
theorem Zqd {i:Nat}(h:i<26):letters.cps.toList[i]?=some (97 + i):=by
 rw [Zga]
 have:∀ i:_root_.Fin 26,([97,98,99,100,101,102,103,104,105,106,107,108,109,110,111,112,113,114,115,116,117,118,119,120,121,122]:List Nat)[i.1]?=some (97 + i.1):=by decide
 exact this ⟨i,h⟩
theorem Znp:letters.cps.toList=(List.range 26).map (97 + ·):=by rw [Zga];rfl
theorem Z0g (c:Nat):(!(Builtin.Str.occurrences letters ⟨#[c]⟩ 0 letters.length 1).isEmpty)=Zkv c:=by
 rw [StrLaws.found_one,Znp]
 unfold Zkv
 rw [decide_eq_decide,List.mem_map]
 constructor
 ·rintro ⟨a,ha,rfl⟩
  have:=List.mem_range.mp ha
  omega
 ·intro h
  exact ⟨c - 97,List.mem_range.mpr (by omega),by omega⟩
theorem Zfq (x:Str):x.cps.toList.length=x.length:=by simp [Str.length]
theorem Zs4 (c:Nat):(⟨#[c]⟩:Str).length=1:=rfl
theorem Zs5 (x y:Str):(x++y).length=x.length + y.length:=by
 show (x.cps++y.cps).size=_
 rw [Array.size_append]
 rfl
theorem Zpk (x y:Str):(x++y).cps.toList=x.cps.toList++y.cps.toList:=by
 show (x.cps++y.cps).toList=_
 rw [Array.toList_append]
theorem Zrc {x y:Str}(h:x.cps.toList=y.cps.toList):x=y:=by
 cases x;cases y
 congr 1
 exact Array.ext' h
def Zx7:V→V
 | .str y=>.bl (!(Builtin.Str.occurrences letters y 0 letters.length 1).isEmpty)
 | _=>.non
theorem Zrs (x:Str):((Zgv x).filter fun _=>true).map Zx7=(x.cps.toList.map Zkv).map V.bl:=by
 rw [List.filter_eq_self.mpr fun _ _=>rfl]
 unfold Zgv
 rw [List.map_map,List.map_map]
 refine List.map_congr_left fun c _=>?_
 show V.bl _=V.bl _
 rw [Z0g]
theorem Zd3 (x:Str):Zb7 x=true↔(1≤x.cps.toList.length∧x.cps.toList.length≤8)∧∀ c∈x.cps.toList,Zkv c=true:=by
 unfold Zb7
 rw [Bool.and_eq_true,decide_eq_true_eq,List.all_eq_true,Zfq]
theorem Zhz {x:Str}(h:Zb7 x=true):1≤x.length∧x.length≤8:=by
 have:=((Zd3 x).mp h).1
 rwa [Zfq] at this
theorem Zj7 {x:Str}(h:Zb7 x=true):PyData.strOk x=true:=by
 unfold PyData.strOk
 rw [Array.all_eq_true']
 intro c hc
 have:=((Zd3 x).mp h).2 c (by simpa using hc)
 have:=of_decide_eq_true this
 exact decide_eq_true (by omega)
def Zb1 (n:Nat):List Nat:=(97 + n % 26):: (if h:n / 26=0 then [] else Zb1 (n / 26))
termination_by n
decreasing_by omega
theorem Zd2 (n:Nat):Zb1 n=(97 + n % 26):: (if n / 26=0 then [] else Zb1 (n / 26)):=by
 rw [Zb1]
 by_cases h:n / 26=0
 ·rw [dif_pos h,if_pos h]
 ·rw [dif_neg h,if_neg h]
theorem Zfv:∀ (k n:Nat),n<26 ^ (k + 1)→(Zb1 n).length≤k + 1
 | 0,n,h=>by
  rw [Zd2,if_pos (by have:n<26:=h;omega)]
  exact Nat.le_refl _
 | k + 1,n,h=>by
  rw [Zd2]
  by_cases h0:n / 26=0
  ·rw [if_pos h0];simp
  ·rw [if_neg h0,List.length_cons]
   have:=Zfv k (n / 26) (Nat.div_lt_of_lt_mul (by rw [Nat.pow_succ] at h;omega))
   omega
theorem Zmi (n:Nat):∀ c∈Zb1 n,Zkv c=true:=by
 induction n using Nat.strongRecOn with
 | ind n ih =>
  rw [Zd2]
  intro c hc
  rcases List.mem_cons.mp hc with e | hc
  ·rw [e]
   exact decide_eq_true (by omega)
  ·by_cases h0:n / 26=0
   ·rw [if_pos h0] at hc;cases hc
   ·rw [if_neg h0] at hc
    exact ih (n / 26) (by omega) c hc
def Zyz:List Nat→Nat
 | []=>0
 | c :: r=>(c - 97) + 26 * Zyz r
theorem Zmg (n:Nat):Zyz (Zb1 n)=n:=by
 induction n using Nat.strongRecOn with
 | ind n ih =>
  rw [Zd2]
  unfold Zyz
  by_cases h0:n / 26=0
  ·rw [if_pos h0]
   unfold Zyz
   omega
  ·rw [if_neg h0,ih (n / 26) (by omega)]
   omega
def Zcz (n:Nat):Str:=⟨(Zb1 n).toArray⟩
theorem Zfh (n:Nat):(Zcz n).cps.toList=Zb1 n:=by simp [Zcz]
theorem Zmf {a b:Nat}(h:Zcz a=Zcz b):a=b:=by
 have:=congrArg (fun s:Str=>Zyz s.cps.toList) h
 simpa [Zfh,Zmg] using this
theorem Zmh (n:Nat):1≤(Zb1 n).length:=by rw [Zd2];simp
theorem Zfg {n:Nat}(h:n<26 ^ 8):Zb7 (Zcz n)=true:=by
 rw [Zd3,Zfh]
 exact ⟨⟨Zmh n,Zfv 7 n h⟩,Zmi n⟩
theorem Zvk (j:Int) (n:Nat) (h:0≤j):Builtin.Str.strSliceIndices none (some j) 1 n=List.range (min j.toNat n):=by
 unfold Builtin.Str.strSliceIndices sliceRange
 have h1:¬ j<0:=by omega
 simp only [show (1:Int) > 0 by decide,if_true,if_neg h1]
 have e:(max (0:Int) (min j (n:Int)))=((min j.toNat n:Nat):Int):=by omega
 rw [e]
 have e2:(if (0:Int)<((min j.toNat n:Nat):Int) then (((min j.toNat n:Nat):Int) - 0 + 1 - 1) / 1 else 0)=((min j.toNat n:Nat):Int):=by
  split
  ·rw [Int.ediv_one];omega
  ·omega
 rw [e2,Int.toNat_natCast]
 have:∀ l:List Nat,l.map (fun (k:Nat)=>((0:Int) + 1 * (k:Int)).toNat)=l:=fun l=>by
  conv=>rhs;rw [← List.map_id l]
  refine List.map_congr_left fun k _=>?_
  show _=k
  omega
 exact this _
theorem Zhv (l:List Nat):∀ m,m≤l.length→(List.range m).filterMap (fun i=>l.toArray[i]?)=l.take m
 | 0,_=>by simp
 | m + 1,h=>by
  rw [List.range_succ,List.filterMap_append,Zhv l m (by omega),List.take_add_one]
  have:m<l.length:=h
  simp [this]
theorem Zjn (x:Str) (j:Int) (h:0≤j):(Txt.slice x none (some j)).cps.toList=x.cps.toList.take j.toNat:=by
 unfold Txt.slice
 rw [Zvk j x.length h]
 have hl:=Zfq x
 split
 ·rename_i hc
  have:min j.toNat x.length=x.length:=by simpa using hc
  rw [List.take_of_length_le (by omega)]
 ·have q:=Zhv x.cps.toList (min j.toNat x.length) (by omega)
  have e:x.cps.toList.toArray=x.cps:=by simp
  rw [e] at q
  show ((List.range (min j.toNat x.length)).filterMap (x.cps[·]?)).toArray.toList=_
  rw [List.toList_toArray,q]
  by_cases hj:j.toNat≤x.length
  ·rw [Nat.min_eq_left hj]
  ·rw [Nat.min_eq_right (by omega),List.take_of_length_le (by omega),List.take_of_length_le (by omega)]
def Zm1 (o:HO):Prop:=∃ r b:Int,o=.lst [.int r,.int b]∧0≤r∧r<10 ^ 256∧0≤b∧b<2147483647
structure Drawn (p:Addr) (H H':Hp):Prop where
 keep:∀ b o,b≠p→H b=some o→H' b=some o
 pot:∃ o,H' p=some o∧Zm1 o
theorem Drawn.refl {p:Addr}{H:Hp}(h:∃ o,H p=some o∧Zm1 o):Drawn p H H:=⟨fun _ _ _ e=>e,h⟩
theorem Drawn.trans {p:Addr}{H H1 H2:Hp}(a:Drawn p H H1) (b:Drawn p H1 H2):Drawn p H H2:=⟨fun c o hc e=>b.keep c o hc (a.keep c o hc e),b.pot⟩
theorem Drawn.upd {p:Addr}{H:Hp}{o:HO}(h:Zm1 o):Drawn p H (L2.upd H p o):=⟨fun b u hb e=>by rw [Zac hb];exact e,_,uS,h⟩
theorem Drawn.new {p q:Addr}{H H':Hp}{o:HO}(d:Drawn p H H') (hq:H' q=none):Drawn p H (L2.upd H' q o):=
 ⟨fun b u hb e=>by rw [Zac (nNo (d.keep b u hb e) hq)];exact d.keep b u hb e,by
  obtain ⟨u,h1,h2⟩:=d.pot
  exact ⟨u,by rw [Zac (nNo h1 hq)];exact h1,h2⟩⟩
theorem Drawn.same {p:Addr}{H H1 H2:Hp}(d:Drawn p H H1) (s:Zal H1 H2):Drawn p H H2 :=
 ⟨fun b u hb e=>s _ _ (d.keep b u hb e),by obtain ⟨u,h1,h2⟩:=d.pot;exact ⟨u,s _ _ h1,h2⟩⟩
theorem Drawn.sub {p q:Addr}{H H1 H2:Hp}{o':HO}(d:Drawn p H H1) (k:∀ b o,b≠q→H1 b=some o→H2 b=some o) (hq:H q=none) (hp:p≠q):Drawn p H H2 :=
 ⟨fun b u hb e=>k _ _ (nNo e hq) (d.keep b u hb e),by obtain ⟨u,h1,h2⟩:=d.pot;exact ⟨u,k _ _ hp h1,h2⟩⟩
theorem _root_.L2.SqL.mono_new {K:PySem.W.Frag}{H:Hp}{a q:Addr}{xs:List V}{o:HO}(h:SqL K H a xs) (hq:H q=none):SqL K (L2.upd H q o) a xs :=
 Zal.seq (fun b u e=>by rw [Zac (nNo e hq)];exact e) h
theorem Za2 {n:Nat}(h:n≤100000):n<sizeLine:=by rw [sizeLine_eq];omega
def Zoh:List Expr→Option (List Str)
 | []=>some []
 | .Constant (.str x) _ _ :: r=>(Zoh r).map (x :: ·)
 | _=>none
theorem Zsg {X:Cx}:∀ {es:List Expr}{ws:List Str},Zoh es=some ws→PA X es (fun _ H Q=>Q (ws.map V.str) H):=by
 intro es
 induction es with
 | nil =>
  intro ws h
  have e:ws=[]:=(Option.some.inj h).symm
  subst e
  exact Zaa
 | cons e r ih =>
  intro ws h
  cases e with
  | Constant c j p =>
   cases c with
   | str x =>
    have h':(Zoh r).map (x :: ·)=some ws:=h
    obtain ⟨vs,h1,h2⟩:=Option.map_eq_some_iff.mp h'
    subst h2
    exact pC Zey (ih h1) rfl
   | _=>exact nomatch (show (none:Option (List Str))=some ws from h)
  | _=>exact nomatch (show (none:Option (List Str))=some ws from h)
theorem Zi4 (x:Str):∀ ws:List Str,inV (.str x) (ws.map V.str)=decide (x∈ws)
 | []=>rfl
 | w :: r=>by
  have ih:=Zi4 x r
  unfold inV at ih ⊢
  rw [List.map_cons,List.any_cons,ih]
  show ((w == x) || decide (x∈r))=decide (x∈w :: r)
  rw [Bool.eq_iff_iff]
  simp only [Bool.or_eq_true,beq_iff_eq,decide_eq_true_eq,List.mem_cons]
  constructor
  ·rintro (h | h)
   ·exact .inl h.symm
   ·exact .inr h
  ·rintro (h | h)
   ·exact .inl h.symm
   ·exact .inr h
theorem Zg8 (ws:List Str):(ws.map V.str).all Zk0=true:=by
 rw [List.all_eq_true]
 intro v hv
 obtain ⟨w,_,e⟩:=List.mem_map.mp hv
 rw [← e]
 rfl
theorem Zfs {K:PySem.W.Frag}{H:Hp}:∀ ws:List Str,Reps K H (ws.map V.str) (ws.map PySem.W.Dat.str)
 | []=>.nil
 | w :: r=>.cons (.str w) (Zfs r)
end Md
namespace Md
open PySem L2
def Z02 (H:Hp) (r:Str×List Str) (v:V):Prop:=∃ t u,v=.ref t∧H t=some (.tup [.str r.1,.ref u])∧H u=some (.tup (r.2.map V.str))
def Ze0 (H:Hp) (l:Addr) (rows:List (Str×List Str)):Prop:=∃ vs,H l=some (.lst vs)∧Paired (Z02 H) rows vs
structure Zek (rows:List (Str×List Str)):Prop where
 ne:1≤rows.length
 le:rows.length≤24
 word:∀ r∈rows,Zb7 r.1=true
 nd:(rows.map (·.1)).Nodup
 few:∀ r∈rows,r.2.length≤8
 known:∀ r∈rows,∀ u∈r.2,u∈rows.map (·.1)
 upnd:∀ r∈rows,r.2.Nodup
 rank:∃ rk:Str→Nat,∀ r∈rows,∀ u∈r.2,rk u<rk r.1
def Zgx (ws:List Str) (uf:List (List Nat)) (os:List Nat):List (Str×List Str):=os.map fun j=>(ws.getD j "",(uf.getD j []).map fun i=>ws.getD i "")
theorem Zyd {ws:List Str}{uf:List (List Nat)}{os:List Nat}{m:Nat} (hm0:1≤m) (hm:m≤24) (hw:∀ x∈ws,Zb7 x=true) (hn:ws.Nodup) (hl:ws.length=m) (hu:∀ (k:Nat) (js:List Nat),uf[k]?=some js→(∀ j∈js,j<k)∧js.Nodup∧js.length≤8) (hul:uf.length=m)
  (on:os.Nodup) (om:∀ j,j∈os↔j<m) (ol:os.length=m):Zek (Zgx ws uf os):=by
 have at_:∀ {j:Nat},j<m→ws.getD j ""∈ws∧ws[j]?=some (ws.getD j ""):=fun {j} h=>by
  have hj:j<ws.length:=by omega
  rw [List.getD_eq_getElem?_getD,List.getElem?_eq_getElem hj]
  exact ⟨List.getElem_mem hj,rfl⟩
 have inj:∀ {i j:Nat},i<m→j<m→ws.getD i ""=ws.getD j ""→i=j:=fun {i j} hi hj e=>by
  have a:=(at_ hi).2
  have b:=(at_ hj).2
  rw [e] at a
  exact Zf8 hn a b
 have ups:∀ {j:Nat},j<m→∃ js,uf.getD j []=js∧(∀ i∈js,i<j)∧js.Nodup∧js.length≤8:=fun {j} h=>by
  have hj:j<uf.length:=by omega
  have e:uf[j]?=some (uf.getD j []):=by rw [List.getD_eq_getElem?_getD,List.getElem?_eq_getElem hj];rfl
  exact ⟨_,rfl,hu j _ e⟩
 have mem:∀ {r:Str×List Str},r∈Zgx ws uf os→∃ j,j<m∧r=(ws.getD j "",(uf.getD j []).map fun i=>ws.getD i ""):=fun {r} h=>by
  obtain ⟨j,hj,e⟩:=List.mem_map.mp h
  exact ⟨j,(om j).mp hj,e.symm⟩
 have words:(Zgx ws uf os).map (·.1)=os.map fun j=>ws.getD j "":=by
  unfold Zgx
  rw [List.map_map]
  rfl
 refine ⟨by unfold Zgx;rw [List.length_map];omega,by unfold Zgx;rw [List.length_map];omega,fun r hr=>?_,?_,fun r hr=>?_,fun r hr u hu'=>?_,fun r hr=>?_,fun x=>ws.idxOf x,fun r hr u hu'=>?_⟩
 ·obtain ⟨j,hj,rfl⟩:=mem hr
  exact hw _ (at_ hj).1
 ·rw [words,List.nodup_iff_pairwise_ne,List.pairwise_map]
  refine (List.nodup_iff_pairwise_ne.mp on).imp_of_mem fun {a b} ha hb h e=>h (inj ((om a).mp ha) ((om b).mp hb) e)
 ·obtain ⟨j,hj,rfl⟩:=mem hr
  obtain ⟨js,e,_,_,h8⟩:=ups hj
  show ((uf.getD j []).map fun i=>ws.getD i "").length≤8
  rw [List.length_map,e]
  exact h8
 ·obtain ⟨j,hj,rfl⟩:=mem hr
  obtain ⟨i,hi,e⟩:=List.mem_map.mp hu'
  obtain ⟨js,e',hb,_⟩:=ups hj
  rw [e'] at hi
  have hij:=hb i hi
  rw [words]
  exact List.mem_map.mpr ⟨i,(om i).mpr (by omega),e⟩
 ·obtain ⟨j,hj,rfl⟩:=mem hr
  obtain ⟨js,e',hb,hnd,_⟩:=ups hj
  show ((uf.getD j []).map fun i=>ws.getD i "").Nodup
  rw [e',List.nodup_iff_pairwise_ne,List.pairwise_map]
  refine (List.nodup_iff_pairwise_ne.mp hnd).imp_of_mem fun {a b} ha hb' h e=>h (inj (by have:=hb a ha;omega) (by have:=hb b hb';omega) e)
 ·obtain ⟨j,hj,rfl⟩:=mem hr
  obtain ⟨i,hi,e⟩:=List.mem_map.mp hu'
  obtain ⟨js,e',hb,_⟩:=ups hj
  rw [e'] at hi
  have hij:=hb i hi
  have ix:∀ {j:Nat},j<m→ws.idxOf (ws.getD j "")=j:=fun {j} h=>by
   have a:=(at_ h).1
   have lt:ws.idxOf (ws.getD j "")<ws.length:=List.idxOf_lt_length_iff.mpr a
   have g:ws[ws.idxOf (ws.getD j "")]?=some (ws.getD j ""):=by rw [List.getElem?_eq_getElem lt,List.getElem_idxOf lt]
   exact Zf8 hn g (at_ h).2
  show ws.idxOf u<ws.idxOf (ws.getD j "")
  rw [← e,ix hj,ix (by omega)]
  exact hij
end Md
namespace L2
open PySem PySem.Spec PyProof.Rows
section
variable {X:Cx} {tg:Expr}
def SqB (K:PySem.W.Frag) (b:Bool) (H:Hp) (a:Addr) (xs:List V):Prop:=if b=true then SqL K H a xs else SqT K H a xs
theorem SqB.mono {K:PySem.W.Frag}{b:Bool}{H H':Hp}{a:Addr}{xs:List V}(h:SqB K b H a xs) (s:Zal H H'):SqB K b H' a xs:=by
 cases b with
 | true=>exact s.seq (show SqL K H a xs from h)
 | false=>exact s.tup (show SqT K H a xs from h)
def Itq (K:PySem.W.Frag) (b:Bool) (a:Addr) (xs:List V):It:=⟨fun i H=>i<xs.length∧SqB K b H a xs,fun i H x H'=>H'=H∧xs[i]?=some x,fun i H=>xs.length≤i∧SqB K b H a xs⟩
theorem Zoq {K:PySem.W.Frag}{b:Bool}{a:Addr}{xs:List V}:Zqr (Itq K b a xs) xs (fun H=>SqB K b H a xs) where
 go:=fun i x H ok hx=>⟨(List.getElem?_eq_some_iff.mp hx).1,ok⟩
 yld:=fun i x H y H' ok hx h=>by
  obtain ⟨e,h⟩:=h
  rw [hx] at h
  exact ⟨(Option.some.inj h).symm,e⟩
 stop:=fun H ok=>⟨Nat.le_refl _,ok⟩
theorem Zod.imp {P:Program}{w:World}{K:PySem.W.Frag}{tg:Expr}{J J':It}{fp:List Addr}{it:Addr}{tn:Nat→Heap→Prop}(T:Zod P w K tg J fp it tn) (hgo:∀ i H,J'.go i H→J.go i H)
  (hy:∀ i H x H',J'.go i H→J.yld i H x H'→J'.yld i H x H') (hs:∀ i H,J'.stop i H→J.stop i H):Zod P w K tg J' fp it tn where
 mem:=T.mem
 obj:=T.obj
 keep:=T.keep
 item:=fun X h1 h2 h3 h4 i pins s σ H E I hf st g=>thn (T.item X h1 h2 h3 h4 i pins s σ H E I hf st (hgo i H g)) fun r s1 ⟨u,e,h⟩=>⟨u,e,thn h fun _ s2 ⟨x,H',I',r',y,t,f⟩=>⟨x,H',I',r',hy i H x H' g y,t,f⟩⟩
 done:=fun X h1 h2 h3 h4 i pins s σ H E I hf st g=>T.done X h1 h2 h3 h4 i pins s σ H E I hf st (hs i H g)
 self:=T.self
def Z44 (K:PySem.W.Frag) (tl:TE):TI:=fun σ H R=>tl σ H fun x H1=>∃ b a xs,x=.ref a∧SqB K b H1 a xs∧R (Itq K b a xs) H1
theorem Zwh {l:Expr}{tl:TE}(hl:PE X l tl):PI X tg l (Z44 X.K tl):=by
 intro pins s σ H R I h
 refine thn (hl pins s σ H _ I h) fun v s1 ⟨x,H1,I1,r1,q1⟩=>?_
 obtain ⟨b,a,xs,e,hq,q⟩:=q1
 subst e
 cases r1
 have fp:∀ b∈[s1.heap.objs.size],Zk9 X pins H1 b:=fun b hb=>by
  have e:b=s1.heap.objs.size:=by simpa using hb
  subst e
  exact I1.fpOk (Nat.le_refl _) (I1.hok.fresh (Nat.le_refl _))
 have get:∀ {i:Nat} {ys:List V},i<ys.length→∃ y,ys[i]?=some y:=fun {i ys} h=>⟨ys[i],by simp [h]⟩
 cases b with
 | true =>
  have hq:SqL X.K H1 a xs:=hq
  obtain ⟨its,rv,p,hz⟩:=I1.list hq
  refine wpAny_pyIter_list p.isList ?_
  refine ⟨s1.heap.objs.size,[s1.heap.objs.size],_,Itq X.K true a xs,H1,rfl,I1.kept (t':=s1.toks) fun b o e=>Heap.get?_push_of_some _ e,(Zld a _).imp (fun i H g=>?_) (fun i H x H' g y=>⟨y.1,y.2 xs g.2⟩) (fun i H g=>⟨xs,g.2,g.1⟩),⟨_,Heap.get?_push_size _ rfl,rfl,rfl⟩,fp,q⟩
  obtain ⟨y,hy⟩:=get g.1
  exact ⟨xs,y,g.2,hy⟩
 | false =>
  have hq:SqT X.K H1 a xs:=hq
  obtain ⟨its,rv,p,hz⟩:=I1.tuple hq
  refine wpAny_pyIter_tuple (show s1.heap.IsTuple a its.toArray from p) ?_
  refine ⟨s1.heap.objs.size,[s1.heap.objs.size],_,Itq X.K false a xs,H1,rfl,I1.kept (t':=s1.toks) fun b o e=>Heap.get?_push_of_some _ e,(Zjj a _).imp (fun i H g=>?_) (fun i H x H' g y=>⟨y.1,y.2 xs g.2⟩) (fun i H g=>⟨xs,g.2,g.1⟩),⟨_,Heap.get?_push_size _ rfl,rfl,rfl⟩,fp,q⟩
  obtain ⟨y,hy⟩:=get g.1
  exact ⟨xs,y,g.2,hy⟩
def Z17 (to:TE):TI:=fun σ H R=>to σ H fun x H1=>∃ a ob kvs,x=.ref a∧H1 a=some (.frz ob (.dK kvs))∧R (Itv a ob kvs) H1
theorem Zxg {o:Expr}{to:TE}{apos cpos:Pos}(ho:PE X o to) (hbase:attributeBase o "values" X.env (eval o X.env)=eval o X.env:=by rfl) (hline:(apos.endLine == cpos.line)=true:=by rfl):
  PI X tg (.Call (.Attribute o "values" apos) [] [] cpos) (Z17 to):=by
 intro pins s σ H R I h
 refine wpAny_Call_method0_late hbase hline (thn (ho pins s σ H _ I h) fun v s1 ⟨x,H1,I1,r1,q1⟩=>?_)
 obtain ⟨a,ob,kvs,e,ha,q⟩:=q1
 subst e
 obtain rfl:v=Value.ref a:=r1
 obtain ⟨t1,t2,t3⟩:=Zwo I1 (.inl ⟨kvs,.inr ⟨ob,ha⟩⟩)
 obtain ⟨es,ep,hd⟩:=Zo9 (I1.hok a _ ha)
 obtain ⟨hs,vs,r,dd⟩:=Zgb (I1.hok a _ ha) hd
 have hl:kvs.length=vs.length:=Paired.length r
 refine ⟨"dict","dict.values",PySem.F.plainAttrs_dict,PySem.F.slot_dict_values,PySem.F.type_dict_values,t1,t2,Calls.callWith_builtin rfl (PySem.evalArgs_none ?_)⟩
 refine call_meetsIn PySem.F.slot_dict_values t1 PySem.F.entry_dict_values (PySem.F.args_dict_values_1 _) (meets_dict_values (Zca X.prog X.w) a t3) ⟨⟨vs,dd.dictOf⟩,?_⟩
 have I2:Inv X pins σ H1 { s1 with heap:=s1.heap.push { cls:=.type "dict_values",data:=.fields #[.ref a] } }:=I1.kept (t':=s1.toks) fun b o e=>Heap.get?_push_of_some _ e
 refine wpAny_pyIter_values (kvs:=vs) (ep:=ep) (knd:=Zca X.prog X.w) ⟨_,Heap.get?_push_size _ rfl,rfl,rfl⟩ (dd.at' fun o e=>Heap.get?_push_of_some _ e) ?_
 refine ⟨_,[_],_,_,H1,rfl,I2.kept (t':=s1.toks) fun b o e=>Heap.get?_push_of_some _ e,Zq6 a _ ob kvs es ep hd,⟨_,Heap.get?_push_size _ rfl,rfl,by rw [hl];rfl⟩,fun b hb=>?_,q⟩
 have e:b=_:=List.mem_singleton.mp hb
 subst e
 exact I2.fpOk (Nat.le_refl _) (I2.hok.fresh (Nat.le_refl _))
theorem Zgj (hc:X.calm=true):Zja X (.type "list") (fun xs H Q=>∃ a kvs,xs=[.ref a]∧Rd H a (.dK kvs)∧∀ l,H l=none→Q (.ref l) (upd H l (.lst (kvs.map fun p=>kV p.1)))):=by
 intro pins s σ H xs us Q I r h
 obtain ⟨a,kvs,rfl,ha,q⟩:=h
 obtain ⟨u,rfl,ru⟩:=Zjb r
 cases ru
 obtain ⟨hz,hs,vs,rv,o,es,ep,h1,h2,h3,h4,h5,h6⟩:=Zn0 I.hok ha
 have hl:kvs.length=vs.length:=Paired.length rv
 have dd:s.heap.DictAt (Zca X.prog X.w) a vs ep:=⟨o,es,h1,h2,h3,h4,h5,h6⟩
 refine PySem.W.kdl_call (PySem.W.kdl_dict (knd:=Zca X.prog X.w) (kvs:=vs) (ep:=ep) hs) (I.ok.hd hc) dd (by rw [← hl];exact hz) fun h' tk acc' c' hk hS' hacc=>?_
 obtain ⟨a1,a2⟩:=hacc
 refine ⟨.ref _,_,I.laid (o:=.lst (kvs.map fun p=>kV p.1)) hk (Nat.le_refl _) ⟨by rw [List.length_map];exact hz,acc'.toList,c',?_,by simpa using hS'⟩,rfl,q _ (I.hok.fresh (Nat.le_refl _))⟩
 refine Zm3 (by have z:acc'.toList.length=acc'.size:=Array.length_toList;rw [List.length_map];omega) fun i v u hv hu=>?_
 rw [List.getElem?_map] at hv
 obtain ⟨p,hp,e⟩:=Option.map_eq_some_iff.mp hv
 obtain ⟨w',hw,_⟩:=rv.get hp
 obtain ⟨k,x,hk1,hk2⟩:=a2 i u (by rw [← Array.getElem?_toList];exact hu)
 rw [hw] at hk1
 injection hk1 with hk1
 injection hk1 with hk1 _
 rw [← e,hk1]
 exact Zwe hk2
theorem Zgf.f {H:Hp}{a:Addr}{o:Obj}{kvs:List (Key×V)}{k:Key}(e:H a=some (.frz o (.dK kvs))):Zgf H a (kV k) (Zf2 kvs k):=.inl ⟨kvs,k,.inr ⟨o,e⟩,rfl,rfl⟩
end
end L2
namespace Md
open PySem L2
def Z2l (K:PySem.W.Frag) (H:Hp) (u:Addr) (us:List Str):Prop:=H u=some (.tup (us.map V.str))∨SqL K H u (us.map V.str)
theorem Z2l.sq {K:PySem.W.Frag}{H:Hp}{u:Addr}{us:List Str}(h:Z2l K H u us):∃ b,SqB K b H u (us.map V.str):=by
 rcases h with h | h
 ·exact ⟨false,SqT.of h⟩
 ·exact ⟨true,h⟩
def Z5j (K:PySem.W.Frag) (H:Hp) (r:Str×List Str) (v:V):Prop:=∃ t u,v=.ref t∧SqT K H t [.str r.1,.ref u]∧Z2l K H u r.2
def Zyo (K:PySem.W.Frag) (H:Hp) (l:Addr) (rows:List (Str×List Str)):Prop:=∃ b vs,SqB K b H l vs∧Paired (Z5j K H) rows vs
theorem Ze0.g {K:PySem.W.Frag}{H:Hp}{l:Addr}{rows:List (Str×List Str)}(h:Ze0 H l rows):Zyo K H l rows:=by
 obtain ⟨vs,a,p⟩:=h
 refine ⟨true,vs,SqL.of a,Paired.mapP p fun r v z=>?_⟩
 obtain ⟨t,u,e,h1,h2⟩:=z
 exact ⟨t,u,e,SqT.of h1,.inl h2⟩
theorem Zam {α β:Type}{F:α→β→Prop}:∀ {l:List α}{k:List β},Paired F l k→∀ {i:Nat}{b:β},k[i]?=some b→∃ a,l[i]?=some a∧F a b
 | _,_,.nil,i,b,h=>by simp at h
 | _,_,.cons r t,0,b,h=>by simp at h;subst h;exact ⟨_,rfl,r⟩
 | _,_,.cons r t,i + 1,b,h=>by
  obtain ⟨a,h1,h2⟩:=Zam t (i:=i) (b:=b) (by simpa using h)
  exact ⟨a,by simpa using h1,h2⟩
theorem Zdi {kvs:List (Key×V)}{k:Key}(h:k∉kvs.map (·.1)):Zf2 kvs k=none:=by
 cases e:Zf2 kvs k with
 | none=>rfl
 | some v=>exact absurd (Zq3 e) h
theorem Zih {kvs:List (Key×V)}{k:Key}{v:V}(h:k∉kvs.map (·.1)):(Zgh kvs k v).map (·.1)=kvs.map (·.1)++[k]:=by
 rw [Zeh v (Zdi h),List.map_append]
 rfl
theorem Zfp {rows:List (Str×List Str)}{i:Nat}{r:Str×List Str}(nd:(rows.map (·.1)).Nodup) (h:rows[i]?=some r):(Sum.inr r.1:Key)∉(rows.take i).map fun r=>(Sum.inr r.1:Key):=by
 intro m
 obtain ⟨q,hq,e⟩:=List.mem_map.mp m
 have e:q.1=r.1:=by injection e
 obtain ⟨j,hj,ej⟩:=List.mem_iff_getElem.mp hq
 rw [List.length_take] at hj
 have hj2:rows[j]?=some q:=by
  rw [List.getElem_take] at ej
  rw [List.getElem?_eq_getElem (by omega),ej]
 have a:(rows.map (·.1))[j]?=some r.1:=by rw [List.getElem?_map,hj2,← e];rfl
 have b:(rows.map (·.1))[i]?=some r.1:=by rw [List.getElem?_map,h];rfl
 have:=Zf8 nd a b
 omega
def Zk8 (H:Hp) (rows:List (Str×List Str)) (kvs:List (Key×V)):Prop:=Paired (fun r (p:Key×V)=>p.1=Sum.inr r.1∧∃ t,p.2=.ref t∧H t=some (.tup (r.2.map V.str))) rows kvs
theorem Zk8.mono {H H':Hp}{rows:List (Str×List Str)}{kvs:List (Key×V)}(h:Zk8 H rows kvs) (s:∀ b xs,H b=some (.tup xs)→H' b=some (.tup xs)):Zk8 H' rows kvs :=
 Paired.mapP h fun _ _ z=>⟨z.1,let ⟨t,e,x⟩:=z.2;⟨t,e,s _ _ x⟩⟩
theorem Zk8.keys:∀ {H:Hp}{rows:List (Str×List Str)}{kvs:List (Key×V)},Zk8 H rows kvs→kvs.map (·.1)=rows.map fun r=>(Sum.inr r.1:Key)
 | _,_,_,.nil=>rfl
 | _,_,_,.cons r t=>by rw [List.map_cons,List.map_cons,r.1,Zk8.keys t]
def Zcw (rows:List (Str×List Str)) (x:Str):List Str:=(rows.lookup x).getD []
theorem Zgu {rows:List (Str×List Str)}(nd:(rows.map (·.1)).Nodup) {r:Str×List Str}(h:r∈rows):Zcw rows r.1=r.2:=by
 unfold Zcw
 induction rows with
 | nil=>cases h
 | cons q rs ih =>
  have nd':(q.1 :: rs.map (·.1)).Nodup:=nd
  obtain ⟨n1,n2⟩:=List.nodup_cons.mp nd'
  obtain ⟨a,b⟩:=q
  rw [List.lookup_cons]
  rcases List.mem_cons.mp h with e | h
  ·subst e
   simp
  ·have ne:(r.1 == a)=false:=by
    rw [beq_eq_false_iff_ne]
    intro e
    exact n1 (List.mem_map.mpr ⟨r,h,e⟩)
   rw [ne]
   exact ih n2 h
theorem Zk8.val:∀ {H:Hp}{rows:List (Str×List Str)}{kvs:List (Key×V)},Zk8 H rows kvs→(rows.map (·.1)).Nodup→∀ {r:Str×List Str},r∈rows→∃ t,Zf2 kvs (Sum.inr r.1)=some (.ref t)∧H t=some (.tup (r.2.map V.str))
 | _,_,_,.nil,_,r,h=>nomatch h
 | _,q :: rs,p :: ps,.cons z t,nd,r,h=>by
  have nd':(q.1 :: rs.map (·.1)).Nodup:=nd
  obtain ⟨n1,n2⟩:=List.nodup_cons.mp nd'
  obtain ⟨z1,u,z2,z3⟩:=z
  rcases List.mem_cons.mp h with e | h
  ·subst e
   exact ⟨u,by rw [Zfa z1,z2],z3⟩
  ·have ne:¬ p.1=(Sum.inr r.1:Key):=fun e=>n1 (by
    rw [z1] at e
    have e':q.1=r.1:=by injection e
    rw [e']
    exact List.mem_map.mpr ⟨r,h,rfl⟩)
   obtain ⟨u',h1,h2⟩:=Zk8.val t n2 h
   exact ⟨u',by rw [Zfb ne];exact h1,h2⟩
theorem Z0h {H:Hp}{rows:List (Str×List Str)}{kvs:List (Key×V)}(h:Zk8 H rows kvs):(kvs.map fun p=>kV p.1)=(rows.map (·.1)).map V.str:=by
 have e:(kvs.map fun p=>kV p.1)=(kvs.map (·.1)).map kV:=by rw [List.map_map];rfl
 rw [e,h.keys,List.map_map,List.map_map]
 rfl
end Md
namespace L2
open PySem PySem.Spec PyProof.Rows
section
variable {X:Cx} {pins:List (Addr×Obj)} {σ:St} {H H':Hp} {s:Shared} {h':Heap}
theorem Zf6 {α β:Type}{F:α→β→Prop}:∀ {l:List α}{k:List β},l.length=k.length→(∀ (i:Nat) (a:α) (b:β),l[i]?=some a→k[i]?=some b→F a b)→Paired F l k
 | [],[],_,_=>.nil
 | [],_ :: _,h,_=>by simp at h
 | _ :: _,[],h,_=>by simp at h
 | a :: l,b :: k,h,f=>.cons (f 0 a b rfl rfl) (Zf6 (by simpa using h) fun i x y hx hy=>f (i + 1) x y (by simpa using hx) (by simpa using hy))
end
end L2
namespace L2
open PySem PySem.Spec PyProof.Rows
section
variable {X:Cx}
def Zpw (K:PySem.W.Frag):R2:=fun x y H Q=>∃ a b xs ys,x=.ref a∧y=.ref b∧SqT K H a xs∧SqT K H b ys∧xs.length + ys.length≤sizeLine ∧
 (xs=[]→Q (.ref b) H)∧(xs≠[]→ys=[]→Q (.ref a) H)∧(xs≠[]→ys≠[]→∀ p,H p=none→Q (.ref p) (upd H p (.tup (xs++ys))))
theorem Zkh:OpR X (binaryOp .Add) (Zpw X.K):=by
 intro pins s σ H x y v u Q I rx ry h
 obtain ⟨a,b,xs,ys,rfl,rfl,ha,hb,hz,q0,q1,q2⟩:=h
 by_cases hx:xs=[]
 ·cases rx
  cases ry
  obtain ⟨its,r1,p1,_⟩:=I.tuple ha
  obtain ⟨its2,r2,p2,_⟩:=I.tuple hb
  have e:its=[]:=r1.nil_iff.mpr hx
  obtain ⟨⟨cls,dd,data,sl⟩,ho,hc,n,hd⟩:=id p1
  obtain ⟨⟨cls2,dd2,data2,sl2⟩,ho2,hc2,n2,hd2⟩:=id p2
  simp only at hc hd hc2 hd2
  subst hc hd hc2 hd2
  exact concat_meets ⟨_,ho,rfl⟩ ⟨_,ho2,rfl⟩ noFill_tuple_add seq_tuple_add PySem.F.slot_tuple_add PySem.F.entry_tuple_add (PySem.F.args_tuple_add_2 _ _)
   (tuple_addW0 a b its.toArray its2.toArray n n2 dd dd2 sl sl2 (by simp [e])) ⟨ho,ho2,⟨.ref b,H,I,rfl,q0 hx⟩⟩
 ·exact Zxm pins s σ H _ _ v u Q I rx ry ⟨a,b,xs,ys,rfl,rfl,ha,hb,hx,hz,q1 hx,q2 hx⟩
end
section
variable {X:Cx} {pins:List (Addr×Obj)} {σ:St} {H:Hp} {s:Shared} {h':Heap}
theorem Inv.turnedNew {t':Nat}{it a:Addr}{o:HO}(I:Inv X pins σ H s) (k:∀ b u,b≠it→s.heap.get? b=some u→h'.get? b=some u) (hn:H it=none) (hL:it≠X.env.locals)
  (h1:it∈X.ex∨X.s₀.heap.objs.size≤it) (h2:∀ x c,X.env.cells.lookup x=some c→c≠it) (h3:∀ p∈X.pn++pins,p.1≠it) (ha:s.heap.objs.size≤a) (new:Zc5 X.prog X.w (upd H a o) h' a o):
  Inv X pins σ (upd H a o) { s with heap:=h',toks:=t' }:=by
 have nit:∀ b u,H b=some u→b≠it:=fun b u e z=>by rw [z,hn] at e;cases e
 have na:∀ b u,H b=some u→b≠a:=fun b u e=>Nat.ne_of_lt (Nat.lt_of_lt_of_le (I.hok.lt e) ha)
 have low:∀ {b u},H b=some u→(upd H a o) b=some u:=fun {b u} e=>by rw [Zac (na b u e)];exact e
 refine I.step (g':=s.gens) (d':=s.drawn) (ch:=[it]) (fun b hb=>?_) (fun b u _ _ hc e _=>k b u (fun z=>hc (by simp [z])) e) (fun b u _ _ hc e _=>⟨u.slots,k b u (fun z=>hc (by simp [z])) e⟩)
  (fun b u _ e n=>by rw [Zac (Nat.ne_of_lt (Nat.lt_of_lt_of_le (Heap.lt_size e) ha))];exact n)
  (fun b u hc e=>⟨u,k b u (fun z=>hc (by simp [z])) e⟩) (fun _ _ e=>low e) (fun _ _ _ e=>low e) (fun b ps e=>⟨#[],by rw [low e];simp⟩) (fun m hm=>?_) (fun b u e=>?_) I.bare
 ·have e:b=it:=by simpa using hb
  subst e
  exact ⟨h1,hL,h2,h3⟩
 ·obtain ⟨o',es,ep,ho,r⟩:=hm
  exact ⟨o',es,ep,k _ o' (Ne.symm hL) ho,r⟩
 ·by_cases hb:b=a
  ·subst hb
   rw [uS] at e
   cases e
   exact new
  ·rw [Zac hb] at e
   refine (I.hok b u e).stay (fun c v hc q=>k c v ?_ q) (fun _ q=>low q) fun _ _ q=>low q
   rcases hc with z | z
   ·rw [z];exact nit b u e
   ·exact nit c _ z
end
end L2
namespace L2
open PySem PySem.Spec PyProof.Rows
section
variable {X:Cx}
end
end L2
namespace L2
open PySem PySem.Spec PyProof.Rows
section
variable {X:Cx}
end
end L2
namespace L2
open PySem PySem.Spec PyProof.Rows
section
variable {prog:Program} {w:World} {A:Around} {E:Value→Shared→Prop} {s:Shared}
theorem Zea {p t:Addr}{k:Nat}{us:Array Value}{u:Value}{Q:Value→Shared→Prop}(hp:s.heap.IsTupleIter p t k) (ht:s.heap.IsTuple t us) (hu:us[k]?=some u)
  (q:∀ g,g.IsTupleIter p t (k + 1)→Heap.SameBut p s.heap g→Q u { s with heap:=g }):wpAny (model prog w) A (Builtin.SmallTypes.nextOf (.ref p)) Q E s:=by
 obtain ⟨ob,h1,h2,h3⟩:=id hp
 obtain ⟨ot,h4,_,nt,h5⟩:=ht
 unfold Builtin.SmallTypes.nextOf
 refine wpAny_bind (wpAny_callSpecial?_slot (name:=Str.ofString "__next__") hp.typeIs PySem.F.slot_tuple_iterator_next (wpAny_call_entry PySem.F.slot_tuple_iterator_next hp.typeIs PySem.F.entry_tuple_iterator_next ?_ (PySem.F.args_tuple_iterator_next_1 _)))
 show wpAny _ _ (field (.ref p) 0>>=_) _ _ s
 refine wpAny_bind (wpAny_field h1 h3 (x:=.ref t) rfl ?_)
 show wpAny _ _ (if (Value.ref t == Value.none)=true then _ else _) _ _ s
 rw [if_neg (show ¬ ((Value.ref t == Value.none)=true) from Bool.false_ne_true)]
 show wpAny _ _ (field (.ref p) 1>>=_) _ _ s
 refine wpAny_bind (wpAny_field h1 h3 (x:=.int k 0) rfl ?_)
 show wpAny _ _ (seqItems? (.ref t)>>=_) _ _ s
 refine wpAny_bind (wpAny_seqItems h4 h5 ?_)
 simp only [Int.toNat_natCast,hu]
 refine wpAny_bind (wpAny_setField h1 h3 (by simp) (wpAny_pure ⟨u,rfl,wpAny_pure (q _ ?_ (Heap.SameBut.update ..))⟩))
 exact ⟨_,Heap.get?_update_self _ h1 (Obj.isFreed_of_fields (Obj.data_mapFields h3 _)),(Obj.cls_mapFields ..).trans h2,by rw [Obj.data_mapFields h3];simp [rawInt]⟩
theorem Zeb {p t:Addr}{k:Nat}{us:Array Value}{Q:Value→Shared→Prop}(hh:A.handled=none) (hp:s.heap.IsTupleIter p t k) (ht:s.heap.IsTuple t us) (hu:us[k]?=none)
  (q:∀ g e,Heap.ExtBut p s.heap g→(∃ o,g.get? e=some o∧o.cls=.type "StopIteration")→E (.ref e) { s with heap:=g }):wpAny (model prog w) A (Builtin.SmallTypes.nextOf (.ref p)) Q E s:=by
 obtain ⟨ob,h1,h2,h3⟩:=id hp
 obtain ⟨ot,h4,_,nt,h5⟩:=ht
 unfold Builtin.SmallTypes.nextOf
 refine wpAny_bind (wpAny_callSpecial?_slot (name:=Str.ofString "__next__") hp.typeIs PySem.F.slot_tuple_iterator_next (wpAny_call_entry PySem.F.slot_tuple_iterator_next hp.typeIs PySem.F.entry_tuple_iterator_next ?_ (PySem.F.args_tuple_iterator_next_1 _)))
 show wpAny _ _ (field (.ref p) 0>>=_) _ _ s
 refine wpAny_bind (wpAny_field h1 h3 (x:=.ref t) rfl ?_)
 show wpAny _ _ (if (Value.ref t == Value.none)=true then _ else _) _ _ s
 rw [if_neg (show ¬ ((Value.ref t == Value.none)=true) from Bool.false_ne_true)]
 show wpAny _ _ (field (.ref p) 1>>=_) _ _ s
 refine wpAny_bind (wpAny_field h1 h3 (x:=.int k 0) rfl ?_)
 show wpAny _ _ (seqItems? (.ref t)>>=_) _ _ s
 refine wpAny_bind (wpAny_seqItems h4 h5 ?_)
 simp only [Int.toNat_natCast,hu]
 refine wpAny_bind (wpAny_rule (wpAny_bind (wpAny_setField h1 h3 (by simp) ?_)))
 show wpAny _ _ (newExc (.type "StopIteration") []>>=_) _ _ _
 refine wpAny_bind ?_
 simp only [newExc,newTuple]
 refine wpAny_bind (wpAny_newObj_type ?_ (by size_fits))
 refine wpAny_bind (m:=firstArgMember _ _) (wpAny_of_eq (a:=Value.none) (by first | rfl | (simp only [firstArgMember];rfl)) ?_)
 refine wpAny_newObj_type ?_ (by size_fits)
 simp only [raiseNew]
 refine wpAny_bind (wpAny_handled ?_)
 first | rw [show A.in1.handled=none from hh] | rw [hh]
 refine wpAny_bind (wpAny_pure (wpAny_throw ?_))
 exact q _ _ (((Heap.SameBut.update ..).extBut.push _).push _) ⟨_,Heap.get?_push_size _ rfl,rfl⟩
structure ZAt (h:Heap) (z ti to i1 i2 l1 l2:Addr) (k:Nat) (f:Value):Prop where
 z:IsZip h z ti to f
 ti:IsPair h ti (.ref i1) (.ref i2)
 to:∃ a b,IsPair h to a b
 i1:h.IsTupleIter i1 l1 k
 i2:h.IsTupleIter i2 l2 k
theorem ZAt.at {h h':Heap}{z ti to i1 i2 l1 l2:Addr}{k:Nat}{f:Value}(x:ZAt h z ti to i1 i2 l1 l2 k f) (e:∀ b∈[z,ti,to,i1,i2],∀ o,h.get? b=some o→h'.get? b=some o):ZAt h' z ti to i1 i2 l1 l2 k f :=
 ⟨e z (by simp) _ x.z,e ti (by simp) _ x.ti,let ⟨a,b,y⟩:=x.to;⟨a,b,e to (by simp) _ y⟩,x.i1.at fun o q=>e i1 (by simp) o q,x.i2.at fun o q=>e i2 (by simp) o q⟩
theorem Zqx {z ti to i1 i2 l1 l2:Addr}{k:Nat}{xs ys:Array Value}{x y:Value}{Q:Value→Shared→Prop}(D:ZipApart z ti to i1 i2 l1 l2) (st:ZAt s.heap z ti to i1 i2 l1 l2 k .none)
  (t1:s.heap.IsTuple l1 xs) (t2:s.heap.IsTuple l2 ys) (hx:xs[k]?=some x) (hy:ys[k]?=some y)
  (q:∀ g,ZAt g z ti to i1 i2 l1 l2 (k + 1) (rawInt s.heap.objs.size)→IsPair g s.heap.objs.size x y→(∀ c o,c≠z→c≠to→c≠i1→c≠i2→s.heap.get? c=some o→g.get? c=some o)→Q (.ref s.heap.objs.size) { s with heap:=g }):
  wpAny (model prog w) A (Builtin.«zip.__next__» ⟨[.ref z],[]⟩) (fun fin s'=>∃ v,fin=.done (.ret v)∧Q v s') E s:=by
 obtain ⟨hz,hti,⟨a,b,hto⟩,hi1,hi2⟩:=st
 show wpAny _ _ (field (.ref z) 2>>=_) _ _ _
 refine wpAny_bind (wpAny_field hz rfl (x:=.bool false) rfl ?_)
 show wpAny _ _ (field (.ref z) 3>>=_) _ _ _
 refine wpAny_bind (wpAny_field hz rfl (x:=.ref ti) rfl (wpAny_bind (wpAny_seqItems hti rfl ?_)))
 show wpAny _ _ (Builtin.SmallTypes.ownedTupleIsFree (.ref z)>>=_) _ _ _
 refine wpAny_bind ?_
 unfold Builtin.SmallTypes.ownedTupleIsFree
 refine wpAny_bind (wpAny_field hz rfl (x:=.none) rfl (wpAny_pure ?_))
 simp only [if_true]
 refine wpAny_bind (wpAny_rule (wpAny_bind (wpAny_field hz rfl (x:=.ref to) rfl (wpAny_bind (wpAny_setField_rec hz (by simp) fun g1 z1 e1=>?_)))))
 replace z1:IsZip g1 z ti to .ellipsis:=z1
 refine wpAny_bind ?_
 simp only [List.zipIdx_cons,List.zipIdx_nil,List.forIn_cons,List.forIn_nil]
 refine wpAny_bind (wpAny_bind (wpAny_onRaise ?_))
 show wpAny _ _ (Builtin.SmallTypes.nextOf (.ref i1)>>=_) _ _ _
 refine wpAny_bind (Zea (hi1.extBut e1.extBut D.i1z) (t1.extBut e1.extBut D.l1z) hx fun g2 j1 e2=>wpAny_pure ?_)
 have to2:IsPair g2 to a b:=e2.extBut _ _ D.TOi1 (e1.extBut _ _ D.TOz hto)
 refine wpAny_bind (wpAny_seqItems to2 rfl (wpAny_bind (wpAny_updateSeq_pair to2 fun g3 to3 e3=>?_)))
 replace to3:IsPair g3 to x b:=to3
 refine wpAny_bind (wpAny_letGo (wpAny_pure (wpAny_bind (wpAny_bind (wpAny_onRaise ?_)))))
 show wpAny _ _ (Builtin.SmallTypes.nextOf (.ref i2)>>=_) _ _ _
 refine wpAny_bind (Zea (((hi2.extBut e1.extBut D.i2z).extBut e2.extBut D.i12.symm).extBut e3.extBut D.TOi2.symm) (((t2.extBut e1.extBut D.l2z).extBut e2.extBut D.l2i1).extBut e3.extBut D.l2TO) hy fun g4 j2 e4=>wpAny_pure ?_)
 have to4:IsPair g4 to x b:=e4.extBut _ _ D.TOi2 to3
 refine wpAny_bind (wpAny_seqItems to4 rfl (wpAny_bind (wpAny_updateSeq_pair to4 fun g5 to5 e5=>?_)))
 replace to5:IsPair g5 to x y:=to5
 refine wpAny_bind (wpAny_letGo (wpAny_pure (wpAny_pure (wpAny_bind (wpAny_seqItems to5 rfl (wpAny_bind (wpAny_newTuple ?_)))))))
 have sz:g5.objs.size=s.heap.objs.size:=by rw [e5.1,e4.1,e3.1,e2.1,e1.1]
 have z5:IsZip g5 z ti to .ellipsis:=e5.extBut _ _ D.TOz.symm (e4.extBut _ _ D.i2z.symm (e3.extBut _ _ D.TOz.symm (e2.extBut _ _ D.i1z.symm z1)))
 have k5:∀ c o,c≠z→c≠to→c≠i1→c≠i2→s.heap.get? c=some o→g5.get? c=some o:=fun c o c1 c2 c3 c4 e=>e5.extBut _ _ c2 (e4.extBut _ _ c4 (e3.extBut _ _ c2 (e2.extBut _ _ c3 (e1.extBut _ _ c1 e))))
 have j15:g5.IsTupleIter i1 l1 (k + 1):=((j1.extBut e3.extBut D.TOi1.symm).extBut e4.extBut D.i12).extBut e5.extBut D.TOi1.symm
 have j25:g5.IsTupleIter i2 l2 (k + 1):=j2.extBut e5.extBut D.TOi2.symm
 have zlt:z<g5.objs.size:=Heap.lt_size z5
 show wpAny _ _ (Builtin.SmallTypes.ownedTupleHandOut (.ref z) (.ref g5.objs.size)>>=_) _ _ _
 refine wpAny_bind ?_
 unfold Builtin.SmallTypes.ownedTupleHandOut
 have z6:IsZip (g5.push { cls:=.type "tuple",data:=.seq #[x,y] }) z ti to .ellipsis:=Heap.get?_push_of_some _ z5
 refine wpAny_bind (wpAny_setField_rec z6 (by simp) fun g7 z7 e7=>?_)
 replace z7:IsZip g7 z ti to (rawInt g5.objs.size):=z7
 refine wpAny_setField_rec z7 (by simp) fun g8 z8 e8=>?_
 replace z8:IsZip g8 z ti to (rawInt g5.objs.size):=z8
 have up:∀ c o,c≠z→g5.get? c=some o→g8.get? c=some o:=fun c o c1 e=>e8.extBut _ _ c1 (e7.extBut _ _ c1 (Heap.get?_push_of_some _ e))
 have p8:IsPair g8 g5.objs.size x y:=e8.extBut _ _ (Nat.ne_of_gt zlt) (e7.extBut _ _ (Nat.ne_of_gt zlt) (Heap.get?_push_size _ rfl))
 rw [sz] at z8 p8
 refine wpAny_pure ⟨_,rfl,?_⟩
 show Q (.ref g5.objs.size) _
 rw [sz]
 exact q g8 ⟨z8,up _ _ D.TIz (k5 _ _ D.TIz D.TITO D.TIi1 D.TIi2 hti),⟨x,y,up _ _ D.TOz to5⟩,j15.at fun o e=>up _ o D.i1z e,j25.at fun o e=>up _ o D.i2z e⟩ p8 fun c o c1 c2 c3 c4 e=>up c o c1 (k5 c o c1 c2 c3 c4 e)
theorem Zqy {z ti to i1 i2 l1 l2:Addr}{k:Nat}{xs ys:Array Value}{Q:Fin→Shared→Prop}(hh:A.handled=none) (D:ZipApart z ti to i1 i2 l1 l2) (st:ZAt s.heap z ti to i1 i2 l1 l2 k .none)
  (t1:s.heap.IsTuple l1 xs) (t2:s.heap.IsTuple l2 ys) (hend:xs[k]?=none∨ys[k]?=none)
  (q:∀ g e,(∀ c o,c≠z→c≠to→c≠i1→c≠i2→s.heap.get? c=some o→g.get? c=some o)→(∃ o,g.get? e=some o∧o.cls=.type "StopIteration")→E (.ref e) { s with heap:=g }):
  wpAny (model prog w) A (Builtin.«zip.__next__» ⟨[.ref z],[]⟩) Q E s:=by
 obtain ⟨hz,hti,⟨a,b,hto⟩,hi1,hi2⟩:=st
 show wpAny _ _ (field (.ref z) 2>>=_) _ _ _
 refine wpAny_bind (wpAny_field hz rfl (x:=.bool false) rfl ?_)
 show wpAny _ _ (field (.ref z) 3>>=_) _ _ _
 refine wpAny_bind (wpAny_field hz rfl (x:=.ref ti) rfl (wpAny_bind (wpAny_seqItems hti rfl ?_)))
 show wpAny _ _ (Builtin.SmallTypes.ownedTupleIsFree (.ref z)>>=_) _ _ _
 refine wpAny_bind ?_
 unfold Builtin.SmallTypes.ownedTupleIsFree
 refine wpAny_bind (wpAny_field hz rfl (x:=.none) rfl (wpAny_pure ?_))
 simp only [if_true]
 refine wpAny_bind (wpAny_rule (wpAny_bind (wpAny_field hz rfl (x:=.ref to) rfl (wpAny_bind (wpAny_setField_rec hz (by simp) fun g1 z1 e1=>?_)))))
 replace z1:IsZip g1 z ti to .ellipsis:=z1
 refine wpAny_bind ?_
 simp only [List.zipIdx_cons,List.zipIdx_nil,List.forIn_cons,List.forIn_nil]
 refine wpAny_bind (wpAny_bind (wpAny_onRaise ?_))
 show wpAny _ _ (Builtin.SmallTypes.nextOf (.ref i1)>>=_) _ _ _
 cases hx:xs[k]? with
 | none =>
  refine wpAny_bind (Zeb hh (hi1.extBut e1.extBut D.i1z) (t1.extBut e1.extBut D.l1z) hx fun g2 e e2 he=>?_)
  obtain ⟨oe,ho,hc⟩:=he
  have z2:IsZip g2 z ti to .ellipsis:=e2 _ _ D.i1z.symm z1
  have ez:e≠z:=fun x=>by subst x;rw [z2] at ho;cases ho;simp at hc
  exact wpAny_setField_rec z2 (by simp) fun g3 _ e3=>q g3 e (fun c o c1 _ c3 _ x=>e3.extBut _ _ c1 (e2 _ _ c3 (e1.extBut _ _ c1 x))) ⟨oe,e3.extBut _ _ ez ho,hc⟩
 | some x =>
  have hy:ys[k]?=none:=by rcases hend with h | h;rw [hx] at h;cases h;exact h
  refine wpAny_bind (Zea (hi1.extBut e1.extBut D.i1z) (t1.extBut e1.extBut D.l1z) hx fun g2 j1 e2=>wpAny_pure ?_)
  have to2:IsPair g2 to a b:=e2.extBut _ _ D.TOi1 (e1.extBut _ _ D.TOz hto)
  refine wpAny_bind (wpAny_seqItems to2 rfl (wpAny_bind (wpAny_updateSeq_pair to2 fun g3 to3 e3=>?_)))
  refine wpAny_bind (wpAny_letGo (wpAny_pure (wpAny_bind (wpAny_bind (wpAny_onRaise ?_)))))
  show wpAny _ _ (Builtin.SmallTypes.nextOf (.ref i2)>>=_) _ _ _
  refine wpAny_bind (Zeb hh (((hi2.extBut e1.extBut D.i2z).extBut e2.extBut D.i12.symm).extBut e3.extBut D.TOi2.symm) (((t2.extBut e1.extBut D.l2z).extBut e2.extBut D.l2i1).extBut e3.extBut D.l2TO) hy fun g4 e e4 he=>?_)
  obtain ⟨oe,ho,hc⟩:=he
  have z4:IsZip g4 z ti to .ellipsis:=e4 _ _ D.i2z.symm (e3.extBut _ _ D.TOz.symm (e2.extBut _ _ D.i1z.symm z1))
  have ez:e≠z:=fun x=>by subst x;rw [z4] at ho;cases ho;simp at hc
  exact wpAny_setField_rec z4 (by simp) fun g5 _ e5=>q g5 e (fun c o c1 c2 c3 c4 x=>e5.extBut _ _ c1 (e4 _ _ c4 (e3.extBut _ _ c2 (e2.extBut _ _ c3 (e1.extBut _ _ c1 x))))) ⟨oe,e5.extBut _ _ ez ho,hc⟩
theorem Zkm {z ti to i1 i2 l1 l2:Addr}{k:Nat}{xs ys:Array Value}{x y:Value}{Q:Option Value→Shared→Prop}(D:ZipApart z ti to i1 i2 l1 l2) (st:ZAt s.heap z ti to i1 i2 l1 l2 k .none)
  (t1:s.heap.IsTuple l1 xs) (t2:s.heap.IsTuple l2 ys) (hx:xs[k]?=some x) (hy:ys[k]?=some y)
  (q:∀ g,ZAt g z ti to i1 i2 l1 l2 (k + 1) (rawInt s.heap.objs.size)→IsPair g s.heap.objs.size x y→(∀ c o,c≠z→c≠to→c≠i1→c≠i2→s.heap.get? c=some o→g.get? c=some o)→Q (some (.ref s.heap.objs.size)) { s with heap:=g }):
  wpAny (model prog w) A (pyNext (.ref z)) Q E s:=by
 have hT:s.TypeIs (.ref z) "zip":=⟨_,st.z,rfl⟩
 unfold pyNext
 exact wpAny_bind (wpAny_attempt (wpAny_callSpecial?_slot (name:=Str.ofString "__next__") hT PySem.F.slot_zip_next (wpAny_call_entry PySem.F.slot_zip_next hT PySem.F.entry_zip_next (Zqx D st t1 t2 hx hy fun g a1 a2 a3=>wpAny_pure (q g a1 a2 a3)) (PySem.F.args_zip_next_1 _))))
theorem Zkn {z ti to i1 i2 l1 l2:Addr}{k:Nat}{xs ys:Array Value}{Q:Option Value→Shared→Prop}(hh:A.handled=none) (D:ZipApart z ti to i1 i2 l1 l2) (st:ZAt s.heap z ti to i1 i2 l1 l2 k .none)
  (t1:s.heap.IsTuple l1 xs) (t2:s.heap.IsTuple l2 ys) (hend:xs[k]?=none∨ys[k]?=none)
  (q:∀ g,(∀ c o,c≠z→c≠to→c≠i1→c≠i2→s.heap.get? c=some o→g.get? c=some o)→Q none { s with heap:=g }):wpAny (model prog w) A (pyNext (.ref z)) Q E s:=by
 have hT:s.TypeIs (.ref z) "zip":=⟨_,st.z,rfl⟩
 unfold pyNext
 refine wpAny_bind (wpAny_attempt (wpAny_callSpecial?_slot (name:=Str.ofString "__next__") hT PySem.F.slot_zip_next (wpAny_call_entry PySem.F.slot_zip_next hT PySem.F.entry_zip_next (Zqy hh D st t1 t2 hend fun g e hk he=>?_) (PySem.F.args_zip_next_1 _))))
 obtain ⟨o,ho,hc⟩:=he
 refine wpAny_bind (wpAny_isInstance (T:="StopIteration") (b:=true) ⟨o,ho,hc⟩ isSubtype_stop ?_)
 exact wpAny_pure (q _ hk)
end
end L2
namespace L2
open PySem PySem.Spec PyProof.Rows
def Itp (ps:List (V×V)) (Ok:Hp→Prop):It :=
 ⟨fun i H=>i<ps.length∧Ok H,fun i H v H'=>∃ t p,ps[i]?=some p∧H t=none∧v=.ref t∧H'=upd H t (.tup [p.1,p.2]),fun i H=>ps.length≤i∧Ok H⟩
section
variable {prog:Program} {w:World} {A:Around} {E:Value→Shared→Prop} {s:Shared}
abbrev zg1 (h:Heap) (l1:Addr):Heap:=h.push { cls:=.type "tuple_iterator",data:=.fields #[.ref l1,.int 0 0] }
abbrev zg2 (h:Heap) (l1 l2:Addr):Heap:=(zg1 h l1).push { cls:=.type "tuple_iterator",data:=.fields #[.ref l2,.int 0 0] }
abbrev zg3 (h:Heap) (l1 l2:Addr):Heap:=(zg2 h l1 l2).push { cls:=.type "tuple",data:=.seq #[.ref h.objs.size,.ref (zg1 h l1).objs.size] }
abbrev zg4 (h:Heap) (l1 l2:Addr):Heap:=(zg3 h l1 l2).push { cls:=.type "tuple",data:=.seq #[.none,.none] }
abbrev zg5 (h:Heap) (l1 l2:Addr):Heap:=(zg4 h l1 l2).push { cls:=.type "zip",data:=.fields #[.none,.bool false,.bool false,.ref (zg2 h l1 l2).objs.size,.ref (zg3 h l1 l2).objs.size] }
theorem Zp8 (l1 l2:Addr) (xs ys:Array Value):Meets (Builtin.«zip.__new__» ⟨[.type "zip",.ref l1,.ref l2],[]⟩) (fun _ R s=>s.heap.IsTuple l1 xs∧s.heap.IsTuple l2 ys ∧
   R (.ok (.ret (.ref (zg4 s.heap l1 l2).objs.size))) { s with heap:=zg5 s.heap l1 l2 }):=
 .of_wp fun prog w A R s h=>by
  obtain ⟨hp,g,d,tk,os⟩:=s
  obtain ⟨t1,t2,h⟩:=h
  have hsub:=sub_zip
  have T1:Heap.IsTuple (Shared.heap ⟨hp,g,d,tk,os⟩) l1 xs:=t1
  have T2:Heap.IsTuple (Shared.heap ⟨hp.push { cls:=.type "tuple_iterator",data:=.fields #[.ref l1,.int 0 0] },g,d,tk,os⟩) l2 ys:=Heap.IsTuple.push t2 _
  wp_walk using wpAny_pyIter_tuple T1,wpAny_pyIter_tuple T2
  exact ⟨_,rfl,h⟩
theorem Ztv {l1 l2:Addr}{xs ys:Array Value}{Q:Value→Shared→Prop} (t1:s.heap.IsTuple l1 xs) (t2:s.heap.IsTuple l2 ys)
  (q:∀ g,ZAt g (s.heap.objs.size + 4) (s.heap.objs.size + 2) (s.heap.objs.size + 3) s.heap.objs.size (s.heap.objs.size + 1) l1 l2 0 .none→(∀ c o,s.heap.get? c=some o→g.get? c=some o)→Q (.ref (s.heap.objs.size + 4)) { s with heap:=g }):
  wpAny (model prog w) A (call (.type "zip") [.ref l1,.ref l2]) Q E s:=by
 refine callType_new PySem.F.called_zip (by decide) (PySem.F.typeCall_zip_2 _ _) (PySem.F.newCall_zip_2 _ _) (fun obj=>PySem.F.args_object_init_3 obj _ _) PySem.F.entry_zip_new (Zp8 l1 l2 xs ys) ⟨t1,t2,?_⟩
 have n1:(zg1 s.heap l1).objs.size=s.heap.objs.size + 1:=Heap.size_push ..
 have n2:(zg2 s.heap l1 l2).objs.size=s.heap.objs.size + 2:=by rw [Heap.size_push,n1]
 have n3:(zg3 s.heap l1 l2).objs.size=s.heap.objs.size + 3:=by rw [Heap.size_push,n2]
 have n4:(zg4 s.heap l1 l2).objs.size=s.heap.objs.size + 4:=by rw [Heap.size_push,n3]
 have up:∀ {h:Heap} {a:Addr} {o:Obj} (x:Obj),h.get? a=some o→(h.push x).get? a=some o:=fun x e=>Heap.get?_push_of_some _ e
 have f5:(zg5 s.heap l1 l2).get? (zg4 s.heap l1 l2).objs.size=some _:=Heap.get?_push_size _ rfl
 have f4:(zg5 s.heap l1 l2).get? (zg3 s.heap l1 l2).objs.size=some _:=up _ (Heap.get?_push_size _ rfl)
 have f3:(zg5 s.heap l1 l2).get? (zg2 s.heap l1 l2).objs.size=some _:=up _ (up _ (Heap.get?_push_size _ rfl))
 have f2:(zg5 s.heap l1 l2).get? (zg1 s.heap l1).objs.size=some _:=up _ (up _ (up _ (Heap.get?_push_size _ rfl)))
 have f1:(zg5 s.heap l1 l2).get? s.heap.objs.size=some _:=up _ (up _ (up _ (up _ (Heap.get?_push_size _ rfl))))
 show _∧_
 rw [n2,n3,n4] at f5
 rw [n1,n2] at f3
 rw [n3] at f4
 rw [n1] at f2
 rw [n4]
 exact ⟨⟨_,f5,rfl⟩,q _ ⟨f5,f3,⟨_,_,f4⟩,⟨_,f1,rfl,rfl⟩,⟨_,f2,rfl,rfl⟩⟩ fun c o x=>up _ (up _ (up _ (up _ (up _ x))))⟩
end
theorem Zhy {xs ys:List V}{i:Nat}{p:V×V}(h:(xs.zip ys)[i]?=some p):xs[i]?=some p.1∧ys[i]?=some p.2:=by
 rw [List.getElem?_zip_eq_some] at h
 exact h
theorem Inv.turnedNewL {X:Cx}{pins:List (Addr×Obj)}{σ:St}{H:Hp}{s:Shared}{h':Heap}{t':Nat}{its:List Addr}{a:Addr}{o:HO}(I:Inv X pins σ H s) (k:∀ b u,b∉its→s.heap.get? b=some u→h'.get? b=some u)
  (f:∀ b∈its,Zk9 X pins H b) (ha:s.heap.objs.size≤a) (new:Zc5 X.prog X.w (upd H a o) h' a o):Inv X pins σ (upd H a o) { s with heap:=h',toks:=t' }:=by
 have nit:∀ b u,H b=some u→b∉its:=fun b u e z=>by have:=(f b z).1;rw [this] at e;cases e
 have na:∀ b u,H b=some u→b≠a:=fun b u e=>Nat.ne_of_lt (Nat.lt_of_lt_of_le (I.hok.lt e) ha)
 have low:∀ {b u},H b=some u→(upd H a o) b=some u:=fun {b u} e=>by rw [Zac (na b u e)];exact e
 refine I.step (g':=s.gens) (d':=s.drawn) (ch:=its) (fun b hb=>?_) (fun b u _ _ hc e _=>k b u hc e) (fun b u _ _ hc e _=>⟨u.slots,k b u hc e⟩)
  (fun b u _ e n=>by rw [Zac (Nat.ne_of_lt (Nat.lt_of_lt_of_le (Heap.lt_size e) ha))];exact n)
  (fun b u hc e=>⟨u,k b u hc e⟩) (fun _ _ e=>low e) (fun _ _ _ e=>low e) (fun b ps e=>⟨#[],by rw [low e];simp⟩) (fun m hm=>?_) (fun b u e=>?_) I.bare
 ·obtain ⟨f0,f1,f2,f3,f4,f5⟩:=f b hb
  exact ⟨f3,f1,f4,f5⟩
 ·obtain ⟨o',es,ep,ho,r⟩:=hm
  exact ⟨o',es,ep,k _ o' (fun z=>(f _ z).2.1 rfl) ho,r⟩
 ·by_cases hb:b=a
  ·subst hb
   rw [uS] at e
   cases e
   exact new
  ·rw [Zac hb] at e
   refine (I.hok b u e).stay (fun c v hc q=>k c v ?_ q) (fun _ q=>low q) fun _ _ q=>low q
   rcases hc with z | z
   ·rw [z];exact nit b u e
   ·exact nit c _ z
theorem Inv.turnedL {X:Cx}{pins:List (Addr×Obj)}{σ:St}{H:Hp}{s:Shared}{h':Heap}{t':Nat}{its:List Addr}(I:Inv X pins σ H s) (k:∀ b u,b∉its→s.heap.get? b=some u→h'.get? b=some u)
  (f:∀ b∈its,Zk9 X pins H b):Inv X pins σ H { s with heap:=h',toks:=t' }:=by
 have nit:∀ b u,H b=some u→b∉its:=fun b u e z=>by have:=(f b z).1;rw [this] at e;cases e
 refine I.step (g':=s.gens) (d':=s.drawn) (ch:=its) (fun b hb=>?_) (fun b u _ _ hc e _=>k b u hc e) (fun b u _ _ hc e _=>⟨u.slots,k b u hc e⟩)
  (fun b u _ e n=>n) (fun b u hc e=>⟨u,k b u hc e⟩) (fun _ _ e=>e) (fun _ _ _ e=>e) (fun b ps e=>⟨#[],by rw [e];simp⟩) (fun m hm=>?_) (fun b u e=>?_) I.bare
 ·obtain ⟨f0,f1,f2,f3,f4,f5⟩:=f b hb
  exact ⟨f3,f1,f4,f5⟩
 ·obtain ⟨o',es,ep,ho,r⟩:=hm
  exact ⟨o',es,ep,k _ o' (fun z=>(f _ z).2.1 rfl) ho,r⟩
 ·refine (I.hok b u e).stay (fun c v hc q=>k c v ?_ q) (fun _ q=>q) fun _ _ q=>q
  rcases hc with z | z
  ·rw [z];exact nit b u e
  ·exact nit c _ z
theorem Zub {P:Program}{w:World}{K:PySem.W.Frag}{elts:List Expr}{x1}{pos:Pos}{xs ys:List V} (a b z ti to i1 i2:Addr) (D:ZipApart z ti to i1 i2 a b):
  Zod P w K (.Tuple elts x1 pos) (Itp (xs.zip ys) fun H=>SqT K H a xs∧SqT K H b ys) [z,ti,to,i1,i2] z (fun i h=>ZAt h z ti to i1 i2 a b i .none) where
 mem:=by simp
 obj:=fun i h st c hc=>by
  have hc':c=z∨c=ti∨c=to∨c=i1∨c=i2:=by simpa using hc
  obtain ⟨x,y,h3⟩:=st.to
  obtain ⟨o1,e1,_,d1⟩:=st.i1
  obtain ⟨o2,e2,_,d2⟩:=st.i2
  rcases hc' with rfl | rfl | rfl | rfl | rfl
  ·exact ⟨_,st.z,fun v q=>by cases q⟩
  ·exact ⟨_,st.ti,fun v q=>by cases q⟩
  ·exact ⟨_,h3,fun v q=>by cases q⟩
  ·exact ⟨_,e1,fun v q=>by rw [d1] at q;cases q⟩
  ·exact ⟨_,e2,fun v q=>by rw [d2] at q;cases q⟩
 keep:=fun i h h' st k=>st.at k
 item:=by
  intro X hP hw hK hc i pins s σ H E I hf st hg
  subst hP hw hK
  obtain ⟨hi,ha,hb⟩:=hg
  obtain ⟨p,hp⟩:∃ p,(xs.zip ys)[i]?=some p:=⟨(xs.zip ys)[i]'hi,List.getElem?_eq_getElem hi⟩
  obtain ⟨hx,hy⟩:=Zhy hp
  obtain ⟨its,rv,pa,_⟩:=I.tuple ha
  obtain ⟨jts,rw',pb,_⟩:=I.tuple hb
  obtain ⟨u,hu,ru⟩:=rv.get hx
  obtain ⟨v,hv,rv'⟩:=rw'.get hy
  refine Zkm D st (show s.heap.IsTuple a its.toArray from pa) (show s.heap.IsTuple b jts.toArray from pb) (by simpa using hu) (by simpa using hv) fun g st' hpr hk=>?_
  refine ⟨_,rfl,?_⟩
  refine wpAny_letOwnedTupleGo_zip (s:={ s with heap:=g }) st'.z fun g' z' sb=>?_
  have zlt:z<s.heap.objs.size:=Heap.lt_size st.z
  have nz:s.heap.objs.size≠z:=Nat.ne_of_gt zlt
  have sb':Heap.ExtBut z g g':=sb.extBut
  have hT:IsPair g' s.heap.objs.size u v:=sb' _ _ nz hpr
  have I1:Inv X pins σ (upd H s.heap.objs.size (.tup [p.1,p.2])) { s with heap:=g' }:=I.turnedNewL (t':=s.toks) (its:=[z,ti,to,i1,i2]) (fun c o hc e=>sb' c o (fun q=>hc (by simp [q])) (hk c o (fun q=>hc (by simp [q])) (fun q=>hc (by simp [q])) (fun q=>hc (by simp [q])) (fun q=>hc (by simp [q])) e)) hf (Nat.le_refl _)
   ⟨sL (by show 2≤100000;decide),[u,v],.cons ru (.cons rv' .nil),⟨_,hT,rfl,_,rfl⟩⟩
  have st2:ZAt g' z ti to i1 i2 a b (i + 1) .none:=by
   obtain ⟨a1,a2,a3⟩:=st'.to
   exact ⟨z',sb' _ _ D.TIz st'.ti,⟨a1,a2,sb' _ _ D.TOz a3⟩,st'.i1.extBut sb' D.i1z,st'.i2.extBut sb' D.i2z⟩
  refine ⟨.ref s.heap.objs.size,_,I1,rfl,⟨s.heap.objs.size,p,hp,I.hok.fresh (Nat.le_refl _),rfl,rfl⟩,st2,fun c hc=>?_⟩
  have lt:∀ c∈[z,ti,to,i1,i2],c<s.heap.objs.size:=fun c hc=>by
   have hc':c=z∨c=ti∨c=to∨c=i1∨c=i2:=by simpa using hc
   obtain ⟨a1,a2,a3⟩:=st.to
   obtain ⟨o1,e1,_⟩:=st.i1
   obtain ⟨o2,e2,_⟩:=st.i2
   rcases hc' with rfl | rfl | rfl | rfl | rfl
   ·exact zlt
   ·exact Heap.lt_size st.ti
   ·exact Heap.lt_size a3
   ·exact Heap.lt_size e1
   ·exact Heap.lt_size e2
  rw [Zac (Nat.ne_of_lt (lt c hc))]
  exact (hf c hc).1
 done:=by
  intro X hP hw hK hc i pins s σ H E I hf st hg
  subst hP hw hK
  obtain ⟨hi,ha,hb⟩:=hg
  obtain ⟨its,rv,pa,_⟩:=I.tuple ha
  obtain ⟨jts,rw',pb,_⟩:=I.tuple hb
  have l1:=rv.length
  have l2:=rw'.length
  have hend:its.toArray[i]?=none∨jts.toArray[i]?=none:=by
   rw [List.length_zip] at hi
   rcases Nat.le_total xs.length ys.length with h | h
   ·rw [Nat.min_eq_left h] at hi
    exact .inl (by simp;omega)
   ·rw [Nat.min_eq_right h] at hi
    exact .inr (by simp;omega)
  exact Zkn (I.ok.hd hc) D st (show s.heap.IsTuple a its.toArray from pa) (show s.heap.IsTuple b jts.toArray from pb) hend fun g hk=>⟨rfl,I.turnedL (t':=s.toks) (its:=[z,ti,to,i1,i2]) (fun c o hc e=>hk c o (fun q=>hc (by simp [q])) (fun q=>hc (by simp [q])) (fun q=>hc (by simp [q])) (fun q=>hc (by simp [q])) e) hf⟩
 self:=fun A i s Q E st h=>wpAny_pyIter_zip st.z h
section
variable {X:Cx}
def Z41 (K:PySem.W.Frag) (ta:TA):TI:=fun σ H R=>ta σ H fun vs H1=>∃ (a b:Addr) (xs ys:List V),vs=[.ref a,.ref b]∧SqT K H1 a xs∧SqT K H1 b ys∧R (Itp (xs.zip ys) fun H=>SqT K H a xs∧SqT K H b ys) H1
theorem Zwg {elts:List Expr}{x1}{tpos:Pos}{a b:Expr}{ta:TA}{p pos:Pos}(hg:Gl X "zip") (hm:X.mg "zip"=none) (ha:PA X [a,b] ta) (hs:starEach [a,b] X.env=[(false,eval a X.env),(false,eval b X.env)]:=by rfl) (hs2:starEach [b] X.env=[(false,eval b X.env)]:=by rfl):
  PI X (.Tuple elts x1 tpos) (.Call (.Name "zip" p) [a,b] [] pos) (Z41 X.K ta):=by
 intro pins s σ H R I h
 refine Call_ (Zg5 I hg hm boot_zip (PyProof.Rows.callWith_type1 (thn (ha pos pins s σ H _ I h) fun us s1 ⟨vs,H1,I1,r1,q1⟩=>?_) (by rw [hs,hs2]) (by rw [hs2];rfl)))
 obtain ⟨l1,l2,xs,ys,e,t1,t2,q⟩:=q1
 subst e
 cases r1 with
 | cons r rr =>
  cases rr with
  | cons r' rr =>
   cases rr
   obtain rfl:_=Value.ref l1:=r
   obtain rfl:_=Value.ref l2:=r'
   obtain ⟨its,rv,pa,_⟩:=I1.tuple t1
   obtain ⟨jts,rw',pb,_⟩:=I1.tuple t2
   have b1:s1.heap.IsTuple l1 its.toArray:=pa
   have b2:s1.heap.IsTuple l2 jts.toArray:=pb
   have lt1:l1<s1.heap.objs.size:=let ⟨_,e,_⟩:=b1;Heap.lt_size e
   have lt2:l2<s1.heap.objs.size:=let ⟨_,e,_⟩:=b2;Heap.lt_size e
   refine Ztv b1 b2 fun g st hk=>wpAny_pyIter_zip (s:={ s1 with heap:=g }) st.z ?_
   have D:ZipApart (s1.heap.objs.size + 4) (s1.heap.objs.size + 2) (s1.heap.objs.size + 3) s1.heap.objs.size (s1.heap.objs.size + 1) l1 l2:=PySem.W.ktu_apart _ _ _ lt1 lt2
   refine ⟨_,[s1.heap.objs.size + 4,s1.heap.objs.size + 2,s1.heap.objs.size + 3,s1.heap.objs.size,s1.heap.objs.size + 1],_,_,H1,rfl,I1.kept (t':=s1.toks) fun b o e=>hk b o e,Zub l1 l2 _ _ _ _ _ D,st,fun c hc=>?_,q⟩
   have hc':c=s1.heap.objs.size + 4∨c=s1.heap.objs.size + 2∨c=s1.heap.objs.size + 3∨c=s1.heap.objs.size∨c=s1.heap.objs.size + 1:=by simpa using hc
   have ge:s1.heap.objs.size≤c:=by
    rcases hc' with rfl | rfl | rfl | rfl | rfl
    ·exact Nat.le_add_right _ _
    ·exact Nat.le_add_right _ _
    ·exact Nat.le_add_right _ _
    ·exact Nat.le_refl _
    ·exact Nat.le_add_right _ _
   exact I1.fpOk ge (I1.hok.fresh ge)
end
end L2
namespace L2
open PySem PySem.Spec PyProof.Rows
theorem Ztm {prog:Program}{w:World}{A:Around}(hh:A.handled=none) (p t:Addr) (ne:t≠p) (us:Array Value):Draws prog w A p [p,t] us.size (fun i v=>us[i]?=some v) (fun i h=>h.IsTupleIter p t i∧h.IsTuple t us) where
 live:=fun _ _ st=>let ⟨o,ho,_⟩:=st.1;⟨o,ho⟩
 frame:=fun _ _ _ st hk=>⟨st.1.at fun o e=>hk p (by simp) o e,let ⟨o,ho,r⟩:=st.2;⟨o,hk t (by simp) o ho,r⟩⟩
 item:=fun i s Q E hi st q=>Zea st.1 st.2 (u:=us[i]) (by simp [hi]) fun g st' sb=>q _ g s.toks (by simp [hi]) ⟨st',st.2.extBut sb.extBut ne⟩ sb
 done:=fun s Q E st q=>Zeb hh st.1 st.2 (by simp) q
def SIt (b:Bool) (h:Heap) (p a:Addr) (i:Nat):Prop:=if b=true then h.IsListIter p a i else h.IsTupleIter p a i
def SSq (b:Bool) (h:Heap) (a:Addr) (us:Array Value):Prop:=if b=true then h.IsList a us else h.IsTuple a us
theorem SIt.at {b:Bool}{h h':Heap}{p a:Addr}{i:Nat}(x:SIt b h p a i) (e:∀ o,h.get? p=some o→h'.get? p=some o):SIt b h' p a i:=by
 cases b with
 | true=>exact Heap.IsListIter.at (show h.IsListIter p a i from x) e
 | false=>exact Heap.IsTupleIter.at (show h.IsTupleIter p a i from x) e
theorem SIt.obj {b:Bool}{h:Heap}{p a:Addr}{i:Nat}(x:SIt b h p a i):∃ o,h.get? p=some o∧∀ v,o.data≠.cell v:=by
 cases b with
 | true =>
  obtain ⟨o,e,_,d⟩:=(show h.IsListIter p a i from x)
  exact ⟨o,e,fun v z=>by rw [d] at z;cases z⟩
 | false =>
  obtain ⟨o,e,_,d⟩:=(show h.IsTupleIter p a i from x)
  exact ⟨o,e,fun v z=>by rw [d] at z;cases z⟩
theorem Ztn {prog:Program}{w:World}{A:Around}(b:Bool) (hh:A.handled=none) (p t:Addr) (ne:t≠p) (us:Array Value):Draws prog w A p [p,t] us.size (fun i v=>us[i]?=some v) (fun i h=>SIt b h p t i∧SSq b h t us):=by
 cases b with
 | true=>exact Draws.list hh p t ne us
 | false=>exact Ztm hh p t ne us
theorem Inv.sseq {X:Cx}{pins:List (Addr×Obj)}{σ:St}{H:Hp}{s:Shared}{b:Bool}{a:Addr}{xs:List V}(I:Inv X pins σ H s) (h:SqB X.K b H a xs):∃ its:List Value,Zcn xs its∧SSq b s.heap a its.toArray:=by
 cases b with
 | true =>
  obtain ⟨its,rv,p,_⟩:=I.list (show SqL X.K H a xs from h)
  exact ⟨its,rv,p.isList⟩
 | false =>
  obtain ⟨its,rv,p,_⟩:=I.tuple (show SqT X.K H a xs from h)
  exact ⟨its,rv,p⟩
def Zi5 (xs:List V):List (V×V):=(Zdg 0 xs.length).zip xs
theorem Ze8 (xs:List V):(Zi5 xs).length=xs.length:=by
 unfold Zi5
 rw [List.length_zip,Zau,Nat.min_self]
theorem Zg9 {xs:List V}{i:Nat}{p:V×V}(h:(Zi5 xs)[i]?=some p):p.1=.int i∧xs[i]?=some p.2:=by
 obtain ⟨h1,h2⟩:=Zhy h
 obtain ⟨_,e⟩:=Za4 h1
 exact ⟨by rw [e,Int.zero_add],h2⟩
section
variable {prog:Program} {w:World} {A:Around} {E:Value→Shared→Prop} {s:Shared}
theorem Zno (l:Addr) (us:Array Value):Meets (Builtin.«enumerate.__new__» ⟨[.type "enumerate",.ref l],[]⟩) (fun _ R s=>s.heap.IsTuple l us ∧
   R (.ok (.ret (.ref (s.heap.push { cls:=.type "tuple_iterator",data:=.fields #[.ref l,.int 0 0] }).objs.size)))
    { s with heap:=(s.heap.push { cls:=.type "tuple_iterator",data:=.fields #[.ref l,.int 0 0] }).push { cls:=.type "enumerate",data:=.fields #[.none,.bool false,.ref s.heap.objs.size,rawInt 0,.none,.none] } }):=
 .of_wp fun prog w A R s h=>by
  obtain ⟨hp,g,d,tk,os⟩:=s
  obtain ⟨ht,h⟩:=h
  have hsub:=sub_enumerate
  obtain ⟨⟨c,dct,dt,sl⟩,hl,hc,n,hd⟩:=id ht
  replace hc:c=.type "tuple":=hc
  replace hd:dt=.seq us n:=hd
  subst hc hd
  have hT:Heap.IsTuple (Shared.heap ⟨hp,g,d,tk,os⟩) l us:=ht
  wp_walk using AutoSeq1.wpAny_loadPart' hl
  refine wpAny_stack_any fun st=>wpAny_pure ?_
  split
  ·rename_i c _ _ _ _ _
   cases (c == Value.type "enumerate")
   ·wp_walk using AutoSeq1.wpAny_loadPart' hl,wpAny_pyIter_tuple hT
    exact ⟨_,rfl,h⟩
   ·wp_walk using AutoSeq1.wpAny_loadPart' hl,wpAny_pyIter_tuple hT
    exact ⟨_,rfl,h⟩
  ·wp_walk using AutoSeq1.wpAny_loadPart' hl,wpAny_pyIter_tuple hT
   exact ⟨_,rfl,h⟩
theorem Zty (b:Bool) {l:Addr}{us:Array Value}{Q:Value→Shared→Prop}(hl:SSq b s.heap l us)
  (q:∀ g,IsEnum g (s.heap.objs.size + 1) s.heap.objs.size 0 .none→SIt b g s.heap.objs.size l 0→(∀ c o,s.heap.get? c=some o→g.get? c=some o)→Q (.ref (s.heap.objs.size + 1)) { s with heap:=g }):
  wpAny (model prog w) A (call (.type "enumerate") [.ref l]) Q E s:=by
 cases b with
 | true=>exact call_enumerate_list (show s.heap.IsList l us from hl) fun g h1 h2 _ h4=>q g h1 h2 h4
 | false =>
  refine callType_new PySem.F.called_enumerate (by decide) (PySem.F.typeCall_enumerate_1 _) (PySem.F.newCall_enumerate_1 _) (fun obj=>PySem.F.args_object_init_2 obj _) PySem.F.entry_enumerate_new (Zno l us) ⟨hl,?_⟩
  have n1:(zg1 s.heap l).objs.size=s.heap.objs.size + 1:=Heap.size_push ..
  show _∧_
  rw [n1]
  have he:IsEnum ((zg1 s.heap l).push { cls:=.type "enumerate",data:=.fields #[.none,.bool false,.ref s.heap.objs.size,rawInt 0,.none,.none] }) (s.heap.objs.size + 1) s.heap.objs.size 0 .none:=by
   have:=Heap.get?_push_size (zg1 s.heap l) (o:={ cls:=.type "enumerate",data:=.fields #[.none,.bool false,.ref s.heap.objs.size,rawInt 0,.none,.none] }) rfl
   rw [n1] at this
   exact this
  exact ⟨⟨_,he,rfl⟩,q _ he ⟨_,Heap.get?_push_of_some _ (Heap.get?_push_size _ rfl),rfl,rfl⟩ fun c o x=>Heap.get?_push_of_some _ (Heap.get?_push_of_some _ x)⟩
end
theorem Ztk {prog:Program}{w:World}{A:Around}{E:Value→Shared→Prop}{s:Shared}{e p:Addr}{i:Int}{old:Value}{Q:Option Value→Shared→Prop}(hh:A.handled=none) (he:IsEnum s.heap e p i old)
  (nx:∀ (Q:Value→Shared→Prop) (E:Value→Shared→Prop),(∀ g e,Heap.ExtBut p s.heap g→(∃ o,g.get? e=some o∧o.cls=.type "StopIteration")→E (.ref e) { s with heap:=g })→wpAny (model prog w) A.in1 (Builtin.SmallTypes.nextOf (.ref p)) Q E s)
  (q:∀ g,Heap.ExtBut p s.heap g→Q none { s with heap:=g }):wpAny (model prog w) A (pyNext (.ref e)) Q E s:=by
 have hT:s.TypeIs (.ref e) "enumerate":=⟨_,he,rfl⟩
 unfold pyNext
 refine wpAny_bind (wpAny_attempt (wpAny_callSpecial?_slot (name:=Str.ofString "__next__") hT PySem.F.slot_enumerate_next (wpAny_call_entry PySem.F.slot_enumerate_next hT PySem.F.entry_enumerate_next ?_ (PySem.F.args_enumerate_next_1 _))))
 show wpAny _ _ (field (.ref e) 2>>=_) _ _ _
 refine wpAny_bind (wpAny_field he rfl (x:=.ref p) rfl (wpAny_bind (nx _ _ fun g x eb hx=>?_)))
 obtain ⟨o,ho,hc⟩:=hx
 refine wpAny_bind (wpAny_isInstance (T:="StopIteration") (b:=true) ⟨o,ho,hc⟩ isSubtype_stop ?_)
 exact wpAny_pure (q _ eb)
theorem Zq8 {P:Program}{w:World}{K:PySem.W.Frag}{elts:List Expr}{x1}{pos:Pos}{xs:List V}(b:Bool) (a e p:Addr) (ep:e≠p) (ea:e≠a) (ap:a≠p):
  Zod P w K (.Tuple elts x1 pos) (Itp (Zi5 xs) fun H=>SqB K b H a xs) [e,p] e (fun i h=>(∃ old,IsEnum h e p i old)∧SIt b h p a i) where
 mem:=by simp
 obj:=fun i h st c hc=>by
  have hc':c=e∨c=p:=by simpa using hc
  obtain ⟨⟨old,he⟩,si⟩:=st
  rcases hc' with rfl | rfl
  ·exact ⟨_,he,fun v q=>by cases q⟩
  ·exact si.obj
 keep:=fun i h h' st k=>by
  obtain ⟨⟨old,he⟩,si⟩:=st
  exact ⟨⟨old,k e (by simp) _ he⟩,si.at fun o q=>k p (by simp) o q⟩
 item:=by
  intro X hP hw hK hc i pins s σ H E I hf st hg
  subst hP hw hK
  obtain ⟨hi,ha⟩:=hg
  obtain ⟨⟨old,he⟩,si⟩:=st
  obtain ⟨pr,hp⟩:∃ p,(Zi5 xs)[i]?=some p:=⟨(Zi5 xs)[i]'hi,List.getElem?_eq_getElem hi⟩
  obtain ⟨e1,hx⟩:=Zg9 hp
  obtain ⟨its,rv,sq⟩:=I.sseq ha
  obtain ⟨u,hu,ru⟩:=rv.get hx
  have hil:i<its.toArray.size:=by rw [Ze8] at hi;have:=rv.length;simp;omega
  have D:=Ztn (prog:=X.prog) (w:=X.w) (A:=X.A.in1) b (I.ok.hd hc) p a ap its.toArray
  refine wpAny_pyNext_enum_itemD D he ⟨si,sq⟩ hil ep (by simp;exact ⟨ep,ea⟩) fun x g tk hPx ho hst hT _ hk=>?_
  have exu:x=u:=by
   have h1:its.toArray[i]?=some x:=hPx
   have h2:its.toArray[i]?=some u:=by simpa using hu
   rw [h1] at h2
   exact Option.some.inj h2
  subst exu
  refine ⟨_,rfl,?_⟩
  refine wpAny_letOwnedTupleGo_enum (s:={ s with heap:=g,toks:=tk + 1 }) ho fun g' he' sb=>?_
  have elt:e<s.heap.objs.size:=Heap.lt_size he
  have plt:p<s.heap.objs.size:=let ⟨o,q,_⟩:=si.obj;Heap.lt_size q
  have sb':Heap.ExtBut e g g':=sb.extBut
  have hT':IsPair g' s.heap.objs.size (.int i tk) x:=sb' _ _ (Nat.ne_of_gt elt) hT
  have I1:Inv X pins σ (upd H s.heap.objs.size (.tup [pr.1,pr.2])) { s with heap:=g',toks:=tk + 1 }:=I.turnedNewL (t':=tk + 1) (its:=[e,p]) (fun c o hc q=>sb' c o (fun z=>hc (by simp [z])) (hk c o (fun z=>hc (by simp [z])) (fun z=>hc (by simp [z])) q)) hf (Nat.le_refl _)
   ⟨sL (by show 2≤100000;decide),[.int i tk,x],.cons (by rw [e1];exact ⟨tk,rfl⟩) (.cons ru .nil),⟨_,hT',rfl,_,rfl⟩⟩
  refine ⟨.ref s.heap.objs.size,_,I1,rfl,⟨s.heap.objs.size,pr,hp,I.hok.fresh (Nat.le_refl _),rfl,rfl⟩,⟨⟨x,by simpa using he'⟩,hst.1.at fun o q=>sb' _ o (Ne.symm ep) q⟩,fun c hc=>?_⟩
  have hc':c=e∨c=p:=by simpa using hc
  have ne:c≠s.heap.objs.size:=by
   rcases hc' with rfl | rfl
   ·exact Nat.ne_of_lt elt
   ·exact Nat.ne_of_lt plt
  rw [Zac ne]
  exact (hf c hc).1
 done:=by
  intro X hP hw hK hc i pins s σ H E I hf st hg
  subst hP hw hK
  obtain ⟨hi,ha⟩:=hg
  obtain ⟨⟨old,he⟩,si⟩:=st
  obtain ⟨its,rv,sq⟩:=I.sseq ha
  have hl:=rv.length
  rw [Ze8] at hi
  cases b with
  | true =>
   have si:s.heap.IsListIter p a i:=si
   have sq:s.heap.IsList a its.toArray:=sq
   refine Ztk (I.ok.hd hc) he (fun Q E hE=>wpAny_nextOf_list_end (I.ok.hd hc) si sq (by simp;omega) hE) fun g eb=>⟨rfl,I.turnedL (t':=s.toks) (its:=[e,p]) (fun c o hc q=>eb c o (fun z=>hc (by simp [z])) q) hf⟩
  | false =>
   have si:s.heap.IsTupleIter p a i:=si
   have sq:s.heap.IsTuple a its.toArray:=sq
   refine Ztk (I.ok.hd hc) he (fun Q E hE=>Zeb (I.ok.hd hc) si sq (by simp;omega) hE) fun g eb=>⟨rfl,I.turnedL (t':=s.toks) (its:=[e,p]) (fun c o hc q=>eb c o (fun z=>hc (by simp [z])) q) hf⟩
 self:=fun A i s Q E st h=>let ⟨⟨_,he⟩,_⟩:=st;wpAny_pyIter_enum he h
section
variable {X:Cx}
def Z19 (K:PySem.W.Frag) (ta:TA):TI:=fun σ H R=>ta σ H fun vs H1=>∃ (b:Bool) (a:Addr) (xs:List V),vs=[.ref a]∧SqB K b H1 a xs∧R (Itp (Zi5 xs) fun H=>SqB K b H a xs) H1
theorem Zsa {elts:List Expr}{x1}{tpos:Pos}{a:Expr}{ta:TA}{p pos:Pos}(hg:Gl X "enumerate") (hm:X.mg "enumerate"=none) (ha:PA X [a] ta) (hs:starEach [a] X.env=[(false,eval a X.env)]:=by rfl):
  PI X (.Tuple elts x1 tpos) (.Call (.Name "enumerate" p) [a] [] pos) (Z19 X.K ta):=by
 intro pins s σ H R I h
 refine Call_ (Zg5 I hg hm boot_enumerate (PyProof.Rows.callWith_type1 (thn (ha pos pins s σ H _ I h) fun us s1 ⟨vs,H1,I1,r1,q1⟩=>?_) hs rfl))
 obtain ⟨b,l,xs,e,t1,q⟩:=q1
 subst e
 cases r1 with
 | cons r rr =>
  cases rr
  obtain rfl:_=Value.ref l:=r
  obtain ⟨its,rv,sq⟩:=I1.sseq t1
  have lt1:l<s1.heap.objs.size:=by
   cases b with
   | true=>obtain ⟨_,e,_⟩:=(show s1.heap.IsList l its.toArray from sq);exact Heap.lt_size e
   | false=>obtain ⟨_,e,_⟩:=(show s1.heap.IsTuple l its.toArray from sq);exact Heap.lt_size e
  refine Zty b sq fun g he si hk=>wpAny_pyIter_enum (s:={ s1 with heap:=g }) he ?_
  refine ⟨_,[s1.heap.objs.size + 1,s1.heap.objs.size],_,_,H1,rfl,I1.kept (t':=s1.toks) fun b o e=>hk b o e,Zq8 b l _ _ (Nat.succ_ne_self _) (Nat.ne_of_gt (Nat.lt_succ_of_lt lt1)) (Nat.ne_of_lt lt1),⟨⟨_,he⟩,si⟩,fun c hc=>?_,q⟩
  have hc':c=s1.heap.objs.size + 1∨c=s1.heap.objs.size:=by simpa using hc
  have ge:s1.heap.objs.size≤c:=by
   rcases hc' with rfl | rfl
   ·exact Nat.le_add_right _ _
   ·exact Nat.le_refl _
  exact I1.fpOk ge (I1.hok.fresh ge)
end
end L2
namespace L2
open PySem PySem.Spec PyProof.Rows PySem.W
theorem Z0p {A:Around}{k:Nat}(hr:Zec k A):A.units + 65<cLine:=by have:=hr.un;omega
theorem Ze4 {κ:Type} [DecidableEq κ] {kvs:List (κ×V)}{k:κ}(h:k∉kvs.map (·.1)):Zf2 kvs k=none:=by
 cases e:Zf2 kvs k with
 | none=>rfl
 | some v=>exact absurd (Zq3 e) h
theorem Zpx {κ:Type} [DecidableEq κ] {kvs:List (κ×V)}{k:κ}{v:V}(h:k∉kvs.map (·.1)):(Zgh kvs k v).map (·.1)=kvs.map (·.1)++[k]:=by
 rw [Zeh v (Ze4 h),List.map_append]
 rfl
theorem Zsx {α:Type}{l:List α}(nd:l.Nodup) {i:Nat}{x:α}(h:l[i]?=some x):x∉l.take i:=by
 intro m
 have hi:=(List.getElem?_eq_some_iff.mp h).1
 have e:=(List.getElem?_eq_some_iff.mp h).2
 have sp:l=l.take i++l.drop i:=(List.take_append_drop i l).symm
 rw [sp] at nd
 have q:=(List.nodup_append.mp nd).2.2 x m
 refine q x ?_ rfl
 rw [List.drop_eq_getElem_cons hi,e]
 exact List.mem_cons_self
theorem Zg6 {ps:List (V×V)}{Ok:Hp→Prop}{g:TG}{tb:TS}{D:Zt5}{σ:St}{H:Hp}(Pv:Nat→St→Hp→Prop) (h0:Pv 0 σ H) (hl:∀ i σ H,i≤ps.length→Pv i σ H→Ok H)
  (hs:∀ i p t σ H,ps[i]?=some p→Pv i σ H→H t=none→g (.ref t) σ (upd H t (.tup [p.1,p.2])) fun σ2 H2=>tb { D with nx:=Pv (i + 1),ct:=Pv (i + 1),bk:=D.nx } σ2 H2) (hd:∀ σ H,Pv ps.length σ H→D.nx σ H):
  ∃ W:Nat→Nat→St→Hp→Prop,(∃ m,W 0 m σ H)∧∀ i m σ H,W i m σ H →
   ((Itp ps Ok).stop i H∧D.nx σ H)∨((Itp ps Ok).go i H∧∃ N:St→Hp→Prop,(∀ σ' H',N σ' H'→∃ m',m'<m∧W (i + 1) m' σ' H')∧∀ x H',(Itp ps Ok).yld i H x H'→g x σ H' fun σ2 H2=>tb { D with nx:=N,ct:=N,bk:=D.nx } σ2 H2):=by
 refine ⟨fun i m σ H=>m=ps.length - i∧i≤ps.length∧Pv i σ H,⟨ps.length,by simp,Nat.zero_le _,h0⟩,?_⟩
 rintro i m σ H ⟨rfl,hi,p⟩
 have q:=hl i σ H hi p
 by_cases hlt:i<ps.length
 ·refine .inr ⟨⟨hlt,q⟩,Pv (i + 1),fun σ' H' p'=>⟨ps.length - (i + 1),by omega,rfl,hlt,p'⟩,fun x H' y=>?_⟩
  obtain ⟨t,pr,hp,ht,rfl,rfl⟩:=y
  exact hs i pr t σ H hp p ht
 ·have e:i=ps.length:=by omega
  subst e
  exact .inl ⟨⟨Nat.le_refl _,q⟩,hd σ H p⟩
abbrev g2 (K:PySem.W.Frag) (i j:Nat):TG:=Z2a K 2 (Ztf (Zet i) (Ztf (Zet j) Z2b))
theorem Z2c {K:PySem.W.Frag}{i j:Nat}{t:Addr}{x y:V}{σ:St}{H:Hp}{R:St→Hp→Prop}(h:SqT K H t [x,y]) (q:R ((σ.set i (some x)).set j (some y)) H):g2 K i j (.ref t) σ H R :=
 ⟨t,[x,y],rfl,h,rfl,x,[y],rfl,y,[],rfl,rfl,q⟩
theorem Zo8 {K:PySem.W.Frag}{i j:Nat}{t:Addr}{x y:V}{σ:St}{H:Hp}{R:St→Hp→Prop}(q:R ((σ.set i (some x)).set j (some y)) (upd H t (.tup [x,y]))):g2 K i j (.ref t) σ (upd H t (.tup [x,y])) R :=
 Z2c (SqT.of uS) q
theorem Zsb {X:Cx}{K:PySem.W.Frag}{i j:Nat}{x y:Str}{p q pos:Pos}{c:Nat}(hK:X.K=K) (hc:X.calm=true) (hN:X.N.Nodup) (hi:X.N[i]?=some x) (hj:X.N[j]?=some y) (hx:Loc X.env.scope x) (hy:Loc X.env.scope y)
  (fx:X.fn x=true∨X.env.scope.names.lookup x=some .local) (fy:X.fn y=true∨X.env.scope.names.lookup y=some .local):PG X (.Tuple [.Name x p,.Name y q] c pos) (g2 K i j):=by
 subst hK
 exact Zfm hc (gC (Zah (i:=i) hN hi hx fx) (gC (Zah (i:=j) hN hj hy fy) Zee))
theorem Zcq {H:Hp}{t:Addr}{o:HO}(h:H t=none):Zal H (upd H t o):=fun b u e=>by rw [Zac (nNo e h)];exact e
theorem Zen {α:Type}(p:α→Bool):∀ (xs:List α) (i:Nat) (x:α),xs[i]?=some x→(xs.take (i + 1)).filter p=(xs.take i).filter p++if p x=true then [x] else []:=by
 intro xs i x h
 rw [List.take_add_one,h,List.filter_append]
 congr 1
 cases e:p x <;> simp [List.filter,e]
theorem Ztt {K:PySem.W.Frag}{ps:List (V×V)}{Ok:Hp→Prop}{js:List Nat}{tt:TT}{te:TE}{σ:St}{Q:VK}{H1:Hp}(hz:ps.length≤sizeLine) (p:V×V→Bool) (F:Addr→V×V→V→Hp→Prop)
  (hF:∀ D x v H H',(∀ b o,b≠D→H b=some o→H' b=some o)→F D x v H→F D x v H')
  (hok:∀ H,Zal H1 H→Ok H)
  (ht:∀ x H (R:Bool→Hp→Prop),Zal H1 H→x∈ps→(∀ H',Zal H H'→R (p x) H')→tt (some x.1 :: some x.2 :: js.map fun j=>(σ[j]?).join) H R)
  (he:∀ D x H (R:V→Hp→Prop),Zal H1 H→(∃ ys,H D=some (.lst ys))→H1 D=none→x∈ps→p x=true→(∀ v H',Zal H H'→F D x v H'→R v H')→te (some x.1 :: some x.2 :: js.map fun j=>(σ[j]?).join) H R)
  (hd:∀ D H' ys,H1 D=none→Zal H1 H'→H' D=some (.lst ys)→Paired (fun x v=>F D x v H') (ps.filter p) ys→Q (.ref D) H'):
  compBody 2 js (g2 K 0 1) tt te σ Q (Itp ps Ok) H1:=by
 intro D hD
 refine ⟨fun i m ys σ' H=>m=ps.length - i∧i≤ps.length∧Zal H1 H∧H D=some (.lst ys)∧Paired (fun x v=>F D x v H) ((ps.take i).filter p) ys∧∃ o u,σ'=o :: u :: js.map fun j=>(σ[j]?).join,
  ⟨ps.length,by simp,Nat.zero_le _,Zcq hD,uS,by simpa using Paired.nil,none,none,rfl⟩,?_⟩
 rintro i m ys σ' H ⟨rfl,hi,hs,hl,hp,o,u,rfl⟩
 have mono:∀ {H H':Hp},(∀ b o,b≠D→H b=some o→H' b=some o)→Paired (fun x v=>F D x v H) ((ps.take i).filter p) ys→Paired (fun x v=>F D x v H') ((ps.take i).filter p) ys:=fun h q=>Paired.mapP q fun a b z=>hF D a b _ _ h z
 by_cases hlt:i<ps.length
 ·have yl:ys.length<sizeLine:=by
   rw [← hp.length]
   refine Nat.lt_of_le_of_lt (List.length_filter_le _ _) ?_
   rw [List.length_take]
   omega
  refine .inr ⟨⟨hlt,hok H hs⟩,yl,fun ys3 σ3 H3=>Zal H1 H3∧H3 D=some (.lst ys3)∧Paired (fun x v=>F D x v H3) ((ps.take (i + 1)).filter p) ys3∧∃ o u,σ3=o :: u :: js.map fun j=>(σ[j]?).join,
   fun ys3 σ3 H3 z=>⟨ps.length - (i + 1),by omega,rfl,hlt,z⟩,fun x H2 y=>?_⟩
  obtain ⟨t,x,hx,ht0,rfl,rfl⟩:=y
  refine Zo8 ?_
  show tt (some x.1 :: some x.2 :: js.map fun j=>(σ[j]?).join) (upd H t (.tup [x.1,x.2])) _
  have hm:x∈ps:=List.mem_of_getElem? hx
  have st:Zal H (upd H t (.tup [x.1,x.2])):=Zcq ht0
  refine ht x _ _ (hs.trans st) hm fun H4 s4=>?_
  have s04:Zal H H4:=st.trans s4
  have hs4:Zal H1 H4:=hs.trans s04
  cases hpx:p x with
  | true =>
   rw [if_pos rfl]
   refine he D x H4 _ hs4 ⟨_,s04 _ _ hl⟩ hD hm hpx fun v H5 s5 f5=>⟨s5 _ _ (s04 _ _ hl),fun b o e=>?_,uS,?_,_,_,rfl⟩
   ·rw [Zac (nNo e hD)]
    exact s5 _ _ (hs4 _ _ e)
   ·rw [Zen p ps i x hx,hpx,if_pos rfl]
    refine Paired.snoc (mono (fun b o hb e=>by rw [Zac hb];exact s5 _ _ (s04 _ _ e)) hp) (hF D _ _ _ _ (fun b o hb e=>by rw [Zac hb];exact e) f5)
  | false =>
   rw [if_neg Bool.false_ne_true]
   refine ⟨hs4,s04 _ _ hl,?_,_,_,rfl⟩
   rw [Zen p ps i x hx,hpx,if_neg Bool.false_ne_true,List.append_nil]
   exact mono (fun b o _ e=>s04 _ _ e) hp
 ·have e:i=ps.length:=by omega
  subst e
  rw [List.take_length] at hp
  exact .inl ⟨⟨Nat.le_refl _,hok H hs⟩,hd D H ys hD hs hl hp⟩
theorem Zio {α:Type}{f:α→V}:∀ {xs:List α}{ys:List V},Paired (fun x v=>v=f x) xs ys→ys=xs.map f
 | _,_,.nil=>rfl
 | _,_,.cons r t=>by rw [List.map_cons,r,Zio t]
theorem Zmp {K:PySem.W.Frag}{ps:List (V×V)}{Ok:Hp→Prop}{js:List Nat}{tt:TT}{te:TE}{σ:St}{Q:VK}{H1:Hp}(hz:ps.length≤sizeLine) (p:V×V→Bool) (f:V×V→V)
  (hok:∀ H,Zal H1 H→Ok H)
  (ht:∀ x H (R:Bool→Hp→Prop),Zal H1 H→x∈ps→(∀ H',Zal H H'→R (p x) H')→tt (some x.1 :: some x.2 :: js.map fun j=>(σ[j]?).join) H R)
  (he:∀ x H (R:V→Hp→Prop),Zal H1 H→x∈ps→p x=true→(∀ H',Zal H H'→R (f x) H')→te (some x.1 :: some x.2 :: js.map fun j=>(σ[j]?).join) H R)
  (hd:∀ D H',H1 D=none→Zal H1 H'→H' D=some (.lst ((ps.filter p).map f))→Q (.ref D) H'):
  compBody 2 js (g2 K 0 1) tt te σ Q (Itp ps Ok) H1 :=
 Ztt hz p (fun _ x v _=>v=f x) (fun _ _ _ _ _ _ z=>z) hok ht (fun D x H R hs _ _ hx hp k=>he x H R hs hx hp fun H' s'=>k _ _ s' rfl)
  fun D H' ys hD hs hl hp=>hd D H' hD hs (by rw [hl,Zio hp])
theorem Zgd {J:It}{xs:List V}{Ok:Hp→Prop}(R:Zqr J xs Ok) {js:List Nat}{tt:TT}{te:TE}{σ:St}{Q:VK}{H1:Hp}(hz:xs.length≤sizeLine) (p:V→Bool) (f:V→V)
  (hok:∀ H,Zal H1 H→Ok H)
  (ht:∀ x H (R:Bool→Hp→Prop),Zal H1 H→x∈xs→(∀ H',Zal H H'→R (p x) H')→tt (some x :: js.map fun j=>(σ[j]?).join) H R)
  (he:∀ x H (R:V→Hp→Prop),Zal H1 H→x∈xs→p x=true→(∀ H',Zal H H'→R (f x) H')→te (some x :: js.map fun j=>(σ[j]?).join) H R)
  (hd:∀ D H',H1 D=none→Zal H1 H'→H' D=some (.lst ((xs.filter p).map f))→Q (.ref D) H'):
  compBody 1 js (Zet 0) tt te σ Q J H1 :=
 Zdf R hz p (fun _ x v _=>v=f x) (fun _ _ _ _ _ _ z=>z) hok ht (fun D x H R hs _ _ hx hp k=>he x H R hs hx hp fun H' s'=>k _ _ s' rfl)
  fun D H' ys hD hs hl hp=>hd D H' hD hs (by rw [hl,Zio hp])
section
variable {X:Cx}
theorem Zt2 {d:Dat}{n:Nat} (h2:kqdOk n d=true):∀ {ds:List Dat},ds.all (kqdOk 8)=true→((kqdPs ds).any fun y=>PyData.eqv y (kqdP d))=ds.any fun e=>dEq e d
 | [],_=>by rw [kqdPs];rfl
 | e :: ds,h=>by
  rw [List.all_cons,Bool.and_eq_true] at h
  rw [kqdPs,List.any_cons,List.any_cons,Zk3 h.1 h2,Zt2 h2 h.2]
noncomputable def Z4x (K:PySem.W.Frag) (f:Bool→Bool):R2:=fun x y H Q=>∃ d ds,Rep K H x d∧Rep K H y (.list ds)∧kqdOk 9 d=true∧ds.all (kqdOk 8)=true∧Q (.bl (f (ds.any fun e=>dEq e d))) H
theorem Zop {ds:List Dat}(h:ds.all (kqdOk 8)=true):SeqAt.shaped (PyData.list (kqdPs ds))=true:=by
 have:=Zdp (d:=.list ds) (by rw [kqdOk];exact h)
 rw [kqdP] at this
 exact this
theorem Zlz (hu:X.A.units + 65<cLine):OpR X (compareOp .NotIn) (Z4x X.K Bool.not):=by
 intro pins s σ H x y v u Q I rx ry h
 obtain ⟨d,ds,h1,h2,k1,k2,q⟩:=h
 obtain ⟨as,ra⟩:=h1.reads I rx
 obtain ⟨bs,rb⟩:=h2.reads I ry
 rw [kqdP] at rb
 exact SeqAt.notIn_list_reads rb ra (SeqAt.canLay_of_shaped (Zop k2)) (SeqAt.canLay_of_shaped (Zdp k1)) (room_in_shaped (Zdp k1) hu) (Zbs I q (by rw [Zt2 k1 k2]))
end
end L2
namespace L2
open PySem PySem.Spec PyProof.Rows PySem.W
def Zff (i:Nat):V:=.int (i:Nat)
def Zx2 (i:Nat):Dat:=.int (i:Nat)
theorem Zlp {K:PySem.W.Frag}{H:Hp}:∀ ns:List Nat,Reps K H (ns.map Zff) (ns.map Zx2)
 | []=>.nil
 | n :: r=>.cons (.int _) (Zlp r)
theorem Zsm (n:Nat) (ns:List Nat):kqdOk (n + 1) (.list (ns.map Zx2))=true:=by
 rw [kqdOk,List.all_eq_true]
 intro z hz
 obtain ⟨x,_,rfl⟩:=List.mem_map.mp hz
 unfold Zx2
 rw [kqdOk]
theorem Zuj {K:PySem.W.Frag}{H:Hp}{a:Addr}{ns:List Nat}(h:H a=some (.lst (ns.map Zff))):Rep K H (.ref a) (.list (ns.map Zx2)):=.list (SqL.of h) (Zlp ns)
theorem Zpv (n:Nat):Zdg 0 n=(List.range n).map Zff:=by
 refine List.ext_getElem? fun i=>?_
 by_cases hi:i<n
 ·have h1:(Zdg 0 n)[i]?=some ((Zdg 0 n)[i]'(by rw [Zau];exact hi)):=List.getElem?_eq_getElem _
  obtain ⟨_,e⟩:=Za4 h1
  rw [h1,e,List.getElem?_map,List.getElem?_range hi]
  show some (V.int (0 + (i:Nat)))=some (V.int (i:Nat))
  rw [Int.zero_add]
 ·rw [List.getElem?_eq_none (by rw [Zau];omega),List.getElem?_eq_none (by simp;omega)]
end L2
namespace L2
open PySem PySem.Spec PyProof.Rows
section
variable {X:Cx}
end
end L2
namespace L2
open PySem PySem.W PySem.Spec PyProof.Rows
theorem Zo6:∀ {ds:List Dat}{m:Nat}{e:Dat},ds[m]?=some e→(kqdPs ds)[m]?=some (kqdP e)
 | [],_,_,h=>by simp at h
 | a :: r,0,e,h=>by
  rw [kqdPs]
  have:a=e:=by simpa using h
  rw [this]
  rfl
 | a :: r,m + 1,e,h=>by
  rw [kqdPs,List.getElem?_cons_succ]
  exact Zo6 (by simpa using h)
theorem Zmk:∀ ds:List Dat,(kqdPs ds).length=ds.length
 | []=>by rw [kqdPs];rfl
 | a :: r=>by rw [kqdPs,List.length_cons,List.length_cons,Zmk r]
section
variable {X:Cx}
noncomputable def Zr5 (K:PySem.W.Frag):V→List V→Hp→VK→Prop:=fun x vs H Q=>∃ y d ds j e,vs=[y]∧Rep K H x (.list ds)∧Rep K H y d∧ds.all (kqdOk 8)=true∧kqdOk 9 d=true∧ds.length≤100000∧ds[j]?=some e∧dEq e d=true∧(∀ m e,m<j→ds[m]?=some e→dEq e d=false)∧Q (.int (j:Nat)) H
theorem Ziw (hu:X.A.units + 65<cLine):MtM X "list.index" (Zr5 X.K):=by
 intro pins s σ H x vs v us Q I rx rv h
 obtain ⟨y,d,ds,j,e,rfl,h1,h2,k1,k2,hz,he,hd,hno,q⟩:=h
 obtain ⟨u,rfl,ru⟩:=rv.one
 obtain ⟨as,ra⟩:=h1.reads I rx
 obtain ⟨bs,rb⟩:=h2.reads I ru
 rw [kqdP] at ra
 have hxs:=SeqAt.canLay_of_shaped (Zop k1)
 have hdl:=SeqAt.canLay_of_shaped (Zdp k2)
 cases ra with
 | @list l ob its n _ _ a1 a2 a3 a4 =>
  obtain ⟨cls,dd,data,sl⟩:=ob
  simp only at a2 a3
  subst a2 a3
  have hm:=SeqAt.readsAll_map _ _ _ hxs a4
  have hml:its.size=ds.length:=by
   have:=congrArg List.length hm
   rw [List.length_map,Zmk] at this
   simpa using this
  have all8:∀ m (e:Dat),ds[m]?=some e→kqdOk 8 e=true:=fun m e h=>List.all_eq_true.mp k1 e (List.mem_of_getElem? h)
  have val:∀ m (e:Dat) (hm':m<its.size),ds[m]?=some e→PyData.eqv (SeqAt.readOf s.heap its[m]) (kqdP d)=dEq e d:=fun m e hm' h=>by
   have e1:=Zo6 h
   rw [← hm,List.getElem?_map] at e1
   have e2:its.toList[m]?=some its[m]:=by simp [hm']
   rw [e2] at e1
   have e1:SeqAt.readOf s.heap its[m]=kqdP e:=Option.some.inj e1
   rw [e1]
   exact Zk3 (all8 m e h) k2
  have hj:j<its.size:=by have:=(List.getElem?_eq_some_iff.mp he).1;omega
  refine call_meets PySem.F.slot_list_index ⟨_,a1,rfl⟩ PySem.F.entry_list_index (PySem.F.args_list_index_2 _ _)
   (SeqAt.list_indexAt l its n dd sl u (fun y=>PyData.eqv (SeqAt.readOf s.heap y) (kqdP d)) j hj (by omega) ?_ ?_) ⟨a1,SeqAt.items_eqAt a4 rb hxs hdl (room_in_shaped (Zdp k2) hu),?_⟩
  ·show PyData.eqv (SeqAt.readOf s.heap its[j]) (kqdP d)=true
   rw [val j e hj he]
   exact hd
  ·intro m hm' hlt
   show PyData.eqv (SeqAt.readOf s.heap its[m]) (kqdP d)=false
   have h0:ds[m]?=some (ds[m]'(by omega)):=List.getElem?_eq_getElem (by omega)
   rw [val m _ hm' h0]
   exact hno m _ hlt h0
  ·exact ⟨.int j,H,I.tok _,⟨_,rfl⟩,q⟩
end
end L2
namespace L2
open PySem PySem.Spec PyProof.Rows
def Zqw (h:Heap) (d:Addr) (es:Array DictEntry) (ep:Nat):Prop:=∃ o,h.get? d=some o∧o.ExactDict∧o.data=.dict es ep
theorem Zqw.ty {s:Shared}{d:Addr}{es:Array DictEntry}{ep:Nat}(x:Zqw s.heap d es ep):s.TypeIs (.ref d) "dict":=let ⟨o,e,c,_⟩:=x;⟨o,e,c.1⟩
theorem Zqw.at {h h':Heap}{d:Addr}{es:Array DictEntry}{ep:Nat}(x:Zqw h d es ep) (k:∀ o,h.get? d=some o→h'.get? d=some o):Zqw h' d es ep:=let ⟨o,e,r⟩:=x;⟨o,k o e,r⟩
section
variable {prog:Program} {w:World} {A:Around} {E:Value→Shared→Prop} {s:Shared} {d it:Addr} {es:Array DictEntry} {ep i:Nat}
theorem Zvj {Q:Value→Shared→Prop}(hs:(d == sysModules)=false) (x:Zqw s.heap d es ep)
  (q:Q (.ref s.heap.objs.size) { s with heap:=s.heap.push { cls:=.type "dict_keyiterator",data:=.fields #[.ref d,.int 0 0,.int es.size 0,.int ep 0] } }):wpAny (model prog w) A (pyIter (.ref d)) Q E s:=by
 obtain ⟨o,e,c,da⟩:=id x
 have T:=x.ty
 refine wpAny_pyIter_slot T F.slot_dict_iter (wpAny_call_entry F.slot_dict_iter T F.entry_dict_iter ?_ (F.args_dict_iter_1 _))
 unfold Builtin.«dict.__iter__»;refine wpAny_bind ?_
 unfold Builtin.Dict.dictSlotNone;refine wpAny_bind (wpAny_notOrdered_dict T ?_)
 show wpAny _ _ (pure (Value.ref d)) _ _ s;refine wpAny_pure ?_
 show wpAny _ _ (Builtin.Dict.showsAll d>>=_) _ _ s;unfold Builtin.Dict.showsAll
 rw [if_neg (by rw [hs];simp)];refine wpAny_bind (wpAny_pure (wpAny_bind (wpAny_dictEntries e da (wpAny_bind (wpAny_dictEpoch e da ?_)))))
 refine wpAny_bind (wpAny_newObj_type (wpAny_pure ⟨_,rfl,"dict_keyiterator",_,⟨_,Heap.get?_push_size _ rfl,rfl⟩,F.slot_dict_keyiterator_next.lookup,?_⟩));simpa [rawInt] using q
theorem Zl7 {Q:Option Value→Shared→Prop}{en:DictEntry}(hit:s.heap.IsKeyIter it d i es.size ep) (x:Zqw s.heap d es ep) (hx:es[i]?=some en)
  (q:∀ g,g.IsKeyIter it d (i + 1) es.size ep→Heap.SameBut it s.heap g→Q (some en.key) { s with heap:=g }):wpAny (model prog w) A (pyNext (.ref it)) Q E s:=by
 obtain ⟨oi,ei,ci,di⟩:=id hit
 obtain ⟨o,e,c,da⟩:=id x
 have T:=hit.typeIs
 obtain ⟨hl,hen⟩:=Array.getElem?_eq_some_iff.mp hx
 have own:Builtin.Dict_items.ownsTuple "dict_keyiterator"=false:=by decide
 unfold pyNext;refine wpAny_bind (wpAny_attempt (wpAny_callSpecial?_slot (name:=Str.ofString "__next__") T F.slot_dict_keyiterator_next (wpAny_call_entry F.slot_dict_keyiterator_next T F.entry_dict_keyiterator_next ?_ (F.args_dict_keyiterator_next_1 _))))
 refine wpAny_bind (wpAny_pure (wpAny_bind (wpAny_bind ?_)));first | refine wpAny_bind (wpAny_typeNameOfWhole_keyiter T (wpAny_pure ?_)) | refine wpAny_bind (wpAny_typeNameOf_keyiter T (wpAny_pure ?_))
 refine wpAny_bind (wpAny_fieldsOf ei di ?_);simp only [own,Bool.false_eq_true,if_false]
 show wpAny _ _ (if (Value.ref d == Value.none)=true then _ else _) _ _ s;rw [if_neg (show ¬ ((Value.ref d == Value.none)=true) from by intro z;cases z)]
 refine wpAny_bind (wpAny_pure (wpAny_bind (wpAny_dictEntries e da ?_)));rw [if_neg (by simp)]
 refine wpAny_bind (wpAny_pure (wpAny_bind (wpAny_dictEpoch e da ?_)));rw [if_neg (by simp)]
 refine wpAny_pure ?_;simp only [show ¬ ((i:Int)<0) from by omega,if_false,Int.toNat_natCast,hx]
 refine wpAny_bind ?_;first | refine wpAny_bind (wpAny_typeNameOfWhole_keyiter T (wpAny_pure ?_)) | refine wpAny_bind (wpAny_typeNameOf_keyiter T (wpAny_pure ?_))
 refine wpAny_bind (wpAny_isOneOf_keyiter T ?_);show wpAny _ _ (setField (.ref it) 1 (rawInt ((i:Int) + 1))>>=_) _ _ s
 refine wpAny_bind (wpAny_setField ei di (by simp) ?_)
 have hit2:(s.heap.update it (Obj.mapFields (·.setIfInBounds 1 (rawInt ((i:Int) + 1))))).IsKeyIter it d (i + 1) es.size ep:=⟨_,Heap.get?_update_self _ ei (Obj.isFreed_of_fields (Obj.data_mapFields di _)),(Obj.cls_mapFields ..).trans ci,by rw [Obj.data_mapFields di];simp [rawInt]⟩
 refine wpAny_bind (wpAny_holding (wpAny_bind (wpAny_isOneOf_keyiter (s:={ s with heap:=s.heap.update it (Obj.mapFields (·.setIfInBounds 1 (rawInt ((i:Int) + 1)))) }) hit2.typeIs ?_)))
 show wpAny _ _ (pure en.key) _ _ _;exact wpAny_pure (wpAny_pure ⟨_,rfl,wpAny_pure (q _ hit2 (Heap.SameBut.update ..))⟩)
theorem Zl8 {Q:Option Value→Shared→Prop}(hh:A.handled=none) (hit:s.heap.IsKeyIter it d i es.size ep) (x:Zqw s.heap d es ep) (hx:es.size≤i)
  (q:∀ g,Heap.ExtBut it s.heap g→Q none { s with heap:=g }):wpAny (model prog w) A (pyNext (.ref it)) Q E s:=by
 obtain ⟨oi,ei,ci,di⟩:=id hit
 obtain ⟨o,e,c,da⟩:=id x
 have T:=hit.typeIs
 have own:Builtin.Dict_items.ownsTuple "dict_keyiterator"=false:=by decide
 unfold pyNext;refine wpAny_bind (wpAny_attempt (wpAny_callSpecial?_slot (name:=Str.ofString "__next__") T F.slot_dict_keyiterator_next (wpAny_call_entry F.slot_dict_keyiterator_next T F.entry_dict_keyiterator_next ?_ (F.args_dict_keyiterator_next_1 _))))
 refine wpAny_bind (wpAny_pure (wpAny_bind (wpAny_bind ?_)));first | refine wpAny_bind (wpAny_typeNameOfWhole_keyiter T (wpAny_pure ?_)) | refine wpAny_bind (wpAny_typeNameOf_keyiter T (wpAny_pure ?_))
 refine wpAny_bind (wpAny_fieldsOf ei di ?_);simp only [own,Bool.false_eq_true,if_false]
 show wpAny _ _ (if (Value.ref d == Value.none)=true then _ else _) _ _ s;rw [if_neg (show ¬ ((Value.ref d == Value.none)=true) from by intro z;cases z)]
 refine wpAny_bind (wpAny_pure (wpAny_bind (wpAny_dictEntries e da ?_)));rw [if_neg (by simp)]
 refine wpAny_bind (wpAny_pure (wpAny_bind (wpAny_dictEpoch e da ?_)));rw [if_neg (by simp)]
 refine wpAny_pure ?_;simp only [show ¬ ((i:Int)<0) from by omega,if_false,Int.toNat_natCast,Array.getElem?_eq_none hx]
 refine wpAny_bind ?_;first | refine wpAny_bind (wpAny_typeNameOfWhole_keyiter T (wpAny_pure ?_)) | refine wpAny_bind (wpAny_typeNameOf_keyiter T (wpAny_pure ?_))
 show wpAny _ _ (setField (.ref it) 0 .none>>=_) _ _ s;refine wpAny_bind (wpAny_setField ei di (by simp) ?_)
 show wpAny _ _ (newExc (.type "StopIteration") []>>=_) _ _ _;refine wpAny_bind ?_
 simp only [newExc,newTuple];refine wpAny_bind (wpAny_newObj_type (wpAny_bind (m:=firstArgMember _ _) (wpAny_of_eq (a:=Value.none) (by first | rfl | (simp only [firstArgMember];rfl)) (wpAny_newObj_type ?_ (by size_fits)))) (by size_fits))
 simp only [raiseNew];refine wpAny_bind (wpAny_handled ?_);rw [show A.in1.handled=none from hh]
 refine wpAny_bind (wpAny_pure (wpAny_throw ?_));refine wpAny_bind (wpAny_isInstance (T:="StopIteration") (b:=true) ⟨_,Heap.get?_push_size _ rfl,rfl⟩ isSubtype_stop ?_)
 exact wpAny_pure (q _ (((Heap.SameBut.update ..).extBut.push _).push _))
theorem Zjf (hs:(d == sysModules)=false):MeetsIn prog w (Builtin.«dict.items» ⟨[.ref d],[]⟩) (fun _ R s=>s.TypeIs (.ref d) "dict" ∧
   R (.ok (.ret (.ref s.heap.objs.size))) { s with heap:=s.heap.push { cls:=.type "dict_items",data:=.fields #[.ref d] } }):=
 .of_wp fun A R s ⟨T,h⟩=>by
  unfold Builtin.«dict.items»;refine wpAny_bind ?_
  unfold Builtin.Dict.noArgs;refine wpAny_bind (wpAny_notOrdered_dict T ?_)
  show wpAny _ _ (pure d) _ _ s;refine wpAny_pure ?_
  show wpAny _ _ (Builtin.Dict.showsAll d>>=_) _ _ s;unfold Builtin.Dict.showsAll
  rw [if_neg (by rw [hs];simp)];exact wpAny_bind (wpAny_pure (wpAny_bind (wpAny_newObj_type (wpAny_pure ⟨_,rfl,h⟩))))
theorem Zku {v:Addr}{Q:Value→Shared→Prop}(hv:s.heap.IsItemsView v d) (x:Zqw s.heap d es ep)
  (q:Q (.ref s.heap.objs.size) { s with heap:=s.heap.push { cls:=.type "dict_itemiterator",data:=.fields #[.none,.bool false,.ref d,.int 0 0,.int es.size 0,.int ep 0,.none,.none] } }):
  wpAny (model prog w) A (pyIter (.ref v)) Q E s:=by
 obtain ⟨ov,e1,c1,d1⟩:=id hv
 obtain ⟨o,e,c,da⟩:=id x
 have T:=hv.typeIs
 have own:Builtin.Dict_items.ownsTuple "dict_itemiterator"=true:=by decide
 refine wpAny_pyIter_slot T F.slot_dict_items_iter (wpAny_call_entry F.slot_dict_items_iter T F.entry_dict_items_iter ?_ (F.args_dict_items_iter_1 _))
 unfold Builtin.«dict_items.__iter__»;refine wpAny_bind (wpAny_pure (wpAny_bind ?_))
 unfold Builtin.Dict_items.dictOf;refine wpAny_bind (wpAny_field e1 d1 (x:=.ref d) rfl (wpAny_pure (wpAny_bind ?_)))
 unfold Builtin.Dict_items.newIterator;refine wpAny_bind (wpAny_dictEntries e da (wpAny_bind (wpAny_dictEpoch e da ?_)))
 simp only [own,if_true]
 refine wpAny_newObj_type (wpAny_pure ⟨_,rfl,"dict_itemiterator",_,⟨_,Heap.get?_push_size _ rfl,rfl⟩,F.slot_dict_itemiterator_next.lookup,?_⟩) (by simp only [sizeOk,Builtin.Dict_items.ownedTupleFields,List.size_toArray,List.length_append,List.length_cons,List.length_nil,sizeLine_eq];omega)
 simpa [rawInt,Builtin.Dict_items.ownedTupleFields] using q
theorem Zkq {ok ov:Value}{Q:Option Value→Shared→Prop}{en:DictEntry}(hit:IsItemIter s.heap it d i es.size ep ok ov) (x:Zqw s.heap d es ep) (hx:es[i]?=some en)
  (q:∀ g,IsItemIterOut g it d (i + 1) es.size ep en.key en.val s.heap.objs.size→g.get? s.heap.objs.size=some { cls:=.type "tuple",data:=.seq #[en.key,en.val] } →
   (∀ b o,b≠it→s.heap.get? b=some o→g.get? b=some o)→Q (some (.ref s.heap.objs.size)) { s with heap:=g }):wpAny (model prog w) A (pyNext (.ref it)) Q E s:=by
 obtain ⟨hp,g,dr,tk,os⟩:=s
 obtain ⟨o,e,c,da⟩:=id x
 have T:Shared.TypeIs ⟨hp,g,dr,tk,os⟩ (.ref it) "dict_itemiterator":=⟨_,hit,rfl⟩
 have own:Builtin.Dict_items.ownsTuple "dict_itemiterator"=true:=by decide
 unfold pyNext;refine wpAny_bind (wpAny_attempt (wpAny_callSpecial?_slot (name:=Str.ofString "__next__") T F.slot_dict_itemiterator_next (wpAny_call_entry F.slot_dict_itemiterator_next T F.entry_dict_itemiterator_next ?_ (F.args_dict_itemiterator_next_1 _))))
 refine wpAny_bind (wpAny_pure (wpAny_bind (wpAny_bind ?_)));first | refine wpAny_bind (wpAny_typeNameOfWhole_itemiter T (wpAny_pure ?_)) | refine wpAny_bind (wpAny_typeNameOf_itemiter T (wpAny_pure ?_))
 refine wpAny_bind (wpAny_fieldsOf hit rfl ?_);simp only [own,if_true]
 show wpAny _ _ (if (Value.ref d == Value.none)=true then _ else _) _ _ _;rw [if_neg (show ¬ ((Value.ref d == Value.none)=true) from by intro z;cases z)]
 refine wpAny_bind (wpAny_pure (wpAny_bind (wpAny_dictEntries e da ?_)));rw [if_neg (by simp)]
 refine wpAny_bind (wpAny_pure (wpAny_bind (wpAny_dictEpoch e da ?_)));rw [if_neg (by simp)]
 refine wpAny_pure ?_;simp only [show ¬ ((i:Int)<0) from by omega,if_false,Int.toNat_natCast,hx]
 refine wpAny_bind ?_;first | refine wpAny_bind (wpAny_typeNameOfWhole_itemiter T (wpAny_pure ?_)) | refine wpAny_bind (wpAny_typeNameOf_itemiter T (wpAny_pure ?_))
 refine wpAny_bind (wpAny_isOneOf_itemiter T ?_);show wpAny _ _ (setField (.ref it) 3 (rawInt ((i:Int) + 1))>>=_) _ _ ⟨hp,g,dr,tk,os⟩
 refine wpAny_bind (wpAny_setField_rec hit (by simp) fun g1 z1 e1=>?_)
 replace e1:Heap.SameBut it hp g1:=e1
 replace z1:IsItemIter g1 it d (i + 1) es.size ep ok ov:=by
  have q1:((i + 1:Nat):Int)=(i:Int) + 1:=by omega
  unfold IsItemIter;rw [q1];simpa [rawInt] using z1
 have T1:Shared.TypeIs ⟨g1,g,dr,tk,os⟩ (.ref it) "dict_itemiterator":=⟨_,z1,rfl⟩
 refine wpAny_bind (wpAny_holding (wpAny_bind (wpAny_isOneOf_itemiter T1 (wpAny_bind (wpAny_isOneOf_itemiter T1 ?_)))))
 show wpAny _ _ (Builtin.Dict_items.pairFromOwner (.ref it) 6 en.key en.val) _ _ ⟨g1,g,dr,tk,os⟩
 unfold Builtin.Dict_items.pairFromOwner;refine wpAny_bind (wpAny_newTuple ?_)
 have z2:IsItemIter (g1.push { cls:=.type "tuple",data:=.seq #[en.key,en.val] }) it d (i + 1) es.size ep ok ov:=Heap.get?_push_of_some _ z1
 generalize hg2:g1.push { cls:=.type "tuple",data:=.seq #[en.key,en.val] }=g2 at z2
 have n1:g1.objs.size=hp.objs.size:=e1.1
 have il:it<hp.objs.size:=Heap.lt_size hit
 have t2:g2.get? hp.objs.size=some { cls:=.type "tuple",data:=.seq #[en.key,en.val] }:=by rw [← hg2,← n1];exact Heap.get?_push_size _ rfl
 have k2:∀ b o,b≠it→hp.get? b=some o→g2.get? b=some o:=fun b o hb e=>by rw [← hg2];exact Heap.get?_push_of_some _ (e1.extBut b o hb e)
 show wpAny _ _ (Builtin.Dict_items.ownedTupleIsFree (.ref it)>>=_) _ _ ⟨g2,g,dr,tk,os⟩;rw [n1];clear hg2 z1 e1 T1 n1 g1
 refine wpAny_bind ?_;unfold Builtin.Dict_items.ownedTupleIsFree;refine wpAny_bind (wpAny_field z2 rfl (x:=.none) rfl (wpAny_pure ?_));simp only [if_true]
 refine wpAny_bind (wpAny_field z2 rfl (x:=ok) rfl (wpAny_bind (wpAny_field z2 rfl (x:=ov) rfl (wpAny_bind (wpAny_setField_rec z2 (by simp) fun g3 z3 e3=>?_)))))
 replace e3:Heap.SameBut it g2 g3:=e3
 replace z3:IsItemIter g3 it d (i + 1) es.size ep en.key ov:=z3
 refine wpAny_bind (wpAny_setField_rec z3 (by simp) fun g4 z4 e4=>?_)
 replace e4:Heap.SameBut it g3 g4:=e4
 replace z4:IsItemIter g4 it d (i + 1) es.size ep en.key en.val:=z4
 refine wpAny_bind (wpAny_setField_rec z4 (by simp) fun g5 z5 e5=>?_)
 replace e5:Heap.SameBut it g4 g5:=e5
 replace z5:IsItemIterOut g5 it d (i + 1) es.size ep en.key en.val hp.objs.size:=z5
 refine wpAny_bind (wpAny_setField_rec z5 (by simp) fun g6 z6 e6=>?_)
 replace e6:Heap.SameBut it g5 g6:=e6
 replace z6:IsItemIterOut g6 it d (i + 1) es.size ep en.key en.val hp.objs.size:=z6
 have up:∀ b o,b≠it→g2.get? b=some o→g6.get? b=some o:=fun b o hb e=>e6.extBut b o hb (e5.extBut b o hb (e4.extBut b o hb (e3.extBut b o hb e)))
 exact wpAny_bind (wpAny_letGo (wpAny_pure (wpAny_pure ⟨_,rfl,wpAny_pure (q g6 z6 (up _ _ (Nat.ne_of_gt il) t2) fun b o hb e=>up b o hb (k2 b o hb e))⟩)))
theorem Zkr {ok ov:Value}{Q:Option Value→Shared→Prop}(hh:A.handled=none) (hit:IsItemIter s.heap it d i es.size ep ok ov) (x:Zqw s.heap d es ep) (hx:es.size≤i)
  (q:∀ g,Heap.ExtBut it s.heap g→Q none { s with heap:=g }):wpAny (model prog w) A (pyNext (.ref it)) Q E s:=by
 obtain ⟨o,e,c,da⟩:=id x
 have T:s.TypeIs (.ref it) "dict_itemiterator":=⟨_,hit,rfl⟩
 have own:Builtin.Dict_items.ownsTuple "dict_itemiterator"=true:=by decide
 unfold pyNext;refine wpAny_bind (wpAny_attempt (wpAny_callSpecial?_slot (name:=Str.ofString "__next__") T F.slot_dict_itemiterator_next (wpAny_call_entry F.slot_dict_itemiterator_next T F.entry_dict_itemiterator_next ?_ (F.args_dict_itemiterator_next_1 _))))
 refine wpAny_bind (wpAny_pure (wpAny_bind (wpAny_bind ?_)));first | refine wpAny_bind (wpAny_typeNameOfWhole_itemiter T (wpAny_pure ?_)) | refine wpAny_bind (wpAny_typeNameOf_itemiter T (wpAny_pure ?_))
 refine wpAny_bind (wpAny_fieldsOf hit rfl ?_);simp only [own,if_true]
 show wpAny _ _ (if (Value.ref d == Value.none)=true then _ else _) _ _ s;rw [if_neg (show ¬ ((Value.ref d == Value.none)=true) from by intro z;cases z)]
 refine wpAny_bind (wpAny_pure (wpAny_bind (wpAny_dictEntries e da ?_)));rw [if_neg (by simp)]
 refine wpAny_bind (wpAny_pure (wpAny_bind (wpAny_dictEpoch e da ?_)));rw [if_neg (by simp)]
 refine wpAny_pure ?_;simp only [show ¬ ((i:Int)<0) from by omega,if_false,Int.toNat_natCast,Array.getElem?_eq_none hx]
 refine wpAny_bind ?_;first | refine wpAny_bind (wpAny_typeNameOfWhole_itemiter T (wpAny_pure ?_)) | refine wpAny_bind (wpAny_typeNameOf_itemiter T (wpAny_pure ?_))
 show wpAny _ _ (setField (.ref it) 2 .none>>=_) _ _ s;refine wpAny_bind (wpAny_setField hit rfl (by simp) ?_)
 show wpAny _ _ (newExc (.type "StopIteration") []>>=_) _ _ _;refine wpAny_bind ?_
 simp only [newExc,newTuple];refine wpAny_bind (wpAny_newObj_type (wpAny_bind (m:=firstArgMember _ _) (wpAny_of_eq (a:=Value.none) (by first | rfl | (simp only [firstArgMember];rfl)) (wpAny_newObj_type ?_ (by size_fits)))) (by size_fits))
 simp only [raiseNew];refine wpAny_bind (wpAny_handled ?_);rw [show A.in1.handled=none from hh]
 refine wpAny_bind (wpAny_pure (wpAny_throw ?_));refine wpAny_bind (wpAny_isInstance (T:="StopIteration") (b:=true) ⟨_,Heap.get?_push_size _ rfl,rfl⟩ isSubtype_stop ?_)
 exact wpAny_pure (q _ (((Heap.SameBut.update ..).extBut.push _).push _))
end
end L2
namespace L2
open PySem PySem.Spec PyProof.Rows
section
variable {X:Cx} {pins:List (Addr×Obj)} {σ:St} {H H':Hp} {s:Shared} {a:Addr} {kvs:List (List Key×V)} {o:Obj}
theorem Inv.freezeT (I:Inv X pins σ H s) (h:H a=some (.dT kvs)) (ho:s.heap.get? a=some o):Inv X pins σ (upd H a (.frz o (.dT kvs))) s:=by
 have nf:∀ o' v,X.H₀ a≠some (.frz o' v):=fun o' v e=>by
  have q:=I.base.frzs a o' v e
  rw [h] at q
  cases q
 refine I.reAt h (fun _ z=>nomatch z) (fun _ z=>nomatch z) (fun _ z=>nomatch z) nf fun k=>⟨ho,k.stay (fun _ _ _ q=>q) (fun c q=>?_) fun c xs q=>?_⟩
 ·rw [Zac]
  ·exact q
  ·rintro rfl;rw [h] at q;cases q
 ·rw [Zac]
  ·exact q
  ·rintro rfl;rw [h] at q;cases q
theorem Paired.get {α β:Type}{F:α→β→Prop}:∀ {l:List α}{m:List β},Paired F l m→∀ {i:Nat}{x:α},l[i]?=some x→∃ y,m[i]?=some y∧F x y
 | _,_,.nil,i,x,h=>by simp at h
 | _,_,.cons r t,0,x,h=>by
  simp at h
  subst h
  exact ⟨_,by simp,r⟩
 | _,_,.cons r t,i + 1,x,h=>by
  obtain ⟨y,h1,h2⟩:=Paired.get t (i:=i) (x:=x) (by simpa using h)
  exact ⟨y,by simpa using h1,h2⟩
theorem Zmn {P:Program}{w:World}{h:Heap}(ok:Zc5 P w H h a (.frz o (.dT kvs))):∃ es ep,o.data=.dict es ep:=by
 obtain ⟨ho,z,hs,xs,r,o',es',ep',h1,h2,h3,_⟩:=ok
 rw [ho] at h1
 cases h1
 exact ⟨es',ep',h3⟩
theorem Zgc {P:Program}{w:World}{h:Heap}{es:Array DictEntry}{ep:Nat}(ok:Zc5 P w H h a (.frz o (.dT kvs))) (hd:o.data=.dict es ep):
  (a == sysModules)=false∧Zqw h a es ep∧es.size=kvs.length∧∀ (i:Nat) (p:List Key×V),kvs[i]?=some p→∃ t u hs,es[i]?=some (⟨hs,.ref t,u⟩:DictEntry)∧H t=some (.tup (p.1.map kV))∧Zc4 p.2 u:=by
 obtain ⟨ho,z,hs,xs,r,o',es',ep',h1,h2,h3,h4,h5⟩:=ok
 rw [ho] at h1
 cases h1
 rw [hd] at h3
 cases h3
 refine ⟨hs,⟨o,ho,h2,hd⟩,?_,fun i p hp=>?_⟩
 ·rw [size_of_entries h4];exact (Paired.length r).symm
 ·obtain ⟨y,hy,e1,e2,e3⟩:=Paired.get r hp
  exact ⟨y.2.1,y.2.2,_,by rw [entry_at h4,hy];rfl,e2,e3⟩
end
def Z03 (a:Addr) (o:Obj) (kvs:List (List Key×V)):It :=
 ⟨fun i H=>i<kvs.length∧H a=some (.frz o (.dT kvs)),fun i H v H'=>H'=H∧∃ p t,kvs[i]?=some p∧v=.ref t∧H t=some (.tup (p.1.map kV)),fun i H=>kvs.length≤i∧H a=some (.frz o (.dT kvs))⟩
def Z2q (a:Addr) (o:Obj) (kvs:List (List Key×V)):It :=
 ⟨fun i H=>i<kvs.length∧H a=some (.frz o (.dT kvs)),fun i H v H'=>∃ t b p,kvs[i]?=some p∧H t=none∧H b=some (.tup (p.1.map kV))∧v=.ref t∧H'=upd H t (.tup [.ref b,p.2]),fun i H=>kvs.length≤i∧H a=some (.frz o (.dT kvs))⟩
theorem Zpp {P:Program}{w:World}{K:PySem.W.Frag}{tg:Expr} (a it:Addr) (o:Obj) (kvs:List (List Key×V)) (es:Array DictEntry) (ep:Nat) (hd:o.data=.dict es ep):
  Zod P w K tg (Z03 a o kvs) [it] it (fun i h=>h.IsKeyIter it a i kvs.length ep) where
 mem:=by simp
 obj:=fun i h st b hb=>by
  have e:b=it:=by simpa using hb
  subst e
  obtain ⟨o,e,c,d⟩:=st
  exact ⟨o,e,fun v z=>by rw [d] at z;cases z⟩
 keep:=fun i h h' st k=>by
  obtain ⟨o,ho,r⟩:=st
  exact ⟨o,k it (by simp) o ho,r⟩
 item:=by
  intro X hP hw hK hc i pins s σ H E I hf st hg
  subst hP hw hK
  obtain ⟨f0,f1,f2,f3,f4,f5⟩:=hf it (by simp)
  obtain ⟨hi,ha⟩:=hg
  obtain ⟨_,rw1,hl,ge⟩:=Zgc (I.hok a _ ha) hd
  obtain ⟨p,hp⟩:∃ p,kvs[i]?=some p:=⟨kvs[i],by simp [hi]⟩
  obtain ⟨t,u,hs,hu,ht,ru⟩:=ge i p hp
  rw [← hl] at st
  refine Zl7 st rw1 hu fun h' st' sb=>?_
  have I1:Inv X pins σ H { s with heap:=h' }:=I.turned (t':=s.toks) (fun b o hb e=>(sb.2 b hb).trans e) f0 f1 f3 f4 f5
  obtain ⟨o',e,c,d⟩:=id st'
  rw [hl] at st'
  exact ⟨_,rfl,Znv (s:={ s with heap:=h' }) e c d (by decide) ⟨.ref t,H,I1,rfl,⟨rfl,p,t,hp,rfl,ht⟩,st',fun b hb=>(hf b hb).1⟩⟩
 done:=by
  intro X hP hw hK hc i pins s σ H E I hf st hg
  subst hP hw hK
  obtain ⟨f0,f1,f2,f3,f4,f5⟩:=hf it (by simp)
  obtain ⟨hi,ha⟩:=hg
  obtain ⟨_,rw1,hl,ge⟩:=Zgc (I.hok a _ ha) hd
  rw [← hl] at st
  exact Zl8 (I.ok.hd hc) st rw1 (by omega) fun h' eb=>⟨rfl,I.turned (t':=s.toks) (fun b o hb e=>eb b o hb e) f0 f1 f3 f4 f5⟩
 self:=fun _ _ _ _ _ st h=>wpAny_pyIter_keyiter st h
theorem Zm4 {P:Program}{w:World}{K:PySem.W.Frag}{elts:List Expr}{x1}{pos:Pos} (a it:Addr) (o:Obj) (kvs:List (List Key×V)) (es:Array DictEntry) (ep:Nat) (hd:o.data=.dict es ep):
  Zod P w K (.Tuple elts x1 pos) (Z2q a o kvs) [it] it (fun i h=>∃ ok ov,IsItemIter h it a i kvs.length ep ok ov) where
 mem:=by simp
 obj:=fun i h st b hb=>by
  have e:b=it:=by simpa using hb
  subst e
  obtain ⟨ok,ov,st⟩:=st
  exact ⟨_,st,fun v z=>by cases z⟩
 keep:=fun i h h' st k=>by
  obtain ⟨ok,ov,st⟩:=st
  exact ⟨ok,ov,k it (by simp) _ st⟩
 item:=by
  intro X hP hw hK hc i pins s σ H E I hf st hg
  subst hP hw hK
  obtain ⟨f0,f1,f2,f3,f4,f5⟩:=hf it (by simp)
  obtain ⟨hi,ha⟩:=hg
  obtain ⟨ok,ov,st⟩:=st
  obtain ⟨_,rw1,hl,ge⟩:=Zgc (I.hok a _ ha) hd
  obtain ⟨p,hp⟩:∃ p,kvs[i]?=some p:=⟨kvs[i],by simp [hi]⟩
  obtain ⟨b0,u,hs,hu,hb0,ru⟩:=ge i p hp
  rw [← hl] at st
  refine Zkq st rw1 hu fun h' st' ht keep=>?_
  refine ⟨_,rfl,?_⟩
  refine wpAny_letOwnedTupleGo_items (s:={ s with heap:=h' }) st' fun h'' st'' sb=>?_
  have itlt:it<s.heap.objs.size:=Heap.lt_size st
  have tne:s.heap.objs.size≠it:=Nat.ne_of_gt itlt
  have ht2:h''.get? s.heap.objs.size=some { cls:=.type "tuple",data:=.seq #[.ref b0,u] }:=sb.extBut _ _ tne ht
  have I1:Inv X pins σ (upd H s.heap.objs.size (.tup [.ref b0,p.2])) { s with heap:=h'' }:=I.turnedNew (t':=s.toks) (fun b o hb e=>sb.extBut b o hb (keep b o hb e)) f0 f1 f3 f4 f5 (Nat.le_refl _)
   ⟨sL (by show 2≤100000;decide),[.ref b0,u],.cons rfl (.cons ru .nil),⟨_,ht2,rfl,_,rfl⟩⟩
  refine ⟨.ref s.heap.objs.size,_,I1,rfl,⟨s.heap.objs.size,b0,p,hp,I.hok.fresh (Nat.le_refl _),hb0,rfl,rfl⟩,⟨_,_,by rw [← hl];exact st''⟩,fun b hb=>?_⟩
  have e:b=it:=by simpa using hb
  subst e
  rw [Zac (Ne.symm tne)]
  exact (hf b (by simp)).1
 done:=by
  intro X hP hw hK hc i pins s σ H E I hf st hg
  subst hP hw hK
  obtain ⟨f0,f1,f2,f3,f4,f5⟩:=hf it (by simp)
  obtain ⟨hi,ha⟩:=hg
  obtain ⟨ok,ov,st⟩:=st
  obtain ⟨_,rw1,hl,ge⟩:=Zgc (I.hok a _ ha) hd
  rw [← hl] at st
  exact Zkr (I.ok.hd hc) st rw1 (by omega) fun h' eb=>⟨rfl,I.turned (t':=s.toks) (fun b o hb e=>eb b o hb e) f0 f1 f3 f4 f5⟩
 self:=fun A i s Q E st h=>by
  obtain ⟨ok,ov,st⟩:=st
  exact PySem.W.kcp_self st h
def Z1g (t:TS):TS:=fun D σ H=>∃ a kvs,H a=some (.dT kvs)∧∀ o,t D σ (upd H a (.frz o (.dT kvs)))
theorem Zun {X:Cx}{sts:List Stmt}{t:TS}(h:PSs X sts t):PSs X sts (Z1g t):=by
 intro pins s σ H D I q
 obtain ⟨a,kvs,ha,q⟩:=q
 obtain ⟨o,ho⟩:∃ o,s.heap.get? a=some o:=by
  obtain ⟨_,_,xs,_,o,_,_,e,_⟩:=I.hok a _ ha
  exact ⟨o,e⟩
 exact h pins s σ _ D (I.freezeT ha ho) (q o)
section
variable {X:Cx} {tg:Expr}
def AtT (R:Obj→Hp→Prop) (H:Hp) (a:Addr) (kvs:List (List Key×V)):Prop :=
 (H a=some (.dT kvs)∧∀ ob,R ob (upd H a (.frz ob (.dT kvs))))∨∃ ob,H a=some (.frz ob (.dT kvs))∧R ob H
theorem atT {pins:List (Addr×Obj)}{σ:St}{H:Hp}{s:Shared}{a:Addr}{kvs:List (List Key×V)}{R:Obj→Hp→Prop}(I:Inv X pins σ H s) (h:AtT R H a kvs):
  ∃ ob H',Inv X pins σ H' s∧H' a=some (.frz ob (.dT kvs))∧R ob H':=by
 rcases h with ⟨h,q⟩ | ⟨ob,h,q⟩
 ·obtain ⟨o,ho⟩:∃ o,s.heap.get? a=some o:=by
   obtain ⟨_,_,xs,_,o,_,_,e,_⟩:=I.hok a _ h
   exact ⟨o,e⟩
  exact ⟨o,_,I.freezeT h ho,uS,q o⟩
 ·exact ⟨ob,H,I,h,q⟩
def Z0o (tl:TE):TI:=fun σ H R=>tl σ H fun x H1=>∃ a kvs,x=.ref a∧AtT (fun ob H'=>R (Z03 a ob kvs) H') H1 a kvs
theorem Zuq {l:Expr}{tl:TE}(hl:PE X l tl):PI X tg l (Z0o tl):=by
 intro pins s σ H R I h
 refine thn (hl pins s σ H _ I h) fun v s1 ⟨x,H0,I0,r1,q1⟩=>?_
 obtain ⟨a,kvs,e,q⟩:=q1
 subst e
 cases r1
 obtain ⟨o,H1,I1,ha,q⟩:=atT I0 q
 obtain ⟨es,ep,hd⟩:=Zmn (I1.hok a _ ha)
 obtain ⟨hs,rw1,hl,ge⟩:=Zgc (I1.hok a _ ha) hd
 refine Zvj hs rw1 ?_
 refine ⟨s1.heap.objs.size,[s1.heap.objs.size],_,_,H1,rfl,I1.kept (t':=s1.toks) fun b o e=>Heap.get?_push_of_some _ e,Zpp a _ o kvs es ep hd,⟨_,Heap.get?_push_size _ rfl,rfl,by rw [hl];rfl⟩,fun b hb=>?_,q⟩
 have e:b=s1.heap.objs.size:=by simpa using hb
 subst e
 exact I1.fpOk (Nat.le_refl _) (I1.hok.fresh (Nat.le_refl _))
def Zyb (to:TE):TI:=fun σ H R=>to σ H fun x H1=>∃ a kvs,x=.ref a∧AtT (fun ob H'=>R (Z2q a ob kvs) H') H1 a kvs
theorem Zr9 {elts:List Expr}{x1}{tpos:Pos}{o:Expr}{to:TE}{apos cpos:Pos}(ho:PE X o to) (hbase:attributeBase o "items" X.env (eval o X.env)=eval o X.env:=by rfl) (hline:(apos.endLine == cpos.line)=true:=by rfl):
  PI X (.Tuple elts x1 tpos) (.Call (.Attribute o "items" apos) [] [] cpos) (Zyb to):=by
 intro pins s σ H R I h
 refine wpAny_Call_method0_late hbase hline (thn (ho pins s σ H _ I h) fun v s1 ⟨x,H0,I0,r1,q1⟩=>?_)
 obtain ⟨a,kvs,e,q⟩:=q1
 subst e
 obtain rfl:v=Value.ref a:=r1
 obtain ⟨ob,H1,I1,ha,q⟩:=atT I0 q
 obtain ⟨t1,t2,t3⟩:=Zwo I1 (.inr ⟨kvs,.inr ⟨ob,ha⟩⟩)
 obtain ⟨es,ep,hd⟩:=Zmn (I1.hok a _ ha)
 obtain ⟨hs,rw1,hl,ge⟩:=Zgc (I1.hok a _ ha) hd
 refine ⟨"dict","dict.items",PySem.F.plainAttrs_dict,PySem.F.slot_dict_items,PySem.F.type_dict_items,t1,t2,Calls.callWith_builtin rfl (PySem.evalArgs_none ?_)⟩
 refine call_meetsIn PySem.F.slot_dict_items t1 PySem.F.entry_dict_items (PySem.F.args_dict_items_1 _) (Zjf t3) ⟨t1,?_⟩
 have I2:Inv X pins σ H1 { s1 with heap:=s1.heap.push { cls:=.type "dict_items",data:=.fields #[.ref a] } }:=I1.kept (t':=s1.toks) fun b o e=>Heap.get?_push_of_some _ e
 refine Zku (es:=es) (ep:=ep) ⟨_,Heap.get?_push_size _ rfl,rfl,rfl⟩ (rw1.at fun o e=>Heap.get?_push_of_some _ e) ?_
 refine ⟨_,[_],_,_,H1,rfl,I2.kept (t':=s1.toks) fun b o e=>Heap.get?_push_of_some _ e,Zm4 a _ ob kvs es ep hd,⟨.none,.none,?_⟩,fun b hb=>?_,q⟩
 ·rw [← hl]
  exact Heap.get?_push_size _ rfl
 ·have e:b=_:=List.mem_singleton.mp hb
  subst e
  exact I2.fpOk (Nat.le_refl _) (I2.hok.fresh (Nat.le_refl _))
end
end L2
namespace L2
open PySem PySem.Spec PyProof.Rows
theorem Zgf.tr {H:Hp}{a b:Addr}{kvs:List (List Key×V)}{k:List Key}(e:Rd H a (.dT kvs)) (eb:H b=some (.tup (k.map kV))):Zgf H a (.ref b) (Zf2 kvs k):=.inr ⟨kvs,k,b,e,rfl,eb,rfl⟩
theorem Zn7 {K:PySem.W.Frag}{a:Addr}{ob:Obj}{kvs:List (List Key×V)}{js:List Nat}{tt:TT}{te:TE}{σ:St}{Q:VK}{H1:Hp}(hz:kvs.length≤sizeLine) (ha:H1 a=some (.frz ob (.dT kvs))) (p:List Key×V→Bool) (F:Addr→List Key×V→V→Hp→Prop)
  (hF:∀ D x v H H',(∀ b o,b≠D→H b=some o→H' b=some o)→F D x v H→F D x v H')
  (ht:∀ x b H (R:Bool→Hp→Prop),Zal H1 H→x∈kvs→H b=some (.tup (x.1.map kV))→(∀ H',Zal H H'→R (p x) H')→tt (some (.ref b):: some x.2 :: js.map fun j=>(σ[j]?).join) H R)
  (he:∀ D x b H (R:V→Hp→Prop),Zal H1 H→(∃ ys,H D=some (.lst ys))→H1 D=none→x∈kvs→H b=some (.tup (x.1.map kV))→p x=true→(∀ v H',Zal H H'→F D x v H'→R v H')→te (some (.ref b):: some x.2 :: js.map fun j=>(σ[j]?).join) H R)
  (hd:∀ D H' ys,H1 D=none→Zal H1 H'→H' D=some (.lst ys)→Paired (fun x v=>F D x v H') (kvs.filter p) ys→Q (.ref D) H'):
  compBody 2 js (g2 K 0 1) tt te σ Q (Z2q a ob kvs) H1:=by
 intro D hD
 refine ⟨fun i m ys σ' H=>m=kvs.length - i∧i≤kvs.length∧Zal H1 H∧H D=some (.lst ys)∧Paired (fun x v=>F D x v H) ((kvs.take i).filter p) ys∧∃ o u,σ'=o :: u :: js.map fun j=>(σ[j]?).join,
  ⟨kvs.length,by simp,Nat.zero_le _,Zcq hD,uS,by simpa using Paired.nil,none,none,rfl⟩,?_⟩
 rintro i m ys σ' H ⟨rfl,hi,hs,hl,hp,o,u,rfl⟩
 have mono:∀ {H H':Hp},(∀ b o,b≠D→H b=some o→H' b=some o)→Paired (fun x v=>F D x v H) ((kvs.take i).filter p) ys→Paired (fun x v=>F D x v H') ((kvs.take i).filter p) ys:=fun h q=>Paired.mapP q fun a b z=>hF D a b _ _ h z
 by_cases hlt:i<kvs.length
 ·have yl:ys.length<sizeLine:=by
   rw [← hp.length]
   refine Nat.lt_of_le_of_lt (List.length_filter_le _ _) ?_
   rw [List.length_take]
   omega
  refine .inr ⟨⟨hlt,hs _ _ ha⟩,yl,fun ys3 σ3 H3=>Zal H1 H3∧H3 D=some (.lst ys3)∧Paired (fun x v=>F D x v H3) ((kvs.take (i + 1)).filter p) ys3∧∃ o u,σ3=o :: u :: js.map fun j=>(σ[j]?).join,
   fun ys3 σ3 H3 z=>⟨kvs.length - (i + 1),by omega,rfl,hlt,z⟩,fun x H2 y=>?_⟩
  obtain ⟨t,b,x,hx,ht0,hb,rfl,rfl⟩:=y
  refine Zo8 ?_
  show tt (some (.ref b):: some x.2 :: js.map fun j=>(σ[j]?).join) (upd H t (.tup [.ref b,x.2])) _
  have hm:x∈kvs:=List.mem_of_getElem? hx
  have st:Zal H (upd H t (.tup [.ref b,x.2])):=Zcq ht0
  refine ht x b _ _ (hs.trans st) hm (st _ _ hb) fun H4 s4=>?_
  have s04:Zal H H4:=st.trans s4
  have hs4:Zal H1 H4:=hs.trans s04
  cases hpx:p x with
  | true =>
   rw [if_pos rfl]
   refine he D x b H4 _ hs4 ⟨_,s04 _ _ hl⟩ hD hm (s04 _ _ hb) hpx fun v H5 s5 f5=>⟨s5 _ _ (s04 _ _ hl),fun b o e=>?_,uS,?_,_,_,rfl⟩
   ·rw [Zac (nNo e hD)]
    exact s5 _ _ (hs4 _ _ e)
   ·rw [Zen p kvs i x hx,hpx,if_pos rfl]
    refine Paired.snoc (mono (fun b o hb e=>by rw [Zac hb];exact s5 _ _ (s04 _ _ e)) hp) (hF D _ _ _ _ (fun b o hb e=>by rw [Zac hb];exact e) f5)
  | false =>
   rw [if_neg Bool.false_ne_true]
   refine ⟨hs4,s04 _ _ hl,?_,_,_,rfl⟩
   rw [Zen p kvs i x hx,hpx,if_neg Bool.false_ne_true,List.append_nil]
   exact mono (fun b o _ e=>s04 _ _ e) hp
 ·have e:i=kvs.length:=by omega
  subst e
  rw [List.take_length] at hp
  exact .inl ⟨⟨Nat.le_refl _,hs _ _ ha⟩,hd D H ys hD hs hl hp⟩
end L2
namespace L2
open PySem PySem.Spec PyProof.Rows
theorem Ztg {a:Addr}{o:Obj}{kvs:List (List Key×V)}{g:TG}{tb:TS}{D:Zt5}{σ:St}{H:Hp}(Pv:Nat→St→Hp→Prop) (h0:Pv 0 σ H) (hl:∀ i σ H,i≤kvs.length→Pv i σ H→H a=some (.frz o (.dT kvs)))
  (hs:∀ i p b σ H,kvs[i]?=some p→Pv i σ H→H b=some (.tup (p.1.map kV))→g (.ref b) σ H fun σ2 H2=>tb { D with nx:=Pv (i + 1),ct:=Pv (i + 1),bk:=D.nx } σ2 H2) (hd:∀ σ H,Pv kvs.length σ H→D.nx σ H):
  ∃ W:Nat→Nat→St→Hp→Prop,(∃ m,W 0 m σ H)∧∀ i m σ H,W i m σ H →
   ((Z03 a o kvs).stop i H∧D.nx σ H)∨((Z03 a o kvs).go i H∧∃ N:St→Hp→Prop,(∀ σ' H',N σ' H'→∃ m',m'<m∧W (i + 1) m' σ' H')∧∀ x H',(Z03 a o kvs).yld i H x H'→g x σ H' fun σ2 H2=>tb { D with nx:=N,ct:=N,bk:=D.nx } σ2 H2):=by
 refine ⟨fun i m σ H=>m=kvs.length - i∧i≤kvs.length∧Pv i σ H,⟨kvs.length,by simp,Nat.zero_le _,h0⟩,?_⟩
 rintro i m σ H ⟨rfl,hi,p⟩
 have q:=hl i σ H hi p
 by_cases hlt:i<kvs.length
 ·refine .inr ⟨⟨hlt,q⟩,Pv (i + 1),fun σ' H' p'=>⟨kvs.length - (i + 1),by omega,rfl,hlt,p'⟩,fun x H' y=>?_⟩
  obtain ⟨rfl,pr,b,hp,rfl,hb⟩:=y
  exact hs i pr b σ H' hp p hb
 ·have e:i=kvs.length:=by omega
  subst e
  exact .inl ⟨⟨Nat.le_refl _,q⟩,hd σ H p⟩
end L2
namespace L2
open PySem PySem.Spec PyProof.Rows
end L2
namespace L2
open PySem PySem.Spec PyProof.Rows
structure Air (h:Heap) (e T:Addr) (cls:Value) (dx:Option Addr) (fl:Value):Prop where
 ne:T≠e
 obj:∃ oe vs,h.get? e=some oe∧oe.cls=cls∧oe.dict=dx∧oe.data=.fields vs∧vs[1]?=some (.ref T)
 tb:∃ oT ts,h.get? T=some oT∧oT.data=.fields ts∧ts[3]?=some fl
structure Chg (S R:List Addr) (h h':Heap):Prop where
 sz:h.objs.size≤h'.objs.size
 keep:∀ b o,h.get? b=some o→b∉S→b∉R→h'.get? b=some o
 slot:∀ b o,h.get? b=some o→b∉R→∃ sl,h'.get? b=some { o with slots:=sl }
 there:∀ b o,h.get? b=some o→∃ o',h'.get? b=some o'
section
variable {M:Model} {A:Around} {E:Value→Shared→Prop} {s:Shared}
end
def CX1 (P:Program) (w:World):CXT:=fun outer H s E ev s'=>∃ (e T:Addr) (cls:Value) (dx:Option Addr) (H':Hp),ev=.ref e∧s'.os=s.os∧AllBare s'.gens∧Un (frs outer) [] H H' s.heap s'.heap∧HOk P w H' s'.heap ∧
 H' e=none∧H' T=none∧s.heap.objs.size≤e∧s.heap.objs.size≤T∧Air s'.heap e T cls dx .none∧E cls dx H'
structure Fns (X:Cx) (E:XK):Prop where
 xe:X.xe=fun e s'=>wpAny (model X.prog X.w) X.A (leaving X.env e) (fun _ s''=>CX1 X.prog X.w X.outer X.H₀ X.s₀ E e s'') (fun e' s''=>CX1 X.prog X.w X.outer X.H₀ X.s₀ E e' s'') s'
 stk:X.stack=X.env :: X.outer
 fr:X.env.frame=some X.env.locals
 ex:X.ex=[]
section
variable {X:Cx} {pins:List (Addr×Obj)} {σ:St} {H:Hp} {s:Shared} {E:XK} {e T:Addr} {cls:Value} {dx:Option Addr}
end
end L2
namespace L2
open PySem PySem.Spec
structure ExC (K:PySem.W.Frag) (C:Addr):Prop where
 obj:∃ nm q N bs bm hdct sn sub ab col dd k0 k1 k2 k3 k5,K.lookup C=some (excClassObj nm q C N bs bm hdct sn sub ab col dd k0 k1 k2 k3 k5 "ValueError.__new__")
 val:PySem.W.subIn K (.ref C) (.type "ValueError")=some true
 bas:PySem.W.subIn K (.ref C) (.type "BaseException")=some true
 att:PySem.W.subIn K (.ref C) (.type "AttributeError")=some false
 nam:PySem.W.subIn K (.ref C) (.type "NameError")=some false
 kp:PySem.W.keepIn K (.ref C)=true
section
variable {K:PySem.W.Frag} {prog:Program} {w:World} {A:Around} {E:Value→Shared→Prop} {h:Heap} {g:Array GenState} {d:Drawn} {t:Nat} {os:OsState} {C:Addr}
end
end L2
namespace L2
open PySem PySem.Spec PySem.Builtin PySem.Builtin.ObjectAttr PySem.W
structure ExA (K:PySem.W.Frag) (C:Addr):Prop extends ExC K C where
 ga:PySem.W.findIn K (.ref C) "__getattribute__"=some (some (.builtin "BaseException.__getattribute__"))
 gt:PySem.W.findIn K (.ref C) "__getattr__"=some none
 ca:PySem.W.findIn K (.ref C) "__class__"=some (some (.builtin "object.__class__"))
 cg:PySem.W.specialIn K (.builtin "object.__class__") "__get__"=some (some (.builtin "getset_descriptor.__get__"))
 ct:PySem.W.takesIn K (.builtin "object.__class__")=some true
 ob:PySem.W.mroIn K C (.type "object")=some true
section
variable {K:PySem.W.Frag} {prog:Program} {w:World} {A:Around} {E:Value→Shared→Prop} {h:Heap} {g:Array GenState} {d:Drawn} {t:Nat} {os:OsState} {x C:Addr} {ox:Obj} {od:Option Obj} {name:Str}
end
end L2
namespace L2
open PySem PySem.Spec PyProof.Rows
abbrev TF:=St→Hp→(Hp→Prop)→Prop
section
variable {X:Cx} {e:Expr} {es:List Expr} {te:TE} {t u:TF} {pos:Pos}
end
section
variable {X:Cx} {E:XK} {C:Addr} {x:Str} {np cpos pos:Pos} {e:Expr} {es:List Expr} {t:TA}
end
section
variable {X:Cx} {pins:List (Addr×Obj)} {σ:St} {H:Hp} {s:Shared} {A:Around} {E:Value→Shared→Prop} {Q:Value→Shared→Prop} {e C:Addr} {dx:Option Addr} {cv:Value} {b:Bool}
end
abbrev XKs:=Value→Option Addr→St→Hp→Prop
abbrev TSx:=Zt5→XKs→St→Hp→Prop
abbrev TEx:=St→Hp→VK→XK→Prop
def XP (X:Cx) (pins:List (Addr×Obj)) (E:XKs) (ev:Value) (s':Shared):Prop:=∃ (e T:Addr) (cls:Value) (dx:Option Addr) (σ':St) (H':Hp),ev=.ref e∧Inv X pins σ' H' s'∧Zk9 X pins H' e∧Zk9 X pins H' T∧Air s'.heap e T cls dx .none∧E cls dx σ' H'
section
variable {X:Cx} {st:Stmt} {Zor:List Stmt} {t u:TSx} {e:Expr} {te:TEx} {pos:Pos}
end
section
variable {X:Cx} {k:Nat} {f C:Addr} {fd:FuncData} {ps:List Str} {sp:Sp} {dvs:List V} {ds:List Value} {x m:Str} {p pos apos:Pos} {e o:Expr} {es:List Expr} {ta:TE} {t:TA}
end
end L2
namespace L2
open PySem PySem.Spec PyProof.Rows
section
variable {K:PySem.W.Frag} {M:Model} {A:Around} {E:Value→Shared→Prop} {h:Heap} {g:Array GenState} {d:Drawn} {t:Nat} {os:OsState} {e C D:Addr}
end
section
variable {X:Cx} {pins:List (Addr×Obj)} {σ:St} {H:Hp} {s:Shared}
end
section
variable {X:Cx} {D:Addr} {body:List Stmt} {t:TSx} {x n dn:Str} {np xp ep ap hp pos:Pos} {i j:Nat}
end
section
variable {X:Cx} {k:Nat} {f C:Addr} {fd:FuncData} {ps:List Str} {sp:Sp} {x m:Str} {p pos apos:Pos} {e o:Expr} {es:List Expr} {ta:TE} {t:TA}
end
end L2
namespace L2
open PySem PySem.Spec PyProof.Rows
end L2
namespace L2
open PySem PySem.Spec PyProof.Rows
section
variable {X:Cx}
end
end L2
namespace L2
open PySem PySem.Spec PyProof.Rows
end L2
namespace L2
open PySem PySem.Spec PyProof.Rows
end L2
namespace L2
open PySem PySem.W PySem.Spec PyProof.Rows
section
variable {X:Cx} {e:Expr} {te:TE} {pos:Pos} {k:Nat}
end
end L2
namespace L2
open PySem PySem.Spec PyProof.Rows HT
section
variable {prog:Program} {w:World} {A:Around} {E:Value→Shared→Prop} {s:Shared}
end
end L2
namespace L2
open PySem PySem.Spec PyProof.Rows
section
variable {X:Cx}
end
end L2
namespace L2
open PySem PySem.Spec PySem.Builtin PySem.Builtin.ObjectAttr PySem.W
structure ExI (K:PySem.W.Frag) (C D:Addr) (a:Str):Prop extends ExA K C where
 lk:∃ nm q N bs sn sub ab col dd k0 k1 k2 k3 k5,K.lookup C=some (excClassObj nm q C N bs [.ref D,.type "ValueError",.type "Exception",.type "BaseException",.type "object"] true sn sub ab col dd k0 k1 k2 k3 k5 "ValueError.__new__")
 sa:PySem.W.findIn K (.ref C) "__setattr__"=some (some (.builtin "object.__setattr__"))
 na:PySem.W.findIn K (.ref C) a=some none
section
variable {K:PySem.W.Frag} {prog:Program} {w:World} {A:Around} {E:Value→Shared→Prop} {s:Shared} {C D e t0:Addr} {a:Str} {v:Value}
end
end L2
namespace L2
open PySem PySem.Spec PyProof.Rows
structure DIn (K:PySem.W.Frag) (D:Addr):Prop where
 ga:PySem.W.specialIn K (.ref D) "__getattribute__"=some (some (.builtin "type.__getattribute__"))
 rd:PySem.W.readsIn K D (.type "type")=true
 fi:PySem.W.findCls K (.ref D) (.type "type") "__init__"=some (.val (.builtin "ValueError.__init__"))
section
variable {X:Cx} {pins:List (Addr×Obj)} {σ:St} {H:Hp} {s:Shared} {a:Addr} {φ:Heap→Prop}
end
section
variable {X:Cx} {C D f:Addr} {fd:FuncData} {k:Nat} {x dn a:Str} {np cpos pos apos pos':Pos} {e o value:Expr} {es:List Expr} {t:TA} {ta tv:TE} {ps:List Str}
end
end L2
namespace L2
open PySem PySem.Spec PyProof.Rows
theorem Zmq:∀ (names:List (Str×NameKind)) (n:Nat) (acc:List (Str×Addr)),cellsFrom n names acc=cellsFrom n names []++acc
 | [],_,_=>rfl
 | (x,k):: r,n,acc=>by
  unfold cellsFrom
  split
  ·rw [Zmq r (n + 1) ((x,n):: acc),Zmq r (n + 1) [(x,n)],List.append_assoc];rfl
  ·exact Zmq r n acc
theorem Zk5:∀ (names:List (Str×NameKind)) (n:Nat) (y:Str×Addr),y∈cellsFrom n names []→(y.1,NameKind.cell)∈names
 | [],_,_,h=>by cases h
 | (x,k):: r,n,y,h=>by
  unfold cellsFrom at h
  split at h
  ·rename_i hk
   have hk':k=.cell:=by simpa using hk
   rw [Zmq] at h
   rcases List.mem_append.mp h with z | z
   ·exact List.mem_cons_of_mem _ (Zk5 r (n + 1) y z)
   ·rw [List.mem_singleton.mp z,hk'];exact List.mem_cons_self
  ·exact List.mem_cons_of_mem _ (Zk5 r n y h)
theorem Ztj {M:Model}{A:Around}{E:Value→Shared→Prop}{s:Shared}{scope:Scope}{globals:Addr}{closure:List (Str×Addr)}{qual:Str}{outer:Env}{builtins:Addr}{Q:Env→Shared→Prop}
  (hQ:∀ h',h'.Ns s.heap.objs.size (fun _=>none)→(∀ b o,s.heap.get? b=some o→h'.get? b=some o)→CellsOk h' (s.heap.objs.size + 1) (cellsFrom (s.heap.objs.size + 1) scope.names []) →
   Q (newEnv scope s.heap.objs.size globals (cellsFrom (s.heap.objs.size + 1) scope.names []++closure) qual none .none (some outer) builtins) { s with heap:=h' }):
  wpAny M A (newFunctionEnv scope globals closure [] qual none .none (some outer) builtins) Q E s:=by
 simp only [newFunctionEnv,Option.isSome_some,if_true]
 refine wpAny_bind (wpAny_alloc ?_)
 refine wpAny_bind (wpAny_layCells _ (fun name kind cells=>by cases hkc:kind == NameKind.cell <;> simp [hkc]) _ _ _ _ ?_)
 have ok:=cellsFrom_ok scope.names (s.heap.push { cls:=.type "dict",data:=.dict #[] }) (s.heap.objs.size + 1) [] ⟨fun _ _ hm=>(nomatch hm),List.Pairwise.nil⟩ (by rw [Heap.size_push];exact Nat.le_refl _)
 rw [Heap.size_push] at ok
 rw [show ({ s with heap:=s.heap.push { cls:=.type "dict",data:=.dict #[] } }:Shared).heap.objs.size=s.heap.objs.size + 1 from Heap.size_push ..]
 rw [List.forIn_nil]
 refine wpAny_bind (wpAny_pure (wpAny_pure ?_))
 have q:=hQ _ ((Heap.Ns.new s.heap (.type "dict")).keeps (pushCells_keeps scope.names _)) (fun b o e=>pushCells_keeps _ _ b o (Heap.get?_push_of_some _ e)) ok
 rw [Zmq]
 exact q
abbrev Zdh (X:Cx) (scope:Scope) (N:List Str) (C:Addr) (s:Shared) (H:Hp) (fp:List Addr):Cx :=
 { X with N:=N,s₀:=s,H₀:=H,env:=compEnvC scope (cellsFrom (C + 1) scope.names []++Zhx X.env scope.names []) C X.env,outer:=X.stack,ex:=fp,fn:=fun x=>scope.names.lookup x == some .cell,pn:=[],xe:=fun _ _=>False }
structure Zd5 (X:Cx) (scope:Scope) (own frees:List Str) (js:List Nat):Prop where
 calm:X.calm=true
 kind:scope.kind=.function
 cells:∀ y∈scope.names,y.2=.cell→scope.names.lookup y.1=some .cell
 locals:∀ y∈scope.names,y.2=.local→scope.names.lookup y.1=some .local
 fr:∀ y∈scope.names,y.2=.free→X.env.scope.names.lookup y.1=some .cell∨X.env.scope.names.lookup y.1=some .free
 fre:∀ x∈frees,scope.names.lookup x=some .free
 slots:js.map (fun j=>X.N[j]?)=frees.map some
section
variable {X:Cx} {pins:List (Addr×Obj)} {σ:St} {scope:Scope} {own frees:List Str} {js:List Nat}
theorem Zd5.clo (c:Zd5 X scope own frees js) (ok:X.Ok):∀ y∈scope.names,y.2=.free→∃ a,X.env.cells.lookup y.1=some a:=fun y hy e=>by
 rcases c.fr y hy e with h | h
 ·exact ok.has y.1 (.inl h)
 ·exact ok.has y.1 (.inr h)
theorem Zd5.cl (c:Zd5 X scope own frees js) (ok:X.Ok) {n:Nat}{x:Str}{a:Addr}(h:(cellsFrom n scope.names []++Zhx X.env scope.names []).lookup x=some a):
  ((x,a)∈cellsFrom n scope.names []∧scope.names.lookup x=some .cell)∨X.env.cells.lookup x=some a:=by
 rw [List.lookup_append] at h
 cases q:(cellsFrom n scope.names []).lookup x with
 | some b =>
  rw [q] at h
  cases h
  have m:=PySem.mem_of_lookup q
  exact .inl ⟨m,c.cells _ (Zk5 _ _ _ m) rfl⟩
 | none =>
  rw [q] at h
  exact .inr (Zeu scope.names [] x a (c.clo ok) (fun _ _ z=>by simp at z) h)
theorem Zd5.has (c:Zd5 X scope own frees js) {n:Nat}{x:Str}(h:scope.names.lookup x=some .free):∃ a,(cellsFrom n scope.names []++Zhx X.env scope.names []).lookup x=some a∧(Zhx X.env scope.names []).lookup x=some a:=by
 have q:(cellsFrom n scope.names []).lookup x=none:=by
  cases q:(cellsFrom n scope.names []).lookup x with
  | none=>rfl
  | some b =>
   have z:=c.cells _ (Zk5 _ _ _ (PySem.mem_of_lookup q)) rfl
   rw [show scope.names.lookup x=some .cell from z] at h
   cases h
 obtain ⟨a,ha⟩:=Option.isSome_iff_exists.mp (Zh7 (env:=X.env) scope.names [] x (PySem.mem_of_lookup h))
 exact ⟨a,by rw [List.lookup_append,q];exact ha,ha⟩
theorem Zd5.hasC {n:Nat}{x:Str}(h:scope.names.lookup x=some .cell):∃ a,(cellsFrom n scope.names []++Zhx X.env scope.names []).lookup x=some a:=by
 obtain ⟨a,ha⟩:=Option.isSome_iff_exists.mp (PySem.W.cellsFrom_some scope.names n [] (.inl h))
 exact ⟨a,by rw [List.lookup_append,ha];rfl⟩
theorem Zd5.ok {s2:Shared}{H2:Hp}{fp:List Addr}{C:Addr}{h':Heap}(c:Zd5 X scope own frees js) (I:Inv X pins σ H2 s2) (f2:∀ b∈fp,Zk9 X pins H2 b) (hlt:∀ b∈fp,b<s2.heap.objs.size) (hC:s2.heap.objs.size≤C) (N:List Str)
  (co:CellsOk h' (C + 1) (cellsFrom (C + 1) scope.names [])):(Zdh X scope N C s2 H2 fp).Ok where
 mod:=I.ok.mod
 kind:=c.kind
 glob:=I.ok.glob
 blt:=I.ok.blt
 above:=hC
 inj:=fun x y a h1 h2=>by
  have old:∀ z,X.env.cells.lookup z=some a→a<s2.heap.objs.size:=fun z q=>by
   obtain ⟨v,r⟩:=I.cell z a q
   exact r.lt
  have new:∀ z,(z,a)∈cellsFrom (C + 1) scope.names []→C + 1≤a:=fun z q=>(co.empty z a q).2
  rcases c.cl I.ok h1 with ⟨z1,_⟩ | z1 <;> rcases c.cl I.ok h2 with ⟨z2,_⟩ | z2
  ·exact name_of_addr co.apart z1 z2
  ·exact absurd (Nat.lt_of_lt_of_le (Nat.lt_of_lt_of_le (old _ z2) hC) (Nat.le_of_succ_le (new _ z1))) (Nat.lt_irrefl _)
  ·exact absurd (Nat.lt_of_lt_of_le (Nat.lt_of_lt_of_le (old _ z1) hC) (Nat.le_of_succ_le (new _ z2))) (Nat.lt_irrefl _)
  ·exact I.ok.inj x y a z1 z2
 has:=fun x h=>by
  have h':scope.names.lookup x=some .free∨scope.names.lookup x=some .cell:=Zds (env:=X.env) h
  rcases h' with h' | h'
  ·obtain ⟨a,z,_⟩:=c.has (n:=C + 1) h'
   exact ⟨a,z⟩
  ·exact Zd5.hasC h'
 cab:=fun x a h h1=>by
  have hx:scope.names.lookup x=some .cell:=by simpa using h
  rcases c.cl I.ok h1 with ⟨z,_⟩ | z
  ·have:=(co.empty x a z).2
   show s2.heap.objs.size≤a
   omega
  ·have q:(cellsFrom (C + 1) scope.names []++Zhx X.env scope.names []).lookup x=some a:=h1
   obtain ⟨b,hb⟩:=Option.isSome_iff_exists.mp (PySem.W.cellsFrom_some scope.names (C + 1) [] (.inl hx))
   rw [List.lookup_append,hb] at q
   cases q
   have:=(co.empty x a (PySem.mem_of_lookup hb)).2
   show s2.heap.objs.size≤a
   omega
 hd:=fun h=>I.ok.hd h
 frames:=I.ok.frames
 stk:=.inl rfl
 exf:=fun b hb=>⟨Nat.ne_of_lt (Nat.lt_of_lt_of_le (hlt b hb) hC),fun x a h=>by
  rcases c.cl I.ok h with ⟨z,_⟩ | z
  ·exact Nat.ne_of_gt (Nat.lt_of_lt_of_le (Nat.lt_of_lt_of_le (hlt b hb) hC) (Nat.le_of_succ_le (co.empty x a z).2))
  ·exact (f2 b hb).2.2.2.2.1 x a z⟩
 bs:=I.bs
 bsz:=Nat.le_trans I.ok.bsz I.sz
 noex:=fun b o e hb=>by
  rcases (f2 b hb).2.2.2.1 with z | z
  ·exact I.ok.noex b o e z
  ·exact absurd (Nat.lt_of_lt_of_le (Heap.lt_size e) (Nat.le_trans I.ok.bsz z)) (Nat.lt_irrefl _)
 exfs:=fun b hb z=>by
  rcases List.mem_cons.mp (I.stkSub b z) with e | e
  ·exact (f2 b hb).2.1 e
  ·exact (f2 b hb).2.2.1 e
 funs:=I.stack
 frf:=I.stkFree
theorem Zn8 {s2:Shared}{tg iter elt:Expr}{ifs:List Expr}{pos:Pos}{g:TG}{tt:TT}{te:TE}{Q:VK}{RR:Value→Addr→Result→Shared→Prop}{itv:Value}{E:Value→Shared→Prop}
  (c:Zd5 X scope own frees js)
  (hg:∀ C s H fp,PG (Zdh X scope (own++frees) C s H fp) tg g) (ht:∀ C s H fp,PTs (Zdh X scope (own++frees) C s H fp) ifs tt) (he:∀ C s H fp,PE (Zdh X scope (own++frees) C s H fp) elt te)
  (h:PIE X pins σ tg (compBody own.length js g tt te σ Q) itv s2)
  (hR:∀ D C H' s',Inv X pins σ H' s'→Zk9 X pins H' C→(∃ m,s'.heap.Ns C m)→Q (.ref D) H'→RR (.ref D) C (.ok .next) s'):
  wpAny (model X.prog X.w) X.A (newList []) (fun acc s₃=>wpAny (model X.prog X.w) X.A (newFunctionEnv scope X.env.globals (Zhx X.env scope.names []) [] X.env.qual none .none (some X.env)) (fun cenv s₄ =>
   codeAny (model X.prog X.w) X.A (.compStart (.ListComp elt [⟨tg,iter,ifs,0⟩] scope pos) 0 itv acc { cenv with scope:=relabel scope X.env }) (RR acc cenv.locals) s₄) E s₃) E s2:=by
 obtain ⟨it,fp,tn,J,H2,e,I2,T,st2,f2,hq⟩:=h
 subst e
 refine wpAny_newObj_type (Ztj fun h₁ hns₁ kp₁ co₁=>?_)
 dsimp only at hns₁ kp₁ co₁ ⊢
 generalize hH2:s2.heap.push { cls:=.type "list",dict:=none,data:=.seq ([]:List Value).toArray }=G2 at hns₁ kp₁ co₁ ⊢
 have hC:G2.objs.size=s2.heap.objs.size + 1:=by rw [← hH2,Heap.size_push]
 have hDC:s2.heap.objs.size≠G2.objs.size:=by rw [hC];exact Nat.ne_of_lt (Nat.lt_succ_self _)
 have hCle:s2.heap.objs.size≤G2.objs.size:=by rw [hC];exact Nat.le_succ _
 have old:∀ b o,s2.heap.get? b=some o→h₁.get? b=some o:=fun b o e=>kp₁ b o (hH2 ▸ Heap.get?_push_of_some _ e)
 have hD:H2 s2.heap.objs.size=none:=I2.hok.fresh (Nat.le_refl _)
 have hlt:∀ b∈fp,b<s2.heap.objs.size:=fun b hb=>by
  obtain ⟨o,e,_⟩:=T.obj _ _ st2 b hb
  exact Heap.lt_size e
 have hacc:h₁.get? s2.heap.objs.size=some { cls:=.type "list",data:=.seq ([]:List Value).toArray }:=kp₁ _ _ (hH2 ▸ Heap.get?_push_size _ rfl)
 obtain ⟨W,⟨m0,w0⟩,turn⟩:=hq _ hD
 have I0:∀ tk,Inv (Zdh X scope (own++frees) G2.objs.size s2 H2 fp) [] (sgC own.length js σ) (upd H2 s2.heap.objs.size (.lst [])) { s2 with heap:=h₁,toks:=tk }:=fun tk=>by
  refine ⟨c.ok I2 f2 hlt hCle _ co₁,rfl,I2.bare,Un.laid old (Nat.le_refl _) hD,⟨_,hns₁,fun i x v h1 h2 h3=>?_⟩,fun x a h=>?_,?_,fun x a h=>?_,fun p hp=>absurd (show p∈([]:List (Addr×Obj)) from hp) (by simp),I2.hok.laid old (Nat.le_refl _) ⟨Nat.zero_le _,[],0,.nil,hacc⟩,?_⟩
  ·have hi:own.length≤i:=by
    by_cases hi:i<own.length
    ·unfold sgC at h2
     rw [List.getElem?_append_left (by simpa using hi),List.getElem?_replicate] at h2
     rw [if_pos hi] at h2
     cases h2
    ·omega
   have hx:frees[i - own.length]?=some x:=by
    have h1':(own++frees)[i]?=some x:=h1
    rwa [List.getElem?_append_right hi] at h1'
   have h2':(js.map fun j=>(σ[j]?).join)[i - own.length]?=some (some v):=by
    unfold sgC at h2
    rw [List.getElem?_append_right (by simpa using hi)] at h2
    simpa using h2
   rw [List.getElem?_map] at h2'
   obtain ⟨j,hj,hjv⟩:=Option.map_eq_some_iff.mp h2'
   have hs:=congrArg (fun l=>l[i - own.length]?) c.slots
   rw [List.getElem?_map,List.getElem?_map,hj,hx] at hs
   have hNj:X.N[j]?=some x:=Option.some.inj hs
   have hσ:σ[j]?=some (some v):=by
    cases q:σ[j]? with
    | none=>rw [q] at hjv;cases hjv
    | some o =>
     rw [q] at hjv
     have:o=some v:=hjv
     rw [this]
   have hfree:=c.fre x (List.mem_of_getElem? hx)
   have hXk:=c.fr (x,.free) (PySem.mem_of_lookup hfree) rfl
   obtain ⟨m,hn,hl⟩:=I2.loc
   have vis:Vis X.env.scope x:=by rcases hXk with k | k;exact .inr (.inl k);exact .inr (.inr k)
   obtain ⟨u,r,l⟩:=hl j x v hNj hσ vis
   refine ⟨u,r,.inr ⟨Zdl (env:=X.env) hfree,?_⟩⟩
   rcases l with ⟨hk,_⟩ | ⟨_,a,ha,hcell⟩
   ·rcases hXk with k | k
    ·have hk:X.env.scope.names.lookup x=some .local:=hk
     rw [show X.env.scope.names.lookup x=some .cell from k] at hk;cases hk
    ·have hk:X.env.scope.names.lookup x=some .local:=hk
     rw [show X.env.scope.names.lookup x=some .free from k] at hk;cases hk
   ·obtain ⟨a',ha',hz'⟩:=c.has (n:=G2.objs.size + 1) hfree
    have e:=Zeu scope.names [] x a' (c.clo I2.ok) (fun _ _ z=>by simp at z) hz'
    rw [ha] at e
    cases e
    obtain ⟨o,ho,hd⟩:=hcell
    exact ⟨a,ha',o,old a o ho,hd⟩
  ·rcases c.cl I2.ok h with ⟨z,_⟩ | z
   ·exact ⟨none,(co₁.empty x a z).1⟩
   ·obtain ⟨v,o,ho,hd⟩:=I2.cell x a z
    exact ⟨v,o,old a o ho,hd⟩
  ·show upd H2 s2.heap.objs.size (.lst []) G2.objs.size=none
   rw [Zac (Ne.symm hDC)]
   exact I2.hok.fresh hCle
  ·rcases c.cl I2.ok h with ⟨z,_⟩ | z
   ·have la:=(co₁.empty x a z).2
    have lb:s2.heap.objs.size<a:=Nat.lt_of_le_of_lt hCle (Nat.lt_of_succ_le la)
    rw [Zac (Nat.ne_of_gt lb)]
    exact I2.hok.fresh (Nat.le_of_lt lb)
   ·obtain ⟨v,o,ho,hd⟩:=I2.cell x a z
    rw [Zac (Nat.ne_of_lt (Heap.lt_size ho))]
    exact I2.freeC x a z
  ·rw [Zrt,List.length_append]
   have:=congrArg List.length c.slots
   rw [List.length_map,List.length_map] at this
   omega
 have stat:∀ {H':Hp},(∀ b∈fp,H' b=none)→∀ b∈fp,Zk9 (Zdh X scope (own++frees) G2.objs.size s2 H2 fp) [] H' b:=fun {H'} hn b hb=>by
  obtain ⟨f0,f1,f3,f4,f5,f6⟩:=f2 b hb
  refine ⟨hn b hb,Nat.ne_of_lt (Nat.lt_of_lt_of_le (hlt b hb) hCle),fun z=>?_,.inl hb,fun x a h=>by
   rcases c.cl I2.ok h with ⟨z,_⟩ | z
   ·exact Nat.ne_of_gt (Nat.lt_of_lt_of_le (Nat.lt_of_lt_of_le (hlt b hb) hCle) (Nat.le_of_succ_le (co₁.empty x a z).2))
   ·exact f5 x a z,fun p hp=>absurd (show p∈([]:List (Addr×Obj)) from hp) (by simp)⟩
  rcases List.mem_cons.mp (I2.stkSub b z) with e | e
  ·exact f1 e
  ·exact f3 e
 have loop:∀ s₃:Shared,s₃={ s2 with heap:=h₁,toks:=s2.toks } →
   codeAny (model X.prog X.w) X.A (.compLoop (.ListComp elt [⟨tg,iter,ifs,0⟩] scope pos) 0 (.ref it) (.ref s2.heap.objs.size) (compEnvC scope (cellsFrom (G2.objs.size + 1) scope.names []++Zhx X.env scope.names []) G2.objs.size X.env))
    (RR (.ref s2.heap.objs.size) G2.objs.size) s₃:=by
  rintro s₃ rfl
  refine Zhw (fun n s'=>∃ i ys σ' H',Inv (Zdh X scope (own++frees) G2.objs.size s2 H2 fp) [] σ' H' s'∧tn i s'.heap∧(∀ b∈fp,H' b=none)∧W i n ys σ' H') ?_ m0
   ⟨0,[],_,_,I0 _,T.keep _ _ _ st2 fun b _ o e=>old b o e,fun b hb=>by rw [Zac (Nat.ne_of_lt (hlt b hb))];exact (f2 b hb).1,w0⟩
  rintro n s3 ⟨i,ys,σ3,H3,I3,st3,fr3,w3⟩ E'
  rcases turn i n ys σ3 H3 w3 with ⟨stop,qn⟩ | ⟨go,hz,N,hN,step⟩
  ·refine thn (T.done (Zdh X scope (own++frees) G2.objs.size s2 H2 fp) rfl rfl rfl c.calm i [] s3 σ3 H3 E' I3 (stat fr3) st3 stop) fun r s4 ⟨hr,I4⟩=>?_
   subst hr
   have back:Inv X pins σ H3 s4:=I2.call' (ch:=fp) I4.os I4.base I4.hok I4.bare fun b hb=>⟨(f2 b hb).2.2.2.1,(f2 b hb).2.1,(f2 b hb).2.2.2.2.1,(f2 b hb).2.2.2.2.2⟩
   exact hR _ _ H3 s4 back (I2.fpOk hCle I4.free) ⟨_,I4.loc.choose_spec.1⟩ qn
  ·refine thn (T.item (Zdh X scope (own++frees) G2.objs.size s2 H2 fp) rfl rfl rfl c.calm i [] s3 σ3 H3 E' I3 (stat fr3) st3 go) fun r s4 ⟨u,hr,h4⟩=>?_
   subst hr
   refine thn h4 fun _ s5 ⟨x,H5,I5,r5,y5,st5,fr5⟩=>?_
   have I5':=I5.pinned (stat fr5) (T.obj _ _ st5)
   have nof:∀ (e:Value) (s':Shared),(Zdh X scope (own++frees) G2.objs.size s2 H2 fp).xe e s'→E' e s':=fun _ _ z=>False.elim z
   refine wpAny_mono (hg _ _ _ _ _ s5 σ3 H5 x u _ I5' r5 (step x H5 y5)) (fun _ s6 ⟨σ6,H6,I6,q6⟩=>?_) nof
   refine wpAny_mono (ht _ _ _ _ _ s6 σ6 H6 _ I6 q6) (fun b s7 ⟨H7,I7,q7⟩=>?_) nof
   have again:∀ {σ7:St} {H7:Hp} {s7:Shared} {ys':List V},Inv (Zdh X scope (own++frees) G2.objs.size s2 H2 fp) ([]++Zjp fp s5.heap) σ7 H7 s7→N ys' σ7 H7 →
     ∃ m,m<n∧∃ i ys σ' H',Inv (Zdh X scope (own++frees) G2.objs.size s2 H2 fp) [] σ' H' s7∧tn i s7.heap∧(∀ b∈fp,H' b=none)∧W i m ys σ' H':=fun {σ7 H7 s7 ys'} I7 n7=>by
    obtain ⟨m',hm,w7⟩:=hN _ _ _ n7
    refine ⟨m',hm,i + 1,ys',σ7,H7,I7.unpinned,T.keep _ _ _ st5 fun b hb o e=>(I7.pin (b,o) (List.mem_append_right _ (List.mem_append_right _ (Zem hb e)))).1,fun b hb=>?_,w7⟩
    obtain ⟨o,e,d⟩:=T.obj _ _ st5 b hb
    exact (I7.pin (b,o) (List.mem_append_right _ (List.mem_append_right _ (Zem hb e)))).2.1
   cases b with
   | false =>
    rw [if_neg Bool.false_ne_true] at q7 ⊢
    exact again I7 q7
   | true =>
    rw [if_pos rfl] at q7 ⊢
    refine wpAny_mono (he _ _ _ _ _ s7 σ6 H7 _ I7 q7) (fun v s8 ⟨y,H8,I8,r8,hD8,w8⟩=>?_) nof
    refine wpAny_mono (Zb6 (X:=Zdh X scope (own++frees) G2.objs.size s2 H2 fp) _ s8 σ6 H8 (.ref s2.heap.objs.size) [y] (.ref s2.heap.objs.size) [v] (fun _ H9=>H9=upd H8 s2.heap.objs.size (.lst (ys++[y]))) I8 rfl (.cons r8 .nil) ⟨_,ys,y,rfl,rfl,hD8,hz,rfl⟩) (fun z s9 ⟨_,H9,I9,_,e9⟩=>?_) nof
    subst e9
    exact again I9 w8
 exact codeAny_compStart_list (loop _ rfl) (T.self X.A 0 _ _ _ (T.keep _ _ _ st2 fun b _ o e=>old b o e) (loop _ rfl))
end
section
variable {X:Cx} {scope:Scope} {own frees:List Str} {js:List Nat} {tg iter elt:Expr} {ifs:List Expr} {wi:TI} {g:TG} {tt:TT} {te:TE} {pos:Pos}
theorem Zut (own frees:List Str) (js:List Nat) (hc:X.Ok→Zd5 X scope own frees js) (hi:PI X tg iter wi)
  (hg:∀ C s H fp,PG (Zdh X scope (own++frees) C s H fp) tg g) (ht:∀ C s H fp,PTs (Zdh X scope (own++frees) C s H fp) ifs tt) (he:∀ C s H fp,PE (Zdh X scope (own++frees) C s H fp) elt te)
  (hs:∀ x,foldedSetIterable iter X.env x=pure x:=by intro _;rfl):
  PE X (.ListComp elt [⟨tg,iter,ifs,0⟩] scope pos) (Zy8 own.length js wi g tt te):=by
 intro pins s σ H Q I h
 have c:=hc I.ok
 rw [eval_ListComp]
 refine wpAny_comprehension_free (use:=none) rfl hs (Zfj (c.clo I.ok)) c.kind c.locals (thn (hi pins s σ H _ I h) fun xv s₁ h₁=>thn h₁ fun it s₂ h₂=>?_)
 refine Zn8 (RR:=fun acc C=>compPost (model X.prog X.w) X.A X.xe none (EP X pins σ Q) acc C) c hg ht he h₂ fun D C H' s' J F n q=>?_
 obtain ⟨m,hn⟩:=n
 obtain ⟨f0,f1,f2,f3,f4,f5⟩:=F
 exact ⟨m,hn,fun h' hs'=>⟨.ref D,H',J.turned (t':=s'.toks) (fun b o hb e=>hs'.extBut b o hb e) f0 f1 f3 f4 f5,rfl,q⟩⟩
end
def Zwu (osc:Scope) (on:List Str) (scope:Scope) (frees:List Str) (js:List Nat):Bool :=
 (scope.kind == .function)&&scope.names.all (fun y=>y.2 != .cell || scope.names.lookup y.1 == some .cell)&&scope.names.all (fun y=>y.2 != .local || scope.names.lookup y.1 == some .local) &&
 scope.names.all (fun y=>y.2 != .free || (osc.names.lookup y.1 == some .cell || osc.names.lookup y.1 == some .free))&&frees.all (fun x=>scope.names.lookup x == some .free)&&decide (js.map (fun j=>on[j]?)=frees.map some)
theorem Ztu {X:Cx}{osc scope:Scope}{on own frees:List Str}{js:List Nat}(h:Zwu osc on scope frees js=true) (h1:X.env.scope=osc) (h2:X.N=on) (h3:X.calm=true):Zd5 X scope own frees js:=by
 subst h1
 subst h2
 unfold Zwu at h
 simp only [Bool.and_eq_true,List.all_eq_true,decide_eq_true_eq,Bool.or_eq_true,bne_iff_ne,beq_iff_eq,ne_eq] at h
 obtain ⟨⟨⟨⟨⟨a,b⟩,c⟩,d⟩,e⟩,f⟩:=h
 exact ⟨h3,a,fun y hy z=>(b y hy).resolve_left (fun q=>q z),fun y hy z=>(c y hy).resolve_left (fun q=>q z),fun y hy z=>(d y hy).resolve_left (fun q=>q z),e,f⟩
def Zw9 (sc osc:Scope):Scope:={ sc with names:=sc.names.map fun (n,k)=>if (k == NameKind.free&&osc.kind == .function&&osc.names.lookup n == some .cell) then (n,NameKind.cell) else (n,k) }
end L2
namespace L2
open PySem PySem.Spec PyProof.Rows
section
variable {prog:Program} {w:World} {A:Around} {E:Value→Shared→Prop} {s:Shared} {r:Addr}
end
section
variable {X:Cx}
end
end L2
namespace L2
open PySem PySem.Spec PyProof.Rows
structure Z5l (K:PySem.W.Frag) (D:Addr):Prop where
 ha:PySem.W.findIn K (.ref D) "__class__"=some (some (.builtin "object.__class__"))
 hn:PySem.W.specialIn K (.builtin "object.__class__") "__get__"=some (some (.builtin "getset_descriptor.__get__"))
 ht:PySem.W.takesIn K (.builtin "object.__class__")=some true
 hm:PySem.W.mroIn K D (.type "object")=some true
 ki:PySem.W.kitOne K (.ref D) (.ref D)=some true
end L2
namespace L2
open PySem PySem.Spec PyProof.Rows
section
variable {prog:Program} {w:World} {A:Around}
end
section
variable {X:Cx}
end
end L2
namespace L2
open PySem PySem.Spec PyProof.Rows
section
variable {X:Cx} {pins:List (Addr×Obj)} {σ:St} {H:Hp} {s:Shared} {a:Addr} {o:Obj} {kvs:List (List Key×V)}
end
end L2
namespace L2
open PySem PySem.Spec PySem.Builtin
section
variable {X:Cx}
end
end L2
namespace L2
open PySem PySem.Spec PyProof.Rows
section
variable {X:Cx} {C D f:Addr} {fd:FuncData} {k:Nat} {x dn a:Str} {np cpos pos apos pos':Pos} {e o value:Expr} {es:List Expr} {t:TA} {ta tv:TE} {ps:List Str}
end
end L2
namespace L2
open PySem PySem.Spec PySem.Builtin
section
variable {X:Cx}
end
section
variable {X:Cx}
end
end L2
namespace L2
open PySem PySem.Spec PyProof.Rows
structure ZLt (h:Heap) (z ti to i1 i2 l1 l2:Addr) (k:Nat) (f:Value):Prop where
 z:IsZip h z ti to f
 ti:IsPair h ti (.ref i1) (.ref i2)
 to:∃ a b,IsPair h to a b
 i1:h.IsListIter i1 l1 k
 i2:h.IsListIter i2 l2 k
section
variable {prog:Program} {w:World} {A:Around} {E:Value→Shared→Prop} {s:Shared}
end
section
variable {X:Cx}
end
end L2
namespace L2
open PySem PySem.Spec PyProof.Rows
section
variable {X:Cx}
end
section
variable {prog:Program} {w:World} {A:Around} {E:Value→Shared→Prop} {s:Shared}
structure ZMt (h:Heap) (z ti to i1 i2 l1 l2:Addr) (k:Nat) (f:Value):Prop where
 z:IsZip h z ti to f
 ti:IsPair h ti (.ref i1) (.ref i2)
 to:∃ a b,IsPair h to a b
 i1:h.IsTupleIter i1 l1 k
 i2:h.IsListIter i2 l2 k
end
section
variable {X:Cx}
end
end L2
namespace L2
open PySem PySem.Spec PyProof.Rows
section
variable {prog:Program} {w:World} {A:Around} {E:Value→Shared→Prop} {s:Shared} {d it:Addr} {es:Array DictEntry} {ep i:Nat}
end
section
variable {prog:Program} {w:World} {A:Around}
end
section
variable {X:Cx}
end
section
variable {X:Cx} {tg:Expr}
end
end L2
namespace L2
open PySem PySem.Spec PyProof.Rows
section
variable {X:Cx}
end
end L2
namespace L2
open PySem PySem.Spec PyProof.Rows
section
variable {prog:Program} {w:World} {A:Around} {E:Value→Shared→Prop} {s:Shared}
structure ZNt (h:Heap) (z ti to i1 i2 l1 l2:Addr) (k:Nat) (f:Value):Prop where
 z:IsZip h z ti to f
 ti:IsPair h ti (.ref i1) (.ref i2)
 to:∃ a b,IsPair h to a b
 i1:h.IsListIter i1 l1 k
 i2:h.IsTupleIter i2 l2 k
theorem ZNt.at {h h':Heap}{z ti to i1 i2 l1 l2:Addr}{k:Nat}{f:Value}(x:ZNt h z ti to i1 i2 l1 l2 k f) (e:∀ b∈[z,ti,to,i1,i2],∀ o,h.get? b=some o→h'.get? b=some o):ZNt h' z ti to i1 i2 l1 l2 k f :=
 ⟨e z (by simp) _ x.z,e ti (by simp) _ x.ti,let ⟨a,b,y⟩:=x.to;⟨a,b,e to (by simp) _ y⟩,x.i1.at fun o q=>e i1 (by simp) o q,x.i2.at fun o q=>e i2 (by simp) o q⟩
theorem Zqz {z ti to i1 i2 l1 l2:Addr}{k:Nat}{xs ys:Array Value}{x y:Value}{Q:Value→Shared→Prop}(D:ZipApart z ti to i1 i2 l1 l2) (st:ZNt s.heap z ti to i1 i2 l1 l2 k .none)
  (t1:s.heap.IsList l1 xs) (t2:s.heap.IsTuple l2 ys) (hx:xs[k]?=some x) (hy:ys[k]?=some y)
  (q:∀ g,ZNt g z ti to i1 i2 l1 l2 (k + 1) (rawInt s.heap.objs.size)→IsPair g s.heap.objs.size x y→(∀ c o,c≠z→c≠to→c≠i1→c≠i2→s.heap.get? c=some o→g.get? c=some o)→Q (.ref s.heap.objs.size) { s with heap:=g }):
  wpAny (model prog w) A (Builtin.«zip.__next__» ⟨[.ref z],[]⟩) (fun fin s'=>∃ v,fin=.done (.ret v)∧Q v s') E s:=by
 obtain ⟨hz,hti,⟨a,b,hto⟩,hi1,hi2⟩:=st
 show wpAny _ _ (field (.ref z) 2>>=_) _ _ _
 refine wpAny_bind (wpAny_field hz rfl (x:=.bool false) rfl ?_)
 show wpAny _ _ (field (.ref z) 3>>=_) _ _ _
 refine wpAny_bind (wpAny_field hz rfl (x:=.ref ti) rfl (wpAny_bind (wpAny_seqItems hti rfl ?_)))
 show wpAny _ _ (Builtin.SmallTypes.ownedTupleIsFree (.ref z)>>=_) _ _ _
 refine wpAny_bind ?_
 unfold Builtin.SmallTypes.ownedTupleIsFree
 refine wpAny_bind (wpAny_field hz rfl (x:=.none) rfl (wpAny_pure ?_))
 simp only [if_true]
 refine wpAny_bind (wpAny_rule (wpAny_bind (wpAny_field hz rfl (x:=.ref to) rfl (wpAny_bind (wpAny_setField_rec hz (by simp) fun g1 z1 e1=>?_)))))
 replace z1:IsZip g1 z ti to .ellipsis:=z1
 refine wpAny_bind ?_
 simp only [List.zipIdx_cons,List.zipIdx_nil,List.forIn_cons,List.forIn_nil]
 refine wpAny_bind (wpAny_bind (wpAny_onRaise ?_))
 show wpAny _ _ (Builtin.SmallTypes.nextOf (.ref i1)>>=_) _ _ _
 refine wpAny_bind (wpAny_nextOf_list_item (hi1.extBut e1.extBut D.i1z) (t1.extBut e1.extBut D.l1z) hx fun g2 j1 e2=>wpAny_pure ?_)
 have to2:IsPair g2 to a b:=e2.extBut _ _ D.TOi1 (e1.extBut _ _ D.TOz hto)
 refine wpAny_bind (wpAny_seqItems to2 rfl (wpAny_bind (wpAny_updateSeq_pair to2 fun g3 to3 e3=>?_)))
 replace to3:IsPair g3 to x b:=to3
 refine wpAny_bind (wpAny_letGo (wpAny_pure (wpAny_bind (wpAny_bind (wpAny_onRaise ?_)))))
 show wpAny _ _ (Builtin.SmallTypes.nextOf (.ref i2)>>=_) _ _ _
 refine wpAny_bind (Zea (((hi2.extBut e1.extBut D.i2z).extBut e2.extBut D.i12.symm).extBut e3.extBut D.TOi2.symm) (((t2.extBut e1.extBut D.l2z).extBut e2.extBut D.l2i1).extBut e3.extBut D.l2TO) hy fun g4 j2 e4=>wpAny_pure ?_)
 have to4:IsPair g4 to x b:=e4.extBut _ _ D.TOi2 to3
 refine wpAny_bind (wpAny_seqItems to4 rfl (wpAny_bind (wpAny_updateSeq_pair to4 fun g5 to5 e5=>?_)))
 replace to5:IsPair g5 to x y:=to5
 refine wpAny_bind (wpAny_letGo (wpAny_pure (wpAny_pure (wpAny_bind (wpAny_seqItems to5 rfl (wpAny_bind (wpAny_newTuple ?_)))))))
 have sz:g5.objs.size=s.heap.objs.size:=by rw [e5.1,e4.1,e3.1,e2.1,e1.1]
 have z5:IsZip g5 z ti to .ellipsis:=e5.extBut _ _ D.TOz.symm (e4.extBut _ _ D.i2z.symm (e3.extBut _ _ D.TOz.symm (e2.extBut _ _ D.i1z.symm z1)))
 have k5:∀ c o,c≠z→c≠to→c≠i1→c≠i2→s.heap.get? c=some o→g5.get? c=some o:=fun c o c1 c2 c3 c4 e=>e5.extBut _ _ c2 (e4.extBut _ _ c4 (e3.extBut _ _ c2 (e2.extBut _ _ c3 (e1.extBut _ _ c1 e))))
 have j15:g5.IsListIter i1 l1 (k + 1):=((j1.extBut e3.extBut D.TOi1.symm).extBut e4.extBut D.i12).extBut e5.extBut D.TOi1.symm
 have j25:g5.IsTupleIter i2 l2 (k + 1):=j2.extBut e5.extBut D.TOi2.symm
 have zlt:z<g5.objs.size:=Heap.lt_size z5
 show wpAny _ _ (Builtin.SmallTypes.ownedTupleHandOut (.ref z) (.ref g5.objs.size)>>=_) _ _ _
 refine wpAny_bind ?_
 unfold Builtin.SmallTypes.ownedTupleHandOut
 have z6:IsZip (g5.push { cls:=.type "tuple",data:=.seq #[x,y] }) z ti to .ellipsis:=Heap.get?_push_of_some _ z5
 refine wpAny_bind (wpAny_setField_rec z6 (by simp) fun g7 z7 e7=>?_)
 replace z7:IsZip g7 z ti to (rawInt g5.objs.size):=z7
 refine wpAny_setField_rec z7 (by simp) fun g8 z8 e8=>?_
 replace z8:IsZip g8 z ti to (rawInt g5.objs.size):=z8
 have up:∀ c o,c≠z→g5.get? c=some o→g8.get? c=some o:=fun c o c1 e=>e8.extBut _ _ c1 (e7.extBut _ _ c1 (Heap.get?_push_of_some _ e))
 have p8:IsPair g8 g5.objs.size x y:=e8.extBut _ _ (Nat.ne_of_gt zlt) (e7.extBut _ _ (Nat.ne_of_gt zlt) (Heap.get?_push_size _ rfl))
 rw [sz] at z8 p8
 refine wpAny_pure ⟨_,rfl,?_⟩
 show Q (.ref g5.objs.size) _
 rw [sz]
 exact q g8 ⟨z8,up _ _ D.TIz (k5 _ _ D.TIz D.TITO D.TIi1 D.TIi2 hti),⟨x,y,up _ _ D.TOz to5⟩,j15.at fun o e=>up _ o D.i1z e,j25.at fun o e=>up _ o D.i2z e⟩ p8 fun c o c1 c2 c3 c4 e=>up c o c1 (k5 c o c1 c2 c3 c4 e)
theorem Zq0 {z ti to i1 i2 l1 l2:Addr}{k:Nat}{xs ys:Array Value}{Q:Fin→Shared→Prop}(hh:A.handled=none) (D:ZipApart z ti to i1 i2 l1 l2) (st:ZNt s.heap z ti to i1 i2 l1 l2 k .none)
  (t1:s.heap.IsList l1 xs) (t2:s.heap.IsTuple l2 ys) (hend:xs[k]?=none∨ys[k]?=none)
  (q:∀ g e,(∀ c o,c≠z→c≠to→c≠i1→c≠i2→s.heap.get? c=some o→g.get? c=some o)→(∃ o,g.get? e=some o∧o.cls=.type "StopIteration")→E (.ref e) { s with heap:=g }):
  wpAny (model prog w) A (Builtin.«zip.__next__» ⟨[.ref z],[]⟩) Q E s:=by
 obtain ⟨hz,hti,⟨a,b,hto⟩,hi1,hi2⟩:=st
 show wpAny _ _ (field (.ref z) 2>>=_) _ _ _
 refine wpAny_bind (wpAny_field hz rfl (x:=.bool false) rfl ?_)
 show wpAny _ _ (field (.ref z) 3>>=_) _ _ _
 refine wpAny_bind (wpAny_field hz rfl (x:=.ref ti) rfl (wpAny_bind (wpAny_seqItems hti rfl ?_)))
 show wpAny _ _ (Builtin.SmallTypes.ownedTupleIsFree (.ref z)>>=_) _ _ _
 refine wpAny_bind ?_
 unfold Builtin.SmallTypes.ownedTupleIsFree
 refine wpAny_bind (wpAny_field hz rfl (x:=.none) rfl (wpAny_pure ?_))
 simp only [if_true]
 refine wpAny_bind (wpAny_rule (wpAny_bind (wpAny_field hz rfl (x:=.ref to) rfl (wpAny_bind (wpAny_setField_rec hz (by simp) fun g1 z1 e1=>?_)))))
 replace z1:IsZip g1 z ti to .ellipsis:=z1
 refine wpAny_bind ?_
 simp only [List.zipIdx_cons,List.zipIdx_nil,List.forIn_cons,List.forIn_nil]
 refine wpAny_bind (wpAny_bind (wpAny_onRaise ?_))
 show wpAny _ _ (Builtin.SmallTypes.nextOf (.ref i1)>>=_) _ _ _
 cases hx:xs[k]? with
 | none =>
  refine wpAny_bind (wpAny_nextOf_list_end hh (hi1.extBut e1.extBut D.i1z) (t1.extBut e1.extBut D.l1z) hx fun g2 e e2 he=>?_)
  obtain ⟨oe,ho,hc⟩:=he
  have z2:IsZip g2 z ti to .ellipsis:=e2 _ _ D.i1z.symm z1
  have ez:e≠z:=fun x=>by subst x;rw [z2] at ho;cases ho;simp at hc
  exact wpAny_setField_rec z2 (by simp) fun g3 _ e3=>q g3 e (fun c o c1 _ c3 _ x=>e3.extBut _ _ c1 (e2 _ _ c3 (e1.extBut _ _ c1 x))) ⟨oe,e3.extBut _ _ ez ho,hc⟩
 | some x =>
  have hy:ys[k]?=none:=by rcases hend with h | h;rw [hx] at h;cases h;exact h
  refine wpAny_bind (wpAny_nextOf_list_item (hi1.extBut e1.extBut D.i1z) (t1.extBut e1.extBut D.l1z) hx fun g2 j1 e2=>wpAny_pure ?_)
  have to2:IsPair g2 to a b:=e2.extBut _ _ D.TOi1 (e1.extBut _ _ D.TOz hto)
  refine wpAny_bind (wpAny_seqItems to2 rfl (wpAny_bind (wpAny_updateSeq_pair to2 fun g3 to3 e3=>?_)))
  refine wpAny_bind (wpAny_letGo (wpAny_pure (wpAny_bind (wpAny_bind (wpAny_onRaise ?_)))))
  show wpAny _ _ (Builtin.SmallTypes.nextOf (.ref i2)>>=_) _ _ _
  refine wpAny_bind (Zeb hh (((hi2.extBut e1.extBut D.i2z).extBut e2.extBut D.i12.symm).extBut e3.extBut D.TOi2.symm) (((t2.extBut e1.extBut D.l2z).extBut e2.extBut D.l2i1).extBut e3.extBut D.l2TO) hy fun g4 e e4 he=>?_)
  obtain ⟨oe,ho,hc⟩:=he
  have z4:IsZip g4 z ti to .ellipsis:=e4 _ _ D.i2z.symm (e3.extBut _ _ D.TOz.symm (e2.extBut _ _ D.i1z.symm z1))
  have ez:e≠z:=fun x=>by subst x;rw [z4] at ho;cases ho;simp at hc
  exact wpAny_setField_rec z4 (by simp) fun g5 _ e5=>q g5 e (fun c o c1 c2 c3 c4 x=>e5.extBut _ _ c1 (e4 _ _ c4 (e3.extBut _ _ c2 (e2.extBut _ _ c3 (e1.extBut _ _ c1 x))))) ⟨oe,e5.extBut _ _ ez ho,hc⟩
theorem Zko {z ti to i1 i2 l1 l2:Addr}{k:Nat}{xs ys:Array Value}{x y:Value}{Q:Option Value→Shared→Prop}(D:ZipApart z ti to i1 i2 l1 l2) (st:ZNt s.heap z ti to i1 i2 l1 l2 k .none)
  (t1:s.heap.IsList l1 xs) (t2:s.heap.IsTuple l2 ys) (hx:xs[k]?=some x) (hy:ys[k]?=some y)
  (q:∀ g,ZNt g z ti to i1 i2 l1 l2 (k + 1) (rawInt s.heap.objs.size)→IsPair g s.heap.objs.size x y→(∀ c o,c≠z→c≠to→c≠i1→c≠i2→s.heap.get? c=some o→g.get? c=some o)→Q (some (.ref s.heap.objs.size)) { s with heap:=g }):
  wpAny (model prog w) A (pyNext (.ref z)) Q E s:=by
 have hT:s.TypeIs (.ref z) "zip":=⟨_,st.z,rfl⟩
 unfold pyNext
 exact wpAny_bind (wpAny_attempt (wpAny_callSpecial?_slot (name:=Str.ofString "__next__") hT PySem.F.slot_zip_next (wpAny_call_entry PySem.F.slot_zip_next hT PySem.F.entry_zip_next (Zqz D st t1 t2 hx hy fun g a1 a2 a3=>wpAny_pure (q g a1 a2 a3)) (PySem.F.args_zip_next_1 _))))
theorem Zkp {z ti to i1 i2 l1 l2:Addr}{k:Nat}{xs ys:Array Value}{Q:Option Value→Shared→Prop}(hh:A.handled=none) (D:ZipApart z ti to i1 i2 l1 l2) (st:ZNt s.heap z ti to i1 i2 l1 l2 k .none)
  (t1:s.heap.IsList l1 xs) (t2:s.heap.IsTuple l2 ys) (hend:xs[k]?=none∨ys[k]?=none)
  (q:∀ g,(∀ c o,c≠z→c≠to→c≠i1→c≠i2→s.heap.get? c=some o→g.get? c=some o)→Q none { s with heap:=g }):wpAny (model prog w) A (pyNext (.ref z)) Q E s:=by
 have hT:s.TypeIs (.ref z) "zip":=⟨_,st.z,rfl⟩
 unfold pyNext
 refine wpAny_bind (wpAny_attempt (wpAny_callSpecial?_slot (name:=Str.ofString "__next__") hT PySem.F.slot_zip_next (wpAny_call_entry PySem.F.slot_zip_next hT PySem.F.entry_zip_next (Zq0 hh D st t1 t2 hend fun g e hk he=>?_) (PySem.F.args_zip_next_1 _))))
 obtain ⟨o,ho,hc⟩:=he
 refine wpAny_bind (wpAny_isInstance (T:="StopIteration") (b:=true) ⟨o,ho,hc⟩ isSubtype_stop ?_)
 exact wpAny_pure (q _ hk)
abbrev zn1 (h:Heap) (l1:Addr):Heap:=h.push { cls:=.type "list_iterator",data:=.fields #[.ref l1,.int 0 0] }
abbrev zn2 (h:Heap) (l1 l2:Addr):Heap:=(zn1 h l1).push { cls:=.type "tuple_iterator",data:=.fields #[.ref l2,.int 0 0] }
abbrev zn3 (h:Heap) (l1 l2:Addr):Heap:=(zn2 h l1 l2).push { cls:=.type "tuple",data:=.seq #[.ref h.objs.size,.ref (zn1 h l1).objs.size] }
abbrev zn4 (h:Heap) (l1 l2:Addr):Heap:=(zn3 h l1 l2).push { cls:=.type "tuple",data:=.seq #[.none,.none] }
abbrev zn5 (h:Heap) (l1 l2:Addr):Heap:=(zn4 h l1 l2).push { cls:=.type "zip",data:=.fields #[.none,.bool false,.bool false,.ref (zn2 h l1 l2).objs.size,.ref (zn3 h l1 l2).objs.size] }
theorem Zp9 (l1 l2:Addr) (xs ys:Array Value):Meets (Builtin.«zip.__new__» ⟨[.type "zip",.ref l1,.ref l2],[]⟩) (fun _ R s=>s.heap.IsList l1 xs∧s.heap.IsTuple l2 ys ∧
   R (.ok (.ret (.ref (zn4 s.heap l1 l2).objs.size))) { s with heap:=zn5 s.heap l1 l2 }):=
 .of_wp fun prog w A R s h=>by
  obtain ⟨hp,g,d,tk,os⟩:=s
  obtain ⟨t1,t2,h⟩:=h
  have hsub:=sub_zip
  have T1:Heap.IsList (Shared.heap ⟨hp,g,d,tk,os⟩) l1 xs:=t1
  have T2:Heap.IsTuple (Shared.heap ⟨hp.push { cls:=.type "list_iterator",data:=.fields #[.ref l1,.int 0 0] },g,d,tk,os⟩) l2 ys:=t2.at fun o e=>Heap.get?_push_of_some _ e
  wp_walk using wpAny_pyIter_list T1,wpAny_pyIter_tuple T2
  exact ⟨_,rfl,h⟩
theorem Ztw {l1 l2:Addr}{xs ys:Array Value}{Q:Value→Shared→Prop} (t1:s.heap.IsList l1 xs) (t2:s.heap.IsTuple l2 ys)
  (q:∀ g,ZNt g (s.heap.objs.size + 4) (s.heap.objs.size + 2) (s.heap.objs.size + 3) s.heap.objs.size (s.heap.objs.size + 1) l1 l2 0 .none→(∀ c o,s.heap.get? c=some o→g.get? c=some o)→Q (.ref (s.heap.objs.size + 4)) { s with heap:=g }):
  wpAny (model prog w) A (call (.type "zip") [.ref l1,.ref l2]) Q E s:=by
 refine callType_new PySem.F.called_zip (by decide) (PySem.F.typeCall_zip_2 _ _) (PySem.F.newCall_zip_2 _ _) (fun obj=>PySem.F.args_object_init_3 obj _ _) PySem.F.entry_zip_new (Zp9 l1 l2 xs ys) ⟨t1,t2,?_⟩
 have n1:(zn1 s.heap l1).objs.size=s.heap.objs.size + 1:=Heap.size_push ..
 have n2:(zn2 s.heap l1 l2).objs.size=s.heap.objs.size + 2:=by rw [Heap.size_push,n1]
 have n3:(zn3 s.heap l1 l2).objs.size=s.heap.objs.size + 3:=by rw [Heap.size_push,n2]
 have n4:(zn4 s.heap l1 l2).objs.size=s.heap.objs.size + 4:=by rw [Heap.size_push,n3]
 have up:∀ {h:Heap} {a:Addr} {o:Obj} (x:Obj),h.get? a=some o→(h.push x).get? a=some o:=fun x e=>Heap.get?_push_of_some _ e
 have f5:(zn5 s.heap l1 l2).get? (zn4 s.heap l1 l2).objs.size=some _:=Heap.get?_push_size _ rfl
 have f4:(zn5 s.heap l1 l2).get? (zn3 s.heap l1 l2).objs.size=some _:=up _ (Heap.get?_push_size _ rfl)
 have f3:(zn5 s.heap l1 l2).get? (zn2 s.heap l1 l2).objs.size=some _:=up _ (up _ (Heap.get?_push_size _ rfl))
 have f2:(zn5 s.heap l1 l2).get? (zn1 s.heap l1).objs.size=some _:=up _ (up _ (up _ (Heap.get?_push_size _ rfl)))
 have f1:(zn5 s.heap l1 l2).get? s.heap.objs.size=some _:=up _ (up _ (up _ (up _ (Heap.get?_push_size _ rfl))))
 show _∧_
 rw [n2,n3,n4] at f5
 rw [n1,n2] at f3
 rw [n3] at f4
 rw [n1] at f2
 rw [n4]
 exact ⟨⟨_,f5,rfl⟩,q _ ⟨f5,f3,⟨_,_,f4⟩,⟨_,f1,rfl,rfl⟩,⟨_,f2,rfl,rfl⟩⟩ fun c o x=>up _ (up _ (up _ (up _ (up _ x))))⟩
end
theorem Zq5 {P:Program}{w:World}{K:PySem.W.Frag}{elts:List Expr}{x1}{pos:Pos}{xs ys:List V} (a b z ti to i1 i2:Addr) (D:ZipApart z ti to i1 i2 a b):
  Zod P w K (.Tuple elts x1 pos) (Itp (xs.zip ys) fun H=>SqL K H a xs∧SqT K H b ys) [z,ti,to,i1,i2] z (fun i h=>ZNt h z ti to i1 i2 a b i .none) where
 mem:=by simp
 obj:=fun i h st c hc=>by
  have hc':c=z∨c=ti∨c=to∨c=i1∨c=i2:=by simpa using hc
  obtain ⟨x,y,h3⟩:=st.to
  obtain ⟨o1,e1,_,d1⟩:=st.i1
  obtain ⟨o2,e2,_,d2⟩:=st.i2
  rcases hc' with rfl | rfl | rfl | rfl | rfl
  ·exact ⟨_,st.z,fun v q=>by cases q⟩
  ·exact ⟨_,st.ti,fun v q=>by cases q⟩
  ·exact ⟨_,h3,fun v q=>by cases q⟩
  ·exact ⟨_,e1,fun v q=>by rw [d1] at q;cases q⟩
  ·exact ⟨_,e2,fun v q=>by rw [d2] at q;cases q⟩
 keep:=fun i h h' st k=>st.at k
 item:=by
  intro X hP hw hK hc i pins s σ H E I hf st hg
  subst hP hw hK
  obtain ⟨hi,ha,hb⟩:=hg
  obtain ⟨p,hp⟩:∃ p,(xs.zip ys)[i]?=some p:=⟨(xs.zip ys)[i]'hi,List.getElem?_eq_getElem hi⟩
  obtain ⟨hx,hy⟩:=Zhy hp
  obtain ⟨its,rv,pa,_⟩:=I.list ha
  obtain ⟨jts,rw',pb,_⟩:=I.tuple hb
  obtain ⟨u,hu,ru⟩:=rv.get hx
  obtain ⟨v,hv,rv'⟩:=rw'.get hy
  refine Zko D st pa.isList (show s.heap.IsTuple b jts.toArray from pb) (by simpa using hu) (by simpa using hv) fun g st' hpr hk=>?_
  refine ⟨_,rfl,?_⟩
  refine wpAny_letOwnedTupleGo_zip (s:={ s with heap:=g }) st'.z fun g' z' sb=>?_
  have zlt:z<s.heap.objs.size:=Heap.lt_size st.z
  have nz:s.heap.objs.size≠z:=Nat.ne_of_gt zlt
  have sb':Heap.ExtBut z g g':=sb.extBut
  have hT:IsPair g' s.heap.objs.size u v:=sb' _ _ nz hpr
  have I1:Inv X pins σ (upd H s.heap.objs.size (.tup [p.1,p.2])) { s with heap:=g' }:=I.turnedNewL (t':=s.toks) (its:=[z,ti,to,i1,i2]) (fun c o hc e=>sb' c o (fun q=>hc (by simp [q])) (hk c o (fun q=>hc (by simp [q])) (fun q=>hc (by simp [q])) (fun q=>hc (by simp [q])) (fun q=>hc (by simp [q])) e)) hf (Nat.le_refl _)
   ⟨sL (by show 2≤100000;decide),[u,v],.cons ru (.cons rv' .nil),⟨_,hT,rfl,_,rfl⟩⟩
  have st2:ZNt g' z ti to i1 i2 a b (i + 1) .none:=by
   obtain ⟨a1,a2,a3⟩:=st'.to
   exact ⟨z',sb' _ _ D.TIz st'.ti,⟨a1,a2,sb' _ _ D.TOz a3⟩,st'.i1.extBut sb' D.i1z,st'.i2.extBut sb' D.i2z⟩
  refine ⟨.ref s.heap.objs.size,_,I1,rfl,⟨s.heap.objs.size,p,hp,I.hok.fresh (Nat.le_refl _),rfl,rfl⟩,st2,fun c hc=>?_⟩
  have lt:∀ c∈[z,ti,to,i1,i2],c<s.heap.objs.size:=fun c hc=>by
   have hc':c=z∨c=ti∨c=to∨c=i1∨c=i2:=by simpa using hc
   obtain ⟨a1,a2,a3⟩:=st.to
   obtain ⟨o1,e1,_⟩:=st.i1
   obtain ⟨o2,e2,_⟩:=st.i2
   rcases hc' with rfl | rfl | rfl | rfl | rfl
   ·exact zlt
   ·exact Heap.lt_size st.ti
   ·exact Heap.lt_size a3
   ·exact Heap.lt_size e1
   ·exact Heap.lt_size e2
  rw [Zac (Nat.ne_of_lt (lt c hc))]
  exact (hf c hc).1
 done:=by
  intro X hP hw hK hc i pins s σ H E I hf st hg
  subst hP hw hK
  obtain ⟨hi,ha,hb⟩:=hg
  obtain ⟨its,rv,pa,_⟩:=I.list ha
  obtain ⟨jts,rw',pb,_⟩:=I.tuple hb
  have l1:=rv.length
  have l2:=rw'.length
  have hend:its.toArray[i]?=none∨jts.toArray[i]?=none:=by
   rw [List.length_zip] at hi
   rcases Nat.le_total xs.length ys.length with h | h
   ·rw [Nat.min_eq_left h] at hi
    exact .inl (by simp;omega)
   ·rw [Nat.min_eq_right h] at hi
    exact .inr (by simp;omega)
  exact Zkp (I.ok.hd hc) D st pa.isList (show s.heap.IsTuple b jts.toArray from pb) hend fun g hk=>⟨rfl,I.turnedL (t':=s.toks) (its:=[z,ti,to,i1,i2]) (fun c o hc e=>hk c o (fun q=>hc (by simp [q])) (fun q=>hc (by simp [q])) (fun q=>hc (by simp [q])) (fun q=>hc (by simp [q])) e) hf⟩
 self:=fun A i s Q E st h=>wpAny_pyIter_zip st.z h
section
variable {X:Cx}
def Z16 (K:PySem.W.Frag) (ta:TA):TI:=fun σ H R=>ta σ H fun vs H1=>∃ (a b:Addr) (xs ys:List V),vs=[.ref a,.ref b]∧SqL K H1 a xs∧SqT K H1 b ys∧R (Itp (xs.zip ys) fun H=>SqL K H a xs∧SqT K H b ys) H1
theorem Zr8 {elts:List Expr}{x1}{tpos:Pos}{a b:Expr}{ta:TA}{p pos:Pos}(hg:Gl X "zip") (hm:X.mg "zip"=none) (ha:PA X [a,b] ta) (hs:starEach [a,b] X.env=[(false,eval a X.env),(false,eval b X.env)]:=by rfl) (hs2:starEach [b] X.env=[(false,eval b X.env)]:=by rfl):
  PI X (.Tuple elts x1 tpos) (.Call (.Name "zip" p) [a,b] [] pos) (Z16 X.K ta):=by
 intro pins s σ H R I h
 refine Call_ (Zg5 I hg hm boot_zip (PyProof.Rows.callWith_type1 (thn (ha pos pins s σ H _ I h) fun us s1 ⟨vs,H1,I1,r1,q1⟩=>?_) (by rw [hs,hs2]) (by rw [hs2];rfl)))
 obtain ⟨l1,l2,xs,ys,e,t1,t2,q⟩:=q1
 subst e
 cases r1 with
 | cons r rr =>
  cases rr with
  | cons r' rr =>
   cases rr
   obtain rfl:_=Value.ref l1:=r
   obtain rfl:_=Value.ref l2:=r'
   obtain ⟨its,rv,pa,_⟩:=I1.list t1
   obtain ⟨jts,rw',pb,_⟩:=I1.tuple t2
   have b1:s1.heap.IsList l1 its.toArray:=pa.isList
   have b2:s1.heap.IsTuple l2 jts.toArray:=pb
   have lt1:l1<s1.heap.objs.size:=let ⟨_,e,_⟩:=b1;Heap.lt_size e
   have lt2:l2<s1.heap.objs.size:=let ⟨_,e,_⟩:=b2;Heap.lt_size e
   refine Ztw b1 b2 fun g st hk=>wpAny_pyIter_zip (s:={ s1 with heap:=g }) st.z ?_
   have D:ZipApart (s1.heap.objs.size + 4) (s1.heap.objs.size + 2) (s1.heap.objs.size + 3) s1.heap.objs.size (s1.heap.objs.size + 1) l1 l2:=PySem.W.ktu_apart _ _ _ lt1 lt2
   refine ⟨_,[s1.heap.objs.size + 4,s1.heap.objs.size + 2,s1.heap.objs.size + 3,s1.heap.objs.size,s1.heap.objs.size + 1],_,_,H1,rfl,I1.kept (t':=s1.toks) fun b o e=>hk b o e,Zq5 l1 l2 _ _ _ _ _ D,st,fun c hc=>?_,q⟩
   have hc':c=s1.heap.objs.size + 4∨c=s1.heap.objs.size + 2∨c=s1.heap.objs.size + 3∨c=s1.heap.objs.size∨c=s1.heap.objs.size + 1:=by simpa using hc
   have ge:s1.heap.objs.size≤c:=by
    rcases hc' with rfl | rfl | rfl | rfl | rfl
    ·exact Nat.le_add_right _ _
    ·exact Nat.le_add_right _ _
    ·exact Nat.le_add_right _ _
    ·exact Nat.le_refl _
    ·exact Nat.le_add_right _ _
   exact I1.fpOk ge (I1.hok.fresh ge)
end
end L2
namespace K46
open PySem L2
def top (i:Nat):Stmt:=PySem.Challenge.pw_manydeeds_k46_walkers_judged.main.body.getD i (.Pass ⟨0,0,0,0⟩)
abbrev Zc1:Stmt:=top 15
abbrev Zbx:Stmt:=top 16
abbrev Zcb:Stmt:=top 17
abbrev Zbv:Stmt:=Zes (top 18) 0
abbrev Zci:Stmt:=Zes (top 18) 1
abbrev Zb3:Stmt:=Zes (top 18) 2
abbrev Zcj:Stmt:=Zes (top 18) 3
abbrev Zck:Stmt:=Zes (top 18) 4
abbrev Zbc:Stmt:=Zes (top 18) 5
abbrev Zcc:Stmt:=top 20
abbrev Zd6:Stmt:=top 21
abbrev Zdq:Stmt:=top 22
abbrev Zbf:Stmt:=top 23
abbrev Zbp:Stmt:=top 24
abbrev Zd9:Stmt:=top 25
abbrev Zd8:Stmt:=top 26
abbrev Zhp:Stmt:=top 27
abbrev Zdm:Stmt:=top 28
abbrev Zcy:Stmt:=top 30
abbrev Zc8:Stmt:=top 31
abbrev Zcx:Stmt:=top 32
abbrev Zdj:Stmt:=top 38
abbrev Zcs:Stmt:=top 39
abbrev Zc7:Stmt:=top 40
abbrev Zbo:Stmt:=top 41
abbrev Zdk:Stmt:=top 42
abbrev Zc6:Stmt:=top 43
abbrev Zc9:Stmt:=top 44
abbrev Zbu:Stmt:=Zes (top 45) 0
abbrev Zdb:Stmt:=Zes (top 45) 1
abbrev Zb0:Stmt:=Zes (top 45) 2
abbrev Zcg:Stmt:=Zes (top 45) 3
abbrev Zch:Stmt:=Zes (top 45) 6
abbrev Zdn:Stmt:=top 47
abbrev Za8:Stmt:=top 48
abbrev Zbh:Stmt:=top 49
abbrev Za7:Stmt:=top 50
abbrev Zct:Stmt:=top 51
abbrev Zcr:Stmt:=top 52
abbrev Zcl:Stmt:=top 53
abbrev Zcv:Stmt:=top 54
abbrev Zbq:Stmt:=top 55
abbrev Zb2:Stmt:=top 56
abbrev Zby:Stmt:=top 57
abbrev Zbg:Stmt:=top 58
abbrev Zda:Stmt:=top 59
abbrev Zcu:Stmt:=top 60
abbrev Zce:Stmt:=top 61
abbrev Zbz:Stmt:=top 62
abbrev Zbi:Stmt:=top 63
abbrev Zbl:Stmt:=top 64
abbrev Zax:Stmt:=top 65
abbrev Za1:Stmt:=top 66
abbrev Zcd:Stmt:=top 67
abbrev Zcf:Stmt:=top 68
abbrev Zgm:Stmt:=top 69
end K46
namespace K46
open PySem L2 Md
def Zze (K:PySem.W.Frag):Sp:=fun vs H Q _=>∃ (a:Addr) (k:Int) (ns:List Int),vs=[.ref a,.int k]∧SqL K H a (ns.map V.int)∧ns.length≤100∧0≤k∧k≤1000∧∀ p o,H p=none→Zm1 o→Q (.ref p) (upd H p o)
def Zgg:Sp:=fun vs H Q _=>∃ (p:Addr) (m:Int) (o:HO),vs=[.ref p,.int m]∧H p=some o∧Zm1 o∧0<m∧m<4611686018427387904∧∀ (v:Int) o',0≤v→v<m→Zm1 o'→Q (.int v) (upd H p o')
def Zli:Sp:=fun vs H Q _=>∃ n:Nat,vs=[.int n]∧n<26 ^ 8∧Q (.str (Zcz n)) H
section
variable {P:Program} {w:World} {K:PySem.W.Frag} {mg:Str→Option Value} {base:Heap}
theorem Zrw:Zap ["script","k","cell","rest"] ["script","k"] (Zab Zdn):=⟨rfl,rfl,rfl,by decide +kernel,rfl,by decide +kernel,by decide +kernel⟩
theorem Zt0:(10:Int) ^ (64:Int).toNat * 10 ^ (64:Int).toNat * 10 ^ (64:Int).toNat * 10 ^ (64:Int).toNat=10 ^ 256:=by decide +kernel
theorem Zz1 {f:Addr}{fd:FuncData}(F:Def K mg "_law_pot" Zdn ["script","k"] f fd) (len:mg "len"=none):Za3 P w K mg base CX0 1 f fd ["script","k"] (Zze K):=by
 refine F.fn.ok Zrw (fun vs H Q E h=>?_) (fun cdv A outer s H vs Q E hr h=>?_)
 ·obtain ⟨a,k,ns,rfl,_⟩:=h
  rfl
 ·obtain ⟨a,k,ns,rfl,hS,hl,hk0,hk1,q⟩:=h
  refine ⟨_,pS (Zag (i:=2) Zrw.nd rfl (Or.inl rfl) Zae)
   (Zep (Zbe (Zaq Zjc (pv 1) (Zan Zdy (by rfl) len PySem.boot_len (pC (pv 0) Zaa)) (Zaz _))
    (Zad (Zag (i:=2) Zrw.nd rfl (Or.inl rfl) (Zba Zfu (Za5 Zar (pv 0) (pv 1) (fun _ _=>rfl))
     (Zba Znf (Zba Znf (Zba Znf (Zba Zhs Zae Zae) (Zba Zhs Zae Zae)) (Zba Zhs Zae Zae)) (Zba Zhs Zae Zae))))) Zas)
   (pS (Zag (i:=3) Zrw.nd rfl (Or.inl rfl) Zae)
   (Zep (Zbe (Zaq Zzx (pv 2) (Zba Zhs Zae Zae) (Zaz _)) (Zad (Zag (i:=3) Zrw.nd rfl (Or.inl rfl) (pv 2))) Zas)
   (Zad (Zat (Zb9 (pC (pv 3) (pC (Zba Zfu (Zba Zjr (Zba Zdr (Zba Zdr (Zba Zfu (pv 2) Zae) (Zba Zjr Zae (pv 1))) Zae) Zae) Zae) Zaa)))))))),?_⟩
  refine ⟨fun σ' H'=>H'=H∧∃ c:Int,0≤c∧c<10 ^ 256∧σ'=[some (.ref a),some (.int k),some (.int c),none],?_,?_⟩
  ·refine ⟨_,rfl,_,rfl,_,_,rfl,.inl ⟨_,hS,rfl⟩,_,_,rfl,rfl,_,rfl,?_⟩
   refine Zdu (fun h1=>?_) (fun h1=>?_)
   ·have h1:k<((ns.map V.int).length:Int):=of_decide_eq_true h1
    rw [List.length_map] at h1
    have hi:k.toNat<ns.length:=by omega
    have hat:atI (ns.map V.int) k=some (V.int ns[k.toNat]):=by
     have e:(ns.map V.int)[k.toNat]?=some (V.int ns[k.toNat]):=by rw [List.getElem?_map,List.getElem?_eq_getElem hi];rfl
     have:=Zc0 e
     rwa [Int.toNat_of_nonneg hk0] at this
    refine ⟨_,rfl,_,rfl,_,_,_,_,rfl,rfl,hS,hat,_,_,rfl,rfl,⟨by decide,by decide,by decide +kernel⟩,_,_,rfl,rfl,⟨by decide,by decide,by decide +kernel⟩,_,_,rfl,rfl,⟨by decide +kernel,by decide +kernel⟩,
     _,_,rfl,rfl,⟨by decide,by decide,by decide +kernel⟩,_,_,rfl,rfl,⟨by decide +kernel,by decide +kernel⟩,_,_,rfl,rfl,⟨by decide,by decide,by decide +kernel⟩,_,_,rfl,rfl,⟨by decide +kernel,by decide +kernel⟩,_,_,rfl,rfl,?_,rfl,_,?_,?_,rfl⟩
    ·show (0:Int)<_
     rw [Zt0];decide +kernel
    ·rw [Zt0];exact Int.emod_nonneg _ (by decide +kernel)
    ·rw [Zt0];exact Int.emod_lt_of_pos _ (by decide +kernel)
   ·exact ⟨rfl,0,by decide,by decide +kernel,rfl⟩
  ·rintro σ' H' ⟨rfl,c,hc0,hc1,rfl⟩
   refine ⟨fun σ2 H2=>H2=H'∧∃ r:Int,0≤r∧r<10 ^ 256∧σ2=[some (.ref a),some (.int k),some (.int c),some (.int r)],?_,?_⟩
   ·refine ⟨_,rfl,_,_,rfl,rfl,⟨by decide,by decide,by decide +kernel⟩,_,_,rfl,rfl,_,rfl,?_⟩
    refine Zdu (fun h1=>?_) (fun h1=>?_)
    ·exact ⟨_,rfl,rfl,c,hc0,hc1,rfl⟩
    ·exact ⟨rfl,0,by decide,by decide +kernel,rfl⟩
   ·rintro σ2 H2 ⟨rfl,r,hr0,hr1,rfl⟩
    have m0:=Int.emod_nonneg c (b:=2147483629) (by decide)
    have m1:=Int.emod_lt_of_pos c (b:=2147483629) (by decide)
    refine ⟨_,rfl,_,rfl,_,_,rfl,rfl,(by show (0:Int)<2147483629;decide),_,rfl,_,_,rfl,rfl,.inl ⟨by decide,by decide⟩,_,_,rfl,rfl,_,_,rfl,rfl,_,_,rfl,rfl,.inr ⟨by decide,by decide⟩,_,_,rfl,rfl,(by show (0:Int)<2147483647;decide),sL (by show 2≤100000;decide),fun p hp=>?_⟩
    refine q p _ hp ⟨r,_,rfl,hr0,hr1,Int.emod_nonneg _ (by decide),Int.emod_lt_of_pos _ (by decide)⟩
theorem Zwb:Zap ["pot","many","found"] ["pot","many"] (Zab Za8):=⟨rfl,rfl,rfl,by decide +kernel,rfl,by decide +kernel,by decide +kernel⟩
theorem Ziq {f:Addr}{fd:FuncData}(F:Def K mg "_law_take" Za8 ["pot","many"] f fd):Za3 P w K mg base CX0 1 f fd ["pot","many"] Zgg:=by
 refine F.fn.ok Zwb (fun vs H Q E h=>?_) (fun cdv A outer s H vs Q E hr h=>?_)
 ·obtain ⟨p,m,o,rfl,_⟩:=h
  rfl
 ·obtain ⟨p,m,o,rfl,hp,⟨r,b,rfl,hr0,hr1,hb0,hb1⟩,hm0,hm1,q⟩:=h
  refine ⟨_,pS (Zbe (Zaq Zp0 (Za5 Zar (pv 0) Zae (fun _ _=>rfl)) Zae (Zaz _))
    (pS (Zag (i:=2) Zwb.nd rfl (Or.inl rfl) (Zba Zfu (Za5 Zar (pv 0) Zae (fun _ _=>rfl)) (pv 1)))
    (pS (Zhq (Zba Zuu (Za5 Zar (pv 0) Zae (fun _ _=>rfl)) (pv 1)) (Zlu (pv 0) Zae Zgw)) (Zad (Zat (pv 2))))) Zas)
   (pS (Zhq (Zba Zfu (Zba Zdr (Zba Zjr (Za5 Zar (pv 0) Zae (fun _ _=>rfl)) Zae) Zae) Zae) (Zlu (pv 0) Zae Zgw))
   (Zad (Zat (Zba Zfu (Zba Zng (Zba Zfu (Zba Zjr (Za5 Zar (pv 0) Zae (fun _ _=>rfl)) (Za5 Zar (pv 0) Zae (fun _ _=>rfl))) Zae) Zae) (pv 1))))),?_⟩
  refine ⟨_,rfl,p,_,_,_,rfl,rfl,SqL.of hp,rfl,_,_,rfl,rfl,_,rfl,?_⟩
  refine Zdu (fun h1=>?_) (fun h1=>?_)
  ·refine ⟨_,rfl,p,_,_,_,rfl,rfl,SqL.of hp,rfl,_,rfl,_,_,rfl,rfl,hm0,?_⟩
   refine ⟨_,rfl,p,_,_,_,rfl,rfl,SqL.of hp,rfl,_,rfl,_,_,rfl,rfl,⟨hm0,hm1⟩,?_⟩
   refine ⟨_,rfl,p,_,_,0,rfl,rfl,hp,rfl,_,rfl,?_⟩
   have h1:0<r:=of_decide_eq_true h1
   exact q _ _ (Int.emod_nonneg _ (by omega)) (Int.emod_lt_of_pos _ hm0) ⟨r / m,b,rfl,Int.ediv_nonneg hr0 (by omega),Int.lt_of_le_of_lt (Int.ediv_le_self _ hr0) hr1,hb0,hb1⟩
  ·refine ⟨_,rfl,p,_,_,_,rfl,rfl,SqL.of hp,rfl,_,_,rfl,rfl,.inr ⟨by decide,by decide⟩,_,_,rfl,rfl,_,_,rfl,rfl,(by show (0:Int)<2147483647;decide),?_⟩
   refine ⟨_,rfl,p,_,_,1,rfl,rfl,hp,rfl,?_⟩
   have m0:=Int.emod_nonneg (b * 69621 + 12345) (b:=2147483647) (by decide)
   have m1:=Int.emod_lt_of_pos (b * 69621 + 12345) (b:=2147483647) (by decide)
   refine ⟨_,rfl,p,_,_,_,rfl,rfl,SqL.of uS,rfl,_,rfl,p,_,_,_,rfl,rfl,SqL.of uS,rfl,_,_,rfl,rfl,.inl ⟨by omega,by omega⟩,_,_,rfl,rfl,(by show (0:Int)<2147483629;decide),_,_,rfl,rfl,⟨by decide,by decide⟩,_,rfl,_,_,rfl,rfl,hm0,?_⟩
   exact q _ _ (Int.emod_nonneg _ (by omega)) (Int.emod_lt_of_pos _ hm0) ⟨r,_,rfl,hr0,hr1,m0,m1⟩
theorem Zzk:Zap ["number","word"] ["number"] (Zab Zbh):=⟨rfl,rfl,rfl,by decide +kernel,rfl,by decide +kernel,by decide +kernel⟩
theorem Zp4 {f:Addr}{fd:FuncData}(F:Def K mg "_law_letters" Zbh ["number"] f fd):Za3 P w K mg base CX0 1 f fd ["number"] Zli:=by
 refine F.fn.ok Zzk (fun vs H Q E h=>?_) (fun cdv A outer s H vs Q E hr h=>?_)
 ·obtain ⟨n,rfl,_⟩:=h
  rfl
 ·obtain ⟨n,rfl,hn,q⟩:=h
  have nd:=Zzk.nd
  refine ⟨_,pS (Zag (i:=1) nd rfl (Or.inl rfl) Zey)
   (pS (Zgy PassesOwn.never (Zum (Zaq Zd1 (pv 1) Zey (Zaz _)) (Zot (Zaq Zp0 (pv 0) Zae (Zaz _)))).pt
    (pS (Zag (i:=1) nd rfl (Or.inl rfl) (Zba Zjs (pv 1) (Za5 Z0m Zey (Zba Zfu (pv 0) Zae) (fun _ _=>rfl))))
    (Zad (Zag (i:=0) nd rfl (Or.inl rfl) (Zba Zng (pv 0) Zae)))))
   (Zad (Zat (pv 1)))),?_⟩
  have e0:("":Str).cps.toList=[]:=by decide +kernel
  have hlen:(Zb1 n).length≤8:=Zfv 7 n hn
  refine ⟨fun m σ H2=>H2=H∧∃ (x:Str) (k:Nat),σ=[some (.int k),some (.str x)]∧m=k + (if x.cps.toList=[] then 1 else 0) ∧
   ((x.cps.toList=[]∧k=n)∨(x.cps.toList≠[]∧k=0∧x.cps.toList=Zb1 n)∨(x.cps.toList≠[]∧0<k∧x.cps.toList++Zb1 k=Zb1 n)),⟨_,rfl,_,n,rfl,rfl,.inl ⟨e0,rfl⟩⟩,?_⟩
  rintro m σ H2 ⟨rfl,x,k,rfl,rfl,inv⟩
  have more:(x.cps.toList=[]∨0<k)→∃ N:St→Hp→Prop,(∀ σ' H',N σ' H'→∃ m',m'<k + (if x.cps.toList=[] then 1 else 0)∧(H'=H2∧∃ (y:Str) (j:Nat),σ'=[some (.int j),some (.str y)]∧m'=j + (if y.cps.toList=[] then 1 else 0) ∧
    ((y.cps.toList=[]∧j=n)∨(y.cps.toList≠[]∧j=0∧y.cps.toList=Zb1 n)∨(y.cps.toList≠[]∧0<j∧y.cps.toList++Zb1 j=Zb1 n)))) ∧
    N [some (.int ((k:Int) / 26)),some (.str (x++⟨#[97 + k % 26]⟩))] H2:=fun hk=>by
   refine ⟨fun σ' H'=>σ'=[some (.int ((k:Int) / 26)),some (.str (x++⟨#[97 + k % 26]⟩))]∧H'=H2,?_,rfl,rfl⟩
   rintro σ' H' ⟨rfl,rfl⟩
   have el:(x++⟨#[97 + k % 26]⟩:Str).cps.toList=x.cps.toList++[97 + k % 26]:=Zpk _ _
   have ne:(x++⟨#[97 + k % 26]⟩:Str).cps.toList≠[]:=by rw [el];simp
   have kd:((k:Int) / 26)=((k / 26:Nat):Int):=by omega
   have whole:(x.cps.toList++[97 + k % 26])++(if k / 26=0 then [] else Zb1 (k / 26))=Zb1 n:=by
    rw [List.append_assoc,List.singleton_append,← Zd2]
    rcases inv with ⟨h1,h2⟩ | ⟨h1,h2,_⟩ | ⟨_,_,h3⟩
    ·rw [h1,h2];rfl
    ·rcases hk with z | z
     ·exact absurd z h1
     ·omega
    ·exact h3
   refine ⟨k / 26,?_,rfl,_,k / 26,by rw [kd],by rw [if_neg ne];rfl,?_⟩
   ·rcases hk with z | z
    ·rw [if_pos z];omega
    ·have:k / 26<k:=by omega
     omega
   ·right
    rw [el]
    by_cases z:k / 26=0
    ·rw [if_pos z,List.append_nil] at whole
     exact .inl ⟨by simp,z,whole⟩
    ·rw [if_neg z] at whole
     exact .inr ⟨by simp,by omega,whole⟩
  have xlen:x.length≤8:=by
   rw [← Zfq]
   rcases inv with ⟨h1,_⟩ | ⟨_,_,h3⟩ | ⟨_,_,h3⟩
   ·rw [h1];simp
   ·rw [h3];exact hlen
   ·have:=congrArg List.length h3
    rw [List.length_append] at this
    omega
  have at1:atI letters.cps.toList ((k:Int) % 26)=some (97 + k % 26):=by
   have:=Zc0 (Zqd (i:=k % 26) (by omega))
   have e:((k % 26:Nat):Int)=(k:Int) % 26:=by omega
   rwa [e] at this
  refine ⟨_,rfl,rfl,_,rfl,?_⟩
  refine Zdu (fun h1=>?_) (fun h1=>?_)
  ·have hx:x.cps.toList=[]:=by
    have:=of_decide_eq_true h1
    injection this with this
    rw [this];exact e0
   obtain ⟨N,hN,n0⟩:=more (.inl hx)
   refine Zqt ⟨N,hN,?_⟩
   exact ⟨_,rfl,_,rfl,_,_,rfl,rfl,(by show (0:Int)<26;decide),_,_,_,rfl,rfl,sL (by rw [← Zfq,Zga];decide),at1,_,_,rfl,rfl,sL (by rw [Zs4];omega),_,rfl,_,_,rfl,rfl,⟨by decide,by decide⟩,n0⟩
  ·have hx:x.cps.toList≠[]:=fun z=>h1 (decide_eq_true (by rw [Zrc (z.trans e0.symm)]))
   refine ⟨_,rfl,_,_,rfl,rfl,_,rfl,?_⟩
   refine Zdu (fun h2=>?_) (fun h2=>?_)
   ·have hk:0<k:=by have:(0:Int)<(k:Int):=of_decide_eq_true h2;omega
    obtain ⟨N,hN,n0⟩:=more (.inr hk)
    refine ⟨N,hN,?_⟩
    exact ⟨_,rfl,_,rfl,_,_,rfl,rfl,(by show (0:Int)<26;decide),_,_,_,rfl,rfl,sL (by rw [← Zfq,Zga];decide),at1,_,_,rfl,rfl,sL (by rw [Zs4];omega),_,rfl,_,_,rfl,rfl,⟨by decide,by decide⟩,n0⟩
   ·have hk:k=0:=by
     have:¬ (0:Int)<(k:Int):=fun z=>h2 (decide_eq_true z)
     omega
    have hf:x=Zcz n:=by
     refine Zrc ?_
     rw [Zfh]
     rcases inv with ⟨h1,_⟩ | ⟨_,_,h3⟩ | ⟨_,h2,_⟩
     ·exact absurd h1 hx
     ·exact h3
     ·omega
    rw [hf]
    exact ⟨_,rfl,q⟩
end
end K46
namespace K46
open PySem L2 Md
structure Zoc (ws:List Str):Prop where
 word:∀ x∈ws,Zb7 x=true
 nd:ws.Nodup
def Zv3:Sp:=fun vs H Q _=>∃ (p a:Addr) (ws:List Str),vs=[.ref p,.ref a]∧p≠a∧(∃ o,H p=some o∧Zm1 o)∧H a=some (.lst (ws.map V.str))∧Zoc ws∧ws.length≤24 ∧
 ∀ x H',Drawn p H H'→Zb7 x=true→x∉ws→Q (.str x) H'
def Zrd:Sp:=fun vs H Q _=>∃ (p:Addr) (m:Nat),vs=[.ref p,.int m]∧(∃ o,H p=some o∧Zm1 o)∧m≤24 ∧
 ∀ l (ws:List Str) H',Drawn p H H'→H l=none→H' l=some (.lst (ws.map V.str))→Zoc ws→ws.length=m→Q (.ref l) H'
def Zho:List Str:=["kind","under","name","deed","gives","with","none","clash","a","ab","abc","abcdefgh","even"]
theorem Zrr:Zho.all Zb7=true:=by decide +kernel
theorem Zoa {ws:List Str}{v:Int} (h0:0≤v) (h1:v<ws.length):∃ x,x∈ws∧atI (ws.map V.str) v=some (.str x):=by
 have hi:v.toNat<ws.length:=by omega
 have e:(ws.map V.str)[v.toNat]?=some (V.str ws[v.toNat]):=by rw [List.getElem?_map,List.getElem?_eq_getElem hi];rfl
 have:=Zc0 e
 rw [Int.toNat_of_nonneg h0] at this
 exact ⟨_,List.getElem_mem hi,this⟩
theorem Zjw (ws:List Str):(!dEq (.list (ws.map PySem.W.Dat.str)) (.list []))=true↔ws≠[]:=by
 cases ws with
 | nil=>simp [Zdv]
 | cons w r =>
  rw [Zfi (by simp)]
  simp
theorem Zss {ws:List Str}(h:∀ x∈ws,Zb7 x=true):PySem.W.kqdOk 9 (.list (ws.map PySem.W.Dat.str))=true:=by
 show (ws.map PySem.W.Dat.str).all (PySem.W.kqdOk 8)=true
 rw [List.all_eq_true]
 intro d hd
 obtain ⟨x,hx,e⟩:=List.mem_map.mp hd
 rw [← e]
 exact Zj7 (h x hx)
section
variable {P:Program} {w:World} {K:PySem.W.Frag} {mg:Str→Option Value} {base:Heap}
theorem Zwa:Zap ["pot","words","some","way","word","number"] ["pot","words"] (Zab Za7):=⟨rfl,rfl,rfl,by decide +kernel,rfl,by decide +kernel,by decide +kernel⟩
theorem Zij {x y:Str}{n:Nat}(hn:1≤n) (h:y.cps.toList=x.cps.toList.take n) (h1:1≤x.length) (h8:x.length≤8∨n≤8) (hl:∀ c∈x.cps.toList,Zkv c=true):Zb7 y=true:=by
 rw [Zd3,h,List.length_take,Zfq]
 refine ⟨⟨by omega,by omega⟩,fun c hc=>hl c (List.mem_of_mem_take hc)⟩
def Zm5:Expr→Option (List Str)
 | .Tuple es _ _=>Zoh es
 | _=>none
theorem Zur {X:Cx}{ws:List Str}:∀ {e:Expr},Zm5 e=some ws→PE X e (Z1c (fun _ H Q=>Q (ws.map V.str) H)):=by
 intro e h
 cases e with
 | Tuple es x p=>exact Zb8 (Zsg h)
 | _=>cases h
def Z0x:Stmt→Expr
 | .Assign _ e _=>e
 | _=>.Constant (.int 0) 0 ⟨0,0,0,0⟩
def hdS:List Stmt→Stmt
 | s :: _=>s
 | []=>.Pass ⟨0,0,0,0⟩
theorem e13:Zm5 (Z0x (hdS (Zai Za7)))=some Zho:=by decide +kernel
def t13:TE:=Z1c (fun _ H Q=>Q (Zho.map V.str) H)
theorem Zzv {X:Cx}{e:Expr}(h:Zm5 e=some Zho):PE X e t13:=Zur h
def Zx6:Expr→Bool
 | .Tuple _ _ _=>true
 | _=>false
theorem Zza {e:Expr}{t:Option Expr}{l:Nat}{env:Env}(h:Zx6 e=true):swapsWith e t l env=pure false:=by
 cases e with
 | Tuple es x p=>rfl
 | _=>cases h
def Z2j:Stmt→Option (Str×Expr)
 | .Assign [.Name x _] e _=>some (x,e)
 | _=>none
theorem Zxe {X:Cx}{st:Stmt}{i:Nat}{x:Str}{e:Expr}{te:TE}(h:Z2j st=some (x,e)) (he:PE X e te) (ht:Zx6 e=true) (hN:X.N.Nodup) (hi:X.N[i]?=some x) (hx:Loc X.env.scope x) (hf:X.fn x=true∨X.env.scope.names.lookup x=some .local):PS X st (Zuf te (Zet i)):=by
 unfold Z2j at h
 split at h
 ·next x' p' e' p =>
  have h1:x'=x:=congrArg Prod.fst (Option.some.inj h)
  have h2:e'=e:=congrArg Prod.snd (Option.some.inj h)
  subst h1
  subst h2
  exact Zag hN hi hx he (Zza ht) hf
 ·cases h
def s13:Stmt:=hdS (Zai Za7)
def Z0t:Expr:=Z0x s13
theorem a13:Z2j s13=some (("some":Str),Z0t):=by rfl
theorem u13:Zx6 Z0t=true:=by decide +kernel
theorem p13 {X:Cx}:PE X Z0t t13:=@Zzv X Z0t e13
theorem Z1w {X:Cx}(hN:X.N.Nodup) (hi:X.N[2]?=some ("some":Str)) (hx:Loc X.env.scope ("some":Str)) (hf:X.fn ("some":Str)=true∨X.env.scope.names.lookup ("some":Str)=some NameKind.local):PS X s13 (Zuf t13 (Zet 2)):=
 @Zxe X s13 2 ("some":Str) Z0t t13 a13 (@p13 X) u13 hN hi hx hf
def tlS:List Stmt→List Stmt
 | _ :: r=>r
 | []=>[]
theorem Zzr {X:Cx}{l:List Stmt}{t u:TS} (h0:l.isEmpty=false) (h1:PS X (hdS l) t) (h2:PSs X (tlS l) u):PSs X l (Zw0 t u):=by
 cases l with
 | nil=>cases h0
 | cons a r=>exact pS h1 h2
theorem n13:(Zai Za7).isEmpty=false:=by decide +kernel
theorem Zzs {X:Cx}{u:TS}(hN:X.N.Nodup) (hi:X.N[2]?=some ("some":Str)) (hx:Loc X.env.scope ("some":Str)) (hf:X.fn ("some":Str)=true∨X.env.scope.names.lookup ("some":Str)=some NameKind.local) (h2:PSs X (tlS (Zai Za7)) u):PSs X (Zai Za7) (Zw0 (Zuf t13 (Zet 2)) u):=
 @Zzr X (Zai Za7) (Zuf t13 (Zet 2)) u n13 (@Z1w X hN hi hx hf) h2
theorem Z2e {X:Cx}{D:Zt5}{σ:St}{H:Hp}(hN:X.N.Nodup) (hi:X.N[2]?=some ("some":Str)) (hx:Loc X.env.scope ("some":Str)) (hf:X.fn ("some":Str)=true∨X.env.scope.names.lookup ("some":Str)=some NameKind.local)
  (h:∃ u,PSs X (tlS (Zai Za7)) u∧Zw0 (Zuf t13 (Zet 2)) u D σ H):∃ t,PSs X (Zai Za7) t∧t D σ H:=by
 obtain ⟨u,h1,h2⟩:=h
 exact ⟨Zw0 (Zuf t13 (Zet 2)) u,@Zzs X u hN hi hx hf h1,h2⟩
theorem Zxn {f fT fL:Addr}{fd fdT fdL:FuncData}(F:Def K mg "_law_word" Za7 ["pot","words"] f fd) (DT:Def K mg "_law_take" Za8 ["pot","many"] fT fdT) (DL:Def K mg "_law_letters" Zbh ["number"] fL fdL) (len:mg "len"=none):
  Za3 P w K mg base CX0 2 f fd ["pot","words"] Zv3:=by
 have GT:Za3 P w K mg base CX0 1 fT fdT ["pot","many"] Zgg:=Ziq DT
 have GL:Za3 P w K mg base CX0 1 fL fdL ["number"] Zli:=Zp4 DL
 refine F.fn.ok Zwa (fun vs H Q E h=>?_) (fun cdv A outer s H vs Q E hr h=>?_)
 ·obtain ⟨p,a,ws,rfl,_⟩:=h
  rfl
 ·obtain ⟨p,a,ws,rfl,hpa,hpot,ha,hw,hl24,q⟩:=h
  have nd:=Zwa.nd
  have hu:=hr.units
  refine @Z2e _ _ _ _ nd rfl (Or.inl rfl) (Or.inl rfl) ?_
  refine ⟨_,(pS (Zag (i:=3) nd rfl (Or.inl rfl) (Zaf DT GT hr (pC (pv 0) (pC Zae Zaa))))
   (pS (Zag (i:=4) nd rfl (Or.inl rfl) (Za5 Zd0 (pv 2) (Zaf DT GT hr (pC (pv 0) (pC Zae Zaa))) (fun _ _=>rfl)))
   (Zep (Zbe (Zaq Zd1 (pv 3) Zae (Zaz _)) (Zad (Zag (i:=4) nd rfl (Or.inl rfl) (Zaf DL GL hr (pC (Zaf DT GT hr (pC (pv 0) (pC (Zba Zhr (Zba Zhs Zae Zae) Zae) Zaa))) Zaa)))) Zas)
   (Zep (Zbe (Zou (Zaq Zd1 (pv 3) Zae (Zaz _)) (Zkc (Zaq (Zox hu) (pv 1) (Zb9 Zaa) (Zaz _)))).pt
    (pS (Zag (i:=4) nd rfl (Or.inl rfl) (Za5 Zar (pv 1) (Zaf DT GT hr (pC (pv 0) (pC (Zan Zdy (by rfl) len PySem.boot_len (pC (pv 1) Zaa)) Zaa))) (fun _ _=>rfl)))
    (Zad (Zag (i:=4) nd rfl (Or.inl rfl) (Zkg Zv8 (Zba Zjs (pv 4) (Zaf DL GL hr (pC (Zaf DT GT hr (pC (pv 0) (pC Zae Zaa))) Zaa))) Zne (Znd Zae))))) Zas)
   (Zep (Zbe (Zou (Zaq Zd1 (pv 3) Zae (Zaz _)) (Zkc (Zaq (Zox hu) (pv 1) (Zb9 Zaa) (Zaz _)))).pt
    (pS (Zag (i:=4) nd rfl (Or.inl rfl) (Za5 Zar (pv 1) (Zaf DT GT hr (pC (pv 0) (pC (Zan Zdy (by rfl) len PySem.boot_len (pC (pv 1) Zaa)) Zaa))) (fun _ _=>rfl)))
    (Zad (Zag (i:=4) nd rfl (Or.inl rfl) (Zkg Zv8 (pv 4) Zne (Znd (Zba Zdr Zae (Zaf DT GT hr (pC (pv 0) (pC (Zan Zdy (by rfl) len PySem.boot_len (pC (pv 4) Zaa)) Zaa))))))))) Zas)
   (pS (Zag (i:=5) nd rfl (Or.inl rfl) Zae)
   (pS (Zgy PassesOwn.never (Zaq Zip (pv 4) (pv 1) (by with_unfolding_all rfl))
    (pS (Zag (i:=4) nd rfl (Or.inl rfl) (Zaf DL GL hr (pC (pv 5) Zaa)))
    (Zad (Zag (i:=5) nd rfl (Or.inl rfl) (Zba Zdr (pv 5) Zae)))))
   (Zad (Zat (pv 4)))))))))),?_⟩
  have hap:a≠p:=Ne.symm hpa
  obtain ⟨o0,hp0,ho0⟩:=hpot
  have wl:∀ {H':Hp},Drawn p H H'→SqL K H' a (ws.map V.str):=fun d=>SqL.of (d.keep _ _ hap ha)
  refine ⟨sL (by show 13≤100000;decide),fun t ht=>?_⟩
  have d1:Drawn p H (upd H t (.tup (Zho.map V.str))):=(Drawn.refl ⟨o0,hp0,ho0⟩).new ht
  have tp:t≠p:=fun e=>by rw [e,hp0] at ht;cases ht
  refine ⟨_,rfl,p,4,o0,rfl,(by rw [Zac (Ne.symm tp)];exact hp0),ho0,by decide,by decide,fun way o1 hw0 hw1 ho1=>?_⟩
  refine ⟨_,rfl,_,rfl,p,13,o1,rfl,uS,ho1,by decide,by decide,fun v o2 hv0 hv1 ho2=>?_⟩
  obtain ⟨x0,hx0,hat⟩:=Zoa (ws:=Zho) hv0 (by show v<13;exact hv1)
  refine ⟨t,Zho.map V.str,_,_,rfl,rfl,SqT.of (by rw [Zac tp,Zac tp];exact uS),hat,?_⟩
  have w0:Zb7 x0=true:=List.all_eq_true.mp Zrr x0 hx0
  have d3:Drawn p H (upd (upd (upd H t (.tup (Zho.map V.str))) p o1) p o2):=(d1.trans (Drawn.upd ho1)).trans (Drawn.upd ho2)
  refine ⟨fun σ' H'=>∃ x:Str,σ'=[some (.ref p),some (.ref a),some (.ref t),some (.int way),some (.str x),none]∧Zb7 x=true∧Drawn p H H',?_,?_⟩
  ·refine ⟨_,rfl,rfl,_,rfl,?_⟩
   refine Zdu (fun _=>?_) (fun _=>?_)
   ·obtain ⟨o3,hp3,ho3⟩:=d3.pot
    refine ⟨_,rfl,_,_,rfl,rfl,⟨by decide,by decide,by decide +kernel⟩,_,_,rfl,rfl,p,_,o3,rfl,hp3,ho3,by decide,by decide,fun v o4 hv0 hv1 ho4=>?_⟩
    have hv1:v<208827064550:=hv1
    refine ⟨v.toNat,by rw [Int.toNat_of_nonneg hv0];rfl,by omega,_,rfl,Zfg (by omega),d3.trans (Drawn.upd ho4)⟩
   ·exact ⟨x0,rfl,w0,d3⟩
  ·rintro σ' H1 ⟨x1,rfl,w1,d4⟩
   refine ⟨fun σ' H'=>∃ x:Str,σ'=[some (.ref p),some (.ref a),some (.ref t),some (.int way),some (.str x),none]∧Zb7 x=true∧Drawn p H H',?_,?_⟩
   ·refine ⟨_,rfl,rfl,_,rfl,?_⟩
    refine Zdu (fun _=>?_) (fun _=>Zht ⟨x1,rfl,w1,d4⟩)
    refine ⟨_,rfl,Nat.zero_le _,fun t2 ht2=>⟨.list (ws.map PySem.W.Dat.str),.list [],.list ((wl d4).mono_new ht2) (Zfs ws),.list (SqL.of uS) .nil,Zss hw.word,rfl,_,rfl,?_⟩⟩
    have d5:Drawn p H (upd H1 t2 (.lst [])):=d4.new ht2
    refine Zdu (fun hne=>?_) (fun _=>⟨x1,rfl,w1,d5⟩)
    have hne:ws≠[]:=(Zjw ws).mp hne
    have hpos:0<ws.length:=List.length_pos_iff.mpr hne
    obtain ⟨o5,hp5,ho5⟩:=d5.pot
    refine ⟨_,rfl,_,rfl,_,rfl,_,_,rfl,.inl ⟨_,wl d5,rfl⟩,p,_,o5,rfl,hp5,ho5,by rw [List.length_map];omega,by rw [List.length_map];omega,fun v o6 hv0 hv1 ho6=>?_⟩
    rw [List.length_map] at hv1
    obtain ⟨x2,hx2,hat2⟩:=Zoa (ws:=ws) hv0 hv1
    have d6:Drawn p H (upd (upd H1 t2 (.lst [])) p o6):=d5.trans (Drawn.upd ho6)
    have w2:Zb7 x2=true:=hw.word x2 hx2
    refine ⟨a,ws.map V.str,_,_,rfl,rfl,wl d6,hat2,?_⟩
    refine ⟨_,rfl,_,rfl,p,26,o6,rfl,uS,ho6,by decide,by decide,fun v o7 hv0 hv1 ho7=>?_⟩
    refine ⟨v.toNat,by rw [Int.toNat_of_nonneg hv0];rfl,by omega,?_⟩
    have wl3:Zb7 (Zcz v.toNat)=true:=Zfg (by omega)
    have l2:=Zhz w2
    have l3:=Zhz wl3
    refine ⟨_,_,rfl,rfl,sL (by omega),_,rfl,_,rfl,sL (by rw [Zs5];omega),?_⟩
    refine ⟨_,rfl,?_,d6.trans (Drawn.upd ho7)⟩
    refine Zij (x:=x2++Zcz v.toNat) (n:=8) (by decide) (Zjn _ 8 (by decide)) (by rw [Zs5];omega) (.inr (Nat.le_refl _)) fun c hc=>?_
    rw [Zpk] at hc
    rcases List.mem_append.mp hc with hc | hc
    ·exact ((Zd3 x2).mp w2).2 c hc
    ·exact ((Zd3 _).mp wl3).2 c hc
   ·rintro σ' H2 ⟨x2,rfl,w2,d5⟩
    refine ⟨fun σ' H'=>∃ x:Str,σ'=[some (.ref p),some (.ref a),some (.ref t),some (.int way),some (.str x),none]∧Zb7 x=true∧Drawn p H H',?_,?_⟩
    ·refine ⟨_,rfl,rfl,_,rfl,?_⟩
     refine Zdu (fun _=>?_) (fun _=>Zht ⟨x2,rfl,w2,d5⟩)
     refine ⟨_,rfl,Nat.zero_le _,fun t2 ht2=>⟨.list (ws.map PySem.W.Dat.str),.list [],.list ((wl d5).mono_new ht2) (Zfs ws),.list (SqL.of uS) .nil,Zss hw.word,rfl,_,rfl,?_⟩⟩
     have d6:Drawn p H (upd H2 t2 (.lst [])):=d5.new ht2
     refine Zdu (fun hne=>?_) (fun _=>⟨x2,rfl,w2,d6⟩)
     have hne:ws≠[]:=(Zjw ws).mp hne
     have hpos:0<ws.length:=List.length_pos_iff.mpr hne
     obtain ⟨o6,hp6,ho6⟩:=d6.pot
     refine ⟨_,rfl,_,rfl,_,rfl,_,_,rfl,.inl ⟨_,wl d6,rfl⟩,p,_,o6,rfl,hp6,ho6,by rw [List.length_map];omega,by rw [List.length_map];omega,fun v o7 hv0 hv1 ho7=>?_⟩
     rw [List.length_map] at hv1
     obtain ⟨x3,hx3,hat3⟩:=Zoa (ws:=ws) hv0 hv1
     have d7:Drawn p H (upd (upd H2 t2 (.lst [])) p o7):=d6.trans (Drawn.upd ho7)
     have w3:Zb7 x3=true:=hw.word x3 hx3
     have l3:=Zhz w3
     refine ⟨a,ws.map V.str,_,_,rfl,rfl,wl d7,hat3,?_⟩
     refine ⟨_,rfl,_,rfl,_,rfl,_,_,rfl,⟨sL (by omega),rfl⟩,p,_,o7,rfl,uS,ho7,by omega,by omega,fun v o8 hv0 hv1 ho8=>?_⟩
     refine ⟨_,_,rfl,rfl,_,rfl,_,rfl,sL (by omega),?_⟩
     refine ⟨_,rfl,?_,d7.trans (Drawn.upd ho8)⟩
     exact Zij (x:=x3) (n:=(1 + v).toNat) (by omega) (Zjn _ (1 + v) (by omega)) (by omega) (.inl (by omega)) ((Zd3 x3).mp w3).2
    ·rintro σ' H3 ⟨x3,rfl,w3,d6⟩
     refine ⟨fun m σ H'=>∃ (x:Str) (n:Nat),σ=[some (.ref p),some (.ref a),some (.ref t),some (.int way),some (.str x),some (.int n)]∧Zb7 x=true∧Drawn p H H'∧m=ws.length + 1 - n∧n≤ws.length + 1 ∧
      (n=0∨x=Zcz (n - 1))∧∀ j,j + 1<n→Zcz j∈ws,⟨_,x3,0,rfl,w3,d6,rfl,by omega,.inl rfl,fun j hj=>by omega⟩,?_⟩
     rintro m σ H4 ⟨x,n,rfl,wx,dx,rfl,hn,hxn,hall⟩
     refine ⟨_,rfl,_,rfl,a,_,rfl,.inl (wl dx),rfl,Zg8 ws,_,rfl,?_⟩
     show if inV (.str x) (ws.map V.str)=true then _ else _
     rw [Zi4]
     refine Zdu (fun hin=>?_) (fun hin=>?_)
     ·have hin:x∈ws:=of_decide_eq_true hin
      have all:∀ j,j<n→Zcz j∈ws:=fun j hj=>by
       by_cases z:j + 1<n
       ·exact hall j z
       ·rcases hxn with e | e
        ·omega
        ·have:j=n - 1:=by omega
         rw [this,← e];exact hin
      have hle:n≤ws.length:=by
       have:=Graph.nodup_le (l:=(List.range n).map Zcz) (k:=ws) ?_ ?_
       ·simpa using this
       ·rw [List.nodup_iff_pairwise_ne,List.pairwise_map]
        exact (List.nodup_iff_pairwise_ne.mp List.nodup_range).imp fun h e=>h (Zmf e)
       ·intro y hy
        obtain ⟨j,hj,e⟩:=List.mem_map.mp hy
        rw [← e]
        exact all j (List.mem_range.mp hj)
      refine ⟨fun σ' H'=>σ'=[some (.ref p),some (.ref a),some (.ref t),some (.int way),some (.str (Zcz n)),some (.int ((n:Int) + 1))]∧H'=H4,?_,?_⟩
      ·rintro σ' H' ⟨rfl,rfl⟩
       exact ⟨ws.length + 1 - (n + 1),by omega,Zcz n,n + 1,rfl,Zfg (by omega),dx,rfl,by omega,.inr rfl,fun j hj=>all j (by omega)⟩
      ·exact ⟨_,rfl,n,rfl,by omega,_,rfl,_,_,rfl,rfl,rfl,rfl⟩
     ·have hin:x∉ws:=fun z=>hin (decide_eq_true z)
      exact ⟨_,rfl,q x H4 dx wx hin⟩
theorem Zrv:Zap ["pot","many","words","k"] ["pot","many"] (Zab Zct):=⟨rfl,rfl,rfl,by decide +kernel,rfl,by decide +kernel,by decide +kernel⟩
theorem Zuv {f fW fT fL:Addr}{fd fdW fdT fdL:FuncData}(F:Def K mg "_law_words" Zct ["pot","many"] f fd) (DW:Def K mg "_law_word" Za7 ["pot","words"] fW fdW) (DT:Def K mg "_law_take" Za8 ["pot","many"] fT fdT) (DL:Def K mg "_law_letters" Zbh ["number"] fL fdL) (len:mg "len"=none) (range:mg "range"=none):
  Za3 P w K mg base CX0 3 f fd ["pot","many"] Zrd:=by
 have GW:Za3 P w K mg base CX0 2 fW fdW ["pot","words"] Zv3:=Zxn DW DT DL len
 refine F.fn.ok Zrv (fun vs H Q E h=>?_) (fun cdv A outer s H vs Q E hr h=>?_)
 ·obtain ⟨p,m,rfl,_⟩:=h
  rfl
 ·obtain ⟨p,m,rfl,⟨o0,hp0,ho0⟩,hm,q⟩:=h
  have nd:=Zrv.nd
  refine ⟨_,pS (Zag (i:=2) nd rfl (Or.inl rfl) (Zb9 Zaa))
   (pS (Zbw PassesOwn.never rfl (Zb5 rfl range (pC (pv 1) Zaa)) (Zah (i:=3) nd rfl (Or.inl rfl))
    (Zad (Za9 (Zej PySem.F.plainAttrs_list PySem.F.slot_list_append PySem.F.type_list_append Zb6 (pv 2) (pC (Zaf DW GW hr (pC (pv 0) (pC (pv 2) Zaa))) Zaa)))))
   (Zad (Zat (pv 2)))),?_⟩
  refine ⟨Nat.zero_le _,fun l hl=>?_⟩
  have lp:p≠l:=nNo hp0 hl
  refine ⟨_,rfl,m,rfl,by omega,by omega,Za6 Zbm (fun i σ H'=>∃ (ws:List Str) (kv:Option V),σ=[some (.ref p),some (.int m),some (.ref l),kv]∧Drawn p H H'∧H' l=some (.lst (ws.map V.str))∧Zoc ws∧ws.length=i)
   ⟨[],none,rfl,(Drawn.refl ⟨o0,hp0,ho0⟩).new hl,uS,⟨(fun _ h=>nomatch h),List.nodup_nil⟩,rfl⟩ (fun _ _ _ _ _=>trivial) ?_ ?_⟩
  ·rintro i v σ H' hi ⟨ws,kv,rfl,d,hw,ok,rfl⟩
   obtain ⟨hi,rfl⟩:=Za4 hi
   refine ⟨_,rfl,.inl ⟨rfl,_,SqL.of hw⟩,_,rfl,_,rfl,p,l,ws,rfl,lp,d.pot,hw,ok,by omega,fun x H2 d2 wx nx=>?_⟩
   have hw2:H2 l=some (.lst (ws.map V.str)):=d2.keep _ _ (Ne.symm lp) hw
   refine ⟨l,_,_,rfl,rfl,hw2,Za2 (by rw [List.length_map];omega),?_⟩
   refine ⟨ws++[x],_,rfl,?_,by rw [uS,List.map_append];rfl,⟨fun y hy=>?_,?_⟩,by simp⟩
   ·refine (d.trans d2).sub (q:=l) (o':=.lst []) (fun b o hb e=>by rw [Zac hb];exact e) hl lp
   ·rcases List.mem_append.mp hy with hy | hy
    ·exact ok.word y hy
    ·rw [List.mem_singleton.mp hy];exact wx
   ·rw [List.nodup_append]
    exact ⟨ok.nd,by simp,fun a ha b hb e=>nx (by rw [← List.mem_singleton.mp hb,← e];exact ha)⟩
  ·rintro σ H' ⟨ws,kv,rfl,d,hw,ok,hlen⟩
   rw [Zau] at hlen
   exact ⟨_,rfl,q l ws H' d hl hw ok (by simpa using hlen)⟩
end
end K46
namespace K46
open PySem L2 Md
def Zd4 (js:List Nat):List V:=js.map fun (j:Nat)=>V.int (j:Int)
structure Z00 (k:Nat) (js:List Nat):Prop where
 below:∀ j∈js,j<k
 nd:js.Nodup
 few:js.length≤8
def Zzc:Sp:=fun vs H Q _=>∃ (p:Addr) (k sh:Nat),vs=[.ref p,.int k,.int sh]∧(∃ o,H p=some o∧Zm1 o)∧k≤24 ∧
 ∀ l (js:List Nat) H',Drawn p H H'→H' l=some (.lst (Zd4 js))→Z00 k js→Q (.ref l) H'
section
variable {P:Program} {w:World} {K:PySem.W.Frag} {mg:Str→Option Value} {base:Heap}
structure Z5e (mg:Str→Option Value):Prop where
 range:mg "range"=none
 int:mg "int"=none
theorem Zzi:Zap ["pot","k","shape","one","other","bits"] ["pot","k","shape"] (Zab Zcr):=⟨rfl,rfl,rfl,by decide +kernel,rfl,by decide +kernel,by decide +kernel⟩
abbrev Z14:List Str:=["pot","k","shape","one","other","bits"]
theorem Z3o:(["j"]:List Str).Nodup:=by decide +kernel
theorem Z12:(["j","bits"]:List Str).Nodup:=by decide +kernel
def okJ (v:V):Bool:=match v with | .int i=>decide (0≤i) | _=>false
def Zqk:List V:=[.int 1,.int 2,.int 4,.int 8,.int 16,.int 32,.int 64,.int 128]
def Z08 (bits:Int) (v:V):Bool:=match v with
 | .int j=>decide (j<8)&&(match atI Zqk j with | some (.int e)=>decide (bits / e % 2=1) | _=>false)
 | _=>false
theorem Zvt {j:Int} (h0:0≤j) (h1:j<8):∃ e:Int,atI Zqk j=some (.int e)∧0<e∧e<1000:=by
 have:∀ i:_root_.Fin 8,∃ e:Int,atI Zqk (i.1:Int)=some (.int e)∧0<e∧e<1000:=by
  intro i
  match i with
  | ⟨0,_⟩=>exact ⟨1,rfl,by decide,by decide⟩
  | ⟨1,_⟩=>exact ⟨2,rfl,by decide,by decide⟩
  | ⟨2,_⟩=>exact ⟨4,rfl,by decide,by decide⟩
  | ⟨3,_⟩=>exact ⟨8,rfl,by decide,by decide⟩
  | ⟨4,_⟩=>exact ⟨16,rfl,by decide,by decide⟩
  | ⟨5,_⟩=>exact ⟨32,rfl,by decide,by decide⟩
  | ⟨6,_⟩=>exact ⟨64,rfl,by decide,by decide⟩
  | ⟨7,_⟩=>exact ⟨128,rfl,by decide,by decide⟩
 have q:=this ⟨j.toNat,by omega⟩
 rwa [Int.toNat_of_nonneg h0] at q
theorem Zqi (k:Nat) (p:V→Bool):∃ js:List Nat,(Zdg 0 k).filter p=Zd4 js∧(∀ j∈js,j<k∧p (.int (j:Int))=true)∧js.Nodup:=by
 refine ⟨(List.range k).filter fun j=>p (.int (j:Int)),?_,fun j hj=>?_,List.nodup_range.filter _⟩
 ·unfold Zdg Zd4
  rw [List.filter_map]
  have e:((fun (j:Nat)=>V.int (0 + (j:Int))))=fun (j:Nat)=>V.int (j:Int):=by
   funext j
   rw [Int.zero_add]
  rw [e]
  rfl
 ·obtain ⟨h1,h2⟩:=List.mem_filter.mp hj
  exact ⟨List.mem_range.mp h1,h2⟩
theorem Zim:∀ {xs ys:List V},Paired (fun x v=>v=x) xs ys→ys=xs
 | _,_,.nil=>rfl
 | _,_,.cons h t=>by rw [h,Zim t]
theorem Zzz {f fT:Addr}{fd fdT:FuncData}(F:Def K mg "_law_ups" Zcr ["pot","k","shape"] f fd) (DT:Def K mg "_law_take" Za8 ["pot","many"] fT fdT) (T:Z5e mg):Za3 P w K mg base CX0 2 f fd ["pot","k","shape"] Zzc:=by
 have GT:Za3 P w K mg base CX0 1 fT fdT ["pot","many"] Zgg:=Ziq DT
 refine F.fn.ok Zzi (fun vs H Q E h=>?_) (fun cdv A outer s H vs Q E hr h=>?_)
 ·obtain ⟨p,k,sh,rfl,_⟩:=h
  rfl
 ·obtain ⟨p,k,sh,rfl,⟨o0,hp0,ho0⟩,hk,q⟩:=h
  have nd:=Zzi.nd
  refine ⟨_,pS (Zbe (Zaq Zd1 (pv 1) Zae (Zaz _)) (Zad (Zat (Zb9 Zaa))) Zas)
   (pS (Zag (i:=3) nd rfl (Or.inl rfl) (Zaf DT GT hr (pC (pv 0) (pC (pv 1) Zaa))))
   (pS (Zag (i:=4) nd rfl (Or.inl rfl) (Zaf DT GT hr (pC (pv 0) (pC (pv 1) Zaa))))
   (pS (Zbe (Zaq Zd1 (pv 2) Zae (Zaz _)) (Zad (Zat (Zb9 (pC (pv 3) Zaa)))) Zas)
   (pS (Zbe (Zaq Zd1 (pv 2) Zae (Zaz _)) (Zad (Zat (Zkg Zw6
     (Zbr ["j"] [] [] (fun _=>Za0 (osc:=Zab Zcr) (on:=Z14) (by decide +kernel) rfl rfl rfl) (Zik (Zb8 (pC (pv 3) (pC (pv 4) Zaa)))) (fun C s H fp=>Zah (i:=0) Z3o rfl (Or.inl rfl) (Or.inr rfl)) (fun C s H fp=>Zbn) (fun C s H fp=>pv 0))
     Zne (Znd (Zba Zdr Zae (Zc2 Ztx (by rfl) T.int PyProof.Rows.boot_int (pC (Zft Zpz (pv 3) (pv 4) (Zaz _)) Zaa))))))) Zas)
   (pS (Zbe (Zaq Zd1 (pv 2) Zae (Zaz _)) (Zad (Zat
     (Zbr ["j"] [] [] (fun _=>Za0 (osc:=Zab Zcr) (on:=Z14) (by decide +kernel) rfl rfl rfl) (Zik (Zb8 (pC (Zba Zhr (Zba Zhr (pv 1) Zae) (Zba Zfu (pv 1) Zae)) (pC (Zba Zhr (Zba Zhr (pv 1) Zae) (Zba Zfu (pv 1) Zae)) Zaa)))) (fun C s H fp=>Zah (i:=0) Z3o rfl (Or.inl rfl) (Or.inr rfl))
      (fun C s H fp=>Zhh (Zaq Zzx (pv 0) Zae (Zaz _))) (fun C s H fp=>pv 0)))) Zas)
   (pS (Zbe (Zaq Zd1 (pv 2) Zae (Zaz _)) (Zad (Zat (Zb9 (pC (Zba Zhr (pv 1) Zae) Zaa)))) Zas)
   (pS (Zag (i:=5) nd rfl (Or.inr rfl) (Zaf DT GT hr (pC (pv 0) (pC Zae Zaa))))
   (Zad (Zat (Zbr ["j"] ["bits"] [5] (fun _=>Za0 (osc:=Zab Zcr) (on:=Z14) (by decide +kernel) rfl rfl rfl) (Zb5 rfl T.range (pC (pv 1) Zaa)) (fun C s H fp=>Zah (i:=0) Z12 rfl (Or.inl rfl) (Or.inr rfl))
    (fun C s H fp=>Zhh (PW.pt (Zou (Zaq Zjc (pv 0) Zae (Zaz _)) (Zkc (Zaq Zd1 (Zba Zfu (Zba Zng (pv 1) (Za5 (r:=Zlr K) Zd0 (Zb8 (pC Zae (pC Zae (pC Zae (pC Zae (pC Zae (pC Zae (pC Zae (pC Zae Zaa))))))))) (pv 0) (fun _ _=>rfl))) Zae) Zae (Zaz _)))))) (fun C s H fp=>pv 0))))))))))),?_⟩
  have dr:Drawn p H H:=Drawn.refl ⟨o0,hp0,ho0⟩
  refine ⟨_,rfl,rfl,_,rfl,?_⟩
  refine Zdu (fun h0=>?_) (fun h0=>?_)
  ·exact ⟨Nat.zero_le _,fun l hl=>q l [] _ (dr.new hl) uS ⟨(fun _ h=>nomatch h),List.nodup_nil,Nat.zero_le _⟩⟩
  have hk0:0<k:=by
   refine Nat.pos_of_ne_zero fun z=>h0 (decide_eq_true ?_)
   rw [z]
   rfl
  refine ⟨_,rfl,_,rfl,p,k,o0,rfl,hp0,ho0,by omega,by omega,fun one o1 h10 h11 ho1=>?_⟩
  refine ⟨_,rfl,_,rfl,p,k,o1,rfl,uS,ho1,by omega,by omega,fun oth o2 h20 h21 ho2=>?_⟩
  rw [Zhf]
  have d2:Drawn p H (upd H p o2):=Drawn.upd ho2
  refine ⟨_,rfl,rfl,_,rfl,?_⟩
  refine Zdu (fun _=>?_) (fun _=>?_)
  ·refine ⟨_,rfl,sL (by show 1≤100000;decide),fun l hl=>q l [one.toNat] _ (d2.new hl) ?_ ⟨fun j hj=>?_,by simp,by simp⟩⟩
   ·rw [uS]
    show some (HO.lst [V.int one])=some (HO.lst [V.int ((one.toNat:Nat):Int)])
    rw [Int.toNat_of_nonneg h10]
   ·rw [List.mem_singleton.mp hj];omega
  refine ⟨_,rfl,rfl,_,rfl,?_⟩
  refine Zdu (fun _=>?_) (fun _=>?_)
  ·-- [j for j in (one,other)][:1 + int(one != other)]
   refine ⟨_,rfl,_,rfl,sL (by show 2≤100000;decide),fun t ht=>⟨t,rfl,⟨_,SqT.of uS⟩,Ze9 (Zfc (xs:=[V.int one,V.int oth])) (sL (by show 2≤100000;decide)) (fun _=>true) (fun v=>v) (fun D ys hD=>SqT.of (by rw [Zac (nNo uS hD)];exact uS)) ?_ ?_ ?_⟩⟩
   ·intro D ys x R _ _ hR
    exact hR
   ·intro D ys x R _ _ _ hR
    exact ⟨_,rfl,hR⟩
   ·intro D hD
    have e2:([V.int one,V.int oth].filter fun _=>true).map (fun v=>v)=[V.int one,V.int oth]:=rfl
    rw [e2]
    have d4:Drawn p H (upd (upd (upd H p o2) t (.tup [V.int one,V.int oth])) D (.lst [V.int one,V.int oth])):=(d2.new ht).new hD
    refine ⟨_,rfl,_,rfl,rfl,.inr ⟨_,rfl,_,_,rfl,rfl,_,rfl,D,_,rfl,SqL.of uS,fun l hl=>?_⟩⟩
    by_cases he:one=oth
    ·have e3:(!decide (V.int one=V.int oth))=false:=by rw [he];simp
     rw [e3]
     refine q l [one.toNat] _ (d4.new hl) ?_ ⟨fun j hj=>by rw [List.mem_singleton.mp hj];omega,by simp,by simp⟩
     rw [uS]
     show some (HO.lst [V.int one])=some (HO.lst [V.int ((one.toNat:Nat):Int)])
     rw [Int.toNat_of_nonneg h10]
    ·have e3:(!decide (V.int one=V.int oth))=true:=by
      rw [decide_eq_false (fun z=>he (by injection z))]
      rfl
     rw [e3]
     refine q l [one.toNat,oth.toNat] _ (d4.new hl) ?_ ⟨fun j hj=>?_,?_,by simp⟩
     ·rw [uS]
      show some (HO.lst [V.int one,V.int oth])=some (HO.lst [V.int ((one.toNat:Nat):Int),V.int ((oth.toNat:Nat):Int)])
      rw [Int.toNat_of_nonneg h10,Int.toNat_of_nonneg h20]
     ·rcases List.mem_cons.mp hj with e | e
      ·rw [e];omega
      ·rw [List.mem_singleton.mp e];omega
     ·refine List.nodup_cons.mpr ⟨fun z=>he ?_,by simp⟩
      have:=List.mem_singleton.mp z
      omega
  refine ⟨_,rfl,rfl,_,rfl,?_⟩
  refine Zdu (fun _=>?_) (fun _=>?_)
  ·-- diamonds
   have hm0:=Int.emod_nonneg (k:Int) (b:=2) (by decide)
   have hm1:=Int.emod_lt_of_pos (k:Int) (b:=2) (by decide)
   refine ⟨_,rfl,_,_,rfl,rfl,_,rfl,_,_,rfl,rfl,(by show (0:Int)<2;decide),_,_,rfl,rfl,_,rfl,_,_,rfl,rfl,_,rfl,_,_,rfl,rfl,(by show (0:Int)<2;decide),_,_,rfl,rfl,sL (by show 2≤100000;decide),fun t ht=>⟨t,rfl,⟨_,SqT.of uS⟩,
    Ze9 (Zfc (xs:=[V.int ((k:Int) - 2 - (k:Int) % 2),V.int ((k:Int) - 1 - (k:Int) % 2)])) (sL (by show 2≤100000;decide)) okJ (fun v=>v) (fun D ys hD=>SqT.of (by rw [Zac (nNo uS hD)];exact uS)) ?_ ?_ ?_⟩⟩
   ·intro D ys x R _ hx hR
    obtain ⟨i,rfl⟩:∃ i,x=V.int i:=by
     rcases List.mem_cons.mp hx with e | e
     ·exact ⟨_,e⟩
     ·exact ⟨_,List.mem_singleton.mp e⟩
    exact ⟨_,rfl,_,_,rfl,rfl,_,rfl,hR⟩
   ·intro D ys x R _ _ _ hR
    exact ⟨_,rfl,hR⟩
   ·intro D hD
    have d4:=(d2.new (o:=.tup [V.int ((k:Int) - 2 - (k:Int) % 2),V.int ((k:Int) - 1 - (k:Int) % 2)]) ht).new (o:=.lst (([V.int ((k:Int) - 2 - (k:Int) % 2),V.int ((k:Int) - 1 - (k:Int) % 2)].filter okJ).map fun v=>v)) hD
    by_cases h2:2≤(k:Int) - (k:Int) % 2
    ·refine q D [((k:Int) - 2 - (k:Int) % 2).toNat,((k:Int) - 1 - (k:Int) % 2).toNat] _ d4 ?_ ⟨fun j hj=>?_,?_,by simp⟩
     ·rw [uS]
      have a1:okJ (V.int ((k:Int) - 2 - (k:Int) % 2))=true:=decide_eq_true (by omega)
      have a2:okJ (V.int ((k:Int) - 1 - (k:Int) % 2))=true:=decide_eq_true (by omega)
      rw [List.filter_cons,a1,if_pos rfl,List.filter_cons,a2,if_pos rfl]
      show some (HO.lst [V.int _,V.int _])=some (HO.lst [V.int ((Int.toNat _:Nat):Int),V.int ((Int.toNat _:Nat):Int)])
      rw [Int.toNat_of_nonneg (by omega),Int.toNat_of_nonneg (by omega)]
     ·rcases List.mem_cons.mp hj with e | e
      ·rw [e];omega
      ·rw [List.mem_singleton.mp e];omega
     ·refine List.nodup_cons.mpr ⟨fun z=>?_,by simp⟩
      have:=List.mem_singleton.mp z
      omega
    ·refine q D [] _ d4 ?_ ⟨(fun _ h=>nomatch h),List.nodup_nil,Nat.zero_le _⟩
     rw [uS]
     have a1:okJ (V.int ((k:Int) - 2 - (k:Int) % 2))=false:=decide_eq_false (by omega)
     have a2:okJ (V.int ((k:Int) - 1 - (k:Int) % 2))=false:=decide_eq_false (by omega)
     rw [List.filter_cons,a1,if_neg Bool.false_ne_true,List.filter_cons,a2,if_neg Bool.false_ne_true]
     rfl
  refine ⟨_,rfl,rfl,_,rfl,?_⟩
  refine Zdu (fun _=>?_) (fun _=>?_)
  ·refine ⟨_,rfl,_,_,rfl,rfl,sL (by show 1≤100000;decide),fun l hl=>q l [k - 1] _ (d2.new hl) ?_ ⟨fun j hj=>?_,by simp,by simp⟩⟩
   ·rw [uS]
    show some (HO.lst [V.int ((k:Int) - 1)])=some (HO.lst [V.int ((k - 1:Nat):Int)])
    have:((k - 1:Nat):Int)=(k:Int) - 1:=by omega
    rw [this]
   ·rw [List.mem_singleton.mp hj];omega
  refine ⟨_,rfl,p,256,o2,rfl,uS,ho2,by decide,by decide,fun bits o3 hb0 hb1 ho3=>?_⟩
  rw [Zhf]
  have d3:Drawn p H (upd H p o3):=Drawn.upd ho3
  refine ⟨_,rfl,(k:Int),rfl,by omega,by omega,?_⟩
  rw [show ((k:Int)).toNat=k from rfl]
  refine Zdf Zbm (sL (by rw [Zau];omega)) (Z08 bits) (fun _ x v _=>v=x) (fun _ _ _ _ _ _ h=>h) (fun _ _=>trivial) ?_ ?_ ?_
  ·intro x H2 R hs hx hR
   obtain ⟨i,hi⟩:=List.mem_iff_getElem?.mp hx
   obtain ⟨hik,rfl⟩:=Za4 hi
   refine ⟨_,rfl,_,_,rfl,rfl,_,rfl,?_⟩
   refine Zdu (fun h8=>?_) (fun h8=>?_)
   ·have h8:(0:Int) + (i:Int)<8:=of_decide_eq_true h8
    obtain ⟨e,he,he0,he1⟩:=Zvt (j:=(0:Int) + (i:Int)) (by omega) h8
    refine ⟨_,rfl,sL (by show 8≤100000;decide),fun t ht=>⟨_,rfl,t,Zqk,_,_,rfl,rfl,SqT.of uS,he,_,_,rfl,rfl,⟨he0,by omega⟩,_,_,rfl,rfl,(by show (0:Int)<2;decide),rfl,_,rfl,?_⟩⟩
    have e1:Z08 bits (V.int (0 + (i:Int)))=decide (V.int (bits / e % 2)=V.int 1):=by
     show (decide ((0:Int) + (i:Int)<8)&&(match atI Zqk (0 + (i:Int)) with | some (.int e)=>decide (bits / e % 2=1) | _=>false))=_
     rw [he,decide_eq_true h8,Bool.true_and]
     show decide (bits / e % 2=1)=_
     rw [decide_eq_decide]
     constructor
     ·intro z;rw [z]
     ·intro z;injection z
    have:=hR (upd H2 t (.tup Zqk)) fun b o e=>by rw [Zac (nNo e ht)];exact e
    rw [e1] at this
    exact this
   ·have h8:¬ ((0:Int) + (i:Int)<8):=fun z=>h8 (decide_eq_true z)
    have e1:Z08 bits (V.int (0 + (i:Int)))=false:=by
     show (decide ((0:Int) + (i:Int)<8)&&_)=false
     rw [decide_eq_false h8,Bool.false_and]
    have:=hR H2 (Zal.refl _)
    rw [e1] at this
    exact this
  ·intro D x H2 R hs _ _ hx _ hR
   exact ⟨_,rfl,hR x H2 (Zal.refl _) rfl⟩
  ·intro D H2 ys hD hs hl hp
   have e:=Zim hp
   subst e
   obtain ⟨js,e,hj,hnd⟩:=Zqi k (Z08 bits)
   refine q D js H2 (d3.same hs) (by rw [hl,e]) ⟨fun j h=>(hj j h).1,hnd,?_⟩
   have:=Graph.nodup_le (l:=js) (k:=List.range 8) hnd fun j h=>by
    have h2:(decide ((j:Int)<8)&&_)=true:=(hj j h).2
    have h3:=(Bool.and_eq_true _ _ ▸ h2:_∧_).1
    have h4:(j:Int)<8:=of_decide_eq_true h3
    exact List.mem_range.mpr (by omega)
   simpa using this
end
end K46
namespace K46
open PySem L2 Md
def Zrf:Sp:=fun vs H Q _=>∃ (p:Addr) (m:Nat),vs=[.ref p,.int m]∧(∃ o,H p=some o∧Zm1 o)∧1≤m∧m≤24 ∧
 ∀ l (rows:List (Str×List Str)) H',Drawn p H H'→H l=none→Ze0 H' l rows→Zek rows→rows.length≤m→Q (.ref l) H'
def wAt (ws:List Str):V→V
 | .int j=>.str (ws.getD j.toNat "")
 | _=>.non
theorem Zt9 (ws:List Str) (js:List Nat):(Zd4 js).map (wAt ws)=(js.map fun i=>ws.getD i "").map V.str:=by
 unfold Zd4
 rw [List.map_map,List.map_map]
 rfl
theorem Zt1 {ws:List Str}{j:Nat}(h:j<ws.length):atI (ws.map V.str) (j:Int)=some (.str (ws.getD j "")):=by
 have e:(ws.map V.str)[j]?=some (V.str (ws.getD j "")):=by
  rw [List.getElem?_map,List.getD_eq_getElem?_getD,List.getElem?_eq_getElem h]
  rfl
 exact Zc0 e
theorem Znu (m:Nat):Zdg 0 m=Zd4 (List.range m):=by
 unfold Zdg Zd4
 refine List.map_congr_left fun j _=>?_
 rw [Int.zero_add]
theorem Zh9 {α:Type}(l:List α):l.filter (fun _=>true)=l:=List.filter_eq_self.mpr fun _ _=>rfl
def UpV (ws:List Str) (H:Hp) (js:List Nat) (v:V):Prop:=∃ t,v=.ref t∧H t=some (.tup ((js.map fun i=>ws.getD i "").map V.str))
theorem UpV.mono {ws:List Str}{H H':Hp}{js:List Nat}{v:V}(h:UpV ws H js v) (k:∀ b xs,H b=some (.tup xs)→H' b=some (.tup xs)):UpV ws H' js v:=by
 obtain ⟨t,e,h⟩:=h
 exact ⟨t,e,k _ _ h⟩
theorem Zhi {α β:Type}{F:α→β→Prop}:∀ {l:List α}{k:List β},Paired F l k→∀ {i:Nat}{a:α},l[i]?=some a→∃ b,k[i]?=some b∧F a b
 | _,_,.nil,i,a,h=>by simp at h
 | _,_,.cons r t,0,a,h=>by simp at h;subst h;exact ⟨_,rfl,r⟩
 | _,_,.cons r t,i + 1,a,h=>by
  obtain ⟨b,h1,h2⟩:=Zhi t (i:=i) (a:=a) (by simpa using h)
  exact ⟨b,by simpa using h1,h2⟩
theorem Zkt {H:Hp}{D b:Addr}{o u:HO}(hD:H D=none) (e:H b=some o):(upd H D u) b=some o:=by rw [Zac (nNo e hD)];exact e
theorem Zin {ws:List Str}{uf:List (List Nat)}{D:Addr}{H:Hp}:∀ {os:List Nat}{ys:List V},
  Paired (fun x v=>∃ (j:Nat) (t u:Addr),x=V.int (j:Int)∧v=.ref t∧t≠D∧u≠D∧H t=some (.tup [.str (ws.getD j ""),.ref u])∧H u=some (.tup (((uf.getD j []).map fun i=>ws.getD i "").map V.str))) (Zd4 os) ys→Paired (Z02 H) (Zgx ws uf os) ys
 | [],_,h=>by cases h;exact .nil
 | j :: os,_,h=>by
  cases h with
  | cons r t =>
   obtain ⟨i,a,u,e,rfl,_,_,h3,h4⟩:=r
   have e':(j:Int)=(i:Int):=by injection e
   have e'':j=i:=by omega
   subst e''
   exact .cons ⟨a,u,rfl,h3,h4⟩ (Zin t)
structure Z2r (p lw lo lu:Addr) (ws:List Str) (H H':Hp) (i:Nat) (os:List Nat) (uf:List (List Nat)) (us:List V):Prop where
 d:Drawn p H H'
 w:H' lw=some (.lst (ws.map V.str))
 o:H' lo=some (.lst (Zd4 os))
 u:H' lu=some (.lst us)
 pu:Paired (UpV ws H') uf us
 ul:uf.length=i
 uok:∀ (k:Nat) (js:List Nat),uf[k]?=some js→Z00 k js
 on:os.Nodup
 om:∀ j,j∈os↔j<i
 ol:os.length=i
theorem Z11:(["j","words"]:List Str).Nodup:=by decide +kernel
theorem Z0b:(["k","words","ups"]:List Str).Nodup:=by decide +kernel
structure Z3u (mg:Str→Option Value):Prop where
 range:mg "range"=none
 int:mg "int"=none
 len:mg "len"=none
 tuple:mg "tuple"=none
 list:mg "list"=none
section
variable {P:Program} {w:World} {K:PySem.W.Frag} {mg:Str→Option Value} {base:Heap}
abbrev Zx3:List Str:=["pot","most","many","words","shape","order","ups","k"]
theorem Zwc:Zap Zx3 ["pot","most"] (Zab Zcl):=⟨rfl,rfl,rfl,by decide +kernel,rfl,by decide +kernel,by decide +kernel⟩
theorem Zuy {f fT fU fWs fW fL:Addr}{fd fdT fdU fdWs fdW fdL:FuncData}(F:Def K mg "_law_rows" Zcl ["pot","most"] f fd) (DT:Def K mg "_law_take" Za8 ["pot","many"] fT fdT) (DU:Def K mg "_law_ups" Zcr ["pot","k","shape"] fU fdU)
  (DWs:Def K mg "_law_words" Zct ["pot","many"] fWs fdWs) (DW:Def K mg "_law_word" Za7 ["pot","words"] fW fdW) (DL:Def K mg "_law_letters" Zbh ["number"] fL fdL) (T:Z3u mg):Za3 P w K mg base CX0 4 f fd ["pot","most"] Zrf:=by
 have GT:Za3 P w K mg base CX0 1 fT fdT ["pot","many"] Zgg:=Ziq DT
 have GU:Za3 P w K mg base CX0 2 fU fdU ["pot","k","shape"] Zzc:=Zzz DU DT ⟨T.range,T.int⟩
 have GW:Za3 P w K mg base CX0 3 fWs fdWs ["pot","many"] Zrd:=Zuv DWs DW DT DL T.len T.range
 refine F.fn.ok Zwc (fun vs H Q E h=>?_) (fun cdv A outer s H vs Q E hr h=>?_)
 ·obtain ⟨p,m,rfl,_⟩:=h
  rfl
 ·obtain ⟨p,most,rfl,⟨o0,hp0,ho0⟩,hm1,hm24,q⟩:=h
  have nd:=Zwc.nd
  have hr1:Zec 1 _:=hr.mono (by decide)
  have hr2:Zec 2 _:=hr.mono (by decide)
  refine ⟨_,pS (Zag (i:=2) nd rfl (Or.inl rfl) (Zba Zdr Zae (Zaf DT GT hr1 (pC (pv 0) (pC (pv 1) Zaa)))))
   (pS (Zag (i:=3) nd rfl (Or.inr rfl) (Zaf DWs GW hr (pC (pv 0) (pC (pv 2) Zaa))))
   (pS (Zag (i:=4) nd rfl (Or.inl rfl) (Zaf DT GT hr1 (pC (pv 0) (pC Zae Zaa))))
   (pS (Zag (i:=5) nd rfl (Or.inl rfl) (Zb9 Zaa))
   (pS (Zag (i:=6) nd rfl (Or.inr rfl) (Zb9 Zaa))
   (pS (Zbw PassesOwn.never rfl (Zb5 (by rfl) T.range (pC (pv 2) Zaa)) (Zah (i:=7) nd rfl (Or.inl rfl))
    (pS (Za9 (Zej PySem.F.plainAttrs_list PySem.F.slot_list_append PySem.F.type_list_append Zb6 (pv 6) (pC (Zc2 Zdx (by rfl) T.tuple PyProof.Rows.boot_tuple (pC
     (Zbr ["j"] ["words"] [3] (fun _=>Za0 (osc:=Zab Zcl) (on:=Zx3) (by decide +kernel) rfl rfl rfl) (Zbd (Zaf DU GU hr2 (pC (pv 0) (pC (pv 7) (pC (pv 4) Zaa))))) (fun C s H fp=>Zah (i:=0) Z11 rfl (Or.inl rfl) (Or.inr rfl)) (fun C s H fp=>Zbn)
      (fun C s H fp=>Za5 (r:=Zfd K) Zar (pv 1) (pv 0) (fun _ _=>rfl))) Zaa)) Zaa)))
    (Zad (Za9 (Zej PySem.F.plainAttrs_list PySem.F.slot_list_insert PySem.F.type_list_insert Zg2 (pv 5) (pC (Zaf DT GT hr1 (pC (pv 0) (pC (Zba Zdr (pv 7) Zae) Zaa))) (pC (pv 7) Zaa)))))))
   (Zep (Zbe (Zaq Zd1 (Zaf DT GT hr1 (pC (pv 0) (pC Zae Zaa))) Zae (Zaz _)) (Zad (Zag (i:=5) nd rfl (Or.inl rfl) (Zlv rfl (pv 2) (by rfl) T.list (by rfl) T.range))) Zas)
   (Zad (Zat (Zbr ["k"] ["words","ups"] [3,6] (fun _=>Za0 (osc:=Zab Zcl) (on:=Zx3) (by decide +kernel) rfl rfl rfl) (Zbd (pv 5)) (fun C s H fp=>Zah (i:=0) Z0b rfl (Or.inl rfl) (Or.inr rfl)) (fun C s H fp=>Zbn)
    (fun C s H fp=>Zb8 (pC (Za5 (r:=Zfd K) Zar (pv 1) (pv 0) (fun _ _=>rfl)) (pC (Za5 (r:=Zfd K) Zar (pv 2) (pv 0) (fun _ _=>rfl)) Zaa)))))))))))),?_⟩
  refine ⟨_,rfl,_,rfl,p,most,o0,rfl,hp0,ho0,by omega,by omega,fun v o1 hv0 hv1 ho1=>⟨_,_,rfl,rfl,?_⟩⟩
  have hv:(1:Int) + v=((1 + v.toNat:Nat):Int):=by omega
  have d1:Drawn p H (upd H p o1):=Drawn.upd ho1
  refine ⟨_,rfl,_,rfl,p,1 + v.toNat,(by show [V.ref p,V.int (1 + v)]=[V.ref p,V.int ((1 + v.toNat:Nat):Int)];rw [← hv]),d1.pot,by omega,fun lw ws H2 d2 hlw hw ok hwl=>?_⟩
  have hlw0:H lw=none:=by
   cases e:H lw with
   | none=>rfl
   | some o =>
    by_cases z:lw=p
    ·rw [z] at hlw
     rw [uS] at hlw
     cases hlw
    ·rw [d1.keep lw o z e] at hlw
     cases hlw
  have d12:=d1.trans d2
  obtain ⟨o2,hp2,ho2⟩:=d2.pot
  have pw:p≠lw:=Zxu hp2 hw (by
   obtain ⟨r,b,e,_⟩:=ho2
   rw [e]
   intro z
   injection z with z
   have z2:=congrArg (fun l=>l[0]?) z
   cases ws with
   | nil=>simp at z2
   | cons x r=>simp at z2)
  refine ⟨_,rfl,p,5,o2,rfl,hp2,ho2,by decide,by decide,fun sh o3 hs0 hs1 ho3=>?_⟩
  have d3:Drawn p H (upd H2 p o3):=d12.trans (Drawn.upd ho3)
  refine ⟨Nat.zero_le _,fun lo hlo=>⟨Nat.zero_le _,fun lu hlu=>?_⟩⟩
  have d5:Drawn p H (upd (upd (upd H2 p o3) lo (.lst [])) lu (.lst [])):=(d3.new hlo).new hlu
  have w5:(upd (upd (upd H2 p o3) lo (.lst [])) lu (.lst [])) lw=some (.lst (ws.map V.str)):=by
   have a1:(upd H2 p o3) lw=some (.lst (ws.map V.str)):=by rw [Zac (Ne.symm pw)];exact hw
   have a2:(upd (upd H2 p o3) lo (.lst [])) lw=some (.lst (ws.map V.str)):=by rw [Zac (nNo a1 hlo)];exact a1
   rw [Zac (nNo a2 hlu)];exact a2
  have o5:(upd (upd (upd H2 p o3) lo (.lst [])) lu (.lst [])) lo=some (.lst (Zd4 [])):=by
   rw [Zac (nNo uS hlu)];exact uS
  have plo:p≠lo:=nNo (show (upd H2 p o3) p=some o3 from uS) hlo
  have plu:p≠lu:=nNo (show (upd (upd H2 p o3) lo (.lst [])) p=some o3 by rw [Zac plo];exact uS) hlu
  have lou:lo≠lu:=nNo uS hlu
  have lwo:lw≠lo:=fun z=>by
   have a1:(upd H2 p o3) lw=some (.lst (ws.map V.str)):=by rw [Zac (Ne.symm pw)];exact hw
   rw [z,hlo] at a1;cases a1
  have lwu:lw≠lu:=fun z=>by
   have a1:(upd H2 p o3) lw=some (.lst (ws.map V.str)):=by rw [Zac (Ne.symm pw)];exact hw
   have a2:(upd (upd H2 p o3) lo (.lst [])) lw=some (.lst (ws.map V.str)):=by rw [Zac lwo];exact a1
   rw [z,hlu] at a2;cases a2
  have hloH:H lo=none:=by
   cases e:H lo with
   | none=>rfl
   | some o=>rw [d3.keep lo o (Ne.symm plo) e] at hlo;cases hlo
  have hluH:H lu=none:=by
   cases e:H lu with
   | none=>rfl
   | some o=>rw [(d3.new (o:=.lst []) hlo).keep lu o (Ne.symm plu) e] at hlu;cases hlu
  refine ⟨_,rfl,(1:Int) + v,rfl,by omega,by omega,?_⟩
  have hmn:((1:Int) + v).toNat=ws.length:=by omega
  rw [hmn]
  refine Za6 Zbm (fun i σ H'=>∃ (os:List Nat) (uf:List (List Nat)) (us:List V) (kv:Option V),σ=[some (.ref p),some (.int most),some (.int (1 + v)),some (.ref lw),some (.int sh),some (.ref lo),some (.ref lu),kv]∧Z2r p lw lo lu ws H H' i os uf us)
   ⟨[],[],[],none,rfl,d5,w5,o5,uS,.nil,rfl,fun k js h=>by simp at h,List.nodup_nil,fun j=>by simp,rfl⟩ (fun _ _ _ _ _=>trivial) ?_ ?_
  ·rintro i x σ H' hi ⟨os,uf,us,kv,rfl,g⟩
   obtain ⟨hi,rfl⟩:=Za4 hi
   have hul:us.length=i:=by rw [← g.pu.length];exact g.ul
   refine ⟨_,rfl,.inl ⟨rfl,_,SqL.of g.u⟩,_,rfl,_,rfl,_,rfl,p,i,sh.toNat,by rw [Int.zero_add,Int.toNat_of_nonneg hs0];rfl,g.d.pot,by omega,fun l js H6 d6 hl uok=>⟨l,rfl,⟨_,SqL.of hl⟩,?_⟩⟩
   have w6:H6 lw=some (.lst (ws.map V.str)):=d6.keep _ _ (Ne.symm pw) g.w
   refine Ze9 (Zav (xs:=Zd4 js)) (sL (by unfold Zd4;rw [List.length_map];have:=uok.few;omega)) (fun _=>true) (wAt ws) (fun D ys hD=>SqL.of (by rw [Zac (nNo hl hD)];exact hl)) ?_ ?_ ?_
   ·intro D ys y R _ _ hR
    exact hR
   ·intro D ys y R hD hy _ hR
    obtain ⟨j,hj,rfl⟩:=List.mem_map.mp hy
    have hjl:j<ws.length:=by have:=uok.below j hj;omega
    exact ⟨_,rfl,_,rfl,lw,_,_,_,rfl,rfl,SqL.of (by rw [Zac (nNo w6 hD)];exact w6),Zt1 hjl,hR⟩
   ·intro D hD
    rw [Zh9,Zt9]
    refine ⟨D,_,rfl,.inl ⟨SqL.of uS,fun t ht=>?_⟩⟩
    have keepDt:∀ b o,H6 b=some o→(upd (upd H6 D (.lst ((js.map fun i=>ws.getD i "").map V.str))) t (.tup ((js.map fun i=>ws.getD i "").map V.str))) b=some o:=fun b o e=>by
     have e1:(upd H6 D (.lst ((js.map fun i=>ws.getD i "").map V.str))) b=some o:=by rw [Zac (nNo e hD)];exact e
     rw [Zac (nNo e1 ht)];exact e1
    have u6:H6 lu=some (.lst us):=d6.keep _ _ (Ne.symm plu) g.u
    have o6:H6 lo=some (.lst (Zd4 os)):=d6.keep _ _ (Ne.symm plo) g.o
    refine ⟨lu,us,_,rfl,rfl,keepDt _ _ u6,Za2 (by omega),?_⟩
    obtain ⟨o7,hp7,ho7⟩:=d6.pot
    refine ⟨_,rfl,.inl ⟨rfl,_,SqL.of (by rw [Zac lou];exact keepDt _ _ o6)⟩,_,rfl,_,rfl,_,_,rfl,rfl,p,_,o7,rfl,(by rw [Zac plu];exact keepDt _ _ hp7),ho7,by omega,by omega,fun at_ o8 ha0 ha1 ho8=>?_⟩
    refine ⟨_,rfl,lo,Zd4 os,at_,_,rfl,rfl,(by rw [Zac (Ne.symm plo),Zac lou];exact keepDt _ _ o6),ha0,(by unfold Zd4;rw [List.length_map,g.ol];omega),Za2 (by unfold Zd4;rw [List.length_map,g.ol];omega),?_⟩
    have tlu:t≠lu:=fun z=>by rw [z] at ht;rw [Zkt hD u6] at ht;cases ht
    have tlo:t≠lo:=fun z=>by rw [z] at ht;rw [Zkt hD o6] at ht;cases ht
    have tp:t≠p:=fun z=>by rw [z] at ht;rw [Zkt hD hp7] at ht;cases ht
    have all:∀ b o,b≠p→b≠lu→b≠lo→H6 b=some o→(upd (upd (upd (upd (upd H6 D (.lst ((js.map fun i=>ws.getD i "").map V.str))) t (.tup ((js.map fun i=>ws.getD i "").map V.str))) lu (.lst (us++[.ref t]))) p o8) lo (.lst ((Zd4 os).take at_.toNat++V.int (0 + (i:Int)):: (Zd4 os).drop at_.toNat))) b=some o:=fun b o h1 h2 h3 e=>by
     rw [Zac h3,Zac h1,Zac h2];exact keepDt _ _ e
    have tt:(upd (upd (upd (upd (upd H6 D (.lst ((js.map fun i=>ws.getD i "").map V.str))) t (.tup ((js.map fun i=>ws.getD i "").map V.str))) lu (.lst (us++[.ref t]))) p o8) lo (.lst ((Zd4 os).take at_.toNat++V.int (0 + (i:Int)):: (Zd4 os).drop at_.toNat))) t=some (.tup ((js.map fun i=>ws.getD i "").map V.str)):=by
     rw [Zac tlo,Zac tp,Zac tlu];exact uS
    have tups:∀ b xs,H' b=some (.tup xs)→(upd (upd (upd (upd (upd H6 D (.lst ((js.map fun i=>ws.getD i "").map V.str))) t (.tup ((js.map fun i=>ws.getD i "").map V.str))) lu (.lst (us++[.ref t]))) p o8) lo (.lst ((Zd4 os).take at_.toNat++V.int (0 + (i:Int)):: (Zd4 os).drop at_.toNat))) b=some (.tup xs):=fun b xs e=>by
     obtain ⟨oP,hP,r,b',eP,_⟩:=g.d.pot
     have bp:b≠p:=fun z=>by rw [z,hP,eP] at e;cases e
     have bu:b≠lu:=fun z=>by rw [z,g.u] at e;cases e
     have bo:b≠lo:=fun z=>by rw [z,g.o] at e;cases e
     exact all b _ bp bu bo (d6.keep b _ bp e)
    refine ⟨os.take at_.toNat++i :: os.drop at_.toNat,uf++[js],us++[.ref t],_,rfl,?_⟩
    refine ⟨⟨fun b o hb e=>?_,?_⟩,?_,?_,?_,?_,by rw [List.length_append,g.ul];rfl,?_,?_,?_,?_⟩
    ·have e6:=(g.d.trans d6).keep b o hb e
     exact all b o hb (fun z=>by rw [z,hluH] at e;cases e) (fun z=>by rw [z,hloH] at e;cases e) e6
    ·exact ⟨o8,by rw [Zac plo];exact uS,ho8⟩
    ·exact all lw _ (Ne.symm pw) lwu lwo w6
    ·rw [uS]
     unfold Zd4
     rw [List.map_append,List.map_cons,List.map_take,List.map_drop,Int.zero_add]
    ·rw [Zac (Ne.symm lou),Zac (Ne.symm plu)];exact uS
    ·exact Paired.snoc (Paired.mapP g.pu fun a b z=>z.mono tups) ⟨t,rfl,tt⟩
    ·intro k js' hk
     by_cases hki:k<uf.length
     ·rw [List.getElem?_append_left hki] at hk
      exact g.uok k js' hk
     ·rw [List.getElem?_append_right (by omega)] at hk
      have hk0:k - uf.length=0:=by
       have:=(List.getElem?_eq_some_iff.mp hk).1
       simp at this
       omega
      rw [hk0] at hk
      have e:js=js':=by simpa using hk
      have e2:k=i:=by have:=g.ul;omega
      rw [← e,e2]
      exact uok
    ·have hperm:(os.take at_.toNat++i :: os.drop at_.toNat).Perm (i :: os):=by
      refine List.perm_middle.trans ?_
      rw [List.take_append_drop]
     exact hperm.nodup_iff.mpr (List.nodup_cons.mpr ⟨fun z=>by have:=(g.om i).mp z;omega,g.on⟩)
    ·intro j
     have hperm:(os.take at_.toNat++i :: os.drop at_.toNat).Perm (i :: os):=by
      refine List.perm_middle.trans ?_
      rw [List.take_append_drop]
     rw [hperm.mem_iff,List.mem_cons,g.om]
     omega
    ·have hperm:(os.take at_.toNat++i :: os.drop at_.toNat).Perm (i :: os):=by
      refine List.perm_middle.trans ?_
      rw [List.take_append_drop]
     rw [hperm.length_eq,List.length_cons,g.ol]
  ·rintro σ H' ⟨os,uf,us,kv,rfl,g⟩
   rw [Zau] at g
   refine ⟨fun σ' H2=>∃ (lo':Addr) (os':List Nat) (kv:Option V),σ'=[some (.ref p),some (.int most),some (.int (1 + v)),some (.ref lw),some (.int sh),some (.ref lo'),some (.ref lu),kv]∧Drawn p H H2∧H2 lw=some (.lst (ws.map V.str))∧H2 lo'=some (.lst (Zd4 os')) ∧
    H2 lu=some (.lst us)∧Paired (UpV ws H2) uf us∧os'.Nodup∧(∀ j,j∈os'↔j<ws.length)∧os'.length=ws.length,?_,?_⟩
   ·obtain ⟨oP,hP,hoP⟩:=g.d.pot
    refine ⟨_,rfl,p,3,oP,rfl,hP,hoP,by decide,by decide,fun v3 o9 _ _ ho9=>⟨rfl,_,rfl,?_⟩⟩
    have d9:Drawn p H (upd H' p o9):=g.d.trans (Drawn.upd ho9)
    have t9:∀ b xs,H' b=some (.tup xs)→(upd H' p o9) b=some (.tup xs):=fun b xs e=>by
     obtain ⟨r,b',eP,_⟩:=hoP
     rw [Zac (fun z=>by rw [z,hP,eP] at e;cases e)];exact e
    refine Zdu (fun _=>?_) (fun _=>?_)
    ·refine ⟨_,rfl,(1:Int) + v,rfl,by omega,by omega,fun l hl=>?_⟩
     rw [hmn,Znu]
     have nn:∀ {b:Addr} {o:HO},(upd H' p o9) b=some o→(upd (upd H' p o9) l (.lst (Zd4 (List.range ws.length)))) b=some o:=fun {b o} e=>by rw [Zac (nNo e hl)];exact e
     exact ⟨l,List.range ws.length,_,rfl,d9.new hl,nn (by rw [Zac (Ne.symm pw)];exact g.w),uS,nn (by rw [Zac (Ne.symm plu)];exact g.u),Paired.mapP g.pu fun a b z=>(z.mono t9).mono fun b xs e=>nn e,List.nodup_range,fun j=>List.mem_range,by simp⟩
    ·exact ⟨lo,os,_,rfl,d9,by rw [Zac (Ne.symm pw)];exact g.w,by rw [Zac (Ne.symm plo)];exact g.o,by rw [Zac (Ne.symm plu)];exact g.u,Paired.mapP g.pu fun a b z=>z.mono t9,g.on,g.om,g.ol⟩
   ·rintro σ' H2 ⟨lo',os',kv',rfl,dE,wE,oE,uE,pE,on,om,ol⟩
    refine ⟨_,rfl,lo',rfl,⟨_,SqL.of oE⟩,?_⟩
    refine Zdf (Zav (xs:=Zd4 os')) (sL (by unfold Zd4;rw [List.length_map];omega)) (fun _=>true)
     (fun D x v H=>∃ (j:Nat) (t u:Addr),x=.int (j:Int)∧v=.ref t∧t≠D∧u≠D∧H t=some (.tup [.str (ws.getD j ""),.ref u])∧H u=some (.tup (((uf.getD j []).map fun i=>ws.getD i "").map V.str))) ?_ ?_ ?_ ?_ ?_
    ·rintro D x v H H'' hk ⟨j,t,u,e1,e2,h1,h2,h3,h4⟩
     exact ⟨j,t,u,e1,e2,h1,h2,hk _ _ h1 h3,hk _ _ h2 h4⟩
    ·intro H3 hs
     exact hs.seq (SqL.of oE)
    ·intro x H3 R hs hx hR
     exact hR H3 (Zal.refl _)
    ·intro D x H3 R hs ⟨ys,hD⟩ hD0 hx _ hR
     obtain ⟨j,hj,rfl⟩:=List.mem_map.mp hx
     have hjl:j<ws.length:=(om j).mp hj
     have huj:uf[j]?=some (uf.getD j []):=by
      have:j<uf.length:=by rw [g.ul];exact hjl
      rw [List.getD_eq_getElem?_getD,List.getElem?_eq_getElem this]
      rfl
     obtain ⟨uv,hu1,t,rfl,hu2⟩:=Zhi pE huj
     have hu3:=hs _ _ hu2
     refine ⟨_,rfl,_,rfl,lw,_,_,_,rfl,rfl,SqL.of (hs _ _ wE),Zt1 hjl,_,rfl,_,rfl,lu,_,_,_,rfl,rfl,SqL.of (hs _ _ uE),Zc0 hu1,sL (by show 2≤100000;decide),fun tn htn=>?_⟩
     have tD:tn≠D:=fun z=>by rw [z,hD] at htn;cases htn
     have uD:t≠D:=fun z=>by rw [z,hD] at hu3;cases hu3
     exact hR _ _ (fun b o e=>by rw [Zac (nNo e htn)];exact e) ⟨j,tn,t,rfl,rfl,tD,uD,uS,by rw [Zac (nNo hu3 htn)];exact hu3⟩
    ·intro D H3 ys hD hs hl hp
     rw [Zh9] at hp
     have hDH:H D=none:=by
      cases e:H D with
      | none=>rfl
      | some o =>
       by_cases z:D=p
       ·obtain ⟨oP,hP,_⟩:=dE.pot
        rw [z,hP] at hD;cases hD
       ·rw [dE.keep D o z e] at hD;cases hD
     refine q D (Zgx ws uf os') H3 (dE.same hs) hDH ⟨ys,hl,?_⟩ (Zyd (m:=ws.length) (by omega) (by omega) ok.word ok.nd rfl (fun k js h=>⟨(g.uok k js h).below,(g.uok k js h).nd,(g.uok k js h).few⟩) g.ul on om ol) (by unfold Zgx;rw [List.length_map];omega)
     exact Zin hp
end
end K46
namespace K46
open PySem L2 Md
def Zoo:Sp:=fun vs H Q _=>∃ x:Str,vs=[.str x]∧x.length≤1000∧∀ H',Zal H H'→Q (.bl (Zb7 x)) H'
def Zic (K:PySem.W.Frag):Sp:=fun vs H Q _=>∃ (l:Addr) (rows:List (Str×List Str)),vs=[.ref l]∧Zyo K H l rows∧Zek rows∧∀ H',Zal H H'→Q .non H'
structure Zjh (H:Hp) (d:Addr) (o:Obj) (rows:List (Str×List Str)) (kvs:List (Key×V)):Prop where
 at_:H d=some (.frz o (.dK kvs))
 ups:Zk8 H rows kvs
theorem Zjh.mono {H H':Hp}{d:Addr}{o:Obj}{rows:List (Str×List Str)}{kvs:List (Key×V)}(b:Zjh H d o rows kvs) (s:Zal H H'):Zjh H' d o rows kvs:=⟨s _ _ b.at_,b.ups.mono fun _ _ e=>s _ _ e⟩
def Zjm:Sp:=fun vs H Q _=>∃ (d:Addr) (o:Obj) (rows:List (Str×List Str)) (kvs:List (Key×V)),vs=[.ref d]∧Zjh H d o rows kvs∧Zek rows∧∀ H',Zal H H'→Q .non H'
def Zhu (us left:List Str):V:=match us.find? (fun x=>decide (x∈left)) with | some x=>.str x | none=>.non
def Zrk (K:PySem.W.Frag):Sp:=fun vs H Q _=>∃ (a b:Addr) (us left:List Str),vs=[.ref a,.ref b]∧SqT K H a (us.map V.str)∧SqL K H b (left.map V.str)∧Q (Zhu us left) H
def Zll:Sp:=fun vs H Q _=>∃ (d:Addr) (o:Obj) (rows:List (Str×List Str)) (kvs:List (Key×V)),vs=[.ref d]∧Zjh H d o rows kvs∧Zek rows∧∀ l H',Zal H H'→H' l=some (.lst [])→Q (.ref l) H'
def Zv7:Sp:=fun vs H Q _=>∃ (d:Addr) (o:Obj) (rows:List (Str×List Str)) (kvs:List (Key×V)),vs=[.ref d]∧Zjh H d o rows kvs∧Zek rows∧∀ H',Zal H H'→Q .non H'
structure Zyv (mg:Str→Option Value):Prop where
 letters:∃ t,mg "LETTERS"=some (.str letters t)
 most:∃ t,mg "MOST_LETTERS"=some (.int 8 t)
 kinds:∃ t,mg "MOST_KINDS"=some (.int 24 t)
 ups:∃ t,mg "MOST_UPS"=some (.int 8 t)
 len:mg "len"=none
 all:mg "all"=none
 list:mg "list"=none
 tuple:mg "tuple"=none
section
variable {P:Program} {w:World} {K:PySem.W.Frag} {mg:Str→Option Value} {base:Heap}
theorem scW:Zap ["text"] ["text"] (Zab Zdj):=⟨rfl,rfl,rfl,by decide +kernel,rfl,by decide +kernel,by decide +kernel⟩
theorem Zxv:(["sign"]:List Str).Nodup:=by decide +kernel
theorem Zsq {f:Addr}{fd:FuncData}(F:Def K mg "is_word" Zdj ["text"] f fd) (T:Zyv mg):Za3 P w K mg base CX0 1 f fd ["text"] Zoo:=by
 refine F.fn.ok scW (fun vs H Q E h=>?_) (fun cdv A outer s H vs Q E hr h=>?_)
 ·obtain ⟨x,rfl,_⟩:=h
  rfl
 ·obtain ⟨x,rfl,hx,k⟩:=h
  obtain ⟨t1,hl⟩:=T.letters
  obtain ⟨t2,hm⟩:=T.most
  refine ⟨_,pS (Zbe (Zef (Zfe Zjd Zjd Zae (Zan Zdy (by rfl) T.len PySem.boot_len (pC (pv 0) Zaa)) (Zgo (v:=.int 8) (by rfl) hm ⟨_,rfl⟩))) (Zad (Zat Zgz)) Zas)
   (Zad (Zat (Zan (Zh8 rfl) (by rfl) T.all PyProof.Rows.boot_all (pC
    (Zbr ["sign"] [] [] (fun _=>Za0 (osc:=Zab Zdj) (on:=["text"]) (by decide +kernel) rfl rfl rfl) (Zzt (pv 0)) (fun C s H fp=>Zah (i:=0) Zxv rfl (Or.inl rfl) (Or.inr rfl)) (fun C s H fp=>Zbn)
     (fun C s H fp=>Zft Zsi (pv 0) (Zgo (v:=.str letters) (by rfl) hl ⟨_,rfl⟩) (by with_unfolding_all rfl))) Zaa)))),?_⟩
  refine ⟨_,rfl,_,_,rfl,⟨sL (by omega),rfl⟩,_,_,rfl,rfl,_,rfl,?_⟩
  have no:¬ (1≤x.length∧x.length≤8)→Zb7 x=false:=fun h=>by unfold Zb7;rw [decide_eq_false h];rfl
  have same:Zal H H:=Zal.refl H
  refine Zdu (fun h1=>?_) (fun h1=>?_)
  ·have h1:(1:Int)≤(x.length:Int):=of_decide_eq_true h1
   refine ⟨_,_,rfl,rfl,_,rfl,?_⟩
   refine Zdu (fun h2=>?_) (fun h2=>?_)
   ·have h2:¬ ((x.length:Int)≤8):=by simpa using h2
    have q:=k H same
    rw [no (by omega)] at q
    exact q
   ·have h2:((x.length:Int)≤8):=by simpa using h2
    refine ⟨_,rfl,_,rfl,Ze9 Zuh (by unfold Zgv;rw [List.length_map,Zfq];exact sL (by omega)) (fun _=>true) Zx7 (fun _ _ _=>trivial) ?_ ?_ ?_⟩
    ·intro D ys v R _ _ hR
     exact hR
    ·intro D ys v R _ hv _ hR
     obtain ⟨c,_,e⟩:=List.mem_map.mp hv
     subst e
     exact ⟨_,rfl,_,_,rfl,rfl,hR⟩
    ·intro D hD
     refine ⟨D,x.cps.toList.map Zkv,rfl,SqL.of (by rw [← Zrs];exact uS),?_⟩
     have e:(x.cps.toList.map Zkv).all id=Zb7 x:=by
      unfold Zb7
      rw [decide_eq_true (by omega),Bool.true_and,List.all_map]
      rfl
     have q:=k (upd H D (.lst (((Zgv x).filter fun _=>true).map Zx7))) fun b o hb=>by rw [Zac (nNo hb hD)];exact hb
     rw [← e] at q
     exact q
  ·have h1:¬ ((1:Int)≤(x.length:Int)):=fun z=>h1 (decide_eq_true z)
   refine ⟨_,rfl,?_⟩
   refine Zqt ?_
   have q:=k H same
   rw [no (by omega)] at q
   exact q
theorem Znq {b:Bool}{H:Hp}{a:Addr}{xs:List V}(h:SqB K b H a xs):Z3y K (.ref a) H xs.length:=by
 cases b with
 | true=>exact .inl ⟨xs,h,rfl⟩
 | false=>exact .inr ⟨xs,h,rfl⟩
theorem Z3i:Zap ["rows","seen","word","ups"] ["rows"] (Zab Zcs):=⟨rfl,rfl,rfl,by decide +kernel,rfl,by decide +kernel,by decide +kernel⟩
theorem Zkk {f fW:Addr}{fd fdW:FuncData}(F:Def K mg "check_rows" Zcs ["rows"] f fd) (DW:Def K mg "is_word" Zdj ["text"] fW fdW) (T:Zyv mg):Za3 P w K mg base CX0 2 f fd ["rows"] (Zic K):=by
 have GW:Za3 P w K mg base CX0 1 fW fdW ["text"] Zoo:=Zsq DW T
 refine F.fn.ok Z3i (fun vs H Q E h=>?_) (fun cdv A outer s H vs Q E hr h=>?_)
 ·obtain ⟨l,rows,rfl,_⟩:=h
  rfl
 ·obtain ⟨l,rows,rfl,⟨b,vs,hl,hp⟩,g,q⟩:=h
  obtain ⟨t1,hK⟩:=T.kinds
  obtain ⟨t2,hU⟩:=T.ups
  have nd:=Z3i.nd
  have hu:=Zfw hr
  refine ⟨_,pS (Zbe (Zef (Zfe Zjd Zjd Zae (Zan Zdy (by rfl) T.len PySem.boot_len (pC (pv 0) Zaa)) (Zgo (v:=.int 24) (by rfl) hK ⟨_,rfl⟩))) Zb4 Zas)
   (pS (Zag (i:=1) nd rfl (Or.inl rfl) Zf5)
   (Zad (Zbw PassesOwn.never rfl (Zwh (pv 0)) (Zfm rfl (gC (Zah (i:=2) nd rfl (Or.inl rfl)) (gC (Zah (i:=3) nd rfl (Or.inl rfl)) Zee)))
    (pS (Zbe (Zef (Zfl (Zaf DW GW hr (pC (pv 2) Zaa)))) Zb4 Zas)
    (pS (Zbe (Zii (Zlx hu (pv 2) (pv 1))) Zb4 Zas)
    (pS (Zbe (Zaq Zp0 (Zan Zdy (by rfl) T.len PySem.boot_len (pC (pv 3) Zaa)) (Zgo (v:=.int 8) (by rfl) hU ⟨_,rfl⟩) (Zaz _)) Zb4 Zas)
    (Zad (Zeq hu (pv 1) (pv 2) Zgz rfl)))))))),?_⟩
  have hvl:=hp.length
  have g1:=g.ne
  have g2:=g.le
  refine ⟨_,rfl,_,_,rfl,Znq hl,_,_,rfl,rfl,_,rfl,?_⟩
  rw [show decide ((1:Int)≤(vs.length:Int))=true from decide_eq_true (by omega)]
  refine Zqt ⟨_,_,rfl,rfl,_,rfl,?_⟩
  rw [show (decide ((vs.length:Int)≤24))=true from decide_eq_true (by omega)]
  refine Zht ?_
  intro d hd
  have s0:Zal H (upd H d (.dK [])):=fun b o e=>by rw [Zac (nNo e hd)];exact e
  refine ⟨_,rfl,b,l,vs,rfl,hl.mono s0,Za6 Zoq (fun i σ H'=>∃ (kvs:List (Key×V)) (a c:Option V),σ=[some (.ref l),some (.ref d),a,c]∧Zal H H'∧H' d=some (.dK kvs)∧kvs.map (·.1)=(rows.take i).map fun r=>(Sum.inr r.1:Key))
   ⟨[],none,none,rfl,s0,uS,by simp⟩ (fun i σ H' _ ⟨_,_,_,_,s,_⟩=>hl.mono s) ?_ ?_⟩
  ·rintro i v σ H' hi ⟨kvs,a,c,rfl,s,hdk,hk⟩
   obtain ⟨r,hr',t,u,rfl,ht,hug⟩:=Zam hp hi
   obtain ⟨b',hu'⟩:=hug.sq
   have hmem:r∈rows:=List.mem_of_getElem? hr'
   have hw:=g.word r hmem
   have hwl:=Zhz hw
   refine ⟨t,_,rfl,s.tup ht,rfl,_,_,rfl,_,_,rfl,rfl,?_⟩
   refine ⟨_,rfl,r.1,rfl,by omega,fun H2 s2=>⟨_,rfl,?_⟩⟩
   rw [hw]
   refine Zht ?_
   have hd2:H2 d=some (.dK kvs):=s2 _ _ hdk
   refine ⟨_,rfl,_,rfl,d,_,rfl,Zgf.k (k:=Sum.inr r.1) hd2,_,rfl,?_⟩
   have hnew:(Sum.inr r.1:Key)∉kvs.map (·.1):=by rw [hk];exact Zfp g.nd hr'
   rw [Zdi hnew]
   refine Zht ?_
   refine ⟨_,rfl,_,_,rfl,Znq (hu'.mono (s.trans s2)),_,_,rfl,rfl,_,rfl,?_⟩
   rw [show decide ((8:Int)<((r.2.map V.str).length:Int))=false from decide_eq_false (by rw [List.length_map];have:=g.few r hmem;omega)]
   refine Zht ?_
   have hkl:kvs.length=(rows.take i).length:=by have:=congrArg List.length hk;simpa using this
   have hil:(rows.take i).length≤24:=by rw [List.length_take];omega
   refine ⟨_,rfl,_,rfl,d,_,rfl,Zla.k (k:=Sum.inr r.1) hd2 (Za2 (by omega)),?_⟩
   refine ⟨_,_,_,rfl,fun b o e=>?_,uS,?_⟩
   ·rw [Zac (nNo e hd)];exact s2 _ _ (s _ _ e)
   ·rw [Zih hnew,hk,List.take_add_one,hr',List.map_append]
    rfl
  ·rintro σ H' ⟨kvs,a,c,rfl,s,hdk,hk⟩
   exact q H' s
theorem Z3h:Zap ["ups_of","ups","seen","up"] ["ups_of"] (Zab Zc7):=⟨rfl,rfl,rfl,by decide +kernel,rfl,by decide +kernel,by decide +kernel⟩
theorem Zia {us:List Str}{i:Nat}{v:V}(h:(us.map V.str)[i]?=some v):∃ x,us[i]?=some x∧v=.str x:=by
 rw [List.getElem?_map] at h
 obtain ⟨x,hx,e⟩:=Option.map_eq_some_iff.mp h
 exact ⟨x,hx,e.symm⟩
theorem Zq9 {us:List Str}{i:Nat}{x:Str}(nd:us.Nodup) (h:us[i]?=some x):(Sum.inr x:Key)∉(us.take i).map fun y=>(Sum.inr y:Key):=by
 intro m
 obtain ⟨y,hy,e⟩:=List.mem_map.mp m
 have e:y=x:=by injection e
 subst e
 obtain ⟨j,hj,ej⟩:=List.mem_iff_getElem.mp hy
 rw [List.length_take] at hj
 rw [List.getElem_take] at ej
 have a:us[j]?=some y:=by rw [List.getElem?_eq_getElem (by omega),ej]
 have:=Zf8 nd a h
 omega
theorem Zl3 {f:Addr}{fd:FuncData}(F:Def K mg "check_ups" Zc7 ["ups_of"] f fd):Za3 P w K mg base CX0 1 f fd ["ups_of"] Zjm:=by
 refine F.fn.ok Z3h (fun vs H Q E h=>?_) (fun cdv A outer s H vs Q E hr h=>?_)
 ·obtain ⟨d,o,rows,kvs,rfl,_⟩:=h
  rfl
 ·obtain ⟨d,o,rows,kvs,rfl,bk,g,q⟩:=h
  have nd:=Z3h.nd
  have hu:=Zfw hr
  refine ⟨_,Zad (Zbw PassesOwn.never rfl (Zxg (pv 0)) (Zah (i:=1) nd rfl (Or.inl rfl))
    (pS (Zag (i:=2) nd rfl (Or.inl rfl) Zf5)
    (Zad (Zbw PassesOwn.never rfl (Zik (pv 1)) (Zah (i:=3) nd rfl (Or.inl rfl))
     (pS (Zbe (Zii (Zlw hu (pv 3) (pv 0))) Zb4 Zas)
     (pS (Zbe (Zii (Zlx hu (pv 3) (pv 2))) Zb4 Zas)
     (Zad (Zeq hu (pv 2) (pv 3) Zgz rfl)))))))),?_⟩
  refine ⟨_,rfl,d,o,kvs,rfl,bk.at_,Za6 Zrx (fun i σ H'=>∃ (a b c:Option V),σ=[some (.ref d),a,b,c]∧Zal H H') ⟨none,none,none,rfl,Zal.refl H⟩ (fun i σ H' _ ⟨_,_,_,_,s⟩=>s _ _ bk.at_) ?_ ?_⟩
  ·rintro i v σ H' hi ⟨a,b,c,rfl,s⟩
   rw [List.getElem?_map] at hi
   obtain ⟨p,hp,e⟩:=Option.map_eq_some_iff.mp hi
   obtain ⟨r,hr',hk,t,ht,htup⟩:=Zam bk.ups hp
   have hmem:r∈rows:=List.mem_of_getElem? hr'
   subst e
   show Zet 1 p.2 _ _ _
   rw [ht]
   intro sd hsd
   have s1:Zal H (upd H' sd (.dK [])):=fun b o e=>by rw [Zac (nNo (s _ _ e) hsd)];exact s _ _ e
   have t1:(upd H' sd (.dK [])) t=some (.tup (r.2.map V.str)):=s1 _ _ htup
   refine ⟨_,rfl,t,rfl,⟨_,SqT.of t1⟩,Za6 (Zfc (xs:=r.2.map V.str)) (fun j σ H2=>∃ (kvs':List (Key×V)) (c:Option V),σ=[some (.ref d),some (.ref t),some (.ref sd),c]∧Zal H H2∧H2 sd=some (.dK kvs')∧kvs'.map (·.1)=(r.2.take j).map fun y=>(Sum.inr y:Key))
    ⟨[],_,rfl,s1,uS,by simp⟩ (fun j σ H2 _ ⟨_,_,_,s,_⟩=>SqT.of (s _ _ htup)) ?_ ?_⟩
   ·rintro j v σ H2 hj ⟨kvs',c,rfl,s2,hsd2,hk'⟩
    obtain ⟨x,hx,rfl⟩:=Zia hj
    have xm:x∈r.2:=List.mem_of_getElem? hx
    have known:=g.known r hmem x xm
    refine ⟨_,rfl,_,rfl,d,_,rfl,Zgf.f (k:=Sum.inr x) (s2 _ _ bk.at_),_,rfl,?_⟩
    obtain ⟨r2,hr2,er2⟩:=List.mem_map.mp known
    obtain ⟨t2,hv2,_⟩:=bk.ups.val g.nd hr2
    rw [← er2,hv2,er2]
    refine Zht ?_
    have hnew:(Sum.inr x:Key)∉kvs'.map (·.1):=by rw [hk'];exact Zq9 (g.upnd r hmem) hx
    refine ⟨_,rfl,_,rfl,sd,_,rfl,Zgf.k (k:=Sum.inr x) hsd2,_,rfl,?_⟩
    rw [Zdi hnew]
    refine Zht ?_
    have hkl:kvs'.length=(r.2.take j).length:=by have:=congrArg List.length hk';simpa using this
    have hjl:(r.2.take j).length≤8:=by rw [List.length_take];have:=g.few r hmem;omega
    have hsH:H sd=none:=s.free hsd
    refine ⟨_,rfl,_,rfl,sd,_,rfl,Zla.k (k:=Sum.inr x) hsd2 (Za2 (by omega)),_,_,rfl,fun b o e=>?_,uS,?_⟩
    ·rw [Zac (nNo e hsH)];exact s2 _ _ e
    ·rw [Zih hnew,hk',List.take_add_one,hx,List.map_append]
     rfl
   ·rintro σ H2 ⟨kvs',c,rfl,s2,hsd2,hk'⟩
    exact ⟨_,_,_,rfl,s2⟩
  ·rintro σ H' ⟨a,b,c,rfl,s⟩
   exact q H' s
theorem Z3e:Zap ["words","others","word"] ["words","others"] (Zab Zbo):=⟨rfl,rfl,rfl,by decide +kernel,rfl,by decide +kernel,by decide +kernel⟩
theorem Zu2 {f:Addr}{fd:FuncData}(F:Def K mg "first_among" Zbo ["words","others"] f fd):Za3 P w K mg base CX0 1 f fd ["words","others"] (Zrk K):=by
 refine F.fn.ok Z3e (fun vs H Q E h=>?_) (fun cdv A outer s H vs Q E hr h=>?_)
 ·obtain ⟨a,b,us,left,rfl,_⟩:=h
  rfl
 ·obtain ⟨a,b,us,left,rfl,ha,hb,q⟩:=h
  have nd:=Z3e.nd
  refine ⟨_,pS (Zbw PassesOwn.never rfl (Zik (pv 0)) (Zah (i:=2) nd rfl (Or.inl rfl)) (Zad (Zbe (Zaq Zip (pv 2) (pv 1) (by with_unfolding_all rfl)) (Zad (Zat (pv 2))) Zas)))
   (Zad (Zat Zjq)),?_⟩
  refine ⟨_,rfl,a,rfl,⟨_,ha⟩,Za6 (Zfc (xs:=us.map V.str)) (fun i σ H'=>H'=H∧(∃ c:Option V,σ=[some (.ref a),some (.ref b),c])∧(us.take i).find? (fun x=>decide (x∈left))=none) ⟨rfl,⟨none,rfl⟩,by simp⟩ (fun i σ H' _ ⟨e,_⟩=>by rw [e];exact ha) ?_ ?_⟩
  ·rintro i v σ H' hi ⟨rfl,⟨c,rfl⟩,hf⟩
   obtain ⟨x,hx,rfl⟩:=Zia hi
   refine ⟨_,rfl,_,rfl,b,_,rfl,.inl hb,rfl,Zg8 left,_,rfl,?_⟩
   show if inV (.str x) (left.map V.str)=true then _ else _
   rw [Zi4]
   have split:us=us.take i++x :: us.drop (i + 1):=by
    have hlt:=(List.getElem?_eq_some_iff.mp hx).1
    have e:us[i]=x:=(List.getElem?_eq_some_iff.mp hx).2
    rw [← e,List.getElem_cons_drop hlt,List.take_append_drop]
   refine Zdu (fun h=>?_) (fun h=>?_)
   ·have fv:Zhu us left=.str x:=by
     unfold Zhu
     rw [split,List.find?_append,hf,List.find?_cons]
     simp only [h]
     rfl
    rw [fv] at q
    exact ⟨_,rfl,q⟩
   ·refine ⟨rfl,⟨_,rfl⟩,?_⟩
    rw [List.take_add_one,hx,List.find?_append,hf]
    have h':decide (x∈left)=false:=by simpa using h
    simp [h']
  ·rintro σ H' ⟨rfl,⟨c,rfl⟩,hf⟩
   rw [List.length_map,List.take_length] at hf
   have fv:Zhu us left=.non:=by unfold Zhu;rw [hf]
   rw [fv] at q
   exact q
end
end K46
namespace K46
open PySem L2 Md
def Zx5 (rows:List (Str×List Str)) (ls:List Str):V→Bool
 | .str x=>(Zcw rows x).any fun u=>decide (u∈ls)
 | _=>false
theorem Zvg (rows:List (Str×List Str)) (ls:List Str):((ls.map V.str).filter (Zx5 rows ls)).map (fun v=>v)=(Graph.kept (Zcw rows) ls).map V.str:=by
 rw [List.map_id',List.filter_map]
 rfl
theorem Zvp (us ls:List Str):(!decide (Zhu us ls=V.non))=us.any fun u=>decide (u∈ls):=by
 unfold Zhu
 cases e:us.find? fun x=>decide (x∈ls) with
 | none =>
  have:∀ x∈us,¬ decide (x∈ls)=true:=List.find?_eq_none.mp e
  rw [Bool.eq_iff_iff]
  constructor
  ·intro h;simp at h
  ·intro h
   obtain ⟨x,hx,h1⟩:=List.any_eq_true.mp h
   exact absurd h1 (this x hx)
 | some x =>
  have h1:=List.find?_some e
  have h2:=List.mem_of_find?_eq_some e
  rw [Bool.eq_iff_iff]
  constructor
  ·intro _;exact List.any_eq_true.mpr ⟨x,h2,h1⟩
  ·intro _;rfl
section
variable {P:Program} {w:World} {K:PySem.W.Frag} {mg:Str→Option Value} {base:Heap}
abbrev Z3q:List Str:=["ups_of","left","kept"]
theorem scE:Zap Z3q ["ups_of"] (Zab Zdk):=⟨rfl,rfl,rfl,by decide +kernel,rfl,by decide +kernel,by decide +kernel⟩
theorem Zz4:(["word","ups_of","left"]:List Str).Nodup:=by decide +kernel
theorem Zew {rows:List (Str×List Str)}{x:Str}(h:x∈rows.map (·.1)):∃ r∈rows,r.1=x:=by
 obtain ⟨r,hr,e⟩:=List.mem_map.mp h
 exact ⟨r,hr,e⟩
theorem Zp7 {f fF:Addr}{fd fdF:FuncData}(F:Def K mg "endless" Zdk ["ups_of"] f fd) (DF:Def K mg "first_among" Zbo ["words","others"] fF fdF) (T:Zyv mg):Za3 P w K mg base CX0 2 f fd ["ups_of"] Zll:=by
 have GF:Za3 P w K mg base CX0 1 fF fdF ["words","others"] (Zrk K):=Zu2 DF
 refine F.fn.ok scE (fun vs H Q E h=>?_) (fun cdv A outer s H vs Q E hr h=>?_)
 ·obtain ⟨d,o,rows,kvs,rfl,_⟩:=h
  rfl
 ·obtain ⟨d,o,rows,kvs,rfl,bk,g,q⟩:=h
  have nd:=scE.nd
  have hu:=Zfw hr
  refine ⟨_,pS (Zag (i:=1) nd rfl (Or.inr rfl) (Zc2 (Zgj rfl) (by rfl) T.list PyProof.Rows.boot_list (pC (pv 0) Zaa)))
   (Zad (Zgy PassesOwn.never (Zfl Zgz)
    (pS (Zel (k:=2) ["word"] ["ups_of","left"] [0,1] nd rfl rfl (fun _=>Za0 (osc:=Zab Zdk) (on:=Z3q) (by decide +kernel) rfl rfl rfl) (Zbd (pv 1)) (fun C s H fp=>Zah (i:=0) Zz4 rfl (Or.inl rfl) (Or.inr rfl))
     (fun C s H fp=>Zhh (Zii (Zsf (Zaf DF GF hr (pC (Zer hu (pv 1) (pv 0) (fun _ _=>rfl)) (pC (pv 2) Zaa)))))) (fun C s H fp=>pv 0))
    (pS (Zbe (Zaq Zd1 (Zan Zdy (by rfl) T.len PySem.boot_len (pC (pv 2) Zaa)) (Zan Zdy (by rfl) T.len PySem.boot_len (pC (pv 1) Zaa)) (Zaz _)) (Zad (Zat (pv 2))) Zas)
    (Zad (Zag (i:=1) nd rfl (Or.inr rfl) (pv 2))))))),?_⟩
  have wl:(rows.map (·.1)).length≤24:=by rw [List.length_map];exact g.le
  refine ⟨_,rfl,d,kvs,rfl,.inr ⟨o,bk.at_⟩,fun l0 hl0=>?_⟩
  refine ⟨fun m σ H'=>∃ (ll:Addr) (ls:List Str) (c:Option V),σ=[some (.ref d),some (.ref ll),c]∧Zal H H'∧H' ll=some (.lst (ls.map V.str))∧(∀ x∈ls,x∈rows.map (·.1))∧ls.length≤24∧m=ls.length,
   ⟨_,l0,rows.map (·.1),none,rfl,fun b o e=>by rw [Zac (nNo e hl0)];exact e,by rw [uS,Z0h bk.ups],fun x h=>h,wl,rfl⟩,?_⟩
  rintro m σ H' ⟨ll,ls,c,rfl,s1,hll,hsub,h24,rfl⟩
  refine ⟨true,rfl,?_⟩
  refine Zqt ⟨fun σ' H2=>∃ m',m'<ls.length∧∃ (ll:Addr) (ls:List Str) (c:Option V),σ'=[some (.ref d),some (.ref ll),c]∧Zal H H2∧H2 ll=some (.lst (ls.map V.str))∧(∀ x∈ls,x∈rows.map (·.1))∧ls.length≤24∧m'=ls.length,fun _ _ h=>h,?_⟩
  refine ⟨_,rfl,ll,rfl,⟨_,SqL.of hll⟩,Ze9 (Zav (xs:=ls.map V.str)) (sL (by rw [List.length_map];omega)) (Zx5 rows ls) (fun v=>v) (fun D ys hD=>SqL.of (by rw [Zac (nNo hll hD)];exact hll)) ?_ ?_ ?_⟩
  ·intro D ys v R hD hv hR
   obtain ⟨x,hx,rfl⟩:=List.mem_map.mp hv
   obtain ⟨r,hr',rfl⟩:=Zew (hsub x hx)
   obtain ⟨t,hvt,ht⟩:=bk.ups.val g.nd hr'
   have kp:∀ b o,H b=some o→(upd H' D (.lst ys)) b=some o:=fun b o e=>by rw [Zac (nNo (s1 _ _ e) hD)];exact s1 _ _ e
   refine ⟨_,rfl,_,rfl,d,_,rfl,(by rw [← hvt];exact Zgf.f (k:=Sum.inr r.1) (kp _ _ bk.at_)),_,rfl,t,ll,r.2,ls,rfl,SqT.of (kp _ _ ht),SqL.of (by rw [Zac (nNo hll hD)];exact hll),_,rfl,?_⟩
   have e:(!decide (Zhu r.2 ls=V.non))=Zx5 rows ls (V.str r.1):=by
    rw [Zvp]
    show _=(Zcw rows r.1).any _
    rw [Zgu g.nd hr']
   rw [e]
   exact hR
  ·intro D ys v R hD hv _ hR
   exact ⟨_,rfl,hR⟩
  ·intro D hD
   rw [Zvg]
   have hDl:(upd H' D (.lst ((Graph.kept (Zcw rows) ls).map V.str))) ll=some (.lst (ls.map V.str)):=by rw [Zac (nNo hll hD)];exact hll
   have s2:Zal H (upd H' D (.lst ((Graph.kept (Zcw rows) ls).map V.str))):=fun b o e=>by rw [Zac (nNo (s1 _ _ e) hD)];exact s1 _ _ e
   refine ⟨_,rfl,_,_,rfl,.inl ⟨_,SqL.of uS,rfl⟩,_,rfl,_,_,rfl,.inl ⟨_,SqL.of hDl,rfl⟩,rfl,_,rfl,?_⟩
   have kle:=Graph.kept_le (Zcw rows) ls
   refine Zdu (fun h=>?_) (fun h=>?_)
   ·have h:(Graph.kept (Zcw rows) ls).length=ls.length:=by
     have:=of_decide_eq_true h
     injection this with this
     rw [List.length_map,List.length_map] at this
     omega
    obtain ⟨rk,hrk⟩:=g.rank
    have nil:ls=[]:=Graph.kept_nil (rk:=rk) (fun a ha b hb=>by
     obtain ⟨r,hr',rfl⟩:=Zew (hsub a ha)
     rw [Zgu g.nd hr'] at hb
     exact hrk r hr' b hb) h
    have kn:Graph.kept (Zcw rows) ls=[]:=by rw [nil];rfl
    refine ⟨_,rfl,q D _ s2 ?_⟩
    rw [uS,kn]
    rfl
   ·have h:(Graph.kept (Zcw rows) ls).length≠ls.length:=fun z=>h (decide_eq_true (by rw [List.length_map,List.length_map,z]))
    exact ⟨_,rfl,_,by omega,D,_,_,rfl,s2,uS,fun x hx=>hsub x (Graph.kept_sub hx),by omega,rfl⟩
theorem scR:Zap ["ups_of","left","way","here"] ["ups_of"] (Zab Zc6):=⟨rfl,rfl,rfl,by decide +kernel,rfl,by decide +kernel,by decide +kernel⟩
theorem Zxq {f fE fF:Addr}{fd fdE fdF:FuncData}(F:Def K mg "find_ring" Zc6 ["ups_of"] f fd) (DE:Def K mg "endless" Zdk ["ups_of"] fE fdE) (DF:Def K mg "first_among" Zbo ["words","others"] fF fdF) (T:Zyv mg):Za3 P w K mg base CX0 3 f fd ["ups_of"] Zv7:=by
 have GE:Za3 P w K mg base CX0 2 fE fdE ["ups_of"] Zll:=Zp7 DE DF T
 refine F.fn.ok scR (fun vs H Q E h=>?_) (fun cdv A outer s H vs Q E hr h=>?_)
 ·obtain ⟨d,o,rows,kvs,rfl,_⟩:=h
  rfl
 ·obtain ⟨d,o,rows,kvs,rfl,bk,g,q⟩:=h
  have nd:=scR.nd
  refine ⟨_,pS (Zag (i:=1) nd rfl (Or.inl rfl) (Zaf DE GE hr (pC (pv 0) Zaa)))
   (pS (Zbe (Zef (Zkd (pv 1) (fun _=>rfl))) (Zad (Zat Zjq)) Zas) Zb4),?_⟩
  refine ⟨_,rfl,d,o,rows,kvs,rfl,bk,g,fun l H' s1 hl=>?_⟩
  exact ⟨_,rfl,false,.inl ⟨[],SqL.of hl,rfl⟩,Zqt (q H' s1)⟩
def inK (x:Str):Key:=Sum.inr x
def Zrq:Sp:=fun vs H Q _=>∃ (d:Addr) (o:Obj) (rows:List (Str×List Str)) (kvs:List (Key×V)) (x:Str),vs=[.ref d,.str x]∧Zjh H d o rows kvs∧Zek rows∧x∈rows.map (·.1) ∧
 ∀ a o' fk H',H a=none→Zal H H'→H' a=some (.frz o' (.dK fk))→(∀ y,(Sum.inr y:Key)∈fk.map (·.1)↔Graph.Reach (Zcw rows) x y)→Q (.ref a) H'
structure Zys (rows:List (Str×List Str)) (x:Str) (fs ws:List Str):Prop where
 start:x∈fs
 sub:∀ y∈ws,y∈fs
 known:∀ y∈fs,y∈rows.map (·.1)
 nd:fs.Nodup
 reach:∀ y∈fs,Graph.Reach (Zcw rows) x y
 closed:∀ y∈fs,y∉ws→∀ u∈Zcw rows y,u∈fs
 few:ws.length≤fs.length
theorem scA:Zap ["ups_of","word","found","waiting","here","up"] ["ups_of","word"] (Zab Zc9):=⟨rfl,rfl,rfl,by decide +kernel,rfl,by decide +kernel,by decide +kernel⟩
theorem Zi0 {fk:List (Key×V)}{fs:List Str}(h:fk.map (·.1)=fs.map inK) (y:Str):(Sum.inr y:Key)∈fk.map (·.1)↔y∈fs:=by
 rw [h]
 constructor
 ·intro m
  obtain ⟨z,hz,e⟩:=List.mem_map.mp m
  have e:z=y:=by
   unfold inK at e
   injection e
  rw [← e];exact hz
 ·intro m
  exact List.mem_map.mpr ⟨y,m,rfl⟩
theorem Zgl {fk:List (Key×V)}{k:Key}(h:k∈fk.map (·.1)):(Zf2 fk k).isSome=true:=by
 cases e:Zf2 fk k with
 | none=>exact absurd h (Zua e)
 | some v=>rfl
theorem Zu9 {f:Addr}{fd:FuncData}(F:Def K mg "all_above" Zc9 ["ups_of","word"] f fd):Za3 P w K mg base CX0 1 f fd ["ups_of","word"] Zrq:=by
 refine F.fn.ok scA (fun vs H Q E h=>?_) (fun cdv A outer s H vs Q E hr h=>?_)
 ·obtain ⟨d,o,rows,kvs,x,rfl,_⟩:=h
  rfl
 ·obtain ⟨d,o,rows,kvs,x,rfl,bk,g,hx,q⟩:=h
  have nd:=scA.nd
  have hu:=Zfw hr
  refine ⟨_,pS (Zag (i:=2) nd rfl (Or.inl rfl) (Zxj (Zuo (pv 1) Zgz Zxf) rfl rfl (by simp) (by show 1≤15;decide)))
   (pS (Zag (i:=3) nd rfl (Or.inl rfl) (Zb9 (pC (pv 1) Zaa)))
   (pS (Zgy PassesOwn.never (Zkd (pv 3) (fun _=>rfl))
    (pS (Zag (i:=4) nd rfl (Or.inl rfl) (Zow PySem.F.plainAttrs_list PySem.F.slot_list_pop PySem.F.type_list_pop Zwn (pv 3)))
    (Zad (Zbw PassesOwn.never rfl (Zik (Zer hu (pv 0) (pv 4) (fun _ _=>rfl))) (Zah (i:=5) nd rfl (Or.inl rfl))
     (Zad (Zbe (Zii (Zlw hu (pv 5) (pv 2))) (pS (Zeq hu (pv 2) (pv 5) Zgz rfl)
      (Zad (Za9 (Zej PySem.F.plainAttrs_list PySem.F.slot_list_append PySem.F.type_list_append Zb6 (pv 3) (pC (pv 5) Zaa))))) Zas))))))
   (Znb (Zad (Zat (pv 2)))))),?_⟩
  intro fa hfa
  refine ⟨_,rfl,uS,[(Sum.inr x,.bl true)],rfl,(by show 1≤15;decide),?_⟩
  rw [Zhf]
  refine ⟨_,rfl,sL (by show 1≤100000;decide),fun wa hwa=>?_⟩
  have fw:fa≠wa:=nNo uS hwa
  have hwaH:H wa=none:=by
   cases e:H wa with
   | none=>rfl
   | some u=>rw [Zac (Ne.symm fw),e] at hwa;cases hwa
  have bound:∀ {fs ws:List Str},Zys rows x fs ws→fs.length≤rows.length:=fun {fs ws} h=>by
   have:=Graph.nodup_le h.nd h.known
   rwa [List.length_map] at this
  have gle:=g.le
  refine ⟨fun m σ H'=>∃ (fs ws:List Str) (fk:List (Key×V)) (a b:Option V),σ=[some (.ref d),some (.str x),some (.ref fa),some (.ref wa),a,b]∧Zal H H'∧H' fa=some (.dK fk)∧fk.map (·.1)=fs.map inK∧H' wa=some (.lst (ws.map V.str))∧Zys rows x fs ws∧m + 2 * fs.length=2 * rows.length + ws.length,
   ⟨2 * rows.length - 1,[x],[x],[(Sum.inr x,.bl true)],none,none,rfl,fun b o e=>by rw [Zac (nNo e hwaH),Zac (nNo e hfa)];exact e,by rw [Zac fw];exact uS,rfl,uS,
    ⟨by simp,fun y h=>h,fun y h=>by rw [List.mem_singleton.mp h];exact hx,by simp,fun y h=>by rw [List.mem_singleton.mp h];exact .refl x,fun y h n=>absurd h n,Nat.le_refl _⟩,by have:=g.ne;simp;omega⟩,?_⟩
  rintro m σ H' ⟨fs,ws,fk,a,b,rfl,s1,hf,hk,hw,go,hm⟩
  have flen:=bound go
  refine ⟨_,rfl,_,.inl ⟨_,SqL.of hw,rfl⟩,?_⟩
  refine Zdu (fun hne=>?_) (fun hne=>?_)
  ·-- here=waiting.pop()
   have wne:ws≠[]:=by
    intro z
    rw [z] at hne
    cases hne
   have hpos:0<ws.length:=List.length_pos_iff.mpr wne
   have split:ws=ws.dropLast++[ws.getLast wne]:=(List.dropLast_concat_getLast wne).symm
   generalize hhere:ws.getLast wne=here at split
   have hmem:here∈ws:=by rw [split];simp
   have hfs:here∈fs:=go.sub here hmem
   obtain ⟨r,hr',er⟩:=Zew (go.known here hfs)
   obtain ⟨t,hvt,ht⟩:=bk.ups.val g.nd hr'
   have last:(ws.map V.str)[(ws.map V.str).length - 1]?=some (V.str here):=by
    rw [List.getElem?_map,List.length_map]
    have:ws[ws.length - 1]?=some here:=by
     rw [← hhere,List.getLast_eq_getElem,List.getElem?_eq_getElem (by omega)]
    rw [this]
    rfl
   refine ⟨fun σ' H2=>∃ m',m'<m∧∃ (fs ws:List Str) (fk:List (Key×V)) (a b:Option V),σ'=[some (.ref d),some (.str x),some (.ref fa),some (.ref wa),a,b]∧Zal H H2∧H2 fa=some (.dK fk)∧fk.map (·.1)=fs.map inK∧H2 wa=some (.lst (ws.map V.str))∧Zys rows x fs ws∧m' + 2 * fs.length=2 * rows.length + ws.length,fun _ _ h=>h,?_⟩
   refine ⟨_,rfl,.inl ⟨rfl,_,SqL.of hw⟩,wa,_,_,rfl,rfl,hw,last,?_⟩
   have s2:Zal H (upd H' wa (.lst (ws.map V.str).dropLast)):=fun b o e=>by rw [Zac (nNo e hwaH)];exact s1 _ _ e
   refine ⟨_,rfl,_,rfl,d,_,rfl,(by rw [← hvt,er];exact Zgf.f (k:=Sum.inr here) (s2 _ _ bk.at_)),t,rfl,⟨_,SqT.of (s2 _ _ ht)⟩,?_⟩
   have uo:Zcw rows here=r.2:=by rw [← er];exact Zgu g.nd hr'
   refine Za6 (Zfc (xs:=r.2.map V.str)) (fun j σ H2=>∃ (fs' ws':List Str) (fk':List (Key×V)) (b:Option V),σ=[some (.ref d),some (.str x),some (.ref fa),some (.ref wa),some (.str here),b]∧Zal H H2∧H2 fa=some (.dK fk')∧fk'.map (·.1)=fs'.map inK∧H2 wa=some (.lst (ws'.map V.str)) ∧
    (∀ y∈fs,y∈fs')∧(∀ y∈ws.dropLast,y∈ws')∧(∀ y∈ws',y∈fs')∧(∀ y∈fs',y∈rows.map (·.1))∧fs'.Nodup∧(∀ y∈fs',Graph.Reach (Zcw rows) x y)∧(∀ y∈fs',y∈fs∨y∈ws')∧(∀ u∈r.2.take j,u∈fs')∧ws'.length + 2 * fs.length + fs'.length≤ws.dropLast.length + 2 * fs'.length + fs.length)
    ⟨fs,ws.dropLast,fk,_,rfl,s2,by rw [Zac fw];exact hf,hk,by rw [uS,List.map_dropLast],fun y h=>h,fun y h=>h,fun y h=>go.sub y ((List.dropLast_sublist ws).subset h),go.known,go.nd,go.reach,fun y h=>.inl h,fun u h=>by simp at h,by omega⟩ (fun j σ H2 _ ⟨_,_,_,_,_,s,_⟩=>SqT.of (s _ _ ht)) ?_ ?_
   ·rintro j v σ H2 hj ⟨fs',ws',fk',b,rfl,s3,hf3,hk3,hw3,c1,c2,c3,c4,c5,c6,c7,c8,c9⟩
    obtain ⟨u,hu',rfl⟩:=Zia hj
    have um:u∈r.2:=List.mem_of_getElem? hu'
    have fl3:fs'.length≤rows.length:=by
     have:=Graph.nodup_le c5 c4
     rwa [List.length_map] at this
    have kl:fk'.length=fs'.length:=by have:=congrArg List.length hk3;simpa using this
    refine ⟨_,rfl,_,rfl,fa,_,rfl,Zgf.k (k:=Sum.inr u) hf3,_,rfl,?_⟩
    have dl:ws.dropLast.length=ws.length - 1:=List.length_dropLast
    have gf:=go.few
    by_cases nin:u∉fs'
    ·have nk:(Sum.inr u:Key)∉fk'.map (·.1):=fun z=>nin ((Zi0 hk3 u).mp z)
     have wl3:ws'.length≤rows.length * 3:=by omega
     rw [Zdi nk]
     refine Zqt ?_
     refine ⟨_,rfl,_,rfl,fa,_,rfl,Zla.k (k:=Sum.inr u) hf3 (Za2 (by omega)),?_⟩
     have hw4:(upd H2 fa (.dK (Zgh fk' (Sum.inr u) (.bl true)))) wa=some (.lst (ws'.map V.str)):=by rw [Zac (Ne.symm fw)];exact hw3
     refine ⟨_,rfl,.inl ⟨rfl,_,SqL.of hw4⟩,_,rfl,wa,_,_,rfl,rfl,hw4,Za2 (by rw [List.length_map];omega),?_⟩
     refine ⟨fs'++[u],ws'++[u],Zgh fk' (Sum.inr u) (.bl true),_,rfl,fun b o e=>by rw [Zac (nNo e hwaH),Zac (nNo e hfa)];exact s3 _ _ e,by rw [Zac fw];exact uS,?_,by rw [uS,List.map_append];rfl,fun y h=>List.mem_append_left _ (c1 y h),fun y h=>List.mem_append_left _ (c2 y h),fun y h=>?_,fun y h=>?_,?_,fun y h=>?_,fun y h=>?_,fun y h=>?_,?_⟩
     ·rw [Zih nk,hk3,List.map_append]
      rfl
     ·rcases List.mem_append.mp h with h | h
      ·exact List.mem_append_left _ (c3 y h)
      ·exact List.mem_append_right _ h
     ·rcases List.mem_append.mp h with h | h
      ·exact c4 y h
      ·rw [List.mem_singleton.mp h];exact g.known r hr' u um
     ·rw [List.nodup_append]
      exact ⟨c5,by simp,fun a ha b hb e=>nin (by rw [← List.mem_singleton.mp hb,← e];exact ha)⟩
     ·rcases List.mem_append.mp h with h | h
      ·exact c6 y h
      ·rw [List.mem_singleton.mp h];exact (go.reach here hfs).snoc (by rw [uo];exact um)
     ·rcases List.mem_append.mp h with h | h
      ·rcases c7 y h with h | h
       ·exact .inl h
       ·exact .inr (List.mem_append_left _ h)
      ·exact .inr (List.mem_append_right _ h)
     ·rw [List.take_add_one,hu'] at h
      rcases List.mem_append.mp h with h | h
      ·exact List.mem_append_left _ (c8 y h)
      ·have:y=u:=by simpa using h
       rw [this];exact List.mem_append_right _ (by simp)
     ·rw [List.length_append,List.length_append]
      simp only [List.length_singleton]
      omega
    ·have yin:u∈fs':=Classical.byContradiction nin
     rw [Zgl ((Zi0 hk3 u).mpr yin)]
     refine Zht ?_
     refine ⟨fs',ws',fk',_,rfl,s3,hf3,hk3,hw3,c1,c2,c3,c4,c5,c6,c7,fun y h=>?_,c9⟩
     rw [List.take_add_one,hu'] at h
     rcases List.mem_append.mp h with h | h
     ·exact c8 y h
     ·have:y=u:=by simpa using h
      rw [this];exact yin
   ·rintro σ H2 ⟨fs',ws',fk',b,rfl,s3,hf3,hk3,hw3,c1,c2,c3,c4,c5,c6,c7,c8,c9⟩
    rw [List.length_map,List.take_length] at c8
    have fl3:fs'.length≤rows.length:=by
     have:=Graph.nodup_le c5 c4
     rwa [List.length_map] at this
    have dl:ws.dropLast.length=ws.length - 1:=List.length_dropLast
    have fle:fs.length≤fs'.length:=Graph.nodup_le go.nd c1
    have gf:=go.few
    refine ⟨2 * rows.length + ws'.length - 2 * fs'.length,by omega,fs',ws',fk',_,_,rfl,s3,hf3,hk3,hw3,⟨c1 x go.start,c3,c4,c5,c6,fun y hy hn u hu'=>?_,by omega⟩,by omega⟩
    rcases c7 y hy with hy' | hy'
    ·by_cases yh:y=here
     ·rw [yh,uo] at hu'
      exact c8 u hu'
     ·have nw:y∉ws:=fun z=>by
       rw [split] at z
       rcases List.mem_append.mp z with z | z
       ·exact hn (c2 y z)
       ·exact yh (List.mem_singleton.mp z)
      exact c1 u (go.closed y hy' nw u hu')
    ·exact absurd hy' hn
  ·have wnil:ws=[]:=by
    cases ws with
    | nil=>rfl
    | cons y r=>exact absurd rfl hne
   refine ⟨fa,fk,hf,fun o'=>⟨_,rfl,q fa o' fk _ hfa (fun b o e=>by rw [Zac (nNo e hfa)];exact s1 _ _ e) uS fun y=>?_⟩⟩
   rw [Zi0 hk y]
   constructor
   ·exact fun h=>go.reach y h
   ·intro h
    refine Graph.closed_reach (S:=fun y=>y∈fs) (fun y hy u hu'=>go.closed y hy (by rw [wnil];simp) u hu') h go.start
end
end K46
namespace K46
open PySem L2 Md
theorem fne:¬ (("ups_of":Str)="above_of"):=by decide +kernel
def Zqu (d a:Addr):List (Str×V):=Zgn "above_of" (.ref a) (Zgn "ups_of" (.ref d) [])
theorem Zwp (d a:Addr):(Zqu d a).lookup ("ups_of":Str)=some (.ref d):=by
 unfold Zqu
 rw [Zbb,if_neg fne,Zbb,if_pos rfl]
theorem Z0q (d a:Addr):(Zqu d a).lookup ("above_of":Str)=some (.ref a):=by
 unfold Zqu
 rw [Zbb,if_pos rfl]
theorem Zkz (d a:Addr) {m:Str} (h1:¬ m="above_of") (h2:¬ m="ups_of"):(Zqu d a).lookup m=none:=by
 unfold Zqu
 rw [Zbb,if_neg h1,Zbb,if_neg h2]
 rfl
def Zf1 (H:Hp) (all rows:List (Str×List Str)) (avs:List (Key×V)):Prop :=
 Paired (fun r (p:Key×V)=>p.1=Sum.inr r.1∧∃ t o' fk,p.2=.ref t∧H t=some (.frz o' (.dK fk))∧∀ y,(Sum.inr y:Key)∈fk.map (·.1)↔Graph.Reach (Zcw all) r.1 y) rows avs
theorem Zf1.mono {H H':Hp}{all rows:List (Str×List Str)}{avs:List (Key×V)}(h:Zf1 H all rows avs) (s:∀ b o' fk,H b=some (.frz o' (.dK fk))→H' b=some (.frz o' (.dK fk))):Zf1 H' all rows avs :=
 Paired.mapP h fun _ _ z=>⟨z.1,let ⟨t,o',fk,e,x,y⟩:=z.2;⟨t,o',fk,e,s _ _ _ x,y⟩⟩
theorem Zf1.keys:∀ {H:Hp}{all rows:List (Str×List Str)}{kvs:List (Key×V)},Zf1 H all rows kvs→kvs.map (·.1)=rows.map fun r=>(Sum.inr r.1:Key)
 | _,_,_,_,.nil=>rfl
 | _,_,_,_,.cons r t=>by rw [List.map_cons,List.map_cons,r.1,Zf1.keys t]
theorem Zf1.val:∀ {H:Hp}{all rows:List (Str×List Str)}{kvs:List (Key×V)},Zf1 H all rows kvs→(rows.map (·.1)).Nodup→∀ {r:Str×List Str},r∈rows→∃ t o' fk,Zf2 kvs (Sum.inr r.1)=some (.ref t)∧H t=some (.frz o' (.dK fk))∧∀ y,(Sum.inr y:Key)∈fk.map (·.1)↔Graph.Reach (Zcw all) r.1 y
 | _,_,_,_,.nil,_,r,h=>nomatch h
 | _,_,q :: rs,p :: ps,.cons z t,nd,r,h=>by
  have nd':(q.1 :: rs.map (·.1)).Nodup:=nd
  obtain ⟨n1,n2⟩:=List.nodup_cons.mp nd'
  obtain ⟨z1,u,o',fk,z2,z3,z4⟩:=z
  rcases List.mem_cons.mp h with e | h
  ·subst e
   exact ⟨u,o',fk,by rw [Zfa z1,z2],z3,z4⟩
  ·have ne:¬ p.1=(Sum.inr r.1:Key):=fun e=>n1 (by
    rw [z1] at e
    have e':q.1=r.1:=by injection e
    rw [e']
    exact List.mem_map.mpr ⟨r,h,rfl⟩)
   obtain ⟨u',o'',fk',h1,h2⟩:=Zf1.val t n2 h
   exact ⟨u',o'',fk',by rw [Zfb ne];exact h1,h2⟩
structure Zco (C:Addr) (H:Hp) (p:Addr) (rows:List (Str×List Str)):Prop where
 ex:∃ (dx d a:Addr) (o oa:Obj) (kvs avs:List (Key×V)),H p=some (.ins C dx (Zqu d a))∧Zjh H d o rows kvs∧H a=some (.frz oa (.dK avs))∧Zf1 H rows rows avs
theorem Zco.mono {C:Addr}{H H':Hp}{p:Addr}{rows:List (Str×List Str)}(h:Zco C H p rows) (s:Zal H H'):Zco C H' p rows:=by
 obtain ⟨dx,d,a,o,oa,kvs,avs,h1,h2,h3,h4⟩:=h.ex
 exact ⟨dx,d,a,o,oa,kvs,avs,s _ _ h1,h2.mono s,s _ _ h3,h4.mono fun _ _ _ e=>s _ _ e⟩
structure Zmz (K:PySem.W.Frag) (C:Addr):Prop where
 cl:Cls K C
 nU:Zfz K C "ups_of"
 nA:Zfz K C "above_of"
structure Zjg (K:PySem.W.Frag) (C:Addr) (m qual:Str) (st:Stmt) (ps:List Str) (f:Addr) (fd:FuncData):Prop where
 fn:Fun K m qual st f fd
 b:Zhm K fd ps []
 me:Z1a K C m f
def Zrj (K:PySem.W.Frag) (C:Addr):Sp:=fun vs H Q _=>∃ (p dx l:Addr) (rows:List (Str×List Str)),vs=[.ref p,.ref l]∧H p=some (.ins C dx [])∧Zyo K H l rows∧Zek rows ∧
 ∀ H',Zco C H' p rows→(∀ b o,b≠p→H b=some o→H' b=some o)→Q .non H'
def Zrm (C:Addr):Sp:=fun vs H Q _=>∃ (p:Addr) (rows:List (Str×List Str)) (x:Str),vs=[.ref p,.str x]∧Zco C H p rows∧Zek rows∧x∈rows.map (·.1)∧Q .non H
def Zw5 (C:Addr):Sp:=fun vs H Q _=>∃ (p:Addr) (rows:List (Str×List Str)) (x:Str),vs=[.ref p,.str x]∧Zco C H p rows∧Zek rows∧Q (.bl (decide (x∈rows.map (·.1)))) H
def Zfr (C:Addr):Sp:=fun vs H Q _=>∃ (p:Addr) (rows:List (Str×List Str)),vs=[.ref p]∧Zco C H p rows∧Zek rows∧∀ l,H l=none→Q (.ref l) (upd H l (.lst ((rows.map (·.1)).map V.str)))
noncomputable def Zex (rows:List (Str×List Str)) (x y:Str):Bool:=@decide (Graph.Reach (Zcw rows) x y) (Classical.propDecidable _)
noncomputable def Zre (C:Addr):Sp:=fun vs H Q _=>∃ (p:Addr) (rows:List (Str×List Str)) (x y:Str),vs=[.ref p,.str x,.str y]∧Zco C H p rows∧Zek rows∧x∈rows.map (·.1)∧y∈rows.map (·.1)∧Q (.bl (Zex rows x y)) H
section
variable {P:Program} {w:World} {K:PySem.W.Frag} {mg:Str→Option Value} {base:Heap}
theorem scI:Zap ["self","rows","ups_of","word","ups","ring","above_of"] ["self","rows"] (Zab Zbu):=⟨rfl,rfl,rfl,by decide +kernel,rfl,by decide +kernel,by decide +kernel⟩
theorem Zxr {f C f1 f2 f3 f4 f5 f6 f7:Addr}{fd d1 d2 d3 d4 d5 d6 d7:FuncData}(F:Fun K "__init__" "Kinds.__init__" Zbu f fd) (T:Zyv mg) (TC:Zmz K C) (D1:Def K mg "check_rows" Zcs ["rows"] f1 d1) (D2:Def K mg "is_word" Zdj ["text"] f2 d2)
  (D3:Def K mg "check_ups" Zc7 ["ups_of"] f3 d3) (D4:Def K mg "find_ring" Zc6 ["ups_of"] f4 d4) (D5:Def K mg "endless" Zdk ["ups_of"] f5 d5) (D6:Def K mg "first_among" Zbo ["words","others"] f6 d6) (D7:Def K mg "all_above" Zc9 ["ups_of","word"] f7 d7):
  Za3 P w K mg base CX0 4 f fd ["self","rows"] (Zrj K C):=by
 have G1:Za3 P w K mg base CX0 2 f1 d1 ["rows"] (Zic K):=Zkk D1 D2 T
 have G3:Za3 P w K mg base CX0 1 f3 d3 ["ups_of"] Zjm:=Zl3 D3
 have G4:Za3 P w K mg base CX0 3 f4 d4 ["ups_of"] Zv7:=Zxq D4 D5 D6 T
 have G7:Za3 P w K mg base CX0 1 f7 d7 ["ups_of","word"] Zrq:=Zu9 D7
 refine F.ok scI (fun vs H Q E h=>?_) (fun cdv A outer s H vs Q E hr h=>?_)
 ·obtain ⟨p,dx,l,rows,rfl,_⟩:=h
  rfl
 ·obtain ⟨p,dx,l,rows,rfl,hp,hR,g,q⟩:=h
  have nd:=scI.nd
  have hu:=Zfw hr
  have hr1:Zec 1 _:=hr.mono (by decide)
  have hr2:Zec 2 _:=hr.mono (by decide)
  refine ⟨_,pS (Za9 (Zaf D1 G1 hr2 (pC (pv 1) Zaa)))
   (pS (Zag (i:=2) nd rfl (Or.inl rfl) Zf5)
   (pS (Zbw PassesOwn.never rfl (Zwh (pv 1)) (Zfm rfl (gC (Zah (i:=3) nd rfl (Or.inl rfl)) (gC (Zah (i:=4) nd rfl (Or.inl rfl)) Zee)))
    (Zad (Zeq hu (pv 2) (pv 3) (Zc2 Zdx (by rfl) T.tuple PyProof.Rows.boot_tuple (pC (pv 4) Zaa)) rfl)))
   (Znb (pS (Za9 (Zaf D3 G3 hr1 (pC (pv 2) Zaa)))
   (pS (Zag (i:=5) nd rfl (Or.inl rfl) (Zaf D4 G4 hr (pC (pv 2) Zaa)))
   (pS (Zbe (Zii (Zsf (pv 5))) Zb4 Zas)
   (pS (Zag (i:=6) nd rfl (Or.inl rfl) Zf5)
   (pS (Zbw PassesOwn.never rfl (Zxh (pv 2)) (Zah (i:=3) nd rfl (Or.inl rfl)) (Zad (Zeq hu (pv 6) (pv 3) (Zaf D7 G7 hr1 (pC (pv 2) (pC (pv 3) Zaa))) rfl)))
   (Znb (pS (Zls (pv 0) (pv 2) rfl) (Zad (Zls (pv 0) (pv 6) rfl)))))))))))),?_⟩
  refine ⟨_,rfl,l,rows,rfl,hR,g,fun H1 s1=>?_⟩
  intro d hd
  have s2:Zal H (upd H1 d (.dK [])):=fun b o e=>by rw [Zac (nNo (s1 _ _ e) hd)];exact s1 _ _ e
  obtain ⟨b,vs,hl,hpr⟩:=hR
  refine ⟨_,rfl,b,l,vs,rfl,hl.mono s2,Za6 Zoq (fun i σ H'=>∃ (kvs:List (Key×V)) (a c:Option V),σ=[some (.ref p),some (.ref l),some (.ref d),a,c,none,none]∧Zal H H'∧H' d=some (.dK kvs)∧Zk8 H' (rows.take i) kvs)
   ⟨[],none,none,rfl,s2,uS,by rw [List.take_zero];exact .nil⟩ (fun i σ H' _ ⟨_,_,_,_,s,_⟩=>hl.mono s) ?_ ?_⟩
  ·rintro i v σ H' hi ⟨kvs,a,c,rfl,s3,hdk,hU⟩
   obtain ⟨r,hr',t,u,rfl,ht,hug⟩:=Zam hpr hi
   have dH:H d=none:=s1.free hd
   refine ⟨t,_,rfl,s3.tup ht,rfl,_,_,rfl,_,_,rfl,rfl,?_⟩
   have hnew:(Sum.inr r.1:Key)∉kvs.map (·.1):=by rw [hU.keys];exact Zfp g.nd hr'
   have hil:(rows.take i).length≤24:=by rw [List.length_take];have:=g.le;omega
   have hkl:kvs.length=(rows.take i).length:=(Paired.length hU).symm
   have fin:∀ (t2:Addr) (H2:Hp),Zal H' H2→H2 t2=some (.tup (r.2.map V.str))→∃ (kvs':List (Key×V)) (a c:Option V),[some (V.ref p),some (V.ref l),some (V.ref d),some (V.str r.1),some (V.ref u),none,none]=[some (V.ref p),some (V.ref l),some (V.ref d),a,c,none,none]∧Zal H (upd H2 d (.dK (Zgh kvs (Sum.inr r.1) (.ref t2)))) ∧
     (upd H2 d (.dK (Zgh kvs (Sum.inr r.1) (.ref t2)))) d=some (.dK kvs')∧Zk8 (upd H2 d (.dK (Zgh kvs (Sum.inr r.1) (.ref t2)))) (rows.take (i + 1)) kvs':=fun t2 H2 s4 ht2=>by
    have d2:=s4 _ _ hdk
    have tk:∀ b xs,H2 b=some (.tup xs)→(upd H2 d (.dK (Zgh kvs (Sum.inr r.1) (.ref t2)))) b=some (.tup xs):=fun b xs e=>by
     rw [Zac (fun z=>by rw [z,d2] at e;cases e)];exact e
    refine ⟨_,_,_,rfl,fun b o e=>by rw [Zac (nNo e dH)];exact s4 _ _ (s3 _ _ e),uS,?_⟩
    have sn:Zk8 (upd H2 d (.dK (Zgh kvs (Sum.inr r.1) (.ref t2)))) (rows.take i++[r]) (kvs++[(Sum.inr r.1,V.ref t2)]):=Paired.snoc ((hU.mono fun b xs e=>s4 _ _ e).mono tk) ⟨rfl,t2,rfl,tk t2 _ ht2⟩
    rw [← Zeh _ (Zdi hnew)] at sn
    rw [List.take_add_one,hr']
    exact sn
   rcases hug with hug | hug
   ·refine ⟨_,rfl,u,_,rfl,.inr ⟨SqT.of (s3 _ _ hug),_,rfl,_,rfl,d,_,rfl,Zla.k (k:=Sum.inr r.1) hdk (Za2 (by omega)),fin u H' (Zal.refl _) (s3 _ _ hug)⟩⟩
   ·refine ⟨_,rfl,u,_,rfl,.inl ⟨s3.seq hug,fun t2 ht2=>?_⟩⟩
    have s4:Zal H' (upd H' t2 (.tup (r.2.map V.str))):=fun b o e=>by rw [Zac (nNo e ht2)];exact e
    exact ⟨_,rfl,_,rfl,d,_,rfl,Zla.k (k:=Sum.inr r.1) (s4 _ _ hdk) (Za2 (by omega)),fin t2 _ s4 uS⟩
  ·rintro σ H2 ⟨kvs,a,c,rfl,s3,hdk,hU⟩
   have hvl:=hpr.length
   rw [← hvl,List.take_length] at hU
   refine ⟨d,kvs,hdk,fun o=>?_⟩
   have dH:H d=none:=s1.free hd
   have s4:Zal H (upd H2 d (.frz o (.dK kvs))):=fun b u e=>by rw [Zac (nNo e dH)];exact s3 _ _ e
   have bk:Zjh (upd H2 d (.frz o (.dK kvs))) d o rows kvs:=⟨uS,hU.mono fun b xs e=>by rw [Zac (fun z=>by rw [z,hdk] at e;cases e)];exact e⟩
   refine ⟨_,rfl,d,o,rows,kvs,rfl,bk,g,fun H5 s5=>?_⟩
   refine ⟨_,rfl,d,o,rows,kvs,rfl,bk.mono s5,g,fun H6 s6=>?_⟩
   refine ⟨_,rfl,_,rfl,Zht ?_⟩
   have s56:=s5.trans s6
   have bk6:=bk.mono s56
   have s7:Zal H H6:=s4.trans s56
   intro aa haa
   have s8:Zal H (upd H6 aa (.dK [])):=fun b u e=>by rw [Zac (nNo (s7 _ _ e) haa)];exact s7 _ _ e
   have s68:Zal H6 (upd H6 aa (.dK [])):=fun b u e=>by rw [Zac (nNo e haa)];exact e
   refine ⟨_,rfl,d,o,kvs,rfl,(bk6.mono s68).at_,Za6 Zry (fun i σ H'=>∃ (avs:List (Key×V)) (a b c:Option V),σ=[some (.ref p),some (.ref l),some (.ref d),a,b,c,some (.ref aa)]∧Zal H H'∧Zjh H' d o rows kvs∧H' aa=some (.dK avs)∧Zf1 H' rows (rows.take i) avs)
    ⟨[],_,_,_,rfl,s8,bk6.mono s68,uS,by rw [List.take_zero];exact .nil⟩ (fun i σ H' _ ⟨_,_,_,_,_,_,b,_⟩=>b.at_) ?_ ?_⟩
   ·rintro i v σ H' hi ⟨avs,a,b,c,rfl,s9,bk9,haa9,hA⟩
    rw [List.getElem?_map] at hi
    obtain ⟨pr,hpr',e⟩:=Option.map_eq_some_iff.mp hi
    obtain ⟨r,hr',hk,_⟩:=Zam bk9.ups hpr'
    have hmem:r∈rows:=List.mem_of_getElem? hr'
    have ev:v=.str r.1:=by rw [← e,hk];rfl
    subst ev
    have aaH:H aa=none:=s7.free haa
    refine ⟨_,rfl,_,rfl,d,o,rows,kvs,r.1,rfl,bk9,g,List.mem_map.mpr ⟨r,hmem,rfl⟩,fun x o' fk H10 hx s10 hxk hreach=>?_⟩
    have hnew:(Sum.inr r.1:Key)∉avs.map (·.1):=by rw [hA.keys];exact Zfp g.nd hr'
    have hil:(rows.take i).length≤24:=by rw [List.length_take];have:=g.le;omega
    have hkl:avs.length=(rows.take i).length:=(Paired.length hA).symm
    have aa10:=s10 _ _ haa9
    refine ⟨_,rfl,_,rfl,aa,_,rfl,Zla.k (k:=Sum.inr r.1) aa10 (Za2 (by omega)),?_⟩
    have kp:∀ b u,b≠aa→H10 b=some u→(upd H10 aa (.dK (Zgh avs (Sum.inr r.1) (.ref x)))) b=some u:=fun b u hb e=>by rw [Zac hb];exact e
    refine ⟨_,_,_,_,rfl,fun b u e=>kp b u (nNo e aaH) (s10 _ _ (s9 _ _ e)),⟨kp _ _ (fun z=>?_) (s10 _ _ bk9.at_),(bk9.ups.mono fun b xs e=>s10 _ _ e).mono fun b xs e=>kp _ _ (fun z=>by rw [z,aa10] at e;cases e) e⟩,uS,?_⟩
    ·have:=bk9.at_
     rw [z,haa9] at this
     cases this
    ·rw [Zeh _ (Zdi hnew),List.take_add_one,hr']
     have fz:∀ b o'' fk',H10 b=some (.frz o'' (.dK fk'))→(upd H10 aa (.dK (avs++[(Sum.inr r.1,V.ref x)]))) b=some (.frz o'' (.dK fk')):=fun b o'' fk' e=>by rw [Zac (fun z=>by rw [z,aa10] at e;cases e)];exact e
     exact Paired.snoc ((hA.mono fun b o'' fk' e=>s10 _ _ e).mono fz) ⟨rfl,x,o',fk,rfl,fz _ _ _ hxk,hreach⟩
   ·rintro σ H' ⟨avs,a,b,c,rfl,s9,bk9,haa9,hA⟩
    have hkv:kvs.length=rows.length:=(Paired.length bk9.ups).symm
    rw [List.length_map,hkv,List.take_length] at hA
    have aaH:H aa=none:=s7.free haa
    refine ⟨aa,avs,haa9,fun oa=>?_⟩
    have hp9:H' p=some (.ins C dx []):=s9 _ _ hp
    have pa:p≠aa:=nNo hp aaH
    have pd:p≠d:=nNo hp dH
    have da:d≠aa:=fun z=>by have:=bk9.at_;rw [z,haa9] at this;cases this
    refine ⟨_,rfl,_,rfl,p,C,dx,[],rfl,(by rw [Zac pa];exact hp9),TC.cl,TC.nU,(by show 0<1000;decide),_,rfl,_,rfl,p,C,dx,_,rfl,uS,TC.cl,TC.nA,(by show 1<1000;decide),?_⟩
    rw [Zhf]
    have kp:∀ b u,b≠p→b≠aa→H' b=some u→(upd (upd H' aa (.frz oa (.dK avs))) p (.ins C dx (Zqu d aa))) b=some u:=fun b u h1 h2 e=>by rw [Zac h1,Zac h2];exact e
    refine q _ ⟨dx,d,aa,o,oa,kvs,avs,uS,⟨kp _ _ (Ne.symm pd) da bk9.at_,bk9.ups.mono fun b xs e=>kp _ _ (fun z=>by rw [z,hp9] at e;cases e) (fun z=>by rw [z,haa9] at e;cases e) e⟩,by rw [Zac (Ne.symm pa)];exact uS,hA.mono fun b o'' fk' e=>kp _ _ (fun z=>by rw [z,hp9] at e;cases e) (fun z=>by rw [z,haa9] at e;cases e) e⟩ fun b u hb e=>kp _ _ hb (nNo e aaH) (s9 _ _ e)
theorem Z4h:Zap ["self","word"] ["self","word"] (Zab Zdb):=⟨rfl,rfl,rfl,by decide +kernel,rfl,by decide +kernel,by decide +kernel⟩
theorem Zwk {f C:Addr}{fd:FuncData}(F:Fun K "has" "Kinds.has" Zdb f fd) (TC:Zmz K C):Za3 P w K mg base CX0 1 f fd ["self","word"] (Zw5 C):=by
 refine F.ok Z4h (fun vs H Q E h=>?_) (fun cdv A outer s H vs Q E hr h=>?_)
 ·obtain ⟨p,rows,x,rfl,_⟩:=h
  rfl
 ·obtain ⟨p,rows,x,rfl,⟨dx,d,a,o,oa,kvs,avs,h1,h2,h3,h4⟩,g,q⟩:=h
  have hu:=Zfw hr
  refine ⟨_,Zad (Zat (Zwi (Zlx hu (pv 1) (Zgi (pv 0) rfl)))),?_⟩
  refine ⟨_,rfl,_,rfl,p,C,dx,_,_,rfl,h1,TC.cl,TC.nU,Zwp _ _,d,_,rfl,Zgf.f (k:=Sum.inr x) h2.at_,?_⟩
  have e:(Zf2 kvs (Sum.inr x:Key)).isSome=decide (x∈rows.map (·.1)):=by
   have hk:(Sum.inr x:Key)∈kvs.map (·.1)↔x∈rows.map (·.1):=by
    rw [h2.ups.keys]
    constructor
    ·intro m
     obtain ⟨r,hr',e⟩:=List.mem_map.mp m
     exact List.mem_map.mpr ⟨r,hr',by injection e⟩
    ·intro m
     obtain ⟨r,hr',e⟩:=List.mem_map.mp m
     exact List.mem_map.mpr ⟨r,hr',by rw [e]⟩
   by_cases z:x∈rows.map (·.1)
   ·rw [Zgl (hk.mpr z),decide_eq_true z]
   ·rw [Zdi fun k=>z (hk.mp k),decide_eq_false z]
    rfl
  rw [e]
  exact q
abbrev Zwx (K:PySem.W.Frag) (C fH:Addr) (fdH:FuncData):Prop:=Zjg K C "has" "Kinds.has" Zdb ["self","word"] fH fdH
theorem Z4j:Zap ["self","word"] ["self","word"] (Zab Zb0):=⟨rfl,rfl,rfl,by decide +kernel,rfl,by decide +kernel,by decide +kernel⟩
theorem Zwl (d a:Addr):(Zqu d a).lookup ("has":Str)=none:=Zkz d a (by decide +kernel) (by decide +kernel)
theorem Zu5 {f C fH:Addr}{fd fdH:FuncData}(F:Fun K "check" "Kinds.check" Zb0 f fd) (TC:Zmz K C) (MH:Zwx K C fH fdH):Za3 P w K mg base CX0 2 f fd ["self","word"] (Zrm C):=by
 have GH:Za3 P w K mg base CX0 1 fH fdH ["self","word"] (Zw5 C):=Zwk MH.fn TC
 refine F.ok Z4j (fun vs H Q E h=>?_) (fun cdv A outer s H vs Q E hr h=>?_)
 ·obtain ⟨p,rows,x,rfl,_⟩:=h
  rfl
 ·obtain ⟨p,rows,x,rfl,kd,g,hx,q⟩:=h
  obtain ⟨dx,d,a,o,oa,kvs,avs,h1,h2,h3,h4⟩:=kd.ex
  refine ⟨_,Zad (Zbe (Zef (Zfl (Zil (pv 0) TC.cl MH.me GH hr MH.b .nil Ze1 (pC (pv 1) Zaa)))) Zb4 Zas),?_⟩
  refine ⟨_,rfl,p,dx,_,rfl,h1,Zwl _ _,_,rfl,p,rows,x,rfl,kd,g,_,rfl,?_⟩
  rw [decide_eq_true hx]
  exact Zht q
theorem Z38:Zap ["self"] ["self"] (Zab Zcg):=⟨rfl,rfl,rfl,by decide +kernel,rfl,by decide +kernel,by decide +kernel⟩
theorem Zf7 {f C:Addr}{fd:FuncData}(F:Fun K "words" "Kinds.words" Zcg f fd) (TC:Zmz K C) (list:mg "list"=none):Za3 P w K mg base CX0 1 f fd ["self"] (Zfr C):=by
 refine F.ok Z38 (fun vs H Q E h=>?_) (fun cdv A outer s H vs Q E hr h=>?_)
 ·obtain ⟨p,rows,rfl,_⟩:=h
  rfl
 ·obtain ⟨p,rows,rfl,⟨dx,d,a,o,oa,kvs,avs,h1,h2,h3,h4⟩,g,q⟩:=h
  refine ⟨_,Zad (Zat (Zc2 (Zgj rfl) (by rfl) list PyProof.Rows.boot_list (pC (Zgi (pv 0) rfl) Zaa))),?_⟩
  refine ⟨_,rfl,p,C,dx,_,_,rfl,h1,TC.cl,TC.nU,Zwp _ _,d,kvs,rfl,.inr ⟨o,h2.at_⟩,fun l hl=>?_⟩
  rw [Z0h h2.ups]
  exact q l hl
theorem Zo1 (d a:Addr):(Zqu d a).lookup ("check":Str)=none:=Zkz d a (by decide +kernel) (by decide +kernel)
theorem Z4a:Zap ["self","one","other"] ["self","one","other"] (Zab Zch):=⟨rfl,rfl,rfl,by decide +kernel,rfl,by decide +kernel,by decide +kernel⟩
theorem Zuw {f C fC fH:Addr}{fd fdC fdH:FuncData}(F:Fun K "under" "Kinds.under" Zch f fd) (TC:Zmz K C) (MC:Zjg K C "check" "Kinds.check" Zb0 ["self","word"] fC fdC) (MH:Zwx K C fH fdH):Za3 P w K mg base CX0 3 f fd ["self","one","other"] (Zre C):=by
 have GC:Za3 P w K mg base CX0 2 fC fdC ["self","word"] (Zrm C):=Zu5 MC.fn TC MH
 refine F.ok Z4a (fun vs H Q E h=>?_) (fun cdv A outer s H vs Q E hr h=>?_)
 ·obtain ⟨p,rows,x,y,rfl,_⟩:=h
  rfl
 ·obtain ⟨p,rows,x,y,rfl,kd,g,hx,hy,q⟩:=h
  obtain ⟨dx,d,a,o,oa,kvs,avs,h1,h2,h3,h4⟩:=kd.ex
  have hu:=Zfw hr
  refine ⟨_,pS (Za9 (Zil (pv 0) TC.cl MC.me GC hr MC.b .nil Ze1 (pC (pv 1) Zaa)))
   (pS (Za9 (Zil (pv 0) TC.cl MC.me GC hr MC.b .nil Ze1 (pC (pv 2) Zaa)))
   (Zad (Zat (Zwi (Zlx hu (pv 2) (Zer hu (Zgi (pv 0) rfl) (pv 1) (fun _ _=>rfl))))))),?_⟩
  obtain ⟨r,hr',er⟩:=Zew hx
  obtain ⟨t,o',fk,hv,ht,hreach⟩:=h4.val g.nd hr'
  refine ⟨_,rfl,p,dx,_,rfl,h1,Zo1 _ _,_,rfl,p,rows,x,rfl,kd,g,hx,?_⟩
  refine ⟨_,rfl,p,dx,_,rfl,h1,Zo1 _ _,_,rfl,p,rows,y,rfl,kd,g,hy,?_⟩
  refine ⟨_,rfl,_,rfl,p,C,dx,_,_,rfl,h1,TC.cl,TC.nA,Z0q _ _,_,rfl,a,_,rfl,(by rw [← hv,er];exact Zgf.f (k:=Sum.inr x) h3),t,_,rfl,Zgf.f (k:=Sum.inr y) ht,?_⟩
  have e:(Zf2 fk (Sum.inr y:Key)).isSome=Zex rows x y:=by
   have hh:=hreach y
   rw [er] at hh
   unfold Zex
   by_cases z:Graph.Reach (Zcw rows) x y
   ·rw [Zgl (hh.mpr z)]
    exact (@decide_eq_true _ (Classical.propDecidable _) z).symm
   ·rw [Zdi fun k=>z (hh.mp k)]
    exact (@decide_eq_false _ (Classical.propDecidable _) z).symm
  rw [e]
  exact q
end
end K46
namespace K46
open PySem L2 Md
theorem Zva (d a:Addr):(Zqu d a).lookup ("under":Str)=none:=Zkz d a (by decide +kernel) (by decide +kernel)
section
variable {P:Program} {w:World} {K:PySem.W.Frag} {mg:Str→Option Value} {base:Heap}
abbrev Zwy (K:PySem.W.Frag) (C fC:Addr) (fdC:FuncData):Prop:=Zjg K C "check" "Kinds.check" Zb0 ["self","word"] fC fdC
abbrev Zww (K:PySem.W.Frag) (C fU:Addr) (fdU:FuncData):Prop:=Zjg K C "under" "Kinds.under" Zch ["self","one","other"] fU fdU
end
end K46
namespace K46
open PySem L2 Md
def Zdd (H:Hp) (all rows:List (Str×List Str)) (avs:List (Key×V)):Prop :=
 Paired (fun r (p:Key×V)=>p.1=Sum.inr r.1∧∃ (t:Addr) (fs:List Str),p.2=.ref t∧H t=some (.lst (fs.map V.str))∧(∀ y,y∈fs↔Graph.Reach (Zcw all) r.1 y)∧fs.length≤all.length) rows avs
theorem Zdd.mono {H H':Hp}{all rows:List (Str×List Str)}{avs:List (Key×V)}(h:Zdd H all rows avs) (s:∀ b xs,H b=some (.lst xs)→H' b=some (.lst xs)):Zdd H' all rows avs :=
 Paired.mapP h fun _ _ z=>⟨z.1,let ⟨t,fs,e,x,y⟩:=z.2;⟨t,fs,e,s _ _ x,y⟩⟩
theorem Zdd.keys:∀ {H:Hp}{all rows:List (Str×List Str)}{kvs:List (Key×V)},Zdd H all rows kvs→kvs.map (·.1)=rows.map fun r=>(Sum.inr r.1:Key)
 | _,_,_,_,.nil=>rfl
 | _,_,_,_,.cons r t=>by rw [List.map_cons,List.map_cons,r.1,Zdd.keys t]
theorem Zdd.val':∀ {H:Hp}{all rows:List (Str×List Str)}{kvs:List (Key×V)},Zdd H all rows kvs→(rows.map (·.1)).Nodup→∀ {r:Str×List Str},r∈rows→∃ (t:Addr) (fs:List Str),Zf2 kvs (Sum.inr r.1)=some (.ref t)∧H t=some (.lst (fs.map V.str))∧(∀ y,y∈fs↔Graph.Reach (Zcw all) r.1 y)∧fs.length≤all.length
 | _,_,_,_,.nil,_,r,h=>nomatch h
 | _,_,q :: rs,p :: ps,.cons z t,nd,r,h=>by
  have nd':(q.1 :: rs.map (·.1)).Nodup:=nd
  obtain ⟨n1,n2⟩:=List.nodup_cons.mp nd'
  obtain ⟨z1,u,fs,z2,z3,z4⟩:=z
  rcases List.mem_cons.mp h with e | h
  ·subst e
   exact ⟨u,fs,by rw [Zfa z1,z2],z3,z4⟩
  ·have ne:¬ p.1=(Sum.inr r.1:Key):=fun e=>n1 (by
    rw [z1] at e
    have e':q.1=r.1:=by injection e
    rw [e']
    exact List.mem_map.mpr ⟨r,h,rfl⟩)
   obtain ⟨u',fs',h1,h2⟩:=Zdd.val' t n2 h
   exact ⟨u',fs',by rw [Zfb ne];exact h1,h2⟩
theorem Zdd.val {H:Hp}{all rows:List (Str×List Str)}{kvs:List (Key×V)}(h:Zdd H all rows kvs) (nd:(rows.map (·.1)).Nodup) {r:Str×List Str}(hr:r∈rows):∃ (t:Addr) (fs:List Str),Zf2 kvs (Sum.inr r.1)=some (.ref t)∧H t=some (.lst (fs.map V.str))∧∀ y,y∈fs↔Graph.Reach (Zcw all) r.1 y :=
 let ⟨u,fs,h1,h2,h3,_⟩:=h.val' nd hr;⟨u,fs,h1,h2,h3⟩
theorem Zs2 {rows:List (Str×List Str)}{x:Str}{fs:List Str}(h:∀ y,y∈fs↔Graph.Reach (Zcw rows) x y) (y:Str):decide (y∈fs)=Zex rows x y:=by
 unfold Zex
 by_cases z:Graph.Reach (Zcw rows) x y
 ·rw [decide_eq_true ((h y).mpr z)]
  exact (@decide_eq_true _ (Classical.propDecidable _) z).symm
 ·rw [decide_eq_false fun k=>z ((h y).mp k)]
  exact (@decide_eq_false _ (Classical.propDecidable _) z).symm
def Zon:Sp:=fun vs H Q _=>∃ (l:Addr) (rows:List (Str×List Str)),vs=[.ref l]∧Ze0 H l rows∧Zek rows∧∀ a avs H',Zal H H'→H' a=some (.dK avs)→Zdd H' rows rows avs→Q (.ref a) H'
structure GoL (rows:List (Str×List Str)) (x:Str) (fs:List Str) (k:Nat):Prop where
 start:x∈fs
 known:∀ y∈fs,y∈rows.map (·.1)
 nd:fs.Nodup
 reach:∀ y∈fs,Graph.Reach (Zcw rows) x y
 closed:∀ y∈fs.take k,∀ u∈Zcw rows y,u∈fs
theorem GoL.le {rows:List (Str×List Str)}{x:Str}{fs:List Str}{k:Nat}(h:GoL rows x fs k):fs.length≤rows.length:=by
 have:=Graph.nodup_le h.nd h.known
 rwa [List.length_map] at this
theorem GoL.all {rows:List (Str×List Str)}{x:Str}{fs:List Str}{k:Nat}(h:GoL rows x fs k) (hk:fs.length≤k) (y:Str):y∈fs↔Graph.Reach (Zcw rows) x y :=
 ⟨h.reach y,fun r=>Graph.closed_reach (S:=fun y=>y∈fs) (fun z hz u hu=>h.closed z (by rw [List.take_of_length_le hk];exact hz) u hu) r h.start⟩
theorem Zif {rows:List (Str×List Str)}(g:Zek rows) {y u:Str}(hy:y∈rows.map (·.1)) (hu:u∈Zcw rows y):u∈rows.map (·.1):=by
 obtain ⟨r,hr,e⟩:=Zew hy
 rw [← e,Zgu g.nd hr] at hu
 exact g.known r hr u hu
section
variable {P:Program} {w:World} {K:PySem.W.Frag} {mg:Str→Option Value} {base:Heap}
abbrev nLA:List Str:=["rows","ups","word","some","above","found","at","up"]
theorem Z3b:Zap nLA ["rows"] (Zab Zcv):=⟨rfl,rfl,rfl,by decide +kernel,rfl,by decide +kernel,by decide +kernel⟩
theorem Zsp {f:Addr}{fd:FuncData}(F:Def K mg "_law_above" Zcv ["rows"] f fd) (len:mg "len"=none):Za3 P w K mg base CX0 1 f fd ["rows"] Zon:=by
 refine F.fn.ok Z3b (fun vs H Q E h=>?_) (fun cdv A outer s H vs Q E hr h=>?_)
 ·obtain ⟨l,rows,rfl,_⟩:=h
  rfl
 ·obtain ⟨l,rows,rfl,hR,g,q⟩:=h
  have nd:=Z3b.nd
  have hu:=Zfw hr
  refine ⟨_,pS (Zag (i:=1) nd rfl (Or.inl rfl) Zf5)
   (pS (Zbw PassesOwn.never rfl (Zbd (pv 0)) (Zfm rfl (gC (Zah (i:=2) nd rfl (Or.inl rfl)) (gC (Zah (i:=3) nd rfl (Or.inl rfl)) Zee)))
    (Zad (Zeq hu (pv 1) (pv 2) (pv 3) rfl)))
   (pS (Zag (i:=4) nd rfl (Or.inl rfl) Zf5)
   (pS (Zbw PassesOwn.never rfl (Zbd (pv 0)) (Zfm rfl (gC (Zah (i:=2) nd rfl (Or.inl rfl)) (gC (Zah (i:=3) nd rfl (Or.inl rfl)) Zee)))
    (pS (Zag (i:=5) nd rfl (Or.inl rfl) (Zb9 (pC (pv 2) Zaa)))
    (pS (Zag (i:=6) nd rfl (Or.inl rfl) Zae)
    (pS (Zgy PassesOwn.never (Zaq Zjc (pv 6) (Zan Zdy (by rfl) len PySem.boot_len (pC (pv 5) Zaa)) (Zaz _))
     (pS (Zbw PassesOwn.never rfl (Zik (Zer hu (pv 1) (Za5 Zar (pv 5) (pv 6) (fun _ _=>rfl)) (fun _ _=>rfl))) (Zah (i:=7) nd rfl (Or.inl rfl))
      (Zad (Zbe (Zaq Zly (pv 7) (pv 5) (by with_unfolding_all rfl)) (Zad (Za9 (Zej PySem.F.plainAttrs_list PySem.F.slot_list_append PySem.F.type_list_append Zb6 (pv 5) (pC (pv 7) Zaa)))) Zas)))
     (Zad (Zag (i:=6) nd rfl (Or.inl rfl) (Zba Zdr (pv 6) Zae)))))
    (Zad (Zeq hu (pv 4) (pv 2) (pv 5) rfl))))))
   (Zad (Zat (pv 4)))))),?_⟩
  have gle:=g.le
  obtain ⟨vs,hvs,hpr⟩:=hR
  intro d hd
  have s1:Zal H (upd H d (.dK [])):=fun b o e=>by rw [Zac (nNo e hd)];exact e
  refine ⟨_,rfl,l,rfl,⟨_,SqL.of (s1 _ _ hvs)⟩,Za6 (Zav (xs:=vs)) (fun i σ H'=>∃ (kvs:List (Key×V)) (a c:Option V),σ=[some (.ref l),some (.ref d),a,c,none,none,none,none]∧Zal H H'∧H' d=some (.dK kvs)∧Zk8 H' (rows.take i) kvs)
   ⟨[],none,none,rfl,s1,uS,by rw [List.take_zero];exact .nil⟩ (fun i σ H' _ ⟨_,_,_,_,s,_⟩=>SqL.of (s _ _ hvs)) ?_ ?_⟩
  ·rintro i v σ H' hi ⟨kvs,a,c,rfl,s3,hdk,hU⟩
   obtain ⟨r,hr',t,u,rfl,ht,hug⟩:=Zam hpr hi
   refine ⟨t,_,rfl,SqT.of (s3 _ _ ht),rfl,_,_,rfl,_,_,rfl,rfl,?_⟩
   have hnew:(Sum.inr r.1:Key)∉kvs.map (·.1):=by rw [hU.keys];exact Zfp g.nd hr'
   have hil:(rows.take i).length≤24:=by rw [List.length_take];omega
   have hkl:kvs.length=(rows.take i).length:=(Paired.length hU).symm
   refine ⟨_,rfl,_,rfl,_,rfl,d,_,rfl,Zla.k (k:=Sum.inr r.1) hdk (Za2 (by omega)),?_⟩
   have tk:∀ b xs,H' b=some (.tup xs)→(upd H' d (.dK (Zgh kvs (Sum.inr r.1) (.ref u)))) b=some (.tup xs):=fun b xs e=>by
    rw [Zac (fun z=>by rw [z,hdk] at e;cases e)];exact e
   refine ⟨_,_,_,rfl,fun b o e=>by rw [Zac (nNo e hd)];exact s3 _ _ e,uS,?_⟩
   have sn:Zk8 (upd H' d (.dK (Zgh kvs (Sum.inr r.1) (.ref u)))) (rows.take i++[r]) (kvs++[(Sum.inr r.1,V.ref u)]):=Paired.snoc (hU.mono tk) ⟨rfl,u,rfl,tk u _ (s3 _ _ hug)⟩
   rw [← Zeh _ (Zdi hnew)] at sn
   rw [List.take_add_one,hr']
   exact sn
  ·rintro σ H2 ⟨kvs,a,c,rfl,s3,hdk,hU⟩
   have hvl:=hpr.length
   rw [← hvl,List.take_length] at hU
   intro aa haa
   have s4:Zal H2 (upd H2 aa (.dK [])):=fun b o e=>by rw [Zac (nNo e haa)];exact e
   have aaH:H aa=none:=s3.free haa
   have daa:d≠aa:=nNo hdk haa
   have hU4:Zk8 (upd H2 aa (.dK [])) rows kvs:=hU.mono fun b xs e=>s4 _ _ e
   have hd4:=s4 _ _ hdk
   have s04:=s3.trans s4
   refine ⟨_,rfl,l,rfl,⟨_,SqL.of (s04 _ _ hvs)⟩,Za6 (Zav (xs:=vs)) (fun i σ H'=>∃ (avs:List (Key×V)) (a b c e f:Option V),σ=[some (.ref l),some (.ref d),a,b,some (.ref aa),c,e,f]∧(∀ b o,b≠aa→H2 b=some o→H' b=some o)∧H' aa=some (.dK avs)∧Zdd H' rows (rows.take i) avs)
    ⟨[],_,_,_,_,_,rfl,fun b o hb e=>by rw [Zac hb];exact e,uS,by rw [List.take_zero];exact .nil⟩ (fun i σ H' _ ⟨_,_,_,_,_,_,_,k,_⟩=>SqL.of (k _ _ (nNo hvs aaH) (s3 _ _ hvs))) ?_ ?_⟩
   ·rintro i v σ H' hi ⟨avs,a,b,c,e,f',rfl,k1,haa1,hA⟩
    obtain ⟨r,hr',t,u,rfl,ht,hug⟩:=Zam hpr hi
    have hmem:r∈rows:=List.mem_of_getElem? hr'
    have keep1:∀ b o,H b=some o→H' b=some o:=fun b o e=>k1 b o (nNo e aaH) (s3 _ _ e)
    refine ⟨t,_,rfl,SqT.of (keep1 _ _ ht),rfl,_,_,rfl,_,_,rfl,rfl,?_⟩
    refine ⟨_,rfl,sL (by show 1≤100000;decide),fun fa hfa=>?_⟩
    have sF:∀ {H5:Hp},Zal H' H5→Zk8 H5 rows kvs:=fun {H5} s=>hU.mono fun b xs e=>s _ _ (k1 b _ (fun z=>by rw [z,haa] at e;cases e) e)
    have dF:∀ {H5:Hp},Zal H' H5→H5 d=some (.dK kvs):=fun {H5} s=>s _ _ (k1 _ _ daa hdk)
    refine ⟨fun m σ H5=>∃ (fs:List Str) (k:Nat) (f:Option V),σ=[some (.ref l),some (.ref d),some (.str r.1),some (.ref u),some (.ref aa),some (.ref fa),some (.int (k:Int)),f]∧Zal H' H5∧H5 fa=some (.lst (fs.map V.str))∧GoL rows r.1 fs k∧k≤fs.length∧m + k=rows.length,
     ⟨rows.length,[r.1],0,_,rfl,fun b o e=>by rw [Zac (nNo e hfa)];exact e,uS,⟨by simp,fun y h=>by rw [List.mem_singleton.mp h];exact List.mem_map.mpr ⟨r,hmem,rfl⟩,by simp,fun y h=>by rw [List.mem_singleton.mp h];exact .refl _,fun y h=>by simp at h⟩,by simp,rfl⟩,?_⟩
    rintro m σ H5 ⟨fs,k,f2,rfl,s5,hf5,go,hk,hm⟩
    have flen:=go.le
    refine ⟨_,rfl,_,rfl,_,_,rfl,.inl ⟨_,SqL.of hf5,rfl⟩,_,_,rfl,rfl,_,rfl,?_⟩
    rw [List.length_map]
    refine Zdu (fun hlt=>?_) (fun hlt=>?_)
    ·have hlt:k<fs.length:=by have:=of_decide_eq_true hlt;omega
     refine ⟨fun σ' H6=>∃ m',m'<m∧∃ (fs:List Str) (k:Nat) (f:Option V),σ'=[some (.ref l),some (.ref d),some (.str r.1),some (.ref u),some (.ref aa),some (.ref fa),some (.int (k:Int)),f]∧Zal H' H6∧H6 fa=some (.lst (fs.map V.str))∧GoL rows r.1 fs k∧k≤fs.length∧m' + k=rows.length,fun _ _ h=>h,?_⟩
     have hat:fs[k]?=some fs[k]:=List.getElem?_eq_getElem hlt
     generalize hhere:fs[k]=here at hat
     have hin:here∈fs:=List.mem_of_getElem? hat
     obtain ⟨r2,hr2,er⟩:=Zew (go.known here hin)
     obtain ⟨t2,hvt,ht2⟩:=(sF s5).val g.nd hr2
     rw [er] at hvt
     have uo:Zcw rows here=r2.2:=by rw [← er];exact Zgu g.nd hr2
     have hix:atI (fs.map V.str) (k:Int)=some (V.str here):=Zc0 (by rw [List.getElem?_map,hat];rfl)
     refine ⟨_,rfl,_,rfl,_,rfl,fa,_,_,_,rfl,rfl,SqL.of hf5,hix,d,_,rfl,(by rw [← hvt];exact Zgf.k (k:=Sum.inr here) (dF s5)),t2,rfl,⟨_,SqT.of ht2⟩,?_⟩
     have ht2f:t2≠fa:=fun z=>by rw [z,hf5] at ht2;cases ht2
     refine Za6 (Zfc (xs:=r2.2.map V.str)) (fun j σ H6=>∃ (ex:List Str) (f:Option V),σ=[some (.ref l),some (.ref d),some (.str r.1),some (.ref u),some (.ref aa),some (.ref fa),some (.int (k:Int)),f]∧(∀ b o,b≠fa→H5 b=some o→H6 b=some o)∧H6 fa=some (.lst ((fs++ex).map V.str)) ∧
      (∀ y∈fs++ex,y∈rows.map (·.1))∧(fs++ex).Nodup∧(∀ y∈fs++ex,Graph.Reach (Zcw rows) r.1 y)∧∀ z∈r2.2.take j,z∈fs++ex)
      ⟨[],_,rfl,fun b o _ e=>e,by rw [List.append_nil];exact hf5,by rw [List.append_nil];exact go.known,by rw [List.append_nil];exact go.nd,by rw [List.append_nil];exact go.reach,fun z h=>by simp at h⟩ (fun j σ H6 _ ⟨_,_,_,k6,_⟩=>SqT.of (k6 _ _ ht2f ht2)) ?_ ?_
     ·rintro j v σ H6 hj ⟨ex,f3,rfl,k6,hf6,kn,ndx,rch,seen⟩
      obtain ⟨z,hz,rfl⟩:=Zia hj
      have hzu:z∈Zcw rows here:=by rw [uo];exact List.mem_of_getElem? hz
      have hle:(fs++ex).length≤24:=by
       have:=Graph.nodup_le ndx kn
       rw [List.length_map] at this
       omega
      refine ⟨_,rfl,_,rfl,fa,_,rfl,.inl (SqL.of hf6),rfl,Zg8 _,_,rfl,?_⟩
      show if (!inV (.str z) ((fs++ex).map V.str))=true then _ else _
      rw [Zi4]
      have sj:∀ y∈r2.2.take (j + 1),y∈r2.2.take j∨y=z:=fun y h=>by
       rw [List.take_add_one,hz] at h
       rcases List.mem_append.mp h with h | h
       ·exact .inl h
       ·simp at h;exact .inr h
      refine Zdu (fun hn=>?_) (fun hn=>?_)
      ·have hn:z∉fs++ex:=fun c=>by rw [decide_eq_true c] at hn;cases hn
       refine ⟨_,rfl,.inl ⟨rfl,_,SqL.of hf6⟩,_,rfl,fa,_,_,rfl,rfl,hf6,Za2 (by rw [List.length_map];omega),?_⟩
       refine ⟨ex++[z],_,rfl,fun b o hb e=>by rw [Zac hb];exact k6 b o hb e,?_,?_,?_,?_,?_⟩
       ·have e:(fs++(ex++[z])).map V.str=(fs++ex).map V.str++[V.str z]:=by simp
        rw [uS,e]
       ·intro y hy
        rw [← List.append_assoc] at hy
        rcases List.mem_append.mp hy with h | h
        ·exact kn y h
        ·rw [List.mem_singleton.mp h]
         exact Zif g (go.known here hin) hzu
       ·rw [← List.append_assoc]
        refine List.nodup_append.mpr ⟨ndx,by simp,fun a ha b hb e=>?_⟩
        rw [List.mem_singleton.mp hb] at e
        rw [e] at ha
        exact hn ha
       ·intro y hy
        rw [← List.append_assoc] at hy
        rcases List.mem_append.mp hy with h | h
        ·exact rch y h
        ·rw [List.mem_singleton.mp h]
         exact (go.reach here hin).snoc hzu
       ·intro y hy
        rw [← List.append_assoc]
        rcases sj y hy with h | h
        ·exact List.mem_append.mpr (.inl (seen y h))
        ·rw [h];simp
      ·have hn:z∈fs++ex:=Classical.byContradiction fun c=>hn (by rw [decide_eq_false c];rfl)
       refine ⟨ex,_,rfl,k6,hf6,kn,ndx,rch,fun y hy=>?_⟩
       rcases sj y hy with h | h
       ·exact seen y h
       ·rw [h];exact hn
     ·rintro σ H6 ⟨ex,f3,rfl,k6,hf6,kn,ndx,rch,seen⟩
      rw [List.length_map,List.take_length] at seen
      refine ⟨_,rfl,_,_,rfl,rfl,m - 1,by omega,fs++ex,k + 1,_,rfl,fun b o e=>k6 b o (nNo e hfa) (s5 _ _ e),hf6,⟨List.mem_append.mpr (.inl go.start),kn,ndx,rch,?_⟩,by rw [List.length_append];omega,by omega⟩
      intro y hy z hz
      have htk:(fs++ex).take (k + 1)=fs.take k++[here]:=by
       rw [List.take_append_of_le_length (by omega),List.take_add_one,hat]
       rfl
      rw [htk] at hy
      rcases List.mem_append.mp hy with h | h
      ·exact List.mem_append.mpr (.inl (go.closed y h z hz))
      ·rw [List.mem_singleton.mp h,uo] at hz
       exact seen z hz
    ·have hge:fs.length≤k:=by
      have:¬ ((k:Int)<(fs.length:Int)):=fun z=>hlt (decide_eq_true z)
      omega
     have aa5:=s5 _ _ haa1
     have hnew:(Sum.inr r.1:Key)∉avs.map (·.1):=by rw [hA.keys];exact Zfp g.nd hr'
     have hil:(rows.take i).length≤24:=by rw [List.length_take];omega
     have hkl:avs.length=(rows.take i).length:=(Paired.length hA).symm
     refine ⟨_,rfl,_,rfl,_,rfl,aa,_,rfl,Zla.k (k:=Sum.inr r.1) aa5 (Za2 (by omega)),?_⟩
     have lk:∀ b xs,H5 b=some (.lst xs)→(upd H5 aa (.dK (Zgh avs (Sum.inr r.1) (.ref fa)))) b=some (.lst xs):=fun b xs e=>by
      rw [Zac (fun z=>by rw [z,aa5] at e;cases e)];exact e
     refine ⟨_,_,_,_,_,_,rfl,fun b o hb e=>by rw [Zac hb];exact s5 _ _ (k1 b o hb e),uS,?_⟩
     have sn:Zdd (upd H5 aa (.dK (Zgh avs (Sum.inr r.1) (.ref fa)))) rows (rows.take i++[r]) (avs++[(Sum.inr r.1,V.ref fa)]):=Paired.snoc ((hA.mono fun b xs e=>s5 _ _ e).mono lk) ⟨rfl,fa,fs,rfl,lk _ _ hf5,go.all hge,go.le⟩
     rw [← Zeh _ (Zdi hnew)] at sn
     rw [List.take_add_one,hr']
     exact sn
   ·rintro σ H' ⟨avs,a,b,c,e,f',rfl,k1,haa1,hA⟩
    rw [← hvl,List.take_length] at hA
    exact ⟨_,rfl,q aa avs H' (fun b o e=>k1 b o (nNo e aaH) (s3 _ _ e)) haa1 hA⟩
end
end K46
namespace K46
open PySem L2 Md
def Ztz (rows:List (Str×List Str)) (n:Nat) (xs:List Str):Bool:=decide (xs.length=n)&&xs.all fun x=>decide (x∈rows.map (·.1))
structure Zbj (rows:List (Str×List Str)) (n:Nat) (xs:List Str):Prop where
 len:xs.length=n
 known:∀ x∈xs,x∈rows.map (·.1)
theorem Zbj.is {rows:List (Str×List Str)}{n:Nat}{xs:List Str}(h:Zbj rows n xs):Ztz rows n xs=true:=by
 unfold Ztz
 rw [decide_eq_true h.len,Bool.true_and,List.all_eq_true]
 exact fun x hx=>decide_eq_true (h.known x hx)
def Zj8 (C:Addr):Sp:=fun vs H Q _=>∃ (p t:Addr) (n:Nat) (rows:List (Str×List Str)) (xs:List Str),vs=[.ref p,.int n,.ref t]∧Zco C H p rows∧Zek rows∧H t=some (.tup (xs.map V.str))∧xs.length≤1000∧∀ H',Zal H H'→Q (.bl (Ztz rows n xs)) H'
def Zs6 (rows:List (Str×List Str)):V→V
 | .str x=>.bl (decide (x∈rows.map (·.1)))
 | _=>.non
theorem Zqe (rows:List (Str×List Str)) (xs:List Str):(((xs.map V.str).filter fun _=>true).map (Zs6 rows))=(xs.map fun x=>decide (x∈rows.map (·.1))).map V.bl:=by
 rw [List.filter_eq_self.mpr (fun _ _=>rfl),List.map_map,List.map_map]
 rfl
theorem Z1x:(["word","kinds"]:List Str).Nodup:=by decide +kernel
section
variable {P:Program} {w:World} {K:PySem.W.Frag} {mg:Str→Option Value} {base:Heap}
abbrev nIC:List Str:=["kinds","places","call"]
theorem Z4g:Zap nIC nIC (Zab Zc1):=⟨rfl,rfl,rfl,by decide +kernel,rfl,by decide +kernel,by decide +kernel⟩
theorem Zjt {f C fH:Addr}{fd fdH:FuncData}(F:Def K mg "is_call" Zc1 nIC f fd) (len:mg "len"=none) (all:mg "all"=none) (TC:Zmz K C) (MH:Zwx K C fH fdH):Za3 P w K mg base CX0 2 f fd nIC (Zj8 C):=by
 have GH:Za3 P w K mg base CX0 1 fH fdH ["self","word"] (Zw5 C):=Zwk MH.fn TC
 refine F.fn.ok Z4g (fun vs H Q E h=>?_) (fun cdv A outer s H vs Q E hr h=>?_)
 ·obtain ⟨p,t,n,rows,xs,rfl,_⟩:=h
  rfl
 ·obtain ⟨p,t,n,rows,xs,rfl,kd,g,ht,hz,q⟩:=h
  obtain ⟨dx,d,a,o,oa,kvs,avs,h1,_⟩:=kd.ex
  have hr1:Zec 1 _:=hr.mono (by decide)
  refine' ⟨_,Zad (Zat (Zse ?ea (Zsc ?eb))),?_⟩
  case ea=>exact Zft Zd1 (Zan Zak (by rfl) len PySem.boot_len (pC (pv 2) Zaa)) (pv 1) (Zaz _)
  case eb=>exact Zan (Zh8 rfl) (by rfl) all PyProof.Rows.boot_all (pC
    (Zbr ["word"] ["kinds"] [0] (fun _=>Za0 (osc:=Zab Zc1) (on:=nIC) (by decide +kernel) rfl rfl rfl) (Zik (pv 2)) (fun C s H fp=>Zah (i:=0) Z1x rfl (Or.inl rfl) (Or.inr rfl)) (fun C s H fp=>Zbn)
     (fun C s H fp=>Zil (pv 1) TC.cl MH.me GH hr1 MH.b .nil Ze1 (pC (pv 0) Zaa))) Zaa)
  refine ⟨_,rfl,t,_,rfl,.inr (SqT.of ht),_,rfl,rfl,_,rfl,?_⟩
  have e:decide (V.int ((xs.map V.str).length:Nat)=V.int n)=decide (xs.length=n):=by
   rw [List.length_map]
   exact decide_eq_decide.mpr ⟨fun z=>by injection z with z;omega,fun z=>by rw [z]⟩
  rw [e]
  refine Zdu (fun h=>?_) (fun h=>?_)
  ·refine ⟨_,rfl,t,rfl,⟨_,SqT.of ht⟩,Ze9 (Zfc (xs:=xs.map V.str)) (sL (by rw [List.length_map];omega)) (fun _=>true) (Zs6 rows) (fun D ys hD=>SqT.of (by rw [Zac (nNo ht hD)];exact ht)) ?_ ?_ ?_⟩
   ·intro D ys v R _ _ hR
    exact hR
   ·intro D ys v R hD hv _ hR
    obtain ⟨x,hx,rfl⟩:=List.mem_map.mp hv
    have s2:Zal H (upd H D (.lst ys)):=Zcq hD
    exact ⟨_,rfl,p,dx,_,rfl,s2 _ _ h1,Zwl _ _,_,rfl,p,rows,x,rfl,kd.mono s2,g,hR⟩
   ·intro D hD
    refine ⟨D,_,rfl,SqL.of (by rw [uS,Zqe]),?_⟩
    have q':=q _ (Zcq (o:=.lst (((xs.map V.str).filter fun _=>true).map (Zs6 rows))) hD)
    unfold Ztz at q'
    rw [h,Bool.true_and] at q'
    show Q (.bl ((xs.map fun x=>decide (x∈rows.map (·.1))).all id)) _
    rw [List.all_map]
    exact q'
  ·have q':=q H (Zal.refl H)
   unfold Ztz at q'
   rw [show decide (xs.length=n)=false by simpa using h,Bool.false_and] at q'
   exact q'
def Zay (H:Hp) (ds:List (List Str)) (vs:List V):Prop:=Paired (fun (d:List Str) v=>∃ t,v=V.ref t∧H t=some (.tup (d.map V.str))) ds vs
theorem Zay.mono {H H':Hp}{ds:List (List Str)}{vs:List V}(h:Zay H ds vs) (s:Zal H H'):Zay H' ds vs:=Paired.mapP h fun _ _ ⟨t,e,x⟩=>⟨t,e,s _ _ x⟩
structure Zbk (rows:List (Str×List Str)) (n:Nat) (ds:List (List Str)):Prop where
 call:∀ d∈ds,Zbj rows n d
 nd:ds.Nodup
 few:ds.length≤64
def Zfo (d:List Str):List Key:=d.map Sum.inr
theorem Zd7 (d:List Str):(Zfo d).map kV=d.map V.str:=by
 unfold Zfo
 rw [List.map_map]
 rfl
theorem Zh6 {d e:List Str}(h:Zfo d=Zfo e):d=e:=by
 unfold Zfo at h
 exact List.map_inj_right (fun a b z=>by injection z) |>.mp h
theorem Zf3 {ds:List (List Str)}(nd:ds.Nodup) {i:Nat}{d:List Str}(h:ds[i]?=some d):Zfo d∉(ds.take i).map Zfo:=by
 intro m
 obtain ⟨e,he,q⟩:=List.mem_map.mp m
 rw [Zh6 q] at he
 exact Zsx nd h he
def Zhn (K:PySem.W.Frag) (C:Addr):Sp:=fun vs H Q _=>∃ (p l:Addr) (n:Nat) (b:Bool) (rows:List (Str×List Str)) (ds:List (List Str)) (us:List V),vs=[.ref p,.int n,.ref l]∧Zco C H p rows∧Zek rows∧SqB K b H l us∧Zay H ds us∧Zbk rows n ds∧n≤4∧∀ H',Zal H H'→Q .non H'
abbrev nCD:List Str:=["kinds","places","deeds","seen","number","call"]
theorem Z3j:Zap nCD ["kinds","places","deeds"] (Zab Zcb):=⟨rfl,rfl,rfl,by decide +kernel,rfl,by decide +kernel,by decide +kernel⟩
theorem Zje {f C fI fH:Addr}{fd fdI fdH:FuncData}(F:Def K mg "check_deeds" Zcb ["kinds","places","deeds"] f fd) (DI:Def K mg "is_call" Zc1 nIC fI fdI) (enum:mg "enumerate"=none) (len:mg "len"=none) (all:mg "all"=none) (TC:Zmz K C) (MH:Zwx K C fH fdH):
  Za3 P w K mg base CX0 3 f fd ["kinds","places","deeds"] (Zhn K C):=by
 have GI:Za3 P w K mg base CX0 2 fI fdI nIC (Zj8 C):=Zjt DI len all TC MH
 refine F.fn.ok Z3j (fun vs H Q E h=>?_) (fun cdv A outer s H vs Q E hr h=>?_)
 ·obtain ⟨p,l,n,b,rows,ds,us,rfl,_⟩:=h
  rfl
 ·obtain ⟨p,l,n,b,rows,ds,us,rfl,kd,g,hl,hD,gd,hn,q⟩:=h
  have nd:=Z3j.nd
  have hu:=Zfw hr
  refine ⟨_,pS (Zag (i:=3) nd rfl (Or.inl rfl) Zh5)
   (Zad (Zbw PassesOwn.never rfl (Zsa (by rfl) enum (pC (pv 2) Zaa)) (Zfm rfl (gC (Zah (i:=4) nd rfl (Or.inl rfl)) (gC (Zah (i:=5) nd rfl (Or.inl rfl)) Zee)))
    (pS (Zbe (Zef (Zfl (Zaf DI GI hr (pC (pv 0) (pC (pv 1) (pC (pv 5) Zaa)))))) Zb4 Zas)
    (pS (Zbe (Zii (Zlx hu (pv 5) (pv 3))) Zb4 Zas)
    (Zad (Zeq hu (pv 3) (pv 5) Zgz rfl)))))),?_⟩
  intro d hd
  have s0:Zal H (upd H d (.dT [])):=Zcq hd
  have hvl:=hD.length
  have few:=gd.few
  refine ⟨_,rfl,b,l,us,rfl,hl.mono s0,Zg6 (fun i σ H'=>∃ (kvs:List (List Key×V)) (a c:Option V),σ=[some (.ref p),some (.int n),some (.ref l),some (.ref d),a,c]∧Zal H H'∧H' d=some (.dT kvs)∧kvs.map (·.1)=(ds.take i).map Zfo)
   ⟨[],none,none,rfl,s0,uS,by simp⟩ (fun i σ H' _ ⟨_,_,_,_,s,_⟩=>hl.mono s) ?_ ?_⟩
  ·rintro i pr t σ H' hi ⟨kvs,a,c,rfl,s1,hdk,hk⟩ ht0
   obtain ⟨e1,hx⟩:=Zg9 hi
   obtain ⟨dd,hdd,t2,e2,ht2⟩:=Zam hD hx
   refine Zo8 ?_
   have s2:Zal H' (upd H' t (.tup [pr.1,pr.2])):=Zcq ht0
   have hmem:dd∈ds:=List.mem_of_getElem? hdd
   have gc:=gd.call dd hmem
   rw [e2]
   show Zw0 _ _ _ [some (.ref p),some (.int n),some (.ref l),some (.ref d),some pr.1,some (.ref t2)] _
   have s02:=s1.trans s2
   refine ⟨_,rfl,_,rfl,_,rfl,p,t2,n,rows,dd,rfl,kd.mono ?_,g,?_,by have:=gc.len;omega,fun H3 s3=>⟨_,rfl,?_⟩⟩
   ·rw [← e2];exact s02
   ·rw [← e2];exact s02 _ _ ht2
   rw [gc.is]
   refine Zht ?_
   rw [← e2] at s3
   have s03:=s02.trans s3
   have hd3:H3 d=some (.dT kvs):=s3 _ _ (s2 _ _ hdk)
   have ht3:H3 t2=some (.tup ((Zfo dd).map kV)):=by rw [Zd7];exact s03 _ _ ht2
   refine ⟨_,rfl,_,rfl,d,_,rfl,Zgf.t (k:=Zfo dd) hd3 ht3,_,rfl,?_⟩
   have hnew:Zfo dd∉kvs.map (·.1):=by rw [hk];exact Zf3 gd.nd hdd
   rw [Ze4 hnew]
   refine Zht ?_
   have hkl:kvs.length=(ds.take i).length:=by have:=congrArg List.length hk;simpa using this
   have hil:(ds.take i).length≤64:=by rw [List.length_take];omega
   refine ⟨_,rfl,_,rfl,d,_,rfl,Zla.t (k:=Zfo dd) hd3 ht3 (Za2 (by omega)),?_⟩
   refine ⟨_,_,_,rfl,fun b o e=>?_,uS,?_⟩
   ·rw [Zac (nNo e hd)];exact s03 _ _ e
   ·rw [Zpx hnew,hk,List.take_add_one,hdd,List.map_append]
    rfl
  ·rintro σ H' ⟨kvs,a,c,rfl,s1,hdk,hk⟩
   exact q H' s1
end
end K46
namespace K46
open PySem L2 Md
theorem Z5a:¬ (("book":Str)="stands"):=by decide +kernel
theorem Z49:¬ (("book":Str)="width"):=by decide +kernel
theorem Z48:¬ (("width":Str)="stands"):=by decide +kernel
def Zge (k t:Addr) (n:Nat):List (Str×V):=Zgn "stands" (.ref t) (Zgn "width" (.int n) (Zgn "book" (.ref k) []))
theorem Zny (k t:Addr) (n:Nat):(Zge k t n).lookup ("book":Str)=some (.ref k):=by
 unfold Zge
 rw [Zbb,if_neg Z5a,Zbb,if_neg Z49,Zbb,if_pos rfl]
theorem Znx (k t:Addr) (n:Nat):(Zge k t n).lookup ("width":Str)=some (.int n):=by
 unfold Zge
 rw [Zbb,if_neg Z48,Zbb,if_pos rfl]
theorem Zyf (k t:Addr) (n:Nat):(Zge k t n).lookup ("stands":Str)=some (.ref t):=by
 unfold Zge
 rw [Zbb,if_pos rfl]
theorem Zg7 (k t:Addr) (n:Nat) {m:Str} (h1:¬ m="stands") (h2:¬ m="width") (h3:¬ m="book"):(Zge k t n).lookup m=none:=by
 unfold Zge
 rw [Zbb,if_neg h1,Zbb,if_neg h2,Zbb,if_neg h3]
 rfl
theorem Ziu (k t:Addr) (n:Nat):(Zge k t n).lookup ("kinds":Str)=none:=Zg7 k t n (by decide +kernel) (by decide +kernel) (by decide +kernel)
theorem Zjv (k t:Addr) (n:Nat):(Zge k t n).lookup ("places":Str)=none:=Zg7 k t n (by decide +kernel) (by decide +kernel) (by decide +kernel)
theorem Zl6 (k t:Addr) (n:Nat):(Zge k t n).lookup ("deeds":Str)=none:=Zg7 k t n (by decide +kernel) (by decide +kernel) (by decide +kernel)
structure Zcp (C B:Addr) (H:Hp) (p k:Addr) (rows:List (Str×List Str)) (n:Nat) (ds:List (List Str)):Prop where
 ex:∃ (dx t:Addr) (us:List V),H p=some (.ins B dx (Zge k t n))∧Zco C H k rows∧H t=some (.tup us)∧Zay H ds us
theorem Zcp.mono {C B:Addr}{H H':Hp}{p k:Addr}{rows:List (Str×List Str)}{n:Nat}{ds:List (List Str)}(h:Zcp C B H p k rows n ds) (s:Zal H H'):Zcp C B H' p k rows n ds:=by
 obtain ⟨dx,t,us,h1,h2,h3,h4⟩:=h.ex
 exact ⟨dx,t,us,s _ _ h1,h2.mono s,s _ _ h3,h4.mono s⟩
structure Zi8 (K:PySem.W.Frag) (B:Addr):Prop where
 cl:Cls K B
 nB:Zfz K B "book"
 nW:Zfz K B "width"
 nS:Zfz K B "stands"
structure Zyn (mg:Str→Option Value):Prop where
 places:∃ t,mg "MOST_PLACES"=some (.int 4 t)
 deeds:∃ t,mg "MOST_DEEDS"=some (.int 64 t)
 len:mg "len"=none
 all:mg "all"=none
 tuple:mg "tuple"=none
 list:mg "list"=none
 enum:mg "enumerate"=none
def Zm7 (K:PySem.W.Frag) (C B:Addr):Sp:=fun vs H Q _=>∃ (p dx k l:Addr) (n:Nat) (rows:List (Str×List Str)) (ds:List (List Str)) (us:List V),vs=[.ref p,.ref k,.int n,.ref l]∧H p=some (.ins B dx [])∧Zco C H k rows∧Zek rows∧(SqL K H l us∨H l=some (.tup us))∧Zay H ds us∧Zbk rows n ds∧1≤n∧n≤4 ∧
 ∀ H',Zcp C B H' p k rows n ds→(∀ b o,b≠p→H b=some o→H' b=some o)→Q .non H'
theorem Zjx {C p:Addr}{H H':Hp}{k:Addr}{rows:List (Str×List Str)}{o:HO}(h:Zco C H k rows) (hp:H p=some o) (s:∀ b o,b≠p→H b=some o→H' b=some o) (nk:k≠p) (no:∀ o' u,o≠.frz o' u) (nt:∀ xs,o≠.tup xs):Zco C H' k rows:=by
 obtain ⟨dx,d,a,o1,oa,kvs,avs,h1,h2,h3,h4⟩:=h.ex
 have ne:∀ {b o' u},H b=some (.frz o' u)→b≠p:=fun {b o' u} e z=>by rw [z,hp] at e;exact no _ _ (Option.some.inj e)
 have net:∀ {b xs},H b=some (.tup xs)→b≠p:=fun {b xs} e z=>by rw [z,hp] at e;exact nt _ (Option.some.inj e)
 exact ⟨dx,d,a,o1,oa,kvs,avs,s _ _ nk h1,⟨s _ _ (ne h2.at_) h2.at_,h2.ups.mono fun b xs e=>s _ _ (net e) e⟩,s _ _ (ne h3) h3,h4.mono fun b o' fk e=>s _ _ (ne e) e⟩
section
variable {P:Program} {w:World} {K:PySem.W.Frag} {mg:Str→Option Value} {base:Heap}
abbrev nBI:List Str:=["self","kinds","places","deeds"]
theorem Z4o:Zap nBI nBI (Zab Zbv):=⟨rfl,rfl,rfl,by decide +kernel,rfl,by decide +kernel,by decide +kernel⟩
theorem Zu7 {f B C fD fI fH:Addr}{fd fdD fdI fdH:FuncData}(F:Fun K "__init__" "Board.__init__" Zbv f fd) (T:Zyn mg) (TB:Zi8 K B) (TC:Zmz K C) (DD:Def K mg "check_deeds" Zcb ["kinds","places","deeds"] fD fdD) (DI:Def K mg "is_call" Zc1 nIC fI fdI) (MH:Zwx K C fH fdH) (hBC:B≠C):
  Za3 P w K mg base CX0 4 f fd nBI (Zm7 K C B):=by
 have GD:Za3 P w K mg base CX0 3 fD fdD ["kinds","places","deeds"] (Zhn K C):=Zje DD DI T.enum T.len T.all TC MH
 refine F.ok Z4o (fun vs H Q E h=>?_) (fun cdv A outer s H vs Q E hr h=>?_)
 ·obtain ⟨p,dx,k,l,n,rows,ds,us,rfl,_⟩:=h
  rfl
 ·obtain ⟨p,dx,k,l,n,rows,ds,us,rfl,hp,kd,g,hl,hD,gd,n1,n4,q⟩:=h
  obtain ⟨b,hl,hb0⟩:∃ b,SqB K b H l us∧(b=false→H l=some (.tup us)):=by
   rcases hl with hl | hl
   ·exact ⟨true,hl,fun z=>by cases z⟩
   ·exact ⟨false,SqT.of hl,fun _=>hl⟩
  obtain ⟨t1,hP⟩:=T.places
  obtain ⟨t2,hM⟩:=T.deeds
  have hr3:Zec 3 _:=hr.mono (by decide)
  refine ⟨_,pS (Zbe (Zef (Zfe Zjd Zjd Zae (pv 2) (Zgo (v:=.int 4) (by rfl) hP ⟨_,rfl⟩))) Zb4 Zas)
   (pS (Zbe (Zaq Zp0 (Zan Zdy (by rfl) T.len PySem.boot_len (pC (pv 3) Zaa)) (Zgo (v:=.int 64) (by rfl) hM ⟨_,rfl⟩) (Zaz _)) Zb4 Zas)
   (pS (Za9 (Zaf DD GD hr3 (pC (pv 1) (pC (pv 2) (pC (pv 3) Zaa)))))
   (pS (Zls (pv 0) (pv 1) rfl) (pS (Zls (pv 0) (pv 2) rfl)
   (Zad (Zls (pv 0) (Zc2 Zdx (by rfl) T.tuple PyProof.Rows.boot_tuple (pC (pv 3) Zaa)) rfl)))))),?_⟩
  refine ⟨_,rfl,_,_,rfl,rfl,_,rfl,?_⟩
  rw [show decide ((1:Int)≤(n:Int))=true from decide_eq_true (by omega)]
  refine Zqt ⟨_,_,rfl,rfl,_,rfl,?_⟩
  rw [show (decide ((n:Int)≤4))=true from decide_eq_true (by omega)]
  refine Zht ?_
  have hul:=hD.length
  have few:=gd.few
  refine ⟨_,rfl,_,_,rfl,Znq hl,_,_,rfl,rfl,_,rfl,?_⟩
  rw [show decide ((64:Int)<(us.length:Int))=false from decide_eq_false (by omega)]
  refine Zht ?_
  refine ⟨_,rfl,_,rfl,_,rfl,p |> fun _=>k,l,n,b,rows,ds,us,rfl,kd,g,hl,hD,gd,n4,fun H1 s1=>?_⟩
  have hp1:=s1 _ _ hp
  have kd1:=kd.mono s1
  have nkp:k≠p:=by
   intro z
   obtain ⟨dx',d,a,o,oa,kvs,avs,h1,_⟩:=kd.ex
   rw [z,hp] at h1
   injection h1 with h1
   injection h1 with h1
   exact hBC h1
  refine ⟨_,rfl,_,rfl,p,B,dx,[],rfl,hp1,TB.cl,TB.nB,(by show 0<1000;decide),?_⟩
  refine ⟨_,rfl,_,rfl,p,B,dx,_,rfl,uS,TB.cl,TB.nW,(by show 1<1000;decide),?_⟩
  rw [Zhf]
  have kp:∀ {fs:List (Str×V)} (b:Addr) (o:HO),b≠p→H b=some o→(upd H1 p (.ins B dx fs)) b=some o:=fun b o hb e=>by rw [Zac hb];exact s1 _ _ e
  have hlp:∀ {fs:List (Str×V)},SqB K b (upd H1 p (.ins B dx fs)) l us:=fun {fs}=>by
   have hl1:=hl.mono s1
   cases b with
   | true =>
    rcases (show SqL K H1 l us from hl1) with (e | ⟨o,e⟩) | e
    ·exact .inl (.inl (by rw [Zac (fun z=>by rw [z,hp1] at e;cases e)];exact e))
    ·exact .inl (.inr ⟨o,by rw [Zac (fun z=>by rw [z,hp1] at e;cases e)];exact e⟩)
    ·exact .inr e
   | false =>
    rcases (show SqT K H1 l us from hl1) with (e | ⟨o,e⟩) | e
    ·exact .inl (.inl (by rw [Zac (fun z=>by rw [z,hp1] at e;cases e)];exact e))
    ·exact .inl (.inr ⟨o,by rw [Zac (fun z=>by rw [z,hp1] at e;cases e)];exact e⟩)
    ·exact .inr e
  have fin:∀ (t:Addr) (H2:Hp),Zal (upd H1 p (.ins B dx (Zgn "width" (.int n) (Zgn "book" (.ref k) [])))) H2→H2 t=some (.tup us)→Q .non (upd H2 p (.ins B dx (Zge k t n))):=fun t H2 s2 ht=>by
   have hp2:H2 p=some (.ins B dx (Zgn "width" (.int n) (Zgn "book" (.ref k) []))):=s2 _ _ uS
   have k2:∀ b o,b≠p→H b=some o→(upd H2 p (.ins B dx (Zge k t n))) b=some o:=fun b o hb e=>by rw [Zac hb];exact s2 _ _ (kp b o hb e)
   refine q _ ⟨dx,t,us,uS,Zjx kd hp k2 nkp (fun _ _ z=>by cases z) (fun _ z=>by cases z),by rw [Zac (fun z=>by rw [z,hp2] at ht;cases ht)];exact ht,Paired.mapP hD fun d v ⟨t',e,x⟩=>⟨t',e,k2 _ _ (fun z=>by rw [z,hp] at x;cases x) x⟩⟩ k2
  refine ⟨_,rfl,l,us,rfl,?_⟩
  have no:=hlp (fs:=Zgn "width" (.int n) (Zgn "book" (.ref k) []))
  have wd:(Zgn "width" (V.int n) (Zgn "book" (V.ref k) [])).length<1000:=by show 2<1000;decide
  cases b with
  | true =>
   refine .inl ⟨no,fun t ht=>⟨_,rfl,p,B,dx,_,rfl,(Zcq ht) _ _ uS,TB.cl,TB.nS,wd,fin t _ (Zcq ht) uS⟩⟩
  | false =>
   have e:(upd H1 p (.ins B dx (Zgn "width" (.int n) (Zgn "book" (.ref k) [])))) l=some (.tup us):=by
    have e0:=s1 _ _ (hb0 rfl)
    rw [Zac (fun z=>by rw [z,hp1] at e0;cases e0)]
    exact e0
   exact .inr ⟨no,_,rfl,p,B,dx,_,rfl,uS,TB.cl,TB.nS,wd,fin l _ (Zal.refl _) e⟩
def Zh2 (C B:Addr):Sp:=fun vs H Q _=>∃ (p k:Addr) (rows:List (Str×List Str)) (n:Nat) (ds:List (List Str)),vs=[.ref p]∧Zcp C B H p k rows n ds∧Q (.ref k) H
def Zid (C B:Addr):Sp:=fun vs H Q _=>∃ (p k:Addr) (rows:List (Str×List Str)) (n:Nat) (ds:List (List Str)),vs=[.ref p]∧Zcp C B H p k rows n ds∧Q (.int n) H
def Zj9 (C B:Addr):Sp:=fun vs H Q _=>∃ (p k:Addr) (rows:List (Str×List Str)) (n:Nat) (ds:List (List Str)),vs=[.ref p]∧Zcp C B H p k rows n ds∧∀ l us,H l=none→Zay H ds us→Q (.ref l) (upd H l (.lst us))
theorem Z4n:Zap ["self"] ["self"] (Zab Zci):=⟨rfl,rfl,rfl,by decide +kernel,rfl,by decide +kernel,by decide +kernel⟩
theorem Zit {f C B:Addr}{fd:FuncData}(F:Fun K "kinds" "Board.kinds" Zci f fd) (TB:Zi8 K B):Za3 P w K mg base CX0 1 f fd ["self"] (Zh2 C B):=by
 refine F.ok Z4n (fun vs H Q E h=>?_) (fun cdv A outer s H vs Q E hr h=>?_)
 ·obtain ⟨p,k,rows,n,ds,rfl,_⟩:=h
  rfl
 ·obtain ⟨p,k,rows,n,ds,rfl,⟨dx,t,us,h1,h2,h3,h4⟩,q⟩:=h
  exact ⟨_,Zad (Zat (Zgi (pv 0) rfl)),_,rfl,p,B,dx,_,_,rfl,h1,TB.cl,TB.nB,Zny _ _ _,q⟩
theorem Z4m:Zap ["self"] ["self"] (Zab Zb3):=⟨rfl,rfl,rfl,by decide +kernel,rfl,by decide +kernel,by decide +kernel⟩
theorem Zju {f C B:Addr}{fd:FuncData}(F:Fun K "places" "Board.places" Zb3 f fd) (TB:Zi8 K B):Za3 P w K mg base CX0 1 f fd ["self"] (Zid C B):=by
 refine F.ok Z4m (fun vs H Q E h=>?_) (fun cdv A outer s H vs Q E hr h=>?_)
 ·obtain ⟨p,k,rows,n,ds,rfl,_⟩:=h
  rfl
 ·obtain ⟨p,k,rows,n,ds,rfl,⟨dx,t,us,h1,h2,h3,h4⟩,q⟩:=h
  exact ⟨_,Zad (Zat (Zgi (pv 0) rfl)),_,rfl,p,B,dx,_,_,rfl,h1,TB.cl,TB.nW,Znx _ _ _,q⟩
theorem Z4p:Zap ["self"] ["self"] (Zab Zcj):=⟨rfl,rfl,rfl,by decide +kernel,rfl,by decide +kernel,by decide +kernel⟩
theorem Zl5 {f C B:Addr}{fd:FuncData}(F:Fun K "deeds" "Board.deeds" Zcj f fd) (TB:Zi8 K B) (list:mg "list"=none):Za3 P w K mg base CX0 1 f fd ["self"] (Zj9 C B):=by
 refine F.ok Z4p (fun vs H Q E h=>?_) (fun cdv A outer s H vs Q E hr h=>?_)
 ·obtain ⟨p,k,rows,n,ds,rfl,_⟩:=h
  rfl
 ·obtain ⟨p,k,rows,n,ds,rfl,⟨dx,t,us,h1,h2,h3,h4⟩,q⟩:=h
  exact ⟨_,Zad (Zat (Zc2 Zez (by rfl) list PyProof.Rows.boot_list (pC (Zgi (pv 0) rfl) Zaa))),_,rfl,p,B,dx,_,_,rfl,h1,TB.cl,TB.nS,Zyf _ _ _,t,us,rfl,.inr (SqT.of h3),fun l hl=>q l us hl h4⟩
abbrev Zoe (K:PySem.W.Frag) (B f:Addr) (fd:FuncData):Prop:=Zjg K B "kinds" "Board.kinds" Zci ["self"] f fd
abbrev Zpn (K:PySem.W.Frag) (B f:Addr) (fd:FuncData):Prop:=Zjg K B "places" "Board.places" Zb3 ["self"] f fd
abbrev Zt4 (K:PySem.W.Frag) (B f:Addr) (fd:FuncData):Prop:=Zjg K B "deeds" "Board.deeds" Zcj ["self"] f fd
end
end K46
namespace K46
open PySem L2 Md
noncomputable def Zbt (rows:List (Str×List Str)) (xs ys:List Str):Bool:=(xs.zip ys).all fun p=>Zex rows p.1 p.2
def Zzb (p:Str×Str):V×V:=(V.str p.1,V.str p.2)
theorem Zj6 (xs ys:List Str):(xs.map V.str).zip (ys.map V.str)=(xs.zip ys).map Zzb:=by rw [List.zip_map];rfl
theorem Zmc {α β:Type}{f:α→β}{l:List α}{i:Nat}{y:β}(h:(l.map f)[i]?=some y):∃ x,l[i]?=some x∧f x=y:=by
 rw [List.getElem?_map] at h
 exact Option.map_eq_some_iff.mp h
def Zh0 (C:Addr):Sp:=fun vs H Q _=>∃ (p a b:Addr) (rows:List (Str×List Str)) (xs ys:List Str),vs=[.ref p,.ref a,.ref b]∧Zco C H p rows∧Zek rows∧H a=some (.tup (xs.map V.str))∧H b=some (.tup (ys.map V.str))∧(∀ x∈xs,x∈rows.map (·.1))∧(∀ y∈ys,y∈rows.map (·.1)) ∧
 ∀ H',Zal H H'→Q (.bl (Zbt rows xs ys)) H'
def Zgk (C:Addr):Sp:=fun vs H Q _=>∃ (p t:Addr) (n:Nat) (rows:List (Str×List Str)) (xs:List Str),vs=[.ref p,.int n,.ref t]∧Zco C H p rows∧Zek rows∧H t=some (.tup (xs.map V.str))∧Zbj rows n xs∧n≤4∧∀ H',Zal H H'→Q .non H'
noncomputable def Zk1 (rows:List (Str×List Str)) (ds:List (List Str)) (xs:List Str):List Nat:=(List.range ds.length).filter fun i=>Zbt rows xs (ds.getD i [])
def Zlk (C B:Addr):Sp:=fun vs H Q _=>∃ (p k t:Addr) (rows:List (Str×List Str)) (n:Nat) (ds:List (List Str)) (xs:List Str),vs=[.ref p,.ref t]∧Zcp C B H p k rows n ds∧Zek rows∧Zbk rows n ds∧n≤4∧H t=some (.tup (xs.map V.str))∧Zbj rows n xs ∧
 ∀ l H',H l=none→Zal H H'→H' l=some (.lst ((Zk1 rows ds xs).map fun i=>V.int (i:Nat)))→Q (.ref l) H'
section
variable {P:Program} {w:World} {K:PySem.W.Frag} {mg:Str→Option Value} {base:Heap}
abbrev nWi:List Str:=["kinds","one","other","low","high"]
theorem Z20:Zap nWi ["kinds","one","other"] (Zab Zd6):=⟨rfl,rfl,rfl,by decide +kernel,rfl,by decide +kernel,by decide +kernel⟩
theorem Zl0 {f C fU fC fH:Addr}{fd fdU fdC fdH:FuncData}(F:Def K mg "within" Zd6 ["kinds","one","other"] f fd) (zip:mg "zip"=none) (TC:Zmz K C) (MU:Zww K C fU fdU) (MC:Zwy K C fC fdC) (MH:Zwx K C fH fdH):
  Za3 P w K mg base CX0 4 f fd ["kinds","one","other"] (Zh0 C):=by
 have GU:Za3 P w K mg base CX0 3 fU fdU ["self","one","other"] (Zre C):=Zuw MU.fn TC MC MH
 refine F.fn.ok Z20 (fun vs H Q E h=>?_) (fun cdv A outer s H vs Q E hr h=>?_)
 ·obtain ⟨p,a,b,rows,xs,ys,rfl,_⟩:=h
  rfl
 ·obtain ⟨p,a,b,rows,xs,ys,rfl,kd,g,ha,hb,hx,hy,q⟩:=h
  obtain ⟨dx,d,a1,o,oa,kvs,avs,h1,_⟩:=kd.ex
  have nd:=Z20.nd
  refine ⟨_,pS (Zbw PassesOwn.never rfl (Zwg (by rfl) zip (pC (pv 1) (pC (pv 2) Zaa))) (Zfm rfl (gC (Zah (i:=3) nd rfl (Or.inl rfl)) (gC (Zah (i:=4) nd rfl (Or.inl rfl)) Zee)))
    (Zad (Zbe (Zef (Zfl (Zil (pv 0) TC.cl MU.me GU hr MU.b .nil Ze1 (pC (pv 3) (pC (pv 4) Zaa))))) (Zad (Zat Zgz)) Zas)))
   (Zad (Zat Zgz)),?_⟩
  refine ⟨_,rfl,_,rfl,a,b,_,_,rfl,SqT.of ha,SqT.of hb,Zg6 (fun i σ H'=>∃ (u v:Option V),σ=[some (.ref p),some (.ref a),some (.ref b),u,v]∧Zal H H'∧∀ z∈(xs.zip ys).take i,Zex rows z.1 z.2=true)
   ⟨none,none,rfl,Zal.refl H,by simp⟩ (fun i σ H' _ ⟨_,_,_,s,_⟩=>⟨SqT.of (s _ _ ha),SqT.of (s _ _ hb)⟩) ?_ ?_⟩
  ·rintro i pr t σ H' hi ⟨u,v,rfl,s1,hall⟩ ht0
   rw [Zj6] at hi
   obtain ⟨z,hz,rfl⟩:=Zmc hi
   refine Zo8 ?_
   have s2:=s1.trans (Zcq (o:=.tup [(Zzb z).1,(Zzb z).2]) ht0)
   have zm:=List.mem_of_getElem? hz
   have hzx:=hx _ (List.of_mem_zip zm).1
   have hzy:=hy _ (List.of_mem_zip zm).2
   refine ⟨_,rfl,p,dx,_,rfl,s2 _ _ h1,Zva _ _,_,rfl,_,rfl,p,rows,z.1,z.2,rfl,kd.mono s2,g,hzx,hzy,_,rfl,?_⟩
   refine Zdu (fun h=>?_) (fun h=>?_)
   ·have e:Zbt rows xs ys=false:=by
     unfold Zbt
     rw [List.all_eq_false]
     exact ⟨z,zm,by simpa using h⟩
    have q':=q _ s2
    rw [e] at q'
    exact q'
   ·refine ⟨_,_,rfl,s2,fun y hy'=>?_⟩
    rw [List.take_add_one,hz] at hy'
    rcases List.mem_append.mp hy' with m | m
    ·exact hall y m
    ·have:y=z:=by simpa using m
     rw [this]
     simpa using h
  ·rintro σ H' ⟨u,v,rfl,s1,hall⟩
   rw [Zj6,List.length_map,List.take_length] at hall
   have e:Zbt rows xs ys=true:=by
    unfold Zbt
    rw [List.all_eq_true]
    exact hall
   have q':=q _ s1
   rw [e] at q'
   exact q'
theorem Z4k:Zap nIC nIC (Zab Zcc):=⟨rfl,rfl,rfl,by decide +kernel,rfl,by decide +kernel,by decide +kernel⟩
theorem Zg0 {f C fI fH:Addr}{fd fdI fdH:FuncData}(F:Def K mg "check_call" Zcc nIC f fd) (DI:Def K mg "is_call" Zc1 nIC fI fdI) (len:mg "len"=none) (all:mg "all"=none) (TC:Zmz K C) (MH:Zwx K C fH fdH):Za3 P w K mg base CX0 3 f fd nIC (Zgk C):=by
 have GI:Za3 P w K mg base CX0 2 fI fdI nIC (Zj8 C):=Zjt DI len all TC MH
 refine F.fn.ok Z4k (fun vs H Q E h=>?_) (fun cdv A outer s H vs Q E hr h=>?_)
 ·obtain ⟨p,t,n,rows,xs,rfl,_⟩:=h
  rfl
 ·obtain ⟨p,t,n,rows,xs,rfl,kd,g,ht,gc,hn,q⟩:=h
  refine ⟨_,Zad (Zbe (Zef (Zfl (Zaf DI GI hr (pC (pv 0) (pC (pv 1) (pC (pv 2) Zaa)))))) Zb4 Zas),?_⟩
  refine ⟨_,rfl,_,rfl,_,rfl,p,t,n,rows,xs,rfl,kd,g,ht,by have:=gc.len;omega,fun H' s'=>⟨_,rfl,?_⟩⟩
  rw [gc.is]
  exact Zht (q H' s')
abbrev nFi:List Str:=["board","call","kinds"]
theorem Z3d:Zap nFi ["board","call"] (Zab Zdq):=⟨rfl,rfl,rfl,by decide +kernel,rfl,by decide +kernel,by decide +kernel⟩
theorem Zxw:(["number","deed","kinds","call"]:List Str).Nodup:=by decide +kernel
def Z3n (p:V×V):V:=p.1
theorem Zvq {rows:List (Str×List Str)}{ds:List (List Str)}{xs:List Str}{us:List V}{p:V×V→Bool}(hl:ds.length=us.length) (h:∀ i (d:List Str) v,ds[i]?=some d→us[i]?=some v→p (.int (i:Nat),v)=Zbt rows xs d):
  ((Zi5 us).filter p).map Z3n=(Zk1 rows ds xs).map fun i=>V.int (i:Nat):=by
 have e1:Zi5 us=(List.range us.length).map fun (i:Nat)=>(V.int (i:Nat),us.getD i .non):=by
  refine List.ext_getElem? fun i=>?_
  by_cases hi:i<us.length
  ·have h1:(Zi5 us)[i]?=some ((Zi5 us)[i]'(by rw [Ze8];exact hi)):=List.getElem?_eq_getElem (by rw [Ze8];exact hi)
   obtain ⟨a,b⟩:=Zg9 h1
   rw [h1,List.getElem?_map,List.getElem?_range hi]
   refine congrArg some (Prod.ext a ?_)
   show _=us.getD i .non
   rw [List.getD_eq_getElem?_getD,b]
   rfl
  ·rw [List.getElem?_eq_none (by rw [Ze8];omega),List.getElem?_eq_none (by simp;omega)]
 rw [e1,List.filter_map,List.map_map]
 unfold Zk1
 rw [hl]
 have e2:(List.range us.length).filter (p ∘ fun (i:Nat)=>(V.int (i:Nat),us.getD i .non))=(List.range us.length).filter fun i=>Zbt rows xs (ds.getD i []):=by
  refine List.filter_congr fun i hi=>?_
  have hi:i<us.length:=List.mem_range.mp hi
  have d1:ds[i]?=some (ds.getD i []):=by rw [List.getD_eq_getElem?_getD,List.getElem?_eq_getElem (by omega)];rfl
  have u1:us[i]?=some (us.getD i .non):=by rw [List.getD_eq_getElem?_getD,List.getElem?_eq_getElem hi];rfl
  exact h i _ _ d1 u1
 rw [e2]
 rfl
noncomputable def Z3s (rows:List (Str×List Str)) (ds:List (List Str)) (xs:List Str):V×V→Bool
 | (.int i,_)=>Zbt rows xs (ds.getD i.toNat [])
 | _=>false
theorem Zp6 {f C B fK fPl fDe fCk fW fI fU fC fH:Addr}{fd fdK fdPl fdDe fdCk fdW fdI fdU fdC fdH:FuncData}(F:Def K mg "fitting" Zdq ["board","call"] f fd) (T:Zyn mg) (zip:mg "zip"=none) (TC:Zmz K C) (TB:Zi8 K B) (MK:Zoe K B fK fdK) (MP:Zpn K B fPl fdPl) (MD:Zt4 K B fDe fdDe)
  (DCk:Def K mg "check_call" Zcc nIC fCk fdCk) (DW:Def K mg "within" Zd6 ["kinds","one","other"] fW fdW) (DI:Def K mg "is_call" Zc1 nIC fI fdI) (MU:Zww K C fU fdU) (MC:Zwy K C fC fdC) (MH:Zwx K C fH fdH):
  Za3 P w K mg base CX0 5 f fd ["board","call"] (Zlk C B):=by
 have GK:Za3 P w K mg base CX0 1 fK fdK ["self"] (Zh2 C B):=Zit MK.fn TB
 have GP:Za3 P w K mg base CX0 1 fPl fdPl ["self"] (Zid C B):=Zju MP.fn TB
 have GD:Za3 P w K mg base CX0 1 fDe fdDe ["self"] (Zj9 C B):=Zl5 MD.fn TB T.list
 have GC:Za3 P w K mg base CX0 3 fCk fdCk nIC (Zgk C):=Zg0 DCk DI T.len T.all TC MH
 have GW:Za3 P w K mg base CX0 4 fW fdW ["kinds","one","other"] (Zh0 C):=Zl0 DW zip TC MU MC MH
 refine F.fn.ok Z3d (fun vs H Q E h=>?_) (fun cdv A outer s H vs Q E hr h=>?_)
 ·obtain ⟨p,k,t,rows,n,ds,xs,rfl,_⟩:=h
  rfl
 ·obtain ⟨p,k,t,rows,n,ds,xs,rfl,bd,g,gd,hn,ht,gc,q⟩:=h
  obtain ⟨dx,ts,us,h1,h2,h3,h4⟩:=bd.ex
  have nd:=Z3d.nd
  have hr1:Zec 1 _:=hr.mono (by decide)
  have hr3:Zec 3 _:=hr.mono (by decide)
  refine' ⟨_,pS (Zag (i:=2) nd rfl (Or.inr rfl) (Zde (pv 0) TB.cl MK.me GK hr1 MK.b .nil Ze1))
   (pS (Za9 (Zaf DCk GC hr3 (pC (pv 2) (pC (Zde (pv 0) TB.cl MP.me GP hr1 MP.b .nil Ze1) (pC (pv 1) Zaa)))))
   (Zad (Zat ?ea))),?_⟩
  case ea=>exact (Zbr ["number","deed"] ["kinds","call"] [2,1] (fun _=>Za0 (osc:=Zab Zdq) (on:=nFi) (by decide +kernel) rfl rfl rfl) (Zsa (by rfl) T.enum (pC (Zde (pv 0) TB.cl MD.me GD hr1 MD.b .nil Ze1) Zaa))
    (fun C s H fp=>Zsb (K:=K) (i:=0) (j:=1) rfl rfl Zxw rfl rfl (Or.inl rfl) (Or.inl rfl) (Or.inr rfl) (Or.inr rfl))
    (fun C s H fp=>Zhh (Zfl (Zaf DW GW hr (pC (pv 2) (pC (pv 3) (pC (pv 1) Zaa)))))) (fun C s H fp=>pv 0))
  refine ⟨_,rfl,p,dx,_,rfl,h1,Ziu _ _ _,p,k,rows,n,ds,rfl,bd,?_⟩
  refine ⟨_,rfl,_,rfl,p,dx,_,rfl,h1,Zjv _ _ _,p,k,rows,n,ds,rfl,bd,_,rfl,k,t,n,rows,xs,rfl,h2,g,ht,gc,hn,fun H1 s1=>?_⟩
  refine ⟨_,rfl,p,dx,_,rfl,s1 _ _ h1,Zl6 _ _ _,p,k,rows,n,ds,rfl,bd.mono s1,fun l us' hl hD=>?_⟩
  have s2:Zal H1 (upd H1 l (.lst us')):=Zcq hl
  have hul:=hD.length
  have few:=gd.few
  refine ⟨true,l,us',rfl,SqL.of uS,Zmp (sL (by rw [Ze8];omega)) (Z3s rows ds xs) Z3n (fun H' s'=>SqL.of (s' _ _ uS)) ?_ ?_ ?_⟩
  ·intro x H' R s' hx hR
   obtain ⟨i,hi⟩:=List.getElem?_of_mem hx
   obtain ⟨e1,hu⟩:=Zg9 hi
   obtain ⟨dd,hdd,t2,e2,ht2⟩:=Zam hD hu
   have s02:=s1.trans (s2.trans s')
   have gcd:=gd.call dd (List.mem_of_getElem? hdd)
   rw [e2]
   refine ⟨_,rfl,_,rfl,_,rfl,k,t,t2,rows,xs,dd,rfl,h2.mono s02,g,s02 _ _ ht,s' _ _ (s2 _ _ ht2),gc.known,gcd.known,fun H3 s3=>⟨_,rfl,?_⟩⟩
   have e:Z3s rows ds xs x=Zbt rows xs dd:=by
    obtain ⟨x1,x2⟩:=x
    have e1:x1=.int (i:Nat):=e1
    rw [e1]
    show Zbt rows xs (ds.getD ((i:Nat):Int).toNat [])=_
    rw [Int.toNat_natCast,List.getD_eq_getElem?_getD,hdd]
    rfl
   rw [← e]
   exact hR H3 s3
  ·intro x H' R s' hx _ hR
   exact ⟨_,rfl,hR H' (Zal.refl _)⟩
  ·intro D H' hD0 s' hl'
   have s02:=s1.trans (s2.trans s')
   refine q D H' ?_ s02 ?_
   ·cases e:H D with
    | none=>rfl
    | some u=>have:=s2 _ _ (s1 _ _ e);rw [this] at hD0;cases hD0
   ·rw [hl',Zvq hul fun i d v hd hv=>?_]
    show Zbt rows xs (ds.getD ((i:Nat):Int).toNat [])=_
    rw [Int.toNat_natCast,List.getD_eq_getElem?_getD,hd]
    rfl
end
end K46
namespace K46
open PySem L2 Md
theorem Zov {H:Hp}{p a:Addr}{o:HO}{ws:List Str}(h:H p=some o) (ho:Zm1 o) (ha:H a=some (.lst (ws.map V.str))):p≠a:=Zxu h ha (by
 obtain ⟨r,b,e,_⟩:=ho
 rw [e]
 intro z
 injection z with z
 have z2:=congrArg (fun l=>l[0]?) z
 cases ws with
 | nil=>simp at z2
 | cons x r=>simp at z2)
theorem Drawn.tup {p:Addr}{H H':Hp}(d:Drawn p H H') {o:HO}(h:H p=some o) (ho:Zm1 o) {t:Addr}{xs:List V}(e:H t=some (.tup xs)):H' t=some (.tup xs):=
 d.keep _ _ (fun z=>by rw [z,h] at e;obtain ⟨_,_,q,_⟩:=ho;rw [q] at e;cases e) e
theorem Zeo {H H':Hp}{l:Addr}{rows:List (Str×List Str)}(h:Ze0 H l rows) (s:Zal H H'):Ze0 H' l rows:=by
 obtain ⟨vs,a,p⟩:=h
 exact ⟨vs,s _ _ a,Paired.mapP p fun r v ⟨t,u,e,h1,h2⟩=>⟨t,u,e,s _ _ h1,s _ _ h2⟩⟩
theorem Zhe {K:PySem.W.Frag}{l:Addr}{H2:Hp}{rows:List (Str×List Str)}{σ:St}{te:TE}{Q:VK}(hR:Ze0 H2 l rows) (few:rows.length≤100)
  (he:∀ (t u:Addr) (x:Str) H' (R:VK),H' t=some (.tup [.str x,.ref u])→R (.str x) H'→te [some (.ref t)] H' R)
  (hd:∀ D H3,H2 D=none→Zal H2 H3→H3 D=some (.lst ((rows.map (·.1)).map V.str))→Q (.ref D) H3):compBody 1 [] (Zet 0) Zpq te σ Q (Itl K l) H2:=by
 obtain ⟨vs,hvs,hpr⟩:=hR
 refine Zdf (Zav (xs:=vs)) (sL (by rw [← hpr.length];omega)) (fun _=>true) (fun _ x v _=>∀ r,Z02 H2 r x→v=.str r.1) (fun _ _ _ _ _ _ h=>h) (fun H' s=>s.seq (SqL.of hvs)) ?_ ?_ ?_
 ·intro x H3 R _ _ hR'
  exact hR' H3 (Zal.refl _)
 ·intro D x H3 R s3 _ _ hx _ hR'
  obtain ⟨i,hi⟩:=List.mem_iff_getElem?.mp hx
  obtain ⟨r,hr',t,u,rfl,ht,hu'⟩:=Zam hpr hi
  refine he t u r.1 H3 R (s3 _ _ ht) (hR' _ _ (Zal.refl _) fun r' h'=>?_)
  obtain ⟨t',u',e1,e2,_⟩:=h'
  cases e1
  rw [ht] at e2
  have e2:=Option.some.inj e2
  injection e2 with e2
  injection e2 with e2 _
 ·intro D H3 ys hD s23 hlD hpD
  rw [Zh9] at hpD
  have eys:ys=(rows.map (·.1)).map V.str:=by
   have:∀ {rows:List (Str×List Str)} {vs ys:List V},Paired (Z02 H2) rows vs→Paired (fun x v=>∀ r,Z02 H2 r x→v=.str r.1) vs ys→ys=(rows.map (·.1)).map V.str:=by
    intro rows vs ys a
    induction a generalizing ys with
    | nil=>intro b;cases b;rfl
    | cons h t ih =>
     intro b
     cases b with
     | cons h' t'=>rw [List.map_cons,List.map_cons,h' _ h,ih t']
   exact this hpr hpD
  subst eys
  exact hd D H3 hD s23 hlD
theorem Zj2 {ws:List Str}{v:Int} (h0:0≤v) (h1:v<(ws.map V.str).length):∃ x∈ws,atI (ws.map V.str) v=some (.str x):=by
 have hl:v.toNat<ws.length:=by rw [List.length_map] at h1;omega
 refine ⟨ws[v.toNat],List.getElem_mem hl,?_⟩
 have e:((v.toNat:Nat):Int)=v:=by omega
 have q:atI (ws.map V.str) ((v.toNat:Nat):Int)=some (.str ws[v.toNat]):=by
  refine Zc0 ?_
  rw [List.getElem?_map,List.getElem?_eq_getElem (by omega)]
  rfl
 rw [e] at q
 exact q
end K46
namespace K46
open PySem L2 Md
abbrev Dt:=PySem.W.Dat
def Zqn (d:List Str):Dt:=.tuple (d.map PySem.W.Dat.str)
theorem Zvw {d e:List Str}(h:Zqn d=Zqn e):d=e:=by
 unfold Zqn at h
 injection h with h
 exact List.map_inj_right (fun a b z=>by injection z) |>.mp h
theorem Zos {K:PySem.W.Frag}{H:Hp}{t:Addr}{d:List Str}(h:H t=some (.tup (d.map V.str))):Rep K H (.ref t) (Zqn d):=.tuple (SqT.of h) (Zfs d)
theorem Zjo {K:PySem.W.Frag}{H:Hp}:∀ {ds:List (List Str)}{vs:List V},Zay H ds vs→Reps K H vs (ds.map Zqn)
 | _,_,.nil=>.nil
 | _,_,.cons ⟨t,e,h⟩ r=>by rw [e];exact .cons (Zos h) (Zjo r)
theorem Ze6 {rows:List (Str×List Str)}(g:Zek rows):∀ x∈rows.map (·.1),Zb7 x=true:=fun x hx=>by
 obtain ⟨r,hr,e⟩:=List.mem_map.mp hx
 rw [← e]
 exact g.word r hr
theorem Zuk {rows:List (Str×List Str)}(g:Zek rows) {x y:Str}(hx:x∈rows.map (·.1)) (h:Graph.Reach (Zcw rows) x y):y∈rows.map (·.1):=
 Graph.closed_reach (S:=fun y=>y∈rows.map (·.1)) (fun z hz u hu=>Zif g hz hu) h hx
theorem Zz0 (n:Nat) {x:Str}(h:Zb7 x=true):PySem.W.kqdOk n (.str x)=true:=by
 have q:=Zss (ws:=[x]) (fun y hy=>by rw [List.mem_singleton.mp hy];exact h)
 rw [PySem.W.kqdOk] at q
 have q2:PySem.W.kqdOk 8 (.str x)=true:=by simpa using q
 rw [PySem.W.kqdOk] at q2
 rw [PySem.W.kqdOk]
 exact q2
theorem Zst (n:Nat) {d:List Str}(h:∀ x∈d,Zb7 x=true):PySem.W.kqdOk (n + 1) (Zqn d)=true:=by
 unfold Zqn
 rw [PySem.W.kqdOk,List.all_eq_true]
 intro z hz
 obtain ⟨x,hx,rfl⟩:=List.mem_map.mp hz
 exact Zz0 n (h x hx)
theorem Zu4 (n:Nat) {ds:List (List Str)}(h:∀ d∈ds,∀ x∈d,Zb7 x=true):(ds.map Zqn).all (PySem.W.kqdOk (n + 1))=true:=by
 rw [List.all_eq_true]
 intro z hz
 obtain ⟨d,hd,rfl⟩:=List.mem_map.mp hz
 exact Zst n (h d hd)
theorem Zvz (ds:List (List Str)) (d:List Str):((ds.map Zqn).any fun e=>dEq e (Zqn d))=decide (d∈ds):=by
 by_cases h:d∈ds
 ·rw [decide_eq_true h,List.any_eq_true]
  exact ⟨Zqn d,List.mem_map.mpr ⟨d,h,rfl⟩,Zdv _⟩
 ·rw [decide_eq_false h,List.any_eq_false]
  intro z hz
  obtain ⟨e,he,rfl⟩:=List.mem_map.mp hz
  rw [Zfi fun q=>h (by rw [← Zvw q];exact he)]
  exact Bool.false_ne_true
def Zrl:Sp:=fun vs H Q _=>∃ (p l aa:Addr) (n m:Nat) (rows:List (Str×List Str)) (avs:List (Key×V)),vs=[.ref p,.ref l,.ref aa,.int n,.int m]∧(∃ o,H p=some o∧Zm1 o)∧Ze0 H l rows∧Zek rows∧H aa=some (.dK avs)∧Zdd H rows rows avs∧1≤n∧n≤4∧m≤63 ∧
 ∀ (ld:Addr) (ds:List (List Str)) (us:List V) (H':Hp),Drawn p H H'→H ld=none→H' ld=some (.lst us)→Zay H' ds us→Zbk rows n ds→ds.length≤m→Q (.ref ld) H'
abbrev Z1r (K:PySem.W.Frag):List V→Hp→VK→Prop:=fun xs H Q=>∃ p ys,xs=[.ref p]∧(SqL K H p ys∨SqT K H p ys)∧Q (.int ys.length) H
structure Z5h (mg:Str→Option Value):Prop where
 len:mg "len"=none
 range:mg "range"=none
 tuple:mg "tuple"=none
section
variable {P:Program} {w:World} {K:PySem.W.Frag} {mg:Str→Option Value} {base:Heap}
abbrev nDe:List Str:=["pot","rows","above","places","most","words","base","deeds","k","deed","near","place","some"]
theorem Z3g:Zap nDe ["pot","rows","above","places","most"] (Zab Zb2):=⟨rfl,rfl,rfl,by decide +kernel,rfl,by decide +kernel,by decide +kernel⟩
theorem Znk:(["row"]:List Str).Nodup:=by decide +kernel
theorem Z0c:(["k","words","pot"]:List Str).Nodup:=by decide +kernel
theorem Zay.drawn {p:Addr}{H H':Hp}{o:HO}{ds:List (List Str)}{us:List V}(h:Zay H ds us) (k:∀ b xs,H b=some (.tup xs)→H' b=some (.tup xs)):Zay H' ds us:=Paired.mapP h fun _ _ ⟨t,e,x⟩=>⟨t,e,k _ _ x⟩
set_option maxHeartbeats 8000000 in
theorem Zsr {f fT:Addr}{fd fdT:FuncData}(F:Def K mg "_law_deeds" Zb2 ["pot","rows","above","places","most"] f fd) (DT:Def K mg "_law_take" Za8 ["pot","many"] fT fdT) (T:Z5h mg):
  Za3 P w K mg base CX0 2 f fd ["pot","rows","above","places","most"] Zrl:=by
 have GT:Za3 P w K mg base CX0 1 fT fdT ["pot","many"] Zgg:=Ziq DT
 refine F.fn.ok Z3g (fun vs H Q E h=>?_) (fun cdv A outer s H vs Q E hr h=>?_)
 ·obtain ⟨p,l,aa,n,m,rows,avs,rfl,_⟩:=h
  rfl
 ·obtain ⟨p,l,aa,n,m,rows,avs,rfl,⟨o0,hp0,ho0⟩,hR,g,haa,hA,n1,n4,hm,q⟩:=h
  have nd:=Z3g.nd
  have hu:=Zfw hr
  have hr1:Zec 1 _:=hr.mono (by decide)
  have gle:=g.le
  refine' ⟨_,pS (Zag (i:=5) nd rfl (Or.inr rfl) ?e1)
   (pS ?e2
   (pS (Zag (i:=7) nd rfl (Or.inl rfl) (Zb9 Zaa))
   (pS (Zbw PassesOwn.never rfl (Zb5 (by rfl) T.range (pC (Zaf DT GT hr1 (pC (pv 0) (pC (Zba Zdr (pv 4) Zae) Zaa))) Zaa)) (Zah (i:=8) nd rfl (Or.inl rfl))
    (pS (Zag (i:=9) nd rfl (Or.inl rfl) (Zb9 Zaa))
    (pS (Zag (i:=10) nd rfl (Or.inl rfl) (Zaf DT GT hr1 (pC (pv 0) (pC Zae Zaa))))
    (pS (Zbw PassesOwn.never rfl (Zb5 (by rfl) T.range (pC (pv 3) Zaa)) (Zah (i:=11) nd rfl (Or.inl rfl))
     (pS (Zag (i:=12) nd rfl (Or.inl rfl) (pv 5))
     (Zep (Zbe (Zaq Zp0 (pv 10) Zae (Zaz _)) (Zad (Zag (i:=12) nd rfl (Or.inl rfl) (Zer hu (pv 2) (Za5 Zar (pv 6) (pv 11) (fun _ _=>rfl)) (fun _ _=>rfl)))) Zas)
     (Zad (Za9 (Zej PySem.F.plainAttrs_list PySem.F.slot_list_append PySem.F.type_list_append Zb6 (pv 9) (pC (Za5 Zar (pv 12) (Zaf DT GT hr1 (pC (pv 0) (pC (Zan Zak (by rfl) T.len PySem.boot_len (pC (pv 12) Zaa)) Zaa))) (fun _ _=>rfl)) Zaa)))))))
    (Zad (Zbe (Zaq (Zlz (Z0p hr)) (Zc2 Zdx (by rfl) T.tuple PyProof.Rows.boot_tuple (pC (pv 9) Zaa)) (pv 7) (by with_unfolding_all rfl))
     (Zad (Za9 (Zej PySem.F.plainAttrs_list PySem.F.slot_list_append PySem.F.type_list_append Zb6 (pv 7) (pC (Zc2 Zdx (by rfl) T.tuple PyProof.Rows.boot_tuple (pC (pv 9) Zaa)) Zaa)))) Zas))))))
   (Zad (Zat (pv 7)))))),?_⟩
  case e1=>exact (Zbr ["row"] [] [] (fun _=>Za0 (osc:=Zab Zb2) (on:=nDe) (by decide +kernel) rfl rfl rfl) (Zbd (pv 1)) (fun C s H fp=>Zah (i:=0) Znk rfl (Or.inl rfl) (Or.inr rfl)) (fun C s H fp=>Zbn) (fun C s H fp=>Za5 (r:=Zlr K) Zd0 (pv 0) Zae (fun _ _=>rfl)))
  case e2=>exact (Zel (k:=6) ["k"] ["words","pot"] [5,0] nd rfl rfl (fun _=>Za0 (osc:=Zab Zb2) (on:=nDe) (by decide +kernel) rfl rfl rfl) (Zb5 (by rfl) T.range (pC (pv 3) Zaa)) (fun C s H fp=>Zah (i:=0) Z0c rfl (Or.inl rfl) (Or.inr rfl)) (fun C s H fp=>Zbn)
    (fun C s H fp=>Za5 (r:=Zfd K) Zar (pv 1) (Zaf DT GT hr1 (pC (pv 2) (pC (Zan (r:=Z1r K) Zak (by rfl) T.len PySem.boot_len (pC (pv 1) Zaa)) Zaa))) (fun _ _=>rfl)))
  obtain ⟨vs0,hvs0,hpr0⟩:=id hR
  refine ⟨_,rfl,l,rfl,⟨_,SqL.of hvs0⟩,Zhe hR (by omega) (fun t u x H' R ht hRx=>⟨_,rfl,t,_,_,_,rfl,rfl,SqT.of ht,rfl,hRx⟩) fun lw H1 hlw s1 hw=>?_⟩
  have hp1:=s1 _ _ hp0
  have lwp:lw≠p:=Ne.symm (Zov hp1 ho0 hw)
  have lwH:H lw=none:=hlw
  have wne:rows.map (·.1)≠[]:=by
   have:=g.ne
   intro z
   have z2:=congrArg List.length z
   rw [List.length_map] at z2
   simp at z2
   rw [z2] at this
   simp at this
  have wpos:0<(rows.map (·.1)).length:=List.length_pos_iff.mpr wne
  have wl:(rows.map (·.1)).length≤24:=by rw [List.length_map];exact gle
  refine ⟨_,rfl,n,rfl,by omega,by omega,Zha Zbm (by rw [Zau];exact sL (by omega)) (fun D i ys σ' H'=>Drawn p H1 H'∧H' D=some (.lst ys)∧∃ (bs:List Str) (o:Option V),ys=bs.map V.str∧bs.length=i∧(∀ x∈bs,x∈rows.map (·.1))∧σ'=[o,some (.ref lw),some (.ref p)])
   (fun D hD=>⟨(Drawn.refl ⟨o0,hp1,ho0⟩).new hD,uS,[],none,rfl,rfl,(fun x h=>nomatch h),rfl⟩) (fun D i ys σ' H' _ ⟨_,_,bs,_,e,el,_⟩=>⟨trivial,by rw [e,List.length_map];omega⟩) ?_ ?_⟩
  ·rintro D i v ys σ' H' hD hi ⟨d,hl,bs,o,rfl,rfl,hb,rfl⟩
   obtain ⟨hi,rfl⟩:=Za4 hi
   obtain ⟨o1,hpp,hoo⟩:=d.pot
   have hw1:=d.keep _ _ lwp hw
   have pD:p≠D:=nNo hp1 hD
   refine ⟨_,rfl,_,rfl,_,rfl,lw,_,rfl,.inl (SqL.of hw1),p,_,o1,rfl,hpp,hoo,by rw [List.length_map];omega,by rw [List.length_map];omega,fun v o2 hv0 hv1 ho2=>?_⟩
   obtain ⟨x,hxm,hat⟩:=Zj2 hv0 hv1
   have d2:Drawn p H' (upd H' p o2):=Drawn.upd ho2
   refine ⟨lw,_,_,_,rfl,rfl,SqL.of (d2.keep _ _ lwp hw1),hat,d2.keep _ _ (Ne.symm pD) hl,(d.trans d2).sub (o':=.lst []) (q:=D) (fun b o hb e=>by rw [Zac hb];exact e) hD pD,uS,bs++[x],_,by rw [List.map_append];rfl,by simp,fun y hy=>?_,rfl⟩
   rcases List.mem_append.mp hy with z | z
   ·exact hb y z
   ·rw [List.mem_singleton.mp z];exact hxm
  rintro lb ys σ' H2 hlb ⟨d2,hlb2,bs,o,rfl,hbl,hb,rfl⟩
  rw [Zau] at hbl
  have hbl:bs.length=n:=by simpa using hbl
  have dH2:Drawn p H H2:=⟨fun b o hb e=>d2.keep b o hb (s1 _ _ e),d2.pot⟩
  have hw2:=d2.keep _ _ lwp hw
  have lbH:H lb=none:=s1.free hlb
  have pb:p≠lb:=nNo hp0 lbH
  have wb:lw≠lb:=nNo hw hlb
  refine ⟨Nat.zero_le _,fun ld hld=>?_⟩
  have d3:=dH2.new (o:=.lst []) hld
  have keep3:∀ b o,H2 b=some o→(upd H2 ld (.lst [])) b=some o:=Zcq hld
  have ldH:H ld=none:=by
   cases e:H ld with
   | none=>rfl
   | some u =>
    by_cases z:ld=p
    ·obtain ⟨o1,h1,_⟩:=d2.pot
     rw [z,h1] at hld
     cases hld
    ·rw [dH2.keep _ _ z e] at hld
     cases hld
  have pd:p≠ld:=nNo hp0 ldH
  have wd:lw≠ld:=nNo hw2 hld
  have bd:lb≠ld:=nNo hlb2 hld
  obtain ⟨o3,hp3,ho3⟩:=d3.pot
  refine ⟨_,rfl,_,rfl,_,_,rfl,rfl,p,_,o3,rfl,hp3,ho3,by omega,by omega,fun v o4 hv0 hv1 ho4=>⟨v,rfl,by omega,by omega,?_⟩⟩
  have d4:Drawn p H (upd (upd H2 ld (.lst [])) p o4):=d3.trans (Drawn.upd ho4)
  refine Za6 Zbm (fun i σ H'=>∃ (ds:List (List Str)) (us:List V) (a b c d e:Option V),σ=[some (.ref p),some (.ref l),some (.ref aa),some (.int n),some (.int m),some (.ref lw),some (.ref lb),some (.ref ld),a,b,c,d,e]∧Drawn p H H'∧H' lw=some (.lst ((rows.map (·.1)).map V.str))∧H' lb=some (.lst (bs.map V.str))∧H' ld=some (.lst us)∧Zay H' ds us ∧
   (∀ d∈ds,Zbj rows n d)∧ds.Nodup∧ds.length≤i)
   ⟨[],[],none,none,none,none,none,rfl,d4,by rw [Zac lwp];exact keep3 _ _ hw2,by rw [Zac (Ne.symm pb)];exact keep3 _ _ hlb2,by rw [Zac (Ne.symm pd)];exact uS,.nil,(fun d h=>nomatch h),List.nodup_nil,Nat.le_refl _⟩ (fun _ _ _ _ _=>trivial) ?_ ?_
  ·rintro i v' σ H5 hi ⟨ds,us,a5,b5,c5,e5,f5,rfl,d5,hw5,hb5,hd5,hD5,gc5,nd5,len5⟩
   obtain ⟨hi,rfl⟩:=Za4 hi
   obtain ⟨o5,hp5,ho5⟩:=d5.pot
   refine ⟨Nat.zero_le _,fun lq hlq=>?_⟩
   have d6:=(Drawn.refl (p:=p) ⟨o5,hp5,ho5⟩).new (o:=.lst []) hlq
   obtain ⟨o6,hp6,ho6⟩:=d6.pot
   refine ⟨_,rfl,p,3,o6,rfl,hp6,ho6,by decide,by decide,fun nr o7 hn0 hn1 ho7=>?_⟩
   have pq:p≠lq:=nNo hp5 hlq
   have d7:Drawn p H5 (upd (upd H5 lq (.lst [])) p o7):=d6.trans (Drawn.upd ho7)
   refine ⟨_,rfl,n,rfl,by omega,by omega,Za6 Zbm (fun j σ H'=>∃ (xs:List Str) (d e:Option V),σ=[some (.ref p),some (.ref l),some (.ref aa),some (.int n),some (.int m),some (.ref lw),some (.ref lb),some (.ref ld),some (.int (0 + (i:Nat))),some (.ref lq),some (.int nr),d,e]∧Drawn p H5 H'∧H' lq=some (.lst (xs.map V.str))∧xs.length=j∧∀ x∈xs,x∈rows.map (·.1))
    ⟨[],_,_,rfl,d7,by rw [Zac (Ne.symm pq)];exact uS,rfl,(fun x h=>nomatch h)⟩ (fun _ _ _ _ _=>trivial) ?_ ?_⟩
   ·rintro j v2 σ H8 hj ⟨xs,d8,e8,rfl,dr8,hq8,rfl,hx8⟩
    obtain ⟨hj,rfl⟩:=Za4 hj
    have hj:xs.length<n:=by omega
    obtain ⟨o8,hp8,ho8⟩:=dr8.pot
    have dr08:=d5.trans dr8
    have hw8:=dr8.keep _ _ lwp hw5
    have hb8:=dr8.keep _ _ (Ne.symm pb) hb5
    refine ⟨_,rfl,?_⟩
    refine ⟨fun σ' H'=>∃ (as:Addr) (fs:List Str),σ'=[some (.ref p),some (.ref l),some (.ref aa),some (.int n),some (.int m),some (.ref lw),some (.ref lb),some (.ref ld),some (.int (0 + (i:Nat))),some (.ref lq),some (.int nr),some (.int (0 + (xs.length:Nat))),some (.ref as)]∧H'=H8∧H8 as=some (.lst (fs.map V.str))∧fs≠[]∧fs.length≤24∧∀ x∈fs,x∈rows.map (·.1),?_,?_⟩
    ·refine ⟨_,rfl,_,_,rfl,rfl,_,rfl,Zdu (fun h=>?_) (fun h=>?_)⟩
     ·have hbx:bs[xs.length]?=some (bs[xs.length]'(by omega)):=List.getElem?_eq_getElem (by omega)
      generalize bs[xs.length]'(by omega)=x at hbx
      have hxm:=hb x (List.mem_of_getElem? hbx)
      obtain ⟨r,hr',er⟩:=Zew hxm
      obtain ⟨t,fs,hv,ht,hfs,fl⟩:=hA.val' g.nd hr'
      have xfs:x∈fs:=(hfs x).mpr (by rw [er];exact .refl x)
      have tp:t≠p:=Ne.symm (Zov hp0 ho0 ht)
      have aap:aa≠p:=fun z=>by rw [z,hp0] at haa;obtain ⟨_,_,q',_⟩:=ho0;rw [q'] at haa;cases haa
      have hat:atI (bs.map V.str) (0 + (xs.length:Nat):Int)=some (.str x):=by
       rw [Int.zero_add]
       refine Zc0 ?_
       rw [List.getElem?_map,hbx]
       rfl
      have kn:∀ y∈fs,y∈rows.map (·.1):=fun y hy=>Zuk g hxm (by rw [← er];exact (hfs y).mp hy)
      exact ⟨_,rfl,_,rfl,_,rfl,lb,_,_,_,rfl,rfl,SqL.of hb8,hat,aa,_,rfl,(by rw [← hv,er];exact Zgf.k (k:=Sum.inr x) (dr08.keep _ _ aap haa)),t,fs,rfl,rfl,dr08.keep _ _ tp ht,(fun z=>by rw [z] at xfs;cases xfs),by omega,kn⟩
     ·exact ⟨lw,_,rfl,rfl,hw8,wne,wl,fun x h=>h⟩
    ·rintro σ' H' ⟨as,fs,rfl,e8',has,fne,fl,fk⟩
     have e9:=e8'.symm
     subst e9
     have fpos:0<fs.length:=List.length_pos_iff.mpr fne
     have ap:as≠p:=Ne.symm (Zov hp8 ho8 has)
     refine ⟨_,rfl,.inl ⟨rfl,_,SqL.of hq8⟩,_,rfl,_,rfl,_,rfl,as,_,rfl,.inl (SqL.of has),p,_,o8,rfl,hp8,ho8,by rw [List.length_map];omega,by rw [List.length_map];omega,fun v o9 hv0 hv1 ho9=>?_⟩
     obtain ⟨x,hxm,hat⟩:=Zj2 hv0 hv1
     have d9:Drawn p H8 (upd H8 p o9):=Drawn.upd ho9
     have hq9:=d9.keep _ _ (Ne.symm pq) hq8
     refine ⟨as,_,_,_,rfl,rfl,SqL.of (d9.keep _ _ ap has),hat,lq,_,_,rfl,rfl,hq9,Za2 (by rw [List.length_map];omega),xs++[x],_,_,rfl,(dr8.trans d9).sub (o':=.lst []) (q:=lq) (fun b o hb e=>by rw [Zac hb];exact e) hlq pq,by rw [uS,List.map_append];rfl,by simp,fun y hy=>?_⟩
     rcases List.mem_append.mp hy with z | z
     ·exact hx8 y z
     ·rw [List.mem_singleton.mp z];exact fk x hxm
   ·rintro σ H8 ⟨xs,d8,e8,rfl,dr8,hq8,hxl,hx8⟩
    rw [Zau] at hxl
    have hxl:xs.length=n:=by simpa using hxl
    have ldp:ld≠p:=Ne.symm pd
    have hd8:=dr8.keep _ _ ldp hd5
    have hD8:Zay H8 ds us:=hD5.drawn (p:=p) (o:=.lst []) fun b zs e=>Drawn.tup dr8 hp5 ho5 e
    have okx:∀ y∈xs,Zb7 y=true:=fun y hy=>Ze6 g y (hx8 y hy)
    have okd:∀ d∈ds,∀ y∈d,Zb7 y=true:=fun d hd y hy=>Ze6 g y ((gc5 d hd).known y hy)
    have dr08:=d5.trans dr8
    have ldq:ld≠lq:=nNo hd5 hlq
    have lwq:lw≠lq:=nNo hw5 hlq
    have lbq:lb≠lq:=nNo hb5 hlq
    have hi':i<m + 1:=by omega
    refine ⟨_,rfl,lq,_,rfl,.inl ⟨SqL.of hq8,fun t ht=>?_⟩⟩
    have s9:Zal H8 (upd H8 t (.tup (xs.map V.str))):=Zcq ht
    refine ⟨_,rfl,Zqn xs,ds.map Zqn,Zos uS,.list (SqL.of (s9 _ _ hd8)) (Zjo (hD8.mono s9)),Zst 8 okx,Zu4 7 okd,_,rfl,?_⟩
    rw [Zvz]
    refine Zdu (fun h=>?_) (fun h=>?_)
    ·have hn:xs∉ds:=by simpa using h
     refine ⟨_,rfl,.inl ⟨rfl,_,SqL.of (s9 _ _ hd8)⟩,_,rfl,lq,_,rfl,.inl ⟨SqL.of (s9 _ _ hq8),fun t2 ht2=>?_⟩⟩
     have s10:=s9.trans (Zcq (o:=.tup (xs.map V.str)) ht2)
     have hd10:=s10 _ _ hd8
     have hul:=hD8.length
     refine ⟨ld,_,_,rfl,rfl,hd10,Za2 (by omega),ds++[xs],us++[.ref t2],_,_,_,_,_,rfl,?_,?_,?_,uS,?_,?_,?_,?_⟩
     ·exact (dr08.same s10).sub (o':=.lst []) (q:=ld) (fun b o hb e=>by rw [Zac hb];exact e) ldH pd
     ·rw [Zac wd];exact s10 _ _ (dr8.keep _ _ lwp hw5)
     ·rw [Zac bd];exact s10 _ _ (dr8.keep _ _ (Ne.symm pb) hb5)
     ·have tk:∀ b zs,(upd (upd H8 t (.tup (xs.map V.str))) t2 (.tup (xs.map V.str))) b=some (.tup zs)→(upd (upd (upd H8 t (.tup (xs.map V.str))) t2 (.tup (xs.map V.str))) ld (.lst (us++[V.ref t2]))) b=some (.tup zs):=fun b zs e=>by
       rw [Zac (fun z=>by rw [z,hd10] at e;cases e)];exact e
      exact Paired.snoc ((hD8.mono s10).drawn (p:=p) (o:=.lst []) tk) ⟨t2,rfl,tk _ _ uS⟩
     ·intro d hd
      rcases List.mem_append.mp hd with z | z
      ·exact gc5 d z
      ·rw [List.mem_singleton.mp z];exact ⟨hxl,hx8⟩
     ·rw [List.nodup_append]
      exact ⟨nd5,by simp,fun a ha b hb e=>hn (by rw [← List.mem_singleton.mp hb,← e];exact ha)⟩
     ·rw [List.length_append]
      show ds.length + 1≤i + 1
      omega
    ·exact ⟨ds,us,_,_,_,_,_,rfl,dr08.same s9,s9 _ _ (dr8.keep _ _ lwp hw5),s9 _ _ (dr8.keep _ _ (Ne.symm pb) hb5),s9 _ _ hd8,hD8.mono s9,gc5,nd5,by omega⟩
  ·rintro σ H6 ⟨ds,us,a5,b5,c5,e5,f5,rfl,d6,hw6,hb6,hd6,hD6,gc6,nd6,len6⟩
   rw [Zau] at len6
   exact ⟨_,rfl,q ld ds us H6 d6 ldH hd6 hD6 ⟨gc6,nd6,by omega⟩ (by omega)⟩
end
end K46
namespace K46
open PySem L2 Md
theorem Zy0 {H H':Hp}{rows:List (Str×List Str)}{avs:List (Key×V)}(g:Zek rows) (hA:Zdd H rows rows avs) (s:Zal H H') {x:Str}(hx:x∈rows.map (·.1)):∃ (t:Addr) (fs:List Str),Zf2 avs (Sum.inr x)=some (.ref t)∧H' t=some (.lst (fs.map V.str))∧∀ y,inV (V.str y) (fs.map V.str)=Zex rows x y:=by
 obtain ⟨r,hr',er⟩:=Zew hx
 obtain ⟨t,fs,hv,ht,hfs⟩:=hA.val g.nd hr'
 refine ⟨t,fs,by rw [← er];exact hv,s _ _ ht,fun y=>?_⟩
 rw [Zi4]
 exact Zs2 (by rw [er] at hfs;exact hfs) y
def Zlj:Sp:=fun vs H Q _=>∃ (aa a b:Addr) (rows:List (Str×List Str)) (avs:List (Key×V)) (xs ys:List Str),vs=[.ref aa,.ref a,.ref b]∧Zek rows∧H aa=some (.dK avs)∧Zdd H rows rows avs∧H a=some (.tup (xs.map V.str))∧H b=some (.tup (ys.map V.str))∧(∀ x∈xs,x∈rows.map (·.1))∧xs.length≤1000 ∧
 ∀ H',Zal H H'→Q (.bl (Zbt rows xs ys)) H'
noncomputable def Zwf (rows:List (Str×List Str)):V×V→V
 | (.str x,.str y)=>.bl (Zex rows x y)
 | _=>.non
theorem Zpu (rows:List (Str×List Str)) (xs ys:List Str):(((xs.map V.str).zip (ys.map V.str)).filter fun _=>true).map (Zwf rows)=((xs.zip ys).map fun p=>Zex rows p.1 p.2).map V.bl:=by
 rw [Zh9,Zj6,List.map_map,List.map_map]
 rfl
theorem Zz6:(["under","word","above"]:List Str).Nodup:=by decide +kernel
structure Z5d (mg:Str→Option Value):Prop where
 all:mg "all"=none
 zip:mg "zip"=none
section
variable {P:Program} {w:World} {K:PySem.W.Frag} {mg:Str→Option Value} {base:Heap}
abbrev nLW:List Str:=["above","one","other"]
theorem Z4f:Zap nLW nLW (Zab Zby):=⟨rfl,rfl,rfl,by decide +kernel,rfl,by decide +kernel,by decide +kernel⟩
theorem Zp3 {f:Addr}{fd:FuncData}(F:Def K mg "_law_within" Zby nLW f fd) (T:Z5d mg):Za3 P w K mg base CX0 1 f fd nLW Zlj:=by
 refine F.fn.ok Z4f (fun vs H Q E h=>?_) (fun cdv A outer s H vs Q E hr h=>?_)
 ·obtain ⟨aa,a,b,rows,avs,xs,ys,rfl,_⟩:=h
  rfl
 ·obtain ⟨aa,a,b,rows,avs,xs,ys,rfl,g,haa,hA,ha,hb,hx,hl,q⟩:=h
  have hu:=Zfw hr
  refine' ⟨_,Zad (Zat (Zan (Zh8 rfl) (by rfl) T.all PyProof.Rows.boot_all (pC ?ea Zaa))),?_⟩
  case ea=>exact (Zbr ["under","word"] ["above"] [0] (fun _=>Za0 (osc:=Zab Zby) (on:=nLW) (by decide +kernel) rfl rfl rfl) (Zwg (by rfl) T.zip (pC (pv 1) (pC (pv 2) Zaa)))
    (fun C s H fp=>Zsb (K:=K) (i:=0) (j:=1) rfl rfl Zz6 rfl rfl (Or.inl rfl) (Or.inl rfl) (Or.inr rfl) (Or.inr rfl)) (fun C s H fp=>Zbn)
    (fun C s H fp=>Zft (r:=rIn K false) Zip (pv 1) (Zer hu (pv 2) (pv 0) (fun _ _=>rfl)) (by with_unfolding_all rfl)))
  refine ⟨_,rfl,_,rfl,a,b,_,_,rfl,SqT.of ha,SqT.of hb,Zmp (sL (by rw [List.length_zip,List.length_map];omega)) (fun _=>true) (Zwf rows) (fun H' s'=>⟨SqT.of (s' _ _ ha),SqT.of (s' _ _ hb)⟩) ?_ ?_ ?_⟩
  ·intro x H' R s' _ hR
   exact hR H' (Zal.refl _)
  ·intro x H' R s' hxm _ hR
   rw [Zj6] at hxm
   obtain ⟨z,hz,rfl⟩:=List.mem_map.mp hxm
   obtain ⟨t,fs,hv,ht,hin⟩:=Zy0 g hA s' (hx _ (List.of_mem_zip hz).1)
   refine ⟨_,rfl,_,rfl,_,rfl,aa,_,rfl,(by rw [← hv];exact Zgf.k (k:=Sum.inr z.1) (s' _ _ haa)),t,_,rfl,.inl (SqL.of ht),rfl,Zg8 fs,?_⟩
   have e1:(if false=true then !inV (Zzb z).2 (fs.map V.str) else inV (Zzb z).2 (fs.map V.str))=Zex rows z.1 z.2:=by rw [if_neg (by decide)];exact hin z.2
   rw [e1]
   exact hR H' (Zal.refl _)
  ·intro D H' hD s' hl'
   refine ⟨D,_,rfl,SqL.of (by rw [hl',Zpu]),?_⟩
   have q':=q H' s'
   unfold Zbt at q'
   show Q (.bl (((xs.zip ys).map fun p=>Zex rows p.1 p.2).all id)) _
   rw [List.all_map]
   exact q'
end
end K46
namespace K46
open PySem L2 Md
noncomputable def wB (rows:List (Str×List Str)) (ds:List (List Str)) (j k:Nat):Bool:=Zbt rows (ds.getD j []) (ds.getD k [])
def Zpr (W:Nat→Nat→Bool) (near:List Nat) (x:Nat):List Nat:=if near.any (fun k=>W k x)=true then near else near.filter (fun k=>!W x k)++[x]
def Z06 (W:Nat→Nat→Bool) (l:List Nat):List Nat:=l.filter fun k=>!(l.any fun j=>!decide (j=k)&&W j k)
structure Zf0 (W:Nat→Nat→Bool) (l near:List Nat):Prop where
 sub:near.Sublist l
 min:∀ k∈near,∀ j∈l,W j k=true→j=k
 dom:∀ j∈l,∃ k∈near,k=j∨W k j=true
theorem Zf0.nil (W:Nat→Nat→Bool):Zf0 W [] []:=⟨.slnil,(fun k h=>nomatch h),(fun k h=>nomatch h)⟩
theorem Zf0.step {W:Nat→Nat→Bool}{l near:List Nat}{x:Nat}{S:Nat→Prop}(tr:∀ a b c,S a→S b→S c→W a b=true→W b c=true→W a c=true) (an:∀ a b,S a→S b→W a b=true→W b a=true→a=b) (hl:∀ k∈l,S k) (hx:S x) (h:Zf0 W l near):Zf0 W (l++[x]) (Zpr W near x):=by
 have ns:∀ k∈near,S k:=fun k hk=>hl k (h.sub.subset hk)
 unfold Zpr
 by_cases c:near.any (fun k=>W k x)=true
 ·rw [if_pos c]
  obtain ⟨k0,hk0,w0⟩:=List.any_eq_true.mp c
  refine ⟨h.sub.trans (List.sublist_append_left _ _),fun k hk j hj w=>?_,fun j hj=>?_⟩
  ·rcases List.mem_append.mp hj with z | z
   ·exact h.min k hk j z w
   ·have e:j=x:=List.mem_singleton.mp z
    subst e
    have e1:=h.min k hk k0 (h.sub.subset hk0) (tr k0 j k (ns _ hk0) hx (ns _ hk) w0 w)
    rw [e1] at w0
    exact an j k hx (ns _ hk) w w0
  ·rcases List.mem_append.mp hj with z | z
   ·exact h.dom j z
   ·rw [List.mem_singleton.mp z]
    exact ⟨k0,hk0,.inr w0⟩
 ·rw [if_neg c]
  have nc:∀ k∈near,¬ W k x=true:=fun k hk w=>c (List.any_eq_true.mpr ⟨k,hk,w⟩)
  refine ⟨List.Sublist.append (List.filter_sublist.trans h.sub) (List.Sublist.refl _),fun k hk j hj w=>?_,fun j hj=>?_⟩
  ·rcases List.mem_append.mp hk with y | y
   ·obtain ⟨y1,y2⟩:=List.mem_filter.mp y
    rcases List.mem_append.mp hj with z | z
    ·exact h.min k y1 j z w
    ·rw [List.mem_singleton.mp z] at w
     rw [w] at y2
     cases y2
   ·have e:k=x:=List.mem_singleton.mp y
    subst e
    rcases List.mem_append.mp hj with z | z
    ·obtain ⟨k0,hk0,d⟩:=h.dom j z
     rcases d with d | d
     ·rw [d] at hk0
      exact absurd w (nc j hk0)
     ·exact absurd (tr k0 j k (ns _ hk0) (hl _ z) hx d w) (nc k0 hk0)
    ·exact List.mem_singleton.mp z
  ·rcases List.mem_append.mp hj with z | z
   ·obtain ⟨k0,hk0,d⟩:=h.dom j z
    by_cases wx:W x k0=true
    ·refine ⟨x,by simp,.inr ?_⟩
     rcases d with d | d
     ·rw [← d];exact wx
     ·exact tr x k0 j hx (ns _ hk0) (hl _ z) wx d
    ·exact ⟨k0,List.mem_append_left _ (List.mem_filter.mpr ⟨hk0,by simpa using wx⟩),d⟩
   ·rw [List.mem_singleton.mp z]
    exact ⟨x,by simp,.inl rfl⟩
theorem Zhg {α:Type} [DecidableEq α]:∀ {near l:List α},near.Sublist l→l.Nodup→near=l.filter fun k=>decide (k∈near)
 | _,_,.slnil,_=>rfl
 | _,_,.cons a h,nd=>by
  obtain ⟨n1,n2⟩:=List.nodup_cons.mp nd
  rw [List.filter_cons,if_neg (by simpa using fun m=>n1 (h.subset m))]
  exact Zhg h n2
 | _,_,.cons₂ (l₁:=n) (l₂:=l) a h,nd=>by
  obtain ⟨n1,n2⟩:=List.nodup_cons.mp nd
  rw [List.filter_cons,if_pos (by simp)]
  congr 1
  have e:(l.filter fun k=>decide (k∈a :: n))=l.filter fun k=>decide (k∈n):=List.filter_congr fun k hk=>by
   have:k≠a:=fun z=>n1 (by rw [← z];exact hk)
   simp [this]
  rw [e]
  exact Zhg h n2
theorem Zf0.is {W:Nat→Nat→Bool}{l near:List Nat}(nd:l.Nodup) (h:Zf0 W l near):near=Z06 W l:=by
 refine (Zhg h.sub nd).trans ?_
 unfold Z06
 refine List.filter_congr fun k hk=>?_
 rw [Bool.eq_iff_iff,decide_eq_true_iff,Bool.not_eq_true',List.any_eq_false]
 constructor
 ·intro hm j hj z
  rw [Bool.and_eq_true] at z
  have:=h.min k hm j hj z.2
  simp [this] at z
 ·intro hm
  obtain ⟨k0,hk0,d⟩:=h.dom k hk
  rcases d with d | d
  ·rw [← d];exact hk0
  ·by_cases e:k0=k
   ·rw [← e];exact hk0
   ·exact absurd (by rw [Bool.and_eq_true];exact ⟨by simp [e],d⟩) (hm k0 (h.sub.subset hk0))
theorem Zig {rows:List (Str×List Str)}{x y:Str}:Zex rows x y=true↔Graph.Reach (Zcw rows) x y:=by
 unfold Zex
 exact @decide_eq_true_iff _ (Classical.propDecidable _)
theorem Zxa {rows:List (Str×List Str)}(g:Zek rows):∃ rk:Str→Nat,∀ a b,b∈Zcw rows a→rk b<rk a:=by
 obtain ⟨rk,hrk⟩:=g.rank
 refine ⟨rk,fun a b hb=>?_⟩
 unfold Zcw at hb
 cases e:rows.lookup a with
 | none=>rw [e] at hb;simp at hb
 | some us =>
  rw [e] at hb
  have hm:(a,us)∈rows:=PySem.mem_of_lookup e
  exact hrk (a,us) hm b hb
theorem Zpt {rows:List (Str×List Str)}(g:Zek rows) {x y:Str} (h1:Graph.Reach (Zcw rows) x y) (h2:Graph.Reach (Zcw rows) y x):x=y:=by
 obtain ⟨rk,hrk⟩:=Zxa g
 refine Classical.byContradiction fun ne=>?_
 have a:=Graph.Reach.rank_lt hrk h1 ne
 have b:=Graph.Reach.rank hrk h2
 omega
theorem Zm9 {ups:Str→List Str}{x y z:Str} (h1:Graph.Reach ups x y) (h2:Graph.Reach ups y z):Graph.Reach ups x z:=h1.trans h2
theorem Zji {rows:List (Str×List Str)}{xs ys:List Str}:Zbt rows xs ys=true↔∀ (i:Nat) (x y:Str),xs[i]?=some x→ys[i]?=some y→Graph.Reach (Zcw rows) x y:=by
 unfold Zbt
 rw [List.all_eq_true]
 constructor
 ·intro h i x y hx hy
  have hz:(xs.zip ys)[i]?=some (x,y):=by rw [List.getElem?_zip_eq_some];exact ⟨hx,hy⟩
  exact Zig.mp (h _ (List.mem_of_getElem? hz))
 ·intro h p hp
  obtain ⟨i,hi⟩:=List.getElem?_of_mem hp
  rw [List.getElem?_zip_eq_some] at hi
  exact Zig.mpr (h i _ _ hi.1 hi.2)
theorem Zlb {rows:List (Str×List Str)}{n:Nat}{xs ys zs:List Str} (h1:xs.length=n) (h2:ys.length=n) (h3:zs.length=n) (a:Zbt rows xs ys=true) (b:Zbt rows ys zs=true):Zbt rows xs zs=true:=by
 rw [Zji] at a b ⊢
 intro i x z hx hz
 have hi:i<ys.length:=by have:=(List.getElem?_eq_some_iff.mp hx).1;omega
 exact Zm9 (a i x _ hx (List.getElem?_eq_getElem hi)) (b i _ z (List.getElem?_eq_getElem hi) hz)
theorem Zm2 {rows:List (Str×List Str)}(g:Zek rows) {n:Nat}{xs ys:List Str} (h1:xs.length=n) (h2:ys.length=n) (a:Zbt rows xs ys=true) (b:Zbt rows ys xs=true):xs=ys:=by
 rw [Zji] at a b
 refine List.ext_getElem (h1.trans h2.symm) fun i i1 i2=>?_
 exact Zpt g (a i _ _ (List.getElem?_eq_getElem i1) (List.getElem?_eq_getElem i2)) (b i _ _ (List.getElem?_eq_getElem i2) (List.getElem?_eq_getElem i1))
theorem Ze2 {ds:List (List Str)}{j:Nat}(h:j<ds.length):ds[j]?=some (ds.getD j []):=by
 rw [List.getD_eq_getElem?_getD,List.getElem?_eq_getElem h]
 rfl
section
variable {rows:List (Str×List Str)} {n:Nat} {ds:List (List Str)} (g:Zek rows) (gd:Zbk rows n ds)
include gd in
theorem Zt8 (a b c:Nat) (ha:a<ds.length) (hb:b<ds.length) (hc:c<ds.length) (h1:wB rows ds a b=true) (h2:wB rows ds b c=true):wB rows ds a c=true :=
 Zlb (gd.call _ (List.mem_of_getElem? (Ze2 ha))).len (gd.call _ (List.mem_of_getElem? (Ze2 hb))).len (gd.call _ (List.mem_of_getElem? (Ze2 hc))).len h1 h2
include g gd in
theorem Zwz (a b:Nat) (ha:a<ds.length) (hb:b<ds.length) (h1:wB rows ds a b=true) (h2:wB rows ds b a=true):a=b:=by
 have e:=Zm2 g (gd.call _ (List.mem_of_getElem? (Ze2 ha))).len (gd.call _ (List.mem_of_getElem? (Ze2 hb))).len h1 h2
 have h3:=Ze2 ha
 have h4:=Ze2 hb
 rw [e] at h3
 exact (List.getElem?_inj ha gd.nd).mp (h3.trans h4.symm)
include g gd in
theorem Zsz {l near:List Nat}{x:Nat}(hl:∀ k∈l,k<ds.length) (hx:x<ds.length) (h:Zf0 (wB rows ds) l near):Zf0 (wB rows ds) (l++[x]) (Zpr (wB rows ds) near x):=
 h.step (S:=fun k=>k<ds.length) (Zt8 gd) (Zwz g gd) hl hx
end
def Zjk (C:Addr):Sp:=fun vs H Q _=>∃ (p ld ln:Addr) (x n:Nat) (rows:List (Str×List Str)) (ds:List (List Str)) (us:List V) (near:List Nat),vs=[.ref p,.ref ld,.ref ln,.int x]∧Zco C H p rows∧Zek rows∧H ld=some (.lst us)∧Zay H ds us∧Zbk rows n ds∧H ln=some (.lst (near.map Zff))∧(∀ k∈near,k<ds.length)∧x<ds.length∧near.length≤64 ∧
 ∀ l H',Zal H H'→(l=ln∨H l=none)→H' l=some (.lst ((Zpr (wB rows ds) near x).map Zff))→Q (.ref l) H'
noncomputable def wV (rows:List (Str×List Str)) (ds:List (List Str)) (x:Nat):V→V
 | .int j=>.bl (wB rows ds j.toNat x)
 | _=>.non
noncomputable def nwV (rows:List (Str×List Str)) (ds:List (List Str)) (x:Nat):V→Bool
 | .int j=>!wB rows ds x j.toNat
 | _=>false
theorem Zyx (rows:List (Str×List Str)) (ds:List (List Str)) (x:Nat) (near:List Nat):((near.map Zff).filter fun _=>true).map (wV rows ds x)=(near.map fun k=>wB rows ds k x).map V.bl:=by
 rw [List.filter_eq_self.mpr (fun _ _=>rfl),List.map_map,List.map_map]
 rfl
theorem Zxt (rows:List (Str×List Str)) (ds:List (List Str)) (x:Nat) (near:List Nat):((near.map Zff).filter (nwV rows ds x)).map (fun v=>v)=(near.filter fun k=>!wB rows ds x k).map Zff:=by
 rw [List.map_id',List.filter_map]
 rfl
theorem Zs0:(["kept","kinds","deeds","number"]:List Str).Nodup:=by decide +kernel
section
variable {P:Program} {w:World} {K:PySem.W.Frag} {mg:Str→Option Value} {base:Heap}
abbrev nNW:List Str:=["kinds","deeds","near","number"]
theorem Z4e:Zap nNW nNW (Zab Zbf):=⟨rfl,rfl,rfl,by decide +kernel,rfl,by decide +kernel,by decide +kernel⟩
theorem Zl1 {f C fW:Addr}{fd fdW:FuncData}(F:Def K mg "nearest_with" Zbf nNW f fd) (any:mg "any"=none) (DW:Def K mg "within" Zd6 ["kinds","one","other"] fW fdW) (GW:Za3 P w K mg base CX0 4 fW fdW ["kinds","one","other"] (Zh0 C)):
  Za3 P w K mg base CX0 5 f fd nNW (Zjk C):=by
 refine F.fn.ok Z4e (fun vs H Q E h=>?_) (fun cdv A outer s H vs Q E hr h=>?_)
 ·obtain ⟨p,ld,ln,x,n,rows,ds,us,near,rfl,_⟩:=h
  rfl
 ·obtain ⟨p,ld,ln,x,n,rows,ds,us,near,rfl,kd,g,hld,hD,gd,hln,hk,hx,hn,q⟩:=h
  refine' ⟨_,pS (Zbe (Zfl (Zan (Zpi rfl) (by rfl) any PyProof.Rows.boot_any (pC ?ea Zaa))) (Zad (Zat (pv 2))) Zas) (Zad (Zat (Zba Zzy ?eb (Zb9 (pC (pv 3) Zaa))))),?_⟩
  case ea=>exact (Zbr ["kept"] ["kinds","deeds","number"] [0,1,3] (fun _=>Za0 (osc:=Zab Zbf) (on:=nNW) (by decide +kernel) rfl rfl rfl) (Zbd (pv 2)) (fun C s H fp=>Zah (i:=0) Zs0 rfl (Or.inl rfl) (Or.inr rfl)) (fun C s H fp=>Zbn)
    (fun C s H fp=>Zaf DW GW hr (pC (pv 1) (pC (Za5 (r:=Zfd K) Zar (pv 2) (pv 0) (fun _ _=>rfl)) (pC (Za5 (r:=Zfd K) Zar (pv 2) (pv 3) (fun _ _=>rfl)) Zaa)))))
  case eb=>exact (Zbr ["kept"] ["kinds","deeds","number"] [0,1,3] (fun _=>Za0 (osc:=Zab Zbf) (on:=nNW) (by decide +kernel) rfl rfl rfl) (Zbd (pv 2)) (fun C s H fp=>Zah (i:=0) Zs0 rfl (Or.inl rfl) (Or.inr rfl))
    (fun C s H fp=>Zhh (Zef (Zfl (Zaf DW GW hr (pC (pv 1) (pC (Za5 (r:=Zfd K) Zar (pv 2) (pv 3) (fun _ _=>rfl)) (pC (Za5 (r:=Zfd K) Zar (pv 2) (pv 0) (fun _ _=>rfl)) Zaa))))))) (fun C s H fp=>pv 0))
  have hul:=hD.length
  have at_:∀ (H':Hp) (k:Nat),Zal H H'→k<ds.length→∃ t,atI us ((k:Nat):Int)=some (.ref t)∧H' t=some (.tup ((ds.getD k []).map V.str)):=fun H' k s' hk=>by
   have hk':k<us.length:=by omega
   obtain ⟨dd,hdd,t,e,ht⟩:=Zam hD (List.getElem?_eq_getElem hk')
   refine ⟨t,Zc0 ((List.getElem?_eq_getElem hk').trans (congrArg some e)),?_⟩
   have e2:ds.getD k []=dd:=by rw [List.getD_eq_getElem?_getD,hdd];rfl
   rw [e2]
   exact s' _ _ ht
  have kn:∀ k,k<ds.length→∀ y∈ds.getD k [],y∈rows.map (·.1):=fun k hk=>(gd.call _ (List.mem_of_getElem? (Ze2 hk))).known
  refine ⟨_,rfl,ln,rfl,⟨_,SqL.of hln⟩,Zgd (Zav (xs:=near.map Zff)) (sL (by rw [List.length_map];omega)) (fun _=>true) (wV rows ds x) (fun H' s'=>s'.seq (SqL.of hln)) ?_ ?_ ?_⟩
  ·intro v H' R s' _ hR
   exact hR H' (Zal.refl _)
  ·intro v H' R s' hv _ hR
   obtain ⟨k,hk',rfl⟩:=List.mem_map.mp hv
   obtain ⟨t1,a1,h1⟩:=at_ H' k s' (hk k hk')
   obtain ⟨t2,a2,h2⟩:=at_ H' x s' hx
   exact ⟨_,rfl,_,rfl,_,rfl,ld,_,_,_,rfl,rfl,SqL.of (s' _ _ hld),a1,_,rfl,_,rfl,ld,_,_,_,rfl,rfl,SqL.of (s' _ _ hld),a2,p,t1,t2,rows,_,_,rfl,kd.mono s',g,h1,h2,kn k (hk k hk'),kn x hx,fun H'' s''=>hR H'' s''⟩
  ·intro D H1 hD0 s1 hl1
   rw [Zyx] at hl1
   have eA:(near.map fun k=>wB rows ds k x).any id=near.any fun k=>wB rows ds k x:=by rw [List.any_map];rfl
   refine ⟨D,_,rfl,SqL.of hl1,_,congrArg V.bl eA,?_⟩
   refine Zdu (fun h=>?_) (fun h=>?_)
   ·refine ⟨_,rfl,q ln H1 s1 (.inl rfl) ?_⟩
    unfold Zpr
    rw [if_pos h]
    exact s1 _ _ hln
   ·refine ⟨_,rfl,ln,rfl,⟨_,SqL.of (s1 _ _ hln)⟩,Zgd (Zav (xs:=near.map Zff)) (sL (by rw [List.length_map];omega)) (nwV rows ds x) (fun v=>v) (fun H' s'=>s'.seq (SqL.of (s1 _ _ hln))) ?_ ?_ ?_⟩
    ·intro v H' R s' hv hR
     obtain ⟨k,hk',rfl⟩:=List.mem_map.mp hv
     have s2:=s1.trans s'
     obtain ⟨t1,a1,h1⟩:=at_ H' k s2 (hk k hk')
     obtain ⟨t2,a2,h2⟩:=at_ H' x s2 hx
     exact ⟨_,rfl,_,rfl,_,rfl,ld,_,_,_,rfl,rfl,SqL.of (s2 _ _ hld),a2,_,rfl,_,rfl,ld,_,_,_,rfl,rfl,SqL.of (s2 _ _ hld),a1,p,t2,t1,rows,_,_,rfl,kd.mono s2,g,h2,h1,kn x hx,kn k (hk k hk'),fun H'' s''=>⟨_,rfl,hR H'' s''⟩⟩
    ·intro v H' R s' hv _ hR
     exact ⟨_,rfl,hR H' (Zal.refl _)⟩
    ·intro D2 H2 hD2 s2 hl2
     rw [Zxt] at hl2
     have fl:(near.filter fun k=>!wB rows ds x k).length≤64:=Nat.le_trans (List.length_filter_le _ _) hn
     refine ⟨_,rfl,sL (by show 1≤100000;decide),fun l3 hl3=>⟨D2,l3,_,_,rfl,rfl,(Zcq hl3) _ _ hl2,uS,sL (by rw [List.length_map];show _ + 1≤100000;omega),fun l4 hl4=>?_⟩⟩
     have s12:=s1.trans s2
     have s3:=s12.trans (Zcq (o:=.lst [.int x]) hl3)
     refine q l4 _ (s3.trans (Zcq hl4)) (.inr (s3.free hl4)) ?_
     rw [uS]
     unfold Zpr
     rw [if_neg h,List.map_append]
     rfl
def Zib (C B:Addr):Sp:=fun vs H Q _=>∃ (p k l:Addr) (rows:List (Str×List Str)) (n:Nat) (ds:List (List Str)) (ms:List Nat),vs=[.ref p,.ref l]∧Zcp C B H p k rows n ds∧Zek rows∧Zbk rows n ds∧H l=some (.lst (ms.map Zff))∧(∀ j∈ms,j<ds.length)∧ms.Nodup∧ms.length≤64 ∧
 ∀ l' H',Zal H H'→H l'=none→H' l'=some (.lst ((Z06 (wB rows ds) ms).map Zff))→Q (.ref l') H'
abbrev nNA:List Str:=["board","numbers","kinds","deeds","near","number"]
theorem Z26:Zap nNA ["board","numbers"] (Zab Zbp):=⟨rfl,rfl,rfl,by decide +kernel,rfl,by decide +kernel,by decide +kernel⟩
theorem Zs1 {ms:List Nat}{i:Nat}{v:V}(h:(ms.map Zff)[i]?=some v):∃ x,ms[i]?=some x∧v=.int (x:Nat):=by
 obtain ⟨x,h1,h2⟩:=Zmc h
 exact ⟨x,h1,h2.symm⟩
theorem Zki {f C B fK fDe fN fW:Addr}{fd fdK fdDe fdN fdW:FuncData}(F:Def K mg "nearest_among" Zbp ["board","numbers"] f fd) (list:mg "list"=none) (any:mg "any"=none) (TB:Zi8 K B) (MK:Zoe K B fK fdK) (MD:Zt4 K B fDe fdDe) (DN:Def K mg "nearest_with" Zbf nNW fN fdN)
  (DW:Def K mg "within" Zd6 ["kinds","one","other"] fW fdW) (GW:Za3 P w K mg base CX0 4 fW fdW ["kinds","one","other"] (Zh0 C)):Za3 P w K mg base CX0 6 f fd ["board","numbers"] (Zib C B):=by
 have GK:Za3 P w K mg base CX0 1 fK fdK ["self"] (Zh2 C B):=Zit MK.fn TB
 have GD:Za3 P w K mg base CX0 1 fDe fdDe ["self"] (Zj9 C B):=Zl5 MD.fn TB list
 have GN:Za3 P w K mg base CX0 5 fN fdN nNW (Zjk C):=Zl1 DN any DW GW
 refine F.fn.ok Z26 (fun vs H Q E h=>?_) (fun cdv A outer s H vs Q E hr h=>?_)
 ·obtain ⟨p,k,l,rows,n,ds,ms,rfl,_⟩:=h
  rfl
 ·obtain ⟨p,k,l,rows,n,ds,ms,rfl,bd,g,gd,hl,hms,nd',hml,q⟩:=h
  obtain ⟨dx,ts,us0,h1,h2,h3,h4⟩:=bd.ex
  have nd:=Z26.nd
  have hr1:Zec 1 _:=hr.mono (by decide)
  refine ⟨_,(pS (Zag (i:=2) nd rfl (Or.inl rfl) (Zde (pv 0) TB.cl MK.me GK hr1 MK.b .nil Ze1))
   (pS (Zag (i:=3) nd rfl (Or.inl rfl) (Zde (pv 0) TB.cl MD.me GD hr1 MD.b .nil Ze1))
   (pS (Zag (i:=4) nd rfl (Or.inl rfl) (Zb9 Zaa))
   (pS (Zbw PassesOwn.never rfl (Zbd (pv 1)) (Zah (i:=5) nd rfl (Or.inl rfl)) (Zad (Zag (i:=4) nd rfl (Or.inl rfl) (Zaf DN GN hr (pC (pv 2) (pC (pv 3) (pC (pv 4) (pC (pv 5) Zaa))))))))
   (Zad (Zat (pv 4))))))),?_⟩
  refine ⟨_,rfl,p,dx,_,rfl,h1,Ziu _ _ _,p,k,rows,n,ds,rfl,bd,?_⟩
  refine ⟨_,rfl,p,dx,_,rfl,h1,Zl6 _ _ _,p,k,rows,n,ds,rfl,bd,fun ld us hld hD=>?_⟩
  have s1:Zal H (upd H ld (.lst us)):=Zcq hld
  refine ⟨Nat.zero_le _,fun l0 hl0=>?_⟩
  have s2:Zal H (upd (upd H ld (.lst us)) l0 (.lst [])):=s1.trans (Zcq hl0)
  have hld2:(upd (upd H ld (.lst us)) l0 (.lst [])) ld=some (.lst us):=(Zcq hl0) _ _ uS
  have hl0H:H l0=none:=s1.free hl0
  refine ⟨_,rfl,l,rfl,⟨_,SqL.of (s2 _ _ hl)⟩,Za6 (Zav (xs:=ms.map Zff)) (fun i σ H'=>∃ (ln:Addr) (near:List Nat) (x:Option V),σ=[some (.ref p),some (.ref l),some (.ref k),some (.ref ld),some (.ref ln),x]∧Zal H H'∧H' ld=some (.lst us)∧H ln=none∧H' ln=some (.lst (near.map Zff))∧Zf0 (wB rows ds) (ms.take i) near)
   ⟨l0,[],none,rfl,s2,hld2,hl0H,uS,Zf0.nil _⟩ (fun i σ H' _ ⟨_,_,_,_,s',_⟩=>SqL.of (s' _ _ hl)) ?_ ?_⟩
  ·rintro i v σ H' hi ⟨ln,near,x0,rfl,s',hld',hlnH,hln,ok⟩
   obtain ⟨x,hx,rfl⟩:=Zs1 hi
   have nl:near.length≤ms.length:=Nat.le_trans ok.sub.length_le (by rw [List.length_take];omega)
   refine ⟨_,rfl,_,rfl,_,rfl,_,rfl,k,ld,ln,x,n,rows,ds,us,near,rfl,h2.mono s',g,hld',hD.mono s',gd,hln,fun j hj=>hms j (List.mem_of_mem_take (ok.sub.subset hj)),hms x (List.mem_of_getElem? hx),by omega,fun l' H2 s'' hor hl'=>?_⟩
   refine ⟨l',_,_,rfl,s'.trans s'',s'' _ _ hld',?_,hl',?_⟩
   ·rcases hor with z | z
    ·rw [z];exact hlnH
    ·exact s'.free z
   ·rw [List.take_add_one,hx]
    exact Zsz g gd (fun j hj=>hms j (List.mem_of_mem_take hj)) (hms x (List.mem_of_getElem? hx)) ok
  ·rintro σ H' ⟨ln,near,x0,rfl,s',hld',hlnH,hln,ok⟩
   rw [List.length_map,List.take_length] at ok
   refine ⟨_,rfl,q ln H' s' hlnH ?_⟩
   rw [hln,ok.is nd']
noncomputable def Zl9 (rows:List (Str×List Str)) (ds:List (List Str)) (xs:List Str):List Nat:=Z06 (wB rows ds) (Zk1 rows ds xs)
def Zlh (C B:Addr):Sp:=fun vs H Q _=>∃ (p k t:Addr) (rows:List (Str×List Str)) (n:Nat) (ds:List (List Str)) (xs:List Str),vs=[.ref p,.ref t]∧Zcp C B H p k rows n ds∧Zek rows∧Zbk rows n ds∧n≤4∧H t=some (.tup (xs.map V.str))∧Zbj rows n xs ∧
 ∀ l H',H l=none→Zal H H'→H' l=some (.lst ((Zl9 rows ds xs).map Zff))→Q (.ref l) H'
theorem Znz {rows:List (Str×List Str)}{ds:List (List Str)}{xs:List Str}:∀ k∈Zk1 rows ds xs,k<ds.length:=fun k hk=>List.mem_range.mp (List.mem_filter.mp hk).1
theorem Zyg (rows:List (Str×List Str)) (ds:List (List Str)) (xs:List Str):(Zk1 rows ds xs).Nodup:=List.nodup_range.filter _
theorem Zpc (rows:List (Str×List Str)) (ds:List (List Str)) (xs:List Str):(Zk1 rows ds xs).length≤ds.length:=by
 unfold Zk1
 refine Nat.le_trans (List.length_filter_le _ _) ?_
 rw [List.length_range]
 exact Nat.le_refl _
theorem Z4d:Zap ["board","call"] ["board","call"] (Zab Zd9):=⟨rfl,rfl,rfl,by decide +kernel,rfl,by decide +kernel,by decide +kernel⟩
theorem Zp2 {f C B fA fF:Addr}{fd fdA fdF:FuncData}(F:Def K mg "nearest" Zd9 ["board","call"] f fd) (DA:Def K mg "nearest_among" Zbp ["board","numbers"] fA fdA) (GA:Za3 P w K mg base CX0 6 fA fdA ["board","numbers"] (Zib C B)) (DF:Def K mg "fitting" Zdq ["board","call"] fF fdF) (GF:Za3 P w K mg base CX0 5 fF fdF ["board","call"] (Zlk C B)):
  Za3 P w K mg base CX0 7 f fd ["board","call"] (Zlh C B):=by
 refine F.fn.ok Z4d (fun vs H Q E h=>?_) (fun cdv A outer s H vs Q E hr h=>?_)
 ·obtain ⟨p,k,t,rows,n,ds,xs,rfl,_⟩:=h
  rfl
 ·obtain ⟨p,k,t,rows,n,ds,xs,rfl,bd,g,gd,hn,ht,gc,q⟩:=h
  have hr5:Zec 5 _:=hr.mono (by decide)
  have few:=gd.few
  have fl:=Zpc rows ds xs
  refine ⟨_,Zad (Zat (Zaf DA GA hr (pC (pv 0) (pC (Zaf DF GF hr5 (pC (pv 0) (pC (pv 1) Zaa))) Zaa)))),?_⟩
  refine ⟨_,rfl,_,rfl,_,rfl,p,k,t,rows,n,ds,xs,rfl,bd,g,gd,hn,ht,gc,fun l H1 hl s1 hl1=>?_⟩
  exact ⟨p,k,l,rows,n,ds,Zk1 rows ds xs,rfl,bd.mono s1,g,gd,hl1,Znz,Zyg _ _ _,by omega,fun l' H2 s2 hl' h2=>q l' H2 (s1.free hl') (s1.trans s2) h2⟩
def Zm6:List Nat→List V
 | []=>[.str "none"]
 | [k]=>[.str "deed",Zff k]
 | k :: j :: _=>[.str "clash",Zff k,Zff j]
def Zok:Sp:=fun vs H Q _=>∃ (l:Addr) (near:List Nat),vs=[.ref l]∧H l=some (.lst (near.map Zff))∧∀ t H',H t=none→Zal H H'→H' t=some (.tup (Zm6 near))→Q (.ref t) H'
theorem Z1m:Zap ["near"] ["near"] (Zab Zd8):=⟨rfl,rfl,rfl,by decide +kernel,rfl,by decide +kernel,by decide +kernel⟩
theorem Zp1 {f:Addr}{fd:FuncData}(F:Def K mg "told_of" Zd8 ["near"] f fd) (len:mg "len"=none):Za3 P w K mg base CX0 1 f fd ["near"] Zok:=by
 refine F.fn.ok Z1m (fun vs H Q E h=>?_) (fun cdv A outer s H vs Q E hr h=>?_)
 ·obtain ⟨l,near,rfl,_⟩:=h
  rfl
 ·obtain ⟨l,near,rfl,hl,q⟩:=h
  refine ⟨_,pS (Zbe (Zef (Zkd (pv 0) (fun _=>rfl))) (Zad (Zat (Zb8 (pC Zey Zaa)))) Zas)
   (pS (Zbe (Zaq Zd1 (Zan Zak (by rfl) len PySem.boot_len (pC (pv 0) Zaa)) Zae (Zaz _)) (Zad (Zat (Zb8 (pC Zey (pC (Za5 Zar (pv 0) Zae (fun _ _=>rfl)) Zaa))))) Zas)
   (Zad (Zat (Zb8 (pC Zey (pC (Za5 Zar (pv 0) Zae (fun _ _=>rfl)) (pC (Za5 Zar (pv 0) Zae (fun _ _=>rfl)) Zaa))))))),?_⟩
  cases near with
  | nil=>exact ⟨_,rfl,false,.inl ⟨[],SqL.of hl,rfl⟩,Zqt ⟨sL (by show 1≤100000;decide),fun t ht=>q t _ ht (Zcq ht) uS⟩⟩
  | cons k r =>
   refine ⟨_,rfl,true,.inl ⟨_,SqL.of hl,rfl⟩,Zht ?_⟩
   refine ⟨_,rfl,l,_,rfl,.inl (SqL.of hl),rfl,_,rfl,?_⟩
   cases r with
   | nil =>
    refine Zdu (fun _=>?_) (fun h=>absurd (by rfl) h)
    exact ⟨_,rfl,l,_,_,_,rfl,rfl,SqL.of hl,rfl,sL (by show 2≤100000;decide),fun t ht=>q t _ ht (Zcq ht) uS⟩
   | cons j r =>
    refine Zdu (fun h=>?_) (fun _=>?_)
    ·have h:=of_decide_eq_true h
     injection h with h
     simp at h
     omega
    ·exact ⟨_,rfl,l,_,_,_,rfl,rfl,SqL.of hl,Zc0 (j:=0) rfl,_,rfl,l,_,_,_,rfl,rfl,SqL.of hl,Zc0 (j:=1) rfl,sL (by show 3≤100000;decide),fun t ht=>q t _ ht (Zcq ht) uS⟩
def Zv4 (C B:Addr):Sp:=fun vs H Q _=>∃ (p k t:Addr) (rows:List (Str×List Str)) (n:Nat) (ds:List (List Str)) (xs:List Str),vs=[.ref p,.ref t]∧Zcp C B H p k rows n ds∧Zek rows∧Zbk rows n ds∧n≤4∧H t=some (.tup (xs.map V.str))∧Zbj rows n xs ∧
 ∀ l H',H l=none→Zal H H'→H' l=some (.tup (Zm6 (Zl9 rows ds xs)))→Q (.ref l) H'
theorem Z4b:Zap ["board","call"] ["board","call"] (Zab Zhp):=⟨rfl,rfl,rfl,by decide +kernel,rfl,by decide +kernel,by decide +kernel⟩
theorem Zxo {f C B fN fO:Addr}{fd fdN fdO:FuncData}(F:Def K mg "told" Zhp ["board","call"] f fd) (DN:Def K mg "nearest" Zd9 ["board","call"] fN fdN) (GN:Za3 P w K mg base CX0 7 fN fdN ["board","call"] (Zlh C B)) (DO:Def K mg "told_of" Zd8 ["near"] fO fdO) (len:mg "len"=none):
  Za3 P w K mg base CX0 8 f fd ["board","call"] (Zv4 C B):=by
 have GO:Za3 P w K mg base CX0 1 fO fdO ["near"] Zok:=Zp1 DO len
 refine F.fn.ok Z4b (fun vs H Q E h=>?_) (fun cdv A outer s H vs Q E hr h=>?_)
 ·obtain ⟨p,k,t,rows,n,ds,xs,rfl,_⟩:=h
  rfl
 ·obtain ⟨p,k,t,rows,n,ds,xs,rfl,bd,g,gd,hn,ht,gc,q⟩:=h
  have hr1:Zec 1 _:=hr.mono (by decide)
  refine ⟨_,Zad (Zat (Zaf DO GO hr1 (pC (Zaf DN GN hr (pC (pv 0) (pC (pv 1) Zaa))) Zaa))),?_⟩
  refine ⟨_,rfl,_,rfl,p,k,t,rows,n,ds,xs,rfl,bd,g,gd,hn,ht,gc,fun l H1 hl s1 hl1=>?_⟩
  exact ⟨l,_,rfl,hl1,fun t' H2 ht' s2 h2=>q t' H2 (s1.free ht') (s1.trans s2) h2⟩
end
end K46
namespace K46
open PySem L2 Md
def Zug (K:PySem.W.Frag):Sp:=fun vs H Q _=>∃ (a:Addr) (ns:List Int),vs=[.ref a]∧SqL K H a (ns.map V.int)∧ns.length≤63∧∀ H',Q (.bl true) H'
noncomputable def Z2f (rows:List (Str×List Str)) (ds:List (List Str)) (xs:List Str):V→Bool
 | .int i=>Zbt rows xs (ds.getD i.toNat [])
 | _=>false
theorem Zyh (rows:List (Str×List Str)) (ds:List (List Str)) (xs:List Str):((Zdg 0 ds.length).filter (Z2f rows ds xs)).map (fun v=>v)=(Zk1 rows ds xs).map Zff:=by
 rw [List.map_id',Zpv,List.filter_map]
 rfl
theorem Zk4 {H H':Hp}{ds:List (List Str)}{us:List V}(hD:Zay H ds us) (s:Zal H H') {k:Nat}(hk:k<ds.length):∃ t,atI us ((k:Nat):Int)=some (.ref t)∧H' t=some (.tup ((ds.getD k []).map V.str)):=by
 have hul:=hD.length
 have hk':k<us.length:=by omega
 obtain ⟨dd,hdd,t,e,ht⟩:=Zam hD (List.getElem?_eq_getElem hk')
 refine ⟨t,Zc0 ((List.getElem?_eq_getElem hk').trans (congrArg some e)),?_⟩
 have e2:ds.getD k []=dd:=by rw [List.getD_eq_getElem?_getD,hdd];rfl
 rw [e2]
 exact s _ _ ht
theorem Zqm {rows:List (Str×List Str)}{n:Nat}{ds:List (List Str)}(gd:Zbk rows n ds) {k:Nat}(hk:k<ds.length):∀ y∈ds.getD k [],y∈rows.map (·.1):=(gd.call _ (List.mem_of_getElem? (Ze2 hk))).known
theorem Zvv {rows:List (Str×List Str)}{n:Nat}{ds:List (List Str)}(gd:Zbk rows n ds) {k:Nat}(hk:k<ds.length):(ds.getD k []).length=n:=(gd.call _ (List.mem_of_getElem? (Ze2 hk))).len
end K46
namespace K46
open PySem L2 Md
def Zdt (cs:List (List Str)) (ws:List Str):List (List Str):=cs.flatMap fun c=>ws.map fun x=>c++[x]
def Zei (wss:List (List Str)):List (List Str):=wss.foldl Zdt [[]]
theorem Zdo (wss:List (List Str)) (ws:List Str):Zei (wss++[ws])=Zdt (Zei wss) ws:=by
 unfold Zei
 rw [List.foldl_append]
 rfl
theorem Zf9 (cs:List (List Str)) (ws:List Str):(Zdt cs ws).length=cs.length * ws.length:=by
 unfold Zdt
 induction cs with
 | nil=>simp
 | cons c r ih =>
  rw [List.flatMap_cons,List.length_append,ih,List.length_map,List.length_cons,Nat.add_mul,Nat.one_mul,Nat.add_comm]
theorem Zix (cs:List (List Str)) (ws:List Str) {i:Nat}{c:List Str}(h:cs[i]?=some c):Zdt (cs.take (i + 1)) ws=Zdt (cs.take i) ws++ws.map fun x=>c++[x]:=by
 unfold Zdt
 rw [List.take_add_one,h,List.flatMap_append]
 simp
theorem Zpb:∀ (wss cs:List (List Str)) (acc:List (List Str)) (m:Nat),(∀ c∈acc,c.length=m)→∀ c∈wss.foldl Zdt acc,c.length=m + wss.length
 | [],_,acc,m,h,c,hc=>h c hc
 | ws :: r,cs,acc,m,h,c,hc=>by
  have:=Zpb r cs (Zdt acc ws) (m + 1) (fun d hd=>by
   obtain ⟨e,he,hd⟩:=List.mem_flatMap.mp hd
   obtain ⟨x,_,rfl⟩:=List.mem_map.mp hd
   rw [List.length_append,h e he]
   rfl) c hc
  rw [this,List.length_cons]
  omega
theorem Zke {wss:List (List Str)}{c:List Str}(h:c∈Zei wss):c.length=wss.length:=by
 have:=Zpb wss [] [[]] 0 (fun d hd=>by rw [List.mem_singleton.mp hd];rfl) c h
 omega
theorem Zpa:∀ (wss:List (List Str)) (acc:List (List Str)) (S:Str→Prop),(∀ ws∈wss,∀ x∈ws,S x)→(∀ c∈acc,∀ x∈c,S x)→∀ c∈wss.foldl Zdt acc,∀ x∈c,S x
 | [],acc,S,_,h,c,hc=>h c hc
 | ws :: r,acc,S,hw,h,c,hc=>Zpa r (Zdt acc ws) S (fun ws' hws'=>hw ws' (by simp [hws'])) (fun d hd=>by
   obtain ⟨e,he,hd⟩:=List.mem_flatMap.mp hd
   obtain ⟨y,hy,rfl⟩:=List.mem_map.mp hd
   intro x hx
   rcases List.mem_append.mp hx with z | z
   ·exact h e he x z
   ·rw [List.mem_singleton.mp z];exact hw ws (by simp) y hy) c hc
theorem Zay.append {H:Hp}{ds es:List (List Str)}{us vs:List V}(h:Zay H ds us) (k:Zay H es vs):Zay H (ds++es) (us++vs):=by
 unfold Zay at *
 induction h with
 | nil=>exact k
 | cons r t ih=>exact .cons r ih
theorem Zay.len {H:Hp}{ds:List (List Str)}{us:List V}(h:Zay H ds us):ds.length=us.length:=Paired.length h
def Zyt (c:List Str) (x v:V) (H:Hp):Prop:=∃ (t:Addr) (z:Str),x=.str z∧v=.ref t∧H t=some (.tup ((c++[z]).map V.str))
theorem Zk6 {H:Hp}{c:List Str}:∀ {ws:List Str}{ys:List V},Paired (fun x v=>Zyt c x v H) (ws.map V.str) ys→Zay H (ws.map fun x=>c++[x]) ys
 | [],_,h=>by cases h;exact .nil
 | x :: r,_,h=>by
  cases h with
  | cons a b =>
   obtain ⟨t,z,e1,e2,e3⟩:=a
   injection e1 with e1
   subst e1
   exact .cons ⟨t,e2,e3⟩ (Zk6 b)
theorem Z1z:(["thing","start"]:List Str).Nodup:=by decide +kernel
theorem Z1y:(["word","call"]:List Str).Nodup:=by decide +kernel
def Z01 (H:Hp) (wss:List (List Str)) (vs:List V):Prop:=Paired (fun (ws:List Str) v=>∃ r,v=V.ref r∧H r=some (.lst (ws.map V.str))) wss vs
def Zlg:Sp:=fun vs H Q _=>∃ (l:Addr) (wss:List (List Str)) (us:List V),vs=[.ref l]∧H l=some (.lst us)∧Z01 H wss us∧(∀ i,(Zei (wss.take i)).length≤10000)∧(∀ ws∈wss,ws.length≤1000)∧wss.length≤100 ∧
 ∀ (lf:Addr) (ys:List V) (H':Hp),H lf=none→Zal H H'→H' lf=some (.lst ys)→Zay H' (Zei wss) ys→Q (.ref lf) H'
section
variable {P:Program} {w:World} {K:PySem.W.Frag} {mg:Str→Option Value} {base:Heap}
abbrev nOE:List Str:=["rows","found","row","longer","start"]
theorem Z25:Zap nOE ["rows"] (Zab Zbx):=⟨rfl,rfl,rfl,by decide +kernel,rfl,by decide +kernel,by decide +kernel⟩
theorem Znh {f:Addr}{fd:FuncData}(F:Def K mg "one_of_each" Zbx ["rows"] f fd):Za3 P w K mg base CX0 1 f fd ["rows"] Zlg:=by
 refine F.fn.ok Z25 (fun vs H Q E h=>?_) (fun cdv A outer s H vs Q E hr h=>?_)
 ·obtain ⟨l,wss,us,rfl,_⟩:=h
  rfl
 ·obtain ⟨l,wss,us,rfl,hl,hR,hb,hw,hn,q⟩:=h
  have nd:=Z25.nd
  have hul:wss.length=us.length:=Paired.length hR
  refine' ⟨_,(pS (Zag (i:=1) nd rfl (Or.inl rfl) (Zb9 (pC (Zb8 Zaa) Zaa)))
   (pS (Zbw PassesOwn.never rfl (Zbd (pv 0)) (Zah (i:=2) nd rfl (Or.inl rfl))
    (pS (Zag (i:=3) nd rfl (Or.inl rfl) (Zb9 Zaa))
   (pS (Zbw PassesOwn.never rfl (Zbd (pv 1)) (Zah (i:=4) nd rfl (Or.inr rfl)) (Zad (Za9 (Zej PySem.F.plainAttrs_list PySem.F.slot_list_extend PySem.F.type_list_extend Zma (pv 3) (pC ?ea Zaa)))))
   (Zad (Zag (i:=1) nd rfl (Or.inl rfl) (pv 3))))))
   (Zad (Zat (pv 1))))),?_⟩
  case ea=>exact (Zbr ["thing"] ["start"] [4] (fun _=>Za0 (osc:=Zab Zbx) (on:=nOE) (by decide +kernel) rfl rfl rfl) (Zbd (pv 2)) (fun C s H fp=>Zah (i:=0) Z1z rfl (Or.inl rfl) (Or.inr rfl)) (fun C s H fp=>Zbn)
    (fun C s H fp=>Zba (r:=Zpw K) Zkh (pv 1) (Zb8 (pC (pv 0) Zaa))))
  refine ⟨Nat.zero_le _,fun t0 ht0=>⟨sL (by show 1≤100000;decide),fun l0 hl0=>?_⟩⟩
  have s0:Zal H (upd (upd H t0 (.tup [])) l0 (.lst [.ref t0])):=(Zcq ht0).trans (Zcq hl0)
  have l0H:H l0=none:=(Zcq (o:=.tup []) ht0).free hl0
  refine ⟨_,rfl,l,rfl,⟨_,SqL.of (s0 _ _ hl)⟩,Za6 (Zav (xs:=us)) (fun i σ H'=>∃ (lf:Addr) (ys:List V) (x1 x2 x3:Option V),σ=[some (.ref l),some (.ref lf),x1,x2,x3]∧Zal H H'∧H lf=none∧H' lf=some (.lst ys)∧Zay H' (Zei (wss.take i)) ys)
   ⟨l0,[.ref t0],none,none,none,rfl,s0,l0H,uS,.cons ⟨t0,rfl,(Zcq hl0) _ _ uS⟩ .nil⟩ (fun i σ H' _ ⟨_,_,_,_,_,_,s',_⟩=>SqL.of (s' _ _ hl)) ?_ ?_⟩
  ·rintro i v σ H' hi ⟨lf,ys,x1,x2,x3,rfl,s',hlfH,hlf,hD⟩
   obtain ⟨ws,hws,rw',rfl,hrw⟩:=Zam hR hi
   have hb1:=hb (i + 1)
   rw [List.take_add_one,hws] at hb1
   have hb1:(Zei (wss.take i++[ws])).length≤10000:=hb1
   rw [Zdo] at hb1
   have hwl:=hw ws (List.mem_of_getElem? hws)
   have hyl:=hD.len
   refine ⟨Nat.zero_le _,fun ln hln=>?_⟩
   have s1:Zal H' (upd H' ln (.lst [])):=Zcq hln
   have lnH:H ln=none:=s'.free hln
   have lfn:lf≠ln:=nNo hlf hln
   have rwn:rw'≠ln:=nNo (s' _ _ hrw) hln
   refine ⟨_,rfl,lf,rfl,⟨_,SqL.of (s1 _ _ hlf)⟩,Za6 (Zav (xs:=ys)) (fun j σ H2=>∃ (zs:List V) (x3:Option V),σ=[some (.ref l),some (.ref lf),some (.ref rw'),some (.ref ln),x3]∧Zal H' H2∧H2 ln=some (.lst zs)∧Zay H2 (Zdt ((Zei (wss.take i)).take j) ws) zs)
    ⟨[],x3,rfl,s1,uS,by rw [List.take_zero];exact .nil⟩ (fun j σ H2 _ ⟨_,_,_,s2,_⟩=>SqL.of (s2 _ _ hlf)) ?_ ?_⟩
   ·rintro j v σ H2 hj ⟨zs,x3',rfl,s2,hlnz,hZ⟩
    obtain ⟨c,hc,tc,rfl,htc⟩:=Zam hD hj
    have s02:=s'.trans s2
    have hrw2:=s02 _ _ hrw
    refine ⟨_,rfl,.inl ⟨rfl,_,SqL.of hlnz⟩,_,rfl,rw',rfl,⟨_,SqL.of hrw2⟩,Zdf (Zav (xs:=ws.map V.str)) (sL (by rw [List.length_map];omega)) (fun _=>true) (fun D x v H=>Zyt c x v H∧∀ t,v=.ref t→t≠D) (fun D x v Ha Hb k h=>?_) (fun H' s'=>s'.seq (SqL.of hrw2)) ?_ ?_ ?_⟩
    ·obtain ⟨⟨t,z,e1,e2,e3⟩,ne⟩:=h
     exact ⟨⟨t,z,e1,e2,k _ _ (ne t e2) e3⟩,ne⟩
    ·intro x H3 R _ _ hR'
     exact hR' H3 (Zal.refl _)
    ·intro D x H3 R s3 hDx hDn hx _ hR'
     obtain ⟨z,hz,rfl⟩:=List.mem_map.mp hx
     obtain ⟨ys',hys'⟩:=hDx
     have htc3:=s3 _ _ (s2 _ _ htc)
     refine ⟨_,rfl,_,rfl,sL (by show 1≤100000;decide),fun t1 ht1=>?_⟩
     have s4:Zal H3 (upd H3 t1 (.tup [.str z])):=Zcq ht1
     have t1D:t1≠D:=Ne.symm (nNo hys' ht1)
     have cl:c.length≤1000:=by
      have:=Zke (List.mem_of_getElem? hc)
      rw [List.length_take] at this
      omega
     refine ⟨tc,t1,_,_,rfl,rfl,SqT.of (s4 _ _ htc3),SqT.of uS,sL (by rw [List.length_map];show c.length + 1≤100000;omega),fun e=>?_,(fun _ e=>nomatch e),fun _ _ t2 ht2=>?_⟩
     ·have e0:c=[]:=by cases c with | nil=>rfl | cons a r=>cases e
      subst e0
      exact hR' _ _ s4 ⟨⟨t1,z,rfl,rfl,uS⟩,fun t e=>by injection e with e;rw [← e];exact t1D⟩
     ·have t2D:t2≠D:=Ne.symm (nNo (s4 _ _ hys') ht2)
      exact hR' _ _ (s4.trans (Zcq ht2)) ⟨⟨t2,z,rfl,rfl,by rw [uS,List.map_append];rfl⟩,fun t e=>by injection e with e;rw [← e];exact t2D⟩
    ·intro D H3 vs3 hD3 s3 hl3 hp3
     rw [List.filter_eq_self.mpr (fun _ _=>rfl)] at hp3
     have hC:=Zk6 (Paired.mapP hp3 fun _ _ z=>z.1)
     have hlnz3:=s3 _ _ hlnz
     have zl:=hZ.len
     have vl:=hC.len
     rw [List.length_map] at vl
     have hj':j<(Zei (wss.take i)).length:=(List.getElem?_eq_some_iff.mp hc).1
     have lz:(Zdt ((Zei (wss.take i)).take j) ws).length + ws.length≤10000:=by
      rw [Zf9] at hb1 ⊢
      rw [List.length_take,Nat.min_eq_left (by omega)]
      refine Nat.le_trans ?_ hb1
      rw [← Nat.succ_mul]
      exact Nat.mul_le_mul_right _ hj'
     refine ⟨ln,D,_,_,rfl,rfl,hlnz3,hl3,sL (by omega),zs++vs3,_,rfl,fun b o e=>by rw [Zac (nNo e hln)];exact s3 _ _ (s2 _ _ e),uS,?_⟩
     rw [Zix _ _ hc]
     have kp:∀ b o,b≠ln→H3 b=some o→(upd H3 ln (.lst (zs++vs3))) b=some o:=fun b o hb e=>by rw [Zac hb];exact e
     have dk:∀ {ds:List (List Str)} {us:List V},Zay H3 ds us→Zay (upd H3 ln (.lst (zs++vs3))) ds us:=fun h=>Paired.mapP h fun _ _ ⟨t,e,x⟩=>⟨t,e,kp _ _ (fun z=>by rw [z,hlnz3] at x;cases x) x⟩
     exact (dk (hZ.mono s3)).append (dk hC)
   ·rintro σ H2 ⟨zs,x3',rfl,s2,hlnz,hZ⟩
    have el:(Zei (wss.take i)).take ys.length=Zei (wss.take i):=by rw [← hyl,List.take_length]
    rw [el] at hZ
    refine ⟨_,rfl,ln,zs,_,_,_,rfl,s'.trans s2,lnH,hlnz,?_⟩
    rw [List.take_add_one,hws]
    show Zay H2 (Zei (wss.take i++[ws])) zs
    rw [Zdo]
    exact hZ
  ·rintro σ H' ⟨lf,ys,x1,x2,x3,rfl,s',hlfH,hlf,hD⟩
   rw [← hul,List.take_length] at hD
   exact ⟨_,rfl,q lf ys H' hlfH s' hlf hD⟩
end
end K46
namespace K46
open PySem L2 Md
abbrev wds (rows:List (Str×List Str)):List Str:=rows.map (·.1)
def Zaj (rows:List (Str×List Str)) (n:Nat):List (List Str):=Zei (List.replicate n (wds rows))
theorem Zev (rows:List (Str×List Str)):∀ n,(Zaj rows n).length=rows.length ^ n
 | 0=>rfl
 | n + 1=>by
  unfold Zaj
  rw [List.replicate_succ',Zdo,Zf9]
  have:=Zev rows n
  unfold Zaj at this
  rw [this,List.length_map,Nat.pow_succ]
theorem Zfk {rows:List (Str×List Str)}{n:Nat}:∀ c∈Zaj rows n,Zbj rows n c:=fun c hc=>by
 refine ⟨?_,?_⟩
 ·have:=Zke hc
  rw [List.length_replicate] at this
  exact this
 ·exact Zpa (List.replicate n (wds rows)) [[]] (fun x=>x∈wds rows) (fun ws hws x hx=>by rw [List.eq_of_mem_replicate hws] at hx;exact hx) (fun d hd x hx=>by rw [List.mem_singleton.mp hd] at hx;cases hx) c hc
theorem Zf4 {b i n:Nat}(hb:1≤b) (h:i≤n):b ^ i≤b ^ n:=Nat.pow_le_pow_right hb h
theorem Zg1 (d a:Addr):(Zqu d a).lookup ("words":Str)=none:=Zkz d a (by decide +kernel) (by decide +kernel)
theorem Zvb (k t:Addr) (n:Nat):(Zge k t n).lookup ("check_size":Str)=none:=Zg7 k t n (by decide +kernel) (by decide +kernel) (by decide +kernel)
abbrev Zpm (K:PySem.W.Frag) (C f:Addr) (fd:FuncData):Prop:=Zjg K C "words" "Kinds.words" Zcg ["self"] f fd
abbrev Z2p (K:PySem.W.Frag) (B f:Addr) (fd:FuncData):Prop:=Zjg K B "check_size" "Board.check_size" Zbc ["self"] f fd
def Zv6 (C B:Addr):Sp:=fun vs H Q _=>∃ (p k:Addr) (rows:List (Str×List Str)) (n:Nat) (ds:List (List Str)),vs=[.ref p]∧Zcp C B H p k rows n ds∧Zek rows∧n≤4∧rows.length ^ n≤512∧∀ H',Zal H H'→Q .non H'
structure Z2m (mg:Str→Option Value):Prop where
 calls:∃ t,mg "MOST_CALLS"=some (.int 512 t)
 len:mg "len"=none
 range:mg "range"=none
 list:mg "list"=none
section
variable {P:Program} {w:World} {K:PySem.W.Frag} {mg:Str→Option Value} {base:Heap}
abbrev nSz:List Str:=["self","number","place"]
theorem Z21:Zap nSz ["self"] (Zab Zbc):=⟨rfl,rfl,rfl,by decide +kernel,rfl,by decide +kernel,by decide +kernel⟩
theorem Zxp {f B C fWo:Addr}{fd fdWo:FuncData}(F:Fun K "check_size" "Board.check_size" Zbc f fd) (T:Z2m mg) (TB:Zi8 K B) (TC:Zmz K C) (MW:Zpm K C fWo fdWo):Za3 P w K mg base CX0 2 f fd ["self"] (Zv6 C B):=by
 have GW:Za3 P w K mg base CX0 1 fWo fdWo ["self"] (Zfr C):=Zf7 MW.fn TC T.list
 refine F.ok Z21 (fun vs H Q E h=>?_) (fun cdv A outer s H vs Q E hr h=>?_)
 ·obtain ⟨p,k,rows,n,ds,rfl,_⟩:=h
  rfl
 ·obtain ⟨p,k,rows,n,ds,rfl,bd,g,n4,hc,q⟩:=h
  obtain ⟨dx,ts,us,h1,h2,h3,h4⟩:=bd.ex
  obtain ⟨dxk,dk,ak,ok,oak,kvs,avs,hk1,_⟩:=h2.ex
  obtain ⟨t1,hM⟩:=T.calls
  have nd:=Z21.nd
  have gle:=g.le
  have gne:1≤rows.length:=by have:=g.ne;omega
  refine ⟨_,(pS (Zag (i:=1) nd rfl (Or.inl rfl) Zae)
   (pS (Zbw PassesOwn.never rfl (Zb5 (by rfl) T.range (pC (Zgi (pv 0) rfl) Zaa)) (Zah (i:=2) nd rfl (Or.inl rfl)) (Zad (Zag (i:=1) nd rfl (Or.inl rfl) (Zba Zjr (pv 1) (Zan Zak (by rfl) T.len PySem.boot_len (pC (Zde (Zgi (pv 0) rfl) TC.cl MW.me GW hr MW.b .nil Ze1) Zaa))))))
   (Zad (Zbe (Zaq Zp0 (pv 1) (Zgo (v:=.int 512) (by rfl) hM ⟨_,rfl⟩) (Zaz _)) Zb4 Zas)))),?_⟩
  refine ⟨_,rfl,p,B,dx,_,_,rfl,h1,TB.cl,TB.nW,Znx _ _ _,n,rfl,by omega,by omega,Za6 Zbm (fun i σ H'=>∃ x:Option V,σ=[some (.ref p),some (.int ((rows.length ^ i:Nat):Int)),x]∧Zal H H')
   ⟨none,rfl,Zal.refl _⟩ (fun _ _ _ _ _=>trivial) ?_ ?_⟩
  ·rintro i v σ H' hi ⟨x,rfl,s'⟩
   obtain ⟨hi,rfl⟩:=Za4 hi
   have hpw:rows.length ^ i≤512:=Nat.le_trans (Zf4 gne (by omega)) hc
   refine ⟨_,rfl,_,rfl,p,B,dx,_,_,rfl,s' _ _ h1,TB.cl,TB.nB,Zny _ _ _,k,dxk,_,rfl,s' _ _ hk1,Zg1 _ _,k,rows,rfl,h2.mono s',g,fun l hl=>?_⟩
   refine ⟨l,_,rfl,.inl (SqL.of uS),_,_,rfl,rfl,.inl ⟨by omega,by omega⟩,?_⟩
   refine ⟨some (V.int (0 + (i:Nat))),?_,s'.trans (Zcq hl)⟩
   show [some (V.ref p),some (V.int (((rows.length ^ i:Nat):Int) * ((((rows.map (·.1)).map V.str).length:Nat):Int))),_]=_
   rw [List.length_map,List.length_map,← Int.natCast_mul,← Nat.pow_succ]
  ·rintro σ H' ⟨x,rfl,s'⟩
   rw [Zau]
   refine ⟨_,rfl,_,_,rfl,rfl,_,rfl,?_⟩
   have e:((n:Nat):Int).toNat=n:=rfl
   rw [e,show decide ((512:Int)<((rows.length ^ n:Nat):Int))=false from decide_eq_false (by omega)]
   exact Zht (q H' s')
def Zrn (C B:Addr):Sp:=fun vs H Q _=>∃ (p k:Addr) (rows:List (Str×List Str)) (n:Nat) (ds:List (List Str)),vs=[.ref p]∧Zcp C B H p k rows n ds∧Zek rows∧n≤4∧rows.length ^ n≤512 ∧
 ∀ (lf:Addr) (ys:List V) (H':Hp),H lf=none→Zal H H'→H' lf=some (.lst ys)→Zay H' (Zaj rows n) ys→Q (.ref lf) H'
theorem Z4i:Zap ["self"] ["self"] (Zab Zck):=⟨rfl,rfl,rfl,by decide +kernel,rfl,by decide +kernel,by decide +kernel⟩
theorem Zu6 {f B C fWo fSz fO:Addr}{fd fdWo fdSz fdO:FuncData}(F:Fun K "calls" "Board.calls" Zck f fd) (T:Z2m mg) (TB:Zi8 K B) (TC:Zmz K C) (MW:Zpm K C fWo fdWo) (MS:Z2p K B fSz fdSz) (DO:Def K mg "one_of_each" Zbx ["rows"] fO fdO):Za3 P w K mg base CX0 3 f fd ["self"] (Zrn C B):=by
 have GW:Za3 P w K mg base CX0 1 fWo fdWo ["self"] (Zfr C):=Zf7 MW.fn TC T.list
 have GS:Za3 P w K mg base CX0 2 fSz fdSz ["self"] (Zv6 C B):=Zxp MS.fn T TB TC MW
 have GO:Za3 P w K mg base CX0 1 fO fdO ["rows"] Zlg:=Znh DO
 refine F.ok Z4i (fun vs H Q E h=>?_) (fun cdv A outer s H vs Q E hr h=>?_)
 ·obtain ⟨p,k,rows,n,ds,rfl,_⟩:=h
  rfl
 ·obtain ⟨p,k,rows,n,ds,rfl,bd,g,n4,hc,q⟩:=h
  obtain ⟨dx,ts,us,h1,h2,h3,h4⟩:=bd.ex
  obtain ⟨dxk,dk,ak,ok,oak,kvs,avs,hk1,_⟩:=h2.ex
  have hr1:Zec 1 _:=hr.mono (by decide)
  have gle:=g.le
  have gne:1≤rows.length:=by have:=g.ne;omega
  refine ⟨_,pS (Za9 (Zde (pv 0) TB.cl MS.me GS hr MS.b .nil Ze1)) (Zad (Zat (Zaf DO GO hr1 (pC (Zba Zzw (Zb9 (pC (Zde (Zgi (pv 0) rfl) TC.cl MW.me GW hr1 MW.b .nil Ze1) Zaa)) (Zgi (pv 0) rfl)) Zaa)))),?_⟩
  refine ⟨_,rfl,p,dx,_,rfl,h1,Zvb _ _ _,p,k,rows,n,ds,rfl,bd,g,n4,hc,fun H1 s1=>?_⟩
  refine ⟨_,rfl,p,B,dx,_,_,rfl,s1 _ _ h1,TB.cl,TB.nB,Zny _ _ _,k,dxk,_,rfl,s1 _ _ hk1,Zg1 _ _,k,rows,rfl,h2.mono s1,g,fun l hl=>⟨sL (by show 1≤100000;decide),fun l1 hl1=>?_⟩⟩
  have s2:=s1.trans (Zcq (o:=.lst ((rows.map (·.1)).map V.str)) hl)
  have s3:=s2.trans (Zcq (o:=.lst [.ref l]) hl1)
  refine ⟨_,rfl,p,B,dx,_,_,rfl,s3 _ _ h1,TB.cl,TB.nW,Znx _ _ _,l1,n,_,rfl,rfl,uS,by omega,by omega,sL (by show 1 * _≤100000;omega),fun l2 hl2=>?_⟩
  have hl2':=(Zcq (o:=.lst (List.replicate ((n:Nat):Int).toNat [V.ref l]).flatten) hl2) _ _ ((Zcq (o:=.lst [.ref l]) hl1) _ _ (uS (H:=H1) (a:=l) (o:=.lst ((rows.map (·.1)).map V.str))))
  have s4:=s3.trans (Zcq (o:=.lst (List.replicate ((n:Nat):Int).toNat [V.ref l]).flatten) hl2)
  have fe:∀ m,(List.replicate m [V.ref l]).flatten=List.replicate m (V.ref l):=fun m=>by
   induction m with
   | zero=>rfl
   | succ m ih=>rw [List.replicate_succ,List.flatten_cons,ih,List.replicate_succ];rfl
  have rw_:∀ {H':Hp},H' l=some (.lst ((rows.map (·.1)).map V.str))→∀ m,Z01 H' (List.replicate m (wds rows)) (List.replicate m (V.ref l)):=fun {H'} e m=>by
   induction m with
   | zero=>exact .nil
   | succ m ih=>rw [List.replicate_succ,List.replicate_succ];exact .cons ⟨l,rfl,e⟩ ih
  refine ⟨l2,List.replicate n (wds rows),_,rfl,uS,?_,fun i=>?_,fun ws hws=>?_,by rw [List.length_replicate];omega,fun lf ys H' hlf s' hlf' hD=>q lf ys H' (s4.free hlf) (s4.trans s') hlf' hD⟩
  ·have r:=rw_ hl2' n
   rw [← fe n] at r
   exact r
  ·rw [List.take_replicate]
   have:=Zev rows (min i n)
   unfold Zaj at this
   rw [this]
   exact Nat.le_trans (Nat.le_trans (Zf4 gne (Nat.min_le_right _ _)) hc) (by decide)
  ·rw [List.eq_of_mem_replicate hws,List.length_map]
   omega
end
end K46
namespace K46
open PySem L2 Md
theorem Zr2 (ws:List Str):∀ n,(Zei (List.replicate n ws)).length=ws.length ^ n
 | 0=>rfl
 | n + 1=>by rw [List.replicate_succ',Zdo,Zf9,Zr2 ws n,Nat.pow_succ]
def Zh1:Sp:=fun vs H Q _=>∃ (l:Addr) (ws:List Str) (n:Nat),vs=[.ref l,.int n]∧H l=some (.lst (ws.map V.str))∧1≤ws.length∧ws.length ^ n≤10000∧ws.length≤1000∧n≤100 ∧
 ∀ (lf:Addr) (ys:List V) (H':Hp),H lf=none→Zal H H'→H' lf=some (.lst ys)→Zay H' (Zei (List.replicate n ws)) ys→Q (.ref lf) H'
section
variable {P:Program} {w:World} {K:PySem.W.Frag} {mg:Str→Option Value} {base:Heap}
abbrev nLC:List Str:=["words","places","calls","k","longer","call"]
theorem Z3a:Zap nLC ["words","places"] (Zab Zbq):=⟨rfl,rfl,rfl,by decide +kernel,rfl,by decide +kernel,by decide +kernel⟩
theorem Zso {f:Addr}{fd:FuncData}(F:Def K mg "_law_calls" Zbq ["words","places"] f fd) (range:mg "range"=none):Za3 P w K mg base CX0 1 f fd ["words","places"] Zh1:=by
 refine F.fn.ok Z3a (fun vs H Q E h=>?_) (fun cdv A outer s H vs Q E hr h=>?_)
 ·obtain ⟨l,ws,n,rfl,_⟩:=h
  rfl
 ·obtain ⟨l,ws,n,rfl,hl,h1,hb,hwl,hn,q⟩:=h
  have nd:=Z3a.nd
  refine' ⟨_,(pS (Zag (i:=2) nd rfl (Or.inl rfl) (Zb9 (pC (Zb8 Zaa) Zaa)))
   (pS (Zbw PassesOwn.never rfl (Zb5 (by rfl) range (pC (pv 1) Zaa)) (Zah (i:=3) nd rfl (Or.inl rfl))
    (pS (Zag (i:=4) nd rfl (Or.inl rfl) (Zb9 Zaa))
   (pS (Zbw PassesOwn.never rfl (Zbd (pv 2)) (Zah (i:=5) nd rfl (Or.inr rfl)) (Zad (Za9 (Zej PySem.F.plainAttrs_list PySem.F.slot_list_extend PySem.F.type_list_extend Zma (pv 4) (pC ?ea Zaa)))))
   (Zad (Zag (i:=2) nd rfl (Or.inl rfl) (pv 4))))))
   (Zad (Zat (pv 2))))),?_⟩
  case ea=>exact (Zbr ["word"] ["call"] [5] (fun _=>Za0 (osc:=Zab Zbq) (on:=nLC) (by decide +kernel) rfl rfl rfl) (Zbd (pv 0)) (fun C s H fp=>Zah (i:=0) Z1y rfl (Or.inl rfl) (Or.inr rfl)) (fun C s H fp=>Zbn)
    (fun C s H fp=>Zba (r:=Zpw K) Zkh (pv 1) (Zb8 (pC (pv 0) Zaa))))
  refine ⟨Nat.zero_le _,fun t0 ht0=>⟨sL (by show 1≤100000;decide),fun l0 hl0=>?_⟩⟩
  have s0:Zal H (upd (upd H t0 (.tup [])) l0 (.lst [.ref t0])):=(Zcq ht0).trans (Zcq hl0)
  have l0H:H l0=none:=(Zcq (o:=.tup []) ht0).free hl0
  refine ⟨_,rfl,n,rfl,by omega,by omega,Za6 Zbm (fun i σ H'=>∃ (lf:Addr) (ys:List V) (x1 x2 x3:Option V),σ=[some (.ref l),some (.int n),some (.ref lf),x1,x2,x3]∧Zal H H'∧H lf=none∧H' lf=some (.lst ys)∧Zay H' (Zei (List.replicate i ws)) ys)
   ⟨l0,[.ref t0],none,none,none,rfl,s0,l0H,uS,.cons ⟨t0,rfl,(Zcq hl0) _ _ uS⟩ .nil⟩ (fun _ _ _ _ _=>trivial) ?_ ?_⟩
  ·rintro i v σ H' hi ⟨lf,ys,x1,x2,x3,rfl,s',hlfH,hlf,hD⟩
   obtain ⟨hi,rfl⟩:=Za4 hi
   have hb1:(Zdt (Zei (List.replicate i ws)) ws).length≤10000:=by
    rw [← Zdo,← List.replicate_succ',Zr2]
    exact Nat.le_trans (Nat.pow_le_pow_right h1 (by omega)) hb
   have hyl:=hD.len
   refine ⟨Nat.zero_le _,fun ln hln=>?_⟩
   have s1:Zal H' (upd H' ln (.lst [])):=Zcq hln
   have lnH:H ln=none:=s'.free hln
   refine ⟨_,rfl,lf,rfl,⟨_,SqL.of (s1 _ _ hlf)⟩,Za6 (Zav (xs:=ys)) (fun j σ H2=>∃ (zs:List V) (x1' x3:Option V),σ=[some (.ref l),some (.int n),some (.ref lf),x1',some (.ref ln),x3]∧Zal H' H2∧H2 ln=some (.lst zs)∧Zay H2 (Zdt ((Zei (List.replicate i ws)).take j) ws) zs)
    ⟨[],_,x3,rfl,s1,uS,by rw [List.take_zero];exact .nil⟩ (fun j σ H2 _ ⟨_,_,_,_,s2,_⟩=>SqL.of (s2 _ _ hlf)) ?_ ?_⟩
   ·rintro j v σ H2 hj ⟨zs,x1',x3',rfl,s2,hlnz,hZ⟩
    obtain ⟨c,hc,tc,rfl,htc⟩:=Zam hD hj
    have s02:=s'.trans s2
    have hrw2:=s02 _ _ hl
    refine ⟨_,rfl,.inl ⟨rfl,_,SqL.of hlnz⟩,_,rfl,l,rfl,⟨_,SqL.of hrw2⟩,Zdf (Zav (xs:=ws.map V.str)) (sL (by rw [List.length_map];omega)) (fun _=>true) (fun D x v H=>Zyt c x v H∧∀ t,v=.ref t→t≠D) (fun D x v Ha Hb k h=>?_) (fun H' s'=>s'.seq (SqL.of hrw2)) ?_ ?_ ?_⟩
    ·obtain ⟨⟨t,z,e1,e2,e3⟩,ne⟩:=h
     exact ⟨⟨t,z,e1,e2,k _ _ (ne t e2) e3⟩,ne⟩
    ·intro x H3 R _ _ hR'
     exact hR' H3 (Zal.refl _)
    ·intro D x H3 R s3 hDx hDn hx _ hR'
     obtain ⟨z,hz,rfl⟩:=List.mem_map.mp hx
     obtain ⟨ys',hys'⟩:=hDx
     have htc3:=s3 _ _ (s2 _ _ htc)
     refine ⟨_,rfl,_,rfl,sL (by show 1≤100000;decide),fun t1 ht1=>?_⟩
     have s4:Zal H3 (upd H3 t1 (.tup [.str z])):=Zcq ht1
     have t1D:t1≠D:=Ne.symm (nNo hys' ht1)
     have cl:c.length≤1000:=by
      have:=Zke (List.mem_of_getElem? hc)
      rw [List.length_replicate] at this
      omega
     refine ⟨tc,t1,_,_,rfl,rfl,SqT.of (s4 _ _ htc3),SqT.of uS,sL (by rw [List.length_map];show c.length + 1≤100000;omega),fun e=>?_,(fun _ e=>nomatch e),fun _ _ t2 ht2=>?_⟩
     ·have e0:c=[]:=by cases c with | nil=>rfl | cons a r=>cases e
      subst e0
      exact hR' _ _ s4 ⟨⟨t1,z,rfl,rfl,uS⟩,fun t e=>by injection e with e;rw [← e];exact t1D⟩
     ·have t2D:t2≠D:=Ne.symm (nNo (s4 _ _ hys') ht2)
      exact hR' _ _ (s4.trans (Zcq ht2)) ⟨⟨t2,z,rfl,rfl,by rw [uS,List.map_append];rfl⟩,fun t e=>by injection e with e;rw [← e];exact t2D⟩
    ·intro D H3 vs3 hD3 s3 hl3 hp3
     rw [List.filter_eq_self.mpr (fun _ _=>rfl)] at hp3
     have hC:=Zk6 (Paired.mapP hp3 fun _ _ z=>z.1)
     have hlnz3:=s3 _ _ hlnz
     have zl:=hZ.len
     have vl:=hC.len
     rw [List.length_map] at vl
     have hj':j<(Zei (List.replicate i ws)).length:=(List.getElem?_eq_some_iff.mp hc).1
     have lz:(Zdt ((Zei (List.replicate i ws)).take j) ws).length + ws.length≤10000:=by
      rw [Zf9] at hb1 ⊢
      rw [List.length_take,Nat.min_eq_left (by omega)]
      refine Nat.le_trans ?_ hb1
      rw [← Nat.succ_mul]
      exact Nat.mul_le_mul_right _ hj'
     refine ⟨ln,D,_,_,rfl,rfl,hlnz3,hl3,sL (by omega),zs++vs3,_,_,rfl,fun b o e=>by rw [Zac (nNo e hln)];exact s3 _ _ (s2 _ _ e),uS,?_⟩
     rw [Zix _ _ hc]
     have kp:∀ b o,b≠ln→H3 b=some o→(upd H3 ln (.lst (zs++vs3))) b=some o:=fun b o hb e=>by rw [Zac hb];exact e
     have dk:∀ {ds:List (List Str)} {us:List V},Zay H3 ds us→Zay (upd H3 ln (.lst (zs++vs3))) ds us:=fun h=>Paired.mapP h fun _ _ ⟨t,e,x⟩=>⟨t,e,kp _ _ (fun z=>by rw [z,hlnz3] at x;cases x) x⟩
     exact (dk (hZ.mono s3)).append (dk hC)
   ·rintro σ H2 ⟨zs,x1',x3',rfl,s2,hlnz,hZ⟩
    have el:(Zei (List.replicate i ws)).take ys.length=Zei (List.replicate i ws):=by rw [← hyl,List.take_length]
    rw [el] at hZ
    refine ⟨_,rfl,ln,zs,_,_,_,rfl,s'.trans s2,lnH,hlnz,?_⟩
    rw [List.replicate_succ',Zdo]
    exact hZ
  ·rintro σ H' ⟨lf,ys,x1,x2,x3,rfl,s',hlfH,hlf,hD⟩
   rw [Zau] at hD
   exact ⟨_,rfl,q lf ys H' hlfH s' hlf hD⟩
end
end K46
namespace K46
open PySem L2 Md
def Zjl:Sp:=fun vs H Q _=>∃ (aa ld t:Addr) (n:Nat) (rows:List (Str×List Str)) (avs:List (Key×V)) (ds:List (List Str)) (us:List V) (xs:List Str),vs=[.ref aa,.ref ld,.ref t]∧Zek rows∧H aa=some (.dK avs)∧Zdd H rows rows avs∧H ld=some (.lst us)∧Zay H ds us∧Zbk rows n ds∧H t=some (.tup (xs.map V.str))∧Zbj rows n xs∧n≤4 ∧
 ∀ l H',H l=none→Zal H H'→H' l=some (.lst ((Zl9 rows ds xs).map Zff))→Q (.ref l) H'
noncomputable def Zsh (rows:List (Str×List Str)) (ds:List (List Str)) (k:Nat):V→V
 | .int j=>.bl (!decide (j.toNat=k)&&wB rows ds j.toNat k)
 | _=>.non
theorem Zpy (rows:List (Str×List Str)) (ds:List (List Str)) (k:Nat) (fs:List Nat):((fs.map Zff).filter fun _=>true).map (Zsh rows ds k)=(fs.map fun j=>!decide (j=k)&&wB rows ds j k).map V.bl:=by
 rw [List.filter_eq_self.mpr (fun _ _=>rfl),List.map_map,List.map_map]
 rfl
theorem Zxy:(["k","above","call","deeds"]:List Str).Nodup:=by decide +kernel
theorem Zxz:(["j","k","above","deeds"]:List Str).Nodup:=by decide +kernel
structure Z5f (mg:Str→Option Value):Prop where
 len:mg "len"=none
 range:mg "range"=none
 any:mg "any"=none
section
variable {P:Program} {w:World} {K:PySem.W.Frag} {mg:Str→Option Value} {base:Heap}
abbrev nLN:List Str:=["above","deeds","call","fits","found","k"]
theorem Z29:Zap nLN ["above","deeds","call"] (Zab Zbg):=⟨rfl,rfl,rfl,by decide +kernel,rfl,by decide +kernel,by decide +kernel⟩
theorem Zni {f fLW:Addr}{fd fdLW:FuncData}(F:Def K mg "_law_nearest" Zbg ["above","deeds","call"] f fd) (T:Z5f mg) (DLW:Def K mg "_law_within" Zby nLW fLW fdLW) (GLW:Za3 P w K mg base CX0 1 fLW fdLW nLW Zlj):
  Za3 P w K mg base CX0 2 f fd ["above","deeds","call"] Zjl:=by
 refine F.fn.ok Z29 (fun vs H Q E h=>?_) (fun cdv A outer s H vs Q E hr h=>?_)
 ·obtain ⟨aa,ld,t,n,rows,avs,ds,us,xs,rfl,_⟩:=h
  rfl
 ·obtain ⟨aa,ld,t,n,rows,avs,ds,us,xs,rfl,g,haa,hA,hld,hD,gd,ht,gc,hn,q⟩:=h
  have nd:=Z29.nd
  have hul:=hD.length
  have few:=gd.few
  refine' ⟨_,(pS (?e1)
   (pS (Zag (i:=4) nd rfl (Or.inl rfl) (Zb9 Zaa))
   (pS (Zbw PassesOwn.never rfl (Zbd (pv 3)) (Zah (i:=5) nd rfl (Or.inr rfl)) (Zad (Zbe (Zef (Zfl (Zan (Zpi rfl) (by rfl) T.any PyProof.Rows.boot_any (pC ?e2 Zaa)))) (Zad (Za9 (Zej PySem.F.plainAttrs_list PySem.F.slot_list_append PySem.F.type_list_append Zb6 (pv 4) (pC (pv 5) Zaa)))) Zas)))
   (Zad (Zat (pv 4)))))),?_⟩
  case e1=>exact (Zel (k:=3) ["k"] ["above","call","deeds"] [0,2,1] nd rfl rfl (fun _=>Za0 (osc:=Zab Zbg) (on:=nLN) (by decide +kernel) rfl rfl rfl) (Zb5 (by rfl) T.range (pC (Zan Zak (by rfl) T.len PySem.boot_len (pC (pv 1) Zaa)) Zaa)) (fun C s H fp=>Zah (i:=0) Zxy rfl (Or.inl rfl) (Or.inr rfl))
    (fun C s H fp=>Zhh (Zfl (Zaf DLW GLW hr (pC (pv 1) (pC (pv 2) (pC (Za5 (r:=Zfd K) Zar (pv 3) (pv 0) (fun _ _=>rfl)) Zaa)))))) (fun C s H fp=>pv 0))
  case e2=>exact (Zbr ["j"] ["k","above","deeds"] [5,0,1] (fun _=>Za0 (osc:=Zab Zbg) (on:=nLN) (by decide +kernel) rfl rfl rfl) (Zbd (pv 3)) (fun C s H fp=>Zah (i:=0) Zxz rfl (Or.inl rfl) (Or.inr rfl)) (fun C s H fp=>Zbn)
    (fun C s H fp=>Zse (Zft Zpz (pv 0) (pv 1) (Zaz _)) (Zsc (Zaf DLW GLW hr (pC (pv 2) (pC (Za5 (r:=Zfd K) Zar (pv 3) (pv 0) (fun _ _=>rfl)) (pC (Za5 (r:=Zfd K) Zar (pv 3) (pv 1) (fun _ _=>rfl)) Zaa)))))))
  refine ⟨_,rfl,ld,_,rfl,.inl (SqL.of hld),_,rfl,by omega,by omega,Zgd Zbm (by rw [Zau];exact sL (by omega)) (Z2f rows ds xs) (fun v=>v) (fun _ _=>trivial) ?_ ?_ ?_⟩
  ·intro x H' R s' hx hR
   obtain ⟨j,hj⟩:=List.getElem?_of_mem hx
   obtain ⟨hj,rfl⟩:=Za4 hj
   have hj:j<ds.length:=by omega
   obtain ⟨tq,a1,htq⟩:=Zk4 hD s' hj
   refine ⟨_,rfl,_,rfl,_,rfl,_,rfl,ld,_,_,_,rfl,rfl,SqL.of (s' _ _ hld),(by rw [Int.zero_add];exact a1),aa,t,tq,rows,avs,xs,_,rfl,g,s' _ _ haa,hA.mono fun b xs e=>s' _ _ e,s' _ _ ht,htq,gc.known,by have:=gc.len;omega,fun H'' s''=>⟨_,rfl,?_⟩⟩
   have e:Z2f rows ds xs (V.int (0 + (j:Nat)))=Zbt rows xs (ds.getD j []):=by
    show Zbt rows xs (ds.getD ((0:Int) + (j:Nat)).toNat [])=_
    rw [Int.zero_add,Int.toNat_natCast]
   rw [← e]
   exact hR H'' s''
  ·intro x H' R s' hx _ hR
   exact ⟨_,rfl,hR H' (Zal.refl _)⟩
  ·intro lf H1 hlf s1 hf1
   rw [show ((us.length:Nat):Int).toNat=ds.length by omega,Zyh] at hf1
   have fl:=Zpc rows ds xs
   refine ⟨Nat.zero_le _,fun lo hlo=>?_⟩
   have s2:Zal H (upd H1 lo (.lst [])):=s1.trans (Zcq hlo)
   have loH:H lo=none:=s1.free hlo
   have lflo:lf≠lo:=nNo hf1 hlo
   refine ⟨_,rfl,lf,rfl,⟨_,SqL.of ((Zcq hlo) _ _ hf1)⟩,Za6 (Zav (xs:=(Zk1 rows ds xs).map Zff)) (fun i σ H'=>∃ x:Option V,σ=[some (.ref aa),some (.ref ld),some (.ref t),some (.ref lf),some (.ref lo),x]∧Zal H H'∧H' lf=some (.lst ((Zk1 rows ds xs).map Zff))∧H' lo=some (.lst ((((Zk1 rows ds xs).take i).filter fun k=>!((Zk1 rows ds xs).any fun j=>!decide (j=k)&&wB rows ds j k)).map Zff)))
    ⟨none,rfl,s2,(Zcq hlo) _ _ hf1,by rw [uS];simp⟩ (fun i σ H' _ ⟨_,_,_,h',_⟩=>SqL.of h') ?_ ?_⟩
   ·rintro i v σ H' hi ⟨x0,rfl,s',hf',ho'⟩
    obtain ⟨k,hk,rfl⟩:=Zs1 hi
    have hkl:=Znz k (List.mem_of_getElem? hk)
    refine ⟨_,rfl,lf,rfl,⟨_,SqL.of hf'⟩,Zgd (Zav (xs:=(Zk1 rows ds xs).map Zff)) (sL (by rw [List.length_map];omega)) (fun _=>true) (Zsh rows ds k) (fun H' s'=>s'.seq (SqL.of hf')) ?_ ?_ ?_⟩
    ·intro v H2 R s2' _ hR
     exact hR H2 (Zal.refl _)
    ·intro v H2 R s2' hv _ hR
     obtain ⟨j,hj,rfl⟩:=List.mem_map.mp hv
     have hjl:=Znz j hj
     have e:decide (Zff j=V.int (k:Nat))=decide (j=k):=decide_eq_decide.mpr ⟨fun z=>by unfold Zff at z;injection z with z;omega,fun z=>by rw [z];rfl⟩
     have eo:Zsh rows ds k (Zff j)=.bl (!decide (j=k)&&wB rows ds j k):=rfl
     rw [eo] at hR
     refine ⟨_,rfl,_,rfl,rfl,_,rfl,?_⟩
     rw [e]
     refine Zdu (fun h=>?_) (fun h=>?_)
     ·have s3:=s'.trans s2'
      obtain ⟨t1,a1,h1⟩:=Zk4 hD s3 hjl
      obtain ⟨t2,a2,h2⟩:=Zk4 hD s3 hkl
      rw [h,Bool.true_and] at hR
      exact ⟨_,rfl,_,rfl,_,rfl,ld,_,_,_,rfl,rfl,SqL.of (s3 _ _ hld),a1,_,rfl,_,rfl,ld,_,_,_,rfl,rfl,SqL.of (s3 _ _ hld),a2,aa,t1,t2,rows,avs,_,_,rfl,g,s3 _ _ haa,hA.mono fun b xs e=>s3 _ _ e,h1,h2,Zqm gd hjl,by have:=Zvv gd hjl;omega,fun H'' s''=>hR H'' s''⟩
     ·rw [show (!decide (j=k))=false by simpa using h,Bool.false_and] at hR
      exact hR H2 (Zal.refl _)
    ·intro D H2 hD0 s2' hl2
     rw [Zpy] at hl2
     have eA:((Zk1 rows ds xs).map fun j=>!decide (j=k)&&wB rows ds j k).any id=(Zk1 rows ds xs).any fun j=>!decide (j=k)&&wB rows ds j k:=by rw [List.any_map];rfl
     refine ⟨D,_,rfl,SqL.of hl2,_,congrArg V.bl eA,?_⟩
     have s3:=s'.trans s2'
     have hlo2:=s2' _ _ ho'
     have tk:=Zen (fun k=>!((Zk1 rows ds xs).any fun j=>!decide (j=k)&&wB rows ds j k)) (Zk1 rows ds xs) i k hk
     refine Zdu (fun h=>?_) (fun h=>?_)
     ·refine ⟨_,rfl,.inl ⟨rfl,_,SqL.of hlo2⟩,_,rfl,lo,_,_,rfl,rfl,hlo2,Za2 (by rw [List.length_map];exact Nat.le_trans (List.length_filter_le _ _) (by rw [List.length_take];omega)),_,rfl,fun b o e=>by rw [Zac (nNo e loH)];exact s3 _ _ e,by rw [Zac lflo];exact s2' _ _ hf',?_⟩
      rw [uS,tk,h,if_pos rfl,List.map_append]
      rfl
     ·refine ⟨_,rfl,s3,s2' _ _ hf',?_⟩
      rw [hlo2,tk,if_neg h,List.append_nil]
   ·rintro σ H' ⟨x0,rfl,s',hf',ho'⟩
    rw [List.length_map,List.take_length] at ho'
    exact ⟨_,rfl,q lo H' loH s' ho'⟩
end
end K46
namespace K46
open PySem L2 Md
theorem Zay.keep {H H':Hp}{p:Addr}{zs:List V}{ds:List (List Str)}{us:List V}(h:Zay H ds us) (hp:H p=some (.lst zs)) (s:∀ b o,b≠p→H b=some o→H' b=some o):Zay H' ds us :=
 Paired.mapP h fun _ _ ⟨t,e,x⟩=>⟨t,e,s _ _ (fun z=>by rw [z,hp] at x;cases x) x⟩
theorem Zcp.keep {C B:Addr}{H H':Hp}{p k q:Addr}{zs:List V}{rows:List (Str×List Str)}{n:Nat}{ds:List (List Str)}(h:Zcp C B H p k rows n ds) (hq:H q=some (.lst zs)) (s:∀ b o,b≠q→H b=some o→H' b=some o):Zcp C B H' p k rows n ds:=by
 obtain ⟨dx,t,us,h1,h2,h3,h4⟩:=h.ex
 have nk:k≠q:=by
  intro z
  obtain ⟨_,_,_,_,_,_,_,e,_⟩:=h2.ex
  rw [z,hq] at e
  cases e
 exact ⟨dx,t,us,s _ _ (fun z=>by rw [z,hq] at h1;cases h1) h1,Zjx h2 hq s nk (fun _ _ z=>by cases z) (fun _ z=>by cases z),s _ _ (fun z=>by rw [z,hq] at h3;cases h3) h3,h4.keep hq s⟩
theorem Zrb {c d:List Str}(h:c.map V.str=d.map V.str):c=d:=List.map_inj_right (fun a b z=>by injection z) |>.mp h
theorem Zvc {K:PySem.W.Frag}{C:Addr}{Hx:Hp}{xb dx l:Addr}{rows:List (Str×List Str)}{R:Hp→Prop}{E:XK}(nx:Hx xb=none) (ndx:Hx dx=none) (hR:Ze0 Hx l rows) (g:Zek rows) (h:∀ H',Zal Hx H'→Zco C H' xb rows→R H'):
  Zrj K C [.ref xb,.ref l] (upd (upd Hx dx (.own xb)) xb (.ins C dx [])) (fun v H3=>v=.non∧R H3) E:=by
 have s34:Zal Hx (upd (upd Hx dx (.own xb)) xb (.ins C dx [])):=fun b o e=>by
  have e1:(upd Hx dx (.own xb)) b=some o:=by rw [Zac (nNo e ndx)];exact e
  rw [Zac (nNo e nx)];exact e1
 exact ⟨xb,dx,l,rows,rfl,uS,(Ze0.g (Zeo hR s34)),g,fun H4 kd keep=>⟨rfl,h H4 (fun b o e=>keep b o (nNo e nx) (s34 _ _ e)) kd⟩⟩
theorem Zvd {K:PySem.W.Frag}{C B:Addr}{Hx:Hp}{xb yb dy lz:Addr}{n:Nat}{rows:List (Str×List Str)}{ds:List (List Str)}{us:List V}{R:Hp→Prop}{E:XK}(ny:Hx yb=none) (ndy:Hx dy=none) (kd:Zco C Hx xb rows) (g:Zek rows) (hz:Hx lz=some (.lst us)∨Hx lz=some (.tup us)) (hD:Zay Hx ds us) (gd:Zbk rows n ds) (n1:1≤n) (n4:n≤4) (h:∀ H',Zal Hx H'→Zcp C B H' yb xb rows n ds→R H'):
  Zm7 K C B [.ref yb,.ref xb,.int n,.ref lz] (upd (upd Hx dy (.own yb)) yb (.ins B dy [])) (fun v H3=>v=.non∧R H3) E:=by
 have s34:Zal Hx (upd (upd Hx dy (.own yb)) yb (.ins B dy [])):=fun b o e=>by
  have e1:(upd Hx dy (.own yb)) b=some o:=by rw [Zac (nNo e ndy)];exact e
  rw [Zac (nNo e ny)];exact e1
 exact ⟨yb,dy,xb,lz,n,rows,ds,us,rfl,uS,kd.mono s34,g,hz.elim (fun e=>.inl (SqL.of (s34 _ _ e))) (fun e=>.inr (s34 _ _ e)),hD.mono s34,gd,n1,n4,fun H5 bd keep5=>⟨rfl,h H5 (fun b o e=>keep5 b o (nNo e ny) (s34 _ _ e)) bd⟩⟩
end K46
namespace K46
open PySem L2 Md
theorem Zmd {cs:List (List Str)}{ws:List Str} (h1:cs.Nodup) (h2:ws.Nodup):(Zdt cs ws).Nodup:=by
 unfold Zdt
 refine List.pairwise_flatMap.mpr ⟨fun c _=>?_,?_⟩
 ·refine List.pairwise_map.mpr (h2.imp fun ne z=>ne ?_)
  have:=List.append_cancel_left z
  injection this
 ·refine h1.imp fun {c d} ne x hx y hy z=>ne ?_
  obtain ⟨x1,_,rfl⟩:=List.mem_map.mp hx
  obtain ⟨y1,_,rfl⟩:=List.mem_map.mp hy
  have:=congrArg List.dropLast z
  rwa [List.dropLast_concat,List.dropLast_concat] at this
theorem Zhc {rows:List (Str×List Str)}(g:(wds rows).Nodup):∀ n,(Zaj rows n).Nodup
 | 0=>by show ([[]]:List (List Str)).Nodup;simp
 | n + 1=>by
  unfold Zaj
  rw [List.replicate_succ',Zdo]
  exact Zmd (Zhc g n) g
abbrev Ze3 (H:Hp) (rows:List (Str×List Str)) (ds:List (List Str)) (cs:List (List Str)) (kvs:List (List Key×V)):Prop :=
 Paired (fun c (p:List Key×V)=>p.1=Zfo c∧∃ t,p.2=.ref t∧H t=some (.tup (Zm6 (Zl9 rows ds c)))) cs kvs
theorem Ze3.keep {H H':Hp}{rows:List (Str×List Str)}{ds cs:List (List Str)}{kvs:List (List Key×V)}(h:Ze3 H rows ds cs kvs) (k:∀ b xs,H b=some (.tup xs)→H' b=some (.tup xs)):Ze3 H' rows ds cs kvs :=
 Paired.mapP h fun _ _ ⟨e,t,e2,x⟩=>⟨e,t,e2,k _ _ x⟩
theorem Ze3.keys {H:Hp}{rows:List (Str×List Str)}{ds:List (List Str)}:∀ {cs:List (List Str)}{kvs:List (List Key×V)},Ze3 H rows ds cs kvs→kvs.map (·.1)=cs.map Zfo
 | _,_,.nil=>rfl
 | _,_,.cons r t=>by rw [List.map_cons,List.map_cons,r.1,Ze3.keys t]
theorem Zsy (k t:Addr) (n:Nat):(Zge k t n).lookup ("calls":Str)=none:=Zg7 k t n (by decide +kernel) (by decide +kernel) (by decide +kernel)
abbrev Zyr (K:PySem.W.Frag) (B f:Addr) (fd:FuncData):Prop:=Zjg K B "calls" "Board.calls" Zck ["self"] f fd
end K46
namespace K46
open PySem L2 Md
def Zln (C B:Addr):Sp:=fun vs H Q _=>∃ (p k:Addr) (rows:List (Str×List Str)) (n:Nat) (ds:List (List Str)),vs=[.ref p]∧Zcp C B H p k rows n ds∧Zek rows∧Zbk rows n ds∧n≤4∧rows.length ^ n≤512 ∧
 ∀ d kvs H',H d=none→Zal H H'→H' d=some (.dT kvs)→Ze3 H' rows ds (Zaj rows n) kvs→Q (.ref d) H'
section
variable {P:Program} {w:World} {K:PySem.W.Frag} {mg:Str→Option Value} {base:Heap}
abbrev nAT:List Str:=["board","answers","call"]
theorem Z3l:Zap nAT ["board"] (Zab Zdm):=⟨rfl,rfl,rfl,by decide +kernel,rfl,by decide +kernel,by decide +kernel⟩
theorem Znj {f C B fCa fTd:Addr}{fd fdCa fdTd:FuncData}(F:Def K mg "all_told" Zdm ["board"] f fd) (TB:Zi8 K B) (MCa:Zyr K B fCa fdCa) (GCa:Za3 P w K mg base CX0 3 fCa fdCa ["self"] (Zrn C B))
  (DTd:Def K mg "told" Zhp ["board","call"] fTd fdTd) (GTd:Za3 P w K mg base CX0 8 fTd fdTd ["board","call"] (Zv4 C B)):Za3 P w K mg base CX0 9 f fd ["board"] (Zln C B):=by
 refine F.fn.ok Z3l (fun vs H Q E h=>?_) (fun cdv A outer s H vs Q E hr h=>?_)
 ·obtain ⟨p,k,rows,n,ds,rfl,_⟩:=h
  rfl
 ·obtain ⟨p,k,rows,n,ds,rfl,bd,g,gd,n4,hc,q⟩:=h
  obtain ⟨dx,ts,us,h1,h2,h3,h4⟩:=bd.ex
  have nd:=Z3l.nd
  have hu:=Zfw hr
  have hr3:Zec 3 _:=hr.mono (by decide)
  have nda:(Zaj rows n).Nodup:=Zhc g.nd n
  have al:=Zev rows n
  refine ⟨_,pS (Zag (i:=1) nd rfl (Or.inl rfl) Zh5)
   (pS (Zbw PassesOwn.never rfl (Zbd (Zde (pv 0) TB.cl MCa.me GCa hr3 MCa.b .nil Ze1)) (Zah (i:=2) nd rfl (Or.inl rfl)) (Zad (Zeq hu (pv 1) (pv 2) (Zaf DTd GTd hr (pC (pv 0) (pC (pv 2) Zaa))) rfl)))
   (Zad (Zat (pv 1)))),?_⟩
  intro d hd
  have s0:Zal H (upd H d (.dT [])):=Zcq hd
  refine ⟨_,rfl,p,dx,_,rfl,s0 _ _ h1,Zsy _ _ _,p,k,rows,n,ds,rfl,bd.mono s0,g,n4,hc,fun lf ys H1 hlf s1 hys hD=>?_⟩
  have s01:=s0.trans s1
  have hd1:H1 d=some (.dT []):=s1 _ _ uS
  refine ⟨lf,rfl,⟨_,SqL.of hys⟩,Za6 (Zav (xs:=ys)) (fun i σ H'=>∃ (kvs:List (List Key×V)) (x:Option V),σ=[some (.ref p),some (.ref d),x]∧Zal H H'∧(∀ b o,b≠d→H1 b=some o→H' b=some o)∧H' d=some (.dT kvs)∧Ze3 H' rows ds ((Zaj rows n).take i) kvs)
   ⟨[],none,rfl,s01,fun _ _ _ e=>e,hd1,by rw [List.take_zero];exact .nil⟩ (fun i σ H' _ ⟨_,_,_,_,k1,_⟩=>SqL.of (k1 _ _ (Ne.symm (nNo (uS (H:=H) (a:=d) (o:=.dT [])) hlf)) hys)) ?_ ?_⟩
  ·rintro i v σ H' hi ⟨kvs,x,rfl,s',k1,hd',hT⟩
   obtain ⟨c,hcc,t,rfl,ht⟩:=Zam hD hi
   have gc:Zbj rows n c:=Zfk c (List.mem_of_getElem? hcc)
   have ht':H' t=some (.tup (c.map V.str)):=k1 _ _ (fun z=>by rw [z,hd1] at ht;cases ht) ht
   refine ⟨_,rfl,_,rfl,p,k,t,rows,n,ds,c,rfl,bd.mono s',g,gd,n4,ht',gc,fun tt H2 htt s2 h2=>?_⟩
   have hd2:=s2 _ _ hd'
   have ht2:H2 t=some (.tup ((Zfo c).map kV)):=by rw [Zd7];exact s2 _ _ ht'
   have hnew:Zfo c∉kvs.map (·.1):=by rw [hT.keys];exact Zf3 nda hcc
   have kl:kvs.length≤512:=by
    have:=congrArg List.length hT.keys
    rw [List.length_map,List.length_map,List.length_take] at this
    omega
   refine ⟨_,rfl,_,rfl,d,_,rfl,Zla.t (k:=Zfo c) hd2 ht2 (Za2 (by omega)),?_⟩
   refine ⟨_,_,rfl,fun b o e=>?_,fun b o hb e=>?_,uS,?_⟩
   ·rw [Zac (nNo e hd)];exact s2 _ _ (s' _ _ e)
   ·rw [Zac hb];exact s2 _ _ (k1 b o hb e)
   ·rw [Zeh _ (Ze4 hnew),List.take_add_one,hcc]
    have kp:∀ b xs,H2 b=some (.tup xs)→(upd H2 d (.dT (kvs++[(Zfo c,.ref tt)]))) b=some (.tup xs):=fun b xs e=>by
     rw [Zac]
     ·exact e
     ·rintro rfl;rw [hd2] at e;cases e
    exact Paired.snoc ((Ze3.keep hT fun b xs e=>s2 _ _ e).keep kp) ⟨rfl,tt,rfl,kp _ _ h2⟩
  ·rintro σ H' ⟨kvs,x,rfl,s',k1,hd',hT⟩
   have yl:ys.length=(Zaj rows n).length:=hD.length.symm
   rw [yl,List.take_length] at hT
   exact ⟨_,rfl,q d kvs H' hd s' hd' hT⟩
end
end K46
namespace K46
open PySem L2 Md
def Zri:Sp:=fun vs H Q _=>∃ (aa ld t:Addr) (n:Nat) (rows:List (Str×List Str)) (avs:List (Key×V)) (ds:List (List Str)) (us:List V) (xs:List Str),vs=[.ref aa,.ref ld,.ref t]∧Zek rows∧H aa=some (.dK avs)∧Zdd H rows rows avs∧H ld=some (.lst us)∧Zay H ds us∧Zbk rows n ds∧H t=some (.tup (xs.map V.str))∧Zbj rows n xs∧n≤4 ∧
 ∀ l H',H l=none→Zal H H'→H' l=some (.tup (Zm6 (Zl9 rows ds xs)))→Q (.ref l) H'
def Zom:Sp:=fun vs H Q _=>∃ (l aa ld:Addr) (n:Nat) (rows:List (Str×List Str)) (avs:List (Key×V)) (ds:List (List Str)) (us:List V),vs=[.ref l,.ref aa,.int n,.ref ld]∧Ze0 H l rows∧Zek rows∧H aa=some (.dK avs)∧Zdd H rows rows avs∧H ld=some (.lst us)∧Zay H ds us∧Zbk rows n ds∧n≤4∧rows.length ^ n≤512 ∧
 ∀ d kvs H',H d=none→Zal H H'→H' d=some (.dT kvs)→Ze3 H' rows ds (Zaj rows n) kvs→Q (.ref d) H'
section
variable {H H':Hp} {p:Addr} {o:HO} (hp:H p=some o) (ho:Zm1 o) (k:∀ b o,b≠p→H b=some o→H' b=some o)
include hp ho k
theorem Znc {t:Addr}{xs:List V}(h:H t=some (.tup xs)):H' t=some (.tup xs):=k _ _ (fun z=>by rw [z,hp] at h;obtain ⟨_,_,q,_⟩:=ho;rw [q] at h;cases h) h
theorem Zup {l:Addr}{rows:List (Str×List Str)}(h:Ze0 H l rows) (lp:l≠p):Ze0 H' l rows:=by
 obtain ⟨vs,a,pr⟩:=h
 exact ⟨vs,k _ _ lp a,Paired.mapP pr fun r v ⟨t,u,e,h1,h2⟩=>⟨t,u,e,Znc hp ho k h1,Znc hp ho k h2⟩⟩
theorem Zr6 {rows all:List (Str×List Str)}{avs:List (Key×V)}(h:Zdd H all rows avs):Zdd H' all rows avs :=
 Paired.mapP h fun r p ⟨e,t,fs,e2,ht,al,le⟩=>⟨e,t,fs,e2,k _ _ (Ne.symm (Zov hp ho ht)) ht,al,le⟩
theorem Zkf {rows:List (Str×List Str)}{ds cs:List (List Str)}{kvs:List (List Key×V)}(h:Ze3 H rows ds cs kvs):Ze3 H' rows ds cs kvs:=h.keep fun b xs e=>Znc hp ho k e
theorem Zlt {C B y x:Addr}{rows:List (Str×List Str)}{n:Nat}{ds:List (List Str)}(h:Zcp C B H y x rows n ds):Zcp C B H' y x rows n ds:=by
 obtain ⟨r,b,e,_⟩:=ho
 rw [e] at hp
 exact h.keep hp k
end
section
variable {P:Program} {w:World} {K:PySem.W.Frag} {mg:Str→Option Value} {base:Heap}
abbrev Z4z:List Str:=["above","deeds","call","near"]
theorem Zzm:Zap Z4z ["above","deeds","call"] (Zab Zda):=⟨rfl,rfl,rfl,by decide +kernel,rfl,by decide +kernel,by decide +kernel⟩
theorem Zu1 {f fLN:Addr}{fd fdLN:FuncData}(F:Def K mg "_law_told" Zda ["above","deeds","call"] f fd) (len:mg "len"=none)
  (DLN:Def K mg "_law_nearest" Zbg ["above","deeds","call"] fLN fdLN) (GLN:Za3 P w K mg base CX0 2 fLN fdLN ["above","deeds","call"] Zjl):Za3 P w K mg base CX0 3 f fd ["above","deeds","call"] Zri:=by
 refine F.fn.ok Zzm (fun vs H Q E h=>?_) (fun cdv A outer s H vs Q E hr h=>?_)
 ·obtain ⟨aa,ld,t,n,rows,avs,ds,us,xs,rfl,_⟩:=h
  rfl
 ·obtain ⟨aa,ld,t,n,rows,avs,ds,us,xs,rfl,g,haa,hA,hld,hD,gd,ht,gc,n4,q⟩:=h
  have nd:=Zzm.nd
  have hu:=hr.units
  refine' ⟨_,(pS (Zag (i:=3) nd rfl (Or.inl rfl) (Zaf DLN GLN hr (pC (pv 0) (pC (pv 1) (pC (pv 2) Zaa)))))
   (pS (Zbe (Zaq (Zsj hu) (pv 3) (Zb9 Zaa) (Zaz _)) (Zad (Zat (Zb8 (pC Zey Zaa)))) Zas)
   (pS (Zbe (Zaq Zd1 (Zan Zak (by rfl) len PySem.boot_len (pC (pv 3) Zaa)) Zae (Zaz _)) (Zad (Zat (Zb8 (pC Zey (pC (Za5 Zar (pv 3) Zae (fun _ _=>rfl)) Zaa))))) Zas)
   (Zad (Zat (Zb8 (pC Zey (pC (Za5 Zar (pv 3) Zae (fun _ _=>rfl)) (pC (Za5 Zar (pv 3) Zae (fun _ _=>rfl)) Zaa))))))))),?_⟩
  refine ⟨_,rfl,_,rfl,_,rfl,aa,ld,t,n,rows,avs,ds,us,xs,rfl,g,haa,hA,hld,hD,gd,ht,gc,n4,fun l H1 hl0 s1 hl=>?_⟩
  generalize Zl9 rows ds xs=near at hl q
  refine ⟨_,rfl,Nat.zero_le _,fun l0 hl0'=>?_⟩
  have s2:Zal H1 (upd H1 l0 (.lst [])):=Zcq hl0'
  have h00:(upd H1 l0 (.lst [])) l0=some (.lst []):=uS
  generalize upd H1 l0 (.lst [])=H2 at s2 h00
  have s3:=s1.trans s2
  have hl:=s2 _ _ hl
  have fin:∀ t' xs',H2 t'=none→Zm6 near=xs'→Q (.ref t') (upd H2 t' (.tup xs')):=fun t' xs' h e=>q t' _ (s3.free h) (s3.trans (Zcq h)) (by rw [uS,e])
  refine ⟨.list (near.map Zx2),.list [],Zuj hl,.list (SqL.of h00) .nil,Zsm 8 _,Zsm 8 [],_,rfl,?_⟩
  cases near with
  | nil =>
   rw [show dEq (.list (([]:List Nat).map Zx2)) (.list [])=true from Zdv _]
   exact Zqt ⟨sL (by show 1≤100000;decide),fun t ht=>fin t _ ht rfl⟩
  | cons k r =>
   rw [show dEq (.list ((k :: r).map Zx2)) (.list [])=false from Zfi (fun z=>by injection z with z;cases z)]
   refine Zht ?_
   refine ⟨_,rfl,l,_,rfl,.inl (SqL.of hl),rfl,_,rfl,?_⟩
   cases r with
   | nil =>
    refine Zdu (fun _=>?_) (fun h=>absurd (by rfl) h)
    exact ⟨_,rfl,l,_,_,_,rfl,rfl,SqL.of hl,rfl,sL (by show 2≤100000;decide),fun t ht=>fin t _ ht rfl⟩
   | cons j r =>
    refine Zdu (fun h=>?_) (fun _=>?_)
    ·have h:=of_decide_eq_true h
     injection h with h
     simp at h
     omega
    ·exact ⟨_,rfl,l,_,_,_,rfl,rfl,SqL.of hl,Zc0 (j:=0) rfl,_,rfl,l,_,_,_,rfl,rfl,SqL.of hl,Zc0 (j:=1) rfl,sL (by show 3≤100000;decide),fun t ht=>fin t _ ht rfl⟩
abbrev Z3p:List Str:=["rows","above","places","deeds","heard","call"]
theorem Zzn:Zap Z3p ["rows","above","places","deeds"] (Zab Zce):=⟨rfl,rfl,rfl,by decide +kernel,rfl,by decide +kernel,by decide +kernel⟩
theorem Zsn {f fLC fTo:Addr}{fd fdLC fdTo:FuncData}(F:Def K mg "_law_heard" Zce ["rows","above","places","deeds"] f fd) (DLC:Def K mg "_law_calls" Zbq ["words","places"] fLC fdLC) (GLC:Za3 P w K mg base CX0 1 fLC fdLC ["words","places"] Zh1)
  (DTo:Def K mg "_law_told" Zda ["above","deeds","call"] fTo fdTo) (GTo:Za3 P w K mg base CX0 3 fTo fdTo ["above","deeds","call"] Zri):Za3 P w K mg base CX0 4 f fd ["rows","above","places","deeds"] Zom:=by
 refine F.fn.ok Zzn (fun vs H Q E h=>?_) (fun cdv A outer s H vs Q E hr h=>?_)
 ·obtain ⟨l,aa,ld,n,rows,avs,ds,us,rfl,_⟩:=h
  rfl
 ·obtain ⟨l,aa,ld,n,rows,avs,ds,us,rfl,hR,g,haa,hA,hld,hD,gd,n4,hc,q⟩:=h
  have nd:=Zzn.nd
  have hu:=Zfw hr
  have hr1:Zec 1 _:=hr.mono (by decide)
  have nda:(Zaj rows n).Nodup:=Zhc g.nd n
  have al:=Zev rows n
  have gle:=g.le
  have gne:=g.ne
  refine' ⟨_,(pS (Zag (i:=4) nd rfl (Or.inl rfl) Zh5)
   (pS (Zbw PassesOwn.never rfl (Zbd (Zaf DLC GLC hr1 (pC ?eW (pC (pv 2) Zaa)))) (Zah (i:=5) nd rfl (Or.inl rfl)) (Zad (Zeq hu (pv 4) (pv 5) (Zaf DTo GTo hr (pC (pv 1) (pC (pv 3) (pC (pv 5) Zaa)))) rfl)))
   (Zad (Zat (pv 4))))),?_⟩
  case eW=>exact (Zbr ["row"] [] [] (fun _=>Za0 (osc:=Zab Zce) (on:=Z3p) (by decide +kernel) rfl rfl rfl) (Zbd (pv 0)) (fun C s H fp=>Zah (i:=0) Znk rfl (Or.inl rfl) (Or.inr rfl)) (fun C s H fp=>Zbn) (fun C s H fp=>Za5 (r:=Zlr K) Zd0 (pv 0) Zae (fun _ _=>rfl)))
  intro d hd
  have s0:Zal H (upd H d (.dT [])):=Zcq hd
  have hd0:(upd H d (.dT [])) d=some (.dT []):=uS
  generalize upd H d (.dT [])=H0 at s0 hd0
  have hR0:=Zeo hR s0
  obtain ⟨vs0,hvs0,_⟩:=id hR0
  refine ⟨_,rfl,l,rfl,⟨_,SqL.of hvs0⟩,Zhe hR0 (by omega) (fun t u x H' R ht hRx=>⟨_,rfl,t,_,_,_,rfl,rfl,SqT.of ht,rfl,hRx⟩) fun lw H1 hlw s1 hw=>?_⟩
  have wl:(rows.map (·.1)).length=rows.length:=List.length_map ..
  refine ⟨_,rfl,lw,rows.map (·.1),n,rfl,hw,by omega,by rw [wl];omega,by omega,by omega,fun lf ys H2 hlf s2 hys hDc=>?_⟩
  have hDc:Zay H2 (Zaj rows n) ys:=hDc
  have s02:=(s0.trans s1).trans s2
  have hd2:H2 d=some (.dT []):=s2 _ _ (s1 _ _ hd0)
  refine ⟨lf,rfl,⟨_,SqL.of hys⟩,Za6 (Zav (xs:=ys)) (fun i σ H'=>∃ (kvs:List (List Key×V)) (x:Option V),σ=[some (.ref l),some (.ref aa),some (.int n),some (.ref ld),some (.ref d),x]∧Zal H H'∧(∀ b o,b≠d→H2 b=some o→H' b=some o)∧H' d=some (.dT kvs)∧Ze3 H' rows ds ((Zaj rows n).take i) kvs)
   ⟨[],none,rfl,s02,fun _ _ _ e=>e,hd2,by rw [List.take_zero];exact .nil⟩ (fun i σ H' _ ⟨_,_,_,_,k1,_⟩=>SqL.of (k1 _ _ (Ne.symm (nNo (s1 _ _ hd0) hlf)) hys)) ?_ ?_⟩
  ·rintro i v σ H' hi ⟨kvs,x,rfl,s',k1,hd',hT⟩
   obtain ⟨c,hcc,t,rfl,ht⟩:=Zam hDc hi
   have gc:Zbj rows n c:=Zfk c (List.mem_of_getElem? hcc)
   have ht':H' t=some (.tup (c.map V.str)):=k1 _ _ (fun z=>by rw [z,hd2] at ht;cases ht) ht
   refine ⟨_,rfl,_,rfl,_,rfl,aa,ld,t,n,rows,avs,ds,us,c,rfl,g,s' _ _ haa,hA.mono fun b xs e=>s' _ _ e,s' _ _ hld,hD.mono s',gd,ht',gc,n4,fun tt H3 htt s3 h3=>?_⟩
   have hd3:=s3 _ _ hd'
   have ht3:H3 t=some (.tup ((Zfo c).map kV)):=by rw [Zd7];exact s3 _ _ ht'
   have hnew:Zfo c∉kvs.map (·.1):=by rw [hT.keys];exact Zf3 nda hcc
   have kl:kvs.length≤512:=by
    have:=congrArg List.length hT.keys
    rw [List.length_map,List.length_map,List.length_take] at this
    omega
   refine ⟨_,rfl,_,rfl,d,_,rfl,Zla.t (k:=Zfo c) hd3 ht3 (Za2 (by omega)),?_⟩
   refine ⟨_,_,rfl,fun b o e=>?_,fun b o hb e=>?_,uS,?_⟩
   ·rw [Zac (nNo e hd)];exact s3 _ _ (s' _ _ e)
   ·rw [Zac hb];exact s3 _ _ (k1 b o hb e)
   ·rw [Zeh _ (Ze4 hnew),List.take_add_one,hcc]
    have kp:∀ b xs,H3 b=some (.tup xs)→(upd H3 d (.dT (kvs++[(Zfo c,.ref tt)]))) b=some (.tup xs):=fun b xs e=>by
     rw [Zac]
     ·exact e
     ·rintro rfl;rw [hd3] at e;cases e
    exact Paired.snoc ((Ze3.keep hT fun b xs e=>s3 _ _ e).keep kp) ⟨rfl,tt,rfl,kp _ _ h3⟩
  ·rintro σ H' ⟨kvs,x,rfl,s',k1,hd',hT⟩
   have yl:ys.length=(Zaj rows n).length:=hDc.length.symm
   rw [yl,List.take_length] at hT
   exact ⟨_,rfl,q d kvs H' hd s' hd' hT⟩
end
end K46
namespace K46
open PySem L2 Md
section
variable {α β γ:Type} [DecidableEq β] [DecidableEq γ]
def Ze7 (f:α→β) (acc:List α) (a:α):List α:=if f a∈acc.map f then acc else acc++[a]
def fbL (f:α→β) (l:List α):List α:=l.foldl (Ze7 f) []
def Zky (l:List β) (x:β):Nat:=l.idxOf x
theorem Zx9 {x k:β}(r:List β) (e:x=k):Zky (x :: r) k=0:=by
 unfold Zky
 rw [List.idxOf_cons,show (x == k)=true from by simpa using e]
 rfl
theorem Zx8 {x k:β}(r:List β) (e:¬ x=k):Zky (x :: r) k=Zky r k + 1:=by
 unfold Zky
 rw [List.idxOf_cons,show (x == k)=false from by simpa using e]
 rfl
def nbL (f:α→β) (l:List α) (a:α):Nat:=Zky ((fbL f l).map f) (f a)
theorem Zk2 (f:α→β) (l:List α) (a:α):fbL f (l++[a])=Ze7 f (fbL f l) a:=by
 unfold fbL
 rw [List.foldl_append]
 rfl
theorem Zvr (f:α→β) {l:List α}{i:Nat}{a:α}(h:l[i]?=some a):fbL f (l.take (i + 1))=Ze7 f (fbL f (l.take i)) a:=by
 rw [List.take_add_one,h]
 exact Zk2 f _ a
theorem Zti (f:α→β) (l:List α):∀ r:List α,∃ m,fbL f (l++r)=fbL f l++m
 | []=>⟨[],by simp⟩
 | a :: r=>by
  obtain ⟨m,hm⟩:=Zti f (l++[a]) r
  rw [List.append_assoc] at hm
  rw [Zk2] at hm
  unfold Ze7 at hm
  split at hm
  ·exact ⟨m,hm⟩
  ·exact ⟨[a]++m,by rw [← List.append_assoc];exact hm⟩
theorem Zwq (f:α→β):∀ (l:List α) (a:α),a∈l→f a∈(fbL f l).map f:=by
 intro l a h
 obtain ⟨p,q,rfl⟩:=List.append_of_mem h
 have e:p++a :: q=(p++[a])++q:=by simp
 rw [e]
 obtain ⟨m,hm⟩:=Zti f (p++[a]) q
 rw [hm,Zk2,List.map_append,List.mem_append]
 refine .inl ?_
 unfold Ze7
 split
 ·assumption
 ·rw [List.map_append,List.mem_append];exact .inr (by simp)
theorem Zth (f:α→β) (l:List α):∀ a∈fbL f l,a∈l:=by
 have:∀ (l:List α) (acc:List α) (S:α→Prop),(∀ a∈acc,S a)→(∀ a∈l,S a)→∀ a∈l.foldl (Ze7 f) acc,S a:=by
  intro l
  induction l with
  | nil=>intro acc S h _ a ha;exact h a ha
  | cons x r ih =>
   intro acc S h hl a ha
   refine ih (Ze7 f acc x) S (fun b hb=>?_) (fun b hb=>hl b (List.mem_cons_of_mem _ hb)) a ha
   unfold Ze7 at hb
   split at hb
   ·exact h b hb
   ·rcases List.mem_append.mp hb with z | z
    ·exact h b z
    ·rw [List.mem_singleton.mp z];exact hl x List.mem_cons_self
 exact this l [] (fun a=>a∈l) (fun a h=>nomatch h) fun a h=>h
theorem Zj1 (f:α→β) (l:List α):(fbL f l).length≤l.length:=by
 have:∀ (l acc:List α),(l.foldl (Ze7 f) acc).length≤acc.length + l.length:=by
  intro l
  induction l with
  | nil=>intro acc;simp
  | cons x r ih =>
   intro acc
   have:=ih (Ze7 f acc x)
   have h2:(Ze7 f acc x).length≤acc.length + 1:=by
    unfold Ze7
    split
    ·omega
    ·simp
   rw [List.foldl_cons,List.length_cons]
   omega
 have h0:=this l []
 have h1:(fbL f l).length≤([]:List α).length + l.length:=h0
 simpa using h1
theorem Zx1 (f:α→β) {l:List α}{i:Nat}{a:α}(h:l[i]?=some a):Zky ((fbL f (l.take (i + 1))).map f) (f a)=nbL f l a:=by
 unfold nbL Zky
 obtain ⟨m,hm⟩:=Zti f (l.take (i + 1)) (l.drop (i + 1))
 rw [List.take_append_drop] at hm
 rw [hm,List.map_append,List.idxOf_append,if_pos]
 exact Zwq f _ a (List.mem_of_getElem? (i:=i) (by rw [List.getElem?_take_of_lt (by omega)];exact h))
theorem Ztb (f:α→β) (g:α→γ):∀ (m:List α) (a:α),(∀ x∈m,(f x=f a↔g x=g a))→(m.map f).idxOf (f a)=(m.map g).idxOf (g a)
 | [],_,_=>rfl
 | x :: m,a,h=>by
  rw [List.map_cons,List.map_cons,List.idxOf_cons,List.idxOf_cons,Ztb f g m a fun y hy=>h y (List.mem_cons_of_mem _ hy)]
  have hx:=h x List.mem_cons_self
  by_cases e:f x=f a
  ·rw [show (f x == f a)=true from by simpa using e,show (g x == g a)=true from by simpa using hx.mp e]
  ·rw [show (f x == f a)=false from by simpa using e,show (g x == g a)=false from by simpa using (fun z=>e (hx.mpr z))]
theorem Z0r (f:α→β) (g:α→γ) {l:List α}(h:∀ a∈l,∀ b∈l,(f a=f b↔g a=g b)):fbL f l=fbL g l:=by
 have:∀ (r acc:List α),(∀ a∈acc,a∈l)→(∀ a∈r,a∈l)→r.foldl (Ze7 f) acc=r.foldl (Ze7 g) acc:=by
  intro r
  induction r with
  | nil=>intro acc _ _;rfl
  | cons x r ih =>
   intro acc hacc hr
   have hx:=hr x List.mem_cons_self
   have e:Ze7 f acc x=Ze7 g acc x:=by
    unfold Ze7
    have:f x∈acc.map f↔g x∈acc.map g:=by
     constructor
     ·intro z
      obtain ⟨y,hy,e⟩:=List.mem_map.mp z
      exact List.mem_map.mpr ⟨y,hy,(h y (hacc y hy) x hx).mp e⟩
     ·intro z
      obtain ⟨y,hy,e⟩:=List.mem_map.mp z
      exact List.mem_map.mpr ⟨y,hy,(h y (hacc y hy) x hx).mpr e⟩
    by_cases hz:f x∈acc.map f
    ·rw [if_pos hz,if_pos (this.mp hz)]
    ·rw [if_neg hz,if_neg (fun z=>hz (this.mpr z))]
   rw [List.foldl_cons,List.foldl_cons,e]
   refine ih _ (fun a ha=>?_) fun a ha=>hr a (List.mem_cons_of_mem _ ha)
   unfold Ze7 at ha
   split at ha
   ·exact hacc a ha
   ·rcases List.mem_append.mp ha with z | z
    ·exact hacc a z
    ·rw [List.mem_singleton.mp z];exact hx
 exact this l [] (fun a z=>nomatch z) fun a z=>z
theorem Z13 (f:α→β) (g:α→γ) {l:List α}(h:∀ a∈l,∀ b∈l,(f a=f b↔g a=g b)) {a:α}(ha:a∈l):nbL f l a=nbL g l a:=by
 unfold nbL Zky
 rw [Z0r f g h]
 exact Ztb f g _ a fun x hx=>h x (Zth g l x hx) a ha
end
def Znw {γ:Type} (rows:List (Str×List Str)) (h:List Str→γ) (k:Nat) (b:List Str):List γ:=(Zaj rows k).map fun r=>h (b++r)
def Z1p {γ:Type} [DecidableEq γ] (rows:List (Str×List Str)) (h:List Str→γ) (k m:Nat) (b:List Str):List Nat:=(wds rows).map fun w=>nbL (Znw rows h k) (Zaj rows (m + 1)) (b++[w])
def Zw4 {γ:Type} [DecidableEq γ] (rows:List (Str×List Str)) (h:List Str→γ) (n m:Nat):List (List Nat):=(fbL (Znw rows h (n - m)) (Zaj rows m)).map (Z1p rows h (n - m - 1) m)
theorem Zvs {γ:Type} [DecidableEq γ] (rows:List (Str×List Str)) (h:List Str→γ) (n:Nat):fbL (Znw rows h 0) (Zaj rows n)=fbL h (Zaj rows n)∧∀ b∈Zaj rows n,nbL (Znw rows h 0) (Zaj rows n) b=nbL h (Zaj rows n) b:=by
 have e:∀ a∈Zaj rows n,∀ b∈Zaj rows n,(Znw rows h 0 a=Znw rows h 0 b↔h a=h b):=fun a _ b _=>by
  have z:∀ c,Znw rows h 0 c=[h c]:=fun c=>by
   show [h (c++[])]=_
   rw [List.append_nil]
  rw [z,z]
  constructor
  ·intro z;injection z
  ·intro z;rw [z]
 exact ⟨Z0r _ _ e,fun b hb=>Z13 _ _ e hb⟩
end K46
namespace K46
open PySem L2 Md
def Zgs (H:Hp) (ks:List (List Key)) (vs:List V):Prop:=Paired (fun k v=>∃ t,v=.ref t∧H t=some (.tup (k.map kV))) ks vs
theorem Zgs.keep {H H':Hp}{ks:List (List Key)}{vs:List V}(h:Zgs H ks vs) (k:∀ b xs,H b=some (.tup xs)→H' b=some (.tup xs)):Zgs H' ks vs:=Paired.mapP h fun _ _ ⟨t,e,x⟩=>⟨t,e,k _ _ x⟩
theorem Zgs.mono {H H':Hp}{ks:List (List Key)}{vs:List V}(h:Zgs H ks vs) (s:Zal H H'):Zgs H' ks vs:=h.keep fun b xs e=>s _ _ e
section
variable {P:Program} {w:World} {K:PySem.W.Frag} {mg:Str→Option Value} {base:Heap}
end
end K46
namespace K46
open PySem L2 Md
def Z2k:List Nat→List Key
 | []=>[.inr "none"]
 | [k]=>[.inr "deed",.inl (k:Int)]
 | k :: j :: _=>[.inr "clash",.inl (k:Int),.inl (j:Int)]
theorem Zhb (l:List Nat):(Z2k l).map kV=Zm6 l:=by
 cases l with
 | nil=>rfl
 | cons k r =>
  cases r with
  | nil=>rfl
  | cons j r=>rfl
noncomputable def Zc3 (rows:List (Str×List Str)) (ds:List (List Str)) (c:List Str):List Key:=Z2k (Zl9 rows ds c)
def Zhd (H0 H:Hp) (ls:List (List Nat)) (vs:List V):Prop:=Paired (fun l v=>∃ b,v=.ref b∧H0 b=none∧H b=some (.lst (l.map Zff))) ls vs
def Zfy (H0 H:Hp) (ss:List (List (List Nat))) (vs:List V):Prop:=Paired (fun s v=>∃ a ws,v=.ref a∧H0 a=none∧H a=some (.lst ws)∧Zhd H0 H s ws) ss vs
def Z0z (H0 H:Hp) (t:Addr) (ss:List (List (List Nat))) (es:List (List Key)):Prop:=∃ ls le vs us,H t=some (.tup [.ref ls,.ref le])∧H0 ls=none∧H0 le=none∧H ls=some (.lst vs)∧H le=some (.lst us)∧Zfy H0 H ss vs∧Zgs H es us
theorem Zhd.keep {H0 H H':Hp}{ls:List (List Nat)}{vs:List V}(h:Zhd H0 H ls vs) (k:∀ b o,H0 b=none→H b=some o→H' b=some o):Zhd H0 H' ls vs:=Paired.mapP h fun _ _ ⟨b,e,f,h⟩=>⟨b,e,f,k _ _ f h⟩
theorem Zfy.keep {H0 H H':Hp}{ss:List (List (List Nat))}{vs:List V}(h:Zfy H0 H ss vs) (k:∀ b o,H0 b=none→H b=some o→H' b=some o):Zfy H0 H' ss vs:=Paired.mapP h fun _ _ ⟨a,ws,e,f,h,L⟩=>⟨a,ws,e,f,k _ _ f h,L.keep k⟩
theorem Zhd.old {H0 H1 H:Hp}{ls:List (List Nat)}{vs:List V}(h:Zhd H1 H ls vs) (k:∀ b,H1 b=none→H0 b=none):Zhd H0 H ls vs:=Paired.mapP h fun _ _ ⟨b,e,f,h⟩=>⟨b,e,k _ f,h⟩
theorem Zfy.old {H0 H1 H:Hp}{ss:List (List (List Nat))}{vs:List V}(h:Zfy H1 H ss vs) (k:∀ b,H1 b=none→H0 b=none):Zfy H0 H ss vs:=Paired.mapP h fun _ _ ⟨a,ws,e,f,h,L⟩=>⟨a,ws,e,k _ f,h,L.old k⟩
noncomputable def Zoj (rows:List (Str×List Str)) (ds:List (List Str)) (n:Nat):List (List (List Nat)):=(List.range n).map (Zw4 rows (Zc3 rows ds) n)
noncomputable def Ztl (rows:List (Str×List Str)) (ds:List (List Str)) (n:Nat):List (List Key):=(fbL (Zc3 rows ds) (Zaj rows n)).map (Zc3 rows ds)
section
variable {P:Program} {w:World} {K:PySem.W.Frag} {mg:Str→Option Value} {base:Heap}
end
end K46
namespace K46
open PySem L2 Md
theorem Zw7 (n:Nat) (h1:1≤n) (h4:n≤4):∃ m:Nat,1≤m∧m≤24∧m ^ n≤512∧atI [V.int 24,V.int 10,V.int 5,V.int 3] ((n:Int) - 1)=some (V.int m):=by
 have:n=1∨n=2∨n=3∨n=4:=by omega
 rcases this with e | e | e | e <;> subst e
 ·exact ⟨24,by decide,by decide,by decide,rfl⟩
 ·exact ⟨10,by decide,by decide,by decide,rfl⟩
 ·exact ⟨5,by decide,by decide,by decide,rfl⟩
 ·exact ⟨3,by decide,by decide,by decide,rfl⟩
def Zlm (K:PySem.W.Frag):Sp:=fun vs H Q _=>∃ (a:Addr) (j:Int) (ns:List Int),vs=[.ref a,.int j]∧SqL K H a (ns.map V.int)∧ns.length≤100∧0≤j∧j≤1000 ∧
 ∀ (t p l aa ld:Addr) (n:Nat) (rows:List (Str×List Str)) (avs:List (Key×V)) (ds:List (List Str)) (us:List V) (o:HO) (H':Hp),Zal H H'→H' t=some (.tup [.ref p,.ref l,.ref aa,.int n,.ref ld])→H' p=some o→Zm1 o→H p=none→Ze0 H' l rows→Zek rows→H' aa=some (.dK avs)→Zdd H' rows rows avs →
  1≤n→n≤4→rows.length ^ n≤512→H' ld=some (.lst us)→ld≠p→Zay H' ds us→Zbk rows n ds→ds.length≤8→Q (.ref t) H'
section
variable {P:Program} {w:World} {K:PySem.W.Frag} {mg:Str→Option Value} {base:Heap}
abbrev nDr:List Str:=["script","k","pot","places","rows","above"]
theorem Z3f:Zap nDr ["script","k"] (Zab Zcu):=⟨rfl,rfl,rfl,by decide +kernel,rfl,by decide +kernel,by decide +kernel⟩
theorem Zu3 {f fR fP fT fA fDe:Addr}{fd fdR fdP fdT fdA fdDe:FuncData}(F:Def K mg "_law_drawn" Zcu ["script","k"] f fd)
  (DR:Def K mg "_law_rows" Zcl ["pot","most"] fR fdR) (GR:Za3 P w K mg base CX0 4 fR fdR ["pot","most"] Zrf) (DP:Def K mg "_law_pot" Zdn ["script","k"] fP fdP) (GP:Za3 P w K mg base CX0 1 fP fdP ["script","k"] (Zze K))
  (DT:Def K mg "_law_take" Za8 ["pot","many"] fT fdT) (GT:Za3 P w K mg base CX0 1 fT fdT ["pot","many"] Zgg) (DA:Def K mg "_law_above" Zcv ["rows"] fA fdA) (GA:Za3 P w K mg base CX0 1 fA fdA ["rows"] Zon)
  (DDe:Def K mg "_law_deeds" Zb2 ["pot","rows","above","places","most"] fDe fdDe) (GDe:Za3 P w K mg base CX0 2 fDe fdDe ["pot","rows","above","places","most"] Zrl):
  Za3 P w K mg base CX0 5 f fd ["script","k"] (Zlm K):=by
 refine F.fn.ok Z3f (fun vs H Q E h=>?_) (fun cdv A outer s H vs Q E hr h=>?_)
 ·obtain ⟨a,j,ns,rfl,_⟩:=h
  rfl
 ·obtain ⟨a,j,ns,rfl,hS,hlen,j0,j1,q⟩:=h
  have nd:=Z3f.nd
  have hr1:Zec 1 _:=hr.mono (by decide)
  have hr2:Zec 2 _:=hr.mono (by decide)
  refine' ⟨_,(pS (Zag (i:=2) nd rfl (Or.inl rfl) (Zaf DP GP hr1 (pC (pv 0) (pC (pv 1) Zaa))))
   (pS (Zag (i:=3) nd rfl (Or.inl rfl) (Zba Zdr Zae (Zaf DT GT hr1 (pC (pv 2) (pC Zae Zaa)))))
   (pS (Zag (i:=4) nd rfl (Or.inl rfl) (Zaf DR GR hr (pC (pv 2) (pC (Za5 Zd0 (Zb8 (pC Zae (pC Zae (pC Zae (pC Zae Zaa))))) (Zba Zhr (pv 3) Zae) (fun _ _=>rfl)) Zaa))))
   (pS (Zag (i:=5) nd rfl (Or.inl rfl) (Zaf DA GA hr1 (pC (pv 4) Zaa)))
   (Zad (Zat (Zb8 (pC (pv 2) (pC (pv 4) (pC (pv 5) (pC (pv 3) (pC (Zaf DDe GDe hr2 (pC (pv 2) (pC (pv 4) (pC (pv 5) (pC (pv 3) (pC Zae Zaa)))))) Zaa)))))))))))),?_⟩
  refine ⟨_,rfl,_,rfl,a,j,ns,rfl,hS,hlen,j0,j1,fun p o1 hp ho1=>⟨_,rfl,p,4,o1,rfl,uS,ho1,by decide,by decide,fun v o2 hv0 hv1 ho2=>⟨_,_,rfl,rfl,?_⟩⟩⟩
  obtain ⟨n,hn⟩:∃ n:Nat,(1:Int) + v=n:=⟨(1 + v).toNat,by omega⟩
  show Zet 3 (V.int (1 + v)) _ _ _
  rw [hn]
  have n1:1≤n:=by omega
  have n4:n≤4:=by omega
  have s0:Zal H (upd (upd H p o1) p o2):=fun b o e=>by rw [Zac (nNo e hp),Zac (nNo e hp)];exact e
  have hp0:(upd (upd H p o1) p o2) p=some o2:=uS
  generalize upd (upd H p o1) p o2=H0 at s0 hp0
  obtain ⟨m,m1,m24,mc,hat⟩:=Zw7 n n1 n4
  refine ⟨_,rfl,sL (by show 4≤100000;decide),fun tt htt=>⟨_,rfl,_,_,rfl,rfl,tt,_,_,_,rfl,rfl,SqT.of uS,hat,p,m,rfl,⟨o2,(Zcq htt) _ _ hp0,ho2⟩,m1,m24,fun l rows H1 d1 hl hR1 g rl=>?_⟩⟩
  have s1:Zal H H1:=fun b o e=>d1.keep b o (nNo e hp) ((Zcq htt) _ _ (s0 _ _ e))
  obtain ⟨o3,hp1,ho3⟩:=d1.pot
  have rc:rows.length ^ n≤512:=Nat.le_trans (Nat.pow_le_pow_left rl n) mc
  refine ⟨_,rfl,l,rows,rfl,hR1,g,fun aa avs H2 s12 haa hA=>?_⟩
  have hR2:=Zeo hR1 s12
  have hp2:=s12 _ _ hp1
  refine ⟨_,rfl,_,rfl,_,rfl,_,rfl,_,rfl,_,rfl,_,rfl,_,rfl,p,l,aa,n,8,rows,avs,rfl,⟨o3,hp2,ho3⟩,hR2,g,haa,hA,n1,n4,by decide,fun ld ds us H3 d3 hld hus hD gd dl=>⟨sL (by show 5≤100000;decide),fun t ht=>?_⟩⟩
  obtain ⟨o4,hp3,ho4⟩:=d3.pot
  have k3:∀ b o,b≠p→H2 b=some o→(upd H3 t (.tup [.ref p,.ref l,.ref aa,.int n,.ref ld])) b=some o:=fun b o hb e=>(Zcq ht) _ _ (d3.keep b o hb e)
  have ldp:ld≠p:=Ne.symm (nNo hp2 hld)
  have lp:l≠p:=fun z=>by rw [z,(Zcq htt) _ _ hp0] at hl;cases hl
  have kt:Zal H3 (upd H3 t (.tup [.ref p,.ref l,.ref aa,.int n,.ref ld])):=Zcq ht
  exact q t p l aa ld n rows avs ds us o4 _ (fun b o e=>k3 b o (nNo e hp) (s12 _ _ (s1 _ _ e))) uS (kt _ _ hp3) ho4 hp (Zup hp2 ho3 k3 hR2 lp) g (k3 _ _ (fun z=>by rw [z,hp2] at haa;obtain ⟨_,_,e,_⟩:=ho3;rw [e] at haa;cases haa) haa) (Zr6 hp2 ho3 k3 hA) n1 n4 rc (kt _ _ hus) ldp (hD.mono kt) gd dl
end
end K46
namespace K46
open PySem L2 Md
theorem Znn {rows:List (Str×List Str)}:∀ {n:Nat}{c:List Str},Zbj rows n c→c∈Zaj rows n
 | 0,c,h=>by
  have:c=[]:=List.length_eq_zero_iff.mp h.len
  rw [this]
  exact List.mem_singleton.mpr rfl
 | n + 1,c,h=>by
  have ne:c≠[]:=fun z=>by have:=h.len;rw [z] at this;cases this
  have e:c=c.dropLast++[c.getLast ne]:=(List.dropLast_concat_getLast ne).symm
  have g:Zbj rows n c.dropLast:=⟨by rw [List.length_dropLast,h.len];rfl,fun y hy=>h.known y (List.dropLast_subset _ hy)⟩
  unfold Zaj
  rw [List.replicate_succ',Zdo]
  unfold Zdt
  refine List.mem_flatMap.mpr ⟨c.dropLast,Znn g,List.mem_map.mpr ⟨c.getLast ne,h.known _ (List.getLast_mem ne),e.symm⟩⟩
theorem Ze3.get {H:Hp}{rows:List (Str×List Str)}{ds:List (List Str)}:∀ {cs:List (List Str)}{kvs:List (List Key×V)}{c:List Str},Ze3 H rows ds cs kvs→c∈cs→∃ t,Zf2 kvs (Zfo c)=some (.ref t)∧H t=some (.tup (Zm6 (Zl9 rows ds c)))
 | _,_,c,.cons (a:=c') (b:=p) ⟨e,t,e2,h⟩ r,hc=>by
  by_cases z:c'=c
  ·refine ⟨t,?_,by rw [← z];exact h⟩
   unfold Zf2
   rw [List.find?_cons,decide_eq_true (by rw [e,z])]
   show some p.2=_
   rw [e2]
  ·obtain ⟨t',h1,h2⟩:=Ze3.get r ((List.mem_cons.mp hc).resolve_left fun q=>z q.symm)
   refine ⟨t',?_,h2⟩
   unfold Zf2 at h1 ⊢
   rw [List.find?_cons,decide_eq_false (by rw [e];exact fun q=>z (Zh6 q))]
   exact h1
theorem Zvx {rows:List (Str×List Str)}{n m:Nat}{xs r:List Str} (h1:Zbj rows m xs) (h2:Zbj rows (n - m) r) (h:m≤n):Zbj rows n (xs++r):=
 ⟨by rw [List.length_append,h1.len,h2.len];omega,fun y hy=>(List.mem_append.mp hy).elim (h1.known y) (h2.known y)⟩
theorem Zmr {K:PySem.W.Frag}{H:Hp}{Q:VK}{a b:Addr}{xs r:List Str}(ha:H a=some (.tup (xs.map V.str))) (hb:H b=some (.tup (r.map V.str))) (hl:xs.length + r.length≤1000)
  (q:∀ T H',Zal H H'→H' T=some (.tup ((xs++r).map V.str))→Q (.ref T) H'):Zpw K (.ref a) (.ref b) H Q:=by
 refine ⟨a,b,_,_,rfl,rfl,SqT.of ha,SqT.of hb,sL (by rw [List.length_map,List.length_map];omega),fun z=>?_,fun _ z=>?_,fun _ _ T hT=>?_⟩
 ·have z:xs=[]:=List.map_eq_nil_iff.mp z
  exact q b H (Zal.refl _) (by rw [z];exact hb)
 ·have z:r=[]:=List.map_eq_nil_iff.mp z
  exact q a H (Zal.refl _) (by rw [z,List.append_nil];exact ha)
 ·exact q T _ (Zcq hT) (by rw [uS,List.map_append])
section
variable {P:Program} {w:World} {K:PySem.W.Frag} {mg:Str→Option Value} {base:Heap}
end
end K46
namespace K46
open PySem L2 Md
def Z2h:Key→Dt
 | .inl i=>.int i
 | .inr x=>.str x
def Zn3 (k:List Key):Dt:=.tuple (k.map Z2h)
theorem Zpg {a b:List Key}(h:Zn3 a=Zn3 b):a=b:=by
 unfold Zn3 at h
 injection h with h
 exact List.map_inj_right (fun x y z=>by cases x <;> cases y <;> first | (injection z with z;rw [z]) | cases z) |>.mp h
def OkK (k:List Key):Prop:=∀ x,Sum.inr x∈k→PyData.strOk x=true
theorem Zgq:OkK []:=fun x h=>nomatch h
theorem Zgp {s:Str}{k:List Key}(hs:PyData.strOk s=true) (h:OkK k):OkK (.inr s :: k):=fun x hx=>by
 rcases List.mem_cons.mp hx with e | hx
 ·cases e;exact hs
 ·exact h x hx
theorem Zhj {i:Int}{k:List Key}(h:OkK k):OkK (.inl i :: k):=fun x hx=>by
 rcases List.mem_cons.mp hx with e | hx
 ·cases e
 ·exact h x hx
theorem Zi7 (l:List Nat):OkK (Z2k l):=by
 cases l with
 | nil=>exact Zgp (by decide +kernel) Zgq
 | cons k r =>
  cases r with
  | nil=>exact Zgp (by decide +kernel) (Zhj Zgq)
  | cons j r=>exact Zgp (by decide +kernel) (Zhj (Zhj Zgq))
theorem Zie {K:PySem.W.Frag}{H:Hp}:∀ k:List Key,Reps K H (k.map kV) (k.map Z2h)
 | []=>.nil
 | .inl i :: r=>.cons (.int i) (Zie r)
 | .inr x :: r=>.cons (.str x) (Zie r)
theorem Zh3 {K:PySem.W.Frag}{H:Hp}{t:Addr}{k:List Key}(h:H t=some (.tup (k.map kV))):Rep K H (.ref t) (Zn3 k):=.tuple (SqT.of h) (Zie k)
theorem Ze5 {K:PySem.W.Frag}{H:Hp}:∀ {ks:List (List Key)}{vs:List V},Zgs H ks vs→Reps K H vs (ks.map Zn3)
 | _,_,.nil=>.nil
 | _,_,.cons ⟨t,e,h⟩ r=>by rw [e];exact .cons (Zh3 h) (Ze5 r)
theorem Zkj (m:Nat) {k:List Key}(h:OkK k):PySem.W.kqdOk (m + 2) (Zn3 k)=true:=by
 show (k.map Z2h).all (PySem.W.kqdOk (m + 1))=true
 rw [List.all_eq_true]
 intro d hd
 obtain ⟨x,hx,rfl⟩:=List.mem_map.mp hd
 cases x with
 | inl i=>show PySem.W.kqdOk (m + 1) (.int i)=true;rw [PySem.W.kqdOk]
 | inr x=>exact h x hx
def Zn2 (f:List (List Key)):Dt:=.list (f.map Zn3)
theorem Zpf {a b:List (List Key)}(h:Zn2 a=Zn2 b):a=b:=by
 unfold Zn2 at h
 injection h with h
 exact List.map_inj_right (fun x y z=>Zpg z) |>.mp h
theorem Zis (m:Nat) {f:List (List Key)}(h:∀ k∈f,OkK k):PySem.W.kqdOk (m + 3) (Zn2 f)=true:=by
 show (f.map Zn3).all (PySem.W.kqdOk (m + 2))=true
 rw [List.all_eq_true]
 intro d hd
 obtain ⟨x,hx,rfl⟩:=List.mem_map.mp hd
 exact Zkj m (h x hx)
theorem Z0y {L:List (List (List Key))}{x:List (List Key)}(h:x∈L):((L.map Zn2).any fun e=>dEq e (Zn2 x))=true:=by
 rw [List.any_eq_true]
 exact ⟨Zn2 x,List.mem_map.mpr ⟨x,h,rfl⟩,Zdv _⟩
theorem Zyl {L:List (List (List Key))}{x:List (List Key)}(h:x∉L):((L.map Zn2).any fun e=>dEq e (Zn2 x))=false:=by
 rw [List.any_eq_false]
 intro z hz
 obtain ⟨e,he,rfl⟩:=List.mem_map.mp hz
 rw [Zfi fun q=>h (by rw [← Zpf q];exact he)]
 exact Bool.false_ne_true
theorem Zkx {β:Type} [DecidableEq β] {x:β}:∀ {L:List β},x∈L→L[Zky L x]?=some x∧∀ m e,m<Zky L x→L[m]?=some e→e≠x
 | y :: r,h=>by
  by_cases e:y=x
  ·rw [Zx9 r e]
   exact ⟨by rw [e];rfl,fun m e h=>absurd h (Nat.not_lt_zero _)⟩
  ·rw [Zx8 r e]
   obtain ⟨h1,h2⟩:=Zkx (L:=r) ((List.mem_cons.mp h).resolve_left fun z=>e z.symm)
   refine ⟨by simpa using h1,fun m e' hm he'=>?_⟩
   cases m with
   | zero =>
    have:y=e':=by simpa using he'
    rw [← this];exact e
   | succ m=>exact h2 m e' (by omega) (by simpa using he')
def Z1b (la lf:Addr) (H:Hp) (fs:List (List (List Key))) (va:List V):Prop:=Paired (fun fu v=>∃ a ws,v=.ref a∧a≠la∧a≠lf∧H a=some (.lst ws)∧Zgs H fu ws) fs va
theorem Zkb {K:PySem.W.Frag}{H:Hp}{la lf:Addr}:∀ {fs:List (List (List Key))}{va:List V},Z1b la lf H fs va→Reps K H va (fs.map Zn2)
 | _,_,.nil=>.nil
 | _,_,.cons ⟨a,ws,e,_,_,h,k⟩ r=>by rw [e];exact .cons (.list (SqL.of h) (Ze5 k)) (Zkb r)
noncomputable def Zsw (rows:List (Str×List Str)) (ds:List (List Str)) (n m:Nat) (cs:List (List Str)):List (List Key×V):=cs.map fun b=>(Zfo b,Zff (nbL (Znw rows (Zc3 rows ds) (n - m)) (Zaj rows m) b))
theorem Zoy {rows:List (Str×List Str)}{ds:List (List Str)}{n m:Nat}{c:List Str}:∀ {cs:List (List Str)},c∈cs→Zf2 (Zsw rows ds n m cs) (Zfo c)=some (Zff (nbL (Znw rows (Zc3 rows ds) (n - m)) (Zaj rows m) c))
 | x :: r,h=>by
  unfold Zsw
  rw [List.map_cons]
  by_cases e:x=c
  ·rw [Zfa (by rw [e]),e]
  ·rw [Zfb (fun z=>e (Zh6 z))]
   exact Zoy (cs:=r) ((List.mem_cons.mp h).resolve_left fun z=>e z.symm)
def RdO (u:HO) (kvs:List (List Key×V)):Prop:=u=.dT kvs∨∃ ob,u=.frz ob (.dT kvs)
theorem Zna {H:Hp}{a:Addr}{u:HO}{kvs:List (List Key×V)}(h:H a=some u) (r:RdO u kvs):Rd H a (.dT kvs):=by
 rcases r with e | ⟨o,e⟩
 ·exact .inl (by rw [h,e])
 ·exact .inr ⟨o,by rw [h,e]⟩
def Zv0 (rows:List (Str×List Str)) (ds:List (List Str)) (n m:Nat) (H:Hp) (t dn lf:Addr) (ub:List V):Prop:=H t=some (.tup [.ref dn,.ref lf])∧H dn=some (.dT (Zsw rows ds n m (Zaj rows m)))∧H lf=some (.lst ub)∧Zay H (fbL (Znw rows (Zc3 rows ds) (n - m)) (Zaj rows m)) ub
def Zol:Sp:=fun vs H Q _=>∃ (lw dh:Addr) (uh:HO) (kvs:List (List Key×V)) (rows:List (Str×List Str)) (n m:Nat) (ds:List (List Str)),vs=[.ref lw,.int n,.ref dh,.int m]∧H lw=some (.lst ((rows.map (·.1)).map V.str))∧Zek rows∧H dh=some uh∧RdO uh kvs∧Ze3 H rows ds (Zaj rows n) kvs∧m≤n∧n≤4∧rows.length ^ n≤512 ∧
 ∀ t dn lf ub H',Zal H H'→H lf=none→Zv0 rows ds n m H' t dn lf ub→Q (.ref t) H'
abbrev nSt:List Str:=["words","places","heard","many","rests","ahead","numbers","firsts","begin","future"]
abbrev Z0f:List Str:=["words","places","heard","many"]
theorem Z23:Zap nSt Z0f (Zab Zbz):=⟨rfl,rfl,rfl,by decide +kernel,rfl,by decide +kernel,by decide +kernel⟩
theorem Zz8:(["rest","heard","begin"]:List Str).Nodup:=by decide +kernel
theorem Zyc (rows:List (Str×List Str)) (ds:List (List Str)) (k:Nat) (b:List Str):∀ x∈Znw rows (Zc3 rows ds) k b,OkK x:=fun x hx=>by
 obtain ⟨r,_,rfl⟩:=List.mem_map.mp hx
 exact Zi7 _
section
variable {P:Program} {w:World} {K:PySem.W.Frag} {mg:Str→Option Value} {base:Heap}
set_option maxHeartbeats 8000000 in
theorem Zsk {f fLC:Addr}{fd fdLC:FuncData}(F:Def K mg "_law_states" Zbz Z0f f fd) (DLC:Def K mg "_law_calls" Zbq ["words","places"] fLC fdLC) (GLC:Za3 P w K mg base CX0 1 fLC fdLC ["words","places"] Zh1):Za3 P w K mg base CX0 2 f fd Z0f Zol:=by
 refine F.fn.ok Z23 (fun vs H Q E h=>?_) (fun cdv A outer s H vs Q E hr h=>?_)
 ·obtain ⟨lw,dh,uh,kvs,rows,n,m,ds,rfl,_⟩:=h
  rfl
 ·obtain ⟨lw,dh,uh,kvs,rows,n,m,ds,rfl,hw,g,hd,ru,hT,mn,n4,rc,q⟩:=h
  have nd:=Z23.nd
  have hu:=Zfw hr
  refine' ⟨_,(pS (Zag (i:=4) nd rfl (Or.inl rfl) (Zaf DLC GLC hr (pC (pv 0) (pC (Zba Zhr (pv 1) (pv 3)) Zaa))))
   (pS (Zag (i:=5) nd rfl (Or.inl rfl) (Zb9 Zaa))
   (pS (Zag (i:=6) nd rfl (Or.inl rfl) Zh5)
   (pS (Zag (i:=7) nd rfl (Or.inl rfl) (Zb9 Zaa))
   (pS (Zbw PassesOwn.never rfl (Zbd (Zaf DLC GLC hr (pC (pv 0) (pC (pv 3) Zaa)))) (Zah (i:=8) nd rfl (Or.inr rfl))
    (pS ?e1
   (Zep (Zbe (Zaq (Zlz (Z0p hr)) (pv 9) (pv 5) (by with_unfolding_all rfl)) (pS (Za9 (Zej PySem.F.plainAttrs_list PySem.F.slot_list_append PySem.F.type_list_append Zb6 (pv 5) (pC (pv 9) Zaa)))
   (Zad (Za9 (Zej PySem.F.plainAttrs_list PySem.F.slot_list_append PySem.F.type_list_append Zb6 (pv 7) (pC (pv 8) Zaa))))) Zas)
   (Zad (Zeq hu (pv 6) (pv 8) (Zej PySem.F.plainAttrs_list PySem.F.slot_list_index PySem.F.type_list_index (Ziw (Z0p hr)) (pv 5) (pC (pv 9) Zaa)) rfl)))))
   (Zad (Zat (Zb8 (pC (pv 6) (pC (pv 7) Zaa)))))))))),?_⟩
  case e1=>exact (Zel (k:=9) ["rest"] ["heard","begin"] [2,8] nd rfl rfl (fun _=>Za0 (osc:=Zab Zbz) (on:=nSt) (by decide +kernel) rfl rfl rfl) (Zbd (pv 4)) (fun C s H fp=>Zah (i:=0) Zz8 rfl (Or.inl rfl) (Or.inr rfl)) (fun C s H fp=>Zbn) (fun C s H fp=>Zer hu (pv 1) (Zba (r:=Zpw K) Zkh (pv 2) (pv 0)) (fun _ _=>rfl)))
  have al:=Zev rows
  have gle:=g.le
  have gne:1≤rows.length:=by have:=g.ne;omega
  have wl:(rows.map (·.1)).length=rows.length:=List.length_map ..
  have pw:∀ j,j≤n→rows.length ^ j≤512:=fun j hj=>Nat.le_trans (Zf4 gne hj) rc
  have en:((n:Nat):Int) - ((m:Nat):Int)=((n - m:Nat):Int):=by omega
  refine ⟨_,rfl,_,rfl,_,rfl,_,_,rfl,rfl,lw,rows.map (·.1),n - m,by rw [← en];rfl,hw,by omega,by rw [wl];have:=pw (n - m) (by omega);omega,by omega,by omega,fun lr yr H1 hlr s01 hlr1 DR=>?_⟩
  have DR:Zay H1 (Zaj rows (n - m)) yr:=DR
  refine ⟨Nat.zero_le _,fun la hla=>?_⟩
  have s12:Zal H1 (upd H1 la (.lst [])):=Zcq hla
  have hla2:(upd H1 la (.lst [])) la=some (.lst []):=uS
  generalize upd H1 la (.lst [])=H2 at s12 hla2
  intro dn hdn
  have s23:Zal H2 (upd H2 dn (.dT [])):=Zcq hdn
  have hdn3:(upd H2 dn (.dT [])) dn=some (.dT []):=uS
  generalize upd H2 dn (.dT [])=H3 at s23 hdn3
  refine ⟨Nat.zero_le _,fun lf hlf=>?_⟩
  have s34:Zal H3 (upd H3 lf (.lst [])):=Zcq hlf
  have hlf4:(upd H3 lf (.lst [])) lf=some (.lst []):=uS
  generalize upd H3 lf (.lst [])=H4 at s34 hlf4
  have s14:=s12.trans (s23.trans s34)
  have s04:=s01.trans s14
  have dnla:dn≠la:=Ne.symm (nNo hla2 hdn)
  have lfla:lf≠la:=Ne.symm (nNo (s23 _ _ hla2) hlf)
  have lfdn:lf≠dn:=Ne.symm (nNo hdn3 hlf)
  have fla:H la=none:=s01.free hla
  have fdn:H dn=none:=(s01.trans s12).free hdn
  have flf:H lf=none:=(s01.trans (s12.trans s23)).free hlf
  have hla4:=(s23.trans s34) _ _ hla2
  have hdn4:=s34 _ _ hdn3
  refine ⟨_,rfl,_,rfl,lw,rows.map (·.1),m,rfl,s04 _ _ hw,by omega,by rw [wl];have:=pw m mn;omega,by omega,by omega,fun lb yb H5 hlb s45 hlb5 DB=>?_⟩
  have DB:Zay H5 (Zaj rows m) yb:=DB
  have s05:=s04.trans s45
  obtain ⟨Fm,eF⟩:∃ Fm:List Str→List (List Key),Fm=Znw rows (Zc3 rows ds) (n - m):=⟨_,rfl⟩
  obtain ⟨cs,ecs⟩:∃ cs:List (List Str),cs=Zaj rows m:=⟨_,rfl⟩
  have Fok:∀ b,∀ x∈Fm b,OkK x:=by rw [eF];exact Zyc rows ds (n - m)
  have csl:cs.length≤512:=by rw [ecs,al];exact pw m mn
  rw [← ecs] at DB
  have ybl:=Paired.length DB
  have nd5:lb≠la∧lb≠lf∧lb≠dn:=⟨Ne.symm (nNo hla4 hlb),Ne.symm (nNo hlf4 hlb),Ne.symm (nNo hdn4 hlb)⟩
  refine ⟨lb,rfl,⟨_,SqL.of hlb5⟩,Za6 (Zav (xs:=yb)) (fun i σ H'=>∃ (x8 x9:Option V) (va vf:List V),σ=[some (.ref lw),some (.int n),some (.ref dh),some (.int m),some (.ref lr),some (.ref la),some (.ref dn),some (.ref lf),x8,x9]∧(∀ b o,b≠la→b≠lf→b≠dn→H5 b=some o→H' b=some o)∧H' la=some (.lst va)∧H' lf=some (.lst vf)∧H' dn=some (.dT (Zsw rows ds n m (cs.take i)))∧Z1b la lf H' ((fbL Fm (cs.take i)).map Fm) va∧Zay H' (fbL Fm (cs.take i)) vf)
   ⟨none,none,[],[],rfl,fun _ _ _ _ _ e=>e,s45 _ _ hla4,s45 _ _ hlf4,by rw [List.take_zero];exact s45 _ _ hdn4,.nil,.nil⟩ (fun i σ H' _ ⟨_,_,_,_,_,kp,_⟩=>SqL.of (kp _ _ nd5.1 nd5.2.1 nd5.2.2 hlb5)) ?_ ?_⟩
  ·rintro i v σ H6 hi ⟨x8,x9,va,vf,rfl,kp6,hla6,hlf6,hdn6,FV6,DF6⟩
   obtain ⟨b,hbi,tb,rfl,htb⟩:=Zam DB hi
   have tk:∀ c xs,H5 c=some (.tup xs)→H6 c=some (.tup xs):=fun c xs e=>kp6 _ _ (fun z=>by rw [z,s45 _ _ hla4] at e;cases e) (fun z=>by rw [z,s45 _ _ hlf4] at e;cases e) (fun z=>by rw [z,s45 _ _ hdn4] at e;cases e) e
   have tk0:∀ c xs,H c=some (.tup xs)→H6 c=some (.tup xs):=fun c xs e=>tk _ _ (s05 _ _ e)
   have gb:Zbj rows m b:=Zfk b (by rw [← ecs];exact List.mem_of_getElem? hbi)
   have bl:=gb.len
   have hlr6:=kp6 _ _ (nNo hlr1 hla) (nNo ((s12.trans s23) _ _ hlr1) hlf) (nNo (s12 _ _ hlr1) hdn) (s45 _ _ (s14 _ _ hlr1))
   have DR6:Zay H6 (Zaj rows (n - m)) yr:=DR.drawn (p:=lr) (o:=.lst []) fun c xs e=>tk _ _ (s45 _ _ (s14 _ _ e))
   have hd6:H6 dh=some uh:=kp6 _ _ (nNo hd fla) (nNo hd flf) (nNo hd fdn) (s05 _ _ hd)
   have htb6:=tk _ _ htb
   have yrl:=Paired.length DR6
   rw [al] at yrl
   have pwr:=pw (n - m) (by omega)
   refine ⟨_,rfl,lr,rfl,⟨_,SqL.of hlr6⟩,Zdf (Zav (xs:=yr)) (sL (by omega)) (fun _=>true) (fun _ x v H'=>∀ r:List Str,(∃ t:Addr,x=.ref t∧H6 t=some (.tup (r.map V.str)))→∃ u:Addr,v=.ref u∧H u=some (.tup ((Zc3 rows ds (b++r)).map kV))) (fun _ _ _ _ _ _ h=>h) (fun H' s'=>s'.seq (SqL.of hlr6)) ?_ ?_ ?_⟩
   ·intro x H' R s' _ hR'
    exact hR' H' (Zal.refl _)
   ·intro D x H' R s' _ _ hx _ hR'
    obtain ⟨j,hj⟩:=List.getElem?_of_mem hx
    obtain ⟨r,hrj,t,rfl,ht⟩:=Zam DR6 hj
    have gr:Zbj rows (n - m) r:=Zfk r (List.mem_of_getElem? hrj)
    have rl:=gr.len
    obtain ⟨u1,v1,k1⟩:=hT.get (Znn (Zvx gb gr mn))
    refine ⟨_,rfl,_,rfl,_,rfl,Zmr (s' _ _ htb6) (s' _ _ ht) (by omega) fun T1 K1 sK1 hT1=>?_⟩
    have dg1:=Zgf.tr (k:=Zfo (b++r)) (Zna ((s'.trans sK1) _ _ hd6) ru) (show K1 T1=_ by rw [Zd7];exact hT1)
    rw [v1] at dg1
    refine ⟨dh,_,rfl,dg1,hR' _ K1 sK1 fun r' ⟨t',e,ht'⟩=>?_⟩
    cases e
    rw [ht] at ht'
    have e2:=Option.some.inj ht'
    injection e2 with e2
    rw [← Zrb e2]
    exact ⟨u1,rfl,by unfold Zc3;rw [Zhb];exact k1⟩
   intro D H7 ys hD s67 hD7 pr
   rw [List.filter_eq_self.mpr (fun _ _=>rfl)] at pr
   have KF:Zgs H7 (Fm b) ys:=by
    have:∀ {rs:List (List Str)} {yr ys:List V},Zay H6 rs yr→Paired (fun x v=>∀ r:List Str,(∃ t:Addr,x=.ref t∧H6 t=some (.tup (r.map V.str)))→∃ u:Addr,v=.ref u∧H u=some (.tup ((Zc3 rows ds (b++r)).map kV))) yr ys→Zgs H7 (rs.map fun r=>Zc3 rows ds (b++r)) ys:=by
     intro rs yr ys a
     induction a generalizing ys with
     | nil=>intro c;cases c;exact .nil
     | cons h t ih =>
      intro c
      cases c with
      | cons h' t' =>
       obtain ⟨u,e,hu⟩:=h' _ h
       exact .cons ⟨u,e,s67 _ _ (tk0 _ _ hu)⟩ (ih t')
    rw [eF]
    exact this DR6 pr
   have Dla:D≠la:=Ne.symm (nNo hla6 hD)
   have Dlf:D≠lf:=Ne.symm (nNo hlf6 hD)
   have Ddn:D≠dn:=Ne.symm (nNo hdn6 hD)
   have hla7:=s67 _ _ hla6
   have hlf7:=s67 _ _ hlf6
   have hdn7:=s67 _ _ hdn6
   have FV7:Z1b la lf H7 ((fbL Fm (cs.take i)).map Fm) va:=Paired.mapP FV6 fun _ _ ⟨a,ws,e,z1,z2,h,k⟩=>⟨a,ws,e,z1,z2,s67 _ _ h,k.mono s67⟩
   have DF7:=DF6.mono s67
   have htb7:=s67 _ _ htb6
   have ft:=Zvr Fm hbi
   have fl:=Zj1 Fm (cs.take i)
   rw [List.length_take] at fl
   have val:=Paired.length FV7
   rw [List.length_map] at val
   have vfl:=Paired.length DF7
   have hmem:Fm b∈(fbL Fm (cs.take (i + 1))).map Fm:=by
    rw [ft]
    unfold Ze7
    split
    ·assumption
    ·rw [List.map_append];simp
   refine ⟨fun σ' H'=>∃ (va vf:List V),σ'=[some (.ref lw),some (.int n),some (.ref dh),some (.int m),some (.ref lr),some (.ref la),some (.ref dn),some (.ref lf),some (.ref tb),some (.ref D)]∧(∀ b o,b≠la→b≠lf→b≠dn→H7 b=some o→H' b=some o)∧H' la=some (.lst va)∧H' lf=some (.lst vf)∧H' dn=some (.dT (Zsw rows ds n m (cs.take i)))∧Z1b la lf H' ((fbL Fm (cs.take (i + 1))).map Fm) va∧Zay H' (fbL Fm (cs.take (i + 1))) vf,?_,?_⟩
   ·refine ⟨_,rfl,_,rfl,Zn2 (Fm b),((fbL Fm (cs.take i)).map Fm).map Zn2,.list (SqL.of hD7) (Ze5 KF),.list (SqL.of hla7) (Zkb FV7),Zis 6 (Fok b),?_,_,rfl,?_⟩
    ·rw [List.all_eq_true]
     intro z hz
     obtain ⟨x,hx,rfl⟩:=List.mem_map.mp hz
     obtain ⟨c,_,rfl⟩:=List.mem_map.mp hx
     exact Zis 5 (Fok c)
    unfold Ze7 at ft
    by_cases hin:Fm b∈(fbL Fm (cs.take i)).map Fm
    ·rw [Z0y hin]
     rw [if_pos hin] at ft
     exact Zht ⟨va,vf,rfl,fun _ _ _ _ _ e=>e,hla7,hlf7,hdn7,by rw [ft];exact FV7,by rw [ft];exact DF7⟩
    ·rw [Zyl hin]
     rw [if_neg hin] at ft
     refine Zqt ⟨_,rfl,.inl ⟨rfl,_,SqL.of hla7⟩,_,rfl,la,_,_,rfl,rfl,hla7,Za2 (by omega),?_⟩
     have k8:∀ c o,c≠la→H7 c=some o→(upd H7 la (.lst (va++[.ref D]))) c=some o:=fun c o hc e=>by rw [Zac hc];exact e
     have hla8:(upd H7 la (.lst (va++[.ref D]))) la=some (.lst (va++[.ref D])):=uS
     generalize upd H7 la (.lst (va++[.ref D]))=H8 at k8 hla8
     have hlf8:=k8 _ _ lfla hlf7
     refine ⟨_,rfl,.inl ⟨rfl,_,SqL.of hlf8⟩,_,rfl,lf,_,_,rfl,rfl,hlf8,Za2 (by omega),?_⟩
     have k9:∀ c o,c≠la→c≠lf→H7 c=some o→(upd H8 lf (.lst (vf++[.ref tb]))) c=some o:=fun c o h1 h2 e=>by rw [Zac h2];exact k8 _ _ h1 e
     have hla9:(upd H8 lf (.lst (vf++[.ref tb]))) la=some (.lst (va++[.ref D])):=by rw [Zac (Ne.symm lfla)];exact hla8
     have hlf9:(upd H8 lf (.lst (vf++[.ref tb]))) lf=some (.lst (vf++[.ref tb])):=uS
     generalize upd H8 lf (.lst (vf++[.ref tb]))=H9 at k9 hla9 hlf9
     have tk9:∀ c xs,H7 c=some (.tup xs)→H9 c=some (.tup xs):=fun c xs e=>k9 _ _ (fun z=>by rw [z,hla7] at e;cases e) (fun z=>by rw [z,hlf7] at e;cases e) e
     refine ⟨_,_,rfl,fun c o h1 h2 _ e=>k9 _ _ h1 h2 e,hla9,hlf9,k9 _ _ dnla (Ne.symm lfdn) hdn7,?_,?_⟩
     ·rw [ft,List.map_append]
      exact Paired.snoc (Paired.mapP FV7 fun _ _ ⟨a,ws,e,z1,z2,h,k⟩=>⟨a,ws,e,z1,z2,k9 _ _ z1 z2 h,k.keep tk9⟩) ⟨D,ys,rfl,Dla,Dlf,k9 _ _ Dla Dlf hD7,KF.keep tk9⟩
     ·rw [ft]
      exact Paired.snoc (DF7.drawn (p:=la) (o:=.lst []) tk9) ⟨tb,rfl,tk9 _ _ htb7⟩
   rintro σ' H10 ⟨va2,vf2,rfl,k10,hla10,hlf10,hdn10,FV10,DF10⟩
   have tk10:∀ c xs,H7 c=some (.tup xs)→H10 c=some (.tup xs):=fun c xs e=>k10 _ _ (fun z=>by rw [z,hla7] at e;cases e) (fun z=>by rw [z,hlf7] at e;cases e) (fun z=>by rw [z,hdn7] at e;cases e) e
   have hD10:=k10 _ _ Dla Dlf Ddn hD7
   have KF10:=KF.keep tk10
   obtain ⟨i1,i2⟩:=Zkx hmem
   have fl2:=Zj1 Fm (cs.take (i + 1))
   rw [List.length_take] at fl2
   refine ⟨_,rfl,.inl ⟨rfl,_,SqL.of hla10⟩,_,rfl,_,Zn2 (Fm b),((fbL Fm (cs.take (i + 1))).map Fm).map Zn2,Zky ((fbL Fm (cs.take (i + 1))).map Fm) (Fm b),Zn2 (Fm b),rfl,.list (SqL.of hla10) (Zkb FV10),.list (SqL.of hD10) (Ze5 KF10),?_,Zis 6 (Fok b),by rw [List.length_map,List.length_map];omega,by rw [List.getElem?_map,i1];rfl,Zdv _,fun m' e hm' he=>?_,?_⟩
   ·rw [List.all_eq_true]
    intro z hz
    obtain ⟨x,hx,rfl⟩:=List.mem_map.mp hz
    obtain ⟨c,_,rfl⟩:=List.mem_map.mp hx
    exact Zis 5 (Fok c)
   ·rw [List.getElem?_map] at he
    cases hz:((fbL Fm (cs.take (i + 1))).map Fm)[m']? with
    | none=>rw [hz] at he;cases he
    | some z =>
     rw [hz] at he
     have he:=Option.some.inj he
     rw [← he]
     exact Zfi fun zz=>i2 m' z hm' hz (Zpf zz)
   rw [Zx1 Fm hbi]
   have hnew:Zfo b∉(Zsw rows ds n m (cs.take i)).map (·.1):=by
    unfold Zsw
    rw [List.map_map]
    have:(List.take i cs).map ((fun x:List Key×V=>x.1) ∘ fun b=>(Zfo b,Zff (nbL (Znw rows (Zc3 rows ds) (n - m)) (Zaj rows m) b)))=(cs.take i).map Zfo:=rfl
    rw [this]
    exact Zf3 (by rw [ecs];exact Zhc g.nd m) hbi
   refine ⟨_,rfl,_,rfl,dn,_,rfl,Zla.t (k:=Zfo b) hdn10 (by rw [Zd7];exact tk10 _ _ htb7) (Za2 (by unfold Zsw;rw [List.length_map,List.length_take];omega)),?_⟩
   rw [Zeh _ (Ze4 hnew)]
   have k11:∀ c o,c≠dn→H10 c=some o→(upd H10 dn (.dT (Zsw rows ds n m (cs.take i)++[(Zfo b,.int ((nbL Fm cs b:Nat):Int))]))) c=some o:=fun c o hc e=>by rw [Zac hc];exact e
   have tk11:∀ c xs,H10 c=some (.tup xs)→(upd H10 dn (.dT (Zsw rows ds n m (cs.take i)++[(Zfo b,.int ((nbL Fm cs b:Nat):Int))]))) c=some (.tup xs):=fun c xs e=>k11 _ _ (fun z=>by rw [z,hdn10] at e;cases e) e
   refine ⟨_,_,va2,vf2,rfl,fun c o h1 h2 h3 e=>k11 _ _ h3 (k10 _ _ h1 h2 h3 (s67 _ _ (kp6 _ _ h1 h2 h3 e))),k11 _ _ (Ne.symm dnla) hla10,k11 _ _ lfdn hlf10,?_,?_,DF10.drawn (p:=la) (o:=.lst []) tk11⟩
   ·rw [uS,List.take_add_one,hbi]
    unfold Zsw
    rw [List.map_append,← eF,← ecs]
    rfl
   ·exact Paired.mapP FV10 fun _ _ ⟨a,ws,e,z1,z2,h,k⟩=>⟨a,ws,e,z1,z2,k11 _ _ (fun z=>by rw [z,hdn10] at h;cases h) h,k.keep tk11⟩
  ·rintro σ H6 ⟨x8,x9,va,vf,rfl,kp6,hla6,hlf6,hdn6,FV6,DF6⟩
   rw [← ybl,List.take_length] at hdn6 DF6
   refine ⟨_,rfl,_,rfl,sL (by show 2≤100000;decide),fun t ht=>?_⟩
   have s7:Zal H6 (upd H6 t (.tup [.ref dn,.ref lf])):=Zcq ht
   rw [ecs] at hdn6 DF6
   rw [eF] at DF6
   exact q t dn lf vf _ (fun c o e=>s7 _ _ (kp6 _ _ (nNo e fla) (nNo e flf) (nNo e fdn) (s05 _ _ e))) flf ⟨uS,s7 _ _ hdn6,s7 _ _ hlf6,DF6.mono s7⟩
end
end K46
namespace K46
open PySem L2 Md
noncomputable def Zrh:Sp:=fun vs H Q _=>∃ (lw dh:Addr) (uh:HO) (kvs:List (List Key×V)) (rows:List (Str×List Str)) (n:Nat) (ds:List (List Str)),vs=[.ref lw,.int n,.ref dh]∧H lw=some (.lst ((rows.map (·.1)).map V.str))∧Zek rows∧H dh=some uh∧RdO uh kvs∧Ze3 H rows ds (Zaj rows n) kvs∧n≤4∧rows.length ^ n≤512 ∧
 ∀ t H',Zal H H'→Z0z H H' t (Zoj rows ds n) (Ztl rows ds n)→Q (.ref t) H'
abbrev nLk:List Str:=["words","places","heard","rows","steps","place","numbers","states","begin"]
abbrev Zt6:List Str:=["words","places","heard"]
theorem Z27:Zap nLk Zt6 (Zab Zbi):=⟨rfl,rfl,rfl,by decide +kernel,rfl,by decide +kernel,by decide +kernel⟩
theorem Zxx:(["many","words","places","heard"]:List Str).Nodup:=by decide +kernel
theorem Zz5:(["word","numbers","begin"]:List Str).Nodup:=by decide +kernel
theorem Z0e:(["call","heard"]:List Str).Nodup:=by decide +kernel
theorem Zv0.upd {rows:List (Str×List Str)}{ds:List (List Str)}{n m:Nat}{H:Hp}{t dn lf D:Addr}{ub ys zs:List V}(h:Zv0 rows ds n m H t dn lf ub) (hD:H D=some (.lst ys)) (ne:lf≠D):Zv0 rows ds n m (upd H D (.lst zs)) t dn lf ub:=by
 obtain ⟨h1,h2,h3,h4⟩:=h
 have tk:∀ b xs,H b=some (.tup xs)→(L2.upd H D (.lst zs)) b=some (.tup xs):=fun b xs e=>by rw [Zac (fun z=>by rw [z,hD] at e;cases e)];exact e
 exact ⟨tk _ _ h1,by rw [Zac (fun z=>by rw [z,hD] at h2;cases h2)];exact h2,by rw [Zac ne];exact h3,h4.drawn (p:=D) (o:=.lst []) tk⟩
theorem Zv0.mono {rows:List (Str×List Str)}{ds:List (List Str)}{n m:Nat}{H H':Hp}{t dn lf:Addr}{ub:List V}(h:Zv0 rows ds n m H t dn lf ub) (s:Zal H H'):Zv0 rows ds n m H' t dn lf ub:=by
 obtain ⟨h1,h2,h3,h4⟩:=h
 exact ⟨s _ _ h1,s _ _ h2,s _ _ h3,h4.mono s⟩
def Z3t (ws:List Str) (g:Str→Nat) (_:Addr) (x v:V) (_:Hp):Prop:=∀ y:Str,x=.str y→v=Zff (g y)
theorem Zq1 {K:PySem.W.Frag}{l:Addr}{H1:Hp}{ws:List Str}{js:List Nat}{te:TE}{σ:St}{Q:VK}(g:Str→Nat) (hl:H1 l=some (.lst (ws.map V.str))) (few:ws.length≤600)
  (he:∀ (x:Str) H' (R:VK),x∈ws→Zal H1 H'→(∀ H'',Zal H' H''→R (Zff (g x)) H'')→te (some (.str x):: js.map fun j=>(σ[j]?).join) H' R)
  (hq:∀ D H',H1 D=none→Zal H1 H'→H' D=some (.lst ((ws.map g).map Zff))→Q (.ref D) H'):compBody 1 js (Zet 0) Zpq te σ Q (Itl K l) H1:=by
 refine Zdf (Zav (xs:=ws.map V.str)) (by rw [List.length_map];exact sL (by omega)) (fun _=>true) (Z3t ws g) (fun _ _ _ _ _ _ h=>h) (fun H' s'=>s'.seq (SqL.of hl)) ?_ ?_ ?_
 ·intro x H' R s' _ hR'
  exact hR' H' (Zal.refl _)
 ·intro D x H' R s' _ _ hx _ hR'
  obtain ⟨y,hy,rfl⟩:=List.mem_map.mp hx
  exact he y H' R hy s' fun H'' s''=>hR' _ H'' s'' fun y' e=>by cases e;rfl
 ·intro D H' ys hD s' hl' pr
  rw [List.filter_eq_self.mpr (fun _ _=>rfl)] at pr
  have e:ys=(ws.map g).map Zff:=by
   have:∀ {ws':List Str} {ys:List V},Paired (fun x v=>Z3t ws g l x v H1) (ws'.map V.str) ys→ys=(ws'.map g).map Zff:=by
    intro ws'
    induction ws' with
    | nil=>intro ys b;cases b;rfl
    | cons y r ih =>
     intro ys b
     cases b with
     | cons h' t'=>rw [List.map_cons,List.map_cons,h' y rfl,ih t']
   exact this pr
  rw [e] at hl'
  exact hq D H' hD s' hl'
section
variable {P:Program} {w:World} {K:PySem.W.Frag} {mg:Str→Option Value} {base:Heap}
set_option maxHeartbeats 8000000 in
theorem Zu0 {f fSt:Addr}{fd fdSt:FuncData}(F:Def K mg "_law_walker" Zbi Zt6 f fd) (range:mg "range"=none) (DSt:Def K mg "_law_states" Zbz Z0f fSt fdSt) (GSt:Za3 P w K mg base CX0 2 fSt fdSt Z0f Zol):Za3 P w K mg base CX0 3 f fd Zt6 Zrh:=by
 refine F.fn.ok Z27 (fun vs H Q E h=>?_) (fun cdv A outer s H vs Q E hr h=>?_)
 ·obtain ⟨lw,dh,uh,kvs,rows,n,ds,rfl,_⟩:=h
  rfl
 ·obtain ⟨lw,dh,uh,kvs,rows,n,ds,rfl,hw,g,hd,ru,hT,n4,rc,q⟩:=h
  have nd:=Z27.nd
  have hu:=Zfw hr
  refine' ⟨_,(pS ?e1
   (pS (Zag (i:=4) nd rfl (Or.inl rfl) (Zb9 Zaa))
   (pS (Zbw PassesOwn.never rfl (Zb5 (by rfl) range (pC (pv 1) Zaa)) (Zah (i:=5) nd rfl (Or.inl rfl))
    (pS (Zag (i:=6) nd rfl (Or.inr rfl) (Za5 (r:=Zlr K) Zd0 (Za5 (r:=Zfd K) Zar (pv 3) (Zba Zdr (pv 5) Zae) (fun _ _=>rfl)) Zae (fun _ _=>rfl)))
   (pS (Zag (i:=7) nd rfl (Or.inl rfl) (Zb9 Zaa))
   (pS (Zbw PassesOwn.never rfl (Zbd (Za5 (r:=Zlr K) Zd0 (Za5 (r:=Zfd K) Zar (pv 3) (pv 5) (fun _ _=>rfl)) Zae (fun _ _=>rfl))) (Zah (i:=8) nd rfl (Or.inr rfl))
     (Zad (Za9 (Zej PySem.F.plainAttrs_list PySem.F.slot_list_append PySem.F.type_list_append Zb6 (pv 7) (pC ?e2 Zaa)))))
   (Zad (Za9 (Zej PySem.F.plainAttrs_list PySem.F.slot_list_append PySem.F.type_list_append Zb6 (pv 4) (pC (pv 7) Zaa))))))))
   (Zad (Zat (Zb8 (pC (pv 4) (pC ?e3 Zaa)))))))),?_⟩
  case e1=>exact (Zel (k:=3) ["many"] ["words","places","heard"] [0,1,2] nd rfl rfl (fun _=>Za0 (osc:=Zab Zbi) (on:=nLk) (by decide +kernel) rfl rfl rfl) (Zb5 (by rfl) range (pC (Zba Zdr (pv 1) Zae) Zaa)) (fun C s H fp=>Zah (i:=0) Zxx rfl (Or.inl rfl) (Or.inr rfl)) (fun C s H fp=>Zbn) (fun C s H fp=>Zaf DSt GSt hr (pC (pv 1) (pC (pv 2) (pC (pv 3) (pC (pv 0) Zaa))))))
  case e2=>exact (Zbr ["word"] ["numbers","begin"] [6,8] (fun _=>Za0 (osc:=Zab Zbi) (on:=nLk) (by decide +kernel) rfl rfl rfl) (Zbd (pv 0)) (fun C s H fp=>Zah (i:=0) Zz5 rfl (Or.inl rfl) (Or.inr rfl)) (fun C s H fp=>Zbn) (fun C s H fp=>Zer hu (pv 1) (Zba (r:=Zpw K) Zkh (pv 2) (Zb8 (pC (pv 0) Zaa))) (fun _ _=>rfl)))
  case e3=>exact (Zbr ["call"] ["heard"] [2] (fun _=>Za0 (osc:=Zab Zbi) (on:=nLk) (by decide +kernel) rfl rfl rfl) (Zbd (Za5 (r:=Zlr K) Zd0 (Za5 (r:=Zfd K) Zar (pv 3) (pv 1) (fun _ _=>rfl)) Zae (fun _ _=>rfl))) (fun C s H fp=>Zah (i:=0) Z0e rfl (Or.inl rfl) (Or.inr rfl)) (fun C s H fp=>Zbn) (fun C s H fp=>Zer hu (pv 1) (pv 0) (fun _ _=>rfl)))
  have al:=Zev rows
  have gle:=g.le
  have gne:1≤rows.length:=by have:=g.ne;omega
  have wl:(rows.map (·.1)).length=rows.length:=List.length_map ..
  have pw:∀ j,j≤n→(Zaj rows j).length≤512:=fun j hj=>by rw [al];exact Nat.le_trans (Zf4 gne hj) rc
  refine ⟨_,rfl,_,_,rfl,rfl,((n:Nat):Int) + 1,rfl,by omega,by omega,Zha Zbm (by rw [Zau];exact sL (by omega)) (fun D i ys σ' H'=>Zal H H'∧H' D=some (.lst ys)∧(∃ o:Option V,σ'=[o,some (.ref lw),some (.int n),some (.ref dh)])∧Paired (fun j v=>∃ t dn lf ub,v=.ref t∧lf≠D∧Zv0 rows ds n j H' t dn lf ub) (List.range i) ys)
   (fun D hD=>⟨Zcq hD,uS,⟨none,rfl⟩,.nil⟩) (fun D i ys σ' H' hi ⟨_,_,_,pr⟩=>⟨trivial,by have:=Paired.length pr;rw [List.length_range] at this;omega⟩) ?_ ?_⟩
  ·rintro D i v ys σ' H1 hD hi ⟨s1,hD1,⟨o,rfl⟩,pr⟩
   obtain ⟨hi,rfl⟩:=Za4 hi
   have hi:i<n + 1:=by omega
   refine ⟨_,rfl,_,rfl,_,rfl,_,rfl,lw,dh,uh,kvs,rows,n,i,ds,by rw [Int.zero_add];rfl,s1 _ _ hw,g,s1 _ _ hd,ru,hT.keep (fun b xs e=>s1 _ _ e),by omega,n4,rc,fun t dn lf ub H2 s2 flf st=>?_⟩
   have hD2:=s2 _ _ hD1
   have lfD:lf≠D:=fun z=>by rw [z,hD1] at flf;cases flf
   refine ⟨hD2,fun b o e=>by rw [Zac (nNo e hD)];exact s2 _ _ (s1 _ _ e),uS,⟨_,rfl⟩,?_⟩
   rw [List.range_succ]
   exact Paired.snoc (Paired.mapP pr fun _ _ ⟨t,dn,lf,ub,e,z,h⟩=>⟨t,dn,lf,ub,e,z,(h.mono s2).upd hD2 z⟩) ⟨t,dn,lf,ub,rfl,lfD,st.upd hD2 lfD⟩
  rintro lR ys σ' H1 hlR ⟨s1,hlR1,⟨o,rfl⟩,pr⟩
  rw [Zau] at pr
  have en1:(((n:Nat):Int) + 1).toNat=n + 1:=by omega
  rw [en1] at pr
  have get:∀ j,j≤n→∃ t dn lf ub,ys[j]?=some (.ref t)∧lf≠lR∧Zv0 rows ds n j H1 t dn lf ub:=fun j hj=>by
   obtain ⟨v,hv,t,dn,lf,ub,e,z,h⟩:=Zhi pr (List.getElem?_range (show j<n + 1 by omega))
   exact ⟨t,dn,lf,ub,by rw [hv,e],z,h⟩
  refine ⟨Nat.zero_le _,fun ls hls=>?_⟩
  have s12:Zal H1 (upd H1 ls (.lst [])):=Zcq hls
  have hls2:(upd H1 ls (.lst [])) ls=some (.lst []):=uS
  generalize upd H1 ls (.lst [])=H2 at s12 hls2
  have flsH:H ls=none:=s1.free hls
  refine ⟨_,rfl,n,rfl,by omega,by omega,Za6 Zbm (fun i σ H'=>∃ (x5 x6 x7 x8:Option V) (vs:List V),σ=[some (.ref lw),some (.int n),some (.ref dh),some (.ref lR),some (.ref ls),x5,x6,x7,x8]∧(∀ b o,b≠ls→H2 b=some o→H' b=some o)∧H' ls=some (.lst vs)∧Zfy H2 H' ((List.range i).map (Zw4 rows (Zc3 rows ds) n)) vs)
   ⟨none,none,none,none,[],rfl,fun _ _ _ e=>e,hls2,.nil⟩ (fun _ _ _ _ _=>trivial) ?_ ?_⟩
  ·rintro i v σ H3 hi ⟨x5,x6,x7,x8,vs,rfl,kp3,hls3,S3⟩
   obtain ⟨hi,rfl⟩:=Za4 hi
   have hi:i<n:=by omega
   have s13:Zal H1 H3:=fun b o e=>kp3 b o (nNo e hls) (s12 _ _ e)
   obtain ⟨t1,dn1,lf1,ub1,y1,_,st1⟩:=get (i + 1) (by omega)
   obtain ⟨t0,dn0,lf0,ub0,y0,_,st0⟩:=get i (by omega)
   have st1:=st1.mono s13
   have st0:=st0.mono s13
   have e1:(0 + ((i:Nat):Int) + 1)=((i + 1:Nat):Int):=by omega
   have vl:=Paired.length S3
   rw [List.length_map,List.length_range] at vl
   refine ⟨_,rfl,_,rfl,_,_,rfl,rfl,lR,_,_,_,rfl,rfl,SqL.of (s13 _ _ hlR1),by rw [e1];exact Zc0 y1,t1,_,_,_,rfl,rfl,SqT.of st1.1,rfl,?_⟩
   refine ⟨Nat.zero_le _,fun la hla=>?_⟩
   have s34:Zal H3 (upd H3 la (.lst [])):=Zcq hla
   have hla4:(upd H3 la (.lst [])) la=some (.lst []):=uS
   generalize upd H3 la (.lst [])=H4 at s34 hla4
   have lals:la≠ls:=Ne.symm (nNo hls3 hla)
   have fla2:H2 la=none:=by
    cases z:H2 la with
    | none=>rfl
    | some o=>rw [kp3 _ _ lals z] at hla;cases hla
   have lf0la:lf0≠la:=nNo st0.2.2.1 hla
   have st1:=st1.mono s34
   have st0:=st0.mono s34
   have s14:=s13.trans s34
   have s04:=s1.trans s14
   obtain ⟨bs,ebs⟩:∃ bs:List (List Str),bs=fbL (Znw rows (Zc3 rows ds) (n - i)) (Zaj rows i):=⟨_,rfl⟩
   have DB:=st0.2.2.2
   rw [← ebs] at DB
   have bl:=Paired.length DB
   have bsl:bs.length≤512:=by rw [ebs];exact Nat.le_trans (Zj1 _ _) (pw i (by omega))
   refine ⟨_,rfl,_,rfl,lR,_,_,_,rfl,rfl,SqL.of (s14 _ _ hlR1),by rw [Int.zero_add];exact Zc0 y0,t0,_,_,_,rfl,rfl,SqT.of st0.1,rfl,lf0,rfl,⟨_,SqL.of st0.2.2.1⟩,Za6 (Zav (xs:=ub0)) (fun j σ H'=>∃ (x8:Option V) (ws:List V),σ=[some (.ref lw),some (.int n),some (.ref dh),some (.ref lR),some (.ref ls),some (.int (0 + (i:Nat))),some (.ref dn1),some (.ref la),x8]∧(∀ b o,b≠la→H4 b=some o→H' b=some o)∧H' la=some (.lst ws)∧Zhd H4 H' ((bs.take j).map (Z1p rows (Zc3 rows ds) (n - i - 1) i)) ws)
    ⟨_,[],rfl,fun _ _ _ e=>e,hla4,.nil⟩ (fun j σ H' _ ⟨_,_,_,kp,_⟩=>SqL.of (kp _ _ lf0la st0.2.2.1)) ?_ ?_⟩
   ·rintro j v σ H5 hj ⟨x8,ws,rfl,kp5,hla5,L5⟩
    obtain ⟨b,hbj,tb,rfl,htb⟩:=Zam DB hj
    have tk5:∀ c xs,H4 c=some (.tup xs)→H5 c=some (.tup xs):=fun c xs e=>kp5 _ _ (fun z=>by rw [z,hla4] at e;cases e) e
    have gb:Zbj rows i b:=Zfk b (by rw [ebs] at hbj;exact Zth _ _ b (List.mem_of_getElem? hbj))
    have bl':=gb.len
    have dn1la:dn1≠la:=fun z=>by have:=st1.2.1;rw [z,hla4] at this;cases this
    have hdn5:=kp5 _ _ dn1la st1.2.1
    have hw5:=kp5 _ _ (nNo (s1.trans s13 _ _ hw) hla) (s04 _ _ hw)
    have wsl:=Paired.length L5
    rw [List.length_map,List.length_take] at wsl
    refine ⟨_,rfl,.inl ⟨rfl,_,SqL.of hla5⟩,_,rfl,lw,rfl,⟨_,SqL.of hw5⟩,Zq1 (fun x=>nbL (Znw rows (Zc3 rows ds) (n - (i + 1))) (Zaj rows (i + 1)) (b++[x])) hw5 (by omega) (fun x H' R hx s' hR=>?_) fun D H6 hD s56 hD6=>?_⟩
    ·refine ⟨_,rfl,_,rfl,_,rfl,sL (by show 1≤100000;decide),fun t2 ht2=>?_⟩
     have s2:Zal H' (upd H' t2 (.tup [.str x])):=Zcq ht2
     refine Zmr (r:=[x]) (s2 _ _ (s' _ _ (tk5 _ _ htb))) uS (by show _ + 1≤1000;omega) fun T1 K1 sK1 hT1=>?_
     have dg:=Zgf.t (k:=Zfo (b++[x])) ((s'.trans (s2.trans sK1)) _ _ hdn5) (show K1 T1=_ by rw [Zd7];exact hT1)
     rw [Zoy (Znn (n:=i + 1) ⟨by rw [List.length_append,bl'];rfl,fun y hy=>by
      rcases List.mem_append.mp hy with z | z
      ·exact gb.known y z
      ·rw [List.mem_singleton.mp z];exact hx⟩)] at dg
     exact ⟨dn1,_,rfl,dg,hR K1 (s2.trans sK1)⟩
    have hla6:=s56 _ _ hla5
    have Dla:D≠la:=Ne.symm (nNo hla5 hD)
    refine ⟨la,_,_,rfl,rfl,hla6,Za2 (by omega),?_⟩
    have k7:∀ c o,c≠la→H6 c=some o→(upd H6 la (.lst (ws++[.ref D]))) c=some o:=fun c o hc e=>by rw [Zac hc];exact e
    have fr:∀ c,H4 c=none→c≠la:=fun c f z=>by rw [z,hla4] at f;cases f
    have fD:H4 D=none:=by
     cases z:H4 D with
     | none=>rfl
     | some o=>rw [kp5 _ _ Dla z] at hD;cases hD
    refine ⟨_,_,rfl,fun c o hc e=>k7 _ _ hc (s56 _ _ (kp5 _ _ hc e)),uS,?_⟩
    rw [List.take_add_one,hbj]
    show Zhd H4 _ (List.map _ (bs.take j++[b])) _
    rw [List.map_append]
    exact Paired.snoc (L5.keep fun c o f e=>k7 _ _ (fr c f) (s56 _ _ e)) ⟨D,rfl,fD,k7 _ _ Dla hD6⟩
   rintro σ H5 ⟨x8,ws,rfl,kp5,hla5,L5⟩
   rw [← bl,List.take_length,ebs] at L5
   have lsla:ls≠la:=Ne.symm lals
   have hls5:=kp5 _ _ lsla (s34 _ _ hls3)
   refine ⟨_,rfl,.inl ⟨rfl,_,SqL.of hls5⟩,_,rfl,ls,_,_,rfl,rfl,hls5,Za2 (by omega),?_⟩
   have k6:∀ c o,c≠ls→H5 c=some o→(upd H5 ls (.lst (vs++[.ref la]))) c=some o:=fun c o hc e=>by rw [Zac hc];exact e
   have fr2:∀ c,H2 c=none→c≠ls:=fun c f z=>by rw [z,hls2] at f;cases f
   have f42:∀ c,H4 c=none→H2 c=none:=fun c f=>by
    cases z:H2 c with
    | none=>rfl
    | some o =>
     by_cases zc:c=ls
     ·rw [zc,s34 _ _ hls3] at f;cases f
     ·rw [s34 _ _ (kp3 _ _ zc z)] at f;cases f
   have k35:∀ c o,H3 c=some o→H5 c=some o:=fun c o e=>kp5 _ _ (nNo e hla) (s34 _ _ e)
   refine ⟨_,_,_,_,_,rfl,fun c o hc e=>k6 _ _ hc (k35 _ _ (kp3 _ _ hc e)),uS,?_⟩
   rw [List.range_succ,List.map_append]
   refine Paired.snoc (S3.keep fun c o f e=>k6 _ _ (fr2 c f) (k35 _ _ e)) ⟨la,ws,rfl,fla2,k6 _ _ lals hla5,?_⟩
   exact (L5.old f42).keep fun c o f e=>k6 _ _ (fr2 c f) e
  ·rintro σ H3 ⟨x5,x6,x7,x8,vs,rfl,kp3,hls3,S3⟩
   rw [Zau] at S3
   have en:((n:Nat):Int).toNat=n:=by simp
   rw [en] at S3
   have s13:Zal H1 H3:=fun b o e=>kp3 b o (nNo e hls) (s12 _ _ e)
   have s03:=s1.trans s13
   obtain ⟨tn,dn,lf,ub,yn,_,st⟩:=get n (Nat.le_refl _)
   have st:=st.mono s13
   have DB:=st.2.2.2
   rw [Nat.sub_self,(Zvs rows (Zc3 rows ds) n).1] at DB
   have ubl:=Paired.length DB
   have few:ub.length≤512:=by rw [← ubl];exact Nat.le_trans (Zj1 _ _) (pw n (Nat.le_refl _))
   have hd3:=s03 _ _ hd
   refine ⟨_,rfl,_,rfl,_,rfl,lR,_,_,_,rfl,rfl,SqL.of (s13 _ _ hlR1),Zc0 yn,tn,_,_,_,rfl,rfl,SqT.of st.1,rfl,lf,rfl,⟨_,SqL.of st.2.2.1⟩,Zdf (Zav (xs:=ub)) (sL (by omega)) (fun _=>true) (fun _ x v H'=>∀ r:List Str,(∃ t:Addr,x=.ref t∧H3 t=some (.tup (r.map V.str)))→∃ u:Addr,v=.ref u∧H u=some (.tup ((Zc3 rows ds r).map kV))) (fun _ _ _ _ _ _ h=>h) (fun H' s'=>s'.seq (SqL.of st.2.2.1)) ?_ ?_ ?_⟩
   ·intro x H' R s' _ hR'
    exact hR' H' (Zal.refl _)
   ·intro D x H' R s' _ _ hx _ hR'
    obtain ⟨j,hj⟩:=List.getElem?_of_mem hx
    obtain ⟨r,hrj,t,rfl,ht⟩:=Zam DB hj
    obtain ⟨u1,v1,k1⟩:=hT.get (Zth _ _ r (List.mem_of_getElem? hrj))
    have dg1:=Zgf.tr (k:=Zfo r) (Zna (s' _ _ hd3) ru) (show H' t=_ by rw [Zd7];exact s' _ _ ht)
    rw [v1] at dg1
    refine ⟨_,rfl,_,rfl,dh,_,rfl,dg1,hR' _ H' (Zal.refl _) fun r' ⟨t',e,ht'⟩=>?_⟩
    cases e
    rw [ht] at ht'
    have e2:=Option.some.inj ht'
    injection e2 with e2
    rw [← Zrb e2]
    exact ⟨u1,rfl,by unfold Zc3;rw [Zhb];exact k1⟩
   intro le H4 us hle s34 hle4 pr2
   rw [List.filter_eq_self.mpr (fun _ _=>rfl)] at pr2
   have E4:Zgs H4 (Ztl rows ds n) us:=by
    have:∀ {rs:List (List Str)} {yr ys:List V},Zay H3 rs yr→Paired (fun x v=>∀ r:List Str,(∃ t:Addr,x=.ref t∧H3 t=some (.tup (r.map V.str)))→∃ u:Addr,v=.ref u∧H u=some (.tup ((Zc3 rows ds r).map kV))) yr ys→Zgs H4 (rs.map (Zc3 rows ds)) ys:=by
     intro rs yr ys a
     induction a generalizing ys with
     | nil=>intro c;cases c;exact .nil
     | cons h t ih =>
      intro c
      cases c with
      | cons h' t' =>
       obtain ⟨u,e,hu⟩:=h' _ h
       exact .cons ⟨u,e,s34 _ _ (s03 _ _ hu)⟩ (ih t')
    exact this DB pr2
   refine ⟨sL (by show 2≤100000;decide),fun t ht=>?_⟩
   have s45:Zal H4 (upd H4 t (.tup [.ref ls,.ref le])):=Zcq ht
   have s35:=s34.trans s45
   refine q t _ (s03.trans s35) ⟨ls,le,vs,us,uS,flsH,s03.free hle,s35 _ _ hls3,s45 _ _ hle4,?_,E4.mono s45⟩
   exact (S3.old fun b f=>(s1.trans s12).free f).keep fun b o _ e=>s35 _ _ e
end
end K46
namespace K46
open PySem L2 Md
def LnC (H:Hp) (ls:List (List Int)) (ws:List V):Prop:=Paired (fun l w=>∃ b,w=.ref b∧H b=some (.lst (l.map V.int))) ls ws
def StC (H:Hp) (ss:List (List (List Int))) (vs:List V):Prop:=Paired (fun s v=>∃ a ws,v=.ref a∧H a=some (.lst ws)∧LnC H s ws) ss vs
def WkC (H:Hp) (ls le:Addr) (ss:List (List (List Int))) (es:List (List Key)):Prop:=∃ vs us,H ls=some (.lst vs)∧StC H ss vs∧H le=some (.lst us)∧Zgs H es us
theorem LnC.mono {H H':Hp}{ls:List (List Int)}{ws:List V}(h:LnC H ls ws) (s:Zal H H'):LnC H' ls ws:=Paired.mapP h fun _ _ ⟨b,e,h⟩=>⟨b,e,s _ _ h⟩
theorem StC.mono {H H':Hp}{ss:List (List (List Int))}{vs:List V}(h:StC H ss vs) (s:Zal H H'):StC H' ss vs:=Paired.mapP h fun _ _ ⟨a,ws,e,h,l⟩=>⟨a,ws,e,s _ _ h,l.mono s⟩
theorem WkC.mono {H H':Hp}{ls le:Addr}{ss:List (List (List Int))}{es:List (List Key)}(h:WkC H ls le ss es) (s:Zal H H'):WkC H' ls le ss es:=by
 obtain ⟨vs,us,h1,h2,h3,h4⟩:=h
 exact ⟨vs,us,s _ _ h1,h2.mono s,s _ _ h3,h4.mono s⟩
def goW (ws:List Str):List (List (List Int))→List Str→Int→Option Int
 | s :: ss,x :: c,n=>if 0≤n∧n<s.length then (match s[n.toNat]? with
   | some l=>if l.length=ws.length then (match l[Zky ws x]? with
    | some v=>goW ws ss c v
    | none=>none) else none
   | none=>none) else none
 | _,_,n=>some n
def Zj5 (ws:List Str) (ss:List (List (List Int))) (es:List (List Key)) (c:List Str):Option (List Key):=(goW ws ss c 0).bind fun n=>if 0≤n∧n<es.length then es[n.toNat]? else none
def Zyw (H:Hp) (r:Option (List Key)) (v:V):Prop:=(r=none∧v=.non)∨∃ k t,r=some k∧v=.ref t∧H t=some (.tup (k.map kV))
theorem Zyw.mono {H H':Hp}{r:Option (List Key)}{v:V}(h:Zyw H r v) (s:Zal H H'):Zyw H' r v:=by
 rcases h with h | ⟨k,t,e1,e2,h⟩
 ·exact .inl h
 ·exact .inr ⟨k,t,e1,e2,s _ _ h⟩
def Zqv:Option (List Key)→Dt
 | none=>.none
 | some k=>Zn3 k
theorem Zh4 {K:PySem.W.Frag}{H:Hp}{r:Option (List Key)}{v:V}(h:Zyw H r v):Rep K H v (Zqv r):=by
 rcases h with ⟨e,e2⟩ | ⟨k,t,e,e2,h⟩
 ·rw [e,e2];exact .none
 ·rw [e,e2];exact Zh3 h
theorem Zkl (m:Nat) {r:Option (List Key)}(h:∀ k,r=some k→OkK k):PySem.W.kqdOk (m + 2) (Zqv r)=true:=by
 cases r with
 | none=>show PySem.W.kqdOk (m + 2) .none=true;rw [PySem.W.kqdOk]
 | some k=>exact Zkj m (h k rfl)
theorem Zpe {a b:Option (List Key)}(h:Zqv a=Zqv b):a=b:=by
 cases a with
 | none=>cases b with
  | none=>rfl
  | some k=>cases h
 | some j=>cases b with
  | none=>cases h
  | some k=>rw [Zpg h]
theorem Zo7 {ws:List Str}{ss:List (List (List Int))}{c:List Str}{i:Nat}{s:List (List Int)}{x:Str}{n:Int}(hs:ss[i]?=some s) (hc:c[i]?=some x) (h:¬ (0≤n∧n<s.length)):goW ws (ss.drop i) (c.drop i) n=none:=by
 obtain ⟨h1,e1⟩:=List.getElem?_eq_some_iff.mp hs
 obtain ⟨h2,e2⟩:=List.getElem?_eq_some_iff.mp hc
 rw [List.drop_eq_getElem_cons h1,List.drop_eq_getElem_cons h2,e1,e2]
 show (if 0≤n∧n<s.length then _ else none)=none
 rw [if_neg h]
theorem Zvn {ws:List Str}{ss:List (List (List Int))}{c:List Str}{i:Nat}{s:List (List Int)}{x:Str}{n:Int}{l:List Int}(hs:ss[i]?=some s) (hc:c[i]?=some x) (h:0≤n∧n<s.length) (hl:s[n.toNat]?=some l):
  goW ws (ss.drop i) (c.drop i) n=if l.length=ws.length then (match l[Zky ws x]? with
    | some v=>goW ws (ss.drop (i + 1)) (c.drop (i + 1)) v
    | none=>none) else none:=by
 obtain ⟨h1,e1⟩:=List.getElem?_eq_some_iff.mp hs
 obtain ⟨h2,e2⟩:=List.getElem?_eq_some_iff.mp hc
 rw [List.drop_eq_getElem_cons h1,List.drop_eq_getElem_cons h2,e1,e2]
 show (if 0≤n∧n<s.length then (match s[n.toNat]? with
   | some l=>if l.length=ws.length then (match l[Zky ws x]? with
    | some v=>goW ws (ss.drop (i + 1)) (c.drop (i + 1)) v
    | none=>none) else none
   | none=>none) else none)=_
 rw [if_pos h,hl]
theorem Zte {ws:List Str}{ss:List (List (List Int))}{c:List Str}{i:Nat}{n:Int}(h:ss.length≤i∨c.length≤i):goW ws (ss.drop i) (c.drop i) n=some n:=by
 rcases h with h | h
 ·rw [List.drop_eq_nil_of_le h];rfl
 ·rw [List.drop_eq_nil_of_le h]
  cases ss.drop i <;> rfl
structure Z09 (ss:List (List (List Int))) (es:List (List Key)):Prop where
 few:ss.length≤100
 st:∀ s∈ss,s.length≤5000∧∀ l∈s,l.length≤5000
 fewE:es.length≤5000
 ok:∀ k∈es,OkK k
def Zro:Sp:=fun vs H Q _=>∃ (lw ls le t:Addr) (ws:List Str) (ss:List (List (List Int))) (es:List (List Key)) (c:List Str),vs=[.ref lw,.ref ls,.ref le,.ref t]∧H lw=some (.lst (ws.map V.str))∧WkC H ls le ss es∧Z09 ss es∧H t=some (.tup (c.map V.str))∧(∀ x∈c,x∈ws)∧(∀ x∈ws,PyData.strOk x=true)∧ws.length≤1000∧c.length≤100 ∧
 ∀ v H',Zal H H'→Zyw H' (Zj5 ws ss es c) v→Q v H'
abbrev nAb:List Str:=["words","steps","ends","call","number","states","word"]
abbrev Zqs:List Str:=["words","steps","ends","call"]
theorem Z3k:Zap nAb Zqs (Zab Zcy):=⟨rfl,rfl,rfl,by decide +kernel,rfl,by decide +kernel,by decide +kernel⟩
abbrev nLa:List Str:=["words","steps","ends","call","at","states","word"]
theorem Z28:Zap nLa Zqs (Zab Zcf):=⟨rfl,rfl,rfl,by decide +kernel,rfl,by decide +kernel,by decide +kernel⟩
theorem Zux {ws:List Str}(h:∀ x∈ws,PyData.strOk x=true):(ws.map PySem.W.Dat.str).all (PySem.W.kqdOk 8)=true:=by
 rw [List.all_eq_true]
 intro d hd
 obtain ⟨x,hx,rfl⟩:=List.mem_map.mp hd
 exact h x hx
theorem Zi3 {ws:List Str}{x:Str}(hx:x∈ws):(ws.map PySem.W.Dat.str)[Zky ws x]?=some (.str x)∧∀ m e,m<Zky ws x→(ws.map PySem.W.Dat.str)[m]?=some e→dEq e (.str x)=false:=by
 obtain ⟨i1,i2⟩:=Zkx hx
 refine ⟨by rw [List.getElem?_map,i1];rfl,fun m e hm he=>?_⟩
 rw [List.getElem?_map] at he
 cases hz:ws[m]? with
 | none=>rw [hz] at he;cases he
 | some z =>
  rw [hz] at he
  have he:=Option.some.inj he
  rw [← he]
  exact Zfi fun zz=>i2 m z hm hz (by injection zz)
theorem Zpj {xs:List V}{v:Int}{x:V} (h0:0≤v) (h:xs[v.toNat]?=some x):atI xs v=some x:=by
 have e:((v.toNat:Nat):Int)=v:=by omega
 have:=Zc0 h
 rw [e] at this
 exact this
abbrev Z1s (K:PySem.W.Frag):List V→Hp→VK→Prop:=fun xs H Q=>∃ p ys,xs=[V.ref p]∧(SqL K H p ys∨SqT K H p ys)∧Q (V.int ys.length) H
abbrev Z1k (K:PySem.W.Frag):TS:=Zw0 (Z2y (tOr (Z2x (Zuc (Zv2 (rI0 fun i j=>V.bl (decide (i≤j))) (rI0 fun i j=>V.bl (decide (i<j))) (tC (V.int 0)) (Zog 4) (tCB (Z1s K) (Zle (Zog 5) Zue))))) (Zuc (tOp rNe (tCB (Z1s K) (Zle (tOp (Zfd K) (Zog 5) (Zog 4)) Zue)) (tCB (Z1s K) (Zle (Zog 0) Zue))))) (Z2w (tC V.non)) Zy3) (Zuf (tOp (Zfd K) (tOp (Zfd K) (Zog 5) (Zog 4)) (tBM K "list" (Zr5 K) (Zog 0) (Zle (Zog 6) Zue))) (Zet 4))
theorem Zpl {K:PySem.W.Frag}{lw ls le t tz:Addr}{ws:List Str}{vs:List V}{ss:List (List (List Int))}{c:List Str}{i:Nat}{pr:V×V}{n:Int}{x5 x6:Option V}{H H1:Hp}{D:Zt5}(hw:H lw=some (.lst (ws.map V.str))) (hS:StC H ss vs) (kn:∀ x∈c,x∈ws) (wok:∀ x∈ws,PyData.strOk x=true) (few:ws.length≤1000)
  (hi:(vs.zip (c.map V.str))[i]?=some pr) (s1:Zal H H1) (inv:goW ws (ss.drop i) (c.drop i) n=goW ws ss c 0) (htz:H1 tz=none) (rt:∀ H',Zal H H'→goW ws ss c 0=none→D.rt .non H')
  (nx:∀ (v:Int) (y z:Option V) H',Zal H H'→goW ws (ss.drop (i + 1)) (c.drop (i + 1)) v=goW ws ss c 0→D.nx [some (.ref lw),some (.ref ls),some (.ref le),some (.ref t),some (.int v),y,z] H'):
  Z2a K 2 (Ztf (Zet 5) (Ztf (Zet 6) Z2b)) (.ref tz) [some (.ref lw),some (.ref ls),some (.ref le),some (.ref t),some (.int n),x5,x6] (upd H1 tz (.tup [pr.1,pr.2])) fun σ2 H2=>Z1k K D σ2 H2:=by
 obtain ⟨g1,g2⟩:=Zhy hi
 obtain ⟨st,hst,a,ls',e1,ha,hL⟩:=Zam hS g1
 obtain ⟨x,hx,e2⟩:=Zia g2
 have hxw:=kn x (List.mem_of_getElem? hx)
 have s2:Zal H1 (upd H1 tz (.tup [pr.1,pr.2])):=Zcq htz
 have h2:(upd H1 tz (.tup [pr.1,pr.2])) tz=some (.tup [.ref a,.str x]):=by rw [uS,e1,e2]
 generalize upd H1 tz (.tup [pr.1,pr.2])=H2 at s2 h2
 have s02:=s1.trans s2
 have stl:=Paired.length hL
 refine ⟨tz,_,rfl,SqT.of h2,rfl,_,_,rfl,_,_,rfl,rfl,?_⟩
 have none_of:goW ws (ss.drop i) (c.drop i) n=none→∀ H3,Zal H H3→D.rt .non H3:=fun e H3 s3=>rt H3 s3 (by rw [← inv,e])
 refine ⟨_,rfl,_,_,rfl,rfl,_,rfl,Zdu (fun h1=>?_) (fun h1=>?_)⟩
 ·have h1:0≤n:=of_decide_eq_true h1
  refine ⟨_,rfl,a,_,rfl,.inl (SqL.of (s02 _ _ ha)),_,_,rfl,rfl,_,rfl,?_⟩
  refine Zdu (fun h3=>?_) (fun h3=>?_)
  ·have h3:¬ (n<(ls'.length:Int)):=by simpa using h3
   exact none_of (Zo7 hst hx (by rw [stl];omega)) H2 s02
  ·have h3:n<(ls'.length:Int):=by simpa using h3
   have hn:n.toNat<ls'.length:=by omega
   obtain ⟨l,hl,b,eb,hb⟩:=Zam hL (List.getElem?_eq_getElem hn)
   have hat:atI ls' n=some (.ref b):=Zpj h1 (by rw [List.getElem?_eq_getElem hn,eb])
   have gs:=Zvn (ws:=ws) hst hx ⟨h1,by rw [stl];exact h3⟩ hl
   refine ⟨_,rfl,_,rfl,a,_,_,_,rfl,rfl,SqL.of (s02 _ _ ha),hat,b,_,rfl,.inl (SqL.of (s02 _ _ hb)),_,rfl,lw,_,rfl,.inl (SqL.of (s02 _ _ hw)),rfl,_,rfl,?_⟩
   rw [List.length_map,List.length_map]
   refine Zdu (fun h4=>?_) (fun h4=>?_)
   ·have h4:¬ (l.length=ws.length):=fun z=>by rw [z] at h4;simp at h4
    exact none_of (by rw [gs,if_neg h4]) H2 s02
   ·have h4:l.length=ws.length:=by
     have h4:¬ ¬ (V.int (l.length:Nat)=V.int (ws.length:Nat)):=by simpa using h4
     have:=Classical.not_not.mp h4
     injection this with this
     omega
    rw [if_pos h4] at gs
    have hil:Zky ws x<l.length:=by rw [h4];exact (List.getElem?_eq_some_iff.mp (Zkx hxw).1).1
    have hv:=List.getElem?_eq_getElem hil
    rw [hv] at gs
    refine ⟨_,rfl,_,rfl,a,_,_,_,rfl,rfl,SqL.of (s02 _ _ ha),hat,_,rfl,.inl ⟨rfl,_,SqL.of (s02 _ _ hw)⟩,_,rfl,_,.str x,ws.map PySem.W.Dat.str,Zky ws x,.str x,rfl,.list (SqL.of (s02 _ _ hw)) (Zfs _),.str x,Zux wok,wok x hxw,by rw [List.length_map];omega,(Zi3 hxw).1,Zdv _,(Zi3 hxw).2,?_⟩
    refine ⟨b,_,_,_,rfl,rfl,SqL.of (s02 _ _ hb),Zc0 (by rw [List.getElem?_map,hv];rfl),?_⟩
    exact nx _ _ _ _ s02 (by rw [← inv,gs])
 ·have h1:¬ (0≤n):=by simpa using h1
  exact ⟨_,rfl,Zqt (none_of (Zo7 hst hx (by omega)) H2 s02)⟩
section
variable {P:Program} {w:World} {K:PySem.W.Frag} {mg:Str→Option Value} {base:Heap}
set_option maxHeartbeats 8000000 in
theorem Zsu {f:Addr}{fd:FuncData}(F:Def K mg "answer_by" Zcy Zqs f fd) (len:mg "len"=none) (zip:mg "zip"=none):Za3 P w K mg base CX0 1 f fd Zqs Zro:=by
 refine F.fn.ok Z3k (fun vs H Q E h=>?_) (fun cdv A outer s H vs Q E hr h=>?_)
 ·obtain ⟨lw,ls,le,t,ws,ss,es,c,rfl,_⟩:=h
  rfl
 ·obtain ⟨lw,ls,le,t,ws,ss,es,c,rfl,hw,⟨vs,us,hls,hS,hle,hE⟩,ok,ht,kn,wok,few,cl,q⟩:=h
  have nd:=Z3k.nd
  refine ⟨_,(pS (Zag (i:=4) nd rfl (Or.inl rfl) Zae)
   (pS (Zbw PassesOwn.never rfl (Zr8 (by rfl) zip (pC (pv 1) (pC (pv 3) Zaa))) (Zfm rfl (gC (Zah (i:=5) nd rfl (Or.inl rfl)) (gC (Zah (i:=6) nd rfl (Or.inl rfl)) Zee)))
    (pS (Zbe (PW.pt (Zum (Zef (Zfe Zjd Zjc Zae (pv 4) (Zan Zak (by rfl) len PySem.boot_len (pC (pv 5) Zaa)))) (Zot (Zaq Zpz (Zan Zak (by rfl) len PySem.boot_len (pC (Za5 (r:=Zfd K) Zar (pv 5) (pv 4) (fun _ _=>rfl)) Zaa)) (Zan Zak (by rfl) len PySem.boot_len (pC (pv 0) Zaa)) (Zaz _))))) (Zad (Zat Zjq)) Zas)
   (Zad (Zag (i:=4) nd rfl (Or.inl rfl) (Za5 (r:=Zfd K) Zar (Za5 (r:=Zfd K) Zar (pv 5) (pv 4) (fun _ _=>rfl)) (Zej PySem.F.plainAttrs_list PySem.F.slot_list_index PySem.F.type_list_index (Ziw (Z0p hr)) (pv 0) (pC (pv 6) Zaa)) (fun _ _=>rfl))))))
   (Zad (Zat (Zus (Zfe Zjd Zjc Zae (pv 4) (Zan Zak (by rfl) len PySem.boot_len (pC (pv 2) Zaa))) (Za5 (r:=Zfd K) Zar (pv 2) (pv 4) (fun _ _=>rfl)) Zjq))))),?_⟩
  have sl:=Paired.length hS
  have el:=Paired.length hE
  refine ⟨_,rfl,_,rfl,ls,t,vs,c.map V.str,rfl,SqL.of hls,SqT.of ht,Zg6 (fun i σ H'=>∃ (n:Int) (x5 x6:Option V),σ=[some (.ref lw),some (.ref ls),some (.ref le),some (.ref t),some (.int n),x5,x6]∧Zal H H'∧goW ws (ss.drop i) (c.drop i) n=goW ws ss c 0)
   ⟨0,none,none,rfl,Zal.refl _,rfl⟩ (fun i σ H' _ ⟨_,_,_,_,s',_⟩=>⟨SqL.of (s' _ _ hls),SqT.of (s' _ _ ht)⟩) ?_ ?_⟩
  ·rintro i pr tz σ H1 hi ⟨n,x5,x6,rfl,s1,inv⟩ htz
   exact Zpl hw hS kn wok few hi s1 inv htz (fun H' s' e=>q .non H' s' (.inl ⟨by unfold Zj5;rw [e];rfl,rfl⟩)) (fun v y z H' s' e=>⟨v,y,z,rfl,s',e⟩)
  ·rintro σ H1 ⟨n,x5,x6,rfl,s1,inv⟩
   have ge:goW ws ss c 0=some n:=by
    rw [← inv]
    refine Zte ?_
    rw [List.length_zip,List.length_map]
    omega
   have an:Zj5 ws ss es c=if 0≤n∧n<es.length then es[n.toNat]? else none:=by unfold Zj5;rw [ge];rfl
   refine ⟨_,rfl,_,_,rfl,rfl,_,rfl,Zdu (fun h1=>?_) (fun h1=>?_)⟩
   ·have h1:0≤n:=of_decide_eq_true h1
    refine ⟨_,rfl,le,_,rfl,.inl (SqL.of (s1 _ _ hle)),_,_,rfl,rfl,_,rfl,?_⟩
    refine Zdu (fun h3=>?_) (fun h3=>?_)
    ·have h3:n<(us.length:Int):=by simpa using h3
     have hn:n.toNat<us.length:=by omega
     obtain ⟨k,hk,u,eu,hu⟩:=Zam hE (List.getElem?_eq_getElem hn)
     refine ⟨_,rfl,_,rfl,le,_,_,_,rfl,rfl,SqL.of (s1 _ _ hle),Zpj h1 (List.getElem?_eq_getElem hn),?_⟩
     exact q _ H1 s1 (.inr ⟨k,u,by rw [an,if_pos ⟨h1,by omega⟩,hk],eu,s1 _ _ hu⟩)
    ·have h3:¬ (n<(us.length:Int)):=by simpa using h3
     exact q _ H1 s1 (.inl ⟨by rw [an,if_neg (by omega)],rfl⟩)
   ·have h1:¬ (0≤n):=by simpa using h1
    exact ⟨_,rfl,Zht (q _ H1 s1 (.inl ⟨by rw [an,if_neg (by omega)],rfl⟩))⟩
end
end K46
namespace K46
open PySem L2 Md
def WkT (H:Hp) (tw ls le:Addr) (ss:List (List (List Int))) (es:List (List Key)):Prop:=H tw=some (.tup [.ref ls,.ref le])∧WkC H ls le ss es
theorem WkT.mono {H H':Hp}{tw ls le:Addr}{ss:List (List (List Int))}{es:List (List Key)}(h:WkT H tw ls le ss es) (s:Zal H H'):WkT H' tw ls le ss es:=⟨s _ _ h.1,h.2.mono s⟩
def Zzg (C:Addr):Sp:=fun vs H Q _=>∃ (k tw ls le t:Addr) (rows:List (Str×List Str)) (ss:List (List (List Int))) (es:List (List Key)) (c:List Str),vs=[.ref k,.ref tw,.ref t]∧Zco C H k rows∧Zek rows∧WkT H tw ls le ss es∧Z09 ss es∧H t=some (.tup (c.map V.str))∧Zbj rows ss.length c∧ss.length≤4 ∧
 ∀ v H',Zal H H'→Zyw H' (Zj5 (wds rows) ss es c) v→Q v H'
noncomputable def Zzf (C B:Addr):Sp:=fun vs H Q _=>∃ (p k tw ls le:Addr) (rows:List (Str×List Str)) (n:Nat) (ds:List (List Str)) (ss:List (List (List Int))) (es:List (List Key)),vs=[.ref p,.ref tw]∧Zcp C B H p k rows n ds∧Zek rows∧Zbk rows n ds∧n≤4∧rows.length ^ n≤512∧WkT H tw ls le ss es∧Z09 ss es ∧
 ∀ (v:Bool) H',Zal H H'→(v=true↔ss.length=n∧∀ c∈Zaj rows n,Zj5 (wds rows) ss es c=some (Zc3 rows ds c))→Q (.bl v) H'
abbrev nBw:List Str:=["kinds","walker","call"]
theorem Z4l:Zap nBw nBw (Zab Zc8):=⟨rfl,rfl,rfl,by decide +kernel,rfl,by decide +kernel,by decide +kernel⟩
abbrev nIw:List Str:=["board","walker","answers","words"]
theorem Z3c:Zap nIw ["board","walker"] (Zab Zcx):=⟨rfl,rfl,rfl,by decide +kernel,rfl,by decide +kernel,by decide +kernel⟩
theorem Zx0:(["call","answer","words","walker"]:List Str).Nodup:=by decide +kernel
theorem Zk7 {ws:List Str}{ss:List (List (List Int))}{es:List (List Key)}{c:List Str}(h:∀ k∈es,OkK k):∀ k,Zj5 ws ss es c=some k→OkK k:=fun k e=>by
 unfold Zj5 at e
 cases hg:goW ws ss c 0 with
 | none=>rw [hg] at e;cases e
 | some n =>
  rw [hg] at e
  have e:(if 0≤n∧n<es.length then es[n.toNat]? else none)=some k:=e
  split at e
  ·exact h k (List.mem_of_getElem? e)
  ·cases e
def Z2v (F:List Key×V→Bool→Prop) (_:Addr) (x:List Key×V) (v:V) (_:Hp):Prop:=∃ b,v=.bl b∧F x b
theorem Zmt {α:Type}{F:α→Bool→Prop}:∀ {ps:List α}{vs:List V},Paired (fun p v=>∃ b,v=.bl b∧F p b) ps vs→∃ bs:List Bool,vs=bs.map V.bl∧Paired F ps bs
 | _,_,.nil=>⟨[],rfl,.nil⟩
 | _,_,.cons ⟨b,e,h⟩ t=>by
  obtain ⟨bs,e2,h2⟩:=Zmt t
  exact ⟨b :: bs,by rw [e,e2];rfl,.cons h h2⟩
theorem Zt3 {α:Type}{G:α→Prop}:∀ {ps:List α}{bs:List Bool},Paired (fun p b=>(b=true↔G p)) ps bs→(bs.all id=true↔∀ p∈ps,G p)
 | _,_,.nil=>⟨(fun _ p h=>nomatch h),(fun _=>rfl)⟩
 | _,_,.cons (a:=a) (b:=b) h t=>by
  rw [List.all_cons,Bool.and_eq_true,Zt3 t]
  constructor
  ·rintro ⟨h1,h2⟩ p hp
   rcases List.mem_cons.mp hp with e | hp
   ·rw [e];exact h.mp h1
   ·exact h2 p hp
  ·intro z
   exact ⟨h.mpr (z a List.mem_cons_self),fun p hp=>z p (List.mem_cons_of_mem _ hp)⟩
section
variable {P:Program} {w:World} {K:PySem.W.Frag} {mg:Str→Option Value} {base:Heap}
set_option maxHeartbeats 8000000 in
theorem Zp5 {f:Addr}{fd:FuncData}(F:Def K mg "_law_answer" Zcf Zqs f fd) (len:mg "len"=none) (zip:mg "zip"=none):Za3 P w K mg base CX0 1 f fd Zqs Zro:=by
 refine F.fn.ok Z28 (fun vs H Q E h=>?_) (fun cdv A outer s H vs Q E hr h=>?_)
 ·obtain ⟨lw,ls,le,t,ws,ss,es,c,rfl,_⟩:=h
  rfl
 ·obtain ⟨lw,ls,le,t,ws,ss,es,c,rfl,hw,⟨vs,us,hls,hS,hle,hE⟩,ok,ht,kn,wok,few,cl,q⟩:=h
  have nd:=Z28.nd
  refine ⟨_,(pS (Zag (i:=4) nd rfl (Or.inl rfl) Zae)
   (pS (Zbw PassesOwn.never rfl (Zr8 (by rfl) zip (pC (pv 1) (pC (pv 3) Zaa))) (Zfm rfl (gC (Zah (i:=5) nd rfl (Or.inl rfl)) (gC (Zah (i:=6) nd rfl (Or.inl rfl)) Zee)))
    (pS (Zbe (PW.pt (Zum (Zef (Zfe Zjd Zjc Zae (pv 4) (Zan Zak (by rfl) len PySem.boot_len (pC (pv 5) Zaa)))) (Zot (Zaq Zpz (Zan Zak (by rfl) len PySem.boot_len (pC (Za5 (r:=Zfd K) Zar (pv 5) (pv 4) (fun _ _=>rfl)) Zaa)) (Zan Zak (by rfl) len PySem.boot_len (pC (pv 0) Zaa)) (Zaz _))))) (Zad (Zat Zjq)) Zas)
   (Zad (Zag (i:=4) nd rfl (Or.inl rfl) (Za5 (r:=Zfd K) Zar (Za5 (r:=Zfd K) Zar (pv 5) (pv 4) (fun _ _=>rfl)) (Zej PySem.F.plainAttrs_list PySem.F.slot_list_index PySem.F.type_list_index (Ziw (Z0p hr)) (pv 0) (pC (pv 6) Zaa)) (fun _ _=>rfl))))))
   (pS (Zbe (Zef (Zfe Zjd Zjc Zae (pv 4) (Zan Zak (by rfl) len PySem.boot_len (pC (pv 2) Zaa)))) (Zad (Zat Zjq)) Zas)
   (Zad (Zat (Za5 (r:=Zfd K) Zar (pv 2) (pv 4) (fun _ _=>rfl))))))),?_⟩
  have sl:=Paired.length hS
  have el:=Paired.length hE
  refine ⟨_,rfl,_,rfl,ls,t,vs,c.map V.str,rfl,SqL.of hls,SqT.of ht,Zg6 (fun i σ H'=>∃ (n:Int) (x5 x6:Option V),σ=[some (.ref lw),some (.ref ls),some (.ref le),some (.ref t),some (.int n),x5,x6]∧Zal H H'∧goW ws (ss.drop i) (c.drop i) n=goW ws ss c 0)
   ⟨0,none,none,rfl,Zal.refl _,rfl⟩ (fun i σ H' _ ⟨_,_,_,_,s',_⟩=>⟨SqL.of (s' _ _ hls),SqT.of (s' _ _ ht)⟩) ?_ ?_⟩
  ·rintro i pr tz σ H1 hi ⟨n,x5,x6,rfl,s1,inv⟩ htz
   exact Zpl hw hS kn wok few hi s1 inv htz (fun H' s' e=>q .non H' s' (.inl ⟨by unfold Zj5;rw [e];rfl,rfl⟩)) (fun v y z H' s' e=>⟨v,y,z,rfl,s',e⟩)
  ·rintro σ H1 ⟨n,x5,x6,rfl,s1,inv⟩
   have ge:goW ws ss c 0=some n:=by
    rw [← inv]
    refine Zte ?_
    rw [List.length_zip,List.length_map]
    omega
   have an:Zj5 ws ss es c=if 0≤n∧n<es.length then es[n.toNat]? else none:=by unfold Zj5;rw [ge];rfl
   refine ⟨_,rfl,_,_,rfl,rfl,_,rfl,Zdu (fun h1=>?_) (fun h1=>?_)⟩
   ·have h1:0≤n:=of_decide_eq_true h1
    refine ⟨_,rfl,le,_,rfl,.inl (SqL.of (s1 _ _ hle)),_,_,rfl,rfl,_,rfl,?_⟩
    refine Zdu (fun h3=>?_) (fun h3=>?_)
    ·have h3:¬ (n<(us.length:Int)):=by simpa using h3
     exact q _ H1 s1 (.inl ⟨by rw [an,if_neg (by omega)],rfl⟩)
    ·have h3:n<(us.length:Int):=by simpa using h3
     have hn:n.toNat<us.length:=by omega
     obtain ⟨k,hk,u,eu,hu⟩:=Zam hE (List.getElem?_eq_getElem hn)
     refine ⟨_,rfl,_,rfl,le,_,_,_,rfl,rfl,SqL.of (s1 _ _ hle),Zpj h1 (List.getElem?_eq_getElem hn),?_⟩
     exact q _ H1 s1 (.inr ⟨k,u,by rw [an,if_pos ⟨h1,by omega⟩,hk],eu,s1 _ _ hu⟩)
   ·have h1:¬ (0≤n):=by simpa using h1
    exact ⟨_,rfl,Zqt (q _ H1 s1 (.inl ⟨by rw [an,if_neg (by omega)],rfl⟩))⟩
theorem Zl4 {f C fCk fAb fWo:Addr}{fd fdCk fdAb fdWo:FuncData}(F:Def K mg "by_walker" Zc8 nBw f fd) (len:mg "len"=none) (list:mg "list"=none) (TC:Zmz K C) (MW:Zpm K C fWo fdWo) (DCk:Def K mg "check_call" Zcc nIC fCk fdCk) (GC:Za3 P w K mg base CX0 3 fCk fdCk nIC (Zgk C))
  (DAb:Def K mg "answer_by" Zcy Zqs fAb fdAb) (GAb:Za3 P w K mg base CX0 1 fAb fdAb Zqs Zro):Za3 P w K mg base CX0 4 f fd nBw (Zzg C):=by
 have GW:Za3 P w K mg base CX0 1 fWo fdWo ["self"] (Zfr C):=Zf7 MW.fn TC list
 refine F.fn.ok Z4l (fun vs H Q E h=>?_) (fun cdv A outer s H vs Q E hr h=>?_)
 ·obtain ⟨k,tw,ls,le,t,rows,ss,es,c,rfl,_⟩:=h
  rfl
 ·obtain ⟨k,tw,ls,le,t,rows,ss,es,c,rfl,kd,g,⟨htw,⟨vs,us,hls,hS,hle,hE⟩⟩,ok,ht,gc,n4,q⟩:=h
  have hr1:Zec 1 _:=hr.mono (by decide)
  refine ⟨_,(pS (Za9 (Zaf DCk GC hr (pC (pv 0) (pC (Zan Zak (by rfl) len PySem.boot_len (pC (Za5 (r:=Zlr K) Zd0 (pv 1) Zae (fun _ _=>rfl)) Zaa)) (pC (pv 2) Zaa)))))
   (Zad (Zat (Zaf DAb GAb hr1 (pC (Zde (pv 0) TC.cl MW.me GW hr1 MW.b .nil Ze1) (pC (Za5 (r:=Zlr K) Zd0 (pv 1) Zae (fun _ _=>rfl)) (pC (Za5 (r:=Zlr K) Zd0 (pv 1) Zae (fun _ _=>rfl)) (pC (pv 2) Zaa)))))))),?_⟩
  obtain ⟨dxk,dk,ak,ok',oak,kvk,avk,hk1,_⟩:=kd.ex
  have sl:=Paired.length hS
  have gle:=g.le
  refine ⟨_,rfl,_,rfl,tw,_,_,_,rfl,rfl,SqT.of htw,rfl,ls,_,rfl,.inl (SqL.of hls),_,rfl,k,t,ss.length,rows,c,by rw [sl];rfl,kd,g,ht,gc,n4,fun H1 s1=>?_⟩
  refine ⟨_,rfl,k,dxk,_,rfl,s1 _ _ hk1,Zg1 _ _,k,rows,rfl,kd.mono s1,g,fun lw hlw=>?_⟩
  have s2:Zal H1 (upd H1 lw (.lst ((rows.map (·.1)).map V.str))):=Zcq hlw
  have hw2:(upd H1 lw (.lst ((rows.map (·.1)).map V.str))) lw=some (.lst ((rows.map (·.1)).map V.str)):=uS
  generalize upd H1 lw (.lst ((rows.map (·.1)).map V.str))=H2 at s2 hw2
  have s02:=s1.trans s2
  have wl:(rows.map (·.1)).length=rows.length:=List.length_map ..
  refine ⟨_,rfl,tw,_,_,_,rfl,rfl,SqT.of (s02 _ _ htw),rfl,_,rfl,tw,_,_,_,rfl,rfl,SqT.of (s02 _ _ htw),rfl,_,rfl,lw,ls,le,t,rows.map (·.1),ss,es,c,rfl,hw2,⟨vs,us,s02 _ _ hls,hS.mono s02,s02 _ _ hle,hE.mono s02⟩,ok,s02 _ _ ht,gc.known,(fun x hx=>Zj7 (Ze6 g x hx)),by omega,by rw [gc.len];omega,fun v H3 s3 av=>?_⟩
  exact q v H3 (s02.trans s3) av
theorem Zl2 {f C B fAT fAb fK fPl fWo:Addr}{fd fdAT fdAb fdK fdPl fdWo:FuncData}(F:Def K mg "is_walker" Zcx ["board","walker"] f fd) (len:mg "len"=none) (list:mg "list"=none) (all:mg "all"=none) (TB:Zi8 K B) (TC:Zmz K C) (MK:Zoe K B fK fdK) (MP:Zpn K B fPl fdPl) (MW:Zpm K C fWo fdWo)
  (DAT:Def K mg "all_told" Zdm ["board"] fAT fdAT) (GAT:Za3 P w K mg base CX0 9 fAT fdAT ["board"] (Zln C B)) (DAb:Def K mg "answer_by" Zcy Zqs fAb fdAb) (GAb:Za3 P w K mg base CX0 1 fAb fdAb Zqs Zro):Za3 P w K mg base CX0 10 f fd ["board","walker"] (Zzf C B):=by
 have GK:Za3 P w K mg base CX0 1 fK fdK ["self"] (Zh2 C B):=Zit MK.fn TB
 have GP:Za3 P w K mg base CX0 1 fPl fdPl ["self"] (Zid C B):=Zju MP.fn TB
 have GW:Za3 P w K mg base CX0 1 fWo fdWo ["self"] (Zfr C):=Zf7 MW.fn TC list
 refine F.fn.ok Z3c (fun vs H Q E h=>?_) (fun cdv A outer s H vs Q E hr h=>?_)
 ·obtain ⟨p,k,tw,ls,le,rows,n,ds,ss,es,rfl,_⟩:=h
  rfl
 ·obtain ⟨p,k,tw,ls,le,rows,n,ds,ss,es,rfl,bd,g,gd,n4,rc,⟨htw,⟨vs,us,hls,hS,hle,hE⟩⟩,ok,q⟩:=h
  have nd:=Z3c.nd
  have hu:=hr.units
  have hr1:Zec 1 _:=hr.mono (by decide)
  refine' ⟨_,(pS (Zag (i:=2) nd rfl (Or.inl rfl) (Zaf DAT GAT hr (pC (pv 0) Zaa)))
   (pS (Zag (i:=3) nd rfl (Or.inr rfl) (Zde (Zde (pv 0) TB.cl MK.me GK hr1 MK.b .nil Ze1) TC.cl MW.me GW hr1 MW.b .nil Ze1))
   (pS (Zbe (Zaq Zpz (Zan Zak (by rfl) len PySem.boot_len (pC (Za5 (r:=Zlr K) Zd0 (pv 1) Zae (fun _ _=>rfl)) Zaa)) (Zde (pv 0) TB.cl MP.me GP hr1 MP.b .nil Ze1) (Zaz _)) (Zad (Zat Zgz)) Zas)
   (Zad (Zat (Zan (r:=Z1v K fun bs=>bs.all id) (Zh8 rfl) (by rfl) all PyProof.Rows.boot_all (pC ?e1 Zaa))))))),?_⟩
  case e1=>exact (Zbr ["call","answer"] ["words","walker"] [3,1] (fun _=>Za0 (osc:=Zab Zcx) (on:=nIw) (by decide +kernel) rfl rfl rfl) (Zr9 (pv 2)) (fun C s H fp=>Zsb (K:=K) (i:=0) (j:=1) rfl rfl Zx0 rfl rfl (Or.inl rfl) (Or.inl rfl) (Or.inr rfl) (Or.inr rfl)) (fun C s H fp=>Zbn) (fun C s H fp=>Zft (r:=Z1t K id) (Zsj hu) (Zaf DAb GAb hr1 (pC (pv 2) (pC (Za5 (r:=Zlr K) Zd0 (pv 3) Zae (fun _ _=>rfl)) (pC (Za5 (r:=Zlr K) Zd0 (pv 3) Zae (fun _ _=>rfl)) (pC (pv 0) Zaa))))) (pv 1) (Zaz _)))
  obtain ⟨dx,ts,usB,h1B,h2B,h3B,h4B⟩:=bd.ex
  obtain ⟨dxk,dk,ak,ok',oak,kvk,avk,hk1,_⟩:=h2B.ex
  have sl:=Paired.length hS
  have gle:=g.le
  have gne:1≤rows.length:=by have:=g.ne;omega
  refine ⟨_,rfl,p,k,rows,n,ds,rfl,bd,g,gd,n4,rc,fun d kvs H1 hd s1 hd1 hT=>?_⟩
  refine ⟨_,rfl,p,dx,_,rfl,s1 _ _ h1B,Ziu _ _ _,p,k,rows,n,ds,rfl,bd.mono s1,k,dxk,_,rfl,s1 _ _ hk1,Zg1 _ _,k,rows,rfl,h2B.mono s1,g,fun lw hlw=>?_⟩
  have s12:Zal H1 (upd H1 lw (.lst ((rows.map (·.1)).map V.str))):=Zcq hlw
  have hw2:(upd H1 lw (.lst ((rows.map (·.1)).map V.str))) lw=some (.lst ((rows.map (·.1)).map V.str)):=uS
  generalize upd H1 lw (.lst ((rows.map (·.1)).map V.str))=H2 at s12 hw2
  have s02:=s1.trans s12
  refine ⟨_,rfl,tw,_,_,_,rfl,rfl,SqT.of (s02 _ _ htw),rfl,ls,_,rfl,.inl (SqL.of (s02 _ _ hls)),_,rfl,p,dx,_,rfl,s02 _ _ h1B,Zjv _ _ _,p,k,rows,n,ds,rfl,bd.mono s02,rfl,_,rfl,?_⟩
  by_cases hn:ss.length=n
  rotate_left
  ·refine Zdu (fun _=>q false H2 s02 ⟨(fun z=>by cases z),(fun z=>absurd z.1 hn)⟩) (fun h=>absurd (by
    rw [decide_eq_false (fun z=>by injection z with z;omega)];rfl) h)
  refine Zdu (fun h=>absurd h (by rw [← sl,hn,decide_eq_true rfl];decide)) (fun _=>?_)
  refine ⟨_,rfl,d,kvs,rfl,.inl ⟨s12 _ _ hd1,fun ob=>?_⟩⟩
  have hd3:(upd H2 d (.frz ob (.dT kvs))) d=some (.frz ob (.dT kvs)):=uS
  have k3:∀ b o,b≠d→H2 b=some o→(upd H2 d (.frz ob (.dT kvs))) b=some o:=fun b o hb e=>by rw [Zac hb];exact e
  generalize upd H2 d (.frz ob (.dT kvs))=H3 at hd3 k3
  have s03:Zal H H3:=fun b o e=>k3 _ _ (nNo e hd) (s02 _ _ e)
  have dlw:lw≠d:=Ne.symm (nNo hd1 hlw)
  have hw3:=k3 _ _ dlw hw2
  have al:=Zev rows n
  have kl:kvs.length≤512:=by
   have:=Paired.length hT
   omega
  have hT3:Ze3 H3 rows ds (Zaj rows n) kvs:=hT.keep fun b xs e=>k3 _ _ (fun z=>by rw [z,hd1] at e;cases e) (s12 _ _ e)
  have wl:(rows.map (·.1)).length=rows.length:=List.length_map ..
  refine Zn7 (sL (by omega)) hd3 (fun _=>true) (Z2v fun x b=>∀ c∈Zaj rows n,x.1=Zfo c→(b=true↔Zj5 (wds rows) ss es c=some (Zc3 rows ds c))) (fun D x v Ha Hb kk h=>h) ?_ ?_ ?_
  ·intro x b H' R s' _ _ hR'
   exact hR' H' (Zal.refl _)
  ·intro D x b H' R s' _ _ hx hb _ hR'
   obtain ⟨j,hj⟩:=List.getElem?_of_mem hx
   obtain ⟨c,hc,ek,t,ev,ht⟩:=Zam hT3 hj
   have hcm:=List.mem_of_getElem? hc
   have gc:=Zfk c hcm
   have s0':=s03.trans s'
   rw [ek,Zd7] at hb
   rw [ev]
   refine ⟨_,rfl,_,rfl,tw,_,_,_,rfl,rfl,SqT.of (s0' _ _ htw),rfl,_,rfl,tw,_,_,_,rfl,rfl,SqT.of (s0' _ _ htw),rfl,_,rfl,lw,ls,le,b,rows.map (·.1),ss,es,c,rfl,s' _ _ hw3,⟨vs,us,s0' _ _ hls,hS.mono s0',s0' _ _ hle,hE.mono s0'⟩,ok,hb,gc.known,(fun x hx=>Zj7 (Ze6 g x hx)),by omega,by rw [gc.len];omega,fun v H4 s4 av=>?_⟩
   have hk:H4 t=some (.tup ((Zc3 rows ds c).map kV)):=by unfold Zc3;rw [Zhb];exact s4 _ _ (s' _ _ ht)
   refine ⟨_,rfl,Zqv (Zj5 (wds rows) ss es c),Zn3 (Zc3 rows ds c),Zh4 av,Zh3 hk,Zkl 7 (Zk7 ok.ok),Zkj 7 (Zi7 _),hR' _ H4 s4 ⟨_,rfl,fun c' hc' e'=>?_⟩⟩
   rw [ek] at e'
   rw [← Zh6 e']
   show dEq (Zqv _) (Zqv (some _))=true↔_
   constructor
   ·intro z
    exact Zpe (Classical.byContradiction fun ne=>by rw [Zfi ne] at z;cases z)
   ·intro z
    rw [z];exact Zdv _
  ·intro D H4 ys hD s34 hD4 pr
   rw [List.filter_eq_self.mpr (fun _ _=>rfl)] at pr
   obtain ⟨bs,eb,pb⟩:=Zmt pr
   rw [eb] at hD4
   refine ⟨D,bs,rfl,SqL.of hD4,?_⟩
   refine q _ H4 (s03.trans s34) ?_
   show bs.all id=true↔_
   have pc:Paired (fun c b=>(b=true↔Zj5 (wds rows) ss es c=some (Zc3 rows ds c))) (Zaj rows n) bs:=by
    have l1:=Paired.length hT3
    have l2:=Paired.length pb
    refine Zf6 (by omega) fun i c b hc hb=>?_
    obtain ⟨x,hx,h⟩:=Zam pb hb
    obtain ⟨c',hc',ek,_⟩:=Zam hT3 hx
    rw [hc] at hc'
    cases hc'
    exact h c (List.mem_of_getElem? hc) ek
   rw [Zt3 pc]
   exact ⟨fun z=>⟨hn,z⟩,fun z=>z.2⟩
end
end K46
namespace K46
open PySem L2 Md
def Zdz (H0 H:Hp) (lo hi:Nat) (v:V):Prop:=∃ (b:Addr) (l:List Int),v=.ref b∧H0 b=none∧H b=some (.lst (l.map V.int))∧lo≤l.length∧l.length≤hi
def Zeg (H0 H:Hp) (lo hi:Nat) (v:V):Prop:=∃ (a:Addr) (ws:List V),v=.ref a∧H0 a=none∧H a=some (.lst ws)∧lo≤ws.length∧ws.length≤hi∧∀ x∈ws,Zdz H0 H lo hi x
def Zt7 (H:Hp) (v:V):Prop:=∃ (t:Addr) (k:List Key),v=.ref t∧H t=some (.tup (k.map kV))∧OkK k
structure TWk (H0 H:Hp) (ls le:Addr) (lo hi m:Nat) (vs us:List V):Prop where
 fs:H0 ls=none
 fe:H0 le=none
 hs:H ls=some (.lst vs)
 ms:vs.length=m
 st:∀ v∈vs,Zeg H0 H lo hi v
 he:H le=some (.lst us)
 elo:lo≤us.length
 ehi:us.length≤hi
 en:∀ u∈us,Zt7 H u
theorem Zdz.keep {H0 H H':Hp}{lo hi lo' hi':Nat}{v:V}(h:Zdz H0 H lo hi v) (k:∀ b (l:List Int),H b=some (.lst (l.map V.int))→lo≤l.length→l.length≤hi→∃ l':List Int,H' b=some (.lst (l'.map V.int))∧lo'≤l'.length∧l'.length≤hi'):Zdz H0 H' lo' hi' v:=by
 obtain ⟨b,l,e,f,hb,h1,h2⟩:=h
 obtain ⟨l',hb',h1',h2'⟩:=k b l hb h1 h2
 exact ⟨b,l',e,f,hb',h1',h2'⟩
theorem Zeg.keep {H0 H H':Hp}{lo hi lo' hi':Nat}{v:V}(h:Zeg H0 H lo hi v) (k:∀ a ws,H a=some (.lst ws)→lo≤ws.length→ws.length≤hi→(∀ x∈ws,Zdz H0 H lo hi x)→∃ ws',H' a=some (.lst ws')∧lo'≤ws'.length∧ws'.length≤hi'∧∀ x∈ws',Zdz H0 H' lo' hi' x):Zeg H0 H' lo' hi' v:=by
 obtain ⟨a,ws,e,f,ha,h1,h2,h3⟩:=h
 obtain ⟨ws',ha',h1',h2',h3'⟩:=k a ws ha h1 h2 h3
 exact ⟨a,ws',e,f,ha',h1',h2',h3'⟩
theorem Zdz.mono {H0 H H':Hp}{lo hi lo' hi':Nat}{v:V}(h:Zdz H0 H lo hi v) (s:∀ b (l:List Int),H b=some (.lst (l.map V.int))→lo≤l.length→H' b=some (.lst (l.map V.int))) (h1:lo'≤lo) (h2:hi≤hi'):Zdz H0 H' lo' hi' v:=h.keep fun b l e g1 g2=>⟨l,s _ _ e g1,by omega,by omega⟩
theorem Zeg.mono {H0 H H':Hp}{lo hi lo' hi':Nat}{v:V}(h:Zeg H0 H lo hi v) (s:∀ b ws,H b=some (.lst ws)→lo≤ws.length→(∀ x∈ws,∃ c,x=.ref c)→H' b=some (.lst ws)) (s2:∀ b (l:List Int),H b=some (.lst (l.map V.int))→lo≤l.length→H' b=some (.lst (l.map V.int))) (h1:lo'≤lo) (h2:hi≤hi'):Zeg H0 H' lo' hi' v :=
 h.keep fun a ws e g1 g2 g3=>⟨ws,s _ _ e g1 (fun x hx=>by obtain ⟨b,_,e,_⟩:=g3 x hx;exact ⟨b,e⟩),by omega,by omega,fun x hx=>(g3 x hx).mono s2 h1 h2⟩
theorem Zt7.mono {H H':Hp}{v:V}(h:Zt7 H v) (s:∀ b xs,H b=some (.tup xs)→H' b=some (.tup xs)):Zt7 H' v:=by
 obtain ⟨t,k,e,h,ok⟩:=h
 exact ⟨t,k,e,s _ _ h,ok⟩
theorem TWk.same {H0 H H':Hp}{ls le:Addr}{lo hi m:Nat}{vs us:List V}(h:TWk H0 H ls le lo hi m vs us) (s:∀ b xs,H b=some (.lst xs)→H' b=some (.lst xs)) (s2:∀ b xs,H b=some (.tup xs)→H' b=some (.tup xs)):TWk H0 H' ls le lo hi m vs us :=
 ⟨h.fs,h.fe,s _ _ h.hs,h.ms,fun v hv=>(h.st v hv).mono (fun b ws e _ _=>s _ _ e) (fun b l e _=>s _ _ e) (Nat.le_refl _) (Nat.le_refl _),s _ _ h.he,h.elo,h.ehi,fun u hu=>(h.en u hu).mono s2⟩
theorem TWk.wide {H0 H:Hp}{ls le:Addr}{lo hi lo' hi' m:Nat}{vs us:List V}(h:TWk H0 H ls le lo hi m vs us) (h1:lo'≤lo) (h2:hi≤hi'):TWk H0 H ls le lo' hi' m vs us :=
 ⟨h.fs,h.fe,h.hs,h.ms,fun v hv=>(h.st v hv).mono (fun _ _ e _ _=>e) (fun _ _ e _=>e) h1 h2,h.he,Nat.le_trans h1 h.elo,Nat.le_trans h.ehi h2,h.en⟩
theorem Ziv {H:Hp}{a b:Addr}{l:List Int}{ws:List V}(hb:H b=some (.lst (l.map V.int))) (l1:1≤l.length) (ha:H a=some (.lst ws)) (hw:∀ x∈ws,∃ c,x=.ref c):a≠b:=fun z=>by
 rw [z,hb] at ha
 have e:=Option.some.inj ha
 injection e with e
 cases l with
 | nil=>simp at l1
 | cons i r =>
  obtain ⟨c,hc⟩:=hw (.int i) (by rw [← e];exact List.mem_cons_self)
  cases hc
theorem Zdz.ref {H0 H:Hp}{lo hi:Nat}{v:V}(h:Zdz H0 H lo hi v):∃ c,v=.ref c:=by
 obtain ⟨b,_,e,_⟩:=h
 exact ⟨b,e⟩
theorem Zeg.ref {H0 H:Hp}{lo hi:Nat}{v:V}(h:Zeg H0 H lo hi v):∃ c,v=.ref c:=by
 obtain ⟨b,_,e,_⟩:=h
 exact ⟨b,e⟩
theorem Zt7.ref {H:Hp}{v:V}(h:Zt7 H v):∃ c,v=.ref c:=by
 obtain ⟨b,_,e,_⟩:=h
 exact ⟨b,e⟩
theorem Zo2 {H0 H:Hp}{hi hi':Nat}{s a:Addr}{vs ws:List V}(ha:H a=some (.lst ws)) (w1:1≤ws.length) (hw:∀ x∈ws,Zdz H0 H 1 hi x) (hs:H s=some (.lst vs)) (hv:∀ x∈vs,Zeg H0 H 1 hi' x):s≠a:=fun z=>by
 rw [z,ha] at hs
 have e:=Option.some.inj hs
 injection e with e
 cases ws with
 | nil=>simp at w1
 | cons x r =>
  obtain ⟨b,l,e1,_,hb,l1,_⟩:=hw x List.mem_cons_self
  obtain ⟨a',ws',e2,_,ha',w1',_,hw'⟩:=hv x (by rw [← e];exact List.mem_cons_self)
  rw [e1] at e2
  cases e2
  exact Ziv hb l1 ha' (fun x hx=>(hw' x hx).ref) rfl
theorem Zks {H:Hp}{x le:Addr}{ws us:List V}(he:H le=some (.lst us)) (u1:1≤us.length) (hu:∀ u∈us,Zt7 H u) (hx:H x=some (.lst ws)) (hw:∀ y∈ws,∃ c ys,y=.ref c∧H c=some (.lst ys)):x≠le:=fun z=>by
 rw [z,he] at hx
 have e:=Option.some.inj hx
 injection e with e
 cases us with
 | nil=>simp at u1
 | cons y r =>
  obtain ⟨t,k,e1,ht,_⟩:=hu y List.mem_cons_self
  obtain ⟨c,ys,e2,hc⟩:=hw y (by rw [← e];exact List.mem_cons_self)
  rw [e1] at e2
  cases e2
  rw [ht] at hc
  cases hc
theorem Zdz.lst {H0 H:Hp}{lo hi:Nat}{v:V}(h:Zdz H0 H lo hi v):∃ c ys,v=.ref c∧H c=some (.lst ys):=by
 obtain ⟨b,l,e,_,hb,_⟩:=h
 exact ⟨b,_,e,hb⟩
theorem Zeg.lst {H0 H:Hp}{lo hi:Nat}{v:V}(h:Zeg H0 H lo hi v):∃ c ys,v=.ref c∧H c=some (.lst ys):=by
 obtain ⟨b,l,e,_,hb,_⟩:=h
 exact ⟨b,_,e,hb⟩
section
variable {H0 H:Hp} {ls le:Addr} {hi m:Nat} {vs us:List V} (T:TWk H0 H ls le 1 hi m vs us) (m1:1≤m)
include T m1
theorem TWk.tup {x:Addr}{ws zs:List V}(hx:H x=some (.lst ws)):∀ b xs,H b=some (.tup xs)→(upd H x (.lst zs)) b=some (.tup xs):=fun b xs e=>by
 rw [Zac (fun z=>by rw [z,hx] at e;cases e)];exact e
theorem TWk.line {b:Addr}{l l':List Int}(hb:H b=some (.lst (l.map V.int))) (l1:1≤l.length) (hl:l'.length≤hi + 1):TWk H0 (upd H b (.lst (l'.map V.int))) ls le 0 (hi + 1) m vs us:=by
 have kR:∀ a ws,H a=some (.lst ws)→1≤ws.length→(∀ x∈ws,∃ c,x=.ref c)→(upd H b (.lst (l'.map V.int))) a=some (.lst ws):=fun a ws ha _ hw=>by rw [Zac (Ziv hb l1 ha hw)];exact ha
 have u1:=T.elo
 refine ⟨T.fs,T.fe,kR _ _ T.hs (by rw [T.ms];exact m1) fun x hx=>(T.st x hx).ref,T.ms,fun v hv=>?_,kR _ _ T.he T.elo fun x hx=>(T.en x hx).ref,Nat.zero_le _,Nat.le_succ_of_le T.ehi,fun u hu=>(T.en u hu).mono (T.tup m1 hb)⟩
 refine (T.st v hv).keep fun a ws ha h1 h2 h3=>⟨ws,kR _ _ ha h1 fun x hx=>(h3 x hx).ref,Nat.zero_le _,Nat.le_succ_of_le h2,fun x hx=>?_⟩
 refine (h3 x hx).keep fun c k hc k1 k2=>?_
 by_cases z:c=b
 ·rw [z];exact ⟨l',uS,Nat.zero_le _,hl⟩
 ·exact ⟨k,by rw [Zac z];exact hc,Nat.zero_le _,Nat.le_succ_of_le k2⟩
theorem TWk.state {a:Addr}{ws ws':List V}(ha:H a=some (.lst ws)) (w1:1≤ws.length) (hw:∀ x∈ws,Zdz H0 H 1 hi x) (hl:ws'.length≤hi + 1) (hw':∀ x∈ws',Zdz H0 H 0 (hi + 1) x):TWk H0 (upd H a (.lst ws')) ls le 0 (hi + 1) m vs us:=by
 have kL:∀ b (l:List Int),H b=some (.lst (l.map V.int))→b≠a→(upd H a (.lst ws')) b=some (.lst (l.map V.int)):=fun b l hb z=>by rw [Zac z];exact hb
 have nL:∀ b (l:List Int),H b=some (.lst (l.map V.int))→b≠a:=fun b l hb z=>by
  rw [z] at hb
  have hb':=hb
  rw [ha] at hb
  have e:=Option.some.inj hb
  injection e with e
  have:1≤l.length:=by rw [e,List.length_map] at w1;exact w1
  exact Ziv hb' this ha (fun x hx=>(hw x hx).ref) rfl
 have kx:∀ {lo} x,Zdz H0 H lo hi x→Zdz H0 (upd H a (.lst ws')) 0 (hi + 1) x:=fun x h=>h.keep fun b l hb _ h2=>⟨l,kL _ _ hb (nL _ _ hb),Nat.zero_le _,Nat.le_succ_of_le h2⟩
 have kx':∀ x,Zdz H0 H 0 (hi + 1) x→Zdz H0 (upd H a (.lst ws')) 0 (hi + 1) x:=fun x h=>h.keep fun b l hb h1 h2=>⟨l,kL _ _ hb (nL _ _ hb),Nat.zero_le _,h2⟩
 refine ⟨T.fs,T.fe,by rw [Zac (Zo2 ha w1 hw T.hs T.st)];exact T.hs,T.ms,fun v hv=>?_,by rw [Zac (Ne.symm (Zks T.he T.elo T.en ha fun x hx=>(hw x hx).lst))];exact T.he,Nat.zero_le _,Nat.le_succ_of_le T.ehi,fun u hu=>(T.en u hu).mono (T.tup m1 ha)⟩
 refine (T.st v hv).keep fun c vs ha' h1 h2 h3=>?_
 by_cases z:c=a
 ·rw [z];exact ⟨ws',uS,Nat.zero_le _,hl,fun x hx=>kx' x (hw' x hx)⟩
 ·exact ⟨vs,by rw [Zac z];exact ha',Nat.zero_le _,Nat.le_succ_of_le h2,fun x hx=>kx x (h3 x hx)⟩
theorem TWk.steps {lo' m':Nat}{vs':List V} (lo1:lo'≤1) (hm:vs'.length=m') (hv:∀ v∈vs',Zeg H0 H 1 hi v):TWk H0 (upd H ls (.lst vs')) ls le lo' hi m' vs' us:=by
 have kR:∀ v∈vs',Zeg H0 (upd H ls (.lst vs')) lo' hi v:=fun v hv'=>by
  refine (hv v hv').keep fun a ws ha h1 h2 h3=>⟨ws,by rw [Zac (Ne.symm (Zo2 ha h1 h3 T.hs T.st))];exact ha,by omega,h2,fun x hx=>?_⟩
  exact (h3 x hx).keep fun b l hb l1 l2=>⟨l,by rw [Zac (Ne.symm (Ziv hb l1 T.hs fun x hx=>(T.st x hx).ref))];exact hb,by omega,l2⟩
 exact ⟨T.fs,T.fe,uS,hm,kR,by rw [Zac (Ne.symm (Zks T.he T.elo T.en T.hs fun x hx=>(T.st x hx).lst))];exact T.he,Nat.le_trans lo1 T.elo,T.ehi,fun u hu=>(T.en u hu).mono (T.tup m1 T.hs)⟩
theorem TWk.ends {us':List V}(hl:us'.length≤hi + 1) (hu:∀ u∈us',Zt7 H u):TWk H0 (upd H le (.lst us')) ls le 0 (hi + 1) m vs us':=by
 refine ⟨T.fs,T.fe,by rw [Zac (Zks T.he T.elo T.en T.hs fun x hx=>(T.st x hx).lst)];exact T.hs,T.ms,fun v hv=>?_,uS,Nat.zero_le _,hl,fun u h=>(hu u h).mono (T.tup m1 T.he)⟩
 refine (T.st v hv).keep fun a ws ha h1 h2 h3=>⟨ws,by rw [Zac (Zks T.he T.elo T.en ha fun x hx=>(h3 x hx).lst)];exact ha,Nat.zero_le _,Nat.le_succ_of_le h2,fun x hx=>?_⟩
 refine (h3 x hx).keep fun b l hb l1 l2=>⟨l,by rw [Zac (Ne.symm (Ziv hb l1 T.he fun x hx=>(T.en x hx).ref))];exact hb,Nat.zero_le _,Nat.le_succ_of_le l2⟩
end
theorem TWk.read {H0 H:Hp}{ls le:Addr}{lo hi m:Nat}{vs us:List V}(T:TWk H0 H ls le lo hi m vs us) (hh:hi≤5000) (mm:m≤100):∃ ss es,WkC H ls le ss es∧ss.length=m∧Z09 ss es:=by
 have lines:∀ ws:List V,(∀ x∈ws,Zdz H0 H lo hi x)→∃ s:List (List Int),LnC H s ws∧∀ l∈s,l.length≤hi:=by
  intro ws
  induction ws with
  | nil=>exact fun _=>⟨[],.nil,fun l h=>nomatch h⟩
  | cons x r ih =>
   intro h
   obtain ⟨b,l,e,_,hb,_,l2⟩:=h x List.mem_cons_self
   obtain ⟨s,hs,hl⟩:=ih fun y hy=>h y (List.mem_cons_of_mem _ hy)
   exact ⟨l :: s,.cons ⟨b,e,hb⟩ hs,fun k hk=>by
    rcases List.mem_cons.mp hk with z | z
    ·rw [z];exact l2
    ·exact hl k z⟩
 have states:∀ vs:List V,(∀ x∈vs,Zeg H0 H lo hi x)→∃ ss:List (List (List Int)),StC H ss vs∧∀ s∈ss,s.length≤hi∧∀ l∈s,l.length≤hi:=by
  intro vs
  induction vs with
  | nil=>exact fun _=>⟨[],.nil,fun l h=>nomatch h⟩
  | cons x r ih =>
   intro h
   obtain ⟨a,ws,e,_,ha,_,w2,hw⟩:=h x List.mem_cons_self
   obtain ⟨s,hs,hl⟩:=lines ws hw
   obtain ⟨ss,hss,hl2⟩:=ih fun y hy=>h y (List.mem_cons_of_mem _ hy)
   exact ⟨s :: ss,.cons ⟨a,ws,e,ha,hs⟩ hss,fun k hk=>by
    rcases List.mem_cons.mp hk with z | z
    ·rw [z];exact ⟨by rw [Paired.length hs];exact w2,hl⟩
    ·exact hl2 k z⟩
 have ends:∀ us:List V,(∀ x∈us,Zt7 H x)→∃ es:List (List Key),Zgs H es us∧∀ k∈es,OkK k:=by
  intro us
  induction us with
  | nil=>exact fun _=>⟨[],.nil,fun l h=>nomatch h⟩
  | cons x r ih =>
   intro h
   obtain ⟨t,k,e,ht,ok⟩:=h x List.mem_cons_self
   obtain ⟨es,hes,hl⟩:=ih fun y hy=>h y (List.mem_cons_of_mem _ hy)
   exact ⟨k :: es,.cons ⟨t,e,ht⟩ hes,fun j hj=>by
    rcases List.mem_cons.mp hj with z | z
    ·rw [z];exact ok
    ·exact hl j z⟩
 obtain ⟨ss,hss,b1⟩:=states vs T.st
 obtain ⟨es,hes,b2⟩:=ends us T.en
 have e1:=Paired.length hss
 have e2:=Paired.length hes
 have:=T.ms
 have:=T.ehi
 exact ⟨ss,es,⟨vs,us,T.hs,hss,T.he,hes⟩,by omega,⟨by omega,fun s hs=>⟨by have:=(b1 s hs).1;omega,fun l hl=>by have:=(b1 s hs).2 l hl;omega⟩,by omega,b2⟩⟩
theorem TWk.of {H0 H:Hp}{t:Addr}{ss:List (List (List Nat))}{es:List (List Key)}{hi:Nat}(h:Z0z H0 H t ss es) (hs:∀ s∈ss,(1≤s.length∧s.length≤hi)∧∀ l∈s,1≤l.length∧l.length≤hi) (he:1≤es.length∧es.length≤hi) (ok:∀ k∈es,OkK k):
  ∃ ls le vs us,H t=some (.tup [.ref ls,.ref le])∧TWk H0 H ls le 1 hi ss.length vs us:=by
 obtain ⟨ls,le,vs,us,h1,h2,h3,h4,h5,h6,h7⟩:=h
 have e1:=Paired.length h6
 have e2:=Paired.length h7
 refine ⟨ls,le,vs,us,h1,h2,h3,h4,e1.symm,fun v hv=>?_,h5,by omega,by omega,fun u hu=>?_⟩
 ·obtain ⟨j,hj⟩:=List.getElem?_of_mem hv
  obtain ⟨s,hsj,a,ws,e,fa,ha,L⟩:=Zam h6 hj
  have b:=hs s (List.mem_of_getElem? hsj)
  have e3:=Paired.length L
  refine ⟨a,ws,e,fa,ha,by omega,by omega,fun x hx=>?_⟩
  obtain ⟨i,hi'⟩:=List.getElem?_of_mem hx
  obtain ⟨l,hl,c,ec,fc,hc⟩:=Zam L hi'
  have b2:=b.2 l (List.mem_of_getElem? hl)
  exact ⟨c,l.map (fun n:Nat=>(n:Int)),ec,fc,by rw [List.map_map];exact hc,by rw [List.length_map];omega,by rw [List.length_map];omega⟩
 ·obtain ⟨j,hj⟩:=List.getElem?_of_mem hu
  obtain ⟨k,hk,t,e,ht⟩:=Zam h7 hj
  exact ⟨t,k,e,ht,ok k (List.mem_of_getElem? hk)⟩
def Z04 (H1:Hp) (lo hi:Nat) (D:Addr) (_ v:V) (H:Hp):Prop:=∃ (b:Addr) (l:List Int),v=.ref b∧b≠D∧H1 b=none∧H b=some (.lst (l.map V.int))∧lo≤l.length∧l.length≤hi
theorem Zhk {J:It}{xs:List V}{Ok:Hp→Prop}(R:Zqr J xs Ok) {js:List Nat}{te:TE}{σ:St}{Q:VK}{H1:Hp}(few:xs.length≤5000) (lo hi:Nat)
  (hok:∀ H,Zal H1 H→Ok H)
  (he:∀ x H (R:VK),Zal H1 H→x∈xs→(∀ b (l:List Int) H',H b=none→Zal H H'→H' b=some (.lst (l.map V.int))→lo≤l.length→l.length≤hi→R (.ref b) H')→te (some x :: js.map fun j=>(σ[j]?).join) H R)
  (hd:∀ D H' ys,H1 D=none→Zal H1 H'→H' D=some (.lst ys)→ys.length=xs.length→(∀ y∈ys,Zdz H1 H' lo hi y)→Q (.ref D) H'):
  compBody 1 js (Zet 0) Zpq te σ Q J H1:=by
 refine Zdf R (sL (by omega)) (fun _=>true) (Z04 H1 lo hi) (fun D x v Ha Hb k h=>?_) hok ?_ ?_ ?_
 ·obtain ⟨b,l,e,ne,f,h,h1,h2⟩:=h
  exact ⟨b,l,e,ne,f,k _ _ ne h,h1,h2⟩
 ·intro x H' R s' _ hR'
  exact hR' H' (Zal.refl _)
 ·rintro D x H' R s' ⟨yD,hD'⟩ hD hx _ hR'
  refine he x H' R s' hx fun b l H'' hb s'' h'' l1 l2=>hR' _ H'' s'' ⟨b,l,rfl,Ne.symm (nNo hD' hb),s'.free hb,h'',l1,l2⟩
 ·intro D H' ys hD s' hl' pr
  rw [List.filter_eq_self.mpr (fun _ _=>rfl)] at pr
  refine hd D H' ys hD s' hl' (Paired.length pr).symm fun y hy=>?_
  obtain ⟨j,hj⟩:=List.getElem?_of_mem hy
  obtain ⟨x,_,b,l,e,_,f,h,h1,h2⟩:=Zam pr hj
  exact ⟨b,l,e,f,h,h1,h2⟩
end K46
namespace K46
open PySem L2 Md
def Zrg:Sp:=fun vs H Q _=>∃ (lw dh:Addr) (uh:HO) (kvs:List (List Key×V)) (rows:List (Str×List Str)) (n:Nat) (ds:List (List Str)),vs=[.ref lw,.int n,.ref dh]∧H lw=some (.lst ((rows.map (·.1)).map V.str))∧Zek rows∧H dh=some uh∧RdO uh kvs∧Ze3 H rows ds (Zaj rows n) kvs∧n≤4∧rows.length ^ n≤512 ∧
 ∀ t ls le vs us H',Zal H H'→H' t=some (.tup [.ref ls,.ref le])→TWk H H' ls le 1 512 n vs us→Q (.ref t) H'
abbrev nWd:List Str:=["words","places","heard","steps","place","many","states"]
theorem Zzh:Zap nWd Zt6 (Zab Zbl):=⟨rfl,rfl,rfl,by decide +kernel,rfl,by decide +kernel,by decide +kernel⟩
def Z39:Scope:=match Zai Zbl with
 | [_,.For _ _ [_,_,.Expr (.Call _ [.ListComp _ _ sc _] _ _) _] _ _,_]=>sc
 | _=>Zab Zbl
theorem Z10:(["k","many"]:List Str).Nodup:=by decide +kernel
theorem Z0d:(["j","k","many"]:List Str).Nodup:=by decide +kernel
def Z3r (k m:Int):V→V
 | .int j=>.int (k * m + j)
 | v=>v
def Z45 (k m:Int):V→Int
 | .int j=>k * m + j
 | _=>0
theorem Zvh (k m:Int) (n:Nat):(Zdg 0 n).map (Z3r k m)=((Zdg 0 n).map (Z45 k m)).map V.int:=by
 unfold Zdg
 rw [List.map_map,List.map_map,List.map_map]
 rfl
theorem Zms {rows:List (Str×List Str)}(g:Zek rows) (j:Nat):1≤(Zaj rows j).length:=by
 rw [Zev]
 have:=g.ne
 exact Nat.one_le_pow _ _ (by omega)
section
variable {P:Program} {w:World} {K:PySem.W.Frag} {mg:Str→Option Value} {base:Heap}
set_option maxHeartbeats 8000000 in
theorem Zuz {f fLC:Addr}{fd fdLC:FuncData}(F:Def K mg "_law_wide" Zbl Zt6 f fd) (range:mg "range"=none) (len:mg "len"=none) (DLC:Def K mg "_law_calls" Zbq ["words","places"] fLC fdLC) (GLC:Za3 P w K mg base CX0 1 fLC fdLC ["words","places"] Zh1):Za3 P w K mg base CX0 2 f fd Zt6 Zrg:=by
 refine F.fn.ok Zzh (fun vs H Q E h=>?_) (fun cdv A outer s H vs Q E hr h=>?_)
 ·obtain ⟨lw,dh,uh,kvs,rows,n,ds,rfl,_⟩:=h
  rfl
 ·obtain ⟨lw,dh,uh,kvs,rows,n,ds,rfl,hw,g,hd,ru,hT,n4,rc,q⟩:=h
  have nd:=Zzh.nd
  have hu:=Zfw hr
  refine' ⟨_,(pS (Zag (i:=3) nd rfl (Or.inl rfl) (Zb9 Zaa))
   (pS (Zbw PassesOwn.never rfl (Zb5 (by rfl) range (pC (pv 1) Zaa)) (Zah (i:=4) nd rfl (Or.inl rfl))
    (pS (Zag (i:=5) nd rfl (Or.inr rfl) (Zan Zak (by rfl) len PySem.boot_len (pC (pv 0) Zaa)))
   (pS (Zag (i:=6) nd rfl (Or.inl rfl) (Zaf DLC GLC hr (pC (pv 0) (pC (pv 4) Zaa))))
   (Zad (Za9 (Zej PySem.F.plainAttrs_list PySem.F.slot_list_append PySem.F.type_list_append Zb6 (pv 3) (pC ?e1 Zaa)))))))
   (Zad (Zat (Zb8 (pC (pv 3) (pC ?e3 Zaa))))))),?_⟩
  case e1=>exact (Zut ["k"] ["many"] [5] (fun _=>Ztu (osc:=Zab Zbl) (on:=nWd) (by decide +kernel) rfl rfl rfl) (Zb5 (by rfl) range (pC (Zan Zak (by rfl) len PySem.boot_len (pC (pv 6) Zaa)) Zaa)) (fun C s H fp=>Zah (i:=0) Z10 rfl (Or.inr rfl) (Or.inl rfl)) (fun C s H fp=>Zbn)
    (fun C s H fp=>by
     refine' Zbr (wi:=Z0n (Zle (Zog 1) Zue)) ["j"] ["k","many"] [0,1] (fun _=>Za0 (osc:=Zw9 Z39 (Zab Zbl)) (on:=["k","many"]) (by decide +kernel) rfl rfl rfl) ?ej ?ek ?el ?em
     case ej=>exact Zb5 (by rfl) range (pC (pv 1) Zaa)
     case ek=>exact (fun C s H fp=>Zah (i:=0) Z0d rfl (Or.inl rfl) (Or.inr rfl))
     case el=>exact (fun C s H fp=>Zbn)
     case em=>exact (fun C s H fp=>Zba Zdr (Zba Zjr (pv 1) (pv 2)) (pv 0))))
  case e3=>exact (Zbr ["call"] ["heard"] [2] (fun _=>Za0 (osc:=Zab Zbl) (on:=nWd) (by decide +kernel) rfl rfl rfl) (Zbd (Zaf DLC GLC hr (pC (pv 0) (pC (pv 1) Zaa)))) (fun C s H fp=>Zah (i:=0) Z0e rfl (Or.inl rfl) (Or.inr rfl)) (fun C s H fp=>Zbn) (fun C s H fp=>Zer hu (pv 1) (pv 0) (fun _ _=>rfl)))
  have al:=Zev rows
  have gle:=g.le
  have gne:1≤rows.length:=by have:=g.ne;omega
  have wl:(rows.map (·.1)).length=rows.length:=List.length_map ..
  have pw:∀ j,j≤n→rows.length ^ j≤512:=fun j hj=>Nat.le_trans (Zf4 gne hj) rc
  refine ⟨Nat.zero_le _,fun ls hls=>?_⟩
  have s01:Zal H (upd H ls (.lst [])):=Zcq hls
  have hls1:(upd H ls (.lst [])) ls=some (.lst []):=uS
  generalize upd H ls (.lst [])=H1 at s01 hls1
  refine ⟨_,rfl,n,rfl,by omega,by omega,Za6 Zbm (fun i σ H'=>∃ (x4 x5 x6:Option V) (vs:List V),σ=[some (.ref lw),some (.int n),some (.ref dh),some (.ref ls),x4,x5,x6]∧Zal H H'∧H' ls=some (.lst vs)∧vs.length=i∧∀ v∈vs,∃ (a:Addr) (ws:List V),v=.ref a∧a≠ls∧H a=none∧H' a=some (.lst ws)∧1≤ws.length∧ws.length≤512∧∀ x∈ws,∃ (b:Addr) (l:List Int),x=.ref b∧b≠ls∧H b=none∧H' b=some (.lst (l.map V.int))∧1≤l.length∧l.length≤512)
   ⟨none,none,none,[],rfl,s01,hls1,rfl,fun v h=>nomatch h⟩ (fun _ _ _ _ _=>trivial) ?_ ?_⟩
  ·rintro i v σ H2 hi ⟨x4,x5,x6,vs,rfl,s2,hls2,vl,hv⟩
   obtain ⟨hi,rfl⟩:=Za4 hi
   have hi:i<n:=by omega
   have pwi:=pw i (by omega)
   refine ⟨_,rfl,lw,_,rfl,.inl (SqL.of (s2 _ _ hw)),?_⟩
   refine ⟨_,rfl,_,rfl,lw,rows.map (·.1),i,by rw [Int.zero_add];rfl,s2 _ _ hw,by omega,by rw [wl];omega,by omega,by omega,fun lc yc H3 hlc s23 hlc3 DC=>?_⟩
   have DC:Zay H3 (Zaj rows i) yc:=DC
   have ycl:=Paired.length DC
   rw [al] at ycl
   have yc1:1≤yc.length:=by rw [← ycl];exact Nat.one_le_pow _ _ (by omega)
   have hls3:=s23 _ _ hls2
   refine ⟨_,rfl,.inl ⟨rfl,_,SqL.of hls3⟩,_,rfl,lc,_,rfl,.inl (SqL.of hlc3),_,rfl,by omega,by omega,?_⟩
   refine Zhk Zbm (by rw [Zau];omega) 1 512 (fun _ _=>trivial) ?_ ?_
   ·intro x H' R s' hx hR'
    obtain ⟨k,hk⟩:=List.getElem?_of_mem hx
    obtain ⟨hk,rfl⟩:=Za4 hk
    have mlen:(List.map V.str (List.map (fun r:Str×List Str=>r.1) rows)).length=rows.length:=by rw [List.length_map,List.length_map]
    refine ⟨_,rfl,_,rfl,by omega,by omega,Zgd Zbm (by rw [Zau];exact sL (by omega)) (fun _=>true) (Z3r (0 + (k:Int)) ((List.map V.str (List.map (fun r:Str×List Str=>r.1) rows)).length:Nat)) (fun _ _=>trivial) ?_ ?_ ?_⟩
    ·intro x H' R s' _ hR'
     exact hR' H' (Zal.refl _)
    ·intro x H' R s' hx _ hR'
     obtain ⟨j,hj⟩:=List.getElem?_of_mem hx
     obtain ⟨hj,rfl⟩:=Za4 hj
     exact ⟨_,rfl,_,rfl,_,_,rfl,rfl,.inr (by omega),_,rfl,_,_,rfl,rfl,hR' H' (Zal.refl _)⟩
    ·intro D H'' hD s'' hl
     rw [List.filter_eq_self.mpr (fun _ _=>rfl),Zvh] at hl
     exact hR' D _ H'' hD s'' hl (by rw [List.length_map,Zau];omega) (by rw [List.length_map,Zau];omega)
   intro D H4 ys hD s34 hD4 yl hy
   rw [Zau] at yl
   have hls4:=s34 _ _ hls3
   have Dls:D≠ls:=Ne.symm (nNo hls3 hD)
   refine ⟨ls,_,_,rfl,rfl,hls4,Za2 (by omega),?_⟩
   have k5:∀ b o,b≠ls→H4 b=some o→(upd H4 ls (.lst (vs++[.ref D]))) b=some o:=fun b o hb e=>by rw [Zac hb];exact e
   have s24:=s23.trans s34
   refine ⟨_,_,_,_,rfl,fun b o e=>k5 _ _ (nNo e hls) (s24 _ _ (s2 _ _ e)),uS,by rw [List.length_append,vl];rfl,fun v hv'=>?_⟩
   rcases List.mem_append.mp hv' with z | z
   ·obtain ⟨a,ws,e,na,fa,ha,w1,w2,hw'⟩:=hv v z
    refine ⟨a,ws,e,na,fa,k5 _ _ na (s24 _ _ ha),w1,w2,fun x hx=>?_⟩
    obtain ⟨b,l,e,nb,fb,hb,l1,l2⟩:=hw' x hx
    exact ⟨b,l,e,nb,fb,k5 _ _ nb (s24 _ _ hb),l1,l2⟩
   ·rw [List.mem_singleton.mp z]
    refine ⟨D,ys,rfl,Dls,(s2.trans s23).free hD,k5 _ _ Dls hD4,by omega,by omega,fun x hx=>?_⟩
    obtain ⟨b,l,e,fb,hb,l1,l2⟩:=hy x hx
    have nb:b≠ls:=Ne.symm (nNo hls3 fb)
    exact ⟨b,l,e,nb,(s2.trans s23).free fb,k5 _ _ nb hb,l1,l2⟩
  ·rintro σ H2 ⟨x4,x5,x6,vs,rfl,s2,hls2,vl,hv⟩
   rw [Zau] at vl
   refine ⟨_,rfl,_,rfl,_,rfl,lw,rows.map (·.1),n,rfl,s2 _ _ hw,by omega,by rw [wl];omega,by omega,by omega,fun lc yc H3 hlc s23 hlc3 DC=>?_⟩
   have DC:Zay H3 (Zaj rows n) yc:=DC
   have ycl:=Paired.length DC
   have yc1:=Zms g n
   have yc2:(Zaj rows n).length≤512:=by rw [al];exact rc
   have s03:=s2.trans s23
   have hd3:=s03 _ _ hd
   refine ⟨lc,rfl,⟨_,SqL.of hlc3⟩,Zdf (Zav (xs:=yc)) (sL (by omega)) (fun _=>true) (fun _ _ v _=>∃ (u:Addr) (c:List Str),v=.ref u∧H u=some (.tup ((Zc3 rows ds c).map kV))) (fun _ _ _ _ _ _ h=>h) (fun H' s'=>s'.seq (SqL.of hlc3)) ?_ ?_ ?_⟩
   ·intro x H' R s' _ hR'
    exact hR' H' (Zal.refl _)
   ·intro D x H' R s' _ _ hx _ hR'
    obtain ⟨j,hj⟩:=List.getElem?_of_mem hx
    obtain ⟨r,hrj,t,rfl,ht⟩:=Zam DC hj
    obtain ⟨u1,v1,k1⟩:=hT.get (List.mem_of_getElem? hrj)
    have dg1:=Zgf.tr (k:=Zfo r) (Zna (s' _ _ hd3) ru) (show H' t=_ by rw [Zd7];exact s' _ _ ht)
    rw [v1] at dg1
    exact ⟨_,rfl,_,rfl,dh,_,rfl,dg1,hR' _ H' (Zal.refl _) ⟨u1,r,rfl,by unfold Zc3;rw [Zhb];exact k1⟩⟩
   intro le H4 us hle s34 hle4 pr2
   rw [List.filter_eq_self.mpr (fun _ _=>rfl)] at pr2
   have ul:=Paired.length pr2
   refine ⟨sL (by show 2≤100000;decide),fun t ht=>?_⟩
   have s45:Zal H4 (upd H4 t (.tup [.ref ls,.ref le])):=Zcq ht
   have s25:=s23.trans (s34.trans s45)
   have en:((n:Nat):Int).toNat=n:=by simp
   refine q t ls le vs us _ (s2.trans s25) uS ⟨hls,(s2.trans s23).free hle,s25 _ _ hls2,by omega,fun v hv'=>?_,s45 _ _ hle4,by omega,by omega,fun u hu'=>?_⟩
   ·obtain ⟨a,ws,e,na,fa,ha,w1,w2,hw'⟩:=hv v hv'
    refine ⟨a,ws,e,fa,s25 _ _ ha,w1,w2,fun x hx=>?_⟩
    obtain ⟨b,l,e,nb,fb,hb,l1,l2⟩:=hw' x hx
    exact ⟨b,l,e,fb,s25 _ _ hb,l1,l2⟩
   ·obtain ⟨j,hj⟩:=List.getElem?_of_mem hu'
    obtain ⟨x,_,u,c,e,h⟩:=Zam pr2 hj
    exact ⟨u,_,e,(s2.trans s25) _ _ h,Zi7 _⟩
end
end K46
namespace K46
open PySem L2 Md
theorem Zdc {p b:Addr}{H H':Hp}(d:Drawn p H H') (h:H' b=none):H b=none:=by
 cases z:H b with
 | none=>rfl
 | some u =>
  by_cases e:b=p
  ·obtain ⟨op,hpp,_⟩:=d.pot
   rw [e,hpp] at h;cases h
  ·rw [d.keep _ _ e z] at h;cases h
theorem Zed {p x:Addr}{H0 H:Hp}{o:HO}(d:Drawn p H0 H) (f:H0 x=none) (xp:x≠p):Drawn p H0 (upd H x o):=
 ⟨fun b u hb e=>by rw [Zac (nNo e f)];exact d.keep b u hb e,by obtain ⟨u,h1,h2⟩:=d.pot;exact ⟨u,by rw [Zac (Ne.symm xp)];exact h1,h2⟩⟩
theorem Zdz.keepF {H0 H H':Hp}{lo hi:Nat}{v:V}(h:Zdz H0 H lo hi v) (k:∀ b xs,H0 b=none→H b=some (.lst xs)→H' b=some (.lst xs)):Zdz H0 H' lo hi v:=by
 obtain ⟨b,l,e,f,hb,h1,h2⟩:=h
 exact ⟨b,l,e,f,k _ _ f hb,h1,h2⟩
theorem TWk.drawn {H0 H H':Hp}{p ls le:Addr}{o o0:HO}{lo hi m:Nat}{vs us:List V}(T:TWk H0 H ls le lo hi m vs us) (hp0:H0 p=some o0) (hp:H p=some o) (ho:Zm1 o) (d:Drawn p H H'):TWk H0 H' ls le lo hi m vs us:=by
 have k:∀ b xs,H0 b=none→H b=some (.lst xs)→H' b=some (.lst xs):=fun b xs f e=>d.keep _ _ (fun z=>by rw [z,hp0] at f;cases f) e
 refine ⟨T.fs,T.fe,k _ _ T.fs T.hs,T.ms,fun v hv=>?_,k _ _ T.fe T.he,T.elo,T.ehi,fun u hu=>(T.en u hu).mono fun b xs e=>d.keep b _ (fun z=>by rw [z,hp] at e;obtain ⟨_,_,q,_⟩:=ho;rw [q] at e;cases e) e⟩
 obtain ⟨a,ws,e,fa,ha,w1,w2,hw⟩:=T.st v hv
 exact ⟨a,ws,e,fa,k _ _ fa ha,w1,w2,fun x hx=>(hw x hx).keepF k⟩
theorem TWk.mono {H0 H H':Hp}{ls le:Addr}{lo hi m:Nat}{vs us:List V}(T:TWk H0 H ls le lo hi m vs us) (s:Zal H H'):TWk H0 H' ls le lo hi m vs us:=T.same (fun _ _ e=>s _ _ e) (fun _ _ e=>s _ _ e)
theorem Zfx {xs:List V}{v:Int} (h0:0≤v) (h1:v<xs.length):∃ z,z∈xs∧atI xs v=some z:=by
 have hn:v.toNat<xs.length:=by omega
 exact ⟨xs[v.toNat],List.getElem_mem hn,Zpj h0 (List.getElem?_eq_getElem hn)⟩
theorem Zvi {n:Nat}{v:Int} (h0:0≤v) (h1:v<n):ixN n v=some v.toNat:=by
 unfold ixN
 rw [if_pos h0,if_pos h1]
def Zwv:V→V
 | .int i=>.int (i + 1)
 | v=>v
theorem Zqp (l:List Int):(l.map V.int).map Zwv=(l.map (· + 1)).map V.int:=by rw [List.map_map,List.map_map];rfl
def Z4c:Scope:=match Zai Zax with
 | [_,.Assign _ (.ListComp _ _ sc _) _,_]=>sc
 | _=>Zab Zax
theorem Zwm:(["state"]:List Str).Nodup:=by decide +kernel
theorem Zz9:(["number"]:List Str).Nodup:=by decide +kernel
theorem Z0a:(["line"]:List Str).Nodup:=by decide +kernel
def Zrp:Sp:=fun vs H Q _=>∃ (H0:Hp) (p ls le:Addr) (hi m:Nat) (ws us:List V) (o:HO),vs=[.ref p,.ref ls,.ref le]∧H0 p=some o∧Drawn p H0 H∧TWk H0 H ls le 1 hi m ws us∧1≤m∧m≤100∧hi≤1000 ∧
 ∀ vs' us' H',Drawn p H0 H'→TWk H0 H' ls le 0 (hi + 1) m vs' us'→Q .non H'
def Zv5:Sp:=fun vs H Q _=>∃ (H0:Hp) (p ls le:Addr) (hi m:Nat) (ws us:List V) (o:HO),vs=[.ref p,.ref ls]∧H0 p=some o∧Drawn p H0 H∧TWk H0 H ls le 1 hi m ws us∧1≤m∧m≤100∧hi≤1000 ∧
 ∀ m' vs' us' H',Drawn p H0 H'→TWk H0 H' ls le 0 (hi + 1) m' vs' us'→m'≤m + 1→Q .non H'
def Zzd:Sp:=fun vs H Q _=>∃ (H0:Hp) (p ls le:Addr) (hi m:Nat) (ws us:List V) (o:HO),vs=[.ref p,.ref ls,.ref le]∧H0 p=some o∧Drawn p H0 H∧TWk H0 H ls le 1 hi m ws us∧1≤m∧m≤100∧hi≤1000 ∧
 ∀ (way:Int) m' vs' us' H',Drawn p H0 H'→TWk H0 H' ls le 0 (hi + 1) m' vs' us'→m'≤m + 1→(way<5→m'=m)→Q (.int way) H'
abbrev nOA:List Str:=["pot","steps","ends","at"]
theorem Zzj:Zap nOA ["pot","steps","ends"] (Zab Zax):=⟨rfl,rfl,rfl,by decide +kernel,rfl,by decide +kernel,by decide +kernel⟩
abbrev nSS:List Str:=["pot","steps","at","state","way"]
theorem Z24:Zap nSS ["pot","steps"] (Zab Za1):=⟨rfl,rfl,rfl,by decide +kernel,rfl,by decide +kernel,by decide +kernel⟩
theorem eqi {i j:Int}(h:decide (V.int i=V.int j)=true):i=j:=by
 have:=of_decide_eq_true h
 injection this
section
variable {P:Program} {w:World} {K:PySem.W.Frag} {mg:Str→Option Value} {base:Heap}
set_option maxHeartbeats 8000000 in
theorem Zu8 {f fT:Addr}{fd fdT:FuncData}(F:Def K mg "_law_one_ahead" Zax ["pot","steps","ends"] f fd) (len:mg "len"=none) (DT:Def K mg "_law_take" Za8 ["pot","many"] fT fdT) (GT:Za3 P w K mg base CX0 1 fT fdT ["pot","many"] Zgg):Za3 P w K mg base CX0 2 f fd ["pot","steps","ends"] Zrp:=by
 refine F.fn.ok Zzj (fun vs H Q E h=>?_) (fun cdv A outer s H vs Q E hr h=>?_)
 ·obtain ⟨H0,p,ls,le,hi,m,ws,us,o,rfl,_⟩:=h
  rfl
 ·obtain ⟨H0,p,ls,le,hi,m,vs,us,o0,rfl,hp0,d0,T,m1,m4,hh,q⟩:=h
  have nd:=Zzj.nd
  have pne:∀ x,H0 x=none→x≠p:=fun x hx z=>by rw [z,hp0] at hx;cases hx
  refine' ⟨_,(pS (Zag (i:=3) nd rfl (Or.inl rfl) (Zaf DT GT hr (pC (pv 0) (pC (Zan Zak (by rfl) len PySem.boot_len (pC (pv 1) Zaa)) Zaa))))
   (pS (Zhq ?e1 (Zlu (pv 1) (pv 3) Zgw))
   (Zad (Zbe (Zaq Zjc (Zba Zdr (pv 3) Zae) (Zan Zak (by rfl) len PySem.boot_len (pC (pv 1) Zaa)) (Zaz _))
    (Zad (Za9 (Zej PySem.F.plainAttrs_list PySem.F.slot_list_insert PySem.F.type_list_insert Zg2 (Za5 (r:=Zfd K) Zar (pv 1) (Zba Zdr (pv 3) Zae) (fun _ _=>rfl)) (pC Zae (pC (Za5 (r:=Zlr K) Zd0 (Zb8 (pC (Zb9 Zaa) (pC (Zb9 (pC Zae Zaa)) (pC (Zb9 (pC (Zxi Zq4 Zae) (pC (Zba Zhs Zae Zae) Zaa))) Zaa)))) (Zaf DT GT hr (pC (pv 0) (pC Zae Zaa))) (fun _ _=>rfl)) Zaa)))))
    (Zad (Za9 (Zej PySem.F.plainAttrs_list PySem.F.slot_list_insert PySem.F.type_list_insert Zg2 (pv 2) (pC Zae (pC (Zb8 (pC Zey Zaa)) Zaa))))))))),?_⟩
  case e1=>exact (Zbr ["state"] [] [] (fun _=>Za0 (osc:=Zab Zax) (on:=nOA) (by decide +kernel) rfl rfl rfl) (Zbd (Za5 (r:=Zfd K) Zar (pv 1) (pv 3) (fun _ _=>rfl))) (fun C s H fp=>Zah (i:=0) Zwm rfl (Or.inl rfl) (Or.inr rfl)) (fun C s H fp=>Zbn)
    (fun C s H fp=>by
     refine' Zbr (wi:=Zya K (Zog 0)) ["number"] [] [] (fun _=>Za0 (osc:=Zw9 Z4c (Zab Zax)) (on:=["state"]) (by decide +kernel) rfl rfl rfl) ?ej ?ek ?el ?em
     case ej=>exact Zbd (pv 0)
     case ek=>exact (fun C s H fp=>Zah (i:=0) Zz9 rfl (Or.inl rfl) (Or.inr rfl))
     case el=>exact (fun C s H fp=>Zbn)
     case em=>exact (fun C s H fp=>Zba Zdr (pv 0) Zae)))
  obtain ⟨o,hp,ho⟩:=id d0.pot
  have ms:=T.ms
  refine ⟨_,rfl,_,rfl,ls,_,rfl,.inl (SqL.of T.hs),p,_,o,rfl,hp,ho,by omega,by omega,fun at_ o1 a0 a1 ho1=>?_⟩
  have d1:Drawn p H (upd H p o1):=Drawn.upd ho1
  have hp1:(upd H p o1) p=some o1:=uS
  generalize upd H p o1=H1 at d1 hp1
  have T1:=T.drawn hp0 hp ho d1
  have d01:=d0.trans d1
  obtain ⟨z,hz,hat⟩:=Zfx a0 a1
  obtain ⟨a,ws,rfl,fa,ha,w1,w2,hw⟩:=T1.st z hz
  refine ⟨_,rfl,_,rfl,ls,_,_,_,rfl,rfl,SqL.of T1.hs,hat,a,rfl,⟨_,SqL.of ha⟩,Zhk (Zav (xs:=ws)) (by omega) 1 hi (fun H' s'=>s'.seq (SqL.of ha)) ?_ ?_⟩
  ·intro x H' R s' hx hR'
   obtain ⟨b,l,rfl,fb,hb,l1,l2⟩:=hw x hx
   have hb':=s' _ _ hb
   refine ⟨_,rfl,b,rfl,⟨_,SqL.of hb'⟩,Zgd (Zav (xs:=l.map V.int)) (by rw [List.length_map];exact sL (by omega)) (fun _=>true) Zwv (fun H' s'=>s'.seq (SqL.of hb')) ?_ ?_ ?_⟩
   ·intro x H' R s' _ hR'
    exact hR' H' (Zal.refl _)
   ·intro x H' R s' hx _ hR'
    obtain ⟨i,_,rfl⟩:=List.mem_map.mp hx
    exact ⟨_,rfl,_,_,rfl,rfl,hR' H' (Zal.refl _)⟩
   ·intro D H'' hD s'' hl
    rw [List.filter_eq_self.mpr (fun _ _=>rfl),Zqp] at hl
    exact hR' D _ H'' hD s'' hl (by rw [List.length_map];omega) (by rw [List.length_map];omega)
  intro D H2 ys hD s12 hD2 yl hy
  have T2:=T1.mono s12
  have d02:Drawn p H0 H2:=d01.same s12
  have hp2:=s12 _ _ hp1
  have st2:∀ v∈vs.set at_.toNat (.ref D),Zeg H0 H2 1 hi v:=fun v hv=>by
   rcases List.mem_or_eq_of_mem_set hv with c | c
   ·exact T2.st v c
   ·rw [c]
    refine ⟨D,ys,rfl,Zdc d01 hD,hD2,by omega,by omega,fun x hx=>?_⟩
    obtain ⟨b,l,e,fb,hb,l1,l2⟩:=hy x hx
    exact ⟨b,l,e,Zdc d01 fb,hb,l1,l2⟩
  refine ⟨_,rfl,_,rfl,ls,_,_,_,rfl,rfl,T2.hs,Zvi a0 a1,?_⟩
  have T3:=T2.steps m1 (lo':=1) (m':=m) (Nat.le_refl _) (by rw [List.length_set];exact ms) st2
  have d03:Drawn p H0 (upd H2 ls (.lst (vs.set at_.toNat (.ref D)))):=Zed d02 T.fs (pne _ T.fs)
  have hp3:(upd H2 ls (.lst (vs.set at_.toNat (.ref D)))) p=some o1:=by rw [Zac (Ne.symm (pne _ T.fs))];exact hp2
  generalize upd H2 ls (.lst (vs.set at_.toNat (.ref D)))=H3 at T3 d03 hp3
  generalize vs.set at_.toNat (.ref D)=vs3 at T3
  have ms3:=T3.ms
  refine ⟨_,rfl,_,_,rfl,rfl,_,rfl,ls,_,rfl,.inl (SqL.of T3.hs),_,_,rfl,rfl,_,rfl,Zdu (fun c=>?_) (fun c=>?_)⟩
  ·have c:at_ + 1<(vs3.length:Int):=of_decide_eq_true c
   obtain ⟨z,hz,hat⟩:=Zfx (by omega) c
   obtain ⟨a,ws,rfl,fa,ha,w1,w2,hw⟩:=T3.st z hz
   refine ⟨_,rfl,_,rfl,_,_,rfl,rfl,ls,_,_,_,rfl,rfl,SqL.of T3.hs,hat,.inl ⟨rfl,_,SqL.of ha⟩,Nat.zero_le _,fun l0 h0=>?_⟩
   have s4:Zal H3 (upd H3 l0 (.lst [])):=Zcq h0
   have h40:(upd H3 l0 (.lst [])) l0=some (.lst (([]:List Int).map V.int)):=uS
   generalize upd H3 l0 (.lst [])=H4 at s4 h40
   refine ⟨sL (by show 1≤100000;decide),fun l1 h1=>?_⟩
   have s5:Zal H4 (upd H4 l1 (.lst [.int 0])):=Zcq h1
   have h51:(upd H4 l1 (.lst [.int 0])) l1=some (.lst (([0]:List Int).map V.int)):=uS
   generalize upd H4 l1 (.lst [.int 0])=H5 at s5 h51
   refine ⟨_,rfl,_,_,rfl,rfl,⟨by decide,by decide,by decide⟩,sL (by show 2≤100000;decide),fun l2 h2=>?_⟩
   obtain ⟨big,eb⟩:∃ big:Int,big=10 ^ (40:Int).toNat:=⟨_,rfl⟩
   have s6:Zal H5 (upd H5 l2 (.lst [(fun i:Int=>V.int (-i)) 1,(fun i j:Int=>V.int (i ^ j.toNat)) 10 40])):=Zcq h2
   have h62:(upd H5 l2 (.lst [(fun i:Int=>V.int (-i)) 1,(fun i j:Int=>V.int (i ^ j.toNat)) 10 40])) l2=some (.lst (([-1,big]:List Int).map V.int)):=by rw [uS,eb];rfl
   generalize upd H5 l2 (.lst [(fun i:Int=>V.int (-i)) 1,(fun i j:Int=>V.int (i ^ j.toNat)) 10 40])=H6 at s6 h62
   refine ⟨sL (by show 3≤100000;decide),fun t ht=>?_⟩
   have s7:Zal H6 (upd H6 t (.tup [.ref l0,.ref l1,.ref l2])):=Zcq ht
   have h7t:(upd H6 t (.tup [.ref l0,.ref l1,.ref l2])) t=some (.tup [.ref l0,.ref l1,.ref l2]):=uS
   generalize upd H6 t (.tup [.ref l0,.ref l1,.ref l2])=H7 at s7 h7t
   have s37:=s4.trans (s5.trans (s6.trans s7))
   refine ⟨_,rfl,p,3,o1,rfl,s37 _ _ hp3,ho1,by decide,by decide,fun v o8 v0 v1 ho8=>?_⟩
   have d78:Drawn p H7 (upd H7 p o8):=Drawn.upd ho8
   generalize upd H7 p o8=H8 at d78
   have T7:=T3.mono s37
   have T8:=T7.drawn hp0 (s37 _ _ hp3) ho1 d78
   have d08:=(d03.same s37).trans d78
   have tp:t≠p:=fun z=>by
    rw [z,s37 _ _ hp3] at h7t
    obtain ⟨_,_,q,_⟩:=ho1
    rw [q] at h7t;cases h7t
   have k0:=(s5.trans (s6.trans s7)) _ _ h40
   have k1:=(s6.trans s7) _ _ h51
   have k2:=s7 _ _ h62
   have cand:∀ y∈[V.ref l0,.ref l1,.ref l2],Zdz H0 H8 0 (hi + 1) y:=fun y hy=>by
    rcases List.mem_cons.mp hy with c | hy
    ·exact ⟨l0,[],c,Zdc d03 h0,d78.keep _ _ (pne _ (Zdc d03 h0)) k0,Nat.zero_le _,Nat.zero_le _⟩
    rcases List.mem_cons.mp hy with c | hy
    ·exact ⟨l1,[0],c,Zdc (d03.same s4) h1,d78.keep _ _ (pne _ (Zdc (d03.same s4) h1)) k1,Nat.zero_le _,by show 1≤hi + 1;omega⟩
    ·exact ⟨l2,[-1,big],List.mem_singleton.mp hy,Zdc (d03.same (s4.trans s5)) h2,d78.keep _ _ (pne _ (Zdc (d03.same (s4.trans s5)) h2)) k2,Nat.zero_le _,by show 2≤hi + 1;omega⟩
   obtain ⟨y,hy,haty⟩:=Zfx (xs:=[V.ref l0,.ref l1,.ref l2]) v0 v1
   have ha8:=d78.keep _ _ (pne _ fa) (s37 _ _ ha)
   have hw8:∀ x∈ws,Zdz H0 H8 1 hi x:=fun x hx=>(hw x hx).keepF fun b xs f e=>d78.keep _ _ (pne _ f) (s37 _ _ e)
   refine ⟨t,_,_,_,rfl,rfl,SqT.of (d78.keep _ _ tp h7t),haty,a,_,_,_,rfl,rfl,ha8,Int.le_refl _,by omega,Za2 (by omega),?_⟩
   refine q _ _ _ (Zed d08 fa (pne _ fa)) (T8.state m1 ha8 w1 hw8 (by rw [List.length_append,List.length_cons,List.length_take,List.length_drop];omega) fun x hx=>?_)
   rcases List.mem_append.mp hx with c | c
   ·exact (hw8 x (List.mem_of_mem_take c)).mono (fun _ _ e _=>e) (by omega) (by omega)
   ·rcases List.mem_cons.mp c with c | c
    ·rw [c];exact cand y hy
    ·exact (hw8 x (List.mem_of_mem_drop c)).mono (fun _ _ e _=>e) (by omega) (by omega)
  ·refine ⟨_,rfl,.inl ⟨rfl,_,SqL.of T3.he⟩,sL (by show 1≤100000;decide),fun t ht=>?_⟩
   have s4:Zal H3 (upd H3 t (.tup [.str "none"])):=Zcq ht
   have h4t:(upd H3 t (.tup [.str "none"])) t=some (.tup (([.inr "none"]:List Key).map kV)):=uS
   generalize upd H3 t (.tup [.str "none"])=H4 at s4 h4t
   have T4:=T3.mono s4
   have d04:Drawn p H0 H4:=d03.same s4
   have eh:=T4.ehi
   refine ⟨le,_,_,_,rfl,rfl,T4.he,Int.le_refl _,by omega,Za2 (by omega),?_⟩
   refine q _ _ _ (Zed d04 T.fe (pne _ T.fe)) (T4.ends m1 (by rw [List.length_append,List.length_cons,List.length_take,List.length_drop];omega) fun u hu=>?_)
   rcases List.mem_append.mp hu with c | c
   ·exact T4.en u (List.mem_of_mem_take c)
   ·rcases List.mem_cons.mp c with c | c
    ·exact ⟨t,_,c,h4t,Zgp (by decide +kernel) Zgq⟩
    ·exact T4.en u (List.mem_of_mem_drop c)
end
end K46
namespace K46
open PySem L2 Md
theorem Zz3 {xs:List V}(h:1≤xs.length):∃ y,xs[xs.length - 1]?=some y:=⟨_,List.getElem?_eq_getElem (show xs.length - 1<xs.length by omega)⟩
def Zzp (K:PySem.W.Frag):List V→Hp→VK→Prop:=fun xs H Q=>∃ p ys,xs=[.ref p]∧(SqL K H p ys∨SqT K H p ys)∧∀ l,H l=none→Q (.ref l) (upd H l (.lst ys))
theorem Zv9 {n:Nat}{v:Int} (h0:0≤v) (h1:v<n):seqIndex? v n=some v.toNat:=by
 have:=Znt (Zvi h0 h1)
 exact this.1
section
variable {P:Program} {w:World} {K:PySem.W.Frag} {mg:Str→Option Value} {base:Heap}
set_option maxHeartbeats 16000000 in
theorem Zir {f fT:Addr}{fd fdT:FuncData}(F:Def K mg "_law_spoilt_steps" Za1 ["pot","steps"] f fd) (len:mg "len"=none) (list:mg "list"=none) (DT:Def K mg "_law_take" Za8 ["pot","many"] fT fdT) (GT:Za3 P w K mg base CX0 1 fT fdT ["pot","many"] Zgg):Za3 P w K mg base CX0 2 f fd ["pot","steps"] Zv5:=by
 refine F.fn.ok Z24 (fun vs H Q E h=>?_) (fun cdv A outer s H vs Q E hr h=>?_)
 ·obtain ⟨H0,p,ls,le,hi,m,ws,us,o,rfl,_⟩:=h
  rfl
 ·obtain ⟨H0,p,ls,le,hi,m,vs,us,o0,rfl,hp0,d0,T,m1,m4,hh,q⟩:=h
  have nd:=Z24.nd
  have pne:∀ x,H0 x=none→x≠p:=fun x hx z=>by rw [z,hp0] at hx;cases hx
  refine' ⟨_,(pS (Zag (i:=2) nd rfl (Or.inl rfl) (Zaf DT GT hr (pC (pv 0) (pC (Zan Zak (by rfl) len PySem.boot_len (pC (pv 1) Zaa)) Zaa))))
   (pS (Zag (i:=3) nd rfl (Or.inl rfl) (Zaf DT GT hr (pC (pv 0) (pC (Zan Zak (by rfl) len PySem.boot_len (pC (Za5 (r:=Zfd K) Zar (pv 1) (pv 2) (fun _ _=>rfl)) Zaa)) Zaa))))
   (pS (Zag (i:=4) nd rfl (Or.inl rfl) (Zaf DT GT hr (pC (pv 0) (pC Zae Zaa))))
   (Zad (Zbe (Zaq Zd1 (pv 4) Zae (Zaz _)) (Zad (Za9 (Zow PySem.F.plainAttrs_list PySem.F.slot_list_pop PySem.F.type_list_pop Zwn (Za5 (r:=Zfd K) Zar (Za5 (r:=Zfd K) Zar (pv 1) (pv 2) (fun _ _=>rfl)) (pv 3) (fun _ _=>rfl)))))
    (Zad (Zbe (Zaq Zd1 (pv 4) Zae (Zaz _)) (Zad (Za9 (Zej PySem.F.plainAttrs_list PySem.F.slot_list_append PySem.F.type_list_append Zb6 (Za5 (r:=Zfd K) Zar (Za5 (r:=Zfd K) Zar (pv 1) (pv 2) (fun _ _=>rfl)) (pv 3) (fun _ _=>rfl)) (pC Zae Zaa))))
    (Zad (Zbe (Zaq Zd1 (pv 4) Zae (Zaz _)) (Zad (Za9 (Zej PySem.F.plainAttrs_list PySem.F.slot_list_pop PySem.F.type_list_pop Zo3 (pv 1) (pC (pv 2) Zaa))))
    (Zad (Zbe (Zaq Zd1 (pv 4) Zae (Zaz _)) (Zad (Za9 (Zej PySem.F.plainAttrs_list PySem.F.slot_list_insert PySem.F.type_list_insert Zg2 (pv 1) (pC (pv 2) (pC ?e1 Zaa)))))
    (Zad (Zbe (Zaq Zd1 (pv 4) Zae (Zaz _)) (Zad (Za9 (Zow PySem.F.plainAttrs_list PySem.F.slot_list_clear PySem.F.type_list_clear Zo4 (Za5 (r:=Zfd K) Zar (pv 1) Zae (fun _ _=>rfl)))))
    (Zad (Za9 (Zow PySem.F.plainAttrs_list PySem.F.slot_list_clear PySem.F.type_list_clear Zo4 (pv 1))))))))))))))))),?_⟩
  case e1=>exact (Zbr ["line"] [] [] (fun _=>Za0 (osc:=Zab Za1) (on:=nSS) (by decide +kernel) rfl rfl rfl) (Zbd (Za5 (r:=Zfd K) Zar (pv 1) (pv 2) (fun _ _=>rfl))) (fun C s H fp=>Zah (i:=0) Z0a rfl (Or.inl rfl) (Or.inr rfl)) (fun C s H fp=>Zbn) (fun C s H fp=>Zc2 (r:=Zzp K) Zez (by rfl) list PyProof.Rows.boot_list (pC (pv 0) Zaa)))
  obtain ⟨o,hp,ho⟩:=id d0.pot
  have ms:=T.ms
  refine ⟨_,rfl,_,rfl,ls,_,rfl,.inl (SqL.of T.hs),p,_,o,rfl,hp,ho,by omega,by omega,fun at_ o1 a0 a1 ho1=>?_⟩
  have d1:Drawn p H (upd H p o1):=Drawn.upd ho1
  have hp1:(upd H p o1) p=some o1:=uS
  generalize upd H p o1=H1 at d1 hp1
  have T1:=T.drawn hp0 hp ho d1
  have d01:=d0.trans d1
  obtain ⟨z,hz,hat⟩:=Zfx a0 a1
  obtain ⟨a,ws,rfl,fa,ha,w1,w2,hw⟩:=T1.st z hz
  refine ⟨_,rfl,_,rfl,_,rfl,ls,_,_,_,rfl,rfl,SqL.of T1.hs,hat,a,_,rfl,.inl (SqL.of ha),p,_,o1,rfl,hp1,ho1,by omega,by omega,fun st o2 b0 b1 ho2=>?_⟩
  have d2:Drawn p H1 (upd H1 p o2):=Drawn.upd ho2
  have hp2:(upd H1 p o2) p=some o2:=uS
  generalize upd H1 p o2=H2 at d2 hp2
  have T2:=T1.drawn hp0 hp1 ho1 d2
  have d02:=d01.trans d2
  refine ⟨_,rfl,p,6,o2,rfl,hp2,ho2,by decide,by decide,fun way o3 c0 c1 ho3=>?_⟩
  have d3:Drawn p H2 (upd H2 p o3):=Drawn.upd ho3
  have hp3:(upd H2 p o3) p=some o3:=uS
  generalize upd H2 p o3=H3 at d3 hp3
  have T3:=T2.drawn hp0 hp2 ho2 d3
  have d03:=d02.trans d3
  have d13:=d2.trans d3
  have ha3:=d13.keep _ _ (pne _ fa) ha
  have hw3:∀ x∈ws,Zdz H0 H3 1 hi x:=fun x hx=>(hw x hx).keepF fun b xs f e=>d13.keep _ _ (pne _ f) e
  obtain ⟨y,hy,haty⟩:=Zfx b0 b1
  obtain ⟨b,l,rfl,fb,hb,l1,l2⟩:=hw3 y hy
  refine ⟨_,rfl,rfl,_,rfl,Zdu (fun _=>?_) (fun _=>⟨_,rfl,rfl,_,rfl,Zdu (fun _=>?_) (fun _=>⟨_,rfl,rfl,_,rfl,Zdu (fun _=>?_) (fun _=>⟨_,rfl,rfl,_,rfl,Zdu (fun _=>?_) (fun _=>⟨_,rfl,rfl,_,rfl,Zdu (fun _=>?_) (fun _=>?_)⟩)⟩)⟩)⟩)⟩
  ·obtain ⟨y,hy⟩:=Zz3 (xs:=l.map V.int) (by rw [List.length_map];exact l1)
   refine ⟨_,rfl,_,rfl,ls,_,_,_,rfl,rfl,SqL.of T3.hs,hat,_,rfl,a,_,_,_,rfl,rfl,SqL.of ha3,haty,.inl ⟨rfl,_,SqL.of hb⟩,b,_,y,rfl,rfl,hb,hy,?_⟩
   rw [← List.map_dropLast]
   exact q m _ _ _ (Zed d03 fb (pne _ fb)) (T3.line m1 hb l1 (by rw [List.length_dropLast];omega)) (by omega)
  ·refine ⟨_,rfl,_,rfl,ls,_,_,_,rfl,rfl,SqL.of T3.hs,hat,_,rfl,a,_,_,_,rfl,rfl,SqL.of ha3,haty,.inl ⟨rfl,_,SqL.of hb⟩,b,_,_,rfl,rfl,hb,Za2 (by rw [List.length_map];omega),?_⟩
   rw [show l.map V.int++[V.int 0]=(l++[0]).map V.int from by rw [List.map_append];rfl]
   exact q m _ _ _ (Zed d03 fb (pne _ fb)) (T3.line m1 hb l1 (by rw [List.length_append];show _ + 1≤_;omega)) (by omega)
  ·have hn:at_.toNat<vs.length:=by omega
   refine ⟨_,rfl,.inl ⟨rfl,_,SqL.of T3.hs⟩,_,rfl,ls,_,at_,at_.toNat,_,rfl,rfl,T3.hs,by omega,by omega,Zv9 a0 a1,List.getElem?_eq_getElem hn,?_⟩
   have T4:=T3.steps m1 (lo':=0) (m':=m - 1) (vs':=vs.eraseIdx at_.toNat) (Nat.zero_le _) (by rw [List.length_eraseIdx,if_pos hn,ms]) fun v hv=>T3.st v (List.mem_of_mem_eraseIdx hv)
   exact q (m - 1) _ _ _ (Zed d03 T.fs (pne _ T.fs)) (T4.wide (Nat.le_refl _) (Nat.le_succ _)) (by omega)
  ·refine ⟨_,rfl,.inl ⟨rfl,_,SqL.of T3.hs⟩,_,rfl,_,rfl,_,rfl,ls,_,_,_,rfl,rfl,SqL.of T3.hs,hat,a,rfl,⟨_,SqL.of ha3⟩,Zhk (Zav (xs:=ws)) (by omega) 1 hi (fun H' s'=>s'.seq (SqL.of ha3)) ?_ ?_⟩
   ·intro x H' R s' hx hR'
    obtain ⟨b,l,rfl,fb,hb,l1,l2⟩:=hw3 x hx
    exact ⟨_,rfl,b,_,rfl,.inl (SqL.of (s' _ _ hb)),fun D hD=>hR' D l _ hD (Zcq hD) uS l1 l2⟩
   intro D H4 ys hD s34 hD4 yl hy
   have T4:=T3.mono s34
   refine ⟨ls,_,_,_,rfl,rfl,T4.hs,a0,by omega,Za2 (by omega),?_⟩
   have d04:Drawn p H0 H4:=d03.same s34
   have T5:=T4.steps m1 (lo':=0) (m':=m + 1) (vs':=vs.take at_.toNat++V.ref D :: vs.drop at_.toNat) (Nat.zero_le _) (by rw [List.length_append,List.length_cons,List.length_take,List.length_drop];omega) fun v hv=>by
    rcases List.mem_append.mp hv with c | c
    ·exact T4.st v (List.mem_of_mem_take c)
    ·rcases List.mem_cons.mp c with c | c
     ·rw [c]
      refine ⟨D,ys,rfl,Zdc d03 hD,hD4,by omega,by omega,fun x hx=>?_⟩
      obtain ⟨b,l,e,fb,hb,l1,l2⟩:=hy x hx
      exact ⟨b,l,e,Zdc d03 fb,hb,l1,l2⟩
     ·exact T4.st v (List.mem_of_mem_drop c)
   exact q (m + 1) _ _ _ (Zed d04 T.fs (pne _ T.fs)) (T5.wide (Nat.le_refl _) (Nat.le_succ _)) (Nat.le_refl _)
  ·obtain ⟨z,hz,hat0⟩:=Zfx (xs:=vs) (v:=0) (Int.le_refl _) (by omega)
   obtain ⟨a,ws,rfl,fa,ha,w1,w2,hw⟩:=T3.st z hz
   refine ⟨_,rfl,ls,_,_,_,rfl,rfl,SqL.of T3.hs,hat0,.inl ⟨rfl,_,SqL.of ha⟩,a,_,rfl,rfl,ha,?_⟩
   exact q m _ _ _ (Zed d03 fa (pne _ fa)) (T3.state m1 ha w1 hw (ws':=[]) (Nat.zero_le _) (fun x hx=>nomatch hx)) (by omega)
  ·refine ⟨_,rfl,.inl ⟨rfl,_,SqL.of T3.hs⟩,ls,_,rfl,rfl,T3.hs,?_⟩
   have T4:=T3.steps m1 (lo':=0) (m':=0) (vs':=[]) (Nat.zero_le _) rfl (fun x hx=>nomatch hx)
   exact q 0 _ _ _ (Zed d03 T.fs (pne _ T.fs)) (T4.wide (Nat.le_refl _) (Nat.le_succ _)) (by omega)
end
end K46
namespace K46
open PySem L2 Md
abbrev nSw:List Str:=["pot","steps","ends","way","at","state","end","many","number","line"]
theorem Z22:Zap nSw ["pot","steps","ends"] (Zab Zcd):=⟨rfl,rfl,rfl,by decide +kernel,rfl,by decide +kernel,by decide +kernel⟩
section
variable {P:Program} {w:World} {K:PySem.W.Frag} {mg:Str→Option Value} {base:Heap}
set_option maxHeartbeats 16000000 in
theorem Zsl {f fT fOA fSS:Addr}{fd fdT fdOA fdSS:FuncData}(F:Def K mg "_law_spoilt" Zcd ["pot","steps","ends"] f fd) (len:mg "len"=none) (DT:Def K mg "_law_take" Za8 ["pot","many"] fT fdT) (GT:Za3 P w K mg base CX0 1 fT fdT ["pot","many"] Zgg)
  (DOA:Def K mg "_law_one_ahead" Zax ["pot","steps","ends"] fOA fdOA) (GOA:Za3 P w K mg base CX0 2 fOA fdOA ["pot","steps","ends"] Zrp) (DSS:Def K mg "_law_spoilt_steps" Za1 ["pot","steps"] fSS fdSS) (GSS:Za3 P w K mg base CX0 2 fSS fdSS ["pot","steps"] Zv5):Za3 P w K mg base CX0 3 f fd ["pot","steps","ends"] Zzd:=by
 refine F.fn.ok Z22 (fun vs H Q E h=>?_) (fun cdv A outer s H vs Q E hr h=>?_)
 ·obtain ⟨H0,p,ls,le,hi,m,ws,us,o,rfl,_⟩:=h
  rfl
 ·obtain ⟨H0,p,ls,le,hi,m,vs,us,o0,rfl,hp0,d0,T,m1,m4,hh,q⟩:=h
  have nd:=Z22.nd
  have hr1:Zec 1 _:=hr.mono (by decide)
  have pne:∀ x,H0 x=none→x≠p:=fun x hx z=>by rw [z,hp0] at hx;cases hx
  refine' ⟨_,(pS (Zag (i:=3) nd rfl (Or.inl rfl) (Zaf DT GT hr1 (pC (pv 0) (pC Zae Zaa))))
   (pS (Zag (i:=4) nd rfl (Or.inl rfl) (Zaf DT GT hr1 (pC (pv 0) (pC (Zan Zak (by rfl) len PySem.boot_len (pC (pv 1) Zaa)) Zaa))))
   (pS (Zag (i:=5) nd rfl (Or.inl rfl) (Zaf DT GT hr1 (pC (pv 0) (pC (Zan Zak (by rfl) len PySem.boot_len (pC (Za5 (r:=Zfd K) Zar (pv 1) (pv 4) (fun _ _=>rfl)) Zaa)) Zaa))))
   (pS (Zag (i:=6) nd rfl (Or.inl rfl) (Zaf DT GT hr1 (pC (pv 0) (pC (Zan Zak (by rfl) len PySem.boot_len (pC (pv 2) Zaa)) Zaa))))
   (Zep (Zbe (Zaq Zd1 (pv 3) Zae (Zaz _)) (Zad (Za9 (Zaf DOA GOA hr (pC (pv 0) (pC (pv 1) (pC (pv 2) Zaa))))))
    (Zad (Zbe (Zaq Zd1 (pv 3) Zae (Zaz _))
     (pS (Zag (i:=7) nd rfl (Or.inl rfl) (Zan Zak (by rfl) len PySem.boot_len (pC (pv 2) Zaa)))
   (Zep (Zbe (Zaq Zjc (Zba Zdr (pv 4) Zae) (Zan Zak (by rfl) len PySem.boot_len (pC (pv 1) Zaa)) (Zaz _)) (Zad (Zag (i:=7) nd rfl (Or.inl rfl) (Zan Zak (by rfl) len PySem.boot_len (pC (Za5 (r:=Zfd K) Zar (pv 1) (Zba Zdr (pv 4) Zae) (fun _ _=>rfl)) Zaa)))) Zas)
   (pS (Zag (i:=8) nd rfl (Or.inl rfl) (Zaf DT GT hr1 (pC (pv 0) (pC (pv 7) Zaa))))
   (pS (Zag (i:=8) nd rfl (Or.inl rfl) (Za5 (r:=Zlr K) Zd0 (Zb8 (pC (Zxi Zq4 Zae) (pC (pv 7) (pC (pv 8) (pC (Zxi Zq4 (pv 7)) (pC (Zba Zhs Zae Zae) Zaa)))))) (Zaf DT GT hr1 (pC (pv 0) (pC Zae Zaa))) (fun _ _=>rfl)))
   (pS (Zag (i:=9) nd rfl (Or.inl rfl) (Za5 (r:=Zfd K) Zar (Za5 (r:=Zfd K) Zar (pv 1) (pv 4) (fun _ _=>rfl)) (pv 5) (fun _ _=>rfl)))
   (Zad (Zhq (pv 8) (Zlu (pv 9) (Zaf DT GT hr1 (pC (pv 0) (pC (Zan Zak (by rfl) len PySem.boot_len (pC (pv 9) Zaa)) Zaa))) Zgw))))))))
    (Zad (Zbe (Zaq Zd1 (pv 3) Zae (Zaz _))
     (pS (Zag (i:=8) nd rfl (Or.inl rfl) (Zaf DT GT hr1 (pC (pv 0) (pC Zae Zaa))))
   (Zad (Zhq (Za5 (r:=Zlr K) Zd0 (Zb8 (pC (Zb8 (pC Zey Zaa)) (pC (Zb8 (pC Zey (pC (pv 8) Zaa))) (pC (Zb8 (pC Zey (pC Zae (pC Zae Zaa)))) Zaa)))) (Zaf DT GT hr1 (pC (pv 0) (pC Zae Zaa))) (fun _ _=>rfl)) (Zlu (pv 2) (pv 6) Zgw))))
    (Zad (Zbe (Zaq Zd1 (pv 3) Zae (Zaz _)) (Zad (Za9 (Zej PySem.F.plainAttrs_list PySem.F.slot_list_pop PySem.F.type_list_pop Zo3 (pv 2) (pC (pv 6) Zaa))))
    (Zad (Zbe (Zaq Zd1 (pv 3) Zae (Zaz _)) (Zad (Za9 (Zaf DSS GSS hr (pC (pv 0) (pC (pv 1) Zaa))))) Zas)))))))))
   (Zad (Zat (pv 3)))))))),?_⟩
  obtain ⟨o,hp,ho⟩:=id d0.pot
  have ms:=T.ms
  have el:=T.elo
  have eh:=T.ehi
  refine ⟨_,rfl,p,6,o,rfl,hp,ho,by decide,by decide,fun way o1 c0 c1 ho1=>?_⟩
  have d1:Drawn p H (upd H p o1):=Drawn.upd ho1
  have hp1:(upd H p o1) p=some o1:=uS
  generalize upd H p o1=H1 at d1 hp1
  have T1:=T.drawn hp0 hp ho d1
  have d01:=d0.trans d1
  refine ⟨_,rfl,_,rfl,ls,_,rfl,.inl (SqL.of T1.hs),p,_,o1,rfl,hp1,ho1,by omega,by omega,fun at_ o2 a0 a1 ho2=>?_⟩
  have d2:Drawn p H1 (upd H1 p o2):=Drawn.upd ho2
  have hp2:(upd H1 p o2) p=some o2:=uS
  generalize upd H1 p o2=H2 at d2 hp2
  have T2:=T1.drawn hp0 hp1 ho1 d2
  have d02:=d01.trans d2
  obtain ⟨z,hz,hat⟩:=Zfx a0 a1
  obtain ⟨a,ws,rfl,fa,ha,w1,w2,hw⟩:=T2.st z hz
  refine ⟨_,rfl,_,rfl,_,rfl,ls,_,_,_,rfl,rfl,SqL.of T2.hs,hat,a,_,rfl,.inl (SqL.of ha),p,_,o2,rfl,hp2,ho2,by omega,by omega,fun st o3 b0 b1 ho3=>?_⟩
  have d3:Drawn p H2 (upd H2 p o3):=Drawn.upd ho3
  have hp3:(upd H2 p o3) p=some o3:=uS
  generalize upd H2 p o3=H3 at d3 hp3
  have T3:=T2.drawn hp0 hp2 ho2 d3
  have d03:=d02.trans d3
  refine ⟨_,rfl,_,rfl,le,_,rfl,.inl (SqL.of T3.he),p,_,o3,rfl,hp3,ho3,by omega,by omega,fun en o4 e0 e1 ho4=>?_⟩
  have d4:Drawn p H3 (upd H3 p o4):=Drawn.upd ho4
  have hp4:(upd H3 p o4) p=some o4:=uS
  generalize upd H3 p o4=H4 at d4 hp4
  have T4:=T3.drawn hp0 hp3 ho3 d4
  have d04:=d03.trans d4
  have d24:=d3.trans d4
  have ha4:=d24.keep _ _ (pne _ fa) ha
  have hw4:∀ x∈ws,Zdz H0 H4 1 hi x:=fun x hx=>(hw x hx).keepF fun b xs f e=>d24.keep _ _ (pne _ f) e
  obtain ⟨y,hy,haty⟩:=Zfx b0 b1
  obtain ⟨b,l,rfl,fb,hb,l1,l2⟩:=hw4 y hy
  refine ⟨fun σ' H'=>∃ (x7 x8 x9:Option V) (m':Nat) (vs' us':List V),σ'=[some (.ref p),some (.ref ls),some (.ref le),some (.int way),some (.int at_),some (.int st),some (.int en),x7,x8,x9]∧Drawn p H0 H'∧TWk H0 H' ls le 0 (hi + 1) m' vs' us'∧m'≤m + 1∧(way<5→m'=m),?_,?_⟩
  ·refine ⟨_,rfl,rfl,_,rfl,Zdu (fun y1=>?_) (fun _=>⟨_,rfl,rfl,_,rfl,Zdu (fun _=>?_) (fun _=>⟨_,rfl,rfl,_,rfl,Zdu (fun _=>?_) (fun _=>⟨_,rfl,rfl,_,rfl,Zdu (fun _=>?_) (fun _=>⟨_,rfl,rfl,_,rfl,Zdu (fun y5=>?_) (fun _=>?_)⟩)⟩)⟩)⟩)⟩
   ·refine ⟨_,rfl,_,rfl,_,rfl,H0,p,ls,le,hi,m,vs,us,o0,rfl,hp0,d04,T4,m1,m4,hh,fun vs' us' H' d' T'=>?_⟩
    exact ⟨_,_,_,m,_,_,rfl,d',T',by omega,fun _=>rfl⟩
   ·refine ⟨_,rfl,le,_,rfl,.inl (SqL.of T4.he),?_⟩
    refine ⟨fun σ' H'=>∃ k:Nat,σ'=[some (.ref p),some (.ref ls),some (.ref le),some (.int way),some (.int at_),some (.int st),some (.int en),some (.int k),none,none]∧H'=H4∧1≤k∧k≤hi,?_,?_⟩
    ·refine ⟨_,rfl,_,_,rfl,rfl,_,rfl,ls,_,rfl,.inl (SqL.of T4.hs),_,_,rfl,rfl,_,rfl,Zdu (fun c=>?_) (fun c=>⟨_,rfl,rfl,el,eh⟩)⟩
     have c:at_ + 1<(vs.length:Int):=of_decide_eq_true c
     obtain ⟨z,hz,hat⟩:=Zfx (by omega) c
     obtain ⟨a,ws,rfl,fa,ha,w1,w2,hw⟩:=T4.st z hz
     exact ⟨_,rfl,_,rfl,_,_,rfl,rfl,ls,_,_,_,rfl,rfl,SqL.of T4.hs,hat,a,_,rfl,.inl (SqL.of ha),_,rfl,rfl,w1,w2⟩
    rintro σ' H' ⟨k,rfl,rfl,k1,k2⟩
    refine ⟨_,rfl,_,rfl,p,k,o4,rfl,hp4,ho4,by omega,by omega,fun nu o5 n0 n1 ho5=>?_⟩
    have d5:Drawn p H' (upd H' p o5):=Drawn.upd ho5
    have hp5:(upd H' p o5) p=some o5:=uS
    generalize upd H' p o5=H5 at d5 hp5
    have T5:=T4.drawn hp0 hp4 ho4 d5
    have d05:=d04.trans d5
    refine ⟨_,rfl,_,rfl,_,rfl,_,rfl,_,rfl,_,_,rfl,rfl,⟨by decide,by decide,by decide⟩,sL (by show 5≤100000;decide),fun t ht=>?_⟩
    obtain ⟨L,eL⟩:∃ L:List Int,L=[-1,(k:Int),nu,-(k:Int),10 ^ (50:Int).toNat]:=⟨_,rfl⟩
    have s6:Zal H5 (upd H5 t (.tup [(fun i:Int=>V.int (-i)) 1,.int k,.int nu,(fun i:Int=>V.int (-i)) k,(fun i j:Int=>V.int (i ^ j.toNat)) 10 50])):=Zcq ht
    have h6t:(upd H5 t (.tup [(fun i:Int=>V.int (-i)) 1,.int k,.int nu,(fun i:Int=>V.int (-i)) k,(fun i j:Int=>V.int (i ^ j.toNat)) 10 50])) t=some (.tup (L.map V.int)):=by rw [uS,eL];rfl
    generalize upd H5 t (.tup [(fun i:Int=>V.int (-i)) 1,.int k,.int nu,(fun i:Int=>V.int (-i)) k,(fun i j:Int=>V.int (i ^ j.toNat)) 10 50])=H6 at s6 h6t
    have T6:=T5.mono s6
    have d06:Drawn p H0 H6:=d05.same s6
    have hp6:=s6 _ _ hp5
    have Ll:L.length=5:=by rw [eL];rfl
    refine ⟨_,rfl,p,5,o5,rfl,hp6,ho5,by decide,by decide,fun v o7 v0 v1 ho7=>?_⟩
    have d7:Drawn p H6 (upd H6 p o7):=Drawn.upd ho7
    have hp7:(upd H6 p o7) p=some o7:=uS
    generalize upd H6 p o7=H7 at d7 hp7
    have T7:=T6.drawn hp0 hp6 ho5 d7
    have d07:=d06.trans d7
    have tp:t≠p:=fun z=>by
     rw [z,hp6] at h6t
     obtain ⟨_,_,q,_⟩:=ho5
     rw [q] at h6t;cases h6t
    obtain ⟨x,hx,hatx⟩:=Zfx (xs:=L.map V.int) v0 (by rw [List.length_map,Ll];exact v1)
    obtain ⟨num,_,rfl⟩:=List.mem_map.mp hx
    refine ⟨t,_,_,_,rfl,rfl,SqT.of (d7.keep _ _ tp h6t),hatx,?_⟩
    have d47:Drawn p H' H7:=(d5.same s6).trans d7
    have ha7:=d47.keep _ _ (pne _ fa) ha4
    have hb7:=d47.keep _ _ (pne _ fb) hb
    refine ⟨_,rfl,_,rfl,ls,_,_,_,rfl,rfl,SqL.of T7.hs,hat,_,rfl,a,_,_,_,rfl,rfl,SqL.of ha7,haty,?_⟩
    refine ⟨_,rfl,_,rfl,_,rfl,_,rfl,b,_,rfl,.inl (SqL.of hb7),p,_,o7,rfl,hp7,ho7,by rw [List.length_map];omega,by rw [List.length_map];omega,fun i o8 i0 i1 ho8=>?_⟩
    have d8:Drawn p H7 (upd H7 p o8):=Drawn.upd ho8
    generalize upd H7 p o8=H8 at d8
    have T8:=T7.drawn hp0 hp7 ho7 d8
    have d08:=d07.trans d8
    have hb8:=d8.keep _ _ (pne _ fb) hb7
    refine ⟨b,_,_,_,rfl,rfl,hb8,Zvi i0 i1,?_⟩
    rw [← List.map_set]
    exact ⟨_,_,_,m,_,_,rfl,Zed d08 fb (pne _ fb),T8.line m1 hb8 l1 (by rw [List.length_set];omega),by omega,fun _=>rfl⟩
   ·refine ⟨_,rfl,p,3,o4,rfl,hp4,ho4,by decide,by decide,fun nu o5 n0 n1 ho5=>?_⟩
    have d5:Drawn p H4 (upd H4 p o5):=Drawn.upd ho5
    have hp5:(upd H4 p o5) p=some o5:=uS
    generalize upd H4 p o5=H5 at d5 hp5
    have T5:=T4.drawn hp0 hp4 ho4 d5
    have d05:=d04.trans d5
    refine ⟨sL (by show 1≤100000;decide),fun t1 ht1=>?_⟩
    have s6:Zal H5 (upd H5 t1 (.tup [.str "none"])):=Zcq ht1
    have h61:(upd H5 t1 (.tup [.str "none"])) t1=some (.tup (([.inr "none"]:List Key).map kV)):=uS
    generalize upd H5 t1 (.tup [.str "none"])=H6 at s6 h61
    refine ⟨_,rfl,sL (by show 2≤100000;decide),fun t2 ht2=>?_⟩
    have s7:Zal H6 (upd H6 t2 (.tup [.str "deed",.int nu])):=Zcq ht2
    have h72:(upd H6 t2 (.tup [.str "deed",.int nu])) t2=some (.tup (([.inr "deed",.inl nu]:List Key).map kV)):=uS
    generalize upd H6 t2 (.tup [.str "deed",.int nu])=H7 at s7 h72
    refine ⟨sL (by show 3≤100000;decide),fun t3 ht3=>?_⟩
    have s8:Zal H7 (upd H7 t3 (.tup [.str "clash",.int 0,.int 1])):=Zcq ht3
    have h83:(upd H7 t3 (.tup [.str "clash",.int 0,.int 1])) t3=some (.tup (([.inr "clash",.inl 0,.inl 1]:List Key).map kV)):=uS
    generalize upd H7 t3 (.tup [.str "clash",.int 0,.int 1])=H8 at s8 h83
    refine ⟨sL (by show 3≤100000;decide),fun t ht=>?_⟩
    have s9:Zal H8 (upd H8 t (.tup [.ref t1,.ref t2,.ref t3])):=Zcq ht
    have h9t:(upd H8 t (.tup [.ref t1,.ref t2,.ref t3])) t=some (.tup [.ref t1,.ref t2,.ref t3]):=uS
    generalize upd H8 t (.tup [.ref t1,.ref t2,.ref t3])=H9 at s9 h9t
    have s59:=s6.trans (s7.trans (s8.trans s9))
    have T9:=T5.mono s59
    have d09:Drawn p H0 H9:=d05.same s59
    have hp9:=s59 _ _ hp5
    refine ⟨_,rfl,p,3,o5,rfl,hp9,ho5,by decide,by decide,fun v o10 v0 v1 ho10=>?_⟩
    have d10:Drawn p H9 (upd H9 p o10):=Drawn.upd ho10
    generalize upd H9 p o10=H10 at d10
    have T10:=T9.drawn hp0 hp9 ho5 d10
    have d010:=d09.trans d10
    have tk:∀ b xs,H9 b=some (.tup xs)→H10 b=some (.tup xs):=fun b xs e=>d10.keep _ _ (fun z=>by
     rw [z,hp9] at e
     obtain ⟨_,_,q,_⟩:=ho5
     rw [q] at e;cases e) e
    obtain ⟨y,hy,hatz⟩:=Zfx (xs:=[V.ref t1,.ref t2,.ref t3]) v0 v1
    have cand:Zt7 H10 y:=by
     rcases List.mem_cons.mp hy with c | hy
     ·exact ⟨t1,_,c,tk _ _ ((s7.trans (s8.trans s9)) _ _ h61),Zgp (by decide +kernel) Zgq⟩
     rcases List.mem_cons.mp hy with c | hy
     ·exact ⟨t2,_,c,tk _ _ ((s8.trans s9) _ _ h72),Zgp (by decide +kernel) (Zhj Zgq)⟩
     ·exact ⟨t3,_,List.mem_singleton.mp hy,tk _ _ (s9 _ _ h83),Zgp (by decide +kernel) (Zhj (Zhj Zgq))⟩
    refine ⟨t,_,_,_,rfl,rfl,SqT.of (tk _ _ h9t),hatz,_,rfl,_,rfl,le,_,_,_,rfl,rfl,T10.he,Zvi e0 e1,?_⟩
    refine ⟨_,_,_,m,_,_,rfl,Zed d010 T.fe (pne _ T.fe),T10.ends m1 (by rw [List.length_set];omega) fun u hu=>?_,by omega,fun _=>rfl⟩
    rcases List.mem_or_eq_of_mem_set hu with c | c
    ·exact T10.en u c
    ·rw [c];exact cand
   ·have hn:en.toNat<us.length:=by omega
    refine ⟨_,rfl,.inl ⟨rfl,_,SqL.of T4.he⟩,_,rfl,le,_,en,en.toNat,_,rfl,rfl,T4.he,by omega,by omega,Zv9 e0 e1,List.getElem?_eq_getElem hn,?_⟩
    exact ⟨_,_,_,m,_,_,rfl,Zed d04 T.fe (pne _ T.fe),T4.ends m1 (by rw [List.length_eraseIdx];split <;> omega) fun u hu=>T4.en u (List.mem_of_mem_eraseIdx hu),by omega,fun _=>rfl⟩
   ·refine ⟨_,rfl,_,rfl,H0,p,ls,le,hi,m,vs,us,o0,rfl,hp0,d04,T4,m1,m4,hh,fun m' vs' us' H' d' T' hm=>?_⟩
    exact ⟨_,_,_,m',_,_,rfl,d',T',hm,fun z=>by have:=eqi y5;omega⟩
   ·exact ⟨_,_,_,m,_,_,rfl,d04,T4.wide (Nat.zero_le _) (Nat.le_succ _),by omega,fun _=>rfl⟩
  rintro σ' H' ⟨x7,x8,x9,m',vs',us',rfl,d',T',hm,hw'⟩
  exact ⟨_,rfl,q way m' vs' us' H' d' T' hm hw'⟩
end
end K46
namespace K46
open PySem L2 Md
theorem TWk.old {H0 H1 H:Hp}{ls le:Addr}{lo hi m:Nat}{vs us:List V}(T:TWk H1 H ls le lo hi m vs us) (k:∀ b,H1 b=none→H0 b=none):TWk H0 H ls le lo hi m vs us:=by
 refine ⟨k _ T.fs,k _ T.fe,T.hs,T.ms,fun v hv=>?_,T.he,T.elo,T.ehi,T.en⟩
 obtain ⟨a,ws,e,fa,ha,w1,w2,hw⟩:=T.st v hv
 refine ⟨a,ws,e,k _ fa,ha,w1,w2,fun x hx=>?_⟩
 obtain ⟨b,l,e,fb,h⟩:=hw x hx
 exact ⟨b,l,e,k _ fb,h⟩
def LnF (H0 H:Hp) (s:List (List Int)) (ys:List V):Prop:=Paired (fun l x=>∃ b,x=.ref b∧H0 b=none∧H b=some (.lst (l.map V.int))) s ys
def CpL (H1:Hp) (D:Addr) (x v:V) (H:Hp):Prop:=∀ b l,x=.ref b→H1 b=some (.lst l)→∃ c,v=.ref c∧c≠D∧H1 c=none∧H c=some (.lst l)
theorem Zqo {K:PySem.W.Frag}{H1:Hp}{a:Addr}{ws:List V}{s:List (List Int)}{js:List Nat}{te:TE}{σ:St}{Q:VK}(ha:H1 a=some (.lst ws)) (L:LnC H1 s ws) (few:ws.length≤5000)
  (he:∀ b xs H (R:VK),H b=some (.lst xs)→(∀ c,H c=none→R (.ref c) (upd H c (.lst xs)))→te (some (.ref b):: js.map fun j=>(σ[j]?).join) H R)
  (hq:∀ D ys H',H1 D=none→Zal H1 H'→H' D=some (.lst ys)→LnF H1 H' s ys→Q (.ref D) H'):compBody 1 js (Zet 0) Zpq te σ Q (Itl K a) H1:=by
 refine Zdf (Zav (xs:=ws)) (sL (by omega)) (fun _=>true) (CpL H1) (fun D x v Ha Hb k h b l e hb=>?_) (fun H' s'=>s'.seq (SqL.of ha)) ?_ ?_ ?_
 ·obtain ⟨c,e1,ne,f,hc⟩:=h b l e hb
  exact ⟨c,e1,ne,f,k _ _ ne hc⟩
 ·intro x H' R s' _ hR'
  exact hR' H' (Zal.refl _)
 ·rintro D x H' R s' ⟨yD,hD'⟩ hD hx _ hR'
  obtain ⟨j,hj⟩:=List.getElem?_of_mem hx
  obtain ⟨l,_,b,rfl,hb⟩:=Zam L hj
  refine he b _ H' R (s' _ _ hb) fun c hc=>hR' _ _ (Zcq hc) fun b' l' e hb'=>?_
  cases e
  rw [hb] at hb'
  cases hb'
  exact ⟨c,rfl,Ne.symm (nNo hD' hc),s'.free hc,uS⟩
 ·intro D H' ys hD s' hl' pr
  rw [List.filter_eq_self.mpr (fun _ _=>rfl)] at pr
  refine hq D ys H' hD s' hl' ?_
  have l1:=Paired.length L
  have l2:=Paired.length pr
  refine Zf6 (by omega) fun i l y hl hy=>?_
  obtain ⟨x,hx,h⟩:=Zam pr hy
  obtain ⟨l',hl',b,e,hb⟩:=Zam L hx
  rw [hl] at hl'
  cases hl'
  obtain ⟨c,e1,_,f,hc⟩:=h b _ e hb
  exact ⟨c,e1,f,hc⟩
def CpS (H1:Hp) (D:Addr) (x v:V) (H:Hp):Prop:=∀ a ws s,x=.ref a→H1 a=some (.lst ws)→LnC H1 s ws→∃ c ys,v=.ref c∧c≠D∧H c=some (.lst ys)∧Paired (fun l y=>∃ b,y=.ref b∧b≠D∧H b=some (.lst (l.map V.int))) s ys
theorem Zme {H:Hp}:∀ {s s':List (List Int)}{ws:List V},LnC H s ws→LnC H s' ws→s=s'
 | _,_,_,.nil,.nil=>rfl
 | _,_,_,.cons ⟨b,e,h⟩ t,.cons ⟨b',e',h'⟩ t'=>by
  rw [e] at e'
  cases e'
  rw [h] at h'
  have z:=Option.some.inj h'
  injection z with z
  have:∀ {x y:List Int},x.map V.int=y.map V.int→x=y:=fun {x y} q=>List.map_inj_right (fun a b z=>by injection z) |>.mp q
  rw [this z,Zme t t']
theorem Zn6 {K:PySem.W.Frag}{H1:Hp}{ls:Addr}{vs:List V}{ss:List (List (List Int))}{js:List Nat}{te:TE}{σ:St}{Q:VK}(ha:H1 ls=some (.lst vs)) (S:StC H1 ss vs) (few:vs.length≤5000)
  (he:∀ a ws s H (R:VK),s∈ss→H a=some (.lst ws)→LnC H s ws→(∀ c ys H',H c=none→Zal H H'→H' c=some (.lst ys)→LnF H H' s ys→R (.ref c) H')→te (some (.ref a):: js.map fun j=>(σ[j]?).join) H R)
  (hq:∀ D ys H',H1 D=none→Zal H1 H'→H' D=some (.lst ys)→StC H' ss ys→Q (.ref D) H'):compBody 1 js (Zet 0) Zpq te σ Q (Itl K ls) H1:=by
 refine Zdf (Zav (xs:=vs)) (sL (by omega)) (fun _=>true) (CpS H1) (fun D x v Ha Hb k h a ws s e hb hl=>?_) (fun H' s'=>s'.seq (SqL.of ha)) ?_ ?_ ?_
 ·obtain ⟨c,ys,e1,ne,hc,L⟩:=h a ws s e hb hl
  exact ⟨c,ys,e1,ne,k _ _ ne hc,Paired.mapP L fun _ _ ⟨b,e,nb,hb⟩=>⟨b,e,nb,k _ _ nb hb⟩⟩
 ·intro x H' R s' _ hR'
  exact hR' H' (Zal.refl _)
 ·rintro D x H' R s' ⟨yD,hD'⟩ hD hx _ hR'
  obtain ⟨j,hj⟩:=List.getElem?_of_mem hx
  obtain ⟨s,hs,a,ws,rfl,hw,L⟩:=Zam S hj
  refine he a ws s H' R (List.mem_of_getElem? hs) (s' _ _ hw) (L.mono s') fun c ys H'' hc s'' hc'' LF=>hR' _ _ s'' fun a' ws' sx e hw' L'=>?_
  cases e
  rw [hw] at hw'
  cases hw'
  rw [← Zme L L']
  exact ⟨c,ys,rfl,Ne.symm (nNo hD' hc),hc'',Paired.mapP LF fun _ _ ⟨b,e,f,hb⟩=>⟨b,e,Ne.symm (nNo hD' f),hb⟩⟩
 ·intro D H' ys hD s' hl' pr
  rw [List.filter_eq_self.mpr (fun _ _=>rfl)] at pr
  refine hq D ys H' hD s' hl' ?_
  have l1:=Paired.length S
  have l2:=Paired.length pr
  refine Zf6 (by omega) fun i s y hs hy=>?_
  obtain ⟨x,hx,h⟩:=Zam pr hy
  obtain ⟨s2,hs2,a,ws,e,hw,L⟩:=Zam S hx
  rw [hs] at hs2
  cases hs2
  obtain ⟨c,ys,e1,_,hc,LF⟩:=h a ws s e hw L
  exact ⟨c,ys,e1,hc,Paired.mapP LF fun _ _ ⟨b,e,_,hb⟩=>⟨b,e,hb⟩⟩
theorem Zq2 {rows:List (Str×List Str)}{ds:List (List Str)}{n:Nat}(g:Zek rows) (hc:rows.length ^ n≤512):(∀ s∈Zoj rows ds n,(1≤s.length∧s.length≤512)∧∀ l∈s,1≤l.length∧l.length≤512)∧(1≤(Ztl rows ds n).length∧(Ztl rows ds n).length≤512):=by
 have gle:=g.le
 have gne:1≤rows.length:=by have:=g.ne;omega
 have pw:∀ j,j≤n→(Zaj rows j).length≤512:=fun j hj=>by rw [Zev];exact Nat.le_trans (Zf4 gne hj) hc
 have fb1:∀ {γ:Type} [DecidableEq γ] (f:List Str→γ) (j:Nat),1≤(fbL f (Zaj rows j)).length:=fun f j=>by
  have h1:=Zms g j
  cases hA:Zaj rows j with
  | nil=>rw [hA] at h1;simp at h1
  | cons c r =>
   have:=Zwq f (c :: r) c List.mem_cons_self
   have h2:=List.length_pos_of_mem this
   rw [List.length_map] at h2
   exact h2
 refine ⟨fun s hs=>?_,?_⟩
 ·obtain ⟨m,hm,rfl⟩:=List.mem_map.mp hs
  have hm:=List.mem_range.mp hm
  unfold Zw4
  refine ⟨by rw [List.length_map];exact ⟨fb1 _ _,Nat.le_trans (Zj1 _ _) (pw m (by omega))⟩,fun l hl=>?_⟩
  obtain ⟨b,_,rfl⟩:=List.mem_map.mp hl
  unfold Z1p wds
  rw [List.length_map,List.length_map]
  omega
 ·unfold Ztl
  rw [List.length_map]
  exact ⟨fb1 _ _,Nat.le_trans (Zj1 _ _) (pw n (Nat.le_refl _))⟩
def Z0v (ss:List (List (List Int))) (es:List (List Key)):Dt:=.tuple [.list (ss.map fun s=>.list (s.map fun l=>.list (l.map PySem.W.Dat.int))),.list (es.map Zn3)]
theorem Zlq {K:PySem.W.Frag}{H:Hp}:∀ l:List Int,Reps K H (l.map V.int) (l.map PySem.W.Dat.int)
 | []=>.nil
 | i :: r=>.cons (.int i) (Zlq r)
theorem Zr1 {K:PySem.W.Frag}{H:Hp}:∀ {s:List (List Int)}{ws:List V},LnC H s ws→Reps K H ws (s.map fun l=>PySem.W.Dat.list (l.map PySem.W.Dat.int))
 | _,_,.nil=>.nil
 | _,_,.cons ⟨b,e,h⟩ t=>by rw [e];exact .cons (.list (SqL.of h) (Zlq _)) (Zr1 t)
theorem Zr0 {K:PySem.W.Frag}{H:Hp}:∀ {ss:List (List (List Int))}{vs:List V},StC H ss vs→Reps K H vs (ss.map fun s=>PySem.W.Dat.list (s.map fun l=>.list (l.map PySem.W.Dat.int)))
 | _,_,.nil=>.nil
 | _,_,.cons ⟨a,ws,e,h,L⟩ t=>by rw [e];exact .cons (.list (SqL.of h) (Zr1 L)) (Zr0 t)
theorem Zwd {K:PySem.W.Frag}{H:Hp}{t ls le:Addr}{ss:List (List (List Int))}{es:List (List Key)}(h:WkT H t ls le ss es):Rep K H (.ref t) (Z0v ss es):=by
 obtain ⟨ht,vs,us,h1,h2,h3,h4⟩:=h
 exact .tuple (SqT.of ht) (.cons (.list (SqL.of h1) (Zr0 h2)) (.cons (.list (SqL.of h3) (Ze5 h4)) .nil))
theorem Zwj {ss:List (List (List Int))}{es:List (List Key)}(h:∀ k∈es,OkK k):PySem.W.kqdOk 9 (Z0v ss es)=true:=by
 show ([PySem.W.Dat.list (ss.map fun s=>.list (s.map fun l=>.list (l.map PySem.W.Dat.int))),.list (es.map Zn3)]).all (PySem.W.kqdOk 8)=true
 rw [List.all_eq_true]
 intro d hd
 rcases List.mem_cons.mp hd with e | hd
 ·rw [e]
  show (ss.map fun s=>PySem.W.Dat.list (s.map fun l=>.list (l.map PySem.W.Dat.int))).all (PySem.W.kqdOk 7)=true
  rw [List.all_eq_true]
  intro d hd
  obtain ⟨s,_,rfl⟩:=List.mem_map.mp hd
  show (s.map fun l=>PySem.W.Dat.list (l.map PySem.W.Dat.int)).all (PySem.W.kqdOk 6)=true
  rw [List.all_eq_true]
  intro d hd
  obtain ⟨l,_,rfl⟩:=List.mem_map.mp hd
  show (l.map PySem.W.Dat.int).all (PySem.W.kqdOk 5)=true
  rw [List.all_eq_true]
  intro d hd
  obtain ⟨i,_,rfl⟩:=List.mem_map.mp hd
  show PySem.W.kqdOk 5 (.int i)=true
  rw [PySem.W.kqdOk]
 ·rw [List.mem_singleton.mp hd]
  exact Zis 5 h
structure Z5g (mg:Str→Option Value):Prop where
 range:mg "range"=none
 len:mg "len"=none
 list:mg "list"=none
 isi:mg "isinstance"=none
 bool:mg "bool"=none
abbrev Z15:List Str:=["script","pot","rows","above","places","deeds","words","heard","kinds","board","turn","steps","ends","way","handed","due","call","end","found"]
theorem Zzl:Zap Z15 ["script"] (Zab Zgm):=⟨rfl,rfl,rfl,by decide +kernel,rfl,by decide +kernel,by decide +kernel⟩
def Z1n:Scope:=match Zai Zgm with
 | _ :: _ :: _ :: _ :: _ :: .For _ _ (_ :: _ :: _ :: .Assign _ (.Tuple (.ListComp _ _ sc _ :: _) _ _) _ :: _) _ _ :: _=>sc
 | _=>Zab Zgm
theorem Zz7:(["states"]:List Str).Nodup:=by decide +kernel
end K46
namespace K46
open PySem L2 Md
theorem Z5b {tb:TE}{σ:St}{H:Hp}{Q:VK}{b:Bool}(e:Bool) (hb:∀ R:VK,R (.bl e) H→tb σ H R) (hq:Q (.bl (b&&e)) H):∃ c,V.bl b=V.bl c∧if c=true then tb σ H Q else Q (.bl false) H:=by
 refine ⟨b,rfl,?_⟩
 cases b with
 | true=>rw [if_pos rfl];exact hb Q hq
 | false=>rw [if_neg Bool.false_ne_true];exact hq
section
variable {P:Program} {w:World} {K:PySem.W.Frag} {mg:Str→Option Value} {base:Heap}
set_option maxHeartbeats 16000000 in
theorem Zz2 {f C B fI fBI fT fDr fHe fLk fWd fSp fAn fBw fIw:Addr}{fd fdI fdBI fdT fdDr fdHe fdLk fdWd fdSp fdAn fdBw fdIw:FuncData}(F:Def K mg "law" Zgm ["script"] f fd) (T:Z5g mg)
  (M:Mk K C fI) (mgC:mg "Kinds"=some (.ref C)) (bI:Zhm K fdI ["self","rows"] []) (GI:Za3 P w K mg base CX0 4 fI fdI ["self","rows"] (Zrj K C))
  (MB:Mk K B fBI) (mgB:mg "Board"=some (.ref B)) (bB:Zhm K fdBI nBI []) (GB:Za3 P w K mg base CX0 4 fBI fdBI nBI (Zm7 K C B))
  (DT:Def K mg "_law_take" Za8 ["pot","many"] fT fdT) (GT:Za3 P w K mg base CX0 1 fT fdT ["pot","many"] Zgg)
  (DDr:Def K mg "_law_drawn" Zcu ["script","k"] fDr fdDr) (GDr:Za3 P w K mg base CX0 5 fDr fdDr ["script","k"] (Zlm K))
  (DHe:Def K mg "_law_heard" Zce ["rows","above","places","deeds"] fHe fdHe) (GHe:Za3 P w K mg base CX0 4 fHe fdHe ["rows","above","places","deeds"] Zom)
  (DLk:Def K mg "_law_walker" Zbi Zt6 fLk fdLk) (GLk:Za3 P w K mg base CX0 3 fLk fdLk Zt6 Zrh)
  (DWd:Def K mg "_law_wide" Zbl Zt6 fWd fdWd) (GWd:Za3 P w K mg base CX0 2 fWd fdWd Zt6 Zrg)
  (DSp:Def K mg "_law_spoilt" Zcd ["pot","steps","ends"] fSp fdSp) (GSp:Za3 P w K mg base CX0 3 fSp fdSp ["pot","steps","ends"] Zzd)
  (DAn:Def K mg "_law_answer" Zcf Zqs fAn fdAn) (GAn:Za3 P w K mg base CX0 1 fAn fdAn Zqs Zro)
  (DBw:Def K mg "by_walker" Zc8 nBw fBw fdBw) (GBw:Za3 P w K mg base CX0 4 fBw fdBw nBw (Zzg C))
  (DIw:Def K mg "is_walker" Zcx ["board","walker"] fIw fdIw) (GIw:Za3 P w K mg base CX0 10 fIw fdIw ["board","walker"] (Zzf C B)):
  Za3 P w K mg base CX0 11 f fd ["script"] (Zug K):=by
 refine F.fn.ok Zzl (fun vs H Q E h=>?_) (fun cdv A outer s H vs Q E hr h=>?_)
 ·obtain ⟨a,ns,rfl,_⟩:=h
  rfl
 ·obtain ⟨a,ns,rfl,hS,hlen,q⟩:=h
  have nd:=Zzl.nd
  have hu:=hr.units
  have hu':=Zfw hr
  have hr1:Zec 1 _:=hr.mono (by decide)
  have hr2:Zec 2 _:=hr.mono (by decide)
  have hr3:Zec 3 _:=hr.mono (by decide)
  have hr4:Zec 4 _:=hr.mono (by decide)
  have hr5:Zec 5 _:=hr.mono (by decide)
  refine' ⟨_,pS (Zhq (Zaf DDr GDr hr5 (pC (pv 0) (pC Zae Zaa))) (Zfm rfl (gC (Zah (i:=1) nd rfl (Or.inl rfl)) (gC (Zah (i:=2) nd rfl (Or.inl rfl)) (gC (Zah (i:=3) nd rfl (Or.inl rfl)) (gC (Zah (i:=4) nd rfl (Or.inl rfl)) (gC (Zah (i:=5) nd rfl (Or.inl rfl)) Zee)))))))
   (pS ?eW
   (pS (Zag (i:=7) nd rfl (Or.inl rfl) (Zaf DHe GHe hr4 (pC (pv 2) (pC (pv 3) (pC (pv 4) (pC (pv 5) Zaa))))))
   (Zun (pS (Zag (i:=8) nd rfl (Or.inl rfl) (Zsd M GI hr5 rfl mgC bI .nil Ze1 (pC (pv 2) Zaa)))
   (pS (Zag (i:=9) nd rfl (Or.inl rfl) (Zsd MB GB hr5 rfl mgB bB .nil Ze1 (pC (pv 8) (pC (pv 4) (pC (pv 5) Zaa)))))
   (pS (Zbw PassesOwn.never rfl (Zb5 (by rfl) T.range (pC Zae Zaa)) (Zah (i:=10) nd rfl (Or.inl rfl))
    (pS (Zhq (Zaf DLk GLk hr3 (pC (pv 6) (pC (pv 4) (pC (pv 7) Zaa)))) (Zfm rfl (gC (Zah (i:=11) nd rfl (Or.inl rfl)) (gC (Zah (i:=12) nd rfl (Or.inl rfl)) Zee))))
   (Zep (Zbe (Zaq Zd1 (Zaf DT GT hr1 (pC (pv 1) (pC Zae Zaa))) Zae (Zaz _)) (Zad (Zhq (Zaf DWd GWd hr2 (pC (pv 6) (pC (pv 4) (pC (pv 7) Zaa)))) (Zfm rfl (gC (Zah (i:=11) nd rfl (Or.inl rfl)) (gC (Zah (i:=12) nd rfl (Or.inl rfl)) Zee))))) Zas)
   (pS (Zag (i:=13) nd rfl (Or.inl rfl) (Zaf DSp GSp hr3 (pC (pv 1) (pC (pv 11) (pC (pv 12) Zaa)))))
   (pS (Zag (i:=14) nd rfl (Or.inl rfl) (Zb8 (pC ?eC (pC (Zc2 Zez (by rfl) T.list PyProof.Rows.boot_list (pC (pv 12) Zaa)) Zaa))))
   (pS (Zag (i:=15) nd rfl (Or.inl rfl) (Zft Zd1 (Zan Zak (by rfl) T.len PySem.boot_len (pC (pv 11) Zaa)) (pv 4) (Zaz _)))
   (pS (Zbw PassesOwn.never rfl (Zuq (pv 7)) (Zah (i:=16) nd rfl (Or.inl rfl))
     (pS (Zag (i:=17) nd rfl (Or.inl rfl) (Zaf DAn GAn hr1 (pC (pv 6) (pC (pv 11) (pC (pv 12) (pC (pv 16) Zaa))))))
   (pS (Zag (i:=15) nd rfl (Or.inl rfl) (Zse (pv 15) (Zsc (Zft (Zsj hu) (pv 17) (Zer hu' (pv 7) (pv 16) (fun _ _=>rfl)) (Zaz _)))))
   (Zad (Zbe (PW.pt (Zou (Zaq Zjc (pv 13) Zae (Zaz _)) (Zkc (Zaq (Zox hu) (Zaf DBw GBw hr4 (pC (pv 8) (pC (pv 14) (pC (pv 16) Zaa)))) (pv 17) (Zaz _))))) (Zad (Zat Zgz)) Zas)))))
   (pS (Zag (i:=18) nd rfl (Or.inl rfl) (Zaf DIw GIw hr (pC (pv 9) (pC (pv 14) Zaa))))
   (pS (Zbe (PW.pt (Zum (Zef (Zfl (Zan Zvy (by rfl) T.isi PyProof.Rows.boot_isinstance (pC (pv 18) (pC (Zxl (v:=.ty "bool") (by rfl) T.bool PyProof.Rows.boot_bool rfl) Zaa))))) (Zot (Zaq Zpz (pv 18) (pv 15) (Zaz _))))) (Zad (Zat Zgz)) Zas)
   (Zad (Zbe (Zaq (Zox hu) (pv 14) (Zb8 (pC (pv 11) (pC (pv 12) Zaa))) (Zaz _)) (Zad (Zat Zgz)) Zas)))))))))))
   (Zad (Zat Zgz)))))))),?_⟩
  case eW=>exact (Zel (k:=6) ["row"] [] [] nd rfl rfl (fun _=>Za0 (osc:=Zab Zgm) (on:=Z15) (by decide +kernel) rfl rfl rfl) (Zbd (pv 2)) (fun C s H fp=>Zah (i:=0) Znk rfl (Or.inl rfl) (Or.inr rfl)) (fun C s H fp=>Zbn) (fun C s H fp=>Za5 (r:=Zlr K) Zd0 (pv 0) Zae (fun _ _=>rfl)))
  case eC=>exact (Zbr ["states"] [] [] (fun _=>Za0 (osc:=Zab Zgm) (on:=Z15) (by decide +kernel) rfl rfl rfl) (Zbd (pv 11)) (fun C s H fp=>Zah (i:=0) Zz7 rfl (Or.inl rfl) (Or.inr rfl)) (fun C s H fp=>Zbn)
    (fun C s H fp=>by
     refine' Zbr (wi:=Zya K (Zog 0)) ["state"] [] [] (fun _=>Za0 (osc:=Zw9 Z1n (Zab Zgm)) (on:=["states"]) (by decide +kernel) rfl rfl rfl) ?ej ?ek ?el ?em
     case ej=>exact Zbd (pv 0)
     case ek=>exact (fun C s H fp=>Zah (i:=0) Zwm rfl (Or.inl rfl) (Or.inr rfl))
     case el=>exact (fun C s H fp=>Zbn)
     case em=>exact (fun C s H fp=>Zc2 (r:=Zzp K) Zez (by rfl) T.list PyProof.Rows.boot_list (pC (pv 0) Zaa))))
  refine ⟨_,rfl,a,0,ns,rfl,hS,by omega,by decide,by decide,fun t1 p l aa ld n rows avs ds us0 op H1 s1 ht1 hp1 hop hpn hR1 g haa hA n1 n4 rc hld ldp hD gd dl=>⟨t1,_,rfl,SqT.of ht1,rfl,_,_,rfl,_,_,rfl,_,_,rfl,_,_,rfl,_,_,rfl,rfl,?_⟩⟩
  have gle:=g.le
  have gne:1≤rows.length:=by have:=g.ne;omega
  have wl:(rows.map (·.1)).length=rows.length:=List.length_map ..
  obtain ⟨vs1,hvs1,_⟩:=id hR1
  refine ⟨_,rfl,l,rfl,⟨_,SqL.of hvs1⟩,Zhe hR1 (by omega) (fun t u x H' R ht hRx=>⟨_,rfl,t,_,_,_,rfl,rfl,SqT.of ht,rfl,hRx⟩) fun lw H2 hlw s12 hw=>?_⟩
  refine ⟨_,rfl,_,rfl,_,rfl,_,rfl,l,aa,ld,n,rows,avs,ds,us0,rfl,Zeo hR1 s12,g,s12 _ _ haa,hA.mono (fun b xs e=>s12 _ _ e),s12 _ _ hld,hD.mono s12,gd,n4,rc,fun d kvs H3 hd s23 hd3 hT=>⟨d,kvs,hd3,fun ob=>?_⟩⟩
  have tk:∀ b xs,H3 b=some (.tup xs)→(upd H3 d (.frz ob (.dT kvs))) b=some (.tup xs):=fun b xs e=>by
   rw [Zac]
   ·exact e
   ·rintro rfl;rw [hd3] at e;cases e
  have hT4:=hT.keep tk
  have s24:Zal H2 (upd H3 d (.frz ob (.dT kvs))):=fun b o e=>by rw [Zac (nNo e hd)];exact s23 _ _ e
  have hd4:(upd H3 d (.frz ob (.dT kvs))) d=some (.frz ob (.dT kvs)):=uS
  generalize upd H3 d (.frz ob (.dT kvs))=H4 at hT4 s24 hd4
  have s14:=s12.trans s24
  refine ⟨_,rfl,?_⟩
  intro xb dx nx ndx nex
  refine Zvc nx ndx (Zeo hR1 s14) g fun H5 s45 kd=>?_
  have s15:=s14.trans s45
  refine ⟨_,rfl,_,rfl,_,rfl,?_⟩
  intro yb dy ny ndy ney
  refine Zvd ny ndy kd g (.inl (s15 _ _ hld)) (hD.mono s15) gd n1 n4 fun H6 s56 bd6=>?_
  have s46:=s45.trans s56
  have s16:=s14.trans s46
  have hp6:=s16 _ _ hp1
  have hd6:=s46 _ _ hd4
  have hT6:=hT4.keep fun b xs e=>s46 _ _ e
  have hw6:=(s24.trans s46) _ _ hw
  have lwp:lw≠p:=Ne.symm (nNo hp1 hlw)
  have dp:d≠p:=fun z=>by have h:=hd6;rw [z,hp6] at h;obtain ⟨_,_,e,_⟩:=hop;rw [e] at h;cases h
  have wf:=Zq2 (ds:=ds) g rc
  have smn:(Zoj rows ds n).length=n:=by unfold Zoj;rw [List.length_map,List.length_range]
  have al:=Zev rows n
  have wok:∀ x∈rows.map (·.1),PyData.strOk x=true:=fun x hx=>Zj7 (Ze6 g x hx)
  refine ⟨6,rfl,by decide,by decide,Za6 Zbm (fun i σ H'=>∃ x10 x11 x12 x13 x14 x15 x16 x17 x18:Option V,σ=[some (.ref a),some (.ref p),some (.ref l),some (.ref aa),some (.int n),some (.ref ld),some (.ref lw),some (.ref d),some (.ref xb),some (.ref yb),x10,x11,x12,x13,x14,x15,x16,x17,x18]∧Drawn p H6 H') ⟨none,none,none,none,none,none,none,none,none,rfl,Drawn.refl ⟨op,hp6,hop⟩⟩ (fun _ _ _ _ _=>trivial) ?_ ?_⟩
  ·rintro i v σ H7 hi ⟨x10,x11,x12,x13,x14,x15,x16,x17,x18,rfl,d67⟩
   obtain ⟨hi,rfl⟩:=Za4 hi
   obtain ⟨o7,hp7,ho7⟩:=id d67.pot
   have hw7:=d67.keep _ _ lwp hw6
   have hd7:=d67.keep _ _ dp hd6
   have hT7:=Zkf hp6 hop d67.keep hT6
   have bd7:=Zlt hp6 hop d67.keep bd6
   refine ⟨_,rfl,_,rfl,_,rfl,lw,d,_,kvs,rows,n,ds,rfl,hw7,g,hd7,.inr ⟨ob,rfl⟩,hT7,n4,rc,fun t H8 s78 W8=>?_⟩
   obtain ⟨ls,le,vs,us,ht8,T8⟩:=TWk.of W8 wf.1 wf.2 fun k hk=>by
    obtain ⟨c,_,rfl⟩:=List.mem_map.mp hk
    exact Zi7 _
   rw [smn] at T8
   refine ⟨t,_,rfl,SqT.of ht8,rfl,_,_,rfl,_,_,rfl,rfl,?_⟩
   have d78:Drawn p H7 H8:=(Drawn.refl ⟨o7,hp7,ho7⟩).same s78
   refine ⟨fun σ' H'=>∃ (ls le:Addr) (vs us:List V),σ'=[some (.ref a),some (.ref p),some (.ref l),some (.ref aa),some (.int n),some (.ref ld),some (.ref lw),some (.ref d),some (.ref xb),some (.ref yb),some (.int (0 + (i:Nat))),some (.ref ls),some (.ref le),x13,x14,x15,x16,x17,x18]∧Drawn p H7 H'∧TWk H7 H' ls le 1 512 n vs us,?_,?_⟩
   ·refine ⟨_,rfl,p,2,o7,rfl,s78 _ _ hp7,ho7,by decide,by decide,fun v o9 v0 v1 ho9=>?_⟩
    have d89:Drawn p H8 (upd H8 p o9):=Drawn.upd ho9
    generalize upd H8 p o9=H9 at d89
    have T9:=T8.drawn hp7 (s78 _ _ hp7) ho7 d89
    have d79:=d78.trans d89
    refine ⟨rfl,_,rfl,Zdu (fun _=>?_) (fun _=>⟨ls,le,vs,us,rfl,d79,T9⟩)⟩
    refine ⟨_,rfl,_,rfl,_,rfl,lw,d,_,kvs,rows,n,ds,rfl,d79.keep _ _ lwp hw7,g,d79.keep _ _ dp hd7,.inr ⟨ob,rfl⟩,Zkf hp7 ho7 d79.keep hT7,n4,rc,fun t ls2 le2 vs2 us2 H10 s910 ht10 T10=>?_⟩
    exact ⟨t,_,rfl,SqT.of ht10,rfl,_,_,rfl,_,_,rfl,rfl,ls2,le2,vs2,us2,rfl,d79.same s910,T10.old fun b f=>Zdc d79 f⟩
   rintro σ' H9 ⟨ls,le,vs,us,rfl,d79,T9⟩
   refine ⟨_,rfl,_,rfl,_,rfl,H7,p,ls,le,512,n,vs,us,o7,rfl,hp7,d79,T9,n1,by omega,by decide,fun way m' vs' us' H10 d710 T10 hm hway=>?_⟩
   obtain ⟨ss,es,W10,sl,ok⟩:=T10.read (by decide) (by omega)
   obtain ⟨vs2,us2,hls,hSt,hle,hE⟩:=id W10
   have sl2:=Paired.length hSt
   refine ⟨_,rfl,ls,rfl,⟨_,SqL.of hls⟩,Zn6 hls hSt (by omega) (fun a ws s H' R hs hw' L' hR=>?_) fun ls2 ys H11 hls2 s1011 hls11 S11=>?_⟩
   ·have wsl:=Paired.length L'
    have:=(ok.st s hs).1
    exact ⟨_,rfl,a,rfl,⟨_,SqL.of hw'⟩,Zqo hw' L' (by omega) (fun b xs H'' R' hb hR'=>⟨_,rfl,b,_,rfl,.inl (SqL.of hb),hR'⟩) fun D ys H'' hD s'' hD'' LF=>hR D ys H'' hD s'' hD'' LF⟩
   refine ⟨_,rfl,le,_,rfl,.inl (SqL.of (s1011 _ _ hle)),fun le2 hle2=>?_⟩
   have s1112:Zal H11 (upd H11 le2 (.lst us2)):=Zcq hle2
   have hle12:(upd H11 le2 (.lst us2)) le2=some (.lst us2):=uS
   generalize upd H11 le2 (.lst us2)=H12 at s1112 hle12
   refine ⟨sL (by show 2≤100000;decide),fun th hth=>?_⟩
   have s1213:Zal H12 (upd H12 th (.tup [.ref ls2,.ref le2])):=Zcq hth
   have hth13:(upd H12 th (.tup [.ref ls2,.ref le2])) th=some (.tup [.ref ls2,.ref le2]):=uS
   generalize upd H12 th (.tup [.ref ls2,.ref le2])=H13 at s1213 hth13
   have s1113:=s1112.trans s1213
   have s1013:=s1011.trans s1113
   have WT13:WkT H13 th ls2 le2 ss es:=⟨hth13,ys,us2,s1113 _ _ hls11,S11.mono s1113,s1213 _ _ hle12,hE.mono s1013⟩
   have W13:=W10.mono s1013
   have d713:Drawn p H7 H13:=d710.same s1013
   have hd13:=d713.keep _ _ dp hd7
   have hw13:=d713.keep _ _ lwp hw7
   have hT13:=Zkf hp7 ho7 d713.keep hT7
   have bd13:=Zlt hp7 ho7 d713.keep bd7
   have kd13:Zco C H13 xb rows:=by obtain ⟨_,_,_,_,h,_⟩:=bd13.ex;exact h
   have kl:=Paired.length hT13
   refine ⟨_,rfl,ls,_,rfl,.inl (SqL.of (s1013 _ _ hls)),_,rfl,rfl,?_⟩
   obtain ⟨b0,eb0⟩:∃ b0:Bool,b0=decide (V.int (vs2.length:Nat)=V.int (n:Nat)):=⟨_,rfl⟩
   have hb0:b0=true↔m'=n:=by
    rw [eb0,decide_eq_true_iff]
    constructor
    ·intro z;injection z with z;omega
    ·intro z;rw [← sl2,sl,z]
   rw [← eb0]
   refine ⟨_,rfl,d,kvs,rfl,.inr ⟨ob,hd13,Ztg (fun j σ H'=>∃ (b:Bool) (x16 x17:Option V),σ=[some (.ref a),some (.ref p),some (.ref l),some (.ref aa),some (.int n),some (.ref ld),some (.ref lw),some (.ref d),some (.ref xb),some (.ref yb),some (.int (0 + (i:Nat))),some (.ref ls),some (.ref le),some (.int way),some (.ref th),some (.bl b),x16,x17,x18]∧Zal H13 H'∧(b=true↔m'=n∧∀ c∈(Zaj rows n).take j,Zj5 (wds rows) ss es c=some (Zc3 rows ds c)))
    ⟨_,_,_,rfl,Zal.refl _,by rw [hb0];exact ⟨fun z=>⟨z,fun c h=>nomatch h⟩,fun z=>z.1⟩⟩ (fun j σ H' _ ⟨_,_,_,_,s',_⟩=>s' _ _ hd13) ?_ ?_⟩⟩
   ·rintro j pr tb σ H14 hj ⟨b,x16,x17,rfl,s1314,hb⟩ htb
    obtain ⟨c,hcc,ek,tt,ev,htt⟩:=Zam hT13 hj
    have hcm:=List.mem_of_getElem? hcc
    have gc:Zbj rows n c:=Zfk c hcm
    have cl:=gc.len
    obtain ⟨u1,v1,k1⟩:=hT13.get hcm
    rw [ek] at htb
    have htb':=htb
    rw [Zd7] at htb'
    refine ⟨_,rfl,_,rfl,_,rfl,_,rfl,lw,ls,le,tb,rows.map (·.1),ss,es,c,rfl,s1314 _ _ hw13,W13.mono s1314,ok,htb',gc.known,wok,by omega,by omega,fun v H15 s1415 av=>?_⟩
    have s1315:=s1314.trans s1415
    have dg1:=Zgf.tr (k:=Zfo c) (Zna (s1315 _ _ hd13) (.inr ⟨ob,rfl⟩)) (s1415 _ _ htb)
    rw [v1] at dg1
    have hk:H15 u1=some (.tup ((Zc3 rows ds c).map kV)):=by unfold Zc3;rw [Zhb];exact s1315 _ _ k1
    refine ⟨_,rfl,Z5b (dEq (Zqv (Zj5 (wds rows) ss es c)) (Zn3 (Zc3 rows ds c))) (fun R hR=>⟨_,rfl,_,rfl,_,rfl,d,_,rfl,dg1,_,_,Zh4 av,Zh3 hk,Zkl 7 (Zk7 ok.ok),Zkj 7 (Zi7 _),hR⟩) ?_⟩
    have he:dEq (Zqv (Zj5 (wds rows) ss es c)) (Zn3 (Zc3 rows ds c))=true↔Zj5 (wds rows) ss es c=some (Zc3 rows ds c):=by
     show dEq (Zqv _) (Zqv (some _))=true↔_
     constructor
     ·intro z
      exact Zpe (Classical.byContradiction fun ne=>by rw [Zfi ne] at z;cases z)
     ·intro z
      rw [z];exact Zdv _
    generalize dEq (Zqv (Zj5 (wds rows) ss es c)) (Zn3 (Zc3 rows ds c))=e at he
    have hb':(b&&e)=true↔m'=n∧∀ c∈(Zaj rows n).take (j + 1),Zj5 (wds rows) ss es c=some (Zc3 rows ds c):=by
     rw [Bool.and_eq_true,hb,he,List.take_add_one,hcc]
     constructor
     ·rintro ⟨⟨z1,z2⟩,z3⟩
      refine ⟨z1,fun c' hc'=>?_⟩
      rcases List.mem_append.mp hc' with y | y
      ·exact z2 c' y
      ·rw [List.mem_singleton.mp y];exact z3
     ·rintro ⟨z1,z2⟩
      exact ⟨⟨z1,fun c' hc'=>z2 c' (List.mem_append.mpr (.inl hc'))⟩,z2 c (List.mem_append.mpr (.inr (List.mem_singleton.mpr rfl)))⟩
    refine ⟨_,rfl,_,_,rfl,rfl,_,rfl,Zdu (fun c1=>?_) (fun c1=>Zht ⟨_,_,_,rfl,s1315,hb'⟩)⟩
    have c1:way<5:=of_decide_eq_true c1
    have sn:ss.length=n:=by rw [sl];exact hway c1
    refine ⟨_,rfl,_,rfl,_,rfl,xb,th,ls2,le2,tb,rows,ss,es,c,rfl,kd13.mono s1315,g,WT13.mono s1315,ok,s1415 _ _ htb',by rw [sn];exact gc,by omega,fun v2 H16 s1516 av2=>?_⟩
    refine ⟨_,rfl,_,_,Zh4 av2,Zh4 (av.mono s1516),Zkl 7 (Zk7 ok.ok),Zkl 7 (Zk7 ok.ok),_,rfl,?_⟩
    rw [Zdv]
    exact Zht ⟨_,_,_,rfl,s1315.trans s1516,hb'⟩
   ·rintro σ H14 ⟨b,x16,x17,rfl,s1314,hb⟩
    rw [← kl,List.take_length] at hb
    refine ⟨_,rfl,_,rfl,yb,xb,th,ls2,le2,rows,n,ds,ss,es,rfl,bd13.mono s1314,g,gd,n4,rc,WT13.mono s1314,ok,fun v H15 s1415 hv=>?_⟩
    have evb:v=b:=Bool.eq_iff_iff.mpr (hv.trans (by rw [sl];exact hb.symm))
    subst evb
    have s1315:=s1314.trans s1415
    refine ⟨_,rfl,_,_,_,_,rfl,.bl _,rfl,_,rfl,Zht ?_⟩
    refine ⟨_,rfl,_,rfl,rfl,_,rfl,?_⟩
    rw [decide_eq_true rfl]
    refine Zht ?_
    refine ⟨_,rfl,_,rfl,_,rfl,sL (by show 2≤100000;decide),fun tz htz=>?_⟩
    have s1516:Zal H15 (upd H15 tz (.tup [.ref ls,.ref le])):=Zcq htz
    have hz16:(upd H15 tz (.tup [.ref ls,.ref le])) tz=some (.tup [.ref ls,.ref le]):=uS
    generalize upd H15 tz (.tup [.ref ls,.ref le])=H16 at s1516 hz16
    have s1316:=s1315.trans s1516
    refine ⟨_,_,Zwd (WT13.mono s1316),Zwd ⟨hz16,W13.mono s1316⟩,Zwj ok.ok,Zwj ok.ok,_,rfl,?_⟩
    rw [Zdv]
    exact Zht ⟨_,_,_,_,_,_,_,_,_,rfl,d67.trans (d713.same s1316)⟩
  ·rintro σ H7 ⟨x10,x11,x12,x13,x14,x15,x16,x17,x18,rfl,d67⟩
   exact q H7
end
end K46
namespace K46
open PySem L2
theorem us1 {us:List Value}(h:us.length=1):∃ a,us=[a]:=List.length_eq_one_iff.mp h
theorem us2 {us:List Value}(h:us.length=2):∃ a b,us=[a,b]:=by
 cases us with
 | nil=>cases h
 | cons a r =>
  obtain ⟨b,e⟩:=us1 (us:=r) (Nat.succ.inj h)
  exact ⟨a,b,by rw [e]⟩
theorem us3 {us:List Value}(h:us.length=3):∃ a b c,us=[a,b,c]:=by
 cases us with
 | nil=>cases h
 | cons a r =>
  obtain ⟨b,c,e⟩:=us2 (us:=r) (Nat.succ.inj h)
  exact ⟨a,b,c,by rw [e]⟩
theorem us4 {us:List Value}(h:us.length=4):∃ a b c d,us=[a,b,c,d]:=by
 cases us with
 | nil=>cases h
 | cons a r =>
  obtain ⟨b,c,d,e⟩:=us3 (us:=r) (Nat.succ.inj h)
  exact ⟨a,b,c,d,by rw [e]⟩
theorem us5 {us:List Value}(h:us.length=5):∃ a b c d x,us=[a,b,c,d,x]:=by
 cases us with
 | nil=>cases h
 | cons a r =>
  obtain ⟨b,c,d,x,e⟩:=us4 (us:=r) (Nat.succ.inj h)
  exact ⟨a,b,c,d,x,by rw [e]⟩
set_option maxHeartbeats 4000000 in
theorem all_mk {l:PySem.W.OpenLaw}{w:World}{K:PySem.W.Frag}{h:Heap}{mg:Str→Option Value}{fa C B f_mI f_mH f_mC f_mUn f_mW f_bI f_bK f_bP f_bD f_bC f_bS f_w f_cr f_cu f_fa f_en f_fr f_aa f_P f_T f_Le f_W f_Ws f_U f_R f_A f_ic f_cd f_cc f_wi f_fi f_de f_lw f_nw f_na f_ne f_to f_td f_oe f_at f_ln f_lc f_lt f_lh f_dr f_ab f_bw f_iw f_st f_lk f_wd f_oa f_ss f_sp f_an f_L:Addr}(X:K.In h) (G:h.Ns mainGlobals mg) (hfa:mg "law"=some (.ref fa))
  {od_mI an_mI od_mH an_mH od_mC an_mC od_mUn an_mUn od_mW an_mW od_bI an_bI od_bK an_bK od_bP an_bP od_bD an_bD od_bC an_bC od_bS an_bS od_w an_w od_cr an_cr od_cu an_cu od_fa an_fa od_en an_en od_fr an_fr od_aa an_aa od_P an_P od_T an_T od_Le an_Le od_W an_W od_Ws an_Ws od_U an_U od_R an_R od_A an_A od_ic an_ic od_cd an_cd od_cc an_cc od_wi an_wi od_fi an_fi od_de an_de od_lw an_lw od_nw an_nw od_na an_na od_ne an_ne od_to an_to od_td an_td od_oe an_oe od_at an_at od_ln an_ln od_lc an_lc od_lt an_lt od_lh an_lh od_dr an_dr od_ab an_ab od_bw an_bw od_iw an_iw od_st an_st od_lk an_lk od_wd an_wd od_oa an_oa od_ss an_ss od_sp an_sp od_an an_an od_L an_L:Option Addr} {sl_mI sl_mH sl_mC sl_mUn sl_mW sl_bI sl_bK sl_bP sl_bD sl_bC sl_bS sl_w sl_cr sl_cu sl_fa sl_en sl_fr sl_aa sl_P sl_T sl_Le sl_W sl_Ws sl_U sl_R sl_A sl_ic sl_cd sl_cc sl_wi sl_fi sl_de sl_lw sl_nw sl_na sl_ne sl_to sl_td sl_oe sl_at sl_ln sl_lc sl_lt sl_lh sl_dr sl_ab sl_bw sl_iw sl_st sl_lk sl_wd sl_oa sl_ss sl_sp sl_an sl_L:Array (Option Value)} {oc_mI kV_mI dc_mI pm_mI cd_mI ct_mI oc_mH kV_mH dc_mH pm_mH cd_mH ct_mH oc_mC kV_mC dc_mC pm_mC cd_mC ct_mC oc_mUn kV_mUn dc_mUn pm_mUn cd_mUn ct_mUn oc_mW kV_mW dc_mW pm_mW cd_mW ct_mW oc_bI kV_bI dc_bI pm_bI cd_bI ct_bI oc_bK kV_bK dc_bK pm_bK cd_bK ct_bK oc_bP kV_bP dc_bP pm_bP cd_bP ct_bP oc_bD kV_bD dc_bD pm_bD cd_bD ct_bD oc_bC kV_bC dc_bC pm_bC cd_bC ct_bC oc_bS kV_bS dc_bS pm_bS cd_bS ct_bS oc_w kV_w dc_w pm_w cd_w ct_w oc_cr kV_cr dc_cr pm_cr cd_cr ct_cr oc_cu kV_cu dc_cu pm_cu cd_cu ct_cu oc_fa kV_fa dc_fa pm_fa cd_fa ct_fa oc_en kV_en dc_en pm_en cd_en ct_en oc_fr kV_fr dc_fr pm_fr cd_fr ct_fr oc_aa kV_aa dc_aa pm_aa cd_aa ct_aa oc_P kV_P dc_P pm_P cd_P ct_P oc_T kV_T dc_T pm_T cd_T ct_T oc_Le kV_Le dc_Le pm_Le cd_Le ct_Le oc_W kV_W dc_W pm_W cd_W ct_W oc_Ws kV_Ws dc_Ws pm_Ws cd_Ws ct_Ws oc_U kV_U dc_U pm_U cd_U ct_U oc_R kV_R dc_R pm_R cd_R ct_R oc_A kV_A dc_A pm_A cd_A ct_A oc_ic kV_ic dc_ic pm_ic cd_ic ct_ic oc_cd kV_cd dc_cd pm_cd cd_cd ct_cd oc_cc kV_cc dc_cc pm_cc cd_cc ct_cc oc_wi kV_wi dc_wi pm_wi cd_wi ct_wi oc_fi kV_fi dc_fi pm_fi cd_fi ct_fi oc_de kV_de dc_de pm_de cd_de ct_de oc_lw kV_lw dc_lw pm_lw cd_lw ct_lw oc_nw kV_nw dc_nw pm_nw cd_nw ct_nw oc_na kV_na dc_na pm_na cd_na ct_na oc_ne kV_ne dc_ne pm_ne cd_ne ct_ne oc_to kV_to dc_to pm_to cd_to ct_to oc_td kV_td dc_td pm_td cd_td ct_td oc_oe kV_oe dc_oe pm_oe cd_oe ct_oe oc_at kV_at dc_at pm_at cd_at ct_at oc_ln kV_ln dc_ln pm_ln cd_ln ct_ln oc_lc kV_lc dc_lc pm_lc cd_lc ct_lc oc_lt kV_lt dc_lt pm_lt cd_lt ct_lt oc_lh kV_lh dc_lh pm_lh cd_lh ct_lh oc_dr kV_dr dc_dr pm_dr cd_dr ct_dr oc_ab kV_ab dc_ab pm_ab cd_ab ct_ab oc_bw kV_bw dc_bw pm_bw cd_bw ct_bw oc_iw kV_iw dc_iw pm_iw cd_iw ct_iw oc_st kV_st dc_st pm_st cd_st ct_st oc_lk kV_lk dc_lk pm_lk cd_lk ct_lk oc_wd kV_wd dc_wd pm_wd cd_wd ct_wd oc_oa kV_oa dc_oa pm_oa cd_oa ct_oa oc_ss kV_ss dc_ss pm_ss cd_ss ct_ss oc_sp kV_sp dc_sp pm_sp cd_sp ct_sp oc_an kV_an dc_an pm_an cd_an ct_an oc_L kV_L dc_L pm_L cd_L ct_L:Value}
  {T_LETTERS T_MOST_LETTERS T_MOST_KINDS T_MOST_UPS T_MOST_PLACES T_MOST_DEEDS T_MOST_CALLS:Tok}
  (aC:PySem.W.nsIn K mainGlobals "Kinds"=some (some (.ref C)))
  (aB:PySem.W.nsIn K mainGlobals "Board"=some (some (.ref B)))
  (a_mI:PySem.W.findIn K (.ref C) "__init__"=some (some (.ref f_mI))) (i_mI:PySem.W.isFn K (.ref f_mI)=true)
  (l_mI:K.lookup f_mI=some ⟨oc_mI,od_mI,.func (PySem.W.fnOf "__init__" "Kinds.__init__" (Zao Zbu) (Zai Zbu) (Zab Zbu) .none kV_mI dc_mI pm_mI an_mI cd_mI ct_mI),sl_mI⟩) (c_mI:PySem.W.codeIn K cd_mI "Kinds.__init__"=true) (k_mI:PySem.W.keepIn K (.ref f_mI)=true)
  (a_mH:PySem.W.findIn K (.ref C) "has"=some (some (.ref f_mH))) (i_mH:PySem.W.isFn K (.ref f_mH)=true)
  (l_mH:K.lookup f_mH=some ⟨oc_mH,od_mH,.func (PySem.W.fnOf "has" "Kinds.has" (Zao Zdb) (Zai Zdb) (Zab Zdb) .none kV_mH dc_mH pm_mH an_mH cd_mH ct_mH),sl_mH⟩) (c_mH:PySem.W.codeIn K cd_mH "Kinds.has"=true) (k_mH:PySem.W.keepIn K (.ref f_mH)=true)
  (a_mC:PySem.W.findIn K (.ref C) "check"=some (some (.ref f_mC))) (i_mC:PySem.W.isFn K (.ref f_mC)=true)
  (l_mC:K.lookup f_mC=some ⟨oc_mC,od_mC,.func (PySem.W.fnOf "check" "Kinds.check" (Zao Zb0) (Zai Zb0) (Zab Zb0) .none kV_mC dc_mC pm_mC an_mC cd_mC ct_mC),sl_mC⟩) (c_mC:PySem.W.codeIn K cd_mC "Kinds.check"=true) (k_mC:PySem.W.keepIn K (.ref f_mC)=true)
  (a_mUn:PySem.W.findIn K (.ref C) "under"=some (some (.ref f_mUn))) (i_mUn:PySem.W.isFn K (.ref f_mUn)=true)
  (l_mUn:K.lookup f_mUn=some ⟨oc_mUn,od_mUn,.func (PySem.W.fnOf "under" "Kinds.under" (Zao Zch) (Zai Zch) (Zab Zch) .none kV_mUn dc_mUn pm_mUn an_mUn cd_mUn ct_mUn),sl_mUn⟩) (c_mUn:PySem.W.codeIn K cd_mUn "Kinds.under"=true) (k_mUn:PySem.W.keepIn K (.ref f_mUn)=true)
  (a_mW:PySem.W.findIn K (.ref C) "words"=some (some (.ref f_mW))) (i_mW:PySem.W.isFn K (.ref f_mW)=true)
  (l_mW:K.lookup f_mW=some ⟨oc_mW,od_mW,.func (PySem.W.fnOf "words" "Kinds.words" (Zao Zcg) (Zai Zcg) (Zab Zcg) .none kV_mW dc_mW pm_mW an_mW cd_mW ct_mW),sl_mW⟩) (c_mW:PySem.W.codeIn K cd_mW "Kinds.words"=true) (k_mW:PySem.W.keepIn K (.ref f_mW)=true)
  (a_bI:PySem.W.findIn K (.ref B) "__init__"=some (some (.ref f_bI))) (i_bI:PySem.W.isFn K (.ref f_bI)=true)
  (l_bI:K.lookup f_bI=some ⟨oc_bI,od_bI,.func (PySem.W.fnOf "__init__" "Board.__init__" (Zao Zbv) (Zai Zbv) (Zab Zbv) .none kV_bI dc_bI pm_bI an_bI cd_bI ct_bI),sl_bI⟩) (c_bI:PySem.W.codeIn K cd_bI "Board.__init__"=true) (k_bI:PySem.W.keepIn K (.ref f_bI)=true)
  (a_bK:PySem.W.findIn K (.ref B) "kinds"=some (some (.ref f_bK))) (i_bK:PySem.W.isFn K (.ref f_bK)=true)
  (l_bK:K.lookup f_bK=some ⟨oc_bK,od_bK,.func (PySem.W.fnOf "kinds" "Board.kinds" (Zao Zci) (Zai Zci) (Zab Zci) .none kV_bK dc_bK pm_bK an_bK cd_bK ct_bK),sl_bK⟩) (c_bK:PySem.W.codeIn K cd_bK "Board.kinds"=true) (k_bK:PySem.W.keepIn K (.ref f_bK)=true)
  (a_bP:PySem.W.findIn K (.ref B) "places"=some (some (.ref f_bP))) (i_bP:PySem.W.isFn K (.ref f_bP)=true)
  (l_bP:K.lookup f_bP=some ⟨oc_bP,od_bP,.func (PySem.W.fnOf "places" "Board.places" (Zao Zb3) (Zai Zb3) (Zab Zb3) .none kV_bP dc_bP pm_bP an_bP cd_bP ct_bP),sl_bP⟩) (c_bP:PySem.W.codeIn K cd_bP "Board.places"=true) (k_bP:PySem.W.keepIn K (.ref f_bP)=true)
  (a_bD:PySem.W.findIn K (.ref B) "deeds"=some (some (.ref f_bD))) (i_bD:PySem.W.isFn K (.ref f_bD)=true)
  (l_bD:K.lookup f_bD=some ⟨oc_bD,od_bD,.func (PySem.W.fnOf "deeds" "Board.deeds" (Zao Zcj) (Zai Zcj) (Zab Zcj) .none kV_bD dc_bD pm_bD an_bD cd_bD ct_bD),sl_bD⟩) (c_bD:PySem.W.codeIn K cd_bD "Board.deeds"=true) (k_bD:PySem.W.keepIn K (.ref f_bD)=true)
  (a_bC:PySem.W.findIn K (.ref B) "calls"=some (some (.ref f_bC))) (i_bC:PySem.W.isFn K (.ref f_bC)=true)
  (l_bC:K.lookup f_bC=some ⟨oc_bC,od_bC,.func (PySem.W.fnOf "calls" "Board.calls" (Zao Zck) (Zai Zck) (Zab Zck) .none kV_bC dc_bC pm_bC an_bC cd_bC ct_bC),sl_bC⟩) (c_bC:PySem.W.codeIn K cd_bC "Board.calls"=true) (k_bC:PySem.W.keepIn K (.ref f_bC)=true)
  (a_bS:PySem.W.findIn K (.ref B) "check_size"=some (some (.ref f_bS))) (i_bS:PySem.W.isFn K (.ref f_bS)=true)
  (l_bS:K.lookup f_bS=some ⟨oc_bS,od_bS,.func (PySem.W.fnOf "check_size" "Board.check_size" (Zao Zbc) (Zai Zbc) (Zab Zbc) .none kV_bS dc_bS pm_bS an_bS cd_bS ct_bS),sl_bS⟩) (c_bS:PySem.W.codeIn K cd_bS "Board.check_size"=true) (k_bS:PySem.W.keepIn K (.ref f_bS)=true)
  (a_w:PySem.W.nsIn K mainGlobals "is_word"=some (some (.ref f_w)))
  (l_w:K.lookup f_w=some ⟨oc_w,od_w,.func (PySem.W.fnOf "is_word" "is_word" (Zao Zdj) (Zai Zdj) (Zab Zdj) .none kV_w dc_w pm_w an_w cd_w ct_w),sl_w⟩) (c_w:PySem.W.codeIn K cd_w "is_word"=true) (k_w:PySem.W.keepIn K (.ref f_w)=true)
  (a_cr:PySem.W.nsIn K mainGlobals "check_rows"=some (some (.ref f_cr)))
  (l_cr:K.lookup f_cr=some ⟨oc_cr,od_cr,.func (PySem.W.fnOf "check_rows" "check_rows" (Zao Zcs) (Zai Zcs) (Zab Zcs) .none kV_cr dc_cr pm_cr an_cr cd_cr ct_cr),sl_cr⟩) (c_cr:PySem.W.codeIn K cd_cr "check_rows"=true) (k_cr:PySem.W.keepIn K (.ref f_cr)=true)
  (a_cu:PySem.W.nsIn K mainGlobals "check_ups"=some (some (.ref f_cu)))
  (l_cu:K.lookup f_cu=some ⟨oc_cu,od_cu,.func (PySem.W.fnOf "check_ups" "check_ups" (Zao Zc7) (Zai Zc7) (Zab Zc7) .none kV_cu dc_cu pm_cu an_cu cd_cu ct_cu),sl_cu⟩) (c_cu:PySem.W.codeIn K cd_cu "check_ups"=true) (k_cu:PySem.W.keepIn K (.ref f_cu)=true)
  (a_fa:PySem.W.nsIn K mainGlobals "first_among"=some (some (.ref f_fa)))
  (l_fa:K.lookup f_fa=some ⟨oc_fa,od_fa,.func (PySem.W.fnOf "first_among" "first_among" (Zao Zbo) (Zai Zbo) (Zab Zbo) .none kV_fa dc_fa pm_fa an_fa cd_fa ct_fa),sl_fa⟩) (c_fa:PySem.W.codeIn K cd_fa "first_among"=true) (k_fa:PySem.W.keepIn K (.ref f_fa)=true)
  (a_en:PySem.W.nsIn K mainGlobals "endless"=some (some (.ref f_en)))
  (l_en:K.lookup f_en=some ⟨oc_en,od_en,.func (PySem.W.fnOf "endless" "endless" (Zao Zdk) (Zai Zdk) (Zab Zdk) .none kV_en dc_en pm_en an_en cd_en ct_en),sl_en⟩) (c_en:PySem.W.codeIn K cd_en "endless"=true) (k_en:PySem.W.keepIn K (.ref f_en)=true)
  (a_fr:PySem.W.nsIn K mainGlobals "find_ring"=some (some (.ref f_fr)))
  (l_fr:K.lookup f_fr=some ⟨oc_fr,od_fr,.func (PySem.W.fnOf "find_ring" "find_ring" (Zao Zc6) (Zai Zc6) (Zab Zc6) .none kV_fr dc_fr pm_fr an_fr cd_fr ct_fr),sl_fr⟩) (c_fr:PySem.W.codeIn K cd_fr "find_ring"=true) (k_fr:PySem.W.keepIn K (.ref f_fr)=true)
  (a_aa:PySem.W.nsIn K mainGlobals "all_above"=some (some (.ref f_aa)))
  (l_aa:K.lookup f_aa=some ⟨oc_aa,od_aa,.func (PySem.W.fnOf "all_above" "all_above" (Zao Zc9) (Zai Zc9) (Zab Zc9) .none kV_aa dc_aa pm_aa an_aa cd_aa ct_aa),sl_aa⟩) (c_aa:PySem.W.codeIn K cd_aa "all_above"=true) (k_aa:PySem.W.keepIn K (.ref f_aa)=true)
  (a_P:PySem.W.nsIn K mainGlobals "_law_pot"=some (some (.ref f_P)))
  (l_P:K.lookup f_P=some ⟨oc_P,od_P,.func (PySem.W.fnOf "_law_pot" "_law_pot" (Zao Zdn) (Zai Zdn) (Zab Zdn) .none kV_P dc_P pm_P an_P cd_P ct_P),sl_P⟩) (c_P:PySem.W.codeIn K cd_P "_law_pot"=true) (k_P:PySem.W.keepIn K (.ref f_P)=true)
  (a_T:PySem.W.nsIn K mainGlobals "_law_take"=some (some (.ref f_T)))
  (l_T:K.lookup f_T=some ⟨oc_T,od_T,.func (PySem.W.fnOf "_law_take" "_law_take" (Zao Za8) (Zai Za8) (Zab Za8) .none kV_T dc_T pm_T an_T cd_T ct_T),sl_T⟩) (c_T:PySem.W.codeIn K cd_T "_law_take"=true) (k_T:PySem.W.keepIn K (.ref f_T)=true)
  (a_Le:PySem.W.nsIn K mainGlobals "_law_letters"=some (some (.ref f_Le)))
  (l_Le:K.lookup f_Le=some ⟨oc_Le,od_Le,.func (PySem.W.fnOf "_law_letters" "_law_letters" (Zao Zbh) (Zai Zbh) (Zab Zbh) .none kV_Le dc_Le pm_Le an_Le cd_Le ct_Le),sl_Le⟩) (c_Le:PySem.W.codeIn K cd_Le "_law_letters"=true) (k_Le:PySem.W.keepIn K (.ref f_Le)=true)
  (a_W:PySem.W.nsIn K mainGlobals "_law_word"=some (some (.ref f_W)))
  (l_W:K.lookup f_W=some ⟨oc_W,od_W,.func (PySem.W.fnOf "_law_word" "_law_word" (Zao Za7) (Zai Za7) (Zab Za7) .none kV_W dc_W pm_W an_W cd_W ct_W),sl_W⟩) (c_W:PySem.W.codeIn K cd_W "_law_word"=true) (k_W:PySem.W.keepIn K (.ref f_W)=true)
  (a_Ws:PySem.W.nsIn K mainGlobals "_law_words"=some (some (.ref f_Ws)))
  (l_Ws:K.lookup f_Ws=some ⟨oc_Ws,od_Ws,.func (PySem.W.fnOf "_law_words" "_law_words" (Zao Zct) (Zai Zct) (Zab Zct) .none kV_Ws dc_Ws pm_Ws an_Ws cd_Ws ct_Ws),sl_Ws⟩) (c_Ws:PySem.W.codeIn K cd_Ws "_law_words"=true) (k_Ws:PySem.W.keepIn K (.ref f_Ws)=true)
  (a_U:PySem.W.nsIn K mainGlobals "_law_ups"=some (some (.ref f_U)))
  (l_U:K.lookup f_U=some ⟨oc_U,od_U,.func (PySem.W.fnOf "_law_ups" "_law_ups" (Zao Zcr) (Zai Zcr) (Zab Zcr) .none kV_U dc_U pm_U an_U cd_U ct_U),sl_U⟩) (c_U:PySem.W.codeIn K cd_U "_law_ups"=true) (k_U:PySem.W.keepIn K (.ref f_U)=true)
  (a_R:PySem.W.nsIn K mainGlobals "_law_rows"=some (some (.ref f_R)))
  (l_R:K.lookup f_R=some ⟨oc_R,od_R,.func (PySem.W.fnOf "_law_rows" "_law_rows" (Zao Zcl) (Zai Zcl) (Zab Zcl) .none kV_R dc_R pm_R an_R cd_R ct_R),sl_R⟩) (c_R:PySem.W.codeIn K cd_R "_law_rows"=true) (k_R:PySem.W.keepIn K (.ref f_R)=true)
  (a_A:PySem.W.nsIn K mainGlobals "_law_above"=some (some (.ref f_A)))
  (l_A:K.lookup f_A=some ⟨oc_A,od_A,.func (PySem.W.fnOf "_law_above" "_law_above" (Zao Zcv) (Zai Zcv) (Zab Zcv) .none kV_A dc_A pm_A an_A cd_A ct_A),sl_A⟩) (c_A:PySem.W.codeIn K cd_A "_law_above"=true) (k_A:PySem.W.keepIn K (.ref f_A)=true)
  (a_ic:PySem.W.nsIn K mainGlobals "is_call"=some (some (.ref f_ic)))
  (l_ic:K.lookup f_ic=some ⟨oc_ic,od_ic,.func (PySem.W.fnOf "is_call" "is_call" (Zao Zc1) (Zai Zc1) (Zab Zc1) .none kV_ic dc_ic pm_ic an_ic cd_ic ct_ic),sl_ic⟩) (c_ic:PySem.W.codeIn K cd_ic "is_call"=true) (k_ic:PySem.W.keepIn K (.ref f_ic)=true)
  (a_cd:PySem.W.nsIn K mainGlobals "check_deeds"=some (some (.ref f_cd)))
  (l_cd:K.lookup f_cd=some ⟨oc_cd,od_cd,.func (PySem.W.fnOf "check_deeds" "check_deeds" (Zao Zcb) (Zai Zcb) (Zab Zcb) .none kV_cd dc_cd pm_cd an_cd cd_cd ct_cd),sl_cd⟩) (c_cd:PySem.W.codeIn K cd_cd "check_deeds"=true) (k_cd:PySem.W.keepIn K (.ref f_cd)=true)
  (a_cc:PySem.W.nsIn K mainGlobals "check_call"=some (some (.ref f_cc)))
  (l_cc:K.lookup f_cc=some ⟨oc_cc,od_cc,.func (PySem.W.fnOf "check_call" "check_call" (Zao Zcc) (Zai Zcc) (Zab Zcc) .none kV_cc dc_cc pm_cc an_cc cd_cc ct_cc),sl_cc⟩) (c_cc:PySem.W.codeIn K cd_cc "check_call"=true) (k_cc:PySem.W.keepIn K (.ref f_cc)=true)
  (a_wi:PySem.W.nsIn K mainGlobals "within"=some (some (.ref f_wi)))
  (l_wi:K.lookup f_wi=some ⟨oc_wi,od_wi,.func (PySem.W.fnOf "within" "within" (Zao Zd6) (Zai Zd6) (Zab Zd6) .none kV_wi dc_wi pm_wi an_wi cd_wi ct_wi),sl_wi⟩) (c_wi:PySem.W.codeIn K cd_wi "within"=true) (k_wi:PySem.W.keepIn K (.ref f_wi)=true)
  (a_fi:PySem.W.nsIn K mainGlobals "fitting"=some (some (.ref f_fi)))
  (l_fi:K.lookup f_fi=some ⟨oc_fi,od_fi,.func (PySem.W.fnOf "fitting" "fitting" (Zao Zdq) (Zai Zdq) (Zab Zdq) .none kV_fi dc_fi pm_fi an_fi cd_fi ct_fi),sl_fi⟩) (c_fi:PySem.W.codeIn K cd_fi "fitting"=true) (k_fi:PySem.W.keepIn K (.ref f_fi)=true)
  (a_de:PySem.W.nsIn K mainGlobals "_law_deeds"=some (some (.ref f_de)))
  (l_de:K.lookup f_de=some ⟨oc_de,od_de,.func (PySem.W.fnOf "_law_deeds" "_law_deeds" (Zao Zb2) (Zai Zb2) (Zab Zb2) .none kV_de dc_de pm_de an_de cd_de ct_de),sl_de⟩) (c_de:PySem.W.codeIn K cd_de "_law_deeds"=true) (k_de:PySem.W.keepIn K (.ref f_de)=true)
  (a_lw:PySem.W.nsIn K mainGlobals "_law_within"=some (some (.ref f_lw)))
  (l_lw:K.lookup f_lw=some ⟨oc_lw,od_lw,.func (PySem.W.fnOf "_law_within" "_law_within" (Zao Zby) (Zai Zby) (Zab Zby) .none kV_lw dc_lw pm_lw an_lw cd_lw ct_lw),sl_lw⟩) (c_lw:PySem.W.codeIn K cd_lw "_law_within"=true) (k_lw:PySem.W.keepIn K (.ref f_lw)=true)
  (a_nw:PySem.W.nsIn K mainGlobals "nearest_with"=some (some (.ref f_nw)))
  (l_nw:K.lookup f_nw=some ⟨oc_nw,od_nw,.func (PySem.W.fnOf "nearest_with" "nearest_with" (Zao Zbf) (Zai Zbf) (Zab Zbf) .none kV_nw dc_nw pm_nw an_nw cd_nw ct_nw),sl_nw⟩) (c_nw:PySem.W.codeIn K cd_nw "nearest_with"=true) (k_nw:PySem.W.keepIn K (.ref f_nw)=true)
  (a_na:PySem.W.nsIn K mainGlobals "nearest_among"=some (some (.ref f_na)))
  (l_na:K.lookup f_na=some ⟨oc_na,od_na,.func (PySem.W.fnOf "nearest_among" "nearest_among" (Zao Zbp) (Zai Zbp) (Zab Zbp) .none kV_na dc_na pm_na an_na cd_na ct_na),sl_na⟩) (c_na:PySem.W.codeIn K cd_na "nearest_among"=true) (k_na:PySem.W.keepIn K (.ref f_na)=true)
  (a_ne:PySem.W.nsIn K mainGlobals "nearest"=some (some (.ref f_ne)))
  (l_ne:K.lookup f_ne=some ⟨oc_ne,od_ne,.func (PySem.W.fnOf "nearest" "nearest" (Zao Zd9) (Zai Zd9) (Zab Zd9) .none kV_ne dc_ne pm_ne an_ne cd_ne ct_ne),sl_ne⟩) (c_ne:PySem.W.codeIn K cd_ne "nearest"=true) (k_ne:PySem.W.keepIn K (.ref f_ne)=true)
  (a_to:PySem.W.nsIn K mainGlobals "told_of"=some (some (.ref f_to)))
  (l_to:K.lookup f_to=some ⟨oc_to,od_to,.func (PySem.W.fnOf "told_of" "told_of" (Zao Zd8) (Zai Zd8) (Zab Zd8) .none kV_to dc_to pm_to an_to cd_to ct_to),sl_to⟩) (c_to:PySem.W.codeIn K cd_to "told_of"=true) (k_to:PySem.W.keepIn K (.ref f_to)=true)
  (a_td:PySem.W.nsIn K mainGlobals "told"=some (some (.ref f_td)))
  (l_td:K.lookup f_td=some ⟨oc_td,od_td,.func (PySem.W.fnOf "told" "told" (Zao Zhp) (Zai Zhp) (Zab Zhp) .none kV_td dc_td pm_td an_td cd_td ct_td),sl_td⟩) (c_td:PySem.W.codeIn K cd_td "told"=true) (k_td:PySem.W.keepIn K (.ref f_td)=true)
  (a_oe:PySem.W.nsIn K mainGlobals "one_of_each"=some (some (.ref f_oe)))
  (l_oe:K.lookup f_oe=some ⟨oc_oe,od_oe,.func (PySem.W.fnOf "one_of_each" "one_of_each" (Zao Zbx) (Zai Zbx) (Zab Zbx) .none kV_oe dc_oe pm_oe an_oe cd_oe ct_oe),sl_oe⟩) (c_oe:PySem.W.codeIn K cd_oe "one_of_each"=true) (k_oe:PySem.W.keepIn K (.ref f_oe)=true)
  (a_at:PySem.W.nsIn K mainGlobals "all_told"=some (some (.ref f_at)))
  (l_at:K.lookup f_at=some ⟨oc_at,od_at,.func (PySem.W.fnOf "all_told" "all_told" (Zao Zdm) (Zai Zdm) (Zab Zdm) .none kV_at dc_at pm_at an_at cd_at ct_at),sl_at⟩) (c_at:PySem.W.codeIn K cd_at "all_told"=true) (k_at:PySem.W.keepIn K (.ref f_at)=true)
  (a_ln:PySem.W.nsIn K mainGlobals "_law_nearest"=some (some (.ref f_ln)))
  (l_ln:K.lookup f_ln=some ⟨oc_ln,od_ln,.func (PySem.W.fnOf "_law_nearest" "_law_nearest" (Zao Zbg) (Zai Zbg) (Zab Zbg) .none kV_ln dc_ln pm_ln an_ln cd_ln ct_ln),sl_ln⟩) (c_ln:PySem.W.codeIn K cd_ln "_law_nearest"=true) (k_ln:PySem.W.keepIn K (.ref f_ln)=true)
  (a_lc:PySem.W.nsIn K mainGlobals "_law_calls"=some (some (.ref f_lc)))
  (l_lc:K.lookup f_lc=some ⟨oc_lc,od_lc,.func (PySem.W.fnOf "_law_calls" "_law_calls" (Zao Zbq) (Zai Zbq) (Zab Zbq) .none kV_lc dc_lc pm_lc an_lc cd_lc ct_lc),sl_lc⟩) (c_lc:PySem.W.codeIn K cd_lc "_law_calls"=true) (k_lc:PySem.W.keepIn K (.ref f_lc)=true)
  (a_lt:PySem.W.nsIn K mainGlobals "_law_told"=some (some (.ref f_lt)))
  (l_lt:K.lookup f_lt=some ⟨oc_lt,od_lt,.func (PySem.W.fnOf "_law_told" "_law_told" (Zao Zda) (Zai Zda) (Zab Zda) .none kV_lt dc_lt pm_lt an_lt cd_lt ct_lt),sl_lt⟩) (c_lt:PySem.W.codeIn K cd_lt "_law_told"=true) (k_lt:PySem.W.keepIn K (.ref f_lt)=true)
  (a_lh:PySem.W.nsIn K mainGlobals "_law_heard"=some (some (.ref f_lh)))
  (l_lh:K.lookup f_lh=some ⟨oc_lh,od_lh,.func (PySem.W.fnOf "_law_heard" "_law_heard" (Zao Zce) (Zai Zce) (Zab Zce) .none kV_lh dc_lh pm_lh an_lh cd_lh ct_lh),sl_lh⟩) (c_lh:PySem.W.codeIn K cd_lh "_law_heard"=true) (k_lh:PySem.W.keepIn K (.ref f_lh)=true)
  (a_dr:PySem.W.nsIn K mainGlobals "_law_drawn"=some (some (.ref f_dr)))
  (l_dr:K.lookup f_dr=some ⟨oc_dr,od_dr,.func (PySem.W.fnOf "_law_drawn" "_law_drawn" (Zao Zcu) (Zai Zcu) (Zab Zcu) .none kV_dr dc_dr pm_dr an_dr cd_dr ct_dr),sl_dr⟩) (c_dr:PySem.W.codeIn K cd_dr "_law_drawn"=true) (k_dr:PySem.W.keepIn K (.ref f_dr)=true)
  (a_ab:PySem.W.nsIn K mainGlobals "answer_by"=some (some (.ref f_ab)))
  (l_ab:K.lookup f_ab=some ⟨oc_ab,od_ab,.func (PySem.W.fnOf "answer_by" "answer_by" (Zao Zcy) (Zai Zcy) (Zab Zcy) .none kV_ab dc_ab pm_ab an_ab cd_ab ct_ab),sl_ab⟩) (c_ab:PySem.W.codeIn K cd_ab "answer_by"=true) (k_ab:PySem.W.keepIn K (.ref f_ab)=true)
  (a_bw:PySem.W.nsIn K mainGlobals "by_walker"=some (some (.ref f_bw)))
  (l_bw:K.lookup f_bw=some ⟨oc_bw,od_bw,.func (PySem.W.fnOf "by_walker" "by_walker" (Zao Zc8) (Zai Zc8) (Zab Zc8) .none kV_bw dc_bw pm_bw an_bw cd_bw ct_bw),sl_bw⟩) (c_bw:PySem.W.codeIn K cd_bw "by_walker"=true) (k_bw:PySem.W.keepIn K (.ref f_bw)=true)
  (a_iw:PySem.W.nsIn K mainGlobals "is_walker"=some (some (.ref f_iw)))
  (l_iw:K.lookup f_iw=some ⟨oc_iw,od_iw,.func (PySem.W.fnOf "is_walker" "is_walker" (Zao Zcx) (Zai Zcx) (Zab Zcx) .none kV_iw dc_iw pm_iw an_iw cd_iw ct_iw),sl_iw⟩) (c_iw:PySem.W.codeIn K cd_iw "is_walker"=true) (k_iw:PySem.W.keepIn K (.ref f_iw)=true)
  (a_st:PySem.W.nsIn K mainGlobals "_law_states"=some (some (.ref f_st)))
  (l_st:K.lookup f_st=some ⟨oc_st,od_st,.func (PySem.W.fnOf "_law_states" "_law_states" (Zao Zbz) (Zai Zbz) (Zab Zbz) .none kV_st dc_st pm_st an_st cd_st ct_st),sl_st⟩) (c_st:PySem.W.codeIn K cd_st "_law_states"=true) (k_st:PySem.W.keepIn K (.ref f_st)=true)
  (a_lk:PySem.W.nsIn K mainGlobals "_law_walker"=some (some (.ref f_lk)))
  (l_lk:K.lookup f_lk=some ⟨oc_lk,od_lk,.func (PySem.W.fnOf "_law_walker" "_law_walker" (Zao Zbi) (Zai Zbi) (Zab Zbi) .none kV_lk dc_lk pm_lk an_lk cd_lk ct_lk),sl_lk⟩) (c_lk:PySem.W.codeIn K cd_lk "_law_walker"=true) (k_lk:PySem.W.keepIn K (.ref f_lk)=true)
  (a_wd:PySem.W.nsIn K mainGlobals "_law_wide"=some (some (.ref f_wd)))
  (l_wd:K.lookup f_wd=some ⟨oc_wd,od_wd,.func (PySem.W.fnOf "_law_wide" "_law_wide" (Zao Zbl) (Zai Zbl) (Zab Zbl) .none kV_wd dc_wd pm_wd an_wd cd_wd ct_wd),sl_wd⟩) (c_wd:PySem.W.codeIn K cd_wd "_law_wide"=true) (k_wd:PySem.W.keepIn K (.ref f_wd)=true)
  (a_oa:PySem.W.nsIn K mainGlobals "_law_one_ahead"=some (some (.ref f_oa)))
  (l_oa:K.lookup f_oa=some ⟨oc_oa,od_oa,.func (PySem.W.fnOf "_law_one_ahead" "_law_one_ahead" (Zao Zax) (Zai Zax) (Zab Zax) .none kV_oa dc_oa pm_oa an_oa cd_oa ct_oa),sl_oa⟩) (c_oa:PySem.W.codeIn K cd_oa "_law_one_ahead"=true) (k_oa:PySem.W.keepIn K (.ref f_oa)=true)
  (a_ss:PySem.W.nsIn K mainGlobals "_law_spoilt_steps"=some (some (.ref f_ss)))
  (l_ss:K.lookup f_ss=some ⟨oc_ss,od_ss,.func (PySem.W.fnOf "_law_spoilt_steps" "_law_spoilt_steps" (Zao Za1) (Zai Za1) (Zab Za1) .none kV_ss dc_ss pm_ss an_ss cd_ss ct_ss),sl_ss⟩) (c_ss:PySem.W.codeIn K cd_ss "_law_spoilt_steps"=true) (k_ss:PySem.W.keepIn K (.ref f_ss)=true)
  (a_sp:PySem.W.nsIn K mainGlobals "_law_spoilt"=some (some (.ref f_sp)))
  (l_sp:K.lookup f_sp=some ⟨oc_sp,od_sp,.func (PySem.W.fnOf "_law_spoilt" "_law_spoilt" (Zao Zcd) (Zai Zcd) (Zab Zcd) .none kV_sp dc_sp pm_sp an_sp cd_sp ct_sp),sl_sp⟩) (c_sp:PySem.W.codeIn K cd_sp "_law_spoilt"=true) (k_sp:PySem.W.keepIn K (.ref f_sp)=true)
  (a_an:PySem.W.nsIn K mainGlobals "_law_answer"=some (some (.ref f_an)))
  (l_an:K.lookup f_an=some ⟨oc_an,od_an,.func (PySem.W.fnOf "_law_answer" "_law_answer" (Zao Zcf) (Zai Zcf) (Zab Zcf) .none kV_an dc_an pm_an an_an cd_an ct_an),sl_an⟩) (c_an:PySem.W.codeIn K cd_an "_law_answer"=true) (k_an:PySem.W.keepIn K (.ref f_an)=true)
  (a_L:PySem.W.nsIn K mainGlobals "law"=some (some (.ref f_L)))
  (l_L:K.lookup f_L=some ⟨oc_L,od_L,.func (PySem.W.fnOf "law" "law" (Zao Zgm) (Zai Zgm) (Zab Zgm) .none kV_L dc_L pm_L an_L cd_L ct_L),sl_L⟩) (c_L:PySem.W.codeIn K cd_L "law"=true) (k_L:PySem.W.keepIn K (.ref f_L)=true)
  (pg:PySem.W.plainGet K C Str.empty=true) (hd:PySem.W.hasDictIn K C=true) (po:PySem.W.plainOver K C=true) (sa:PySem.W.findIn K (.ref C) "__setattr__"=some (some (.builtin "object.__setattr__"))) (mk:PySem.W.makesIn K C=true) (kc:PySem.W.keepIn K (.ref C)=true)
  (n_ups_of:PySem.W.findIn K (.ref C) "ups_of"=some none)
  (n_above_of:PySem.W.findIn K (.ref C) "above_of"=some none)
  (pg_B:PySem.W.plainGet K B Str.empty=true) (hd_B:PySem.W.hasDictIn K B=true) (po_B:PySem.W.plainOver K B=true) (sa_B:PySem.W.findIn K (.ref B) "__setattr__"=some (some (.builtin "object.__setattr__"))) (mk_B:PySem.W.makesIn K B=true) (kc_B:PySem.W.keepIn K (.ref B)=true)
  (n_book_B:PySem.W.findIn K (.ref B) "book"=some none)
  (n_width_B:PySem.W.findIn K (.ref B) "width"=some none)
  (n_stands_B:PySem.W.findIn K (.ref B) "stands"=some none)
  (n_has_B:PySem.W.findIn K (.ref B) "has"=some none)
  (g_LETTERS:PySem.W.nsIn K mainGlobals "LETTERS"=some (some (.str Md.letters T_LETTERS)))
  (g_MOST_LETTERS:PySem.W.nsIn K mainGlobals "MOST_LETTERS"=some (some (.int 8 T_MOST_LETTERS)))
  (g_MOST_KINDS:PySem.W.nsIn K mainGlobals "MOST_KINDS"=some (some (.int 24 T_MOST_KINDS)))
  (g_MOST_UPS:PySem.W.nsIn K mainGlobals "MOST_UPS"=some (some (.int 8 T_MOST_UPS)))
  (g_MOST_PLACES:PySem.W.nsIn K mainGlobals "MOST_PLACES"=some (some (.int 4 T_MOST_PLACES)))
  (g_MOST_DEEDS:PySem.W.nsIn K mainGlobals "MOST_DEEDS"=some (some (.int 64 T_MOST_DEEDS)))
  (g_MOST_CALLS:PySem.W.nsIn K mainGlobals "MOST_CALLS"=some (some (.int 512 T_MOST_CALLS)))
  (z_len:PySem.W.nsIn K mainGlobals "len"=some none)
  (z_all:PySem.W.nsIn K mainGlobals "all"=some none)
  (z_list:PySem.W.nsIn K mainGlobals "list"=some none)
  (z_tuple:PySem.W.nsIn K mainGlobals "tuple"=some none)
  (z_range:PySem.W.nsIn K mainGlobals "range"=some none)
  (z_int:PySem.W.nsIn K mainGlobals "int"=some none)
  (z_isinstance:PySem.W.nsIn K mainGlobals "isinstance"=some none)
  (z_zip:PySem.W.nsIn K mainGlobals "zip"=some none)
  (z_enumerate:PySem.W.nsIn K mainGlobals "enumerate"=some none)
  (z_any:PySem.W.nsIn K mainGlobals "any"=some none)
  (z_bool:PySem.W.nsIn K mainGlobals "bool"=some none)
  : ∃ fd:FuncData,(∀ (s:Shared) (v:Value),BindsTo s fd ⟨[v],[]⟩ [("script",v)])∧∀ base:Heap,K.In base→base.Ns mainGlobals mg→Za3 l.prog w K mg base CX0 11 fa fd ["script"] (Zug K):=by
 have e:=hfa.symm.trans (PySem.W.mg_of X G a_L)
 cases e
 have mgC_LETTERS:=PySem.W.mg_of X G g_LETTERS
 have mgC_MOST_LETTERS:=PySem.W.mg_of X G g_MOST_LETTERS
 have mgC_MOST_KINDS:=PySem.W.mg_of X G g_MOST_KINDS
 have mgC_MOST_UPS:=PySem.W.mg_of X G g_MOST_UPS
 have mgC_MOST_PLACES:=PySem.W.mg_of X G g_MOST_PLACES
 have mgC_MOST_DEEDS:=PySem.W.mg_of X G g_MOST_DEEDS
 have mgC_MOST_CALLS:=PySem.W.mg_of X G g_MOST_CALLS
 have mgN_len:=PySem.W.mg_none_of X G z_len
 have mgN_all:=PySem.W.mg_none_of X G z_all
 have mgN_list:=PySem.W.mg_none_of X G z_list
 have mgN_tuple:=PySem.W.mg_none_of X G z_tuple
 have mgN_range:=PySem.W.mg_none_of X G z_range
 have mgN_int:=PySem.W.mg_none_of X G z_int
 have mgN_isinstance:=PySem.W.mg_none_of X G z_isinstance
 have mgN_zip:=PySem.W.mg_none_of X G z_zip
 have mgN_enumerate:=PySem.W.mg_none_of X G z_enumerate
 have mgN_any:=PySem.W.mg_none_of X G z_any
 have mgN_bool:=PySem.W.mg_none_of X G z_bool
 have F_mI:=Zaw (st:=Zbu) l_mI c_mI k_mI
 have b_mI:=F_mI.binds (ps:=["self","rows"]) fun _ _ _ _ _ _ us hl=>by obtain ⟨_,_,rfl⟩:=us2 hl;rfl
 have M_mI:Zjg K C "__init__" "Kinds.__init__" Zbu ["self","rows"] f_mI _:=⟨F_mI,b_mI,a_mI,i_mI,k_mI⟩
 have F_mH:=Zaw (st:=Zdb) l_mH c_mH k_mH
 have b_mH:=F_mH.binds (ps:=["self","word"]) fun _ _ _ _ _ _ us hl=>by obtain ⟨_,_,rfl⟩:=us2 hl;rfl
 have M_mH:Zjg K C "has" "Kinds.has" Zdb ["self","word"] f_mH _:=⟨F_mH,b_mH,a_mH,i_mH,k_mH⟩
 have F_mC:=Zaw (st:=Zb0) l_mC c_mC k_mC
 have b_mC:=F_mC.binds (ps:=["self","word"]) fun _ _ _ _ _ _ us hl=>by obtain ⟨_,_,rfl⟩:=us2 hl;rfl
 have M_mC:Zjg K C "check" "Kinds.check" Zb0 ["self","word"] f_mC _:=⟨F_mC,b_mC,a_mC,i_mC,k_mC⟩
 have F_mUn:=Zaw (st:=Zch) l_mUn c_mUn k_mUn
 have b_mUn:=F_mUn.binds (ps:=["self","one","other"]) fun _ _ _ _ _ _ us hl=>by obtain ⟨_,_,_,rfl⟩:=us3 hl;rfl
 have M_mUn:Zjg K C "under" "Kinds.under" Zch ["self","one","other"] f_mUn _:=⟨F_mUn,b_mUn,a_mUn,i_mUn,k_mUn⟩
 have F_mW:=Zaw (st:=Zcg) l_mW c_mW k_mW
 have b_mW:=F_mW.binds (ps:=["self"]) fun _ _ _ _ _ _ us hl=>by obtain ⟨_,rfl⟩:=us1 hl;rfl
 have M_mW:Zjg K C "words" "Kinds.words" Zcg ["self"] f_mW _:=⟨F_mW,b_mW,a_mW,i_mW,k_mW⟩
 have F_bI:=Zaw (st:=Zbv) l_bI c_bI k_bI
 have b_bI:=F_bI.binds (ps:=["self","kinds","places","deeds"]) fun _ _ _ _ _ _ us hl=>by obtain ⟨_,_,_,_,rfl⟩:=us4 hl;rfl
 have M_bI:Zjg K B "__init__" "Board.__init__" Zbv ["self","kinds","places","deeds"] f_bI _:=⟨F_bI,b_bI,a_bI,i_bI,k_bI⟩
 have F_bK:=Zaw (st:=Zci) l_bK c_bK k_bK
 have b_bK:=F_bK.binds (ps:=["self"]) fun _ _ _ _ _ _ us hl=>by obtain ⟨_,rfl⟩:=us1 hl;rfl
 have M_bK:Zjg K B "kinds" "Board.kinds" Zci ["self"] f_bK _:=⟨F_bK,b_bK,a_bK,i_bK,k_bK⟩
 have F_bP:=Zaw (st:=Zb3) l_bP c_bP k_bP
 have b_bP:=F_bP.binds (ps:=["self"]) fun _ _ _ _ _ _ us hl=>by obtain ⟨_,rfl⟩:=us1 hl;rfl
 have M_bP:Zjg K B "places" "Board.places" Zb3 ["self"] f_bP _:=⟨F_bP,b_bP,a_bP,i_bP,k_bP⟩
 have F_bD:=Zaw (st:=Zcj) l_bD c_bD k_bD
 have b_bD:=F_bD.binds (ps:=["self"]) fun _ _ _ _ _ _ us hl=>by obtain ⟨_,rfl⟩:=us1 hl;rfl
 have M_bD:Zjg K B "deeds" "Board.deeds" Zcj ["self"] f_bD _:=⟨F_bD,b_bD,a_bD,i_bD,k_bD⟩
 have F_bC:=Zaw (st:=Zck) l_bC c_bC k_bC
 have b_bC:=F_bC.binds (ps:=["self"]) fun _ _ _ _ _ _ us hl=>by obtain ⟨_,rfl⟩:=us1 hl;rfl
 have M_bC:Zjg K B "calls" "Board.calls" Zck ["self"] f_bC _:=⟨F_bC,b_bC,a_bC,i_bC,k_bC⟩
 have F_bS:=Zaw (st:=Zbc) l_bS c_bS k_bS
 have b_bS:=F_bS.binds (ps:=["self"]) fun _ _ _ _ _ _ us hl=>by obtain ⟨_,rfl⟩:=us1 hl;rfl
 have M_bS:Zjg K B "check_size" "Board.check_size" Zbc ["self"] f_bS _:=⟨F_bS,b_bS,a_bS,i_bS,k_bS⟩
 have mgC:=PySem.W.mg_of X G aC
 have M:Mk K C f_mI:=⟨mk,a_mI,i_mI,kc⟩
 have mgB:=PySem.W.mg_of X G aB
 have M_B:Mk K B f_bI:=⟨mk_B,a_bI,i_bI,kc_B⟩
 have F_w:=Zaw (st:=Zdj) l_w c_w k_w
 have b_w:=F_w.binds (ps:=["text"]) fun _ _ _ _ _ _ us hl=>by obtain ⟨_,rfl⟩:=us1 hl;rfl
 have D_w:Def K mg "is_word" Zdj ["text"] f_w _:=⟨F_w,b_w,PySem.W.mg_of X G a_w⟩
 have F_cr:=Zaw (st:=Zcs) l_cr c_cr k_cr
 have b_cr:=F_cr.binds (ps:=["rows"]) fun _ _ _ _ _ _ us hl=>by obtain ⟨_,rfl⟩:=us1 hl;rfl
 have D_cr:Def K mg "check_rows" Zcs ["rows"] f_cr _:=⟨F_cr,b_cr,PySem.W.mg_of X G a_cr⟩
 have F_cu:=Zaw (st:=Zc7) l_cu c_cu k_cu
 have b_cu:=F_cu.binds (ps:=["ups_of"]) fun _ _ _ _ _ _ us hl=>by obtain ⟨_,rfl⟩:=us1 hl;rfl
 have D_cu:Def K mg "check_ups" Zc7 ["ups_of"] f_cu _:=⟨F_cu,b_cu,PySem.W.mg_of X G a_cu⟩
 have F_fa:=Zaw (st:=Zbo) l_fa c_fa k_fa
 have b_fa:=F_fa.binds (ps:=["words","others"]) fun _ _ _ _ _ _ us hl=>by obtain ⟨_,_,rfl⟩:=us2 hl;rfl
 have D_fa:Def K mg "first_among" Zbo ["words","others"] f_fa _:=⟨F_fa,b_fa,PySem.W.mg_of X G a_fa⟩
 have F_en:=Zaw (st:=Zdk) l_en c_en k_en
 have b_en:=F_en.binds (ps:=["ups_of"]) fun _ _ _ _ _ _ us hl=>by obtain ⟨_,rfl⟩:=us1 hl;rfl
 have D_en:Def K mg "endless" Zdk ["ups_of"] f_en _:=⟨F_en,b_en,PySem.W.mg_of X G a_en⟩
 have F_fr:=Zaw (st:=Zc6) l_fr c_fr k_fr
 have b_fr:=F_fr.binds (ps:=["ups_of"]) fun _ _ _ _ _ _ us hl=>by obtain ⟨_,rfl⟩:=us1 hl;rfl
 have D_fr:Def K mg "find_ring" Zc6 ["ups_of"] f_fr _:=⟨F_fr,b_fr,PySem.W.mg_of X G a_fr⟩
 have F_aa:=Zaw (st:=Zc9) l_aa c_aa k_aa
 have b_aa:=F_aa.binds (ps:=["ups_of","word"]) fun _ _ _ _ _ _ us hl=>by obtain ⟨_,_,rfl⟩:=us2 hl;rfl
 have D_aa:Def K mg "all_above" Zc9 ["ups_of","word"] f_aa _:=⟨F_aa,b_aa,PySem.W.mg_of X G a_aa⟩
 have F_P:=Zaw (st:=Zdn) l_P c_P k_P
 have b_P:=F_P.binds (ps:=["script","k"]) fun _ _ _ _ _ _ us hl=>by obtain ⟨_,_,rfl⟩:=us2 hl;rfl
 have D_P:Def K mg "_law_pot" Zdn ["script","k"] f_P _:=⟨F_P,b_P,PySem.W.mg_of X G a_P⟩
 have F_T:=Zaw (st:=Za8) l_T c_T k_T
 have b_T:=F_T.binds (ps:=["pot","many"]) fun _ _ _ _ _ _ us hl=>by obtain ⟨_,_,rfl⟩:=us2 hl;rfl
 have D_T:Def K mg "_law_take" Za8 ["pot","many"] f_T _:=⟨F_T,b_T,PySem.W.mg_of X G a_T⟩
 have F_Le:=Zaw (st:=Zbh) l_Le c_Le k_Le
 have b_Le:=F_Le.binds (ps:=["number"]) fun _ _ _ _ _ _ us hl=>by obtain ⟨_,rfl⟩:=us1 hl;rfl
 have D_Le:Def K mg "_law_letters" Zbh ["number"] f_Le _:=⟨F_Le,b_Le,PySem.W.mg_of X G a_Le⟩
 have F_W:=Zaw (st:=Za7) l_W c_W k_W
 have b_W:=F_W.binds (ps:=["pot","words"]) fun _ _ _ _ _ _ us hl=>by obtain ⟨_,_,rfl⟩:=us2 hl;rfl
 have D_W:Def K mg "_law_word" Za7 ["pot","words"] f_W _:=⟨F_W,b_W,PySem.W.mg_of X G a_W⟩
 have F_Ws:=Zaw (st:=Zct) l_Ws c_Ws k_Ws
 have b_Ws:=F_Ws.binds (ps:=["pot","many"]) fun _ _ _ _ _ _ us hl=>by obtain ⟨_,_,rfl⟩:=us2 hl;rfl
 have D_Ws:Def K mg "_law_words" Zct ["pot","many"] f_Ws _:=⟨F_Ws,b_Ws,PySem.W.mg_of X G a_Ws⟩
 have F_U:=Zaw (st:=Zcr) l_U c_U k_U
 have b_U:=F_U.binds (ps:=["pot","k","shape"]) fun _ _ _ _ _ _ us hl=>by obtain ⟨_,_,_,rfl⟩:=us3 hl;rfl
 have D_U:Def K mg "_law_ups" Zcr ["pot","k","shape"] f_U _:=⟨F_U,b_U,PySem.W.mg_of X G a_U⟩
 have F_R:=Zaw (st:=Zcl) l_R c_R k_R
 have b_R:=F_R.binds (ps:=["pot","most"]) fun _ _ _ _ _ _ us hl=>by obtain ⟨_,_,rfl⟩:=us2 hl;rfl
 have D_R:Def K mg "_law_rows" Zcl ["pot","most"] f_R _:=⟨F_R,b_R,PySem.W.mg_of X G a_R⟩
 have F_A:=Zaw (st:=Zcv) l_A c_A k_A
 have b_A:=F_A.binds (ps:=["rows"]) fun _ _ _ _ _ _ us hl=>by obtain ⟨_,rfl⟩:=us1 hl;rfl
 have D_A:Def K mg "_law_above" Zcv ["rows"] f_A _:=⟨F_A,b_A,PySem.W.mg_of X G a_A⟩
 have F_ic:=Zaw (st:=Zc1) l_ic c_ic k_ic
 have b_ic:=F_ic.binds (ps:=["kinds","places","call"]) fun _ _ _ _ _ _ us hl=>by obtain ⟨_,_,_,rfl⟩:=us3 hl;rfl
 have D_ic:Def K mg "is_call" Zc1 ["kinds","places","call"] f_ic _:=⟨F_ic,b_ic,PySem.W.mg_of X G a_ic⟩
 have F_cd:=Zaw (st:=Zcb) l_cd c_cd k_cd
 have b_cd:=F_cd.binds (ps:=["kinds","places","deeds"]) fun _ _ _ _ _ _ us hl=>by obtain ⟨_,_,_,rfl⟩:=us3 hl;rfl
 have D_cd:Def K mg "check_deeds" Zcb ["kinds","places","deeds"] f_cd _:=⟨F_cd,b_cd,PySem.W.mg_of X G a_cd⟩
 have F_cc:=Zaw (st:=Zcc) l_cc c_cc k_cc
 have b_cc:=F_cc.binds (ps:=["kinds","places","call"]) fun _ _ _ _ _ _ us hl=>by obtain ⟨_,_,_,rfl⟩:=us3 hl;rfl
 have D_cc:Def K mg "check_call" Zcc ["kinds","places","call"] f_cc _:=⟨F_cc,b_cc,PySem.W.mg_of X G a_cc⟩
 have F_wi:=Zaw (st:=Zd6) l_wi c_wi k_wi
 have b_wi:=F_wi.binds (ps:=["kinds","one","other"]) fun _ _ _ _ _ _ us hl=>by obtain ⟨_,_,_,rfl⟩:=us3 hl;rfl
 have D_wi:Def K mg "within" Zd6 ["kinds","one","other"] f_wi _:=⟨F_wi,b_wi,PySem.W.mg_of X G a_wi⟩
 have F_fi:=Zaw (st:=Zdq) l_fi c_fi k_fi
 have b_fi:=F_fi.binds (ps:=["board","call"]) fun _ _ _ _ _ _ us hl=>by obtain ⟨_,_,rfl⟩:=us2 hl;rfl
 have D_fi:Def K mg "fitting" Zdq ["board","call"] f_fi _:=⟨F_fi,b_fi,PySem.W.mg_of X G a_fi⟩
 have F_de:=Zaw (st:=Zb2) l_de c_de k_de
 have b_de:=F_de.binds (ps:=["pot","rows","above","places","most"]) fun _ _ _ _ _ _ us hl=>by obtain ⟨_,_,_,_,_,rfl⟩:=us5 hl;rfl
 have D_de:Def K mg "_law_deeds" Zb2 ["pot","rows","above","places","most"] f_de _:=⟨F_de,b_de,PySem.W.mg_of X G a_de⟩
 have F_lw:=Zaw (st:=Zby) l_lw c_lw k_lw
 have b_lw:=F_lw.binds (ps:=["above","one","other"]) fun _ _ _ _ _ _ us hl=>by obtain ⟨_,_,_,rfl⟩:=us3 hl;rfl
 have D_lw:Def K mg "_law_within" Zby ["above","one","other"] f_lw _:=⟨F_lw,b_lw,PySem.W.mg_of X G a_lw⟩
 have F_nw:=Zaw (st:=Zbf) l_nw c_nw k_nw
 have b_nw:=F_nw.binds (ps:=["kinds","deeds","near","number"]) fun _ _ _ _ _ _ us hl=>by obtain ⟨_,_,_,_,rfl⟩:=us4 hl;rfl
 have D_nw:Def K mg "nearest_with" Zbf ["kinds","deeds","near","number"] f_nw _:=⟨F_nw,b_nw,PySem.W.mg_of X G a_nw⟩
 have F_na:=Zaw (st:=Zbp) l_na c_na k_na
 have b_na:=F_na.binds (ps:=["board","numbers"]) fun _ _ _ _ _ _ us hl=>by obtain ⟨_,_,rfl⟩:=us2 hl;rfl
 have D_na:Def K mg "nearest_among" Zbp ["board","numbers"] f_na _:=⟨F_na,b_na,PySem.W.mg_of X G a_na⟩
 have F_ne:=Zaw (st:=Zd9) l_ne c_ne k_ne
 have b_ne:=F_ne.binds (ps:=["board","call"]) fun _ _ _ _ _ _ us hl=>by obtain ⟨_,_,rfl⟩:=us2 hl;rfl
 have D_ne:Def K mg "nearest" Zd9 ["board","call"] f_ne _:=⟨F_ne,b_ne,PySem.W.mg_of X G a_ne⟩
 have F_to:=Zaw (st:=Zd8) l_to c_to k_to
 have b_to:=F_to.binds (ps:=["near"]) fun _ _ _ _ _ _ us hl=>by obtain ⟨_,rfl⟩:=us1 hl;rfl
 have D_to:Def K mg "told_of" Zd8 ["near"] f_to _:=⟨F_to,b_to,PySem.W.mg_of X G a_to⟩
 have F_td:=Zaw (st:=Zhp) l_td c_td k_td
 have b_td:=F_td.binds (ps:=["board","call"]) fun _ _ _ _ _ _ us hl=>by obtain ⟨_,_,rfl⟩:=us2 hl;rfl
 have D_td:Def K mg "told" Zhp ["board","call"] f_td _:=⟨F_td,b_td,PySem.W.mg_of X G a_td⟩
 have F_oe:=Zaw (st:=Zbx) l_oe c_oe k_oe
 have b_oe:=F_oe.binds (ps:=["rows"]) fun _ _ _ _ _ _ us hl=>by obtain ⟨_,rfl⟩:=us1 hl;rfl
 have D_oe:Def K mg "one_of_each" Zbx ["rows"] f_oe _:=⟨F_oe,b_oe,PySem.W.mg_of X G a_oe⟩
 have F_at:=Zaw (st:=Zdm) l_at c_at k_at
 have b_at:=F_at.binds (ps:=["board"]) fun _ _ _ _ _ _ us hl=>by obtain ⟨_,rfl⟩:=us1 hl;rfl
 have D_at:Def K mg "all_told" Zdm ["board"] f_at _:=⟨F_at,b_at,PySem.W.mg_of X G a_at⟩
 have F_ln:=Zaw (st:=Zbg) l_ln c_ln k_ln
 have b_ln:=F_ln.binds (ps:=["above","deeds","call"]) fun _ _ _ _ _ _ us hl=>by obtain ⟨_,_,_,rfl⟩:=us3 hl;rfl
 have D_ln:Def K mg "_law_nearest" Zbg ["above","deeds","call"] f_ln _:=⟨F_ln,b_ln,PySem.W.mg_of X G a_ln⟩
 have F_lc:=Zaw (st:=Zbq) l_lc c_lc k_lc
 have b_lc:=F_lc.binds (ps:=["words","places"]) fun _ _ _ _ _ _ us hl=>by obtain ⟨_,_,rfl⟩:=us2 hl;rfl
 have D_lc:Def K mg "_law_calls" Zbq ["words","places"] f_lc _:=⟨F_lc,b_lc,PySem.W.mg_of X G a_lc⟩
 have F_lt:=Zaw (st:=Zda) l_lt c_lt k_lt
 have b_lt:=F_lt.binds (ps:=["above","deeds","call"]) fun _ _ _ _ _ _ us hl=>by obtain ⟨_,_,_,rfl⟩:=us3 hl;rfl
 have D_lt:Def K mg "_law_told" Zda ["above","deeds","call"] f_lt _:=⟨F_lt,b_lt,PySem.W.mg_of X G a_lt⟩
 have F_lh:=Zaw (st:=Zce) l_lh c_lh k_lh
 have b_lh:=F_lh.binds (ps:=["rows","above","places","deeds"]) fun _ _ _ _ _ _ us hl=>by obtain ⟨_,_,_,_,rfl⟩:=us4 hl;rfl
 have D_lh:Def K mg "_law_heard" Zce ["rows","above","places","deeds"] f_lh _:=⟨F_lh,b_lh,PySem.W.mg_of X G a_lh⟩
 have F_dr:=Zaw (st:=Zcu) l_dr c_dr k_dr
 have b_dr:=F_dr.binds (ps:=["script","k"]) fun _ _ _ _ _ _ us hl=>by obtain ⟨_,_,rfl⟩:=us2 hl;rfl
 have D_dr:Def K mg "_law_drawn" Zcu ["script","k"] f_dr _:=⟨F_dr,b_dr,PySem.W.mg_of X G a_dr⟩
 have F_ab:=Zaw (st:=Zcy) l_ab c_ab k_ab
 have b_ab:=F_ab.binds (ps:=["words","steps","ends","call"]) fun _ _ _ _ _ _ us hl=>by obtain ⟨_,_,_,_,rfl⟩:=us4 hl;rfl
 have D_ab:Def K mg "answer_by" Zcy ["words","steps","ends","call"] f_ab _:=⟨F_ab,b_ab,PySem.W.mg_of X G a_ab⟩
 have F_bw:=Zaw (st:=Zc8) l_bw c_bw k_bw
 have b_bw:=F_bw.binds (ps:=["kinds","walker","call"]) fun _ _ _ _ _ _ us hl=>by obtain ⟨_,_,_,rfl⟩:=us3 hl;rfl
 have D_bw:Def K mg "by_walker" Zc8 ["kinds","walker","call"] f_bw _:=⟨F_bw,b_bw,PySem.W.mg_of X G a_bw⟩
 have F_iw:=Zaw (st:=Zcx) l_iw c_iw k_iw
 have b_iw:=F_iw.binds (ps:=["board","walker"]) fun _ _ _ _ _ _ us hl=>by obtain ⟨_,_,rfl⟩:=us2 hl;rfl
 have D_iw:Def K mg "is_walker" Zcx ["board","walker"] f_iw _:=⟨F_iw,b_iw,PySem.W.mg_of X G a_iw⟩
 have F_st:=Zaw (st:=Zbz) l_st c_st k_st
 have b_st:=F_st.binds (ps:=["words","places","heard","many"]) fun _ _ _ _ _ _ us hl=>by obtain ⟨_,_,_,_,rfl⟩:=us4 hl;rfl
 have D_st:Def K mg "_law_states" Zbz ["words","places","heard","many"] f_st _:=⟨F_st,b_st,PySem.W.mg_of X G a_st⟩
 have F_lk:=Zaw (st:=Zbi) l_lk c_lk k_lk
 have b_lk:=F_lk.binds (ps:=["words","places","heard"]) fun _ _ _ _ _ _ us hl=>by obtain ⟨_,_,_,rfl⟩:=us3 hl;rfl
 have D_lk:Def K mg "_law_walker" Zbi ["words","places","heard"] f_lk _:=⟨F_lk,b_lk,PySem.W.mg_of X G a_lk⟩
 have F_wd:=Zaw (st:=Zbl) l_wd c_wd k_wd
 have b_wd:=F_wd.binds (ps:=["words","places","heard"]) fun _ _ _ _ _ _ us hl=>by obtain ⟨_,_,_,rfl⟩:=us3 hl;rfl
 have D_wd:Def K mg "_law_wide" Zbl ["words","places","heard"] f_wd _:=⟨F_wd,b_wd,PySem.W.mg_of X G a_wd⟩
 have F_oa:=Zaw (st:=Zax) l_oa c_oa k_oa
 have b_oa:=F_oa.binds (ps:=["pot","steps","ends"]) fun _ _ _ _ _ _ us hl=>by obtain ⟨_,_,_,rfl⟩:=us3 hl;rfl
 have D_oa:Def K mg "_law_one_ahead" Zax ["pot","steps","ends"] f_oa _:=⟨F_oa,b_oa,PySem.W.mg_of X G a_oa⟩
 have F_ss:=Zaw (st:=Za1) l_ss c_ss k_ss
 have b_ss:=F_ss.binds (ps:=["pot","steps"]) fun _ _ _ _ _ _ us hl=>by obtain ⟨_,_,rfl⟩:=us2 hl;rfl
 have D_ss:Def K mg "_law_spoilt_steps" Za1 ["pot","steps"] f_ss _:=⟨F_ss,b_ss,PySem.W.mg_of X G a_ss⟩
 have F_sp:=Zaw (st:=Zcd) l_sp c_sp k_sp
 have b_sp:=F_sp.binds (ps:=["pot","steps","ends"]) fun _ _ _ _ _ _ us hl=>by obtain ⟨_,_,_,rfl⟩:=us3 hl;rfl
 have D_sp:Def K mg "_law_spoilt" Zcd ["pot","steps","ends"] f_sp _:=⟨F_sp,b_sp,PySem.W.mg_of X G a_sp⟩
 have F_an:=Zaw (st:=Zcf) l_an c_an k_an
 have b_an:=F_an.binds (ps:=["words","steps","ends","call"]) fun _ _ _ _ _ _ us hl=>by obtain ⟨_,_,_,_,rfl⟩:=us4 hl;rfl
 have D_an:Def K mg "_law_answer" Zcf ["words","steps","ends","call"] f_an _:=⟨F_an,b_an,PySem.W.mg_of X G a_an⟩
 have F_L:=Zaw (st:=Zgm) l_L c_L k_L
 have b_L:=F_L.binds (ps:=["script"]) fun _ _ _ _ _ _ us hl=>by obtain ⟨_,rfl⟩:=us1 hl;rfl
 have D_L:Def K mg "law" Zgm ["script"] fa _:=⟨F_L,b_L,PySem.W.mg_of X G a_L⟩
 have TK:Zyv mg:=⟨⟨_,mgC_LETTERS⟩,⟨_,mgC_MOST_LETTERS⟩,⟨_,mgC_MOST_KINDS⟩,⟨_,mgC_MOST_UPS⟩,mgN_len,mgN_all,mgN_list,mgN_tuple⟩
 have TR:Z3u mg:=⟨mgN_range,mgN_int,mgN_len,mgN_tuple,mgN_list⟩
 have TC:Zmz K C:=⟨⟨pg,hd,po,sa⟩,n_ups_of,n_above_of⟩
 have TBd:Zi8 K B:=⟨⟨pg_B,hd_B,po_B,sa_B⟩,n_book_B,n_width_B,n_stands_B⟩
 have TBm:Zyn mg:=⟨⟨_,mgC_MOST_PLACES⟩,⟨_,mgC_MOST_DEEDS⟩,mgN_len,mgN_all,mgN_tuple,mgN_list,mgN_enumerate⟩
 have hBC:B≠C:=fun z=>by rw [z,a_mH] at n_has_B;cases n_has_B
 have TS:Z2m mg:=⟨⟨_,mgC_MOST_CALLS⟩,mgN_len,mgN_range,mgN_list⟩
 exact ⟨PySem.W.fnOf "law" "law" (Zao Zgm) (Zai Zgm) (Zab Zgm) .none kV_L dc_L pm_L an_L cd_L ct_L,fun s v=>.of_eq rfl,fun base _ _=>have GW:=Zl0 (P:=l.prog) (w:=w) (base:=base) D_wi mgN_zip TC M_mUn M_mC M_mH;have GF:=Zp6 (P:=l.prog) (w:=w) (base:=base) D_fi TBm mgN_zip TC TBd M_bK M_bP M_bD D_cc D_wi D_ic M_mUn M_mC M_mH;have GA:=Zki D_na mgN_list mgN_any TBd M_bK M_bD D_nw D_wi GW;have GN:=Zp2 D_ne D_na GA D_fi GF;have GTd:=Zxo D_td D_ne GN D_to mgN_len;have GB:=Zu7 (P:=l.prog) (w:=w) (base:=base) F_bI TBm TBd TC D_cd D_ic M_mH hBC;have GLW:=Zp3 (P:=l.prog) (w:=w) (base:=base) D_lw ⟨mgN_all,mgN_zip⟩;have GI:=Zxr (P:=l.prog) (w:=w) (base:=base) F_mI TK TC D_cr D_w D_cu D_fr D_en D_fa D_aa;have GR:=Zuy (P:=l.prog) (w:=w) (base:=base) D_R D_T D_U D_Ws D_W D_Le TR;have GP:=Zz1 (P:=l.prog) (w:=w) (base:=base) D_P mgN_len;have GT:=Ziq (P:=l.prog) (w:=w) (base:=base) D_T;have GLA:=Zsp (P:=l.prog) (w:=w) (base:=base) D_A mgN_len;have GDe:=Zsr (P:=l.prog) (w:=w) (base:=base) D_de D_T ⟨mgN_len,mgN_range,mgN_tuple⟩;have GLN:=Zni (P:=l.prog) (w:=w) (base:=base) D_ln ⟨mgN_len,mgN_range,mgN_any⟩ D_lw GLW;have GCa:=Zu6 (P:=l.prog) (w:=w) (base:=base) M_bC.fn TS TBd TC M_mW M_bS D_oe;have GAT:=Znj D_at TBd M_bC GCa D_td GTd;have GLC:=Zso (P:=l.prog) (w:=w) (base:=base) D_lc mgN_range;have GLT:=Zu1 D_lt mgN_len D_ln GLN;have GCk:=Zg0 (P:=l.prog) (w:=w) (base:=base) D_cc D_ic mgN_len mgN_all TC M_mH;have GAb:=Zsu (P:=l.prog) (w:=w) (base:=base) D_ab mgN_len mgN_zip;have GSt:=Zsk (P:=l.prog) (w:=w) (base:=base) D_st D_lc GLC;Zz2 D_L ⟨mgN_range,mgN_len,mgN_list,mgN_isinstance,mgN_bool⟩ M mgC b_mI GI M_B mgB b_bI GB D_T GT D_dr (Zu3 D_dr D_R GR D_P GP D_T GT D_A GLA D_de GDe) D_lh (Zsn D_lh D_lc GLC D_lt GLT) D_lk (Zu0 D_lk mgN_range D_st GSt) D_wd (Zuz D_wd mgN_range mgN_len D_lc GLC) D_sp (Zsl D_sp mgN_len D_T GT D_oa (Zu8 D_oa mgN_len D_T GT) D_ss (Zir D_ss mgN_len mgN_list D_T GT)) D_an (Zp5 (P:=l.prog) (w:=w) (base:=base) D_an mgN_len mgN_zip) D_bw (Zl4 D_bw mgN_len mgN_list TC M_mW D_cc GCk D_ab GAb) D_iw (Zl2 D_iw mgN_len mgN_list mgN_all TBd TC M_bK M_bP M_mW D_at GAT D_ab GAb)⟩
theorem walk {l:PySem.W.OpenLaw}{q:Program}{loose:List Str}{XP:(Str→Option Value)→Heap→Prop}{YP:World→Heap→Prop}{d:DefRec}{K:Params→PySem.W.Frag}(hn:l.most=some 63) (hdf:d.params.defaults=[])
  (hY:∀ (w:World) (h:Heap),YP w h→(K w.params).In h)
  (F:∀ (w:World) (mg:Str→Option Value) (fa:Addr) (h:Heap),(K w.params).In h→h.Ns mainGlobals mg→mg d.name=some (.ref fa) →
   ∃ fd:FuncData,(∀ (s:Shared) (u:Value),BindsTo s fd ⟨[u],[]⟩ [("script",u)])∧∀ base:Heap,(K w.params).In base→base.Ns mainGlobals mg→Za3 l.prog w (K w.params) mg base CX0 11 fa fd ["script"] (Zug (K w.params))):
  PySem.W.WalkO q loose XP YP l.row.toRowW d [] (fun f vs=>PySem.call f vs):=
 L2.walk_of (n:=63) (k:=11) (x:="script") (CX:=fun _=>CX0) (sp:=fun w=>Zug (K w.params)) hn (by decide) hdf ⟨rfl,by decide,by decide,rfl⟩ hY F (fun _ _ a ns hl _ hS=>⟨a,ns,rfl,hS,hl,fun _=>rfl⟩) fun _ _ _ _ _ z=>z
end K46
def PySem.W.Fast.tw12608052049631503474:Nat:=0
def PySem.W.Fast.tw9076322679061760016:Nat:=0
def PySem.W.Fast.tw3464583693152270634:Nat:=0
def PySem.W.Fast.tw9787196957857344834:Nat:=0
def PySem.W.Fast.tw3679762011350201262:Nat:=0
def PySem.W.Fast.tw8560715385612042229:Nat:=0
def PySem.W.Fast.tw15894393557373129508:Nat:=0
def PySem.W.Fast.tw10273892920451878807:Nat:=0
def PySem.W.Fast.tw7233244643336900671:Nat:=0
def PySem.W.Fast.tw6584996591128216051:Nat:=0
def PySem.W.Fast.tw14833035976946360768:Nat:=0
def PySem.W.Fast.tw15343394053443238950:Nat:=0
def PySem.W.Fast.tw3294731386549235600:Nat:=0
def PySem.W.Fast.tw11156343258179745236:Nat:=0
def PySem.W.Fast.tw14905348396649706119:Nat:=0
def PySem.W.Fast.tw10551240110156678523:Nat:=0
def PySem.W.Fast.tw6397409777342704279:Nat:=0
def PySem.W.Fast.tw6167825081902273014:Nat:=0
def PySem.W.Fast.tw13275540684684094338:Nat:=0
def PySem.W.Fast.tw14626906169764224489:Nat:=0
def PySem.W.Fast.tw7557526287849524314:Nat:=0
def PySem.W.Fast.tw15793272316900446828:Nat:=0
def PySem.W.Fast.tw677253934265314620:Nat:=0
def PySem.W.Fast.tw5764348797883303462:Nat:=0
def PySem.W.Fast.tw8787655622883950576:Nat:=0
def PySem.W.Fast.tw632397209671477561:Nat:=0
def PySem.W.Fast.tw4540199941770781204:Nat:=0
def PySem.W.Fast.tw11009813923822686977:Nat:=0
def PySem.W.Fast.tw6947541202927773521:Nat:=0
def PySem.W.Fast.tw8218514726929787490:Nat:=0
open PySem PySem.W PyProof.Rows
set_option maxRecDepth 100000 in
set_option maxHeartbeats 0 in
theorem PySem.Challenge.cw_manydeeds_k46_walkers_judged_holds : PySem.Challenge.rw_manydeeds_k46_walkers_judged.Holds := by
 w_on;o_law;k_head;(case hw=>w_witness2)
 k_fill
 refine K46.walk (l:=PySem.Challenge.rw_manydeeds_k46_walkers_judged) rfl rfl (fun w h Y=>PySem.W.kIn_of Y) ?F
 case F =>
  intro w mg fa h KX G hmg
  refine' K46.all_mk KX G hmg ?aC ?aB ?a_mI ?i_mI ?l_mI ?c_mI ?k_mI ?a_mH ?i_mH ?l_mH ?c_mH ?k_mH ?a_mC ?i_mC ?l_mC ?c_mC ?k_mC ?a_mUn ?i_mUn ?l_mUn ?c_mUn ?k_mUn ?a_mW ?i_mW ?l_mW ?c_mW ?k_mW ?a_bI ?i_bI ?l_bI ?c_bI ?k_bI ?a_bK ?i_bK ?l_bK ?c_bK ?k_bK ?a_bP ?i_bP ?l_bP ?c_bP ?k_bP ?a_bD ?i_bD ?l_bD ?c_bD ?k_bD ?a_bC ?i_bC ?l_bC ?c_bC ?k_bC ?a_bS ?i_bS ?l_bS ?c_bS ?k_bS ?a_w ?l_w ?c_w ?k_w ?a_cr ?l_cr ?c_cr ?k_cr ?a_cu ?l_cu ?c_cu ?k_cu ?a_fa ?l_fa ?c_fa ?k_fa ?a_en ?l_en ?c_en ?k_en ?a_fr ?l_fr ?c_fr ?k_fr ?a_aa ?l_aa ?c_aa ?k_aa ?a_P ?l_P ?c_P ?k_P ?a_T ?l_T ?c_T ?k_T ?a_Le ?l_Le ?c_Le ?k_Le ?a_W ?l_W ?c_W ?k_W ?a_Ws ?l_Ws ?c_Ws ?k_Ws ?a_U ?l_U ?c_U ?k_U ?a_R ?l_R ?c_R ?k_R ?a_A ?l_A ?c_A ?k_A ?a_ic ?l_ic ?c_ic ?k_ic ?a_cd ?l_cd ?c_cd ?k_cd ?a_cc ?l_cc ?c_cc ?k_cc ?a_wi ?l_wi ?c_wi ?k_wi ?a_fi ?l_fi ?c_fi ?k_fi ?a_de ?l_de ?c_de ?k_de ?a_lw ?l_lw ?c_lw ?k_lw ?a_nw ?l_nw ?c_nw ?k_nw ?a_na ?l_na ?c_na ?k_na ?a_ne ?l_ne ?c_ne ?k_ne ?a_to ?l_to ?c_to ?k_to ?a_td ?l_td ?c_td ?k_td ?a_oe ?l_oe ?c_oe ?k_oe ?a_at ?l_at ?c_at ?k_at ?a_ln ?l_ln ?c_ln ?k_ln ?a_lc ?l_lc ?c_lc ?k_lc ?a_lt ?l_lt ?c_lt ?k_lt ?a_lh ?l_lh ?c_lh ?k_lh ?a_dr ?l_dr ?c_dr ?k_dr ?a_ab ?l_ab ?c_ab ?k_ab ?a_bw ?l_bw ?c_bw ?k_bw ?a_iw ?l_iw ?c_iw ?k_iw ?a_st ?l_st ?c_st ?k_st ?a_lk ?l_lk ?c_lk ?k_lk ?a_wd ?l_wd ?c_wd ?k_wd ?a_oa ?l_oa ?c_oa ?k_oa ?a_ss ?l_ss ?c_ss ?k_ss ?a_sp ?l_sp ?c_sp ?k_sp ?a_an ?l_an ?c_an ?k_an ?a_L ?l_L ?c_L ?k_L ?pg ?hd ?po ?sa ?mk ?kc ?n_ups_of ?n_above_of ?pg_B ?hd_B ?po_B ?sa_B ?mk_B ?kc_B ?n_book_B ?n_width_B ?n_stands_B ?n_has_B ?g_LETTERS ?g_MOST_LETTERS ?g_MOST_KINDS ?g_MOST_UPS ?g_MOST_PLACES ?g_MOST_DEEDS ?g_MOST_CALLS ?z_len ?z_all ?z_list ?z_tuple ?z_range ?z_int ?z_isinstance ?z_zip ?z_enumerate ?z_any ?z_bool
  (case aC=>k_is)
  (case aB=>k_is)
  (case a_mI=>k_is)
  (case i_mI=>k_is)
  (case l_mI=>k_is)
  (case c_mI=>k_is)
  (case k_mI=>k_is)
  (case a_mH=>k_is)
  (case i_mH=>k_is)
  (case l_mH=>k_is)
  (case c_mH=>k_is)
  (case k_mH=>k_is)
  (case a_mC=>k_is)
  (case i_mC=>k_is)
  (case l_mC=>k_is)
  (case c_mC=>k_is)
  (case k_mC=>k_is)
  (case a_mUn=>k_is)
  (case i_mUn=>k_is)
  (case l_mUn=>k_is)
  (case c_mUn=>k_is)
  (case k_mUn=>k_is)
  (case a_mW=>k_is)
  (case i_mW=>k_is)
  (case l_mW=>k_is)
  (case c_mW=>k_is)
  (case k_mW=>k_is)
  (case a_bI=>k_is)
  (case i_bI=>k_is)
  (case l_bI=>k_is)
  (case c_bI=>k_is)
  (case k_bI=>k_is)
  (case a_bK=>k_is)
  (case i_bK=>k_is)
  (case l_bK=>k_is)
  (case c_bK=>k_is)
  (case k_bK=>k_is)
  (case a_bP=>k_is)
  (case i_bP=>k_is)
  (case l_bP=>k_is)
  (case c_bP=>k_is)
  (case k_bP=>k_is)
  (case a_bD=>k_is)
  (case i_bD=>k_is)
  (case l_bD=>k_is)
  (case c_bD=>k_is)
  (case k_bD=>k_is)
  (case a_bC=>k_is)
  (case i_bC=>k_is)
  (case l_bC=>k_is)
  (case c_bC=>k_is)
  (case k_bC=>k_is)
  (case a_bS=>k_is)
  (case i_bS=>k_is)
  (case l_bS=>k_is)
  (case c_bS=>k_is)
  (case k_bS=>k_is)
  (case a_w=>k_is)
  (case l_w=>k_is)
  (case c_w=>k_is)
  (case k_w=>k_is)
  (case a_cr=>k_is)
  (case l_cr=>k_is)
  (case c_cr=>k_is)
  (case k_cr=>k_is)
  (case a_cu=>k_is)
  (case l_cu=>k_is)
  (case c_cu=>k_is)
  (case k_cu=>k_is)
  (case a_fa=>k_is)
  (case l_fa=>k_is)
  (case c_fa=>k_is)
  (case k_fa=>k_is)
  (case a_en=>k_is)
  (case l_en=>k_is)
  (case c_en=>k_is)
  (case k_en=>k_is)
  (case a_fr=>k_is)
  (case l_fr=>k_is)
  (case c_fr=>k_is)
  (case k_fr=>k_is)
  (case a_aa=>k_is)
  (case l_aa=>k_is)
  (case c_aa=>k_is)
  (case k_aa=>k_is)
  (case a_P=>k_is)
  (case l_P=>k_is)
  (case c_P=>k_is)
  (case k_P=>k_is)
  (case a_T=>k_is)
  (case l_T=>k_is)
  (case c_T=>k_is)
  (case k_T=>k_is)
  (case a_Le=>k_is)
  (case l_Le=>k_is)
  (case c_Le=>k_is)
  (case k_Le=>k_is)
  (case a_W=>k_is)
  (case l_W=>k_is)
  (case c_W=>k_is)
  (case k_W=>k_is)
  (case a_Ws=>k_is)
  (case l_Ws=>k_is)
  (case c_Ws=>k_is)
  (case k_Ws=>k_is)
  (case a_U=>k_is)
  (case l_U=>k_is)
  (case c_U=>k_is)
  (case k_U=>k_is)
  (case a_R=>k_is)
  (case l_R=>k_is)
  (case c_R=>k_is)
  (case k_R=>k_is)
  (case a_A=>k_is)
  (case l_A=>k_is)
  (case c_A=>k_is)
  (case k_A=>k_is)
  (case a_ic=>k_is)
  (case l_ic=>k_is)
  (case c_ic=>k_is)
  (case k_ic=>k_is)
  (case a_cd=>k_is)
  (case l_cd=>k_is)
  (case c_cd=>k_is)
  (case k_cd=>k_is)
  (case a_cc=>k_is)
  (case l_cc=>k_is)
  (case c_cc=>k_is)
  (case k_cc=>k_is)
  (case a_wi=>k_is)
  (case l_wi=>k_is)
  (case c_wi=>k_is)
  (case k_wi=>k_is)
  (case a_fi=>k_is)
  (case l_fi=>k_is)
  (case c_fi=>k_is)
  (case k_fi=>k_is)
  (case a_de=>k_is)
  (case l_de=>k_is)
  (case c_de=>k_is)
  (case k_de=>k_is)
  (case a_lw=>k_is)
  (case l_lw=>k_is)
  (case c_lw=>k_is)
  (case k_lw=>k_is)
  (case a_nw=>k_is)
  (case l_nw=>k_is)
  (case c_nw=>k_is)
  (case k_nw=>k_is)
  (case a_na=>k_is)
  (case l_na=>k_is)
  (case c_na=>k_is)
  (case k_na=>k_is)
  (case a_ne=>k_is)
  (case l_ne=>k_is)
  (case c_ne=>k_is)
  (case k_ne=>k_is)
  (case a_to=>k_is)
  (case l_to=>k_is)
  (case c_to=>k_is)
  (case k_to=>k_is)
  (case a_td=>k_is)
  (case l_td=>k_is)
  (case c_td=>k_is)
  (case k_td=>k_is)
  (case a_oe=>k_is)
  (case l_oe=>k_is)
  (case c_oe=>k_is)
  (case k_oe=>k_is)
  (case a_at=>k_is)
  (case l_at=>k_is)
  (case c_at=>k_is)
  (case k_at=>k_is)
  (case a_ln=>k_is)
  (case l_ln=>k_is)
  (case c_ln=>k_is)
  (case k_ln=>k_is)
  (case a_lc=>k_is)
  (case l_lc=>k_is)
  (case c_lc=>k_is)
  (case k_lc=>k_is)
  (case a_lt=>k_is)
  (case l_lt=>k_is)
  (case c_lt=>k_is)
  (case k_lt=>k_is)
  (case a_lh=>k_is)
  (case l_lh=>k_is)
  (case c_lh=>k_is)
  (case k_lh=>k_is)
  (case a_dr=>k_is)
  (case l_dr=>k_is)
  (case c_dr=>k_is)
  (case k_dr=>k_is)
  (case a_ab=>k_is)
  (case l_ab=>k_is)
  (case c_ab=>k_is)
  (case k_ab=>k_is)
  (case a_bw=>k_is)
  (case l_bw=>k_is)
  (case c_bw=>k_is)
  (case k_bw=>k_is)
  (case a_iw=>k_is)
  (case l_iw=>k_is)
  (case c_iw=>k_is)
  (case k_iw=>k_is)
  (case a_st=>k_is)
  (case l_st=>k_is)
  (case c_st=>k_is)
  (case k_st=>k_is)
  (case a_lk=>k_is)
  (case l_lk=>k_is)
  (case c_lk=>k_is)
  (case k_lk=>k_is)
  (case a_wd=>k_is)
  (case l_wd=>k_is)
  (case c_wd=>k_is)
  (case k_wd=>k_is)
  (case a_oa=>k_is)
  (case l_oa=>k_is)
  (case c_oa=>k_is)
  (case k_oa=>k_is)
  (case a_ss=>k_is)
  (case l_ss=>k_is)
  (case c_ss=>k_is)
  (case k_ss=>k_is)
  (case a_sp=>k_is)
  (case l_sp=>k_is)
  (case c_sp=>k_is)
  (case k_sp=>k_is)
  (case a_an=>k_is)
  (case l_an=>k_is)
  (case c_an=>k_is)
  (case k_an=>k_is)
  (case a_L=>k_is)
  (case l_L=>k_is)
  (case c_L=>k_is)
  (case k_L=>k_is)
  (case pg=>k_is)
  (case hd=>k_is)
  (case po=>k_is)
  (case sa=>k_is)
  (case mk=>k_is)
  (case kc=>k_is)
  (case n_ups_of=>k_is)
  (case n_above_of=>k_is)
  (case pg_B=>k_is)
  (case hd_B=>k_is)
  (case po_B=>k_is)
  (case sa_B=>k_is)
  (case mk_B=>k_is)
  (case kc_B=>k_is)
  (case n_book_B=>k_is)
  (case n_width_B=>k_is)
  (case n_stands_B=>k_is)
  (case n_has_B=>k_is)
  (case g_LETTERS=>k_is)
  (case g_MOST_LETTERS=>k_is)
  (case g_MOST_KINDS=>k_is)
  (case g_MOST_UPS=>k_is)
  (case g_MOST_PLACES=>k_is)
  (case g_MOST_DEEDS=>k_is)
  (case g_MOST_CALLS=>k_is)
  (case z_len=>k_is)
  (case z_all=>k_is)
  (case z_list=>k_is)
  (case z_tuple=>k_is)
  (case z_range=>k_is)
  (case z_int=>k_is)
  (case z_isinstance=>k_is)
  (case z_zip=>k_is)
  (case z_enumerate=>k_is)
  (case z_any=>k_is)
  (case z_bool=>k_is)
